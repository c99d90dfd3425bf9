import PyProof.Rows.All
import Wide.All
import OpenK.AllK
import Wide.FinOn
import Lean
import PyProof.EqAt
import PyProof.EqKinds
import PyProof.TupleCall
import PyProof.NeKinds
import PyProof.EnumMake
import PyProof.Draws
import PyProof.P3Eq
import PyProof.NeData
import PyProof.ReprRoads
import PyProof.CallFns
import PyProof.SliceSyntax
import PyProof.AutoIntG2
import PyProof.SumWalk
import PyProof.ConsumeWalk
import PyProof.Rows.TupIter
import PyProof.DictRoadsH
import PyProof.DictWalks
import KE.KDictList
import KE.KSortTup
import KE.KDictLaws
import PyProof.TupleOfSeq
import PyProof.ListRange
import KE.KNest
import PySem.Challenge.RW_contactnets_k22_ways_and_bars_looked_at
set_option Elab.async false
set_option linter.all false
set_option genSizeOf false
set_option maxRecDepth 100000
set_option maxHeartbeats 1000000
open List renaming getElem?_append_right→qA0,getElem?_eq_some_iff→qA4,getElem?_eq_getElem→qA5,length_map→qA6,getElem?_append_left→qA7,mem_singleton→qA8,size_toArray→qB0,length_append→qB1,mem_append→qB4,mem_cons→qB6,getElem?_map→qB7,append_assoc→qB8,map_cons→qB9,mem_of_getElem?→qC0,pairwise_append→qC2,length_cons→qC3,mem_cons_of_mem→qC7,all_eq_true→qC8,mem_map→qC9,mem_append_right→qD0,take_append_drop→qD1,getElem?_toArray→qD2,lookup_cons→qD3,mem_cons_self→qD4,mem_filter→qD5,getElem?_cons_succ→qD6,length_filter_le→qD7,getElem_mem→qD8,getElem?_set_self→qD9,getElem?_set_ne→qE1,map_map→qE2,take_of_length_le→qE3,length_singleton→qE4,pairwise_singleton→qE5,mem_of_mem_take→qE6,pairwise_cons→qE7,map_append→qE8,length_eq_zero_iff→qF1,mem_append_left→qF2,length_nil→qF3,not_mem_nil→qF4,filter_cons→qF5,drop_eq_getElem_cons→qF6,getElem?_zip_eq_some→qF7,mapM_cons→qF8,mem_singleton_self→qG1,mem_of_mem_drop→qG2,mem_range→qG3,take_sublist→qG4,nodup_append→qG7,filterMap_cons→qG8,find?_cons→qG9,perm_append_comm→qH0,length_take→qH1,cons_append→qH2,any_cons→qH4,mem_iff_getElem→qH5,drop_sublist→qH7,dropLast_concat_getLast→qH9,map_congr_left→qI0,length_drop→qI2,mem_reverse→qI3,mem_filterMap→qI4,length_replicate→qI5,append_nil→qI6,range'→qI9,getElem?_range→qJ0,filter_sublist→qJ1,getElem?_replicate→qJ2,zip_cons_cons→qJ4,map_nil→qJ5,filter_eq_nil_iff→qJ7,all_cons→qJ8,pairwise_reverse→qK0,pairwise_map→qK1,getD_eq_getElem?_getD→qK2,take_length→qK3,map_eq_nil_iff→qK5,map_inj_right→qK9,replicate→qL2,range_succ_eq_map→qL4,all_map→qL5,reverse_cons→qL6,getElem_drop→qL7,pairwise_of_forall_mem_list→qL8,getElem?_eq_none→qL9,getD→qM1,drop_length→qM3,length→qM4,take_append_of_le_length→qM6,getElem?_of_mem→qM7,nodup_cons→qM9,length_set→qN0,flatMap_append→qN2,drop_zero→qN7,filterMap_nil→qN8,pairwise_iff_getElem→qN9,length_range→qO2,take_add_one→qO3,mapM_toArray→qO4,flatMap_cons→qO5,filter_congr→qO6,length_filterMap_le→qO7,map_snd_zip→qO9,getLast?_singleton→qP1,any_map→qP2,pairwise_lt_range→qP3,drop_of_length_le→qP4,flatMap_singleton→qP6,of_mem_zip→qP7,length_zip→qP9,filterMap_append→qQ0,getElem?_reverse→qQ1,dropLast_eq_take→qQ2,nodup_nil→qQ3,drop_drop→qQ4,range_eq_range'→qQ5,getLast?_append→qQ6,length_reverse→qQ8,getElem_of_mem→qQ9,reverse_append→qR0,filter_eq_self→qR1,length_take_le→qR2,zip_nil_right→qR4,findIdx?_cons→qR7,map_singleton→qR8,zip_nil_left→qR9,zipIdx_cons→qS3,all_toArray→qS4,isEmpty_map→qS6,any_eq_true→qS9,range'_succ→qT0,forIn_cons→qT4,foldl_cons→qT7,drop_left'→qT8,forIn_nil→qU1,map→qU2,map_drop→qU3,sum_cons→qU4
open Option renaming map_eq_some_iff→qA1,bind_eq_some_iff→qA2,isSome_iff_exists→qE9,isSome_some→qN6,isSome_map→qO0,map_some→qP8,getD_none→qS1
open Nat renaming le_refl→qA9,lt_of_lt_of_le→qC1,ne_of_lt→qC4,le_trans→qC5,zero_le→qG0,lt_succ_of_lt→qG6,le_of_lt→qH3,lt_irrefl→qI1,sub_self→qI7,pow_le_pow_right→qI8,ne_of_gt→qJ3,lt_of_le_of_lt→qK7,one_le_two_pow→qK8,add_sub_cancel_left→qL0,lt_succ_self→qM0,le_add_right→qM2,min_eq_left→qN1,pow_le_pow_left→qN3,zero_add→qN4,le_succ→qO1,le_of_not_lt→qO8,min_eq_right→qP0,lt_or_eq_of_le→qR5,add_sub_cancel→qR6,succ_ne_self→qS2,succ_le_succ→qS7,add_mul→qT1,one_mul→qT2,mul_pow→qT3,le_antisymm→qT5,not_lt_zero→qT6
open Bool renaming false_ne_true→qB2,and_eq_true→qC6,false_eq_true→qE0,or_eq_true→qF9,not_eq_true'→qH8,false_and→qL1,eq_iff_iff→qM8,true_and→qR3,not_eq_true→qS8
open Int renaming toNat_natCast→qH6,emod_lt_of_pos→qJ6,emod_nonneg→qK6,fdiv_eq_ediv_of_nonneg→qN5,le_trans→qP5,toNat→qQ7,le_antisymm→qT9
open PySem.Heap renaming get?_push_of_some→qA3,get?_push_size→qB3,lt_size→qB5,SameBut→qF0,size_push→qG5,get?_update_self→qJ9,IsTuple→qK4,get?_update_other→qL3,IsList→qM5,get?_push_ne→qS0,size_update→qS5,IsSliceOf→qU0
abbrev yA:=List Int
abbrev yB:=List PySem.Value
abbrev yC:=List PySem.Addr
abbrev yD:=List (PySem.Addr × PySem.Obj)
abbrev yE:=List PySem.Expr
abbrev yF:=Option PySem.Value
abbrev yG:=Option Int
abbrev yH:=List PySem.Str
abbrev yI:=List PyProof.Rows.Keyed
abbrev yJ:=Array PySem.Value
abbrev yK:=Option Nat
abbrev yL:=PySem.Value→PySem.Shared→Prop
namespace L2
open PySem PySem.Spec PyProof.Rows
noncomputable abbrev Key:=Sum Int Str
noncomputable def zJl:Key→Value→Bool
 | .inl k,v=>Value.isInt k v
 | .inr x,v=>Value.isStrOf x v
noncomputable def keyH (w:World):Key→Int
 | .inl k=>hashInt k
 | .inr x=>hashStr w x
theorem zAu:∀ {k:Key}{v:Value},zJl k v=true→(∃ i t,k=Sum.inl i∧v=Value.int i t)∨(∃ x t,k=Sum.inr x∧v=Value.str x t)
 | .inl i,v,h=>by
  obtain ⟨t,e⟩:=Value.isInt_shape (k:=i) (v:=v) h
  exact .inl ⟨i,t,rfl,e⟩
 | .inr x,v,h=>by
  obtain ⟨t,e⟩:=Value.isStrOf_shape (x:=x) (v:=v) h
  exact .inr ⟨x,t,rfl,e⟩
theorem zML (i:Int) (t:Tok):zJl (.inl i) (.int i t)=true:=by simp [zJl,Value.isInt]
theorem zMK (x:Str) (t:Tok):zJl (.inr x) (.str x t)=true:=by simp [zJl,Value.isStrOf]
theorem zU6 (a b:Int):decide ((Sum.inl a:Key)=Sum.inl b)=(a == b):=by
 by_cases e:a=b
 ·subst e; simp
 ·have h:¬ (Sum.inl a:Key)=Sum.inl b:=fun q=>e (Sum.inl.inj q)
  rw [decide_eq_false h]
  exact (beq_eq_false_iff_ne.mpr e).symm
theorem zU3 (a b:Str):decide ((Sum.inr a:Key)=Sum.inr b)=decide (a=b):=by
 by_cases e:a=b
 ·subst e; simp
 ·have h:¬ (Sum.inr a:Key)=Sum.inr b:=fun q=>e (Sum.inr.inj q)
  rw [decide_eq_false h,decide_eq_false e]
theorem zU5 (a:Int) (b:Str):decide ((Sum.inl a:Key)=Sum.inr b)=false:=decide_eq_false (fun q=>nomatch q)
theorem zU4 (a:Str) (b:Int):decide ((Sum.inr a:Key)=Sum.inl b)=false:=decide_eq_false (fun q=>nomatch q)
noncomputable def zAr (prog:Program) (w:World):PySem.KeyKind prog w Key where
 is:=zJl
 hash:=keyH w
 inj:=fun v a b ha hb=>by
  rcases zAu ha with ⟨i,t,rfl,rfl⟩ | ⟨x,t,rfl,rfl⟩
  ·rcases zAu hb with ⟨j,u,rfl,e⟩ | ⟨y,u,rfl,e⟩
   ·injection e with e1 _; rw [e1]
   ·exact nomatch e
  ·rcases zAu hb with ⟨j,u,rfl,e⟩ | ⟨y,u,rfl,e⟩
   ·exact nomatch e
   ·injection e with e1 _; rw [e1]
 byValue:=fun k v h=>by
  rcases zAu h with ⟨i,t,rfl,rfl⟩ | ⟨x,t,rfl,rfl⟩ <;> rfl
 pyHash:=fun hv h=>by
  rcases zAu hv with ⟨i,t,rfl,rfl⟩ | ⟨x,t,rfl,rfl⟩
  ·exact wpAny_pyHash_int h
  ·exact wpAny_pyHash_str h
 eqBool:=fun hu hv h=>by
  rcases zAu hu with ⟨i,t,rfl,rfl⟩ | ⟨x,t,rfl,rfl⟩
  ·rcases zAu hv with ⟨j,u,rfl,rfl⟩ | ⟨y,u,rfl,rfl⟩
   ·rw [zU6] at h; exact wpAny_eqBool_int h
   ·rw [zU5] at h; exact SeqAt.EqAt.int_str i t y u _ _ _ _ h
  ·rcases zAu hv with ⟨j,u,rfl,rfl⟩ | ⟨y,u,rfl,rfl⟩
   ·rw [zU4] at h; exact SeqAt.EqAt.str_int x t j u _ _ _ _ h
   ·rw [zU3] at h; exact wpAny_eqBool_str h
 «strs»:=fun k x t v h=>by
  rcases zAu h with ⟨i,u,rfl,e⟩ | ⟨y,u,rfl,e⟩
  ·exact nomatch e
  ·injection e with e1 _
   subst e1
   cases v <;> rfl
theorem zJg (prog:Program) (w:World) (i:Int) (t:Tok):(zAr prog w).is (.inl i) (.int i t)=true:=zML i t
theorem zJf (prog:Program) (w:World) (x:Str) (t:Tok):(zAr prog w).is (.inr x) (.str x t)=true:=zMK x t
inductive V where
 | non | bl (b:Bool) | int (i:Int) | str (x:Str) | byt (b:Array UInt8) | flt (b:UInt64) | ref (a:Addr) | ty (n:String)
 deriving DecidableEq
def RelV:V→Value→Prop
 | .non,u=>u=Value.none
 | .bl b,u=>u=Value.bool b
 | .int i,u=>∃ t,u=Value.int i t
 | .str x,u=>∃ t,u=Value.str x t
 | .byt b,u=>∃ t,u=Value.bytes b t
 | .flt b,u=>∃ t,u=Value.float b t
 | .ref a,u=>u=Value.ref a
 | .ty n,u=>u=Value.type n
noncomputable abbrev Vals:List V→yB→Prop:=Paired RelV
theorem Vals.length {xs:List V}{us:yB} (r:Vals xs us):xs.length=us.length:=Paired.length r
theorem Vals.get:∀ {xs:List V}{us:yB}{i:Nat}{x:V},Vals xs us→xs[i]?=some x→∃ u,us[i]?=some u∧RelV x u
 | _,_,_,_,.nil,e=>by simp at e
 | _,_,0,_,.cons r _,e=>by simp at e; subst e; exact ⟨_,rfl,r⟩
 | _,_,i+1,x,.cons _ t,e=>by
  obtain ⟨u,h1,h2⟩:=Vals.get (i:=i) (x:=x) t (by simpa using e)
  exact ⟨u,by simpa using h1,h2⟩
theorem Vals.set {x:V}{u:Value} (r:RelV x u):∀ {xs:List V}{us:yB} (i:Nat),Vals xs us→Vals (xs.set i x) (us.set i u)
 | _,_,_,.nil=>.nil
 | _,_,0,.cons _ t=>.cons r t
 | _,_,i+1,.cons q t=>.cons q (Vals.set r i t)
theorem Vals.append:∀ {xs ys:List V}{us ws:yB},Vals xs us→Vals ys ws→Vals (xs++ys) (us++ws)
 | _,_,_,_,.nil,s=>s
 | _,_,_,_,.cons r t,s=>.cons r (Vals.append t s)
theorem Vals.take:∀ {xs:List V}{us:yB} (n:Nat),Vals xs us→Vals (xs.take n) (us.take n)
 | _,_,0,_=>.nil
 | _,_,_+1,.nil=>.nil
 | _,_,n+1,.cons r t=>.cons r (Vals.take n t)
theorem Vals.drop:∀ {xs:List V}{us:yB} (n:Nat),Vals xs us→Vals (xs.drop n) (us.drop n)
 | _,_,0,r=>r
 | _,_,_+1,.nil=>.nil
 | _,_,n+1,.cons _ t=>Vals.drop n t
def RelO:Option V→yF→Prop
 | some v,some u=>RelV v u
 | none,none=>True
 | _,_=>False
def KV {κ:Type}:List (κ × V)→List (κ × Value)→Prop:=Paired fun (p:κ × V) (q:κ × Value)=>p.1=q.1∧RelV p.2 q.2
noncomputable def kV:Key→V
 | .inl i=>.int i
 | .inr x=>.str x
inductive HO where
 /-- a list -/
 | lst (xs:List V)
 /-- a tuple (never changes) -/
 | tup (xs:List V)
 /-- a dict whose keys are ints and texts; one whose keys are tuples of ints and texts (the empty one is both) -/
 | dK (kvs:List (Key × V)) | dT (kvs:List (List Key × V))
 /-- a set of ints: its members,its size -/
 | set (S:Int→Bool) (n:Nat)
 /-- an instance of the class at C,its dict at dx,its attributes -/
 | ins (C dx:Addr) (fs:List (Str × V))
 /-- the dict of the instance at x -/
 | own (x:Addr)
 /-- the dict of an exception -/
 | xd (fs:List (Str × V))
 /-- a bound method,f of x -/
 | met (f x:Addr)
 /-- a range object lo,lo+1,.. below hi -/
 | rng (lo hi:Int)
 /-- a thing that is known to the object (the script; a dict while a loop walks it): read,never written while it is so -/
 | frz (o:Obj) (u:HO)
 /-- a code object's table -/
 | tbl (ps:yJ)
 /-- any other thing,by what is true of its one object (a def of one's own: SetO a S n:=HO.ext fun h=>..) -/
 | ext (φ:Heap→Prop)
noncomputable abbrev Hp:=Addr→Option HO
noncomputable def upd (H:Hp) (a:Addr) (o:HO):Hp:=fun b=>if b=a then some o else H b
theorem zAi {H:Hp}{a:Addr}{o:HO}:upd H a o a=some o:=by unfold upd; rw [if_pos rfl]
theorem zAb {H:Hp}{a b:Addr}{o:HO} (h:b≠a):upd H a o b=H b:=by unfold upd; rw [if_neg h]
theorem zQb {H:Hp}{a:Addr}{o u:HO}:upd (upd H a o) a u=upd H a u:=by
 funext b; unfold upd; split <;> rfl
theorem zWC {H:Hp}{a b:Addr}{o u:HO} (h:H a=some o) (h':H b=some u) (d:o≠u):a≠b:=by
 intro e; subst e; rw [h] at h'; exact d (Option.some.inj h')
theorem zAx {H:Hp}{a b:Addr}{o:HO} (h:H a=some o) (h':H b=none):a≠b:=by
 intro e; subst e; rw [h] at h'; cases h'
section
variable (P:Program) (w:World)
def zBA (H:Hp) (h:Heap) (a:Addr):HO→Prop
 | .lst xs=>xs.length≤sizeLine∧∃ (its:yB) (n:Nat),Vals xs its∧h.get? a=some { cls:=.type "list",data:=.seq its.toArray n }
 | .tup xs=>xs.length≤sizeLine∧∃ its:yB,Vals xs its∧IsTup h a its.toArray
 | .dK kvs=>kvs.length≤sizeLine∧(a == sysModules)=false∧∃ vs,KV kvs vs∧h.DictOf (zAr P w) a vs
 | .dT kvs=>kvs.length≤sizeLine∧(a == sysModules)=false∧∃ xs:List (List Key × Addr × Value),
   Paired (fun (p:List Key × V) (q:List Key × Addr × Value)=>p.1=q.1∧H q.2.1=some (.tup (p.1.map kV))∧RelV p.2 q.2.2) kvs xs ∧
   ∃ o es ep,h.get? a=some o∧o.ExactDict∧o.data=.dict es ep∧es.toList=xs.map (entryOfKey (tupleKind (zAr P w)))∧(xs.map (·.1)).Nodup
 | .set S n=>h.SetOf (intKind P w) a S n
 | .ins C dx fs=>H dx=some (.own a)∧fs.length≤1000∧dx≠a∧h.get? a=some (W.instObj C dx) ∧
   ∃ mA,h.Ns1 dx mA∧(∀ f,RelO (fs.lookup f) (mA f))∧PySem.Within mA (fs.map (·.1))
 | .own _=>∃ o,h.get? a=some o
 | .xd fs=>∃ mA,h.Ns1 a mA∧∀ f,RelO (fs.lookup f) (mA f)
 | .rng lo hi=>∃ t u v,h.get? a=some { cls:=.type "range",data:=.fields #[.int lo t,.int hi u,.int 1 v] }
 | .frz o u=>h.get? a=some o∧zBA H h a u
 | .tbl ps=>h.get? a=some { cls:=.none,data:=.fields ps }
 | .met f x=>h.get? a=some (W.methodObj (.ref f) (.ref x))
 | .ext φ=>φ h∧(∃ o,h.get? a=some o)∧∀ h1 h2:Heap,φ h1→(∀ o,h1.get? a=some o→h2.get? a=some o)→φ h2
def HOk (H:Hp) (h:Heap):Prop:=∀ a o,H a=some o→zBA P w H h a o
end
section
variable {P:Program}{w:World}{H H':Hp}{h h':Heap}{a:Addr}{o:HO}
theorem zBA.lt (x:zBA P w H h a o):a<h.objs.size:=by
 cases o with
 | lst xs=>obtain ⟨_,_,_,_,e⟩:=x; exact qB5 e
 | tup xs=>obtain ⟨_,_,_,p⟩:=x; exact p.lt
 | dK kvs=>obtain ⟨_,_,_,_,o,_,_,e,_⟩:=x; exact qB5 e
 | dT kvs=>obtain ⟨_,_,_,_,o,_,_,e,_⟩:=x; exact qB5 e
 | set S n=>obtain ⟨o,_,_,_,e,_⟩:=x; exact qB5 e
 | ins C dx fs=>obtain ⟨_,_,_,e,_⟩:=x; exact qB5 e
 | own y=>obtain ⟨_,e⟩:=x; exact qB5 e
 | xd fs=>obtain ⟨_,⟨_,_,_,e,_⟩,_⟩:=x; exact qB5 e
 | rng lo hi=>obtain ⟨_,_,_,e⟩:=x; exact qB5 e
 | frz ob u=>obtain ⟨e,_⟩:=x; exact qB5 e
 | tbl ps=>exact qB5 (show h.get? a=some _ from x)
 | met f y=>exact qB5 (show h.get? a=some _ from x)
 | ext φ=>obtain ⟨_,⟨_,e⟩,_⟩:=x; exact qB5 e
theorem Paired.mapP {α β:Type}{F G:α→β→Prop}:∀ {l₁:List α}{l₂:List β},Paired F l₁ l₂→(∀ a b,F a b→G a b)→Paired G l₁ l₂
 | _,_,.nil,_=>.nil
 | _,_,.cons r t,f=>.cons (f _ _ r) (Paired.mapP t f)
theorem zBA.stay (x:zBA P w H h a o) (k:∀ b u,(b=a∨H b=some (.own a))→h.get? b=some u→h'.get? b=some u)
  (ho:∀ b,H b=some (.own a)→H' b=some (.own a)) (ht:∀ b xs,H b=some (.tup xs)→H' b=some (.tup xs)):zBA P w H' h' a o:=by
 induction o with
 | lst xs=>obtain ⟨z,its,n,r,e⟩:=x; exact ⟨z,its,n,r,k _ _ (.inl rfl) e⟩
 | tup xs=>obtain ⟨z,its,r,ob,e,c⟩:=x; exact ⟨z,its,r,ob,k _ _ (.inl rfl) e,c⟩
 | dK kvs=>obtain ⟨z,y,vs,r,ob,es,ep,e,c⟩:=x; exact ⟨z,y,vs,r,ob,es,ep,k _ _ (.inl rfl) e,c⟩
 | dT kvs =>
  obtain ⟨z,y,xs,r,ob,es,ep,e,c⟩:=x
  exact ⟨z,y,xs,Paired.mapP r fun p q z=>⟨z.1,ht _ _ z.2.1,z.2.2⟩,ob,es,ep,k _ _ (.inl rfl) e,c⟩
 | set S n=>obtain ⟨ob,es,ep,t,e,c⟩:=x; exact ⟨ob,es,ep,t,k _ _ (.inl rfl) e,c⟩
 | ins C dx fs =>
  obtain ⟨d,z,ne,e,mA,⟨od,es,ep,e2,c⟩,r⟩:=x
  exact ⟨ho _ d,z,ne,k _ _ (.inl rfl) e,mA,⟨od,es,ep,k _ _ (.inr d) e2,c⟩,r⟩
 | own y=>obtain ⟨ob,e⟩:=x; exact ⟨ob,k _ _ (.inl rfl) e⟩
 | xd fs=>obtain ⟨mA,⟨od,es,ep,e,c⟩,r⟩:=x; exact ⟨mA,⟨od,es,ep,k _ _ (.inl rfl) e,c⟩,r⟩
 | rng lo hi=>obtain ⟨t,u,v,e⟩:=x; exact ⟨t,u,v,k _ _ (.inl rfl) e⟩
 | frz ob u ih=>obtain ⟨e,q⟩:=x; exact ⟨k _ _ (.inl rfl) e,ih q⟩
 | tbl ps =>
  have e:h.get? a=some { cls:=.none,data:=.fields ps }:=x
  show h'.get? a=some { cls:=.none,data:=.fields ps }
  exact k a _ (.inl rfl) e
 | met f y =>
  have e:h.get? a=some (W.methodObj (.ref f) (.ref y)):=x
  show h'.get? a=some (W.methodObj (.ref f) (.ref y))
  exact k a _ (.inl rfl) e
 | ext φ=>obtain ⟨p,⟨o,e⟩,st⟩:=x; exact ⟨st _ _ p fun o q=>k _ _ (.inl rfl) q,⟨o,k _ _ (.inl rfl) e⟩,st⟩
theorem HOk.lt (x:HOk P w H h) (e:H a=some o):a<h.objs.size:=(x a o e).lt
theorem HOk.fresh (x:HOk P w H h) (e:h.objs.size≤a):H a=none:=by
 cases q:H a with
 | none=>rfl
 | some u=>exact absurd (qC1 (x.lt q) e) (qI1 _)
theorem HOk.kept (x:HOk P w H h) (k:∀ b u,h.get? b=some u→h'.get? b=some u):HOk P w H h':=fun a o e =>
 (x a o e).stay (fun b u _ q=>k b u q) (fun _ q=>q) fun _ _ q=>q
theorem HOk.laid (x:HOk P w H h) (k:∀ b u,h.get? b=some u→h'.get? b=some u) (hp:h.objs.size≤a) (new:zBA P w (upd H a o) h' a o):HOk P w (upd H a o) h':=fun b u e=>by
 have hn:=x.fresh hp
 by_cases hb:b=a
 ·subst hb; rw [zAi] at e; cases e; exact new
 ·rw [zAb hb] at e
  exact (x b u e).stay (fun c v _ q=>k c v q) (fun c q=>by rw [zAb (zAx q hn)]; exact q) fun c xs q=>by rw [zAb (zAx q hn)]; exact q
end
def Rd (H:Hp) (a:Addr) (u:HO):Prop:=H a=some u∨∃ o,H a=some (.frz o u)
theorem Rd.ok {P:Program}{w:World}{H:Hp}{h:Heap}{a:Addr}{u:HO} (r:Rd H a u) (x:HOk P w H h):zBA P w H h a u:=by
 rcases r with r | ⟨o,r⟩
 ·exact x a u r
 ·obtain ⟨_,q⟩:=x a _ r
  exact q
def Mut:Option HO→Prop
 | some (.lst _)=>True
 | some (.dK _)=>True
 | some (.dT _)=>True
 | some (.set _ _)=>True
 | some (.ins _ _ _)=>True
 | some (.ext _)=>True
 | _=>False
section
variable {P:Program}{w:World}{H:Hp}{h h':Heap}{x e:Addr}{o':HO}
theorem HOk.write (ok:HOk P w H h) (mu:Mut (H x)) (he:e=x∨H e=some (.own x)) (k:∀ b u,b≠e→h.get? b=some u→h'.get? b=some u) (heo:∃ u,h'.get? e=some u)
  (new:zBA P w (upd H x o') h' x o'):HOk P w (upd H x o') h':=fun b u q=>by
 have nown:∀ c y,H c=some (.own y)→c≠x:=fun c y r z=>by subst z; rw [r] at mu; exact mu
 have ntup:∀ c xs,H c=some (.tup xs)→c≠x:=fun c xs r z=>by subst z; rw [r] at mu; exact mu
 by_cases hb:b=x
 ·subst hb; rw [zAi] at q; cases q; exact new
 ·rw [zAb hb] at q
  by_cases hbe:b=e
  ·have q':H b=some (.own x):=by
    rcases he with z | z
    ·exact absurd (hbe.trans z) hb
    ·rw [hbe]; exact z
   rw [q] at q'; cases q'
   obtain ⟨v,hv⟩:=heo
   exact ⟨v,by rw [hbe]; exact hv⟩
  ·refine (ok b u q).stay (fun c v hc r=>k c v ?_ r) (fun c r=>by rw [zAb (nown c b r)]; exact r) fun c xs r=>by rw [zAb (ntup c xs r)]; exact r
   rcases hc with rfl | hc
   ·exact hbe
   ·rintro rfl
    rcases he with z | z
    ·exact nown c b hc z
    ·rw [hc] at z; cases z; exact hb rfl
end
structure Un (fs ex:yC) (H H':Hp) (h h':Heap):Prop where
 keep:∀ b o,h.get? b=some o→H b=none→b∉fs→b∉ex→h'.get? b=some o
 slot:∀ b o,h.get? b=some o→H b=none→b∈fs→b∉ex→∃ sl,h'.get? b=some { o with slots:=sl }
 free:∀ b o,h.get? b=some o→H b=none→b∉ex→H' b=none
 there:∀ b o,h.get? b=some o→b∉ex→∃ o',h'.get? b=some o'
 tups:∀ b xs,H b=some (.tup xs)→H' b=some (.tup xs)
 frzs:∀ b o u,H b=some (.frz o u)→H' b=some (.frz o u)
 tbls:∀ b ps,H b=some (.tbl ps)→∃ more,H' b=some (.tbl (ps++more))
section
variable {fs fs' ex ex':yC}{H H1 H2:Hp}{h h1 h2 h':Heap}{a x e:Addr}{o:HO}
theorem Un.any (u:Un fs ex H H1 h h1) {b:Addr}{ob:Obj} (q:h.get? b=some ob) (n:H b=none) (hx:b∉ex):∃ sl,h1.get? b=some { ob with slots:=sl }:=by
 by_cases hb:b∈fs
 ·exact u.slot b ob q n hb hx
 ·exact ⟨ob.slots,u.keep b ob q n hb hx⟩
theorem Un.kept (k:∀ b u,h.get? b=some u→h'.get? b=some u):Un fs ex H H h h' :=
 ⟨fun b ob q _ _ _=>k b ob q,fun b ob q _ _ _=>⟨ob.slots,k b ob q⟩,fun _ _ _ n _=>n,fun b ob q _=>⟨ob,k b ob q⟩,fun _ _ q=>q,fun _ _ _ q=>q,fun _ ps q=>⟨#[],by rw [q]; simp⟩⟩
theorem Un.refl:Un fs ex H H h h:=Un.kept fun _ _ q=>q
theorem Un.laid (k:∀ b u,h.get? b=some u→h'.get? b=some u) (hp:h.objs.size≤a) (hn:H a=none):Un fs ex H (upd H a o) h h' where
 keep:=fun b u q _ _ _=>k b u q
 slot:=fun b u q _ _ _=>⟨u.slots,k b u q⟩
 free:=fun b u q n _=>by rw [zAb (qC4 (qC1 (qB5 q) hp))]; exact n
 there:=fun b u q _=>⟨u,k b u q⟩
 tups:=fun b xs q=>by rw [zAb (zAx q hn)]; exact q
 frzs:=fun b u xs q=>by rw [zAb (zAx q hn)]; exact q
 tbls:=fun b ps q=>⟨#[],by rw [zAb (zAx q hn),q]; simp⟩
theorem Un.write (mu:Mut (H x)) (he:e=x∨H e=some (.own x)) (k:∀ b u,b≠e→h.get? b=some u→h'.get? b=some u) (heo:∃ u,h'.get? e=some u):Un fs ex H (upd H x o) h h':=by
 have hx:∀ b,H b=none→b≠x:=fun b n z=>by subst z; rw [n] at mu; exact mu
 have hb:∀ b,H b=none→b≠e:=fun b n z=>by
  subst z
  rcases he with r | r
  ·exact hx b n r
  ·rw [n] at r; cases r
 have hm:∀ b u,H b=some u→¬ Mut (some u)→b≠x:=fun b u q nm z=>by subst z; rw [q] at mu; exact nm mu
 refine ⟨fun b u q n _ _=>k b u (hb b n) q,fun b u q n _ _=>⟨u.slots,k b u (hb b n) q⟩,fun b u q n _=>by rw [zAb (hx b n)]; exact n,fun b u q _=>?_,
  fun b xs q=>by rw [zAb (hm b _ q fun z=>z)]; exact q,fun b u xs q=>by rw [zAb (hm b _ q fun z=>z)]; exact q,fun b ps q=>⟨#[],by rw [zAb (hm b _ q fun z=>z),q]; simp⟩⟩
 by_cases hbe:b=e
 ·subst hbe; exact heo
 ·exact ⟨u,k b u hbe q⟩
end
noncomputable def trk (h:Heap) (H:Hp):yC:=(List.range h.objs.size).filter fun a=>(H a).isSome
noncomputable def hidT (h:Heap) (H:Hp):Heap:=W.hideAll h (trk h H)
theorem zMZ (h:Heap) (H:Hp):(hidT h H).objs.size=h.objs.size:=W.hideAll_size _ _
theorem zP7 {h:Heap}{H:Hp}{b:Addr}{o:Obj} (e:h.get? b=some o) (n:H b=none):(hidT h H).get? b=some o :=
 W.hideAll_get _ e fun hm=>by
  have q:(H b).isSome=true:=(qD5.mp hm).2
  rw [n] at q; simp at q
theorem zR5 {h:Heap}{H:Hp}{b:Addr}{o:Obj} (e:(hidT h H).get? b=some o):h.get? b=some o∧H b=none:=by
 have e':h.get? b=some o:=W.of_hideAll (trk h H) e
 refine ⟨e',?_⟩
 cases q:H b with
 | none=>rfl
 | some x =>
  have hm:b∈trk h H:=qD5.mpr ⟨qG3.mpr (qB5 e'),by simp [q]⟩
  have z:(hidT h H).get? b=none:=W.hideAll_none (trk h H) hm
  rw [z] at e; cases e
noncomputable def zS1 (g h:Heap) (L:Addr):yD:=(List.range h.objs.size).filterMap fun a=>if a=L∨(g.get? a).isSome=true then none else (h.get? a).map fun o=>(a,o)
noncomputable def rest (g h:Heap) (L d:Addr):yD:=(zS1 g h L).filter fun p=>decide (p.1≠d)
structure Mod (K:W.Frag) (mg:Str→yF) (base:Heap):Prop where
 kin:K.In base
 glob:base.Ns mainGlobals mg
 blt:∃ mb,base.Ns builtinsNs mb∧∀ x:Str,x ≠ "__name__"→mb x=bootBuiltins x
 nolimit:base.NoLimit
structure Cx where
 prog:Program
 w:World
 K:W.Frag
 mg:Str→yF
 base:Heap
 A:Around
 N:yH
 s₀:Shared
 H₀:Hp
 env:Env
 outer:List Env
 stack:List Env
 ex:yC
 fn:Str→Bool
 calm:Bool
 pn:yD
 xe:yL
noncomputable def frs (l:List Env):yC:=l.filterMap (·.frame)
noncomputable abbrev Cx.fs (X:Cx):yC:=frs X.outer
def Vis (sc:Scope) (x:Str):Prop:=sc.names.lookup x=some .local∨sc.names.lookup x=some .cell∨sc.names.lookup x=some .free
def Loc (sc:Scope) (x:Str):Prop:=sc.names.lookup x=some .local∨sc.names.lookup x=some .cell
def Look (env:Env) (h:Heap) (m:Str→yF) (x:Str) (u:Value):Prop :=
 (env.kindOf x=some .local∧m x=some u)∨((env.kindOf x=some .cell∨env.kindOf x=some .free)∧∃ c,env.cells.lookup x=some c∧h.IsCell c (some u))
structure Cx.Ok (X:Cx):Prop where
 mod:Mod X.K X.mg X.base
 kind:X.env.scope.kind=.function
 glob:X.env.globals=mainGlobals
 blt:X.env.builtins=builtinsNs
 above:X.s₀.heap.objs.size≤X.env.locals
 inj:∀ x y c,X.env.cells.lookup x=some c→X.env.cells.lookup y=some c→x=y
 has:∀ x,(X.env.kindOf x=some .cell∨X.env.kindOf x=some .free)→∃ c,X.env.cells.lookup x=some c
 cab:∀ x c,X.fn x=true→X.env.cells.lookup x=some c→X.s₀.heap.objs.size≤c
 hd:X.calm=true→X.A.handled=none
 frames:X.A.frames=some X.stack
 stk:X.stack=X.outer∨(X.stack=X.env::X.outer∧X.env.frame=some X.env.locals)
 exf:∀ b∈X.ex,b≠X.env.locals∧∀ x c,X.env.cells.lookup x=some c→c≠b
 bs:∀ b o,X.base.get? b=some o→X.s₀.heap.get? b=some o∧X.H₀ b=none
 bsz:X.base.objs.size≤X.s₀.heap.objs.size
 noex:∀ b o,X.base.get? b=some o→b∉X.ex
 exfs:∀ b∈X.ex,b∉X.fs
 funs:X.s₀.heap.FunFrames X.base X.outer
 frf:∀ b∈X.fs,X.H₀ b=none
structure Inv (X:Cx) (pins:yD) (σ:List (Option V)) (H:Hp) (s:Shared):Prop where
 ok:X.Ok
 os:s.os=X.s₀.os
 bare:AllBare s.gens
 base:Un X.fs X.ex X.H₀ H X.s₀.heap s.heap
 loc:∃ m,s.heap.Ns X.env.locals m∧∀ (i:Nat) (x:Str) (v:V),X.N[i]?=some x→σ[i]?=some (some v)→Vis X.env.scope x→∃ u,RelV v u∧Look X.env s.heap m x u
 cell:∀ x c,X.env.cells.lookup x=some c→∃ v,s.heap.IsCell c v
 free:H X.env.locals=none
 freeC:∀ x c,X.env.cells.lookup x=some c→H c=none
 pin:∀ p∈X.pn++pins,s.heap.get? p.1=some p.2∧H p.1=none∧p.1≠X.env.locals∧p.1∉X.fs∧∀ v,p.2.data≠.cell v
 hok:HOk X.prog X.w H s.heap
 len:σ.length=X.N.length
section
variable {X:Cx}{pins:yD}{σ:List (Option V)}{H H':Hp}{s:Shared}{h':Heap}
theorem Cx.Ok.nofr (ok:X.Ok) {b:Addr}{o:Obj} (e:X.base.get? b=some o):b∉X.fs:=fun hb=>by
 have:=(ok.funs.mem hb).1
 rw [e] at this; cases this
theorem Inv.bs (I:Inv X pins σ H s):∀ b o,X.base.get? b=some o→s.heap.get? b=some o∧H b=none:=fun b o e =>
 ⟨I.base.keep b o (I.ok.bs b o e).1 (I.ok.bs b o e).2 (I.ok.nofr e) (I.ok.noex b o e),I.base.free b o (I.ok.bs b o e).1 (I.ok.bs b o e).2 (I.ok.noex b o e)⟩
theorem Inv.bk (I:Inv X pins σ H s):∀ b o,X.base.get? b=some o→s.heap.get? b=some o:=fun b o e=>(I.bs b o e).1
theorem Inv.mod (I:Inv X pins σ H s):Mod X.K X.mg X.base:=I.ok.mod
theorem Inv.kIn (I:Inv X pins σ H s):X.K.In s.heap:=I.ok.mod.kin.keeps I.bk
theorem Inv.lt (I:Inv X pins σ H s):X.env.locals<s.heap.objs.size:=let ⟨_,hn,_⟩:=I.loc; hn.lt
theorem Inv.sz (I:Inv X pins σ H s):X.s₀.heap.objs.size≤s.heap.objs.size:=qC5 I.ok.above (qH3 I.lt)
theorem Inv.nofs (I:Inv X pins σ H s) {a:Addr} (h:s.heap.objs.size≤a):a∉X.fs:=fun hb=>by
 obtain ⟨_,o,ho,_⟩:=I.ok.funs.mem hb
 exact absurd (qC1 (qB5 ho) (qC5 I.sz h)) (qI1 _)
theorem Inv.cne (I:Inv X pins σ H s):∀ x c,X.env.cells.lookup x=some c→c≠X.env.locals:=fun x c e z=>by
 obtain ⟨v,o,ho,hd⟩:=I.cell x c e
 obtain ⟨m,⟨o',es,ep,ho',hd',_⟩,_⟩:=I.loc
 rw [z,ho'] at ho; cases ho; rw [hd'] at hd; cases hd
theorem Inv.funs (I:Inv X pins σ H s):s.heap.FunFrames X.base X.outer:=by
 have all:∀ (l:List Env),(∀ b∈frs l,b∈X.fs)→X.s₀.heap.FunFrames X.base l→s.heap.FunFrames X.base l:=by
  intro l
  induction l with
  | nil=>intro _ _; trivial
  | cons env r ih =>
   intro hs hl
   obtain ⟨hk,⟨L,o,hf,hn,ho,hd⟩,hr⟩:=hl
   have hL:L∈X.fs:=hs L (by unfold frs; rw [qG8,hf]; exact qD4)
   obtain ⟨sl,e⟩:=I.base.slot L o ho (I.ok.frf L hL) hL fun z=>I.ok.exfs L z hL
   exact ⟨hk,⟨L,_,hf,hn,e,hd⟩,ih (fun b hb=>hs b (by unfold frs; rw [qG8,hf]; exact qC7 _ hb)) hr⟩
 exact all X.outer (fun _ hb=>hb) I.ok.funs
theorem Inv.stack (I:Inv X pins σ H s):s.heap.FunFrames X.base X.stack:=by
 rcases I.ok.stk with e | ⟨e,hf⟩
 ·rw [e]; exact I.funs
 ·rw [e]
  obtain ⟨m,hn,_⟩:=I.loc
  refine .cons (by rw [I.ok.kind]; decide) hf hn ?_ I.funs
  exact Heap.get?_none_of_le (qC5 I.ok.bsz I.ok.above)
theorem Inv.stkSub (I:Inv X pins σ H s):∀ b∈frs X.stack,b∈X.env.locals::X.fs:=fun b hb=>by
 rcases I.ok.stk with e | ⟨e,hf⟩
 ·rw [e] at hb; exact qC7 _ hb
 ·rw [e] at hb
  unfold frs at hb
  rw [qG8,hf] at hb
  exact hb
theorem Inv.stkFree (I:Inv X pins σ H s):∀ b∈frs X.stack,H b=none:=fun b hb=>by
 rcases qB6.mp (I.stkSub b hb) with e | hb
 ·rw [e]; exact I.free
 ·obtain ⟨_,o,ho,_⟩:=I.ok.funs.mem hb
  exact I.base.free b o ho (I.ok.frf b hb) fun z=>I.ok.exfs b z hb
theorem Inv.step {g':Array GenState}{t':Nat}{d':Drawn}{ch:yC} (I:Inv X pins σ H s)
  (hch:∀ b∈ch,(b∈X.ex∨X.s₀.heap.objs.size≤b)∧b≠X.env.locals∧(∀ x c,X.env.cells.lookup x=some c→c≠b)∧∀ p∈X.pn++pins,p.1≠b)
  (keep:∀ b o,b≠X.env.locals→b∉X.fs→b∉ch→s.heap.get? b=some o→H b=none→h'.get? b=some o)
  (slot:∀ b o,b≠X.env.locals→b∈X.fs→b∉ch→s.heap.get? b=some o→H b=none→∃ sl,h'.get? b=some { o with slots:=sl }) (free:∀ b o,b∉ch→s.heap.get? b=some o→H b=none→H' b=none)
  (there:∀ b o,b∉ch→s.heap.get? b=some o→∃ o',h'.get? b=some o')
  (tups:∀ b xs,H b=some (.tup xs)→H' b=some (.tup xs)) (frzs:∀ b o u,H b=some (.frz o u)→H' b=some (.frz o u)) (tbls:∀ b ps,H b=some (.tbl ps)→∃ more,H' b=some (.tbl (ps++more)))
  (ns:∀ m,s.heap.Ns X.env.locals m→h'.Ns X.env.locals m) (hok:HOk X.prog X.w H' h') (hg:AllBare g') :
  Inv X pins σ H' { s with heap:=h',gens:=g',drawn:=d',toks:=t' }:=by
 have neL:∀ b o,X.s₀.heap.get? b=some o→b≠X.env.locals:=fun b o e=>qC4 (qC1 (qB5 e) I.ok.above)
 have neC:∀ b o,X.s₀.heap.get? b=some o→b∉X.ex→b∉ch:=fun b o e hx hb=>by
  rcases (hch b hb).1 with z | z
  ·exact hx z
  ·exact absurd (qC1 (qB5 e) z) (qI1 _)
 have cellK:∀ x c,X.env.cells.lookup x=some c→∀ v,s.heap.IsCell c v→h'.IsCell c v:=fun x c e v ⟨o,ho,hd⟩=>by
  have nch:c∉ch:=fun z=>(hch c z).2.2.1 x c e rfl
  by_cases hc:c∈X.fs
  ·obtain ⟨sl,q⟩:=slot c o (I.cne x c e) hc nch ho (I.freeC x c e)
   exact ⟨_,q,hd⟩
  ·exact ⟨o,keep c o (I.cne x c e) hc nch ho (I.freeC x c e),hd⟩
 refine ⟨I.ok,I.os,hg,⟨fun b o e n hb hx=>?_,fun b o e n hb hx=>?_,fun b o e n hx=>?_,fun b o e hx=>?_,fun b xs e=>tups b xs (I.base.tups b xs e),fun b o xs e=>frzs b o xs (I.base.frzs b o xs e),fun b ps e=>?_⟩,?_,fun x c e=>?_,?_,fun x c e=>?_,fun p hp=>?_,hok,I.len⟩
 ·exact keep b o (neL b o e) hb (neC b o e hx) (I.base.keep b o e n hb hx) (I.base.free b o e n hx)
 ·obtain ⟨sl,e1⟩:=I.base.slot b o e n hb hx
  obtain ⟨sl',e2⟩:=slot b _ (neL b o e) hb (neC b o e hx) e1 (I.base.free b o e n hx)
  exact ⟨sl',e2⟩
 ·obtain ⟨o',e1⟩:=I.base.there b o e hx
  exact free b o' (neC b o e hx) e1 (I.base.free b o e n hx)
 ·obtain ⟨o',e1⟩:=I.base.there b o e hx
  exact there b o' (neC b o e hx) e1
 ·obtain ⟨m1,e1⟩:=I.base.tbls b ps e
  obtain ⟨m2,e2⟩:=tbls b _ e1
  exact ⟨m1++m2,by rw [e2,Array.append_assoc]⟩
 ·obtain ⟨m,hn,hl⟩:=I.loc
  refine ⟨m,ns m hn,fun i x v e1 e2 e3=>?_⟩
  obtain ⟨u,r,l⟩:=hl i x v e1 e2 e3
  refine ⟨u,r,?_⟩
  rcases l with l | ⟨k,c,e,z⟩
  ·exact .inl l
  ·exact .inr ⟨k,c,e,cellK x c e _ z⟩
 ·obtain ⟨v,z⟩:=I.cell x c e
  exact ⟨v,cellK x c e v z⟩
 ·obtain ⟨m,⟨o,_,_,ho,_⟩,_⟩:=I.loc
  exact free _ o (fun z=>(hch _ z).2.1 rfl) ho I.free
 ·obtain ⟨v,o,ho,hd⟩:=I.cell x c e
  exact free c o (fun z=>(hch c z).2.2.1 x c e rfl) ho (I.freeC x c e)
 ·obtain ⟨e,n,ne,nf,d⟩:=I.pin p hp
  have nch:p.1∉ch:=fun z=>(hch p.1 z).2.2.2 p hp rfl
  exact ⟨keep p.1 p.2 ne nf nch e n,free p.1 p.2 nch e n,ne,nf,d⟩
theorem Inv.un {t':Nat} (I:Inv X pins σ H s) (u:Un X.fs [] H H' s.heap h') (hok:HOk X.prog X.w H' h'):Inv X pins σ H' { s with heap:=h',toks:=t' }:=by
 obtain ⟨m,⟨o,es,ep,ho,r⟩,_⟩:=id I.loc
 obtain ⟨sl,hL⟩:=u.any ho I.free (by simp)
 exact I.step (g':=s.gens) (d':=s.drawn) (ch:=[]) (fun _ z=>nomatch z) (fun b o _ hb _ e n=>u.keep b o e n hb (by simp)) (fun b o _ hb _ e n=>u.slot b o e n hb (by simp)) (fun b o _ e n=>u.free b o e n (by simp)) (fun b o _ e=>u.there b o e (by simp)) u.tups u.frzs u.tbls (fun m' hm=>by
  obtain ⟨o',es',ep',ho',r'⟩:=hm
  rw [ho] at ho'; cases ho'
  exact ⟨_,es',ep',hL,r'⟩) hok I.bare
theorem Inv.call {g':Array GenState}{t':Nat}{d':Drawn}{ch:yC} (I:Inv X pins σ H s) (u:Un (frs X.stack) ch H H' s.heap h') (hok:HOk X.prog X.w H' h') (hg:AllBare g')
  (hch:∀ b∈ch,(b∈X.ex∨X.s₀.heap.objs.size≤b)∧b≠X.env.locals∧(∀ x c,X.env.cells.lookup x=some c→c≠b)∧∀ p∈X.pn++pins,p.1≠b) :
  Inv X pins σ H' { s with heap:=h',gens:=g',drawn:=d',toks:=t' }:=by
 obtain ⟨m,⟨o,es,ep,ho,r⟩,_⟩:=id I.loc
 obtain ⟨sl,hL⟩:=u.any ho I.free fun z=>(hch _ z).2.1 rfl
 exact I.step (ch:=ch) hch (fun b o hL hb hc e n=>u.keep b o e n (fun z=>(qB6.mp (I.stkSub b z)).elim hL hb) hc) (fun b o _ _ hc e n=>u.any e n hc) (fun b o hc e n=>u.free b o e n hc) (fun b o hc e=>u.there b o e hc) u.tups u.frzs u.tbls (fun m' hm=>by
  obtain ⟨o',es',ep',ho',r'⟩:=hm
  rw [ho] at ho'; cases ho'
  exact ⟨_,es',ep',hL,r'⟩) hok hg
theorem Inv.turned {t':Nat}{it:Addr} (I:Inv X pins σ H s) (k:∀ b o,b≠it→s.heap.get? b=some o→h'.get? b=some o) (hn:H it=none) (hL:it≠X.env.locals)
  (h1:it∈X.ex∨X.s₀.heap.objs.size≤it) (h2:∀ x c,X.env.cells.lookup x=some c→c≠it) (h3:∀ p∈X.pn++pins,p.1≠it):Inv X pins σ H { s with heap:=h',toks:=t' }:=by
 have nit:∀ b u,H b=some u→b≠it:=fun b u e z=>by rw [z,hn] at e; cases e
 refine I.step (g':=s.gens) (d':=s.drawn) (ch:=[it]) (fun b hb=>?_) (fun b o _ _ hc e _=>k b o (fun z=>hc (by simp [z])) e) (fun b o _ _ hc e _=>⟨o.slots,k b o (fun z=>hc (by simp [z])) e⟩) (fun _ _ _ _ n=>n)
  (fun b o hc e=>⟨o,k b o (fun z=>hc (by simp [z])) e⟩) (fun _ _ e=>e) (fun _ _ _ e=>e) (fun b ps e=>⟨#[],by rw [e]; simp⟩) (fun m hm=>?_) (fun b u e=>?_) I.bare
 ·have e:b=it:=by simpa using hb
  subst e
  exact ⟨h1,hL,h2,h3⟩
 ·obtain ⟨o,es,ep,ho,r⟩:=hm
  exact ⟨o,es,ep,k _ o (Ne.symm hL) ho,r⟩
 ·refine (I.hok b u e).stay (fun c v hc q=>k c v ?_ q) (fun _ q=>q) fun _ _ q=>q
  rcases hc with z | z
  ·rw [z]; exact nit b u e
  ·exact nit c _ z
theorem Inv.tok (I:Inv X pins σ H s) (t:Nat):Inv X pins σ H { s with toks:=t }:=I.un (h':=s.heap) (t':=t) Un.refl I.hok
theorem Inv.kept {t':Nat} (I:Inv X pins σ H s) (k:∀ b u,s.heap.get? b=some u→h'.get? b=some u):Inv X pins σ H { s with heap:=h',toks:=t' }:=I.un (Un.kept k) (I.hok.kept k)
theorem Inv.laid {a:Addr}{o:HO}{t':Nat} (I:Inv X pins σ H s) (k:∀ b u,s.heap.get? b=some u→h'.get? b=some u) (hp:s.heap.objs.size≤a) (new:zBA X.prog X.w (upd H a o) h' a o) :
  Inv X pins σ (upd H a o) { s with heap:=h',toks:=t' }:=I.un (Un.laid k hp (I.hok.fresh hp)) (I.hok.laid k hp new)
theorem Inv.write {x e:Addr}{o:HO}{t':Nat} (I:Inv X pins σ H s) (mu:Mut (H x)) (he:e=x∨H e=some (.own x)) (k:∀ b u,b≠e→s.heap.get? b=some u→h'.get? b=some u) (heo:∃ u,h'.get? e=some u)
  (new:zBA X.prog X.w (upd H x o) h' x o):Inv X pins σ (upd H x o) { s with heap:=h',toks:=t' }:=I.un (Un.write mu he k heo) (I.hok.write mu he k heo new)
theorem Inv.weak {σ':List (Option V)} (I:Inv X pins σ H s) (hl:σ'.length=σ.length) (w:∀ (i:Nat) v,σ'[i]?=some (some v)→σ[i]?=some (some v)):Inv X pins σ' H s :=
 ⟨I.ok,I.os,I.bare,I.base,let ⟨m,hn,hl'⟩:=I.loc; ⟨m,hn,fun i x v e1 e2 e3=>hl' i x v e1 (w i v e2) e3⟩,I.cell,I.free,I.freeC,I.pin,I.hok,hl.trans I.len⟩
theorem Inv.pins_of {pins':yD} (I:Inv X pins σ H s) (h:∀ p∈pins',s.heap.get? p.1=some p.2∧H p.1=none∧p.1≠X.env.locals∧p.1∉X.fs∧∀ v,p.2.data≠.cell v):Inv X pins' σ H s :=
 ⟨I.ok,I.os,I.bare,I.base,I.loc,I.cell,I.free,I.freeC,fun p hp=>(qB4.mp hp).elim (fun z=>I.pin p (qF2 _ z)) (h p),I.hok,I.len⟩
theorem zKf {N:yH} (hN:N.Nodup) {i j:Nat}{x:Str} (a:N[i]?=some x) (b:N[j]?=some x):i=j:=by
 obtain ⟨h1,e1⟩:=qA4.mp a
 obtain ⟨h2,e2⟩:=qA4.mp b
 exact (List.getElem_inj hN).mp (e1.trans e2.symm)
theorem zLX {M:Model}{A:Around}{E:yL}{i:Nat}{x:Str}{v:V}{u:Value}{Q:Unit→Shared→Prop} (I:Inv X pins σ H s) (hN:X.N.Nodup) (hi:X.N[i]?=some x) (hx:Loc X.env.scope x) (r:RelV v u)
  (h:∀ s',Inv X pins (σ.set i (some v)) H s'→(∃ a,qF0 a s.heap s'.heap∧(a=X.env.locals∨X.env.cells.lookup x=some a))→Q () s') (hf:X.fn x=true∨X.env.scope.names.lookup x=some .local:=by first | exact .inl rfl | exact .inr rfl | assumption):wpAny M A (storeName X.env x u) Q E s:=by
 obtain ⟨m,hn,hl⟩:=id I.loc
 have hcls:(X.env.scope.kind == .class||(X.env.scope.kind == .module&&X.env.locals != X.env.globals))=false:=by rw [I.ok.kind]; rfl
 have hiσ:i<σ.length:=by rw [I.len]; exact (qA4.mp hi).1
 have cne:=I.cne
 have tracked:∀ {a:Addr}{h':Heap},(∃ o,s.heap.get? a=some o∧H a=none)→qF0 a s.heap h'→HOk X.prog X.w H h':=fun {a h'} ha hs b ob e=>by
  obtain ⟨_,_,hfree⟩:=ha
  refine (I.hok b ob e).stay (fun c w' hc q=>(hs.2 c ?_).trans q) (fun _ q=>q) fun _ _ q=>q
  rintro rfl
  rcases hc with rfl | hc
  ·rw [hfree] at e; cases e
  ·rw [hfree] at hc; cases hc
 rcases hx with hk | hk
 ·refine wpAny_storeName_local hk hn (fun h' hn' hs=>?_) hcls
  obtain ⟨oL,_,_,hoL,_⟩:=id hn
  refine h _ ⟨I.ok,I.os,I.bare,⟨fun b o e n hb hx=>?_,fun b o e n hb hx=>?_,I.base.free,fun b o e hx=>?_,I.base.tups,I.base.frzs,I.base.tbls⟩,⟨_,hn',fun j y v' e1 e2 e3=>?_⟩,fun y c e=>?_,I.free,I.freeC,fun p hp=>?_,tracked ⟨oL,hoL,I.free⟩ hs,by simpa using I.len⟩ ⟨_,hs,.inl rfl⟩
  ·exact (hs.2 b (qC4 (qC1 (qB5 e) I.ok.above))).trans (I.base.keep b o e n hb hx)
  ·obtain ⟨sl,e1⟩:=I.base.slot b o e n hb hx
   exact ⟨sl,(hs.2 b (qC4 (qC1 (qB5 e) I.ok.above))).trans e1⟩
  ·obtain ⟨o',e1⟩:=I.base.there b o e hx
   exact ⟨o',(hs.2 b (qC4 (qC1 (qB5 e) I.ok.above))).trans e1⟩
  ·by_cases hj:j=i
   ·subst hj
    rw [hi] at e1; cases e1
    rw [qD9 hiσ] at e2
    cases e2
    exact ⟨u,r,.inl ⟨hk,by simp⟩⟩
   ·rw [qE1 (Ne.symm hj)] at e2
    obtain ⟨u',r',q⟩:=hl j y v' e1 e2 e3
    refine ⟨u',r',?_⟩
    rcases q with ⟨k,e⟩ | ⟨k,c,e,z⟩
    ·refine .inl ⟨k,?_⟩
     have:y≠x:=fun e=>hj (zKf hN e1 (e▸hi))
     simp [this,e]
    ·exact .inr ⟨k,c,e,z.sameBut hs (cne y c e)⟩
  ·obtain ⟨w',z⟩:=I.cell y c e
   exact ⟨w',z.sameBut hs (cne y c e)⟩
  ·obtain ⟨e,n,ne,nf,d⟩:=I.pin p hp
   exact ⟨(hs.2 p.1 ne).trans e,n,ne,nf,d⟩
 ·have hfn:X.fn x=true:=by
   rcases hf with z | z
   ·exact z
   ·rw [z] at hk; cases hk
  obtain ⟨c,hc⟩:=I.ok.has x (.inl hk)
  obtain ⟨w',z⟩:=I.cell x c hc
  refine wpAny_storeName_cell I.ok.kind hk hc z (fun h' hc' hs=>?_)
  obtain ⟨oc,hoc,hocd⟩:=id z
  refine h { s with heap:=h' } ⟨I.ok,I.os,I.bare,⟨fun b o e n hb hx=>?_,fun b o e n hb hx=>?_,I.base.free,fun b o e hx=>?_,I.base.tups,I.base.frzs,I.base.tbls⟩,⟨m,hn.sameBut hs (Ne.symm (cne x c hc)),fun j y v' e1 e2 e3=>?_⟩,fun y c' e=>?_,I.free,I.freeC,fun p hp=>?_,tracked ⟨oc,hoc,I.freeC x c hc⟩ hs,by simpa using I.len⟩ ⟨c,hs,.inr hc⟩
  ·exact (hs.2 b (qC4 (qC1 (qB5 e) (I.ok.cab x c hfn hc)))).trans (I.base.keep b o e n hb hx)
  ·obtain ⟨sl,e1⟩:=I.base.slot b o e n hb hx
   exact ⟨sl,(hs.2 b (qC4 (qC1 (qB5 e) (I.ok.cab x c hfn hc)))).trans e1⟩
  ·obtain ⟨o',e1⟩:=I.base.there b o e hx
   exact ⟨o',(hs.2 b (qC4 (qC1 (qB5 e) (I.ok.cab x c hfn hc)))).trans e1⟩
  ·by_cases hj:j=i
   ·subst hj
    rw [hi] at e1; cases e1
    rw [qD9 hiσ] at e2
    cases e2
    exact ⟨u,r,.inr ⟨.inl hk,c,hc,hc'⟩⟩
   ·rw [qE1 (Ne.symm hj)] at e2
    obtain ⟨u',r',q⟩:=hl j y v' e1 e2 e3
    refine ⟨u',r',?_⟩
    rcases q with q | ⟨k,c',e,z'⟩
    ·exact .inl q
    ·refine .inr ⟨k,c',e,z'.sameBut hs ?_⟩
     rintro rfl
     exact hj (zKf hN e1 (I.ok.inj _ _ _ e hc▸hi))
  ·by_cases hcc:c'=c
   ·subst hcc; exact ⟨_,hc'⟩
   ·obtain ⟨w2,z2⟩:=I.cell y c' e
    exact ⟨w2,z2.sameBut hs hcc⟩
  ·obtain ⟨e,n,ne,nf,d⟩:=I.pin p hp
   refine ⟨(hs.2 p.1 ?_).trans e,n,ne,nf,d⟩
   intro q
   rw [q,hoc] at e
   have q':oc=p.2:=Option.some.inj e
   exact d w' (by rw [← q']; exact hocd)
theorem zO0 {M:Model}{A:Around}{E:yL}{i:Nat}{x:Str}{v:V}{u:Value}{Q:Unit→Shared→Prop} (I:Inv X pins σ H s) (hN:X.N.Nodup) (hi:X.N[i]?=some x) (hx:Loc X.env.scope x) (r:RelV v u)
  (h:∀ s',Inv X pins (σ.set i (some v)) H s'→Q () s') (hf:X.fn x=true∨X.env.scope.names.lookup x=some .local:=by first | exact .inl rfl | exact .inr rfl | assumption):wpAny M A (storeName X.env x u) Q E s :=
 zLX I hN hi hx r (fun s' I' _=>h s' I') hf
theorem Inv.call' {s':Shared}{ch:yC} (I:Inv X pins σ H s) (ho:s'.os=s.os) (u:Un (frs X.stack) ch H H' s.heap s'.heap) (hok:HOk X.prog X.w H' s'.heap) (hg:AllBare s'.gens)
  (hch:∀ b∈ch,(b∈X.ex∨X.s₀.heap.objs.size≤b)∧b≠X.env.locals∧(∀ x c,X.env.cells.lookup x=some c→c≠b)∧∀ p∈X.pn++pins,p.1≠b):Inv X pins σ H' s':=by
 obtain ⟨h',g',d',t',o'⟩:=s'
 have e:o'=s.os:=ho
 subst e
 exact I.call (g':=g') (t':=t') (d':=d') u hok hg hch
end
noncomputable abbrev XK:=Value→Option Addr→Hp→Prop
noncomputable abbrev St:=List (Option V)
noncomputable abbrev VK:=V→Hp→Prop
noncomputable abbrev TE:=St→Hp→VK→Prop
noncomputable abbrev TT:=St→Hp→(Bool→Hp→Prop)→Prop
noncomputable abbrev TA:=St→Hp→(List V→Hp→Prop)→Prop
structure Ends where
 nx:St→Hp→Prop
 rt:VK
 bk:St→Hp→Prop:=fun _ _=>False
 ct:St→Hp→Prop:=fun _ _=>False
noncomputable abbrev TS:=Ends→St→Hp→Prop
inductive EP (X:Cx) (pins:yD) (σ:St) (Q:VK) (u:Value) (s':Shared):Prop
 | mk (v:V) (H':Hp) (I:Inv X pins σ H' s') (r:RelV v u) (q:Q v H')
inductive TP (X:Cx) (pins:yD) (σ:St) (Q:Bool→Hp→Prop) (b:Bool) (s':Shared):Prop
 | mk (H':Hp) (I:Inv X pins σ H' s') (q:Q b H')
inductive AP (X:Cx) (pins:yD) (σ:St) (Q:List V→Hp→Prop) (us:yB) (s':Shared):Prop
 | mk (vs:List V) (H':Hp) (I:Inv X pins σ H' s') (r:Vals vs us) (q:Q vs H')
def SP (X:Cx) (pins:yD) (D:Ends) (f:Flow) (s':Shared):Prop :=
 match f with
 | .next=>∃ σ' H',Inv X pins σ' H' s'∧D.nx σ' H'
 | .brk=>∃ σ' H',Inv X pins σ' H' s'∧D.bk σ' H'
 | .cont=>∃ σ' H',Inv X pins σ' H' s'∧D.ct σ' H'
 | .ret u=>∃ v σ' H',Inv X pins σ' H' s'∧RelV v u∧D.rt v H'
def PE (X:Cx) (e:Expr) (t:TE):Prop :=
 ∀ (pins:yD) (s:Shared) (σ:St) (H:Hp) (Q:VK),Inv X pins σ H s→t σ H Q→wpAny (model X.prog X.w) X.A (eval e X.env) (EP X pins σ Q) X.xe s
def PT (X:Cx) (e:Expr) (t:TT):Prop :=
 ∀ (pins:yD) (s:Shared) (σ:St) (H:Hp) (Q:Bool→Hp→Prop),Inv X pins σ H s→t σ H Q→wpAny (model X.prog X.w) X.A (isTrue e X.env (eval e X.env)) (TP X pins σ Q) X.xe s
def PW (X:Cx) (e:Expr) (t:TT):Prop :=
 ∀ (whole:Sem Value) (pins:yD) (s:Shared) (σ:St) (H:Hp) (Q:Bool→Hp→Prop),Inv X pins σ H s→t σ H Q→wpAny (model X.prog X.w) X.A (isTrue e X.env whole) (TP X pins σ Q) X.xe s
theorem PW.pt {X:Cx}{e:Expr}{t:TT} (h:PW X e t):PT X e t:=h _
def PA (X:Cx) (es:yE) (t:TA):Prop :=
 ∀ (pos:Pos) (pins:yD) (s:Shared) (σ:St) (H:Hp) (Q:List V→Hp→Prop),Inv X pins σ H s→t σ H Q→wpAny (model X.prog X.w) X.A (spliced (backTo pos (starEach es X.env))) (AP X pins σ Q) X.xe s
def PS (X:Cx) (st:Stmt) (t:TS):Prop :=
 ∀ (pins:yD) (s:Shared) (σ:St) (H:Hp) (D:Ends),Inv X pins σ H s→t D σ H→wpAny (model X.prog X.w) X.A (exec st X.env) (SP X pins D) X.xe s
def PSs (X:Cx) (st:List Stmt) (t:TS):Prop :=
 ∀ (pins:yD) (s:Shared) (σ:St) (H:Hp) (D:Ends),Inv X pins σ H s→t D σ H→wpAny (model X.prog X.w) X.A (execs st X.env) (SP X pins D) X.xe s
theorem thn {α:Type}{t:Sem α}{Q Q':α→Shared→Prop}{M:Model}{A:Around}{E:yL}{s:Shared} (h:wpAny M A t Q E s) (hQ:∀ a s,Q a s→Q' a s):wpAny M A t Q' E s:=wpAny_mono h hQ fun _ _ x=>x
section
variable {X:Cx}
def tVar (i:Nat):TE:=fun σ H Q=>∃ v,σ[i]?=some (some v)∧Q v H
def tC (v:V):TE:=fun _ H Q=>Q v H
theorem zT4 {i:Nat}{x:Str}{pos:Pos} (hN:X.N[i]?=some x) (hv:Vis X.env.scope x) (hd:(x == ("__debug__":Str))=false:=by decide) (hcd:(x == ("__classdict__":Str))=false:=by decide):PE X (.Name x pos) (tVar i):=by
 intro pins s σ H Q I h
 obtain ⟨v,e,h⟩:=h
 obtain ⟨m,hn,hl⟩:=I.loc
 obtain ⟨u,r,l⟩:=hl i x v hN e hv
 have fin:EP X pins σ Q u s:=⟨v,H,I,r,h⟩
 rcases l with ⟨hk,hm⟩ | ⟨hk,c,hc,hcell⟩
 ·exact wpAny_Name (wpAny_loadName_local I.ok.kind hk hn hm fin) hd
 ·rcases hk with hk | hk
  ·exact wpAny_Name (wpAny_loadName_cell I.ok.kind hk hc hcell fin) hd
  ·exact wpAny_Name (wpAny_loadName_free I.ok.kind hk hc hcell fin hcd) hd
theorem zTc {i j pos}:PE X (.Constant (.int i) j pos) (tC (.int i)):=fun _ _ _ H _ I h=>wpAny_Constant_int ⟨.int i,H,I.tok _,⟨_,rfl⟩,h⟩
theorem zWb {b j pos}:PE X (.Constant (.bool b) j pos) (tC (.bl b)):=fun _ _ _ H _ I h=>Constant_bool ⟨.bl b,H,I,rfl,h⟩
theorem zTa {j pos}:PE X (.Constant .none j pos) (tC .non):=fun _ _ _ H _ I h=>Constant_none ⟨.non,H,I,rfl,h⟩
theorem zT6 {x j pos}:PE X (.Constant (.str x) j pos) (tC (.str x)):=fun _ _ _ H _ I h=>Calls.Constant_str ⟨.str x,H,I.tok _,⟨_,rfl⟩,h⟩
def Gl (X:Cx) (x:Str):Prop:=X.env.kindOf x=some .globalImplicit
theorem zRo {E:yL}{pins:yD}{s:Shared}{σ:St}{H:Hp}{x:Str}{u:Value}{pos:Pos}{Q:yL} (I:Inv X pins σ H s) (hg:Gl X x) (hm:X.mg x=some u) (h:Q u s)
  (hd:(x == ("__debug__":Str))=false:=by decide):wpAny (model X.prog X.w) X.A (eval (.Name x pos) X.env) Q E s :=
 Calls.Name_function_global I.ok.kind hg (Calls.loadGlobal_global (by rw [I.ok.glob]; exact I.mod.glob.keeps I.bk) hm h) hd
theorem zET {E:yL}{pins:yD}{s:Shared}{σ:St}{H:Hp}{x:Str}{u:Value}{pos:Pos}{Q:yL} (I:Inv X pins σ H s) (hg:Gl X x) (hm:X.mg x=none) (hv:bootBuiltins x=some u) (h:Q u s)
  (hn:x ≠ "__name__":=by decide) (hd:(x == ("__debug__":Str))=false:=by decide):wpAny (model X.prog X.w) X.A (eval (.Name x pos) X.env) Q E s:=by
 obtain ⟨mb,h1,h2⟩:=I.mod.blt
 exact Calls.Name_function_global I.ok.kind hg (Calls.loadGlobal_builtin (by rw [I.ok.glob]; exact I.mod.glob.keeps I.bk) hm (by rw [I.ok.blt]; exact h1.keeps I.bk) ((h2 x hn).trans hv) h) hd
theorem zR0 {x:Str}{v:V}{u:Value}{pos:Pos} (hg:Gl X x) (hm:X.mg x=none) (hv:bootBuiltins x=some u) (r:RelV v u) (hn:x ≠ "__name__":=by decide) (hd:(x == ("__debug__":Str))=false:=by decide):PE X (.Name x pos) (tC v) :=
 fun _ _ _ H _ I h=>zET I hg hm hv ⟨v,H,I,r,h⟩ hn hd
variable {a b:Expr}{ta tb:TE}{pos:Pos}
variable {tA tB':TT}{rest:yE}
def tAnd (t u:TT):TT:=fun σ H Q=>t σ H fun c H1=>if c=true then u σ H1 Q else Q false H1
def tOr (t u:TT):TT:=fun σ H Q=>t σ H fun c H1=>if c=true then Q true H1 else u σ H1 Q
def tNot (t:TT):TT:=fun σ H Q=>t σ H fun c H1=>Q (!c) H1
theorem zQI (ha:PT X a tA):PW X (.BoolOp .And [a] pos) tA:=by
 intro wh pins s σ H Q I h
 refine isTrue_and (thn (ha pins s σ H Q I h) fun c s1 e=>?_)
 cases c with
 | true=>exact isTrue_and_nil e
 | false=>exact e
theorem zSW (ha:PT X a tA):PW X (.BoolOp .Or [a] pos) tA:=by
 intro wh pins s σ H Q I h
 refine isTrue_or (thn (ha pins s σ H Q I h) fun c s1 e=>?_)
 cases c with
 | false=>exact isTrue_or_nil e
 | true=>exact e
theorem zSX (ha:PT X a tA) (hb:PW X (.BoolOp .And (b::rest) pos) tB'):PW X (.BoolOp .And (a::b::rest) pos) (tAnd tA tB'):=by
 intro wh pins s σ H Q I h
 refine isTrue_and (thn (ha pins s σ H _ I h) fun c s1 ⟨H1,I1,q1⟩=>?_)
 cases c with
 | true=>exact hb wh pins s1 σ H1 Q I1 q1
 | false=>exact ⟨H1,I1,q1⟩
theorem zW4 (ha:PT X a tA) (hb:PW X (.BoolOp .Or (b::rest) pos) tB'):PW X (.BoolOp .Or (a::b::rest) pos) (tOr tA tB'):=by
 intro wh pins s σ H Q I h
 refine isTrue_or (thn (ha pins s σ H _ I h) fun c s1 ⟨H1,I1,q1⟩=>?_)
 cases c with
 | true=>exact ⟨H1,I1,q1⟩
 | false=>exact hb wh pins s1 σ H1 Q I1 q1
theorem zSY (ha:PT X a tA):PT X (.UnaryOp .Not a pos) (tNot tA):=by
 intro pins s σ H Q I h
 exact isTrue_not (thn (ha pins s σ H (fun c H1=>Q (!c) H1) I h) fun c s' ⟨H',I',q⟩=>⟨H',I',q⟩)
def zVL (ta tb:TE):TE:=fun σ H Q=>ta σ H fun x H1=>∃ c,x=.bl c∧if c=true then tb σ H1 Q else Q (.bl false) H1
def tOrV (ta tb:TE):TE:=fun σ H Q=>ta σ H fun x H1=>∃ c,x=.bl c∧if c=true then Q (.bl true) H1 else tb σ H1 Q
def zVG (ta:TE):TE:=fun σ H Q=>ta σ H fun x H1=>∃ c,x=.bl c∧Q (.bl (!c)) H1
theorem zT8 {op}{t:TE} (h:PE X a t):PE X (.BoolOp op [a] pos) t:=fun pins s σ H Q I hw=>BoolOp_one (h pins s σ H Q I hw)
theorem zTe (ha:PE X a ta) (hb:PE X (.BoolOp .And (b::rest) pos) tb):PE X (.BoolOp .And (a::b::rest) pos) (zVL ta tb):=by
 intro pins s σ H Q I h
 refine BoolOp_and (thn (ha pins s σ H _ I h) fun v s1 ⟨x,H1,I1,r1,q1⟩=>?_)
 obtain ⟨c,rfl,q1⟩:=q1
 cases r1
 refine wpAny_truthy_bool ?_
 cases c with
 | true=>exact hb pins s1 σ H1 Q I1 q1
 | false=>exact ⟨.bl false,H1,I1,rfl,q1⟩
theorem zW7 (ha:PE X a ta) (hb:PE X (.BoolOp .Or (b::rest) pos) tb):PE X (.BoolOp .Or (a::b::rest) pos) (tOrV ta tb):=by
 intro pins s σ H Q I h
 refine BoolOp_or (thn (ha pins s σ H _ I h) fun v s1 ⟨x,H1,I1,r1,q1⟩=>?_)
 obtain ⟨c,rfl,q1⟩:=q1
 cases r1
 refine wpAny_truthy_bool ?_
 cases c with
 | false=>exact hb pins s1 σ H1 Q I1 q1
 | true=>exact ⟨.bl true,H1,I1,rfl,q1⟩
theorem zT9 (ha:PE X a ta):PE X (.UnaryOp .Not a pos) (zVG ta):=by
 intro pins s σ H Q I h
 refine UnaryOp_ (thn (ha pins s σ H _ I h) fun v s1 ⟨x,H1,I1,r1,q1⟩=>?_)
 obtain ⟨c,rfl,q1⟩:=q1
 cases r1
 exact not_of (wpAny_truthy_bool ⟨.bl (!c),H1,I1,rfl,q1⟩)
def tIf (t:TT) (ta tb:TE):TE:=fun σ H Q=>t σ H fun c H1=>if c=true then ta σ H1 Q else tb σ H1 Q
theorem zOw {c:Expr} (hc:PT X c tA) (ha:PE X a ta) (hb:PE X b tb):PE X (.IfExp c a b pos) (tIf tA ta tb):=by
 intro pins s σ H Q I h
 refine wpAny_IfExp (thn (hc pins s σ H _ I h) fun d s1 ⟨H1,I1,q1⟩=>?_)
 cases d with
 | true=>exact ha pins s1 σ H1 Q I1 q1
 | false=>exact hb pins s1 σ H1 Q I1 q1
end
def SqL (K:W.Frag) (H:Hp) (a:Addr) (xs:List V):Prop :=
 Rd H a (.lst xs) ∨
  ∃ (o:Obj) (its:yJ) (n:Nat),K.lookup a=some o∧o.cls=.type "list"∧o.dict=none∧o.data=.seq its n∧its.size≤sizeLine∧Vals xs its.toList
def SqT (K:W.Frag) (H:Hp) (a:Addr) (xs:List V):Prop :=
 Rd H a (.tup xs) ∨
  ∃ (o:Obj) (its:yJ) (n:Nat),K.lookup a=some o∧o.cls=.type "tuple"∧o.data=.seq its n∧its.size≤sizeLine∧Vals xs its.toList
noncomputable def absV:Value→Option V
 | .none=>some .non
 | .bool b=>some (.bl b)
 | .int i _=>some (.int i)
 | .str x _=>some (.str x)
 | .bytes b _=>some (.byt b)
 | .float b _=>some (.flt b)
 | .ref a=>some (.ref a)
 | .type n=>some (.ty n)
 | _=>none
theorem RelV.abs {x:V}{u:Value} (r:RelV x u):absV u=some x:=by
 cases x with
 | non=>cases r; rfl
 | bl _=>cases r; rfl
 | int _=>obtain ⟨t,rfl⟩:=r; rfl
 | str _=>obtain ⟨t,rfl⟩:=r; rfl
 | byt _=>obtain ⟨t,rfl⟩:=r; rfl
 | flt _=>obtain ⟨t,rfl⟩:=r; rfl
 | ref _=>cases r; rfl
 | ty _=>cases r; rfl
theorem RelV.inj {x y:V}{u:Value} (r:RelV x u) (q:RelV y u):x=y:=Option.some.inj (r.abs.symm.trans q.abs)
theorem Vals.inj:∀ {xs ys:List V}{us:yB},Vals xs us→Vals ys us→xs=ys
 | _,_,_,.nil,.nil=>rfl
 | _,_,_,.cons r t,.cons r' t'=>by rw [r.inj r',Vals.inj t t']
section
variable {X:Cx}{pins:yD}{σ:St}{H:Hp}{s:Shared}{a:Addr}{xs ys:List V}
theorem SqL.of {K:W.Frag} (h:H a=some (.lst xs)):SqL K H a xs:=.inl (.inl h)
theorem SqT.of {K:W.Frag} (h:H a=some (.tup xs)):SqT K H a xs:=.inl (.inl h)
theorem Inv.list (I:Inv X pins σ H s) (h:SqL X.K H a xs):∃ its:yB,Vals xs its∧PlainL s.heap a its.toArray∧xs.length≤sizeLine:=by
 rcases h with h | ⟨o,its,n,hk,hc,hd,hs,hz,r⟩
 ·obtain ⟨z,its,n,r,e⟩:=h.ok I.hok
  exact ⟨its,r,⟨_,n,e,rfl,rfl,rfl⟩,z⟩
 ·refine ⟨its.toList,r,⟨o,n,I.kIn a o hk,hc,hd,by simpa using hs⟩,?_⟩
  have e:=r.length
  simp only [Array.length_toList] at e
  omega
theorem Inv.tuple (I:Inv X pins σ H s) (h:SqT X.K H a xs):∃ its:yB,Vals xs its∧IsTup s.heap a its.toArray∧xs.length≤sizeLine:=by
 rcases h with h | ⟨o,its,n,hk,hc,hs,hz,r⟩
 ·obtain ⟨z,its,r,p⟩:=h.ok I.hok
  exact ⟨its,r,p,z⟩
 ·refine ⟨its.toList,r,⟨o,I.kIn a o hk,hc,n,by simpa using hs⟩,?_⟩
  have e:=r.length
  simp only [Array.length_toList] at e
  omega
theorem Inv.list_inj (I:Inv X pins σ H s) (h:SqL X.K H a xs) (h':SqL X.K H a ys):xs=ys:=by
 obtain ⟨its,r,⟨o,n,e,_,_,d⟩,_⟩:=I.list h
 obtain ⟨its',r',⟨o',n',e',_,_,d'⟩,_⟩:=I.list h'
 rw [e] at e'; cases e'
 rw [d] at d'
 injection d' with d1 _
 have:its=its':=by simpa using congrArg Array.toList d1
 subst this
 exact r.inj r'
theorem Inv.tuple_inj (I:Inv X pins σ H s) (h:SqT X.K H a xs) (h':SqT X.K H a ys):xs=ys:=by
 obtain ⟨its,r,⟨o,e,_,n,d⟩,_⟩:=I.tuple h
 obtain ⟨its',r',⟨o',e',_,n',d'⟩,_⟩:=I.tuple h'
 rw [e] at e'; cases e'
 rw [d] at d'
 injection d' with d1 _
 have:its=its':=by simpa using congrArg Array.toList d1
 subst this
 exact r.inj r'
end
noncomputable abbrev Cx.wish (X:Cx) (E:yL):Cx:={ X with xe:=E }
noncomputable abbrev Cx.nox (X:Cx):Cx:=X.wish fun _ _=>False
theorem Cx.Ok.wish {X:Cx} (ok:X.Ok) (E:yL):(X.wish E).Ok :=
 ⟨ok.mod,ok.kind,ok.glob,ok.blt,ok.above,ok.inj,ok.has,ok.cab,ok.hd,ok.frames,ok.stk,ok.exf,ok.bs,ok.bsz,ok.noex,ok.exfs,ok.funs,ok.frf⟩
theorem Cx.Ok.unwish {X:Cx}{E:yL} (ok:(X.wish E).Ok):X.Ok :=
 ⟨ok.mod,ok.kind,ok.glob,ok.blt,ok.above,ok.inj,ok.has,ok.cab,ok.hd,ok.frames,ok.stk,ok.exf,ok.bs,ok.bsz,ok.noex,ok.exfs,ok.funs,ok.frf⟩
section
variable {X:Cx}{pins:yD}{σ:St}{H:Hp}{s:Shared}{E:yL}
theorem Inv.wish (I:Inv X pins σ H s) (E:yL):Inv (X.wish E) pins σ H s:=⟨I.ok.wish E,I.os,I.bare,I.base,I.loc,I.cell,I.free,I.freeC,I.pin,I.hok,I.len⟩
theorem Inv.unwish (I:Inv (X.wish E) pins σ H s):Inv X pins σ H s:=⟨I.ok.unwish,I.os,I.bare,I.base,I.loc,I.cell,I.free,I.freeC,I.pin,I.hok,I.len⟩
theorem SP.unwish {D:Ends}{f:Flow}{s':Shared} (h:SP (X.wish E) pins D f s'):SP X pins D f s':=by
 cases f with
 | next=>obtain ⟨σ',H',I,q⟩:=h; exact ⟨σ',H',I.unwish,q⟩
 | brk=>obtain ⟨σ',H',I,q⟩:=h; exact ⟨σ',H',I.unwish,q⟩
 | cont=>obtain ⟨σ',H',I,q⟩:=h; exact ⟨σ',H',I.unwish,q⟩
 | ret u=>obtain ⟨v,σ',H',I,r,q⟩:=h; exact ⟨v,σ',H',I.unwish,r,q⟩
theorem PSs.nox {st:List Stmt}{t:TS} (h:PSs X.nox st t):PSs X st t:=fun pins s σ H D I hw =>
 wpAny_mono (h pins s σ H D (I.wish _) hw) (fun _ _ q=>q.unwish) fun _ _ z=>False.elim z
end
section
variable {X:Cx}{st:Stmt}{rest:List Stmt}{t u:TS}{e:Expr}{te:TE}{pos:Pos}
def zSj:TS:=fun D σ H=>D.nx σ H
def tSeq (t u:TS):TS:=fun D σ H=>t { D with nx:=u D } σ H
theorem zQM:PSs X [] zSj:=fun _ _ σ H _ I h=>wpAny_execs_nil ⟨σ,H,I,h⟩
theorem zOk (h1:PS X st t) (h2:PSs X rest u):PSs X (st::rest) (tSeq t u):=by
 intro pins s σ H D I h
 refine wpAny_execs_cons (thn (h1 pins s σ H { D with nx:=u D } I h) fun f s1 q=>?_)
 cases f with
 | next =>
  obtain ⟨σ',H',I',q⟩:=q
  exact h2 pins s1 σ' H' D I' q
 | ret v=>exact q
 | brk=>exact q
 | cont=>exact q
def zSn:TS:=fun D σ H=>D.bk σ H
def zVJ:TS:=fun D σ H=>D.ct σ H
theorem zQP:PS X (.Pass pos) zSj:=fun _ _ σ H _ I h=>wpAny_Pass ⟨σ,H,I,h⟩
theorem zOn:PS X (.Break pos) zSn:=fun _ _ σ H _ I h=>wpAny_Break ⟨σ,H,I,h⟩
theorem zJ6:PS X (.Continue pos) zVJ:=fun _ _ σ H _ I h=>wpAny_Continue ⟨σ,H,I,h⟩
theorem Inv.quiet {pins:yD}{σ:St}{H:Hp}{s:Shared} (I:Inv X pins σ H s):interactive X.env=false:=by simp [interactive,I.ok.kind]
def zVH (te:TE):TS:=fun D σ H=>te σ H fun _ H1=>D.nx σ H1
theorem zQQ (he:PE X e te) (hs:swapsWith e none pos.line X.env=pure false:=by rfl):PS X (.Expr e pos) (zVH te):=by
 intro pins s σ H D I h
 exact wpAny_Expr_any (thn (he pins s σ H _ I h) fun v s1 ⟨x,H1,I1,r1,q1⟩=>⟨σ,H1,I1,q1⟩) I.quiet hs
def tRet (te:TE):TS:=fun D σ H=>te σ H D.rt
theorem zSZ (he:PE X e te):PS X (.Return (some e) pos) (tRet te):=by
 intro pins s σ H D I h
 exact wpAny_Return_some (thn (he pins s σ H _ I h) fun v s1 ⟨x,H1,I1,r1,q1⟩=>⟨x,σ,H1,I1,r1,q1⟩)
def zVE:TS:=fun D _ H=>D.rt .non H
theorem zQO:PS X (.Return none pos) zVE:=fun _ _ σ H _ I h=>wpAny_Return_none ⟨.non,σ,H,I,rfl,h⟩
def tIfS (c:TT) (t u:TS):TS:=fun D σ H=>c σ H fun b H1=>if b=true then t D σ H1 else u D σ H1
theorem zW5 {c:Expr}{a b:List Stmt}{tc:TT} (hc:PT X c tc) (ha:PSs X a t) (hb:PSs X b u):PS X (.If c a b pos) (tIfS tc t u):=by
 intro pins s σ H D I h
 refine wpAny_If (thn (hc pins s σ H _ I h) fun d s1 ⟨H1,I1,q1⟩=>?_)
 cases d with
 | true=>exact ha pins s1 σ H1 D I1 q1
 | false=>exact hb pins s1 σ H1 D I1 q1
def zSk:TS:=fun _ _ _=>False
theorem zOm:PS X st zSk:=fun _ _ _ _ _ _ h=>h.elim
end
noncomputable abbrev TG:=V→St→Hp→(St→Hp→Prop)→Prop
noncomputable abbrev TGs:=List V→St→Hp→(St→Hp→Prop)→Prop
def PG (X:Cx) (target:Expr) (t:TG):Prop :=
 ∀ (pins:yD) (s:Shared) (σ:St) (H:Hp) (v:V) (u:Value) (Q:St→Hp→Prop),Inv X pins σ H s→RelV v u→t v σ H Q →
  wpAny (model X.prog X.w) X.A (assign target X.env u) (fun _ s'=>∃ σ' H',Inv X pins σ' H' s'∧Q σ' H') X.xe s
def PGs (X:Cx) (ts:yE) (t:TGs):Prop :=
 ∀ (pins:yD) (s:Shared) (σ:St) (H:Hp) (vs:List V) (us:yB) (Q:St→Hp→Prop),Inv X pins σ H s→Vals vs us→t vs σ H Q →
  wpAny (model X.prog X.w) X.A (assignInOrder ((assignEach ts X.env).map (·.2)) us) (fun _ s'=>∃ σ' H',Inv X pins σ' H' s'∧Q σ' H') X.xe s
noncomputable abbrev TSet:=V→V→V→Hp→(Hp→Prop)→Prop
def PSet (X:Cx) (t:TSet):Prop :=
 ∀ (pins:yD) (s:Shared) (σ:St) (H:Hp) (o i v:V) (ov iv u:Value) (Q:Hp→Prop),Inv X pins σ H s→RelV o ov→RelV i iv→RelV v u→t o i v H Q →
  wpAny (model X.prog X.w) X.A (setItem ov iv u) (fun _ s'=>∃ H',Inv X pins σ H' s'∧Q H') X.xe s
section
variable {X:Cx}{pos:Pos}
def zJv (i:Nat):TG:=fun v σ H Q=>Q (σ.set i (some v)) H
theorem zGt {i:Nat}{x:Str} (hN:X.N.Nodup) (hi:X.N[i]?=some x) (hx:Loc X.env.scope x) (hf:X.fn x=true∨X.env.scope.names.lookup x=some .local:=by first | exact .inl rfl | exact .inr rfl | assumption):PG X (.Name x pos) (zJv i):=by
 intro pins s σ H v u Q I r h
 exact wpAny_assign_Name (zO0 I hN hi hx r (fun s' I'=>⟨_,H,I',h⟩) hf)
def gNil:TGs:=fun vs σ H Q=>vs=[]∧Q σ H
def zUq (t:TG) (u:TGs):TGs:=fun vs σ H Q=>∃ v r,vs=v::r∧t v σ H fun σ' H'=>u r σ' H' Q
theorem zMj:PGs X [] gNil:=by
 intro pins s σ H vs us Q I r h
 obtain ⟨e,h⟩:=h
 subst e
 cases r
 exact assignInOrder_nil ⟨σ,H,I,h⟩
theorem zKb {e:Expr}{es:yE}{t:TG}{u:TGs} (h1:PG X e t) (h2:PGs X es u)
  (hs:(assignEach (e::es) X.env).map (·.2)=assign e X.env::(assignEach es X.env).map (·.2):=by rfl):PGs X (e::es) (zUq t u):=by
 intro pins s σ H vs us Q I r h
 obtain ⟨v,vr,e1,h⟩:=h
 subst e1
 cases r with
 | cons r rr =>
  rw [hs]
  refine assignInOrder_cons (thn (h1 pins s σ H _ _ _ I r h) fun _ s1 ⟨σ1,H1,I1,q1⟩=>?_)
  exact h2 pins s1 σ1 H1 _ _ Q I1 rr q1
def gTup (K:W.Frag) (n:Nat) (t:TGs):TG:=fun v σ H Q=>∃ a xs,v=.ref a∧SqT K H a xs∧xs.length=n∧t xs σ H Q
theorem zPG {es:yE}{k:Nat}{t:TGs}{n:Nat} (hc:X.calm=true) (h:PGs X es t)
  (hn:(assignEach es X.env).length=n:=by rfl) (hst:(assignEach es X.env).findIdx? (·.1)=none:=by rfl):PG X (.Tuple es k pos) (gTup X.K n t):=by
 intro pins s σ H v u Q I r hw
 obtain ⟨a,xs,e1,hq,hl,hw⟩:=hw
 subst e1
 cases r
 obtain ⟨its,rv,ht,hz⟩:=I.tuple hq
 refine assign_Tuple_tuple (I.ok.hd hc) ht (by simp [hn,← hl,rv.length]) hst fun h' hx=>?_
 have I1:Inv X pins σ H { s with heap:=h' }:=I.kept (t':=s.toks) fun b o e=>hx b o (qC4 (qB5 e)) e
 exact h pins _ σ H xs _ Q I1 (by simpa using rv) hw
def gSub (to ti:TE) (t:TSet):TG:=fun v σ H Q=>to σ H fun o H1=>ti σ H1 fun i H2=>t o i v H2 fun H3=>Q σ H3
theorem zT3 {o i:Expr}{to ti:TE}{t:TSet} (ho:PE X o to) (hi:PE X i ti) (hs:PSet X t)
  (ha:∀ v,assign (.Subscript o i pos) X.env v=(do
   let ov ← holding [v] (eval o X.env)
   let iv ← holding [v,ov] (eval i X.env)
   standAt pos
   holding [v,ov,iv] (setItem ov iv v)
   release [v,ov,iv] []):=by intro _; rfl):PG X (.Subscript o i pos) (gSub to ti t):=by
 intro pins s σ H v u Q I r h
 rw [ha]
 refine wpAny_bind (wpAny_holding (thn (ho pins s σ H _ I h) fun ov s1 ⟨x,H1,I1,r1,q1⟩=>?_))
 refine wpAny_bind (wpAny_holding (thn (hi pins s1 σ H1 _ I1 q1) fun iv s2 ⟨y,H2,I2,r2,q2⟩=>?_))
 refine wpAny_bind (wpAny_standAt (wpAny_bind (wpAny_holding (thn (hs pins s2 σ H2 x y v ov iv u _ I2 r1 r2 r q2) fun _ s3 ⟨H3,I3,q3⟩=>?_))))
 exact wpAny_release ⟨σ,H3,I3,q3⟩
def tAsg (te:TE) (g:TG):TS:=fun D σ H=>te σ H fun x H1=>g x σ H1 D.nx
theorem zT1 {tg e:Expr}{te:TE}{g:TG} (he:PE X e te) (hg:PG X tg g) (hs:swapsWithSole [tg] e pos.line X.env=pure false:=by rfl) (hw:swappedStores [tg] e X.env=pure none:=by rfl)
  (h1:(assignEach [tg] X.env).map (·.2)=[assign tg X.env]:=by rfl):PS X (.Assign [tg] e pos) (tAsg te g):=by
 intro pins s σ H D I h
 refine wpAny_Assign_stores (thn (he pins s σ H _ I h) fun v s1 ⟨x,H1,I1,r1,q1⟩=>?_) hs hw
 rw [h1]
 exact thn (hg pins s1 σ H1 x v _ I1 r1 q1) fun _ s2 q=>q
end
section
variable {X:Cx}{pos:Pos}
def zSi (c:TT) (tb:TS):TS:=fun D σ H=>∃ W:Nat→St→Hp→Prop,(∃ m,W m σ H)∧∀ m σ H,W m σ H →
 c σ H fun b H1=>if b=true then ∃ N:St→Hp→Prop,(∀ σ' H',N σ' H'→∃ m',m'<m∧W m' σ' H')∧tb { D with nx:=N,ct:=N,bk:=D.nx } σ H1 else D.nx σ H1
theorem zOl {c:Expr}{body:List Stmt}{tc:TT}{tb:TS} (hp:PassesOwn (model X.prog X.w) X.A X.env X.xe) (hc:PT X c tc) (hb:PSs X body tb):PS X (.While c body [] pos) (zSi tc tb):=by
 intro pins s σ H D I h
 obtain ⟨W,⟨m0,w0⟩,turn⟩:=h
 refine wpAny_While (codeAny_whileLoop (fun n s'=>∃ σ' H',Inv X pins σ' H' s'∧W n σ' H') ?_ m0 ⟨σ,H,I,w0⟩)
 rintro n s1 ⟨σ1,H1,I1,w1⟩
 refine wpAny_passesOwn hp (thn (hc pins s1 σ1 H1 _ I1 (turn n σ1 H1 w1)) fun b s2 ⟨H2,I2,q2⟩=>?_)
 cases b with
 | true =>
  obtain ⟨N,hN,q2⟩:=q2
  rw [if_pos rfl]
  refine wpAny_passesOwn hp (thn (hb pins s2 σ1 H2 _ I2 q2) fun f s3 q3=>?_)
  cases f with
  | next =>
   obtain ⟨σ3,H3,I3,n3⟩:=q3
   obtain ⟨m',hm,w3⟩:=hN σ3 H3 n3
   exact ⟨m',hm,σ3,H3,I3,w3⟩
  | cont =>
   obtain ⟨σ3,H3,I3,n3⟩:=q3
   obtain ⟨m',hm,w3⟩:=hN σ3 H3 n3
   exact ⟨m',hm,σ3,H3,I3,w3⟩
  | brk=>exact q3
  | ret v=>exact q3
 | false =>
  rw [if_neg qB2]
  exact wpAny_execs_nil ⟨σ1,H2,I2,q2⟩
end
structure It where
 go:Nat→Hp→Prop
 yld:Nat→Hp→V→Hp→Prop
 stop:Nat→Hp→Prop
def FpOk (X:Cx) (pins:yD) (H:Hp) (b:Addr):Prop :=
 H b=none∧b≠X.env.locals∧b∉X.fs∧(b∈X.ex∨X.s₀.heap.objs.size≤b)∧(∀ x c,X.env.cells.lookup x=some c→c≠b)∧∀ p∈X.pn++pins,p.1≠b
theorem Inv.fpOk {X:Cx}{pins:yD}{σ:St}{H H':Hp}{s:Shared}{b:Addr} (I:Inv X pins σ H s) (hb:s.heap.objs.size≤b) (hn:H' b=none):FpOk X pins H' b:=by
 refine ⟨hn,qJ3 (qC1 I.lt hb),I.nofs hb,.inr (qC5 I.sz hb),fun x c e z=>?_,fun p hp z=>?_⟩
 ·obtain ⟨v,q⟩:=I.cell x c e
  exact absurd (qC1 q.lt (by rw [z]; exact hb)) (qI1 _)
 ·exact absurd (qC1 (qB5 (I.pin p hp).1) (by rw [z]; exact hb)) (qI1 _)
structure Turn (P:Program) (w:World) (K:W.Frag) (tg:Expr) (J:It) (fp:yC) (it:Addr) (tn:Nat→Heap→Prop):Prop where
 mem:it∈fp
 obj:∀ i h,tn i h→∀ b∈fp,∃ o,h.get? b=some o∧∀ v,o.data≠.cell v
 keep:∀ i h h',tn i h→(∀ b∈fp,∀ o,h.get? b=some o→h'.get? b=some o)→tn i h'
 item:∀ (X:Cx),X.prog=P→X.w=w→X.K=K→X.calm=true→∀ (i:Nat) (pins:yD) (s:Shared) (σ:St) (H:Hp) (E:yL),Inv X pins σ H s→(∀ b∈fp,FpOk X pins H b)→tn i s.heap→J.go i H →
  wpAny (model P w) X.A (pyNext (.ref it)) (fun r s1=>∃ u,r=some u ∧
   wpAny (model P w) X.A (letOwnedTupleGo tg (.ref it) u) (fun _ s2=>∃ x H',Inv X pins σ H' s2∧RelV x u∧J.yld i H x H'∧tn (i+1) s2.heap∧∀ b∈fp,H' b=none) E s1) E s
 done:∀ (X:Cx),X.prog=P→X.w=w→X.K=K→X.calm=true→∀ (i:Nat) (pins:yD) (s:Shared) (σ:St) (H:Hp) (E:yL),Inv X pins σ H s→(∀ b∈fp,FpOk X pins H b)→tn i s.heap→J.stop i H →
  wpAny (model P w) X.A (pyNext (.ref it)) (fun r s1=>r=none∧Inv X pins σ H s1) E s
 self:∀ (A:Around) (i:Nat) (s:Shared) (Q:yL) (E:yL),tn i s.heap→Q (.ref it) s→wpAny (model P w) A (pyIter (.ref it)) Q E s
noncomputable abbrev TI:=St→Hp→(It→Hp→Prop)→Prop
inductive PIE (X:Cx) (pins:yD) (σ:St) (tg:Expr) (R:It→Hp→Prop) (itv:Value) (s2:Shared):Prop
 | mk (it:Addr) (fp:yC) (tn:Nat→Heap→Prop) (J:It) (H':Hp) (e:itv=.ref it) (I:Inv X pins σ H' s2) (T:Turn X.prog X.w X.K tg J fp it tn) (t0:tn 0 s2.heap) (f:∀ b∈fp,FpOk X pins H' b) (r:R J H')
def PI (X:Cx) (tg iter:Expr) (wi:TI):Prop :=
 ∀ (pins:yD) (s:Shared) (σ:St) (H:Hp) (R:It→Hp→Prop),Inv X pins σ H s→wi σ H R →
  wpAny (model X.prog X.w) X.A (eval iter X.env) (fun v s1=>wpAny (model X.prog X.w) X.A (pyIter v) (PIE X pins σ tg R) X.xe s1) X.xe s
theorem zRH {M:Model}{A:Around}{E:yL}{s:Shared}{tg:Expr}{it:Addr}{u:Value}{o:Obj}{n:String}{vs:yJ}{Q:Unit→Shared→Prop} (ho:s.heap.get? it=some o) (hc:o.cls=.type n) (hd:o.data=.fields vs)
    (hn:["enumerate","zip","dict_itemiterator","dict_reverseitemiterator","odict_iterator","itertools.zip_longest","itertools.pairwise"].contains n=false) (hQ:Q () s):wpAny M A (letOwnedTupleGo tg (.ref it) u) Q E s:=by
  unfold letOwnedTupleGo
  cases tg <;> first
    | exact wpAny_pure hQ
    | (cases u <;> first
        | exact wpAny_pure hQ
        | (refine wpAny_bind (wpAny_load ho ?_)
           rw [hc,hd]
           show wpAny M A (if (["enumerate","zip","dict_itemiterator","dict_reverseitemiterator","odict_iterator","itertools.zip_longest","itertools.pairwise"].contains n&&vs[0]? == some (rawInt _))=true then _ else _) Q E s
           rw [if_neg (by intro h; rw [hn,qL1] at h; cases h)]
           exact wpAny_pure hQ))
noncomputable def Itl (K:W.Frag) (a:Addr):It :=
 ⟨fun i H=>∃ xs x,SqL K H a xs∧xs[i]?=some x,fun i H x H'=>H'=H∧∀ xs,SqL K H a xs→xs[i]?=some x,fun i H=>∃ xs,SqL K H a xs∧xs.length≤i⟩
noncomputable def Itt (K:W.Frag) (a:Addr):It :=
 ⟨fun i H=>∃ xs x,SqT K H a xs∧xs[i]?=some x,fun i H x H'=>H'=H∧∀ xs,SqT K H a xs→xs[i]?=some x,fun i H=>∃ xs,SqT K H a xs∧xs.length≤i⟩
noncomputable def Itr (lo:Int) (n:Nat):It:=⟨fun i _=>i<n,fun i H x H'=>H'=H∧x=.int (lo+i),fun i _=>n≤i⟩
theorem zLN {P:Program}{w:World}{K:W.Frag}{tg:Expr} (a it:Addr):Turn P w K tg (Itl K a) [it] it (fun i h=>h.IsListIter it a i) where
 mem:=by simp
 obj:=fun i h st b hb=>by
  have e:b=it:=by simpa using hb
  subst e
  obtain ⟨o,e,c,d⟩:=st
  exact ⟨o,e,fun v z=>by rw [d] at z; cases z⟩
 keep:=fun i h h' st k=>st.at fun o e=>k it (by simp) o e
 item:=by
  intro X hP hw hK hc i pins s σ H E I hf st hg
  subst hP hw hK
  obtain ⟨xs,x,hq,hx⟩:=hg
  obtain ⟨its,rv,p,hz⟩:=I.list hq
  obtain ⟨u,hu,ru⟩:=rv.get hx
  obtain ⟨f0,f1,f2,f3,f4,f5⟩:=hf it (by simp)
  refine wpAny_pyNext_list_item st p.isList (x:=u) (by simpa using hu) fun h' st' sb=>?_
  have I1:Inv X pins σ H { s with heap:=h' }:=I.turned (t':=s.toks) (fun b o hb e=>(sb.2 b hb).trans e) f0 f1 f3 f4 f5
  obtain ⟨o,e,c,d⟩:=id st'
  exact ⟨u,rfl,zRH (s:={ s with heap:=h' }) e c d (by decide) ⟨x,H,I1,ru,⟨rfl,fun ys hy=>by rw [I.list_inj hy hq]; exact hx⟩,st',fun b hb=>(hf b hb).1⟩⟩
 done:=by
  intro X hP hw hK hc i pins s σ H E I hf st hg
  subst hP hw hK
  obtain ⟨xs,hq,hx⟩:=hg
  obtain ⟨its,rv,p,hz⟩:=I.list hq
  obtain ⟨f0,f1,f2,f3,f4,f5⟩:=hf it (by simp)
  have hl:=rv.length
  exact wpAny_pyNext_list_end (I.ok.hd hc) st p.isList (by simp; omega) fun h' eb=>⟨rfl,I.turned (t':=s.toks) (fun b o hb e=>eb b o hb e) f0 f1 f3 f4 f5⟩
 self:=fun _ _ _ _ _ st h=>wpAny_pyIter_listiter st h
theorem zKK {P:Program}{w:World}{K:W.Frag}{tg:Expr} (a it:Addr):Turn P w K tg (Itt K a) [it] it (fun i h=>h.IsTupleIter it a i) where
 mem:=by simp
 obj:=fun i h st b hb=>by
  have e:b=it:=by simpa using hb
  subst e
  obtain ⟨o,e,c,d⟩:=st
  exact ⟨o,e,fun v z=>by rw [d] at z; cases z⟩
 keep:=fun i h h' st k=>st.at fun o e=>k it (by simp) o e
 item:=by
  intro X hP hw hK hc i pins s σ H E I hf st hg
  subst hP hw hK
  obtain ⟨xs,x,hq,hx⟩:=hg
  obtain ⟨its,rv,p,hz⟩:=I.tuple hq
  obtain ⟨u,hu,ru⟩:=rv.get hx
  obtain ⟨f0,f1,f2,f3,f4,f5⟩:=hf it (by simp)
  refine wpAny_pyNext_tuple_item st (show s.heap.IsTuple a its.toArray from p) (x:=u) (by simpa using hu) fun h' st' sb=>?_
  have I1:Inv X pins σ H { s with heap:=h' }:=I.turned (t':=s.toks) (fun b o hb e=>(sb.2 b hb).trans e) f0 f1 f3 f4 f5
  obtain ⟨o,e,c,d⟩:=id st'
  exact ⟨u,rfl,zRH (s:={ s with heap:=h' }) e c d (by decide) ⟨x,H,I1,ru,⟨rfl,fun ys hy=>by rw [I.tuple_inj hy hq]; exact hx⟩,st',fun b hb=>(hf b hb).1⟩⟩
 done:=by
  intro X hP hw hK hc i pins s σ H E I hf st hg
  subst hP hw hK
  obtain ⟨xs,hq,hx⟩:=hg
  obtain ⟨its,rv,p,hz⟩:=I.tuple hq
  obtain ⟨f0,f1,f2,f3,f4,f5⟩:=hf it (by simp)
  have hl:=rv.length
  exact wpAny_pyNext_tuple_end (I.ok.hd hc) st (show s.heap.IsTuple a its.toArray from p) (by simp; omega) fun h' eb=>⟨rfl,I.turned (t':=s.toks) (fun b o hb e=>eb b o hb e) f0 f1 f3 f4 f5⟩
 self:=fun _ _ _ _ _ st h=>wpAny_pyIter_tupleiter st h
theorem zKL {P:Program}{w:World}{K:PySem.W.Frag}{tg:Expr} (it:Addr) (lo:Int) (n:Nat):Turn P w K tg (Itr lo n) [it] it (fun i h=>IsRangeIter h it (lo+(i:Nat)*1) ((n:Int) - (i:Nat)) 1) where
 mem:=by simp
 obj:=fun i h st b hb=>by
  have e:b=it:=by simpa using hb
  subst e
  exact ⟨_,st,fun v z=>by
   have z':Data.fields _=Data.cell v:=z
   cases z'⟩
 keep:=fun i h h' st k=>k it (by simp) _ st
 item:=by
  intro X hP hw hK hc i pins s σ H E I hf st hg
  subst hP hw hK
  obtain ⟨f0,f1,f2,f3,f4,f5⟩:=hf it (by simp)
  have W:=Walks.range (prog:=X.prog) (w:=X.w) (I.ok.hd hc) it lo 1 n
  refine W.item i s _ _ hg st fun v h' tk hv st' kk=>?_
  obtain ⟨t,rfl⟩:=hv
  have I1:Inv X pins σ H { s with heap:=h',toks:=tk }:=I.turned (fun b o hb e=>kk b o (by simpa using hb) e) f0 f1 f3 f4 f5
  refine ⟨_,rfl,zRH (s:={ s with heap:=h',toks:=tk }) (n := "range_iterator") st' rfl rfl (by decide) ⟨.int (lo+i),H,I1,⟨t,?_⟩,⟨rfl,rfl⟩,st',fun b hb=>(hf b hb).1⟩⟩
  rw [Int.mul_one]
 done:=by
  intro X hP hw hK hc i pins s σ H E I hf st hg
  subst hP hw hK
  obtain ⟨f0,f1,f2,f3,f4,f5⟩:=hf it (by simp)
  exact wpAny_pyNext_range_end (I.ok.hd hc) st (by have:n≤i:=hg; omega) fun h' eb=>⟨rfl,I.turned (t':=s.toks) (fun b o hb e=>eb b o hb e) f0 f1 f3 f4 f5⟩
 self:=fun _ _ _ _ _ st h=>wpAny_pyIter_rangeiter st h
section
variable {X:Cx}{tg:Expr}
theorem zKa {pins:yD}{σ:St}{H:Hp}{s:Shared}{R:It→Hp→Prop}{E:yL}{lo hi:Int}{t u v:Tok}{tk:Nat} (I:Inv X pins σ H s) (h1:-(2 ^ 62)≤lo) (h2:lo<2 ^ 62) (h3:-(2 ^ 62)≤hi) (h4:hi<2 ^ 62)
  (q:R (Itr lo (hi - lo).toNat) H):wpAny (model X.prog X.w) X.A (pyIter (.ref s.heap.objs.size)) (PIE X pins σ tg R) E { s with heap:=s.heap.push { cls:=.type "range",data:=.fields #[.int lo t,.int hi u,.int 1 v] },toks:=tk }:=by
 refine wpAny_pyIter_range (IsRange.new ..) (small_one h1 h2 h3 h4) ?_
 have I1:Inv X pins σ H { s with heap:=s.heap.push { cls:=.type "range",data:=.fields #[.int lo t,.int hi u,.int 1 v] },toks:=tk }:=I.kept fun b o e=>qA3 _ e
 refine ⟨(s.heap.push { cls:=.type "range",data:=.fields #[.int lo t,.int hi u,.int 1 v] }).objs.size,[(s.heap.push { cls:=.type "range",data:=.fields #[.int lo t,.int hi u,.int 1 v] }).objs.size],_,_,H,rfl,
  I1.kept (t':=tk) fun b o e=>qA3 _ e,zKL _ lo (hi - lo).toNat,?_,fun b hb=>?_,q⟩
 ·have e1:lo+((0:Nat):Int)*1=lo:=by simp
  have e2:(((hi - lo).toNat:Nat):Int) - ((0:Nat):Int)=Builtin.Range.rangeSize lo hi 1:=by rw [rangeSize_one]; split <;> omega
  show IsRangeIter _ _ (lo+((0:Nat):Int)*1) ((((hi - lo).toNat:Nat):Int) - ((0:Nat):Int)) 1
  rw [e1,e2]
  exact qB3 _ rfl
 ·have e:b=(s.heap.push { cls:=.type "range",data:=.fields #[.int lo t,.int hi u,.int 1 v] }).objs.size:=by simpa using hb
  subst e
  exact I1.fpOk (qA9 _) (I1.hok.fresh (qA9 _))
def zUl (ta:TA):TI:=fun σ H R=>ta σ H fun vs H1=>∃ j:Int,vs=[.int j]∧-(2 ^ 62)≤j∧j<2 ^ 62∧R (Itr 0 j.toNat) H1
def zUk (ta:TA):TI:=fun σ H R=>ta σ H fun vs H1=>∃ i j:Int,vs=[.int i,.int j]∧(-(2 ^ 62)≤i∧i<2 ^ 62∧-(2 ^ 62)≤j∧j<2 ^ 62)∧R (Itr i (j - i).toNat) H1
theorem zMi {a:Expr}{ta:TA}{p pos:Pos} (hg:Gl X "range") (hm:X.mg "range"=none) (ha:PA X [a] ta) (hs:starEach [a] X.env=[(false,eval a X.env)]:=by rfl):PI X tg (.Call (.Name "range" p) [a] [] pos) (zUl ta):=by
 intro pins s σ H R I h
 refine Call_ (zET I hg hm boot_range (PyProof.Rows.callWith_type1 (thn (ha pos pins s σ H _ I h) fun us s1 ⟨vs,H1,I1,r1,q1⟩=>?_) hs rfl))
 obtain ⟨j,e,q1,q2,q⟩:=q1
 subst e
 cases r1 with
 | cons r rr =>
  cases rr
  obtain ⟨t,rfl⟩:=r
  exact call_range_1 (zKa I1 (by omega) (by omega) q1 q2 (by simpa using q))
theorem zMh {a b:Expr}{ta:TA}{p pos:Pos} (hg:Gl X "range") (hm:X.mg "range"=none) (ha:PA X [a,b] ta) (hs:starEach [a,b] X.env=[(false,eval a X.env),(false,eval b X.env)]:=by rfl) (hs2:starEach [b] X.env=[(false,eval b X.env)]:=by rfl) :
  PI X tg (.Call (.Name "range" p) [a,b] [] pos) (zUk ta):=by
 intro pins s σ H R I h
 refine Call_ (zET I hg hm boot_range (PyProof.Rows.callWith_type1 (thn (ha pos pins s σ H _ I h) fun us s1 ⟨vs,H1,I1,r1,q1⟩=>?_) (by rw [hs,hs2]) (by rw [hs2]; rfl)))
 obtain ⟨i,j,e,⟨q1,q2,q3,q4⟩,q⟩:=q1
 subst e
 cases r1 with
 | cons r rr =>
  cases rr with
  | cons r' rr =>
   cases rr
   obtain ⟨t,rfl⟩:=r
   obtain ⟨t',rfl⟩:=r'
   exact call_range_2 (zKa I1 q1 q2 q3 q4 q)
def tFor (wi:TI) (g:TG) (tb:TS):TS:=fun D σ H=>wi σ H fun J H1=>∃ W:Nat→Nat→St→Hp→Prop,(∃ m,W 0 m σ H1)∧∀ i m σ H,W i m σ H →
 (J.stop i H∧D.nx σ H)∨(J.go i H∧∃ N:St→Hp→Prop,(∀ σ' H',N σ' H'→∃ m',m'<m∧W (i+1) m' σ' H')∧∀ x H',J.yld i H x H'→g x σ H' fun σ2 H2=>tb { D with nx:=N,ct:=N,bk:=D.nx } σ2 H2)
noncomputable def zHG (fp:yC) (h:Heap):yD:=fp.filterMap fun b=>(h.get? b).map fun o=>(b,o)
theorem zCr {fp:yC}{h:Heap}{b:Addr}{o:Obj} (hb:b∈fp) (e:h.get? b=some o):(b,o)∈zHG fp h:=qI4.mpr ⟨b,hb,by rw [e]; rfl⟩
theorem zMq {fp:yC}{h:Heap}{p:Addr × Obj} (hp:p∈zHG fp h):p.1∈fp∧h.get? p.1=some p.2:=by
 obtain ⟨b,hb,e⟩:=qI4.mp hp
 cases q:h.get? b with
 | none=>rw [q] at e; cases e
 | some o =>
  rw [q] at e
  have e':(b,o)=p:=Option.some.inj e
  subst e'
  exact ⟨hb,q⟩
theorem Inv.pinned {pins:yD}{σ:St}{H:Hp}{s:Shared}{fp:yC} (I:Inv X pins σ H s) (hf:∀ b∈fp,FpOk X pins H b) (ho:∀ b∈fp,∃ o,s.heap.get? b=some o∧∀ v,o.data≠.cell v):Inv X (pins++zHG fp s.heap) σ H s :=
 I.pins_of fun p hp=>(qB4.mp hp).elim (fun z=>I.pin p (qD0 _ z)) fun z=>by
  obtain ⟨hb,e⟩:=zMq z
  obtain ⟨f0,f1,f2,_⟩:=hf p.1 hb
  obtain ⟨o,e',d⟩:=ho p.1 hb
  rw [e] at e'; cases e'
  exact ⟨e,f0,f1,f2,d⟩
theorem Inv.unpinned {pins pl:yD}{σ:St}{H:Hp}{s:Shared} (I:Inv X (pins++pl) σ H s):Inv X pins σ H s:=I.pins_of fun p hp=>I.pin p (qD0 _ (qF2 _ hp))
theorem zT0 {iter:Expr}{body:List Stmt}{wi:TI}{g:TG}{tb:TS}{pos:Pos} (hp:PassesOwn (model X.prog X.w) X.A X.env X.xe) (hc:X.calm=true) (hi:PI X tg iter wi) (hg:PG X tg g) (hb:PSs X body tb)
  (hs:∀ x,foldedSetIterable iter X.env x=pure x:=by intro _; rfl):PS X (.For tg iter body [] pos) (tFor wi g tb):=by
 intro pins s σ H D I h
 refine wpAny_For (thn (hi pins s σ H _ I h) fun v s1 h1=>thn h1 fun itv s2 h2=>?_) hs
 obtain ⟨it,fp,tn,J,H2,e,I2,T,st2,f2,W,⟨m0,w0⟩,turn⟩:=h2
 subst e
 have stat:∀ {H':Hp},(∀ b∈fp,H' b=none)→∀ b∈fp,FpOk X pins H' b:=fun hn b hb=>⟨hn b hb,(f2 b hb).2⟩
 refine codeAny_forLoop_any (fun n s'=>∃ i σ' H',Inv X pins σ' H' s'∧tn i s'.heap∧(∀ b∈fp,H' b=none)∧W i n σ' H') ?_ m0 ⟨0,σ,H2,I2,st2,fun b hb=>(f2 b hb).1,w0⟩
 rintro n s3 ⟨i,σ3,H3,I3,st3,fr3,w3⟩
 rcases turn i n σ3 H3 w3 with ⟨stop,qn⟩ | ⟨go,N,hN,step⟩
 ·refine wpAny_passesOwn hp (thn (T.done X rfl rfl rfl hc i pins s3 σ3 H3 X.xe I3 (stat fr3) st3 stop) fun r s4 ⟨hr,I4⟩=>?_)
  subst hr
  exact wpAny_execs_nil ⟨σ3,H3,I4,qn⟩
 ·refine wpAny_passesOwn hp (thn (T.item X rfl rfl rfl hc i pins s3 σ3 H3 X.xe I3 (stat fr3) st3 go) fun r s4 ⟨u,hr,h4⟩=>?_)
  subst hr
  refine wpAny_passesOwn hp (thn h4 fun _ s5 ⟨x,H5,I5,r5,y5,st5,fr5⟩=>?_)
  have I5':=I5.pinned (stat fr5) (T.obj _ _ st5)
  refine wpAny_passesOwn hp (thn (hg _ s5 σ3 H5 x u _ I5' r5 (step x H5 y5)) fun _ s6 ⟨σ6,H6,I6,q6⟩=>?_)
  refine wpAny_passesOwn hp (thn (hb _ s6 σ6 H6 _ I6 q6) fun f s7 q7=>?_)
  have again:∀ {σ7:St}{H7:Hp},Inv X (pins++zHG fp s5.heap) σ7 H7 s7→N σ7 H7→∃ m,m<n∧∃ i σ' H',Inv X pins σ' H' s7∧tn i s7.heap∧(∀ b∈fp,H' b=none)∧W i m σ' H':=fun {σ7 H7} I7 n7=>by
   obtain ⟨m',hm,w7⟩:=hN σ7 H7 n7
   refine ⟨m',hm,i+1,σ7,H7,I7.unpinned,T.keep _ _ _ st5 fun b hb o e=>(I7.pin (b,o) (qD0 _ (qD0 _ (zCr hb e)))).1,fun b hb=>?_,w7⟩
   obtain ⟨o,e,d⟩:=T.obj _ _ st5 b hb
   exact (I7.pin (b,o) (qD0 _ (qD0 _ (zCr hb e)))).2.1
  cases f with
  | next=>obtain ⟨σ7,H7,I7,n7⟩:=q7; exact again I7 n7
  | cont=>obtain ⟨σ7,H7,I7,n7⟩:=q7; exact again I7 n7
  | brk=>obtain ⟨σ7,H7,I7,q7⟩:=q7; exact ⟨σ7,H7,I7.unpinned,q7⟩
  | ret v=>obtain ⟨x7,σ7,H7,I7,r7,q7⟩:=q7; exact ⟨x7,σ7,H7,I7.unpinned,r7,q7⟩
end
noncomputable abbrev R2:=V→V→Hp→VK→Prop
def OpR (X:Cx) (f:Value→Value→Sem Value) (r:R2):Prop :=
 ∀ (pins:yD) (s:Shared) (σ:St) (H:Hp) (x y:V) (v u:Value) (Q:VK),Inv X pins σ H s→RelV x v→RelV y u→r x y H Q →
  wpAny (model X.prog X.w) X.A (f v u) (EP X pins σ Q) X.xe s
def UnR (X:Cx) (f:Value→Sem Value) (r:V→Hp→VK→Prop):Prop :=
 ∀ (pins:yD) (s:Shared) (σ:St) (H:Hp) (x:V) (v:Value) (Q:VK),Inv X pins σ H s→RelV x v→r x H Q →
  wpAny (model X.prog X.w) X.A (f v) (EP X pins σ Q) X.xe s
def zAW (X:Cx) (f:Value) (r:List V→Hp→VK→Prop):Prop :=
 ∀ (pins:yD) (s:Shared) (σ:St) (H:Hp) (xs:List V) (us:yB) (Q:VK),Inv X pins σ H s→Vals xs us→r xs H Q →
  wpAny (model X.prog X.w) X.A (call f us) (EP X pins σ Q) X.xe s
def TruR (X:Cx) (r:V→Hp→(Bool→Hp→Prop)→Prop):Prop :=
 ∀ (pins:yD) (s:Shared) (σ:St) (H:Hp) (x:V) (v:Value) (Q:Bool→Hp→Prop),Inv X pins σ H s→RelV x v→r x H Q →
  wpAny (model X.prog X.w) X.A (truthy v) (TP X pins σ Q) X.xe s
def tOp (r:R2) (ta tb:TE):TE:=fun σ H Q=>ta σ H fun x H1=>tb σ H1 fun y H2=>r x y H2 Q
def tUn (r:V→Hp→VK→Prop) (ta:TE):TE:=fun σ H Q=>ta σ H fun x H1=>r x H1 Q
def rI (C:Int→Int→Prop) (g:Int→Int→V):R2:=fun x y H Q=>∃ i j,x=.int i∧y=.int j∧C i j∧Q (g i j) H
def rI0 (g:Int→Int→V):R2:=fun x y H Q=>∃ i j,x=.int i∧y=.int j∧Q (g i j) H
def rU (g:Int→V):V→Hp→VK→Prop:=fun x H Q=>∃ i,x=.int i∧Q (g i) H
section
variable {X:Cx}{a b c:Expr}{ta tb tc:TE}{pos:Pos}
theorem binT (ha:PE X a ta) (hb:PE X b tb) {pins:yD}{s:Shared}{σ:St}{H:Hp}{R:V→V→Hp→Prop} (I:Inv X pins σ H s)
  (h:ta σ H fun x H1=>tb σ H1 fun y H2=>R x y H2) {Q:yL}{f:Value→Value→Sem Value}
  (hf:∀ v u s2 x y H2,Inv X pins σ H2 s2→RelV x v→RelV y u→R x y H2→wpAny (model X.prog X.w) X.A (f v u) Q X.xe s2) :
  wpAny (model X.prog X.w) X.A (eval a X.env) (fun v s₁=>wpAny (model X.prog X.w) X.A (eval b X.env) (fun u s₂=>wpAny (model X.prog X.w) X.A (f v u) Q X.xe s₂) X.xe s₁) X.xe s:=by
 refine thn (ha pins s σ H _ I h) fun v s1 ⟨x,H1,I1,r1,q1⟩=>?_
 refine thn (hb pins s1 σ H1 _ I1 q1) fun u s2 ⟨y,H2,I2,r2,q2⟩=>?_
 exact hf v u s2 x y H2 I2 r1 r2 q2
theorem zW8 {op:Operator}{r:R2} (ho:OpR X (binaryOp op) r) (ha:PE X a ta) (hb:PE X b tb):PE X (.BinOp a op b pos) (tOp r ta tb):=by
 intro pins s σ H Q I h
 exact wpAny_BinOp (binT ha hb I h fun v u s2 x y H2 I2 rx ry q=>ho pins s2 σ H2 x y v u Q I2 rx ry q)
theorem zW6 {op:UnaryOp}{r:V→Hp→VK→Prop} (ho:UnR X (unaryOp op) r) (ha:PE X a ta):PE X (.UnaryOp op a pos) (tUn r ta):=by
 intro pins s σ H Q I h
 exact UnaryOp_ (thn (ha pins s σ H _ I h) fun v s1 ⟨x,H1,I1,r1,q1⟩=>ho pins s1 σ H1 x v Q I1 r1 q1)
theorem opI {f:Value→Value→Sem Value}{C:Int→Int→Prop}{g:Int→Int→Int}
  (rule:∀ (i j:Int) (t u:Tok) (s:Shared) (Q:yL) (E:yL),C i j→Q (.int (g i j) s.toks) { s with toks:=s.toks+1 }→wpAny (model X.prog X.w) X.A (f (.int i t) (.int j u)) Q E s) :
  OpR X f (rI C fun i j=>.int (g i j)):=by
 intro pins s σ H x y v u Q I rx ry h
 obtain ⟨i,j,rfl,rfl,hc,q⟩:=h
 obtain ⟨t,rfl⟩:=rx
 obtain ⟨t',rfl⟩:=ry
 exact rule i j t t' s _ _ hc ⟨.int (g i j),H,I.tok _,⟨_,rfl⟩,q⟩
theorem opI0 {f:Value→Value→Sem Value}{g:Int→Int→Int}
  (rule:∀ (i j:Int) (t u:Tok) (s:Shared) (Q:yL) (E:yL),Q (.int (g i j) s.toks) { s with toks:=s.toks+1 }→wpAny (model X.prog X.w) X.A (f (.int i t) (.int j u)) Q E s) :
  OpR X f (rI0 fun i j=>.int (g i j)):=by
 intro pins s σ H x y v u Q I rx ry h
 obtain ⟨i,j,rfl,rfl,q⟩:=h
 obtain ⟨t,rfl⟩:=rx
 obtain ⟨t',rfl⟩:=ry
 exact rule i j t t' s _ _ ⟨.int (g i j),H,I.tok _,⟨_,rfl⟩,q⟩
theorem opB0 {f:Value→Value→Sem Value}{g:Int→Int→Bool}
  (rule:∀ (i j:Int) (t u:Tok) (s:Shared) (Q:yL) (E:yL),Q (.bool (g i j)) s→wpAny (model X.prog X.w) X.A (f (.int i t) (.int j u)) Q E s) :
  OpR X f (rI0 fun i j=>.bl (g i j)):=by
 intro pins s σ H x y v u Q I rx ry h
 obtain ⟨i,j,rfl,rfl,q⟩:=h
 obtain ⟨t,rfl⟩:=rx
 obtain ⟨t',rfl⟩:=ry
 exact rule i j t t' s _ _ ⟨.bl (g i j),H,I,rfl,q⟩
def CDiv (i j:Int):Prop:=0<j∧j<1073741824
def CPow (i j:Int):Prop:=0≤j∧j≤1000000∧i.natAbs<2 ^ 64
def CMul (i j:Int):Prop:=(-(2 ^ 64)<i∧i<2 ^ 64)∨(-(2 ^ 64)<j∧j<2 ^ 64)
theorem CMul.ok {i j:Int} (h:CMul i j):IntMulOk i j:=by
 rcases h with ⟨h1,h2⟩ | ⟨h1,h2⟩
 ·exact .of_left (intBits_le_64 h1 h2)
 ·exact .of_right (intBits_le_64 h1 h2)
theorem zKJ (k:Nat):(0:Int)≤2 ^ k:=by
 rw [two_pow_cast]
 exact Int.natCast_nonneg _
theorem zTC:OpR X (binaryOp .Add) (rI0 fun i j=>.int (i+j)):=opI0 fun _ _ _ _ _ _ _ q=>add_int q
theorem zTq:OpR X (binaryOp .Sub) (rI0 fun i j=>.int (i - j)):=opI0 fun _ _ _ _ _ _ _ q=>sub_int q
theorem zTv:OpR X (binaryOp .Mult) (rI CMul fun i j=>.int (i*j)):=opI fun _ _ _ _ _ _ _ hc q=>mul_int q hc.ok
theorem zR2:OpR X (binaryOp .FloorDiv) (rI CDiv fun i j=>.int (i / j)):=opI fun i j _ _ _ _ _ hc q=>by
 have h1:(0:Int)<j:=hc.1
 have h2:j<1073741824:=hc.2
 exact floordiv_int (by omega) (by rw [qN5 i (by omega)]; exact q) (.inl (PyProof.noPylong_small (by omega)))
theorem zTw:OpR X (binaryOp .Mod) (rI (fun _ j=>0<j) fun i j=>.int (i % j)):=opI fun i j _ _ _ _ _ hc q=>by
 have h1:(0:Int)<j:=hc
 exact mod_int' (by omega) (by rw [Int.fmod_eq_emod_of_nonneg i (by omega)]; exact q)
theorem zTt:OpR X (binaryOp .Pow) (rI CPow fun i j=>.int (i ^ j.toNat)):=opI fun _ _ _ _ _ _ _ hc q=>pow_int_small hc.1 hc.2.1 hc.2.2 q
theorem zTs:OpR X (binaryOp .LShift) (rI CPow fun i j=>.int (i*2 ^ j.toNat)):=opI fun _ _ _ _ _ _ _ hc q=>lshift_int_small hc.1 hc.2.1 hc.2.2 q
theorem zTr:OpR X (binaryOp .RShift) (rI (fun _ j=>0≤j) fun i j=>.int (i / 2 ^ j.toNat)):=opI fun i j _ _ _ _ _ hc q =>
 rshift_int hc (by rw [qN5 i (zKJ _)]; exact q)
theorem zTB:OpR X (binaryOp .BitAnd) (rI0 fun i j=>.int (Builtin.bitAnd i j)):=opI0 fun _ _ _ _ _ _ _ q=>and_int q
theorem zWo:OpR X (binaryOp .BitOr) (rI0 fun i j=>.int (Builtin.bitOr i j)):=opI0 fun _ _ _ _ _ _ _ q=>or_int q
theorem zTp:OpR X (binaryOp .BitXor) (rI0 fun i j=>.int (Builtin.bitXor i j)):=opI0 fun _ _ _ _ _ _ _ q=>xor_int q
theorem unI {f:Value→Sem Value}{g:Int→Int}
  (rule:∀ (i:Int) (t:Tok) (s:Shared) (Q:yL) (E:yL),Q (.int (g i) s.toks) { s with toks:=s.toks+1 }→wpAny (model X.prog X.w) X.A (f (.int i t)) Q E s) :
  UnR X f (rU fun i=>.int (g i)):=by
 intro pins s σ H x v Q I rx h
 obtain ⟨i,rfl,q⟩:=h
 obtain ⟨t,rfl⟩:=rx
 exact rule i t s _ _ ⟨.int (g i),H,I.tok _,⟨_,rfl⟩,q⟩
theorem zSe:UnR X (unaryOp .USub) (rU fun i=>.int (-i)):=unI fun _ _ _ _ _ q=>neg_int q
end
noncomputable def scal:V→V→Bool
 | .non,.non=>true | .non,.int _=>true | .int _,.non=>true | .non,.bl _=>true | .bl _,.non=>true | .non,.str _=>true | .str _,.non=>true
 | .int _,.int _=>true | .bl _,.bl _=>true | .str _,.str _=>true | .byt _,.byt _=>true
 | .int _,.str _=>true | .str _,.int _=>true | .bl _,.str _=>true | .str _,.bl _=>true
 | _,_=>false
def rEq:R2:=fun x y H Q=>scal x y=true∧Q (.bl (decide (x=y))) H
def rNe:R2:=fun x y H Q=>scal x y=true∧Q (.bl (!decide (x=y))) H
theorem zNe {i j:Int}:decide (V.int i=V.int j)=(i == j):=by
 rw [qM8]
 simp
theorem zPY {i j:Bool}:decide (V.bl i=V.bl j)=(i == j):=by
 rw [qM8]
 simp
theorem zNd {i j:Str}:decide (V.str i=V.str j)=(i == j):=by
 rw [qM8]
 simp
theorem zNf {i j:Array UInt8}:decide (V.byt i=V.byt j)=(i.toList == j.toList):=by
 rw [qM8]
 cases i
 cases j
 simp
section
variable {X:Cx}{a b c:Expr}{ta tb tc:TE}{pos:Pos}
theorem zAj {pins:yD}{σ:St}{H:Hp}{s:Shared}{Q:VK}{k k':Bool} (I:Inv X pins σ H s) (q:Q (.bl k) H) (e:k=k'):EP X pins σ Q (.bool k') s:=by
 subst e
 exact ⟨.bl k,H,I,rfl,q⟩
theorem zWu:OpR X (compareOp .Eq) rEq:=by
 intro pins s σ H x y v u Q I rx ry h
 obtain ⟨hs,q⟩:=h
 cases x with
 | non =>
  cases rx
  cases y with
  | non=>cases ry; exact PySem.EqNone.eq_none_none (zAj I q (by simp))
  | bl j=>cases ry; exact PySem.EqNone.eq_none_bool (zAj I q (by simp))
  | int j=>obtain ⟨t',rfl⟩:=ry; exact PySem.EqNone.eq_none_int (zAj I q (by simp))
  | str j=>obtain ⟨t',rfl⟩:=ry; exact PySem.EqNone.eq_none_str (zAj I q (by simp))
  | _=>exact absurd (show false=true from hs) qB2
 | bl i =>
  cases rx
  cases y with
  | non=>cases ry; exact PySem.EqNone.eq_bool_none (zAj I q (by simp))
  | bl j=>cases ry; exact eq_bool (zAj I q zPY)
  | str j=>obtain ⟨t',rfl⟩:=ry; exact PySem.EqMixed.eq_bool_str (zAj I q (by simp))
  | _=>exact absurd (show false=true from hs) qB2
 | int i =>
  obtain ⟨t,rfl⟩:=rx
  cases y with
  | non=>cases ry; exact PySem.EqNone.eq_int_none (zAj I q (by simp))
  | int j=>obtain ⟨t',rfl⟩:=ry; exact eq_int (zAj I q zNe)
  | str j=>obtain ⟨t',rfl⟩:=ry; exact PySem.EqMixed.eq_int_str (zAj I q (by simp))
  | _=>exact absurd (show false=true from hs) qB2
 | str i =>
  obtain ⟨t,rfl⟩:=rx
  cases y with
  | non=>cases ry; exact PySem.EqNone.eq_str_none (zAj I q (by simp))
  | bl j=>cases ry; exact PySem.EqMixed.eq_str_bool (zAj I q (by simp))
  | int j=>obtain ⟨t',rfl⟩:=ry; exact PySem.EqMixed.eq_str_int (zAj I q (by simp))
  | str j=>obtain ⟨t',rfl⟩:=ry; exact eq_str (zAj I q zNd)
  | _=>exact absurd (show false=true from hs) qB2
 | byt i =>
  obtain ⟨t,rfl⟩:=rx
  cases y with
  | byt j=>obtain ⟨t',rfl⟩:=ry; exact W.eq_bytes (zAj I q zNf)
  | _=>exact absurd (show false=true from hs) qB2
 | _=>cases y <;> exact absurd (show false=true from hs) qB2
theorem zWp:OpR X (compareOp .NotEq) rNe:=by
 intro pins s σ H x y v u Q I rx ry h
 obtain ⟨hs,q⟩:=h
 cases x with
 | non =>
  cases rx
  cases y with
  | non=>cases ry; exact PySem.EqNone.ne_none_none (zAj I q (by simp))
  | bl j=>cases ry; exact PySem.EqNone.ne_none_bool (zAj I q (by simp))
  | int j=>obtain ⟨t',rfl⟩:=ry; exact PySem.EqNone.ne_none_int (zAj I q (by simp))
  | str j=>obtain ⟨t',rfl⟩:=ry; exact PySem.EqNone.ne_none_str (zAj I q (by simp))
  | _=>exact absurd (show false=true from hs) qB2
 | bl i =>
  cases rx
  cases y with
  | non=>cases ry; exact PySem.EqNone.ne_bool_none (zAj I q (by simp))
  | bl j=>cases ry; exact ne_bool (zAj I q (congrArg not zPY))
  | str j=>obtain ⟨t',rfl⟩:=ry; exact PySem.EqMixed.ne_bool_str (zAj I q (by simp))
  | _=>exact absurd (show false=true from hs) qB2
 | int i =>
  obtain ⟨t,rfl⟩:=rx
  cases y with
  | non=>cases ry; exact PySem.EqNone.ne_int_none (zAj I q (by simp))
  | int j=>obtain ⟨t',rfl⟩:=ry; exact ne_int (zAj I q (congrArg not zNe))
  | str j=>obtain ⟨t',rfl⟩:=ry; exact PySem.EqMixed.ne_int_str (zAj I q (by simp))
  | _=>exact absurd (show false=true from hs) qB2
 | str i =>
  obtain ⟨t,rfl⟩:=rx
  cases y with
  | non=>cases ry; exact PySem.EqNone.ne_str_none (zAj I q (by simp))
  | bl j=>cases ry; exact PySem.EqMixed.ne_str_bool (zAj I q (by simp))
  | int j=>obtain ⟨t',rfl⟩:=ry; exact PySem.EqMixed.ne_str_int (zAj I q (by simp))
  | str j=>obtain ⟨t',rfl⟩:=ry; exact ne_str (zAj I q (congrArg not zNd))
  | _=>exact absurd (show false=true from hs) qB2
 | byt i =>
  obtain ⟨t,rfl⟩:=rx
  cases y with
  | byt j=>obtain ⟨t',rfl⟩:=ry; exact W.ne_bytes (zAj I q (congrArg not zNf))
  | _=>exact absurd (show false=true from hs) qB2
 | _=>cases y <;> exact absurd (show false=true from hs) qB2
theorem zWq:OpR X (compareOp .Lt) (rI0 fun i j=>.bl (decide (i<j))):=opB0 fun _ _ _ _ _ _ _ q=>lt_int q
theorem zWr:OpR X (compareOp .LtE) (rI0 fun i j=>.bl (decide (i≤j))):=opB0 fun _ _ _ _ _ _ _ q=>le_int q
theorem zWs:OpR X (compareOp .Gt) (rI0 fun i j=>.bl (decide (j<i))):=opB0 fun _ _ _ _ _ _ _ q=>gt_int q
theorem zWt:OpR X (compareOp .GtE) (rI0 fun i j=>.bl (decide (j≤i))):=opB0 fun _ _ _ _ _ _ _ q=>ge_int q
theorem zTx:OpR X (compareOp .Is) (fun x y H Q=>y=.non∧Q (.bl (decide (x=.non))) H):=by
 intro pins s σ H x y v u Q I rx ry h
 obtain ⟨rfl,q⟩:=h
 cases ry
 refine is_none_gen (zAj I q ?_)
 cases x <;> first
  | (cases rx; rfl)
  | (obtain ⟨t,rfl⟩:=rx; rfl)
theorem zR1:OpR X (compareOp .IsNot) (fun x y H Q=>y=.non∧Q (.bl (!decide (x=.non))) H):=by
 intro pins s σ H x y v u Q I rx ry h
 obtain ⟨rfl,q⟩:=h
 cases ry
 refine isnot_none_gen (zAj I q ?_)
 cases x <;> first
  | (cases rx; rfl)
  | (obtain ⟨t,rfl⟩:=rx; rfl)
theorem zQY {op:CmpOp}{r:R2} (ho:OpR X (compareOp op) r) (ha:PE X a ta) (hb:PE X b tb) (hm:behindInMarks op b=false):PE X (.Compare a [op] [b] pos) (tOp r ta tb):=by
 intro pins s σ H Q I h
 exact wpAny_Compare1 (binT ha hb I h fun v u s2 x y H2 I2 rx ry q=>ho pins s2 σ H2 x y v u Q I2 rx ry q) hm
def zQf (t:TE):TT:=fun σ H Q=>t σ H fun x H'=>∃ k,x=.bl k∧Q k H'
theorem zQL {op:CmpOp}{r:R2} (ho:OpR X (compareOp op) r) (ha:PE X a ta) (hb:PE X b tb) (hm:behindInMarks op b=false):PT X (.Compare a [op] [b] pos) (zQf (tOp r ta tb)):=by
 intro pins s σ H Q I h
 refine wpAny_isTrue_Compare1 (thn (ha pins s σ H _ I h) fun v s1 ⟨x,H1,I1,r1,q1⟩=>thn (hb pins s1 σ H1 _ I1 q1) fun u s2 ⟨y,H2,I2,r2,q2⟩ =>
  thn (ho pins s2 σ H2 x y v u _ I2 r1 r2 q2) fun c s3 ⟨z,H3,I3,r3,k,e,q3⟩=>?_) hm
 subst e
 cases r3
 exact wpAny_truthy_bool ⟨H3,I3,q3⟩
def zLW (r r':R2) (ta tb tc:TE):TE:=fun σ H Q=>ta σ H fun x H1=>tb σ H1 fun y H2=>r x y H2 fun z H3=>∃ k,z=.bl k ∧
 (if k=true then tc σ H3 fun w' H4=>r' y w' H4 Q else Q (.bl false) H3)
theorem zOy {op op':CmpOp}{r r':R2} (ho:OpR X (compareOp op) r) (ho':OpR X (compareOp op') r') (ha:PE X a ta) (hb:PE X b tb) (hc:PE X c tc)
  (hm:lastMarks [op,op'] [b,c]=false:=by with_unfolding_all rfl):PE X (.Compare a [op,op'] [b,c] pos) (zLW r r' ta tb tc):=by
 intro pins s σ H Q I h
 refine Compare_chain (thn (ha pins s σ H _ I h) fun v s1 ⟨x,H1,I1,r1,q1⟩=>chain_link (thn (hb pins s1 σ H1 _ I1 q1) fun u s2 ⟨y,H2,I2,r2,q2⟩ =>
  thn (ho pins s2 σ H2 x y v u _ I2 r1 r2 q2) fun d s3 ⟨z,H3,I3,r3,k,e,q3⟩=>?_)) hm
 subst e
 cases r3
 refine wpAny_truthy_bool ?_
 cases k with
 | false=>exact ite_ff ⟨.bl false,H3,I3,rfl,q3⟩
 | true=>exact ite_tt (chain_last (thn (hc pins s3 σ H3 _ I3 q3) fun w' s4 ⟨z',H4,I4,r4,q4⟩=>ho' pins s4 σ H4 y z' u w' Q I4 r2 r4 q4))
theorem zOj {op op':CmpOp}{r r':R2} (ho:OpR X (compareOp op) r) (ho':OpR X (compareOp op') r') (ha:PE X a ta) (hb:PE X b tb) (hc:PE X c tc)
  (hm:lastMarks [op,op'] [b,c]=false:=by with_unfolding_all rfl):PT X (.Compare a [op,op'] [b,c] pos) (zQf (zLW r r' ta tb tc)):=by
 intro pins s σ H Q I h
 refine isTrue_chain (thn (ha pins s σ H _ I h) fun v s1 ⟨x,H1,I1,r1,q1⟩=>test_link (thn (hb pins s1 σ H1 _ I1 q1) fun u s2 ⟨y,H2,I2,r2,q2⟩ =>
  thn (ho pins s2 σ H2 x y v u _ I2 r1 r2 q2) fun d s3 ⟨z,H3,I3,r3,k,e,q3⟩=>?_)) hm
 subst e
 cases r3
 refine wpAny_truthy_bool ?_
 cases k with
 | false =>
  obtain ⟨k',e',q'⟩:=q3
  cases e'
  exact ite_ff ⟨H3,I3,q'⟩
 | true =>
  refine ite_tt (test_last (thn (hc pins s3 σ H3 _ I3 q3) fun w' s4 ⟨z',H4,I4,r4,q4⟩=>thn (ho' pins s4 σ H4 y z' u w' _ I4 r2 r4 q4) fun d' s5 ⟨z2,H5,I5,r5,k2,e2,q5⟩=>?_))
  subst e2
  cases r5
  exact wpAny_truthy_bool ⟨H5,I5,q5⟩
def TruV (K:W.Frag) (x:V) (H:Hp) (k:Bool):Prop :=
 match x with
 | .non=>k=false
 | .bl b=>k=b
 | .int i=>k=(i != 0)
 | .str y=>y.length≤sizeLine∧k=((y.length:Int) != 0)
 | .byt y=>y.size≤sizeLine∧k=((y.size:Int) != 0)
 | .ref p=>(∃ xs,SqL K H p xs∧k=!xs.isEmpty)∨(∃ xs,SqT K H p xs∧k=!xs.isEmpty)∨∃ kvs,H p=some (.dK kvs)∧k=!kvs.isEmpty
 | _=>False
theorem zL6 {κ:Type}{kvs:List (κ × V)}{vs:List (κ × Value)} (r:KV kvs vs):(!vs.isEmpty)=!kvs.isEmpty:=by
 cases r <;> rfl
theorem zG8 {xs:List V}{its:yB} (r:Vals xs its):(!its.toArray.isEmpty)=!xs.isEmpty:=by
 cases r <;> simp
theorem zG4:(sizeLine:Nat)<2 ^ 63:=by rw [sizeLine_eq]; decide
theorem zSh:TruR X (fun x H Q=>∃ k,TruV X.K x H k∧Q k H):=by
 intro pins s σ H x v Q I rx h
 obtain ⟨k,e,q⟩:=h
 have hl:=zG4
 have hs:sizeLine=16777216:=sizeLine_eq
 cases x with
 | non =>
  cases rx
  have e':k=false:=e
  subst e'
  exact truthy_none ⟨H,I,q⟩
 | bl b =>
  cases rx
  have e':k=b:=e
  subst e'
  exact wpAny_truthy_bool ⟨H,I,q⟩
 | int i =>
  obtain ⟨t,rfl⟩:=rx
  have e':k=(i != 0):=e
  subst e'
  exact PySem.P.truthy_int ⟨H,I,q⟩
 | str y =>
  obtain ⟨t,rfl⟩:=rx
  obtain ⟨hy,e'⟩:y.length≤sizeLine∧k=((y.length:Int) != 0):=e
  subst e'
  exact PySem.P.truthy_str (by omega) ⟨H,I.tok _,q⟩
 | byt y =>
  obtain ⟨t,rfl⟩:=rx
  obtain ⟨hy,e'⟩:y.size≤sizeLine∧k=((y.size:Int) != 0):=e
  subst e'
  exact W.truthy_bytes (by omega) ⟨H,I.tok _,q⟩
 | ref p =>
  cases rx
  have e':(∃ xs,SqL X.K H p xs∧k=!xs.isEmpty)∨(∃ xs,SqT X.K H p xs∧k=!xs.isEmpty)∨∃ kvs,H p=some (.dK kvs)∧k=!kvs.isEmpty:=e
  rcases e' with ⟨xs,hx,e'⟩ | ⟨xs,hx,e'⟩ | ⟨kvs,hx,e'⟩
  ·subst e'
   obtain ⟨its,r,pl,hz⟩:=I.list hx
   have hlen:=r.length
   exact wpAny_truthy_list pl.isList (by simp only [qB0]; omega) ⟨H,I.tok _,by rw [zG8 r]; exact q⟩
  ·subst e'
   obtain ⟨its,r,pl,hz⟩:=I.tuple hx
   have hlen:=r.length
   exact truthy_tuple pl (by simp only [qB0]; omega) ⟨H,I.tok _,by rw [zG8 r]; exact q⟩
  ·subst e'
   obtain ⟨hz,hS,vs,r,m⟩:kvs.length≤sizeLine∧(p == sysModules)=false∧∃ vs,KV kvs vs∧s.heap.DictOf (zAr X.prog X.w) p vs:=I.hok p _ hx
   have hlen:kvs.length=vs.length:=Paired.length r
   exact wpAny_truthy_dict hS m (by omega) ⟨H,I.tok _,by rw [zL6 r]; exact q⟩
 | _=>exact (show False from e).elim
theorem zOi (ha:PE X a ta) (he:∀ whole,isTrue a X.env whole=(do let v ← whole; standAt a.pos; holding [v] (truthy v))) :
  PT X a (fun σ H Q=>ta σ H fun x H'=>∃ k,TruV X.K x H' k∧Q k H'):=by
 intro pins s σ H Q I h
 exact isTrue_plain (thn (ha pins s σ H _ I h) fun v s1 ⟨x,H1,I1,r1,q1⟩=>zSh pins s1 σ H1 x v Q I1 r1 q1) (he _)
theorem zKX:OpR X (binaryOp .Add) (fun x y H Q=>∃ i j,x=.str i∧y=.str j∧i.length+j.length≤sizeLine∧Q (.str (i++j)) H):=by
 intro pins s σ H x y v u Q I rx ry h
 obtain ⟨i,j,rfl,rfl,hz,q⟩:=h
 obtain ⟨t,rfl⟩:=rx
 obtain ⟨t',rfl⟩:=ry
 exact add_str (fun t' tk=>⟨.str (i++j),H,I.tok _,⟨_,rfl⟩,q⟩) hz
theorem zCR {x:V}{us:yB} (r:Vals [x] us):∃ u,us=[u]∧RelV x u:=by
 cases r with
 | cons r1 r2=>cases r2; exact ⟨_,rfl,r1⟩
theorem zNX {x y:V}{us:yB} (r:Vals [x,y] us):∃ u w',us=[u,w']∧RelV x u∧RelV y w':=by
 cases r with
 | cons r1 r2 =>
  cases r2 with
  | cons r3 r4=>cases r4; exact ⟨_,_,rfl,r1,r3⟩
theorem zNw (hc:X.calm=true):zAW X (.builtin "max") (fun xs H Q=>∃ i j,xs=[.int i,.int j]∧Q (.int (if j>i then j else i)) H):=by
 intro pins s σ H xs us Q I r h
 obtain ⟨i,j,rfl,q⟩:=h
 obtain ⟨u,w',rfl,⟨t,rfl⟩,⟨t',rfl⟩⟩:=zNX r
 refine max_two_ints (I.ok.hd hc) fun h' tk k=>⟨_,H,I.kept k,?_,q⟩
 by_cases hj:j>i
 ·rw [if_pos hj,if_pos hj]; exact ⟨_,rfl⟩
 ·rw [if_neg hj,if_neg hj]; exact ⟨_,rfl⟩
theorem zNv (hc:X.calm=true):zAW X (.builtin "min") (fun xs H Q=>∃ i j,xs=[.int i,.int j]∧Q (.int (if j<i then j else i)) H):=by
 intro pins s σ H xs us Q I r h
 obtain ⟨i,j,rfl,q⟩:=h
 obtain ⟨u,w',rfl,⟨t,rfl⟩,⟨t',rfl⟩⟩:=zNX r
 refine min_two_ints (I.ok.hd hc) fun h' tk k=>⟨_,H,I.kept k,?_,q⟩
 by_cases hj:j<i
 ·rw [if_pos hj,if_pos hj]; exact ⟨_,rfl⟩
 ·rw [if_neg hj,if_neg hj]; exact ⟨_,rfl⟩
theorem zIA:zAW X (.type "int") (fun xs H Q=>(∃ i,xs=[.int i]∧Q (.int i) H)∨∃ k,xs=[.bl k]∧Q (.int (if k then 1 else 0)) H):=by
 intro pins s σ H xs us Q I r h
 rcases h with ⟨i,rfl,q⟩ | ⟨k,rfl,q⟩
 ·obtain ⟨u,rfl,t,rfl⟩:=zCR r
  exact call_int_int ⟨.int i,H,I,⟨_,rfl⟩,q⟩
 ·obtain ⟨u,rfl,r1⟩:=zCR r
  cases r1
  exact call_int_bool ⟨.int (if k then 1 else 0),H,I.tok _,⟨_,rfl⟩,q⟩
end
theorem RelO.some_of {v:V}{o:yF} (r:RelO (some v) o):∃ u,o=some u∧RelV v u:=by
 cases o with
 | none=>exact (show False from r).elim
 | some u=>exact ⟨u,rfl,r⟩
structure Room (k:Nat) (A:Around):Prop where
 hd:A.handled=none
 dp:A.depth+3*k+5<recursionLimit
 un:A.units+16*k+200<cLine
 gd:A.guards=some []
theorem Room.mono {j k:Nat}{A:Around} (r:Room k A) (h:j≤k):Room j A:=⟨r.hd,by have:=r.dp; omega,by have:=r.un; omega,r.gd⟩
theorem Room.deeper {k:Nat}{A:Around} (r:Room (k+1) A) (env:Env):Room k (A.deeper env) :=
 ⟨r.hd,by have:=r.dp; show A.depth+1+3*k+5<_; omega,by have:=r.un; show A.units+3+16*k+200<_; omega,r.gd⟩
theorem Room.depth {k:Nat}{A:Around} (r:Room k A):A.depth<recursionLimit:=by have:=r.dp; omega
theorem Room.units {k:Nat}{A:Around} (r:Room k A):A.units+64<cLine:=by have:=r.un; omega
theorem Room.units0 {k:Nat}{A:Around} (r:Room k A):A.units<cLine:=by have:=r.un; omega
def tNil:TA:=fun _ H Q=>Q [] H
def zVK (ta:TE) (tr:TA):TA:=fun σ H Q=>ta σ H fun x H1=>tr σ H1 fun xs H2=>Q (x::xs) H2
section
variable {X:Cx}{e:Expr}{es:yE}{te:TE}{t:TA}{pos:Pos}
theorem zMl:PA X [] tNil:=fun _ _ _ _ H Q I h=>Calls.spliced_nil ⟨[],H,I,.nil,h⟩
theorem zJ9 (ha:PE X e te) (hr:PA X es t) (hs:starEach (e::es) X.env=(false,eval e X.env)::starEach es X.env:=by rfl):PA X (e::es) (zVK te t):=by
 intro pos pins s σ H Q I h
 rw [hs]
 show wpAny _ _ (spliced ((false,eval e X.env)::backTo pos (starEach es X.env))) _ _ s
 refine Calls.spliced_cons (thn (ha pins s σ H _ I h) fun u s1 ⟨x,H1,I1,r1,q1⟩=>?_)
 exact thn (hr pos pins s1 σ H1 _ I1 q1) fun us s2 ⟨xs,H2,I2,r2,q2⟩=>⟨x::xs,H2,I2,.cons r1 r2,q2⟩
def tTup (t:TA):TE:=fun σ H Q=>t σ H fun xs H1=>xs.length≤sizeLine∧∀ p,H1 p=none→Q (.ref p) (upd H1 p (.tup xs))
def tLst (t:TA):TE:=fun σ H Q=>t σ H fun xs H1=>xs.length≤sizeLine∧∀ p,H1 p=none→Q (.ref p) (upd H1 p (.lst xs))
theorem zT5 {x1} (h:PA X es t):PE X (.Tuple es x1 pos) (tTup t):=by
 intro pins s σ H Q I hq
 refine wpAny_Tuple_spliced (thn (h pos pins s σ H _ I hq) fun us s1 ⟨xs,H1,I1,r,z,q⟩=>⟨by rw [← r.length]; exact z,?_⟩)
 have hf:H1 s1.heap.objs.size=none:=I1.hok.fresh (qA9 _)
 refine ⟨.ref s1.heap.objs.size,upd H1 s1.heap.objs.size (.tup xs),I1.laid (t':=s1.toks) (fun b u e=>qA3 _ e) (qA9 _) ?_,rfl,q _ hf⟩
 exact ⟨z,us,r,⟨_,qB3 _ rfl,rfl,_,rfl⟩⟩
theorem zTb (h:PA X es t):PE X (.List es pos) (tLst t):=by
 intro pins s σ H Q I hq
 refine wpAny_List_spliced (thn (h pos pins s σ H _ I hq) fun us s1 ⟨xs,H1,I1,r,z,q⟩=>⟨by rw [← r.length]; exact z,?_⟩)
 have hf:H1 s1.heap.objs.size=none:=I1.hok.fresh (qA9 _)
 refine ⟨.ref s1.heap.objs.size,upd H1 s1.heap.objs.size (.lst xs),I1.laid (t':=s1.toks) (fun b u e=>qA3 _ e) (qA9 _) ?_,rfl,q _ hf⟩
 exact ⟨z,us,0,r,qB3 _ rfl⟩
end
noncomputable abbrev Sp:=List V→Hp→VK→XK→Prop
noncomputable abbrev CXT:=List Env→Hp→Shared→XK→yL
structure Env0 (P:Program) (w:World) (K:W.Frag) (mg:Str→yF) (base:Heap) (A:Around) (outer:List Env) (s:Shared) (H:Hp):Prop where
 frames:A.frames=some outer
 mod:Mod K mg base
 bs:∀ b o,base.get? b=some o→s.heap.get? b=some o∧H b=none
 bsz:base.objs.size≤s.heap.objs.size
 funs:s.heap.FunFrames base outer
 frf:∀ b∈frs outer,H b=none
 hok:HOk P w H s.heap
 bare:AllBare s.gens
def CE (outer:List Env) (P:Program) (w:World) (H:Hp) (s:Shared) (Q:VK) (u:Value) (s':Shared):Prop :=
 ∃ v H',s'.os=s.os∧AllBare s'.gens∧Un (frs outer) [] H H' s.heap s'.heap∧HOk P w H' s'.heap∧RelV v u∧Q v H'
def CR (CX:CXT) (outer:List Env) (P:Program) (w:World) (H:Hp) (s:Shared) (Q:VK) (E:XK) (r:Result) (s':Shared):Prop :=
 match r with
 | .ok (.ret u)=>CE outer P w H s Q u s'
 | .ok _=>False
 | .error e=>CX outer H s E e s'
structure FnOk (P:Program) (w:World) (K:W.Frag) (mg:Str→yF) (base:Heap) (CX:CXT) (k:Nat) (f:Addr) (fd:FuncData) (ps:yH) (sp:Sp):Prop where
 len:∀ vs H Q E,sp vs H Q E→vs.length=ps.length
 run:∀ (A:Around) (outer:List Env) (s:Shared) (H:Hp) (args:Args) (us:yB) (vs:List V) (Q:VK) (E:XK),Room k A→Env0 P w K mg base A outer s H→BindsTo s fd args (ps.zip us)→Vals vs us→sp vs H Q E →
  codeAny (model P w) A (.call (.ref f) args) (CR CX outer P w H s Q E) s
theorem FnOk.imp {P:Program}{w:World}{K:W.Frag}{mg:Str→yF}{base:Heap}{CX:CXT}{k:Nat}{f:Addr}{fd:FuncData}{ps:yH}{sp sp':Sp} (F:FnOk P w K mg base CX k f fd ps sp)
  (h:∀ vs H Q E,sp' vs H Q E→sp vs H Q E):FnOk P w K mg base CX k f fd ps sp' :=
 ⟨fun vs H Q E q=>F.len vs H Q E (h _ _ _ _ q),fun A outer s H args us vs Q E hr he hb hv hs=>F.run A outer s H args us vs Q E hr he hb hv (h _ _ _ _ hs)⟩
section
variable {X:Cx}{pins:yD}{σ:St}{H:Hp}{s s':Shared}
theorem Inv.env0 (I:Inv X pins σ H s):Env0 X.prog X.w X.K X.mg X.base X.A X.stack s H :=
 ⟨I.ok.frames,I.ok.mod,I.bs,qC5 I.ok.bsz I.sz,I.stack,I.stkFree,I.hok,I.bare⟩
theorem Inv.after {Q:VK}{u:Value} (I:Inv X pins σ H s) (h:CE X.stack X.prog X.w H s Q u s'):EP X pins σ Q u s':=by
 obtain ⟨v,H',os,bare,un,hok,r,q⟩:=h
 obtain ⟨hh,g,d,t,os'⟩:=s'
 obtain rfl:os'=s.os:=os
 exact ⟨v,H',I.call (h':=hh) (g':=g) (d':=d) (t':=t) (ch:=[]) un hok bare (fun b z=>absurd z (by simp)),r,q⟩
end
def zQi (sp:Sp) (dvs:List V) (E:XK) (t:TA):TE:=fun σ H Q=>t σ H fun vs H1=>sp (vs++dvs) H1 Q E
def zHf (K:W.Frag) (fd:FuncData) (ps:yH) (ds:yB):Prop :=
 ∀ (s:Shared) (us:yB),K.In s.heap→(us++ds).length=ps.length→BindsTo s fd ⟨us,[]⟩ (ps.zip (us++ds))
theorem zHf.all {K:W.Frag}{fd:FuncData}{ps:yH} (h:∀ us:yB,us.length=ps.length→bindArgs fd ⟨us,[]⟩=pure (ps.zip us)):zHf K fd ps []:=fun s us _ hl=>by
 rw [qI6] at hl ⊢
 exact .of_eq (h us hl)
def zNL (CX:CXT) (X:Cx) (E:XK):Prop:=∀ (pins:yD) (σ:St) (H:Hp) (s:Shared) (e:Value) (s':Shared),Inv X pins σ H s→CX X.stack H s E e s'→X.xe e s'
section
variable {X:Cx}{CX:CXT}{k:Nat}{f C:Addr}{fd:FuncData}{ps:yH}{sp:Sp}{dvs:List V}{ds:yB}{E:XK}{x m:Str}{p pos apos:Pos}{e o:Expr}{es:yE}{ta:TE}{t:TA}
theorem zST {pins:yD}{σ:St}{H:Hp}{s:Shared}{Q:VK}{us:yB}{vs:List V} (F:FnOk X.prog X.w X.K X.mg X.base CX k f fd ps sp) (hr:Room k X.A) (hb:zHf X.K fd ps ds) (hd:Vals dvs ds) (hx:zNL CX X E)
  (I:Inv X pins σ H s) (r:Vals vs us) (h:sp (vs++dvs) H Q E):wpAny (model X.prog X.w) X.A (call (.ref f) us) (EP X pins σ Q) X.xe s:=by
 have r2:Vals (vs++dvs) (us++ds):=r.append hd
 have hl:(us++ds).length=ps.length:=by rw [← r2.length]; exact F.len _ _ _ _ h
 refine wpAny_call (codeAny_mono (F.run X.A X.stack s H ⟨us,[]⟩ (us++ds) (vs++dvs) Q E hr I.env0 (hb s us I.kIn hl) r2 h) fun r s' hq=>?_)
 cases r with
 | error e=>exact hx pins σ H s e s' I hq
 | ok fl =>
  cases fl with
  | ret u=>exact I.after hq
  | next=>exact False.elim hq
  | brk=>exact False.elim hq
  | cont=>exact False.elim hq
theorem zQZ (F:FnOk X.prog X.w X.K X.mg X.base CX k f fd ps sp) (hr:Room k X.A) (hg:Gl X x) (hm:X.mg x=some (.ref f)) (hk:W.keepIn X.K (.ref f)=true) (hb:zHf X.K fd ps ds) (hd:Vals dvs ds) (hx:zNL CX X E)
  (ha:PA X (e::es) t) (hdb:(x == ("__debug__":Str))=false:=by decide) (he:starEach (e::es) X.env=(false,eval e X.env)::starEach es X.env:=by rfl) (hpl:(backTo pos (starEach es X.env)).any (·.1)=false:=by rfl) :
  PE X (.Call (.Name x p) (e::es) [] pos) (zQi sp dvs E t):=by
 intro pins s σ H Q I h
 refine wpAny_Call_Name_kw (zRo I hg hm ?_ hdb)
 refine W.callWith_K (h₀:=X.base) I.ok.mod.kin hk (thn (ha pos pins s σ H _ I h) fun us s1 ⟨vs,H1,I1,r,q⟩=>⟨I1.kIn,?_⟩) he hpl
 exact zST F hr hb hd hx I1 r q
end
structure zHe (N P:yH) (sc:Scope):Prop where
 kind:sc.kind=.function
 co:sc.isCoroutine=false
 gen:sc.isGenerator=false
 nd:N.Nodup
 pre:N.take P.length=P
 par:∀ x∈P,sc.names.lookup x=some .local∨sc.names.lookup x=some .cell
 nofree:∀ y∈sc.names,y.2≠.free
theorem zID {kindOf:Str→Option NameKind}{x:Str}:∀ {binds:List (Str × Value)}{m:Str→yF},(∀ v,(x,v)∉binds)→bindL kindOf binds m x=m x
 | [],_,_=>rfl
 | (n,v)::r,m,h=>by
  unfold bindL
  rw [zID fun w hw=>h w (qC7 _ hw)]
  split
  ·have:x≠n:=by rintro rfl; exact h v qD4
   simp [this]
  ·rfl
theorem zIF {kindOf:Str→Option NameKind}{x:Str}:∀ {binds:List (Str × Value)}{m:Str→yF},(∀ v,(x,v)∉binds)→bindC kindOf binds m x=m x
 | [],_,_=>rfl
 | (n,v)::r,m,h=>by
  unfold bindC
  rw [zIF fun w hw=>h w (qC7 _ hw)]
  split
  ·rfl
  ·have:x≠n:=by rintro rfl; exact h v qD4
   simp [this]
theorem zIE {kindOf:Str→Option NameKind}{x:Str}{v:Value}:∀ {P:yH}{vs:yB}{i:Nat}{m:Str→yF},P.Nodup→P[i]?=some x→vs[i]?=some v→kindOf x=some .local →
  bindL kindOf (P.zip vs) m x=some v
 | [],_,_,_,_,h,_,_=>by simp at h
 | _::_,[],_,_,_,_,h,_=>by simp at h
 | p::P,w::vs,0,m,nd,h1,h2,hk=>by
  simp at h1 h2; subst h1; subst h2
  show bindL kindOf ((p,w)::P.zip vs) m p=_
  unfold bindL
  rw [zID fun v hv=>(qM9.mp nd).1 (qP7 hv).1,if_pos hk]
  simp
 | p::P,w::vs,i+1,m,nd,h1,h2,hk=>by
  show bindL kindOf ((p,w)::P.zip vs) m x=_
  unfold bindL
  exact zIE (i:=i) (qM9.mp nd).2 (by simpa using h1) (by simpa using h2) hk
theorem zIG {kindOf:Str→Option NameKind}{x:Str}{v:Value}:∀ {P:yH}{vs:yB}{i:Nat}{m:Str→yF},P.Nodup→P[i]?=some x→vs[i]?=some v→kindOf x≠some .local →
  bindC kindOf (P.zip vs) m x=some v
 | [],_,_,_,_,h,_,_=>by simp at h
 | _::_,[],_,_,_,_,h,_=>by simp at h
 | p::P,w::vs,0,m,nd,h1,h2,hk=>by
  simp at h1 h2; subst h1; subst h2
  show bindC kindOf ((p,w)::P.zip vs) m p=_
  unfold bindC
  rw [zIF fun v hv=>(qM9.mp nd).1 (qP7 hv).1,if_neg hk]
  simp
 | p::P,w::vs,i+1,m,nd,h1,h2,hk=>by
  show bindC kindOf ((p,w)::P.zip vs) m x=_
  unfold bindC
  exact zIG (i:=i) (qM9.mp nd).2 (by simpa using h1) (by simpa using h2) hk
noncomputable def start (N:yH) (vs:List V):St:=vs.map some++qL2 (N.length - vs.length) none
noncomputable def cxOf (CX:CXT) (P:Program) (w:World) (K:W.Frag) (mg:Str→yF) (base:Heap) (N:yH) (qual:Str) (scope:Scope) (f:Addr) (cd:Value) (A:Around) (outer:List Env) (s:Shared) (H:Hp) (E:XK):Cx where
 prog:=P
 w:=w
 K:=K
 mg:=mg
 base:=base
 A:=A.deeper (envOfC qual scope s.heap.objs.size f cd)
 N:=N
 s₀:=s
 H₀:=H
 env:=envOfC qual scope s.heap.objs.size f cd
 outer:=outer
 stack:=envOfC qual scope s.heap.objs.size f cd::outer
 ex:=[]
 calm:=true
 fn:=fun _=>true
 pn:=[]
 xe:=fun e s'=>wpAny (model P w) (A.deeper (envOfC qual scope s.heap.objs.size f cd)) (leaving (envOfC qual scope s.heap.objs.size f cd) e) (fun _ s''=>CX outer H s E e s'') (fun e' s''=>CX outer H s E e' s'') s'
theorem zKC {sc:Scope}{n:Nat}{x:Str} (h:sc.names.lookup x=some .cell):∃ c,(cellsFrom n sc.names []).lookup x=some c:=by
 have q:=W.cellsFrom_some sc.names n [] (.inl h)
 exact qE9.mp q
theorem zMS {CX:CXT}{P:Program}{w:World}{K:W.Frag}{mg:Str→yF}{base:Heap}{N ps:yH}{qual:Str}{scope:Scope}{f:Addr}{cd:Value}{A:Around}{outer:List Env}{s s1:Shared}{H:Hp}{E:XK}{us:yB}{vs:List V}
  (S:zHe N ps scope) (hd:A.handled=none) (e0:Env0 P w K mg base A outer s H) (hl:vs.length=ps.length) (r:Vals vs us)
  (x:InCallC s s.heap.objs.size (bindL (envOfC qual scope s.heap.objs.size f cd).kindOf (ps.zip us) fun _=>none) (cellsFrom (s.heap.objs.size+1) scope.names []) (bindC (envOfC qual scope s.heap.objs.size f cd).kindOf (ps.zip us) fun _=>none) s1) :
  Inv (cxOf CX P w K mg base N qual scope f cd A outer s H E) [] (start N vs) H s1:=by
 have hpl:ps.length≤N.length:=by have:=congrArg qM4 S.pre; rw [qH1] at this; omega
 obtain ⟨h1,tk,rfl,hk⟩:=x.done
 have noA:∀ b:Addr,b∉(cxOf CX P w K mg base N qual scope f cd A outer s H E).ex:=fun b z=>absurd (show b∈([]:yC) from z) (by simp)
 refine ⟨⟨e0.mod,S.kind,rfl,rfl,qA9 _,fun y z c h1 h2=>?_,fun y hy=>?_,fun y c _ h=>?_,fun _=>hd,Around.frames_deeper e0.frames,.inr ⟨rfl,rfl⟩,fun b z=>absurd z (noA b),e0.bs,e0.bsz,fun b _ _=>noA b,fun b z=>absurd z (noA b),e0.funs,e0.frf⟩,
  rfl,e0.bare,Un.kept hk,⟨_,x.toInCall.ns,fun i y v h1 h2 h3=>?_⟩,fun y c h=>⟨_,x.cell y c h⟩,e0.hok.fresh (qA9 _),fun y c h=>?_,fun p hp=>absurd (show p∈([]:yD) from hp) (by simp),e0.hok.kept hk,?_⟩
 ·exact name_of_addr x.apart (PySem.mem_of_lookup h1) (PySem.mem_of_lookup h2)
 ·have hy:scope.names.lookup y=some .cell∨scope.names.lookup y=some .free:=hy
  rcases hy with hy | hy
  ·exact zKC hy
  ·exact absurd rfl (S.nofree _ (PySem.mem_of_lookup hy))
 ·exact qH3 (x.above y c (PySem.mem_of_lookup h))
 ·have hi:i<vs.length:=by
   unfold start at h2
   by_cases hi:i<vs.length
   ·exact hi
   ·rw [qA0 (by simpa using hi)] at h2
    rw [qJ2] at h2
    split at h2 <;> cases h2
  have ha:vs[i]?=some v:=by
   unfold start at h2
   rw [qA7 (by simpa using hi),qB7] at h2
   cases e:vs[i]? with
   | none=>rw [e] at h2; cases h2
   | some a=>rw [e] at h2; cases h2; rfl
  obtain ⟨u,hu,rv⟩:=r.get ha
  have hp:ps[i]?=some y:=by
   rw [← S.pre,List.getElem?_take_of_lt (by omega)]; exact h1
  have ndP:ps.Nodup:=by rw [← S.pre]; exact S.nd.sublist (qG4 _ _)
  refine ⟨u,rv,?_⟩
  rcases S.par y (qC0 hp) with k | k
  ·exact .inl ⟨k,zIE ndP hp hu k⟩
  ·obtain ⟨c,e⟩:=zKC (n:=s.heap.objs.size+1) k
   refine .inr ⟨.inl k,c,e,?_⟩
   have q:=x.cell y c e
   rw [zIG ndP hp hu (by show scope.names.lookup y≠_; rw [k]; decide)] at q
   exact q
 ·exact e0.hok.fresh (qH3 (x.above y c (PySem.mem_of_lookup h)))
 ·unfold start
  show _=N.length
  rw [qB1,qA6,qI5]
  omega
theorem zWW {CX:CXT}{P:Program}{w:World}{K:W.Frag}{mg:Str→yF}{base:Heap}{k:Nat}{f:Addr}{name qual:Str}{params:Arguments}{body:List Stmt}{scope:Scope}{dV kV doc pm cdv ct oc:Value}{an od:Option Addr}
  {osl:Array (yF)}{N ps:yH}{sp:Sp} (lk:K.lookup f=some ⟨oc,od,.func (W.fnOf name qual params body scope dV kV doc pm an cdv ct),osl⟩) (hcd:W.codeIn K cdv qual=true) (S:zHe N ps scope)
  (len:∀ vs H Q E,sp vs H Q E→vs.length=ps.length)
  (hbody:∀ (A:Around) (outer:List Env) (s:Shared) (H:Hp) (vs:List V) (Q:VK) (E:XK),Room k (A.deeper (envOfC qual scope s.heap.objs.size f cdv))→sp vs H Q E →
   ∃ t,PSs (cxOf CX P w K mg base N qual scope f cdv A outer s H E) body t∧t { nx:=fun _ H'=>Q .non H',rt:=Q } (start N vs) H) :
  FnOk P w K mg base CX (k+1) f (W.fnOf name qual params body scope dV kV doc pm an cdv ct) ps sp:=by
 refine ⟨len,fun A outer s H args us vs Q E hr e0 hb r hsp=>?_⟩
 have hl:=len _ _ _ _ hsp
 have KX:K.In s.heap:=e0.mod.kin.keeps fun b o e=>(e0.bs b o e).1
 have lim:s.heap.NoLimit:=e0.mod.nolimit.keeps fun b o e=>(e0.bs b o e).1
 have hkind:∀ y∈ps.zip us,scope.names.lookup y.1=some .local∨(scope.names.lookup y.1=some .cell∧((cellsFrom (s.heap.objs.size+1) scope.names []).lookup y.1).isSome=true):=fun ⟨n,v⟩ hy=>by
  rcases S.par n (qP7 hy).1 with q | q
  ·exact .inl q
  ·exact .inr ⟨q,W.cellsFrom_some _ _ _ (.inl q)⟩
 refine codeAny_call_function hr.depth (KX _ _ lk) rfl S.co S.gen rfl (W.codeRec_of KX hcd) (hb _ _ _ _ ?_)
 refine wpAny_newFunctionEnv_cells S.kind hkind fun env he s1 x=>?_
 subst he
 refine ⟨lim.keeps x.toInCall.keep,codeAny_func ?_⟩
 obtain ⟨t,ht,hq⟩:=hbody A outer s H vs Q E (hr.deeper _) hsp
 have I:Inv (cxOf CX P w K mg base N qual scope f cdv A outer s H E) [] (start N vs) H s1:=zMS S hr.hd e0 hl r x
 refine wpAny_mono (ht [] s1 (start N vs) H _ I hq) (fun fl s' hs=>?_) fun e s' hs=>hs
 have fin:∀ {σ':St}{H':Hp}{v:V}{u:Value},Inv (cxOf CX P w K mg base N qual scope f cdv A outer s H E) [] σ' H' s'→RelV v u→Q v H'→CE outer P w H s Q u s' :=
  fun {σ' H' v u} J rv q=>⟨v,H',J.os,J.bare,J.base,J.hok,rv,q⟩
 cases fl with
 | ret u =>
  obtain ⟨v,σ',H',J,rv,q⟩:=hs
  exact fin J rv q
 | next =>
  obtain ⟨σ',H',J,q⟩:=hs
  exact fin (v:=V.non) (u:=Value.none) J rfl q
 | brk =>
  obtain ⟨_,_,_,q⟩:=hs
  exact False.elim q
 | cont =>
  obtain ⟨_,_,_,q⟩:=hs
  exact False.elim q
section
variable {X:Cx}{x:Str}{p pos:Pos}{e:Expr}{es:yE}{t:TA}{id T:String}{r:List V→Hp→VK→Prop}
def tCB (r:List V→Hp→VK→Prop) (t:TA):TE:=fun σ H Q=>t σ H fun vs H1=>r vs H1 Q
theorem zOA (hc:zAW X (.builtin id) r) (hg:Gl X x) (hm:X.mg x=none) (hv:bootBuiltins x=some (.builtin id)) (ha:PA X (e::es) t) (hn:x ≠ "__name__":=by decide) (hdb:(x == ("__debug__":Str))=false:=by decide)
  (he:starEach (e::es) X.env=(false,eval e X.env)::starEach es X.env:=by rfl) (hpl:(backTo pos (starEach es X.env)).any (·.1)=false:=by rfl):PE X (.Call (.Name x p) (e::es) [] pos) (tCB r t):=by
 intro pins s σ H Q I h
 refine wpAny_Call_Name_kw (zET I hg hm hv ?_ hn hdb)
 exact PyProof.Rows.callWith_builtin1 (thn (ha pos pins s σ H _ I h) fun us s1 ⟨vs,H1,I1,r1,q1⟩=>hc pins s1 σ H1 vs us Q I1 r1 q1) he hpl
theorem zCZ (hc:zAW X (.type T) r) (hg:Gl X x) (hm:X.mg x=none) (hv:bootBuiltins x=some (.type T)) (ha:PA X (e::es) t) (hn:x ≠ "__name__":=by decide) (hdb:(x == ("__debug__":Str))=false:=by decide)
  (he:starEach (e::es) X.env=(false,eval e X.env)::starEach es X.env:=by rfl) (hpl:(backTo pos (starEach es X.env)).any (·.1)=false:=by rfl):PE X (.Call (.Name x p) (e::es) [] pos) (tCB r t):=by
 intro pins s σ H Q I h
 refine wpAny_Call_Name_kw (zET I hg hm hv ?_ hn hdb)
 exact PyProof.Rows.callWith_type1 (thn (ha pos pins s σ H _ I h) fun us s1 ⟨vs,H1,I1,r1,q1⟩=>hc pins s1 σ H1 vs us Q I1 r1 q1) he hpl
end
end L2
namespace HT
open PySem PyProof.Rows
noncomputable def lexLt:yA→yA→Bool
 | [],[]=>false
 | [],_::_=>true
 | _::_,[]=>false
 | x::xs,y::ys=>if x=y then lexLt xs ys else decide (x<y)
theorem lexLt_cons (x y:Int) (xs ys:yA):lexLt (x::xs) (y::ys)=if x=y then lexLt xs ys else decide (x<y):=rfl
theorem zGA:lexLt [] []=false:=rfl
theorem zFE (y:Int) (ys:yA):lexLt [] (y::ys)=true:=rfl
theorem zFF (x:Int) (xs:yA):lexLt (x::xs) []=false:=rfl
theorem zPd (A:Around) (s:Shared) (a:Int) (t:Tok) (c:Int) (u:Tok):∃ e,SeqAt.EqAt A s (.int a t) (.int c u) e∧(e=true↔a=c) :=
 ⟨(a == c),SeqAt.EqAt.int_int a t c u,by simp⟩
theorem zOg (A:Around) (s:Shared) (a:Int) (t:Tok) (c:Int) (u:Tok) (prog:Program) (w:World) (E:yL) (Q:yL) (h:Q (.bool (decide (a<c))) s) :
  wpAny (model prog w) A (richCompare .Lt (.int a t) (.int c u)) Q E s :=
 (PyProof.Rows.lt_int h:wpAny (model prog w) A (compareOp .Lt (.int a t) (.int c u)) Q E s)
section
open PySem.SeqAt
open PySem.AutoSeq1 (wpAny_loadPart')
open PySem.MeetsSeq PySem.MeetsSeq2 PySem.MeetsSeq3
theorem tuple_lt_ints (l b:Addr) (items items2:yJ) (n n2:Nat) (dd dd2:Option Addr) (sl sl2:Array (yF)) (ns ms:yA) (hi:IntsAre items.toList ns) (hj:IntsAre items2.toList ms) :
  Meets (Builtin.«tuple.__lt__» ⟨[.ref l,.ref b],[]⟩)
   (fun _ R s=>s.heap.get? l=some { cls:=.type "tuple",dict:=dd,data:=.seq items n,slots:=sl }∧s.heap.get? b=some { cls:=.type "tuple",dict:=dd2,data:=.seq items2 n2,slots:=sl2 } ∧
    R (.ok (.ret (.bool (lexLt ns ms)))) s) :=
 .of_wp fun prog w A R s h=>by
  obtain ⟨hp,g,d,tk,os⟩:=s; obtain ⟨hl,hb,h⟩:=h
  have f2:=AutoSeq1.sub_tuple_tuple
  have z1:items.size=ns.length:=by rw [← hi.length]; simp
  have z2:items2.size=ms.length:=by rw [← hj.length]; simp
  wp_walk using wpAny_loadPart' hl,wpAny_loadPart' hb,wpAny_forIn_list _ (fun rest b s'=>b.1=none∧s'=⟨hp,g,d,tk,os⟩∧∃ (vs ws:yB) (ns' ms':yA),rest=vs.zip ws ∧
   IntsAre vs ns'∧IntsAre ws ms'∧ns'.length+items2.size=ms'.length+items.size∧R (.ok (.ret (.bool (lexLt ns' ms')))) ⟨hp,g,d,tk,os⟩) _
  case turn =>
   rintro ⟨y,x⟩ rest b s' ⟨hb',rfl,vs,ws,ns',ms',hz,hvi,hwi,hlen,hR⟩
   cases hvi with
   | nil=>rw [qR9] at hz; cases hz
   | cons a t hvi' =>
    cases hwi with
    | nil=>rw [qR4] at hz; cases hz
    | cons c u hwi' =>
     rw [qJ4] at hz
     injection hz with hyx hrest
     injection hyx with hy hx
     subst hy hx
     rw [lexLt_cons] at hR
     simp only [qC3] at hlen
     obtain ⟨e,he,hiff⟩:=zPd A.in1 ⟨hp,g,d,tk,os⟩ a t c u
     refine wpAny_bind (he prog w _ _ ?_)
     cases e with
     | true =>
      rw [if_pos (hiff.mp rfl)] at hR
      wp_walk
      exact ⟨rfl,rfl,_,_,_,_,hrest,hvi',hwi',by omega,hR⟩
     | false =>
      rw [if_neg (fun q=>absurd (hiff.mpr q) qB2)] at hR
      have hri:=zOg A.in1 ⟨hp,g,d,tk,os⟩ a t c u prog w
      wp_walk using hri
      exact ⟨_,rfl,by simpa using hR⟩
  case fin =>
   rintro ⟨b1,b2⟩ s' ⟨hb',rfl,vs,ws,ns',ms',hz,hvi,hwi,hlen,hR⟩
   simp only at hb'
   subst hb'
   have hv:lexLt ns' ms'=decide (items.size<items2.size):=by
    cases hvi with
    | nil =>
     cases hwi with
     | nil =>
      simp only [qF3] at hlen
      rw [zGA]
      exact (decide_eq_false (by omega)).symm
     | cons c u hw =>
      simp only [qF3,qC3] at hlen
      rw [zFE]
      exact (decide_eq_true (by omega)).symm
    | cons a t hv =>
     cases hwi with
     | nil =>
      simp only [qF3,qC3] at hlen
      rw [zFF]
      exact (decide_eq_false (by omega)).symm
     | cons c u hw =>
      rw [qJ4] at hz
      cases hz
   rw [hv] at hR
   wp_walk
   exact ⟨_,rfl,by simpa [Builtin.Tuple.tupleCompareSizes] using hR⟩
  case h =>
   exact ⟨rfl,rfl,items.toList,items2.toList,ns,ms,rfl,hi,hj,by omega,h⟩
end
section
variable {prog:Program}{w:World}{A:Around}{E:yL}{s:Shared}
theorem lt_tupInts {l b:Addr}{items items2:yJ}{ns ms:yA}{Q:yL} (hl:IsTup s.heap l items) (hb:IsTup s.heap b items2) (hi:IntsAre items.toList ns) (hj:IntsAre items2.toList ms)
  (hu:A.units<cLine) (h:Q (.bool (lexLt ns ms)) s):wpAny (model prog w) A (compareOp .Lt (.ref l) (.ref b)) Q E s:=by
 obtain ⟨⟨cls,dd,data,sl⟩,ho,hc,n,hd⟩:=id hl
 obtain ⟨⟨cls2,dd2,data2,sl2⟩,ho2,hc2,n2,hd2⟩:=id hb
 simp only at hc hd hc2 hd2
 subst hc hd hc2 hd2
 exact richCompare_meets_room (op:=.Lt) ⟨_,ho,rfl⟩ ⟨_,ho2,rfl⟩ PySem.F.slot_tuple_lt PySem.F.entry_tuple_lt (PySem.F.args_tuple_lt_2 _ _) (tuple_lt_ints l b items items2 n n2 dd dd2 sl sl2 ns ms hi hj)
  ⟨ho,ho2,show Value.bool (lexLt ns ms)≠Value.notImplemented∧Q (.bool (lexLt ns ms)) s from ⟨(fun x=>nomatch x),h⟩⟩ hu
theorem cat_tup {t b:Addr}{vs ws:yB}{Q:yL} (ht:IsTup s.heap t vs.toArray) (hb:IsTup s.heap b ws.toArray) (hv:vs≠[])
  (h1:ws=[]→Q (.ref t) s) (h2:ws≠[]→Q (.ref s.heap.objs.size) { s with heap:=s.heap.push { cls:=.type "tuple",data:=.seq (vs++ws).toArray } })
  (hsz:vs.length+ws.length≤sizeLine):wpAny (model prog w) A (binaryOp .Add (.ref t) (.ref b)) Q E s:=by
 obtain ⟨⟨cls,dd,data,sl⟩,ho,hc,n,hd⟩:=id ht
 obtain ⟨⟨cls2,dd2,data2,sl2⟩,ho2,hc2,n2,hd2⟩:=id hb
 simp only at hc hd hc2 hd2
 subst hc hd hc2 hd2
 have e:vs.toArray++ws.toArray=(vs++ws).toArray:=by simp
 by_cases hw:ws=[]
 ·exact concat_meets ⟨_,ho,rfl⟩ ⟨_,ho2,rfl⟩ noFill_tuple_add seq_tuple_add PySem.F.slot_tuple_add PySem.F.entry_tuple_add (PySem.F.args_tuple_add_2 _ _)
   (tuple_addW1 t b vs.toArray ws.toArray n n2 dd dd2 sl sl2 (by simpa using hv) (by simp [hw])) ⟨ho,ho2,h1 hw⟩
 ·refine concat_meets ⟨_,ho,rfl⟩ ⟨_,ho2,rfl⟩ noFill_tuple_add seq_tuple_add PySem.F.slot_tuple_add PySem.F.entry_tuple_add (PySem.F.args_tuple_add_2 _ _)
   (tuple_addW2 t b vs.toArray ws.toArray n n2 dd dd2 sl sl2 (by simpa using hv) (by simpa using hw) (by rw [qB0,qB0]; exact hsz)) ⟨ho,ho2,?_⟩
  rw [e]
  exact h2 hw
noncomputable def sIx (n d:Nat):yG→Nat
 | none=>d
 | some v=>if v<0 then (v+(n:Int)).toNat else min v.toNat n
theorem sIx_none (n d:Nat):sIx n d none=d:=rfl
theorem sIx_nat (n d k:Nat):sIx n d (some (k:Int))=min k n:=by
 show (if (k:Int)<0 then ((k:Int)+(n:Int)).toNat else min (k:Int).toNat n)=min k n
 rw [if_neg (by omega),qH6]
theorem zSS (n d:Nat) (hd:d≤n) (o:yG):sIx n d o≤n:=by
 cases o with
 | none=>exact hd
 | some v =>
  show (if v<0 then (v+(n:Int)).toNat else min v.toNat n)≤n
  by_cases hv:v<0
  ·rw [if_pos hv]; omega
  ·rw [if_neg hv]; exact Nat.min_le_right _ _
theorem zNp (v:Int) (n d:Nat):(if v<0 then max (v+(n:Int)) 0 else min v (n:Int))=((sIx n d (some v):Nat):Int):=by
 show (if v<0 then max (v+(n:Int)) 0 else min v (n:Int))=(((if v<0 then (v+(n:Int)).toNat else min v.toNat n):Nat):Int)
 by_cases hv:v<0
 ·simp only [if_pos hv]; omega
 ·simp only [if_neg hv]; omega
theorem zLA (lo hi:yG) (n:Nat):Builtin.Slice.sliceAdjust lo hi 1 (n:Int)=(((sIx n 0 lo:Nat):Int),((sIx n n hi:Nat):Int)):=by
 have h1:¬ ((1:Int)<0):=by omega
 unfold Builtin.Slice.sliceAdjust
 simp only [h1,if_false]
 refine Prod.ext ?_ ?_
 ·cases lo with
  | none=>rfl
  | some v=>exact zNp v n 0
 ·cases hi with
  | none=>rfl
  | some v=>exact zNp v n n
theorem zKV (i j:Nat):Builtin.Slice.slicePlaces (i:Int) (j:Int) 1=j - i:=by
 unfold Builtin.Slice.slicePlaces
 have h1:(1:Int)>0:=by omega
 simp only [h1,if_true,Int.ediv_one]
 split <;> omega
theorem slicePart_ {v:Value}{o:yG}{Q:yG→Shared→Prop} (p:IsPart v o) (h:Q o s):wpAny (model prog w) A (Builtin.Slice.slicePartIndex v) Q E s:=by
 cases p with
 | none=>exact slicePart_none h
 | int i t=>exact slicePart_int h
theorem sliceApplied_gen {sl:Addr}{vl vu:Value}{lo hi:yG}{n:Nat}{Q:Int × Int × Nat→Shared→Prop} (hs:s.heap.IsSliceOf sl vl vu .none) (pl:IsPart vl lo) (pu:IsPart vu hi)
  (h:Q (((sIx n 0 lo:Nat):Int),1,sIx n n hi - sIx n 0 lo) s):wpAny (model prog w) A (Builtin.Slice.sliceApplied (.ref sl) (pure (n:Int))) Q E s:=by
 obtain ⟨os,hos,hcs,hds⟩:=id hs
 unfold Builtin.Slice.sliceApplied Builtin.Slice.sliceFields
 refine wpAny_bind (wpAny_bind (wpAny_field hos hds (x:=vl) rfl (wpAny_bind (wpAny_field hos hds (x:=vu) rfl (wpAny_bind (wpAny_field hos hds (x:=.none) rfl (wpAny_pure ?_)))))))
 refine wpAny_bind (slicePart_none ?_)
 show wpAny _ _ (if ((1:Int) == 0)=true then _ else _) _ _ s
 rw [if_neg (by decide)]
 refine wpAny_bind (slicePart_ pl (wpAny_bind (slicePart_ pu (wpAny_bind (wpAny_pure ?_)))))
 show wpAny _ _ (match Builtin.Slice.sliceAdjust lo hi 1 (n:Int) with | (lo,hi)=>pure (lo,(1:Int),Builtin.Slice.slicePlaces lo hi 1)) _ _ s
 rw [zLA lo hi n]
 show wpAny _ _ (pure (((sIx n 0 lo:Nat):Int),(1:Int),Builtin.Slice.slicePlaces ((sIx n 0 lo:Nat):Int) ((sIx n n hi:Nat):Int) 1)) _ _ s
 rw [zKV]
 exact wpAny_pure h
theorem zOr (xs:yJ) (i k:Nat):((List.range k).filterMap fun (m:Nat)=>xs[((i:Int)+(m:Int)*1).toNat]?).toArray=((xs.toList.drop i).take k).toArray:=by
 have e:(fun (m:Nat)=>xs[((i:Int)+(m:Int)*1).toNat]?)=fun m=>xs[i+m]?:=by
  funext m
  have:((i:Int)+(m:Int)*1).toNat=i+m:=by omega
  rw [this]
 rw [e]
 have:=pick_run xs i k
 rw [List.filterMap_map] at this
 have e2:((fun x=>xs[x]?)∘fun x=>i+x)=fun m=>xs[i+m]?:=rfl
 rw [e2] at this
 rw [this]
theorem getItem_tuple_cut {t sl:Addr}{items:yJ}{vl vu:Value}{lo hi:yG}{Q:yL} (ht:IsTup s.heap t items) (hs:s.heap.IsSliceOf sl vl vu .none) (pl:IsPart vl lo) (pu:IsPart vu hi)
  (hw:¬ (sIx items.size 0 lo=0∧sIx items.size items.size hi=items.size))
  (h:Q (.ref s.heap.objs.size) { s with heap:=s.heap.push { cls:=.type "tuple",data:=.seq ((items.toList.drop (sIx items.size 0 lo)).take (sIx items.size items.size hi - sIx items.size 0 lo)).toArray } })
  (hsz:items.size≤sizeLine):wpAny (model prog w) A (getItem (.ref t) (.ref sl)) Q E s:=by
 have htake:sizeOk (.seq ((items.toList.drop (sIx items.size 0 lo)).take (sIx items.size items.size hi - sIx items.size 0 lo)).toArray):=by
  show ((items.toList.drop (sIx items.size 0 lo)).take (sIx items.size items.size hi - sIx items.size 0 lo)).toArray.size≤sizeLine
  rw [qB0,qH1,qI2,Array.length_toList]
  omega
 have hj:sIx items.size items.size hi≤items.size:=zSS _ _ (qA9 _) hi
 obtain ⟨os,hos,hcs,hds⟩:=id hs
 have hTs:s.TypeIs (.ref sl) "slice":=⟨os,hos,hcs⟩
 unfold getItem
 try with_reducible refine wpAny_holding ?_
 first | refine wpAny_bind (wpAny_pure ?_) | skip
 refine wpAny_bind (wpAny_sequenceKey ht.typeIs (by decide) ?_)
 refine wpAny_bind (wpAny_callSpecial?_slot (name:=Str.ofString "__getitem__") ht.typeIs PyProof.Rows.slot_tuple_getitem
  (wpAny_call_entry PyProof.Rows.slot_tuple_getitem ht.typeIs entry_tuple_getitem ?_ (args_tuple_getitem _ _)))
 show wpAny _ _ (Builtin.Tuple.tupleItemsOf (.ref t) >>= _) _ _ s
 refine wpAny_bind (tupleItemsOf_ ht ?_)
 refine wpAny_bind (wpAny_typeOf hTs ?_)
 rw [if_pos (by decide)]
 refine wpAny_bind (sliceApplied_gen hs pl pu ?_)
 have hno:¬ ((((sIx items.size 0 lo:Nat):Int) == 0&&(1:Int) == 1&&(sIx items.size items.size hi - sIx items.size 0 lo) == items.size)=true):=by
  intro q
  rw [qC6,qC6] at q
  have q1:((sIx items.size 0 lo:Nat):Int)=0:=eq_of_beq q.1.1
  have q2:sIx items.size items.size hi - sIx items.size 0 lo=items.size:=eq_of_beq q.2
  exact hw ⟨by omega,by omega⟩
 show wpAny _ _ (if (((sIx items.size 0 lo:Nat):Int) == 0&&(1:Int) == 1&&(sIx items.size items.size hi - sIx items.size 0 lo) == items.size)=true then _ else _) _ _ s
 rw [if_neg hno,zOr]
 first
  | exact wpAny_bind (m:=Builtin.Tuple.tupleExact _) (wpAny_newObj_type (wpAny_pure ⟨_,rfl,wpAny_pure h⟩) htake)
  | exact wpAny_bind (m:=Builtin.Tuple.tupleExact _) (wpAny_newObj_type (wpAny_bind (wpAny_pure (wpAny_pure ⟨_,rfl,wpAny_pure h⟩))) htake)
  | exact wpAny_bind (wpAny_bind (m:=Builtin.Tuple.tupleExact _) (wpAny_newObj_type (wpAny_pure (wpAny_pure ⟨_,rfl,wpAny_pure h⟩)) htake))
  | exact wpAny_bind (wpAny_bind (m:=Builtin.Tuple.tupleExact _) (wpAny_newObj_type (wpAny_pure ⟨_,rfl,wpAny_pure h⟩) htake))
end
end HT
namespace L2
open PySem PySem.Spec PyProof.Rows
noncomputable abbrev TO:=St→Hp→(yG→Hp→Prop)→Prop
def PO (X:Cx) (e:Option Expr) (t:TO):Prop :=
 ∀ (pins:yD) (s:Shared) (σ:St) (H:Hp) (Q:yG→Hp→Prop),Inv X pins σ H s→t σ H Q →
  wpAny (model X.prog X.w) X.A (evalPart e X.env) (fun u s'=>∃ o H',Inv X pins σ H' s'∧IsPart u o∧Q o H') X.xe s
def zQg:TO:=fun _ H Q=>Q none H
def zVF (t:TE):TO:=fun σ H Q=>t σ H fun x H1=>∃ i,x=.int i∧Q (some i) H1
theorem zEc {ns:yA}:∀ {us:yB},Vals (ns.map V.int) us→IntsAre us ns:=by
 induction ns with
 | nil=>intro us r; rw [qJ5] at r; cases r; exact .nil
 | cons n ns ih =>
  intro us r
  rw [qB9] at r
  cases r with
  | cons r1 r2 =>
   obtain ⟨t,e⟩:=r1
   subst e
   exact .cons n t (ih r2)
section
variable {X:Cx}{e:Expr}{te:TE}{lo hi:Option Expr}{tl th:TO}{pos p2:Pos}
theorem zQT:PO X none zQg:=by
 intro pins s σ H Q I h
 rw [evalPart_none]
 exact wpAny_pure ⟨none,H,I,.none,h⟩
theorem zQS (h:PE X e te):PO X (some e) (zVF te):=by
 intro pins s σ H Q I hw
 rw [evalPart_some]
 refine thn (h pins s σ H _ I hw) fun u s1 ⟨x,H1,I1,r1,q1⟩=>?_
 obtain ⟨i,rfl,q⟩:=q1
 obtain ⟨t,rfl⟩:=r1
 exact ⟨some i,H1,I1,.int i t,q⟩
def SlR (X:Cx) (r:V→yG→yG→Hp→VK→Prop):Prop :=
 ∀ (pins:yD) (s:Shared) (σ:St) (H:Hp) (x:V) (v vl vu:Value) (lo hi:yG) (sl:Addr) (Q:VK),Inv X pins σ H s→RelV x v→s.heap.IsSliceOf sl vl vu .none→IsPart vl lo→IsPart vu hi→r x lo hi H Q →
  ∃ T id,typeLookup (.type T) "__getitem__"=pure (some (.builtin id))∧s.TypeIs v T∧wpAny (model X.prog X.w) X.A (getItem v (.ref sl)) (EP X pins σ Q) X.xe s
def tSl (r:V→yG→yG→Hp→VK→Prop) (te:TE) (tl th:TO):TE:=fun σ H Q=>te σ H fun x H1=>tl σ H1 fun l H2=>th σ H2 fun u H3=>r x l u H3 Q
theorem zOv {r:V→yG→yG→Hp→VK→Prop} (hr:SlR X r) (he:PE X e te) (hl:PO X lo tl) (hu:PO X hi th):PE X (.Subscript e (.Slice lo hi none p2) pos) (tSl r te tl th):=by
 intro pins s σ H Q I h
 refine Subscript_ (thn (he pins s σ H _ I h) fun v s1 ⟨x,H1,I1,r1,q1⟩=>?_)
 refine wpAny_Slice (thn (hl pins s1 σ H1 _ I1 q1) fun vl s2 ⟨l,H2,I2,pl,q2⟩=>thn (hu pins s2 σ H2 _ I2 q2) fun vu s3 ⟨u,H3,I3,pu,q3⟩=>?_)
 rw [evalPart_none]
 refine wpAny_pure ?_
 have I4:Inv X pins σ H3 { s3 with heap:=s3.heap.push { cls:=.type "slice",data:=.fields #[vl,vu,.none] } }:=I3.kept (t':=s3.toks) fun b ob q=>qA3 _ q
 obtain ⟨T,id,hT,ht,hg⟩:=hr pins { s3 with heap:=s3.heap.push { cls:=.type "slice",data:=.fields #[vl,vu,.none] } } σ H3 x v vl vu l u s3.heap.objs.size Q I4 r1 (qU0.new ..) pl pu q3
 show wpAny (model X.prog X.w) X.A (subscriptTail e (.Slice lo hi none p2) v (.ref s3.heap.objs.size)) (EP X pins σ Q) X.xe { s3 with heap:=s3.heap.push { cls:=.type "slice",data:=.fields #[vl,vu,.none] } }
 exact tail_any (ops:=[.ref s3.heap.objs.size,v]) ht hT hg (by with_unfolding_all rfl)
noncomputable def cutV (xs:List V) (lo hi:yG):List V:=(xs.drop (HT.sIx xs.length 0 lo)).take (HT.sIx xs.length xs.length hi - HT.sIx xs.length 0 lo)
theorem zFi (xs:List V) (lo hi:yG):(cutV xs lo hi).length≤xs.length:=by
 unfold cutV
 rw [qH1,qI2]
 omega
def rSlT (K:W.Frag):V→yG→yG→Hp→VK→Prop:=fun x lo hi H Q=>∃ a xs,x=.ref a∧SqT K H a xs ∧
 ¬ (HT.sIx xs.length 0 lo=0∧HT.sIx xs.length xs.length hi=xs.length)∧∀ p,H p=none→Q (.ref p) (upd H p (.tup (cutV xs lo hi)))
theorem zSz:SlR X (rSlT X.K):=by
 intro pins s σ H x v vl vu lo hi sl Q I rx hs pl pu h
 obtain ⟨a,xs,rfl,hx,hw,q⟩:=h
 cases rx
 obtain ⟨its,r,ht,hz⟩:=I.tuple hx
 have hlen:its.toArray.size=xs.length:=by rw [qB0]; exact r.length.symm
 refine ⟨"tuple",_,PyProof.Rows.slot_tuple_getitem.lookup,ht.typeIs,?_⟩
 refine HT.getItem_tuple_cut ht hs pl pu (by rw [hlen]; exact hw) ?_ (by rw [hlen]; exact hz)
 rw [hlen]
 refine ⟨.ref s.heap.objs.size,_,I.laid (t':=s.toks) (o:=.tup (cutV xs lo hi)) (fun b ob q=>qA3 _ q) (qA9 _) ?_,rfl,q _ (I.hok.fresh (qA9 _))⟩
 exact ⟨qC5 (zFi xs lo hi) hz,_,(r.drop (HT.sIx xs.length 0 lo)).take (HT.sIx xs.length xs.length hi - HT.sIx xs.length 0 lo),IsTup.new _ _⟩
def zW3 (K:W.Frag):R2:=fun x y H Q=>∃ a b xs ys,x=.ref a∧y=.ref b∧SqT K H a xs∧SqT K H b ys∧xs≠[]∧xs.length+ys.length≤sizeLine ∧
 (ys=[]→Q (.ref a) H)∧(ys≠[]→∀ p,H p=none→Q (.ref p) (upd H p (.tup (xs++ys))))
theorem Vals.nil_iff {xs:List V}{us:yB} (r:Vals xs us):us=[]↔xs=[]:=by
 cases r with
 | nil=>simp
 | cons _ _=>simp
theorem zR3:OpR X (binaryOp .Add) (zW3 X.K):=by
 intro pins s σ H x y v u Q I rx ry h
 obtain ⟨a,b,xs,ys,rfl,rfl,ha,hb,hx,hz,q1,q2⟩:=h
 cases rx
 cases ry
 obtain ⟨its,r1,p1,_⟩:=I.tuple ha
 obtain ⟨its2,r2,p2,_⟩:=I.tuple hb
 refine HT.cat_tup p1 p2 (fun z=>hx (r1.nil_iff.mp z)) (fun z=>⟨.ref a,H,I,rfl,q1 (r2.nil_iff.mp z)⟩) (fun z=>?_) (by rw [← r1.length,← r2.length]; exact hz)
 refine ⟨.ref s.heap.objs.size,_,I.laid (t':=s.toks) (o:=.tup (xs++ys)) (fun b ob q=>qA3 _ q) (qA9 _) ?_,rfl,q2 (fun w=>z (r2.nil_iff.mpr w)) _ (I.hok.fresh (qA9 _))⟩
 exact ⟨by rw [qB1]; exact hz,_,r1.append r2,IsTup.new _ _⟩
end
noncomputable def ixN (n:Nat) (i:Int):yK:=if 0≤i then (if i<n then some i.toNat else none) else if -(n:Int)≤i then some (i+n).toNat else none
noncomputable def atI {α:Type} (xs:List α) (i:Int):Option α:=(ixN xs.length i).bind fun j=>xs[j]?
theorem zMN {n:Nat}{i:Int}{j:Nat} (h:ixN n i=some j):seqIndex? i n=some j∧j<n∧-(n:Int)≤i∧i<n:=by
 unfold ixN at h
 by_cases h0:0≤i
 ·rw [if_pos h0] at h
  by_cases h1:i<n
  ·rw [if_pos h1] at h
   have e:i.toNat=j:=Option.some.inj h
   exact ⟨by rw [seqIndex_of h0 h1,e],by omega,by omega,h1⟩
  ·rw [if_neg h1] at h; cases h
 ·rw [if_neg h0] at h
  by_cases h1:-(n:Int)≤i
  ·rw [if_pos h1] at h
   have e:(i+n).toNat=j:=Option.some.inj h
   exact ⟨by rw [seqIndex_neg (by omega) h1,e],by omega,h1,by omega⟩
  ·rw [if_neg h1] at h; cases h
theorem zNI {α:Type}{xs:List α}{i:Int}{v:α} (h:atI xs i=some v):∃ j,seqIndex? i xs.length=some j∧xs[j]?=some v∧j<xs.length∧-(xs.length:Int)≤i∧i<xs.length:=by
 unfold atI at h
 cases e:ixN xs.length i with
 | none=>rw [e] at h; cases h
 | some j =>
  rw [e] at h
  obtain ⟨h1,h2,h3,h4⟩:=zMN e
  exact ⟨j,h1,h,h2,h3,h4⟩
theorem zC1 {α:Type}{xs:List α}{j:Nat}{v:α} (h:xs[j]?=some v):atI xs (j:Int)=some v:=by
 have hj:j<xs.length:=(qA4.mp h).1
 have e:ixN xs.length (j:Int)=some j:=by
  unfold ixN
  rw [if_pos (by omega),if_pos (by omega)]; simp
 unfold atI; rw [e]; exact h
def zJW (b:Expr):Prop:=∀ o i,subscripted b false o i=operate [o,i] (getItem o i)
def IxR (X:Cx) (r:R2):Prop :=
 ∀ (value slice:Expr) (pins:yD) (s:Shared) (σ:St) (H:Hp) (x y:V) (v u:Value) (Q:VK),Inv X pins σ H s→RelV x v→RelV y u→r x y H Q →
  subscripted slice false v u=operate [v,u] (getItem v u)→wpAny (model X.prog X.w) X.A (subscriptTail value slice v u) (EP X pins σ Q) X.xe s
def MtR (X:Cx) (id:String) (r:V→List V→Hp→VK→Prop):Prop :=
 ∀ (pins:yD) (s:Shared) (σ:St) (H:Hp) (x:V) (xs:List V) (v:Value) (us:yB) (Q:VK),Inv X pins σ H s→RelV x v→Vals xs us→r x xs H Q →
  wpAny (model X.prog X.w) X.A (call (.builtin id) (v::us)) (EP X pins σ Q) X.xe s
section
variable {X:Cx}{a b:Expr}{ta tb:TE}{pos:Pos}
theorem zW9 {r:R2} (hr:IxR X r) (ha:PE X a ta) (hb:PE X b tb) (hs:zJW b):PE X (.Subscript a b pos) (tOp r ta tb):=by
 intro pins s σ H Q I h
 exact Subscript_ (binT ha hb I h fun v u s2 x y H2 I2 rx ry q=>hr a b pins s2 σ H2 x y v u Q I2 rx ry q (hs _ _))
def rIxL (K:W.Frag):R2:=fun x y H Q=>∃ p xs i v,x=.ref p∧y=.int i∧SqL K H p xs∧atI xs i=some v∧Q v H
def rIxT (K:W.Frag):R2:=fun x y H Q=>∃ p xs i v,x=.ref p∧y=.int i∧SqT K H p xs∧atI xs i=some v∧Q v H
theorem zRx:IxR X (rIxL X.K):=by
 intro value slice pins s σ H x y v u Q I rx ry h hs
 obtain ⟨p,xs,i,z,rfl,rfl,hq,he,q⟩:=h
 cases rx
 obtain ⟨t,rfl⟩:=ry
 obtain ⟨its,r,pl,hz⟩:=I.list hq
 obtain ⟨j,h1,h2,h3,h4,h5⟩:=zNI he
 obtain ⟨w,ew,rw'⟩:=r.get h2
 have hl:=r.length
 have hn:=zG4
 have fin:EP X pins σ Q w s:=⟨z,H,I,rw',q⟩
 by_cases h0:0≤i
 ·have hj:i.toNat=j:=by
   rw [seqIndex_of h0 h5] at h1
   exact Option.some.inj h1
  exact item_listR pl.isList h0 (by omega) (by rw [hj]; simpa using ew) fin hs
 ·have hj:(i+(its.toArray.size:Int)).toNat=j:=by
   rw [seqIndex_neg (by omega) h4] at h1
   rw [qB0,← hl]
   exact Option.some.inj h1
  exact subscriptTail_builtinR (x:=w) pl.isList.typeIs slot_list_getitem.lookup
   (wpAny_getItem_list_neg (Q:=fun r s'=>r=w∧EP X pins σ Q r s') pl.isList (by omega) (by rw [qB0] <;> omega) (by omega) (by rw [hj]; simpa using ew) ⟨rfl,fin⟩) hs
theorem zU9:IxR X (rIxT X.K):=by
 intro value slice pins s σ H x y v u Q I rx ry h hs
 obtain ⟨p,xs,i,z,rfl,rfl,hq,he,q⟩:=h
 cases rx
 obtain ⟨t,rfl⟩:=ry
 obtain ⟨its,r,pl,hz⟩:=I.tuple hq
 obtain ⟨j,h1,h2,h3,h4,h5⟩:=zNI he
 obtain ⟨w,ew,rw'⟩:=r.get h2
 have hl:=r.length
 have hn:=zG4
 have fin:EP X pins σ Q w s:=⟨z,H,I,rw',q⟩
 exact subscriptTail_builtinR (x:=w) pl.typeIs slot_tuple_getitem.lookup
  (getItem_tuple (j:=j) (Q:=fun r s'=>r=w∧EP X pins σ Q r s') pl (by omega) (by omega) (by rw [qB0,← hl]; exact h1) (by simpa using ew) ⟨rfl,fin⟩) hs
theorem zL0 (its:yB) (n j:Nat) (u:Value):Obj.mapSeq (·.setIfInBounds j u) { cls:=.type "list",data:=.seq its.toArray n }={ cls:=.type "list",data:=.seq (its.set j u).toArray n }:=by
 simp [Obj.mapSeq]
theorem Inv.lst {pins:yD}{σ:St}{H:Hp}{s:Shared}{p:Addr}{xs:List V} (I:Inv X pins σ H s) (h:H p=some (.lst xs)) :
  ∃ (its:yB) (n:Nat),Vals xs its∧s.heap.get? p=some { cls:=.type "list",data:=.seq its.toArray n }∧xs.length≤sizeLine:=by
 obtain ⟨z,its,n,r,e⟩:=I.hok p _ h
 exact ⟨its,n,r,e,z⟩
theorem Inv.lstUpd {pins:yD}{σ:St}{H:Hp}{s:Shared}{p:Addr}{xs ys:List V}{its its':yB}{n n':Nat}{f:Obj→Obj} (I:Inv X pins σ H s) (h:H p=some (.lst xs))
  (ho:s.heap.get? p=some { cls:=.type "list",data:=.seq its.toArray n }) (hf:f { cls:=.type "list",data:=.seq its.toArray n }={ cls:=.type "list",data:=.seq its'.toArray n' }) (r:Vals ys its') (hz:ys.length≤sizeLine) (t:Nat) :
  Inv X pins σ (upd H p (.lst ys)) { s with heap:=s.heap.update p f,toks:=t }:=by
 have e:(s.heap.update p f).get? p=some { cls:=.type "list",data:=.seq its'.toArray n' }:=by
  rw [qJ9 f ho (by rw [hf] <;> rfl),hf]
 refine I.write (x:=p) (e:=p) (by rw [h]; trivial) (.inl rfl) (fun b u hb q=>(qL3 _ _ (Ne.symm hb)).trans q) ⟨_,e⟩ ?_
 exact ⟨hz,its',n',r,e⟩
def zW2:V→V→V→Hp→(Hp→Prop)→Prop:=fun o i v H Q=>∃ p xs k j,o=.ref p∧i=.int k∧H p=some (.lst xs)∧ixN xs.length k=some j∧Q (upd H p (.lst (xs.set j v)))
theorem zO5:PSet X zW2:=by
 intro pins s σ H o i v ov iv u Q I ro ri rv h
 obtain ⟨p,xs,k,j,rfl,rfl,hp,hj,q⟩:=h
 cases ro
 obtain ⟨t,rfl⟩:=ri
 obtain ⟨its,n,r,ho,hz⟩:=I.lst hp
 obtain ⟨h1,h2,h3,h4⟩:=zMN hj
 have hl:=r.length
 have hn:=zG4
 have I':Inv X pins σ (upd H p (.lst (xs.set j v))) { s with heap:=s.heap.update p (Obj.mapSeq (·.setIfInBounds j u)) } :=
  I.lstUpd hp ho (zL0 its n j u) (r.set rv j) (by rw [qN0]; exact hz) s.toks
 by_cases h0:0≤k
 ·have hk:k.toNat=j:=by
   rw [seqIndex_of h0 h4] at h1
   exact Option.some.inj h1
  exact W.ki_setAt ho h0 (by omega) (by rw [qB0,← hl]; exact h4) (by rw [hk]; exact ⟨_,I',q⟩)
 ·have hk:(k+(its.toArray.size:Int)).toNat=j:=by
   rw [seqIndex_neg (by omega) h3] at h1
   rw [qB0,← hl]
   exact Option.some.inj h1
  exact W.ki_setBack ho (by omega) (by rw [qB0,← hl]; exact h3) (by omega) (by rw [hk]; exact ⟨_,I',q⟩)
theorem zHv (lo hi:yG) (n:Nat):(sliceBounds lo hi none n).1=((HT.sIx n 0 lo:Nat):Int)∧(sliceBounds lo hi none n).2.1=((HT.sIx n n hi:Nat):Int)∧(sliceBounds lo hi none n).2.2=1:=by
 refine ⟨?_,?_,rfl⟩
 ·cases lo with
  | none=>simp [sliceBounds,HT.sIx]
  | some i =>
   simp only [sliceBounds,HT.sIx,qS1,show (1:Int)>0 by decide,if_true]
   by_cases h:i<0
   ·simp only [h,if_true] <;> omega
   ·simp only [h,if_false] <;> omega
 ·cases hi with
  | none=>simp [sliceBounds,HT.sIx]
  | some i =>
   simp only [sliceBounds,HT.sIx,qS1,show (1:Int)>0 by decide,if_true]
   by_cases h:i<0
   ·simp only [h,if_true] <;> omega
   ·simp only [h,if_false] <;> omega
theorem zGm (its:yB) (lo hi:yG):slicePick its.toArray lo hi none=((its.drop (HT.sIx its.length 0 lo)).take (HT.sIx its.length its.length hi - HT.sIx its.length 0 lo)).toArray:=by
 obtain ⟨h1,h2,h3⟩:=zHv lo hi its.toArray.size
 unfold slicePick
 rw [h1,h2,h3]
 simp only [sliceRange_one,pick_run,qB0] <;> rfl
def rSlL (K:W.Frag):V→yG→yG→Hp→VK→Prop:=fun x lo hi H Q=>∃ a xs,x=.ref a∧SqL K H a xs∧∀ p,H p=none→Q (.ref p) (upd H p (.lst (cutV xs lo hi)))
theorem zQs:SlR X (rSlL X.K):=by
 intro pins s σ H x v vl vu lo hi sl Q I rx hs pl pu h
 obtain ⟨a,xs,rfl,hx,q⟩:=h
 cases rx
 obtain ⟨its,r,ht,hz⟩:=I.list hx
 have hlen:=r.length
 refine ⟨"list",_,slot_list_getitem.lookup,ht.isList.typeIs,?_⟩
 refine wpAny_getItem_list_slice ht.isList hs pl pu .none (by simp) ?_ (by rw [qB0] <;> omega)
 rw [zGm,← hlen]
 refine ⟨.ref s.heap.objs.size,_,I.laid (t':=s.toks) (o:=.lst (cutV xs lo hi)) (fun b ob q=>qA3 _ q) (qA9 _) ?_,rfl,q _ (I.hok.fresh (qA9 _))⟩
 exact ⟨qC5 (zFi xs lo hi) hz,_,0,(r.drop (HT.sIx xs.length 0 lo)).take (HT.sIx xs.length xs.length hi - HT.sIx xs.length 0 lo),qB3 _ rfl⟩
noncomputable def zFM:V→Bool
 | .non=>true
 | .bl _=>true
 | .int _=>true
 | .str _=>true
 | _=>false
noncomputable def eqV:V→V→Bool
 | .non,.non=>true
 | .bl a,.bl b=>a == b
 | .bl a,.int b=>(if a then 1 else 0) == b
 | .int a,.bl b=>a == (if b then 1 else 0)
 | .int a,.int b=>a == b
 | .str a,.str b=>a == b
 | _,_=>false
theorem zUt {A:Around}{s:Shared}{y x:V}{u v:Value} (ry:RelV y u) (rx:RelV x v) (fy:zFM y=true) (fx:zFM x=true):SeqAt.EqAt A s u v (eqV y x):=by
 cases y with
 | non =>
  cases ry
  cases x with
  | non=>cases rx; exact SeqAt.EqAt.same _
  | bl b=>cases rx; exact SeqAt.EqAt.none_bool b
  | int b=>obtain ⟨t,rfl⟩:=rx; exact SeqAt.EqAt.none_int b t
  | str b=>obtain ⟨t,rfl⟩:=rx; exact SeqAt.EqAt.none_str b t
  | _=>exact absurd (show false=true from fx) qB2
 | bl a =>
  cases ry
  cases x with
  | non=>cases rx; exact SeqAt.EqAt.bool_none a
  | bl b=>cases rx; exact SeqAt.EqAt.bool_bool a b
  | int b=>obtain ⟨t,rfl⟩:=rx; exact SeqAt.EqAt.bool_int a b t
  | str b=>obtain ⟨t,rfl⟩:=rx; exact SeqAt.EqAt.bool_str a b t
  | _=>exact absurd (show false=true from fx) qB2
 | int a =>
  obtain ⟨t',rfl⟩:=ry
  cases x with
  | non=>cases rx; exact SeqAt.EqAt.int_none a t'
  | bl b=>cases rx; exact SeqAt.EqAt.int_bool a t' b
  | int b=>obtain ⟨t,rfl⟩:=rx; exact SeqAt.EqAt.int_int a t' b t
  | str b=>obtain ⟨t,rfl⟩:=rx; exact SeqAt.EqAt.int_str a t' b t
  | _=>exact absurd (show false=true from fx) qB2
 | str a =>
  obtain ⟨t',rfl⟩:=ry
  cases x with
  | non=>cases rx; exact SeqAt.EqAt.str_none a t'
  | bl b=>cases rx; exact SeqAt.EqAt.str_bool a t' b
  | int b=>obtain ⟨t,rfl⟩:=rx; exact SeqAt.EqAt.str_int a t' b t
  | str b=>obtain ⟨t,rfl⟩:=rx; exact SeqAt.EqAt.str_str a t' b t
  | _=>exact absurd (show false=true from fx) qB2
 | _=>exact absurd (show false=true from fy) qB2
noncomputable def eqU (x:V) (u:Value):Bool:=match u with
 | .none=>eqV .non x
 | .bool b=>eqV (.bl b) x
 | .int i _=>eqV (.int i) x
 | .str z _=>eqV (.str z) x
 | _=>false
theorem zPW {x y:V}{u:Value} (r:RelV y u) (f:zFM y=true):eqU x u=eqV y x:=by
 cases y with
 | non=>cases r; rfl
 | bl b=>cases r; rfl
 | int i=>obtain ⟨t,rfl⟩:=r; rfl
 | str z=>obtain ⟨t,rfl⟩:=r; rfl
 | _=>exact absurd (show false=true from f) qB2
theorem zFw {x:V}:∀ {xs:List V}{us:yB},Vals xs us→xs.all zFM=true→us.any (eqU x)=xs.any fun y=>eqV y x
 | _,_,.nil,_=>rfl
 | y::xs,u::us,.cons r t,f=>by
  rw [qJ8,qC6] at f
  rw [qH4,qH4,zPW r f.1,zFw t f.2]
theorem zDJ {A:Around}{s:Shared}{x:V}{v:Value} (rx:RelV x v) (fx:zFM x=true):∀ {xs:List V}{us:yB},Vals xs us→xs.all zFM=true→∀ u∈us,SeqAt.EqAt A s u v (eqU x u)
 | _,_,.nil,_=>fun u hu=>by cases hu
 | y::xs,u::us,.cons r t,f=>fun u' hu=>by
  rw [qJ8,qC6] at f
  rcases qB6.mp hu with rfl | hu
  ·rw [zPW r f.1]; exact zUt r rx f.1 fx
  ·exact zDJ rx fx t f.2 u' hu
noncomputable def inV (x:V) (xs:List V):Bool:=xs.any fun y=>eqV y x
def rIn (K:W.Frag) (neg:Bool):R2:=fun x y H Q=>∃ p xs,y=.ref p∧(SqL K H p xs∨SqT K H p xs)∧zFM x=true∧xs.all zFM=true∧Q (.bl (if neg then !inV x xs else inV x xs)) H
theorem zMn:OpR X (compareOp .In) (rIn X.K false):=by
 intro pins s σ H x y v u Q I rx ry h
 obtain ⟨p,xs,rfl,hq,fx,fs,q⟩:=h
 cases ry
 rcases hq with hq | hq
 ·obtain ⟨its,r,pl,hz⟩:=I.list hq
  refine SeqAt.in_listAt (eqU x) pl.isList (fun w hw=>zDJ rx fx r fs w (by simpa using hw)) ⟨.bl _,H,I,rfl,?_⟩
  rw [show its.toArray.any (eqU x)=its.any (eqU x) by simp,zFw r fs]
  exact q
 ·obtain ⟨its,r,pl,hz⟩:=I.tuple hq
  refine SeqAt.in_tupleAt (eqU x) pl (fun w hw=>zDJ rx fx r fs w (by simpa using hw)) ⟨.bl _,H,I,rfl,?_⟩
  rw [show its.toArray.any (eqU x)=its.any (eqU x) by simp,zFw r fs]
  exact q
theorem zHJ:OpR X (compareOp .NotIn) (rIn X.K true):=by
 intro pins s σ H x y v u Q I rx ry h
 obtain ⟨p,xs,rfl,hq,fx,fs,q⟩:=h
 cases ry
 rcases hq with hq | hq
 ·obtain ⟨its,r,pl,hz⟩:=I.list hq
  refine SeqAt.notIn_listAt (eqU x) pl.isList (fun w hw=>zDJ rx fx r fs w (by simpa using hw)) ⟨.bl _,H,I,rfl,?_⟩
  rw [show its.toArray.any (eqU x)=its.any (eqU x) by simp,zFw r fs]
  exact q
 ·obtain ⟨its,r,pl,hz⟩:=I.tuple hq
  refine SeqAt.notIn_tupleAt (eqU x) pl (fun w hw=>zDJ rx fx r fs w (by simpa using hw)) ⟨.bl _,H,I,rfl,?_⟩
  rw [show its.toArray.any (eqU x)=its.any (eqU x) by simp,zFw r fs]
  exact q
theorem zIy:zAW X (.builtin "len") (fun xs H Q=>∃ p ys,xs=[.ref p]∧(SqL X.K H p ys∨SqT X.K H p ys)∧Q (.int ys.length) H):=by
 intro pins s σ H xs us Q I r h
 obtain ⟨p,ys,rfl,hq,q⟩:=h
 obtain ⟨u,rfl,rx⟩:=zCR r
 cases rx
 have hn:=zG4
 rcases hq with hq | hq
 ·obtain ⟨its,r',pl,hz⟩:=I.list hq
  have hlen:=r'.length
  exact Calls.call_len_list pl.isList (by simp only [qB0] <;> omega) ⟨.int ys.length,H,I.tok _,⟨s.toks+1,by rw [qB0,hlen]⟩,q⟩
 ·obtain ⟨its,r',pl,hz⟩:=I.tuple hq
  have hlen:=r'.length
  exact len_tuple pl (by simp only [qB0] <;> omega) ⟨.int ys.length,H,I.tok _,⟨s.toks+1,by rw [qB0,hlen]⟩,q⟩
theorem zIx:zAW X (.builtin "len") (fun xs H Q=>∃ z,xs=[.str z]∧z.length≤sizeLine∧Q (.int z.length) H):=by
 intro pins s σ H xs us Q I r h
 obtain ⟨z,rfl,hz,q⟩:=h
 obtain ⟨u,rfl,t,rfl⟩:=zCR r
 have hn:=zG4
 exact len_str (by omega) ⟨.int z.length,H,I.tok _,⟨_,rfl⟩,q⟩
theorem zIw:zAW X (.type "list") (fun xs H Q=>∃ p ys,xs=[.ref p]∧(SqL X.K H p ys∨SqT X.K H p ys)∧∀ l,H l=none→Q (.ref l) (upd H l (.lst ys))):=by
 intro pins s σ H xs us Q I r h
 obtain ⟨p,ys,rfl,hq,q⟩:=h
 obtain ⟨u,rfl,rx⟩:=zCR r
 cases rx
 have fin:∀ (its:yB),Vals ys its→ys.length≤sizeLine→∀ (h':Heap) (c':Nat),(∀ b o',s.heap.get? b=some o'→h'.get? b=some o') →
   h'.get? s.heap.objs.size=some { cls:=.type "list",dict:=none,data:=.seq its.toArray c',slots:=#[] }→EP X pins σ Q (.ref s.heap.objs.size) { s with heap:=h' }:=fun its r' hz h' c' kp e =>
  ⟨.ref s.heap.objs.size,_,I.laid (t':=s.toks) kp (qA9 _) (show zBA X.prog X.w _ h' _ (.lst ys) from ⟨hz,its,c',r',e⟩),rfl,q _ (I.hok.fresh (qA9 _))⟩
 rcases hq with hq | hq
 ·obtain ⟨its,r',pl,hz⟩:=I.list hq
  have hlen:=r'.length
  obtain ⟨o,ho,hc,n,hd⟩:=pl.isList
  exact call_list_seq p (.inl rfl) ho hc hd (fun h' c' kp e=>fin its r' hz h' c' kp e) (by simp only [qB0] <;> omega)
 ·obtain ⟨its,r',pl,hz⟩:=I.tuple hq
  have hlen:=r'.length
  obtain ⟨o,ho,hc,n,hd⟩:=pl
  exact call_list_seq p (.inr rfl) ho hc hd (fun h' c' kp e=>fin its r' hz h' c' kp e) (by simp only [qB0] <;> omega)
theorem zDR:zAW X (.type "tuple") (fun xs H Q=>∃ p ys,xs=[.ref p]∧((SqL X.K H p ys∧∀ l,H l=none→Q (.ref l) (upd H l (.tup ys)))∨(SqT X.K H p ys∧Q (.ref p) H))):=by
 intro pins s σ H xs us Q I r h
 obtain ⟨p,ys,rfl,h⟩:=h
 obtain ⟨u,rfl,rx⟩:=zCR r
 cases rx
 rcases h with ⟨hq,q⟩ | ⟨hq,q⟩
 ·obtain ⟨its,r',pl,hz⟩:=I.list hq
  have hlen:=r'.length
  refine call_tuple_list pl.isList (fun h' kp=>?_) (by simp only [qB0] <;> omega)
  have I1:Inv X pins σ H { s with heap:=h' }:=I.kept (t':=s.toks) kp
  have I2:Inv X pins σ (upd H h'.objs.size (.tup ys)) { s with heap:=h'.push { cls:=.type "tuple",data:=.seq its.toArray } } :=
   I1.laid (t':=s.toks) (fun b o e=>qA3 _ e) (qA9 _) (show zBA X.prog X.w _ _ _ (.tup ys) from ⟨hz,its,r',IsTup.new _ _⟩)
  exact ⟨.ref h'.objs.size,_,I2,rfl,q _ (I1.hok.fresh (qA9 _))⟩
 ·obtain ⟨its,r',pl,hz⟩:=I.tuple hq
  exact call_tuple_same pl ⟨.ref p,H,I,rfl,q⟩
def tyV (K:W.Frag) (T:String) (x:V) (H:Hp):Prop:=match x with
 | .str _=>T = "str"
 | .int _=>T = "int"
 | .ref p=>(T = "list"∧∃ xs,SqL K H p xs)∨(T = "tuple"∧∃ o,K.lookup p=some o∧o.cls=.type "tuple"∧o.dict=none) ∨
   (T = "dict"∧((∃ kvs,H p=some (.dK kvs))∨∃ kvs,H p=some (.dT kvs)))∨(T = "set"∧∃ S n,H p=some (.set S n))
 | _=>False
theorem zPw {pins:yD}{σ:St}{H:Hp}{s:Shared}{T:String}{x:V}{v:Value} (I:Inv X pins σ H s) (r:RelV x v) (ty:tyV X.K T x H) :
  s.TypeIs v T∧∀ a,v=.ref a→∃ ob,s.heap.get? a=some ob∧ob.dict=none:=by
 cases x with
 | str z =>
  obtain ⟨t,rfl⟩:=r
  cases (show T = "str" from ty)
  exact ⟨typeIs_str s z t,fun _ e=>nomatch e⟩
 | int i =>
  obtain ⟨t,rfl⟩:=r
  cases (show T = "int" from ty)
  exact ⟨typeIs_int s i t,fun _ e=>nomatch e⟩
 | ref p =>
  cases r
  rcases ty with ⟨rfl,xs,hq⟩ | ⟨rfl,o,hk,hc,hd⟩ | ⟨rfl,hk⟩ | ⟨rfl,S,n,hk⟩
  ·obtain ⟨its,_,pl,_⟩:=I.list hq
   refine ⟨pl.isList.typeIs,fun a e=>?_⟩
   cases e
   obtain ⟨o,n,e,c,hd,_⟩:=pl
   exact ⟨o,e,hd⟩
  ·refine ⟨⟨o,I.kIn p o hk,hc⟩,fun a e=>?_⟩
   cases e
   exact ⟨o,I.kIn _ o hk,hd⟩
  ·have z:∃ o,s.heap.get? p=some o∧o.ExactDict:=by
    rcases hk with ⟨kvs,hk⟩ | ⟨kvs,hk⟩
    ·obtain ⟨_,_,_,_,o,_,_,e,ex,_⟩:=I.hok p _ hk
     exact ⟨o,e,ex⟩
    ·obtain ⟨_,_,_,_,o,_,_,e,ex,_⟩:=I.hok p _ hk
     exact ⟨o,e,ex⟩
   obtain ⟨o,e,ex⟩:=z
   refine ⟨⟨o,e,ex.1⟩,fun a e2=>?_⟩
   cases e2
   exact ⟨o,e,ex.2.1⟩
  ·obtain ⟨o,_,_,_,e,ex,_⟩:=I.hok p _ hk
   refine ⟨⟨o,e,ex.1⟩,fun a e2=>?_⟩
   cases e2
   exact ⟨o,e,ex.2.1⟩
 | _=>exact False.elim ty
def tBM0 (K:W.Frag) (T:String) (r:V→List V→Hp→VK→Prop) (to:TE):TE:=fun σ H Q=>to σ H fun x H1=>tyV K T x H1∧r x [] H1 Q
def tBM (K:W.Frag) (T:String) (r:V→List V→Hp→VK→Prop) (to:TE) (t:TA):TE:=fun σ H Q=>to σ H fun x H1=>tyV K T x H1∧t σ H1 fun xs H2=>r x xs H2 Q
variable {o e:Expr}{es:yE}{to:TE}{t:TA}{name:Str}{apos cpos:Pos}{T id:String}{r:V→List V→Hp→VK→Prop}
theorem zTd (pa:PlainAttrs T) (slot:Slot T name id) (hty:typeOf (.builtin id)=pure (.type "method_descriptor")) (hm:MtR X id r) (ho:PE X o to)
  (hbase:attributeBase o name X.env (eval o X.env)=eval o X.env:=by rfl) (hline:(apos.endLine == cpos.line)=true:=by rfl):PE X (.Call (.Attribute o name apos) [] [] cpos) (tBM0 X.K T r to):=by
 intro pins s σ H Q I h
 refine wpAny_Call_method0_late hbase hline (thn (ho pins s σ H _ I h) fun v s1 ⟨x,H1,I1,r1,ty,q1⟩=>?_)
 obtain ⟨h1,h2⟩:=zPw I1 r1 ty
 exact ⟨T,id,pa,slot,hty,h1,h2,Calls.callWith_builtin rfl (PySem.evalArgs_none (hm pins s1 σ H1 x [] v [] Q I1 r1 .nil q1))⟩
theorem zWa (pa:PlainAttrs T) (slot:Slot T name id) (hty:typeOf (.builtin id)=pure (.type "method_descriptor")) (hm:MtR X id r) (ho:PE X o to) (ha:PA X (e::es) t)
  (hbase:attributeBase o name X.env (eval o X.env)=eval o X.env:=by rfl)
  (hfew:((backTo cpos (starEach (e::es) X.env)).all (fun x=>!x.1)&&(backToKw cpos (keywordEach [] X.env)).all (fun x=>x.1.isSome)
   && decide ((e::es).length+([]:List Keyword).length+(if ([]:List Keyword).isEmpty then 0 else 1)<30))=true:=by rfl)
  (hline:(apos.endLine == cpos.line)=true:=by rfl) (hs:starEach (e::es) X.env=(false,eval e X.env)::starEach es X.env:=by rfl) (hplain:(backTo cpos (starEach es X.env)).any (·.1)=false:=by rfl) :
  PE X (.Call (.Attribute o name apos) (e::es) [] cpos) (tBM X.K T r to t):=by
 intro pins s σ H Q I h
 refine wpAny_Call_method_late hbase hfew hline rfl (thn (ho pins s σ H _ I h) fun v s1 ⟨x,H1,I1,r1,ty,q1⟩=>?_)
 obtain ⟨h1,h2⟩:=zPw I1 r1 ty
 refine ⟨T,id,pa,slot,hty,h1,h2,?_⟩
 have hA:=ha cpos pins s1 σ H1 _ I1 q1
 rw [hs] at hA ⊢
 refine Calls.callWith_builtin (by show (false||(backTo cpos (starEach es X.env)).any (·.1))=false; rw [hplain] <;> rfl) (Calls.evalArgs_plain ?_)
 exact thn hA fun us s2 ⟨vs,H2,I2,r2,q2⟩=>hm pins s2 σ H2 x vs v us Q I2 r1 r2 q2
end
def MtM (X:Cx) (id:String) (r:V→List V→Hp→VK→Prop):Prop :=
 ∀ (pins:yD) (s:Shared) (σ:St) (H:Hp) (x:V) (xs:List V) (v:Value) (us:yB) (Q:VK),Inv X pins σ H s→RelV x v→Vals xs us→r x xs H Q →
  wpAny (model X.prog X.w) X.A (call (.builtin id) (v::us)) (EP X pins σ Q) X.xe s
theorem Vals.cinv {x:V}{xs:List V}:∀ {us:yB},Vals (x::xs) us→∃ u r,us=u::r∧RelV x u∧Vals xs r
 | _,.cons r t=>⟨_,_,rfl,r,t⟩
theorem Vals.ninv:∀ {us:yB},Vals [] us→us=[]
 | _,.nil=>rfl
theorem Vals.one {x:V}{us:yB} (h:Vals [x] us):∃ u,us=[u]∧RelV x u:=by
 obtain ⟨u,r,rfl,a,t⟩:=h.cinv
 rw [t.ninv]
 exact ⟨u,rfl,a⟩
theorem Vals.two {x y:V}{us:yB} (h:Vals [x,y] us):∃ u v,us=[u,v]∧RelV x u∧RelV y v:=by
 obtain ⟨u,r,rfl,a,t⟩:=h.cinv
 obtain ⟨v,rfl,b⟩:=t.one
 exact ⟨u,v,rfl,a,b⟩
theorem Vals.zero:∀ {us:yB},Vals [] us→us=[]
 | _,.nil=>rfl
theorem Vals.dropLast {xs:List V}{us:yB} (h:Vals xs us):Vals xs.dropLast us.dropLast:=by
 induction h with
 | nil=>exact .nil
 | cons r t ih =>
  cases t with
  | nil=>exact .nil
  | cons q t'=>exact .cons r ih
theorem zLi {α:Type} (l:List α):l.eraseIdx (l.length - 1)=l.dropLast:=by
 induction l with
 | nil=>rfl
 | cons a r ih =>
  cases r with
  | nil=>rfl
  | cons b r =>
   have e:(a::b::r).length - 1=((b::r).length - 1)+1:=by
    have h1:(a::b::r).length=r.length+2:=rfl
    have h2:(b::r).length=r.length+1:=rfl
    omega
   rw [e,List.eraseIdx_cons_succ,ih]
   all_goals rfl
section
variable {X:Cx}{pins:yD}{σ:St}{H:Hp}{s:Shared}{l b:Addr}{xs ys zs:List V}
theorem Inv.lset {its its':yB}{n:Nat}{f:yJ→yJ}{t':Nat} (I:Inv X pins σ H s) (hH:H l=some (.lst xs))
  (e:s.heap.get? l=some { cls:=.type "list",data:=.seq its.toArray n }) (hf:f its.toArray=its'.toArray) (hv:Vals ys its') (hz:ys.length≤sizeLine) :
  Inv X pins σ (upd H l (.lst ys)) { s with heap:=s.heap.update l (Obj.mapSeq f),toks:=t' }:=by
 have q:=PySem.IsL.update e f
 rw [hf] at q
 refine I.write (x:=l) (e:=l) (by rw [hH]; exact trivial) (.inl rfl) (fun b' u hb hu=>(qL3 s.heap (Obj.mapSeq f) (Ne.symm hb)).trans hu) ⟨_,q⟩ ?_
 exact ⟨hz,its',_,hv,q⟩
theorem Inv.lnew {its:yB}{t':Nat} (I:Inv X pins σ H s) (hv:Vals ys its) (hz:ys.length≤sizeLine) :
  Inv X pins σ (upd H s.heap.objs.size (.lst ys)) { s with heap:=s.heap.push { cls:=.type "list",data:=.seq its.toArray },toks:=t' } :=
 I.laid (fun _ _ q=>qA3 _ q) (qA9 _) ⟨hz,its,0,hv,qB3 _ rfl⟩
theorem Inv.fresh (I:Inv X pins σ H s):H s.heap.objs.size=none:=I.hok.fresh (qA9 _)
theorem Inv.lstM (I:Inv X pins σ H s) (hH:H l=some (.lst xs)):xs.length≤sizeLine∧∃ (its:yB) (n:Nat),Vals xs its∧xs.length=its.length∧s.heap.get? l=some { cls:=.type "list",data:=.seq its.toArray n }:=by
 obtain ⟨z,its,n,r,e⟩:=I.hok l _ hH
 exact ⟨z,its,n,r,r.length,e⟩
end
section
variable {X:Cx}
def zQG:V→List V→Hp→VK→Prop:=fun x vs H Q=>∃ l xs y,x=.ref l∧vs=[y]∧H l=some (.lst xs)∧xs.length<sizeLine∧Q .non (upd H l (.lst (xs++[y])))
theorem zHL:MtM X "list.append" zQG:=by
 intro pins s σ H x vs v us Q I rx rv h
 obtain ⟨l,xs,y,rfl,rfl,hH,hz,q⟩:=h
 cases rx
 obtain ⟨u,rfl,ru⟩:=rv.one
 obtain ⟨z,its,n,r,hl,e⟩:=I.lstM hH
 refine call_meets F.slot_list_append ⟨_,e,rfl⟩ F.entry_list_append (F.args_list_append_2 _ _) (PySem.list_append l its.toArray n u (by rw [qB0]; omega)) ⟨e,?_⟩
 refine ⟨.non,_,I.lset (its':=its++[u]) hH e (by simp) (r.append (.cons ru .nil)) ?_,rfl,q⟩
 rw [qB1,qE4]
 omega
def rPop:V→List V→Hp→VK→Prop:=fun x vs H Q=>∃ l xs y,x=.ref l∧vs=[]∧H l=some (.lst xs)∧xs[xs.length - 1]?=some y∧Q y (upd H l (.lst xs.dropLast))
theorem zTF:MtM X "list.pop" rPop:=by
 intro pins s σ H x vs v us Q I rx rv h
 obtain ⟨l,xs,y,rfl,rfl,hH,hy,q⟩:=h
 cases rx
 have hus:=rv.zero
 subst hus
 obtain ⟨z,its,n,r,hl,e⟩:=I.lstM hH
 obtain ⟨u,hu,ru⟩:=r.get hy
 have hy':its.toArray[its.toArray.size - 1]?=some u:=by
  show its.toArray[its.length - 1]?=some u
  rw [← Array.getElem?_toList,← hl]
  exact hu
 refine call_meets F.slot_list_pop ⟨_,e,rfl⟩ F.entry_list_pop (F.args_list_pop_1 _) (MeetsSeq.list_pop_last l its.toArray n u hy' (by rw [qB0]; omega)) ⟨e,?_⟩
 refine ⟨y,_,I.lset (its':=its.dropLast) hH e ?_ r.dropLast ?_,ru,q⟩
 ·show its.toArray.eraseIdxIfInBounds (its.toArray.size - 1)=its.dropLast.toArray
  rw [qB0,List.eraseIdxIfInBounds_toArray,zLi]
 ·rw [List.length_dropLast]
  omega
def rCat:R2:=fun x y H Q=>∃ l b xs zs,x=.ref l∧y=.ref b∧H l=some (.lst xs)∧H b=some (.lst zs)∧xs.length+zs.length≤sizeLine∧∀ p,H p=none→Q (.ref p) (upd H p (.lst (xs++zs)))
theorem zTA:OpR X (binaryOp .Add) rCat:=by
 intro pins s σ H x y v u Q I rx ry h
 obtain ⟨l,b,xs,zs,rfl,rfl,hH,hB,hz,q⟩:=h
 cases rx
 cases ry
 obtain ⟨z,its,n,r,hl,e⟩:=I.lstM hH
 obtain ⟨z2,its2,n2,r2,hl2,e2⟩:=I.lstM hB
 refine PySem.P.add_list e e2 ?_ (by rw [qB0,qB0]; omega)
 have ea:its.toArray++its2.toArray=(its++its2).toArray:=by simp
 rw [ea]
 exact ⟨.ref _,_,I.lnew (t':=s.toks) (r.append r2) (by rw [qB1]; omega),rfl,q _ I.fresh⟩
end
end L2
namespace Att
open PySem PySem.W PySem.Calls PyProof.Rows
theorem zF6 {P:Params}{h:Heap}:∀ (ns:yA) (vs:yB),WellAll P h vs (ns.map WData.int)→IntsAre vs ns:=by
 intro ns
 induction ns with
 | nil =>
  intro vs w
  rw [qJ5] at w
  cases w
  exact .nil
 | cons n ns ih =>
  intro vs w
  rw [qB9] at w
  cases w with
  | cons a b =>
   cases a
   exact .cons _ _ (ih _ b)
theorem zM6 {l:OpenLaw}{n:Nat} (hn:l.most=some n) {P:Params}{h:Heap}{args:List WData}{vals:yB}
  (hpre:l.row.toRowW.claim.pre args=true) (hwl:WellAll P h vals args) :
  ∃ a vs ns,vals=[Value.ref a]∧args=[WData.list (ns.map WData.int)]∧h.get? a=some { cls:=.type "list",data:=.seq vs.toArray }∧IntsAre vs ns∧ns.length≤n:=by
 have hsh:WShape.hasAll [] args [.list .int]=true:=(pre_splitW hpre).1
 have hc:l.pre.holds [] { args:=args }=true:=(pre_splitW hpre).2
 obtain ⟨d,r,rfl,h1,h2⟩:=hasAllW_cons hsh
 obtain rfl:=hasAllW_nil h2
 obtain ⟨xs,rfl,h3⟩:=hasW_list h1
 obtain ⟨ns,rfl⟩:=items_int h3
 have hlen:ns.length≤n:=by
  unfold OpenLaw.pre at hc
  have h4:(WTm.not (.lt (.lit (.int (n:Int))) (.len (.arg 0)))).holds [] { args:=[.list (ns.map .int)] }=true:=by
   have h4:=(holds_andW hc).1
   rw [hn] at h4
   exact h4
  have h5:=condW_of h4 (w_not (w_lt w_lit (w_len_list (w_arg rfl))))
  rw [qA6] at h5
  refine qO8 fun q=>?_
  have q':(n:Int)<((ns.length:Nat):Int):=by omega
  first
   | (rw [decide_eq_true q'] at h5; exact absurd h5 (by decide))
   | (simp at h5; omega)
 cases hwl with
 | cons w1 w2 =>
  cases w2
  cases w1 with
  | list ho hall=>exact ⟨_,_,ns,rfl,rfl,ho,zF6 ns _ hall,hlen⟩
theorem zMe (l:OpenLaw) (args:List WData):l.row.toRowW.claim.post args (.bool true) args=true :=
 postW_of (r:=l.row.toRowW) (X:=(true == true))
  (show WShape.has [] (.bool true) .bool=true by first | rfl | decide | simp [WShape.has,WShape.arms,WShape.armsAll])
  (show (WTm.eq .res (.lit (.bool true))).value [] { args:=args,res:=some (.bool true),after:=args }=some (.bool (true == true)) from w_eq_bool (w_res rfl) w_lit) rfl
theorem attach_call {l:OpenLaw}{n:Nat}{q:Program}{loose:yH}{XP:(Str→yF)→Heap→Prop}{YP:World→Heap→Prop}{d:DefRec}
  (hn:l.most=some n) (hdf:d.params.defaults=[])
  (call:∀ (w:World) (s₀ s₁:Shared) (mg mb:Str→yF) (fa:Addr) (o:Obj) (pm cd doc:Value) (a:Addr) (vs:yB) (ns:yA),
   Ground q loose [] XP w s₀ mg mb s₁.heap→YP w s₁.heap →
   s₁.heap.get? fa=some o→o.data=.func (docDef d.name d.params d.body d.scope pm cd doc)→s₁.heap.CodeRec cd d.name→mg d.name=some (.ref fa) →
   s₁.heap.get? a=some { cls:=.type "list",data:=.seq vs.toArray }→IntsAre vs ns→ns.length≤n→s₁.gens=#[] →
   codeAny (model l.prog w) callerA (.call (.ref fa) ⟨[.ref a],[]⟩) (fun r s'=>r=.ok (.ret (.bool true))∧OldK s₁.heap s'.heap∧s'.os=s₁.os∧AllBare s'.gens) s₁) :
  WalkO q loose XP YP l.row.toRowW d [] (fun f vs=>PySem.call f vs):=by
 intro w s₀ s₁ mg mb G Y fa o pm cd doc dV kV ho hd hcd hD hmg hg args vals as hpre hlay hrd hwl hlo
 obtain rfl:dV=.none:=Dflts.none hD hdf
 obtain rfl:kV=.none:=Dflts.noKw hD
 obtain ⟨a,vs,ns,rfl,rfl,hobj,hints,hlen⟩:=zM6 hn hpre hwl
 refine enter_call (codeAny_mono (call w s₀ s₁ mg mb fa o pm cd doc a vs ns G Y ho (fd_plain hd) hcd hmg hobj hints hlen hg) fun r s' hq=>?_)
 obtain ⟨rfl,h2,h3,h4⟩:=hq
 exact ⟨.inl ⟨.bool true,.bool true,[],rfl,fun _=>rfl,.bool true,zMe l _,fun _=>⟨List.Pairwise.nil,fun _ hm=>(nomatch hm)⟩⟩,h2,h3,h4⟩
end Att
namespace L2
open PySem PySem.Spec PyProof.Rows
theorem zHj:∀ {vs:yB}{ns:yA},IntsAre vs ns→Vals (ns.map V.int) vs
 | _,_,.nil=>.nil
 | _,_,.cons n t h=>.cons ⟨t,rfl⟩ (zHj h)
def Only (H:Hp):Prop:=∀ b,H b=none∨∃ o xs,H b=some (.frz o (.lst xs))
theorem zOQ {P:Program}{w:World}{K:W.Frag}{mg mb:Str→yF}{CX:CXT}{k:Nat}{fa a:Addr}{fd:FuncData}{x:Str}{sp:Sp}{s₁:Shared}{vs:yB}{ns:yA}
  (KX:K.In s₁.heap) (hns:s₁.heap.Ns mainGlobals mg) (hb:s₁.heap.Ns builtinsNs mb) (hbb:∀ x:Str,x ≠ "__name__"→mb x=bootBuiltins x) (hlim:s₁.heap.NoLimit) (hg:s₁.gens=#[])
  (ha:s₁.heap.get? a=some { cls:=.type "list",data:=.seq vs.toArray }) (hi:IntsAre vs ns) (hl:ns.length≤sizeLine) (hr:Room k callerA)
  (F:∀ base:Heap,K.In base→base.Ns mainGlobals mg→FnOk P w K mg base CX k fa fd [x] sp) (hbind:∀ (s:Shared) (u:Value),BindsTo s fd ⟨[u],[]⟩ [(x,u)])
  (hsp:∀ H:Hp,Only H→SqL K H a (ns.map V.int)→sp [.ref a] H (fun v _=>v=.bl true) fun _ _ _=>False)
  (hCX:∀ H e s',CX [] H s₁ (fun _ _ _=>False) e s'→False) :
  codeAny (model P w) callerA (.call (.ref fa) ⟨[.ref a],[]⟩) (fun r s'=>r=.ok (.ret (.bool true))∧OldK s₁.heap s'.heap∧s'.os=s₁.os∧AllBare s'.gens) s₁:=by
 have rv:=zHj hi
 have lenV:=hi.length
 have core:∀ H:Hp,Only H→SqL K H a (ns.map V.int)→HOk P w H s₁.heap→(∀ b,H b≠none→b=a)→(H a≠none→K.lookup a=none) →
   codeAny (model P w) callerA (.call (.ref fa) ⟨[.ref a],[]⟩) (fun r s'=>r=.ok (.ret (.bool true))∧OldK s₁.heap s'.heap∧s'.os=s₁.os∧AllBare s'.gens) s₁:=by
  intro H hO hS hok hA hK
  have base_of:∀ {b:Addr}{o:Obj},s₁.heap.get? b=some o→H b=none→(hidT s₁.heap H).get? b=some o:=fun e n=>zP7 e n
  have noA:∀ {b:Addr}{o:Obj}{es:Array DictEntry}{ep:Nat},s₁.heap.get? b=some o→o.data=.dict es ep→H b=none:=fun {b o es ep} e d=>by
   cases q:H b with
   | none=>rfl
   | some u =>
    have e':b=a:=hA b (by rw [q]; simp)
    subst e'
    rw [ha] at e; cases e
    have d':Data.seq vs.toArray _=Data.dict es ep:=d
    cases d'
  have nsK:∀ {b:Addr}{m:Str→yF},s₁.heap.Ns b m→(hidT s₁.heap H).Ns b m:=fun {b m} ⟨o,es,ep,e,d,r⟩=>⟨o,es,ep,base_of e (noA e d),d,r⟩
  have hKb:K.In (hidT s₁.heap H):=fun b o e=>base_of (KX b o e) (by
   cases q:H b with
   | none=>rfl
   | some u =>
    have e':b=a:=hA b (by rw [q]; simp)
    subst e'
    rw [hK (by rw [q]; simp)] at e; cases e)
  have hM:Mod K mg (hidT s₁.heap H):=⟨hKb,nsK hns,⟨mb,nsK hb,hbb⟩,let ⟨mc,h1,h2⟩:=hlim; ⟨mc,nsK h1,h2⟩⟩
  have e0:Env0 P w K mg (hidT s₁.heap H) callerA [] s₁ H:=⟨rfl,hM,fun b o e=>zR5 e,Nat.le_of_eq (zMZ _ _),trivial,fun b hb=>absurd (show b∈([]:yC) from hb) (by simp),hok,.of_eq hg⟩
  refine codeAny_mono ((F _ hKb (nsK hns)).run callerA [] s₁ H ⟨[.ref a],[]⟩ [.ref a] [.ref a] _ _ hr e0 (hbind s₁ (.ref a)) (.cons rfl .nil) (hsp H hO hS)) fun r s' h=>?_
  cases r with
  | error e=>exact (hCX H e s' h).elim
  | ok fl =>
   cases fl with
   | next=>exact False.elim h
   | brk=>exact False.elim h
   | cont=>exact False.elim h
   | ret u =>
    obtain ⟨v,H',os,bare,un,hok',r',q⟩:=h
    have q':v=.bl true:=q
    subst q'
    obtain rfl:u=Value.bool true:=r'
    refine ⟨rfl,OldK.of_keep fun b o e=>?_,os,bare⟩
    cases q:H b with
    | none=>exact un.keep b o e q (by intro z; exact absurd (show b∈([]:yC) from z) (by simp)) (by simp)
    | some u =>
     rcases hO b with z | ⟨ob,xs,z⟩
     ·rw [q] at z; cases z
     ·have z2:=un.frzs b ob _ z
      obtain ⟨e1,_⟩:=hok b _ z
      obtain ⟨e2,_⟩:=hok' b _ z2
      rw [e] at e1; cases e1
      exact e2
 cases hk:K.lookup a with
 | some o =>
  have e:=KX a o hk
  rw [ha] at e
  cases e
  refine core (fun _=>none) (fun _=>.inl rfl) (.inr ⟨_,vs.toArray,_,hk,rfl,rfl,rfl,by rw [qB0,lenV]; exact hl,by simpa using rv⟩) (fun b u z=>by have z':(none:Option HO)=some u:=z; cases z') (fun b z=>absurd rfl z) fun z=>absurd rfl z
 | none =>
  refine core (fun b=>if b=a then some (.frz { cls:=.type "list",data:=.seq vs.toArray } (.lst (ns.map V.int))) else none) (fun b=>?_) (.inl (.inr ⟨{ cls:=.type "list",data:=.seq vs.toArray },if_pos rfl⟩)) (fun b u z=>?_) (fun b z=>?_) fun _=>hk
  ·by_cases hb:b=a
   ·exact .inr ⟨_,_,if_pos hb⟩
   ·exact .inl (if_neg hb)
  ·by_cases hb:b=a
   ·have z':=(if_pos hb).symm.trans z
    cases z'
    subst hb
    exact ⟨ha,by rw [qA6]; exact hl,vs,_,rv,ha⟩
   ·have z':=(if_neg hb).symm.trans z
    cases z'
  ·by_cases hb:b=a
   ·exact hb
   ·exact absurd (if_neg hb) z
theorem walk_of {l:W.OpenLaw}{n k:Nat}{q:Program}{loose:yH}{XP:(Str→yF)→Heap→Prop}{YP:World→Heap→Prop}{d:DefRec}{K:Params→W.Frag}{CX:World→CXT}{sp:World→Sp}{x:Str}
  (hn:l.most=some n) (hn2:n≤sizeLine) (hdf:d.params.defaults=[]) (hr:Room k callerA)
  (hY:∀ (w:World) (h:Heap),YP w h→(K w.params).In h)
  (F:∀ (w:World) (mg:Str→yF) (fa:Addr) (h:Heap),(K w.params).In h→h.Ns mainGlobals mg→mg d.name=some (.ref fa) →
   ∃ fd:FuncData,(∀ (s:Shared) (u:Value),BindsTo s fd ⟨[u],[]⟩ [(x,u)]) ∧
    ∀ base:Heap,(K w.params).In base→base.Ns mainGlobals mg→FnOk l.prog w (K w.params) mg base (CX w) k fa fd [x] (sp w))
  (hsp:∀ (w:World) (H:Hp) (a:Addr) (ns:yA),ns.length≤n→Only H→SqL (K w.params) H a (ns.map V.int)→sp w [.ref a] H (fun v _=>v=.bl true) fun _ _ _=>False)
  (hCX:∀ (w:World) (H:Hp) (s:Shared) (e:Value) (s':Shared),CX w [] H s (fun _ _ _=>False) e s'→False) :
  W.WalkO q loose XP YP l.row.toRowW d [] (fun f vs=>PySem.call f vs):=by
 refine Att.attach_call hn hdf fun w s₀ s₁ mg mb fa o pm cd doc a vs ns G Y ho hd hcd hmg hobj hints hlen hg=>?_
 have KX:=hY w _ Y
 obtain ⟨fd,hb,hF⟩:=F w mg fa _ KX G.T.g hmg
 exact zOQ KX G.T.g G.T.b G.T.builtins G.T.nolimit hg hobj hints (qC5 hlen hn2) hr hF hb (fun H hO hS=>hsp w H a ns hlen hO hS) fun H e s'=>hCX w H s₁ e s'
noncomputable def zCH (s:Stmt):Arguments:=match s with
 | .FunctionDef _ a _ _ _ _ _ _ _ _=>a
 | _=>{ posonlyargs:=[],args:=[],vararg:=none,kwonlyargs:=[],kw_defaults:=[],kwarg:=none,defaults:=[] }
noncomputable def zAE (s:Stmt):List Stmt:=match s with
 | .FunctionDef _ _ b _ _ _ _ _ _ _=>b
 | _=>[]
noncomputable def zA3 (s:Stmt):Scope:=match s with
 | .FunctionDef _ _ _ _ _ _ sc _ _ _=>sc
 | _=>{ kind:=.function,names:=[],isGenerator:=false,isCoroutine:=false }
noncomputable abbrev CX0:CXT:=fun _ _ _ _ _ _=>False
noncomputable abbrev E0:XK:=fun _ _ _=>False
theorem zWc {X:Cx}:zNL CX0 X E0:=fun _ _ _ _ _ _ _ h=>h.elim
structure Fun (K:W.Frag) (x qual:Str) (st:Stmt) (f:Addr) (fd:FuncData):Prop where
 ex:∃ (oc:Value) (od:Option Addr) (kV doc pm:Value) (an:Option Addr) (cdv ct:Value) (osl:Array (yF)),
  fd=W.fnOf x qual (zCH st) (zAE st) (zA3 st) .none kV doc pm an cdv ct∧K.lookup f=some ⟨oc,od,.func fd,osl⟩∧W.codeIn K cdv qual=true
 kp:W.keepIn K (.ref f)=true
section
variable {P:Program}{w:World}{K:W.Frag}{mg:Str→yF}{base:Heap}
theorem Fun.ok {x qual:Str}{st:Stmt}{f:Addr}{fd:FuncData}{N ps:yH}{k:Nat}{sp:Sp} (F:Fun K x qual st f fd) (S:zHe N ps (zA3 st)) (len:∀ vs H Q E,sp vs H Q E→vs.length=ps.length)
  (hbody:∀ (cdv:Value) (A:Around) (outer:List Env) (s:Shared) (H:Hp) (vs:List V) (Q:VK) (E:XK),Room k (A.deeper (envOfC qual (zA3 st) s.heap.objs.size f cdv))→sp vs H Q E →
   ∃ t,PSs (cxOf CX0 P w K mg base N qual (zA3 st) f cdv A outer s H E).nox (zAE st) t∧t { nx:=fun _ H'=>Q .non H',rt:=Q } (start N vs) H):FnOk P w K mg base CX0 (k+1) f fd ps sp:=by
 obtain ⟨oc,od,kV,doc,pm,an,cdv,ct,osl,rfl,lk,hcd⟩:=F.ex
 refine zWW lk hcd S len fun A outer s H vs Q E hr hsp=>?_
 obtain ⟨t,h,q⟩:=hbody cdv A outer s H vs Q E hr hsp
 exact ⟨t,h.nox,q⟩
theorem Fun.binds {x qual:Str}{st:Stmt}{f:Addr}{fd:FuncData}{ps:yH} (F:Fun K x qual st f fd)
  (h:∀ (kV doc pm:Value) (an:Option Addr) (cdv ct:Value) (us:yB),us.length=ps.length→bindArgs (W.fnOf x qual (zCH st) (zAE st) (zA3 st) .none kV doc pm an cdv ct) ⟨us,[]⟩=pure (ps.zip us)):zHf K fd ps []:=by
 obtain ⟨oc,od,kV,doc,pm,an,cdv,ct,osl,rfl,lk,hcd⟩:=F.ex
 exact .all (h kV doc pm an cdv ct)
theorem zUr {x qual:Str}{st:Stmt}{f:Addr}{oc:Value}{od an:Option Addr}{osl:Array (yF)}{kV doc pm cdv ct:Value} (l:K.lookup f=some ⟨oc,od,.func (W.fnOf x qual (zCH st) (zAE st) (zA3 st) .none kV doc pm an cdv ct),osl⟩)
  (c:W.codeIn K cdv qual=true) (k:W.keepIn K (.ref f)=true):Fun K x qual st f (W.fnOf x qual (zCH st) (zAE st) (zA3 st) .none kV doc pm an cdv ct):=⟨⟨oc,od,kV,doc,pm,an,cdv,ct,osl,rfl,l,c⟩,k⟩
end
theorem zRG {A:Around}{k:Nat} (hr:Room k A):A.units+1<cLine:=qK7 (Nat.add_le_add_left (by decide:1≤64) _) hr.units
theorem zHs {n:Nat} (h:n≤1000):n<sizeLine:=qK7 h (by decide)
def Same (H H':Hp):Prop:=∀ b o,H b=some o→H' b=some o
theorem Same.refl (H:Hp):Same H H:=fun _ _ h=>h
section
variable {κ:Type} [DecidableEq κ]
noncomputable def valV (kvs:List (κ × V)) (k:κ):Option V:=(kvs.find? fun kv=>decide (kv.1=k)).map (·.2)
noncomputable def putK (kvs:List (κ × V)) (k:κ) (v:V):List (κ × V) :=
 if (kvs.any fun kv=>decide (kv.1=k))=true then kvs.map (fun kv=>if kv.1=k then (kv.1,v) else kv) else kvs++[(k,v)]
theorem zEt {p:κ × V}{r:List (κ × V)}{k:κ} (e:p.1=k):valV (p::r) k=some p.2:=by simp [valV,qG9,e]
theorem zEu {p:κ × V}{r:List (κ × V)}{k:κ} (e:¬ p.1=k):valV (p::r) k=valV r k:=by simp [valV,qG9,e]
theorem zK1 (k:κ):∀ kvs:List (κ × V),(kvs.any fun kv=>decide (kv.1=k))=(valV kvs k).isSome
 | []=>rfl
 | p::r=>by
  rw [qH4]
  by_cases e:p.1=k
  ·simp only [zEt e,decide_eq_true e,Bool.true_or,qN6]
  ·rw [zEu e,decide_eq_false e,Bool.false_or]; exact zK1 k r
theorem zDB (kvs:List (κ × V)) (k:κ) (v:V):(putK kvs k v).length≤kvs.length+1:=by
 unfold putK
 split
 ·rw [qA6]; omega
 ·rw [qB1,qC3,qF3]; omega
theorem RelO.isSome_eq {o:Option V}{u:yF} (r:RelO o u):o.isSome=u.isSome:=by
 cases o with
 | none=>cases u with
  | none=>rfl
  | some _=>exact (show False from r).elim
 | some _=>cases u with
  | none=>exact (show False from r).elim
  | some _=>rfl
theorem KV.val {kvs:List (κ × V)}{vs:List (κ × Value)} (r:KV kvs vs) (k:κ):RelO (valV kvs k) (valueAt vs k):=by
 unfold KV at r
 induction r with
 | nil=>exact True.intro
 | @cons p q ps qs h t ih =>
  obtain ⟨h1,h2⟩:=h
  by_cases e:p.1=k
  ·have e':q.1=k:=h1.symm.trans e
   have b:valueAt (q::qs) k=some q.2:=by simp [valueAt,qG9,e']
   rw [zEt e,b]; exact h2
  ·have e':¬ q.1=k:=fun z=>e (h1.trans z)
   have b:valueAt (q::qs) k=valueAt qs k:=by simp [valueAt,qG9,e']
   rw [zEu e,b]; exact ih
theorem KV.any {kvs:List (κ × V)}{vs:List (κ × Value)} (r:KV kvs vs) (k:κ):(kvs.any fun kv=>decide (kv.1=k))=vs.any fun kv=>decide (kv.1=k):=by
 unfold KV at r
 induction r with
 | nil=>rfl
 | cons h t ih=>rw [qH4,qH4,ih,h.1]
theorem KV.repl {kvs:List (κ × V)}{vs:List (κ × Value)} (r:KV kvs vs) (k:κ) {y:V}{u:Value} (ry:RelV y u) :
  KV (kvs.map fun kv=>if kv.1=k then (kv.1,y) else kv) (vs.map fun kv=>if kv.1=k then (kv.1,u) else kv):=by
 unfold KV at r ⊢
 induction r with
 | nil=>exact .nil
 | @cons p q ps qs h t ih =>
  rw [qB9,qB9]
  refine .cons ?_ ih
  obtain ⟨h1,h2⟩:=h
  by_cases e:p.1=k
  ·rw [if_pos e,if_pos (h1.symm.trans e)]; exact ⟨h1,ry⟩
  ·rw [if_neg e,if_neg (fun z=>e (h1.trans z))]; exact ⟨h1,h2⟩
theorem KV.put {kvs:List (κ × V)}{vs:List (κ × Value)} (r:KV kvs vs) (k:κ) {y:V}{u:Value} (ry:RelV y u):KV (putK kvs k y) (stored vs k u):=by
 unfold putK stored
 rw [r.any k]
 by_cases e:(vs.any fun kv=>decide (kv.1=k))=true
 ·rw [if_pos e,if_pos e]; exact r.repl k ry
 ·rw [if_neg e,if_neg e]; exact Paired.snoc r ⟨rfl,ry⟩
theorem KV.length {kvs:List (κ × V)}{vs:List (κ × Value)} (r:KV kvs vs):kvs.length=vs.length:=Paired.length r
end
theorem zL2 {P:Program}{w:World}{k:Key}{u:Value} (r:RelV (kV k) u):(zAr P w).is k u=true:=by
 cases k with
 | inl i=>obtain ⟨t,e⟩:=(show ∃ t,u=Value.int i t from r); subst e; exact zJg P w i t
 | inr x=>obtain ⟨t,e⟩:=(show ∃ t,u=Value.str x t from r); subst e; exact zJf P w x t
theorem zHR {P:Program}{w:World}:∀ {ks:List Key}{us:yB},Vals (ks.map kV) us→ItemsAre (zAr P w) ks us
 | [],_,r=>by rw [qJ5] at r; cases r; exact .nil
 | k::ks,_,r=>by
  rw [qB9] at r
  cases r with
  | cons h t=>exact .cons (zL2 h) (zHR t)
noncomputable abbrev KT (H:Hp):List (List Key × V)→List (List Key × Addr × Value)→Prop:=Paired fun p q=>p.1=q.1∧H q.2.1=some (.tup (p.1.map kV))∧RelV p.2 q.2.2
theorem KT.val {H:Hp}{kvs:List (List Key × V)}{xs:List (List Key × Addr × Value)} (r:KT H kvs xs) (k:List Key):RelO (valV kvs k) ((atKey xs k).map (·.2)):=by
 induction r with
 | nil=>exact True.intro
 | @cons p q ps qs h t ih =>
  obtain ⟨h1,_,h2⟩:=h
  by_cases e:p.1=k
  ·have e':q.1=k:=h1.symm.trans e
   have b:atKey (q::qs) k=some q.2:=by simp [atKey,qG9,e']
   rw [zEt e,b]; exact h2
  ·have e':¬ q.1=k:=fun z=>e (h1.trans z)
   have b:atKey (q::qs) k=atKey qs k:=by simp [atKey,qG9,e']
   rw [zEu e,b]; exact ih
theorem KT.repl {H:Hp}{kvs:List (List Key × V)}{xs:List (List Key × Addr × Value)} (r:KT H kvs xs) (k:List Key) {y:V}{u:Value} (ry:RelV y u) :
  KT H (kvs.map fun kv=>if kv.1=k then (kv.1,y) else kv) (xs.map (putAt k u)):=by
 induction r with
 | nil=>exact .nil
 | @cons p q ps qs h t ih =>
  rw [qB9,qB9]
  refine .cons ?_ ih
  obtain ⟨h1,h2,h3⟩:=h
  unfold putAt
  by_cases e:p.1=k
  ·rw [if_pos e,if_pos (h1.symm.trans e)]; exact ⟨h1,h2,ry⟩
  ·rw [if_neg e,if_neg (fun z=>e (h1.trans z))]; exact ⟨h1,h2,h3⟩
theorem KT.put {H:Hp}{kvs:List (List Key × V)}{xs:List (List Key × Addr × Value)} (r:KT H kvs xs) (k:List Key) {b:Addr}{y:V}{u:Value} (hb:H b=some (.tup (k.map kV))) (ry:RelV y u) :
  KT H (putK kvs k y) (storedH xs k b u):=by
 have e:(kvs.any fun kv=>decide (kv.1=k))=(atKey xs k).isSome:=by
  rw [zK1,(r.val k).isSome_eq,qO0]
 unfold putK storedH
 rw [e]
 by_cases q:(atKey xs k).isSome=true
 ·rw [if_pos q,if_pos q]; exact r.repl k ry
 ·rw [if_neg q,if_neg q]; exact Paired.snoc r ⟨rfl,hb,ry⟩
theorem KT.keeps {H H':Hp}{kvs:List (List Key × V)}{xs:List (List Key × Addr × Value)} (r:KT H kvs xs) (ht:∀ b ys,H b=some (.tup ys)→H' b=some (.tup ys)):KT H' kvs xs :=
 Paired.mapP r fun _ _ z=>⟨z.1,ht _ _ z.2.1,z.2.2⟩
section
variable {P:Program}{w:World}{H:Hp}{h:Heap}{a:Addr}
theorem zSU {u:HO} (ok:HOk P w H h) (e:Rd H a u):zBA P w H h a u:=e.ok ok
theorem zNc {kvs:List (Key × V)} (ok:HOk P w H h) (e:Rd H a (.dK kvs)):kvs.length≤sizeLine∧(a == sysModules)=false∧∃ vs,KV kvs vs∧h.DictOf (zAr P w) a vs :=
 show zBA P w H h a (.dK kvs) from zSU ok e
theorem zPg {kvs:List (Key × V)} (ok:HOk P w H h) (e:H a=some (.dK kvs)):kvs.length≤sizeLine∧(a == sysModules)=false∧∃ vs,KV kvs vs∧h.DictOf (zAr P w) a vs:=zNc ok (.inl e)
theorem zHO {ks:List Key} (ok:HOk P w H h) (e:H a=some (.tup (ks.map kV))):(tupleKind (zAr P w)).is h ks a:=by
 obtain ⟨_,its,r,o,h1,h2,n,h3⟩:=(show zBA P w H h a (.tup (ks.map kV)) from ok a _ e)
 exact ⟨o,its.toArray,n,h1,h2,h3,by simpa using zHR r⟩
theorem zNb {kvs:List (List Key × V)} (ok:HOk P w H h) (e:Rd H a (.dT kvs)):kvs.length≤sizeLine∧(a == sysModules)=false ∧
  ∃ xs,KT H kvs xs∧h.DictOfH (tupleKind (zAr P w)) a xs:=by
 obtain ⟨z,y,xs,r,o,es,ep,h1,h2,h3,h4,h5⟩:=(show zBA P w H h a (.dT kvs) from zSU ok e)
 refine ⟨z,y,xs,r,o,es,ep,h1,h2,h3,h4,fun x hx=>?_,h5⟩
 have all:∀ {l:List (List Key × V)}{m:List (List Key × Addr × Value)},KT H l m→∀ x∈m,(tupleKind (zAr P w)).is h x.1 x.2.1:=by
  intro l m q
  induction q with
  | nil=>intro x hx; exact nomatch hx
  | @cons p q ps qs hq t ih =>
   intro x hx
   rcases qB6.mp hx with e | hx
   ·subst e
    exact zHO ok (by rw [← hq.1]; exact hq.2.1)
   ·exact ih x hx
 exact all r x hx
theorem zX3 {kvs:List (List Key × V)} (ok:HOk P w H h) (e:H a=some (.dT kvs)):kvs.length≤sizeLine∧(a == sysModules)=false ∧
  ∃ xs,KT H kvs xs∧h.DictOfH (tupleKind (zAr P w)) a xs:=zNb ok (.inl e)
end
def DGet (H:Hp) (a:Addr) (y:V) (r:Option V):Prop :=
 (∃ kvs k,Rd H a (.dK kvs)∧y=kV k∧r=valV kvs k)∨∃ kvs k b,Rd H a (.dT kvs)∧y=.ref b∧H b=some (.tup (k.map kV))∧r=valV kvs k
def DPut (H:Hp) (a:Addr) (y v:V) (H':Hp):Prop :=
 (∃ kvs k,H a=some (.dK kvs)∧y=kV k∧kvs.length<sizeLine∧H'=upd H a (.dK (putK kvs k v))) ∨
 ∃ kvs k b,H a=some (.dT kvs)∧y=.ref b∧H b=some (.tup (k.map kV))∧kvs.length<sizeLine∧H'=upd H a (.dT (putK kvs k v))
theorem DGet.k {H:Hp}{a:Addr}{kvs:List (Key × V)}{k:Key} (e:H a=some (.dK kvs)):DGet H a (kV k) (valV kvs k):=.inl ⟨kvs,k,.inl e,rfl,rfl⟩
theorem DGet.t {H:Hp}{a b:Addr}{kvs:List (List Key × V)}{k:List Key} (e:H a=some (.dT kvs)) (eb:H b=some (.tup (k.map kV))):DGet H a (.ref b) (valV kvs k):=.inr ⟨kvs,k,b,.inl e,rfl,eb,rfl⟩
theorem DPut.k {H:Hp}{a:Addr}{kvs:List (Key × V)}{k:Key}{v:V} (e:H a=some (.dK kvs)) (hl:kvs.length<sizeLine):DPut H a (kV k) v (upd H a (.dK (putK kvs k v))):=.inl ⟨kvs,k,e,rfl,hl,rfl⟩
theorem DPut.t {H:Hp}{a b:Addr}{kvs:List (List Key × V)}{k:List Key}{v:V} (e:H a=some (.dT kvs)) (eb:H b=some (.tup (k.map kV))) (hl:kvs.length<sizeLine) :
  DPut H a (.ref b) v (upd H a (.dT (putK kvs k v))):=.inr ⟨kvs,k,b,e,rfl,eb,hl,rfl⟩
section
variable {X:Cx}{pins:yD}{σ:St}{H:Hp}{s:Shared}{a:Addr}{y v:V}{u r:Value}{o:Option V}{A:Around}{E:yL}
theorem Inv.big (I:Inv X pins σ H s):sysModules<s.heap.objs.size:=by
 have h:mainGlobals<s.heap.objs.size:=(I.mod.glob.keeps I.bk).lt
 exact Nat.lt_trans (by decide) h
theorem zNh {Q:yL} (hu:A.units+1<cLine) (I:Inv X pins σ H s) (g:DGet H a y (some v)) (ry:RelV y u) (h:∀ w' s',Inv X pins σ H s'→RelV v w'→Q w' s') :
  wpAny (model X.prog X.w) A (getItem (.ref a) u) Q E s:=by
 rcases g with ⟨kvs,k,e,ey,l⟩ | ⟨kvs,k,b,e,ey,eb,l⟩
 ·subst ey
  obtain ⟨z,hd,vs,rel,dd⟩:=zNc I.hok e
  obtain ⟨w',hw,rw'⟩:=RelO.some_of (v:=v) (o:=valueAt vs k) (by rw [l]; exact rel.val k)
  exact wpAny_getItem_of (zL2 ry) dd.mapOf hw (h w' _ (I.tok _) rw')
 ·subst ey
  cases (show u=Value.ref b from ry)
  obtain ⟨z,hd,xs,rel,dd⟩:=zNb I.hok e
  obtain ⟨w',hw,rw'⟩:=RelO.some_of (v:=v) (o:=(atKey xs k).map (·.2)) (by rw [l]; exact rel.val k)
  obtain ⟨p,hp,hp2⟩:=qA1.mp hw
  refine wpAny_getItem_heap (tupleKind_room_in1 hu) (zHO I.hok eb) dd hp ?_
  rw [hp2]
  exact h w' _ (I.tok _) rw'
theorem d_in {Q:yL} (hu:A.units+1<cLine) (I:Inv X pins σ H s) (g:DGet H a y o) (ry:RelV y u) (h:∀ s',Inv X pins σ H s'→Q (.bool o.isSome) s') :
  wpAny (model X.prog X.w) A (compareOp .In u (.ref a)) Q E s:=by
 rcases g with ⟨kvs,k,e,ey,l⟩ | ⟨kvs,k,b,e,ey,eb,l⟩
 ·subst ey
  obtain ⟨z,hd,vs,rel,dd⟩:=zNc I.hok e
  refine wpAny_in_of (zL2 ry) hd dd.mapOf ?_
  rw [← (rel.val k).isSome_eq,← l]
  exact h _ (I.tok _)
 ·subst ey
  cases (show u=Value.ref b from ry)
  obtain ⟨z,hd,xs,rel,dd⟩:=zNb I.hok e
  refine wpAny_in_heap (tupleKind_room_in1 hu) (zHO I.hok eb) hd dd ?_
  have q:=(rel.val k).isSome_eq
  rw [qO0] at q
  rw [← q,← l]
  exact h _ (I.tok _)
theorem zRK {Q:yL} (hu:A.units+1<cLine) (I:Inv X pins σ H s) (g:DGet H a y o) (ry:RelV y u) (h:∀ s',Inv X pins σ H s'→Q (.bool (!o.isSome)) s') :
  wpAny (model X.prog X.w) A (compareOp .NotIn u (.ref a)) Q E s:=by
 rcases g with ⟨kvs,k,e,ey,l⟩ | ⟨kvs,k,b,e,ey,eb,l⟩
 ·subst ey
  obtain ⟨z,hd,vs,rel,dd⟩:=zNc I.hok e
  refine wpAny_notIn_of (zL2 ry) hd dd.mapOf ?_
  rw [← (rel.val k).isSome_eq,← l]
  exact h _ (I.tok _)
 ·subst ey
  cases (show u=Value.ref b from ry)
  obtain ⟨z,hd,xs,rel,dd⟩:=zNb I.hok e
  refine wpAny_notIn_heap (tupleKind_room_in1 hu) (zHO I.hok eb) hd dd ?_
  have q:=(rel.val k).isSome_eq
  rw [qO0] at q
  rw [← q,← l]
  exact h _ (I.tok _)
theorem zJD {h':Heap}{t':Nat}{ob:HO} (I:Inv X pins σ H s) (mu:Mut (H a)) (hs:qF0 a s.heap h') (he:∃ q,h'.get? a=some q) (new:zBA X.prog X.w (upd H a ob) h' a ob) :
  Inv X pins σ (upd H a ob) { s with heap:=h',toks:=t' } :=
 I.write (x:=a) (e:=a) mu (.inl rfl) (fun b q hb z=>(hs.2 b hb).trans z) he new
theorem zPX {P:Program}{w:World}{H':Hp}{h':Heap}{kvs:List (Key × V)}{vs:List (Key × Value)} (z:kvs.length≤sizeLine) (hd:(a == sysModules)=false) (rel:KV kvs vs) (dd:h'.DictOf (zAr P w) a vs) :
  zBA P w H' h' a (.dK kvs):=⟨z,hd,vs,rel,dd⟩
theorem zFh {H':Hp}{Q:Unit→Shared→Prop} (hu:A.units+1<cLine) (I:Inv X pins σ H s) (g:DPut H a y v H') (ry:RelV y u) (rv:RelV v r) (h:∀ s',Inv X pins σ H' s'→Q () s') :
  wpAny (model X.prog X.w) A (setItem (.ref a) u r) Q E s:=by
 rcases g with ⟨kvs,k,e,ey,l,eH⟩ | ⟨kvs,k,b,e,ey,eb,l,eH⟩
 ·subst ey eH
  obtain ⟨z,hd,vs,rel,dd⟩:=zPg I.hok e
  have hz:vs.length≤sizeLine:=by rw [← rel.length]; exact z
  have hl:(putK kvs k v).length≤sizeLine:=by have:=zDB kvs k v; omega
  refine wpAny_setItem_pairs (hsz:=hz) (zL2 ry) dd fun h' dd' hs=>h _ ?_
  have he:∃ q,h'.get? a=some q:=let ⟨q,_,_,hq,_⟩:=dd'; ⟨q,hq⟩
  exact zJD I (by rw [e]; exact True.intro) hs he (zPX hl hd (rel.put k rv) dd')
 ·subst ey eH
  cases (show u=Value.ref b from ry)
  obtain ⟨z,hd,xs,rel,dd⟩:=zX3 I.hok e
  have hz:xs.length≤sizeLine:=by rw [← Paired.length rel]; exact z
  have hl:(putK kvs k v).length≤sizeLine:=by have:=zDB kvs k v; omega
  refine wpAny_setItem_heap (hsz:=hz) (tupleKind_room_in1 hu) (zHO I.hok eb) dd fun h' dd' hs=>h _ ?_
  obtain ⟨q,es,ep,hq,h2,h3,h4,_,h5⟩:=dd'
  refine zJD I (by rw [e]; exact True.intro) hs ⟨q,hq⟩ ⟨hl,hd,_,(rel.put k eb rv).keeps fun c ys ec=>?_,q,es,ep,hq,h2,h3,h4,h5⟩
  rw [zAb (zWC ec e (fun z=>nomatch z))]
  exact ec
end
theorem zJC {X:Cx}{pins:yD}{σ:St}{H:Hp}{s:Shared}{a:Addr}{y:V}{o:Option V} (I:Inv X pins σ H s) (g:DGet H a y o):s.TypeIs (.ref a) "dict":=by
 rcases g with ⟨kvs,k,e,_,_⟩ | ⟨kvs,k,b,e,_,_,_⟩
 ·obtain ⟨_,_,vs,_,dd⟩:=zNc I.hok e
  exact dd.typeIs
 ·obtain ⟨_,_,xs,_,dd⟩:=zNb I.hok e
  exact dd.typeIs
theorem zKy {P:Program}{w:World}{H:Hp} (h:Heap) (hb:sysModules<h.objs.size):zBA P w H (h.push { cls:=.type "dict",data:=.dict #[] }) h.objs.size (.dK []) :=
 ⟨qG0 _,beq_eq_false_iff_ne.mpr (Ne.symm (qC4 hb)),[],.nil,Heap.DictOf.new h⟩
def zSm:TE:=fun _ H Q=>∀ p,H p=none→Q (.ref p) (upd H p (.dK []))
section
variable {X:Cx}{pos:Pos}
theorem zOx:PE X (.Dict [] [] pos) zSm:=fun pins s σ H Q I h =>
 wpAny_Dict_empty ⟨.ref s.heap.objs.size,_,I.laid (a:=s.heap.objs.size) (o:=.dK []) (t':=s.toks) (fun _ _ q=>qA3 _ q) (qA9 _) (zKy s.heap I.big),rfl,h _ (I.hok.fresh (qA9 _))⟩
end
def zLU:List (TE × TE)→St→Hp→(List (V × V)→Hp→Prop)→Prop
 | [],_,H,Q=>Q [] H
 | (tk,tv)::r,σ,H,Q=>tk σ H fun x H1=>tv σ H1 fun y H2=>zLU r σ H2 fun ps H3=>Q ((x,y)::ps) H3
noncomputable abbrev VV:List (V × V)→List (Value × Value)→Prop:=Paired fun p q=>RelV p.1 q.1∧RelV p.2 q.2
def PPs (X:Cx) (pos:Pos) (keys:List (Option Expr)) (values:yE) (trs:List (TE × TE)):Prop :=
 ∀ (pins:yD) (s:Shared) (σ:St) (H:Hp) (Q:List (V × V)→Hp→Prop),Inv X pins σ H s→zLU trs σ H Q →
  wpAny (model X.prog X.w) X.A (evalPairs (pairTrees keys values X.env pos)) (fun vs s'=>∃ ps H',Inv X pins σ H' s'∧VV ps vs∧Q ps H') X.xe s
theorem zQR {X:Cx}{pos:Pos}:PPs X pos [] [] []:=fun pins s σ H Q I h=>pairTrees_nil_walk ⟨[],H,I,.nil,h⟩
theorem zOo {X:Cx}{pos:Pos}{k v:Expr}{ks:List (Option Expr)}{vs:yE}{tk tv:TE}{trs:List (TE × TE)} (hk:PE X k tk) (hv:PE X v tv) (hr:PPs X pos ks vs trs) :
  PPs X pos (some k::ks) (v::vs) ((tk,tv)::trs):=fun pins s σ H Q I h =>
 pairTrees_cons_walk (thn (hk pins s σ H _ I h) fun u s1 ⟨x,H1,I1,rx,q1⟩=>thn (hv pins s1 σ H1 _ I1 q1) fun w2 s2 ⟨y,H2,I2,ry,q2⟩ =>
  thn (hr pins s2 σ H2 _ I2 q2) fun ws s3 ⟨ps,H3,I3,rel,q3⟩=>⟨(x,y)::ps,H3,I3,.cons ⟨rx,ry⟩ rel,q3⟩)
noncomputable def zEQ (kvs more:List (Key × V)):List (Key × V):=more.foldl (fun acc kv=>putK acc kv.1 kv.2) kvs
theorem KV.merge:∀ {more:List (Key × V)}{rs:List (Key × Value)}{kvs:List (Key × V)}{vs:List (Key × Value)},KV more rs→KV kvs vs→KV (zEQ kvs more) (merged vs rs):=by
 intro more rs kvs vs r
 unfold KV at r
 induction r generalizing kvs vs with
 | nil=>intro q; exact q
 | @cons p q ps qs h t ih =>
  intro r0
  have e:KV (putK kvs p.1 p.2) (stored vs q.1 q.2):=by
   have:=r0.put p.1 h.2
   rw [← h.1]; exact this
  exact ih e
theorem zDM:∀ (more kvs:List (Key × V)),(zEQ kvs more).length≤kvs.length+more.length
 | [],kvs=>by show kvs.length≤kvs.length+0; omega
 | p::r,kvs=>by
  have h1:=zDM r (putK kvs p.1 p.2)
  have h2:=zDB kvs p.1 p.2
  show (zEQ (putK kvs p.1 p.2) r).length≤_
  rw [qC3]; omega
theorem zGf {P:Program}{w:World}:∀ {kvs:List (Key × V)}{ws:List (Value × Value)},VV (kvs.map fun kv=>(kV kv.1,kv.2)) ws→∃ rs,Carries (zAr P w) ws rs∧KV kvs rs
 | [],_,r=>by rw [qJ5] at r; cases r; exact ⟨[],True.intro,.nil⟩
 | p::kvs,_,r=>by
  rw [qB9] at r
  cases r with
  | @cons a b as bs h t =>
   obtain ⟨rs,c,q⟩:=zGf (P:=P) (w:=w) t
   obtain ⟨b1,b2⟩:=b
   exact ⟨(p.1,b2)::rs,⟨zL2 h.1,rfl,c⟩,.cons ⟨rfl,h.2⟩ q⟩
def zVI (trs:List (TE × TE)):TE:=fun σ H Q=>∀ p,H p=none→zLU trs σ (upd H p (.dK [])) fun ps H2=>H2 p=some (.dK [])∧∃ kvs:List (Key × V),ps=kvs.map (fun kv=>(kV kv.1,kv.2))∧kvs.length≤15∧Q (.ref p) (upd H2 p (.dK (zEQ [] kvs)))
theorem zQW {X:Cx}{pos:Pos}{keys:List (Option Expr)}{values:yE}{trs:List (TE × TE)} (h:PPs X pos keys values trs) (hall:keys.all (·.isSome)=true) (hl:keys.length=values.length) (h0:keys≠[])
  (h15:keys.length≤15):PE X (.Dict keys values pos) (zVI trs):=by
 intro pins s σ H Q I q
 have hn:=I.hok.fresh (qA9 s.heap.objs.size)
 have I1:=I.laid (a:=s.heap.objs.size) (o:=.dK []) (h':=s.heap.push { cls:=.type "dict",data:=.dict #[] }) (t':=s.toks) (fun _ _ q=>qA3 _ q) (qA9 _) (zKy s.heap I.big)
 refine wpAny_Dict_walk (knd:=zAr X.prog X.w) hall hl h0 h15 (thn (h pins _ σ _ _ I1 (q _ hn)) fun ws s2 ⟨ps,H2,I2,rel,e,kvs,ep,lk,q2⟩=>?_)
 subst ep
 obtain ⟨rs,c,rk⟩:=zGf (P:=X.prog) (w:=X.w) rel
 obtain ⟨z,hd,vs0,r0,dd⟩:=zPg I2.hok e
 cases r0
 refine ⟨rs,c,dd,fun h' dd' hs=>⟨.ref s.heap.objs.size,_,?_,rfl,q2⟩⟩
 have hz:(zEQ [] kvs).length≤sizeLine:=by
  have h1:=zDM kvs []
  rw [qF3] at h1
  rw [sizeLine_eq]; omega
 have he:∃ q,h'.get? s.heap.objs.size=some q:=let ⟨q,_,_,hq,_⟩:=dd'; ⟨q,hq⟩
 exact zJD I2 (by rw [e]; exact True.intro) hs he (zPX hz hd (rk.merge .nil) dd')
def zIP (st st2:St):Prop:=st.length=st2.length∧∀ (i:Nat) v,st[i]?=some (some v)→st2[i]?=some (some v)
noncomputable def zBd (X:Cx) (scope:Scope) (N:yH) (cl:List (Str × Addr)) (s:Shared) (H:Hp) (C:Addr) (ex:yC):Cx where
 prog:=X.prog
 w:=X.w
 K:=X.K
 mg:=X.mg
 base:=X.base
 A:=X.A
 N:=N
 s₀:=s
 H₀:=H
 env:=compEnvC scope cl C X.env
 outer:=X.stack
 stack:=X.stack
 ex:=ex
 fn:=fun x=>decide ((x,NameKind.cell)∈scope.names)
 calm:=X.calm
 pn:=[]
 xe:=fun _ _=>False
noncomputable def clOf (env:Env):List (Str × NameKind)→List (Str × Addr)→List (Str × Addr)
 | [],acc=>acc
 | (n,k)::r,acc=>if k == .free then (match env.cells.lookup n with | some c=>clOf env r ((n,c)::acc) | none=>clOf env r acc) else clOf env r acc
theorem zEB {env:Env}:∀ (ns:List (Str × NameKind)) (acc:List (Str × Addr)),(∀ x c,acc.lookup x=some c→env.cells.lookup x=some c)→∀ x c,(clOf env ns acc).lookup x=some c→env.cells.lookup x=some c
 | [],_,h=>h
 | (n,k)::r,acc,h=>by
  unfold clOf
  split
  ·split
   ·rename_i c hc
    refine zEB r _ fun x d e=>?_
    rw [qD3] at e
    cases hx:x == n with
    | true =>
     rw [hx] at e
     have:x=n:=by simpa using hx
     subst this
     cases e
     exact hc
    | false =>
     rw [hx] at e
     exact h x d e
   ·exact zEB r _ h
  ·exact zEB r _ h
theorem zDQ {env:Env}:∀ (ns:List (Str × NameKind)) (acc:List (Str × Addr)) (x:Str),((∃ c,acc.lookup x=some c)∨((x,NameKind.free)∈ns∧∃ c,env.cells.lookup x=some c))→∃ c,(clOf env ns acc).lookup x=some c
 | [],acc,x,h=>by
  rcases h with h | ⟨h,_⟩
  ·exact h
  ·cases h
 | (n,k)::r,acc,x,h=>by
  unfold clOf
  split
  ·rename_i hk
   split
   ·rename_i c hc
    refine zDQ r _ x ?_
    by_cases hx:x=n
    ·subst hx
     exact .inl ⟨c,by rw [qD3]; simp⟩
    ·have hb:(x == n)=false:=by simpa using hx
     rcases h with ⟨d,h⟩ | ⟨h,d⟩
     ·exact .inl ⟨d,by rw [qD3,hb]; exact h⟩
     ·rcases qB6.mp h with h | h
      ·cases h; exact absurd rfl hx
      ·exact .inr ⟨h,d⟩
   ·rename_i hc
    refine zDQ r _ x ?_
    rcases h with h | ⟨h,d,hd⟩
    ·exact .inl h
    ·rcases qB6.mp h with h | h
     ·cases h
      rw [hc] at hd; cases hd
     ·exact .inr ⟨h,d,hd⟩
  ·rename_i hk
   refine zDQ r _ x ?_
   rcases h with h | ⟨h,d⟩
   ·exact .inl h
   ·rcases qB6.mp h with h | h
    ·cases h
     exact absurd rfl hk
    ·exact .inr ⟨h,d⟩
theorem zNt {env:Env}{x:Str}{c:Addr} (h:env.cells.lookup x=some c):cellOf env x=pure c:=by
 unfold cellOf
 rw [h]
theorem zEf {env:Env}:∀ (ns:List (Str × NameKind)) (acc:List (Str × Addr)),(∀ x,(x,NameKind.free)∈ns→∃ c,env.cells.lookup x=some c) →
  (forIn ns acc fun (x:Str × NameKind) (r:List (Str × Addr))=>(match x with
   | (name,kind)=>if kind == NameKind.free then (do let c ← cellOf env name; pure (ForInStep.yield ((name,c)::r))) else pure (ForInStep.yield r):Sem (ForInStep (List (Str × Addr)))))=pure (clOf env ns acc)
 | [],acc,_=>rfl
 | (n,k)::r,acc,h=>by
  rw [qT4]
  unfold clOf
  have hr:∀ x,(x,NameKind.free)∈r→∃ c,env.cells.lookup x=some c:=fun x hx=>h x (qC7 _ hx)
  by_cases hk:k=.free
  ·subst hk
   obtain ⟨c,hc⟩:=h n (qD4 ..)
   dsimp only
   rw [hc,zNt hc]
   simp only [beq_self_eq_true,if_true,pure_bind]
   exact zEf r _ hr
  ·have hb:(k == NameKind.free)=false:=by simpa using hk
   simp only [hb,qE0,if_false,pure_bind]
   exact zEf r _ hr
theorem zDP {scope:Scope}{env:Env} (h:∀ x,(x,NameKind.free)∈scope.names→∃ c,env.cells.lookup x=some c):closureFor scope env=pure (clOf env scope.names []):=by
 unfold closureFor
 have q:=zEf (env:=env) scope.names [] h
 simp only [bind_pure]
 refine Eq.trans ?_ q
 congr 1
theorem zDz {ns:List (Str × NameKind)}{x:Str}{k:NameKind} (h:ns.lookup x=some k):(x,k)∈ns:=by
 induction ns with
 | nil=>cases h
 | cons a r ih =>
  obtain ⟨n,k'⟩:=a
  rw [qD3] at h
  cases hx:x == n with
  | true =>
   rw [hx] at h
   have e:x=n:=by simpa using hx
   subst e
   cases h
   exact qD4 ..
  | false =>
   rw [hx] at h
   exact qC7 _ (ih h)
theorem zEL {scope:Scope}{env:Env}{x:Str}{k:NameKind} (h:(relabel scope env).names.lookup x=some k) (hc:k=.cell∨k=.free):(x,NameKind.free)∈scope.names∨(x,NameKind.cell)∈scope.names:=by
 have m:=zDz h
 obtain ⟨⟨n,k'⟩,hm,e⟩:=qC9.mp m
 dsimp only at e
 split at e
 ·rename_i hq
  cases e
  have:k'=.free:=by
   simp only [qC6,beq_iff_eq] at hq
   exact hq.1.1
  subst this
  exact .inl hm
 ·cases e
  rcases hc with rfl | rfl
  ·exact .inr hm
  ·exact .inl hm
theorem zBi:∀ (ns:List (Str × NameKind)) (h:Heap) (acc:List (Str × Addr)) {x:Str}{c:Addr},(cellsFrom h.objs.size ns acc).lookup x=some c →
  ((x,NameKind.cell)∈ns∧h.objs.size≤c∧(pushCells h ns).IsCell c none)∨((x,NameKind.cell)∉ns∧acc.lookup x=some c)
 | [],h,acc,x,c,e=>.inr ⟨by simp,e⟩
 | (n,k)::r,h,acc,x,c,e=>by
  unfold cellsFrom at e
  unfold pushCells
  by_cases hk:(k == NameKind.cell)=true
  ·rw [if_pos hk] at e ⊢
   have hk':k=.cell:=by simpa using hk
   rw [← qG5 h { cls:=.type "cell",data:=.cell none }] at e
   rcases zBi r _ _ e with ⟨q1,q2,q3⟩ | ⟨q1,q2⟩
   ·exact .inl ⟨qC7 _ q1,by rw [qG5] at q2; omega,q3⟩
   ·rw [qD3] at q2
    cases hx:x == n with
    | true =>
     rw [hx] at q2
     cases q2
     have:x=n:=by simpa using hx
     subst this
     subst hk'
     exact .inl ⟨qD4 ..,qA9 _,_,pushCells_keeps _ _ _ _ (qB3 _ rfl),rfl⟩
    | false =>
     rw [hx] at q2
     refine .inr ⟨fun z=>?_,q2⟩
     rcases qB6.mp z with z | z
     ·cases z; simp at hx
     ·exact q1 z
  ·rw [if_neg hk] at e ⊢
   rcases zBi r h acc e with ⟨q1,q2,q3⟩ | ⟨q1,q2⟩
   ·exact .inl ⟨qC7 _ q1,q2,q3⟩
   ·refine .inr ⟨fun z=>?_,q2⟩
    rcases qB6.mp z with z | z
    ·cases z; exact hk rfl
    ·exact q1 z
theorem zFm:∀ (ns:List (Str × NameKind)) (n:Nat) (acc:List (Str × Addr)),(∀ x c,acc.lookup x=some c→c<n)→(∀ x y c,acc.lookup x=some c→acc.lookup y=some c→x=y) →
  ∀ x y c,(cellsFrom n ns acc).lookup x=some c→(cellsFrom n ns acc).lookup y=some c→x=y
 | [],n,acc,hb,hi=>hi
 | (m,k)::r,n,acc,hb,hi=>by
  unfold cellsFrom
  split
  ·refine zFm r (n+1) _ (fun x c e=>?_) fun x y c e1 e2=>?_
   ·rw [qD3] at e
    cases hx:x == m with
    | true=>rw [hx] at e; cases e; exact qM0 _
    | false=>rw [hx] at e; exact qG6 (hb x c e)
   ·rw [qD3] at e1 e2
    cases hx:x == m with
    | true =>
     rw [hx] at e1
     cases e1
     cases hy:y == m with
     | true=>rw [show x=m by simpa using hx,show y=m by simpa using hy]
     | false=>rw [hy] at e2; exact absurd (hb y _ e2) (qI1 _)
    | false =>
     rw [hx] at e1
     cases hy:y == m with
     | true=>rw [hy] at e2; cases e2; exact absurd (hb x _ e1) (qI1 _)
     | false=>rw [hy] at e2; exact hi x y c e1 e2
  ·exact zFm r n acc hb hi
theorem zDr:∀ (ns:List (Str × NameKind)) (n:Nat) (acc:List (Str × Addr)) {x:Str},((x,NameKind.cell)∈ns∨∃ c,acc.lookup x=some c)→∃ c,(cellsFrom n ns acc).lookup x=some c
 | [],n,acc,x,h=>by
  rcases h with h | h
  ·cases h
  ·exact h
 | (m,k)::r,n,acc,x,h=>by
  unfold cellsFrom
  split
  ·refine zDr r _ _ ?_
   by_cases hx:x=m
   ·subst hx
    exact .inr ⟨n,by rw [qD3]; simp⟩
   ·have hb:(x == m)=false:=by simpa using hx
    rcases h with h | ⟨c,h⟩
    ·rcases qB6.mp h with h | h
     ·cases h; exact absurd rfl hx
     ·exact .inl h
    ·exact .inr ⟨c,by rw [qD3,hb]; exact h⟩
  ·rename_i hk
   refine zDr r _ _ ?_
   rcases h with h | h
   ·rcases qB6.mp h with h | h
    ·cases h; exact absurd rfl hk
    ·exact .inl h
   ·exact .inr h
theorem zFC {M:Model}{A:Around}{E:yL}{s:Shared}{scope:Scope}{globals:Addr}{closure:List (Str × Addr)}{qual:Str}{outer:Env}{Q:Env→Shared→Prop}
  (hQ:Q (newEnv scope s.heap.objs.size globals (cellsFrom (s.heap.push { cls:=.type "dict",data:=.dict #[] }).objs.size scope.names closure) qual none .none (some outer) builtinsNs) { s with heap:=pushCells (s.heap.push { cls:=.type "dict",data:=.dict #[] }) scope.names }) :
  wpAny M A (newFunctionEnv scope globals closure [] qual none .none (some outer)) Q E s:=by
 simp only [newFunctionEnv,qN6,if_true]
 refine wpAny_bind (wpAny_alloc ?_)
 refine wpAny_bind (wpAny_layCells _ (fun name kind cells=>by cases hkc:kind == NameKind.cell <;> simp [hkc]) _ _ _ _ ?_)
 rw [qU1]
 exact wpAny_bind (wpAny_pure (wpAny_pure hQ))
section
variable {X:Cx}{pins:yD}{σ:St}{H:Hp}{s:Shared}{scope:Scope}{N:yH}{C:Addr}{ex:yC}
structure zLB (X:Cx) (scope:Scope) (N:yH) (k:Nat) (js:List Nat):Prop where
 calm:X.calm=true
 kind:scope.kind=.function
 cell:∀ x,(x,NameKind.cell)∈scope.names→scope.names.lookup x=some .cell
 free:∀ x,(x,NameKind.free)∈scope.names→(X.env.kindOf x=some .cell∨X.env.kindOf x=some .free)
 names:∀ x∈scope.names,x.2=.local→scope.names.lookup x.1=some .local
 len:N.length=k+js.length
 js:∀ i j,js[i]?=some j→∃ x,N[k+i]?=some x∧X.N[j]?=some x∧scope.names.lookup x=some .free∧Vis X.env.scope x
theorem zIk {env:Env}{ns:List (Str × NameKind)}{x:Str}{c:Addr} (h:(clOf env ns []).lookup x=some c):env.cells.lookup x=some c:=zEB _ _ (fun _ _ z=>by cases z) x c h
theorem Inv.compOk (I:Inv X pins σ H s) (hk:scope.kind=.function) (hf:∀ x,(x,NameKind.free)∈scope.names→∃ c,X.env.cells.lookup x=some c) {h:Heap} (hh:h.objs.size=C+1) (hC:s.heap.objs.size≤C) (hex:∀ b∈ex,FpOk X pins H b) (hxs:∀ b∈ex,b<s.heap.objs.size) :
  (zBd X scope N (cellsFrom h.objs.size scope.names (clOf X.env scope.names [])) s H C ex).Ok where
 mod:=I.ok.mod
 kind:=hk
 glob:=I.ok.glob
 blt:=I.ok.blt
 above:=hC
 inj:=zFm _ _ _ (fun x c e=>by
  obtain ⟨v,q⟩:=I.cell x c (zIk e)
  rw [hh]; exact qG6 (qC1 q.lt hC)) fun x y c e1 e2=>I.ok.inj x y c (zIk e1) (zIk e2)
 has:=fun x h=>by
  have m:=zEL (scope:=scope) (env:=X.env) (x:=x) (k:=.cell)
  have m2:=zEL (scope:=scope) (env:=X.env) (x:=x) (k:=.free)
  have q:(x,NameKind.free)∈scope.names∨(x,NameKind.cell)∈scope.names:=by
   rcases h with h | h
   ·exact m h (.inl rfl)
   ·exact m2 h (.inr rfl)
  refine zDr _ _ _ ?_
  rcases q with q | q
  ·exact .inr (zDQ _ _ x (.inr ⟨q,hf x q⟩))
  ·exact .inl q
 cab:=fun x c h e=>by
  rcases zBi _ _ _ e with ⟨_,q,_⟩ | ⟨q,_⟩
  ·show s.heap.objs.size≤c; omega
  ·exact absurd (of_decide_eq_true h) q
 hd:=I.ok.hd
 frames:=I.ok.frames
 stk:=.inl rfl
 exf:=fun b hb=>⟨fun z=>by
   have z':b=C:=z
   exact qI1 _ (qC1 (hxs b hb) (by rw [z']; exact hC)),fun x c e=>by
   rcases zBi _ _ _ e with ⟨_,q,_⟩ | ⟨_,q⟩
   ·exact qJ3 (qC1 (hxs b hb) (qC5 hC (qH3 (qC1 (by rw [hh]; exact qM0 C) q))))
   ·exact (hex b hb).2.2.2.2.1 x c (zIk q)⟩
 bs:=I.bs
 bsz:=qC5 I.ok.bsz I.sz
 noex:=fun b o e hb=>by
  rcases (hex b hb).2.2.2.1 with z | z
  ·exact I.ok.noex b o e z
  ·exact qI1 _ (qC1 (qB5 e) (qC5 I.ok.bsz z))
 exfs:=fun b hb z=>by
  rcases qB6.mp (I.stkSub b z) with q | q
  ·exact (hex b hb).2.1 q
  ·exact (hex b hb).2.2.1 q
 funs:=I.stack
 frf:=I.stkFree
theorem zJE {prog:Program}{w:World}{A:Around}{R:Result→Shared→Prop}{elt target iter:Expr}{ifs:yE}{scope:Scope}{pos:Pos}{it acc:Value}{env:Env}{s:Shared} (J:Nat→Shared→Prop)
  (turn:∀ n s,J n s→wpAny (model prog w) A (pyNext it) (fun r s1=>match r with
   | none=>R (.ok .next) s1
   | some v=>wpAny (model prog w) A (letOwnedTupleGo target it v) (fun _ s1'=>wpAny (model prog w) A (assign target env v) (fun _ s2 =>
     wpAny (model prog w) A (forIn ifs true fun c r=>if r=true then do let ok ← isTrue c env (eval c env); pure (ForInStep.yield ok) else pure (ForInStep.yield r)) (fun ok s3 =>
      if ok=true then wpAny (model prog w) A (eval elt env) (fun x s4 =>
       wpAny (model prog w) A (call (.builtin "list.append") [acc,x]) (fun _ s5=>∃ m,m<n∧J m s5) (notedBy (model prog w) A env fun e s'=>R (.error e) s') s4) (notedBy (model prog w) A env fun e s'=>R (.error e) s') s3
      else ∃ m,m<n∧J m s3) (notedBy (model prog w) A env fun e s'=>R (.error e) s') s2) (notedBy (model prog w) A env fun e s'=>R (.error e) s') s1') (notedBy (model prog w) A env fun e s'=>R (.error e) s') s1) (notedBy (model prog w) A env fun e s'=>R (.error e) s') s)
  (n:Nat) (h:J n s) :
  codeAny (model prog w) A (.compLoop (.ListComp elt [⟨target,iter,ifs,0⟩] scope pos) 0 it acc env) R s:=by
 refine codeAny_loop rfl J (fun n s hI=>?_) n h
 show wpAny _ A ((compTurn (.ListComp elt [⟨target,iter,ifs,0⟩] scope pos) 0 it acc env).onRaise (fun x=>do noteFrame x env; theTreesLotGoes x)) _ _ s
 refine wpAny_noted ?_
 rw [compTurn_list]
 refine wpAny_bind (wpAny_standAt (wpAny_bind (wpAny_mono (turn n s hI) (fun r s1 h1=>?_) fun _ _ h'=>h')))
 cases r with
 | none=>exact wpAny_pure h1
 | some v =>
  refine wpAny_bind (wpAny_mono h1 (fun _ s1' h1'=>?_) fun _ _ h'=>h')
  refine wpAny_bind (wpAny_mono h1' (fun _ s2 h2=>wpAny_bind (wpAny_mono h2 (fun ok s3 h3=>?_) fun _ _ h'=>h')) fun _ _ h'=>h')
  cases ok with
  | false=>exact wpAny_pure ⟨rfl,h3⟩
  | true =>
   exact wpAny_bind (wpAny_bind (wpAny_mono h3 (fun x s4 h4=>wpAny_bind (wpAny_mono h4 (fun _ s5 h5=>wpAny_pure (wpAny_pure ⟨rfl,h5⟩)) fun _ _ h'=>h')) fun _ _ h'=>h'))
def PTs (X:Cx) (ifs:yE) (t:TT):Prop :=
 ∀ (pins:yD) (s:Shared) (σ:St) (H:Hp) (Q:Bool→Hp→Prop),Inv X pins σ H s→t σ H Q →
  wpAny (model X.prog X.w) X.A (forIn ifs true fun c r=>if r=true then do let ok ← isTrue c X.env (eval c X.env); pure (ForInStep.yield ok) else pure (ForInStep.yield r)) (TP X pins σ Q) X.xe s
def tYes:TT:=fun _ H Q=>Q true H
theorem zQK {X:Cx}:PTs X [] tYes:=fun pins s σ H Q I h=>wpAny_tests_nil ⟨H,I,h⟩
theorem zQJ {X:Cx}{c:Expr}{t:TT} (h:PT X c t):PTs X [c] t:=fun pins s σ H Q I hw=>wpAny_tests_one (h pins s σ H Q I hw)
def zS4 (J:It) (D:Addr) (W:Nat→Nat→List V→Hp→Prop) (Q:Hp→Prop) (g:TG) (tc:TT) (te:TE) (σ0:St) (i m:Nat) (ys:List V) (H2:Hp):Prop :=
 H2 D=some (.lst ys)∧((J.stop i H2∧Q H2)∨(J.go i H2∧ys.length<sizeLine∧∀ x H3,J.yld i H2 x H3→g x σ0 H3 fun σ4 H4=>zIP σ0 σ4∧tc σ4 H4 fun b H5 =>
   if b=true then te σ4 H5 fun y H6=>H6 D=some (.lst ys)∧∃ m',m'<m∧W (i+1) m' (ys++[y]) (upd H6 D (.lst (ys++[y]))) else ∃ m',m'<m∧W (i+1) m' ys H5))
noncomputable def stC (k:Nat) (js:List Nat) (σ:St):St:=qL2 k Option.none++js.map fun j=>(σ[j]?).getD Option.none
def zQh (wi:TI) (k:Nat) (js:List Nat) (g:TG) (tc:TT) (te:TE):TE:=fun σ H Q =>
 wi σ H fun J H1=>∀ D,H1 D=none→∃ W:Nat→Nat→List V→Hp→Prop,(∃ m,W 0 m [] (upd H1 D (.lst [])))∧∀ i m ys H2,W i m ys H2→zS4 J D W (Q (.ref D)) g tc te (stC k js σ) i m ys H2
theorem zLY {k:Nat}{js:List Nat}{σ:St}{i:Nat}{v:V} (h:(stC k js σ)[i]?=some (some v)):∃ j,k≤i∧js[i - k]?=some j∧σ[j]?=some (some v):=by
 unfold stC at h
 by_cases hi:i<k
 ·rw [qA7 (by simpa using hi),qJ2] at h
  simp [hi] at h
 ·rw [qA0 (by simpa using hi),qI5,qB7] at h
  cases e:js[i - k]? with
  | none=>rw [e] at h; simp at h
  | some j =>
   rw [e] at h
   simp only [qP8,Option.some.injEq] at h
   refine ⟨j,by omega,rfl,?_⟩
   cases q:σ[j]? with
   | none=>rw [q] at h; simp at h
   | some z =>
    rw [q] at h
    simp at h
    rw [h]
theorem zEl {scope:Scope}{env:Env}{x:Str} (h:scope.names.lookup x=some .free):(relabel scope env).names.lookup x=some .cell∨(relabel scope env).names.lookup x=some .free:=by
 unfold relabel
 dsimp only
 generalize scope.names=ns at h
 induction ns with
 | nil=>cases h
 | cons a r ih =>
  obtain ⟨n,k⟩:=a
  rw [qD3] at h
  rw [qB9]
  cases hx:x == n with
  | true =>
   rw [hx] at h
   cases h
   dsimp only
   split
   ·exact .inl (by rw [qD3,hx])
   ·exact .inr (by rw [qD3,hx])
  | false =>
   rw [hx] at h
   dsimp only
   split
   ·rw [qD3,hx]; exact ih h
   ·rw [qD3,hx]; exact ih h
inductive CInv (Y:Cx) (σ0:St) (tn:Nat→Heap→Prop) (fp:yC) (W:Nat→Nat→List V→Hp→Prop) (n:Nat) (s:Shared):Prop
 | mk (i:Nat) (ys:List V) (H:Hp) (I:Inv Y [] σ0 H s) (st:tn i s.heap) (fr:∀ b∈fp,H b=none) (w:W i n ys H)
theorem zNm {Y:Cx}{elt iter tg:Expr}{ifs:yE}{scope:Scope}{pos:Pos}{g:TG}{tc:TT}{te:TE}{J:It}{fp:yC}{it D:Addr}{tn:Nat→Heap→Prop}{σ0:St}{W:Nat→Nat→List V→Hp→Prop}{Q:Hp→Prop}{R:Result→Shared→Prop}
  (hc:Y.calm=true) (hx:Y.xe=fun _ _=>False) (T:Turn Y.prog Y.w Y.K tg J fp it tn) (stat:∀ H',(∀ b∈fp,H' b=none)→∀ b∈fp,FpOk Y [] H' b)
  (hg:PG Y tg g) (htc:PTs Y ifs tc) (hte:PE Y elt te) (turn:∀ i m ys H2,W i m ys H2→zS4 J D W Q g tc te σ0 i m ys H2) (fin:∀ H4 s5,Inv Y [] σ0 H4 s5→Q H4→R (.ok .next) s5)
  {s:Shared}{n:Nat} (h0:CInv Y σ0 tn fp W n s) (st3:tn 0 s.heap):codeAny (model Y.prog Y.w) Y.A (.compStart (.ListComp elt [⟨tg,iter,ifs,0⟩] scope pos) 0 (.ref it) (.ref D) Y.env) R s:=by
 have loop:codeAny (model Y.prog Y.w) Y.A (.compLoop (.ListComp elt [⟨tg,iter,ifs,0⟩] scope pos) 0 (.ref it) (.ref D) Y.env) R s:=by
  refine zJE (CInv Y σ0 tn fp W) ?_ n h0
  rintro n s4 ⟨i,ys,H4,I4,st4,fr4,w4⟩
  obtain ⟨hD4,hd⟩:=turn i n ys H4 w4
  rcases hd with ⟨stop,q⟩ | ⟨go,hz,step⟩
  ·refine thn (T.done Y rfl rfl rfl hc i [] s4 _ H4 _ I4 (stat _ fr4) st4 stop) fun r s5 ⟨hr,I5⟩=>?_
   subst hr
   exact fin H4 s5 I5 q
  ·refine thn (T.item Y rfl rfl rfl hc i [] s4 _ H4 _ I4 (stat _ fr4) st4 go) fun r s5 ⟨u,hr,h5⟩=>?_
   subst hr
   refine thn h5 fun _ s6 ⟨x,H6,I6,r6,y6,st6,fr6⟩=>?_
   have I6':=I6.pinned (stat _ fr6) (T.obj _ _ st6)
   have back:∀ {σ7:St}{H7:Hp}{s7:Shared}{m:Nat}{zs:List V},Inv Y ([]++zHG fp s6.heap) σ7 H7 s7→zIP σ0 σ7→W (i+1) m zs H7→CInv Y σ0 tn fp W m s7:=fun {σ7 H7 s7 m zs} I7 hw w7=>by
    refine ⟨i+1,zs,H7,I7.unpinned.weak hw.1 hw.2,T.keep _ _ _ st6 fun b hb o e=>(I7.pin (b,o) (qD0 _ (qD0 _ (zCr hb e)))).1,fun b hb=>?_,w7⟩
    obtain ⟨o,e,d⟩:=T.obj _ _ st6 b hb
    exact (I7.pin (b,o) (qD0 _ (qD0 _ (zCr hb e)))).2.1
   have no:∀ {E:yL} (e:Value) (s':Shared),Y.xe e s'→E e s':=fun e s' z=>by rw [hx] at z; exact z.elim
   refine wpAny_mono (hg _ s6 _ H6 x u _ I6' r6 (step x H6 y6)) (fun _ s7 ⟨σ7,H7,I7,hw7,q7⟩=>?_) no
   refine wpAny_mono (htc _ s7 σ7 H7 _ I7 q7) (fun b s8 ⟨H8,I8,q8⟩=>?_) no
   cases b with
   | false =>
    obtain ⟨m',hm,w8⟩:=(show ∃ m',m'<n∧W (i+1) m' ys H8 by simpa using q8)
    rw [if_neg (by decide)]
    exact ⟨m',hm,back I8 hw7 w8⟩
   | true =>
    rw [if_pos rfl] at q8
    rw [if_pos rfl]
    refine wpAny_mono (hte _ s8 σ7 H8 _ I8 q8) (fun y s9 ⟨vy,H9,I9,r9,q9⟩=>?_) no
    obtain ⟨hD9,m',hm,w9⟩:=q9
    refine wpAny_mono (zHL (X:=Y) _ s9 σ7 H9 (.ref D) [vy] (.ref D) [y] (fun _ H'=>W (i+1) m' (ys++[vy]) H') I9 rfl (.cons r9 .nil) ⟨_,ys,vy,rfl,rfl,hD9,hz,w9⟩) (fun z s10 ⟨_,H10,I10,_,q10⟩=>?_) no
    exact ⟨m',hm,back I10 hw7 q10⟩
 exact codeAny_compStart_list loop (T.self _ 0 _ _ _ st3 loop)
theorem zLm {elt iter tg:Expr}{ifs:yE}{pos:Pos}{k:Nat}{js:List Nat}{J:It}{fp:yC}{it:Addr}{tn:Nat→Heap→Prop}{H2:Hp}{s2:Shared}{RR:Value→Addr→Result→Shared→Prop}
  (B:zLB X scope N k js) (I2:Inv X pins σ H2 s2) (T:Turn X.prog X.w X.K tg J fp it tn) (st2:tn 0 s2.heap) (f2:∀ b∈fp,FpOk X pins H2 b)
  (h:∀ (cl:List (Str × Addr)) (C:Addr) (s4:Shared),s2.heap.objs.size≤C→s2.heap.objs.size≠C→Inv (zBd X scope N cl s2 H2 C fp) [] (stC k js σ) (upd H2 s2.heap.objs.size (.lst [])) s4→tn 0 s4.heap →
   codeAny (model X.prog X.w) X.A (.compStart (.ListComp elt [⟨tg,iter,ifs,0⟩] scope pos) 0 (.ref it) (.ref s2.heap.objs.size) (compEnvC scope cl C X.env)) (RR (.ref s2.heap.objs.size) C) s4) :
  wpAny (model X.prog X.w) X.A (newList []) (fun acc s3=>wpAny (model X.prog X.w) X.A (newFunctionEnv scope X.env.globals (clOf X.env scope.names []) [] X.env.qual none .none (some X.env)) (fun cenv s4 =>
   codeAny (model X.prog X.w) X.A (.compStart (.ListComp elt [⟨tg,iter,ifs,0⟩] scope pos) 0 (.ref it) acc { cenv with scope:=relabel scope X.env }) (RR acc cenv.locals) s4) X.xe s3) X.xe s2:=by
 have hcell:∀ x,(x,NameKind.free)∈scope.names→∃ c,X.env.cells.lookup x=some c:=fun x hx=>I2.ok.has x (B.free x hx)
 refine wpAny_newObj_type (zFC ?_)
 dsimp only
 generalize hP:s2.heap.push { cls:=.type "list",dict:=none,data:=.seq ([]:yB).toArray }=P
 have hPs:P.objs.size=s2.heap.objs.size+1:=by rw [← hP,qG5]
 have hDC:s2.heap.objs.size≠P.objs.size:=by rw [hPs]; exact qC4 (qM0 _)
 have hCle:s2.heap.objs.size≤P.objs.size:=by rw [hPs]; exact qO1 _
 generalize hP2:P.push { cls:=.type "dict",data:=.dict #[] }=P2
 have hP2s:P2.objs.size=P.objs.size+1:=by rw [← hP2,qG5]
 have hns1:(pushCells P2 scope.names).Ns P.objs.size (fun _=>none):=(hP2▸Heap.Ns.new P (.type "dict")).keeps (pushCells_keeps _ _)
 have old:∀ b o,s2.heap.get? b=some o→(pushCells P2 scope.names).get? b=some o:=fun b o e=>pushCells_keeps _ _ _ _ (hP2▸qA3 _ (hP▸qA3 _ e))
 have hacc:(pushCells P2 scope.names).get? s2.heap.objs.size=some { cls:=.type "list",dict:=none,data:=.seq ([]:yB).toArray }:=pushCells_keeps _ _ _ _ (hP2▸qA3 _ (hP▸qB3 _ rfl))
 have hfx:∀ b∈fp,b<s2.heap.objs.size:=fun b hb=>by
  obtain ⟨o,e,_⟩:=T.obj _ _ st2 b hb
  exact qB5 e
 have ok:=I2.compOk (N:=N) (C:=P.objs.size) (ex:=fp) B.kind hcell hP2s hCle f2 hfx
 refine h (cellsFrom P2.objs.size scope.names (clOf X.env scope.names [])) P.objs.size _ hCle hDC ?_ (T.keep _ _ _ st2 fun b _ o e=>old b o e)
 refine ⟨ok,rfl,I2.bare,Un.laid old (qA9 _) (I2.hok.fresh (qA9 _)),⟨_,hns1,fun i x v e1 e2 e3=>?_⟩,fun x c e=>?_,?_,fun x c e=>?_,fun p hp=>(by cases hp),I2.hok.laid old (qA9 _) ?_,?_⟩
 ·obtain ⟨j,hki,hj,hv⟩:=zLY e2
  obtain ⟨y,n1,n2,n3,n4⟩:=B.js _ j hj
  have ei:k+(i - k)=i:=by omega
  rw [ei] at n1
  have e1':N[i]?=some x:=e1
  rw [n1] at e1'
  cases e1'
  obtain ⟨m,hn,hl⟩:=I2.loc
  obtain ⟨u,r,lk⟩:=hl j x v n2 hv n4
  refine ⟨u,r,?_⟩
  have mem:=zDz n3
  rcases lk with ⟨kk,_⟩ | ⟨kk,c,ec,ce⟩
  ·rcases B.free x mem with z | z
   ·rw [z] at kk; cases kk
   ·rw [z] at kk; cases kk
  ·obtain ⟨c0,ec0⟩:=zDr scope.names P2.objs.size _ (.inr (zDQ (env:=X.env) scope.names [] x (.inr ⟨mem,c,ec⟩)))
   have hc0:c0=c:=by
    rcases zBi _ _ _ ec0 with ⟨q,_⟩ | ⟨_,q⟩
    ·have:=B.cell x q; rw [n3] at this; cases this
    ·have:=zIk q; rw [ec] at this; cases this; rfl
   subst hc0
   refine .inr ⟨zEl n3,c0,ec0,?_⟩
   obtain ⟨o,ho,hd⟩:=ce
   exact ⟨o,old _ _ ho,hd⟩
 ·rcases zBi _ _ _ e with ⟨_,_,q⟩ | ⟨_,q⟩
  ·exact ⟨_,q⟩
  ·obtain ⟨v,o,ho,hd⟩:=I2.cell x c (zIk q)
   exact ⟨v,o,old _ _ ho,hd⟩
 ·show upd H2 s2.heap.objs.size (.lst []) P.objs.size=none
  rw [zAb (Ne.symm hDC)]
  exact I2.hok.fresh hCle
 ·rcases zBi _ _ _ e with ⟨_,q,_⟩ | ⟨_,q⟩
  ·have hlt:s2.heap.objs.size<c:=qC1 (by rw [hP2s,hPs]; omega) q
   rw [zAb (qJ3 hlt)]
   exact I2.hok.fresh (qH3 hlt)
  ·obtain ⟨v,o,ho,hd⟩:=I2.cell x c (zIk q)
   rw [zAb (qC4 (qB5 ho))]
   exact I2.freeC x c (zIk q)
 ·exact ⟨qG0 _,[],_,.nil,hacc⟩
 ·unfold stC
  rw [qB1,qI5,qA6]
  exact B.len.symm
theorem zKB {elt iter tg:Expr}{ifs:yE}{pos:Pos}{k:Nat}{js:List Nat}{g:TG}{tc:TT}{te:TE}{J:It}{fp:yC}{it:Addr}{tn:Nat→Heap→Prop}{H2:Hp}{s2:Shared}{RR:Value→Addr→Result→Shared→Prop}{Q:V→Hp→Prop}
  (B:zLB X scope N k js) (I2:Inv X pins σ H2 s2) (T:Turn X.prog X.w X.K tg J fp it tn) (st2:tn 0 s2.heap) (f2:∀ b∈fp,FpOk X pins H2 b)
  (hg:∀ cl s H C ex,PG (zBd X scope N cl s H C ex) tg g) (htc:∀ cl s H C ex,PTs (zBd X scope N cl s H C ex) ifs tc) (hte:∀ cl s H C ex,PE (zBd X scope N cl s H C ex) elt te)
  (hW:∀ D,H2 D=none→∃ W:Nat→Nat→List V→Hp→Prop,(∃ m,W 0 m [] (upd H2 D (.lst [])))∧∀ i m ys H2,W i m ys H2→zS4 J D W (Q (.ref D)) g tc te (stC k js σ) i m ys H2)
  (fin:∀ cl C H4 s5,s2.heap.objs.size≤C→s2.heap.objs.size≠C→Inv (zBd X scope N cl s2 H2 C fp) [] (stC k js σ) H4 s5→Q (.ref s2.heap.objs.size) H4→RR (.ref s2.heap.objs.size) C (.ok .next) s5) :
  wpAny (model X.prog X.w) X.A (newList []) (fun acc s3=>wpAny (model X.prog X.w) X.A (newFunctionEnv scope X.env.globals (clOf X.env scope.names []) [] X.env.qual none .none (some X.env)) (fun cenv s4 =>
   codeAny (model X.prog X.w) X.A (.compStart (.ListComp elt [⟨tg,iter,ifs,0⟩] scope pos) 0 (.ref it) acc { cenv with scope:=relabel scope X.env }) (RR acc cenv.locals) s4) X.xe s3) X.xe s2:=by
 obtain ⟨W,⟨m0,w0⟩,turn⟩:=hW s2.heap.objs.size (I2.hok.fresh (qA9 _))
 refine zLm B I2 T st2 f2 fun cl C s4 h1 h2 I4 st4=>?_
 refine zNm (Y:=zBd X scope N cl s2 H2 C fp) B.calm rfl T (fun H' hn b hb=>⟨hn b hb,(I4.ok.exf b hb).1,I4.ok.exfs b hb,.inl hb,(I4.ok.exf b hb).2,fun p hp=>by cases hp⟩) (hg _ _ _ _ _) (htc _ _ _ _ _) (hte _ _ _ _ _) turn (fun H4 s5 I5 q=>fin cl C H4 s5 h1 h2 I5 q) (n:=m0) ⟨0,[],_,I4,st4,fun b hb=>?_,w0⟩ st4
 obtain ⟨o,e,_⟩:=T.obj _ _ st2 b hb
 rw [zAb (qC4 (qB5 e))]
 exact (f2 b hb).1
theorem zQX {elt iter tg:Expr}{ifs:yE}{pos:Pos}{wi:TI}{g:TG}{tc:TT}{te:TE}{k:Nat}{js:List Nat} (B:zLB X scope N k js) (hi:PI X tg iter wi)
  (hg:∀ cl s H C ex,PG (zBd X scope N cl s H C ex) tg g) (htc:∀ cl s H C ex,PTs (zBd X scope N cl s H C ex) ifs tc) (hte:∀ cl s H C ex,PE (zBd X scope N cl s H C ex) elt te)
  (hs:∀ x,foldedSetIterable iter X.env x=pure x:=by intro _; rfl):PE X (.ListComp elt [⟨tg,iter,ifs,0⟩] scope pos) (zQh wi k js g tc te):=by
 intro pins s σ H Q I h
 rw [eval_ListComp]
 refine wpAny_comprehension_free (use:=none) rfl hs (zDP fun x hx=>I.ok.has x (B.free x hx)) B.kind B.names (thn (hi pins s σ H _ I h) fun v s1 h1=>thn h1 fun itv s2 h2=>?_)
 obtain ⟨it,fp,tn,J,H2,e,I2,T,st2,f2,hW⟩:=h2
 subst e
 refine zKB B I2 T st2 f2 hg htc hte hW fun cl C H4 s5 hCle hDC I5 q=>?_
 obtain ⟨m,hn,_⟩:=id I5.loc
 have hC4:H4 C=none:=I5.free
 refine ⟨m,hn,fun h' hs'=>⟨.ref s2.heap.objs.size,H4,?_,rfl,q⟩⟩
 have bl:∀ b o,s2.heap.get? b=some o→b≠C:=fun b o e=>qC4 (qC1 (qB5 e) hCle)
 refine I2.call' (s':={ s5 with heap:=h' }) (ch:=fp) I5.os ?_ (fun b u e=>?_) I5.bare (fun b hb=>⟨(f2 b hb).2.2.2.1,(f2 b hb).2.1,(f2 b hb).2.2.2.2.1,(f2 b hb).2.2.2.2.2⟩)
 ·have U:=I5.base
  exact ⟨fun b o e n hb hx=>(hs'.2 b (bl b o e)).trans (U.keep b o e n hb hx),fun b o e n hb hx=>by
    obtain ⟨sl,z⟩:=U.slot b o e n hb hx
    exact ⟨sl,(hs'.2 b (bl b o e)).trans z⟩,U.free,fun b o e hx=>by
    obtain ⟨o',z⟩:=U.there b o e hx
    exact ⟨o',(hs'.2 b (bl b o e)).trans z⟩,U.tups,U.frzs,U.tbls⟩
 ·refine (I5.hok b u e).stay (fun c w' hcc q'=>(hs'.2 c ?_).trans q') (fun _ q'=>q') fun _ _ q'=>q'
  rintro rfl
  rcases hcc with rfl | hcc
  ·rw [hC4] at e; cases e
  ·rw [hC4] at hcc; cases hcc
end
theorem zGn {H:Hp}{p:Addr} (h:H p=none) (o:HO):Same H (upd H p o):=fun b u q=>by rw [zAb (zAx q h)]; exact q
theorem Same.tup {K:W.Frag}{H H':Hp}{a:Addr}{xs:List V} (e:Same H H') (h:SqT K H a xs):SqT K H' a xs:=by
 rcases h with (h | ⟨o,h⟩) | h
 ·exact .inl (.inl (e _ _ h))
 ·exact .inl (.inr ⟨o,e _ _ h⟩)
 ·exact .inr h
section
variable {X:Cx}{pins:yD}{σ:St}{H:Hp}{s:Shared}
theorem Inv.yields {wr:yC}{h':Heap}{tk:Nat}{T:Addr}{xs:List V}{its:yB} (I:Inv X pins σ H s) (hf:∀ b∈wr,FpOk X pins H b) (k:∀ b o,b∉wr→s.heap.get? b=some o→h'.get? b=some o)
  (hT:s.heap.objs.size≤T) (r:Vals xs its) (hz:xs.length≤sizeLine) (ht:IsTup h' T its.toArray):Inv X pins σ (upd H T (.tup xs)) { s with heap:=h',toks:=tk }:=by
 have nT:∀ b o,s.heap.get? b=some o→b≠T:=fun b o e=>qC4 (qC1 (qB5 e) hT)
 have hH:∀ b u,H b=some u→b≠T:=fun b u e=>qC4 (qC1 (I.hok.lt e) hT)
 have nw:∀ b u,H b=some u→b∉wr:=fun b u e hb=>by rw [(hf b hb).1] at e; cases e
 refine I.call' (s':={ s with heap:=h',toks:=tk }) (ch:=wr) rfl ⟨fun b o e n _ hx=>k b o hx e,fun b o e n _ hx=>⟨o.slots,k b o hx e⟩,fun b o e n _=>?_,fun b o e hx=>⟨o,k b o hx e⟩,fun b ys e=>?_,fun b o u e=>?_,fun b ps e=>⟨#[],?_⟩⟩ (fun b u e=>?_) I.bare
  (fun b hb=>⟨(hf b hb).2.2.2.1,(hf b hb).2.1,(hf b hb).2.2.2.2.1,(hf b hb).2.2.2.2.2⟩)
 ·rw [zAb (nT b o e)]; exact n
 ·rw [zAb (hH b _ e)]; exact e
 ·rw [zAb (hH b _ e)]; exact e
 ·rw [zAb (hH b _ e),e]; simp
 ·by_cases hb:b=T
  ·subst hb
   rw [zAi] at e
   cases e
   exact ⟨hz,its,r,ht⟩
  ·rw [zAb hb] at e
   refine (I.hok b u e).stay (fun c v hc q=>k c v ?_ q) (fun c q=>?_) fun c ys q=>?_
   ·rcases hc with rfl | hc
    ·exact nw _ _ e
    ·exact nw _ _ hc
   ·rw [zAb (hH c _ q)]; exact q
   ·rw [zAb (hH c _ q)]; exact q
theorem Inv.turnedL {wr:yC}{h':Heap}{tk:Nat} (I:Inv X pins σ H s) (hf:∀ b∈wr,FpOk X pins H b) (k:∀ b o,b∉wr→s.heap.get? b=some o→h'.get? b=some o):Inv X pins σ H { s with heap:=h',toks:=tk }:=by
 have nw:∀ b u,H b=some u→b∉wr:=fun b u e hb=>by rw [(hf b hb).1] at e; cases e
 refine I.call' (s':={ s with heap:=h',toks:=tk }) (ch:=wr) rfl ⟨fun b o e n _ hx=>k b o hx e,fun b o e n _ hx=>⟨o.slots,k b o hx e⟩,fun b o e n _=>n,fun b o e hx=>⟨o,k b o hx e⟩,fun b ys e=>e,fun b o u e=>e,fun b ps e=>⟨#[],by rw [e]; simp⟩⟩ (fun b u e=>?_) I.bare
  (fun b hb=>⟨(hf b hb).2.2.2.1,(hf b hb).2.1,(hf b hb).2.2.2.2.1,(hf b hb).2.2.2.2.2⟩)
 refine (I.hok b u e).stay (fun c v hc q=>k c v ?_ q) (fun c q=>q) fun c ys q=>q
 rcases hc with rfl | hc
 ·exact nw _ _ e
 ·exact nw _ _ hc
end
section
variable {X:Cx}
theorem zFn:zAW X (.type "range") (fun vs H Q=>∃ i j:Int,vs=[.int i,.int j]∧∀ p,H p=none→Q (.ref p) (upd H p (.rng i j))):=by
 intro pins s σ H xs us Q I r h
 obtain ⟨i,j,rfl,q⟩:=h
 obtain ⟨u,v,rfl,ru,rv⟩:=zNX r
 obtain ⟨t,rfl⟩:=ru
 obtain ⟨t',rfl⟩:=rv
 refine call_range_2 ⟨.ref s.heap.objs.size,_,I.laid (o:=.rng i j) (fun b o e=>qA3 _ e) (qA9 _) ?_,rfl,q _ (I.hok.fresh (qA9 _))⟩
 exact ⟨_,_,_,qB3 _ rfl⟩
theorem zFo:zAW X (.type "range") (fun vs H Q=>∃ j:Int,vs=[.int j]∧∀ p,H p=none→Q (.ref p) (upd H p (.rng 0 j))):=by
 intro pins s σ H xs us Q I r h
 obtain ⟨j,rfl,q⟩:=h
 obtain ⟨u,rfl,ru⟩:=zCR r
 obtain ⟨t,rfl⟩:=ru
 refine call_range_1 ⟨.ref s.heap.objs.size,_,I.laid (o:=.rng 0 j) (fun b o e=>qA3 _ e) (qA9 _) ?_,rfl,q _ (I.hok.fresh (qA9 _))⟩
 exact ⟨_,_,_,qB3 _ rfl⟩
noncomputable def upV (lo:Int) (n:Nat):List V:=(List.range n).map fun k=>V.int (lo+(k:Nat))
theorem zLJ {lo:Int}{n:Nat}{acc:yJ} (h:ItemsOf (fun i v=>∃ t,v=.int (lo+i*1) t) acc n):Vals (upV lo n) acc.toList:=by
 obtain ⟨hs,h⟩:=h
 have key:∀ (k:Nat) (us:yB) (lo:Int),us.length=k→(∀ (i:Nat) (v:Value),us[i]?=some v→∃ t,v=Value.int (lo+(i:Nat)) t)→Vals ((List.range k).map fun j=>V.int (lo+(j:Nat))) us:=by
  intro k
  induction k with
  | zero=>intro us lo hl _; cases us with
   | nil=>exact .nil
   | cons a r=>simp at hl
  | succ k ih =>
   intro us lo hl hh
   cases us with
   | nil=>simp at hl
   | cons a r =>
    rw [qL4,qB9,qE2]
    refine .cons ?_ ?_
    ·obtain ⟨t,e⟩:=hh 0 a rfl
     exact ⟨t,e⟩
    ·have:=ih r (lo+1) (by simpa using hl) fun i v e=>by
      obtain ⟨t,q⟩:=hh (i+1) v (by simpa using e)
      exact ⟨t,by rw [q]; congr 1; omega⟩
     have e:((fun (j:Nat)=>V.int (lo+(j:Nat)))∘Nat.succ)=fun (j:Nat)=>V.int (lo+1+(j:Nat)):=by
      funext j
      simp only [Function.comp]
      congr 1
      omega
     rw [e]
     exact this
 exact key n acc.toList lo (by simpa using hs) fun i v e=>by
  obtain ⟨t,q⟩:=h i v (by simpa using e)
  exact ⟨t,by rw [q,Int.mul_one]⟩
theorem zH0 (hc:X.calm=true):zAW X (.type "list") (fun vs H Q=>∃ p i j,vs=[.ref p]∧H p=some (.rng i j)∧-(2 ^ 62)≤i∧i<2 ^ 62∧-(2 ^ 62)≤j∧j<2 ^ 62∧(j - i).toNat≤1000∧∀ l,H l=none→Q (.ref l) (upd H l (.lst (upV i (j - i).toNat)))):=by
 intro pins s σ H xs us Q I r h
 obtain ⟨p,i,j,rfl,hp,b1,b2,b3,b4,hn,q⟩:=h
 obtain ⟨u,rfl,ru⟩:=zCR r
 cases ru
 obtain ⟨t,u,v,e⟩:=(show zBA X.prog X.w H s.heap p (.rng i j) from I.hok _ _ hp)
 refine call_list_range (n:=(j - i).toNat) (I.ok.hd hc) (show IsRange s.heap p i j 1 t u v from e) (small_one b1 b2 b3 b4) (by rw [rangeSize_one]; split <;> omega) (qC5 hn (by decide)) fun h' tk acc' c' hk he hi=>?_
 have hv:=zLJ hi
 refine ⟨.ref s.heap.objs.size,_,I.laid (o:=.lst (upV i (j - i).toNat)) hk (qA9 _) ⟨?_,acc'.toList,c',hv,by simpa using he⟩,rfl,q _ (I.hok.fresh (qA9 _))⟩
 unfold upV
 rw [qA6,qO2]
 exact qC5 hn (by decide)
def zQF:V→List V→Hp→VK→Prop:=fun x vs H Q=>∃ (l:Addr) (xs:List V) (i:Nat) (y:V),x=.ref l∧vs=[.int i,y]∧H l=some (.lst xs)∧xs.length<1000∧i≤xs.length∧Q .non (upd H l (.lst (xs.take i++y::xs.drop i)))
theorem zMA:MtM X "list.insert" zQF:=by
 intro pins s σ H x vs v us Q I rx rv h
 obtain ⟨l,xs,i,y,rfl,rfl,hH,hz,hi,q⟩:=h
 cases rx
 obtain ⟨u1,u2,rfl,r1,r2⟩:=rv.two
 obtain ⟨t,rfl⟩:=r1
 obtain ⟨z,its,n,r,hl,e⟩:=I.lstM hH
 generalize hx:((i:Nat):Int)=x
 have hx0:0≤x:=by omega
 have hx1:x.toNat=i:=by omega
 have hfit:¬ (!Builtin.List.listFitsIndex x)=true:=by
  rw [fitsIndex_both (by omega) (by omega)]
  exact qB2
 have hsz:its.toArray.size≤sizeLine:=by rw [qB0,← hl]; exact z
 refine call_meets F.slot_list_insert ⟨_,e,rfl⟩ F.entry_list_insert (F.args_list_insert_3 _ _ _) (PySem.AutoSeq1.list_insert_list_int_val_1 l _ n x t u2 hfit hsz) ⟨e,?_⟩
 refine ⟨.non,_,I.lset (its':=its.take i++u2::its.drop i) hH e ?_ ((r.take i).append (.cons r2 (r.drop i))) ?_,rfl,q⟩
 ·have hk:(if x<0 then (x+((its.toArray.size:Nat):Int)).toNat else min x.toNat its.toArray.size)=i:=by
   rw [if_neg (by omega),qB0]
   omega
  show (its.toArray.extract 0 (if x<0 then (x+((its.toArray.size:Nat):Int)).toNat else min x.toNat its.toArray.size)).push u2++its.toArray.extract (if x<0 then (x+((its.toArray.size:Nat):Int)).toNat else min x.toNat its.toArray.size)=_
  rw [hk]
  apply Array.ext'
  simp
  exact qE3 (by rw [qI2]; exact qA9 _)
 ·rw [qB1,qC3,qH1,qI2]
  have:(1000:Nat)≤sizeLine:=by decide
  omega
theorem zEE {A:Around}{prog:Program}{w:World}{bs:List Bool}{its:yB} (r:Vals (bs.map V.bl) its):TruthOf prog w A (fun i v=>its.toArray[i]?=some v) (fun i=>bs.getD i false):=by
 intro i v s Q E hv hq
 have hv':its[i]?=some v:=by simpa using hv
 have hl:i<bs.length:=by
  have h1:=(qA4.mp hv').1
  have h2:=r.length
  rw [qA6] at h2
  omega
 obtain ⟨u,e,ru⟩:=Vals.get r (i:=i) (x:=.bl bs[i]) (by rw [qB7,qA5 hl]; rfl)
 rw [e] at hv'
 cases hv'
 have ru':v=Value.bool bs[i]:=ru
 subst ru'
 have eq:bs.getD i false=bs[i]:=by simp [qM1,hl]
 have hq':Q (bs.getD i false) s:=hq
 rw [eq] at hq'
 exact wpAny_truthy_bool hq'
theorem zHE (bs:List Bool):(List.range bs.length).all (fun i=>bs.getD i false)=bs.all id:=by
 induction bs with
 | nil=>rfl
 | cons b r ih =>
  rw [qC3,qL4,qJ8,qL5,qJ8]
  show (b&&(List.range r.length).all ((fun i=>(b::r).getD i false)∘Nat.succ))=(b&&r.all id)
  rw [← ih]
  rfl
theorem zHD (bs:List Bool):(List.range bs.length).any (fun i=>bs.getD i false)=bs.any id:=by
 induction bs with
 | nil=>rfl
 | cons b r ih =>
  rw [qC3,qL4,qH4,qP2,qH4]
  show (b||(List.range r.length).any ((fun i=>(b::r).getD i false)∘Nat.succ))=(b||r.any id)
  rw [← ih]
  rfl
theorem zNA (hc:X.calm=true):zAW X (.builtin "all") (fun vs H Q=>∃ (p:Addr) (bs:List Bool),vs=[.ref p]∧SqL X.K H p (bs.map V.bl)∧Q (.bl (bs.all id)) H):=by
 intro pins s σ H xs us Q I r h
 obtain ⟨p,bs,rfl,hq,q⟩:=h
 obtain ⟨u,rfl,ru⟩:=zCR r
 cases ru
 obtain ⟨its,rv,pl,hz⟩:=I.list hq
 have hlt:p<s.heap.objs.size:=by obtain ⟨_,e,_⟩:=pl.isList; exact qB5 e
 have hlen:=rv.length
 rw [qA6] at hlen
 refine call_all_walk (wpAny_pyIter_list pl.isList ?_)
 refine ⟨s.heap.objs.size,_,[s.heap.objs.size],_,_,_,_,rfl,Walks.list (A:=X.A.in1) (show X.A.in1.handled=none from I.ok.hd hc) s.heap.objs.size p (qC4 hlt) its.toArray,⟨⟨_,qB3 _ rfl,rfl,rfl⟩,pl.isList.push _⟩,zEE rv,fun h' tk kk=>?_⟩
 have e:(List.range its.toArray.size).all (fun i=>bs.getD i false)=bs.all id:=by rw [qB0,← hlen]; exact zHE bs
 rw [e]
 refine ⟨.bl (bs.all id),H,?_,rfl,q⟩
 exact I.kept (t':=tk) fun b o eb=>kk b o (by simp only [qA8]; exact qC4 (qB5 eb)) (qA3 _ eb)
theorem zNy (hc:X.calm=true):zAW X (.builtin "any") (fun vs H Q=>∃ (p:Addr) (bs:List Bool),vs=[.ref p]∧SqL X.K H p (bs.map V.bl)∧Q (.bl (bs.any id)) H):=by
 intro pins s σ H xs us Q I r h
 obtain ⟨p,bs,rfl,hq,q⟩:=h
 obtain ⟨u,rfl,ru⟩:=zCR r
 cases ru
 obtain ⟨its,rv,pl,hz⟩:=I.list hq
 have hlt:p<s.heap.objs.size:=by obtain ⟨_,e,_⟩:=pl.isList; exact qB5 e
 have hlen:=rv.length
 rw [qA6] at hlen
 refine call_any_walk (wpAny_pyIter_list pl.isList ?_)
 refine ⟨s.heap.objs.size,_,[s.heap.objs.size],_,_,_,_,rfl,Walks.list (A:=X.A.in1) (show X.A.in1.handled=none from I.ok.hd hc) s.heap.objs.size p (qC4 hlt) its.toArray,⟨⟨_,qB3 _ rfl,rfl,rfl⟩,pl.isList.push _⟩,zEE rv,fun h' tk kk=>?_⟩
 have e:(List.range its.toArray.size).any (fun i=>bs.getD i false)=bs.any id:=by rw [qB0,← hlen]; exact zHD bs
 rw [e]
 refine ⟨.bl (bs.any id),H,?_,rfl,q⟩
 exact I.kept (t':=tk) fun b o eb=>kk b o (by simp only [qA8]; exact qC4 (qB5 eb)) (qA3 _ eb)
theorem zOD:OpR X (compareOp .Is) (fun x y H Q=>∃ a b,x=.bl a∧y=.bl b∧Q (.bl (a == b)) H):=by
 intro pins s σ H x y v u Q I rx ry h
 obtain ⟨a,b,rfl,rfl,q⟩:=h
 cases rx
 cases ry
 exact is_bool ⟨.bl (a == b),H,I,rfl,q⟩
theorem zJa:OpR X (compareOp .IsNot) (fun x y H Q=>∃ a b,x=.bl a∧y=.bl b∧Q (.bl (a != b)) H):=by
 intro pins s σ H x y v u Q I rx ry h
 obtain ⟨a,b,rfl,rfl,q⟩:=h
 cases rx
 cases ry
 exact isnot_bool ⟨.bl (a != b),H,I,rfl,q⟩
end
section
variable {X:Cx}
def zSV (K:W.Frag):R2:=fun x y H Q=>∃ a b xs ys,x=.ref a∧y=.ref b∧H a=some (.tup xs)∧H b=some (.tup ys)∧xs.length+ys.length≤sizeLine∧∀ p H1,Same H H1→H1 p=some (.tup (xs++ys))→Q (.ref p) H1
theorem zOE:OpR X (binaryOp .Add) (zSV X.K):=by
 intro pins s σ H x y v u Q I rx ry h
 obtain ⟨a,b,xs,ys,rfl,rfl,ha,hb,hz,q⟩:=h
 by_cases hx:xs=[]
 ·subst hx
  cases rx
  cases ry
  obtain ⟨its,r1,p1,_⟩:=I.tuple (SqT.of ha)
  obtain ⟨its2,r2,p2,_⟩:=I.tuple (SqT.of hb)
  have e:its=[]:=(r1.nil_iff).mpr rfl
  subst e
  obtain ⟨⟨cls,dd,data,sl⟩,ho,hc,n,hd⟩:=id p1
  obtain ⟨⟨cls2,dd2,data2,sl2⟩,ho2,hc2,n2,hd2⟩:=id p2
  simp only at hc hd hc2 hd2
  subst hc hd hc2 hd2
  exact concat_meets ⟨_,ho,rfl⟩ ⟨_,ho2,rfl⟩ noFill_tuple_add seq_tuple_add PySem.F.slot_tuple_add PySem.F.entry_tuple_add (PySem.F.args_tuple_add_2 _ _)
   (tuple_addW0 a b ([]:yB).toArray its2.toArray n n2 dd dd2 sl sl2 (by simp)) ⟨ho,ho2,⟨.ref b,H,I,rfl,q b H (Same.refl H) hb⟩⟩
 ·refine zR3 pins s σ H (.ref a) (.ref b) v u Q I rx ry ⟨a,b,xs,ys,rfl,rfl,SqT.of ha,SqT.of hb,hx,hz,fun e=>?_,fun _ p hp=>q p _ (zGn hp _) zAi⟩
  subst e
  exact q a H (Same.refl H) (by rw [qI6]; exact ha)
theorem zLl (xs:List V) (lo hi:yG) (h:HT.sIx xs.length 0 lo=0∧HT.sIx xs.length xs.length hi=xs.length):cutV xs lo hi=xs:=by
 unfold cutV
 rw [h.1,h.2,qN7,Nat.sub_zero,qK3]
theorem zDC {prog:Program}{w:World}{A:Around}{E:yL}{s:Shared}{t sl:Addr}{items:yJ}{vl vu:Value}{lo hi:yG}{Q:yL} (ht:IsTup s.heap t items) (hs:s.heap.IsSliceOf sl vl vu .none) (pl:IsPart vl lo) (pu:IsPart vu hi)
  (hw:HT.sIx items.size 0 lo=0∧HT.sIx items.size items.size hi=items.size)
  (h:Q (.ref t) s):wpAny (model prog w) A (getItem (.ref t) (.ref sl)) Q E s:=by
 obtain ⟨os,hos,hcs,hds⟩:=id hs
 have hTs:s.TypeIs (.ref sl) "slice":=⟨os,hos,hcs⟩
 unfold getItem
 try with_reducible refine wpAny_holding ?_
 first | refine wpAny_bind (wpAny_pure ?_) | skip
 refine wpAny_bind (wpAny_sequenceKey ht.typeIs (by decide) ?_)
 refine wpAny_bind (wpAny_callSpecial?_slot (name:=Str.ofString "__getitem__") ht.typeIs PyProof.Rows.slot_tuple_getitem
  (wpAny_call_entry PyProof.Rows.slot_tuple_getitem ht.typeIs entry_tuple_getitem ?_ (args_tuple_getitem _ _)))
 show wpAny _ _ (Builtin.Tuple.tupleItemsOf (.ref t) >>= _) _ _ s
 refine wpAny_bind (tupleItemsOf_ ht ?_)
 refine wpAny_bind (wpAny_typeOf hTs ?_)
 rw [if_pos (by decide)]
 refine wpAny_bind (HT.sliceApplied_gen hs pl pu ?_)
 have hyes:(((HT.sIx items.size 0 lo:Nat):Int) == 0&&(1:Int) == 1&&(HT.sIx items.size items.size hi - HT.sIx items.size 0 lo) == items.size)=true:=by
  rw [hw.1,hw.2]
  simp
 show wpAny _ _ (if (((HT.sIx items.size 0 lo:Nat):Int) == 0&&(1:Int) == 1&&(HT.sIx items.size items.size hi - HT.sIx items.size 0 lo) == items.size)=true then _ else _) _ _ s
 rw [if_pos hyes]
 have hEx:Builtin.Tuple.tupleIsExact (Value.ref t)=(typeOf (Value.ref t) >>= fun c=>pure (c == .type "tuple")):=rfl
 rw [hEx]
 refine wpAny_bind (wpAny_bind (wpAny_typeOf ht.typeIs (wpAny_pure ?_)))
 rw [if_pos (by decide)]
 exact wpAny_bind (wpAny_rule (wpAny_pure ⟨_,rfl,wpAny_pure h⟩))
def zW1 (K:W.Frag):V→yG→yG→Hp→VK→Prop:=fun x lo hi H Q=>∃ a xs,x=.ref a∧H a=some (.tup xs)∧∀ p H1,Same H H1→H1 p=some (.tup (cutV xs lo hi))→Q (.ref p) H1
theorem zQr:SlR X (zW1 X.K):=by
 intro pins s σ H x v vl vu lo hi sl Q I rx hs pl pu h
 obtain ⟨a,xs,rfl,hx,q⟩:=h
 by_cases hw:HT.sIx xs.length 0 lo=0∧HT.sIx xs.length xs.length hi=xs.length
 ·cases rx
  obtain ⟨its,r,ht,hz⟩:=I.tuple (SqT.of hx)
  have hlen:its.toArray.size=xs.length:=by rw [qB0]; exact r.length.symm
  refine ⟨"tuple",_,PyProof.Rows.slot_tuple_getitem.lookup,ht.typeIs,?_⟩
  exact zDC ht hs pl pu (by rw [hlen]; exact hw) ⟨.ref a,H,I,rfl,q a H (Same.refl H) (by rw [zLl xs lo hi hw]; exact hx)⟩
 ·exact zSz pins s σ H (.ref a) v vl vu lo hi sl Q I rx hs pl pu ⟨a,xs,rfl,SqT.of hx,hw,fun p hp=>q p _ (zGn hp _) zAi⟩
end
structure zGi (P:Program) (w:World) (K:W.Frag) (mg:Str→yF) (base:Heap) (x:Str) (ps:yH) (k:Nat) (sp:Sp):Prop where
 ex:∃ f fd,FnOk P w K mg base CX0 k f fd ps sp∧zHf K fd ps []∧W.keepIn K (.ref f)=true∧mg x=some (.ref f)
section
variable {X:Cx}{a b c d:Expr}{ta tb tc td:TE}{pos:Pos}
theorem zOz {x:Str}{ps:yH}{k k':Nat}{sp:Sp}{e:Expr}{es:yE}{t:TA}{p:Pos} (C:zGi X.prog X.w X.K X.mg X.base x ps k sp) (hr:Room k' X.A) (hg:Gl X x) (ha:PA X (e::es) t) (hk:k≤k':=by decide) (hdb:(x == ("__debug__":Str))=false:=by decide)
  (h1:starEach (e::es) X.env=(false,eval e X.env)::starEach es X.env:=by rfl) (h2:(backTo pos (starEach es X.env)).any (·.1)=false:=by rfl) :
  PE X (.Call (.Name x p) (e::es) [] pos) (zQi sp [] E0 t):=by
 obtain ⟨f,fd,F,hb,hkp,hm⟩:=C.ex
 exact zQZ (hdb:=hdb) (he:=h1) (hpl:=h2) F (hr.mono hk) hg hm hkp hb .nil zWc ha
end
def TK (K:W.Frag) (H H':Hp):Prop:=∀ p xs,SqT K H p xs→SqT K H' p xs
theorem TK.refl (K:W.Frag) (H:Hp):TK K H H:=fun _ _ h=>h
theorem TK.trans {K:W.Frag}{H H1 H2:Hp} (a:TK K H H1) (b:TK K H1 H2):TK K H H2:=fun p xs h=>b p xs (a p xs h)
theorem dT {p:Prop} [Decidable p] (h:p):decide p=true:=decide_eq_true h
theorem zUM:bootBuiltins "len"=some (.builtin "len"):=by decide +kernel
theorem zKG:bootBuiltins "range"=some (.type "range"):=by decide +kernel
theorem zJP:bootBuiltins "list"=some (.type "list"):=by decide +kernel
theorem zH3:bootBuiltins "tuple"=some (.type "tuple"):=by decide +kernel
theorem zUK:bootBuiltins "min"=some (.builtin "min"):=by decide +kernel
theorem zUL:bootBuiltins "max"=some (.builtin "max"):=by decide +kernel
theorem zUI:bootBuiltins "zip"=some (.type "zip"):=by decide +kernel
theorem zH4:bootBuiltins "isinstance"=some (.builtin "isinstance"):=by decide +kernel
theorem zUO:bootBuiltins "all"=some (.builtin "all"):=by decide +kernel
theorem zUN:bootBuiltins "any"=some (.builtin "any"):=by decide +kernel
theorem zQ3:bootBuiltins "int"=some (.type "int"):=by decide +kernel
theorem zRW:bootBuiltins "bool"=some (.type "bool"):=by decide +kernel
theorem zIB:bootBuiltins "enumerate"=some (.type "enumerate"):=by decide +kernel
theorem zUJ:bootBuiltins "str"=some (.type "str"):=by decide +kernel
structure C4 where
 a:Int
 b:Int
 k:Int
 o:Int
def C4.ok (sw pl:Int) (c:C4):Prop:=0≤c.a∧c.a<c.b∧c.b<pl∧0≤c.k∧c.k<sw∧0≤c.o∧c.o<2
structure zUW (ms mp mc:Int) (sw pl:Int) (cs:List C4):Prop where
 s1:1≤sw
 s2:sw≤ms
 p1:2≤pl
 p2:pl≤mp
 c1:(cs.length:Int)≤mc
 c2:∀ c∈cs,c.ok sw pl
inductive Ty2 (K:W.Frag) (H:Hp):V→String→Prop where
 | non:Ty2 K H .non "NoneType"
 | bl (x:Bool):Ty2 K H (.bl x) "bool"
 | int (i:Int):Ty2 K H (.int i) "int"
 | str (x:Str):Ty2 K H (.str x) "str"
 | tup {a:Addr}{xs:List V} (e:SqT K H a xs):Ty2 K H (.ref a) "tuple"
 | lst {a:Addr}{xs:List V} (e:SqL K H a xs):Ty2 K H (.ref a) "list"
 | dk {a:Addr}{kvs:List (Key × V)} (e:H a=some (.dK kvs)):Ty2 K H (.ref a) "dict"
noncomputable def kOf (t T:String):Bool:=t == T||(t == "bool"&&T == "int")
section
variable {X:Cx}
theorem zL3 {A:Around}{E:yL}{pins:yD}{σ:St}{H:Hp}{s:Shared}{Q:yL}{c:Value}{b:Bool}{x:V}{u:Value}{t:String} (I:Inv X pins σ H s) (rx:RelV x u) (ty:Ty2 X.K H x t) (e:W.kitOne X.K (.type t) c=some b) (h:∀ tk,Q (.bool b) { s with toks:=tk }) :
  wpAny (model X.prog X.w) A (call (.builtin "isinstance") [u,c]) Q E s:=by
 cases ty with
 | non=>cases (show u=Value.none from rx); exact W.kia_one W.kitx_none I.kIn True.intro e (fun z=>nomatch z) h
 | bl y=>cases (show u=Value.bool y from rx); exact W.kia_one W.kitx_bool I.kIn True.intro e (fun z=>nomatch z) h
 | int i=>obtain ⟨t,q⟩:=(show ∃ t,u=Value.int i t from rx); cases q; exact W.kia_one W.kitx_int I.kIn True.intro e (fun z=>nomatch z) h
 | str y=>obtain ⟨t,q⟩:=(show ∃ t,u=Value.str y t from rx); cases q; exact W.kia_one W.kitx_str I.kIn True.intro e (fun z=>nomatch z) h
 | @lst a xs ea =>
  cases (show u=Value.ref a from rx)
  obtain ⟨its,_,pl,_⟩:=I.list ea
  obtain ⟨o,h1,h2,_⟩:=pl.isList
  exact W.kia_one W.kitx_list I.kIn ⟨o,h1,h2⟩ e (fun z=>nomatch z) h
 | @tup a xs ea =>
  cases (show u=Value.ref a from rx)
  obtain ⟨its,_,pl,_⟩:=I.tuple ea
  obtain ⟨o,h1,h2,_⟩:=pl
  exact W.kia_one W.kitx_tuple I.kIn ⟨o,h1,h2⟩ e (fun z=>nomatch z) h
 | @dk a kvs ea =>
  cases (show u=Value.ref a from rx)
  obtain ⟨_,_,vs,_,p⟩:=(show zBA X.prog X.w H s.heap a (.dK kvs) from I.hok a _ ea)
  obtain ⟨o,es,ep,h1,h2,_⟩:=p
  exact W.kia_one W.kitx_dict I.kIn ⟨o,h1,h2.1⟩ e (fun z=>nomatch z) h
theorem zIz:zAW X (.builtin "isinstance") (fun vs H Q=>∃ x t T b,vs=[x,.ty T]∧Ty2 X.K H x t∧W.kitOne X.K (.type t) (.type T)=some b∧Q (.bl b) H):=by
 intro pins s σ H xs us Q I r h
 obtain ⟨x,t,T,b,rfl,ty,e,q⟩:=h
 obtain ⟨u,v,rfl,ru,rv⟩:=zNX r
 cases rv
 exact zL3 I ru ty e fun tk=>⟨.bl b,H,I.tok tk,rfl,q⟩
end
theorem zOS (K:W.Frag):(∀ t∈["NoneType","bool","int","str","tuple","list","dict"],∀ T∈["bool","int","tuple","list","str","dict"],W.kitOne K (.type t) (.type T)=some (kOf t T)):=by
 intro t ht T hT
 simp only [qB6,qF4,or_false] at ht hT
 rcases ht with rfl | rfl | rfl | rfl | rfl | rfl | rfl <;> rcases hT with rfl | rfl | rfl | rfl | rfl | rfl <;> rfl
mutual
inductive Rp (K:W.Frag) (H:Hp) (a0:Addr→Prop):V→PyData→Prop where
 | non:Rp K H a0 .non .none
 | bl (b:Bool):Rp K H a0 (.bl b) (.bool b)
 | int (i:Int):Rp K H a0 (.int i) (.int i)
 | str (x:Str):Rp K H a0 (.str x) (.str x)
 | tup {p:Addr}{xs:List V}{ds:List PyData} (h:SqT K H p xs) (r:RpL K H a0 xs ds):Rp K H a0 (.ref p) (.tuple ds)
 | lst {p:Addr}{xs:List V}{ds:List PyData} (n:a0 p) (h:SqL K H p xs) (r:RpL K H a0 xs ds):Rp K H a0 (.ref p) (.list ds)
inductive RpL (K:W.Frag) (H:Hp) (a0:Addr→Prop):List V→List PyData→Prop where
 | nil:RpL K H a0 [] []
 | cons {x:V}{xs:List V}{d:PyData}{ds:List PyData} (h:Rp K H a0 x d) (t:RpL K H a0 xs ds):RpL K H a0 (x::xs) (d::ds)
end
noncomputable def C4.d (c:C4):PyData:=.tuple [.int c.a,.int c.b,.int c.k,.int c.o]
open PySem PySem.Spec PyProof.Rows
section
variable {prog:Program}{w:World}{A:Around}{E:yL}{s:Shared}
theorem zHl {j t:Addr}{n:Nat}{vs:yJ}{v:Value}{Q:yL} (hj:s.heap.IsTupleIter j t n) (ht:s.heap.IsTuple t vs) (hv:vs[n]?=some v)
  (q:∀ h',h'.IsTupleIter j t (n+1)→qF0 j s.heap h'→Q v { s with heap:=h' }):wpAny (model prog w) A (Builtin.SmallTypes.nextOf (.ref j)) Q E s:=by
 obtain ⟨oj,e1,c1,d1⟩:=id hj
 obtain ⟨ot,e2,_,m,d2⟩:=ht
 unfold Builtin.SmallTypes.nextOf
 refine wpAny_bind (wpAny_callSpecial?_slot (name:=Str.ofString "__next__") hj.typeIs F.slot_tuple_iterator_next (wpAny_call_entry F.slot_tuple_iterator_next hj.typeIs F.entry_tuple_iterator_next ?_ (F.args_tuple_iterator_next_1 _)))
 show wpAny _ _ (field (.ref j) 0 >>= _) _ _ s
 refine wpAny_bind (wpAny_field e1 d1 (x:=.ref t) rfl ?_)
 show wpAny _ _ (if (Value.ref t == Value.none)=true then _ else _) _ _ s
 rw [if_neg (show ¬ ((Value.ref t == Value.none)=true) from fun z=>qB2 z)]
 show wpAny _ _ (field (.ref j) 1 >>= _) _ _ s
 refine wpAny_bind (wpAny_field e1 d1 (x:=.int n 0) rfl ?_)
 show wpAny _ _ (seqItems? (.ref t) >>= _) _ _ s
 refine wpAny_bind (wpAny_seqItems e2 d2 ?_)
 simp only [hv,qH6]
 refine wpAny_bind (wpAny_setField e1 d1 (by simp) (wpAny_pure ⟨v,rfl,wpAny_pure (q _ ?_ (qF0.update ..))⟩))
 refine ⟨_,qJ9 _ e1 (Obj.isFreed_of_fields (Obj.data_mapFields d1 _)),(Obj.cls_mapFields ..).trans c1,?_⟩
 rw [Obj.data_mapFields d1]
 simp [rawInt]
theorem zJ0 {j t:Addr}{n:Nat}{vs:yJ}{Q:yL} (hh:A.handled=none) (hj:s.heap.IsTupleIter j t n) (ht:s.heap.IsTuple t vs) (hv:vs[n]?=none)
  (q:∀ h' e,Heap.ExtBut j s.heap h'→(∃ o,h'.get? e=some o∧o.cls=.type "StopIteration")→E (.ref e) { s with heap:=h' }):wpAny (model prog w) A (Builtin.SmallTypes.nextOf (.ref j)) Q E s:=by
 obtain ⟨oj,e1,c1,d1⟩:=id hj
 obtain ⟨ot,e2,_,m,d2⟩:=ht
 unfold Builtin.SmallTypes.nextOf
 refine wpAny_bind (wpAny_callSpecial?_slot (name:=Str.ofString "__next__") hj.typeIs F.slot_tuple_iterator_next (wpAny_call_entry F.slot_tuple_iterator_next hj.typeIs F.entry_tuple_iterator_next ?_ (F.args_tuple_iterator_next_1 _)))
 show wpAny _ _ (field (.ref j) 0 >>= _) _ _ s
 refine wpAny_bind (wpAny_field e1 d1 (x:=.ref t) rfl ?_)
 show wpAny _ _ (if (Value.ref t == Value.none)=true then _ else _) _ _ s
 rw [if_neg (show ¬ ((Value.ref t == Value.none)=true) from fun z=>qB2 z)]
 show wpAny _ _ (field (.ref j) 1 >>= _) _ _ s
 refine wpAny_bind (wpAny_field e1 d1 (x:=.int n 0) rfl ?_)
 show wpAny _ _ (seqItems? (.ref t) >>= _) _ _ s
 refine wpAny_bind (wpAny_seqItems e2 d2 ?_)
 simp only [hv,qH6]
 refine wpAny_bind (wpAny_rule (wpAny_bind (wpAny_setField e1 d1 (by simp) ?_)))
 refine wpAny_bind (m:=newExc (.type "StopIteration") []) ?_
 simp only [newTuple,newExc]
 refine wpAny_bind (wpAny_newObj_type ?_ (by size_fits))
 refine wpAny_bind (m:=firstArgMember _ _) (wpAny_of_eq (a:=Value.none) (by first | (simp only [firstArgMember]; rfl) | rfl) ?_)
 refine wpAny_newObj_type ?_ (by size_fits)
 simp only [raiseNew]
 refine wpAny_bind (wpAny_handled ?_)
 first | rw [hh] | rw [show A.in1.handled=none from hh]
 refine wpAny_bind (wpAny_pure (wpAny_throw ?_))
 exact q _ _ (((qF0.update ..).extBut.push _).push _) ⟨_,qB3 _ rfl,rfl⟩
end
theorem zLk {prog:Program}{w:World}{A:Around} (hh:A.handled=none) (j t:Addr) (hne:t≠j) (vs:yJ) :
  Draws prog w A j [j,t] vs.size (fun i v=>vs[i]?=some v) (fun i h=>h.IsTupleIter j t i∧h.IsTuple t vs) where
 live:=fun _ _ st=>let ⟨o,ho,_⟩:=st.1; ⟨o,ho⟩
 frame:=fun _ _ _ st kk=>⟨st.1.at fun o e=>kk j (by simp) o e,let ⟨o,ho,r⟩:=st.2; ⟨o,kk t (by simp) o ho,r⟩⟩
 item:=fun i s Q E hi st hQ=>zHl st.1 st.2 (v:=vs[i]) (by simp [hi]) fun h' h1 h2=>hQ _ h' s.toks (by simp [hi]) ⟨h1,st.2.extBut h2.extBut hne⟩ h2
 done:=fun s Q E st hE=>zJ0 hh st.1 st.2 (by simp) hE
theorem zPf (l:Addr) (items:yJ) (n:Nat) (dct:Option Addr) (sl:Array (yF)) :
  Meets (Builtin.«enumerate.__new__» ⟨[.type "enumerate",.ref l],[]⟩) (fun _ R s=>s.heap.get? l=some { cls:=.type "tuple",dict:=dct,data:=.seq items n,slots:=sl } ∧
   R (.ok (.ret (.ref (s.heap.push { cls:=.type "tuple_iterator",data:=.fields #[.ref l,.int 0 0] }).objs.size)))
    { s with heap:=(s.heap.push { cls:=.type "tuple_iterator",data:=.fields #[.ref l,.int 0 0] }).push { cls:=.type "enumerate",data:=.fields #[.none,.bool false,.ref s.heap.objs.size,rawInt 0,.none,.none] } }) :=
 .of_wp fun prog w A R s h=>by
  obtain ⟨hp,g,d,tk,os⟩:=s; obtain ⟨hl,h⟩:=h
  have hsub:=sub_enumerate
  have hT:qK4 (Shared.heap ⟨hp,g,d,tk,os⟩) l items:=⟨_,hl,rfl,n,rfl⟩
  wp_walk using AutoSeq1.wpAny_loadPart' hl
  refine wpAny_stack_any fun st=>wpAny_pure ?_
  split
  ·rename_i c _ _ _ _ _
   cases (c == Value.type "enumerate") <;> (wp_walk using AutoSeq1.wpAny_loadPart' hl,wpAny_pyIter_tuple hT; exact ⟨_,rfl,h⟩)
  ·wp_walk using AutoSeq1.wpAny_loadPart' hl,wpAny_pyIter_tuple hT
   exact ⟨_,rfl,h⟩
open PySem PySem.Spec PyProof.Rows
section
variable {X:Cx}{pins:yD}{σ:St}{H:Hp}{s:Shared}
mutual
theorem Inv.reads (I:Inv X pins σ H s) {a0:Addr→Prop}:∀ {x:V}{d:PyData}{u:Value},Rp X.K H a0 x d→RelV x u→∃ as,Reads s.heap u d as
 | _,_,u,.non,r=>by cases (show u=Value.none from r); exact ⟨_,.none⟩
 | _,_,u,.bl b,r=>by cases (show u=Value.bool b from r); exact ⟨_,.bool b⟩
 | _,_,u,.int i,r=>by obtain ⟨t,q⟩:=(show ∃ t,u=Value.int i t from r); cases q; exact ⟨_,.int i t⟩
 | _,_,u,.str y,r=>by obtain ⟨t,q⟩:=(show ∃ t,u=Value.str y t from r); cases q; exact ⟨_,.str y t⟩
 | _,_,u,.tup (p:=p) h rr,r=>by
  cases (show u=Value.ref p from r)
  obtain ⟨its,rv,⟨o,h1,h2,n,h3⟩,_⟩:=I.tuple h
  obtain ⟨as,ra⟩:=I.readsL rr rv
  exact ⟨_,.tuple h1 h2 h3 (by simpa using ra)⟩
 | _,_,u,.lst (p:=p) _ h rr,r=>by
  cases (show u=Value.ref p from r)
  obtain ⟨its,rv,pl,_⟩:=I.list h
  obtain ⟨o,h1,h2,n,h3⟩:=pl.isList
  obtain ⟨as,ra⟩:=I.readsL rr rv
  exact ⟨_,.list h1 h2 h3 (by simpa using ra)⟩
theorem Inv.readsL (I:Inv X pins σ H s) {a0:Addr→Prop}:∀ {xs:List V}{ds:List PyData}{us:yB},RpL X.K H a0 xs ds→Vals xs us→∃ as,ReadsAll s.heap us ds as
 | _,_,_,.nil,.nil=>⟨_,.nil⟩
 | _,_,_,.cons h t,.cons r rr=>by
  obtain ⟨a1,q1⟩:=I.reads h r
  obtain ⟨a2,q2⟩:=I.readsL t rr
  exact ⟨_,.cons q1 q2⟩
end
def okD (d:PyData):Prop:=d.canLay0=true∧d.depth≤60
theorem zTy (hu:X.A.units+64<cLine):OpR X (compareOp .Eq) (fun x y H Q=>∃ (N N':Addr→Prop) (da db:PyData),Rp X.K H N x da∧Rp X.K H N' y db∧okD da∧okD db∧Q (.bl (PyData.eqv da db)) H):=by
 intro pins s σ H x y v u Q I rx ry h
 obtain ⟨N,N',da,db,hx,hy,o1,o2,q⟩:=h
 obtain ⟨as,ra⟩:=I.reads hx rx
 obtain ⟨bs,rb⟩:=I.reads hy ry
 exact SeqAt.compareEq_reads ra rb o1.1 o2.1 (by have:=o1.2; omega) ⟨.bl _,H,I,rfl,q⟩
theorem zTu (hu:X.A.units+64<cLine):OpR X (compareOp .NotEq) (fun x y H Q=>∃ (N N':Addr→Prop) (da db:PyData),Rp X.K H N x da∧Rp X.K H N' y db∧okD da∧okD db∧Q (.bl (!PyData.eqv da db)) H):=by
 intro pins s σ H x y v u Q I rx ry h
 obtain ⟨N,N',da,db,hx,hy,o1,o2,q⟩:=h
 obtain ⟨as,ra⟩:=I.reads hx rx
 obtain ⟨bs,rb⟩:=I.reads hy ry
 exact SeqAt.compareNe_reads ra rb o1.1 o2.1 (by have:=o1.2; omega) ⟨.bl _,H,I,rfl,q⟩
end
open PySem PySem.Spec PyProof.Rows
def SqX (b:Bool) (K:W.Frag) (H:Hp) (a:Addr) (xs:List V):Prop:=match b with
 | true=>SqT K H a xs
 | false=>SqL K H a xs
def IsX (b:Bool) (h:Heap) (a:Addr) (vs:yJ):Prop:=match b with
 | true=>h.IsTuple a vs
 | false=>h.IsList a vs
def ItX (b:Bool) (h:Heap) (j a:Addr) (i:Nat):Prop:=match b with
 | true=>h.IsTupleIter j a i
 | false=>h.IsListIter j a i
theorem ItX.obj {b:Bool}{h:Heap}{j a:Addr}{i:Nat} (x:ItX b h j a i):∃ o,h.get? j=some o∧∀ v,o.data≠.cell v:=by
 cases b with
 | true=>obtain ⟨o,h1,_,h2⟩:=(x:h.IsTupleIter j a i); exact ⟨o,h1,fun v q=>by rw [h2] at q; cases q⟩
 | false=>obtain ⟨o,h1,_,h2⟩:=(x:h.IsListIter j a i); exact ⟨o,h1,fun v q=>by rw [h2] at q; cases q⟩
theorem ItX.keep {b:Bool}{h h':Heap}{j a:Addr}{i:Nat} (x:ItX b h j a i) (e:∀ o,h.get? j=some o→h'.get? j=some o):ItX b h' j a i:=by
 cases b with
 | true=>exact Heap.IsTupleIter.at x e
 | false=>exact Heap.IsListIter.at x e
theorem IsX.lt {b:Bool}{h:Heap}{a:Addr}{vs:yJ} (x:IsX b h a vs):a<h.objs.size:=by
 cases b with
 | true=>obtain ⟨_,e,_⟩:=(x:h.IsTuple a vs); exact qB5 e
 | false=>obtain ⟨_,e,_⟩:=(x:h.IsList a vs); exact qB5 e
theorem zGc {prog:Program}{w:World}{A:Around} (b:Bool) (hh:A.handled=none) (j t:Addr) (hne:t≠j) (vs:yJ) :
  Draws prog w A j [j,t] vs.size (fun i v=>vs[i]?=some v) (fun i h=>ItX b h j t i∧IsX b h t vs):=by
 cases b with
 | true=>exact zLk hh j t hne vs
 | false=>exact Draws.list hh j t hne vs
section
variable {X:Cx}{pins:yD}{σ:St}{H:Hp}{s:Shared}
theorem Inv.sqX (I:Inv X pins σ H s) {b:Bool}{a:Addr}{xs:List V} (h:SqX b X.K H a xs):∃ its,Vals xs its∧IsX b s.heap a its.toArray:=by
 cases b with
 | true=>obtain ⟨its,r,p,_⟩:=I.tuple h; exact ⟨its,r,p⟩
 | false=>obtain ⟨its,r,p,_⟩:=I.list h; exact ⟨its,r,p.isList⟩
theorem Inv.sqX_inj (I:Inv X pins σ H s) {b:Bool}{a:Addr}{xs ys:List V} (h:SqX b X.K H a xs) (h':SqX b X.K H a ys):xs=ys:=by
 cases b with
 | true=>exact I.tuple_inj h h'
 | false=>exact I.list_inj h h'
end
noncomputable def IteX (b:Bool) (K:W.Frag) (a:Addr):It :=
  ⟨fun i H=>∃ xs x,SqX b K H a xs∧xs[i]?=some x,
   fun i H v H'=>∃ T,H T=none∧v=.ref T∧∀ xs x,SqX b K H a xs→xs[i]?=some x→H'=upd H T (.tup [.int i,x]),
   fun i H=>∃ xs,SqX b K H a xs∧i=xs.length⟩
theorem allN {P:Addr→Prop}:∀ x∈([]:yC),P x:=fun _ h=>by cases h
theorem allC {P:Addr→Prop}{a:Addr}{l:yC} (h:P a) (t:∀ x∈l,P x):∀ x∈a::l,P x:=fun x hx=>(qB6.mp hx).elim (fun e=>e▸h) (t x)
theorem zPT {X:Cx}{pins:yD}{H:Hp}{T:Addr}{o:HO}{ws:yC} (h:∀ b∈ws,FpOk X pins H b) (n:∀ b∈ws,b≠T):∀ b∈ws,FpOk X pins (upd H T o) b:=fun b hb=>⟨by rw [zAb (n b hb)]; exact (h b hb).1,(h b hb).2⟩
structure EsX (b:Bool) (e it a:Addr) (i:Nat) (h:Heap):Prop where
 a1:∃ old,IsEnum h e it (i:Nat) old
 a2:ItX b h it a i
theorem EsX.obj {b:Bool}{e it a:Addr}{i:Nat}{h:Heap} (st:EsX b e it a i h):∀ c∈[e,it],∃ o,h.get? c=some o∧∀ v,o.data≠.cell v:=by
 obtain ⟨_,a1⟩:=st.a1
 exact allC ⟨_,a1,fun v q=>by cases q⟩ (allC st.a2.obj allN)
theorem EsX.ne {b:Bool}{e it a:Addr}{i:Nat}{h:Heap} (st:EsX b e it a i h) {T:Addr} (hT:h.objs.size≤T):∀ c∈[e,it],c≠T:=fun c hc=>by
 obtain ⟨o,z,_⟩:=st.obj c hc
 exact qC4 (qC1 (qB5 z) hT)
theorem zyE {b:Bool}{a:Addr}{i:Nat}{X:Cx}{pins:yD}{σ:St}{H:Hp}{s:Shared} (I:Inv X pins σ H s) {xs:List V}{x:V} (q1:SqX b X.K H a xs) (ex:xs[i]?=some x) {T:Addr} (xs':List V) (x':V) (s1:SqX b X.K H a xs') (t1:xs'[i]?=some x'):upd H T (.tup [.int i,x])=upd H T (.tup [.int i,x']):=by
 have h1:=I.sqX_inj q1 s1
 subst h1
 rw [ex] at t1
 cases t1; rfl
theorem zvE {t1:yB}{u1:Value}{i:Nat}{vals:yJ} (e1:t1[i]?=some u1) (hv:∃ tt v,t1.toArray[i]?=some v∧vals=#[.int (i:Nat) tt,v]):∃ tt,vals=#[.int (i:Nat) tt,u1]:=by
 obtain ⟨tt,v,g,rfl⟩:=hv
 rw [qD2,e1] at g
 cases g; exact ⟨tt,rfl⟩
theorem zFX {P:Program}{w:World}{K:PySem.W.Frag}{elts:yE}{k:Nat}{pos:Pos} (b:Bool) (e it a:Addr) (hei:e≠it) (hea:e≠a) (hai:a≠it) :
  Turn P w K (.Tuple elts k pos) (IteX b K a) [e,it] e (EsX b e it a) where
 mem:=by simp
 obj:=fun i h st=>st.obj
 keep:=fun i h h' ⟨⟨old,h1⟩,h2⟩ kk=>⟨⟨old,kk e (by simp) _ h1⟩,h2.keep fun o z=>kk it (by simp) o z⟩
 item:=by
  intro X hP hw hK hc i pins s σ H E I hf st hg
  subst hP hw hK
  obtain ⟨xs,x,q1,ex⟩:=hg
  obtain ⟨its1,r1,p1⟩:=I.sqX q1
  obtain ⟨u1,e1,ru1⟩:=r1.get ex
  have D:=zGc (prog:=X.prog) (w:=X.w) (A:=X.A.in1) b (show X.A.in1.handled=none from I.ok.hd hc) it a hai its1.toArray
  have W:=WalksT.enumerateD (A:=X.A) D e hei (by simp [hei,hea]) (by simp)
  have hl1:i<its1.length:=(qA4.mp e1).1
  refine W.item i s _ _ (by simp only [qB0]; omega) ⟨st.1,st.2,p1⟩ fun T vals h' tk hv hT hIs hM kk=>?_
  obtain ⟨tt,hvv⟩:=zvE e1 hv
  subst hvv
  have nT:=st.ne hT
  refine ⟨_,rfl,W.go _ _ _ i T { s with heap:=h',toks:=tk } _ _ hM fun h2 st2 kk2=>?_⟩
  have I1:Inv X pins σ (upd H T (.tup [.int i,x])) { s with heap:=h',toks:=tk }:=I.yields (its:=[.int i tt,u1]) hf kk hT (.cons ⟨tt,rfl⟩ (.cons ru1 .nil)) (by show 2≤sizeLine; decide) hIs
  exact ⟨.ref T,_,I1.turnedL (tk:=tk) (zPT hf nT) kk2,rfl,⟨T,I.hok.fresh hT,rfl,zyE I q1 ex⟩,⟨st2.1,st2.2.1⟩,fun c hc=>by rw [zAb (nT c hc)]; exact (hf c hc).1⟩
 done:=by
  intro X hP hw hK hc i pins s σ H E I hf st hg
  subst hP hw hK
  obtain ⟨xs,q1,ei⟩:=hg
  obtain ⟨its1,r1,p1⟩:=I.sqX q1
  have D:=zGc (prog:=X.prog) (w:=X.w) (A:=X.A.in1) b (show X.A.in1.handled=none from I.ok.hd hc) it a hai its1.toArray
  have W:=WalksT.enumerateD (A:=X.A) D e hei (by simp [hei,hea]) (by simp)
  have en:i=its1.toArray.size:=by rw [qB0,← r1.length]; exact ei
  refine W.done s _ _ (by rw [← en]; exact ⟨st.1,st.2,p1⟩) fun h' tk kk=>?_
  exact ⟨rfl,I.turnedL hf kk⟩
 self:=fun _ _ _ _ _ st h=>let ⟨⟨_,z⟩,_⟩:=st; wpAny_pyIter_enum z h
section
variable {X:Cx}
def zPR (K:W.Frag) (ta:TA):TI:=fun σ H R=>ta σ H fun vs H1=>∃ a,vs=[.ref a]∧((∃ xs,SqT K H1 a xs)∧R (IteX true K a) H1∨(∃ xs,SqL K H1 a xs)∧R (IteX false K a) H1)
theorem zOs {elts:yE}{k:Nat}{tpos:Pos}{a:Expr}{ta:TA}{p pos:Pos} (hg:Gl X "enumerate") (hm:X.mg "enumerate"=none) (ha:PA X [a] ta) (hs:starEach [a] X.env=[(false,eval a X.env)]:=by rfl) :
  PI X (.Tuple elts k tpos) (.Call (.Name "enumerate" p) [a] [] pos) (zPR X.K ta):=by
 intro pins s σ H R I h
 refine Call_ (zET I hg hm zIB (PyProof.Rows.callWith_type1 (thn (ha pos pins s σ H _ I h) fun us s1 ⟨vs,H1,I1,r1,q1⟩=>?_) (by rw [hs]; rfl) (by rfl)))
 obtain ⟨t,e,q⟩:=q1
 subst e
 rcases q with ⟨⟨xs,h1⟩,q⟩ | ⟨⟨xs,h1⟩,q⟩
 ·cases r1 with
  | cons r rr =>
   cases rr
   cases r
   obtain ⟨its1,v1,p1,z1⟩:=I1.tuple h1
   obtain ⟨⟨c,dct,dt,sl⟩,hl,hc,n,hd⟩:=id p1
   replace hc:c=.type "tuple":=hc
   replace hd:dt=.seq its1.toArray n:=hd
   subst hc hd
   have hlt:t<s1.heap.objs.size:=qB5 hl
   refine callType_new PySem.F.called_enumerate (by decide) (PySem.F.typeCall_enumerate_1 _) (PySem.F.newCall_enumerate_1 _) (fun obj=>PySem.F.args_object_init_2 obj _) PySem.F.entry_enumerate_new (zPf t its1.toArray n dct sl) ⟨hl,?_⟩
   have hz:(s1.heap.push { cls:=.type "tuple_iterator",data:=.fields #[.ref t,.int 0 0] }).objs.size=s1.heap.objs.size+1:=qG5 ..
   show _∧_
   rw [hz]
   have he:IsEnum ((s1.heap.push { cls:=.type "tuple_iterator",data:=.fields #[.ref t,.int 0 0] }).push { cls:=.type "enumerate",data:=.fields #[.none,.bool false,.ref s1.heap.objs.size,rawInt 0,.none,.none] }) (s1.heap.objs.size+1) s1.heap.objs.size 0 .none:=by
    have z:=qB3 (s1.heap.push { cls:=.type "tuple_iterator",data:=.fields #[.ref t,.int 0 0] }) (o:={ cls:=.type "enumerate",data:=.fields #[.none,.bool false,.ref s1.heap.objs.size,rawInt 0,.none,.none] }) rfl
    rw [hz] at z
    exact z
   refine ⟨⟨_,he,rfl⟩,?_⟩
   refine wpAny_pyIter_enum he ?_
   have kp:∀ b o,s1.heap.get? b=some o→((s1.heap.push { cls:=.type "tuple_iterator",data:=.fields #[.ref t,.int 0 0] }).push { cls:=.type "enumerate",data:=.fields #[.none,.bool false,.ref s1.heap.objs.size,rawInt 0,.none,.none] }).get? b=some o:=fun b o x=>qA3 _ (qA3 _ x)
   refine ⟨_,_,_,_,H1,rfl,I1.kept (t':=s1.toks) kp,zFX true (s1.heap.objs.size+1) s1.heap.objs.size t (qS2 _) (qJ3 (qG6 hlt)) (qC4 hlt),⟨⟨_,he⟩,⟨_,qA3 _ (qB3 _ rfl),rfl,rfl⟩⟩,fun b hb=>?_,q⟩
   have hle:s1.heap.objs.size≤b:=by
    simp only [qB6,qF4,or_false] at hb
    rcases hb with rfl | rfl
    ·exact qO1 _
    ·exact qA9 _
   exact I1.fpOk hle (I1.hok.fresh hle)
 ·cases r1 with
  | cons r rr =>
   cases rr
   cases r
   obtain ⟨its1,v1,p1,z1⟩:=I1.list h1
   have hlt:t<s1.heap.objs.size:=by obtain ⟨_,e,_⟩:=p1.isList; exact qB5 e
   refine call_enumerate_list p1.isList fun h' he hi hsz hk=>?_
   refine wpAny_pyIter_enum he ?_
   refine ⟨_,_,_,_,H1,rfl,I1.kept (t':=s1.toks) hk,zFX false (s1.heap.objs.size+1) s1.heap.objs.size t (qS2 _) (qJ3 (qG6 hlt)) (qC4 hlt),⟨⟨_,he⟩,hi⟩,fun b hb=>?_,q⟩
   have hle:s1.heap.objs.size≤b:=by
    simp only [qB6,qF4,or_false] at hb
    rcases hb with rfl | rfl
    ·exact qO1 _
    ·exact qA9 _
   exact I1.fpOk hle (I1.hok.fresh hle)
end
open PySem PySem.Spec PyProof.Rows
structure ZAp (z TI TO i1 i2:Addr) (f1 f2:yC):Prop where
 TIz:TI≠z
 TOz:TO≠z
 i1z:i1≠z
 i2z:i2≠z
 TITO:TI≠TO
 TIi1:TI≠i1
 TIi2:TI≠i2
 TOi1:TO≠i1
 TOi2:TO≠i2
 i12:i1≠i2
 z1:z∉f1
 z2:z∉f2
 O1:TO∉f1
 O2:TO∉f2
 j1:i2∉f1
 j2:i1∉f2
section
variable {prog:Program}{w:World}{A:Around}{E:yL}{s:Shared}
variable {z TI TO i1 i2:Addr}{f1 f2:yC}{n1 n2 k:Nat}{P1 P2:Nat→Value→Prop}{S1 S2:Nat→Heap→Prop}
theorem Draws.sb {j c:Addr}{fp:yC}{n i:Nat}{P:Nat→Value→Prop}{St:Nat→Heap→Prop}{h h':Heap} (D:Draws prog w A j fp n P St) (st:St i h) (sb:qF0 c h h') (hc:c∉fp):St i h' :=
 D.frame _ _ _ st fun b hb o e=>sb.extBut b o (fun q=>hc (q▸hb)) e
theorem zJY {Q:Fin→Shared→Prop}{a b:Value} (hz:IsZip s.heap z TI TO .none) (hTI:IsPair s.heap TI (.ref i1) (.ref i2)) (hTO:IsPair s.heap TO a b) (hh:A.handled=none)
  (D1:∀ A:Around,A.handled=none→Draws prog w A i1 f1 n1 P1 S1) (D2:∀ A:Around,A.handled=none→Draws prog w A i2 f2 n2 P2 S2) (ap:ZAp z TI TO i1 i2 f1 f2) (h1:S1 k s.heap) (h2:S2 k s.heap)
  (hQ:k<n1→k<n2→∀ x y h' tk,P1 k x→P2 k y→IsZip h' z TI TO (rawInt s.heap.objs.size)→IsPair h' TO x y→S1 (k+1) h'→S2 (k+1) h'→IsPair h' s.heap.objs.size x y→h'.objs.size=s.heap.objs.size+1 →
   (∀ c o,c≠z→c≠TO→c≠i1→c≠i2→s.heap.get? c=some o→h'.get? c=some o)→Q (.done (.ret (.ref s.heap.objs.size))) { s with heap:=h',toks:=tk })
  (hE:(k=n1∨k=n2)→∀ h' e tk,(∀ c o,c≠z→c≠TO→c≠i1→c≠i2→s.heap.get? c=some o→h'.get? c=some o)→(∃ o,h'.get? e=some o∧o.cls=.type "StopIteration")→E (.ref e) { s with heap:=h',toks:=tk })
  (hk1:k≤n1) (hk2:k≤n2):wpAny (model prog w) A (Builtin.«zip.__next__» ⟨[.ref z],[]⟩) Q E s:=by
 show wpAny _ _ (field (.ref z) 2 >>= _) _ _ _
 refine wpAny_bind (wpAny_field hz rfl (x:=.bool false) rfl ?_)
 show wpAny _ _ (field (.ref z) 3 >>= _) _ _ _
 refine wpAny_bind (wpAny_field hz rfl (x:=.ref TI) rfl ?_)
 refine wpAny_bind (wpAny_seqItems hTI rfl ?_)
 show wpAny _ _ (Builtin.SmallTypes.ownedTupleIsFree (.ref z) >>= _) _ _ _
 refine wpAny_bind ?_
 unfold Builtin.SmallTypes.ownedTupleIsFree
 refine wpAny_bind (wpAny_field hz rfl (x:=.none) rfl (wpAny_pure ?_))
 simp only [if_true]
 refine wpAny_bind (wpAny_rule ?_)
 refine wpAny_bind (wpAny_field hz rfl (x:=.ref TO) rfl ?_)
 refine wpAny_bind (wpAny_setField_rec hz (by simp) fun ha za sa=>?_)
 replace za:IsZip ha z TI TO .ellipsis:=za
 have s1a:S1 k ha:=Draws.sb (D1 A hh) h1 sa ap.z1
 have s2a:S2 k ha:=Draws.sb (D2 A hh) h2 sa ap.z2
 have oa:IsPair ha TO a b:=sa.extBut _ _ ap.TOz hTO
 refine wpAny_bind ?_
 simp only [qS3,List.zipIdx_nil,qT4,qU1]
 refine wpAny_bind (wpAny_bind (wpAny_onRaise ?_))
 show wpAny _ _ (Builtin.SmallTypes.nextOf (.ref i1) >>= _) _ _ _
 by_cases l1:k<n1
 ·refine wpAny_bind ((D1 _ hh).item k _ _ _ l1 s1a fun x hb tb px s1b sb=>wpAny_pure ?_)
  have ob:IsPair hb TO a b:=sb.extBut _ _ ap.TOi1 oa
  have s2b:S2 k hb:=Draws.sb (D2 A hh) s2a sb ap.j2
  have zb:IsZip hb z TI TO .ellipsis:=sb.extBut _ _ ap.i1z.symm za
  refine wpAny_bind (wpAny_seqItems ob rfl ?_)
  refine wpAny_bind (wpAny_updateSeq_pair ob fun hc oc sc=>?_)
  replace oc:IsPair hc TO x b:=oc
  have s1c:S1 (k+1) hc:=Draws.sb (D1 A hh) s1b sc ap.O1
  have s2c:S2 k hc:=Draws.sb (D2 A hh) s2b sc ap.O2
  have zc:IsZip hc z TI TO .ellipsis:=sc.extBut _ _ ap.TOz.symm zb
  refine wpAny_bind (wpAny_letGo (wpAny_pure ?_))
  refine wpAny_bind (wpAny_bind (wpAny_onRaise ?_))
  show wpAny _ _ (Builtin.SmallTypes.nextOf (.ref i2) >>= _) _ _ _
  by_cases l2:k<n2
  ·refine wpAny_bind ((D2 _ hh).item k _ _ _ l2 s2c fun y hd td py s2d sd=>wpAny_pure ?_)
   have od:IsPair hd TO x b:=sd.extBut _ _ ap.TOi2 oc
   have s1d:S1 (k+1) hd:=Draws.sb (D1 A hh) s1c sd ap.j1
   have zd:IsZip hd z TI TO .ellipsis:=sd.extBut _ _ ap.i2z.symm zc
   refine wpAny_bind (wpAny_seqItems od rfl ?_)
   refine wpAny_bind (wpAny_updateSeq_pair od fun he oe se=>?_)
   replace oe:IsPair he TO x y:=oe
   have s1e:S1 (k+1) he:=Draws.sb (D1 A hh) s1d se ap.O1
   have s2e:S2 (k+1) he:=Draws.sb (D2 A hh) s2d se ap.O2
   have ze:IsZip he z TI TO .ellipsis:=se.extBut _ _ ap.TOz.symm zd
   refine wpAny_bind (wpAny_letGo (wpAny_pure (wpAny_pure ?_)))
   refine wpAny_bind (wpAny_seqItems oe rfl ?_)
   refine wpAny_bind (wpAny_newTuple ?_)
   have hsz:he.objs.size=s.heap.objs.size:=by rw [se.1,sd.1,sc.1,sb.1,sa.1]
   have kp:∀ c o,c≠z→c≠TO→c≠i1→c≠i2→s.heap.get? c=some o→he.get? c=some o:=fun c o c1 c2 c3 c4 e =>
    se.extBut _ _ c2 (sd.extBut _ _ c4 (sc.extBut _ _ c2 (sb.extBut _ _ c3 (sa.extBut _ _ c1 e))))
   have zlt:z<he.objs.size:=qB5 ze
   show wpAny _ _ (Builtin.SmallTypes.ownedTupleHandOut (.ref z) (.ref he.objs.size) >>= _) _ _ _
   refine wpAny_bind ?_
   unfold Builtin.SmallTypes.ownedTupleHandOut
   have zf:IsZip (he.push { cls:=.type "tuple",data:=.seq #[x,y] }) z TI TO .ellipsis:=qA3 _ ze
   refine wpAny_bind (wpAny_setField_rec zf (by simp) fun hg zg sg=>?_)
   replace zg:IsZip hg z TI TO (rawInt he.objs.size):=zg
   refine wpAny_setField_rec zg (by simp) fun hi zi si=>?_
   replace zi:IsZip hi z TI TO (rawInt he.objs.size):=zi
   have up:∀ c o,c≠z→he.get? c=some o→hi.get? c=some o:=fun c o c1 e=>si.extBut _ _ c1 (sg.extBut _ _ c1 (qA3 _ e))
   have tz:IsPair hi he.objs.size x y:=si.extBut _ _ (qJ3 zlt) (sg.extBut _ _ (qJ3 zlt) (qB3 _ rfl))
   have zz:hi.objs.size=he.objs.size+1:=by rw [si.1,sg.1,qG5]
   have s1i:S1 (k+1) hi:=(D1 A hh).frame _ _ _ s1e fun b hb o e=>up b o (fun q=>ap.z1 (q▸hb)) e
   have s2i:S2 (k+1) hi:=(D2 A hh).frame _ _ _ s2e fun b hb o e=>up b o (fun q=>ap.z2 (q▸hb)) e
   rw [hsz] at zi tz zz
   refine wpAny_pure ?_
   show Q (.done (.ret (.ref he.objs.size))) _
   rw [hsz]
   exact hQ l1 l2 x y hi td px py zi (up _ _ ap.TOz oe) s1i s2i tz zz fun c o c1 c2 c3 c4 e=>up c o c1 (kp c o c1 c2 c3 c4 e)
  ·have e2:k=n2:=qT5 hk2 (qO8 l2)
   refine wpAny_bind ((D2 _ hh).done _ _ _ (e2▸s2c) fun hd e sd he=>?_)
   obtain ⟨oe,hoe,hce⟩:=he
   have zd:IsZip hd z TI TO .ellipsis:=sd _ _ ap.i2z.symm zc
   have hez:e≠z:=fun q=>by subst q; rw [zd] at hoe; cases hoe; simp at hce
   refine wpAny_setField_rec zd (by simp) fun hf _ sf=>hE (.inr e2) hf e tb (fun c o c1 c2 c3 c4 q=>sf.extBut _ _ c1 (sd _ _ c4 (sc.extBut _ _ c2 (sb.extBut _ _ c3 (sa.extBut _ _ c1 q))))) ⟨oe,sf.extBut _ _ hez hoe,hce⟩
 ·have e1:k=n1:=qT5 hk1 (qO8 l1)
  refine wpAny_bind ((D1 _ hh).done _ _ _ (e1▸s1a) fun hd e sd he=>?_)
  obtain ⟨oe,hoe,hce⟩:=he
  have zd:IsZip hd z TI TO .ellipsis:=sd _ _ ap.i1z.symm za
  have hez:e≠z:=fun q=>by subst q; rw [zd] at hoe; cases hoe; simp at hce
  exact wpAny_setField_rec zd (by simp) fun hf _ sf=>hE (.inl e1) hf e s.toks (fun c o c1 _ c3 _ q=>sf.extBut _ _ c1 (sd _ _ c3 (sa.extBut _ _ c1 q))) ⟨oe,sf.extBut _ _ hez hoe,hce⟩
theorem WalksT.zipD (hh:A.handled=none) (D1:∀ A:Around,A.handled=none→Draws prog w A i1 f1 n1 P1 S1) (D2:∀ A:Around,A.handled=none→Draws prog w A i2 f2 n2 P2 S2) (ap:ZAp z TI TO i1 i2 f1 f2) (m1:i1∈f1) (m2:i2∈f2) :
  WalksT prog w A z (z::TI::TO::f1++f2) [z,TO,i1,i2] (min n1 n2) (fun i vals=>∃ x y,P1 i x∧P2 i y∧vals=#[x,y])
   (fun i h=>IsZip h z TI TO .none∧IsPair h TI (.ref i1) (.ref i2)∧(∃ a b,IsPair h TO a b)∧S1 i h∧S2 i h)
   (fun i T h=>IsZip h z TI TO (rawInt T)∧IsPair h TI (.ref i1) (.ref i2)∧(∃ a b,IsPair h TO a b)∧S1 (i+1) h∧S2 (i+1) h∧T≠z∧T≠TO∧T≠i1∧T≠i2) where
 sub:=fun c hc=>by simp at hc ⊢; rcases hc with rfl | rfl | rfl | rfl <;> simp [m1,m2]
 frame:=fun i h h' hst hk=>by
  obtain ⟨hz,hTI,⟨a,b,hTO⟩,h1,h2⟩:=hst
  exact ⟨hk z (by simp) _ hz,hk TI (by simp) _ hTI,⟨a,b,hk TO (by simp) _ hTO⟩,(D1 A hh).frame _ _ _ h1 fun b hb o e=>hk b (by simp [hb]) o e,(D2 A hh).frame _ _ _ h2 fun b hb o e=>hk b (by simp [hb]) o e⟩
 item:=fun i s Q E hi hst hQ=>by
  obtain ⟨hz,hTI,⟨a,b,hTO⟩,h1,h2⟩:=hst
  have hT:s.TypeIs (.ref z) "zip":=⟨_,hz,rfl⟩
  have lt:∀ {c o},s.heap.get? c=some o→s.heap.objs.size≠c:=fun e=>qJ3 (qB5 e)
  unfold pyNext
  refine wpAny_bind (wpAny_attempt (wpAny_callSpecial?_slot (name:=Str.ofString "__next__") hT F.slot_zip_next
   (wpAny_call_entry F.slot_zip_next hT F.entry_zip_next (zJY hz hTI hTO hh D1 D2 ap h1 h2 (fun _ _ x y h' tk px py a1 a2 a3 a4 a5 a6 hk=>⟨_,rfl,wpAny_pure ?_⟩) (fun q=>by omega) (by omega) (by omega)) (F.args_zip_next_1 _))))
  refine hQ s.heap.objs.size #[x,y] h' tk ⟨x,y,px,py,rfl⟩ (qA9 _) ⟨_,a5,rfl,_,rfl⟩ ⟨a1,hk _ _ ap.TIz ap.TITO ap.TIi1 ap.TIi2 hTI,⟨_,_,a2⟩,a3,a4,lt hz,lt hTO,?_,?_⟩
   fun c o hc e=>hk c o (fun x=>hc (by simp [x])) (fun x=>hc (by simp [x])) (fun x=>hc (by simp [x])) (fun x=>hc (by simp [x])) e
  ·obtain ⟨_,e⟩:=(D1 A hh).live _ _ h1; exact lt e
  ·obtain ⟨_,e⟩:=(D2 A hh).live _ _ h2; exact lt e
 go:=fun elts k pos i T s Q E hm hQ=>by
  obtain ⟨hz,hTI,⟨a,b,hTO⟩,h1,h2,_⟩:=hm
  refine wpAny_letOwnedTupleGo_zip hz fun h' hz' hs'=>hQ h' ⟨hz',hs'.extBut _ _ ap.TIz hTI,⟨a,b,hs'.extBut _ _ ap.TOz hTO⟩,Draws.sb (D1 A hh) h1 hs' ap.z1,Draws.sb (D2 A hh) h2 hs' ap.z2⟩ fun c o hc e=>hs'.extBut _ _ (fun x=>hc (by simp [x])) e
 apart:=fun i T h hm hT=>by
  obtain ⟨_,_,_,_,_,t1,t2,t3,t4⟩:=hm
  simp at hT
  rcases hT with rfl | rfl | rfl | rfl
  ·exact t1 rfl
  ·exact t2 rfl
  ·exact t3 rfl
  ·exact t4 rfl
 done:=fun s Q E hst hQ=>by
  obtain ⟨hz,hTI,⟨a,b,hTO⟩,h1,h2⟩:=hst
  have hT:s.TypeIs (.ref z) "zip":=⟨_,hz,rfl⟩
  unfold pyNext
  refine wpAny_bind (wpAny_attempt (wpAny_callSpecial?_slot (name:=Str.ofString "__next__") hT F.slot_zip_next
   (wpAny_call_entry F.slot_zip_next hT F.entry_zip_next (zJY hz hTI hTO hh D1 D2 ap h1 h2 (fun q1 q2=>by omega) (fun _ h' e tk hk he=>?_) (by omega) (by omega)) (F.args_zip_next_1 _))))
  obtain ⟨o,ho,hc⟩:=he
  refine wpAny_bind (wpAny_isInstance (T := "StopIteration") (b:=true) ⟨o,ho,hc⟩ isSubtype_stop ?_)
  exact wpAny_pure (hQ _ _ fun c o hc e=>hk c o (fun x=>hc (by simp [x])) (fun x=>hc (by simp [x])) (fun x=>hc (by simp [x])) (fun x=>hc (by simp [x])) e)
 self:=fun i s Q E hst hQ=>wpAny_pyIter_zip hst.1 hQ
end
open PySem PySem.Spec PyProof.Rows
noncomputable def itO (b:Bool) (l:Addr):Obj:={ cls:=.type (if b then "tuple_iterator" else "list_iterator"),data:=.fields #[.ref l,.int 0 0] }
noncomputable abbrev zq2 (h:Heap) (b1 b2:Bool) (l1 l2:Addr):Heap:=(h.push (itO b1 l1)).push (itO b2 l2)
noncomputable abbrev zq3 (h:Heap) (b1 b2:Bool) (l1 l2:Addr):Heap:=(zq2 h b1 b2 l1 l2).push { cls:=.type "tuple",data:=.seq #[.ref h.objs.size,.ref (h.push (itO b1 l1)).objs.size] }
noncomputable abbrev zq4 (h:Heap) (b1 b2:Bool) (l1 l2:Addr):Heap:=(zq3 h b1 b2 l1 l2).push { cls:=.type "tuple",data:=.seq #[.none,.none] }
noncomputable abbrev zq5 (h:Heap) (b1 b2:Bool) (l1 l2:Addr):Heap:=(zq4 h b1 b2 l1 l2).push { cls:=.type "zip",data:=.fields #[.none,.bool false,.bool false,.ref (zq2 h b1 b2 l1 l2).objs.size,.ref (zq3 h b1 b2 l1 l2).objs.size] }
theorem zLE (l1 l2:Addr) (xs ys:yJ) :
  Meets (Builtin.«zip.__new__» ⟨[.type "zip",.ref l1,.ref l2],[]⟩) (fun _ R s=>s.heap.IsTuple l1 xs∧s.heap.IsTuple l2 ys ∧
   R (.ok (.ret (.ref (zq4 s.heap true true l1 l2).objs.size))) { s with heap:=zq5 s.heap true true l1 l2 }) :=
 .of_wp fun prog w A R s h=>by
  obtain ⟨hp,g,d,tk,os⟩:=s; obtain ⟨hl1,hl2,h⟩:=h
  have hsub:=sub_zip
  have hL1:qK4 (Shared.heap ⟨hp,g,d,tk,os⟩) l1 xs:=hl1
  have hL2:qK4 (Shared.heap ⟨hp.push { cls:=.type "tuple_iterator",data:=.fields #[.ref l1,.int 0 0] },g,d,tk,os⟩) l2 ys:=qK4.push hl2 _
  wp_walk using wpAny_pyIter_tuple hL1,wpAny_pyIter_tuple hL2
  exact ⟨_,rfl,h⟩
theorem zLF (l1 l2:Addr) (xs ys:yJ) :
  Meets (Builtin.«zip.__new__» ⟨[.type "zip",.ref l1,.ref l2],[]⟩) (fun _ R s=>s.heap.IsTuple l1 xs∧s.heap.IsList l2 ys ∧
   R (.ok (.ret (.ref (zq4 s.heap true false l1 l2).objs.size))) { s with heap:=zq5 s.heap true false l1 l2 }) :=
 .of_wp fun prog w A R s h=>by
  obtain ⟨hp,g,d,tk,os⟩:=s; obtain ⟨hl1,hl2,h⟩:=h
  have hsub:=sub_zip
  have hL1:qK4 (Shared.heap ⟨hp,g,d,tk,os⟩) l1 xs:=hl1
  have hL2:qM5 (Shared.heap ⟨hp.push { cls:=.type "tuple_iterator",data:=.fields #[.ref l1,.int 0 0] },g,d,tk,os⟩) l2 ys:=qM5.push hl2 _
  wp_walk using wpAny_pyIter_tuple hL1,wpAny_pyIter_list hL2
  exact ⟨_,rfl,h⟩
theorem zLG (l1 l2:Addr) (xs ys:yJ) :
  Meets (Builtin.«zip.__new__» ⟨[.type "zip",.ref l1,.ref l2],[]⟩) (fun _ R s=>s.heap.IsList l1 xs∧s.heap.IsTuple l2 ys ∧
   R (.ok (.ret (.ref (zq4 s.heap false true l1 l2).objs.size))) { s with heap:=zq5 s.heap false true l1 l2 }) :=
 .of_wp fun prog w A R s h=>by
  obtain ⟨hp,g,d,tk,os⟩:=s; obtain ⟨hl1,hl2,h⟩:=h
  have hsub:=sub_zip
  have hL1:qM5 (Shared.heap ⟨hp,g,d,tk,os⟩) l1 xs:=hl1
  have hL2:qK4 (Shared.heap ⟨hp.push { cls:=.type "list_iterator",data:=.fields #[.ref l1,.int 0 0] },g,d,tk,os⟩) l2 ys:=qK4.push hl2 _
  wp_walk using wpAny_pyIter_list hL1,wpAny_pyIter_tuple hL2
  exact ⟨_,rfl,h⟩
theorem zLH (l1 l2:Addr) (xs ys:yJ) :
  Meets (Builtin.«zip.__new__» ⟨[.type "zip",.ref l1,.ref l2],[]⟩) (fun _ R s=>s.heap.IsList l1 xs∧s.heap.IsList l2 ys ∧
   R (.ok (.ret (.ref (zq4 s.heap false false l1 l2).objs.size))) { s with heap:=zq5 s.heap false false l1 l2 }) :=
 .of_wp fun prog w A R s h=>by
  obtain ⟨hp,g,d,tk,os⟩:=s; obtain ⟨hl1,hl2,h⟩:=h
  have hsub:=sub_zip
  have hL1:qM5 (Shared.heap ⟨hp,g,d,tk,os⟩) l1 xs:=hl1
  have hL2:qM5 (Shared.heap ⟨hp.push { cls:=.type "list_iterator",data:=.fields #[.ref l1,.int 0 0] },g,d,tk,os⟩) l2 ys:=qM5.push hl2 _
  wp_walk using wpAny_pyIter_list hL1,wpAny_pyIter_list hL2
  exact ⟨_,rfl,h⟩
theorem zNS (b1 b2:Bool) (l1 l2:Addr) (xs ys:yJ) :
  Meets (Builtin.«zip.__new__» ⟨[.type "zip",.ref l1,.ref l2],[]⟩) (fun _ R s=>IsX b1 s.heap l1 xs∧IsX b2 s.heap l2 ys ∧
   R (.ok (.ret (.ref (zq4 s.heap b1 b2 l1 l2).objs.size))) { s with heap:=zq5 s.heap b1 b2 l1 l2 }):=by
 cases b1 with
 | true=>cases b2 with
  | true=>exact zLE l1 l2 xs ys
  | false=>exact zLF l1 l2 xs ys
 | false=>cases b2 with
  | true=>exact zLG l1 l2 xs ys
  | false=>exact zLH l1 l2 xs ys
theorem zMP {b:Bool}{h:Heap}{j l:Addr} (e:h.get? j=some (itO b l)):ItX b h j l 0:=by
 cases b with
 | true=>exact ⟨_,e,rfl,rfl⟩
 | false=>exact ⟨_,e,rfl,rfl⟩
theorem zKr (b:Bool) (l:Addr):(itO b l).isFreed=false:=by cases b <;> rfl
section
variable {prog:Program}{w:World}{A:Around}{E:yL}{s:Shared}
theorem zNu {b1 b2:Bool}{l1 l2:Addr}{xs ys:yJ}{Q:yL} (hl1:IsX b1 s.heap l1 xs) (hl2:IsX b2 s.heap l2 ys)
  (h:∀ h',IsZip h' (s.heap.objs.size+4) (s.heap.objs.size+2) (s.heap.objs.size+3) .none→IsPair h' (s.heap.objs.size+2) (.ref s.heap.objs.size) (.ref (s.heap.objs.size+1)) →
   IsPair h' (s.heap.objs.size+3) .none .none→ItX b1 h' s.heap.objs.size l1 0→ItX b2 h' (s.heap.objs.size+1) l2 0 →
   (∀ c o,s.heap.get? c=some o→h'.get? c=some o)→Q (.ref (s.heap.objs.size+4)) { s with heap:=h' }) :
  wpAny (model prog w) A (call (.type "zip") [.ref l1,.ref l2]) Q E s:=by
 refine callType_new F.called_zip (by decide) (F.typeCall_zip_2 _ _) (F.newCall_zip_2 _ _) (fun obj=>F.args_object_init_3 obj _ _) F.entry_zip_new (zNS b1 b2 l1 l2 xs ys) ⟨hl1,hl2,?_⟩
 have z1:(s.heap.push (itO b1 l1)).objs.size=s.heap.objs.size+1:=qG5 ..
 have z2:(zq2 s.heap b1 b2 l1 l2).objs.size=s.heap.objs.size+2:=by rw [qG5,z1]
 have z3:(zq3 s.heap b1 b2 l1 l2).objs.size=s.heap.objs.size+3:=by rw [qG5,z2]
 have z4:(zq4 s.heap b1 b2 l1 l2).objs.size=s.heap.objs.size+4:=by rw [qG5,z3]
 have g5:(zq5 s.heap b1 b2 l1 l2).get? (zq4 s.heap b1 b2 l1 l2).objs.size=some _:=qB3 _ rfl
 have g4:(zq5 s.heap b1 b2 l1 l2).get? (zq3 s.heap b1 b2 l1 l2).objs.size=some _:=qA3 _ (qB3 _ rfl)
 have g3:(zq5 s.heap b1 b2 l1 l2).get? (zq2 s.heap b1 b2 l1 l2).objs.size=some _:=qA3 _ (qA3 _ (qB3 _ rfl))
 have g2:(zq5 s.heap b1 b2 l1 l2).get? (s.heap.push (itO b1 l1)).objs.size=some (itO b2 l2):=qA3 _ (qA3 _ (qA3 _ (qB3 _ (zKr _ _))))
 have g1:(zq5 s.heap b1 b2 l1 l2).get? s.heap.objs.size=some (itO b1 l1):=qA3 _ (qA3 _ (qA3 _ (qA3 _ (qB3 _ (zKr _ _)))))
 show _∧_
 rw [z2,z3,z4] at g5
 rw [z1,z2] at g3
 rw [z3] at g4
 rw [z1] at g2
 rw [z4]
 exact ⟨⟨_,g5,rfl⟩,h _ g5 g3 g4 (zMP g1) (zMP g2) fun c o x =>
  qA3 _ (qA3 _ (qA3 _ (qA3 _ (qA3 _ x))))⟩
end
theorem zQ6 {n l1 l2:Addr} (h1:l1<n) (h2:l2<n):ZAp (n+4) (n+2) (n+3) n (n+1) [n,l1] [n+1,l2]:=by
 constructor <;> (try simp only [qB6,qF4,or_false,not_or]) <;> (try refine ⟨?_,?_⟩) <;> (show ¬ ((_:Nat)=_)) <;> (simp only [Addr] at *; omega)
inductive ZgoX (b1 b2:Bool) (K:W.Frag) (H:Hp) (a b:Addr) (i:Nat):Prop
 | mk (xs ys:List V) (x y:V) (q1:SqX b1 K H a xs) (q2:SqX b2 K H b ys) (ex:xs[i]?=some x) (ey:ys[i]?=some y)
inductive ZstX (b1 b2:Bool) (K:W.Frag) (H:Hp) (a b:Addr) (i:Nat):Prop
 | mk (xs ys:List V) (q1:SqX b1 K H a xs) (q2:SqX b2 K H b ys) (ei:i=min xs.length ys.length)
noncomputable def ItzX (b1 b2:Bool) (K:W.Frag) (a b:Addr):It :=
  ⟨fun i H=>ZgoX b1 b2 K H a b i,
   fun i H v H'=>∃ T,H T=none∧v=.ref T∧∀ xs ys x y,SqX b1 K H a xs→SqX b2 K H b ys→xs[i]?=some x→ys[i]?=some y→H'=upd H T (.tup [x,y]),
   fun i H=>ZstX b1 b2 K H a b i⟩
structure ZsX (b1 b2:Bool) (z TI TO i1 i2 l1 l2:Addr) (i:Nat) (h:Heap):Prop where
 a1:IsZip h z TI TO .none
 a2:IsPair h TI (.ref i1) (.ref i2)
 a3:∃ a b,IsPair h TO a b
 a4:ItX b1 h i1 l1 i
 a5:ItX b2 h i2 l2 i
section
variable {b1 b2:Bool}{z TI TO i1 i2 l1 l2:Addr}{i:Nat}{h:Heap}
theorem ZsX.obj (st:ZsX b1 b2 z TI TO i1 i2 l1 l2 i h):∀ b∈[z,TI,TO,i1,i2],∃ o,h.get? b=some o∧∀ v,o.data≠.cell v:=by
 obtain ⟨_,_,a3⟩:=st.a3
 exact allC ⟨_,st.a1,fun v q=>by cases q⟩ (allC ⟨_,st.a2,fun v q=>by cases q⟩ (allC ⟨_,a3,fun v q=>by cases q⟩ (allC st.a4.obj (allC st.a5.obj allN))))
theorem ZsX.ne (st:ZsX b1 b2 z TI TO i1 i2 l1 l2 i h) {T:Addr} (hT:h.objs.size≤T):∀ b∈[z,TI,TO,i1,i2],b≠T:=fun b hb=>by
 obtain ⟨o,e,_⟩:=st.obj b hb
 exact qC4 (qC1 (qB5 e) hT)
theorem zsub:∀ b∈[z,TO,i1,i2],b∈[z,TI,TO,i1,i2]:=allC (by simp) (allC (by simp) (allC (by simp) (allC (by simp) allN)))
inductive ZFX (b1 b2:Bool) (X:Cx) (s:Shared) (H:Hp) (l1 l2:Addr) (i:Nat):Prop
 | mk (xs ys:List V) (x y:V) (t1 t2:yB) (u1 u2:Value) (q1:SqX b1 X.K H l1 xs) (q2:SqX b2 X.K H l2 ys) (ex:xs[i]?=some x) (ey:ys[i]?=some y) (p1:IsX b1 s.heap l1 t1.toArray) (p2:IsX b2 s.heap l2 t2.toArray)
  (e1:t1[i]?=some u1) (e2:t2[i]?=some u2) (r1:RelV x u1) (r2:RelV y u2)
variable {X:Cx}{pins:yD}{σ:St}{H:Hp}{s:Shared}
theorem zfX (I:Inv X pins σ H s) (hg:ZgoX b1 b2 X.K H l1 l2 i):ZFX b1 b2 X s H l1 l2 i:=by
 obtain ⟨xs,ys,x,y,q1,q2,ex,ey⟩:=hg
 obtain ⟨its1,r1,p1⟩:=I.sqX q1
 obtain ⟨its2,r2,p2⟩:=I.sqX q2
 obtain ⟨u1,e1,ru1⟩:=r1.get ex
 obtain ⟨u2,e2,ru2⟩:=r2.get ey
 exact ⟨xs,ys,x,y,its1,its2,u1,u2,q1,q2,ex,ey,p1,p2,e1,e2,ru1,ru2⟩
theorem zvX {t1 t2:yB}{u1 u2:Value}{vals:yJ} (e1:t1[i]?=some u1) (e2:t2[i]?=some u2) (hv:∃ v1 v2,t1.toArray[i]?=some v1∧t2.toArray[i]?=some v2∧vals=#[v1,v2]):vals=#[u1,u2]:=by
 obtain ⟨v1,v2,g1,g2,rfl⟩:=hv
 rw [qD2,e1] at g1
 rw [qD2,e2] at g2
 cases g1; cases g2; rfl
theorem zyX (I:Inv X pins σ H s) {xs ys:List V}{x y:V} (q1:SqX b1 X.K H l1 xs) (q2:SqX b2 X.K H l2 ys) (ex:xs[i]?=some x) (ey:ys[i]?=some y) {T:Addr} (xs' ys':List V) (x' y':V) (s1:SqX b1 X.K H l1 xs') (s2:SqX b2 X.K H l2 ys') (t1:xs'[i]?=some x') (t2:ys'[i]?=some y'):upd H T (.tup [x,y])=upd H T (.tup [x',y']):=by
 have h1:=I.sqX_inj q1 s1
 have h2:=I.sqX_inj q2 s2
 subst h1 h2
 rw [ex] at t1; rw [ey] at t2
 cases t1; cases t2; rfl
end
theorem zLM {P:Program}{w:World}{K:PySem.W.Frag}{elts:yE}{k:Nat}{pos:Pos} (b1 b2:Bool) (z TI TO i1 i2 l1 l2:Addr) (D:ZAp z TI TO i1 i2 [i1,l1] [i2,l2]) (d1:l1≠i1) (d2:l2≠i2) :
  Turn P w K (.Tuple elts k pos) (ItzX b1 b2 K l1 l2) [z,TI,TO,i1,i2] z (ZsX b1 b2 z TI TO i1 i2 l1 l2) where
 mem:=by simp
 obj:=fun i h st=>st.obj
 keep:=fun i h h' ⟨a1,a2,⟨x,y,a3⟩,a4,a5⟩ kk =>
  ⟨kk z (by simp) _ a1,kk TI (by simp) _ a2,⟨x,y,kk TO (by simp) _ a3⟩,a4.keep fun o e=>kk i1 (by simp) o e,a5.keep fun o e=>kk i2 (by simp) o e⟩
 item:=by
  intro X hP hw hK hc i pins s σ H E I hf st hg
  subst hP hw hK
  obtain ⟨xs,ys,x,y,its1,its2,u1,u2,q1,q2,ex,ey,p1,p2,e1,e2,ru1,ru2⟩:=zfX I hg
  have W:=WalksT.zipD (prog:=X.prog) (w:=X.w) (I.ok.hd hc) (fun A hh=>zGc b1 hh i1 l1 d1 its1.toArray) (fun A hh=>zGc b2 hh i2 l2 d2 its2.toArray) D (by simp) (by simp)
  have hl1:i<its1.length:=(qA4.mp e1).1
  have hl2:i<its2.length:=(qA4.mp e2).1
  have hwr:∀ b∈[z,TO,i1,i2],FpOk X pins H b:=fun b hb=>hf b (zsub b hb)
  refine W.item i s _ _ (by simp only [qB0]; omega) ⟨st.a1,st.a2,st.a3,⟨st.a4,p1⟩,st.a5,p2⟩ fun T vals h' tk hv hT hIs hM kk=>?_
  have hvv:=zvX e1 e2 hv
  subst hvv
  have nT:=st.ne hT
  refine ⟨_,rfl,W.go _ _ _ i T { s with heap:=h',toks:=tk } _ _ hM fun h2 st2 kk2=>?_⟩
  have I1:Inv X pins σ (upd H T (.tup [x,y])) { s with heap:=h',toks:=tk }:=I.yields (its:=[u1,u2]) hwr kk hT (.cons ru1 (.cons ru2 .nil)) (by show 2≤sizeLine; decide) hIs
  have I2:=I1.turnedL (tk:=tk) (zPT hwr fun b hb=>nT b (zsub b hb)) kk2
  exact ⟨.ref T,_,I2,rfl,⟨T,I.hok.fresh hT,rfl,zyX I q1 q2 ex ey⟩,⟨st2.1,st2.2.1,st2.2.2.1,st2.2.2.2.1.1,st2.2.2.2.2.1⟩,fun b hb=>by rw [zAb (nT b hb)]; exact (hf b hb).1⟩
 done:=by
  intro X hP hw hK hc i pins s σ H E I hf st hg
  subst hP hw hK
  obtain ⟨xs,ys,q1,q2,ei⟩:=hg
  obtain ⟨its1,r1,p1⟩:=I.sqX q1
  obtain ⟨its2,r2,p2⟩:=I.sqX q2
  have W:=WalksT.zipD (prog:=X.prog) (w:=X.w) (I.ok.hd hc) (fun A hh=>zGc b1 hh i1 l1 d1 its1.toArray) (fun A hh=>zGc b2 hh i2 l2 d2 its2.toArray) D (by simp) (by simp)
  have en:i=min its1.toArray.size its2.toArray.size:=by simp only [qB0,← r1.length,← r2.length]; exact ei
  refine W.done s _ _ (by rw [← en]; exact ⟨st.a1,st.a2,st.a3,⟨st.a4,p1⟩,st.a5,p2⟩) fun h' tk kk=>?_
  exact ⟨rfl,I.turnedL (fun b hb=>hf b (zsub b hb)) kk⟩
 self:=fun _ _ _ _ _ st h=>wpAny_pyIter_zip st.a1 h
section
variable {X:Cx}
def zUj (K:W.Frag) (ta:TA):TI:=fun σ H R=>ta σ H fun vs H1=>∃ a b b1 b2,vs=[.ref a,.ref b]∧(∃ xs,SqX b1 K H1 a xs)∧(∃ ys,SqX b2 K H1 b ys)∧R (ItzX b1 b2 K a b) H1
theorem zQV {elts:yE}{k:Nat}{tpos:Pos}{a b:Expr}{ta:TA}{p pos:Pos} (hg:Gl X "zip") (hm:X.mg "zip"=none) (ha:PA X [a,b] ta) (hs:starEach [a,b] X.env=[(false,eval a X.env),(false,eval b X.env)]:=by rfl) (hs2:starEach [b] X.env=[(false,eval b X.env)]:=by rfl) :
  PI X (.Tuple elts k tpos) (.Call (.Name "zip" p) [a,b] [] pos) (zUj X.K ta):=by
 intro pins s σ H R I h
 refine Call_ (zET I hg hm zUI (PyProof.Rows.callWith_type1 (thn (ha pos pins s σ H _ I h) fun us s1 ⟨vs,H1,I1,r1,q1⟩=>?_) (by rw [hs,hs2]) (by rw [hs2]; rfl)))
 obtain ⟨l1,l2,b1,b2,e,⟨xs,h1⟩,⟨ys,h2⟩,q⟩:=q1
 subst e
 cases r1 with
 | cons r rr =>
  cases rr with
  | cons r' rr =>
   cases rr
   cases r
   cases r'
   obtain ⟨its1,v1,p1⟩:=I1.sqX h1
   obtain ⟨its2,v2,p2⟩:=I1.sqX h2
   refine zNu p1 p2 fun h' hz hTI hTO hi1 hi2 hk=>?_
   refine wpAny_pyIter_zip hz ?_
   have I2:Inv X pins σ H1 { s1 with heap:=h' }:=I1.kept (t':=s1.toks) hk
   refine ⟨_,_,_,_,H1,rfl,I2,zLM b1 b2 _ _ _ _ _ l1 l2 (zQ6 p1.lt p2.lt) (qC4 p1.lt) (qC4 (qG6 p2.lt)),⟨hz,hTI,⟨_,_,hTO⟩,hi1,hi2⟩,fun b hb=>?_,q⟩
   have hle:s1.heap.objs.size≤b:=by
    simp only [qB6,qF4,or_false] at hb
    rcases hb with rfl | rfl | rfl | rfl | rfl
    ·exact qM2 _ _
    ·exact qM2 _ _
    ·exact qM2 _ _
    ·exact qA9 _
    ·exact qM2 _ _
   exact I1.fpOk hle (I1.hok.fresh hle)
end
open PySem PySem.Spec PyProof.Rows
section
variable {X:Cx}{pins:yD}{σ:St}{H:Hp}{s:Shared}{scope:Scope}{N:yH}{C:Addr}{ex:yC}
theorem zKU {elt iter tg:Expr}{ifs:yE}{pos pos' spos:Pos}{y0:Str}{go:TG} (hgo:PG X (.Name y0 pos') go) (hsw:swapsWith (.ListComp elt [⟨tg,iter,ifs,0⟩] scope pos) (some (.Name y0 pos')) spos.line X.env=pure true) {wi:TI}{g:TG}{tc:TT}{te:TE}{k:Nat}{js:List Nat}
  (B:zLB X scope N k js) (hi:PI X tg iter wi)
  (hg:∀ cl s H C ex,PG (zBd X scope N cl s H C ex) tg g) (htc:∀ cl s H C ex,PTs (zBd X scope N cl s H C ex) ifs tc) (hte:∀ cl s H C ex,PE (zBd X scope N cl s H C ex) elt te)
  (hs:∀ x,foldedSetIterable iter X.env x=pure x:=by intro _; rfl):PS X (.Assign [.Name y0 pos'] (.ListComp elt [⟨tg,iter,ifs,0⟩] scope pos) spos) (tAsg (zQh wi k js g tc te) go):=by
 intro pins s σ H D0 I h
 rw [exec_Assign_Name_used _ _ _ _ hsw]
 refine wpAny_bind (wpAny_standAt (wpAny_bind ?_))
 show wpAny _ X.A (do let _ ← comprehension (.ListComp elt [⟨tg,iter,ifs,0⟩] scope pos) scope X.env _ (newList []) false (eval iter X.env) (some (assign (.Name y0 pos') X.env))) _ _ s
 refine wpAny_bind (wpAny_mono (wpAny_comprehension_free (use:=some (assign (.Name y0 pos') X.env)) (Q:=fun _ s'=>SP X pins D0 .next s') rfl hs (zDP fun x hx=>I.ok.has x (B.free x hx)) B.kind B.names (thn (hi pins s σ H _ I h) fun v s1 h1=>thn h1 fun itv s2 h2=>?_)) (fun _ s' hq=>wpAny_pure (wpAny_pure hq)) fun _ _ e=>e)
 obtain ⟨it,fp,tn,J,H2,e,I2,T,st2,f2,hW⟩:=h2
 subst e
 refine zKB (Q:=fun x H1=>go x σ H1 D0.nx) B I2 T st2 f2 hg htc hte hW fun cl C H4 s5 hCle hDC I5 q=>?_
 obtain ⟨m,hn,_⟩:=id I5.loc
 have hC4:H4 C=none:=I5.free
 have IA:Inv X pins σ H4 s5:=I2.call' (s':=s5) (ch:=fp) I5.os I5.base I5.hok I5.bare (fun b hb=>⟨(f2 b hb).2.2.2.1,(f2 b hb).2.1,(f2 b hb).2.2.2.2.1,(f2 b hb).2.2.2.2.2⟩)
 have fC:∀ {H':Hp},H' C=none→∀ b∈[C],FpOk X pins H' b:=fun hn b hb=>by
  have:b=C:=by simpa using hb
  subst this
  exact I2.fpOk hCle hn
 have oC:∀ b∈[C],∃ o,s5.heap.get? b=some o∧∀ v,o.data≠.cell v:=fun b hb=>by
  have:b=C:=by simpa using hb
  subst this
  obtain ⟨o,_,_,ho,hd,_⟩:=id hn
  exact ⟨o,ho,fun v z=>by rw [hd] at z; cases z⟩
 have IB:=IA.pinned (fC hC4) oC
 refine thn (hgo _ s5 σ H4 (.ref s2.heap.objs.size) (.ref s2.heap.objs.size) _ IB rfl q) fun _ s6 ⟨σ6,H6,I6,q6⟩=>?_
 obtain ⟨oc,hoc,_⟩:=oC C (by simp)
 have hp6:=I6.pin (C,oc) (qD0 _ (qD0 _ (zCr (by simp) hoc)))
 refine ⟨m,hn.at' fun o e=>?_,fun h' hs'=>⟨σ6,H6,?_,q6⟩⟩
 ·have e':s5.heap.get? C=some o:=e
  rw [hoc] at e'; cases e'; exact hp6.1
 ·exact I6.unpinned.turnedL (wr:=[C]) (tk:=s6.toks) (fC hp6.2.1) fun b o nb e=>hs'.extBut b o (by simpa using nb) e
end
open PySem PySem.Spec PyProof.Rows
abbrev zUY (h:Heap) (T:Addr) (a b c:Value):Prop:=h.get? T=some { cls:=.type "tuple",data:=.seq #[a,b,c] }
structure ZAp3 (z TI TO i1 i2 i3:Addr) (f1 f2 f3:yC):Prop where
 TIz:TI≠z
 TOz:TO≠z
 i1z:i1≠z
 i2z:i2≠z
 i3z:i3≠z
 TITO:TI≠TO
 TIi1:TI≠i1
 TIi2:TI≠i2
 TIi3:TI≠i3
 TOi1:TO≠i1
 TOi2:TO≠i2
 TOi3:TO≠i3
 z1:z∉f1
 z2:z∉f2
 z3:z∉f3
 O1:TO∉f1
 O2:TO∉f2
 O3:TO∉f3
 a12:i1∉f2
 a13:i1∉f3
 a21:i2∉f1
 a23:i2∉f3
 a31:i3∉f1
 a32:i3∉f2
inductive Zgo3 (K:W.Frag) (H:Hp) (a b c:Addr) (i:Nat):Prop
 | mk (xs ys us:List V) (x y u:V) (q1:SqL K H a xs) (q2:SqT K H b ys) (q3:SqT K H c us) (ex:xs[i]?=some x) (ey:ys[i]?=some y) (eu:us[i]?=some u)
inductive Zst3 (K:W.Frag) (H:Hp) (a b c:Addr) (i:Nat):Prop
 | mk (xs ys us:List V) (q1:SqL K H a xs) (q2:SqT K H b ys) (q3:SqT K H c us) (ei:i=min xs.length (min ys.length us.length))
structure Zs3 (z TI TO i1 i2 i3 l1 l2 l3:Addr) (i:Nat) (h:Heap):Prop where
 a1:IsZip h z TI TO .none
 a2:zUY h TI (.ref i1) (.ref i2) (.ref i3)
 a3:∃ a b c,zUY h TO a b c
 a4:ItX false h i1 l1 i
 a5:ItX true h i2 l2 i
 a6:ItX true h i3 l3 i
section
variable {z TI TO i1 i2 i3 l1 l2 l3:Addr}{i:Nat}{h:Heap}
theorem Zs3.obj (st:Zs3 z TI TO i1 i2 i3 l1 l2 l3 i h):∀ b∈[z,TI,TO,i1,i2,i3],∃ o,h.get? b=some o∧∀ v,o.data≠.cell v:=by
 obtain ⟨_,_,_,a3⟩:=st.a3
 exact allC ⟨_,st.a1,fun v q=>by cases q⟩ (allC ⟨_,st.a2,fun v q=>by cases q⟩ (allC ⟨_,a3,fun v q=>by cases q⟩ (allC st.a4.obj (allC st.a5.obj (allC st.a6.obj allN)))))
theorem Zs3.ne (st:Zs3 z TI TO i1 i2 i3 l1 l2 l3 i h) {T:Addr} (hT:h.objs.size≤T):∀ b∈[z,TI,TO,i1,i2,i3],b≠T:=fun b hb=>by
 obtain ⟨o,e,_⟩:=st.obj b hb
 exact qC4 (qC1 (qB5 e) hT)
inductive ZF3 (X:Cx) (s:Shared) (H:Hp) (l1 l2 l3:Addr) (i:Nat):Prop
 | mk (xs ys us:List V) (x y u:V) (t1 t2 t3:yB) (u1 u2 u3:Value) (q1:SqL X.K H l1 xs) (q2:SqT X.K H l2 ys) (q3:SqT X.K H l3 us) (ex:xs[i]?=some x) (ey:ys[i]?=some y) (eu:us[i]?=some u)
  (p1:IsX false s.heap l1 t1.toArray) (p2:IsX true s.heap l2 t2.toArray) (p3:IsX true s.heap l3 t3.toArray) (e1:t1[i]?=some u1) (e2:t2[i]?=some u2) (e3:t3[i]?=some u3) (r1:RelV x u1) (r2:RelV y u2) (r3:RelV u u3)
variable {X:Cx}{pins:yD}{σ:St}{H:Hp}{s:Shared}
end
open PySem PySem.Spec PyProof.Rows
theorem zEs {prog:Program}{w:World}{A:Around}{E:yL}{s:Shared}{sl:Addr}{t:Tok}{n:Nat}{Q:Int × Int × Nat→Shared→Prop} (hs:s.heap.IsSliceOf sl .none .none (.int (-1) t))
  (h:Q ((n:Int) - 1,-1,n) s):wpAny (model prog w) A (Builtin.Slice.sliceApplied (.ref sl) (pure (n:Int))) Q E s:=by
 obtain ⟨os,hos,hcs,hds⟩:=id hs
 unfold Builtin.Slice.sliceApplied Builtin.Slice.sliceFields
 refine wpAny_bind (wpAny_bind (wpAny_field hos hds (x:=.none) rfl (wpAny_bind (wpAny_field hos hds (x:=.none) rfl (wpAny_bind (wpAny_field hos hds (x:=.int (-1) t) rfl (wpAny_pure ?_)))))))
 refine wpAny_bind (HT.slicePart_ (.int (-1) t) ?_)
 show wpAny _ _ (if ((-1:Int) == 0)=true then _ else _) _ _ s
 rw [if_neg (by decide)]
 refine wpAny_bind (HT.slicePart_ .none (wpAny_bind (HT.slicePart_ .none (wpAny_bind (wpAny_pure ?_)))))
 show wpAny _ _ (match Builtin.Slice.sliceAdjust none none (-1) (n:Int) with | (lo,hi)=>pure (lo,(-1:Int),Builtin.Slice.slicePlaces lo hi (-1))) _ _ s
 have e1:Builtin.Slice.sliceAdjust none none (-1) (n:Int)=((n:Int) - 1,-1):=by
  unfold Builtin.Slice.sliceAdjust
  rfl
 rw [e1]
 have e2:Builtin.Slice.slicePlaces ((n:Int) - 1) (-1) (-1)=n:=by
  unfold Builtin.Slice.slicePlaces
  have h1:¬ ((-1:Int)>0):=by decide
  simp only [h1,if_false]
  split
  ·have e3:(- -1:Int)=1:=rfl
   rw [e3,Int.ediv_one]
   omega
  ·omega
 show wpAny _ _ (pure ((n:Int) - 1,(-1:Int),Builtin.Slice.slicePlaces ((n:Int) - 1) (-1) (-1))) _ _ s
 rw [e2]
 exact wpAny_pure h
theorem zOq (xs:yJ):((List.range xs.size).filterMap fun (m:Nat)=>xs[(((xs.size:Int) - 1)+(m:Int)*-1).toNat]?).toArray=xs.toList.reverse.toArray:=by
 congr 1
 have key:∀ k,k≤xs.size→((List.range k).filterMap fun (m:Nat)=>xs[(((xs.size:Int) - 1)+(m:Int)*-1).toNat]?)=xs.toList.reverse.take k:=by
  intro k
  induction k with
  | zero=>intro _; simp
  | succ k ih =>
   intro hk
   rw [List.range_succ,qQ0,ih (by omega),qO3]
   congr 1
   have e2:(((xs.size:Int) - 1)+(k:Int)*-1).toNat=xs.size - 1 - k:=by omega
   rw [qQ1 (by rw [Array.length_toList]; omega),Array.length_toList]
   simp only [qG8,qN8,e2]
   rw [Array.getElem?_toList]
   rw [Array.getElem?_eq_getElem (by omega)]
   rfl
 rw [key _ (qA9 _),qE3 (by simp)]
theorem zEd {prog:Program}{w:World}{A:Around}{E:yL}{s:Shared}{t sl:Addr}{items:yJ}{tk:Tok}{Q:yL} (ht:IsTup s.heap t items) (hs:s.heap.IsSliceOf sl .none .none (.int (-1) tk))
  (h:Q (.ref s.heap.objs.size) { s with heap:=s.heap.push { cls:=.type "tuple",data:=.seq items.toList.reverse.toArray } }) (hsz:items.size≤sizeLine):wpAny (model prog w) A (getItem (.ref t) (.ref sl)) Q E s:=by
 have htake:sizeOk (.seq items.toList.reverse.toArray):=by
  show items.toList.reverse.toArray.size≤sizeLine
  simpa using hsz
 obtain ⟨os,hos,hcs,hds⟩:=id hs
 have hTs:s.TypeIs (.ref sl) "slice":=⟨os,hos,hcs⟩
 unfold getItem
 try with_reducible refine wpAny_holding ?_
 first | refine wpAny_bind (wpAny_pure ?_) | skip
 refine wpAny_bind (wpAny_sequenceKey ht.typeIs (by decide) ?_)
 refine wpAny_bind (wpAny_callSpecial?_slot (name:=Str.ofString "__getitem__") ht.typeIs PyProof.Rows.slot_tuple_getitem
  (wpAny_call_entry PyProof.Rows.slot_tuple_getitem ht.typeIs entry_tuple_getitem ?_ (args_tuple_getitem _ _)))
 show wpAny _ _ (Builtin.Tuple.tupleItemsOf (.ref t) >>= _) _ _ s
 refine wpAny_bind (tupleItemsOf_ ht ?_)
 refine wpAny_bind (wpAny_typeOf hTs ?_)
 rw [if_pos (by decide)]
 refine wpAny_bind (zEs hs ?_)
 show wpAny _ _ (if ((((items.size:Int) - 1)) == 0&&(-1:Int) == 1&&items.size == items.size)=true then _ else _) _ _ s
 rw [if_neg (by simp),zOq]
 first
  | exact wpAny_bind (m:=Builtin.Tuple.tupleExact _) (wpAny_newObj_type (wpAny_pure ⟨_,rfl,wpAny_pure h⟩) htake)
  | exact wpAny_bind (m:=Builtin.Tuple.tupleExact _) (wpAny_newObj_type (wpAny_bind (wpAny_pure (wpAny_pure ⟨_,rfl,wpAny_pure h⟩))) htake)
  | exact wpAny_bind (wpAny_bind (m:=Builtin.Tuple.tupleExact _) (wpAny_newObj_type (wpAny_pure (wpAny_pure ⟨_,rfl,wpAny_pure h⟩)) htake))
  | exact wpAny_bind (wpAny_bind (m:=Builtin.Tuple.tupleExact _) (wpAny_newObj_type (wpAny_pure ⟨_,rfl,wpAny_pure h⟩) htake))
section
variable {X:Cx}
def tRev (K:W.Frag) (te ts:TE):TE:=fun σ H Q=>te σ H fun x H1=>ts σ H1 fun y H2=>y=.int (-1)∧∃ a xs,x=.ref a∧SqT K H2 a xs∧∀ p,H2 p=none→Q (.ref p) (upd H2 p (.tup xs.reverse))
theorem Vals.rev {xs:List V}{us:yB} (r:Vals xs us):Vals xs.reverse us.reverse:=by
 induction r with
 | nil=>exact .nil
 | cons r t ih=>rw [qL6,qL6]; exact ih.append (.cons r .nil)
theorem zT7 {e st:Expr}{te ts:TE}{p2 pos:Pos} (he:PE X e te) (hst:PE X st ts):PE X (.Subscript e (.Slice none none (some st) p2) pos) (tRev X.K te ts):=by
 intro pins s σ H Q I h
 refine Subscript_ (thn (he pins s σ H _ I h) fun v s1 ⟨x,H1,I1,r1,q1⟩=>?_)
 refine wpAny_Slice ?_
 rw [evalPart_none,evalPart_some]
 refine wpAny_pure (wpAny_pure (thn (hst pins s1 σ H1 _ I1 q1) fun vs s3 ⟨y,H3,I3,ry,q3⟩=>?_))
 obtain ⟨rfl,a,xs,rfl,hx,q⟩:=q3
 obtain ⟨tk,rfl⟩:=ry
 cases r1
 have I4:Inv X pins σ H3 { s3 with heap:=s3.heap.push { cls:=.type "slice",data:=.fields #[.none,.none,.int (-1) tk] } }:=I3.kept (t':=s3.toks) fun b ob q=>qA3 _ q
 obtain ⟨its,r,ht,hz⟩:=I4.tuple hx
 have hlen:its.toArray.size=xs.length:=by rw [qB0]; exact r.length.symm
 show wpAny (model X.prog X.w) X.A (subscriptTail e (.Slice none none (some st) p2) (.ref a) (.ref s3.heap.objs.size)) (EP X pins σ Q) X.xe { s3 with heap:=s3.heap.push { cls:=.type "slice",data:=.fields #[.none,.none,.int (-1) tk] } }
 refine tail_any (ops:=[.ref a,.ref s3.heap.objs.size]) ht.typeIs PyProof.Rows.slot_tuple_getitem.lookup ?_ (by with_unfolding_all rfl)
 refine zEd ht (qU0.new ..) ?_ (by rw [hlen]; exact hz)
 refine ⟨.ref _,_,I4.laid (t':=s3.toks) (o:=.tup xs.reverse) (fun b ob q=>qA3 _ q) (qA9 _) ?_,rfl,q _ (I4.hok.fresh (qA9 _))⟩
 exact ⟨by rw [qQ8]; exact hz,_,r.rev,IsTup.new _ _⟩
theorem zF5:∀ {us:yB}{ns:yA},IntsAre us ns→Vals (ns.map V.int) us
 | _,_,h=>by
  induction h with
  | nil=>exact .nil
  | cons _ _ _ ih=>exact .cons ⟨_,rfl⟩ ih
theorem zIu:zAW X (.builtin "sorted") (fun vs H Q=>∃ (p:Addr) (ns:yA),vs=[.ref p]∧SqL X.K H p (ns.map V.int)∧ns.length<64∧∀ (l:Addr) (ms:yA),H l=none→ms.Perm ns→ms.Pairwise (·≤·)→Q (.ref l) (upd H l (.lst (ms.map V.int)))):=by
 intro pins s σ H xs us Q I r h
 obtain ⟨p,ns,rfl,hq,hn,q⟩:=h
 obtain ⟨u,rfl,ru⟩:=zCR r
 cases ru
 obtain ⟨its,rv,pl,hz⟩:=I.list hq
 have hlen:=rv.length
 rw [qA6] at hlen
 refine sorted_ints pl.isList (zEc rv) (by omega) fun out ns' h1 h2 h3=>?_
 obtain ⟨e,he⟩:=sortedAll_at s.heap its out
 have hl:ns'.length=ns.length:=h2.length_eq
 refine ⟨.ref (s.heap.objs.size+1),_,I.laid (t':=s.toks) (o:=.lst (ns'.map V.int)) (fun b o e=>sortedAll_old e) (qO1 _) ?_,rfl,q _ _ (I.hok.fresh (qO1 _)) h2 h3⟩
 exact ⟨by rw [qA6,hl]; exact qC5 (qH3 hn) (by decide),out.toList,e,zF5 h1,by simpa [seqObj] using he⟩
theorem zFY {A:Around}{prog:Program}{w:World}{ns:yA}{its:yB} (r:Vals (ns.map V.int) its):TruthOf prog w A (fun i v=>its.toArray[i]?=some v) (fun i=>(ns.map (· != 0)).getD i false):=by
 intro i v s Q E hv hq
 have hv':its[i]?=some v:=by simpa using hv
 have hl:i<ns.length:=by
  have h1:=(qA4.mp hv').1
  have h2:=r.length
  rw [qA6] at h2
  omega
 obtain ⟨u,e,ru⟩:=Vals.get r (i:=i) (x:=.int ns[i]) (by rw [qB7,qA5 hl]; rfl)
 rw [e] at hv'
 cases hv'
 obtain ⟨t,rfl⟩:=ru
 have eq:(ns.map (· != 0)).getD i false=(ns[i] != 0):=by simp [qM1,hl]
 have hq':Q ((ns.map (· != 0)).getD i false) s:=hq
 rw [eq] at hq'
 exact PyProof.Rows.truthy_int hq'
theorem zNz (hc:X.calm=true):zAW X (.builtin "all") (fun vs H Q=>∃ (p:Addr) (ns:yA),vs=[.ref p]∧SqT X.K H p (ns.map V.int)∧Q (.bl (ns.all (· != 0))) H):=by
 intro pins s σ H xs us Q I r h
 obtain ⟨p,ns,rfl,hq,q⟩:=h
 obtain ⟨u,rfl,ru⟩:=zCR r
 cases ru
 obtain ⟨its,rv,pl,hz⟩:=I.tuple hq
 have pl':s.heap.IsTuple p its.toArray:=pl
 have hlt:p<s.heap.objs.size:=by obtain ⟨_,e,_⟩:=pl'; exact qB5 e
 have hlen:=rv.length
 rw [qA6] at hlen
 refine call_all_walk (wpAny_pyIter_tuple pl' ?_)
 refine ⟨s.heap.objs.size,_,[s.heap.objs.size],_,_,_,_,rfl,Walks.tuple (A:=X.A.in1) (show X.A.in1.handled=none from I.ok.hd hc) s.heap.objs.size p (qC4 hlt) its.toArray,⟨⟨_,qB3 _ rfl,rfl,rfl⟩,pl'.push _⟩,zFY rv,fun h' tk kk=>?_⟩
 have e:(List.range its.toArray.size).all (fun i=>(ns.map (· != 0)).getD i false)=ns.all (· != 0):=by rw [qB0,← hlen,show ns.length=(ns.map (· != 0)).length by simp,zHE,qL5]; rfl
 rw [e]
 refine ⟨.bl (ns.all (· != 0)),H,?_,rfl,q⟩
 exact I.kept (t':=tk) fun b o eb=>kk b o (by simp only [qA8]; exact qC4 (qB5 eb)) (qA3 _ eb)
theorem zNx (hc:X.calm=true):zAW X (.builtin "any") (fun vs H Q=>∃ (p:Addr) (ns:yA),vs=[.ref p]∧SqT X.K H p (ns.map V.int)∧Q (.bl (ns.any (· != 0))) H):=by
 intro pins s σ H xs us Q I r h
 obtain ⟨p,ns,rfl,hq,q⟩:=h
 obtain ⟨u,rfl,ru⟩:=zCR r
 cases ru
 obtain ⟨its,rv,pl,hz⟩:=I.tuple hq
 have pl':s.heap.IsTuple p its.toArray:=pl
 have hlt:p<s.heap.objs.size:=by obtain ⟨_,e,_⟩:=pl'; exact qB5 e
 have hlen:=rv.length
 rw [qA6] at hlen
 refine call_any_walk (wpAny_pyIter_tuple pl' ?_)
 refine ⟨s.heap.objs.size,_,[s.heap.objs.size],_,_,_,_,rfl,Walks.tuple (A:=X.A.in1) (show X.A.in1.handled=none from I.ok.hd hc) s.heap.objs.size p (qC4 hlt) its.toArray,⟨⟨_,qB3 _ rfl,rfl,rfl⟩,pl'.push _⟩,zFY rv,fun h' tk kk=>?_⟩
 have e:(List.range its.toArray.size).any (fun i=>(ns.map (· != 0)).getD i false)=ns.any (· != 0):=by rw [qB0,← hlen,show ns.length=(ns.map (· != 0)).length by simp,zHD,qP2]; rfl
 rw [e]
 refine ⟨.bl (ns.any (· != 0)),H,?_,rfl,q⟩
 exact I.kept (t':=tk) fun b o eb=>kk b o (by simp only [qA8]; exact qC4 (qB5 eb)) (qA3 _ eb)
end
open PySem PySem.Spec PyProof.Rows
section
variable {X:Cx}{pins:yD}{σ:St}{H:Hp}{s:Shared}
theorem Inv.dTnil {a:Addr} (I:Inv X pins σ H s) (e:H a=some (.dK [])):Inv X pins σ (upd H a (.dT [])) s:=by
 obtain ⟨z,hd,vs,r,o,es,ep,h1,h2,h3,h4,h5,h6⟩:=zPg I.hok e
 have v0:vs=[]:=by cases r; rfl
 subst v0
 have e0:es.toList=[]:=by
  have:=h5.length
  exact qF1.mp (by simpa using this)
 refine I.write (x:=a) (e:=a) (h':=s.heap) (t':=s.toks) (by rw [e]; exact True.intro) (.inl rfl) (fun b u _ q=>q) ⟨o,h1⟩ ?_
 exact ⟨qG0 _,hd,[],.nil,o,es,ep,h1,h2,h3,by simpa using e0,qQ3⟩
end
open PySem PySem.Spec PyProof.Rows
def Raw (h:Heap) (d:Addr) (es:Array DictEntry) (ep:Nat):Prop:=∃ o,h.get? d=some o∧o.cls=.type "dict"∧o.data=.dict es ep
theorem Raw.at {h h':Heap}{d:Addr}{es:Array DictEntry}{ep:Nat} (x:Raw h d es ep) (e:∀ o,h.get? d=some o→h'.get? d=some o):Raw h' d es ep:=let ⟨o,ho,r⟩:=x; ⟨o,e o ho,r⟩
theorem Raw.lt {h:Heap}{d:Addr}{es:Array DictEntry}{ep:Nat} (x:Raw h d es ep):d<h.objs.size:=let ⟨_,ho,_⟩:=x; qB5 ho
open PySem PySem.Spec PyProof.Rows
section
variable {prog:Program}{w:World}{A:Around}{E:yL}{s:Shared}{z TI TO i1 i2:Addr}{f1 f2:yC}{n1 n2 k:Nat}{P1 P2:Nat→Value→Prop}{S1 S2:Nat→Heap→Prop}
abbrev zUX (h:Heap) (z TI TO T:Addr) (b:Bool):Prop:=h.get? z=some { cls:=.type "zip",data:=.fields #[rawInt T,.bool b,.bool false,.ref TI,.ref TO] }
inductive ZWay (z TI TO:Addr) (h:Heap):Prop
 | fresh (e:IsZip h z TI TO .none)
 | busy (T:Addr) (oT:Obj) (b:Bool) (e:zUX h z TI TO T b) (a:h.get? T=some oT) (nz:T≠z) (n1:T≠TO)
structure ZRun (z TI TO i1 i2:Addr) (S1 S2:Nat→Heap→Prop) (k:Nat) (h:Heap):Prop where
 way:ZWay z TI TO h
 ti:IsPair h TI (.ref i1) (.ref i2)
 to:∃ a b,IsPair h TO a b
 s1:S1 k h
 s2:S2 k h
end
open PySem PySem.Spec PyProof.Rows
section
variable {prog:Program}{w:World}{A:Around}{z TI TO i1 i2 d:Addr}{f1 f2:yC}{n1 n2:Nat}{P1 P2:Nat→Value→Prop}{S1 S2:Nat→Heap→Prop}
noncomputable abbrev TK2 (prog:Program) (w:World):=tupleKind (zAr prog w)
def DRaw (prog:Program) (w:World) (h:Heap) (d:Addr) (xs:List (List Key × Addr × Value)):Prop:=∃ o es ep,h.get? d=some o∧o.ExactDict∧o.data=.dict es ep∧es.toList=xs.map (entryOfKey (TK2 prog w))∧(xs.map (·.1)).Nodup
theorem DRaw.of {h:Heap}{xs:List (List Key × Addr × Value)} (x:h.DictOfH (TK2 prog w) d xs):DRaw prog w h d xs:=let ⟨o,es,ep,a,b,c,e,_,f⟩:=x; ⟨o,es,ep,a,b,c,e,f⟩
theorem DRaw.at {h h':Heap}{xs:List (List Key × Addr × Value)} (x:DRaw prog w h d xs) (e:∀ o,h.get? d=some o→h'.get? d=some o):DRaw prog w h' d xs:=let ⟨o,es,ep,a,r⟩:=x; ⟨o,es,ep,e o a,r⟩
theorem ZRun.frame {h h':Heap}{k:Nat} (r:ZRun z TI TO i1 i2 S1 S2 k h) (D1:Draws prog w A i1 f1 n1 P1 S1) (D2:Draws prog w A i2 f2 n2 P2 S2) (e:∀ c o,c≠d→h.get? c=some o→h'.get? c=some o) (hd:∃ o,h'.get? d=some o) (nz:d≠z) (ni:d≠TI) (no:d≠TO) (m1:d∉f1) (m2:d∉f2):ZRun z TI TO i1 i2 S1 S2 k h':=by
 obtain ⟨way,ti,⟨a,b,to⟩,s1,s2⟩:=r
 refine ⟨?_,e _ _ ni.symm ti,⟨a,b,e _ _ no.symm to⟩,D1.frame _ _ _ s1 fun c hc o q=>e c o (fun z=>m1 (z▸hc)) q,D2.frame _ _ _ s2 fun c hc o q=>e c o (fun z=>m2 (z▸hc)) q⟩
 rcases way with hz | ⟨T,oT,bb,hz,hT,n1,n2⟩
 ·exact .fresh (e _ _ nz.symm hz)
 ·by_cases q:T=d
  ·subst q
   obtain ⟨o,ho⟩:=hd
   exact .busy T o bb (e _ _ nz.symm hz) ho n1 n2
  ·exact .busy T oT bb (e _ _ nz.symm hz) (e _ _ q hT) n1 n2
structure ZAll (prog:Program) (w:World) (z TI TO i1 i2 d:Addr) (f1 f2:yC) (n1 n2:Nat) (P1 P2:Nat→Value→Prop) (S1 S2:Nat→Heap→Prop) (ks:List (List Key × Addr × Value)) (h0:Heap):Prop where
 D1:∀ A:Around,A.handled=none→Draws prog w A i1 f1 n1 P1 S1
 D2:∀ A:Around,A.handled=none→Draws prog w A i2 f2 n2 P2 S2
 ap:ZAp z TI TO i1 i2 f1 f2
 m1:i1∈f1
 m2:i2∈f2
 n:ks.length=min n1 n2
 p1:∀ i x q,P1 i x→ks[i]?=some q→x=.ref q.2.1
 p2:∀ i y q,P2 i y→ks[i]?=some q→y=q.2.2
 key:∀ q∈ks,(TK2 prog w).is h0 q.1 q.2.1
 fr:∀ c o,h0.get? c=some o→c≠z∧c≠TO∧c≠i1∧c≠i2∧c≠d
 nz:d≠z
 ni:d≠TI
 no:d≠TO
 d1:d∉f1
 d2:d∉f2
end
open PySem PySem.Spec PyProof.Rows
def KRw (H:Hp):List (List Key)→List V→Prop:=Paired fun k v=>∃ a,v=.ref a∧H a=some (.tup (k.map kV))
noncomputable def zWV (kvs ps:List (List Key × V)):List (List Key × V):=ps.foldl (fun acc q=>putK acc q.1 q.2) kvs
noncomputable def stoF (zs ks:List (List Key × Addr × Value)):List (List Key × Addr × Value):=ks.foldl (fun a q=>storedH a q.1 q.2.1 q.2.2) zs
inductive zXJ (H:Hp) (kvs:List (List Key × V)) (zs:List (List Key × Addr × Value)) (ps:List (List Key × V)) (u1 u2:yB):Prop
 | mk (ks:List (List Key × Addr × Value)) (r:KT H (zWV kvs ps) (stoF zs ks)) (n:ks.length=min u1.length u2.length) (p1:∀ (i:Nat) (x:Value) (q:List Key × Addr × Value),u1[i]?=some x→ks[i]?=some q→x=.ref q.2.1) (p2:∀ (i:Nat) (y:Value) (q:List Key × Addr × Value),u2[i]?=some y→ks[i]?=some q→y=q.2.2) (k:∀ q∈ks,H q.2.1=some (.tup (q.1.map kV)))
section
variable {X:Cx}{a b:Expr}{ta:TA}{p p2 pos pos2:Pos}
theorem KRw.length {H:Hp}{kks:List (List Key)}{xs:List V} (r:KRw H kks xs):kks.length=xs.length:=Paired.length r
end
open PySem PySem.Spec PyProof.Rows
section
variable {prog:Program}{w:World}{A:Around}{E:yL}{s:Shared}{it d:Addr}{i ep:Nat}{es:Array DictEntry}
theorem zWK {e:DictEntry}{Q:yF→Shared→Prop} (hit:s.heap.IsKeyIter it d i es.size ep) (hr:Raw s.heap d es ep) (hx:es[i]?=some e)
  (hQ:∀ h',h'.IsKeyIter it d (i+1) es.size ep→qF0 it s.heap h'→Q (some e.key) { s with heap:=h' }):wpAny (model prog w) A (pyNext (.ref it)) Q E s:=by
 have ty:=hit.typeIs
 obtain ⟨o,ho,hc,hd⟩:=id hit
 obtain ⟨od,hod,_,hdd⟩:=hr
 unfold pyNext
 refine wpAny_bind (wpAny_attempt (wpAny_callSpecial?_slot (name:=Str.ofString "__next__") ty F.slot_dict_keyiterator_next (wpAny_call_entry F.slot_dict_keyiterator_next ty F.entry_dict_keyiterator_next ?_ (F.args_dict_keyiterator_next_1 _))))
 refine wpAny_bind (wpAny_pure (wpAny_bind (wpAny_bind (wpAny_bind (wpAny_typeNameOfWhole_keyiter ty (wpAny_pure (wpAny_bind (wpAny_fieldsOf ho hd ?_))))))))
 have o1:Builtin.Dict_items.ownsTuple "dict_keyiterator"=false:=by decide
 have n1:¬ ((Value.ref d == Value.none)=true):=qB2
 simp only [o1,qE0,if_false]
 show wpAny _ _ (if (Value.ref d == Value.none)=true then _ else _) _ _ s
 rw [if_neg n1]
 refine wpAny_bind (wpAny_pure (wpAny_bind (wpAny_dictEntries hod hdd ?_)))
 rw [if_neg (by simp)]
 refine wpAny_bind (wpAny_pure (wpAny_bind (wpAny_dictEpoch hod hdd ?_)))
 rw [if_neg (by simp)]
 refine wpAny_pure ?_
 have n2:¬ ((i:Int)<0):=by omega
 simp only [n2,if_false,qH6,hx]
 refine wpAny_bind (wpAny_bind (wpAny_typeNameOfWhole_keyiter ty (wpAny_pure (wpAny_bind (wpAny_isOneOf_keyiter ty ?_)))))
 show wpAny _ _ (setField (.ref it) 1 (rawInt ((i:Int)+1)) >>= _) _ _ s
 refine wpAny_bind (wpAny_setField ho hd (by simp) ?_)
 have it2:(s.heap.update it (Obj.mapFields (·.setIfInBounds 1 (rawInt ((i:Int)+1))))).IsKeyIter it d (i+1) es.size ep :=
  ⟨_,qJ9 _ ho (Obj.isFreed_of_fields (Obj.data_mapFields hd _)),(Obj.cls_mapFields ..).trans hc,by rw [Obj.data_mapFields hd]; simp [rawInt]⟩
 have ty2:Shared.TypeIs { s with heap:=s.heap.update it (Obj.mapFields (·.setIfInBounds 1 (rawInt ((i:Int)+1)))) } (.ref it) "dict_keyiterator":=it2.typeIs
 refine wpAny_bind (wpAny_holding (wpAny_bind (wpAny_isOneOf_keyiter ty2 ?_)))
 show wpAny _ _ (pure e.key) _ _ _
 exact wpAny_pure (wpAny_pure ⟨_,rfl,wpAny_pure (hQ _ it2 (qF0.update ..))⟩)
theorem kend {Q:yF→Shared→Prop} (hh:A.handled=none) (hit:s.heap.IsKeyIter it d i es.size ep) (hr:Raw s.heap d es ep) (hx:es[i]?=none)
  (hQ:∀ h',Heap.ExtBut it s.heap h'→Q none { s with heap:=h' }):wpAny (model prog w) A (pyNext (.ref it)) Q E s:=by
 have ty:=hit.typeIs
 obtain ⟨o,ho,hc,hd⟩:=id hit
 obtain ⟨od,hod,_,hdd⟩:=hr
 unfold pyNext
 refine wpAny_bind (wpAny_attempt (wpAny_callSpecial?_slot (name:=Str.ofString "__next__") ty F.slot_dict_keyiterator_next (wpAny_call_entry F.slot_dict_keyiterator_next ty F.entry_dict_keyiterator_next ?_ (F.args_dict_keyiterator_next_1 _))))
 refine wpAny_bind (wpAny_pure (wpAny_bind (wpAny_bind (wpAny_bind (wpAny_typeNameOfWhole_keyiter ty (wpAny_pure (wpAny_bind (wpAny_fieldsOf ho hd ?_))))))))
 have o1:Builtin.Dict_items.ownsTuple "dict_keyiterator"=false:=by decide
 have n1:¬ ((Value.ref d == Value.none)=true):=qB2
 simp only [o1,qE0,if_false]
 show wpAny _ _ (if (Value.ref d == Value.none)=true then _ else _) _ _ s
 rw [if_neg n1]
 refine wpAny_bind (wpAny_pure (wpAny_bind (wpAny_dictEntries hod hdd ?_)))
 rw [if_neg (by simp)]
 refine wpAny_bind (wpAny_pure (wpAny_bind (wpAny_dictEpoch hod hdd ?_)))
 rw [if_neg (by simp)]
 refine wpAny_pure ?_
 have n2:¬ ((i:Int)<0):=by omega
 simp only [n2,if_false,qH6,hx]
 refine wpAny_bind (wpAny_bind (wpAny_typeNameOfWhole_keyiter ty (wpAny_pure ?_)))
 refine wpAny_bind (wpAny_setField (i:=0) ho hd (by simp) ?_)
 show wpAny _ A.in1 (newExc (.type "StopIteration") [] >>= _) _ _ _
 unfold newExc newTuple
 refine wpAny_bind (wpAny_bind (wpAny_newObj_type (wpAny_bind (m:=firstArgMember _ _) (wpAny_of_eq (a:=Value.none) (by simp only [firstArgMember]; rfl) (wpAny_newObj_type ?_ (by size_fits)))) (by size_fits)))
 refine wpAny_raiseNew_none hh ?_
 refine wpAny_bind (wpAny_isInstance (T := "StopIteration") (b:=true) ⟨_,qB3 _ rfl,rfl⟩ isSubtype_stop ?_)
 exact wpAny_pure (hQ _ (((qF0.update ..).extBut.push _).push _))
theorem zOU {Q:yL} (lo:(d == sysModules)=false) (hr:Raw s.heap d es ep)
  (hQ:Q (.ref s.heap.objs.size) { s with heap:=s.heap.push { cls:=.type "dict_keyiterator",data:=.fields #[.ref d,.int 0 0,.int es.size 0,.int ep 0] } }):wpAny (model prog w) A (pyIter (.ref d)) Q E s:=by
 obtain ⟨o,ho,hc,hdat⟩:=hr
 have ty:s.TypeIs (.ref d) "dict":=⟨o,ho,hc⟩
 refine wpAny_pyIter_slot ty F.slot_dict_iter (wpAny_call_entry F.slot_dict_iter ty F.entry_dict_iter ?_ (F.args_dict_iter_1 _))
 unfold Builtin.«dict.__iter__» Builtin.Dict.dictSlotNone
 refine wpAny_bind (wpAny_bind (wpAny_notOrdered_dict ty (wpAny_bind (wpAny_pure (wpAny_pure ?_)))))
 refine wpAny_bind (wpAny_pure ?_)
 show wpAny _ _ (Builtin.Dict.showsAll d >>= _) _ _ _
 unfold Builtin.Dict.showsAll
 rw [if_neg (by rw [lo]; exact qB2)]
 refine wpAny_bind (wpAny_pure (wpAny_bind (wpAny_dictEntries ho hdat (wpAny_bind (wpAny_dictEpoch ho hdat ?_)))))
 show wpAny _ _ (newFields _ _ >>= _) _ _ _
 unfold newFields
 refine wpAny_bind (wpAny_newObj_type (wpAny_pure ⟨_,rfl,"dict_keyiterator",_,⟨_,qB3 _ rfl,rfl⟩,F.slot_dict_keyiterator_next.lookup,?_⟩))
 simpa [rawInt] using hQ
end
theorem zKW {α β:Type}{R:α→β→Prop}{xs:List α}{ys:List β} (r:Paired R xs ys):∀ {i:Nat}{y:β},ys[i]?=some y→∃ x,xs[i]?=some x∧R x y:=by
 induction r with
 | nil=>intro i y e; simp at e
 | cons h t ih =>
  intro i y e
  cases i with
  | zero=>simp at e; subst e; exact ⟨_,rfl,h⟩
  | succ i=>exact ih (by simpa using e)
inductive FzD (X:Cx) (H:Hp) (h:Heap) (a:Addr) (o:Obj) (kvs:List (List Key × V)):Prop
 | mk (es:Array DictEntry) (ep:Nat) (xs:List (List Key × Addr × Value)) (g:h.get? a=some o) (c:o.cls=.type "dict") (d:o.data=.dict es ep) (r:KT H kvs xs) (e:es.toList=xs.map (entryOfKey (tupleKind (zAr X.prog X.w)))) (lo:(a == sysModules)=false) (z:kvs.length≤sizeLine)
open PySem PySem.Spec PyProof.Rows
def Rs (xs:Array Nat):Prop:=xs.toList.Pairwise (·<·)
theorem Rs.get {xs:Array Nat} (h:Rs xs) {i j a b:Nat} (ha:xs[i]?=some a) (hb:xs[j]?=some b) (l:i<j):a<b:=by
 rw [← Array.getElem?_toList] at ha hb
 obtain ⟨hi,rfl⟩:=qA4.mp ha
 obtain ⟨hj,rfl⟩:=qA4.mp hb
 exact qN9.mp h i j hi hj l
def Bl (xs:Array Nat) (j r:Nat):Prop:=r≤xs.size∧(∀ i a,xs[i]?=some a→i<r→a<j)∧∀ i a,xs[i]?=some a→r≤i→j≤a
theorem zH9 {xs:Array Nat} (h:Rs xs) (j:Nat):∀ (n lo hi:Nat),hi - lo≤n→lo≤hi→hi≤xs.size→(∀ i a,xs[i]?=some a→i<lo→a<j)→(∀ i a,xs[i]?=some a→hi≤i→j≤a)→Bl xs j (SetTable.below.go xs j n lo hi)
 | 0,lo,hi,h1,h2,h3,h4,h5=>by
  have e:lo=hi:=by omega
  subst e
  exact ⟨h3,h4,h5⟩
 | n+1,lo,hi,h1,h2,h3,h4,h5=>by
  unfold SetTable.below.go
  split
  ·rename_i hl
   have hm:(lo+hi) / 2<xs.size:=by omega
   have hx:xs[(lo+hi) / 2]?=some xs[(lo+hi) / 2]:=Array.getElem?_eq_getElem hm
   have hg:xs.getD ((lo+hi) / 2) j=xs[(lo+hi) / 2]:=by simp [Array.getD,hm]
   simp only [hg]
   split
   ·rename_i hs
    refine zH9 h j n _ hi (by omega) (by omega) h3 (fun i a ha hi2=>?_) h5
    by_cases e:i=(lo+hi) / 2
    ·subst e
     rw [hx] at ha
     cases ha
     exact hs
    ·exact Nat.lt_trans (h.get ha hx (by omega)) hs
   ·rename_i hs
    refine zH9 h j n lo _ (by omega) (by omega) (by omega) h4 (fun i a ha hi2=>?_)
    by_cases e:i=(lo+hi) / 2
    ·subst e
     rw [hx] at ha
     cases ha
     omega
    ·have:=h.get hx ha (by omega)
     omega
  ·have e:lo=hi:=by omega
   subst e
   exact ⟨h3,h4,h5⟩
theorem zPr {xs:Array Nat} (h:Rs xs) (j:Nat):Bl xs j (SetTable.below xs j):=by
 refine zH9 h j _ 0 xs.size (by omega) (by omega) (qA9 _) (fun i a _ l=>absurd l (qT6 _)) fun i a ha l=>?_
 have:i<xs.size:=by
  rcases Nat.lt_or_ge i xs.size with g | g
  ·exact g
  ·rw [Array.getElem?_eq_none g] at ha; cases ha
 omega
theorem Rs.insert {xs:Array Nat} (h:Rs xs) {j:Nat} (hn:xs[SetTable.below xs j]?≠some j):Rs (SetTable.insertAt xs (SetTable.below xs j) j):=by
 obtain ⟨b1,b2,b3⟩:=zPr h j
 unfold Rs
 rw [SetTable.toList_insertAt]
 have e:xs.toList=xs.toList.take (SetTable.below xs j)++xs.toList.drop (SetTable.below xs j):=(qD1 _ _).symm
 have h':=h
 unfold Rs at h'
 rw [e,qC2] at h'
 obtain ⟨p1,p2,p3⟩:=h'
 have q1:∀ a∈xs.toList.take (SetTable.below xs j),a<j:=fun a ha=>by
  obtain ⟨i,hi,rfl⟩:=qQ9 ha
  rw [qH1] at hi
  refine b2 i _ ?_ (by omega)
  rw [← Array.getElem?_toList,List.getElem_take]
  exact qA5 _
 have q2:∀ a∈xs.toList.drop (SetTable.below xs j),j<a:=fun a ha=>by
  obtain ⟨i,hi,rfl⟩:=qQ9 ha
  rw [qI2] at hi
  have g:xs[SetTable.below xs j+i]?=some ((xs.toList.drop (SetTable.below xs j))[i]):=by
   rw [← Array.getElem?_toList,qL7]
   exact qA5 _
  have l:=b3 _ _ g (by omega)
  rcases qR5 l with l | l
  ·exact l
  ·exfalso
   by_cases e0:i=0
   ·subst e0
    rw [← l] at g
    exact hn g
   ·have hlt:SetTable.below xs j<xs.size:=by rw [Array.length_toList] at hi; omega
    have hr:xs[SetTable.below xs j]?=some xs[SetTable.below xs j]:=Array.getElem?_eq_getElem hlt
    have:=h.get hr g (by omega)
    have:=b3 _ _ hr (qA9 _)
    omega
 rw [qC2,qE7]
 refine ⟨p1,⟨q2,p2⟩,fun a ha b hb=>?_⟩
 rcases qB6.mp hb with rfl | hb
 ·exact q1 a ha
 ·exact p3 a ha b hb
theorem zHu {t:SetTable}{j:Nat} (h:(∃ i,t.slot j=.live i)→False):t.place[SetTable.below t.place j]?≠some j:=by
 intro e
 refine h ⟨SetTable.below t.place j,?_⟩
 unfold SetTable.slot
 simp only [e,beq_self_eq_true,if_true]
theorem zGs {t:SetTable}{f:Nat→Int}{h:Int}:∀ (n:Nat) (p:SetTable.Probe) {j:Nat}{d:yK},(∀ x,p.dummy=some x→t.place[SetTable.below t.place x]?≠some x)→SetTable.probe.go t f h n p=some (.empty j d)→t.place[SetTable.below t.place (d.getD j)]?≠some (d.getD j)
 | 0,p,j,d,hp,e=>by cases e
 | n+1,p,j,d,hp,e=>by
  unfold SetTable.probe.go at e
  have adv:∀ q:SetTable.Probe,(t.advance q).dummy=q.dummy:=fun q=>by
   unfold SetTable.advance
   split <;> rfl
  split at e
  ·rename_i hs
   cases e
   cases hd:p.dummy with
   | none=>exact zHu fun ⟨i,hi⟩=>by rw [show (none:yK).getD p.j=p.j from rfl,hs] at hi; cases hi
   | some x=>exact hp x hd
  ·rename_i hs
   refine zGs n _ (fun x hx=>?_) e
   rw [adv] at hx
   cases hx
   exact zHu fun ⟨i,hi⟩=>by rw [hs] at hi; cases hi
  ·split at e
   ·cases e
   ·exact zGs n _ (fun x hx=>hp x (by rw [adv] at hx; exact hx)) e
theorem zGK {t:SetTable}{h:Int}{j:Nat}{b:Bool} (e:t.freeSlot h=some (j,b)):t.place[SetTable.below t.place j]?≠some j:=by
 unfold SetTable.freeSlot at e
 split at e
 ·rename_i j' d he
  cases e
  exact zGs _ _ (fun x hx=>by simp [SetTable.probeStart] at hx) he
 ·cases e
structure TOk (bt:Bool) (t:SetTable):Prop where
 led:t.led=!bt
 up:t.plain=true→Rs t.place
theorem TOk.fresh (bt:Bool):TOk bt (.fresh 0 0 (!bt)):=⟨rfl,fun _=>by simp [SetTable.fresh,Rs]⟩
theorem TOk.standIn {bt:Bool}{t:SetTable} (h:TOk bt t) (n:Nat):TOk bt (t.standIn n):=⟨h.led,fun e=>by cases e⟩
theorem TOk.layNew {bt:Bool}{t:SetTable} (k:TOk bt t) (es:Array (Int × Value)) (h:Int) (x:Value):TOk bt (layNew t es h x).2.1:=by
 unfold PySem.layNew
 split
 ·rename_i j b e
  show TOk bt (SetTable.orStandIn (t.put j).1 _)
  have k1:TOk bt (t.put j).1:=⟨k.led,fun p=>(k.up p).insert (zGK e)⟩
  unfold SetTable.orStandIn
  split
  ·exact k1
  ·exact k1.standIn _
 ·exact k.standIn _
theorem zRp {m f v:Nat}{l p:Bool}{hs:Array Int}{t:SetTable}{o:Array Nat} (e:SetTable.laid m f v l p hs=some (t,o)):t.led=l∧t.plain=p∧Rs t.place:=by
 unfold SetTable.laid at e
 obtain ⟨ow,_,e⟩:=qA2.mp e
 cases e
 refine ⟨rfl,rfl,?_⟩
 have e2:∀ ks:List Nat,(ks.filterMap fun j=>(ow.getD j none).map (j,·)).map (·.1)=ks.filter fun j=>(ow.getD j none).isSome:=by
  intro ks
  induction ks with
  | nil=>rfl
  | cons a ks ih =>
   cases h:ow.getD a none with
   | none=>rw [List.filterMap_cons_none (by rw [h]; rfl),List.filter_cons_of_neg (by rw [h]; exact qB2),ih]
   | some b=>rw [List.filterMap_cons_some (b:=(a,b)) (by rw [h]; rfl),List.filter_cons_of_pos (by rw [h]; rfl),qB9,ih]
 show List.Pairwise (·<·) (((List.range (m+1)).filterMap fun j=>(ow.getD j none).map (j,·)).map (·.1))
 rw [e2]
 exact List.Pairwise.filter _ qP3
theorem TOk.relayAll {bt:Bool}{t:SetTable} (k:TOk bt t) (es:Array (Int × Value)) (n:Nat):TOk bt (relayAll t es n).2.1:=by
 unfold PySem.relayAll
 split
 ·rename_i t' o e
  obtain ⟨h1,h2,h3⟩:=zRp e
  dsimp only
  split
  ·exact ⟨h1.trans k.led,fun _=>h3⟩
  ·exact k.standIn _
 ·exact k.standIn _
open PySem PySem.Spec PyProof.Rows
noncomputable def iV:Value→Int
 | .int z _=>z
 | _=>0
noncomputable def iE (e:Int × Value):Int:=iV e.2
def EI (es:List (Int × Value)):Prop:=∀ e∈es,∃ z tk,e=(hashInt z,Value.int z tk)
theorem EI.elems {prog:Program}{w:World}{es:List (Int × Value)} (h:EI es):ElemsOf (intKind prog w) es:=fun e he=>by
 obtain ⟨z,tk,rfl⟩:=h e he
 exact ⟨⟨z,intKind_is prog w z tk,rfl⟩,rfl⟩
theorem EI.perm {a b:List (Int × Value)} (h:EI a) (p:b.Perm a):EI b:=fun e he=>h e (p.mem_iff.mp he)
inductive StI (bt:Bool) (h:Heap) (a:Addr) (zs:yA):Prop
 | mk (o:Obj) (es:Array (Int × Value)) (ep:Nat) (t:SetTable) (g:h.get? a=some o) (x:o.ExactSet) (d:o.data=.set es ep t) (k:TOk bt t) (f:t.fits es.size=true) (b:es.size<scanBound) (e:EI es.toList) (p:(es.toList.map iE).Perm zs)
theorem StI.at {bt:Bool}{h h':Heap}{a:Addr}{zs:yA} (S:StI bt h a zs) (k:∀ o,h.get? a=some o→h'.get? a=some o):StI bt h' a zs:=by
 obtain ⟨o,es,ep,t,g,r⟩:=S
 exact ⟨o,es,ep,t,k o g,‹_›,‹_›,‹_›,‹_›,‹_›,‹_›,‹_›⟩
theorem StI.stored {bt:Bool}{h:Heap}{a:Addr}{o:Obj}{es es':Array (Int × Value)}{ep:Nat}{t t':SetTable}{zs:yA} (g:h.get? a=some o) (x:o.ExactSet) (d:o.data=.set es ep t)
  (k:TOk bt t') (f:t'.fits es'.size=true) (b:es'.size<scanBound) (e:EI es'.toList) (p:(es'.toList.map iE).Perm zs) :
  (h.update a (Obj.putSet es' t')).get? a=some { o with data:=.set es' (ep+1) t' }∧StI bt (h.update a (Obj.putSet es' t')) a zs:=by
 have hg:(h.update a (Obj.putSet es' t')).get? a=some { o with data:=.set es' (ep+1) t' }:=by
  have:=qJ9 (Obj.putSet es' t') g (by rw [putSet_of es' t' d]; rfl)
  rw [putSet_of es' t' d] at this
  exact this
 exact ⟨hg,_,es',ep+1,t',hg,x,rfl,k,f,b,e,p⟩
noncomputable def one (zs:yA) (z:Int):yA:=if z∈zs then zs else z::zs
section
variable {prog:Program}{w:World}{A:Around}{E:yL}{s:Shared}{bt:Bool}{a:Addr}{zs:yA}
theorem add_int {z:Int}{tk:Tok}{Q:Bool→Shared→Prop} (S:StI bt s.heap a zs) (room:zs.length+1<scanBound)
  (h:∀ (b:Bool) (h':Heap),qF0 a s.heap h'→StI bt h' a (one zs z)→Q b { s with heap:=h' }) :
  wpAny (model prog w) A (setAddHashed a (.int z tk) (hashInt z)) Q E s:=by
 obtain ⟨o,es,ep,t,g,x,d,k,f,b,e,p⟩:=S
 have hl:es.size=zs.length:=by rw [← p.length_eq,qA6,Array.length_toList]
 unfold setAddHashed setAddHashedIn
 refine wpAny_holding (wpAny_bind (wpAny_setState_of g d f ?_))
 dsimp only
 rw [byScan_of (knd:=intKind prog w) rfl b e.elems,if_pos rfl]
 unfold setAddByScan
 refine wpAny_bind (wpAny_bind (wpAny_rule (wpAny_bind (wpAny_setScan_of (knd:=intKind prog w) (k:=z) (intKind_is prog w z tk) g d f e.elems ?_))))
 cases hr:es.toList.findIdx? (fun q=>(intKind prog w).is z q.2) with
 | some j =>
  obtain ⟨hj,hp,_⟩:=List.findIdx?_eq_some_iff_getElem.mp hr
  have hm:z∈zs:=by
   obtain ⟨z',tk',e1⟩:=e _ (qD8 hj)
   rw [e1] at hp
   have hz:z'=z:=by simpa [intKind,Value.isInt] using hp
   rw [← hz]
   refine p.mem_iff.mp (qC9.mpr ⟨_,qD8 hj,?_⟩)
   rw [e1]
   rfl
  refine wpAny_pure (wpAny_pure ?_)
  have:=h false s.heap (qF0.refl ..) ⟨o,es,ep,t,g,x,d,k,f,b,e,by rw [one,if_pos hm]; exact p⟩
  cases s
  exact this
 | none =>
  have hm:z∉zs:=fun hz=>by
   obtain ⟨q,hq,e2⟩:=qC9.mp (p.mem_iff.mpr hz)
   have:=List.findIdx?_eq_none_iff.mp hr q hq
   obtain ⟨z',tk',e1⟩:=e q hq
   rw [e1] at this e2
   have hz':z'=z:=e2
   subst hz'
   exact absurd (intKind_is prog w z' tk') (by rw [this]; exact qB2)
  have p1:=layNew_perm t es (hashInt z) (.int z tk)
  have f1:=layNew_fits t es (hashInt z) (.int z tk)
  have k1:=k.layNew es (hashInt z) (.int z tk)
  dsimp only
  generalize hL:layNew t es (hashInt z) (.int z tk)=L at p1 f1 k1 ⊢
  obtain ⟨es1,t1,wd,gv⟩:=L
  dsimp only at p1 f1 k1 ⊢
  have e1:EI es1.toList:=EI.perm (fun q hq=>by
   rw [Array.toList_push] at hq
   rcases qB4.mp hq with hq | hq
   ·exact e q hq
   ·exact ⟨z,tk,qA8.mp hq⟩) p1
  have q1:(es1.toList.map iE).Perm (one zs z):=by
   refine (p1.map iE).trans ?_
   rw [Array.toList_push,qE8,one,if_neg hm]
   exact (List.Perm.append_right _ p).trans (List.perm_append_singleton z zs)
  have z1:es1.size=es.size+1:=by rw [← Array.length_toList,p1.length_eq,Array.length_toList,Array.size_push]
  have b1:es1.size<scanBound:=by omega
  have tail:∀ (t2:SetTable) (G:Bool→Sem Unit) (hG:∀ (b:Bool) (s₁:Shared) (Q':Unit→Shared→Prop),Q' () s₁→wpAny (model prog w) A (G b) Q' E s₁),TOk bt t2→t2.fits es1.size=true →
    wpAny (model prog w) A (do
     storeSet a es1 t2
     if (!wd&&t2.tooFull)=true then do
       G (relayAll t2 es1 (SetTable.grown es1.size)).2.2
       storeSet a (relayAll t2 es1 (SetTable.grown es1.size)).1 (relayAll t2 es1 (SetTable.grown es1.size)).2.1
       pure (some true)
      else pure (some true)) (fun r s'=>wpAny (model prog w) A (match r with | some added=>pure added | none=>setAddHashedIn a (.int z tk) (hashInt z) 99999) Q E s') E s:=by
   intro t2 G hG k2 f2
   refine wpAny_bind (wpAny_storeSet_of g d ?_ (fits_of_scanBound b1))
   obtain ⟨g3,S3⟩:=StI.stored g x d k2 f2 b1 e1 q1
   split
   ·have p4:=relayAll_perm t2 es1 (SetTable.grown es1.size)
    have f4:=relayAll_fits t2 es1 (SetTable.grown es1.size)
    have k4:=k2.relayAll es1 (SetTable.grown es1.size)
    generalize relayAll t2 es1 (SetTable.grown es1.size)=M at p4 f4 k4 ⊢
    obtain ⟨es2,t3,gv2⟩:=M
    dsimp only at p4 f4 k4 ⊢
    have z4:es2.size=es1.size:=by rw [← Array.length_toList,p4.length_eq,Array.length_toList]
    have b4:es2.size<scanBound:=by omega
    refine wpAny_bind (hG _ _ _ (wpAny_bind (wpAny_storeSet_of g3 rfl ?_ (fits_of_scanBound b4))))
    refine wpAny_pure (wpAny_pure (h true _ ((qF0.update s.heap a _).trans (qF0.update _ a _)) ?_))
    exact (StI.stored g3 x rfl k4 f4 b4 (e1.perm p4) ((p4.map iE).trans q1)).2
   ·exact wpAny_pure (wpAny_pure (h true _ (qF0.update s.heap a _) S3))
  have hgw:∀ (b:Bool) (s₁:Shared) (Q':Unit→Shared→Prop),Q' () s₁→wpAny (model prog w) A (match b with | true=>rule "set.scan.the-table-gave-way" | false=>pure ()) Q' E s₁ :=
   fun b s₁ Q' hq=>by cases b <;> first | exact wpAny_pure hq | exact wpAny_rule hq
  refine wpAny_bind (hgw _ _ _ ?_)
  split
  ·refine wpAny_bind ?_
   rw [hashByValue_scannable 8 rfl]
   refine wpAny_pure ?_
   exact tail _ _ hgw k1 f1
  ·refine wpAny_bind (wpAny_pure ?_)
   exact tail _ _ hgw k1 f1
end
open PySem PySem.Spec PyProof.Rows
def IsSI (h:Heap) (it S:Addr) (f:Value) (i n ep:Nat):Prop:=∃ o,h.get? it=some o∧o.cls=.type "set_iterator"∧o.data=.fields #[f,.int (i:Int) 0,.ref S,.int (n:Int) 0,.int (ep:Int) 0]
section
variable {prog:Program}{w:World}{A:Around}{E:yL}{s:Shared}{it S:Addr}{f:Value}{i n ep:Nat}
theorem IsSI.ty (h:IsSI s.heap it S f i n ep):s.TypeIs (.ref it) "set_iterator":=let ⟨o,g,c,_⟩:=h; ⟨o,g,c⟩
theorem IsSI.at {h h':Heap} (x:IsSI h it S f i n ep) (e:∀ o,h.get? it=some o→h'.get? it=some o):IsSI h' it S f i n ep:=let ⟨o,g,r⟩:=x; ⟨o,e _ g,r⟩
end
open PySem PySem.Spec PyProof.Rows
section
variable {prog:Program}{w:World}{A:Around}{E:yL}{s:Shared}{S I T:Addr}{ep:Nat}{es:Array (Int × Value)}{t:SetTable}{o:Obj}{vs:yB}
inductive SIt (prog:Program) (w:World) (A:Around) (h0:Heap) (S I:Addr) (h':Heap) (n:Nat) (vs:yB):Prop
 | mk (fp:yC) (St:Nat→Heap→Prop) (vals:yB) (p:vals.Perm vs) (W:Walks prog w A I fp [I] n (fun i v=>vals[i]?=some v) St) (st:St 0 h') (f:∀ b∈fp,b=S∨h0.objs.size≤b) (i:h0.objs.size≤I)
end
open PySem PySem.Spec PyProof.Rows
theorem Inv.dr {X:Cx}{pins:yD}{σ:St}{H:Hp}{s:Shared} (I:Inv X pins σ H s) (d:Drawn):Inv X pins σ H { s with drawn:=d } :=
 ⟨I.ok,I.os,I.bare,I.base,I.loc,I.cell,I.free,I.freeC,I.pin,I.hok,I.len⟩
section
variable {prog:Program}{w:World}{A:Around}{E:yL}{s:Shared}{r:Addr}
theorem zHq {Q:yL}{ns:yA} (hl:ns.length<64)
  (hc:∀ (A:Around) (E:yL) (R:yB→Shared→Prop),A.handled=none→(∀ (h':Heap) (tk:Nat) (dr:Drawn) (us:yB) (ms:yA),(∀ b o,s.heap.get? b=some o→h'.get? b=some o)→IntsAre us ms→ms.Perm ns→R us { s with heap:=h',toks:=tk,drawn:=dr })→wpAny (model prog w) A (collect (.ref r)) R E s)
  (hh:A.handled=none)
  (h:∀ (h1:Heap) (l:Addr) (h':Heap) (tk:Nat) (dr:Drawn) (e:Nat) (us:yB) (ms:yA),(∀ b o,s.heap.get? b=some o→h1.get? b=some o)→(∀ b o,h1.get? b=some o→h'.get? b=some o)→h1.objs.size≤l→h'.get? l=some (seqObj "list" us.toArray e)→IntsAre us ms→ms.Perm ns→ms.Pairwise (·≤·)→Q (.ref l) { s with heap:=h',toks:=tk,drawn:=dr }) :
  wpAny (model prog w) A (call (.builtin "sorted") [.ref r]) Q E s:=by
 refine Calls.call_function_entry kind_sorted plain_sorted entry_sorted (args_sorted1 _) ?_
 unfold Builtin.«sorted»
 refine wpAny_bind (m:=checkCount "sorted" 1 1 _) (wpAny_pure ?_)
 refine wpAny_bind (hc _ _ _ hh fun h' tk dr us ms hk hi hp=>?_)
 have hlen:us.length=ns.length:=by
  rw [← hp.length_eq]
  clear hk hp
  induction hi with
  | nil=>rfl
  | cons _ _ _ ih=>simp [ih]
 refine wpAny_bind (wpAny_newList ?_ (by rw [hlen,sizeLine_eq]; omega))
 have hoL:(h'.push (seqObj "list" us.toArray 0)).get? h'.objs.size=some (seqObj "list" us.toArray 0):=qB3 _ rfl
 show wpAny _ _ _ _ _ { s with heap:=h'.push (seqObj "list" us.toArray 0),toks:=tk,drawn:=dr }
 refine wpAny_bind (wpAny_holding (wpAny_call_entry slot_list_sort ⟨_,hoL,rfl⟩ entry_list_sort (list_sort_tree hoL hi (by omega) fun out ns' a1 a2 a3=>⟨_,rfl,?_⟩) (args_list_sort _)))
 obtain ⟨e,he⟩:=sortedHeap_at (out:=out) hoL
 refine wpAny_pure ⟨_,rfl,h h' h'.objs.size _ tk dr e out.toList ns' hk (fun b o g=>?_) (qA9 _) (by simpa using he) a1 (a2.trans hp) a3⟩
 have lt:b<h'.objs.size:=qB5 g
 rw [sortedHeap_old (qC4 lt) (by rw [size_push']; exact qG6 lt)]
 exact qA3 _ g
end
open PySem PySem.Spec PyProof.Rows
theorem zMT:∀ (us:yB) (ns:yA),us.length=ns.length→(∀ (j:Nat) (v:Value) (n:Int),us[j]?=some v→ns[j]?=some n→∃ t,v=.int n t)→IntsAre us ns
 | [],[],_,_=>.nil
 | [],_::_,h,_=>by cases h
 | _::_,[],h,_=>by cases h
 | u::us,n::ns,h,k=>by
  obtain ⟨t,rfl⟩:=k 0 u n rfl rfl
  exact .cons n t (zMT us ns (by simpa using h) fun j v m e1 e2=>k (j+1) v m (by simpa using e1) (by simpa using e2))
theorem zIv {X:Cx} (hc:X.calm=true):zAW X (.builtin "sorted") (fun vs H Q=>∃ (p:Addr) (kvs:List (Key × V)) (ns:yA),vs=[.ref p]∧H p=some (.dK kvs)∧kvs.map (·.1)=ns.map Sum.inl∧ns.length<64∧∀ (l:Addr) (ms:yA),H l=none→ms.Perm ns→ms.Pairwise (·≤·)→Q (.ref l) (upd H l (.lst (ms.map V.int)))):=by
 intro pins s σ H xs us Q I r h
 obtain ⟨p,kvs,ns,rfl,hp,hk,hn,q⟩:=h
 obtain ⟨u,rfl,ru⟩:=zCR r
 cases ru
 obtain ⟨hz,lo,vs,kv,dd⟩:=zPg I.hok hp
 obtain ⟨ep,hat⟩:=dd.dictAt
 have hl:vs.length=ns.length:=by rw [← Paired.length kv,← qA6 (f:=(·.1)),hk,qA6]
 refine zHq hn (fun A E R hA hR=>W.kdu_collect (W.kdl_dict (knd:=zAr X.prog X.w) (kvs:=vs) (ep:=ep) lo) hA hat (by rw [hl,sizeLine_eq]; omega) fun h' tk acc hk2 hacc=>hR h' tk s.drawn _ ns hk2 ?_ (.refl _)) (I.ok.hd hc) fun h2 l2 h3 tk3 dr e us ms k2 k3 le g3 hi hpm hw=>?_
 ·refine zMT _ _ (by rw [Array.length_toList,hacc.1,hl]) fun j v n e1 e2=>?_
  obtain ⟨k,x,e3,e4⟩:∃ k x,vs[j]?=some (k,x)∧(zAr X.prog X.w).is k v=true:=hacc.2 j v (by rw [← Array.getElem?_toList]; exact e1)
  obtain ⟨q1,e5,e6,_⟩:=zKW kv e3
  have e7:(kvs.map (·.1))[j]?=some k:=by rw [qB7,e5]; exact congrArg some e6
  rw [hk,qB7,e2] at e7
  cases e7
  cases v <;> first | exact absurd e4 qB2 | skip
  rename_i i t
  have:i=n:=by simpa [zAr,zJl,Value.isInt] using e4
  subst this
  exact ⟨t,rfl⟩
 ·have I2:Inv X pins σ H { s with heap:=h2,toks:=tk3,drawn:=dr }:=(I.kept (t':=tk3) fun b o e=>k2 b o e).dr dr
  refine ⟨.ref l2,_,I2.laid (t':=tk3) (o:=.lst (ms.map V.int)) k3 le ?_,rfl,q _ _ (I2.hok.fresh le) hpm hw⟩
  have hl2:ms.length<64:=by rw [hpm.length_eq]; exact hn
  exact ⟨by rw [qA6]; exact qC5 (qH3 hl2) (by decide),us,e,zF5 hi,by simpa [seqObj] using g3⟩
open PySem PySem.Spec PyProof.Rows
structure Swo (lt:Keyed→Keyed→Bool):Prop where
 as:∀ x y,lt x y=true→lt y x=false
 tr:∀ x y z,lt y x=false→lt z y=false→lt z x=false
theorem Swo.flip {lt:Keyed→Keyed→Bool} (h:Swo lt):Swo fun x y=>lt y x :=
 ⟨fun x y e=>h.as y x e,fun x y z a b=>h.tr z y x b a⟩
theorem Swo.rf {lt:Keyed→Keyed→Bool} (h:Swo lt) (x:Keyed):lt x x=false:=by
 cases e:lt x x with
 | false=>rfl
 | true=>exact e.symm.trans (h.as x x e)
abbrev Srt (lt:Keyed→Keyed→Bool) (l:yI):Prop:=l.Pairwise fun x y=>lt y x=false
structure MrgI (lt:Keyed→Keyed→Bool) (a b ra rb out:yI):Prop where
 pm:(out++(ra++rb)).Perm (a++b)
 so:Srt lt out
 sa:Srt lt ra
 sb:Srt lt rb
 la:∀ x∈out,∀ y∈ra,lt y x=false
 lb:∀ x∈out,∀ y∈rb,lt y x=false
section
variable {lt:Keyed→Keyed→Bool}{a b ra rb out xs:yI}{x:Keyed}
theorem MrgI.swap (h:MrgI lt a b ra rb out):MrgI lt b a rb ra out :=
 ⟨((List.Perm.refl out).append qH0).trans (h.pm.trans qH0),h.so,h.sb,h.sa,h.lb,h.la⟩
theorem MrgI.push (h:MrgI lt a b (xs++ra) rb out) (k:∀ x∈xs,∀ y∈rb,lt y x=false):MrgI lt a b ra rb (out++xs):=by
 obtain ⟨pm,so,sa,sb,la,lb⟩:=h
 obtain ⟨s1,s2,s3⟩:=qC2.mp sa
 refine ⟨?_,qC2.mpr ⟨so,s1,fun x hx y hy=>la x hx y (qF2 _ hy)⟩,s2,sb,fun x hx y hy=>?_,fun x hx y hy=>?_⟩
 ·simpa [qB8] using pm
 ·rcases qB4.mp hx with hx | hx
  ·exact la x hx y (qD0 _ hy)
  ·exact s3 x hx y hy
 ·rcases qB4.mp hx with hx | hx
  ·exact lb x hx y hy
  ·exact k x hx y hy
structure Mg (lt:Keyed→Keyed→Bool) (a b out:yI):Prop where
 pm:out.Perm (a++b)
 so:Srt lt out
theorem MrgI.fin (h:MrgI lt a b ra [] out):Mg lt a b (out++ra) :=
 ⟨by simpa using h.pm,qC2.mpr ⟨h.so,h.sa,h.la⟩⟩
theorem MrgI.last (h:MrgI lt a b [x] rb out) (k:∀ y∈rb,lt x y=false):Mg lt a b (out++rb++[x]):=by
 refine ⟨?_,qC2.mpr ⟨qC2.mpr ⟨h.so,h.sb,h.lb⟩,qE5 ..,fun u hu v hv=>?_⟩⟩
 ·rw [qB8]
  exact ((List.Perm.refl out).append qH0).trans h.pm
 ·have e:=qA8.mp hv
  subst e
  rcases qB4.mp hu with hu | hu
  ·exact h.la u hu v (qG1 _)
  ·exact k u hu
theorem Srt.rev (h:Srt (fun x y=>lt y x) out):Srt lt out.reverse:=qK0.mpr h
end
noncomputable def gallop':Bool→Keyed→Array Keyed→Nat→Nat→Nat→StateT SortSt Sem (yK):=sortPriv% PySem.Builtin.gallop
noncomputable def mergeLo':Array Keyed→Array Keyed→StateT SortSt Sem (Array Keyed):=sortPriv% PySem.Builtin.mergeLo
noncomputable def mergeHi':Array Keyed→Array Keyed→StateT SortSt Sem (Array Keyed):=sortPriv% PySem.Builtin.mergeHi
noncomputable def bq (lt:Keyed→Keyed→Bool) (left:Bool) (key x:Keyed):Bool:=if left then lt x key else !lt key x
def Asks (prog:Program) (w:World) (A:Around) (s:Shared) (κ:SortKind) (lt:Keyed→Keyed→Bool) (G:Keyed→Prop):Prop :=
 ∀ x y,G x→G y→∀ Q:Bool→Shared→Prop,Q (lt x y) s→wpAny (model prog w) A (keyLt' κ x.1 y.1) Q (fun _ _=>False) s
section
variable {prog:Program}{w:World}{A:Around}{E:yL}{s:Shared}{κ:SortKind}{lt:Keyed→Keyed→Bool}{G:Keyed→Prop}{st:SortSt}
theorem zLQ {x y:Keyed}{Q:Option Bool→SortSt→Prop} (hA:Asks prog w A s κ lt G) (hk:kindOf st=κ) (hx:G x) (hy:G y) (h:Q (some (lt x y)) st):wpS (model prog w) A E s (lt' x y) Q st:=by
 rw [lt'_eq]
 refine wpS_bind (wpS_get ?_)
 rw [hk]
 refine wpS_bind (wpS_lift (wpAny_attempt (wpAny_mono (hA x y hx hy (fun b s'=>s'=s∧b=lt x y) ⟨rfl,rfl⟩) (fun b s' e=>?_) fun _ _ x=>x.elim)))
 obtain ⟨rfl,rfl⟩:=e
 exact ⟨rfl,wpS_pure h⟩
theorem zAk {arr:Array Keyed}{i:Nat}{x:Keyed}{Q:Keyed→SortSt→Prop} (hx:arr[i]?=some x) (h:Q x st):wpS (model prog w) A E s (elem' arr i) Q st:=by
 rw [elem'_eq,hx]; exact wpS_pure h
theorem zSg {left:Bool}{key x:Keyed}{arr:Array Keyed}{i:Nat}{Q:Option Bool→SortSt→Prop} (hA:Asks prog w A s κ lt G) (hk:kindOf st=κ) (hx:arr[i]?=some x) (gx:G x) (gk:G key) (h:Q (some (bq lt left key x)) st) :
  wpS (model prog w) A E s (do let x ← elem' arr i; if left then lt' x key else return (← lt' key x).map (!·)) Q st:=by
 refine wpS_bind (zAk hx ?_)
 cases left with
 | true=>exact zLQ hA hk gx gk h
 | false=>exact wpS_bind (zLQ hA hk gk gx (wpS_pure h))
def GalI (P:Nat→Bool) (n x:Nat) (c:Option (yK) × Nat × Nat) (st' st:SortSt):Prop:=st'=st∧∃ lo hi,c=(none,lo,hi)∧lo≤hi∧hi≤n∧hi - lo≤n - x∧(∀ i,i<lo→P i=true)∧(∀ i,hi≤i→i<n→P i=false)
theorem zN2 {P:Nat→Bool}{n:Nat}{B:Nat→StateT SortSt Sem (Option Bool)} (bey:∀ {i:Nat}{R:Option Bool→SortSt→Prop},i<n→R (some (P i)) st→wpS (model prog w) A E s (B i) R st)
  {c:Option (yK) × Nat × Nat} (h:GalI P n 0 c st st) (hm:∀ i j,i≤j→j<n→P j=true→P i=true) :
  wpS (model prog w) A E s (forIn [:n] c fun _ c=>if c.2.1≥c.2.2 then pure (ForInStep.done (none,c.2.1,c.2.2)) else B (c.2.1+(c.2.2 - c.2.1) / 2) >>= fun r=>match r with
   | some more=>if more=true then pure (ForInStep.yield (none,c.2.1+(c.2.2 - c.2.1) / 2+1,c.2.2)) else pure (ForInStep.yield (none,c.2.1,c.2.1+(c.2.2 - c.2.1) / 2))
   | _=>pure (ForInStep.done (some none,c.2.1,c.2.2)))
   (fun c st'=>st'=st∧∃ k,c=(none,k,k)∧k≤n∧(∀ i,i<k→P i=true)∧(∀ i,k≤i→i<n→P i=false)) st:=by
 refine wpS_forRange (I:=fun x c st'=>GalI P n x c st' st) ?_ ?_ h
 ·rintro x c st' _ hx ⟨rfl,lo,hi,rfl,h1,h2,h3,h4,h5⟩
  dsimp only
  by_cases hge:lo≥hi
  ·rw [if_pos hge]
   have e:lo=hi:=by omega
   subst e
   exact wpS_pure ⟨rfl,lo,rfl,h2,h4,h5⟩
  ·rw [if_neg hge]
   refine wpS_bind (bey (i:=lo+(hi - lo) / 2) (by omega) ?_)
   cases e:P (lo+(hi - lo) / 2) with
   | true=>exact wpS_pure ⟨rfl,_,_,rfl,by omega,h2,by omega,fun i hi'=>hm i _ (by omega) (by omega) e,h5⟩
   | false =>
    refine wpS_pure ⟨rfl,_,_,rfl,by omega,by omega,by omega,h4,fun i h6 h7=>?_⟩
    cases e2:P i with
    | false=>rfl
    | true=>rw [hm _ i h6 h7 e2] at e; cases e
 ·rintro c st' ⟨rfl,lo,hi,rfl,h1,h2,h3,h4,h5⟩
  have e:lo=hi:=by omega
  subst e
  exact ⟨rfl,lo,rfl,h2,h4,h5⟩
theorem zP8 {left:Bool}{key:Keyed}{arr:Array Keyed}{base n hint:Nat}{Q:yK→SortSt→Prop} (P:Nat→Bool) (hA:Asks prog w A s κ lt G) (hk:kindOf st=κ) (gk:G key) (hh:hint<n)
  (hp:∀ i,i<n→∃ x,arr[base+i]?=some x∧G x∧bq lt left key x=P i) (hm:∀ i j,i≤j→j<n→P j=true→P i=true)
  (h:∀ k,k≤n→(∀ i,i<k→P i=true)→(∀ i,k≤i→i<n→P i=false)→Q (some k) st) :
  wpS (model prog w) A E s (gallop' left key arr base n hint) Q st:=by
 have bey:∀ {i:Nat}{R:Option Bool→SortSt→Prop},i<n→R (some (P i)) st→wpS (model prog w) A E s (do let x ← elem' arr (base+i); if left then lt' x key else return (← lt' key x).map (!·)) R st:=by
  intro i R hi hR
  obtain ⟨x,hx,gx,e⟩:=hp i hi
  exact zSg hA hk hx gx gk (by rw [e]; exact hR)
 refine wpS_bind (bey hh ?_)
 dsimp only
 have fn:∀ {lo hi:Nat},lo≤hi→hi≤n→(∀ i,i<lo→P i=true)→(∀ i,hi≤i→i<n→P i=false)→GalI P n 0 (none,lo,hi) st st:=fun a b c d=>⟨rfl,_,_,rfl,a,b,by omega,c,d⟩
 cases hr:P hint with
 | true =>
  simp only [if_true]
  refine wpS_bind (wpS_mono (wpS_forRange (I:=fun x c st'=>st'=st∧∃ l o,c=(none,l,o)∧l<o∧hint+l<n∧x+1≤o∧P (hint+l)=true)
   (Q:=fun c st'=>st'=st∧∃ l o,c=(none,l,o)∧l<o∧hint+l<n∧P (hint+l)=true∧(n - hint≤o∨hint+o<n∧P (hint+o)=false)) ?_ ?_ ⟨rfl,0,1,rfl,by omega,by omega,by omega,hr⟩) ?_)
  ·rintro x c st' _ hx ⟨rfl,l,o,rfl,h1,h2,h3,h4⟩
   dsimp only
   by_cases hge:o≥n - hint
   ·rw [if_pos hge]; exact wpS_pure ⟨rfl,l,o,rfl,h1,h2,h4,.inl hge⟩
   ·rw [if_neg hge]
    refine wpS_bind (bey (i:=hint+o) (by omega) ?_)
    cases e:P (hint+o) with
    | true=>exact wpS_pure ⟨rfl,o,2*o+1,rfl,by omega,by omega,by omega,e⟩
    | false=>exact wpS_pure ⟨rfl,l,o,rfl,h1,h2,h4,.inr ⟨by omega,e⟩⟩
  ·rintro c st' ⟨rfl,l,o,rfl,h1,h2,h3,h4⟩
   exact ⟨rfl,l,o,rfl,h1,h2,h4,.inl (by omega)⟩
  ·rintro c st' ⟨rfl,l,o,rfl,h1,h2,h4,h5⟩
   dsimp only
   refine wpS_bind (wpS_mono (zN2 (bey:=bey) (hm:=hm) (fn (lo:=hint+l+1) (hi:=hint+min o (n - hint)) (by omega) (by omega) (fun i hi=>hm i (hint+l) (by omega) h2 h4) fun i h6 h7=>?_)) ?_)
   ·rcases h5 with h5 | ⟨h8,h9⟩
    ·omega
    ·cases e:P i with
     | false=>rfl
     | true=>rw [hm (hint+o) i (by omega) h7 e] at h9; cases h9
   ·rintro c st' ⟨rfl,k,rfl,a1,a2,a3⟩
    exact wpS_pure (h k a1 a2 a3)
 | false =>
  simp only [qE0,if_false]
  refine wpS_bind (wpS_mono (wpS_forRange (I:=fun x c st'=>st'=st∧∃ l o,c=(none,l,o)∧l<o∧l≤hint∧x+1≤o∧P (hint - l)=false)
   (Q:=fun c st'=>st'=st∧∃ l o,c=(none,l,o)∧l<o∧l≤hint∧P (hint - l)=false∧(hint+1≤o∨o≤hint∧P (hint - o)=true)) ?_ ?_ ⟨rfl,0,1,rfl,by omega,by omega,by omega,hr⟩) ?_)
  ·rintro x c st' _ hx ⟨rfl,l,o,rfl,h1,h2,h3,h4⟩
   dsimp only
   by_cases hge:o≥hint+1
   ·rw [if_pos hge]; exact wpS_pure ⟨rfl,l,o,rfl,h1,h2,h4,.inl hge⟩
   ·rw [if_neg hge]
    refine wpS_bind (bey (i:=hint - o) (by omega) ?_)
    cases e:P (hint - o) with
    | false=>exact wpS_pure ⟨rfl,o,2*o+1,rfl,by omega,by omega,by omega,e⟩
    | true=>exact wpS_pure ⟨rfl,l,o,rfl,h1,h2,h4,.inr ⟨by omega,e⟩⟩
  ·rintro c st' ⟨rfl,l,o,rfl,h1,h2,h3,h4⟩
   exact ⟨rfl,l,o,rfl,h1,h2,h4,.inl (by omega)⟩
  ·rintro c st' ⟨rfl,l,o,rfl,h1,h2,h4,h5⟩
   dsimp only
   refine wpS_bind (wpS_mono (zN2 (bey:=bey) (hm:=hm) (fn (lo:=hint+1 - min o (hint+1)) (hi:=hint - l) (by omega) (by omega) (fun i hi=>?_) fun i h6 h7=>?_)) ?_)
   ·rcases h5 with h5 | ⟨h8,h9⟩
    ·omega
    ·exact hm i (hint - o) (by omega) (by omega) h9
   ·cases e:P i with
    | false=>rfl
    | true=>rw [hm (hint - l) i (by omega) h7 e] at h4; cases h4
   ·rintro c st' ⟨rfl,k,rfl,a1,a2,a3⟩
    exact wpS_pure (h k a1 a2 a3)
end
open PySem PySem.Spec PyProof.Rows
structure Sg (st st':SortSt):Prop where
 k:kindOf st'=kindOf st
 a:arrOf st'=arrOf st
 p:pendingOf st'=pendingOf st
 f:failedOf st'=failedOf st
theorem Sg.rfl (st:SortSt):Sg st st:=⟨Eq.refl _,Eq.refl _,Eq.refl _,Eq.refl _⟩
section
variable {lt:Keyed→Keyed→Bool}{a b ra rb out xs:yI}{x:Keyed}
theorem zGQ (a:yI) (i:Nat):(a.toArray.extract i a.toArray.size).toList=a.drop i:=by
 simp only [List.extract_toArray,qB0,List.extract_eq_take_drop]
 exact qE3 (by simp)
theorem zKv (a:yI) (i j:Nat):(a.toArray.extract i j).toList=(a.drop i).take (j - i):=by
 simp
theorem zGR {a:yI}{i:Nat} (h:i<a.length):a.drop i=[a[i]]++a.drop (i+1):=qF6 h
theorem zRJ {a:yI}{i j:Nat} (h:i≤j):a.drop i=(a.drop i).take (j - i)++a.drop j:=by
 conv=>lhs; rw [← qD1 (j - i) (a.drop i)]
 rw [qQ4]; congr 2; omega
end
theorem zDV {lt:Keyed→Keyed→Bool}{b:yI}{i:Nat}{x:Keyed} (hO:Swo lt) (sb:Srt lt b) (hi:i<b.length) (h:lt b[i] x=false):∀ y∈b.drop i,lt y x=false:=by
 intro y hy
 rw [zGR hi] at hy
 rcases qB4.mp hy with hy | hy
 ·rw [qA8.mp hy]; exact h
 ·have s1:Srt lt ([b[i]]++b.drop (i+1)):=by rw [← zGR hi]; exact sb.sublist (qH7 ..)
  exact hO.tr x b[i] y h ((qC2.mp s1).2.2 _ (qG1 _) y hy)
section
variable {lt:Keyed→Keyed→Bool}{a b:yI}{ia ib k:Nat}{out:Array Keyed}
theorem zTX (h:MrgI lt a b (a.drop ia) (b.drop ib) out.toList) (h1:ia≤a.length) (h2:ib≤b.length):out.size=ia+ib:=by
 have e:=h.pm.length_eq
 simp at e; omega
theorem zER (h:MrgI lt a b (a.drop ia) (b.drop ib) out.toList) (e:ib=b.length∨ia=a.length):Mg lt a b (out++a.toArray.extract ia a.toArray.size++b.toArray.extract ib b.toArray.size).toList:=by
 rw [Array.toList_append,Array.toList_append,zGQ,zGQ]
 rcases e with rfl | rfl
 ·rw [qM3] at h ⊢; simpa using h.fin
 ·rw [qM3] at h ⊢
  have:=h.swap.fin
  exact ⟨by simpa using this.pm.trans qH0,by simpa using this.so⟩
theorem zGz (h:MrgI lt a b (a.drop ia) (b.drop ib) out.toList) (e:ia+1=a.length) (hl:∀ y∈b,lt (a[a.length - 1]'(by omega)) y=false):Mg lt a b (out++b.toArray.extract ib b.toArray.size++a.toArray.extract ia a.toArray.size).toList:=by
 rw [Array.toList_append,Array.toList_append,zGQ,zGQ]
 have e1:a.drop ia=[a[a.length - 1]'(by omega)]:=by
  rw [zGR (by omega),qP4 (by omega),qI6]
  congr 2; omega
 rw [e1] at h ⊢
 exact h.last fun y hy=>hl y (qG2 hy)
theorem lo_a (h:MrgI lt a b (a.drop ia) (b.drop ib) out.toList) (i1:ia<a.length) (k:∀ y∈b.drop ib,lt y a[ia]=false):MrgI lt a b (a.drop (ia+1)) (b.drop ib) (out.push a[ia]).toList:=by
 rw [zGR i1] at h
 rw [Array.toList_push]
 exact h.push fun x hx=>by rw [qA8.mp hx]; exact k
theorem zTY (h:MrgI lt a b (a.drop ia) (b.drop ib) out.toList) (hk:ia+k≤a.length) (q:∀ i,(hi:i<k)→∀ y∈b.drop ib,lt y (a[ia+i]'(by omega))=false):MrgI lt a b (a.drop (ia+k)) (b.drop ib) (out++a.toArray.extract ia (ia+k)).toList:=by
 rw [zRJ (show ia≤ia+k by omega)] at h
 rw [Array.toList_append,zKv]
 refine h.push fun x hx=>?_
 obtain ⟨i,hi,e⟩:=qH5.mp hx
 have hi':i<k:=by simp at hi; omega
 rw [← e]
 simpa using q i hi'
end
section
variable {lt:Keyed→Keyed→Bool}{a b:yI}{ia ib k:Nat}{out:Array Keyed}
theorem lo_b (h:MrgI lt a b (a.drop ia) (b.drop ib) out.toList) (i1:ib<b.length) (k:∀ y∈a.drop ia,lt y b[ib]=false):MrgI lt a b (a.drop ia) (b.drop (ib+1)) (out.push b[ib]).toList :=
 (lo_a h.swap i1 k).swap
theorem zWG (h:MrgI lt a b (a.drop ia) (b.drop ib) out.toList) (hk:ib+k≤b.length) (q:∀ i,(hi:i<k)→∀ y∈a.drop ia,lt y (b[ib+i]'(by omega))=false):MrgI lt a b (a.drop ia) (b.drop (ib+k)) (out++b.toArray.extract ib (ib+k)).toList :=
 (zTY h.swap hk q).swap
structure Wl (lt:Keyed→Keyed→Bool) (a b:yI) (ia ib:Nat) (out:Array Keyed):Prop where
 m:MrgI lt a b (a.drop ia) (b.drop ib) out.toList
 i:ia+1<a.length
 j:ib<b.length
theorem zP9 (hO:Swo lt) (sa:Srt lt a) (left:Bool) (key:Keyed) {i j:Nat} (hij:i≤j) (hj:j<a.length) (h:bq lt left key a[j]=true):bq lt left key (a[i]'(by omega))=true:=by
 rcases qR5 hij with hlt | rfl
 ·have e:=qN9.mp sa i j (by omega) hj hlt
  cases left with
  | true =>
   show lt a[i] key=true
   cases e2:lt a[i] key with
   | true=>rfl
   | false=>exact (hO.tr key a[i] a[j] e2 e).symm.trans h
  | false =>
   have h':lt key a[j]=false:=by simpa [bq] using h
   show (!lt key a[i])=true
   rw [hO.tr a[i] a[j] key e h']; rfl
 ·exact h
end
section
variable {prog:Program}{w:World}{A:Around}{E:yL}{s:Shared}{κ:SortKind}{lt:Keyed→Keyed→Bool}{G:Keyed→Prop}{st:SortSt}
noncomputable def setG':Nat→StateT SortSt Sem Unit:=sortPriv% PySem.Builtin.setMinGallop
theorem zLP {g:Nat}{Q:Unit→SortSt→Prop} (h:∀ st',Sg st st'→Q () st'):wpS (model prog w) A E s (setG' g) Q st :=
 wpS_modify (h _ ⟨rfl,rfl,rfl,rfl⟩)
theorem Sg.trans {st st' st'':SortSt} (h:Sg st st') (k:Sg st' st''):Sg st st'':=⟨k.k.trans h.k,k.a.trans h.a,k.p.trans h.p,k.f.trans h.f⟩
theorem zG9 {left:Bool}{key:Keyed}{a:yI}{base n hint:Nat}{Q:yK→SortSt→Prop} (hO:Swo lt) (hA:Asks prog w A s κ lt G) (hk:kindOf st=κ) (gk:G key) (ga:∀ x∈a,G x) (sa:Srt lt ((a.drop base).take n)) (hn:base+n≤a.length) (hh:hint<n)
  (h:∀ k,k≤n→(∀ i,(hi:i<k)→(hn':i<n)→bq lt left key (a[base+i]'(by omega))=true)→(∀ i,k≤i→(hi:i<n)→bq lt left key (a[base+i]'(by omega))=false)→Q (some k) st) :
  wpS (model prog w) A E s (gallop' left key a.toArray base n hint) Q st:=by
 have ge:∀ i,(hi:i<n)→((a.drop base).take n)[i]'(by simp; omega)=a[base+i]'(by omega):=fun i hi=>by simp
 refine zP8 (P:=fun i=>if hi:i<n then bq lt left key (a[base+i]'(by omega)) else false) hA hk gk hh (fun i hi=>⟨a[base+i]'(by omega),by rw [qD2]; exact qA5 (by omega),ga _ (qD8 _),by simp [hi]⟩) (fun i j hij hj hp=>?_) fun k hk1 hk2 hk3=>h k hk1 (fun i hi hn'=>?_) fun i hi hn'=>?_
 ·have hi:i<n:=by omega
  simp only [hi,hj,dif_pos] at hp ⊢
  rw [← ge j hj] at hp
  rw [← ge i hi]
  exact zP9 hO sa left key hij (by simp; omega) hp
 ·have:=hk2 i hi; simpa [hn'] using this
 ·have:=hk3 i hi hn'; simpa [hn'] using this
theorem zOI {a b:yI}{Q:Array Keyed→SortSt→Prop} (hO:Swo lt) (hA:Asks prog w A s κ lt G) (hk:kindOf st=κ) (ga:∀ x∈a,G x) (gb:∀ x∈b,G x) (sa:Srt lt a) (sb:Srt lt b)
  (ha:0<a.length) (hb:0<b.length) (h0:∀ x∈a,lt x b[0]=false) (hl:∀ y∈b,lt (a[a.length - 1]'(by omega)) y=false)
  (h:∀ out st',Sg st st'→Mg lt a b out.toList→Q out st'):wpS (model prog w) A E s (mergeLo' a.toArray b.toArray) Q st:=by
 refine wpS_bind (wpS_lift (wpAny_rule ⟨rfl,?_⟩))
 refine wpS_bind (zAk (x:=b[0]) (by simp [hb]) ?_)
 dsimp only
 have m0:MrgI lt a b (a.drop 0) (b.drop 0) (#[]:Array Keyed).toList:=⟨by simp,.nil,by simpa using sa,by simpa using sb,fun x hx=>(by simp at hx),fun x hx=>(by simp at hx)⟩
 have m1:MrgI lt a b (a.drop 0) (b.drop 1) (#[b[0]]:Array Keyed).toList:=lo_b m0 hb fun y hy=>h0 y (by simpa using hy)
 by_cases e1:(1 == b.toArray.size)=true
 ·rw [if_pos e1]; exact wpS_pure (h _ _ (.rfl _) (zER m1 (.inl (by simpa using e1))))
 rw [if_neg e1]
 by_cases e2:(0+1 == a.toArray.size)=true
 ·rw [if_pos e2]; exact wpS_pure (h _ _ (.rfl _) (zGz m1 (by simpa using e2) hl))
 rw [if_neg e2]
 have w1:Wl lt a b 0 1 #[b[0]]:=⟨m1,by simp at e2; omega,by simp at e1; omega⟩
 refine wpS_bind (wpS_get ?_)
 refine wpS_bind (wpS_mono (wpS_forRange (I:=fun x c st'=>∃ out ia ib g,c=(none,out,ia,ib,g)∧Sg st st'∧Wl lt a b ia ib out∧x+1≤out.size)
  (Q:=fun c st'=>∃ r o,c=(some r,o)∧Sg st st'∧Mg lt a b r.toList) ?_ ?_ ⟨_,_,_,_,rfl,.rfl _,w1,by simp⟩) ?_)
 ·rintro x c st1 _ hx ⟨out,ia,ib,g,rfl,hs,W,hsz⟩
  dsimp only
  have hk1:kindOf st1=κ:=hs.k.trans hk
  refine wpS_bind (wpS_mono (wpS_forRange (I:=fun y c st'=>∃ out ia ib p q,c=(none,out,ia,ib,p,q)∧st'=st1∧Wl lt a b ia ib out∧x+1+y≤out.size)
   (Q:=fun c st'=>st'=st1∧((∃ r o,c=(some r,o)∧Mg lt a b r.toList)∨∃ out ia ib p q,c=(none,out,ia,ib,p,q)∧Wl lt a b ia ib out∧x+2≤out.size)) ?_ ?_ ⟨_,_,_,_,_,rfl,rfl,W,by omega⟩) ?_)
  ·rintro y c st2 _ hy ⟨out,ia,ib,p,q,rfl,rfl,W,hsz⟩
   dsimp only
   have i1:=W.i
   have j1:=W.j
   refine wpS_bind (zAk (x:=b[ib]) (by simp [j1]) (wpS_bind (zAk (x:=a[ia]) (by rw [qD2]; exact qA5 (by omega)) (wpS_bind (zLQ hA hk1 (gb _ (qD8 _)) (ga _ (qD8 _)) ?_)))))
   cases e:lt b[ib] a[ia] with
   | true =>
    refine wpS_bind (zAk (x:=b[ib]) (by simp [j1]) ?_)
    have m2:=lo_b W.m j1 (zDV hO sa (by omega) (hO.as _ _ e))
    by_cases e3:(ib+1 == b.toArray.size)=true
    ·rw [if_pos e3]; exact wpS_pure ⟨rfl,.inl ⟨_,_,rfl,zER m2 (.inl (by simpa using e3))⟩⟩
    rw [if_neg e3]
    have w2:Wl lt a b ia (ib+1) (out.push b[ib]):=⟨m2,i1,by simp at e3; omega⟩
    split
    ·exact wpS_pure ⟨rfl,.inr ⟨_,_,_,_,_,rfl,w2,by simp; omega⟩⟩
    ·exact wpS_pure ⟨_,_,_,_,_,rfl,rfl,w2,by simp; omega⟩
   | false =>
    refine wpS_bind (zAk (x:=a[ia]) (by rw [qD2]; exact qA5 (by omega)) ?_)
    have m2:=lo_a W.m (by omega) (zDV hO sb j1 e)
    by_cases e3:(ia+1+1 == a.toArray.size)=true
    ·rw [if_pos e3]; exact wpS_pure ⟨rfl,.inl ⟨_,_,rfl,zGz m2 (by simpa using e3) hl⟩⟩
    rw [if_neg e3]
    have w2:Wl lt a b (ia+1) ib (out.push a[ia]):=⟨m2,by simp at e3; omega,j1⟩
    split
    ·exact wpS_pure ⟨rfl,.inr ⟨_,_,_,_,_,rfl,w2,by simp; omega⟩⟩
    ·exact wpS_pure ⟨_,_,_,_,_,rfl,rfl,w2,by simp; omega⟩
  ·rintro c st2 ⟨out,ia,ib,p,q,rfl,rfl,W,hsz⟩
   exact ⟨rfl,.inr ⟨_,_,_,_,_,rfl,W,by simp at hsz; omega⟩⟩
  rintro c st2 ⟨rfl,⟨r,o,rfl,hr⟩ | ⟨out,ia,ib,p,q,rfl,W,hsz⟩⟩
  ·exact wpS_pure ⟨r,_,rfl,hs,hr⟩
  dsimp only
  refine wpS_bind (wpS_lift (wpAny_rule ⟨rfl,?_⟩))
  refine wpS_bind (wpS_mono (wpS_forRange (I:=fun y c st'=>∃ out ia ib g p q,c=(none,out,ia,ib,g,p,q)∧Sg st st'∧Wl lt a b ia ib out∧x+2≤out.size)
   (Q:=fun c st'=>Sg st st'∧((∃ r o,c=(some r,o)∧Mg lt a b r.toList)∨∃ out ia ib g p q,c=(none,out,ia,ib,g,p,q)∧Wl lt a b ia ib out∧x+2≤out.size)) ?_ ?_ ⟨_,_,_,_,_,_,rfl,hs,W,hsz⟩) ?_)
  ·rintro y c st3 _ hy ⟨out,ia,ib,g,p,q,rfl,hs3,W,hsz⟩
   dsimp only
   have i1:=W.i
   have j1:=W.j
   by_cases hg:g>1
   case' pos=>rw [if_pos hg]
   case' neg=>rw [if_neg hg]
   all_goals
    refine wpS_bind (zLP fun st4 s4=>?_)
    have hs4:=hs3.trans s4
    have hk4:kindOf st4=κ:=hs4.k.trans hk
    refine wpS_bind (zAk (x:=b[ib]) (by simp [j1]) ?_)
    refine wpS_bind (zG9 hO hA hk4 (gb _ (qD8 _)) ga (sa.sublist ((qG4 ..).trans (qH7 ..))) (by simp; omega) (by simp; omega) fun k k1 k2 k3=>?_)
    simp only [qB0] at k1 k2 k3
    dsimp only
    have mk:MrgI lt a b (a.drop (ia+k)) (b.drop ib) (out++a.toArray.extract ia (ia+k)).toList :=
     zTY W.m (by omega) fun i hi=>zDV hO sb j1 (by simpa [bq] using k2 i hi (by omega))
    have ck:ia+k<a.length→∀ y∈a.drop (ia+k),lt y b[ib]=false:=fun hl=>zDV hO sa hl (hO.as _ _ (by simpa [bq] using k3 k (qA9 _) (by omega)))
    by_cases hk0:k>0
    case' pos =>
     rw [if_pos hk0]
     by_cases e3:(ia+k+1 == a.toArray.size)=true
     case pos=>rw [if_pos e3]; exact wpS_pure ⟨hs4,.inl ⟨_,_,rfl,zGz mk (by simpa using e3) hl⟩⟩
     rw [if_neg e3]
     by_cases e4:(ia+k == a.toArray.size)=true
     case pos=>rw [if_pos e4]; exact wpS_pure ⟨hs4,.inl ⟨_,_,rfl,zER mk (.inr (by simpa using e4))⟩⟩
     rw [if_neg e4]
     have i2:ia+k+1<a.length:=by simp at e3 e4; omega
     have ck:=ck (by omega)
     have hz:x+2≤(out++a.toArray.extract ia (ia+k)).size:=by rw [Array.size_append]; omega
     generalize out++a.toArray.extract ia (ia+k)=out at mk hz ⊢
     generalize ia+k=ia2 at mk i2 ck ⊢
    case' neg =>
     rw [if_neg hk0]
     have i2:ia+1<a.length:=i1
     have ck:∀ y∈a.drop ia,lt y b[ib]=false:=by
      have e0:k=0:=by omega
      subst e0
      exact ck (by omega)
     have mk:=W.m
     have hz:=hsz
     generalize ia=ia2 at mk i2 ck ⊢
    all_goals
     clear k1 k2 k3 W i1 hsz
     refine wpS_bind (zAk (x:=b[ib]) (by simp [j1]) ?_)
     have m3:=lo_b mk j1 ck
     by_cases e5:(ib+1 == b.toArray.size)=true
     case pos=>rw [if_pos e5]; exact wpS_pure ⟨hs4,.inl ⟨_,_,rfl,zER m3 (.inl (by simpa using e5))⟩⟩
     rw [if_neg e5]
     have j2:ib+1<b.length:=by simp at e5; omega
     refine wpS_bind (zAk (x:=a[ia2]) (by rw [qD2]; exact qA5 (by omega)) ?_)
     refine wpS_bind (zG9 hO hA hk4 (ga _ (qD8 _)) gb (sb.sublist ((qG4 ..).trans (qH7 ..))) (by simp; omega) (by simp; omega) fun k k1 k2 k3=>?_)
     simp only [qB0] at k1 k2 k3
     dsimp only
     have mk2:MrgI lt a b (a.drop ia2) (b.drop (ib+1+k)) ((Array.push _ b[ib])++b.toArray.extract (ib+1) (ib+1+k)).toList :=
      zWG m3 (by omega) fun i hi=>zDV hO sa (by omega) (hO.as _ _ (by simpa [bq] using k2 i hi (by omega)))
     have ck2:ib+1+k<b.length→∀ y∈b.drop (ib+1+k),lt y a[ia2]=false:=fun hl=>zDV hO sb hl (by simpa [bq] using k3 k (qA9 _) (by omega))
     by_cases hk1:k>0
     case' pos =>
      rw [if_pos hk1]
      by_cases e6:(ib+1+k == b.toArray.size)=true
      case pos=>rw [if_pos e6]; exact wpS_pure ⟨hs4,.inl ⟨_,_,rfl,zER mk2 (.inl (by simpa using e6))⟩⟩
      rw [if_neg e6]
      have j3:ib+1+k<b.length:=by simp at e6; omega
      have m4:=lo_a mk2 (by omega) (ck2 j3)
     case' neg =>
      rw [if_neg hk1]
      have e0:k=0:=by omega
      subst e0
      have j3:=j2
      have m4:=lo_a m3 (by omega) (ck2 j3)
     all_goals
      refine wpS_bind (zAk (x:=a[ia2]) (by rw [qD2]; exact qA5 (by omega)) ?_)
      by_cases e7:(ia2+1+1 == a.toArray.size)=true
      case pos=>rw [if_pos e7]; exact wpS_pure ⟨hs4,.inl ⟨_,_,rfl,zGz m4 (by simpa using e7) hl⟩⟩
      rw [if_neg e7]
      have w5:Wl lt a b (ia2+1) _ _:=⟨m4,by simp at e7; omega,j3⟩
      split
      ·exact wpS_pure ⟨hs4,.inr ⟨_,_,_,_,_,_,rfl,w5,by simp; omega⟩⟩
      ·exact wpS_pure ⟨_,_,_,_,_,_,rfl,hs4,w5,by simp; omega⟩
  ·rintro c st2 ⟨out,ia,ib,g,p,q,rfl,hs3,W,hsz⟩
   exact ⟨hs3,.inr ⟨_,_,_,_,_,_,rfl,W,hsz⟩⟩
  rintro c st3 ⟨hs3,⟨r,o,rfl,hr⟩ | ⟨out,ia,ib,g,p,q,rfl,W,hsz⟩⟩
  ·exact wpS_pure ⟨r,_,rfl,hs3,hr⟩
  dsimp only
  exact wpS_bind (wpS_modify (wpS_pure ⟨_,_,_,_,rfl,⟨hs3.k,hs3.a,hs3.p,hs3.f⟩,W,by omega⟩))
 ·rintro c st1 ⟨out,ia,ib,g,rfl,hs,W,hsz⟩
  have:=zTX W.m (by have:=W.i; omega) (by have:=W.j; omega)
  have:=W.i
  have:=W.j
  simp at hsz
  omega
 ·rintro c st1 ⟨r,o,rfl,hs,hr⟩
  exact wpS_pure (h r st1 hs hr)
end
open PySem PySem.Spec PyProof.Rows
section
variable {lt:Keyed→Keyed→Bool}{a b:yI}{na nb t:Nat}{out:Array Keyed}
theorem zLT (h:na - 1<a.length) (h0:0<na):(a.take na).reverse=[a[na - 1]]++(a.take (na - 1)).reverse:=by
 obtain ⟨m,rfl⟩:∃ m,na=m+1:=⟨na - 1,by omega⟩
 simp only [qR6] at h ⊢
 rw [List.take_succ_eq_append_getElem h,qR0]; rfl
theorem zQe (h:t≤na):(a.take na).reverse=((a.drop t).take (na - t)).reverse++(a.take t).reverse:=by
 rw [← qR0]
 congr 1
 rw [← List.drop_take]
 conv=>lhs; rw [← qD1 t (a.take na)]
 rw [List.take_take,qN1 h]
abbrev MH (lt:Keyed→Keyed→Bool) (a b:yI) (na nb:Nat) (out:Array Keyed):Prop:=MrgI (fun x y=>lt y x) a b (a.take na).reverse (b.take nb).reverse out.toList
theorem zFx {x:Keyed} (hO:Swo lt) (sb:Srt lt b) (hi:nb - 1<b.length) (h:lt x b[nb - 1]=false):∀ y∈(b.take nb).reverse,lt x y=false:=by
 intro y hy
 rcases Nat.eq_zero_or_pos nb with rfl | h0
 ·simp at hy
 ·have s1:Srt lt (b.take nb):=sb.sublist (qG4 ..)
  have s2:(b.take nb).reverse.Pairwise fun x y=>lt x y=false:=qK0.mpr s1
  rw [zLT hi h0] at hy s2
  rcases qB4.mp hy with hy | hy
  ·rw [qA8.mp hy]; exact h
  ·exact hO.tr y b[nb - 1] x ((qC2.mp s2).2.2 _ (qG1 _) y hy) h
theorem zPc (a:yI) (j:Nat):(a.toArray.extract 0 j).toList=a.take j:=by simp
theorem zUo (h:MH lt a b na nb out) (h1:na≤a.length) (h2:nb≤b.length):out.size+na+nb=a.length+b.length:=by
 have e:=h.pm.length_eq
 simp at e; omega
theorem Mg.rev {o:yI} (h:Mg (fun x y=>lt y x) a b o):Mg lt a b o.reverse:=⟨o.reverse_perm.trans h.pm,h.so.rev⟩
theorem Mg.comm {o:yI} (h:Mg lt b a o):Mg lt a b o:=⟨h.pm.trans qH0,h.so⟩
theorem zFc (h:MH lt a b na nb out) (e:na=0∨nb=0):Mg lt a b (a.toArray.extract 0 na++b.toArray.extract 0 nb++out.reverse).toList:=by
 rw [Array.toList_append,Array.toList_append,zPc,zPc,Array.toList_reverse]
 rcases e with rfl | rfl
 ·have:=(MrgI.fin (ra:=(b.take nb).reverse) (by simpa using h.swap)).rev.comm
  simpa using this
 ·unfold MH at h
  have:=(MrgI.fin (ra:=(a.take na).reverse) (by simpa using h)).rev
  simpa using this
theorem zEy (h:MH lt a b na nb out) (e:nb=1) (hb:0<b.length) (h0:∀ x∈a,lt x b[0]=false):Mg lt a b (b.toArray.extract 0 nb++a.toArray.extract 0 na++out.reverse).toList:=by
 rw [Array.toList_append,Array.toList_append,zPc,zPc,Array.toList_reverse]
 subst e
 have e1:b.take 1=[b[0]]:=by
  cases b with
  | nil=>simp at hb
  | cons x b=>simp
 have h':=h.swap
 rw [e1] at h' ⊢
 have:=(MrgI.last h' fun y hy=>h0 y (qE6 (qI3.mp hy))).rev.comm
 simpa using this
theorem hi_a (h:MH lt a b na nb out) (i1:na - 1<a.length) (i0:0<na) (k:∀ y∈(b.take nb).reverse,lt a[na - 1] y=false):MH lt a b (na - 1) nb (out.push a[na - 1]):=by
 unfold MH at h ⊢
 rw [zLT i1 i0] at h
 rw [Array.toList_push]
 exact h.push fun x hx=>by rw [qA8.mp hx]; exact k
theorem zUp (h:MH lt a b na nb out) (ht:t≤na) (hn:na≤a.length) (q:∀ i,t≤i→(hi:i<na)→∀ y∈(b.take nb).reverse,lt (a[i]'(by omega)) y=false):MH lt a b t nb (out++(a.toArray.extract t na).reverse):=by
 unfold MH at h ⊢
 rw [zQe ht] at h
 rw [Array.toList_append,Array.toList_reverse,zKv]
 refine h.push fun x hx=>?_
 obtain ⟨i,hi,e⟩:=qH5.mp (qI3.mp hx)
 have hi':t+i<na:=by simp at hi; omega
 rw [← e]
 simpa using q (t+i) (by omega) hi'
end
section
variable {lt:Keyed→Keyed→Bool}{a b:yI}{na nb t:Nat}{out:Array Keyed}
theorem hi_b (h:MH lt a b na nb out) (i1:nb - 1<b.length) (i0:0<nb) (k:∀ y∈(a.take na).reverse,lt b[nb - 1] y=false):MH lt a b na (nb - 1) (out.push b[nb - 1]) :=
 MrgI.swap (hi_a (MrgI.swap h) i1 i0 k)
theorem zWS (h:MH lt a b na nb out) (ht:t≤nb) (hn:nb≤b.length) (q:∀ i,t≤i→(hi:i<nb)→∀ y∈(a.take na).reverse,lt (b[i]'(by omega)) y=false):MH lt a b na t (out++(b.toArray.extract t nb).reverse) :=
 MrgI.swap (zUp (MrgI.swap h) ht hn q)
structure Wh (lt:Keyed→Keyed→Bool) (a b:yI) (na nb:Nat) (out:Array Keyed):Prop where
 m:MH lt a b na nb out
 i:0<na
 j:1<nb
 i':na<a.length
 j':nb≤b.length
end
section
variable {prog:Program}{w:World}{A:Around}{E:yL}{s:Shared}{κ:SortKind}{lt:Keyed→Keyed→Bool}{G:Keyed→Prop}{st:SortSt}
theorem zOJ {a b:yI}{Q:Array Keyed→SortSt→Prop} (hO:Swo lt) (hA:Asks prog w A s κ lt G) (hk:kindOf st=κ) (ga:∀ x∈a,G x) (gb:∀ x∈b,G x) (sa:Srt lt a) (sb:Srt lt b)
  (ha:0<a.length) (hb:0<b.length) (h0:∀ x∈a,lt x b[0]=false) (hl:∀ y∈b,lt (a[a.length - 1]'(by omega)) y=false)
  (h:∀ out st',Sg st st'→Mg lt a b out.toList→Q out st'):wpS (model prog w) A E s (mergeHi' a.toArray b.toArray) Q st:=by
 have geA:∀ i,(hi:i<a.length)→a.toArray[i]?=some a[i]:=fun i hi=>by rw [qD2]; exact qA5 hi
 have geB:∀ i,(hi:i<b.length)→b.toArray[i]?=some b[i]:=fun i hi=>by rw [qD2]; exact qA5 hi
 refine wpS_bind (wpS_lift (wpAny_rule ⟨rfl,?_⟩))
 (try dsimp only)
 rw [show a.toArray.size=a.length from rfl,show b.toArray.size=b.length from rfl]
 refine wpS_bind (zAk (geA (a.length - 1) (by omega)) ?_)
 (try dsimp only)
 have m0:MH lt a b a.length b.length #[]:=by
  refine ⟨?_,.nil,?_,?_,fun x hx=>(by simp at hx),fun x hx=>(by simp at hx)⟩
  ·simpa using (a.reverse_perm.append b.reverse_perm)
  ·rw [qK3]; exact qK0.mpr sa
  ·rw [qK3]; exact qK0.mpr sb
 have m1:MH lt a b (a.length - 1) b.length #[a[a.length - 1]]:=hi_a m0 (by omega) ha fun y hy=>hl y (qE6 (qI3.mp hy))
 by_cases e1:(a.length - 1 == 0)=true
 ·rw [if_pos e1]; exact wpS_pure (h _ _ (.rfl _) (zFc m1 (.inl (by simpa using e1))))
 rw [if_neg e1]
 by_cases e2:(b.length == 1)=true
 ·rw [if_pos e2]; exact wpS_pure (h _ _ (.rfl _) (zEy m1 (by simpa using e2) hb h0))
 rw [if_neg e2]
 have w1:Wh lt a b (a.length - 1) b.length #[a[a.length - 1]]:=⟨m1,by simp at e1; omega,by simp at e2; omega,by omega,by omega⟩
 refine wpS_bind (wpS_get ?_)
 refine wpS_bind (wpS_mono (wpS_forRange (I:=fun x c st'=>∃ na nb out g,c=(none,na,nb,out,g)∧Sg st st'∧Wh lt a b na nb out∧x+1≤out.size)
  (Q:=fun c st'=>∃ r o,c=(some r,o)∧Sg st st'∧Mg lt a b r.toList) ?_ ?_ ⟨_,_,_,_,rfl,.rfl _,w1,by simp⟩) ?_)
 ·rintro x c st1 _ hx ⟨na,nb,out,g,rfl,hs,W,hsz⟩
  dsimp only
  have hk1:kindOf st1=κ:=hs.k.trans hk
  refine wpS_bind (wpS_mono (wpS_forRange (I:=fun y c st'=>∃ na nb out p q,c=(none,na,nb,out,p,q)∧st'=st1∧Wh lt a b na nb out∧x+1+y≤out.size)
   (Q:=fun c st'=>st'=st1∧((∃ r o,c=(some r,o)∧Mg lt a b r.toList)∨∃ na nb out p q,c=(none,na,nb,out,p,q)∧Wh lt a b na nb out∧x+2≤out.size)) ?_ ?_ ⟨_,_,_,_,_,rfl,rfl,W,by omega⟩) ?_)
  ·rintro y c st2 _ hy ⟨na,nb,out,p,q,rfl,rfl,⟨m,i1,j1,i2,j2⟩,hsz⟩
   dsimp only
   refine wpS_bind (zAk (geB (nb - 1) (by omega)) (wpS_bind (zAk (geA (na - 1) (by omega)) (wpS_bind (zLQ hA hk1 (gb _ (qD8 _)) (ga _ (qD8 _)) ?_)))))
   cases e:lt b[nb - 1] a[na - 1] with
   | true =>
    refine wpS_bind (zAk (geA (na - 1) (by omega)) ?_)
    have m2:=hi_a m (by omega) i1 (zFx hO sb (by omega) (hO.as _ _ e))
    by_cases e3:(na - 1 == 0)=true
    ·rw [if_pos e3]; exact wpS_pure ⟨rfl,.inl ⟨_,_,rfl,zFc m2 (.inl (by simpa using e3))⟩⟩
    rw [if_neg e3]
    have w2:Wh lt a b (na - 1) nb (out.push a[na - 1]):=⟨m2,by simp at e3; omega,j1,by omega,j2⟩
    split
    ·exact wpS_pure ⟨rfl,.inr ⟨_,_,_,_,_,rfl,w2,by simp; omega⟩⟩
    ·exact wpS_pure ⟨_,_,_,_,_,rfl,rfl,w2,by simp; omega⟩
   | false =>
    refine wpS_bind (zAk (geB (nb - 1) (by omega)) ?_)
    have m2:=hi_b m (by omega) (by omega) (zFx hO sa (by omega) e)
    by_cases e3:(nb - 1 == 1)=true
    ·rw [if_pos e3]; exact wpS_pure ⟨rfl,.inl ⟨_,_,rfl,zEy m2 (by simpa using e3) hb h0⟩⟩
    rw [if_neg e3]
    have w2:Wh lt a b na (nb - 1) (out.push b[nb - 1]):=⟨m2,i1,by simp at e3; omega,i2,by omega⟩
    split
    ·exact wpS_pure ⟨rfl,.inr ⟨_,_,_,_,_,rfl,w2,by simp; omega⟩⟩
    ·exact wpS_pure ⟨_,_,_,_,_,rfl,rfl,w2,by simp; omega⟩
  ·rintro c st2 ⟨na,nb,out,p,q,rfl,rfl,W,hsz⟩
   exact ⟨rfl,.inr ⟨_,_,_,_,_,rfl,W,by simp at hsz; omega⟩⟩
  rintro c st2 ⟨rfl,⟨r,o,rfl,hr⟩ | ⟨na,nb,out,p,q,rfl,W,hsz⟩⟩
  ·exact wpS_pure ⟨r,_,rfl,hs,hr⟩
  dsimp only
  refine wpS_bind (wpS_lift (wpAny_rule ⟨rfl,?_⟩))
  refine wpS_bind (wpS_mono (wpS_forRange (I:=fun y c st'=>∃ na nb out g p q,c=(none,na,nb,out,g,p,q)∧Sg st st'∧Wh lt a b na nb out∧x+2≤out.size)
   (Q:=fun c st'=>Sg st st'∧((∃ r o,c=(some r,o)∧Mg lt a b r.toList)∨∃ na nb out g p q,c=(none,na,nb,out,g,p,q)∧Wh lt a b na nb out∧x+2≤out.size)) ?_ ?_ ⟨_,_,_,_,_,_,rfl,hs,W,hsz⟩) ?_)
  ·rintro y c st3 _ hy ⟨na,nb,out,g,p,q,rfl,hs3,⟨m,i1,j1,i2,j2⟩,hsz⟩
   dsimp only
   by_cases hg:g>1
   case' pos=>rw [if_pos hg]
   case' neg=>rw [if_neg hg]
   all_goals
    refine wpS_bind (zLP fun st4 s4=>?_)
    have hs4:=hs3.trans s4
    have hk4:kindOf st4=κ:=hs4.k.trans hk
    refine wpS_bind (zAk (geB (nb - 1) (by omega)) ?_)
    refine wpS_bind (zG9 hO hA hk4 (gb _ (qD8 _)) ga (sa.sublist ((qG4 ..).trans (qH7 ..))) (by omega) (by omega) fun k k1 k2 k3=>?_)
    simp only [qN4] at k2 k3
    dsimp only
    have mk:MH lt a b k nb (out++(a.toArray.extract k na).reverse):=zUp m k1 (by omega) fun i hi1 hi=>zFx hO sb (by omega) (hO.as _ _ (by simpa [bq] using k3 i hi1 hi))
    have ck:0<k→∀ y∈(a.take k).reverse,lt b[nb - 1] y=false:=fun hl=>zFx hO sa (by omega) (by simpa [bq] using k2 (k - 1) (by omega) (by omega))
    by_cases hk0:na - k>0
    case' pos =>
     rw [if_pos hk0]
     by_cases e3:(k == 0)=true
     case pos=>rw [if_pos e3]; exact wpS_pure ⟨hs4,.inl ⟨_,_,rfl,zFc mk (.inl (by simpa using e3))⟩⟩
     rw [if_neg e3]
     have i3:0<k:=by simp at e3; omega
     have i4:k<a.length:=by omega
     have ck:=ck i3
     have hz:x+2≤(out++(a.toArray.extract k na).reverse).size:=by rw [Array.size_append]; omega
     generalize out++(a.toArray.extract k na).reverse=out at mk hz ⊢
     clear k1 k2 k3
     generalize hd:na - k=d
     clear hd hk0
     generalize k=na2 at mk i3 i4 ck ⊢
    case' neg =>
     rw [if_neg hk0]
     have e0:k=na:=by omega
     subst e0
     have i3:=i1
     have i4:=i2
     have ck:=ck i1
     have mk:=m
     have hz:=hsz
     clear k1 k2 k3 hk0
     generalize hd:k - k=d
     clear hd
     generalize k=na2 at mk i3 i4 ck ⊢
    all_goals
     clear m hsz
     refine wpS_bind (zAk (geB (nb - 1) (by omega)) ?_)
     have m3:=hi_b mk (by omega) (by omega) ck
     by_cases e5:(nb - 1 == 1)=true
     case pos=>rw [if_pos e5]; exact wpS_pure ⟨hs4,.inl ⟨_,_,rfl,zEy m3 (by simpa using e5) hb h0⟩⟩
     rw [if_neg e5]
     have j3:1<nb - 1:=by simp at e5; omega
     refine wpS_bind (zAk (geA (na2 - 1) (by omega)) ?_)
     refine wpS_bind (zG9 hO hA hk4 (ga _ (qD8 _)) gb (sb.sublist ((qG4 ..).trans (qH7 ..))) (by omega) (by omega) fun k k1 k2 k3=>?_)
     simp only [qN4] at k2 k3
     dsimp only
     have mk2:MH lt a b na2 k ((Array.push _ b[nb - 1])++(b.toArray.extract k (nb - 1)).reverse) :=
      zWS m3 k1 (by omega) fun i hi1 hi=>zFx hO sa (by omega) (by simpa [bq] using k3 i hi1 hi)
     have ck2:0<k→∀ y∈(b.take k).reverse,lt a[na2 - 1] y=false:=fun hl=>zFx hO sb (by omega) (hO.as _ _ (by simpa [bq] using k2 (k - 1) (by omega) (by omega)))
     by_cases hk1:nb - 1 - k>0
     case' pos =>
      rw [if_pos hk1]
      by_cases e6:(k == 1)=true
      case pos=>rw [if_pos e6]; exact wpS_pure ⟨hs4,.inl ⟨_,_,rfl,zEy mk2 (by simpa using e6) hb h0⟩⟩
      rw [if_neg e6]
      by_cases e8:(k == 0)=true
      case pos=>rw [if_pos e8]; exact wpS_pure ⟨hs4,.inl ⟨_,_,rfl,zFc mk2 (.inr (by simpa using e8))⟩⟩
      rw [if_neg e8]
      have j4:1<k:=by simp at e6 e8; omega
      have j5:k≤b.length:=by omega
      have m4:=hi_a mk2 (by omega) i3 (ck2 (by omega))
     case' neg =>
      rw [if_neg hk1]
      have e0:k=nb - 1:=by omega
      subst e0
      have j4:=j3
      have j5:nb - 1≤b.length:=by omega
      have m4:=hi_a m3 (by omega) i3 (ck2 (by omega))
     all_goals
      refine wpS_bind (zAk (geA (na2 - 1) (by omega)) ?_)
      by_cases e7:(na2 - 1 == 0)=true
      case pos=>rw [if_pos e7]; exact wpS_pure ⟨hs4,.inl ⟨_,_,rfl,zFc m4 (.inl (by simpa using e7))⟩⟩
      rw [if_neg e7]
      have w5:Wh lt a b (na2 - 1) _ _:=⟨m4,by simp at e7; omega,j4,by omega,j5⟩
      split
      ·exact wpS_pure ⟨hs4,.inr ⟨_,_,_,_,_,_,rfl,w5,by simp; omega⟩⟩
      ·exact wpS_pure ⟨_,_,_,_,_,_,rfl,hs4,w5,by simp; omega⟩
  ·rintro c st2 ⟨na,nb,out,g,p,q,rfl,hs3,W,hsz⟩
   exact ⟨hs3,.inr ⟨_,_,_,_,_,_,rfl,W,hsz⟩⟩
  rintro c st3 ⟨hs3,⟨r,o,rfl,hr⟩ | ⟨na,nb,out,g,p,q,rfl,W,hsz⟩⟩
  ·exact wpS_pure ⟨r,_,rfl,hs3,hr⟩
  dsimp only
  exact wpS_bind (wpS_modify (wpS_pure ⟨_,_,_,_,rfl,⟨hs3.k,hs3.a,hs3.p,hs3.f⟩,W,by omega⟩))
 ·rintro c st1 ⟨na,nb,out,g,rfl,hs,W,hsz⟩
  have:=zUo W.m (by have:=W.i'; omega) W.j'
  have:=W.i
  have:=W.j
  simp at hsz
  omega
 ·rintro c st1 ⟨r,o,rfl,hs,hr⟩
  exact wpS_pure (h r st1 hs hr)
end
open PySem PySem.Spec PyProof.Rows
noncomputable abbrev Pend:=Nat × Nat × Nat
noncomputable abbrev SS (κ:SortKind) (l:yI) (p:List Pend) (g:Nat):SortSt:=SortSt.mk' κ l.toArray p.toArray g none
theorem Sg.ss {κ:SortKind}{l:yI}{p:List Pend}{g:Nat}{st':SortSt} (h:Sg (SS κ l p g) st'):∃ g',st'=SS κ l p g':=by
 obtain ⟨k,a,b,c⟩:=h
 cases st'
 cases k; cases a; cases b; cases c
 exact ⟨_,Eq.refl _⟩
theorem zQ7 {M:Model}{A:Around}{E:yL}{s:Shared}{σ:Type}{Q:PUnit→σ→Prop}{st st2:σ} (h:Q ⟨⟩ st2):wpS M A E s (set st2:StateT σ Sem PUnit) Q st:=by
 unfold wpS; rw [StateT.run_set]; exact wpAny_pure ⟨rfl,h⟩
theorem zOt (p1 p2:List Pend) (u v z:Pend):((p1++u::v::p2).toArray.setIfInBounds p1.length z).eraseIdxIfInBounds (p1.length+1)=(p1++z::p2).toArray:=by
 apply Array.ext'
 rw [Array.eraseIdxIfInBounds_eq]
 simp [List.eraseIdx_append_of_length_le]
theorem zQ5 (pre M post:yI):∀ (N:yI) (i:Nat) (pr:yI),pr.length=pre.length+i→N.length=M.length →
  (M.zipIdx i).foldl (fun (a:Array Keyed) (q:Keyed × Nat)=>a.setIfInBounds (pre.length+q.2) q.1) (pr++(N++post)).toArray=(pr++(M++post)).toArray:=by
 induction M with
 | nil=>intro N i pr h1 h2; have:N=[]:=qF1.mp h2; subst this; rfl
 | cons m M ih =>
  intro N i pr h1 h2
  cases N with
  | nil=>simp at h2
  | cons n N =>
   rw [qS3,qT7]
   have e:((pr++(n::N++post)).toArray.setIfInBounds (pre.length+i) m)=((pr++[m])++(N++post)).toArray:=by
    rw [← h1]; apply Array.ext'; simp
   show List.foldl _ ((pr++(n::N++post)).toArray.setIfInBounds (pre.length+i) m) _=_
   rw [e,ih N (i+1) (pr++[m]) (by simp; omega) (by simpa using h2)]
   simp
theorem zWM {lt:Keyed→Keyed→Bool}{X Y M:yI}{k n:Nat}{y0 xl:Keyed} (hO:Swo lt) (sx:Srt lt X) (sy:Srt lt Y) (h0:∀ y∈Y,lt y y0=false) (hl:∀ x∈X,lt xl x=false)
  (c1:∀ x∈X.take k,lt y0 x=false) (c2:∀ y∈Y.drop n,lt y xl=false) (hM:Mg lt (X.drop k) (Y.take n) M):Mg lt X Y (X.take k++(M++Y.drop n)):=by
 have sX:Srt lt (X.take k++X.drop k):=by rw [qD1]; exact sx
 have sY:Srt lt (Y.take n++Y.drop n):=by rw [qD1]; exact sy
 obtain ⟨x1,x2,x3⟩:=qC2.mp sX
 obtain ⟨y1,y2,y3⟩:=qC2.mp sY
 refine ⟨?_,qC2.mpr ⟨x1,qC2.mpr ⟨hM.so,y2,fun m hm y hy=>?_⟩,fun x hx m hm=>?_⟩⟩
 ·have e:X++Y=X.take k++(X.drop k++Y.take n++Y.drop n):=by
   rw [qB8,qD1,← qB8,qD1]
  rw [e]
  exact (List.Perm.refl _).append (hM.pm.append (List.Perm.refl _))
 ·rcases qB4.mp (hM.pm.mem_iff.mp hm) with hm | hm
  ·exact hO.tr m xl y (hl m (qG2 hm)) (c2 y hy)
  ·exact y3 m hm y hy
 ·have q:∀ y∈Y,lt y x=false:=fun y hy=>hO.tr x y0 y (c1 x hx) (h0 y hy)
  rcases qB4.mp hm with hm | hm
  ·rcases qB4.mp (hM.pm.mem_iff.mp hm) with hm | hm
   ·exact x3 x hx m hm
   ·exact q m (qE6 hm)
  ·exact q m (qG2 hm)
theorem zDy {l:yI}{n:Nat}{x:Keyed} (h:x∈l.take n):∃ i,∃ hi:i<l.length,i<n∧l[i]=x:=by
 obtain ⟨i,hi,e⟩:=qH5.mp h
 refine ⟨i,by simp at hi; omega,by simp at hi; omega,by simpa using e⟩
theorem zDA {l:yI}{n:Nat}{x:Keyed} (h:x∈l.drop n):∃ i,∃ hi:i<l.length,n≤i∧l[i]=x:=by
 obtain ⟨i,hi,e⟩:=qH5.mp h
 refine ⟨n+i,by simp at hi; omega,by omega,by simpa using e⟩
theorem zN0 {lt:Keyed→Keyed→Bool}{l:yI} (hO:Swo lt) (sl:Srt lt l) (h:0<l.length):∀ y∈l,lt y l[0]=false:=fun y hy=>zDV hO sl h (hO.rf _) y (by simpa using hy)
theorem zGB {lt:Keyed→Keyed→Bool}{l:yI} (hO:Swo lt) (sl:Srt lt l) (h:0<l.length):∀ y∈l,lt (l[l.length - 1]'(by omega)) y=false:=fun y hy=>zFx (nb:=l.length) hO sl (by omega) (hO.rf _) y (by simpa using hy)
section
variable {prog:Program}{w:World}{A:Around}{E:yL}{s:Shared}{κ:SortKind}{lt:Keyed→Keyed→Bool}{G:Keyed→Prop}{st:SortSt}
theorem zOK {pre X Y post:yI}{p1 p2:List Pend}{pw q g i sb:Nat}{Q:Bool→SortSt→Prop} (hO:Swo lt) (hA:Asks prog w A s κ lt G) (gl:∀ x∈pre++(X++(Y++post)),G x) (sx:Srt lt X) (sy:Srt lt Y) (hx:0<X.length) (hy:0<Y.length) (hsb:sb=pre.length+X.length) (hi:i=p1.length)
  (h:∀ Z g',Mg lt X Y Z→Q true (SS κ (pre++(Z++post)) (p1++(pre.length,X.length+Y.length,pw)::p2) g')) :
  wpS (model prog w) A E s (mergeAt' i) Q (SS κ (pre++(X++(Y++post))) (p1++(pre.length,X.length,pw)::(sb,Y.length,q)::p2) g):=by
 subst hi hsb
 have ga:∀ j x,(pre++(X++(Y++post)))[j]?=some x→(pre++(X++(Y++post))).toArray[j]?=some x:=fun j x e=>by rw [qD2]; exact e
 refine wpS_bind (wpS_get ?_)
 have e1:(p1++(pre.length,X.length,pw)::(pre.length+X.length,Y.length,q)::p2).toArray[p1.length]?=some (pre.length,X.length,pw):=by simp
 have e2:(p1++(pre.length,X.length,pw)::(pre.length+X.length,Y.length,q)::p2).toArray[p1.length+1]?=some (pre.length+X.length,Y.length,q):=by simp
 dsimp only [SS]
 rw [e1,e2]
 dsimp only
 rw [zOt]
 refine wpS_bind (zQ7 ?_)
 have gY:∀ j,(hj:j<Y.length)→(pre++(X++(Y++post)))[pre.length+X.length+j]?=some Y[j]:=fun j hj=>by
  rw [qA0 (by omega),qA0 (by omega),qA7 (by omega),← qA5 hj]; congr 1; omega
 have gX:∀ j,(hj:j<X.length)→(pre++(X++(Y++post)))[pre.length+j]?=some X[j]:=fun j hj=>by
  rw [qA0 (by omega),qA7 (by omega),← qA5 hj]; congr 1; omega
 have hlen:(pre++(X++(Y++post))).length=pre.length+X.length+Y.length+post.length:=by simp; omega
 have gY':∀ j,(hj:j<Y.length)→(pre++(X++(Y++post)))[pre.length+X.length+j]'(by omega)=Y[j]:=fun j hj=>(qA4.mp (gY j hj)).2
 have gX':∀ j,(hj:j<X.length)→(pre++(X++(Y++post)))[pre.length+j]'(by omega)=X[j]:=fun j hj=>(qA4.mp (gX j hj)).2
 have dX:((pre++(X++(Y++post))).drop pre.length).take X.length=X:=by simp
 have dY:((pre++(X++(Y++post))).drop (pre.length+X.length)).take Y.length=Y:=by
  rw [← qB8,← qB1]; simp
 have inl:∀ x∈X,G x:=fun x hx=>gl x (by simp [hx])
 have inr:∀ x∈Y,G x:=fun x hx=>gl x (by simp [hx])
 have fin:∀ g',Mg lt X Y (X++Y)→Q true (SS κ (pre++(X++(Y++post))) (p1++(pre.length,X.length+Y.length,pw)::p2) g'):=fun g' hm=>by
  have:=h (X++Y) g' hm
  rwa [qB8] at this
 refine wpS_bind (zAk (ga (pre.length+X.length) Y[0] (gY 0 hy)) ?_)
 refine wpS_bind (zG9 hO hA rfl (inr _ (qD8 _)) gl (by rw [dX]; exact sx) (by omega) hx fun k k1 k2 k3=>?_)
 dsimp only
 have c1:∀ x∈X.take k,lt Y[0] x=false:=fun x hx=>by
  obtain ⟨i,hi,hik,rfl⟩:=zDy hx
  have:=k2 i hik hi
  rw [gX' i hi] at this
  simpa [bq] using this
 have h0:=zN0 hO sy hy
 have hl:=zGB hO sx hx
 by_cases e3:(X.length - k == 0)=true
 ·rw [if_pos e3]
  have hk:X.length≤k:=by simp at e3; omega
  refine wpS_pure (fin _ ⟨.refl _,qC2.mpr ⟨sx,sy,fun x hx' y hy'=>hO.tr x Y[0] y (c1 x ?_) (h0 y hy')⟩⟩)
  rw [qE3 hk]; exact hx'
 rw [if_neg e3]
 have hk:k<X.length:=by simp at e3; omega
 rw [show pre.length+k+(X.length - k) - 1=pre.length+(X.length - 1) by omega]
 refine wpS_bind (zAk (ga _ (X[X.length - 1]) (gX (X.length - 1) (by omega))) ?_)
 refine wpS_bind (zG9 hO hA rfl (inl _ (qD8 _)) gl (by rw [dY]; exact sy) (by omega) (by omega) fun n n1 n2 n3=>?_)
 dsimp only
 have c2:∀ y∈Y.drop n,lt y X[X.length - 1]=false:=fun y hy'=>by
  obtain ⟨i,hi,hik,rfl⟩:=zDA hy'
  have:=n3 i hik hi
  rw [gY' i hi] at this
  simpa [bq] using this
 by_cases e4:(n == 0)=true
 ·rw [if_pos e4]
  have hn:n=0:=by simpa using e4
  subst hn
  exact wpS_pure (fin _ ⟨.refl _,qC2.mpr ⟨sx,sy,fun x hx' y hy'=>hO.tr x _ y (hl x hx') (c2 y (by simpa using hy'))⟩⟩)
 rw [if_neg e4]
 have hn:0<n:=by simp at e4; omega
 have x2:(pre++(X++(Y++post))).toArray.extract (pre.length+k) (pre.length+X.length)=(X.drop k).toArray:=by
  apply Array.ext'
  rw [zKv,← qQ4]
  simp only [qT8]
  rw [List.drop_append_of_le_length (by omega),qM6 (by simp; omega)]
  exact qE3 (by simp; omega)
 have y1:(pre++(X++(Y++post))).toArray.extract (pre.length+X.length) (pre.length+X.length+n)=(Y.take n).toArray:=by
  apply Array.ext'
  rw [zKv,← qQ4]
  simp only [qT8]
  rw [show pre.length+X.length+n - (pre.length+X.length)=n by omega,qM6 n1]
 rw [x2,y1]
 have f0:∀ x∈X.drop k,lt x ((Y.take n)[0]'(by simp; omega))=false:=fun x hx'=>by
  obtain ⟨i,hi,hik,rfl⟩:=zDA hx'
  have:=k3 i hik hi
  rw [gX' i hi] at this
  have e:(Y.take n)[0]'(by simp; omega)=Y[0]:=by simp
  rw [e]
  exact hO.as _ _ (by simpa [bq] using this)
 have fl:∀ y∈Y.take n,lt ((X.drop k)[(X.drop k).length - 1]'(by simp; omega)) y=false:=fun y hy'=>by
  obtain ⟨i,hi,hik,rfl⟩:=zDy hy'
  have:=n2 i hik hi
  rw [gY' i hi] at this
  have e:(X.drop k)[(X.drop k).length - 1]'(by simp; omega)=X[X.length - 1]:=by
   simp only [qL7]; congr 1; simp; omega
  rw [e]
  exact hO.as _ _ (by simpa [bq] using this)
 have after:∀ (out:Array Keyed) g',Mg lt (X.drop k) (Y.take n) out.toList→Q true (SS κ (pre++((X.take k++(out.toList++Y.drop n))++post)) (p1++(pre.length,X.length+Y.length,pw)::p2) g'):=fun out g' hm=>h _ g' (zWM hO sx sy h0 hl c1 c2 hm)
 have fo:∀ (out:Array Keyed),Mg lt (X.drop k) (Y.take n) out.toList→out.toList.zipIdx.foldl (fun (a:Array Keyed) (x:Keyed × Nat)=>a.setIfInBounds (pre.length+k+x.2) x.1) (pre++(X++(Y++post))).toArray=(pre++((X.take k++(out.toList++Y.drop n))++post)).toArray:=fun out hm=>by
  have e:=zQ5 (pre++X.take k) out.toList (Y.drop n++post) (X.drop k++Y.take n) 0 (pre++X.take k) (by simp) hm.pm.length_eq.symm
  have e5:(pre++X.take k).length=pre.length+k:=by simp; omega
  have e6:pre++X.take k++(X.drop k++Y.take n++(Y.drop n++post))=pre++(X++(Y++post)):=by
   conv=>rhs; rw [← qD1 k X,← qD1 n Y]
   simp only [qB8]
  have e7:pre++X.take k++(out.toList++(Y.drop n++post))=pre++((X.take k++(out.toList++Y.drop n))++post):=by simp only [qB8]
  rw [e5,e6,e7] at e
  exact e
 by_cases hc:X.length - k≤n
 case' pos =>
  rw [if_pos hc]
  refine wpS_bind (zOI (a:=X.drop k) (b:=Y.take n) hO hA rfl (fun x hx'=>inl x (qG2 hx')) (fun x hx'=>inr x (qE6 hx')) (sx.sublist (qH7 ..)) (sy.sublist (qG4 ..)) (by simp; omega) (by simp; omega) f0 fl fun out st' hs hm=>?_)
 case' neg =>
  rw [if_neg hc]
  refine wpS_bind (zOJ (a:=X.drop k) (b:=Y.take n) hO hA rfl (fun x hx'=>inl x (qG2 hx')) (fun x hx'=>inr x (qE6 hx')) (sx.sublist (qH7 ..)) (sy.sublist (qG4 ..)) (by simp; omega) (by simp; omega) f0 fl fun out st' hs hm=>?_)
 all_goals
  obtain ⟨g',rfl⟩:=hs.ss
  refine wpS_bind (wpS_modify (wpS_bind (wpS_get (wpS_pure ?_))))
  have:=after out g' hm
  rw [SS,← fo out hm] at this
  exact this
end
open PySem PySem.Spec PyProof.Rows
theorem zKZ (P T U:yI):mirror (P++(T++U)).toArray P.length (P.length+T.length) ((P.length+T.length - P.length) / 2)=(P++(T.reverse++U)).toArray:=by
 apply Array.ext_getElem?
 intro k
 rw [getElem?_mirror_all (by simp)]
 simp only [qD2]
 by_cases h:P.length≤k∧k<P.length+T.length
 ·rw [if_pos h,qA0 (by omega),qA7 (by omega),qA0 (by omega),qA7 (by simp; omega),qQ1 (by omega)]
  congr 1; omega
 ·rw [if_neg h]
  by_cases h1:k<P.length
  ·rw [qA7 h1,qA7 h1]
  ·rw [qA0 (by omega),qA0 (by omega),qA0 (by omega),qA0 (by simp; omega)]
   simp
theorem zLv (P T U:yI) (e:Keyed):bubble (P++(T++(e::U))).toArray (P.length+T.length) T.length=(P++(e::(T++U))).toArray:=by
 apply Array.ext_getElem?
 intro k
 rw [getElem?_bubble (by simp) _ (by omega)]
 simp only [qD2,qR6]
 by_cases h:k=P.length
 ·rw [if_pos h,qA0 (by omega),qA0 (by omega),qA0 (by omega),h]
  simp
 ·rw [if_neg h]
  by_cases h1:P.length<k∧k≤P.length+T.length
  ·rw [if_pos h1,qA0 (by omega),qA7 (by omega),qA0 (by omega)]
   obtain ⟨m,rfl⟩:∃ m,k=P.length+m+1:=⟨k - P.length - 1,by omega⟩
   rw [show P.length+m+1 - P.length=m+1 by omega,qD6,qA7 (by omega)]
   congr 1; omega
  ·rw [if_neg h1]
   by_cases h2:k<P.length
   ·rw [qA7 h2,qA7 h2]
   ·obtain ⟨m,rfl⟩:∃ m,k=P.length+T.length+m+1:=⟨k - P.length - T.length - 1,by omega⟩
    rw [qA0 (by omega),qA0 (by omega),qA0 (by omega),show P.length+T.length+m+1 - P.length - T.length=m+1 by omega,show P.length+T.length+m+1 - P.length=T.length+m+1 by omega,qD6,qD6,qA0 (by omega)]
    congr 1; omega
section
variable {prog:Program}{w:World}{A:Around}{E:yL}{s:Shared}{κ:SortKind}{lt:Keyed→Keyed→Bool}{G:Keyed→Prop}{p:List Pend}{g:Nat}
theorem zLR {l:yI}{i j:Nat}{x y:Keyed}{Q:Option Bool→SortSt→Prop} (hA:Asks prog w A s κ lt G) (gl:∀ x∈l,G x) (hx:l[i]?=some x) (hy:l[j]?=some y) (h:Q (some (lt x y)) (SS κ l p g)):wpS (model prog w) A E s (ltAt' i j) Q (SS κ l p g):=by
 rw [ltAt'_eq]
 refine wpS_bind (wpS_get ?_)
 refine wpS_bind (zAk (show l.toArray[i]?=some x by rw [qD2]; exact hx) (wpS_bind (zAk (show l.toArray[j]?=some y by rw [qD2]; exact hy) ?_)))
 exact zLQ hA rfl (gl x (qC0 hx)) (gl y (qC0 hy)) h
theorem zHm {P T U:yI}{i j:Nat}{Q:Unit→SortSt→Prop} (hi:i=P.length) (hj:j=P.length+T.length) (h:Q () (SS κ (P++(T.reverse++U)) p g)):wpS (model prog w) A E s (reverseSlice' i j) Q (SS κ (P++(T++U)) p g):=by
 subst hi hj
 rw [reverseSlice'_eq]
 refine wpS_modify ?_
 have e:setArr (SS κ (P++(T++U)) p g) (mirror (arrOf (SS κ (P++(T++U)) p g)) P.length (P.length+T.length) ((P.length+T.length - P.length) / 2))=SS κ (P++(T.reverse++U)) p g:=by
  show SortSt.mk' κ (mirror (P++(T++U)).toArray _ _ _) _ _ _=_
  rw [zKZ]
 rw [e]; exact h
theorem zQc {P T U:yI}{e:Keyed}{i j:Nat}{Q:Unit→SortSt→Prop} (hi:i=P.length+T.length) (hj:j=P.length) (h:Q () (SS κ (P++(e::(T++U))) p g)):wpS (model prog w) A E s (moveDown' i j) Q (SS κ (P++(T++(e::U))) p g):=by
 subst hi hj
 rw [moveDown'_eq]
 refine wpS_modify ?_
 have e1:setArr (SS κ (P++(T++(e::U))) p g) (bubble (arrOf (SS κ (P++(T++(e::U))) p g)) (P.length+T.length) (P.length+T.length - P.length))=SS κ (P++(e::(T++U))) p g:=by
  show SortSt.mk' κ (bubble (P++(T++(e::U))).toArray _ _) _ _ _=_
  rw [qL0,zLv]
 rw [e1]; exact h
theorem zKH {pre D U:yI}{lo n:Nat}{Q:Option (yK) × Nat→SortSt→Prop} (hO:Swo lt) (hA:Asks prog w A s κ lt G) (gl:∀ x∈pre++(D++U),G x) (hlo:lo=pre.length) (hn:n=D.length+U.length) (hD:0<D.length) (sD:Srt lt D)
  (h:∀ V W,U=V++W→Srt lt (D++V)→(W=[]∨∃ e W',W=e::W'∧∃ z,(D++V)[(D++V).length - 1]?=some z∧lt e z=true)→Q (none,D.length+V.length) (SS κ (pre++(D++U)) p g)) :
  wpS (model prog w) A E s (forIn [D.length:n] (none,D.length) fun _ (c:Option (yK) × Nat)=>ltAt' (lo+c.2) (lo+c.2 - 1) >>= fun r=>match r with
   | some smaller=>if smaller=true then pure (ForInStep.done (none,c.2)) else pure (ForInStep.yield (none,c.2+1))
   | _=>pure (ForInStep.done (some none,c.2))) Q (SS κ (pre++(D++U)) p g):=by
 subst hlo hn
 refine wpS_forRange (I:=fun x c st'=>st'=SS κ (pre++(D++U)) p g∧c=(none,x)∧∃ V W,U=V++W∧x=D.length+V.length∧Srt lt (D++V)) ?_ ?_ ⟨rfl,rfl,[],U,rfl,rfl,by simpa using sD⟩
 ·rintro x c st' _ hx ⟨rfl,rfl,V,W,rfl,rfl,sV⟩
  dsimp only
  cases W with
  | nil=>simp at hx
  | cons e W =>
   have hz:(D++V).length - 1<(D++V).length:=by simp; omega
   obtain ⟨z,ez⟩:∃ z,(D++V)[(D++V).length - 1]?=some z:=⟨_,qA5 hz⟩
   have ez':=ez
   rw [qB1] at ez'
   refine wpS_bind (zLR hA gl (x:=e) (y:=z) ?_ ?_ ?_)
   ·rw [qA0 (by omega),qA0 (by omega),qA0 (by omega)]
    rw [show pre.length+(D.length+V.length) - pre.length - D.length - V.length=0 by omega]; rfl
   ·rw [← qB8 D,qA0 (by omega),qA7 (by simp; omega),← ez']; congr 1; omega
   ·cases e1:lt e z with
    | true=>exact wpS_pure (h V (e::W) rfl sV (.inr ⟨e,W,rfl,z,ez,e1⟩))
    | false =>
     refine wpS_pure ⟨rfl,rfl,V++[e],W,by simp,by simp; omega,?_⟩
     rw [← qB8]
     refine qC2.mpr ⟨sV,qE5 ..,fun u hu v hv=>?_⟩
     have:=qA8.mp hv
     subst this
     have q:=zGB hO sV (by simp; omega) u hu
     rw [← (qA4.mp ez).2] at e1
     exact hO.tr _ _ _ q e1
 ·rintro c st' ⟨rfl,rfl,V,W,rfl,hx,sV⟩
  have:W=[]:=by
   cases W with
   | nil=>rfl
   | cons e W=>simp at hx
  subst this
  rw [hx]
  exact h V [] rfl sV (.inl rfl)
end
open PySem PySem.Spec PyProof.Rows
structure Dsc (lt:Keyed→Keyed→Bool) (R D1 T U:yI):Prop where
 pm:(D1++(T++U)).Perm R
 ds:Srt (fun x y=>lt y x) (D1++T)
 t0:0<T.length
 eq:∀ u∈T,∀ v∈T,lt u v=false
section
variable {lt:Keyed→Keyed→Bool}{R D1 T U:yI}{e t:Keyed}
theorem Dsc.last (h:Dsc lt R D1 T (e::U)) (hO:Swo lt) (ht:(D1++T)[(D1++T).length - 1]?=some t) (k:lt t e=false):∀ d∈D1++T,lt d e=false:=by
 intro d hd
 have q:=zGB (lt:=fun x y=>lt y x) hO.flip h.ds (by have:=h.t0; simp; omega) d hd
 rw [(qA4.mp ht).2] at q
 exact hO.tr e t d k q
theorem Dsc.rev (h:Dsc lt R D1 T U):Srt (fun x y=>lt y x) (D1++T.reverse):=by
 obtain ⟨a,b,c⟩:=qC2.mp h.ds
 refine qC2.mpr ⟨a,qL8 fun u hu v hv=>h.eq u (by simpa using hu) v (by simpa using hv),fun x hx y hy=>c x hx y (by simpa using hy)⟩
theorem Dsc.one (h:Dsc lt R D1 T (e::U)) (q:∀ d∈D1++T,lt d e=false) (hO:Swo lt):Dsc lt R (D1++T) [e] U:=by
 refine ⟨by simpa using h.pm,qC2.mpr ⟨h.ds,qE5 ..,fun x hx y hy=>?_⟩,by simp,fun u hu v hv=>?_⟩
 ·rw [qA8.mp hy]; exact q x hx
 ·rw [qA8.mp hu,qA8.mp hv]; exact hO.rf _
theorem Dsc.oneR (h:Dsc lt R D1 T (e::U)) (q:∀ d∈D1++T,lt d e=false) (hO:Swo lt):Dsc lt R (D1++T.reverse) [e] U:=by
 refine ⟨?_,qC2.mpr ⟨h.rev,qE5 ..,fun x hx y hy=>?_⟩,by simp,fun u hu v hv=>?_⟩
 ·rw [qB8]
  exact ((List.Perm.refl D1).append (T.reverse_perm.append (List.Perm.refl _))).trans h.pm
 ·rw [qA8.mp hy]
  refine q x ?_
  rcases qB4.mp hx with hx | hx
  ·exact qF2 _ hx
  ·exact qD0 _ (by simpa using hx)
 ·rw [qA8.mp hu,qA8.mp hv]; exact hO.rf _
theorem Dsc.more (h:Dsc lt R D1 T (e::U)) (q:∀ d∈D1++T,lt d e=false) (hO:Swo lt) (ht:(D1++T)[(D1++T).length - 1]?=some t) (k:lt e t=false):Dsc lt R D1 (T++[e]) U:=by
 have hT:t∈T:=by
  rw [qA0 (by have:=h.t0; simp; omega)] at ht
  exact qC0 ht
 refine ⟨by simpa using h.pm,?_,by simp,?_⟩
 ·rw [← qB8]
  exact qC2.mpr ⟨h.ds,qE5 ..,fun x hx y hy=>by rw [qA8.mp hy]; exact q x hx⟩
 ·intro u hu v hv
  rcases qB4.mp hu with hu | hu <;> rcases qB4.mp hv with hv | hv
  ·exact h.eq u hu v hv
  ·rw [qA8.mp hv]; exact q u (qD0 _ hu)
  ·rw [qA8.mp hu]; exact hO.tr v t e (h.eq t hT v hv) k
  ·rw [qA8.mp hu,qA8.mp hv]; exact hO.rf _
end
section
variable {prog:Program}{w:World}{A:Around}{E:yL}{s:Shared}{κ:SortKind}{lt:Keyed→Keyed→Bool}{G:Keyed→Prop}{p:List Pend}{g:Nat}
def zUV (κ:SortKind) (lt:Keyed→Keyed→Bool) (pre R:yI) (p:List Pend) (g:Nat) (Q:yK→SortSt→Prop):Prop :=
 ∀ N W,(N++W).Perm R→0<N.length→Srt lt N→Q (some N.length) (SS κ (pre++(N++W)) p g)
theorem zN1 {pre R R':yI} (gl:∀ x∈pre++R,G x) (h:R'.Perm R):∀ x∈pre++R',G x:=fun x hx=>gl x (((List.Perm.refl pre).append h).mem_iff.mp hx)
noncomputable def ascL (lo a n:Nat):StateT SortSt Sem (Option (yK) × Nat):=forIn [a:n] (none,a) fun _ (c:Option (yK) × Nat)=>ltAt' (lo+c.2) (lo+c.2 - 1) >>= fun r=>match r with
 | some smaller=>if smaller=true then pure (ForInStep.done (none,c.2)) else pure (ForInStep.yield (none,c.2+1))
 | _=>pure (ForInStep.done (some none,c.2))
noncomputable def dscL (lo m n:Nat):StateT SortSt Sem (Option (yK) × Nat × Nat):=forIn [m:n] (none,m,0) fun _ (c:Option (yK) × Nat × Nat)=>ltAt' (lo+c.2.1) (lo+c.2.1 - 1) >>= fun r=>match r with
 | some smaller=>if smaller=true then ite (c.2.2>0) (reverseSlice' (lo+c.2.1 - (c.2.2+1)) (lo+c.2.1) >>= fun _=>pure (ForInStep.yield (none,c.2.1+1,0))) (pure (ForInStep.yield (none,c.2.1+1,0)))
  else ltAt' (lo+c.2.1 - 1) (lo+c.2.1) >>= fun r=>match r with
   | some larger=>if larger=true then pure (ForInStep.done (none,c.2.1,c.2.2)) else pure (ForInStep.yield (none,c.2.1+1,c.2.2+1))
   | _=>pure (ForInStep.done (some none,c.2.1,c.2.2))
 | _=>pure (ForInStep.done (some none,c.2.1,c.2.2))
theorem zIg {pre R D1 T U:yI}{lo n:Nat}{Q:Option (yK) × Nat × Nat→SortSt→Prop} (hO:Swo lt) (hA:Asks prog w A s κ lt G) (gl:∀ x∈pre++R,G x) (hlo:lo=pre.length) (hn:n=R.length) (hD:Dsc lt R D1 T U) (hT:T.length=1)
  {m:Nat} (hm:m=(D1++T).length) (h:∀ D1 T U q,Dsc lt R D1 T U→T.length=q+1→Q (none,(D1++T).length,q) (SS κ (pre++(D1++(T++U))) p g)):wpS (model prog w) A E s (dscL lo m n) Q (SS κ (pre++(D1++(T++U))) p g):=by
 subst hlo hn hm
 have lenR:=hD.pm.length_eq
 refine wpS_mono (wpS_forRange (I:=fun x c st'=>∃ D1 T U q,c=(none,x,q)∧st'=SS κ (pre++(D1++(T++U))) p g∧Dsc lt R D1 T U∧(D1++T).length=x∧T.length=q+1)
  (Q:=fun c st'=>∃ D1 T U q,c=(none,(D1++T).length,q)∧st'=SS κ (pre++(D1++(T++U))) p g∧Dsc lt R D1 T U∧T.length=q+1) ?_ ?_ ⟨D1,T,U,0,rfl,rfl,hD,rfl,hT⟩) ?_
 ·rintro x c st' _ hx ⟨D1,T,U,q,rfl,rfl,hD,rfl,hT⟩
  dsimp only
  have lR:=hD.pm.length_eq
  cases U with
  | nil=>simp at lR hx; omega
  | cons e U =>
   have hz:(D1++T).length - 1<(D1++T).length:=by simp; omega
   obtain ⟨t,et⟩:∃ t,(D1++T)[(D1++T).length - 1]?=some t:=⟨_,qA5 hz⟩
   have g1:(pre++(D1++(T++e::U)))[pre.length+(D1++T).length]?=some e:=by
    rw [← qB8 D1,qA0 (by omega),qA0 (by omega),show pre.length+(D1++T).length - pre.length - (D1++T).length=0 by omega]; rfl
   have g2:(pre++(D1++(T++e::U)))[pre.length+(D1++T).length - 1]?=some t:=by
    rw [← qB8 D1,qA0 (by omega),qA7 (by omega),← et]; congr 1; omega
   have gl':=zN1 gl hD.pm
   refine wpS_bind (zLR hA gl' g1 g2 ?_)
   cases e1:lt e t with
   | true =>
    have q1:=hD.last hO et (hO.as _ _ e1)
    simp only [if_true]
    by_cases hq:q>0
    ·rw [if_pos hq]
     have ea:pre++(D1++(T++e::U))=(pre++D1)++(T++e::U):=by simp
     rw [ea]
     refine wpS_bind (zHm (by simp; omega) (by simp; omega) (wpS_pure ⟨D1++T.reverse,[e],U,0,rfl,by simp,hD.oneR q1 hO,by simp; omega,rfl⟩))
    ·rw [if_neg hq]
     exact wpS_pure ⟨D1++T,[e],U,0,rfl,by simp,hD.one q1 hO,by simp; omega,rfl⟩
   | false =>
    simp only [qE0,if_false]
    refine wpS_bind (zLR hA gl' g2 g1 ?_)
    cases e2:lt t e with
    | true=>exact wpS_pure ⟨D1,T,e::U,q,rfl,rfl,hD,hT⟩
    | false=>exact wpS_pure ⟨D1,T++[e],U,q+1,rfl,by simp,hD.more (hD.last hO et e2) hO et e1,by simp; omega,by simp [hT]⟩
 ·rintro c st' ⟨D1,T,U,q,rfl,rfl,hD,hx,hT⟩
  exact ⟨D1,T,U,q,by rw [hx],rfl,hD,hT⟩
 rintro c st' ⟨D1,T,U,q,rfl,rfl,hD,hT⟩
 exact h D1 T U q hD hT
theorem zEA {pre R D U:yI}{lo n a:Nat}{Q:yK→SortSt→Prop}{K:Option (yK) × Nat→StateT SortSt Sem (yK)} (hK:∀ m st,Q (some m) st→wpS (model prog w) A E s (K (none,m)) Q st) (hO:Swo lt) (hA:Asks prog w A s κ lt G) (gl:∀ x∈pre++R,G x) (hlo:lo=pre.length) (hn:n=R.length) (h:zUV κ lt pre R p g Q)
  (sD:Srt (fun x y=>lt y x) D) (lD:a=D.length) (h0:0<D.length) (pD:(D++U).Perm R):wpS (model prog w) A E s (reverseSlice' lo (lo+a) >>= fun _=>ascL lo a n >>= K) Q (SS κ (pre++(D++U)) p g):=by
 subst lD hlo hn
 refine wpS_bind (zHm rfl rfl ?_)
 have pD':(D.reverse++U).Perm R:=(D.reverse_perm.append (List.Perm.refl U)).trans pD
 have hl:D.length=D.reverse.length:=by simp
 rw [hl]
 refine wpS_bind (zKH hO hA (zN1 gl pD') rfl (by rw [← pD'.length_eq]; simp) (by simp [h0]) sD.rev fun V W e sV _=>?_)
 subst e
 have:=h (D.reverse++V) W (by simpa using pD') (by simp; omega) sV
 simp only [qB8,qB1] at this
 exact hK _ _ this
theorem zPk {pre R:yI}{lo n:Nat}{Q:yK→SortSt→Prop} (hO:Swo lt) (hA:Asks prog w A s κ lt G) (gl:∀ x∈pre++R,G x) (hlo:lo=pre.length) (hn:n=R.length) (hR:0<R.length) (h:zUV κ lt pre R p g Q) :
  wpS (model prog w) A E s (countRun' lo n) Q (SS κ (pre++R) p g):=by
 obtain ⟨r,R',rfl⟩:∃ r R',R=r::R':=by cases R with
  | nil=>simp at hR
  | cons r R=>exact ⟨r,R,rfl⟩
 have e0:pre++r::R'=pre++([r]++R'):=rfl
 rw [e0] at gl ⊢
 refine wpS_bind (zKH (D:=[r]) hO hA gl hlo (by rw [hn]; simp; omega) (by simp) (qE5 ..) fun V W e sV ho=>?_)
 subst e
 dsimp only
 by_cases e1:([r].length+V.length == n)=true
 ·rw [if_pos e1]
  have:=h ([r]++V) W (by simp) (by simp) sV
  simp only [qB8,qB1] at this
  exact wpS_pure this
 rw [if_neg e1]
 rcases ho with rfl | ⟨e,W',rfl,z,ez,hz⟩
 ·exfalso; apply e1; rw [hn]; simp; omega
 have gl':∀ x∈pre++(([r]++V)++e::W'),G x:=by simpa using gl
 rw [show pre++([r]++(V++e::W'))=pre++(([r]++V)++e::W') by simp]
 have hs:∀ R0,(R0++e::W').Perm (r::(V++e::W'))→(∀ u∈R0,∀ v∈R0,lt u v=false)→(∀ d∈R0,lt d e=false)→Dsc lt (r::(V++e::W')) R0 [e] W':=fun R0 a b c =>
  ⟨by simpa using a,qC2.mpr ⟨qL8 b,qE5 ..,fun x hx y hy=>by rw [qA8.mp hy]; exact c x hx⟩,by simp,fun u hu v hv=>by rw [qA8.mp hu,qA8.mp hv]; exact hO.rf _⟩
 by_cases e2:[r].length+V.length>1
 ·rw [if_pos e2]
  refine wpS_bind (zLR hA gl' (x:=r) (y:=z) (by rw [hlo,qA0 (by omega)]; simp) (by
   rw [hlo,qA0 (by omega),qA7 (by simp at e2 ⊢; omega),← ez]; congr 1; simp; omega) ?_)
  cases e3:lt r z with
  | true =>
   have:=h ([r]++V) (e::W') (by simp) (by simp) sV
   simp only [qB8,qB1] at this ⊢
   exact wpS_pure this
  | false =>
   simp only [qE0,if_false]
   have z1:∀ u∈[r]++V,lt z u=false:=fun u hu=>by
    have:=zGB hO sV (by simp) u hu
    rwa [(qA4.mp ez).2] at this
   have z2:∀ u∈[r]++V,lt u r=false:=fun u hu=>zN0 hO sV (by simp) u hu
   have al:∀ u∈[r]++V,∀ v∈[r]++V,lt u v=false:=fun u hu v hv=>hO.tr v r u (hO.tr v z r (z1 v hv) e3) (z2 u hu)
   have zm:z∈[r]++V:=qC0 ez
   refine wpS_bind (zHm hlo (by rw [hlo]; simp; omega) ?_)
   have D0:=hs ([r]++V).reverse (by
    have:=((([r]++V).reverse_perm).append (List.Perm.refl (e::W')))
    simpa using this) (fun u hu v hv=>al u (qI3.mp hu) v (qI3.mp hv)) (fun d hd=>hO.tr e z d (hO.as _ _ hz) (al d (qI3.mp hd) z zm))
   refine wpS_bind (wpS_lift (wpAny_rule ⟨rfl,?_⟩))
   refine wpS_bind (zIg hO hA (by simpa using gl) hlo hn D0 rfl (by simp; omega) fun D1 T U q hD hT=>?_)
   dsimp only
   by_cases hq:q>0
   ·rw [if_pos hq,show pre++(D1++(T++U))=(pre++D1)++(T++U) by simp]
    refine wpS_bind (zHm (by rw [hlo]; simp; omega) (by rw [hlo]; simp; omega) ?_)
    rw [show (pre++D1)++(T.reverse++U)=pre++((D1++T.reverse)++U) by simp]
    exact zEA (K:=_) (fun m st hm=>wpS_pure hm) hO hA (by simpa using gl) hlo hn h hD.rev (by simp) (by have:=hD.t0; simp; omega) (by rw [qB8]; exact ((List.Perm.refl D1).append (T.reverse_perm.append (List.Perm.refl _))).trans hD.pm)
   ·rw [if_neg hq,show pre++(D1++(T++U))=pre++((D1++T)++U) by simp]
    exact zEA (K:=_) (fun m st hm=>wpS_pure hm) hO hA (by simpa using gl) hlo hn h hD.ds rfl (by have:=hD.t0; simp; omega) (by simpa using hD.pm)
 ·rw [if_neg e2]
  have hV:V=[]:=by cases V with
   | nil=>rfl
   | cons v V=>simp at e2
  subst hV
  have D0:=hs [r] (by simp) (fun u hu v hv=>by rw [qA8.mp hu,qA8.mp hv]; exact hO.rf _) (fun d hd=>by
   rw [qA8.mp hd]
   have:z=r:=by simpa using ez.symm
   rw [← this]; exact hO.as _ _ hz)
  refine wpS_bind (wpS_lift (wpAny_rule ⟨rfl,?_⟩))
  refine wpS_bind (zIg hO hA (by simpa using gl) hlo hn D0 rfl (by simp) fun D1 T U q hD hT=>?_)
  dsimp only
  by_cases hq:q>0
  ·rw [if_pos hq,show pre++(D1++(T++U))=(pre++D1)++(T++U) by simp]
   refine wpS_bind (zHm (by rw [hlo]; simp; omega) (by rw [hlo]; simp; omega) ?_)
   rw [show (pre++D1)++(T.reverse++U)=pre++((D1++T.reverse)++U) by simp]
   exact zEA (K:=_) (fun m st hm=>wpS_pure hm) hO hA (by simpa using gl) hlo hn h hD.rev (by simp) (by have:=hD.t0; simp; omega) (by rw [qB8]; exact ((List.Perm.refl D1).append (T.reverse_perm.append (List.Perm.refl _))).trans hD.pm)
  ·rw [if_neg hq,show pre++(D1++(T++U))=pre++((D1++T)++U) by simp]
   exact zEA (K:=_) (fun m st hm=>wpS_pure hm) hO hA (by simpa using gl) hlo hn h hD.ds rfl (by have:=hD.t0; simp; omega) (by simpa using hD.pm)
end
open PySem PySem.Spec PyProof.Rows
section
variable {prog:Program}{w:World}{A:Around}{E:yL}{s:Shared}{κ:SortKind}{lt:Keyed→Keyed→Bool}{G:Keyed→Prop}{p:List Pend}{g:Nat}
theorem zRC {S:yI}{e:Keyed}{l:Nat} (hO:Swo lt) (sS:Srt lt S) (h1:∀ x∈S.take l,lt e x=false) (h2:∀ x∈S.drop l,lt e x=true):Srt lt (S.take l++(e::S.drop l)):=by
 have sX:Srt lt (S.take l++S.drop l):=by rw [qD1]; exact sS
 obtain ⟨x1,x2,x3⟩:=qC2.mp sX
 refine qC2.mpr ⟨x1,qE7.mpr ⟨fun y hy=>hO.as _ _ (h2 y hy),x2⟩,fun x hx y hy=>?_⟩
 rcases qB6.mp hy with rfl | hy
 ·exact h1 x hx
 ·exact x3 x hx y hy
theorem zPp {pre S U post:yI}{lo n ok:Nat}{Q:Bool→SortSt→Prop} (hO:Swo lt) (hA:Asks prog w A s κ lt G) (gl:∀ x∈pre++(S++(U++post)),G x) (hlo:lo=pre.length) (hn:n=S.length+U.length) (hok:ok=S.length) (h0:0<S.length) (sS:Srt lt S)
  (h:∀ N,N.Perm (S++U)→Srt lt N→Q true (SS κ (pre++(N++post)) p g)):wpS (model prog w) A E s (binarySort' lo n ok) Q (SS κ (pre++(S++(U++post))) p g):=by
 subst hlo hn hok
 rw [binarySort'_eq]
 rw [show max S.length 1=S.length by omega]
 refine wpS_bind (wpS_mono (wpS_forRange (I:=fun k c st'=>c=(none,())∧∃ S' U',k=S'.length∧(S'++U').Perm (S++U)∧Srt lt S'∧st'=SS κ (pre++(S'++(U'++post))) p g)
  (Q:=fun c st'=>c=(none,())∧∃ N,N.Perm (S++U)∧Srt lt N∧st'=SS κ (pre++(N++post)) p g) ?_ ?_ ⟨rfl,S,U,rfl,.refl _,sS,rfl⟩) ?_)
 ·rintro k c st' hk1 hk2 ⟨rfl,S',U',rfl,pm,sS',rfl⟩
  dsimp only
  have lp:=pm.length_eq
  cases U' with
  | nil=>simp at lp; omega
  | cons e U' =>
  have gl':∀ x∈pre++(S'++(e::U'++post)),G x:=fun x hx=>gl x (by
   rcases qB4.mp hx with hx | hx
   ·exact qF2 _ hx
   ·refine qD0 _ ?_
    rw [← qB8] at hx ⊢
    rcases qB4.mp hx with hx | hx
    ·exact qF2 _ (pm.mem_iff.mp hx)
    ·exact qD0 _ hx)
  refine wpS_bind (wpS_mono (wpS_forRange (I:=fun x c st''=>st''=SS κ (pre++(S'++(e::U'++post))) p g∧∃ l r,c=(none,l,r)∧l≤r∧r≤S'.length∧r - l≤S'.length - x ∧
    (∀ i,(hi:i<S'.length)→i<l→lt e S'[i]=false)∧(∀ i,(hi:i<S'.length)→r≤i→lt e S'[i]=true))
   (Q:=fun c st''=>st''=SS κ (pre++(S'++(e::U'++post))) p g∧∃ l r,c=(none,l,r)∧l≤S'.length ∧
    (∀ i,(hi:i<S'.length)→i<l→lt e S'[i]=false)∧(∀ i,(hi:i<S'.length)→l≤i→lt e S'[i]=true)) ?_ ?_ ⟨rfl,0,S'.length,rfl,by omega,by omega,by omega,fun i hi h=>(by omega),fun i hi h=>(by omega)⟩) ?_)
  ·rintro x c st'' _ hx ⟨rfl,l,r,rfl,hlr,hrk,hm,q1,q2⟩
   dsimp only
   by_cases hge:l≥r
   ·rw [if_pos hge]
    have:l=r:=by omega
    subst this
    exact wpS_pure ⟨rfl,l,l,rfl,hrk,q1,q2⟩
   ·rw [if_neg hge]
    refine wpS_bind (zLR hA gl' (x:=e) (y:=S'[(l+r) / 2]'(by omega)) ?_ ?_ ?_)
    ·rw [qA0 (by omega),qA0 (by omega),show pre.length+S'.length - pre.length - S'.length=0 by omega]; rfl
    ·rw [qA0 (by omega),qA7 (by omega),qL0]
     exact qA5 (by omega)
    ·cases e1:lt e (S'[(l+r) / 2]'(by omega)) with
     | true =>
      refine wpS_pure ⟨rfl,l,(l+r) / 2,rfl,by omega,by omega,by omega,q1,fun i hi h1=>?_⟩
      cases e2:lt e S'[i] with
      | true=>rfl
      | false =>
       have:=zDV hO (x:=S'[(l+r) / 2]'(by omega)) sS' (i:=(l+r) / 2) (by omega) (hO.rf _) S'[i] (by
        rw [qH5]; exact ⟨i - (l+r) / 2,by simp; omega,by simp only [qL7]; congr 1; omega⟩)
       rw [hO.tr _ _ _ this e2] at e1; cases e1
     | false =>
      refine wpS_pure ⟨rfl,(l+r) / 2+1,r,rfl,by omega,by omega,by omega,fun i hi h1=>?_,q2⟩
      have:=zDV hO (x:=S'[i]) sS' (i:=i) hi (hO.rf _) (S'[(l+r) / 2]'(by omega)) (by
        rw [qH5]; exact ⟨(l+r) / 2 - i,by simp; omega,by simp only [qL7]; congr 1; omega⟩)
      exact hO.tr _ _ _ this e1
  ·rintro c st'' ⟨rfl,l,r,rfl,hlr,hrk,hm,q1,q2⟩
   have:l=r:=by omega
   subst this
   exact ⟨rfl,l,l,rfl,hrk,q1,q2⟩
  ·rintro c st'' ⟨rfl,l,r,rfl,hl,q1,q2⟩
   dsimp only
   have e0:pre++(S'++(e::U'++post))=(pre++S'.take l)++(S'.drop l++(e::(U'++post))):=by
    conv=>lhs; rw [← qD1 l S']
    simp only [qB8,qH2]
   rw [e0]
   refine wpS_bind (zQc (by simp; omega) (by simp; omega) (wpS_pure ⟨rfl,S'.take l++(e::S'.drop l),U',by simp; omega,?_,zRC hO sS' (fun x hx=>?_) (fun x hx=>?_),by simp⟩))
   ·refine List.Perm.trans ?_ pm
    have:(S'++e::U')=S'.take l++(S'.drop l++(e::U')):=by
     rw [← qB8,qD1]
    rw [this,qB8]
    refine (List.Perm.refl _).append ?_
    rw [qH2]
    exact List.perm_middle.symm
   ·obtain ⟨i,hi,hil,rfl⟩:=zDy hx
    exact q1 i hi hil
   ·obtain ⟨i,hi,hil,rfl⟩:=zDA hx
    exact q2 i hi hil
 ·rintro c st' ⟨rfl,S',U',hk,pm,sS',rfl⟩
  have lp:=pm.length_eq
  have:U'=[]:=by
   cases U' with
   | nil=>rfl
   | cons e U'=>simp at lp; omega
  subst this
  exact ⟨rfl,S',by simpa using pm,sS',by simp⟩
 ·rintro c st' ⟨rfl,N,pm,sN,rfl⟩
  exact wpS_pure (h N pm sN)
end
open PySem PySem.Spec PyProof.Rows
noncomputable abbrev Rn:=List (yI × Nat)
noncomputable def zA8:Rn→yI
 | []=>[]
 | r::rs=>r.1++zA8 rs
noncomputable def pnd:Nat→Rn→List Pend
 | _,[]=>[]
 | o,r::rs=>(o,r.1.length,r.2)::pnd (o+r.1.length) rs
theorem zB1:∀ (a b:Rn),zA8 (a++b)=zA8 a++zA8 b
 | [],_=>rfl
 | r::a,b=>by rw [qH2,zA8,zB1 a b,zA8,qB8]
theorem zCY:∀ (o:Nat) (a b:Rn),pnd o (a++b)=pnd o a++pnd (o+(zA8 a).length) b
 | o,[],b=>by simp [pnd,zA8]
 | o,r::a,b=>by
  rw [qH2,pnd,zCY (o+r.1.length) a b,pnd,zA8,qB1,qH2,Nat.add_assoc]
theorem zE5:∀ (o:Nat) (a:Rn),(pnd o a).length=a.length
 | _,[]=>rfl
 | o,r::a=>by rw [pnd,qC3,zE5,qC3]
structure Good (lt:Keyed→Keyed→Bool) (rs:Rn):Prop where
 s:∀ r∈rs,Srt lt r.1
 p:∀ r∈rs,0<r.1.length
theorem Good.len {lt:Keyed→Keyed→Bool}:∀ {rs:Rn},Good lt rs→rs.length≤(zA8 rs).length
 | [],_=>qA9 _
 | r::rs,h=>by
  have:=Good.len (rs:=rs) ⟨fun x hx=>h.s x (qC7 _ hx),fun x hx=>h.p x (qC7 _ hx)⟩
  have:=h.p r (qD4 ..)
  rw [zA8,qB1,qC3]; omega
theorem zSf {rs:Rn}{i:Nat} (h:i+1<rs.length):∃ r1 x y r2,rs=r1++x::y::r2∧r1.length=i:=by
 refine ⟨rs.take i,rs[i],rs[i+1],rs.drop (i+2),?_,by simp; omega⟩
 rw [← qF6,← qF6,qD1]
theorem zMJ {rs:Rn} (h:rs≠[]):∃ r1 x,rs=r1++[x]:=⟨rs.dropLast,rs.getLast h,(qH9 h).symm⟩
theorem zKi:∀ (l:List Pend) (u:Pend) (f:Pend→Pend),(l++[u]).modify l.length f=l++[f u]
 | [],u,f=>by simp
 | v::l,u,f=>by rw [qH2,qC3,List.modify_succ_cons,zKi l u f,qH2]
theorem zWP {c:Prop} [Decidable c] {n:Nat} (h:1<n):(if c then n - 2 - 1 else n - 2)+1<n:=by split <;> omega
section
variable {prog:Program}{w:World}{A:Around}{E:yL}{s:Shared}{κ:SortKind}{lt:Keyed→Keyed→Bool}{G:Keyed→Prop}
noncomputable abbrev RnS (κ:SortKind) (rs:Rn) (rest:yI) (g:Nat):SortSt:=SS κ (zA8 rs++rest) (pnd 0 rs) g
theorem zKh {rs:Rn}{rest:yI}{g i:Nat}{Q:Bool→SortSt→Prop} (hO:Swo lt) (hA:Asks prog w A s κ lt G) (gl:∀ x∈zA8 rs++rest,G x) (hg:Good lt rs) (hi:i+1<rs.length)
  (h:∀ rs' g',Good lt rs'→(zA8 rs').Perm (zA8 rs)→rs'.length+1=rs.length→Q true (RnS κ rs' rest g')):wpS (model prog w) A E s (mergeAt' i) Q (RnS κ rs rest g):=by
 obtain ⟨r1,⟨X,pw⟩,⟨Y,q⟩,r2,rfl,rfl⟩:=zSf hi
 have mx:(X,pw)∈r1++(X,pw)::(Y,q)::r2:=by simp
 have my:(Y,q)∈r1++(X,pw)::(Y,q)::r2:=by simp
 have el:zA8 (r1++(X,pw)::(Y,q)::r2)++rest=zA8 r1++(X++(Y++(zA8 r2++rest))):=by rw [zB1,zA8,zA8]; simp
 have ep:pnd 0 (r1++(X,pw)::(Y,q)::r2)=pnd 0 r1++((zA8 r1).length,X.length,pw)::((zA8 r1).length+X.length,Y.length,q)::pnd ((zA8 r1).length+X.length+Y.length) r2:=by
  rw [zCY,pnd,pnd]; simp
 have hst:RnS κ (r1++(X,pw)::(Y,q)::r2) rest g=SS κ (zA8 r1++(X++(Y++(zA8 r2++rest)))) (pnd 0 r1++((zA8 r1).length,X.length,pw)::((zA8 r1).length+X.length,Y.length,q)::pnd ((zA8 r1).length+X.length+Y.length) r2) g:=by
  unfold RnS; rw [el,ep]
 rw [hst]
 rw [el] at gl
 refine zOK hO hA gl (hg.s _ mx) (hg.s _ my) (hg.p _ mx) (hg.p _ my) rfl (zE5 ..).symm fun Z g' hZ=>?_
 have lz:=hZ.pm.length_eq
 rw [qB1] at lz
 have hr:=h (r1++(Z,pw)::r2) g' ⟨fun r hr=>?_,fun r hr=>?_⟩ ?_ (by simp; omega)
 ·have el':zA8 (r1++(Z,pw)::r2)++rest=zA8 r1++(Z++(zA8 r2++rest)):=by rw [zB1,zA8]; simp
  have ep':pnd 0 (r1++(Z,pw)::r2)=pnd 0 r1++((zA8 r1).length,X.length+Y.length,pw)::pnd ((zA8 r1).length+X.length+Y.length) r2:=by
   rw [zCY,pnd]; simp only [qN4]; rw [lz,Nat.add_assoc]
  unfold RnS at hr
  rw [el',ep'] at hr
  exact hr
 ·rcases qB4.mp hr with hr | hr
  ·exact hg.s r (by simp [hr])
  ·rcases qB6.mp hr with rfl | hr
   ·exact hZ.so
   ·exact hg.s r (by simp [hr])
 ·rcases qB4.mp hr with hr | hr
  ·exact hg.p r (by simp [hr])
  ·rcases qB6.mp hr with rfl | hr
   ·have:=hg.p _ mx; show 0<Z.length; simp at this; omega
   ·exact hg.p r (by simp [hr])
 ·rw [zB1,zB1,zA8,zA8,zA8]
  refine (List.Perm.refl _).append ?_
  rw [← qB8]
  exact hZ.pm.append (List.Perm.refl _)
theorem zOu {rs:Rn}{i:Nat} (h:i<rs.length):∃ o,(pnd 0 rs).toArray[i]?=some (o,rs[i].1.length,rs[i].2):=by
 have e:rs=rs.take i++rs[i]::rs.drop (i+1):=by rw [← qF6,qD1]
 refine ⟨(zA8 (rs.take i)).length,?_⟩
 rw [qD2]
 conv=>lhs; rw [e]
 rw [zCY,qA0 (by rw [zE5,qH1]; exact Nat.min_le_left ..),zE5,pnd]
 simp [qN1 (qH3 h)]
theorem zQn {l:yI}{Q:Unit→SortSt→Prop} (hO:Swo lt) (hA:Asks prog w A s κ lt G) (gl:∀ x∈l,G x) (h0:0<l.length)
  (h:∀ l' st',arrOf st'=l'.toArray→failedOf st'=none→l'.Perm l→Srt lt l'→Q () st'):wpS (model prog w) A E s sortRuns' Q (SS κ l [] 7):=by
 rw [sortRuns'_eq]
 refine wpS_bind (wpS_get ?_)
 dsimp only
 rw [show l.toArray.size=l.length from rfl]
 generalize minRun' l.length l.length 0=mr
 have hG:∀ {l':yI},l'.Perm l→∀ x∈l',G x:=fun hp x hx=>gl x (hp.mem_iff.mp hx)
 refine wpS_bind (wpS_mono (wpS_forRange
  (I:=fun x c st'=>∃ rs post g,c=(none,(zA8 rs).length)∧st'=RnS κ rs post g∧(zA8 rs++post).Perm l∧Good lt rs∧(x≤(zA8 rs).length))
  (Q:=fun c st'=>∃ rs g,c=(none,l.length)∧st'=RnS κ rs [] g∧(zA8 rs).Perm l∧Good lt rs) ?_ ?_ ⟨[],l,7,rfl,rfl,.refl _,⟨fun r hr=>(by cases hr),fun r hr=>(by cases hr)⟩,qG0 _⟩) ?_)
 ·rintro x c st' _ hx ⟨rs,post,g,rfl,rfl,pm,hg,hp⟩
  dsimp only
  have lp:=pm.length_eq
  rw [qB1] at lp
  by_cases hge:(zA8 rs).length≥l.length
  ·rw [if_pos hge]
   have e:post=[]:=qF1.mp (by omega)
   subst e
   refine wpS_pure ⟨rs,g,by rw [show (zA8 rs).length=l.length by omega],rfl,by simpa using pm,hg⟩
  rw [if_neg hge]
  refine wpS_bind (zPk hO hA (hG pm) rfl (by omega) (by omega) fun N W pN hN sN=>?_)
  dsimp only
  have lN:=pN.length_eq
  rw [qB1] at lN
  have done:∀ {N W:yI}{rs':Rn}{g':Nat},(N++W).Perm post→0<N.length→Srt lt N→Good lt rs'→(zA8 rs').Perm (zA8 rs)→∃ rs2 post2 g2,((none,(zA8 rs).length+N.length):Option Unit × Nat)=(none,(zA8 rs2).length)∧SS κ (zA8 rs'++(N++W)) (pnd 0 rs'++[((zA8 rs).length,N.length,0)]) g'=RnS κ rs2 post2 g2∧(zA8 rs2++post2).Perm l∧Good lt rs2∧x+1≤(zA8 rs2).length:=by
   intro N W rs' g' pN hN sN hg' hp'
   have ef:zA8 (rs'++[(N,0)])=zA8 rs'++N:=by rw [zB1,zA8,zA8,qI6]
   refine ⟨rs'++[(N,0)],W,g',?_,?_,?_,⟨fun r hr=>?_,fun r hr=>?_⟩,?_⟩
   ·rw [ef,qB1,hp'.length_eq]
   ·unfold RnS; rw [ef,zCY,pnd,pnd,qB8,qN4,hp'.length_eq]
   ·rw [ef,qB8]
    exact (hp'.append pN).trans pm
   ·rcases qB4.mp hr with hr | hr
    ·exact hg'.s r hr
    ·rw [qA8.mp hr]; exact sN
   ·rcases qB4.mp hr with hr | hr
    ·exact hg'.p r hr
    ·rw [qA8.mp hr]; exact hN
   ·rw [ef,qB1,hp'.length_eq]; omega
  by_cases hlt:N.length<mr
  case' pos =>
   rw [if_pos hlt]
   refine wpS_bind (wpS_lift (wpAny_rule ⟨rfl,?_⟩))
   have eW:zA8 rs++(N++W)=zA8 rs++(N++(W.take (min (l.length - (zA8 rs).length) mr - N.length)++W.drop (min (l.length - (zA8 rs).length) mr - N.length))):=by rw [qD1]
   have gW:∀ x∈zA8 rs++(N++W),G x:=hG (((List.Perm.refl _).append pN).trans pm)
   rw [eW] at gW ⊢
   refine wpS_bind (zPp hO hA gW rfl (by simp; omega) rfl hN sN fun N' pN' sN'=>?_)
   simp only [Bool.not_true,qE0,if_false]
   have lN':min (l.length - (zA8 rs).length) mr=N'.length:=by rw [pN'.length_eq]; simp; omega
   rw [lN']
   have pN2:(N'++W.drop (min (l.length - (zA8 rs).length) mr - N.length)).Perm post:=by
    refine List.Perm.trans (pN'.append (List.Perm.refl _)) ?_
    rw [qB8,qD1]; exact pN
   have hN2:0<N'.length:=by rw [pN'.length_eq]; simp; omega
   rw [lN'] at pN2
   generalize W.drop (N'.length - N.length)=W' at pN2 ⊢
   clear eW gW pN' lN' pN hN sN lN
   generalize N'=M at sN' pN2 hN2 ⊢
   have sM:=sN'
   have pM:=pN2
   have hM:=hN2
   generalize W'=V at pM ⊢
  case' neg =>
   rw [if_neg hlt]
   have sM:=sN
   have pM:=pN
   have hM:=hN
   clear sN pN hN lN hlt
   generalize N=M at sM pM hM ⊢
   generalize W=V at pM ⊢
  all_goals
   refine wpS_bind (wpS_get ?_)
   (try dsimp only)
   by_cases hrs:rs=[]
   ·subst hrs
    exact wpS_bind (wpS_modify (wpS_pure (done (rs':=[]) pM hM sM hg (.refl _))))
   ·obtain ⟨r1,y,e⟩:=zMJ hrs
    have eb:(pnd 0 rs).toArray.back?=some ((zA8 r1).length,y.1.length,y.2):=by
     rw [e,zCY,pnd,pnd]; simp
    rw [eb]
    dsimp only
    refine wpS_bind (wpS_mono (wpS_forRange (I:=fun _ c st'=>c=(none,())∧∃ rs' g',st'=RnS κ rs' (M++V) g'∧Good lt rs'∧(zA8 rs').Perm (zA8 rs)∧rs'≠[])
     (Q:=fun c st'=>c=(none,())∧∃ rs' g',st'=RnS κ rs' (M++V) g'∧Good lt rs'∧(zA8 rs').Perm (zA8 rs)∧rs'≠[]) ?_ (fun c st' h=>h) ⟨rfl,rs,g,rfl,hg,.refl _,hrs⟩) ?_)
    ·rintro i c st' _ _ ⟨rfl,rs',g',rfl,hg',hp',hne⟩
     refine wpS_bind (wpS_get ?_)
     (try dsimp only)
     have es:(pnd 0 rs').toArray.size=rs'.length:=qB0.trans (zE5 ..)
     rw [es]
     by_cases h1:rs'.length>1
     ·rw [if_pos h1]
      obtain ⟨o,eo⟩:=zOu (rs:=rs') (i:=rs'.length - 2) (by omega)
      rw [eo]
      dsimp only
      split
      ·exact wpS_pure ⟨rfl,rs',g',rfl,hg',hp',hne⟩
      ·refine wpS_bind (zKh hO hA (hG (((hp'.append (List.Perm.refl _)).trans ((List.Perm.refl _).append pM)).trans pm)) hg' (by omega) fun rs2 g2 hg2 hp2 hl2=>?_)
       exact wpS_pure ⟨rfl,rs2,g2,rfl,hg2,hp2.trans hp',fun e=>by subst e; simp at hl2; omega⟩
     ·rw [if_neg h1]
      exact wpS_pure ⟨rfl,rs',g',rfl,hg',hp',hne⟩
    ·rintro c st' ⟨rfl,rs',g',rfl,hg',hp',hne⟩
     dsimp only
     obtain ⟨r2,⟨Y,q⟩,rfl⟩:=zMJ hne
     refine wpS_bind (wpS_modify (wpS_bind (wpS_modify (wpS_pure ?_))))
     generalize power' l.length _ _ l.length=pw
     have e3:(pnd 0 (r2++[(Y,q)])).toArray.modify ((pnd 0 (r2++[(Y,q)])).toArray.size - 1) (fun x=>(x.1,x.2.1,pw))=(pnd 0 (r2++[(Y,pw)])).toArray:=by
      apply Array.ext'
      rw [zCY,zCY,pnd,pnd,pnd,pnd]
      simp [zKi]
     have e4:setPending (RnS κ (r2++[(Y,q)]) (M++V) g') ((pnd 0 (r2++[(Y,q)])).toArray.modify ((pnd 0 (r2++[(Y,q)])).toArray.size - 1) (fun x=>(x.1,x.2.1,pw)))=RnS κ (r2++[(Y,pw)]) (M++V) g':=by
      rw [e3]
      unfold RnS
      rw [zB1,zB1]
      rfl
     have:=done (rs':=r2++[(Y,pw)]) (g':=g') pM hM sM ⟨fun r hr=>?_,fun r hr=>?_⟩ (by rw [zB1] at hp' ⊢; exact hp')
     ·obtain ⟨a,b,c,d,e,f⟩:=this
      refine ⟨a,b,c,d,?_,f⟩
      rw [← e]
      show setPending (setPending (RnS κ (r2++[(Y,q)]) (M++V) g') ((pnd 0 (r2++[(Y,q)])).toArray.modify ((pnd 0 (r2++[(Y,q)])).toArray.size - 1) (fun x=>(x.1,x.2.1,pw)))) _=_
      rw [e4]
      show SortSt.mk' κ _ ((pnd 0 (r2++[(Y,pw)])).toArray.push _) _ _=SortSt.mk' κ _ _ _ _
      rw [List.push_toArray]
     ·rcases qB4.mp hr with hr | hr
      ·exact hg'.s r (by simp [hr])
      ·rw [qA8.mp hr]; exact hg'.s (Y,q) (by simp)
     ·rcases qB4.mp hr with hr | hr
      ·exact hg'.p r (by simp [hr])
      ·rw [qA8.mp hr]; exact hg'.p (Y,q) (by simp)
 ·rintro c st' ⟨rs,post,g,rfl,rfl,pm,hg,hp⟩
  have lp:=pm.length_eq
  rw [qB1] at lp
  have e:post=[]:=qF1.mp (by omega)
  subst e
  exact ⟨rs,g,by rw [show (zA8 rs).length=l.length by simp at lp; omega],rfl,by simpa using pm,hg⟩
 rintro c st' ⟨rs,g,rfl,rfl,pm,hg⟩
 dsimp only
 have l1:=hg.len
 rw [pm.length_eq] at l1
 refine wpS_bind (wpS_mono (wpS_forRange (I:=fun x c st'=>c=(none,())∧∃ rs' g',st'=RnS κ rs' [] g'∧Good lt rs'∧(zA8 rs').Perm l∧rs'.length+x≤l.length+1)
  (Q:=fun c st'=>c=(none,())∧∃ rs' g',st'=RnS κ rs' [] g'∧Good lt rs'∧(zA8 rs').Perm l∧rs'.length≤1) ?_ ?_ ⟨rfl,rs,g,rfl,hg,pm,by omega⟩) ?_)
 ·rintro x c st' _ hx ⟨rfl,rs',g',rfl,hg',hp',hl'⟩
  refine wpS_bind (wpS_get ?_)
  (try dsimp only)
  have es:(pnd 0 rs').toArray.size=rs'.length:=qB0.trans (zE5 ..)
  rw [es]
  by_cases h1:rs'.length≤1
  ·rw [if_pos h1]; exact wpS_pure ⟨rfl,rs',g',rfl,hg',hp',h1⟩
  ·rw [if_neg h1]
   refine wpS_bind (zKh hO hA (hG (by simpa using hp')) hg' (zWP (by omega)) fun rs2 g2 hg2 hp2 hl2=>?_)
   exact wpS_pure ⟨rfl,rs2,g2,rfl,hg2,hp2.trans hp',by omega⟩
 ·rintro c st' ⟨rfl,rs',g',rfl,hg',hp',hl'⟩
  exact ⟨rfl,rs',g',rfl,hg',hp',by omega⟩
 ·rintro c st' ⟨rfl,rs',g',rfl,hg',hp',hl'⟩
  match rs',hl' with
  | [],_ =>
   have:=hp'.length_eq
   simp [zA8] at this
   omega
  | [(R,q)],_ =>
   have hf:zA8 [(R,q)]=R:=by simp [zA8]
   refine wpS_pure (h R _ ?_ rfl (by rw [hf] at hp'; exact hp') (hg'.s (R,q) (qG1 _)))
   show (zA8 [(R,q)]++[]).toArray=_
   rw [hf,qI6]
end
open PySem PySem.Spec PyProof.Rows
theorem zMH:∀ (x y:yA),HT.lexLt x y=true→HT.lexLt y x=false
 | [],[],h=>by cases h
 | [],_::_,_=>rfl
 | _::_,[],h=>by cases h
 | a::x,b::y,h=>by
  rw [HT.lexLt_cons] at h ⊢
  by_cases e:a=b
  ·subst e; rw [if_pos rfl] at h ⊢; exact zMH x y h
  ·rw [if_neg e] at h
   rw [if_neg (fun q=>e q.symm)]
   have:=of_decide_eq_true h
   exact decide_eq_false (by omega)
theorem zMG:∀ (x y z:yA),HT.lexLt y x=false→HT.lexLt z y=false→HT.lexLt z x=false
 | [],y,z,h,k=>by
  cases z with
  | nil=>rfl
  | cons c z=>rfl
 | a::x,[],z,h,k=>by cases h
 | a::x,b::y,[],h,k=>by cases k
 | a::x,b::y,c::z,h,k=>by
  rw [HT.lexLt_cons] at h k ⊢
  by_cases e1:b=a
  ·subst e1
   rw [if_pos rfl] at h
   by_cases e2:c=b
   ·subst e2; rw [if_pos rfl] at k ⊢; exact zMG x y z h k
   ·rw [if_neg e2] at k ⊢; exact k
  ·rw [if_neg e1] at h
   have h':=of_decide_eq_false h
   by_cases e2:c=b
   ·subst e2; rw [if_neg e1]; exact h
   ·rw [if_neg e2] at k
    have k':=of_decide_eq_false k
    rw [if_neg (by omega)]
    exact decide_eq_false (by omega)
theorem zKn:∀ (x y:yA),HT.lexLt y x=false→HT.lexLt x y=false→x=y
 | [],[],_,_=>rfl
 | [],_::_,_,k=>by cases k
 | _::_,[],h,_=>by cases h
 | a::x,b::y,h,k=>by
  rw [HT.lexLt_cons] at h k
  by_cases e:a=b
  ·subst e
   rw [if_pos rfl] at h k
   rw [zKn x y h k]
  ·rw [if_neg e] at k
   rw [if_neg (fun q=>e q.symm)] at h
   have:=of_decide_eq_false h
   have:=of_decide_eq_false k
   omega
noncomputable def kdv (h:Heap):Value→yA
 | .ref a=>match h.get? a with
  | some o=>match o.data with
   | .seq xs _=>xs.toList.map numOf
   | _=>[]
  | none=>[]
 | _=>[]
def TupI (h:Heap) (v:Value) (ns:yA):Prop:=∃ a its,v=.ref a∧IsTup h a its∧IntsAre its.toList ns
theorem TupI.kd {h:Heap}{v:Value}{ns:yA} (x:TupI h v ns):kdv h v=ns:=by
 obtain ⟨a,its,rfl,⟨o,ho,hc,n,hd⟩,hi⟩:=x
 show (match h.get? a with | some o=>_ | none=>_)=_
 rw [ho]
 show (match o.data with | .seq xs _=>_ | _=>_)=_
 rw [hd]
 exact hi.nums
theorem TupI.mono {h h':Heap}{v:Value}{ns:yA} (x:TupI h v ns) (k:∀ b o,o.cls=.type "tuple"→h.get? b=some o→h'.get? b=some o):TupI h' v ns:=by
 obtain ⟨a,its,rfl,⟨o,ho,hc,n,hd⟩,hi⟩:=x
 exact ⟨a,its,rfl,⟨o,k a o hc ho,hc,n,hd⟩,hi⟩
noncomputable def ltv (h:Heap) (x y:Keyed):Bool:=HT.lexLt (kdv h x.1) (kdv h y.1)
theorem zRb (h:Heap):Swo (ltv h):=⟨fun x y=>zMH _ _,fun x y z=>zMG _ _ _⟩
section
variable {prog:Program}{w:World}{A:Around}{E:yL}{s:Shared}
theorem zU0 {b:Bool}{sx sy:Nat}{Q:Bool→Shared→Prop}{us:yB}{ns:yA} (hn:IntsAre us ns):∀ {vs:yB}{ms:yA} (i:Nat),IntsAre vs ms→ns.length+sy=ms.length+sx →
  Q (HT.lexLt ns ms) s→W.KatLex prog w A b (decide (sx<sy)) Q (us.zip vs) i s:=by
 induction hn with
 | nil =>
  intro vs ms i hm hl h
  rw [qR9]
  refine W.kat_nil ?_
  cases hm with
  | nil=>rw [show decide (sx<sy)=false from decide_eq_false (by simp at hl; omega)]; exact h
  | cons m u hm=>rw [show decide (sx<sy)=true from decide_eq_true (by simp at hl; omega)]; exact h
 | cons n t hn ih =>
  intro vs ms i hm hl h
  cases hm with
  | nil =>
   rw [qR4]
   refine W.kat_nil ?_
   rw [show decide (sx<sy)=false from decide_eq_false (by simp at hl; omega)]; exact h
  | cons m u hm =>
   rw [qJ4]
   refine W.kat_cons (wpAny_eqBool_int ?_)
   rw [HT.lexLt_cons] at h
   by_cases e:n=m
   ·subst e
    rw [if_pos rfl] at h
    rw [show (n == n)=true by simp]
    exact W.kat_yes (ih (i+1) hm (by simp at hl; omega) h)
   ·rw [if_neg e] at h
    rw [show (n == m)=false by simpa using e]
    refine W.kat_no ?_
    cases hf:(b&&i == 0) with
    | true=>exact oneLt_int h
    | false=>exact W.kat_one _ _ (PyProof.Rows.lt_int h)
theorem zNZ {κ:SortKind} (hk:κ=tuples' true∨κ=general'∨κ=oneType') (hu:A.units<cLine):Asks prog w A s κ (ltv s.heap) (fun x=>∃ ns,TupI s.heap x.1 ns):=by
 rintro ⟨x,x'⟩ ⟨y,y'⟩ ⟨ns,hx⟩ ⟨ms,hy⟩ Q hq
 unfold ltv at hq
 rw [hx.kd,hy.kd] at hq
 obtain ⟨a,its,e1,⟨o,ho,hc,n,hd⟩,hi⟩:=hx
 obtain ⟨b,jts,e2,⟨o2,ho2,hc2,n2,hd2⟩,hj⟩:=hy
 dsimp only at e1 e2 hq ⊢
 subst e1 e2
 rcases hk with rfl | rfl | rfl
 ·refine W.kat_lt ho hd ho2 hd2 (zU0 hi 0 hj ?_ hq)
  rw [← hi.length,← hj.length]; simp; omega
 ·exact W.kat_one _ _ (HT.lt_tupInts ⟨o,ho,hc,n,hd⟩ ⟨o2,ho2,hc2,n2,hd2⟩ hi hj hu hq)
 ·rw [keyLt'_oneType,oneLt'_eq]
  simp only [if_true]
  refine wpAny_bind (wpAny_cRoomFor hu ?_)
  obtain ⟨cls,dd,data,sl⟩:=o
  obtain ⟨cls2,dd2,data2,sl2⟩:=o2
  simp only at hc hd hc2 hd2
  subst hc hd hc2 hd2
  refine wpAny_bind (wpAny_callSpecialIfBound?_slot ⟨_,ho,rfl⟩ PySem.F.slot_tuple_lt (call_meets PySem.F.slot_tuple_lt ⟨_,ho,rfl⟩ PySem.F.entry_tuple_lt (PySem.F.args_tuple_lt_2 _ _) (HT.tuple_lt_ints a b its jts n n2 dd dd2 sl sl2 ns ms hi hj) ⟨ho,ho2,?_⟩))
  exact wpAny_truthy_bool hq
theorem zGb:∀ (vs:yB),(∀ v∈vs,∃ ns,TupI s.heap v ns)→∃ fs:List (yF),fs.length=vs.length∧(∀ f∈fs,∀ v,f=some v→∃ n t,v=.int n t)∧∀ {M:Model}{A:Around}{E:yL}{Q:List (yF)→Shared→Prop},Q fs s→wpAny M A (vs.mapM firstOfTuple') Q E s
 | [],_=>⟨[],rfl,fun f hf=>(by cases hf),fun h=>by rw [List.mapM_nil]; exact wpAny_pure h⟩
 | v::vs,hv=>by
  obtain ⟨fs,h1,h2,h3⟩:=zGb vs fun u hu=>hv u (qC7 _ hu)
  obtain ⟨ns,a,its,rfl,⟨o,ho,hc,n,hd⟩,hi⟩:=hv v (qD4 ..)
  refine ⟨its[0]?::fs,by simp [h1],fun f hf v e=>?_,fun {M A E Q} h=>?_⟩
  ·rcases qB6.mp hf with rfl | hf
   ·have:v∈its.toList:=by
     rw [← Array.getElem?_toList] at e
     exact qC0 e
    exact hi.all v this
   ·exact h2 f hf v e
  ·rw [qF8]
   refine wpAny_bind ?_
   rw [W.kas_first_eq]
   refine wpAny_bind (wpAny_typeOf (T := "tuple") ⟨o,ho,hc⟩ ?_)
   rw [if_neg (by first | decide | simp)]
   refine wpAny_bind (listItems_at ho hd (wpAny_pure ?_))
   exact wpAny_bind (h3 (wpAny_pure h))
theorem zNY {vs:yB}{Q:SortKind→Shared→Prop} (hv:∀ v∈vs,∃ ns,TupI s.heap v ns) (h0:0<vs.length) (h:∀ κ,(κ=tuples' true∨κ=general'∨κ=oneType')→Q κ s) :
  wpAny (model prog w) A (keyKind' vs.toArray) Q E s:=by
 obtain ⟨fs,h1,h2,h3⟩:=zGb (s:=s) vs hv
 rw [PyProof.Rows.kat_kind_eq,qO4,map_eq_pure_bind]
 refine wpAny_bind (wpAny_bind (h3 (wpAny_pure ?_)))
 by_cases hall:(fs.toArray.all fun x=>x.isSome)=true
 ·rw [if_pos hall]
  refine wpAny_bind (wpAny_rule ?_)
  have hm:∀ v∈fs.filterMap id,∃ n t,v=.int n t:=fun v hv=>by
   obtain ⟨f,hf,e⟩:=qI4.mp hv
   exact h2 f hf v e
  have hp:0<(fs.filterMap id).length:=by
   cases fs with
   | nil=>simp at h1; omega
   | cons f fs =>
    cases f with
    | none=>simp at hall
    | some v=>simp
  have hfm:fs.toArray.filterMap id=(fs.filterMap id).toArray:=by simp
  rw [hfm,oneTypeOnly'_eq,qO4,map_eq_pure_bind]
  refine wpAny_bind (wpAny_bind (wpAny_bind (W.kas_mapM (r:=Value.type "int") _ (fun v hv Q' hq=>?_) (wpAny_pure ?_))))
  ·obtain ⟨n,t,rfl⟩:=hm v hv
   exact wpAny_pure hq
  ·obtain ⟨f₁,fr,e⟩:∃ f₁ fr,fs.filterMap id=f₁::fr:=by
    cases hq:fs.filterMap id with
    | nil=>rw [hq] at hp; simp at hp
    | cons a b=>exact ⟨a,b,rfl⟩
   rw [e]
   have h0:(qU2 (fun _=>Value.type "int") (f₁::fr)).toArray[0]?=some (Value.type "int"):=by simp
   have hall2:((qU2 (fun _=>Value.type "int") (f₁::fr)).toArray.all fun x=>x == Value.type "int")=true:=by
    simp only [qS4,qL5,qC8]
    intro _ _
    rfl
   rw [h0]
   simp only [hall2,if_true]
   exact wpAny_pure (wpAny_pure (h _ (.inl rfl)))
 ·rw [if_neg hall]
  split
  ·exact wpAny_pure (h _ (.inr (.inl rfl)))
  ·rw [oneTypeOnly'_eq,qO4,map_eq_pure_bind]
   refine wpAny_bind (wpAny_bind (wpAny_bind (W.kas_mapM (r:=Value.type "tuple") _ (fun v hv' Q' hq=>?_) (wpAny_pure ?_))))
   ·obtain ⟨ns,a,its,rfl,⟨o,ho,hc,n,hd⟩,hi⟩:=hv v hv'
    exact wpAny_typeOf (T := "tuple") ⟨o,ho,hc⟩ hq
   ·obtain ⟨f₁,fr,rfl⟩:∃ f₁ fr,vs=f₁::fr:=by
     cases vs with
     | nil=>simp at h0
     | cons a b=>exact ⟨a,b,rfl⟩
    have h0:(qU2 (fun _=>Value.type "tuple") (f₁::fr)).toArray[0]?=some (Value.type "tuple"):=by simp
    have hall2:((qU2 (fun _=>Value.type "tuple") (f₁::fr)).toArray.all fun x=>x == Value.type "tuple")=true:=by
     simp only [qS4,qL5,qC8]
     intro _ _
     rfl
    rw [h0]
    simp only [hall2,if_true]
    exact wpAny_pure (wpAny_pure (h _ (.inr (.inr rfl))))
theorem zLZ {a:Addr}{vs:yB}{n:Nat}{P:Fin→Shared→Prop} (ho:s.heap.get? a=some (seqObj "list" vs.toArray n)) (hv:∀ v∈vs,∃ ns,TupI s.heap v ns) (hz:vs.length≤sizeLine) (hu:A.units<cLine)
  (h:∀ out:yB,out.Perm vs→out.Pairwise (fun x y=>HT.lexLt (kdv s.heap y) (kdv s.heap x)=false)→P (.done (.ret .none)) { s with heap:=sortedHeap s.heap a vs out.toArray }) :
  wpAny (model prog w) A (Builtin.«list.sort» ⟨[.ref a],[]⟩) P E s:=by
 rw [list_sort_plain]
 have ha:a<s.heap.objs.size:=qB5 ho
 refine wpAny_bind (listItems_at ho rfl ?_)
 refine wpAny_bind (listUpdate_at ho rfl ?_ (by rw [qB0]; exact hz) (qG0 _))
 obtain ⟨e1,ho1⟩:∃ e1,(s.heap.update a (Obj.mapSeq fun _=>#[])).get? a=some (seqObj "list" #[] e1):=⟨_,get?_update_seq ho (fun _=>#[])⟩
 refine wpAny_bind (seqEpoch_at ho1 rfl ?_)
 refine wpAny_bind (wpAny_newTuple ?_ hz)
 refine wpAny_bind (wpAny_newList ?_ (qG0 _))
 refine wpAny_holding ?_
 obtain ⟨h6,e6⟩:∃ h6,((s.heap.update a (Obj.mapSeq fun _=>#[])).push (seqObj "tuple" vs.toArray 0)).push (seqObj "list" #[] 0)=h6:=⟨_,rfl⟩
 have ho6:h6.get? a=some (seqObj "list" #[] e1):=by
  rw [← e6,qS0 _ _ _ (by rw [size_push',qS5]; exact qC4 (qG6 ha)),qS0 _ _ _ (by rw [qS5]; exact qC4 ha)]
  exact ho1
 have kp:∀ b o,o.cls=.type "tuple"→s.heap.get? b=some o→h6.get? b=some o:=fun b o hc q=>by
  have hb:b≠a:=fun e=>by subst e; rw [ho] at q; cases q; exact absurd (Value.type.inj hc) (by decide)
  rw [← e6]
  exact qA3 _ (qA3 _ ((qL3 _ _ (Ne.symm hb)).trans q))
 show wpAny (model prog w) A _ P E { s with heap:=((s.heap.update a (Obj.mapSeq fun _=>#[])).push (seqObj "tuple" vs.toArray 0)).push (seqObj "list" #[] 0) }
 rw [e6]
 dsimp only
 have hv6:∀ v∈vs,∃ ns,TupI h6 v ns:=fun v hm=>let ⟨ns,x⟩:=hv v hm; ⟨ns,x.mono kp⟩
 have kd6:∀ v∈vs,kdv h6 v=kdv s.heap v:=fun v hm=>by
  obtain ⟨ns,x⟩:=hv v hm
  rw [x.kd,(x.mono kp).kd]
 have fin:∀ out:yB,out.Perm vs→out.Pairwise (fun x y=>HT.lexLt (kdv s.heap y) (kdv s.heap x)=false)→P (.done (.ret .none)) { s with heap:=h6.update a (Obj.mapSeq fun _=>out.toArray) }:=fun out a1 a2=>by
  rw [← e6]; exact h out a1 a2
 have hsz:vs.toArray.size=vs.length:=by simp
 by_cases h2:vs.toArray.size<2
 ·rw [if_pos h2,if_pos h2]
  refine wpAny_bind (wpAny_pure ?_)
  rw [StateT.run_pure]
  refine wpAny_bind (wpAny_pure ?_)
  dsimp only
  refine wpAny_bind (seqEpoch_at ho6 rfl ?_)
  have eo:((vs.toArray.zip vs.toArray).map (·.2))=vs.toArray:=by
   apply Array.ext'
   simp
   exact qO9 (qA9 _)
  rw [eo]
  refine wpAny_bind (listUpdate_at ho6 rfl ?_ (hsz2:=by rw [qB0]; omega))
  simp only [bne_self_eq_false,qE0,if_false]
  refine wpAny_pure (fin vs (.refl _) ?_)
  match vs,hsz,h2 with
  | [],_,_=>exact .nil
  | [v],_,_=>exact qE5 ..
  | _::_::_,hs,h2=>exact absurd h2 (by simp)
 ·rw [if_neg h2,if_neg h2]
  refine wpAny_bind (zNY (s:={ s with heap:=h6 }) hv6 (by omega) fun κ hκ=>?_)
  have ez:vs.toArray.zip vs.toArray=(vs.zip vs).toArray:=by simp
  rw [ez]
  refine wpAny_bind (wpAny_mono (zQn (l:=vs.zip vs) (s:={ s with heap:=h6 }) (Q:=fun _ st'=>∃ l',arrOf st'=l'.toArray∧failedOf st'=none∧l'.Perm (vs.zip vs)∧Srt (ltv h6) l') (zRb h6) (zNZ (s:={ s with heap:=h6 }) hκ hu) (fun x hx=>hv6 _ (mem_zip_self hx).2) (by simp; omega)
   fun l' st' a1 a2 a3 a4=>⟨l',a1,a2,a3,a4⟩) ?_ fun _ _ e=>e)
  rintro ⟨⟨⟩,st'⟩ s' ⟨rfl,l',e1',hf,hp,hs⟩
  dsimp only
  refine wpAny_bind (seqEpoch_at ho6 rfl ?_)
  have eo:(arrOf st').map (·.2)=(l'.map (·.2)).toArray:=by rw [e1']; simp
  have po:(l'.map (·.2)).Perm vs:=by
   have:=hp.map (·.2)
   rwa [qO9 (qA9 _)] at this
  rw [eo]
  refine wpAny_bind (listUpdate_at ho6 rfl ?_ (hsz2:=by rw [qB0,po.length_eq]; omega))
  rw [hf]
  simp only [bne_self_eq_false,qE0,if_false]
  refine wpAny_pure (fin _ po ?_)
  rw [qK1]
  refine hs.imp_of_mem fun {x y} hx hy hxy=>?_
  have m1:=mem_zip_self (hp.mem_iff.mp hx)
  have m2:=mem_zip_self (hp.mem_iff.mp hy)
  unfold ltv at hxy
  rw [kd6 _ m1.2,kd6 _ m2.2] at hxy
  rw [← m1.1,← m2.1]
  exact hxy
end
open PySem PySem.Spec PyProof.Rows
section
variable {prog:Program}{w:World}{A:Around}{E:yL}{s:Shared}{r:Addr}
theorem zFl {T:String}{l:Addr}{vs:yB}{Q:yB→Shared→Prop}{o:Obj}{n:Nat} (ho:s.heap.get? l=some o) (hc:o.cls=.type T) (hd:o.data=.seq vs.toArray n) (hT:T = "list"∨T = "tuple")
  (h:Q vs { s with heap:=(s.heap.push (seqObj "list" #[] 0)).update s.heap.objs.size (Obj.mapSeq (·++vs.toArray)) }) (hsz:vs.length≤sizeLine) :
  wpAny (model prog w) A (collect (.ref l)) Q E s:=by
 unfold collect
 refine wpAny_bind (wpAny_runValue (codeAny_builtin entry_proto_collect' ?_))
 show wpAny _ _ (do again (.builtin "list.__iadd__" ⟨[← newList [],.ref l],[]⟩)) _ _ s
 refine wpAny_bind (wpAny_newList (wpAny_pure ⟨Code.quiet_builtin _ (by decide +kernel),codeAny_builtin entry_list_iadd' ?_⟩) (qG0 _))
 show wpAny _ _ (Builtin.List.listExtendWith (.ref s.heap.objs.size) (.ref l) (.ref s.heap.objs.size)) _ _ { s with heap:=s.heap.push (seqObj "list" #[] 0) }
 unfold Builtin.List.listExtendWith
 have ho':(s.heap.push (seqObj "list" #[] 0)).get? l=some o:=qA3 _ ho
 refine wpAny_bind (wpAny_typeOf (T:=T) ⟨o,ho',hc⟩ ?_)
 have ht:(Builtin.List.listSameRef (.ref s.heap.objs.size) (.ref l)||Value.type T == Value.type "list"||Value.type T == Value.type "tuple")=true:=by
  rcases hT with rfl | rfl
  ·rw [show (Value.type "list" == Value.type "list")=true from rfl]; simp
  ·rw [show (Value.type "tuple" == Value.type "tuple")=true from rfl]; simp
 rw [if_pos ht]
 refine wpAny_bind (listItems_at ho' hd ?_)
 refine wpAny_bind (listItems_at (xs:=#[]) (n:=0) (qB3 _ rfl) rfl ?_)
 rw [if_neg (by simp)]
 refine wpAny_bind (listUpdate_at (xs:=#[]) (n:=0) (qB3 _ rfl) rfl ?_ (qG0 _) (by show (#[]++vs.toArray).size≤sizeLine+1; simp only [Array.size_append,qB0,qF3]; omega))
 refine wpAny_pure ?_
 show wpAny (model prog w) A (do
   let o ← load s.heap.objs.size
   match o.data with
   | .seq xs _=>pure xs.toList
   | _=>unsupported "internal:collect") Q E { s with heap:=(s.heap.push (seqObj "list" #[] 0)).update s.heap.objs.size (Obj.mapSeq (·++vs.toArray)) }
 refine wpAny_bind (wpAny_load (get?_update_seq (qB3 _ rfl) _) ?_)
 show wpAny _ _ (pure ((#[]:yJ)++vs.toArray).toList) Q E _
 rw [show ((#[]:yJ)++vs.toArray).toList=vs by simp]
 exact wpAny_pure h
theorem zG2 (h:Heap) (vs:yB):∀ b o,h.get? b=some o→((h.push (seqObj "list" #[] 0)).update h.objs.size (Obj.mapSeq (·++vs.toArray))).get? b=some o:=fun b o g=>by
 rw [Heap.get?_update_ne _ _ _ _ (qC4 (qB5 g))]
 exact qA3 _ g
theorem zJ8 {α β:Type} (f:α→β) {m n:List β} (h:m.Perm n):∀ l:List α,n=l.map f→∃ l':List α,l'.Perm l∧m=l'.map f:=by
 induction h with
 | nil=>intro l e; exact ⟨[],by cases l with | nil=>exact .refl _ | cons _ _=>simp at e,rfl⟩
 | cons x p ih =>
  intro l e
  cases l with
  | nil=>simp at e
  | cons a l =>
   rw [qB9] at e
   injection e with e1 e2
   obtain ⟨l',p',q⟩:=ih l e2
   exact ⟨a::l',p'.cons a,by rw [qB9,e1,q]⟩
 | swap x y l =>
  intro l e
  match l,e with
  | [],e=>simp at e
  | [_],e=>simp at e
  | a::b::l,e =>
   simp only [qB9] at e
   injection e with e1 e2
   injection e2 with e2 e3
   exact ⟨b::a::l,.swap a b l,by simp [e1,e2,e3]⟩
 | trans p q ih1 ih2 =>
  intro l e
  obtain ⟨l1,p1,e1⟩:=ih2 l e
  obtain ⟨l2,p2,e2⟩:=ih1 l1 e1
  exact ⟨l2,p2.trans p1,e2⟩
abbrev LexS (ts:List (Addr × yA)):Prop:=ts.Pairwise fun x y=>HT.lexLt y.2 x.2=false
theorem zG1 {Q:yL}{ts:List (Addr × yA)} (hl:ts.length≤sizeLine) (hT:∀ t∈ts,TupI s.heap (.ref t.1) t.2) (hu:A.units+2<cLine)
  (hc:∀ (A:Around) (E:yL) (R:yB→Shared→Prop),A.handled=none→(∀ (h':Heap) (tk:Nat) (dr:Drawn),(∀ b o,s.heap.get? b=some o→h'.get? b=some o)→R (ts.map fun t=>.ref t.1) { s with heap:=h',toks:=tk,drawn:=dr })→wpAny (model prog w) A (collect (.ref r)) R E s)
  (hh:A.handled=none)
  (h:∀ (h1:Heap) (l:Addr) (h':Heap) (tk:Nat) (dr:Drawn) (e:Nat) (ts':List (Addr × yA)),(∀ b o,s.heap.get? b=some o→h1.get? b=some o)→(∀ b o,h1.get? b=some o→h'.get? b=some o)→h1.objs.size≤l→h'.get? l=some (seqObj "list" (ts'.map fun t=>Value.ref t.1).toArray e)→ts'.Perm ts→LexS ts'→Q (.ref l) { s with heap:=h',toks:=tk,drawn:=dr }) :
  wpAny (model prog w) A (call (.builtin "sorted") [.ref r]) Q E s:=by
 refine Calls.call_function_entry kind_sorted plain_sorted entry_sorted (args_sorted1 _) ?_
 unfold Builtin.«sorted»
 refine wpAny_bind (m:=checkCount "sorted" 1 1 _) (wpAny_pure ?_)
 refine wpAny_bind (hc _ _ _ hh fun h' tk dr hk=>?_)
 have hlen:(ts.map fun t=>Value.ref t.1).length=ts.length:=by simp
 refine wpAny_bind (wpAny_newList ?_ (by rw [hlen]; exact hl))
 have hoL:(h'.push (seqObj "list" (ts.map fun t=>Value.ref t.1).toArray 0)).get? h'.objs.size=some (seqObj "list" (ts.map fun t=>Value.ref t.1).toArray 0):=qB3 _ rfl
 show wpAny _ _ _ _ _ { s with heap:=h'.push (seqObj "list" (ts.map fun t=>Value.ref t.1).toArray 0),toks:=tk,drawn:=dr }
 have tI:∀ t∈ts,TupI (h'.push (seqObj "list" (ts.map fun t=>Value.ref t.1).toArray 0)) (.ref t.1) t.2:=fun t ht=>(hT t ht).mono fun b o _ g=>qA3 _ (hk b o g)
 refine wpAny_bind (wpAny_holding (wpAny_call_entry slot_list_sort ⟨_,hoL,rfl⟩ entry_list_sort (zLZ hoL (fun v hv=>?_) (by rw [hlen]; exact hl) (by show A.units+1+1<cLine; omega) fun out a1 a2=>⟨_,rfl,?_⟩) (args_list_sort _)))
 ·obtain ⟨t,ht,rfl⟩:=qC9.mp hv
  exact ⟨t.2,tI t ht⟩
 obtain ⟨ts',p',rfl⟩:=zJ8 _ a1 ts rfl
 obtain ⟨e,he⟩:=sortedHeap_at (out:=(ts'.map fun t=>Value.ref t.1).toArray) hoL
 refine wpAny_pure ⟨_,rfl,h h' h'.objs.size _ tk dr e ts' hk (fun b o g=>?_) (qA9 _) he p' ?_⟩
 ·have lt:b<h'.objs.size:=qB5 g
  rw [sortedHeap_old (qC4 lt) (by rw [size_push']; exact qG6 lt)]
  exact qA3 _ g
 ·rw [qK1] at a2
  refine a2.imp_of_mem fun {x y} hx hy hxy=>?_
  rwa [(tI x (p'.mem_iff.mp hx)).kd,(tI y (p'.mem_iff.mp hy)).kd] at hxy
end
section
variable {X:Cx}
theorem zLO {pins:yD}{σ:St}{H:Hp}{s:Shared}{a:Addr}{ns:yA} (I:Inv X pins σ H s) (h:SqT X.K H a (ns.map V.int)):TupI s.heap (.ref a) ns:=by
 obtain ⟨its,r,p,_⟩:=I.tuple h
 exact ⟨a,its.toArray,rfl,p,by simpa using zEc r⟩
theorem zHC:∀ {ts:List (Addr × yA)}{us:yB},Vals (ts.map fun t=>V.ref t.1) us→us=ts.map fun t=>Value.ref t.1
 | [],us,r=>by rw [qJ5] at r; cases r; rfl
 | t::ts,us,r=>by
  rw [qB9] at r
  cases r with
  | cons h r =>
   rw [zHC r]
   cases h
   rfl
theorem zED:∀ (ts:List (Addr × yA)),Vals (ts.map fun t=>V.ref t.1) (ts.map fun t=>Value.ref t.1)
 | []=>.nil
 | t::ts=>.cons rfl (zED ts)
theorem zIt (hc:X.calm=true):zAW X (.builtin "sorted") (fun vs H Q=>∃ (p:Addr) (ns:yA),vs=[.ref p]∧SqT X.K H p (ns.map V.int)∧ns.length<64∧∀ (l:Addr) (ms:yA),H l=none→ms.Perm ns→ms.Pairwise (·≤·)→Q (.ref l) (upd H l (.lst (ms.map V.int)))):=by
 intro pins s σ H xs us Q I r h
 obtain ⟨p,ns,rfl,hq,hn,q⟩:=h
 obtain ⟨u,rfl,ru⟩:=zCR r
 cases ru
 obtain ⟨its,rv,⟨o,ho,hcl,n,hd⟩,hz⟩:=I.tuple hq
 have hlen:=rv.length
 rw [qA6] at hlen
 refine zHq hn (fun A E R hA hR=>zFl ho hcl hd (.inr rfl) (hR _ s.toks s.drawn its ns (zG2 _ _) (zEc rv) (.refl _)) (by rw [← hlen,sizeLine_eq]; omega)) (I.ok.hd hc) fun h2 l2 h3 tk3 dr e us ms k2 k3 le g3 hi hpm hw=>?_
 have I2:Inv X pins σ H { s with heap:=h2,toks:=tk3,drawn:=dr }:=(I.kept (t':=tk3) fun b o e=>k2 b o e).dr dr
 refine ⟨.ref l2,_,I2.laid (t':=tk3) (o:=.lst (ms.map V.int)) k3 le ?_,rfl,q _ _ (I2.hok.fresh le) hpm hw⟩
 have hl2:ms.length<64:=by rw [hpm.length_eq]; exact hn
 exact ⟨by rw [qA6]; exact qC5 (qH3 hl2) (by decide),us,e,zF5 hi,by simpa [seqObj] using g3⟩
theorem zGY (hc:X.calm=true) (hu:X.A.units+2<cLine):zAW X (.builtin "sorted") (fun vs H Q=>∃ (p:Addr) (ts:List (Addr × yA)),vs=[.ref p]∧SqL X.K H p (ts.map fun t=>V.ref t.1)∧(∀ t∈ts,SqT X.K H t.1 (t.2.map V.int)) ∧
  ∀ (l:Addr) (ts':List (Addr × yA)),H l=none→ts'.Perm ts→LexS ts'→Q (.ref l) (upd H l (.lst (ts'.map fun t=>V.ref t.1)))):=by
 intro pins s σ H xs us Q I r h
 obtain ⟨p,ts,rfl,hq,ht,q⟩:=h
 obtain ⟨u,rfl,ru⟩:=zCR r
 cases ru
 obtain ⟨its,rv,⟨o,n,ho,hcl,hdd,hd⟩,hz⟩:=I.list hq
 have ei:=zHC rv
 subst ei
 rw [qA6] at hz
 refine zG1 hz (fun t h=>zLO I (ht t h)) hu (fun A E R hA hR=>zFl ho hcl hd (.inl rfl) (hR _ s.toks s.drawn (zG2 _ _)) (by rw [qA6]; exact hz)) (I.ok.hd hc) fun h2 l2 h3 tk3 dr e ts' k2 k3 le g3 hp hs=>?_
 have I2:Inv X pins σ H { s with heap:=h2,toks:=tk3,drawn:=dr }:=(I.kept (t':=tk3) fun b o e=>k2 b o e).dr dr
 refine ⟨.ref l2,_,I2.laid (t':=tk3) (o:=.lst (ts'.map fun t=>V.ref t.1)) k3 le ?_,rfl,q _ _ (I2.hok.fresh le) hp hs⟩
 exact ⟨by rw [qA6,hp.length_eq]; exact hz,_,e,zED ts',by simpa [seqObj] using g3⟩
theorem zRu {prog:Program}{w:World}{d:Addr}{es:Array DictEntry}{ep:Nat} (lo:(d == sysModules)=false):W.KdlSrc prog w "dict" d d es.size (fun i v=>∃ e,es[i]?=some e∧v=e.key) (fun h=>Raw h d es ep) where
 type:=fun _ ⟨o,ho,hc,_⟩=>⟨o,ho,hc⟩
 there:=fun _ hm=>⟨hm.lt,hm.lt⟩
 keep:=fun _ _ hm hk=>hm.at fun o e=>hk d (.inl rfl) o e
 notList:=by decide
 notTuple:=by decide
 hint:=fun _ _ _ _ ⟨o,ho,hc,_⟩ hq=>W.kdl_hint_dict ⟨o,ho,hc⟩ hq
 iter:=fun A s hh hm=>⟨_,fun i h=>h.IsKeyIter s.heap.objs.size d i es.size ep∧Raw h d es ep,(fun _ _ hq=>zOU lo hm hq),{
  sub:=fun b hb=>by simp at hb; simp [hb]
  frame:=fun _ _ _ st hk=>⟨st.1.at fun o e=>hk _ (by simp) o e,st.2.at fun o e=>hk d (by simp) o e⟩
  item:=fun i s' Q E hi st hQ=>by
   refine zWK st.1 st.2 (show es[i]?=some es[i] by simp [hi]) fun h' hit hs=>?_
   exact hQ _ h' s'.toks ⟨_,by simp [hi],rfl⟩ ⟨hit,st.2.at fun o e=>hs.extBut d o (qC4 hm.lt) e⟩ fun b o hb e=>hs.extBut b o (fun h=>hb (by simp [h])) e
  done:=fun s' Q E st hQ=>kend hh st.1 st.2 (by simp) fun h' he'=>hQ h' s'.toks fun b o hb e=>he' b o (fun h=>hb (by simp [h])) e
  self:=fun _ _ _ _ st hQ=>wpAny_pyIter_keyiter st.1 hQ },⟨⟨_,qB3 _ rfl,rfl,rfl⟩,hm.at fun o e=>qA3 _ e⟩⟩
theorem zRs {H:Hp}:∀ {nss:List (yA)}{kvs:List (List Key × V)}{xs:List (List Key × Addr × Value)},KT H kvs xs→kvs.map (·.1)=nss.map (·.map Sum.inl)→∃ ts:List (Addr × yA),ts.map (·.2)=nss∧xs.map (fun x=>x.2.1)=ts.map (·.1)∧∀ t∈ts,H t.1=some (.tup (t.2.map V.int)):=by
 intro nss kvs xs r
 induction r generalizing nss with
 | nil =>
  intro e
  cases nss with
  | nil=>exact ⟨[],rfl,rfl,fun t h=>(by cases h)⟩
  | cons _ _=>simp at e
 | @cons p q ps qs hq t ih =>
  intro e
  cases nss with
  | nil=>simp at e
  | cons ns nss =>
   simp only [qB9] at e
   injection e with e1 e2
   obtain ⟨ts,a,b,c⟩:=ih e2
   refine ⟨(q.2.1,ns)::ts,by simp [a],by simp [b],fun t ht=>?_⟩
   rcases qB6.mp ht with rfl | ht
   ·have:=hq.2.1
    rw [e1,qE2] at this
    exact this
   ·exact c t ht
theorem zGZ (hc:X.calm=true) (hu:X.A.units+2<cLine):zAW X (.builtin "sorted") (fun vs H Q=>∃ (p:Addr) (kvs:List (List Key × V)) (nss:List (yA)),vs=[.ref p]∧H p=some (.dT kvs)∧kvs.map (·.1)=nss.map (·.map Sum.inl) ∧
  ∀ (l:Addr) (ts:List (Addr × yA)),H l=none→(∀ t∈ts,H t.1=some (.tup (t.2.map V.int)))→(ts.map (·.2)).Perm nss→LexS ts→Q (.ref l) (upd H l (.lst (ts.map fun t=>V.ref t.1)))):=by
 intro pins s σ H xs us Q I r h
 obtain ⟨p,kvs,nss,rfl,hp,hk,q⟩:=h
 obtain ⟨u,rfl,ru⟩:=zCR r
 cases ru
 obtain ⟨hz,lo,xs,kt,o,es,ep,ho,hx,hd,he,hn⟩:=(show zBA X.prog X.w H s.heap p (.dT kvs) from I.hok p _ hp)
 obtain ⟨ts,t1,t2,t3⟩:=zRs kt hk
 have hl:es.size=ts.length:=by
  have a1:=congrArg qM4 he
  have a2:=congrArg qM4 t2
  simp at a1 a2
  omega
 have hl2:ts.length≤sizeLine:=by
  have a1:=congrArg qM4 t1
  have a2:=congrArg qM4 hk
  simp at a1 a2
  omega
 have raw:Raw s.heap p es ep:=⟨o,ho,hx.1,hd⟩
 refine zG1 hl2 (fun t h=>zLO I (SqT.of (t3 t h))) hu (fun A E R hA hR=>W.kdu_collect (zRu (es:=es) (ep:=ep) lo) hA raw (by omega) fun h' tk acc hk2 hacc=>?_) (I.ok.hd hc) fun h2 l2 h3 tk3 dr e ts' k2 k3 le g3 hp2 hs=>?_
 ·have ea:acc.toList=ts.map fun t=>Value.ref t.1:=by
   apply List.ext_getElem?
   intro j
   have hsz:acc.toList.length=ts.length:=by rw [Array.length_toList,hacc.1,hl]
   by_cases hj:j<ts.length
   ·obtain ⟨v,ev⟩:∃ v,acc.toList[j]?=some v:=⟨_,qA5 (by omega)⟩
    obtain ⟨en,e3,e4⟩:=hacc.2 j v (by rw [← Array.getElem?_toList]; exact ev)
    rw [ev,e4,← Array.getElem?_toList,he,qB7] at *
    obtain ⟨x,e5,e6⟩:=qA1.mp e3
    have e7:=congrArg (·[j]?) t2
    simp only [qB7,e5,qP8] at e7
    obtain ⟨t,e8,e9⟩:=qA1.mp e7.symm
    rw [e8,← e6]
    simp [entryOfKey,e9]
   ·rw [qL9 (by omega),qL9 (by simp; omega)]
  rw [ea]
  exact hR h' tk s.drawn hk2
 ·have I2:Inv X pins σ H { s with heap:=h2,toks:=tk3,drawn:=dr }:=(I.kept (t':=tk3) fun b o e=>k2 b o e).dr dr
  refine ⟨.ref l2,_,I2.laid (t':=tk3) (o:=.lst (ts'.map fun t=>V.ref t.1)) k3 le ?_,rfl,q _ _ (I2.hok.fresh le) (fun t h=>t3 t (hp2.mem_iff.mp h)) (by rw [← t1]; exact hp2.map _) hs⟩
  exact ⟨by rw [qA6,hp2.length_eq]; exact hl2,_,e,zED ts',by simpa [seqObj] using g3⟩
end
open PySem PySem.Spec PyProof.Rows
section
variable {prog:Program}{w:World}{A:Around}{E:yL}{s:Shared}
theorem zGT {R:yB→Shared→Prop}{r:Addr}{a b c:Int}{t u v:Tok}{n:Nat} (hh:A.handled=none) (hr:IsRange s.heap r a b c t u v) (hsmall:Builtin.Range.small a b c=true) (hn:Builtin.Range.rangeSize a b c=n) (hlen:n≤2 ^ 24)
  (h:∀ (h':Heap) (tk:Nat) (acc:yJ),(∀ b o,s.heap.get? b=some o→h'.get? b=some o)→ItemsOf (fun i v=>∃ t,v=.int (a+i*c) t) acc n→R acc.toList { s with heap:=h',toks:=tk }) :
  wpAny (model prog w) A (collect (.ref r)) R E s:=by
 unfold collect
 refine wpAny_bind (wpAny_runValue (codeAny_builtin entry_proto_collect' ?_))
 rw [Around.under_plainId PySem.F.plain_proto_collect _]
 show wpAny _ A.in1 (newList [] >>= fun l=>again (.builtin "list.__iadd__" ⟨[l,.ref r],[]⟩)) _ _ s
 refine wpAny_bind (wpAny_newObj_type ?_)
 refine wpAny_pure ⟨plainId_quiet PySem.F.plain_list_iadd _,codeAny_builtin entry_list_iadd' ?_⟩
 rw [Around.under_plainId PySem.F.plain_list_iadd _]
 have hS₁:(s.heap.push { cls:=.type "list",data:=.seq ([]:yB).toArray }).get? s.heap.objs.size=some { cls:=.type "list",data:=.seq #[] }:=qB3 _ rfl
 show wpAny _ A.in1 (Builtin.List.listExtendWith (.ref s.heap.objs.size) (.ref r) (.ref s.heap.objs.size)) _ _ _
 have key:=wpAny_extend_range (prog:=prog) (w:=w) (A:=A) (s:={ s with heap:=s.heap.push { cls:=.type "list",data:=.seq ([]:yB).toArray } })
  (R:=fun (q:Result) (s':Shared)=>∃ (h':Heap) (tk:Nat) (acc':yJ) (c':Nat),q=.ok (.ret (.ref s.heap.objs.size))∧s'={ s with heap:=h',toks:=tk } ∧
   (∀ b o,s.heap.get? b=some o→h'.get? b=some o)∧h'.get? s.heap.objs.size=some { cls:=.type "list",dict:=none,data:=.seq acc' c',slots:=#[] }∧ItemsOf (fun i v=>∃ t,v=.int (a+i*c) t) acc' n)
  hh (show IsRange (s.heap.push _) r a b c t u v from qA3 _ hr) hsmall hn hlen s.heap.objs.size (.ref s.heap.objs.size) 0 hS₁
  (fun h' tk acc' c' hk hS' hacc=>⟨h',tk,acc',c',rfl,rfl,fun b o e=>hk b o (qC4 (qB5 e)) (qA3 _ e),hS',hacc⟩)
 refine wpAny_mono key (fun fin s' x=>?_) fun e s' x=>?_
 ·cases fin with
  | done f =>
   obtain ⟨h',tk,acc',c',e,rfl,hk,hS',hacc⟩:=x
   cases e
   show wpAny _ A (load s.heap.objs.size >>= _) _ _ _
   refine wpAny_bind (wpAny_load hS' ?_)
   exact wpAny_pure (h h' tk acc' hk hacc)
  | again c₁ =>
   refine ⟨x.1,codeAny_mono x.2 fun q s₂ y=>?_⟩
   obtain ⟨h',tk,acc',c',rfl,rfl,hk,hS',hacc⟩:=y
   show wpAny _ A (load s.heap.objs.size >>= _) _ _ _
   refine wpAny_bind (wpAny_load hS' ?_)
   exact wpAny_pure (h h' tk acc' hk hacc)
 ·obtain ⟨_,_,_,_,e',_⟩:=x
  cases e'
end
theorem zE9 (r:Addr) (a b c:Int) (t u v:Tok) (n:Nat) (hsmall:Builtin.Range.small a b c=true) (hn:Builtin.Range.rangeSize a b c=n) (hlen:n≤1000) :
  Meets (Builtin.«tuple.__new__» ⟨[.type "tuple",.ref r],[]⟩)
   (fun A R s=>A.handled=none∧IsRange s.heap r a b c t u v∧∀ (h':Heap) (tk:Nat) (acc:yJ),(∀ b o',s.heap.get? b=some o'→h'.get? b=some o')→ItemsOf (fun i v=>∃ t,v=.int (a+i*c) t) acc n→R (.ok (.ret (.ref h'.objs.size))) { s with heap:=h'.push { cls:=.type "tuple",data:=.seq acc },toks:=tk }) :=
 .of_wp fun prog w A R s h=>by
  obtain ⟨hp,g,d,tk,os⟩:=s; obtain ⟨hA,ht,h⟩:=h
  have hsub:=sub_tuple_self
  have hinit:=init_tuple_lookup
  have hmh:=madeHere_tuple
  have hT:Shared.TypeIs ⟨hp,g,d,tk,os⟩ (.ref r) "range":=⟨_,ht,rfl⟩
  wp_walk using PySem.AutoSeq1.wpAny_loadPart' ht,wpAny_typeOf hT,zGT (A:=A.in1) (n:=n) (show A.in1.handled=none from hA) ht hsmall hn (qC5 hlen (by decide))
  intro h' tk' acc hk hacc
  show wpAny _ _ (Builtin.Tuple.tupleExact acc.toList.toArray >>= fun v=>ret v) _ _ _
  unfold Builtin.Tuple.tupleExact
  have hz:acc.size≤sizeLine:=by rw [hacc.1]; exact qC5 hlen (by decide)
  refine wpAny_bind (wpAny_newObj_type ?_ (by show acc.toList.toArray.size≤sizeLine; simpa using hz))
  refine wpAny_pure ⟨_,rfl,?_⟩
  have e:acc.toList.toArray=acc:=by simp
  rw [e]
  exact h h' tk' acc hk hacc
section
variable {X:Cx}
theorem zFT (hc:X.calm=true):zAW X (.type "tuple") (fun vs H Q=>∃ p i j,vs=[.ref p]∧H p=some (.rng i j)∧-(2 ^ 62)≤i∧i<2 ^ 62∧-(2 ^ 62)≤j∧j<2 ^ 62∧(j - i).toNat≤1000∧∀ l,H l=none→Q (.ref l) (upd H l (.tup (upV i (j - i).toNat)))):=by
 intro pins s σ H xs us Q I r h
 obtain ⟨p,i,j,rfl,hp,b1,b2,b3,b4,hn,q⟩:=h
 obtain ⟨u,rfl,ru⟩:=zCR r
 cases ru
 obtain ⟨t,u,v,e⟩:=(show zBA X.prog X.w H s.heap p (.rng i j) from I.hok _ _ hp)
 refine callType_new PySem.F.called_tuple (by decide) (PySem.F.typeCall_tuple_1 _) (PySem.F.newCall_tuple_1 _) (fun obj=>PySem.F.args_object_init_2 obj _) PySem.F.entry_tuple_new
  (zE9 p i j 1 t u v (j - i).toNat (small_one b1 b2 b3 b4) (by rw [rangeSize_one]; split <;> omega) hn) ⟨I.ok.hd hc,show IsRange s.heap p i j 1 t u v from e,fun h' tk acc hk hi=>⟨⟨_,qB3 _ rfl,rfl⟩,?_⟩⟩
 have hv:=zLJ hi
 have I1:Inv X pins σ H { s with heap:=h',toks:=tk }:=I.kept (t':=tk) hk
 have I2:Inv X pins σ (upd H h'.objs.size (.tup (upV i (j - i).toNat))) { s with heap:=h'.push { cls:=.type "tuple",data:=.seq acc },toks:=tk }:=by
  refine I1.laid (t':=tk) (fun b o e=>qA3 _ e) (qA9 _) (show zBA X.prog X.w _ _ _ (.tup _) from ⟨?_,acc.toList,hv,?_⟩)
  ·unfold upV
   rw [qA6,qO2]
   exact qC5 hn (by decide)
  ·have:acc.toList.toArray=acc:=by simp
   rw [this]
   exact IsTup.new _ _
 exact ⟨.ref h'.objs.size,_,I2,rfl,q _ (I1.hok.fresh (qA9 _))⟩
end
open PySem PySem.Spec PyProof.Rows
inductive D where
 | non | bl (b:Bool) | int (i:Int) | str (x:Str) | ty (n:String) | tup (xs:List D) | lst (n:Nat) | dct (n:Nat) | rol (xs:List D)
inductive O where
 | lst (xs:List D) | dk (kvs:List (Key × D)) | dt (kvs:List (List Key × D))
noncomputable abbrev zA0:=List O
noncomputable abbrev Env1:=List (Option D)
def SqF (K:W.Frag) (H:Hp) (a:Addr) (xs:List V):Prop:=(∃ o,H a=some (.frz o (.lst xs))) ∨
  ∃ (o:Obj) (its:yJ) (n:Nat),K.lookup a=some o∧o.cls=.type "list"∧o.dict=none∧o.data=.seq its n∧its.size≤sizeLine∧Vals xs its.toList
theorem SqF.sq {K:W.Frag}{H:Hp}{a:Addr}{xs:List V} (h:SqF K H a xs):SqL K H a xs:=by
 rcases h with ⟨o,h⟩ | h
 ·exact .inl (.inr ⟨o,h⟩)
 ·exact .inr h
structure TF (K:W.Frag) (H H':Hp):Prop where
 t:TK K H H'
 f:∀ a xs,SqF K H a xs→SqF K H' a xs
 u:∀ a xs,H a=some (.tup xs)→H' a=some (.tup xs)
theorem TF.refl (K:W.Frag) (H:Hp):TF K H H:=⟨TK.refl K H,fun _ _ h=>h,fun _ _ h=>h⟩
theorem TF.trans {K:W.Frag}{H H1 H2:Hp} (a:TF K H H1) (b:TF K H1 H2):TF K H H2:=⟨a.t.trans b.t,fun p xs h=>b.f p xs (a.f p xs h),fun p xs h=>b.u p xs (a.u p xs h)⟩
theorem zVD {K:W.Frag}{H H':Hp}{p:Addr} (h:∀ q o,q≠p→H q=some o→H' q=some o) (nt:∀ xs,H p≠some (.tup xs)) (nf:∀ x y,H p≠some (.frz x y)):TF K H H':=by
 refine ⟨fun q ys e=>?_,fun q ys e=>?_,fun q ys e=>h _ _ (fun z=>nt _ (z▸e)) e⟩
 ·rcases e with (e | ⟨w,e⟩) | e
  ·exact .inl (.inl (h _ _ (fun z=>nt _ (z▸e)) e))
  ·exact .inl (.inr ⟨w,h _ _ (fun z=>nf _ _ (z▸e)) e⟩)
  ·exact .inr e
 ·rcases e with ⟨w,e⟩ | e
  ·exact .inl ⟨w,h _ _ (fun z=>nf _ _ (z▸e)) e⟩
  ·exact .inr e
theorem zFZ {K:W.Frag}{H:Hp}{p:Addr}{u o:HO} (e:H p=some u) (nt:∀ xs,u≠.tup xs) (nf:∀ x y,u≠.frz x y):TF K H (upd H p o) :=
 zVD (p:=p) (fun q v hq h=>by rw [zAb hq]; exact h) (fun xs h=>by rw [e] at h; exact nt xs (Option.some.inj h)) (fun x y h=>by rw [e] at h; exact nf x y (Option.some.inj h))
theorem zK6 {K:W.Frag}{H:Hp}{p:Addr}{xs:List V}{o:HO} (e:H p=some (.lst xs)):TF K H (upd H p o):=zFZ e (fun _ z=>by cases z) (fun _ _ z=>by cases z)
theorem zLS {K:W.Frag}{H H':Hp} (h:Same H H'):TF K H H':=⟨fun p xs e=>h.tup e,fun q ys e=>by
 rcases e with ⟨w,e⟩ | e
 ·exact .inl ⟨w,h _ _ e⟩
 ·exact .inr e,fun _ _ e=>h _ _ e⟩
mutual
def RV (K:W.Frag) (H:Hp) (μ:yC):D→V→Prop
 | .non,v=>v=.non
 | .bl b,v=>v=.bl b
 | .int i,v=>v=.int i
 | .str x,v=>v=.str x
 | .ty n,v=>v=.ty n
 | .tup xs,v=>∃ p vs,v=.ref p∧H p=some (.tup vs)∧RVs K H μ xs vs
 | .lst n,v=>∃ a,v=.ref a∧μ[n]?=some a
 | .dct n,v=>∃ a,v=.ref a∧μ[n]?=some a
 | .rol xs,v=>∃ p vs,v=.ref p∧SqF K H p vs∧RVs K H μ xs vs
def RVs (K:W.Frag) (H:Hp) (μ:yC):List D→List V→Prop
 | [],vs=>vs=[]
 | d::ds,vs=>∃ v ws,vs=v::ws∧RV K H μ d v∧RVs K H μ ds ws
end
def RKs {κ:Type} (K:W.Frag) (H:Hp) (μ:yC) (kvs:List (κ × D)) (ws:List (κ × V)):Prop:=kvs.map (·.1)=ws.map (·.1)∧RVs K H μ (kvs.map (·.2)) (ws.map (·.2))
def OR (K:W.Frag) (H:Hp) (μ:yC) (a:Addr):O→Prop
 | .lst xs=>∃ vs,H a=some (.lst vs)∧RVs K H μ xs vs
 | .dk kvs=>∃ ws,H a=some (.dK ws)∧RKs K H μ kvs ws
 | .dt kvs=>∃ ws,H a=some (.dT ws)∧RKs K H μ kvs ws
structure SR (K:W.Frag) (μ:yC) (S:zA0) (H:Hp):Prop where
 len:μ.length=S.length
 nd:μ.Nodup
 obj:∀ (n:Nat) (a:Addr) (o:O),μ[n]?=some a→S[n]?=some o→OR K H μ a o
structure Step (K:W.Frag) (μ μ':yC) (H H':Hp):Prop where
 pre:∃ ν,μ'=μ++ν∧∀ b∈ν,H b=none
 fr:∀ b o,b∉μ→H b=some o→H' b=some o
 tk:TF K H H'
section
variable {K:W.Frag}{H H' H1 H2:Hp}{μ μ' μ1 μ2:yC}{S S':zA0}
mutual
theorem RV.up (tk:TF K H H') (pre:∃ ν,μ'=μ++ν):∀ (d:D) (v:V),RV K H μ d v→RV K H' μ' d v
 | .non,v,h=>by simpa [RV] using h
 | .bl b,v,h=>by simpa [RV] using h
 | .int i,v,h=>by simpa [RV] using h
 | .str x,v,h=>by simpa [RV] using h
 | .ty n,v,h=>by simpa [RV] using h
 | .tup xs,v,h=>by
  unfold RV at h ⊢
  obtain ⟨p,vs,e,q,r⟩:=h
  exact ⟨p,vs,e,tk.u p vs q,RVs.up tk pre xs vs r⟩
 | .lst n,v,h=>by
  unfold RV at h ⊢
  obtain ⟨a,e,q⟩:=h
  obtain ⟨ν,rfl⟩:=pre
  exact ⟨a,e,by rw [qA7 (qA4.mp q).1]; exact q⟩
 | .dct n,v,h=>by
  unfold RV at h ⊢
  obtain ⟨a,e,q⟩:=h
  obtain ⟨ν,rfl⟩:=pre
  exact ⟨a,e,by rw [qA7 (qA4.mp q).1]; exact q⟩
 | .rol xs,v,h=>by
  unfold RV at h ⊢
  obtain ⟨p,vs,e,q,r⟩:=h
  exact ⟨p,vs,e,tk.f p vs q,RVs.up tk pre xs vs r⟩
theorem RVs.up (tk:TF K H H') (pre:∃ ν,μ'=μ++ν):∀ (ds:List D) (vs:List V),RVs K H μ ds vs→RVs K H' μ' ds vs
 | [],vs,h=>by simpa [RVs] using h
 | d::ds,vs,h=>by
  unfold RVs at h ⊢
  obtain ⟨v,ws,e,r,q⟩:=h
  exact ⟨v,ws,e,RV.up tk pre d v r,RVs.up tk pre ds ws q⟩
end
theorem RVs.len:∀ {ds:List D}{vs:List V},RVs K H μ ds vs→ds.length=vs.length
 | [],vs,h=>by unfold RVs at h; subst h; rfl
 | d::ds,vs,h=>by
  unfold RVs at h
  obtain ⟨v,ws,rfl,_,q⟩:=h
  rw [qC3,qC3,RVs.len q]
theorem RVs.nil:RVs K H μ [] []:=by unfold RVs; rfl
theorem RVs.cons {d:D}{v:V}{ds:List D}{vs:List V} (h:RV K H μ d v) (t:RVs K H μ ds vs):RVs K H μ (d::ds) (v::vs):=by
 unfold RVs; exact ⟨v,vs,rfl,h,t⟩
theorem RVs.get:∀ {ds:List D}{vs:List V}{i:Nat}{d:D},RVs K H μ ds vs→ds[i]?=some d→∃ v,vs[i]?=some v∧RV K H μ d v
 | [],vs,i,d,h,e=>by simp at e
 | x::ds,vs,0,d,h,e=>by
  unfold RVs at h
  obtain ⟨v,ws,rfl,r,q⟩:=h
  simp at e; subst e
  exact ⟨v,rfl,r⟩
 | x::ds,vs,i+1,d,h,e=>by
  unfold RVs at h
  obtain ⟨v,ws,rfl,r,q⟩:=h
  obtain ⟨u,e1,e2⟩:=RVs.get (i:=i) (d:=d) q (by simpa using e)
  exact ⟨u,by simpa using e1,e2⟩
theorem RVs.append:∀ {ds es:List D}{vs us:List V},RVs K H μ ds vs→RVs K H μ es us→RVs K H μ (ds++es) (vs++us)
 | [],es,vs,us,h,g=>by unfold RVs at h; subst h; exact g
 | d::ds,es,vs,us,h,g=>by
  unfold RVs at h
  obtain ⟨v,ws,rfl,r,q⟩:=h
  exact .cons r (RVs.append q g)
theorem RVs.take:∀ {ds:List D}{vs:List V} (n:Nat),RVs K H μ ds vs→RVs K H μ (ds.take n) (vs.take n)
 | _,_,0,_=>by simp; exact .nil
 | [],vs,n+1,h=>by unfold RVs at h; subst h; exact .nil
 | d::ds,vs,n+1,h=>by
  unfold RVs at h
  obtain ⟨v,ws,rfl,r,q⟩:=h
  exact .cons r (RVs.take n q)
theorem RVs.drop:∀ {ds:List D}{vs:List V} (n:Nat),RVs K H μ ds vs→RVs K H μ (ds.drop n) (vs.drop n)
 | _,_,0,h=>by simpa using h
 | [],vs,n+1,h=>by unfold RVs at h; subst h; exact .nil
 | d::ds,vs,n+1,h=>by
  unfold RVs at h
  obtain ⟨v,ws,rfl,r,q⟩:=h
  exact RVs.drop n q
theorem RVs.set {d:D}{v:V} (g:RV K H μ d v):∀ {ds:List D}{vs:List V} (n:Nat),RVs K H μ ds vs→RVs K H μ (ds.set n d) (vs.set n v)
 | [],vs,n,h=>by unfold RVs at h; subst h; exact .nil
 | x::ds,vs,0,h=>by
  unfold RVs at h
  obtain ⟨u,ws,rfl,r,q⟩:=h
  exact .cons g q
 | x::ds,vs,n+1,h=>by
  unfold RVs at h
  obtain ⟨u,ws,rfl,r,q⟩:=h
  exact .cons r (RVs.set g n q)
theorem RVs.ints {ns:yA}:RVs K H μ (ns.map D.int) (ns.map V.int):=by
 induction ns with
 | nil=>exact .nil
 | cons a r ih=>exact .cons (by unfold RV; rfl) ih
theorem RKs.up {κ:Type} (tk:TF K H H') (pre:∃ ν,μ'=μ++ν) {kvs:List (κ × D)}{ws:List (κ × V)} (h:RKs K H μ kvs ws):RKs K H' μ' kvs ws:=⟨h.1,RVs.up tk pre _ _ h.2⟩
theorem SR.isS (sr:SR K μ S H) {a:Addr} (h:a∈μ):∃ o,H a=some o:=by
 obtain ⟨n,hn⟩:=qM7 h
 have hl:n<S.length:=by rw [← sr.len]; exact (qA4.mp hn).1
 have q:=sr.obj n a S[n] hn (qA5 hl)
 revert q
 generalize S[n]=o
 intro q
 cases o with
 | lst xs=>obtain ⟨vs,e,_⟩:=q; exact ⟨_,e⟩
 | dk kvs=>obtain ⟨vs,e,_⟩:=q; exact ⟨_,e⟩
 | dt kvs=>obtain ⟨vs,e,_⟩:=q; exact ⟨_,e⟩
theorem SR.out (sr:SR K μ S H) {a:Addr} (h:H a=none):a∉μ:=fun m=>by
 obtain ⟨o,e⟩:=sr.isS m
 rw [h] at e
 cases e
theorem Step.refl (K:W.Frag) (μ:yC) (H:Hp):Step K μ μ H H:=⟨⟨[],by simp,by simp⟩,fun _ _ _ h=>h,TF.refl K H⟩
theorem Step.mem (st:Step K μ μ' H H') {a:Addr} (h:a∈μ):a∈μ':=by
 obtain ⟨ν,rfl,_⟩:=st.pre
 exact qF2 _ h
theorem Step.ext (st:Step K μ μ' H H'):∃ ν,μ'=μ++ν:=let ⟨ν,e,_⟩:=st.pre; ⟨ν,e⟩
theorem Step.trans (a:Step K μ μ1 H H1) (b:Step K μ1 μ2 H1 H2) (nd:μ2.Nodup):Step K μ μ2 H H2:=by
 obtain ⟨ν,e,n1⟩:=a.pre
 obtain ⟨ν',e',n2⟩:=b.pre
 have nd':(μ++ν++ν').Nodup:=by rw [← e,← e']; exact nd
 refine ⟨⟨ν++ν',by rw [e',e,qB8],fun c hc=>?_⟩,fun c o hc h=>?_,a.tk.trans b.tk⟩
 ·rcases qB4.mp hc with h | h
  ·exact n1 c h
  ·have hn:=n2 c h
   cases q:H c with
   | none=>rfl
   | some o =>
    have:c∉μ:=fun hm=>by
     have:=(qG7.mp nd').2.2 c (qF2 _ hm) c h
     exact this rfl
    rw [a.fr c o this q] at hn
    cases hn
 ·refine b.fr c o (fun hm=>?_) (a.fr c o hc h)
  rw [e] at hm
  rcases qB4.mp hm with h' | h'
  ·exact hc h'
  ·rw [n1 c h'] at h; cases h
theorem OR.up (tk:TF K H H') (pre:∃ ν,μ'=μ++ν) {a:Addr} (e:H' a=H a):∀ {o:O},OR K H μ a o→OR K H' μ' a o
 | .lst xs,⟨vs,h,r⟩=>⟨vs,by rw [e]; exact h,RVs.up tk pre _ _ r⟩
 | .dk kvs,⟨ws,h,r⟩=>⟨ws,by rw [e]; exact h,r.up tk pre⟩
 | .dt kvs,⟨ws,h,r⟩=>⟨ws,by rw [e]; exact h,r.up tk pre⟩
theorem zHo {p:Addr}{o:HO} (h:H p=none):TF K H (upd H p o):=zLS (zGn h o)
theorem SR.other (sr:SR K μ S H) {p:Addr}{o:HO} (h:H p=none):SR K μ S (upd H p o)∧Step K μ μ H (upd H p o):=by
 have hp:=sr.out h
 refine ⟨⟨sr.len,sr.nd,fun n a o' e1 e2=>?_⟩,⟨⟨[],by simp,by simp⟩,fun b u hb e=>?_,zHo h⟩⟩
 ·have hm:a∈μ:=qC0 e1
  have ne:a≠p:=fun z=>hp (z▸hm)
  exact (sr.obj n a o' e1 e2).up (zHo h) ⟨[],by simp⟩ (zAb ne)
 ·rw [zAb (zAx e h)]; exact e
theorem SR.push (sr:SR K μ S H) {p:Addr}{o:HO}{o':O} (h:H p=none) (ho:OR K (upd H p o) (μ++[p]) p o'):SR K (μ++[p]) (S++[o']) (upd H p o)∧Step K μ (μ++[p]) H (upd H p o):=by
 have hp:=sr.out h
 refine ⟨⟨by simp [sr.len],?_,fun n a u e1 e2=>?_⟩,⟨⟨[p],rfl,fun b hb=>?_⟩,fun b u hb e=>?_,zHo h⟩⟩
 ·rw [qG7]
  refine ⟨sr.nd,by simp,fun a ha b hb=>?_⟩
  simp at hb; subst hb
  exact fun z=>hp (z▸ha)
 ·by_cases hn:n<μ.length
  ·rw [qA7 hn] at e1
   rw [qA7 (by rw [← sr.len]; exact hn)] at e2
   have hm:a∈μ:=qC0 e1
   have ne:a≠p:=fun z=>hp (z▸hm)
   exact (sr.obj n a u e1 e2).up (zHo h) ⟨[p],rfl⟩ (zAb ne)
  ·rw [qA0 (by omega)] at e1
   rw [qA0 (by rw [← sr.len]; omega)] at e2
   have h1:n - μ.length=0:=by
    have:=(qA4.mp e1).1
    simp at this; omega
   rw [h1] at e1
   rw [← sr.len,h1] at e2
   simp at e1 e2
   subst e1 e2
   exact ho
 ·simp at hb; subst hb; exact h
 ·rw [zAb (zAx e h)]; exact e
theorem SR.put (sr:SR K μ S H) {n:Nat}{p:Addr}{o u:HO}{o':O} (hn:μ[n]?=some p) (hp:H p=some u) (nt:∀ xs,u≠.tup xs) (nf:∀ x y,u≠.frz x y) (ho:OR K (upd H p o) μ p o'):SR K μ (S.set n o') (upd H p o)∧Step K μ μ H (upd H p o):=by
 have tk:TF K H (upd H p o):=zFZ hp nt nf
 have hmem:p∈μ:=qC0 hn
 refine ⟨⟨by simp [sr.len],sr.nd,fun m a w e1 e2=>?_⟩,⟨⟨[],by simp,by simp⟩,fun b w hb e=>?_,tk⟩⟩
 ·by_cases hm:m=n
  ·subst hm
   rw [hn] at e1; cases e1
   have hl:m<S.length:=by rw [← sr.len]; exact (qA4.mp hn).1
   rw [qD9 hl] at e2
   cases e2
   exact ho
  ·rw [qE1 (fun z=>hm z.symm)] at e2
   have ne:a≠p:=fun z=>by
    subst z
    exact hm ((List.getElem?_inj (qA4.mp e1).1 sr.nd).mp (e1.trans hn.symm))
   exact (sr.obj m a w e1 e2).up tk ⟨[],by simp⟩ (zAb ne)
 ·have ne:b≠p:=fun z=>hb (z▸hmem)
  rw [zAb ne]; exact e
end
open PySem PySem.Spec PyProof.Rows
inductive R (α:Type) where
 | bad | ok (a:α) (S:zA0) | er (c:Str) (S:zA0)
noncomputable abbrev M (α:Type):=zA0→R α
noncomputable def bnd {α β:Type} (m:M α) (f:α→M β):M β:=fun S=>match m S with
 | .bad=>.bad
 | .er c S'=>.er c S'
 | .ok a S'=>f a S'
noncomputable def ret {α:Type} (a:α):M α:=fun S=>.ok a S
noncomputable def bad {α:Type}:M α:=fun _=>.bad
inductive zXk {α β:Type} (m:M α) (f:α→M β) (S:zA0) (b:β) (S2:zA0):Prop
 | mk (a:α) (S1:zA0) (e:m S=.ok a S1) (g:f a S1=.ok b S2)
theorem zA7 {α β:Type}{m:M α}{f:α→M β}{S S2:zA0}{b:β} (h:bnd m f S=.ok b S2):zXk m f S b S2:=by
 unfold bnd at h
 cases e:m S with
 | bad=>rw [e] at h; cases h
 | er c S'=>rw [e] at h; cases h
 | ok a S'=>rw [e] at h; exact ⟨a,S',e,h⟩
theorem zAm {α:Type}{a b:α}{S S':zA0} (h:ret a S=.ok b S'):b=a∧S'=S:=by
 unfold ret at h; cases h; exact ⟨rfl,rfl⟩
noncomputable abbrev C:=Env1→M D
noncomputable abbrev CT:=Env1→M Bool
noncomputable abbrev CA:=Env1→M (List D)
def RE (K:W.Frag) (H:Hp) (μ:yC) (ρ:Env1) (σ:St):Prop:=ρ.length=σ.length∧∀ (i:Nat) (d:D),ρ[i]?=some (some d)→∃ v,σ[i]?=some (some v)∧RV K H μ d v
section
variable {K:W.Frag}{H H':Hp}{μ μ':yC}{ρ:Env1}{σ:St}
theorem RE.up (h:RE K H μ ρ σ) (st:Step K μ μ' H H'):RE K H' μ' ρ σ:=⟨h.1,fun i d e=>let ⟨v,q,r⟩:=h.2 i d e; ⟨v,q,RV.up st.tk st.ext d v r⟩⟩
theorem RE.set (h:RE K H μ ρ σ) {d:D}{v:V} (r:RV K H μ d v) (i:Nat):RE K H μ (ρ.set i (some d)) (σ.set i (some v)):=by
 refine ⟨by simp [h.1],fun j d' e=>?_⟩
 by_cases hj:i=j
 ·subst hj
  have hl:i<ρ.length:=by
   have:=(qA4.mp e).1
   simpa using this
  rw [qD9 hl] at e
  cases e
  exact ⟨v,by rw [qD9 (by rw [← h.1]; exact hl)],r⟩
 ·rw [qE1 hj] at e ⊢
  exact h.2 j d' e
end
def Yld (K:W.Frag) (μ:yC) (H:Hp) (d:D) (S':zA0) (Q:VK):Prop:=∀ v H' μ',SR K μ' S' H'→Step K μ μ' H H'→RV K H' μ' d v→Q v H'
def YldA (K:W.Frag) (μ:yC) (H:Hp) (ds:List D) (S':zA0) (Q:List V→Hp→Prop):Prop:=∀ vs H' μ',SR K μ' S' H'→Step K μ μ' H H'→RVs K H' μ' ds vs→Q vs H'
def YldT (K:W.Frag) (μ:yC) (H:Hp) (b:Bool) (S':zA0) (Q:Bool→Hp→Prop):Prop:=∀ H' μ',SR K μ' S' H'→Step K μ μ' H H'→Q b H'
inductive tOf (K:W.Frag) (c:C) (σ:St) (H:Hp) (Q:VK):Prop
 | mk (μ:yC) (ρ:Env1) (S:zA0) (d:D) (S':zA0) (sr:SR K μ S H) (re:RE K H μ ρ σ) (e:c ρ S=.ok d S') (y:Yld K μ H d S' Q)
inductive tOfA (K:W.Frag) (c:CA) (σ:St) (H:Hp) (Q:List V→Hp→Prop):Prop
 | mk (μ:yC) (ρ:Env1) (S:zA0) (d:List D) (S':zA0) (sr:SR K μ S H) (re:RE K H μ ρ σ) (e:c ρ S=.ok d S') (y:YldA K μ H d S' Q)
inductive tOfT (K:W.Frag) (c:CT) (σ:St) (H:Hp) (Q:Bool→Hp→Prop):Prop
 | mk (μ:yC) (ρ:Env1) (S:zA0) (d:Bool) (S':zA0) (sr:SR K μ S H) (re:RE K H μ ρ σ) (e:c ρ S=.ok d S') (y:YldT K μ H d S' Q)
theorem Yld.self {K:W.Frag}{μ:yC}{H:Hp}{d:D}{S:zA0}{Q:VK} (h:Yld K μ H d S Q) (sr:SR K μ S H) {v:V} (r:RV K H μ d v):Q v H:=h v H μ sr (Step.refl K μ H) r
theorem Yld.shift {K:W.Frag}{μ μ1:yC}{H H1:Hp}{d:D}{S:zA0}{Q:VK} (h:Yld K μ H d S Q) (st:Step K μ μ1 H H1):Yld K μ1 H1 d S Q:=fun v H' μ' sr s2 r=>h v H' μ' sr (st.trans s2 sr.nd) r
theorem YldT.shift {K:W.Frag}{μ μ1:yC}{H H1:Hp}{d:Bool}{S:zA0}{Q:Bool→Hp→Prop} (h:YldT K μ H d S Q) (st:Step K μ μ1 H H1):YldT K μ1 H1 d S Q:=fun H' μ' sr s2=>h H' μ' sr (st.trans s2 sr.nd)
theorem PE.weak {X:Cx}{e:Expr}{t t':TE} (h:PE X e t) (w:∀ σ H Q,t' σ H Q→t σ H Q):PE X e t':=fun pins s σ H Q I q=>h pins s σ H Q I (w σ H Q q)
theorem PT.weak {X:Cx}{e:Expr}{t t':TT} (h:PT X e t) (w:∀ σ H Q,t' σ H Q→t σ H Q):PT X e t':=fun pins s σ H Q I q=>h pins s σ H Q I (w σ H Q q)
theorem PW.weak {X:Cx}{e:Expr}{t t':TT} (h:PW X e t) (w:∀ σ H Q,t' σ H Q→t σ H Q):PW X e t':=fun wh pins s σ H Q I q=>h wh pins s σ H Q I (w σ H Q q)
theorem PA.weak {X:Cx}{e:yE}{t t':TA} (h:PA X e t) (w:∀ σ H Q,t' σ H Q→t σ H Q):PA X e t':=fun pos pins s σ H Q I q=>h pos pins s σ H Q I (w σ H Q q)
theorem PS.weak {X:Cx}{e:Stmt}{t t':TS} (h:PS X e t) (w:∀ D σ H,t' D σ H→t D σ H):PS X e t':=fun pins s σ H D I q=>h pins s σ H D I (w D σ H q)
theorem PSs.weak {X:Cx}{e:List Stmt}{t t':TS} (h:PSs X e t) (w:∀ D σ H,t' D σ H→t D σ H):PSs X e t':=fun pins s σ H D I q=>h pins s σ H D I (w D σ H q)
def rAny (X:Cx) (f:Value→Value→Sem Value):R2:=fun v u H Q=>∃ r,OpR X f r∧r v u H Q
theorem zJb {X:Cx}{f:Value→Value→Sem Value}:OpR X f (rAny X f):=fun pins s σ H x y v u Q I rx ry ⟨r,ho,q⟩=>ho pins s σ H x y v u Q I rx ry q
def uAny (X:Cx) (f:Value→Sem Value):V→Hp→VK→Prop:=fun v H Q=>∃ r,UnR X f r∧r v H Q
theorem zVC {X:Cx}{f:Value→Sem Value}:UnR X f (uAny X f):=fun pins s σ H x v Q I rx ⟨r,ho,q⟩=>ho pins s σ H x v Q I rx q
def cAny (X:Cx) (f:Value):List V→Hp→VK→Prop:=fun vs H Q=>∃ r,zAW X f r∧r vs H Q
theorem zEg {X:Cx}{f:Value}:zAW X f (cAny X f):=fun pins s σ H x v Q I rx ⟨r,ho,q⟩=>ho pins s σ H x v Q I rx q
def zMO (X:Cx):R2:=fun v u H Q=>∃ r,IxR X r∧r v u H Q
theorem zWQ {X:Cx}:IxR X (zMO X):=fun va sl pins s σ H x y v u Q I rx ry ⟨r,ho,q⟩ hs=>ho va sl pins s σ H x y v u Q I rx ry q hs
def zM0 (X:Cx):V→yG→yG→Hp→VK→Prop:=fun v lo hi H Q=>∃ r,SlR X r∧r v lo hi H Q
theorem zVP {X:Cx}:SlR X (zM0 X):=fun pins s σ H x v vl vu lo hi sl Q I rx a b c ⟨r,ho,q⟩=>ho pins s σ H x v vl vu lo hi sl Q I rx a b c q
def zEm (X:Cx) (id:String):V→List V→Hp→VK→Prop:=fun v vs H Q=>∃ r,MtR X id r∧r v vs H Q
theorem zTG {X:Cx}{id:String}:MtR X id (zEm X id):=fun pins s σ H x xs v us Q I rx rs ⟨r,ho,q⟩=>ho pins s σ H x xs v us Q I rx rs q
noncomputable def zM4 (X:Cx):TSet:=fun o i v H Q=>∃ r,PSet X r∧r o i v H Q
theorem zSE {X:Cx}:PSet X (zM4 X):=fun pins s σ H o i v ov iv u Q I r1 r2 r3 ⟨r,ho,q⟩=>ho pins s σ H o i v ov iv u Q I r1 r2 r3 q
noncomputable def cVar (i:Nat):C:=fun ρ S=>match ρ[i]? with
 | some (some d)=>.ok d S
 | _=>.bad
noncomputable def cCon (d:D):C:=fun _ S=>.ok d S
noncomputable def cBin (o:D→D→M D) (a b:C):C:=fun ρ=>bnd (a ρ) fun x=>bnd (b ρ) fun y=>o x y
noncomputable def cUn (o:D→M D) (a:C):C:=fun ρ=>bnd (a ρ) o
noncomputable def zA1:List C→CA
 | []=>fun _=>ret []
 | c::cs=>fun ρ=>bnd (c ρ) fun x=>bnd (zA1 cs ρ) fun xs=>ret (x::xs)
noncomputable def cApp (o:List D→M D) (a:CA):C:=fun ρ=>bnd (a ρ) o
noncomputable def cTup (a:CA):C:=cApp (fun xs=>ret (.tup xs)) a
noncomputable def cLst (a:CA):C:=cApp (fun xs S=>.ok (.lst S.length) (S++[.lst xs])) a
noncomputable def cIf (t:CT) (a b:C):C:=fun ρ=>bnd (t ρ) fun k=>if k then a ρ else b ρ
noncomputable def zAl (a:C):CT:=fun ρ=>bnd (a ρ) fun x=>match x with
 | .bl b=>ret b
 | _=>bad
noncomputable def zJO (a b:C):C:=fun ρ=>bnd (zAl a ρ) fun k=>if k then b ρ else ret (.bl false)
noncomputable def cOrV (a b:C):C:=fun ρ=>bnd (zAl a ρ) fun k=>if k then ret (.bl true) else b ρ
noncomputable def zLr (a:C):C:=fun ρ=>bnd (zAl a ρ) fun k=>ret (.bl (!k))
noncomputable def zH2 (a b:CT):CT:=fun ρ=>bnd (a ρ) fun k=>if k then b ρ else ret false
noncomputable def cOrT (a b:CT):CT:=fun ρ=>bnd (a ρ) fun k=>if k then ret true else b ρ
noncomputable def zCI (a:CT):CT:=fun ρ=>bnd (a ρ) fun k=>ret (!k)
noncomputable def dB (x:D):M Bool:=match x with
 | .bl b=>ret b
 | _=>bad
noncomputable def zFq (o o':D→D→M D) (a b c:C):C:=fun ρ=>bnd (a ρ) fun x=>bnd (b ρ) fun y=>bnd (o x y) fun z=>bnd (dB z) fun k=>if k then bnd (c ρ) fun w=>o' y w else ret (.bl false)
section
variable {X:Cx}{a b c d:Expr}{ca cb cc cd:C}{pos:Pos}
theorem zSF {i:Nat}{x:Str} (h:PE X (.Name x pos) (tVar i)):PE X (.Name x pos) (tOf X.K (cVar i)):=h.weak fun σ H Q ⟨μ,ρ,S,d,S',sr,re,e,y⟩=>by
 unfold cVar at e
 split at e
 ·rename_i d' hd
  cases e
  obtain ⟨v,q,r⟩:=re.2 i _ hd
  exact ⟨v,q,y.self sr r⟩
 ·cases e
theorem zHy {e:Expr}{v:V}{d:D} (h:PE X e (tC v)) (hd:∀ K H μ,RV K H μ d v):PE X e (tOf X.K (cCon d)):=h.weak fun σ H Q ⟨μ,ρ,S,d',S',sr,re,e,y⟩=>by
 unfold cCon at e
 cases e
 exact y.self sr (hd _ _ _)
def OpS (K:W.Frag) (r:R2) (o:D→D→M D):Prop:=∀ x y S d S' H μ v u Q,o x y S=.ok d S'→SR K μ S H→RV K H μ x v→RV K H μ y u→Yld K μ H d S' Q→r v u H Q
theorem zKe {r:R2}{o:D→D→M D} (ho:OpS X.K r o):∀ σ H Q,tOf X.K (cBin o ca cb) σ H Q→tOp r (tOf X.K ca) (tOf X.K cb) σ H Q:=by
 rintro σ H Q ⟨μ,ρ,S,d,S',sr,re,e,y⟩
 obtain ⟨x,S1,e1,e⟩:=zA7 e
 obtain ⟨z,S2,e2,e⟩:=zA7 e
 refine ⟨μ,ρ,S,x,S1,sr,re,e1,fun v H1 μ1 sr1 st1 r1=>⟨μ1,ρ,S1,z,S2,sr1,re.up st1,e2,fun u H2 μ2 sr2 st2 r2=>?_⟩⟩
 exact ho x z S2 d S' H2 μ2 v u Q e sr2 (RV.up st2.tk st2.ext _ _ r1) r2 (y.shift (st1.trans st2 sr2.nd))
theorem zSL {op:Operator}{o:D→D→M D} (ho:OpS X.K (rAny X (binaryOp op)) o) (ha:PE X a (tOf X.K ca)) (hb:PE X b (tOf X.K cb)):PE X (.BinOp a op b pos) (tOf X.K (cBin o ca cb)):=(zW8 zJb ha hb).weak (zKe ho)
theorem zSK {op:CmpOp}{o:D→D→M D} (ho:OpS X.K (rAny X (compareOp op)) o) (ha:PE X a (tOf X.K ca)) (hb:PE X b (tOf X.K cb)) (hm:behindInMarks op b=false):PE X (.Compare a [op] [b] pos) (tOf X.K (cBin o ca cb)):=(zQY zJb ha hb hm).weak (zKe ho)
theorem zMp {t:TE}{c:C} (h:∀ σ H Q,tOf X.K c σ H Q→t σ H Q):∀ σ H Q,tOfT X.K (zAl c) σ H Q→zQf t σ H Q:=by
 rintro σ H Q ⟨μ,ρ,S,d,S',sr,re,e,y⟩
 obtain ⟨x,S1,e1,e⟩:=zA7 e
 refine h σ H _ ⟨μ,ρ,S,x,S1,sr,re,e1,fun v H1 μ1 sr1 st1 r1=>?_⟩
 cases x with
 | bl k =>
  obtain ⟨rfl,rfl⟩:=zAm e
  unfold RV at r1
  exact ⟨_,r1,y H1 μ1 sr1 st1⟩
 | _=>cases e
theorem zSr {op:CmpOp}{o:D→D→M D} (ho:OpS X.K (rAny X (compareOp op)) o) (ha:PE X a (tOf X.K ca)) (hb:PE X b (tOf X.K cb)) (hm:behindInMarks op b=false):PT X (.Compare a [op] [b] pos) (tOfT X.K (zAl (cBin o ca cb))):=(zQL zJb ha hb hm).weak (zMp (zKe ho))
theorem zKd {r r':R2}{o o':D→D→M D} (ho:OpS X.K r o) (ho':OpS X.K r' o'):∀ σ H Q,tOf X.K (zFq o o' ca cb cc) σ H Q→zLW r r' (tOf X.K ca) (tOf X.K cb) (tOf X.K cc) σ H Q:=by
 rintro σ H Q ⟨μ,ρ,S,d,S',sr,re,e,y⟩
 obtain ⟨x,S1,e1,f1⟩:=zA7 e
 obtain ⟨z,S2,e2,f2⟩:=zA7 f1
 obtain ⟨t,S3,e3,f3⟩:=zA7 f2
 obtain ⟨k,S4,e4,f4⟩:=zA7 f3
 refine ⟨μ,ρ,S,x,S1,sr,re,e1,fun v H1 μ1 sr1 st1 r1=>⟨μ1,ρ,S1,z,S2,sr1,re.up st1,e2,fun u H2 μ2 sr2 st2 r2=>?_⟩⟩
 have st12:=st1.trans st2 sr2.nd
 refine ho x z S2 t S3 H2 μ2 v u _ e3 sr2 (RV.up st2.tk st2.ext _ _ r1) r2 fun v3 H3 μ3 sr3 st3 r3=>?_
 have st13:=st12.trans st3 sr3.nd
 cases t with
 | bl k' =>
  obtain ⟨rfl,rfl⟩:=zAm e4
  unfold RV at r3
  refine ⟨_,r3,?_⟩
  cases k with
  | true =>
   rw [if_pos rfl] at f4 ⊢
   obtain ⟨w,S5,e5,f5⟩:=zA7 f4
   refine ⟨μ3,ρ,_,w,S5,sr3,re.up st13,e5,fun v5 H5 μ5 sr5 st5 r5=>?_⟩
   exact ho' z w S5 d S' H5 μ5 u v5 Q f5 sr5 (RV.up st5.tk st5.ext _ _ (RV.up st3.tk st3.ext _ _ r2)) r5 (y.shift (st13.trans st5 sr5.nd))
  | false =>
   rw [if_neg qB2] at f4 ⊢
   obtain ⟨rfl,rfl⟩:=zAm f4
   exact y _ H3 μ3 sr3 st13 (by unfold RV; rfl)
 | _=>cases e4
theorem zOa {op op':CmpOp}{o o':D→D→M D} (ho:OpS X.K (rAny X (compareOp op)) o) (ho':OpS X.K (rAny X (compareOp op')) o') (ha:PE X a (tOf X.K ca)) (hb:PE X b (tOf X.K cb)) (hc:PE X c (tOf X.K cc)) (hm:lastMarks [op,op'] [b,c]=false) :
  PE X (.Compare a [op,op'] [b,c] pos) (tOf X.K (zFq o o' ca cb cc)):=(zOy zJb zJb ha hb hc hm).weak (zKd ho ho')
theorem zO1 {op op':CmpOp}{o o':D→D→M D} (ho:OpS X.K (rAny X (compareOp op)) o) (ho':OpS X.K (rAny X (compareOp op')) o') (ha:PE X a (tOf X.K ca)) (hb:PE X b (tOf X.K cb)) (hc:PE X c (tOf X.K cc)) (hm:lastMarks [op,op'] [b,c]=false) :
  PT X (.Compare a [op,op'] [b,c] pos) (tOfT X.K (zAl (zFq o o' ca cb cc))):=(zOj zJb zJb ha hb hc hm).weak (zMp (zKd ho ho'))
def UnS (K:W.Frag) (r:V→Hp→VK→Prop) (o:D→M D):Prop:=∀ x S d S' H μ v Q,o x S=.ok d S'→SR K μ S H→RV K H μ x v→Yld K μ H d S' Q→r v H Q
theorem zVQ {op:UnaryOp}{o:D→M D} (ho:UnS X.K (uAny X (unaryOp op)) o) (ha:PE X a (tOf X.K ca)):PE X (.UnaryOp op a pos) (tOf X.K (cUn o ca)):=(zW6 zVC ha).weak (by
 rintro σ H Q ⟨μ,ρ,S,d,S',sr,re,e,y⟩
 obtain ⟨x,S1,e1,e⟩:=zA7 e
 exact ⟨μ,ρ,S,x,S1,sr,re,e1,fun v H1 μ1 sr1 st1 r1=>ho x S1 d S' H1 μ1 v Q e sr1 r1 (y.shift st1)⟩)
theorem zJc {σ:St}{H:Hp}{μ:yC}{ρ:Env1}{S S':zA0}{k:Bool} (sr:SR X.K μ S H) (re:RE X.K H μ ρ σ) (e:zAl ca ρ S=.ok k S') {Q:VK} (h:∀ H1 μ1,SR X.K μ1 S' H1→Step X.K μ μ1 H H1→Q (.bl k) H1):tOf X.K ca σ H Q:=by
 obtain ⟨x,S1,e1,e⟩:=zA7 e
 refine ⟨μ,ρ,S,x,S1,sr,re,e1,fun v H1 μ1 sr1 st1 r1=>?_⟩
 cases x with
 | bl k' =>
  obtain ⟨rfl,rfl⟩:=zAm e
  unfold RV at r1
  subst r1
  exact h H1 μ1 sr1 st1
 | _=>cases e
theorem zSM {rest:yE} (ha:PE X a (tOf X.K ca)) (hb:PE X (.BoolOp .And (b::rest) pos) (tOf X.K cb)):PE X (.BoolOp .And (a::b::rest) pos) (tOf X.K (zJO ca cb)):=(zTe ha hb).weak (by
 rintro σ H Q ⟨μ,ρ,S,d,S',sr,re,e,y⟩
 obtain ⟨k,S1,e1,e⟩:=zA7 e
 refine zJc sr re e1 fun H1 μ1 sr1 st1=>⟨k,rfl,?_⟩
 cases k with
 | true=>rw [if_pos rfl] at e ⊢; exact ⟨μ1,ρ,S1,d,S',sr1,re.up st1,e,y.shift st1⟩
 | false=>rw [if_neg qB2] at e ⊢; obtain ⟨rfl,rfl⟩:=zAm e; exact y _ H1 μ1 sr1 st1 (by unfold RV; rfl))
theorem zVR {rest:yE} (ha:PE X a (tOf X.K ca)) (hb:PE X (.BoolOp .Or (b::rest) pos) (tOf X.K cb)):PE X (.BoolOp .Or (a::b::rest) pos) (tOf X.K (cOrV ca cb)):=(zW7 ha hb).weak (by
 rintro σ H Q ⟨μ,ρ,S,d,S',sr,re,e,y⟩
 obtain ⟨k,S1,e1,e⟩:=zA7 e
 refine zJc sr re e1 fun H1 μ1 sr1 st1=>⟨k,rfl,?_⟩
 cases k with
 | false=>rw [if_neg qB2] at e ⊢; exact ⟨μ1,ρ,S1,d,S',sr1,re.up st1,e,y.shift st1⟩
 | true=>rw [if_pos rfl] at e ⊢; obtain ⟨rfl,rfl⟩:=zAm e; exact y _ H1 μ1 sr1 st1 (by unfold RV; rfl))
theorem zSI (ha:PE X a (tOf X.K ca)):PE X (.UnaryOp .Not a pos) (tOf X.K (zLr ca)):=(zT9 ha).weak (by
 rintro σ H Q ⟨μ,ρ,S,d,S',sr,re,e,y⟩
 obtain ⟨k,S1,e1,e⟩:=zA7 e
 obtain ⟨rfl,rfl⟩:=zAm e
 exact zJc sr re e1 fun H1 μ1 sr1 st1=>⟨k,rfl,y _ H1 μ1 sr1 st1 (by unfold RV; rfl)⟩)
theorem zO9 {t:Expr}{ct:CT} (ht:PT X t (tOfT X.K ct)) (ha:PE X a (tOf X.K ca)) (hb:PE X b (tOf X.K cb)):PE X (.IfExp t a b pos) (tOf X.K (cIf ct ca cb)):=(zOw ht ha hb).weak (by
 rintro σ H Q ⟨μ,ρ,S,d,S',sr,re,e,y⟩
 obtain ⟨k,S1,e1,e⟩:=zA7 e
 refine ⟨μ,ρ,S,k,S1,sr,re,e1,fun H1 μ1 sr1 st1=>?_⟩
 cases k with
 | true=>rw [if_pos rfl] at e ⊢; exact ⟨μ1,ρ,S1,d,S',sr1,re.up st1,e,y.shift st1⟩
 | false=>rw [if_neg qB2] at e ⊢; exact ⟨μ1,ρ,S1,d,S',sr1,re.up st1,e,y.shift st1⟩)
variable {ta tb:CT}
theorem zSo {rest:yE} (ha:PT X a (tOfT X.K ta)) (hb:PW X (.BoolOp .And (b::rest) pos) (tOfT X.K tb)):PW X (.BoolOp .And (a::b::rest) pos) (tOfT X.K (zH2 ta tb)):=(zSX ha hb).weak (by
 rintro σ H Q ⟨μ,ρ,S,d,S',sr,re,e,y⟩
 obtain ⟨k,S1,e1,e⟩:=zA7 e
 refine ⟨μ,ρ,S,k,S1,sr,re,e1,fun H1 μ1 sr1 st1=>?_⟩
 cases k with
 | true=>rw [if_pos rfl] at e ⊢; exact ⟨μ1,ρ,S1,d,S',sr1,re.up st1,e,y.shift st1⟩
 | false=>rw [if_neg qB2] at e ⊢; obtain ⟨rfl,rfl⟩:=zAm e; exact y H1 μ1 sr1 st1)
theorem zVM {rest:yE} (ha:PT X a (tOfT X.K ta)) (hb:PW X (.BoolOp .Or (b::rest) pos) (tOfT X.K tb)):PW X (.BoolOp .Or (a::b::rest) pos) (tOfT X.K (cOrT ta tb)):=(zW4 ha hb).weak (by
 rintro σ H Q ⟨μ,ρ,S,d,S',sr,re,e,y⟩
 obtain ⟨k,S1,e1,e⟩:=zA7 e
 refine ⟨μ,ρ,S,k,S1,sr,re,e1,fun H1 μ1 sr1 st1=>?_⟩
 cases k with
 | false=>rw [if_neg qB2] at e ⊢; exact ⟨μ1,ρ,S1,d,S',sr1,re.up st1,e,y.shift st1⟩
 | true=>rw [if_pos rfl] at e ⊢; obtain ⟨rfl,rfl⟩:=zAm e; exact y H1 μ1 sr1 st1)
theorem zSq (ha:PT X a (tOfT X.K ta)):PT X (.UnaryOp .Not a pos) (tOfT X.K (zCI ta)):=(zSY ha).weak (by
 rintro σ H Q ⟨μ,ρ,S,d,S',sr,re,e,y⟩
 obtain ⟨k,S1,e1,e⟩:=zA7 e
 obtain ⟨rfl,rfl⟩:=zAm e
 exact ⟨μ,ρ,S,k,_,sr,re,e1,fun H1 μ1 sr1 st1=>y H1 μ1 sr1 st1⟩)
noncomputable def dTru (x:D):M Bool:=fun S=>match x with
 | .non=>.ok false S
 | .bl b=>.ok b S
 | .int i=>.ok (i != 0) S
 | .str y=>if y.length≤sizeLine then .ok ((y.length:Int) != 0) S else .bad
 | .tup xs=>.ok (!xs.isEmpty) S
 | .lst n=>match S[n]? with
  | some (.lst xs)=>.ok (!xs.isEmpty) S
  | _=>.bad
 | .dct n=>match S[n]? with
  | some (.dk kvs)=>.ok (!kvs.isEmpty) S
  | _=>.bad
 | .ty _=>.bad
 | .rol xs=>.ok (!xs.isEmpty) S
noncomputable def cTru (a:C):CT:=fun ρ=>bnd (a ρ) dTru
theorem zKx {K:W.Frag}{H:Hp}{μ:yC}{ds:List D}{vs:List V} (h:RVs K H μ ds vs):ds.isEmpty=vs.isEmpty:=by
 cases ds with
 | nil=>unfold RVs at h; subst h; rfl
 | cons d ds=>unfold RVs at h; obtain ⟨v,ws,rfl,_⟩:=h; rfl
theorem SR.get {K:W.Frag}{H:Hp}{μ:yC}{S:zA0} (sr:SR K μ S H) {n:Nat}{a:Addr}{o:O} (h:μ[n]?=some a) (ho:S[n]?=some o):OR K H μ a o:=sr.obj n a o h ho
theorem zRL {K:W.Frag}{H:Hp}{μ:yC}{S S':zA0}{x:D}{v:V}{k:Bool} (e:dTru x S=.ok k S') (sr:SR K μ S H) (r:RV K H μ x v):S'=S∧TruV K v H k:=by
 unfold dTru at e
 cases x with
 | non=>cases e; unfold RV at r; subst r; exact ⟨rfl,rfl⟩
 | bl b=>cases e; unfold RV at r; subst r; exact ⟨rfl,rfl⟩
 | int i=>cases e; unfold RV at r; subst r; exact ⟨rfl,rfl⟩
 | str y =>
  unfold RV at r; subst r
  dsimp only at e
  split at e
  ·rename_i hl; cases e; exact ⟨rfl,hl,rfl⟩
  ·cases e
 | tup xs =>
  cases e; unfold RV at r; obtain ⟨p,vs,rfl,q,rr⟩:=r
  exact ⟨rfl,.inr (.inl ⟨vs,SqT.of q,by rw [zKx rr]⟩)⟩
 | lst n =>
  unfold RV at r; obtain ⟨a,rfl,hm⟩:=r
  dsimp only at e
  split at e
  ·rename_i xs ho
   cases e
   obtain ⟨vs,hq,rr⟩:=sr.get hm ho
   exact ⟨rfl,.inl ⟨vs,SqL.of hq,by rw [zKx rr]⟩⟩
  ·cases e
 | dct n =>
  unfold RV at r; obtain ⟨a,rfl,hm⟩:=r
  dsimp only at e
  split at e
  ·rename_i kvs ho
   cases e
   obtain ⟨ws,hq,rr⟩:=sr.get hm ho
   refine ⟨rfl,.inr (.inr ⟨ws,hq,?_⟩)⟩
   have:=zKx rr.2
   rw [qS6,qS6] at this
   rw [this]
  ·cases e
 | ty _=>cases e
 | rol xs =>
  cases e; unfold RV at r; obtain ⟨p,vs,rfl,q,rr⟩:=r
  exact ⟨rfl,.inl ⟨vs,q.sq,by rw [zKx rr]⟩⟩
theorem zSp (ha:PE X a (tOf X.K ca)) (he:∀ whole,isTrue a X.env whole=(do let v ← whole; standAt a.pos; holding [v] (truthy v))):PT X a (tOfT X.K (cTru ca)):=(zOi ha he).weak (by
 rintro σ H Q ⟨μ,ρ,S,d,S',sr,re,e,y⟩
 obtain ⟨x,S1,e1,e⟩:=zA7 e
 refine ⟨μ,ρ,S,x,S1,sr,re,e1,fun v H1 μ1 sr1 st1 r1=>?_⟩
 obtain ⟨rfl,tv⟩:=zRL e sr1 r1
 exact ⟨d,tv,y H1 μ1 sr1 st1⟩)
variable {es:yE}{cs:List C}
theorem zM7:PA X [] (tOfA X.K (zA1 [])):=zMl.weak (by
 rintro σ H Q ⟨μ,ρ,S,d,S',sr,re,e,y⟩
 obtain ⟨rfl,rfl⟩:=zAm e
 exact y [] H μ sr (Step.refl _ _ _) RVs.nil)
theorem zGo (ha:PE X a (tOf X.K ca)) (hr:PA X es (tOfA X.K (zA1 cs))) (hs:starEach (a::es) X.env=(false,eval a X.env)::starEach es X.env):PA X (a::es) (tOfA X.K (zA1 (ca::cs))):=(zJ9 ha hr hs).weak (by
 rintro σ H Q ⟨μ,ρ,S,d,S',sr,re,e,y⟩
 obtain ⟨x,S1,e1,e⟩:=zA7 e
 obtain ⟨xs,S2,e2,e⟩:=zA7 e
 obtain ⟨rfl,rfl⟩:=zAm e
 exact ⟨μ,ρ,S,x,S1,sr,re,e1,fun v H1 μ1 sr1 st1 r1=>⟨μ1,ρ,S1,xs,S',sr1,re.up st1,e2,fun vs H2 μ2 sr2 st2 r2=>y (v::vs) H2 μ2 sr2 (st1.trans st2 sr2.nd) (.cons (RV.up st2.tk st2.ext _ _ r1) r2)⟩⟩)
theorem zFs {ρ:Env1}:∀ {cs:List C}{S S':zA0}{xs:List D},zA1 cs ρ S=.ok xs S'→xs.length=cs.length
 | [],S,S',xs,e=>by obtain ⟨rfl,rfl⟩:=zAm e; rfl
 | c::cs,S,S',xs,e=>by
  obtain ⟨x,S1,e1,e⟩:=zA7 e
  obtain ⟨ys,S2,e2,e⟩:=zA7 e
  obtain ⟨rfl,rfl⟩:=zAm e
  rw [qC3,qC3,zFs e2]
theorem zGx {K:W.Frag}{H:Hp}{μ:yC}{S:zA0}{ds:List D}{vs:List V}{p:Addr} (sr:SR K μ S H) (h:H p=none) (r:RVs K H μ ds vs):SR K μ S (upd H p (.tup vs))∧Step K μ μ H (upd H p (.tup vs))∧RV K (upd H p (.tup vs)) μ (.tup ds) (.ref p):=by
 obtain ⟨s1,s2⟩:=sr.other (o:=.tup vs) h
 exact ⟨s1,s2,by unfold RV; exact ⟨p,vs,rfl,zAi,RVs.up s2.tk s2.ext _ _ r⟩⟩
theorem zR9 {K:W.Frag}{H:Hp}{μ:yC}{S:zA0}{ds:List D}{vs:List V}{p:Addr} (sr:SR K μ S H) (h:H p=none) (r:RVs K H μ ds vs):SR K (μ++[p]) (S++[.lst ds]) (upd H p (.lst vs))∧Step K μ (μ++[p]) H (upd H p (.lst vs))∧RV K (upd H p (.lst vs)) (μ++[p]) (.lst S.length) (.ref p):=by
 obtain ⟨s1,s2⟩:=sr.push (o:=.lst vs) (o':=.lst ds) h ⟨vs,zAi,RVs.up (zHo h) ⟨[p],rfl⟩ _ _ r⟩
 exact ⟨s1,s2,by unfold RV; exact ⟨p,rfl,by rw [← sr.len,qA0 (qA9 _),qI7]; rfl⟩⟩
theorem Yld.newL {K:W.Frag}{H:Hp}{μ:yC}{S:zA0}{ds:List D}{vs:List V}{p:Addr}{Q:VK} (y:Yld K μ H (.lst S.length) (S++[.lst ds]) Q) (sr:SR K μ S H) (h:H p=none) (r:RVs K H μ ds vs):Q (.ref p) (upd H p (.lst vs)):=by
 obtain ⟨s1,s2,s3⟩:=zR9 sr h r
 exact y _ _ _ s1 s2 s3
theorem Yld.newT {K:W.Frag}{H:Hp}{μ:yC}{S:zA0}{ds:List D}{vs:List V}{p:Addr}{Q:VK} (y:Yld K μ H (.tup ds) S Q) (sr:SR K μ S H) (h:H p=none) (r:RVs K H μ ds vs):Q (.ref p) (upd H p (.tup vs)):=by
 obtain ⟨s1,s2,s3⟩:=zGx sr h r
 exact y _ _ _ s1 s2 s3
theorem zSG {x1} (h:PA X es (tOfA X.K (zA1 cs))) (hl:cs.length≤1000):PE X (.Tuple es x1 pos) (tOf X.K (cTup (zA1 cs))):=(zT5 h).weak (by
 rintro σ H Q ⟨μ,ρ,S,d,S',sr,re,e,y⟩
 obtain ⟨xs,S1,e1,e⟩:=zA7 e
 obtain ⟨rfl,rfl⟩:=zAm e
 refine ⟨μ,ρ,S,xs,S',sr,re,e1,fun vs H1 μ1 sr1 st1 r1=>⟨?_,fun p hp=>(y.shift st1).newT sr1 hp r1⟩⟩
 have h1:=zFs e1
 have h2:=r1.len
 exact qH3 (zHs (by omega)))
theorem zSJ (h:PA X es (tOfA X.K (zA1 cs))) (hl:cs.length≤1000):PE X (.List es pos) (tOf X.K (cLst (zA1 cs))):=(zTb h).weak (by
 rintro σ H Q ⟨μ,ρ,S,d,S',sr,re,e,y⟩
 obtain ⟨xs,S1,e1,e⟩:=zA7 e
 cases e
 refine ⟨μ,ρ,S,xs,S1,sr,re,e1,fun vs H1 μ1 sr1 st1 r1=>⟨?_,fun p hp=>(y.shift st1).newL sr1 hp r1⟩⟩
 have h1:=zFs e1
 have h2:=r1.len
 exact qH3 (zHs (by omega)))
theorem zVS {o:D→D→M D} (ho:OpS X.K (zMO X) o) (ha:PE X a (tOf X.K ca)) (hb:PE X b (tOf X.K cb)) (hs:zJW b):PE X (.Subscript a b pos) (tOf X.K (cBin o ca cb)):=(zW9 zWQ ha hb hs).weak (zKe ho)
noncomputable def CO:=Env1→M (yG)
noncomputable def zAM:CO:=fun _=>ret none
noncomputable def dInt (x:D):M Int:=match x with
 | .int i=>ret i
 | _=>bad
noncomputable def zCw (a:C):CO:=fun ρ=>bnd (a ρ) fun x=>bnd (dInt x) fun i=>ret (some i)
def YldO (K:W.Frag) (μ:yC) (H:Hp) (b:yG) (S':zA0) (Q:yG→Hp→Prop):Prop:=∀ H' μ',SR K μ' S' H'→Step K μ μ' H H'→Q b H'
inductive tOfO (K:W.Frag) (c:CO) (σ:St) (H:Hp) (Q:yG→Hp→Prop):Prop
 | mk (μ:yC) (ρ:Env1) (S:zA0) (d:yG) (S':zA0) (sr:SR K μ S H) (re:RE K H μ ρ σ) (e:c ρ S=.ok d S') (y:YldO K μ H d S' Q)
theorem PO.weak {e:Option Expr}{t t':TO} (h:PO X e t) (w:∀ σ H Q,t' σ H Q→t σ H Q):PO X e t':=fun pins s σ H Q I q=>h pins s σ H Q I (w σ H Q q)
theorem zQp:PO X none (tOfO X.K zAM):=zQT.weak (by
 rintro σ H Q ⟨μ,ρ,S,d,S',sr,re,e,y⟩
 obtain ⟨rfl,rfl⟩:=zAm e
 exact y H μ sr (Step.refl _ _ _))
theorem zQo (ha:PE X a (tOf X.K ca)):PO X (some a) (tOfO X.K (zCw ca)):=(zQS ha).weak (by
 rintro σ H Q ⟨μ,ρ,S,d,S',sr,re,e,y⟩
 obtain ⟨x,S1,e1,e⟩:=zA7 e
 obtain ⟨i,S2,e2,e⟩:=zA7 e
 obtain ⟨rfl,rfl⟩:=zAm e
 refine ⟨μ,ρ,S,x,S1,sr,re,e1,fun v H1 μ1 sr1 st1 r1=>?_⟩
 cases x with
 | int j =>
  obtain ⟨rfl,rfl⟩:=zAm e2
  unfold RV at r1
  exact ⟨_,r1,y H1 μ1 sr1 st1⟩
 | _=>cases e2)
noncomputable def cSl (o:D→yG→yG→M D) (a:C) (lo hi:CO):C:=fun ρ=>bnd (a ρ) fun x=>bnd (lo ρ) fun l=>bnd (hi ρ) fun h=>o x l h
def SlS (K:W.Frag) (r:V→yG→yG→Hp→VK→Prop) (o:D→yG→yG→M D):Prop:=∀ x l h S d S' H μ v Q,o x l h S=.ok d S'→SR K μ S H→RV K H μ x v→Yld K μ H d S' Q→r v l h H Q
theorem zO7 {lo hi:Option Expr}{cl ch:CO}{p2:Pos}{o:D→yG→yG→M D} (ho:SlS X.K (zM0 X) o) (ha:PE X a (tOf X.K ca)) (hl:PO X lo (tOfO X.K cl)) (hh:PO X hi (tOfO X.K ch)):PE X (.Subscript a (.Slice lo hi none p2) pos) (tOf X.K (cSl o ca cl ch)):=(zOv zVP ha hl hh).weak (by
 rintro σ H Q ⟨μ,ρ,S,d,S',sr,re,e,y⟩
 obtain ⟨x,S1,e1,e⟩:=zA7 e
 obtain ⟨l,S2,e2,e⟩:=zA7 e
 obtain ⟨h,S3,e3,e⟩:=zA7 e
 refine ⟨μ,ρ,S,x,S1,sr,re,e1,fun v H1 μ1 sr1 st1 r1=>⟨μ1,ρ,S1,l,S2,sr1,re.up st1,e2,fun H2 μ2 sr2 st2=>?_⟩⟩
 have st12:=st1.trans st2 sr2.nd
 refine ⟨μ2,ρ,S2,h,S3,sr2,re.up st12,e3,fun H3 μ3 sr3 st3=>?_⟩
 exact ho x l h S3 d S' H3 μ3 v Q e sr3 (RV.up st3.tk st3.ext _ _ (RV.up st2.tk st2.ext _ _ r1)) (y.shift (st12.trans st3 sr3.nd)))
def zDZ (K:W.Frag) (r:List V→Hp→VK→Prop) (o:List D→M D):Prop:=∀ xs S d S' H μ vs Q,o xs S=.ok d S'→SR K μ S H→RVs K H μ xs vs→Yld K μ H d S' Q→r vs H Q
variable {ca':CA}
theorem zPH {r:List V→Hp→VK→Prop}{o:List D→M D} (ho:zDZ X.K r o):∀ σ H Q,tOf X.K (cApp o ca') σ H Q→tCB r (tOfA X.K ca') σ H Q:=by
 rintro σ H Q ⟨μ,ρ,S,d,S',sr,re,e,y⟩
 obtain ⟨xs,S1,e1,e⟩:=zA7 e
 exact ⟨μ,ρ,S,xs,S1,sr,re,e1,fun vs H1 μ1 sr1 st1 r1=>ho xs S1 d S' H1 μ1 vs Q e sr1 r1 (y.shift st1)⟩
noncomputable def spOf (K:W.Frag) (φ:List D→M D) (n:Nat):Sp:=fun vs H Q E=>vs.length=n∧∃ μ ds S d S',SR K μ S H∧RVs K H μ ds vs∧φ ds S=.ok d S'∧Yld K μ H d S' Q
theorem zR6 {φ:List D→M D}{n:Nat} (hn:∀ ds S d S',φ ds S=.ok d S'→ds.length=n):∀ σ H Q,tOf X.K (cApp φ ca') σ H Q→zQi (spOf X.K φ n) [] E0 (tOfA X.K ca') σ H Q:=by
 rintro σ H Q ⟨μ,ρ,S,d,S',sr,re,e,y⟩
 obtain ⟨xs,S1,e1,e⟩:=zA7 e
 refine ⟨μ,ρ,S,xs,S1,sr,re,e1,fun vs H1 μ1 sr1 st1 r1=>?_⟩
 rw [qI6]
 exact ⟨by rw [← r1.len]; exact hn _ _ _ _ e,μ1,xs,S1,d,S',sr1,r1,e,y.shift st1⟩
end
open PySem PySem.Spec PyProof.Rows
noncomputable def lim:Nat:=1048576
theorem zKm {n:Nat} (h:n≤lim):n≤sizeLine:=qC5 h (by decide)
theorem zKl {n:Nat} (h:n<lim):n<sizeLine:=qC1 h (by decide)
section
variable {K:W.Frag}{H H' H1:Hp}{μ:yC}{S:zA0}
theorem SR.same (sr:SR K μ S H) (sm:Same H H1):SR K μ S H1∧Step K μ μ H H1:=by
 have tk:TF K H H1:=zLS sm
 refine ⟨⟨sr.len,sr.nd,fun n a o e1 e2=>?_⟩,⟨⟨[],by simp,by simp⟩,fun b o _ h=>sm b o h,tk⟩⟩
 obtain ⟨u,hu⟩:=sr.isS (qC0 e1)
 exact (sr.obj n a o e1 e2).up tk ⟨[],by simp⟩ (by rw [hu]; exact sm _ _ hu)
theorem Yld.oldT {ds:List D}{vs:List V}{p:Addr}{Q:VK} (y:Yld K μ H (.tup ds) S Q) (sr:SR K μ S H) (sm:Same H H1) (h:H1 p=some (.tup vs)) (r:RVs K H μ ds vs):Q (.ref p) H1:=by
 obtain ⟨s1,s2⟩:=sr.same sm
 exact y _ _ _ s1 s2 (by unfold RV; exact ⟨p,vs,rfl,h,RVs.up s2.tk s2.ext _ _ r⟩)
theorem zAT {i:Int}:RV K H μ (.int i) (.int i):=by unfold RV; rfl
theorem zDu {i:Bool}:RV K H μ (.bl i) (.bl i):=by unfold RV; rfl
theorem zHA:RV K H μ .non .non:=by unfold RV; rfl
theorem zPC {i:Str}:RV K H μ (.str i) (.str i):=by unfold RV; rfl
theorem SR.lst (sr:SR K μ S H) {n:Nat}{a:Addr}{xs:List D} (h:μ[n]?=some a) (ho:S[n]?=some (.lst xs)):∃ vs,H a=some (.lst vs)∧RVs K H μ xs vs:=sr.obj n a _ h ho
noncomputable def zA4 (S:zA0) (n:Nat):Option (List D):=match S[n]? with
 | some (.lst xs)=>some xs
 | _=>none
theorem SR.sq (sr:SR K μ S H) {n:Nat}{a:Addr}{xs:List D} (h:μ[n]?=some a) (ho:zA4 S n=some xs):∃ vs,SqL K H a vs∧RVs K H μ xs vs:=by
 unfold zA4 at ho
 split at ho
 ·rename_i ys e; cases ho
  obtain ⟨vs,q,r⟩:=sr.get h e
  exact ⟨vs,SqL.of q,r⟩
 ·cases ho
noncomputable def zHx (S:zA0):D→Option (List D)
 | .tup xs=>some xs
 | .lst n=>zA4 S n
 | .rol xs=>some xs
 | _=>none
theorem SR.seq (sr:SR K μ S H) {x:D}{v:V}{xs:List D} (r:RV K H μ x v) (ho:zHx S x=some xs):∃ a vs,v=.ref a∧(SqL K H a vs∨SqT K H a vs)∧RVs K H μ xs vs:=by
 unfold zHx at ho
 split at ho
 ·cases ho
  unfold RV at r; obtain ⟨p,vs,rfl,q,rr⟩:=r
  exact ⟨p,vs,rfl,.inr (SqT.of q),rr⟩
 ·unfold RV at r; obtain ⟨a,rfl,hm⟩:=r
  obtain ⟨vs,q,rr⟩:=sr.sq hm ho
  exact ⟨a,vs,rfl,.inl q,rr⟩
 ·cases ho
  unfold RV at r; obtain ⟨p,vs,rfl,q,rr⟩:=r
  exact ⟨p,vs,rfl,.inl q.sq,rr⟩
 ·cases ho
theorem RVs.cons_inv {d:D}{ds:List D}{vs:List V} (h:RVs K H μ (d::ds) vs):∃ v ws,vs=v::ws∧RV K H μ d v∧RVs K H μ ds ws:=by unfold RVs at h; exact h
theorem RVs.nil_inv {vs:List V} (h:RVs K H μ [] vs):vs=[]:=by unfold RVs at h; exact h
end
noncomputable def oInt (g:Int→Int→Int):D→D→M D
 | .int i,.int j=>ret (.int (g i j))
 | _,_=>bad
noncomputable def oAdd:D→D→M D
 | .int i,.int j=>ret (.int (i+j))
 | .tup xs,.tup ys=>fun S=>if xs.length+ys.length≤lim then .ok (.tup (xs++ys)) S else .bad
 | .lst n,.lst m=>fun S=>match S[n]?,S[m]? with
  | some (.lst xs),some (.lst ys)=>if xs.length+ys.length≤lim then .ok (.lst S.length) (S++[.lst (xs++ys)]) else .bad
  | _,_=>.bad
 | .str x,.str y=>fun S=>if x.length+y.length≤lim then .ok (.str (x++y)) S else .bad
 | _,_=>bad
noncomputable def zEP (i j:Int):Bool:=(decide (-18446744073709551616<i)&&decide (i<18446744073709551616))||(decide (-18446744073709551616<j)&&decide (j<18446744073709551616))
noncomputable def oMul:D→D→M D
 | .int i,.int j=>fun S=>if zEP i j then .ok (.int (i*j)) S else .bad
 | _,_=>bad
noncomputable def oMod:D→D→M D
 | .int i,.int j=>fun S=>if 0<j then .ok (.int (i % j)) S else .bad
 | _,_=>bad
noncomputable def oDiv:D→D→M D
 | .int i,.int j=>fun S=>if 0<j∧j<1073741824 then .ok (.int (i / j)) S else .bad
 | _,_=>bad
noncomputable def oPow:D→D→M D
 | .int i,.int j=>fun S=>if 0≤j∧j≤1000000∧i.natAbs<18446744073709551616 then .ok (.int (i ^ j.toNat)) S else .bad
 | _,_=>bad
noncomputable def oShl:D→D→M D
 | .int i,.int j=>fun S=>if 0≤j∧j≤1000000∧i.natAbs<18446744073709551616 then .ok (.int (i*2 ^ j.toNat)) S else .bad
 | _,_=>bad
noncomputable def oShr:D→D→M D
 | .int i,.int j=>fun S=>if 0≤j then .ok (.int (i / 2 ^ j.toNat)) S else .bad
 | _,_=>bad
noncomputable def oNeg:D→M D
 | .int i=>ret (.int (-i))
 | _=>bad
section
variable {X:Cx}
theorem zKc {op:Operator}{g:Int→Int→Int} (h:OpR X (binaryOp op) (rI0 fun i j=>.int (g i j))):OpS X.K (rAny X (binaryOp op)) (oInt g):=by
 intro x y S d S' H μ v u Q e sr rx ry h'
 unfold oInt at e
 split at e
 ·obtain ⟨rfl,rfl⟩:=zAm e
  unfold RV at rx ry; subst rx ry
  exact ⟨_,h,_,_,rfl,rfl,h'.self sr zAT⟩
 ·cases e
theorem zTg:OpS X.K (rAny X (binaryOp .Sub)) (oInt fun i j=>i - j):=zKc zTq
theorem zTn:OpS X.K (rAny X (binaryOp .BitAnd)) (oInt Builtin.bitAnd):=zKc zTB
theorem zWe:OpS X.K (rAny X (binaryOp .BitOr)) (oInt Builtin.bitOr):=zKc zWo
theorem zTf:OpS X.K (rAny X (binaryOp .BitXor)) (oInt Builtin.bitXor):=zKc zTp
theorem zTo:OpS X.K (rAny X (binaryOp .Add)) oAdd:=by
 intro x y S d S' H μ v u Q e sr rx ry h
 unfold oAdd at e
 split at e
 ·obtain ⟨rfl,rfl⟩:=zAm e
  unfold RV at rx ry; subst rx ry
  exact ⟨_,zTC,_,_,rfl,rfl,h.self sr zAT⟩
 ·try dsimp only at e
  split at e
  ·rename_i hl; cases e
   unfold RV at rx ry
   obtain ⟨p,vs,rfl,q1,r1⟩:=rx
   obtain ⟨p2,ws,rfl,q2,r2⟩:=ry
   exact ⟨_,zOE,p,p2,vs,ws,rfl,rfl,q1,q2,by rw [← r1.len,← r2.len]; exact zKm hl,fun p3 H1 sm sq=>h.oldT sr sm sq (r1.append r2)⟩
  ·cases e
 ·try dsimp only at e
  unfold RV at rx ry
  obtain ⟨p,rfl,m1⟩:=rx
  obtain ⟨p2,rfl,m2⟩:=ry
  split at e
  ·rename_i xs ys o1 o2
   split at e
   ·rename_i hl; cases e
    obtain ⟨vs,q1,r1⟩:=sr.lst m1 o1
    obtain ⟨ws,q2,r2⟩:=sr.lst m2 o2
    exact ⟨_,zTA,p,p2,vs,ws,rfl,rfl,q1,q2,by rw [← r1.len,← r2.len]; exact zKm hl,fun p3 hp=>h.newL sr hp (r1.append r2)⟩
   ·cases e
  ·cases e
 ·try dsimp only at e
  split at e
  ·rename_i hl; cases e
   unfold RV at rx ry; subst rx ry
   exact ⟨_,zKX,_,_,rfl,rfl,zKm hl,h.self sr zPC⟩
  ·cases e
 ·cases e
theorem zRa {i j:Int} (h:zEP i j=true):CMul i j:=by
 unfold zEP at h
 simp only [qF9,qC6,decide_eq_true_eq] at h
 exact h
theorem zTk:OpS X.K (rAny X (binaryOp .Mult)) oMul:=by
 intro x y S d S' H μ v u Q e sr rx ry h
 unfold oMul at e
 split at e
 ·try dsimp only at e
  split at e
  ·rename_i hl; cases e
   unfold RV at rx ry; subst rx ry
   exact ⟨_,zTv,_,_,rfl,rfl,zRa hl,h.self sr zAT⟩
  ·cases e
 ·cases e
theorem zTl:OpS X.K (rAny X (binaryOp .Mod)) oMod:=by
 intro x y S d S' H μ v u Q e sr rx ry h
 unfold oMod at e
 split at e
 ·try dsimp only at e
  split at e
  ·rename_i hl; cases e
   unfold RV at rx ry; subst rx ry
   exact ⟨_,zTw,_,_,rfl,rfl,hl,h.self sr zAT⟩
  ·cases e
 ·cases e
theorem zTm:OpS X.K (rAny X (binaryOp .FloorDiv)) oDiv:=by
 intro x y S d S' H μ v u Q e sr rx ry h
 unfold oDiv at e
 split at e
 ·try dsimp only at e
  split at e
  ·rename_i hl; cases e
   unfold RV at rx ry; subst rx ry
   exact ⟨_,zR2,_,_,rfl,rfl,hl,h.self sr zAT⟩
  ·cases e
 ·cases e
theorem zTj:OpS X.K (rAny X (binaryOp .Pow)) oPow:=by
 intro x y S d S' H μ v u Q e sr rx ry h
 unfold oPow at e
 split at e
 ·try dsimp only at e
  split at e
  ·rename_i hl; cases e
   unfold RV at rx ry; subst rx ry
   exact ⟨_,zTt,_,_,rfl,rfl,hl,h.self sr zAT⟩
  ·cases e
 ·cases e
theorem zTi:OpS X.K (rAny X (binaryOp .LShift)) oShl:=by
 intro x y S d S' H μ v u Q e sr rx ry h
 unfold oShl at e
 split at e
 ·try dsimp only at e
  split at e
  ·rename_i hl; cases e
   unfold RV at rx ry; subst rx ry
   exact ⟨_,zTs,_,_,rfl,rfl,hl,h.self sr zAT⟩
  ·cases e
 ·cases e
theorem zTh:OpS X.K (rAny X (binaryOp .RShift)) oShr:=by
 intro x y S d S' H μ v u Q e sr rx ry h
 unfold oShr at e
 split at e
 ·try dsimp only at e
  split at e
  ·rename_i hl; cases e
   unfold RV at rx ry; subst rx ry
   exact ⟨_,zTr,_,_,rfl,rfl,hl,h.self sr zAT⟩
  ·cases e
 ·cases e
theorem zSd:UnS X.K (uAny X (unaryOp .USub)) oNeg:=by
 intro x S d S' H μ v Q e sr rx h
 unfold oNeg at e
 split at e
 ·obtain ⟨rfl,rfl⟩:=zAm e
  unfold RV at rx; subst rx
  exact ⟨_,zSe,_,rfl,h.self sr zAT⟩
 ·cases e
noncomputable def oCmp (g:Int→Int→Bool):D→D→M D
 | .int i,.int j=>ret (.bl (g i j))
 | _,_=>bad
theorem zMm {op:CmpOp}{g:Int→Int→Bool} (h:OpR X (compareOp op) (rI0 fun i j=>.bl (g i j))):OpS X.K (rAny X (compareOp op)) (oCmp g):=by
 intro x y S d S' H μ v u Q e sr rx ry h'
 unfold oCmp at e
 split at e
 ·obtain ⟨rfl,rfl⟩:=zAm e
  unfold RV at rx ry; subst rx ry
  exact ⟨_,h,_,_,rfl,rfl,h'.self sr zDu⟩
 ·cases e
theorem zWh:OpS X.K (rAny X (compareOp .LtE)) (oCmp fun i j=>decide (i≤j)):=zMm zWr
theorem zWl:OpS X.K (rAny X (compareOp .Gt)) (oCmp fun i j=>decide (j<i)):=zMm zWs
theorem zWm:OpS X.K (rAny X (compareOp .GtE)) (oCmp fun i j=>decide (j≤i)):=zMm zWt
noncomputable def zBW:List D→Option (yA)
 | []=>some []
 | .int i::r=>(zBW r).map (i::·)
 | _::_=>none
theorem zDa {K:W.Frag}{H:Hp}{μ:yC}:∀ {ds:List D}{ns:yA}{vs:List V},zBW ds=some ns→RVs K H μ ds vs→vs=ns.map V.int
 | [],ns,vs,e,r=>by cases e; rw [r.nil_inv]; rfl
 | .int i::ds,ns,vs,e,r=>by
  obtain ⟨v,ws,rfl,r1,r2⟩:=r.cons_inv
  unfold zBW at e
  cases q:zBW ds with
  | none=>rw [q] at e; cases e
  | some ms =>
   rw [q] at e; cases e
   unfold RV at r1; subst r1
   rw [zDa q r2]; rfl
 | .non::ds,ns,vs,e,r=>by cases e
 | .bl _::ds,ns,vs,e,r=>by cases e
 | .str _::ds,ns,vs,e,r=>by cases e
 | .ty _::ds,ns,vs,e,r=>by cases e
 | .tup _::ds,ns,vs,e,r=>by cases e
 | .lst _::ds,ns,vs,e,r=>by cases e
 | .dct _::ds,ns,vs,e,r=>by cases e
 | .rol _::ds,ns,vs,e,r=>by cases e
noncomputable def oLt:D→D→M D
 | .int i,.int j=>ret (.bl (decide (i<j)))
 | _,_=>bad
theorem zWg (hu:X.A.units<cLine):OpS X.K (rAny X (compareOp .Lt)) oLt:=by
 intro x y S d S' H μ v u Q e sr rx ry h
 unfold oLt at e
 split at e
 ·obtain ⟨rfl,rfl⟩:=zAm e
  unfold RV at rx ry; subst rx ry
  exact ⟨_,zWq,_,_,rfl,rfl,h.self sr zDu⟩
 ·cases e
noncomputable def snap:Nat→zA0→D→Option PyData
 | 0,_,_=>none
 | n+1,S,d=>match d with
  | .non=>some .none
  | .bl b=>some (.bool b)
  | .int i=>some (.int i)
  | .str x=>if PyData.strOk x then some (.str x) else none
  | .tup xs=>(xs.mapM (snap n S)).map .tuple
  | .lst k=>match zA4 S k with
   | some xs=>(xs.mapM (snap n S)).map .list
   | none=>none
  | _=>none
theorem zQq {K:W.Frag}{H:Hp}{μ:yC}{S:zA0}{n:Nat} (ih:∀ d v p,snap n S d=some p→RV K H μ d v→Rp K H (fun _=>True) v p∧p.canLay0=true∧p.depth≤n):∀ (xs:List D) (vs:List V) (ps:List PyData),xs.mapM (snap n S)=some ps→RVs K H μ xs vs→RpL K H (fun _=>True) vs ps∧PyData.canLayAll0 ps=true∧PyData.depthAll ps≤n
 | [],vs,ps,e,r=>by
  simp at e; subst e
  rw [r.nil_inv]
  exact ⟨.nil,rfl,qG0 _⟩
 | d::ds,vs,ps,e,r=>by
  obtain ⟨v,ws,rfl,r1,r2⟩:=r.cons_inv
  rw [qF8] at e
  cases q:snap n S d with
  | none=>rw [q] at e; cases e
  | some p =>
   cases q2:ds.mapM (snap n S) with
   | none=>rw [q,q2] at e; cases e
   | some ps' =>
    rw [q,q2] at e
    cases e
    obtain ⟨a1,a2,a3⟩:=ih d v p q r1
    obtain ⟨b1,b2,b3⟩:=zQq ih ds ws ps' q2 r2
    refine ⟨.cons a1 b1,?_,?_⟩
    ·show (PyData.canLay0 p&&PyData.canLayAll0 ps')=true
     rw [a2,b2]; rfl
    ·show max p.depth (PyData.depthAll ps')≤n
     omega
theorem zE3 {K:W.Frag}{H:Hp}{μ:yC}{S:zA0} (sr:SR K μ S H):∀ (n:Nat) (d:D) (v:V) (p:PyData),snap n S d=some p→RV K H μ d v→Rp K H (fun _=>True) v p∧p.canLay0=true∧p.depth≤n
 | 0,d,v,p,e,r=>by cases e
 | n+1,d,v,p,e,r=>by
  unfold snap at e
  cases d with
  | non=>cases e; unfold RV at r; subst r; exact ⟨.non,rfl,qG0 _⟩
  | bl b=>cases e; unfold RV at r; subst r; exact ⟨.bl b,rfl,qG0 _⟩
  | int i=>cases e; unfold RV at r; subst r; exact ⟨.int i,rfl,qG0 _⟩
  | str x =>
   dsimp only at e
   split at e
   ·rename_i hs; cases e; unfold RV at r; subst r; exact ⟨.str x,hs,qG0 _⟩
   ·cases e
  | tup xs =>
   dsimp only at e
   cases q:xs.mapM (snap n S) with
   | none=>rw [q] at e; cases e
   | some ps =>
    rw [q] at e; cases e
    unfold RV at r; obtain ⟨a,vs,rfl,hq,rr⟩:=r
    obtain ⟨b1,b2,b3⟩:=zQq (fun d v p e r=>zE3 sr n d v p e r) xs vs ps q rr
    exact ⟨.tup (SqT.of hq) b1,b2,qS7 b3⟩
  | lst k =>
   dsimp only at e
   split at e
   ·rename_i xs hx
    cases q:xs.mapM (snap n S) with
    | none=>rw [q] at e; cases e
    | some ps =>
     rw [q] at e; cases e
     unfold RV at r; obtain ⟨a,rfl,hm⟩:=r
     obtain ⟨vs,hq,rr⟩:=sr.sq hm hx
     obtain ⟨b1,b2,b3⟩:=zQq (fun d v p e r=>zE3 sr n d v p e r) xs vs ps q rr
     exact ⟨.lst True.intro hq b1,b2,qS7 b3⟩
   ·cases e
  | dct k=>cases e
  | ty k=>cases e
  | rol k=>cases e
noncomputable def oEq:D→D→M D:=fun x y S=>match x,y with
 | .str a,.str b=>.ok (.bl (decide (a=b))) S
 | _,_=>match snap 40 S x,snap 40 S y with
  | some p,some q=>.ok (.bl (PyData.eqv p q)) S
  | _,_=>.bad
noncomputable def oNe:D→D→M D:=fun x y S=>match x,y with
 | .str a,.str b=>.ok (.bl (!decide (a=b))) S
 | _,_=>match snap 40 S x,snap 40 S y with
  | some p,some q=>.ok (.bl (!PyData.eqv p q)) S
  | _,_=>.bad
theorem zWn (hu:X.A.units+64<cLine):OpS X.K (rAny X (compareOp .Eq)) oEq:=by
 intro x y S d S' H μ v u Q e sr rx ry h
 unfold oEq at e
 split at e
 ·rename_i a b
  cases e
  unfold RV at rx ry; subst rx ry
  refine ⟨_,zWu,rfl,?_⟩
  have z:decide (V.str a=V.str b)=decide (a=b):=by simp
  rw [z]
  exact h.self sr zDu
 ·split at e
  ·rename_i p q e1 e2
   cases e
   obtain ⟨a1,a2,a3⟩:=zE3 sr 40 x v p e1 rx
   obtain ⟨b1,b2,b3⟩:=zE3 sr 40 y u q e2 ry
   exact ⟨_,zTy hu,_,_,p,q,a1,b1,⟨a2,by omega⟩,⟨b2,by omega⟩,h.self sr zDu⟩
  ·cases e
theorem zWf (hu:X.A.units+64<cLine):OpS X.K (rAny X (compareOp .NotEq)) oNe:=by
 intro x y S d S' H μ v u Q e sr rx ry h
 unfold oNe at e
 split at e
 ·rename_i a b
  cases e
  unfold RV at rx ry; subst rx ry
  refine ⟨_,zWp,rfl,?_⟩
  have z:decide (V.str a=V.str b)=decide (a=b):=by simp
  rw [z]
  exact h.self sr zDu
 ·split at e
  ·rename_i p q e1 e2
   cases e
   obtain ⟨a1,a2,a3⟩:=zE3 sr 40 x v p e1 rx
   obtain ⟨b1,b2,b3⟩:=zE3 sr 40 y u q e2 ry
   exact ⟨_,zTu hu,_,_,p,q,a1,b1,⟨a2,by omega⟩,⟨b2,by omega⟩,h.self sr zDu⟩
  ·cases e
noncomputable def D.isNon:D→Bool
 | .non=>true
 | _=>false
theorem zMR {K:W.Frag}{H:Hp}{μ:yC}{x:D}{v:V} (r:RV K H μ x v):decide (v=.non)=x.isNon:=by
 cases x with
 | non=>unfold RV at r; subst r; rfl
 | bl _=>unfold RV at r; subst r; rfl
 | int _=>unfold RV at r; subst r; rfl
 | str _=>unfold RV at r; subst r; rfl
 | ty _=>unfold RV at r; subst r; rfl
 | tup _=>unfold RV at r; obtain ⟨_,_,rfl,_⟩:=r; rfl
 | lst _=>unfold RV at r; obtain ⟨_,rfl,_⟩:=r; rfl
 | dct _=>unfold RV at r; obtain ⟨_,rfl,_⟩:=r; rfl
 | rol _=>unfold RV at r; obtain ⟨_,_,rfl,_⟩:=r; rfl
noncomputable def oIs:D→D→M D
 | x,.non=>ret (.bl x.isNon)
 | .bl a,.bl b=>ret (.bl (a == b))
 | _,_=>bad
noncomputable def zHK:D→D→M D
 | x,.non=>ret (.bl (!x.isNon))
 | .bl a,.bl b=>ret (.bl (a != b))
 | _,_=>bad
theorem zWj:OpS X.K (rAny X (compareOp .Is)) oIs:=by
 intro x y S d S' H μ v u Q e sr rx ry h
 unfold oIs at e
 split at e
 ·obtain ⟨rfl,rfl⟩:=zAm e
  unfold RV at ry
  exact ⟨_,zTx,ry,by rw [zMR rx]; exact h.self sr zDu⟩
 ·obtain ⟨rfl,rfl⟩:=zAm e
  unfold RV at rx ry; subst rx ry
  exact ⟨_,zOD,_,_,rfl,rfl,h.self sr zDu⟩
 ·cases e
theorem zOC:OpS X.K (rAny X (compareOp .IsNot)) zHK:=by
 intro x y S d S' H μ v u Q e sr rx ry h
 unfold zHK at e
 split at e
 ·obtain ⟨rfl,rfl⟩:=zAm e
  unfold RV at ry
  exact ⟨_,zR1,ry,by rw [zMR rx]; exact h.self sr zDu⟩
 ·obtain ⟨rfl,rfl⟩:=zAm e
  unfold RV at rx ry; subst rx ry
  exact ⟨_,zJa,_,_,rfl,rfl,h.self sr zDu⟩
 ·cases e
noncomputable def flat:D→Option V
 | .non=>some .non
 | .bl b=>some (.bl b)
 | .int i=>some (.int i)
 | .str x=>some (.str x)
 | _=>none
theorem zPU {K:W.Frag}{H:Hp}{μ:yC}{x:D}{v w:V} (e:flat x=some w) (r:RV K H μ x v):v=w:=by
 cases x with
 | non=>cases e; unfold RV at r; exact r
 | bl _=>cases e; unfold RV at r; exact r
 | int _=>cases e; unfold RV at r; exact r
 | str _=>cases e; unfold RV at r; exact r
 | _=>cases e
theorem zN3 {K:W.Frag}{H:Hp}{μ:yC}:∀ {ds:List D}{vs ws:List V},ds.mapM flat=some ws→RVs K H μ ds vs→vs=ws
 | [],vs,ws,e,r=>by simp at e; subst e; exact r.nil_inv
 | d::ds,vs,ws,e,r=>by
  obtain ⟨v,us,rfl,r1,r2⟩:=r.cons_inv
  rw [qF8] at e
  cases q:flat d with
  | none=>rw [q] at e; cases e
  | some w =>
   cases q2:ds.mapM flat with
   | none=>rw [q,q2] at e; cases e
   | some ws' =>
    rw [q,q2] at e; cases e
    rw [zPU q r1,zN3 q2 r2]
noncomputable def zD7:D→Option Key
 | .int i=>some (.inl i)
 | .str x=>some (.inr x)
 | _=>none
theorem zGE {K:W.Frag}{H:Hp}{μ:yC}{x:D}{v:V}{k:Key} (e:zD7 x=some k) (r:RV K H μ x v):v=kV k:=by
 cases x with
 | int _=>cases e; unfold RV at r; exact r
 | str _=>cases e; unfold RV at r; exact r
 | _=>cases e
noncomputable def valD {κ:Type} [DecidableEq κ] (kvs:List (κ × D)) (k:κ):Option D:=(kvs.find? fun kv=>decide (kv.1=k)).map (·.2)
noncomputable def putD {κ:Type} [DecidableEq κ] (kvs:List (κ × D)) (k:κ) (v:D):List (κ × D) :=
 if (kvs.any fun kv=>decide (kv.1=k))=true then kvs.map (fun kv=>if kv.1=k then (kv.1,v) else kv) else kvs++[(k,v)]
section
variable {κ:Type} [DecidableEq κ] {K:W.Frag}{H:Hp}{μ:yC}
theorem RKs.cons_inv {p:κ × D}{kvs:List (κ × D)}{ws:List (κ × V)} (h:RKs K H μ (p::kvs) ws):∃ q us,ws=q::us∧p.1=q.1∧RV K H μ p.2 q.2∧RKs K H μ kvs us:=by
 obtain ⟨h1,h2⟩:=h
 rw [qB9] at h1 h2
 obtain ⟨v,vs,e,r1,r2⟩:=h2.cons_inv
 cases ws with
 | nil=>simp at h1
 | cons q us =>
  rw [qB9] at h1 e
  cases e
  rw [List.cons.injEq] at h1
  exact ⟨q,us,rfl,h1.1,r1,h1.2,r2⟩
theorem RKs.val {k:κ}:∀ {kvs:List (κ × D)}{ws:List (κ × V)},RKs K H μ kvs ws→(∀ d,valD kvs k=some d→∃ v,valV ws k=some v∧RV K H μ d v)∧(valD kvs k=none→valV ws k=none)
 | [],ws,h=>by
  have:ws=[]:=by have:=h.1; cases ws with | nil=>rfl | cons a b=>simp at this
  subst this
  exact ⟨fun d e=>(by cases e),fun _=>rfl⟩
 | p::kvs,ws,h=>by
  obtain ⟨q,us,rfl,e1,r1,r2⟩:=h.cons_inv
  obtain ⟨i1,i2⟩:=RKs.val (k:=k) r2
  by_cases hk:p.1=k
  ·have e2:valD (p::kvs) k=some p.2:=by simp [valD,qG9,hk]
   rw [e2,zEt (e1▸hk)]
   exact ⟨fun d e=>by cases e; exact ⟨_,rfl,r1⟩,fun e=>by cases e⟩
  ·have e2:valD (p::kvs) k=valD kvs k:=by simp [valD,qG9,hk]
   rw [e2,zEu (e1▸hk)]
   exact ⟨i1,i2⟩
theorem RKs.nil:RKs K H μ ([]:List (κ × D)) []:=⟨rfl,RVs.nil⟩
theorem RKs.cons {k:κ}{d:D}{v:V}{kvs:List (κ × D)}{ws:List (κ × V)} (r:RV K H μ d v) (h:RKs K H μ kvs ws):RKs K H μ ((k,d)::kvs) ((k,v)::ws):=⟨by rw [qB9,qB9,h.1],by rw [qB9,qB9]; exact .cons r h.2⟩
theorem RKs.any {k:κ}:∀ {kvs:List (κ × D)}{ws:List (κ × V)},RKs K H μ kvs ws→(kvs.any fun kv=>decide (kv.1=k))=(ws.any fun kv=>decide (kv.1=k))
 | [],ws,h=>by
  have:ws=[]:=by have:=h.1; cases ws with | nil=>rfl | cons a b=>simp at this
  subst this; rfl
 | p::kvs,ws,h=>by
  obtain ⟨q,us,rfl,e1,r1,r2⟩:=h.cons_inv
  rw [qH4,qH4,RKs.any r2,e1]
theorem RKs.mapSet {k:κ}{d:D}{v:V} (rv:RV K H μ d v):∀ {kvs:List (κ × D)}{ws:List (κ × V)},RKs K H μ kvs ws→RKs K H μ (kvs.map (fun kv=>if kv.1=k then (kv.1,d) else kv)) (ws.map (fun kv=>if kv.1=k then (kv.1,v) else kv))
 | [],ws,h=>by
  have:ws=[]:=by have:=h.1; cases ws with | nil=>rfl | cons a b=>simp at this
  subst this; exact .nil
 | p::kvs,ws,h=>by
  obtain ⟨q,us,rfl,e1,r1,r2⟩:=h.cons_inv
  rw [qB9,qB9]
  obtain ⟨p1,p2⟩:=p
  obtain ⟨q1,q2⟩:=q
  dsimp only at e1 r1 ⊢
  subst e1
  by_cases hk:p1=k
  ·rw [if_pos hk,if_pos hk]; exact .cons rv (RKs.mapSet rv r2)
  ·rw [if_neg hk,if_neg hk]; exact .cons r1 (RKs.mapSet rv r2)
theorem RKs.append {as:List (κ × D)}{bs:List (κ × V)}{cs:List (κ × D)}{ds:List (κ × V)} (h:RKs K H μ as bs) (g:RKs K H μ cs ds):RKs K H μ (as++cs) (bs++ds):=⟨by rw [qE8,qE8,h.1,g.1],by rw [qE8,qE8]; exact h.2.append g.2⟩
theorem RKs.put {k:κ}{d:D}{v:V} (rv:RV K H μ d v) {kvs:List (κ × D)}{ws:List (κ × V)} (h:RKs K H μ kvs ws):RKs K H μ (putD kvs k d) (putK ws k v):=by
 unfold putD putK
 rw [h.any (k:=k)]
 by_cases hc:(ws.any fun kv=>decide (kv.1=k))=true
 ·rw [if_pos hc,if_pos hc]; exact h.mapSet rv
 ·rw [if_neg hc,if_neg hc]; exact h.append (.cons rv .nil)
theorem RKs.len {kvs:List (κ × D)}{ws:List (κ × V)} (h:RKs K H μ kvs ws):kvs.length=ws.length:=by
 have:=congrArg qM4 h.1
 simpa using this
end
noncomputable def dictAt (S:zA0) (n:Nat) (x:D):Option (Option D):=match S[n]? with
 | some (.dk kvs)=>(zD7 x).map fun k=>valD kvs k
 | some (.dt kvs)=>match x with
  | .tup ks=>(ks.mapM zD7).map fun k=>valD kvs k
  | _=>none
 | _=>none
theorem zKo {K:W.Frag}{H:Hp}{μ:yC}:∀ {ds:List D}{ks:List Key}{vs:List V},ds.mapM zD7=some ks→RVs K H μ ds vs→vs=ks.map kV
 | [],ks,vs,e,r=>by simp at e; subst e; exact r.nil_inv
 | d::ds,ks,vs,e,r=>by
  obtain ⟨u,us,rfl,r1,r2⟩:=r.cons_inv
  rw [qF8] at e
  cases q:zD7 d with
  | none=>rw [q] at e; cases e
  | some k =>
   cases q2:ds.mapM zD7 with
   | none=>rw [q,q2] at e; cases e
   | some ks' =>
    rw [q,q2] at e; cases e
    rw [qB9,zGE q r1,zKo q2 r2]
theorem zIf {K:W.Frag}{H:Hp}{μ:yC}{S:zA0}{n:Nat}{x:D}{v:V}{a:Addr}{r:Option D} (sr:SR K μ S H) (e:dictAt S n x=some r) (hm:μ[n]?=some a) (rx:RV K H μ x v):∃ o,DGet H a v o∧(∀ d,r=some d→∃ w,o=some w∧RV K H μ d w)∧(r=none→o=none):=by
 unfold dictAt at e
 split at e
 ·rename_i kvs ho
  cases q:zD7 x with
  | none=>rw [q] at e; cases e
  | some k =>
   rw [q] at e; cases e
   obtain ⟨ws,hw,rr⟩:=sr.get hm ho
   have:=zGE q rx
   subst this
   exact ⟨valV ws k,DGet.k hw,(rr.val (k:=k)).1,(rr.val (k:=k)).2⟩
 ·rename_i kvs ho
  split at e
  ·rename_i ks
   cases q:ks.mapM zD7 with
   | none=>rw [q] at e; cases e
   | some k =>
    rw [q] at e; cases e
    obtain ⟨ws,hw,rr⟩:=sr.get hm ho
    unfold RV at rx
    obtain ⟨p,us,rfl,hp,ru⟩:=rx
    have:=zKo q ru
    subst this
    exact ⟨valV ws k,DGet.t hw hp,(rr.val (k:=k)).1,(rr.val (k:=k)).2⟩
  ·cases e
 ·cases e
noncomputable def oIn (neg:Bool):D→D→M D:=fun x y S=>match y with
 | .dct n=>match dictAt S n x with
  | some o=>.ok (.bl (if neg then !o.isSome else o.isSome)) S
  | none=>.bad
 | _=>match zHx S y,flat x with
  | some ys,some v=>match ys.mapM flat with
   | some vs=>.ok (.bl (if neg then !inV v vs else inV v vs)) S
   | none=>.bad
  | _,_=>.bad
theorem zGa {x:D}{v:V} (h:flat x=some v):zFM v=true:=by
 cases x <;> first | (cases h; rfl) | cases h
theorem zFe:∀ {ds:List D}{vs:List V},ds.mapM flat=some vs→vs.all zFM=true
 | [],vs,e=>by simp at e; subst e; rfl
 | d::ds,vs,e=>by
  rw [qF8] at e
  cases q:flat d with
  | none=>rw [q] at e; cases e
  | some w =>
   cases q2:ds.mapM flat with
   | none=>rw [q,q2] at e; cases e
   | some ws' =>
    rw [q,q2] at e; cases e
    rw [qJ8,zGa q,zFe q2]; rfl
theorem zTz (hu:X.A.units+1<cLine):OpR X (compareOp .In) (fun y x H Q=>∃ a o,x=.ref a∧DGet H a y o∧Q (.bl o.isSome) H):=by
 intro pins s σ H y x v u Q I ry rx h
 obtain ⟨a,o,rfl,g,q⟩:=h
 obtain rfl:u=Value.ref a:=rx
 exact d_in hu I g ry fun s3 I3=>⟨.bl o.isSome,H,I3,rfl,q⟩
theorem zMo (hu:X.A.units+1<cLine):OpR X (compareOp .NotIn) (fun y x H Q=>∃ a o,x=.ref a∧DGet H a y o∧Q (.bl (!o.isSome)) H):=by
 intro pins s σ H y x v u Q I ry rx h
 obtain ⟨a,o,rfl,g,q⟩:=h
 obtain rfl:u=Value.ref a:=rx
 exact zRK hu I g ry fun s3 I3=>⟨.bl (!o.isSome),H,I3,rfl,q⟩
theorem zG3 {neg:Bool}{op:CmpOp} (h1:OpR X (compareOp op) (rIn X.K neg)) (h2:OpR X (compareOp op) (fun y x H Q=>∃ a o,x=.ref a∧DGet H a y o∧Q (.bl (if neg then !o.isSome else o.isSome)) H))
  : OpS X.K (rAny X (compareOp op)) (oIn neg):=by
 intro x y S d S' H μ v u Q e sr rx ry h
 unfold oIn at e
 split at e
 ·rename_i n
  split at e
  ·rename_i o ho
   cases e
   unfold RV at ry
   obtain ⟨a,rfl,hm⟩:=ry
   obtain ⟨o',g,g1,g2⟩:=zIf sr ho hm rx
   have e2:o'.isSome=o.isSome:=by
    cases o with
    | none=>simp [g2 rfl]
    | some d=>obtain ⟨w,rfl,_⟩:=g1 d rfl; rfl
   exact ⟨_,h2,a,o',rfl,g,by rw [e2]; exact h.self sr zDu⟩
  ·cases e
 ·split at e
  ·rename_i ys w e1 e2
   split at e
   ·rename_i ws e3
    cases e
    obtain ⟨a,vs,rfl,hq,rr⟩:=sr.seq ry e1
    have z1:=zPU e2 rx
    have z2:=zN3 e3 rr
    subst z1 z2
    exact ⟨_,h1,a,vs,rfl,hq,zGa e2,zFe e3,h.self sr zDu⟩
   ·cases e
  ·cases e
theorem zWk (hu:X.A.units+64<cLine):OpS X.K (rAny X (compareOp .In)) (oIn false):=zG3 zMn (zTz (by omega))
theorem zOB (hu:X.A.units+64<cLine):OpS X.K (rAny X (compareOp .NotIn)) (oIn true):=zG3 zHJ (zMo (by omega))
end
open PySem PySem.Spec PyProof.Rows
section
variable {X:Cx}
theorem zRy (hu:X.A.units+1<cLine):IxR X (fun x y H Q=>∃ a v,x=.ref a∧DGet H a y (some v)∧Q v H):=by
 intro value slice pins s σ H x y v u Q I rx ry h hs
 obtain ⟨a,z,rfl,g,q⟩:=h
 obtain rfl:v=Value.ref a:=rx
 have hT:=zJC I g
 have h₂:wpAny (model X.prog X.w) X.A (getItem (.ref a) u) (EP X pins σ Q) X.xe s:=zNh hu I g ry fun w' s3 I3 rw'=>⟨z,H,I3,rw',q⟩
 unfold subscriptTail
 refine wpAny_bind ?_
 rw [getitemInPython_of_ne hT.not_modules]
 refine wpAny_bind (wpAny_specialOf hT PySem.F.slot_dict_getitem.lookup ?_)
 have fin:wpAny (model X.prog X.w) X.A (subscripted slice false (.ref a) u) (fun r s₃=>wpAny (model X.prog X.w) X.A (letTemporaryGo value (.ref a) r >>= fun _=>pure r) (EP X pins σ Q) X.xe s₃) X.xe s:=by
  rw [hs]
  exact wpAny_operating (wpAny_mono h₂ (fun r s₃ h₃=>wpAny_bind (wpAny_letTemporaryGo (wpAny_pure h₃))) fun _ _ x=>x)
 exact wpAny_pure (wpAny_bind fin)
noncomputable def oIx:D→D→M D:=fun x i S=>match x with
 | .dct n=>match dictAt S n i with
  | some (some d)=>.ok d S
  | _=>.bad
 | _=>match zHx S x,i with
  | some xs,.int j=>match atI xs j with
   | some d=>.ok d S
   | none=>.bad
  | _,_=>.bad
theorem RVs.at {K:W.Frag}{H:Hp}{μ:yC}{ds:List D}{vs:List V}{i:Int}{d:D} (r:RVs K H μ ds vs) (e:atI ds i=some d):∃ v,atI vs i=some v∧RV K H μ d v:=by
 unfold atI at e ⊢
 rw [← r.len]
 cases q:ixN ds.length i with
 | none=>rw [q] at e; cases e
 | some j =>
  rw [q] at e
  obtain ⟨v,e1,e2⟩:=r.get (i:=j) (d:=d) e
  exact ⟨v,e1,e2⟩
theorem zWi (hu:X.A.units+1<cLine):OpS X.K (zMO X) oIx:=by
 intro x y S d S' H μ v u Q e sr rx ry h
 unfold oIx at e
 split at e
 ·rename_i n
  split at e
  ·rename_i d' ho
   cases e
   unfold RV at rx
   obtain ⟨a,rfl,hm⟩:=rx
   obtain ⟨o,g,g1,_⟩:=zIf sr ho hm ry
   obtain ⟨w,rfl,rw'⟩:=g1 _ rfl
   exact ⟨_,zRy hu,a,w,rfl,g,h.self sr rw'⟩
  ·cases e
 ·split at e
  ·rename_i xs j e1
   split at e
   ·rename_i d' e2
    cases e
    obtain ⟨a,vs,rfl,hq,rr⟩:=sr.seq rx e1
    obtain ⟨w,e3,rw'⟩:=rr.at e2
    unfold RV at ry
    subst ry
    rcases hq with hq | hq
    ·exact ⟨_,zRx,a,vs,j,w,rfl,rfl,hq,e3,h.self sr rw'⟩
    ·exact ⟨_,zU9,a,vs,j,w,rfl,rfl,hq,e3,h.self sr rw'⟩
   ·cases e
  ·cases e
noncomputable def cutD (xs:List D) (lo hi:yG):List D:=(xs.drop (HT.sIx xs.length 0 lo)).take (HT.sIx xs.length xs.length hi - HT.sIx xs.length 0 lo)
noncomputable def oSl:D→yG→yG→M D:=fun x lo hi S=>match x with
 | .tup xs=>.ok (.tup (cutD xs lo hi)) S
 | .lst n=>match zA4 S n with
  | some xs=>.ok (.lst S.length) (S++[.lst (cutD xs lo hi)])
  | none=>.bad
 | _=>.bad
theorem RVs.cut {K:W.Frag}{H:Hp}{μ:yC}{ds:List D}{vs:List V} (r:RVs K H μ ds vs) (lo hi:yG):RVs K H μ (cutD ds lo hi) (cutV vs lo hi):=by
 unfold cutD cutV
 rw [r.len]
 exact (r.drop _).take _
theorem zVN:SlS X.K (zM0 X) oSl:=by
 intro x lo hi S d S' H μ v Q e sr rx h
 unfold oSl at e
 split at e
 ·cases e
  unfold RV at rx
  obtain ⟨p,vs,rfl,q,rr⟩:=rx
  exact ⟨_,zQr,p,vs,rfl,q,fun p2 H1 sm sq=>h.oldT sr sm sq (rr.cut lo hi)⟩
 ·split at e
  ·rename_i xs e1
   cases e
   unfold RV at rx
   obtain ⟨a,rfl,hm⟩:=rx
   obtain ⟨vs,q,rr⟩:=sr.sq hm e1
   exact ⟨_,zQs,a,vs,rfl,q,fun p hp=>h.newL sr hp (rr.cut lo hi)⟩
  ·cases e
 ·cases e
noncomputable def oRev:D→D→M D:=fun x y S=>match x,y with
 | .tup xs,.int j=>if j=-1 then .ok (.tup xs.reverse) S else .bad
 | _,_=>.bad
theorem RVs.reverse {K:W.Frag}{H:Hp}{μ:yC}:∀ {ds:List D}{vs:List V},RVs K H μ ds vs→RVs K H μ ds.reverse vs.reverse
 | [],vs,r=>by rw [r.nil_inv]; exact .nil
 | d::ds,vs,r=>by
  obtain ⟨v,ws,rfl,r1,r2⟩:=r.cons_inv
  rw [qL6,qL6]
  exact r2.reverse.append (.cons r1 .nil)
theorem zSH {a b:Expr}{ca cb:C}{p2 pos:Pos} (ha:PE X a (tOf X.K ca)) (hb:PE X b (tOf X.K cb)):PE X (.Subscript a (.Slice none none (some b) p2) pos) (tOf X.K (cBin oRev ca cb)):=(zT7 ha hb).weak (by
 rintro σ H Q ⟨μ,ρ,S,d,S',sr,re,e,y⟩
 obtain ⟨x,S1,e1,e⟩:=zA7 e
 obtain ⟨z,S2,e2,e⟩:=zA7 e
 refine ⟨μ,ρ,S,x,S1,sr,re,e1,fun v H1 μ1 sr1 st1 r1=>⟨μ1,ρ,S1,z,S2,sr1,re.up st1,e2,fun u H2 μ2 sr2 st2 r2=>?_⟩⟩
 unfold oRev at e
 split at e
 ·split at e
  ·rename_i hj
   cases e
   have rx:=RV.up st2.tk st2.ext _ _ r1
   unfold RV at rx r2
   obtain ⟨a,xs,rfl,q,rr⟩:=rx
   subst r2 hj
   exact ⟨rfl,a,xs,rfl,SqT.of q,fun p hp=>(y.shift (st1.trans st2 sr2.nd)).newT sr2 hp rr.reverse⟩
  ·cases e
 ·cases e)
noncomputable def fLen:List D→M D:=fun xs S=>match xs with
 | [.str x]=>if x.length≤lim then .ok (.int x.length) S else .bad
 | [.dct n]=>.bad
 | [x]=>match zHx S x with
  | some ys=>.ok (.int ys.length) S
  | none=>.bad
 | _=>.bad
theorem RVs.one {K:W.Frag}{H:Hp}{μ:yC}{d:D}{vs:List V} (h:RVs K H μ [d] vs):∃ v,vs=[v]∧RV K H μ d v:=by
 obtain ⟨v,ws,rfl,r1,r2⟩:=h.cons_inv
 rw [r2.nil_inv]
 exact ⟨v,rfl,r1⟩
theorem RVs.two {K:W.Frag}{H:Hp}{μ:yC}{d e:D}{vs:List V} (h:RVs K H μ [d,e] vs):∃ v u,vs=[v,u]∧RV K H μ d v∧RV K H μ e u:=by
 obtain ⟨v,ws,rfl,r1,r2⟩:=h.cons_inv
 obtain ⟨u,rfl,r3⟩:=r2.one
 exact ⟨v,u,rfl,r1,r3⟩
theorem zUC:zDZ X.K (cAny X (.builtin "len")) fLen:=by
 intro xs S d S' H μ vs Q e sr rx h
 unfold fLen at e
 split at e
 ·split at e
  ·rename_i hl; cases e
   obtain ⟨v,rfl,r⟩:=rx.one
   unfold RV at r; subst r
   exact ⟨_,zIx,_,rfl,zKm hl,h.self sr zAT⟩
  ·cases e
 ·cases e
 ·split at e
  ·rename_i ys e1
   cases e
   obtain ⟨v,rfl,r⟩:=rx.one
   obtain ⟨a,vs,rfl,hq,rr⟩:=sr.seq r e1
   exact ⟨_,zIy,a,vs,rfl,hq,by rw [← rr.len]; exact h.self sr zAT⟩
  ·cases e
 ·cases e
noncomputable def fMin:List D→M D:=fun xs S=>match xs with
 | [.int i,.int j]=>.ok (.int (if j<i then j else i)) S
 | _=>.bad
noncomputable def fMax:List D→M D:=fun xs S=>match xs with
 | [.int i,.int j]=>.ok (.int (if j>i then j else i)) S
 | _=>.bad
theorem zUA (hc:X.calm=true):zDZ X.K (cAny X (.builtin "min")) fMin:=by
 intro xs S d S' H μ vs Q e sr rx h
 unfold fMin at e
 split at e
 ·cases e
  obtain ⟨v,u,rfl,r1,r2⟩:=rx.two
  unfold RV at r1 r2; subst r1 r2
  exact ⟨_,zNv hc,_,_,rfl,h.self sr zAT⟩
 ·cases e
theorem zUB (hc:X.calm=true):zDZ X.K (cAny X (.builtin "max")) fMax:=by
 intro xs S d S' H μ vs Q e sr rx h
 unfold fMax at e
 split at e
 ·cases e
  obtain ⟨v,u,rfl,r1,r2⟩:=rx.two
  unfold RV at r1 r2; subst r1 r2
  exact ⟨_,zNw hc,_,_,rfl,h.self sr zAT⟩
 ·cases e
noncomputable def zId:List D→M D:=fun xs S=>match xs with
 | [x]=>match zHx S x with
  | some ys=>.ok (.lst S.length) (S++[.lst ys])
  | none=>.bad
 | _=>.bad
theorem zRM:zDZ X.K (cAny X (.type "list")) zId:=by
 intro xs S d S' H μ vs Q e sr rx h
 unfold zId at e
 split at e
 ·split at e
  ·rename_i ys e1
   cases e
   obtain ⟨v,rfl,r⟩:=rx.one
   obtain ⟨a,vs,rfl,hq,rr⟩:=sr.seq r e1
   exact ⟨_,zIw,a,vs,rfl,hq,fun l hl=>h.newL sr hl rr⟩
  ·cases e
 ·cases e
noncomputable def zAO:List D→M D:=fun xs S=>match xs with
 | [.tup ys]=>.ok (.tup ys) S
 | [.lst n]=>match zA4 S n with
  | some ys=>.ok (.tup ys) S
  | none=>.bad
 | _=>.bad
theorem zPj:zDZ X.K (cAny X (.type "tuple")) zAO:=by
 intro xs S d S' H μ vs Q e sr rx h
 unfold zAO at e
 split at e
 ·cases e
  obtain ⟨v,rfl,r⟩:=rx.one
  have r':=r
  unfold RV at r'; obtain ⟨p,ws,rfl,q,rr⟩:=r'
  exact ⟨_,zDR,p,ws,rfl,.inr ⟨SqT.of q,h.self sr r⟩⟩
 ·split at e
  ·rename_i ys e1
   cases e
   obtain ⟨v,rfl,r⟩:=rx.one
   unfold RV at r; obtain ⟨a,rfl,hm⟩:=r
   obtain ⟨ws,q,rr⟩:=sr.sq hm e1
   exact ⟨_,zDR,a,ws,rfl,.inl ⟨q,fun l hl=>h.newT sr hl rr⟩⟩
  ·cases e
 ·cases e
noncomputable def fInt:List D→M D:=fun xs S=>match xs with
 | [.int i]=>.ok (.int i) S
 | [.bl b]=>.ok (.int (if b then 1 else 0)) S
 | _=>.bad
theorem zUD:zDZ X.K (cAny X (.type "int")) fInt:=by
 intro xs S d S' H μ vs Q e sr rx h
 unfold fInt at e
 split at e
 ·cases e
  obtain ⟨v,rfl,r⟩:=rx.one
  unfold RV at r; subst r
  exact ⟨_,zIA,.inl ⟨_,rfl,h.self sr zAT⟩⟩
 ·cases e
  obtain ⟨v,rfl,r⟩:=rx.one
  unfold RV at r; subst r
  exact ⟨_,zIA,.inr ⟨_,rfl,h.self sr zAT⟩⟩
 ·cases e
noncomputable def zDc (S:zA0) (n:Nat):Option String:=match S[n]? with
 | some (.dk _)=>some "dict"
 | _=>none
noncomputable def zJk (S:zA0):D→Option String
 | .non=>some "NoneType"
 | .bl _=>some "bool"
 | .int _=>some "int"
 | .str _=>some "str"
 | .tup _=>some "tuple"
 | .lst n=>if (zA4 S n).isSome then some "list" else none
 | .dct n=>zDc S n
 | _=>none
noncomputable def zAw:List D→M D:=fun xs S=>match xs with
 | [x,.ty T]=>match zJk S x with
  | some t=>if T∈["bool","int","tuple","list","str","dict"] then .ok (.bl (kOf t T)) S else .bad
  | none=>.bad
 | _=>.bad
theorem zRt {K:W.Frag}{H:Hp}{μ:yC}{S:zA0}{x:D}{v:V}{t:String} (sr:SR K μ S H) (e:zJk S x=some t) (r:RV K H μ x v):Ty2 K H v t∧t∈["NoneType","bool","int","str","tuple","list","dict"]:=by
 cases x with
 | non=>cases e; unfold RV at r; subst r; exact ⟨.non,by decide⟩
 | bl b=>cases e; unfold RV at r; subst r; exact ⟨.bl b,by decide⟩
 | int i=>cases e; unfold RV at r; subst r; exact ⟨.int i,by decide⟩
 | str i=>cases e; unfold RV at r; subst r; exact ⟨.str i,by decide⟩
 | tup xs=>cases e; unfold RV at r; obtain ⟨p,vs,rfl,q,_⟩:=r; exact ⟨.tup (SqT.of q),by decide⟩
 | lst n =>
  have e:(if (zA4 S n).isSome then some "list" else none)=some t:=e
  split at e
  ·rename_i hs
   cases e
   obtain ⟨xs,hx⟩:=qE9.mp hs
   unfold RV at r; obtain ⟨a,rfl,hm⟩:=r
   obtain ⟨vs,q,_⟩:=sr.sq hm hx
   exact ⟨.lst q,by decide⟩
  ·cases e
 | dct n =>
  have e:zDc S n=some t:=e
  unfold zDc at e
  split at e
  ·rename_i kvs ho
   cases e
   unfold RV at r; obtain ⟨a,rfl,hm⟩:=r
   obtain ⟨ws,hw,_⟩:=sr.get hm ho
   exact ⟨.dk hw,by decide⟩
  ·cases e
 | ty n=>cases e
 | rol n=>cases e
theorem zRN:zDZ X.K (cAny X (.builtin "isinstance")) zAw:=by
 intro xs S d S' H μ vs Q e sr rx h
 unfold zAw at e
 split at e
 ·rename_i x T
  split at e
  ·rename_i t e1
   split at e
   ·rename_i hT
    cases e
    obtain ⟨v,u,rfl,r1,r2⟩:=rx.two
    unfold RV at r2; subst r2
    obtain ⟨k1,k2⟩:=zRt sr e1 r1
    exact ⟨_,zIz,v,t,T,_,rfl,k1,zOS X.K t k2 T hT,h.self sr zDu⟩
   ·cases e
  ·cases e
 ·cases e
noncomputable def zDd:List D→Option (List Bool)
 | []=>some []
 | .bl b::r=>(zDd r).map (b::·)
 | _::_=>none
theorem zGg {K:W.Frag}{H:Hp}{μ:yC}:∀ {ds:List D}{ns:List Bool}{vs:List V},zDd ds=some ns→RVs K H μ ds vs→vs=ns.map V.bl
 | [],ns,vs,e,r=>by cases e; rw [r.nil_inv]; rfl
 | .bl i::ds,ns,vs,e,r=>by
  obtain ⟨v,ws,rfl,r1,r2⟩:=r.cons_inv
  unfold zDd at e
  cases q:zDd ds with
  | none=>rw [q] at e; cases e
  | some ms =>
   rw [q] at e; cases e
   unfold RV at r1; subst r1
   rw [zGg q r2]; rfl
 | .non::ds,ns,vs,e,r=>by cases e
 | .int _::ds,ns,vs,e,r=>by cases e
 | .str _::ds,ns,vs,e,r=>by cases e
 | .ty _::ds,ns,vs,e,r=>by cases e
 | .tup _::ds,ns,vs,e,r=>by cases e
 | .lst _::ds,ns,vs,e,r=>by cases e
 | .dct _::ds,ns,vs,e,r=>by cases e
 | .rol _::ds,ns,vs,e,r=>by cases e
noncomputable def zBv (g:List Bool→Bool):List D→M D:=fun xs S=>match xs with
 | [.tup ys]=>match zBW ys with
  | some ns=>.ok (.bl (g (ns.map (· != 0)))) S
  | none=>.bad
 | [.lst n]=>match (zA4 S n).bind zDd with
  | some bs=>.ok (.bl (g bs)) S
  | none=>.bad
 | _=>.bad
theorem zKA {id:String}{g:List Bool→Bool} (hr:zAW X (.builtin id) (fun vs H Q=>∃ (p:Addr) (bs:List Bool),vs=[.ref p]∧SqL X.K H p (bs.map V.bl)∧Q (.bl (g bs)) H)) (hr2:zAW X (.builtin id) (fun vs H Q=>∃ (p:Addr) (ns:yA),vs=[.ref p]∧SqT X.K H p (ns.map V.int)∧Q (.bl (g (ns.map (· != 0)))) H)):zDZ X.K (cAny X (.builtin id)) (zBv g):=by
 intro xs S d S' H μ vs Q e sr rx h
 unfold zBv at e
 split at e
 ·split at e
  ·rename_i ns e1
   cases e
   obtain ⟨v,rfl,r⟩:=rx.one
   unfold RV at r; obtain ⟨a,ws,rfl,q,rr⟩:=r
   have z:=zDa e1 rr
   subst z
   exact ⟨_,hr2,a,ns,rfl,SqT.of q,h.self sr zDu⟩
  ·cases e
 ·split at e
  ·rename_i bs e1
   cases e
   obtain ⟨ys,e2,e3⟩:=qA2.mp e1
   obtain ⟨v,rfl,r⟩:=rx.one
   unfold RV at r; obtain ⟨a,rfl,hm⟩:=r
   obtain ⟨ws,q,rr⟩:=sr.sq hm e2
   have z:=zGg e3 rr
   subst z
   exact ⟨_,hr,a,bs,rfl,q,h.self sr zDu⟩
  ·cases e
 ·cases e
theorem zAW.imp {f:Value}{r r':List V→Hp→VK→Prop} (h:zAW X f r) (w:∀ vs H Q,r' vs H Q→r vs H Q):zAW X f r':=fun pins s σ H xs us Q I rv q=>h pins s σ H xs us Q I rv (w _ _ _ q)
theorem zUF (hc:X.calm=true):zDZ X.K (cAny X (.builtin "all")) (zBv fun bs=>bs.all id):=zKA (zNA hc) ((zNz hc).imp fun vs H Q ⟨p,ns,h1,h2,h3⟩=>⟨p,ns,h1,h2,by rw [qL5] at h3; exact h3⟩)
theorem zUE (hc:X.calm=true):zDZ X.K (cAny X (.builtin "any")) (zBv fun bs=>bs.any id):=zKA (zNy hc) ((zNx hc).imp fun vs H Q ⟨p,ns,h1,h2,h3⟩=>⟨p,ns,h1,h2,by rw [qP2] at h3; exact h3⟩)
noncomputable def insI (a:Int):yA→yA
 | []=>[a]
 | b::r=>if a≤b then a::b::r else b::insI a r
noncomputable def zCS:yA→yA
 | []=>[]
 | a::r=>insI a (zCS r)
theorem zFa (a:Int):∀ l,(insI a l).Perm (a::l)
 | []=>.refl _
 | b::r=>by
  unfold insI
  split
  ·exact .refl _
  ·exact ((zFa a r).cons b).trans (.swap _ _ _)
theorem zDo:∀ l,(zCS l).Perm l
 | []=>.refl _
 | a::r=>(zFa a _).trans ((zDo r).cons a)
theorem zF9 (a:Int):∀ l:yA,l.Pairwise (·≤·)→(insI a l).Pairwise (·≤·)
 | [],_=>by simp [insI]
 | b::r,h=>by
  have h':=qE7.mp h
  unfold insI
  split
  ·rename_i hab
   refine qE7.mpr ⟨fun c hc=>?_,h⟩
   rcases qB6.mp hc with rfl | hc
   ·exact hab
   ·exact qP5 hab (h'.1 c hc)
  ·rename_i hab
   refine qE7.mpr ⟨fun c hc=>?_,zF9 a r h'.2⟩
   rcases qB6.mp ((zFa a r).mem_iff.mp hc) with rfl | hc
   ·omega
   ·exact h'.1 c hc
theorem zEn:∀ l:yA,(zCS l).Pairwise (·≤·)
 | []=>.nil
 | a::r=>zF9 a _ (zEn r)
theorem zGF {l m:yA} (h:m.Perm l) (s:m.Pairwise (·≤·)):m=zCS l :=
 (h.trans (zDo l).symm).eq_of_pairwise (fun a b _ _ h1 h2=>qT9 h1 h2) s (zEn l)
noncomputable def zRD:List (Key × D)→Option (yA)
 | []=>some []
 | (.inl n,_)::r=>(zRD r).map (n::·)
 | _::_=>none
theorem zHU:∀ {kvs:List (Key × D)}{ns:yA},zRD kvs=some ns→kvs.map (·.1)=ns.map Sum.inl
 | [],ns,e=>by cases e; rfl
 | (.inl n,d)::r,ns,e=>by
  obtain ⟨ms,e1,e2⟩:=qA1.mp e
  subst e2
  simp [zHU e1]
 | (.inr x,d)::r,ns,e=>by cases e
noncomputable def zIZ:List D→Option (List (yA))
 | []=>some []
 | .tup xs::r=>match zBW xs,zIZ r with
  | some ns,some nss=>some (ns::nss)
  | _,_=>none
 | _=>none
noncomputable def tD (ns:yA):D:=.tup (ns.map .int)
noncomputable def insT (a:yA):List (yA)→List (yA)
 | []=>[a]
 | b::r=>if HT.lexLt b a=true then b::insT a r else a::b::r
noncomputable def zEr:List (yA)→List (yA)
 | []=>[]
 | a::r=>insT a (zEr r)
abbrev yM:=List D
abbrev LexP (l:List (yA)):Prop:=l.Pairwise fun x y=>HT.lexLt y x=false
theorem zF8 (a:yA):∀ l,(insT a l).Perm (a::l)
 | []=>.refl _
 | b::r=>by
  unfold insT
  split
  ·exact ((zF8 a r).cons b).trans (.swap _ _ _)
  ·exact .refl _
theorem zBL:∀ l,(zEr l).Perm l
 | []=>.refl _
 | a::r=>(zF8 a _).trans ((zBL r).cons a)
theorem zF7 (a:yA):∀ l,LexP l→LexP (insT a l)
 | [],_=>by simp [insT,LexP]
 | b::r,h=>by
  have h':=qE7.mp h
  unfold insT
  split
  ·rename_i hab
   refine qE7.mpr ⟨fun c hc=>?_,zF7 a r h'.2⟩
   rcases qB6.mp ((zF8 a r).mem_iff.mp hc) with rfl | hc
   ·exact zMH _ _ hab
   ·exact h'.1 c hc
  ·rename_i hab
   have hab':HT.lexLt b a=false:=by simpa using hab
   refine qE7.mpr ⟨fun c hc=>?_,h⟩
   rcases qB6.mp hc with rfl | hc
   ·exact hab'
   ·exact zMG a b c hab' (h'.1 c hc)
theorem zC5:∀ l,LexP (zEr l)
 | []=>.nil
 | a::r=>zF7 a _ (zC5 r)
theorem zK3 {l m:List (yA)} (h:m.Perm l) (s:LexP m):m=zEr l :=
 (h.trans (zBL l).symm).eq_of_pairwise (fun a b _ _ h1 h2=>zKn a b h1 h2) s (zC5 l)
noncomputable def zKM:List (List Key × D)→Option (List (yA))
 | []=>some []
 | (k,_)::r=>match k.mapM (fun x=>match x with | .inl n=>some n | .inr _=>none),zKM r with
  | some ns,some nss=>some (ns::nss)
  | _,_=>none
theorem zKp:∀ {k:List Key}{ns:yA},k.mapM (fun x=>match x with | .inl n=>some n | .inr _=>none)=some ns→k=ns.map Sum.inl
 | [],ns,e=>by simp at e; subst e; rfl
 | .inl n::k,ns,e=>by
  rw [qF8] at e
  cases q:k.mapM (fun x:Key=>match x with | .inl n=>some n | .inr _=>none) with
  | none=>rw [q] at e; cases e
  | some ms=>rw [q] at e; cases e; rw [zKp q]; rfl
 | .inr x::k,ns,e=>by rw [qF8] at e; cases e
theorem zHn:∀ {kvs:List (List Key × D)}{nss:List (yA)},zKM kvs=some nss→kvs.map (·.1)=nss.map (·.map Sum.inl)
 | [],nss,e=>by cases e; rfl
 | (k,d)::r,nss,e=>by
  unfold zKM at e
  split at e
  ·rename_i ns ms e1 e2
   cases e
   simp [zKp e1,zHn e2]
  ·cases e
theorem zK2 {K:W.Frag}{H:Hp}{μ:yC}:∀ {ds:yM}{nss:List (yA)}{vs:List V},zIZ ds=some nss→RVs K H μ ds vs→∃ ts:List (Addr × yA),ts.map (·.2)=nss∧vs=ts.map (fun t=>V.ref t.1)∧∀ t∈ts,H t.1=some (.tup (t.2.map V.int))
 | [],nss,vs,e,r=>by cases e; exact ⟨[],rfl,r.nil_inv,fun t h=>(by cases h)⟩
 | d::ds,nss,vs,e,r=>by
  unfold zIZ at e
  split at e
  ·rename_i q; cases q
  ·rename_i xs r' q
   cases q
   split at e
   ·rename_i ns ms e1 e2
    cases e
    obtain ⟨v,ws,rfl,r1,r2⟩:=r.cons_inv
    obtain ⟨ts,a,b,c⟩:=zK2 e2 r2
    unfold RV at r1
    obtain ⟨p,us,rfl,hp,ru⟩:=r1
    rw [zDa e1 ru] at hp
    refine ⟨(p,ns)::ts,by simp [a],by simp [b],fun t ht=>?_⟩
    rcases qB6.mp ht with rfl | ht
    ·exact hp
    ·exact c t ht
   ·cases e
  ·cases e
theorem zIY {K:W.Frag}{H:Hp}{μ:yC}:∀ {ts:List (Addr × yA)},(∀ t∈ts,H t.1=some (.tup (t.2.map V.int)))→RVs K H μ (ts.map fun t=>tD t.2) (ts.map fun t=>V.ref t.1)
 | [],_=>.nil
 | t::ts,h=>.cons (by unfold tD RV; exact ⟨t.1,_,rfl,h t (qD4 ..),RVs.ints⟩) (zIY fun u hu=>h u (qC7 _ hu))
theorem zMI {ts:List (Addr × yA)}{nss:List (yA)} (hp:(ts.map (·.2)).Perm nss) (hs:LexS ts):(zEr nss).map tD=ts.map fun t=>tD t.2:=by
 rw [← zK3 hp (qK1.mpr hs),qE2]; rfl
noncomputable def zAy:yM→M D:=fun xs S=>match xs with
 | [.lst n]=>match (zA4 S n).bind zBW with
  | some ns=>if ns.length<64 then .ok (.lst S.length) (S++[.lst ((zCS ns).map D.int)]) else .bad
  | none=>match (zA4 S n).bind zIZ with
   | some nss=>.ok (.lst S.length) (S++[.lst ((zEr nss).map tD)])
   | none=>.bad
 | [.tup xs]=>match zBW xs with
  | some ns=>if ns.length<64 then .ok (.lst S.length) (S++[.lst ((zCS ns).map D.int)]) else .bad
  | none=>.bad
 | [.dct n]=>match S[n]? with
  | some (.dk kvs)=>match zRD kvs with
   | some ns=>if ns.length<64 then .ok (.lst S.length) (S++[.lst ((zCS ns).map D.int)]) else .bad
   | none=>.bad
  | some (.dt kvs)=>match zKM kvs with
   | some nss=>.ok (.lst S.length) (S++[.lst ((zEr nss).map tD)])
   | none=>.bad
  | _=>.bad
 | _=>.bad
theorem zNk (hc:X.calm=true) (hu:X.A.units+64<cLine):zDZ X.K (cAny X (.builtin "sorted")) zAy:=by
 intro xs S d S' H μ vs Q e sr rx h
 unfold zAy at e
 split at e
 ·split at e
  ·rename_i ns e1
   split at e
   ·rename_i hl
    cases e
    obtain ⟨ys,e2,e3⟩:=qA2.mp e1
    obtain ⟨v,rfl,r⟩:=rx.one
    unfold RV at r; obtain ⟨a,rfl,hm⟩:=r
    obtain ⟨ws,q,rr⟩:=sr.sq hm e2
    have z:=zDa e3 rr
    subst z
    refine ⟨_,zIu,a,ns,rfl,q,hl,fun l ms hl hp hs=>?_⟩
    rw [zGF hp hs]
    exact h.newL sr hl RVs.ints
   ·cases e
  ·split at e
   ·rename_i nss e1
    cases e
    obtain ⟨ys,e2,e3⟩:=qA2.mp e1
    obtain ⟨v,rfl,r⟩:=rx.one
    unfold RV at r; obtain ⟨a,rfl,hm⟩:=r
    obtain ⟨ws,q,rr⟩:=sr.sq hm e2
    obtain ⟨ts,t1,rfl,t3⟩:=zK2 e3 rr
    refine ⟨_,zGY hc (by omega),a,ts,rfl,q,fun t ht=>SqT.of (t3 t ht),fun l ts' hl hp hs=>?_⟩
    rw [zMI (by rw [← t1]; exact hp.map _) hs] at h
    exact h.newL sr hl (zIY fun t ht=>t3 t (hp.mem_iff.mp ht))
   ·cases e
 ·split at e
  ·rename_i ns e1
   split at e
   ·rename_i hl
    cases e
    obtain ⟨v,rfl,r⟩:=rx.one
    unfold RV at r
    obtain ⟨a,us,rfl,hp,ru⟩:=r
    rw [zDa e1 ru] at hp
    refine ⟨_,zIt hc,a,ns,rfl,SqT.of hp,hl,fun l ms hl hp hs=>?_⟩
    rw [zGF hp hs]
    exact h.newL sr hl RVs.ints
   ·cases e
  ·cases e
 ·split at e
  ·rename_i kvs e1
   split at e
   ·rename_i ns e2
    split at e
    ·rename_i hl
     cases e
     obtain ⟨v,rfl,r⟩:=rx.one
     unfold RV at r; obtain ⟨a,rfl,hm⟩:=r
     obtain ⟨ws,hw,rr⟩:=sr.get hm e1
     refine ⟨_,zIv hc,a,ws,ns,rfl,hw,by rw [← rr.1]; exact zHU e2,hl,fun l ms hl hp hs=>?_⟩
     rw [zGF hp hs]
     exact h.newL sr hl RVs.ints
    ·cases e
   ·cases e
  ·rename_i kvs e1
   split at e
   ·rename_i nss e2
    cases e
    obtain ⟨v,rfl,r⟩:=rx.one
    unfold RV at r; obtain ⟨a,rfl,hm⟩:=r
    obtain ⟨ws,hw,rr⟩:=sr.get hm e1
    refine ⟨_,zGZ hc (by omega),a,ws,nss,rfl,hw,by rw [← rr.1]; exact zHn e2,fun l ts hl t3 hp hs=>?_⟩
    rw [zMI hp hs] at h
    exact h.newL sr hl (zIY t3)
   ·cases e
  ·cases e
 ·cases e
def MtS (K:W.Frag) (T:String) (r:V→List V→Hp→VK→Prop) (o:D→yM→M D):Prop:=∀ x xs S d S' H μ v vs Q,o x xs S=.ok d S'→SR K μ S H→RV K H μ x v→RVs K H μ xs vs→Yld K μ H d S' Q→r v vs H Q
noncomputable def tyOk (T:String) (x:D) (S:zA0):Bool:=match x with
 | .lst n=>decide (T = "list")&&(zA4 S n).isSome
 | .dct n=>decide (T = "dict")&&(match S[n]? with | some (.dk _)=>true | some (.dt _)=>true | _=>false)
 | .int _=>decide (T = "int")
 | .str _=>decide (T = "str")
 | _=>false
theorem zPx {K:W.Frag}{H:Hp}{μ:yC}{S:zA0}{T:String}{x:D}{v:V} (sr:SR K μ S H) (h:tyOk T x S=true) (r:RV K H μ x v):tyV K T v H:=by
 unfold tyOk at h
 split at h
 ·simp only [qC6,decide_eq_true_eq] at h
  obtain ⟨h1,h2⟩:=h
  obtain ⟨xs,hx⟩:=qE9.mp h2
  unfold RV at r; obtain ⟨a,rfl,hm⟩:=r
  obtain ⟨vs,q,_⟩:=sr.sq hm hx
  exact .inl ⟨h1,vs,q⟩
 ·simp only [qC6,decide_eq_true_eq] at h
  obtain ⟨h1,h2⟩:=h
  unfold RV at r; obtain ⟨a,rfl,hm⟩:=r
  split at h2
  ·rename_i kvs ho
   obtain ⟨ws,q,_⟩:=sr.get hm ho
   exact .inr (.inr (.inl ⟨h1,.inl ⟨ws,q⟩⟩))
  ·rename_i kvs ho
   obtain ⟨ws,q,_⟩:=sr.get hm ho
   exact .inr (.inr (.inl ⟨h1,.inr ⟨ws,q⟩⟩))
  ·cases h2
 ·unfold RV at r; subst r
  exact (of_decide_eq_true h:T = "int")
 ·unfold RV at r; subst r
  exact (of_decide_eq_true h:T = "str")
 ·cases h
noncomputable def zH1 (T:String) (o:D→yM→M D) (a:C) (as:CA):C:=fun ρ=>bnd (a ρ) fun x S=>if tyOk T x S then bnd (as ρ) (fun xs=>o x xs) S else .bad
variable {o e:Expr}{es:yE}{co:C}{ca:CA}{name:Str}{apos cpos:Pos}{T id:String}{m:D→yM→M D}
theorem zM5 (pa:PlainAttrs T) (slot:Slot T name id) (hty:typeOf (.builtin id)=pure (.type "method_descriptor")) (hm:MtS X.K T (zEm X id) m) (ho:PE X o (tOf X.K co)) (ha:PA X (e::es) (tOfA X.K ca))
  (hbase:attributeBase o name X.env (eval o X.env)=eval o X.env)
  (hfew:((backTo cpos (starEach (e::es) X.env)).all (fun x=>!x.1)&&(backToKw cpos (keywordEach [] X.env)).all (fun x=>x.1.isSome)
   && decide ((e::es).length+([]:List Keyword).length+(if ([]:List Keyword).isEmpty then 0 else 1)<30))=true)
  (hline:(apos.endLine == cpos.line)=true) (hs:starEach (e::es) X.env=(false,eval e X.env)::starEach es X.env) (hplain:(backTo cpos (starEach es X.env)).any (·.1)=false) :
  PE X (.Call (.Attribute o name apos) (e::es) [] cpos) (tOf X.K (zH1 T m co ca)):=(zWa pa slot hty zTG ho ha hbase hfew hline hs hplain).weak (by
 rintro σ H Q ⟨μ,ρ,S,d,S',sr,re,e,y⟩
 obtain ⟨x,S1,e1,e⟩:=zA7 e
 split at e
 ·rename_i hk
  obtain ⟨xs,S2,e2,e⟩:=zA7 e
  refine ⟨μ,ρ,S,x,S1,sr,re,e1,fun v H1 μ1 sr1 st1 r1=>⟨zPx sr1 hk r1,μ1,ρ,S1,xs,S2,sr1,re.up st1,e2,fun vs H2 μ2 sr2 st2 r2=>?_⟩⟩
  exact hm x xs S2 d S' H2 μ2 v vs Q e sr2 (RV.up st2.tk st2.ext _ _ r1) r2 (y.shift (st1.trans st2 sr2.nd))
 ·cases e)
noncomputable def zKD (T:String) (o:D→yM→M D) (a:C):C:=fun ρ=>bnd (a ρ) fun x S=>if tyOk T x S then o x [] S else .bad
theorem zO8 (pa:PlainAttrs T) (slot:Slot T name id) (hty:typeOf (.builtin id)=pure (.type "method_descriptor")) (hm:MtS X.K T (zEm X id) m) (ho:PE X o (tOf X.K co))
  (hbase:attributeBase o name X.env (eval o X.env)=eval o X.env) (hline:(apos.endLine == cpos.line)=true):PE X (.Call (.Attribute o name apos) [] [] cpos) (tOf X.K (zKD T m co)):=(zTd pa slot hty zTG ho hbase hline).weak (by
 rintro σ H Q ⟨μ,ρ,S,d,S',sr,re,e,y⟩
 obtain ⟨x,S1,e1,e⟩:=zA7 e
 split at e
 ·rename_i hk
  exact ⟨μ,ρ,S,x,S1,sr,re,e1,fun v H1 μ1 sr1 st1 r1=>⟨zPx sr1 hk r1,hm x [] S1 d S' H1 μ1 v [] Q e sr1 r1 RVs.nil (y.shift st1)⟩⟩
 ·cases e)
noncomputable def zC4 (g:yM→yM→Option (yM × D)):D→yM→M D:=fun x xs S=>match x with
 | .lst n=>match S[n]? with
  | some (.lst ys)=>match g ys xs with
   | some (zs,d)=>.ok d (S.set n (.lst zs))
   | none=>.bad
  | _=>.bad
 | _=>.bad
theorem SR.putL {K:W.Frag}{H:Hp}{μ:yC}{S:zA0}{n:Nat}{p:Addr}{vs ws:List V}{zs:yM} (sr:SR K μ S H) (hn:μ[n]?=some p) (hp:H p=some (.lst vs)) (r:RVs K H μ zs ws):SR K μ (S.set n (.lst zs)) (upd H p (.lst ws))∧Step K μ μ H (upd H p (.lst ws)) :=
 sr.put hn hp (fun _ z=>by cases z) (fun _ _ z=>by cases z) ⟨ws,zAi,RVs.up (zK6 hp) ⟨[],by simp⟩ _ _ r⟩
theorem zJe {g:yM→yM→Option (yM × D)}
  (h:∀ (K:W.Frag) H μ ys xs zs d vs us,g ys xs=some (zs,d)→RVs K H μ ys vs→RVs K H μ xs us→∃ ws w,RVs K H μ zs ws∧RV K H μ d w∧∀ (p:Addr) (Q:VK),H p=some (.lst vs)→Q w (upd H p (.lst ws))→zEm X id (.ref p) us H Q):MtS X.K "list" (zEm X id) (zC4 g):=by
 intro x xs S d S' H μ v us Q e sr rx rs y
 unfold zC4 at e
 split at e
 ·rename_i n
  split at e
  ·rename_i ys ho
   split at e
   ·rename_i zs d' hg
    cases e
    unfold RV at rx; obtain ⟨p,rfl,hm⟩:=rx
    obtain ⟨vs,hp,rr⟩:=sr.lst hm ho
    obtain ⟨ws,w,r1,r2,fin⟩:=h X.K H μ ys xs zs d vs us hg rr rs
    obtain ⟨s1,s2⟩:=sr.putL hm hp r1
    exact fin p Q hp (y w _ μ s1 s2 (RV.up s2.tk s2.ext _ _ r2))
   ·cases e
  ·cases e
 ·cases e
noncomputable def zB7:yM→yM→Option (yM × D):=fun ys xs=>match xs with
 | [x]=>if ys.length<lim then some (ys++[x],.non) else none
 | _=>none
theorem zMC:MtS X.K "list" (zEm X "list.append") (zC4 zB7):=zJe fun K H μ ys xs zs d vs us e r1 r2=>by
 unfold zB7 at e
 split at e
 ·split at e
  ·rename_i hl; cases e
   obtain ⟨v,rfl,r3⟩:=r2.one
   exact ⟨vs++[v],.non,r1.append (.cons r3 .nil),zHA,fun p Q hp q=>⟨_,zHL,p,vs,v,rfl,rfl,hp,by rw [← r1.len]; exact zKl hl,q⟩⟩
  ·cases e
 ·cases e
noncomputable def zEe:yM→yM→Option (yM × D):=fun ys xs=>match xs with
 | [.int i,x]=>if ys.length<1000∧0≤i∧i.toNat≤ys.length then some (ys.take i.toNat++x::ys.drop i.toNat,.non) else none
 | _=>none
theorem zMB:MtS X.K "list" (zEm X "list.insert") (zC4 zEe):=zJe fun K H μ ys xs zs d vs us e r1 r2=>by
 unfold zEe at e
 split at e
 ·rename_i i x
  split at e
  ·rename_i hl; cases e
   obtain ⟨h1,h2,h3⟩:=hl
   obtain ⟨v,u,rfl,r3,r4⟩:=r2.two
   unfold RV at r3; subst r3
   have ei:i=((i.toNat:Nat):Int):=by omega
   exact ⟨vs.take i.toNat++u::vs.drop i.toNat,.non,(r1.take _).append (.cons r4 (r1.drop _)),zHA,fun p Q hp q=>⟨_,zMA,p,vs,i.toNat,u,rfl,by rw [← ei],hp,by rw [← r1.len]; exact h1,by rw [← r1.len]; exact h3,q⟩⟩
  ·cases e
 ·cases e
noncomputable def gPop:yM→yM→Option (yM × D):=fun ys xs=>match xs with
 | []=>match ys[ys.length - 1]? with
  | some y=>some (ys.dropLast,y)
  | none=>none
 | _=>none
theorem RVs.dropLast {K:W.Frag}{H:Hp}{μ:yC}{ds:yM}{vs:List V} (r:RVs K H μ ds vs):RVs K H μ ds.dropLast vs.dropLast:=by
 rw [qQ2,qQ2,r.len]
 exact r.take _
theorem zTH:MtS X.K "list" (zEm X "list.pop") (zC4 gPop):=zJe fun K H μ ys xs zs d vs us e r1 r2=>by
 unfold gPop at e
 split at e
 ·split at e
  ·rename_i y hy; cases e
   have:=r2.nil_inv
   subst this
   obtain ⟨v,e1,r3⟩:=r1.get hy
   exact ⟨vs.dropLast,v,r1.dropLast,r3,fun p Q hp q=>⟨_,zTF,p,vs,v,rfl,rfl,hp,by rw [← r1.len]; exact e1,q⟩⟩
  ·cases e
 ·cases e
noncomputable def zKY (n:Nat) (i v:D) (S:zA0):Option zA0:=match S[n]?,i with
 | some (.dt kvs),.tup ks=>match ks.mapM zD7 with
  | some k=>if kvs.length<lim then some (S.set n (.dt (putD kvs k v))) else none
  | none=>none
 | some (.dk []),.tup ks=>match ks.mapM zD7 with
  | some k=>some (S.set n (.dt [(k,v)]))
  | none=>none
 | _,_=>none
theorem zHw (hu:X.A.units+1<cLine):PSet X (fun o i v H Q=>∃ a b k,o=.ref a∧i=.ref b∧H b=some (.tup (k.map kV))∧((∃ kvs,H a=some (.dT kvs)∧kvs.length<sizeLine∧Q (upd H a (.dT (putK kvs k v))))∨(H a=some (.dK [])∧Q (upd H a (.dT [(k,v)]))))):=by
 intro pins s σ H o i v ov iv u Q I ro ri rv h
 obtain ⟨a,b,k,rfl,rfl,hb,⟨kvs,ha,hl,q⟩ | ⟨ha,q⟩⟩:=h
 ·obtain rfl:ov=Value.ref a:=ro
  exact zFh hu I (DPut.t ha hb hl) ri rv fun s4 I4=>⟨_,I4,q⟩
 ·obtain rfl:ov=Value.ref a:=ro
  have hb':upd H a (.dT []) b=some (.tup (k.map kV)):=by
   rw [zAb (fun z=>by rw [z,ha] at hb; cases hb)]; exact hb
  refine zFh hu (I.dTnil ha) (DPut.t (kvs:=[]) zAi hb' (by decide)) ri rv fun s4 I4=>⟨_,I4,?_⟩
  rw [zQb]
  exact q
noncomputable def oSet:D→D→D→zA0→Option zA0:=fun x i v S=>match x with
 | .lst n=>match S[n]?,i with
  | some (.lst ys),.int k=>match ixN ys.length k with
   | some j=>some (S.set n (.lst (ys.set j v)))
   | none=>none
  | _,_=>none
 | .dct n=>match S[n]?,zD7 i with
  | some (.dk kvs),some k=>if kvs.length<lim then some (S.set n (.dk (putD kvs k v))) else none
  | _,_=>zKY n i v S
 | _=>none
theorem zO6 (hu:X.A.units+1<cLine):PSet X (fun o i v H Q=>∃ a H4,o=.ref a∧DPut H a i v H4∧Q H4):=by
 intro pins s σ H o i v ov iv u Q I ro ri rv h
 obtain ⟨a,H4,rfl,g,q⟩:=h
 obtain rfl:ov=Value.ref a:=ro
 exact zFh hu I g ri rv fun s4 I4=>⟨H4,I4,q⟩
theorem zQN (hu:X.A.units+1<cLine) {x i v:D}{S S':zA0}{H:Hp}{μ:yC}{ov iv vv:V}{Q:Hp→Prop} (e:oSet x i v S=some S') (sr:SR X.K μ S H) (rx:RV X.K H μ x ov) (ri:RV X.K H μ i iv) (rv:RV X.K H μ v vv) (y:∀ H' ,SR X.K μ S' H'→Step X.K μ μ H H'→Q H'):zM4 X ov iv vv H Q:=by
 unfold oSet at e
 split at e
 ·split at e
  ·rename_i ys k ho
   split at e
   ·rename_i j hj
    cases e
    unfold RV at rx ri; obtain ⟨p,rfl,hm⟩:=rx; subst ri
    obtain ⟨vs,hp,rr⟩:=sr.lst hm ho
    obtain ⟨s1,s2⟩:=sr.putL hm hp (rr.set rv j)
    exact ⟨_,zO5,p,vs,k,j,rfl,rfl,hp,by rw [← rr.len]; exact hj,y _ s1 s2⟩
   ·cases e
  ·cases e
 ·split at e
  ·rename_i kvs k ho hk
   split at e
   ·rename_i hl
    cases e
    unfold RV at rx; obtain ⟨p,rfl,hm⟩:=rx
    obtain ⟨ws,hp,rr⟩:=sr.get hm ho
    have z:=zGE hk ri
    subst z
    have tk:TF X.K H (upd H p (.dK (putK ws k vv))):=zFZ hp (fun _ z=>by cases z) (fun _ _ z=>by cases z)
    obtain ⟨s1,s2⟩:=sr.put (o:=.dK (putK ws k vv)) (o':=.dk (putD kvs k v)) hm hp (fun _ z=>by cases z) (fun _ _ z=>by cases z) ⟨_,zAi,(rr.put rv).up tk ⟨[],by simp⟩⟩
    exact ⟨_,zO6 hu,p,_,rfl,DPut.k hp (by rw [← rr.len]; exact zKl hl),y _ s1 s2⟩
   ·cases e
  ·rename_i hno
   clear hno
   unfold zKY at e
   unfold RV at rx; obtain ⟨p,rfl,hm⟩:=rx
   split at e
   ·rename_i kvs ks ho
    unfold RV at ri; obtain ⟨b,bs,rfl,hb,rb⟩:=ri
    split at e
    ·rename_i k hk
     have:=zKo hk rb
     subst this
     split at e
     ·rename_i hl
      cases e
      obtain ⟨ws,hp,rr⟩:=sr.get hm ho
      have tk:TF X.K H (upd H p (.dT (putK ws k vv))):=zFZ hp (fun _ z=>by cases z) (fun _ _ z=>by cases z)
      obtain ⟨s1,s2⟩:=sr.put (o:=.dT (putK ws k vv)) (o':=.dt (putD kvs k v)) hm hp (fun _ z=>by cases z) (fun _ _ z=>by cases z) ⟨_,zAi,(rr.put rv).up tk ⟨[],by simp⟩⟩
      exact ⟨_,zHw hu,p,b,k,rfl,rfl,hb,.inl ⟨ws,hp,by rw [← rr.len]; exact zKl hl,y _ s1 s2⟩⟩
     ·cases e
    ·cases e
   ·rename_i ks ho
    unfold RV at ri; obtain ⟨b,bs,rfl,hb,rb⟩:=ri
    split at e
    ·rename_i k hk
     cases e
     have:=zKo hk rb
     subst this
     obtain ⟨ws,hw,rr⟩:=sr.get hm ho
     have w0:ws=[]:=qF1.mp rr.len.symm
     subst w0
     have tk:TF X.K H (upd H p (.dT [(k,vv)])):=zFZ hw (fun _ z=>by cases z) (fun _ _ z=>by cases z)
     obtain ⟨s1,s2⟩:=sr.put (o:=.dT [(k,vv)]) (o':=.dt [(k,v)]) hm hw (fun _ z=>by cases z) (fun _ _ z=>by cases z) ⟨_,zAi,RKs.cons (RV.up tk ⟨[],by simp⟩ _ _ rv) .nil⟩
     exact ⟨_,zHw hu,p,b,k,rfl,rfl,hb,.inr ⟨hw,y _ s1 s2⟩⟩
    ·cases e
   ·cases e
 ·cases e
end
open PySem PySem.Spec PyProof.Rows
inductive RS where
 | bad | nx (ρ:Env1) (S:zA0) | rt (d:D) (S:zA0) | bk (ρ:Env1) (S:zA0) | ct (ρ:Env1) (S:zA0) | er (c:Str) (S:zA0)
noncomputable abbrev CS:=Env1→zA0→RS
def zIQ (X:Cx) (μ:yC) (H:Hp) (E:Ends):RS→Prop
 | .bad=>False
 | .er _ _=>False
 | .nx ρ' S'=>∀ σ' H' μ',SR X.K μ' S' H'→Step X.K μ μ' H H'→RE X.K H' μ' ρ' σ'→E.nx σ' H'
 | .bk ρ' S'=>∀ σ' H' μ',SR X.K μ' S' H'→Step X.K μ μ' H H'→RE X.K H' μ' ρ' σ'→E.bk σ' H'
 | .ct ρ' S'=>∀ σ' H' μ',SR X.K μ' S' H'→Step X.K μ μ' H H'→RE X.K H' μ' ρ' σ'→E.ct σ' H'
 | .rt d S'=>Yld X.K μ H d S' E.rt
inductive tOfS (X:Cx) (c:CS) (E:Ends) (σ:St) (H:Hp):Prop
 | mk (μ:yC) (ρ:Env1) (S:zA0) (sr:SR X.K μ S H) (re:RE X.K H μ ρ σ) (y:zIQ X μ H E (c ρ S))
theorem zIQ.shift {X:Cx}{μ μ1:yC}{H H1:Hp}{E:Ends}{r:RS} (h:zIQ X μ H E r) (st:Step X.K μ μ1 H H1):zIQ X μ1 H1 E r:=by
 cases r with
 | bad=>exact h
 | er _ _=>exact h
 | nx ρ S=>exact fun σ' H' μ' sr s2 re=>h σ' H' μ' sr (st.trans s2 sr.nd) re
 | bk ρ S=>exact fun σ' H' μ' sr s2 re=>h σ' H' μ' sr (st.trans s2 sr.nd) re
 | ct ρ S=>exact fun σ' H' μ' sr s2 re=>h σ' H' μ' sr (st.trans s2 sr.nd) re
 | rt d S=>exact Yld.shift h st
noncomputable def zA6:CS:=fun ρ S=>.nx ρ S
noncomputable def sBrk:CS:=fun ρ S=>.bk ρ S
noncomputable def sCnt:CS:=fun ρ S=>.ct ρ S
noncomputable def sBad:CS:=fun _ _=>.bad
noncomputable def zQD:CS:=fun _ S=>.rt .non S
noncomputable def sRet (c:C):CS:=fun ρ S=>match c ρ S with
 | .ok d S'=>.rt d S'
 | .bad=>.bad
 | .er _ _=>.bad
noncomputable def zEI (c:C):CS:=fun ρ S=>match c ρ S with
 | .ok _ S'=>.nx ρ S'
 | .bad=>.bad
 | .er _ _=>.bad
noncomputable def sSeq (a b:CS):CS:=fun ρ S=>match a ρ S with
 | .nx ρ' S'=>b ρ' S'
 | r=>r
noncomputable def sIf (t:CT) (a b:CS):CS:=fun ρ S=>match t ρ S with
 | .ok k S'=>if k then a ρ S' else b ρ S'
 | .bad=>.bad
 | .er _ _=>.bad
noncomputable abbrev G:=D→Env1→M Env1
noncomputable def sAsg (c:C) (g:G):CS:=fun ρ S=>match c ρ S with
 | .ok d S'=>match g d ρ S' with
  | .ok ρ' S2=>.nx ρ' S2
  | .bad=>.bad
  | .er _ _=>.bad
 | .bad=>.bad
 | .er _ _=>.bad
section
variable {X:Cx}{e a b tg:Expr}{ce ca cb:C}{pos:Pos}
theorem zQl:PS X (.Pass pos) (tOfS X zA6):=zQP.weak fun E σ H ⟨μ,ρ,S,sr,re,p⟩=>p σ H μ sr (Step.refl _ _ _) re
theorem zSw:PS X (.Break pos) (tOfS X sBrk):=zOn.weak fun E σ H ⟨μ,ρ,S,sr,re,p⟩=>p σ H μ sr (Step.refl _ _ _) re
theorem zSv:PS X (.Continue pos) (tOfS X sCnt):=zJ6.weak fun E σ H ⟨μ,ρ,S,sr,re,p⟩=>p σ H μ sr (Step.refl _ _ _) re
theorem zSx {st:Stmt}:PS X st (tOfS X sBad):=zOm.weak fun E σ H ⟨μ,ρ,S,sr,re,p⟩=>p
theorem zQk:PS X (.Return none pos) (tOfS X zQD):=zQO.weak fun E σ H ⟨μ,ρ,S,sr,re,p⟩=>p _ H μ sr (Step.refl _ _ _) zHA
theorem zSt (he:PE X e (tOf X.K ce)):PS X (.Return (some e) pos) (tOfS X (sRet ce)):=(zSZ he).weak (by
 rintro E σ H ⟨μ,ρ,S,sr,re,p⟩
 unfold sRet at p
 split at p
 ·rename_i d S' h
  exact ⟨μ,ρ,S,d,S',sr,re,h,p⟩
 ·exact False.elim p
 ·exact False.elim p)
theorem zQm (he:PE X e (tOf X.K ce)) (hs:swapsWith e none pos.line X.env=pure false):PS X (.Expr e pos) (tOfS X (zEI ce)):=(zQQ he hs).weak (by
 rintro E σ H ⟨μ,ρ,S,sr,re,p⟩
 unfold zEI at p
 split at p
 ·rename_i d S' h
  exact ⟨μ,ρ,S,d,S',sr,re,h,fun v H1 μ1 sr1 st1 r1=>p σ H1 μ1 sr1 st1 (re.up st1)⟩
 ·exact False.elim p
 ·exact False.elim p)
theorem zQj:PSs X [] (tOfS X zA6):=zQM.weak fun E σ H ⟨μ,ρ,S,sr,re,p⟩=>p σ H μ sr (Step.refl _ _ _) re
theorem zO2 {st:Stmt}{rest:List Stmt}{c1 c2:CS} (h1:PS X st (tOfS X c1)) (h2:PSs X rest (tOfS X c2)):PSs X (st::rest) (tOfS X (sSeq c1 c2)):=(zOk h1 h2).weak (by
 rintro E σ H ⟨μ,ρ,S,sr,re,p⟩
 refine ⟨μ,ρ,S,sr,re,?_⟩
 unfold sSeq at p
 revert p
 cases c1 ρ S with
 | nx ρ' S'=>exact fun p σ' H' μ' sr' st' re'=>⟨μ',ρ',S',sr',re',p.shift st'⟩
 | bad=>exact fun p=>p
 | er _ _=>exact fun p=>p
 | rt _ _=>exact fun p=>p
 | bk _ _=>exact fun p=>p
 | ct _ _=>exact fun p=>p)
theorem zVO {t:Expr}{ct:CT}{as bs:List Stmt}{c1 c2:CS} (ht:PT X t (tOfT X.K ct)) (h1:PSs X as (tOfS X c1)) (h2:PSs X bs (tOfS X c2)):PS X (.If t as bs pos) (tOfS X (sIf ct c1 c2)):=(zW5 ht h1 h2).weak (by
 rintro E σ H ⟨μ,ρ,S,sr,re,p⟩
 unfold sIf at p
 split at p
 ·rename_i k S' h
  refine ⟨μ,ρ,S,k,S',sr,re,h,fun H1 μ1 sr1 st1=>?_⟩
  cases k with
  | true=>rw [if_pos rfl] at p ⊢; exact ⟨μ1,ρ,S',sr1,re.up st1,p.shift st1⟩
  | false=>rw [if_neg qB2] at p ⊢; exact ⟨μ1,ρ,S',sr1,re.up st1,p.shift st1⟩
 ·exact False.elim p
 ·exact False.elim p)
inductive tOfG (K:W.Frag) (g:G) (v:V) (σ:St) (H:Hp) (Q:St→Hp→Prop):Prop
 | mk (μ:yC) (ρ:Env1) (S:zA0) (d:D) (ρ':Env1) (S':zA0) (sr:SR K μ S H) (re:RE K H μ ρ σ) (rv:RV K H μ d v) (e:g d ρ S=.ok ρ' S') (y:∀ σ' H' μ',SR K μ' S' H'→Step K μ μ' H H'→RE K H' μ' ρ' σ'→Q σ' H')
theorem PG.weak {t t':TG} (h:PG X tg t) (w:∀ v σ H Q,t' v σ H Q→t v σ H Q):PG X tg t':=fun pins s σ H v u Q I r q=>h pins s σ H v u Q I r (w v σ H Q q)
noncomputable def gN (i:Nat):G:=fun d ρ S=>.ok (ρ.set i (some d)) S
theorem zQv {i:Nat}{x:Str} (h:PG X (.Name x pos) (zJv i)):PG X (.Name x pos) (tOfG X.K (gN i)):=h.weak (by
 rintro v σ H Q ⟨μ,ρ,S,d,ρ',S',sr,re,rv,e,y⟩
 unfold gN at e; cases e
 exact y _ H μ sr (Step.refl _ _ _) (re.set rv i))
noncomputable def gS (co ci:C):G:=fun d ρ=>bnd (co ρ) fun o=>bnd (ci ρ) fun i S=>match oSet o i d S with
 | some S'=>.ok ρ S'
 | none=>.bad
theorem zSD (hu:X.A.units+1<cLine) (ho:PE X a (tOf X.K ca)) (hi:PE X b (tOf X.K cb)) (ha:∀ v,assign (.Subscript a b pos) X.env v=(do
   let ov ← holding [v] (eval a X.env)
   let iv ← holding [v,ov] (eval b X.env)
   standAt pos
   holding [v,ov,iv] (setItem ov iv v)
   release [v,ov,iv] [])):PG X (.Subscript a b pos) (tOfG X.K (gS ca cb)):=(zT3 ho hi zSE ha).weak (by
 rintro v σ H Q ⟨μ,ρ,S,d,ρ',S',sr,re,rv,e,y⟩
 obtain ⟨x,S1,e1,e⟩:=zA7 e
 obtain ⟨z,S2,e2,e⟩:=zA7 e
 split at e
 ·rename_i S3 e3
  cases e
  refine ⟨μ,ρ,S,x,S1,sr,re,e1,fun ov H1 μ1 sr1 st1 r1=>⟨μ1,ρ,S1,z,S2,sr1,re.up st1,e2,fun iv H2 μ2 sr2 st2 r2=>?_⟩⟩
  have st12:=st1.trans st2 sr2.nd
  refine zQN hu e3 sr2 (RV.up st2.tk st2.ext _ _ r1) r2 (RV.up st12.tk st12.ext _ _ rv) fun H3 sr3 st3=>?_
  exact y σ H3 μ2 sr3 (st12.trans st3 sr3.nd) (re.up (st12.trans st3 sr3.nd))
 ·cases e)
noncomputable def gTs:List G→yM→Env1→M Env1
 | [],[]=>fun ρ=>ret ρ
 | g::gs,d::ds=>fun ρ=>bnd (g d ρ) fun ρ1=>gTs gs ds ρ1
 | _,_=>fun _=>bad
noncomputable def gT (gs:List G):G:=fun d ρ=>match d with
 | .tup xs=>gTs gs xs ρ
 | _=>bad
inductive zLV (K:W.Frag) (gs:List G) (vs:List V) (σ:St) (H:Hp) (Q:St→Hp→Prop):Prop
 | mk (μ:yC) (ρ:Env1) (S:zA0) (ds:yM) (ρ':Env1) (S':zA0) (sr:SR K μ S H) (re:RE K H μ ρ σ) (rv:RVs K H μ ds vs) (e:gTs gs ds ρ S=.ok ρ' S') (y:∀ σ' H' μ',SR K μ' S' H'→Step K μ μ' H H'→RE K H' μ' ρ' σ'→Q σ' H')
theorem PGs.weak {es:yE}{t t':TGs} (h:PGs X es t) (w:∀ v σ H Q,t' v σ H Q→t v σ H Q):PGs X es t':=fun pins s σ H v u Q I r q=>h pins s σ H v u Q I r (w v σ H Q q)
theorem zQu:PGs X [] (zLV X.K []):=zMj.weak (by
 rintro v σ H Q ⟨μ,ρ,S,ds,ρ',S',sr,re,rv,e,y⟩
 cases ds with
 | nil =>
  obtain ⟨rfl,rfl⟩:=zAm e
  exact ⟨rv.nil_inv,y σ H μ sr (Step.refl _ _ _) re⟩
 | cons d ds=>cases e)
theorem zO4 {es:yE}{g:G}{gs:List G} (h1:PG X e (tOfG X.K g)) (h2:PGs X es (zLV X.K gs)) (hs:(assignEach (e::es) X.env).map (·.2)=assign e X.env::(assignEach es X.env).map (·.2)):PGs X (e::es) (zLV X.K (g::gs)):=(zKb h1 h2 hs).weak (by
 rintro v σ H Q ⟨μ,ρ,S,ds,ρ',S',sr,re,rv,e,y⟩
 cases ds with
 | nil=>cases e
 | cons d ds =>
  obtain ⟨ρ1,S1,e1,e⟩:=zA7 e
  obtain ⟨u,us,rfl,r1,r2⟩:=rv.cons_inv
  refine ⟨u,us,rfl,μ,ρ,S,d,ρ1,S1,sr,re,r1,e1,fun σ1 H1 μ1 sr1 st1 re1=>?_⟩
  exact ⟨μ1,ρ1,S1,ds,ρ',S',sr1,re1,RVs.up st1.tk st1.ext _ _ r2,e,fun σ2 H2 μ2 sr2 st2 re2=>y σ2 H2 μ2 sr2 (st1.trans st2 sr2.nd) re2⟩)
theorem zRI {gs:List G}:∀ {ds:yM}{ρ ρ':Env1}{S S':zA0},gTs gs ds ρ S=.ok ρ' S'→ds.length=gs.length:=by
 induction gs with
 | nil=>intro ds ρ ρ' S S' e; cases ds with | nil=>rfl | cons _ _=>cases e
 | cons g gs ih =>
  intro ds ρ ρ' S S' e
  cases ds with
  | nil=>cases e
  | cons d ds =>
   obtain ⟨ρ1,S1,e1,e⟩:=zA7 e
   rw [qC3,qC3,ih e]
theorem zSC {es:yE}{k:Nat}{gs:List G} (hc:X.calm=true) (h:PGs X es (zLV X.K gs)) (hn:(assignEach es X.env).length=gs.length) (hst:(assignEach es X.env).findIdx? (·.1)=none):PG X (.Tuple es k pos) (tOfG X.K (gT gs)) :=
 (zPG hc h hn hst).weak (by
 rintro v σ H Q ⟨μ,ρ,S,d,ρ',S',sr,re,rv,e,y⟩
 unfold gT at e
 split at e
 ·rename_i xs
  unfold RV at rv
  obtain ⟨p,vs,rfl,q,rr⟩:=rv
  exact ⟨p,vs,rfl,SqT.of q,by rw [← rr.len]; exact zRI e,μ,ρ,S,xs,ρ',S',sr,re,rr,e,y⟩
 ·cases e)
theorem zPz {g:G} (he:PE X e (tOf X.K ce)) (hg:PG X tg (tOfG X.K g)) (hs:swapsWithSole [tg] e pos.line X.env=pure false) (hw:swappedStores [tg] e X.env=pure none) (h1:(assignEach [tg] X.env).map (·.2)=[assign tg X.env]):PS X (.Assign [tg] e pos) (tOfS X (sAsg ce g)):=(zT1 he hg hs hw h1).weak (by
 rintro E σ H ⟨μ,ρ,S,sr,re,p⟩
 unfold sAsg at p
 split at p
 ·rename_i d S' h
  split at p
  ·rename_i ρ' S2 h2
   refine ⟨μ,ρ,S,d,S',sr,re,h,fun v H1 μ1 sr1 st1 r1=>⟨μ1,ρ,S',d,ρ',S2,sr1,re.up st1,r1,h2,fun σ2 H2 μ2 sr2 st2 re2=>?_⟩⟩
   exact p σ2 H2 μ2 sr2 (st1.trans st2 sr2.nd) re2
  ·exact False.elim p
  ·exact False.elim p
 ·exact False.elim p
 ·exact False.elim p)
theorem zSs {i:Nat}{x:Str}{pos':Pos} (h:PS X (.Assign [.Name x pos'] e pos) (tAsg (tOf X.K ce) (zJv i))):PS X (.Assign [.Name x pos'] e pos) (tOfS X (sAsg ce (gN i))):=h.weak (by
 rintro E σ H ⟨μ,ρ,S,sr,re,p⟩
 unfold sAsg at p
 split at p
 ·rename_i d S' h
  have e2:gN i d ρ S'=.ok (ρ.set i (some d)) S':=rfl
  rw [e2] at p
  exact ⟨μ,ρ,S,d,S',sr,re,h,fun v H1 μ1 sr1 st1 r1=>p _ H1 μ1 sr1 st1 ((re.up st1).set r1 i)⟩
 ·exact False.elim p
 ·exact False.elim p)
noncomputable def zCN:Nat→CT→CS→CS
 | 0,_,_=>fun _ _=>.bad
 | k+1,t,b=>fun ρ S=>match t ρ S with
  | .ok true S1=>match b ρ S1 with
   | .nx ρ2 S2=>zCN k t b ρ2 S2
   | .ct ρ2 S2=>zCN k t b ρ2 S2
   | .bk ρ2 S2=>.nx ρ2 S2
   | r=>r
  | .ok false S1=>.nx ρ S1
  | .bad=>.bad
  | .er _ _=>.bad
theorem zO3 {t:Expr}{ct:CT}{body:List Stmt}{cb:CS} (k:Nat) (hp:PassesOwn (model X.prog X.w) X.A X.env X.xe) (ht:PT X t (tOfT X.K ct)) (hb:PSs X body (tOfS X cb)):PS X (.While t body [] pos) (tOfS X (zCN k ct cb)):=(zOl hp ht hb).weak (by
 rintro E σ0 H0 ⟨μ0,ρ0,S0,sr0,re0,p0⟩
 refine ⟨fun m σ H=>∃ μ ρ S,SR X.K μ S H∧Step X.K μ0 μ H0 H∧RE X.K H μ ρ σ∧zIQ X μ H E (zCN m ct cb ρ S),⟨k,μ0,ρ0,S0,sr0,Step.refl _ _ _,re0,p0⟩,?_⟩
 rintro m σ H ⟨μ,ρ,S,sr,st,re,p⟩
 cases m with
 | zero=>exact False.elim p
 | succ m =>
  unfold zCN at p
  split at p
  ·rename_i S1 h
   refine ⟨μ,ρ,S,true,S1,sr,re,h,fun H1 μ1 sr1 st1=>?_⟩
   dsimp only
   rw [if_pos rfl]
   refine ⟨fun σ' H'=>∃ μ ρ S,SR X.K μ S H'∧Step X.K μ0 μ H0 H'∧RE X.K H' μ ρ σ'∧zIQ X μ H' E (zCN m ct cb ρ S),fun σ' H' h=>⟨m,qM0 m,h⟩,μ1,ρ,S1,sr1,re.up st1,?_⟩
   have st01:=st.trans st1 sr1.nd
   revert p
   cases cb ρ S1 with
   | nx ρ2 S2=>exact fun p σ2 H2 μ2 sr2 st2 re2=>⟨μ2,ρ2,S2,sr2,st01.trans st2 sr2.nd,re2,p.shift (st1.trans st2 sr2.nd)⟩
   | ct ρ2 S2=>exact fun p σ2 H2 μ2 sr2 st2 re2=>⟨μ2,ρ2,S2,sr2,st01.trans st2 sr2.nd,re2,p.shift (st1.trans st2 sr2.nd)⟩
   | bk ρ2 S2=>exact fun p σ2 H2 μ2 sr2 st2 re2=>p σ2 H2 μ2 sr2 (st1.trans st2 sr2.nd) re2
   | rt d S2=>exact fun p=>Yld.shift p st1
   | bad=>exact fun p=>p
   | er _ _=>exact fun p=>p
  ·rename_i S1 h
   refine ⟨μ,ρ,S,false,S1,sr,re,h,fun H1 μ1 sr1 st1=>?_⟩
   dsimp only
   rw [if_neg qB2]
   exact p σ H1 μ1 sr1 st1 (re.up st1)
  ·exact False.elim p
  ·exact False.elim p)
noncomputable abbrev zDe:=List (Nat × yM)
def okW (w:zDe) (S:zA0):Prop:=∀ p∈w,zA4 S p.1=some p.2
noncomputable abbrev CI:=Env1→M (yM × zDe)
structure ItOk (K:W.Frag) (J:It) (items:yM) (w:zDe) (μ0:yC) (H0:Hp):Prop where
 go:∀ (i:Nat) H μ S,SR K μ S H→Step K μ0 μ H0 H→okW w S→i<items.length→J.go i H
 yld:∀ (i:Nat) H μ S x H',SR K μ S H→Step K μ0 μ H0 H→okW w S→i<items.length→J.yld i H x H'→∃ d,items[i]?=some d∧SR K μ S H'∧Step K μ μ H H'∧RV K H' μ d x
 stop:∀ H μ S,SR K μ S H→Step K μ0 μ H0 H→okW w S→J.stop items.length H
inductive tOfI (K:W.Frag) (it:CI) (σ:St) (H:Hp) (R:It→Hp→Prop):Prop
 | mk (μ:yC) (ρ:Env1) (S:zA0) (items:yM) (w:zDe) (S':zA0) (sr:SR K μ S H) (re:RE K H μ ρ σ) (e:it ρ S=.ok (items,w) S') (y:∀ J H' μ',SR K μ' S' H'→Step K μ μ' H H'→ItOk K J items w μ' H'→R J H')
theorem PI.weak {iter:Expr}{t t':TI} (h:PI X tg iter t) (w:∀ σ H R,t' σ H R→t σ H R):PI X tg iter t':=fun pins s σ H R I q=>h pins s σ H R I (w σ H R q)
theorem Step.at {K:W.Frag}{μ μ':yC}{H H':Hp} (st:Step K μ μ' H H') {n:Nat}{a:Addr} (h:μ[n]?=some a):μ'[n]?=some a:=by
 obtain ⟨ν,rfl⟩:=st.ext
 rw [qA7 (qA4.mp h).1]; exact h
open Classical in
noncomputable def zBg (w:zDe) (g:G) (b:CS):yM→CS
 | []=>fun ρ S=>if okW w S then .nx ρ S else .bad
 | d::ds=>fun ρ S=>if okW w S then (match g d ρ S with
  | .ok ρ1 S1=>match b ρ1 S1 with
   | .nx ρ2 S2=>zBg w g b ds ρ2 S2
   | .ct ρ2 S2=>zBg w g b ds ρ2 S2
   | .bk ρ2 S2=>.nx ρ2 S2
   | r=>r
  | .bad=>.bad
  | .er _ _=>.bad) else .bad
noncomputable def sFor (it:CI) (g:G) (b:CS):CS:=fun ρ S=>match it ρ S with
 | .ok (items,w) S1=>zBg w g b items ρ S1
 | .bad=>.bad
 | .er _ _=>.bad
theorem zSu {iter:Expr}{body:List Stmt}{it:CI}{g:G}{cb:CS} (hp:PassesOwn (model X.prog X.w) X.A X.env X.xe) (hc:X.calm=true) (hi:PI X tg iter (tOfI X.K it)) (hg:PG X tg (tOfG X.K g)) (hb:PSs X body (tOfS X cb))
  (hs:∀ x,foldedSetIterable iter X.env x=pure x):PS X (.For tg iter body [] pos) (tOfS X (sFor it g cb)):=(zT0 hp hc hi hg hb hs).weak (by
 rintro E σ H ⟨μ,ρ,S,sr,re,p⟩
 unfold sFor at p
 split at p
 ·rename_i items w S0 h0
  refine ⟨μ,ρ,S,items,w,S0,sr,re,h0,fun J H0 μ0 sr0 st0 io=>?_⟩
  refine ⟨fun i m σ H=>i+m=items.length∧∃ μ ρ S,SR X.K μ S H∧Step X.K μ0 μ H0 H∧RE X.K H μ ρ σ∧zIQ X μ H E (zBg w g cb (items.drop i) ρ S),⟨items.length,by simp,μ0,ρ,S0,sr0,Step.refl _ _ _,re.up st0,by rw [qN7]; exact p.shift st0⟩,?_⟩
  rintro i m σ1 H1 ⟨him,μ1,ρ1,S1,sr1,st1,re1,p1⟩
  by_cases hi:i<items.length
  ·rw [qF6 hi] at p1
   unfold zBg at p1
   split at p1
   ·rename_i hw
    refine .inr ⟨io.go i H1 μ1 S1 sr1 st1 hw hi,fun σ' H'=>i+1+(m - 1)=items.length∧∃ μ ρ S,SR X.K μ S H'∧Step X.K μ0 μ H0 H'∧RE X.K H' μ ρ σ'∧zIQ X μ H' E (zBg w g cb (items.drop (i+1)) ρ S),fun σ' H' z=>⟨m - 1,by omega,z⟩,fun x H2 hy=>?_⟩
    obtain ⟨d,hd,sr2,st2,rv⟩:=io.yld i H1 μ1 S1 x H2 sr1 st1 hw hi hy
    have ed:items[i]=d:=by rw [qA5 hi] at hd; exact Option.some.inj hd
    rw [ed] at p1
    split at p1
    ·rename_i ρ3 S3 h3
     refine ⟨μ1,ρ1,S1,d,ρ3,S3,sr2,re1.up st2,rv,h3,fun σ3 H3 μ3 sr3 st3 re3=>⟨μ3,ρ3,S3,sr3,re3,?_⟩⟩
     have st23:=st2.trans st3 sr3.nd
     have st03:=st1.trans st23 sr3.nd
     revert p1
     cases cb ρ3 S3 with
     | nx ρ4 S4=>exact fun p σ4 H4 μ4 sr4 st4 re4=>⟨by omega,μ4,ρ4,S4,sr4,st03.trans st4 sr4.nd,re4,p.shift (st23.trans st4 sr4.nd)⟩
     | ct ρ4 S4=>exact fun p σ4 H4 μ4 sr4 st4 re4=>⟨by omega,μ4,ρ4,S4,sr4,st03.trans st4 sr4.nd,re4,p.shift (st23.trans st4 sr4.nd)⟩
     | bk ρ4 S4=>exact fun p σ4 H4 μ4 sr4 st4 re4=>p σ4 H4 μ4 sr4 (st23.trans st4 sr4.nd) re4
     | rt d S4=>exact fun p=>Yld.shift p st23
     | bad=>exact fun p=>p
     | er _ _=>exact fun p=>p
    ·exact False.elim p1
    ·exact False.elim p1
   ·exact False.elim p1
  ·have e:i=items.length:=by omega
   subst e
   rw [qM3] at p1
   unfold zBg at p1
   split at p1
   ·rename_i hw
    exact .inl ⟨io.stop H1 μ1 S1 sr1 st1 hw,p1 σ1 H1 μ1 sr1 (Step.refl _ _ _) re1⟩
   ·exact False.elim p1
 ·exact False.elim p
 ·exact False.elim p)
end
open PySem PySem.Spec PyProof.Rows
section
variable {X:Cx}{tg e:Expr}{ce:C}{pos:Pos}
noncomputable def iSeq (c:C):CI:=fun ρ=>bnd (c ρ) fun x S=>match x with
 | .tup xs=>.ok (xs,[]) S
 | .lst n=>match zA4 S n with
  | some xs=>.ok (xs,[(n,xs)]) S
  | none=>.bad
 | _=>.bad
theorem zUd {K:W.Frag}{H0:Hp}{μ0:yC}{a:Addr}{xs:yM}{vs:List V} (q:SqT K H0 a vs) (r:RVs K H0 μ0 xs vs):ItOk K (Itt K a) xs [] μ0 H0 where
 go:=fun i H μ S sr st _ hi=>by
  obtain ⟨v,e,_⟩:=r.get (qA5 hi)
  exact ⟨vs,v,st.tk.t _ _ q,e⟩
 yld:=fun i H μ S x H' sr st _ hi y=>by
  obtain ⟨rfl,y⟩:=y
  obtain ⟨v,e,rv⟩:=r.get (qA5 hi)
  have:=y vs (st.tk.t _ _ q)
  rw [e] at this; cases this
  exact ⟨xs[i],qA5 hi,sr,Step.refl _ _ _,RV.up st.tk st.ext _ _ rv⟩
 stop:=fun H μ S sr st _=>⟨vs,st.tk.t _ _ q,by rw [r.len]; exact qA9 _⟩
theorem zUe {K:W.Frag}{H0:Hp}{μ0:yC}{a:Addr}{n:Nat}{xs:yM} (hm:μ0[n]?=some a):ItOk K (Itl K a) xs [(n,xs)] μ0 H0 where
 go:=fun i H μ S sr st w hi=>by
  obtain ⟨vs,q,r⟩:=sr.sq (st.at hm) (w (n,xs) (by simp))
  obtain ⟨v,e,_⟩:=r.get (qA5 hi)
  exact ⟨vs,v,q,e⟩
 yld:=fun i H μ S x H' sr st w hi y=>by
  obtain ⟨rfl,y⟩:=y
  obtain ⟨vs,q,r⟩:=sr.sq (st.at hm) (w (n,xs) (by simp))
  obtain ⟨v,e,rv⟩:=r.get (qA5 hi)
  have:=y vs q
  rw [e] at this; cases this
  exact ⟨xs[i],qA5 hi,sr,Step.refl _ _ _,rv⟩
 stop:=fun H μ S sr st w=>by
  obtain ⟨vs,q,r⟩:=sr.sq (st.at hm) (w (n,xs) (by simp))
  exact ⟨vs,q,by rw [r.len]; exact qA9 _⟩
theorem zT2 {tl:TE} (hl:PE X e tl):PI X tg e (fun σ H R=>tl σ H fun x H1=>∃ a,x=.ref a∧((∃ xs,SqL X.K H1 a xs)∧R (Itl X.K a) H1∨(∃ xs,SqT X.K H1 a xs)∧R (Itt X.K a) H1
  )):=by
 intro pins s σ H R I h
 refine thn (hl pins s σ H _ I h) fun v s1 ⟨x,H1,I1,r1,q1⟩=>?_
 obtain ⟨a,e,q⟩:=q1
 subst e
 cases r1
 rcases q with ⟨⟨xs,hq⟩,q⟩ | ⟨⟨xs,hq⟩,q⟩
 ·obtain ⟨its,rv,p,hz⟩:=I1.list hq
  refine wpAny_pyIter_list p.isList ?_
  refine ⟨s1.heap.objs.size,[s1.heap.objs.size],_,_,H1,rfl,I1.kept (t':=s1.toks) fun b o e=>qA3 _ e,zLN a _,⟨_,qB3 _ rfl,rfl,rfl⟩,fun b hb=>?_,q⟩
  have e:b=s1.heap.objs.size:=by simpa using hb
  subst e
  exact I1.fpOk (qA9 _) (I1.hok.fresh (qA9 _))
 ·obtain ⟨its,rv,p,hz⟩:=I1.tuple hq
  refine wpAny_pyIter_tuple (show s1.heap.IsTuple a its.toArray from p) ?_
  refine ⟨s1.heap.objs.size,[s1.heap.objs.size],_,_,H1,rfl,I1.kept (t':=s1.toks) fun b o e=>qA3 _ e,zKK a _,⟨_,qB3 _ rfl,rfl,rfl⟩,fun b hb=>?_,q⟩
  have e:b=s1.heap.objs.size:=by simpa using hb
  subst e
  exact I1.fpOk (qA9 _) (I1.hok.fresh (qA9 _))
theorem zSB (he:PE X e (tOf X.K ce)):PI X tg e (tOfI X.K (iSeq ce)):=(zT2 he).weak (by
 rintro σ H R ⟨μ,ρ,S,items,w,S',sr,re,e,y⟩
 obtain ⟨x,S1,e1,e⟩:=zA7 e
 refine ⟨μ,ρ,S,x,S1,sr,re,e1,fun v H1 μ1 sr1 st1 r1=>?_⟩
 try dsimp only at e
 split at e
 ·rename_i xs
  cases e
  have r1':=r1
  unfold RV at r1'; obtain ⟨a,vs,rfl,q,rr⟩:=r1'
  exact ⟨a,rfl,.inr ⟨⟨vs,SqT.of q⟩,y _ H1 μ1 sr1 st1 (zUd (SqT.of q) rr)⟩⟩
 ·rename_i n
  split at e
  ·rename_i xs hx
   cases e
   unfold RV at r1; obtain ⟨a,rfl,hm⟩:=r1
   obtain ⟨vs,q,rr⟩:=sr1.sq hm hx
   exact ⟨a,rfl,.inl ⟨⟨vs,q⟩,y _ H1 μ1 sr1 st1 (zUe hm)⟩⟩
  ·cases e
 ·cases e)
noncomputable def upD (lo:Int) (n:Nat):yM:=(List.range n).map fun k=>D.int (lo+(k:Nat))
theorem zPL {K:W.Frag}{H0:Hp}{μ0:yC}{lo:Int}{n:Nat}:ItOk K (Itr lo n) (upD lo n) [] μ0 H0 where
 go:=fun i H μ S sr st _ hi=>by
  unfold upD at hi; simp at hi; exact hi
 yld:=fun i H μ S x H' sr st _ hi y=>by
  obtain ⟨rfl,rfl⟩:=y
  have hi':i<n:=by unfold upD at hi; simp at hi; exact hi
  exact ⟨.int (lo+i),by unfold upD; rw [qB7,qJ0 hi']; rfl,sr,Step.refl _ _ _,zAT⟩
 stop:=fun H μ S sr st _=>by
  show n≤(upD lo n).length
  unfold upD; simp
noncomputable def zB6 (a:CA):CI:=fun ρ=>bnd (a ρ) fun xs S=>match xs with
 | [.int j]=>if -4611686018427387904≤j∧j<4611686018427387904 then .ok (upD 0 j.toNat,[]) S else .bad
 | _=>.bad
noncomputable def zFb (a:CA):CI:=fun ρ=>bnd (a ρ) fun xs S=>match xs with
 | [.int i,.int j]=>if -4611686018427387904≤i∧i<4611686018427387904∧-4611686018427387904≤j∧j<4611686018427387904 then .ok (upD i (j - i).toNat,[]) S else .bad
 | _=>.bad
variable {a b:Expr}{ca:CA}
theorem zM3 {p:Pos} (h:PI X tg (.Call (.Name "range" p) [a] [] pos) (zUl (tOfA X.K ca))):PI X tg (.Call (.Name "range" p) [a] [] pos) (tOfI X.K (zB6 ca)):=h.weak (by
 rintro σ H R ⟨μ,ρ,S,items,w,S',sr,re,e,y⟩
 obtain ⟨xs,S1,e1,e⟩:=zA7 e
 refine ⟨μ,ρ,S,xs,S1,sr,re,e1,fun vs H1 μ1 sr1 st1 r1=>?_⟩
 try dsimp only at e
 split at e
 ·rename_i j
  split at e
  ·rename_i hl
   cases e
   obtain ⟨v,rfl,r2⟩:=r1.one
   unfold RV at r2; subst r2
   exact ⟨j,rfl,hl.1,hl.2,y _ H1 μ1 sr1 st1 zPL⟩
  ·cases e
 ·cases e)
theorem zM2 {p:Pos} (h:PI X tg (.Call (.Name "range" p) [a,b] [] pos) (zUk (tOfA X.K ca))):PI X tg (.Call (.Name "range" p) [a,b] [] pos) (tOfI X.K (zFb ca)):=h.weak (by
 rintro σ H R ⟨μ,ρ,S,items,w,S',sr,re,e,y⟩
 obtain ⟨xs,S1,e1,e⟩:=zA7 e
 refine ⟨μ,ρ,S,xs,S1,sr,re,e1,fun vs H1 μ1 sr1 st1 r1=>?_⟩
 try dsimp only at e
 split at e
 ·rename_i i j
  split at e
  ·rename_i hl
   cases e
   obtain ⟨v,u,rfl,r2,r3⟩:=r1.two
   unfold RV at r2 r3; subst r2 r3
   exact ⟨i,j,rfl,hl,y _ H1 μ1 sr1 st1 zPL⟩
  ·cases e
 ·cases e)
theorem zLI {α β:Type}{xs:List α}{ys:List β}{i:Nat} (h:i<(xs.zip ys).length):∃ x y,xs[i]?=some x∧ys[i]?=some y∧(xs.zip ys)[i]?=some (x,y):=by
 rw [qP9] at h
 have h1:i<xs.length:=by omega
 have h2:i<ys.length:=by omega
 exact ⟨xs[i],ys[i],qA5 h1,qA5 h2,by rw [qF7]; exact ⟨qA5 h1,qA5 h2⟩⟩
noncomputable def zipD (xs ys:yM):yM:=(xs.zip ys).map fun p=>.tup [p.1,p.2]
noncomputable def zsAt (S:zA0):D→Option (yM)
 | .tup xs=>some xs
 | .lst n=>zA4 S n
 | _=>none
noncomputable def zCT (x:D) (xs:yM):zDe:=match x with
 | .lst n=>[(n,xs)]
 | _=>[]
theorem zPA {K:W.Frag}{μ:yC}{S:zA0}{H:Hp}{x:D}{v:V}{xs:yM} (sr:SR K μ S H) (r:RV K H μ x v) (ho:zsAt S x=some xs):∃ a b,v=.ref a∧(∃ vs,SqX b K H a vs) ∧
  ∀ H1 μ1 S1,SR K μ1 S1 H1→Step K μ μ1 H H1→okW (zCT x xs) S1→∃ vs,SqX b K H1 a vs∧RVs K H1 μ1 xs vs:=by
 unfold zsAt at ho
 split at ho
 ·rename_i ys
  cases ho
  unfold RV at r; obtain ⟨a,vs,rfl,q,rr⟩:=r
  exact ⟨a,true,rfl,⟨vs,SqT.of q⟩,fun H1 μ1 S1 sr1 st1 _=>⟨vs,st1.tk.t _ _ (SqT.of q),RVs.up st1.tk st1.ext _ _ rr⟩⟩
 ·rename_i n
  unfold RV at r; obtain ⟨a,rfl,hm⟩:=r
  obtain ⟨vs,q,rr⟩:=sr.sq hm ho
  exact ⟨a,false,rfl,⟨vs,q⟩,fun H1 μ1 S1 sr1 st1 w=>sr1.sq (st1.at hm) (w (n,xs) (by simp [zCT]))⟩
 ·cases ho
theorem zE6 {w1 w2:zDe}{S:zA0}:okW (w1++w2) S↔okW w1 S∧okW w2 S:=by
 unfold okW
 simp only [qB4]
 exact ⟨fun h=>⟨fun p hp=>h p (.inl hp),fun p hp=>h p (.inr hp)⟩,fun h p hp=>hp.elim (h.1 p) (h.2 p)⟩
theorem zRA {K:W.Frag}{H0:Hp}{μ0:yC}{a b:Addr}{b1 b2:Bool}{w1 w2:zDe}{xs ys:yM}
  (g1:∀ H1 μ1 S1,SR K μ1 S1 H1→Step K μ0 μ1 H0 H1→okW w1 S1→∃ vs,SqX b1 K H1 a vs∧RVs K H1 μ1 xs vs) (g2:∀ H1 μ1 S1,SR K μ1 S1 H1→Step K μ0 μ1 H0 H1→okW w2 S1→∃ vs,SqX b2 K H1 b vs∧RVs K H1 μ1 ys vs) :
  ItOk K (ItzX b1 b2 K a b) (zipD xs ys) (w1++w2) μ0 H0 where
 go:=fun i H μ S sr st w hi=>by
  obtain ⟨vs,q,r⟩:=g1 H μ S sr st (zE6.mp w).1
  obtain ⟨us,q2,r2⟩:=g2 H μ S sr st (zE6.mp w).2
  obtain ⟨x,y,e1,e2,_⟩:=zLI (xs:=xs) (ys:=ys) (i:=i) (by unfold zipD at hi; simpa using hi)
  obtain ⟨v,g1,_⟩:=r.get e1
  obtain ⟨u,g2,_⟩:=r2.get e2
  exact ⟨vs,us,v,u,q,q2,g1,g2⟩
 yld:=fun i H μ S x H' sr st w hi y=>by
  obtain ⟨T,hT,rfl,y⟩:=y
  obtain ⟨vs,q,r⟩:=g1 H μ S sr st (zE6.mp w).1
  obtain ⟨us,q2,r2⟩:=g2 H μ S sr st (zE6.mp w).2
  obtain ⟨x,y',e1,e2,e3⟩:=zLI (xs:=xs) (ys:=ys) (i:=i) (by unfold zipD at hi; simpa using hi)
  obtain ⟨v,g1,rv⟩:=r.get e1
  obtain ⟨u,g2,ru⟩:=r2.get e2
  have:=y vs us v u q q2 g1 g2
  subst this
  obtain ⟨s1,s2,s3⟩:=zGx (p:=T) sr hT (.cons rv (.cons ru .nil))
  exact ⟨.tup [x,y'],by unfold zipD; rw [qB7,e3]; rfl,s1,s2,s3⟩
 stop:=fun H μ S sr st w=>by
  obtain ⟨vs,q,r⟩:=g1 H μ S sr st (zE6.mp w).1
  obtain ⟨us,q2,r2⟩:=g2 H μ S sr st (zE6.mp w).2
  exact ⟨vs,us,q,q2,by unfold zipD; rw [qA6,qP9,r.len,r2.len]⟩
noncomputable def zP5 (a:CA):CI:=fun ρ=>bnd (a ρ) fun xs S=>match xs with
 | [x,y]=>match zsAt S x,zsAt S y with
  | some ys,some zs=>.ok (zipD ys zs,zCT x ys++zCT y zs) S
  | _,_=>.bad
 | _=>.bad
theorem zSA {elts:yE}{k:Nat}{tpos p:Pos} (h:PI X (.Tuple elts k tpos) (.Call (.Name "zip" p) [a,b] [] pos) (zUj X.K (tOfA X.K ca))):PI X (.Tuple elts k tpos) (.Call (.Name "zip" p) [a,b] [] pos) (tOfI X.K (zP5 ca)):=h.weak (by
 rintro σ H R ⟨μ,ρ,S,items,w,S',sr,re,e,y⟩
 obtain ⟨xs,S1,e1,e⟩:=zA7 e
 refine ⟨μ,ρ,S,xs,S1,sr,re,e1,fun vs H1 μ1 sr1 st1 r1=>?_⟩
 try dsimp only at e
 split at e
 ·rename_i x1 x2
  split at e
  ·rename_i ys zs h1 h2
   cases e
   obtain ⟨v,u,rfl,r2,r3⟩:=r1.two
   obtain ⟨a,b1,rfl,q1,g1⟩:=zPA sr1 r2 h1
   obtain ⟨b,b2,rfl,q2,g2⟩:=zPA sr1 r3 h2
   exact ⟨a,b,b1,b2,rfl,q1,q2,y _ H1 μ1 sr1 st1 (zRA g1 g2)⟩
  ·cases e
 ·cases e)
noncomputable def zBw (xs:yM):yM:=((List.range xs.length).zip xs).map fun p=>.tup [.int (p.1:Nat),p.2]
theorem zKw {xs:yM}{i:Nat} (h:i<xs.length):(zBw xs)[i]?=some (.tup [.int (i:Nat),xs[i]]):=by
 unfold zBw
 rw [qB7]
 have:((List.range xs.length).zip xs)[i]?=some (i,xs[i]):=by
  rw [qF7]
  exact ⟨qJ0 h,qA5 h⟩
 rw [this]; rfl
theorem zDq (xs:yM):(zBw xs).length=xs.length:=by unfold zBw; simp
theorem zOV {K:W.Frag}{H0:Hp}{μ0:yC}{a:Addr}{xs:yM}{vs:List V} (q:SqT K H0 a vs) (r:RVs K H0 μ0 xs vs):ItOk K (IteX true K a) (zBw xs) [] μ0 H0 where
 go:=fun i H μ S sr st _ hi=>by
  rw [zDq] at hi
  obtain ⟨v,e,_⟩:=r.get (qA5 hi)
  exact ⟨vs,v,st.tk.t _ _ q,e⟩
 yld:=fun i H μ S x H' sr st _ hi y=>by
  rw [zDq] at hi
  obtain ⟨T,hT,rfl,y⟩:=y
  obtain ⟨v,e,rv⟩:=r.get (qA5 hi)
  have:=y vs v (st.tk.t _ _ q) e
  subst this
  obtain ⟨s1,s2,s3⟩:=zGx (p:=T) sr hT (.cons zAT (.cons (RV.up st.tk st.ext _ _ rv) .nil))
  exact ⟨_,zKw hi,s1,s2,s3⟩
 stop:=fun H μ S sr st _=>⟨vs,st.tk.t _ _ q,by rw [zDq,r.len]⟩
theorem zOW {K:W.Frag}{H0:Hp}{μ0:yC}{a:Addr}{n:Nat}{xs:yM} (hm:μ0[n]?=some a):ItOk K (IteX false K a) (zBw xs) [(n,xs)] μ0 H0 where
 go:=fun i H μ S sr st w hi=>by
  rw [zDq] at hi
  obtain ⟨vs,q,r⟩:=sr.sq (st.at hm) (w (n,xs) (by simp))
  obtain ⟨v,e,_⟩:=r.get (qA5 hi)
  exact ⟨vs,v,q,e⟩
 yld:=fun i H μ S x H' sr st w hi y=>by
  rw [zDq] at hi
  obtain ⟨T,hT,rfl,y⟩:=y
  obtain ⟨vs,q,r⟩:=sr.sq (st.at hm) (w (n,xs) (by simp))
  obtain ⟨v,e,rv⟩:=r.get (qA5 hi)
  have:=y vs v q e
  subst this
  obtain ⟨s1,s2,s3⟩:=zGx (p:=T) sr hT (.cons zAT (.cons rv .nil))
  exact ⟨_,zKw hi,s1,s2,s3⟩
 stop:=fun H μ S sr st w=>by
  obtain ⟨vs,q,r⟩:=sr.sq (st.at hm) (w (n,xs) (by simp))
  exact ⟨vs,q,by rw [zDq,r.len]⟩
noncomputable def zEo (a:CA):CI:=fun ρ=>bnd (a ρ) fun xs S=>match xs with
 | [.tup ys]=>.ok (zBw ys,[]) S
 | [.lst n]=>match zA4 S n with
  | some ys=>.ok (zBw ys,[(n,ys)]) S
  | none=>.bad
 | _=>.bad
theorem zQt {elts:yE}{k:Nat}{tpos p:Pos} (h:PI X (.Tuple elts k tpos) (.Call (.Name "enumerate" p) [a] [] pos) (zPR X.K (tOfA X.K ca))):PI X (.Tuple elts k tpos) (.Call (.Name "enumerate" p) [a] [] pos) (tOfI X.K (zEo ca)):=h.weak (by
 rintro σ H R ⟨μ,ρ,S,items,w,S',sr,re,e,y⟩
 obtain ⟨xs,S1,e1,e⟩:=zA7 e
 refine ⟨μ,ρ,S,xs,S1,sr,re,e1,fun vs H1 μ1 sr1 st1 r1=>?_⟩
 try dsimp only at e
 split at e
 ·rename_i ys
  cases e
  obtain ⟨v,rfl,r2⟩:=r1.one
  unfold RV at r2
  obtain ⟨a,vs,rfl,q,rr⟩:=r2
  exact ⟨a,rfl,.inl ⟨⟨vs,SqT.of q⟩,y _ H1 μ1 sr1 st1 (zOV (SqT.of q) rr)⟩⟩
 ·rename_i n
  split at e
  ·rename_i ys ho
   cases e
   obtain ⟨v,rfl,r2⟩:=r1.one
   unfold RV at r2
   obtain ⟨a,rfl,hm⟩:=r2
   obtain ⟨vs,q,_⟩:=sr1.sq hm ho
   exact ⟨a,rfl,.inr ⟨⟨vs,q⟩,y _ H1 μ1 sr1 st1 (zOW hm)⟩⟩
  ·cases e
 ·cases e)
noncomputable def stE (k:Nat) (js:List Nat) (ρ:Env1):Env1:=qL2 k none++js.map fun j=>(ρ[j]?).getD none
theorem RE.comp {K:W.Frag}{H:Hp}{μ:yC}{ρ:Env1}{σ:St} (re:RE K H μ ρ σ) (k:Nat) (js:List Nat):RE K H μ (stE k js ρ) (stC k js σ):=by
 refine ⟨by unfold stE stC; simp,fun i d e=>?_⟩
 unfold stE at e
 unfold stC
 by_cases hi:i<k
 ·rw [qA7 (by simpa using hi),qJ2] at e
  simp [hi] at e
 ·rw [qA0 (by simpa using hi),qI5,qB7] at e
  rw [qA0 (by simpa using hi),qI5,qB7]
  cases q:js[i - k]? with
  | none=>rw [q] at e; simp at e
  | some j =>
   rw [q] at e
   simp only [qP8,Option.some.injEq] at e
   cases q2:ρ[j]? with
   | none=>rw [q2] at e; simp at e
   | some z =>
    rw [q2] at e
    simp at e
    subst e
    obtain ⟨v,e1,r1⟩:=re.2 j d q2
    exact ⟨v,by simp [e1],r1⟩
inductive Tgt where
 | one | many (k:Nat)
noncomputable def zAX:Env1→Nat→yM→Env1
 | ρ,_,[]=>ρ
 | ρ,s,x::xs=>zAX (ρ.set s (some x)) (s+1) xs
noncomputable def zFt (t:Tgt) (d:D) (ρ:Env1):Option Env1:=match t with
 | .one=>some (ρ.set 0 (some d))
 | .many k=>match d with
  | .tup xs=>if xs.length=k then some (zAX ρ 0 xs) else none
  | _=>none
noncomputable def zKu:Nat→Nat→TGs
 | _,0=>gNil
 | s,n+1=>zUq (zJv s) (zKu (s+1) n)
noncomputable def tgtK:Tgt→Nat
 | .one=>1
 | .many k=>k
noncomputable def tOfT' (K:W.Frag):Tgt→TG
 | .one=>zJv 0
 | .many k=>gTup K k (zKu 0 k)
theorem zJZ {k:Nat}{js:List Nat}{σ σ1:St} (h:zIP (stC k js σ) σ1) {i:Nat} (hi:i<k) (v:V):zIP (stC k js σ) (σ1.set i (some v)):=by
 refine ⟨by rw [qN0]; exact h.1,fun j u e=>?_⟩
 by_cases hj:i=j
 ·subst hj
  obtain ⟨_,h1,_⟩:=zLY e
  omega
 ·rw [qE1 hj]
  exact h.2 j u e
theorem zHh (σ:St):zIP σ σ:=⟨rfl,fun _ _ h=>h⟩
theorem zKg {K:W.Frag}{H:Hp}{μ:yC}{k:Nat}{js:List Nat}{σ:St}{Q:St→Hp→Prop}:∀ {n s:Nat}{xs:yM}{vs:List V}{ρ1:Env1}{σ1:St},RVs K H μ xs vs→xs.length=n→s+n≤k→RE K H μ ρ1 σ1→zIP (stC k js σ) σ1→(∀ σ4,RE K H μ (zAX ρ1 s xs) σ4→zIP (stC k js σ) σ4→Q σ4 H)→zKu s n vs σ1 H Q
 | 0,s,xs,vs,ρ1,σ1,r,hl,hk,re,w,h=>by
  have:xs=[]:=qF1.mp hl
  subst this
  exact ⟨r.nil_inv,h σ1 re w⟩
 | n+1,s,[],vs,ρ1,σ1,r,hl,hk,re,w,h=>by simp at hl
 | n+1,s,x::xs,vs,ρ1,σ1,r,hl,hk,re,w,h=>by
  obtain ⟨v,us,rfl,r1,r2⟩:=r.cons_inv
  exact ⟨v,us,rfl,zKg r2 (by simpa using hl) (by omega) (re.set r1 s) (zJZ w (by omega) v) h⟩
theorem zRX {K:W.Frag}{H:Hp}{μ:yC}{k:Nat}{js:List Nat}{σ:St}{ρ ρ4:Env1}{t:Tgt}{d:D}{x:V}{Q:St→Hp→Prop} (ht:tgtK t≤k) (re:RE K H μ (stE k js ρ) (stC k js σ)) (rv:RV K H μ d x) (e:zFt t d (stE k js ρ)=some ρ4) (h:∀ σ4,RE K H μ ρ4 σ4→zIP (stC k js σ) σ4→Q σ4 H) (h1:1≤k):tOfT' K t x (stC k js σ) H Q:=by
 cases t with
 | one =>
  cases e
  exact h _ (re.set rv 0) (zJZ (zHh _) h1 x)
 | many n =>
  unfold zFt at e
  dsimp only at e
  split at e
  ·rename_i xs
   split at e
   ·rename_i hl
    cases e
    unfold RV at rv
    obtain ⟨p,vs,rfl,q,rr⟩:=rv
    exact ⟨p,vs,rfl,SqT.of q,by rw [← rr.len]; exact hl,zKg rr hl (by have:n≤k:=ht; omega) re (zHh _) h⟩
   ·cases e
  ·cases e
open Classical in
noncomputable def zAh (w:zDe) (t:Tgt) (tc:CT) (c:C) (ρ0:Env1):yM→M (yM)
 | []=>fun S=>if okW w S then .ok [] S else .bad
 | d::ds=>fun S=>if okW w S then (match zFt t d ρ0 with
  | some ρ1=>bnd (tc ρ1) (fun k=>if k then bnd (c ρ1) fun y=>bnd (zAh w t tc c ρ0 ds) fun ys=>ret (y::ys) else zAh w t tc c ρ0 ds) S
  | none=>.bad) else .bad
noncomputable def zBc (it:CI) (k:Nat) (js:List Nat) (t:Tgt) (tc:CT) (c:C):C:=fun ρ=>bnd (it ρ) fun p S=>if p.1.length<lim then
  bnd (zAh p.2 t tc c (stE k js ρ) p.1) (fun ys S'=>.ok (.lst S'.length) (S'++[.lst ys])) S
 else .bad
theorem SR.acc {K:W.Frag}{H:Hp}{μ:yC}{S:zA0}{A:Addr}{us ws:List V} (sr:SR K μ S H) (hA:A∉μ) (h:H A=some (.lst us)):SR K μ S (upd H A (.lst ws)) :=
 ⟨sr.len,sr.nd,fun n a o e1 e2=>(sr.obj n a o e1 e2).up (zK6 h) ⟨[],by simp⟩ (zAb fun z=>hA (z▸qC0 e1))⟩
theorem Step.acc {K:W.Frag}{H0 H:Hp}{μ0 μ:yC}{A:Addr}{us ws:List V} (st:Step K μ0 μ H0 H) (h0:H0 A=none) (h:H A=some (.lst us)):Step K μ0 μ H0 (upd H A (.lst ws)) :=
 ⟨st.pre,fun b o hb e=>by rw [zAb (zAx e h0)]; exact st.fr b o hb e,st.tk.trans (zK6 h)⟩
theorem SR.adopt {K:W.Frag}{H:Hp}{μ:yC}{S:zA0}{A:Addr}{us:List V}{acc:yM} (sr:SR K μ S H) (hA:A∉μ) (h:H A=some (.lst us)) (r:RVs K H μ acc us):SR K (μ++[A]) (S++[.lst acc]) H:=by
 refine ⟨by simp [sr.len],?_,fun n a u e1 e2=>?_⟩
 ·rw [qG7]
  refine ⟨sr.nd,by simp,fun a ha b hb=>?_⟩
  simp at hb; subst hb
  exact fun z=>hA (z▸ha)
 ·by_cases hn:n<μ.length
  ·rw [qA7 hn] at e1
   rw [qA7 (by rw [← sr.len]; exact hn)] at e2
   exact (sr.obj n a u e1 e2).up (TF.refl _ _) ⟨[A],rfl⟩ rfl
  ·rw [qA0 (by omega)] at e1
   rw [qA0 (by rw [← sr.len]; omega)] at e2
   have h1:n - μ.length=0:=by
    have:=(qA4.mp e1).1
    simp at this; omega
   rw [h1] at e1
   rw [← sr.len,h1] at e2
   simp at e1 e2
   subst e1 e2
   exact ⟨us,h,RVs.up (TF.refl _ _) ⟨[A],rfl⟩ _ _ r⟩
theorem Step.adopt {K:W.Frag}{H0 H:Hp}{μ0 μ:yC}{A:Addr} (st:Step K μ0 μ H0 H) (h0:H0 A=none):Step K μ0 (μ++[A]) H0 H:=by
 obtain ⟨ν,e,n⟩:=st.pre
 refine ⟨⟨ν++[A],by rw [e,qB8],fun b hb=>?_⟩,st.fr,st.tk⟩
 rcases qB4.mp hb with h | h
 ·exact n b h
 ·simp at h; subst h; exact h0
theorem Step.notIn {K:W.Frag}{H H':Hp}{μ μ':yC}{A:Addr}{o:HO} (st:Step K μ μ' H H') (hA:A∉μ) (h:H A=some o):A∉μ':=fun z=>by
 obtain ⟨ν,rfl,n⟩:=st.pre
 rcases qB4.mp z with q | q
 ·exact hA q
 ·rw [n A q] at h; cases h
inductive zXj (K:W.Frag) (items:yM) (w:zDe) (t:Tgt) (tc:CT) (c:C) (ρ0:Env1) (μ0:yC) (H0:Hp) (A:Addr) (S1:zA0) (ys:yM) (i m:Nat) (us:List V) (H2:Hp):Prop
 | mk (him:i+m=items.length) (hus:us.length≤i) (μ2:yC) (S2:zA0) (acc rest:yM) (sr:SR K μ2 S2 H2) (st:Step K μ0 μ2 H0 H2) (nA:A∉μ2) (hA:H2 A=some (.lst us)) (ra:RVs K H2 μ2 acc us) (el:zAh w t tc c ρ0 (items.drop i) S2=.ok rest S1) (eys:acc++rest=ys)
theorem zMr {σ:St}{H:Hp}{Q:VK}{it:CI}{k:Nat}{js:List Nat}{t:Tgt}{tc:CT}{c:C} (ht:tgtK t≤k) (h1:1≤k) (h:tOf X.K (zBc it k js t tc c) σ H Q):zQh (tOfI X.K it) k js (tOfT' X.K t) (tOfT X.K tc) (tOf X.K c) σ H Q:=by
 obtain ⟨μ,ρ,S,d,S',sr,re,e,y⟩:=h
 obtain ⟨⟨items,w⟩,S0,e0,f0⟩:=zA7 e
 dsimp only at f0
 split at f0
 ·rename_i hlim
  obtain ⟨ys,S1,e1,f1⟩:=zA7 f0
  cases f1
  refine ⟨μ,ρ,S,items,w,S0,sr,re,e0,fun J H0 μ0 sr0 st0 io A hA=>?_⟩
  have reC:=(re.up st0).comp k js
  obtain ⟨srA,stA⟩:=sr0.other (o:=.lst []) hA
  have nA:A∉μ0:=sr0.out hA
  refine ⟨zXj X.K items w t tc c (stE k js ρ) μ0 H0 A S1 ys,
   ⟨items.length,⟨by simp,qG0 _,μ0,S0,[],ys,srA,stA,nA,zAi,RVs.nil,by rw [qN7]; exact e1,rfl⟩⟩,?_⟩
  rintro i m us H2 ⟨him,hus,μ2,S2,acc,rest,sr2,st2,nA2,hA2,racc,el,eys⟩
  refine And.intro hA2 ?_
  by_cases hi:i<items.length
  ·rw [qF6 hi] at el
   unfold zAh at el
   split at el
   ·rename_i hw
    refine .inr ⟨io.go i H2 μ2 S2 sr2 st2 hw hi,zKl (by omega),fun x H3 hy=>?_⟩
    obtain ⟨d,hd,sr3,st3,rv⟩:=io.yld i H2 μ2 S2 x H3 sr2 st2 hw hi hy
    have ed:items[i]=d:=by rw [qA5 hi] at hd; exact Option.some.inj hd
    rw [ed] at el
    have hA3:H3 A=some (.lst us):=st3.fr A _ nA2 hA2
    have st03:=st2.trans st3 sr3.nd
    split at el
    ·rename_i ρ4 h4
     refine zRX ht (reC.up st03) rv h4 (fun σ4 re4 wk=>⟨wk,?_⟩) h1
     obtain ⟨kb,S3,e3,f3⟩:=zA7 el
     refine ⟨μ2,ρ4,S2,kb,S3,sr3,re4,e3,fun H5 μ5 sr5 st5=>?_⟩
     have hA5:H5 A=some (.lst us):=st5.fr A _ nA2 hA3
     have nA5:=st5.notIn nA2 hA3
     have st05:=st03.trans st5 sr5.nd
     have st25:=st3.trans st5 sr5.nd
     cases kb with
     | true =>
      rw [if_pos rfl] at f3 ⊢
      obtain ⟨z,S4,e4,f4⟩:=zA7 f3
      obtain ⟨zs,S5,e5,f5⟩:=zA7 f4
      obtain ⟨rfl,rfl⟩:=zAm f5
      refine ⟨μ5,ρ4,S3,z,S4,sr5,re4.up st5,e4,fun v H6 μ6 sr6 st6 rv6=>?_⟩
      have hA6:H6 A=some (.lst us):=st6.fr A _ nA5 hA5
      have nA6:=st6.notIn nA5 hA5
      have st26:=st25.trans st6 sr6.nd
      have tku:TF X.K H6 (upd H6 A (.lst (us++[v]))):=zK6 hA6
      refine ⟨hA6,m - 1,by omega,⟨by omega,by rw [qB1]; show us.length+1≤i+1; omega,μ6,S4,acc++[z],zs,sr6.acc nA6 hA6,(st05.trans st6 sr6.nd).acc hA hA6,nA6,zAi,?_,e5,by rw [qB8]; exact eys⟩⟩
      exact RVs.up tku ⟨[],by simp⟩ _ _ ((RVs.up st26.tk st26.ext _ _ racc).append (.cons rv6 .nil))
     | false =>
      rw [if_neg qB2] at f3 ⊢
      exact ⟨m - 1,by omega,⟨by omega,by omega,μ5,S3,acc,rest,sr5,st05,nA5,hA5,RVs.up st25.tk st25.ext _ _ racc,f3,eys⟩⟩
    ·cases el
   ·cases el
  ·have ei:i=items.length:=by omega
   subst ei
   rw [qM3] at el
   unfold zAh at el
   split at el
   ·rename_i hw
    cases el
    rw [qI6] at eys
    subst eys
    refine .inl ⟨io.stop H2 μ2 _ sr2 st2 hw,?_⟩
    have hA0:H A=none:=by
     cases q:H A with
     | none=>rfl
     | some o =>
      by_cases hm:A∈μ
      ·exact absurd (st0.mem hm) nA
      ·rw [st0.fr A o hm q] at hA; cases hA
    have sr3:=sr2.adopt nA2 hA2 racc
    refine y (.ref A) H2 (μ2++[A]) sr3 ((st0.trans st2 sr2.nd).adopt hA0) ?_
    unfold RV
    exact ⟨A,rfl,by rw [← sr2.len,qA0 (qA9 _),qI7]; rfl⟩
   ·cases el
 ·cases f0
end
open PySem PySem.Spec PyProof.Rows
structure Sc where
 N:yH
 names:List (Str × NameKind)
 fn:Option Str
noncomputable def bltL:yH:=["len","range","list","tuple","min","max","zip","isinstance","all","any","int","bool","enumerate","str","sorted","dict","sum","repr","set","abs"]
structure MgOk (ar:Str→yK) (mg:Str→yF):Prop where
 b:∀ y:Str,y∈bltL→ar y=none→mg y=none
structure XOk (X:Cx) (sc:Sc) (ar:Str→yK) (cl:Str→yM→M D) (k:Nat):Prop where
 calm:X.calm=true
 N:X.N=sc.N
 nd:sc.N.Nodup
 gl:∀ x,sc.names.lookup x=some .globalImplicit→Gl X x
 loc:∀ x,sc.names.lookup x=some .local→X.env.scope.names.lookup x=some .local
 cel:∀ x,sc.names.lookup x=some .cell→X.env.scope.names.lookup x=some .cell
 fre:∀ x,sc.names.lookup x=some .free→X.env.scope.names.lookup x=some .cell∨X.env.scope.names.lookup x=some .free
 fnn:sc.fn.isSome=true→∀ x,X.fn x=true
 room:Room k X.A
 xe:X.xe=fun _ _=>False
 blt:MgOk ar X.mg
 fns:∀ x n,ar x=some n→(∃ ps,zGi X.prog X.w X.K X.mg X.base x ps k (spOf X.K (cl x) n))∧∀ ds S d S',cl x ds S=.ok d S'→ds.length=n
section
variable {X:Cx}{sc:Sc}{ar:Str→yK}{cl:Str→yM→M D}{k:Nat}
theorem XOk.vis (h:XOk X sc ar cl k) {x:Str} (hv:sc.names.lookup x=some .local∨sc.names.lookup x=some .cell∨sc.names.lookup x=some .free):Vis X.env.scope x:=by
 rcases hv with q | q | q
 ·exact .inl (h.loc x q)
 ·exact .inr (.inl (h.cel x q))
 ·exact .inr (h.fre x q)
noncomputable def zRB (o:Option NameKind):Bool:=o == some .local||o == some .cell||o == some .free
theorem zOX {o:Option NameKind} (h:zRB o=true):o=some .local∨o=some .cell∨o=some .free:=by
 unfold zRB at h
 simp only [qF9,beq_iff_eq] at h
 rcases h with (h | h) | h
 ·exact .inl h
 ·exact .inr (.inl h)
 ·exact .inr (.inr h)
noncomputable def zEk:yH→Str→Nat→yK
 | [],_,_=>none
 | y::r,x,i=>if y=x then some i else zEk r x (i+1)
theorem zDk:∀ {N:yH}{x:Str}{i j:Nat},zEk N x i=some j→i≤j∧N[j - i]?=some x
 | [],_,_,_,h=>by cases h
 | y::r,x,i,j,h=>by
  unfold zEk at h
  split at h
  ·rename_i e; cases h; subst e; exact ⟨qA9 _,by simp⟩
  ·obtain ⟨h1,h2⟩:=zDk h
   refine ⟨by omega,?_⟩
   have e:j - i=(j - (i+1))+1:=by omega
   rw [e,qD6]; exact h2
noncomputable def zRQ (sc:Sc) (ar:Str→yK) (x:Str):Option C:=match zEk sc.N x 0 with
 | some i=>if zRB (sc.names.lookup x)&&!(x == ("__debug__":Str))&&!(x == ("__classdict__":Str)) then some (cVar i) else none
 | none=>if sc.names.lookup x=some .globalImplicit∧ar x=none then
   (if x=("int":Str) then some (cCon (.ty "int")) else if x=("bool":Str) then some (cCon (.ty "bool")) else if x=("tuple":Str) then some (cCon (.ty "tuple"))
    else if x=("list":Str) then some (cCon (.ty "list")) else if x=("str":Str) then some (cCon (.ty "str"))
    else none)
  else none
theorem zSP (h:XOk X sc ar cl k) {x:Str}{pos:Pos}{c:C} (e:zRQ sc ar x=some c):PE X (.Name x pos) (tOf X.K c):=by
 unfold zRQ at e
 split at e
 ·rename_i i hi
  split at e
  ·rename_i hv
   cases e
   simp only [qC6,qH8] at hv
   obtain ⟨⟨h1,h2⟩,h3⟩:=hv
   have:=(zDk hi).2
   exact zSF (zT4 (by rw [h.N]; exact this) (h.vis (zOX h1)) h2 h3)
  ·cases e
 ·split at e
  ·rename_i hg
   have g:=h.gl x hg.1
   have ty:∀ (n:String) (b:bootBuiltins x=some (.type n)) (hn:x ≠ "__name__") (hd:(x == ("__debug__":Str))=false) (hm:X.mg x=none),PE X (.Name x pos) (tOf X.K (cCon (.ty n))):=fun n b hn hd hm =>
    zHy (zR0 (v:=.ty n) g hm b rfl hn hd) fun K H μ=>by unfold RV; rfl
   split at e
   ·rename_i q; subst q; cases e
    exact ty "int" zQ3 (by decide +kernel) (by decide +kernel) (h.blt.b _ (by decide +kernel) hg.2)
   ·split at e
    ·rename_i q; subst q; cases e
     exact ty "bool" zRW (by decide +kernel) (by decide +kernel) (h.blt.b _ (by decide +kernel) hg.2)
    ·split at e
     ·rename_i q; subst q; cases e
      exact ty "tuple" zH3 (by decide +kernel) (by decide +kernel) (h.blt.b _ (by decide +kernel) hg.2)
     ·split at e
      ·rename_i q; subst q; cases e
       exact ty "list" zJP (by decide +kernel) (by decide +kernel) (h.blt.b _ (by decide +kernel) hg.2)
      ·split at e
       ·rename_i q; subst q; cases e
        exact ty "str" zUJ (by decide +kernel) (by decide +kernel) (h.blt.b _ (by decide +kernel) hg.2)
       ·cases e
  ·cases e
noncomputable def zQ2:Const→Option C
 | .none=>some (cCon .non)
 | .bool b=>some (cCon (.bl b))
 | .int i=>some (cCon (.int i))
 | .str x=>some (cCon (.str x))
 | _=>none
theorem zQA {v:Const}{j:Nat}{pos:Pos}{c:C} (e:zQ2 v=some c):PE X (.Constant v j pos) (tOf X.K c):=by
 cases v with
 | none=>cases e; exact zHy zTa fun _ _ _=>zHA
 | bool b=>cases e; exact zHy zWb fun _ _ _=>zDu
 | int i=>cases e; exact zHy zTc fun _ _ _=>zAT
 | str x=>cases e; exact zHy zT6 fun _ _ _=>zPC
 | _=>cases e
noncomputable def zTD:Operator→Option (D→D→M D)
 | .Add=>some oAdd
 | .Sub=>some (oInt fun i j=>i - j)
 | .Mult=>some oMul
 | .Mod=>some oMod
 | .FloorDiv=>some oDiv
 | .Pow=>some oPow
 | .LShift=>some oShl
 | .RShift=>some oShr
 | .BitAnd=>some (oInt Builtin.bitAnd)
 | .BitOr=>some (oInt Builtin.bitOr)
 | .BitXor=>some (oInt Builtin.bitXor)
 | _=>none
theorem s_op {op:Operator}{o:D→D→M D} (e:zTD op=some o):OpS X.K (rAny X (binaryOp op)) o:=by
 cases op with
 | Add=>cases e; exact zTo
 | Sub=>cases e; exact zTg
 | Mult=>cases e; exact zTk
 | Mod=>cases e; exact zTl
 | FloorDiv=>cases e; exact zTm
 | Pow=>cases e; exact zTj
 | LShift=>cases e; exact zTi
 | RShift=>cases e; exact zTh
 | BitAnd=>cases e; exact zTn
 | BitOr=>cases e; exact zWe
 | BitXor=>cases e; exact zTf
 | _=>cases e
noncomputable def zOF:CmpOp→Option (D→D→M D)
 | .Eq=>some oEq
 | .NotEq=>some oNe
 | .Lt=>some oLt
 | .LtE=>some (oCmp fun i j=>decide (i≤j))
 | .Gt=>some (oCmp fun i j=>decide (j<i))
 | .GtE=>some (oCmp fun i j=>decide (j≤i))
 | .Is=>some oIs
 | .IsNot=>some zHK
 | .In=>some (oIn false)
 | .NotIn=>some (oIn true)
theorem zKS (h:Room k X.A) {op:CmpOp}{o:D→D→M D} (e:zOF op=some o):OpS X.K (rAny X (compareOp op)) o:=by
 have h1:=h.units
 have h2:=h.units0
 have h3:X.A.units+1<cLine:=zRG h
 cases op with
 | Eq=>cases e; exact zWn h1
 | NotEq=>cases e; exact zWf h1
 | Lt=>cases e; exact zWg h2
 | LtE=>cases e; exact zWh
 | Gt=>cases e; exact zWl
 | GtE=>cases e; exact zWm
 | Is=>cases e; exact zWj
 | IsNot=>cases e; exact zOC
 | In=>cases e; exact zWk h1
 | NotIn=>cases e; exact zOB h1
noncomputable def zAB:Expr→Bool
 | .Starred _ _=>false
 | _=>true
theorem zAe {a:Expr}{es:yE}{env:Env} (h:zAB a=true):starEach (a::es) env=(false,eval a env)::starEach es env:=by
 cases a <;> first | rfl | cases h
noncomputable def zA1? (f:Expr→Option C):yE→Option (List C)
 | []=>some []
 | e::es=>if zAB e then (f e).bind fun c=>(zA1? f es).map (c::·) else none
def zDf (X:Cx) (f:Expr→Option C):Prop:=∀ e c,f e=some c→PE X e (tOf X.K c)
variable {f:Expr→Option C}
theorem zCX (hf:zDf X f):∀ {es:yE}{cs:List C},zA1? f es=some cs→PA X es (tOfA X.K (zA1 cs))∧(∀ e∈es,zAB e=true)
 | [],cs,e=>by cases e; exact ⟨zM7,by simp⟩
 | a::es,cs,e=>by
  unfold zA1? at e
  split at e
  ·rename_i hs
   obtain ⟨c,e1,e⟩:=qA2.mp e
   obtain ⟨cs',e2,e⟩:=qA1.mp e
   subst e
   obtain ⟨h1,h2⟩:=zCX hf e2
   exact ⟨zGo (hf a c e1) h1 (zAe hs),fun e he=>by
    rcases qB6.mp he with rfl | he
    ·exact hs
    ·exact h2 e he⟩
  ·cases e
theorem zDl {es:yE}{env:Env}{pos:Pos} (h:∀ e∈es,zAB e=true):(backTo pos (starEach es env)).any (·.1)=false:=by
 induction es with
 | nil=>rfl
 | cons a es ih =>
  rw [zAe (h a (by simp))]
  show (false||(backTo pos (starEach es env)).any (·.1))=false
  rw [ih fun e he=>h e (by simp [he])]; rfl
noncomputable def zF4:Expr→Bool
 | .Slice _ _ _ _=>true
 | _=>false
theorem zQU {b:Expr} (h:zF4 b=false):zJW b:=by
 cases b <;> first | (intro o i; rfl) | cases h
noncomputable def zCw? (f:Expr→Option C):Option Expr→Option CO
 | none=>some zAM
 | some e=>(f e).map zCw
theorem zPB (hf:zDf X f) {e:Option Expr}{c:CO} (h:zCw? f e=some c):PO X e (tOfO X.K c):=by
 cases e with
 | none=>cases h; exact zQp
 | some a =>
  obtain ⟨ca,e1,e2⟩:=qA1.mp h
  subst e2
  exact zQo (hf a ca e1)
noncomputable def cSub (f:Expr→Option C) (a b:Expr):Option C:=match b with
 | .Slice lo hi none _=>(f a).bind fun ca=>(zCw? f lo).bind fun cl=>(zCw? f hi).map fun ch=>cSl oSl ca cl ch
 | .Slice none none (some st) _=>(f a).bind fun ca=>(f st).map fun cs=>cBin oRev ca cs
 | _=>if zF4 b then none else (f a).bind fun ca=>(f b).map fun cb=>cBin oIx ca cb
theorem zVU (h:Room k X.A) (hf:zDf X f) {a b:Expr}{pos:Pos}{c:C} (e:cSub f a b=some c):PE X (.Subscript a b pos) (tOf X.K c):=by
 unfold cSub at e
 split at e
 ·obtain ⟨ca,e1,e⟩:=qA2.mp e
  obtain ⟨cl,e2,e⟩:=qA2.mp e
  obtain ⟨ch,e3,e⟩:=qA1.mp e
  subst e
  exact zO7 zVN (hf a ca e1) (zPB hf e2) (zPB hf e3)
 ·obtain ⟨ca,e1,e⟩:=qA2.mp e
  obtain ⟨cs,e2,e⟩:=qA1.mp e
  subst e
  exact zSH (hf _ _ e1) (hf _ _ e2)
 ·split at e
  ·cases e
  ·rename_i hs
   obtain ⟨ca,e1,e⟩:=qA2.mp e
   obtain ⟨cb,e2,e⟩:=qA1.mp e
   subst e
   exact zVS (zWi (zRG h)) (hf a ca e1) (hf b cb e2) (zQU (by simpa using hs))
noncomputable def zDS (f:Expr→Option C) (a:Expr) (ops:List CmpOp) (bs:yE):Option C:=match ops,bs with
 | [op],[b]=>if behindInMarks op b then none else (zOF op).bind fun o=>(f a).bind fun ca=>(f b).map fun cb=>cBin o ca cb
 | [op,op'],[b,c]=>if lastMarks [op,op'] [b,c] then none else (zOF op).bind fun o=>(zOF op').bind fun o'=>(f a).bind fun ca=>(f b).bind fun cb=>(f c).map fun cc=>zFq o o' ca cb cc
 | _,_=>none
theorem zM9 (h:Room k X.A) (hf:zDf X f) {a:Expr}{ops:List CmpOp}{bs:yE}{pos:Pos}{c:C} (e:zDS f a ops bs=some c):PE X (.Compare a ops bs pos) (tOf X.K c):=by
 unfold zDS at e
 split at e
 ·rename_i op b
  split at e
  ·cases e
  ·rename_i hm
   obtain ⟨o,e0,e⟩:=qA2.mp e
   obtain ⟨ca,e1,e⟩:=qA2.mp e
   obtain ⟨cb,e2,e⟩:=qA1.mp e
   subst e
   exact zSK (zKS h e0) (hf a ca e1) (hf b cb e2) (by simpa using hm)
 ·rename_i op op' b c
  split at e
  ·cases e
  ·rename_i hm
   obtain ⟨o,e0,e⟩:=qA2.mp e
   obtain ⟨o',e0',e⟩:=qA2.mp e
   obtain ⟨ca,e1,e⟩:=qA2.mp e
   obtain ⟨cb,e2,e⟩:=qA2.mp e
   obtain ⟨cc,e3,e⟩:=qA1.mp e
   subst e
   exact zOa (zKS h e0) (zKS h e0') (hf a ca e1) (hf b cb e2) (hf c cc e3) (by simpa using hm)
 ·cases e
noncomputable def zGl (f:Expr→Option C) (a:Expr) (ops:List CmpOp) (bs:yE):Option CT:=match ops,bs with
 | ops,bs=>(zDS f a ops bs).map zAl
theorem zKR (h:Room k X.A) (hf:zDf X f) {a:Expr}{ops:List CmpOp}{bs:yE}{pos:Pos}{c:CT} (e:zGl f a ops bs=some c):PT X (.Compare a ops bs pos) (tOfT X.K c):=by
 unfold zGl at e
 split at e
 ·obtain ⟨cc,e1,e⟩:=qA1.mp e
  subst e
  unfold zDS at e1
  split at e1
  ·split at e1
   ·cases e1
   ·rename_i hm
    obtain ⟨o,e0,e⟩:=qA2.mp e1
    obtain ⟨ca,g1,e⟩:=qA2.mp e
    obtain ⟨cb,e2,e⟩:=qA1.mp e
    subst e
    exact zSr (zKS h e0) (hf _ ca g1) (hf _ cb e2) (by simpa using hm)
  ·split at e1
   ·cases e1
   ·rename_i hm
    obtain ⟨o,e0,e⟩:=qA2.mp e1
    obtain ⟨o',e0',e⟩:=qA2.mp e
    obtain ⟨ca,g1,e⟩:=qA2.mp e
    obtain ⟨cb,e2,e⟩:=qA2.mp e
    obtain ⟨cc,e3,e⟩:=qA1.mp e
    subst e
    exact zO1 (zKS h e0) (zKS h e0') (hf _ ca g1) (hf _ cb e2) (hf _ cc e3) (by simpa using hm)
  ·cases e1
noncomputable def zHF:Expr→Bool
 | .Name _ _=>true
 | .Subscript _ _ _=>true
 | .Call _ (_::_) _ _=>true
 | _=>false
theorem zRY {o:Expr}{name:Str}{env:Env} (h:zHF o=true):attributeBase o name env (eval o env)=eval o env:=by
 cases o with
 | Call f args kw pos =>
  cases args with
  | nil=>cases h
  | cons a r=>cases f <;> rfl
 | _=>first | rfl | cases h
noncomputable def zPm (x:Str):Option (yM→M D) :=
 if x=("len":Str) then some fLen else
 if x=("isinstance":Str) then some zAw else
 if x=("tuple":Str) then some zAO else
 if x=("list":Str) then some zId else
 if x=("min":Str) then some fMin else
 if x=("max":Str) then some fMax else
 if x=("all":Str) then some (zBv fun bs=>bs.all id) else
 if x=("any":Str) then some (zBv fun bs=>bs.any id) else
 if x=("int":Str) then some fInt else
 if x=("sorted":Str) then some zAy else
 none
noncomputable def zEM:Expr→Option (yE)
 | .Call (.Name x _) as [] _=>if x=("range":Str) then some as else none
 | _=>none
noncomputable def zDb:yM→M D:=fun xs S=>match xs with
 | [.int j]=>if -4611686018427387904≤j∧j<4611686018427387904∧j≤1000 then .ok (.lst S.length) (S++[.lst (upD 0 j.toNat)]) else .bad
 | [.int i,.int j]=>if -4611686018427387904≤i∧i<4611686018427387904∧-4611686018427387904≤j∧j<4611686018427387904∧j - i≤1000 then .ok (.lst S.length) (S++[.lst (upD i (j - i).toNat)]) else .bad
 | _=>.bad
noncomputable def zLg:yM→M D:=fun xs S=>match xs with
 | [.int j]=>if -4611686018427387904≤j∧j<4611686018427387904∧j≤1000 then .ok (.tup (upD 0 j.toNat)) S else .bad
 | [.int i,.int j]=>if -4611686018427387904≤i∧i<4611686018427387904∧-4611686018427387904≤j∧j<4611686018427387904∧j - i≤1000 then .ok (.tup (upD i (j - i).toNat)) S else .bad
 | _=>.bad
noncomputable def zNE (sc:Sc) (ar:Str→yK) (cl:Str→yM→M D) (f:Expr→Option C) (x:Str) (es:yE):Option C :=
 if sc.names.lookup x=some .globalImplicit then
  match ar x with
  | some n=>if es.length=n∧es≠[]∧(x == ("__debug__":Str))=false then (zA1? f es).map fun cs=>cApp (cl x) (zA1 cs) else none
  | none=>match es with
   | [e] =>
    match zEM e with
    | some as=>if x=("list":Str)∧ar "range"=none∧sc.names.lookup ("range":Str)=some .globalImplicit∧(as.length=1∨as.length=2) then (zA1? f as).map fun cs=>cApp zDb (zA1 cs) else if x=("tuple":Str)∧ar "range"=none∧sc.names.lookup ("range":Str)=some .globalImplicit∧(as.length=1∨as.length=2) then (zA1? f as).map fun cs=>cApp zLg (zA1 cs) else none
    | none=>(zPm x).bind fun o=>(zA1? f es).map fun cs=>cApp o (zA1 cs)
   | _::_=>(zPm x).bind fun o=>(zA1? f es).map fun cs=>cApp o (zA1 cs)
   | []=>none
 else none
theorem zK0 {K:W.Frag}{H:Hp}{μ:yC} (lo:Int) (n:Nat):RVs K H μ (upD lo n) (upV lo n):=by
 unfold upD upV
 generalize List.range n=l
 induction l with
 | nil=>exact .nil
 | cons a r ih=>exact .cons zAT ih
set_option maxHeartbeats 2000000 in
theorem zSR (h:XOk X sc ar cl k) {x:Str} (hx:sc.names.lookup x=some .globalImplicit) (hn:ar x=none) {o:yM→M D} (eo:zPm x=some o) {e:Expr}{es:yE}{cs:List C} (ha:PA X (e::es) (tOfA X.K (zA1 cs))) (hs:∀ a∈e::es,zAB a=true) {p pos:Pos}:PE X (.Call (.Name x p) (e::es) [] pos) (tOf X.K (cApp o (zA1 cs))):=by
 have g:=h.gl x hx
 have s1:=zAe (es:=es) (env:=X.env) (hs e (by simp))
 have s2:(backTo pos (starEach es X.env)).any (·.1)=false:=zDl fun a ha=>hs a (by simp [ha])
 unfold zPm at eo
 have B:∀ (id:String) (hb:bootBuiltins x=some (.builtin id)) (hm:X.mg x=none) (hne:x ≠ "__name__") (hd:(x == ("__debug__":Str))=false) (o:yM→M D),zDZ X.K (cAny X (.builtin id)) o→PE X (.Call (.Name x p) (e::es) [] pos) (tOf X.K (cApp o (zA1 cs))):=fun id hb hm hne hd o ho =>
  (zOA zEg g hm hb ha hne hd s1 s2).weak (zPH ho)
 have T:∀ (id:String) (hb:bootBuiltins x=some (.type id)) (hm:X.mg x=none) (hne:x ≠ "__name__") (hd:(x == ("__debug__":Str))=false) (o:yM→M D),zDZ X.K (cAny X (.type id)) o→PE X (.Call (.Name x p) (e::es) [] pos) (tOf X.K (cApp o (zA1 cs))):=fun id hb hm hne hd o ho =>
  (zCZ zEg g hm hb ha hne hd s1 s2).weak (zPH ho)
 split at eo
 ·rename_i q; subst q; cases eo; exact B "len" zUM (h.blt.b _ (by decide +kernel) hn) (by decide +kernel) (by decide +kernel) _ zUC
 split at eo
 ·rename_i q; subst q; cases eo; exact B "isinstance" zH4 (h.blt.b _ (by decide +kernel) hn) (by decide +kernel) (by decide +kernel) _ zRN
 split at eo
 ·rename_i q; subst q; cases eo; exact T "tuple" zH3 (h.blt.b _ (by decide +kernel) hn) (by decide +kernel) (by decide +kernel) _ zPj
 split at eo
 ·rename_i q; subst q; cases eo; exact T "list" zJP (h.blt.b _ (by decide +kernel) hn) (by decide +kernel) (by decide +kernel) _ zRM
 split at eo
 ·rename_i q; subst q; cases eo; exact B "min" zUK (h.blt.b _ (by decide +kernel) hn) (by decide +kernel) (by decide +kernel) _ (zUA h.calm)
 split at eo
 ·rename_i q; subst q; cases eo; exact B "max" zUL (h.blt.b _ (by decide +kernel) hn) (by decide +kernel) (by decide +kernel) _ (zUB h.calm)
 split at eo
 ·rename_i q; subst q; cases eo; exact B "all" zUO (h.blt.b _ (by decide +kernel) hn) (by decide +kernel) (by decide +kernel) _ (zUF h.calm)
 split at eo
 ·rename_i q; subst q; cases eo; exact B "any" zUN (h.blt.b _ (by decide +kernel) hn) (by decide +kernel) (by decide +kernel) _ (zUE h.calm)
 split at eo
 ·rename_i q; subst q; cases eo; exact T "int" zQ3 (h.blt.b _ (by decide +kernel) hn) (by decide +kernel) (by decide +kernel) _ zUD
 split at eo
 ·rename_i q; subst q; cases eo; exact B "sorted" (by decide +kernel) (h.blt.b _ (by decide +kernel) hn) (by decide +kernel) (by decide +kernel) _ (zNk h.calm h.room.units)
 cases eo
theorem zQy (h:XOk X sc ar cl k) (hx:sc.names.lookup ("list":Str)=some .globalImplicit) (hn:ar "list"=none) (hr:sc.names.lookup ("range":Str)=some .globalImplicit) (hnr:ar "range"=none) {as:yE}{cs:List C} (ha:PA X as (tOfA X.K (zA1 cs))) (hs:∀ a∈as,zAB a=true) (hl:as.length=1∨as.length=2) {p pos p2 pos2:Pos} :
  PE X (.Call (.Name "list" p) [.Call (.Name "range" p2) as [] pos2] [] pos) (tOf X.K (cApp zDb (zA1 cs))):=by
 have g1:=h.gl _ hx
 have g2:=h.gl _ hr
 have R:PE X (.Call (.Name "range" p2) as [] pos2) (tCB (cAny X (.type "range")) (tOfA X.K (zA1 cs))):=by
  cases as with
  | nil=>simp at hl
  | cons e es=>exact zCZ zEg g2 (h.blt.b _ (by decide +kernel) hnr) zKG ha (by decide +kernel) (by decide +kernel) (zAe (hs e (by simp))) (zDl fun a ha=>hs a (by simp [ha]))
 have L:=zCZ (p:=p) (pos:=pos) (zEg (X:=X) (f:=.type "list")) g1 (h.blt.b _ (by decide +kernel) hn) zJP (zJ9 R zMl rfl) (by decide +kernel) (by decide +kernel) rfl rfl
 refine L.weak ?_
 rintro σ H Q ⟨μ,ρ,S,d,S',sr,re,e,y⟩
 obtain ⟨xs,S1,e1,e⟩:=zA7 e
 refine ⟨μ,ρ,S,xs,S1,sr,re,e1,fun vs H1 μ1 sr1 st1 r1=>?_⟩
 have y1:=y.shift st1
 have fin:∀ (i j:Int),-4611686018427387904≤i→i<4611686018427387904→-4611686018427387904≤j→j<4611686018427387904→j - i≤1000→Yld X.K μ1 H1 (.lst S1.length) (S1++[.lst (upD i (j - i).toNat)]) Q→∀ q,H1 q=none→cAny X (.type "list") [.ref q] (upd H1 q (.rng i j)) Q:=by
  intro i j b1 b2 b3 b4 b5 y1 q hq
  obtain ⟨sr2,st2⟩:=sr1.other (o:=.rng i j) hq
  exact ⟨_,zH0 h.calm,q,i,j,rfl,zAi,b1,b2,b3,b4,by omega,fun l hl=>(y1.shift st2).newL sr2 hl (zK0 _ _)⟩
 unfold zDb at e
 split at e
 ·rename_i j
  split at e
  ·rename_i hb
   cases e
   obtain ⟨v,rfl,r⟩:=r1.one
   unfold RV at r; subst r
   refine ⟨_,zFo,j,rfl,fun q hq=>?_⟩
   have:=fin 0 j (by decide) (by decide) hb.1 hb.2.1 (by omega) (by rw [Int.sub_zero]; exact y1) q hq
   exact this
  ·cases e
 ·rename_i i j
  split at e
  ·rename_i hb
   cases e
   obtain ⟨v,u,rfl,r,r'⟩:=r1.two
   unfold RV at r r'; subst r r'
   exact ⟨_,zFn,i,j,rfl,fun q hq=>fin i j hb.1 hb.2.1 hb.2.2.1 hb.2.2.2.1 hb.2.2.2.2 y1 q hq⟩
  ·cases e
 ·cases e
theorem zSO (h:XOk X sc ar cl k) (hx:sc.names.lookup ("tuple":Str)=some .globalImplicit) (hn:ar "tuple"=none) (hr:sc.names.lookup ("range":Str)=some .globalImplicit) (hnr:ar "range"=none) {as:yE}{cs:List C} (ha:PA X as (tOfA X.K (zA1 cs))) (hs:∀ a∈as,zAB a=true) (hl:as.length=1∨as.length=2) {p pos p2 pos2:Pos} :
  PE X (.Call (.Name "tuple" p) [.Call (.Name "range" p2) as [] pos2] [] pos) (tOf X.K (cApp zLg (zA1 cs))):=by
 have g1:=h.gl _ hx
 have g2:=h.gl _ hr
 have R:PE X (.Call (.Name "range" p2) as [] pos2) (tCB (cAny X (.type "range")) (tOfA X.K (zA1 cs))):=by
  cases as with
  | nil=>simp at hl
  | cons e es=>exact zCZ zEg g2 (h.blt.b _ (by decide +kernel) hnr) zKG ha (by decide +kernel) (by decide +kernel) (zAe (hs e (by simp))) (zDl fun a ha=>hs a (by simp [ha]))
 have L:=zCZ (p:=p) (pos:=pos) (zEg (X:=X) (f:=.type "tuple")) g1 (h.blt.b _ (by decide +kernel) hn) zH3 (zJ9 R zMl rfl) (by decide +kernel) (by decide +kernel) rfl rfl
 refine L.weak ?_
 rintro σ H Q ⟨μ,ρ,S,d,S',sr,re,e,y⟩
 obtain ⟨xs,S1,e1,e⟩:=zA7 e
 refine ⟨μ,ρ,S,xs,S1,sr,re,e1,fun vs H1 μ1 sr1 st1 r1=>?_⟩
 have y1:=y.shift st1
 have fin:∀ (i j:Int),-4611686018427387904≤i→i<4611686018427387904→-4611686018427387904≤j→j<4611686018427387904→j - i≤1000→Yld X.K μ1 H1 (.tup (upD i (j - i).toNat)) S1 Q→∀ q,H1 q=none→cAny X (.type "tuple") [.ref q] (upd H1 q (.rng i j)) Q:=by
  intro i j b1 b2 b3 b4 b5 y1 q hq
  obtain ⟨sr2,st2⟩:=sr1.other (o:=.rng i j) hq
  exact ⟨_,zFT h.calm,q,i,j,rfl,zAi,b1,b2,b3,b4,by omega,fun l hl=>(y1.shift st2).newT sr2 hl (zK0 _ _)⟩
 unfold zLg at e
 split at e
 ·rename_i j
  split at e
  ·rename_i hb
   cases e
   obtain ⟨v,rfl,r⟩:=r1.one
   unfold RV at r; subst r
   refine ⟨_,zFo,j,rfl,fun q hq=>?_⟩
   have:=fin 0 j (by decide) (by decide) hb.1 hb.2.1 (by omega) (by rw [Int.sub_zero]; exact y1) q hq
   exact this
  ·cases e
 ·rename_i i j
  split at e
  ·rename_i hb
   cases e
   obtain ⟨v,u,rfl,r,r'⟩:=r1.two
   unfold RV at r r'; subst r r'
   exact ⟨_,zFn,i,j,rfl,fun q hq=>fin i j hb.1 hb.2.1 hb.2.2.1 hb.2.2.2.1 hb.2.2.2.2 y1 q hq⟩
  ·cases e
 ·cases e
theorem zQC (h:XOk X sc ar cl k) (hf:zDf X f) {x:Str}{es:yE}{c:C}{p pos:Pos} (e:zNE sc ar cl f x es=some c):PE X (.Call (.Name x p) es [] pos) (tOf X.K c):=by
 unfold zNE at e
 split at e
 ·rename_i hx
  split at e
  ·rename_i n hn
   split at e
   ·rename_i hc
    obtain ⟨hl,hne,hd⟩:=hc
    obtain ⟨cs,e1,e⟩:=qA1.mp e
    subst e
    obtain ⟨h1,h2⟩:=zCX hf e1
    obtain ⟨⟨ps,Ca⟩,hlen⟩:=h.fns x n hn
    cases es with
    | nil=>exact absurd rfl hne
    | cons a es =>
     exact (zOz (p:=p) (pos:=pos) Ca h.room (h.gl x hx) h1 (qA9 _) hd (zAe (h2 a (by simp))) (zDl fun b hb=>h2 b (by simp [hb]))).weak (zR6 hlen)
   ·cases e
  ·rename_i hn
   split at e
   ·rename_i a
    split at e
    ·rename_i as ha
     split at e
     ·rename_i hc
      obtain ⟨rfl,hnr,hr,hl⟩:=hc
      obtain ⟨cs,e1,e⟩:=qA1.mp e
      subst e
      obtain ⟨h1,h2⟩:=zCX hf e1
      unfold zEM at ha
      split at ha
      ·rename_i x' p' as' pos'
       split at ha
       ·rename_i q; subst q; cases ha
        exact zQy h hx hn hr hnr h1 h2 hl
       ·cases ha
      ·cases ha
     ·split at e
      ·rename_i hc
       obtain ⟨rfl,hnr,hr,hl⟩:=hc
       obtain ⟨cs,e1,e⟩:=qA1.mp e
       subst e
       obtain ⟨h1,h2⟩:=zCX hf e1
       unfold zEM at ha
       split at ha
       ·rename_i x' p' as' pos'
        split at ha
        ·rename_i q; subst q; cases ha
         exact zSO h hx hn hr hnr h1 h2 hl
        ·cases ha
       ·cases ha
      ·cases e
    ·obtain ⟨o,e0,e⟩:=qA2.mp e
     obtain ⟨cs,e1,e⟩:=qA1.mp e
     subst e
     obtain ⟨h1,h2⟩:=zCX hf e1
     exact zSR h hx hn e0 h1 h2
   ·obtain ⟨o,e0,e⟩:=qA2.mp e
    obtain ⟨cs,e1,e⟩:=qA1.mp e
    subst e
    obtain ⟨h1,h2⟩:=zCX hf e1
    exact zSR h hx hn e0 h1 h2
   ·cases e
 ·cases e
end
open PySem PySem.Spec PyProof.Rows
section
variable {X:Cx}{sc:Sc}{ar:Str→yK}{cl:Str→yM→M D}{k:Nat}{f:Expr→Option C}
noncomputable def zTL (m:Str) (co:C):Option C :=
 if m=("pop":Str) then some (zKD "list" (zC4 gPop) co) else
 none
noncomputable def zTK (m:Str) (co ca:C):Option C :=
 if m=("append":Str) then some (zH1 "list" (zC4 zB7) co (zA1 [ca])) else
 none
noncomputable def zTJ (m:Str) (co ca cb:C):Option C :=
 if m=("insert":Str) then some (zH1 "list" (zC4 zEe) co (zA1 [ca,cb])) else
 none
noncomputable def zJN (f:Expr→Option C) (o:Expr) (m:Str) (es:yE) (apos cpos:Pos):Option C :=
 if zHF o&&(apos.endLine == cpos.line) then (f o).bind fun co=>match es with
  | []=>zTL m co
  | [a]=>if zAB a then (f a).bind fun ca=>zTK m co ca else none
  | [a,b]=>if zAB a&&zAB b then (f a).bind fun ca=>(f b).bind fun cb=>zTJ m co ca cb else none
  | _=>none
 else none
theorem zOc (hr0:Room k X.A) (hf:zDf X f) {o:Expr}{m:Str}{es:yE}{apos cpos:Pos}{c:C} (e:zJN f o m es apos cpos=some c):PE X (.Call (.Attribute o m apos) es [] cpos) (tOf X.K c):=by
 unfold zJN at e
 split at e
 ·rename_i hc
  rw [qC6] at hc
  obtain ⟨hr,hl⟩:=hc
  obtain ⟨co,e0,g⟩:=qA2.mp e
  clear e
  have hb:∀ name,attributeBase o name X.env (eval o X.env)=eval o X.env:=fun name=>zRY hr
  split at g
  ·unfold zTL at g
   split at g
   ·rename_i q; subst q; cases g
    exact zO8 PySem.F.plainAttrs_list PySem.F.slot_list_pop PySem.F.type_list_pop zTH (hf o co e0) (hb _) hl
   cases g
  ·rename_i a
   split at g
   ·rename_i hs
    obtain ⟨ca,e1,g'⟩:=qA2.mp g
    clear g
    have s1:=zAe (es:=[]) (env:=X.env) hs
    have hA:PA X [a] (tOfA X.K (zA1 [ca])):=zGo (hf a ca e1) zM7 s1
    have hfew:((backTo cpos (starEach [a] X.env)).all (fun x=>!x.1)&&(backToKw cpos (keywordEach [] X.env)).all (fun x=>x.1.isSome)
     && decide ([a].length+([]:List Keyword).length+(if ([]:List Keyword).isEmpty then 0 else 1)<30))=true:=by rw [s1]; rfl
    unfold zTK at g'
    split at g'
    ·rename_i q; subst q; cases g'
     exact zM5 PySem.F.plainAttrs_list PySem.F.slot_list_append PySem.F.type_list_append zMC (hf o co e0) hA (hb _) hfew hl s1 rfl
    cases g'
   ·cases g
  ·rename_i a b
   split at g
   ·rename_i hs
    rw [qC6] at hs
    obtain ⟨ca,e1,g1⟩:=qA2.mp g
    obtain ⟨cb,e2,g'⟩:=qA2.mp g1
    clear g g1
    have s2:=zAe (es:=[]) (env:=X.env) hs.2
    have s1:=zAe (es:=[b]) (env:=X.env) hs.1
    have hA:PA X [a,b] (tOfA X.K (zA1 [ca,cb])):=zGo (hf a ca e1) (zGo (hf b cb e2) zM7 s2) s1
    have hfew:((backTo cpos (starEach [a,b] X.env)).all (fun x=>!x.1)&&(backToKw cpos (keywordEach [] X.env)).all (fun x=>x.1.isSome)
     && decide ([a,b].length+([]:List Keyword).length+(if ([]:List Keyword).isEmpty then 0 else 1)<30))=true:=by rw [s1,s2]; rfl
    unfold zTJ at g'
    split at g'
    ·rename_i q; subst q; cases g'
     exact zM5 PySem.F.plainAttrs_list PySem.F.slot_list_insert PySem.F.type_list_insert zMB (hf o co e0) hA (hb _) hfew hl s1 (by rw [s2]; rfl)
    cases g'
   ·cases g
  ·cases g
 ·cases e
noncomputable def zLt:C:=fun _ S=>.ok (.dct S.length) (S++[.dk []])
theorem zQx {pos:Pos}:PE X (.Dict [] [] pos) (tOf X.K zLt):=zOx.weak (by
 rintro σ H Q ⟨μ,ρ,S,d,S',sr,re,e,y⟩
 unfold zLt at e
 cases e
 intro p hp
 obtain ⟨s1,s2⟩:=sr.push (o:=.dK []) (o':=.dk []) hp ⟨[],zAi,RKs.nil⟩
 exact y _ _ _ s1 s2 (by unfold RV; exact ⟨p,rfl,by rw [← sr.len,qA0 (qA9 _),qI7]; rfl⟩))
noncomputable def zND (a b:C):C:=fun ρ=>bnd (a ρ) fun x=>bnd (b ρ) fun y S=>match zD7 x with
 | some k=>.ok (.dct S.length) (S++[.dk [(k,y)]])
 | none=>.bad
theorem zQw {a b:Expr}{ca cb:C}{pos:Pos} (ha:PE X a (tOf X.K ca)) (hb:PE X b (tOf X.K cb)):PE X (.Dict [some a] [b] pos) (tOf X.K (zND ca cb)):=(zQW (zOo ha hb zQR) rfl rfl (by simp) (by simp)).weak (by
 rintro σ H Q ⟨μ,ρ,S,d,S',sr,re,e,y⟩
 obtain ⟨x,S1,e1,f1⟩:=zA7 e
 obtain ⟨z,S2,e2,f2⟩:=zA7 f1
 split at f2
 ·rename_i key hk
  cases f2
  intro p hp
  obtain ⟨s1,s2⟩:=sr.other (o:=.dK []) hp
  refine ⟨μ,ρ,S,x,S1,s1,re.up s2,e1,fun v H1 μ1 sr1 st1 r1=>⟨μ1,ρ,S1,z,S2,sr1,(re.up s2).up st1,e2,fun u H2 μ2 sr2 st2 r2=>?_⟩⟩
  have n0:p∉μ:=sr.out hp
  have q0:upd H p (.dK []) p=some (.dK []):=zAi
  have q1:=st1.fr p _ n0 q0
  have n1:=st1.notIn n0 q0
  have q2:=st2.fr p _ n1 q1
  have n2:=st2.notIn n1 q1
  have ev:=zGE hk r1
  subst ev
  refine ⟨q2,[(key,u)],rfl,by simp,?_⟩
  have e3:zEQ [] [(key,u)]=[(key,u)]:=by simp [zEQ,putK]
  rw [e3]
  have tk:TF X.K H2 (upd H2 p (.dK [(key,u)])):=zFZ q2 (fun _ z=>by cases z) (fun _ _ z=>by cases z)
  have st12:=st1.trans st2 sr2.nd
  have st02:Step X.K μ μ2 H H2:=s2.trans st12 sr2.nd
  have sr3:SR X.K (μ2++[p]) (S2++[.dk [(key,z)]]) (upd H2 p (.dK [(key,u)])):=by
   refine ⟨by simp [sr2.len],?_,fun n a w g1 g2=>?_⟩
   ·rw [qG7]
    refine ⟨sr2.nd,by simp,fun a ha b hb=>?_⟩
    simp at hb; subst hb
    exact fun z=>n2 (z▸ha)
   ·by_cases hn:n<μ2.length
    ·rw [qA7 hn] at g1
     rw [qA7 (by rw [← sr2.len]; exact hn)] at g2
     exact (sr2.obj n a w g1 g2).up tk ⟨[p],rfl⟩ (zAb fun z=>n2 (z▸qC0 g1))
    ·rw [qA0 (by omega)] at g1
     rw [qA0 (by rw [← sr2.len]; omega)] at g2
     have h1:n - μ2.length=0:=by
      have:=(qA4.mp g1).1
      simp at this; omega
     rw [h1] at g1
     rw [← sr2.len,h1] at g2
     simp at g1 g2
     subst g1 g2
     exact ⟨[(key,u)],zAi,RKs.cons (RV.up tk ⟨[p],rfl⟩ _ _ r2) .nil⟩
  have st3:Step X.K μ (μ2++[p]) H (upd H2 p (.dK [(key,u)])):=by
   obtain ⟨ν,e4,n⟩:=st02.pre
   refine ⟨⟨ν++[p],by rw [e4,qB8],fun b hb=>?_⟩,fun b o hb q=>by rw [zAb (zAx q hp)]; exact st02.fr b o hb q,st02.tk.trans tk⟩
   rcases qB4.mp hb with h | h
   ·exact n b h
   ·simp at h; subst h; exact hp
  exact y _ _ _ sr3 st3 (by unfold RV; exact ⟨p,rfl,by rw [← sr2.len,qA0 (qA9 _),qI7]; rfl⟩)
 ·cases f2)
noncomputable def zRS (f:Expr→Option C) (ks:List (Option Expr)) (vs:yE):Option C:=match ks,vs with
 | [],[]=>some zLt
 | [some a],[b]=>(f a).bind fun ca=>(f b).map fun cb=>zND ca cb
 | _,_=>none
theorem zSQ (hf:zDf X f) {ks:List (Option Expr)}{vs:yE}{pos:Pos}{c:C} (e:zRS f ks vs=some c):PE X (.Dict ks vs pos) (tOf X.K c):=by
 unfold zRS at e
 split at e
 ·cases e; exact zQx
 ·obtain ⟨ca,e1,e⟩:=qA2.mp e
  obtain ⟨cb,e2,e⟩:=qA1.mp e
  subst e
  exact zQw (hf _ _ e1) (hf _ _ e2)
 ·cases e
noncomputable def zKE (op:BoolOp) (f:Expr→Option C):yE→Option C
 | []=>none
 | [a]=>f a
 | a::b::r=>(f a).bind fun ca=>(zKE op f (b::r)).map fun cb=>match op with
  | .And=>zJO ca cb
  | .Or=>cOrV ca cb
theorem zJ2 (hf:zDf X f) {op:BoolOp}{pos:Pos}:∀ {vs:yE}{c:C},zKE op f vs=some c→PE X (.BoolOp op vs pos) (tOf X.K c)
 | [],c,e=>by cases e
 | [a],c,e=>zT8 (hf a c e)
 | a::b::r,c,e=>by
  unfold zKE at e
  obtain ⟨ca,e1,e⟩:=qA2.mp e
  obtain ⟨cb,e2,e⟩:=qA1.mp e
  subst e
  cases op with
  | And=>exact zSM (hf a ca e1) (zJ2 hf e2)
  | Or=>exact zVR (hf a ca e1) (zJ2 hf e2)
def zIR (X:Cx) (t:Expr→Option CT):Prop:=∀ e c,t e=some c→PT X e (tOfT X.K c)
variable {t:Expr→Option CT}
noncomputable def zKF (op:BoolOp) (t:Expr→Option CT):yE→Option CT
 | []=>none
 | [a]=>t a
 | a::b::r=>(t a).bind fun ca=>(zKF op t (b::r)).map fun cb=>match op with
  | .And=>zH2 ca cb
  | .Or=>cOrT ca cb
theorem zJ3 (ht:zIR X t) {op:BoolOp}{pos:Pos}:∀ {vs:yE}{c:CT},zKF op t vs=some c→PW X (.BoolOp op vs pos) (tOfT X.K c)
 | [],c,e=>by cases e
 | [a],c,e=>by
  cases op with
  | And=>exact zQI (ht a c e)
  | Or=>exact zSW (ht a c e)
 | a::b::r,c,e=>by
  unfold zKF at e
  obtain ⟨ca,e1,e⟩:=qA2.mp e
  obtain ⟨cb,e2,e⟩:=qA1.mp e
  subst e
  cases op with
  | And=>exact zSo (ht a ca e1) (zJ3 ht e2)
  | Or=>exact zVM (ht a ca e1) (zJ3 ht e2)
noncomputable def zAK:Expr→Bool
 | .Tuple _ _ _=>true
 | _=>false
noncomputable def zJm:Expr→Bool
 | .Set _ _ _=>true
 | _=>false
theorem zFd {iter:Expr}{env:Env} (h:zJm iter=false):∀ x,foldedSetIterable iter env x=pure x:=by
 cases iter <;> first | (intro x; rfl) | cases h
noncomputable def zNB (o:Option (List C)) (es:yE):Option CI:=o.bind fun cs=>match es with
 | [_]=>some (zB6 (zA1 cs))
 | [_,_]=>some (zFb (zA1 cs))
 | _=>none
noncomputable def zRO (t:Bool) (o:Option (List C)) (es:yE):Option CI:=if t=true then o.bind fun cs=>match es with
  | [_,_]=>some (zP5 (zA1 cs))
  | _=>none
 else none
noncomputable def zNC (t:Bool) (o:Option (List C)) (es:yE):Option CI:=if t=true then o.bind fun cs=>match es with
  | [_]=>some (zEo (zA1 cs))
  | _=>none
 else none
noncomputable def zLs (sc:Sc) (ar:Str→yK) (f:Expr→Option C) (tg iter:Expr):Option CI:=if zJm iter then none else match iter with
 | .Call (.Name x _) es [] _=>if sc.names.lookup x=some .globalImplicit∧ar x=none then
   (if x=("range":Str) then zNB (zA1? f es) es else
    if x=("zip":Str) then zRO (zAK tg) (zA1? f es) es else
    if x=("enumerate":Str) then zNC (zAK tg) (zA1? f es) es else
    (f iter).map iSeq)
  else (f iter).map iSeq
 | _=>(f iter).map iSeq
theorem zOb (hf:zDf X f) {tg:Expr}{es:yE}{c:CI}{p pos:Pos} (g:Gl X "range") (hm:X.mg "range"=none) (e:zNB (zA1? f es) es=some c):PI X tg (.Call (.Name "range" p) es [] pos) (tOfI X.K c):=by
 obtain ⟨cs,e1,e2⟩:=qA2.mp e
 clear e
 obtain ⟨h1,h2⟩:=zCX hf e1
 match es,h1,h2,e2 with
 | [a],h1,h2,e2 =>
  cases e2
  exact zM3 (zMi g hm h1 (by rw [zAe (h2 a (by simp))]; rfl))
 | [a,b],h1,h2,e2 =>
  cases e2
  exact zM2 (zMh g hm h1 (by rw [zAe (h2 a (by simp)),zAe (h2 b (by simp))]; rfl) (by rw [zAe (h2 b (by simp))]; rfl))
 | [],h1,h2,e2=>cases e2
 | _::_::_::_,h1,h2,e2=>cases e2
theorem zMQ {tg:Expr} (h:zAK tg=true):∃ es k pos,tg=.Tuple es k pos:=by
 cases tg <;> first | exact ⟨_,_,_,rfl⟩ | cases h
theorem zSN (hf:zDf X f) {tg:Expr}{es:yE}{c:CI}{p pos:Pos} (g:Gl X "zip") (hm:X.mg "zip"=none) (e:zRO (zAK tg) (zA1? f es) es=some c):PI X tg (.Call (.Name "zip" p) es [] pos) (tOfI X.K c):=by
 unfold zRO at e
 by_cases ht:zAK tg=true
 ·rw [if_pos ht] at e
  obtain ⟨ts,kt,pt,rfl⟩:=zMQ ht
  obtain ⟨cs,e1,e2⟩:=qA2.mp e
  clear e ht
  obtain ⟨h1,h2⟩:=zCX hf e1
  match es,h1,h2,e2 with
  | [a,b],h1,h2,e2 =>
   cases e2
   exact zSA (zQV g hm h1 (by rw [zAe (h2 a (by simp)),zAe (h2 b (by simp))]; rfl) (by rw [zAe (h2 b (by simp))]; rfl))
  | _::_::_::_,h1,h2,e2=>cases e2
  | [],h1,h2,e2=>cases e2
  | [_],h1,h2,e2=>cases e2
 ·rw [if_neg ht] at e; cases e
theorem zQz (hf:zDf X f) {tg:Expr}{es:yE}{c:CI}{p pos:Pos} (g:Gl X "enumerate") (hm:X.mg "enumerate"=none) (e:zNC (zAK tg) (zA1? f es) es=some c):PI X tg (.Call (.Name "enumerate" p) es [] pos) (tOfI X.K c):=by
 unfold zNC at e
 by_cases ht:zAK tg=true
 ·rw [if_pos ht] at e
  obtain ⟨ts,kt,pt,rfl⟩:=zMQ ht
  obtain ⟨cs,e1,e2⟩:=qA2.mp e
  clear e ht
  obtain ⟨h1,h2⟩:=zCX hf e1
  match es,h1,h2,e2 with
  | [a],h1,h2,e2 =>
   cases e2
   exact zQt (zOs g hm h1 (by rw [zAe (h2 a (by simp))]; rfl))
  | [],h1,h2,e2=>cases e2
  | _::_::_,h1,h2,e2=>cases e2
 ·rw [if_neg ht] at e; cases e
theorem zM8 (h:XOk X sc ar cl k) (hf:zDf X f) {tg iter:Expr}{c:CI} (e:zLs sc ar f tg iter=some c):PI X tg iter (tOfI X.K c)∧zJm iter=false:=by
 unfold zLs at e
 split at e
 ·cases e
 rename_i hset
 refine ⟨?_,by simpa using hset⟩
 have dflt:∀ {c},(f iter).map iSeq=some c→PI X tg iter (tOfI X.K c):=fun e=>by
  obtain ⟨ca,e1,e⟩:=qA1.mp e
  subst e
  exact zSB (hf _ _ e1)
 split at e
 ·rename_i x p es pos
  split at e
  ·rename_i hx
   have g:=h.gl x hx.1
   split at e
   ·rename_i q; subst q
    exact zOb hf g (h.blt.b _ (by decide +kernel) hx.2) e
   split at e
   ·rename_i q; subst q
    exact zSN hf g (h.blt.b _ (by decide +kernel) hx.2) e
   split at e
   ·rename_i q; subst q
    exact zQz hf g (h.blt.b _ (by decide +kernel) hx.2) e
   exact dflt e
  ·exact dflt e
 ·exact dflt e
noncomputable def zE7:yE→Option (yH)
 | []=>some []
 | .Name x _::r=>(zE7 r).map (x::·)
 | _::_=>none
noncomputable def zKN:Expr→Option (Tgt × yH)
 | .Name x _=>some (.one,[x])
 | .Tuple es _ _=>(zE7 es).map fun xs=>(.many xs.length,xs)
 | _=>none
noncomputable def zAL (ns:List (Str × NameKind)):yH:=(ns.filter fun y=>y.2 == .free).map (·.1)
noncomputable def slots (N:yH):yH→Option (List Nat)
 | []=>some []
 | x::r=>(zEk N x 0).bind fun j=>(slots N r).map (j::·)
noncomputable def zNn (xs:yH) (scope:Scope):Sc:=⟨xs++zAL scope.names,scope.names,none⟩
noncomputable def compOk (sc:Sc) (xs:yH) (scope:Scope):Bool :=
 decide (scope.kind=.function)&&scope.names.all (fun y=>y.2 != .cell||scope.names.lookup y.1 == some .cell)&&scope.names.all (fun y=>y.2 != .local||scope.names.lookup y.1 == some .local)
 && decide ((xs++zAL scope.names).Nodup)&&xs.all (fun x=>scope.names.lookup x == some .local||scope.names.lookup x == some .cell)&&decide (1≤xs.length)
 && (zAL scope.names).all (fun x=>(sc.names.lookup x == some .cell||sc.names.lookup x == some .free)&&scope.names.lookup x == some .free)
noncomputable def zFp (sc:Sc) (it:Option CI) (fe:Sc→Expr→Option C) (ft:Sc→Expr→Option CT) (tg elt:Expr) (ifs:yE) (scope:Scope):Option C :=
 (zKN tg).bind fun p=>if compOk sc p.2 scope then (slots sc.N (zAL scope.names)).bind fun js=>it.bind fun ci=>(fe (zNn p.2 scope) elt).bind fun ce=>match ifs with
  | []=>some (zBc ci p.2.length js p.1 (fun _=>ret true) ce)
  | [q]=>(ft (zNn p.2 scope) q).map fun ct=>zBc ci p.2.length js p.1 ct ce
  | _=>none
 else none
theorem zHt {N:yH}:∀ {xs:yH}{js:List Nat},slots N xs=some js→js.length=xs.length∧∀ (i j:Nat),js[i]?=some j→∃ x,xs[i]?=some x∧N[j]?=some x
 | [],js,e=>by cases e; exact ⟨rfl,fun i j h=>by simp at h⟩
 | x::r,js,e=>by
  unfold slots at e
  obtain ⟨j0,e1,e⟩:=qA2.mp e
  obtain ⟨js',e2,e⟩:=qA1.mp e
  subst e
  obtain ⟨h1,h2⟩:=zHt e2
  refine ⟨by simp [h1],fun i j h=>?_⟩
  cases i with
  | zero=>simp at h; subst h; exact ⟨x,rfl,(zDk e1).2⟩
  | succ i =>
   rw [qD6] at h
   obtain ⟨y,g1,g2⟩:=h2 i j h
   exact ⟨y,by rw [qD6]; exact g1,g2⟩
theorem zC6 {env:Env}:∀ {names:List (Str × NameKind)}{x:Str}{k:NameKind},k≠.free→names.lookup x=some k →
  (names.map fun (n,k)=>if (k == NameKind.free&&env.scope.kind == .function&&env.kindOf n == some .cell) then (n,NameKind.cell) else (n,k)).lookup x=some k
 | [],_,_,_,h=>by simp at h
 | (n,k')::r,x,k,nf,h=>by
  have ih:=@zC6 env r x k nf
  show List.lookup x ((if (k' == NameKind.free&&env.scope.kind == .function&&env.kindOf n == some .cell)=true then (n,NameKind.cell) else (n,k'))::_)=_
  cases hx:x == n with
  | true =>
   simp only [qD3,hx] at h
   cases h
   have e:(k' == NameKind.free)=false:=by simpa using nf
   simp [qD3,hx,e]
  | false =>
   simp only [qD3,hx] at h
   by_cases hc:(k' == NameKind.free&&env.scope.kind == .function&&env.kindOf n == some .cell)=true
   ·rw [if_pos hc]; simp only [qD3,hx]; exact ih h
   ·rw [if_neg hc]; simp only [qD3,hx]; exact ih h
theorem zON {ns:List (Str × NameKind)}{x:Str}{k:NameKind} (h:ns.lookup x=some k):(x,k)∈ns:=zDz h
theorem XOk.comp (h:XOk X sc ar cl k) {xs:yH}{scope:Scope} (hc:compOk sc xs scope=true) (cl':List (Str × Addr)) (s:Shared) (H:Hp) (C:Addr) (ex:yC):XOk (zBd X scope (xs++zAL scope.names) cl' s H C ex) (zNn xs scope) ar cl k:=by
 unfold compOk at hc
 simp only [qC6,decide_eq_true_eq] at hc
 obtain ⟨⟨⟨⟨⟨⟨c1,c2⟩,c3⟩,c4⟩,c5⟩,c6⟩,c7⟩:=hc
 exact {
  calm:=h.calm
  N:=rfl
  nd:=c4
  gl:=fun x hx=>zC6 (by decide) hx
  loc:=fun x hx=>zC6 (by decide) hx
  cel:=fun x hx=>zC6 (by decide) hx
  fre:=fun x hx=>zEl hx
  fnn:=fun z=>by cases z
  room:=h.room
  xe:=rfl
  blt:=h.blt
  fns:=h.fns }
theorem zEN:∀ {es:yE}{xs:yH},zE7 es=some xs→es.length=xs.length∧∀ (i:Nat) (e:Expr),es[i]?=some e→∃ x pos,e=.Name x pos∧xs[i]?=some x
 | [],xs,h=>by cases h; exact ⟨rfl,fun i e h=>by simp at h⟩
 | a::r,xs,h=>by
  cases a with
  | Name x pos =>
   unfold zE7 at h
   obtain ⟨ys,e1,e⟩:=qA1.mp h
   subst e
   obtain ⟨h1,h2⟩:=zEN e1
   refine ⟨by simp [h1],fun i e he=>?_⟩
   cases i with
   | zero=>simp at he; subst he; exact ⟨x,pos,rfl,rfl⟩
   | succ i =>
    rw [qD6] at he
    obtain ⟨y,p,g1,g2⟩:=h2 i e he
    exact ⟨y,p,g1,by rw [qD6]; exact g2⟩
  | _=>cases h
theorem zFv {x:Str}{pos:Pos}{es:yE}{env:Env}:assignEach (.Name x pos::es) env=(false,assign (.Name x pos) env)::assignEach es env:=rfl
theorem zHH:∀ {es:yE}{s:Nat},(∀ (i:Nat) (e:Expr),es[i]?=some e→∃ x pos,e=.Name x pos∧X.N[s+i]?=some x∧Loc X.env.scope x∧(X.fn x=true∨X.env.scope.names.lookup x=some .local))→X.N.Nodup→PGs X es (zKu s es.length)
 | [],s,h,nd=>zMj
 | a::r,s,h,nd=>by
  obtain ⟨x,pos,rfl,g1,g2,g3⟩:=h 0 a rfl
  refine zKb (zGt nd (by simpa using g1) g2 g3) (zHH (s:=s+1) (fun i e he=>?_) nd) rfl
  obtain ⟨y,p,q1,q2,q3⟩:=h (i+1) e (by rw [qD6]; exact he)
  exact ⟨y,p,q1,by rw [show s+1+i=s+(i+1) by omega]; exact q2,q3⟩
theorem zCQ {env:Env}:∀ {es:yE}{xs:yH},zE7 es=some xs→(assignEach es env).length=xs.length∧(assignEach es env).findIdx? (·.1)=none
 | [],xs,h=>by cases h; exact ⟨rfl,rfl⟩
 | a::r,xs,h=>by
  cases a with
  | Name x pos =>
   unfold zE7 at h
   obtain ⟨ys,e1,e⟩:=qA1.mp h
   subst e
   obtain ⟨h1,h2⟩:=zCQ (env:=env) e1
   rw [zFv]
   exact ⟨by simp [h1],by rw [qR7]; simp [h2]⟩
  | _=>cases h
theorem zQd {tg:Expr}{t:Tgt}{xs:yH} (e:zKN tg=some (t,xs)):tgtK t=xs.length:=by
 cases tg with
 | Name x pos=>cases e; rfl
 | Tuple es n pos =>
  unfold zKN at e
  obtain ⟨ys,e1,e⟩:=qA1.mp e
  cases e
  rfl
 | _=>cases e
theorem zK5 {X':Cx}{sc':Sc} (h:XOk X' sc' ar cl k) {x:Str} (g:sc'.names.lookup x=some .local∨sc'.names.lookup x=some .cell∧X'.fn x=true):Loc X'.env.scope x∧(X'.fn x=true∨X'.env.scope.names.lookup x=some .local):=by
 rcases g with g | ⟨g,f⟩
 ·exact ⟨.inl (h.loc x g),.inr (h.loc x g)⟩
 ·exact ⟨.inr (h.cel x g),.inl f⟩
theorem zVT {X':Cx}{sc':Sc} (h:XOk X' sc' ar cl k) {tg:Expr}{t:Tgt}{xs:yH} (e:zKN tg=some (t,xs)) (hN:∀ (i:Nat) (x:Str),xs[i]?=some x→sc'.N[i]?=some x∧(sc'.names.lookup x=some .local∨sc'.names.lookup x=some .cell∧X'.fn x=true)):PG X' tg (tOfT' X'.K t)∧tgtK t=xs.length:=by
 have nd:X'.N.Nodup:=by rw [h.N]; exact h.nd
 cases tg with
 | Name x pos =>
  cases e
  obtain ⟨g1,g2⟩:=hN 0 x rfl
  obtain ⟨l1,l2⟩:=zK5 h g2
  exact ⟨zGt nd (by rw [h.N]; exact g1) l1 l2,rfl⟩
 | Tuple es n pos =>
  unfold zKN at e
  obtain ⟨ys,e1,e⟩:=qA1.mp e
  cases e
  obtain ⟨a1,a2⟩:=zCQ (env:=X'.env) e1
  obtain ⟨n1,n2⟩:=zEN e1
  refine ⟨?_,rfl⟩
  have:=zHH (X:=X') (es:=es) (s:=0) (fun i e he=>by
   obtain ⟨x,pos,rfl,g⟩:=n2 i e he
   obtain ⟨g1,g2⟩:=hN i x g
   obtain ⟨l1,l2⟩:=zK5 h g2
   exact ⟨x,pos,rfl,by rw [h.N,qN4]; exact g1,l1,l2⟩) nd
  rw [n1] at this
  exact zPG h.calm this a1 a2
 | _=>cases e
theorem zQ0 (h:XOk X sc ar cl k) {xs:yH}{scope:Scope}{js:List Nat} (hc:compOk sc xs scope=true) (e1:slots sc.N (zAL scope.names)=some js):zLB X scope (xs++zAL scope.names) xs.length js:=by
 obtain ⟨l1,l2⟩:=zHt e1
 unfold compOk at hc
 simp only [qC6,decide_eq_true_eq] at hc
 obtain ⟨⟨⟨⟨⟨⟨c1,c2⟩,c3⟩,c4⟩,c5⟩,c6⟩,c7⟩:=hc
 have hf7:∀ x,(x,NameKind.free)∈scope.names→(sc.names.lookup x=some .cell∨sc.names.lookup x=some .free)∧scope.names.lookup x=some .free:=fun x hx=>by
  have hm:x∈zAL scope.names:=by
   unfold zAL
   rw [qC9]
   exact ⟨(x,.free),by rw [qD5]; exact ⟨hx,by simp⟩,rfl⟩
  have:=qC8.mp c7 x hm
  simpa using this
 refine ⟨h.calm,c1,fun x hx=>?_,fun x hx=>?_,fun x hx hxl=>?_,?_,fun i j hj=>?_⟩
 ·have:=qC8.mp c2 _ hx
  simpa using this
 ·rcases (hf7 x hx).1 with q | q
  ·exact .inl (h.cel x q)
  ·exact h.fre x q
 ·have:=qC8.mp c3 x hx
  simp only [qF9,bne_iff_ne,ne_eq,beq_iff_eq] at this
  rcases this with z | z
  ·exact absurd hxl z
  ·exact z
 ·rw [qB1,l1]
 ·obtain ⟨x,g1,g2⟩:=l2 i j hj
  have hm:(x,NameKind.free)∈scope.names:=by
   have:=qC0 g1
   unfold zAL at this
   rw [qC9] at this
   obtain ⟨⟨y,ky⟩,m1,m2⟩:=this
   rw [qD5] at m1
   dsimp only at m2
   subst m2
   have:ky=.free:=by simpa using m1.2
   subst this
   exact m1.1
  obtain ⟨v1,v2⟩:=hf7 x hm
  refine ⟨x,?_,by rw [h.N]; exact g2,v2,h.vis (.inr v1)⟩
  rw [qA0 (by omega),qL0]; exact g1
theorem zPZ (h:XOk X sc ar cl k) {xs:yH}{scope:Scope}{tg:Expr}{t:Tgt} (hc:compOk sc xs scope=true) (e0:zKN tg=some (t,xs)) (cl':List (Str × Addr)) (s:Shared) (H:Hp) (C:Addr) (ex:yC):PG (zBd X scope (xs++zAL scope.names) cl' s H C ex) tg (tOfT' X.K t) :=
 (zVT (h.comp hc cl' s H C ex) e0 fun i x hx=>by
  unfold compOk at hc
  simp only [qC6,decide_eq_true_eq] at hc
  have c5:=hc.1.1.2
  have hl:=(qA4.mp hx).1
  refine ⟨?_,?_⟩
  ·show (xs++zAL scope.names)[i]?=some x
   rw [qA7 hl]; exact hx
  ·have:=qC8.mp c5 x (qC0 hx)
   rw [qF9,beq_iff_eq,beq_iff_eq] at this
   rcases this with z | z
   ·exact .inl z
   ·exact .inr ⟨z,decide_eq_true (zON z)⟩).1
inductive zUZ (X:Cx) (sc:Sc) (tg iter elt:Expr) (ifs:yE) (scope:Scope) (c:C):Prop
 | mk (t:Tgt) (xs:yH) (js:List Nat) (ci:CI) (ct:CT) (ce:C) (B:zLB X scope (xs++zAL scope.names) xs.length js) (hi:PI X tg iter (tOfI X.K ci)) (hs:zJm iter=false)
  (hg:∀ cl' s H C ex,PG (zBd X scope (xs++zAL scope.names) cl' s H C ex) tg (tOfT' X.K t)) (hT:∀ cl' s H C ex,PTs (zBd X scope (xs++zAL scope.names) cl' s H C ex) ifs (tOfT X.K ct))
  (hE:∀ cl' s H C ex,PE (zBd X scope (xs++zAL scope.names) cl' s H C ex) elt (tOf X.K ce)) (ht:tgtK t≤xs.length) (h1:1≤xs.length) (hc:c=zBc ci xs.length js t ct ce)
theorem zNl (h:XOk X sc ar cl k) {it:Option CI}{fe:Sc→Expr→Option C}{ft:Sc→Expr→Option CT}{tg iter elt:Expr}{ifs:yE}{scope:Scope}{c:C} (e:zFp sc it fe ft tg elt ifs scope=some c)
  (hi:∀ ci,it=some ci→PI X tg iter (tOfI X.K ci)∧zJm iter=false) (hfe:∀ X' sc',XOk X' sc' ar cl k→zDf X' (fe sc')) (hft:∀ X' sc',XOk X' sc' ar cl k→zIR X' (ft sc')):zUZ X sc tg iter elt ifs scope c:=by
 unfold zFp at e
 obtain ⟨⟨t,xs⟩,e0,e⟩:=qA2.mp e
 dsimp only at e
 by_cases hc:compOk sc xs scope=true
 ·rw [if_pos hc] at e
  obtain ⟨js,e1,u1⟩:=qA2.mp e
  obtain ⟨ci,e2,u2⟩:=qA2.mp u1
  obtain ⟨ce,e3,u3⟩:=qA2.mp u2
  clear e u1 u2
  obtain ⟨i1,i2⟩:=hi ci e2
  have c6:1≤xs.length:=by
   have hc':=hc
   unfold compOk at hc'
   simp only [qC6,decide_eq_true_eq] at hc'
   exact hc'.1.2
  have hE:=fun cl' s H C ex=>hfe _ _ (h.comp hc cl' s H C ex) elt ce e3
  have ht:tgtK t≤xs.length:=by rw [zQd e0]; exact qA9 _
  cases ifs with
  | nil =>
   cases u3
   exact ⟨t,xs,js,ci,_,ce,zQ0 h hc e1,i1,i2,zPZ h hc e0,fun cl' s H C ex pins s' σ H' Q I ⟨μ,ρ,S,d,S',sr,re,e,y⟩=>zQK pins s' σ H' Q I (by obtain ⟨rfl,rfl⟩:=zAm e; exact y H' μ sr (Step.refl _ _ _)),hE,ht,c6,rfl⟩
  | cons q r =>
   cases r with
   | nil =>
    obtain ⟨ct,e4,u4⟩:=qA1.mp u3
    exact ⟨t,xs,js,ci,ct,ce,zQ0 h hc e1,i1,i2,zPZ h hc e0,fun cl' s H C ex=>zQJ (hft _ _ (h.comp hc cl' s H C ex) q ct e4),hE,ht,c6,u4.symm⟩
   | cons _ _=>cases u3
 ·rw [if_neg hc] at e; cases e
theorem zQB (h:XOk X sc ar cl k) {it:Option CI}{fe:Sc→Expr→Option C}{ft:Sc→Expr→Option CT}{tg iter elt:Expr}{ifs:yE}{scope:Scope}{pos:Pos}{c:C} (e:zFp sc it fe ft tg elt ifs scope=some c)
  (hi:∀ ci,it=some ci→PI X tg iter (tOfI X.K ci)∧zJm iter=false) (hfe:∀ X' sc',XOk X' sc' ar cl k→zDf X' (fe sc')) (hft:∀ X' sc',XOk X' sc' ar cl k→zIR X' (ft sc')):PE X (.ListComp elt [⟨tg,iter,ifs,0⟩] scope pos) (tOf X.K c):=by
 obtain ⟨t,xs,js,ci,ct,ce,B,i1,i2,hg,hT,hE,ht,h1,rfl⟩:=zNl h e hi hfe hft
 exact (zQX B i1 hg hT hE (zFd i2)).weak fun σ H Q q=>zMr ht h1 q
theorem zOd (h:XOk X sc ar cl k) {it:Option CI}{fe:Sc→Expr→Option C}{ft:Sc→Expr→Option CT}{tg iter elt:Expr}{ifs:yE}{scope:Scope}{pos pos' spos:Pos}{y0:Str}{go:TG} (hgo:PG X (.Name y0 pos') go) (hsw:swapsWith (.ListComp elt [⟨tg,iter,ifs,0⟩] scope pos) (some (.Name y0 pos')) spos.line X.env=pure true) {c:C} (e:zFp sc it fe ft tg elt ifs scope=some c)
  (hi:∀ ci,it=some ci→PI X tg iter (tOfI X.K ci)∧zJm iter=false) (hfe:∀ X' sc',XOk X' sc' ar cl k→zDf X' (fe sc')) (hft:∀ X' sc',XOk X' sc' ar cl k→zIR X' (ft sc')):PS X (.Assign [.Name y0 pos'] (.ListComp elt [⟨tg,iter,ifs,0⟩] scope pos) spos) (tAsg (tOf X.K c) go):=by
 obtain ⟨t,xs,js,ci,ct,ce,B,i1,i2,hg,hT,hE,ht,h1,rfl⟩:=zNl h e hi hfe hft
 exact (zKU hgo hsw B i1 hg hT hE (zFd i2)).weak fun D σ H q=>zMr ht h1 q
end
open PySem PySem.Spec PyProof.Rows
section
variable (ar:Str→yK) (cl:Str→yM→M D)
mutual
noncomputable def cE:Nat→Sc→Expr→Option C
 | 0,_,_=>none
 | n+1,sc,e=>match e with
  | .Constant v _ _=>zQ2 v
  | .Name x _=>zRQ sc ar x
  | .BinOp a op b _=>(zTD op).bind fun o=>(cE n sc a).bind fun ca=>(cE n sc b).map fun cb=>cBin o ca cb
  | .UnaryOp op a _=>match op with
   | .USub=>(cE n sc a).map fun ca=>cUn oNeg ca
   | .Not=>(cE n sc a).map fun ca=>zLr ca
   | _=>none
  | .BoolOp op vs _=>zKE op (cE n sc) vs
  | .IfExp t a b _=>(cT n sc t).bind fun ct=>(cE n sc a).bind fun ca=>(cE n sc b).map fun cb=>cIf ct ca cb
  | .Compare a ops bs _=>zDS (cE n sc) a ops bs
  | .Tuple es _ _=>(zA1? (cE n sc) es).bind fun cs=>if cs.length≤1000 then some (cTup (zA1 cs)) else none
  | .List es _=>(zA1? (cE n sc) es).bind fun cs=>if cs.length≤1000 then some (cLst (zA1 cs)) else none
  | .Subscript a b _=>cSub (cE n sc) a b
  | .Dict ks vs _=>zRS (cE n sc) ks vs
  | .Call fn es kw cpos=>match kw with
   | []=>match fn with
    | .Name x _=>zNE sc ar cl (cE n sc) x es
    | .Attribute o m apos=>zJN (cE n sc) o m es apos cpos
    | _=>none
   | _::_=>none
  | .ListComp elt gens scope _=>match gens with
   | [⟨tg,iter,ifs,ia⟩]=>if ia=0 then zFp sc (zLs sc ar (cE n sc) tg iter) (cE n) (cT n) tg elt ifs scope else none
   | _=>none
  | _=>none
noncomputable def cT:Nat→Sc→Expr→Option CT
 | 0,_,_=>none
 | n+1,sc,e=>match e with
  | .UnaryOp op a _=>match op with
   | .Not=>(cT n sc a).map fun ca=>zCI ca
   | _=>(cE n sc e).map cTru
  | .BoolOp op vs _=>zKF op (cT n sc) vs
  | .IfExp _ _ _ _=>none
  | .Compare a ops bs _=>zGl (cE n sc) a ops bs
  | _=>(cE n sc e).map cTru
end
end
section
variable {X:Cx}{sc:Sc}{ar:Str→yK}{cl:Str→yM→M D}{k:Nat}
theorem zKT:∀ n:Nat,(∀ X sc,XOk X sc ar cl k→zDf X (cE ar cl n sc))∧(∀ X sc,XOk X sc ar cl k→zIR X (cT ar cl n sc))
 | 0=>⟨fun X sc h e c q=>(by cases q),fun X sc h e c q=>(by cases q)⟩
 | n+1=>by
  obtain ⟨ihE,ihT⟩:=zKT n
  refine ⟨fun X sc h e c q=>?_,fun X sc h e c q=>?_⟩
  ·have hf:=ihE X sc h
   have ht:=ihT X sc h
   cases e with
   | Constant v j pos=>exact zQA q
   | Name x pos=>exact zSP h q
   | BinOp a op b pos =>
    obtain ⟨o,e0,q1⟩:=qA2.mp q
    obtain ⟨ca,e1,q2⟩:=qA2.mp q1
    obtain ⟨cb,e2,q3⟩:=qA1.mp q2
    subst q3
    exact zSL (s_op e0) (hf _ _ e1) (hf _ _ e2)
   | UnaryOp op a pos =>
    cases op with
    | USub =>
     obtain ⟨ca,e1,q2⟩:=qA1.mp q
     subst q2
     exact zVQ zSd (hf _ _ e1)
    | Not =>
     obtain ⟨ca,e1,q2⟩:=qA1.mp q
     subst q2
     exact zSI (hf _ _ e1)
    | _=>cases q
   | BoolOp op vs pos=>exact zJ2 hf q
   | IfExp t a b pos =>
    obtain ⟨ct,e0,q1⟩:=qA2.mp q
    obtain ⟨ca,e1,q2⟩:=qA2.mp q1
    obtain ⟨cb,e2,q3⟩:=qA1.mp q2
    subst q3
    exact zO9 (ht _ _ e0) (hf _ _ e1) (hf _ _ e2)
   | Compare a ops bs pos=>exact zM9 h.room hf q
   | Tuple es j pos =>
    obtain ⟨cs,e1,q1⟩:=qA2.mp q
    split at q1
    ·rename_i hl; cases q1; exact zSG (zCX hf e1).1 hl
    ·cases q1
   | List es pos =>
    obtain ⟨cs,e1,q1⟩:=qA2.mp q
    split at q1
    ·rename_i hl; cases q1; exact zSJ (zCX hf e1).1 hl
    ·cases q1
   | Subscript a b pos=>exact zVU h.room hf q
   | Dict ks vs pos=>exact zSQ hf q
   | Call fn es kw cpos =>
    cases kw with
    | cons _ _=>cases q
    | nil =>
     cases fn with
     | Name x p=>exact zQC h hf q
     | Attribute o m apos=>exact zOc h.room hf q
     | _=>cases q
   | ListComp elt gens scope pos =>
    cases gens with
    | nil=>cases q
    | cons g gs =>
     obtain ⟨tg,iter,ifs,ia⟩:=g
     cases gs with
     | cons _ _=>cases q
     | nil =>
      change (if ia=0 then zFp sc (zLs sc ar (cE ar cl n sc) tg iter) (cE ar cl n) (cT ar cl n) tg elt ifs scope else none)=some c at q
      split at q
      ·rename_i hz
       subst hz
       exact zQB h q (fun ci e=>zM8 h hf e) (fun X' sc' h'=>ihE X' sc' h') (fun X' sc' h'=>ihT X' sc' h')
      ·cases q
   | _=>cases q
  ·have hf:=ihE X sc h
   have ht:=ihT X sc h
   have dflt:∀ {c:CT},(cE ar cl n sc e).map cTru=some c→(∀ whole,isTrue e X.env whole=(do let v ← whole; standAt e.pos; holding [v] (truthy v)))→PT X e (tOfT X.K c):=fun {c} q he=>by
    obtain ⟨ca,e1,q2⟩:=qA1.mp q
    subst q2
    exact zSp (hf _ _ e1) he
   cases e with
   | UnaryOp op a pos =>
    cases op with
    | Not =>
     obtain ⟨ca,e1,q2⟩:=qA1.mp q
     subst q2
     exact zSq (ht _ _ e1)
    | USub=>exact dflt q fun _=>rfl
    | UAdd=>exact dflt q fun _=>rfl
    | Invert=>exact dflt q fun _=>rfl
   | BoolOp op vs pos=>exact (zJ3 ht q).pt
   | IfExp t a b pos=>cases q
   | Compare a ops bs pos=>exact zKR h.room hf q
   | _=>exact dflt q fun _=>rfl
section
variable (ar:Str→yK) (cl:Str→yM→M D)
noncomputable def cTg (sc:Sc) (x:Str):Option G:=(zEk sc.N x 0).bind fun i=>if sc.names.lookup x=some .local∨(sc.fn.isSome=true∧sc.names.lookup x=some .cell) then some (gN i) else none
mutual
noncomputable def cG:Nat→Sc→Expr→Option G
 | 0,_,_=>none
 | n+1,sc,e=>match e with
  | .Name x _=>cTg sc x
  | .Subscript a b _=>match b with
   | _=>if zF4 b then none else (cE ar cl n sc a).bind fun ca=>(cE ar cl n sc b).map fun cb=>gS ca cb
  | .Tuple es _ _=>(cGs n sc es).map fun gs=>gT gs
  | _=>none
noncomputable def cGs:Nat→Sc→yE→Option (List G)
 | 0,_,_=>none
 | n+1,sc,es=>match es with
  | []=>some []
  | e::r=>if zAB e then (cG n sc e).bind fun g=>(cGs n sc r).map fun gs=>g::gs else none
end
end
theorem XOk.nd' (h:XOk X sc ar cl k):X.N.Nodup:=by rw [h.N]; exact h.nd
theorem s_tg (h:XOk X sc ar cl k) {x:Str}{g:G} (e:cTg sc x=some g):∃ i,g=gN i∧X.N[i]?=some x∧Loc X.env.scope x∧(X.fn x=true∨X.env.scope.names.lookup x=some .local):=by
 unfold cTg at e
 obtain ⟨i,e1,e2⟩:=qA2.mp e
 split at e2
 ·rename_i hc
  cases e2
  refine ⟨i,rfl,by rw [h.N]; exact (zDk e1).2,?_⟩
  rcases hc with q | ⟨q1,q2⟩
  ·exact ⟨.inl (h.loc x q),.inr (h.loc x q)⟩
  ·exact ⟨.inr (h.cel x q2),.inl (h.fnn q1 x)⟩
 ·cases e2
theorem zLz {a b:Expr}{pos:Pos}{env:Env} (h:zF4 b=false):∀ v,assign (.Subscript a b pos) env v=(do
   let ov ← holding [v] (eval a env)
   let iv ← holding [v,ov] (eval b env)
   standAt pos
   holding [v,ov,iv] (setItem ov iv v)
   release [v,ov,iv] []):=by
 cases b <;> first | (intro v; rfl) | cases h
theorem zC2 {e:Expr}{es:yE}{env:Env} (h:zAB e=true):assignEach (e::es) env=(false,assign e env)::assignEach es env:=by
 cases e <;> first | rfl | cases h
theorem s_G:∀ n:Nat,(∀ X sc,XOk X sc ar cl k→∀ e g,cG ar cl n sc e=some g→PG X e (tOfG X.K g))∧(∀ X sc,XOk X sc ar cl k→∀ es gs,cGs ar cl n sc es=some gs→PGs X es (zLV X.K gs)∧(assignEach es X.env).length=gs.length∧(assignEach es X.env).findIdx? (·.1)=none)
 | 0=>⟨fun X sc h e c q=>(by cases q),fun X sc h e c q=>(by cases q)⟩
 | n+1=>by
  obtain ⟨ih,ihs⟩:=s_G n
  refine ⟨fun X sc h e g q=>?_,fun X sc h es gs q=>?_⟩
  ·cases e with
   | Name x pos =>
    obtain ⟨i,rfl,h1,h2,h3⟩:=s_tg h q
    exact zQv (zGt h.nd' h1 h2 h3)
   | Subscript a b pos =>
    change (if zF4 b then none else (cE ar cl n sc a).bind fun ca=>(cE ar cl n sc b).map fun cb=>gS ca cb)=_ at q
    split at q
    ·cases q
    ·rename_i hs
     obtain ⟨ca,e1,q1⟩:=qA2.mp q
     obtain ⟨cb,e2,q2⟩:=qA1.mp q1
     subst q2
     exact zSD (zRG h.room) ((zKT n).1 X sc h _ _ e1) ((zKT n).1 X sc h _ _ e2) (zLz (by simpa using hs))
   | Tuple es j pos =>
    obtain ⟨gs,e1,q1⟩:=qA1.mp q
    subst q1
    obtain ⟨h1,h2,h3⟩:=ihs X sc h es gs e1
    exact zSC h.calm h1 h2 h3
   | _=>cases q
  ·cases es with
   | nil=>cases q; exact ⟨zQu,rfl,rfl⟩
   | cons e r =>
    change (if zAB e=true then (cG ar cl n sc e).bind fun g=>(cGs ar cl n sc r).map fun gs=>g::gs else none)=_ at q
    split at q
    ·rename_i hs
     obtain ⟨g,e1,q1⟩:=qA2.mp q
     obtain ⟨gs',e2,q2⟩:=qA1.mp q1
     subst q2
     obtain ⟨h1,h2,h3⟩:=ihs X sc h r gs' e2
     have ha:=zC2 (es:=r) (env:=X.env) hs
     refine ⟨zO4 (ih X sc h e g e1) h1 (by rw [ha]; rfl),by rw [ha]; simp [h2],by rw [ha,qR7]; simp [h3]⟩
    ·cases q
noncomputable def zHT:Expr→Bool
 | .ListComp _ _ _ _=>true
 | .SetComp _ _ _ _=>true
 | .DictComp _ _ _ _ _=>true
 | _=>false
theorem zK7 {e:Expr}{t:Option Expr}{n:Nat}{env:Env} (h:zHT e=false):swapsWith e t n env=pure false:=by
 cases e <;> first | rfl | cases h
noncomputable def zJF:Expr→Expr→Bool
 | .Name _ _,.ListComp _ _ _ _=>false
 | .Tuple _ _ _,.ListComp _ _ _ _=>false
 | _,e=>zHT e
theorem zMa (h:XOk X sc ar cl k):∀ {n:Nat}{elt:Expr}{gens:List Comprehension}{scope:Scope}{pos pos' spos:Pos}{x:Str}{c:C}{i:Nat} (q:cE ar cl n sc (.ListComp elt gens scope pos)=some c) (hgo:PG X (.Name x pos') (zJv i))
  (hsw:swapsWith (.ListComp elt gens scope pos) (some (.Name x pos')) spos.line X.env=pure true),PS X (.Assign [.Name x pos'] (.ListComp elt gens scope pos) spos) (tAsg (tOf X.K c) (zJv i))
 | 0,_,_,_,_,_,_,_,_,_,q,_,_=>by cases q
 | n+1,elt,gens,scope,pos,pos',spos,x,c,i,q,hgo,hsw=>by
  obtain ⟨ihE,ihT⟩:=zKT (ar:=ar) (cl:=cl) (k:=k) n
  cases gens with
  | nil=>cases q
  | cons g gs =>
   obtain ⟨tg,iter,ifs,ia⟩:=g
   cases gs with
   | cons _ _=>cases q
   | nil =>
    change (if ia=0 then zFp sc (zLs sc ar (cE ar cl n sc) tg iter) (cE ar cl n) (cT ar cl n) tg elt ifs scope else none)=some c at q
    split at q
    ·rename_i hz
     subst hz
     exact zOd h hgo hsw q (fun ci e=>zM8 h (ihE X sc h) e) (fun X' sc' h'=>ihE X' sc' h') (fun X' sc' h'=>ihT X' sc' h')
    ·cases q
theorem zKO {elt:Expr}{gens:List Comprehension}{scope:Scope}{pos pos':Pos}{x:Str}{line:Nat}{env:Env}:∃ b:Bool,swapsWith (.ListComp elt gens scope pos) (some (.Name x pos')) line env=pure b:=⟨_,rfl⟩
inductive CB (tg e:Expr):Prop
 | no (h:∀ n env,swapsWith e (some tg) n env=pure false)
 | yes (x:Str) (pos':Pos) (elt:Expr) (gens:List Comprehension) (scope:Scope) (pos:Pos) (h1:tg=.Name x pos') (h2:e=.ListComp elt gens scope pos)
theorem CB.of {tg e:Expr} (h:zHT e=false):CB tg e:=.no fun _ _=>zK7 h
theorem zLn {tg e:Expr} (h:zJF tg e=false):CB tg e:=by
 cases tg with
 | Name x pos' =>
  cases e with
  | ListComp elt gens scope pos=>exact .yes x pos' elt gens scope pos rfl rfl
  | _=>exact .of h
 | Tuple es k pos =>
  cases e with
  | ListComp elt gens scope pos=>exact .no fun _ _=>rfl
  | _=>exact .of h
 | _=>exact .of h
noncomputable def zOY:Expr→Bool
 | .List _ _=>true
 | _=>false
theorem zG0 {tg e:Expr}{env:Env} (h:(zAK tg&&zAK e)=false) (hl:zOY tg=false):swappedStores [tg] e env=pure none:=by
 cases tg with
 | Tuple es n pos=>cases e <;> first | rfl | cases h
 | List es pos=>cases hl
 | _=>rfl
noncomputable def zE2 (sc:Sc):Expr→Bool
 | .Tuple [.Name x _,.Name y _] _ _=>sc.names.lookup x == some .cell||sc.names.lookup y == some .cell
 | _=>false
theorem zJ1 {tg:Expr} (h:zE2 sc tg=true):∃ x px y py k pos,tg=.Tuple [.Name x px,.Name y py] k pos∧(sc.names.lookup x=some .cell∨sc.names.lookup y=some .cell):=by
 unfold zE2 at h
 split at h
 ·rename_i x px y py k pos
  simp only [qF9,beq_iff_eq] at h
  exact ⟨x,px,y,py,k,pos,rfl,h⟩
 ·cases h
theorem zHp {x y:Str}{px py pos pos2:Pos}{k k2:Nat}{vs:yE}{env:Env} (h:env.scope.names.lookup x=some .cell∨env.scope.names.lookup y=some .cell):swappedStores [.Tuple [.Name x px,.Name y py] k pos] (.Tuple vs k2 pos2) env=pure none:=by
 have hn:(([Expr.Name x px,Expr.Name y py].filterMap fun e=>match e with
  | .Name id p=>if (env.kindOf id == some NameKind.local&&p.line == (([Expr.Name x px,Expr.Name y py].head?.map (·.pos.line)).getD 0))=true then some id else none
  | _=>none).length != 2)=true:=by
  have kx:env.kindOf x=env.scope.names.lookup x:=rfl
  have ky:env.kindOf y=env.scope.names.lookup y:=rfl
  have hc:(some NameKind.cell == some NameKind.local)=false:=by decide
  rcases h with h | h
  ·simp only [qG8,qN8,kx,h,hc,qL1,qE0,if_false]
   split <;> rfl
  ·simp only [qG8,qN8,ky,h,hc,qL1,qE0,if_false]
   split <;> rfl
 unfold swappedStores
 simp only [pure_bind]
 split
 ·rfl
 ·split
  ·rfl
  ·rw [if_pos]
   show (_||_)=true
   rw [qF9]
   exact .inl hn
theorem zEF (h:XOk X sc ar cl k) {tg e:Expr} (c2:(zAK tg&&zAK e&&!zE2 sc tg)=false) (c3:zOY tg=false):swappedStores [tg] e X.env=pure none:=by
 cases hc:zE2 sc tg with
 | false =>
  rw [hc] at c2
  exact zG0 (by simpa using c2) c3
 | true =>
  obtain ⟨x,px,y,py,kk,pos,rfl,hxy⟩:=zJ1 hc
  cases he:zAK e with
  | false=>exact zG0 (by rw [he]; rfl) c3
  | true =>
   obtain ⟨vs,k2,pt2,rfl⟩:=zMQ he
   exact zHp (hxy.imp (h.cel x) (h.cel y))
noncomputable def zWd (sc:Sc) (t v:Expr × Expr) (n:Str × Str):Option (Nat × Nat × Expr × Expr) :=
 if n.1≠n.2∧sc.names.lookup n.1=some .local∧sc.names.lookup n.2=some .local∧t.1.pos.line=t.2.pos.line∧zAB v.1=true∧zAB v.2=true∧([v.1,v.2].all (foldedForSure 8))=false∧([v.1,v.2].all (constantsAlone 8))=false then
  (zEk sc.N n.1 0).bind fun i=>(zEk sc.N n.2 0).map fun j=>(i,j,v.1,v.2)
 else none
noncomputable def zIX:Nat:=100000
section
variable (ar:Str→yK) (cl:Str→yM→M D)
mutual
noncomputable def cSt:Nat→Sc→Stmt→Option CS
 | 0,_,_=>none
 | n+1,sc,s=>match s with
  | .Return v _=>match v with
   | none=>some zQD
   | some e=>(cE ar cl n sc e).map fun c=>sRet c
  | .Expr e _=>if zHT e then none else (cE ar cl n sc e).map fun c=>zEI c
  | .Assign tgs e _=>match tgs with
   | [tg] =>
    if zJF tg e||(zAK tg&&zAK e&&!zE2 sc tg)||zOY tg||!zAB tg then none else (cE ar cl n sc e).bind fun c=>(cG ar cl n sc tg).map fun g=>sAsg c g
   | _=>none
  | .If t a b _=>(cT ar cl n sc t).bind fun ct=>(cSts n sc a).bind fun ca=>(cSts n sc b).map fun cb=>sIf ct ca cb
  | .For tg it body els _=>match els with
   | []=>(zLs sc ar (cE ar cl n sc) tg it).bind fun ci=>(cG ar cl n sc tg).bind fun g=>(cSts n sc body).map fun cb=>sFor ci g cb
   | _::_=>none
  | .While t body els _=>match els with
   | []=>(cT ar cl n sc t).bind fun ct=>(cSts n sc body).map fun cb=>zCN zIX ct cb
   | _::_=>none
  | .Pass _=>some zA6
  | .Break _=>some sBrk
  | .Continue _=>some sCnt
  | .Raise _ _ _=>some sBad
  | _=>none
noncomputable def cSts:Nat→Sc→List Stmt→Option CS
 | 0,_,_=>none
 | n+1,sc,ss=>match ss with
  | []=>some zA6
  | s::r=>(cSt n sc s).bind fun c=>(cSts n sc r).map fun d=>sSeq c d
end
end
inductive ParE (sc:Sc) (tg e:Expr) (r:Nat × Nat × Expr × Expr):Prop
 | mk (x y:Str) (px py pt pt2:Pos) (kt k2:Nat) (v1 v2:Expr) (h1:tg=.Tuple [.Name x px,.Name y py] kt pt) (h2:e=.Tuple [v1,v2] k2 pt2) (hp:zWd sc (.Name x px,.Name y py) (v1,v2) (x,y)=some r)
theorem zMk (h:XOk X sc ar cl k):PassesOwn (model X.prog X.w) X.A X.env X.xe:=by rw [h.xe]; exact PassesOwn.never
theorem s_St:∀ n:Nat,(∀ X sc,XOk X sc ar cl k→∀ s c,cSt ar cl n sc s=some c→PS X s (tOfS X c))∧(∀ X sc,XOk X sc ar cl k→∀ s c,cSts ar cl n sc s=some c→PSs X s (tOfS X c))
 | 0=>⟨fun X sc h e c q=>(by cases q),fun X sc h e c q=>(by cases q)⟩
 | n+1=>by
  obtain ⟨ih,ihs⟩:=s_St n
  refine ⟨fun X sc h s c q=>?_,fun X sc h ss c q=>?_⟩
  ·have hf:=(zKT (ar:=ar) (cl:=cl) (k:=k) n).1 X sc h
   have ht:=(zKT (ar:=ar) (cl:=cl) (k:=k) n).2 X sc h
   have hg:=(s_G (ar:=ar) (cl:=cl) (k:=k) n).1 X sc h
   cases s with
   | Return v pos =>
    cases v with
    | none=>cases q; exact zQk
    | some e =>
     obtain ⟨ce,e1,q1⟩:=qA1.mp q
     subst q1
     exact zSt (hf _ _ e1)
   | Expr e pos =>
    change (if zHT e=true then none else (cE ar cl n sc e).map fun c=>zEI c)=some c at q
    split at q
    ·cases q
    ·rename_i hc
     obtain ⟨ce,e1,q1⟩:=qA1.mp q
     subst q1
     exact zQm (hf _ _ e1) (zK7 (by simpa using hc))
   | Assign tgs e pos =>
    cases tgs with
    | nil=>cases q
    | cons tg r =>
     cases r with
     | cons _ _=>cases q
     | nil =>
      change (if zJF tg e||(zAK tg&&zAK e&&!zE2 sc tg)||zOY tg||!zAB tg then none else (cE ar cl n sc e).bind fun c=>(cG ar cl n sc tg).map fun g=>sAsg c g)=some c at q
      split at q
      ·cases q
      ·rename_i hc
       simp only [qF9,not_or,qS8,qH8,Bool.not_eq_false] at hc
       obtain ⟨⟨⟨c1,c2⟩,c3⟩,c4⟩:=hc
       obtain ⟨ce,e1,q1⟩:=qA2.mp q
       obtain ⟨g,e2,q2⟩:=qA1.mp q1
       subst q2
       rcases zLn c1 with c1 | ⟨x,px,elt,gens,scope,pc,rfl,rfl⟩
       ·refine zPz (hf _ _ e1) (hg _ _ e2) (c1 _ _) (zEF h c2 c3) ?_
        rw [zC2 (by simpa using c4)]; rfl
       ·obtain ⟨b,hb⟩:=zKO (elt:=elt) (gens:=gens) (scope:=scope) (pos:=pc) (pos':=px) (x:=x) (line:=pos.line) (env:=X.env)
        cases b with
        | false=>exact zPz (hf _ _ e1) (hg _ _ e2) hb (zEF h c2 c3) (by rw [zC2 (by simpa using c4)]; rfl)
        | true =>
         cases n with
         | zero=>cases e2
         | succ n =>
          obtain ⟨i,rfl,h1,h2,h3⟩:=s_tg h e2
          exact zSs (zMa h e1 (zGt h.nd' h1 h2 h3) hb)
   | If t a b pos =>
    obtain ⟨ct,e0,q1⟩:=qA2.mp q
    obtain ⟨ca,e1,q2⟩:=qA2.mp q1
    obtain ⟨cb,e2,q3⟩:=qA1.mp q2
    subst q3
    exact zVO (ht _ _ e0) (ihs X sc h _ _ e1) (ihs X sc h _ _ e2)
   | For tg it body els pos =>
    cases els with
    | cons _ _=>cases q
    | nil =>
     obtain ⟨ci,e0,q1⟩:=qA2.mp q
     obtain ⟨g,e1,q2⟩:=qA2.mp q1
     obtain ⟨cb,e2,q3⟩:=qA1.mp q2
     subst q3
     obtain ⟨i1,i2⟩:=zM8 h hf e0
     exact zSu (zMk h) h.calm i1 (hg _ _ e1) (ihs X sc h _ _ e2) (zFd i2)
   | While t body els pos =>
    cases els with
    | cons _ _=>cases q
    | nil =>
     obtain ⟨ct,e0,q1⟩:=qA2.mp q
     obtain ⟨cb,e2,q3⟩:=qA1.mp q1
     subst q3
     exact zO3 zIX (zMk h) (ht _ _ e0) (ihs X sc h _ _ e2)
   | Pass pos=>cases q; exact zQl
   | Break pos=>cases q; exact zSw
   | Continue pos=>cases q; exact zSv
   | Raise a b pos=>cases q; exact zSx
   | _=>cases q
  ·cases ss with
   | nil=>cases q; exact zQj
   | cons s r =>
    obtain ⟨c1,e1,q1⟩:=qA2.mp q
    obtain ⟨c2,e2,q2⟩:=qA1.mp q1
    subst q2
    exact zO2 (ih X sc h _ _ e1) (ihs X sc h _ _ e2)
noncomputable def zAz (n:Nat) (ds:yM):Env1:=ds.map some++qL2 (n - ds.length) none
noncomputable def runF (np nN:Nat) (b:CS):yM→M D:=fun ds S=>if ds.length=np then (match b (zAz nN ds) S with
 | .nx _ S'=>.ok .non S'
 | .rt d S'=>.ok d S'
 | .er c S'=>.er c S'
 | _=>.bad) else .bad
theorem RVs.begins {K:W.Frag}{H:Hp}{μ:yC}{N:yH}{ds:yM}{vs:List V} (r:RVs K H μ ds vs):RE K H μ (zAz N.length ds) (start N vs):=by
 unfold zAz start
 refine ⟨by simp [r.len],fun i d e=>?_⟩
 by_cases hi:i<ds.length
 ·rw [qA7 (by simpa using hi),qB7] at e
  rw [qA7 (by rw [qA6,← r.len]; exact hi),qB7]
  cases q:ds[i]? with
  | none=>rw [q] at e; cases e
  | some d' =>
   rw [q] at e; cases e
   obtain ⟨v,e1,e2⟩:=r.get q
   exact ⟨v,by rw [e1]; rfl,e2⟩
 ·rw [qA0 (by simpa using hi),qJ2] at e
  split at e <;> cases e
noncomputable def fnOk (N ps:yH) (scope:Scope):Bool :=
 decide (scope.kind=.function)&&!scope.isCoroutine&&!scope.isGenerator&&decide N.Nodup&&decide (N.take ps.length=ps)&&ps.all (fun x=>scope.names.lookup x == some .local||scope.names.lookup x == some .cell)&&scope.names.all (fun y=>y.2 != .free)
theorem zLb {N ps:yH}{scope:Scope} (h:fnOk N ps scope=true):zHe N ps scope:=by
 unfold fnOk at h
 simp only [qC6,decide_eq_true_eq,qH8] at h
 obtain ⟨⟨⟨⟨⟨⟨c1,c2⟩,c3⟩,c4⟩,c5⟩,c6⟩,c7⟩:=h
 refine ⟨c1,c2,c3,c4,c5,fun x hx=>?_,fun y hy=>?_⟩
 ·have:=qC8.mp c6 x hx
  simpa using this
 ·have:=qC8.mp c7 y hy
  simpa using this
theorem s_fn {P:Program}{w:World}{K:W.Frag}{mg:Str→yF}{base:Heap}{x:Str}{st:Stmt}{fa:Addr}{fd:FuncData}{N ps:yH}{fuel:Nat}{b:CS} (F:Fun K x x st fa fd)
  (hs:fnOk N ps (zA3 st)=true) (hc:cSts ar cl fuel ⟨N,(zA3 st).names,some x⟩ (zAE st)=some b)
  (hB:MgOk ar mg)
  (ih:∀ y n,ar y=some n→(∃ ps,zGi P w K mg base y ps k (spOf K (cl y) n))∧∀ ds S d S',cl y ds S=.ok d S'→ds.length=n):FnOk P w K mg base CX0 (k+1) fa fd ps (spOf K (runF ps.length N.length b) ps.length):=by
 have S:=zLb hs
 refine F.ok (k:=k) S (fun vs H Q E h=>h.1) (fun cdv A outer s H vs Q E hr h=>?_)
 obtain ⟨hl,μ,ds,S0,d,S',sr,rv,e,y⟩:=h
 have hX:XOk (cxOf CX0 P w K mg base N x (zA3 st) fa cdv A outer s H E).nox ⟨N,(zA3 st).names,some x⟩ ar cl k:={
  calm:=rfl
  N:=rfl
  nd:=S.nd
  gl:=fun x hx=>hx
  loc:=fun x hx=>hx
  cel:=fun x hx=>hx
  fre:=fun x hx=>.inr hx
  fnn:=fun _ x=>rfl
  room:=hr
  xe:=rfl
  blt:=hB
  fns:=ih }
 refine ⟨_,(s_St fuel).2 _ _ hX _ _ hc,μ,zAz N.length ds,S0,sr,rv.begins,?_⟩
 unfold runF at e
 split at e
 ·split at e
  ·rename_i ρ S2 he
   cases e
   rw [he]
   exact fun σ' H' μ' sr' st' re'=>y _ H' μ' sr' st' zHA
  ·rename_i d' S2 he
   cases e
   rw [he]
   exact y
  ·cases e
  ·cases e
 ·cases e
theorem zVV {P:Program}{w:World}{K:W.Frag}{mg:Str→yF}{base:Heap}{x:Str}{st:Stmt}{fa:Addr}{fd:FuncData}{N ps:yH}{fuel:Nat}{b:CS} (F:Fun K x x st fa fd) (m:mg x=some (.ref fa)) (hb:zHf K fd ps [])
  (hs:fnOk N ps (zA3 st)=true) (hc:cSts ar cl fuel ⟨N,(zA3 st).names,some x⟩ (zAE st)=some b)
  (hB:MgOk ar mg)
  (ih:∀ y n,ar y=some n→(∃ ps,zGi P w K mg base y ps k (spOf K (cl y) n))∧∀ ds S d S',cl y ds S=.ok d S'→ds.length=n):zGi P w K mg base x ps (k+1) (spOf K (runF ps.length N.length b) ps.length) :=
 ⟨fa,fd,s_fn F hs hc hB ih,hb,F.kp,m⟩
end
open PySem PySem.Spec PyProof.Rows
noncomputable abbrev CLL:=Str→yM→M D
noncomputable abbrev Tbl:=List (Str × (Nat × Nat × (CLL→CS)))
noncomputable def arT (tbl:Tbl) (x:Str):yK:=(tbl.lookup x).map (·.1)
noncomputable def zAs (tbl:Tbl):Nat→CLL
 | 0,_=>fun _ _=>.bad
 | n+1,x=>match tbl.lookup x with
  | some p=>runF p.1 p.2.1 (p.2.2 (zAs tbl n))
  | none=>fun _ _=>.bad
structure zJX (K:W.Frag) (mg:Str→yF) (ar:Str→yK) (x:Str) (p:Nat × Nat × (CLL→CS)):Prop where
 ex:∃ (st:Stmt) (fa:Addr) (fd:FuncData) (N ps:yH) (fuel:Nat),Fun K x x st fa fd∧mg x=some (.ref fa)∧zHf K fd ps []∧fnOk N ps (zA3 st)=true∧ps.length=p.1∧N.length=p.2.1 ∧
  ∀ cl:CLL,cSts ar cl fuel ⟨N,(zA3 st).names,some x⟩ (zAE st)=some (p.2.2 cl)
theorem zOe {np nN:Nat}{b:CS}{ds:yM}{S S':zA0}{d:D} (h:runF np nN b ds S=.ok d S'):ds.length=np:=by
 unfold runF at h
 split at h
 ·assumption
 ·cases h
theorem zL1 {α:Type}{tbl:List (Str × α)}{x:Str}{p:α} (h:tbl.lookup x=some p):(x,p)∈tbl:=by
 induction tbl with
 | nil=>cases h
 | cons y r ih =>
  obtain ⟨y1,y2⟩:=y
  rw [qD3] at h
  split at h
  ·rename_i e
   cases h
   have:x=y1:=by simpa using e
   subst this
   simp
  ·exact qC7 _ (ih h)
theorem zPy {P:Program}{w:World}{K:W.Frag}{mg:Str→yF}{base:Heap}{tbl:Tbl} (hd:∀ x p,tbl.lookup x=some p→zJX K mg (arT tbl) x p) (hB:MgOk (arT tbl) mg) :
  ∀ (k:Nat) (x:Str) (n:Nat),arT tbl x=some n→(∃ ps,zGi P w K mg base x ps k (spOf K (zAs tbl k x) n))∧∀ ds S d S',zAs tbl k x ds S=.ok d S'→ds.length=n
 | 0,x,n,h=>by
  obtain ⟨p,hp,rfl⟩:=qA1.mp h
  obtain ⟨st,fa,fd,N,ps,fuel,F,m,hb,_⟩:=(hd x p hp).ex
  have no:∀ ds S d S',zAs tbl 0 x ds S=.ok d S'→False:=fun ds S d S' e=>by unfold zAs at e; cases e
  refine ⟨⟨ps,fa,fd,⟨fun vs H Q E h=>?_,fun A outer s H args us vs Q E _ _ _ _ h=>?_⟩,hb,F.kp,m⟩,fun ds S d S' e=>(no _ _ _ _ e).elim⟩
  ·obtain ⟨_,μ,ds,S,d,S',_,_,e,_⟩:=h; exact (no _ _ _ _ e).elim
  ·obtain ⟨_,μ,ds,S,d,S',_,_,e,_⟩:=h; exact (no _ _ _ _ e).elim
 | k+1,x,n,h=>by
  obtain ⟨p,hp,rfl⟩:=qA1.mp h
  obtain ⟨st,fa,fd,N,ps,fuel,F,m,hb,hs,e1,e2,hc⟩:=(hd x p hp).ex
  have ih:=zPy (P:=P) (w:=w) (base:=base) hd hB k
  have q:=zVV (P:=P) (w:=w) (base:=base) (k:=k) F m hb hs (hc (zAs tbl k)) hB ih
  have e3:zAs tbl (k+1) x=runF p.1 p.2.1 (p.2.2 (zAs tbl k)):=by
   show (match tbl.lookup x with | some p=>runF p.1 p.2.1 (p.2.2 (zAs tbl k)) | none=>fun _ _=>.bad)=_
   rw [hp]
  rw [e1,e2] at q
  rw [e3]
  exact ⟨⟨ps,q⟩,fun ds S d S' e=>zOe e⟩
noncomputable def spL (K:W.Frag):Sp:=fun vs H Q _=>∃ (a:Addr) (ns:yA),vs=[.ref a]∧SqF K H a (ns.map V.int)∧ns.length≤63∧∀ H',Q (.bl true) H'
theorem zSy {K:W.Frag}{H:Hp}{a:Addr}{xs:List V} (o:Only H) (h:SqL K H a xs):SqF K H a xs:=by
 rcases h with (h | ⟨w,h⟩) | h
 ·rcases o a with q | ⟨w,ys,q⟩
  ·rw [h] at q; cases q
  ·rw [h] at q; cases q
 ·exact .inl ⟨w,h⟩
 ·exact .inr h
theorem zU1 {P:Program}{w:World}{K:W.Frag}{mg:Str→yF}{base:Heap}{tbl:Tbl}{fa:Addr}{fd:FuncData}{st:Stmt}{L nN fuel:Nat}{N:yH}{b:CLL→CS} (hd:∀ x p,tbl.lookup x=some p→zJX K mg (arT tbl) x p) (hB:MgOk (arT tbl) mg)
  (hl:tbl.lookup ("law":Str)=some (1,nN,b)) (F:Fun K "law" "law" st fa fd) (hs:fnOk N ["_law_script"] (zA3 st)=true) (hN:N.length=nN) (hc:∀ cl:CLL,cSts (arT tbl) cl fuel ⟨N,(zA3 st).names,some "law"⟩ (zAE st)=some (b cl))
  (hlaw:∀ ns:yA,ns.length≤63→∃ S',zAs tbl (L+1) "law" [.rol (ns.map D.int)] []=.ok (.bl true) S') :
  FnOk P w K mg base CX0 (L+1) fa fd ["_law_script"] (spL K):=by
 have q:=s_fn (P:=P) (w:=w) (base:=base) (k:=L) F hs (hc (zAs tbl L)) hB (zPy (P:=P) (w:=w) (base:=base) hd hB L)
 refine q.imp fun vs H Q E h=>?_
 obtain ⟨a,ns,rfl,hS,hn,hQ⟩:=h
 obtain ⟨S',e⟩:=hlaw ns hn
 have e3:zAs tbl (L+1) "law"=runF 1 nN (b (zAs tbl L)):=by
  show (match tbl.lookup ("law":Str) with | some p=>runF p.1 p.2.1 (p.2.2 (zAs tbl L)) | none=>fun _ _=>.bad)=_
  rw [hl]
 rw [e3] at e
 refine ⟨rfl,[],[.rol (ns.map D.int)],[],.bl true,S',⟨rfl,qQ3,fun n a o h=>by simp at h⟩,.cons (by unfold RV; exact ⟨a,_,rfl,hS,RVs.ints⟩) .nil,by rw [hN]; exact e,fun v H' μ' _ _ r=>?_⟩
 unfold RV at r
 subst r
 exact hQ H'
theorem walk_ev {l:W.OpenLaw}{q:Program}{loose:yH}{XP:(Str→yF)→Heap→Prop}{YP:World→Heap→Prop}{d:DefRec}{K:Params→W.Frag}{L:Nat} (hn:l.most=some 63) (hdf:d.params.defaults=[]) (hr:Room L callerA)
  (hY:∀ (w:World) (h:Heap),YP w h→(K w.params).In h)
  (F:∀ (w:World) (mg:Str→yF) (fa:Addr) (h:Heap),(K w.params).In h→h.Ns mainGlobals mg→mg d.name=some (.ref fa) →
   ∃ fd:FuncData,(∀ (s:Shared) (u:Value),BindsTo s fd ⟨[u],[]⟩ [("_law_script",u)])∧∀ base:Heap,(K w.params).In base→base.Ns mainGlobals mg→FnOk l.prog w (K w.params) mg base CX0 L fa fd ["_law_script"] (spL (K w.params))) :
  W.WalkO q loose XP YP l.row.toRowW d [] (fun f vs=>PySem.call f vs) :=
 L2.walk_of (n:=63) (k:=L) (x := "_law_script") (CX:=fun _=>CX0) (sp:=fun w=>spL (K w.params)) hn (by decide) hdf hr hY F (fun _ _ a ns hl o hS=>⟨a,ns,rfl,zSy o hS,hl,fun _=>rfl⟩) fun _ _ _ _ _ z=>z
open PySem
def zLC (K:W.Frag) (mg:Str→yF) (ar:Str→yK):Tbl→Prop
 | []=>True
 | e::r=>zJX K mg ar e.1 e.2∧zLC K mg ar r
theorem zLC.mem {K:W.Frag}{mg:Str→yF}{ar:Str→yK}:∀ {t:Tbl},zLC K mg ar t→∀ x p,(x,p)∈t→zJX K mg ar x p
 | [],_,x,p,h=>by cases h
 | e::r,⟨a,b⟩,x,p,h=>by
  rcases qB6.mp h with q | q
  ·subst q; exact a
  ·exact b.mem x p q
theorem zLC.look {K:W.Frag}{mg:Str→yF}{ar:Str→yK}{t:Tbl} (h:zLC K mg ar t) (x:Str) (p:Nat × Nat × (CLL→CS)) (e:t.lookup x=some p):zJX K mg ar x p:=h.mem x p (zL1 e)
theorem zUz {K:W.Frag}{mg:Str→yF}{ar:Str→yK}{x:Str}{st:Stmt}{fa:Addr}{fd:FuncData}{N ps:yH}{fuel np nN:Nat}{b:CLL→CS} (F:Fun K x x st fa fd) (m:mg x=some (.ref fa)) (hb:zHf K fd ps []) (hs:fnOk N ps (zA3 st)=true)
  (hc:(fun cl:CLL=>cSts ar cl fuel ⟨N,(zA3 st).names,some x⟩ (zAE st))=fun cl=>some (b cl)) (h1:ps.length=np:=by rfl) (h2:N.length=nN:=by rfl):zJX K mg ar x (np,nN,b) :=
 ⟨st,fa,fd,N,ps,fuel,F,m,hb,hs,h1,h2,fun cl=>congrFun hc cl⟩
def zHg (mg:Str→yF):yH→Prop
 | []=>True
 | x::r=>mg x=none∧zHg mg r
theorem zHg.mem {mg:Str→yF}:∀ {l:yH},zHg mg l→∀ x∈l,mg x=none
 | [],_,x,h=>by cases h
 | e::r,⟨a,b⟩,x,h=>by
  rcases qB6.mp h with q | q
  ·subst q; exact a
  ·exact b.mem x q
open PySem
inductive Tg {γ:Type} (f:γ):Type where
 | mk
noncomputable def rbnd {α β:Type} (r:R α) (f:α→zA0→R β) (_:Tg f):R β:=match r with
 | .bad=>.bad
 | .er c S=>.er c S
 | .ok a S=>f a S
@[simp] theorem zAA {α β:Type} (a:α) (S:zA0) (f:α→zA0→R β):rbnd (.ok a S) f .mk=f a S:=rfl
@[simp] theorem zV6 {α β:Type} (f:α→zA0→R β):rbnd .bad f .mk=.bad:=rfl
@[simp] theorem zBx {α β:Type} (m:M α) (f:α→M β) (S:zA0):bnd m f S=rbnd (m S) f .mk:=rfl
@[simp] theorem zXo {α:Type} (a:α) (S:zA0):ret a S=.ok a S:=rfl
@[simp] theorem zXv {α:Type} (S:zA0):(bad:M α) S=.bad:=rfl
noncomputable def rs {α:Type} (r:R α) (f:α→zA0→RS) (_:Tg f):RS:=match r with
 | .bad=>.bad
 | .er _ _=>.bad
 | .ok a S=>f a S
@[simp] theorem zXA {α:Type} (a:α) (S:zA0) (f:α→zA0→RS):rs (.ok a S) f .mk=f a S:=rfl
@[simp] theorem zXn {α:Type} (f:α→zA0→RS):rs .bad f .mk=.bad:=rfl
noncomputable def sb (r:RS) (f:CS) (_:Tg f):RS:=match r with
 | .nx ρ S=>f ρ S
 | r=>r
@[simp] theorem zXx (ρ:Env1) (S:zA0) (f:CS):sb (.nx ρ S) f .mk=f ρ S:=rfl
@[simp] theorem zXw (d:D) (S:zA0) (f:CS):sb (.rt d S) f .mk=.rt d S:=rfl
@[simp] theorem zXz (ρ:Env1) (S:zA0) (f:CS):sb (.bk ρ S) f .mk=.bk ρ S:=rfl
@[simp] theorem zXy (ρ:Env1) (S:zA0) (f:CS):sb (.ct ρ S) f .mk=.ct ρ S:=rfl
@[simp] theorem zJ4 (a b:CS) (ρ:Env1) (S:zA0):sSeq a b ρ S=sb (a ρ S) b .mk:=by
 unfold sSeq sb; cases a ρ S <;> rfl
@[simp] theorem zV4 (ρ:Env1) (S:zA0):zA6 ρ S=.nx ρ S:=rfl
@[simp] theorem zVY (ρ:Env1) (S:zA0):sBrk ρ S=.bk ρ S:=rfl
@[simp] theorem zVX (ρ:Env1) (S:zA0):sCnt ρ S=.ct ρ S:=rfl
@[simp] theorem zV3 (ρ:Env1) (S:zA0):zQD ρ S=.rt .non S:=rfl
@[simp] theorem zVW (c:C) (ρ:Env1) (S:zA0):sRet c ρ S=rs (c ρ S) (fun d S'=>.rt d S') .mk:=by
 unfold sRet rs; cases c ρ S <;> rfl
@[simp] theorem zV5 (c:C) (ρ:Env1) (S:zA0):zEI c ρ S=rs (c ρ S) (fun _ S'=>.nx ρ S') .mk:=by
 unfold zEI rs; cases c ρ S <;> rfl
@[simp] theorem zVZ (c:C) (g:G) (ρ:Env1) (S:zA0):sAsg c g ρ S=rs (c ρ S) (fun d S1=>rs (g d ρ S1) (fun ρ' S2=>.nx ρ' S2) .mk) .mk:=by
 unfold sAsg rs
 cases c ρ S with
 | ok d S1=>dsimp only; cases g d ρ S1 <;> rfl
 | _=>rfl
@[simp] theorem zXm (t:CT) (a b:CS) (ρ:Env1) (S:zA0):sIf t a b ρ S=rs (t ρ S) (fun k S'=>if k then a ρ S' else b ρ S') .mk:=by
 unfold sIf rs; cases t ρ S <;> rfl
@[simp] theorem zMb (it:CI) (g:G) (b:CS) (ρ:Env1) (S:zA0):sFor it g b ρ S=rs (it ρ S) (fun p S1=>zBg p.2 g b p.1 ρ S1) .mk:=by
 unfold sFor rs
 cases it ρ S with
 | ok p S1=>obtain ⟨a,b⟩:=p; rfl
 | _=>rfl
@[simp] theorem zXD (i:Nat) (d:D) (ρ:Env1) (S:zA0):gN i d ρ S=.ok (ρ.set i (some d)) S:=rfl
noncomputable def mo {α:Type} (o:Option α) (S':α→zA0) (ρ:Env1):R Env1:=match o with
 | some x=>.ok ρ (S' x)
 | none=>.bad
@[simp] theorem zXC (co ci:C) (d:D) (ρ:Env1) (S:zA0):gS co ci d ρ S=rbnd (co ρ S) (fun o S1=>rbnd (ci ρ S1) (fun i S2=>mo (oSet o i d S2) (fun x=>x) ρ) .mk) .mk:=by
 unfold gS
 rw [zBx]
 cases co ρ S with
 | bad=>rfl
 | er _ _=>rfl
 | ok o S1 =>
  rw [zAA,zAA,zBx]
  cases ci ρ S1 with
  | bad=>rfl
  | er _ _=>rfl
  | ok i S2 =>
   rw [zAA,zAA]
   cases h:oSet o i d S2 <;> rfl
@[simp] theorem zWD {α:Type} (x:α) (f:α→zA0) (ρ:Env1):mo (some x) f ρ=.ok ρ (f x):=rfl
@[simp] theorem zXB (gs:List G) (xs:yM) (ρ:Env1) (S:zA0):gT gs (.tup xs) ρ S=gTs gs xs ρ S:=rfl
@[simp] theorem zWT (ρ:Env1) (S:zA0):gTs [] [] ρ S=.ok ρ S:=rfl
@[simp] theorem zVj (g:G) (gs:List G) (x:D) (xs:yM) (ρ:Env1) (S:zA0):gTs (g::gs) (x::xs) ρ S=rbnd (g x ρ S) (fun ρ1 S1=>gTs gs xs ρ1 S1) .mk:=rfl
@[simp] theorem zRP (i:Nat) (ρ:Env1) (S:zA0):cVar i ρ S=match ρ[i]? with | some (some d)=>.ok d S | _=>.bad:=rfl
@[simp] theorem zRT (d:D) (ρ:Env1) (S:zA0):cCon d ρ S=.ok d S:=rfl
@[simp] theorem zRU (o:D→D→M D) (a b:C) (ρ:Env1) (S:zA0):cBin o a b ρ S=rbnd (a ρ S) (fun x S1=>rbnd (b ρ S1) (fun y S2=>o x y S2) .mk) .mk:=rfl
@[simp] theorem zXs (o:D→M D) (a:C) (ρ:Env1) (S:zA0):cUn o a ρ S=rbnd (a ρ S) o .mk:=rfl
@[simp] theorem zNF (ρ:Env1) (S:zA0):zA1 [] ρ S=.ok [] S:=rfl
@[simp] theorem zLu (c:C) (cs:List C) (ρ:Env1) (S:zA0):zA1 (c::cs) ρ S=rbnd (c ρ S) (fun x S1=>rbnd (zA1 cs ρ S1) (fun xs S2=>.ok (x::xs) S2) .mk) .mk:=rfl
@[simp] theorem zRV (o:yM→M D) (a:CA) (ρ:Env1) (S:zA0):cApp o a ρ S=rbnd (a ρ S) o .mk:=rfl
@[simp] theorem zX7 (a:CA) (ρ:Env1) (S:zA0):cTup a ρ S=rbnd (a ρ S) (fun xs S1=>.ok (.tup xs) S1) .mk:=rfl
@[simp] theorem zRR (a:CA) (ρ:Env1) (S:zA0):cLst a ρ S=rbnd (a ρ S) (fun xs S1=>.ok (.lst S1.length) (S1++[.lst xs])) .mk:=rfl
@[simp] theorem zXu (t:CT) (a b:C) (ρ:Env1) (S:zA0):cIf t a b ρ S=rbnd (t ρ S) (fun k S1=>if k then a ρ S1 else b ρ S1) .mk:=by
 unfold cIf; rw [zBx]
 cases t ρ S with
 | ok k S1=>cases k <;> rfl
 | bad=>rfl
 | er _ _=>rfl
@[simp] theorem zVy (a:C) (ρ:Env1) (S:zA0):zAl a ρ S=rbnd (a ρ S) (fun x S1=>dB x S1) .mk:=rfl
@[simp] theorem zXE (b:Bool) (S:zA0):dB (.bl b) S=.ok b S:=rfl
@[simp] theorem zVz (a b:C) (ρ:Env1) (S:zA0):zJO a b ρ S=rbnd (zAl a ρ S) (fun k S1=>if k then b ρ S1 else .ok (.bl false) S1) .mk:=by
 unfold zJO; rw [zBx]
 cases zAl a ρ S with
 | ok k S1=>cases k <;> rfl
 | bad=>rfl
 | er _ _=>rfl
@[simp] theorem zX9 (a b:C) (ρ:Env1) (S:zA0):cOrV a b ρ S=rbnd (zAl a ρ S) (fun k S1=>if k then .ok (.bl true) S1 else b ρ S1) .mk:=by
 unfold cOrV; rw [zBx]
 cases zAl a ρ S with
 | ok k S1=>cases k <;> rfl
 | bad=>rfl
 | er _ _=>rfl
@[simp] theorem zVs (a:C) (ρ:Env1) (S:zA0):zLr a ρ S=rbnd (zAl a ρ S) (fun k S1=>.ok (.bl (!k)) S1) .mk:=rfl
@[simp] theorem zVA (a b:CT) (ρ:Env1) (S:zA0):zH2 a b ρ S=rbnd (a ρ S) (fun k S1=>if k then b ρ S1 else .ok false S1) .mk:=by
 unfold zH2; rw [zBx]
 cases a ρ S with
 | ok k S1=>cases k <;> rfl
 | bad=>rfl
 | er _ _=>rfl
@[simp] theorem zXa (a b:CT) (ρ:Env1) (S:zA0):cOrT a b ρ S=rbnd (a ρ S) (fun k S1=>if k then .ok true S1 else b ρ S1) .mk:=by
 unfold cOrT; rw [zBx]
 cases a ρ S with
 | ok k S1=>cases k <;> rfl
 | bad=>rfl
 | er _ _=>rfl
@[simp] theorem zVt (a:CT) (ρ:Env1) (S:zA0):zCI a ρ S=rbnd (a ρ S) (fun k S1=>.ok (!k) S1) .mk:=rfl
@[simp] theorem zUH (o o':D→D→M D) (a b c:C) (ρ:Env1) (S:zA0):zFq o o' a b c ρ S=rbnd (a ρ S) (fun x S1=>rbnd (b ρ S1) (fun y S2=>rbnd (o x y S2) (fun z S3=>rbnd (dB z S3) (fun k S4=>if k then rbnd (c ρ S4) (fun w S5=>o' y w S5) .mk else .ok (.bl false) S4) .mk) .mk) .mk) .mk:=by
 unfold zFq
 rw [zBx]
 cases a ρ S with
 | bad=>rfl
 | er _ _=>rfl
 | ok x S1 =>
  rw [zAA,zAA,zBx]
  cases b ρ S1 with
  | bad=>rfl
  | er _ _=>rfl
  | ok y S2 =>
   rw [zAA,zAA,zBx]
   cases o x y S2 with
   | bad=>rfl
   | er _ _=>rfl
   | ok z S3 =>
    rw [zAA,zAA,zBx]
    cases dB z S3 with
    | bad=>rfl
    | er _ _=>rfl
    | ok k S4=>cases k <;> rfl
@[simp] theorem zX8 (a:C) (ρ:Env1) (S:zA0):cTru a ρ S=rbnd (a ρ S) (fun x S1=>dTru x S1) .mk:=rfl
@[simp] theorem zX4 (b:Bool) (S:zA0):dTru (.bl b) S=.ok b S:=rfl
@[simp] theorem zVp (i:Int) (S:zA0):dTru (.int i) S=.ok (i != 0) S:=rfl
@[simp] theorem zVo (xs:yM) (S:zA0):dTru (.tup xs) S=.ok (!xs.isEmpty) S:=rfl
@[simp] theorem zSc (ρ:Env1) (S:zA0):zAM ρ S=.ok none S:=rfl
@[simp] theorem zVr (a:C) (ρ:Env1) (S:zA0):zCw a ρ S=rbnd (a ρ S) (fun x S1=>rbnd (dInt x S1) (fun i S2=>.ok (some i) S2) .mk) .mk:=rfl
@[simp] theorem zX5 (i:Int) (S:zA0):dInt (.int i) S=.ok i S:=rfl
@[simp] theorem zXt (o:D→yG→yG→M D) (a:C) (lo hi:CO) (ρ:Env1) (S:zA0):cSl o a lo hi ρ S=rbnd (a ρ S) (fun x S1=>rbnd (lo ρ S1) (fun l S2=>rbnd (hi ρ S2) (fun h S3=>o x l h S3) .mk) .mk) .mk:=rfl
@[simp] theorem zVu (T:String) (o:D→yM→M D) (a:C) (as:CA) (ρ:Env1) (S:zA0):zH1 T o a as ρ S=rbnd (a ρ S) (fun x S1=>if tyOk T x S1 then rbnd (as ρ S1) (fun xs S2=>o x xs S2) .mk else .bad) .mk:=rfl
@[simp] theorem zUG (T:String) (o:D→yM→M D) (a:C) (ρ:Env1) (S:zA0):zKD T o a ρ S=rbnd (a ρ S) (fun x S1=>if tyOk T x S1 then o x [] S1 else .bad) .mk:=rfl
@[simp] theorem zWR (c:C) (ρ:Env1) (S:zA0):iSeq c ρ S=rbnd (c ρ S) (fun x S1=>match x with
 | .tup xs=>.ok (xs,[]) S1
 | .lst n=>match zA4 S1 n with
  | some xs=>.ok (xs,[(n,xs)]) S1
  | none=>.bad
 | _=>.bad) .mk:=rfl
@[simp] theorem zS7 (a:CA) (ρ:Env1) (S:zA0):zB6 a ρ S=rbnd (a ρ S) (fun xs S1=>match xs with
 | [.int j]=>if -4611686018427387904≤j∧j<4611686018427387904 then .ok (upD 0 j.toNat,[]) S1 else .bad
 | _=>.bad) .mk:=rfl
@[simp] theorem zS6 (a:CA) (ρ:Env1) (S:zA0):zFb a ρ S=rbnd (a ρ S) (fun xs S1=>match xs with
 | [.int i,.int j]=>if -4611686018427387904≤i∧i<4611686018427387904∧-4611686018427387904≤j∧j<4611686018427387904 then .ok (upD i (j - i).toNat,[]) S1 else .bad
 | _=>.bad) .mk:=rfl
@[simp] theorem zVi (a:CA) (ρ:Env1) (S:zA0):zP5 a ρ S=rbnd (a ρ S) (fun xs S1=>match xs with
 | [x,y]=>match zsAt S1 x,zsAt S1 y with
  | some ys,some zs=>.ok (zipD ys zs,zCT x ys++zCT y zs) S1
  | _,_=>.bad
 | _=>.bad) .mk:=rfl
@[simp] theorem zQ9 (n:Nat) (xs:yM):zCT (.lst n) xs=[(n,xs)]:=rfl
@[simp] theorem zQ8 (ys:yM) (xs:yM):zCT (.tup ys) xs=[]:=rfl
@[simp] theorem zV2 (S:zA0) (n:Nat):zsAt S (.lst n)=zA4 S n:=rfl
@[simp] theorem zV1 (S:zA0) (xs:yM):zsAt S (.tup xs)=some xs:=rfl
@[simp] theorem zUm (a:CA) (ρ:Env1) (S:zA0):zEo a ρ S=rbnd (a ρ S) (fun xs S1=>match xs with
 | [.tup ys]=>.ok (zBw ys,[]) S1
 | [.lst n]=>match zA4 S1 n with
  | some ys=>.ok (zBw ys,[(n,ys)]) S1
  | none=>.bad
 | _=>.bad) .mk:=rfl
@[simp] theorem zVx (it:CI) (k:Nat) (js:List Nat) (t:Tgt) (tc:CT) (c:C) (ρ:Env1) (S:zA0):zBc it k js t tc c ρ S=rbnd (it ρ S) (fun p S1=>if p.1.length<lim then rbnd (zAh p.2 t tc c (stE k js ρ) p.1 S1) (fun ys S'=>.ok (.lst S'.length) (S'++[.lst ys])) .mk else .bad) .mk:=rfl
@[simp] theorem zVw (ρ:Env1) (S:zA0):zLt ρ S=.ok (.dct S.length) (S++[.dk []]):=rfl
@[simp] theorem zVv (a b:C) (ρ:Env1) (S:zA0):zND a b ρ S=rbnd (a ρ S) (fun x S1=>rbnd (b ρ S1) (fun y S2=>match zD7 x with
 | some k=>.ok (.dct S2.length) (S2++[.dk [(k,y)]])
 | none=>.bad) .mk) .mk:=rfl
@[simp] theorem zVg (i j:Int) (S:zA0):oAdd (.int i) (.int j) S=.ok (.int (i+j)) S:=rfl
@[simp] theorem zVf (xs ys:yM) (S:zA0):oAdd (.tup xs) (.tup ys) S=if xs.length+ys.length≤lim then .ok (.tup (xs++ys)) S else .bad:=rfl
@[simp] theorem zWA (g:Int→Int→Int) (i j:Int) (S:zA0):oInt g (.int i) (.int j) S=.ok (.int (g i j)) S:=rfl
@[simp] theorem zVb (i j:Int) (S:zA0):oMul (.int i) (.int j) S=if zEP i j then .ok (.int (i*j)) S else .bad:=rfl
@[simp] theorem zVc (i j:Int) (S:zA0):oMod (.int i) (.int j) S=if 0<j then .ok (.int (i % j)) S else .bad:=rfl
@[simp] theorem zVd (i j:Int) (S:zA0):oDiv (.int i) (.int j) S=if 0<j∧j<1073741824 then .ok (.int (i / j)) S else .bad:=rfl
@[simp] theorem zV9 (i j:Int) (S:zA0):oPow (.int i) (.int j) S=if 0≤j∧j≤1000000∧i.natAbs<18446744073709551616 then .ok (.int (i ^ j.toNat)) S else .bad:=rfl
@[simp] theorem zV8 (i j:Int) (S:zA0):oShl (.int i) (.int j) S=if 0≤j∧j≤1000000∧i.natAbs<18446744073709551616 then .ok (.int (i*2 ^ j.toNat)) S else .bad:=rfl
@[simp] theorem zV7 (i j:Int) (S:zA0):oShr (.int i) (.int j) S=if 0≤j then .ok (.int (i / 2 ^ j.toNat)) S else .bad:=rfl
@[simp] theorem zVa (i:Int) (S:zA0):oNeg (.int i) S=.ok (.int (-i)) S:=rfl
@[simp] theorem zVe (g:Int→Int→Bool) (i j:Int) (S:zA0):oCmp g (.int i) (.int j) S=.ok (.bl (g i j)) S:=rfl
@[simp] theorem zWx (i j:Int) (S:zA0):oLt (.int i) (.int j) S=.ok (.bl (decide (i<j))) S:=rfl
theorem zN8 (i j:Int):PyData.eqv (.int i) (.int j)=decide (i=j):=by
 show (i == j)=decide (i=j)
 rfl
@[simp] theorem zWB (i j:Int) (S:zA0):oEq (.int i) (.int j) S=.ok (.bl (decide (i=j))) S:=by
 show R.ok (D.bl (PyData.eqv (.int i) (.int j))) S=_
 rw [zN8]
@[simp] theorem zWw (i j:Int) (S:zA0):oNe (.int i) (.int j) S=.ok (.bl (!decide (i=j))) S:=by
 show R.ok (D.bl (!PyData.eqv (.int i) (.int j))) S=_
 rw [zN8]
@[simp] theorem zXr (i j:Bool) (S:zA0):oEq (.bl i) (.bl j) S=.ok (.bl (i == j)) S:=by
 show R.ok (D.bl (PyData.eqv (.bool i) (.bool j))) S=_
 cases i <;> cases j <;> rfl
@[simp] theorem zXp (i j:Bool) (S:zA0):oNe (.bl i) (.bl j) S=.ok (.bl (i != j)) S:=by
 show R.ok (D.bl (!PyData.eqv (.bool i) (.bool j))) S=_
 cases i <;> cases j <;> rfl
@[simp] theorem zWz (x:D) (S:zA0):oIs x .non S=.ok (.bl x.isNon) S:=by cases x <;> rfl
@[simp] theorem zS5 (x:D) (S:zA0):zHK x .non S=.ok (.bl (!x.isNon)) S:=by cases x <;> rfl
@[simp] theorem zXq (a b:Bool) (S:zA0):oIs (.bl a) (.bl b) S=.ok (.bl (a == b)) S:=rfl
@[simp] theorem zTE (a b:Bool) (S:zA0):zHK (.bl a) (.bl b) S=.ok (.bl (a != b)) S:=rfl
@[simp] theorem zWX (i j:Int) (S:zA0):fMin [.int i,.int j] S=.ok (.int (if j<i then j else i)) S:=rfl
@[simp] theorem zWY (i j:Int) (S:zA0):fMax [.int i,.int j] S=.ok (.int (if j>i then j else i)) S:=rfl
@[simp] theorem zVm (i:Int) (S:zA0):fInt [.int i] S=.ok (.int i) S:=rfl
@[simp] theorem zWZ (b:Bool) (S:zA0):fInt [.bl b] S=.ok (.int (if b then 1 else 0)) S:=rfl
@[simp] theorem zSa (xs:yM) (S:zA0):zAO [.tup xs] S=.ok (.tup xs) S:=rfl
theorem zCu {n:Nat}{xs:yM}{S:zA0} (h:zA4 S n=some xs):zAO [.lst n] S=.ok (.tup xs) S:=by
 show (match zA4 S n with | some ys=>R.ok (D.tup ys) S | none=>.bad)=_
 rw [h]
@[simp] theorem zVk (xs:yM) (S:zA0):fLen [.tup xs] S=.ok (.int xs.length) S:=rfl
@[simp] theorem zVl (xs:yM) (S:zA0):fLen [.rol xs] S=.ok (.int xs.length) S:=rfl
theorem zGP {n:Nat}{xs:yM}{S:zA0} (h:zA4 S n=some xs):fLen [.lst n] S=.ok (.int xs.length) S:=by
 show (match zHx S (.lst n) with | some ys=>R.ok (D.int ys.length) S | none=>.bad)=_
 show (match zA4 S n with | some ys=>R.ok (D.int ys.length) S | none=>.bad)=_
 rw [h]
@[simp] theorem zN7 (xs:yM) (S:zA0):zId [.tup xs] S=.ok (.lst S.length) (S++[.lst xs]):=rfl
@[simp] theorem zJd (xs:yM) (j:Int) (S:zA0):oIx (.tup xs) (.int j) S=match atI xs j with | some d=>.ok d S | none=>.bad:=rfl
@[simp] theorem zWy (xs:yM) (j:Int) (S:zA0):oIx (.rol xs) (.int j) S=match atI xs j with | some d=>.ok d S | none=>.bad:=rfl
theorem zD1 {n:Nat}{xs:yM}{S:zA0} (h:zA4 S n=some xs) (j:Int):oIx (.lst n) (.int j) S=match atI xs j with | some d=>.ok d S | none=>.bad:=by
 show (match zA4 S n,D.int j with | some xs,.int j=>(match atI xs j with | some d=>R.ok d S | none=>.bad) | _,_=>.bad)=_
 rw [h]
@[simp] theorem zGu (xs:yM) (lo hi:yG) (S:zA0):oSl (.tup xs) lo hi S=.ok (.tup (cutD xs lo hi)) S:=rfl
theorem zMt {n:Nat}{xs:yM}{S:zA0} (h:zA4 S n=some xs) (lo hi:yG):oSl (.lst n) lo hi S=.ok (.lst S.length) (S++[.lst (cutD xs lo hi)]):=by
 show (match zA4 S n with | some xs=>R.ok (D.lst S.length) (S++[O.lst (cutD xs lo hi)]) | none=>.bad)=_
 rw [h]
@[simp] theorem zXI {α:Type} (x:α) (xs:List α):atI (x::xs) 0=some x:=zC1 (j:=0) rfl
@[simp] theorem zXH {α:Type} (x y:α) (xs:List α):atI (x::y::xs) 1=some y:=zC1 (j:=1) rfl
@[simp] theorem zXG {α:Type} (x y z:α) (xs:List α):atI (x::y::z::xs) 2=some z:=zC1 (j:=2) rfl
@[simp] theorem zXF {α:Type} (x y z w:α) (xs:List α):atI (x::y::z::w::xs) 3=some w:=zC1 (j:=3) rfl
structure Kp (P:Nat→Prop) (S S':zA0):Prop where
 le:S.length≤S'.length
 eq:∀ j,j<S.length→¬ P j→S'[j]?=S[j]?
noncomputable abbrev Ex:zA0→zA0→Prop:=Kp fun _=>False
inductive Spc {α:Type} (m:R α) (r:α) (S:zA0):Prop
 | mk (S1:zA0) (e:m=.ok r S1) (x:Ex S S1)
theorem Kp.refl (P:Nat→Prop) (S:zA0):Kp P S S:=⟨qA9 _,fun _ _ _=>rfl⟩
theorem Kp.trans {P:Nat→Prop}{S S1 S2:zA0} (a:Kp P S S1) (b:Kp P S1 S2):Kp P S S2:=⟨qC5 a.le b.le,fun j h n=>(b.eq j (qC1 h a.le) n).trans (a.eq j h n)⟩
theorem Ex.kp {P:Nat→Prop}{S S':zA0} (h:Ex S S'):Kp P S S':=⟨h.le,fun j hj _=>h.eq j hj (fun z=>z)⟩
theorem Kp.kp {P:Nat→Prop}{S S':zA0} (h:Kp (fun _=>False) S S'):Kp P S S':=⟨h.le,fun j hj _=>h.eq j hj (fun z=>z)⟩
theorem Kp.mono {P Q:Nat→Prop}{S S':zA0} (h:Kp P S S') (m:∀ j,j<S.length→P j→Q j):Kp Q S S':=⟨h.le,fun j hj n=>h.eq j hj fun z=>n (m j hj z)⟩
theorem zA5 (S T:zA0):Ex S (S++T):=⟨by simp,fun j h _=>qA7 h⟩
theorem zCP {i:Nat} (S:zA0) (o:O):Kp (·=i) S (S.set i o):=⟨by simp,fun j h n=>qE1 fun z=>n z.symm⟩
theorem Kp.at {P:Nat→Prop}{S S':zA0} (h:Kp P S S') {j:Nat}{o:O} (e:S[j]?=some o) (n:¬ P j):S'[j]?=some o:=by
 rw [h.eq j (qA4.mp e).1 n]; exact e
theorem zAG {S:zA0}{n:Nat}{xs:yM} (h:zA4 S n=some xs):S[n]?=some (.lst xs):=by
 unfold zA4 at h
 split at h
 ·rename_i ys e; cases h; exact e
 ·cases h
theorem zDL {S:zA0}{n:Nat}{xs:yM} (h:S[n]?=some (.lst xs)):zA4 S n=some xs:=by unfold zA4; rw [h]
theorem Kp.lst {P:Nat→Prop}{S S':zA0} (h:Kp P S S') {j:Nat}{xs:yM} (e:zA4 S j=some xs) (n:¬ P j):zA4 S' j=some xs:=zDL (h.at (zAG e) n)
theorem zDm {S:zA0}{n:Nat}{xs:yM} (h:zA4 S n=some xs):n<S.length:=(qA4.mp (zAG h)).1
@[simp] theorem zA2 (S:zA0) (xs:yM):zA4 (S++[.lst xs]) S.length=some xs:=zDL (by rw [qA0 (qA9 _),qI7]; rfl)
theorem zAg {S T:zA0}{n:Nat}{xs:yM} (h:zA4 S n=some xs):zA4 (S++T) n=some xs:=(zA5 S T).lst h fun z=>z
theorem zAN {S:zA0}{n:Nat}{xs ys:yM} (h:zA4 S n=some xs):zA4 (S.set n (.lst ys)) n=some ys:=zDL (qD9 (zDm h))
theorem zCB {S:zA0}{n:Nat}{xs:yM} (h:zA4 S n=some xs):tyOk "list" (.lst n) S=true:=by
 show (decide ("list" = "list")&&(zA4 S n).isSome)=true
 rw [h]; rfl
theorem zDK {S:zA0}{n:Nat}{ys:yM} (h:zA4 S n=some ys) (g:yM→yM→Option (yM × D)) (xs:yM):zC4 g (.lst n) xs S=match g ys xs with | some p=>.ok p.2 (S.set n (.lst p.1)) | none=>.bad:=by
 unfold zC4
 dsimp only
 rw [zAG h]
 dsimp only
 cases g ys xs with
 | none=>rfl
 | some p=>rfl
@[simp] theorem zS9 (ys:yM) (x:D):zB7 ys [x]=if ys.length<lim then some (ys++[x],.non) else none:=rfl
@[simp] theorem zS8 (ys:yM) (i:Int) (x:D):zEe ys [.int i,x]=if ys.length<1000∧0≤i∧i.toNat≤ys.length then some (ys.take i.toNat++x::ys.drop i.toNat,.non) else none:=rfl
theorem zEw {S:zA0}{n:Nat}{ys:yM} (h:zA4 S n=some ys) (k:Int) (v:D):oSet (.lst n) (.int k) v S=match ixN ys.length k with | some j=>some (S.set n (.lst (ys.set j v))) | none=>none:=by
 unfold oSet
 dsimp only
 rw [zAG h]
 all_goals (dsimp only; cases ixN ys.length k <;> rfl)
theorem zAf (S:zA0):okW [] S:=fun p h=>by cases h
theorem zD0 {S:zA0}{n:Nat}{xs:yM} (h:zA4 S n=some xs):okW [(n,xs)] S:=fun p hp=>by
 simp at hp; subst hp; exact h
theorem zR4 {S:zA0}{n m:Nat}{xs ys:yM} (h:zA4 S n=some xs) (h2:zA4 S m=some ys):okW [(n,xs),(m,ys)] S:=fun p hp=>by
 simp at hp
 rcases hp with rfl | rfl
 ·exact h
 ·exact h2
theorem zME {w:zDe}{g:G}{b:CS}:∀ (items:yM) (P:Nat→Env1→zA0→Prop) {ρ:Env1}{S:zA0} (k:Nat),(∀ i ρ S,P i ρ S→okW w S)→P k ρ S →
  (∀ i d ρ S,items[i]?=some d→P (k+i) ρ S→∃ ρ1 S1,g d ρ S=.ok ρ1 S1∧∃ ρ2 S2,(b ρ1 S1=.nx ρ2 S2∨b ρ1 S1=.ct ρ2 S2)∧P (k+i+1) ρ2 S2)→∃ ρ' S',zBg w g b items ρ S=.nx ρ' S'∧P (k+items.length) ρ' S'
 | [],P,ρ,S,k,hw,h0,hs=>⟨ρ,S,by unfold zBg; rw [if_pos (hw k ρ S h0)],by simpa using h0⟩
 | d::ds,P,ρ,S,k,hw,h0,hs=>by
  obtain ⟨ρ1,S1,e1,ρ2,S2,e2,p2⟩:=hs 0 d ρ S rfl (by simpa using h0)
  obtain ⟨ρ',S',e3,p3⟩:=zME ds P (k+1) hw (by simpa using p2) (fun i d' ρ S hi hp=>by
   obtain ⟨ρ1,S1,q1,ρ2,S2,q2,q3⟩:=hs (i+1) d' ρ S (by rw [qD6]; exact hi) (by rw [show k+(i+1)=k+1+i by omega]; exact hp)
   exact ⟨ρ1,S1,q1,ρ2,S2,q2,by rw [show k+1+i+1=k+(i+1)+1 by omega]; exact q3⟩)
  refine ⟨ρ',S',?_,by rw [qC3,show k+(ds.length+1)=k+1+ds.length by omega]; exact p3⟩
  unfold zBg
  rw [if_pos (hw k ρ S h0),e1]
  dsimp only
  rcases e2 with e2 | e2
  ·rw [e2]; exact e3
  ·rw [e2]; exact e3
inductive zXc (r:RS) (P:Env1→zA0→Prop):Prop
 | mk (ρ2:Env1) (S2:zA0) (h:r=.nx ρ2 S2∨r=.ct ρ2 S2) (p:P ρ2 S2)
inductive zXb (g:G) (b:CS) (d:D) (ρ:Env1) (S:zA0) (P:Env1→zA0→Prop):Prop
 | mk (ρ1:Env1) (S1:zA0) (e:g d ρ S=.ok ρ1 S1) (t:zXc (b ρ1 S1) P)
inductive zXh (r:RS) (P:Env1→zA0→Prop):Prop
 | mk (ρ':Env1) (S':zA0) (e:r=.nx ρ' S') (p:P ρ' S')
theorem zB2 {w:zDe}{g:G}{b:CS}{items:yM} (P:Nat→Env1→zA0→Prop) {ρ:Env1}{S:zA0} (hw:∀ i ρ S,P i ρ S→okW w S) (h0:P 0 ρ S)
  (hs:∀ i d ρ S,items[i]?=some d→P i ρ S→zXb g b d ρ S (P (i+1))):zXh (zBg w g b items ρ S) (P items.length):=by
 obtain ⟨ρ',S',e,p⟩:=zME items P 0 hw h0 (fun i d ρ S hi hp=>by
  obtain ⟨ρ1,S1,q1,ρ2,S2,q2,q3⟩:=hs i d ρ S hi (by simpa using hp)
  exact ⟨ρ1,S1,q1,ρ2,S2,q2,by simpa using q3⟩)
 exact ⟨ρ',S',e,by simpa using p⟩
inductive zV0 (m:R (yM)) (r:yM) (P:zA0→Prop):Prop
 | mk (S':zA0) (e:m=.ok r S') (p:P S')
theorem zCg {α:Type} (e:α→D) {w:zDe}{t:Tgt}{tc:CT}{c:C}{ρ0:Env1} (P:zA0→Prop) (hw:∀ S,P S→okW w S) (p:α→Bool) (f:α→D):∀ (l:List α) {S:zA0},P S →
  (∀ a∈l,∀ S,P S→∃ ρ1,zFt t (e a) ρ0=some ρ1∧∃ S1,tc ρ1 S=.ok (p a) S1∧(p a=false→P S1)∧(p a=true→∃ S2,c ρ1 S1=.ok (f a) S2∧P S2))→zV0 (zAh w t tc c ρ0 (l.map e) S) ((l.filter p).map f) P
 | [],S,h0,hs=>⟨S,by rw [qJ5]; unfold zAh; rw [if_pos (hw S h0)]; rfl,h0⟩
 | d::ds,S,h0,hs=>by
  obtain ⟨ρ1,e1,S1,e2,hf,ht⟩:=hs d (by simp) S h0
  rw [qB9]
  unfold zAh
  rw [if_pos (hw S h0),e1]
  dsimp only
  rw [zBx,e2,zAA]
  cases hp:p d with
  | false =>
   obtain ⟨S',e3,h3⟩:=zCg e P hw p f ds (hf hp) fun d' hd=>hs d' (by simp [hd])
   exact ⟨S',by rw [if_neg qB2,e3,qF5,hp]; rfl,h3⟩
  | true =>
   obtain ⟨S2,e4,h4⟩:=ht hp
   obtain ⟨S',e3,h3⟩:=zCg e P hw p f ds h4 fun d' hd=>hs d' (by simp [hd])
   exact ⟨S',by rw [if_pos rfl,zBx,e4,zAA,zBx,e3,zAA,qF5,hp]; rfl,h3⟩
theorem zFk {α:Type} (e:α→D) {w:zDe}{t:Tgt}{c:C}{ρ0:Env1} (P:zA0→Prop) (hw:∀ S,P S→okW w S) (f:α→D) (l:List α) {S:zA0} (h0:P S)
  (hs:∀ a∈l,∀ S,P S→∃ ρ1,zFt t (e a) ρ0=some ρ1∧∃ S2,c ρ1 S=.ok (f a) S2∧P S2):zV0 (zAh w t (fun _=>ret true) c ρ0 (l.map e) S) (l.map f) P:=by
 obtain ⟨S',e,h⟩:=zCg e (w:=w) (t:=t) (tc:=fun _=>ret true) (c:=c) (ρ0:=ρ0) P hw (fun _=>true) f l h0 (fun d hd S h=>by
  obtain ⟨ρ1,e1,S2,e2,h2⟩:=hs d hd S h
  exact ⟨ρ1,e1,S,rfl,(fun z=>by cases z),fun _=>⟨S2,e2,h2⟩⟩)
 exact ⟨S',by rw [e,qR1.mpr (by simp)],h⟩
theorem zB8 {α:Type} (e:α→D) {w:zDe}{t:Tgt}{tc:CT}{c:C}{ρ0:Env1}{S:zA0} (hw:okW w S) (p:α→Bool) (f:α→D) (l:List α)
  (hs:∀ a∈l,∃ ρ1,zFt t (e a) ρ0=some ρ1∧tc ρ1 S=.ok (p a) S∧(p a=true→c ρ1 S=.ok (f a) S)):zAh w t tc c ρ0 (l.map e) S=.ok ((l.filter p).map f) S:=by
 obtain ⟨S',e1,h⟩:=zCg e (w:=w) (t:=t) (tc:=tc) (c:=c) (ρ0:=ρ0) (fun S'=>S'=S) (fun S' z=>z▸hw) p f l rfl (fun a ha S' z=>by
  subst z
  obtain ⟨ρ1,q1,q2,q3⟩:=hs a ha
  exact ⟨ρ1,q1,S',q2,fun _=>rfl,fun z=>⟨S',q3 z,rfl⟩⟩)
 rw [e1,h]
theorem zGd {α:Type} (e:α→D) {w:zDe}{t:Tgt}{c:C}{ρ0:Env1}{S:zA0} (hw:okW w S) (f:α→D) (l:List α)
  (hs:∀ a∈l,∃ ρ1,zFt t (e a) ρ0=some ρ1∧c ρ1 S=.ok (f a) S):zAh w t (fun _=>ret true) c ρ0 (l.map e) S=.ok (l.map f) S:=by
 have:=zB8 e (tc:=fun _=>ret true) (c:=c) hw (fun _=>true) f l (fun a ha=>by
  obtain ⟨ρ1,q1,q2⟩:=hs a ha
  exact ⟨ρ1,q1,rfl,fun _=>q2⟩)
 rw [this,qR1.mpr (by simp)]
theorem zGj {t:CT}{b:CS} (P:Nat→Env1→zA0→Prop) (Q:Env1→zA0→Prop) (hs:∀ m ρ S,P m ρ S→(∃ S1,t ρ S=.ok false S1∧Q ρ S1)∨∃ S1,t ρ S=.ok true S1∧∃ ρ2 S2,(b ρ S1=.nx ρ2 S2∨b ρ S1=.ct ρ2 S2)∧∃ m',m'<m∧P m' ρ2 S2) :
  ∀ (k m:Nat) (ρ:Env1) (S:zA0),m<k→P m ρ S→∃ ρ' S',zCN k t b ρ S=.nx ρ' S'∧Q ρ' S'
 | 0,m,ρ,S,hk,h=>absurd hk (qT6 _)
 | k+1,m,ρ,S,hk,h=>by
  unfold zCN
  rcases hs m ρ S h with ⟨S1,e,q⟩ | ⟨S1,e,ρ2,S2,e2,m',hm,p2⟩
  ·rw [e]; exact ⟨ρ,S1,rfl,q⟩
  ·obtain ⟨ρ',S',e3,q⟩:=zGj P Q hs k m' ρ2 S2 (by omega) p2
   rw [e]
   dsimp only
   rcases e2 with e2 | e2
   ·rw [e2]; exact ⟨ρ',S',e3,q⟩
   ·rw [e2]; exact ⟨ρ',S',e3,q⟩
noncomputable def dkOf (fs:yA):List (Key × D):=fs.map fun x=>((Sum.inl x:Key),D.bl true)
noncomputable def addK (fs:yA) (a:Int):yA:=if a∈fs then fs else fs++[a]
theorem zUy (fs:yA) (a:Int):((dkOf fs).any fun kv=>decide (kv.1=(Sum.inl a:Key)))=decide (a∈fs):=by
 induction fs with
 | nil=>rfl
 | cons x r ih =>
  show (decide ((Sum.inl x:Key)=Sum.inl a)||(dkOf r).any _)=_
  rw [ih]
  by_cases h:x=a
  ·subst h; simp
  ·have:(Sum.inl x:Key)≠Sum.inl a:=fun z=>h (Sum.inl.inj z)
   simp [this,Ne.symm h]
theorem zUx (fs:yA) (a:Int):putD (dkOf fs) (.inl a) (.bl true)=dkOf (addK fs a):=by
 unfold putD addK
 rw [zUy]
 by_cases h:a∈fs
 ·rw [if_pos (by simpa using h),if_pos h]
  unfold dkOf
  rw [qE2]
  refine qI0 fun x _=>?_
  show (if (Sum.inl x:Key)=Sum.inl a then ((Sum.inl x:Key),D.bl true) else (Sum.inl x,D.bl true))=_
  split <;> rfl
 ·rw [if_neg (by simpa using h),if_neg h]
  unfold dkOf
  simp
theorem zUw (fs:yA) (a:Int):valD (dkOf fs) (.inl a)=if a∈fs then some (.bl true) else none:=by
 unfold valD
 induction fs with
 | nil=>rfl
 | cons x r ih =>
  show Option.map _ (List.find? _ (((Sum.inl x:Key),D.bl true)::dkOf r))=_
  rw [qG9]
  by_cases h:x=a
  ·subst h; simp
  ·have:(Sum.inl x:Key)≠Sum.inl a:=fun z=>h (Sum.inl.inj z)
   simp only [this,decide_false]
   rw [ih]
   simp [Ne.symm h]
theorem zMx {S:zA0}{m:Nat}{fs:yA} (h:S[m]?=some (.dk (dkOf fs))) (neg:Bool) (a:Int):oIn neg (.int a) (.dct m) S=.ok (.bl (if neg then !decide (a∈fs) else decide (a∈fs))) S:=by
 have e:dictAt S m (.int a)=some (if a∈fs then some (.bl true) else none):=by
  unfold dictAt
  rw [h]
  show some (valD (dkOf fs) (.inl a))=_
  rw [zUw]
 show (match dictAt S m (.int a) with | some o=>R.ok (D.bl (if neg then !o.isSome else o.isSome)) S | none=>.bad)=_
 rw [e]
 by_cases hm:a∈fs
 ·simp [hm]
 ·simp [hm]
theorem zMu {S:zA0}{m:Nat}{fs:yA} (h:S[m]?=some (.dk (dkOf fs))) (hl:fs.length<lim) (a:Int):oSet (.dct m) (.int a) (.bl true) S=some (S.set m (.dk (dkOf (addK fs a)))):=by
 unfold oSet
 dsimp only
 rw [h]
 show (if (dkOf fs).length<lim then some (S.set m (.dk (putD (dkOf fs) (.inl a) (.bl true)))) else none)=_
 rw [if_pos (by unfold dkOf; rw [qA6]; exact hl),zUx]
theorem zKk {fs:yA}{a x:Int}:x∈addK fs a↔x∈fs∨x=a:=by
 unfold addK
 split
 ·rename_i h
  exact ⟨.inl,fun z=>z.elim id fun e=>e▸h⟩
 ·simp
@[simp] theorem zUQ (d:D) (ρ:Env1):zFt .one d ρ=some (ρ.set 0 (some d)):=rfl
@[simp] theorem zUP (x y:D) (ρ:Env1):zFt (.many 2) (.tup [x,y]) ρ=some ((ρ.set 0 (some x)).set 1 (some y)):=rfl
@[simp] theorem zXl (k:Nat) (js:List Nat) (ρ:Env1):stE k js ρ=qL2 k none++js.map fun j=>(ρ[j]?).getD none:=rfl
theorem zQE {np nN:Nat}{b:CS}{ds:yM}{S:zA0} (h:ds.length=np):runF np nN b ds S=match b (zAz nN ds) S with
 | .nx _ S'=>.ok .non S'
 | .rt d S'=>.ok d S'
 | .er c S'=>.er c S'
 | _=>.bad:=by
 unfold runF
 rw [if_pos h]
 all_goals (cases b (zAz nN ds) S <;> rfl)
theorem zA9 {np nN:Nat}{b:CS}{ds:yM}{S S':zA0}{d:D} (h:ds.length=np) (e:b (zAz nN ds) S=.rt d S'):runF np nN b ds S=.ok d S':=by rw [zQE h,e]
open PySem
noncomputable def plain:Nat→D→Bool
 | 0,_=>false
 | n+1,d=>match d with
  | .int _=>true
  | .non=>true
  | .str x=>PyData.strOk x
  | .tup xs=>xs.all (plain n)
  | _=>false
noncomputable def pdat:Nat→D→PyData
 | 0,_=>.none
 | n+1,d=>match d with
  | .int i=>.int i
  | .str x=>.str x
  | .tup xs=>.tuple (xs.map (pdat n))
  | _=>.none
theorem zHM {α β:Type}{f:α→Option β}{g:α→β}{l:List α} (h:∀ x∈l,f x=some (g x)):l.mapM f=some (l.map g):=by
 induction l with
 | nil=>rfl
 | cons a r ih =>
  rw [qF8,h a (by simp),ih fun x hx=>h x (by simp [hx])]
  rfl
theorem zDj:∀ {n:Nat}{d:D} (S:zA0),plain n d=true→snap n S d=some (pdat n d)
 | 0,d,S,h=>by cases h
 | n+1,d,S,h=>by
  unfold plain at h
  unfold snap pdat
  cases d with
  | int i=>rfl
  | non=>rfl
  | str x=>dsimp only at h ⊢; rw [if_pos h]
  | tup xs =>
   dsimp only at h ⊢
   rw [zHM (g:=pdat n) fun x hx=>zDj S (qC8.mp h x hx)]
   rfl
  | _=>cases h
theorem zDp {n:Nat} (ih:∀ d e,plain n d=true→plain n e=true→(PyData.eqv (pdat n d) (pdat n e)=true↔d=e)):∀ (xs ys:yM),xs.all (plain n)=true→ys.all (plain n)=true→(PyData.eqvAll (xs.map (pdat n)) (ys.map (pdat n))=true↔xs=ys)
 | [],[],_,_=>by simp [PyData.eqvAll]
 | [],y::ys,_,_=>by simp [PyData.eqvAll]
 | x::xs,[],_,_=>by simp [PyData.eqvAll]
 | x::xs,y::ys,h1,h2=>by
  rw [qJ8,qC6] at h1 h2
  rw [qB9,qB9]
  show (PyData.eqv (pdat n x) (pdat n y)&&PyData.eqvAll (xs.map (pdat n)) (ys.map (pdat n)))=true↔_
  rw [qC6,ih x y h1.1 h2.1,zDp ih xs ys h1.2 h2.2,List.cons.injEq]
theorem zDO:∀ (n:Nat) (d e:D),plain n d=true→plain n e=true→(PyData.eqv (pdat n d) (pdat n e)=true↔d=e)
 | 0,d,e,h,_=>by cases h
 | n+1,d,e,h1,h2=>by
  unfold plain at h1 h2
  unfold pdat
  cases d with
  | int i =>
   cases e with
   | int j=>simp [PyData.eqv]
   | non=>simp [PyData.eqv]
   | str y=>simp [PyData.eqv]
   | tup ys=>simp [PyData.eqv]
   | _=>cases h2
  | non =>
   cases e with
   | int j=>simp [PyData.eqv]
   | non=>simp [PyData.eqv]
   | str y=>simp [PyData.eqv]
   | tup ys=>simp [PyData.eqv]
   | _=>cases h2
  | str x =>
   cases e with
   | int j=>simp [PyData.eqv]
   | non=>simp [PyData.eqv]
   | str y=>simp [PyData.eqv]
   | tup ys=>simp [PyData.eqv]
   | _=>cases h2
  | tup xs =>
   cases e with
   | int j=>simp [PyData.eqv]
   | non=>simp [PyData.eqv]
   | str y=>simp [PyData.eqv]
   | tup ys =>
    show PyData.eqvAll (xs.map (pdat n)) (ys.map (pdat n))=true↔_
    rw [zDp (zDO n) xs ys h1 h2]
    simp
   | _=>cases h2
  | _=>cases h1
noncomputable def eqB {α:Type} (x y:α):Bool:=@decide (x=y) (Classical.propDecidable _)
theorem zBh {α:Type}{x y:α}:eqB x y=true↔x=y:=@decide_eq_true_iff _ (Classical.propDecidable _)
@[simp] theorem zVn {α:Type} (x:α):eqB x x=true:=zBh.mpr rfl
theorem zIe {α:Type}{x y:α} (h:x≠y):eqB x y=false:=by
 cases q:eqB x y with
 | false=>rfl
 | true=>exact absurd (zBh.mp q) h
theorem zAR {a b:Bool} (h:a=true↔b=true):a=b:=by cases a <;> cases b <;> simp at h ⊢
theorem zMv {x y:D} (S:zA0) (h1:plain 40 x=true) (h2:plain 40 y=true):oNe x y S=.ok (.bl (!eqB x y)) S:=by
 unfold oNe
 split
 ·rename_i a b
  rw [zAR (a:=decide (a=b)) (b:=eqB (D.str a) (D.str b)) (by rw [zBh,decide_eq_true_iff]; exact ⟨fun q=>by rw [q],fun q=>by injection q⟩)]
 ·rw [zDj S h1,zDj S h2]
  dsimp only
  rw [zAR ((zDO 40 x y h1 h2).trans zBh.symm)]
theorem zEv {S:zA0}{k:Nat}{xs:yM} (h:zA4 S k=some xs) (hp:xs.all (plain 39)=true):snap 40 S (.lst k)=some (.list (xs.map (pdat 39))):=by
 show (match zA4 S k with | some xs=>(xs.mapM (snap 39 S)).map PyData.list | none=>none)=_
 rw [h]
 dsimp only
 rw [zHM (g:=pdat 39) fun x hx=>zDj S (qC8.mp hp x hx)]
 rfl
theorem zGw {S:zA0}{a b:Nat}{xs ys:yM} (h1:zA4 S a=some xs) (h2:zA4 S b=some ys) (p1:xs.all (plain 39)=true) (p2:ys.all (plain 39)=true):oEq (.lst a) (.lst b) S=.ok (.bl (eqB xs ys)) S:=by
 unfold oEq
 dsimp only
 rw [zEv h1 p1,zEv h2 p2]
 dsimp only
 rw [zAR ((show PyData.eqv (.list (xs.map (pdat 39))) (.list (ys.map (pdat 39)))=true↔xs=ys from zDp (zDO 39) xs ys p1 p2).trans zBh.symm)]
theorem zR8 {S:zA0}{a b:Nat}{xs ys:yM} (h1:zA4 S a=some xs) (h2:zA4 S b=some ys) (p1:xs.all (plain 39)=true) (p2:ys.all (plain 39)=true):oNe (.lst a) (.lst b) S=.ok (.bl (!eqB xs ys)) S:=by
 unfold oNe
 dsimp only
 rw [zEv h1 p1,zEv h2 p2]
 dsimp only
 rw [zAR ((show PyData.eqv (.list (xs.map (pdat 39))) (.list (ys.map (pdat 39)))=true↔xs=ys from zDp (zDO 39) xs ys p1 p2).trans zBh.symm)]
theorem zMf {n:Nat} (h:0<n) (i:Int):plain n (.int i)=true:=by
 cases n with
 | zero=>cases h
 | succ n=>rfl
theorem zDI {n:Nat}{xs:yM} (h:∀ x∈xs,plain n x=true):plain (n+1) (.tup xs)=true:=qC8.mpr h
theorem zBf {n:Nat} (h:0<n) (l:yA):∀ x∈l.map D.int,plain n x=true:=fun x hx=>by
 obtain ⟨i,_,rfl⟩:=qC9.mp hx
 exact zMf h i
@[simp] theorem zP2 (i:Int) (S:zA0):zAw [.int i,.ty "bool"] S=.ok (.bl false) S:=rfl
@[simp] theorem zPN (i:Int) (S:zA0):zAw [.int i,.ty "int"] S=.ok (.bl true) S:=rfl
@[simp] theorem zNP (i:Int) (S:zA0):zAw [.int i,.ty "tuple"] S=.ok (.bl false) S:=rfl
@[simp] theorem zP1 (i:Int) (S:zA0):zAw [.int i,.ty "list"] S=.ok (.bl false) S:=rfl
@[simp] theorem zNR (b:Bool) (S:zA0):zAw [.bl b,.ty "bool"] S=.ok (.bl true) S:=rfl
@[simp] theorem zP3 (b:Bool) (S:zA0):zAw [.bl b,.ty "int"] S=.ok (.bl true) S:=rfl
@[simp] theorem zMW (b:Bool) (S:zA0):zAw [.bl b,.ty "tuple"] S=.ok (.bl false) S:=rfl
@[simp] theorem zNQ (b:Bool) (S:zA0):zAw [.bl b,.ty "list"] S=.ok (.bl false) S:=rfl
@[simp] theorem zKt  (S:zA0):zAw [.non,.ty "bool"] S=.ok (.bl false) S:=rfl
@[simp] theorem zL7  (S:zA0):zAw [.non,.ty "int"] S=.ok (.bl false) S:=rfl
@[simp] theorem zJo  (S:zA0):zAw [.non,.ty "tuple"] S=.ok (.bl false) S:=rfl
@[simp] theorem zKs  (S:zA0):zAw [.non,.ty "list"] S=.ok (.bl false) S:=rfl
@[simp] theorem zP0 (x:Str) (S:zA0):zAw [.str x,.ty "bool"] S=.ok (.bl false) S:=rfl
@[simp] theorem zPM (x:Str) (S:zA0):zAw [.str x,.ty "int"] S=.ok (.bl false) S:=rfl
@[simp] theorem zNO (x:Str) (S:zA0):zAw [.str x,.ty "tuple"] S=.ok (.bl false) S:=rfl
@[simp] theorem zOZ (x:Str) (S:zA0):zAw [.str x,.ty "list"] S=.ok (.bl false) S:=rfl
@[simp] theorem zMV (xs:yM) (S:zA0):zAw [.tup xs,.ty "bool"] S=.ok (.bl false) S:=rfl
@[simp] theorem zNN (xs:yM) (S:zA0):zAw [.tup xs,.ty "int"] S=.ok (.bl false) S:=rfl
@[simp] theorem zLD (xs:yM) (S:zA0):zAw [.tup xs,.ty "tuple"] S=.ok (.bl true) S:=rfl
@[simp] theorem zMU (xs:yM) (S:zA0):zAw [.tup xs,.ty "list"] S=.ok (.bl false) S:=rfl
open PySem
@[simp] theorem zWv (xs:yM) (S:zA0):oRev (.tup xs) (.int (-1)) S=.ok (.tup xs.reverse) S:=rfl
theorem zBM (ns:yA):zBW (ns.map D.int)=some ns:=by
 induction ns with
 | nil=>rfl
 | cons a r ih=>show (zBW (r.map D.int)).map (a::·)=_; rw [ih]; rfl
theorem zFj (xs:yM) {k:Int} (h0:0≤k):cutD xs none (some k)=xs.take k.toNat:=by
 unfold cutD
 rw [show k=((k.toNat:Nat):Int) by omega,HT.sIx_nat,HT.sIx_none,Nat.sub_zero,qN7,qH6]
 by_cases h:k.toNat≤xs.length
 ·rw [qN1 h]
 ·rw [qP0 (by omega),qK3,qE3 (by omega)]
theorem zIh (xs:yM) {k:Int} (h0:0≤k):cutD xs (some k) none=xs.drop k.toNat:=by
 unfold cutD
 rw [show k=((k.toNat:Nat):Int) by omega,HT.sIx_nat,HT.sIx_none,qH6]
 by_cases h:k.toNat≤xs.length
 ·rw [qN1 h,qE3 (by simp)]
 ·rw [qP0 (by omega),qI7,List.take_zero,qP4 (by omega)]
end L2
namespace My
open PySem L2
noncomputable def zDs (cl:CLL):CS :=
 (sSeq (sRet (zJO (cApp zAw (zA1 [(cVar 0),(cCon (.ty "int"))])) (zLr (cApp zAw (zA1 [(cVar 0),(cCon (.ty "bool"))])))))
  zA6)
def zDE (cl:Nat→CLL):Prop:=∀ n,cl (n+1) "is_whole"=runF 1 1 (zDs (cl n))
noncomputable def zBk (cl:CLL):CS :=
 (sSeq (sIf (zAl (cBin oNe (cBin (oIn false) (cBin oIx (cVar 4) (cCon (.int 0))) (cVar 2)) (cBin (oIn false) (cBin oIx (cVar 4) (cCon (.int 1))) (cVar 2)))) (sSeq (sAsg (cCon (.bl true)) (gS (cVar 2) (cBin oIx (cVar 4) (cCon (.int 0)))))
  (sSeq (sAsg (cCon (.bl true)) (gS (cVar 2) (cBin oIx (cVar 4) (cCon (.int 1)))))
  (sSeq (sAsg (cCon (.bl true)) (gN 3))
  zA6))) zA6)
  zA6)
noncomputable def zBl (cl:CLL):CS :=
 (sSeq (sAsg (cCon (.bl false)) (gN 3))
  (sSeq (sFor (iSeq (cVar 1)) (gN 4) (zBk cl))
  zA6))
noncomputable def zBI (cl:CLL):CS :=
 (sSeq (sAsg (zND (cVar 0) (cCon (.bl true))) (gN 2))
  (sSeq (sAsg (cCon (.bl true)) (gN 3))
  (sSeq (zCN zIX (cTru (cVar 3)) (zBl cl))
  (sSeq (sRet (cVar 2))
  zA6))))
def zAQ (cl:Nat→CLL):Prop:=∀ n,cl (n+1) "places_from"=runF 2 5 (zBI (cl n))
noncomputable def zHa (cl:CLL):CS :=
 (sSeq (sRet (cBin (oIn false) (cCon (.int 1)) (cApp (cl "places_from") (zA1 [(cCon (.int 0)),(cVar 0)]))))
  zA6)
def zHd (cl:Nat→CLL):Prop:=∀ n,cl (n+1) "joins"=runF 1 1 (zHa (cl n))
noncomputable def zCe (cl:CLL):CT :=
 (zAl (cBin (oIn false) (cVar 0) (cVar 1)))
noncomputable def zCf (cl:CLL):C :=
 (cVar 0)
noncomputable def zAV (cl:CLL):C :=
 (cApp (cl "is_whole") (zA1 [(cVar 0)]))
noncomputable def zAv (cl:CLL):CS :=
 (sSeq (sIf (cOrT (zCI (cTru (cApp zAw (zA1 [(cVar 1),(cCon (.ty "tuple"))])))) (zCI (cTru (cApp (zBv fun bs=>bs.all id) (zA1 [(zBc (iSeq (cVar 1)) 1 [] .one (fun _=>ret true) (zAV cl))]))))) (sSeq (sRet (cCon (.bl false)))
  zA6) zA6)
  (sSeq (sRet (cBin oEq (cApp zId (zA1 [(cVar 1)])) (zBc (zB6 (zA1 [(cApp fLen (zA1 [(cBin oIx (cVar 0) (cCon (.int 2)))]))])) 1 [1] .one (zCe cl) (zCf cl))))
  zA6))
def zEq (cl:Nat→CLL):Prop:=∀ n,cl (n+1) "is_choice"=runF 2 2 (zAv (cl n))
noncomputable def zE0 (cl:CLL):CT :=
 (zAl (cBin oNe (cVar 0) (cVar 1)))
noncomputable def zE1 (cl:CLL):C :=
 (cVar 0)
noncomputable def zDT (cl:CLL):CS :=
 (sSeq (sRet (zBc (iSeq (cVar 0)) 1 [1] .one (zE0 cl) (zE1 cl)))
  zA6)
def zEh (cl:Nat→CLL):Prop:=∀ n,cl (n+1) "without"=runF 2 2 (zDT (cl n))
noncomputable def zAH (cl:CLL):C :=
 (cBin oIx (cBin oIx (cVar 1) (cCon (.int 2))) (cVar 0))
noncomputable def zAF (cl:CLL):CS :=
 (sSeq (sRet (cApp (cl "joins") (zA1 [(zBc (iSeq (cVar 1)) 1 [0] .one (fun _=>ret true) (zAH cl))])))
  zA6)
def zDY (cl:Nat→CLL):Prop:=∀ n,cl (n+1) "join_along"=runF 2 2 (zAF (cl n))
noncomputable def zBn (cl:CLL):CT :=
 (zAl (cBin (oIn true) (cVar 0) (cVar 2)))
noncomputable def zBo (cl:CLL):C :=
 (cVar 1)
noncomputable def zBb (cl:CLL):CS :=
 (sSeq (sRet (cApp (cl "joins") (zA1 [(zBc (zEo (zA1 [(cBin oIx (cVar 0) (cCon (.int 2)))])) 2 [1] (.many 2) (zBn cl) (zBo cl))])))
  zA6)
def zDv (cl:Nat→CLL):Prop:=∀ n,cl (n+1) "join_beside"=runF 2 2 (zBb (cl n))
noncomputable def zD8 (cl:CLL):C :=
 (cApp (cl "join_along") (zA1 [(cVar 1),(cApp (cl "without") (zA1 [(cVar 2),(cVar 0)]))]))
noncomputable def zBJ (cl:CLL):CS :=
 (sSeq (sIf (cOrT (zCI (cTru (cApp (cl "is_choice") (zA1 [(cVar 0),(cVar 1)])))) (zCI (cTru (cApp (cl "join_along") (zA1 [(cVar 0),(cVar 1)]))))) (sSeq (sRet (cCon (.bl false)))
  zA6) zA6)
  (sSeq (sRet (zLr (cApp (zBv fun bs=>bs.any id) (zA1 [(zBc (iSeq (cVar 1)) 1 [0,1] .one (fun _=>ret true) (zD8 cl))]))))
  zA6))
def zIU (cl:Nat→CLL):Prop:=∀ n,cl (n+1) "is_way"=runF 2 2 (zBJ (cl n))
noncomputable def zD9 (cl:CLL):C :=
 (cApp (cl "join_beside") (zA1 [(cVar 1),(cApp (cl "without") (zA1 [(cVar 2),(cVar 0)]))]))
noncomputable def zBK (cl:CLL):CS :=
 (sSeq (sIf (cOrT (zCI (cTru (cApp (cl "is_choice") (zA1 [(cVar 0),(cVar 1)])))) (cTru (cApp (cl "join_beside") (zA1 [(cVar 0),(cVar 1)])))) (sSeq (sRet (cCon (.bl false)))
  zA6) zA6)
  (sSeq (sRet (cApp (zBv fun bs=>bs.all id) (zA1 [(zBc (iSeq (cVar 1)) 1 [0,1] .one (fun _=>ret true) (zD9 cl))])))
  zA6))
def zIV (cl:Nat→CLL):Prop:=∀ n,cl (n+1) "is_bar"=runF 2 2 (zBK (cl n))
noncomputable def zB9 (cl:CLL):CS :=
 (sSeq (sIf (zAl (cBin oLt (cVar 1) (cApp fLen (zA1 [(cVar 0)])))) (sSeq (sRet (cBin oIx (cVar 0) (cVar 1)))
  zA6) zA6)
  (sSeq (sRet (cCon (.int 0)))
  zA6))
def zBp (cl:Nat→CLL):Prop:=∀ n,cl (n+1) "_law_cell_at"=runF 2 2 (zB9 (cl n))
noncomputable def zBY (cl:CLL):CS :=
 (sSeq (sAsg (cApp (cl "_law_cell_at") (zA1 [(cVar 0),(cVar 1)])) (gN 2))
  (sSeq (sIf (zAl (cBin (oCmp fun i j=>decide (j≤i)) (cVar 2) (cBin oPow (cCon (.int 10)) (cCon (.int 18))))) (sSeq (sRet (cLst (zA1 [(cBin (oInt fun i j=>i - j) (cVar 2) (cBin oPow (cCon (.int 10)) (cCon (.int 18)))),(cCon (.bl true))])))
  zA6) zA6)
  (sSeq (sRet (cLst (zA1 [(cBin oMod (cVar 2) (cCon (.int 2147483647))),(cCon (.bl false))])))
  zA6)))
def zDg (cl:Nat→CLL):Prop:=∀ n,cl (n+1) "_law_state"=runF 2 3 (zBY (cl n))
noncomputable def zCx (cl:CLL):CS :=
 (sSeq (sIf (cTru (cBin oIx (cVar 0) (cCon (.int 1)))) (sSeq (sAsg (cBin oMod (cBin oIx (cVar 0) (cCon (.int 0))) (cVar 1)) (gN 2))
  (sSeq (sAsg (cBin oDiv (cBin oIx (cVar 0) (cCon (.int 0))) (cVar 1)) (gS (cVar 0) (cCon (.int 0))))
  (sSeq (sRet (cVar 2))
  zA6))) zA6)
  (sSeq (sAsg (cBin oMod (cBin oAdd (cBin oMul (cBin oIx (cVar 0) (cCon (.int 0))) (cCon (.int 48271))) (cCon (.int 29))) (cCon (.int 2147483647))) (gS (cVar 0) (cCon (.int 0))))
  (sSeq (sAsg (cBin oMod (cBin oAdd (cBin oAdd (cBin oMul (cBin oIx (cVar 0) (cCon (.int 0))) (cBin oIx (cVar 0) (cCon (.int 0)))) (cBin oMul (cCon (.int 39373)) (cBin oIx (cVar 0) (cCon (.int 0))))) (cCon (.int 7))) (cCon (.int 2147483629))) (gN 3))
  (sSeq (sAsg (cBin oMod (cBin oAdd (cBin oMul (cVar 3) (cVar 3)) (cBin oMul (cCon (.int 16807)) (cVar 3))) (cCon (.int 2147483587))) (gN 3))
  (sSeq (sRet (cBin oMod (cBin oDiv (cVar 3) (cCon (.int 8))) (cVar 1)))
  zA6)))))
def zAS (cl:Nat→CLL):Prop:=∀ n,cl (n+1) "_law_take"=runF 2 4 (zCx (cl n))
noncomputable def zCA (cl:CLL):CS :=
 (sSeq (sAsg (cBin oAdd (cBin oAdd (cLst (zA1 [(cCon (.int 0))])) (cApp zDb (zA1 [(cCon (.int 2)),(cVar 1)]))) (cLst (zA1 [(cCon (.int 1))]))) (gN 2))
  (sSeq (sAsg (cApp (cl "_law_take") (zA1 [(cVar 0),(cBin (oInt fun i j=>i - j) (cVar 1) (cCon (.int 1)))])) (gN 3))
  (sSeq (sAsg (cBin oAdd (cVar 3) (cCon (.int 1))) (gN 4))
  (sSeq (sIf (zAl (cBin oEq (cApp (cl "_law_take") (zA1 [(cVar 0),(cCon (.int 3))])) (cCon (.int 0)))) (sSeq (sAsg (cBin oAdd (cBin oAdd (cVar 3) (cCon (.int 1))) (cApp (cl "_law_take") (zA1 [(cVar 0),(cBin (oInt fun i j=>i - j) (cBin (oInt fun i j=>i - j) (cVar 1) (cCon (.int 1))) (cVar 3))]))) (gN 4))
  zA6) zA6)
  (sSeq (sRet (cTup (zA1 [(cApp fMin (zA1 [(cBin oIx (cVar 2) (cVar 3)),(cBin oIx (cVar 2) (cVar 4))])),(cApp fMax (zA1 [(cBin oIx (cVar 2) (cVar 3)),(cBin oIx (cVar 2) (cVar 4))]))])))
  zA6)))))
def zCM (cl:Nat→CLL):Prop:=∀ n,cl (n+1) "_law_ends"=runF 2 5 (zCA (cl n))
noncomputable def zCt (cl:CLL):CS :=
 (sSeq (zEI (zH1 "list" (zC4 zEe) (cVar 11) (zA1 [(cApp (cl "_law_take") (zA1 [(cVar 0),(cBin oAdd (cApp fLen (zA1 [(cVar 11)])) (cCon (.int 1)))])),(cVar 12)])))
  zA6)
noncomputable def zDn (cl:CLL):CS :=
 (sSeq (zEI (zH1 "list" (zC4 zB7) (cVar 6) (zA1 [(cBin oAdd (cApp (cl "_law_ends") (zA1 [(cVar 0),(cVar 5)])) (cTup (zA1 [(cApp (cl "_law_take") (zA1 [(cVar 0),(cVar 4)])),(cApp (cl "_law_take") (zA1 [(cVar 0),(cCon (.int 2))]))])))])))
  zA6)
noncomputable def zEb (cl:CLL):CS :=
 (sSeq (zEI (zH1 "list" (zC4 zB7) (cVar 6) (zA1 [(cTup (zA1 [(cApp fMin (zA1 [(cVar 8),(cVar 9)])),(cApp fMax (zA1 [(cVar 8),(cVar 9)])),(cApp (cl "_law_take") (zA1 [(cVar 0),(cVar 4)])),(cApp (cl "_law_take") (zA1 [(cVar 0),(cCon (.int 2))]))]))])))
  zA6)
noncomputable def zCz (cl:CLL):CS :=
 (sSeq (sAsg (cBin oAdd (cCon (.int 1)) (cApp (cl "_law_take") (zA1 [(cVar 0),(cVar 1)]))) (gN 4))
  (sSeq (sAsg (cBin oAdd (cCon (.int 2)) (cApp (cl "_law_take") (zA1 [(cVar 0),(cBin (oInt fun i j=>i - j) (cVar 2) (cCon (.int 1)))]))) (gN 5))
  (sSeq (sAsg (cLst (zA1 [])) (gN 6))
  (sSeq (sAsg (cBin oAdd (cBin oAdd (cLst (zA1 [(cCon (.int 0))])) (cApp zDb (zA1 [(cCon (.int 2)),(cVar 5)]))) (cLst (zA1 [(cCon (.int 1))]))) (gN 7))
  (sSeq (sIf (zH2 (zAl (cBin oEq (cApp (cl "_law_take") (zA1 [(cVar 0),(cCon (.int 2))])) (cCon (.int 0)))) (zAl (cBin (oCmp fun i j=>decide (i≤j)) (cBin (oInt fun i j=>i - j) (cVar 5) (cCon (.int 1))) (cVar 3)))) (sSeq (sFor (zP5 (zA1 [(cVar 7),(cSl oSl (cVar 7) (zCw (cCon (.int 1))) zAM)])) (gT [(gN 8),(gN 9)]) (zEb cl))
  zA6) zA6)
  (sSeq (sFor (zB6 (zA1 [(cApp (cl "_law_take") (zA1 [(cVar 0),(cBin oAdd (cBin (oInt fun i j=>i - j) (cVar 3) (cApp fLen (zA1 [(cVar 6)]))) (cCon (.int 1)))]))])) (gN 10) (zDn cl))
  (sSeq (sAsg (cLst (zA1 [])) (gN 11))
  (sSeq (sFor (iSeq (cVar 6)) (gN 12) (zCt cl))
  (sSeq (sRet (cTup (zA1 [(cVar 4),(cVar 5),(cApp zAO (zA1 [(cVar 11)]))])))
  zA6)))))))))
def zEi (cl:Nat→CLL):Prop:=∀ n,cl (n+1) "_law_net"=runF 4 13 (zCz (cl n))
noncomputable def zD5 (cl:CLL):CS :=
 (sSeq (sAsg (cSl oSl (cBin oIx (cBin oIx (cVar 0) (cCon (.int 2))) (cVar 4)) zAM (zCw (cCon (.int 2)))) (gT [(gN 5),(gN 6)]))
  (sSeq (sAsg (cApp fMin (zA1 [(cBin oIx (cVar 2) (cVar 5)),(cBin oIx (cVar 2) (cVar 6))])) (gN 7))
  (sSeq (sAsg (cVar 7) (gS (cVar 2) (cVar 5)))
  (sSeq (sAsg (cVar 7) (gS (cVar 2) (cVar 6)))
  zA6))))
noncomputable def zD6 (cl:CLL):CS :=
 (sSeq (sFor (iSeq (cVar 1)) (gN 4) (zD5 cl))
  zA6)
noncomputable def zCJ (cl:CLL):CS :=
 (sSeq (sAsg (cApp zDb (zA1 [(cBin oIx (cVar 0) (cCon (.int 1)))])) (gN 2))
  (sSeq (sFor (zB6 (zA1 [(cBin oIx (cVar 0) (cCon (.int 1)))])) (gN 3) (zD6 cl))
  (sSeq (sRet (cVar 2))
  zA6)))
def zDi (cl:Nat→CLL):Prop:=∀ n,cl (n+1) "_law_marks"=runF 2 8 (zCJ (cl n))
noncomputable def zC0 (cl:CLL):CS :=
 (sSeq (sRet (cBin oEq (cBin oIx (cApp (cl "_law_marks") (zA1 [(cVar 0),(cVar 1)])) (cCon (.int 1))) (cCon (.int 0))))
  zA6)
def zEp (cl:Nat→CLL):Prop:=∀ n,cl (n+1) "_law_joins"=runF 2 2 (zC0 (cl n))
noncomputable def zCD (cl:CLL):CT :=
 (zAl (cBin (oIn true) (cVar 0) (cVar 1)))
noncomputable def zCE (cl:CLL):C :=
 (cVar 0)
noncomputable def zCy (cl:CLL):CS :=
 (sSeq (sRet (zBc (zB6 (zA1 [(cApp fLen (zA1 [(cBin oIx (cVar 0) (cCon (.int 2)))]))])) 1 [1] .one (zCD cl) (zCE cl)))
  zA6)
def zFB (cl:Nat→CLL):Prop:=∀ n,cl (n+1) "_law_rest"=runF 2 2 (zCy (cl n))
noncomputable def zBj (cl:CLL):CS :=
 (sSeq (sRet (zJO (cApp zAw (zA1 [(cVar 0),(cCon (.ty "int"))])) (zJO (zLr (cApp zAw (zA1 [(cVar 0),(cCon (.ty "bool"))]))) (zFq (oCmp fun i j=>decide (i≤j)) oLt (cVar 1) (cVar 0) (cVar 2)))))
  zA6)
def zCh (cl:Nat→CLL):Prop:=∀ n,cl (n+1) "_law_whole"=runF 3 3 (zBj (cl n))
noncomputable def zAa (cl:CLL):CS :=
 (sSeq (sIf (cOrT (zCI (cTru (cApp (cl "_law_whole") (zA1 [(cVar 3),(cCon (.int 0)),(cApp fLen (zA1 [(cBin oIx (cVar 0) (cCon (.int 2)))]))])))) (zH2 (zAl (cBin (oCmp fun i j=>decide (j<i)) (cVar 2) (cCon (.int 0)))) (zAl (cBin (oCmp fun i j=>decide (j≤i)) (cBin oIx (cVar 1) (cBin (oInt fun i j=>i - j) (cVar 2) (cCon (.int 1)))) (cVar 3))))) (sSeq (sRet (cCon (.bl false)))
  zA6) zA6)
  zA6)
noncomputable def zAI (cl:CLL):CS :=
 (sSeq (sIf (zCI (cTru (cApp zAw (zA1 [(cVar 1),(cCon (.ty "tuple"))])))) (sSeq (sRet (cCon (.bl false)))
  zA6) zA6)
  (sSeq (sFor (zEo (zA1 [(cVar 1)])) (gT [(gN 2),(gN 3)]) (zAa cl))
  (sSeq (sRet (cCon (.bl true)))
  zA6)))
def zFz (cl:Nat→CLL):Prop:=∀ n,cl (n+1) "_law_some"=runF 2 4 (zAI (cl n))
noncomputable def zBE (cl:CLL):CT :=
 (zAl (cBin oNe (cVar 0) (cVar 1)))
noncomputable def zBF (cl:CLL):C :=
 (cVar 0)
noncomputable def zB3 (cl:CLL):CT :=
 (cTru (cApp (cl "_law_joins") (zA1 [(cVar 1),(zBc (iSeq (cVar 2)) 1 [0] .one (zBE cl) (zBF cl))])))
noncomputable def zBG (cl:CLL):C :=
 (cVar 0)
noncomputable def zAp (cl:CLL):CS :=
 (sSeq (sIf (cOrT (zCI (cTru (cApp (cl "_law_some") (zA1 [(cVar 0),(cVar 1)])))) (zCI (cTru (cApp (cl "_law_joins") (zA1 [(cVar 0),(cVar 1)]))))) (sSeq (sRet (cCon (.bl false)))
  zA6) zA6)
  (sSeq (sRet (cBin oEq (zBc (iSeq (cVar 1)) 1 [0,1] .one (zB3 cl) (zBG cl)) (cLst (zA1 []))))
  zA6))
def zDW (cl:Nat→CLL):Prop:=∀ n,cl (n+1) "_law_is_way"=runF 2 2 (zAp (cl n))
noncomputable def zB4 (cl:CLL):CT :=
 (zCI (cTru (cApp (cl "_law_joins") (zA1 [(cVar 1),(cBin oAdd (cApp (cl "_law_rest") (zA1 [(cVar 1),(cVar 2)])) (cLst (zA1 [(cVar 0)])))]))))
noncomputable def zBH (cl:CLL):C :=
 (cVar 0)
noncomputable def zAq (cl:CLL):CS :=
 (sSeq (sIf (cOrT (zCI (cTru (cApp (cl "_law_some") (zA1 [(cVar 0),(cVar 1)])))) (cTru (cApp (cl "_law_joins") (zA1 [(cVar 0),(cApp (cl "_law_rest") (zA1 [(cVar 0),(cVar 1)]))])))) (sSeq (sRet (cCon (.bl false)))
  zA6) zA6)
  (sSeq (sRet (cBin oEq (zBc (iSeq (cVar 1)) 1 [0,1] .one (zB4 cl) (zBH cl)) (cLst (zA1 []))))
  zA6))
def zDX (cl:Nat→CLL):Prop:=∀ n,cl (n+1) "_law_is_bar"=runF 2 2 (zAq (cl n))
noncomputable def zAn (cl:CLL):CS :=
 (sSeq (sIf (zH2 (zAl (cBin (oIn false) (cBin oIx (cVar 3) (cUn oNeg (cCon (.int 1)))) (cSl oSl (cVar 6) zAM (zCw (cCon (.int 2)))))) (zAl (cBin (oIn true) (cBin (oInt fun i j=>i - j) (cBin oAdd (cBin oIx (cVar 6) (cCon (.int 0))) (cBin oIx (cVar 6) (cCon (.int 1)))) (cBin oIx (cVar 3) (cUn oNeg (cCon (.int 1))))) (cVar 3)))) (sSeq (zEI (zH1 "list" (zC4 zB7) (cVar 2) (zA1 [(cTup (zA1 [(cBin oAdd (cVar 3) (cTup (zA1 [(cBin (oInt fun i j=>i - j) (cBin oAdd (cBin oIx (cVar 6) (cCon (.int 0))) (cBin oIx (cVar 6) (cCon (.int 1)))) (cBin oIx (cVar 3) (cUn oNeg (cCon (.int 1)))))]))),(cBin oAdd (cVar 4) (cTup (zA1 [(cVar 5)])))]))])))
  zA6) zA6)
  zA6)
noncomputable def zAo (cl:CLL):CS :=
 (sSeq (sAsg (zKD "list" (zC4 gPop) (cVar 2)) (gT [(gN 3),(gN 4)]))
  (sSeq (sIf (zAl (cBin oEq (cBin oIx (cVar 3) (cUn oNeg (cCon (.int 1)))) (cCon (.int 1)))) (sSeq (zEI (zH1 "list" (zC4 zB7) (cVar 1) (zA1 [(cApp zAO (zA1 [(cApp zAy (zA1 [(cVar 4)]))]))])))
  (sSeq sCnt
  zA6)) zA6)
  (sSeq (sFor (zEo (zA1 [(cBin oIx (cVar 0) (cCon (.int 2)))])) (gT [(gN 5),(gN 6)]) (zAn cl))
  zA6)))
noncomputable def zBZ (cl:CLL):CS :=
 (sSeq (sAsg (cLst (zA1 [])) (gN 1))
  (sSeq (sAsg (cLst (zA1 [(cTup (zA1 [(cTup (zA1 [(cCon (.int 0))])),(cTup (zA1 []))]))])) (gN 2))
  (sSeq (zCN zIX (zAl (cBin oNe (cVar 2) (cLst (zA1 [])))) (zAo cl))
  (sSeq (sRet (cApp zAy (zA1 [(cVar 1)])))
  zA6))))
def zDh (cl:Nat→CLL):Prop:=∀ n,cl (n+1) "_law_paths"=runF 1 7 (zBZ (cl n))
noncomputable def zBC (cl:CLL):CT :=
 (zAl (cBin (oIn true) (cVar 0) (cVar 1)))
noncomputable def zBD (cl:CLL):C :=
 (cVar 0)
noncomputable def zBy (cl:CLL):CS :=
 (sSeq (sRet (cBin oEq (zBc (iSeq (cVar 0)) 1 [1] .one (zBC cl) (zBD cl)) (cLst (zA1 []))))
  zA6)
def zCK (cl:Nat→CLL):Prop:=∀ n,cl (n+1) "_law_within"=runF 2 2 (zBy (cl n))
noncomputable def zEW (cl:CLL):CT :=
 (zH2 (zAl (cBin oNe (cVar 0) (cVar 1))) (cTru (cApp (cl "_law_within") (zA1 [(cVar 0),(cVar 1)]))))
noncomputable def zF1 (cl:CLL):C :=
 (cVar 0)
noncomputable def zEX (cl:CLL):CT :=
 (zAl (cBin oEq (zBc (iSeq (cVar 1)) 1 [0] .one (zEW cl) (zF1 cl)) (cLst (zA1 []))))
noncomputable def zF2 (cl:CLL):C :=
 (cVar 0)
noncomputable def zEV (cl:CLL):CT :=
 (zAl (cBin oNe (cBin (oIn false) (cBin oIx (cVar 1) (cCon (.int 0))) (cVar 2)) (cBin (oIn false) (cBin oIx (cVar 1) (cCon (.int 1))) (cVar 2))))
noncomputable def zF0 (cl:CLL):C :=
 (cVar 0)
noncomputable def zEU (cl:CLL):CT :=
 (zAl (cBin oEq (cBin (oInt Builtin.bitAnd) (cBin oShr (cVar 1) (cBin (oInt fun i j=>i - j) (cVar 0) (cCon (.int 2)))) (cCon (.int 1))) (cCon (.int 1))))
noncomputable def zEZ (cl:CLL):C :=
 (cVar 0)
noncomputable def zEY (cl:CLL):CS :=
 (sSeq (sAsg (cBin oAdd (cLst (zA1 [(cCon (.int 0))])) (zBc (zFb (zA1 [(cCon (.int 2)),(cBin oIx (cVar 0) (cCon (.int 1)))])) 1 [2] .one (zEU cl) (zEZ cl))) (gN 3))
  (sSeq (sAsg (cCon (.bl true)) (gS (cVar 1) (cApp zAO (zA1 [(zBc (zEo (zA1 [(cBin oIx (cVar 0) (cCon (.int 2)))])) 2 [3] (.many 2) (zEV cl) (zF0 cl))]))))
  zA6))
noncomputable def zCj (cl:CLL):CS :=
 (sSeq (sAsg zLt (gN 1))
  (sSeq (sFor (zB6 (zA1 [(cBin oShl (cCon (.int 1)) (cBin (oInt fun i j=>i - j) (cBin oIx (cVar 0) (cCon (.int 1))) (cCon (.int 2))))])) (gN 2) (zEY cl))
  (sSeq (sAsg (cApp zAy (zA1 [(cVar 1)])) (gN 4))
  (sSeq (sRet (zBc (iSeq (cVar 4)) 1 [4] .one (zEX cl) (zF2 cl)))
  zA6))))
def zFA (cl:Nat→CLL):Prop:=∀ n,cl (n+1) "_law_shuts"=runF 1 5 (zCj (cl n))
noncomputable def zBz (cl:CLL):CS :=
 (sSeq (sAsg (cLst (zA1 [(cCon .non),(cCon (.bl true)),(cCon (.bl false)),(cUn oNeg (cCon (.int 1))),(cCon (.str (Str.ofString ""))),(cCon (.str (Str.ofString "at"))),(cTup (zA1 [])),(cLst (zA1 [])),(cTup (zA1 [(cCon (.bl true))])),(cLst (zA1 [(cCon (.int 0))])),(zND (cCon (.int 0)) (cCon (.int 1))),(cTup (zA1 [(cCon .non)])),(cTup (zA1 [(cUn oNeg (cCon (.int 1)))])),(cTup (zA1 [(cCon (.str (Str.ofString "at")))])),(cTup (zA1 [(cBin oPow (cCon (.int 10)) (cCon (.int 29)))])),(cTup (zA1 [(cCon (.int 0)),(cCon (.int 0))]))])) (gN 1))
  (sSeq (sRet (cBin oIx (cVar 1) (cApp (cl "_law_take") (zA1 [(cVar 0),(cCon (.int 16))]))))
  zA6))
def zCL (cl:Nat→CLL):Prop:=∀ n,cl (n+1) "_law_odd"=runF 1 2 (zBz (cl n))
noncomputable def zAD (cl:CLL):CS :=
 (sSeq (sAsg (cApp (cl "is_way") (zA1 [(cVar 0),(cVar 1)])) (gN 3))
  (sSeq (sAsg (cApp (cl "is_bar") (zA1 [(cVar 0),(cVar 1)])) (gN 4))
  (sSeq (sIf (cOrT (zCI (cTru (cApp zAw (zA1 [(cVar 3),(cCon (.ty "bool"))])))) (zAl (cBin oNe (cVar 3) (cApp (cl "_law_is_way") (zA1 [(cVar 0),(cVar 1)]))))) (sSeq (sRet (cCon (.bl false)))
  zA6) zA6)
  (sSeq (sIf (cOrT (zCI (cTru (cApp zAw (zA1 [(cVar 4),(cCon (.ty "bool"))])))) (zAl (cBin oNe (cVar 4) (cApp (cl "_law_is_bar") (zA1 [(cVar 0),(cVar 1)]))))) (sSeq (sRet (cCon (.bl false)))
  zA6) zA6)
  zA6))))
noncomputable def zAP (cl:CLL):CS :=
 (sSeq (sFor (zB6 (zA1 [(cCon (.int 2))])) (gN 2) (zAD cl))
  (sSeq (sRet (cCon (.bl true)))
  zA6))
def zC3 (cl:Nat→CLL):Prop:=∀ n,cl (n+1) "_law_right"=runF 2 5 (zAP (cl n))
noncomputable def zBa (cl:CLL):CS :=
 (sSeq (sAsg (cApp (cl "_law_take") (zA1 [(cVar 0),(cBin oAdd (cApp fLen (zA1 [(cVar 2)])) (cCon (.int 1)))])) (gN 3))
  (sSeq (sAsg (cBin oIx (cLst (zA1 [(cCon (.int 0)),(cApp fLen (zA1 [(cBin oIx (cVar 1) (cCon (.int 2)))])),(cUn oNeg (cCon (.int 1))),(cCon (.bl true)),(cCon .non),(cCon (.str (Str.ofString "0"))),(cTup (zA1 [(cCon (.int 0))])),(cApp (cl "_law_take") (zA1 [(cVar 0),(cBin oAdd (cApp fLen (zA1 [(cBin oIx (cVar 1) (cCon (.int 2)))])) (cCon (.int 1)))]))])) (cApp (cl "_law_take") (zA1 [(cVar 0),(cCon (.int 8))]))) (gN 4))
  (sSeq (sAsg (cLst (zA1 [(cBin oAdd (cSl oSl (cVar 2) zAM (zCw (cVar 3))) (cSl oSl (cVar 2) (zCw (cBin oAdd (cVar 3) (cCon (.int 1)))) zAM)),(cBin oAdd (cBin oAdd (cSl oSl (cVar 2) zAM (zCw (cVar 3))) (cTup (zA1 [(cVar 4)]))) (cSl oSl (cVar 2) (zCw (cBin oAdd (cVar 3) (cCon (.int 1)))) zAM)),(cBin oAdd (cBin oAdd (cSl oSl (cVar 2) zAM (zCw (cVar 3))) (cTup (zA1 [(cVar 4)]))) (cSl oSl (cVar 2) (zCw (cVar 3)) zAM)),(cBin oRev (cVar 2) (cUn oNeg (cCon (.int 1))))])) (gN 5))
  (sSeq (sAsg (cBin oAdd (cVar 5) (cLst (zA1 [(cBin oAdd (cVar 2) (cSl oSl (cVar 2) zAM (zCw (cCon (.int 1))))),(cApp zId (zA1 [(cVar 2)])),(cApp zAO (zA1 [(cApp zAy (zA1 [(cBin oAdd (cBin oAdd (cSl oSl (cVar 2) zAM (zCw (cVar 3))) (cTup (zA1 [(cCon (.int 0))]))) (cSl oSl (cVar 2) (zCw (cVar 3)) zAM))]))])),(cTup (zA1 [(cVar 2)]))]))) (gN 5))
  (sSeq (sRet (cBin oIx (cVar 5) (cApp (cl "_law_take") (zA1 [(cVar 0),(cCon (.int 8))]))))
  zA6)))))
def zCk (cl:Nat→CLL):Prop:=∀ n,cl (n+1) "_law_bent"=runF 3 6 (zBa (cl n))
noncomputable def zD4 (cl:CLL):C :=
 (cApp (cl "_law_right") (zA1 [(cVar 1),(cVar 0)]))
noncomputable def zBV (cl:CLL):C :=
 (cApp (cl "_law_bent") (zA1 [(cVar 1),(cVar 2),(cVar 3)]))
noncomputable def zD2 (cl:CLL):CT :=
 (zAl (cBin oEq (cApp (cl "_law_take") (zA1 [(cVar 1),(cCon (.int 2))])) (cCon (.int 0))))
noncomputable def zDN (cl:CLL):C :=
 (cVar 0)
noncomputable def zCs (cl:CLL):CS :=
 (sSeq (sAsg (cApp (cl "_law_state") (zA1 [(cVar 0),(cVar 2)])) (gN 3))
  (sSeq (sAsg (cApp (cl "_law_net") (zA1 [(cVar 3),(cCon (.int 4)),(cCon (.int 6)),(cCon (.int 9))])) (gN 4))
  (sSeq (sAsg (cBin oAdd (cApp (cl "_law_paths") (zA1 [(cVar 4)])) (cApp (cl "_law_shuts") (zA1 [(cVar 4)]))) (gN 5))
  (sSeq (sAsg (cBin oIx (cVar 5) (cApp (cl "_law_take") (zA1 [(cVar 3),(cApp fLen (zA1 [(cVar 5)]))]))) (gN 6))
  (sSeq (sAsg (cApp zAO (zA1 [(zBc (zB6 (zA1 [(cApp fLen (zA1 [(cBin oIx (cVar 4) (cCon (.int 2)))]))])) 1 [3] .one (zD2 cl) (zDN cl))])) (gN 7))
  (sSeq (sAsg (cBin oAdd (cSl oSl (cVar 5) zAM (zCw (cCon (.int 4)))) (cLst (zA1 [(cVar 7),(cApp zLg (zA1 [(cApp fLen (zA1 [(cBin oIx (cVar 4) (cCon (.int 2)))]))])),(cTup (zA1 [])),(cApp (cl "_law_odd") (zA1 [(cVar 3)]))]))) (gN 8))
  (sSeq (sAsg (cBin oAdd (cVar 8) (zBc (zB6 (zA1 [(cCon (.int 4))])) 1 [3,4,6] .one (fun _=>ret true) (zBV cl))) (gN 8))
  (sSeq (sIf (zCI (cTru (cApp (zBv fun bs=>bs.all id) (zA1 [(zBc (iSeq (cVar 8)) 1 [4] .one (fun _=>ret true) (zD4 cl))])))) (sSeq (sRet (cCon (.bl false)))
  zA6) zA6)
  zA6))))))))
noncomputable def zD3 (cl:CLL):CS :=
 (sSeq (sIf (cOrT (zCI (cTru (cApp (cl "_law_right") (zA1 [(cTup (zA1 [(cCon (.int 1)),(cCon (.int 2)),(cTup (zA1 []))])),(cVar 1)])))) (zCI (cTru (cApp (cl "_law_right") (zA1 [(cTup (zA1 [(cCon (.int 1)),(cCon (.int 2)),(cTup (zA1 [(cTup (zA1 [(cCon (.int 0)),(cCon (.int 1)),(cCon (.int 0)),(cCon (.int 1))]))]))])),(cVar 1)]))))) (sSeq (sRet (cCon (.bl false)))
  zA6) zA6)
  zA6)
noncomputable def zDU (cl:CLL):CS :=
 (sSeq (sFor (iSeq (cLst (zA1 [(cTup (zA1 [])),(cTup (zA1 [(cCon (.int 0))])),(cCon .non),(cLst (zA1 [])),(cTup (zA1 [(cCon (.bl false))]))]))) (gN 1) (zD3 cl))
  (sSeq (sFor (zB6 (zA1 [(cApp fMax (zA1 [(cCon (.int 1)),(cApp fMin (zA1 [(cApp fLen (zA1 [(cVar 0)])),(cCon (.int 6))]))]))])) (gN 2) (zCs cl))
  (sSeq (sRet (cCon (.bl true)))
  zA6)))
def zIS (cl:Nat→CLL):Prop:=∀ n,cl (n+1) "law"=runF 1 9 (zDU (cl n))
noncomputable def zAC (cl:CLL):CT :=
 (zH2 (zAl (cBin oNe (cVar 0) (cVar 1))) (cTru (cApp (cl "_law_within") (zA1 [(cVar 0),(cVar 1)]))))
noncomputable def zCc (cl:CLL):C :=
 (cVar 0)
noncomputable def zBu (cl:CLL):CT :=
 (zAl (cBin oEq (zBc (iSeq (cVar 1)) 1 [0] .one (zAC cl) (zCc cl)) (cLst (zA1 []))))
noncomputable def zCd (cl:CLL):C :=
 (cVar 0)
noncomputable def zC9 (cl:CLL):CT :=
 (zAl (cBin oNe (cBin (oIn false) (cBin oIx (cVar 1) (cCon (.int 0))) (cVar 2)) (cBin (oIn false) (cBin oIx (cVar 1) (cCon (.int 1))) (cVar 2))))
noncomputable def zCb (cl:CLL):C :=
 (cVar 0)
noncomputable def zC8 (cl:CLL):CT :=
 (zAl (cBin oEq (cBin (oInt Builtin.bitAnd) (cBin oShr (cVar 1) (cBin (oInt fun i j=>i - j) (cVar 0) (cCon (.int 2)))) (cCon (.int 1))) (cCon (.int 1))))
noncomputable def zCa (cl:CLL):C :=
 (cVar 0)
noncomputable def zAU (cl:CLL):CS :=
 (sSeq (sAsg (cBin oAdd (cLst (zA1 [(cCon (.int 0))])) (zBc (zFb (zA1 [(cCon (.int 2)),(cBin oIx (cVar 0) (cCon (.int 1)))])) 1 [2] .one (zC8 cl) (zCa cl))) (gN 3))
  (sSeq (sAsg (cCon (.bl true)) (gS (cVar 1) (cApp zAO (zA1 [(zBc (zEo (zA1 [(cBin oIx (cVar 0) (cCon (.int 2)))])) 2 [3] (.many 2) (zC9 cl) (zCb cl))]))))
  zA6))
noncomputable def zDD (cl:CLL):CS :=
 (sSeq (sAsg zLt (gN 1))
  (sSeq (sFor (zB6 (zA1 [(cBin oShl (cCon (.int 1)) (cBin (oInt fun i j=>i - j) (cBin oIx (cVar 0) (cCon (.int 1))) (cCon (.int 2))))])) (gN 2) (zAU cl))
  (sSeq (sAsg (cApp zAy (zA1 [(cVar 1)])) (gN 4))
  (sSeq (sRet (zBc (iSeq (cVar 4)) 1 [4] .one (zBu cl) (zCd cl)))
  zA6))))
def zIT (cl:Nat→CLL):Prop:=∀ n,cl (n+1) "_law_shuts"=runF 1 5 (zDD (cl n))
variable {cl:Nat→CLL}
theorem zNs (h:zBp cl) (n:Nat) (ns:yA) (k:Int) (hk:0≤k) (S:zA0):∃ c,cl (n+1) "_law_cell_at" [.rol (ns.map D.int),.int k] S=.ok (.int c) S:=by
 by_cases hl:k<ns.length
 ·refine ⟨ns[k.toNat]'(by omega),?_⟩
  have e:atI (ns.map D.int) k=some (.int (ns[k.toNat]'(by omega))):=by
   have q:=zC1 (xs:=ns.map D.int) (j:=k.toNat) (v:=.int (ns[k.toNat]'(by omega))) (by rw [qB7,qA5 (by omega)]; rfl)
   rw [show ((k.toNat:Nat):Int)=k by omega] at q
   exact q
  rw [h]
  refine zA9 rfl ?_
  simp [zB9,zAz,hl,e]
 ·refine ⟨0,?_⟩
  rw [h]
  refine zA9 rfl ?_
  simp [zB9,zAz,hl]
def StOk (S:zA0) (i:Nat):Prop:=∃ s b,zA4 S i=some [.int s,.bl b]∧(b=false→0≤s∧s<2147483647)
theorem StOk.lt {S:zA0}{i:Nat} (h:StOk S i):i<S.length:=by
 obtain ⟨s,b,e,_⟩:=h
 exact zDm e
theorem StOk.ex {S S':zA0}{i:Nat} (h:StOk S i) (e:Ex S S'):StOk S' i:=by
 obtain ⟨s,b,q,r⟩:=h
 exact ⟨s,b,e.lst q (fun z=>z),r⟩
theorem zKP (h:zDg cl) (hc:zBp cl) (n:Nat) (ns:yA) (k:Int) (hk:0≤k) (S:zA0):∃ S1,cl (n+2) "_law_state" [.rol (ns.map D.int),.int k] S=.ok (.lst S.length) S1∧Ex S S1∧StOk S1 S.length:=by
 obtain ⟨c,ec⟩:=zNs hc n ns k hk S
 rw [show n+2=(n+1)+1 from rfl,h]
 by_cases hb:(1000000000000000000:Int)≤c
 ·refine ⟨S++[.lst [.int (c - 1000000000000000000),.bl true]],zA9 rfl ?_,zA5 _ _,_,_,zA2 _ _,fun z=>by cases z⟩
  simp [zBY,zAz,ec,hb]
 ·refine ⟨S++[.lst [.int (c % 2147483647),.bl false]],zA9 rfl ?_,zA5 _ _,_,_,zA2 _ _,fun _=>⟨qK6 _ (by decide),qJ6 _ (by decide)⟩⟩
  simp [zBY,zAz,ec,hb]
theorem zEO {i j:Int} (h1:-18446744073709551616<j) (h2:j<18446744073709551616):zEP i j=true:=by
 unfold zEP; simp [h1,h2]
@[simp] theorem zVh:ixN 2 0=some 0:=rfl
inductive zXd (c:CLL) (S:zA0) (i:Nat) (m:Int):Prop
 | mk (r:Int) (S1:zA0) (e:c "_law_take" [.lst i,.int m] S=.ok (.int r) S1) (a:0≤r) (b:r<m) (k:Kp (·=i) S S1) (l:S1.length=S.length) (st:StOk S1 i)
theorem zAd (h:zAS cl) (n:Nat) {S:zA0}{i:Nat} (hS:StOk S i) {m:Int} (m0:0<m) (m1:m<1073741824):zXd (cl (n+1)) S i m:=by
 obtain ⟨s,b,hs,hb⟩:=hS
 have e0:=zD1 hs
 cases b with
 | true =>
  refine ⟨s % m,S.set i (.lst [.int (s / m),.bl true]),?_,qK6 _ (by omega),qJ6 _ m0,zCP _ _,by simp,⟨_,_,zAN hs,fun z=>by cases z⟩⟩
  rw [h]
  refine zA9 rfl ?_
  simp [zCx,zAz,e0,m0,m1,zEw hs]
 | false =>
  obtain ⟨s0,s1⟩:=hb rfl
  generalize hz:(s*48271+29) % 2147483647=z
  have z0:0≤z:=by rw [← hz]; exact qK6 _ (by decide)
  have z1:z<2147483647:=by rw [← hz]; exact qJ6 _ (by decide)
  generalize hy:(z*z+39373*z+7) % 2147483629=y
  have y0:0≤y:=by rw [← hy]; exact qK6 _ (by decide)
  have y1:y<2147483629:=by rw [← hy]; exact qJ6 _ (by decide)
  generalize hx:(y*y+16807*y) % 2147483587=x
  refine ⟨x / 8 % m,S.set i (.lst [.int z,.bl false]),?_,qK6 _ (by omega),qJ6 _ m0,zCP _ _,by simp,⟨_,_,zAN hs,fun _=>⟨z0,z1⟩⟩⟩
  rw [h]
  refine zA9 rfl ?_
  have e1:=zD1 (zAN (ys:=[.int z,.bl false]) hs)
  have k1:zEP s 48271=true:=zEO (by decide) (by decide)
  have k2:zEP z z=true:=zEO (by omega) (by omega)
  have k3:zEP 39373 z=true:=zEO (by omega) (by omega)
  have k4:zEP y y=true:=zEO (by omega) (by omega)
  have k5:zEP 16807 y=true:=zEO (by omega) (by omega)
  simp [zCx,zAz,e0,zEw hs,k1,hz,e1,k2,k3,hy,k4,k5,hx,m0]
structure Ct where
 a:Int
 b:Int
 k:Int
 o:Int
 deriving DecidableEq
abbrev yN:=List Ct
noncomputable def Ct.d (c:Ct):D:=.tup [.int c.a,.int c.b,.int c.k,.int c.o]
def Ct.ok (sw pl:Int) (c:Ct):Prop:=0≤c.a∧c.a<c.b∧c.b<pl∧0≤c.k∧c.k<sw∧0≤c.o∧c.o<2
structure Net where
 sw:Int
 pl:Int
 cs:yN
noncomputable def Net.d (n:Net):D:=.tup [.int n.sw,.int n.pl,.tup (n.cs.map Ct.d)]
structure Net.ok (ms mp mc:Int) (n:Net):Prop where
 s1:1≤n.sw
 s2:n.sw≤ms
 p1:2≤n.pl
 p2:n.pl≤mp
 c1:(n.cs.length:Int)≤mc
 c2:∀ c∈n.cs,c.ok n.sw n.pl
theorem zC7 {S:zA0}{n m:Nat}{xs ys:yM} (h1:zA4 S n=some xs) (h2:zA4 S m=some ys) (h:xs.length+ys.length≤lim):oAdd (.lst n) (.lst m) S=.ok (.lst S.length) (S++[.lst (xs++ys)]):=by
 show (match S[n]?,S[m]? with | some (O.lst xs),some (O.lst ys)=>(if xs.length+ys.length≤lim then R.ok (D.lst S.length) (S++[O.lst (xs++ys)]) else .bad) | _,_=>.bad)=_
 rw [zAG h1,zAG h2]
 dsimp only
 rw [if_pos h]
noncomputable def rowL (n:Int):yA:=[0]++((List.range (n - 2).toNat).map fun (k:Nat)=>(2:Int)+(k:Nat))++[1]
noncomputable def rowJ (n i:Int):Int:=if i=0 then 0 else if i=n - 1 then 1 else i+1
theorem zGp {n:Int} (h2:2≤n):(rowL n).length=n.toNat:=by unfold rowL; simp; omega
theorem zK9 {n:Int}{i:Nat} (h2:2≤n) (hi:(i:Int)<n):(rowL n)[i]?=some (rowJ n i):=by
 unfold rowL rowJ
 by_cases h0:i=0
 ·subst h0; simp
 ·rw [if_neg (by omega)]
  by_cases hl:(i:Int)=n - 1
  ·rw [if_pos hl,qA0 (by simp; omega)]
   have:i - ([0]++((List.range (n - 2).toNat).map fun (k:Nat)=>(2:Int)+(k:Nat))).length=0:=by simp; omega
   rw [this]; rfl
  ·rw [if_neg hl,qA7 (by simp; omega),qA0 (by simp; omega)]
   simp only [qC3,qF3,qB7]
   rw [qJ0 (by omega)]
   simp
   omega
theorem zMc {n i:Int} (h2:2≤n) (h0:0≤i) (hi:i<n):atI ((rowL n).map D.int) i=some (.int (rowJ n i)):=by
 have q:=zC1 (xs:=(rowL n).map D.int) (j:=i.toNat) (v:=.int (rowJ n i.toNat)) (by rw [qB7,zK9 h2 (by omega)]; rfl)
 rw [show ((i.toNat:Nat):Int)=i by omega] at q
 exact q
theorem zGq {n i:Int} (h2:2≤n) (h0:0≤i) (hi:i<n):0≤rowJ n i∧rowJ n i<n:=by
 unfold rowJ; split <;> (try split) <;> omega
theorem zMd {n i j:Int} (h2:2≤n) (h0:0≤i) (hij:i<j) (hj:j<n):rowJ n i≠rowJ n j:=by
 unfold rowJ; split <;> split <;> (try split) <;> (try split) <;> omega
theorem mima {x y n:Int} (hx:0≤x∧x<n) (hy:0≤y∧y<n) (h:x≠y):0≤(if y<x then y else x)∧(if y<x then y else x)<(if y>x then y else x)∧(if y>x then y else x)<n:=by
 split <;> split <;> omega
theorem zGk (lo:Int) (n:Nat):(upD lo n).length=n:=by unfold upD; simp
theorem zAc:lim=1048576:=rfl
theorem zPE {ρ:Env1}{j:Nat}{n:Int} (hj:ρ[j]?=some (some (.int n))) (h2:2≤n) (h7:n≤7) (S:zA0):∃ k S1,cBin oAdd (cBin oAdd (cLst (zA1 [(cCon (.int 0))])) (cApp zDb (zA1 [(cCon (.int 2)),(cVar j)]))) (cLst (zA1 [(cCon (.int 1))])) ρ S=.ok (.lst k) S1∧Ex S S1∧S.length≤k∧zA4 S1 k=some ((rowL n).map D.int):=by
 have e1:zDb [.int 2,.int n] (S++[O.lst [D.int 0]])=.ok (.lst (S++[O.lst [D.int 0]]).length) (S++[O.lst [D.int 0]]++[.lst (upD 2 (n - 2).toNat)]):=by
  unfold zDb
  dsimp only
  rw [if_pos (by omega)]
 generalize hA:S++[O.lst [D.int 0]]++[O.lst (upD 2 (n - 2).toNat)]=A at e1
 have a1:zA4 A S.length=some [.int 0]:=by rw [← hA]; exact zAg (zA2 _ _)
 have a2:zA4 A (S++[O.lst [D.int 0]]).length=some (upD 2 (n - 2).toNat):=by rw [← hA]; exact zA2 _ _
 have e2:=zC7 a1 a2 (by rw [zGk,zAc]; simp; omega)
 generalize hB:A++[O.lst ([D.int 0]++upD 2 (n - 2).toNat)]=B at e2
 have b1:zA4 (B++[O.lst [D.int 1]]) A.length=some ([D.int 0]++upD 2 (n - 2).toNat):=by rw [← hB]; exact zAg (zA2 _ _)
 have e3:=zC7 b1 (zA2 B [D.int 1]) (by rw [qB1,zGk,zAc]; simp; omega)
 refine ⟨(B++[O.lst [D.int 1]]).length,(B++[O.lst [D.int 1]])++[O.lst ([D.int 0]++upD 2 (n - 2).toNat++[D.int 1])],?_,?_,?_,?_⟩
 ·simp only [zRU,zRR,zLu,zNF,zRT,zAA,zRV,zRP,hj,e1,e2,e3]
 ·have:Ex S A:=by rw [← hA]; exact (zA5 _ _).trans (zA5 _ _)
  have:Ex S B:=by rw [← hB]; exact this.trans (zA5 _ _)
  exact (this.trans (zA5 _ _)).trans (zA5 _ _)
 ·rw [qB1,← hB,qB1,← hA]; simp; omega
 ·rw [zA2]
  congr 1
  unfold rowL upD
  simp
inductive zXi (c:CLL) (S:zA0) (i:Nat) (pl:Int):Prop
 | mk (x y:Int) (S1:zA0) (e:c "_law_ends" [.lst i,.int pl] S=.ok (.tup [.int x,.int y]) S1) (h0:0≤x) (h1:x<y) (h2:y<pl) (k:Kp (·=i) S S1) (st:StOk S1 i)
theorem zNa (h:zCM cl) (ht:zAS cl) (n:Nat) {S:zA0}{i:Nat} (hS:StOk S i) {pl:Int} (p2:2≤pl) (p7:pl≤7):zXi (cl (n+2)) S i pl:=by
 obtain ⟨k,S1,e1,x1,hk,l1⟩:=zPE (ρ:=[some (.lst i),some (.int pl),none,none,none]) (j:=1) rfl p2 p7 S
 have st1:=hS.ex x1
 have ki:k≠i:=by have:=hS.lt; omega
 obtain ⟨one,S2,e2,o0,o1,k2,n2,st2⟩:=zAd ht n st1 (m:=pl - 1) (by omega) (by omega)
 obtain ⟨c3,S3,e3,c0,c1,k3,n3,st3⟩:=zAd ht n st2 (m:=3) (by omega) (by omega)
 have l3:zA4 S3 k=some ((rowL pl).map D.int):=k3.lst (k2.lst l1 ki) ki
 have fin:∀ (other:Int) (S4:zA0),one<other→other<pl→zA4 S4 k=some ((rowL pl).map D.int)→∀ x y,x=(if rowJ pl other<rowJ pl one then rowJ pl other else rowJ pl one)→y=(if rowJ pl other>rowJ pl one then rowJ pl other else rowJ pl one) →
   (oIx (.lst k) (.int one) S4=.ok (.int (rowJ pl one)) S4∧oIx (.lst k) (.int other) S4=.ok (.int (rowJ pl other)) S4)∧0≤x∧x<y∧y<pl:=by
  intro other S4 h1 h2 l4 x y ex ey
  obtain ⟨m1,m2,m3⟩:=mima (zGq p2 (i:=one) (by omega) (by omega)) (zGq p2 (i:=other) (by omega) (by omega)) (zMd p2 (by omega) h1 h2)
  subst ex ey
  exact ⟨⟨by rw [zD1 l4,zMc p2 (by omega) (by omega)],by rw [zD1 l4,zMc p2 (by omega) (by omega)]⟩,m1,m2,m3⟩
 by_cases hc:c3=0
 ·obtain ⟨r,S4,e4,r0,r1,k4,n4,st4⟩:=zAd ht n st3 (m:=pl - 1 - one) (by omega) (by omega)
  obtain ⟨⟨f1,f2⟩,f3,f4,f5⟩:=fin (one+1+r) S4 (by omega) (by omega) (k4.lst l3 ki) _ _ rfl rfl
  refine ⟨_,_,S4,?_,f3,f4,f5,(x1.kp.trans k2).trans (k3.trans k4),st4⟩
  rw [show n+2=(n+1)+1 from rfl,h]
  refine zA9 rfl ?_
  simp [zCA,zAz,↓e1,e2,e3,hc,e4,f1,f2]
 ·obtain ⟨⟨f1,f2⟩,f3,f4,f5⟩:=fin (one+1) S3 (by omega) (by omega) l3 _ _ rfl rfl
  refine ⟨_,_,S3,?_,f3,f4,f5,(x1.kp.trans k2).trans k3,st3⟩
  rw [show n+2=(n+1)+1 from rfl,h]
  refine zA9 rfl ?_
  simp [zCA,zAz,↓e1,e2,e3,hc,f1,f2]
theorem _root_.L2.Kp.setNew {P:Nat→Prop}{S0 S:zA0}{l:Nat}{o:O} (h:Kp P S0 S) (hl:S0.length≤l):Kp P S0 (S.set l o) :=
 ⟨by rw [qN0]; exact h.le,fun j hj n=>by rw [qE1 (by omega)]; exact h.eq j hj n⟩
theorem StOk.setO {S:zA0}{i l:Nat}{o:O} (h:StOk S i) (hl:l≠i):StOk (S.set l o) i:=by
 obtain ⟨s,b,q,r⟩:=h
 exact ⟨s,b,zDL (by rw [qE1 hl]; exact zAG q),r⟩
theorem zEa {S:zA0}{i l:Nat}{o:O}{xs:yM} (h:zA4 S i=some xs) (hl:l≠i):zA4 (S.set l o) i=some xs:=zDL (by rw [qE1 hl]; exact zAG h)
@[simp] theorem zLL {lo:Int}{n i:Nat}{d:D}:(upD lo n)[i]?=some d↔i<n∧d=.int (lo+i):=by
 unfold upD
 rw [qB7]
 by_cases h:i<n
 ·rw [qJ0 h]; simp [h,eq_comm]
 ·rw [qL9 (by simpa using h)]; simp [h]
structure Rows (S0 S:zA0) (i l:Nat) (sw pl:Int) (cs:yN):Prop where
 at':zA4 S l=some (cs.map Ct.d)
 ok:∀ c∈cs,c.ok sw pl
 st:StOk S i
 kp:Kp (·=i) S0 S
 ge:S0.length≤l
 ne:l≠i
theorem Rows.put {S0 S S1:zA0}{i l:Nat}{sw pl:Int}{cs ds:yN} (h:Rows S0 S i l sw pl cs) (k:Kp (·=i) S S1) (st:StOk S1 i) (hd:∀ c∈ds,c.ok sw pl):Rows S0 (S1.set l (.lst (ds.map Ct.d))) i l sw pl ds :=
 ⟨zAN (k.lst h.at' h.ne),hd,st.setO h.ne,(h.kp.trans k).setNew h.ge,h.ge,h.ne⟩
theorem Rows.go {S0 S S1:zA0}{i l:Nat}{sw pl:Int}{cs:yN} (h:Rows S0 S i l sw pl cs) (k:Kp (·=i) S S1) (st:StOk S1 i):Rows S0 S1 i l sw pl cs:=⟨k.lst h.at' h.ne,h.ok,st,h.kp.trans k,h.ge,h.ne⟩
noncomputable def nE (i:Nat) (ms mp mc sw pl:Int) (l:Nat) (a b c d e f:Option D):Env1:=[some (.lst i),some (.int ms),some (.int mp),some (.int mc),some (.int sw),some (.int pl),some (.lst l),a,b,c,d,e,f]
inductive NetP (S:zA0) (i:Nat) (ms mp mc:Int) (N:Net) (S1:zA0):Prop
 | mk (ok:N.ok ms mp mc) (k:Kp (·=i) S S1) (st:StOk S1 i)
inductive zS3 (r:RS) (S:zA0) (i:Nat) (ms mp mc:Int):Prop
 | mk (N:Net) (S1:zA0) (e:r=.rt N.d S1) (p:NetP S i ms mp mc N S1)
inductive zUW (r:R D) (S:zA0) (i:Nat) (ms mp mc:Int):Prop
 | mk (N:Net) (S1:zA0) (e:r=.ok N.d S1) (ok:N.ok ms mp mc) (k:Kp (·=i) S S1) (st:StOk S1 i)
inductive zXg (S0:zA0) (i l:Nat) (ms mp mc sw pl:Int) (v7 v8 v9 v10:Option D) (m:Nat) (cs:yN) (j:Nat) (ρ:Env1) (S':zA0):Prop
 | mk (v12:Option D) (ds:yN) (e:ρ=nE i ms mp mc sw pl l v7 v8 v9 v10 (some (.lst m)) v12) (Rl:Rows S0 S' i l sw pl cs) (Rd:Rows S0 S' i m sw pl ds) (h:ds.length=j)
inductive zXf (S0:zA0) (i l:Nat) (ms mp mc sw pl:Int) (v7 v8 v9:Option D) (n0:Nat) (j:Nat) (ρ:Env1) (S':zA0):Prop
 | mk (v10:Option D) (ds:yN) (e:ρ=nE i ms mp mc sw pl l v7 v8 v9 v10 none none) (R:Rows S0 S' i l sw pl ds) (h:ds.length=n0+j)
inductive zXe (S0:zA0) (i l:Nat) (ms mp mc sw pl:Int) (kr t:Nat) (j:Nat) (ρ:Env1) (S':zA0):Prop
 | mk (v8 v9:Option D) (ds:yN) (e:ρ=nE i ms mp mc sw pl l (some (.lst kr)) v8 v9 none none none) (R:Rows S0 S' i l sw pl ds) (h:ds.length=j) (q1:zA4 S' kr=some ((rowL pl).map D.int)) (q2:zA4 S' t=some (((rowL pl).drop 1).map D.int))
theorem zOH (h:zEi cl) (he:zCM cl) (ht:zAS cl) (n:Nat) {S:zA0}{i:Nat} (hS:StOk S i) {ms mp mc:Int} (hms:1≤ms∧ms≤4) (hmp:2≤mp∧mp≤7) (hmc:0≤mc∧mc≤16):zUW (cl (n+3) "_law_net" [.lst i,.int ms,.int mp,.int mc] S) S i ms mp mc:=by
 obtain ⟨r1,S1,e1,a1,b1,k1,n1,st1⟩:=zAd ht (n+1) hS (m:=ms) (by omega) (by omega)
 obtain ⟨r2,S2,e2,a2,b2,k2,n2,st2⟩:=zAd ht (n+1) st1 (m:=mp - 1) (by omega) (by omega)
 generalize hsw:1+r1=sw at *
 generalize hpl:2+r2=pl at *
 have w1:1≤sw:=by omega
 have w2:sw≤ms:=by omega
 have p1:2≤pl:=by omega
 have p2:pl≤mp:=by omega
 have kS2:Kp (·=i) S S2:=k1.trans k2
 have hl:S.length≤S2.length:=kS2.le
 have li:S2.length≠i:=by have:=hS.lt; omega
 obtain ⟨kr,S4,e4,x4,hk4,l4⟩:=zPE (ρ:=nE i ms mp mc sw pl S2.length none none none none none none) (j:=5) rfl p1 (by omega) (S2++[.lst []])
 have kri:kr≠i:=by have:=hS.lt; simp at hk4; omega
 have krl:kr≠S2.length:=by simp at hk4; omega
 have R4:Rows S S4 i S2.length sw pl []:=⟨x4.lst (zA2 _ _) (fun z=>z),(fun c hc=>by cases hc),(st2.ex (zA5 _ _)).ex x4,kS2.trans ((zA5 S2 [.lst []]).trans x4).kp,hl,li⟩
 have fin:∀ (cs:yN) (S5:zA0) (v7 v8 v9 v10:Option D),Rows S S5 i S2.length sw pl cs→(cs.length:Int)≤mc →
   zS3 ((sSeq (sAsg (cLst (zA1 [])) (gN 11)) (sSeq (sFor (iSeq (cVar 6)) (gN 12) (zCt (cl (n+2)))) (sSeq (sRet (cTup (zA1 [(cVar 4),(cVar 5),(cApp zAO (zA1 [(cVar 11)]))]))) zA6))) (nE i ms mp mc sw pl S2.length v7 v8 v9 v10 none none) S5) S i ms mp mc:=by
  intro cs S5 v7 v8 v9 v10 R5 hc
  have hm:S.length≤S5.length:=R5.kp.le
  have mi:S5.length≠i:=by have:=hS.lt; omega
  have ml:S2.length≠S5.length:=by have:=zDm R5.at'; omega
  have Rm:Rows S (S5++[.lst []]) i S2.length sw pl cs:=R5.go (zA5 _ _).kp (R5.st.ex (zA5 _ _))
  obtain ⟨ρ',S6,e6,v12,ds,hρ,Rl,Rd,hd⟩:=zB2 (w:=[(S2.length,cs.map Ct.d)]) (g:=gN 12) (b:=zCt (cl (n+2))) (items:=cs.map Ct.d)
   (zXg S i S2.length ms mp mc sw pl v7 v8 v9 v10 S5.length cs)
   (ρ:=nE i ms mp mc sw pl S2.length v7 v8 v9 v10 (some (.lst S5.length)) none) (S:=S5++[.lst []])
   (fun j ρ S' hp=>by obtain ⟨_,_,_,q,_⟩:=hp; exact zD0 q.at')
   ⟨none,[],rfl,Rm,⟨zA2 _ _,(fun c hc=>by cases hc),Rm.st,Rm.kp,hm,mi⟩,rfl⟩
   (fun j d ρ S' hd hp=>by
    obtain ⟨v12,ds,rfl,Rl,Rd,hj⟩:=hp
    rw [qB7] at hd
    obtain ⟨c,hc1,rfl⟩:=qA1.mp hd
    have cok:=R5.ok c (qC0 hc1)
    have jl:j<cs.length:=(qA4.mp hc1).1
    obtain ⟨r,S7,e7,r0,r9,k7,n7,st7⟩:=zAd ht (n+1) Rl.st (m:=((ds.map Ct.d).length:Int)+1) (by omega) (by rw [qA6]; omega)
    rw [qA6] at e7 r9
    have hins:∀ c'∈ds.take r.toNat++c::ds.drop r.toNat,c'.ok sw pl:=fun c' hc'=>by
     rcases qB4.mp hc' with q | q
     ·exact Rd.ok c' (qE6 q)
     ·rcases qB6.mp q with q | q
      ·subst q; exact cok
      ·exact Rd.ok c' (qG2 q)
    have Rd7:=Rd.put k7 st7 hins
    have Rl7:Rows S (S7.set S5.length (.lst ((ds.take r.toNat++c::ds.drop r.toNat).map Ct.d))) i S2.length sw pl cs:=⟨zEa (k7.lst Rl.at' Rl.ne) (Ne.symm ml),Rl.ok,st7.setO Rd.ne,(Rl.kp.trans k7).setNew Rd.ge,Rl.ge,Rl.ne⟩
    refine ⟨_,_,rfl,_,_,.inl ?_,⟨some c.d,ds.take r.toNat++c::ds.drop r.toNat,rfl,Rl7,Rd7,by simp; omega⟩⟩
    have q1:=zCB Rd.at'
    have q2:=zGP Rd.at'
    have q3:=zDK (k7.lst Rd.at' Rd.ne) zEe [.int r,c.d]
    have q4:ds.length<1000∧0≤r∧r.toNat≤ds.length:=by omega
    simp [nE,zCt,q1,q2,e7,q3,q4])
  subst hρ
  refine ⟨⟨sw,pl,ds⟩,S6,?_,⟨⟨w1,w2,p1,p2,by show (ds.length:Int)≤mc; rw [hd,qA6]; exact hc,Rd.ok⟩,Rd.kp,Rd.st⟩⟩
  have q5:zA4 (S5++[O.lst []]) S2.length=some (cs.map Ct.d):=Rm.at'
  have q6:=zCu Rd.at'
  unfold nE at e6 ⊢
  simp [q5,e6,q6,Net.d]
 have mid:∀ (cs:yN) (S5:zA0) (v7 v8 v9:Option D),Rows S S5 i S2.length sw pl cs→(cs.length:Int)≤mc →
   zS3 ((sSeq (sFor (zB6 (zA1 [(cApp (cl (n+2) "_law_take") (zA1 [(cVar 0),(cBin oAdd (cBin (oInt fun i j=>i - j) (cVar 3) (cApp fLen (zA1 [(cVar 6)]))) (cCon (.int 1)))]))])) (gN 10) (zDn (cl (n+2))))
    (sSeq (sAsg (cLst (zA1 [])) (gN 11)) (sSeq (sFor (iSeq (cVar 6)) (gN 12) (zCt (cl (n+2)))) (sSeq (sRet (cTup (zA1 [(cVar 4),(cVar 5),(cApp zAO (zA1 [(cVar 11)]))]))) zA6)))) (nE i ms mp mc sw pl S2.length v7 v8 v9 none none none) S5) S i ms mp mc:=by
  intro cs S5 v7 v8 v9 R5 hc
  obtain ⟨r,S6,e6,r0,r9,k6,n6,st6⟩:=zAd ht (n+1) R5.st (m:=mc - ((cs.map Ct.d).length:Int)+1) (by rw [qA6]; omega) (by omega)
  rw [qA6] at e6 r9
  have R6:=R5.go k6 st6
  obtain ⟨ρ',S7,e7,v10,ds,hρ,Rd,hd⟩:=zB2 (w:=[]) (g:=gN 10) (b:=zDn (cl (n+2))) (items:=upD 0 r.toNat)
   (zXf S i S2.length ms mp mc sw pl v7 v8 v9 cs.length)
   (fun j ρ S' hp=>zAf _) ⟨none,cs,rfl,R6,rfl⟩
   (fun j d ρ S' hd hp=>by
    obtain ⟨v10,ds,rfl,R,hj⟩:=hp
    rw [zLL] at hd
    obtain ⟨hjr,rfl⟩:=hd
    obtain ⟨x,y,S8,e8,x0,xy,yp,k8,st8⟩:=zNa he ht n R.st p1 (by omega)
    obtain ⟨r3,S9,e9,a3,b3,k9,n9,st9⟩:=zAd ht (n+1) st8 (m:=sw) (by omega) (by omega)
    obtain ⟨r4,S10,e10,a4,b4,k10,n10,st10⟩:=zAd ht (n+1) st9 (m:=2) (by omega) (by omega)
    have kk:=(k8.trans k9).trans k10
    have hok:∀ c∈ds++[⟨x,y,r3,r4⟩],Ct.ok sw pl c:=fun c hc=>by
     rcases qB4.mp hc with q | q
     ·exact R.ok c q
     ·simp at q; subst q; exact ⟨x0,xy,yp,a3,b3,a4,b4⟩
    have Rd:=R.put kk st10 hok
    refine ⟨_,_,rfl,_,_,.inl ?_,⟨some (.int (0+(j:Int))),ds++[⟨x,y,r3,r4⟩],rfl,Rd,by simp; omega⟩⟩
    have q1:=zCB R.at'
    have q2:=zDK (kk.lst R.at' R.ne) zB7 [Ct.d ⟨x,y,r3,r4⟩]
    have q3:ds.length<lim:=by rw [zAc]; omega
    have q4:(2:Nat)+2≤lim:=by decide
    simp [nE,zDn,q1,e8,e9,e10,Ct.d,q4] at q2 ⊢
    simp [q2,q3])
  subst hρ
  obtain ⟨N,S11,e11,r11⟩:=fin ds S7 v7 v8 v9 v10 Rd (by rw [hd,zGk]; omega)
  refine ⟨N,S11,?_,r11⟩
  have q5:=zGP R5.at'
  rw [qA6] at q5
  have q6:-4611686018427387904≤r∧r<4611686018427387904:=by omega
  rw [zJ4,zMb]
  unfold nE at e7 e11 ⊢
  simp [q5,e6,q6,e7,-zJ4,e11]
 obtain ⟨c5,S5,e5,a5,b5,k5,n5,st5⟩:=zAd ht (n+1) R4.st (m:=2) (by omega) (by omega)
 have R5:=R4.go k5 st5
 have l5:zA4 S5 kr=some ((rowL pl).map D.int):=k5.lst l4 kri
 have main:zS3 (zCz (cl (n+2)) [some (.lst i),some (.int ms),some (.int mp),some (.int mc),none,none,none,none,none,none,none,none,none] S) S i ms mp mc:=by
  unfold nE at e4
  by_cases hc:c5=0∧pl - 1≤mc
  ·have hcut:cutD ((rowL pl).map D.int) (some 1) none=((rowL pl).drop 1).map D.int:=by
    unfold cutD
    have hs:HT.sIx ((rowL pl).map D.int).length 0 (some 1)=1:=by
     have:=HT.sIx_nat ((rowL pl).map D.int).length 0 1
     have hl:=zGp p1
     rw [qA6] at this ⊢
     rw [show ((1:Nat):Int)=1 from rfl] at this
     rw [this]; omega
    rw [hs,HT.sIx_none,qU3,qE3 (by simp)]
   have x6:=zA5 S5 [O.lst (((rowL pl).drop 1).map D.int)]
   have t6:zA4 (S5++[O.lst (((rowL pl).drop 1).map D.int)]) S5.length=some (((rowL pl).drop 1).map D.int):=zA2 _ _
   have l6:=x6.lst l5 (fun z=>z)
   have ti:S5.length≠i:=by have:=st5.lt; omega
   have tl:S5.length≠S2.length:=by have:=zDm R5.at'; omega
   have R6:=R5.go x6.kp (st5.ex x6)
   obtain ⟨ρ',S7,e7,v8,v9,ds,hρ,Rd,hd,_⟩:=zB2 (w:=[(kr,(rowL pl).map D.int),(S5.length,((rowL pl).drop 1).map D.int)]) (g:=gT [gN 8,gN 9]) (b:=zEb (cl (n+2))) (items:=zipD ((rowL pl).map D.int) (((rowL pl).drop 1).map D.int))
    (zXe S i S2.length ms mp mc sw pl kr S5.length)
    (ρ:=nE i ms mp mc sw pl S2.length (some (.lst kr)) none none none none none) (S:=S5++[O.lst (((rowL pl).drop 1).map D.int)])
    (fun j ρ S' hp=>by obtain ⟨_,_,_,_,_,_,q1,q2⟩:=hp; exact zR4 q1 q2)
    ⟨none,none,[],rfl,R6,rfl,l6,t6⟩
    (fun j d ρ S' hd hp=>by
     obtain ⟨v8,v9,ds,rfl,R,hj,q1,q2⟩:=hp
     have hz:∃ x y,(rowL pl)[j]?=some x∧(rowL pl)[1+j]?=some y∧d=.tup [.int x,.int y]:=by
      unfold zipD at hd
      rw [qB7] at hd
      obtain ⟨⟨x,y⟩,hxy,rfl⟩:=qA1.mp hd
      rw [qF7,qB7,qB7,List.getElem?_drop] at hxy
      obtain ⟨hx,hy⟩:=hxy
      obtain ⟨x',hx',rfl⟩:=qA1.mp hx
      obtain ⟨y',hy',rfl⟩:=qA1.mp hy
      exact ⟨x',y',hx',hy',rfl⟩
     obtain ⟨x,y,hx,hy,rfl⟩:=hz
     have hjl:1+j<(rowL pl).length:=(qA4.mp hy).1
     rw [zGp p1] at hjl
     rw [zK9 p1 (by omega)] at hx hy
     cases hx
     cases hy
     obtain ⟨r3,S9,e9,a3,b3,k9,n9,st9⟩:=zAd ht (n+1) R.st (m:=sw) (by omega) (by omega)
     obtain ⟨r4,S10,e10,a4,b4,k10,n10,st10⟩:=zAd ht (n+1) st9 (m:=2) (by omega) (by omega)
     have kk:=k9.trans k10
     obtain ⟨m1,m2,m3⟩:=mima (n:=pl) (zGq p1 (i:=(j:Int)) (by omega) (by omega)) (zGq p1 (i:=((1+j:Nat):Int)) (by omega) (by omega)) (zMd p1 (by omega) (by omega) (by omega))
     generalize hX:(if rowJ pl ((1+j:Nat):Int)<rowJ pl (j:Int) then rowJ pl ((1+j:Nat):Int) else rowJ pl (j:Int))=X at m1 m2
     generalize hY:(if rowJ pl ((1+j:Nat):Int)>rowJ pl (j:Int) then rowJ pl ((1+j:Nat):Int) else rowJ pl (j:Int))=Y at m2 m3
     have hok:∀ c∈ds++[⟨X,Y,r3,r4⟩],Ct.ok sw pl c:=fun c hc=>by
      rcases qB4.mp hc with q | q
      ·exact R.ok c q
      ·simp at q; subst q; exact ⟨m1,m2,m3,a3,b3,a4,b4⟩
     have Rd:=R.put kk st10 hok
     refine ⟨_,_,rfl,_,_,.inl ?_,⟨some (.int (rowJ pl (j:Int))),some (.int (rowJ pl ((1+j:Nat):Int))),ds++[⟨X,Y,r3,r4⟩],rfl,Rd,by simp; omega,zEa (kk.lst q1 kri) krl.symm,zEa (kk.lst q2 ti) tl.symm⟩⟩
     have q7:=zCB R.at'
     have q8:=zDK (kk.lst R.at' R.ne) zB7 [Ct.d ⟨X,Y,r3,r4⟩]
     have q9:ds.length<lim:=by rw [zAc]; omega
     simp [nE,zEb,q7,e9,e10,Ct.d,-Int.natCast_add,hX,hY] at q8 ⊢
     simp [q8,q9])
   have hdl:ds.length=pl.toNat - 1:=by
    rw [hd]
    unfold zipD
    rw [qA6,qP9,qA6,qA6,qI2,zGp p1]
    exact qP0 (Nat.sub_le _ _)
   subst hρ
   obtain ⟨N,S11,e11,r11⟩:=mid ds S7 (some (.lst kr)) v8 v9 Rd (by omega)
   unfold nE at e7 e11
   refine ⟨N,S11,?_,r11⟩
   have q3:=zMt l5 (some 1) none
   rw [hcut] at q3
   unfold zCz
   generalize hT:((rowL pl).drop 1).map D.int=T at q3 l6 t6 e7
   generalize hT2:(rowL pl).map D.int=T2 at q3 l6 t6 e7
   simp [e1,e2,hsw,hpl,↓e4,e5,hc.1,hc.2,q3,l6,t6,e7,↓e11]
  ·obtain ⟨N,S11,e11,r11⟩:=mid [] S5 (some (.lst kr)) none none R5 (by show (0:Int)≤mc; omega)
   unfold nE at e11
   refine ⟨N,S11,?_,r11⟩
   unfold zCz
   by_cases h0:c5=0
   ·have h1:¬ (pl - 1≤mc):=fun z=>hc ⟨h0,z⟩
    simp [e1,e2,hsw,hpl,↓e4,e5,h0,h1,↓e11]
   ·simp [e1,e2,hsw,hpl,↓e4,e5,h0,↓e11]
 obtain ⟨N,S12,e12,a12,b12,c12⟩:=main
 exact ⟨N,S12,by rw [show n+3=(n+2)+1 from rfl,h]; exact zA9 rfl e12,a12,b12,c12⟩
end My
namespace Mt
def zKI (es:List (Int × Int)):Prop:=∀ C:Int→Prop,C 0→(∀ e∈es,(C e.1↔C e.2))→C 1
structure zFy (es:List (Int × Int)) (s:Int) (F:Int→Prop):Prop where
 start:F s
 closed:∀ e∈es,(F e.1↔F e.2)
 least:∀ C:Int→Prop,C s→(∀ e∈es,(C e.1↔C e.2))→∀ x,F x→C x
theorem zFy.joined {es:List (Int × Int)}{F:Int→Prop} (h:zFy es 0 F):F 1↔zKI es:=⟨fun f C c0 cc=>h.least C c0 cc 1 f,fun j=>j F h.start h.closed⟩
theorem zIb {α:Type}{p q:α→Bool}{l:List α} (h:∀ x,p x=true→q x=true) {a:α} (ha:a∈l) (h1:q a=true) (h2:p a=false):(l.filter p).length<(l.filter q).length:=by
 induction l with
 | nil=>cases ha
 | cons x r ih =>
  have le:(r.filter p).length≤(r.filter q).length:=by
   clear ih ha
   induction r with
   | nil=>simp
   | cons y r ih =>
    rw [qF5,qF5]
    cases hp:p y with
    | true=>rw [h y hp]; simpa using ih
    | false =>
     cases q y with
     | true=>simp; omega
     | false=>simpa using ih
  rw [qF5,qF5]
  rcases qB6.mp ha with e | e
  ·subst e
   rw [h1,h2]; simp; omega
  ·have:=ih e
   cases hp:p x with
   | true=>rw [h x hp]; simpa using this
   | false =>
    cases q x with
    | true=>simp; omega
    | false=>simpa using this
noncomputable def mk1 (ms:yA) (e:Int × Int):yA :=
 let l:=if ms.getD e.2.toNat 0<ms.getD e.1.toNat 0 then ms.getD e.2.toNat 0 else ms.getD e.1.toNat 0
 (ms.set e.1.toNat l).set e.2.toNat l
structure MOk (pl:Int) (ms:yA):Prop where
 len:(ms.length:Int)=pl
 pos:∀ (i:Nat) x,ms[i]?=some x→0≤x
def Z (ms:yA) (x:Int):Prop:=0≤x∧ms[x.toNat]?=some 0
theorem zTI {pl:Int}{ms:yA}{e:Int × Int} (h:MOk pl ms) (h1:0≤e.1∧e.1<pl) (h2:0≤e.2∧e.2<pl):MOk pl (mk1 ms e)∧∀ x,Z (mk1 ms e) x↔Z ms x∨((x=e.1∨x=e.2)∧(Z ms e.1∨Z ms e.2)):=by
 obtain ⟨a,b⟩:=e
 dsimp only at h1 h2 ⊢
 have la:a.toNat<ms.length:=by have:=h.len; omega
 have lb:b.toNat<ms.length:=by have:=h.len; omega
 have ga:ms[a.toNat]?=some ms[a.toNat]:=qA5 la
 have gb:ms[b.toNat]?=some ms[b.toNat]:=qA5 lb
 have pa:=h.pos _ _ ga
 have pb:=h.pos _ _ gb
 have da:ms.getD a.toNat 0=ms[a.toNat]:=by simp [qM1,ga]
 have db:ms.getD b.toNat 0=ms[b.toNat]:=by simp [qM1,gb]
 unfold mk1
 dsimp only
 rw [da,db]
 generalize hA:ms[a.toNat]=A at *
 generalize hB:ms[b.toNat]=B at *
 generalize hl:(if B<A then B else A)=l
 have l0:0≤l:=by
  rw [← hl]
  split
  ·exact pb
  ·exact pa
 have lz:l=0↔A=0∨B=0:=by
  rw [← hl]
  split
  ·rename_i q
   exact ⟨.inr,fun z=>z.elim (fun z=>absurd (z▸q:B<0) (Int.not_lt.mpr pb)) id⟩
  ·rename_i q
   exact ⟨.inl,fun z=>z.elim id fun z=>qT9 (z▸Int.not_lt.mp q:A≤0) pa⟩
 have get:∀ i:Nat,((ms.set a.toNat l).set b.toNat l)[i]?=if i=b.toNat∨i=a.toNat then some l else ms[i]?:=by
  intro i
  by_cases hb:i=b.toNat
  ·subst hb
   rw [qD9 (by simpa using lb),if_pos (.inl rfl)]
  ·rw [qE1 (fun z=>hb z.symm)]
   by_cases ha:i=a.toNat
   ·subst ha
    rw [qD9 la,if_pos (.inr rfl)]
   ·rw [qE1 (fun z=>ha z.symm),if_neg (by omega)]
 refine ⟨⟨by simpa using h.len,fun i x hx=>?_⟩,fun x=>?_⟩
 ·rw [get] at hx
  split at hx
  ·cases hx; exact l0
  ·exact h.pos i x hx
 ·unfold Z
  rw [get,ga,gb]
  simp only [Option.some.injEq]
  constructor
  ·rintro ⟨x0,hx⟩
   split at hx
   ·rename_i hi
    cases hx
    have:=lz.mp rfl
    refine .inr ⟨by omega,?_⟩
    rcases this with z | z
    ·exact .inl ⟨h1.1,z⟩
    ·exact .inr ⟨h2.1,z⟩
   ·exact .inl ⟨x0,hx⟩
  ·rintro (⟨x0,hx⟩ | ⟨hx,hz⟩)
   ·refine ⟨x0,?_⟩
    split
    ·rename_i hi
     rcases hi with hi | hi
     ·rw [hi,gb] at hx; rw [lz.mpr (.inr (Option.some.inj hx))]
     ·rw [hi,ga] at hx; rw [lz.mpr (.inl (Option.some.inj hx))]
    ·exact hx
   ·refine ⟨by omega,?_⟩
    rw [if_pos (by omega)]
    congr 1
    rcases hz with ⟨_,z⟩ | ⟨_,z⟩
    ·exact lz.mpr (.inl z)
    ·exact lz.mpr (.inr z)
theorem zGr {pl:Int}:∀ (es:List (Int × Int)) {ms:yA},MOk pl ms→(∀ e∈es,(0≤e.1∧e.1<pl)∧0≤e.2∧e.2<pl)→MOk pl (es.foldl mk1 ms)∧(∀ x,Z ms x→Z (es.foldl mk1 ms) x) ∧
  ((∀ x,Z (es.foldl mk1 ms) x→Z ms x)→∀ e∈es,(Z ms e.1↔Z ms e.2))∧((∀ e∈es,(Z ms e.1↔Z ms e.2))→∀ x,Z (es.foldl mk1 ms) x→Z ms x) ∧
  (∀ C:Int→Prop,(∀ e∈es,(C e.1↔C e.2))→(∀ x,Z ms x→C x)→∀ x,Z (es.foldl mk1 ms) x→C x)
 | [],ms,h,hb=>⟨h,fun x z=>z,fun _ e he=>by simp at he,fun _ x z=>z,fun C _ hc x z=>hc x z⟩
 | e::es,ms,h,hb=>by
  obtain ⟨h1,z1⟩:=zTI h (hb e (by simp)).1 (hb e (by simp)).2
  obtain ⟨g1,g2,g3,g4,g5⟩:=zGr es h1 fun e' he=>hb e' (by simp [he])
  rw [qT7]
  refine ⟨g1,fun x z=>g2 x ((z1 x).mpr (.inl z)),fun hs e' he=>?_,fun hc x z=>?_,fun C cc hC x z=>?_⟩
  ·have hs1:∀ x,Z (mk1 ms e) x→Z ms x:=fun x z=>hs x (g2 x z)
   have same:∀ x,Z (mk1 ms e) x↔Z ms x:=fun x=>⟨hs1 x,fun z=>(z1 x).mpr (.inl z)⟩
   rcases qB6.mp he with q | q
   ·subst q
    exact ⟨fun z=>hs1 _ ((z1 _).mpr (.inr ⟨.inr rfl,.inl z⟩)),fun z=>hs1 _ ((z1 _).mpr (.inr ⟨.inl rfl,.inr z⟩))⟩
   ·have:=g3 (fun x z=>(same x).mpr (hs x z)) e' q
    rw [same,same] at this
    exact this
  ·have he:=hc e (by simp)
   have same:∀ x,Z (mk1 ms e) x↔Z ms x:=fun x=>by
    rw [z1]
    constructor
    ·rintro (z | ⟨z,w⟩)
     ·exact z
     ·rcases z with z | z
      ·subst z; rcases w with w | w; exact w; exact he.mpr w
      ·subst z; rcases w with w | w; exact he.mp w; exact w
    ·exact .inl
   have:=g4 (fun e' he'=>by rw [same,same]; exact hc e' (by simp [he'])) x z
   exact (same x).mp this
  ·refine g5 C (fun e' he'=>cc e' (by simp [he'])) (fun x z=>?_) x z
   rcases (z1 x).mp z with z | ⟨z,w⟩
   ·exact hC x z
   ·have he:=cc e (by simp)
    rcases z with z | z
    ·subst z; rcases w with w | w; exact hC _ w; exact he.mpr (hC _ w)
    ·subst z; rcases w with w | w; exact he.mp (hC _ w); exact hC _ w
noncomputable def zAJ (es:List (Int × Int)):Nat→yA→yA
 | 0,ms=>ms
 | n+1,ms=>zAJ es n (es.foldl mk1 ms)
noncomputable def zEC (pl:Nat) (ms:yA):Nat:=((List.range pl).filter fun i=>decide (ms[i]?=some 0)).length
theorem zNU (pl:Nat) (ms:yA):zEC pl ms≤pl:=by
 unfold zEC
 have:=qD7 (fun i=>decide (ms[i]?=some 0)) (List.range pl)
 simpa using this
theorem zNT {pl:Nat}{ms ns:yA} (h:∀ x,Z ms x→Z ns x) {x:Int} (hx:Z ns x) (hn:¬ Z ms x) (hl:x<pl):zEC pl ms<zEC pl ns:=by
 unfold zEC
 refine zIb (a:=x.toNat) (fun i hi=>?_) ?_ ?_ ?_
 ·have:Z ms i:=⟨by omega,by simpa using hi⟩
  have:=(h i this).2
  simpa using this
 ·rw [qG3]; have:=hx.1; omega
 ·simpa using hx.2
 ·simp only [decide_eq_false_iff_not]
  exact fun z=>hn ⟨hx.1,z⟩
theorem zEK {pl:Nat}{es:List (Int × Int)} (hb:∀ e∈es,(0≤e.1∧e.1<pl)∧0≤e.2∧e.2<pl):∀ (n:Nat) {ms:yA},MOk pl ms→MOk pl (zAJ es n ms)∧(∀ x,Z ms x→Z (zAJ es n ms) x) ∧
  ((∀ e∈es,(Z (zAJ es n ms) e.1↔Z (zAJ es n ms) e.2))∨zEC pl ms+n≤zEC pl (zAJ es n ms)) ∧
  (∀ C:Int→Prop,(∀ e∈es,(C e.1↔C e.2))→(∀ x,Z ms x→C x)→∀ x,Z (zAJ es n ms) x→C x) ∧
  ((∀ e∈es,(Z ms e.1↔Z ms e.2))→∀ x,Z (zAJ es n ms) x→Z ms x)
 | 0,ms,h=>⟨h,fun x z=>z,.inr (qA9 _),fun C _ hC x z=>hC x z,fun _ x z=>z⟩
 | n+1,ms,h=>by
  obtain ⟨h1,a2,a3,a4,a5⟩:=zGr es h hb
  obtain ⟨g1,g2,g3,g4,g5⟩:=zEK hb n h1
  show MOk pl (zAJ es n (es.foldl mk1 ms))∧_
  refine ⟨g1,fun x z=>g2 x (a2 x z),?_,fun C cc hC x z=>g4 C cc (a5 C cc hC) x z,fun hc x z=>?_⟩
  ·rcases g3 with g3 | g3
   ·exact .inl g3
   ·by_cases hs:∀ x,Z (es.foldl mk1 ms) x→Z ms x
    ·have c0:=a3 hs
     have same:∀ x,Z (es.foldl mk1 ms) x↔Z ms x:=fun x=>⟨hs x,a2 x⟩
     have c1:∀ e∈es,(Z (es.foldl mk1 ms) e.1↔Z (es.foldl mk1 ms) e.2):=fun e he=>by rw [same,same]; exact c0 e he
     have back:=g5 c1
     have same2:∀ x,Z (zAJ es n (es.foldl mk1 ms)) x↔Z (es.foldl mk1 ms) x:=fun x=>⟨back x,g2 x⟩
     exact .inl fun e he=>by
      show Z (zAJ es n (es.foldl mk1 ms)) e.1↔Z (zAJ es n (es.foldl mk1 ms)) e.2
      rw [same2,same2]; exact c1 e he
    ·refine .inr ?_
     have:∃ x,Z (es.foldl mk1 ms) x∧¬ Z ms x:=Classical.byContradiction fun hn=>hs fun x z=>Classical.byContradiction fun hx=>hn ⟨x,z,hx⟩
     obtain ⟨x,zx,nx⟩:=this
     have xl:x<pl:=by
      have:=(qA4.mp zx.2).1
      have hl:=h1.len
      have:=zx.1
      omega
     have:=zNT (pl:=pl) a2 zx nx xl
     show zEC pl ms+(n+1)≤zEC pl (zAJ es n (es.foldl mk1 ms))
     omega
  ·have c1:∀ e∈es,(Z (es.foldl mk1 ms) e.1↔Z (es.foldl mk1 ms) e.2):=by
    have same:∀ x,Z (es.foldl mk1 ms) x↔Z ms x:=fun x=>⟨a4 hc x,a2 x⟩
    intro e he
    rw [same,same]; exact hc e he
   exact a4 hc x (g5 c1 x z)
theorem zOL {pl:Nat}{es:List (Int × Int)} (hp:0<pl) (hb:∀ e∈es,(0≤e.1∧e.1<pl)∧0≤e.2∧e.2<pl):MOk pl (zAJ es pl ((List.range pl).map fun (k:Nat)=>(k:Int)))∧zFy es 0 (Z (zAJ es pl ((List.range pl).map fun (k:Nat)=>(k:Int)))):=by
 have m0:MOk pl ((List.range pl).map fun (k:Nat)=>(k:Int)):=⟨by simp,fun i x hx=>by
  rw [qB7] at hx
  obtain ⟨k,_,rfl⟩:=qA1.mp hx
  omega⟩
 have z0:Z ((List.range pl).map fun (k:Nat)=>(k:Int)) 0:=⟨by omega,by
  show ((List.range pl).map fun (k:Nat)=>(k:Int))[0]?=some 0
  rw [qB7,qJ0 hp]; rfl⟩
 have zz:∀ x,Z ((List.range pl).map fun (k:Nat)=>(k:Int)) x→x=0:=fun x hx=>by
  obtain ⟨x0,q⟩:=hx
  rw [qB7] at q
  obtain ⟨k,hk,e⟩:=qA1.mp q
  have:=qA4.mp hk
  obtain ⟨h1,h2⟩:=this
  simp at h2
  omega
 obtain ⟨g1,g2,g3,g4,g5⟩:=zEK hb pl m0
 refine ⟨g1,g2 0 z0,?_,fun C c0 cc x z=>g4 C cc (fun y hy=>by rw [zz y hy]; exact c0) x z⟩
 rcases g3 with g3 | g3
 ·exact g3
 ·exfalso
  have h1:=zNU pl (zAJ es pl ((List.range pl).map fun (k:Nat)=>(k:Int)))
  have h2:0<zEC pl ((List.range pl).map fun (k:Nat)=>(k:Int)):=by
   unfold zEC
   rw [List.length_pos_iff]
   intro hn
   have:(0:Nat)∈(List.range pl).filter fun i=>decide (((List.range pl).map fun (k:Nat)=>(k:Int))[i]?=some 0):=by
    rw [qD5]
    exact ⟨by simpa using hp,by simpa using z0.2⟩
   rw [hn] at this
   cases this
  omega
end Mt
namespace My
open PySem L2 Mt
variable {cl:Nat→CLL}
theorem zHb {l:yA}{k:Int} (h0:0≤k) (h1:k<l.length):atI (l.map D.int) k=some (.int (l.getD k.toNat 0)):=by
 have e:l[k.toNat]?=some (l.getD k.toNat 0):=by rw [qM1,qA5 (by omega)]; rfl
 have q:=zC1 (xs:=l.map D.int) (j:=k.toNat) (v:=.int (l.getD k.toNat 0)) (by rw [qB7,e]; rfl)
 rw [show ((k.toNat:Nat):Int)=k by omega] at q
 exact q
noncomputable def zBB {α:Type} (l:List α):List (Nat × α):=(List.range l.length).zip l
theorem zBX {α:Type} (e:α→D) (l:List α):zBw (l.map e)=(zBB l).map fun q=>.tup [.int (q.1:Nat),e q.2]:=by
 unfold zBw zBB
 rw [qA6,List.zip_map_right,qE2]
 rfl
theorem zFg {α:Type}{l:List α}{q:Nat × α} (h:q∈zBB l):l[q.1]?=some q.2:=by
 unfold zBB at h
 obtain ⟨i,hi⟩:=qM7 h
 rw [qF7] at hi
 obtain ⟨h1,h2⟩:=hi
 have:=qA4.mp h1
 obtain ⟨h3,h4⟩:=this
 simp at h4
 rw [← h4]; exact h2
theorem zN9 {α:Type} (l:List α):(zBB l).map (·.2)=l:=by
 unfold zBB
 exact qO9 (by simp)
noncomputable def zFD (l:List Nat):yM:=l.map fun (k:Nat)=>D.int (k:Nat)
theorem zMF:(1000:Nat)<lim:=by decide
theorem zCv {α:Type} (l:List α):(zBB l).length=l.length:=by unfold zBB; simp
noncomputable def ends (cs:yN):List (Int × Int):=cs.map fun c=>(c.a,c.b)
noncomputable def cntF (B:Nat) (fs:yA):Nat:=((List.range B).filter fun (v:Nat)=>decide ((v:Int)∈fs)).length
theorem zJG (B:Nat) (fs:yA):cntF B fs≤B:=by
 unfold cntF
 have:=qD7 (fun (v:Nat)=>decide ((v:Int)∈fs)) (List.range B)
 simpa using this
theorem zNo {B:Nat}{fs gs:yA} (h:∀ x,x∈fs→x∈gs) {x:Int} (hx:x∈gs) (hn:x∉fs) (h0:0≤x) (hB:x<B):cntF B fs<cntF B gs:=by
 unfold cntF
 refine zIb (a:=x.toNat) (fun v hv=>?_) ?_ ?_ ?_
 ·simp only [decide_eq_true_eq] at hv ⊢; exact h _ hv
 ·rw [qG3]; omega
 ·simp only [decide_eq_true_eq]; rw [show ((x.toNat:Nat):Int)=x by omega]; exact hx
 ·simp only [decide_eq_false_iff_not]; rw [show ((x.toNat:Nat):Int)=x by omega]; exact hn
theorem zHc (fs:yA) (a:Int):(addK fs a).length≤fs.length+1:=by unfold addK; split <;> simp
noncomputable def pE (s:Int) (k l:Nat) (g:Bool) (v:Option D):Env1:=[some (.int s),some (.lst k),some (.dct l),some (.bl g),v]
def Clo (cs:yN) (s:Int) (fs:yA):Prop:=∀ C:Int→Prop,C s→(∀ e∈ends cs,(C e.1↔C e.2))→∀ x∈fs,C x
inductive PlW (cs:yN) (s:Int) (k:Nat) (S:zA0) (m:Nat) (ρ:Env1) (S':zA0):Prop
 | mk (fs:yA) (g:Bool) (v4:Option D) (e:ρ=pE s k S.length g v4) (kp:Kp (·=S.length) (S++[.dk (dkOf [s])]) S') (hf:S'[S.length]?=some (.dk (dkOf fs))) (r1:s∈fs) (r2:Clo cs s fs) (r3:g=false→∀ e∈ends cs,(e.1∈fs↔e.2∈fs)) (r4:g=true→m+cntF 7 fs=9) (r5:fs.length+200*m≤2000) (nd:fs.Nodup)
inductive PlQ (cs:yN) (s:Int) (k:Nat) (S:zA0) (ρ:Env1) (S':zA0):Prop
 | mk (fs:yA) (v4:Option D) (e:ρ=pE s k S.length false v4) (kp:Kp (·=S.length) (S++[.dk (dkOf [s])]) S') (hf:S'[S.length]?=some (.dk (dkOf fs))) (r1:s∈fs) (r2:Clo cs s fs) (r3:∀ e∈ends cs,(e.1∈fs↔e.2∈fs)) (nd:fs.Nodup)
inductive PlL (cs:yN) (s:Int) (k:Nat) (S:zA0) (fs:yA) (j:Nat) (ρ:Env1) (S2:zA0):Prop
 | mk (fs2:yA) (g2:Bool) (v4:Option D) (e:ρ=pE s k S.length g2 v4) (kp:Kp (·=S.length) (S++[.dk (dkOf [s])]) S2) (hf:S2[S.length]?=some (.dk (dkOf fs2))) (q1:∀ x∈fs,x∈fs2) (q2:Clo cs s fs2)
  (q3:g2=false→fs2=fs∧∀ i c,i<j→cs[i]?=some c→(c.a∈fs↔c.b∈fs)) (q4:g2=true→cntF 7 fs<cntF 7 fs2) (q5:fs2.length≤fs.length+2*j) (nd:fs2.Nodup)
theorem zNJ {fs:yA} (h:fs.Nodup) (a:Int):(addK fs a).Nodup:=by
 unfold addK
 split
 ·exact h
 ·rename_i ha
  exact qG7.mpr ⟨h,by simp,fun x hx y hy e=>ha (by rw [qA8] at hy; subst hy; subst e; exact hx)⟩
theorem zMg (h:zAQ cl) (n:Nat) (cs:yN) (s:Int) (hs:0≤s∧s<7) (hc:cs.length≤100) (hb:∀ c∈cs,(0≤c.a∧c.a<7)∧0≤c.b∧c.b<7) {S:zA0}{k:Nat} (hk:zA4 S k=some (cs.map Ct.d)) :
  ∃ m S1 fs,cl (n+1) "places_from" [.int s,.lst k] S=.ok (.dct m) S1∧Ex S S1∧S1[m]?=some (.dk (dkOf fs))∧zFy (ends cs) s (·∈fs)∧fs.Nodup:=by
 have km:k≠S.length:=by have:=zDm hk; omega
 obtain ⟨ρ',S',e,fs,v4,rfl,kp,hfs,r1,r2,r3,nd⟩:=zGj (t:=cTru (cVar 3)) (b:=zBl (cl n)) (PlW cs s k S) (PlQ cs s k S)
  (fun m ρ S' hp=>by
   obtain ⟨fs,g,v4,rfl,kp,hfs,r1,r2,r3,r4,r5,nd⟩:=hp
   cases g with
   | false=>exact .inl ⟨S',by simp [pE],⟨fs,v4,rfl,kp,hfs,r1,r2,r3 rfl,nd⟩⟩
   | true =>
    refine .inr ⟨S',by simp [pE],?_⟩
    have hl:zA4 S' k=some (cs.map Ct.d):=kp.lst (zAg hk) km
    obtain ⟨ρ2,S2,e2,fs2,g2,v4',rfl,kp2,hfs2,q1,q2,q3,q4,q5,nd2⟩:=zB2 (w:=[(k,cs.map Ct.d)]) (g:=gN 4) (b:=zBk (cl n)) (items:=cs.map Ct.d)
     (PlL cs s k S fs) (ρ:=pE s k S.length false v4) (S:=S')
     (fun j ρ S2 hp=>by
      obtain ⟨_,_,_,_,kp⟩:=hp
      exact zD0 (kp.lst (zAg hk) km))
     ⟨fs,false,v4,rfl,kp,hfs,fun x hx=>hx,r2,fun _=>⟨rfl,fun i c hi=>by omega⟩,(fun z=>by cases z),by omega,nd⟩
     (fun j d ρ S2 hd hp=>by
      obtain ⟨fs2,g2,v4,rfl,kp2,hf2,q1,q2,q3,q4,q5,nd2⟩:=hp
      rw [qB7] at hd
      obtain ⟨c,hcj,rfl⟩:=qA1.mp hd
      have hm:c∈cs:=qC0 hcj
      have hj:j<cs.length:=(qA4.mp hcj).1
      obtain ⟨ba,bb⟩:=hb c hm
      have he:(c.a,c.b)∈ends cs:=qC9.mpr ⟨c,hm,rfl⟩
      refine ⟨_,_,rfl,?_⟩
      have i1:=zMx hf2 false c.a
      have i2:=zMx hf2 false c.b
      have hlim:fs2.length+2<lim:=by have:=zMF; rw [zAc]; omega
      by_cases hne:(c.a∈fs2↔c.b∈fs2)
      ·refine ⟨_,S2,.inl ?_,⟨fs2,g2,some c.d,rfl,kp2,hf2,q1,q2,fun hg=>⟨(q3 hg).1,fun i c' hi hc'=>?_⟩,q4,by omega,nd2⟩⟩
       ·have:(decide (c.a∈fs2) != decide (c.b∈fs2))=false:=by simp [hne]
        simp [pE,zBk,Ct.d,i1,i2,this]
       ·by_cases hij:i=j
        ·subst hij; rw [hcj] at hc'; cases hc'
         rw [(q3 hg).1] at hne; exact hne
        ·exact (q3 hg).2 i c' (by omega) hc'
      ·have s1:=zMu hf2 (by omega) c.a
       have f3:(S2.set S.length (.dk (dkOf (addK fs2 c.a))))[S.length]?=some (.dk (dkOf (addK fs2 c.a))):=qD9 (qA4.mp hf2).1
       have s2:=zMu f3 (by have:=zHc fs2 c.a; omega) c.b
       have f4:((S2.set S.length (.dk (dkOf (addK fs2 c.a)))).set S.length (.dk (dkOf (addK (addK fs2 c.a) c.b))))[S.length]?=some (.dk (dkOf (addK (addK fs2 c.a) c.b))):=qD9 (qA4.mp f3).1
       have mem:∀ x,x∈addK (addK fs2 c.a) c.b↔x∈fs2∨x=c.a∨x=c.b:=fun x=>by rw [zKk,zKk,or_assoc]
       refine ⟨_,_,.inl ?_,⟨addK (addK fs2 c.a) c.b,true,some c.d,rfl,(kp2.trans (zCP _ _)).trans (zCP _ _),f4,fun x hx=>(mem x).mpr (.inl (q1 x hx)),fun C c0 cc x hx=>?_,(fun z=>by cases z),fun _=>?_,by have:=zHc fs2 c.a; have:=zHc (addK fs2 c.a) c.b; omega,zNJ (zNJ nd2 _) _⟩⟩
       ·have:(decide (c.a∈fs2) != decide (c.b∈fs2))=true:=by
         by_cases h1:c.a∈fs2 <;> by_cases h2:c.b∈fs2 <;> simp [h1,h2] at hne ⊢
        simp [pE,zBk,Ct.d,i1,i2,this,s1,s2]
       ·have ca:=q2 C c0 cc
        have hcc:=cc _ he
        dsimp only at hcc
        have one:C c.a∧C c.b:=by
         by_cases h1:c.a∈fs2
         ·exact ⟨ca _ h1,hcc.mp (ca _ h1)⟩
         ·by_cases h2:c.b∈fs2
          ·exact ⟨hcc.mpr (ca _ h2),ca _ h2⟩
          ·exact absurd (iff_of_false h1 h2) hne
        rcases (mem x).mp hx with z | z | z
        ·exact ca x z
        ·subst z; exact one.1
        ·subst z; exact one.2
       ·have lt:cntF 7 fs2<cntF 7 (addK (addK fs2 c.a) c.b):=by
         by_cases h1:c.a∈fs2
         ·have h2:c.b∉fs2:=fun z=>hne (iff_of_true h1 z)
          exact zNo (fun x hx=>(mem x).mpr (.inl hx)) ((mem c.b).mpr (.inr (.inr rfl))) h2 bb.1 bb.2
         ·exact zNo (fun x hx=>(mem x).mpr (.inl hx)) ((mem c.a).mpr (.inr (.inl rfl))) h1 ba.1 ba.2
        cases g2 with
        | true=>have:=q4 rfl; omega
        | false=>rw [(q3 rfl).1] at lt ⊢; exact lt)
    have c0:=zJG 7 fs
    have c1:=r4 rfl
    rw [qA6] at q5
    have step:zBl (cl n) (pE s k S.length true v4) S'=.nx (pE s k S.length g2 v4') S2:=by unfold pE at e2 ⊢; simp [zBl,hl,e2]
    cases g2 with
    | true =>
     have c2:=zJG 7 fs2
     have c3:=q4 rfl
     exact ⟨_,S2,.inl step,9 - cntF 7 fs2,by omega,⟨fs2,true,v4',rfl,kp2,hfs2,q1 s r1,q2,(fun z=>by cases z),fun _=>by omega,by omega,nd2⟩⟩
    | false =>
     refine ⟨_,S2,.inl step,0,by omega,⟨fs2,false,v4',rfl,kp2,hfs2,q1 s r1,q2,fun hg e he=>?_,(fun z=>by cases z),by omega,nd2⟩⟩
     obtain ⟨c,hc1,rfl⟩:=qC9.mp he
     obtain ⟨i,hi⟩:=qM7 hc1
     rw [(q3 hg).1]
     exact (q3 hg).2 i c (by rw [qA6]; exact (qA4.mp hi).1) hi)
  zIX (9 - cntF 7 [s]) (pE s k S.length true none) (S++[.dk (dkOf [s])]) (qK7 (Nat.sub_le _ _) (by decide))
   ⟨[s],true,none,rfl,Kp.refl _ _,by rw [qA0 (qA9 _),qI7]; rfl,by simp,fun C c0 _ x hx=>(by simp at hx; subst hx; exact c0),(fun z=>by cases z),fun _=>(by have:=zJG 7 [s]; omega),by simp; omega,by simp⟩
 refine ⟨S.length,S',fs,?_,⟨?_,fun j hj _=>?_⟩,hfs,⟨r1,r3,fun C c0 cc x hx=>r2 C c0 cc x hx⟩,nd⟩
 ·rw [h]
  refine zA9 rfl ?_
  have e0:(S++[O.dk [((Sum.inl s:Key),D.bl true)]])=S++[O.dk (dkOf [s])]:=rfl
  unfold pE at e
  simp [zBI,zAz,zD7,e0,e]
 ·have:=kp.le; simp at this; omega
 ·rw [kp.eq j (by simp; omega) (by omega),qA7 hj]
theorem zJ7 (h:zAQ cl) (n:Nat) (cs:yN) (s:Int) (hs:0≤s∧s<7) (hc:cs.length≤100) (hb:∀ c∈cs,(0≤c.a∧c.a<7)∧0≤c.b∧c.b<7) {S:zA0}{k:Nat} (hk:zA4 S k=some (cs.map Ct.d)) :
  ∃ m S1 fs,cl (n+1) "places_from" [.int s,.lst k] S=.ok (.dct m) S1∧Ex S S1∧S1[m]?=some (.dk (dkOf fs))∧zFy (ends cs) s (·∈fs):=by
 obtain ⟨m,S1,fs,a,b,c,d,_⟩:=zMg h n cs s hs hc hb hk
 exact ⟨m,S1,fs,a,b,c,d⟩
noncomputable def jB (es:List (Int × Int)):Bool:=@decide (zKI es) (Classical.propDecidable _)
theorem zMM {es:List (Int × Int)}:jB es=true↔zKI es:=by
 exact @decide_eq_true_iff _ (Classical.propDecidable _)
theorem zRw {es:List (Int × Int)}{b:Bool} (h:b=true↔zKI es):b=jB es:=by
 cases b with
 | true=>exact (zMM.mpr (h.mp rfl)).symm
 | false =>
  cases q:jB es with
  | false=>rfl
  | true=>exact absurd (h.mpr (zMM.mp q)) qB2
def In7 (cs:yN):Prop:=∀ c∈cs,(0≤c.a∧c.a<7)∧0≤c.b∧c.b<7
theorem zG7 (h:zHd cl) (hp:zAQ cl) (n:Nat) (cs:yN) (hc:cs.length≤100) (hb:In7 cs) {S:zA0}{k:Nat} (hk:zA4 S k=some (cs.map Ct.d)):Spc (cl (n+2) "joins" [.lst k] S) ((.bl (jB (ends cs)))) S:=by
 obtain ⟨m,S1,fs,e,x,hf,r⟩:=zJ7 hp n cs 0 (by decide) hc hb hk
 refine ⟨S1,?_,x⟩
 rw [show n+2=(n+1)+1 from rfl,h]
 refine zA9 rfl ?_
 have q:=zMx hf false 1
 have e2:decide ((1:Int)∈fs)=jB (ends cs):=zRw (by rw [decide_eq_true_eq]; exact r.joined)
 simp [zHa,zAz,e,q,e2]
theorem zUT {cs:yN}{i:Nat}{c:Ct} (h:cs[i]?=some c):atI (cs.map Ct.d) (i:Nat)=some c.d:=zC1 (by rw [qB7,h]; rfl)
theorem Net.ok.in7 {ms mp mc:Int}{N:Net} (h:N.ok ms mp mc) (hm:mp≤7):In7 N.cs:=fun c hc=>by
 obtain ⟨h1,h2,h3,_⟩:=h.c2 c hc
 have:=h.p2
 omega
@[simp] theorem zVq (w x y z:D):cutD [w,x,y,z] none (some 2)=[w,x]:=rfl
theorem zPK {n:Nat}{k:Int} (h0:0≤k) (h1:k<n):ixN n k=some k.toNat:=by unfold ixN; rw [if_pos h0,if_pos h1]
theorem zEJ (es:List (Int × Int)):∀ (n:Nat) (ms:yA),zAJ es (n+1) ms=es.foldl mk1 (zAJ es n ms)
 | 0,ms=>rfl
 | n+1,ms=>zEJ es n (es.foldl mk1 ms)
noncomputable def esOf (cs:yN) (l:List Nat):List (Int × Int):=l.map fun i=>((cs.getD i ⟨0,0,0,0⟩).a,(cs.getD i ⟨0,0,0,0⟩).b)
def SeqD (S:zA0) (x:D) (l:yM):Prop:=x=.tup l∨∃ k,x=.lst k∧zA4 S k=some l
inductive MkO (nd x:D) (k:Nat) (S0:zA0) (ms:yA) (ρ:Env1) (S':zA0):Prop
 | mk (v3 v4 v5 v6 v7:Option D) (e:ρ=[some nd,some x,some (.lst k),v3,v4,v5,v6,v7]) (kp:Kp (·=k) S0 S') (hm:zA4 S' k=some (ms.map D.int))
inductive MkI (nd x d:D) (k:Nat) (S0:zA0) (ms:yA) (ρ:Env1) (S':zA0):Prop
 | mk (v4 v5 v6 v7:Option D) (e:ρ=[some nd,some x,some (.lst k),some d,v4,v5,v6,v7]) (kp:Kp (·=k) S0 S') (hm:zA4 S' k=some (ms.map D.int))
theorem zFI (h:zDi cl) (n:Nat) {ms mp mc:Int}{N:Net} (ok:N.ok ms mp mc) (hm:mp≤7) (l:List Nat) (hl:∀ i∈l,i<N.cs.length) {S:zA0}{x:D} (hx:SeqD S x (zFD l)) :
  ∃ m S1,cl (n+1) "_law_marks" [N.d,x] S=.ok (.lst m) S1∧Ex S S1∧S.length≤m∧zA4 S1 m=some ((zAJ (esOf N.cs l) N.pl.toNat ((List.range N.pl.toNat).map fun (k:Nat)=>(k:Int))).map D.int):=by
 have p1:=ok.p1
 have p2:=ok.p2
 have hw:∃ w,∀ S',Ex S S'∨Kp (·=S.length) (S++[.lst (upD 0 N.pl.toNat)]) S'→(∀ ρ:Env1,ρ[1]?=some (some x)→iSeq (cVar 1) ρ S'=.ok (zFD l,w) S')∧okW w S':=by
  rcases hx with rfl | ⟨k,rfl,hk⟩
  ·exact ⟨[],fun S' _=>⟨fun ρ hρ=>by simp [hρ],zAf _⟩⟩
  ·refine ⟨[(k,zFD l)],fun S' hS=>?_⟩
   have:zA4 S' k=some (zFD l):=by
    rcases hS with q | q
    ·exact q.lst hk (fun z=>z)
    ·exact q.lst (zAg hk) (by have:=zDm hk; omega)
   exact ⟨fun ρ hρ=>by simp [hρ,this],zD0 this⟩
 obtain ⟨w,hw⟩:=hw
 have esb:∀ e∈esOf N.cs l,(0≤e.1∧e.1<(N.pl.toNat:Int))∧0≤e.2∧e.2<(N.pl.toNat:Int):=fun e he=>by
  obtain ⟨i,hi,rfl⟩:=qC9.mp he
  have hlt:=hl i hi
  obtain ⟨a1,a2,a3,_⟩:=ok.c2 _ (qD8 hlt)
  have eg:N.cs.getD i ⟨0,0,0,0⟩=N.cs[i]:=by simp [qM1,hlt]
  rw [eg]
  dsimp only
  omega
 let ms0:yA:=(List.range N.pl.toNat).map fun (k:Nat)=>(k:Int)
 have m0:MOk N.pl.toNat ms0:=⟨by simp [ms0],fun i x hx=>by
  rw [qB7] at hx
  obtain ⟨k,_,rfl⟩:=qA1.mp hx
  omega⟩
 have u0:upD 0 N.pl.toNat=ms0.map D.int:=by simp [upD,ms0,qE2]
 obtain ⟨ρ',S1,e1,v3,v4,v5,v6,v7,rfl,kp,hm1⟩:=zB2 (w:=[]) (g:=gN 3) (b:=zD6 (cl n)) (items:=upD 0 N.pl.toNat)
  (fun j=>MkO N.d x S.length (S++[.lst (upD 0 N.pl.toNat)]) (zAJ (esOf N.cs l) j ms0))
  (ρ:=[some N.d,some x,some (.lst S.length),none,none,none,none,none]) (S:=S++[.lst (upD 0 N.pl.toNat)])
  (fun j ρ S' hp=>zAf _) ⟨none,none,none,none,none,rfl,Kp.refl _ _,by rw [zA2,u0]; rfl⟩
  (fun j d ρ S' hd hp=>by
   obtain ⟨v3,v4,v5,v6,v7,rfl,kp,hm⟩:=hp
   obtain ⟨ix,okw⟩:=hw S' (.inr kp)
   have okj:=(zEK esb j m0).1
   generalize hmj:zAJ (esOf N.cs l) j ms0=mj at hm okj
   obtain ⟨ρ2,S2,e2,v4',v5',v6',v7',rfl,kp2,hm2⟩:=zB2 (w:=w) (g:=gN 4) (b:=zD5 (cl n)) (items:=zFD l)
    (fun i=>MkI N.d x d S.length (S++[.lst (upD 0 N.pl.toNat)]) ((esOf N.cs (l.take i)).foldl mk1 mj))
    (ρ:=[some N.d,some x,some (.lst S.length),some d,v4,v5,v6,v7]) (S:=S')
    (fun i ρ S2 hp=>by obtain ⟨_,_,_,_,_,kp,_⟩:=hp; exact (hw S2 (.inr kp)).2)
    ⟨v4,v5,v6,v7,rfl,kp,by simpa [esOf] using hm⟩
    (fun i d' ρ S2 hd' hp=>by
     obtain ⟨v4,v5,v6,v7,rfl,kp2,hm2⟩:=hp
     unfold zFD at hd'
     rw [qB7] at hd'
     obtain ⟨q,hq,rfl⟩:=qA1.mp hd'
     have hlt:=hl q (qC0 hq)
     obtain ⟨a1,a2,a3,_⟩:=ok.c2 _ (qD8 hlt)
     have eg:N.cs.getD q ⟨0,0,0,0⟩=N.cs[q]:=by simp [qM1,hlt]
     have okm:=(zGr (esOf N.cs (l.take i)) okj (fun e he=>esb e (by
      obtain ⟨z,hz,rfl⟩:=qC9.mp he
      exact qC9.mpr ⟨z,qE6 hz,rfl⟩))).1
     have ht:l.take (i+1)=l.take i++[q]:=by rw [qO3,hq]; rfl
     generalize hmm:(esOf N.cs (l.take i)).foldl mk1 mj=mm at hm2 okm
     have hcs:N.cs[q]?=some N.cs[q]:=qA5 hlt
     generalize hcc:N.cs[q]=c at *
     have lm:(mm.length:Int)=N.pl:=by have:=okm.len; omega
     have g1:=zD1 hm2 c.a
     have g2:=zD1 hm2 c.b
     rw [zHb a1 (by omega)] at g1
     rw [zHb (by omega) (by omega)] at g2
     generalize hA:mm.getD c.a.toNat 0=A at g1
     generalize hB:mm.getD c.b.toNat 0=B at g2
     have em:mk1 mm (c.a,c.b)=(mm.set c.a.toNat (if B<A then B else A)).set c.b.toNat (if B<A then B else A):=by unfold mk1; dsimp only; rw [hA,hB]
     generalize hL:(if B<A then B else A)=L at em
     have s1:=zEw hm2 c.a (.int L)
     rw [qA6,zPK a1 (by omega)] at s1
     dsimp only at s1
     rw [← List.map_set] at s1
     have hm3:=zAN (ys:=(mm.set c.a.toNat L).map D.int) hm2
     have s2:=zEw hm3 c.b (.int L)
     rw [qA6,qN0,zPK (by omega) (by omega)] at s2
     dsimp only at s2
     rw [← List.map_set,← em] at s2
     generalize hSa:S2.set S.length (.lst ((mm.set c.a.toNat L).map D.int))=Sa at s1 s2 hm3
     generalize hSb:Sa.set S.length (.lst ((mk1 mm (c.a,c.b)).map D.int))=Sb at s2
     refine ⟨_,_,rfl,_,Sb,.inl ?_,⟨some (.int (q:Nat)),some (.int c.a),some (.int c.b),some (.int L),rfl,?_,?_⟩⟩
     ·simp [zD5,Net.d,zUT hcs,Ct.d,g1,g2,hL,s1,s2]
     ·rw [← hSb,← hSa]; exact (kp2.trans (zCP _ _)).trans (zCP _ _)
     ·rw [← hSb,zAN hm3,ht]
      congr 2
      unfold esOf
      rw [qE8,List.foldl_append]
      show _=mk1 _ ((N.cs.getD q ⟨0,0,0,0⟩).a,(N.cs.getD q ⟨0,0,0,0⟩).b)
      rw [eg,← hmm]
      rfl)
   refine ⟨_,_,rfl,_,S2,.inl ?_,⟨some d,v4',v5',v6',v7',rfl,kp2,?_⟩⟩
   ·simp only [List.set_cons_succ,List.set_cons_zero]
    have ix':=ix [some N.d,some x,some (.lst S.length),some d,v4,v5,v6,v7] rfl
    simp only [zD6,zJ4,zMb]
    rw [ix']
    simp [e2]
   ·rw [hm2,zEJ,hmj,show (zFD l).length=l.length by unfold zFD; simp,qK3])
 rw [zGk] at hm1
 refine ⟨S.length,S1,?_,⟨by have:=kp.le; simp at this; omega,fun j hj _=>by rw [kp.eq j (by simp; omega) (by omega),qA7 hj]⟩,qA9 _,hm1⟩
 rw [h]
 refine zA9 rfl ?_
 have f1:zDb [.int N.pl] S=.ok (.lst S.length) (S++[.lst (upD 0 N.pl.toNat)]):=by
  unfold zDb
  dsimp only
  rw [if_pos (by omega)]
 have f2:-4611686018427387904≤N.pl∧N.pl<4611686018427387904:=by omega
 have e1':=e1
 unfold Net.d at e1'
 simp [zCJ,zAz,Net.d,f1,f2,e1']
theorem zP4 (a:Int) (l:yA):inV (.int a) (l.map V.int)=decide (a∈l):=by
 unfold inV
 induction l with
 | nil=>rfl
 | cons x r ih =>
  rw [qB9,qH4,ih]
  by_cases h:x=a
  ·subst h; simp [eqV]
  ·have h2:¬ a=x:=fun z=>h z.symm
   simp [eqV,h,h2]
theorem zLc (l:yA):(l.map D.int).mapM flat=some (l.map V.int):=by
 induction l with
 | nil=>rfl
 | cons x r ih=>rw [qB9,qF8,ih]; rfl
theorem zCC (neg:Bool) (a:Int) (l:yA) (S:zA0):oIn neg (.int a) (.tup (l.map D.int)) S=.ok (.bl (if neg then !decide (a∈l) else decide (a∈l))) S:=by
 show (match (l.map D.int).mapM flat with | some vs=>R.ok (D.bl (if neg then !inV (.int a) vs else inV (.int a) vs)) S | none=>.bad)=_
 rw [zLc]
 dsimp only
 rw [zP4]
@[simp] theorem zSb (w x y z:D):cutD [w,x,y,z] none (some 3)=[w,x,y]:=rfl
theorem zS0 {α:Type}{xs:List α}{r:Int} (h0:0≤r) (h1:r<xs.length):∃ d,atI xs r=some d∧d∈xs:=by
 have hl:r.toNat<xs.length:=by omega
 refine ⟨xs[r.toNat],?_,qD8 hl⟩
 have:=zC1 (xs:=xs) (j:=r.toNat) (v:=xs[r.toNat]) (qA5 hl)
 rw [show ((r.toNat:Nat):Int)=r by omega] at this
 exact this
theorem zGS {α:Type} (e:α→D) {w:zDe}{t:Tgt}{tc:CT}{c:C}{ρ0:Env1} (P:zA0→Prop) (Q:D→Prop) (hw:∀ S,P S→okW w S):∀ (l:List α) {S:zA0},P S →
  (∀ a∈l,∀ S,P S→∃ ρ1,zFt t (e a) ρ0=some ρ1∧∃ k S1,tc ρ1 S=.ok k S1∧(k=false→P S1)∧(k=true→∃ y S2,c ρ1 S1=.ok y S2∧P S2∧Q y))→∃ ys S',zAh w t tc c ρ0 (l.map e) S=.ok ys S'∧P S'∧(∀ y∈ys,Q y)∧ys.length≤l.length
 | [],S,h0,hs=>⟨[],S,by rw [qJ5]; unfold zAh; rw [if_pos (hw S h0)],h0,by simp,by simp⟩
 | d::ds,S,h0,hs=>by
  obtain ⟨ρ1,e1,k,S1,e2,hf,ht⟩:=hs d (by simp) S h0
  rw [qB9]
  unfold zAh
  rw [if_pos (hw S h0),e1]
  dsimp only
  rw [zBx,e2,zAA]
  cases hp:k with
  | false =>
   obtain ⟨ys,S',e3,h3,h4,h5⟩:=zGS e P Q hw ds (hf hp) fun d' hd=>hs d' (by simp [hd])
   exact ⟨ys,S',by rw [if_neg qB2,e3],h3,h4,by simp; omega⟩
  | true =>
   obtain ⟨y,S2,e4,h4,q4⟩:=ht hp
   obtain ⟨ys,S',e3,h3,h5,h6⟩:=zGS e P Q hw ds h4 fun d' hd=>hs d' (by simp [hd])
   exact ⟨y::ys,S',by rw [if_pos rfl,zBx,e4,zAA,zBx,e3,zAA]; rfl,h3,fun z hz=>by rcases qB6.mp hz with rfl | hz; exact q4; exact h5 z hz,by simp; omega⟩
structure HD (cl:Nat→CLL):Prop where
 st:zDg cl
 ce:zBp cl
 ta:zAS cl
 en:zCM cl
 ne:zEi cl
theorem Net.ok.up {ms mp mc ms' mp' mc':Int}{N:Net} (h:N.ok ms mp mc) (h1:ms≤ms') (h2:mp≤mp') (h3:mc≤mc'):N.ok ms' mp' mc':=⟨h.s1,qP5 h.s2 h1,h.p1,qP5 h.p2 h2,qP5 h.c1 h3,h.c2⟩
abbrev Net.g (N:Net):Prop:=N.ok 4 7 16
noncomputable def b1 (b:Bool):Int:=if b then 1 else 0
open PySem L2
def kd (S:zA0) (d:D):Prop:=∃ t,zJk S d=some t
noncomputable def isT:D→Bool | .tup _=>true | _=>false
noncomputable def isI:D→Bool | .int _=>true | .bl _=>true | _=>false
noncomputable def isB:D→Bool | .bl _=>true | _=>false
theorem zG6 {S:zA0}{k:Nat} (h:(zA4 S k).isSome):kd S (.lst k):=⟨"list",by show (if (zA4 S k).isSome then some "list" else none)=_; rw [if_pos h]⟩
theorem zMD {S:zA0}{k:Nat} (h:kd S (.lst k)):zJk S (.lst k)=some "list":=by
 obtain ⟨t,h⟩:=h
 have h':(if (zA4 S k).isSome then some "list" else none)=some t:=h
 show (if (zA4 S k).isSome then some "list" else none)=_
 split at h'
 ·rename_i hh; rw [if_pos hh]
 ·cases h'
theorem zNg {S:zA0}{k:Nat} (h:kd S (.dct k)):zJk S (.dct k)=some "dict":=by
 obtain ⟨t,h⟩:=h
 have h':zDc S k=some t:=h
 show zDc S k=_
 unfold zDc at h'
 split at h'
 ·rename_i kvs e
  unfold zDc
  rw [e]
 ·cases h'
theorem zCF {S:zA0}{x:D}{t T:String} (h:zJk S x=some t) (hT:T∈["bool","int","tuple","list","str","dict"]):zAw [x,.ty T] S=.ok (.bl (kOf t T)) S:=by
 unfold zAw
 dsimp only
 rw [h]
 dsimp only
 rw [if_pos hT]
theorem zPO {S:zA0}{x:D} (h:kd S x):zAw [x,.ty "tuple"] S=.ok (.bl (isT x)) S:=by
 cases x with
 | lst k=>rw [zCF (zMD h) (by decide)]; rfl
 | dct k=>rw [zCF (zNg h) (by decide)]; rfl
 | ty k=>obtain ⟨t,h⟩:=h; cases h
 | rol k=>obtain ⟨t,h⟩:=h; cases h
 | _=>rw [zCF rfl (by decide)]; rfl
theorem zPP {S:zA0}{x:D} (h:kd S x):zAw [x,.ty "int"] S=.ok (.bl (isI x)) S:=by
 cases x with
 | lst k=>rw [zCF (zMD h) (by decide)]; rfl
 | dct k=>rw [zCF (zNg h) (by decide)]; rfl
 | ty k=>obtain ⟨t,h⟩:=h; cases h
 | rol k=>obtain ⟨t,h⟩:=h; cases h
 | _=>rw [zCF rfl (by decide)]; rfl
theorem zPQ {S:zA0}{x:D} (h:kd S x):zAw [x,.ty "bool"] S=.ok (.bl (isB x)) S:=by
 cases x with
 | lst k=>rw [zCF (zMD h) (by decide)]; rfl
 | dct k=>rw [zCF (zNg h) (by decide)]; rfl
 | ty k=>obtain ⟨t,h⟩:=h; cases h
 | rol k=>obtain ⟨t,h⟩:=h; cases h
 | _=>rw [zCF rfl (by decide)]; rfl
noncomputable def whD (lo hi:Int):D→Bool
 | .int i=>decide (lo≤i)&&decide (i<hi)
 | _=>false
noncomputable def isW:D→Bool
 | .int _=>true
 | _=>false
theorem zHS (h:zDE cl) (n:Nat) {S:zA0}{x:D} (hk:kd S x):cl (n+1) "is_whole" [x] S=.ok (.bl (isW x)) S:=by
 rw [h]
 refine zA9 rfl ?_
 have e1:=zPP hk
 have e2:=zPQ hk
 have z:isW x=(if isI x=true then !isB x else false):=by cases x <;> rfl
 rw [z]
 cases hb:isI x <;> cases hc:isB x <;> rw [hb] at e1 <;> rw [hc] at e2 <;> simp [zDs,zAz,e1,e2]
theorem zGC (h:zCh cl) (n:Nat) {S:zA0}{x:D} (lo hi:Int) (hk:kd S x):cl (n+1) "_law_whole" [x,.int lo,.int hi] S=.ok (.bl (whD lo hi x)) S:=by
 rw [h]
 refine zA9 rfl ?_
 have e1:=zPP hk
 have e2:=zPQ hk
 cases x with
 | int i =>
  have:whD lo hi (.int i)=(decide (lo≤i)&&decide (i<hi)):=rfl
  rw [this]
  by_cases h0:lo≤i <;> by_cases h1:i<hi <;> simp [zBj,zAz,e1,e2,isI,isB,h0,h1]
 | bl b=>simp [zBj,zAz,e1,e2,isI,isB,whD]
 | _=>simp [zBj,zAz,e1,e2,isI,isB,whD]
def Kd (S S1:zA0):Prop:=∀ d,kd S d→kd S1 d
theorem Kd.trans {S S1 S2:zA0} (a:Kd S S1) (b:Kd S1 S2):Kd S S2:=fun d h=>b d (a d h)
theorem zWL {S S1:zA0}{i:Nat} (h:Kp (·=i) S S1) (st:(zA4 S1 i).isSome) (st0:(zA4 S i).isSome):Kd S S1:=fun d hd=>by
 cases d with
 | lst k =>
  refine zG6 ?_
  have hk:(zA4 S k).isSome:=by
   obtain ⟨t,e⟩:=hd
   have e':(if (zA4 S k).isSome then some "list" else none)=some t:=e
   split at e'
   ·assumption
   ·cases e'
  by_cases hi:k=i
  ·rw [hi]; exact st
  ·obtain ⟨xs,hx⟩:=qE9.mp hk
   rw [h.lst hx hi]; rfl
 | dct k =>
  obtain ⟨t,e⟩:=hd
  have e:zDc S k=some t:=e
  unfold zDc at e
  split at e
  ·rename_i kvs ho
   have hi:k≠i:=fun z=>by
    subst z
    obtain ⟨xs,hx⟩:=qE9.mp st0
    rw [zAG hx] at ho; cases ho
   exact ⟨"dict",by show zDc S1 k=_; unfold zDc; rw [h.at ho hi]⟩
  ·cases e
 | ty k=>obtain ⟨t,e⟩:=hd; cases e
 | rol k=>obtain ⟨t,e⟩:=hd; cases e
 | _=>exact ⟨_,rfl⟩
theorem zHP {S S1:zA0} (h:Ex S S1):Kd S S1:=fun d hd=>by
 cases d with
 | lst k =>
  refine zG6 ?_
  have hk:(zA4 S k).isSome:=by
   obtain ⟨t,e⟩:=hd
   have e':(if (zA4 S k).isSome then some "list" else none)=some t:=e
   split at e'
   ·assumption
   ·cases e'
  obtain ⟨xs,hx⟩:=qE9.mp hk
  rw [h.lst hx fun z=>z]; rfl
 | dct k =>
  obtain ⟨t,e⟩:=hd
  have e:zDc S k=some t:=e
  unfold zDc at e
  split at e
  ·rename_i kvs ho
   exact ⟨"dict",by show zDc S1 k=_; unfold zDc; rw [h.at ho fun z=>z]⟩
  ·cases e
 | ty k=>obtain ⟨t,e⟩:=hd; cases e
 | rol k=>obtain ⟨t,e⟩:=hd; cases e
 | _=>exact ⟨_,rfl⟩
noncomputable abbrev Wk:=yA × yA
noncomputable def zB5 (l:yA):Int:=l.getD (l.length - 1) 0
noncomputable def fr (c:Ct) (v:Int):yG:=if c.a=v then some c.b else if c.b=v then some c.a else none
noncomputable def kid (w:Wk) (q:Nat × Ct):Option Wk:=match fr q.2 (zB5 w.1) with
 | some u=>if u∈w.1 then none else some (w.1++[u],w.2++[(q.1:Int)])
 | none=>none
noncomputable def kids (cs:yN) (w:Wk):List Wk:=(zBB cs).filterMap (kid w)
noncomputable def Vf (cs:yN):Nat→Wk→List (yA)
 | 0,_=>[]
 | f+1,w=>if zB5 w.1=1 then [zCS w.2] else (kids cs w).flatMap (Vf cs f)
noncomputable def Vs (cs:yN) (w:Wk):List (yA):=Vf cs (9 - w.1.length) w
structure WOk (cs:yN) (w:Wk):Prop where
 nd:w.1.Nodup
 in7:∀ x∈w.1,0≤x∧x<7
 ne:0<w.1.length
 ln:w.2.length<w.1.length
theorem nd7 {l:yA} (nd:l.Nodup) (h:∀ x∈l,0≤x∧x<7):l.length≤7:=by
 have:l.length≤([0,1,2,3,4,5,6]:yA).length:=List.Nodup.length_le_of_subset nd fun x hx=>by
  have:=h x hx
  have:x=0∨x=1∨x=2∨x=3∨x=4∨x=5∨x=6:=by omega
  simpa using this
 simpa using this
theorem WOk.le {cs:yN}{w:Wk} (h:WOk cs w):w.1.length≤7:=nd7 h.nd h.in7
theorem zEx {cs:yN}{w v:Wk}{q:Nat × Ct} (h:kid w q=some v):∃ u,fr q.2 (zB5 w.1)=some u∧u∉w.1∧v=(w.1++[u],w.2++[(q.1:Int)]):=by
 unfold kid at h
 split at h
 ·rename_i u e
  split at h
  ·cases h
  ·rename_i hn; cases h; exact ⟨u,e,hn,rfl⟩
 ·cases h
theorem zWU {c:Ct}{v u:Int} (h:fr c v=some u) (h7:(0≤c.a∧c.a<7)∧0≤c.b∧c.b<7):0≤u∧u<7:=by
 unfold fr at h
 split at h
 ·cases h; exact h7.2
 ·split at h
  ·cases h; exact h7.1
  ·cases h
theorem zGD {cs:yN} (h7:In7 cs) {w:Wk} (h:WOk cs w):∀ v∈kids cs w,WOk cs v∧v.1.length=w.1.length+1:=by
 intro v hv
 obtain ⟨q,hq,e⟩:=qI4.mp hv
 obtain ⟨u,e1,e2,rfl⟩:=zEx (cs:=cs) e
 have hm:q.2∈cs:=qC0 (zFg hq)
 have:=zWU e1 (h7 _ hm)
 refine ⟨⟨?_,?_,by simp,by have:=h.ln; simp; omega⟩,by simp⟩
 ·rw [qG7]
  exact ⟨h.nd,by simp,fun x hx y hy z=>e2 (by simp at hy; rw [← hy,← z]; exact hx)⟩
 ·intro x hx
  rcases qB4.mp hx with hx | hx
  ·exact h.in7 x hx
  ·rw [qA8.mp hx]; exact this
theorem zPt {cs:yN} (h7:In7 cs) {w:Wk} (h:WOk cs w):Vs cs w=if zB5 w.1=1 then [zCS w.2] else (kids cs w).flatMap (Vs cs):=by
 have:=h.le
 unfold Vs
 obtain ⟨f,hf⟩:∃ f,9 - w.1.length=f+1:=⟨8 - w.1.length,by omega⟩
 rw [hf,Vf]
 split
 ·rfl
 ·have:∀ l:List Wk,(∀ v∈l,v.1.length=w.1.length+1)→l.flatMap (Vf cs f)=l.flatMap fun v=>Vf cs (9 - v.1.length) v:=by
   intro l
   induction l with
   | nil=>intro _; rfl
   | cons v l ih =>
    intro hl
    rw [qO5,qO5,ih fun u hu=>hl u (qC7 _ hu),hl v (qD4 ..)]
    congr 2; omega
  exact this _ fun v hv=>(zGD h7 h v hv).2
noncomputable def zPa (l:yA) (c:Ct):Bool:=decide (c.a∉l)&&decide (c.b∉l)
noncomputable def live (cs:yN) (w:Wk):Nat:=(cs.filter (zPa w.1.dropLast)).length
noncomputable def wt (cs:yN) (w:Wk):Nat:=2 ^ live cs w
theorem zJj {l:yA} (h:0<l.length):l=l.dropLast++[zB5 l]:=by
 have hne:l≠[]:=fun e=>by subst e; simp at h
 have e:=qH9 hne
 have:zB5 l=l.getLast hne:=by
  unfold zB5
  rw [List.getLast_eq_getElem,qK2,qA5 (by omega)]; rfl
 rw [this,e]
theorem zIj {α:Type}{p q r:α→Bool} (h1:∀ x,q x=true→p x=true) (h2:∀ x,r x=true→p x=true) (h3:∀ x,q x=true→r x=false):∀ l:List α,(l.filter q).length+(l.filter r).length≤(l.filter p).length
 | []=>by simp
 | x::l=>by
  have ih:=zIj h1 h2 h3 l
  simp only [qF5]
  cases e1:q x with
  | true =>
   rw [h1 x e1,h3 x e1]; simp; omega
  | false =>
   cases e2:r x with
   | true=>rw [h2 x e2]; simp; omega
   | false =>
    cases p x <;> simp <;> omega
theorem zOT {cs:yN}{w:Wk}:(kids cs w).length=(cs.filter fun c=>(kid w (0,c)).isSome).length:=by
 unfold kids
 have e:∀ l:List (Nat × Ct),(l.filterMap (kid w)).length=((l.map (·.2)).filter fun c=>(kid w (0,c)).isSome).length:=by
  intro l
  induction l with
  | nil=>rfl
  | cons q l ih =>
   have hs:(kid w q).isSome=(kid w (0,q.2)).isSome:=by
    unfold kid
    dsimp only
    split
    ·split <;> rfl
    ·rfl
   rw [qB9,qG8,qF5]
   cases hk:kid w q with
   | none=>rw [hk] at hs; simp only [Option.isSome_none] at hs; rw [← hs]; simpa using ih
   | some v=>rw [hk] at hs; simp only [qN6] at hs; rw [← hs]; simpa using ih
 rw [e,zN9]
theorem zF3 {cs:yN}{w:Wk} (h:WOk cs w):∀ v∈kids cs w,(kids cs w).length+live cs v≤live cs w:=by
 intro v hv
 obtain ⟨q,hq,e⟩:=qI4.mp hv
 obtain ⟨u,e1,e2,rfl⟩:=zEx (cs:=cs) e
 rw [zOT,Nat.add_comm]
 unfold live
 have hd:(w.1++[u]).dropLast=w.1:=by simp
 rw [hd]
 have hsp:=zJj h.ne
 have hl:zB5 w.1∈w.1:=by
  have:zB5 w.1∈w.1.dropLast++[zB5 w.1]:=by simp
  rwa [← hsp] at this
 have nl:zB5 w.1∉w.1.dropLast:=by
  have nd:=h.nd
  rw [hsp,qG7] at nd
  exact fun hm=>nd.2.2 _ hm _ (qG1 _) rfl
 have sub:∀ x,x∈w.1.dropLast→x∈w.1:=fun x hx=>List.dropLast_subset _ hx
 refine zIj (fun c hc=>?_) (fun c hc=>?_) (fun c hc=>?_) cs
 ·simp only [zPa,qC6,decide_eq_true_eq] at hc ⊢
  exact ⟨fun m=>hc.1 (sub _ m),fun m=>hc.2 (sub _ m)⟩
 ·obtain ⟨v,hv⟩:=qE9.mp hc
  obtain ⟨u,f1,f2,_⟩:=zEx (cs:=cs) hv
  simp only [zPa,qC6,decide_eq_true_eq]
  unfold fr at f1
  split at f1
  ·rename_i ea
   cases f1
   exact ⟨by rw [ea]; exact nl,fun m=>f2 (sub _ m)⟩
  ·split at f1
   ·rename_i eb
    cases f1
    exact ⟨fun m=>f2 (sub _ m),by rw [eb]; exact nl⟩
   ·cases f1
 ·simp only [zPa,qC6,decide_eq_true_eq] at hc
  unfold kid fr
  dsimp only
  rw [if_neg (fun e:c.a=zB5 w.1=>hc.1 (by rw [e]; exact hl)),if_neg (fun e:c.b=zB5 w.1=>hc.2 (by rw [e]; exact hl))]
  rfl
theorem zOp (d m:Nat) (h:d≤m):d*2 ^ (m - d)+1≤2 ^ m:=by
 have e:2 ^ m=2 ^ d*2 ^ (m - d):=by rw [← Nat.pow_add]; congr 1; omega
 have h1:d+1≤2 ^ d:=Nat.succ_le_of_lt Nat.lt_two_pow_self
 have h2:1≤2 ^ (m - d):=qK8
 calc d*2 ^ (m - d)+1≤d*2 ^ (m - d)+2 ^ (m - d):=by omega
  _=(d+1)*2 ^ (m - d):=by rw [qT1,qT2]
  _≤2 ^ d*2 ^ (m - d):=Nat.mul_le_mul_right _ h1
  _=2 ^ m:=e.symm
noncomputable def wts (cs:yN) (l:List Wk):Nat:=(l.map (wt cs)).sum
theorem zPu {cs:yN}{b:Nat}:∀ l:List Wk,(∀ v∈l,wt cs v≤b)→wts cs l≤l.length*b
 | [],_=>by simp [wts]
 | v::l,h=>by
  have:=zPu l fun u hu=>h u (qC7 _ hu)
  have:=h v (qD4 ..)
  unfold wts at *
  rw [qB9,qU4,qC3,qT1,qT2]; omega
theorem zNV {cs:yN}{w:Wk} (h:WOk cs w):wts cs (kids cs w)+1≤wt cs w:=by
 by_cases hk:kids cs w=[]
 ·rw [hk]; unfold wts wt; exact qK8
 ·obtain ⟨v0,hv0⟩:=List.exists_mem_of_ne_nil _ hk
  have hd:(kids cs w).length≤live cs w:=by have:=zF3 h v0 hv0; omega
  have h1:=zPu (cs:=cs) (b:=2 ^ (live cs w - (kids cs w).length)) (kids cs w) fun v hv=>by
   have:=zF3 h v hv
   exact qI8 (by omega) (by omega)
  have h2:=zOp _ _ hd
  unfold wt at *
  omega
theorem zVB {cs:yN}{w:Wk} (h:cs.length≤16):wt cs w≤65536:=by
 have:live cs w≤16:=qC5 (qD7 ..) h
 exact qC5 (qI8 (by omega) this) (by decide)
noncomputable def w0:Wk:=([0],[])
theorem zQa (cs:yN):WOk cs w0:=⟨by simp [w0],fun x hx=>by simp [w0] at hx; omega,by simp [w0],by simp [w0]⟩
noncomputable def zDt (N:Net):List (yA):=zEr (Vs N.cs w0)
noncomputable def iT (l:yA):D:=.tup (l.map D.int)
theorem zGv {l:yA} (h:0<l.length) (S:zA0):oIx (iT l) (.int (-1)) S=.ok (.int (zB5 l)) S:=by
 unfold iT
 rw [zJd]
 have:atI (l.map D.int) (-1)=some (.int (zB5 l)):=by
  unfold atI ixN
  rw [if_neg (by omega),if_pos (by simp; omega)]
  show (l.map D.int)[(-1+((l.map D.int).length:Int)).toNat]?=_
  rw [qB7,show (-1+((l.map D.int).length:Int)).toNat=l.length - 1 by simp; omega,qA5 (by omega)]
  unfold zB5
  rw [qK2,qA5 (by omega)]; rfl
 rw [this]
theorem zMy {l:yA}{x:Int} (h:l.length≤100) (S:zA0):oAdd (iT l) (.tup [.int x]) S=.ok (iT (l++[x])) S:=by
 unfold iT oAdd
 dsimp only
 rw [if_pos (by have:=zMF; simp; omega)]
 simp
theorem zFf {ns:yA} (hl:ns.length<64) (S:zA0):zAy [iT ns] S=.ok (.lst S.length) (S++[.lst ((zCS ns).map D.int)]):=by
 unfold zAy iT
 dsimp only
 rw [zBM]
 dsimp only
 rw [if_pos hl]
theorem zHk:∀ nss:List (yA),zIZ (nss.map tD)=some nss
 | []=>rfl
 | ns::nss=>by
  rw [qB9]
  show (match zBW (ns.map D.int),zIZ (nss.map tD) with | some ns,some nss=>some (ns::nss) | _,_=>none)=_
  rw [zBM,zHk nss]
theorem zJn:∀ nss:List (yA),nss≠[]→zBW (nss.map tD)=none
 | [],h=>absurd rfl h
 | ns::nss,_=>rfl
theorem zIc {S:zA0}{n:Nat}{nss:List (yA)} (h:zA4 S n=some (nss.map tD)):zAy [.lst n] S=.ok (.lst S.length) (S++[.lst ((zEr nss).map tD)]):=by
 unfold zAy
 dsimp only
 rw [h]
 by_cases hn:nss=[]
 ·subst hn; rfl
 ·show (match zBW (nss.map tD) with | some ns=>_ | none=>_)=_
  rw [zJn nss hn]
  show (match zIZ (nss.map tD) with | some nss=>_ | none=>_)=_
  rw [zHk]
theorem zPe {α:Type}{l:List α}{i:Nat}{q:Nat × α} (h:(zBB l)[i]?=some q):q.1=i∧l[i]?=some q.2:=by
 unfold zBB at h
 rw [qF7] at h
 have:=qA4.mp h.1
 obtain ⟨h3,h4⟩:=this
 simp at h4
 exact ⟨h4.symm,h.2⟩
theorem zLj {α:Type}{l:List α}{i:Nat}{q:Nat × α} (h:(zBB l)[i]?=some q):(zBB l).take (i+1)=(zBB l).take i++[q]:=by
 rw [qO3,h]; rfl
inductive LstR (r:R D) (S:zA0) (L:yM):Prop
 | mk (k:Nat) (S1:zA0) (e:r=.ok (.lst k) S1) (x:Ex S S1) (le:S.length≤k) (l:zA4 S1 k=some L)
noncomputable def wD (w:Wk):D:=.tup [iT w.1,iT w.2]
theorem zUs {c:Ct} (hab:c.a<c.b) (v:Int):fr c v=if v=c.a∨v=c.b then some (c.a+c.b - v) else none:=by
 unfold fr
 by_cases h1:c.a=v
 ·rw [if_pos h1,if_pos (.inl h1.symm)]; congr 1; omega
 ·rw [if_neg h1]
  by_cases h2:c.b=v
  ·rw [if_pos h2,if_pos (.inr h2.symm)]; congr 1; omega
  ·rw [if_neg h2,if_neg (by omega)]
theorem zTV (c:CLL) {nd gd td nr cd pd:D}{v:Int}{kf kq:Nat}{S:zA0} (i1:oIx gd (.int (-1)) S=.ok (.int v) S) (s1:oSl cd none (some 2) S=.ok pd S) (q1:oIn false (.int v) pd S=.ok (.bl false) S) :
  zAn c [some nd,some (.lst kf),some (.lst kq),some gd,some td,some nr,some cd] S=.nx [some nd,some (.lst kf),some (.lst kq),some gd,some td,some nr,some cd] S:=by
 simp [zAn,i1,s1,q1]
theorem zTU (c:CLL) {nd gd td nr cd pd:D}{v a b:Int}{kf kq:Nat}{S:zA0} (i1:oIx gd (.int (-1)) S=.ok (.int v) S) (s1:oSl cd none (some 2) S=.ok pd S) (q1:oIn false (.int v) pd S=.ok (.bl true) S)
  (c0:oIx cd (.int 0) S=.ok (.int a) S) (c1:oIx cd (.int 1) S=.ok (.int b) S) (q2:oIn true (.int (a+b - v)) gd S=.ok (.bl false) S) :
  zAn c [some nd,some (.lst kf),some (.lst kq),some gd,some td,some nr,some cd] S=.nx [some nd,some (.lst kf),some (.lst kq),some gd,some td,some nr,some cd] S:=by
 simp [zAn,i1,s1,q1,c0,c1,q2]
theorem zWF (c:CLL) {nd gd td nr cd pd gd' td':D}{v a b:Int}{kf kq:Nat}{S S1:zA0} (i1:oIx gd (.int (-1)) S=.ok (.int v) S) (s1:oSl cd none (some 2) S=.ok pd S) (q1:oIn false (.int v) pd S=.ok (.bl true) S)
  (c0:oIx cd (.int 0) S=.ok (.int a) S) (c1:oIx cd (.int 1) S=.ok (.int b) S) (q2:oIn true (.int (a+b - v)) gd S=.ok (.bl true) S)
  (a1:oAdd gd (.tup [.int (a+b - v)]) S=.ok gd' S) (a2:oAdd td (.tup [nr]) S=.ok td' S) (ty:tyOk "list" (.lst kq) S=true) (m1:zC4 zB7 (.lst kq) [.tup [gd',td']] S=.ok .non S1) :
  zAn c [some nd,some (.lst kf),some (.lst kq),some gd,some td,some nr,some cd] S=.nx [some nd,some (.lst kf),some (.lst kq),some gd,some td,some nr,some cd] S1:=by
 simp [zAn,i1,s1,q1,c0,c1,q2,a1,a2,ty,m1]
theorem zTW (c:CLL) {nd gd td td':D}{kf kq k:Nat}{v3 v4 v5 v6:Option D}{S S1 S2 S3:zA0} (ty:tyOk "list" (.lst kq) S=true) (p1:zC4 gPop (.lst kq) [] S=.ok (.tup [gd,td]) S1) (i1:oIx gd (.int (-1)) S1=.ok (.int 1) S1)
  (f1:zAy [td] S1=.ok (.lst k) S2) (f2:zAO [.lst k] S2=.ok td' S2) (ty2:tyOk "list" (.lst kf) S1=true) (m1:zC4 zB7 (.lst kf) [td'] S2=.ok .non S3) :
  zAo c [some nd,some (.lst kf),some (.lst kq),v3,v4,v5,v6] S=.ct [some nd,some (.lst kf),some (.lst kq),some gd,some td,v5,v6] S3:=by
 simp [zAo,ty,p1,i1,f1,f2,ty2,m1]
theorem zWE (c:CLL) {nd gd td:D}{xs:yM}{v:Int}{kf kq:Nat}{v3 v4 v5 v6:Option D}{ρ:Env1}{S S1 S2:zA0} (ty:tyOk "list" (.lst kq) S=true) (p1:zC4 gPop (.lst kq) [] S=.ok (.tup [gd,td]) S1) (i1:oIx gd (.int (-1)) S1=.ok (.int v) S1) (hv:v≠1)
  (i2:oIx nd (.int 2) S1=.ok (.tup xs) S1) (hl:(zBw xs).length<lim) (e1:zBg [] (gT [(gN 5),(gN 6)]) (zAn c) (zBw xs) [some nd,some (.lst kf),some (.lst kq),some gd,some td,v5,v6] S1=.nx ρ S2) :
  zAo c [some nd,some (.lst kf),some (.lst kq),v3,v4,v5,v6] S=.nx ρ S2:=by
 simp [zAo,ty,p1,i1,hv,i2,e1,hl]
theorem zRi {W:List Wk}{kf kq:Nat}{nd:D}{v3 v4 v5 v6:Option D}{S:zA0} (l1:zA4 S kq=some (W.map wD)):(zAl (cBin oNe (cVar 2) (cLst (zA1 [])))) [some nd,some (.lst kf),some (.lst kq),v3,v4,v5,v6] S=.ok (!eqB (W.map wD) []) (S++[.lst []]):=by
 have h:=zR8 (zAg (T:=[.lst []]) l1) (zA2 S []) (qC8.mpr fun d hd=>?_) (by rfl)
 ·simp [h]
 ·obtain ⟨w,_,rfl⟩:=qC9.mp hd
  unfold wD iT
  exact zDI (n:=38) fun x hx=>by
   rcases qB6.mp hx with rfl | hx
   ·exact zDI (n:=37) (zBf (by omega) _)
   ·rw [qA8.mp hx]; exact zDI (n:=37) (zBf (by omega) _)
theorem zPF {S:zA0}{k:Nat}{xs:yM}{x:D} (h:zA4 S k=some (xs++[x])):zC4 gPop (.lst k) [] S=.ok x (S.set k (.lst xs)):=by
 rw [zDK h]
 unfold gPop
 dsimp only
 rw [show (xs++[x]).length - 1=xs.length by simp]
 simp
theorem zQ4 {S:zA0}{k:Nat}{xs:yM}{x:D} (h:zA4 S k=some xs) (hl:xs.length<lim):zC4 zB7 (.lst k) [x] S=.ok .non (S.set k (.lst (xs++[x]))):=by
 rw [zDK h]
 unfold zB7
 dsimp only
 rw [if_pos hl]
structure PI (N:Net) (kf kq:Nat) (S0:zA0) (F:List (yA)) (W:List Wk) (S:zA0):Prop where
 kp:Kp (fun j=>j=kf∨j=kq) S0 S
 lf:zA4 S kf=some (F.map tD)
 lq:zA4 S kq=some (W.map wD)
noncomputable def pE3 (nd:D) (kf kq:Nat) (v3 v4 v5 v6:Option D):Env1:=[some nd,some (.lst kf),some (.lst kq),v3,v4,v5,v6]
noncomputable def zHI (cs:yN) (w:Wk) (i:Nat):List Wk:=((zBB cs).take i).filterMap (kid w)
theorem zRh (n:Nat) {N:Net} (ok:N.g) {kf kq:Nat} (hne:kf≠kq) {S0 S:zA0}{F:List (yA)}{W:List Wk}{w:Wk} (h:PI N kf kq S0 F (W++[w]) S) (hw:WOk N.cs w) (h1:zB5 w.1≠1) (hz:wts N.cs W+wt N.cs w≤65536) (v3 v4 v5 v6:Option D) :
  ∃ v3' v4' v5' v6' S',zAo (cl n) (pE3 N.d kf kq v3 v4 v5 v6) S=.nx (pE3 N.d kf kq v3' v4' v5' v6') S'∧PI N kf kq S0 F (W++kids N.cs w) S':=by
 have hc:N.cs.length≤16:=by have:=ok.c1; omega
 have hle:=hw.le
 have hln:=hw.ln
 have lq:=h.lq
 rw [qE8,qR8] at lq
 have p1:=zPF lq
 obtain ⟨S1,hS1⟩:∃ S1,S.set kq (.lst (W.map wD))=S1:=⟨_,rfl⟩
 rw [hS1] at p1
 have kp1:Kp (·=kq) S S1:=by rw [← hS1]; exact zCP _ _
 have lq1:zA4 S1 kq=some (W.map wD):=by rw [← hS1]; exact zAN lq
 have lf1:zA4 S1 kf=some (F.map tD):=kp1.lst h.lf hne
 have hWl:W.length≤wts N.cs W:=by
  have:∀ l:List Wk,l.length≤wts N.cs l:=by
   intro l
   induction l with
   | nil=>simp
   | cons x l ih =>
    have:1≤wt N.cs x:=qK8
    unfold wts at *
    rw [qB9,qU4,qC3]; omega
  exact this W
 have hkl:(kids N.cs w).length≤16:=by
  unfold kids
  exact qC5 (qO7 ..) (by rw [zCv]; exact hc)
 have hpl:∀ i,(zHI N.cs w i).length≤16:=fun i=>by
  unfold zHI
  refine qC5 (qO7 ..) ?_
  rw [qH1,zCv]; omega
 obtain ⟨ρ',S2,e1,v5',v6',rfl,kp2,l2⟩:=zB2 (w:=[]) (g:=gT [(gN 5),(gN 6)]) (b:=zAn (cl n)) (items:=zBw (N.cs.map Ct.d))
  (fun i ρ S'=>∃ v5 v6,ρ=pE3 N.d kf kq (some (iT w.1)) (some (iT w.2)) v5 v6∧Kp (·=kq) S1 S'∧zA4 S' kq=some ((W++zHI N.cs w i).map wD))
  (ρ:=pE3 N.d kf kq (some (iT w.1)) (some (iT w.2)) v5 v6) (S:=S1) (fun _ _ _ _=>zAf _) ⟨v5,v6,rfl,Kp.refl _ _,by simpa [zHI] using lq1⟩
  (fun i d ρ S' hd hp=>by
   obtain ⟨v5,v6,rfl,kp,l1⟩:=hp
   rw [zBX,qB7] at hd
   obtain ⟨q,hq,rfl⟩:=qA1.mp hd
   obtain ⟨q1,q2⟩:=zPe hq
   have hm:q.2∈N.cs:=qC0 q2
   obtain ⟨ha0,hab,_⟩:=ok.c2 q.2 hm
   have ps:zHI N.cs w (i+1)=zHI N.cs w i++(kid w q).toList:=by
    unfold zHI
    rw [zLj hq,qQ0]
    congr 1
   have hf:=zUs hab (zB5 w.1)
   have i1:=zGv hw.ne S'
   have s1:oSl q.2.d none (some 2) S'=.ok (.tup [.int q.2.a,.int q.2.b]) S':=by unfold Ct.d; rfl
   have c0:oIx q.2.d (.int 0) S'=.ok (.int q.2.a) S':=by unfold Ct.d; simp
   have c1:oIx q.2.d (.int 1) S'=.ok (.int q.2.b) S':=by unfold Ct.d; simp
   have o1:=zCC false (zB5 w.1) [q.2.a,q.2.b] S'
   refine ⟨pE3 N.d kf kq (some (iT w.1)) (some (iT w.2)) (some (.int (q.1:Nat))) (some q.2.d),S',rfl,?_⟩
   rw [ps]
   by_cases hv:zB5 w.1=q.2.a∨zB5 w.1=q.2.b
   ·rw [if_pos hv] at hf
    have o1':oIn false (.int (zB5 w.1)) (.tup [.int q.2.a,.int q.2.b]) S'=.ok (.bl true) S':=by simpa [hv] using o1
    have oi:=zCC true (q.2.a+q.2.b - zB5 w.1) w.1 S'
    by_cases hu:q.2.a+q.2.b - zB5 w.1∈w.1
    ·have hk:kid w q=none:=by unfold kid; rw [hf]; simp [hu]
     rw [hk]
     exact ⟨_,S',.inl (zTU _ i1 s1 o1' c0 c1 (by simpa [hu,iT] using oi)),_,_,rfl,kp,by simpa using l1⟩
    ·have hk:kid w q=some (w.1++[q.2.a+q.2.b - zB5 w.1],w.2++[(q.1:Int)]):=by unfold kid; rw [hf]; simp [hu]
     rw [hk]
     have hb:=hpl i
     have m1:=zQ4 (x:=wD (w.1++[q.2.a+q.2.b - zB5 w.1],w.2++[(q.1:Int)])) l1 (by rw [qA6,qB1,zAc]; omega)
     refine ⟨_,_,.inl (zWF _ i1 s1 o1' c0 c1 (by simpa [hu,iT] using oi) (zMy (by omega) S') (zMy (by omega) S') (zCB l1) m1),_,_,rfl,kp.trans (zCP _ _),?_⟩
     rw [zAN l1]
     simp
   ·rw [if_neg hv] at hf
    have hk:kid w q=none:=by unfold kid; rw [hf]
    rw [hk]
    have o1':oIn false (.int (zB5 w.1)) (.tup [.int q.2.a,.int q.2.b]) S'=.ok (.bl false) S':=by simpa [hv] using o1
    exact ⟨_,S',.inl (zTV _ i1 s1 o1'),_,_,rfl,kp,by simpa using l1⟩)
 refine ⟨_,_,_,_,S2,zWE _ (zCB lq) p1 (zGv hw.ne S1) h1 (by unfold Net.d; simp) (by rw [zBX,qA6,zCv,zAc]; omega) e1,⟨?_,?_,?_⟩⟩
 ·exact h.kp.trans ((kp1.trans kp2).mono fun j _ hj=>.inr hj)
 ·exact kp2.lst lf1 hne
 ·rw [l2]
  unfold zHI kids
  rw [qE3 (by rw [zBX,qA6]; exact qA9 _)]
theorem zRj (n:Nat) {N:Net}{kf kq:Nat} (hne:kf≠kq) {S0 S:zA0}{F:List (yA)}{W:List Wk}{w:Wk} (h:PI N kf kq S0 F (W++[w]) S) (hw:WOk N.cs w) (h1:zB5 w.1=1) (hz:F.length≤65536) (v3 v4 v5 v6:Option D) :
  ∃ v3' v4' v5' v6' S',zAo (cl n) (pE3 N.d kf kq v3 v4 v5 v6) S=.ct (pE3 N.d kf kq v3' v4' v5' v6') S'∧PI N kf kq S0 (F++[zCS w.2]) W S':=by
 have hle:=hw.le
 have hln:=hw.ln
 have lq:=h.lq
 rw [qE8,qR8] at lq
 have p1:=zPF lq
 obtain ⟨S1,hS1⟩:∃ S1,S.set kq (.lst (W.map wD))=S1:=⟨_,rfl⟩
 rw [hS1] at p1
 have kp1:Kp (·=kq) S S1:=by rw [← hS1]; exact zCP _ _
 have lq1:zA4 S1 kq=some (W.map wD):=by rw [← hS1]; exact zAN lq
 have lf1:zA4 S1 kf=some (F.map tD):=kp1.lst h.lf hne
 have i1:=zGv hw.ne S1
 rw [h1] at i1
 have f1:=zFf (ns:=w.2) (by omega) S1
 have f2:zAO [.lst S1.length] (S1++[.lst ((zCS w.2).map D.int)])=.ok (tD (zCS w.2)) _:=zCu (zA2 S1 _)
 have lf2:=zAg (T:=[.lst ((zCS w.2).map D.int)]) lf1
 have m1:=zQ4 (x:=tD (zCS w.2)) lf2 (by rw [qA6,zAc]; omega)
 refine ⟨_,_,_,_,_,zTW _ (zCB lq) p1 i1 f1 f2 (zCB lf1) m1,⟨?_,?_,?_⟩⟩
 ·exact h.kp.trans (((kp1.mono fun j _ hj=>.inr hj).trans (zA5 _ _).kp).trans ((zCP _ _).mono fun j _ hj=>.inl hj))
 ·rw [zAN lf2]; simp
 ·exact (zCP _ _).lst (zAg lq1) fun e=>hne e.symm
theorem zRg (c:CLL) {nd r:D}{v3 v4 v5 v6 w3 w4 w5 w6 w1 w2:Option D}{S S1 S2:zA0} (e1:zCN zIX (zAl (cBin oNe (cVar 2) (cLst (zA1 [])))) (zAo c) [some nd,some (.lst S.length),some (.lst (S.length+1)),w3,w4,w5,w6] (S++[.lst []]++[.lst [.tup [.tup [.int 0],.tup []]]])=.nx [some nd,some (.lst S.length),some (.lst (S.length+1)),v3,v4,v5,v6] S1)
  (f1:zAy [.lst S.length] S1=.ok r S2):zBZ c [some nd,w1,w2,w3,w4,w5,w6] S=.rt r S2:=by
 simp at e1
 simp [zBZ,e1,f1]
theorem zFH (h:zDh cl) (n:Nat) {N:Net} (ok:N.g) (S:zA0):LstR (cl (n+1) "_law_paths" [N.d] S) S ((zDt N).map tD):=by
 have hc:N.cs.length≤16:=by have:=ok.c1; omega
 have h7:In7 N.cs:=ok.in7 (by decide)
 obtain ⟨S0,h0⟩:∃ S0,S++[O.lst []]++[O.lst [D.tup [.tup [.int 0],.tup []]]]=S0:=⟨_,rfl⟩
 have p0:PI N S.length (S.length+1) S0 [] [w0] S0:=by
  rw [← h0]
  refine ⟨Kp.refl _ _,zAg (zA2 S []),?_⟩
  have:=zA2 (S++[O.lst []]) [D.tup [.tup [.int 0],.tup []]]
  simpa [w0,wD,iT] using this
 have hw0:wts N.cs [w0]≤65536:=by
  unfold wts
  simpa using zVB (w:=w0) hc
 obtain ⟨ρ',S1,e1,v3,v4,v5,v6,F,rfl,p1,pm⟩:=zGj (t:=zAl (cBin oNe (cVar 2) (cLst (zA1 [])))) (b:=zAo (cl n))
  (fun m ρ S'=>∃ v3 v4 v5 v6 F W,ρ=pE3 N.d S.length (S.length+1) v3 v4 v5 v6∧PI N S.length (S.length+1) S0 F W S'∧(∀ w∈W,WOk N.cs w)∧m=wts N.cs W∧F.length+wts N.cs W≤65536∧(F++W.flatMap (Vs N.cs)).Perm (Vs N.cs w0))
  (fun ρ S'=>∃ v3 v4 v5 v6 F,ρ=pE3 N.d S.length (S.length+1) v3 v4 v5 v6∧PI N S.length (S.length+1) S0 F [] S'∧F.Perm (Vs N.cs w0))
  (fun m ρ S' hp=>by
   obtain ⟨v3,v4,v5,v6,F,W,rfl,p,wo,rfl,hz,pm⟩:=hp
   have t:=zRi (nd:=N.d) (kf:=S.length) (v3:=v3) (v4:=v4) (v5:=v5) (v6:=v6) p.lq
   have p':PI N S.length (S.length+1) S0 F W (S'++[.lst []]):=⟨p.kp.trans (zA5 _ _).kp,zAg p.lf,zAg p.lq⟩
   by_cases hW:W=[]
   ·subst hW
    refine .inl ⟨_,?_,v3,v4,v5,v6,F,rfl,p',by simpa using pm⟩
    rw [show (!eqB (([]:List Wk).map wD) [])=false by simp [zBh.mpr]] at t
    exact t
   ·obtain ⟨W',w,rfl⟩:∃ W' w,W=W'++[w]:=⟨W.dropLast,W.getLast hW,(qH9 hW).symm⟩
    have hw:=wo w (by simp)
    have ws:wts N.cs (W'++[w])=wts N.cs W'+wt N.cs w:=by unfold wts; simp
    have w1:1≤wt N.cs w:=qK8
    rw [ws] at hz
    refine .inr ⟨S'++[.lst []],?_,?_⟩
    ·rw [show (!eqB ((W'++[w]).map wD) [])=true by rw [zIe (by simp)]; rfl] at t
     exact t
    ·by_cases h1:zB5 w.1=1
     ·obtain ⟨a,b,c,d,S2,e,p2⟩:=zRj (cl:=cl) n (by omega) p' hw h1 (by omega) v3 v4 v5 v6
      refine ⟨_,S2,.inr e,wts N.cs W',by rw [ws]; omega,a,b,c,d,_,W',rfl,p2,fun x hx=>wo x (by simp [hx]),rfl,by simp; omega,?_⟩
      rw [qN2,qP6,zPt h7 hw,if_pos h1] at pm
      refine List.Perm.trans ?_ pm
      rw [qB8]
      exact (List.Perm.refl F).append qH0
     ·obtain ⟨a,b,c,d,S2,e,p2⟩:=zRh (cl:=cl) n ok (by omega) p' hw h1 (by omega) v3 v4 v5 v6
      have wk:=zNV hw
      have ws2:wts N.cs (W'++kids N.cs w)=wts N.cs W'+wts N.cs (kids N.cs w):=by unfold wts; simp
      refine ⟨_,S2,.inl e,wts N.cs (W'++kids N.cs w),by rw [ws,ws2]; omega,a,b,c,d,F,_,rfl,p2,fun x hx=>?_,rfl,by rw [ws2]; omega,?_⟩
      ·rcases qB4.mp hx with hx | hx
       ·exact wo x (by simp [hx])
       ·exact (zGD h7 hw x hx).1
      ·rw [qN2,qP6,zPt h7 hw,if_neg h1] at pm
       rw [qN2]
       exact pm)
  zIX (wts N.cs [w0]) (pE3 N.d S.length (S.length+1) none none none none) S0 (qK7 hw0 (by decide)) ⟨none,none,none,none,[],[w0],rfl,p0,fun x hx=>by rw [qA8.mp hx]; exact zQa _,rfl,by simpa using hw0,by simp⟩
 have f1:=zIc p1.lf
 rw [← h0] at e1
 refine ⟨S1.length,S1++[.lst ((zEr F).map tD)],?_,?_,?_,?_⟩
 ·rw [h]
  exact zA9 rfl (zRg _ e1 f1)
 ·refine Kp.trans ⟨?_,fun j hj _=>?_⟩ (zA5 _ _)
  ·have:=p1.kp.le; rw [← h0] at this; simp at this; omega
  ·rw [p1.kp.eq j (by rw [← h0]; simp; omega) (by omega),← h0,qB8,qA7 hj]
 ·have:=p1.kp.le; rw [← h0] at this; simp at this; omega
 ·rw [zA2]
  congr 2
  unfold zDt
  exact zK3 ((zBL F).trans pm) (zC5 F)
noncomputable def cutB (cs:yN) (C:Int→Bool) (i:Nat):Bool:=match cs[i]? with
 | some c=>C c.a != C c.b
 | none=>false
noncomputable def cutI (cs:yN) (C:Int→Bool):yA:=((List.range cs.length).filter (cutB cs C)).map fun (i:Nat)=>(i:Int)
structure Side (C:Int→Bool):Prop where
 z:C 0=true
 o:C 1=false
theorem zGy {cs:yN}{C:Int→Bool}{x:Int}:x∈cutI cs C↔∃ (i:Nat) (c:Ct),cs[i]?=some c∧C c.a≠C c.b∧x=(i:Int):=by
 unfold cutI
 simp only [qC9,qD5,qG3]
 constructor
 ·rintro ⟨i,⟨hi,hb⟩,rfl⟩
  unfold cutB at hb
  rw [qA5 hi] at hb
  exact ⟨i,_,qA5 hi,by simpa using hb,rfl⟩
 ·rintro ⟨i,c,hc,hn,rfl⟩
  have hi:=(qA4.mp hc).1
  refine ⟨i,⟨hi,?_⟩,rfl⟩
  unfold cutB
  rw [hc]
  simpa using hn
theorem zNi {cs:yN}{C C':Int→Bool} (h:∀ x,x∈cutI cs C↔x∈cutI cs C'):cutI cs C=cutI cs C':=by
 unfold cutI
 congr 1
 apply qO6
 intro i hi
 have q:∀ D:Int→Bool,cutB cs D i=true↔(i:Int)∈cutI cs D:=fun D=>by
  rw [zGy]
  constructor
  ·intro hb
   unfold cutB at hb
   split at hb
   ·rename_i c hc; exact ⟨i,c,hc,by simpa using hb,rfl⟩
   ·cases hb
  ·rintro ⟨j,c,hc,hn,e⟩
   have:i=j:=by omega
   subst this
   unfold cutB; rw [hc]; simpa using hn
 exact zAR ((q C).trans ((h _).trans (q C').symm))
theorem zPh {cs:yN}{C C':Int→Bool} (h:∀ c∈cs,C c.a=C' c.a∧C c.b=C' c.b):cutI cs C=cutI cs C':=by
 apply zNi
 intro x
 rw [zGy,zGy]
 constructor
 ·rintro ⟨i,c,hc,hn,e⟩
  have:=h c (qC0 hc)
  exact ⟨i,c,hc,by rw [← this.1,← this.2]; exact hn,e⟩
 ·rintro ⟨i,c,hc,hn,e⟩
  have:=h c (qC0 hc)
  exact ⟨i,c,hc,by rw [this.1,this.2]; exact hn,e⟩
noncomputable def zAt (cs:yN) (l:yA):yN:=((zBB cs).filter fun q=>decide ((q.1:Int)∉l)).map (·.2)
theorem zE8 {cs:yN}{l:yA}{c:Ct}:c∈zAt cs l↔∃ i:Nat,cs[i]?=some c∧(i:Int)∉l:=by
 unfold zAt
 simp only [qC9,qD5,decide_eq_true_eq]
 constructor
 ·rintro ⟨q,⟨hq,hn⟩,rfl⟩
  exact ⟨q.1,zFg hq,hn⟩
 ·rintro ⟨i,hc,hn⟩
  have hi:=(qA4.mp hc).1
  refine ⟨(i,c),⟨?_,hn⟩,rfl⟩
  unfold zBB
  rw [List.mem_iff_getElem?]
  exact ⟨i,by rw [qF7]; exact ⟨by simp [hi],hc⟩⟩
def zNM (cs:yN) (t:yA):Prop:=∀ C',Side C'→(∀ x∈cutI cs C',x∈t)→cutI cs C'=t
structure zIW (cs:yN) (L:List (yA)):Prop where
 nd:L.Nodup
 so:LexP L
 mem:∀ t,t∈L↔∃ C,Side C∧t=cutI cs C∧zNM cs t
noncomputable def addT (ts:List (yA)) (t:yA):List (yA):=if t∈ts then ts else ts++[t]
theorem zKj {ts:List (yA)}{t x:yA}:x∈addT ts t↔x∈ts∨x=t:=by
 unfold addT
 split
 ·rename_i h
  exact ⟨.inl,fun q=>q.elim id fun e=>e▸h⟩
 ·simp
theorem zS2 {ts:List (yA)}{t:yA} (h:ts.Nodup):(addT ts t).Nodup:=by
 unfold addT
 split
 ·exact h
 ·rename_i hn
  rw [qG7]
  exact ⟨h,by simp,fun x hx y hy e=>hn (by simp at hy; rw [← hy,← e]; exact hx)⟩
theorem zPs (ts:List (yA)) (t:yA):(addT ts t).length≤ts.length+1:=by
 unfold addT; split <;> simp
noncomputable def tK (t:yA):List Key:=t.map Sum.inl
noncomputable def dtOf (ts:List (yA)):List (List Key × D):=ts.map fun t=>(tK t,D.bl true)
noncomputable def dO (ts:List (yA)):O:=if ts=[] then .dk [] else .dt (dtOf ts)
theorem zSl {a b:yA} (h:tK a=tK b):a=b:=by
 unfold tK at h
 exact (qK9 (fun x y e=>Sum.inl.inj e)).mp h
theorem zUv (ts:List (yA)) (t:yA):((dtOf ts).any fun kv=>decide (kv.1=tK t))=decide (t∈ts):=by
 apply zAR
 simp only [qS9,decide_eq_true_eq,dtOf,qC9]
 constructor
 ·rintro ⟨kv,⟨a,ha,rfl⟩,e⟩
  have:=zSl e
  rw [← this]; exact ha
 ·intro h; exact ⟨_,⟨t,h,rfl⟩,rfl⟩
theorem zUu (ts:List (yA)) (t:yA):putD (dtOf ts) (tK t) (.bl true)=dtOf (addT ts t):=by
 unfold putD addT
 rw [zUv]
 by_cases h:t∈ts
 ·simp only [h,decide_true,if_true]
  unfold dtOf
  rw [qE2]
  apply qI0
  intro a ha
  dsimp only [Function.comp]
  split
  ·rename_i e; rfl
  ·rfl
 ·simp [h,dtOf]
theorem zG5 (t:yA):(t.map D.int).mapM zD7=some (tK t):=by
 induction t with
 | nil=>rfl
 | cons a t ih=>rw [qB9,qF8,ih]; rfl
theorem zR7 {S:zA0}{m:Nat}{ts:List (yA)} (h:S[m]?=some (dO ts)) (hl:ts.length<lim) (t:yA):oSet (.dct m) (iT t) (.bl true) S=some (S.set m (dO (addT ts t))):=by
 unfold oSet iT
 dsimp only
 have hk:zD7 (D.tup (t.map D.int))=none:=rfl
 rw [h,hk]
 have ne:addT ts t≠[]:=fun e=>by
  have:t∈addT ts t:=zKj.mpr (.inr rfl)
  rw [e] at this; cases this
 have e2:dO (addT ts t)=.dt (dtOf (addT ts t)):=by unfold dO; rw [if_neg ne]
 by_cases hn:ts=[]
 ·subst hn
  have e1:dO []=.dk []:=rfl
  rw [e1]
  show zKY m (.tup (t.map D.int)) (.bl true) S=_
  unfold zKY
  rw [h,e1]
  dsimp only
  rw [zG5,e2]
  rfl
 ·have e1:dO ts=.dt (dtOf ts):=by unfold dO; rw [if_neg hn]
  rw [e1]
  show zKY m (.tup (t.map D.int)) (.bl true) S=_
  unfold zKY
  rw [h,e1]
  dsimp only
  rw [zG5]
  dsimp only
  rw [if_pos (by unfold dtOf; rw [qA6]; exact hl),zUu,e2]
theorem zK4:∀ ts:List (yA),zKM (dtOf ts)=some ts
 | []=>rfl
 | t::ts=>by
  have e:(tK t).mapM (fun x=>match x with | .inl n=>some n | .inr _=>none)=some t:=by
   unfold tK
   induction t with
   | nil=>rfl
   | cons a t ih=>rw [qB9,qF8,ih]; rfl
  show (match (tK t).mapM (fun x:Key=>match x with | .inl n=>some n | .inr _=>none),zKM (dtOf ts) with | some ns,some nss=>some (ns::nss) | _,_=>none)=_
  rw [e,zK4 ts]
theorem zLh {S:zA0}{m:Nat}{ts:List (yA)} (h:S[m]?=some (dO ts)):zAy [.dct m] S=.ok (.lst S.length) (S++[.lst ((zEr ts).map tD)]):=by
 unfold zAy
 dsimp only
 rw [h]
 by_cases hn:ts=[]
 ·subst hn; rfl
 ·have e1:dO ts=.dt (dtOf ts):=by unfold dO; rw [if_neg hn]
  rw [e1]
  dsimp only
  rw [zK4]
noncomputable def hv:Nat→List (yA)
 | 0=>[[0]]
 | k+1=>hv k++(hv k).map (·++[(k:Int)+2])
noncomputable def bitB (m:Nat) (p:Int):Bool:=decide (Builtin.bitAnd ((m:Int) / 2 ^ (p - 2).toNat) 1=1)
theorem zPn:∀ (n:_root_.Fin 6) (b0 b1 b2 b3 b4:Bool),((List.range (2 ^ n.val)).any fun m=>(decide (n.val≤0)||bitB m 2 == b0)&&((decide (n.val≤1)||bitB m 3 == b1)&&((decide (n.val≤2)||bitB m 4 == b2)&&((decide (n.val≤3)||bitB m 5 == b3)&&(decide (n.val≤4)||bitB m 6 == b4)))))=true:=by
 decide +kernel
theorem zPo (n:_root_.Fin 6) (b0 b1 b2 b3 b4:Bool):∃ m:Nat,m<2 ^ n.val∧(0<n.val→bitB m 2=b0)∧(1<n.val→bitB m 3=b1)∧(2<n.val→bitB m 4=b2)∧(3<n.val→bitB m 5=b3)∧(4<n.val→bitB m 6=b4):=by
 obtain ⟨m,hm,h⟩:=qS9.mp (zPn n b0 b1 b2 b3 b4)
 simp only [qC6,qF9,decide_eq_true_eq,beq_iff_eq] at h
 obtain ⟨h0,h1,h2,h3,h4⟩:=h
 exact ⟨m,qG3.mp hm,fun q=>h0.resolve_left (by omega),fun q=>h1.resolve_left (by omega),fun q=>h2.resolve_left (by omega),fun q=>h3.resolve_left (by omega),fun q=>h4.resolve_left (by omega)⟩
noncomputable def zDw (pl:Int) (m:Nat):yA:=0::((List.range (pl - 2).toNat).map fun (k:Nat)=>(2:Int)+k).filter (bitB m)
theorem zEG {pl:Int}{m:Nat}{x:Int}:x∈zDw pl m↔x=0∨(2≤x∧x<pl∧bitB m x=true):=by
 unfold zDw
 simp only [qB6,qD5,qC9,qG3]
 constructor
 ·rintro (h | ⟨⟨k,hk,rfl⟩,hb⟩)
  ·exact .inl h
  ·exact .inr ⟨by omega,by omega,hb⟩
 ·rintro (h | ⟨h1,h2,hb⟩)
  ·exact .inl h
  ·exact .inr ⟨⟨(x - 2).toNat,by omega,by omega⟩,hb⟩
theorem zE4 (pl:Int) (m:Nat):Side fun x=>decide (x∈zDw pl m) :=
 ⟨decide_eq_true (zEG.mpr (.inl rfl)),decide_eq_false fun h=>by rcases zEG.mp h with h | h <;> omega⟩
theorem zM1 {C:Int→Bool} (hs:Side C) {pl:Int} (h2:2≤pl) (h7:pl≤7):∃ m:Nat,m<2 ^ (pl - 2).toNat∧∀ x,0≤x→x<pl→decide (x∈zDw pl m)=C x:=by
 obtain ⟨m,hm,q0,q1,q2,q3,q4⟩:=zPo ⟨(pl - 2).toNat,by omega⟩ (C 2) (C 3) (C 4) (C 5) (C 6)
 dsimp only at hm q0 q1 q2 q3 q4
 refine ⟨m,hm,fun x h0 h1=>?_⟩
 have hc:x=0∨x=1∨x=2∨x=3∨x=4∨x=5∨x=6:=by omega
 have g:∀ y:Int,2≤y→y<pl→bitB m y=C y→decide (y∈zDw pl m)=C y:=fun y a b e=>by
  rw [← e]
  apply zAR
  rw [decide_eq_true_iff,zEG]
  constructor
  ·rintro (h | ⟨_,_,h⟩)
   ·omega
   ·exact h
  ·intro h; exact .inr ⟨a,b,h⟩
 rcases hc with rfl | rfl | rfl | rfl | rfl | rfl | rfl
 ·rw [hs.z]; exact (zE4 pl m).z
 ·rw [hs.o]; exact (zE4 pl m).o
 ·exact g _ (by omega) h1 (q0 (by omega))
 ·exact g _ (by omega) h1 (q1 (by omega))
 ·exact g _ (by omega) h1 (q2 (by omega))
 ·exact g _ (by omega) h1 (q3 (by omega))
 ·exact g _ (by omega) h1 (q4 (by omega))
theorem zMw {S:zA0}{k:Nat}{l:yA} (h:zA4 S k=some (l.map D.int)) (neg:Bool) (a:Int):oIn neg (.int a) (.lst k) S=.ok (.bl (if neg then !decide (a∈l) else decide (a∈l))) S:=by
 rw [← zCC neg a l S]
 have e:zHx S (.lst k)=some (l.map D.int):=h
 unfold oIn
 dsimp only
 rw [e]
 rfl
theorem ez {P:Ct→Bool}:∀ (l:yN) (s:Nat),(((qI9 s l.length).zip l).filter fun q=>P q.2).map (·.1)=(qI9 s l.length).filter (fun i=>match l[i - s]? with | some c=>P c | none=>false)
 | [],s=>rfl
 | c::l,s=>by
  rw [qC3,qT0,qJ4,qF5,qF5]
  have t:((qI9 (s+1) l.length).filter fun i=>match (c::l)[i - s]? with | some c=>P c | none=>false)=(qI9 (s+1) l.length).filter fun i=>match l[i - (s+1)]? with | some c=>P c | none=>false:=by
   apply qO6
   intro i hi
   have:=(List.mem_range'_1.mp hi).1
   rw [show i - s=(i - (s+1))+1 by omega,qD6]
  have ih:=ez (P:=P) l (s+1)
  simp only [qI7,List.getElem?_cons_zero]
  cases h:P c with
  | true=>simp only [if_true,qB9]; rw [ih,t]
  | false=>simp only [qE0,if_false]; rw [ih,t]
theorem zPi (cs:yN) (C:Int→Bool):((zBB cs).filter fun q=>C q.2.a != C q.2.b).map (fun q=>D.int (q.1:Nat))=(cutI cs C).map D.int:=by
 have:=ez (P:=fun c=>C c.a != C c.b) cs 0
 rw [← qQ5] at this
 unfold cutI
 rw [qE2]
 have e:((List.range cs.length).filter (cutB cs C))=((zBB cs).filter fun q=>C q.2.a != C q.2.b).map (·.1):=by
  unfold zBB; rw [this]; rfl
 rw [e,qE2]; rfl
structure HBs (cl:Nat→CLL):Prop where
 ch:zEq cl
 wi:zEh cl
 jb:zDv cl
 ib:zIV cl
 jo:zHd cl
 pf:zAQ cl
 wh:zDE cl
theorem zIi {N:Net} (S:zA0):oIx N.d (.int 2) S=.ok (.tup (N.cs.map Ct.d)) S:=by unfold Net.d; simp
theorem zRv (c:CLL) {nd sd r:D}{xs Z:yM}{S S1:zA0} (i1:oIx nd (.int 2) S=.ok (.tup xs) S) (hl:(zBw xs).length<lim) (e1:zAh [] (.many 2) (zBn c) (zBo c) [none,none,some sd] (zBw xs) S=.ok Z S) (e2:c "joins" [.lst S.length] (S++[.lst Z])=.ok r S1):zBb c [some nd,some sd] S=.rt r S1:=by
 simp [zBb,i1,hl,e1,e2]
theorem zFu (H:HBs cl) (n:Nat) {N:Net} (ok:N.g) {sd:D}{l:yA}{S:zA0} (hin:∀ x:Int,oIn true (.int x) sd S=.ok (.bl (!decide (x∈l))) S):Spc (cl (n+3) "join_beside" [N.d,sd] S) (.bl (jB (ends (zAt N.cs l)))) S:=by
 have hc:N.cs.length≤16:=by have:=ok.c1; omega
 have e1:zAh [] (.many 2) (zBn (cl (n+2))) (zBo (cl (n+2))) [none,none,some sd] ((zBB N.cs).map fun q=>.tup [.int (q.1:Nat),q.2.d]) S=.ok (((zBB N.cs).filter fun q=>!decide ((q.1:Int)∈l)).map fun q=>q.2.d) S:=by
  refine zB8 (fun q:Nat × Ct=>.tup [.int (q.1:Nat),q.2.d]) (zAf S) _ _ _ fun q hq=>⟨_,rfl,?_,fun _=>?_⟩
  ·have:=hin (q.1:Nat)
   simp [zBn,zAX,this]
  ·simp [zBo,zAX]
 have eZ:((zBB N.cs).filter fun q=>!decide ((q.1:Int)∈l)).map (fun q=>q.2.d)=(zAt N.cs l).map Ct.d:=by
  unfold zAt
  rw [qE2]
  congr 1
  apply qO6
  intro q _
  simp
 rw [eZ] at e1
 have hb:(zAt N.cs l).length≤100:=by
  unfold zAt
  rw [qA6]
  refine qC5 (qD7 ..) ?_
  rw [zCv]; omega
 have h7:In7 (zAt N.cs l):=fun c hc'=>by
  obtain ⟨i,hi,_⟩:=zE8.mp hc'
  exact ok.in7 (by decide) c (qC0 hi)
 obtain ⟨S2,e2,x2⟩:=zG7 H.jo H.pf n (zAt N.cs l) hb h7 (zA2 S ((zAt N.cs l).map Ct.d))
 refine ⟨S2,?_,(zA5 S _).trans x2⟩
 rw [show n+3=(n+2)+1 from rfl,H.jb]
 exact zA9 rfl (zRv _ (zIi S) (by rw [zBX,qA6,zCv,zAc]; omega) (by rw [zBX]; exact e1) e2)
theorem zEj (h:zEh cl) (n:Nat) {t:yA} (ht:t.length≤100) (e:Int) (S:zA0):cl (n+1) "without" [tD t,.int e] S=.ok (.lst S.length) (S++[.lst ((t.filter fun x=>decide (x≠e)).map D.int)]):=by
 have e1:zAh [] .one (zE0 (cl n)) (zE1 (cl n)) [none,some (.int e)] (t.map D.int) S=.ok ((t.filter fun x=>decide (x≠e)).map D.int) S:=by
  refine zB8 D.int (zAf S) _ _ _ fun x hx=>⟨_,rfl,?_,fun _=>?_⟩
  ·simp [zE0,zAX]
  ·simp [zE1,zAX]
 rw [h]
 refine zA9 rfl ?_
 have hl:(t.map D.int).length<lim:=by rw [qA6,zAc]; omega
 have hl':t.length<lim:=by rw [zAc]; omega
 simp [zDT,zAz,tD,e1,hl,hl']
theorem zIC {α:Type} (f:α→Bool):∀ l:List α,zDd (l.map fun d=>D.bl (f d))=some (l.map f)
 | []=>rfl
 | a::l=>by
  rw [qB9]
  show (zDd (l.map fun d=>D.bl (f d))).map _=_
  rw [zIC f l]; rfl
theorem zEz {α:Type}{S:zA0}{n:Nat} (g:List Bool→Bool) (f:α→Bool) (l:List α) (h:zA4 S n=some (l.map fun d=>D.bl (f d))):zBv g [.lst n] S=.ok (.bl (g (l.map f))) S:=by
 unfold zBv
 dsimp only
 rw [h]
 show (match zDd (l.map fun d=>D.bl (f d)) with | some bs=>R.ok (D.bl (g bs)) S | none=>.bad)=_
 rw [zIC]
theorem zKz {cs:yN}{C:Int→Bool}:(cutI cs C).length≤cs.length:=by
 unfold cutI
 rw [qA6]
 exact qC5 (qD7 ..) (by simp)
theorem zUh (c:CLL) {nd:D}{ts Z:yM}{b:Bool}{S S1 S2 S3:zA0} (e1:c "is_choice" [nd,.tup ts] S=.ok (.bl true) S1) (e2:c "join_beside" [nd,.tup ts] S1=.ok (.bl false) S2) (hl:ts.length<lim) (e3:zAh [] .one (fun _=>ret true) (zD9 c) [none,some nd,some (.tup ts)] ts S2=.ok Z S3)
  (f1:zBv (fun bs=>bs.all id) [.lst S3.length] (S3++[.lst Z])=.ok (.bl b) (S3++[.lst Z])):zBK c [some nd,some (.tup ts)] S=.rt (.bl b) (S3++[.lst Z]):=by
 simp [zBK,e1,e2,hl,e3,f1]
theorem zRF (c:CLL) {nd td r:D}{e:Int}{k:Nat}{S S1 S2:zA0} (w:c "without" [td,.int e] S=.ok (.lst k) S1) (e4:c "join_beside" [nd,.lst k] S1=.ok r S2):zD9 c [some (.int e),some nd,some td] S=.ok r S2:=by
 simp [zD9,w,e4]
structure HLs (cl:Nat→CLL):Prop where
 sh:zIT cl
 wi:zCK cl
theorem zTM (c:CLL) {ad bd:D}{xs Z:yM}{b:Bool}{S:zA0} (hl:xs.length<lim) (e1:zAh [] .one (zBC c) (zBD c) [none,some bd] xs S=.ok Z S) (q:oEq (.lst S.length) (.lst (S.length+1)) (S++[.lst Z,.lst []])=.ok (.bl b) (S++[.lst Z,.lst []])):zBy c [some (.tup xs),some bd] S=.rt (.bl b) (S++[.lst Z,.lst []]):=by
 simp [zBy,hl,e1,q]
theorem zHN (h:zCK cl) (n:Nat) {a b:yA} (ha:a.length≤100) (S:zA0):Spc (cl (n+1) "_law_within" [tD a,tD b] S) (.bl (a.all fun x=>decide (x∈b))) S:=by
 have e1:zAh [] .one (zBC (cl n)) (zBD (cl n)) [none,some (tD b)] (a.map D.int) S=.ok ((a.filter fun x=>!decide (x∈b)).map D.int) S:=by
  refine zB8 D.int (zAf S) _ _ _ fun x hx=>⟨_,rfl,?_,fun _=>?_⟩
  ·have:oIn true (.int x) (tD b) S=.ok (.bl (!decide (x∈b))) S:=zCC true x b S
   simp [zBC,zAX,this]
  ·simp [zBD,zAX]
 have eS:S++[O.lst ((a.filter fun x=>!decide (x∈b)).map D.int),O.lst []]=S++[O.lst ((a.filter fun x=>!decide (x∈b)).map D.int)]++[O.lst []]:=by simp
 have q:=zGw (S:=S++[O.lst ((a.filter fun x=>!decide (x∈b)).map D.int)]++[O.lst []]) (zAg (zA2 S _)) (zA2 (S++[O.lst ((a.filter fun x=>!decide (x∈b)).map D.int)]) []) (qC8.mpr (zBf (by omega) _)) rfl
 have eb:eqB ((a.filter fun x=>!decide (x∈b)).map D.int) []=(a.all fun x=>decide (x∈b)):=by
  apply zAR
  rw [zBh,qK5,qJ7,qC8]
  simp
 rw [eb,← eS,show (S++[O.lst ((a.filter fun x=>!decide (x∈b)).map D.int)]).length=S.length+1 by simp] at q
 refine ⟨S++[.lst ((a.filter fun x=>!decide (x∈b)).map D.int),.lst []],?_,zA5 S _⟩
 rw [h]
 exact zA9 rfl (zTM (ad:=.non) _ (by rw [qA6,zAc]; omega) e1 q)
theorem zRe (c:CLL) {nd:D}{xs Z1 Z2:yM}{pl i:Int}{m k2 r:Nat}{w w4:Option D}{S S2 S3 S4:zA0} (i1:∀ S,oIx nd (.int 1) S=.ok (.int pl) S) (p1:-4611686018427387904≤pl) (p2:pl<4611686018427387904) (hr:(pl - 2).toNat=r) (hl:(upD 2 r).length<lim)
  (e1:zAh [] .one (zC8 c) (zCa c) [none,some (.int i)] (upD 2 r) (S++[.lst [.int 0]])=.ok Z1 (S++[.lst [.int 0]])) (h2:S++[.lst [.int 0],.lst Z1]=S2) (a1:oAdd (.lst S.length) (.lst (S.length+1)) S2=.ok (.lst k2) S3)
  (i2:∀ S,oIx nd (.int 2) S=.ok (.tup xs) S) (hl2:(zBw xs).length<lim) (e2:zAh [] (.many 2) (zC9 c) (zCb c) [none,none,some (.lst k2)] (zBw xs) S3=.ok Z2 S3)
  (f1:zAO [.lst S3.length] (S3++[.lst Z2])=.ok (.tup Z2) (S3++[.lst Z2])) (s1:oSet (.dct m) (.tup Z2) (.bl true) (S3++[.lst Z2])=some S4) :
  zAU c [some nd,some (.dct m),some (.int i),w,w4] S=.nx [some nd,some (.dct m),some (.int i),some (.lst k2),w4] S4:=by
 simp [zAU,i1,p1,p2,hr,hl,e1,h2,a1,i2,hl2,e2,f1,s1]
theorem zKQ (n:Nat) {N:Net} (ok:N.g) {m j:Nat}{ts:List (yA)}{S:zA0} (hd:S[m]?=some (dO ts)) (hl:ts.length≤1000) (w w4:Option D) :
  ∃ k S',zAU (cl n) [some N.d,some (.dct m),some (.int (j:Nat)),w,w4] S=.nx [some N.d,some (.dct m),some (.int (j:Nat)),some (.lst k),w4] S'∧Kp (·=m) S S'∧S'[m]?=some (dO (addT ts (cutI N.cs fun x=>decide (x∈zDw N.pl j)))):=by
 have hc:N.cs.length≤16:=by have:=ok.c1; omega
 have p1:=ok.p1
 have p2:=ok.p2
 have hr:(N.pl - 2).toNat≤5:=by omega
 have e1:zAh [] .one (zC8 (cl n)) (zCa (cl n)) [none,some (.int (j:Nat))] (upD 2 (N.pl - 2).toNat) (S++[.lst [.int 0]])=.ok ((((List.range (N.pl - 2).toNat).map fun (k:Nat)=>(2:Int)+k).filter (bitB j)).map D.int) (S++[.lst [.int 0]]):=by
  have eu:upD 2 (N.pl - 2).toNat=((List.range (N.pl - 2).toNat).map fun (k:Nat)=>(2:Int)+k).map D.int:=by unfold upD; rw [qE2]; rfl
  rw [eu]
  refine zB8 D.int (zAf _) _ _ _ fun x hx=>⟨_,rfl,?_,fun _=>?_⟩
  ·obtain ⟨k,hk,rfl⟩:=qC9.mp hx
   have h0:(0:Int)≤2+(k:Int) - 2:=by omega
   unfold bitB
   generalize (2:Int)+(k:Int)=x at h0
   have h2x:2≤x:=by omega
   simp [zC8,zAX,oShr,h2x]
  ·simp [zCa,zAX]
 obtain ⟨Z1,hZ1⟩:∃ Z1,(((List.range (N.pl - 2).toNat).map fun (k:Nat)=>(2:Int)+k).filter (bitB j))=Z1:=⟨_,rfl⟩
 rw [hZ1] at e1
 have zl:Z1.length≤5:=by
  rw [← hZ1]
  refine qC5 (qD7 ..) ?_
  rw [qA6,qO2]; exact hr
 have hsd:(0:Int)::Z1=zDw N.pl j:=by unfold zDw; rw [hZ1]
 obtain ⟨S2,h2⟩:∃ S2,S++[O.lst [D.int 0],O.lst (Z1.map D.int)]=S2:=⟨_,rfl⟩
 have h2':S++[O.lst [D.int 0]]++[O.lst (Z1.map D.int)]=S2:=by rw [← h2]; simp
 have la:zA4 S2 S.length=some [D.int 0]:=by rw [← h2']; exact zAg (zA2 S _)
 have lb:zA4 S2 (S.length+1)=some (Z1.map D.int):=by
  have:=zA2 (S++[O.lst [D.int 0]]) (Z1.map D.int)
  rw [h2'] at this
  simpa using this
 have a1:=zC7 la lb (by rw [qA6,zAc]; simp; omega)
 obtain ⟨S3,h3⟩:∃ S3,S2++[O.lst ([D.int 0]++Z1.map D.int)]=S3:=⟨_,rfl⟩
 rw [h3] at a1
 have lk:zA4 S3 S2.length=some ((zDw N.pl j).map D.int):=by
  rw [← h3,zA2,← hsd]; rfl
 have e2:zAh [] (.many 2) (zC9 (cl n)) (zCb (cl n)) [none,none,some (.lst S2.length)] ((zBB N.cs).map fun q=>.tup [.int (q.1:Nat),q.2.d]) S3=.ok (((zBB N.cs).filter fun q=>decide (q.2.a∈zDw N.pl j) != decide (q.2.b∈zDw N.pl j)).map fun q=>D.int (q.1:Nat)) S3:=by
  refine zB8 (fun q:Nat × Ct=>.tup [.int (q.1:Nat),q.2.d]) (zAf _) _ _ _ fun q hq=>⟨_,rfl,?_,fun _=>?_⟩
  ·have o1:=zMw lk false q.2.a
   have o2:=zMw lk false q.2.b
   simp only [qE0,if_false] at o1 o2
   simp [zC9,zAX,Ct.d,o1,o2]
  ·simp [zCb,zAX]
 rw [zPi N.cs fun x=>decide (x∈zDw N.pl j)] at e2
 obtain ⟨t,ht⟩:∃ t,(cutI N.cs fun x=>decide (x∈zDw N.pl j))=t:=⟨_,rfl⟩
 rw [ht] at e2 ⊢
 have x3:Ex S S3:=by
  rw [← h3,← h2]
  exact (zA5 _ _).trans (zA5 _ _)
 have f1:zAO [.lst S3.length] (S3++[.lst (t.map D.int)])=.ok (.tup (t.map D.int)) _:=zCu (zA2 S3 _)
 have d4:(S3++[O.lst (t.map D.int)])[m]?=some (dO ts):=(zA5 S3 _).at (x3.at hd fun z=>z) fun z=>z
 have s1:=zR7 d4 (by rw [zAc]; omega) t
 have hlt:=(qA4.mp d4).1
 refine ⟨S2.length,(S3++[O.lst (t.map D.int)]).set m (dO (addT ts t)),zRe (pl:=N.pl) (xs:=N.cs.map Ct.d) _ (fun S=>by unfold Net.d; simp) (by omega) (by omega) rfl (by rw [show (upD 2 (N.pl - 2).toNat).length=(N.pl - 2).toNat by simp [upD],zAc]; omega) e1 h2 a1 (fun S=>zIi S) (by rw [zBX,qA6,zCv,zAc]; omega) (by rw [zBX]; exact e2) f1 s1,(x3.trans (zA5 _ _)).kp.trans (zCP _ _),qD9 hlt⟩
theorem zTN (c:CLL) {ad bd:D}{b1 b2:Bool}{S S1:zA0} (q:oNe ad bd S=.ok (.bl b1) S) (e:c "_law_within" [ad,bd] S=.ok (.bl b2) S1) (h:b1=true):zAC c [some ad,some bd] S=.ok b2 S1:=by
 subst h
 simp [zAC,q,e]
theorem zRc (c:CLL) {ad bd:D}{S:zA0} (q:oNe ad bd S=.ok (.bl false) S):zAC c [some ad,some bd] S=.ok false S:=by
 simp [zAC,q]
theorem zTO (c:CLL) {ad:D}{k:Nat}{L Z:yM}{b:Bool}{S S1:zA0} (l1:zA4 S k=some L) (hl:L.length<lim) (e:zAh [(k,L)] .one (zAC c) (zCc c) [none,some ad] L S=.ok Z S1) (q:oEq (.lst S1.length) (.lst (S1.length+1)) (S1++[.lst Z,.lst []])=.ok (.bl b) (S1++[.lst Z,.lst []])) :
  zBu c [some ad,some (.lst k)] S=.ok b (S1++[.lst Z,.lst []]):=by
 simp [zBu,l1,hl,e,q]
theorem zRd (c:CLL) {nd:D}{pl z:Int}{m k:Nat}{L Z:yM}{v2 v3 v4 w1 w2 w3 w4:Option D}{S S1 S2 S3:zA0} (i1:∀ S,oIx nd (.int 1) S=.ok (.int pl) S) (sh:∀ S,oShl (.int 1) (.int (pl - 2)) S=.ok (.int z) S) (z0:-4611686018427387904≤z) (z1:z<4611686018427387904) (hz:z.toNat=m) (hl:(upD 0 m).length<lim)
  (e1:zBg [] (gN 2) (zAU c) (upD 0 m) [some nd,some (.dct S.length),w2,w3,w4] (S++[.dk []])=.nx [some nd,some (.dct S.length),v2,v3,v4] S1) (f1:zAy [.dct S.length] S1=.ok (.lst k) S2) (l2:zA4 S2 k=some L) (hl2:L.length<lim)
  (e2:zAh [(k,L)] .one (zBu c) (zCd c) [none,some (.lst k)] L S2=.ok Z S3):zDD c [some nd,w1,w2,w3,w4] S=.rt (.lst S3.length) (S3++[.lst Z]):=by
 simp [zDD,i1,sh,z0,z1,hz,hl,e1,f1,l2,hl2,e2]
noncomputable def zES (L:List (yA)) (t:yA):Bool:=L.all fun u=>decide (u=t)||!(u.all fun x=>decide (x∈t))
theorem zFG (H:HLs cl) (n:Nat) {N:Net} (ok:N.g) (S:zA0):∃ L,zIW N.cs L∧L.length≤32∧LstR (cl (n+2) "_law_shuts" [N.d] S) S (L.map tD):=by
 have hc:N.cs.length≤16:=by have:=ok.c1; omega
 have p1:=ok.p1
 have p2:=ok.p2
 obtain ⟨m,hm⟩:∃ m,2 ^ (N.pl - 2).toNat=m:=⟨_,rfl⟩
 have m32:m≤32:=by
  rw [← hm]
  exact qC5 (qI8 (by omega) (show (N.pl - 2).toNat≤5 by omega)) (by decide)
 have d1:(S++[O.dk []])[S.length]?=some (dO []):=by rw [qA0 (qA9 _)]; simp [dO]
 obtain ⟨ρ',S1,e1,v2,v3,v4,ts,rfl,kp,d2,nd2,ln2,mem2⟩:=zB2 (w:=[]) (g:=gN 2) (b:=zAU (cl (n+1))) (items:=upD 0 m)
  (fun i ρ S'=>∃ v2 v3 v4 ts,ρ=[some N.d,some (.dct S.length),v2,v3,v4]∧Kp (·=S.length) (S++[O.dk []]) S'∧S'[S.length]?=some (dO ts)∧ts.Nodup∧ts.length≤i∧∀ t,t∈ts↔∃ j,j<i∧t=cutI N.cs (fun x=>decide (x∈zDw N.pl j)))
  (ρ:=[some N.d,some (.dct S.length),none,none,none]) (S:=S++[O.dk []]) (fun _ _ _ _=>zAf _) ⟨none,none,none,[],rfl,Kp.refl _ _,d1,qQ3,qA9 _,fun t=>by simp⟩
  (fun i d ρ S' hd hp=>by
   obtain ⟨v2,v3,v4,ts,rfl,kp,dd,nd,ln,mem⟩:=hp
   unfold upD at hd
   rw [qB7] at hd
   obtain ⟨j,hj,rfl⟩:=qA1.mp hd
   have hji:j=i∧i<m:=by
    obtain ⟨a,b⟩:=qA4.mp hj
    simp at a b
    exact ⟨b.symm,a⟩
   obtain ⟨rfl,him⟩:=hji
   obtain ⟨k,S2,e2,kp2,d3⟩:=zKQ (cl:=cl) (n+1) ok (j:=j) dd (by omega) v3 v4
   refine ⟨[some N.d,some (.dct S.length),some (.int (j:Nat)),v3,v4],S',by simp,_,S2,.inl e2,_,_,_,_,rfl,kp.trans kp2,d3,zS2 nd,by have:=zPs ts (cutI N.cs fun x=>decide (x∈zDw N.pl j)); omega,fun t=>?_⟩
   rw [zKj,mem]
   constructor
   ·rintro (⟨i,hi,q⟩ | rfl)
    ·exact ⟨i,by omega,q⟩
    ·exact ⟨j,by omega,rfl⟩
   ·rintro ⟨i,hi,q⟩
    by_cases e:i=j
    ·subst e; exact .inr q
    ·exact .inl ⟨i,by omega,q⟩)
 have hu:(upD 0 m).length=m:=by simp [upD]
 rw [hu] at ln2 mem2
 have f1:=zLh d2
 have tp:=zBL ts
 obtain ⟨L,hL⟩:∃ L,zEr ts=L:=⟨_,rfl⟩
 have so:=zC5 ts
 rw [hL] at f1 tp so
 obtain ⟨S2,h2⟩:∃ S2,S1++[O.lst (L.map tD)]=S2:=⟨_,rfl⟩
 rw [h2] at f1
 have l2:zA4 S2 S1.length=some (L.map tD):=by rw [← h2]; exact zA2 _ _
 have Ll:L.length≤32:=by rw [tp.length_eq]; omega
 have cl16:∀ t∈L,t.length≤16:=fun t ht=>by
  obtain ⟨j,_,rfl⟩:=(mem2 t).mp (tp.mem_iff.mp ht)
  exact qC5 zKz hc
 have pt:∀ (k:Nat) (t:yA),plain (k+2) (tD t)=true:=fun k t=>zDI (n:=k+1) (zBf (by omega) t)
 obtain ⟨S3,e3,x3⟩:=zCg tD (w:=[(S1.length,L.map tD)]) (t:=.one) (tc:=zBu (cl (n+1))) (c:=zCd (cl (n+1))) (ρ0:=[none,some (.lst S1.length)]) (fun S'=>Ex S2 S') (fun S' hx=>zD0 (hx.lst l2 fun z=>z))
  (zES L) tD L (S:=S2) (Kp.refl _ _) (fun t ht S' hx=>by
   refine ⟨[some (tD t),some (.lst S1.length)],rfl,?_⟩
   have l4:zA4 S' S1.length=some (L.map tD):=hx.lst l2 fun z=>z
   obtain ⟨S4,e4,x4⟩:=zCg tD (w:=[(S1.length,L.map tD)]) (t:=.one) (tc:=zAC (cl (n+1))) (c:=zCc (cl (n+1))) (ρ0:=[none,some (tD t)]) (fun S''=>Ex S' S'') (fun S'' hx=>zD0 (hx.lst l4 fun z=>z))
    (fun u=>!decide (u=t)&&u.all fun x=>decide (x∈t)) tD L (S:=S') (Kp.refl _ _) (fun u hu S'' hx=>by
     refine ⟨[some (tD u),some (tD t)],rfl,?_⟩
     have q:=zMv (x:=tD u) (y:=tD t) S'' (pt 38 u) (pt 38 t)
     by_cases e:u=t
     ·subst e
      rw [show (!eqB (tD u) (tD u))=false by rw [zBh.mpr rfl]; rfl] at q
      refine ⟨S'',by simpa using zRc (cl (n+1)) q,fun _=>hx,fun z=>by simp at z⟩
     ·have ne:tD u≠tD t:=fun z=>e (by
       unfold tD at z
       injection z with z
       exact (qK9 (fun a b q=>D.int.inj q)).mp z)
      rw [zIe ne] at q
      obtain ⟨S5,e5,x5⟩:=zHN H.wi n (a:=u) (b:=t) (by have:=cl16 u hu; omega) S''
      refine ⟨S5,?_,fun _=>hx.trans x5,fun _=>⟨S5,by simp [zCc],hx.trans x5⟩⟩
      rw [show (!decide (u=t)&&u.all fun x=>decide (x∈t))=(u.all fun x=>decide (x∈t)) by simp [e]]
      exact zTN _ q e5 rfl)
   obtain ⟨Z,hZ⟩:∃ Z,(L.filter fun u=>!decide (u=t)&&u.all fun x=>decide (x∈t))=Z:=⟨_,rfl⟩
   rw [hZ] at e4
   have eS:S4++[O.lst (Z.map tD),O.lst []]=S4++[O.lst (Z.map tD)]++[O.lst []]:=by simp
   have q:=zGw (S:=S4++[O.lst (Z.map tD)]++[O.lst []]) (zAg (zA2 S4 _)) (zA2 (S4++[O.lst (Z.map tD)]) []) (qC8.mpr fun d hd=>by obtain ⟨u,_,rfl⟩:=qC9.mp hd; exact pt 37 u) rfl
   have eb:eqB (Z.map tD) []=zES L t:=by
    apply zAR
    rw [zBh,qK5,← hZ,qJ7]
    unfold zES
    rw [qC8]
    constructor
    ·intro h u hu
     have:=h u hu
     simp only [qC6,qH8,decide_eq_false_iff_not,not_and] at this
     by_cases e:u=t
     ·simp [e]
     ·have:=this e
      simp only [qS8] at this
      simp [this]
    ·intro h u hu
     have:=h u hu
     simp only [qF9,decide_eq_true_eq,qH8] at this
     rcases this with e | e
     ·simp [e]
     ·simp [e]
   rw [eb,← eS,show (S4++[O.lst (Z.map tD)]).length=S4.length+1 by simp] at q
   exact ⟨S4++[.lst (Z.map tD),.lst []],zTO _ l4 (by rw [qA6,zAc]; omega) e4 q,fun _=>(hx.trans x4).trans (zA5 _ _),fun _=>⟨S4++[.lst (Z.map tD),.lst []],by simp [zCd],(hx.trans x4).trans (zA5 _ _)⟩⟩)
 have cutL:∀ t,t∈L↔∃ C,Side C∧t=cutI N.cs C:=fun t=>by
  rw [tp.mem_iff,mem2]
  constructor
  ·rintro ⟨j,_,q⟩; exact ⟨_,zE4 N.pl j,q⟩
  ·rintro ⟨C,hs,q⟩
   obtain ⟨j,hj,hjc⟩:=zM1 hs p1 p2
   refine ⟨j,by rw [← hm]; exact hj,?_⟩
   rw [q]
   refine zPh fun c hcm=>?_
   obtain ⟨a0,ab,bp,_⟩:=ok.c2 c hcm
   exact ⟨(hjc c.a a0 (by omega)).symm,(hjc c.b (by omega) bp).symm⟩
 refine ⟨L.filter (zES L),⟨(tp.symm.nodup nd2).sublist qJ1,so.sublist qJ1,fun t=>?_⟩,qC5 (qD7 ..) Ll,S3.length,S3++[.lst ((L.filter (zES L)).map tD)],?_,?_,?_,zA2 _ _⟩
 ·rw [qD5,cutL]
  constructor
  ·rintro ⟨⟨C,hs,q⟩,hb⟩
   refine ⟨C,hs,q,fun C' hs' hsub=>?_⟩
   have:=qC8.mp hb (cutI N.cs C') ((cutL _).mpr ⟨C',hs',rfl⟩)
   simp only [qF9,decide_eq_true_eq,qH8] at this
   rcases this with e | e
   ·exact e
   ·rw [qC8.mpr fun x hx=>decide_eq_true (hsub x hx)] at e; cases e
  ·rintro ⟨C,hs,q,hl⟩
   refine ⟨⟨C,hs,q⟩,qC8.mpr fun u hu=>?_⟩
   obtain ⟨C',hs',rfl⟩:=(cutL u).mp hu
   by_cases e:(cutI N.cs C').all (fun x=>decide (x∈t))=true
   ·rw [hl C' hs' fun x hx=>of_decide_eq_true (qC8.mp e x hx)]; simp
   ·rw [Bool.eq_false_iff.mpr e]; simp
 ·rw [show n+2=(n+1)+1 from rfl,H.sh]
  refine zA9 rfl (zRd (pl:=N.pl) (z:=(m:Int)) _ (fun S=>by unfold Net.d; simp) (fun S=>?_) (by omega) (by omega) (by omega) (by rw [hu,zAc]; omega) e1 f1 l2 (by rw [qA6,zAc]; omega) e3)
  unfold oShl
  dsimp only
  rw [if_pos ⟨by omega,by omega,by decide⟩,← hm]
  congr 2
  rw [Int.one_mul]; norm_cast
 ·have x12:Ex S S2:=by
   refine Kp.trans ⟨?_,fun j hj _=>?_⟩ (by rw [← h2]; exact zA5 _ _)
   ·have:=kp.le; simp at this; omega
   ·rw [kp.eq j (by simp; omega) (by omega),qA7 hj]
  exact (x12.trans x3).trans (zA5 _ _)
 ·have:=kp.le
  have:=x3.le
  rw [← h2] at this
  simp at *
  omega
theorem zPI {α:Type} (f:α→Nat):∀ l:List α,l≠[]→∃ v∈l,∀ u∈l,f u≤f v
 | [],h=>absurd rfl h
 | [a],_=>⟨a,qG1 _,fun u hu=>by rw [qA8.mp hu]; exact qA9 _⟩
 | a::b::l,_=>by
  obtain ⟨v,hv,h⟩:=zPI f (b::l) (by simp)
  by_cases hc:f a≤f v
  ·exact ⟨v,qC7 _ hv,fun u hu=>by
    rcases qB6.mp hu with rfl | hu
    ·exact hc
    ·exact h u hu⟩
  ·exact ⟨a,qD4 ..,fun u hu=>by
    rcases qB6.mp hu with rfl | hu
    ·exact qA9 _
    ·have:=h u hu; omega⟩
theorem zNj:∀ d:Nat,d ^ 3≤3 ^ d
 | 0=>by decide
 | 1=>by decide
 | 2=>by decide
 | 3=>by decide
 | d+4=>by
  have ih:=zNj (d+3)
  rw [Nat.pow_succ 3 (d+3)]
  have:(d+4) ^ 3≤(d+3) ^ 3*3:=by
   have h1:(3*(d+4)) ^ 3≤(4*(d+3)) ^ 3:=qN3 (by omega) 3
   rw [qT3,qT3] at h1
   have e1:(3:Nat) ^ 3=27:=by decide
   have e2:(4:Nat) ^ 3=64:=by decide
   rw [e1,e2] at h1
   omega
  omega
theorem zN4 {cs:yN}{b:Nat}:∀ l:List Wk,(∀ v∈l,(Vs cs v).length≤b)→(l.flatMap (Vs cs)).length≤l.length*b
 | [],_=>by simp
 | v::l,h=>by
  have:=zN4 l fun u hu=>h u (qC7 _ hu)
  have:=h v (qD4 ..)
  rw [qO5,qB1,qC3,qT1,qT2]; omega
theorem zNK {cs:yN} (h7:In7 cs):∀ (f:Nat) (w:Wk),WOk cs w→9 - w.1.length≤f→(Vs cs w).length ^ 3≤3 ^ live cs w
 | 0,w,h,hf=>by have:=h.le; omega
 | f+1,w,h,hf=>by
  rw [zPt h7 h]
  split
  ·simp only [qE4,Nat.one_pow]; exact Nat.one_le_pow _ _ (by decide)
  ·by_cases hk:kids cs w=[]
   ·rw [hk]; simp
   ·obtain ⟨v,hv,hmax⟩:=zPI (fun v=>(Vs cs v).length) (kids cs w) hk
    obtain ⟨vo,vl⟩:=zGD h7 h v hv
    have ih:=zNK h7 f v vo (by omega)
    have kl:=zF3 h v hv
    have h1:=zN4 (cs:=cs) (b:=(Vs cs v).length) (kids cs w) hmax
    calc ((kids cs w).flatMap (Vs cs)).length ^ 3≤((kids cs w).length*(Vs cs v).length) ^ 3:=qN3 h1 3
     _=(kids cs w).length ^ 3*(Vs cs v).length ^ 3:=qT3 ..
     _≤3 ^ (kids cs w).length*3 ^ live cs v:=Nat.mul_le_mul (zNj _) ih
     _=3 ^ ((kids cs w).length+live cs v):=(Nat.pow_add ..).symm
     _≤3 ^ live cs w:=qI8 (by decide) kl
theorem zNW {N:Net} (ok:N.g):(zDt N).length≤400:=by
 have hc:N.cs.length≤16:=by have:=ok.c1; omega
 have h:=zNK (ok.in7 (by decide)) 9 w0 (zQa N.cs) (by omega)
 have hl:live N.cs w0≤16:=qC5 (qD7 ..) hc
 have h2:3 ^ live N.cs w0≤3 ^ 16:=qI8 (by decide) hl
 unfold zDt
 rw [(zBL _).length_eq]
 apply Classical.byContradiction
 intro hn
 have:401 ^ 3≤(Vs N.cs w0).length ^ 3:=qN3 (by omega) 3
 have e1:(401:Nat) ^ 3=64481201:=by decide
 have e2:(3:Nat) ^ 16=43046721:=by decide
 omega
def Few (t:yA):Prop:=t.length≤16∧∀ x∈t,0≤x∧x<100
theorem zUU {cs:yN} (h7:In7 cs) (hc:cs.length≤16):∀ (f:Nat) (w:Wk),WOk cs w→(∀ x∈w.2,0≤x∧x<100)→9 - w.1.length≤f→∀ t∈Vs cs w,Few t
 | 0,w,h,_,hf=>by have:=h.le; omega
 | f+1,w,h,hn,hf=>by
  intro t ht
  rw [zPt h7 h] at ht
  split at ht
  ·rw [qA8.mp ht]
   have p:=zDo w.2
   refine ⟨by rw [p.length_eq]; have:=h.ln; have:=h.le; omega,fun x hx=>hn x (p.mem_iff.mp hx)⟩
  ·obtain ⟨v,hv,ht⟩:=List.mem_flatMap.mp ht
   obtain ⟨vo,vl⟩:=zGD h7 h v hv
   refine zUU h7 hc f v vo (fun x hx=>?_) (by omega) t ht
   obtain ⟨q,hq,e⟩:=qI4.mp hv
   obtain ⟨u,_,_,rfl⟩:=zEx (cs:=cs) e
   rcases qB4.mp hx with hx | hx
   ·exact hn x hx
   ·rw [qA8.mp hx]
    have:=(qA4.mp (zFg hq)).1
    omega
theorem zHi {N:Net} (ok:N.g):∀ t∈zDt N,Few t:=fun t ht=>by
 have hc:N.cs.length≤16:=by have:=ok.c1; omega
 exact zUU (ok.in7 (by decide)) hc 9 w0 (zQa _) (fun x hx=>by simp [w0] at hx) (by omega) t ((zBL _).mem_iff.mp ht)
theorem zIW.few {N:Net} (ok:N.g) {L:List (yA)} (h:zIW N.cs L):∀ t∈L,Few t:=fun t ht=>by
 have hc:N.cs.length≤16:=by have:=ok.c1; omega
 obtain ⟨C,_,rfl,_⟩:=(h.mem t).mp ht
 refine ⟨qC5 zKz hc,fun x hx=>?_⟩
 obtain ⟨i,c,hi,_,rfl⟩:=zGy.mp hx
 have:=(qA4.mp hi).1
 omega
noncomputable def goS (n:Nat):yG→yM→Bool
 | _,[]=>true
 | o,.int x::ys=>(decide (0≤x)&&decide (x<(n:Int)))&&((match o with | some p=>decide (p<x) | none=>true)&&goS n (some x) ys)
 | _,_::_=>false
noncomputable def chB (n:Nat):D→Bool
 | .tup xs=>goS n none xs
 | _=>false
structure Rs (n:Nat) (t:yA):Prop where
 r:t.Pairwise (·<·)
 i:∀ x∈t,0≤x∧x<(n:Int)
theorem zCG:∀ (n:Nat) (o:yG) (xs:yM),goS n o xs=true→∃ t:yA,xs=t.map D.int∧Rs n t∧∀ p,o=some p→∀ x∈t,p<x
 | n,o,[],_=>⟨[],rfl,⟨.nil,fun x hx=>by cases hx⟩,fun p _ x hx=>by cases hx⟩
 | n,o,d::ys,h=>by
  cases d with
  | int x =>
   simp only [goS,qC6,decide_eq_true_eq] at h
   obtain ⟨⟨h0,h1⟩,h2,h3⟩:=h
   obtain ⟨t,rfl,rs,hp⟩:=zCG n (some x) ys h3
   refine ⟨x::t,rfl,⟨qE7.mpr ⟨hp x rfl,rs.r⟩,fun y hy=>?_⟩,fun p e y hy=>?_⟩
   ·rcases qB6.mp hy with rfl | hy
    ·exact ⟨h0,h1⟩
    ·exact rs.i y hy
   ·subst e
    have hpx:p<x:=by simpa using h2
    rcases qB6.mp hy with rfl | hy
    ·exact hpx
    ·have:=hp x rfl y hy; omega
  | _=>simp [goS] at h
theorem zPS:∀ (n:Nat) (o:yG) (t:yA),Rs n t→(∀ p,o=some p→∀ x∈t,p<x)→goS n o (t.map D.int)=true
 | n,o,[],_,_=>rfl
 | n,o,x::t,rs,hp=>by
  have h:=qE7.mp rs.r
  have hx:=rs.i x (qD4 ..)
  simp only [qB9,goS,qC6,decide_eq_true_eq]
  refine ⟨hx,?_,zPS n (some x) t ⟨h.2,fun y hy=>rs.i y (qC7 _ hy)⟩ fun p e y hy=>by cases e; exact h.1 y hy⟩
  cases o with
  | none=>rfl
  | some p=>simpa using hp p rfl x (qD4 ..)
noncomputable def upI (n:Nat):yA:=(List.range n).map fun (i:Nat)=>(i:Int)
theorem zPv (n:Nat):(upI n).Pairwise (·<·):=by
 unfold upI
 rw [qK1]
 exact (qP3).imp fun h=>by omega
theorem zPD (n:Nat) (t:yA):t=(upI n).filter (fun x=>decide (x∈t))↔Rs n t:=by
 have mu:∀ x,x∈upI n↔0≤x∧x<(n:Int):=fun x=>by
  unfold upI
  rw [qC9]
  constructor
  ·rintro ⟨i,hi,rfl⟩; have:=qG3.mp hi; omega
  ·rintro ⟨h0,h1⟩; exact ⟨x.toNat,qG3.mpr (by omega),by omega⟩
 constructor
 ·intro h
  refine ⟨?_,fun x hx=>?_⟩
  ·rw [h]; exact (zPv n).sublist qJ1
  ·rw [h] at hx; exact (mu x).mp (qD5.mp hx).1
 ·intro rs
  have nd1:t.Nodup:=rs.r.imp fun h=>by omega
  have s2:=(zPv n).sublist (qJ1 (p:=fun x=>decide (x∈t)))
  have nd2:((upI n).filter fun x=>decide (x∈t)).Nodup:=s2.imp fun h=>by omega
  have p:t.Perm ((upI n).filter fun x=>decide (x∈t)):=(List.perm_ext_iff_of_nodup nd1 nd2).mpr fun x=>by
   rw [qD5,mu]
   constructor
   ·intro hx; exact ⟨rs.i x hx,decide_eq_true hx⟩
   ·rintro ⟨_,hx⟩; exact of_decide_eq_true hx
  exact p.eq_of_pairwise (fun a b _ _ h1 h2=>by omega) rs.r s2
def TK (S:zA0) (x:D):Prop:=kd S x∧∀ xs,x=.tup xs→∀ y∈xs,kd S y
theorem zUg (c:CLL) {nd x:D}{S:zA0} (f:zAw [x,.ty "tuple"] S=.ok (.bl false) S):zAv c [some nd,some x] S=.rt (.bl false) S:=by
 simp [zAv,f]
theorem zUf (c:CLL) {nd:D}{ts bs:yM}{S:zA0} (l0:ts.length<lim) (e1:zAh [] .one (fun _=>ret true) (zAV c) [none] ts S=.ok bs S) (f1:zBv (fun bs=>bs.all id) [.lst S.length] (S++[.lst bs])=.ok (.bl false) (S++[.lst bs])):zAv c [some nd,some (.tup ts)] S=.rt (.bl false) (S++[.lst bs]):=by
 simp [zAv,l0,e1,f1]
theorem zRE (c:CLL) {nd:D}{ts xs Z bs:yM}{m:Nat}{z:Int}{b:Bool}{S S1 S2 S3:zA0} (l0:ts.length<lim) (e1:zAh [] .one (fun _=>ret true) (zAV c) [none] ts S=.ok bs S) (h1:S++[.lst bs]=S1) (f1:zBv (fun bs=>bs.all id) [.lst S.length] S1=.ok (.bl true) S1)
  (h2:S1++[.lst ts]=S2) (i1:∀ S,oIx nd (.int 2) S=.ok (.tup xs) S) (fl:∀ S,fLen [.tup xs] S=.ok (.int z) S) (hz:z.toNat=m) (m0:-4611686018427387904≤z) (m1:z<4611686018427387904) (hl:(upD 0 m).length<lim)
  (e2:zAh [] .one (zCe c) (zCf c) [none,some (.tup ts)] (upD 0 m) S2=.ok Z S2) (h3:S2++[.lst Z]=S3) (q:oEq (.lst S1.length) (.lst S2.length) S3=.ok (.bl b) S3) :
  zAv c [some nd,some (.tup ts)] S=.rt (.bl b) S3:=by
 simp [zAv,l0,e1,h1,f1,h2,i1,fl,hz,m0,m1,hl,e2,h3,q]
theorem zGe (H:HBs cl) (n:Nat) {N:Net} (hc:N.cs.length≤16) {x:D}{S:zA0} (hx:TK S x) (hl:∀ xs,x=.tup xs→xs.length≤100):Spc (cl (n+2) "is_choice" [N.d,x] S) (.bl (chB N.cs.length x)) S:=by
 have ft:=zPO hx.1
 by_cases hT:isT x=true
 ·obtain ⟨xs,rfl⟩:∃ xs,x=.tup xs:=by cases x <;> first | exact ⟨_,rfl⟩ | cases hT
  have hxl:=hl xs rfl
  have lx:xs.length<lim:=by rw [zAc]; omega
  have e1:zAh [] .one (fun _=>ret true) (zAV (cl (n+1))) [none] xs S=.ok (xs.map fun y=>D.bl (isW y)) S:=by
   have:=zGd (fun d:D=>d) (w:=[]) (t:=.one) (c:=zAV (cl (n+1))) (ρ0:=[none]) (zAf S) (fun y=>D.bl (isW y)) xs fun y hy=>⟨[some y],rfl,by
    have:=zHS H.wh n (hx.2 xs rfl y hy)
    simp [zAV,this]⟩
   simpa using this
  have f1:=zEz (S:=S++[.lst (xs.map fun y=>D.bl (isW y))]) (n:=S.length) (fun bs=>bs.all id) isW xs (zA2 S _)
  cases ha:(xs.map isW).all id with
  | false =>
   rw [ha] at f1
   have:chB N.cs.length (.tup xs)=false:=by
    cases hb:chB N.cs.length (.tup xs) with
    | false=>rfl
    | true =>
     obtain ⟨t,rfl,_⟩:=zCG _ _ _ hb
     rw [qE2] at ha
     have:(t.map (isW∘D.int)).all id=true:=by simp [isW]
     rw [this] at ha; cases ha
   rw [this]
   refine ⟨_,?_,zA5 S [.lst (xs.map fun y=>D.bl (isW y))]⟩
   rw [show n+2=(n+1)+1 from rfl,H.ch]
   exact zA9 rfl (zUf _ lx e1 f1)
  | true =>
   rw [ha] at f1
   obtain ⟨t,rfl⟩:∃ t:yA,xs=t.map D.int:=by
    clear e1 f1 lx hxl ft hT hx hl
    induction xs with
    | nil=>exact ⟨[],rfl⟩
    | cons y ys ih =>
     simp only [qB9,qJ8,qC6] at ha
     obtain ⟨t,rfl⟩:=ih ha.2
     cases y <;> first | exact ⟨_::t,rfl⟩ | cases ha.1
   have eb:eqB (t.map D.int) (((upI N.cs.length).filter fun x=>decide (x∈t)).map D.int)=chB N.cs.length (.tup (t.map D.int)):=by
    apply zAR
    rw [zBh]
    constructor
    ·intro h
     have h':=(qK9 (fun a b q=>D.int.inj q)).mp h
     exact zPS _ _ t ((zPD _ t).mp h') fun p e=>by cases e
    ·intro h
     obtain ⟨t',e,rs,_⟩:=zCG _ _ _ h
     have:=(qK9 (fun a b q=>D.int.inj q)).mp e
     subst this
     rw [← (zPD _ t).mpr rs]
   obtain ⟨S1,h1⟩:∃ S1,S++[O.lst ((t.map D.int).map fun y=>D.bl (isW y))]=S1:=⟨_,rfl⟩
   obtain ⟨S2,h2⟩:∃ S2,S1++[O.lst (t.map D.int)]=S2:=⟨_,rfl⟩
   obtain ⟨Z,hZ⟩:∃ Z,(upI N.cs.length).filter (fun x=>decide (x∈t))=Z:=⟨_,rfl⟩
   obtain ⟨S3,h3⟩:∃ S3,S2++[O.lst (Z.map D.int)]=S3:=⟨_,rfl⟩
   rw [hZ] at eb
   have la:zA4 S2 S1.length=some (t.map D.int):=by rw [← h2]; exact zA2 _ _
   have la3:zA4 S3 S1.length=some (t.map D.int):=by rw [← h3]; exact zAg la
   have lb3:zA4 S3 S2.length=some (Z.map D.int):=by rw [← h3]; exact zA2 _ _
   have q:=zGw la3 lb3 (qC8.mpr (zBf (by omega) t)) (qC8.mpr (zBf (by omega) Z))
   rw [eb] at q
   rw [h1] at f1
   have e2:zAh [] .one (zCe (cl (n+1))) (zCf (cl (n+1))) [none,some (.tup (t.map D.int))] (upD 0 N.cs.length) S2=.ok (Z.map D.int) S2:=by
    have eu:upD 0 N.cs.length=(upI N.cs.length).map D.int:=by
     unfold upD upI; rw [qE2]; apply qI0; intro k _; simp
    rw [eu,← hZ]
    refine zB8 D.int (zAf S2) _ _ _ fun x hx=>⟨_,rfl,?_,fun _=>?_⟩
    ·have:=zCC false x t S2
     simp [zCe,zAX,this]
    ·simp [zCf,zAX]
   have x3:Ex S S3:=by
    rw [← h3,← h2,← h1]
    exact ((zA5 S _).trans (zA5 _ _)).trans (zA5 _ _)
   refine ⟨S3,?_,x3⟩
   rw [show n+2=(n+1)+1 from rfl,H.ch]
   obtain ⟨z,hz⟩:∃ z:Int,(N.cs.length:Int)=z:=⟨_,rfl⟩
   exact zA9 rfl (zRE (ts:=t.map D.int) (xs:=N.cs.map Ct.d) (m:=N.cs.length) (z:=z) _ lx e1 h1 f1 h2 (fun S=>zIi S) (fun S=>by rw [← hz]; show R.ok (D.int ((N.cs.map Ct.d).length:Nat)) S=_; rw [qA6]) (by omega) (by omega) (by omega) (by rw [show (upD 0 N.cs.length).length=N.cs.length by simp [upD],zAc]; omega) e2 h3 q)
 ·have hT':isT x=false:=by simpa using hT
  rw [hT'] at ft
  have:chB N.cs.length x=false:=by cases x <;> first | rfl | exact absurd rfl hT
  rw [this]
  refine ⟨S,?_,Kp.refl _ _⟩
  rw [show n+2=(n+1)+1 from rfl,H.ch]
  exact zA9 rfl (zUg _ ft)
structure HLw (cl:Nat→CLL):Prop where
 ma:zDi cl
 jo:zEp cl
 re:zFB cl
 wh:zCh cl
 so:zFz cl
 iw:zDW cl
 ib:zDX cl
theorem zTS (c:CLL) {nd td d:D}{csd:D}{i z:Int}{S:zA0} (i2:oIx nd (.int 2) S=.ok csd S) (fl:fLen [csd] S=.ok (.int z) S) (e1:c "_law_whole" [d,.int 0,.int z] S=.ok (.bl false) S):zAa c [some nd,some td,some (.int i),some d] S=.rt (.bl false) S:=by
 simp [zAa,i2,fl,e1]
theorem zOM (c:CLL) {nd td d:D}{csd:D}{z:Int}{S:zA0} (i2:oIx nd (.int 2) S=.ok csd S) (fl:fLen [csd] S=.ok (.int z) S) (e1:c "_law_whole" [d,.int 0,.int z] S=.ok (.bl true) S):zAa c [some nd,some td,some (.int 0),some d] S=.nx [some nd,some td,some (.int 0),some d] S:=by
 simp [zAa,i2,fl,e1]
theorem zRf (c:CLL) {nd td:D}{csd:D}{i z x p:Int}{S:zA0} (i2:oIx nd (.int 2) S=.ok csd S) (fl:fLen [csd] S=.ok (.int z) S) (e1:c "_law_whole" [.int x,.int 0,.int z] S=.ok (.bl true) S) (hi:0<i) (ix:oIx td (.int (i - 1)) S=.ok (.int p) S):zAa c [some nd,some td,some (.int i),some (.int x)] S=if p<x then .nx [some nd,some td,some (.int i),some (.int x)] S else .rt (.bl false) S:=by
 by_cases h:p<x
 ·have h':¬ x≤p:=by omega
  simp [zAa,i2,fl,e1,hi,ix,h,h']
 ·have h':x≤p:=by omega
  simp [zAa,i2,fl,e1,hi,ix,h,h']
theorem zHr (h:zCh cl) (n:Nat) {N:Net}{xs:yM}{S:zA0}:∀ (ys:yM) (pre:yA) (v2 v3:Option D),xs=pre.map D.int++ys→(∀ y∈ys,kd S y) →
  (goS N.cs.length pre.getLast? ys=false∧zBg [] (gT [(gN 2),(gN 3)]) (zAa (cl (n+1))) (((qI9 pre.length ys.length).zip ys).map fun q=>.tup [.int (q.1:Nat),q.2]) [some N.d,some (.tup xs),v2,v3] S=.rt (.bl false) S)∨(goS N.cs.length pre.getLast? ys=true∧∃ ρ,zBg [] (gT [(gN 2),(gN 3)]) (zAa (cl (n+1))) (((qI9 pre.length ys.length).zip ys).map fun q=>.tup [.int (q.1:Nat),q.2]) [some N.d,some (.tup xs),v2,v3] S=.nx ρ S)
 | [],pre,v2,v3,_,_=>.inr ⟨by cases pre.getLast? <;> rfl,_,by
   show zBg [] _ _ [] _ S=_
   unfold zBg; rw [if_pos (zAf S)]⟩
 | d::ys,pre,v2,v3,hxs,hk=>by
  have i2:=zIi (N:=N) S
  have fl:fLen [.tup (N.cs.map Ct.d)] S=.ok (.int (N.cs.length:Nat)) S:=by
   show R.ok (D.int ((N.cs.map Ct.d).length:Nat)) S=_
   rw [qA6]
  have ew:=zGC h n 0 (N.cs.length:Int) (hk d (qD4 ..))
  rw [qC3,qT0,qJ4,qB9]
  have step:zBg [] (gT [(gN 2),(gN 3)]) (zAa (cl (n+1))) (.tup [.int (pre.length:Nat),d]::((qI9 (pre.length+1) ys.length).zip ys).map fun q=>.tup [.int (q.1:Nat),q.2]) [some N.d,some (.tup xs),v2,v3] S=(match zAa (cl (n+1)) [some N.d,some (.tup xs),some (.int (pre.length:Nat)),some d] S with | .nx ρ2 S2=>zBg [] (gT [(gN 2),(gN 3)]) (zAa (cl (n+1))) (((qI9 (pre.length+1) ys.length).zip ys).map fun q=>.tup [.int (q.1:Nat),q.2]) ρ2 S2 | .ct ρ2 S2=>zBg [] (gT [(gN 2),(gN 3)]) (zAa (cl (n+1))) (((qI9 (pre.length+1) ys.length).zip ys).map fun q=>.tup [.int (q.1:Nat),q.2]) ρ2 S2 | .bk ρ2 S2=>.nx ρ2 S2 | r=>r):=by
   conv=>lhs; unfold zBg
   rw [if_pos (zAf S)]
   rfl
  rw [step]
  cases hw:whD 0 (N.cs.length:Int) d with
  | false =>
   rw [hw] at ew
   rw [zTS _ i2 fl ew]
   refine .inl ⟨?_,rfl⟩
   cases d with
   | int x =>
    have:(decide (0≤x)&&decide (x<(N.cs.length:Int)))=false:=by simpa [whD] using hw
    simp only [goS,this,qL1]
   | _=>cases pre.getLast? <;> rfl
  | true =>
   rw [hw] at ew
   obtain ⟨x,rfl,hx⟩:∃ x,d=.int x∧(decide (0≤x)&&decide (x<(N.cs.length:Int)))=true:=by
    cases d with
    | int x=>exact ⟨x,rfl,by simpa [whD] using hw⟩
    | _=>simp [whD] at hw
   have hxs':xs=(pre++[x]).map D.int++ys:=by rw [hxs]; simp
   have ih:=zHr h n (N:=N) (S:=S) ys (pre++[x]) (some (.int (pre.length:Nat))) (some (.int x)) hxs' fun y hy=>hk y (qC7 _ hy)
   rw [qB1,qE4,qQ6,qP1] at ih
   simp only [Option.some_or] at ih
   by_cases hp:pre=[]
   ·subst hp
    have e:=zOM (cl (n+1)) (td:=.tup xs) i2 fl ew
    rw [show (([]:yA).length:Int)=0 from rfl,e]
    have g:goS N.cs.length ([]:yA).getLast? (.int x::ys)=goS N.cs.length (some x) ys:=by
     show ((decide (0≤x)&&decide (x<(N.cs.length:Int)))&&(true&&goS N.cs.length (some x) ys))=_
     rw [hx]; simp
    rw [g]
    exact ih
   ·obtain ⟨q,p,rfl⟩:∃ q p,pre=q++[p]:=⟨pre.dropLast,pre.getLast hp,(qH9 hp).symm⟩
    have ix:oIx (.tup xs) (.int (((q++[p]).length:Nat) - 1:Int)) S=.ok (.int p) S:=by
     rw [zJd]
     have:=zC1 (xs:=xs) (j:=q.length) (v:=.int p) (by
      rw [hxs,qE8,qB8,qA0 (by simp)]
      simp)
     rw [show (((q++[p]).length:Nat) - 1:Int)=((q.length:Nat):Int) by simp,this]
    have e:=zRf (cl (n+1)) (td:=.tup xs) (i:=((q++[p]).length:Nat)) i2 fl ew (by simp) ix
    rw [e]
    have g:goS N.cs.length (q++[p]).getLast? (.int x::ys)=(decide (p<x)&&goS N.cs.length (some x) ys):=by
     rw [qQ6,qP1]
     show ((decide (0≤x)&&decide (x<(N.cs.length:Int)))&&(decide (p<x)&&goS N.cs.length (some x) ys))=_
     rw [hx]; simp
    rw [g]
    by_cases hpx:p<x
    ·rw [if_pos hpx,decide_eq_true hpx,qR3]
     exact ih
    ·rw [if_neg hpx,decide_eq_false hpx,qL1]
     exact .inl ⟨rfl,rfl⟩
theorem zTR (c:CLL) {nd x:D}{w2 w3:Option D}{S:zA0} (f:zAw [x,.ty "tuple"] S=.ok (.bl false) S):zAI c [some nd,some x,w2,w3] S=.rt (.bl false) S:=by
 simp [zAI,f]
theorem zTP (c:CLL) {nd r:D}{xs:yM}{w2 w3:Option D}{S S1:zA0} (hl:(zBw xs).length<lim) (e:zBg [] (gT [(gN 2),(gN 3)]) (zAa c) (zBw xs) [some nd,some (.tup xs),w2,w3] S=.rt r S1):zAI c [some nd,some (.tup xs),w2,w3] S=.rt r S1:=by
 simp [zAI,hl,e]
theorem zTQ (c:CLL) {nd:D}{xs:yM}{w2 w3:Option D}{ρ:Env1}{S S1:zA0} (hl:(zBw xs).length<lim) (e:zBg [] (gT [(gN 2),(gN 3)]) (zAa c) (zBw xs) [some nd,some (.tup xs),w2,w3] S=.nx ρ S1):zAI c [some nd,some (.tup xs),w2,w3] S=.rt (.bl true) S1:=by
 simp [zAI,hl,e]
theorem zK8 (H:HLw cl) (n:Nat) {N:Net}{x:D}{S:zA0} (hx:TK S x) (hl:∀ xs,x=.tup xs→xs.length≤100):cl (n+2) "_law_some" [N.d,x] S=.ok (.bl (chB N.cs.length x)) S:=by
 have ft:=zPO hx.1
 rw [show n+2=(n+1)+1 from rfl,H.so]
 by_cases hT:isT x=true
 ·obtain ⟨xs,rfl⟩:∃ xs,x=.tup xs:=by cases x <;> first | exact ⟨_,rfl⟩ | cases hT
  have hxl:=hl xs rfl
  have he:zBw xs=((qI9 0 xs.length).zip xs).map fun q=>.tup [.int (q.1:Nat),q.2]:=by
   unfold zBw
   rw [qQ5]
  have el:(zBw xs).length<lim:=by rw [he,qA6]; simp; rw [zAc]; omega
  have hs:=zHr H.wh n (N:=N) (xs:=xs) (S:=S) xs [] none none rfl (hx.2 xs rfl)
  have eg:chB N.cs.length (.tup xs)=goS N.cs.length ([]:yA).getLast? xs:=rfl
  rw [eg]
  rcases hs with ⟨a,e⟩ | ⟨a,ρ,e⟩
  ·rw [a]
   exact zA9 rfl (zTP _ el (by rw [he]; exact e))
  ·rw [a]
   exact zA9 rfl (zTQ _ el (by rw [he]; exact e))
 ·have hT':isT x=false:=by simpa using hT
  rw [hT'] at ft
  have:chB N.cs.length x=false:=by cases x <;> first | rfl | exact absurd rfl hT
  rw [this]
  exact zA9 rfl (zTR _ ft)
noncomputable def cAt (cs:yN) (x:Int):Ct:=cs.getD x.toNat ⟨0,0,0,0⟩
theorem zFr {cs:yN}{x:Int} (h:0≤x∧x<(cs.length:Int)):cs[x.toNat]?=some (cAt cs x):=by
 unfold cAt
 rw [qK2,qA5 (by omega)]; rfl
noncomputable def jI (cs:yN) (t:yA):Bool:=jB (ends (t.map (cAt cs)))
def InR (cs:yN) (t:yA):Prop:=t.length≤100∧∀ x∈t,0≤x∧x<(cs.length:Int)
theorem zU8 {es es':List (Int × Int)} (h:∀ e,e∈es↔e∈es'):jB es=jB es':=by
 refine zRw ?_
 rw [zMM]
 exact ⟨fun j C c0 cc=>j C c0 fun e he=>cc e ((h e).mp he),fun j C c0 cc=>j C c0 fun e he=>cc e ((h e).mpr he)⟩
theorem zHQ {cs:yN}{t u:yA} (hu:∀ x∈u,0≤x∧x<(cs.length:Int)) (h:∀ x,0≤x→x<(cs.length:Int)→(x∈u↔x∉t)):jB (ends (zAt cs t))=jI cs u:=by
 unfold jI
 apply zU8
 intro e
 unfold ends
 simp only [qC9]
 constructor
 ·rintro ⟨c,hc,rfl⟩
  obtain ⟨i,hi,hn⟩:=zE8.mp hc
  have hlt:=(qA4.mp hi).1
  refine ⟨c,⟨(i:Int),(h i (by omega) (by omega)).mpr hn,?_⟩,rfl⟩
  have:=zFr (cs:=cs) (x:=(i:Int)) (by omega)
  rw [show ((i:Int)).toNat=i by omega,hi] at this
  exact (Option.some.inj this).symm
 ·rintro ⟨c,⟨x,hx,rfl⟩,rfl⟩
  have hb:=hu x hx
  refine ⟨_,zE8.mpr ⟨x.toNat,zFr hb,?_⟩,rfl⟩
  rw [show ((x.toNat:Nat):Int)=x by omega]
  exact (h x hb.1 hb.2).mp hx
structure HBw (cl:Nat→CLL):Prop where
 b:HBs cl
 ja:zDY cl
 iw:zIU cl
theorem zX6 {N:Net}{x:Int} (h:0≤x∧x<(N.cs.length:Int)) (S:zA0):oIx (.tup (N.cs.map Ct.d)) (.int x) S=.ok (cAt N.cs x).d S:=by
 rw [zJd]
 have:=zC1 (xs:=N.cs.map Ct.d) (j:=x.toNat) (v:=(cAt N.cs x).d) (by rw [qB7,zFr h]; rfl)
 rw [show ((x.toNat:Nat):Int)=x by omega] at this
 rw [this]
theorem zWN (c:CLL) {nd r:D}{ts Z:yM}{S S1:zA0} (hl:ts.length<lim) (e1:zAh [] .one (fun _=>ret true) (zAH c) [none,some nd] ts S=.ok Z S) (e2:c "joins" [.lst S.length] (S++[.lst Z])=.ok r S1):zAF c [some nd,some (.tup ts)] S=.rt r S1:=by
 simp [zAF,hl,e1,e2]
theorem zWO (c:CLL) {nd r:D}{k:Nat}{ts Z:yM}{S S1:zA0} (l:zA4 S k=some ts) (hl:ts.length<lim) (e1:zAh [(k,ts)] .one (fun _=>ret true) (zAH c) [none,some nd] ts S=.ok Z S) (e2:c "joins" [.lst S.length] (S++[.lst Z])=.ok r S1):zAF c [some nd,some (.lst k)] S=.rt r S1:=by
 simp [zAF,l,hl,e1,e2]
theorem zGh (H:HBw cl) (n:Nat) {N:Net} (ok:N.g) {t:yA} (ht:InR N.cs t) {x:D}{S:zA0} (hx:SeqD S x (t.map D.int)):Spc (cl (n+3) "join_along" [N.d,x] S) (.bl (jI N.cs t)) S:=by
 have e1:∀ w,okW w S→zAh w .one (fun _=>ret true) (zAH (cl (n+2))) [none,some N.d] (t.map D.int) S=.ok ((t.map (cAt N.cs)).map Ct.d) S:=fun w hw=>by
  have:=zGd D.int (w:=w) (t:=.one) (c:=zAH (cl (n+2))) (ρ0:=[none,some N.d]) hw (fun x=>(cAt N.cs x).d) t fun y hy=>⟨[some (.int y),some N.d],rfl,by
   simp [zAH,zIi,zX6 (ht.2 y hy)]⟩
  rw [this,qE2]; rfl
 have h7:In7 (t.map (cAt N.cs)):=fun c hc=>by
  obtain ⟨y,hy,rfl⟩:=qC9.mp hc
  exact ok.in7 (by decide) _ (qC0 (zFr (ht.2 y hy)))
 obtain ⟨S2,e2,x2⟩:=zG7 H.b.jo H.b.pf n (t.map (cAt N.cs)) (by rw [qA6]; exact ht.1) h7 (zA2 S ((t.map (cAt N.cs)).map Ct.d))
 have hl:(t.map D.int).length<lim:=by rw [qA6,zAc]; have:=ht.1; omega
 refine ⟨S2,?_,(zA5 S _).trans x2⟩
 rw [show n+3=(n+2)+1 from rfl,H.ja]
 rcases hx with rfl | ⟨k,rfl,l⟩
 ·exact zA9 rfl (zWN _ hl (e1 [] (zAf S)) e2)
 ·exact zA9 rfl (zWO _ l hl (e1 _ (zD0 l)) e2)
noncomputable def wayB (cs:yN) (t:yA):Bool:=jI cs t&&!(t.any fun e=>jI cs (t.filter fun x=>decide (x≠e)))
noncomputable def barB (cs:yN) (t:yA):Bool:=!jB (ends (zAt cs t))&&t.all fun e=>jB (ends (zAt cs (t.filter fun x=>decide (x≠e))))
noncomputable def wayX (cs:yN) (x:D):Bool:=if chB cs.length x then (match x with | .tup xs=>(match zBW xs with | some t=>wayB cs t | none=>false) | _=>false) else false
noncomputable def barX (cs:yN) (x:D):Bool:=if chB cs.length x then (match x with | .tup xs=>(match zBW xs with | some t=>barB cs t | none=>false) | _=>false) else false
theorem zUc (c:CLL) {nd x:D}{S S1:zA0} (e1:c "is_choice" [nd,x] S=.ok (.bl false) S1):zBJ c [some nd,some x] S=.rt (.bl false) S1∧zBK c [some nd,some x] S=.rt (.bl false) S1:=by
 constructor
 ·simp [zBJ,e1]
 ·simp [zBK,e1]
theorem zUb (c:CLL) {nd x:D}{S S1 S2:zA0} (e1:c "is_choice" [nd,x] S=.ok (.bl true) S1) (e2:c "join_along" [nd,x] S1=.ok (.bl false) S2):zBJ c [some nd,some x] S=.rt (.bl false) S2:=by
 simp [zBJ,e1,e2]
theorem zUi (c:CLL) {nd x:D}{S S1 S2:zA0} (e1:c "is_choice" [nd,x] S=.ok (.bl true) S1) (e2:c "join_beside" [nd,x] S1=.ok (.bl true) S2):zBK c [some nd,some x] S=.rt (.bl false) S2:=by
 simp [zBK,e1,e2]
theorem zUa (c:CLL) {nd:D}{ts Z:yM}{b:Bool}{S S1 S2 S3:zA0} (e1:c "is_choice" [nd,.tup ts] S=.ok (.bl true) S1) (e2:c "join_along" [nd,.tup ts] S1=.ok (.bl true) S2) (hl:ts.length<lim) (e3:zAh [] .one (fun _=>ret true) (zD8 c) [none,some nd,some (.tup ts)] ts S2=.ok Z S3)
  (f1:zBv (fun bs=>bs.any id) [.lst S3.length] (S3++[.lst Z])=.ok (.bl b) (S3++[.lst Z])):zBJ c [some nd,some (.tup ts)] S=.rt (.bl !b) (S3++[.lst Z]):=by
 simp [zBJ,e1,e2,hl,e3,f1]
theorem zRz (c:CLL) {nd td r:D}{e:Int}{k:Nat}{S S1 S2:zA0} (w:c "without" [td,.int e] S=.ok (.lst k) S1) (e4:c "join_along" [nd,.lst k] S1=.ok r S2):zD8 c [some (.int e),some nd,some td] S=.ok r S2:=by
 simp [zD8,w,e4]
theorem zL4 (H:HBw cl) (n:Nat) {N:Net} (ok:N.g) {x:D}{S:zA0} (hx:TK S x) (hl:∀ xs,x=.tup xs→xs.length≤100):Spc (cl (n+4) "is_way" [N.d,x] S) (.bl (wayX N.cs x)) S:=by
 unfold wayX
 have hc:N.cs.length≤16:=by have:=ok.c1; omega
 obtain ⟨S1,e1,x1⟩:=zGe H.b (n+1) hc hx hl
 rw [show n+4=(n+3)+1 from rfl,H.iw]
 cases hb:chB N.cs.length x with
 | false =>
  rw [hb] at e1
  exact ⟨S1,zA9 rfl (zUc _ e1).1,x1⟩
 | true =>
  rw [hb] at e1
  cases x with
  | tup xs =>
   obtain ⟨t,rfl,rs,_⟩:=zCG _ _ _ hb
   have tl:t.length≤100:=by simpa using hl _ rfl
   have hR:InR N.cs t:=⟨tl,rs.i⟩
   simp only [if_true]
   rw [zBM]
   dsimp only
   obtain ⟨S2,e2,x2⟩:=zGh H n ok hR (x:=.tup (t.map D.int)) (S:=S1) (.inl rfl)
   unfold wayB
   cases hj:jI N.cs t with
   | false=>rw [hj] at e2; exact ⟨S2,zA9 rfl (zUb _ e1 e2),x1.trans x2⟩
   | true =>
    rw [hj] at e2
    obtain ⟨S3,e3,x3⟩:=zFk D.int (w:=[]) (t:=.one) (c:=zD8 (cl (n+3))) (ρ0:=[none,some N.d,some (.tup (t.map D.int))]) (fun S'=>Ex S2 S') (fun _ _=>zAf _)
     (fun e=>D.bl (jI N.cs (t.filter fun x=>decide (x≠e)))) t (S:=S2) (Kp.refl _ _) (fun e he S' hx=>by
      refine ⟨[some (.int e),some N.d,some (.tup (t.map D.int))],rfl,?_⟩
      have w:=zEj H.b.wi (n+2) (t:=t) tl e S'
      obtain ⟨S4,e4,x4⟩:=zGh H n ok (t:=t.filter fun x=>decide (x≠e)) ⟨qC5 (qD7 ..) tl,fun y hy=>rs.i y (qD5.mp hy).1⟩ (x:=.lst S'.length) (S:=S'++[.lst ((t.filter fun x=>decide (x≠e)).map D.int)]) (.inr ⟨_,rfl,zA2 S' _⟩)
      exact ⟨S4,zRz _ w e4,(hx.trans (zA5 _ _)).trans x4⟩)
    have f1:=zEz (S:=S3++[.lst (t.map fun e=>D.bl (jI N.cs (t.filter fun x=>decide (x≠e))))]) (n:=S3.length) (fun bs=>bs.any id) (fun e:Int=>jI N.cs (t.filter fun x=>decide (x≠e))) t (zA2 S3 _)
    rw [qP2] at f1
    refine ⟨S3++[.lst (t.map fun e=>D.bl (jI N.cs (t.filter fun x=>decide (x≠e))))],?_,((x1.trans x2).trans x3).trans (zA5 _ _)⟩
    exact zA9 rfl (zUa _ e1 e2 (by rw [qA6,zAc]; omega) e3 f1)
  | _=>cases hb
theorem zL5 (H:HBw cl) (n:Nat) {N:Net} (ok:N.g) {x:D}{S:zA0} (hx:TK S x) (hl:∀ xs,x=.tup xs→xs.length≤100):Spc (cl (n+4) "is_bar" [N.d,x] S) (.bl (barX N.cs x)) S:=by
 unfold barX
 have hc:N.cs.length≤16:=by have:=ok.c1; omega
 obtain ⟨S1,e1,x1⟩:=zGe H.b (n+1) hc hx hl
 rw [show n+4=(n+3)+1 from rfl,H.b.ib]
 cases hb:chB N.cs.length x with
 | false =>
  rw [hb] at e1
  exact ⟨S1,zA9 rfl (zUc _ e1).2,x1⟩
 | true =>
  rw [hb] at e1
  cases x with
  | tup xs =>
   obtain ⟨t,rfl,rs,_⟩:=zCG _ _ _ hb
   have tl:t.length≤100:=by simpa using hl _ rfl
   simp only [if_true]
   rw [zBM]
   dsimp only
   obtain ⟨S2,e2,x2⟩:=zFu H.b n ok (sd:=.tup (t.map D.int)) (l:=t) (S:=S1) fun x=>zCC true x _ S1
   unfold barB
   cases hj:jB (ends (zAt N.cs t)) with
   | true=>rw [hj] at e2; exact ⟨S2,zA9 rfl (zUi _ e1 e2),x1.trans x2⟩
   | false =>
    rw [hj] at e2
    obtain ⟨S3,e3,x3⟩:=zFk D.int (w:=[]) (t:=.one) (c:=zD9 (cl (n+3))) (ρ0:=[none,some N.d,some (.tup (t.map D.int))]) (fun S'=>Ex S2 S') (fun _ _=>zAf _)
     (fun e=>D.bl (jB (ends (zAt N.cs (t.filter fun x=>decide (x≠e)))))) t (S:=S2) (Kp.refl _ _) (fun e he S' hx=>by
      refine ⟨[some (.int e),some N.d,some (.tup (t.map D.int))],rfl,?_⟩
      have w:=zEj H.b.wi (n+2) (t:=t) tl e S'
      obtain ⟨S4,e4,x4⟩:=zFu H.b n ok (sd:=.lst S'.length) (l:=t.filter fun x=>decide (x≠e)) (S:=S'++[.lst ((t.filter fun x=>decide (x≠e)).map D.int)]) fun x=>zMw (zA2 S' _) true x
      exact ⟨S4,zRF _ w e4,(hx.trans (zA5 _ _)).trans x4⟩)
    have f1:=zEz (S:=S3++[.lst (t.map fun e=>D.bl (jB (ends (zAt N.cs (t.filter fun x=>decide (x≠e))))))]) (n:=S3.length) (fun bs=>bs.all id) (fun e:Int=>jB (ends (zAt N.cs (t.filter fun x=>decide (x≠e))))) t (zA2 S3 _)
    rw [qL5] at f1
    refine ⟨S3++[.lst (t.map fun e=>D.bl (jB (ends (zAt N.cs (t.filter fun x=>decide (x≠e))))))],?_,((x1.trans x2).trans x3).trans (zA5 _ _)⟩
    exact zA9 rfl (zUh _ e1 e2 (by rw [qA6,zAc]; omega) e3 f1)
  | _=>cases hb
theorem zTZ (c:CLL) {nd x:D}{m:Nat}{v:Int}{b:Bool}{S S1:zA0} (e1:c "_law_marks" [nd,x] S=.ok (.lst m) S1) (g1:oIx (.lst m) (.int 1) S1=.ok (.int v) S1) (hb:decide (v=0)=b):zC0 c [some nd,some x] S=.rt (.bl b) S1:=by
 simp [zC0,e1,g1,hb]
theorem zBm (H:HLw cl) (n:Nat) {N:Net} (ok:N.g) {t:yA} (ht:InR N.cs t) {x:D}{S:zA0} (hx:SeqD S x (t.map D.int)):Spc (cl (n+2) "_law_joins" [N.d,x] S) (.bl (jI N.cs t)) S:=by
 have en:zFD (t.map qQ7)=t.map D.int:=by
  unfold zFD
  rw [qE2]
  apply qI0
  intro y hy
  have:=(ht.2 y hy).1
  show D.int ((y.toNat:Nat):Int)=D.int y
  congr 1; omega
 have es:esOf N.cs (t.map qQ7)=ends (t.map (cAt N.cs)):=by
  unfold esOf ends
  rw [qE2,qE2]; rfl
 obtain ⟨m,S2,e2,x2,_,l2⟩:=zFI H.ma n ok (by decide) (t.map qQ7) (fun i hi=>by
  obtain ⟨y,hy,rfl⟩:=qC9.mp hi
  have:=ht.2 y hy
  omega) (S:=S) (x:=x) (by rw [en]; exact hx)
 have p1:=ok.p1
 have esb:∀ e∈esOf N.cs (t.map qQ7),(0≤e.1∧e.1<(N.pl.toNat:Int))∧0≤e.2∧e.2<(N.pl.toNat:Int):=fun e he=>by
  rw [es] at he
  obtain ⟨c,hc,rfl⟩:=qC9.mp he
  obtain ⟨y,hy,rfl⟩:=qC9.mp hc
  obtain ⟨a1,a2,a3,_⟩:=ok.c2 _ (qC0 (zFr (ht.2 y hy)))
  dsimp only
  omega
 obtain ⟨mo,re⟩:=zOL (pl:=N.pl.toNat) (by omega) esb
 refine ⟨S2,?_,x2⟩
 rw [show n+2=(n+1)+1 from rfl,H.jo]
 generalize hR:zAJ (esOf N.cs (t.map qQ7)) N.pl.toNat ((List.range N.pl.toNat).map fun (k:Nat)=>(k:Int))=Rr at l2 mo re
 have g1:=zD1 l2 1
 rw [zHb (by decide) (by have:=mo.len; omega)] at g1
 have hl1:(1:Nat)<Rr.length:=by have:=mo.len; omega
 have e3:decide (Rr.getD (1:Int).toNat 0=0)=jI N.cs t:=by
  unfold jI
  rw [← es]
  refine zRw ?_
  rw [decide_eq_true_eq,← re.joined]
  unfold Z
  show Rr.getD 1 0=0↔0≤(1:Int)∧Rr[1]?=some 0
  rw [qM1,qA5 hl1]
  simp
 exact zA9 rfl (zTZ _ e2 g1 e3)
noncomputable def zCi (n:Nat) (t:yA):yA:=(upI n).filter fun x=>decide (x∉t)
theorem zLK {n:Nat}{x:Int}:x∈upI n↔0≤x∧x<(n:Int):=by
 unfold upI
 rw [qC9]
 constructor
 ·rintro ⟨i,hi,rfl⟩; have:=qG3.mp hi; omega
 ·rintro ⟨h0,h1⟩; exact ⟨x.toNat,qG3.mpr (by omega),by omega⟩
theorem zTT (c:CLL) {nd td:D}{xs Z:yM}{z:Int}{m:Nat}{S:zA0} (i1:oIx nd (.int 2) S=.ok (.tup xs) S) (fl:fLen [.tup xs] S=.ok (.int z) S) (hz:z.toNat=m) (m0:-4611686018427387904≤z) (m1:z<4611686018427387904) (hl:(upD 0 m).length<lim) (e1:zAh [] .one (zCD c) (zCE c) [none,some td] (upD 0 m) S=.ok Z S):zCy c [some nd,some td] S=.rt (.lst S.length) (S++[.lst Z]):=by
 simp [zCy,i1,fl,hz,m0,m1,hl,e1]
theorem zHB (H:HLw cl) (n:Nat) {N:Net} (hc:N.cs.length≤16) (t:yA) (S:zA0):cl (n+1) "_law_rest" [N.d,.tup (t.map D.int)] S=.ok (.lst S.length) (S++[.lst ((zCi N.cs.length t).map D.int)]):=by
 have e1:zAh [] .one (zCD (cl n)) (zCE (cl n)) [none,some (.tup (t.map D.int))] (upD 0 N.cs.length) S=.ok ((zCi N.cs.length t).map D.int) S:=by
  have eu:upD 0 N.cs.length=(upI N.cs.length).map D.int:=by
   unfold upD upI; rw [qE2]; apply qI0; intro k _; simp
  rw [eu]
  unfold zCi
  refine zB8 D.int (zAf S) _ _ _ fun x hx=>⟨_,rfl,?_,fun _=>?_⟩
  ·have:=zCC true x t S
   simp only [if_true] at this
   simp [zCD,zAX,this]
  ·simp [zCE,zAX]
 obtain ⟨z,hz⟩:∃ z:Int,(N.cs.length:Int)=z:=⟨_,rfl⟩
 rw [H.re]
 exact zA9 rfl (zTT (z:=z) _ (zIi S) (by rw [← hz]; show R.ok (D.int ((N.cs.map Ct.d).length:Nat)) S=_; rw [qA6]) (by omega) (by omega) (by omega) (by rw [show (upD 0 N.cs.length).length=N.cs.length by simp [upD],zAc]; omega) e1)
theorem zOf {cs:yN} (hc:cs.length≤16) (t:yA):InR cs (zCi cs.length t):=by
 unfold zCi
 refine ⟨qC5 (qD7 ..) (by unfold upI; simp; omega),fun x hx=>zLK.mp (qD5.mp hx).1⟩
theorem zPJ (c:CLL) {nd x:D}{S:zA0} (e1:c "_law_some" [nd,x] S=.ok (.bl false) S):zAp c [some nd,some x] S=.rt (.bl false) S∧zAq c [some nd,some x] S=.rt (.bl false) S:=by
 constructor
 ·simp [zAp,e1]
 ·simp [zAq,e1]
theorem zRl (c:CLL) {nd x:D}{S S1:zA0} (e1:c "_law_some" [nd,x] S=.ok (.bl true) S) (e2:c "_law_joins" [nd,x] S=.ok (.bl false) S1):zAp c [some nd,some x] S=.rt (.bl false) S1:=by
 simp [zAp,e1,e2]
theorem zRk (c:CLL) {nd:D}{ts Z:yM}{b:Bool}{S S1 S2:zA0} (e1:c "_law_some" [nd,.tup ts] S=.ok (.bl true) S) (e2:c "_law_joins" [nd,.tup ts] S=.ok (.bl true) S1) (hl:ts.length<lim) (e3:zAh [] .one (zB3 c) (zBG c) [none,some nd,some (.tup ts)] ts S1=.ok Z S2) (q:oEq (.lst S2.length) (.lst (S2.length+1)) (S2++[.lst Z,.lst []])=.ok (.bl b) (S2++[.lst Z,.lst []])):zAp c [some nd,some (.tup ts)] S=.rt (.bl b) (S2++[.lst Z,.lst []]):=by
 simp [zAp,e1,e2,hl,e3,q]
theorem zWH (c:CLL) {nd:D}{ts Z:yM}{e:Int}{b:Bool}{S S1:zA0} (hl:ts.length<lim) (e1:zAh [] .one (zBE c) (zBF c) [none,some (.int e)] ts S=.ok Z S) (e2:c "_law_joins" [nd,.lst S.length] (S++[.lst Z])=.ok (.bl b) S1):zB3 c [some (.int e),some nd,some (.tup ts)] S=.ok b S1:=by
 simp [zB3,hl,e1,e2]
theorem zRn (c:CLL) {nd x:D}{k:Nat}{S S1 S2:zA0} (e1:c "_law_some" [nd,x] S=.ok (.bl true) S) (e0:c "_law_rest" [nd,x] S=.ok (.lst k) S1) (e2:c "_law_joins" [nd,.lst k] S1=.ok (.bl true) S2):zAq c [some nd,some x] S=.rt (.bl false) S2:=by
 simp [zAq,e1,e0,e2]
theorem zRm (c:CLL) {nd:D}{ts Z:yM}{k:Nat}{b:Bool}{S S0 S1 S2:zA0} (e1:c "_law_some" [nd,.tup ts] S=.ok (.bl true) S) (e0:c "_law_rest" [nd,.tup ts] S=.ok (.lst k) S0) (e2:c "_law_joins" [nd,.lst k] S0=.ok (.bl false) S1) (hl:ts.length<lim) (e3:zAh [] .one (zB4 c) (zBH c) [none,some nd,some (.tup ts)] ts S1=.ok Z S2) (q:oEq (.lst S2.length) (.lst (S2.length+1)) (S2++[.lst Z,.lst []])=.ok (.bl b) (S2++[.lst Z,.lst []])):zAq c [some nd,some (.tup ts)] S=.rt (.bl b) (S2++[.lst Z,.lst []]):=by
 simp [zAq,e1,e0,e2,hl,e3,q]
theorem zWI (c:CLL) {nd td:D}{k k2:Nat}{e:Int}{b:Bool}{S S1 S2 S3:zA0} (e1:c "_law_rest" [nd,td] S=.ok (.lst k) S1) (a1:oAdd (.lst k) (.lst S1.length) (S1++[.lst [.int e]])=.ok (.lst k2) S2) (e2:c "_law_joins" [nd,.lst k2] S2=.ok (.bl b) S3):zB4 c [some (.int e),some nd,some td] S=.ok (!b) S3:=by
 cases b <;> simp [zB4,e1,a1,e2]
theorem zMz (Z:yA) (S:zA0):oEq (.lst S.length) (.lst (S.length+1)) (S++[.lst (Z.map D.int),.lst []])=.ok (.bl (eqB (Z.map D.int) [])) (S++[.lst (Z.map D.int),.lst []]):=by
 have eS:S++[O.lst (Z.map D.int),O.lst []]=S++[O.lst (Z.map D.int)]++[O.lst []]:=by simp
 have q:=zGw (S:=S++[O.lst (Z.map D.int)]++[O.lst []]) (zAg (zA2 S _)) (zA2 (S++[O.lst (Z.map D.int)]) []) (qC8.mpr (zBf (by omega) _)) rfl
 rw [← eS,show (S++[O.lst (Z.map D.int)]).length=S.length+1 by simp] at q
 exact q
theorem zJh (H:HLw cl) (n:Nat) {N:Net} (ok:N.g) {x:D}{S:zA0} (hx:TK S x) (hl:∀ xs,x=.tup xs→xs.length≤100):Spc (cl (n+3) "_law_is_way" [N.d,x] S) (.bl (wayX N.cs x)) S:=by
 unfold wayX
 have e1:=zK8 H n (N:=N) hx hl
 rw [show n+3=(n+2)+1 from rfl,H.iw]
 cases hb:chB N.cs.length x with
 | false=>rw [hb] at e1; exact ⟨S,zA9 rfl (zPJ _ e1).1,Kp.refl _ _⟩
 | true =>
  rw [hb] at e1
  cases x with
  | tup xs =>
   obtain ⟨t,rfl,rs,_⟩:=zCG _ _ _ hb
   have tl:t.length≤100:=by simpa using hl _ rfl
   have ll:(t.map D.int).length<lim:=by rw [qA6,zAc]; omega
   simp only [if_true]
   rw [zBM]
   dsimp only
   obtain ⟨S1,e2,x1⟩:=zBm H n ok ⟨tl,rs.i⟩ (x:=.tup (t.map D.int)) (S:=S) (.inl rfl)
   unfold wayB
   cases hj:jI N.cs t with
   | false=>rw [hj] at e2; exact ⟨S1,zA9 rfl (zRl _ e1 e2),x1⟩
   | true =>
    rw [hj] at e2
    obtain ⟨S2,e3,x2⟩:=zCg D.int (w:=[]) (t:=.one) (tc:=zB3 (cl (n+2))) (c:=zBG (cl (n+2))) (ρ0:=[none,some N.d,some (.tup (t.map D.int))]) (fun S'=>Ex S1 S') (fun _ _=>zAf _)
     (fun e=>jI N.cs (t.filter fun x=>decide (x≠e))) D.int t (S:=S1) (Kp.refl _ _) (fun e he S' hx=>by
      have c1:zAh [] .one (zBE (cl (n+2))) (zBF (cl (n+2))) [none,some (.int e)] (t.map D.int) S'=.ok ((t.filter fun x=>decide (x≠e)).map D.int) S':=by
       refine zB8 D.int (zAf S') _ _ _ fun x hx=>⟨_,rfl,?_,fun _=>?_⟩
       ·simp [zBE,zAX]
       ·simp [zBF,zAX]
      obtain ⟨S4,e4,x4⟩:=zBm H n ok (t:=t.filter fun x=>decide (x≠e)) ⟨qC5 (qD7 ..) tl,fun y hy=>rs.i y (qD5.mp hy).1⟩ (x:=.lst S'.length) (S:=S'++[.lst ((t.filter fun x=>decide (x≠e)).map D.int)]) (.inr ⟨_,rfl,zA2 S' _⟩)
      exact ⟨[some (.int e),some N.d,some (.tup (t.map D.int))],rfl,S4,zWH _ ll c1 e4,fun _=>(hx.trans (zA5 _ _)).trans x4,fun _=>⟨S4,by simp [zBG],(hx.trans (zA5 _ _)).trans x4⟩⟩)
    have q:=zMz (t.filter fun e=>jI N.cs (t.filter fun x=>decide (x≠e))) S2
    have eb:eqB ((t.filter fun e=>jI N.cs (t.filter fun x=>decide (x≠e))).map D.int) []=!(t.any fun e=>jI N.cs (t.filter fun x=>decide (x≠e))):=by
     apply zAR
     rw [zBh,qK5,qJ7,qH8,List.any_eq_false]
    rw [eb] at q
    rw [qR3]
    exact ⟨S2++[O.lst ((t.filter fun e=>jI N.cs (t.filter fun x=>decide (x≠e))).map D.int),O.lst []],zA9 rfl (zRk _ e1 e2 ll e3 q),(x1.trans x2).trans (zA5 _ _)⟩
  | _=>cases hb
theorem zJi (H:HLw cl) (n:Nat) {N:Net} (ok:N.g) {x:D}{S:zA0} (hx:TK S x) (hl:∀ xs,x=.tup xs→xs.length≤100):Spc (cl (n+3) "_law_is_bar" [N.d,x] S) (.bl (barX N.cs x)) S:=by
 unfold barX
 have hc:N.cs.length≤16:=by have:=ok.c1; omega
 have e1:=zK8 H n (N:=N) hx hl
 rw [show n+3=(n+2)+1 from rfl,H.ib]
 cases hb:chB N.cs.length x with
 | false=>rw [hb] at e1; exact ⟨S,zA9 rfl (zPJ _ e1).2,Kp.refl _ _⟩
 | true =>
  rw [hb] at e1
  cases x with
  | tup xs =>
   obtain ⟨t,rfl,rs,_⟩:=zCG _ _ _ hb
   have tl:t.length≤100:=by simpa using hl _ rfl
   have ll:(t.map D.int).length<lim:=by rw [qA6,zAc]; omega
   have ri:=zOf hc t
   simp only [if_true]
   rw [zBM]
   dsimp only
   have e0:=zHB H (n+1) hc t S
   obtain ⟨S1,e2,x1⟩:=zBm H n ok ri (x:=.lst S.length) (S:=S++[.lst ((zCi N.cs.length t).map D.int)]) (.inr ⟨_,rfl,zA2 S _⟩)
   have jr:jB (ends (zAt N.cs t))=jI N.cs (zCi N.cs.length t):=zHQ ri.2 fun x h0 h1=>by
    unfold zCi
    rw [qD5,zLK]
    simp [h0,h1]
   unfold barB
   rw [jr]
   cases hj:jI N.cs (zCi N.cs.length t) with
   | true=>rw [hj] at e2; exact ⟨S1,zA9 rfl (zRn _ e1 e0 e2),(zA5 _ _).trans x1⟩
   | false =>
    rw [hj] at e2
    have je:∀ e∈t,jB (ends (zAt N.cs (t.filter fun x=>decide (x≠e))))=jI N.cs (zCi N.cs.length t++[e]):=fun e he=>zHQ (fun x hx=>by
      rcases qB4.mp hx with hx | hx
      ·exact ri.2 x hx
      ·rw [qA8.mp hx]; exact rs.i e he) fun x h0 h1=>by
     unfold zCi
     rw [qB4,qD5,zLK,qD5,qA8]
     by_cases hxe:x=e
     ·simp [hxe]
     ·simp [h0,h1,hxe]
    obtain ⟨S2,e3,x2⟩:=zCg D.int (w:=[]) (t:=.one) (tc:=zB4 (cl (n+2))) (c:=zBH (cl (n+2))) (ρ0:=[none,some N.d,some (.tup (t.map D.int))]) (fun S'=>Ex S1 S') (fun _ _=>zAf _)
     (fun e=>!jI N.cs (zCi N.cs.length t++[e])) D.int t (S:=S1) (Kp.refl _ _) (fun e he S' hx=>by
      have r1:=zHB H (n+1) hc t S'
      obtain ⟨T1,h1⟩:∃ T1,S'++[O.lst ((zCi N.cs.length t).map D.int)]=T1:=⟨_,rfl⟩
      rw [h1] at r1
      have l1:zA4 T1 S'.length=some ((zCi N.cs.length t).map D.int):=by rw [← h1]; exact zA2 _ _
      have a1:=zC7 (zAg (T:=[.lst [.int e]]) l1) (zA2 T1 [.int e]) (by rw [qA6,zAc]; have:=ri.1; simp; omega)
      obtain ⟨S4,e4,x4⟩:=zBm H n ok (t:=zCi N.cs.length t++[e]) ⟨by
        have:(zCi N.cs.length t).length≤16:=by unfold zCi; exact qC5 (qD7 ..) (by unfold upI; simp; omega)
        simp; omega,fun x hx=>by
        rcases qB4.mp hx with hx | hx
        ·exact ri.2 x hx
        ·rw [qA8.mp hx]; exact rs.i e he⟩ (x:=.lst (T1++[O.lst [D.int e]]).length) (S:=T1++[.lst [.int e]]++[.lst ((zCi N.cs.length t).map D.int++[.int e])]) (.inr ⟨_,rfl,by rw [zA2,qE8]; rfl⟩)
      have xx:Ex S1 S4:=by
       refine (hx.trans ?_).trans x4
       rw [← h1]
       exact ((zA5 _ _).trans (zA5 _ _)).trans (zA5 _ _)
      exact ⟨[some (.int e),some N.d,some (.tup (t.map D.int))],rfl,S4,zWI _ r1 a1 e4,fun _=>xx,fun _=>⟨S4,by simp [zBH],xx⟩⟩)
    have q:=zMz (t.filter fun e=>!jI N.cs (zCi N.cs.length t++[e])) S2
    have eb:eqB ((t.filter fun e=>!jI N.cs (zCi N.cs.length t++[e])).map D.int) []=t.all fun e=>jB (ends (zAt N.cs (t.filter fun x=>decide (x≠e)))):=by
     apply zAR
     rw [zBh,qK5,qJ7,qC8]
     constructor
     ·intro h e he
      have:=h e he
      rw [je e he]
      simpa using this
     ·intro h e he
      have:=h e he
      rw [je e he] at this
      simp [this]
    rw [eb] at q
    rw [Bool.not_false,qR3]
    exact ⟨S2++[O.lst ((t.filter fun e=>!jI N.cs (zCi N.cs.length t++[e])).map D.int),O.lst []],zA9 rfl (zRm _ e1 e0 e2 ll e3 q),(((zA5 _ _).trans x1).trans x2).trans (zA5 _ _)⟩
  | _=>cases hb
theorem zOh (c:CLL) {nd x:D}{a b:Bool}{w2 w3 w4:Option D}{S S1 S2 S3 S4:zA0} (e1:c "is_way" [nd,x] S=.ok (.bl a) S1) (e2:c "is_bar" [nd,x] S1=.ok (.bl b) S2) (e3:c "_law_is_way" [nd,x] S2=.ok (.bl a) S3) (e4:c "_law_is_bar" [nd,x] S3=.ok (.bl b) S4) :
  zAD c [some nd,some x,w2,w3,w4] S=.nx [some nd,some x,w2,some (.bl a),some (.bl b)] S4:=by
 cases a <;> cases b <;> simp [zAD,e1,e2,e3,e4]
theorem zQH (c:CLL) {nd x:D}{w2 w3 w4:Option D}{ρ:Env1}{S S1:zA0} (e:zBg [] (gN 2) (zAD c) (upD 0 2) [some nd,some x,w2,w3,w4] S=.nx ρ S1):zAP c [some nd,some x,w2,w3,w4] S=.rt (.bl true) S1:=by
 have hl:(upD 0 2).length<lim:=by rw [zAc]; decide
 have h2':((2:Int).toNat)=2:=rfl
 simp [zAP,h2',hl,e]
theorem TK.ex {S S':zA0}{x:D} (k:TK S x) (h:Ex S S'):TK S' x:=⟨zHP h _ k.1,fun xs e y hy=>zHP h _ (k.2 xs e y hy)⟩
theorem zJ5 (B:HBw cl) (H:HLw cl) (hr:zC3 cl) (n:Nat) {N:Net} (ok:N.g) {x:D}{S:zA0} (hx:TK S x) (hl:∀ xs,x=.tup xs→xs.length≤100):Spc (cl (n+5) "_law_right" [N.d,x] S) (.bl true) S:=by
 obtain ⟨ρ',S1,e1,w2,w3,w4,rfl,x1⟩:=zB2 (w:=[]) (g:=gN 2) (b:=zAD (cl (n+4))) (items:=upD 0 2)
  (fun i ρ S'=>∃ w2 w3 w4,ρ=[some N.d,some x,w2,w3,w4]∧Ex S S') (ρ:=[some N.d,some x,none,none,none]) (S:=S) (fun _ _ _ _=>zAf _) ⟨none,none,none,rfl,Kp.refl _ _⟩
  (fun i d ρ S' hd hp=>by
   obtain ⟨w2,w3,w4,rfl,y⟩:=hp
   obtain ⟨T1,f1,y1⟩:=zL4 B n ok (hx.ex y) hl
   obtain ⟨T2,f2,y2⟩:=zL5 B n ok ((hx.ex y).ex y1) hl
   obtain ⟨T3,f3,y3⟩:=zJh H (n+1) ok (((hx.ex y).ex y1).ex y2) hl
   obtain ⟨T4,f4,y4⟩:=zJi H (n+1) ok ((((hx.ex y).ex y1).ex y2).ex y3) hl
   exact ⟨[some N.d,some x,some d,w3,w4],S',rfl,_,T4,.inl (zOh _ f1 f2 f3 f4),_,_,_,rfl,(((y.trans y1).trans y2).trans y3).trans y4⟩)
 refine ⟨S1,?_,x1⟩
 rw [show n+5=(n+4)+1 from rfl,hr]
 exact zA9 rfl (zQH _ e1)
structure ThO (S:zA0) (x:D):Prop where
 k:TK S x
 l:∀ xs,x=.tup xs→xs.length≤100
theorem ThO.kd {S S1:zA0}{x:D} (h:ThO S x) (k:Kd S S1):ThO S1 x:=⟨⟨k _ h.k.1,fun xs e y hy=>k _ (h.k.2 xs e y hy)⟩,h.l⟩
theorem zBe {S:zA0}{xs:yM} (h:∀ y∈xs,My.kd S y) (hl:xs.length≤100):ThO S (.tup xs):=⟨⟨⟨_,rfl⟩,fun ys e y hy=>by cases e; exact h y hy⟩,fun ys e=>by cases e; exact hl⟩
theorem zDF {S:zA0}{t:yA} (hl:t.length≤100):ThO S (tD t):=zBe (fun y hy=>by obtain ⟨i,_,rfl⟩:=qC9.mp hy; exact ⟨_,rfl⟩) (by simpa using hl)
theorem zCO {S:zA0}{x:D} (h:My.kd S x) (t:isT x=false):ThO S x:=⟨⟨h,fun xs e=>by subst e; cases t⟩,fun xs e=>by subst e; cases t⟩
theorem zKq {S:zA0}{k:Nat}{xs:yM}{r:Int} (h:zA4 S k=some xs) (h0:0≤r) (h1:r<xs.length):∃ d,oIx (.lst k) (.int r) S=.ok d S∧d∈xs:=by
 obtain ⟨d,e,m⟩:=zS0 h0 h1
 exact ⟨d,by rw [zD1 h,e],m⟩
theorem zU7 {S:zA0}{k:Nat}{kvs:List (Key × D)} (h:S[k]?=some (.dk kvs)):My.kd S (.dct k):=⟨"dict",by show zDc S k=_; unfold zDc; rw [h]⟩
noncomputable def oddV (a b c:Nat):yM:=[.non,.bl true,.bl false,.int (-1),.str (Str.ofString ""),.str (Str.ofString "at"),.tup [],.lst a,.tup [.bl true],.lst b,.dct c,.tup [.non],.tup [.int (-1)],.tup [.str (Str.ofString "at")],.tup [.int 100000000000000000000000000000],.tup [.int 0,.int 0]]
theorem zOG (c:CLL) {S S1 S2 S3 S4 S5:zA0}{i:Nat}{r:Int}{d:D} (h1:S++[.lst []]=S1) (h2:S1++[.lst [.int 0]]=S2) (h3:S2++[.dk [((Sum.inl 0:Key),D.int 1)]]=S3) (h4:S3++[.lst (oddV S.length S1.length S2.length)]=S4) (e:c "_law_take" [.lst i,.int 16] S4=.ok (.int r) S5) (ix:oIx (.lst S3.length) (.int r) S5=.ok d S5) :
  zBz c [some (.lst i),none] S=.rt d S5:=by
 unfold oddV at h4
 have hk:zD7 (.int 0)=some (Sum.inl 0:Key):=rfl
 simp [zBz,h1,h2,h3,h4,e,ix,hk]
theorem zMs (h:zCL cl) (ht:zAS cl) (n:Nat) {S:zA0}{i:Nat} (st:StOk S i):∃ d S1,cl (n+2) "_law_odd" [.lst i] S=.ok d S1∧ThO S1 d∧Kp (·=i) S S1∧StOk S1 i:=by
 rw [show n+2=(n+1)+1 from rfl,h]
 obtain ⟨S1,h1⟩:∃ S1,S++[O.lst []]=S1:=⟨_,rfl⟩
 obtain ⟨S2,h2⟩:∃ S2,S1++[O.lst [.int 0]]=S2:=⟨_,rfl⟩
 obtain ⟨S3,h3⟩:∃ S3,S2++[O.dk [((Sum.inl 0:Key),D.int 1)]]=S3:=⟨_,rfl⟩
 obtain ⟨S4,h4⟩:∃ S4,S3++[O.lst (oddV S.length S1.length S2.length)]=S4:=⟨_,rfl⟩
 have x1:Ex S S1:=by rw [← h1]; exact zA5 _ _
 have x2:Ex S1 S2:=by rw [← h2]; exact zA5 _ _
 have x3:Ex S2 S3:=by rw [← h3]; exact zA5 _ _
 have x4:Ex S3 S4:=by rw [← h4]; exact zA5 _ _
 have x14:=((x1.trans x2).trans x3).trans x4
 have st4:=st.ex x14
 have ilt:=st.lt
 obtain ⟨r,S5,e5,r0,r1,k5,n5,st5⟩:=zAd ht n st4 (m:=16) (by decide) (by decide)
 have le1:=x1.le
 have le2:=x2.le
 have le3:=x3.le
 have l4:zA4 S5 S3.length=some (oddV S.length S1.length S2.length):=k5.lst (by rw [← h4]; exact zA2 _ _) (by omega)
 obtain ⟨d,ix,mem⟩:=zKq l4 r0 (by show r<((16:Nat):Int); omega)
 refine ⟨d,S5,zA9 rfl (zOG _ h1 h2 h3 h4 e5 ix),?_,x14.kp.trans k5,st5⟩
 have ka:My.kd S5 (.lst S.length):=zG6 (by rw [k5.lst (((x2.trans x3).trans x4).lst (show zA4 S1 S.length=some [] by rw [← h1]; exact zA2 _ _) fun z=>z) (by omega)]; rfl)
 have kb:My.kd S5 (.lst S1.length):=zG6 (by rw [k5.lst ((x3.trans x4).lst (show zA4 S2 S1.length=some [.int 0] by rw [← h2]; exact zA2 _ _) fun z=>z) (by omega)]; rfl)
 have kc:My.kd S5 (.dct S2.length):=zU7 (kvs:=[((Sum.inl 0:Key),D.int 1)]) (by
  have:S3[S2.length]?=some (.dk [((Sum.inl 0:Key),D.int 1)]):=by rw [← h3,qA0 (qA9 _),qI7]; rfl
  exact k5.at (x4.at this fun z=>z) (by omega))
 unfold oddV at mem
 simp only [qB6,qF4,or_false] at mem
 have tp:∀ xs:yM,(∀ y∈xs,∃ t,zJk S5 y=some t)→xs.length≤100→ThO S5 (.tup xs):=fun xs a b=>zBe a b
 rcases mem with rfl | rfl | rfl | rfl | rfl | rfl | rfl | rfl | rfl | rfl | rfl | rfl | rfl | rfl | rfl | rfl
 ·exact zCO ⟨_,rfl⟩ rfl
 ·exact zCO ⟨_,rfl⟩ rfl
 ·exact zCO ⟨_,rfl⟩ rfl
 ·exact zCO ⟨_,rfl⟩ rfl
 ·exact zCO ⟨_,rfl⟩ rfl
 ·exact zCO ⟨_,rfl⟩ rfl
 ·exact tp [] (fun y hy=>by cases hy) (by decide)
 ·exact zCO ka rfl
 ·exact tp _ (fun y hy=>by rw [qA8.mp hy]; exact ⟨_,rfl⟩) (by decide)
 ·exact zCO kb rfl
 ·exact zCO kc rfl
 ·exact tp _ (fun y hy=>by rw [qA8.mp hy]; exact ⟨_,rfl⟩) (by decide)
 ·exact tp _ (fun y hy=>by rw [qA8.mp hy]; exact ⟨_,rfl⟩) (by decide)
 ·exact tp _ (fun y hy=>by rw [qA8.mp hy]; exact ⟨_,rfl⟩) (by decide)
 ·exact tp _ (fun y hy=>by rw [qA8.mp hy]; exact ⟨_,rfl⟩) (by decide)
 ·exact zDF (t:=[0,0]) (by decide)
theorem zRZ (c:CLL) {nd sd csd od p1 p2 p3 p4 p5 q1 q2' q2 q3 q5 q7' q7a q7 r:D}{i k8:Nat}{z m a b u v:Int}{is so:yM}{w3 w4 w5:Option D}{S S1 S2 S3 S4 S5 S6 S7 S8 S9 S10 S11:zA0}
  (fl:∀ S,fLen [sd] S=.ok (.int z) S) (e1:c "_law_take" [.lst i,.int (z+1)] S=.ok (.int a) S1) (i2:∀ S,oIx nd (.int 2) S=.ok csd S) (fl2:∀ S,fLen [csd] S=.ok (.int m) S) (e2:c "_law_take" [.lst i,.int (m+1)] S1=.ok (.int b) S2)
  (h3:S2++[.lst [.int 0,.int m,.int (-1),.bl true,.non,.str (Str.ofString "0"),.tup [.int 0],.int b]]=S3) (e3:c "_law_take" [.lst i,.int 8] S3=.ok (.int u) S4) (ix:oIx (.lst S2.length) (.int u) S4=.ok od S4)
  (s1:∀ S,oSl sd none (some a) S=.ok p1 S) (s2:∀ S,oSl sd (some (a+1)) none S=.ok p2 S) (s3:∀ S,oSl sd (some a) none S=.ok p3 S) (s4:∀ S,oRev sd (.int (-1)) S=.ok p4 S) (s5:∀ S,oSl sd none (some 1) S=.ok p5 S)
  (d1:∀ S,oAdd p1 p2 S=.ok q1 S) (d2:∀ S,oAdd p1 (.tup [od]) S=.ok q2' S) (d2b:∀ S,oAdd q2' p2 S=.ok q2 S) (d3:∀ S,oAdd q2' p3 S=.ok q3 S) (d5:∀ S,oAdd sd p5 S=.ok q5 S) (d7:∀ S,oAdd p1 (.tup [.int 0]) S=.ok q7' S) (d7b:∀ S,oAdd q7' p3 S=.ok q7a S)
  (h5:S4++[.lst [q1,q2,q3,p4]]=S5) (f6:zId [sd] S5=.ok (.lst S5.length) S6) (f7:zAy [q7a] S6=.ok (.lst S6.length) S7) (f8:zAO [.lst S6.length] S7=.ok q7 S7) (h8:S7++[.lst [q5,.lst S5.length,q7,.tup [sd]]]=S8) (a8:oAdd (.lst S4.length) (.lst S7.length) S8=.ok (.lst k8) S9)
  (e9:c "_law_take" [.lst i,.int 8] S9=.ok (.int v) S10) (i9:oIx (.lst k8) (.int v) S10=.ok r S10) :
  zBa c [some (.lst i),some nd,some sd,w3,w4,w5] S=.rt r S10:=by
 simp [zBa,fl,e1,i2,fl2,e2,h3,e3,ix,s1,s2,s3,s4,s5,d1,d2,d2b,d3,d5,d7,d7b,h5,f6,f7,f8,h8,a8,e9,i9]
theorem zDx {xs ys:yM} (h:xs.length+ys.length≤1000) (S:zA0):oAdd (.tup xs) (.tup ys) S=.ok (.tup (xs++ys)) S:=by
 show (if xs.length+ys.length≤lim then R.ok (D.tup (xs++ys)) S else .bad)=_
 rw [if_pos (by rw [zAc]; omega)]
theorem zU2 {S S1:zA0}{i:Nat} (h:Kp (·=i) S S1) (a:StOk S i) (b:StOk S1 i):Kd S S1:=by
 obtain ⟨_,_,e,_⟩:=a
 obtain ⟨_,_,e',_⟩:=b
 exact zWL h (by rw [e']; rfl) (by rw [e]; rfl)
theorem zUS (h:zCk cl) (ht:zAS cl) (n:Nat) {N:Net} (hc:N.cs.length≤16) {t:yA} (tl:t.length≤16) {S:zA0}{i:Nat} (st:StOk S i):∃ r S',cl (n+2) "_law_bent" [.lst i,N.d,tD t] S=.ok r S'∧ThO S' r∧Kp (·=i) S S'∧StOk S' i:=by
 have ilt:=st.lt
 obtain ⟨a,S1,e1,a0,a1,k1,n1,st1⟩:=zAd ht n st (m:=(t.length:Int)+1) (by omega) (by omega)
 obtain ⟨b,S2,e2,b0,b1,k2,n2,st2⟩:=zAd ht n st1 (m:=(N.cs.length:Int)+1) (by omega) (by omega)
 obtain ⟨S3,h3⟩:∃ S3,S2++[O.lst [.int 0,.int (N.cs.length:Int),.int (-1),.bl true,.non,.str (Str.ofString "0"),.tup [.int 0],.int b]]=S3:=⟨_,rfl⟩
 have x3:Ex S2 S3:=by rw [← h3]; exact zA5 _ _
 obtain ⟨u,S4,e3,u0,u1,k4,n4,st4⟩:=zAd ht n (st2.ex x3) (m:=8) (by decide) (by decide)
 have lS2:S2.length=S.length:=by omega
 have l4:zA4 S4 S2.length=some [.int 0,.int (N.cs.length:Int),.int (-1),.bl true,.non,.str (Str.ofString "0"),.tup [.int 0],.int b]:=k4.lst (by rw [← h3]; exact zA2 _ _) (by omega)
 obtain ⟨od,ix,mem⟩:=zKq l4 u0 (by show u<((8:Nat):Int); omega)
 have kod:∀ S,My.kd S od:=fun S=>by
  simp only [qB6,qF4,or_false] at mem
  rcases mem with rfl | rfl | rfl | rfl | rfl | rfl | rfl | rfl <;> exact ⟨_,rfl⟩
 obtain ⟨A,hA⟩:∃ A,a.toNat=A:=⟨_,rfl⟩
 obtain ⟨B,hB⟩:∃ B,(a+1).toNat=B:=⟨_,rfl⟩
 have hX:(t.map D.int).length=t.length:=by simp
 have s1:∀ S,oSl (tD t) none (some a) S=.ok (.tup ((t.map D.int).take A)) S:=fun S=>by
  unfold tD; rw [zGu,zFj _ a0,hA]
 have s2:∀ S,oSl (tD t) (some (a+1)) none S=.ok (.tup ((t.map D.int).drop B)) S:=fun S=>by
  unfold tD; rw [zGu,zIh _ (by omega),hB]
 have s3:∀ S,oSl (tD t) (some a) none S=.ok (.tup ((t.map D.int).drop A)) S:=fun S=>by
  unfold tD; rw [zGu,zIh _ a0,hA]
 have s4:∀ S,oRev (tD t) (.int (-1)) S=.ok (.tup (t.map D.int).reverse) S:=fun S=>rfl
 have s5:∀ S,oSl (tD t) none (some 1) S=.ok (.tup ((t.map D.int).take 1)) S:=fun S=>by
  unfold tD; rw [zGu,zFj _ (by decide)]; rfl
 have lt:∀ k,((t.map D.int).take k).length≤16:=fun k=>by rw [qH1,hX]; omega
 have ld:∀ k,((t.map D.int).drop k).length≤16:=fun k=>by rw [qI2,hX]; omega
 have d1:∀ S,oAdd (.tup ((t.map D.int).take A)) (.tup ((t.map D.int).drop B)) S=.ok _ S:=fun S=>zDx (by have:=lt A; have:=ld B; omega) S
 have d2:∀ S,oAdd (.tup ((t.map D.int).take A)) (.tup [od]) S=.ok _ S:=fun S=>zDx (by have:=lt A; simp; omega) S
 have d2b:∀ S,oAdd (.tup ((t.map D.int).take A++[od])) (.tup ((t.map D.int).drop B)) S=.ok _ S:=fun S=>zDx (by have:=lt A; have:=ld B; rw [qB1,qE4]; omega) S
 have d3:∀ S,oAdd (.tup ((t.map D.int).take A++[od])) (.tup ((t.map D.int).drop A)) S=.ok _ S:=fun S=>zDx (by have:=lt A; have:=ld A; rw [qB1,qE4]; omega) S
 have d5:∀ S,oAdd (tD t) (.tup ((t.map D.int).take 1)) S=.ok _ S:=fun S=>zDx (by have:=lt 1; rw [hX]; omega) S
 have d7:∀ S,oAdd (.tup ((t.map D.int).take A)) (.tup [.int 0]) S=.ok _ S:=fun S=>zDx (by have:=lt A; simp; omega) S
 have d7b:∀ S,oAdd (.tup ((t.map D.int).take A++[.int 0])) (.tup ((t.map D.int).drop A)) S=.ok _ S:=fun S=>zDx (by have:=lt A; have:=ld A; rw [qB1,qE4]; omega) S
 have e7:(D.tup ((t.map D.int).take A++[D.int 0]++(t.map D.int).drop A))=iT (t.take A++[0]++t.drop A):=by
  unfold iT; rw [qE8,qE8,List.map_take,qU3]; rfl
 obtain ⟨Q4,hQ4⟩:∃ Q4:yM,[.tup ((t.map D.int).take A++(t.map D.int).drop B),.tup ((t.map D.int).take A++[od]++(t.map D.int).drop B),.tup ((t.map D.int).take A++[od]++(t.map D.int).drop A),.tup (t.map D.int).reverse]=Q4:=⟨_,rfl⟩
 obtain ⟨S5,h5⟩:∃ S5,S4++[O.lst Q4]=S5:=⟨_,rfl⟩
 have f6:zId [tD t] S5=.ok (.lst S5.length) (S5++[.lst (t.map D.int)]):=zN7 _ _
 obtain ⟨S6,h6⟩:∃ S6,S5++[O.lst (t.map D.int)]=S6:=⟨_,rfl⟩
 rw [h6] at f6
 have sl:(t.take A++[0]++t.drop A).length<64:=by
  have:(t.take A++t.drop A).length=t.length:=by rw [qD1]
  simp only [qB1,qE4] at this ⊢
  omega
 have f7:=zFf sl S6
 rw [← e7] at f7
 obtain ⟨S7,h7⟩:∃ S7,S6++[O.lst ((zCS (t.take A++[0]++t.drop A)).map D.int)]=S7:=⟨_,rfl⟩
 rw [h7] at f7
 have f8:zAO [.lst S6.length] S7=.ok (tD (zCS (t.take A++[0]++t.drop A))) S7:=zCu (by rw [← h7]; exact zA2 _ _)
 obtain ⟨Q8,hQ8⟩:∃ Q8:yM,[.tup (t.map D.int++(t.map D.int).take 1),.lst S5.length,tD (zCS (t.take A++[0]++t.drop A)),.tup [tD t]]=Q8:=⟨_,rfl⟩
 obtain ⟨S8,h8⟩:∃ S8,S7++[O.lst Q8]=S8:=⟨_,rfl⟩
 have x5:Ex S4 S5:=by rw [← h5]; exact zA5 _ _
 have x6:Ex S5 S6:=by rw [← h6]; exact zA5 _ _
 have x7:Ex S6 S7:=by rw [← h7]; exact zA5 _ _
 have x8:Ex S7 S8:=by rw [← h8]; exact zA5 _ _
 have lq:zA4 S8 S4.length=some Q4:=((x6.trans x7).trans x8).lst (show zA4 S5 S4.length=some Q4 by rw [← h5]; exact zA2 _ _) fun z=>z
 have lq2:zA4 S8 S7.length=some Q8:=by rw [← h8]; exact zA2 _ _
 have q44:Q4.length=4:=by rw [← hQ4]; rfl
 have q88:Q8.length=4:=by rw [← hQ8]; rfl
 have a8:=zC7 lq lq2 (by rw [zAc,q44,q88]; decide)
 obtain ⟨S9,h9⟩:∃ S9,S8++[O.lst (Q4++Q8)]=S9:=⟨_,rfl⟩
 rw [h9] at a8
 have x9:Ex S8 S9:=by rw [← h9]; exact zA5 _ _
 have x49:=(((x5.trans x6).trans x7).trans x8).trans x9
 have le5:=x5.le
 have le6:=x6.le
 have le7:=x7.le
 have le8:=x8.le
 have le3:=x3.le
 obtain ⟨v,S10,e9,v0,v1,k10,n10,st10⟩:=zAd ht n (st4.ex x49) (m:=8) (by decide) (by decide)
 have l10:zA4 S10 S8.length=some (Q4++Q8):=k10.lst (show zA4 S9 S8.length=some (Q4++Q8) by rw [← h9]; exact zA2 _ _) (by omega)
 obtain ⟨r,i9,mr⟩:=zKq l10 v0 (by rw [qB1,q44,q88]; omega)
 have kpAll:Kp (·=i) S S10:=((((k1.trans k2).trans x3.kp).trans k4).trans x49.kp).trans k10
 refine ⟨r,S10,?_,?_,kpAll,st10⟩
 ·rw [show n+2=(n+1)+1 from rfl,h]
  exact zA9 rfl (zRZ (z:=(t.length:Int)) (m:=(N.cs.length:Int)) (is:=[]) (so:=[]) (S11:=S) _ (fun S=>by show R.ok (D.int ((t.map D.int).length:Nat)) S=_; rw [hX]) e1 (fun S=>zIi S) (fun S=>by show R.ok (D.int ((N.cs.map Ct.d).length:Nat)) S=_; rw [qA6]) e2 h3 e3 ix s1 s2 s3 s4 s5 d1 d2 d2b d3 d5 d7 d7b (by rw [hQ4]; exact h5) f6 f7 f8 (by rw [hQ8]; exact h8) a8 e9 i9)
 ·have kX:∀ y∈t.map D.int,My.kd S10 y:=fun y hy=>by obtain ⟨j,_,rfl⟩:=qC9.mp hy; exact ⟨_,rfl⟩
  have kt:∀ k,∀ y∈(t.map D.int).take k,My.kd S10 y:=fun k y hy=>kX y (qE6 hy)
  have kdp:∀ k,∀ y∈(t.map D.int).drop k,My.kd S10 y:=fun k y hy=>kX y (qG2 hy)
  have kap:∀ xs ys:yM,(∀ y∈xs,My.kd S10 y)→(∀ y∈ys,My.kd S10 y)→∀ y∈xs++ys,My.kd S10 y:=fun xs ys p q y hy=>(qB4.mp hy).elim (p y) (q y)
  have k1d:∀ y∈[od],My.kd S10 y:=fun y hy=>by rw [qA8.mp hy]; exact kod S10
  rw [← hQ4,← hQ8] at mr
  simp only [qH2,List.nil_append,qB6,qF4,or_false] at mr
  rcases mr with rfl | rfl | rfl | rfl | rfl | rfl | rfl | rfl
  ·exact zBe (kap _ _ (kt A) (kdp B)) (by have:=lt A; have:=ld B; rw [qB1]; omega)
  ·exact zBe (kap _ _ (kap _ _ (kt A) k1d) (kdp B)) (by have:=lt A; have:=ld B; rw [qB1,qB1,qE4]; omega)
  ·exact zBe (kap _ _ (kap _ _ (kt A) k1d) (kdp A)) (by have:=lt A; have:=ld A; rw [qB1,qB1,qE4]; omega)
  ·exact zBe (fun y hy=>kX y (qI3.mp hy)) (by rw [qQ8,hX]; omega)
  ·exact zBe (kap _ _ kX (kt 1)) (by have:=lt 1; rw [qB1,hX]; omega)
  ·refine zCO (zG6 ?_) rfl
   have:zA4 S6 S5.length=some (t.map D.int):=by rw [← h6]; exact zA2 _ _
   rw [k10.lst (((x7.trans x8).trans x9).lst this fun z=>z) (by omega)]; rfl
  ·exact zDF (by rw [(zDo _).length_eq]; omega)
  ·exact zBe (fun y hy=>by rw [qA8.mp hy]; exact ⟨_,rfl⟩) (by simp)
theorem zOO (cs:yN):∃ C,Side C∧zNM cs (cutI cs C):=by
 have key:∀ n:Nat,∀ C,Side C→(cutI cs C).length≤n→∃ C,Side C∧zNM cs (cutI cs C):=by
  intro n
  induction n with
  | zero =>
   intro C hs hl
   refine ⟨C,hs,fun C' _ hsub=>?_⟩
   have e:cutI cs C=[]:=qF1.mp (by omega)
   rw [e] at hsub ⊢
   cases hq:cutI cs C' with
   | nil=>rfl
   | cons x l=>rw [hq] at hsub; exact absurd (hsub x (qD4 ..)) (by simp)
  | succ n ih =>
   intro C hs hl
   by_cases hL:zNM cs (cutI cs C)
   ·exact ⟨C,hs,hL⟩
   ·unfold zNM at hL
    simp only [Classical.not_forall] at hL
    obtain ⟨C',hs',hsub,hne⟩:=hL
    obtain ⟨x,hx,hxn⟩:∃ x∈cutI cs C,x∉cutI cs C':=by
     apply Classical.byContradiction
     intro hno
     apply hne
     apply zNi
     intro x
     exact ⟨hsub x,fun hx=>Classical.byContradiction fun q=>hno ⟨x,hx,q⟩⟩
    refine ih C' hs' ?_
    have nd:∀ D,(cutI cs D).Nodup:=fun D=>by
     unfold cutI
     rw [List.nodup_iff_pairwise_ne,qK1]
     exact ((List.nodup_range (n:=cs.length)).sublist qJ1).imp fun h e=>h (by omega)
    have le:=List.Nodup.length_le_of_subset (nd C') (l₂:=(cutI cs C).filter fun y=>decide (y≠x)) fun y hy=>qD5.mpr ⟨hsub y hy,decide_eq_true fun e=>hxn (e▸hy)⟩
    have lt:((cutI cs C).filter fun y=>decide (y≠x)).length<(cutI cs C).length:=by
     rw [List.length_filter_lt_length_iff_exists]
     exact ⟨x,hx,by simp⟩
    omega
 exact key _ (fun x=>decide (x=0)) ⟨rfl,rfl⟩ (qA9 _)
theorem zIW.ne {cs:yN}{L:List (yA)} (h:zIW cs L):0<L.length:=by
 obtain ⟨C,hs,hl⟩:=zOO cs
 exact List.length_pos_of_mem ((h.mem _).mpr ⟨C,hs,rfl,hl⟩)
structure HL22 (cl:Nat→CLL):Prop where
 d:HD cl
 b:HBw cl
 w:HLw cl
 s:HLs cl
 pa:zDh cl
 ri:zC3 cl
 od:zCL cl
 be:zCk cl
theorem zOR (c:CLL) {sc nd one od:D}{xs Z7 L9 Z13 TH ZB:yM}{i k1 k2 k5 k12 k15 m:Nat}{jj z r zm:Int}{w1 w3 w4 w5 w6 w7 w8:Option D}{S S1 S2 S3 S4 S5 S6 S7 S8 S9 S10 S11 S12 S13 S14 S15 S16:zA0}
  (e1:c "_law_state" [sc,.int jj] S=.ok (.lst i) S1) (e2:c "_law_net" [.lst i,.int 4,.int 6,.int 9] S1=.ok nd S2) (e3:c "_law_paths" [nd] S2=.ok (.lst k1) S3) (e4:c "_law_shuts" [nd] S3=.ok (.lst k2) S4) (a5:oAdd (.lst k1) (.lst k2) S4=.ok (.lst k5) S5) (fl5:fLen [.lst k5] S5=.ok (.int z) S5)
  (e6:c "_law_take" [.lst i,.int z] S5=.ok (.int r) S6) (i6:oIx (.lst k5) (.int r) S6=.ok one S6) (i2:∀ S,oIx nd (.int 2) S=.ok (.tup xs) S) (flm:∀ S,fLen [.tup xs] S=.ok (.int zm) S) (hz:zm.toNat=m) (m0:-4611686018427387904≤zm) (m1:zm<4611686018427387904) (hlm:(upD 0 m).length<lim)
  (e7:zAh [] .one (zD2 c) (zDN c) [none,some (.lst i)] (upD 0 m) S6=.ok Z7 S7) (h8:S7++[.lst Z7]=S8) (f8:zAO [.lst S7.length] S8=.ok (.tup Z7) S8) (s9:oSl (.lst k5) none (some 4) S8=.ok (.lst S8.length) S9) (ft:zLg [.int zm] S9=.ok (.tup (upD 0 m)) S9) (e10:c "_law_odd" [.lst i] S9=.ok od S10)
  (h11:S10++[.lst [.tup Z7,.tup (upD 0 m),.tup [],od]]=S11) (a12:oAdd (.lst S8.length) (.lst S10.length) S11=.ok (.lst k12) S12) (e13:zAh [] .one (fun _=>ret true) (zBV c) [none,some (.lst i),some nd,some one] (upD 0 4) S12=.ok Z13 S13) (h14:S13++[.lst Z13]=S14) (a15:oAdd (.lst k12) (.lst S13.length) S14=.ok (.lst k15) S15)
  (l15:zA4 S15 k15=some TH) (hlT:TH.length<lim) (e16:zAh [(k15,TH)] .one (fun _=>ret true) (zD4 c) [none,some nd] TH S15=.ok ZB S16) (fb:zBv (fun bs=>bs.all id) [.lst S16.length] (S16++[.lst ZB])=.ok (.bl true) (S16++[.lst ZB])) :
  zCs c [some sc,w1,some (.int jj),w3,w4,w5,w6,w7,w8] S=.nx [some sc,w1,some (.int jj),some (.lst i),some nd,some (.lst k5),some one,some (.tup Z7),some (.lst k15)] (S16++[.lst ZB]):=by
 have h4:((4:Int).toNat)=4:=rfl
 have hl4:(upD 0 4).length<lim:=by rw [zAc]; decide
 simp [zCs,e1,e2,e3,e4,a5,fl5,e6,i6,i2,flm,hz,m0,m1,hlm,e7,h8,f8,s9,ft,e10,h11,a12,h4,hl4,e13,h14,a15,l15,hlT,e16,fb]
theorem zX0 (c:CLL) {i:Nat}{x:D}{r:Int}{S S1:zA0} (e:c "_law_take" [.lst i,.int 2] S=.ok (.int r) S1):zD2 c [some x,some (.lst i)] S=.ok (decide (r=0)) S1:=by
 simp [zD2,e]
theorem zX2 (c:CLL) {nd one x r:D}{i:Nat}{S S1:zA0} (e:c "_law_bent" [.lst i,nd,one] S=.ok r S1):zBV c [some x,some (.lst i),some nd,some one] S=.ok r S1:=by
 simp [zBV,e]
theorem zX1 (c:CLL) {nd x:D}{S S1:zA0} (e:c "_law_right" [nd,x] S=.ok (.bl true) S1):zD4 c [some x,some nd] S=.ok (.bl true) S1:=by
 simp [zD4,e]
theorem zW0 (H:HL22 cl) (n:Nat) (ns:yA) {sc:D} (hsc:D.rol (ns.map D.int)=sc) (jj:Int) (hj:0≤jj) (S:zA0) (w1 w3 w4 w5 w6 w7 w8:Option D):∃ v3 v4 v5 v6 v7 v8 S',zCs (cl (n+10)) [some sc,w1,some (.int jj),w3,w4,w5,w6,w7,w8] S=.nx [some sc,w1,some (.int jj),v3,v4,v5,v6,v7,v8] S':=by
 obtain ⟨S1,e1,x1,st1⟩:=zKP H.d.st H.d.ce (n+8) ns jj hj S
 rw [hsc] at e1
 obtain ⟨i,hi0⟩:∃ i0,S.length=i0:=⟨_,rfl⟩
 rw [hi0] at e1 st1
 obtain ⟨N,S2,e2,okN,k2,st2⟩:=zOH H.d.ne H.d.en H.d.ta (n+7) st1 (ms:=4) (mp:=6) (mc:=9) (by decide) (by decide) (by decide)
 have ok:N.g:=okN.up (by decide) (by decide) (by decide)
 have hc:N.cs.length≤16:=by have:=ok.c1; omega
 have wf:=zNW ok
 obtain ⟨k1,S3,e3,x3,le3,l3⟩:=zFH H.pa (n+9) ok S2
 obtain ⟨L,hL,Ll,k2',S4,e4,x4,le4,l4⟩:=zFG H.s (n+8) ok S3
 have a5:=zC7 (x4.lst l3 fun z=>z) l4 (by rw [qA6,qA6,zAc]; omega)
 obtain ⟨S5,h5⟩:∃ S5,S4++[O.lst ((zDt N).map tD++L.map tD)]=S5:=⟨_,rfl⟩
 rw [h5] at a5
 have l5:zA4 S5 S4.length=some ((zDt N).map tD++L.map tD):=by rw [← h5]; exact zA2 _ _
 have x5:Ex S4 S5:=by rw [← h5]; exact zA5 _ _
 have st5:=st2.ex ((x3.trans x4).trans x5)
 have i5:=st5.lt
 have il2:=st2.lt
 have le34:=x3.le
 have le44:=x4.le
 have fl5:=zGP l5
 have lne:=hL.ne
 obtain ⟨r,S6,e6,r0,r1,k6,n6,st6⟩:=zAd H.d.ta (n+9) st5 (m:=(((zDt N).map tD++L.map tD).length:Int)) (by rw [qB1,qA6,qA6]; omega) (by rw [qB1,qA6,qA6]; omega)
 have i4:i<S4.length:=by omega
 have l6:zA4 S6 S4.length=some ((zDt N).map tD++L.map tD):=k6.lst l5 (by omega)
 obtain ⟨one,i6,m6⟩:=zKq l6 r0 r1
 obtain ⟨t,rfl,tl⟩:∃ t,one=tD t∧t.length≤16:=by
  rcases qB4.mp m6 with q | q
  ·obtain ⟨t,ht,rfl⟩:=qC9.mp q; exact ⟨t,rfl,(zHi ok t ht).1⟩
  ·obtain ⟨t,ht,rfl⟩:=qC9.mp q; exact ⟨t,rfl,(hL.few ok t ht).1⟩
 obtain ⟨Z7,S7,e7,⟨k7,st7⟩,q7,n7⟩:=zGS D.int (w:=[]) (t:=.one) (tc:=zD2 (cl (n+10))) (c:=zDN (cl (n+10))) (ρ0:=[none,some (.lst i)]) (fun S'=>Kp (·=i) S6 S'∧StOk S' i) (fun y=>∃ x:Int,y=.int x) (fun _ _=>zAf _) (upI N.cs.length) (S:=S6) ⟨Kp.refl _ _,st6⟩ (fun y hy S' hp=>by
   obtain ⟨q,T1,f1,_,_,kk,_,stt⟩:=zAd H.d.ta (n+9) hp.2 (m:=2) (by decide) (by decide)
   exact ⟨[some (.int y),some (.lst i)],rfl,_,T1,zX0 _ f1,fun _=>⟨hp.1.trans kk,stt⟩,fun _=>⟨_,T1,by simp [zDN],⟨hp.1.trans kk,stt⟩,⟨y,rfl⟩⟩⟩)
 have eu:upD 0 N.cs.length=(upI N.cs.length).map D.int:=by
  unfold upD upI; rw [qE2]; apply qI0; intro k _; simp
 rw [← eu] at e7
 have zl7:Z7.length≤16:=qC5 n7 (by unfold upI; simp; exact hc)
 obtain ⟨S8,h8⟩:∃ S8,S7++[O.lst Z7]=S8:=⟨_,rfl⟩
 have x8:Ex S7 S8:=by rw [← h8]; exact zA5 _ _
 have f8:zAO [.lst S7.length] S8=.ok (.tup Z7) S8:=zCu (by rw [← h8]; exact zA2 _ _)
 have l8:zA4 S8 S4.length=some ((zDt N).map tD++L.map tD):=x8.lst (k7.lst l6 (by omega)) fun z=>z
 have s9:=zMt l8 none (some 4)
 rw [zFj _ (by decide)] at s9
 obtain ⟨S9,h9⟩:∃ S9,S8++[O.lst (((zDt N).map tD++L.map tD).take (4:Int).toNat)]=S9:=⟨_,rfl⟩
 rw [h9] at s9
 have x9:Ex S8 S9:=by rw [← h9]; exact zA5 _ _
 have l9:zA4 S9 S8.length=some (((zDt N).map tD++L.map tD).take (4:Int).toNat):=by rw [← h9]; exact zA2 _ _
 have st9:=(st7.ex x8).ex x9
 obtain ⟨zm,hzm⟩:∃ z:Int,(N.cs.length:Int)=z:=⟨_,rfl⟩
 have ft:zLg [.int zm] S9=.ok (.tup (upD 0 N.cs.length)) S9:=by
  show (if -4611686018427387904≤zm∧zm<4611686018427387904∧zm≤1000 then R.ok (D.tup (upD 0 zm.toNat)) S9 else .bad)=_
  rw [if_pos (by omega),show zm.toNat=N.cs.length by omega]
 obtain ⟨od,S10,e10,to10,k10,st10⟩:=zMs H.od H.d.ta (n+8) st9
 have le8:=x8.le
 have le9:=x9.le
 have le7:=k7.le
 have le6:=k6.le
 have i9:=st9.lt
 have kne8:¬ S8.length=i:=by have:=st7.lt; omega
 have l10:zA4 S10 S8.length=some (((zDt N).map tD++L.map tD).take (4:Int).toNat):=k10.lst l9 kne8
 obtain ⟨S11,h11⟩:∃ S11,S10++[O.lst [.tup Z7,.tup (upD 0 N.cs.length),.tup [],od]]=S11:=⟨_,rfl⟩
 have x11:Ex S10 S11:=by rw [← h11]; exact zA5 _ _
 have a12:=zC7 (x11.lst l10 fun z=>z) (show zA4 S11 S10.length=some [.tup Z7,.tup (upD 0 N.cs.length),.tup [],od] by rw [← h11]; exact zA2 _ _) (by
  have:(((zDt N).map tD++L.map tD).take (4:Int).toNat).length≤4:=qR2 ..
  rw [zAc]; simp only [qC3,qF3]; omega)
 obtain ⟨T1,hT1⟩:∃ T1,((zDt N).map tD++L.map tD).take (4:Int).toNat++[.tup Z7,.tup (upD 0 N.cs.length),.tup [],od]=T1:=⟨_,rfl⟩
 rw [hT1] at a12
 have T1l:T1.length≤8:=by
  rw [← hT1,qB1]
  have:(((zDt N).map tD++L.map tD).take (4:Int).toNat).length≤4:=qR2 ..
  simp only [qC3,qF3]; omega
 obtain ⟨S12,h12⟩:∃ S12,S11++[O.lst T1]=S12:=⟨_,rfl⟩
 rw [h12] at a12
 have x12:Ex S11 S12:=by rw [← h12]; exact zA5 _ _
 have l12:zA4 S12 S11.length=some T1:=by rw [← h12]; exact zA2 _ _
 have st12:=st10.ex (x11.trans x12)
 have i12:=st10.lt
 have le11:=x11.le
 have tho12:∀ x∈T1,ThO S12 x:=fun x hx=>by
  rw [← hT1] at hx
  rcases qB4.mp hx with hx | hx
  ·rcases qB4.mp (qE6 hx) with q | q
   ·obtain ⟨u,hu,rfl⟩:=qC9.mp q; exact zDF (by have:=(zHi ok u hu).1; omega)
   ·obtain ⟨u,hu,rfl⟩:=qC9.mp q; exact zDF (by have:=(hL.few ok u hu).1; omega)
  ·simp only [qB6,qF4,or_false] at hx
   rcases hx with rfl | rfl | rfl | rfl
   ·exact zBe (fun y hy=>by obtain ⟨a,rfl⟩:=q7 y hy; exact ⟨_,rfl⟩) (by omega)
   ·exact zBe (fun y hy=>by rw [eu] at hy; obtain ⟨a,_,rfl⟩:=qC9.mp hy; exact ⟨_,rfl⟩) (by simp [upD]; omega)
   ·exact zBe (fun y hy=>by cases hy) (by decide)
   ·exact to10.kd (zHP (x11.trans x12))
 have bnt:∀ (l:yA) (S':zA0),Kp (·=i) S12 S'→StOk S' i→∃ Z S'',zAh [] .one (fun _=>ret true) (zBV (cl (n+10))) [none,some (.lst i),some N.d,some (tD t)] (l.map D.int) S'=.ok Z S''∧Kp (·=i) S' S''∧StOk S'' i∧(∀ y∈Z,ThO S'' y)∧Z.length=l.length:=by
  intro l
  induction l with
  | nil=>intro S' _ ss; exact ⟨[],S',by rw [qJ5]; unfold zAh; rw [if_pos (zAf S')],Kp.refl _ _,ss,(fun y hy=>by cases hy),rfl⟩
  | cons x l ih =>
   intro S' kk ss
   obtain ⟨rr,U,f1,to1,ku,su⟩:=zUS H.be H.d.ta (n+8) hc tl ss
   obtain ⟨Z,S'',f2,kz,sz,tz,lz⟩:=ih U (kk.trans ku) su
   refine ⟨rr::Z,S'',?_,ku.trans kz,sz,fun y hy=>?_,by simp [lz]⟩
   ·rw [qB9]
    unfold zAh
    rw [if_pos (zAf S')]
    have e:zBV (cl (n+10)) [some (.int x),some (.lst i),some N.d,some (tD t)] S'=.ok rr U:=zX2 _ f1
    have bd:zFt .one (.int x) [none,some (.lst i),some N.d,some (tD t)]=some [some (.int x),some (.lst i),some N.d,some (tD t)]:=rfl
    rw [bd]
    dsimp only
    simp [L2.bnd,L2.ret,e,f2]
   ·rcases qB6.mp hy with rfl | hy
    ·exact to1.kd (zU2 kz su sz)
    ·exact tz y hy
 obtain ⟨Z13,S13,e13,k13,st13,tho13,zl13⟩:=bnt [0,1,2,3] S12 (Kp.refl _ _) st12
 have e13':zAh [] .one (fun _=>ret true) (zBV (cl (n+10))) [none,some (.lst i),some N.d,some (tD t)] (upD 0 4) S12=.ok Z13 S13:=e13
 obtain ⟨S14,h14⟩:∃ S14,S13++[O.lst Z13]=S14:=⟨_,rfl⟩
 have x14:Ex S13 S14:=by rw [← h14]; exact zA5 _ _
 have kne11:¬ S11.length=i:=by omega
 have a15:=zC7 (x14.lst (k13.lst l12 kne11) fun z=>z) (show zA4 S14 S13.length=some Z13 by rw [← h14]; exact zA2 _ _) (by rw [zAc,zl13]; simp only [qC3,qF3]; omega)
 obtain ⟨S15,h15⟩:∃ S15,S14++[O.lst (T1++Z13)]=S15:=⟨_,rfl⟩
 rw [h15] at a15
 have x15:Ex S14 S15:=by rw [← h15]; exact zA5 _ _
 have l15:zA4 S15 S14.length=some (T1++Z13):=by rw [← h15]; exact zA2 _ _
 have tho15:∀ x∈T1++Z13,ThO S15 x:=fun x hx=>by
  rcases qB4.mp hx with hx | hx
  ·exact (tho12 x hx).kd ((zU2 k13 st12 st13).trans (zHP (x14.trans x15)))
  ·exact (tho13 x hx).kd (zHP (x14.trans x15))
 obtain ⟨S16,e16,x16⟩:=zFk (fun d:D=>d) (w:=[(S14.length,T1++Z13)]) (t:=.one) (c:=zD4 (cl (n+10))) (ρ0:=[none,some N.d]) (fun S'=>Ex S15 S') (fun S' hx=>zD0 (hx.lst l15 fun z=>z)) (fun _=>D.bl true) (T1++Z13) (S:=S15) (Kp.refl _ _) (fun x hx S' hp=>by
   have tx:=(tho15 x hx).kd (zHP hp)
   obtain ⟨U,f1,y1⟩:=zJ5 H.b H.w H.ri (n+5) ok tx.k tx.l
   exact ⟨[some x,some N.d],rfl,U,zX1 _ f1,hp.trans y1⟩)
 rw [List.map_id'] at e16
 have fb:=zEz (S:=S16++[.lst ((T1++Z13).map fun _=>D.bl true)]) (n:=S16.length) (fun bs=>bs.all id) (fun _:D=>true) (T1++Z13) (zA2 S16 _)
 rw [show ((T1++Z13).map fun _=>true).all id=true by simp] at fb
 exact ⟨_,_,_,_,_,_,_,zOR (L9:=[]) (zm:=zm) (m:=N.cs.length) _ e1 e2 e3 e4 a5 fl5 e6 i6 (fun S=>zIi S) (fun S=>by rw [← hzm]; show R.ok (D.int ((N.cs.map Ct.d).length:Nat)) S=_; rw [qA6]) (by omega) (by omega) (by omega) (by rw [show (upD 0 N.cs.length).length=N.cs.length by simp [upD],zAc]; omega) e7 h8 f8 s9 ft e10 h11 a12 e13' h14 a15 l15 (by rw [qB1,zAc,zl13]; simp only [qC3,qF3]; omega) e16 fb⟩
theorem zRr (c:CLL) {sc x:D}{w2 w3 w4 w5 w6 w7 w8:Option D}{S S1 S2:zA0} (e1:c "_law_right" [.tup [.int 1,.int 2,.tup []],x] S=.ok (.bl true) S1) (e2:c "_law_right" [.tup [.int 1,.int 2,.tup [.tup [.int 0,.int 1,.int 0,.int 1]]],x] S1=.ok (.bl true) S2) :
  zD3 c [some sc,some x,w2,w3,w4,w5,w6,w7,w8] S=.nx [some sc,some x,w2,w3,w4,w5,w6,w7,w8] S2:=by
 simp [zD3,e1,e2]
theorem zRq (c:CLL) {ns:yA}{sc:D}{q:Int}{OD:yM}{v1:Option D}{S1 S2 S3:zA0} (hsc:D.rol (ns.map D.int)=sc) (hO:[D.tup [],.tup [.int 0],.non,.lst 0,.tup [.bl false]]=OD) (h1:[O.lst [],O.lst OD]=S1) (l1:zA4 S1 1=some OD)
  (hq:(if (if (6:Int)<(ns.length:Int) then 6 else (ns.length:Int))>1 then (if (6:Int)<(ns.length:Int) then 6 else (ns.length:Int)) else 1)=q) (f2:-4611686018427387904≤q∧q<4611686018427387904) (hl:(upD 0 q.toNat).length<lim)
  (e1:zBg [(1,OD)] (gN 1) (zD3 c) OD [some sc,none,none,none,none,none,none,none,none] S1=.nx [some sc,v1,none,none,none,none,none,none,none] S2) {ρ:Env1} (e2:zBg [] (gN 2) (zCs c) (upD 0 q.toNat) [some sc,v1,none,none,none,none,none,none,none] S2=.nx ρ S3) :
  zDU c [some sc,none,none,none,none,none,none,none,none] []=.rt (.bl true) S3:=by
 have hOl:OD.length<lim:=by rw [← hO,zAc]; decide
 subst hsc
 simp [zDU,hO,h1,l1,hOl,e1,hq,f2,hl,e2]
theorem zWJ (h:zIS cl) (H:HL22 cl) (n:Nat) (ns:yA):∃ S',cl (n+11) "law" [.rol (ns.map D.int)] []=.ok (.bl true) S':=by
 rw [show n+11=(n+10)+1 from rfl,h]
 obtain ⟨sc,hsc⟩:∃ sc,D.rol (ns.map D.int)=sc:=⟨_,rfl⟩
 have hm:∃ q:Int,(if (if (6:Int)<(ns.length:Int) then 6 else (ns.length:Int))>1 then (if (6:Int)<(ns.length:Int) then 6 else (ns.length:Int)) else 1)=q∧0≤q∧q≤6:=⟨_,rfl,by split <;> (try split) <;> omega,by split <;> (try split) <;> omega⟩
 obtain ⟨q,hq,q0,q6⟩:=hm
 obtain ⟨OD,hO⟩:∃ OD,[D.tup [],.tup [.int 0],.non,.lst 0,.tup [.bl false]]=OD:=⟨_,rfl⟩
 obtain ⟨S1,h1⟩:∃ S1,[O.lst [],O.lst OD]=S1:=⟨_,rfl⟩
 have l1:zA4 S1 1=some OD:=by rw [← h1]; rfl
 have l0:zA4 S1 0=some []:=by rw [← h1]; rfl
 have tho:∀ x∈OD,ThO S1 x:=fun x hx=>by
  rw [← hO] at hx
  simp only [qB6,qF4,or_false] at hx
  rcases hx with rfl | rfl | rfl | rfl | rfl
  ·exact zBe (fun y hy=>by cases hy) (by decide)
  ·exact zDF (t:=[0]) (by decide)
  ·exact zCO ⟨_,rfl⟩ rfl
  ·exact zCO (zG6 (by rw [l0]; rfl)) rfl
  ·exact zBe (fun y hy=>by rw [qA8.mp hy]; exact ⟨_,rfl⟩) (by decide)
 obtain ⟨ρ1,S2,e1,v1,rfl,x1⟩:=zB2 (w:=[(1,OD)]) (g:=gN 1) (b:=zD3 (cl (n+10))) (items:=OD)
  (fun j ρ S=>∃ v1,ρ=[some sc,v1,none,none,none,none,none,none,none]∧Ex S1 S) (ρ:=[some sc,none,none,none,none,none,none,none,none]) (S:=S1)
  (fun j ρ S hp=>by obtain ⟨_,_,hx⟩:=hp; exact zD0 (hx.lst l1 fun z=>z)) ⟨none,rfl,Kp.refl _ _⟩
  (fun j d ρ S hd hp=>by
   obtain ⟨v1,rfl,hx⟩:=hp
   have td:=(tho d (qC0 hd)).kd (zHP hx)
   obtain ⟨Ta,ea,xa⟩:=zJ5 H.b H.w H.ri (n+5) (N:=⟨1,2,[]⟩) ⟨by decide,by decide,by decide,by decide,by decide,fun c hc=>by simp at hc⟩ td.k td.l
   have td2:=td.kd (zHP xa)
   obtain ⟨Tb,eb,xb⟩:=zJ5 H.b H.w H.ri (n+5) (N:=⟨1,2,[⟨0,1,0,1⟩]⟩) ⟨by decide,by decide,by decide,by decide,by decide,fun c hc=>by simp at hc; subst hc; unfold Ct.ok; decide⟩ td2.k td2.l
   exact ⟨[some sc,some d,none,none,none,none,none,none,none],S,rfl,_,Tb,.inl (zRr _ ea eb),_,rfl,(hx.trans xa).trans xb⟩)
 obtain ⟨ρ',S3,e3,w1,w2,w3,w4,w5,w6,w7,w8,rfl⟩:=zB2 (w:=[]) (g:=gN 2) (b:=zCs (cl (n+10))) (items:=upD 0 q.toNat)
  (fun j ρ S=>∃ v1 v2 v3 v4 v5 v6 v7 v8,ρ=[some sc,v1,v2,v3,v4,v5,v6,v7,v8]) (ρ:=[some sc,v1,none,none,none,none,none,none,none]) (S:=S2)
  (fun j ρ S hp=>zAf _) ⟨v1,none,none,none,none,none,none,none,rfl⟩
  (fun j d ρ S hd hp=>by
   obtain ⟨v1,v2,v3,v4,v5,v6,v7,v8,rfl⟩:=hp
   rw [zLL] at hd
   obtain ⟨hj,rfl⟩:=hd
   obtain ⟨u3,u4,u5,u6,u7,u8,T,e2⟩:=zW0 H n ns hsc (0+(j:Int)) (by omega) S v1 v3 v4 v5 v6 v7 v8
   exact ⟨_,_,rfl,_,T,.inl e2,_,_,_,_,_,_,_,_,rfl⟩)
 have f2:-4611686018427387904≤q∧q<4611686018427387904:=by omega
 refine ⟨S3,?_⟩
 rw [hsc]
 exact zA9 rfl (zRq _ hsc hO h1 l1 hq f2 (by rw [show (upD 0 q.toNat).length=q.toNat by simp [upD],zAc]; omega) e1 e3)
end My
set_option maxHeartbeats 4000000
namespace My
open PySem L2
noncomputable def tbl:Tbl:=[(("is_whole":Str),(1,1,zDs)),
 (("places_from":Str),(2,5,zBI)),
 (("joins":Str),(1,1,zHa)),
 (("is_choice":Str),(2,2,zAv)),
 (("without":Str),(2,2,zDT)),
 (("join_along":Str),(2,2,zAF)),
 (("join_beside":Str),(2,2,zBb)),
 (("is_way":Str),(2,2,zBJ)),
 (("is_bar":Str),(2,2,zBK)),
 (("_law_cell_at":Str),(2,2,zB9)),
 (("_law_state":Str),(2,3,zBY)),
 (("_law_take":Str),(2,4,zCx)),
 (("_law_ends":Str),(2,5,zCA)),
 (("_law_net":Str),(4,13,zCz)),
 (("_law_marks":Str),(2,8,zCJ)),
 (("_law_joins":Str),(2,2,zC0)),
 (("_law_rest":Str),(2,2,zCy)),
 (("_law_whole":Str),(3,3,zBj)),
 (("_law_some":Str),(2,4,zAI)),
 (("_law_is_way":Str),(2,2,zAp)),
 (("_law_is_bar":Str),(2,2,zAq)),
 (("_law_paths":Str),(1,7,zBZ)),
 (("_law_within":Str),(2,2,zBy)),
 (("_law_shuts":Str),(1,5,zCj)),
 (("_law_odd":Str),(1,2,zBz)),
 (("_law_right":Str),(2,5,zAP)),
 (("_law_bent":Str),(3,6,zBa)),
 (("law":Str),(1,9,zDU))]
noncomputable def top (i:Nat):Stmt:=PySem.Challenge.pw_contactnets_k22_ways_and_bars_looked_at.main.body.getD i (.Pass ⟨0,0,0,0⟩)
theorem hk {f g:Nat→yM→M D} (h:f=g) (n:Nat):f n=g n:=congrFun h n
noncomputable abbrev zCq:Stmt:=top 1
noncomputable abbrev zAY:Stmt:=top 2
noncomputable abbrev zEH:Stmt:=top 3
noncomputable abbrev zBU:Stmt:=top 5
noncomputable abbrev zCU:Stmt:=top 6
noncomputable abbrev zBt:Stmt:=top 7
noncomputable abbrev zB0:Stmt:=top 8
noncomputable abbrev zDG:Stmt:=top 9
noncomputable abbrev zDH:Stmt:=top 10
noncomputable abbrev zAZ:Stmt:=top 12
noncomputable abbrev zBO:Stmt:=top 13
noncomputable abbrev zCl:Stmt:=top 14
noncomputable abbrev zCo:Stmt:=top 15
noncomputable abbrev zCW:Stmt:=top 16
noncomputable abbrev zBS:Stmt:=top 17
noncomputable abbrev zBT:Stmt:=top 18
noncomputable abbrev zCn:Stmt:=top 19
noncomputable abbrev zBN:Stmt:=top 20
noncomputable abbrev zCm:Stmt:=top 21
noncomputable abbrev zBr:Stmt:=top 22
noncomputable abbrev zBs:Stmt:=top 23
noncomputable abbrev zBR:Stmt:=top 24
noncomputable abbrev zBq:Stmt:=top 25
noncomputable abbrev zBP:Stmt:=top 26
noncomputable abbrev zCV:Stmt:=top 27
noncomputable abbrev zBQ:Stmt:=top 28
noncomputable abbrev zCp:Stmt:=top 29
noncomputable abbrev zHz:Stmt:=top 30
abbrev CKp (x:Str) (N:yH) (st:Stmt) (b:CLL→CS):Prop:=(fun cl:CLL=>cSts (arT tbl) cl 60 ⟨N,(zA3 st).names,some x⟩ (zAE st))=fun cl=>some (b cl)
theorem zJB:fnOk ["thing"] ["thing"] (zA3 zCq)=true:=by decide +kernel
theorem zJu:zDE (zAs tbl):=hk (by kernel_rfl)
theorem zJM:CKp "is_whole" ["thing"] zCq zDs:=by kernel_rfl
theorem zFN:fnOk ["start","contacts","found","grown","contact"] ["start","contacts"] (zA3 zAY)=true:=by decide +kernel
theorem zFJ:zAQ (zAs tbl):=hk (by kernel_rfl)
theorem zFQ:CKp "places_from" ["start","contacts","found","grown","contact"] zAY zBI:=by kernel_rfl
theorem zPb:fnOk ["contacts"] ["contacts"] (zA3 zEH)=true:=by decide +kernel
theorem zP6:zHd (zAs tbl):=hk (by kernel_rfl)
theorem zPl:CKp "joins" ["contacts"] zEH zHa:=by kernel_rfl
theorem zIa:fnOk ["net","thing"] ["net","thing"] (zA3 zBU)=true:=by decide +kernel
theorem zI2:zEq (zAs tbl):=hk (by kernel_rfl)
theorem zIs:CKp "is_choice" ["net","thing"] zBU zAv:=by kernel_rfl
theorem zLd:fnOk ["some","number"] ["some","number"] (zA3 zCU)=true:=by decide +kernel
theorem zL8:zEh (zAs tbl):=hk (by kernel_rfl)
theorem zLo:CKp "without" ["some","number"] zCU zDT:=by kernel_rfl
theorem zGO:fnOk ["net","some"] ["net","some"] (zA3 zBt)=true:=by decide +kernel
theorem zGJ:zDY (zAs tbl):=hk (by kernel_rfl)
theorem zGX:CKp "join_along" ["net","some"] zBt zAF:=by kernel_rfl
theorem zFP:fnOk ["net","some"] ["net","some"] (zA3 zB0)=true:=by decide +kernel
theorem zFL:zDv (zAs tbl):=hk (by kernel_rfl)
theorem zFS:CKp "join_beside" ["net","some"] zB0 zBb:=by kernel_rfl
theorem zN5:fnOk ["net","thing"] ["net","thing"] (zA3 zDG)=true:=by decide +kernel
theorem zMX:zIU (zAs tbl):=hk (by kernel_rfl)
theorem zNq:CKp "is_way" ["net","thing"] zDG zBJ:=by kernel_rfl
theorem zN6:fnOk ["net","thing"] ["net","thing"] (zA3 zDH)=true:=by decide +kernel
theorem zMY:zIV (zAs tbl):=hk (by kernel_rfl)
theorem zNr:CKp "is_bar" ["net","thing"] zDH zBK:=by kernel_rfl
theorem zFO:fnOk ["_law_script","_law_k"] ["_law_script","_law_k"] (zA3 zAZ)=true:=by decide +kernel
theorem zFK:zBp (zAs tbl):=hk (by kernel_rfl)
theorem zFR:CKp "_law_cell_at" ["_law_script","_law_k"] zAZ zB9:=by kernel_rfl
theorem zI4:fnOk ["_law_script","_law_k","_law_cell"] ["_law_script","_law_k"] (zA3 zBO)=true:=by decide +kernel
theorem zHW:zDg (zAs tbl):=hk (by kernel_rfl)
theorem zIm:CKp "_law_state" ["_law_script","_law_k","_law_cell"] zBO zBY:=by kernel_rfl
theorem zJw:fnOk ["_law_state_here","_law_many","_law_found","_law_mixed"] ["_law_state_here","_law_many"] (zA3 zCl)=true:=by decide +kernel
theorem zJp:zAS (zAs tbl):=hk (by kernel_rfl)
theorem zJH:CKp "_law_take" ["_law_state_here","_law_many","_law_found","_law_mixed"] zCl zCx:=by kernel_rfl
theorem zJz:fnOk ["_law_state_here","_law_places","_law_row","_law_one","_law_other"] ["_law_state_here","_law_places"] (zA3 zCo)=true:=by decide +kernel
theorem zJs:zCM (zAs tbl):=hk (by kernel_rfl)
theorem zJK:CKp "_law_ends" ["_law_state_here","_law_places","_law_row","_law_one","_law_other"] zCo zCA:=by kernel_rfl
theorem zLf:fnOk ["_law_state_here","_law_most_switches","_law_most_places","_law_most_contacts","_law_switches","_law_places","_law_rows","_law_row","_law_one","_law_other","_law_turn","_law_mixed","_law_contact"] ["_law_state_here","_law_most_switches","_law_most_places","_law_most_contacts"] (zA3 zCW)=true:=by decide +kernel
theorem zLa:zEi (zAs tbl):=hk (by kernel_rfl)
theorem zLq:CKp "_law_net" ["_law_state_here","_law_most_switches","_law_most_places","_law_most_contacts","_law_switches","_law_places","_law_rows","_law_row","_law_one","_law_other","_law_turn","_law_mixed","_law_contact"] zCW zCz:=by kernel_rfl
theorem zI8:fnOk ["_law_net_here","_law_numbers","_law_marks_here","_law_turn","_law_number","_law_a","_law_b","_law_least"] ["_law_net_here","_law_numbers"] (zA3 zBS)=true:=by decide +kernel
theorem zI0:zDi (zAs tbl):=hk (by kernel_rfl)
theorem zIq:CKp "_law_marks" ["_law_net_here","_law_numbers","_law_marks_here","_law_turn","_law_number","_law_a","_law_b","_law_least"] zBS zCJ:=by kernel_rfl
theorem zI9:fnOk ["_law_net_here","_law_numbers"] ["_law_net_here","_law_numbers"] (zA3 zBT)=true:=by decide +kernel
theorem zI1:zEp (zAs tbl):=hk (by kernel_rfl)
theorem zIr:CKp "_law_joins" ["_law_net_here","_law_numbers"] zBT zC0:=by kernel_rfl
theorem zJy:fnOk ["_law_net_here","_law_some_here"] ["_law_net_here","_law_some_here"] (zA3 zCn)=true:=by decide +kernel
theorem zJr:zFB (zAs tbl):=hk (by kernel_rfl)
theorem zJJ:CKp "_law_rest" ["_law_net_here","_law_some_here"] zCn zCy:=by kernel_rfl
theorem zI3:fnOk ["_law_thing","_law_least","_law_below"] ["_law_thing","_law_least","_law_below"] (zA3 zBN)=true:=by decide +kernel
theorem zHV:zCh (zAs tbl):=hk (by kernel_rfl)
theorem zIl:CKp "_law_whole" ["_law_thing","_law_least","_law_below"] zBN zBj:=by kernel_rfl
theorem zJx:fnOk ["_law_net_here","_law_thing","_law_k","_law_one"] ["_law_net_here","_law_thing"] (zA3 zCm)=true:=by decide +kernel
theorem zJq:zFz (zAs tbl):=hk (by kernel_rfl)
theorem zJI:CKp "_law_some" ["_law_net_here","_law_thing","_law_k","_law_one"] zCm zAI:=by kernel_rfl
theorem zGM:fnOk ["_law_net_here","_law_thing"] ["_law_net_here","_law_thing"] (zA3 zBr)=true:=by decide +kernel
theorem zGH:zDW (zAs tbl):=hk (by kernel_rfl)
theorem zGV:CKp "_law_is_way" ["_law_net_here","_law_thing"] zBr zAp:=by kernel_rfl
theorem zGN:fnOk ["_law_net_here","_law_thing"] ["_law_net_here","_law_thing"] (zA3 zBs)=true:=by decide +kernel
theorem zGI:zDX (zAs tbl):=hk (by kernel_rfl)
theorem zGW:CKp "_law_is_bar" ["_law_net_here","_law_thing"] zBs zAq:=by kernel_rfl
theorem zI7:fnOk ["_law_net_here","_law_found","_law_fresh","_law_gone","_law_numbers","_law_k","_law_row"] ["_law_net_here"] (zA3 zBR)=true:=by decide +kernel
theorem zHZ:zDh (zAs tbl):=hk (by kernel_rfl)
theorem zIp:CKp "_law_paths" ["_law_net_here","_law_found","_law_fresh","_law_gone","_law_numbers","_law_k","_law_row"] zBR zBZ:=by kernel_rfl
theorem zGL:fnOk ["_law_one","_law_other"] ["_law_one","_law_other"] (zA3 zBq)=true:=by decide +kernel
theorem zGG:zCK (zAs tbl):=hk (by kernel_rfl)
theorem zGU:CKp "_law_within" ["_law_one","_law_other"] zBq zBy:=by kernel_rfl
theorem zI5:fnOk ["_law_net_here","_law_found","_law_lot","_law_side","_law_some_here"] ["_law_net_here"] (zA3 zBP)=true:=by decide +kernel
theorem zHX:zFA (zAs tbl):=hk (by kernel_rfl)
theorem zIn:CKp "_law_shuts" ["_law_net_here","_law_found","_law_lot","_law_side","_law_some_here"] zBP zCj:=by kernel_rfl
theorem zLe:fnOk ["_law_state_here","_law_some_here"] ["_law_state_here"] (zA3 zCV)=true:=by decide +kernel
theorem zL9:zCL (zAs tbl):=hk (by kernel_rfl)
theorem zLp:CKp "_law_odd" ["_law_state_here","_law_some_here"] zCV zBz:=by kernel_rfl
theorem zI6:fnOk ["_law_net_here","_law_thing","_law_turn","_law_found","_law_other"] ["_law_net_here","_law_thing"] (zA3 zBQ)=true:=by decide +kernel
theorem zHY:zC3 (zAs tbl):=hk (by kernel_rfl)
theorem zIo:CKp "_law_right" ["_law_net_here","_law_thing","_law_turn","_law_found","_law_other"] zBQ zAP:=by kernel_rfl
theorem zJA:fnOk ["_law_state_here","_law_net_here","_law_some_here","_law_at","_law_odd_here","_law_rows"] ["_law_state_here","_law_net_here","_law_some_here"] (zA3 zCp)=true:=by decide +kernel
theorem zJt:zCk (zAs tbl):=hk (by kernel_rfl)
theorem zJL:CKp "_law_bent" ["_law_state_here","_law_net_here","_law_some_here","_law_at","_law_odd_here","_law_rows"] zCp zBa:=by kernel_rfl
theorem zPV:fnOk ["_law_script","_law_thing","_law_k","_law_state_here","_law_net_here","_law_some_here","_law_one","_law_drawn","_law_things"] ["_law_script"] (zA3 zHz)=true:=by decide +kernel
theorem zUn:zIS (zAs tbl):=hk (by kernel_rfl)
theorem zQ1:CKp "law" ["_law_script","_law_thing","_law_k","_law_state_here","_law_net_here","_law_some_here","_law_one","_law_drawn","_law_things"] zHz zDU:=by kernel_rfl
theorem zOP (ns:yA) (h:ns.length≤63):∃ S',zAs tbl 100 "law" [.rol (ns.map D.int)] []=.ok (.bl true) S':=zWJ zUn ⟨⟨zHW,zFK,zJp,zJs,zLa⟩,⟨⟨zI2,zL8,zFL,zMY,zP6,zFJ,zJu⟩,zGJ,zMX⟩,⟨zI0,zI1,zJr,zHV,zJq,zGH,zGI⟩,⟨zHX,zGG⟩,zHZ,zHY,zL9,zJt⟩ 89 ns
def DF (K:W.Frag) (n:Str) (st:Stmt):Prop:=∃ (f:Addr) (od an:Option Addr) (sl:Array (yF)) (oc kV dc pm cd ct:Value),W.nsIn K mainGlobals n=some (some (.ref f))∧K.lookup f=some ⟨oc,od,.func (W.fnOf n n (zCH st) (zAE st) (zA3 st) .none kV dc pm an cd ct),sl⟩∧W.codeIn K cd n=true∧W.keepIn K (.ref f)=true
theorem mkDF {K:W.Frag}{n:Str}{st:Stmt}{f:Addr}{od an:Option Addr}{sl:Array (yF)}{oc kV dc pm cd ct:Value} (a:W.nsIn K mainGlobals n=some (some (.ref f))) (l:K.lookup f=some ⟨oc,od,.func (W.fnOf n n (zCH st) (zAE st) (zA3 st) .none kV dc pm an cd ct),sl⟩) (c:W.codeIn K cd n=true) (k:W.keepIn K (.ref f)=true):DF K n st:=⟨f,od,an,sl,oc,kV,dc,pm,cd,ct,a,l,c,k⟩
theorem DF.in {K:W.Frag}{h:Heap}{mg:Str→yF}{n:Str}{st:Stmt} (d:DF K n st) (X:K.In h) (G:h.Ns mainGlobals mg):∃ (f:Addr) (kV dc pm:Value) (an:Option Addr) (cd ct:Value),mg n=some (.ref f)∧Fun K n n st f (W.fnOf n n (zCH st) (zAE st) (zA3 st) .none kV dc pm an cd ct):=by
 obtain ⟨f,od,an,sl,oc,kV,dc,pm,cd,ct,a,l,c,k⟩:=d
 exact ⟨f,kV,dc,pm,an,cd,ct,W.mg_of X G a,zUr l c k⟩
def ZN (K:W.Frag):yH→Prop
 | []=>True
 | x::r=>W.nsIn K mainGlobals x=some none∧ZN K r
theorem ZN.none {K:W.Frag}{h:Heap}{mg:Str→yF} (X:K.In h) (G:h.Ns mainGlobals mg):∀ {l:yH},ZN K l→zHg mg l
 | [],_=>True.intro
 | _::_,z=>⟨W.mg_none_of X G z.1,z.2.none X G⟩
def BP (st:Stmt) (n:Str) (ps:yH) (kV doc pm:Value) (an:Option Addr) (cdv ct:Value) (us:yB):Prop:=bindArgs (W.fnOf n n (zCH st) (zAE st) (zA3 st) .none kV doc pm an cdv ct) ⟨us,[]⟩=pure (ps.zip us)
def BF (st:Stmt) (n:Str) (ps:yH):Prop:=∀ (kV doc pm:Value) (an:Option Addr) (cdv ct:Value) (us:yB),us.length=ps.length→BP st n ps kV doc pm an cdv ct us
theorem dIn {K:W.Frag}{h:Heap}{mg:Str→yF}{ar:Str→yK}{x:Str}{st:Stmt}{N ps:yH}{fuel np nN:Nat}{b:CLL→CS} (d:DF K x st) (X:K.In h) (G:h.Ns mainGlobals mg) (hb:BF st x ps) (hs:fnOk N ps (zA3 st)=true)
  (hc:(fun cl:CLL=>cSts ar cl fuel ⟨N,(zA3 st).names,some x⟩ (zAE st))=fun cl=>some (b cl)) (h1:ps.length=np:=by rfl) (h2:N.length=nN:=by rfl):zJX K mg ar x (np,nN,b):=by
 obtain ⟨_,_,_,_,_,_,_,m,F⟩:=d.in X G
 exact zUz F m (F.binds (ps:=ps) hb) hs hc h1 h2
theorem usC {n:Nat}:∀ us:yB,us.length=n+1→∃ a r,us=a::r∧r.length=n
 | a::r,h=>⟨a,r,rfl,Nat.succ.inj h⟩
theorem us0 {P:yB→Prop} (h:P []) (us:yB) (hl:us.length=0):P us:=by
 rw [List.eq_nil_of_length_eq_zero hl]; exact h
theorem us1 {P:yB→Prop} (h:∀ a0:Value,P [a0]) (us:yB) (hl:us.length=1):P us:=by
 obtain ⟨a,r,rfl,hq⟩:=usC us hl
 exact us0 (P:=fun r=>P (a::r)) (h a) r hq
theorem us2 {P:yB→Prop} (h:∀ a0 a1:Value,P [a0,a1]) (us:yB) (hl:us.length=2):P us:=by
 obtain ⟨a,r,rfl,hq⟩:=usC us hl
 exact us1 (P:=fun r=>P (a::r)) (h a) r hq
theorem us3 {P:yB→Prop} (h:∀ a0 a1 a2:Value,P [a0,a1,a2]) (us:yB) (hl:us.length=3):P us:=by
 obtain ⟨a,r,rfl,hq⟩:=usC us hl
 exact us2 (P:=fun r=>P (a::r)) (h a) r hq
theorem us4 {P:yB→Prop} (h:∀ a0 a1 a2 a3:Value,P [a0,a1,a2,a3]) (us:yB) (hl:us.length=4):P us:=by
 obtain ⟨a,r,rfl,hq⟩:=usC us hl
 exact us3 (P:=fun r=>P (a::r)) (h a) r hq
theorem zJV:BF zCq "is_whole" ["thing"]:=fun kV doc pm an cdv ct=>us1 (P:=BP zCq "is_whole" ["thing"] kV doc pm an cdv ct) (fun _=>rfl)
theorem zFU:BF zAY "places_from" ["start","contacts"]:=fun kV doc pm an cdv ct=>us2 (P:=BP zAY "places_from" ["start","contacts"] kV doc pm an cdv ct) (fun _ _=>rfl)
theorem zPq:BF zEH "joins" ["contacts"]:=fun kV doc pm an cdv ct=>us1 (P:=BP zEH "joins" ["contacts"] kV doc pm an cdv ct) (fun _=>rfl)
theorem zIO:BF zBU "is_choice" ["net","thing"]:=fun kV doc pm an cdv ct=>us2 (P:=BP zBU "is_choice" ["net","thing"] kV doc pm an cdv ct) (fun _ _=>rfl)
theorem zLw:BF zCU "without" ["some","number"]:=fun kV doc pm an cdv ct=>us2 (P:=BP zCU "without" ["some","number"] kV doc pm an cdv ct) (fun _ _=>rfl)
theorem zH8:BF zBt "join_along" ["net","some"]:=fun kV doc pm an cdv ct=>us2 (P:=BP zBt "join_along" ["net","some"] kV doc pm an cdv ct) (fun _ _=>rfl)
theorem zFW:BF zB0 "join_beside" ["net","some"]:=fun kV doc pm an cdv ct=>us2 (P:=BP zB0 "join_beside" ["net","some"] kV doc pm an cdv ct) (fun _ _=>rfl)
theorem zNG:BF zDG "is_way" ["net","thing"]:=fun kV doc pm an cdv ct=>us2 (P:=BP zDG "is_way" ["net","thing"] kV doc pm an cdv ct) (fun _ _=>rfl)
theorem zNH:BF zDH "is_bar" ["net","thing"]:=fun kV doc pm an cdv ct=>us2 (P:=BP zDH "is_bar" ["net","thing"] kV doc pm an cdv ct) (fun _ _=>rfl)
theorem zFV:BF zAZ "_law_cell_at" ["_law_script","_law_k"]:=fun kV doc pm an cdv ct=>us2 (P:=BP zAZ "_law_cell_at" ["_law_script","_law_k"] kV doc pm an cdv ct) (fun _ _=>rfl)
theorem zII:BF zBO "_law_state" ["_law_script","_law_k"]:=fun kV doc pm an cdv ct=>us2 (P:=BP zBO "_law_state" ["_law_script","_law_k"] kV doc pm an cdv ct) (fun _ _=>rfl)
theorem zJQ:BF zCl "_law_take" ["_law_state_here","_law_many"]:=fun kV doc pm an cdv ct=>us2 (P:=BP zCl "_law_take" ["_law_state_here","_law_many"] kV doc pm an cdv ct) (fun _ _=>rfl)
theorem zJT:BF zCo "_law_ends" ["_law_state_here","_law_places"]:=fun kV doc pm an cdv ct=>us2 (P:=BP zCo "_law_ends" ["_law_state_here","_law_places"] kV doc pm an cdv ct) (fun _ _=>rfl)
theorem zLy:BF zCW "_law_net" ["_law_state_here","_law_most_switches","_law_most_places","_law_most_contacts"]:=fun kV doc pm an cdv ct=>us4 (P:=BP zCW "_law_net" ["_law_state_here","_law_most_switches","_law_most_places","_law_most_contacts"] kV doc pm an cdv ct) (fun _ _ _ _=>rfl)
theorem zIM:BF zBS "_law_marks" ["_law_net_here","_law_numbers"]:=fun kV doc pm an cdv ct=>us2 (P:=BP zBS "_law_marks" ["_law_net_here","_law_numbers"] kV doc pm an cdv ct) (fun _ _=>rfl)
theorem zIN:BF zBT "_law_joins" ["_law_net_here","_law_numbers"]:=fun kV doc pm an cdv ct=>us2 (P:=BP zBT "_law_joins" ["_law_net_here","_law_numbers"] kV doc pm an cdv ct) (fun _ _=>rfl)
theorem zJS:BF zCn "_law_rest" ["_law_net_here","_law_some_here"]:=fun kV doc pm an cdv ct=>us2 (P:=BP zCn "_law_rest" ["_law_net_here","_law_some_here"] kV doc pm an cdv ct) (fun _ _=>rfl)
theorem zIH:BF zBN "_law_whole" ["_law_thing","_law_least","_law_below"]:=fun kV doc pm an cdv ct=>us3 (P:=BP zBN "_law_whole" ["_law_thing","_law_least","_law_below"] kV doc pm an cdv ct) (fun _ _ _=>rfl)
theorem zJR:BF zCm "_law_some" ["_law_net_here","_law_thing"]:=fun kV doc pm an cdv ct=>us2 (P:=BP zCm "_law_some" ["_law_net_here","_law_thing"] kV doc pm an cdv ct) (fun _ _=>rfl)
theorem zH6:BF zBr "_law_is_way" ["_law_net_here","_law_thing"]:=fun kV doc pm an cdv ct=>us2 (P:=BP zBr "_law_is_way" ["_law_net_here","_law_thing"] kV doc pm an cdv ct) (fun _ _=>rfl)
theorem zH7:BF zBs "_law_is_bar" ["_law_net_here","_law_thing"]:=fun kV doc pm an cdv ct=>us2 (P:=BP zBs "_law_is_bar" ["_law_net_here","_law_thing"] kV doc pm an cdv ct) (fun _ _=>rfl)
theorem zIL:BF zBR "_law_paths" ["_law_net_here"]:=fun kV doc pm an cdv ct=>us1 (P:=BP zBR "_law_paths" ["_law_net_here"] kV doc pm an cdv ct) (fun _=>rfl)
theorem zH5:BF zBq "_law_within" ["_law_one","_law_other"]:=fun kV doc pm an cdv ct=>us2 (P:=BP zBq "_law_within" ["_law_one","_law_other"] kV doc pm an cdv ct) (fun _ _=>rfl)
theorem zIJ:BF zBP "_law_shuts" ["_law_net_here"]:=fun kV doc pm an cdv ct=>us1 (P:=BP zBP "_law_shuts" ["_law_net_here"] kV doc pm an cdv ct) (fun _=>rfl)
theorem zLx:BF zCV "_law_odd" ["_law_state_here"]:=fun kV doc pm an cdv ct=>us1 (P:=BP zCV "_law_odd" ["_law_state_here"] kV doc pm an cdv ct) (fun _=>rfl)
theorem zIK:BF zBQ "_law_right" ["_law_net_here","_law_thing"]:=fun kV doc pm an cdv ct=>us2 (P:=BP zBQ "_law_right" ["_law_net_here","_law_thing"] kV doc pm an cdv ct) (fun _ _=>rfl)
theorem zJU:BF zCp "_law_bent" ["_law_state_here","_law_net_here","_law_some_here"]:=fun kV doc pm an cdv ct=>us3 (P:=BP zCp "_law_bent" ["_law_state_here","_law_net_here","_law_some_here"] kV doc pm an cdv ct) (fun _ _ _=>rfl)
theorem zUR:BF zHz "law" ["_law_script"]:=fun kV doc pm an cdv ct=>us1 (P:=BP zHz "law" ["_law_script"] kV doc pm an cdv ct) (fun _=>rfl)
theorem all_mk {l:W.OpenLaw}{w:World}{K:W.Frag}{h:Heap}{mg:Str→yF}{fa:Addr} (X:K.In h) (G:h.Ns mainGlobals mg) (hfa:mg "law"=some (.ref fa))
  (d1:DF K "is_whole" zCq) (d2:DF K "places_from" zAY) (d3:DF K "joins" zEH) (d4:DF K "is_choice" zBU) (d5:DF K "without" zCU) (d6:DF K "join_along" zBt) (d7:DF K "join_beside" zB0) (d8:DF K "is_way" zDG) (d9:DF K "is_bar" zDH) (d10:DF K "_law_cell_at" zAZ) (d11:DF K "_law_state" zBO) (d12:DF K "_law_take" zCl) (d13:DF K "_law_ends" zCo) (d14:DF K "_law_net" zCW) (d15:DF K "_law_marks" zBS) (d16:DF K "_law_joins" zBT) (d17:DF K "_law_rest" zCn) (d18:DF K "_law_whole" zBN) (d19:DF K "_law_some" zCm) (d20:DF K "_law_is_way" zBr) (d21:DF K "_law_is_bar" zBs) (d22:DF K "_law_paths" zBR) (d23:DF K "_law_within" zBq) (d24:DF K "_law_shuts" zBP) (d25:DF K "_law_odd" zCV) (d26:DF K "_law_right" zBQ) (d27:DF K "_law_bent" zCp) (d28:DF K "law" zHz) (z:ZN K bltL) :
  ∃ fd:FuncData,(∀ (s:Shared) (v:Value),BindsTo s fd ⟨[v],[]⟩ [("_law_script",v)])∧∀ base:Heap,K.In base→base.Ns mainGlobals mg→FnOk l.prog w K mg base CX0 100 fa fd ["_law_script"] (spL K):=by
 obtain ⟨_,kV,dc,pm,an,cd,ct,m,F⟩:=d28.in X G
 have e:=hfa.symm.trans m
 cases e
 have A:zLC K mg (arT tbl) tbl:=And.intro (dIn d1 X G zJV zJB zJM) (And.intro (dIn d2 X G zFU zFN zFQ) (And.intro (dIn d3 X G zPq zPb zPl) (And.intro (dIn d4 X G zIO zIa zIs) (And.intro (dIn d5 X G zLw zLd zLo) (And.intro (dIn d6 X G zH8 zGO zGX) (And.intro (dIn d7 X G zFW zFP zFS) (And.intro (dIn d8 X G zNG zN5 zNq) (And.intro (dIn d9 X G zNH zN6 zNr) (And.intro (dIn d10 X G zFV zFO zFR) (And.intro (dIn d11 X G zII zI4 zIm) (And.intro (dIn d12 X G zJQ zJw zJH) (And.intro (dIn d13 X G zJT zJz zJK) (And.intro (dIn d14 X G zLy zLf zLq) (And.intro (dIn d15 X G zIM zI8 zIq) (And.intro (dIn d16 X G zIN zI9 zIr) (And.intro (dIn d17 X G zJS zJy zJJ) (And.intro (dIn d18 X G zIH zI3 zIl) (And.intro (dIn d19 X G zJR zJx zJI) (And.intro (dIn d20 X G zH6 zGM zGV) (And.intro (dIn d21 X G zH7 zGN zGW) (And.intro (dIn d22 X G zIL zI7 zIp) (And.intro (dIn d23 X G zH5 zGL zGU) (And.intro (dIn d24 X G zIJ zI5 zIn) (And.intro (dIn d25 X G zLx zLe zLp) (And.intro (dIn d26 X G zIK zI6 zIo) (And.intro (dIn d27 X G zJU zJA zJL) (And.intro (dIn d28 X G zUR zPV zQ1) (True.intro))))))))))))))))))))))))))))
 refine ⟨W.fnOf "law" "law" (zCH zHz) (zAE zHz) (zA3 zHz) .none kV dc pm an cd ct,fun s v=>.of_eq rfl,fun base _ _=>?_⟩
 exact zU1 (L:=99) (fun x p e=>A.look x p e) ⟨fun y hy _=>(z.none X G).mem y hy⟩ (by kernel_rfl) F zPV rfl (fun cl=>congrFun zQ1 cl) (fun ns h=>zOP ns h)
end My
open PySem PySem.W PyProof.Rows
theorem PySem.W.Fast.te10731726745392005557:True:=trivial
set_option maxRecDepth 100000 in
set_option maxHeartbeats 0 in
theorem PySem.Challenge.cw_contactnets_k22_ways_and_bars_looked_at_holds : PySem.Challenge.rw_contactnets_k22_ways_and_bars_looked_at.Holds := by
 w_on; o_law; k_head; (case hw=>w_witness2)
 k_fill
 refine L2.walk_ev (L:=100) (l:=PySem.Challenge.rw_contactnets_k22_ways_and_bars_looked_at) rfl rfl ⟨rfl,by decide,by decide,rfl⟩ (fun w h Y=>PySem.W.kIn_of Y) ?F
 case F =>
  intro w mg fa h KX G hmg
  refine' My.all_mk KX G hmg (My.mkDF ?a1 ?l1 ?c1 ?k1) (My.mkDF ?a2 ?l2 ?c2 ?k2) (My.mkDF ?a3 ?l3 ?c3 ?k3) (My.mkDF ?a4 ?l4 ?c4 ?k4) (My.mkDF ?a5 ?l5 ?c5 ?k5) (My.mkDF ?a6 ?l6 ?c6 ?k6) (My.mkDF ?a7 ?l7 ?c7 ?k7) (My.mkDF ?a8 ?l8 ?c8 ?k8) (My.mkDF ?a9 ?l9 ?c9 ?k9) (My.mkDF ?a10 ?l10 ?c10 ?k10) (My.mkDF ?a11 ?l11 ?c11 ?k11) (My.mkDF ?a12 ?l12 ?c12 ?k12) (My.mkDF ?a13 ?l13 ?c13 ?k13) (My.mkDF ?a14 ?l14 ?c14 ?k14) (My.mkDF ?a15 ?l15 ?c15 ?k15) (My.mkDF ?a16 ?l16 ?c16 ?k16) (My.mkDF ?a17 ?l17 ?c17 ?k17) (My.mkDF ?a18 ?l18 ?c18 ?k18) (My.mkDF ?a19 ?l19 ?c19 ?k19) (My.mkDF ?a20 ?l20 ?c20 ?k20) (My.mkDF ?a21 ?l21 ?c21 ?k21) (My.mkDF ?a22 ?l22 ?c22 ?k22) (My.mkDF ?a23 ?l23 ?c23 ?k23) (My.mkDF ?a24 ?l24 ?c24 ?k24) (My.mkDF ?a25 ?l25 ?c25 ?k25) (My.mkDF ?a26 ?l26 ?c26 ?k26) (My.mkDF ?a27 ?l27 ?c27 ?k27) (My.mkDF ?a28 ?l28 ?c28 ?k28) ⟨?z1,?z2,?z3,?z4,?z5,?z6,?z7,?z8,?z9,?z10,?z11,?z12,?z13,?z14,?z15,?z16,?z17,?z18,?z19,?z20,True.intro⟩
  case a1=>k_is
  case l1=>k_is
  case c1=>k_is
  case k1=>k_is
  case a2=>k_is
  case l2=>k_is
  case c2=>k_is
  case k2=>k_is
  case a3=>k_is
  case l3=>k_is
  case c3=>k_is
  case k3=>k_is
  case a4=>k_is
  case l4=>k_is
  case c4=>k_is
  case k4=>k_is
  case a5=>k_is
  case l5=>k_is
  case c5=>k_is
  case k5=>k_is
  case a6=>k_is
  case l6=>k_is
  case c6=>k_is
  case k6=>k_is
  case a7=>k_is
  case l7=>k_is
  case c7=>k_is
  case k7=>k_is
  case a8=>k_is
  case l8=>k_is
  case c8=>k_is
  case k8=>k_is
  case a9=>k_is
  case l9=>k_is
  case c9=>k_is
  case k9=>k_is
  case a10=>k_is
  case l10=>k_is
  case c10=>k_is
  case k10=>k_is
  case a11=>k_is
  case l11=>k_is
  case c11=>k_is
  case k11=>k_is
  case a12=>k_is
  case l12=>k_is
  case c12=>k_is
  case k12=>k_is
  case a13=>k_is
  case l13=>k_is
  case c13=>k_is
  case k13=>k_is
  case a14=>k_is
  case l14=>k_is
  case c14=>k_is
  case k14=>k_is
  case a15=>k_is
  case l15=>k_is
  case c15=>k_is
  case k15=>k_is
  case a16=>k_is
  case l16=>k_is
  case c16=>k_is
  case k16=>k_is
  case a17=>k_is
  case l17=>k_is
  case c17=>k_is
  case k17=>k_is
  case a18=>k_is
  case l18=>k_is
  case c18=>k_is
  case k18=>k_is
  case a19=>k_is
  case l19=>k_is
  case c19=>k_is
  case k19=>k_is
  case a20=>k_is
  case l20=>k_is
  case c20=>k_is
  case k20=>k_is
  case a21=>k_is
  case l21=>k_is
  case c21=>k_is
  case k21=>k_is
  case a22=>k_is
  case l22=>k_is
  case c22=>k_is
  case k22=>k_is
  case a23=>k_is
  case l23=>k_is
  case c23=>k_is
  case k23=>k_is
  case a24=>k_is
  case l24=>k_is
  case c24=>k_is
  case k24=>k_is
  case a25=>k_is
  case l25=>k_is
  case c25=>k_is
  case k25=>k_is
  case a26=>k_is
  case l26=>k_is
  case c26=>k_is
  case k26=>k_is
  case a27=>k_is
  case l27=>k_is
  case c27=>k_is
  case k27=>k_is
  case a28=>k_is
  case l28=>k_is
  case c28=>k_is
  case k28=>k_is
  case z1=>k_is
  case z2=>k_is
  case z3=>k_is
  case z4=>k_is
  case z5=>k_is
  case z6=>k_is
  case z7=>k_is
  case z8=>k_is
  case z9=>k_is
  case z10=>k_is
  case z11=>k_is
  case z12=>k_is
  case z13=>k_is
  case z14=>k_is
  case z15=>k_is
  case z16=>k_is
  case z17=>k_is
  case z18=>k_is
  case z19=>k_is
  case z20=>k_is
