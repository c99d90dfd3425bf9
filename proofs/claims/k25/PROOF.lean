import PyProof.Rows.All
import Wide.All
import OpenK.AllK
import Wide.FinOn
import Lean
import PyProof.EqAt
import PyProof.EqKinds
import PyProof.TupleCall
import PyProof.NeKinds
import PyProof.EnumMake
import PyProof.Draws
import PyProof.P3Eq
import PyProof.NeData
import PyProof.ReprRoads
import PyProof.CallFns
import PyProof.SliceSyntax
import PyProof.AutoIntG2
import PyProof.SumWalk
import PyProof.ConsumeWalk
import PyProof.Rows.TupIter
import PyProof.DictRoadsH
import PyProof.DictWalks
import KE.KDictList
import KE.KSortTup
import KE.KDictLaws
import PyProof.TupleOfSeq
import PyProof.ListRange
import KE.KNest
import PySem.Challenge.RW_contactnets_k25_whole_ways_and_bars
set_option Elab.async false
set_option linter.all false
set_option genSizeOf false
set_option maxRecDepth 100000
set_option maxHeartbeats 1000000
open List renaming length_map→qA0,getElem?_append_right→qA1,getElem?_eq_some_iff→qA2,getElem?_eq_getElem→qA5,mem_singleton→qA7,getElem?_append_left→qA8,size_toArray→qA9,mem_append→qB2,length_append→qB3,mem_of_getElem?→qB4,map_cons→qB5,mem_map→qB6,mem_cons_of_mem→qB9,mem_cons→qC0,getElem?_map→qC1,append_assoc→qC2,mem_append_right→qC3,pairwise_append→qC5,mem_filter→qC6,mem_append_left→qC7,mem_cons_self→qD0,length_cons→qD1,lookup_cons→qD2,take_append_drop→qD4,getElem?_toArray→qD5,getElem?_cons_succ→qD6,mem_singleton_self→qD7,all_eq_true→qD8,map_map→qD9,length_filter_le→qE0,getElem?_set_self→qE2,getElem_mem→qE3,map_append→qE4,mem_filterMap→qE5,getElem?_zip_eq_some→qE7,nodup_append→qE8,find?_cons→qE9,pairwise_singleton→qF0,getElem?_set_ne→qF1,pairwise_cons→qF2,length_eq_zero_iff→qF3,mapM_cons→qF4,getD_eq_getElem?_getD→qF6,take_of_length_le→qF7,filter_cons→qF8,drop_eq_getElem_cons→qF9,map_congr_left→qG0,pairwise_map→qG1,any_cons→qG2,mem_of_mem_take→qG4,take_sublist→qG5,perm_ext_iff_of_nodup→qG8,getElem?_range→qG9,cons_append→qH0,map_nil→qH2,mem_of_mem_drop→qH3,mem_iff_getElem→qH4,drop_sublist→qH5,append_nil→qH6,length_nil→qH7,filterMap_cons→qH8,length_replicate→qI0,perm_append_comm→qI2,getElem?_of_mem→qI5,filter_congr→qI6,replicate→qI8,length_take→qI9,getElem?_replicate→qJ0,length_drop→qJ1,mem_reverse→qJ2,all_map→qJ4,pairwise_lt_range→qJ5,all_cons→qJ7,pairwise_reverse→qJ8,mem_range→qJ9,take_length→qK0,not_mem_nil→qK1,pairwise_iff_getElem→qK4,filter_sublist→qK5,zip_cons_cons→qK7,map_inj_right→qK9,range_succ_eq_map→qL2,any_map→qL3,drop_zero→qL4,reverse_cons→qL5,getElem_drop→qL6,pairwise_of_forall_mem_list→qL7,flatMap_cons→qL8,getElem?_eq_none→qL9,mem_iff_getElem?→qM0,drop_length→qM3,length→qM4,take_append_of_le_length→qM6,nodup_cons→qM8,dropLast_concat_getLast→qM9,getElem_of_mem→qN0,exists_mem_of_ne_nil→qN6,mapM_toArray→qN9,map_snd_zip→qO2,mem_flatMap→qO3,of_mem_zip→qO5,length_set→qO6,length_zip→qO9,length_singleton→qP0,dropLast_eq_take→qP1,filterMap_append→qP2,nodup_nil→qP4,drop_drop→qP5,dropLast_subset→qP6,range'→qP7,reverse_append→qP8,filter_eq_self→qP9,flatMap_append→qQ0,zip_nil_right→qQ1,findIdx?_cons→qQ4,filterMap_nil→qQ5,zip_nil_left→qQ6,map→qQ8,take_add_one→qR1,getD→qR3,zipIdx_cons→qR5,all_toArray→qR6,isEmpty_map→qR8,any_eq_true→qS1,forIn_cons→qS5,drop_left'→qS8,filter_map→qS9,forIn_nil→qT1,sum_cons→qT2,cons→qT3
open Option renaming bind_eq_some_iff→qA3,map_eq_some_iff→qA4,isSome_iff_exists→qI7,isSome_some→qN4,isSome_map→qN7,map_some→qO7,getD_none→qR2
open Nat renaming le_refl→qB1,lt_of_lt_of_le→qC4,ne_of_lt→qC8,le_trans→qD3,pow_le_pow_right→qF5,zero_le→qG3,lt_succ_of_lt→qG7,le_of_lt→qH1,lt_irrefl→qH9,ne_of_gt→qJ3,sub_self→qK3,lt_of_le_of_lt→qK8,add_sub_cancel_left→qL0,lt_succ_self→qM1,le_add_right→qM2,pow_le_pow_left→qN1,zero_add→qN2,one_le_two_pow→qN5,le_succ→qN8,le_of_not_lt→qO1,min_eq_left→qO8,lt_or_eq_of_le→qQ2,add_sub_cancel→qQ3,sub_zero→qQ7,pow_succ→qR0,succ_ne_self→qR4,succ_le_succ→qR9,min_eq_right→qS0,add_mul→qS2,one_mul→qS3,mul_pow→qS4,le_antisymm→qS6,not_lt_zero→qS7
open Bool renaming false_ne_true→qB0,and_eq_true→qC9,false_eq_true→qE6,or_eq_true→qI3,eq_iff_iff→qM7,not_eq_true'→qO0,false_and→qP3,and_false→qT0
open Int renaming toNat_natCast→qI4,emod_lt_of_pos→qJ6,emod_nonneg→qK6,fdiv_eq_ediv_of_nonneg→qN3,le_trans→qO4
open PySem.Heap renaming get?_push_of_some→qA6,get?_push_size→qB7,lt_size→qB8,SameBut→qE1,size_push→qG6,get?_update_self→qI1,IsTuple→qK2,get?_update_other→qL1,IsList→qM5,get?_push_ne→qQ9,size_update→qR7
abbrev yA:=List Int
abbrev yB:=List PySem.Value
abbrev yC:=List PySem.Addr
abbrev yD:=List (PySem.Addr × PySem.Obj)
abbrev yE:=List PySem.Expr
abbrev yF:=Option PySem.Value
abbrev yG:=Option Int
abbrev yH:=List PySem.Str
abbrev yI:=List PyProof.Rows.Keyed
abbrev yJ:=Array PySem.Value
abbrev yK:=Option Nat
abbrev yL:=PySem.Value→PySem.Shared→Prop
namespace L2
open PySem PySem.Spec PyProof.Rows
noncomputable abbrev Key:=Sum Int Str
noncomputable def zKr:Key->Value->Bool
 |.inl k,v=>Value.isInt k v
 |.inr x,v=>Value.isStrOf x v
noncomputable def keyH(w:World):Key->Int
 |.inl k=>hashInt k
 |.inr x=>hashStr w x
theorem zAH:∀{k:Key}{v:Value},zKr k v=true->(∃i t,k=Sum.inl i/\v=Value.int i t)∨(∃x t,k=Sum.inr x/\v=Value.str x t)
 |.inl i,v,h=>by obtain⟨t,e⟩:=Value.isInt_shape (k:=i) (v:=v) h;exact .inl ⟨i,t,rfl,e⟩
 |.inr x,v,h=>by obtain⟨t,e⟩:=Value.isStrOf_shape (x:=x) (v:=v) h;exact .inr ⟨x,t,rfl,e⟩
theorem zOB(i:Int)(t:Tok):zKr (.inl i) (.int i t)=true:=by simp[zKr,Value.isInt]
theorem zOA(x:Str)(t:Tok):zKr (.inr x) (.str x t)=true:=by simp[zKr,Value.isStrOf]
theorem zWx(a b:Int):decide ((Sum.inl a:Key)=Sum.inl b)=(a == b):=by
 by_cases e:a=b
 ·subst e;simp
 ·have h:¬(Sum.inl a:Key)=Sum.inl b:=fun q=>e (Sum.inl.inj q);rw[decide_eq_false h];exact(beq_eq_false_iff_ne.mpr e).symm
theorem zWu(a b:Str):decide ((Sum.inr a:Key)=Sum.inr b)=decide (a=b):=by
 by_cases e:a=b
 ·subst e;simp
 ·have h:¬(Sum.inr a:Key)=Sum.inr b:=fun q=>e (Sum.inr.inj q);rw[decide_eq_false h,decide_eq_false e]
theorem zWw(a:Int)(b:Str):decide ((Sum.inl a:Key)=Sum.inr b)=false:=decide_eq_false (fun q=>nomatch q)
theorem zWv(a:Str)(b:Int):decide ((Sum.inr a:Key)=Sum.inl b)=false:=decide_eq_false (fun q=>nomatch q)
noncomputable def zAu(prog:Program)(w:World):PySem.KeyKind prog w Key where
 is:=zKr
 hash:=keyH w
 inj:=fun v a b ha hb=>by
  rcases zAH ha with⟨i,t,rfl,rfl⟩| ⟨x,t,rfl,rfl⟩
  ·rcases zAH hb with⟨j,u,rfl,e⟩| ⟨y,u,rfl,e⟩
   ·injection e with e1 _;rw[e1]
   ·exact nomatch e
  ·rcases zAH hb with⟨j,u,rfl,e⟩| ⟨y,u,rfl,e⟩
   ·exact nomatch e
   ·injection e with e1 _;rw[e1]
 byValue:=fun k v h=>by rcases zAH h with⟨i,t,rfl,rfl⟩| ⟨x,t,rfl,rfl⟩<;>rfl
 pyHash:=fun hv h=>by
  rcases zAH hv with⟨i,t,rfl,rfl⟩| ⟨x,t,rfl,rfl⟩
  ·exact wpAny_pyHash_int h
  ·exact wpAny_pyHash_str h
 eqBool:=fun hu hv h=>by
  rcases zAH hu with⟨i,t,rfl,rfl⟩| ⟨x,t,rfl,rfl⟩
  ·rcases zAH hv with⟨j,u,rfl,rfl⟩| ⟨y,u,rfl,rfl⟩
   ·rw[zWx]at h;exact wpAny_eqBool_int h
   ·rw[zWw]at h;exact SeqAt.EqAt.int_str i t y u _ _ _ _ h
  ·rcases zAH hv with⟨j,u,rfl,rfl⟩| ⟨y,u,rfl,rfl⟩
   ·rw[zWv]at h;exact SeqAt.EqAt.str_int x t j u _ _ _ _ h
   ·rw[zWu]at h;exact wpAny_eqBool_str h
 «strs»:=fun k x t v h=>by
  rcases zAH h with⟨i,u,rfl,e⟩| ⟨y,u,rfl,e⟩
  ·exact nomatch e
  ·injection e with e1 _;subst e1;cases v<;>rfl
theorem zKp(prog:Program)(w:World)(i:Int)(t:Tok):(zAu prog w).is (.inl i) (.int i t)=true:=zOB i t
theorem zKo(prog:Program)(w:World)(x:Str)(t:Tok):(zAu prog w).is (.inr x) (.str x t)=true:=zOA x t
inductive V where
 |non|bl (b:Bool)| int (i:Int)| str (x:Str)| byt (b:Array UInt8)| flt (b:UInt64)| ref (a:Addr)| ty (n:String)
 deriving DecidableEq
def RelV:V->Value->Prop
 |.non,u=>u=Value.none
 |.bl b,u=>u=Value.bool b
 |.int i,u=>∃t,u=Value.int i t
 |.str x,u=>∃t,u=Value.str x t
 |.byt b,u=>∃t,u=Value.bytes b t
 |.flt b,u=>∃t,u=Value.float b t
 |.ref a,u=>u=Value.ref a
 |.ty n,u=>u=Value.type n
noncomputable abbrev Vals:List V->yB->Prop:=Paired RelV
theorem Vals.length{xs:List V}{us:yB}(r:Vals xs us):xs.length=us.length:=Paired.length r
theorem Vals.get:∀{xs:List V}{us:yB}{i:Nat}{x:V},Vals xs us->xs[i]?=some x->∃u,us[i]?=some u/\RelV x u
 |_,_,_,_,.nil,e=>by simp at e
 |_,_,0,_,.cons r _,e=>by simp at e;subst e;exact⟨_,rfl,r⟩
 |_,_,i+1,x,.cons _ t,e=>by obtain⟨u,h1,h2⟩:=Vals.get (i:=i) (x:=x) t (by simpa using e);exact⟨u,by simpa using h1,h2⟩
theorem Vals.set{x:V}{u:Value}(r:RelV x u):∀{xs:List V}{us:yB} (i:Nat),Vals xs us->Vals (xs.set i x) (us.set i u)
 |_,_,_,.nil=>.nil
 |_,_,0,.cons _ t=>.cons r t
 |_,_,i+1,.cons q t=>.cons q (Vals.set r i t)
theorem Vals.append:∀{xs ys:List V}{us ws:yB},Vals xs us->Vals ys ws->Vals (xs++ys) (us++ws)
 |_,_,_,_,.nil,s=>s
 |_,_,_,_,.cons r t,s=>.cons r (Vals.append t s)
theorem Vals.take:∀{xs:List V}{us:yB} (n:Nat),Vals xs us->Vals (xs.take n) (us.take n)
 |_,_,0,_=>.nil
 |_,_,_+1,.nil=>.nil
 |_,_,n+1,.cons r t=>.cons r (Vals.take n t)
theorem Vals.drop:∀{xs:List V}{us:yB} (n:Nat),Vals xs us->Vals (xs.drop n) (us.drop n)
 |_,_,0,r=>r
 |_,_,_+1,.nil=>.nil
 |_,_,n+1,.cons _ t=>Vals.drop n t
def RelO:Option V->yF->Prop
 |some v,some u=>RelV v u
 |none,none=>True
 |_,_=>False
def KV{κ:Type}:List (κ×V)->List (κ×Value)->Prop:=Paired fun(p:κ×V) (q:κ×Value)=>p.1=q.1/\RelV p.2 q.2
noncomputable def kV:Key->V
 |.inl i=>.int i
 |.inr x=>.str x
inductive HO where
 /-- a list -/
 |lst (xs:List V)
 /-- a tuple (never changes) -/
 |tup (xs:List V)
 /-- a dict whose keys are ints and texts;one whose keys are tuples of ints and texts (the empty one is both) -/
 |dK (kvs:List (Key×V))| dT (kvs:List (List Key×V))
 /-- a set of ints: its members,its size -/
 |set (S:Int->Bool) (n:Nat)
 /-- an instance of the class at C,its dict at dx,its attributes -/
 |ins (C dx:Addr) (fs:List (Str×V))
 /-- the dict of the instance at x -/
 |own (x:Addr)
 /-- the dict of an exception -/
 |xd (fs:List (Str×V))
 /-- a bound method,f of x -/
 |met (f x:Addr)
 /-- a range object lo,lo+1,.. below hi -/
 |rng (lo hi:Int)
 /-- a thing that is known to the object (the script;a dict while a loop walks it): read,never written while it is so -/
 |frz (o:Obj) (u:HO)
 /-- a code object's table -/
 |tbl (ps:yJ)
 /-- any other thing,by what is true of its one object (a def of one's own: SetO a S n:=HO.ext fun h=>..) -/
 |ext (φ:Heap->Prop)
noncomputable abbrev Hp:=Addr->Option HO
noncomputable def upd(H:Hp)(a:Addr)(o:HO):Hp:=fun b=>if b=a then some o else H b
theorem zAf{H:Hp}{a:Addr}{o:HO}:upd H a o a=some o:=by unfold upd;rw[if_pos rfl]
theorem zAb{H:Hp}{a b:Addr}{o:HO}(h:b≠a):upd H a o b=H b:=by unfold upd;rw[if_neg h]
theorem zNu{H:Hp}{a:Addr}{o u:HO}:upd (upd H a o) a u=upd H a u:=by funext b;unfold upd;split<;>rfl
theorem zTI{H:Hp}{a b:Addr}{o u:HO}(h:H a=some o)(h':H b=some u)(d:o≠u):a≠b:=by intro e;subst e;rw[h]at h';exact d (Option.some.inj h')
theorem zAM{H:Hp}{a b:Addr}{o:HO}(h:H a=some o)(h':H b=none):a≠b:=by intro e;subst e;rw[h]at h';cases h'
section
variable (P:Program) (w:World)
def zC9(H:Hp)(h:Heap)(a:Addr):HO->Prop
 |.lst xs=>xs.length<=sizeLine/\∃(its:yB) (n:Nat),Vals xs its/\h.get? a=some { cls:=.type "list",data:=.seq its.toArray n }
 |.tup xs=>xs.length<=sizeLine/\∃its:yB,Vals xs its/\IsTup h a its.toArray
 |.dK kvs=>kvs.length<=sizeLine/\(a == sysModules)=false/\∃vs,KV kvs vs/\h.DictOf (zAu P w) a vs
 |.dT kvs=>kvs.length<=sizeLine/\(a == sysModules)=false/\∃xs:List (List Key×Addr×Value),
   Paired (fun(p:List Key×V) (q:List Key×Addr×Value)=>p.1=q.1/\H q.2.1=some (.tup (p.1.map kV))/\RelV p.2 q.2.2) kvs xs /\
   ∃o es ep,h.get? a=some o/\o.ExactDict/\o.data=.dict es ep/\es.toList=xs.map (entryOfKey (tupleKind (zAu P w)))/\(xs.map (·.1)).Nodup
 |.set S n=>h.SetOf (intKind P w) a S n
 |.ins C dx fs=>H dx=some (.own a)/\fs.length<=1000/\dx≠a/\h.get? a=some (W.instObj C dx) /\
   ∃mA,h.Ns1 dx mA/\(∀f,RelO (fs.lookup f) (mA f))/\PySem.Within mA (fs.map (·.1))
 |.own _=>∃o,h.get? a=some o
 |.xd fs=>∃mA,h.Ns1 a mA/\∀f,RelO (fs.lookup f) (mA f)
 |.rng lo hi=>∃t u v,h.get? a=some { cls:=.type "range",data:=.fields #[.int lo t,.int hi u,.int 1 v] }
 |.frz o u=>h.get? a=some o/\zC9 H h a u
 |.tbl ps=>h.get? a=some { cls:=.none,data:=.fields ps }
 |.met f x=>h.get? a=some (W.methodObj (.ref f) (.ref x))
 |.ext φ=>φ h/\(∃o,h.get? a=some o)/\∀h1 h2:Heap,φ h1->(∀o,h1.get? a=some o->h2.get? a=some o)->φ h2
def HOk(H:Hp)(h:Heap):Prop:=∀a o,H a=some o->zC9 P w H h a o
end
section
variable {P:Program}{w:World}{H H':Hp}{h h':Heap}{a:Addr}{o:HO}
theorem zC9.lt(x:zC9 P w H h a o):a<h.objs.size:=by
 cases o with
 |lst xs=>obtain⟨_,_,_,_,e⟩:=x;exact qB8 e
 |tup xs=>obtain⟨_,_,_,p⟩:=x;exact p.lt
 |dK kvs=>obtain⟨_,_,_,_,o,_,_,e,_⟩:=x;exact qB8 e
 |dT kvs=>obtain⟨_,_,_,_,o,_,_,e,_⟩:=x;exact qB8 e
 |set S n=>obtain⟨o,_,_,_,e,_⟩:=x;exact qB8 e
 |ins C dx fs=>obtain⟨_,_,_,e,_⟩:=x;exact qB8 e
 |own y=>obtain⟨_,e⟩:=x;exact qB8 e
 |xd fs=>obtain⟨_,⟨_,_,_,e,_⟩,_⟩:=x;exact qB8 e
 |rng lo hi=>obtain⟨_,_,_,e⟩:=x;exact qB8 e
 |frz ob u=>obtain⟨e,_⟩:=x;exact qB8 e
 |tbl ps=>exact qB8 (show h.get? a=some _ from x)
 |met f y=>exact qB8 (show h.get? a=some _ from x)
 |ext φ=>obtain⟨_,⟨_,e⟩,_⟩:=x;exact qB8 e
theorem Paired.mapP{α β:Type}{F G:α->β->Prop}:∀{l₁:List α}{l₂:List β},Paired F l₁ l₂->(∀a b,F a b->G a b)->Paired G l₁ l₂
 |_,_,.nil,_=>.nil
 |_,_,.cons r t,f=>.cons (f _ _ r) (Paired.mapP t f)
theorem zC9.stay(x:zC9 P w H h a o)(k:∀b u,(b=a∨H b=some (.own a))->h.get? b=some u->h'.get? b=some u)
  (ho:∀b,H b=some (.own a)->H' b=some (.own a)) (ht:∀b xs,H b=some (.tup xs)->H' b=some (.tup xs)):zC9 P w H' h' a o:=by
 induction o with
 |lst xs=>obtain⟨z,its,n,r,e⟩:=x;exact⟨z,its,n,r,k _ _ (.inl rfl) e⟩
 |tup xs=>obtain⟨z,its,r,ob,e,c⟩:=x;exact⟨z,its,r,ob,k _ _ (.inl rfl) e,c⟩
 |dK kvs=>obtain⟨z,y,vs,r,ob,es,ep,e,c⟩:=x;exact⟨z,y,vs,r,ob,es,ep,k _ _ (.inl rfl) e,c⟩
 |dT kvs =>
  obtain⟨z,y,xs,r,ob,es,ep,e,c⟩:=x;exact⟨z,y,xs,Paired.mapP r fun p q z=>⟨z.1,ht _ _ z.2.1,z.2.2⟩,ob,es,ep,k _ _ (.inl rfl) e,c⟩
 |set S n=>obtain⟨ob,es,ep,t,e,c⟩:=x;exact⟨ob,es,ep,t,k _ _ (.inl rfl) e,c⟩
 |ins C dx fs =>
  obtain⟨d,z,ne,e,mA,⟨od,es,ep,e2,c⟩,r⟩:=x;exact⟨ho _ d,z,ne,k _ _ (.inl rfl) e,mA,⟨od,es,ep,k _ _ (.inr d) e2,c⟩,r⟩
 |own y=>obtain⟨ob,e⟩:=x;exact⟨ob,k _ _ (.inl rfl) e⟩
 |xd fs=>obtain⟨mA,⟨od,es,ep,e,c⟩,r⟩:=x;exact⟨mA,⟨od,es,ep,k _ _ (.inl rfl) e,c⟩,r⟩
 |rng lo hi=>obtain⟨t,u,v,e⟩:=x;exact⟨t,u,v,k _ _ (.inl rfl) e⟩
 |frz ob u ih=>obtain⟨e,q⟩:=x;exact⟨k _ _ (.inl rfl) e,ih q⟩
 |tbl ps =>
  have e:h.get? a=some { cls:=.none,data:=.fields ps }:=x;show h'.get? a=some { cls:=.none,data:=.fields ps };exact k a _ (.inl rfl) e
 |met f y =>
  have e:h.get? a=some (W.methodObj (.ref f) (.ref y)):=x;show h'.get? a=some (W.methodObj (.ref f) (.ref y));exact k a _ (.inl rfl) e
 |ext φ=>obtain⟨p,⟨o,e⟩,st⟩:=x;exact⟨st _ _ p fun o q=>k _ _ (.inl rfl) q,⟨o,k _ _ (.inl rfl) e⟩,st⟩
theorem HOk.lt(x:HOk P w H h)(e:H a=some o):a<h.objs.size:=(x a o e).lt
theorem HOk.fresh(x:HOk P w H h)(e:h.objs.size<=a):H a=none:=by
 cases q:H a with
 |none=>rfl
 |some u=>exact absurd (qC4 (x.lt q) e) (qH9 _)
theorem HOk.kept(x:HOk P w H h)(k:∀b u,h.get? b=some u->h'.get? b=some u):HOk P w H h':=fun a o e =>
 (x a o e).stay (fun b u _ q=>k b u q) (fun _ q=>q) fun _ _ q=>q
theorem HOk.laid(x:HOk P w H h)(k:∀b u,h.get? b=some u->h'.get? b=some u)(hp:h.objs.size<=a)(new:zC9 P w (upd H a o) h' a o):HOk P w (upd H a o) h':=fun b u e=>by
 have hn:=x.fresh hp;by_cases hb:b=a
 ·subst hb;rw[zAf]at e;cases e;exact new
 ·rw[zAb hb]at e;exact(x b u e).stay (fun c v _ q=>k c v q) (fun c q=>by rw[zAb (zAM q hn)];exact q) fun c xs q=>by rw[zAb (zAM q hn)];exact q
end
def Rd(H:Hp)(a:Addr)(u:HO):Prop:=H a=some u∨∃o,H a=some (.frz o u)
theorem Rd.ok{P:Program}{w:World}{H:Hp}{h:Heap}{a:Addr}{u:HO}(r:Rd H a u)(x:HOk P w H h):zC9 P w H h a u:=by
 rcases r with r|⟨o,r⟩
 ·exact x a u r
 ·obtain⟨_,q⟩:=x a _ r;exact q
def Mut:Option HO->Prop
 |some (.lst _)=>True
 |some (.dK _)=>True
 |some (.dT _)=>True
 |some (.set _ _)=>True
 |some (.ins _ _ _)=>True
 |some (.ext _)=>True
 |_=>False
section
variable {P:Program}{w:World}{H:Hp}{h h':Heap}{x e:Addr}{o':HO}
theorem HOk.write(ok:HOk P w H h)(mu:Mut (H x))(he:e=x∨H e=some (.own x))(k:∀b u,b≠e->h.get? b=some u->h'.get? b=some u)(heo:∃u,h'.get? e=some u)
  (new:zC9 P w (upd H x o') h' x o'):HOk P w (upd H x o') h':=fun b u q=>by
 have nown:∀c y,H c=some (.own y)->c≠x:=fun c y r z=>by subst z;rw[r]at mu;exact mu
 have ntup:∀c xs,H c=some (.tup xs)->c≠x:=fun c xs r z=>by subst z;rw[r]at mu;exact mu
 by_cases hb:b=x
 ·subst hb;rw[zAf]at q;cases q;exact new
 ·rw[zAb hb]at q;by_cases hbe:b=e
  ·have q':H b=some (.own x):=by
    rcases he with z|z
    ·exact absurd (hbe.trans z) hb
    ·rw[hbe];exact z
   rw[q]at q';cases q';obtain⟨v,hv⟩:=heo;exact⟨v,by rw[hbe];exact hv⟩
  ·refine(ok b u q).stay (fun c v hc r=>k c v ?_ r) (fun c r=>by rw[zAb (nown c b r)];exact r) fun c xs r=>by rw[zAb (ntup c xs r)];exact r
   rcases hc with rfl|hc
   ·exact hbe
   ·rintro rfl;rcases he with z|z
    ·exact nown c b hc z
    ·rw[hc]at z;cases z;exact hb rfl
end
structure Un(fs ex:yC)(H H':Hp)(h h':Heap):Prop where
 keep:∀b o,h.get? b=some o->H b=none->b∉fs->b∉ex->h'.get? b=some o
 slot:∀b o,h.get? b=some o->H b=none->b∈fs->b∉ex->∃sl,h'.get? b=some { o with slots:=sl }
 free:∀b o,h.get? b=some o->H b=none->b∉ex->H' b=none
 there:∀b o,h.get? b=some o->b∉ex->∃o',h'.get? b=some o'
 tups:∀b xs,H b=some (.tup xs)->H' b=some (.tup xs)
 frzs:∀b o u,H b=some (.frz o u)->H' b=some (.frz o u)
 tbls:∀b ps,H b=some (.tbl ps)->∃more,H' b=some (.tbl (ps++more))
section
variable {fs fs' ex ex':yC}{H H1 H2:Hp}{h h1 h2 h':Heap}{a x e:Addr}{o:HO}
theorem Un.any(u:Un fs ex H H1 h h1){b:Addr}{ob:Obj}(q:h.get? b=some ob)(n:H b=none)(hx:b∉ex):∃sl,h1.get? b=some { ob with slots:=sl }:=by
 by_cases hb:b∈fs
 ·exact u.slot b ob q n hb hx
 ·exact⟨ob.slots,u.keep b ob q n hb hx⟩
theorem Un.kept(k:∀b u,h.get? b=some u->h'.get? b=some u):Un fs ex H H h h' :=
 ⟨fun b ob q _ _ _=>k b ob q,fun b ob q _ _ _=>⟨ob.slots,k b ob q⟩,fun _ _ _ n _=>n,fun b ob q _=>⟨ob,k b ob q⟩,fun _ _ q=>q,fun _ _ _ q=>q,fun _ ps q=>⟨#[],by rw[q];simp⟩⟩
theorem Un.refl:Un fs ex H H h h:=Un.kept fun _ _ q=>q
theorem Un.laid(k:∀b u,h.get? b=some u->h'.get? b=some u)(hp:h.objs.size<=a)(hn:H a=none):Un fs ex H (upd H a o) h h' where
 keep:=fun b u q _ _ _=>k b u q
 slot:=fun b u q _ _ _=>⟨u.slots,k b u q⟩
 free:=fun b u q n _=>by rw[zAb (qC8 (qC4 (qB8 q) hp))];exact n
 there:=fun b u q _=>⟨u,k b u q⟩
 tups:=fun b xs q=>by rw[zAb (zAM q hn)];exact q
 frzs:=fun b u xs q=>by rw[zAb (zAM q hn)];exact q
 tbls:=fun b ps q=>⟨#[],by rw[zAb (zAM q hn),q];simp⟩
theorem Un.write(mu:Mut (H x))(he:e=x∨H e=some (.own x))(k:∀b u,b≠e->h.get? b=some u->h'.get? b=some u)(heo:∃u,h'.get? e=some u):Un fs ex H (upd H x o) h h':=by
 have hx:∀b,H b=none->b≠x:=fun b n z=>by subst z;rw[n]at mu;exact mu
 have hb:∀b,H b=none->b≠e:=fun b n z=>by
  subst z;rcases he with r|r
  ·exact hx b n r
  ·rw[n]at r;cases r
 have hm:∀b u,H b=some u->¬Mut (some u)->b≠x:=fun b u q nm z=>by subst z;rw[q]at mu;exact nm mu
 refine⟨fun b u q n _ _=>k b u (hb b n) q,fun b u q n _ _=>⟨u.slots,k b u (hb b n) q⟩,fun b u q n _=>by rw[zAb (hx b n)];exact n,fun b u q _=>?_,
  fun b xs q=>by rw[zAb (hm b _ q fun z=>z)];exact q,fun b u xs q=>by rw[zAb (hm b _ q fun z=>z)];exact q,fun b ps q=>⟨#[],by rw[zAb (hm b _ q fun z=>z),q];simp⟩⟩
 by_cases hbe:b=e
 ·subst hbe;exact heo
 ·exact⟨u,k b u hbe q⟩
end
noncomputable def trk(h:Heap)(H:Hp):yC:=(List.range h.objs.size).filter fun a=>(H a).isSome
noncomputable def hidT(h:Heap)(H:Hp):Heap:=W.hideAll h (trk h H)
theorem zOV(h:Heap)(H:Hp):(hidT h H).objs.size=h.objs.size:=W.hideAll_size _ _
theorem zRn{h:Heap}{H:Hp}{b:Addr}{o:Obj}(e:h.get? b=some o)(n:H b=none):(hidT h H).get? b=some o :=
 W.hideAll_get _ e fun hm=>by have q:(H b).isSome=true:=(qC6.mp hm).2;rw[n]at q;simp at q
theorem zTE{h:Heap}{H:Hp}{b:Addr}{o:Obj}(e:(hidT h H).get? b=some o):h.get? b=some o/\H b=none:=by
 have e':h.get? b=some o:=W.of_hideAll (trk h H) e;refine⟨e',?_⟩;cases q:H b with
 |none=>rfl
 |some x =>
  have hm:b∈trk h H:=qC6.mpr ⟨qJ9.mpr (qB8 e'),by simp[q]⟩;have z:(hidT h H).get? b=none:=W.hideAll_none (trk h H) hm;rw[z]at e;cases e
noncomputable def zUw(g h:Heap)(L:Addr):yD:=(List.range h.objs.size).filterMap fun a=>if a=L∨(g.get? a).isSome=true then none else(h.get? a).map fun o=>(a,o)
noncomputable def rest(g h:Heap)(L d:Addr):yD:=(zUw g h L).filter fun p=>decide (p.1≠d)
structure Mod(K:W.Frag)(mg:Str->yF)(base:Heap):Prop where
 kin:K.In base
 glob:base.Ns mainGlobals mg
 blt:∃mb,base.Ns builtinsNs mb/\∀x:Str,x ≠ "__name__"->mb x=bootBuiltins x
 nolimit:base.NoLimit
structure Cx where
 prog:Program
 w:World
 K:W.Frag
 mg:Str->yF
 base:Heap
 A:Around
 N:yH
 s₀:Shared
 H₀:Hp
 env:Env
 outer:List Env
 stack:List Env
 ex:yC
 fn:Str->Bool
 calm:Bool
 pn:yD
 xe:yL
noncomputable def frs(l:List Env):yC:=l.filterMap (·.frame)
noncomputable abbrev Cx.fs(X:Cx):yC:=frs X.outer
def Vis(sc:Scope)(x:Str):Prop:=sc.names.lookup x=some .local∨sc.names.lookup x=some .cell∨sc.names.lookup x=some .free
def Loc(sc:Scope)(x:Str):Prop:=sc.names.lookup x=some .local∨sc.names.lookup x=some .cell
def Look(env:Env)(h:Heap)(m:Str->yF)(x:Str)(u:Value):Prop :=
 (env.kindOf x=some .local/\m x=some u)∨((env.kindOf x=some .cell∨env.kindOf x=some .free)/\∃c,env.cells.lookup x=some c/\h.IsCell c (some u))
structure Cx.Ok(X:Cx):Prop where
 mod:Mod X.K X.mg X.base
 kind:X.env.scope.kind=.function
 glob:X.env.globals=mainGlobals
 blt:X.env.builtins=builtinsNs
 above:X.s₀.heap.objs.size<=X.env.locals
 inj:∀x y c,X.env.cells.lookup x=some c->X.env.cells.lookup y=some c->x=y
 has:∀x,(X.env.kindOf x=some .cell∨X.env.kindOf x=some .free)->∃c,X.env.cells.lookup x=some c
 cab:∀x c,X.fn x=true->X.env.cells.lookup x=some c->X.s₀.heap.objs.size<=c
 hd:X.calm=true->X.A.handled=none
 frames:X.A.frames=some X.stack
 stk:X.stack=X.outer∨(X.stack=X.env::X.outer/\X.env.frame=some X.env.locals)
 exf:∀b∈X.ex,b≠X.env.locals/\∀x c,X.env.cells.lookup x=some c->c≠b
 bs:∀b o,X.base.get? b=some o->X.s₀.heap.get? b=some o/\X.H₀ b=none
 bsz:X.base.objs.size<=X.s₀.heap.objs.size
 noex:∀b o,X.base.get? b=some o->b∉X.ex
 exfs:∀b∈X.ex,b∉X.fs
 funs:X.s₀.heap.FunFrames X.base X.outer
 frf:∀b∈X.fs,X.H₀ b=none
structure Inv(X:Cx)(pins:yD)(σ:List (Option V))(H:Hp)(s:Shared):Prop where
 ok:X.Ok
 os:s.os=X.s₀.os
 bare:AllBare s.gens
 base:Un X.fs X.ex X.H₀ H X.s₀.heap s.heap
 loc:∃m,s.heap.Ns X.env.locals m/\∀(i:Nat) (x:Str) (v:V),X.N[i]?=some x->σ[i]?=some (some v)->Vis X.env.scope x->∃u,RelV v u/\Look X.env s.heap m x u
 cell:∀x c,X.env.cells.lookup x=some c->∃v,s.heap.IsCell c v
 free:H X.env.locals=none
 freeC:∀x c,X.env.cells.lookup x=some c->H c=none
 pin:∀p∈X.pn++pins,s.heap.get? p.1=some p.2/\H p.1=none/\p.1≠X.env.locals/\p.1∉X.fs/\∀v,p.2.data≠.cell v
 hok:HOk X.prog X.w H s.heap
 len:σ.length=X.N.length
section
variable {X:Cx}{pins:yD}{σ:List (Option V)}{H H':Hp}{s:Shared}{h':Heap}
theorem Cx.Ok.nofr(ok:X.Ok){b:Addr}{o:Obj}(e:X.base.get? b=some o):b∉X.fs:=fun hb=>by have:=(ok.funs.mem hb).1;rw[e]at this;cases this
theorem Inv.bs(I:Inv X pins σ H s):∀b o,X.base.get? b=some o->s.heap.get? b=some o/\H b=none:=fun b o e =>
 ⟨I.base.keep b o (I.ok.bs b o e).1 (I.ok.bs b o e).2 (I.ok.nofr e) (I.ok.noex b o e),I.base.free b o (I.ok.bs b o e).1 (I.ok.bs b o e).2 (I.ok.noex b o e)⟩
theorem Inv.bk(I:Inv X pins σ H s):∀b o,X.base.get? b=some o->s.heap.get? b=some o:=fun b o e=>(I.bs b o e).1
theorem Inv.mod(I:Inv X pins σ H s):Mod X.K X.mg X.base:=I.ok.mod
theorem Inv.kIn(I:Inv X pins σ H s):X.K.In s.heap:=I.ok.mod.kin.keeps I.bk
theorem Inv.lt(I:Inv X pins σ H s):X.env.locals<s.heap.objs.size:=let ⟨_,hn,_⟩:=I.loc;hn.lt
theorem Inv.sz(I:Inv X pins σ H s):X.s₀.heap.objs.size<=s.heap.objs.size:=qD3 I.ok.above (qH1 I.lt)
theorem Inv.nofs(I:Inv X pins σ H s){a:Addr}(h:s.heap.objs.size<=a):a∉X.fs:=fun hb=>by obtain⟨_,o,ho,_⟩:=I.ok.funs.mem hb;exact absurd (qC4 (qB8 ho) (qD3 I.sz h)) (qH9 _)
theorem Inv.cne(I:Inv X pins σ H s):∀x c,X.env.cells.lookup x=some c->c≠X.env.locals:=fun x c e z=>by obtain⟨v,o,ho,hd⟩:=I.cell x c e;obtain⟨m,⟨o',es,ep,ho',hd',_⟩,_⟩:=I.loc;rw[z,ho']at ho;cases ho;rw[hd']at hd;cases hd
theorem Inv.funs(I:Inv X pins σ H s):s.heap.FunFrames X.base X.outer:=by
 have all:∀(l:List Env),(∀b∈frs l,b∈X.fs)->X.s₀.heap.FunFrames X.base l->s.heap.FunFrames X.base l:=by
  intro l
  induction l with
  |nil=>intro _ _;trivial
  |cons env r ih =>
   intro hs hl;obtain⟨hk,⟨L,o,hf,hn,ho,hd⟩,hr⟩:=hl;have hL:L∈X.fs:=hs L (by unfold frs;rw[qH8,hf];exact qD0);obtain⟨sl,e⟩:=I.base.slot L o ho (I.ok.frf L hL) hL fun z=>I.ok.exfs L z hL;exact⟨hk,⟨L,_,hf,hn,e,hd⟩,ih (fun b hb=>hs b (by unfold frs;rw[qH8,hf];exact qB9 _ hb)) hr⟩
 exact all X.outer (fun _ hb=>hb) I.ok.funs
theorem Inv.stack(I:Inv X pins σ H s):s.heap.FunFrames X.base X.stack:=by
 rcases I.ok.stk with e|⟨e,hf⟩
 ·rw[e];exact I.funs
 ·rw[e];obtain⟨m,hn,_⟩:=I.loc;refine .cons (by rw[I.ok.kind];decide) hf hn ?_ I.funs;exact Heap.get?_none_of_le (qD3 I.ok.bsz I.ok.above)
theorem Inv.stkSub(I:Inv X pins σ H s):∀b∈frs X.stack,b∈X.env.locals::X.fs:=fun b hb=>by
 rcases I.ok.stk with e|⟨e,hf⟩
 ·rw[e]at hb;exact qB9 _ hb
 ·rw[e]at hb;unfold frs at hb;rw[qH8,hf]at hb;exact hb
theorem Inv.stkFree(I:Inv X pins σ H s):∀b∈frs X.stack,H b=none:=fun b hb=>by
 rcases qC0.mp (I.stkSub b hb)with e|hb
 ·rw[e];exact I.free
 ·obtain⟨_,o,ho,_⟩:=I.ok.funs.mem hb;exact I.base.free b o ho (I.ok.frf b hb) fun z=>I.ok.exfs b z hb
theorem Inv.step{g':Array GenState}{t':Nat}{d':Drawn}{ch:yC}(I:Inv X pins σ H s)
  (hch:∀b∈ch,(b∈X.ex∨X.s₀.heap.objs.size<=b)/\b≠X.env.locals/\(∀x c,X.env.cells.lookup x=some c->c≠b)/\∀p∈X.pn++pins,p.1≠b)
  (keep:∀b o,b≠X.env.locals->b∉X.fs->b∉ch->s.heap.get? b=some o->H b=none->h'.get? b=some o)
  (slot:∀b o,b≠X.env.locals->b∈X.fs->b∉ch->s.heap.get? b=some o->H b=none->∃sl,h'.get? b=some { o with slots:=sl }) (free:∀b o,b∉ch->s.heap.get? b=some o->H b=none->H' b=none)
  (there:∀b o,b∉ch->s.heap.get? b=some o->∃o',h'.get? b=some o')
  (tups:∀b xs,H b=some (.tup xs)->H' b=some (.tup xs)) (frzs:∀b o u,H b=some (.frz o u)->H' b=some (.frz o u)) (tbls:∀b ps,H b=some (.tbl ps)->∃more,H' b=some (.tbl (ps++more)))
  (ns:∀m,s.heap.Ns X.env.locals m->h'.Ns X.env.locals m) (hok:HOk X.prog X.w H' h') (hg:AllBare g') :
  Inv X pins σ H' { s with heap:=h',gens:=g',drawn:=d',toks:=t' }:=by
 have neL:∀b o,X.s₀.heap.get? b=some o->b≠X.env.locals:=fun b o e=>qC8 (qC4 (qB8 e) I.ok.above);have neC:∀b o,X.s₀.heap.get? b=some o->b∉X.ex->b∉ch:=fun b o e hx hb=>by
  rcases(hch b hb).1 with z|z
  ·exact hx z
  ·exact absurd (qC4 (qB8 e) z) (qH9 _)
 have cellK:∀x c,X.env.cells.lookup x=some c->∀v,s.heap.IsCell c v->h'.IsCell c v:=fun x c e v ⟨o,ho,hd⟩=>by
  have nch:c∉ch:=fun z=>(hch c z).2.2.1 x c e rfl;by_cases hc:c∈X.fs
  ·obtain⟨sl,q⟩:=slot c o (I.cne x c e) hc nch ho (I.freeC x c e);exact⟨_,q,hd⟩
  ·exact⟨o,keep c o (I.cne x c e) hc nch ho (I.freeC x c e),hd⟩
 refine⟨I.ok,I.os,hg,⟨fun b o e n hb hx=>?_,fun b o e n hb hx=>?_,fun b o e n hx=>?_,fun b o e hx=>?_,fun b xs e=>tups b xs (I.base.tups b xs e),fun b o xs e=>frzs b o xs (I.base.frzs b o xs e),fun b ps e=>?_⟩,?_,fun x c e=>?_,?_,fun x c e=>?_,fun p hp=>?_,hok,I.len⟩
 ·exact keep b o (neL b o e) hb (neC b o e hx) (I.base.keep b o e n hb hx) (I.base.free b o e n hx)
 ·obtain⟨sl,e1⟩:=I.base.slot b o e n hb hx;obtain⟨sl',e2⟩:=slot b _ (neL b o e) hb (neC b o e hx) e1 (I.base.free b o e n hx);exact⟨sl',e2⟩
 ·obtain⟨o',e1⟩:=I.base.there b o e hx;exact free b o' (neC b o e hx) e1 (I.base.free b o e n hx)
 ·obtain⟨o',e1⟩:=I.base.there b o e hx;exact there b o' (neC b o e hx) e1
 ·obtain⟨m1,e1⟩:=I.base.tbls b ps e;obtain⟨m2,e2⟩:=tbls b _ e1;exact⟨m1++m2,by rw[e2,Array.append_assoc]⟩
 ·obtain⟨m,hn,hl⟩:=I.loc;refine⟨m,ns m hn,fun i x v e1 e2 e3=>?_⟩;obtain⟨u,r,l⟩:=hl i x v e1 e2 e3;refine⟨u,r,?_⟩;rcases l with l|⟨k,c,e,z⟩
  ·exact .inl l
  ·exact .inr ⟨k,c,e,cellK x c e _ z⟩
 ·obtain⟨v,z⟩:=I.cell x c e;exact⟨v,cellK x c e v z⟩
 ·obtain⟨m,⟨o,_,_,ho,_⟩,_⟩:=I.loc;exact free _ o (fun z=>(hch _ z).2.1 rfl) ho I.free
 ·obtain⟨v,o,ho,hd⟩:=I.cell x c e;exact free c o (fun z=>(hch c z).2.2.1 x c e rfl) ho (I.freeC x c e)
 ·obtain⟨e,n,ne,nf,d⟩:=I.pin p hp;have nch:p.1∉ch:=fun z=>(hch p.1 z).2.2.2 p hp rfl;exact⟨keep p.1 p.2 ne nf nch e n,free p.1 p.2 nch e n,ne,nf,d⟩
theorem Inv.un{t':Nat}(I:Inv X pins σ H s)(u:Un X.fs [] H H' s.heap h')(hok:HOk X.prog X.w H' h'):Inv X pins σ H' { s with heap:=h',toks:=t' }:=by
 obtain⟨m,⟨o,es,ep,ho,r⟩,_⟩:=id I.loc;obtain⟨sl,hL⟩:=u.any ho I.free (by simp);exact I.step (g':=s.gens) (d':=s.drawn) (ch:=[]) (fun _ z=>nomatch z) (fun b o _ hb _ e n=>u.keep b o e n hb (by simp)) (fun b o _ hb _ e n=>u.slot b o e n hb (by simp)) (fun b o _ e n=>u.free b o e n (by simp)) (fun b o _ e=>u.there b o e (by simp)) u.tups u.frzs u.tbls (fun m' hm=>by
  obtain⟨o',es',ep',ho',r'⟩:=hm;rw[ho]at ho';cases ho';exact⟨_,es',ep',hL,r'⟩) hok I.bare
theorem Inv.call{g':Array GenState}{t':Nat}{d':Drawn}{ch:yC}(I:Inv X pins σ H s)(u:Un (frs X.stack) ch H H' s.heap h')(hok:HOk X.prog X.w H' h')(hg:AllBare g')
  (hch:∀b∈ch,(b∈X.ex∨X.s₀.heap.objs.size<=b)/\b≠X.env.locals/\(∀x c,X.env.cells.lookup x=some c->c≠b)/\∀p∈X.pn++pins,p.1≠b) :
  Inv X pins σ H' { s with heap:=h',gens:=g',drawn:=d',toks:=t' }:=by
 obtain⟨m,⟨o,es,ep,ho,r⟩,_⟩:=id I.loc;obtain⟨sl,hL⟩:=u.any ho I.free fun z=>(hch _ z).2.1 rfl;exact I.step (ch:=ch) hch (fun b o hL hb hc e n=>u.keep b o e n (fun z=>(qC0.mp (I.stkSub b z)).elim hL hb) hc) (fun b o _ _ hc e n=>u.any e n hc) (fun b o hc e n=>u.free b o e n hc) (fun b o hc e=>u.there b o e hc) u.tups u.frzs u.tbls (fun m' hm=>by
  obtain⟨o',es',ep',ho',r'⟩:=hm;rw[ho]at ho';cases ho';exact⟨_,es',ep',hL,r'⟩) hok hg
theorem Inv.turned{t':Nat}{it:Addr}(I:Inv X pins σ H s)(k:∀b o,b≠it->s.heap.get? b=some o->h'.get? b=some o)(hn:H it=none)(hL:it≠X.env.locals)
  (h1:it∈X.ex∨X.s₀.heap.objs.size<=it) (h2:∀x c,X.env.cells.lookup x=some c->c≠it) (h3:∀p∈X.pn++pins,p.1≠it):Inv X pins σ H { s with heap:=h',toks:=t' }:=by
 have nit:∀b u,H b=some u->b≠it:=fun b u e z=>by rw[z,hn]at e;cases e
 refine I.step (g':=s.gens) (d':=s.drawn) (ch:=[it]) (fun b hb=>?_) (fun b o _ _ hc e _=>k b o (fun z=>hc (by simp[z])) e) (fun b o _ _ hc e _=>⟨o.slots,k b o (fun z=>hc (by simp[z])) e⟩) (fun _ _ _ _ n=>n)
  (fun b o hc e=>⟨o,k b o (fun z=>hc (by simp[z])) e⟩) (fun _ _ e=>e) (fun _ _ _ e=>e) (fun b ps e=>⟨#[],by rw[e];simp⟩) (fun m hm=>?_) (fun b u e=>?_) I.bare
 ·have e:b=it:=by simpa using hb
  subst e;exact⟨h1,hL,h2,h3⟩
 ·obtain⟨o,es,ep,ho,r⟩:=hm;exact⟨o,es,ep,k _ o (Ne.symm hL) ho,r⟩
 ·refine(I.hok b u e).stay (fun c v hc q=>k c v ?_ q) (fun _ q=>q) fun _ _ q=>q;rcases hc with z|z
  ·rw[z];exact nit b u e
  ·exact nit c _ z
theorem Inv.tok(I:Inv X pins σ H s)(t:Nat):Inv X pins σ H { s with toks:=t }:=I.un (h':=s.heap) (t':=t) Un.refl I.hok
theorem Inv.kept{t':Nat}(I:Inv X pins σ H s)(k:∀b u,s.heap.get? b=some u->h'.get? b=some u):Inv X pins σ H { s with heap:=h',toks:=t' }:=I.un (Un.kept k) (I.hok.kept k)
theorem Inv.laid{a:Addr}{o:HO}{t':Nat}(I:Inv X pins σ H s)(k:∀b u,s.heap.get? b=some u->h'.get? b=some u)(hp:s.heap.objs.size<=a)(new:zC9 X.prog X.w (upd H a o) h' a o):
  Inv X pins σ (upd H a o) { s with heap:=h',toks:=t' }:=I.un (Un.laid k hp (I.hok.fresh hp)) (I.hok.laid k hp new)
theorem Inv.write{x e:Addr}{o:HO}{t':Nat}(I:Inv X pins σ H s)(mu:Mut (H x))(he:e=x∨H e=some (.own x))(k:∀b u,b≠e->s.heap.get? b=some u->h'.get? b=some u)(heo:∃u,h'.get? e=some u)
  (new:zC9 X.prog X.w (upd H x o) h' x o):Inv X pins σ (upd H x o) { s with heap:=h',toks:=t' }:=I.un (Un.write mu he k heo) (I.hok.write mu he k heo new)
theorem Inv.weak{σ':List (Option V)}(I:Inv X pins σ H s)(hl:σ'.length=σ.length)(w:∀(i:Nat) v,σ'[i]?=some (some v)->σ[i]?=some (some v)):Inv X pins σ' H s :=
 ⟨I.ok,I.os,I.bare,I.base,let ⟨m,hn,hl'⟩:=I.loc;⟨m,hn,fun i x v e1 e2 e3=>hl' i x v e1 (w i v e2) e3⟩,I.cell,I.free,I.freeC,I.pin,I.hok,hl.trans I.len⟩
theorem Inv.pins_of{pins':yD}(I:Inv X pins σ H s)(h:∀p∈pins',s.heap.get? p.1=some p.2/\H p.1=none/\p.1≠X.env.locals/\p.1∉X.fs/\∀v,p.2.data≠.cell v):Inv X pins' σ H s :=
 ⟨I.ok,I.os,I.bare,I.base,I.loc,I.cell,I.free,I.freeC,fun p hp=>(qB2.mp hp).elim (fun z=>I.pin p (qC7 _ z)) (h p),I.hok,I.len⟩
theorem zLC{N:yH}(hN:N.Nodup){i j:Nat}{x:Str}(a:N[i]?=some x)(b:N[j]?=some x):i=j:=by obtain⟨h1,e1⟩:=qA2.mp a;obtain⟨h2,e2⟩:=qA2.mp b;exact(List.getElem_inj hN).mp (e1.trans e2.symm)
theorem zNH{M:Model}{A:Around}{E:yL}{i:Nat}{x:Str}{v:V}{u:Value}{Q:Unit->Shared->Prop}(I:Inv X pins σ H s)(hN:X.N.Nodup)(hi:X.N[i]?=some x)(hx:Loc X.env.scope x)(r:RelV v u)
  (h:∀s',Inv X pins (σ.set i (some v)) H s'->(∃a,qE1 a s.heap s'.heap/\(a=X.env.locals∨X.env.cells.lookup x=some a))->Q () s') (hf:X.fn x=true∨X.env.scope.names.lookup x=some .local:=by first|exact .inl rfl|exact .inr rfl|assumption):wpAny M A (storeName X.env x u) Q E s:=by
 obtain⟨m,hn,hl⟩:=id I.loc;have hcls:(X.env.scope.kind == .class||(X.env.scope.kind == .module&&X.env.locals != X.env.globals))=false:=by rw[I.ok.kind];rfl
 have hiσ:i<σ.length:=by rw[I.len];exact(qA2.mp hi).1
 have cne:=I.cne;have tracked:∀{a:Addr}{h':Heap},(∃o,s.heap.get? a=some o/\H a=none)->qE1 a s.heap h'->HOk X.prog X.w H h':=fun{a h'} ha hs b ob e=>by
  obtain⟨_,_,hfree⟩:=ha;refine(I.hok b ob e).stay (fun c w' hc q=>(hs.2 c ?_).trans q) (fun _ q=>q) fun _ _ q=>q;rintro rfl;rcases hc with rfl|hc
  ·rw[hfree]at e;cases e
  ·rw[hfree]at hc;cases hc
 rcases hx with hk|hk
 ·refine wpAny_storeName_local hk hn (fun h' hn' hs=>?_) hcls;obtain⟨oL,_,_,hoL,_⟩:=id hn;refine h _ ⟨I.ok,I.os,I.bare,⟨fun b o e n hb hx=>?_,fun b o e n hb hx=>?_,I.base.free,fun b o e hx=>?_,I.base.tups,I.base.frzs,I.base.tbls⟩,⟨_,hn',fun j y v' e1 e2 e3=>?_⟩,fun y c e=>?_,I.free,I.freeC,fun p hp=>?_,tracked ⟨oL,hoL,I.free⟩ hs,by simpa using I.len⟩ ⟨_,hs,.inl rfl⟩
  ·exact(hs.2 b (qC8 (qC4 (qB8 e) I.ok.above))).trans (I.base.keep b o e n hb hx)
  ·obtain⟨sl,e1⟩:=I.base.slot b o e n hb hx;exact⟨sl,(hs.2 b (qC8 (qC4 (qB8 e) I.ok.above))).trans e1⟩
  ·obtain⟨o',e1⟩:=I.base.there b o e hx;exact⟨o',(hs.2 b (qC8 (qC4 (qB8 e) I.ok.above))).trans e1⟩
  ·by_cases hj:j=i
   ·subst hj;rw[hi]at e1;cases e1;rw[qE2 hiσ]at e2;cases e2;exact⟨u,r,.inl ⟨hk,by simp⟩⟩
   ·rw[qF1 (Ne.symm hj)]at e2;obtain⟨u',r',q⟩:=hl j y v' e1 e2 e3;refine⟨u',r',?_⟩;rcases q with⟨k,e⟩| ⟨k,c,e,z⟩
    ·refine .inl ⟨k,?_⟩;have:y≠x:=fun e=>hj (zLC hN e1 (e▸hi));simp[this,e]
    ·exact .inr ⟨k,c,e,z.sameBut hs (cne y c e)⟩
  ·obtain⟨w',z⟩:=I.cell y c e;exact⟨w',z.sameBut hs (cne y c e)⟩
  ·obtain⟨e,n,ne,nf,d⟩:=I.pin p hp;exact⟨(hs.2 p.1 ne).trans e,n,ne,nf,d⟩
 ·have hfn:X.fn x=true:=by
   rcases hf with z|z
   ·exact z
   ·rw[z]at hk;cases hk
  obtain⟨c,hc⟩:=I.ok.has x (.inl hk);obtain⟨w',z⟩:=I.cell x c hc;refine wpAny_storeName_cell I.ok.kind hk hc z (fun h' hc' hs=>?_);obtain⟨oc,hoc,hocd⟩:=id z;refine h { s with heap:=h' } ⟨I.ok,I.os,I.bare,⟨fun b o e n hb hx=>?_,fun b o e n hb hx=>?_,I.base.free,fun b o e hx=>?_,I.base.tups,I.base.frzs,I.base.tbls⟩,⟨m,hn.sameBut hs (Ne.symm (cne x c hc)),fun j y v' e1 e2 e3=>?_⟩,fun y c' e=>?_,I.free,I.freeC,fun p hp=>?_,tracked ⟨oc,hoc,I.freeC x c hc⟩ hs,by simpa using I.len⟩ ⟨c,hs,.inr hc⟩
  ·exact(hs.2 b (qC8 (qC4 (qB8 e) (I.ok.cab x c hfn hc)))).trans (I.base.keep b o e n hb hx)
  ·obtain⟨sl,e1⟩:=I.base.slot b o e n hb hx;exact⟨sl,(hs.2 b (qC8 (qC4 (qB8 e) (I.ok.cab x c hfn hc)))).trans e1⟩
  ·obtain⟨o',e1⟩:=I.base.there b o e hx;exact⟨o',(hs.2 b (qC8 (qC4 (qB8 e) (I.ok.cab x c hfn hc)))).trans e1⟩
  ·by_cases hj:j=i
   ·subst hj;rw[hi]at e1;cases e1;rw[qE2 hiσ]at e2;cases e2;exact⟨u,r,.inr ⟨.inl hk,c,hc,hc'⟩⟩
   ·rw[qF1 (Ne.symm hj)]at e2;obtain⟨u',r',q⟩:=hl j y v' e1 e2 e3;refine⟨u',r',?_⟩;rcases q with q|⟨k,c',e,z'⟩
    ·exact .inl q
    ·refine .inr ⟨k,c',e,z'.sameBut hs ?_⟩;rintro rfl;exact hj (zLC hN e1 (I.ok.inj _ _ _ e hc▸hi))
  ·by_cases hcc:c'=c
   ·subst hcc;exact⟨_,hc'⟩
   ·obtain⟨w2,z2⟩:=I.cell y c' e;exact⟨w2,z2.sameBut hs hcc⟩
  ·obtain⟨e,n,ne,nf,d⟩:=I.pin p hp;refine⟨(hs.2 p.1 ?_).trans e,n,ne,nf,d⟩;intro q;rw[q,hoc]at e;have q':oc=p.2:=Option.some.inj e;exact d w' (by rw[<- q'];exact hocd)
theorem zQd{M:Model}{A:Around}{E:yL}{i:Nat}{x:Str}{v:V}{u:Value}{Q:Unit->Shared->Prop}(I:Inv X pins σ H s)(hN:X.N.Nodup)(hi:X.N[i]?=some x)(hx:Loc X.env.scope x)(r:RelV v u)
  (h:∀s',Inv X pins (σ.set i (some v)) H s'->Q () s') (hf:X.fn x=true∨X.env.scope.names.lookup x=some .local:=by first|exact .inl rfl|exact .inr rfl|assumption):wpAny M A (storeName X.env x u) Q E s :=
 zNH I hN hi hx r (fun s' I' _=>h s' I') hf
theorem Inv.call'{s':Shared}{ch:yC}(I:Inv X pins σ H s)(ho:s'.os=s.os)(u:Un (frs X.stack) ch H H' s.heap s'.heap)(hok:HOk X.prog X.w H' s'.heap)(hg:AllBare s'.gens)
  (hch:∀b∈ch,(b∈X.ex∨X.s₀.heap.objs.size<=b)/\b≠X.env.locals/\(∀x c,X.env.cells.lookup x=some c->c≠b)/\∀p∈X.pn++pins,p.1≠b):Inv X pins σ H' s':=by obtain⟨h',g',d',t',o'⟩:=s';have e:o'=s.os:=ho;subst e;exact I.call (g':=g') (t':=t') (d':=d') u hok hg hch
end
noncomputable abbrev XK:=Value->Option Addr->Hp->Prop
noncomputable abbrev St:=List (Option V)
noncomputable abbrev VK:=V->Hp->Prop
noncomputable abbrev TE:=St->Hp->VK->Prop
noncomputable abbrev TT:=St->Hp->(Bool->Hp->Prop)->Prop
noncomputable abbrev TA:=St->Hp->(List V->Hp->Prop)->Prop
structure Ends where
 nx:St->Hp->Prop
 rt:VK
 bk:St->Hp->Prop:=fun _ _=>False
 ct:St->Hp->Prop:=fun _ _=>False
noncomputable abbrev TS:=Ends->St->Hp->Prop
inductive EP(X:Cx)(pins:yD)(σ:St)(Q:VK)(u:Value)(s':Shared):Prop
 |mk (v:V) (H':Hp) (I:Inv X pins σ H' s') (r:RelV v u) (q:Q v H')
inductive TP(X:Cx)(pins:yD)(σ:St)(Q:Bool->Hp->Prop)(b:Bool)(s':Shared):Prop
 |mk (H':Hp) (I:Inv X pins σ H' s') (q:Q b H')
inductive AP(X:Cx)(pins:yD)(σ:St)(Q:List V->Hp->Prop)(us:yB)(s':Shared):Prop
 |mk (vs:List V) (H':Hp) (I:Inv X pins σ H' s') (r:Vals vs us) (q:Q vs H')
def SP(X:Cx)(pins:yD)(D:Ends)(f:Flow)(s':Shared):Prop :=
 match f with
 |.next=>∃σ' H',Inv X pins σ' H' s'/\D.nx σ' H'
 |.brk=>∃σ' H',Inv X pins σ' H' s'/\D.bk σ' H'
 |.cont=>∃σ' H',Inv X pins σ' H' s'/\D.ct σ' H'
 |.ret u=>∃v σ' H',Inv X pins σ' H' s'/\RelV v u/\D.rt v H'
def PE(X:Cx)(e:Expr)(t:TE):Prop :=
 ∀(pins:yD) (s:Shared) (σ:St) (H:Hp) (Q:VK),Inv X pins σ H s->t σ H Q->wpAny (model X.prog X.w) X.A (eval e X.env) (EP X pins σ Q) X.xe s
def PT(X:Cx)(e:Expr)(t:TT):Prop :=
 ∀(pins:yD) (s:Shared) (σ:St) (H:Hp) (Q:Bool->Hp->Prop),Inv X pins σ H s->t σ H Q->wpAny (model X.prog X.w) X.A (isTrue e X.env (eval e X.env)) (TP X pins σ Q) X.xe s
def PW(X:Cx)(e:Expr)(t:TT):Prop :=
 ∀(whole:Sem Value) (pins:yD) (s:Shared) (σ:St) (H:Hp) (Q:Bool->Hp->Prop),Inv X pins σ H s->t σ H Q->wpAny (model X.prog X.w) X.A (isTrue e X.env whole) (TP X pins σ Q) X.xe s
theorem PW.pt{X:Cx}{e:Expr}{t:TT}(h:PW X e t):PT X e t:=h _
def PA(X:Cx)(es:yE)(t:TA):Prop :=
 ∀(pos:Pos) (pins:yD) (s:Shared) (σ:St) (H:Hp) (Q:List V->Hp->Prop),Inv X pins σ H s->t σ H Q->wpAny (model X.prog X.w) X.A (spliced (backTo pos (starEach es X.env))) (AP X pins σ Q) X.xe s
def PS(X:Cx)(st:Stmt)(t:TS):Prop :=
 ∀(pins:yD) (s:Shared) (σ:St) (H:Hp) (D:Ends),Inv X pins σ H s->t D σ H->wpAny (model X.prog X.w) X.A (exec st X.env) (SP X pins D) X.xe s
def PSs(X:Cx)(st:List Stmt)(t:TS):Prop :=
 ∀(pins:yD) (s:Shared) (σ:St) (H:Hp) (D:Ends),Inv X pins σ H s->t D σ H->wpAny (model X.prog X.w) X.A (execs st X.env) (SP X pins D) X.xe s
theorem thn{α:Type}{t:Sem α}{Q Q':α->Shared->Prop}{M:Model}{A:Around}{E:yL}{s:Shared}(h:wpAny M A t Q E s)(hQ:∀a s,Q a s->Q' a s):wpAny M A t Q' E s:=wpAny_mono h hQ fun _ _ x=>x
section
variable {X:Cx}
def tVar(i:Nat):TE:=fun σ H Q=>∃v,σ[i]?=some (some v)/\Q v H
def tC(v:V):TE:=fun _ H Q=>Q v H
theorem zVI{i:Nat}{x:Str}{pos:Pos}(hN:X.N[i]?=some x)(hv:Vis X.env.scope x)(hd:(x == ("__debug__":Str))=false:=by decide)(hcd:(x == ("__classdict__":Str))=false:=by decide):PE X (.Name x pos) (tVar i):=by
 intro pins s σ H Q I h;obtain⟨v,e,h⟩:=h;obtain⟨m,hn,hl⟩:=I.loc;obtain⟨u,r,l⟩:=hl i x v hN e hv;have fin:EP X pins σ Q u s:=⟨v,H,I,r,h⟩
 rcases l with⟨hk,hm⟩| ⟨hk,c,hc,hcell⟩
 ·exact wpAny_Name (wpAny_loadName_local I.ok.kind hk hn hm fin) hd
 ·rcases hk with hk|hk
  ·exact wpAny_Name (wpAny_loadName_cell I.ok.kind hk hc hcell fin) hd
  ·exact wpAny_Name (wpAny_loadName_free I.ok.kind hk hc hcell fin hcd) hd
theorem zVP{i j pos}:PE X (.Constant (.int i) j pos) (tC (.int i)):=fun _ _ _ H _ I h=>wpAny_Constant_int ⟨.int i,H,I.tok _,⟨_,rfl⟩,h⟩
theorem zYP{b j pos}:PE X (.Constant (.bool b) j pos) (tC (.bl b)):=fun _ _ _ H _ I h=>Constant_bool ⟨.bl b,H,I,rfl,h⟩
theorem zVN{j pos}:PE X (.Constant .none j pos) (tC .non):=fun _ _ _ H _ I h=>Constant_none ⟨.non,H,I,rfl,h⟩
theorem zVK{x j pos}:PE X (.Constant (.str x) j pos) (tC (.str x)):=fun _ _ _ H _ I h=>Calls.Constant_str ⟨.str x,H,I.tok _,⟨_,rfl⟩,h⟩
def Gl(X:Cx)(x:Str):Prop:=X.env.kindOf x=some .globalImplicit
theorem zTQ{E:yL}{pins:yD}{s:Shared}{σ:St}{H:Hp}{x:Str}{u:Value}{pos:Pos}{Q:yL}(I:Inv X pins σ H s)(hg:Gl X x)(hm:X.mg x=some u)(h:Q u s)
  (hd:(x == ("__debug__":Str))=false:=by decide):wpAny (model X.prog X.w) X.A (eval (.Name x pos) X.env) Q E s :=
 Calls.Name_function_global I.ok.kind hg (Calls.loadGlobal_global (by rw[I.ok.glob];exact I.mod.glob.keeps I.bk) hm h) hd
theorem zG9{E:yL}{pins:yD}{s:Shared}{σ:St}{H:Hp}{x:Str}{u:Value}{pos:Pos}{Q:yL}(I:Inv X pins σ H s)(hg:Gl X x)(hm:X.mg x=none)(hv:bootBuiltins x=some u)(h:Q u s)
  (hn:x ≠ "__name__":=by decide) (hd:(x == ("__debug__":Str))=false:=by decide):wpAny (model X.prog X.w) X.A (eval (.Name x pos) X.env) Q E s:=by obtain⟨mb,h1,h2⟩:=I.mod.blt;exact Calls.Name_function_global I.ok.kind hg (Calls.loadGlobal_builtin (by rw[I.ok.glob];exact I.mod.glob.keeps I.bk) hm (by rw[I.ok.blt];exact h1.keeps I.bk) ((h2 x hn).trans hv) h) hd
theorem zTy{x:Str}{v:V}{u:Value}{pos:Pos}(hg:Gl X x)(hm:X.mg x=none)(hv:bootBuiltins x=some u)(r:RelV v u)(hn:x ≠ "__name__":=by decide)(hd:(x == ("__debug__":Str))=false:=by decide):PE X (.Name x pos) (tC v) :=
 fun _ _ _ H _ I h=>zG9 I hg hm hv ⟨v,H,I,r,h⟩ hn hd
variable {a b:Expr}{ta tb:TE}{pos:Pos}
variable {tA tB':TT}{rest:yE}
def tAnd(t u:TT):TT:=fun σ H Q=>t σ H fun c H1=>if c=true then u σ H1 Q else Q false H1
def tOr(t u:TT):TT:=fun σ H Q=>t σ H fun c H1=>if c=true then Q true H1 else u σ H1 Q
def tNot(t:TT):TT:=fun σ H Q=>t σ H fun c H1=>Q (!c) H1
theorem zTg(ha:PT X a tA):PW X (.BoolOp .And [a] pos) tA:=by
 intro wh pins s σ H Q I h;refine isTrue_and (thn (ha pins s σ H Q I h) fun c s1 e=>?_);cases c with
 |true=>exact isTrue_and_nil e
 |false=>exact e
theorem zVz(ha:PT X a tA):PW X (.BoolOp .Or [a] pos) tA:=by
 intro wh pins s σ H Q I h;refine isTrue_or (thn (ha pins s σ H Q I h) fun c s1 e=>?_);cases c with
 |false=>exact isTrue_or_nil e
 |true=>exact e
theorem zVA(ha:PT X a tA)(hb:PW X (.BoolOp .And (b::rest) pos) tB'):PW X (.BoolOp .And (a::b::rest) pos) (tAnd tA tB'):=by
 intro wh pins s σ H Q I h;refine isTrue_and (thn (ha pins s σ H _ I h) fun c s1 ⟨H1,I1,q1⟩=>?_);cases c with
 |true=>exact hb wh pins s1 σ H1 Q I1 q1
 |false=>exact⟨H1,I1,q1⟩
theorem zYI(ha:PT X a tA)(hb:PW X (.BoolOp .Or (b::rest) pos) tB'):PW X (.BoolOp .Or (a::b::rest) pos) (tOr tA tB'):=by
 intro wh pins s σ H Q I h;refine isTrue_or (thn (ha pins s σ H _ I h) fun c s1 ⟨H1,I1,q1⟩=>?_);cases c with
 |true=>exact⟨H1,I1,q1⟩
 |false=>exact hb wh pins s1 σ H1 Q I1 q1
theorem zVB(ha:PT X a tA):PT X (.UnaryOp .Not a pos) (tNot tA):=by intro pins s σ H Q I h;exact isTrue_not (thn (ha pins s σ H (fun c H1=>Q (!c) H1) I h) fun c s' ⟨H',I',q⟩=>⟨H',I',q⟩)
def zYn(ta tb:TE):TE:=fun σ H Q=>ta σ H fun x H1=>∃c,x=.bl c/\if c=true then tb σ H1 Q else Q (.bl false) H1
def tOrV(ta tb:TE):TE:=fun σ H Q=>ta σ H fun x H1=>∃c,x=.bl c/\if c=true then Q (.bl true) H1 else tb σ H1 Q
def zYi(ta:TE):TE:=fun σ H Q=>ta σ H fun x H1=>∃c,x=.bl c/\Q (.bl (!c)) H1
theorem zVL{op}{t:TE}(h:PE X a t):PE X (.BoolOp op [a] pos) t:=fun pins s σ H Q I hw=>BoolOp_one (h pins s σ H Q I hw)
theorem zVQ(ha:PE X a ta)(hb:PE X (.BoolOp .And (b::rest) pos) tb):PE X (.BoolOp .And (a::b::rest) pos) (zYn ta tb):=by
 intro pins s σ H Q I h;refine BoolOp_and (thn (ha pins s σ H _ I h) fun v s1 ⟨x,H1,I1,r1,q1⟩=>?_);obtain⟨c,rfl,q1⟩:=q1;cases r1;refine wpAny_truthy_bool ?_;cases c with
 |true=>exact hb pins s1 σ H1 Q I1 q1
 |false=>exact⟨.bl false,H1,I1,rfl,q1⟩
theorem zYL(ha:PE X a ta)(hb:PE X (.BoolOp .Or (b::rest) pos) tb):PE X (.BoolOp .Or (a::b::rest) pos) (tOrV ta tb):=by
 intro pins s σ H Q I h;refine BoolOp_or (thn (ha pins s σ H _ I h) fun v s1 ⟨x,H1,I1,r1,q1⟩=>?_);obtain⟨c,rfl,q1⟩:=q1;cases r1;refine wpAny_truthy_bool ?_;cases c with
 |false=>exact hb pins s1 σ H1 Q I1 q1
 |true=>exact⟨.bl true,H1,I1,rfl,q1⟩
theorem zVM(ha:PE X a ta):PE X (.UnaryOp .Not a pos) (zYi ta):=by intro pins s σ H Q I h;refine UnaryOp_ (thn (ha pins s σ H _ I h) fun v s1 ⟨x,H1,I1,r1,q1⟩=>?_);obtain⟨c,rfl,q1⟩:=q1;cases r1;exact not_of (wpAny_truthy_bool ⟨.bl (!c),H1,I1,rfl,q1⟩)
def tIf(t:TT)(ta tb:TE):TE:=fun σ H Q=>t σ H fun c H1=>if c=true then ta σ H1 Q else tb σ H1 Q
theorem zQH{c:Expr}(hc:PT X c tA)(ha:PE X a ta)(hb:PE X b tb):PE X (.IfExp c a b pos) (tIf tA ta tb):=by
 intro pins s σ H Q I h;refine wpAny_IfExp (thn (hc pins s σ H _ I h) fun d s1 ⟨H1,I1,q1⟩=>?_);cases d with
 |true=>exact ha pins s1 σ H1 Q I1 q1
 |false=>exact hb pins s1 σ H1 Q I1 q1
end
def SqL(K:W.Frag)(H:Hp)(a:Addr)(xs:List V):Prop :=
 Rd H a (.lst xs) ∨
  ∃(o:Obj) (its:yJ) (n:Nat),K.lookup a=some o/\o.cls=.type "list"/\o.dict=none/\o.data=.seq its n/\its.size<=sizeLine/\Vals xs its.toList
def SqT(K:W.Frag)(H:Hp)(a:Addr)(xs:List V):Prop :=
 Rd H a (.tup xs) ∨
  ∃(o:Obj) (its:yJ) (n:Nat),K.lookup a=some o/\o.cls=.type "tuple"/\o.data=.seq its n/\its.size<=sizeLine/\Vals xs its.toList
noncomputable def absV:Value->Option V
 |.none=>some .non
 |.bool b=>some (.bl b)
 |.int i _=>some (.int i)
 |.str x _=>some (.str x)
 |.bytes b _=>some (.byt b)
 |.float b _=>some (.flt b)
 |.ref a=>some (.ref a)
 |.type n=>some (.ty n)
 |_=>none
theorem RelV.abs{x:V}{u:Value}(r:RelV x u):absV u=some x:=by
 cases x with
 |non=>cases r;rfl
 |bl _=>cases r;rfl
 |int _=>obtain⟨t,rfl⟩:=r;rfl
 |str _=>obtain⟨t,rfl⟩:=r;rfl
 |byt _=>obtain⟨t,rfl⟩:=r;rfl
 |flt _=>obtain⟨t,rfl⟩:=r;rfl
 |ref _=>cases r;rfl
 |ty _=>cases r;rfl
theorem RelV.inj{x y:V}{u:Value}(r:RelV x u)(q:RelV y u):x=y:=Option.some.inj (r.abs.symm.trans q.abs)
theorem Vals.inj:∀{xs ys:List V}{us:yB},Vals xs us->Vals ys us->xs=ys
 |_,_,_,.nil,.nil=>rfl
 |_,_,_,.cons r t,.cons r' t'=>by rw[r.inj r',Vals.inj t t']
section
variable {X:Cx}{pins:yD}{σ:St}{H:Hp}{s:Shared}{a:Addr}{xs ys:List V}
theorem SqL.of{K:W.Frag}(h:H a=some (.lst xs)):SqL K H a xs:=.inl (.inl h)
theorem SqT.of{K:W.Frag}(h:H a=some (.tup xs)):SqT K H a xs:=.inl (.inl h)
theorem Inv.list(I:Inv X pins σ H s)(h:SqL X.K H a xs):∃its:yB,Vals xs its/\PlainL s.heap a its.toArray/\xs.length<=sizeLine:=by
 rcases h with h|⟨o,its,n,hk,hc,hd,hs,hz,r⟩
 ·obtain⟨z,its,n,r,e⟩:=h.ok I.hok;exact⟨its,r,⟨_,n,e,rfl,rfl,rfl⟩,z⟩
 ·refine⟨its.toList,r,⟨o,n,I.kIn a o hk,hc,hd,by simpa using hs⟩,?_⟩;have e:=r.length;simp only[Array.length_toList]at e;omega
theorem Inv.tuple(I:Inv X pins σ H s)(h:SqT X.K H a xs):∃its:yB,Vals xs its/\IsTup s.heap a its.toArray/\xs.length<=sizeLine:=by
 rcases h with h|⟨o,its,n,hk,hc,hs,hz,r⟩
 ·obtain⟨z,its,r,p⟩:=h.ok I.hok;exact⟨its,r,p,z⟩
 ·refine⟨its.toList,r,⟨o,I.kIn a o hk,hc,n,by simpa using hs⟩,?_⟩;have e:=r.length;simp only[Array.length_toList]at e;omega
theorem Inv.list_inj(I:Inv X pins σ H s)(h:SqL X.K H a xs)(h':SqL X.K H a ys):xs=ys:=by
 obtain⟨its,r,⟨o,n,e,_,_,d⟩,_⟩:=I.list h;obtain⟨its',r',⟨o',n',e',_,_,d'⟩,_⟩:=I.list h';rw[e]at e';cases e';rw[d]at d';injection d' with d1 _;have:its=its':=by simpa using congrArg Array.toList d1
 subst this;exact r.inj r'
theorem Inv.tuple_inj(I:Inv X pins σ H s)(h:SqT X.K H a xs)(h':SqT X.K H a ys):xs=ys:=by
 obtain⟨its,r,⟨o,e,_,n,d⟩,_⟩:=I.tuple h;obtain⟨its',r',⟨o',e',_,n',d'⟩,_⟩:=I.tuple h';rw[e]at e';cases e';rw[d]at d';injection d' with d1 _;have:its=its':=by simpa using congrArg Array.toList d1
 subst this;exact r.inj r'
end
noncomputable abbrev Cx.wish(X:Cx)(E:yL):Cx:={ X with xe:=E }
noncomputable abbrev Cx.nox(X:Cx):Cx:=X.wish fun _ _=>False
theorem Cx.Ok.wish{X:Cx}(ok:X.Ok)(E:yL):(X.wish E).Ok :=
 ⟨ok.mod,ok.kind,ok.glob,ok.blt,ok.above,ok.inj,ok.has,ok.cab,ok.hd,ok.frames,ok.stk,ok.exf,ok.bs,ok.bsz,ok.noex,ok.exfs,ok.funs,ok.frf⟩
theorem Cx.Ok.unwish{X:Cx}{E:yL}(ok:(X.wish E).Ok):X.Ok :=
 ⟨ok.mod,ok.kind,ok.glob,ok.blt,ok.above,ok.inj,ok.has,ok.cab,ok.hd,ok.frames,ok.stk,ok.exf,ok.bs,ok.bsz,ok.noex,ok.exfs,ok.funs,ok.frf⟩
section
variable {X:Cx}{pins:yD}{σ:St}{H:Hp}{s:Shared}{E:yL}
theorem Inv.wish(I:Inv X pins σ H s)(E:yL):Inv (X.wish E) pins σ H s:=⟨I.ok.wish E,I.os,I.bare,I.base,I.loc,I.cell,I.free,I.freeC,I.pin,I.hok,I.len⟩
theorem Inv.unwish(I:Inv (X.wish E) pins σ H s):Inv X pins σ H s:=⟨I.ok.unwish,I.os,I.bare,I.base,I.loc,I.cell,I.free,I.freeC,I.pin,I.hok,I.len⟩
theorem SP.unwish{D:Ends}{f:Flow}{s':Shared}(h:SP (X.wish E) pins D f s'):SP X pins D f s':=by
 cases f with
 |next=>obtain⟨σ',H',I,q⟩:=h;exact⟨σ',H',I.unwish,q⟩
 |brk=>obtain⟨σ',H',I,q⟩:=h;exact⟨σ',H',I.unwish,q⟩
 |cont=>obtain⟨σ',H',I,q⟩:=h;exact⟨σ',H',I.unwish,q⟩
 |ret u=>obtain⟨v,σ',H',I,r,q⟩:=h;exact⟨v,σ',H',I.unwish,r,q⟩
theorem PSs.nox{st:List Stmt}{t:TS}(h:PSs X.nox st t):PSs X st t:=fun pins s σ H D I hw =>
 wpAny_mono (h pins s σ H D (I.wish _) hw) (fun _ _ q=>q.unwish) fun _ _ z=>False.elim z
end
section
variable {X:Cx}{st:Stmt}{rest:List Stmt}{t u:TS}{e:Expr}{te:TE}{pos:Pos}
def zUX:TS:=fun D σ H=>D.nx σ H
def tSeq(t u:TS):TS:=fun D σ H=>t { D with nx:=u D } σ H
theorem zTk:PSs X [] zUX:=fun _ _ σ H _ I h=>wpAny_execs_nil ⟨σ,H,I,h⟩
theorem zQw(h1:PS X st t)(h2:PSs X rest u):PSs X (st::rest) (tSeq t u):=by
 intro pins s σ H D I h;refine wpAny_execs_cons (thn (h1 pins s σ H { D with nx:=u D } I h) fun f s1 q=>?_);cases f with
 |next =>
  obtain⟨σ',H',I',q⟩:=q;exact h2 pins s1 σ' H' D I' q
 |ret v=>exact q
 |brk=>exact q
 |cont=>exact q
def zV1:TS:=fun D σ H=>D.bk σ H
def zYl:TS:=fun D σ H=>D.ct σ H
theorem zTn:PS X (.Pass pos) zUX:=fun _ _ σ H _ I h=>wpAny_Pass ⟨σ,H,I,h⟩
theorem zQz:PS X (.Break pos) zV1:=fun _ _ σ H _ I h=>wpAny_Break ⟨σ,H,I,h⟩
theorem zKd:PS X (.Continue pos) zYl:=fun _ _ σ H _ I h=>wpAny_Continue ⟨σ,H,I,h⟩
theorem Inv.quiet{pins:yD}{σ:St}{H:Hp}{s:Shared}(I:Inv X pins σ H s):interactive X.env=false:=by simp[interactive,I.ok.kind]
def zYj(te:TE):TS:=fun D σ H=>te σ H fun _ H1=>D.nx σ H1
theorem zTo(he:PE X e te)(hs:swapsWith e none pos.line X.env=pure false:=by rfl):PS X (.Expr e pos) (zYj te):=by intro pins s σ H D I h;exact wpAny_Expr_any (thn (he pins s σ H _ I h) fun v s1 ⟨x,H1,I1,r1,q1⟩=>⟨σ,H1,I1,q1⟩) I.quiet hs
def tRet(te:TE):TS:=fun D σ H=>te σ H D.rt
theorem zVC(he:PE X e te):PS X (.Return (some e) pos) (tRet te):=by intro pins s σ H D I h;exact wpAny_Return_some (thn (he pins s σ H _ I h) fun v s1 ⟨x,H1,I1,r1,q1⟩=>⟨x,σ,H1,I1,r1,q1⟩)
def zYg:TS:=fun D _ H=>D.rt .non H
theorem zTm:PS X (.Return none pos) zYg:=fun _ _ σ H _ I h=>wpAny_Return_none ⟨.non,σ,H,I,rfl,h⟩
def tIfS(c:TT)(t u:TS):TS:=fun D σ H=>c σ H fun b H1=>if b=true then t D σ H1 else u D σ H1
theorem zYJ{c:Expr}{a b:List Stmt}{tc:TT}(hc:PT X c tc)(ha:PSs X a t)(hb:PSs X b u):PS X (.If c a b pos) (tIfS tc t u):=by
 intro pins s σ H D I h;refine wpAny_If (thn (hc pins s σ H _ I h) fun d s1 ⟨H1,I1,q1⟩=>?_);cases d with
 |true=>exact ha pins s1 σ H1 D I1 q1
 |false=>exact hb pins s1 σ H1 D I1 q1
def zUY:TS:=fun _ _ _=>False
theorem zQy:PS X st zUY:=fun _ _ _ _ _ _ h=>h.elim
end
noncomputable abbrev TG:=V->St->Hp->(St->Hp->Prop)->Prop
noncomputable abbrev TGs:=List V->St->Hp->(St->Hp->Prop)->Prop
def PG(X:Cx)(target:Expr)(t:TG):Prop :=
 ∀(pins:yD) (s:Shared) (σ:St) (H:Hp) (v:V) (u:Value) (Q:St->Hp->Prop),Inv X pins σ H s->RelV v u->t v σ H Q ->
  wpAny (model X.prog X.w) X.A (assign target X.env u) (fun _ s'=>∃σ' H',Inv X pins σ' H' s'/\Q σ' H') X.xe s
def PGs(X:Cx)(ts:yE)(t:TGs):Prop :=
 ∀(pins:yD) (s:Shared) (σ:St) (H:Hp) (vs:List V) (us:yB) (Q:St->Hp->Prop),Inv X pins σ H s->Vals vs us->t vs σ H Q ->
  wpAny (model X.prog X.w) X.A (assignInOrder ((assignEach ts X.env).map (·.2)) us) (fun _ s'=>∃σ' H',Inv X pins σ' H' s'/\Q σ' H') X.xe s
noncomputable abbrev TSet:=V->V->V->Hp->(Hp->Prop)->Prop
def PSet(X:Cx)(t:TSet):Prop :=
 ∀(pins:yD) (s:Shared) (σ:St) (H:Hp) (o i v:V) (ov iv u:Value) (Q:Hp->Prop),Inv X pins σ H s->RelV o ov->RelV i iv->RelV v u->t o i v H Q ->
  wpAny (model X.prog X.w) X.A (setItem ov iv u) (fun _ s'=>∃H',Inv X pins σ H' s'/\Q H') X.xe s
section
variable {X:Cx}{pos:Pos}
def zKC(i:Nat):TG:=fun v σ H Q=>Q (σ.set i (some v)) H
theorem zHT{i:Nat}{x:Str}(hN:X.N.Nodup)(hi:X.N[i]?=some x)(hx:Loc X.env.scope x)(hf:X.fn x=true∨X.env.scope.names.lookup x=some .local:=by first|exact .inl rfl|exact .inr rfl|assumption):PG X (.Name x pos) (zKC i):=by intro pins s σ H v u Q I r h;exact wpAny_assign_Name (zQd I hN hi hx r (fun s' I'=>⟨_,H,I',h⟩) hf)
def gNil:TGs:=fun vs σ H Q=>vs=[]/\Q σ H
def zWV(t:TG)(u:TGs):TGs:=fun vs σ H Q=>∃v r,vs=v::r/\t v σ H fun σ' H'=>u r σ' H' Q
theorem zO6:PGs X [] gNil:=by intro pins s σ H vs us Q I r h;obtain⟨e,h⟩:=h;subst e;cases r;exact assignInOrder_nil ⟨σ,H,I,h⟩
theorem zLu{e:Expr}{es:yE}{t:TG}{u:TGs}(h1:PG X e t)(h2:PGs X es u)
  (hs:(assignEach (e::es) X.env).map (·.2)=assign e X.env::(assignEach es X.env).map (·.2):=by rfl):PGs X (e::es) (zWV t u):=by
 intro pins s σ H vs us Q I r h;obtain⟨v,vr,e1,h⟩:=h;subst e1;cases r with
 |cons r rr =>
  rw[hs];refine assignInOrder_cons (thn (h1 pins s σ H _ _ _ I r h) fun _ s1 ⟨σ1,H1,I1,q1⟩=>?_);exact h2 pins s1 σ1 H1 _ _ Q I1 rr q1
def gTup(K:W.Frag)(n:Nat)(t:TGs):TG:=fun v σ H Q=>∃a xs,v=.ref a/\SqT K H a xs/\xs.length=n/\t xs σ H Q
theorem zS4{es:yE}{k:Nat}{t:TGs}{n:Nat}(hc:X.calm=true)(h:PGs X es t)
  (hn:(assignEach es X.env).length=n:=by rfl) (hst:(assignEach es X.env).findIdx? (·.1)=none:=by rfl):PG X (.Tuple es k pos) (gTup X.K n t):=by intro pins s σ H v u Q I r hw;obtain⟨a,xs,e1,hq,hl,hw⟩:=hw;subst e1;cases r;obtain⟨its,rv,ht,hz⟩:=I.tuple hq;refine assign_Tuple_tuple (I.ok.hd hc) ht (by simp[hn,<- hl,rv.length]) hst fun h' hx=>?_;have I1:Inv X pins σ H { s with heap:=h' }:=I.kept (t':=s.toks) fun b o e=>hx b o (qC8 (qB8 e)) e;exact h pins _ σ H xs _ Q I1 (by simpa using rv) hw
def gSub(to ti:TE)(t:TSet):TG:=fun v σ H Q=>to σ H fun o H1=>ti σ H1 fun i H2=>t o i v H2 fun H3=>Q σ H3
theorem zVH{o i:Expr}{to ti:TE}{t:TSet}(ho:PE X o to)(hi:PE X i ti)(hs:PSet X t)
  (ha:∀v,assign (.Subscript o i pos) X.env v=(do
   let ov <- holding [v] (eval o X.env)
   let iv <- holding [v,ov] (eval i X.env)
   standAt pos
   holding [v,ov,iv] (setItem ov iv v)
   release [v,ov,iv] []):=by intro _;rfl):PG X (.Subscript o i pos) (gSub to ti t):=by intro pins s σ H v u Q I r h;rw[ha];refine wpAny_bind (wpAny_holding (thn (ho pins s σ H _ I h) fun ov s1 ⟨x,H1,I1,r1,q1⟩=>?_));refine wpAny_bind (wpAny_holding (thn (hi pins s1 σ H1 _ I1 q1) fun iv s2 ⟨y,H2,I2,r2,q2⟩=>?_));refine wpAny_bind (wpAny_standAt (wpAny_bind (wpAny_holding (thn (hs pins s2 σ H2 x y v ov iv u _ I2 r1 r2 r q2) fun _ s3 ⟨H3,I3,q3⟩=>?_))));exact wpAny_release ⟨σ,H3,I3,q3⟩
def tAsg(te:TE)(g:TG):TS:=fun D σ H=>te σ H fun x H1=>g x σ H1 D.nx
theorem zVE{tg e:Expr}{te:TE}{g:TG}(he:PE X e te)(hg:PG X tg g)(hs:swapsWithSole [tg] e pos.line X.env=pure false:=by rfl)(hw:swappedStores [tg] e X.env=pure none:=by rfl)
  (h1:(assignEach [tg] X.env).map (·.2)=[assign tg X.env]:=by rfl):PS X (.Assign [tg] e pos) (tAsg te g):=by intro pins s σ H D I h;refine wpAny_Assign_stores (thn (he pins s σ H _ I h) fun v s1 ⟨x,H1,I1,r1,q1⟩=>?_) hs hw;rw[h1];exact thn (hg pins s1 σ H1 x v _ I1 r1 q1) fun _ s2 q=>q
end
section
variable {X:Cx}{pos:Pos}
def zUW(c:TT)(tb:TS):TS:=fun D σ H=>∃W:Nat->St->Hp->Prop,(∃m,W m σ H)/\∀m σ H,W m σ H ->
 c σ H fun b H1=>if b=true then ∃N:St->Hp->Prop,(∀σ' H',N σ' H'->∃m',m'<m/\W m' σ' H')/\tb { D with nx:=N,ct:=N,bk:=D.nx } σ H1 else D.nx σ H1
theorem zQx{c:Expr}{body:List Stmt}{tc:TT}{tb:TS}(hp:PassesOwn (model X.prog X.w) X.A X.env X.xe)(hc:PT X c tc)(hb:PSs X body tb):PS X (.While c body [] pos) (zUW tc tb):=by
 intro pins s σ H D I h;obtain⟨W,⟨m0,w0⟩,turn⟩:=h;refine wpAny_While (codeAny_whileLoop (fun n s'=>∃σ' H',Inv X pins σ' H' s'/\W n σ' H') ?_ m0 ⟨σ,H,I,w0⟩);rintro n s1 ⟨σ1,H1,I1,w1⟩;refine wpAny_passesOwn hp (thn (hc pins s1 σ1 H1 _ I1 (turn n σ1 H1 w1)) fun b s2 ⟨H2,I2,q2⟩=>?_);cases b with
 |true =>
  obtain⟨N,hN,q2⟩:=q2;rw[if_pos rfl];refine wpAny_passesOwn hp (thn (hb pins s2 σ1 H2 _ I2 q2) fun f s3 q3=>?_);cases f with
  |next =>
   obtain⟨σ3,H3,I3,n3⟩:=q3;obtain⟨m',hm,w3⟩:=hN σ3 H3 n3;exact⟨m',hm,σ3,H3,I3,w3⟩
  |cont =>
   obtain⟨σ3,H3,I3,n3⟩:=q3;obtain⟨m',hm,w3⟩:=hN σ3 H3 n3;exact⟨m',hm,σ3,H3,I3,w3⟩
  |brk=>exact q3
  |ret v=>exact q3
 |false =>
  rw[if_neg qB0];exact wpAny_execs_nil ⟨σ1,H2,I2,q2⟩
end
structure It where
 go:Nat->Hp->Prop
 yld:Nat->Hp->V->Hp->Prop
 stop:Nat->Hp->Prop
def FpOk(X:Cx)(pins:yD)(H:Hp)(b:Addr):Prop :=
 H b=none/\b≠X.env.locals/\b∉X.fs/\(b∈X.ex∨X.s₀.heap.objs.size<=b)/\(∀x c,X.env.cells.lookup x=some c->c≠b)/\∀p∈X.pn++pins,p.1≠b
theorem Inv.fpOk{X:Cx}{pins:yD}{σ:St}{H H':Hp}{s:Shared}{b:Addr}(I:Inv X pins σ H s)(hb:s.heap.objs.size<=b)(hn:H' b=none):FpOk X pins H' b:=by
 refine⟨hn,qJ3 (qC4 I.lt hb),I.nofs hb,.inr (qD3 I.sz hb),fun x c e z=>?_,fun p hp z=>?_⟩
 ·obtain⟨v,q⟩:=I.cell x c e;exact absurd (qC4 q.lt (by rw[z];exact hb)) (qH9 _)
 ·exact absurd (qC4 (qB8 (I.pin p hp).1) (by rw[z];exact hb)) (qH9 _)
structure Turn(P:Program)(w:World)(K:W.Frag)(tg:Expr)(J:It)(fp:yC)(it:Addr)(tn:Nat->Heap->Prop):Prop where
 mem:it∈fp
 obj:∀i h,tn i h->∀b∈fp,∃o,h.get? b=some o/\∀v,o.data≠.cell v
 keep:∀i h h',tn i h->(∀b∈fp,∀o,h.get? b=some o->h'.get? b=some o)->tn i h'
 item:∀(X:Cx),X.prog=P->X.w=w->X.K=K->X.calm=true->∀(i:Nat) (pins:yD) (s:Shared) (σ:St) (H:Hp) (E:yL),Inv X pins σ H s->(∀b∈fp,FpOk X pins H b)->tn i s.heap->J.go i H ->
  wpAny (model P w) X.A (pyNext (.ref it)) (fun r s1=>∃u,r=some u /\
   wpAny (model P w) X.A (letOwnedTupleGo tg (.ref it) u) (fun _ s2=>∃x H',Inv X pins σ H' s2/\RelV x u/\J.yld i H x H'/\tn (i+1) s2.heap/\∀b∈fp,H' b=none) E s1) E s
 done:∀(X:Cx),X.prog=P->X.w=w->X.K=K->X.calm=true->∀(i:Nat) (pins:yD) (s:Shared) (σ:St) (H:Hp) (E:yL),Inv X pins σ H s->(∀b∈fp,FpOk X pins H b)->tn i s.heap->J.stop i H ->
  wpAny (model P w) X.A (pyNext (.ref it)) (fun r s1=>r=none/\Inv X pins σ H s1) E s
 self:∀(A:Around) (i:Nat) (s:Shared) (Q:yL) (E:yL),tn i s.heap->Q (.ref it) s->wpAny (model P w) A (pyIter (.ref it)) Q E s
noncomputable abbrev TI:=St->Hp->(It->Hp->Prop)->Prop
inductive PIE(X:Cx)(pins:yD)(σ:St)(tg:Expr)(R:It->Hp->Prop)(itv:Value)(s2:Shared):Prop
 |mk (it:Addr) (fp:yC) (tn:Nat->Heap->Prop) (J:It) (H':Hp) (e:itv=.ref it) (I:Inv X pins σ H' s2) (T:Turn X.prog X.w X.K tg J fp it tn) (t0:tn 0 s2.heap) (f:∀b∈fp,FpOk X pins H' b) (r:R J H')
def PI(X:Cx)(tg iter:Expr)(wi:TI):Prop :=
 ∀(pins:yD) (s:Shared) (σ:St) (H:Hp) (R:It->Hp->Prop),Inv X pins σ H s->wi σ H R ->
  wpAny (model X.prog X.w) X.A (eval iter X.env) (fun v s1=>wpAny (model X.prog X.w) X.A (pyIter v) (PIE X pins σ tg R) X.xe s1) X.xe s
theorem zUb{M:Model}{A:Around}{E:yL}{s:Shared}{tg:Expr}{it:Addr}{u:Value}{o:Obj}{n:String}{vs:yJ}{Q:Unit->Shared->Prop}(ho:s.heap.get? it=some o)(hc:o.cls=.type n)(hd:o.data=.fields vs)
    (hn:["enumerate","zip","dict_itemiterator","dict_reverseitemiterator","odict_iterator","itertools.zip_longest","itertools.pairwise"].contains n=false) (hQ:Q () s):wpAny M A (letOwnedTupleGo tg (.ref it) u) Q E s:=by
  unfold letOwnedTupleGo;cases tg<;>first
    |exact wpAny_pure hQ
    | (cases u<;>first
        |exact wpAny_pure hQ
        | (refine wpAny_bind (wpAny_load ho ?_)
           rw[hc,hd];show wpAny M A (if(["enumerate","zip","dict_itemiterator","dict_reverseitemiterator","odict_iterator","itertools.zip_longest","itertools.pairwise"].contains n&&vs[0]? == some (rawInt _))=true then _ else _) Q E s;rw[if_neg (by intro h;rw[hn,qP3]at h;cases h)];exact wpAny_pure hQ))
noncomputable def Itl(K:W.Frag)(a:Addr):It :=
 ⟨fun i H=>∃xs x,SqL K H a xs/\xs[i]?=some x,fun i H x H'=>H'=H/\∀xs,SqL K H a xs->xs[i]?=some x,fun i H=>∃xs,SqL K H a xs/\xs.length<=i⟩
noncomputable def Itt(K:W.Frag)(a:Addr):It :=
 ⟨fun i H=>∃xs x,SqT K H a xs/\xs[i]?=some x,fun i H x H'=>H'=H/\∀xs,SqT K H a xs->xs[i]?=some x,fun i H=>∃xs,SqT K H a xs/\xs.length<=i⟩
noncomputable def Itr(lo:Int)(n:Nat):It:=⟨fun i _=>i<n,fun i H x H'=>H'=H/\x=.int (lo+i),fun i _=>n<=i⟩
theorem zNx{P:Program}{w:World}{K:W.Frag}{tg:Expr}(a it:Addr):Turn P w K tg (Itl K a) [it] it (fun i h=>h.IsListIter it a i) where
 mem:=by simp
 obj:=fun i h st b hb=>by
  have e:b=it:=by simpa using hb
  subst e;obtain⟨o,e,c,d⟩:=st;exact⟨o,e,fun v z=>by rw[d]at z;cases z⟩
 keep:=fun i h h' st k=>st.at fun o e=>k it (by simp) o e
 item:=by intro X hP hw hK hc i pins s σ H E I hf st hg;subst hP hw hK;obtain⟨xs,x,hq,hx⟩:=hg;obtain⟨its,rv,p,hz⟩:=I.list hq;obtain⟨u,hu,ru⟩:=rv.get hx;obtain⟨f0,f1,f2,f3,f4,f5⟩:=hf it (by simp);refine wpAny_pyNext_list_item st p.isList (x:=u) (by simpa using hu) fun h' st' sb=>?_;have I1:Inv X pins σ H { s with heap:=h' }:=I.turned (t':=s.toks) (fun b o hb e=>(sb.2 b hb).trans e) f0 f1 f3 f4 f5;obtain⟨o,e,c,d⟩:=id st';exact⟨u,rfl,zUb (s:={ s with heap:=h' }) e c d (by decide) ⟨x,H,I1,ru,⟨rfl,fun ys hy=>by rw[I.list_inj hy hq];exact hx⟩,st',fun b hb=>(hf b hb).1⟩⟩
 done:=by intro X hP hw hK hc i pins s σ H E I hf st hg;subst hP hw hK;obtain⟨xs,hq,hx⟩:=hg;obtain⟨its,rv,p,hz⟩:=I.list hq;obtain⟨f0,f1,f2,f3,f4,f5⟩:=hf it (by simp);have hl:=rv.length;exact wpAny_pyNext_list_end (I.ok.hd hc) st p.isList (by simp;omega) fun h' eb=>⟨rfl,I.turned (t':=s.toks) (fun b o hb e=>eb b o hb e) f0 f1 f3 f4 f5⟩
 self:=fun _ _ _ _ _ st h=>wpAny_pyIter_listiter st h
theorem zMc{P:Program}{w:World}{K:W.Frag}{tg:Expr}(a it:Addr):Turn P w K tg (Itt K a) [it] it (fun i h=>h.IsTupleIter it a i) where
 mem:=by simp
 obj:=fun i h st b hb=>by
  have e:b=it:=by simpa using hb
  subst e;obtain⟨o,e,c,d⟩:=st;exact⟨o,e,fun v z=>by rw[d]at z;cases z⟩
 keep:=fun i h h' st k=>st.at fun o e=>k it (by simp) o e
 item:=by intro X hP hw hK hc i pins s σ H E I hf st hg;subst hP hw hK;obtain⟨xs,x,hq,hx⟩:=hg;obtain⟨its,rv,p,hz⟩:=I.tuple hq;obtain⟨u,hu,ru⟩:=rv.get hx;obtain⟨f0,f1,f2,f3,f4,f5⟩:=hf it (by simp);refine wpAny_pyNext_tuple_item st (show s.heap.IsTuple a its.toArray from p) (x:=u) (by simpa using hu) fun h' st' sb=>?_;have I1:Inv X pins σ H { s with heap:=h' }:=I.turned (t':=s.toks) (fun b o hb e=>(sb.2 b hb).trans e) f0 f1 f3 f4 f5;obtain⟨o,e,c,d⟩:=id st';exact⟨u,rfl,zUb (s:={ s with heap:=h' }) e c d (by decide) ⟨x,H,I1,ru,⟨rfl,fun ys hy=>by rw[I.tuple_inj hy hq];exact hx⟩,st',fun b hb=>(hf b hb).1⟩⟩
 done:=by intro X hP hw hK hc i pins s σ H E I hf st hg;subst hP hw hK;obtain⟨xs,hq,hx⟩:=hg;obtain⟨its,rv,p,hz⟩:=I.tuple hq;obtain⟨f0,f1,f2,f3,f4,f5⟩:=hf it (by simp);have hl:=rv.length;exact wpAny_pyNext_tuple_end (I.ok.hd hc) st (show s.heap.IsTuple a its.toArray from p) (by simp;omega) fun h' eb=>⟨rfl,I.turned (t':=s.toks) (fun b o hb e=>eb b o hb e) f0 f1 f3 f4 f5⟩
 self:=fun _ _ _ _ _ st h=>wpAny_pyIter_tupleiter st h
theorem zMd{P:Program}{w:World}{K:PySem.W.Frag}{tg:Expr}(it:Addr)(lo:Int)(n:Nat):Turn P w K tg (Itr lo n) [it] it (fun i h=>IsRangeIter h it (lo+(i:Nat)*1) ((n:Int) - (i:Nat)) 1) where
 mem:=by simp
 obj:=fun i h st b hb=>by
  have e:b=it:=by simpa using hb
  subst e;exact⟨_,st,fun v z=>by
   have z':Data.fields _=Data.cell v:=z;cases z'⟩
 keep:=fun i h h' st k=>k it (by simp) _ st
 item:=by intro X hP hw hK hc i pins s σ H E I hf st hg;subst hP hw hK;obtain⟨f0,f1,f2,f3,f4,f5⟩:=hf it (by simp);have W:=Walks.range (prog:=X.prog) (w:=X.w) (I.ok.hd hc) it lo 1 n;refine W.item i s _ _ hg st fun v h' tk hv st' kk=>?_;obtain⟨t,rfl⟩:=hv;have I1:Inv X pins σ H { s with heap:=h',toks:=tk }:=I.turned (fun b o hb e=>kk b o (by simpa using hb) e) f0 f1 f3 f4 f5;refine⟨_,rfl,zUb (s:={ s with heap:=h',toks:=tk }) (n := "range_iterator") st' rfl rfl (by decide) ⟨.int (lo+i),H,I1,⟨t,?_⟩,⟨rfl,rfl⟩,st',fun b hb=>(hf b hb).1⟩⟩;rw[Int.mul_one]
 done:=by intro X hP hw hK hc i pins s σ H E I hf st hg;subst hP hw hK;obtain⟨f0,f1,f2,f3,f4,f5⟩:=hf it (by simp);exact wpAny_pyNext_range_end (I.ok.hd hc) st (by have:n<=i:=hg;omega) fun h' eb=>⟨rfl,I.turned (t':=s.toks) (fun b o hb e=>eb b o hb e) f0 f1 f3 f4 f5⟩
 self:=fun _ _ _ _ _ st h=>wpAny_pyIter_rangeiter st h
section
variable {X:Cx}{tg:Expr}
theorem zLt{pins:yD}{σ:St}{H:Hp}{s:Shared}{R:It->Hp->Prop}{E:yL}{lo hi:Int}{t u v:Tok}{tk:Nat}(I:Inv X pins σ H s)(h1:-(2 ^ 62)<=lo)(h2:lo<2 ^ 62)(h3:-(2 ^ 62)<=hi)(h4:hi<2 ^ 62)
  (q:R (Itr lo (hi - lo).toNat) H):wpAny (model X.prog X.w) X.A (pyIter (.ref s.heap.objs.size)) (PIE X pins σ tg R) E { s with heap:=s.heap.push { cls:=.type "range",data:=.fields #[.int lo t,.int hi u,.int 1 v] },toks:=tk }:=by
 refine wpAny_pyIter_range (IsRange.new ..) (small_one h1 h2 h3 h4) ?_;have I1:Inv X pins σ H { s with heap:=s.heap.push { cls:=.type "range",data:=.fields #[.int lo t,.int hi u,.int 1 v] },toks:=tk }:=I.kept fun b o e=>qA6 _ e;refine⟨(s.heap.push { cls:=.type "range",data:=.fields #[.int lo t,.int hi u,.int 1 v] }).objs.size,[(s.heap.push { cls:=.type "range",data:=.fields #[.int lo t,.int hi u,.int 1 v] }).objs.size],_,_,H,rfl,
  I1.kept (t':=tk) fun b o e=>qA6 _ e,zMd _ lo (hi - lo).toNat,?_,fun b hb=>?_,q⟩
 ·have e1:lo+((0:Nat):Int)*1=lo:=by simp
  have e2:(((hi - lo).toNat:Nat):Int) - ((0:Nat):Int)=Builtin.Range.rangeSize lo hi 1:=by rw[rangeSize_one];split<;>omega
  show IsRangeIter _ _ (lo+((0:Nat):Int)*1) ((((hi - lo).toNat:Nat):Int) - ((0:Nat):Int)) 1;rw[e1,e2];exact qB7 _ rfl
 ·have e:b=(s.heap.push { cls:=.type "range",data:=.fields #[.int lo t,.int hi u,.int 1 v] }).objs.size:=by simpa using hb
  subst e;exact I1.fpOk (qB1 _) (I1.hok.fresh (qB1 _))
def zWQ(ta:TA):TI:=fun σ H R=>ta σ H fun vs H1=>∃j:Int,vs=[.int j]/\-(2 ^ 62)<=j/\j<2 ^ 62/\R (Itr 0 j.toNat) H1
def zWP(ta:TA):TI:=fun σ H R=>ta σ H fun vs H1=>∃i j:Int,vs=[.int i,.int j]/\(-(2 ^ 62)<=i/\i<2 ^ 62/\-(2 ^ 62)<=j/\j<2 ^ 62)/\R (Itr i (j - i).toNat) H1
theorem zO5{a:Expr}{ta:TA}{p pos:Pos}(hg:Gl X "range")(hm:X.mg "range"=none)(ha:PA X [a] ta)(hs:starEach [a] X.env=[(false,eval a X.env)]:=by rfl):PI X tg (.Call (.Name "range" p) [a] [] pos) (zWQ ta):=by
 intro pins s σ H R I h;refine Call_ (zG9 I hg hm boot_range (PyProof.Rows.callWith_type1 (thn (ha pos pins s σ H _ I h) fun us s1 ⟨vs,H1,I1,r1,q1⟩=>?_) hs rfl));obtain⟨j,e,q1,q2,q⟩:=q1;subst e;cases r1 with
 |cons r rr =>
  cases rr;obtain⟨t,rfl⟩:=r;exact call_range_1 (zLt I1 (by omega) (by omega) q1 q2 (by simpa using q))
theorem zO4{a b:Expr}{ta:TA}{p pos:Pos}(hg:Gl X "range")(hm:X.mg "range"=none)(ha:PA X [a,b] ta)(hs:starEach [a,b] X.env=[(false,eval a X.env),(false,eval b X.env)]:=by rfl)(hs2:starEach [b] X.env=[(false,eval b X.env)]:=by rfl):
  PI X tg (.Call (.Name "range" p) [a,b] [] pos) (zWP ta):=by
 intro pins s σ H R I h;refine Call_ (zG9 I hg hm boot_range (PyProof.Rows.callWith_type1 (thn (ha pos pins s σ H _ I h) fun us s1 ⟨vs,H1,I1,r1,q1⟩=>?_) (by rw[hs,hs2]) (by rw[hs2];rfl)));obtain⟨i,j,e,⟨q1,q2,q3,q4⟩,q⟩:=q1;subst e;cases r1 with
 |cons r rr =>
  cases rr with
  |cons r' rr =>
   cases rr;obtain⟨t,rfl⟩:=r;obtain⟨t',rfl⟩:=r';exact call_range_2 (zLt I1 q1 q2 q3 q4 q)
def tFor(wi:TI)(g:TG)(tb:TS):TS:=fun D σ H=>wi σ H fun J H1=>∃W:Nat->Nat->St->Hp->Prop,(∃m,W 0 m σ H1)/\∀i m σ H,W i m σ H ->
 (J.stop i H/\D.nx σ H)∨(J.go i H/\∃N:St->Hp->Prop,(∀σ' H',N σ' H'->∃m',m'<m/\W (i+1) m' σ' H')/\∀x H',J.yld i H x H'->g x σ H' fun σ2 H2=>tb { D with nx:=N,ct:=N,bk:=D.nx } σ2 H2)
noncomputable def zJ3(fp:yC)(h:Heap):yD:=fp.filterMap fun b=>(h.get? b).map fun o=>(b,o)
theorem zCK{fp:yC}{h:Heap}{b:Addr}{o:Obj}(hb:b∈fp)(e:h.get? b=some o):(b,o)∈zJ3 fp h:=qE5.mpr ⟨b,hb,by rw[e];rfl⟩
theorem zOf{fp:yC}{h:Heap}{p:Addr×Obj}(hp:p∈zJ3 fp h):p.1∈fp/\h.get? p.1=some p.2:=by
 obtain⟨b,hb,e⟩:=qE5.mp hp;cases q:h.get? b with
 |none=>rw[q]at e;cases e
 |some o =>
  rw[q]at e;have e':(b,o)=p:=Option.some.inj e;subst e';exact⟨hb,q⟩
theorem Inv.pinned{pins:yD}{σ:St}{H:Hp}{s:Shared}{fp:yC}(I:Inv X pins σ H s)(hf:∀b∈fp,FpOk X pins H b)(ho:∀b∈fp,∃o,s.heap.get? b=some o/\∀v,o.data≠.cell v):Inv X (pins++zJ3 fp s.heap) σ H s :=
 I.pins_of fun p hp=>(qB2.mp hp).elim (fun z=>I.pin p (qC3 _ z)) fun z=>by obtain⟨hb,e⟩:=zOf z;obtain⟨f0,f1,f2,_⟩:=hf p.1 hb;obtain⟨o,e',d⟩:=ho p.1 hb;rw[e]at e';cases e';exact⟨e,f0,f1,f2,d⟩
theorem Inv.unpinned{pins pl:yD}{σ:St}{H:Hp}{s:Shared}(I:Inv X (pins++pl) σ H s):Inv X pins σ H s:=I.pins_of fun p hp=>I.pin p (qC3 _ (qC7 _ hp))
theorem zVD{iter:Expr}{body:List Stmt}{wi:TI}{g:TG}{tb:TS}{pos:Pos}(hp:PassesOwn (model X.prog X.w) X.A X.env X.xe)(hc:X.calm=true)(hi:PI X tg iter wi)(hg:PG X tg g)(hb:PSs X body tb)
  (hs:∀x,foldedSetIterable iter X.env x=pure x:=by intro _;rfl):PS X (.For tg iter body [] pos) (tFor wi g tb):=by
 intro pins s σ H D I h;refine wpAny_For (thn (hi pins s σ H _ I h) fun v s1 h1=>thn h1 fun itv s2 h2=>?_) hs;obtain⟨it,fp,tn,J,H2,e,I2,T,st2,f2,W,⟨m0,w0⟩,turn⟩:=h2;subst e;have stat:∀{H':Hp},(∀b∈fp,H' b=none)->∀b∈fp,FpOk X pins H' b:=fun hn b hb=>⟨hn b hb,(f2 b hb).2⟩
 refine codeAny_forLoop_any (fun n s'=>∃i σ' H',Inv X pins σ' H' s'/\tn i s'.heap/\(∀b∈fp,H' b=none)/\W i n σ' H') ?_ m0 ⟨0,σ,H2,I2,st2,fun b hb=>(f2 b hb).1,w0⟩;rintro n s3 ⟨i,σ3,H3,I3,st3,fr3,w3⟩;rcases turn i n σ3 H3 w3 with⟨stop,qn⟩| ⟨go,N,hN,step⟩
 ·refine wpAny_passesOwn hp (thn (T.done X rfl rfl rfl hc i pins s3 σ3 H3 X.xe I3 (stat fr3) st3 stop) fun r s4 ⟨hr,I4⟩=>?_);subst hr;exact wpAny_execs_nil ⟨σ3,H3,I4,qn⟩
 ·refine wpAny_passesOwn hp (thn (T.item X rfl rfl rfl hc i pins s3 σ3 H3 X.xe I3 (stat fr3) st3 go) fun r s4 ⟨u,hr,h4⟩=>?_);subst hr;refine wpAny_passesOwn hp (thn h4 fun _ s5 ⟨x,H5,I5,r5,y5,st5,fr5⟩=>?_);have I5':=I5.pinned (stat fr5) (T.obj _ _ st5);refine wpAny_passesOwn hp (thn (hg _ s5 σ3 H5 x u _ I5' r5 (step x H5 y5)) fun _ s6 ⟨σ6,H6,I6,q6⟩=>?_);refine wpAny_passesOwn hp (thn (hb _ s6 σ6 H6 _ I6 q6) fun f s7 q7=>?_);have again:∀{σ7:St}{H7:Hp},Inv X (pins++zJ3 fp s5.heap) σ7 H7 s7->N σ7 H7->∃m,m<n/\∃i σ' H',Inv X pins σ' H' s7/\tn i s7.heap/\(∀b∈fp,H' b=none)/\W i m σ' H':=fun{σ7 H7} I7 n7=>by obtain⟨m',hm,w7⟩:=hN σ7 H7 n7;refine⟨m',hm,i+1,σ7,H7,I7.unpinned,T.keep _ _ _ st5 fun b hb o e=>(I7.pin (b,o) (qC3 _ (qC3 _ (zCK hb e)))).1,fun b hb=>?_,w7⟩;obtain⟨o,e,d⟩:=T.obj _ _ st5 b hb;exact(I7.pin (b,o) (qC3 _ (qC3 _ (zCK hb e)))).2.1
  cases f with
  |next=>obtain⟨σ7,H7,I7,n7⟩:=q7;exact again I7 n7
  |cont=>obtain⟨σ7,H7,I7,n7⟩:=q7;exact again I7 n7
  |brk=>obtain⟨σ7,H7,I7,q7⟩:=q7;exact⟨σ7,H7,I7.unpinned,q7⟩
  |ret v=>obtain⟨x7,σ7,H7,I7,r7,q7⟩:=q7;exact⟨x7,σ7,H7,I7.unpinned,r7,q7⟩
end
noncomputable abbrev R2:=V->V->Hp->VK->Prop
def OpR(X:Cx)(f:Value->Value->Sem Value)(r:R2):Prop :=
 ∀(pins:yD) (s:Shared) (σ:St) (H:Hp) (x y:V) (v u:Value) (Q:VK),Inv X pins σ H s->RelV x v->RelV y u->r x y H Q ->
  wpAny (model X.prog X.w) X.A (f v u) (EP X pins σ Q) X.xe s
def UnR(X:Cx)(f:Value->Sem Value)(r:V->Hp->VK->Prop):Prop :=
 ∀(pins:yD) (s:Shared) (σ:St) (H:Hp) (x:V) (v:Value) (Q:VK),Inv X pins σ H s->RelV x v->r x H Q ->
  wpAny (model X.prog X.w) X.A (f v) (EP X pins σ Q) X.xe s
def zBE(X:Cx)(f:Value)(r:List V->Hp->VK->Prop):Prop :=
 ∀(pins:yD) (s:Shared) (σ:St) (H:Hp) (xs:List V) (us:yB) (Q:VK),Inv X pins σ H s->Vals xs us->r xs H Q ->
  wpAny (model X.prog X.w) X.A (call f us) (EP X pins σ Q) X.xe s
def TruR(X:Cx)(r:V->Hp->(Bool->Hp->Prop)->Prop):Prop :=
 ∀(pins:yD) (s:Shared) (σ:St) (H:Hp) (x:V) (v:Value) (Q:Bool->Hp->Prop),Inv X pins σ H s->RelV x v->r x H Q ->
  wpAny (model X.prog X.w) X.A (truthy v) (TP X pins σ Q) X.xe s
def tOp(r:R2)(ta tb:TE):TE:=fun σ H Q=>ta σ H fun x H1=>tb σ H1 fun y H2=>r x y H2 Q
def tUn(r:V->Hp->VK->Prop)(ta:TE):TE:=fun σ H Q=>ta σ H fun x H1=>r x H1 Q
def rI(C:Int->Int->Prop)(g:Int->Int->V):R2:=fun x y H Q=>∃i j,x=.int i/\y=.int j/\C i j/\Q (g i j) H
def rI0(g:Int->Int->V):R2:=fun x y H Q=>∃i j,x=.int i/\y=.int j/\Q (g i j) H
def rU(g:Int->V):V->Hp->VK->Prop:=fun x H Q=>∃i,x=.int i/\Q (g i) H
section
variable {X:Cx}{a b c:Expr}{ta tb tc:TE}{pos:Pos}
theorem binT(ha:PE X a ta)(hb:PE X b tb){pins:yD}{s:Shared}{σ:St}{H:Hp}{R:V->V->Hp->Prop}(I:Inv X pins σ H s)
  (h:ta σ H fun x H1=>tb σ H1 fun y H2=>R x y H2) {Q:yL}{f:Value->Value->Sem Value}
  (hf:∀v u s2 x y H2,Inv X pins σ H2 s2->RelV x v->RelV y u->R x y H2->wpAny (model X.prog X.w) X.A (f v u) Q X.xe s2) :
  wpAny (model X.prog X.w) X.A (eval a X.env) (fun v s₁=>wpAny (model X.prog X.w) X.A (eval b X.env) (fun u s₂=>wpAny (model X.prog X.w) X.A (f v u) Q X.xe s₂) X.xe s₁) X.xe s:=by refine thn (ha pins s σ H _ I h) fun v s1 ⟨x,H1,I1,r1,q1⟩=>?_;refine thn (hb pins s1 σ H1 _ I1 q1) fun u s2 ⟨y,H2,I2,r2,q2⟩=>?_;exact hf v u s2 x y H2 I2 r1 r2 q2
theorem zYM{op:Operator}{r:R2}(ho:OpR X (binaryOp op) r)(ha:PE X a ta)(hb:PE X b tb):PE X (.BinOp a op b pos) (tOp r ta tb):=by intro pins s σ H Q I h;exact wpAny_BinOp (binT ha hb I h fun v u s2 x y H2 I2 rx ry q=>ho pins s2 σ H2 x y v u Q I2 rx ry q)
theorem zYK{op:UnaryOp}{r:V->Hp->VK->Prop}(ho:UnR X (unaryOp op) r)(ha:PE X a ta):PE X (.UnaryOp op a pos) (tUn r ta):=by intro pins s σ H Q I h;exact UnaryOp_ (thn (ha pins s σ H _ I h) fun v s1 ⟨x,H1,I1,r1,q1⟩=>ho pins s1 σ H1 x v Q I1 r1 q1)
theorem opI{f:Value->Value->Sem Value}{C:Int->Int->Prop}{g:Int->Int->Int}
  (rule:∀(i j:Int) (t u:Tok) (s:Shared) (Q:yL) (E:yL),C i j->Q (.int (g i j) s.toks) { s with toks:=s.toks+1 }->wpAny (model X.prog X.w) X.A (f (.int i t) (.int j u)) Q E s) :
  OpR X f (rI C fun i j=>.int (g i j)):=by intro pins s σ H x y v u Q I rx ry h;obtain⟨i,j,rfl,rfl,hc,q⟩:=h;obtain⟨t,rfl⟩:=rx;obtain⟨t',rfl⟩:=ry;exact rule i j t t' s _ _ hc ⟨.int (g i j),H,I.tok _,⟨_,rfl⟩,q⟩
theorem opI0{f:Value->Value->Sem Value}{g:Int->Int->Int}
  (rule:∀(i j:Int) (t u:Tok) (s:Shared) (Q:yL) (E:yL),Q (.int (g i j) s.toks) { s with toks:=s.toks+1 }->wpAny (model X.prog X.w) X.A (f (.int i t) (.int j u)) Q E s) :
  OpR X f (rI0 fun i j=>.int (g i j)):=by intro pins s σ H x y v u Q I rx ry h;obtain⟨i,j,rfl,rfl,q⟩:=h;obtain⟨t,rfl⟩:=rx;obtain⟨t',rfl⟩:=ry;exact rule i j t t' s _ _ ⟨.int (g i j),H,I.tok _,⟨_,rfl⟩,q⟩
theorem opB0{f:Value->Value->Sem Value}{g:Int->Int->Bool}
  (rule:∀(i j:Int) (t u:Tok) (s:Shared) (Q:yL) (E:yL),Q (.bool (g i j)) s->wpAny (model X.prog X.w) X.A (f (.int i t) (.int j u)) Q E s) :
  OpR X f (rI0 fun i j=>.bl (g i j)):=by intro pins s σ H x y v u Q I rx ry h;obtain⟨i,j,rfl,rfl,q⟩:=h;obtain⟨t,rfl⟩:=rx;obtain⟨t',rfl⟩:=ry;exact rule i j t t' s _ _ ⟨.bl (g i j),H,I,rfl,q⟩
def CDiv(i j:Int):Prop:=0<j/\j<1073741824
def CPow(i j:Int):Prop:=0<=j/\j<=1000000/\i.natAbs<2 ^ 64
def CMul(i j:Int):Prop:=(-(2 ^ 64)<i/\i<2 ^ 64)∨(-(2 ^ 64)<j/\j<2 ^ 64)
theorem CMul.ok{i j:Int}(h:CMul i j):IntMulOk i j:=by
 rcases h with⟨h1,h2⟩| ⟨h1,h2⟩
 ·exact .of_left (intBits_le_64 h1 h2)
 ·exact .of_right (intBits_le_64 h1 h2)
theorem zMb(k:Nat):(0:Int)<=2 ^ k:=by rw[two_pow_cast];exact Int.natCast_nonneg _
theorem zWf:OpR X (binaryOp .Add) (rI0 fun i j=>.int (i+j)):=opI0 fun _ _ _ _ _ _ _ q=>add_int q
theorem zW2:OpR X (binaryOp .Sub) (rI0 fun i j=>.int (i - j)):=opI0 fun _ _ _ _ _ _ _ q=>sub_int q
theorem zW7:OpR X (binaryOp .Mult) (rI CMul fun i j=>.int (i*j)):=opI fun _ _ _ _ _ _ _ hc q=>mul_int q hc.ok
theorem zTA:OpR X (binaryOp .FloorDiv) (rI CDiv fun i j=>.int (i / j)):=opI fun i j _ _ _ _ _ hc q=>by have h1:(0:Int)<j:=hc.1;have h2:j<1073741824:=hc.2;exact floordiv_int (by omega) (by rw[qN3 i (by omega)];exact q) (.inl (PyProof.noPylong_small (by omega)))
theorem zW8:OpR X (binaryOp .Mod) (rI (fun _ j=>0<j) fun i j=>.int (i % j)):=opI fun i j _ _ _ _ _ hc q=>by have h1:(0:Int)<j:=hc;exact mod_int' (by omega) (by rw[Int.fmod_eq_emod_of_nonneg i (by omega)];exact q)
theorem zW5:OpR X (binaryOp .Pow) (rI CPow fun i j=>.int (i ^ j.toNat)):=opI fun _ _ _ _ _ _ _ hc q=>pow_int_small hc.1 hc.2.1 hc.2.2 q
theorem zW4:OpR X (binaryOp .LShift) (rI CPow fun i j=>.int (i*2 ^ j.toNat)):=opI fun _ _ _ _ _ _ _ hc q=>lshift_int_small hc.1 hc.2.1 hc.2.2 q
theorem zW3:OpR X (binaryOp .RShift) (rI (fun _ j=>0<=j) fun i j=>.int (i / 2 ^ j.toNat)):=opI fun i j _ _ _ _ _ hc q =>
 rshift_int hc (by rw[qN3 i (zMb _)];exact q)
theorem zWe:OpR X (binaryOp .BitAnd) (rI0 fun i j=>.int (Builtin.bitAnd i j)):=opI0 fun _ _ _ _ _ _ _ q=>and_int q
theorem zZ2:OpR X (binaryOp .BitOr) (rI0 fun i j=>.int (Builtin.bitOr i j)):=opI0 fun _ _ _ _ _ _ _ q=>or_int q
theorem zW1:OpR X (binaryOp .BitXor) (rI0 fun i j=>.int (Builtin.bitXor i j)):=opI0 fun _ _ _ _ _ _ _ q=>xor_int q
theorem unI{f:Value->Sem Value}{g:Int->Int}
  (rule:∀(i:Int) (t:Tok) (s:Shared) (Q:yL) (E:yL),Q (.int (g i) s.toks) { s with toks:=s.toks+1 }->wpAny (model X.prog X.w) X.A (f (.int i t)) Q E s) :
  UnR X f (rU fun i=>.int (g i)):=by intro pins s σ H x v Q I rx h;obtain⟨i,rfl,q⟩:=h;obtain⟨t,rfl⟩:=rx;exact rule i t s _ _ ⟨.int (g i),H,I.tok _,⟨_,rfl⟩,q⟩
theorem zUQ:UnR X (unaryOp .USub) (rU fun i=>.int (-i)):=unI fun _ _ _ _ _ q=>neg_int q
end
noncomputable def scal:V->V->Bool
 |.non,.non=>true|.non,.int _=>true|.int _,.non=>true|.non,.bl _=>true|.bl _,.non=>true|.non,.str _=>true|.str _,.non=>true
 |.int _,.int _=>true|.bl _,.bl _=>true|.str _,.str _=>true|.byt _,.byt _=>true
 |.int _,.str _=>true|.str _,.int _=>true|.bl _,.str _=>true|.str _,.bl _=>true
 |_,_=>false
def rEq:R2:=fun x y H Q=>scal x y=true/\Q (.bl (decide (x=y))) H
def rNe:R2:=fun x y H Q=>scal x y=true/\Q (.bl (!decide (x=y))) H
theorem zPh{i j:Int}:decide (V.int i=V.int j)=(i == j):=by rw[qM7];simp
theorem zSl{i j:Bool}:decide (V.bl i=V.bl j)=(i == j):=by rw[qM7];simp
theorem zPg{i j:Str}:decide (V.str i=V.str j)=(i == j):=by rw[qM7];simp
theorem zPi{i j:Array UInt8}:decide (V.byt i=V.byt j)=(i.toList == j.toList):=by rw[qM7];cases i;cases j;simp
section
variable {X:Cx}{a b c:Expr}{ta tb tc:TE}{pos:Pos}
theorem zAl{pins:yD}{σ:St}{H:Hp}{s:Shared}{Q:VK}{k k':Bool}(I:Inv X pins σ H s)(q:Q (.bl k) H)(e:k=k'):EP X pins σ Q (.bool k') s:=by subst e;exact⟨.bl k,H,I,rfl,q⟩
theorem zZ8:OpR X (compareOp .Eq) rEq:=by
 intro pins s σ H x y v u Q I rx ry h;obtain⟨hs,q⟩:=h;cases x with
 |non =>
  cases rx;cases y with
  |non=>cases ry;exact PySem.EqNone.eq_none_none (zAl I q (by simp))
  |bl j=>cases ry;exact PySem.EqNone.eq_none_bool (zAl I q (by simp))
  |int j=>obtain⟨t',rfl⟩:=ry;exact PySem.EqNone.eq_none_int (zAl I q (by simp))
  |str j=>obtain⟨t',rfl⟩:=ry;exact PySem.EqNone.eq_none_str (zAl I q (by simp))
  |_=>exact absurd (show false=true from hs) qB0
 |bl i =>
  cases rx;cases y with
  |non=>cases ry;exact PySem.EqNone.eq_bool_none (zAl I q (by simp))
  |bl j=>cases ry;exact eq_bool (zAl I q zSl)
  |str j=>obtain⟨t',rfl⟩:=ry;exact PySem.EqMixed.eq_bool_str (zAl I q (by simp))
  |_=>exact absurd (show false=true from hs) qB0
 |int i =>
  obtain⟨t,rfl⟩:=rx;cases y with
  |non=>cases ry;exact PySem.EqNone.eq_int_none (zAl I q (by simp))
  |int j=>obtain⟨t',rfl⟩:=ry;exact eq_int (zAl I q zPh)
  |str j=>obtain⟨t',rfl⟩:=ry;exact PySem.EqMixed.eq_int_str (zAl I q (by simp))
  |_=>exact absurd (show false=true from hs) qB0
 |str i =>
  obtain⟨t,rfl⟩:=rx;cases y with
  |non=>cases ry;exact PySem.EqNone.eq_str_none (zAl I q (by simp))
  |bl j=>cases ry;exact PySem.EqMixed.eq_str_bool (zAl I q (by simp))
  |int j=>obtain⟨t',rfl⟩:=ry;exact PySem.EqMixed.eq_str_int (zAl I q (by simp))
  |str j=>obtain⟨t',rfl⟩:=ry;exact eq_str (zAl I q zPg)
  |_=>exact absurd (show false=true from hs) qB0
 |byt i =>
  obtain⟨t,rfl⟩:=rx;cases y with
  |byt j=>obtain⟨t',rfl⟩:=ry;exact W.eq_bytes (zAl I q zPi)
  |_=>exact absurd (show false=true from hs) qB0
 |_=>cases y<;>exact absurd (show false=true from hs) qB0
theorem zZ3:OpR X (compareOp .NotEq) rNe:=by
 intro pins s σ H x y v u Q I rx ry h;obtain⟨hs,q⟩:=h;cases x with
 |non =>
  cases rx;cases y with
  |non=>cases ry;exact PySem.EqNone.ne_none_none (zAl I q (by simp))
  |bl j=>cases ry;exact PySem.EqNone.ne_none_bool (zAl I q (by simp))
  |int j=>obtain⟨t',rfl⟩:=ry;exact PySem.EqNone.ne_none_int (zAl I q (by simp))
  |str j=>obtain⟨t',rfl⟩:=ry;exact PySem.EqNone.ne_none_str (zAl I q (by simp))
  |_=>exact absurd (show false=true from hs) qB0
 |bl i =>
  cases rx;cases y with
  |non=>cases ry;exact PySem.EqNone.ne_bool_none (zAl I q (by simp))
  |bl j=>cases ry;exact ne_bool (zAl I q (congrArg not zSl))
  |str j=>obtain⟨t',rfl⟩:=ry;exact PySem.EqMixed.ne_bool_str (zAl I q (by simp))
  |_=>exact absurd (show false=true from hs) qB0
 |int i =>
  obtain⟨t,rfl⟩:=rx;cases y with
  |non=>cases ry;exact PySem.EqNone.ne_int_none (zAl I q (by simp))
  |int j=>obtain⟨t',rfl⟩:=ry;exact ne_int (zAl I q (congrArg not zPh))
  |str j=>obtain⟨t',rfl⟩:=ry;exact PySem.EqMixed.ne_int_str (zAl I q (by simp))
  |_=>exact absurd (show false=true from hs) qB0
 |str i =>
  obtain⟨t,rfl⟩:=rx;cases y with
  |non=>cases ry;exact PySem.EqNone.ne_str_none (zAl I q (by simp))
  |bl j=>cases ry;exact PySem.EqMixed.ne_str_bool (zAl I q (by simp))
  |int j=>obtain⟨t',rfl⟩:=ry;exact PySem.EqMixed.ne_str_int (zAl I q (by simp))
  |str j=>obtain⟨t',rfl⟩:=ry;exact ne_str (zAl I q (congrArg not zPg))
  |_=>exact absurd (show false=true from hs) qB0
 |byt i =>
  obtain⟨t,rfl⟩:=rx;cases y with
  |byt j=>obtain⟨t',rfl⟩:=ry;exact W.ne_bytes (zAl I q (congrArg not zPi))
  |_=>exact absurd (show false=true from hs) qB0
 |_=>cases y<;>exact absurd (show false=true from hs) qB0
theorem zZ4:OpR X (compareOp .Lt) (rI0 fun i j=>.bl (decide (i<j))):=opB0 fun _ _ _ _ _ _ _ q=>lt_int q
theorem zZ5:OpR X (compareOp .LtE) (rI0 fun i j=>.bl (decide (i<=j))):=opB0 fun _ _ _ _ _ _ _ q=>le_int q
theorem zZ6:OpR X (compareOp .Gt) (rI0 fun i j=>.bl (decide (j<i))):=opB0 fun _ _ _ _ _ _ _ q=>gt_int q
theorem zZ7:OpR X (compareOp .GtE) (rI0 fun i j=>.bl (decide (j<=i))):=opB0 fun _ _ _ _ _ _ _ q=>ge_int q
theorem zW9:OpR X (compareOp .Is) (fun x y H Q=>y=.non/\Q (.bl (decide (x=.non))) H):=by
 intro pins s σ H x y v u Q I rx ry h;obtain⟨rfl,q⟩:=h;cases ry;refine is_none_gen (zAl I q ?_);cases x<;>first
  |(cases rx;rfl)
  |(obtain⟨t,rfl⟩:=rx;rfl)
theorem zTz:OpR X (compareOp .IsNot) (fun x y H Q=>y=.non/\Q (.bl (!decide (x=.non))) H):=by
 intro pins s σ H x y v u Q I rx ry h;obtain⟨rfl,q⟩:=h;cases ry;refine isnot_none_gen (zAl I q ?_);cases x<;>first
  |(cases rx;rfl)
  |(obtain⟨t,rfl⟩:=rx;rfl)
theorem zTw{op:CmpOp}{r:R2}(ho:OpR X (compareOp op) r)(ha:PE X a ta)(hb:PE X b tb)(hm:behindInMarks op b=false):PE X (.Compare a [op] [b] pos) (tOp r ta tb):=by intro pins s σ H Q I h;exact wpAny_Compare1 (binT ha hb I h fun v u s2 x y H2 I2 rx ry q=>ho pins s2 σ H2 x y v u Q I2 rx ry q) hm
def zSH(t:TE):TT:=fun σ H Q=>t σ H fun x H'=>∃k,x=.bl k/\Q k H'
theorem zTj{op:CmpOp}{r:R2}(ho:OpR X (compareOp op) r)(ha:PE X a ta)(hb:PE X b tb)(hm:behindInMarks op b=false):PT X (.Compare a [op] [b] pos) (zSH (tOp r ta tb)):=by
 intro pins s σ H Q I h;refine wpAny_isTrue_Compare1 (thn (ha pins s σ H _ I h) fun v s1 ⟨x,H1,I1,r1,q1⟩=>thn (hb pins s1 σ H1 _ I1 q1) fun u s2 ⟨y,H2,I2,r2,q2⟩ =>
  thn (ho pins s2 σ H2 x y v u _ I2 r1 r2 q2) fun c s3 ⟨z,H3,I3,r3,k,e,q3⟩=>?_) hm
 subst e;cases r3;exact wpAny_truthy_bool ⟨H3,I3,q3⟩
def zNG(r r':R2)(ta tb tc:TE):TE:=fun σ H Q=>ta σ H fun x H1=>tb σ H1 fun y H2=>r x y H2 fun z H3=>∃k,z=.bl k /\
 (if k=true then tc σ H3 fun w' H4=>r' y w' H4 Q else Q (.bl false) H3)
theorem zQJ{op op':CmpOp}{r r':R2}(ho:OpR X (compareOp op) r)(ho':OpR X (compareOp op') r')(ha:PE X a ta)(hb:PE X b tb)(hc:PE X c tc)
  (hm:lastMarks [op,op'] [b,c]=false:=by with_unfolding_all rfl):PE X (.Compare a [op,op'] [b,c] pos) (zNG r r' ta tb tc):=by
 intro pins s σ H Q I h;refine Compare_chain (thn (ha pins s σ H _ I h) fun v s1 ⟨x,H1,I1,r1,q1⟩=>chain_link (thn (hb pins s1 σ H1 _ I1 q1) fun u s2 ⟨y,H2,I2,r2,q2⟩ =>
  thn (ho pins s2 σ H2 x y v u _ I2 r1 r2 q2) fun d s3 ⟨z,H3,I3,r3,k,e,q3⟩=>?_)) hm
 subst e;cases r3;refine wpAny_truthy_bool ?_;cases k with
 |false=>exact ite_ff ⟨.bl false,H3,I3,rfl,q3⟩
 |true=>exact ite_tt (chain_last (thn (hc pins s3 σ H3 _ I3 q3) fun w' s4 ⟨z',H4,I4,r4,q4⟩=>ho' pins s4 σ H4 y z' u w' Q I4 r2 r4 q4))
theorem zQv{op op':CmpOp}{r r':R2}(ho:OpR X (compareOp op) r)(ho':OpR X (compareOp op') r')(ha:PE X a ta)(hb:PE X b tb)(hc:PE X c tc)
  (hm:lastMarks [op,op'] [b,c]=false:=by with_unfolding_all rfl):PT X (.Compare a [op,op'] [b,c] pos) (zSH (zNG r r' ta tb tc)):=by
 intro pins s σ H Q I h;refine isTrue_chain (thn (ha pins s σ H _ I h) fun v s1 ⟨x,H1,I1,r1,q1⟩=>test_link (thn (hb pins s1 σ H1 _ I1 q1) fun u s2 ⟨y,H2,I2,r2,q2⟩ =>
  thn (ho pins s2 σ H2 x y v u _ I2 r1 r2 q2) fun d s3 ⟨z,H3,I3,r3,k,e,q3⟩=>?_)) hm
 subst e;cases r3;refine wpAny_truthy_bool ?_;cases k with
 |false =>
  obtain⟨k',e',q'⟩:=q3;cases e';exact ite_ff ⟨H3,I3,q'⟩
 |true =>
  refine ite_tt (test_last (thn (hc pins s3 σ H3 _ I3 q3) fun w' s4 ⟨z',H4,I4,r4,q4⟩=>thn (ho' pins s4 σ H4 y z' u w' _ I4 r2 r4 q4) fun d' s5 ⟨z2,H5,I5,r5,k2,e2,q5⟩=>?_));subst e2;cases r5;exact wpAny_truthy_bool ⟨H5,I5,q5⟩
def TruV(K:W.Frag)(x:V)(H:Hp)(k:Bool):Prop :=
 match x with
 |.non=>k=false
 |.bl b=>k=b
 |.int i=>k=(i != 0)
 |.str y=>y.length<=sizeLine/\k=((y.length:Int) != 0)
 |.byt y=>y.size<=sizeLine/\k=((y.size:Int) != 0)
 |.ref p=>(∃xs,SqL K H p xs/\k=!xs.isEmpty)∨(∃xs,SqT K H p xs/\k=!xs.isEmpty)∨∃kvs,H p=some (.dK kvs)/\k=!kvs.isEmpty
 |_=>False
theorem zMB{κ:Type}{kvs:List (κ×V)}{vs:List (κ×Value)}(r:KV kvs vs):(!vs.isEmpty)=!kvs.isEmpty:=by cases r<;>rfl
theorem zHu{xs:List V}{its:yB}(r:Vals xs its):(!its.toArray.isEmpty)=!xs.isEmpty:=by cases r<;>simp
theorem zHl:(sizeLine:Nat)<2 ^ 63:=by rw[sizeLine_eq];decide
theorem zUV:TruR X (fun x H Q=>∃k,TruV X.K x H k/\Q k H):=by
 intro pins s σ H x v Q I rx h;obtain⟨k,e,q⟩:=h;have hl:=zHl;have hs:sizeLine=16777216:=sizeLine_eq;cases x with
 |non =>
  cases rx;have e':k=false:=e;subst e';exact truthy_none ⟨H,I,q⟩
 |bl b =>
  cases rx;have e':k=b:=e;subst e';exact wpAny_truthy_bool ⟨H,I,q⟩
 |int i =>
  obtain⟨t,rfl⟩:=rx;have e':k=(i != 0):=e;subst e';exact PySem.P.truthy_int ⟨H,I,q⟩
 |str y =>
  obtain⟨t,rfl⟩:=rx;obtain⟨hy,e'⟩:y.length<=sizeLine/\k=((y.length:Int) != 0):=e;subst e';exact PySem.P.truthy_str (by omega) ⟨H,I.tok _,q⟩
 |byt y =>
  obtain⟨t,rfl⟩:=rx;obtain⟨hy,e'⟩:y.size<=sizeLine/\k=((y.size:Int) != 0):=e;subst e';exact W.truthy_bytes (by omega) ⟨H,I.tok _,q⟩
 |ref p =>
  cases rx;have e':(∃xs,SqL X.K H p xs/\k=!xs.isEmpty)∨(∃xs,SqT X.K H p xs/\k=!xs.isEmpty)∨∃kvs,H p=some (.dK kvs)/\k=!kvs.isEmpty:=e;rcases e' with⟨xs,hx,e'⟩| ⟨xs,hx,e'⟩| ⟨kvs,hx,e'⟩
  ·subst e';obtain⟨its,r,pl,hz⟩:=I.list hx;have hlen:=r.length;exact wpAny_truthy_list pl.isList (by simp only[qA9];omega) ⟨H,I.tok _,by rw[zHu r];exact q⟩
  ·subst e';obtain⟨its,r,pl,hz⟩:=I.tuple hx;have hlen:=r.length;exact truthy_tuple pl (by simp only[qA9];omega) ⟨H,I.tok _,by rw[zHu r];exact q⟩
  ·subst e';obtain⟨hz,hS,vs,r,m⟩:kvs.length<=sizeLine/\(p == sysModules)=false/\∃vs,KV kvs vs/\s.heap.DictOf (zAu X.prog X.w) p vs:=I.hok p _ hx;have hlen:kvs.length=vs.length:=Paired.length r;exact wpAny_truthy_dict hS m (by omega) ⟨H,I.tok _,by rw[zMB r];exact q⟩
 |_=>exact(show False from e).elim
theorem zQu(ha:PE X a ta)(he:∀whole,isTrue a X.env whole=(do let v <- whole;standAt a.pos;holding [v] (truthy v))):
  PT X a (fun σ H Q=>ta σ H fun x H'=>∃k,TruV X.K x H' k/\Q k H'):=by intro pins s σ H Q I h;exact isTrue_plain (thn (ha pins s σ H _ I h) fun v s1 ⟨x,H1,I1,r1,q1⟩=>zUV pins s1 σ H1 x v Q I1 r1 q1) (he _)
theorem zMo:OpR X (binaryOp .Add) (fun x y H Q=>∃i j,x=.str i/\y=.str j/\i.length+j.length<=sizeLine/\Q (.str (i++j)) H):=by intro pins s σ H x y v u Q I rx ry h;obtain⟨i,j,rfl,rfl,hz,q⟩:=h;obtain⟨t,rfl⟩:=rx;obtain⟨t',rfl⟩:=ry;exact add_str (fun t' tk=>⟨.str (i++j),H,I.tok _,⟨_,rfl⟩,q⟩) hz
theorem zDe{x:V}{us:yB}(r:Vals [x] us):∃u,us=[u]/\RelV x u:=by
 cases r with
 |cons r1 r2=>cases r2;exact⟨_,rfl,r1⟩
theorem zMa{x y:V}{us:yB}(r:Vals [x,y] us):∃u w',us=[u,w']/\RelV x u/\RelV y w':=by
 cases r with
 |cons r1 r2 =>
  cases r2 with
  |cons r3 r4=>cases r4;exact⟨_,_,rfl,r1,r3⟩
theorem zPD(hc:X.calm=true):zBE X (.builtin "max") (fun xs H Q=>∃i j,xs=[.int i,.int j]/\Q (.int (if j>i then j else i)) H):=by
 intro pins s σ H xs us Q I r h;obtain⟨i,j,rfl,q⟩:=h;obtain⟨u,w',rfl,⟨t,rfl⟩,⟨t',rfl⟩⟩:=zMa r;refine max_two_ints (I.ok.hd hc) fun h' tk k=>⟨_,H,I.kept k,?_,q⟩
 by_cases hj:j>i
 ·rw[if_pos hj,if_pos hj];exact⟨_,rfl⟩
 ·rw[if_neg hj,if_neg hj];exact⟨_,rfl⟩
theorem zPC(hc:X.calm=true):zBE X (.builtin "min") (fun xs H Q=>∃i j,xs=[.int i,.int j]/\Q (.int (if j<i then j else i)) H):=by
 intro pins s σ H xs us Q I r h;obtain⟨i,j,rfl,q⟩:=h;obtain⟨u,w',rfl,⟨t,rfl⟩,⟨t',rfl⟩⟩:=zMa r;refine min_two_ints (I.ok.hd hc) fun h' tk k=>⟨_,H,I.kept k,?_,q⟩
 by_cases hj:j<i
 ·rw[if_pos hj,if_pos hj];exact⟨_,rfl⟩
 ·rw[if_neg hj,if_neg hj];exact⟨_,rfl⟩
theorem zJI:zBE X (.type "int") (fun xs H Q=>(∃i,xs=[.int i]/\Q (.int i) H)∨∃k,xs=[.bl k]/\Q (.int (if k then 1 else 0)) H):=by
 intro pins s σ H xs us Q I r h;rcases h with⟨i,rfl,q⟩| ⟨k,rfl,q⟩
 ·obtain⟨u,rfl,t,rfl⟩:=zDe r;exact call_int_int ⟨.int i,H,I,⟨_,rfl⟩,q⟩
 ·obtain⟨u,rfl,r1⟩:=zDe r;cases r1;exact call_int_bool ⟨.int (if k then 1 else 0),H,I.tok _,⟨_,rfl⟩,q⟩
end
theorem RelO.some_of{v:V}{o:yF}(r:RelO (some v) o):∃u,o=some u/\RelV v u:=by
 cases o with
 |none=>exact(show False from r).elim
 |some u=>exact⟨u,rfl,r⟩
structure Room(k:Nat)(A:Around):Prop where
 hd:A.handled=none
 dp:A.depth+3*k+5<recursionLimit
 un:A.units+16*k+200<cLine
 gd:A.guards=some []
theorem Room.mono{j k:Nat}{A:Around}(r:Room k A)(h:j<=k):Room j A:=⟨r.hd,by have:=r.dp;omega,by have:=r.un;omega,r.gd⟩
theorem Room.deeper{k:Nat}{A:Around}(r:Room (k+1) A)(env:Env):Room k (A.deeper env) :=
 ⟨r.hd,by have:=r.dp;show A.depth+1+3*k+5<_;omega,by have:=r.un;show A.units+3+16*k+200<_;omega,r.gd⟩
theorem Room.depth{k:Nat}{A:Around}(r:Room k A):A.depth<recursionLimit:=by have:=r.dp;omega
theorem Room.units{k:Nat}{A:Around}(r:Room k A):A.units+64<cLine:=by have:=r.un;omega
theorem Room.units0{k:Nat}{A:Around}(r:Room k A):A.units<cLine:=by have:=r.un;omega
def tNil:TA:=fun _ H Q=>Q [] H
def zYm(ta:TE)(tr:TA):TA:=fun σ H Q=>ta σ H fun x H1=>tr σ H1 fun xs H2=>Q (x::xs) H2
section
variable {X:Cx}{e:Expr}{es:yE}{te:TE}{t:TA}{pos:Pos}
theorem zS5:PA X [] tNil:=fun _ _ _ _ H Q I h=>Calls.spliced_nil ⟨[],H,I,.nil,h⟩
theorem zO9(ha:PE X e te)(hr:PA X es t)(hs:starEach (e::es) X.env=(false,eval e X.env)::starEach es X.env:=by rfl):PA X (e::es) (zYm te t):=by intro pos pins s σ H Q I h;rw[hs];show wpAny _ _ (spliced ((false,eval e X.env)::backTo pos (starEach es X.env))) _ _ s;refine Calls.spliced_cons (thn (ha pins s σ H _ I h) fun u s1 ⟨x,H1,I1,r1,q1⟩=>?_);exact thn (hr pos pins s1 σ H1 _ I1 q1) fun us s2 ⟨xs,H2,I2,r2,q2⟩=>⟨x::xs,H2,I2,.cons r1 r2,q2⟩
def tTup(t:TA):TE:=fun σ H Q=>t σ H fun xs H1=>xs.length<=sizeLine/\∀p,H1 p=none->Q (.ref p) (upd H1 p (.tup xs))
def tLst(t:TA):TE:=fun σ H Q=>t σ H fun xs H1=>xs.length<=sizeLine/\∀p,H1 p=none->Q (.ref p) (upd H1 p (.lst xs))
theorem zVJ{x1}(h:PA X es t):PE X (.Tuple es x1 pos) (tTup t):=by intro pins s σ H Q I hq;refine wpAny_Tuple_spliced (thn (h pos pins s σ H _ I hq) fun us s1 ⟨xs,H1,I1,r,z,q⟩=>⟨by rw[<- r.length];exact z,?_⟩);have hf:H1 s1.heap.objs.size=none:=I1.hok.fresh (qB1 _);refine⟨.ref s1.heap.objs.size,upd H1 s1.heap.objs.size (.tup xs),I1.laid (t':=s1.toks) (fun b u e=>qA6 _ e) (qB1 _) ?_,rfl,q _ hf⟩;exact⟨z,us,r,⟨_,qB7 _ rfl,rfl,_,rfl⟩⟩
theorem zVO(h:PA X es t):PE X (.List es pos) (tLst t):=by intro pins s σ H Q I hq;refine wpAny_List_spliced (thn (h pos pins s σ H _ I hq) fun us s1 ⟨xs,H1,I1,r,z,q⟩=>⟨by rw[<- r.length];exact z,?_⟩);have hf:H1 s1.heap.objs.size=none:=I1.hok.fresh (qB1 _);refine⟨.ref s1.heap.objs.size,upd H1 s1.heap.objs.size (.lst xs),I1.laid (t':=s1.toks) (fun b u e=>qA6 _ e) (qB1 _) ?_,rfl,q _ hf⟩;exact⟨z,us,0,r,qB7 _ rfl⟩
end
noncomputable abbrev Sp:=List V->Hp->VK->XK->Prop
noncomputable abbrev CXT:=List Env->Hp->Shared->XK->yL
structure Env0(P:Program)(w:World)(K:W.Frag)(mg:Str->yF)(base:Heap)(A:Around)(outer:List Env)(s:Shared)(H:Hp):Prop where
 frames:A.frames=some outer
 mod:Mod K mg base
 bs:∀b o,base.get? b=some o->s.heap.get? b=some o/\H b=none
 bsz:base.objs.size<=s.heap.objs.size
 funs:s.heap.FunFrames base outer
 frf:∀b∈frs outer,H b=none
 hok:HOk P w H s.heap
 bare:AllBare s.gens
def CE(outer:List Env)(P:Program)(w:World)(H:Hp)(s:Shared)(Q:VK)(u:Value)(s':Shared):Prop :=
 ∃v H',s'.os=s.os/\AllBare s'.gens/\Un (frs outer) [] H H' s.heap s'.heap/\HOk P w H' s'.heap/\RelV v u/\Q v H'
def CR(CX:CXT)(outer:List Env)(P:Program)(w:World)(H:Hp)(s:Shared)(Q:VK)(E:XK)(r:Result)(s':Shared):Prop :=
 match r with
 |.ok (.ret u)=>CE outer P w H s Q u s'
 |.ok _=>False
 |.error e=>CX outer H s E e s'
structure FnOk(P:Program)(w:World)(K:W.Frag)(mg:Str->yF)(base:Heap)(CX:CXT)(k:Nat)(f:Addr)(fd:FuncData)(ps:yH)(sp:Sp):Prop where
 len:∀vs H Q E,sp vs H Q E->vs.length=ps.length
 run:∀(A:Around) (outer:List Env) (s:Shared) (H:Hp) (args:Args) (us:yB) (vs:List V) (Q:VK) (E:XK),Room k A->Env0 P w K mg base A outer s H->BindsTo s fd args (ps.zip us)->Vals vs us->sp vs H Q E ->
  codeAny (model P w) A (.call (.ref f) args) (CR CX outer P w H s Q E) s
theorem FnOk.imp{P:Program}{w:World}{K:W.Frag}{mg:Str->yF}{base:Heap}{CX:CXT}{k:Nat}{f:Addr}{fd:FuncData}{ps:yH}{sp sp':Sp}(F:FnOk P w K mg base CX k f fd ps sp)
  (h:∀vs H Q E,sp' vs H Q E->sp vs H Q E):FnOk P w K mg base CX k f fd ps sp' :=
 ⟨fun vs H Q E q=>F.len vs H Q E (h _ _ _ _ q),fun A outer s H args us vs Q E hr he hb hv hs=>F.run A outer s H args us vs Q E hr he hb hv (h _ _ _ _ hs)⟩
section
variable {X:Cx}{pins:yD}{σ:St}{H:Hp}{s s':Shared}
theorem Inv.env0(I:Inv X pins σ H s):Env0 X.prog X.w X.K X.mg X.base X.A X.stack s H :=
 ⟨I.ok.frames,I.ok.mod,I.bs,qD3 I.ok.bsz I.sz,I.stack,I.stkFree,I.hok,I.bare⟩
theorem Inv.after{Q:VK}{u:Value}(I:Inv X pins σ H s)(h:CE X.stack X.prog X.w H s Q u s'):EP X pins σ Q u s':=by obtain⟨v,H',os,bare,un,hok,r,q⟩:=h;obtain⟨hh,g,d,t,os'⟩:=s';obtain rfl:os'=s.os:=os;exact⟨v,H',I.call (h':=hh) (g':=g) (d':=d) (t':=t) (ch:=[]) un hok bare (fun b z=>absurd z (by simp)),r,q⟩
end
def zSK(sp:Sp)(dvs:List V)(E:XK)(t:TA):TE:=fun σ H Q=>t σ H fun vs H1=>sp (vs++dvs) H1 Q E
def zIC(K:W.Frag)(fd:FuncData)(ps:yH)(ds:yB):Prop :=
 ∀(s:Shared) (us:yB),K.In s.heap->(us++ds).length=ps.length->BindsTo s fd ⟨us,[]⟩ (ps.zip (us++ds))
theorem zIC.all{K:W.Frag}{fd:FuncData}{ps:yH}(h:∀us:yB,us.length=ps.length->bindArgs fd ⟨us,[]⟩=pure (ps.zip us)):zIC K fd ps []:=fun s us _ hl=>by rw[qH6]at hl ⊢;exact .of_eq (h us hl)
def zPY(CX:CXT)(X:Cx)(E:XK):Prop:=∀(pins:yD) (σ:St) (H:Hp) (s:Shared) (e:Value) (s':Shared),Inv X pins σ H s->CX X.stack H s E e s'->X.xe e s'
section
variable {X:Cx}{CX:CXT}{k:Nat}{f C:Addr}{fd:FuncData}{ps:yH}{sp:Sp}{dvs:List V}{ds:yB}{E:XK}{x m:Str}{p pos apos:Pos}{e o:Expr}{es:yE}{ta:TE}{t:TA}
theorem zVv{pins:yD}{σ:St}{H:Hp}{s:Shared}{Q:VK}{us:yB}{vs:List V}(F:FnOk X.prog X.w X.K X.mg X.base CX k f fd ps sp)(hr:Room k X.A)(hb:zIC X.K fd ps ds)(hd:Vals dvs ds)(hx:zPY CX X E)
  (I:Inv X pins σ H s) (r:Vals vs us) (h:sp (vs++dvs) H Q E):wpAny (model X.prog X.w) X.A (call (.ref f) us) (EP X pins σ Q) X.xe s:=by
 have r2:Vals (vs++dvs) (us++ds):=r.append hd;have hl:(us++ds).length=ps.length:=by rw[<- r2.length];exact F.len _ _ _ _ h
 refine wpAny_call (codeAny_mono (F.run X.A X.stack s H ⟨us,[]⟩ (us++ds) (vs++dvs) Q E hr I.env0 (hb s us I.kIn hl) r2 h) fun r s' hq=>?_);cases r with
 |error e=>exact hx pins σ H s e s' I hq
 |ok fl =>
  cases fl with
  |ret u=>exact I.after hq
  |next=>exact False.elim hq
  |brk=>exact False.elim hq
  |cont=>exact False.elim hq
theorem zTx(F:FnOk X.prog X.w X.K X.mg X.base CX k f fd ps sp)(hr:Room k X.A)(hg:Gl X x)(hm:X.mg x=some (.ref f))(hk:W.keepIn X.K (.ref f)=true)(hb:zIC X.K fd ps ds)(hd:Vals dvs ds)(hx:zPY CX X E)
  (ha:PA X (e::es) t) (hdb:(x == ("__debug__":Str))=false:=by decide) (he:starEach (e::es) X.env=(false,eval e X.env)::starEach es X.env:=by rfl) (hpl:(backTo pos (starEach es X.env)).any (·.1)=false:=by rfl) :
  PE X (.Call (.Name x p) (e::es) [] pos) (zSK sp dvs E t):=by intro pins s σ H Q I h;refine wpAny_Call_Name_kw (zTQ I hg hm ?_ hdb);refine W.callWith_K (h₀:=X.base) I.ok.mod.kin hk (thn (ha pos pins s σ H _ I h) fun us s1 ⟨vs,H1,I1,r,q⟩=>⟨I1.kIn,?_⟩) he hpl;exact zVv F hr hb hd hx I1 r q
end
structure zIB(N P:yH)(sc:Scope):Prop where
 kind:sc.kind=.function
 co:sc.isCoroutine=false
 gen:sc.isGenerator=false
 nd:N.Nodup
 pre:N.take P.length=P
 par:∀x∈P,sc.names.lookup x=some .local∨sc.names.lookup x=some .cell
 nofree:∀y∈sc.names,y.2≠.free
theorem zJM{kindOf:Str->Option NameKind}{x:Str}:∀{binds:List (Str×Value)}{m:Str->yF},(∀v,(x,v)∉binds)->bindL kindOf binds m x=m x
 |[],_,_=>rfl
 |(n,v)::r,m,h=>by
  unfold bindL;rw[zJM fun w hw=>h w (qB9 _ hw)];split
  ·have:x≠n:=by rintro rfl;exact h v qD0
   simp[this]
  ·rfl
theorem zJO{kindOf:Str->Option NameKind}{x:Str}:∀{binds:List (Str×Value)}{m:Str->yF},(∀v,(x,v)∉binds)->bindC kindOf binds m x=m x
 |[],_,_=>rfl
 |(n,v)::r,m,h=>by
  unfold bindC;rw[zJO fun w hw=>h w (qB9 _ hw)];split
  ·rfl
  ·have:x≠n:=by rintro rfl;exact h v qD0
   simp[this]
theorem zJN{kindOf:Str->Option NameKind}{x:Str}{v:Value}:∀{P:yH}{vs:yB}{i:Nat}{m:Str->yF},P.Nodup->P[i]?=some x->vs[i]?=some v->kindOf x=some .local ->
  bindL kindOf (P.zip vs) m x=some v
 |[],_,_,_,_,h,_,_=>by simp at h
 |_::_,[],_,_,_,_,h,_=>by simp at h
 |p::P,w::vs,0,m,nd,h1,h2,hk=>by simp at h1 h2;subst h1;subst h2;show bindL kindOf ((p,w)::P.zip vs) m p=_;unfold bindL;rw[zJM fun v hv=>(qM8.mp nd).1 (qO5 hv).1,if_pos hk];simp
 |p::P,w::vs,i+1,m,nd,h1,h2,hk=>by show bindL kindOf ((p,w)::P.zip vs) m x=_;unfold bindL;exact zJN (i:=i) (qM8.mp nd).2 (by simpa using h1) (by simpa using h2) hk
theorem zJP{kindOf:Str->Option NameKind}{x:Str}{v:Value}:∀{P:yH}{vs:yB}{i:Nat}{m:Str->yF},P.Nodup->P[i]?=some x->vs[i]?=some v->kindOf x≠some .local ->
  bindC kindOf (P.zip vs) m x=some v
 |[],_,_,_,_,h,_,_=>by simp at h
 |_::_,[],_,_,_,_,h,_=>by simp at h
 |p::P,w::vs,0,m,nd,h1,h2,hk=>by simp at h1 h2;subst h1;subst h2;show bindC kindOf ((p,w)::P.zip vs) m p=_;unfold bindC;rw[zJO fun v hv=>(qM8.mp nd).1 (qO5 hv).1,if_neg hk];simp
 |p::P,w::vs,i+1,m,nd,h1,h2,hk=>by show bindC kindOf ((p,w)::P.zip vs) m x=_;unfold bindC;exact zJP (i:=i) (qM8.mp nd).2 (by simpa using h1) (by simpa using h2) hk
noncomputable def start(N:yH)(vs:List V):St:=vs.map some++qI8 (N.length - vs.length) none
noncomputable def cxOf(CX:CXT)(P:Program)(w:World)(K:W.Frag)(mg:Str->yF)(base:Heap)(N:yH)(qual:Str)(scope:Scope)(f:Addr)(cd:Value)(A:Around)(outer:List Env)(s:Shared)(H:Hp)(E:XK):Cx where
 prog:=P
 w:=w
 K:=K
 mg:=mg
 base:=base
 A:=A.deeper (envOfC qual scope s.heap.objs.size f cd)
 N:=N
 s₀:=s
 H₀:=H
 env:=envOfC qual scope s.heap.objs.size f cd
 outer:=outer
 stack:=envOfC qual scope s.heap.objs.size f cd::outer
 ex:=[]
 calm:=true
 fn:=fun _=>true
 pn:=[]
 xe:=fun e s'=>wpAny (model P w) (A.deeper (envOfC qual scope s.heap.objs.size f cd)) (leaving (envOfC qual scope s.heap.objs.size f cd) e) (fun _ s''=>CX outer H s E e s'') (fun e' s''=>CX outer H s E e' s'') s'
theorem zM1{sc:Scope}{n:Nat}{x:Str}(h:sc.names.lookup x=some .cell):∃c,(cellsFrom n sc.names []).lookup x=some c:=by have q:=W.cellsFrom_some sc.names n [] (.inl h);exact qI7.mp q
theorem zOJ{CX:CXT}{P:Program}{w:World}{K:W.Frag}{mg:Str->yF}{base:Heap}{N ps:yH}{qual:Str}{scope:Scope}{f:Addr}{cd:Value}{A:Around}{outer:List Env}{s s1:Shared}{H:Hp}{E:XK}{us:yB}{vs:List V}
  (S:zIB N ps scope) (hd:A.handled=none) (e0:Env0 P w K mg base A outer s H) (hl:vs.length=ps.length) (r:Vals vs us)
  (x:InCallC s s.heap.objs.size (bindL (envOfC qual scope s.heap.objs.size f cd).kindOf (ps.zip us) fun _=>none) (cellsFrom (s.heap.objs.size+1) scope.names []) (bindC (envOfC qual scope s.heap.objs.size f cd).kindOf (ps.zip us) fun _=>none) s1) :
  Inv (cxOf CX P w K mg base N qual scope f cd A outer s H E) [] (start N vs) H s1:=by
 have hpl:ps.length<=N.length:=by have:=congrArg qM4 S.pre;rw[qI9]at this;omega
 obtain⟨h1,tk,rfl,hk⟩:=x.done;have noA:∀b:Addr,b∉(cxOf CX P w K mg base N qual scope f cd A outer s H E).ex:=fun b z=>absurd (show b∈([]:yC)from z) (by simp);refine⟨⟨e0.mod,S.kind,rfl,rfl,qB1 _,fun y z c h1 h2=>?_,fun y hy=>?_,fun y c _ h=>?_,fun _=>hd,Around.frames_deeper e0.frames,.inr ⟨rfl,rfl⟩,fun b z=>absurd z (noA b),e0.bs,e0.bsz,fun b _ _=>noA b,fun b z=>absurd z (noA b),e0.funs,e0.frf⟩,
  rfl,e0.bare,Un.kept hk,⟨_,x.toInCall.ns,fun i y v h1 h2 h3=>?_⟩,fun y c h=>⟨_,x.cell y c h⟩,e0.hok.fresh (qB1 _),fun y c h=>?_,fun p hp=>absurd (show p∈([]:yD)from hp) (by simp),e0.hok.kept hk,?_⟩
 ·exact name_of_addr x.apart (PySem.mem_of_lookup h1) (PySem.mem_of_lookup h2)
 ·have hy:scope.names.lookup y=some .cell∨scope.names.lookup y=some .free:=hy;rcases hy with hy|hy
  ·exact zM1 hy
  ·exact absurd rfl (S.nofree _ (PySem.mem_of_lookup hy))
 ·exact qH1 (x.above y c (PySem.mem_of_lookup h))
 ·have hi:i<vs.length:=by
   unfold start at h2;by_cases hi:i<vs.length
   ·exact hi
   ·rw[qA1 (by simpa using hi)]at h2;rw[qJ0]at h2;split at h2<;>cases h2
  have ha:vs[i]?=some v:=by
   unfold start at h2;rw[qA8 (by simpa using hi),qC1]at h2;cases e:vs[i]? with
   |none=>rw[e]at h2;cases h2
   |some a=>rw[e]at h2;cases h2;rfl
  obtain⟨u,hu,rv⟩:=r.get ha;have hp:ps[i]?=some y:=by rw[<- S.pre,List.getElem?_take_of_lt (by omega)];exact h1
  have ndP:ps.Nodup:=by rw[<- S.pre];exact S.nd.sublist (qG5 _ _)
  refine⟨u,rv,?_⟩;rcases S.par y (qB4 hp)with k|k
  ·exact .inl ⟨k,zJN ndP hp hu k⟩
  ·obtain⟨c,e⟩:=zM1 (n:=s.heap.objs.size+1) k;refine .inr ⟨.inl k,c,e,?_⟩;have q:=x.cell y c e;rw[zJP ndP hp hu (by show scope.names.lookup y≠_;rw[k];decide)]at q;exact q
 ·exact e0.hok.fresh (qH1 (x.above y c (PySem.mem_of_lookup h)))
 ·unfold start;show _=N.length;rw[qB3,qA0,qI0];omega
theorem zZz{CX:CXT}{P:Program}{w:World}{K:W.Frag}{mg:Str->yF}{base:Heap}{k:Nat}{f:Addr}{name qual:Str}{params:Arguments}{body:List Stmt}{scope:Scope}{dV kV doc pm cdv ct oc:Value}{an od:Option Addr}
  {osl:Array (yF)}{N ps:yH}{sp:Sp} (lk:K.lookup f=some ⟨oc,od,.func (W.fnOf name qual params body scope dV kV doc pm an cdv ct),osl⟩) (hcd:W.codeIn K cdv qual=true) (S:zIB N ps scope)
  (len:∀vs H Q E,sp vs H Q E->vs.length=ps.length)
  (hbody:∀(A:Around) (outer:List Env) (s:Shared) (H:Hp) (vs:List V) (Q:VK) (E:XK),Room k (A.deeper (envOfC qual scope s.heap.objs.size f cdv))->sp vs H Q E ->
   ∃t,PSs (cxOf CX P w K mg base N qual scope f cdv A outer s H E) body t/\t { nx:=fun _ H'=>Q .non H',rt:=Q } (start N vs) H) :
  FnOk P w K mg base CX (k+1) f (W.fnOf name qual params body scope dV kV doc pm an cdv ct) ps sp:=by
 refine⟨len,fun A outer s H args us vs Q E hr e0 hb r hsp=>?_⟩;have hl:=len _ _ _ _ hsp;have KX:K.In s.heap:=e0.mod.kin.keeps fun b o e=>(e0.bs b o e).1;have lim:s.heap.NoLimit:=e0.mod.nolimit.keeps fun b o e=>(e0.bs b o e).1;have hkind:∀y∈ps.zip us,scope.names.lookup y.1=some .local∨(scope.names.lookup y.1=some .cell/\((cellsFrom (s.heap.objs.size+1) scope.names []).lookup y.1).isSome=true):=fun⟨n,v⟩ hy=>by
  rcases S.par n (qO5 hy).1 with q|q
  ·exact .inl q
  ·exact .inr ⟨q,W.cellsFrom_some _ _ _ (.inl q)⟩
 refine codeAny_call_function hr.depth (KX _ _ lk) rfl S.co S.gen rfl (W.codeRec_of KX hcd) (hb _ _ _ _ ?_);refine wpAny_newFunctionEnv_cells S.kind hkind fun env he s1 x=>?_;subst he;refine⟨lim.keeps x.toInCall.keep,codeAny_func ?_⟩;obtain⟨t,ht,hq⟩:=hbody A outer s H vs Q E (hr.deeper _) hsp;have I:Inv (cxOf CX P w K mg base N qual scope f cdv A outer s H E) [] (start N vs) H s1:=zOJ S hr.hd e0 hl r x;refine wpAny_mono (ht [] s1 (start N vs) H _ I hq) (fun fl s' hs=>?_) fun e s' hs=>hs;have fin:∀{σ':St}{H':Hp}{v:V}{u:Value},Inv (cxOf CX P w K mg base N qual scope f cdv A outer s H E) [] σ' H' s'->RelV v u->Q v H'->CE outer P w H s Q u s' :=
  fun{σ' H' v u} J rv q=>⟨v,H',J.os,J.bare,J.base,J.hok,rv,q⟩
 cases fl with
 |ret u =>
  obtain⟨v,σ',H',J,rv,q⟩:=hs;exact fin J rv q
 |next =>
  obtain⟨σ',H',J,q⟩:=hs;exact fin (v:=V.non) (u:=Value.none) J rfl q
 |brk =>
  obtain⟨_,_,_,q⟩:=hs;exact False.elim q
 |cont =>
  obtain⟨_,_,_,q⟩:=hs;exact False.elim q
section
variable {X:Cx}{x:Str}{p pos:Pos}{e:Expr}{es:yE}{t:TA}{id T:String}{r:List V->Hp->VK->Prop}
def tCB(r:List V->Hp->VK->Prop)(t:TA):TE:=fun σ H Q=>t σ H fun vs H1=>r vs H1 Q
theorem zQL(hc:zBE X (.builtin id) r)(hg:Gl X x)(hm:X.mg x=none)(hv:bootBuiltins x=some (.builtin id))(ha:PA X (e::es) t)(hn:x ≠ "__name__":=by decide)(hdb:(x == ("__debug__":Str))=false:=by decide)
  (he:starEach (e::es) X.env=(false,eval e X.env)::starEach es X.env:=by rfl) (hpl:(backTo pos (starEach es X.env)).any (·.1)=false:=by rfl):PE X (.Call (.Name x p) (e::es) [] pos) (tCB r t):=by intro pins s σ H Q I h;refine wpAny_Call_Name_kw (zG9 I hg hm hv ?_ hn hdb);exact PyProof.Rows.callWith_builtin1 (thn (ha pos pins s σ H _ I h) fun us s1 ⟨vs,H1,I1,r1,q1⟩=>hc pins s1 σ H1 vs us Q I1 r1 q1) he hpl
theorem zFX(hc:zBE X (.type T) r)(hg:Gl X x)(hm:X.mg x=none)(hv:bootBuiltins x=some (.type T))(ha:PA X (e::es) t)(hn:x ≠ "__name__":=by decide)(hdb:(x == ("__debug__":Str))=false:=by decide)
  (he:starEach (e::es) X.env=(false,eval e X.env)::starEach es X.env:=by rfl) (hpl:(backTo pos (starEach es X.env)).any (·.1)=false:=by rfl):PE X (.Call (.Name x p) (e::es) [] pos) (tCB r t):=by intro pins s σ H Q I h;refine wpAny_Call_Name_kw (zG9 I hg hm hv ?_ hn hdb);exact PyProof.Rows.callWith_type1 (thn (ha pos pins s σ H _ I h) fun us s1 ⟨vs,H1,I1,r1,q1⟩=>hc pins s1 σ H1 vs us Q I1 r1 q1) he hpl
end
end L2
namespace HT
open PySem PyProof.Rows
noncomputable def lexLt:yA->yA->Bool
 |[],[]=>false
 |[],_::_=>true
 |_::_,[]=>false
 |x::xs,y::ys=>if x=y then lexLt xs ys else decide (x<y)
theorem lexLt_cons(x y:Int)(xs ys:yA):lexLt (x::xs) (y::ys)=if x=y then lexLt xs ys else decide (x<y):=rfl
theorem zI2:lexLt [] []=false:=rfl
theorem zGU(y:Int)(ys:yA):lexLt [] (y::ys)=true:=rfl
theorem zGV(x:Int)(xs:yA):lexLt (x::xs) []=false:=rfl
theorem zRv(A:Around)(s:Shared)(a:Int)(t:Tok)(c:Int)(u:Tok):∃e,SeqAt.EqAt A s (.int a t) (.int c u) e/\(e=true↔a=c) :=
 ⟨(a == c),SeqAt.EqAt.int_int a t c u,by simp⟩
theorem zQt(A:Around)(s:Shared)(a:Int)(t:Tok)(c:Int)(u:Tok)(prog:Program)(w:World)(E:yL)(Q:yL)(h:Q (.bool (decide (a<c))) s):
  wpAny (model prog w) A (richCompare .Lt (.int a t) (.int c u)) Q E s :=
 (PyProof.Rows.lt_int h:wpAny (model prog w) A (compareOp .Lt (.int a t) (.int c u)) Q E s)
section
open PySem.SeqAt
open PySem.AutoSeq1 (wpAny_loadPart')
open PySem.MeetsSeq PySem.MeetsSeq2 PySem.MeetsSeq3
theorem tuple_lt_ints(l b:Addr)(items items2:yJ)(n n2:Nat)(dd dd2:Option Addr)(sl sl2:Array (yF))(ns ms:yA)(hi:IntsAre items.toList ns)(hj:IntsAre items2.toList ms):
  Meets (Builtin.«tuple.__lt__» ⟨[.ref l,.ref b],[]⟩)
   (fun _ R s=>s.heap.get? l=some { cls:=.type "tuple",dict:=dd,data:=.seq items n,slots:=sl }/\s.heap.get? b=some { cls:=.type "tuple",dict:=dd2,data:=.seq items2 n2,slots:=sl2 } /\
    R (.ok (.ret (.bool (lexLt ns ms)))) s) :=
 .of_wp fun prog w A R s h=>by
  obtain⟨hp,g,d,tk,os⟩:=s;obtain⟨hl,hb,h⟩:=h;have f2:=AutoSeq1.sub_tuple_tuple;have z1:items.size=ns.length:=by rw[<- hi.length];simp
  have z2:items2.size=ms.length:=by rw[<- hj.length];simp
  wp_walk using wpAny_loadPart' hl,wpAny_loadPart' hb,wpAny_forIn_list _ (fun rest b s'=>b.1=none/\s'=⟨hp,g,d,tk,os⟩/\∃(vs ws:yB) (ns' ms':yA),rest=vs.zip ws /\
   IntsAre vs ns'/\IntsAre ws ms'/\ns'.length+items2.size=ms'.length+items.size/\R (.ok (.ret (.bool (lexLt ns' ms')))) ⟨hp,g,d,tk,os⟩) _
  case turn =>
   rintro⟨y,x⟩ rest b s' ⟨hb',rfl,vs,ws,ns',ms',hz,hvi,hwi,hlen,hR⟩;cases hvi with
   |nil=>rw[qQ6]at hz;cases hz
   |cons a t hvi' =>
    cases hwi with
    |nil=>rw[qQ1]at hz;cases hz
    |cons c u hwi' =>
     rw[qK7]at hz;injection hz with hyx hrest;injection hyx with hy hx;subst hy hx;rw[lexLt_cons]at hR;simp only[qD1]at hlen;obtain⟨e,he,hiff⟩:=zRv A.in1 ⟨hp,g,d,tk,os⟩ a t c u;refine wpAny_bind (he prog w _ _ ?_);cases e with
     |true =>
      rw[if_pos (hiff.mp rfl)]at hR
      wp_walk
      exact⟨rfl,rfl,_,_,_,_,hrest,hvi',hwi',by omega,hR⟩
     |false =>
      rw[if_neg (fun q=>absurd (hiff.mpr q) qB0)]at hR;have hri:=zQt A.in1 ⟨hp,g,d,tk,os⟩ a t c u prog w
      wp_walk using hri
      exact⟨_,rfl,by simpa using hR⟩
  case fin =>
   rintro⟨b1,b2⟩ s' ⟨hb',rfl,vs,ws,ns',ms',hz,hvi,hwi,hlen,hR⟩;simp only at hb';subst hb';have hv:lexLt ns' ms'=decide (items.size<items2.size):=by
    cases hvi with
    |nil =>
     cases hwi with
     |nil =>
      simp only[qH7]at hlen;rw[zI2];exact(decide_eq_false (by omega)).symm
     |cons c u hw =>
      simp only[qH7,qD1]at hlen;rw[zGU];exact(decide_eq_true (by omega)).symm
    |cons a t hv =>
     cases hwi with
     |nil =>
      simp only[qH7,qD1]at hlen;rw[zGV];exact(decide_eq_false (by omega)).symm
     |cons c u hw =>
      rw[qK7]at hz;cases hz
   rw[hv]at hR
   wp_walk
   exact⟨_,rfl,by simpa[Builtin.Tuple.tupleCompareSizes]using hR⟩
  case h =>
   exact⟨rfl,rfl,items.toList,items2.toList,ns,ms,rfl,hi,hj,by omega,h⟩
end
section
variable {prog:Program}{w:World}{A:Around}{E:yL}{s:Shared}
theorem lt_tupInts{l b:Addr}{items items2:yJ}{ns ms:yA}{Q:yL}(hl:IsTup s.heap l items)(hb:IsTup s.heap b items2)(hi:IntsAre items.toList ns)(hj:IntsAre items2.toList ms)
  (hu:A.units<cLine) (h:Q (.bool (lexLt ns ms)) s):wpAny (model prog w) A (compareOp .Lt (.ref l) (.ref b)) Q E s:=by
 obtain⟨⟨cls,dd,data,sl⟩,ho,hc,n,hd⟩:=id hl;obtain⟨⟨cls2,dd2,data2,sl2⟩,ho2,hc2,n2,hd2⟩:=id hb;simp only at hc hd hc2 hd2;subst hc hd hc2 hd2;exact richCompare_meets_room (op:=.Lt) ⟨_,ho,rfl⟩ ⟨_,ho2,rfl⟩ PySem.F.slot_tuple_lt PySem.F.entry_tuple_lt (PySem.F.args_tuple_lt_2 _ _) (tuple_lt_ints l b items items2 n n2 dd dd2 sl sl2 ns ms hi hj)
  ⟨ho,ho2,show Value.bool (lexLt ns ms)≠Value.notImplemented/\Q (.bool (lexLt ns ms)) s from⟨(fun x=>nomatch x),h⟩⟩ hu
theorem cat_tup{t b:Addr}{vs ws:yB}{Q:yL}(ht:IsTup s.heap t vs.toArray)(hb:IsTup s.heap b ws.toArray)(hv:vs≠[])
  (h1:ws=[]->Q (.ref t) s) (h2:ws≠[]->Q (.ref s.heap.objs.size) { s with heap:=s.heap.push { cls:=.type "tuple",data:=.seq (vs++ws).toArray } })
  (hsz:vs.length+ws.length<=sizeLine):wpAny (model prog w) A (binaryOp .Add (.ref t) (.ref b)) Q E s:=by
 obtain⟨⟨cls,dd,data,sl⟩,ho,hc,n,hd⟩:=id ht;obtain⟨⟨cls2,dd2,data2,sl2⟩,ho2,hc2,n2,hd2⟩:=id hb;simp only at hc hd hc2 hd2;subst hc hd hc2 hd2;have e:vs.toArray++ws.toArray=(vs++ws).toArray:=by simp
 by_cases hw:ws=[]
 ·exact concat_meets ⟨_,ho,rfl⟩ ⟨_,ho2,rfl⟩ noFill_tuple_add seq_tuple_add PySem.F.slot_tuple_add PySem.F.entry_tuple_add (PySem.F.args_tuple_add_2 _ _)
   (tuple_addW1 t b vs.toArray ws.toArray n n2 dd dd2 sl sl2 (by simpa using hv) (by simp[hw])) ⟨ho,ho2,h1 hw⟩
 ·refine concat_meets ⟨_,ho,rfl⟩ ⟨_,ho2,rfl⟩ noFill_tuple_add seq_tuple_add PySem.F.slot_tuple_add PySem.F.entry_tuple_add (PySem.F.args_tuple_add_2 _ _)
   (tuple_addW2 t b vs.toArray ws.toArray n n2 dd dd2 sl sl2 (by simpa using hv) (by simpa using hw) (by rw[qA9,qA9];exact hsz)) ⟨ho,ho2,?_⟩
  rw[e];exact h2 hw
noncomputable def sIx(n d:Nat):yG->Nat
 |none=>d
 |some v=>if v<0 then(v+(n:Int)).toNat else min v.toNat n
theorem sIx_none(n d:Nat):sIx n d none=d:=rfl
theorem sIx_nat(n d k:Nat):sIx n d (some (k:Int))=min k n:=by show(if(k:Int)<0 then((k:Int)+(n:Int)).toNat else min (k:Int).toNat n)=min k n;rw[if_neg (by omega),qI4]
theorem zVu(n d:Nat)(hd:d<=n)(o:yG):sIx n d o<=n:=by
 cases o with
 |none=>exact hd
 |some v =>
  show(if v<0 then(v+(n:Int)).toNat else min v.toNat n)<=n;by_cases hv:v<0
  ·rw[if_pos hv];omega
  ·rw[if_neg hv];exact Nat.min_le_right _ _
theorem zPs(v:Int)(n d:Nat):(if v<0 then max (v+(n:Int)) 0 else min v (n:Int))=((sIx n d (some v):Nat):Int):=by
 show(if v<0 then max (v+(n:Int)) 0 else min v (n:Int))=(((if v<0 then(v+(n:Int)).toNat else min v.toNat n):Nat):Int)
 by_cases hv:v<0
 ·simp only[if_pos hv];omega
 ·simp only[if_neg hv];omega
theorem zNj(lo hi:yG)(n:Nat):Builtin.Slice.sliceAdjust lo hi 1 (n:Int)=(((sIx n 0 lo:Nat):Int),((sIx n n hi:Nat):Int)):=by
 have h1:¬((1:Int)<0):=by omega
 unfold Builtin.Slice.sliceAdjust;simp only[h1,if_false];refine Prod.ext ?_ ?_
 ·cases lo with
  |none=>rfl
  |some v=>exact zPs v n 0
 ·cases hi with
  |none=>rfl
  |some v=>exact zPs v n n
theorem zMm(i j:Nat):Builtin.Slice.slicePlaces (i:Int) (j:Int) 1=j - i:=by
 unfold Builtin.Slice.slicePlaces;have h1:(1:Int)>0:=by omega
 simp only[h1,if_true,Int.ediv_one];split<;>omega
theorem zHe{v:Value}{o:yG}{Q:yG->Shared->Prop}(p:IsPart v o)(h:Q o s):wpAny (model prog w) A (Builtin.Slice.slicePartIndex v) Q E s:=by
 cases p with
 |none=>exact slicePart_none h
 |int i t=>exact slicePart_int h
theorem sliceApplied_gen{sl:Addr}{vl vu:Value}{lo hi:yG}{n:Nat}{Q:Int×Int×Nat->Shared->Prop}(hs:s.heap.IsSliceOf sl vl vu .none)(pl:IsPart vl lo)(pu:IsPart vu hi)
  (h:Q (((sIx n 0 lo:Nat):Int),1,sIx n n hi - sIx n 0 lo) s):wpAny (model prog w) A (Builtin.Slice.sliceApplied (.ref sl) (pure (n:Int))) Q E s:=by obtain⟨os,hos,hcs,hds⟩:=id hs;unfold Builtin.Slice.sliceApplied Builtin.Slice.sliceFields;refine wpAny_bind (wpAny_bind (wpAny_field hos hds (x:=vl) rfl (wpAny_bind (wpAny_field hos hds (x:=vu) rfl (wpAny_bind (wpAny_field hos hds (x:=.none) rfl (wpAny_pure ?_)))))));refine wpAny_bind (slicePart_none ?_);show wpAny _ _ (if((1:Int) == 0)=true then _ else _) _ _ s;rw[if_neg (by decide)];refine wpAny_bind (zHe pl (wpAny_bind (zHe pu (wpAny_bind (wpAny_pure ?_)))));show wpAny _ _ (match Builtin.Slice.sliceAdjust lo hi 1 (n:Int)with|(lo,hi)=>pure (lo,(1:Int),Builtin.Slice.slicePlaces lo hi 1)) _ _ s;rw[zNj lo hi n];show wpAny _ _ (pure (((sIx n 0 lo:Nat):Int),(1:Int),Builtin.Slice.slicePlaces ((sIx n 0 lo:Nat):Int) ((sIx n n hi:Nat):Int) 1)) _ _ s;rw[zMm];exact wpAny_pure h
theorem zQC(xs:yJ)(i k:Nat):((List.range k).filterMap fun(m:Nat)=>xs[((i:Int)+(m:Int)*1).toNat]?).toArray=((xs.toList.drop i).take k).toArray:=by
 have e:(fun(m:Nat)=>xs[((i:Int)+(m:Int)*1).toNat]?)=fun m=>xs[i+m]?:=by
  funext m;have:((i:Int)+(m:Int)*1).toNat=i+m:=by omega
  rw[this]
 rw[e];have:=pick_run xs i k;rw[List.filterMap_map]at this;have e2:((fun x=>xs[x]?)∘fun x=>i+x)=fun m=>xs[i+m]?:=rfl;rw[e2]at this;rw[this]
theorem getItem_tuple_cut{t sl:Addr}{items:yJ}{vl vu:Value}{lo hi:yG}{Q:yL}(ht:IsTup s.heap t items)(hs:s.heap.IsSliceOf sl vl vu .none)(pl:IsPart vl lo)(pu:IsPart vu hi)
  (hw:¬(sIx items.size 0 lo=0/\sIx items.size items.size hi=items.size))
  (h:Q (.ref s.heap.objs.size) { s with heap:=s.heap.push { cls:=.type "tuple",data:=.seq ((items.toList.drop (sIx items.size 0 lo)).take (sIx items.size items.size hi - sIx items.size 0 lo)).toArray } })
  (hsz:items.size<=sizeLine):wpAny (model prog w) A (getItem (.ref t) (.ref sl)) Q E s:=by
 have htake:sizeOk (.seq ((items.toList.drop (sIx items.size 0 lo)).take (sIx items.size items.size hi - sIx items.size 0 lo)).toArray):=by show((items.toList.drop (sIx items.size 0 lo)).take (sIx items.size items.size hi - sIx items.size 0 lo)).toArray.size<=sizeLine;rw[qA9,qI9,qJ1,Array.length_toList];omega
 have hj:sIx items.size items.size hi<=items.size:=zVu _ _ (qB1 _) hi;obtain⟨os,hos,hcs,hds⟩:=id hs;have hTs:s.TypeIs (.ref sl) "slice":=⟨os,hos,hcs⟩
 unfold getItem
 try with_reducible refine wpAny_holding ?_
 first|refine wpAny_bind (wpAny_pure ?_)| skip
 refine wpAny_bind (wpAny_sequenceKey ht.typeIs (by decide) ?_);refine wpAny_bind (wpAny_callSpecial?_slot (name:=Str.ofString "__getitem__") ht.typeIs PyProof.Rows.slot_tuple_getitem
  (wpAny_call_entry PyProof.Rows.slot_tuple_getitem ht.typeIs entry_tuple_getitem ?_ (args_tuple_getitem _ _)))
 show wpAny _ _ (Builtin.Tuple.tupleItemsOf (.ref t) >>= _) _ _ s;refine wpAny_bind (tupleItemsOf_ ht ?_);refine wpAny_bind (wpAny_typeOf hTs ?_);rw[if_pos (by decide)];refine wpAny_bind (sliceApplied_gen hs pl pu ?_);have hno:¬((((sIx items.size 0 lo:Nat):Int) == 0&&(1:Int) == 1&&(sIx items.size items.size hi - sIx items.size 0 lo) == items.size)=true):=by intro q;rw[qC9,qC9]at q;have q1:((sIx items.size 0 lo:Nat):Int)=0:=eq_of_beq q.1.1;have q2:sIx items.size items.size hi - sIx items.size 0 lo=items.size:=eq_of_beq q.2;exact hw ⟨by omega,by omega⟩
 show wpAny _ _ (if(((sIx items.size 0 lo:Nat):Int) == 0&&(1:Int) == 1&&(sIx items.size items.size hi - sIx items.size 0 lo) == items.size)=true then _ else _) _ _ s;rw[if_neg hno,zQC]
 first
  |exact wpAny_bind (m:=Builtin.Tuple.tupleExact _) (wpAny_newObj_type (wpAny_pure ⟨_,rfl,wpAny_pure h⟩) htake)
  |exact wpAny_bind (m:=Builtin.Tuple.tupleExact _) (wpAny_newObj_type (wpAny_bind (wpAny_pure (wpAny_pure ⟨_,rfl,wpAny_pure h⟩))) htake)
  |exact wpAny_bind (wpAny_bind (m:=Builtin.Tuple.tupleExact _) (wpAny_newObj_type (wpAny_pure (wpAny_pure ⟨_,rfl,wpAny_pure h⟩)) htake))
  |exact wpAny_bind (wpAny_bind (m:=Builtin.Tuple.tupleExact _) (wpAny_newObj_type (wpAny_pure ⟨_,rfl,wpAny_pure h⟩) htake))
end
end HT
namespace L2
open PySem PySem.Spec PyProof.Rows
noncomputable abbrev TO:=St->Hp->(yG->Hp->Prop)->Prop
def PO(X:Cx)(e:Option Expr)(t:TO):Prop :=
 ∀(pins:yD) (s:Shared) (σ:St) (H:Hp) (Q:yG->Hp->Prop),Inv X pins σ H s->t σ H Q ->
  wpAny (model X.prog X.w) X.A (evalPart e X.env) (fun u s'=>∃o H',Inv X pins σ H' s'/\IsPart u o/\Q o H') X.xe s
def zSI:TO:=fun _ H Q=>Q none H
def zYh(t:TE):TO:=fun σ H Q=>t σ H fun x H1=>∃i,x=.int i/\Q (some i) H1
theorem zEY{ns:yA}:∀{us:yB},Vals (ns.map V.int) us->IntsAre us ns:=by
 induction ns with
 |nil=>intro us r;rw[qH2]at r;cases r;exact .nil
 |cons n ns ih =>
  intro us r;rw[qB5]at r;cases r with
  |cons r1 r2 =>
   obtain⟨t,e⟩:=r1;subst e;exact .cons n t (ih r2)
section
variable {X:Cx}{e:Expr}{te:TE}{lo hi:Option Expr}{tl th:TO}{pos p2:Pos}
theorem zTr:PO X none zSI:=by intro pins s σ H Q I h;rw[evalPart_none];exact wpAny_pure ⟨none,H,I,.none,h⟩
theorem zTq(h:PE X e te):PO X (some e) (zYh te):=by intro pins s σ H Q I hw;rw[evalPart_some];refine thn (h pins s σ H _ I hw) fun u s1 ⟨x,H1,I1,r1,q1⟩=>?_;obtain⟨i,rfl,q⟩:=q1;obtain⟨t,rfl⟩:=r1;exact⟨some i,H1,I1,.int i t,q⟩
def SlR(X:Cx)(r:V->yG->yG->Hp->VK->Prop):Prop :=
 ∀(pins:yD) (s:Shared) (σ:St) (H:Hp) (x:V) (v vl vu:Value) (lo hi:yG) (sl:Addr) (Q:VK),Inv X pins σ H s->RelV x v->s.heap.IsSliceOf sl vl vu .none->IsPart vl lo->IsPart vu hi->r x lo hi H Q ->
  ∃T id,typeLookup (.type T) "__getitem__"=pure (some (.builtin id))/\s.TypeIs v T/\wpAny (model X.prog X.w) X.A (getItem v (.ref sl)) (EP X pins σ Q) X.xe s
def tSl(r:V->yG->yG->Hp->VK->Prop)(te:TE)(tl th:TO):TE:=fun σ H Q=>te σ H fun x H1=>tl σ H1 fun l H2=>th σ H2 fun u H3=>r x l u H3 Q
theorem zQG{r:V->yG->yG->Hp->VK->Prop}(hr:SlR X r)(he:PE X e te)(hl:PO X lo tl)(hu:PO X hi th):PE X (.Subscript e (.Slice lo hi none p2) pos) (tSl r te tl th):=by intro pins s σ H Q I h;refine Subscript_ (thn (he pins s σ H _ I h) fun v s1 ⟨x,H1,I1,r1,q1⟩=>?_);refine wpAny_Slice (thn (hl pins s1 σ H1 _ I1 q1) fun vl s2 ⟨l,H2,I2,pl,q2⟩=>thn (hu pins s2 σ H2 _ I2 q2) fun vu s3 ⟨u,H3,I3,pu,q3⟩=>?_);rw[evalPart_none];refine wpAny_pure ?_;have I4:Inv X pins σ H3 { s3 with heap:=s3.heap.push { cls:=.type "slice",data:=.fields #[vl,vu,.none] } }:=I3.kept (t':=s3.toks) fun b ob q=>qA6 _ q;obtain⟨T,id,hT,ht,hg⟩:=hr pins { s3 with heap:=s3.heap.push { cls:=.type "slice",data:=.fields #[vl,vu,.none] } } σ H3 x v vl vu l u s3.heap.objs.size Q I4 r1 (Heap.IsSliceOf.new ..) pl pu q3;show wpAny (model X.prog X.w) X.A (subscriptTail e (.Slice lo hi none p2) v (.ref s3.heap.objs.size)) (EP X pins σ Q) X.xe { s3 with heap:=s3.heap.push { cls:=.type "slice",data:=.fields #[vl,vu,.none] } };exact tail_any (ops:=[.ref s3.heap.objs.size,v]) ht hT hg (by with_unfolding_all rfl)
noncomputable def cutV(xs:List V)(lo hi:yG):List V:=(xs.drop (HT.sIx xs.length 0 lo)).take (HT.sIx xs.length xs.length hi - HT.sIx xs.length 0 lo)
theorem zGx(xs:List V)(lo hi:yG):(cutV xs lo hi).length<=xs.length:=by unfold cutV;rw[qI9,qJ1];omega
def rSlT(K:W.Frag):V->yG->yG->Hp->VK->Prop:=fun x lo hi H Q=>∃a xs,x=.ref a/\SqT K H a xs /\
 ¬(HT.sIx xs.length 0 lo=0/\HT.sIx xs.length xs.length hi=xs.length)/\∀p,H p=none->Q (.ref p) (upd H p (.tup (cutV xs lo hi)))
theorem zVd:SlR X (rSlT X.K):=by
 intro pins s σ H x v vl vu lo hi sl Q I rx hs pl pu h;obtain⟨a,xs,rfl,hx,hw,q⟩:=h;cases rx;obtain⟨its,r,ht,hz⟩:=I.tuple hx;have hlen:its.toArray.size=xs.length:=by rw[qA9];exact r.length.symm
 refine⟨"tuple",_,PyProof.Rows.slot_tuple_getitem.lookup,ht.typeIs,?_⟩;refine HT.getItem_tuple_cut ht hs pl pu (by rw[hlen];exact hw) ?_ (by rw[hlen];exact hz);rw[hlen];refine⟨.ref s.heap.objs.size,_,I.laid (t':=s.toks) (o:=.tup (cutV xs lo hi)) (fun b ob q=>qA6 _ q) (qB1 _) ?_,rfl,q _ (I.hok.fresh (qB1 _))⟩;exact⟨qD3 (zGx xs lo hi) hz,_,(r.drop (HT.sIx xs.length 0 lo)).take (HT.sIx xs.length xs.length hi - HT.sIx xs.length 0 lo),IsTup.new _ _⟩
def zYH(K:W.Frag):R2:=fun x y H Q=>∃a b xs ys,x=.ref a/\y=.ref b/\SqT K H a xs/\SqT K H b ys/\xs≠[]/\xs.length+ys.length<=sizeLine /\
 (ys=[]->Q (.ref a) H)/\(ys≠[]->∀p,H p=none->Q (.ref p) (upd H p (.tup (xs++ys))))
theorem Vals.nil_iff{xs:List V}{us:yB}(r:Vals xs us):us=[]↔xs=[]:=by
 cases r with
 |nil=>simp
 |cons _ _=>simp
theorem zTB:OpR X (binaryOp .Add) (zYH X.K):=by intro pins s σ H x y v u Q I rx ry h;obtain⟨a,b,xs,ys,rfl,rfl,ha,hb,hx,hz,q1,q2⟩:=h;cases rx;cases ry;obtain⟨its,r1,p1,_⟩:=I.tuple ha;obtain⟨its2,r2,p2,_⟩:=I.tuple hb;refine HT.cat_tup p1 p2 (fun z=>hx (r1.nil_iff.mp z)) (fun z=>⟨.ref a,H,I,rfl,q1 (r2.nil_iff.mp z)⟩) (fun z=>?_) (by rw[<- r1.length,<- r2.length];exact hz);refine⟨.ref s.heap.objs.size,_,I.laid (t':=s.toks) (o:=.tup (xs++ys)) (fun b ob q=>qA6 _ q) (qB1 _) ?_,rfl,q2 (fun w=>z (r2.nil_iff.mpr w)) _ (I.hok.fresh (qB1 _))⟩;exact⟨by rw[qB3];exact hz,_,r1.append r2,IsTup.new _ _⟩
end
noncomputable def ixN(n:Nat)(i:Int):yK:=if 0<=i then(if i<n then some i.toNat else none)else if -(n:Int)<=i then some (i+n).toNat else none
noncomputable def atI{α:Type}(xs:List α)(i:Int):Option α:=(ixN xs.length i).bind fun j=>xs[j]?
theorem zOD{n:Nat}{i:Int}{j:Nat}(h:ixN n i=some j):seqIndex? i n=some j/\j<n/\-(n:Int)<=i/\i<n:=by
 unfold ixN at h;by_cases h0:0<=i
 ·rw[if_pos h0]at h;by_cases h1:i<n
  ·rw[if_pos h1]at h;have e:i.toNat=j:=Option.some.inj h;exact⟨by rw[seqIndex_of h0 h1,e],by omega,by omega,h1⟩
  ·rw[if_neg h1]at h;cases h
 ·rw[if_neg h0]at h;by_cases h1:-(n:Int)<=i
  ·rw[if_pos h1]at h;have e:(i+n).toNat=j:=Option.some.inj h;exact⟨by rw[seqIndex_neg (by omega) h1,e],by omega,h1,by omega⟩
  ·rw[if_neg h1]at h;cases h
theorem zPT{α:Type}{xs:List α}{i:Int}{v:α}(h:atI xs i=some v):∃j,seqIndex? i xs.length=some j/\xs[j]?=some v/\j<xs.length/\-(xs.length:Int)<=i/\i<xs.length:=by
 unfold atI at h;cases e:ixN xs.length i with
 |none=>rw[e]at h;cases h
 |some j =>
  rw[e]at h;obtain⟨h1,h2,h3,h4⟩:=zOD e;exact⟨j,h1,h,h2,h3,h4⟩
theorem zCq{α:Type}{xs:List α}{j:Nat}{v:α}(h:xs[j]?=some v):atI xs (j:Int)=some v:=by
 have hj:j<xs.length:=(qA2.mp h).1;have e:ixN xs.length (j:Int)=some j:=by unfold ixN;rw[if_pos (by omega),if_pos (by omega)];simp
 unfold atI;rw[e];exact h
def zLd(b:Expr):Prop:=∀o i,subscripted b false o i=operate [o,i] (getItem o i)
def IxR(X:Cx)(r:R2):Prop :=
 ∀(value slice:Expr) (pins:yD) (s:Shared) (σ:St) (H:Hp) (x y:V) (v u:Value) (Q:VK),Inv X pins σ H s->RelV x v->RelV y u->r x y H Q ->
  subscripted slice false v u=operate [v,u] (getItem v u)->wpAny (model X.prog X.w) X.A (subscriptTail value slice v u) (EP X pins σ Q) X.xe s
def MtR(X:Cx)(id:String)(r:V->List V->Hp->VK->Prop):Prop :=
 ∀(pins:yD) (s:Shared) (σ:St) (H:Hp) (x:V) (xs:List V) (v:Value) (us:yB) (Q:VK),Inv X pins σ H s->RelV x v->Vals xs us->r x xs H Q ->
  wpAny (model X.prog X.w) X.A (call (.builtin id) (v::us)) (EP X pins σ Q) X.xe s
section
variable {X:Cx}{a b:Expr}{ta tb:TE}{pos:Pos}
theorem zYN{r:R2}(hr:IxR X r)(ha:PE X a ta)(hb:PE X b tb)(hs:zLd b):PE X (.Subscript a b pos) (tOp r ta tb):=by intro pins s σ H Q I h;exact Subscript_ (binT ha hb I h fun v u s2 x y H2 I2 rx ry q=>hr a b pins s2 σ H2 x y v u Q I2 rx ry q (hs _ _))
def rIxL(K:W.Frag):R2:=fun x y H Q=>∃p xs i v,x=.ref p/\y=.int i/\SqL K H p xs/\atI xs i=some v/\Q v H
def rIxT(K:W.Frag):R2:=fun x y H Q=>∃p xs i v,x=.ref p/\y=.int i/\SqT K H p xs/\atI xs i=some v/\Q v H
theorem zTZ:IxR X (rIxL X.K):=by
 intro value slice pins s σ H x y v u Q I rx ry h hs;obtain⟨p,xs,i,z,rfl,rfl,hq,he,q⟩:=h;cases rx;obtain⟨t,rfl⟩:=ry;obtain⟨its,r,pl,hz⟩:=I.list hq;obtain⟨j,h1,h2,h3,h4,h5⟩:=zPT he;obtain⟨w,ew,rw'⟩:=r.get h2;have hl:=r.length;have hn:=zHl;have fin:EP X pins σ Q w s:=⟨z,H,I,rw',q⟩
 by_cases h0:0<=i
 ·have hj:i.toNat=j:=by rw[seqIndex_of h0 h5]at h1;exact Option.some.inj h1
  exact item_listR pl.isList h0 (by omega) (by rw[hj];simpa using ew) fin hs
 ·have hj:(i+(its.toArray.size:Int)).toNat=j:=by rw[seqIndex_neg (by omega) h4]at h1;rw[qA9,<- hl];exact Option.some.inj h1
  exact subscriptTail_builtinR (x:=w) pl.isList.typeIs slot_list_getitem.lookup
   (wpAny_getItem_list_neg (Q:=fun r s'=>r=w/\EP X pins σ Q r s') pl.isList (by omega) (by rw[qA9]<;>omega) (by omega) (by rw[hj];simpa using ew) ⟨rfl,fin⟩) hs
theorem zWA:IxR X (rIxT X.K):=by
 intro value slice pins s σ H x y v u Q I rx ry h hs;obtain⟨p,xs,i,z,rfl,rfl,hq,he,q⟩:=h;cases rx;obtain⟨t,rfl⟩:=ry;obtain⟨its,r,pl,hz⟩:=I.tuple hq;obtain⟨j,h1,h2,h3,h4,h5⟩:=zPT he;obtain⟨w,ew,rw'⟩:=r.get h2;have hl:=r.length;have hn:=zHl;have fin:EP X pins σ Q w s:=⟨z,H,I,rw',q⟩
 exact subscriptTail_builtinR (x:=w) pl.typeIs slot_tuple_getitem.lookup
  (getItem_tuple (j:=j) (Q:=fun r s'=>r=w/\EP X pins σ Q r s') pl (by omega) (by omega) (by rw[qA9,<- hl];exact h1) (by simpa using ew) ⟨rfl,fin⟩) hs
theorem zMs(its:yB)(n j:Nat)(u:Value):Obj.mapSeq (·.setIfInBounds j u) { cls:=.type "list",data:=.seq its.toArray n }={ cls:=.type "list",data:=.seq (its.set j u).toArray n }:=by simp[Obj.mapSeq]
theorem Inv.lst{pins:yD}{σ:St}{H:Hp}{s:Shared}{p:Addr}{xs:List V}(I:Inv X pins σ H s)(h:H p=some (.lst xs)):
  ∃(its:yB) (n:Nat),Vals xs its/\s.heap.get? p=some { cls:=.type "list",data:=.seq its.toArray n }/\xs.length<=sizeLine:=by obtain⟨z,its,n,r,e⟩:=I.hok p _ h;exact⟨its,n,r,e,z⟩
theorem Inv.lstUpd{pins:yD}{σ:St}{H:Hp}{s:Shared}{p:Addr}{xs ys:List V}{its its':yB}{n n':Nat}{f:Obj->Obj}(I:Inv X pins σ H s)(h:H p=some (.lst xs))
  (ho:s.heap.get? p=some { cls:=.type "list",data:=.seq its.toArray n }) (hf:f { cls:=.type "list",data:=.seq its.toArray n }={ cls:=.type "list",data:=.seq its'.toArray n' }) (r:Vals ys its') (hz:ys.length<=sizeLine) (t:Nat) :
  Inv X pins σ (upd H p (.lst ys)) { s with heap:=s.heap.update p f,toks:=t }:=by
 have e:(s.heap.update p f).get? p=some { cls:=.type "list",data:=.seq its'.toArray n' }:=by rw[qI1 f ho (by rw[hf]<;>rfl),hf]
 refine I.write (x:=p) (e:=p) (by rw[h];trivial) (.inl rfl) (fun b u hb q=>(qL1 _ _ (Ne.symm hb)).trans q) ⟨_,e⟩ ?_;exact⟨hz,its',n',r,e⟩
def zYF:V->V->V->Hp->(Hp->Prop)->Prop:=fun o i v H Q=>∃p xs k j,o=.ref p/\i=.int k/\H p=some (.lst xs)/\ixN xs.length k=some j/\Q (upd H p (.lst (xs.set j v)))
theorem zQk:PSet X zYF:=by
 intro pins s σ H o i v ov iv u Q I ro ri rv h;obtain⟨p,xs,k,j,rfl,rfl,hp,hj,q⟩:=h;cases ro;obtain⟨t,rfl⟩:=ri;obtain⟨its,n,r,ho,hz⟩:=I.lst hp;obtain⟨h1,h2,h3,h4⟩:=zOD hj;have hl:=r.length;have hn:=zHl;have I':Inv X pins σ (upd H p (.lst (xs.set j v))) { s with heap:=s.heap.update p (Obj.mapSeq (·.setIfInBounds j u)) } :=
  I.lstUpd hp ho (zMs its n j u) (r.set rv j) (by rw[qO6];exact hz) s.toks
 by_cases h0:0<=k
 ·have hk:k.toNat=j:=by rw[seqIndex_of h0 h4]at h1;exact Option.some.inj h1
  exact W.ki_setAt ho h0 (by omega) (by rw[qA9,<- hl];exact h4) (by rw[hk];exact⟨_,I',q⟩)
 ·have hk:(k+(its.toArray.size:Int)).toNat=j:=by rw[seqIndex_neg (by omega) h3]at h1;rw[qA9,<- hl];exact Option.some.inj h1
  exact W.ki_setBack ho (by omega) (by rw[qA9,<- hl];exact h3) (by omega) (by rw[hk];exact⟨_,I',q⟩)
theorem zIS(lo hi:yG)(n:Nat):(sliceBounds lo hi none n).1=((HT.sIx n 0 lo:Nat):Int)/\(sliceBounds lo hi none n).2.1=((HT.sIx n n hi:Nat):Int)/\(sliceBounds lo hi none n).2.2=1:=by
 refine⟨?_,?_,rfl⟩
 ·cases lo with
  |none=>simp[sliceBounds,HT.sIx]
  |some i =>
   simp only[sliceBounds,HT.sIx,qR2,show(1:Int)>0 by decide,if_true];by_cases h:i<0
   ·simp only[h,if_true]<;>omega
   ·simp only[h,if_false]<;>omega
 ·cases hi with
  |none=>simp[sliceBounds,HT.sIx]
  |some i =>
   simp only[sliceBounds,HT.sIx,qR2,show(1:Int)>0 by decide,if_true];by_cases h:i<0
   ·simp only[h,if_true]<;>omega
   ·simp only[h,if_false]<;>omega
theorem zHJ(its:yB)(lo hi:yG):slicePick its.toArray lo hi none=((its.drop (HT.sIx its.length 0 lo)).take (HT.sIx its.length its.length hi - HT.sIx its.length 0 lo)).toArray:=by obtain⟨h1,h2,h3⟩:=zIS lo hi its.toArray.size;unfold slicePick;rw[h1,h2,h3];simp only[sliceRange_one,pick_run,qA9]<;>rfl
def rSlL(K:W.Frag):V->yG->yG->Hp->VK->Prop:=fun x lo hi H Q=>∃a xs,x=.ref a/\SqL K H a xs/\∀p,H p=none->Q (.ref p) (upd H p (.lst (cutV xs lo hi)))
theorem zST:SlR X (rSlL X.K):=by intro pins s σ H x v vl vu lo hi sl Q I rx hs pl pu h;obtain⟨a,xs,rfl,hx,q⟩:=h;cases rx;obtain⟨its,r,ht,hz⟩:=I.list hx;have hlen:=r.length;refine⟨"list",_,slot_list_getitem.lookup,ht.isList.typeIs,?_⟩;refine wpAny_getItem_list_slice ht.isList hs pl pu .none (by simp) ?_ (by rw[qA9]<;>omega);rw[zHJ,<- hlen];refine⟨.ref s.heap.objs.size,_,I.laid (t':=s.toks) (o:=.lst (cutV xs lo hi)) (fun b ob q=>qA6 _ q) (qB1 _) ?_,rfl,q _ (I.hok.fresh (qB1 _))⟩;exact⟨qD3 (zGx xs lo hi) hz,_,0,(r.drop (HT.sIx xs.length 0 lo)).take (HT.sIx xs.length xs.length hi - HT.sIx xs.length 0 lo),qB7 _ rfl⟩
noncomputable def zGX:V->Bool
 |.non=>true
 |.bl _=>true
 |.int _=>true
 |.str _=>true
 |_=>false
noncomputable def eqV:V->V->Bool
 |.non,.non=>true
 |.bl a,.bl b=>a == b
 |.bl a,.int b=>(if a then 1 else 0) == b
 |.int a,.bl b=>a == (if b then 1 else 0)
 |.int a,.int b=>a == b
 |.str a,.str b=>a == b
 |_,_=>false
theorem zX0{A:Around}{s:Shared}{y x:V}{u v:Value}(ry:RelV y u)(rx:RelV x v)(fy:zGX y=true)(fx:zGX x=true):SeqAt.EqAt A s u v (eqV y x):=by
 cases y with
 |non =>
  cases ry;cases x with
  |non=>cases rx;exact SeqAt.EqAt.same _
  |bl b=>cases rx;exact SeqAt.EqAt.none_bool b
  |int b=>obtain⟨t,rfl⟩:=rx;exact SeqAt.EqAt.none_int b t
  |str b=>obtain⟨t,rfl⟩:=rx;exact SeqAt.EqAt.none_str b t
  |_=>exact absurd (show false=true from fx) qB0
 |bl a =>
  cases ry;cases x with
  |non=>cases rx;exact SeqAt.EqAt.bool_none a
  |bl b=>cases rx;exact SeqAt.EqAt.bool_bool a b
  |int b=>obtain⟨t,rfl⟩:=rx;exact SeqAt.EqAt.bool_int a b t
  |str b=>obtain⟨t,rfl⟩:=rx;exact SeqAt.EqAt.bool_str a b t
  |_=>exact absurd (show false=true from fx) qB0
 |int a =>
  obtain⟨t',rfl⟩:=ry;cases x with
  |non=>cases rx;exact SeqAt.EqAt.int_none a t'
  |bl b=>cases rx;exact SeqAt.EqAt.int_bool a t' b
  |int b=>obtain⟨t,rfl⟩:=rx;exact SeqAt.EqAt.int_int a t' b t
  |str b=>obtain⟨t,rfl⟩:=rx;exact SeqAt.EqAt.int_str a t' b t
  |_=>exact absurd (show false=true from fx) qB0
 |str a =>
  obtain⟨t',rfl⟩:=ry;cases x with
  |non=>cases rx;exact SeqAt.EqAt.str_none a t'
  |bl b=>cases rx;exact SeqAt.EqAt.str_bool a t' b
  |int b=>obtain⟨t,rfl⟩:=rx;exact SeqAt.EqAt.str_int a t' b t
  |str b=>obtain⟨t,rfl⟩:=rx;exact SeqAt.EqAt.str_str a t' b t
  |_=>exact absurd (show false=true from fx) qB0
 |_=>exact absurd (show false=true from fy) qB0
noncomputable def eqU(x:V)(u:Value):Bool:=match u with
 |.none=>eqV .non x
 |.bool b=>eqV (.bl b) x
 |.int i _=>eqV (.int i) x
 |.str z _=>eqV (.str z) x
 |_=>false
theorem zSk{x y:V}{u:Value}(r:RelV y u)(f:zGX y=true):eqU x u=eqV y x:=by
 cases y with
 |non=>cases r;rfl
 |bl b=>cases r;rfl
 |int i=>obtain⟨t,rfl⟩:=r;rfl
 |str z=>obtain⟨t,rfl⟩:=r;rfl
 |_=>exact absurd (show false=true from f) qB0
theorem zGM{x:V}:∀{xs:List V}{us:yB},Vals xs us->xs.all zGX=true->us.any (eqU x)=xs.any fun y=>eqV y x
 |_,_,.nil,_=>rfl
 |y::xs,u::us,.cons r t,f=>by rw[qJ7,qC9]at f;rw[qG2,qG2,zSk r f.1,zGM t f.2]
theorem zEm{A:Around}{s:Shared}{x:V}{v:Value}(rx:RelV x v)(fx:zGX x=true):∀{xs:List V}{us:yB},Vals xs us->xs.all zGX=true->∀u∈us,SeqAt.EqAt A s u v (eqU x u)
 |_,_,.nil,_=>fun u hu=>by cases hu
 |y::xs,u::us,.cons r t,f=>fun u' hu=>by
  rw[qJ7,qC9]at f;rcases qC0.mp hu with rfl|hu
  ·rw[zSk r f.1];exact zX0 r rx f.1 fx
  ·exact zEm rx fx t f.2 u' hu
noncomputable def inV(x:V)(xs:List V):Bool:=xs.any fun y=>eqV y x
def rIn(K:W.Frag)(neg:Bool):R2:=fun x y H Q=>∃p xs,y=.ref p/\(SqL K H p xs∨SqT K H p xs)/\zGX x=true/\xs.all zGX=true/\Q (.bl (if neg then !inV x xs else inV x xs)) H
theorem zOc:OpR X (compareOp .In) (rIn X.K false):=by
 intro pins s σ H x y v u Q I rx ry h;obtain⟨p,xs,rfl,hq,fx,fs,q⟩:=h;cases ry;rcases hq with hq|hq
 ·obtain⟨its,r,pl,hz⟩:=I.list hq;refine SeqAt.in_listAt (eqU x) pl.isList (fun w hw=>zEm rx fx r fs w (by simpa using hw)) ⟨.bl _,H,I,rfl,?_⟩;rw[show its.toArray.any (eqU x)=its.any (eqU x) by simp,zGM r fs];exact q
 ·obtain⟨its,r,pl,hz⟩:=I.tuple hq;refine SeqAt.in_tupleAt (eqU x) pl (fun w hw=>zEm rx fx r fs w (by simpa using hw)) ⟨.bl _,H,I,rfl,?_⟩;rw[show its.toArray.any (eqU x)=its.any (eqU x) by simp,zGM r fs];exact q
theorem zJ5:OpR X (compareOp .NotIn) (rIn X.K true):=by
 intro pins s σ H x y v u Q I rx ry h;obtain⟨p,xs,rfl,hq,fx,fs,q⟩:=h;cases ry;rcases hq with hq|hq
 ·obtain⟨its,r,pl,hz⟩:=I.list hq;refine SeqAt.notIn_listAt (eqU x) pl.isList (fun w hw=>zEm rx fx r fs w (by simpa using hw)) ⟨.bl _,H,I,rfl,?_⟩;rw[show its.toArray.any (eqU x)=its.any (eqU x) by simp,zGM r fs];exact q
 ·obtain⟨its,r,pl,hz⟩:=I.tuple hq;refine SeqAt.notIn_tupleAt (eqU x) pl (fun w hw=>zEm rx fx r fs w (by simpa using hw)) ⟨.bl _,H,I,rfl,?_⟩;rw[show its.toArray.any (eqU x)=its.any (eqU x) by simp,zGM r fs];exact q
theorem zJG:zBE X (.builtin "len") (fun xs H Q=>∃p ys,xs=[.ref p]/\(SqL X.K H p ys∨SqT X.K H p ys)/\Q (.int ys.length) H):=by
 intro pins s σ H xs us Q I r h;obtain⟨p,ys,rfl,hq,q⟩:=h;obtain⟨u,rfl,rx⟩:=zDe r;cases rx;have hn:=zHl;rcases hq with hq|hq
 ·obtain⟨its,r',pl,hz⟩:=I.list hq;have hlen:=r'.length;exact Calls.call_len_list pl.isList (by simp only[qA9]<;>omega) ⟨.int ys.length,H,I.tok _,⟨s.toks+1,by rw[qA9,hlen]⟩,q⟩
 ·obtain⟨its,r',pl,hz⟩:=I.tuple hq;have hlen:=r'.length;exact len_tuple pl (by simp only[qA9]<;>omega) ⟨.int ys.length,H,I.tok _,⟨s.toks+1,by rw[qA9,hlen]⟩,q⟩
theorem zJF:zBE X (.builtin "len") (fun xs H Q=>∃z,xs=[.str z]/\z.length<=sizeLine/\Q (.int z.length) H):=by intro pins s σ H xs us Q I r h;obtain⟨z,rfl,hz,q⟩:=h;obtain⟨u,rfl,t,rfl⟩:=zDe r;have hn:=zHl;exact len_str (by omega) ⟨.int z.length,H,I.tok _,⟨_,rfl⟩,q⟩
theorem zJE:zBE X (.type "list") (fun xs H Q=>∃p ys,xs=[.ref p]/\(SqL X.K H p ys∨SqT X.K H p ys)/\∀l,H l=none->Q (.ref l) (upd H l (.lst ys))):=by
 intro pins s σ H xs us Q I r h;obtain⟨p,ys,rfl,hq,q⟩:=h;obtain⟨u,rfl,rx⟩:=zDe r;cases rx;have fin:∀(its:yB),Vals ys its->ys.length<=sizeLine->∀(h':Heap) (c':Nat),(∀b o',s.heap.get? b=some o'->h'.get? b=some o') ->
   h'.get? s.heap.objs.size=some { cls:=.type "list",dict:=none,data:=.seq its.toArray c',slots:=#[] }->EP X pins σ Q (.ref s.heap.objs.size) { s with heap:=h' }:=fun its r' hz h' c' kp e =>
  ⟨.ref s.heap.objs.size,_,I.laid (t':=s.toks) kp (qB1 _) (show zC9 X.prog X.w _ h' _ (.lst ys)from⟨hz,its,c',r',e⟩),rfl,q _ (I.hok.fresh (qB1 _))⟩
 rcases hq with hq|hq
 ·obtain⟨its,r',pl,hz⟩:=I.list hq;have hlen:=r'.length;obtain⟨o,ho,hc,n,hd⟩:=pl.isList;exact call_list_seq p (.inl rfl) ho hc hd (fun h' c' kp e=>fin its r' hz h' c' kp e) (by simp only[qA9]<;>omega)
 ·obtain⟨its,r',pl,hz⟩:=I.tuple hq;have hlen:=r'.length;obtain⟨o,ho,hc,n,hd⟩:=pl;exact call_list_seq p (.inr rfl) ho hc hd (fun h' c' kp e=>fin its r' hz h' c' kp e) (by simp only[qA9]<;>omega)
theorem zEu:zBE X (.type "tuple") (fun xs H Q=>∃p ys,xs=[.ref p]/\((SqL X.K H p ys/\∀l,H l=none->Q (.ref l) (upd H l (.tup ys)))∨(SqT X.K H p ys/\Q (.ref p) H))):=by
 intro pins s σ H xs us Q I r h;obtain⟨p,ys,rfl,h⟩:=h;obtain⟨u,rfl,rx⟩:=zDe r;cases rx;rcases h with⟨hq,q⟩| ⟨hq,q⟩
 ·obtain⟨its,r',pl,hz⟩:=I.list hq;have hlen:=r'.length;refine call_tuple_list pl.isList (fun h' kp=>?_) (by simp only[qA9]<;>omega);have I1:Inv X pins σ H { s with heap:=h' }:=I.kept (t':=s.toks) kp;have I2:Inv X pins σ (upd H h'.objs.size (.tup ys)) { s with heap:=h'.push { cls:=.type "tuple",data:=.seq its.toArray } } :=
   I1.laid (t':=s.toks) (fun b o e=>qA6 _ e) (qB1 _) (show zC9 X.prog X.w _ _ _ (.tup ys)from⟨hz,its,r',IsTup.new _ _⟩)
  exact⟨.ref h'.objs.size,_,I2,rfl,q _ (I1.hok.fresh (qB1 _))⟩
 ·obtain⟨its,r',pl,hz⟩:=I.tuple hq;exact call_tuple_same pl ⟨.ref p,H,I,rfl,q⟩
def tyV(K:W.Frag)(T:String)(x:V)(H:Hp):Prop:=match x with
 |.str _=>T = "str"
 |.int _=>T = "int"
 |.ref p=>(T = "list"/\∃xs,SqL K H p xs)∨(T = "tuple"/\∃o,K.lookup p=some o/\o.cls=.type "tuple"/\o.dict=none) ∨
   (T = "dict"/\((∃kvs,H p=some (.dK kvs))∨∃kvs,H p=some (.dT kvs)))∨(T = "set"/\∃S n,H p=some (.set S n))
 |_=>False
theorem zUR{pins:yD}{σ:St}{H:Hp}{s:Shared}{T:String}{x:V}{v:Value}(I:Inv X pins σ H s)(r:RelV x v)(ty:tyV X.K T x H):
  s.TypeIs v T/\∀a,v=.ref a->∃ob,s.heap.get? a=some ob/\ob.dict=none:=by
 cases x with
 |str z =>
  obtain⟨t,rfl⟩:=r;cases (show T = "str" from ty);exact⟨typeIs_str s z t,fun _ e=>nomatch e⟩
 |int i =>
  obtain⟨t,rfl⟩:=r;cases (show T = "int" from ty);exact⟨typeIs_int s i t,fun _ e=>nomatch e⟩
 |ref p =>
  cases r;rcases ty with⟨rfl,xs,hq⟩| ⟨rfl,o,hk,hc,hd⟩| ⟨rfl,hk⟩| ⟨rfl,S,n,hk⟩
  ·obtain⟨its,_,pl,_⟩:=I.list hq;refine⟨pl.isList.typeIs,fun a e=>?_⟩;cases e;obtain⟨o,n,e,c,hd,_⟩:=pl;exact⟨o,e,hd⟩
  ·refine⟨⟨o,I.kIn p o hk,hc⟩,fun a e=>?_⟩;cases e;exact⟨o,I.kIn _ o hk,hd⟩
  ·have z:∃o,s.heap.get? p=some o/\o.ExactDict:=by
    rcases hk with⟨kvs,hk⟩| ⟨kvs,hk⟩
    ·obtain⟨_,_,_,_,o,_,_,e,ex,_⟩:=I.hok p _ hk;exact⟨o,e,ex⟩
    ·obtain⟨_,_,_,_,o,_,_,e,ex,_⟩:=I.hok p _ hk;exact⟨o,e,ex⟩
   obtain⟨o,e,ex⟩:=z;refine⟨⟨o,e,ex.1⟩,fun a e2=>?_⟩;cases e2;exact⟨o,e,ex.2.1⟩
  ·obtain⟨o,_,_,_,e,ex,_⟩:=I.hok p _ hk;refine⟨⟨o,e,ex.1⟩,fun a e2=>?_⟩;cases e2;exact⟨o,e,ex.2.1⟩
 |_=>exact False.elim ty
def tBM(K:W.Frag)(T:String)(r:V->List V->Hp->VK->Prop)(to:TE)(t:TA):TE:=fun σ H Q=>to σ H fun x H1=>tyV K T x H1/\t σ H1 fun xs H2=>r x xs H2 Q
variable {o e:Expr}{es:yE}{to:TE}{t:TA}{name:Str}{apos cpos:Pos}{T id:String}{r:V->List V->Hp->VK->Prop}
theorem zYO(pa:PlainAttrs T)(slot:Slot T name id)(hty:typeOf (.builtin id)=pure (.type "method_descriptor"))(hm:MtR X id r)(ho:PE X o to)(ha:PA X (e::es) t)
  (hbase:attributeBase o name X.env (eval o X.env)=eval o X.env:=by rfl)
  (hfew:((backTo cpos (starEach (e::es) X.env)).all (fun x=>!x.1)&&(backToKw cpos (keywordEach [] X.env)).all (fun x=>x.1.isSome)
   && decide ((e::es).length+([]:List Keyword).length+(if([]:List Keyword).isEmpty then 0 else 1)<30))=true:=by rfl)
  (hline:(apos.endLine == cpos.line)=true:=by rfl) (hs:starEach (e::es) X.env=(false,eval e X.env)::starEach es X.env:=by rfl) (hplain:(backTo cpos (starEach es X.env)).any (·.1)=false:=by rfl) :
  PE X (.Call (.Attribute o name apos) (e::es) [] cpos) (tBM X.K T r to t):=by intro pins s σ H Q I h;refine wpAny_Call_method_late hbase hfew hline rfl (thn (ho pins s σ H _ I h) fun v s1 ⟨x,H1,I1,r1,ty,q1⟩=>?_);obtain⟨h1,h2⟩:=zUR I1 r1 ty;refine⟨T,id,pa,slot,hty,h1,h2,?_⟩;have hA:=ha cpos pins s1 σ H1 _ I1 q1;rw[hs]at hA ⊢;refine Calls.callWith_builtin (by show(false||(backTo cpos (starEach es X.env)).any (·.1))=false;rw[hplain]<;>rfl) (Calls.evalArgs_plain ?_);exact thn hA fun us s2 ⟨vs,H2,I2,r2,q2⟩=>hm pins s2 σ H2 x vs v us Q I2 r1 r2 q2
end
def MtM(X:Cx)(id:String)(r:V->List V->Hp->VK->Prop):Prop :=
 ∀(pins:yD) (s:Shared) (σ:St) (H:Hp) (x:V) (xs:List V) (v:Value) (us:yB) (Q:VK),Inv X pins σ H s->RelV x v->Vals xs us->r x xs H Q ->
  wpAny (model X.prog X.w) X.A (call (.builtin id) (v::us)) (EP X pins σ Q) X.xe s
theorem Vals.cinv{x:V}{xs:List V}:∀{us:yB},Vals (x::xs) us->∃u r,us=u::r/\RelV x u/\Vals xs r
 |_,.cons r t=>⟨_,_,rfl,r,t⟩
theorem Vals.ninv:∀{us:yB},Vals [] us->us=[]
 |_,.nil=>rfl
theorem Vals.one{x:V}{us:yB}(h:Vals [x] us):∃u,us=[u]/\RelV x u:=by obtain⟨u,r,rfl,a,t⟩:=h.cinv;rw[t.ninv];exact⟨u,rfl,a⟩
theorem Vals.two{x y:V}{us:yB}(h:Vals [x,y] us):∃u v,us=[u,v]/\RelV x u/\RelV y v:=by obtain⟨u,r,rfl,a,t⟩:=h.cinv;obtain⟨v,rfl,b⟩:=t.one;exact⟨u,v,rfl,a,b⟩
theorem Vals.dropLast{xs:List V}{us:yB}(h:Vals xs us):Vals xs.dropLast us.dropLast:=by
 induction h with
 |nil=>exact .nil
 |cons r t ih =>
  cases t with
  |nil=>exact .nil
  |cons q t'=>exact .cons r ih
section
variable {X:Cx}{pins:yD}{σ:St}{H:Hp}{s:Shared}{l b:Addr}{xs ys zs:List V}
theorem Inv.lset{its its':yB}{n:Nat}{f:yJ->yJ}{t':Nat}(I:Inv X pins σ H s)(hH:H l=some (.lst xs))
  (e:s.heap.get? l=some { cls:=.type "list",data:=.seq its.toArray n }) (hf:f its.toArray=its'.toArray) (hv:Vals ys its') (hz:ys.length<=sizeLine) :
  Inv X pins σ (upd H l (.lst ys)) { s with heap:=s.heap.update l (Obj.mapSeq f),toks:=t' }:=by have q:=PySem.IsL.update e f;rw[hf]at q;refine I.write (x:=l) (e:=l) (by rw[hH];exact trivial) (.inl rfl) (fun b' u hb hu=>(qL1 s.heap (Obj.mapSeq f) (Ne.symm hb)).trans hu) ⟨_,q⟩ ?_;exact⟨hz,its',_,hv,q⟩
theorem Inv.lnew{its:yB}{t':Nat}(I:Inv X pins σ H s)(hv:Vals ys its)(hz:ys.length<=sizeLine):
  Inv X pins σ (upd H s.heap.objs.size (.lst ys)) { s with heap:=s.heap.push { cls:=.type "list",data:=.seq its.toArray },toks:=t' } :=
 I.laid (fun _ _ q=>qA6 _ q) (qB1 _) ⟨hz,its,0,hv,qB7 _ rfl⟩
theorem Inv.fresh(I:Inv X pins σ H s):H s.heap.objs.size=none:=I.hok.fresh (qB1 _)
theorem Inv.lstM(I:Inv X pins σ H s)(hH:H l=some (.lst xs)):xs.length<=sizeLine/\∃(its:yB) (n:Nat),Vals xs its/\xs.length=its.length/\s.heap.get? l=some { cls:=.type "list",data:=.seq its.toArray n }:=by obtain⟨z,its,n,r,e⟩:=I.hok l _ hH;exact⟨z,its,n,r,r.length,e⟩
theorem zLB{n:Nat}(h:n<=sizeLine):Builtin.List.listTooLong n=false:=by unfold Builtin.List.listTooLong;exact decide_eq_false (by omega)
end
section
variable {X:Cx}
def zTf:V->List V->Hp->VK->Prop:=fun x vs H Q=>∃l xs y,x=.ref l/\vs=[y]/\H l=some (.lst xs)/\xs.length<sizeLine/\Q .non (upd H l (.lst (xs++[y])))
theorem zJ7:MtM X "list.append" zTf:=by intro pins s σ H x vs v us Q I rx rv h;obtain⟨l,xs,y,rfl,rfl,hH,hz,q⟩:=h;cases rx;obtain⟨u,rfl,ru⟩:=rv.one;obtain⟨z,its,n,r,hl,e⟩:=I.lstM hH;refine call_meets F.slot_list_append ⟨_,e,rfl⟩ F.entry_list_append (F.args_list_append_2 _ _) (PySem.list_append l its.toArray n u (by rw[qA9];omega)) ⟨e,?_⟩;refine⟨.non,_,I.lset (its':=its++[u]) hH e (by simp) (r.append (.cons ru .nil)) ?_,rfl,q⟩;rw[qB3,qP0];omega
def zTe:V->List V->Hp->VK->Prop:=fun x vs H Q=>∃l b xs zs,x=.ref l/\vs=[.ref b]/\H l=some (.lst xs)/\H b=some (.lst zs)/\xs.length+zs.length<=sizeLine/\Q .non (upd H l (.lst (xs++zs)))
theorem zOl:MtM X "list.extend" zTe:=by
 intro pins s σ H x vs v us Q I rx rv h;obtain⟨l,b,xs,zs,rfl,rfl,hH,hB,hz,q⟩:=h;cases rx;obtain⟨u,rfl,ru⟩:=rv.one;cases ru;obtain⟨z,its,n,r,hl,e⟩:=I.lstM hH;obtain⟨z2,its2,n2,r2,hl2,e2⟩:=I.lstM hB;have hsz:its.toArray.size+its2.toArray.size<=sizeLine:=by rw[qA9,qA9];omega
 have hlong:¬(!its.toArray.isEmpty&&Builtin.List.listTooLong (its.toArray.size+its2.toArray.size))=true:=by rw[zLB hsz,qT0];exact qB0
 refine call_meets F.slot_list_extend ⟨_,e,rfl⟩ F.entry_list_extend (F.args_list_extend_2 _ _)
  (AutoSeq1.list_extend_list_list_0 l its.toArray n b its2.toArray n2 hlong (by rw[qA9];omega) (by omega)) ⟨e,e2,?_⟩
 refine⟨.non,_,I.lset (its':=its++its2) hH e (by simp) (r.append r2) ?_,rfl,q⟩;rw[qB3];omega
def rCat:R2:=fun x y H Q=>∃l b xs zs,x=.ref l/\y=.ref b/\H l=some (.lst xs)/\H b=some (.lst zs)/\xs.length+zs.length<=sizeLine/\∀p,H p=none->Q (.ref p) (upd H p (.lst (xs++zs)))
theorem zWd:OpR X (binaryOp .Add) rCat:=by
 intro pins s σ H x y v u Q I rx ry h;obtain⟨l,b,xs,zs,rfl,rfl,hH,hB,hz,q⟩:=h;cases rx;cases ry;obtain⟨z,its,n,r,hl,e⟩:=I.lstM hH;obtain⟨z2,its2,n2,r2,hl2,e2⟩:=I.lstM hB;refine PySem.P.add_list e e2 ?_ (by rw[qA9,qA9];omega);have ea:its.toArray++its2.toArray=(its++its2).toArray:=by simp
 rw[ea];exact⟨.ref _,_,I.lnew (t':=s.toks) (r.append r2) (by rw[qB3];omega),rfl,q _ I.fresh⟩
end
end L2
namespace Att
open PySem PySem.W PySem.Calls PyProof.Rows
theorem zGg{P:Params}{h:Heap}:∀(ns:yA) (vs:yB),WellAll P h vs (ns.map WData.int)->IntsAre vs ns:=by
 intro ns
 induction ns with
 |nil =>
  intro vs w;rw[qH2]at w;cases w;exact .nil
 |cons n ns ih =>
  intro vs w;rw[qB5]at w;cases w with
  |cons a b =>
   cases a;exact .cons _ _ (ih _ b)
theorem zNT{l:OpenLaw}{n:Nat}(hn:l.most=some n){P:Params}{h:Heap}{args:List WData}{vals:yB}
  (hpre:l.row.toRowW.claim.pre args=true) (hwl:WellAll P h vals args) :
  ∃a vs ns,vals=[Value.ref a]/\args=[WData.list (ns.map WData.int)]/\h.get? a=some { cls:=.type "list",data:=.seq vs.toArray }/\IntsAre vs ns/\ns.length<=n:=by
 have hsh:WShape.hasAll [] args [.list .int]=true:=(pre_splitW hpre).1;have hc:l.pre.holds [] { args:=args }=true:=(pre_splitW hpre).2;obtain⟨d,r,rfl,h1,h2⟩:=hasAllW_cons hsh;obtain rfl:=hasAllW_nil h2;obtain⟨xs,rfl,h3⟩:=hasW_list h1;obtain⟨ns,rfl⟩:=items_int h3;have hlen:ns.length<=n:=by
  unfold OpenLaw.pre at hc;have h4:(WTm.not (.lt (.lit (.int (n:Int))) (.len (.arg 0)))).holds [] { args:=[.list (ns.map .int)] }=true:=by have h4:=(holds_andW hc).1;rw[hn]at h4;exact h4
  have h5:=condW_of h4 (w_not (w_lt w_lit (w_len_list (w_arg rfl))));rw[qA0]at h5;refine qO1 fun q=>?_;have q':(n:Int)<((ns.length:Nat):Int):=by omega
  first
   |(rw[decide_eq_true q']at h5;exact absurd h5 (by decide))
   |(simp at h5;omega)
 cases hwl with
 |cons w1 w2 =>
  cases w2;cases w1 with
  |list ho hall=>exact⟨_,_,ns,rfl,rfl,ho,zGg ns _ hall,hlen⟩
theorem zO1(l:OpenLaw)(args:List WData):l.row.toRowW.claim.post args (.bool true) args=true :=
 postW_of (r:=l.row.toRowW) (X:=(true == true))
  (show WShape.has [] (.bool true) .bool=true by first|rfl|decide|simp[WShape.has,WShape.arms,WShape.armsAll])
  (show(WTm.eq .res (.lit (.bool true))).value [] { args:=args,res:=some (.bool true),after:=args }=some (.bool (true == true))from w_eq_bool (w_res rfl) w_lit) rfl
theorem attach_call{l:OpenLaw}{n:Nat}{q:Program}{loose:yH}{XP:(Str->yF)->Heap->Prop}{YP:World->Heap->Prop}{d:DefRec}
  (hn:l.most=some n) (hdf:d.params.defaults=[])
  (call:∀(w:World) (s₀ s₁:Shared) (mg mb:Str->yF) (fa:Addr) (o:Obj) (pm cd doc:Value) (a:Addr) (vs:yB) (ns:yA),
   Ground q loose [] XP w s₀ mg mb s₁.heap->YP w s₁.heap ->
   s₁.heap.get? fa=some o->o.data=.func (docDef d.name d.params d.body d.scope pm cd doc)->s₁.heap.CodeRec cd d.name->mg d.name=some (.ref fa) ->
   s₁.heap.get? a=some { cls:=.type "list",data:=.seq vs.toArray }->IntsAre vs ns->ns.length<=n->s₁.gens=#[] ->
   codeAny (model l.prog w) callerA (.call (.ref fa) ⟨[.ref a],[]⟩) (fun r s'=>r=.ok (.ret (.bool true))/\OldK s₁.heap s'.heap/\s'.os=s₁.os/\AllBare s'.gens) s₁) :
  WalkO q loose XP YP l.row.toRowW d [] (fun f vs=>PySem.call f vs):=by intro w s₀ s₁ mg mb G Y fa o pm cd doc dV kV ho hd hcd hD hmg hg args vals as hpre hlay hrd hwl hlo;obtain rfl:dV=.none:=Dflts.none hD hdf;obtain rfl:kV=.none:=Dflts.noKw hD;obtain⟨a,vs,ns,rfl,rfl,hobj,hints,hlen⟩:=zNT hn hpre hwl;refine enter_call (codeAny_mono (call w s₀ s₁ mg mb fa o pm cd doc a vs ns G Y ho (fd_plain hd) hcd hmg hobj hints hlen hg) fun r s' hq=>?_);obtain⟨rfl,h2,h3,h4⟩:=hq;exact⟨.inl ⟨.bool true,.bool true,[],rfl,fun _=>rfl,.bool true,zO1 l _,fun _=>⟨List.Pairwise.nil,fun _ hm=>(nomatch hm)⟩⟩,h2,h3,h4⟩
end Att
namespace L2
open PySem PySem.Spec PyProof.Rows
theorem zIG:∀{vs:yB}{ns:yA},IntsAre vs ns->Vals (ns.map V.int) vs
 |_,_,.nil=>.nil
 |_,_,.cons n t h=>.cons ⟨t,rfl⟩ (zIG h)
def Only(H:Hp):Prop:=∀b,H b=none∨∃o xs,H b=some (.frz o (.lst xs))
theorem zR4{P:Program}{w:World}{K:W.Frag}{mg mb:Str->yF}{CX:CXT}{k:Nat}{fa a:Addr}{fd:FuncData}{x:Str}{sp:Sp}{s₁:Shared}{vs:yB}{ns:yA}
  (KX:K.In s₁.heap) (hns:s₁.heap.Ns mainGlobals mg) (hb:s₁.heap.Ns builtinsNs mb) (hbb:∀x:Str,x ≠ "__name__"->mb x=bootBuiltins x) (hlim:s₁.heap.NoLimit) (hg:s₁.gens=#[])
  (ha:s₁.heap.get? a=some { cls:=.type "list",data:=.seq vs.toArray }) (hi:IntsAre vs ns) (hl:ns.length<=sizeLine) (hr:Room k callerA)
  (F:∀base:Heap,K.In base->base.Ns mainGlobals mg->FnOk P w K mg base CX k fa fd [x] sp) (hbind:∀(s:Shared) (u:Value),BindsTo s fd ⟨[u],[]⟩ [(x,u)])
  (hsp:∀H:Hp,Only H->SqL K H a (ns.map V.int)->sp [.ref a] H (fun v _=>v=.bl true) fun _ _ _=>False)
  (hCX:∀H e s',CX [] H s₁ (fun _ _ _=>False) e s'->False) :
  codeAny (model P w) callerA (.call (.ref fa) ⟨[.ref a],[]⟩) (fun r s'=>r=.ok (.ret (.bool true))/\OldK s₁.heap s'.heap/\s'.os=s₁.os/\AllBare s'.gens) s₁:=by
 have rv:=zIG hi;have lenV:=hi.length;have core:∀H:Hp,Only H->SqL K H a (ns.map V.int)->HOk P w H s₁.heap->(∀b,H b≠none->b=a)->(H a≠none->K.lookup a=none) ->
   codeAny (model P w) callerA (.call (.ref fa) ⟨[.ref a],[]⟩) (fun r s'=>r=.ok (.ret (.bool true))/\OldK s₁.heap s'.heap/\s'.os=s₁.os/\AllBare s'.gens) s₁:=by
  intro H hO hS hok hA hK;have base_of:∀{b:Addr}{o:Obj},s₁.heap.get? b=some o->H b=none->(hidT s₁.heap H).get? b=some o:=fun e n=>zRn e n;have noA:∀{b:Addr}{o:Obj}{es:Array DictEntry}{ep:Nat},s₁.heap.get? b=some o->o.data=.dict es ep->H b=none:=fun{b o es ep} e d=>by
   cases q:H b with
   |none=>rfl
   |some u =>
    have e':b=a:=hA b (by rw[q];simp);subst e';rw[ha]at e;cases e;have d':Data.seq vs.toArray _=Data.dict es ep:=d;cases d'
  have nsK:∀{b:Addr}{m:Str->yF},s₁.heap.Ns b m->(hidT s₁.heap H).Ns b m:=fun{b m} ⟨o,es,ep,e,d,r⟩=>⟨o,es,ep,base_of e (noA e d),d,r⟩
  have hKb:K.In (hidT s₁.heap H):=fun b o e=>base_of (KX b o e) (by
   cases q:H b with
   |none=>rfl
   |some u =>
    have e':b=a:=hA b (by rw[q];simp);subst e';rw[hK (by rw[q];simp)]at e;cases e)
  have hM:Mod K mg (hidT s₁.heap H):=⟨hKb,nsK hns,⟨mb,nsK hb,hbb⟩,let ⟨mc,h1,h2⟩:=hlim;⟨mc,nsK h1,h2⟩⟩
  have e0:Env0 P w K mg (hidT s₁.heap H) callerA [] s₁ H:=⟨rfl,hM,fun b o e=>zTE e,Nat.le_of_eq (zOV _ _),trivial,fun b hb=>absurd (show b∈([]:yC)from hb) (by simp),hok,.of_eq hg⟩
  refine codeAny_mono ((F _ hKb (nsK hns)).run callerA [] s₁ H ⟨[.ref a],[]⟩ [.ref a] [.ref a] _ _ hr e0 (hbind s₁ (.ref a)) (.cons rfl .nil) (hsp H hO hS)) fun r s' h=>?_;cases r with
  |error e=>exact(hCX H e s' h).elim
  |ok fl =>
   cases fl with
   |next=>exact False.elim h
   |brk=>exact False.elim h
   |cont=>exact False.elim h
   |ret u =>
    obtain⟨v,H',os,bare,un,hok',r',q⟩:=h;have q':v=.bl true:=q;subst q';obtain rfl:u=Value.bool true:=r';refine⟨rfl,OldK.of_keep fun b o e=>?_,os,bare⟩;cases q:H b with
    |none=>exact un.keep b o e q (by intro z;exact absurd (show b∈([]:yC)from z) (by simp)) (by simp)
    |some u =>
     rcases hO b with z|⟨ob,xs,z⟩
     ·rw[q]at z;cases z
     ·have z2:=un.frzs b ob _ z;obtain⟨e1,_⟩:=hok b _ z;obtain⟨e2,_⟩:=hok' b _ z2;rw[e]at e1;cases e1;exact e2
 cases hk:K.lookup a with
 |some o =>
  have e:=KX a o hk;rw[ha]at e;cases e;refine core (fun _=>none) (fun _=>.inl rfl) (.inr ⟨_,vs.toArray,_,hk,rfl,rfl,rfl,by rw[qA9,lenV];exact hl,by simpa using rv⟩) (fun b u z=>by have z':(none:Option HO)=some u:=z;cases z') (fun b z=>absurd rfl z) fun z=>absurd rfl z
 |none =>
  refine core (fun b=>if b=a then some (.frz { cls:=.type "list",data:=.seq vs.toArray } (.lst (ns.map V.int)))else none) (fun b=>?_) (.inl (.inr ⟨{ cls:=.type "list",data:=.seq vs.toArray },if_pos rfl⟩)) (fun b u z=>?_) (fun b z=>?_) fun _=>hk
  ·by_cases hb:b=a
   ·exact .inr ⟨_,_,if_pos hb⟩
   ·exact .inl (if_neg hb)
  ·by_cases hb:b=a
   ·have z':=(if_pos hb).symm.trans z;cases z';subst hb;exact⟨ha,by rw[qA0];exact hl,vs,_,rv,ha⟩
   ·have z':=(if_neg hb).symm.trans z;cases z'
  ·by_cases hb:b=a
   ·exact hb
   ·exact absurd (if_neg hb) z
theorem walk_of{l:W.OpenLaw}{n k:Nat}{q:Program}{loose:yH}{XP:(Str->yF)->Heap->Prop}{YP:World->Heap->Prop}{d:DefRec}{K:Params->W.Frag}{CX:World->CXT}{sp:World->Sp}{x:Str}
  (hn:l.most=some n) (hn2:n<=sizeLine) (hdf:d.params.defaults=[]) (hr:Room k callerA)
  (hY:∀(w:World) (h:Heap),YP w h->(K w.params).In h)
  (F:∀(w:World) (mg:Str->yF) (fa:Addr) (h:Heap),(K w.params).In h->h.Ns mainGlobals mg->mg d.name=some (.ref fa) ->
   ∃fd:FuncData,(∀(s:Shared) (u:Value),BindsTo s fd ⟨[u],[]⟩ [(x,u)]) /\
    ∀base:Heap,(K w.params).In base->base.Ns mainGlobals mg->FnOk l.prog w (K w.params) mg base (CX w) k fa fd [x] (sp w))
  (hsp:∀(w:World) (H:Hp) (a:Addr) (ns:yA),ns.length<=n->Only H->SqL (K w.params) H a (ns.map V.int)->sp w [.ref a] H (fun v _=>v=.bl true) fun _ _ _=>False)
  (hCX:∀(w:World) (H:Hp) (s:Shared) (e:Value) (s':Shared),CX w [] H s (fun _ _ _=>False) e s'->False) :
  W.WalkO q loose XP YP l.row.toRowW d [] (fun f vs=>PySem.call f vs):=by refine Att.attach_call hn hdf fun w s₀ s₁ mg mb fa o pm cd doc a vs ns G Y ho hd hcd hmg hobj hints hlen hg=>?_;have KX:=hY w _ Y;obtain⟨fd,hb,hF⟩:=F w mg fa _ KX G.T.g hmg;exact zR4 KX G.T.g G.T.b G.T.builtins G.T.nolimit hg hobj hints (qD3 hlen hn2) hr hF hb (fun H hO hS=>hsp w H a ns hlen hO hS) fun H e s'=>hCX w H s₁ e s'
noncomputable def zD1(s:Stmt):Arguments:=match s with
 |.FunctionDef _ a _ _ _ _ _ _ _ _=>a
 |_=>{ posonlyargs:=[],args:=[],vararg:=none,kwonlyargs:=[],kw_defaults:=[],kwarg:=none,defaults:=[] }
noncomputable def zAZ(s:Stmt):List Stmt:=match s with
 |.FunctionDef _ _ b _ _ _ _ _ _ _=>b
 |_=>[]
noncomputable def zA3(s:Stmt):Scope:=match s with
 |.FunctionDef _ _ _ _ _ _ sc _ _ _=>sc
 |_=>{ kind:=.function,names:=[],isGenerator:=false,isCoroutine:=false }
noncomputable abbrev CX0:CXT:=fun _ _ _ _ _ _=>False
noncomputable abbrev E0:XK:=fun _ _ _=>False
theorem zYQ{X:Cx}:zPY CX0 X E0:=fun _ _ _ _ _ _ _ h=>h.elim
structure Fun(K:W.Frag)(x qual:Str)(st:Stmt)(f:Addr)(fd:FuncData):Prop where
 ex:∃(oc:Value) (od:Option Addr) (kV doc pm:Value) (an:Option Addr) (cdv ct:Value) (osl:Array (yF)),
  fd=W.fnOf x qual (zD1 st) (zAZ st) (zA3 st) .none kV doc pm an cdv ct/\K.lookup f=some ⟨oc,od,.func fd,osl⟩/\W.codeIn K cdv qual=true
 kp:W.keepIn K (.ref f)=true
section
variable {P:Program}{w:World}{K:W.Frag}{mg:Str->yF}{base:Heap}
theorem Fun.ok{x qual:Str}{st:Stmt}{f:Addr}{fd:FuncData}{N ps:yH}{k:Nat}{sp:Sp}(F:Fun K x qual st f fd)(S:zIB N ps (zA3 st))(len:∀vs H Q E,sp vs H Q E->vs.length=ps.length)
  (hbody:∀(cdv:Value) (A:Around) (outer:List Env) (s:Shared) (H:Hp) (vs:List V) (Q:VK) (E:XK),Room k (A.deeper (envOfC qual (zA3 st) s.heap.objs.size f cdv))->sp vs H Q E ->
   ∃t,PSs (cxOf CX0 P w K mg base N qual (zA3 st) f cdv A outer s H E).nox (zAZ st) t/\t { nx:=fun _ H'=>Q .non H',rt:=Q } (start N vs) H):FnOk P w K mg base CX0 (k+1) f fd ps sp:=by obtain⟨oc,od,kV,doc,pm,an,cdv,ct,osl,rfl,lk,hcd⟩:=F.ex;refine zZz lk hcd S len fun A outer s H vs Q E hr hsp=>?_;obtain⟨t,h,q⟩:=hbody cdv A outer s H vs Q E hr hsp;exact⟨t,h.nox,q⟩
theorem Fun.binds{x qual:Str}{st:Stmt}{f:Addr}{fd:FuncData}{ps:yH}(F:Fun K x qual st f fd)
  (h:∀(kV doc pm:Value) (an:Option Addr) (cdv ct:Value) (us:yB),us.length=ps.length->bindArgs (W.fnOf x qual (zD1 st) (zAZ st) (zA3 st) .none kV doc pm an cdv ct) ⟨us,[]⟩=pure (ps.zip us)):zIC K fd ps []:=by obtain⟨oc,od,kV,doc,pm,an,cdv,ct,osl,rfl,lk,hcd⟩:=F.ex;exact .all (h kV doc pm an cdv ct)
theorem zWW{x qual:Str}{st:Stmt}{f:Addr}{oc:Value}{od an:Option Addr}{osl:Array (yF)}{kV doc pm cdv ct:Value}(l:K.lookup f=some ⟨oc,od,.func (W.fnOf x qual (zD1 st) (zAZ st) (zA3 st) .none kV doc pm an cdv ct),osl⟩)
  (c:W.codeIn K cdv qual=true) (k:W.keepIn K (.ref f)=true):Fun K x qual st f (W.fnOf x qual (zD1 st) (zAZ st) (zA3 st) .none kV doc pm an cdv ct):=⟨⟨oc,od,kV,doc,pm,an,cdv,ct,osl,rfl,l,c⟩,k⟩
end
theorem zRk{A:Around}{k:Nat}(hr:Room k A):A.units+1<cLine:=qK8 (Nat.add_le_add_left (by decide:1<=64) _) hr.units
theorem zIP{n:Nat}(h:n<=1000):n<sizeLine:=qK8 h (by decide)
def Same(H H':Hp):Prop:=∀b o,H b=some o->H' b=some o
theorem Same.refl(H:Hp):Same H H:=fun _ _ h=>h
section
variable {κ:Type} [DecidableEq κ]
noncomputable def valV(kvs:List (κ×V))(k:κ):Option V:=(kvs.find? fun kv=>decide (kv.1=k)).map (·.2)
noncomputable def putK(kvs:List (κ×V))(k:κ)(v:V):List (κ×V) :=
 if(kvs.any fun kv=>decide (kv.1=k))=true then kvs.map (fun kv=>if kv.1=k then(kv.1,v)else kv)else kvs++[(k,v)]
theorem zFy{p:κ×V}{r:List (κ×V)}{k:κ}(e:p.1=k):valV (p::r) k=some p.2:=by simp[valV,qE9,e]
theorem zFz{p:κ×V}{r:List (κ×V)}{k:κ}(e:¬p.1=k):valV (p::r) k=valV r k:=by simp[valV,qE9,e]
theorem zLl(k:κ):∀kvs:List (κ×V),(kvs.any fun kv=>decide (kv.1=k))=(valV kvs k).isSome
 |[]=>rfl
 |p::r=>by
  rw[qG2];by_cases e:p.1=k
  ·simp only[zFy e,decide_eq_true e,Bool.true_or,qN4]
  ·rw[zFz e,decide_eq_false e,Bool.false_or];exact zLl k r
theorem zCY(kvs:List (κ×V))(k:κ)(v:V):(putK kvs k v).length<=kvs.length+1:=by
 unfold putK;split
 ·rw[qA0];omega
 ·rw[qB3,qD1,qH7];omega
theorem RelO.isSome_eq{o:Option V}{u:yF}(r:RelO o u):o.isSome=u.isSome:=by
 cases o with
 |none=>cases u with
  |none=>rfl
  |some _=>exact(show False from r).elim
 |some _=>cases u with
  |none=>exact(show False from r).elim
  |some _=>rfl
theorem KV.val{kvs:List (κ×V)}{vs:List (κ×Value)}(r:KV kvs vs)(k:κ):RelO (valV kvs k) (valueAt vs k):=by
 unfold KV at r
 induction r with
 |nil=>exact True.intro
 |@cons p q ps qs h t ih =>
  obtain⟨h1,h2⟩:=h;by_cases e:p.1=k
  ·have e':q.1=k:=h1.symm.trans e;have b:valueAt (q::qs) k=some q.2:=by simp[valueAt,qE9,e']
   rw[zFy e,b];exact h2
  ·have e':¬q.1=k:=fun z=>e (h1.trans z);have b:valueAt (q::qs) k=valueAt qs k:=by simp[valueAt,qE9,e']
   rw[zFz e,b];exact ih
theorem KV.any{kvs:List (κ×V)}{vs:List (κ×Value)}(r:KV kvs vs)(k:κ):(kvs.any fun kv=>decide (kv.1=k))=vs.any fun kv=>decide (kv.1=k):=by
 unfold KV at r
 induction r with
 |nil=>rfl
 |cons h t ih=>rw[qG2,qG2,ih,h.1]
theorem KV.repl{kvs:List (κ×V)}{vs:List (κ×Value)}(r:KV kvs vs)(k:κ){y:V}{u:Value}(ry:RelV y u):
  KV (kvs.map fun kv=>if kv.1=k then(kv.1,y)else kv) (vs.map fun kv=>if kv.1=k then(kv.1,u)else kv):=by
 unfold KV at r ⊢
 induction r with
 |nil=>exact .nil
 |@cons p q ps qs h t ih =>
  rw[qB5,qB5];refine .cons ?_ ih;obtain⟨h1,h2⟩:=h;by_cases e:p.1=k
  ·rw[if_pos e,if_pos (h1.symm.trans e)];exact⟨h1,ry⟩
  ·rw[if_neg e,if_neg (fun z=>e (h1.trans z))];exact⟨h1,h2⟩
theorem KV.put{kvs:List (κ×V)}{vs:List (κ×Value)}(r:KV kvs vs)(k:κ){y:V}{u:Value}(ry:RelV y u):KV (putK kvs k y) (stored vs k u):=by
 unfold putK stored;rw[r.any k];by_cases e:(vs.any fun kv=>decide (kv.1=k))=true
 ·rw[if_pos e,if_pos e];exact r.repl k ry
 ·rw[if_neg e,if_neg e];exact Paired.snoc r ⟨rfl,ry⟩
theorem KV.length{kvs:List (κ×V)}{vs:List (κ×Value)}(r:KV kvs vs):kvs.length=vs.length:=Paired.length r
end
theorem zKs{P:Program}{w:World}{k:Key}{u:Value}(r:RelV (kV k) u):(zAu P w).is k u=true:=by
 cases k with
 |inl i=>obtain⟨t,e⟩:=(show ∃t,u=Value.int i t from r);subst e;exact zKp P w i t
 |inr x=>obtain⟨t,e⟩:=(show ∃t,u=Value.str x t from r);subst e;exact zKo P w x t
theorem zJc{P:Program}{w:World}:∀{ks:List Key}{us:yB},Vals (ks.map kV) us->ItemsAre (zAu P w) ks us
 |[],_,r=>by rw[qH2]at r;cases r;exact .nil
 |k::ks,_,r=>by
  rw[qB5]at r;cases r with
  |cons h t=>exact .cons (zKs h) (zJc t)
noncomputable abbrev KT(H:Hp):List (List Key×V)->List (List Key×Addr×Value)->Prop:=Paired fun p q=>p.1=q.1/\H q.2.1=some (.tup (p.1.map kV))/\RelV p.2 q.2.2
theorem KT.val{H:Hp}{kvs:List (List Key×V)}{xs:List (List Key×Addr×Value)}(r:KT H kvs xs)(k:List Key):RelO (valV kvs k) ((atKey xs k).map (·.2)):=by
 induction r with
 |nil=>exact True.intro
 |@cons p q ps qs h t ih =>
  obtain⟨h1,_,h2⟩:=h;by_cases e:p.1=k
  ·have e':q.1=k:=h1.symm.trans e;have b:atKey (q::qs) k=some q.2:=by simp[atKey,qE9,e']
   rw[zFy e,b];exact h2
  ·have e':¬q.1=k:=fun z=>e (h1.trans z);have b:atKey (q::qs) k=atKey qs k:=by simp[atKey,qE9,e']
   rw[zFz e,b];exact ih
theorem KT.repl{H:Hp}{kvs:List (List Key×V)}{xs:List (List Key×Addr×Value)}(r:KT H kvs xs)(k:List Key){y:V}{u:Value}(ry:RelV y u):
  KT H (kvs.map fun kv=>if kv.1=k then(kv.1,y)else kv) (xs.map (putAt k u)):=by
 induction r with
 |nil=>exact .nil
 |@cons p q ps qs h t ih =>
  rw[qB5,qB5];refine .cons ?_ ih;obtain⟨h1,h2,h3⟩:=h;unfold putAt;by_cases e:p.1=k
  ·rw[if_pos e,if_pos (h1.symm.trans e)];exact⟨h1,h2,ry⟩
  ·rw[if_neg e,if_neg (fun z=>e (h1.trans z))];exact⟨h1,h2,h3⟩
theorem KT.put{H:Hp}{kvs:List (List Key×V)}{xs:List (List Key×Addr×Value)}(r:KT H kvs xs)(k:List Key){b:Addr}{y:V}{u:Value}(hb:H b=some (.tup (k.map kV)))(ry:RelV y u):
  KT H (putK kvs k y) (storedH xs k b u):=by
 have e:(kvs.any fun kv=>decide (kv.1=k))=(atKey xs k).isSome:=by rw[zLl,(r.val k).isSome_eq,qN7]
 unfold putK storedH;rw[e];by_cases q:(atKey xs k).isSome=true
 ·rw[if_pos q,if_pos q];exact r.repl k ry
 ·rw[if_neg q,if_neg q];exact Paired.snoc r ⟨rfl,hb,ry⟩
theorem KT.keeps{H H':Hp}{kvs:List (List Key×V)}{xs:List (List Key×Addr×Value)}(r:KT H kvs xs)(ht:∀b ys,H b=some (.tup ys)->H' b=some (.tup ys)):KT H' kvs xs :=
 Paired.mapP r fun _ _ z=>⟨z.1,ht _ _ z.2.1,z.2.2⟩
section
variable {P:Program}{w:World}{H:Hp}{h:Heap}{a:Addr}
theorem zVx{u:HO}(ok:HOk P w H h)(e:Rd H a u):zC9 P w H h a u:=e.ok ok
theorem zPd{kvs:List (Key×V)}(ok:HOk P w H h)(e:Rd H a (.dK kvs)):kvs.length<=sizeLine/\(a == sysModules)=false/\∃vs,KV kvs vs/\h.DictOf (zAu P w) a vs :=
 show zC9 P w H h a (.dK kvs)from zVx ok e
theorem zPe{kvs:List (Key×V)}(ok:HOk P w H h)(e:H a=some (.dK kvs)):kvs.length<=sizeLine/\(a == sysModules)=false/\∃vs,KV kvs vs/\h.DictOf (zAu P w) a vs:=zPd ok (.inl e)
theorem zHp{ks:List Key}(ok:HOk P w H h)(e:H a=some (.tup (ks.map kV))):(tupleKind (zAu P w)).is h ks a:=by
 obtain⟨_,its,r,o,h1,h2,n,h3⟩:=(show zC9 P w H h a (.tup (ks.map kV))from ok a _ e)
 exact⟨o,its.toArray,n,h1,h2,h3,by simpa using zJc r⟩
theorem zPc{kvs:List (List Key×V)}(ok:HOk P w H h)(e:Rd H a (.dT kvs)):kvs.length<=sizeLine/\(a == sysModules)=false /\
  ∃xs,KT H kvs xs/\h.DictOfH (tupleKind (zAu P w)) a xs:=by
 obtain⟨z,y,xs,r,o,es,ep,h1,h2,h3,h4,h5⟩:=(show zC9 P w H h a (.dT kvs)from zVx ok e)
 refine⟨z,y,xs,r,o,es,ep,h1,h2,h3,h4,fun x hx=>?_,h5⟩;have all:∀{l:List (List Key×V)}{m:List (List Key×Addr×Value)},KT H l m->∀x∈m,(tupleKind (zAu P w)).is h x.1 x.2.1:=by
  intro l m q
  induction q with
  |nil=>intro x hx;exact nomatch hx
  |@cons p q ps qs hq t ih =>
   intro x hx;rcases qC0.mp hx with e|hx
   ·subst e;exact zHp ok (by rw[<- hq.1];exact hq.2.1)
   ·exact ih x hx
 exact all r x hx
theorem zX2{kvs:List (List Key×V)}(ok:HOk P w H h)(e:H a=some (.dT kvs)):kvs.length<=sizeLine/\(a == sysModules)=false /\
  ∃xs,KT H kvs xs/\h.DictOfH (tupleKind (zAu P w)) a xs:=zPc ok (.inl e)
end
def DGet(H:Hp)(a:Addr)(y:V)(r:Option V):Prop :=
 (∃kvs k,Rd H a (.dK kvs)/\y=kV k/\r=valV kvs k)∨∃kvs k b,Rd H a (.dT kvs)/\y=.ref b/\H b=some (.tup (k.map kV))/\r=valV kvs k
def DPut(H:Hp)(a:Addr)(y v:V)(H':Hp):Prop :=
 (∃kvs k,H a=some (.dK kvs)/\y=kV k/\kvs.length<sizeLine/\H'=upd H a (.dK (putK kvs k v))) ∨
 ∃kvs k b,H a=some (.dT kvs)/\y=.ref b/\H b=some (.tup (k.map kV))/\kvs.length<sizeLine/\H'=upd H a (.dT (putK kvs k v))
theorem DGet.k{H:Hp}{a:Addr}{kvs:List (Key×V)}{k:Key}(e:H a=some (.dK kvs)):DGet H a (kV k) (valV kvs k):=.inl ⟨kvs,k,.inl e,rfl,rfl⟩
theorem DGet.t{H:Hp}{a b:Addr}{kvs:List (List Key×V)}{k:List Key}(e:H a=some (.dT kvs))(eb:H b=some (.tup (k.map kV))):DGet H a (.ref b) (valV kvs k):=.inr ⟨kvs,k,b,.inl e,rfl,eb,rfl⟩
theorem DPut.k{H:Hp}{a:Addr}{kvs:List (Key×V)}{k:Key}{v:V}(e:H a=some (.dK kvs))(hl:kvs.length<sizeLine):DPut H a (kV k) v (upd H a (.dK (putK kvs k v))):=.inl ⟨kvs,k,e,rfl,hl,rfl⟩
theorem DPut.t{H:Hp}{a b:Addr}{kvs:List (List Key×V)}{k:List Key}{v:V}(e:H a=some (.dT kvs))(eb:H b=some (.tup (k.map kV)))(hl:kvs.length<sizeLine):
  DPut H a (.ref b) v (upd H a (.dT (putK kvs k v))):=.inr ⟨kvs,k,b,e,rfl,eb,hl,rfl⟩
section
variable {X:Cx}{pins:yD}{σ:St}{H:Hp}{s:Shared}{a:Addr}{y v:V}{u r:Value}{o:Option V}{A:Around}{E:yL}
theorem Inv.big(I:Inv X pins σ H s):sysModules<s.heap.objs.size:=by have h:mainGlobals<s.heap.objs.size:=(I.mod.glob.keeps I.bk).lt;exact Nat.lt_trans (by decide) h
theorem zPk{Q:yL}(hu:A.units+1<cLine)(I:Inv X pins σ H s)(g:DGet H a y (some v))(ry:RelV y u)(h:∀w' s',Inv X pins σ H s'->RelV v w'->Q w' s'):
  wpAny (model X.prog X.w) A (getItem (.ref a) u) Q E s:=by
 rcases g with⟨kvs,k,e,ey,l⟩| ⟨kvs,k,b,e,ey,eb,l⟩
 ·subst ey;obtain⟨z,hd,vs,rel,dd⟩:=zPd I.hok e;obtain⟨w',hw,rw'⟩:=RelO.some_of (v:=v) (o:=valueAt vs k) (by rw[l];exact rel.val k);exact wpAny_getItem_of (zKs ry) dd.mapOf hw (h w' _ (I.tok _) rw')
 ·subst ey;cases (show u=Value.ref b from ry);obtain⟨z,hd,xs,rel,dd⟩:=zPc I.hok e;obtain⟨w',hw,rw'⟩:=RelO.some_of (v:=v) (o:=(atKey xs k).map (·.2)) (by rw[l];exact rel.val k);obtain⟨p,hp,hp2⟩:=qA4.mp hw;refine wpAny_getItem_heap (tupleKind_room_in1 hu) (zHp I.hok eb) dd hp ?_;rw[hp2];exact h w' _ (I.tok _) rw'
theorem d_in{Q:yL}(hu:A.units+1<cLine)(I:Inv X pins σ H s)(g:DGet H a y o)(ry:RelV y u)(h:∀s',Inv X pins σ H s'->Q (.bool o.isSome) s'):
  wpAny (model X.prog X.w) A (compareOp .In u (.ref a)) Q E s:=by
 rcases g with⟨kvs,k,e,ey,l⟩| ⟨kvs,k,b,e,ey,eb,l⟩
 ·subst ey;obtain⟨z,hd,vs,rel,dd⟩:=zPd I.hok e;refine wpAny_in_of (zKs ry) hd dd.mapOf ?_;rw[<- (rel.val k).isSome_eq,<- l];exact h _ (I.tok _)
 ·subst ey;cases (show u=Value.ref b from ry);obtain⟨z,hd,xs,rel,dd⟩:=zPc I.hok e;refine wpAny_in_heap (tupleKind_room_in1 hu) (zHp I.hok eb) hd dd ?_;have q:=(rel.val k).isSome_eq;rw[qN7]at q;rw[<- q,<- l];exact h _ (I.tok _)
theorem zUf{Q:yL}(hu:A.units+1<cLine)(I:Inv X pins σ H s)(g:DGet H a y o)(ry:RelV y u)(h:∀s',Inv X pins σ H s'->Q (.bool (!o.isSome)) s'):
  wpAny (model X.prog X.w) A (compareOp .NotIn u (.ref a)) Q E s:=by
 rcases g with⟨kvs,k,e,ey,l⟩| ⟨kvs,k,b,e,ey,eb,l⟩
 ·subst ey;obtain⟨z,hd,vs,rel,dd⟩:=zPd I.hok e;refine wpAny_notIn_of (zKs ry) hd dd.mapOf ?_;rw[<- (rel.val k).isSome_eq,<- l];exact h _ (I.tok _)
 ·subst ey;cases (show u=Value.ref b from ry);obtain⟨z,hd,xs,rel,dd⟩:=zPc I.hok e;refine wpAny_notIn_heap (tupleKind_room_in1 hu) (zHp I.hok eb) hd dd ?_;have q:=(rel.val k).isSome_eq;rw[qN7]at q;rw[<- q,<- l];exact h _ (I.tok _)
theorem zGv{h':Heap}{t':Nat}{ob:HO}(I:Inv X pins σ H s)(mu:Mut (H a))(hs:qE1 a s.heap h')(he:∃q,h'.get? a=some q)(new:zC9 X.prog X.w (upd H a ob) h' a ob):
  Inv X pins σ (upd H a ob) { s with heap:=h',toks:=t' } :=
 I.write (x:=a) (e:=a) mu (.inl rfl) (fun b q hb z=>(hs.2 b hb).trans z) he new
theorem zPf{P:Program}{w:World}{H':Hp}{h':Heap}{kvs:List (Key×V)}{vs:List (Key×Value)}(z:kvs.length<=sizeLine)(hd:(a == sysModules)=false)(rel:KV kvs vs)(dd:h'.DictOf (zAu P w) a vs):
  zC9 P w H' h' a (.dK kvs):=⟨z,hd,vs,rel,dd⟩
theorem zGw{H':Hp}{Q:Unit->Shared->Prop}(hu:A.units+1<cLine)(I:Inv X pins σ H s)(g:DPut H a y v H')(ry:RelV y u)(rv:RelV v r)(h:∀s',Inv X pins σ H' s'->Q () s'):
  wpAny (model X.prog X.w) A (setItem (.ref a) u r) Q E s:=by
 rcases g with⟨kvs,k,e,ey,l,eH⟩| ⟨kvs,k,b,e,ey,eb,l,eH⟩
 ·subst ey eH;obtain⟨z,hd,vs,rel,dd⟩:=zPe I.hok e;have hz:vs.length<=sizeLine:=by rw[<- rel.length];exact z
  have hl:(putK kvs k v).length<=sizeLine:=by have:=zCY kvs k v;omega
  refine wpAny_setItem_pairs (hsz:=hz) (zKs ry) dd fun h' dd' hs=>h _ ?_;have he:∃q,h'.get? a=some q:=let ⟨q,_,_,hq,_⟩:=dd';⟨q,hq⟩
  exact zGv I (by rw[e];exact True.intro) hs he (zPf hl hd (rel.put k rv) dd')
 ·subst ey eH;cases (show u=Value.ref b from ry);obtain⟨z,hd,xs,rel,dd⟩:=zX2 I.hok e;have hz:xs.length<=sizeLine:=by rw[<- Paired.length rel];exact z
  have hl:(putK kvs k v).length<=sizeLine:=by have:=zCY kvs k v;omega
  refine wpAny_setItem_heap (hsz:=hz) (tupleKind_room_in1 hu) (zHp I.hok eb) dd fun h' dd' hs=>h _ ?_;obtain⟨q,es,ep,hq,h2,h3,h4,_,h5⟩:=dd';refine zGv I (by rw[e];exact True.intro) hs ⟨q,hq⟩ ⟨hl,hd,_,(rel.put k eb rv).keeps fun c ys ec=>?_,q,es,ep,hq,h2,h3,h4,h5⟩;rw[zAb (zTI ec e (fun z=>nomatch z))];exact ec
end
theorem zKL{X:Cx}{pins:yD}{σ:St}{H:Hp}{s:Shared}{a:Addr}{y:V}{o:Option V}(I:Inv X pins σ H s)(g:DGet H a y o):s.TypeIs (.ref a) "dict":=by
 rcases g with⟨kvs,k,e,_,_⟩| ⟨kvs,k,b,e,_,_,_⟩
 ·obtain⟨_,_,vs,_,dd⟩:=zPd I.hok e;exact dd.typeIs
 ·obtain⟨_,_,xs,_,dd⟩:=zPc I.hok e;exact dd.typeIs
theorem zLX{P:Program}{w:World}{H:Hp}(h:Heap)(hb:sysModules<h.objs.size):zC9 P w H (h.push { cls:=.type "dict",data:=.dict #[] }) h.objs.size (.dK []) :=
 ⟨qG3 _,beq_eq_false_iff_ne.mpr (Ne.symm (qC8 hb)),[],.nil,Heap.DictOf.new h⟩
def zV0:TE:=fun _ H Q=>∀p,H p=none->Q (.ref p) (upd H p (.dK []))
section
variable {X:Cx}{pos:Pos}
theorem zQI:PE X (.Dict [] [] pos) zV0:=fun pins s σ H Q I h =>
 wpAny_Dict_empty ⟨.ref s.heap.objs.size,_,I.laid (a:=s.heap.objs.size) (o:=.dK []) (t':=s.toks) (fun _ _ q=>qA6 _ q) (qB1 _) (zLX s.heap I.big),rfl,h _ (I.hok.fresh (qB1 _))⟩
end
def zNE:List (TE×TE)->St->Hp->(List (V×V)->Hp->Prop)->Prop
 |[],_,H,Q=>Q [] H
 |(tk,tv)::r,σ,H,Q=>tk σ H fun x H1=>tv σ H1 fun y H2=>zNE r σ H2 fun ps H3=>Q ((x,y)::ps) H3
noncomputable abbrev VV:List (V×V)->List (Value×Value)->Prop:=Paired fun p q=>RelV p.1 q.1/\RelV p.2 q.2
def PPs(X:Cx)(pos:Pos)(keys:List (Option Expr))(values:yE)(trs:List (TE×TE)):Prop :=
 ∀(pins:yD) (s:Shared) (σ:St) (H:Hp) (Q:List (V×V)->Hp->Prop),Inv X pins σ H s->zNE trs σ H Q ->
  wpAny (model X.prog X.w) X.A (evalPairs (pairTrees keys values X.env pos)) (fun vs s'=>∃ps H',Inv X pins σ H' s'/\VV ps vs/\Q ps H') X.xe s
theorem zTp{X:Cx}{pos:Pos}:PPs X pos [] [] []:=fun pins s σ H Q I h=>pairTrees_nil_walk ⟨[],H,I,.nil,h⟩
theorem zQA{X:Cx}{pos:Pos}{k v:Expr}{ks:List (Option Expr)}{vs:yE}{tk tv:TE}{trs:List (TE×TE)}(hk:PE X k tk)(hv:PE X v tv)(hr:PPs X pos ks vs trs):
  PPs X pos (some k::ks) (v::vs) ((tk,tv)::trs):=fun pins s σ H Q I h =>
 pairTrees_cons_walk (thn (hk pins s σ H _ I h) fun u s1 ⟨x,H1,I1,rx,q1⟩=>thn (hv pins s1 σ H1 _ I1 q1) fun w2 s2 ⟨y,H2,I2,ry,q2⟩ =>
  thn (hr pins s2 σ H2 _ I2 q2) fun ws s3 ⟨ps,H3,I3,rel,q3⟩=>⟨(x,y)::ps,H3,I3,.cons ⟨rx,ry⟩ rel,q3⟩)
noncomputable def zG1(kvs more:List (Key×V)):List (Key×V):=more.foldl (fun acc kv=>putK acc kv.1 kv.2) kvs
theorem KV.merge:∀{more:List (Key×V)}{rs:List (Key×Value)}{kvs:List (Key×V)}{vs:List (Key×Value)},KV more rs->KV kvs vs->KV (zG1 kvs more) (merged vs rs):=by
 intro more rs kvs vs r;unfold KV at r
 induction r generalizing kvs vs with
 |nil=>intro q;exact q
 |@cons p q ps qs h t ih =>
  intro r0;have e:KV (putK kvs p.1 p.2) (stored vs q.1 q.2):=by have:=r0.put p.1 h.2;rw[<- h.1];exact this
  exact ih e
theorem zEq:∀(more kvs:List (Key×V)),(zG1 kvs more).length<=kvs.length+more.length
 |[],kvs=>by show kvs.length<=kvs.length+0;omega
 |p::r,kvs=>by have h1:=zEq r (putK kvs p.1 p.2);have h2:=zCY kvs p.1 p.2;show(zG1 (putK kvs p.1 p.2) r).length<=_;rw[qD1];omega
theorem zHA{P:Program}{w:World}:∀{kvs:List (Key×V)}{ws:List (Value×Value)},VV (kvs.map fun kv=>(kV kv.1,kv.2)) ws->∃rs,Carries (zAu P w) ws rs/\KV kvs rs
 |[],_,r=>by rw[qH2]at r;cases r;exact⟨[],True.intro,.nil⟩
 |p::kvs,_,r=>by
  rw[qB5]at r;cases r with
  |@cons a b as bs h t =>
   obtain⟨rs,c,q⟩:=zHA (P:=P) (w:=w) t;obtain⟨b1,b2⟩:=b;exact⟨(p.1,b2)::rs,⟨zKs h.1,rfl,c⟩,.cons ⟨rfl,h.2⟩ q⟩
def zYk(trs:List (TE×TE)):TE:=fun σ H Q=>∀p,H p=none->zNE trs σ (upd H p (.dK [])) fun ps H2=>H2 p=some (.dK [])/\∃kvs:List (Key×V),ps=kvs.map (fun kv=>(kV kv.1,kv.2))/\kvs.length<=15/\Q (.ref p) (upd H2 p (.dK (zG1 [] kvs)))
theorem zTu{X:Cx}{pos:Pos}{keys:List (Option Expr)}{values:yE}{trs:List (TE×TE)}(h:PPs X pos keys values trs)(hall:keys.all (·.isSome)=true)(hl:keys.length=values.length)(h0:keys≠[])
  (h15:keys.length<=15):PE X (.Dict keys values pos) (zYk trs):=by
 intro pins s σ H Q I q;have hn:=I.hok.fresh (qB1 s.heap.objs.size);have I1:=I.laid (a:=s.heap.objs.size) (o:=.dK []) (h':=s.heap.push { cls:=.type "dict",data:=.dict #[] }) (t':=s.toks) (fun _ _ q=>qA6 _ q) (qB1 _) (zLX s.heap I.big);refine wpAny_Dict_walk (knd:=zAu X.prog X.w) hall hl h0 h15 (thn (h pins _ σ _ _ I1 (q _ hn)) fun ws s2 ⟨ps,H2,I2,rel,e,kvs,ep,lk,q2⟩=>?_);subst ep;obtain⟨rs,c,rk⟩:=zHA (P:=X.prog) (w:=X.w) rel;obtain⟨z,hd,vs0,r0,dd⟩:=zPe I2.hok e;cases r0;refine⟨rs,c,dd,fun h' dd' hs=>⟨.ref s.heap.objs.size,_,?_,rfl,q2⟩⟩;have hz:(zG1 [] kvs).length<=sizeLine:=by have h1:=zEq kvs [];rw[qH7]at h1;rw[sizeLine_eq];omega
 have he:∃q,h'.get? s.heap.objs.size=some q:=let ⟨q,_,_,hq,_⟩:=dd';⟨q,hq⟩
 exact zGv I2 (by rw[e];exact True.intro) hs he (zPf hz hd (rk.merge .nil) dd')
def zJU(st st2:St):Prop:=st.length=st2.length/\∀(i:Nat) v,st[i]?=some (some v)->st2[i]?=some (some v)
noncomputable def zBI(X:Cx)(scope:Scope)(N:yH)(cl:List (Str×Addr))(s:Shared)(H:Hp)(C:Addr)(ex:yC):Cx where
 prog:=X.prog
 w:=X.w
 K:=X.K
 mg:=X.mg
 base:=X.base
 A:=X.A
 N:=N
 s₀:=s
 H₀:=H
 env:=compEnvC scope cl C X.env
 outer:=X.stack
 stack:=X.stack
 ex:=ex
 fn:=fun x=>decide ((x,NameKind.cell)∈scope.names)
 calm:=X.calm
 pn:=[]
 xe:=fun _ _=>False
noncomputable def clOf(env:Env):List (Str×NameKind)->List (Str×Addr)->List (Str×Addr)
 |[],acc=>acc
 |(n,k)::r,acc=>if k == .free then(match env.cells.lookup n with|some c=>clOf env r ((n,c)::acc)| none=>clOf env r acc)else clOf env r acc
theorem zFI{env:Env}:∀(ns:List (Str×NameKind)) (acc:List (Str×Addr)),(∀x c,acc.lookup x=some c->env.cells.lookup x=some c)->∀x c,(clOf env ns acc).lookup x=some c->env.cells.lookup x=some c
 |[],_,h=>h
 |(n,k)::r,acc,h=>by
  unfold clOf;split
  ·split
   ·rename_i c hc;refine zFI r _ fun x d e=>?_;rw[qD2]at e;cases hx:x == n with
    |true =>
     rw[hx]at e;have:x=n:=by simpa using hx
     subst this;cases e;exact hc
    |false =>
     rw[hx]at e;exact h x d e
   ·exact zFI r _ h
  ·exact zFI r _ h
theorem zEt{env:Env}:∀(ns:List (Str×NameKind)) (acc:List (Str×Addr)) (x:Str),((∃c,acc.lookup x=some c)∨((x,NameKind.free)∈ns/\∃c,env.cells.lookup x=some c))->∃c,(clOf env ns acc).lookup x=some c
 |[],acc,x,h=>by
  rcases h with h|⟨h,_⟩
  ·exact h
  ·cases h
 |(n,k)::r,acc,x,h=>by
  unfold clOf;split
  ·rename_i hk;split
   ·rename_i c hc;refine zEt r _ x ?_;by_cases hx:x=n
    ·subst hx;exact .inl ⟨c,by rw[qD2];simp⟩
    ·have hb:(x == n)=false:=by simpa using hx
     rcases h with⟨d,h⟩| ⟨h,d⟩
     ·exact .inl ⟨d,by rw[qD2,hb];exact h⟩
     ·rcases qC0.mp h with h|h
      ·cases h;exact absurd rfl hx
      ·exact .inr ⟨h,d⟩
   ·rename_i hc;refine zEt r _ x ?_;rcases h with h|⟨h,d,hd⟩
    ·exact .inl h
    ·rcases qC0.mp h with h|h
     ·cases h;rw[hc]at hd;cases hd
     ·exact .inr ⟨h,d,hd⟩
  ·rename_i hk;refine zEt r _ x ?_;rcases h with h|⟨h,d⟩
   ·exact .inl h
   ·rcases qC0.mp h with h|h
    ·cases h;exact absurd rfl hk
    ·exact .inr ⟨h,d⟩
theorem zPA{env:Env}{x:Str}{c:Addr}(h:env.cells.lookup x=some c):cellOf env x=pure c:=by unfold cellOf;rw[h]
theorem zF2{env:Env}:∀(ns:List (Str×NameKind)) (acc:List (Str×Addr)),(∀x,(x,NameKind.free)∈ns->∃c,env.cells.lookup x=some c) ->
  (forIn ns acc fun(x:Str×NameKind) (r:List (Str×Addr))=>(match x with
   | (name,kind)=>if kind == NameKind.free then(do let c <- cellOf env name;pure (ForInStep.yield ((name,c)::r)))else pure (ForInStep.yield r):Sem (ForInStep (List (Str×Addr)))))=pure (clOf env ns acc)
 |[],acc,_=>rfl
 |(n,k)::r,acc,h=>by
  rw[qS5];unfold clOf;have hr:∀x,(x,NameKind.free)∈r->∃c,env.cells.lookup x=some c:=fun x hx=>h x (qB9 _ hx);by_cases hk:k=.free
  ·subst hk;obtain⟨c,hc⟩:=h n (qD0 ..);dsimp only;rw[hc,zPA hc];simp only[beq_self_eq_true,if_true,pure_bind];exact zF2 r _ hr
  ·have hb:(k == NameKind.free)=false:=by simpa using hk
   simp only[hb,qE6,if_false,pure_bind];exact zF2 r _ hr
theorem zEs{scope:Scope}{env:Env}(h:∀x,(x,NameKind.free)∈scope.names->∃c,env.cells.lookup x=some c):closureFor scope env=pure (clOf env scope.names []):=by unfold closureFor;have q:=zF2 (env:=env) scope.names [] h;simp only[bind_pure];refine Eq.trans ?_ q;congr 1
theorem zE3{ns:List (Str×NameKind)}{x:Str}{k:NameKind}(h:ns.lookup x=some k):(x,k)∈ns:=by
 induction ns with
 |nil=>cases h
 |cons a r ih =>
  obtain⟨n,k'⟩:=a;rw[qD2]at h;cases hx:x == n with
  |true =>
   rw[hx]at h;have e:x=n:=by simpa using hx
   subst e;cases h;exact qD0 ..
  |false =>
   rw[hx]at h;exact qB9 _ (ih h)
theorem zFV{scope:Scope}{env:Env}{x:Str}{k:NameKind}(h:(relabel scope env).names.lookup x=some k)(hc:k=.cell∨k=.free):(x,NameKind.free)∈scope.names∨(x,NameKind.cell)∈scope.names:=by
 have m:=zE3 h;obtain⟨⟨n,k'⟩,hm,e⟩:=qB6.mp m;dsimp only at e;split at e
 ·rename_i hq;cases e;have:k'=.free:=by simp only[qC9,beq_iff_eq]at hq;exact hq.1.1
  subst this;exact .inl hm
 ·cases e;rcases hc with rfl|rfl
  ·exact .inr hm
  ·exact .inl hm
theorem zBN:∀(ns:List (Str×NameKind)) (h:Heap) (acc:List (Str×Addr)) {x:Str}{c:Addr},(cellsFrom h.objs.size ns acc).lookup x=some c ->
  ((x,NameKind.cell)∈ns/\h.objs.size<=c/\(pushCells h ns).IsCell c none)∨((x,NameKind.cell)∉ns/\acc.lookup x=some c)
 |[],h,acc,x,c,e=>.inr ⟨by simp,e⟩
 |(n,k)::r,h,acc,x,c,e=>by
  unfold cellsFrom at e;unfold pushCells;by_cases hk:(k == NameKind.cell)=true
  ·rw[if_pos hk]at e ⊢;have hk':k=.cell:=by simpa using hk
   rw[<- qG6 h { cls:=.type "cell",data:=.cell none }]at e;rcases zBN r _ _ e with⟨q1,q2,q3⟩| ⟨q1,q2⟩
   ·exact .inl ⟨qB9 _ q1,by rw[qG6]at q2;omega,q3⟩
   ·rw[qD2]at q2;cases hx:x == n with
    |true =>
     rw[hx]at q2;cases q2;have:x=n:=by simpa using hx
     subst this;subst hk';exact .inl ⟨qD0 ..,qB1 _,_,pushCells_keeps _ _ _ _ (qB7 _ rfl),rfl⟩
    |false =>
     rw[hx]at q2;refine .inr ⟨fun z=>?_,q2⟩;rcases qC0.mp z with z|z
     ·cases z;simp at hx
     ·exact q1 z
  ·rw[if_neg hk]at e ⊢;rcases zBN r h acc e with⟨q1,q2,q3⟩| ⟨q1,q2⟩
   ·exact .inl ⟨qB9 _ q1,q2,q3⟩
   ·refine .inr ⟨fun z=>?_,q2⟩;rcases qC0.mp z with z|z
    ·cases z;exact hk rfl
    ·exact q1 z
theorem zGC:∀(ns:List (Str×NameKind)) (n:Nat) (acc:List (Str×Addr)),(∀x c,acc.lookup x=some c->c<n)->(∀x y c,acc.lookup x=some c->acc.lookup y=some c->x=y) ->
  ∀x y c,(cellsFrom n ns acc).lookup x=some c->(cellsFrom n ns acc).lookup y=some c->x=y
 |[],n,acc,hb,hi=>hi
 |(m,k)::r,n,acc,hb,hi=>by
  unfold cellsFrom;split
  ·refine zGC r (n+1) _ (fun x c e=>?_) fun x y c e1 e2=>?_
   ·rw[qD2]at e;cases hx:x == m with
    |true=>rw[hx]at e;cases e;exact qM1 _
    |false=>rw[hx]at e;exact qG7 (hb x c e)
   ·rw[qD2]at e1 e2;cases hx:x == m with
    |true =>
     rw[hx]at e1;cases e1;cases hy:y == m with
     |true=>rw[show x=m by simpa using hx,show y=m by simpa using hy]
     |false=>rw[hy]at e2;exact absurd (hb y _ e2) (qH9 _)
    |false =>
     rw[hx]at e1;cases hy:y == m with
     |true=>rw[hy]at e2;cases e2;exact absurd (hb x _ e1) (qH9 _)
     |false=>rw[hy]at e2;exact hi x y c e1 e2
  ·exact zGC r n acc hb hi
theorem zDO:∀(ns:List (Str×NameKind)) (n:Nat) (acc:List (Str×Addr)) {x:Str},((x,NameKind.cell)∈ns∨∃c,acc.lookup x=some c)->∃c,(cellsFrom n ns acc).lookup x=some c
 |[],n,acc,x,h=>by
  rcases h with h|h
  ·cases h
  ·exact h
 |(m,k)::r,n,acc,x,h=>by
  unfold cellsFrom;split
  ·refine zDO r _ _ ?_;by_cases hx:x=m
   ·subst hx;exact .inr ⟨n,by rw[qD2];simp⟩
   ·have hb:(x == m)=false:=by simpa using hx
    rcases h with h|⟨c,h⟩
    ·rcases qC0.mp h with h|h
     ·cases h;exact absurd rfl hx
     ·exact .inl h
    ·exact .inr ⟨c,by rw[qD2,hb];exact h⟩
  ·rename_i hk;refine zDO r _ _ ?_;rcases h with h|h
   ·rcases qC0.mp h with h|h
    ·cases h;exact absurd rfl hk
    ·exact .inl h
   ·exact .inr h
theorem zGS{M:Model}{A:Around}{E:yL}{s:Shared}{scope:Scope}{globals:Addr}{closure:List (Str×Addr)}{qual:Str}{outer:Env}{Q:Env->Shared->Prop}
  (hQ:Q (newEnv scope s.heap.objs.size globals (cellsFrom (s.heap.push { cls:=.type "dict",data:=.dict #[] }).objs.size scope.names closure) qual none .none (some outer) builtinsNs) { s with heap:=pushCells (s.heap.push { cls:=.type "dict",data:=.dict #[] }) scope.names }) :
  wpAny M A (newFunctionEnv scope globals closure [] qual none .none (some outer)) Q E s:=by simp only[newFunctionEnv,qN4,if_true];refine wpAny_bind (wpAny_alloc ?_);refine wpAny_bind (wpAny_layCells _ (fun name kind cells=>by cases hkc:kind == NameKind.cell<;>simp[hkc]) _ _ _ _ ?_);rw[qT1];exact wpAny_bind (wpAny_pure (wpAny_pure hQ))
section
variable {X:Cx}{pins:yD}{σ:St}{H:Hp}{s:Shared}{scope:Scope}{N:yH}{C:Addr}{ex:yC}
structure zNk(X:Cx)(scope:Scope)(N:yH)(k:Nat)(js:List Nat):Prop where
 calm:X.calm=true
 kind:scope.kind=.function
 cell:∀x,(x,NameKind.cell)∈scope.names->scope.names.lookup x=some .cell
 free:∀x,(x,NameKind.free)∈scope.names->(X.env.kindOf x=some .cell∨X.env.kindOf x=some .free)
 names:∀x∈scope.names,x.2=.local->scope.names.lookup x.1=some .local
 len:N.length=k+js.length
 js:∀i j,js[i]?=some j->∃x,N[k+i]?=some x/\X.N[j]?=some x/\scope.names.lookup x=some .free/\Vis X.env.scope x
theorem zJw{env:Env}{ns:List (Str×NameKind)}{x:Str}{c:Addr}(h:(clOf env ns []).lookup x=some c):env.cells.lookup x=some c:=zFI _ _ (fun _ _ z=>by cases z) x c h
theorem Inv.compOk(I:Inv X pins σ H s)(hk:scope.kind=.function)(hf:∀x,(x,NameKind.free)∈scope.names->∃c,X.env.cells.lookup x=some c){h:Heap}(hh:h.objs.size=C+1)(hC:s.heap.objs.size<=C)(hex:∀b∈ex,FpOk X pins H b)(hxs:∀b∈ex,b<s.heap.objs.size):
  (zBI X scope N (cellsFrom h.objs.size scope.names (clOf X.env scope.names [])) s H C ex).Ok where
 mod:=I.ok.mod
 kind:=hk
 glob:=I.ok.glob
 blt:=I.ok.blt
 above:=hC
 inj:=zGC _ _ _ (fun x c e=>by
  obtain⟨v,q⟩:=I.cell x c (zJw e);rw[hh];exact qG7 (qC4 q.lt hC)) fun x y c e1 e2=>I.ok.inj x y c (zJw e1) (zJw e2)
 has:=fun x h=>by
  have m:=zFV (scope:=scope) (env:=X.env) (x:=x) (k:=.cell);have m2:=zFV (scope:=scope) (env:=X.env) (x:=x) (k:=.free);have q:(x,NameKind.free)∈scope.names∨(x,NameKind.cell)∈scope.names:=by
   rcases h with h|h
   ·exact m h (.inl rfl)
   ·exact m2 h (.inr rfl)
  refine zDO _ _ _ ?_;rcases q with q|q
  ·exact .inr (zEt _ _ x (.inr ⟨q,hf x q⟩))
  ·exact .inl q
 cab:=fun x c h e=>by
  rcases zBN _ _ _ e with⟨_,q,_⟩| ⟨q,_⟩
  ·show s.heap.objs.size<=c;omega
  ·exact absurd (of_decide_eq_true h) q
 hd:=I.ok.hd
 frames:=I.ok.frames
 stk:=.inl rfl
 exf:=fun b hb=>⟨fun z=>by
   have z':b=C:=z;exact qH9 _ (qC4 (hxs b hb) (by rw[z'];exact hC)),fun x c e=>by
   rcases zBN _ _ _ e with⟨_,q,_⟩| ⟨_,q⟩
   ·exact qJ3 (qC4 (hxs b hb) (qD3 hC (qH1 (qC4 (by rw[hh];exact qM1 C) q))))
   ·exact(hex b hb).2.2.2.2.1 x c (zJw q)⟩
 bs:=I.bs
 bsz:=qD3 I.ok.bsz I.sz
 noex:=fun b o e hb=>by
  rcases(hex b hb).2.2.2.1 with z|z
  ·exact I.ok.noex b o e z
  ·exact qH9 _ (qC4 (qB8 e) (qD3 I.ok.bsz z))
 exfs:=fun b hb z=>by
  rcases qC0.mp (I.stkSub b z)with q|q
  ·exact(hex b hb).2.1 q
  ·exact(hex b hb).2.2.1 q
 funs:=I.stack
 frf:=I.stkFree
theorem zKQ{prog:Program}{w:World}{A:Around}{R:Result->Shared->Prop}{elt target iter:Expr}{ifs:yE}{scope:Scope}{pos:Pos}{it acc:Value}{env:Env}{s:Shared}(J:Nat->Shared->Prop)
  (turn:∀n s,J n s->wpAny (model prog w) A (pyNext it) (fun r s1=>match r with
   |none=>R (.ok .next) s1
   | some v=>wpAny (model prog w) A (letOwnedTupleGo target it v) (fun _ s1'=>wpAny (model prog w) A (assign target env v) (fun _ s2 =>
     wpAny (model prog w) A (forIn ifs true fun c r=>if r=true then do let ok <- isTrue c env (eval c env);pure (ForInStep.yield ok)else pure (ForInStep.yield r)) (fun ok s3 =>
      if ok=true then wpAny (model prog w) A (eval elt env) (fun x s4 =>
       wpAny (model prog w) A (call (.builtin "list.append") [acc,x]) (fun _ s5=>∃m,m<n/\J m s5) (notedBy (model prog w) A env fun e s'=>R (.error e) s') s4) (notedBy (model prog w) A env fun e s'=>R (.error e) s') s3
      else ∃m,m<n/\J m s3) (notedBy (model prog w) A env fun e s'=>R (.error e) s') s2) (notedBy (model prog w) A env fun e s'=>R (.error e) s') s1') (notedBy (model prog w) A env fun e s'=>R (.error e) s') s1) (notedBy (model prog w) A env fun e s'=>R (.error e) s') s)
  (n:Nat) (h:J n s) :
  codeAny (model prog w) A (.compLoop (.ListComp elt [⟨target,iter,ifs,0⟩] scope pos) 0 it acc env) R s:=by
 refine codeAny_loop rfl J (fun n s hI=>?_) n h;show wpAny _ A ((compTurn (.ListComp elt [⟨target,iter,ifs,0⟩] scope pos) 0 it acc env).onRaise (fun x=>do noteFrame x env;theTreesLotGoes x)) _ _ s;refine wpAny_noted ?_;rw[compTurn_list];refine wpAny_bind (wpAny_standAt (wpAny_bind (wpAny_mono (turn n s hI) (fun r s1 h1=>?_) fun _ _ h'=>h')));cases r with
 |none=>exact wpAny_pure h1
 |some v =>
  refine wpAny_bind (wpAny_mono h1 (fun _ s1' h1'=>?_) fun _ _ h'=>h');refine wpAny_bind (wpAny_mono h1' (fun _ s2 h2=>wpAny_bind (wpAny_mono h2 (fun ok s3 h3=>?_) fun _ _ h'=>h')) fun _ _ h'=>h');cases ok with
  |false=>exact wpAny_pure ⟨rfl,h3⟩
  |true =>
   exact wpAny_bind (wpAny_bind (wpAny_mono h3 (fun x s4 h4=>wpAny_bind (wpAny_mono h4 (fun _ s5 h5=>wpAny_pure (wpAny_pure ⟨rfl,h5⟩)) fun _ _ h'=>h')) fun _ _ h'=>h'))
def PTs(X:Cx)(ifs:yE)(t:TT):Prop :=
 ∀(pins:yD) (s:Shared) (σ:St) (H:Hp) (Q:Bool->Hp->Prop),Inv X pins σ H s->t σ H Q ->
  wpAny (model X.prog X.w) X.A (forIn ifs true fun c r=>if r=true then do let ok <- isTrue c X.env (eval c X.env);pure (ForInStep.yield ok)else pure (ForInStep.yield r)) (TP X pins σ Q) X.xe s
def tYes:TT:=fun _ H Q=>Q true H
theorem zTi{X:Cx}:PTs X [] tYes:=fun pins s σ H Q I h=>wpAny_tests_nil ⟨H,I,h⟩
theorem zTh{X:Cx}{c:Expr}{t:TT}(h:PT X c t):PTs X [c] t:=fun pins s σ H Q I hw=>wpAny_tests_one (h pins s σ H Q I hw)
def zUA(J:It)(D:Addr)(W:Nat->Nat->List V->Hp->Prop)(Q:Hp->Prop)(g:TG)(tc:TT)(te:TE)(σ0:St)(i m:Nat)(ys:List V)(H2:Hp):Prop :=
 H2 D=some (.lst ys)/\((J.stop i H2/\Q H2)∨(J.go i H2/\ys.length<sizeLine/\∀x H3,J.yld i H2 x H3->g x σ0 H3 fun σ4 H4=>zJU σ0 σ4/\tc σ4 H4 fun b H5 =>
   if b=true then te σ4 H5 fun y H6=>H6 D=some (.lst ys)/\∃m',m'<m/\W (i+1) m' (ys++[y]) (upd H6 D (.lst (ys++[y])))else ∃m',m'<m/\W (i+1) m' ys H5))
noncomputable def stC(k:Nat)(js:List Nat)(σ:St):St:=qI8 k Option.none++js.map fun j=>(σ[j]?).getD Option.none
def zSJ(wi:TI)(k:Nat)(js:List Nat)(g:TG)(tc:TT)(te:TE):TE:=fun σ H Q =>
 wi σ H fun J H1=>∀D,H1 D=none->∃W:Nat->Nat->List V->Hp->Prop,(∃m,W 0 m [] (upd H1 D (.lst [])))/\∀i m ys H2,W i m ys H2->zUA J D W (Q (.ref D)) g tc te (stC k js σ) i m ys H2
theorem zNI{k:Nat}{js:List Nat}{σ:St}{i:Nat}{v:V}(h:(stC k js σ)[i]?=some (some v)):∃j,k<=i/\js[i - k]?=some j/\σ[j]?=some (some v):=by
 unfold stC at h;by_cases hi:i<k
 ·rw[qA8 (by simpa using hi),qJ0]at h;simp[hi]at h
 ·rw[qA1 (by simpa using hi),qI0,qC1]at h;cases e:js[i - k]? with
  |none=>rw[e]at h;simp at h
  |some j =>
   rw[e]at h;simp only[qO7,Option.some.injEq]at h;refine⟨j,by omega,rfl,?_⟩;cases q:σ[j]? with
   |none=>rw[q]at h;simp at h
   |some z =>
    rw[q]at h;simp at h;rw[h]
theorem zFe{scope:Scope}{env:Env}{x:Str}(h:scope.names.lookup x=some .free):(relabel scope env).names.lookup x=some .cell∨(relabel scope env).names.lookup x=some .free:=by
 unfold relabel;dsimp only;generalize scope.names=ns at h
 induction ns with
 |nil=>cases h
 |cons a r ih =>
  obtain⟨n,k⟩:=a;rw[qD2]at h;rw[qB5];cases hx:x == n with
  |true =>
   rw[hx]at h;cases h;dsimp only;split
   ·exact .inl (by rw[qD2,hx])
   ·exact .inr (by rw[qD2,hx])
  |false =>
   rw[hx]at h;dsimp only;split
   ·rw[qD2,hx];exact ih h
   ·rw[qD2,hx];exact ih h
inductive CInv(Y:Cx)(σ0:St)(tn:Nat->Heap->Prop)(fp:yC)(W:Nat->Nat->List V->Hp->Prop)(n:Nat)(s:Shared):Prop
 |mk (i:Nat) (ys:List V) (H:Hp) (I:Inv Y [] σ0 H s) (st:tn i s.heap) (fr:∀b∈fp,H b=none) (w:W i n ys H)
theorem zPp{Y:Cx}{elt iter tg:Expr}{ifs:yE}{scope:Scope}{pos:Pos}{g:TG}{tc:TT}{te:TE}{J:It}{fp:yC}{it D:Addr}{tn:Nat->Heap->Prop}{σ0:St}{W:Nat->Nat->List V->Hp->Prop}{Q:Hp->Prop}{R:Result->Shared->Prop}
  (hc:Y.calm=true) (hx:Y.xe=fun _ _=>False) (T:Turn Y.prog Y.w Y.K tg J fp it tn) (stat:∀H',(∀b∈fp,H' b=none)->∀b∈fp,FpOk Y [] H' b)
  (hg:PG Y tg g) (htc:PTs Y ifs tc) (hte:PE Y elt te) (turn:∀i m ys H2,W i m ys H2->zUA J D W Q g tc te σ0 i m ys H2) (fin:∀H4 s5,Inv Y [] σ0 H4 s5->Q H4->R (.ok .next) s5)
  {s:Shared}{n:Nat} (h0:CInv Y σ0 tn fp W n s) (st3:tn 0 s.heap):codeAny (model Y.prog Y.w) Y.A (.compStart (.ListComp elt [⟨tg,iter,ifs,0⟩] scope pos) 0 (.ref it) (.ref D) Y.env) R s:=by
 have loop:codeAny (model Y.prog Y.w) Y.A (.compLoop (.ListComp elt [⟨tg,iter,ifs,0⟩] scope pos) 0 (.ref it) (.ref D) Y.env) R s:=by
  refine zKQ (CInv Y σ0 tn fp W) ?_ n h0;rintro n s4 ⟨i,ys,H4,I4,st4,fr4,w4⟩;obtain⟨hD4,hd⟩:=turn i n ys H4 w4;rcases hd with⟨stop,q⟩| ⟨go,hz,step⟩
  ·refine thn (T.done Y rfl rfl rfl hc i [] s4 _ H4 _ I4 (stat _ fr4) st4 stop) fun r s5 ⟨hr,I5⟩=>?_;subst hr;exact fin H4 s5 I5 q
  ·refine thn (T.item Y rfl rfl rfl hc i [] s4 _ H4 _ I4 (stat _ fr4) st4 go) fun r s5 ⟨u,hr,h5⟩=>?_;subst hr;refine thn h5 fun _ s6 ⟨x,H6,I6,r6,y6,st6,fr6⟩=>?_;have I6':=I6.pinned (stat _ fr6) (T.obj _ _ st6);have back:∀{σ7:St}{H7:Hp}{s7:Shared}{m:Nat}{zs:List V},Inv Y ([]++zJ3 fp s6.heap) σ7 H7 s7->zJU σ0 σ7->W (i+1) m zs H7->CInv Y σ0 tn fp W m s7:=fun{σ7 H7 s7 m zs} I7 hw w7=>by refine⟨i+1,zs,H7,I7.unpinned.weak hw.1 hw.2,T.keep _ _ _ st6 fun b hb o e=>(I7.pin (b,o) (qC3 _ (qC3 _ (zCK hb e)))).1,fun b hb=>?_,w7⟩;obtain⟨o,e,d⟩:=T.obj _ _ st6 b hb;exact(I7.pin (b,o) (qC3 _ (qC3 _ (zCK hb e)))).2.1
   have no:∀{E:yL} (e:Value) (s':Shared),Y.xe e s'->E e s':=fun e s' z=>by rw[hx]at z;exact z.elim
   refine wpAny_mono (hg _ s6 _ H6 x u _ I6' r6 (step x H6 y6)) (fun _ s7 ⟨σ7,H7,I7,hw7,q7⟩=>?_) no;refine wpAny_mono (htc _ s7 σ7 H7 _ I7 q7) (fun b s8 ⟨H8,I8,q8⟩=>?_) no;cases b with
   |false =>
    obtain⟨m',hm,w8⟩:=(show ∃m',m'<n/\W (i+1) m' ys H8 by simpa using q8)
    rw[if_neg (by decide)];exact⟨m',hm,back I8 hw7 w8⟩
   |true =>
    rw[if_pos rfl]at q8;rw[if_pos rfl];refine wpAny_mono (hte _ s8 σ7 H8 _ I8 q8) (fun y s9 ⟨vy,H9,I9,r9,q9⟩=>?_) no;obtain⟨hD9,m',hm,w9⟩:=q9;refine wpAny_mono (zJ7 (X:=Y) _ s9 σ7 H9 (.ref D) [vy] (.ref D) [y] (fun _ H'=>W (i+1) m' (ys++[vy]) H') I9 rfl (.cons r9 .nil) ⟨_,ys,vy,rfl,rfl,hD9,hz,w9⟩) (fun z s10 ⟨_,H10,I10,_,q10⟩=>?_) no;exact⟨m',hm,back I10 hw7 q10⟩
 exact codeAny_compStart_list loop (T.self _ 0 _ _ _ st3 loop)
theorem zMW{elt iter tg:Expr}{ifs:yE}{pos:Pos}{k:Nat}{js:List Nat}{J:It}{fp:yC}{it:Addr}{tn:Nat->Heap->Prop}{H2:Hp}{s2:Shared}{RR:Value->Addr->Result->Shared->Prop}
  (B:zNk X scope N k js) (I2:Inv X pins σ H2 s2) (T:Turn X.prog X.w X.K tg J fp it tn) (st2:tn 0 s2.heap) (f2:∀b∈fp,FpOk X pins H2 b)
  (h:∀(cl:List (Str×Addr)) (C:Addr) (s4:Shared),s2.heap.objs.size<=C->s2.heap.objs.size≠C->Inv (zBI X scope N cl s2 H2 C fp) [] (stC k js σ) (upd H2 s2.heap.objs.size (.lst [])) s4->tn 0 s4.heap ->
   codeAny (model X.prog X.w) X.A (.compStart (.ListComp elt [⟨tg,iter,ifs,0⟩] scope pos) 0 (.ref it) (.ref s2.heap.objs.size) (compEnvC scope cl C X.env)) (RR (.ref s2.heap.objs.size) C) s4) :
  wpAny (model X.prog X.w) X.A (newList []) (fun acc s3=>wpAny (model X.prog X.w) X.A (newFunctionEnv scope X.env.globals (clOf X.env scope.names []) [] X.env.qual none .none (some X.env)) (fun cenv s4 =>
   codeAny (model X.prog X.w) X.A (.compStart (.ListComp elt [⟨tg,iter,ifs,0⟩] scope pos) 0 (.ref it) acc { cenv with scope:=relabel scope X.env }) (RR acc cenv.locals) s4) X.xe s3) X.xe s2:=by
 have hcell:∀x,(x,NameKind.free)∈scope.names->∃c,X.env.cells.lookup x=some c:=fun x hx=>I2.ok.has x (B.free x hx);refine wpAny_newObj_type (zGS ?_);dsimp only;generalize hP:s2.heap.push { cls:=.type "list",dict:=none,data:=.seq ([]:yB).toArray }=P;have hPs:P.objs.size=s2.heap.objs.size+1:=by rw[<- hP,qG6]
 have hDC:s2.heap.objs.size≠P.objs.size:=by rw[hPs];exact qC8 (qM1 _)
 have hCle:s2.heap.objs.size<=P.objs.size:=by rw[hPs];exact qN8 _
 generalize hP2:P.push { cls:=.type "dict",data:=.dict #[] }=P2;have hP2s:P2.objs.size=P.objs.size+1:=by rw[<- hP2,qG6]
 have hns1:(pushCells P2 scope.names).Ns P.objs.size (fun _=>none):=(hP2▸Heap.Ns.new P (.type "dict")).keeps (pushCells_keeps _ _);have old:∀b o,s2.heap.get? b=some o->(pushCells P2 scope.names).get? b=some o:=fun b o e=>pushCells_keeps _ _ _ _ (hP2▸qA6 _ (hP▸qA6 _ e));have hacc:(pushCells P2 scope.names).get? s2.heap.objs.size=some { cls:=.type "list",dict:=none,data:=.seq ([]:yB).toArray }:=pushCells_keeps _ _ _ _ (hP2▸qA6 _ (hP▸qB7 _ rfl));have hfx:∀b∈fp,b<s2.heap.objs.size:=fun b hb=>by obtain⟨o,e,_⟩:=T.obj _ _ st2 b hb;exact qB8 e
 have ok:=I2.compOk (N:=N) (C:=P.objs.size) (ex:=fp) B.kind hcell hP2s hCle f2 hfx;refine h (cellsFrom P2.objs.size scope.names (clOf X.env scope.names [])) P.objs.size _ hCle hDC ?_ (T.keep _ _ _ st2 fun b _ o e=>old b o e);refine⟨ok,rfl,I2.bare,Un.laid old (qB1 _) (I2.hok.fresh (qB1 _)),⟨_,hns1,fun i x v e1 e2 e3=>?_⟩,fun x c e=>?_,?_,fun x c e=>?_,fun p hp=>(by cases hp),I2.hok.laid old (qB1 _) ?_,?_⟩
 ·obtain⟨j,hki,hj,hv⟩:=zNI e2;obtain⟨y,n1,n2,n3,n4⟩:=B.js _ j hj;have ei:k+(i - k)=i:=by omega
  rw[ei]at n1;have e1':N[i]?=some x:=e1;rw[n1]at e1';cases e1';obtain⟨m,hn,hl⟩:=I2.loc;obtain⟨u,r,lk⟩:=hl j x v n2 hv n4;refine⟨u,r,?_⟩;have mem:=zE3 n3;rcases lk with⟨kk,_⟩| ⟨kk,c,ec,ce⟩
  ·rcases B.free x mem with z|z
   ·rw[z]at kk;cases kk
   ·rw[z]at kk;cases kk
  ·obtain⟨c0,ec0⟩:=zDO scope.names P2.objs.size _ (.inr (zEt (env:=X.env) scope.names [] x (.inr ⟨mem,c,ec⟩)));have hc0:c0=c:=by
    rcases zBN _ _ _ ec0 with⟨q,_⟩| ⟨_,q⟩
    ·have:=B.cell x q;rw[n3]at this;cases this
    ·have:=zJw q;rw[ec]at this;cases this;rfl
   subst hc0;refine .inr ⟨zFe n3,c0,ec0,?_⟩;obtain⟨o,ho,hd⟩:=ce;exact⟨o,old _ _ ho,hd⟩
 ·rcases zBN _ _ _ e with⟨_,_,q⟩| ⟨_,q⟩
  ·exact⟨_,q⟩
  ·obtain⟨v,o,ho,hd⟩:=I2.cell x c (zJw q);exact⟨v,o,old _ _ ho,hd⟩
 ·show upd H2 s2.heap.objs.size (.lst []) P.objs.size=none;rw[zAb (Ne.symm hDC)];exact I2.hok.fresh hCle
 ·rcases zBN _ _ _ e with⟨_,q,_⟩| ⟨_,q⟩
  ·have hlt:s2.heap.objs.size<c:=qC4 (by rw[hP2s,hPs];omega) q;rw[zAb (qJ3 hlt)];exact I2.hok.fresh (qH1 hlt)
  ·obtain⟨v,o,ho,hd⟩:=I2.cell x c (zJw q);rw[zAb (qC8 (qB8 ho))];exact I2.freeC x c (zJw q)
 ·exact⟨qG3 _,[],_,.nil,hacc⟩
 ·unfold stC;rw[qB3,qI0,qA0];exact B.len.symm
theorem zM0{elt iter tg:Expr}{ifs:yE}{pos:Pos}{k:Nat}{js:List Nat}{g:TG}{tc:TT}{te:TE}{J:It}{fp:yC}{it:Addr}{tn:Nat->Heap->Prop}{H2:Hp}{s2:Shared}{RR:Value->Addr->Result->Shared->Prop}{Q:V->Hp->Prop}
  (B:zNk X scope N k js) (I2:Inv X pins σ H2 s2) (T:Turn X.prog X.w X.K tg J fp it tn) (st2:tn 0 s2.heap) (f2:∀b∈fp,FpOk X pins H2 b)
  (hg:∀cl s H C ex,PG (zBI X scope N cl s H C ex) tg g) (htc:∀cl s H C ex,PTs (zBI X scope N cl s H C ex) ifs tc) (hte:∀cl s H C ex,PE (zBI X scope N cl s H C ex) elt te)
  (hW:∀D,H2 D=none->∃W:Nat->Nat->List V->Hp->Prop,(∃m,W 0 m [] (upd H2 D (.lst [])))/\∀i m ys H2,W i m ys H2->zUA J D W (Q (.ref D)) g tc te (stC k js σ) i m ys H2)
  (fin:∀cl C H4 s5,s2.heap.objs.size<=C->s2.heap.objs.size≠C->Inv (zBI X scope N cl s2 H2 C fp) [] (stC k js σ) H4 s5->Q (.ref s2.heap.objs.size) H4->RR (.ref s2.heap.objs.size) C (.ok .next) s5) :
  wpAny (model X.prog X.w) X.A (newList []) (fun acc s3=>wpAny (model X.prog X.w) X.A (newFunctionEnv scope X.env.globals (clOf X.env scope.names []) [] X.env.qual none .none (some X.env)) (fun cenv s4 =>
   codeAny (model X.prog X.w) X.A (.compStart (.ListComp elt [⟨tg,iter,ifs,0⟩] scope pos) 0 (.ref it) acc { cenv with scope:=relabel scope X.env }) (RR acc cenv.locals) s4) X.xe s3) X.xe s2:=by obtain⟨W,⟨m0,w0⟩,turn⟩:=hW s2.heap.objs.size (I2.hok.fresh (qB1 _));refine zMW B I2 T st2 f2 fun cl C s4 h1 h2 I4 st4=>?_;refine zPp (Y:=zBI X scope N cl s2 H2 C fp) B.calm rfl T (fun H' hn b hb=>⟨hn b hb,(I4.ok.exf b hb).1,I4.ok.exfs b hb,.inl hb,(I4.ok.exf b hb).2,fun p hp=>by cases hp⟩) (hg _ _ _ _ _) (htc _ _ _ _ _) (hte _ _ _ _ _) turn (fun H4 s5 I5 q=>fin cl C H4 s5 h1 h2 I5 q) (n:=m0) ⟨0,[],_,I4,st4,fun b hb=>?_,w0⟩ st4;obtain⟨o,e,_⟩:=T.obj _ _ st2 b hb;rw[zAb (qC8 (qB8 e))];exact(f2 b hb).1
theorem zTv{elt iter tg:Expr}{ifs:yE}{pos:Pos}{wi:TI}{g:TG}{tc:TT}{te:TE}{k:Nat}{js:List Nat}(B:zNk X scope N k js)(hi:PI X tg iter wi)
  (hg:∀cl s H C ex,PG (zBI X scope N cl s H C ex) tg g) (htc:∀cl s H C ex,PTs (zBI X scope N cl s H C ex) ifs tc) (hte:∀cl s H C ex,PE (zBI X scope N cl s H C ex) elt te)
  (hs:∀x,foldedSetIterable iter X.env x=pure x:=by intro _;rfl):PE X (.ListComp elt [⟨tg,iter,ifs,0⟩] scope pos) (zSJ wi k js g tc te):=by
 intro pins s σ H Q I h;rw[eval_ListComp];refine wpAny_comprehension_free (use:=none) rfl hs (zEs fun x hx=>I.ok.has x (B.free x hx)) B.kind B.names (thn (hi pins s σ H _ I h) fun v s1 h1=>thn h1 fun itv s2 h2=>?_);obtain⟨it,fp,tn,J,H2,e,I2,T,st2,f2,hW⟩:=h2;subst e;refine zM0 B I2 T st2 f2 hg htc hte hW fun cl C H4 s5 hCle hDC I5 q=>?_;obtain⟨m,hn,_⟩:=id I5.loc;have hC4:H4 C=none:=I5.free;refine⟨m,hn,fun h' hs'=>⟨.ref s2.heap.objs.size,H4,?_,rfl,q⟩⟩;have bl:∀b o,s2.heap.get? b=some o->b≠C:=fun b o e=>qC8 (qC4 (qB8 e) hCle);refine I2.call' (s':={ s5 with heap:=h' }) (ch:=fp) I5.os ?_ (fun b u e=>?_) I5.bare (fun b hb=>⟨(f2 b hb).2.2.2.1,(f2 b hb).2.1,(f2 b hb).2.2.2.2.1,(f2 b hb).2.2.2.2.2⟩)
 ·have U:=I5.base;exact⟨fun b o e n hb hx=>(hs'.2 b (bl b o e)).trans (U.keep b o e n hb hx),fun b o e n hb hx=>by
    obtain⟨sl,z⟩:=U.slot b o e n hb hx;exact⟨sl,(hs'.2 b (bl b o e)).trans z⟩,U.free,fun b o e hx=>by
    obtain⟨o',z⟩:=U.there b o e hx;exact⟨o',(hs'.2 b (bl b o e)).trans z⟩,U.tups,U.frzs,U.tbls⟩
 ·refine(I5.hok b u e).stay (fun c w' hcc q'=>(hs'.2 c ?_).trans q') (fun _ q'=>q') fun _ _ q'=>q';rintro rfl;rcases hcc with rfl|hcc
  ·rw[hC4]at e;cases e
  ·rw[hC4]at hcc;cases hcc
end
theorem zHO{H:Hp}{p:Addr}(h:H p=none)(o:HO):Same H (upd H p o):=fun b u q=>by rw[zAb (zAM q h)];exact q
theorem Same.tup{K:W.Frag}{H H':Hp}{a:Addr}{xs:List V}(e:Same H H')(h:SqT K H a xs):SqT K H' a xs:=by
 rcases h with(h|⟨o,h⟩)| h
 ·exact .inl (.inl (e _ _ h))
 ·exact .inl (.inr ⟨o,e _ _ h⟩)
 ·exact .inr h
section
variable {X:Cx}{pins:yD}{σ:St}{H:Hp}{s:Shared}
theorem Inv.yields{wr:yC}{h':Heap}{tk:Nat}{T:Addr}{xs:List V}{its:yB}(I:Inv X pins σ H s)(hf:∀b∈wr,FpOk X pins H b)(k:∀b o,b∉wr->s.heap.get? b=some o->h'.get? b=some o)
  (hT:s.heap.objs.size<=T) (r:Vals xs its) (hz:xs.length<=sizeLine) (ht:IsTup h' T its.toArray):Inv X pins σ (upd H T (.tup xs)) { s with heap:=h',toks:=tk }:=by
 have nT:∀b o,s.heap.get? b=some o->b≠T:=fun b o e=>qC8 (qC4 (qB8 e) hT);have hH:∀b u,H b=some u->b≠T:=fun b u e=>qC8 (qC4 (I.hok.lt e) hT);have nw:∀b u,H b=some u->b∉wr:=fun b u e hb=>by rw[(hf b hb).1]at e;cases e
 refine I.call' (s':={ s with heap:=h',toks:=tk }) (ch:=wr) rfl ⟨fun b o e n _ hx=>k b o hx e,fun b o e n _ hx=>⟨o.slots,k b o hx e⟩,fun b o e n _=>?_,fun b o e hx=>⟨o,k b o hx e⟩,fun b ys e=>?_,fun b o u e=>?_,fun b ps e=>⟨#[],?_⟩⟩ (fun b u e=>?_) I.bare
  (fun b hb=>⟨(hf b hb).2.2.2.1,(hf b hb).2.1,(hf b hb).2.2.2.2.1,(hf b hb).2.2.2.2.2⟩)
 ·rw[zAb (nT b o e)];exact n
 ·rw[zAb (hH b _ e)];exact e
 ·rw[zAb (hH b _ e)];exact e
 ·rw[zAb (hH b _ e),e];simp
 ·by_cases hb:b=T
  ·subst hb;rw[zAf]at e;cases e;exact⟨hz,its,r,ht⟩
  ·rw[zAb hb]at e;refine(I.hok b u e).stay (fun c v hc q=>k c v ?_ q) (fun c q=>?_) fun c ys q=>?_
   ·rcases hc with rfl|hc
    ·exact nw _ _ e
    ·exact nw _ _ hc
   ·rw[zAb (hH c _ q)];exact q
   ·rw[zAb (hH c _ q)];exact q
theorem Inv.turnedL{wr:yC}{h':Heap}{tk:Nat}(I:Inv X pins σ H s)(hf:∀b∈wr,FpOk X pins H b)(k:∀b o,b∉wr->s.heap.get? b=some o->h'.get? b=some o):Inv X pins σ H { s with heap:=h',toks:=tk }:=by
 have nw:∀b u,H b=some u->b∉wr:=fun b u e hb=>by rw[(hf b hb).1]at e;cases e
 refine I.call' (s':={ s with heap:=h',toks:=tk }) (ch:=wr) rfl ⟨fun b o e n _ hx=>k b o hx e,fun b o e n _ hx=>⟨o.slots,k b o hx e⟩,fun b o e n _=>n,fun b o e hx=>⟨o,k b o hx e⟩,fun b ys e=>e,fun b o u e=>e,fun b ps e=>⟨#[],by rw[e];simp⟩⟩ (fun b u e=>?_) I.bare
  (fun b hb=>⟨(hf b hb).2.2.2.1,(hf b hb).2.1,(hf b hb).2.2.2.2.1,(hf b hb).2.2.2.2.2⟩)
 refine(I.hok b u e).stay (fun c v hc q=>k c v ?_ q) (fun c q=>q) fun c ys q=>q;rcases hc with rfl|hc
 ·exact nw _ _ e
 ·exact nw _ _ hc
end
section
variable {X:Cx}
theorem zL0:zBE X (.type "range") (fun vs H Q=>∃i j:Int,vs=[.int i,.int j]/\∀p,H p=none->Q (.ref p) (upd H p (.rng i j))):=by intro pins s σ H xs us Q I r h;obtain⟨i,j,rfl,q⟩:=h;obtain⟨u,v,rfl,ru,rv⟩:=zMa r;obtain⟨t,rfl⟩:=ru;obtain⟨t',rfl⟩:=rv;refine call_range_2 ⟨.ref s.heap.objs.size,_,I.laid (o:=.rng i j) (fun b o e=>qA6 _ e) (qB1 _) ?_,rfl,q _ (I.hok.fresh (qB1 _))⟩;exact⟨_,_,_,qB7 _ rfl⟩
theorem zL1:zBE X (.type "range") (fun vs H Q=>∃j:Int,vs=[.int j]/\∀p,H p=none->Q (.ref p) (upd H p (.rng 0 j))):=by intro pins s σ H xs us Q I r h;obtain⟨j,rfl,q⟩:=h;obtain⟨u,rfl,ru⟩:=zDe r;obtain⟨t,rfl⟩:=ru;refine call_range_1 ⟨.ref s.heap.objs.size,_,I.laid (o:=.rng 0 j) (fun b o e=>qA6 _ e) (qB1 _) ?_,rfl,q _ (I.hok.fresh (qB1 _))⟩;exact⟨_,_,_,qB7 _ rfl⟩
noncomputable def upV(lo:Int)(n:Nat):List V:=(List.range n).map fun k=>V.int (lo+(k:Nat))
theorem zSD{lo:Int}{n:Nat}{acc:yJ}(h:ItemsOf (fun i v=>∃t,v=.int (lo+i*1) t) acc n):Vals (upV lo n) acc.toList:=by
 obtain⟨hs,h⟩:=h;have key:∀(k:Nat) (us:yB) (lo:Int),us.length=k->(∀(i:Nat) (v:Value),us[i]?=some v->∃t,v=Value.int (lo+(i:Nat)) t)->Vals ((List.range k).map fun j=>V.int (lo+(j:Nat))) us:=by
  intro k
  induction k with
  |zero=>intro us lo hl _;cases us with
   |nil=>exact .nil
   |cons a r=>simp at hl
  |succ k ih =>
   intro us lo hl hh;cases us with
   |nil=>simp at hl
   |cons a r =>
    rw[qL2,qB5,qD9];refine .cons ?_ ?_
    ·obtain⟨t,e⟩:=hh 0 a rfl;exact⟨t,e⟩
    ·have:=ih r (lo+1) (by simpa using hl) fun i v e=>by obtain⟨t,q⟩:=hh (i+1) v (by simpa using e);exact⟨t,by rw[q];congr 1;omega⟩
     have e:((fun(j:Nat)=>V.int (lo+(j:Nat)))∘Nat.succ)=fun(j:Nat)=>V.int (lo+1+(j:Nat)):=by funext j;simp only[Function.comp];congr 1;omega
     rw[e];exact this
 exact key n acc.toList lo (by simpa using hs) fun i v e=>by obtain⟨t,q⟩:=h i v (by simpa using e);exact⟨t,by rw[q,Int.mul_one]⟩
theorem zIm(hc:X.calm=true):zBE X (.type "list") (fun vs H Q=>∃p i j,vs=[.ref p]/\H p=some (.rng i j)/\-(2 ^ 62)<=i/\i<2 ^ 62/\-(2 ^ 62)<=j/\j<2 ^ 62/\(j - i).toNat<=1000/\∀l,H l=none->Q (.ref l) (upd H l (.lst (upV i (j - i).toNat)))):=by
 intro pins s σ H xs us Q I r h;obtain⟨p,i,j,rfl,hp,b1,b2,b3,b4,hn,q⟩:=h;obtain⟨u,rfl,ru⟩:=zDe r;cases ru;obtain⟨t,u,v,e⟩:=(show zC9 X.prog X.w H s.heap p (.rng i j)from I.hok _ _ hp)
 refine call_list_range (n:=(j - i).toNat) (I.ok.hd hc) (show IsRange s.heap p i j 1 t u v from e) (small_one b1 b2 b3 b4) (by rw[rangeSize_one];split<;>omega) (qD3 hn (by decide)) fun h' tk acc' c' hk he hi=>?_;have hv:=zSD hi;refine⟨.ref s.heap.objs.size,_,I.laid (o:=.lst (upV i (j - i).toNat)) hk (qB1 _) ⟨?_,acc'.toList,c',hv,by simpa using he⟩,rfl,q _ (I.hok.fresh (qB1 _))⟩;unfold upV;rw[qA0,List.length_range];exact qD3 hn (by decide)
def zTd:V->List V->Hp->VK->Prop:=fun x vs H Q=>∃(l:Addr) (xs:List V) (i:Nat) (y:V),x=.ref l/\vs=[.int i,y]/\H l=some (.lst xs)/\xs.length<1000/\i<=xs.length/\Q .non (upd H l (.lst (xs.take i++y::xs.drop i)))
theorem zOk:MtM X "list.insert" zTd:=by
 intro pins s σ H x vs v us Q I rx rv h;obtain⟨l,xs,i,y,rfl,rfl,hH,hz,hi,q⟩:=h;cases rx;obtain⟨u1,u2,rfl,r1,r2⟩:=rv.two;obtain⟨t,rfl⟩:=r1;obtain⟨z,its,n,r,hl,e⟩:=I.lstM hH;generalize hx:((i:Nat):Int)=x;have hx0:0<=x:=by omega
 have hx1:x.toNat=i:=by omega
 have hfit:¬(!Builtin.List.listFitsIndex x)=true:=by rw[fitsIndex_both (by omega) (by omega)];exact qB0
 have hsz:its.toArray.size<=sizeLine:=by rw[qA9,<- hl];exact z
 refine call_meets F.slot_list_insert ⟨_,e,rfl⟩ F.entry_list_insert (F.args_list_insert_3 _ _ _) (PySem.AutoSeq1.list_insert_list_int_val_1 l _ n x t u2 hfit hsz) ⟨e,?_⟩;refine⟨.non,_,I.lset (its':=its.take i++u2::its.drop i) hH e ?_ ((r.take i).append (.cons r2 (r.drop i))) ?_,rfl,q⟩
 ·have hk:(if x<0 then(x+((its.toArray.size:Nat):Int)).toNat else min x.toNat its.toArray.size)=i:=by rw[if_neg (by omega),qA9];omega
  show(its.toArray.extract 0 (if x<0 then(x+((its.toArray.size:Nat):Int)).toNat else min x.toNat its.toArray.size)).push u2++its.toArray.extract (if x<0 then(x+((its.toArray.size:Nat):Int)).toNat else min x.toNat its.toArray.size)=_;rw[hk];apply Array.ext';simp;exact qF7 (by rw[qJ1];exact qB1 _)
 ·rw[qB3,qD1,qI9,qJ1];have:(1000:Nat)<=sizeLine:=by decide
  omega
theorem zFO{A:Around}{prog:Program}{w:World}{bs:List Bool}{its:yB}(r:Vals (bs.map V.bl) its):TruthOf prog w A (fun i v=>its.toArray[i]?=some v) (fun i=>bs.getD i false):=by
 intro i v s Q E hv hq;have hv':its[i]?=some v:=by simpa using hv
 have hl:i<bs.length:=by have h1:=(qA2.mp hv').1;have h2:=r.length;rw[qA0]at h2;omega
 obtain⟨u,e,ru⟩:=Vals.get r (i:=i) (x:=.bl bs[i]) (by rw[qC1,qA5 hl];rfl);rw[e]at hv';cases hv';have ru':v=Value.bool bs[i]:=ru;subst ru';have eq:bs.getD i false=bs[i]:=by simp[qR3,hl]
 have hq':Q (bs.getD i false) s:=hq;rw[eq]at hq';exact wpAny_truthy_bool hq'
theorem zJ0(bs:List Bool):(List.range bs.length).all (fun i=>bs.getD i false)=bs.all id:=by
 induction bs with
 |nil=>rfl
 |cons b r ih =>
  rw[qD1,qL2,qJ7,qJ4,qJ7];show(b&&(List.range r.length).all ((fun i=>(b::r).getD i false)∘Nat.succ))=(b&&r.all id)
  rw[<- ih];rfl
theorem zIZ(bs:List Bool):(List.range bs.length).any (fun i=>bs.getD i false)=bs.any id:=by
 induction bs with
 |nil=>rfl
 |cons b r ih =>
  rw[qD1,qL2,qG2,qL3,qG2];show(b||(List.range r.length).any ((fun i=>(b::r).getD i false)∘Nat.succ))=(b||r.any id)
  rw[<- ih];rfl
theorem zPH(hc:X.calm=true):zBE X (.builtin "all") (fun vs H Q=>∃(p:Addr) (bs:List Bool),vs=[.ref p]/\SqL X.K H p (bs.map V.bl)/\Q (.bl (bs.all id)) H):=by
 intro pins s σ H xs us Q I r h;obtain⟨p,bs,rfl,hq,q⟩:=h;obtain⟨u,rfl,ru⟩:=zDe r;cases ru;obtain⟨its,rv,pl,hz⟩:=I.list hq;have hlt:p<s.heap.objs.size:=by obtain⟨_,e,_⟩:=pl.isList;exact qB8 e
 have hlen:=rv.length;rw[qA0]at hlen;refine call_all_walk (wpAny_pyIter_list pl.isList ?_);refine⟨s.heap.objs.size,_,[s.heap.objs.size],_,_,_,_,rfl,Walks.list (A:=X.A.in1) (show X.A.in1.handled=none from I.ok.hd hc) s.heap.objs.size p (qC8 hlt) its.toArray,⟨⟨_,qB7 _ rfl,rfl,rfl⟩,pl.isList.push _⟩,zFO rv,fun h' tk kk=>?_⟩;have e:(List.range its.toArray.size).all (fun i=>bs.getD i false)=bs.all id:=by rw[qA9,<- hlen];exact zJ0 bs
 rw[e];refine⟨.bl (bs.all id),H,?_,rfl,q⟩;exact I.kept (t':=tk) fun b o eb=>kk b o (by simp only[qA7];exact qC8 (qB8 eb)) (qA6 _ eb)
theorem zPF(hc:X.calm=true):zBE X (.builtin "any") (fun vs H Q=>∃(p:Addr) (bs:List Bool),vs=[.ref p]/\SqL X.K H p (bs.map V.bl)/\Q (.bl (bs.any id)) H):=by
 intro pins s σ H xs us Q I r h;obtain⟨p,bs,rfl,hq,q⟩:=h;obtain⟨u,rfl,ru⟩:=zDe r;cases ru;obtain⟨its,rv,pl,hz⟩:=I.list hq;have hlt:p<s.heap.objs.size:=by obtain⟨_,e,_⟩:=pl.isList;exact qB8 e
 have hlen:=rv.length;rw[qA0]at hlen;refine call_any_walk (wpAny_pyIter_list pl.isList ?_);refine⟨s.heap.objs.size,_,[s.heap.objs.size],_,_,_,_,rfl,Walks.list (A:=X.A.in1) (show X.A.in1.handled=none from I.ok.hd hc) s.heap.objs.size p (qC8 hlt) its.toArray,⟨⟨_,qB7 _ rfl,rfl,rfl⟩,pl.isList.push _⟩,zFO rv,fun h' tk kk=>?_⟩;have e:(List.range its.toArray.size).any (fun i=>bs.getD i false)=bs.any id:=by rw[qA9,<- hlen];exact zIZ bs
 rw[e];refine⟨.bl (bs.any id),H,?_,rfl,q⟩;exact I.kept (t':=tk) fun b o eb=>kk b o (by simp only[qA7];exact qC8 (qB8 eb)) (qA6 _ eb)
theorem zQP:OpR X (compareOp .Is) (fun x y H Q=>∃a b,x=.bl a/\y=.bl b/\Q (.bl (a == b)) H):=by intro pins s σ H x y v u Q I rx ry h;obtain⟨a,b,rfl,rfl,q⟩:=h;cases rx;cases ry;exact is_bool ⟨.bl (a == b),H,I,rfl,q⟩
theorem zKh:OpR X (compareOp .IsNot) (fun x y H Q=>∃a b,x=.bl a/\y=.bl b/\Q (.bl (a != b)) H):=by intro pins s σ H x y v u Q I rx ry h;obtain⟨a,b,rfl,rfl,q⟩:=h;cases rx;cases ry;exact isnot_bool ⟨.bl (a != b),H,I,rfl,q⟩
end
section
variable {X:Cx}
def zVy(K:W.Frag):R2:=fun x y H Q=>∃a b xs ys,x=.ref a/\y=.ref b/\H a=some (.tup xs)/\H b=some (.tup ys)/\xs.length+ys.length<=sizeLine/\∀p H1,Same H H1->H1 p=some (.tup (xs++ys))->Q (.ref p) H1
theorem zQQ:OpR X (binaryOp .Add) (zVy X.K):=by
 intro pins s σ H x y v u Q I rx ry h;obtain⟨a,b,xs,ys,rfl,rfl,ha,hb,hz,q⟩:=h;by_cases hx:xs=[]
 ·subst hx;cases rx;cases ry;obtain⟨its,r1,p1,_⟩:=I.tuple (SqT.of ha);obtain⟨its2,r2,p2,_⟩:=I.tuple (SqT.of hb);have e:its=[]:=(r1.nil_iff).mpr rfl;subst e;obtain⟨⟨cls,dd,data,sl⟩,ho,hc,n,hd⟩:=id p1;obtain⟨⟨cls2,dd2,data2,sl2⟩,ho2,hc2,n2,hd2⟩:=id p2;simp only at hc hd hc2 hd2;subst hc hd hc2 hd2;exact concat_meets ⟨_,ho,rfl⟩ ⟨_,ho2,rfl⟩ noFill_tuple_add seq_tuple_add PySem.F.slot_tuple_add PySem.F.entry_tuple_add (PySem.F.args_tuple_add_2 _ _)
   (tuple_addW0 a b ([]:yB).toArray its2.toArray n n2 dd dd2 sl sl2 (by simp)) ⟨ho,ho2,⟨.ref b,H,I,rfl,q b H (Same.refl H) hb⟩⟩
 ·refine zTB pins s σ H (.ref a) (.ref b) v u Q I rx ry ⟨a,b,xs,ys,rfl,rfl,SqT.of ha,SqT.of hb,hx,hz,fun e=>?_,fun _ p hp=>q p _ (zHO hp _) zAf⟩;subst e;exact q a H (Same.refl H) (by rw[qH6];exact ha)
theorem zMV(xs:List V)(lo hi:yG)(h:HT.sIx xs.length 0 lo=0/\HT.sIx xs.length xs.length hi=xs.length):cutV xs lo hi=xs:=by unfold cutV;rw[h.1,h.2,qL4,qQ7,qK0]
theorem zE7{prog:Program}{w:World}{A:Around}{E:yL}{s:Shared}{t sl:Addr}{items:yJ}{vl vu:Value}{lo hi:yG}{Q:yL}(ht:IsTup s.heap t items)(hs:s.heap.IsSliceOf sl vl vu .none)(pl:IsPart vl lo)(pu:IsPart vu hi)
  (hw:HT.sIx items.size 0 lo=0/\HT.sIx items.size items.size hi=items.size)
  (h:Q (.ref t) s):wpAny (model prog w) A (getItem (.ref t) (.ref sl)) Q E s:=by
 obtain⟨os,hos,hcs,hds⟩:=id hs;have hTs:s.TypeIs (.ref sl) "slice":=⟨os,hos,hcs⟩
 unfold getItem
 try with_reducible refine wpAny_holding ?_
 first|refine wpAny_bind (wpAny_pure ?_)| skip
 refine wpAny_bind (wpAny_sequenceKey ht.typeIs (by decide) ?_);refine wpAny_bind (wpAny_callSpecial?_slot (name:=Str.ofString "__getitem__") ht.typeIs PyProof.Rows.slot_tuple_getitem
  (wpAny_call_entry PyProof.Rows.slot_tuple_getitem ht.typeIs entry_tuple_getitem ?_ (args_tuple_getitem _ _)))
 show wpAny _ _ (Builtin.Tuple.tupleItemsOf (.ref t) >>= _) _ _ s;refine wpAny_bind (tupleItemsOf_ ht ?_);refine wpAny_bind (wpAny_typeOf hTs ?_);rw[if_pos (by decide)];refine wpAny_bind (HT.sliceApplied_gen hs pl pu ?_);have hyes:(((HT.sIx items.size 0 lo:Nat):Int) == 0&&(1:Int) == 1&&(HT.sIx items.size items.size hi - HT.sIx items.size 0 lo) == items.size)=true:=by rw[hw.1,hw.2];simp
 show wpAny _ _ (if(((HT.sIx items.size 0 lo:Nat):Int) == 0&&(1:Int) == 1&&(HT.sIx items.size items.size hi - HT.sIx items.size 0 lo) == items.size)=true then _ else _) _ _ s;rw[if_pos hyes];have hEx:Builtin.Tuple.tupleIsExact (Value.ref t)=(typeOf (Value.ref t) >>= fun c=>pure (c == .type "tuple")):=rfl;rw[hEx];refine wpAny_bind (wpAny_bind (wpAny_typeOf ht.typeIs (wpAny_pure ?_)));rw[if_pos (by decide)];exact wpAny_bind (wpAny_rule (wpAny_pure ⟨_,rfl,wpAny_pure h⟩))
def zYE(K:W.Frag):V->yG->yG->Hp->VK->Prop:=fun x lo hi H Q=>∃a xs,x=.ref a/\H a=some (.tup xs)/\∀p H1,Same H H1->H1 p=some (.tup (cutV xs lo hi))->Q (.ref p) H1
theorem zSS:SlR X (zYE X.K):=by
 intro pins s σ H x v vl vu lo hi sl Q I rx hs pl pu h;obtain⟨a,xs,rfl,hx,q⟩:=h;by_cases hw:HT.sIx xs.length 0 lo=0/\HT.sIx xs.length xs.length hi=xs.length
 ·cases rx;obtain⟨its,r,ht,hz⟩:=I.tuple (SqT.of hx);have hlen:its.toArray.size=xs.length:=by rw[qA9];exact r.length.symm
  refine⟨"tuple",_,PyProof.Rows.slot_tuple_getitem.lookup,ht.typeIs,?_⟩;exact zE7 ht hs pl pu (by rw[hlen];exact hw) ⟨.ref a,H,I,rfl,q a H (Same.refl H) (by rw[zMV xs lo hi hw];exact hx)⟩
 ·exact zVd pins s σ H (.ref a) v vl vu lo hi sl Q I rx hs pl pu ⟨a,xs,rfl,SqT.of hx,hw,fun p hp=>q p _ (zHO hp _) zAf⟩
end
structure zHH(P:Program)(w:World)(K:W.Frag)(mg:Str->yF)(base:Heap)(x:Str)(ps:yH)(k:Nat)(sp:Sp):Prop where
 ex:∃f fd,FnOk P w K mg base CX0 k f fd ps sp/\zIC K fd ps []/\W.keepIn K (.ref f)=true/\mg x=some (.ref f)
section
variable {X:Cx}{a b c d:Expr}{ta tb tc td:TE}{pos:Pos}
theorem zQK{x:Str}{ps:yH}{k k':Nat}{sp:Sp}{e:Expr}{es:yE}{t:TA}{p:Pos}(C:zHH X.prog X.w X.K X.mg X.base x ps k sp)(hr:Room k' X.A)(hg:Gl X x)(ha:PA X (e::es) t)(hk:k<=k':=by decide)(hdb:(x == ("__debug__":Str))=false:=by decide)
  (h1:starEach (e::es) X.env=(false,eval e X.env)::starEach es X.env:=by rfl) (h2:(backTo pos (starEach es X.env)).any (·.1)=false:=by rfl) :
  PE X (.Call (.Name x p) (e::es) [] pos) (zSK sp [] E0 t):=by obtain⟨f,fd,F,hb,hkp,hm⟩:=C.ex;exact zTx (hdb:=hdb) (he:=h1) (hpl:=h2) F (hr.mono hk) hg hm hkp hb .nil zYQ ha
end
def TK(K:W.Frag)(H H':Hp):Prop:=∀p xs,SqT K H p xs->SqT K H' p xs
theorem TK.refl(K:W.Frag)(H:Hp):TK K H H:=fun _ _ h=>h
theorem TK.trans{K:W.Frag}{H H1 H2:Hp}(a:TK K H H1)(b:TK K H1 H2):TK K H H2:=fun p xs h=>b p xs (a p xs h)
theorem dT{p:Prop}[Decidable p](h:p):decide p=true:=decide_eq_true h
theorem zXj:bootBuiltins "len"=some (.builtin "len"):=by decide +kernel
theorem zRL:bootBuiltins "range"=some (.type "range"):=by decide +kernel
theorem zL4:bootBuiltins "list"=some (.type "list"):=by decide +kernel
theorem zM6:bootBuiltins "tuple"=some (.type "tuple"):=by decide +kernel
theorem zXh:bootBuiltins "min"=some (.builtin "min"):=by decide +kernel
theorem zXi:bootBuiltins "max"=some (.builtin "max"):=by decide +kernel
theorem zXf:bootBuiltins "zip"=some (.type "zip"):=by decide +kernel
theorem zIo:bootBuiltins "isinstance"=some (.builtin "isinstance"):=by decide +kernel
theorem zXl:bootBuiltins "all"=some (.builtin "all"):=by decide +kernel
theorem zXk:bootBuiltins "any"=some (.builtin "any"):=by decide +kernel
theorem zSr:bootBuiltins "int"=some (.type "int"):=by decide +kernel
theorem zUs:bootBuiltins "bool"=some (.type "bool"):=by decide +kernel
theorem zJK:bootBuiltins "enumerate"=some (.type "enumerate"):=by decide +kernel
theorem zXg:bootBuiltins "str"=some (.type "str"):=by decide +kernel
structure C4 where
 a:Int
 b:Int
 k:Int
 o:Int
def C4.ok(sw pl:Int)(c:C4):Prop:=0<=c.a/\c.a<c.b/\c.b<pl/\0<=c.k/\c.k<sw/\0<=c.o/\c.o<2
structure zXz(ms mp mc:Int)(sw pl:Int)(cs:List C4):Prop where
 s1:1<=sw
 s2:sw<=ms
 p1:2<=pl
 p2:pl<=mp
 c1:(cs.length:Int)<=mc
 c2:∀c∈cs,c.ok sw pl
inductive Ty2(K:W.Frag)(H:Hp):V->String->Prop where
 |non:Ty2 K H .non "NoneType"
 |bl (x:Bool):Ty2 K H (.bl x) "bool"
 |int (i:Int):Ty2 K H (.int i) "int"
 |str (x:Str):Ty2 K H (.str x) "str"
 |tup {a:Addr}{xs:List V} (e:SqT K H a xs):Ty2 K H (.ref a) "tuple"
 |lst {a:Addr}{xs:List V} (e:SqL K H a xs):Ty2 K H (.ref a) "list"
 |dk {a:Addr}{kvs:List (Key×V)} (e:H a=some (.dK kvs)):Ty2 K H (.ref a) "dict"
noncomputable def kOf(t T:String):Bool:=t == T||(t == "bool"&&T == "int")
section
variable {X:Cx}
theorem zMz{A:Around}{E:yL}{pins:yD}{σ:St}{H:Hp}{s:Shared}{Q:yL}{c:Value}{b:Bool}{x:V}{u:Value}{t:String}(I:Inv X pins σ H s)(rx:RelV x u)(ty:Ty2 X.K H x t)(e:W.kitOne X.K (.type t) c=some b)(h:∀tk,Q (.bool b) { s with toks:=tk }):
  wpAny (model X.prog X.w) A (call (.builtin "isinstance") [u,c]) Q E s:=by
 cases ty with
 |non=>cases (show u=Value.none from rx);exact W.kia_one W.kitx_none I.kIn True.intro e (fun z=>nomatch z) h
 |bl y=>cases (show u=Value.bool y from rx);exact W.kia_one W.kitx_bool I.kIn True.intro e (fun z=>nomatch z) h
 |int i=>obtain⟨t,q⟩:=(show ∃t,u=Value.int i t from rx);cases q;exact W.kia_one W.kitx_int I.kIn True.intro e (fun z=>nomatch z) h
 |str y=>obtain⟨t,q⟩:=(show ∃t,u=Value.str y t from rx);cases q;exact W.kia_one W.kitx_str I.kIn True.intro e (fun z=>nomatch z) h
 |@lst a xs ea =>
  cases (show u=Value.ref a from rx);obtain⟨its,_,pl,_⟩:=I.list ea;obtain⟨o,h1,h2,_⟩:=pl.isList;exact W.kia_one W.kitx_list I.kIn ⟨o,h1,h2⟩ e (fun z=>nomatch z) h
 |@tup a xs ea =>
  cases (show u=Value.ref a from rx);obtain⟨its,_,pl,_⟩:=I.tuple ea;obtain⟨o,h1,h2,_⟩:=pl;exact W.kia_one W.kitx_tuple I.kIn ⟨o,h1,h2⟩ e (fun z=>nomatch z) h
 |@dk a kvs ea =>
  cases (show u=Value.ref a from rx);obtain⟨_,_,vs,_,p⟩:=(show zC9 X.prog X.w H s.heap a (.dK kvs)from I.hok a _ ea)
  obtain⟨o,es,ep,h1,h2,_⟩:=p;exact W.kia_one W.kitx_dict I.kIn ⟨o,h1,h2.1⟩ e (fun z=>nomatch z) h
theorem zJH:zBE X (.builtin "isinstance") (fun vs H Q=>∃x t T b,vs=[x,.ty T]/\Ty2 X.K H x t/\W.kitOne X.K (.type t) (.type T)=some b/\Q (.bl b) H):=by intro pins s σ H xs us Q I r h;obtain⟨x,t,T,b,rfl,ty,e,q⟩:=h;obtain⟨u,v,rfl,ru,rv⟩:=zMa r;cases rv;exact zMz I ru ty e fun tk=>⟨.bl b,H,I.tok tk,rfl,q⟩
end
theorem zR6(K:W.Frag):(∀t∈["NoneType","bool","int","str","tuple","list","dict"],∀T∈["bool","int","tuple","list","str","dict"],W.kitOne K (.type t) (.type T)=some (kOf t T)):=by intro t ht T hT;simp only[qC0,qK1,or_false]at ht hT;rcases ht with rfl|rfl|rfl|rfl|rfl|rfl|rfl<;>rcases hT with rfl|rfl|rfl|rfl|rfl|rfl<;>rfl
mutual
inductive Rp(K:W.Frag)(H:Hp)(a0:Addr->Prop):V->PyData->Prop where
 |non:Rp K H a0 .non .none
 |bl (b:Bool):Rp K H a0 (.bl b) (.bool b)
 |int (i:Int):Rp K H a0 (.int i) (.int i)
 |str (x:Str):Rp K H a0 (.str x) (.str x)
 |tup {p:Addr}{xs:List V}{ds:List PyData} (h:SqT K H p xs) (r:RpL K H a0 xs ds):Rp K H a0 (.ref p) (.tuple ds)
 |lst {p:Addr}{xs:List V}{ds:List PyData} (n:a0 p) (h:SqL K H p xs) (r:RpL K H a0 xs ds):Rp K H a0 (.ref p) (.list ds)
inductive RpL(K:W.Frag)(H:Hp)(a0:Addr->Prop):List V->List PyData->Prop where
 |nil:RpL K H a0 [] []
 |cons {x:V}{xs:List V}{d:PyData}{ds:List PyData} (h:Rp K H a0 x d) (t:RpL K H a0 xs ds):RpL K H a0 (x::xs) (d::ds)
end
noncomputable def C4.d(c:C4):PyData:=.tuple [.int c.a,.int c.b,.int c.k,.int c.o]
open PySem PySem.Spec PyProof.Rows
section
variable {prog:Program}{w:World}{A:Around}{E:yL}{s:Shared}
theorem zII{j t:Addr}{n:Nat}{vs:yJ}{v:Value}{Q:yL}(hj:s.heap.IsTupleIter j t n)(ht:s.heap.IsTuple t vs)(hv:vs[n]?=some v)
  (q:∀h',h'.IsTupleIter j t (n+1)->qE1 j s.heap h'->Q v { s with heap:=h' }):wpAny (model prog w) A (Builtin.SmallTypes.nextOf (.ref j)) Q E s:=by obtain⟨oj,e1,c1,d1⟩:=id hj;obtain⟨ot,e2,_,m,d2⟩:=ht;unfold Builtin.SmallTypes.nextOf;refine wpAny_bind (wpAny_callSpecial?_slot (name:=Str.ofString "__next__") hj.typeIs F.slot_tuple_iterator_next (wpAny_call_entry F.slot_tuple_iterator_next hj.typeIs F.entry_tuple_iterator_next ?_ (F.args_tuple_iterator_next_1 _)));show wpAny _ _ (field (.ref j) 0 >>= _) _ _ s;refine wpAny_bind (wpAny_field e1 d1 (x:=.ref t) rfl ?_);show wpAny _ _ (if(Value.ref t == Value.none)=true then _ else _) _ _ s;rw[if_neg (show ¬((Value.ref t == Value.none)=true)from fun z=>qB0 z)];show wpAny _ _ (field (.ref j) 1 >>= _) _ _ s;refine wpAny_bind (wpAny_field e1 d1 (x:=.int n 0) rfl ?_);show wpAny _ _ (seqItems? (.ref t) >>= _) _ _ s;refine wpAny_bind (wpAny_seqItems e2 d2 ?_);simp only[hv,qI4];refine wpAny_bind (wpAny_setField e1 d1 (by simp) (wpAny_pure ⟨v,rfl,wpAny_pure (q _ ?_ (qE1.update ..))⟩));refine⟨_,qI1 _ e1 (Obj.isFreed_of_fields (Obj.data_mapFields d1 _)),(Obj.cls_mapFields ..).trans c1,?_⟩;rw[Obj.data_mapFields d1];simp[rawInt]
theorem zK8{j t:Addr}{n:Nat}{vs:yJ}{Q:yL}(hh:A.handled=none)(hj:s.heap.IsTupleIter j t n)(ht:s.heap.IsTuple t vs)(hv:vs[n]?=none)
  (q:∀h' e,Heap.ExtBut j s.heap h'->(∃o,h'.get? e=some o/\o.cls=.type "StopIteration")->E (.ref e) { s with heap:=h' }):wpAny (model prog w) A (Builtin.SmallTypes.nextOf (.ref j)) Q E s:=by
 obtain⟨oj,e1,c1,d1⟩:=id hj;obtain⟨ot,e2,_,m,d2⟩:=ht;unfold Builtin.SmallTypes.nextOf;refine wpAny_bind (wpAny_callSpecial?_slot (name:=Str.ofString "__next__") hj.typeIs F.slot_tuple_iterator_next (wpAny_call_entry F.slot_tuple_iterator_next hj.typeIs F.entry_tuple_iterator_next ?_ (F.args_tuple_iterator_next_1 _)));show wpAny _ _ (field (.ref j) 0 >>= _) _ _ s;refine wpAny_bind (wpAny_field e1 d1 (x:=.ref t) rfl ?_);show wpAny _ _ (if(Value.ref t == Value.none)=true then _ else _) _ _ s;rw[if_neg (show ¬((Value.ref t == Value.none)=true)from fun z=>qB0 z)];show wpAny _ _ (field (.ref j) 1 >>= _) _ _ s;refine wpAny_bind (wpAny_field e1 d1 (x:=.int n 0) rfl ?_);show wpAny _ _ (seqItems? (.ref t) >>= _) _ _ s;refine wpAny_bind (wpAny_seqItems e2 d2 ?_);simp only[hv,qI4];refine wpAny_bind (wpAny_rule (wpAny_bind (wpAny_setField e1 d1 (by simp) ?_)));refine wpAny_bind (m:=newExc (.type "StopIteration") []) ?_;simp only[newTuple,newExc];refine wpAny_bind (wpAny_newObj_type ?_ (by size_fits));refine wpAny_bind (m:=firstArgMember _ _) (wpAny_of_eq (a:=Value.none) (by first|(simp only[firstArgMember];rfl)| rfl) ?_);refine wpAny_newObj_type ?_ (by size_fits);simp only[raiseNew];refine wpAny_bind (wpAny_handled ?_)
 first|rw[hh]| rw[show A.in1.handled=none from hh]
 refine wpAny_bind (wpAny_pure (wpAny_throw ?_));exact q _ _ (((qE1.update ..).extBut.push _).push _) ⟨_,qB7 _ rfl,rfl⟩
end
theorem zMU{prog:Program}{w:World}{A:Around}(hh:A.handled=none)(j t:Addr)(hne:t≠j)(vs:yJ):
  Draws prog w A j [j,t] vs.size (fun i v=>vs[i]?=some v) (fun i h=>h.IsTupleIter j t i/\h.IsTuple t vs) where
 live:=fun _ _ st=>let ⟨o,ho,_⟩:=st.1;⟨o,ho⟩
 frame:=fun _ _ _ st kk=>⟨st.1.at fun o e=>kk j (by simp) o e,let ⟨o,ho,r⟩:=st.2;⟨o,kk t (by simp) o ho,r⟩⟩
 item:=fun i s Q E hi st hQ=>zII st.1 st.2 (v:=vs[i]) (by simp[hi]) fun h' h1 h2=>hQ _ h' s.toks (by simp[hi]) ⟨h1,st.2.extBut h2.extBut hne⟩ h2
 done:=fun s Q E st hE=>zK8 hh st.1 st.2 (by simp) hE
theorem zRx(l:Addr)(items:yJ)(n:Nat)(dct:Option Addr)(sl:Array (yF)):
  Meets (Builtin.«enumerate.__new__» ⟨[.type "enumerate",.ref l],[]⟩) (fun _ R s=>s.heap.get? l=some { cls:=.type "tuple",dict:=dct,data:=.seq items n,slots:=sl } /\
   R (.ok (.ret (.ref (s.heap.push { cls:=.type "tuple_iterator",data:=.fields #[.ref l,.int 0 0] }).objs.size)))
    { s with heap:=(s.heap.push { cls:=.type "tuple_iterator",data:=.fields #[.ref l,.int 0 0] }).push { cls:=.type "enumerate",data:=.fields #[.none,.bool false,.ref s.heap.objs.size,rawInt 0,.none,.none] } }) :=
 .of_wp fun prog w A R s h=>by
  obtain⟨hp,g,d,tk,os⟩:=s;obtain⟨hl,h⟩:=h;have hsub:=sub_enumerate;have hT:qK2 (Shared.heap ⟨hp,g,d,tk,os⟩) l items:=⟨_,hl,rfl,n,rfl⟩
  wp_walk using AutoSeq1.wpAny_loadPart' hl
  refine wpAny_stack_any fun st=>wpAny_pure ?_;split
  ·rename_i c _ _ _ _ _;cases (c == Value.type "enumerate")<;>(wp_walk using AutoSeq1.wpAny_loadPart' hl,wpAny_pyIter_tuple hT;exact⟨_,rfl,h⟩)
  ·wp_walk using AutoSeq1.wpAny_loadPart' hl,wpAny_pyIter_tuple hT
   exact⟨_,rfl,h⟩
open PySem PySem.Spec PyProof.Rows
section
variable {X:Cx}{pins:yD}{σ:St}{H:Hp}{s:Shared}
mutual
theorem Inv.reads(I:Inv X pins σ H s){a0:Addr->Prop}:∀{x:V}{d:PyData}{u:Value},Rp X.K H a0 x d->RelV x u->∃as,Reads s.heap u d as
 |_,_,u,.non,r=>by cases (show u=Value.none from r);exact⟨_,.none⟩
 |_,_,u,.bl b,r=>by cases (show u=Value.bool b from r);exact⟨_,.bool b⟩
 |_,_,u,.int i,r=>by obtain⟨t,q⟩:=(show ∃t,u=Value.int i t from r);cases q;exact⟨_,.int i t⟩
 |_,_,u,.str y,r=>by obtain⟨t,q⟩:=(show ∃t,u=Value.str y t from r);cases q;exact⟨_,.str y t⟩
 |_,_,u,.tup (p:=p) h rr,r=>by cases (show u=Value.ref p from r);obtain⟨its,rv,⟨o,h1,h2,n,h3⟩,_⟩:=I.tuple h;obtain⟨as,ra⟩:=I.readsL rr rv;exact⟨_,.tuple h1 h2 h3 (by simpa using ra)⟩
 |_,_,u,.lst (p:=p) _ h rr,r=>by cases (show u=Value.ref p from r);obtain⟨its,rv,pl,_⟩:=I.list h;obtain⟨o,h1,h2,n,h3⟩:=pl.isList;obtain⟨as,ra⟩:=I.readsL rr rv;exact⟨_,.list h1 h2 h3 (by simpa using ra)⟩
theorem Inv.readsL(I:Inv X pins σ H s){a0:Addr->Prop}:∀{xs:List V}{ds:List PyData}{us:yB},RpL X.K H a0 xs ds->Vals xs us->∃as,ReadsAll s.heap us ds as
 |_,_,_,.nil,.nil=>⟨_,.nil⟩
 |_,_,_,.cons h t,.cons r rr=>by obtain⟨a1,q1⟩:=I.reads h r;obtain⟨a2,q2⟩:=I.readsL t rr;exact⟨_,.cons q1 q2⟩
end
def okD(d:PyData):Prop:=d.canLay0=true/\d.depth<=60
theorem zWb(hu:X.A.units+64<cLine):OpR X (compareOp .Eq) (fun x y H Q=>∃(N N':Addr->Prop) (da db:PyData),Rp X.K H N x da/\Rp X.K H N' y db/\okD da/\okD db/\Q (.bl (PyData.eqv da db)) H):=by intro pins s σ H x y v u Q I rx ry h;obtain⟨N,N',da,db,hx,hy,o1,o2,q⟩:=h;obtain⟨as,ra⟩:=I.reads hx rx;obtain⟨bs,rb⟩:=I.reads hy ry;exact SeqAt.compareEq_reads ra rb o1.1 o2.1 (by have:=o1.2;omega) ⟨.bl _,H,I,rfl,q⟩
theorem zW6(hu:X.A.units+64<cLine):OpR X (compareOp .NotEq) (fun x y H Q=>∃(N N':Addr->Prop) (da db:PyData),Rp X.K H N x da/\Rp X.K H N' y db/\okD da/\okD db/\Q (.bl (!PyData.eqv da db)) H):=by intro pins s σ H x y v u Q I rx ry h;obtain⟨N,N',da,db,hx,hy,o1,o2,q⟩:=h;obtain⟨as,ra⟩:=I.reads hx rx;obtain⟨bs,rb⟩:=I.reads hy ry;exact SeqAt.compareNe_reads ra rb o1.1 o2.1 (by have:=o1.2;omega) ⟨.bl _,H,I,rfl,q⟩
end
open PySem PySem.Spec PyProof.Rows
def SqX(b:Bool)(K:W.Frag)(H:Hp)(a:Addr)(xs:List V):Prop:=match b with
 |true=>SqT K H a xs
 |false=>SqL K H a xs
def IsX(b:Bool)(h:Heap)(a:Addr)(vs:yJ):Prop:=match b with
 |true=>h.IsTuple a vs
 |false=>h.IsList a vs
def ItX(b:Bool)(h:Heap)(j a:Addr)(i:Nat):Prop:=match b with
 |true=>h.IsTupleIter j a i
 |false=>h.IsListIter j a i
theorem ItX.obj{b:Bool}{h:Heap}{j a:Addr}{i:Nat}(x:ItX b h j a i):∃o,h.get? j=some o/\∀v,o.data≠.cell v:=by
 cases b with
 |true=>obtain⟨o,h1,_,h2⟩:=(x:h.IsTupleIter j a i);exact⟨o,h1,fun v q=>by rw[h2]at q;cases q⟩
 |false=>obtain⟨o,h1,_,h2⟩:=(x:h.IsListIter j a i);exact⟨o,h1,fun v q=>by rw[h2]at q;cases q⟩
theorem ItX.keep{b:Bool}{h h':Heap}{j a:Addr}{i:Nat}(x:ItX b h j a i)(e:∀o,h.get? j=some o->h'.get? j=some o):ItX b h' j a i:=by
 cases b with
 |true=>exact Heap.IsTupleIter.at x e
 |false=>exact Heap.IsListIter.at x e
theorem IsX.lt{b:Bool}{h:Heap}{a:Addr}{vs:yJ}(x:IsX b h a vs):a<h.objs.size:=by
 cases b with
 |true=>obtain⟨_,e,_⟩:=(x:h.IsTuple a vs);exact qB8 e
 |false=>obtain⟨_,e,_⟩:=(x:h.IsList a vs);exact qB8 e
theorem zHz{prog:Program}{w:World}{A:Around}(b:Bool)(hh:A.handled=none)(j t:Addr)(hne:t≠j)(vs:yJ):
  Draws prog w A j [j,t] vs.size (fun i v=>vs[i]?=some v) (fun i h=>ItX b h j t i/\IsX b h t vs):=by
 cases b with
 |true=>exact zMU hh j t hne vs
 |false=>exact Draws.list hh j t hne vs
section
variable {X:Cx}{pins:yD}{σ:St}{H:Hp}{s:Shared}
theorem Inv.sqX(I:Inv X pins σ H s){b:Bool}{a:Addr}{xs:List V}(h:SqX b X.K H a xs):∃its,Vals xs its/\IsX b s.heap a its.toArray:=by
 cases b with
 |true=>obtain⟨its,r,p,_⟩:=I.tuple h;exact⟨its,r,p⟩
 |false=>obtain⟨its,r,p,_⟩:=I.list h;exact⟨its,r,p.isList⟩
theorem Inv.sqX_inj(I:Inv X pins σ H s){b:Bool}{a:Addr}{xs ys:List V}(h:SqX b X.K H a xs)(h':SqX b X.K H a ys):xs=ys:=by
 cases b with
 |true=>exact I.tuple_inj h h'
 |false=>exact I.list_inj h h'
end
noncomputable def IteX(b:Bool)(K:W.Frag)(a:Addr):It :=
  ⟨fun i H=>∃xs x,SqX b K H a xs/\xs[i]?=some x,
   fun i H v H'=>∃T,H T=none/\v=.ref T/\∀xs x,SqX b K H a xs->xs[i]?=some x->H'=upd H T (.tup [.int i,x]),
   fun i H=>∃xs,SqX b K H a xs/\i=xs.length⟩
theorem allN{P:Addr->Prop}:∀x∈([]:yC),P x:=fun _ h=>by cases h
theorem allC{P:Addr->Prop}{a:Addr}{l:yC}(h:P a)(t:∀x∈l,P x):∀x∈a::l,P x:=fun x hx=>(qC0.mp hx).elim (fun e=>e▸h) (t x)
theorem zSg{X:Cx}{pins:yD}{H:Hp}{T:Addr}{o:HO}{ws:yC}(h:∀b∈ws,FpOk X pins H b)(n:∀b∈ws,b≠T):∀b∈ws,FpOk X pins (upd H T o) b:=fun b hb=>⟨by rw[zAb (n b hb)];exact(h b hb).1,(h b hb).2⟩
structure EsX(b:Bool)(e it a:Addr)(i:Nat)(h:Heap):Prop where
 a1:∃old,IsEnum h e it (i:Nat) old
 a2:ItX b h it a i
theorem EsX.obj{b:Bool}{e it a:Addr}{i:Nat}{h:Heap}(st:EsX b e it a i h):∀c∈[e,it],∃o,h.get? c=some o/\∀v,o.data≠.cell v:=by obtain⟨_,a1⟩:=st.a1;exact allC ⟨_,a1,fun v q=>by cases q⟩ (allC st.a2.obj allN)
theorem EsX.ne{b:Bool}{e it a:Addr}{i:Nat}{h:Heap}(st:EsX b e it a i h){T:Addr}(hT:h.objs.size<=T):∀c∈[e,it],c≠T:=fun c hc=>by obtain⟨o,z,_⟩:=st.obj c hc;exact qC8 (qC4 (qB8 z) hT)
theorem zyE{b:Bool}{a:Addr}{i:Nat}{X:Cx}{pins:yD}{σ:St}{H:Hp}{s:Shared}(I:Inv X pins σ H s){xs:List V}{x:V}(q1:SqX b X.K H a xs)(ex:xs[i]?=some x){T:Addr}(xs':List V)(x':V)(s1:SqX b X.K H a xs')(t1:xs'[i]?=some x'):upd H T (.tup [.int i,x])=upd H T (.tup [.int i,x']):=by have h1:=I.sqX_inj q1 s1;subst h1;rw[ex]at t1;cases t1;rfl
theorem zvE{t1:yB}{u1:Value}{i:Nat}{vals:yJ}(e1:t1[i]?=some u1)(hv:∃tt v,t1.toArray[i]?=some v/\vals=#[.int (i:Nat) tt,v]):∃tt,vals=#[.int (i:Nat) tt,u1]:=by obtain⟨tt,v,g,rfl⟩:=hv;rw[qD5,e1]at g;cases g;exact⟨tt,rfl⟩
theorem zHa{P:Program}{w:World}{K:PySem.W.Frag}{elts:yE}{k:Nat}{pos:Pos}(b:Bool)(e it a:Addr)(hei:e≠it)(hea:e≠a)(hai:a≠it):
  Turn P w K (.Tuple elts k pos) (IteX b K a) [e,it] e (EsX b e it a) where
 mem:=by simp
 obj:=fun i h st=>st.obj
 keep:=fun i h h' ⟨⟨old,h1⟩,h2⟩ kk=>⟨⟨old,kk e (by simp) _ h1⟩,h2.keep fun o z=>kk it (by simp) o z⟩
 item:=by intro X hP hw hK hc i pins s σ H E I hf st hg;subst hP hw hK;obtain⟨xs,x,q1,ex⟩:=hg;obtain⟨its1,r1,p1⟩:=I.sqX q1;obtain⟨u1,e1,ru1⟩:=r1.get ex;have D:=zHz (prog:=X.prog) (w:=X.w) (A:=X.A.in1) b (show X.A.in1.handled=none from I.ok.hd hc) it a hai its1.toArray;have W:=WalksT.enumerateD (A:=X.A) D e hei (by simp[hei,hea]) (by simp);have hl1:i<its1.length:=(qA2.mp e1).1;refine W.item i s _ _ (by simp only[qA9];omega) ⟨st.1,st.2,p1⟩ fun T vals h' tk hv hT hIs hM kk=>?_;obtain⟨tt,hvv⟩:=zvE e1 hv;subst hvv;have nT:=st.ne hT;refine⟨_,rfl,W.go _ _ _ i T { s with heap:=h',toks:=tk } _ _ hM fun h2 st2 kk2=>?_⟩;have I1:Inv X pins σ (upd H T (.tup [.int i,x])) { s with heap:=h',toks:=tk }:=I.yields (its:=[.int i tt,u1]) hf kk hT (.cons ⟨tt,rfl⟩ (.cons ru1 .nil)) (by show 2<=sizeLine;decide) hIs;exact⟨.ref T,_,I1.turnedL (tk:=tk) (zSg hf nT) kk2,rfl,⟨T,I.hok.fresh hT,rfl,zyE I q1 ex⟩,⟨st2.1,st2.2.1⟩,fun c hc=>by rw[zAb (nT c hc)];exact(hf c hc).1⟩
 done:=by
  intro X hP hw hK hc i pins s σ H E I hf st hg;subst hP hw hK;obtain⟨xs,q1,ei⟩:=hg;obtain⟨its1,r1,p1⟩:=I.sqX q1;have D:=zHz (prog:=X.prog) (w:=X.w) (A:=X.A.in1) b (show X.A.in1.handled=none from I.ok.hd hc) it a hai its1.toArray;have W:=WalksT.enumerateD (A:=X.A) D e hei (by simp[hei,hea]) (by simp);have en:i=its1.toArray.size:=by rw[qA9,<- r1.length];exact ei
  refine W.done s _ _ (by rw[<- en];exact⟨st.1,st.2,p1⟩) fun h' tk kk=>?_;exact⟨rfl,I.turnedL hf kk⟩
 self:=fun _ _ _ _ _ st h=>let ⟨⟨_,z⟩,_⟩:=st;wpAny_pyIter_enum z h
section
variable {X:Cx}
def zSe(K:W.Frag)(ta:TA):TI:=fun σ H R=>ta σ H fun vs H1=>∃a,vs=[.ref a]/\((∃xs,SqT K H1 a xs)/\R (IteX true K a) H1∨(∃xs,SqL K H1 a xs)/\R (IteX false K a) H1)
theorem zQD{elts:yE}{k:Nat}{tpos:Pos}{a:Expr}{ta:TA}{p pos:Pos}(hg:Gl X "enumerate")(hm:X.mg "enumerate"=none)(ha:PA X [a] ta)(hs:starEach [a] X.env=[(false,eval a X.env)]:=by rfl):
  PI X (.Tuple elts k tpos) (.Call (.Name "enumerate" p) [a] [] pos) (zSe X.K ta):=by
 intro pins s σ H R I h;refine Call_ (zG9 I hg hm zJK (PyProof.Rows.callWith_type1 (thn (ha pos pins s σ H _ I h) fun us s1 ⟨vs,H1,I1,r1,q1⟩=>?_) (by rw[hs];rfl) (by rfl)));obtain⟨t,e,q⟩:=q1;subst e;rcases q with⟨⟨xs,h1⟩,q⟩| ⟨⟨xs,h1⟩,q⟩
 ·cases r1 with
  |cons r rr =>
   cases rr;cases r;obtain⟨its1,v1,p1,z1⟩:=I1.tuple h1;obtain⟨⟨c,dct,dt,sl⟩,hl,hc,n,hd⟩:=id p1
   replace hc:c=.type "tuple":=hc
   replace hd:dt=.seq its1.toArray n:=hd
   subst hc hd;have hlt:t<s1.heap.objs.size:=qB8 hl;refine callType_new PySem.F.called_enumerate (by decide) (PySem.F.typeCall_enumerate_1 _) (PySem.F.newCall_enumerate_1 _) (fun obj=>PySem.F.args_object_init_2 obj _) PySem.F.entry_enumerate_new (zRx t its1.toArray n dct sl) ⟨hl,?_⟩;have hz:(s1.heap.push { cls:=.type "tuple_iterator",data:=.fields #[.ref t,.int 0 0] }).objs.size=s1.heap.objs.size+1:=qG6 ..;show _/\_;rw[hz];have he:IsEnum ((s1.heap.push { cls:=.type "tuple_iterator",data:=.fields #[.ref t,.int 0 0] }).push { cls:=.type "enumerate",data:=.fields #[.none,.bool false,.ref s1.heap.objs.size,rawInt 0,.none,.none] }) (s1.heap.objs.size+1) s1.heap.objs.size 0 .none:=by have z:=qB7 (s1.heap.push { cls:=.type "tuple_iterator",data:=.fields #[.ref t,.int 0 0] }) (o:={ cls:=.type "enumerate",data:=.fields #[.none,.bool false,.ref s1.heap.objs.size,rawInt 0,.none,.none] }) rfl;rw[hz]at z;exact z
   refine⟨⟨_,he,rfl⟩,?_⟩;refine wpAny_pyIter_enum he ?_;have kp:∀b o,s1.heap.get? b=some o->((s1.heap.push { cls:=.type "tuple_iterator",data:=.fields #[.ref t,.int 0 0] }).push { cls:=.type "enumerate",data:=.fields #[.none,.bool false,.ref s1.heap.objs.size,rawInt 0,.none,.none] }).get? b=some o:=fun b o x=>qA6 _ (qA6 _ x);refine⟨_,_,_,_,H1,rfl,I1.kept (t':=s1.toks) kp,zHa true (s1.heap.objs.size+1) s1.heap.objs.size t (qR4 _) (qJ3 (qG7 hlt)) (qC8 hlt),⟨⟨_,he⟩,⟨_,qA6 _ (qB7 _ rfl),rfl,rfl⟩⟩,fun b hb=>?_,q⟩;have hle:s1.heap.objs.size<=b:=by
    simp only[qC0,qK1,or_false]at hb;rcases hb with rfl|rfl
    ·exact qN8 _
    ·exact qB1 _
   exact I1.fpOk hle (I1.hok.fresh hle)
 ·cases r1 with
  |cons r rr =>
   cases rr;cases r;obtain⟨its1,v1,p1,z1⟩:=I1.list h1;have hlt:t<s1.heap.objs.size:=by obtain⟨_,e,_⟩:=p1.isList;exact qB8 e
   refine call_enumerate_list p1.isList fun h' he hi hsz hk=>?_;refine wpAny_pyIter_enum he ?_;refine⟨_,_,_,_,H1,rfl,I1.kept (t':=s1.toks) hk,zHa false (s1.heap.objs.size+1) s1.heap.objs.size t (qR4 _) (qJ3 (qG7 hlt)) (qC8 hlt),⟨⟨_,he⟩,hi⟩,fun b hb=>?_,q⟩;have hle:s1.heap.objs.size<=b:=by
    simp only[qC0,qK1,or_false]at hb;rcases hb with rfl|rfl
    ·exact qN8 _
    ·exact qB1 _
   exact I1.fpOk hle (I1.hok.fresh hle)
end
section
variable {X:Cx}
theorem zFf{h:Heap}:∀{ds:List PyData}{us:yB}{as:yC}{i:Nat}{u:Value},ReadsAll h us ds as->us[i]?=some u->∃d bs,ds[i]?=some d/\Reads h u d bs
 |_,_,_,i,u,.nil,e=>by simp at e
 |_,_,_,0,u,.cons r rr,e=>by simp at e;subst e;exact⟨_,_,rfl,r⟩
 |_,_,_,i+1,u,.cons r rr,e=>by rw[qD6]at e;obtain⟨d,bs,h1,h2⟩:=zFf rr e;exact⟨d,bs,by rw[qD6];exact h1,h2⟩
open Classical in
noncomputable def eqW(h:Heap)(dx:PyData)(y:Value):Bool:=decide (∃d as,Reads h y d as/\d.canLay0=true/\PyData.eqv d dx=true)
theorem zSj{h:Heap}{dx d:PyData}{y:Value}{as:yC}(r:Reads h y d as)(c:d.canLay0=true):eqW h dx y=PyData.eqv d dx:=by
 classical
 unfold eqW;cases q:PyData.eqv d dx with
 |true=>exact decide_eq_true ⟨d,as,r,c,q⟩
 |false =>
  refine decide_eq_false ?_;rintro⟨d',as',r',c',q'⟩;have:=SeqAt.Reads.unique d d' y as as' c r r';subst this;rw[q]at q';cases q'
end
open PySem PySem.Spec PyProof.Rows
structure ZAp(z TI TO i1 i2:Addr)(f1 f2:yC):Prop where
 TIz:TI≠z
 TOz:TO≠z
 i1z:i1≠z
 i2z:i2≠z
 TITO:TI≠TO
 TIi1:TI≠i1
 TIi2:TI≠i2
 TOi1:TO≠i1
 TOi2:TO≠i2
 i12:i1≠i2
 z1:z∉f1
 z2:z∉f2
 O1:TO∉f1
 O2:TO∉f2
 j1:i2∉f1
 j2:i1∉f2
section
variable {prog:Program}{w:World}{A:Around}{E:yL}{s:Shared}
variable {z TI TO i1 i2:Addr}{f1 f2:yC}{n1 n2 k:Nat}{P1 P2:Nat->Value->Prop}{S1 S2:Nat->Heap->Prop}
theorem Draws.sb{j c:Addr}{fp:yC}{n i:Nat}{P:Nat->Value->Prop}{St:Nat->Heap->Prop}{h h':Heap}(D:Draws prog w A j fp n P St)(st:St i h)(sb:qE1 c h h')(hc:c∉fp):St i h' :=
 D.frame _ _ _ st fun b hb o e=>sb.extBut b o (fun q=>hc (q▸hb)) e
theorem zLg{Q:Fin->Shared->Prop}{a b:Value}(hz:IsZip s.heap z TI TO .none)(hTI:IsPair s.heap TI (.ref i1) (.ref i2))(hTO:IsPair s.heap TO a b)(hh:A.handled=none)
  (D1:∀A:Around,A.handled=none->Draws prog w A i1 f1 n1 P1 S1) (D2:∀A:Around,A.handled=none->Draws prog w A i2 f2 n2 P2 S2) (ap:ZAp z TI TO i1 i2 f1 f2) (h1:S1 k s.heap) (h2:S2 k s.heap)
  (hQ:k<n1->k<n2->∀x y h' tk,P1 k x->P2 k y->IsZip h' z TI TO (rawInt s.heap.objs.size)->IsPair h' TO x y->S1 (k+1) h'->S2 (k+1) h'->IsPair h' s.heap.objs.size x y->h'.objs.size=s.heap.objs.size+1 ->
   (∀c o,c≠z->c≠TO->c≠i1->c≠i2->s.heap.get? c=some o->h'.get? c=some o)->Q (.done (.ret (.ref s.heap.objs.size))) { s with heap:=h',toks:=tk })
  (hE:(k=n1∨k=n2)->∀h' e tk,(∀c o,c≠z->c≠TO->c≠i1->c≠i2->s.heap.get? c=some o->h'.get? c=some o)->(∃o,h'.get? e=some o/\o.cls=.type "StopIteration")->E (.ref e) { s with heap:=h',toks:=tk })
  (hk1:k<=n1) (hk2:k<=n2):wpAny (model prog w) A (Builtin.«zip.__next__» ⟨[.ref z],[]⟩) Q E s:=by
 show wpAny _ _ (field (.ref z) 2 >>= _) _ _ _;refine wpAny_bind (wpAny_field hz rfl (x:=.bool false) rfl ?_);show wpAny _ _ (field (.ref z) 3 >>= _) _ _ _;refine wpAny_bind (wpAny_field hz rfl (x:=.ref TI) rfl ?_);refine wpAny_bind (wpAny_seqItems hTI rfl ?_);show wpAny _ _ (Builtin.SmallTypes.ownedTupleIsFree (.ref z) >>= _) _ _ _;refine wpAny_bind ?_;unfold Builtin.SmallTypes.ownedTupleIsFree;refine wpAny_bind (wpAny_field hz rfl (x:=.none) rfl (wpAny_pure ?_));simp only[if_true];refine wpAny_bind (wpAny_rule ?_);refine wpAny_bind (wpAny_field hz rfl (x:=.ref TO) rfl ?_);refine wpAny_bind (wpAny_setField_rec hz (by simp) fun ha za sa=>?_)
 replace za:IsZip ha z TI TO .ellipsis:=za
 have s1a:S1 k ha:=Draws.sb (D1 A hh) h1 sa ap.z1;have s2a:S2 k ha:=Draws.sb (D2 A hh) h2 sa ap.z2;have oa:IsPair ha TO a b:=sa.extBut _ _ ap.TOz hTO;refine wpAny_bind ?_;simp only[qR5,List.zipIdx_nil,qS5,qT1];refine wpAny_bind (wpAny_bind (wpAny_onRaise ?_));show wpAny _ _ (Builtin.SmallTypes.nextOf (.ref i1) >>= _) _ _ _;by_cases l1:k<n1
 ·refine wpAny_bind ((D1 _ hh).item k _ _ _ l1 s1a fun x hb tb px s1b sb=>wpAny_pure ?_);have ob:IsPair hb TO a b:=sb.extBut _ _ ap.TOi1 oa;have s2b:S2 k hb:=Draws.sb (D2 A hh) s2a sb ap.j2;have zb:IsZip hb z TI TO .ellipsis:=sb.extBut _ _ ap.i1z.symm za;refine wpAny_bind (wpAny_seqItems ob rfl ?_);refine wpAny_bind (wpAny_updateSeq_pair ob fun hc oc sc=>?_)
  replace oc:IsPair hc TO x b:=oc
  have s1c:S1 (k+1) hc:=Draws.sb (D1 A hh) s1b sc ap.O1;have s2c:S2 k hc:=Draws.sb (D2 A hh) s2b sc ap.O2;have zc:IsZip hc z TI TO .ellipsis:=sc.extBut _ _ ap.TOz.symm zb;refine wpAny_bind (wpAny_letGo (wpAny_pure ?_));refine wpAny_bind (wpAny_bind (wpAny_onRaise ?_));show wpAny _ _ (Builtin.SmallTypes.nextOf (.ref i2) >>= _) _ _ _;by_cases l2:k<n2
  ·refine wpAny_bind ((D2 _ hh).item k _ _ _ l2 s2c fun y hd td py s2d sd=>wpAny_pure ?_);have od:IsPair hd TO x b:=sd.extBut _ _ ap.TOi2 oc;have s1d:S1 (k+1) hd:=Draws.sb (D1 A hh) s1c sd ap.j1;have zd:IsZip hd z TI TO .ellipsis:=sd.extBut _ _ ap.i2z.symm zc;refine wpAny_bind (wpAny_seqItems od rfl ?_);refine wpAny_bind (wpAny_updateSeq_pair od fun he oe se=>?_)
   replace oe:IsPair he TO x y:=oe
   have s1e:S1 (k+1) he:=Draws.sb (D1 A hh) s1d se ap.O1;have s2e:S2 (k+1) he:=Draws.sb (D2 A hh) s2d se ap.O2;have ze:IsZip he z TI TO .ellipsis:=se.extBut _ _ ap.TOz.symm zd;refine wpAny_bind (wpAny_letGo (wpAny_pure (wpAny_pure ?_)));refine wpAny_bind (wpAny_seqItems oe rfl ?_);refine wpAny_bind (wpAny_newTuple ?_);have hsz:he.objs.size=s.heap.objs.size:=by rw[se.1,sd.1,sc.1,sb.1,sa.1]
   have kp:∀c o,c≠z->c≠TO->c≠i1->c≠i2->s.heap.get? c=some o->he.get? c=some o:=fun c o c1 c2 c3 c4 e =>
    se.extBut _ _ c2 (sd.extBut _ _ c4 (sc.extBut _ _ c2 (sb.extBut _ _ c3 (sa.extBut _ _ c1 e))))
   have zlt:z<he.objs.size:=qB8 ze;show wpAny _ _ (Builtin.SmallTypes.ownedTupleHandOut (.ref z) (.ref he.objs.size) >>= _) _ _ _;refine wpAny_bind ?_;unfold Builtin.SmallTypes.ownedTupleHandOut;have zf:IsZip (he.push { cls:=.type "tuple",data:=.seq #[x,y] }) z TI TO .ellipsis:=qA6 _ ze;refine wpAny_bind (wpAny_setField_rec zf (by simp) fun hg zg sg=>?_)
   replace zg:IsZip hg z TI TO (rawInt he.objs.size):=zg
   refine wpAny_setField_rec zg (by simp) fun hi zi si=>?_
   replace zi:IsZip hi z TI TO (rawInt he.objs.size):=zi
   have up:∀c o,c≠z->he.get? c=some o->hi.get? c=some o:=fun c o c1 e=>si.extBut _ _ c1 (sg.extBut _ _ c1 (qA6 _ e));have tz:IsPair hi he.objs.size x y:=si.extBut _ _ (qJ3 zlt) (sg.extBut _ _ (qJ3 zlt) (qB7 _ rfl));have zz:hi.objs.size=he.objs.size+1:=by rw[si.1,sg.1,qG6]
   have s1i:S1 (k+1) hi:=(D1 A hh).frame _ _ _ s1e fun b hb o e=>up b o (fun q=>ap.z1 (q▸hb)) e;have s2i:S2 (k+1) hi:=(D2 A hh).frame _ _ _ s2e fun b hb o e=>up b o (fun q=>ap.z2 (q▸hb)) e;rw[hsz]at zi tz zz;refine wpAny_pure ?_;show Q (.done (.ret (.ref he.objs.size))) _;rw[hsz];exact hQ l1 l2 x y hi td px py zi (up _ _ ap.TOz oe) s1i s2i tz zz fun c o c1 c2 c3 c4 e=>up c o c1 (kp c o c1 c2 c3 c4 e)
  ·have e2:k=n2:=qS6 hk2 (qO1 l2);refine wpAny_bind ((D2 _ hh).done _ _ _ (e2▸s2c) fun hd e sd he=>?_);obtain⟨oe,hoe,hce⟩:=he;have zd:IsZip hd z TI TO .ellipsis:=sd _ _ ap.i2z.symm zc;have hez:e≠z:=fun q=>by subst q;rw[zd]at hoe;cases hoe;simp at hce
   refine wpAny_setField_rec zd (by simp) fun hf _ sf=>hE (.inr e2) hf e tb (fun c o c1 c2 c3 c4 q=>sf.extBut _ _ c1 (sd _ _ c4 (sc.extBut _ _ c2 (sb.extBut _ _ c3 (sa.extBut _ _ c1 q))))) ⟨oe,sf.extBut _ _ hez hoe,hce⟩
 ·have e1:k=n1:=qS6 hk1 (qO1 l1);refine wpAny_bind ((D1 _ hh).done _ _ _ (e1▸s1a) fun hd e sd he=>?_);obtain⟨oe,hoe,hce⟩:=he;have zd:IsZip hd z TI TO .ellipsis:=sd _ _ ap.i1z.symm za;have hez:e≠z:=fun q=>by subst q;rw[zd]at hoe;cases hoe;simp at hce
  exact wpAny_setField_rec zd (by simp) fun hf _ sf=>hE (.inl e1) hf e s.toks (fun c o c1 _ c3 _ q=>sf.extBut _ _ c1 (sd _ _ c3 (sa.extBut _ _ c1 q))) ⟨oe,sf.extBut _ _ hez hoe,hce⟩
theorem WalksT.zipD(hh:A.handled=none)(D1:∀A:Around,A.handled=none->Draws prog w A i1 f1 n1 P1 S1)(D2:∀A:Around,A.handled=none->Draws prog w A i2 f2 n2 P2 S2)(ap:ZAp z TI TO i1 i2 f1 f2)(m1:i1∈f1)(m2:i2∈f2):
  WalksT prog w A z (z::TI::TO::f1++f2) [z,TO,i1,i2] (min n1 n2) (fun i vals=>∃x y,P1 i x/\P2 i y/\vals=#[x,y])
   (fun i h=>IsZip h z TI TO .none/\IsPair h TI (.ref i1) (.ref i2)/\(∃a b,IsPair h TO a b)/\S1 i h/\S2 i h)
   (fun i T h=>IsZip h z TI TO (rawInt T)/\IsPair h TI (.ref i1) (.ref i2)/\(∃a b,IsPair h TO a b)/\S1 (i+1) h/\S2 (i+1) h/\T≠z/\T≠TO/\T≠i1/\T≠i2) where
 sub:=fun c hc=>by simp at hc ⊢;rcases hc with rfl|rfl|rfl|rfl<;>simp[m1,m2]
 frame:=fun i h h' hst hk=>by obtain⟨hz,hTI,⟨a,b,hTO⟩,h1,h2⟩:=hst;exact⟨hk z (by simp) _ hz,hk TI (by simp) _ hTI,⟨a,b,hk TO (by simp) _ hTO⟩,(D1 A hh).frame _ _ _ h1 fun b hb o e=>hk b (by simp[hb]) o e,(D2 A hh).frame _ _ _ h2 fun b hb o e=>hk b (by simp[hb]) o e⟩
 item:=fun i s Q E hi hst hQ=>by
  obtain⟨hz,hTI,⟨a,b,hTO⟩,h1,h2⟩:=hst;have hT:s.TypeIs (.ref z) "zip":=⟨_,hz,rfl⟩
  have lt:∀{c o},s.heap.get? c=some o->s.heap.objs.size≠c:=fun e=>qJ3 (qB8 e);unfold pyNext;refine wpAny_bind (wpAny_attempt (wpAny_callSpecial?_slot (name:=Str.ofString "__next__") hT F.slot_zip_next
   (wpAny_call_entry F.slot_zip_next hT F.entry_zip_next (zLg hz hTI hTO hh D1 D2 ap h1 h2 (fun _ _ x y h' tk px py a1 a2 a3 a4 a5 a6 hk=>⟨_,rfl,wpAny_pure ?_⟩) (fun q=>by omega) (by omega) (by omega)) (F.args_zip_next_1 _))))
  refine hQ s.heap.objs.size #[x,y] h' tk ⟨x,y,px,py,rfl⟩ (qB1 _) ⟨_,a5,rfl,_,rfl⟩ ⟨a1,hk _ _ ap.TIz ap.TITO ap.TIi1 ap.TIi2 hTI,⟨_,_,a2⟩,a3,a4,lt hz,lt hTO,?_,?_⟩
   fun c o hc e=>hk c o (fun x=>hc (by simp[x])) (fun x=>hc (by simp[x])) (fun x=>hc (by simp[x])) (fun x=>hc (by simp[x])) e
  ·obtain⟨_,e⟩:=(D1 A hh).live _ _ h1;exact lt e
  ·obtain⟨_,e⟩:=(D2 A hh).live _ _ h2;exact lt e
 go:=fun elts k pos i T s Q E hm hQ=>by obtain⟨hz,hTI,⟨a,b,hTO⟩,h1,h2,_⟩:=hm;refine wpAny_letOwnedTupleGo_zip hz fun h' hz' hs'=>hQ h' ⟨hz',hs'.extBut _ _ ap.TIz hTI,⟨a,b,hs'.extBut _ _ ap.TOz hTO⟩,Draws.sb (D1 A hh) h1 hs' ap.z1,Draws.sb (D2 A hh) h2 hs' ap.z2⟩ fun c o hc e=>hs'.extBut _ _ (fun x=>hc (by simp[x])) e
 apart:=fun i T h hm hT=>by
  obtain⟨_,_,_,_,_,t1,t2,t3,t4⟩:=hm;simp at hT;rcases hT with rfl|rfl|rfl|rfl
  ·exact t1 rfl
  ·exact t2 rfl
  ·exact t3 rfl
  ·exact t4 rfl
 done:=fun s Q E hst hQ=>by
  obtain⟨hz,hTI,⟨a,b,hTO⟩,h1,h2⟩:=hst;have hT:s.TypeIs (.ref z) "zip":=⟨_,hz,rfl⟩
  unfold pyNext;refine wpAny_bind (wpAny_attempt (wpAny_callSpecial?_slot (name:=Str.ofString "__next__") hT F.slot_zip_next
   (wpAny_call_entry F.slot_zip_next hT F.entry_zip_next (zLg hz hTI hTO hh D1 D2 ap h1 h2 (fun q1 q2=>by omega) (fun _ h' e tk hk he=>?_) (by omega) (by omega)) (F.args_zip_next_1 _))))
  obtain⟨o,ho,hc⟩:=he;refine wpAny_bind (wpAny_isInstance (T := "StopIteration") (b:=true) ⟨o,ho,hc⟩ isSubtype_stop ?_);exact wpAny_pure (hQ _ _ fun c o hc e=>hk c o (fun x=>hc (by simp[x])) (fun x=>hc (by simp[x])) (fun x=>hc (by simp[x])) (fun x=>hc (by simp[x])) e)
 self:=fun i s Q E hst hQ=>wpAny_pyIter_zip hst.1 hQ
end
open PySem PySem.Spec PyProof.Rows
noncomputable def itO(b:Bool)(l:Addr):Obj:={ cls:=.type (if b then "tuple_iterator" else "list_iterator"),data:=.fields #[.ref l,.int 0 0] }
noncomputable abbrev zq2(h:Heap)(b1 b2:Bool)(l1 l2:Addr):Heap:=(h.push (itO b1 l1)).push (itO b2 l2)
noncomputable abbrev zq3(h:Heap)(b1 b2:Bool)(l1 l2:Addr):Heap:=(zq2 h b1 b2 l1 l2).push { cls:=.type "tuple",data:=.seq #[.ref h.objs.size,.ref (h.push (itO b1 l1)).objs.size] }
noncomputable abbrev zq4(h:Heap)(b1 b2:Bool)(l1 l2:Addr):Heap:=(zq3 h b1 b2 l1 l2).push { cls:=.type "tuple",data:=.seq #[.none,.none] }
noncomputable abbrev zq5(h:Heap)(b1 b2:Bool)(l1 l2:Addr):Heap:=(zq4 h b1 b2 l1 l2).push { cls:=.type "zip",data:=.fields #[.none,.bool false,.bool false,.ref (zq2 h b1 b2 l1 l2).objs.size,.ref (zq3 h b1 b2 l1 l2).objs.size] }
theorem zNn(l1 l2:Addr)(xs ys:yJ):
  Meets (Builtin.«zip.__new__» ⟨[.type "zip",.ref l1,.ref l2],[]⟩) (fun _ R s=>s.heap.IsTuple l1 xs/\s.heap.IsTuple l2 ys /\
   R (.ok (.ret (.ref (zq4 s.heap true true l1 l2).objs.size))) { s with heap:=zq5 s.heap true true l1 l2 }) :=
 .of_wp fun prog w A R s h=>by
  obtain⟨hp,g,d,tk,os⟩:=s;obtain⟨hl1,hl2,h⟩:=h;have hsub:=sub_zip;have hL1:qK2 (Shared.heap ⟨hp,g,d,tk,os⟩) l1 xs:=hl1;have hL2:qK2 (Shared.heap ⟨hp.push { cls:=.type "tuple_iterator",data:=.fields #[.ref l1,.int 0 0] },g,d,tk,os⟩) l2 ys:=qK2.push hl2 _
  wp_walk using wpAny_pyIter_tuple hL1,wpAny_pyIter_tuple hL2
  exact⟨_,rfl,h⟩
theorem zNo(l1 l2:Addr)(xs ys:yJ):
  Meets (Builtin.«zip.__new__» ⟨[.type "zip",.ref l1,.ref l2],[]⟩) (fun _ R s=>s.heap.IsTuple l1 xs/\s.heap.IsList l2 ys /\
   R (.ok (.ret (.ref (zq4 s.heap true false l1 l2).objs.size))) { s with heap:=zq5 s.heap true false l1 l2 }) :=
 .of_wp fun prog w A R s h=>by
  obtain⟨hp,g,d,tk,os⟩:=s;obtain⟨hl1,hl2,h⟩:=h;have hsub:=sub_zip;have hL1:qK2 (Shared.heap ⟨hp,g,d,tk,os⟩) l1 xs:=hl1;have hL2:qM5 (Shared.heap ⟨hp.push { cls:=.type "tuple_iterator",data:=.fields #[.ref l1,.int 0 0] },g,d,tk,os⟩) l2 ys:=qM5.push hl2 _
  wp_walk using wpAny_pyIter_tuple hL1,wpAny_pyIter_list hL2
  exact⟨_,rfl,h⟩
theorem zNp(l1 l2:Addr)(xs ys:yJ):
  Meets (Builtin.«zip.__new__» ⟨[.type "zip",.ref l1,.ref l2],[]⟩) (fun _ R s=>s.heap.IsList l1 xs/\s.heap.IsTuple l2 ys /\
   R (.ok (.ret (.ref (zq4 s.heap false true l1 l2).objs.size))) { s with heap:=zq5 s.heap false true l1 l2 }) :=
 .of_wp fun prog w A R s h=>by
  obtain⟨hp,g,d,tk,os⟩:=s;obtain⟨hl1,hl2,h⟩:=h;have hsub:=sub_zip;have hL1:qM5 (Shared.heap ⟨hp,g,d,tk,os⟩) l1 xs:=hl1;have hL2:qK2 (Shared.heap ⟨hp.push { cls:=.type "list_iterator",data:=.fields #[.ref l1,.int 0 0] },g,d,tk,os⟩) l2 ys:=qK2.push hl2 _
  wp_walk using wpAny_pyIter_list hL1,wpAny_pyIter_tuple hL2
  exact⟨_,rfl,h⟩
theorem zNq(l1 l2:Addr)(xs ys:yJ):
  Meets (Builtin.«zip.__new__» ⟨[.type "zip",.ref l1,.ref l2],[]⟩) (fun _ R s=>s.heap.IsList l1 xs/\s.heap.IsList l2 ys /\
   R (.ok (.ret (.ref (zq4 s.heap false false l1 l2).objs.size))) { s with heap:=zq5 s.heap false false l1 l2 }) :=
 .of_wp fun prog w A R s h=>by
  obtain⟨hp,g,d,tk,os⟩:=s;obtain⟨hl1,hl2,h⟩:=h;have hsub:=sub_zip;have hL1:qM5 (Shared.heap ⟨hp,g,d,tk,os⟩) l1 xs:=hl1;have hL2:qM5 (Shared.heap ⟨hp.push { cls:=.type "list_iterator",data:=.fields #[.ref l1,.int 0 0] },g,d,tk,os⟩) l2 ys:=qM5.push hl2 _
  wp_walk using wpAny_pyIter_list hL1,wpAny_pyIter_list hL2
  exact⟨_,rfl,h⟩
theorem zQ4(b1 b2:Bool)(l1 l2:Addr)(xs ys:yJ):
  Meets (Builtin.«zip.__new__» ⟨[.type "zip",.ref l1,.ref l2],[]⟩) (fun _ R s=>IsX b1 s.heap l1 xs/\IsX b2 s.heap l2 ys /\
   R (.ok (.ret (.ref (zq4 s.heap b1 b2 l1 l2).objs.size))) { s with heap:=zq5 s.heap b1 b2 l1 l2 }):=by
 cases b1 with
 |true=>cases b2 with
  |true=>exact zNn l1 l2 xs ys
  |false=>exact zNo l1 l2 xs ys
 |false=>cases b2 with
  |true=>exact zNp l1 l2 xs ys
  |false=>exact zNq l1 l2 xs ys
theorem zOF{b:Bool}{h:Heap}{j l:Addr}(e:h.get? j=some (itO b l)):ItX b h j l 0:=by
 cases b with
 |true=>exact⟨_,e,rfl,rfl⟩
 |false=>exact⟨_,e,rfl,rfl⟩
theorem zLO(b:Bool)(l:Addr):(itO b l).isFreed=false:=by cases b<;>rfl
section
variable {prog:Program}{w:World}{A:Around}{E:yL}{s:Shared}
theorem zPB{b1 b2:Bool}{l1 l2:Addr}{xs ys:yJ}{Q:yL}(hl1:IsX b1 s.heap l1 xs)(hl2:IsX b2 s.heap l2 ys)
  (h:∀h',IsZip h' (s.heap.objs.size+4) (s.heap.objs.size+2) (s.heap.objs.size+3) .none->IsPair h' (s.heap.objs.size+2) (.ref s.heap.objs.size) (.ref (s.heap.objs.size+1)) ->
   IsPair h' (s.heap.objs.size+3) .none .none->ItX b1 h' s.heap.objs.size l1 0->ItX b2 h' (s.heap.objs.size+1) l2 0 ->
   (∀c o,s.heap.get? c=some o->h'.get? c=some o)->Q (.ref (s.heap.objs.size+4)) { s with heap:=h' }) :
  wpAny (model prog w) A (call (.type "zip") [.ref l1,.ref l2]) Q E s:=by
 refine callType_new F.called_zip (by decide) (F.typeCall_zip_2 _ _) (F.newCall_zip_2 _ _) (fun obj=>F.args_object_init_3 obj _ _) F.entry_zip_new (zQ4 b1 b2 l1 l2 xs ys) ⟨hl1,hl2,?_⟩;have z1:(s.heap.push (itO b1 l1)).objs.size=s.heap.objs.size+1:=qG6 ..;have z2:(zq2 s.heap b1 b2 l1 l2).objs.size=s.heap.objs.size+2:=by rw[qG6,z1]
 have z3:(zq3 s.heap b1 b2 l1 l2).objs.size=s.heap.objs.size+3:=by rw[qG6,z2]
 have z4:(zq4 s.heap b1 b2 l1 l2).objs.size=s.heap.objs.size+4:=by rw[qG6,z3]
 have g5:(zq5 s.heap b1 b2 l1 l2).get? (zq4 s.heap b1 b2 l1 l2).objs.size=some _:=qB7 _ rfl;have g4:(zq5 s.heap b1 b2 l1 l2).get? (zq3 s.heap b1 b2 l1 l2).objs.size=some _:=qA6 _ (qB7 _ rfl);have g3:(zq5 s.heap b1 b2 l1 l2).get? (zq2 s.heap b1 b2 l1 l2).objs.size=some _:=qA6 _ (qA6 _ (qB7 _ rfl));have g2:(zq5 s.heap b1 b2 l1 l2).get? (s.heap.push (itO b1 l1)).objs.size=some (itO b2 l2):=qA6 _ (qA6 _ (qA6 _ (qB7 _ (zLO _ _))));have g1:(zq5 s.heap b1 b2 l1 l2).get? s.heap.objs.size=some (itO b1 l1):=qA6 _ (qA6 _ (qA6 _ (qA6 _ (qB7 _ (zLO _ _)))));show _/\_;rw[z2,z3,z4]at g5;rw[z1,z2]at g3;rw[z3]at g4;rw[z1]at g2;rw[z4];exact⟨⟨_,g5,rfl⟩,h _ g5 g3 g4 (zOF g1) (zOF g2) fun c o x =>
  qA6 _ (qA6 _ (qA6 _ (qA6 _ (qA6 _ x))))⟩
end
theorem zSv{n l1 l2:Addr}(h1:l1<n)(h2:l2<n):ZAp (n+4) (n+2) (n+3) n (n+1) [n,l1] [n+1,l2]:=by constructor<;>(try simp only[qC0,qK1,or_false,not_or])<;>(try refine⟨?_,?_⟩)<;>(show ¬((_:Nat)=_))<;>(simp only[Addr]at *;omega)
inductive ZgoX(b1 b2:Bool)(K:W.Frag)(H:Hp)(a b:Addr)(i:Nat):Prop
 |mk (xs ys:List V) (x y:V) (q1:SqX b1 K H a xs) (q2:SqX b2 K H b ys) (ex:xs[i]?=some x) (ey:ys[i]?=some y)
inductive ZstX(b1 b2:Bool)(K:W.Frag)(H:Hp)(a b:Addr)(i:Nat):Prop
 |mk (xs ys:List V) (q1:SqX b1 K H a xs) (q2:SqX b2 K H b ys) (ei:i=min xs.length ys.length)
noncomputable def ItzX(b1 b2:Bool)(K:W.Frag)(a b:Addr):It :=
  ⟨fun i H=>ZgoX b1 b2 K H a b i,
   fun i H v H'=>∃T,H T=none/\v=.ref T/\∀xs ys x y,SqX b1 K H a xs->SqX b2 K H b ys->xs[i]?=some x->ys[i]?=some y->H'=upd H T (.tup [x,y]),
   fun i H=>ZstX b1 b2 K H a b i⟩
structure ZsX(b1 b2:Bool)(z TI TO i1 i2 l1 l2:Addr)(i:Nat)(h:Heap):Prop where
 a1:IsZip h z TI TO .none
 a2:IsPair h TI (.ref i1) (.ref i2)
 a3:∃a b,IsPair h TO a b
 a4:ItX b1 h i1 l1 i
 a5:ItX b2 h i2 l2 i
section
variable {b1 b2:Bool}{z TI TO i1 i2 l1 l2:Addr}{i:Nat}{h:Heap}
theorem ZsX.obj(st:ZsX b1 b2 z TI TO i1 i2 l1 l2 i h):∀b∈[z,TI,TO,i1,i2],∃o,h.get? b=some o/\∀v,o.data≠.cell v:=by obtain⟨_,_,a3⟩:=st.a3;exact allC ⟨_,st.a1,fun v q=>by cases q⟩ (allC ⟨_,st.a2,fun v q=>by cases q⟩ (allC ⟨_,a3,fun v q=>by cases q⟩ (allC st.a4.obj (allC st.a5.obj allN))))
theorem ZsX.ne(st:ZsX b1 b2 z TI TO i1 i2 l1 l2 i h){T:Addr}(hT:h.objs.size<=T):∀b∈[z,TI,TO,i1,i2],b≠T:=fun b hb=>by obtain⟨o,e,_⟩:=st.obj b hb;exact qC8 (qC4 (qB8 e) hT)
theorem zsub:∀b∈[z,TO,i1,i2],b∈[z,TI,TO,i1,i2]:=allC (by simp) (allC (by simp) (allC (by simp) (allC (by simp) allN)))
inductive ZFX(b1 b2:Bool)(X:Cx)(s:Shared)(H:Hp)(l1 l2:Addr)(i:Nat):Prop
 |mk (xs ys:List V) (x y:V) (t1 t2:yB) (u1 u2:Value) (q1:SqX b1 X.K H l1 xs) (q2:SqX b2 X.K H l2 ys) (ex:xs[i]?=some x) (ey:ys[i]?=some y) (p1:IsX b1 s.heap l1 t1.toArray) (p2:IsX b2 s.heap l2 t2.toArray)
  (e1:t1[i]?=some u1) (e2:t2[i]?=some u2) (r1:RelV x u1) (r2:RelV y u2)
variable {X:Cx}{pins:yD}{σ:St}{H:Hp}{s:Shared}
theorem zfX(I:Inv X pins σ H s)(hg:ZgoX b1 b2 X.K H l1 l2 i):ZFX b1 b2 X s H l1 l2 i:=by obtain⟨xs,ys,x,y,q1,q2,ex,ey⟩:=hg;obtain⟨its1,r1,p1⟩:=I.sqX q1;obtain⟨its2,r2,p2⟩:=I.sqX q2;obtain⟨u1,e1,ru1⟩:=r1.get ex;obtain⟨u2,e2,ru2⟩:=r2.get ey;exact⟨xs,ys,x,y,its1,its2,u1,u2,q1,q2,ex,ey,p1,p2,e1,e2,ru1,ru2⟩
theorem zvX{t1 t2:yB}{u1 u2:Value}{vals:yJ}(e1:t1[i]?=some u1)(e2:t2[i]?=some u2)(hv:∃v1 v2,t1.toArray[i]?=some v1/\t2.toArray[i]?=some v2/\vals=#[v1,v2]):vals=#[u1,u2]:=by obtain⟨v1,v2,g1,g2,rfl⟩:=hv;rw[qD5,e1]at g1;rw[qD5,e2]at g2;cases g1;cases g2;rfl
theorem zyX(I:Inv X pins σ H s){xs ys:List V}{x y:V}(q1:SqX b1 X.K H l1 xs)(q2:SqX b2 X.K H l2 ys)(ex:xs[i]?=some x)(ey:ys[i]?=some y){T:Addr}(xs' ys':List V)(x' y':V)(s1:SqX b1 X.K H l1 xs')(s2:SqX b2 X.K H l2 ys')(t1:xs'[i]?=some x')(t2:ys'[i]?=some y'):upd H T (.tup [x,y])=upd H T (.tup [x',y']):=by have h1:=I.sqX_inj q1 s1;have h2:=I.sqX_inj q2 s2;subst h1 h2;rw[ex]at t1;rw[ey]at t2;cases t1;cases t2;rfl
end
theorem zNw{P:Program}{w:World}{K:PySem.W.Frag}{elts:yE}{k:Nat}{pos:Pos}(b1 b2:Bool)(z TI TO i1 i2 l1 l2:Addr)(D:ZAp z TI TO i1 i2 [i1,l1] [i2,l2])(d1:l1≠i1)(d2:l2≠i2):
  Turn P w K (.Tuple elts k pos) (ItzX b1 b2 K l1 l2) [z,TI,TO,i1,i2] z (ZsX b1 b2 z TI TO i1 i2 l1 l2) where
 mem:=by simp
 obj:=fun i h st=>st.obj
 keep:=fun i h h' ⟨a1,a2,⟨x,y,a3⟩,a4,a5⟩ kk =>
  ⟨kk z (by simp) _ a1,kk TI (by simp) _ a2,⟨x,y,kk TO (by simp) _ a3⟩,a4.keep fun o e=>kk i1 (by simp) o e,a5.keep fun o e=>kk i2 (by simp) o e⟩
 item:=by intro X hP hw hK hc i pins s σ H E I hf st hg;subst hP hw hK;obtain⟨xs,ys,x,y,its1,its2,u1,u2,q1,q2,ex,ey,p1,p2,e1,e2,ru1,ru2⟩:=zfX I hg;have W:=WalksT.zipD (prog:=X.prog) (w:=X.w) (I.ok.hd hc) (fun A hh=>zHz b1 hh i1 l1 d1 its1.toArray) (fun A hh=>zHz b2 hh i2 l2 d2 its2.toArray) D (by simp) (by simp);have hl1:i<its1.length:=(qA2.mp e1).1;have hl2:i<its2.length:=(qA2.mp e2).1;have hwr:∀b∈[z,TO,i1,i2],FpOk X pins H b:=fun b hb=>hf b (zsub b hb);refine W.item i s _ _ (by simp only[qA9];omega) ⟨st.a1,st.a2,st.a3,⟨st.a4,p1⟩,st.a5,p2⟩ fun T vals h' tk hv hT hIs hM kk=>?_;have hvv:=zvX e1 e2 hv;subst hvv;have nT:=st.ne hT;refine⟨_,rfl,W.go _ _ _ i T { s with heap:=h',toks:=tk } _ _ hM fun h2 st2 kk2=>?_⟩;have I1:Inv X pins σ (upd H T (.tup [x,y])) { s with heap:=h',toks:=tk }:=I.yields (its:=[u1,u2]) hwr kk hT (.cons ru1 (.cons ru2 .nil)) (by show 2<=sizeLine;decide) hIs;have I2:=I1.turnedL (tk:=tk) (zSg hwr fun b hb=>nT b (zsub b hb)) kk2;exact⟨.ref T,_,I2,rfl,⟨T,I.hok.fresh hT,rfl,zyX I q1 q2 ex ey⟩,⟨st2.1,st2.2.1,st2.2.2.1,st2.2.2.2.1.1,st2.2.2.2.2.1⟩,fun b hb=>by rw[zAb (nT b hb)];exact(hf b hb).1⟩
 done:=by
  intro X hP hw hK hc i pins s σ H E I hf st hg;subst hP hw hK;obtain⟨xs,ys,q1,q2,ei⟩:=hg;obtain⟨its1,r1,p1⟩:=I.sqX q1;obtain⟨its2,r2,p2⟩:=I.sqX q2;have W:=WalksT.zipD (prog:=X.prog) (w:=X.w) (I.ok.hd hc) (fun A hh=>zHz b1 hh i1 l1 d1 its1.toArray) (fun A hh=>zHz b2 hh i2 l2 d2 its2.toArray) D (by simp) (by simp);have en:i=min its1.toArray.size its2.toArray.size:=by simp only[qA9,<- r1.length,<- r2.length];exact ei
  refine W.done s _ _ (by rw[<- en];exact⟨st.a1,st.a2,st.a3,⟨st.a4,p1⟩,st.a5,p2⟩) fun h' tk kk=>?_;exact⟨rfl,I.turnedL (fun b hb=>hf b (zsub b hb)) kk⟩
 self:=fun _ _ _ _ _ st h=>wpAny_pyIter_zip st.a1 h
section
variable {X:Cx}
def zWO(K:W.Frag)(ta:TA):TI:=fun σ H R=>ta σ H fun vs H1=>∃a b b1 b2,vs=[.ref a,.ref b]/\(∃xs,SqX b1 K H1 a xs)/\(∃ys,SqX b2 K H1 b ys)/\R (ItzX b1 b2 K a b) H1
theorem zTt{elts:yE}{k:Nat}{tpos:Pos}{a b:Expr}{ta:TA}{p pos:Pos}(hg:Gl X "zip")(hm:X.mg "zip"=none)(ha:PA X [a,b] ta)(hs:starEach [a,b] X.env=[(false,eval a X.env),(false,eval b X.env)]:=by rfl)(hs2:starEach [b] X.env=[(false,eval b X.env)]:=by rfl):
  PI X (.Tuple elts k tpos) (.Call (.Name "zip" p) [a,b] [] pos) (zWO X.K ta):=by
 intro pins s σ H R I h;refine Call_ (zG9 I hg hm zXf (PyProof.Rows.callWith_type1 (thn (ha pos pins s σ H _ I h) fun us s1 ⟨vs,H1,I1,r1,q1⟩=>?_) (by rw[hs,hs2]) (by rw[hs2];rfl)));obtain⟨l1,l2,b1,b2,e,⟨xs,h1⟩,⟨ys,h2⟩,q⟩:=q1;subst e;cases r1 with
 |cons r rr =>
  cases rr with
  |cons r' rr =>
   cases rr;cases r;cases r';obtain⟨its1,v1,p1⟩:=I1.sqX h1;obtain⟨its2,v2,p2⟩:=I1.sqX h2;refine zPB p1 p2 fun h' hz hTI hTO hi1 hi2 hk=>?_;refine wpAny_pyIter_zip hz ?_;have I2:Inv X pins σ H1 { s1 with heap:=h' }:=I1.kept (t':=s1.toks) hk;refine⟨_,_,_,_,H1,rfl,I2,zNw b1 b2 _ _ _ _ _ l1 l2 (zSv p1.lt p2.lt) (qC8 p1.lt) (qC8 (qG7 p2.lt)),⟨hz,hTI,⟨_,_,hTO⟩,hi1,hi2⟩,fun b hb=>?_,q⟩;have hle:s1.heap.objs.size<=b:=by
    simp only[qC0,qK1,or_false]at hb;rcases hb with rfl|rfl|rfl|rfl|rfl
    ·exact qM2 _ _
    ·exact qM2 _ _
    ·exact qM2 _ _
    ·exact qB1 _
    ·exact qM2 _ _
   exact I1.fpOk hle (I1.hok.fresh hle)
end
open PySem PySem.Spec PyProof.Rows
section
variable {X:Cx}{pins:yD}{σ:St}{H:Hp}{s:Shared}{scope:Scope}{N:yH}{C:Addr}{ex:yC}
theorem zMl{elt iter tg:Expr}{ifs:yE}{pos pos' spos:Pos}{y0:Str}{go:TG}(hgo:PG X (.Name y0 pos') go)(hsw:swapsWith (.ListComp elt [⟨tg,iter,ifs,0⟩] scope pos) (some (.Name y0 pos')) spos.line X.env=pure true){wi:TI}{g:TG}{tc:TT}{te:TE}{k:Nat}{js:List Nat}
  (B:zNk X scope N k js) (hi:PI X tg iter wi)
  (hg:∀cl s H C ex,PG (zBI X scope N cl s H C ex) tg g) (htc:∀cl s H C ex,PTs (zBI X scope N cl s H C ex) ifs tc) (hte:∀cl s H C ex,PE (zBI X scope N cl s H C ex) elt te)
  (hs:∀x,foldedSetIterable iter X.env x=pure x:=by intro _;rfl):PS X (.Assign [.Name y0 pos'] (.ListComp elt [⟨tg,iter,ifs,0⟩] scope pos) spos) (tAsg (zSJ wi k js g tc te) go):=by
 intro pins s σ H D0 I h;rw[exec_Assign_Name_used _ _ _ _ hsw];refine wpAny_bind (wpAny_standAt (wpAny_bind ?_));show wpAny _ X.A (do let _ <- comprehension (.ListComp elt [⟨tg,iter,ifs,0⟩] scope pos) scope X.env _ (newList []) false (eval iter X.env) (some (assign (.Name y0 pos') X.env))) _ _ s;refine wpAny_bind (wpAny_mono (wpAny_comprehension_free (use:=some (assign (.Name y0 pos') X.env)) (Q:=fun _ s'=>SP X pins D0 .next s') rfl hs (zEs fun x hx=>I.ok.has x (B.free x hx)) B.kind B.names (thn (hi pins s σ H _ I h) fun v s1 h1=>thn h1 fun itv s2 h2=>?_)) (fun _ s' hq=>wpAny_pure (wpAny_pure hq)) fun _ _ e=>e);obtain⟨it,fp,tn,J,H2,e,I2,T,st2,f2,hW⟩:=h2;subst e;refine zM0 (Q:=fun x H1=>go x σ H1 D0.nx) B I2 T st2 f2 hg htc hte hW fun cl C H4 s5 hCle hDC I5 q=>?_;obtain⟨m,hn,_⟩:=id I5.loc;have hC4:H4 C=none:=I5.free;have IA:Inv X pins σ H4 s5:=I2.call' (s':=s5) (ch:=fp) I5.os I5.base I5.hok I5.bare (fun b hb=>⟨(f2 b hb).2.2.2.1,(f2 b hb).2.1,(f2 b hb).2.2.2.2.1,(f2 b hb).2.2.2.2.2⟩);have fC:∀{H':Hp},H' C=none->∀b∈[C],FpOk X pins H' b:=fun hn b hb=>by
  have:b=C:=by simpa using hb
  subst this;exact I2.fpOk hCle hn
 have oC:∀b∈[C],∃o,s5.heap.get? b=some o/\∀v,o.data≠.cell v:=fun b hb=>by
  have:b=C:=by simpa using hb
  subst this;obtain⟨o,_,_,ho,hd,_⟩:=id hn;exact⟨o,ho,fun v z=>by rw[hd]at z;cases z⟩
 have IB:=IA.pinned (fC hC4) oC;refine thn (hgo _ s5 σ H4 (.ref s2.heap.objs.size) (.ref s2.heap.objs.size) _ IB rfl q) fun _ s6 ⟨σ6,H6,I6,q6⟩=>?_;obtain⟨oc,hoc,_⟩:=oC C (by simp);have hp6:=I6.pin (C,oc) (qC3 _ (qC3 _ (zCK (by simp) hoc)));refine⟨m,hn.at' fun o e=>?_,fun h' hs'=>⟨σ6,H6,?_,q6⟩⟩
 ·have e':s5.heap.get? C=some o:=e;rw[hoc]at e';cases e';exact hp6.1
 ·exact I6.unpinned.turnedL (wr:=[C]) (tk:=s6.toks) (fC hp6.2.1) fun b o nb e=>hs'.extBut b o (by simpa using nb) e
end
open PySem PySem.Spec PyProof.Rows
section
variable {X:Cx}
open AutoSeq1 in
theorem zWZ(l:Addr)(items:yJ)(n:Nat)(b:Addr)(items2:yJ)(n2:Nat)(dct:Option Addr)(sl:Array (yF))(h0:¬(!items.isEmpty&&Builtin.List.listTooLong (items.size+items2.size))=true)(h1:items.size<=sizeLine)(h2:items.size+items2.size<=sizeLine+1):
  Meets (Builtin.«list.extend» ⟨[.ref l,.ref b],[]⟩) (fun _ R s=>s.heap.get? l=some { cls:=.type "list",dict:=none,data:=.seq items n,slots:=#[] }/\s.heap.get? b=some { cls:=.type "tuple",dict:=dct,data:=.seq items2 n2,slots:=sl } /\
   R (.ok (.ret Value.none)) { s with heap:=s.heap.update l (Obj.mapSeq fun x=>x++items2),toks:=s.toks }) :=
 .of_wp fun prog w A R s h=>by
  obtain⟨hp,g,d,tk,os⟩:=s;obtain⟨hl,hb,h⟩:=h;have a1:=idx_int;have a2:=AutoSeq1.sub_tuple_tuple;have a3:=AutoSeq1.sub_list_list;have a4:=AutoSeq1.sub_tuple_list;have a5:=AutoSeq1.sub_list_tuple;have hz:(items++items2).size<=sizeLine+1:=by rw[Array.size_append];exact h2
  wp_walk using(wpAny_updateSeq hl rfl (hz:=h1) (_hz':=hz)),wpAny_loadPart' hl,wpAny_loadPart' hb
  exact⟨_,rfl,h⟩
def zYG(K:W.Frag):V->List V->Hp->VK->Prop:=fun x vs H Q=>∃l b xs zs,x=.ref l/\vs=[.ref b]/\H l=some (.lst xs)/\SqT K H b zs/\xs.length+zs.length<=sizeLine/\Q .non (upd H l (.lst (xs++zs)))
theorem zTK:MtM X "list.extend" (zYG X.K):=by
 intro pins s σ H x vs v us Q I rx rv h;obtain⟨l,b,xs,zs,rfl,rfl,hH,hB,hz,q⟩:=h;cases rx;obtain⟨u,rfl,ru⟩:=rv.one;cases ru;obtain⟨z,its,n,r,hl,e⟩:=I.lstM hH;obtain⟨its2,r2,⟨⟨c,dct,dt,sl⟩,e2,hc,n2,hd⟩,_⟩:=I.tuple hB
 replace hc:c=.type "tuple":=hc
 replace hd:dt=.seq its2.toArray n2:=hd
 subst hc hd;have l2:zs.length=its2.length:=r2.length;have hsz:its.toArray.size+its2.toArray.size<=sizeLine:=by rw[qA9,qA9];omega
 have hlong:¬(!its.toArray.isEmpty&&Builtin.List.listTooLong (its.toArray.size+its2.toArray.size))=true:=by rw[zLB hsz,qT0];exact qB0
 refine call_meets PySem.F.slot_list_extend ⟨_,e,rfl⟩ PySem.F.entry_list_extend (PySem.F.args_list_extend_2 _ _)
  (zWZ l its.toArray n b its2.toArray n2 dct sl hlong (by rw[qA9];omega) (by omega)) ⟨e,e2,?_⟩
 refine⟨.non,_,I.lset (its':=its++its2) hH e (by simp) (r.append r2) ?_,rfl,q⟩;rw[qB3];omega
end
open PySem PySem.Spec PyProof.Rows
abbrev zXB(h:Heap)(T:Addr)(a b c:Value):Prop:=h.get? T=some { cls:=.type "tuple",data:=.seq #[a,b,c] }
structure ZAp3(z TI TO i1 i2 i3:Addr)(f1 f2 f3:yC):Prop where
 TIz:TI≠z
 TOz:TO≠z
 i1z:i1≠z
 i2z:i2≠z
 i3z:i3≠z
 TITO:TI≠TO
 TIi1:TI≠i1
 TIi2:TI≠i2
 TIi3:TI≠i3
 TOi1:TO≠i1
 TOi2:TO≠i2
 TOi3:TO≠i3
 z1:z∉f1
 z2:z∉f2
 z3:z∉f3
 O1:TO∉f1
 O2:TO∉f2
 O3:TO∉f3
 a12:i1∉f2
 a13:i1∉f3
 a21:i2∉f1
 a23:i2∉f3
 a31:i3∉f1
 a32:i3∉f2
inductive Zgo3(K:W.Frag)(H:Hp)(a b c:Addr)(i:Nat):Prop
 |mk (xs ys us:List V) (x y u:V) (q1:SqL K H a xs) (q2:SqT K H b ys) (q3:SqT K H c us) (ex:xs[i]?=some x) (ey:ys[i]?=some y) (eu:us[i]?=some u)
inductive Zst3(K:W.Frag)(H:Hp)(a b c:Addr)(i:Nat):Prop
 |mk (xs ys us:List V) (q1:SqL K H a xs) (q2:SqT K H b ys) (q3:SqT K H c us) (ei:i=min xs.length (min ys.length us.length))
structure Zs3(z TI TO i1 i2 i3 l1 l2 l3:Addr)(i:Nat)(h:Heap):Prop where
 a1:IsZip h z TI TO .none
 a2:zXB h TI (.ref i1) (.ref i2) (.ref i3)
 a3:∃a b c,zXB h TO a b c
 a4:ItX false h i1 l1 i
 a5:ItX true h i2 l2 i
 a6:ItX true h i3 l3 i
section
variable {z TI TO i1 i2 i3 l1 l2 l3:Addr}{i:Nat}{h:Heap}
theorem Zs3.obj(st:Zs3 z TI TO i1 i2 i3 l1 l2 l3 i h):∀b∈[z,TI,TO,i1,i2,i3],∃o,h.get? b=some o/\∀v,o.data≠.cell v:=by obtain⟨_,_,_,a3⟩:=st.a3;exact allC ⟨_,st.a1,fun v q=>by cases q⟩ (allC ⟨_,st.a2,fun v q=>by cases q⟩ (allC ⟨_,a3,fun v q=>by cases q⟩ (allC st.a4.obj (allC st.a5.obj (allC st.a6.obj allN)))))
theorem Zs3.ne(st:Zs3 z TI TO i1 i2 i3 l1 l2 l3 i h){T:Addr}(hT:h.objs.size<=T):∀b∈[z,TI,TO,i1,i2,i3],b≠T:=fun b hb=>by obtain⟨o,e,_⟩:=st.obj b hb;exact qC8 (qC4 (qB8 e) hT)
inductive ZF3(X:Cx)(s:Shared)(H:Hp)(l1 l2 l3:Addr)(i:Nat):Prop
 |mk (xs ys us:List V) (x y u:V) (t1 t2 t3:yB) (u1 u2 u3:Value) (q1:SqL X.K H l1 xs) (q2:SqT X.K H l2 ys) (q3:SqT X.K H l3 us) (ex:xs[i]?=some x) (ey:ys[i]?=some y) (eu:us[i]?=some u)
  (p1:IsX false s.heap l1 t1.toArray) (p2:IsX true s.heap l2 t2.toArray) (p3:IsX true s.heap l3 t3.toArray) (e1:t1[i]?=some u1) (e2:t2[i]?=some u2) (e3:t3[i]?=some u3) (r1:RelV x u1) (r2:RelV y u2) (r3:RelV u u3)
variable {X:Cx}{pins:yD}{σ:St}{H:Hp}{s:Shared}
end
open PySem PySem.Spec PyProof.Rows
section
variable {X:Cx}
theorem Vals.rev{xs:List V}{us:yB}(r:Vals xs us):Vals xs.reverse us.reverse:=by
 induction r with
 |nil=>exact .nil
 |cons r t ih=>rw[qL5,qL5];exact ih.append (.cons r .nil)
theorem zGf:∀{us:yB}{ns:yA},IntsAre us ns->Vals (ns.map V.int) us
 |_,_,h=>by
  induction h with
  |nil=>exact .nil
  |cons _ _ _ ih=>exact .cons ⟨_,rfl⟩ ih
theorem zJC:zBE X (.builtin "sorted") (fun vs H Q=>∃(p:Addr) (ns:yA),vs=[.ref p]/\SqL X.K H p (ns.map V.int)/\ns.length<64/\∀(l:Addr) (ms:yA),H l=none->ms.Perm ns->ms.Pairwise (·<=·)->Q (.ref l) (upd H l (.lst (ms.map V.int)))):=by intro pins s σ H xs us Q I r h;obtain⟨p,ns,rfl,hq,hn,q⟩:=h;obtain⟨u,rfl,ru⟩:=zDe r;cases ru;obtain⟨its,rv,pl,hz⟩:=I.list hq;have hlen:=rv.length;rw[qA0]at hlen;refine sorted_ints pl.isList (zEY rv) (by omega) fun out ns' h1 h2 h3=>?_;obtain⟨e,he⟩:=sortedAll_at s.heap its out;have hl:ns'.length=ns.length:=h2.length_eq;refine⟨.ref (s.heap.objs.size+1),_,I.laid (t':=s.toks) (o:=.lst (ns'.map V.int)) (fun b o e=>sortedAll_old e) (qN8 _) ?_,rfl,q _ _ (I.hok.fresh (qN8 _)) h2 h3⟩;exact⟨by rw[qA0,hl];exact qD3 (qH1 hn) (by decide),out.toList,e,zGf h1,by simpa[seqObj]using he⟩
theorem zHb{A:Around}{prog:Program}{w:World}{ns:yA}{its:yB}(r:Vals (ns.map V.int) its):TruthOf prog w A (fun i v=>its.toArray[i]?=some v) (fun i=>(ns.map (· != 0)).getD i false):=by
 intro i v s Q E hv hq;have hv':its[i]?=some v:=by simpa using hv
 have hl:i<ns.length:=by have h1:=(qA2.mp hv').1;have h2:=r.length;rw[qA0]at h2;omega
 obtain⟨u,e,ru⟩:=Vals.get r (i:=i) (x:=.int ns[i]) (by rw[qC1,qA5 hl];rfl);rw[e]at hv';cases hv';obtain⟨t,rfl⟩:=ru;have eq:(ns.map (· != 0)).getD i false=(ns[i] != 0):=by simp[qR3,hl]
 have hq':Q ((ns.map (· != 0)).getD i false) s:=hq;rw[eq]at hq';exact PyProof.Rows.truthy_int hq'
theorem zPG(hc:X.calm=true):zBE X (.builtin "all") (fun vs H Q=>∃(p:Addr) (ns:yA),vs=[.ref p]/\SqT X.K H p (ns.map V.int)/\Q (.bl (ns.all (· != 0))) H):=by
 intro pins s σ H xs us Q I r h;obtain⟨p,ns,rfl,hq,q⟩:=h;obtain⟨u,rfl,ru⟩:=zDe r;cases ru;obtain⟨its,rv,pl,hz⟩:=I.tuple hq;have pl':s.heap.IsTuple p its.toArray:=pl;have hlt:p<s.heap.objs.size:=by obtain⟨_,e,_⟩:=pl';exact qB8 e
 have hlen:=rv.length;rw[qA0]at hlen;refine call_all_walk (wpAny_pyIter_tuple pl' ?_);refine⟨s.heap.objs.size,_,[s.heap.objs.size],_,_,_,_,rfl,Walks.tuple (A:=X.A.in1) (show X.A.in1.handled=none from I.ok.hd hc) s.heap.objs.size p (qC8 hlt) its.toArray,⟨⟨_,qB7 _ rfl,rfl,rfl⟩,pl'.push _⟩,zHb rv,fun h' tk kk=>?_⟩;have e:(List.range its.toArray.size).all (fun i=>(ns.map (· != 0)).getD i false)=ns.all (· != 0):=by rw[qA9,<- hlen,show ns.length=(ns.map (· != 0)).length by simp,zJ0,qJ4];rfl
 rw[e];refine⟨.bl (ns.all (· != 0)),H,?_,rfl,q⟩;exact I.kept (t':=tk) fun b o eb=>kk b o (by simp only[qA7];exact qC8 (qB8 eb)) (qA6 _ eb)
theorem zPE(hc:X.calm=true):zBE X (.builtin "any") (fun vs H Q=>∃(p:Addr) (ns:yA),vs=[.ref p]/\SqT X.K H p (ns.map V.int)/\Q (.bl (ns.any (· != 0))) H):=by
 intro pins s σ H xs us Q I r h;obtain⟨p,ns,rfl,hq,q⟩:=h;obtain⟨u,rfl,ru⟩:=zDe r;cases ru;obtain⟨its,rv,pl,hz⟩:=I.tuple hq;have pl':s.heap.IsTuple p its.toArray:=pl;have hlt:p<s.heap.objs.size:=by obtain⟨_,e,_⟩:=pl';exact qB8 e
 have hlen:=rv.length;rw[qA0]at hlen;refine call_any_walk (wpAny_pyIter_tuple pl' ?_);refine⟨s.heap.objs.size,_,[s.heap.objs.size],_,_,_,_,rfl,Walks.tuple (A:=X.A.in1) (show X.A.in1.handled=none from I.ok.hd hc) s.heap.objs.size p (qC8 hlt) its.toArray,⟨⟨_,qB7 _ rfl,rfl,rfl⟩,pl'.push _⟩,zHb rv,fun h' tk kk=>?_⟩;have e:(List.range its.toArray.size).any (fun i=>(ns.map (· != 0)).getD i false)=ns.any (· != 0):=by rw[qA9,<- hlen,show ns.length=(ns.map (· != 0)).length by simp,zIZ,qL3];rfl
 rw[e];refine⟨.bl (ns.any (· != 0)),H,?_,rfl,q⟩;exact I.kept (t':=tk) fun b o eb=>kk b o (by simp only[qA7];exact qC8 (qB8 eb)) (qA6 _ eb)
end
open PySem PySem.Spec PyProof.Rows
section
variable {X:Cx}
def rInG(K:W.Frag)(neg:Bool):R2:=fun x y H Q=>∃(p:Addr) (xs:List V) (N N':Addr->Prop) (dx:PyData) (ds:List PyData),
 y=.ref p/\(SqL K H p xs∨SqT K H p xs)/\Rp K H N x dx/\okD dx/\RpL K H N' xs ds/\(∀d∈ds,okD d)/\Q (.bl (if neg then !(ds.any fun d=>PyData.eqv d dx)else ds.any fun d=>PyData.eqv d dx)) H
theorem zGL{h:Heap}{dx:PyData}:∀{ds:List PyData}{us:yB}{as:yC},ReadsAll h us ds as->(∀d∈ds,okD d)->us.any (eqW h dx)=ds.any fun d=>PyData.eqv d dx
 |_,_,_,.nil,_=>rfl
 |_,_,_,.cons r rr,o=>by rw[qG2,qG2,zSj r (o _ (qD0 ..)).1,zGL rr fun d hd=>o d (qB9 _ hd)]
theorem zHY{A:Around}{s:Shared}{dx:PyData}{u:Value}{bs:yC}(hu:A.units+64<cLine)(rb:Reads s.heap u dx bs)(oy:okD dx):∀{ds:List PyData}{us:yB}{as:yC},ReadsAll s.heap us ds as->(∀d∈ds,okD d)->∀w∈us,SeqAt.EqAt A.in1 s w u (eqW s.heap dx w):=fun{ds us as} ra ods w hw=>by obtain⟨m,hm,rfl⟩:=qN0 hw;obtain⟨d,cs,h1,h2⟩:=zFf ra (qA5 hm);have od:=ods d (qB4 h1);rw[zSj h2 od.1];refine SeqAt.eqAt_reads d dx _ s _ _ _ _ h2 rb od.1 oy.1 ?_;have:=od.2;show A.units+1+min d.depth dx.depth<cLine;omega
theorem zWa(hu:X.A.units+64<cLine):OpR X (compareOp .In) (rInG X.K false):=by
 intro pins s σ H x y v u Q I rx ry h;obtain⟨p,xs,N,N',dx,ds,rfl,hq,hx,ox,hxs,ods,q⟩:=h;cases ry;obtain⟨bs,rb⟩:=I.reads hx rx;rcases hq with hq|hq
 ·obtain⟨its,r,pl,hz⟩:=I.list hq;obtain⟨as,ra⟩:=I.readsL hxs r;refine SeqAt.in_listAt (eqW s.heap dx) pl.isList (fun w hw=>zHY hu rb ox ra ods w (by simpa using hw)) ⟨.bl _,H,I,rfl,?_⟩;rw[show its.toArray.any (eqW s.heap dx)=its.any (eqW s.heap dx) by simp,zGL ra ods];exact q
 ·obtain⟨its,r,pl,hz⟩:=I.tuple hq;obtain⟨as,ra⟩:=I.readsL hxs r;refine SeqAt.in_tupleAt (eqW s.heap dx) pl (fun w hw=>zHY hu rb ox ra ods w (by simpa using hw)) ⟨.bl _,H,I,rfl,?_⟩;rw[show its.toArray.any (eqW s.heap dx)=its.any (eqW s.heap dx) by simp,zGL ra ods];exact q
theorem zOb(hu:X.A.units+64<cLine):OpR X (compareOp .NotIn) (rInG X.K true):=by
 intro pins s σ H x y v u Q I rx ry h;obtain⟨p,xs,N,N',dx,ds,rfl,hq,hx,ox,hxs,ods,q⟩:=h;cases ry;obtain⟨bs,rb⟩:=I.reads hx rx;rcases hq with hq|hq
 ·obtain⟨its,r,pl,hz⟩:=I.list hq;obtain⟨as,ra⟩:=I.readsL hxs r;refine SeqAt.notIn_listAt (eqW s.heap dx) pl.isList (fun w hw=>zHY hu rb ox ra ods w (by simpa using hw)) ⟨.bl _,H,I,rfl,?_⟩;rw[show its.toArray.any (eqW s.heap dx)=its.any (eqW s.heap dx) by simp,zGL ra ods];exact q
 ·obtain⟨its,r,pl,hz⟩:=I.tuple hq;obtain⟨as,ra⟩:=I.readsL hxs r;refine SeqAt.notIn_tupleAt (eqW s.heap dx) pl (fun w hw=>zHY hu rb ox ra ods w (by simpa using hw)) ⟨.bl _,H,I,rfl,?_⟩;rw[show its.toArray.any (eqW s.heap dx)=its.any (eqW s.heap dx) by simp,zGL ra ods];exact q
end
open PySem PySem.Spec PyProof.Rows
section
variable {prog:Program}{w:World}{K:Type} [DecidableEq K] {knd:HeapKind prog w K}{A:Around}{E:yL}{s:Shared}
theorem zT0{d a:Addr}{xs:List (K×Addr×Value)}{k:K}{dv:Value}{Q:yL}(hu:knd.room A)(hk:knd.is s.heap k a)(hm:s.heap.DictOfH knd d xs)(hz:xs.length<=sizeLine)
  (hin:∀p,atKey xs k=some p->Q p.2 { s with toks:=s.toks+knd.draws k })
  (hout:atKey xs k=none->∀h',h'.DictOfH knd d (xs++[(k,a,dv)])->qE1 d s.heap h'->Q dv { s with heap:=h',toks:=s.toks+knd.draws k }) :
  wpAny (model prog w) A (dictSetDefault d (.ref a) dv) Q E s:=by
 obtain⟨o,es,ep,ho,hc,hd,he,his,hn⟩:=hm;unfold dictSetDefault
 try with_reducible refine wpAny_holding ?_
 refine wpAny_bind (knd.pyHash hu hk (wpAny_bind (wpAny_dictFind_heap (s:={ s with toks:=s.toks+knd.draws k }) hu hk ho hd he his hn (fun no=>?_) fun j p hj=>?_)))
 ·have k0:=atKey_none_of_get no;have kn:=not_mem_keys_of_get no;refine wpAny_bind (wpAny_rule (wpAny_bind (wpAny_updateDictKeys (hz:=by rw[size_of_entries he];exact hz) (s:={ s with toks:=s.toks+knd.draws k }) ho hd (wpAny_pure (hout k0 _ ?_ (qE1.update ..))))));have dd:=Obj.data_mapDictKeys hd (·.push ⟨knd.hash k,Value.ref a,dv⟩);refine⟨_,_,ep+1,qI1 _ ho (Obj.isFreed_of_dict dd),hc.mapDictKeys _,dd,by simp[he,entryOfKey],fun x hx=>?_,?_⟩
  ·have kp:knd.is s.heap x.1 x.2.1:=by
    rcases qB2.mp hx with q|q
    ·exact his x q
    ·cases qA7.mp q;exact hk
   exact knd.keeps kp ho hd (qE1.update ..)
  ·rw[qE4,qE8];exact⟨hn,by simp,fun x hx y hy z=>kn (by simp at hy;rw[<- hy,<- z];exact hx)⟩
 ·refine wpAny_bind (wpAny_dictEntries (s:={ s with toks:=s.toks+knd.draws k }) ho hd ?_);rw[entry_at he j,hj];exact wpAny_bind (wpAny_rule (wpAny_pure (hin p (atKey_of_get hn hj))))
theorem zJ9(d a:Addr)(dv:Value)(lo:(d == sysModules)=false):MeetsIn prog w (Builtin.«dict.setdefault» ⟨[.ref d,.ref a,dv],[]⟩) (fun A R s=>knd.room A.in1/\∃k xs,knd.is s.heap k a/\s.heap.DictOfH knd d xs/\xs.length<=sizeLine /\
   (∀p,atKey xs k=some p->R (.ok (.ret p.2)) { s with toks:=s.toks+knd.draws k }) /\
   (atKey xs k=none->∀h',h'.DictOfH knd d (xs++[(k,a,dv)])->qE1 d s.heap h'->R (.ok (.ret dv)) { s with heap:=h',toks:=s.toks+knd.draws k })) :=
 .of_wp fun A R s ⟨hu,k,xs,hk,hm,hz,h1,h2⟩=>by unfold Builtin.«dict.setdefault» Builtin.Dict.keyAndDefault;refine wpAny_bind (wpAny_bind (wpAny_notOrdered_dict hm.typeIs (wpAny_pure ?_)));show wpAny _ _ (if(d == sysModules)=true then _ else(dictSetDefault d (.ref a) dv >>= _)) _ _ s;rw[if_neg (by rw[lo];exact qB0)];exact wpAny_bind (zT0 hu hk hm hz (fun p e=>wpAny_pure ⟨_,rfl,h1 p e⟩) fun e h' a1 a2=>wpAny_pure ⟨_,rfl,h2 e h' a1 a2⟩)
end
section
variable {X:Cx}{pins:yD}{σ:St}{H:Hp}{s:Shared}
theorem Inv.dTnil{a:Addr}(I:Inv X pins σ H s)(e:H a=some (.dK [])):Inv X pins σ (upd H a (.dT [])) s:=by
 obtain⟨z,hd,vs,r,o,es,ep,h1,h2,h3,h4,h5,h6⟩:=zPe I.hok e;have v0:vs=[]:=by cases r;rfl
 subst v0;have e0:es.toList=[]:=by have:=h5.length;exact qF3.mp (by simpa using this)
 refine I.write (x:=a) (e:=a) (h':=s.heap) (t':=s.toks) (by rw[e];exact True.intro) (.inl rfl) (fun b u _ q=>q) ⟨o,h1⟩ ?_;exact⟨qG3 _,hd,[],.nil,o,es,ep,h1,h2,h3,by simpa using e0,qP4⟩
def zTc:V->List V->Hp->VK->Prop:=fun x vs H Q=>∃a b kvs k z,x=.ref a/\vs=[.ref b,z]/\H b=some (.tup (k.map kV))/\(H a=some (.dT kvs)∨(kvs=[]/\H a=some (.dK []))) /\
 (∀v,valV kvs k=some v->Q v H)/\(valV kvs k=none->kvs.length<sizeLine/\Q z (upd H a (.dT (kvs++[(k,z)]))))
theorem zHg{a b:Addr}{kvs:List (List Key×V)}{k:List Key}{z:V}{u:Value}{Q:VK}(hu:X.A.units+1<cLine)(I:Inv X pins σ H s)(hb:H b=some (.tup (k.map kV)))(ha:H a=some (.dT kvs))(rz:RelV z u)
  (h1:∀v,valV kvs k=some v->Q v H) (h2:valV kvs k=none->kvs.length<sizeLine/\Q z (upd H a (.dT (kvs++[(k,z)])))):wpAny (model X.prog X.w) X.A (call (.builtin "dict.setdefault") [.ref a,.ref b,u]) (EP X pins σ Q) X.xe s:=by
 obtain⟨z0,lo,xs,rel,dd⟩:=zX2 I.hok ha;have hz:xs.length<=sizeLine:=by rw[<- Paired.length rel];exact z0
 refine call_meetsIn PySem.F.slot_dict_setdefault dd.typeIs PySem.F.entry_dict_setdefault (PySem.F.args_dict_setdefault_3 _ _ _) (zJ9 (knd:=tupleKind (zAu X.prog X.w)) a b u lo)
  ⟨tupleKind_room_in1 hu,k,xs,zHp I.hok hb,dd,hz,fun p e=>?_,fun e h' d' hs=>?_⟩
 ·have q:=rel.val k;rw[e]at q;cases q2:valV kvs k with
  |none=>rw[q2]at q;exact False.elim q
  |some v=>rw[q2]at q;exact⟨v,H,I.tok _,q,h1 v q2⟩
 ·have q:=rel.val k;rw[e]at q;have q2:valV kvs k=none:=by
   cases q2:valV kvs k with
   |none=>rfl
   |some v=>rw[q2]at q;exact False.elim q
  obtain⟨o,es,ep,hq,g2,g3,g4,_,g5⟩:=d';refine⟨z,upd H a (.dT (kvs++[(k,z)])),zGv I (by rw[ha];exact True.intro) hs ⟨o,hq⟩ ?_,rz,(h2 q2).2⟩;have kt:KT H (kvs++[(k,z)]) (xs++[(k,b,u)]):=Paired.snoc rel ⟨rfl,hb,rz⟩;exact⟨by rw[qB3];exact(h2 q2).1,lo,_,kt.keeps fun c ys ec=>(by rw[zAb (zTI ec ha (fun z=>nomatch z))];exact ec),o,es,ep,hq,g2,g3,g4,g5⟩
theorem zG0(hu:X.A.units+1<cLine):MtR X "dict.setdefault" zTc:=by
 intro pins s σ H x xs v us Q I rx rs h;obtain⟨a,b,kvs,k,z,rfl,rfl,hb,ha,h1,h2⟩:=h;cases rx;obtain⟨u1,u2,rfl,r1,r2⟩:=zMa rs;cases r1;rcases ha with ha|⟨rfl,ha⟩
 ·exact zHg hu I hb ha r2 h1 h2
 ·have I2:=I.dTnil ha;have hb2:upd H a (.dT []) b=some (.tup (k.map kV)):=by rw[zAb (zTI hb ha (fun z=>nomatch z))];exact hb
  exact zHg hu I2 hb2 zAf r2 (fun v e=>by cases e) fun e=>by rw[zNu];exact h2 e
end
open PySem PySem.Spec PyProof.Rows
def Raw(h:Heap)(d:Addr)(es:Array DictEntry)(ep:Nat):Prop:=∃o,h.get? d=some o/\o.cls=.type "dict"/\o.data=.dict es ep
theorem Raw.at{h h':Heap}{d:Addr}{es:Array DictEntry}{ep:Nat}(x:Raw h d es ep)(e:∀o,h.get? d=some o->h'.get? d=some o):Raw h' d es ep:=let ⟨o,ho,r⟩:=x;⟨o,e o ho,r⟩
theorem Raw.lt{h:Heap}{d:Addr}{es:Array DictEntry}{ep:Nat}(x:Raw h d es ep):d<h.objs.size:=let ⟨_,ho,_⟩:=x;qB8 ho
open PySem PySem.Spec PyProof.Rows
section
variable {prog:Program}{w:World}{A:Around}{E:yL}{s:Shared}{z TI TO i1 i2:Addr}{f1 f2:yC}{n1 n2 k:Nat}{P1 P2:Nat->Value->Prop}{S1 S2:Nat->Heap->Prop}
abbrev zXA(h:Heap)(z TI TO T:Addr)(b:Bool):Prop:=h.get? z=some { cls:=.type "zip",data:=.fields #[rawInt T,.bool b,.bool false,.ref TI,.ref TO] }
inductive ZWay(z TI TO:Addr)(h:Heap):Prop
 |fresh (e:IsZip h z TI TO .none)
 |busy (T:Addr) (oT:Obj) (b:Bool) (e:zXA h z TI TO T b) (a:h.get? T=some oT) (nz:T≠z) (n1:T≠TO)
structure ZRun(z TI TO i1 i2:Addr)(S1 S2:Nat->Heap->Prop)(k:Nat)(h:Heap):Prop where
 way:ZWay z TI TO h
 ti:IsPair h TI (.ref i1) (.ref i2)
 to:∃a b,IsPair h TO a b
 s1:S1 k h
 s2:S2 k h
end
open PySem PySem.Spec PyProof.Rows
section
variable {prog:Program}{w:World}{A:Around}{z TI TO i1 i2 d:Addr}{f1 f2:yC}{n1 n2:Nat}{P1 P2:Nat->Value->Prop}{S1 S2:Nat->Heap->Prop}
noncomputable abbrev TK2(prog:Program)(w:World):=tupleKind (zAu prog w)
def DRaw(prog:Program)(w:World)(h:Heap)(d:Addr)(xs:List (List Key×Addr×Value)):Prop:=∃o es ep,h.get? d=some o/\o.ExactDict/\o.data=.dict es ep/\es.toList=xs.map (entryOfKey (TK2 prog w))/\(xs.map (·.1)).Nodup
theorem DRaw.of{h:Heap}{xs:List (List Key×Addr×Value)}(x:h.DictOfH (TK2 prog w) d xs):DRaw prog w h d xs:=let ⟨o,es,ep,a,b,c,e,_,f⟩:=x;⟨o,es,ep,a,b,c,e,f⟩
theorem DRaw.at{h h':Heap}{xs:List (List Key×Addr×Value)}(x:DRaw prog w h d xs)(e:∀o,h.get? d=some o->h'.get? d=some o):DRaw prog w h' d xs:=let ⟨o,es,ep,a,r⟩:=x;⟨o,es,ep,e o a,r⟩
theorem ZRun.frame{h h':Heap}{k:Nat}(r:ZRun z TI TO i1 i2 S1 S2 k h)(D1:Draws prog w A i1 f1 n1 P1 S1)(D2:Draws prog w A i2 f2 n2 P2 S2)(e:∀c o,c≠d->h.get? c=some o->h'.get? c=some o)(hd:∃o,h'.get? d=some o)(nz:d≠z)(ni:d≠TI)(no:d≠TO)(m1:d∉f1)(m2:d∉f2):ZRun z TI TO i1 i2 S1 S2 k h':=by
 obtain⟨way,ti,⟨a,b,to⟩,s1,s2⟩:=r;refine⟨?_,e _ _ ni.symm ti,⟨a,b,e _ _ no.symm to⟩,D1.frame _ _ _ s1 fun c hc o q=>e c o (fun z=>m1 (z▸hc)) q,D2.frame _ _ _ s2 fun c hc o q=>e c o (fun z=>m2 (z▸hc)) q⟩;rcases way with hz|⟨T,oT,bb,hz,hT,n1,n2⟩
 ·exact .fresh (e _ _ nz.symm hz)
 ·by_cases q:T=d
  ·subst q;obtain⟨o,ho⟩:=hd;exact .busy T o bb (e _ _ nz.symm hz) ho n1 n2
  ·exact .busy T oT bb (e _ _ nz.symm hz) (e _ _ q hT) n1 n2
structure ZAll(prog:Program)(w:World)(z TI TO i1 i2 d:Addr)(f1 f2:yC)(n1 n2:Nat)(P1 P2:Nat->Value->Prop)(S1 S2:Nat->Heap->Prop)(ks:List (List Key×Addr×Value))(h0:Heap):Prop where
 D1:∀A:Around,A.handled=none->Draws prog w A i1 f1 n1 P1 S1
 D2:∀A:Around,A.handled=none->Draws prog w A i2 f2 n2 P2 S2
 ap:ZAp z TI TO i1 i2 f1 f2
 m1:i1∈f1
 m2:i2∈f2
 n:ks.length=min n1 n2
 p1:∀i x q,P1 i x->ks[i]?=some q->x=.ref q.2.1
 p2:∀i y q,P2 i y->ks[i]?=some q->y=q.2.2
 key:∀q∈ks,(TK2 prog w).is h0 q.1 q.2.1
 fr:∀c o,h0.get? c=some o->c≠z/\c≠TO/\c≠i1/\c≠i2/\c≠d
 nz:d≠z
 ni:d≠TI
 no:d≠TO
 d1:d∉f1
 d2:d∉f2
end
open PySem PySem.Spec PyProof.Rows
def KRw(H:Hp):List (List Key)->List V->Prop:=Paired fun k v=>∃a,v=.ref a/\H a=some (.tup (k.map kV))
noncomputable def zZy(kvs ps:List (List Key×V)):List (List Key×V):=ps.foldl (fun acc q=>putK acc q.1 q.2) kvs
noncomputable def stoF(zs ks:List (List Key×Addr×Value)):List (List Key×Addr×Value):=ks.foldl (fun a q=>storedH a q.1 q.2.1 q.2.2) zs
inductive zan(H:Hp)(kvs:List (List Key×V))(zs:List (List Key×Addr×Value))(ps:List (List Key×V))(u1 u2:yB):Prop
 |mk (ks:List (List Key×Addr×Value)) (r:KT H (zZy kvs ps) (stoF zs ks)) (n:ks.length=min u1.length u2.length) (p1:∀(i:Nat) (x:Value) (q:List Key×Addr×Value),u1[i]?=some x->ks[i]?=some q->x=.ref q.2.1) (p2:∀(i:Nat) (y:Value) (q:List Key×Addr×Value),u2[i]?=some y->ks[i]?=some q->y=q.2.2) (k:∀q∈ks,H q.2.1=some (.tup (q.1.map kV)))
section
variable {X:Cx}{a b:Expr}{ta:TA}{p p2 pos pos2:Pos}
theorem KRw.length{H:Hp}{kks:List (List Key)}{xs:List V}(r:KRw H kks xs):kks.length=xs.length:=Paired.length r
end
open PySem PySem.Spec PyProof.Rows
section
variable {prog:Program}{w:World}{A:Around}{E:yL}{s:Shared}{it d:Addr}{i ep:Nat}{es:Array DictEntry}
theorem zZm{e:DictEntry}{Q:yF->Shared->Prop}(hit:s.heap.IsKeyIter it d i es.size ep)(hr:Raw s.heap d es ep)(hx:es[i]?=some e)
  (hQ:∀h',h'.IsKeyIter it d (i+1) es.size ep->qE1 it s.heap h'->Q (some e.key) { s with heap:=h' }):wpAny (model prog w) A (pyNext (.ref it)) Q E s:=by
 have ty:=hit.typeIs;obtain⟨o,ho,hc,hd⟩:=id hit;obtain⟨od,hod,_,hdd⟩:=hr;unfold pyNext;refine wpAny_bind (wpAny_attempt (wpAny_callSpecial?_slot (name:=Str.ofString "__next__") ty F.slot_dict_keyiterator_next (wpAny_call_entry F.slot_dict_keyiterator_next ty F.entry_dict_keyiterator_next ?_ (F.args_dict_keyiterator_next_1 _))));refine wpAny_bind (wpAny_pure (wpAny_bind (wpAny_bind (wpAny_bind (wpAny_typeNameOfWhole_keyiter ty (wpAny_pure (wpAny_bind (wpAny_fieldsOf ho hd ?_))))))));have o1:Builtin.Dict_items.ownsTuple "dict_keyiterator"=false:=by decide
 have n1:¬((Value.ref d == Value.none)=true):=qB0;simp only[o1,qE6,if_false];show wpAny _ _ (if(Value.ref d == Value.none)=true then _ else _) _ _ s;rw[if_neg n1];refine wpAny_bind (wpAny_pure (wpAny_bind (wpAny_dictEntries hod hdd ?_)));rw[if_neg (by simp)];refine wpAny_bind (wpAny_pure (wpAny_bind (wpAny_dictEpoch hod hdd ?_)));rw[if_neg (by simp)];refine wpAny_pure ?_;have n2:¬((i:Int)<0):=by omega
 simp only[n2,if_false,qI4,hx];refine wpAny_bind (wpAny_bind (wpAny_typeNameOfWhole_keyiter ty (wpAny_pure (wpAny_bind (wpAny_isOneOf_keyiter ty ?_)))));show wpAny _ _ (setField (.ref it) 1 (rawInt ((i:Int)+1)) >>= _) _ _ s;refine wpAny_bind (wpAny_setField ho hd (by simp) ?_);have it2:(s.heap.update it (Obj.mapFields (·.setIfInBounds 1 (rawInt ((i:Int)+1))))).IsKeyIter it d (i+1) es.size ep :=
  ⟨_,qI1 _ ho (Obj.isFreed_of_fields (Obj.data_mapFields hd _)),(Obj.cls_mapFields ..).trans hc,by rw[Obj.data_mapFields hd];simp[rawInt]⟩
 have ty2:Shared.TypeIs { s with heap:=s.heap.update it (Obj.mapFields (·.setIfInBounds 1 (rawInt ((i:Int)+1)))) } (.ref it) "dict_keyiterator":=it2.typeIs;refine wpAny_bind (wpAny_holding (wpAny_bind (wpAny_isOneOf_keyiter ty2 ?_)));show wpAny _ _ (pure e.key) _ _ _;exact wpAny_pure (wpAny_pure ⟨_,rfl,wpAny_pure (hQ _ it2 (qE1.update ..))⟩)
theorem kend{Q:yF->Shared->Prop}(hh:A.handled=none)(hit:s.heap.IsKeyIter it d i es.size ep)(hr:Raw s.heap d es ep)(hx:es[i]?=none)
  (hQ:∀h',Heap.ExtBut it s.heap h'->Q none { s with heap:=h' }):wpAny (model prog w) A (pyNext (.ref it)) Q E s:=by
 have ty:=hit.typeIs;obtain⟨o,ho,hc,hd⟩:=id hit;obtain⟨od,hod,_,hdd⟩:=hr;unfold pyNext;refine wpAny_bind (wpAny_attempt (wpAny_callSpecial?_slot (name:=Str.ofString "__next__") ty F.slot_dict_keyiterator_next (wpAny_call_entry F.slot_dict_keyiterator_next ty F.entry_dict_keyiterator_next ?_ (F.args_dict_keyiterator_next_1 _))));refine wpAny_bind (wpAny_pure (wpAny_bind (wpAny_bind (wpAny_bind (wpAny_typeNameOfWhole_keyiter ty (wpAny_pure (wpAny_bind (wpAny_fieldsOf ho hd ?_))))))));have o1:Builtin.Dict_items.ownsTuple "dict_keyiterator"=false:=by decide
 have n1:¬((Value.ref d == Value.none)=true):=qB0;simp only[o1,qE6,if_false];show wpAny _ _ (if(Value.ref d == Value.none)=true then _ else _) _ _ s;rw[if_neg n1];refine wpAny_bind (wpAny_pure (wpAny_bind (wpAny_dictEntries hod hdd ?_)));rw[if_neg (by simp)];refine wpAny_bind (wpAny_pure (wpAny_bind (wpAny_dictEpoch hod hdd ?_)));rw[if_neg (by simp)];refine wpAny_pure ?_;have n2:¬((i:Int)<0):=by omega
 simp only[n2,if_false,qI4,hx];refine wpAny_bind (wpAny_bind (wpAny_typeNameOfWhole_keyiter ty (wpAny_pure ?_)));refine wpAny_bind (wpAny_setField (i:=0) ho hd (by simp) ?_);show wpAny _ A.in1 (newExc (.type "StopIteration") [] >>= _) _ _ _;unfold newExc newTuple;refine wpAny_bind (wpAny_bind (wpAny_newObj_type (wpAny_bind (m:=firstArgMember _ _) (wpAny_of_eq (a:=Value.none) (by simp only[firstArgMember];rfl) (wpAny_newObj_type ?_ (by size_fits)))) (by size_fits)));refine wpAny_raiseNew_none hh ?_;refine wpAny_bind (wpAny_isInstance (T := "StopIteration") (b:=true) ⟨_,qB7 _ rfl,rfl⟩ isSubtype_stop ?_);exact wpAny_pure (hQ _ (((qE1.update ..).extBut.push _).push _))
theorem zR8{Q:yL}(lo:(d == sysModules)=false)(hr:Raw s.heap d es ep)
  (hQ:Q (.ref s.heap.objs.size) { s with heap:=s.heap.push { cls:=.type "dict_keyiterator",data:=.fields #[.ref d,.int 0 0,.int es.size 0,.int ep 0] } }):wpAny (model prog w) A (pyIter (.ref d)) Q E s:=by
 obtain⟨o,ho,hc,hdat⟩:=hr;have ty:s.TypeIs (.ref d) "dict":=⟨o,ho,hc⟩
 refine wpAny_pyIter_slot ty F.slot_dict_iter (wpAny_call_entry F.slot_dict_iter ty F.entry_dict_iter ?_ (F.args_dict_iter_1 _));unfold Builtin.«dict.__iter__» Builtin.Dict.dictSlotNone;refine wpAny_bind (wpAny_bind (wpAny_notOrdered_dict ty (wpAny_bind (wpAny_pure (wpAny_pure ?_)))));refine wpAny_bind (wpAny_pure ?_);show wpAny _ _ (Builtin.Dict.showsAll d >>= _) _ _ _;unfold Builtin.Dict.showsAll;rw[if_neg (by rw[lo];exact qB0)];refine wpAny_bind (wpAny_pure (wpAny_bind (wpAny_dictEntries ho hdat (wpAny_bind (wpAny_dictEpoch ho hdat ?_)))));show wpAny _ _ (newFields _ _ >>= _) _ _ _;unfold newFields;refine wpAny_bind (wpAny_newObj_type (wpAny_pure ⟨_,rfl,"dict_keyiterator",_,⟨_,qB7 _ rfl,rfl⟩,F.slot_dict_keyiterator_next.lookup,?_⟩));simpa[rawInt]using hQ
end
theorem zMn{α β:Type}{R:α->β->Prop}{xs:List α}{ys:List β}(r:Paired R xs ys):∀{i:Nat}{y:β},ys[i]?=some y->∃x,xs[i]?=some x/\R x y:=by
 induction r with
 |nil=>intro i y e;simp at e
 |cons h t ih =>
  intro i y e;cases i with
  |zero=>simp at e;subst e;exact⟨_,rfl,h⟩
  |succ i=>exact ih (by simpa using e)
inductive FzD(X:Cx)(H:Hp)(h:Heap)(a:Addr)(o:Obj)(kvs:List (List Key×V)):Prop
 |mk (es:Array DictEntry) (ep:Nat) (xs:List (List Key×Addr×Value)) (g:h.get? a=some o) (c:o.cls=.type "dict") (d:o.data=.dict es ep) (r:KT H kvs xs) (e:es.toList=xs.map (entryOfKey (tupleKind (zAu X.prog X.w)))) (lo:(a == sysModules)=false) (z:kvs.length<=sizeLine)
open PySem PySem.Spec PyProof.Rows
def Rs(xs:Array Nat):Prop:=xs.toList.Pairwise (·<·)
theorem Rs.get{xs:Array Nat}(h:Rs xs){i j a b:Nat}(ha:xs[i]?=some a)(hb:xs[j]?=some b)(l:i<j):a<b:=by rw[<- Array.getElem?_toList]at ha hb;obtain⟨hi,rfl⟩:=qA2.mp ha;obtain⟨hj,rfl⟩:=qA2.mp hb;exact qK4.mp h i j hi hj l
def Bl(xs:Array Nat)(j r:Nat):Prop:=r<=xs.size/\(∀i a,xs[i]?=some a->i<r->a<j)/\∀i a,xs[i]?=some a->r<=i->j<=a
theorem zIr{xs:Array Nat}(h:Rs xs)(j:Nat):∀(n lo hi:Nat),hi - lo<=n->lo<=hi->hi<=xs.size->(∀i a,xs[i]?=some a->i<lo->a<j)->(∀i a,xs[i]?=some a->hi<=i->j<=a)->Bl xs j (SetTable.below.go xs j n lo hi)
 |0,lo,hi,h1,h2,h3,h4,h5=>by
  have e:lo=hi:=by omega
  subst e;exact⟨h3,h4,h5⟩
 |n+1,lo,hi,h1,h2,h3,h4,h5=>by
  unfold SetTable.below.go;split
  ·rename_i hl;have hm:(lo+hi) / 2<xs.size:=by omega
   have hx:xs[(lo+hi) / 2]?=some xs[(lo+hi) / 2]:=Array.getElem?_eq_getElem hm;have hg:xs.getD ((lo+hi) / 2) j=xs[(lo+hi) / 2]:=by simp[Array.getD,hm]
   simp only[hg];split
   ·rename_i hs;refine zIr h j n _ hi (by omega) (by omega) h3 (fun i a ha hi2=>?_) h5;by_cases e:i=(lo+hi) / 2
    ·subst e;rw[hx]at ha;cases ha;exact hs
    ·exact Nat.lt_trans (h.get ha hx (by omega)) hs
   ·rename_i hs;refine zIr h j n lo _ (by omega) (by omega) (by omega) h4 (fun i a ha hi2=>?_);by_cases e:i=(lo+hi) / 2
    ·subst e;rw[hx]at ha;cases ha;omega
    ·have:=h.get hx ha (by omega);omega
  ·have e:lo=hi:=by omega
   subst e;exact⟨h3,h4,h5⟩
theorem zRR{xs:Array Nat}(h:Rs xs)(j:Nat):Bl xs j (SetTable.below xs j):=by
 refine zIr h j _ 0 xs.size (by omega) (by omega) (qB1 _) (fun i a _ l=>absurd l (qS7 _)) fun i a ha l=>?_;have:i<xs.size:=by
  rcases Nat.lt_or_ge i xs.size with g|g
  ·exact g
  ·rw[Array.getElem?_eq_none g]at ha;cases ha
 omega
theorem Bl.uniq{xs:Array Nat}{j r r':Nat}(a:Bl xs j r)(b:Bl xs j r'):r=r':=by
 obtain⟨a1,a2,a3⟩:=a;obtain⟨b1,b2,b3⟩:=b;rcases Nat.lt_trichotomy r r' with l|l|l
 ·have:=b2 r _ (Array.getElem?_eq_getElem (by omega)) l;have:=a3 r _ (Array.getElem?_eq_getElem (by omega)) (qB1 _);omega
 ·exact l
 ·have:=a2 r' _ (Array.getElem?_eq_getElem (by omega)) l;have:=b3 r' _ (Array.getElem?_eq_getElem (by omega)) (qB1 _);omega
theorem Rs.insert{xs:Array Nat}(h:Rs xs){j:Nat}(hn:xs[SetTable.below xs j]?≠some j):Rs (SetTable.insertAt xs (SetTable.below xs j) j):=by
 obtain⟨b1,b2,b3⟩:=zRR h j;unfold Rs;rw[SetTable.toList_insertAt];have e:xs.toList=xs.toList.take (SetTable.below xs j)++xs.toList.drop (SetTable.below xs j):=(qD4 _ _).symm;have h':=h;unfold Rs at h';rw[e,qC5]at h';obtain⟨p1,p2,p3⟩:=h';have q1:∀a∈xs.toList.take (SetTable.below xs j),a<j:=fun a ha=>by obtain⟨i,hi,rfl⟩:=qN0 ha;rw[qI9]at hi;refine b2 i _ ?_ (by omega);rw[<- Array.getElem?_toList,List.getElem_take];exact qA5 _
 have q2:∀a∈xs.toList.drop (SetTable.below xs j),j<a:=fun a ha=>by
  obtain⟨i,hi,rfl⟩:=qN0 ha;rw[qJ1]at hi;have g:xs[SetTable.below xs j+i]?=some ((xs.toList.drop (SetTable.below xs j))[i]):=by rw[<- Array.getElem?_toList,qL6];exact qA5 _
  have l:=b3 _ _ g (by omega);rcases qQ2 l with l|l
  ·exact l
  ·exfalso;by_cases e0:i=0
   ·subst e0;rw[<- l]at g;exact hn g
   ·have hlt:SetTable.below xs j<xs.size:=by rw[Array.length_toList]at hi;omega
    have hr:xs[SetTable.below xs j]?=some xs[SetTable.below xs j]:=Array.getElem?_eq_getElem hlt;have:=h.get hr g (by omega);have:=b3 _ _ hr (qB1 _);omega
 rw[qC5,qF2];refine⟨p1,⟨q2,p2⟩,fun a ha b hb=>?_⟩;rcases qC0.mp hb with rfl|hb
 ·exact q1 a ha
 ·exact p3 a ha b hb
theorem zIR{t:SetTable}{j:Nat}(h:(∃i,t.slot j=.live i)->False):t.place[SetTable.below t.place j]?≠some j:=by intro e;refine h ⟨SetTable.below t.place j,?_⟩;unfold SetTable.slot;simp only[e,beq_self_eq_true,if_true]
theorem zHS{t:SetTable}{f:Nat->Int}{h:Int}:∀(n:Nat) (p:SetTable.Probe) {j:Nat}{d:yK},(∀x,p.dummy=some x->t.place[SetTable.below t.place x]?≠some x)->SetTable.probe.go t f h n p=some (.empty j d)->t.place[SetTable.below t.place (d.getD j)]?≠some (d.getD j)
 |0,p,j,d,hp,e=>by cases e
 |n+1,p,j,d,hp,e=>by
  unfold SetTable.probe.go at e;have adv:∀q:SetTable.Probe,(t.advance q).dummy=q.dummy:=fun q=>by unfold SetTable.advance;split<;>rfl
  split at e
  ·rename_i hs;cases e;cases hd:p.dummy with
   |none=>exact zIR fun⟨i,hi⟩=>by rw[show(none:yK).getD p.j=p.j from rfl,hs]at hi;cases hi
   |some x=>exact hp x hd
  ·rename_i hs;refine zHS n _ (fun x hx=>?_) e;rw[adv]at hx;cases hx;exact zIR fun⟨i,hi⟩=>by rw[hs]at hi;cases hi
  ·split at e
   ·cases e
   ·exact zHS n _ (fun x hx=>hp x (by rw[adv]at hx;exact hx)) e
theorem zIa{t:SetTable}{h:Int}{j:Nat}{b:Bool}(e:t.freeSlot h=some (j,b)):t.place[SetTable.below t.place j]?≠some j:=by
 unfold SetTable.freeSlot at e;split at e
 ·rename_i j' d he;cases e;exact zHS _ _ (fun x hx=>by simp[SetTable.probeStart]at hx) he
 ·cases e
structure TOk(bt:Bool)(t:SetTable):Prop where
 led:t.led=!bt
 up:t.plain=true->Rs t.place
theorem TOk.fresh(bt:Bool):TOk bt (.fresh 0 0 (!bt)):=⟨rfl,fun _=>by simp[SetTable.fresh,Rs]⟩
theorem TOk.standIn{bt:Bool}{t:SetTable}(h:TOk bt t)(n:Nat):TOk bt (t.standIn n):=⟨h.led,fun e=>by cases e⟩
theorem TOk.layNew{bt:Bool}{t:SetTable}(k:TOk bt t)(es:Array (Int×Value))(h:Int)(x:Value):TOk bt (layNew t es h x).2.1:=by
 unfold PySem.layNew;split
 ·rename_i j b e;show TOk bt (SetTable.orStandIn (t.put j).1 _);have k1:TOk bt (t.put j).1:=⟨k.led,fun p=>(k.up p).insert (zIa e)⟩
  unfold SetTable.orStandIn;split
  ·exact k1
  ·exact k1.standIn _
 ·exact k.standIn _
theorem zTS{m f v:Nat}{l p:Bool}{hs:Array Int}{t:SetTable}{o:Array Nat}(e:SetTable.laid m f v l p hs=some (t,o)):t.led=l/\t.plain=p/\Rs t.place:=by
 unfold SetTable.laid at e;obtain⟨ow,_,e⟩:=qA3.mp e;cases e;refine⟨rfl,rfl,?_⟩;have e2:∀ks:List Nat,(ks.filterMap fun j=>(ow.getD j none).map (j,·)).map (·.1)=ks.filter fun j=>(ow.getD j none).isSome:=by
  intro ks
  induction ks with
  |nil=>rfl
  |cons a ks ih =>
   cases h:ow.getD a none with
   |none=>rw[List.filterMap_cons_none (by rw[h];rfl),List.filter_cons_of_neg (by rw[h];exact qB0),ih]
   |some b=>rw[List.filterMap_cons_some (b:=(a,b)) (by rw[h];rfl),List.filter_cons_of_pos (by rw[h];rfl),qB5,ih]
 show List.Pairwise (·<·) (((List.range (m+1)).filterMap fun j=>(ow.getD j none).map (j,·)).map (·.1));rw[e2];exact List.Pairwise.filter _ qJ5
theorem TOk.relayAll{bt:Bool}{t:SetTable}(k:TOk bt t)(es:Array (Int×Value))(n:Nat):TOk bt (relayAll t es n).2.1:=by
 unfold PySem.relayAll;split
 ·rename_i t' o e;obtain⟨h1,h2,h3⟩:=zTS e;dsimp only;split
  ·exact⟨h1.trans k.led,fun _=>h3⟩
  ·exact k.standIn _
 ·exact k.standIn _
open PySem PySem.Spec PyProof.Rows
noncomputable def iV:Value->Int
 |.int z _=>z
 |_=>0
noncomputable def iE(e:Int×Value):Int:=iV e.2
def EI(es:List (Int×Value)):Prop:=∀e∈es,∃z tk,e=(hashInt z,Value.int z tk)
theorem EI.elems{prog:Program}{w:World}{es:List (Int×Value)}(h:EI es):ElemsOf (intKind prog w) es:=fun e he=>by obtain⟨z,tk,rfl⟩:=h e he;exact⟨⟨z,intKind_is prog w z tk,rfl⟩,rfl⟩
theorem EI.perm{a b:List (Int×Value)}(h:EI a)(p:b.Perm a):EI b:=fun e he=>h e (p.mem_iff.mp he)
inductive StI(bt:Bool)(h:Heap)(a:Addr)(zs:yA):Prop
 |mk (o:Obj) (es:Array (Int×Value)) (ep:Nat) (t:SetTable) (g:h.get? a=some o) (x:o.ExactSet) (d:o.data=.set es ep t) (k:TOk bt t) (f:t.fits es.size=true) (b:es.size<scanBound) (e:EI es.toList) (p:(es.toList.map iE).Perm zs)
theorem StI.at{bt:Bool}{h h':Heap}{a:Addr}{zs:yA}(S:StI bt h a zs)(k:∀o,h.get? a=some o->h'.get? a=some o):StI bt h' a zs:=by obtain⟨o,es,ep,t,g,r⟩:=S;exact⟨o,es,ep,t,k o g,‹_›,‹_›,‹_›,‹_›,‹_›,‹_›,‹_›⟩
theorem StI.stored{bt:Bool}{h:Heap}{a:Addr}{o:Obj}{es es':Array (Int×Value)}{ep:Nat}{t t':SetTable}{zs:yA}(g:h.get? a=some o)(x:o.ExactSet)(d:o.data=.set es ep t)
  (k:TOk bt t') (f:t'.fits es'.size=true) (b:es'.size<scanBound) (e:EI es'.toList) (p:(es'.toList.map iE).Perm zs) :
  (h.update a (Obj.putSet es' t')).get? a=some { o with data:=.set es' (ep+1) t' }/\StI bt (h.update a (Obj.putSet es' t')) a zs:=by
 have hg:(h.update a (Obj.putSet es' t')).get? a=some { o with data:=.set es' (ep+1) t' }:=by have:=qI1 (Obj.putSet es' t') g (by rw[putSet_of es' t' d];rfl);rw[putSet_of es' t' d]at this;exact this
 exact⟨hg,_,es',ep+1,t',hg,x,rfl,k,f,b,e,p⟩
noncomputable def one(zs:yA)(z:Int):yA:=if z∈zs then zs else z::zs
section
variable {prog:Program}{w:World}{A:Around}{E:yL}{s:Shared}{bt:Bool}{a:Addr}{zs:yA}
theorem add_int{z:Int}{tk:Tok}{Q:Bool->Shared->Prop}(S:StI bt s.heap a zs)(room:zs.length+1<scanBound)
  (h:∀(b:Bool) (h':Heap),qE1 a s.heap h'->StI bt h' a (one zs z)->Q b { s with heap:=h' }) :
  wpAny (model prog w) A (setAddHashed a (.int z tk) (hashInt z)) Q E s:=by
 obtain⟨o,es,ep,t,g,x,d,k,f,b,e,p⟩:=S;have hl:es.size=zs.length:=by rw[<- p.length_eq,qA0,Array.length_toList]
 unfold setAddHashed setAddHashedIn;refine wpAny_holding (wpAny_bind (wpAny_setState_of g d f ?_));dsimp only;rw[byScan_of (knd:=intKind prog w) rfl b e.elems,if_pos rfl];unfold setAddByScan;refine wpAny_bind (wpAny_bind (wpAny_rule (wpAny_bind (wpAny_setScan_of (knd:=intKind prog w) (k:=z) (intKind_is prog w z tk) g d f e.elems ?_))));cases hr:es.toList.findIdx? (fun q=>(intKind prog w).is z q.2)with
 |some j =>
  obtain⟨hj,hp,_⟩:=List.findIdx?_eq_some_iff_getElem.mp hr;have hm:z∈zs:=by
   obtain⟨z',tk',e1⟩:=e _ (qE3 hj);rw[e1]at hp;have hz:z'=z:=by simpa[intKind,Value.isInt]using hp
   rw[<- hz];refine p.mem_iff.mp (qB6.mpr ⟨_,qE3 hj,?_⟩);rw[e1];rfl
  refine wpAny_pure (wpAny_pure ?_);have:=h false s.heap (qE1.refl ..) ⟨o,es,ep,t,g,x,d,k,f,b,e,by rw[one,if_pos hm];exact p⟩;cases s;exact this
 |none =>
  have hm:z∉zs:=fun hz=>by obtain⟨q,hq,e2⟩:=qB6.mp (p.mem_iff.mpr hz);have:=List.findIdx?_eq_none_iff.mp hr q hq;obtain⟨z',tk',e1⟩:=e q hq;rw[e1]at this e2;have hz':z'=z:=e2;subst hz';exact absurd (intKind_is prog w z' tk') (by rw[this];exact qB0)
  have p1:=layNew_perm t es (hashInt z) (.int z tk);have f1:=layNew_fits t es (hashInt z) (.int z tk);have k1:=k.layNew es (hashInt z) (.int z tk);dsimp only;generalize hL:layNew t es (hashInt z) (.int z tk)=L at p1 f1 k1 ⊢;obtain⟨es1,t1,wd,gv⟩:=L;dsimp only at p1 f1 k1 ⊢;have e1:EI es1.toList:=EI.perm (fun q hq=>by
   rw[Array.toList_push]at hq;rcases qB2.mp hq with hq|hq
   ·exact e q hq
   ·exact⟨z,tk,qA7.mp hq⟩) p1
  have q1:(es1.toList.map iE).Perm (one zs z):=by refine(p1.map iE).trans ?_;rw[Array.toList_push,qE4,one,if_neg hm];exact(List.Perm.append_right _ p).trans (List.perm_append_singleton z zs)
  have z1:es1.size=es.size+1:=by rw[<- Array.length_toList,p1.length_eq,Array.length_toList,Array.size_push]
  have b1:es1.size<scanBound:=by omega
  have tail:∀(t2:SetTable) (G:Bool->Sem Unit) (hG:∀(b:Bool) (s₁:Shared) (Q':Unit->Shared->Prop),Q' () s₁->wpAny (model prog w) A (G b) Q' E s₁),TOk bt t2->t2.fits es1.size=true ->
    wpAny (model prog w) A (do
     storeSet a es1 t2
     if(!wd&&t2.tooFull)=true then do
       G (relayAll t2 es1 (SetTable.grown es1.size)).2.2
       storeSet a (relayAll t2 es1 (SetTable.grown es1.size)).1 (relayAll t2 es1 (SetTable.grown es1.size)).2.1
       pure (some true)
      else pure (some true)) (fun r s'=>wpAny (model prog w) A (match r with|some added=>pure added|none=>setAddHashedIn a (.int z tk) (hashInt z) 99999) Q E s') E s:=by
   intro t2 G hG k2 f2;refine wpAny_bind (wpAny_storeSet_of g d ?_ (fits_of_scanBound b1));obtain⟨g3,S3⟩:=StI.stored g x d k2 f2 b1 e1 q1;split
   ·have p4:=relayAll_perm t2 es1 (SetTable.grown es1.size);have f4:=relayAll_fits t2 es1 (SetTable.grown es1.size);have k4:=k2.relayAll es1 (SetTable.grown es1.size);generalize relayAll t2 es1 (SetTable.grown es1.size)=M at p4 f4 k4 ⊢;obtain⟨es2,t3,gv2⟩:=M;dsimp only at p4 f4 k4 ⊢;have z4:es2.size=es1.size:=by rw[<- Array.length_toList,p4.length_eq,Array.length_toList]
    have b4:es2.size<scanBound:=by omega
    refine wpAny_bind (hG _ _ _ (wpAny_bind (wpAny_storeSet_of g3 rfl ?_ (fits_of_scanBound b4))));refine wpAny_pure (wpAny_pure (h true _ ((qE1.update s.heap a _).trans (qE1.update _ a _)) ?_));exact(StI.stored g3 x rfl k4 f4 b4 (e1.perm p4) ((p4.map iE).trans q1)).2
   ·exact wpAny_pure (wpAny_pure (h true _ (qE1.update s.heap a _) S3))
  have hgw:∀(b:Bool) (s₁:Shared) (Q':Unit->Shared->Prop),Q' () s₁->wpAny (model prog w) A (match b with|true=>rule "set.scan.the-table-gave-way" | false=>pure ()) Q' E s₁ :=
   fun b s₁ Q' hq=>by cases b<;>first|exact wpAny_pure hq|exact wpAny_rule hq
  refine wpAny_bind (hgw _ _ _ ?_);split
  ·refine wpAny_bind ?_;rw[hashByValue_scannable 8 rfl];refine wpAny_pure ?_;exact tail _ _ hgw k1 f1
  ·refine wpAny_bind (wpAny_pure ?_);exact tail _ _ hgw k1 f1
end
open PySem PySem.Spec PyProof.Rows
def IsSI(h:Heap)(it S:Addr)(f:Value)(i n ep:Nat):Prop:=∃o,h.get? it=some o/\o.cls=.type "set_iterator"/\o.data=.fields #[f,.int (i:Int) 0,.ref S,.int (n:Int) 0,.int (ep:Int) 0]
section
variable {prog:Program}{w:World}{A:Around}{E:yL}{s:Shared}{it S:Addr}{f:Value}{i n ep:Nat}
theorem IsSI.ty(h:IsSI s.heap it S f i n ep):s.TypeIs (.ref it) "set_iterator":=let ⟨o,g,c,_⟩:=h;⟨o,g,c⟩
theorem IsSI.at{h h':Heap}(x:IsSI h it S f i n ep)(e:∀o,h.get? it=some o->h'.get? it=some o):IsSI h' it S f i n ep:=let ⟨o,g,r⟩:=x;⟨o,e _ g,r⟩
end
open PySem PySem.Spec PyProof.Rows
section
variable {prog:Program}{w:World}{A:Around}{E:yL}{s:Shared}{S I T:Addr}{ep:Nat}{es:Array (Int×Value)}{t:SetTable}{o:Obj}{vs:yB}
inductive SIt(prog:Program)(w:World)(A:Around)(h0:Heap)(S I:Addr)(h':Heap)(n:Nat)(vs:yB):Prop
 |mk (fp:yC) (St:Nat->Heap->Prop) (vals:yB) (p:vals.Perm vs) (W:Walks prog w A I fp [I] n (fun i v=>vals[i]?=some v) St) (st:St 0 h') (f:∀b∈fp,b=S∨h0.objs.size<=b) (i:h0.objs.size<=I)
end
open PySem PySem.Spec PyProof.Rows
theorem Inv.dr{X:Cx}{pins:yD}{σ:St}{H:Hp}{s:Shared}(I:Inv X pins σ H s)(d:Drawn):Inv X pins σ H { s with drawn:=d } :=
 ⟨I.ok,I.os,I.bare,I.base,I.loc,I.cell,I.free,I.freeC,I.pin,I.hok,I.len⟩
section
variable {prog:Program}{w:World}{A:Around}{E:yL}{s:Shared}{r:Addr}
theorem zIN{Q:yL}{ns:yA}(hl:ns.length<64)
  (hc:∀(A:Around) (E:yL) (R:yB->Shared->Prop),A.handled=none->(∀(h':Heap) (tk:Nat) (dr:Drawn) (us:yB) (ms:yA),(∀b o,s.heap.get? b=some o->h'.get? b=some o)->IntsAre us ms->ms.Perm ns->R us { s with heap:=h',toks:=tk,drawn:=dr })->wpAny (model prog w) A (collect (.ref r)) R E s)
  (hh:A.handled=none)
  (h:∀(h1:Heap) (l:Addr) (h':Heap) (tk:Nat) (dr:Drawn) (e:Nat) (us:yB) (ms:yA),(∀b o,s.heap.get? b=some o->h1.get? b=some o)->(∀b o,h1.get? b=some o->h'.get? b=some o)->h1.objs.size<=l->h'.get? l=some (seqObj "list" us.toArray e)->IntsAre us ms->ms.Perm ns->ms.Pairwise (·<=·)->Q (.ref l) { s with heap:=h',toks:=tk,drawn:=dr }) :
  wpAny (model prog w) A (call (.builtin "sorted") [.ref r]) Q E s:=by
 refine Calls.call_function_entry kind_sorted plain_sorted entry_sorted (args_sorted1 _) ?_;unfold Builtin.«sorted»;refine wpAny_bind (m:=checkCount "sorted" 1 1 _) (wpAny_pure ?_);refine wpAny_bind (hc _ _ _ hh fun h' tk dr us ms hk hi hp=>?_);have hlen:us.length=ns.length:=by
  rw[<- hp.length_eq];clear hk hp
  induction hi with
  |nil=>rfl
  |cons _ _ _ ih=>simp[ih]
 refine wpAny_bind (wpAny_newList ?_ (by rw[hlen,sizeLine_eq];omega));have hoL:(h'.push (seqObj "list" us.toArray 0)).get? h'.objs.size=some (seqObj "list" us.toArray 0):=qB7 _ rfl;show wpAny _ _ _ _ _ { s with heap:=h'.push (seqObj "list" us.toArray 0),toks:=tk,drawn:=dr };refine wpAny_bind (wpAny_holding (wpAny_call_entry slot_list_sort ⟨_,hoL,rfl⟩ entry_list_sort (list_sort_tree hoL hi (by omega) fun out ns' a1 a2 a3=>⟨_,rfl,?_⟩) (args_list_sort _)));obtain⟨e,he⟩:=sortedHeap_at (out:=out) hoL;refine wpAny_pure ⟨_,rfl,h h' h'.objs.size _ tk dr e out.toList ns' hk (fun b o g=>?_) (qB1 _) (by simpa using he) a1 (a2.trans hp) a3⟩;have lt:b<h'.objs.size:=qB8 g;rw[sortedHeap_old (qC8 lt) (by rw[size_push'];exact qG7 lt)];exact qA6 _ g
end
open PySem PySem.Spec PyProof.Rows
theorem zOK:∀(us:yB) (ns:yA),us.length=ns.length->(∀(j:Nat) (v:Value) (n:Int),us[j]?=some v->ns[j]?=some n->∃t,v=.int n t)->IntsAre us ns
 |[],[],_,_=>.nil
 |[],_::_,h,_=>by cases h
 |_::_,[],h,_=>by cases h
 |u::us,n::ns,h,k=>by obtain⟨t,rfl⟩:=k 0 u n rfl rfl;exact .cons n t (zOK us ns (by simpa using h) fun j v m e1 e2=>k (j+1) v m (by simpa using e1) (by simpa using e2))
theorem zJD{X:Cx}(hc:X.calm=true):zBE X (.builtin "sorted") (fun vs H Q=>∃(p:Addr) (kvs:List (Key×V)) (ns:yA),vs=[.ref p]/\H p=some (.dK kvs)/\kvs.map (·.1)=ns.map Sum.inl/\ns.length<64/\∀(l:Addr) (ms:yA),H l=none->ms.Perm ns->ms.Pairwise (·<=·)->Q (.ref l) (upd H l (.lst (ms.map V.int)))):=by
 intro pins s σ H xs us Q I r h;obtain⟨p,kvs,ns,rfl,hp,hk,hn,q⟩:=h;obtain⟨u,rfl,ru⟩:=zDe r;cases ru;obtain⟨hz,lo,vs,kv,dd⟩:=zPe I.hok hp;obtain⟨ep,hat⟩:=dd.dictAt;have hl:vs.length=ns.length:=by rw[<- Paired.length kv,<- qA0 (f:=(·.1)),hk,qA0]
 refine zIN hn (fun A E R hA hR=>W.kdu_collect (W.kdl_dict (knd:=zAu X.prog X.w) (kvs:=vs) (ep:=ep) lo) hA hat (by rw[hl,sizeLine_eq];omega) fun h' tk acc hk2 hacc=>hR h' tk s.drawn _ ns hk2 ?_ (.refl _)) (I.ok.hd hc) fun h2 l2 h3 tk3 dr e us ms k2 k3 le g3 hi hpm hw=>?_
 ·refine zOK _ _ (by rw[Array.length_toList,hacc.1,hl]) fun j v n e1 e2=>?_;obtain⟨k,x,e3,e4⟩:∃k x,vs[j]?=some (k,x)/\(zAu X.prog X.w).is k v=true:=hacc.2 j v (by rw[<- Array.getElem?_toList];exact e1);obtain⟨q1,e5,e6,_⟩:=zMn kv e3;have e7:(kvs.map (·.1))[j]?=some k:=by rw[qC1,e5];exact congrArg some e6
  rw[hk,qC1,e2]at e7;cases e7;cases v<;>first|exact absurd e4 qB0|skip
  rename_i i t;have:i=n:=by simpa[zAu,zKr,Value.isInt]using e4
  subst this;exact⟨t,rfl⟩
 ·have I2:Inv X pins σ H { s with heap:=h2,toks:=tk3,drawn:=dr }:=(I.kept (t':=tk3) fun b o e=>k2 b o e).dr dr;refine⟨.ref l2,_,I2.laid (t':=tk3) (o:=.lst (ms.map V.int)) k3 le ?_,rfl,q _ _ (I2.hok.fresh le) hpm hw⟩;have hl2:ms.length<64:=by rw[hpm.length_eq];exact hn
  exact⟨by rw[qA0];exact qD3 (qH1 hl2) (by decide),us,e,zGf hi,by simpa[seqObj]using g3⟩
open PySem PySem.Spec PyProof.Rows
structure Swo(lt:Keyed->Keyed->Bool):Prop where
 as:∀x y,lt x y=true->lt y x=false
 tr:∀x y z,lt y x=false->lt z y=false->lt z x=false
theorem Swo.flip{lt:Keyed->Keyed->Bool}(h:Swo lt):Swo fun x y=>lt y x :=
 ⟨fun x y e=>h.as y x e,fun x y z a b=>h.tr z y x b a⟩
theorem Swo.rf{lt:Keyed->Keyed->Bool}(h:Swo lt)(x:Keyed):lt x x=false:=by
 cases e:lt x x with
 |false=>rfl
 |true=>exact e.symm.trans (h.as x x e)
abbrev Srt(lt:Keyed->Keyed->Bool)(l:yI):Prop:=l.Pairwise fun x y=>lt y x=false
structure MrgI(lt:Keyed->Keyed->Bool)(a b ra rb out:yI):Prop where
 pm:(out++(ra++rb)).Perm (a++b)
 so:Srt lt out
 sa:Srt lt ra
 sb:Srt lt rb
 la:∀x∈out,∀y∈ra,lt y x=false
 lb:∀x∈out,∀y∈rb,lt y x=false
section
variable {lt:Keyed->Keyed->Bool}{a b ra rb out xs:yI}{x:Keyed}
theorem MrgI.swap(h:MrgI lt a b ra rb out):MrgI lt b a rb ra out :=
 ⟨((List.Perm.refl out).append qI2).trans (h.pm.trans qI2),h.so,h.sb,h.sa,h.lb,h.la⟩
theorem MrgI.push(h:MrgI lt a b (xs++ra) rb out)(k:∀x∈xs,∀y∈rb,lt y x=false):MrgI lt a b ra rb (out++xs):=by
 obtain⟨pm,so,sa,sb,la,lb⟩:=h;obtain⟨s1,s2,s3⟩:=qC5.mp sa;refine⟨?_,qC5.mpr ⟨so,s1,fun x hx y hy=>la x hx y (qC7 _ hy)⟩,s2,sb,fun x hx y hy=>?_,fun x hx y hy=>?_⟩
 ·simpa[qC2]using pm
 ·rcases qB2.mp hx with hx|hx
  ·exact la x hx y (qC3 _ hy)
  ·exact s3 x hx y hy
 ·rcases qB2.mp hx with hx|hx
  ·exact lb x hx y hy
  ·exact k x hx y hy
structure Mg(lt:Keyed->Keyed->Bool)(a b out:yI):Prop where
 pm:out.Perm (a++b)
 so:Srt lt out
theorem MrgI.fin(h:MrgI lt a b ra [] out):Mg lt a b (out++ra) :=
 ⟨by simpa using h.pm,qC5.mpr ⟨h.so,h.sa,h.la⟩⟩
theorem MrgI.last(h:MrgI lt a b [x] rb out)(k:∀y∈rb,lt x y=false):Mg lt a b (out++rb++[x]):=by
 refine⟨?_,qC5.mpr ⟨qC5.mpr ⟨h.so,h.sb,h.lb⟩,qF0 ..,fun u hu v hv=>?_⟩⟩
 ·rw[qC2];exact((List.Perm.refl out).append qI2).trans h.pm
 ·have e:=qA7.mp hv;subst e;rcases qB2.mp hu with hu|hu
  ·exact h.la u hu v (qD7 _)
  ·exact k u hu
theorem Srt.rev(h:Srt (fun x y=>lt y x) out):Srt lt out.reverse:=qJ8.mpr h
end
noncomputable def gallop':Bool->Keyed->Array Keyed->Nat->Nat->Nat->StateT SortSt Sem (yK):=sortPriv% PySem.Builtin.gallop
noncomputable def mergeLo':Array Keyed->Array Keyed->StateT SortSt Sem (Array Keyed):=sortPriv% PySem.Builtin.mergeLo
noncomputable def mergeHi':Array Keyed->Array Keyed->StateT SortSt Sem (Array Keyed):=sortPriv% PySem.Builtin.mergeHi
noncomputable def bq(lt:Keyed->Keyed->Bool)(left:Bool)(key x:Keyed):Bool:=if left then lt x key else !lt key x
def Asks(prog:Program)(w:World)(A:Around)(s:Shared)(κ:SortKind)(lt:Keyed->Keyed->Bool)(G:Keyed->Prop):Prop :=
 ∀x y,G x->G y->∀Q:Bool->Shared->Prop,Q (lt x y) s->wpAny (model prog w) A (keyLt' κ x.1 y.1) Q (fun _ _=>False) s
section
variable {prog:Program}{w:World}{A:Around}{E:yL}{s:Shared}{κ:SortKind}{lt:Keyed->Keyed->Bool}{G:Keyed->Prop}{st:SortSt}
theorem zNA{x y:Keyed}{Q:Option Bool->SortSt->Prop}(hA:Asks prog w A s κ lt G)(hk:kindOf st=κ)(hx:G x)(hy:G y)(h:Q (some (lt x y)) st):wpS (model prog w) A E s (lt' x y) Q st:=by rw[lt'_eq];refine wpS_bind (wpS_get ?_);rw[hk];refine wpS_bind (wpS_lift (wpAny_attempt (wpAny_mono (hA x y hx hy (fun b s'=>s'=s/\b=lt x y) ⟨rfl,rfl⟩) (fun b s' e=>?_) fun _ _ x=>x.elim)));obtain⟨rfl,rfl⟩:=e;exact⟨rfl,wpS_pure h⟩
theorem zAo{arr:Array Keyed}{i:Nat}{x:Keyed}{Q:Keyed->SortSt->Prop}(hx:arr[i]?=some x)(h:Q x st):wpS (model prog w) A E s (elem' arr i) Q st:=by rw[elem'_eq,hx];exact wpS_pure h
theorem zUU{left:Bool}{key x:Keyed}{arr:Array Keyed}{i:Nat}{Q:Option Bool->SortSt->Prop}(hA:Asks prog w A s κ lt G)(hk:kindOf st=κ)(hx:arr[i]?=some x)(gx:G x)(gk:G key)(h:Q (some (bq lt left key x)) st):
  wpS (model prog w) A E s (do let x <- elem' arr i;if left then lt' x key else return (<- lt' key x).map (!·)) Q st:=by
 refine wpS_bind (zAo hx ?_);cases left with
 |true=>exact zNA hA hk gx gk h
 |false=>exact wpS_bind (zNA hA hk gk gx (wpS_pure h))
def GalI(P:Nat->Bool)(n x:Nat)(c:Option (yK)×Nat×Nat)(st' st:SortSt):Prop:=st'=st/\∃lo hi,c=(none,lo,hi)/\lo<=hi/\hi<=n/\hi - lo<=n - x/\(∀i,i<lo->P i=true)/\(∀i,hi<=i->i<n->P i=false)
theorem zP0{P:Nat->Bool}{n:Nat}{B:Nat->StateT SortSt Sem (Option Bool)}(bey:∀{i:Nat}{R:Option Bool->SortSt->Prop},i<n->R (some (P i)) st->wpS (model prog w) A E s (B i) R st)
  {c:Option (yK)×Nat×Nat} (h:GalI P n 0 c st st) (hm:∀i j,i<=j->j<n->P j=true->P i=true) :
  wpS (model prog w) A E s (forIn [:n] c fun _ c=>if c.2.1≥c.2.2 then pure (ForInStep.done (none,c.2.1,c.2.2))else B (c.2.1+(c.2.2 - c.2.1) / 2) >>= fun r=>match r with
   |some more=>if more=true then pure (ForInStep.yield (none,c.2.1+(c.2.2 - c.2.1) / 2+1,c.2.2))else pure (ForInStep.yield (none,c.2.1,c.2.1+(c.2.2 - c.2.1) / 2))
   | _=>pure (ForInStep.done (some none,c.2.1,c.2.2)))
   (fun c st'=>st'=st/\∃k,c=(none,k,k)/\k<=n/\(∀i,i<k->P i=true)/\(∀i,k<=i->i<n->P i=false)) st:=by
 refine wpS_forRange (I:=fun x c st'=>GalI P n x c st' st) ?_ ?_ h
 ·rintro x c st' _ hx ⟨rfl,lo,hi,rfl,h1,h2,h3,h4,h5⟩;dsimp only;by_cases hge:lo≥hi
  ·rw[if_pos hge];have e:lo=hi:=by omega
   subst e;exact wpS_pure ⟨rfl,lo,rfl,h2,h4,h5⟩
  ·rw[if_neg hge];refine wpS_bind (bey (i:=lo+(hi - lo) / 2) (by omega) ?_);cases e:P (lo+(hi - lo) / 2)with
   |true=>exact wpS_pure ⟨rfl,_,_,rfl,by omega,h2,by omega,fun i hi'=>hm i _ (by omega) (by omega) e,h5⟩
   |false =>
    refine wpS_pure ⟨rfl,_,_,rfl,by omega,by omega,by omega,h4,fun i h6 h7=>?_⟩;cases e2:P i with
    |false=>rfl
    |true=>rw[hm _ i h6 h7 e2]at e;cases e
 ·rintro c st' ⟨rfl,lo,hi,rfl,h1,h2,h3,h4,h5⟩;have e:lo=hi:=by omega
  subst e;exact⟨rfl,lo,rfl,h2,h4,h5⟩
theorem zRo{left:Bool}{key:Keyed}{arr:Array Keyed}{base n hint:Nat}{Q:yK->SortSt->Prop}(P:Nat->Bool)(hA:Asks prog w A s κ lt G)(hk:kindOf st=κ)(gk:G key)(hh:hint<n)
  (hp:∀i,i<n->∃x,arr[base+i]?=some x/\G x/\bq lt left key x=P i) (hm:∀i j,i<=j->j<n->P j=true->P i=true)
  (h:∀k,k<=n->(∀i,i<k->P i=true)->(∀i,k<=i->i<n->P i=false)->Q (some k) st) :
  wpS (model prog w) A E s (gallop' left key arr base n hint) Q st:=by
 have bey:∀{i:Nat}{R:Option Bool->SortSt->Prop},i<n->R (some (P i)) st->wpS (model prog w) A E s (do let x <- elem' arr (base+i);if left then lt' x key else return (<- lt' key x).map (!·)) R st:=by intro i R hi hR;obtain⟨x,hx,gx,e⟩:=hp i hi;exact zUU hA hk hx gx gk (by rw[e];exact hR)
 refine wpS_bind (bey hh ?_);dsimp only;have fn:∀{lo hi:Nat},lo<=hi->hi<=n->(∀i,i<lo->P i=true)->(∀i,hi<=i->i<n->P i=false)->GalI P n 0 (none,lo,hi) st st:=fun a b c d=>⟨rfl,_,_,rfl,a,b,by omega,c,d⟩
 cases hr:P hint with
 |true =>
  simp only[if_true];refine wpS_bind (wpS_mono (wpS_forRange (I:=fun x c st'=>st'=st/\∃l o,c=(none,l,o)/\l<o/\hint+l<n/\x+1<=o/\P (hint+l)=true)
   (Q:=fun c st'=>st'=st/\∃l o,c=(none,l,o)/\l<o/\hint+l<n/\P (hint+l)=true/\(n - hint<=o∨hint+o<n/\P (hint+o)=false)) ?_ ?_ ⟨rfl,0,1,rfl,by omega,by omega,by omega,hr⟩) ?_)
  ·rintro x c st' _ hx ⟨rfl,l,o,rfl,h1,h2,h3,h4⟩;dsimp only;by_cases hge:o≥n - hint
   ·rw[if_pos hge];exact wpS_pure ⟨rfl,l,o,rfl,h1,h2,h4,.inl hge⟩
   ·rw[if_neg hge];refine wpS_bind (bey (i:=hint+o) (by omega) ?_);cases e:P (hint+o)with
    |true=>exact wpS_pure ⟨rfl,o,2*o+1,rfl,by omega,by omega,by omega,e⟩
    |false=>exact wpS_pure ⟨rfl,l,o,rfl,h1,h2,h4,.inr ⟨by omega,e⟩⟩
  ·rintro c st' ⟨rfl,l,o,rfl,h1,h2,h3,h4⟩;exact⟨rfl,l,o,rfl,h1,h2,h4,.inl (by omega)⟩
  ·rintro c st' ⟨rfl,l,o,rfl,h1,h2,h4,h5⟩;dsimp only;refine wpS_bind (wpS_mono (zP0 (bey:=bey) (hm:=hm) (fn (lo:=hint+l+1) (hi:=hint+min o (n - hint)) (by omega) (by omega) (fun i hi=>hm i (hint+l) (by omega) h2 h4) fun i h6 h7=>?_)) ?_)
   ·rcases h5 with h5|⟨h8,h9⟩
    ·omega
    ·cases e:P i with
     |false=>rfl
     |true=>rw[hm (hint+o) i (by omega) h7 e]at h9;cases h9
   ·rintro c st' ⟨rfl,k,rfl,a1,a2,a3⟩;exact wpS_pure (h k a1 a2 a3)
 |false =>
  simp only[qE6,if_false];refine wpS_bind (wpS_mono (wpS_forRange (I:=fun x c st'=>st'=st/\∃l o,c=(none,l,o)/\l<o/\l<=hint/\x+1<=o/\P (hint - l)=false)
   (Q:=fun c st'=>st'=st/\∃l o,c=(none,l,o)/\l<o/\l<=hint/\P (hint - l)=false/\(hint+1<=o∨o<=hint/\P (hint - o)=true)) ?_ ?_ ⟨rfl,0,1,rfl,by omega,by omega,by omega,hr⟩) ?_)
  ·rintro x c st' _ hx ⟨rfl,l,o,rfl,h1,h2,h3,h4⟩;dsimp only;by_cases hge:o≥hint+1
   ·rw[if_pos hge];exact wpS_pure ⟨rfl,l,o,rfl,h1,h2,h4,.inl hge⟩
   ·rw[if_neg hge];refine wpS_bind (bey (i:=hint - o) (by omega) ?_);cases e:P (hint - o)with
    |false=>exact wpS_pure ⟨rfl,o,2*o+1,rfl,by omega,by omega,by omega,e⟩
    |true=>exact wpS_pure ⟨rfl,l,o,rfl,h1,h2,h4,.inr ⟨by omega,e⟩⟩
  ·rintro c st' ⟨rfl,l,o,rfl,h1,h2,h3,h4⟩;exact⟨rfl,l,o,rfl,h1,h2,h4,.inl (by omega)⟩
  ·rintro c st' ⟨rfl,l,o,rfl,h1,h2,h4,h5⟩;dsimp only;refine wpS_bind (wpS_mono (zP0 (bey:=bey) (hm:=hm) (fn (lo:=hint+1 - min o (hint+1)) (hi:=hint - l) (by omega) (by omega) (fun i hi=>?_) fun i h6 h7=>?_)) ?_)
   ·rcases h5 with h5|⟨h8,h9⟩
    ·omega
    ·exact hm i (hint - o) (by omega) (by omega) h9
   ·cases e:P i with
    |false=>rfl
    |true=>rw[hm (hint - l) i (by omega) h7 e]at h4;cases h4
   ·rintro c st' ⟨rfl,k,rfl,a1,a2,a3⟩;exact wpS_pure (h k a1 a2 a3)
end
open PySem PySem.Spec PyProof.Rows
structure Sg(st st':SortSt):Prop where
 k:kindOf st'=kindOf st
 a:arrOf st'=arrOf st
 p:pendingOf st'=pendingOf st
 f:failedOf st'=failedOf st
theorem Sg.rfl(st:SortSt):Sg st st:=⟨Eq.refl _,Eq.refl _,Eq.refl _,Eq.refl _⟩
section
variable {lt:Keyed->Keyed->Bool}{a b ra rb out xs:yI}{x:Keyed}
theorem zId(a:yI)(i:Nat):(a.toArray.extract i a.toArray.size).toList=a.drop i:=by simp only[List.extract_toArray,qA9,List.extract_eq_take_drop];exact qF7 (by simp)
theorem zLU(a:yI)(i j:Nat):(a.toArray.extract i j).toList=(a.drop i).take (j - i):=by simp
theorem zIf{a:yI}{i:Nat}(h:i<a.length):a.drop i=[a[i]]++a.drop (i+1):=qF9 h
theorem zUe{a:yI}{i j:Nat}(h:i<=j):a.drop i=(a.drop i).take (j - i)++a.drop j:=by
 conv=>lhs;rw[<- qD4 (j - i) (a.drop i)]
 rw[qP5];congr 2;omega
end
theorem zEB{lt:Keyed->Keyed->Bool}{b:yI}{i:Nat}{x:Keyed}(hO:Swo lt)(sb:Srt lt b)(hi:i<b.length)(h:lt b[i] x=false):∀y∈b.drop i,lt y x=false:=by
 intro y hy;rw[zIf hi]at hy;rcases qB2.mp hy with hy|hy
 ·rw[qA7.mp hy];exact h
 ·have s1:Srt lt ([b[i]]++b.drop (i+1)):=by rw[<- zIf hi];exact sb.sublist (qH5 ..)
  exact hO.tr x b[i] y h ((qC5.mp s1).2.2 _ (qD7 _) y hy)
section
variable {lt:Keyed->Keyed->Bool}{a b:yI}{ia ib k:Nat}{out:Array Keyed}
theorem zWq(h:MrgI lt a b (a.drop ia) (b.drop ib) out.toList)(h1:ia<=a.length)(h2:ib<=b.length):out.size=ia+ib:=by have e:=h.pm.length_eq;simp at e;omega
theorem zG5(h:MrgI lt a b (a.drop ia) (b.drop ib) out.toList)(e:ib=b.length∨ia=a.length):Mg lt a b (out++a.toArray.extract ia a.toArray.size++b.toArray.extract ib b.toArray.size).toList:=by
 rw[Array.toList_append,Array.toList_append,zId,zId];rcases e with rfl|rfl
 ·rw[qM3]at h ⊢;simpa using h.fin
 ·rw[qM3]at h ⊢;have:=h.swap.fin;exact⟨by simpa using this.pm.trans qI2,by simpa using this.so⟩
theorem zI1(h:MrgI lt a b (a.drop ia) (b.drop ib) out.toList)(e:ia+1=a.length)(hl:∀y∈b,lt (a[a.length - 1]'(by omega)) y=false):Mg lt a b (out++b.toArray.extract ib b.toArray.size++a.toArray.extract ia a.toArray.size).toList:=by
 rw[Array.toList_append,Array.toList_append,zId,zId];have e1:a.drop ia=[a[a.length - 1]'(by omega)]:=by rw[zIf (by omega),List.drop_of_length_le (by omega),qH6];congr 2;omega
 rw[e1]at h ⊢;exact h.last fun y hy=>hl y (qH3 hy)
theorem lo_a(h:MrgI lt a b (a.drop ia) (b.drop ib) out.toList)(i1:ia<a.length)(k:∀y∈b.drop ib,lt y a[ia]=false):MrgI lt a b (a.drop (ia+1)) (b.drop ib) (out.push a[ia]).toList:=by rw[zIf i1]at h;rw[Array.toList_push];exact h.push fun x hx=>by rw[qA7.mp hx];exact k
theorem zWr(h:MrgI lt a b (a.drop ia) (b.drop ib) out.toList)(hk:ia+k<=a.length)(q:∀i,(hi:i<k)->∀y∈b.drop ib,lt y (a[ia+i]'(by omega))=false):MrgI lt a b (a.drop (ia+k)) (b.drop ib) (out++a.toArray.extract ia (ia+k)).toList:=by
 rw[zUe (show ia<=ia+k by omega)]at h;rw[Array.toList_append,zLU];refine h.push fun x hx=>?_;obtain⟨i,hi,e⟩:=qH4.mp hx;have hi':i<k:=by simp at hi;omega
 rw[<- e];simpa using q i hi'
end
section
variable {lt:Keyed->Keyed->Bool}{a b:yI}{ia ib k:Nat}{out:Array Keyed}
theorem lo_b(h:MrgI lt a b (a.drop ia) (b.drop ib) out.toList)(i1:ib<b.length)(k:∀y∈a.drop ia,lt y b[ib]=false):MrgI lt a b (a.drop ia) (b.drop (ib+1)) (out.push b[ib]).toList :=
 (lo_a h.swap i1 k).swap
theorem zZk(h:MrgI lt a b (a.drop ia) (b.drop ib) out.toList)(hk:ib+k<=b.length)(q:∀i,(hi:i<k)->∀y∈a.drop ia,lt y (b[ib+i]'(by omega))=false):MrgI lt a b (a.drop ia) (b.drop (ib+k)) (out++b.toArray.extract ib (ib+k)).toList :=
 (zWr h.swap hk q).swap
structure Wl(lt:Keyed->Keyed->Bool)(a b:yI)(ia ib:Nat)(out:Array Keyed):Prop where
 m:MrgI lt a b (a.drop ia) (b.drop ib) out.toList
 i:ia+1<a.length
 j:ib<b.length
theorem zRp(hO:Swo lt)(sa:Srt lt a)(left:Bool)(key:Keyed){i j:Nat}(hij:i<=j)(hj:j<a.length)(h:bq lt left key a[j]=true):bq lt left key (a[i]'(by omega))=true:=by
 rcases qQ2 hij with hlt|rfl
 ·have e:=qK4.mp sa i j (by omega) hj hlt;cases left with
  |true =>
   show lt a[i] key=true;cases e2:lt a[i] key with
   |true=>rfl
   |false=>exact(hO.tr key a[i] a[j] e2 e).symm.trans h
  |false =>
   have h':lt key a[j]=false:=by simpa[bq]using h
   show(!lt key a[i])=true;rw[hO.tr a[i] a[j] key e h'];rfl
 ·exact h
end
section
variable {prog:Program}{w:World}{A:Around}{E:yL}{s:Shared}{κ:SortKind}{lt:Keyed->Keyed->Bool}{G:Keyed->Prop}{st:SortSt}
noncomputable def setG':Nat->StateT SortSt Sem Unit:=sortPriv% PySem.Builtin.setMinGallop
theorem zNz{g:Nat}{Q:Unit->SortSt->Prop}(h:∀st',Sg st st'->Q () st'):wpS (model prog w) A E s (setG' g) Q st :=
 wpS_modify (h _ ⟨rfl,rfl,rfl,rfl⟩)
theorem Sg.trans{st st' st'':SortSt}(h:Sg st st')(k:Sg st' st''):Sg st st'':=⟨k.k.trans h.k,k.a.trans h.a,k.p.trans h.p,k.f.trans h.f⟩
theorem zHw{left:Bool}{key:Keyed}{a:yI}{base n hint:Nat}{Q:yK->SortSt->Prop}(hO:Swo lt)(hA:Asks prog w A s κ lt G)(hk:kindOf st=κ)(gk:G key)(ga:∀x∈a,G x)(sa:Srt lt ((a.drop base).take n))(hn:base+n<=a.length)(hh:hint<n)
  (h:∀k,k<=n->(∀i,(hi:i<k)->(hn':i<n)->bq lt left key (a[base+i]'(by omega))=true)->(∀i,k<=i->(hi:i<n)->bq lt left key (a[base+i]'(by omega))=false)->Q (some k) st) :
  wpS (model prog w) A E s (gallop' left key a.toArray base n hint) Q st:=by
 have ge:∀i,(hi:i<n)->((a.drop base).take n)[i]'(by simp;omega)=a[base+i]'(by omega):=fun i hi=>by simp
 refine zRo (P:=fun i=>if hi:i<n then bq lt left key (a[base+i]'(by omega))else false) hA hk gk hh (fun i hi=>⟨a[base+i]'(by omega),by rw[qD5];exact qA5 (by omega),ga _ (qE3 _),by simp[hi]⟩) (fun i j hij hj hp=>?_) fun k hk1 hk2 hk3=>h k hk1 (fun i hi hn'=>?_) fun i hi hn'=>?_
 ·have hi:i<n:=by omega
  simp only[hi,hj,dif_pos]at hp ⊢;rw[<- ge j hj]at hp;rw[<- ge i hi];exact zRp hO sa left key hij (by simp;omega) hp
 ·have:=hk2 i hi;simpa[hn']using this
 ·have:=hk3 i hi hn';simpa[hn']using this
theorem zQU{a b:yI}{Q:Array Keyed->SortSt->Prop}(hO:Swo lt)(hA:Asks prog w A s κ lt G)(hk:kindOf st=κ)(ga:∀x∈a,G x)(gb:∀x∈b,G x)(sa:Srt lt a)(sb:Srt lt b)
  (ha:0<a.length) (hb:0<b.length) (h0:∀x∈a,lt x b[0]=false) (hl:∀y∈b,lt (a[a.length - 1]'(by omega)) y=false)
  (h:∀out st',Sg st st'->Mg lt a b out.toList->Q out st'):wpS (model prog w) A E s (mergeLo' a.toArray b.toArray) Q st:=by
 refine wpS_bind (wpS_lift (wpAny_rule ⟨rfl,?_⟩));refine wpS_bind (zAo (x:=b[0]) (by simp[hb]) ?_);dsimp only;have m0:MrgI lt a b (a.drop 0) (b.drop 0) (#[]:Array Keyed).toList:=⟨by simp,.nil,by simpa using sa,by simpa using sb,fun x hx=>(by simp at hx),fun x hx=>(by simp at hx)⟩
 have m1:MrgI lt a b (a.drop 0) (b.drop 1) (#[b[0]]:Array Keyed).toList:=lo_b m0 hb fun y hy=>h0 y (by simpa using hy);by_cases e1:(1 == b.toArray.size)=true
 ·rw[if_pos e1];exact wpS_pure (h _ _ (.rfl _) (zG5 m1 (.inl (by simpa using e1))))
 rw[if_neg e1];by_cases e2:(0+1 == a.toArray.size)=true
 ·rw[if_pos e2];exact wpS_pure (h _ _ (.rfl _) (zI1 m1 (by simpa using e2) hl))
 rw[if_neg e2];have w1:Wl lt a b 0 1 #[b[0]]:=⟨m1,by simp at e2;omega,by simp at e1;omega⟩
 refine wpS_bind (wpS_get ?_);refine wpS_bind (wpS_mono (wpS_forRange (I:=fun x c st'=>∃out ia ib g,c=(none,out,ia,ib,g)/\Sg st st'/\Wl lt a b ia ib out/\x+1<=out.size)
  (Q:=fun c st'=>∃r o,c=(some r,o)/\Sg st st'/\Mg lt a b r.toList) ?_ ?_ ⟨_,_,_,_,rfl,.rfl _,w1,by simp⟩) ?_)
 ·rintro x c st1 _ hx ⟨out,ia,ib,g,rfl,hs,W,hsz⟩;dsimp only;have hk1:kindOf st1=κ:=hs.k.trans hk;refine wpS_bind (wpS_mono (wpS_forRange (I:=fun y c st'=>∃out ia ib p q,c=(none,out,ia,ib,p,q)/\st'=st1/\Wl lt a b ia ib out/\x+1+y<=out.size)
   (Q:=fun c st'=>st'=st1/\((∃r o,c=(some r,o)/\Mg lt a b r.toList)∨∃out ia ib p q,c=(none,out,ia,ib,p,q)/\Wl lt a b ia ib out/\x+2<=out.size)) ?_ ?_ ⟨_,_,_,_,_,rfl,rfl,W,by omega⟩) ?_)
  ·rintro y c st2 _ hy ⟨out,ia,ib,p,q,rfl,rfl,W,hsz⟩;dsimp only;have i1:=W.i;have j1:=W.j;refine wpS_bind (zAo (x:=b[ib]) (by simp[j1]) (wpS_bind (zAo (x:=a[ia]) (by rw[qD5];exact qA5 (by omega)) (wpS_bind (zNA hA hk1 (gb _ (qE3 _)) (ga _ (qE3 _)) ?_)))));cases e:lt b[ib] a[ia]with
   |true =>
    refine wpS_bind (zAo (x:=b[ib]) (by simp[j1]) ?_);have m2:=lo_b W.m j1 (zEB hO sa (by omega) (hO.as _ _ e));by_cases e3:(ib+1 == b.toArray.size)=true
    ·rw[if_pos e3];exact wpS_pure ⟨rfl,.inl ⟨_,_,rfl,zG5 m2 (.inl (by simpa using e3))⟩⟩
    rw[if_neg e3];have w2:Wl lt a b ia (ib+1) (out.push b[ib]):=⟨m2,i1,by simp at e3;omega⟩
    split
    ·exact wpS_pure ⟨rfl,.inr ⟨_,_,_,_,_,rfl,w2,by simp;omega⟩⟩
    ·exact wpS_pure ⟨_,_,_,_,_,rfl,rfl,w2,by simp;omega⟩
   |false =>
    refine wpS_bind (zAo (x:=a[ia]) (by rw[qD5];exact qA5 (by omega)) ?_);have m2:=lo_a W.m (by omega) (zEB hO sb j1 e);by_cases e3:(ia+1+1 == a.toArray.size)=true
    ·rw[if_pos e3];exact wpS_pure ⟨rfl,.inl ⟨_,_,rfl,zI1 m2 (by simpa using e3) hl⟩⟩
    rw[if_neg e3];have w2:Wl lt a b (ia+1) ib (out.push a[ia]):=⟨m2,by simp at e3;omega,j1⟩
    split
    ·exact wpS_pure ⟨rfl,.inr ⟨_,_,_,_,_,rfl,w2,by simp;omega⟩⟩
    ·exact wpS_pure ⟨_,_,_,_,_,rfl,rfl,w2,by simp;omega⟩
  ·rintro c st2 ⟨out,ia,ib,p,q,rfl,rfl,W,hsz⟩;exact⟨rfl,.inr ⟨_,_,_,_,_,rfl,W,by simp at hsz;omega⟩⟩
  rintro c st2 ⟨rfl,⟨r,o,rfl,hr⟩| ⟨out,ia,ib,p,q,rfl,W,hsz⟩⟩
  ·exact wpS_pure ⟨r,_,rfl,hs,hr⟩
  dsimp only;refine wpS_bind (wpS_lift (wpAny_rule ⟨rfl,?_⟩));refine wpS_bind (wpS_mono (wpS_forRange (I:=fun y c st'=>∃out ia ib g p q,c=(none,out,ia,ib,g,p,q)/\Sg st st'/\Wl lt a b ia ib out/\x+2<=out.size)
   (Q:=fun c st'=>Sg st st'/\((∃r o,c=(some r,o)/\Mg lt a b r.toList)∨∃out ia ib g p q,c=(none,out,ia,ib,g,p,q)/\Wl lt a b ia ib out/\x+2<=out.size)) ?_ ?_ ⟨_,_,_,_,_,_,rfl,hs,W,hsz⟩) ?_)
  ·rintro y c st3 _ hy ⟨out,ia,ib,g,p,q,rfl,hs3,W,hsz⟩;dsimp only;have i1:=W.i;have j1:=W.j;by_cases hg:g>1
   case' pos=>rw[if_pos hg]
   case' neg=>rw[if_neg hg]
   all_goals
    refine wpS_bind (zNz fun st4 s4=>?_);have hs4:=hs3.trans s4;have hk4:kindOf st4=κ:=hs4.k.trans hk;refine wpS_bind (zAo (x:=b[ib]) (by simp[j1]) ?_);refine wpS_bind (zHw hO hA hk4 (gb _ (qE3 _)) ga (sa.sublist ((qG5 ..).trans (qH5 ..))) (by simp;omega) (by simp;omega) fun k k1 k2 k3=>?_);simp only[qA9]at k1 k2 k3;dsimp only;have mk:MrgI lt a b (a.drop (ia+k)) (b.drop ib) (out++a.toArray.extract ia (ia+k)).toList :=
     zWr W.m (by omega) fun i hi=>zEB hO sb j1 (by simpa[bq]using k2 i hi (by omega))
    have ck:ia+k<a.length->∀y∈a.drop (ia+k),lt y b[ib]=false:=fun hl=>zEB hO sa hl (hO.as _ _ (by simpa[bq]using k3 k (qB1 _) (by omega)));by_cases hk0:k>0
    case' pos =>
     rw[if_pos hk0];by_cases e3:(ia+k+1 == a.toArray.size)=true
     case pos=>rw[if_pos e3];exact wpS_pure ⟨hs4,.inl ⟨_,_,rfl,zI1 mk (by simpa using e3) hl⟩⟩
     rw[if_neg e3];by_cases e4:(ia+k == a.toArray.size)=true
     case pos=>rw[if_pos e4];exact wpS_pure ⟨hs4,.inl ⟨_,_,rfl,zG5 mk (.inr (by simpa using e4))⟩⟩
     rw[if_neg e4];have i2:ia+k+1<a.length:=by simp at e3 e4;omega
     have ck:=ck (by omega);have hz:x+2<=(out++a.toArray.extract ia (ia+k)).size:=by rw[Array.size_append];omega
     generalize out++a.toArray.extract ia (ia+k)=out at mk hz ⊢;generalize ia+k=ia2 at mk i2 ck ⊢
    case' neg =>
     rw[if_neg hk0];have i2:ia+1<a.length:=i1;have ck:∀y∈a.drop ia,lt y b[ib]=false:=by
      have e0:k=0:=by omega
      subst e0;exact ck (by omega)
     have mk:=W.m;have hz:=hsz;generalize ia=ia2 at mk i2 ck ⊢
    all_goals
     clear k1 k2 k3 W i1 hsz;refine wpS_bind (zAo (x:=b[ib]) (by simp[j1]) ?_);have m3:=lo_b mk j1 ck;by_cases e5:(ib+1 == b.toArray.size)=true
     case pos=>rw[if_pos e5];exact wpS_pure ⟨hs4,.inl ⟨_,_,rfl,zG5 m3 (.inl (by simpa using e5))⟩⟩
     rw[if_neg e5];have j2:ib+1<b.length:=by simp at e5;omega
     refine wpS_bind (zAo (x:=a[ia2]) (by rw[qD5];exact qA5 (by omega)) ?_);refine wpS_bind (zHw hO hA hk4 (ga _ (qE3 _)) gb (sb.sublist ((qG5 ..).trans (qH5 ..))) (by simp;omega) (by simp;omega) fun k k1 k2 k3=>?_);simp only[qA9]at k1 k2 k3;dsimp only;have mk2:MrgI lt a b (a.drop ia2) (b.drop (ib+1+k)) ((Array.push _ b[ib])++b.toArray.extract (ib+1) (ib+1+k)).toList :=
      zZk m3 (by omega) fun i hi=>zEB hO sa (by omega) (hO.as _ _ (by simpa[bq]using k2 i hi (by omega)))
     have ck2:ib+1+k<b.length->∀y∈b.drop (ib+1+k),lt y a[ia2]=false:=fun hl=>zEB hO sb hl (by simpa[bq]using k3 k (qB1 _) (by omega));by_cases hk1:k>0
     case' pos =>
      rw[if_pos hk1];by_cases e6:(ib+1+k == b.toArray.size)=true
      case pos=>rw[if_pos e6];exact wpS_pure ⟨hs4,.inl ⟨_,_,rfl,zG5 mk2 (.inl (by simpa using e6))⟩⟩
      rw[if_neg e6];have j3:ib+1+k<b.length:=by simp at e6;omega
      have m4:=lo_a mk2 (by omega) (ck2 j3)
     case' neg =>
      rw[if_neg hk1];have e0:k=0:=by omega
      subst e0;have j3:=j2;have m4:=lo_a m3 (by omega) (ck2 j3)
     all_goals
      refine wpS_bind (zAo (x:=a[ia2]) (by rw[qD5];exact qA5 (by omega)) ?_);by_cases e7:(ia2+1+1 == a.toArray.size)=true
      case pos=>rw[if_pos e7];exact wpS_pure ⟨hs4,.inl ⟨_,_,rfl,zI1 m4 (by simpa using e7) hl⟩⟩
      rw[if_neg e7];have w5:Wl lt a b (ia2+1) _ _:=⟨m4,by simp at e7;omega,j3⟩
      split
      ·exact wpS_pure ⟨hs4,.inr ⟨_,_,_,_,_,_,rfl,w5,by simp;omega⟩⟩
      ·exact wpS_pure ⟨_,_,_,_,_,_,rfl,hs4,w5,by simp;omega⟩
  ·rintro c st2 ⟨out,ia,ib,g,p,q,rfl,hs3,W,hsz⟩;exact⟨hs3,.inr ⟨_,_,_,_,_,_,rfl,W,hsz⟩⟩
  rintro c st3 ⟨hs3,⟨r,o,rfl,hr⟩| ⟨out,ia,ib,g,p,q,rfl,W,hsz⟩⟩
  ·exact wpS_pure ⟨r,_,rfl,hs3,hr⟩
  dsimp only;exact wpS_bind (wpS_modify (wpS_pure ⟨_,_,_,_,rfl,⟨hs3.k,hs3.a,hs3.p,hs3.f⟩,W,by omega⟩))
 ·rintro c st1 ⟨out,ia,ib,g,rfl,hs,W,hsz⟩;have:=zWq W.m (by have:=W.i;omega) (by have:=W.j;omega);have:=W.i;have:=W.j;simp at hsz;omega
 ·rintro c st1 ⟨r,o,rfl,hs,hr⟩;exact wpS_pure (h r st1 hs hr)
end
open PySem PySem.Spec PyProof.Rows
section
variable {lt:Keyed->Keyed->Bool}{a b:yI}{na nb t:Nat}{out:Array Keyed}
theorem zND(h:na - 1<a.length)(h0:0<na):(a.take na).reverse=[a[na - 1]]++(a.take (na - 1)).reverse:=by
 obtain⟨m,rfl⟩:∃m,na=m+1:=⟨na - 1,by omega⟩
 simp only[qQ3]at h ⊢;rw[List.take_succ_eq_append_getElem h,qP8];rfl
theorem zSG(h:t<=na):(a.take na).reverse=((a.drop t).take (na - t)).reverse++(a.take t).reverse:=by
 rw[<- qP8];congr 1;rw[<- List.drop_take]
 conv=>lhs;rw[<- qD4 t (a.take na)]
 rw[List.take_take,qO8 h]
abbrev MH(lt:Keyed->Keyed->Bool)(a b:yI)(na nb:Nat)(out:Array Keyed):Prop:=MrgI (fun x y=>lt y x) a b (a.take na).reverse (b.take nb).reverse out.toList
theorem zGN{x:Keyed}(hO:Swo lt)(sb:Srt lt b)(hi:nb - 1<b.length)(h:lt x b[nb - 1]=false):∀y∈(b.take nb).reverse,lt x y=false:=by
 intro y hy;rcases Nat.eq_zero_or_pos nb with rfl|h0
 ·simp at hy
 ·have s1:Srt lt (b.take nb):=sb.sublist (qG5 ..);have s2:(b.take nb).reverse.Pairwise fun x y=>lt x y=false:=qJ8.mpr s1;rw[zND hi h0]at hy s2;rcases qB2.mp hy with hy|hy
  ·rw[qA7.mp hy];exact h
  ·exact hO.tr y b[nb - 1] x ((qC5.mp s2).2.2 _ (qD7 _) y hy) h
theorem zRu(a:yI)(j:Nat):(a.toArray.extract 0 j).toList=a.take j:=by simp
theorem zWT(h:MH lt a b na nb out)(h1:na<=a.length)(h2:nb<=b.length):out.size+na+nb=a.length+b.length:=by have e:=h.pm.length_eq;simp at e;omega
theorem Mg.rev{o:yI}(h:Mg (fun x y=>lt y x) a b o):Mg lt a b o.reverse:=⟨o.reverse_perm.trans h.pm,h.so.rev⟩
theorem Mg.comm{o:yI}(h:Mg lt b a o):Mg lt a b o:=⟨h.pm.trans qI2,h.so⟩
theorem zGp(h:MH lt a b na nb out)(e:na=0∨nb=0):Mg lt a b (a.toArray.extract 0 na++b.toArray.extract 0 nb++out.reverse).toList:=by
 rw[Array.toList_append,Array.toList_append,zRu,zRu,Array.toList_reverse];rcases e with rfl|rfl
 ·have:=(MrgI.fin (ra:=(b.take nb).reverse) (by simpa using h.swap)).rev.comm;simpa using this
 ·unfold MH at h;have:=(MrgI.fin (ra:=(a.take na).reverse) (by simpa using h)).rev;simpa using this
theorem zFC(h:MH lt a b na nb out)(e:nb=1)(hb:0<b.length)(h0:∀x∈a,lt x b[0]=false):Mg lt a b (b.toArray.extract 0 nb++a.toArray.extract 0 na++out.reverse).toList:=by
 rw[Array.toList_append,Array.toList_append,zRu,zRu,Array.toList_reverse];subst e;have e1:b.take 1=[b[0]]:=by
  cases b with
  |nil=>simp at hb
  |cons x b=>simp
 have h':=h.swap;rw[e1]at h' ⊢;have:=(MrgI.last h' fun y hy=>h0 y (qG4 (qJ2.mp hy))).rev.comm;simpa using this
theorem hi_a(h:MH lt a b na nb out)(i1:na - 1<a.length)(i0:0<na)(k:∀y∈(b.take nb).reverse,lt a[na - 1] y=false):MH lt a b (na - 1) nb (out.push a[na - 1]):=by unfold MH at h ⊢;rw[zND i1 i0]at h;rw[Array.toList_push];exact h.push fun x hx=>by rw[qA7.mp hx];exact k
theorem zWU(h:MH lt a b na nb out)(ht:t<=na)(hn:na<=a.length)(q:∀i,t<=i->(hi:i<na)->∀y∈(b.take nb).reverse,lt (a[i]'(by omega)) y=false):MH lt a b t nb (out++(a.toArray.extract t na).reverse):=by
 unfold MH at h ⊢;rw[zSG ht]at h;rw[Array.toList_append,Array.toList_reverse,zLU];refine h.push fun x hx=>?_;obtain⟨i,hi,e⟩:=qH4.mp (qJ2.mp hx);have hi':t+i<na:=by simp at hi;omega
 rw[<- e];simpa using q (t+i) (by omega) hi'
end
section
variable {lt:Keyed->Keyed->Bool}{a b:yI}{na nb t:Nat}{out:Array Keyed}
theorem hi_b(h:MH lt a b na nb out)(i1:nb - 1<b.length)(i0:0<nb)(k:∀y∈(a.take na).reverse,lt b[nb - 1] y=false):MH lt a b na (nb - 1) (out.push b[nb - 1]) :=
 MrgI.swap (hi_a (MrgI.swap h) i1 i0 k)
theorem zZv(h:MH lt a b na nb out)(ht:t<=nb)(hn:nb<=b.length)(q:∀i,t<=i->(hi:i<nb)->∀y∈(a.take na).reverse,lt (b[i]'(by omega)) y=false):MH lt a b na t (out++(b.toArray.extract t nb).reverse) :=
 MrgI.swap (zWU (MrgI.swap h) ht hn q)
structure Wh(lt:Keyed->Keyed->Bool)(a b:yI)(na nb:Nat)(out:Array Keyed):Prop where
 m:MH lt a b na nb out
 i:0<na
 j:1<nb
 i':na<a.length
 j':nb<=b.length
end
section
variable {prog:Program}{w:World}{A:Around}{E:yL}{s:Shared}{κ:SortKind}{lt:Keyed->Keyed->Bool}{G:Keyed->Prop}{st:SortSt}
theorem zQV{a b:yI}{Q:Array Keyed->SortSt->Prop}(hO:Swo lt)(hA:Asks prog w A s κ lt G)(hk:kindOf st=κ)(ga:∀x∈a,G x)(gb:∀x∈b,G x)(sa:Srt lt a)(sb:Srt lt b)
  (ha:0<a.length) (hb:0<b.length) (h0:∀x∈a,lt x b[0]=false) (hl:∀y∈b,lt (a[a.length - 1]'(by omega)) y=false)
  (h:∀out st',Sg st st'->Mg lt a b out.toList->Q out st'):wpS (model prog w) A E s (mergeHi' a.toArray b.toArray) Q st:=by
 have geA:∀i,(hi:i<a.length)->a.toArray[i]?=some a[i]:=fun i hi=>by rw[qD5];exact qA5 hi
 have geB:∀i,(hi:i<b.length)->b.toArray[i]?=some b[i]:=fun i hi=>by rw[qD5];exact qA5 hi
 refine wpS_bind (wpS_lift (wpAny_rule ⟨rfl,?_⟩))
 (try dsimp only)
 rw[show a.toArray.size=a.length from rfl,show b.toArray.size=b.length from rfl];refine wpS_bind (zAo (geA (a.length - 1) (by omega)) ?_)
 (try dsimp only)
 have m0:MH lt a b a.length b.length #[]:=by
  refine⟨?_,.nil,?_,?_,fun x hx=>(by simp at hx),fun x hx=>(by simp at hx)⟩
  ·simpa using(a.reverse_perm.append b.reverse_perm)
  ·rw[qK0];exact qJ8.mpr sa
  ·rw[qK0];exact qJ8.mpr sb
 have m1:MH lt a b (a.length - 1) b.length #[a[a.length - 1]]:=hi_a m0 (by omega) ha fun y hy=>hl y (qG4 (qJ2.mp hy));by_cases e1:(a.length - 1 == 0)=true
 ·rw[if_pos e1];exact wpS_pure (h _ _ (.rfl _) (zGp m1 (.inl (by simpa using e1))))
 rw[if_neg e1];by_cases e2:(b.length == 1)=true
 ·rw[if_pos e2];exact wpS_pure (h _ _ (.rfl _) (zFC m1 (by simpa using e2) hb h0))
 rw[if_neg e2];have w1:Wh lt a b (a.length - 1) b.length #[a[a.length - 1]]:=⟨m1,by simp at e1;omega,by simp at e2;omega,by omega,by omega⟩
 refine wpS_bind (wpS_get ?_);refine wpS_bind (wpS_mono (wpS_forRange (I:=fun x c st'=>∃na nb out g,c=(none,na,nb,out,g)/\Sg st st'/\Wh lt a b na nb out/\x+1<=out.size)
  (Q:=fun c st'=>∃r o,c=(some r,o)/\Sg st st'/\Mg lt a b r.toList) ?_ ?_ ⟨_,_,_,_,rfl,.rfl _,w1,by simp⟩) ?_)
 ·rintro x c st1 _ hx ⟨na,nb,out,g,rfl,hs,W,hsz⟩;dsimp only;have hk1:kindOf st1=κ:=hs.k.trans hk;refine wpS_bind (wpS_mono (wpS_forRange (I:=fun y c st'=>∃na nb out p q,c=(none,na,nb,out,p,q)/\st'=st1/\Wh lt a b na nb out/\x+1+y<=out.size)
   (Q:=fun c st'=>st'=st1/\((∃r o,c=(some r,o)/\Mg lt a b r.toList)∨∃na nb out p q,c=(none,na,nb,out,p,q)/\Wh lt a b na nb out/\x+2<=out.size)) ?_ ?_ ⟨_,_,_,_,_,rfl,rfl,W,by omega⟩) ?_)
  ·rintro y c st2 _ hy ⟨na,nb,out,p,q,rfl,rfl,⟨m,i1,j1,i2,j2⟩,hsz⟩;dsimp only;refine wpS_bind (zAo (geB (nb - 1) (by omega)) (wpS_bind (zAo (geA (na - 1) (by omega)) (wpS_bind (zNA hA hk1 (gb _ (qE3 _)) (ga _ (qE3 _)) ?_)))));cases e:lt b[nb - 1] a[na - 1]with
   |true =>
    refine wpS_bind (zAo (geA (na - 1) (by omega)) ?_);have m2:=hi_a m (by omega) i1 (zGN hO sb (by omega) (hO.as _ _ e));by_cases e3:(na - 1 == 0)=true
    ·rw[if_pos e3];exact wpS_pure ⟨rfl,.inl ⟨_,_,rfl,zGp m2 (.inl (by simpa using e3))⟩⟩
    rw[if_neg e3];have w2:Wh lt a b (na - 1) nb (out.push a[na - 1]):=⟨m2,by simp at e3;omega,j1,by omega,j2⟩
    split
    ·exact wpS_pure ⟨rfl,.inr ⟨_,_,_,_,_,rfl,w2,by simp;omega⟩⟩
    ·exact wpS_pure ⟨_,_,_,_,_,rfl,rfl,w2,by simp;omega⟩
   |false =>
    refine wpS_bind (zAo (geB (nb - 1) (by omega)) ?_);have m2:=hi_b m (by omega) (by omega) (zGN hO sa (by omega) e);by_cases e3:(nb - 1 == 1)=true
    ·rw[if_pos e3];exact wpS_pure ⟨rfl,.inl ⟨_,_,rfl,zFC m2 (by simpa using e3) hb h0⟩⟩
    rw[if_neg e3];have w2:Wh lt a b na (nb - 1) (out.push b[nb - 1]):=⟨m2,i1,by simp at e3;omega,i2,by omega⟩
    split
    ·exact wpS_pure ⟨rfl,.inr ⟨_,_,_,_,_,rfl,w2,by simp;omega⟩⟩
    ·exact wpS_pure ⟨_,_,_,_,_,rfl,rfl,w2,by simp;omega⟩
  ·rintro c st2 ⟨na,nb,out,p,q,rfl,rfl,W,hsz⟩;exact⟨rfl,.inr ⟨_,_,_,_,_,rfl,W,by simp at hsz;omega⟩⟩
  rintro c st2 ⟨rfl,⟨r,o,rfl,hr⟩| ⟨na,nb,out,p,q,rfl,W,hsz⟩⟩
  ·exact wpS_pure ⟨r,_,rfl,hs,hr⟩
  dsimp only;refine wpS_bind (wpS_lift (wpAny_rule ⟨rfl,?_⟩));refine wpS_bind (wpS_mono (wpS_forRange (I:=fun y c st'=>∃na nb out g p q,c=(none,na,nb,out,g,p,q)/\Sg st st'/\Wh lt a b na nb out/\x+2<=out.size)
   (Q:=fun c st'=>Sg st st'/\((∃r o,c=(some r,o)/\Mg lt a b r.toList)∨∃na nb out g p q,c=(none,na,nb,out,g,p,q)/\Wh lt a b na nb out/\x+2<=out.size)) ?_ ?_ ⟨_,_,_,_,_,_,rfl,hs,W,hsz⟩) ?_)
  ·rintro y c st3 _ hy ⟨na,nb,out,g,p,q,rfl,hs3,⟨m,i1,j1,i2,j2⟩,hsz⟩;dsimp only;by_cases hg:g>1
   case' pos=>rw[if_pos hg]
   case' neg=>rw[if_neg hg]
   all_goals
    refine wpS_bind (zNz fun st4 s4=>?_);have hs4:=hs3.trans s4;have hk4:kindOf st4=κ:=hs4.k.trans hk;refine wpS_bind (zAo (geB (nb - 1) (by omega)) ?_);refine wpS_bind (zHw hO hA hk4 (gb _ (qE3 _)) ga (sa.sublist ((qG5 ..).trans (qH5 ..))) (by omega) (by omega) fun k k1 k2 k3=>?_);simp only[qN2]at k2 k3;dsimp only;have mk:MH lt a b k nb (out++(a.toArray.extract k na).reverse):=zWU m k1 (by omega) fun i hi1 hi=>zGN hO sb (by omega) (hO.as _ _ (by simpa[bq]using k3 i hi1 hi));have ck:0<k->∀y∈(a.take k).reverse,lt b[nb - 1] y=false:=fun hl=>zGN hO sa (by omega) (by simpa[bq]using k2 (k - 1) (by omega) (by omega));by_cases hk0:na - k>0
    case' pos =>
     rw[if_pos hk0];by_cases e3:(k == 0)=true
     case pos=>rw[if_pos e3];exact wpS_pure ⟨hs4,.inl ⟨_,_,rfl,zGp mk (.inl (by simpa using e3))⟩⟩
     rw[if_neg e3];have i3:0<k:=by simp at e3;omega
     have i4:k<a.length:=by omega
     have ck:=ck i3;have hz:x+2<=(out++(a.toArray.extract k na).reverse).size:=by rw[Array.size_append];omega
     generalize out++(a.toArray.extract k na).reverse=out at mk hz ⊢;clear k1 k2 k3;generalize hd:na - k=d;clear hd hk0;generalize k=na2 at mk i3 i4 ck ⊢
    case' neg =>
     rw[if_neg hk0];have e0:k=na:=by omega
     subst e0;have i3:=i1;have i4:=i2;have ck:=ck i1;have mk:=m;have hz:=hsz;clear k1 k2 k3 hk0;generalize hd:k - k=d;clear hd;generalize k=na2 at mk i3 i4 ck ⊢
    all_goals
     clear m hsz;refine wpS_bind (zAo (geB (nb - 1) (by omega)) ?_);have m3:=hi_b mk (by omega) (by omega) ck;by_cases e5:(nb - 1 == 1)=true
     case pos=>rw[if_pos e5];exact wpS_pure ⟨hs4,.inl ⟨_,_,rfl,zFC m3 (by simpa using e5) hb h0⟩⟩
     rw[if_neg e5];have j3:1<nb - 1:=by simp at e5;omega
     refine wpS_bind (zAo (geA (na2 - 1) (by omega)) ?_);refine wpS_bind (zHw hO hA hk4 (ga _ (qE3 _)) gb (sb.sublist ((qG5 ..).trans (qH5 ..))) (by omega) (by omega) fun k k1 k2 k3=>?_);simp only[qN2]at k2 k3;dsimp only;have mk2:MH lt a b na2 k ((Array.push _ b[nb - 1])++(b.toArray.extract k (nb - 1)).reverse) :=
      zZv m3 k1 (by omega) fun i hi1 hi=>zGN hO sa (by omega) (by simpa[bq]using k3 i hi1 hi)
     have ck2:0<k->∀y∈(b.take k).reverse,lt a[na2 - 1] y=false:=fun hl=>zGN hO sb (by omega) (hO.as _ _ (by simpa[bq]using k2 (k - 1) (by omega) (by omega)));by_cases hk1:nb - 1 - k>0
     case' pos =>
      rw[if_pos hk1];by_cases e6:(k == 1)=true
      case pos=>rw[if_pos e6];exact wpS_pure ⟨hs4,.inl ⟨_,_,rfl,zFC mk2 (by simpa using e6) hb h0⟩⟩
      rw[if_neg e6];by_cases e8:(k == 0)=true
      case pos=>rw[if_pos e8];exact wpS_pure ⟨hs4,.inl ⟨_,_,rfl,zGp mk2 (.inr (by simpa using e8))⟩⟩
      rw[if_neg e8];have j4:1<k:=by simp at e6 e8;omega
      have j5:k<=b.length:=by omega
      have m4:=hi_a mk2 (by omega) i3 (ck2 (by omega))
     case' neg =>
      rw[if_neg hk1];have e0:k=nb - 1:=by omega
      subst e0;have j4:=j3;have j5:nb - 1<=b.length:=by omega
      have m4:=hi_a m3 (by omega) i3 (ck2 (by omega))
     all_goals
      refine wpS_bind (zAo (geA (na2 - 1) (by omega)) ?_);by_cases e7:(na2 - 1 == 0)=true
      case pos=>rw[if_pos e7];exact wpS_pure ⟨hs4,.inl ⟨_,_,rfl,zGp m4 (.inl (by simpa using e7))⟩⟩
      rw[if_neg e7];have w5:Wh lt a b (na2 - 1) _ _:=⟨m4,by simp at e7;omega,j4,by omega,j5⟩
      split
      ·exact wpS_pure ⟨hs4,.inr ⟨_,_,_,_,_,_,rfl,w5,by simp;omega⟩⟩
      ·exact wpS_pure ⟨_,_,_,_,_,_,rfl,hs4,w5,by simp;omega⟩
  ·rintro c st2 ⟨na,nb,out,g,p,q,rfl,hs3,W,hsz⟩;exact⟨hs3,.inr ⟨_,_,_,_,_,_,rfl,W,hsz⟩⟩
  rintro c st3 ⟨hs3,⟨r,o,rfl,hr⟩| ⟨na,nb,out,g,p,q,rfl,W,hsz⟩⟩
  ·exact wpS_pure ⟨r,_,rfl,hs3,hr⟩
  dsimp only;exact wpS_bind (wpS_modify (wpS_pure ⟨_,_,_,_,rfl,⟨hs3.k,hs3.a,hs3.p,hs3.f⟩,W,by omega⟩))
 ·rintro c st1 ⟨na,nb,out,g,rfl,hs,W,hsz⟩;have:=zWT W.m (by have:=W.i';omega) W.j';have:=W.i;have:=W.j;simp at hsz;omega
 ·rintro c st1 ⟨r,o,rfl,hs,hr⟩;exact wpS_pure (h r st1 hs hr)
end
open PySem PySem.Spec PyProof.Rows
noncomputable abbrev Pend:=Nat×Nat×Nat
noncomputable abbrev SS(κ:SortKind)(l:yI)(p:List Pend)(g:Nat):SortSt:=SortSt.mk' κ l.toArray p.toArray g none
theorem Sg.ss{κ:SortKind}{l:yI}{p:List Pend}{g:Nat}{st':SortSt}(h:Sg (SS κ l p g) st'):∃g',st'=SS κ l p g':=by obtain⟨k,a,b,c⟩:=h;cases st';cases k;cases a;cases b;cases c;exact⟨_,Eq.refl _⟩
theorem zSw{M:Model}{A:Around}{E:yL}{s:Shared}{σ:Type}{Q:PUnit->σ->Prop}{st st2:σ}(h:Q ⟨⟩ st2):wpS M A E s (set st2:StateT σ Sem PUnit) Q st:=by unfold wpS;rw[StateT.run_set];exact wpAny_pure ⟨rfl,h⟩
theorem zQE(p1 p2:List Pend)(u v z:Pend):((p1++u::v::p2).toArray.setIfInBounds p1.length z).eraseIdxIfInBounds (p1.length+1)=(p1++z::p2).toArray:=by apply Array.ext';rw[Array.eraseIdxIfInBounds_eq];simp[List.eraseIdx_append_of_length_le]
theorem zSu(pre M post:yI):∀(N:yI) (i:Nat) (pr:yI),pr.length=pre.length+i->N.length=M.length ->
  (M.zipIdx i).foldl (fun(a:Array Keyed) (q:Keyed×Nat)=>a.setIfInBounds (pre.length+q.2) q.1) (pr++(N++post)).toArray=(pr++(M++post)).toArray:=by
 induction M with
 |nil=>intro N i pr h1 h2;have:N=[]:=qF3.mp h2;subst this;rfl
 |cons m M ih =>
  intro N i pr h1 h2;cases N with
  |nil=>simp at h2
  |cons n N =>
   rw[qR5,List.foldl_cons];have e:((pr++(n::N++post)).toArray.setIfInBounds (pre.length+i) m)=((pr++[m])++(N++post)).toArray:=by rw[<- h1];apply Array.ext';simp
   show List.foldl _ ((pr++(n::N++post)).toArray.setIfInBounds (pre.length+i) m) _=_;rw[e,ih N (i+1) (pr++[m]) (by simp;omega) (by simpa using h2)];simp
theorem zZn{lt:Keyed->Keyed->Bool}{X Y M:yI}{k n:Nat}{y0 xl:Keyed}(hO:Swo lt)(sx:Srt lt X)(sy:Srt lt Y)(h0:∀y∈Y,lt y y0=false)(hl:∀x∈X,lt xl x=false)
  (c1:∀x∈X.take k,lt y0 x=false) (c2:∀y∈Y.drop n,lt y xl=false) (hM:Mg lt (X.drop k) (Y.take n) M):Mg lt X Y (X.take k++(M++Y.drop n)):=by
 have sX:Srt lt (X.take k++X.drop k):=by rw[qD4];exact sx
 have sY:Srt lt (Y.take n++Y.drop n):=by rw[qD4];exact sy
 obtain⟨x1,x2,x3⟩:=qC5.mp sX;obtain⟨y1,y2,y3⟩:=qC5.mp sY;refine⟨?_,qC5.mpr ⟨x1,qC5.mpr ⟨hM.so,y2,fun m hm y hy=>?_⟩,fun x hx m hm=>?_⟩⟩
 ·have e:X++Y=X.take k++(X.drop k++Y.take n++Y.drop n):=by rw[qC2,qD4,<- qC2,qD4]
  rw[e];exact(List.Perm.refl _).append (hM.pm.append (List.Perm.refl _))
 ·rcases qB2.mp (hM.pm.mem_iff.mp hm)with hm|hm
  ·exact hO.tr m xl y (hl m (qH3 hm)) (c2 y hy)
  ·exact y3 m hm y hy
 ·have q:∀y∈Y,lt y x=false:=fun y hy=>hO.tr x y0 y (c1 x hx) (h0 y hy);rcases qB2.mp hm with hm|hm
  ·rcases qB2.mp (hM.pm.mem_iff.mp hm)with hm|hm
   ·exact x3 x hx m hm
   ·exact q m (qG4 hm)
  ·exact q m (qH3 hm)
theorem zE2{l:yI}{n:Nat}{x:Keyed}(h:x∈l.take n):∃i,∃hi:i<l.length,i<n/\l[i]=x:=by obtain⟨i,hi,e⟩:=qH4.mp h;refine⟨i,by simp at hi;omega,by simp at hi;omega,by simpa using e⟩
theorem zE4{l:yI}{n:Nat}{x:Keyed}(h:x∈l.drop n):∃i,∃hi:i<l.length,n<=i/\l[i]=x:=by obtain⟨i,hi,e⟩:=qH4.mp h;refine⟨n+i,by simp at hi;omega,by omega,by simpa using e⟩
theorem zOW{lt:Keyed->Keyed->Bool}{l:yI}(hO:Swo lt)(sl:Srt lt l)(h:0<l.length):∀y∈l,lt y l[0]=false:=fun y hy=>zEB hO sl h (hO.rf _) y (by simpa using hy)
theorem zI4{lt:Keyed->Keyed->Bool}{l:yI}(hO:Swo lt)(sl:Srt lt l)(h:0<l.length):∀y∈l,lt (l[l.length - 1]'(by omega)) y=false:=fun y hy=>zGN (nb:=l.length) hO sl (by omega) (hO.rf _) y (by simpa using hy)
section
variable {prog:Program}{w:World}{A:Around}{E:yL}{s:Shared}{κ:SortKind}{lt:Keyed->Keyed->Bool}{G:Keyed->Prop}{st:SortSt}
theorem zQX{pre X Y post:yI}{p1 p2:List Pend}{pw q g i sb:Nat}{Q:Bool->SortSt->Prop}(hO:Swo lt)(hA:Asks prog w A s κ lt G)(gl:∀x∈pre++(X++(Y++post)),G x)(sx:Srt lt X)(sy:Srt lt Y)(hx:0<X.length)(hy:0<Y.length)(hsb:sb=pre.length+X.length)(hi:i=p1.length)
  (h:∀Z g',Mg lt X Y Z->Q true (SS κ (pre++(Z++post)) (p1++(pre.length,X.length+Y.length,pw)::p2) g')) :
  wpS (model prog w) A E s (mergeAt' i) Q (SS κ (pre++(X++(Y++post))) (p1++(pre.length,X.length,pw)::(sb,Y.length,q)::p2) g):=by
 subst hi hsb;have ga:∀j x,(pre++(X++(Y++post)))[j]?=some x->(pre++(X++(Y++post))).toArray[j]?=some x:=fun j x e=>by rw[qD5];exact e
 refine wpS_bind (wpS_get ?_);have e1:(p1++(pre.length,X.length,pw)::(pre.length+X.length,Y.length,q)::p2).toArray[p1.length]?=some (pre.length,X.length,pw):=by simp
 have e2:(p1++(pre.length,X.length,pw)::(pre.length+X.length,Y.length,q)::p2).toArray[p1.length+1]?=some (pre.length+X.length,Y.length,q):=by simp
 dsimp only[SS];rw[e1,e2];dsimp only;rw[zQE];refine wpS_bind (zSw ?_);have gY:∀j,(hj:j<Y.length)->(pre++(X++(Y++post)))[pre.length+X.length+j]?=some Y[j]:=fun j hj=>by rw[qA1 (by omega),qA1 (by omega),qA8 (by omega),<- qA5 hj];congr 1;omega
 have gX:∀j,(hj:j<X.length)->(pre++(X++(Y++post)))[pre.length+j]?=some X[j]:=fun j hj=>by rw[qA1 (by omega),qA8 (by omega),<- qA5 hj];congr 1;omega
 have hlen:(pre++(X++(Y++post))).length=pre.length+X.length+Y.length+post.length:=by simp;omega
 have gY':∀j,(hj:j<Y.length)->(pre++(X++(Y++post)))[pre.length+X.length+j]'(by omega)=Y[j]:=fun j hj=>(qA2.mp (gY j hj)).2;have gX':∀j,(hj:j<X.length)->(pre++(X++(Y++post)))[pre.length+j]'(by omega)=X[j]:=fun j hj=>(qA2.mp (gX j hj)).2;have dX:((pre++(X++(Y++post))).drop pre.length).take X.length=X:=by simp
 have dY:((pre++(X++(Y++post))).drop (pre.length+X.length)).take Y.length=Y:=by rw[<- qC2,<- qB3];simp
 have inl:∀x∈X,G x:=fun x hx=>gl x (by simp[hx]);have inr:∀x∈Y,G x:=fun x hx=>gl x (by simp[hx]);have fin:∀g',Mg lt X Y (X++Y)->Q true (SS κ (pre++(X++(Y++post))) (p1++(pre.length,X.length+Y.length,pw)::p2) g'):=fun g' hm=>by have:=h (X++Y) g' hm;rwa[qC2]at this
 refine wpS_bind (zAo (ga (pre.length+X.length) Y[0] (gY 0 hy)) ?_);refine wpS_bind (zHw hO hA rfl (inr _ (qE3 _)) gl (by rw[dX];exact sx) (by omega) hx fun k k1 k2 k3=>?_);dsimp only;have c1:∀x∈X.take k,lt Y[0] x=false:=fun x hx=>by obtain⟨i,hi,hik,rfl⟩:=zE2 hx;have:=k2 i hik hi;rw[gX' i hi]at this;simpa[bq]using this
 have h0:=zOW hO sy hy;have hl:=zI4 hO sx hx;by_cases e3:(X.length - k == 0)=true
 ·rw[if_pos e3];have hk:X.length<=k:=by simp at e3;omega
  refine wpS_pure (fin _ ⟨.refl _,qC5.mpr ⟨sx,sy,fun x hx' y hy'=>hO.tr x Y[0] y (c1 x ?_) (h0 y hy')⟩⟩);rw[qF7 hk];exact hx'
 rw[if_neg e3];have hk:k<X.length:=by simp at e3;omega
 rw[show pre.length+k+(X.length - k) - 1=pre.length+(X.length - 1) by omega];refine wpS_bind (zAo (ga _ (X[X.length - 1]) (gX (X.length - 1) (by omega))) ?_);refine wpS_bind (zHw hO hA rfl (inl _ (qE3 _)) gl (by rw[dY];exact sy) (by omega) (by omega) fun n n1 n2 n3=>?_);dsimp only;have c2:∀y∈Y.drop n,lt y X[X.length - 1]=false:=fun y hy'=>by obtain⟨i,hi,hik,rfl⟩:=zE4 hy';have:=n3 i hik hi;rw[gY' i hi]at this;simpa[bq]using this
 by_cases e4:(n == 0)=true
 ·rw[if_pos e4];have hn:n=0:=by simpa using e4
  subst hn;exact wpS_pure (fin _ ⟨.refl _,qC5.mpr ⟨sx,sy,fun x hx' y hy'=>hO.tr x _ y (hl x hx') (c2 y (by simpa using hy'))⟩⟩)
 rw[if_neg e4];have hn:0<n:=by simp at e4;omega
 have x2:(pre++(X++(Y++post))).toArray.extract (pre.length+k) (pre.length+X.length)=(X.drop k).toArray:=by apply Array.ext';rw[zLU,<- qP5];simp only[qS8];rw[List.drop_append_of_le_length (by omega),qM6 (by simp;omega)];exact qF7 (by simp;omega)
 have y1:(pre++(X++(Y++post))).toArray.extract (pre.length+X.length) (pre.length+X.length+n)=(Y.take n).toArray:=by apply Array.ext';rw[zLU,<- qP5];simp only[qS8];rw[show pre.length+X.length+n - (pre.length+X.length)=n by omega,qM6 n1]
 rw[x2,y1];have f0:∀x∈X.drop k,lt x ((Y.take n)[0]'(by simp;omega))=false:=fun x hx'=>by
  obtain⟨i,hi,hik,rfl⟩:=zE4 hx';have:=k3 i hik hi;rw[gX' i hi]at this;have e:(Y.take n)[0]'(by simp;omega)=Y[0]:=by simp
  rw[e];exact hO.as _ _ (by simpa[bq]using this)
 have fl:∀y∈Y.take n,lt ((X.drop k)[(X.drop k).length - 1]'(by simp;omega)) y=false:=fun y hy'=>by
  obtain⟨i,hi,hik,rfl⟩:=zE2 hy';have:=n2 i hik hi;rw[gY' i hi]at this;have e:(X.drop k)[(X.drop k).length - 1]'(by simp;omega)=X[X.length - 1]:=by simp only[qL6];congr 1;simp;omega
  rw[e];exact hO.as _ _ (by simpa[bq]using this)
 have after:∀(out:Array Keyed) g',Mg lt (X.drop k) (Y.take n) out.toList->Q true (SS κ (pre++((X.take k++(out.toList++Y.drop n))++post)) (p1++(pre.length,X.length+Y.length,pw)::p2) g'):=fun out g' hm=>h _ g' (zZn hO sx sy h0 hl c1 c2 hm);have fo:∀(out:Array Keyed),Mg lt (X.drop k) (Y.take n) out.toList->out.toList.zipIdx.foldl (fun(a:Array Keyed) (x:Keyed×Nat)=>a.setIfInBounds (pre.length+k+x.2) x.1) (pre++(X++(Y++post))).toArray=(pre++((X.take k++(out.toList++Y.drop n))++post)).toArray:=fun out hm=>by
  have e:=zSu (pre++X.take k) out.toList (Y.drop n++post) (X.drop k++Y.take n) 0 (pre++X.take k) (by simp) hm.pm.length_eq.symm;have e5:(pre++X.take k).length=pre.length+k:=by simp;omega
  have e6:pre++X.take k++(X.drop k++Y.take n++(Y.drop n++post))=pre++(X++(Y++post)):=by
   conv=>rhs;rw[<- qD4 k X,<- qD4 n Y]
   simp only[qC2]
  have e7:pre++X.take k++(out.toList++(Y.drop n++post))=pre++((X.take k++(out.toList++Y.drop n))++post):=by simp only[qC2]
  rw[e5,e6,e7]at e;exact e
 by_cases hc:X.length - k<=n
 case' pos =>
  rw[if_pos hc];refine wpS_bind (zQU (a:=X.drop k) (b:=Y.take n) hO hA rfl (fun x hx'=>inl x (qH3 hx')) (fun x hx'=>inr x (qG4 hx')) (sx.sublist (qH5 ..)) (sy.sublist (qG5 ..)) (by simp;omega) (by simp;omega) f0 fl fun out st' hs hm=>?_)
 case' neg =>
  rw[if_neg hc];refine wpS_bind (zQV (a:=X.drop k) (b:=Y.take n) hO hA rfl (fun x hx'=>inl x (qH3 hx')) (fun x hx'=>inr x (qG4 hx')) (sx.sublist (qH5 ..)) (sy.sublist (qG5 ..)) (by simp;omega) (by simp;omega) f0 fl fun out st' hs hm=>?_)
 all_goals
  obtain⟨g',rfl⟩:=hs.ss;refine wpS_bind (wpS_modify (wpS_bind (wpS_get (wpS_pure ?_))));have:=after out g' hm;rw[SS,<- fo out hm]at this;exact this
end
open PySem PySem.Spec PyProof.Rows
theorem zMr(P T U:yI):mirror (P++(T++U)).toArray P.length (P.length+T.length) ((P.length+T.length - P.length) / 2)=(P++(T.reverse++U)).toArray:=by
 apply Array.ext_getElem?;intro k;rw[getElem?_mirror_all (by simp)];simp only[qD5];by_cases h:P.length<=k/\k<P.length+T.length
 ·rw[if_pos h,qA1 (by omega),qA8 (by omega),qA1 (by omega),qA8 (by simp;omega),List.getElem?_reverse (by omega)];congr 1;omega
 ·rw[if_neg h];by_cases h1:k<P.length
  ·rw[qA8 h1,qA8 h1]
  ·rw[qA1 (by omega),qA1 (by omega),qA1 (by omega),qA1 (by simp;omega)];simp
theorem zN9(P T U:yI)(e:Keyed):bubble (P++(T++(e::U))).toArray (P.length+T.length) T.length=(P++(e::(T++U))).toArray:=by
 apply Array.ext_getElem?;intro k;rw[getElem?_bubble (by simp) _ (by omega)];simp only[qD5,qQ3];by_cases h:k=P.length
 ·rw[if_pos h,qA1 (by omega),qA1 (by omega),qA1 (by omega),h];simp
 ·rw[if_neg h];by_cases h1:P.length<k/\k<=P.length+T.length
  ·rw[if_pos h1,qA1 (by omega),qA8 (by omega),qA1 (by omega)];obtain⟨m,rfl⟩:∃m,k=P.length+m+1:=⟨k - P.length - 1,by omega⟩
   rw[show P.length+m+1 - P.length=m+1 by omega,qD6,qA8 (by omega)];congr 1;omega
  ·rw[if_neg h1];by_cases h2:k<P.length
   ·rw[qA8 h2,qA8 h2]
   ·obtain⟨m,rfl⟩:∃m,k=P.length+T.length+m+1:=⟨k - P.length - T.length - 1,by omega⟩
    rw[qA1 (by omega),qA1 (by omega),qA1 (by omega),show P.length+T.length+m+1 - P.length - T.length=m+1 by omega,show P.length+T.length+m+1 - P.length=T.length+m+1 by omega,qD6,qD6,qA1 (by omega)];congr 1;omega
section
variable {prog:Program}{w:World}{A:Around}{E:yL}{s:Shared}{κ:SortKind}{lt:Keyed->Keyed->Bool}{G:Keyed->Prop}{p:List Pend}{g:Nat}
theorem zNB{l:yI}{i j:Nat}{x y:Keyed}{Q:Option Bool->SortSt->Prop}(hA:Asks prog w A s κ lt G)(gl:∀x∈l,G x)(hx:l[i]?=some x)(hy:l[j]?=some y)(h:Q (some (lt x y)) (SS κ l p g)):wpS (model prog w) A E s (ltAt' i j) Q (SS κ l p g):=by rw[ltAt'_eq];refine wpS_bind (wpS_get ?_);refine wpS_bind (zAo (show l.toArray[i]?=some x by rw[qD5];exact hx) (wpS_bind (zAo (show l.toArray[j]?=some y by rw[qD5];exact hy) ?_)));exact zNA hA rfl (gl x (qB4 hx)) (gl y (qB4 hy)) h
theorem zIJ{P T U:yI}{i j:Nat}{Q:Unit->SortSt->Prop}(hi:i=P.length)(hj:j=P.length+T.length)(h:Q () (SS κ (P++(T.reverse++U)) p g)):wpS (model prog w) A E s (reverseSlice' i j) Q (SS κ (P++(T++U)) p g):=by
 subst hi hj;rw[reverseSlice'_eq];refine wpS_modify ?_;have e:setArr (SS κ (P++(T++U)) p g) (mirror (arrOf (SS κ (P++(T++U)) p g)) P.length (P.length+T.length) ((P.length+T.length - P.length) / 2))=SS κ (P++(T.reverse++U)) p g:=by show SortSt.mk' κ (mirror (P++(T++U)).toArray _ _ _) _ _ _=_;rw[zMr]
 rw[e];exact h
theorem zSE{P T U:yI}{e:Keyed}{i j:Nat}{Q:Unit->SortSt->Prop}(hi:i=P.length+T.length)(hj:j=P.length)(h:Q () (SS κ (P++(e::(T++U))) p g)):wpS (model prog w) A E s (moveDown' i j) Q (SS κ (P++(T++(e::U))) p g):=by
 subst hi hj;rw[moveDown'_eq];refine wpS_modify ?_;have e1:setArr (SS κ (P++(T++(e::U))) p g) (bubble (arrOf (SS κ (P++(T++(e::U))) p g)) (P.length+T.length) (P.length+T.length - P.length))=SS κ (P++(e::(T++U))) p g:=by show SortSt.mk' κ (bubble (P++(T++(e::U))).toArray _ _) _ _ _=_;rw[qL0,zN9]
 rw[e1];exact h
theorem zM8{pre D U:yI}{lo n:Nat}{Q:Option (yK)×Nat->SortSt->Prop}(hO:Swo lt)(hA:Asks prog w A s κ lt G)(gl:∀x∈pre++(D++U),G x)(hlo:lo=pre.length)(hn:n=D.length+U.length)(hD:0<D.length)(sD:Srt lt D)
  (h:∀V W,U=V++W->Srt lt (D++V)->(W=[]∨∃e W',W=e::W'/\∃z,(D++V)[(D++V).length - 1]?=some z/\lt e z=true)->Q (none,D.length+V.length) (SS κ (pre++(D++U)) p g)) :
  wpS (model prog w) A E s (forIn [D.length:n] (none,D.length) fun _ (c:Option (yK)×Nat)=>ltAt' (lo+c.2) (lo+c.2 - 1) >>= fun r=>match r with
   |some smaller=>if smaller=true then pure (ForInStep.done (none,c.2))else pure (ForInStep.yield (none,c.2+1))
   | _=>pure (ForInStep.done (some none,c.2))) Q (SS κ (pre++(D++U)) p g):=by
 subst hlo hn;refine wpS_forRange (I:=fun x c st'=>st'=SS κ (pre++(D++U)) p g/\c=(none,x)/\∃V W,U=V++W/\x=D.length+V.length/\Srt lt (D++V)) ?_ ?_ ⟨rfl,rfl,[],U,rfl,rfl,by simpa using sD⟩
 ·rintro x c st' _ hx ⟨rfl,rfl,V,W,rfl,rfl,sV⟩;dsimp only;cases W with
  |nil=>simp at hx
  |cons e W =>
   have hz:(D++V).length - 1<(D++V).length:=by simp;omega
   obtain⟨z,ez⟩:∃z,(D++V)[(D++V).length - 1]?=some z:=⟨_,qA5 hz⟩
   have ez':=ez;rw[qB3]at ez';refine wpS_bind (zNB hA gl (x:=e) (y:=z) ?_ ?_ ?_)
   ·rw[qA1 (by omega),qA1 (by omega),qA1 (by omega)];rw[show pre.length+(D.length+V.length) - pre.length - D.length - V.length=0 by omega];rfl
   ·rw[<- qC2 D,qA1 (by omega),qA8 (by simp;omega),<- ez'];congr 1;omega
   ·cases e1:lt e z with
    |true=>exact wpS_pure (h V (e::W) rfl sV (.inr ⟨e,W,rfl,z,ez,e1⟩))
    |false =>
     refine wpS_pure ⟨rfl,rfl,V++[e],W,by simp,by simp;omega,?_⟩;rw[<- qC2];refine qC5.mpr ⟨sV,qF0 ..,fun u hu v hv=>?_⟩;have:=qA7.mp hv;subst this;have q:=zI4 hO sV (by simp;omega) u hu;rw[<- (qA2.mp ez).2]at e1;exact hO.tr _ _ _ q e1
 ·rintro c st' ⟨rfl,rfl,V,W,rfl,hx,sV⟩;have:W=[]:=by
   cases W with
   |nil=>rfl
   |cons e W=>simp at hx
  subst this;rw[hx];exact h V [] rfl sV (.inl rfl)
end
open PySem PySem.Spec PyProof.Rows
structure Dsc(lt:Keyed->Keyed->Bool)(R D1 T U:yI):Prop where
 pm:(D1++(T++U)).Perm R
 ds:Srt (fun x y=>lt y x) (D1++T)
 t0:0<T.length
 eq:∀u∈T,∀v∈T,lt u v=false
section
variable {lt:Keyed->Keyed->Bool}{R D1 T U:yI}{e t:Keyed}
theorem Dsc.last(h:Dsc lt R D1 T (e::U))(hO:Swo lt)(ht:(D1++T)[(D1++T).length - 1]?=some t)(k:lt t e=false):∀d∈D1++T,lt d e=false:=by intro d hd;have q:=zI4 (lt:=fun x y=>lt y x) hO.flip h.ds (by have:=h.t0;simp;omega) d hd;rw[(qA2.mp ht).2]at q;exact hO.tr e t d k q
theorem Dsc.rev(h:Dsc lt R D1 T U):Srt (fun x y=>lt y x) (D1++T.reverse):=by obtain⟨a,b,c⟩:=qC5.mp h.ds;refine qC5.mpr ⟨a,qL7 fun u hu v hv=>h.eq u (by simpa using hu) v (by simpa using hv),fun x hx y hy=>c x hx y (by simpa using hy)⟩
theorem Dsc.one(h:Dsc lt R D1 T (e::U))(q:∀d∈D1++T,lt d e=false)(hO:Swo lt):Dsc lt R (D1++T) [e] U:=by
 refine⟨by simpa using h.pm,qC5.mpr ⟨h.ds,qF0 ..,fun x hx y hy=>?_⟩,by simp,fun u hu v hv=>?_⟩
 ·rw[qA7.mp hy];exact q x hx
 ·rw[qA7.mp hu,qA7.mp hv];exact hO.rf _
theorem Dsc.oneR(h:Dsc lt R D1 T (e::U))(q:∀d∈D1++T,lt d e=false)(hO:Swo lt):Dsc lt R (D1++T.reverse) [e] U:=by
 refine⟨?_,qC5.mpr ⟨h.rev,qF0 ..,fun x hx y hy=>?_⟩,by simp,fun u hu v hv=>?_⟩
 ·rw[qC2];exact((List.Perm.refl D1).append (T.reverse_perm.append (List.Perm.refl _))).trans h.pm
 ·rw[qA7.mp hy];refine q x ?_;rcases qB2.mp hx with hx|hx
  ·exact qC7 _ hx
  ·exact qC3 _ (by simpa using hx)
 ·rw[qA7.mp hu,qA7.mp hv];exact hO.rf _
theorem Dsc.more(h:Dsc lt R D1 T (e::U))(q:∀d∈D1++T,lt d e=false)(hO:Swo lt)(ht:(D1++T)[(D1++T).length - 1]?=some t)(k:lt e t=false):Dsc lt R D1 (T++[e]) U:=by
 have hT:t∈T:=by rw[qA1 (by have:=h.t0;simp;omega)]at ht;exact qB4 ht
 refine⟨by simpa using h.pm,?_,by simp,?_⟩
 ·rw[<- qC2];exact qC5.mpr ⟨h.ds,qF0 ..,fun x hx y hy=>by rw[qA7.mp hy];exact q x hx⟩
 ·intro u hu v hv;rcases qB2.mp hu with hu|hu<;>rcases qB2.mp hv with hv|hv
  ·exact h.eq u hu v hv
  ·rw[qA7.mp hv];exact q u (qC3 _ hu)
  ·rw[qA7.mp hu];exact hO.tr v t e (h.eq t hT v hv) k
  ·rw[qA7.mp hu,qA7.mp hv];exact hO.rf _
end
section
variable {prog:Program}{w:World}{A:Around}{E:yL}{s:Shared}{κ:SortKind}{lt:Keyed->Keyed->Bool}{G:Keyed->Prop}{p:List Pend}{g:Nat}
def zXy(κ:SortKind)(lt:Keyed->Keyed->Bool)(pre R:yI)(p:List Pend)(g:Nat)(Q:yK->SortSt->Prop):Prop :=
 ∀N W,(N++W).Perm R->0<N.length->Srt lt N->Q (some N.length) (SS κ (pre++(N++W)) p g)
theorem zOZ{pre R R':yI}(gl:∀x∈pre++R,G x)(h:R'.Perm R):∀x∈pre++R',G x:=fun x hx=>gl x (((List.Perm.refl pre).append h).mem_iff.mp hx)
noncomputable def ascL(lo a n:Nat):StateT SortSt Sem (Option (yK)×Nat):=forIn [a:n] (none,a) fun _ (c:Option (yK)×Nat)=>ltAt' (lo+c.2) (lo+c.2 - 1) >>= fun r=>match r with
 |some smaller=>if smaller=true then pure (ForInStep.done (none,c.2))else pure (ForInStep.yield (none,c.2+1))
 |_=>pure (ForInStep.done (some none,c.2))
noncomputable def dscL(lo m n:Nat):StateT SortSt Sem (Option (yK)×Nat×Nat):=forIn [m:n] (none,m,0) fun _ (c:Option (yK)×Nat×Nat)=>ltAt' (lo+c.2.1) (lo+c.2.1 - 1) >>= fun r=>match r with
 |some smaller=>if smaller=true then ite (c.2.2>0) (reverseSlice' (lo+c.2.1 - (c.2.2+1)) (lo+c.2.1) >>= fun _=>pure (ForInStep.yield (none,c.2.1+1,0))) (pure (ForInStep.yield (none,c.2.1+1,0)))
  else ltAt' (lo+c.2.1 - 1) (lo+c.2.1) >>= fun r=>match r with
   |some larger=>if larger=true then pure (ForInStep.done (none,c.2.1,c.2.2))else pure (ForInStep.yield (none,c.2.1+1,c.2.2+1))
   |_=>pure (ForInStep.done (some none,c.2.1,c.2.2))
 |_=>pure (ForInStep.done (some none,c.2.1,c.2.2))
theorem zJt{pre R D1 T U:yI}{lo n:Nat}{Q:Option (yK)×Nat×Nat->SortSt->Prop}(hO:Swo lt)(hA:Asks prog w A s κ lt G)(gl:∀x∈pre++R,G x)(hlo:lo=pre.length)(hn:n=R.length)(hD:Dsc lt R D1 T U)(hT:T.length=1)
  {m:Nat} (hm:m=(D1++T).length) (h:∀D1 T U q,Dsc lt R D1 T U->T.length=q+1->Q (none,(D1++T).length,q) (SS κ (pre++(D1++(T++U))) p g)):wpS (model prog w) A E s (dscL lo m n) Q (SS κ (pre++(D1++(T++U))) p g):=by
 subst hlo hn hm;have lenR:=hD.pm.length_eq;refine wpS_mono (wpS_forRange (I:=fun x c st'=>∃D1 T U q,c=(none,x,q)/\st'=SS κ (pre++(D1++(T++U))) p g/\Dsc lt R D1 T U/\(D1++T).length=x/\T.length=q+1)
  (Q:=fun c st'=>∃D1 T U q,c=(none,(D1++T).length,q)/\st'=SS κ (pre++(D1++(T++U))) p g/\Dsc lt R D1 T U/\T.length=q+1) ?_ ?_ ⟨D1,T,U,0,rfl,rfl,hD,rfl,hT⟩) ?_
 ·rintro x c st' _ hx ⟨D1,T,U,q,rfl,rfl,hD,rfl,hT⟩;dsimp only;have lR:=hD.pm.length_eq;cases U with
  |nil=>simp at lR hx;omega
  |cons e U =>
   have hz:(D1++T).length - 1<(D1++T).length:=by simp;omega
   obtain⟨t,et⟩:∃t,(D1++T)[(D1++T).length - 1]?=some t:=⟨_,qA5 hz⟩
   have g1:(pre++(D1++(T++e::U)))[pre.length+(D1++T).length]?=some e:=by rw[<- qC2 D1,qA1 (by omega),qA1 (by omega),show pre.length+(D1++T).length - pre.length - (D1++T).length=0 by omega];rfl
   have g2:(pre++(D1++(T++e::U)))[pre.length+(D1++T).length - 1]?=some t:=by rw[<- qC2 D1,qA1 (by omega),qA8 (by omega),<- et];congr 1;omega
   have gl':=zOZ gl hD.pm;refine wpS_bind (zNB hA gl' g1 g2 ?_);cases e1:lt e t with
   |true =>
    have q1:=hD.last hO et (hO.as _ _ e1);simp only[if_true];by_cases hq:q>0
    ·rw[if_pos hq];have ea:pre++(D1++(T++e::U))=(pre++D1)++(T++e::U):=by simp
     rw[ea];refine wpS_bind (zIJ (by simp;omega) (by simp;omega) (wpS_pure ⟨D1++T.reverse,[e],U,0,rfl,by simp,hD.oneR q1 hO,by simp;omega,rfl⟩))
    ·rw[if_neg hq];exact wpS_pure ⟨D1++T,[e],U,0,rfl,by simp,hD.one q1 hO,by simp;omega,rfl⟩
   |false =>
    simp only[qE6,if_false];refine wpS_bind (zNB hA gl' g2 g1 ?_);cases e2:lt t e with
    |true=>exact wpS_pure ⟨D1,T,e::U,q,rfl,rfl,hD,hT⟩
    |false=>exact wpS_pure ⟨D1,T++[e],U,q+1,rfl,by simp,hD.more (hD.last hO et e2) hO et e1,by simp;omega,by simp[hT]⟩
 ·rintro c st' ⟨D1,T,U,q,rfl,rfl,hD,hx,hT⟩;exact⟨D1,T,U,q,by rw[hx],rfl,hD,hT⟩
 rintro c st' ⟨D1,T,U,q,rfl,rfl,hD,hT⟩;exact h D1 T U q hD hT
theorem zFG{pre R D U:yI}{lo n a:Nat}{Q:yK->SortSt->Prop}{K:Option (yK)×Nat->StateT SortSt Sem (yK)}(hK:∀m st,Q (some m) st->wpS (model prog w) A E s (K (none,m)) Q st)(hO:Swo lt)(hA:Asks prog w A s κ lt G)(gl:∀x∈pre++R,G x)(hlo:lo=pre.length)(hn:n=R.length)(h:zXy κ lt pre R p g Q)
  (sD:Srt (fun x y=>lt y x) D) (lD:a=D.length) (h0:0<D.length) (pD:(D++U).Perm R):wpS (model prog w) A E s (reverseSlice' lo (lo+a) >>= fun _=>ascL lo a n >>= K) Q (SS κ (pre++(D++U)) p g):=by
 subst lD hlo hn;refine wpS_bind (zIJ rfl rfl ?_);have pD':(D.reverse++U).Perm R:=(D.reverse_perm.append (List.Perm.refl U)).trans pD;have hl:D.length=D.reverse.length:=by simp
 rw[hl];refine wpS_bind (zM8 hO hA (zOZ gl pD') rfl (by rw[<- pD'.length_eq];simp) (by simp[h0]) sD.rev fun V W e sV _=>?_);subst e;have:=h (D.reverse++V) W (by simpa using pD') (by simp;omega) sV;simp only[qC2,qB3]at this;exact hK _ _ this
theorem zRF{pre R:yI}{lo n:Nat}{Q:yK->SortSt->Prop}(hO:Swo lt)(hA:Asks prog w A s κ lt G)(gl:∀x∈pre++R,G x)(hlo:lo=pre.length)(hn:n=R.length)(hR:0<R.length)(h:zXy κ lt pre R p g Q):
  wpS (model prog w) A E s (countRun' lo n) Q (SS κ (pre++R) p g):=by
 obtain⟨r,R',rfl⟩:∃r R',R=r::R':=by cases R with
  |nil=>simp at hR
  |cons r R=>exact⟨r,R,rfl⟩
 have e0:pre++r::R'=pre++([r]++R'):=rfl;rw[e0]at gl ⊢;refine wpS_bind (zM8 (D:=[r]) hO hA gl hlo (by rw[hn];simp;omega) (by simp) (qF0 ..) fun V W e sV ho=>?_);subst e;dsimp only;by_cases e1:([r].length+V.length == n)=true
 ·rw[if_pos e1];have:=h ([r]++V) W (by simp) (by simp) sV;simp only[qC2,qB3]at this;exact wpS_pure this
 rw[if_neg e1];rcases ho with rfl|⟨e,W',rfl,z,ez,hz⟩
 ·exfalso;apply e1;rw[hn];simp;omega
 have gl':∀x∈pre++(([r]++V)++e::W'),G x:=by simpa using gl
 rw[show pre++([r]++(V++e::W'))=pre++(([r]++V)++e::W') by simp];have hs:∀R0,(R0++e::W').Perm (r::(V++e::W'))->(∀u∈R0,∀v∈R0,lt u v=false)->(∀d∈R0,lt d e=false)->Dsc lt (r::(V++e::W')) R0 [e] W':=fun R0 a b c =>
  ⟨by simpa using a,qC5.mpr ⟨qL7 b,qF0 ..,fun x hx y hy=>by rw[qA7.mp hy];exact c x hx⟩,by simp,fun u hu v hv=>by rw[qA7.mp hu,qA7.mp hv];exact hO.rf _⟩
 by_cases e2:[r].length+V.length>1
 ·rw[if_pos e2];refine wpS_bind (zNB hA gl' (x:=r) (y:=z) (by rw[hlo,qA1 (by omega)];simp) (by
   rw[hlo,qA1 (by omega),qA8 (by simp at e2 ⊢;omega),<- ez];congr 1;simp;omega) ?_)
  cases e3:lt r z with
  |true =>
   have:=h ([r]++V) (e::W') (by simp) (by simp) sV;simp only[qC2,qB3]at this ⊢;exact wpS_pure this
  |false =>
   simp only[qE6,if_false];have z1:∀u∈[r]++V,lt z u=false:=fun u hu=>by have:=zI4 hO sV (by simp) u hu;rwa[(qA2.mp ez).2]at this
   have z2:∀u∈[r]++V,lt u r=false:=fun u hu=>zOW hO sV (by simp) u hu;have al:∀u∈[r]++V,∀v∈[r]++V,lt u v=false:=fun u hu v hv=>hO.tr v r u (hO.tr v z r (z1 v hv) e3) (z2 u hu);have zm:z∈[r]++V:=qB4 ez;refine wpS_bind (zIJ hlo (by rw[hlo];simp;omega) ?_);have D0:=hs ([r]++V).reverse (by
    have:=((([r]++V).reverse_perm).append (List.Perm.refl (e::W')))
    simpa using this) (fun u hu v hv=>al u (qJ2.mp hu) v (qJ2.mp hv)) (fun d hd=>hO.tr e z d (hO.as _ _ hz) (al d (qJ2.mp hd) z zm))
   refine wpS_bind (wpS_lift (wpAny_rule ⟨rfl,?_⟩));refine wpS_bind (zJt hO hA (by simpa using gl) hlo hn D0 rfl (by simp;omega) fun D1 T U q hD hT=>?_);dsimp only;by_cases hq:q>0
   ·rw[if_pos hq,show pre++(D1++(T++U))=(pre++D1)++(T++U) by simp];refine wpS_bind (zIJ (by rw[hlo];simp;omega) (by rw[hlo];simp;omega) ?_);rw[show(pre++D1)++(T.reverse++U)=pre++((D1++T.reverse)++U) by simp];exact zFG (K:=_) (fun m st hm=>wpS_pure hm) hO hA (by simpa using gl) hlo hn h hD.rev (by simp) (by have:=hD.t0;simp;omega) (by rw[qC2];exact((List.Perm.refl D1).append (T.reverse_perm.append (List.Perm.refl _))).trans hD.pm)
   ·rw[if_neg hq,show pre++(D1++(T++U))=pre++((D1++T)++U) by simp];exact zFG (K:=_) (fun m st hm=>wpS_pure hm) hO hA (by simpa using gl) hlo hn h hD.ds rfl (by have:=hD.t0;simp;omega) (by simpa using hD.pm)
 ·rw[if_neg e2];have hV:V=[]:=by cases V with
   |nil=>rfl
   |cons v V=>simp at e2
  subst hV;have D0:=hs [r] (by simp) (fun u hu v hv=>by rw[qA7.mp hu,qA7.mp hv];exact hO.rf _) (fun d hd=>by
   rw[qA7.mp hd];have:z=r:=by simpa using ez.symm
   rw[<- this];exact hO.as _ _ hz)
  refine wpS_bind (wpS_lift (wpAny_rule ⟨rfl,?_⟩));refine wpS_bind (zJt hO hA (by simpa using gl) hlo hn D0 rfl (by simp) fun D1 T U q hD hT=>?_);dsimp only;by_cases hq:q>0
  ·rw[if_pos hq,show pre++(D1++(T++U))=(pre++D1)++(T++U) by simp];refine wpS_bind (zIJ (by rw[hlo];simp;omega) (by rw[hlo];simp;omega) ?_);rw[show(pre++D1)++(T.reverse++U)=pre++((D1++T.reverse)++U) by simp];exact zFG (K:=_) (fun m st hm=>wpS_pure hm) hO hA (by simpa using gl) hlo hn h hD.rev (by simp) (by have:=hD.t0;simp;omega) (by rw[qC2];exact((List.Perm.refl D1).append (T.reverse_perm.append (List.Perm.refl _))).trans hD.pm)
  ·rw[if_neg hq,show pre++(D1++(T++U))=pre++((D1++T)++U) by simp];exact zFG (K:=_) (fun m st hm=>wpS_pure hm) hO hA (by simpa using gl) hlo hn h hD.ds rfl (by have:=hD.t0;simp;omega) (by simpa using hD.pm)
end
open PySem PySem.Spec PyProof.Rows
section
variable {prog:Program}{w:World}{A:Around}{E:yL}{s:Shared}{κ:SortKind}{lt:Keyed->Keyed->Bool}{G:Keyed->Prop}{p:List Pend}{g:Nat}
theorem zU4{S:yI}{e:Keyed}{l:Nat}(hO:Swo lt)(sS:Srt lt S)(h1:∀x∈S.take l,lt e x=false)(h2:∀x∈S.drop l,lt e x=true):Srt lt (S.take l++(e::S.drop l)):=by
 have sX:Srt lt (S.take l++S.drop l):=by rw[qD4];exact sS
 obtain⟨x1,x2,x3⟩:=qC5.mp sX;refine qC5.mpr ⟨x1,qF2.mpr ⟨fun y hy=>hO.as _ _ (h2 y hy),x2⟩,fun x hx y hy=>?_⟩;rcases qC0.mp hy with rfl|hy
 ·exact h1 x hx
 ·exact x3 x hx y hy
theorem zRN{pre S U post:yI}{lo n ok:Nat}{Q:Bool->SortSt->Prop}(hO:Swo lt)(hA:Asks prog w A s κ lt G)(gl:∀x∈pre++(S++(U++post)),G x)(hlo:lo=pre.length)(hn:n=S.length+U.length)(hok:ok=S.length)(h0:0<S.length)(sS:Srt lt S)
  (h:∀N,N.Perm (S++U)->Srt lt N->Q true (SS κ (pre++(N++post)) p g)):wpS (model prog w) A E s (binarySort' lo n ok) Q (SS κ (pre++(S++(U++post))) p g):=by
 subst hlo hn hok;rw[binarySort'_eq];rw[show max S.length 1=S.length by omega];refine wpS_bind (wpS_mono (wpS_forRange (I:=fun k c st'=>c=(none,())/\∃S' U',k=S'.length/\(S'++U').Perm (S++U)/\Srt lt S'/\st'=SS κ (pre++(S'++(U'++post))) p g)
  (Q:=fun c st'=>c=(none,())/\∃N,N.Perm (S++U)/\Srt lt N/\st'=SS κ (pre++(N++post)) p g) ?_ ?_ ⟨rfl,S,U,rfl,.refl _,sS,rfl⟩) ?_)
 ·rintro k c st' hk1 hk2 ⟨rfl,S',U',rfl,pm,sS',rfl⟩;dsimp only;have lp:=pm.length_eq;cases U' with
  |nil=>simp at lp;omega
  |cons e U' =>
  have gl':∀x∈pre++(S'++(e::U'++post)),G x:=fun x hx=>gl x (by
   rcases qB2.mp hx with hx|hx
   ·exact qC7 _ hx
   ·refine qC3 _ ?_;rw[<- qC2]at hx ⊢;rcases qB2.mp hx with hx|hx
    ·exact qC7 _ (pm.mem_iff.mp hx)
    ·exact qC3 _ hx)
  refine wpS_bind (wpS_mono (wpS_forRange (I:=fun x c st''=>st''=SS κ (pre++(S'++(e::U'++post))) p g/\∃l r,c=(none,l,r)/\l<=r/\r<=S'.length/\r - l<=S'.length - x /\
    (∀i,(hi:i<S'.length)->i<l->lt e S'[i]=false)/\(∀i,(hi:i<S'.length)->r<=i->lt e S'[i]=true))
   (Q:=fun c st''=>st''=SS κ (pre++(S'++(e::U'++post))) p g/\∃l r,c=(none,l,r)/\l<=S'.length /\
    (∀i,(hi:i<S'.length)->i<l->lt e S'[i]=false)/\(∀i,(hi:i<S'.length)->l<=i->lt e S'[i]=true)) ?_ ?_ ⟨rfl,0,S'.length,rfl,by omega,by omega,by omega,fun i hi h=>(by omega),fun i hi h=>(by omega)⟩) ?_)
  ·rintro x c st'' _ hx ⟨rfl,l,r,rfl,hlr,hrk,hm,q1,q2⟩;dsimp only;by_cases hge:l≥r
   ·rw[if_pos hge];have:l=r:=by omega
    subst this;exact wpS_pure ⟨rfl,l,l,rfl,hrk,q1,q2⟩
   ·rw[if_neg hge];refine wpS_bind (zNB hA gl' (x:=e) (y:=S'[(l+r) / 2]'(by omega)) ?_ ?_ ?_)
    ·rw[qA1 (by omega),qA1 (by omega),show pre.length+S'.length - pre.length - S'.length=0 by omega];rfl
    ·rw[qA1 (by omega),qA8 (by omega),qL0];exact qA5 (by omega)
    ·cases e1:lt e (S'[(l+r) / 2]'(by omega))with
     |true =>
      refine wpS_pure ⟨rfl,l,(l+r) / 2,rfl,by omega,by omega,by omega,q1,fun i hi h1=>?_⟩;cases e2:lt e S'[i]with
      |true=>rfl
      |false =>
       have:=zEB hO (x:=S'[(l+r) / 2]'(by omega)) sS' (i:=(l+r) / 2) (by omega) (hO.rf _) S'[i] (by
        rw[qH4];exact⟨i - (l+r) / 2,by simp;omega,by simp only[qL6];congr 1;omega⟩)
       rw[hO.tr _ _ _ this e2]at e1;cases e1
     |false =>
      refine wpS_pure ⟨rfl,(l+r) / 2+1,r,rfl,by omega,by omega,by omega,fun i hi h1=>?_,q2⟩;have:=zEB hO (x:=S'[i]) sS' (i:=i) hi (hO.rf _) (S'[(l+r) / 2]'(by omega)) (by
        rw[qH4];exact⟨(l+r) / 2 - i,by simp;omega,by simp only[qL6];congr 1;omega⟩)
      exact hO.tr _ _ _ this e1
  ·rintro c st'' ⟨rfl,l,r,rfl,hlr,hrk,hm,q1,q2⟩;have:l=r:=by omega
   subst this;exact⟨rfl,l,l,rfl,hrk,q1,q2⟩
  ·rintro c st'' ⟨rfl,l,r,rfl,hl,q1,q2⟩;dsimp only;have e0:pre++(S'++(e::U'++post))=(pre++S'.take l)++(S'.drop l++(e::(U'++post))):=by
    conv=>lhs;rw[<- qD4 l S']
    simp only[qC2,qH0]
   rw[e0];refine wpS_bind (zSE (by simp;omega) (by simp;omega) (wpS_pure ⟨rfl,S'.take l++(e::S'.drop l),U',by simp;omega,?_,zU4 hO sS' (fun x hx=>?_) (fun x hx=>?_),by simp⟩))
   ·refine List.Perm.trans ?_ pm;have:(S'++e::U')=S'.take l++(S'.drop l++(e::U')):=by rw[<- qC2,qD4]
    rw[this,qC2];refine(List.Perm.refl _).append ?_;rw[qH0];exact List.perm_middle.symm
   ·obtain⟨i,hi,hil,rfl⟩:=zE2 hx;exact q1 i hi hil
   ·obtain⟨i,hi,hil,rfl⟩:=zE4 hx;exact q2 i hi hil
 ·rintro c st' ⟨rfl,S',U',hk,pm,sS',rfl⟩;have lp:=pm.length_eq;have:U'=[]:=by
   cases U' with
   |nil=>rfl
   |cons e U'=>simp at lp;omega
  subst this;exact⟨rfl,S',by simpa using pm,sS',by simp⟩
 ·rintro c st' ⟨rfl,N,pm,sN,rfl⟩;exact wpS_pure (h N pm sN)
end
open PySem PySem.Spec PyProof.Rows
noncomputable abbrev Rn:=List (yI×Nat)
noncomputable def zA9:Rn->yI
 |[]=>[]
 |r::rs=>r.1++zA9 rs
noncomputable def pnd:Nat->Rn->List Pend
 |_,[]=>[]
 |o,r::rs=>(o,r.1.length,r.2)::pnd (o+r.1.length) rs
theorem zBu:∀(a b:Rn),zA9 (a++b)=zA9 a++zA9 b
 |[],_=>rfl
 |r::a,b=>by rw[qH0,zA9,zBu a b,zA9,qC2]
theorem zDq:∀(o:Nat) (a b:Rn),pnd o (a++b)=pnd o a++pnd (o+(zA9 a).length) b
 |o,[],b=>by simp[pnd,zA9]
 |o,r::a,b=>by rw[qH0,pnd,zDq (o+r.1.length) a b,pnd,zA9,qB3,qH0,Nat.add_assoc]
theorem zEL:∀(o:Nat) (a:Rn),(pnd o a).length=a.length
 |_,[]=>rfl
 |o,r::a=>by rw[pnd,qD1,zEL,qD1]
structure Good(lt:Keyed->Keyed->Bool)(rs:Rn):Prop where
 s:∀r∈rs,Srt lt r.1
 p:∀r∈rs,0<r.1.length
theorem Good.len{lt:Keyed->Keyed->Bool}:∀{rs:Rn},Good lt rs->rs.length<=(zA9 rs).length
 |[],_=>qB1 _
 |r::rs,h=>by have:=Good.len (rs:=rs) ⟨fun x hx=>h.s x (qB9 _ hx),fun x hx=>h.p x (qB9 _ hx)⟩;have:=h.p r (qD0 ..);rw[zA9,qB3,qD1];omega
theorem zUT{rs:Rn}{i:Nat}(h:i+1<rs.length):∃r1 x y r2,rs=r1++x::y::r2/\r1.length=i:=by refine⟨rs.take i,rs[i],rs[i+1],rs.drop (i+2),?_,by simp;omega⟩;rw[<- qF9,<- qF9,qD4]
theorem zOy{rs:Rn}(h:rs≠[]):∃r1 x,rs=r1++[x]:=⟨rs.dropLast,rs.getLast h,(qM9 h).symm⟩
theorem zLH:∀(l:List Pend) (u:Pend) (f:Pend->Pend),(l++[u]).modify l.length f=l++[f u]
 |[],u,f=>by simp
 |v::l,u,f=>by rw[qH0,qD1,List.modify_succ_cons,zLH l u f,qH0]
theorem zZr{c:Prop}[Decidable c]{n:Nat}(h:1<n):(if c then n - 2 - 1 else n - 2)+1<n:=by split<;>omega
section
variable {prog:Program}{w:World}{A:Around}{E:yL}{s:Shared}{κ:SortKind}{lt:Keyed->Keyed->Bool}{G:Keyed->Prop}
noncomputable abbrev RnS(κ:SortKind)(rs:Rn)(rest:yI)(g:Nat):SortSt:=SS κ (zA9 rs++rest) (pnd 0 rs) g
theorem zLF{rs:Rn}{rest:yI}{g i:Nat}{Q:Bool->SortSt->Prop}(hO:Swo lt)(hA:Asks prog w A s κ lt G)(gl:∀x∈zA9 rs++rest,G x)(hg:Good lt rs)(hi:i+1<rs.length)
  (h:∀rs' g',Good lt rs'->(zA9 rs').Perm (zA9 rs)->rs'.length+1=rs.length->Q true (RnS κ rs' rest g')):wpS (model prog w) A E s (mergeAt' i) Q (RnS κ rs rest g):=by
 obtain⟨r1,⟨X,pw⟩,⟨Y,q⟩,r2,rfl,rfl⟩:=zUT hi;have mx:(X,pw)∈r1++(X,pw)::(Y,q)::r2:=by simp
 have my:(Y,q)∈r1++(X,pw)::(Y,q)::r2:=by simp
 have el:zA9 (r1++(X,pw)::(Y,q)::r2)++rest=zA9 r1++(X++(Y++(zA9 r2++rest))):=by rw[zBu,zA9,zA9];simp
 have ep:pnd 0 (r1++(X,pw)::(Y,q)::r2)=pnd 0 r1++((zA9 r1).length,X.length,pw)::((zA9 r1).length+X.length,Y.length,q)::pnd ((zA9 r1).length+X.length+Y.length) r2:=by rw[zDq,pnd,pnd];simp
 have hst:RnS κ (r1++(X,pw)::(Y,q)::r2) rest g=SS κ (zA9 r1++(X++(Y++(zA9 r2++rest)))) (pnd 0 r1++((zA9 r1).length,X.length,pw)::((zA9 r1).length+X.length,Y.length,q)::pnd ((zA9 r1).length+X.length+Y.length) r2) g:=by unfold RnS;rw[el,ep]
 rw[hst];rw[el]at gl;refine zQX hO hA gl (hg.s _ mx) (hg.s _ my) (hg.p _ mx) (hg.p _ my) rfl (zEL ..).symm fun Z g' hZ=>?_;have lz:=hZ.pm.length_eq;rw[qB3]at lz;have hr:=h (r1++(Z,pw)::r2) g' ⟨fun r hr=>?_,fun r hr=>?_⟩ ?_ (by simp;omega)
 ·have el':zA9 (r1++(Z,pw)::r2)++rest=zA9 r1++(Z++(zA9 r2++rest)):=by rw[zBu,zA9];simp
  have ep':pnd 0 (r1++(Z,pw)::r2)=pnd 0 r1++((zA9 r1).length,X.length+Y.length,pw)::pnd ((zA9 r1).length+X.length+Y.length) r2:=by rw[zDq,pnd];simp only[qN2];rw[lz,Nat.add_assoc]
  unfold RnS at hr;rw[el',ep']at hr;exact hr
 ·rcases qB2.mp hr with hr|hr
  ·exact hg.s r (by simp[hr])
  ·rcases qC0.mp hr with rfl|hr
   ·exact hZ.so
   ·exact hg.s r (by simp[hr])
 ·rcases qB2.mp hr with hr|hr
  ·exact hg.p r (by simp[hr])
  ·rcases qC0.mp hr with rfl|hr
   ·have:=hg.p _ mx;show 0<Z.length;simp at this;omega
   ·exact hg.p r (by simp[hr])
 ·rw[zBu,zBu,zA9,zA9,zA9];refine(List.Perm.refl _).append ?_;rw[<- qC2];exact hZ.pm.append (List.Perm.refl _)
theorem zQF{rs:Rn}{i:Nat}(h:i<rs.length):∃o,(pnd 0 rs).toArray[i]?=some (o,rs[i].1.length,rs[i].2):=by
 have e:rs=rs.take i++rs[i]::rs.drop (i+1):=by rw[<- qF9,qD4]
 refine⟨(zA9 (rs.take i)).length,?_⟩;rw[qD5]
 conv=>lhs;rw[e]
 rw[zDq,qA1 (by rw[zEL,qI9];exact Nat.min_le_left ..),zEL,pnd];simp[qO8 (qH1 h)]
theorem zSP{l:yI}{Q:Unit->SortSt->Prop}(hO:Swo lt)(hA:Asks prog w A s κ lt G)(gl:∀x∈l,G x)(h0:0<l.length)
  (h:∀l' st',arrOf st'=l'.toArray->failedOf st'=none->l'.Perm l->Srt lt l'->Q () st'):wpS (model prog w) A E s sortRuns' Q (SS κ l [] 7):=by
 rw[sortRuns'_eq];refine wpS_bind (wpS_get ?_);dsimp only;rw[show l.toArray.size=l.length from rfl];generalize minRun' l.length l.length 0=mr;have hG:∀{l':yI},l'.Perm l->∀x∈l',G x:=fun hp x hx=>gl x (hp.mem_iff.mp hx);refine wpS_bind (wpS_mono (wpS_forRange
  (I:=fun x c st'=>∃rs post g,c=(none,(zA9 rs).length)/\st'=RnS κ rs post g/\(zA9 rs++post).Perm l/\Good lt rs/\(x<=(zA9 rs).length))
  (Q:=fun c st'=>∃rs g,c=(none,l.length)/\st'=RnS κ rs [] g/\(zA9 rs).Perm l/\Good lt rs) ?_ ?_ ⟨[],l,7,rfl,rfl,.refl _,⟨fun r hr=>(by cases hr),fun r hr=>(by cases hr)⟩,qG3 _⟩) ?_)
 ·rintro x c st' _ hx ⟨rs,post,g,rfl,rfl,pm,hg,hp⟩;dsimp only;have lp:=pm.length_eq;rw[qB3]at lp;by_cases hge:(zA9 rs).length≥l.length
  ·rw[if_pos hge];have e:post=[]:=qF3.mp (by omega);subst e;refine wpS_pure ⟨rs,g,by rw[show(zA9 rs).length=l.length by omega],rfl,by simpa using pm,hg⟩
  rw[if_neg hge];refine wpS_bind (zRF hO hA (hG pm) rfl (by omega) (by omega) fun N W pN hN sN=>?_);dsimp only;have lN:=pN.length_eq;rw[qB3]at lN;have done:∀{N W:yI}{rs':Rn}{g':Nat},(N++W).Perm post->0<N.length->Srt lt N->Good lt rs'->(zA9 rs').Perm (zA9 rs)->∃rs2 post2 g2,((none,(zA9 rs).length+N.length):Option Unit×Nat)=(none,(zA9 rs2).length)/\SS κ (zA9 rs'++(N++W)) (pnd 0 rs'++[((zA9 rs).length,N.length,0)]) g'=RnS κ rs2 post2 g2/\(zA9 rs2++post2).Perm l/\Good lt rs2/\x+1<=(zA9 rs2).length:=by
   intro N W rs' g' pN hN sN hg' hp';have ef:zA9 (rs'++[(N,0)])=zA9 rs'++N:=by rw[zBu,zA9,zA9,qH6]
   refine⟨rs'++[(N,0)],W,g',?_,?_,?_,⟨fun r hr=>?_,fun r hr=>?_⟩,?_⟩
   ·rw[ef,qB3,hp'.length_eq]
   ·unfold RnS;rw[ef,zDq,pnd,pnd,qC2,qN2,hp'.length_eq]
   ·rw[ef,qC2];exact(hp'.append pN).trans pm
   ·rcases qB2.mp hr with hr|hr
    ·exact hg'.s r hr
    ·rw[qA7.mp hr];exact sN
   ·rcases qB2.mp hr with hr|hr
    ·exact hg'.p r hr
    ·rw[qA7.mp hr];exact hN
   ·rw[ef,qB3,hp'.length_eq];omega
  by_cases hlt:N.length<mr
  case' pos =>
   rw[if_pos hlt];refine wpS_bind (wpS_lift (wpAny_rule ⟨rfl,?_⟩));have eW:zA9 rs++(N++W)=zA9 rs++(N++(W.take (min (l.length - (zA9 rs).length) mr - N.length)++W.drop (min (l.length - (zA9 rs).length) mr - N.length))):=by rw[qD4]
   have gW:∀x∈zA9 rs++(N++W),G x:=hG (((List.Perm.refl _).append pN).trans pm);rw[eW]at gW ⊢;refine wpS_bind (zRN hO hA gW rfl (by simp;omega) rfl hN sN fun N' pN' sN'=>?_);simp only[Bool.not_true,qE6,if_false];have lN':min (l.length - (zA9 rs).length) mr=N'.length:=by rw[pN'.length_eq];simp;omega
   rw[lN'];have pN2:(N'++W.drop (min (l.length - (zA9 rs).length) mr - N.length)).Perm post:=by refine List.Perm.trans (pN'.append (List.Perm.refl _)) ?_;rw[qC2,qD4];exact pN
   have hN2:0<N'.length:=by rw[pN'.length_eq];simp;omega
   rw[lN']at pN2;generalize W.drop (N'.length - N.length)=W' at pN2 ⊢;clear eW gW pN' lN' pN hN sN lN;generalize N'=M at sN' pN2 hN2 ⊢;have sM:=sN';have pM:=pN2;have hM:=hN2;generalize W'=V at pM ⊢
  case' neg =>
   rw[if_neg hlt];have sM:=sN;have pM:=pN;have hM:=hN;clear sN pN hN lN hlt;generalize N=M at sM pM hM ⊢;generalize W=V at pM ⊢
  all_goals
   refine wpS_bind (wpS_get ?_)
   (try dsimp only)
   by_cases hrs:rs=[]
   ·subst hrs;exact wpS_bind (wpS_modify (wpS_pure (done (rs':=[]) pM hM sM hg (.refl _))))
   ·obtain⟨r1,y,e⟩:=zOy hrs;have eb:(pnd 0 rs).toArray.back?=some ((zA9 r1).length,y.1.length,y.2):=by rw[e,zDq,pnd,pnd];simp
    rw[eb];dsimp only;refine wpS_bind (wpS_mono (wpS_forRange (I:=fun _ c st'=>c=(none,())/\∃rs' g',st'=RnS κ rs' (M++V) g'/\Good lt rs'/\(zA9 rs').Perm (zA9 rs)/\rs'≠[])
     (Q:=fun c st'=>c=(none,())/\∃rs' g',st'=RnS κ rs' (M++V) g'/\Good lt rs'/\(zA9 rs').Perm (zA9 rs)/\rs'≠[]) ?_ (fun c st' h=>h) ⟨rfl,rs,g,rfl,hg,.refl _,hrs⟩) ?_)
    ·rintro i c st' _ _ ⟨rfl,rs',g',rfl,hg',hp',hne⟩;refine wpS_bind (wpS_get ?_)
     (try dsimp only)
     have es:(pnd 0 rs').toArray.size=rs'.length:=qA9.trans (zEL ..);rw[es];by_cases h1:rs'.length>1
     ·rw[if_pos h1];obtain⟨o,eo⟩:=zQF (rs:=rs') (i:=rs'.length - 2) (by omega);rw[eo];dsimp only;split
      ·exact wpS_pure ⟨rfl,rs',g',rfl,hg',hp',hne⟩
      ·refine wpS_bind (zLF hO hA (hG (((hp'.append (List.Perm.refl _)).trans ((List.Perm.refl _).append pM)).trans pm)) hg' (by omega) fun rs2 g2 hg2 hp2 hl2=>?_);exact wpS_pure ⟨rfl,rs2,g2,rfl,hg2,hp2.trans hp',fun e=>by subst e;simp at hl2;omega⟩
     ·rw[if_neg h1];exact wpS_pure ⟨rfl,rs',g',rfl,hg',hp',hne⟩
    ·rintro c st' ⟨rfl,rs',g',rfl,hg',hp',hne⟩;dsimp only;obtain⟨r2,⟨Y,q⟩,rfl⟩:=zOy hne;refine wpS_bind (wpS_modify (wpS_bind (wpS_modify (wpS_pure ?_))));generalize power' l.length _ _ l.length=pw;have e3:(pnd 0 (r2++[(Y,q)])).toArray.modify ((pnd 0 (r2++[(Y,q)])).toArray.size - 1) (fun x=>(x.1,x.2.1,pw))=(pnd 0 (r2++[(Y,pw)])).toArray:=by apply Array.ext';rw[zDq,zDq,pnd,pnd,pnd,pnd];simp[zLH]
     have e4:setPending (RnS κ (r2++[(Y,q)]) (M++V) g') ((pnd 0 (r2++[(Y,q)])).toArray.modify ((pnd 0 (r2++[(Y,q)])).toArray.size - 1) (fun x=>(x.1,x.2.1,pw)))=RnS κ (r2++[(Y,pw)]) (M++V) g':=by rw[e3];unfold RnS;rw[zBu,zBu];rfl
     have:=done (rs':=r2++[(Y,pw)]) (g':=g') pM hM sM ⟨fun r hr=>?_,fun r hr=>?_⟩ (by rw[zBu]at hp' ⊢;exact hp')
     ·obtain⟨a,b,c,d,e,f⟩:=this;refine⟨a,b,c,d,?_,f⟩;rw[<- e];show setPending (setPending (RnS κ (r2++[(Y,q)]) (M++V) g') ((pnd 0 (r2++[(Y,q)])).toArray.modify ((pnd 0 (r2++[(Y,q)])).toArray.size - 1) (fun x=>(x.1,x.2.1,pw)))) _=_;rw[e4];show SortSt.mk' κ _ ((pnd 0 (r2++[(Y,pw)])).toArray.push _) _ _=SortSt.mk' κ _ _ _ _;rw[List.push_toArray]
     ·rcases qB2.mp hr with hr|hr
      ·exact hg'.s r (by simp[hr])
      ·rw[qA7.mp hr];exact hg'.s (Y,q) (by simp)
     ·rcases qB2.mp hr with hr|hr
      ·exact hg'.p r (by simp[hr])
      ·rw[qA7.mp hr];exact hg'.p (Y,q) (by simp)
 ·rintro c st' ⟨rs,post,g,rfl,rfl,pm,hg,hp⟩;have lp:=pm.length_eq;rw[qB3]at lp;have e:post=[]:=qF3.mp (by omega);subst e;exact⟨rs,g,by rw[show(zA9 rs).length=l.length by simp at lp;omega],rfl,by simpa using pm,hg⟩
 rintro c st' ⟨rs,g,rfl,rfl,pm,hg⟩;dsimp only;have l1:=hg.len;rw[pm.length_eq]at l1;refine wpS_bind (wpS_mono (wpS_forRange (I:=fun x c st'=>c=(none,())/\∃rs' g',st'=RnS κ rs' [] g'/\Good lt rs'/\(zA9 rs').Perm l/\rs'.length+x<=l.length+1)
  (Q:=fun c st'=>c=(none,())/\∃rs' g',st'=RnS κ rs' [] g'/\Good lt rs'/\(zA9 rs').Perm l/\rs'.length<=1) ?_ ?_ ⟨rfl,rs,g,rfl,hg,pm,by omega⟩) ?_)
 ·rintro x c st' _ hx ⟨rfl,rs',g',rfl,hg',hp',hl'⟩;refine wpS_bind (wpS_get ?_)
  (try dsimp only)
  have es:(pnd 0 rs').toArray.size=rs'.length:=qA9.trans (zEL ..);rw[es];by_cases h1:rs'.length<=1
  ·rw[if_pos h1];exact wpS_pure ⟨rfl,rs',g',rfl,hg',hp',h1⟩
  ·rw[if_neg h1];refine wpS_bind (zLF hO hA (hG (by simpa using hp')) hg' (zZr (by omega)) fun rs2 g2 hg2 hp2 hl2=>?_);exact wpS_pure ⟨rfl,rs2,g2,rfl,hg2,hp2.trans hp',by omega⟩
 ·rintro c st' ⟨rfl,rs',g',rfl,hg',hp',hl'⟩;exact⟨rfl,rs',g',rfl,hg',hp',by omega⟩
 ·rintro c st' ⟨rfl,rs',g',rfl,hg',hp',hl'⟩
  match rs',hl' with
  |[],_ =>
   have:=hp'.length_eq;simp[zA9]at this;omega
  |[(R,q)],_ =>
   have hf:zA9 [(R,q)]=R:=by simp[zA9]
   refine wpS_pure (h R _ ?_ rfl (by rw[hf]at hp';exact hp') (hg'.s (R,q) (qD7 _)));show(zA9 [(R,q)]++[]).toArray=_;rw[hf,qH6]
end
open PySem PySem.Spec PyProof.Rows
theorem zOu:∀(x y:yA),HT.lexLt x y=true->HT.lexLt y x=false
 |[],[],h=>by cases h
 |[],_::_,_=>rfl
 |_::_,[],h=>by cases h
 |a::x,b::y,h=>by
  rw[HT.lexLt_cons]at h ⊢;by_cases e:a=b
  ·subst e;rw[if_pos rfl]at h ⊢;exact zOu x y h
  ·rw[if_neg e]at h;rw[if_neg (fun q=>e q.symm)];have:=of_decide_eq_true h;exact decide_eq_false (by omega)
theorem zOt:∀(x y z:yA),HT.lexLt y x=false->HT.lexLt z y=false->HT.lexLt z x=false
 |[],y,z,h,k=>by
  cases z with
  |nil=>rfl
  |cons c z=>rfl
 |a::x,[],z,h,k=>by cases h
 |a::x,b::y,[],h,k=>by cases k
 |a::x,b::y,c::z,h,k=>by
  rw[HT.lexLt_cons]at h k ⊢;by_cases e1:b=a
  ·subst e1;rw[if_pos rfl]at h;by_cases e2:c=b
   ·subst e2;rw[if_pos rfl]at k ⊢;exact zOt x y z h k
   ·rw[if_neg e2]at k ⊢;exact k
  ·rw[if_neg e1]at h;have h':=of_decide_eq_false h;by_cases e2:c=b
   ·subst e2;rw[if_neg e1];exact h
   ·rw[if_neg e2]at k;have k':=of_decide_eq_false k;rw[if_neg (by omega)];exact decide_eq_false (by omega)
theorem zLK:∀(x y:yA),HT.lexLt y x=false->HT.lexLt x y=false->x=y
 |[],[],_,_=>rfl
 |[],_::_,_,k=>by cases k
 |_::_,[],h,_=>by cases h
 |a::x,b::y,h,k=>by
  rw[HT.lexLt_cons]at h k;by_cases e:a=b
  ·subst e;rw[if_pos rfl]at h k;rw[zLK x y h k]
  ·rw[if_neg e]at k;rw[if_neg (fun q=>e q.symm)]at h;have:=of_decide_eq_false h;have:=of_decide_eq_false k;omega
noncomputable def kdv(h:Heap):Value->yA
 |.ref a=>match h.get? a with
  |some o=>match o.data with
   |.seq xs _=>xs.toList.map numOf
   |_=>[]
  |none=>[]
 |_=>[]
def TupI(h:Heap)(v:Value)(ns:yA):Prop:=∃a its,v=.ref a/\IsTup h a its/\IntsAre its.toList ns
theorem TupI.kd{h:Heap}{v:Value}{ns:yA}(x:TupI h v ns):kdv h v=ns:=by obtain⟨a,its,rfl,⟨o,ho,hc,n,hd⟩,hi⟩:=x;show(match h.get? a with|some o=>_|none=>_)=_;rw[ho];show(match o.data with|.seq xs _=>_|_=>_)=_;rw[hd];exact hi.nums
theorem TupI.mono{h h':Heap}{v:Value}{ns:yA}(x:TupI h v ns)(k:∀b o,o.cls=.type "tuple"->h.get? b=some o->h'.get? b=some o):TupI h' v ns:=by obtain⟨a,its,rfl,⟨o,ho,hc,n,hd⟩,hi⟩:=x;exact⟨a,its,rfl,⟨o,k a o hc ho,hc,n,hd⟩,hi⟩
noncomputable def ltv(h:Heap)(x y:Keyed):Bool:=HT.lexLt (kdv h x.1) (kdv h y.1)
theorem zTP(h:Heap):Swo (ltv h):=⟨fun x y=>zOu _ _,fun x y z=>zOt _ _ _⟩
section
variable {prog:Program}{w:World}{A:Around}{E:yL}{s:Shared}
theorem zWs{b:Bool}{sx sy:Nat}{Q:Bool->Shared->Prop}{us:yB}{ns:yA}(hn:IntsAre us ns):∀{vs:yB}{ms:yA} (i:Nat),IntsAre vs ms->ns.length+sy=ms.length+sx ->
  Q (HT.lexLt ns ms) s->W.KatLex prog w A b (decide (sx<sy)) Q (us.zip vs) i s:=by
 induction hn with
 |nil =>
  intro vs ms i hm hl h;rw[qQ6];refine W.kat_nil ?_;cases hm with
  |nil=>rw[show decide (sx<sy)=false from decide_eq_false (by simp at hl;omega)];exact h
  |cons m u hm=>rw[show decide (sx<sy)=true from decide_eq_true (by simp at hl;omega)];exact h
 |cons n t hn ih =>
  intro vs ms i hm hl h;cases hm with
  |nil =>
   rw[qQ1];refine W.kat_nil ?_;rw[show decide (sx<sy)=false from decide_eq_false (by simp at hl;omega)];exact h
  |cons m u hm =>
   rw[qK7];refine W.kat_cons (wpAny_eqBool_int ?_);rw[HT.lexLt_cons]at h;by_cases e:n=m
   ·subst e;rw[if_pos rfl]at h;rw[show(n == n)=true by simp];exact W.kat_yes (ih (i+1) hm (by simp at hl;omega) h)
   ·rw[if_neg e]at h;rw[show(n == m)=false by simpa using e];refine W.kat_no ?_;cases hf:(b&&i == 0)with
    |true=>exact oneLt_int h
    |false=>exact W.kat_one _ _ (PyProof.Rows.lt_int h)
theorem zQb{κ:SortKind}(hk:κ=tuples' true∨κ=general'∨κ=oneType')(hu:A.units<cLine):Asks prog w A s κ (ltv s.heap) (fun x=>∃ns,TupI s.heap x.1 ns):=by
 rintro⟨x,x'⟩ ⟨y,y'⟩ ⟨ns,hx⟩ ⟨ms,hy⟩ Q hq;unfold ltv at hq;rw[hx.kd,hy.kd]at hq;obtain⟨a,its,e1,⟨o,ho,hc,n,hd⟩,hi⟩:=hx;obtain⟨b,jts,e2,⟨o2,ho2,hc2,n2,hd2⟩,hj⟩:=hy;dsimp only at e1 e2 hq ⊢;subst e1 e2;rcases hk with rfl|rfl|rfl
 ·refine W.kat_lt ho hd ho2 hd2 (zWs hi 0 hj ?_ hq);rw[<- hi.length,<- hj.length];simp;omega
 ·exact W.kat_one _ _ (HT.lt_tupInts ⟨o,ho,hc,n,hd⟩ ⟨o2,ho2,hc2,n2,hd2⟩ hi hj hu hq)
 ·rw[keyLt'_oneType,oneLt'_eq];simp only[if_true];refine wpAny_bind (wpAny_cRoomFor hu ?_);obtain⟨cls,dd,data,sl⟩:=o;obtain⟨cls2,dd2,data2,sl2⟩:=o2;simp only at hc hd hc2 hd2;subst hc hd hc2 hd2;refine wpAny_bind (wpAny_callSpecialIfBound?_slot ⟨_,ho,rfl⟩ PySem.F.slot_tuple_lt (call_meets PySem.F.slot_tuple_lt ⟨_,ho,rfl⟩ PySem.F.entry_tuple_lt (PySem.F.args_tuple_lt_2 _ _) (HT.tuple_lt_ints a b its jts n n2 dd dd2 sl sl2 ns ms hi hj) ⟨ho,ho2,?_⟩));exact wpAny_truthy_bool hq
theorem zHy:∀(vs:yB),(∀v∈vs,∃ns,TupI s.heap v ns)->∃fs:List (yF),fs.length=vs.length/\(∀f∈fs,∀v,f=some v->∃n t,v=.int n t)/\∀{M:Model}{A:Around}{E:yL}{Q:List (yF)->Shared->Prop},Q fs s->wpAny M A (vs.mapM firstOfTuple') Q E s
 |[],_=>⟨[],rfl,fun f hf=>(by cases hf),fun h=>by rw[List.mapM_nil];exact wpAny_pure h⟩
 |v::vs,hv=>by
  obtain⟨fs,h1,h2,h3⟩:=zHy vs fun u hu=>hv u (qB9 _ hu);obtain⟨ns,a,its,rfl,⟨o,ho,hc,n,hd⟩,hi⟩:=hv v (qD0 ..);refine⟨its[0]?::fs,by simp[h1],fun f hf v e=>?_,fun{M A E Q} h=>?_⟩
  ·rcases qC0.mp hf with rfl|hf
   ·have:v∈its.toList:=by rw[<- Array.getElem?_toList]at e;exact qB4 e
    exact hi.all v this
   ·exact h2 f hf v e
  ·rw[qF4];refine wpAny_bind ?_;rw[W.kas_first_eq];refine wpAny_bind (wpAny_typeOf (T := "tuple") ⟨o,ho,hc⟩ ?_);rw[if_neg (by first|decide|simp)];refine wpAny_bind (listItems_at ho hd (wpAny_pure ?_));exact wpAny_bind (h3 (wpAny_pure h))
theorem zQa{vs:yB}{Q:SortKind->Shared->Prop}(hv:∀v∈vs,∃ns,TupI s.heap v ns)(h0:0<vs.length)(h:∀κ,(κ=tuples' true∨κ=general'∨κ=oneType')->Q κ s):
  wpAny (model prog w) A (keyKind' vs.toArray) Q E s:=by
 obtain⟨fs,h1,h2,h3⟩:=zHy (s:=s) vs hv;rw[PyProof.Rows.kat_kind_eq,qN9,map_eq_pure_bind];refine wpAny_bind (wpAny_bind (h3 (wpAny_pure ?_)));by_cases hall:(fs.toArray.all fun x=>x.isSome)=true
 ·rw[if_pos hall];refine wpAny_bind (wpAny_rule ?_);have hm:∀v∈fs.filterMap id,∃n t,v=.int n t:=fun v hv=>by obtain⟨f,hf,e⟩:=qE5.mp hv;exact h2 f hf v e
  have hp:0<(fs.filterMap id).length:=by
   cases fs with
   |nil=>simp at h1;omega
   |cons f fs =>
    cases f with
    |none=>simp at hall
    |some v=>simp
  have hfm:fs.toArray.filterMap id=(fs.filterMap id).toArray:=by simp
  rw[hfm,oneTypeOnly'_eq,qN9,map_eq_pure_bind];refine wpAny_bind (wpAny_bind (wpAny_bind (W.kas_mapM (r:=Value.type "int") _ (fun v hv Q' hq=>?_) (wpAny_pure ?_))))
  ·obtain⟨n,t,rfl⟩:=hm v hv;exact wpAny_pure hq
  ·obtain⟨f₁,fr,e⟩:∃f₁ fr,fs.filterMap id=f₁::fr:=by
    cases hq:fs.filterMap id with
    |nil=>rw[hq]at hp;simp at hp
    |cons a b=>exact⟨a,b,rfl⟩
   rw[e];have h0:(qQ8 (fun _=>Value.type "int") (f₁::fr)).toArray[0]?=some (Value.type "int"):=by simp
   have hall2:((qQ8 (fun _=>Value.type "int") (f₁::fr)).toArray.all fun x=>x == Value.type "int")=true:=by simp only[qR6,qJ4,qD8];intro _ _;rfl
   rw[h0];simp only[hall2,if_true];exact wpAny_pure (wpAny_pure (h _ (.inl rfl)))
 ·rw[if_neg hall];split
  ·exact wpAny_pure (h _ (.inr (.inl rfl)))
  ·rw[oneTypeOnly'_eq,qN9,map_eq_pure_bind];refine wpAny_bind (wpAny_bind (wpAny_bind (W.kas_mapM (r:=Value.type "tuple") _ (fun v hv' Q' hq=>?_) (wpAny_pure ?_))))
   ·obtain⟨ns,a,its,rfl,⟨o,ho,hc,n,hd⟩,hi⟩:=hv v hv';exact wpAny_typeOf (T := "tuple") ⟨o,ho,hc⟩ hq
   ·obtain⟨f₁,fr,rfl⟩:∃f₁ fr,vs=f₁::fr:=by
     cases vs with
     |nil=>simp at h0
     |cons a b=>exact⟨a,b,rfl⟩
    have h0:(qQ8 (fun _=>Value.type "tuple") (f₁::fr)).toArray[0]?=some (Value.type "tuple"):=by simp
    have hall2:((qQ8 (fun _=>Value.type "tuple") (f₁::fr)).toArray.all fun x=>x == Value.type "tuple")=true:=by simp only[qR6,qJ4,qD8];intro _ _;rfl
    rw[h0];simp only[hall2,if_true];exact wpAny_pure (wpAny_pure (h _ (.inr (.inr rfl))))
theorem zNJ{a:Addr}{vs:yB}{n:Nat}{P:Fin->Shared->Prop}(ho:s.heap.get? a=some (seqObj "list" vs.toArray n))(hv:∀v∈vs,∃ns,TupI s.heap v ns)(hz:vs.length<=sizeLine)(hu:A.units<cLine)
  (h:∀out:yB,out.Perm vs->out.Pairwise (fun x y=>HT.lexLt (kdv s.heap y) (kdv s.heap x)=false)->P (.done (.ret .none)) { s with heap:=sortedHeap s.heap a vs out.toArray }) :
  wpAny (model prog w) A (Builtin.«list.sort» ⟨[.ref a],[]⟩) P E s:=by
 rw[list_sort_plain];have ha:a<s.heap.objs.size:=qB8 ho;refine wpAny_bind (listItems_at ho rfl ?_);refine wpAny_bind (listUpdate_at ho rfl ?_ (by rw[qA9];exact hz) (qG3 _));obtain⟨e1,ho1⟩:∃e1,(s.heap.update a (Obj.mapSeq fun _=>#[])).get? a=some (seqObj "list" #[] e1):=⟨_,get?_update_seq ho (fun _=>#[])⟩
 refine wpAny_bind (seqEpoch_at ho1 rfl ?_);refine wpAny_bind (wpAny_newTuple ?_ hz);refine wpAny_bind (wpAny_newList ?_ (qG3 _));refine wpAny_holding ?_;obtain⟨h6,e6⟩:∃h6,((s.heap.update a (Obj.mapSeq fun _=>#[])).push (seqObj "tuple" vs.toArray 0)).push (seqObj "list" #[] 0)=h6:=⟨_,rfl⟩
 have ho6:h6.get? a=some (seqObj "list" #[] e1):=by rw[<- e6,qQ9 _ _ _ (by rw[size_push',qR7];exact qC8 (qG7 ha)),qQ9 _ _ _ (by rw[qR7];exact qC8 ha)];exact ho1
 have kp:∀b o,o.cls=.type "tuple"->s.heap.get? b=some o->h6.get? b=some o:=fun b o hc q=>by
  have hb:b≠a:=fun e=>by subst e;rw[ho]at q;cases q;exact absurd (Value.type.inj hc) (by decide)
  rw[<- e6];exact qA6 _ (qA6 _ ((qL1 _ _ (Ne.symm hb)).trans q))
 show wpAny (model prog w) A _ P E { s with heap:=((s.heap.update a (Obj.mapSeq fun _=>#[])).push (seqObj "tuple" vs.toArray 0)).push (seqObj "list" #[] 0) };rw[e6];dsimp only;have hv6:∀v∈vs,∃ns,TupI h6 v ns:=fun v hm=>let ⟨ns,x⟩:=hv v hm;⟨ns,x.mono kp⟩
 have kd6:∀v∈vs,kdv h6 v=kdv s.heap v:=fun v hm=>by obtain⟨ns,x⟩:=hv v hm;rw[x.kd,(x.mono kp).kd]
 have fin:∀out:yB,out.Perm vs->out.Pairwise (fun x y=>HT.lexLt (kdv s.heap y) (kdv s.heap x)=false)->P (.done (.ret .none)) { s with heap:=h6.update a (Obj.mapSeq fun _=>out.toArray) }:=fun out a1 a2=>by rw[<- e6];exact h out a1 a2
 have hsz:vs.toArray.size=vs.length:=by simp
 by_cases h2:vs.toArray.size<2
 ·rw[if_pos h2,if_pos h2];refine wpAny_bind (wpAny_pure ?_);rw[StateT.run_pure];refine wpAny_bind (wpAny_pure ?_);dsimp only;refine wpAny_bind (seqEpoch_at ho6 rfl ?_);have eo:((vs.toArray.zip vs.toArray).map (·.2))=vs.toArray:=by apply Array.ext';simp;exact qO2 (qB1 _)
  rw[eo];refine wpAny_bind (listUpdate_at ho6 rfl ?_ (hsz2:=by rw[qA9];omega));simp only[bne_self_eq_false,qE6,if_false];refine wpAny_pure (fin vs (.refl _) ?_)
  match vs,hsz,h2 with
  |[],_,_=>exact .nil
  |[v],_,_=>exact qF0 ..
  |_::_::_,hs,h2=>exact absurd h2 (by simp)
 ·rw[if_neg h2,if_neg h2];refine wpAny_bind (zQa (s:={ s with heap:=h6 }) hv6 (by omega) fun κ hκ=>?_);have ez:vs.toArray.zip vs.toArray=(vs.zip vs).toArray:=by simp
  rw[ez];refine wpAny_bind (wpAny_mono (zSP (l:=vs.zip vs) (s:={ s with heap:=h6 }) (Q:=fun _ st'=>∃l',arrOf st'=l'.toArray/\failedOf st'=none/\l'.Perm (vs.zip vs)/\Srt (ltv h6) l') (zTP h6) (zQb (s:={ s with heap:=h6 }) hκ hu) (fun x hx=>hv6 _ (mem_zip_self hx).2) (by simp;omega)
   fun l' st' a1 a2 a3 a4=>⟨l',a1,a2,a3,a4⟩) ?_ fun _ _ e=>e)
  rintro⟨⟨⟩,st'⟩ s' ⟨rfl,l',e1',hf,hp,hs⟩;dsimp only;refine wpAny_bind (seqEpoch_at ho6 rfl ?_);have eo:(arrOf st').map (·.2)=(l'.map (·.2)).toArray:=by rw[e1'];simp
  have po:(l'.map (·.2)).Perm vs:=by have:=hp.map (·.2);rwa[qO2 (qB1 _)]at this
  rw[eo];refine wpAny_bind (listUpdate_at ho6 rfl ?_ (hsz2:=by rw[qA9,po.length_eq];omega));rw[hf];simp only[bne_self_eq_false,qE6,if_false];refine wpAny_pure (fin _ po ?_);rw[qG1];refine hs.imp_of_mem fun{x y} hx hy hxy=>?_;have m1:=mem_zip_self (hp.mem_iff.mp hx);have m2:=mem_zip_self (hp.mem_iff.mp hy);unfold ltv at hxy;rw[kd6 _ m1.2,kd6 _ m2.2]at hxy;rw[<- m1.1,<- m2.1];exact hxy
end
open PySem PySem.Spec PyProof.Rows
section
variable {prog:Program}{w:World}{A:Around}{E:yL}{s:Shared}{r:Addr}
theorem zGz{T:String}{l:Addr}{vs:yB}{Q:yB->Shared->Prop}{o:Obj}{n:Nat}(ho:s.heap.get? l=some o)(hc:o.cls=.type T)(hd:o.data=.seq vs.toArray n)(hT:T = "list"∨T = "tuple")
  (h:Q vs { s with heap:=(s.heap.push (seqObj "list" #[] 0)).update s.heap.objs.size (Obj.mapSeq (·++vs.toArray)) }) (hsz:vs.length<=sizeLine) :
  wpAny (model prog w) A (collect (.ref l)) Q E s:=by
 unfold collect;refine wpAny_bind (wpAny_runValue (codeAny_builtin entry_proto_collect' ?_));show wpAny _ _ (do again (.builtin "list.__iadd__" ⟨[<- newList [],.ref l],[]⟩)) _ _ s;refine wpAny_bind (wpAny_newList (wpAny_pure ⟨Code.quiet_builtin _ (by decide +kernel),codeAny_builtin entry_list_iadd' ?_⟩) (qG3 _));show wpAny _ _ (Builtin.List.listExtendWith (.ref s.heap.objs.size) (.ref l) (.ref s.heap.objs.size)) _ _ { s with heap:=s.heap.push (seqObj "list" #[] 0) };unfold Builtin.List.listExtendWith;have ho':(s.heap.push (seqObj "list" #[] 0)).get? l=some o:=qA6 _ ho;refine wpAny_bind (wpAny_typeOf (T:=T) ⟨o,ho',hc⟩ ?_);have ht:(Builtin.List.listSameRef (.ref s.heap.objs.size) (.ref l)||Value.type T == Value.type "list"||Value.type T == Value.type "tuple")=true:=by
  rcases hT with rfl|rfl
  ·rw[show(Value.type "list" == Value.type "list")=true from rfl];simp
  ·rw[show(Value.type "tuple" == Value.type "tuple")=true from rfl];simp
 rw[if_pos ht];refine wpAny_bind (listItems_at ho' hd ?_);refine wpAny_bind (listItems_at (xs:=#[]) (n:=0) (qB7 _ rfl) rfl ?_);rw[if_neg (by simp)];refine wpAny_bind (listUpdate_at (xs:=#[]) (n:=0) (qB7 _ rfl) rfl ?_ (qG3 _) (by show(#[]++vs.toArray).size<=sizeLine+1;simp only[Array.size_append,qA9,qH7];omega));refine wpAny_pure ?_;show wpAny (model prog w) A (do
   let o <- load s.heap.objs.size
   match o.data with
   |.seq xs _=>pure xs.toList
   | _=>unsupported "internal:collect") Q E { s with heap:=(s.heap.push (seqObj "list" #[] 0)).update s.heap.objs.size (Obj.mapSeq (·++vs.toArray)) }
 refine wpAny_bind (wpAny_load (get?_update_seq (qB7 _ rfl) _) ?_);show wpAny _ _ (pure ((#[]:yJ)++vs.toArray).toList) Q E _;rw[show((#[]:yJ)++vs.toArray).toList=vs by simp];exact wpAny_pure h
theorem zHh(h:Heap)(vs:yB):∀b o,h.get? b=some o->((h.push (seqObj "list" #[] 0)).update h.objs.size (Obj.mapSeq (·++vs.toArray))).get? b=some o:=fun b o g=>by rw[Heap.get?_update_ne _ _ _ _ (qC8 (qB8 g))];exact qA6 _ g
theorem zKf{α β:Type}(f:α->β){m n:List β}(h:m.Perm n):∀l:List α,n=l.map f->∃l':List α,l'.Perm l/\m=l'.map f:=by
 induction h with
 |nil=>intro l e;exact⟨[],by cases l with|nil=>exact .refl _|cons _ _=>simp at e,rfl⟩
 |cons x p ih =>
  intro l e;cases l with
  |nil=>simp at e
  |cons a l =>
   rw[qB5]at e;injection e with e1 e2;obtain⟨l',p',q⟩:=ih l e2;exact⟨a::l',p'.cons a,by rw[qB5,e1,q]⟩
 |swap x y l =>
  intro l e
  match l,e with
  |[],e=>simp at e
  |[_],e=>simp at e
  |a::b::l,e =>
   simp only[qB5]at e;injection e with e1 e2;injection e2 with e2 e3;exact⟨b::a::l,.swap a b l,by simp[e1,e2,e3]⟩
 |trans p q ih1 ih2 =>
  intro l e;obtain⟨l1,p1,e1⟩:=ih2 l e;obtain⟨l2,p2,e2⟩:=ih1 l1 e1;exact⟨l2,p2.trans p1,e2⟩
abbrev LexS(ts:List (Addr×yA)):Prop:=ts.Pairwise fun x y=>HT.lexLt y.2 x.2=false
theorem zHd{Q:yL}{ts:List (Addr×yA)}(hl:ts.length<=sizeLine)(hT:∀t∈ts,TupI s.heap (.ref t.1) t.2)(hu:A.units+2<cLine)
  (hc:∀(A:Around) (E:yL) (R:yB->Shared->Prop),A.handled=none->(∀(h':Heap) (tk:Nat) (dr:Drawn),(∀b o,s.heap.get? b=some o->h'.get? b=some o)->R (ts.map fun t=>.ref t.1) { s with heap:=h',toks:=tk,drawn:=dr })->wpAny (model prog w) A (collect (.ref r)) R E s)
  (hh:A.handled=none)
  (h:∀(h1:Heap) (l:Addr) (h':Heap) (tk:Nat) (dr:Drawn) (e:Nat) (ts':List (Addr×yA)),(∀b o,s.heap.get? b=some o->h1.get? b=some o)->(∀b o,h1.get? b=some o->h'.get? b=some o)->h1.objs.size<=l->h'.get? l=some (seqObj "list" (ts'.map fun t=>Value.ref t.1).toArray e)->ts'.Perm ts->LexS ts'->Q (.ref l) { s with heap:=h',toks:=tk,drawn:=dr }) :
  wpAny (model prog w) A (call (.builtin "sorted") [.ref r]) Q E s:=by
 refine Calls.call_function_entry kind_sorted plain_sorted entry_sorted (args_sorted1 _) ?_;unfold Builtin.«sorted»;refine wpAny_bind (m:=checkCount "sorted" 1 1 _) (wpAny_pure ?_);refine wpAny_bind (hc _ _ _ hh fun h' tk dr hk=>?_);have hlen:(ts.map fun t=>Value.ref t.1).length=ts.length:=by simp
 refine wpAny_bind (wpAny_newList ?_ (by rw[hlen];exact hl));have hoL:(h'.push (seqObj "list" (ts.map fun t=>Value.ref t.1).toArray 0)).get? h'.objs.size=some (seqObj "list" (ts.map fun t=>Value.ref t.1).toArray 0):=qB7 _ rfl;show wpAny _ _ _ _ _ { s with heap:=h'.push (seqObj "list" (ts.map fun t=>Value.ref t.1).toArray 0),toks:=tk,drawn:=dr };have tI:∀t∈ts,TupI (h'.push (seqObj "list" (ts.map fun t=>Value.ref t.1).toArray 0)) (.ref t.1) t.2:=fun t ht=>(hT t ht).mono fun b o _ g=>qA6 _ (hk b o g);refine wpAny_bind (wpAny_holding (wpAny_call_entry slot_list_sort ⟨_,hoL,rfl⟩ entry_list_sort (zNJ hoL (fun v hv=>?_) (by rw[hlen];exact hl) (by show A.units+1+1<cLine;omega) fun out a1 a2=>⟨_,rfl,?_⟩) (args_list_sort _)))
 ·obtain⟨t,ht,rfl⟩:=qB6.mp hv;exact⟨t.2,tI t ht⟩
 obtain⟨ts',p',rfl⟩:=zKf _ a1 ts rfl;obtain⟨e,he⟩:=sortedHeap_at (out:=(ts'.map fun t=>Value.ref t.1).toArray) hoL;refine wpAny_pure ⟨_,rfl,h h' h'.objs.size _ tk dr e ts' hk (fun b o g=>?_) (qB1 _) he p' ?_⟩
 ·have lt:b<h'.objs.size:=qB8 g;rw[sortedHeap_old (qC8 lt) (by rw[size_push'];exact qG7 lt)];exact qA6 _ g
 ·rw[qG1]at a2;refine a2.imp_of_mem fun{x y} hx hy hxy=>?_;rwa[(tI x (p'.mem_iff.mp hx)).kd,(tI y (p'.mem_iff.mp hy)).kd]at hxy
end
section
variable {X:Cx}
theorem zNy{pins:yD}{σ:St}{H:Hp}{s:Shared}{a:Addr}{ns:yA}(I:Inv X pins σ H s)(h:SqT X.K H a (ns.map V.int)):TupI s.heap (.ref a) ns:=by obtain⟨its,r,p,_⟩:=I.tuple h;exact⟨a,its.toArray,rfl,p,by simpa using zEY r⟩
theorem zIY:∀{ts:List (Addr×yA)}{us:yB},Vals (ts.map fun t=>V.ref t.1) us->us=ts.map fun t=>Value.ref t.1
 |[],us,r=>by rw[qH2]at r;cases r;rfl
 |t::ts,us,r=>by
  rw[qB5]at r;cases r with
  |cons h r =>
   rw[zIY r];cases h;rfl
theorem zFM:∀(ts:List (Addr×yA)),Vals (ts.map fun t=>V.ref t.1) (ts.map fun t=>Value.ref t.1)
 |[]=>.nil
 |t::ts=>.cons rfl (zFM ts)
theorem zJB(hc:X.calm=true):zBE X (.builtin "sorted") (fun vs H Q=>∃(p:Addr) (ns:yA),vs=[.ref p]/\SqT X.K H p (ns.map V.int)/\ns.length<64/\∀(l:Addr) (ms:yA),H l=none->ms.Perm ns->ms.Pairwise (·<=·)->Q (.ref l) (upd H l (.lst (ms.map V.int)))):=by
 intro pins s σ H xs us Q I r h;obtain⟨p,ns,rfl,hq,hn,q⟩:=h;obtain⟨u,rfl,ru⟩:=zDe r;cases ru;obtain⟨its,rv,⟨o,ho,hcl,n,hd⟩,hz⟩:=I.tuple hq;have hlen:=rv.length;rw[qA0]at hlen;refine zIN hn (fun A E R hA hR=>zGz ho hcl hd (.inr rfl) (hR _ s.toks s.drawn its ns (zHh _ _) (zEY rv) (.refl _)) (by rw[<- hlen,sizeLine_eq];omega)) (I.ok.hd hc) fun h2 l2 h3 tk3 dr e us ms k2 k3 le g3 hi hpm hw=>?_;have I2:Inv X pins σ H { s with heap:=h2,toks:=tk3,drawn:=dr }:=(I.kept (t':=tk3) fun b o e=>k2 b o e).dr dr;refine⟨.ref l2,_,I2.laid (t':=tk3) (o:=.lst (ms.map V.int)) k3 le ?_,rfl,q _ _ (I2.hok.fresh le) hpm hw⟩;have hl2:ms.length<64:=by rw[hpm.length_eq];exact hn
 exact⟨by rw[qA0];exact qD3 (qH1 hl2) (by decide),us,e,zGf hi,by simpa[seqObj]using g3⟩
theorem zIk(hc:X.calm=true)(hu:X.A.units+2<cLine):zBE X (.builtin "sorted") (fun vs H Q=>∃(p:Addr) (ts:List (Addr×yA)),vs=[.ref p]/\SqL X.K H p (ts.map fun t=>V.ref t.1)/\(∀t∈ts,SqT X.K H t.1 (t.2.map V.int)) /\
  ∀(l:Addr) (ts':List (Addr×yA)),H l=none->ts'.Perm ts->LexS ts'->Q (.ref l) (upd H l (.lst (ts'.map fun t=>V.ref t.1)))):=by intro pins s σ H xs us Q I r h;obtain⟨p,ts,rfl,hq,ht,q⟩:=h;obtain⟨u,rfl,ru⟩:=zDe r;cases ru;obtain⟨its,rv,⟨o,n,ho,hcl,hdd,hd⟩,hz⟩:=I.list hq;have ei:=zIY rv;subst ei;rw[qA0]at hz;refine zHd hz (fun t h=>zNy I (ht t h)) hu (fun A E R hA hR=>zGz ho hcl hd (.inl rfl) (hR _ s.toks s.drawn (zHh _ _)) (by rw[qA0];exact hz)) (I.ok.hd hc) fun h2 l2 h3 tk3 dr e ts' k2 k3 le g3 hp hs=>?_;have I2:Inv X pins σ H { s with heap:=h2,toks:=tk3,drawn:=dr }:=(I.kept (t':=tk3) fun b o e=>k2 b o e).dr dr;refine⟨.ref l2,_,I2.laid (t':=tk3) (o:=.lst (ts'.map fun t=>V.ref t.1)) k3 le ?_,rfl,q _ _ (I2.hok.fresh le) hp hs⟩;exact⟨by rw[qA0,hp.length_eq];exact hz,_,e,zFM ts',by simpa[seqObj]using g3⟩
theorem zTV{prog:Program}{w:World}{d:Addr}{es:Array DictEntry}{ep:Nat}(lo:(d == sysModules)=false):W.KdlSrc prog w "dict" d d es.size (fun i v=>∃e,es[i]?=some e/\v=e.key) (fun h=>Raw h d es ep) where
 type:=fun _ ⟨o,ho,hc,_⟩=>⟨o,ho,hc⟩
 there:=fun _ hm=>⟨hm.lt,hm.lt⟩
 keep:=fun _ _ hm hk=>hm.at fun o e=>hk d (.inl rfl) o e
 notList:=by decide
 notTuple:=by decide
 hint:=fun _ _ _ _ ⟨o,ho,hc,_⟩ hq=>W.kdl_hint_dict ⟨o,ho,hc⟩ hq
 iter:=fun A s hh hm=>⟨_,fun i h=>h.IsKeyIter s.heap.objs.size d i es.size ep/\Raw h d es ep,(fun _ _ hq=>zR8 lo hm hq),{
  sub:=fun b hb=>by simp at hb;simp[hb]
  frame:=fun _ _ _ st hk=>⟨st.1.at fun o e=>hk _ (by simp) o e,st.2.at fun o e=>hk d (by simp) o e⟩
  item:=fun i s' Q E hi st hQ=>by refine zZm st.1 st.2 (show es[i]?=some es[i] by simp[hi]) fun h' hit hs=>?_;exact hQ _ h' s'.toks ⟨_,by simp[hi],rfl⟩ ⟨hit,st.2.at fun o e=>hs.extBut d o (qC8 hm.lt) e⟩ fun b o hb e=>hs.extBut b o (fun h=>hb (by simp[h])) e
  done:=fun s' Q E st hQ=>kend hh st.1 st.2 (by simp) fun h' he'=>hQ h' s'.toks fun b o hb e=>he' b o (fun h=>hb (by simp[h])) e
  self:=fun _ _ _ _ st hQ=>wpAny_pyIter_keyiter st.1 hQ },⟨⟨_,qB7 _ rfl,rfl,rfl⟩,hm.at fun o e=>qA6 _ e⟩⟩
theorem zTT{H:Hp}:∀{nss:List (yA)}{kvs:List (List Key×V)}{xs:List (List Key×Addr×Value)},KT H kvs xs->kvs.map (·.1)=nss.map (·.map Sum.inl)->∃ts:List (Addr×yA),ts.map (·.2)=nss/\xs.map (fun x=>x.2.1)=ts.map (·.1)/\∀t∈ts,H t.1=some (.tup (t.2.map V.int)):=by
 intro nss kvs xs r
 induction r generalizing nss with
 |nil =>
  intro e;cases nss with
  |nil=>exact⟨[],rfl,rfl,fun t h=>(by cases h)⟩
  |cons _ _=>simp at e
 |@cons p q ps qs hq t ih =>
  intro e;cases nss with
  |nil=>simp at e
  |cons ns nss =>
   simp only[qB5]at e;injection e with e1 e2;obtain⟨ts,a,b,c⟩:=ih e2;refine⟨(q.2.1,ns)::ts,by simp[a],by simp[b],fun t ht=>?_⟩;rcases qC0.mp ht with rfl|ht
   ·have:=hq.2.1;rw[e1,qD9]at this;exact this
   ·exact c t ht
theorem zIl(hc:X.calm=true)(hu:X.A.units+2<cLine):zBE X (.builtin "sorted") (fun vs H Q=>∃(p:Addr) (kvs:List (List Key×V)) (nss:List (yA)),vs=[.ref p]/\H p=some (.dT kvs)/\kvs.map (·.1)=nss.map (·.map Sum.inl) /\
  ∀(l:Addr) (ts:List (Addr×yA)),H l=none->(∀t∈ts,H t.1=some (.tup (t.2.map V.int)))->(ts.map (·.2)).Perm nss->LexS ts->Q (.ref l) (upd H l (.lst (ts.map fun t=>V.ref t.1)))):=by
 intro pins s σ H xs us Q I r h;obtain⟨p,kvs,nss,rfl,hp,hk,q⟩:=h;obtain⟨u,rfl,ru⟩:=zDe r;cases ru;obtain⟨hz,lo,xs,kt,o,es,ep,ho,hx,hd,he,hn⟩:=(show zC9 X.prog X.w H s.heap p (.dT kvs)from I.hok p _ hp)
 obtain⟨ts,t1,t2,t3⟩:=zTT kt hk;have hl:es.size=ts.length:=by have a1:=congrArg qM4 he;have a2:=congrArg qM4 t2;simp at a1 a2;omega
 have hl2:ts.length<=sizeLine:=by have a1:=congrArg qM4 t1;have a2:=congrArg qM4 hk;simp at a1 a2;omega
 have raw:Raw s.heap p es ep:=⟨o,ho,hx.1,hd⟩
 refine zHd hl2 (fun t h=>zNy I (SqT.of (t3 t h))) hu (fun A E R hA hR=>W.kdu_collect (zTV (es:=es) (ep:=ep) lo) hA raw (by omega) fun h' tk acc hk2 hacc=>?_) (I.ok.hd hc) fun h2 l2 h3 tk3 dr e ts' k2 k3 le g3 hp2 hs=>?_
 ·have ea:acc.toList=ts.map fun t=>Value.ref t.1:=by
   apply List.ext_getElem?;intro j;have hsz:acc.toList.length=ts.length:=by rw[Array.length_toList,hacc.1,hl]
   by_cases hj:j<ts.length
   ·obtain⟨v,ev⟩:∃v,acc.toList[j]?=some v:=⟨_,qA5 (by omega)⟩
    obtain⟨en,e3,e4⟩:=hacc.2 j v (by rw[<- Array.getElem?_toList];exact ev);rw[ev,e4,<- Array.getElem?_toList,he,qC1]at *;obtain⟨x,e5,e6⟩:=qA4.mp e3;have e7:=congrArg (·[j]?) t2;simp only[qC1,e5,qO7]at e7;obtain⟨t,e8,e9⟩:=qA4.mp e7.symm;rw[e8,<- e6];simp[entryOfKey,e9]
   ·rw[qL9 (by omega),qL9 (by simp;omega)]
  rw[ea];exact hR h' tk s.drawn hk2
 ·have I2:Inv X pins σ H { s with heap:=h2,toks:=tk3,drawn:=dr }:=(I.kept (t':=tk3) fun b o e=>k2 b o e).dr dr;refine⟨.ref l2,_,I2.laid (t':=tk3) (o:=.lst (ts'.map fun t=>V.ref t.1)) k3 le ?_,rfl,q _ _ (I2.hok.fresh le) (fun t h=>t3 t (hp2.mem_iff.mp h)) (by rw[<- t1];exact hp2.map _) hs⟩;exact⟨by rw[qA0,hp2.length_eq];exact hl2,_,e,zFM ts',by simpa[seqObj]using g3⟩
end
open PySem PySem.Spec PyProof.Rows
section
variable {X:Cx}
theorem zJ8{prog:Program}{w:World}{K:Type}[DecidableEq K]{knd:KeyKind prog w K}(d:Addr){k:K}{key:Value}(hkey:knd.is k key=true)(dv:Value)(lo:(d == sysModules)=false):MeetsIn prog w (Builtin.«dict.setdefault» ⟨[.ref d,key,dv],[]⟩) (fun _ R s=>∃kvs,s.heap.DictOf knd d kvs/\kvs.length<=sizeLine /\
   (∀v,valueAt kvs k=some v->R (.ok (.ret v)) { s with toks:=s.toks+1 }) /\
   (valueAt kvs k=none->∀h',h'.DictOf knd d (stored kvs k dv)->qE1 d s.heap h'->R (.ok (.ret dv)) { s with heap:=h',toks:=s.toks+1 })) :=
 .of_wp fun A R s ⟨kvs,hm,hz,h1,h2⟩=>by unfold Builtin.«dict.setdefault» Builtin.Dict.keyAndDefault;refine wpAny_bind (wpAny_bind (wpAny_notOrdered_dict hm.typeIs (wpAny_pure ?_)));show wpAny _ _ (if(d == sysModules)=true then _ else(dictSetDefault d key dv >>= _)) _ _ s;rw[if_neg (by rw[lo];exact qB0)];exact wpAny_bind (kt_dictSetDefault_pairs (hsz:=hz) hkey hm (fun v hv=>wpAny_pure ⟨v,rfl,h1 v hv⟩) fun hn h' hm' hs'=>wpAny_pure ⟨dv,rfl,h2 hn h' hm' hs'⟩)
theorem zHk:MtR X "dict.setdefault" (fun x vs H Q=>∃a kvs k z,x=.ref a/\vs=[kV k,z]/\H a=some (.dK kvs)/\(∀v,valV kvs k=some v->Q v H)/\(valV kvs k=none->kvs.length<sizeLine/\Q z (upd H a (.dK (putK kvs k z))))):=by
 intro pins s σ H x xs v us Q I rx rs h;obtain⟨a,kvs,k,z,rfl,rfl,ha,h1,h2⟩:=h;cases rx;obtain⟨u1,u2,rfl,r1,r2⟩:=zMa rs;obtain⟨z0,lo,vs,rel,dd⟩:=zPe I.hok ha;have hz:vs.length<=sizeLine:=by rw[<- rel.length];exact z0
 refine call_meetsIn PySem.F.slot_dict_setdefault dd.typeIs PySem.F.entry_dict_setdefault (PySem.F.args_dict_setdefault_3 _ _ _) (zJ8 a (zKs (P:=X.prog) (w:=X.w) r1) u2 lo) ⟨vs,dd,hz,fun p e=>?_,fun e h' d' hs=>?_⟩
 ·have q:=rel.val k;rw[e]at q;cases q2:valV kvs k with
  |none=>rw[q2]at q;exact False.elim q
  |some v=>rw[q2]at q;exact⟨v,H,I.tok _,q,h1 v q2⟩
 ·have q:=rel.val k;rw[e]at q;have q2:valV kvs k=none:=by
   cases q2:valV kvs k with
   |none=>rfl
   |some v=>rw[q2]at q;exact False.elim q
  have hl:(putK kvs k z).length<=sizeLine:=by have:=zCY kvs k z;have:=(h2 q2).1;omega
  have he:∃q,h'.get? a=some q:=let ⟨q,_,_,hq,_⟩:=d';⟨q,hq⟩
  exact⟨z,upd H a (.dK (putK kvs k z)),zGv I (by rw[ha];exact True.intro) hs he (zPf hl lo (rel.put k r2) d'),r2,(h2 q2).2⟩
end
open PySem PySem.Spec PyProof.Rows
inductive D where
 |non|bl (b:Bool)| int (i:Int)| str (x:Str)| ty (n:String)| tup (xs:List D)| lst (n:Nat)| dct (n:Nat)| rol (xs:List D)
inductive O where
 |lst (xs:List D)| dk (kvs:List (Key×D))| dt (kvs:List (List Key×D))
noncomputable abbrev zA0:=List O
noncomputable abbrev Env1:=List (Option D)
def SqF(K:W.Frag)(H:Hp)(a:Addr)(xs:List V):Prop:=(∃o,H a=some (.frz o (.lst xs))) ∨
  ∃(o:Obj) (its:yJ) (n:Nat),K.lookup a=some o/\o.cls=.type "list"/\o.dict=none/\o.data=.seq its n/\its.size<=sizeLine/\Vals xs its.toList
theorem SqF.sq{K:W.Frag}{H:Hp}{a:Addr}{xs:List V}(h:SqF K H a xs):SqL K H a xs:=by
 rcases h with⟨o,h⟩| h
 ·exact .inl (.inr ⟨o,h⟩)
 ·exact .inr h
structure TF(K:W.Frag)(H H':Hp):Prop where
 t:TK K H H'
 f:∀a xs,SqF K H a xs->SqF K H' a xs
 u:∀a xs,H a=some (.tup xs)->H' a=some (.tup xs)
theorem TF.refl(K:W.Frag)(H:Hp):TF K H H:=⟨TK.refl K H,fun _ _ h=>h,fun _ _ h=>h⟩
theorem TF.trans{K:W.Frag}{H H1 H2:Hp}(a:TF K H H1)(b:TF K H1 H2):TF K H H2:=⟨a.t.trans b.t,fun p xs h=>b.f p xs (a.f p xs h),fun p xs h=>b.u p xs (a.u p xs h)⟩
theorem zYf{K:W.Frag}{H H':Hp}{p:Addr}(h:∀q o,q≠p->H q=some o->H' q=some o)(nt:∀xs,H p≠some (.tup xs))(nf:∀x y,H p≠some (.frz x y)):TF K H H':=by
 refine⟨fun q ys e=>?_,fun q ys e=>?_,fun q ys e=>h _ _ (fun z=>nt _ (z▸e)) e⟩
 ·rcases e with(e|⟨w,e⟩)| e
  ·exact .inl (.inl (h _ _ (fun z=>nt _ (z▸e)) e))
  ·exact .inl (.inr ⟨w,h _ _ (fun z=>nf _ _ (z▸e)) e⟩)
  ·exact .inr e
 ·rcases e with⟨w,e⟩| e
  ·exact .inl ⟨w,h _ _ (fun z=>nf _ _ (z▸e)) e⟩
  ·exact .inr e
theorem zEc{K:W.Frag}{H:Hp}{p:Addr}{u o:HO}(e:H p=some u)(nt:∀xs,u≠.tup xs)(nf:∀x y,u≠.frz x y):TF K H (upd H p o) :=
 zYf (p:=p) (fun q v hq h=>by rw[zAb hq];exact h) (fun xs h=>by rw[e]at h;exact nt xs (Option.some.inj h)) (fun x y h=>by rw[e]at h;exact nf x y (Option.some.inj h))
theorem zLp{K:W.Frag}{H:Hp}{p:Addr}{xs:List V}{o:HO}(e:H p=some (.lst xs)):TF K H (upd H p o):=zEc e (fun _ z=>by cases z) (fun _ _ z=>by cases z)
theorem zNC{K:W.Frag}{H H':Hp}(h:Same H H'):TF K H H':=⟨fun p xs e=>h.tup e,fun q ys e=>by
 rcases e with⟨w,e⟩| e
 ·exact .inl ⟨w,h _ _ e⟩
 ·exact .inr e,fun _ _ e=>h _ _ e⟩
mutual
def RV(K:W.Frag)(H:Hp)(μ:yC):D->V->Prop
 |.non,v=>v=.non
 |.bl b,v=>v=.bl b
 |.int i,v=>v=.int i
 |.str x,v=>v=.str x
 |.ty n,v=>v=.ty n
 |.tup xs,v=>∃p vs,v=.ref p/\H p=some (.tup vs)/\RVs K H μ xs vs
 |.lst n,v=>∃a,v=.ref a/\μ[n]?=some a
 |.dct n,v=>∃a,v=.ref a/\μ[n]?=some a
 |.rol xs,v=>∃p vs,v=.ref p/\SqF K H p vs/\RVs K H μ xs vs
def RVs(K:W.Frag)(H:Hp)(μ:yC):List D->List V->Prop
 |[],vs=>vs=[]
 |d::ds,vs=>∃v ws,vs=v::ws/\RV K H μ d v/\RVs K H μ ds ws
end
def RKs{κ:Type}(K:W.Frag)(H:Hp)(μ:yC)(kvs:List (κ×D))(ws:List (κ×V)):Prop:=kvs.map (·.1)=ws.map (·.1)/\RVs K H μ (kvs.map (·.2)) (ws.map (·.2))
def OR(K:W.Frag)(H:Hp)(μ:yC)(a:Addr):O->Prop
 |.lst xs=>∃vs,H a=some (.lst vs)/\RVs K H μ xs vs
 |.dk kvs=>∃ws,H a=some (.dK ws)/\RKs K H μ kvs ws
 |.dt kvs=>∃ws,H a=some (.dT ws)/\RKs K H μ kvs ws
structure SR(K:W.Frag)(μ:yC)(S:zA0)(H:Hp):Prop where
 len:μ.length=S.length
 nd:μ.Nodup
 obj:∀(n:Nat) (a:Addr) (o:O),μ[n]?=some a->S[n]?=some o->OR K H μ a o
structure Step(K:W.Frag)(μ μ':yC)(H H':Hp):Prop where
 pre:∃ν,μ'=μ++ν/\∀b∈ν,H b=none
 fr:∀b o,b∉μ->H b=some o->H' b=some o
 tk:TF K H H'
section
variable {K:W.Frag}{H H' H1 H2:Hp}{μ μ' μ1 μ2:yC}{S S':zA0}
mutual
theorem RV.up(tk:TF K H H')(pre:∃ν,μ'=μ++ν):∀(d:D) (v:V),RV K H μ d v->RV K H' μ' d v
 |.non,v,h=>by simpa[RV]using h
 |.bl b,v,h=>by simpa[RV]using h
 |.int i,v,h=>by simpa[RV]using h
 |.str x,v,h=>by simpa[RV]using h
 |.ty n,v,h=>by simpa[RV]using h
 |.tup xs,v,h=>by unfold RV at h ⊢;obtain⟨p,vs,e,q,r⟩:=h;exact⟨p,vs,e,tk.u p vs q,RVs.up tk pre xs vs r⟩
 |.lst n,v,h=>by unfold RV at h ⊢;obtain⟨a,e,q⟩:=h;obtain⟨ν,rfl⟩:=pre;exact⟨a,e,by rw[qA8 (qA2.mp q).1];exact q⟩
 |.dct n,v,h=>by unfold RV at h ⊢;obtain⟨a,e,q⟩:=h;obtain⟨ν,rfl⟩:=pre;exact⟨a,e,by rw[qA8 (qA2.mp q).1];exact q⟩
 |.rol xs,v,h=>by unfold RV at h ⊢;obtain⟨p,vs,e,q,r⟩:=h;exact⟨p,vs,e,tk.f p vs q,RVs.up tk pre xs vs r⟩
theorem RVs.up(tk:TF K H H')(pre:∃ν,μ'=μ++ν):∀(ds:List D) (vs:List V),RVs K H μ ds vs->RVs K H' μ' ds vs
 |[],vs,h=>by simpa[RVs]using h
 |d::ds,vs,h=>by unfold RVs at h ⊢;obtain⟨v,ws,e,r,q⟩:=h;exact⟨v,ws,e,RV.up tk pre d v r,RVs.up tk pre ds ws q⟩
end
theorem RVs.len:∀{ds:List D}{vs:List V},RVs K H μ ds vs->ds.length=vs.length
 |[],vs,h=>by unfold RVs at h;subst h;rfl
 |d::ds,vs,h=>by unfold RVs at h;obtain⟨v,ws,rfl,_,q⟩:=h;rw[qD1,qD1,RVs.len q]
theorem RVs.nil:RVs K H μ [] []:=by unfold RVs;rfl
theorem RVs.cons{d:D}{v:V}{ds:List D}{vs:List V}(h:RV K H μ d v)(t:RVs K H μ ds vs):RVs K H μ (d::ds) (v::vs):=by unfold RVs;exact⟨v,vs,rfl,h,t⟩
theorem RVs.get:∀{ds:List D}{vs:List V}{i:Nat}{d:D},RVs K H μ ds vs->ds[i]?=some d->∃v,vs[i]?=some v/\RV K H μ d v
 |[],vs,i,d,h,e=>by simp at e
 |x::ds,vs,0,d,h,e=>by unfold RVs at h;obtain⟨v,ws,rfl,r,q⟩:=h;simp at e;subst e;exact⟨v,rfl,r⟩
 |x::ds,vs,i+1,d,h,e=>by unfold RVs at h;obtain⟨v,ws,rfl,r,q⟩:=h;obtain⟨u,e1,e2⟩:=RVs.get (i:=i) (d:=d) q (by simpa using e);exact⟨u,by simpa using e1,e2⟩
theorem RVs.append:∀{ds es:List D}{vs us:List V},RVs K H μ ds vs->RVs K H μ es us->RVs K H μ (ds++es) (vs++us)
 |[],es,vs,us,h,g=>by unfold RVs at h;subst h;exact g
 |d::ds,es,vs,us,h,g=>by unfold RVs at h;obtain⟨v,ws,rfl,r,q⟩:=h;exact .cons r (RVs.append q g)
theorem RVs.take:∀{ds:List D}{vs:List V} (n:Nat),RVs K H μ ds vs->RVs K H μ (ds.take n) (vs.take n)
 |_,_,0,_=>by simp;exact .nil
 |[],vs,n+1,h=>by unfold RVs at h;subst h;exact .nil
 |d::ds,vs,n+1,h=>by unfold RVs at h;obtain⟨v,ws,rfl,r,q⟩:=h;exact .cons r (RVs.take n q)
theorem RVs.drop:∀{ds:List D}{vs:List V} (n:Nat),RVs K H μ ds vs->RVs K H μ (ds.drop n) (vs.drop n)
 |_,_,0,h=>by simpa using h
 |[],vs,n+1,h=>by unfold RVs at h;subst h;exact .nil
 |d::ds,vs,n+1,h=>by unfold RVs at h;obtain⟨v,ws,rfl,r,q⟩:=h;exact RVs.drop n q
theorem RVs.set{d:D}{v:V}(g:RV K H μ d v):∀{ds:List D}{vs:List V} (n:Nat),RVs K H μ ds vs->RVs K H μ (ds.set n d) (vs.set n v)
 |[],vs,n,h=>by unfold RVs at h;subst h;exact .nil
 |x::ds,vs,0,h=>by unfold RVs at h;obtain⟨u,ws,rfl,r,q⟩:=h;exact .cons g q
 |x::ds,vs,n+1,h=>by unfold RVs at h;obtain⟨u,ws,rfl,r,q⟩:=h;exact .cons r (RVs.set g n q)
theorem RVs.ints{ns:yA}:RVs K H μ (ns.map D.int) (ns.map V.int):=by
 induction ns with
 |nil=>exact .nil
 |cons a r ih=>exact .cons (by unfold RV;rfl) ih
theorem RKs.up{κ:Type}(tk:TF K H H')(pre:∃ν,μ'=μ++ν){kvs:List (κ×D)}{ws:List (κ×V)}(h:RKs K H μ kvs ws):RKs K H' μ' kvs ws:=⟨h.1,RVs.up tk pre _ _ h.2⟩
theorem SR.isS(sr:SR K μ S H){a:Addr}(h:a∈μ):∃o,H a=some o:=by
 obtain⟨n,hn⟩:=qI5 h;have hl:n<S.length:=by rw[<- sr.len];exact(qA2.mp hn).1
 have q:=sr.obj n a S[n] hn (qA5 hl);revert q;generalize S[n]=o;intro q;cases o with
 |lst xs=>obtain⟨vs,e,_⟩:=q;exact⟨_,e⟩
 |dk kvs=>obtain⟨vs,e,_⟩:=q;exact⟨_,e⟩
 |dt kvs=>obtain⟨vs,e,_⟩:=q;exact⟨_,e⟩
theorem SR.out(sr:SR K μ S H){a:Addr}(h:H a=none):a∉μ:=fun m=>by obtain⟨o,e⟩:=sr.isS m;rw[h]at e;cases e
theorem Step.refl(K:W.Frag)(μ:yC)(H:Hp):Step K μ μ H H:=⟨⟨[],by simp,by simp⟩,fun _ _ _ h=>h,TF.refl K H⟩
theorem Step.mem(st:Step K μ μ' H H'){a:Addr}(h:a∈μ):a∈μ':=by obtain⟨ν,rfl,_⟩:=st.pre;exact qC7 _ h
theorem Step.ext(st:Step K μ μ' H H'):∃ν,μ'=μ++ν:=let ⟨ν,e,_⟩:=st.pre;⟨ν,e⟩
theorem Step.trans(a:Step K μ μ1 H H1)(b:Step K μ1 μ2 H1 H2)(nd:μ2.Nodup):Step K μ μ2 H H2:=by
 obtain⟨ν,e,n1⟩:=a.pre;obtain⟨ν',e',n2⟩:=b.pre;have nd':(μ++ν++ν').Nodup:=by rw[<- e,<- e'];exact nd
 refine⟨⟨ν++ν',by rw[e',e,qC2],fun c hc=>?_⟩,fun c o hc h=>?_,a.tk.trans b.tk⟩
 ·rcases qB2.mp hc with h|h
  ·exact n1 c h
  ·have hn:=n2 c h;cases q:H c with
   |none=>rfl
   |some o =>
    have:c∉μ:=fun hm=>by have:=(qE8.mp nd').2.2 c (qC7 _ hm) c h;exact this rfl
    rw[a.fr c o this q]at hn;cases hn
 ·refine b.fr c o (fun hm=>?_) (a.fr c o hc h);rw[e]at hm;rcases qB2.mp hm with h'|h'
  ·exact hc h'
  ·rw[n1 c h']at h;cases h
theorem OR.up(tk:TF K H H')(pre:∃ν,μ'=μ++ν){a:Addr}(e:H' a=H a):∀{o:O},OR K H μ a o->OR K H' μ' a o
 |.lst xs,⟨vs,h,r⟩=>⟨vs,by rw[e];exact h,RVs.up tk pre _ _ r⟩
 |.dk kvs,⟨ws,h,r⟩=>⟨ws,by rw[e];exact h,r.up tk pre⟩
 |.dt kvs,⟨ws,h,r⟩=>⟨ws,by rw[e];exact h,r.up tk pre⟩
theorem zIL{p:Addr}{o:HO}(h:H p=none):TF K H (upd H p o):=zNC (zHO h o)
theorem SR.other(sr:SR K μ S H){p:Addr}{o:HO}(h:H p=none):SR K μ S (upd H p o)/\Step K μ μ H (upd H p o):=by
 have hp:=sr.out h;refine⟨⟨sr.len,sr.nd,fun n a o' e1 e2=>?_⟩,⟨⟨[],by simp,by simp⟩,fun b u hb e=>?_,zIL h⟩⟩
 ·have hm:a∈μ:=qB4 e1;have ne:a≠p:=fun z=>hp (z▸hm);exact(sr.obj n a o' e1 e2).up (zIL h) ⟨[],by simp⟩ (zAb ne)
 ·rw[zAb (zAM e h)];exact e
theorem SR.push(sr:SR K μ S H){p:Addr}{o:HO}{o':O}(h:H p=none)(ho:OR K (upd H p o) (μ++[p]) p o'):SR K (μ++[p]) (S++[o']) (upd H p o)/\Step K μ (μ++[p]) H (upd H p o):=by
 have hp:=sr.out h;refine⟨⟨by simp[sr.len],?_,fun n a u e1 e2=>?_⟩,⟨⟨[p],rfl,fun b hb=>?_⟩,fun b u hb e=>?_,zIL h⟩⟩
 ·rw[qE8];refine⟨sr.nd,by simp,fun a ha b hb=>?_⟩;simp at hb;subst hb;exact fun z=>hp (z▸ha)
 ·by_cases hn:n<μ.length
  ·rw[qA8 hn]at e1;rw[qA8 (by rw[<- sr.len];exact hn)]at e2;have hm:a∈μ:=qB4 e1;have ne:a≠p:=fun z=>hp (z▸hm);exact(sr.obj n a u e1 e2).up (zIL h) ⟨[p],rfl⟩ (zAb ne)
  ·rw[qA1 (by omega)]at e1;rw[qA1 (by rw[<- sr.len];omega)]at e2;have h1:n - μ.length=0:=by have:=(qA2.mp e1).1;simp at this;omega
   rw[h1]at e1;rw[<- sr.len,h1]at e2;simp at e1 e2;subst e1 e2;exact ho
 ·simp at hb;subst hb;exact h
 ·rw[zAb (zAM e h)];exact e
theorem SR.put(sr:SR K μ S H){n:Nat}{p:Addr}{o u:HO}{o':O}(hn:μ[n]?=some p)(hp:H p=some u)(nt:∀xs,u≠.tup xs)(nf:∀x y,u≠.frz x y)(ho:OR K (upd H p o) μ p o'):SR K μ (S.set n o') (upd H p o)/\Step K μ μ H (upd H p o):=by
 have tk:TF K H (upd H p o):=zEc hp nt nf;have hmem:p∈μ:=qB4 hn;refine⟨⟨by simp[sr.len],sr.nd,fun m a w e1 e2=>?_⟩,⟨⟨[],by simp,by simp⟩,fun b w hb e=>?_,tk⟩⟩
 ·by_cases hm:m=n
  ·subst hm;rw[hn]at e1;cases e1;have hl:m<S.length:=by rw[<- sr.len];exact(qA2.mp hn).1
   rw[qE2 hl]at e2;cases e2;exact ho
  ·rw[qF1 (fun z=>hm z.symm)]at e2;have ne:a≠p:=fun z=>by subst z;exact hm ((List.getElem?_inj (qA2.mp e1).1 sr.nd).mp (e1.trans hn.symm))
   exact(sr.obj m a w e1 e2).up tk ⟨[],by simp⟩ (zAb ne)
 ·have ne:b≠p:=fun z=>hb (z▸hmem);rw[zAb ne];exact e
end
open PySem PySem.Spec PyProof.Rows
inductive R(α:Type) where
 |bad|ok (a:α) (S:zA0)| er (c:Str) (S:zA0)
noncomputable abbrev M(α:Type):=zA0->R α
noncomputable def bnd{α β:Type}(m:M α)(f:α->M β):M β:=fun S=>match m S with
 |.bad=>.bad
 |.er c S'=>.er c S'
 |.ok a S'=>f a S'
noncomputable def ret{α:Type}(a:α):M α:=fun S=>.ok a S
noncomputable def bad{α:Type}:M α:=fun _=>.bad
inductive zZZ{α β:Type}(m:M α)(f:α->M β)(S:zA0)(b:β)(S2:zA0):Prop
 |mk (a:α) (S1:zA0) (e:m S=.ok a S1) (g:f a S1=.ok b S2)
theorem zA8{α β:Type}{m:M α}{f:α->M β}{S S2:zA0}{b:β}(h:bnd m f S=.ok b S2):zZZ m f S b S2:=by
 unfold bnd at h;cases e:m S with
 |bad=>rw[e]at h;cases h
 |er c S'=>rw[e]at h;cases h
 |ok a S'=>rw[e]at h;exact⟨a,S',e,h⟩
theorem zAt{α:Type}{a b:α}{S S':zA0}(h:ret a S=.ok b S'):b=a/\S'=S:=by unfold ret at h;cases h;exact⟨rfl,rfl⟩
noncomputable abbrev C:=Env1->M D
noncomputable abbrev CT:=Env1->M Bool
noncomputable abbrev CA:=Env1->M (List D)
def RE(K:W.Frag)(H:Hp)(μ:yC)(ρ:Env1)(σ:St):Prop:=ρ.length=σ.length/\∀(i:Nat) (d:D),ρ[i]?=some (some d)->∃v,σ[i]?=some (some v)/\RV K H μ d v
section
variable {K:W.Frag}{H H':Hp}{μ μ':yC}{ρ:Env1}{σ:St}
theorem RE.up(h:RE K H μ ρ σ)(st:Step K μ μ' H H'):RE K H' μ' ρ σ:=⟨h.1,fun i d e=>let ⟨v,q,r⟩:=h.2 i d e;⟨v,q,RV.up st.tk st.ext d v r⟩⟩
theorem RE.set(h:RE K H μ ρ σ){d:D}{v:V}(r:RV K H μ d v)(i:Nat):RE K H μ (ρ.set i (some d)) (σ.set i (some v)):=by
 refine⟨by simp[h.1],fun j d' e=>?_⟩;by_cases hj:i=j
 ·subst hj;have hl:i<ρ.length:=by have:=(qA2.mp e).1;simpa using this
  rw[qE2 hl]at e;cases e;exact⟨v,by rw[qE2 (by rw[<- h.1];exact hl)],r⟩
 ·rw[qF1 hj]at e ⊢;exact h.2 j d' e
end
def Yld(K:W.Frag)(μ:yC)(H:Hp)(d:D)(S':zA0)(Q:VK):Prop:=∀v H' μ',SR K μ' S' H'->Step K μ μ' H H'->RV K H' μ' d v->Q v H'
def YldA(K:W.Frag)(μ:yC)(H:Hp)(ds:List D)(S':zA0)(Q:List V->Hp->Prop):Prop:=∀vs H' μ',SR K μ' S' H'->Step K μ μ' H H'->RVs K H' μ' ds vs->Q vs H'
def YldT(K:W.Frag)(μ:yC)(H:Hp)(b:Bool)(S':zA0)(Q:Bool->Hp->Prop):Prop:=∀H' μ',SR K μ' S' H'->Step K μ μ' H H'->Q b H'
inductive tOf(K:W.Frag)(c:C)(σ:St)(H:Hp)(Q:VK):Prop
 |mk (μ:yC) (ρ:Env1) (S:zA0) (d:D) (S':zA0) (sr:SR K μ S H) (re:RE K H μ ρ σ) (e:c ρ S=.ok d S') (y:Yld K μ H d S' Q)
inductive tOfA(K:W.Frag)(c:CA)(σ:St)(H:Hp)(Q:List V->Hp->Prop):Prop
 |mk (μ:yC) (ρ:Env1) (S:zA0) (d:List D) (S':zA0) (sr:SR K μ S H) (re:RE K H μ ρ σ) (e:c ρ S=.ok d S') (y:YldA K μ H d S' Q)
inductive tOfT(K:W.Frag)(c:CT)(σ:St)(H:Hp)(Q:Bool->Hp->Prop):Prop
 |mk (μ:yC) (ρ:Env1) (S:zA0) (d:Bool) (S':zA0) (sr:SR K μ S H) (re:RE K H μ ρ σ) (e:c ρ S=.ok d S') (y:YldT K μ H d S' Q)
theorem Yld.self{K:W.Frag}{μ:yC}{H:Hp}{d:D}{S:zA0}{Q:VK}(h:Yld K μ H d S Q)(sr:SR K μ S H){v:V}(r:RV K H μ d v):Q v H:=h v H μ sr (Step.refl K μ H) r
theorem Yld.shift{K:W.Frag}{μ μ1:yC}{H H1:Hp}{d:D}{S:zA0}{Q:VK}(h:Yld K μ H d S Q)(st:Step K μ μ1 H H1):Yld K μ1 H1 d S Q:=fun v H' μ' sr s2 r=>h v H' μ' sr (st.trans s2 sr.nd) r
theorem YldT.shift{K:W.Frag}{μ μ1:yC}{H H1:Hp}{d:Bool}{S:zA0}{Q:Bool->Hp->Prop}(h:YldT K μ H d S Q)(st:Step K μ μ1 H H1):YldT K μ1 H1 d S Q:=fun H' μ' sr s2=>h H' μ' sr (st.trans s2 sr.nd)
theorem PE.weak{X:Cx}{e:Expr}{t t':TE}(h:PE X e t)(w:∀σ H Q,t' σ H Q->t σ H Q):PE X e t':=fun pins s σ H Q I q=>h pins s σ H Q I (w σ H Q q)
theorem PT.weak{X:Cx}{e:Expr}{t t':TT}(h:PT X e t)(w:∀σ H Q,t' σ H Q->t σ H Q):PT X e t':=fun pins s σ H Q I q=>h pins s σ H Q I (w σ H Q q)
theorem PW.weak{X:Cx}{e:Expr}{t t':TT}(h:PW X e t)(w:∀σ H Q,t' σ H Q->t σ H Q):PW X e t':=fun wh pins s σ H Q I q=>h wh pins s σ H Q I (w σ H Q q)
theorem PA.weak{X:Cx}{e:yE}{t t':TA}(h:PA X e t)(w:∀σ H Q,t' σ H Q->t σ H Q):PA X e t':=fun pos pins s σ H Q I q=>h pos pins s σ H Q I (w σ H Q q)
theorem PS.weak{X:Cx}{e:Stmt}{t t':TS}(h:PS X e t)(w:∀D σ H,t' D σ H->t D σ H):PS X e t':=fun pins s σ H D I q=>h pins s σ H D I (w D σ H q)
theorem PSs.weak{X:Cx}{e:List Stmt}{t t':TS}(h:PSs X e t)(w:∀D σ H,t' D σ H->t D σ H):PSs X e t':=fun pins s σ H D I q=>h pins s σ H D I (w D σ H q)
def rAny(X:Cx)(f:Value->Value->Sem Value):R2:=fun v u H Q=>∃r,OpR X f r/\r v u H Q
theorem zKi{X:Cx}{f:Value->Value->Sem Value}:OpR X f (rAny X f):=fun pins s σ H x y v u Q I rx ry ⟨r,ho,q⟩=>ho pins s σ H x y v u Q I rx ry q
def uAny(X:Cx)(f:Value->Sem Value):V->Hp->VK->Prop:=fun v H Q=>∃r,UnR X f r/\r v H Q
theorem zYe{X:Cx}{f:Value->Sem Value}:UnR X f (uAny X f):=fun pins s σ H x v Q I rx ⟨r,ho,q⟩=>ho pins s σ H x v Q I rx q
def cAny(X:Cx)(f:Value):List V->Hp->VK->Prop:=fun vs H Q=>∃r,zBE X f r/\r vs H Q
theorem zIn{X:Cx}{f:Value}:zBE X f (cAny X f):=fun pins s σ H x v Q I rx ⟨r,ho,q⟩=>ho pins s σ H x v Q I rx q
def zOE(X:Cx):R2:=fun v u H Q=>∃r,IxR X r/\r v u H Q
theorem zZs{X:Cx}:IxR X (zOE X):=fun va sl pins s σ H x y v u Q I rx ry ⟨r,ho,q⟩ hs=>ho va sl pins s σ H x y v u Q I rx ry q hs
def zNK(X:Cx):V->yG->yG->Hp->VK->Prop:=fun v lo hi H Q=>∃r,SlR X r/\r v lo hi H Q
theorem zYr{X:Cx}:SlR X (zNK X):=fun pins s σ H x v vl vu lo hi sl Q I rx a b c ⟨r,ho,q⟩=>ho pins s σ H x v vl vu lo hi sl Q I rx a b c q
def zFg(X:Cx)(id:String):V->List V->Hp->VK->Prop:=fun v vs H Q=>∃r,MtR X id r/\r v vs H Q
theorem zZg{X:Cx}{id:String}:MtR X id (zFg X id):=fun pins s σ H x xs v us Q I rx rs ⟨r,ho,q⟩=>ho pins s σ H x xs v us Q I rx rs q
noncomputable def zNS(X:Cx):TSet:=fun o i v H Q=>∃r,PSet X r/\r o i v H Q
theorem zVi{X:Cx}:PSet X (zNS X):=fun pins s σ H o i v ov iv u Q I r1 r2 r3 ⟨r,ho,q⟩=>ho pins s σ H o i v ov iv u Q I r1 r2 r3 q
noncomputable def cVar(i:Nat):C:=fun ρ S=>match ρ[i]? with
 |some (some d)=>.ok d S
 |_=>.bad
noncomputable def cCon(d:D):C:=fun _ S=>.ok d S
noncomputable def cBin(o:D->D->M D)(a b:C):C:=fun ρ=>bnd (a ρ) fun x=>bnd (b ρ) fun y=>o x y
noncomputable def cUn(o:D->M D)(a:C):C:=fun ρ=>bnd (a ρ) o
noncomputable def zA1:List C->CA
 |[]=>fun _=>ret []
 |c::cs=>fun ρ=>bnd (c ρ) fun x=>bnd (zA1 cs ρ) fun xs=>ret (x::xs)
noncomputable def cApp(o:List D->M D)(a:CA):C:=fun ρ=>bnd (a ρ) o
noncomputable def cTup(a:CA):C:=cApp (fun xs=>ret (.tup xs)) a
noncomputable def cLst(a:CA):C:=cApp (fun xs S=>.ok (.lst S.length) (S++[.lst xs])) a
noncomputable def cIf(t:CT)(a b:C):C:=fun ρ=>bnd (t ρ) fun k=>if k then a ρ else b ρ
noncomputable def zAx(a:C):CT:=fun ρ=>bnd (a ρ) fun x=>match x with
 |.bl b=>ret b
 |_=>bad
noncomputable def zN8(a b:C):C:=fun ρ=>bnd (zAx a ρ) fun k=>if k then b ρ else ret (.bl false)
noncomputable def cOrV(a b:C):C:=fun ρ=>bnd (zAx a ρ) fun k=>if k then ret (.bl true)else b ρ
noncomputable def zPJ(a:C):C:=fun ρ=>bnd (zAx a ρ) fun k=>ret (.bl (!k))
noncomputable def zL3(a b:CT):CT:=fun ρ=>bnd (a ρ) fun k=>if k then b ρ else ret false
noncomputable def cOrT(a b:CT):CT:=fun ρ=>bnd (a ρ) fun k=>if k then ret true else b ρ
noncomputable def zEv(a:CT):CT:=fun ρ=>bnd (a ρ) fun k=>ret (!k)
noncomputable def dB(x:D):M Bool:=match x with
 |.bl b=>ret b
 |_=>bad
noncomputable def zHB(o o':D->D->M D)(a b c:C):C:=fun ρ=>bnd (a ρ) fun x=>bnd (b ρ) fun y=>bnd (o x y) fun z=>bnd (dB z) fun k=>if k then bnd (c ρ) fun w=>o' y w else ret (.bl false)
section
variable {X:Cx}{a b c d:Expr}{ca cb cc cd:C}{pos:Pos}
theorem zVj{i:Nat}{x:Str}(h:PE X (.Name x pos) (tVar i)):PE X (.Name x pos) (tOf X.K (cVar i)):=h.weak fun σ H Q ⟨μ,ρ,S,d,S',sr,re,e,y⟩=>by
 unfold cVar at e;split at e
 ·rename_i d' hd;cases e;obtain⟨v,q,r⟩:=re.2 i _ hd;exact⟨v,q,y.self sr r⟩
 ·cases e
theorem zIV{e:Expr}{v:V}{d:D}(h:PE X e (tC v))(hd:∀K H μ,RV K H μ d v):PE X e (tOf X.K (cCon d)):=h.weak fun σ H Q ⟨μ,ρ,S,d',S',sr,re,e,y⟩=>by unfold cCon at e;cases e;exact y.self sr (hd _ _ _)
def OpS(K:W.Frag)(r:R2)(o:D->D->M D):Prop:=∀x y S d S' H μ v u Q,o x y S=.ok d S'->SR K μ S H->RV K H μ x v->RV K H μ y u->Yld K μ H d S' Q->r v u H Q
theorem zLy{r:R2}{o:D->D->M D}(ho:OpS X.K r o):∀σ H Q,tOf X.K (cBin o ca cb) σ H Q->tOp r (tOf X.K ca) (tOf X.K cb) σ H Q:=by rintro σ H Q ⟨μ,ρ,S,d,S',sr,re,e,y⟩;obtain⟨x,S1,e1,e⟩:=zA8 e;obtain⟨z,S2,e2,e⟩:=zA8 e;refine⟨μ,ρ,S,x,S1,sr,re,e1,fun v H1 μ1 sr1 st1 r1=>⟨μ1,ρ,S1,z,S2,sr1,re.up st1,e2,fun u H2 μ2 sr2 st2 r2=>?_⟩⟩;exact ho x z S2 d S' H2 μ2 v u Q e sr2 (RV.up st2.tk st2.ext _ _ r1) r2 (y.shift (st1.trans st2 sr2.nd))
theorem zVo{op:Operator}{o:D->D->M D}(ho:OpS X.K (rAny X (binaryOp op)) o)(ha:PE X a (tOf X.K ca))(hb:PE X b (tOf X.K cb)):PE X (.BinOp a op b pos) (tOf X.K (cBin o ca cb)):=(zYM zKi ha hb).weak (zLy ho)
theorem zVn{op:CmpOp}{o:D->D->M D}(ho:OpS X.K (rAny X (compareOp op)) o)(ha:PE X a (tOf X.K ca))(hb:PE X b (tOf X.K cb))(hm:behindInMarks op b=false):PE X (.Compare a [op] [b] pos) (tOf X.K (cBin o ca cb)):=(zTw zKi ha hb hm).weak (zLy ho)
theorem zOe{t:TE}{c:C}(h:∀σ H Q,tOf X.K c σ H Q->t σ H Q):∀σ H Q,tOfT X.K (zAx c) σ H Q->zSH t σ H Q:=by
 rintro σ H Q ⟨μ,ρ,S,d,S',sr,re,e,y⟩;obtain⟨x,S1,e1,e⟩:=zA8 e;refine h σ H _ ⟨μ,ρ,S,x,S1,sr,re,e1,fun v H1 μ1 sr1 st1 r1=>?_⟩;cases x with
 |bl k =>
  obtain⟨rfl,rfl⟩:=zAt e;unfold RV at r1;exact⟨_,r1,y H1 μ1 sr1 st1⟩
 |_=>cases e
theorem zV5{op:CmpOp}{o:D->D->M D}(ho:OpS X.K (rAny X (compareOp op)) o)(ha:PE X a (tOf X.K ca))(hb:PE X b (tOf X.K cb))(hm:behindInMarks op b=false):PT X (.Compare a [op] [b] pos) (tOfT X.K (zAx (cBin o ca cb))):=(zTj zKi ha hb hm).weak (zOe (zLy ho))
theorem zLx{r r':R2}{o o':D->D->M D}(ho:OpS X.K r o)(ho':OpS X.K r' o'):∀σ H Q,tOf X.K (zHB o o' ca cb cc) σ H Q->zNG r r' (tOf X.K ca) (tOf X.K cb) (tOf X.K cc) σ H Q:=by
 rintro σ H Q ⟨μ,ρ,S,d,S',sr,re,e,y⟩;obtain⟨x,S1,e1,f1⟩:=zA8 e;obtain⟨z,S2,e2,f2⟩:=zA8 f1;obtain⟨t,S3,e3,f3⟩:=zA8 f2;obtain⟨k,S4,e4,f4⟩:=zA8 f3;refine⟨μ,ρ,S,x,S1,sr,re,e1,fun v H1 μ1 sr1 st1 r1=>⟨μ1,ρ,S1,z,S2,sr1,re.up st1,e2,fun u H2 μ2 sr2 st2 r2=>?_⟩⟩;have st12:=st1.trans st2 sr2.nd;refine ho x z S2 t S3 H2 μ2 v u _ e3 sr2 (RV.up st2.tk st2.ext _ _ r1) r2 fun v3 H3 μ3 sr3 st3 r3=>?_;have st13:=st12.trans st3 sr3.nd;cases t with
 |bl k' =>
  obtain⟨rfl,rfl⟩:=zAt e4;unfold RV at r3;refine⟨_,r3,?_⟩;cases k with
  |true =>
   rw[if_pos rfl]at f4 ⊢;obtain⟨w,S5,e5,f5⟩:=zA8 f4;refine⟨μ3,ρ,_,w,S5,sr3,re.up st13,e5,fun v5 H5 μ5 sr5 st5 r5=>?_⟩;exact ho' z w S5 d S' H5 μ5 u v5 Q f5 sr5 (RV.up st5.tk st5.ext _ _ (RV.up st3.tk st3.ext _ _ r2)) r5 (y.shift (st13.trans st5 sr5.nd))
  |false =>
   rw[if_neg qB0]at f4 ⊢;obtain⟨rfl,rfl⟩:=zAt f4;exact y _ H3 μ3 sr3 st13 (by unfold RV;rfl)
 |_=>cases e4
theorem zQo{op op':CmpOp}{o o':D->D->M D}(ho:OpS X.K (rAny X (compareOp op)) o)(ho':OpS X.K (rAny X (compareOp op')) o')(ha:PE X a (tOf X.K ca))(hb:PE X b (tOf X.K cb))(hc:PE X c (tOf X.K cc))(hm:lastMarks [op,op'] [b,c]=false):
  PE X (.Compare a [op,op'] [b,c] pos) (tOf X.K (zHB o o' ca cb cc)):=(zQJ zKi zKi ha hb hc hm).weak (zLx ho ho')
theorem zQe{op op':CmpOp}{o o':D->D->M D}(ho:OpS X.K (rAny X (compareOp op)) o)(ho':OpS X.K (rAny X (compareOp op')) o')(ha:PE X a (tOf X.K ca))(hb:PE X b (tOf X.K cb))(hc:PE X c (tOf X.K cc))(hm:lastMarks [op,op'] [b,c]=false):
  PT X (.Compare a [op,op'] [b,c] pos) (tOfT X.K (zAx (zHB o o' ca cb cc))):=(zQv zKi zKi ha hb hc hm).weak (zOe (zLx ho ho'))
def UnS(K:W.Frag)(r:V->Hp->VK->Prop)(o:D->M D):Prop:=∀x S d S' H μ v Q,o x S=.ok d S'->SR K μ S H->RV K H μ x v->Yld K μ H d S' Q->r v H Q
theorem zYs{op:UnaryOp}{o:D->M D}(ho:UnS X.K (uAny X (unaryOp op)) o)(ha:PE X a (tOf X.K ca)):PE X (.UnaryOp op a pos) (tOf X.K (cUn o ca)):=(zYK zYe ha).weak (by
 rintro σ H Q ⟨μ,ρ,S,d,S',sr,re,e,y⟩;obtain⟨x,S1,e1,e⟩:=zA8 e;exact⟨μ,ρ,S,x,S1,sr,re,e1,fun v H1 μ1 sr1 st1 r1=>ho x S1 d S' H1 μ1 v Q e sr1 r1 (y.shift st1)⟩)
theorem zKj{σ:St}{H:Hp}{μ:yC}{ρ:Env1}{S S':zA0}{k:Bool}(sr:SR X.K μ S H)(re:RE X.K H μ ρ σ)(e:zAx ca ρ S=.ok k S'){Q:VK}(h:∀H1 μ1,SR X.K μ1 S' H1->Step X.K μ μ1 H H1->Q (.bl k) H1):tOf X.K ca σ H Q:=by
 obtain⟨x,S1,e1,e⟩:=zA8 e;refine⟨μ,ρ,S,x,S1,sr,re,e1,fun v H1 μ1 sr1 st1 r1=>?_⟩;cases x with
 |bl k' =>
  obtain⟨rfl,rfl⟩:=zAt e;unfold RV at r1;subst r1;exact h H1 μ1 sr1 st1
 |_=>cases e
theorem zVp{rest:yE}(ha:PE X a (tOf X.K ca))(hb:PE X (.BoolOp .And (b::rest) pos) (tOf X.K cb)):PE X (.BoolOp .And (a::b::rest) pos) (tOf X.K (zN8 ca cb)):=(zVQ ha hb).weak (by
 rintro σ H Q ⟨μ,ρ,S,d,S',sr,re,e,y⟩;obtain⟨k,S1,e1,e⟩:=zA8 e;refine zKj sr re e1 fun H1 μ1 sr1 st1=>⟨k,rfl,?_⟩
 cases k with
 |true=>rw[if_pos rfl]at e ⊢;exact⟨μ1,ρ,S1,d,S',sr1,re.up st1,e,y.shift st1⟩
 | false=>rw[if_neg qB0]at e ⊢;obtain⟨rfl,rfl⟩:=zAt e;exact y _ H1 μ1 sr1 st1 (by unfold RV;rfl))
theorem zYt{rest:yE}(ha:PE X a (tOf X.K ca))(hb:PE X (.BoolOp .Or (b::rest) pos) (tOf X.K cb)):PE X (.BoolOp .Or (a::b::rest) pos) (tOf X.K (cOrV ca cb)):=(zYL ha hb).weak (by
 rintro σ H Q ⟨μ,ρ,S,d,S',sr,re,e,y⟩;obtain⟨k,S1,e1,e⟩:=zA8 e;refine zKj sr re e1 fun H1 μ1 sr1 st1=>⟨k,rfl,?_⟩
 cases k with
 |false=>rw[if_neg qB0]at e ⊢;exact⟨μ1,ρ,S1,d,S',sr1,re.up st1,e,y.shift st1⟩
 | true=>rw[if_pos rfl]at e ⊢;obtain⟨rfl,rfl⟩:=zAt e;exact y _ H1 μ1 sr1 st1 (by unfold RV;rfl))
theorem zVl(ha:PE X a (tOf X.K ca)):PE X (.UnaryOp .Not a pos) (tOf X.K (zPJ ca)):=(zVM ha).weak (by
 rintro σ H Q ⟨μ,ρ,S,d,S',sr,re,e,y⟩;obtain⟨k,S1,e1,e⟩:=zA8 e;obtain⟨rfl,rfl⟩:=zAt e;exact zKj sr re e1 fun H1 μ1 sr1 st1=>⟨k,rfl,y _ H1 μ1 sr1 st1 (by unfold RV;rfl)⟩)
theorem zQn{t:Expr}{ct:CT}(ht:PT X t (tOfT X.K ct))(ha:PE X a (tOf X.K ca))(hb:PE X b (tOf X.K cb)):PE X (.IfExp t a b pos) (tOf X.K (cIf ct ca cb)):=(zQH ht ha hb).weak (by
 rintro σ H Q ⟨μ,ρ,S,d,S',sr,re,e,y⟩;obtain⟨k,S1,e1,e⟩:=zA8 e;refine⟨μ,ρ,S,k,S1,sr,re,e1,fun H1 μ1 sr1 st1=>?_⟩;cases k with
 |true=>rw[if_pos rfl]at e ⊢;exact⟨μ1,ρ,S1,d,S',sr1,re.up st1,e,y.shift st1⟩
 | false=>rw[if_neg qB0]at e ⊢;exact⟨μ1,ρ,S1,d,S',sr1,re.up st1,e,y.shift st1⟩)
variable {ta tb:CT}
theorem zV2{rest:yE}(ha:PT X a (tOfT X.K ta))(hb:PW X (.BoolOp .And (b::rest) pos) (tOfT X.K tb)):PW X (.BoolOp .And (a::b::rest) pos) (tOfT X.K (zL3 ta tb)):=(zVA ha hb).weak (by
 rintro σ H Q ⟨μ,ρ,S,d,S',sr,re,e,y⟩;obtain⟨k,S1,e1,e⟩:=zA8 e;refine⟨μ,ρ,S,k,S1,sr,re,e1,fun H1 μ1 sr1 st1=>?_⟩;cases k with
 |true=>rw[if_pos rfl]at e ⊢;exact⟨μ1,ρ,S1,d,S',sr1,re.up st1,e,y.shift st1⟩
 | false=>rw[if_neg qB0]at e ⊢;obtain⟨rfl,rfl⟩:=zAt e;exact y H1 μ1 sr1 st1)
theorem zYo{rest:yE}(ha:PT X a (tOfT X.K ta))(hb:PW X (.BoolOp .Or (b::rest) pos) (tOfT X.K tb)):PW X (.BoolOp .Or (a::b::rest) pos) (tOfT X.K (cOrT ta tb)):=(zYI ha hb).weak (by
 rintro σ H Q ⟨μ,ρ,S,d,S',sr,re,e,y⟩;obtain⟨k,S1,e1,e⟩:=zA8 e;refine⟨μ,ρ,S,k,S1,sr,re,e1,fun H1 μ1 sr1 st1=>?_⟩;cases k with
 |false=>rw[if_neg qB0]at e ⊢;exact⟨μ1,ρ,S1,d,S',sr1,re.up st1,e,y.shift st1⟩
 | true=>rw[if_pos rfl]at e ⊢;obtain⟨rfl,rfl⟩:=zAt e;exact y H1 μ1 sr1 st1)
theorem zV4(ha:PT X a (tOfT X.K ta)):PT X (.UnaryOp .Not a pos) (tOfT X.K (zEv ta)):=(zVB ha).weak (by
 rintro σ H Q ⟨μ,ρ,S,d,S',sr,re,e,y⟩;obtain⟨k,S1,e1,e⟩:=zA8 e;obtain⟨rfl,rfl⟩:=zAt e;exact⟨μ,ρ,S,k,_,sr,re,e1,fun H1 μ1 sr1 st1=>y H1 μ1 sr1 st1⟩)
noncomputable def dTru(x:D):M Bool:=fun S=>match x with
 |.non=>.ok false S
 |.bl b=>.ok b S
 |.int i=>.ok (i != 0) S
 |.str y=>if y.length<=sizeLine then .ok ((y.length:Int) != 0) S else .bad
 |.tup xs=>.ok (!xs.isEmpty) S
 |.lst n=>match S[n]? with
  |some (.lst xs)=>.ok (!xs.isEmpty) S
  |_=>.bad
 |.dct n=>match S[n]? with
  |some (.dk kvs)=>.ok (!kvs.isEmpty) S
  |_=>.bad
 |.ty _=>.bad
 |.rol xs=>.ok (!xs.isEmpty) S
noncomputable def cTru(a:C):CT:=fun ρ=>bnd (a ρ) dTru
theorem zLW{K:W.Frag}{H:Hp}{μ:yC}{ds:List D}{vs:List V}(h:RVs K H μ ds vs):ds.isEmpty=vs.isEmpty:=by
 cases ds with
 |nil=>unfold RVs at h;subst h;rfl
 |cons d ds=>unfold RVs at h;obtain⟨v,ws,rfl,_⟩:=h;rfl
theorem SR.get{K:W.Frag}{H:Hp}{μ:yC}{S:zA0}(sr:SR K μ S H){n:Nat}{a:Addr}{o:O}(h:μ[n]?=some a)(ho:S[n]?=some o):OR K H μ a o:=sr.obj n a o h ho
theorem zUg{K:W.Frag}{H:Hp}{μ:yC}{S S':zA0}{x:D}{v:V}{k:Bool}(e:dTru x S=.ok k S')(sr:SR K μ S H)(r:RV K H μ x v):S'=S/\TruV K v H k:=by
 unfold dTru at e;cases x with
 |non=>cases e;unfold RV at r;subst r;exact⟨rfl,rfl⟩
 |bl b=>cases e;unfold RV at r;subst r;exact⟨rfl,rfl⟩
 |int i=>cases e;unfold RV at r;subst r;exact⟨rfl,rfl⟩
 |str y =>
  unfold RV at r;subst r;dsimp only at e;split at e
  ·rename_i hl;cases e;exact⟨rfl,hl,rfl⟩
  ·cases e
 |tup xs =>
  cases e;unfold RV at r;obtain⟨p,vs,rfl,q,rr⟩:=r;exact⟨rfl,.inr (.inl ⟨vs,SqT.of q,by rw[zLW rr]⟩)⟩
 |lst n =>
  unfold RV at r;obtain⟨a,rfl,hm⟩:=r;dsimp only at e;split at e
  ·rename_i xs ho;cases e;obtain⟨vs,hq,rr⟩:=sr.get hm ho;exact⟨rfl,.inl ⟨vs,SqL.of hq,by rw[zLW rr]⟩⟩
  ·cases e
 |dct n =>
  unfold RV at r;obtain⟨a,rfl,hm⟩:=r;dsimp only at e;split at e
  ·rename_i kvs ho;cases e;obtain⟨ws,hq,rr⟩:=sr.get hm ho;refine⟨rfl,.inr (.inr ⟨ws,hq,?_⟩)⟩;have:=zLW rr.2;rw[qR8,qR8]at this;rw[this]
  ·cases e
 |ty _=>cases e
 |rol xs =>
  cases e;unfold RV at r;obtain⟨p,vs,rfl,q,rr⟩:=r;exact⟨rfl,.inl ⟨vs,q.sq,by rw[zLW rr]⟩⟩
theorem zV3(ha:PE X a (tOf X.K ca))(he:∀whole,isTrue a X.env whole=(do let v <- whole;standAt a.pos;holding [v] (truthy v))):PT X a (tOfT X.K (cTru ca)):=(zQu ha he).weak (by
 rintro σ H Q ⟨μ,ρ,S,d,S',sr,re,e,y⟩;obtain⟨x,S1,e1,e⟩:=zA8 e;refine⟨μ,ρ,S,x,S1,sr,re,e1,fun v H1 μ1 sr1 st1 r1=>?_⟩;obtain⟨rfl,tv⟩:=zUg e sr1 r1;exact⟨d,tv,y H1 μ1 sr1 st1⟩)
variable {es:yE}{cs:List C}
theorem zNU:PA X [] (tOfA X.K (zA1 [])):=zS5.weak (by
 rintro σ H Q ⟨μ,ρ,S,d,S',sr,re,e,y⟩;obtain⟨rfl,rfl⟩:=zAt e;exact y [] H μ sr (Step.refl _ _ _) RVs.nil)
theorem zHP(ha:PE X a (tOf X.K ca))(hr:PA X es (tOfA X.K (zA1 cs)))(hs:starEach (a::es) X.env=(false,eval a X.env)::starEach es X.env):PA X (a::es) (tOfA X.K (zA1 (ca::cs))):=(zO9 ha hr hs).weak (by
 rintro σ H Q ⟨μ,ρ,S,d,S',sr,re,e,y⟩;obtain⟨x,S1,e1,e⟩:=zA8 e;obtain⟨xs,S2,e2,e⟩:=zA8 e;obtain⟨rfl,rfl⟩:=zAt e;exact⟨μ,ρ,S,x,S1,sr,re,e1,fun v H1 μ1 sr1 st1 r1=>⟨μ1,ρ,S1,xs,S',sr1,re.up st1,e2,fun vs H2 μ2 sr2 st2 r2=>y (v::vs) H2 μ2 sr2 (st1.trans st2 sr2.nd) (.cons (RV.up st2.tk st2.ext _ _ r1) r2)⟩⟩)
theorem zGF{ρ:Env1}:∀{cs:List C}{S S':zA0}{xs:List D},zA1 cs ρ S=.ok xs S'->xs.length=cs.length
 |[],S,S',xs,e=>by obtain⟨rfl,rfl⟩:=zAt e;rfl
 |c::cs,S,S',xs,e=>by obtain⟨x,S1,e1,e⟩:=zA8 e;obtain⟨ys,S2,e2,e⟩:=zA8 e;obtain⟨rfl,rfl⟩:=zAt e;rw[qD1,qD1,zGF e2]
theorem zHW{K:W.Frag}{H:Hp}{μ:yC}{S:zA0}{ds:List D}{vs:List V}{p:Addr}(sr:SR K μ S H)(h:H p=none)(r:RVs K H μ ds vs):SR K μ S (upd H p (.tup vs))/\Step K μ μ H (upd H p (.tup vs))/\RV K (upd H p (.tup vs)) μ (.tup ds) (.ref p):=by obtain⟨s1,s2⟩:=sr.other (o:=.tup vs) h;exact⟨s1,s2,by unfold RV;exact⟨p,vs,rfl,zAf,RVs.up s2.tk s2.ext _ _ r⟩⟩
theorem zTH{K:W.Frag}{H:Hp}{μ:yC}{S:zA0}{ds:List D}{vs:List V}{p:Addr}(sr:SR K μ S H)(h:H p=none)(r:RVs K H μ ds vs):SR K (μ++[p]) (S++[.lst ds]) (upd H p (.lst vs))/\Step K μ (μ++[p]) H (upd H p (.lst vs))/\RV K (upd H p (.lst vs)) (μ++[p]) (.lst S.length) (.ref p):=by obtain⟨s1,s2⟩:=sr.push (o:=.lst vs) (o':=.lst ds) h ⟨vs,zAf,RVs.up (zIL h) ⟨[p],rfl⟩ _ _ r⟩;exact⟨s1,s2,by unfold RV;exact⟨p,rfl,by rw[<- sr.len,qA1 (qB1 _),qK3];rfl⟩⟩
theorem Yld.newL{K:W.Frag}{H:Hp}{μ:yC}{S:zA0}{ds:List D}{vs:List V}{p:Addr}{Q:VK}(y:Yld K μ H (.lst S.length) (S++[.lst ds]) Q)(sr:SR K μ S H)(h:H p=none)(r:RVs K H μ ds vs):Q (.ref p) (upd H p (.lst vs)):=by obtain⟨s1,s2,s3⟩:=zTH sr h r;exact y _ _ _ s1 s2 s3
theorem Yld.newT{K:W.Frag}{H:Hp}{μ:yC}{S:zA0}{ds:List D}{vs:List V}{p:Addr}{Q:VK}(y:Yld K μ H (.tup ds) S Q)(sr:SR K μ S H)(h:H p=none)(r:RVs K H μ ds vs):Q (.ref p) (upd H p (.tup vs)):=by obtain⟨s1,s2,s3⟩:=zHW sr h r;exact y _ _ _ s1 s2 s3
theorem zVk{x1}(h:PA X es (tOfA X.K (zA1 cs)))(hl:cs.length<=1000):PE X (.Tuple es x1 pos) (tOf X.K (cTup (zA1 cs))):=(zVJ h).weak (by
 rintro σ H Q ⟨μ,ρ,S,d,S',sr,re,e,y⟩;obtain⟨xs,S1,e1,e⟩:=zA8 e;obtain⟨rfl,rfl⟩:=zAt e;refine⟨μ,ρ,S,xs,S',sr,re,e1,fun vs H1 μ1 sr1 st1 r1=>⟨?_,fun p hp=>(y.shift st1).newT sr1 hp r1⟩⟩;have h1:=zGF e1;have h2:=r1.len;exact qH1 (zIP (by omega)))
theorem zVm(h:PA X es (tOfA X.K (zA1 cs)))(hl:cs.length<=1000):PE X (.List es pos) (tOf X.K (cLst (zA1 cs))):=(zVO h).weak (by
 rintro σ H Q ⟨μ,ρ,S,d,S',sr,re,e,y⟩;obtain⟨xs,S1,e1,e⟩:=zA8 e;cases e;refine⟨μ,ρ,S,xs,S1,sr,re,e1,fun vs H1 μ1 sr1 st1 r1=>⟨?_,fun p hp=>(y.shift st1).newL sr1 hp r1⟩⟩;have h1:=zGF e1;have h2:=r1.len;exact qH1 (zIP (by omega)))
theorem zYu{o:D->D->M D}(ho:OpS X.K (zOE X) o)(ha:PE X a (tOf X.K ca))(hb:PE X b (tOf X.K cb))(hs:zLd b):PE X (.Subscript a b pos) (tOf X.K (cBin o ca cb)):=(zYN zZs ha hb hs).weak (zLy ho)
noncomputable def CO:=Env1->M (yG)
noncomputable def zF4:CO:=fun _=>ret none
noncomputable def dInt(x:D):M Int:=match x with
 |.int i=>ret i
 |_=>bad
noncomputable def zH4(a:C):CO:=fun ρ=>bnd (a ρ) fun x=>bnd (dInt x) fun i=>ret (some i)
def YldO(K:W.Frag)(μ:yC)(H:Hp)(b:yG)(S':zA0)(Q:yG->Hp->Prop):Prop:=∀H' μ',SR K μ' S' H'->Step K μ μ' H H'->Q b H'
inductive tOfO(K:W.Frag)(c:CO)(σ:St)(H:Hp)(Q:yG->Hp->Prop):Prop
 |mk (μ:yC) (ρ:Env1) (S:zA0) (d:yG) (S':zA0) (sr:SR K μ S H) (re:RE K H μ ρ σ) (e:c ρ S=.ok d S') (y:YldO K μ H d S' Q)
theorem PO.weak{e:Option Expr}{t t':TO}(h:PO X e t)(w:∀σ H Q,t' σ H Q->t σ H Q):PO X e t':=fun pins s σ H Q I q=>h pins s σ H Q I (w σ H Q q)
theorem zSR:PO X none (tOfO X.K zF4):=zTr.weak (by
 rintro σ H Q ⟨μ,ρ,S,d,S',sr,re,e,y⟩;obtain⟨rfl,rfl⟩:=zAt e;exact y H μ sr (Step.refl _ _ _))
theorem zSQ(ha:PE X a (tOf X.K ca)):PO X (some a) (tOfO X.K (zH4 ca)):=(zTq ha).weak (by
 rintro σ H Q ⟨μ,ρ,S,d,S',sr,re,e,y⟩;obtain⟨x,S1,e1,e⟩:=zA8 e;obtain⟨i,S2,e2,e⟩:=zA8 e;obtain⟨rfl,rfl⟩:=zAt e;refine⟨μ,ρ,S,x,S1,sr,re,e1,fun v H1 μ1 sr1 st1 r1=>?_⟩;cases x with
 |int j =>
  obtain⟨rfl,rfl⟩:=zAt e2;unfold RV at r1;exact⟨_,r1,y H1 μ1 sr1 st1⟩
 | _=>cases e2)
noncomputable def cSl(o:D->yG->yG->M D)(a:C)(lo hi:CO):C:=fun ρ=>bnd (a ρ) fun x=>bnd (lo ρ) fun l=>bnd (hi ρ) fun h=>o x l h
def SlS(K:W.Frag)(r:V->yG->yG->Hp->VK->Prop)(o:D->yG->yG->M D):Prop:=∀x l h S d S' H μ v Q,o x l h S=.ok d S'->SR K μ S H->RV K H μ x v->Yld K μ H d S' Q->r v l h H Q
theorem zQm{lo hi:Option Expr}{cl ch:CO}{p2:Pos}{o:D->yG->yG->M D}(ho:SlS X.K (zNK X) o)(ha:PE X a (tOf X.K ca))(hl:PO X lo (tOfO X.K cl))(hh:PO X hi (tOfO X.K ch)):PE X (.Subscript a (.Slice lo hi none p2) pos) (tOf X.K (cSl o ca cl ch)):=(zQG zYr ha hl hh).weak (by
 rintro σ H Q ⟨μ,ρ,S,d,S',sr,re,e,y⟩;obtain⟨x,S1,e1,e⟩:=zA8 e;obtain⟨l,S2,e2,e⟩:=zA8 e;obtain⟨h,S3,e3,e⟩:=zA8 e;refine⟨μ,ρ,S,x,S1,sr,re,e1,fun v H1 μ1 sr1 st1 r1=>⟨μ1,ρ,S1,l,S2,sr1,re.up st1,e2,fun H2 μ2 sr2 st2=>?_⟩⟩;have st12:=st1.trans st2 sr2.nd;refine⟨μ2,ρ,S2,h,S3,sr2,re.up st12,e3,fun H3 μ3 sr3 st3=>?_⟩;exact ho x l h S3 d S' H3 μ3 v Q e sr3 (RV.up st3.tk st3.ext _ _ (RV.up st2.tk st2.ext _ _ r1)) (y.shift (st12.trans st3 sr3.nd)))
def zEF(K:W.Frag)(r:List V->Hp->VK->Prop)(o:List D->M D):Prop:=∀xs S d S' H μ vs Q,o xs S=.ok d S'->SR K μ S H->RVs K H μ xs vs->Yld K μ H d S' Q->r vs H Q
variable {ca':CA}
theorem zS6{r:List V->Hp->VK->Prop}{o:List D->M D}(ho:zEF X.K r o):∀σ H Q,tOf X.K (cApp o ca') σ H Q->tCB r (tOfA X.K ca') σ H Q:=by rintro σ H Q ⟨μ,ρ,S,d,S',sr,re,e,y⟩;obtain⟨xs,S1,e1,e⟩:=zA8 e;exact⟨μ,ρ,S,xs,S1,sr,re,e1,fun vs H1 μ1 sr1 st1 r1=>ho xs S1 d S' H1 μ1 vs Q e sr1 r1 (y.shift st1)⟩
noncomputable def spOf(K:W.Frag)(φ:List D->M D)(n:Nat):Sp:=fun vs H Q E=>vs.length=n/\∃μ ds S d S',SR K μ S H/\RVs K H μ ds vs/\φ ds S=.ok d S'/\Yld K μ H d S' Q
theorem zTF{φ:List D->M D}{n:Nat}(hn:∀ds S d S',φ ds S=.ok d S'->ds.length=n):∀σ H Q,tOf X.K (cApp φ ca') σ H Q->zSK (spOf X.K φ n) [] E0 (tOfA X.K ca') σ H Q:=by rintro σ H Q ⟨μ,ρ,S,d,S',sr,re,e,y⟩;obtain⟨xs,S1,e1,e⟩:=zA8 e;refine⟨μ,ρ,S,xs,S1,sr,re,e1,fun vs H1 μ1 sr1 st1 r1=>?_⟩;rw[qH6];exact⟨by rw[<- r1.len];exact hn _ _ _ _ e,μ1,xs,S1,d,S',sr1,r1,e,y.shift st1⟩
end
open PySem PySem.Spec PyProof.Rows
noncomputable def lim:Nat:=1048576
theorem zHn{n:Nat}(h:n<=lim):n<=sizeLine:=qD3 h (by decide)
theorem zHm{n:Nat}(h:n<lim):n<sizeLine:=qC4 h (by decide)
section
variable {K:W.Frag}{H H' H1:Hp}{μ:yC}{S:zA0}
theorem SR.same(sr:SR K μ S H)(sm:Same H H1):SR K μ S H1/\Step K μ μ H H1:=by have tk:TF K H H1:=zNC sm;refine⟨⟨sr.len,sr.nd,fun n a o e1 e2=>?_⟩,⟨⟨[],by simp,by simp⟩,fun b o _ h=>sm b o h,tk⟩⟩;obtain⟨u,hu⟩:=sr.isS (qB4 e1);exact(sr.obj n a o e1 e2).up tk ⟨[],by simp⟩ (by rw[hu];exact sm _ _ hu)
theorem Yld.oldT{ds:List D}{vs:List V}{p:Addr}{Q:VK}(y:Yld K μ H (.tup ds) S Q)(sr:SR K μ S H)(sm:Same H H1)(h:H1 p=some (.tup vs))(r:RVs K H μ ds vs):Q (.ref p) H1:=by obtain⟨s1,s2⟩:=sr.same sm;exact y _ _ _ s1 s2 (by unfold RV;exact⟨p,vs,rfl,h,RVs.up s2.tk s2.ext _ _ r⟩)
theorem zBo{i:Int}:RV K H μ (.int i) (.int i):=by unfold RV;rfl
theorem zDp{i:Bool}:RV K H μ (.bl i) (.bl i):=by unfold RV;rfl
theorem zFU:RV K H μ .non .non:=by unfold RV;rfl
theorem zRZ{i:Str}:RV K H μ (.str i) (.str i):=by unfold RV;rfl
theorem SR.lst(sr:SR K μ S H){n:Nat}{a:Addr}{xs:List D}(h:μ[n]?=some a)(ho:S[n]?=some (.lst xs)):∃vs,H a=some (.lst vs)/\RVs K H μ xs vs:=sr.obj n a _ h ho
noncomputable def zA4(S:zA0)(n:Nat):Option (List D):=match S[n]? with
 |some (.lst xs)=>some xs
 |_=>none
theorem SR.sq(sr:SR K μ S H){n:Nat}{a:Addr}{xs:List D}(h:μ[n]?=some a)(ho:zA4 S n=some xs):∃vs,SqL K H a vs/\RVs K H μ xs vs:=by
 unfold zA4 at ho;split at ho
 ·rename_i ys e;cases ho;obtain⟨vs,q,r⟩:=sr.get h e;exact⟨vs,SqL.of q,r⟩
 ·cases ho
noncomputable def zHM(S:zA0):D->Option (List D)
 |.tup xs=>some xs
 |.lst n=>zA4 S n
 |.rol xs=>some xs
 |_=>none
theorem SR.seq(sr:SR K μ S H){x:D}{v:V}{xs:List D}(r:RV K H μ x v)(ho:zHM S x=some xs):∃a vs,v=.ref a/\(SqL K H a vs∨SqT K H a vs)/\RVs K H μ xs vs:=by
 unfold zHM at ho;split at ho
 ·cases ho;unfold RV at r;obtain⟨p,vs,rfl,q,rr⟩:=r;exact⟨p,vs,rfl,.inr (SqT.of q),rr⟩
 ·unfold RV at r;obtain⟨a,rfl,hm⟩:=r;obtain⟨vs,q,rr⟩:=sr.sq hm ho;exact⟨a,vs,rfl,.inl q,rr⟩
 ·cases ho;unfold RV at r;obtain⟨p,vs,rfl,q,rr⟩:=r;exact⟨p,vs,rfl,.inl q.sq,rr⟩
 ·cases ho
theorem RVs.cons_inv{d:D}{ds:List D}{vs:List V}(h:RVs K H μ (d::ds) vs):∃v ws,vs=v::ws/\RV K H μ d v/\RVs K H μ ds ws:=by unfold RVs at h;exact h
theorem RVs.nil_inv{vs:List V}(h:RVs K H μ [] vs):vs=[]:=by unfold RVs at h;exact h
end
noncomputable def oInt(g:Int->Int->Int):D->D->M D
 |.int i,.int j=>ret (.int (g i j))
 |_,_=>bad
noncomputable def oAdd:D->D->M D
 |.int i,.int j=>ret (.int (i+j))
 |.tup xs,.tup ys=>fun S=>if xs.length+ys.length<=lim then .ok (.tup (xs++ys)) S else .bad
 |.lst n,.lst m=>fun S=>match S[n]?,S[m]? with
  |some (.lst xs),some (.lst ys)=>if xs.length+ys.length<=lim then .ok (.lst S.length) (S++[.lst (xs++ys)])else .bad
  |_,_=>.bad
 |.str x,.str y=>fun S=>if x.length+y.length<=lim then .ok (.str (x++y)) S else .bad
 |_,_=>bad
noncomputable def zER(i j:Int):Bool:=(decide (-18446744073709551616<i)&&decide (i<18446744073709551616))||(decide (-18446744073709551616<j)&&decide (j<18446744073709551616))
noncomputable def oMul:D->D->M D
 |.int i,.int j=>fun S=>if zER i j then .ok (.int (i*j)) S else .bad
 |_,_=>bad
noncomputable def oMod:D->D->M D
 |.int i,.int j=>fun S=>if 0<j then .ok (.int (i % j)) S else .bad
 |_,_=>bad
noncomputable def oDiv:D->D->M D
 |.int i,.int j=>fun S=>if 0<j/\j<1073741824 then .ok (.int (i / j)) S else .bad
 |_,_=>bad
noncomputable def oPow:D->D->M D
 |.int i,.int j=>fun S=>if 0<=j/\j<=1000000/\i.natAbs<18446744073709551616 then .ok (.int (i ^ j.toNat)) S else .bad
 |_,_=>bad
noncomputable def oShl:D->D->M D
 |.int i,.int j=>fun S=>if 0<=j/\j<=1000000/\i.natAbs<18446744073709551616 then .ok (.int (i*2 ^ j.toNat)) S else .bad
 |_,_=>bad
noncomputable def oShr:D->D->M D
 |.int i,.int j=>fun S=>if 0<=j then .ok (.int (i / 2 ^ j.toNat)) S else .bad
 |_,_=>bad
noncomputable def oNeg:D->M D
 |.int i=>ret (.int (-i))
 |_=>bad
section
variable {X:Cx}
theorem zLw{op:Operator}{g:Int->Int->Int}(h:OpR X (binaryOp op) (rI0 fun i j=>.int (g i j))):OpS X.K (rAny X (binaryOp op)) (oInt g):=by
 intro x y S d S' H μ v u Q e sr rx ry h';unfold oInt at e;split at e
 ·obtain⟨rfl,rfl⟩:=zAt e;unfold RV at rx ry;subst rx ry;exact⟨_,h,_,_,rfl,rfl,h'.self sr zBo⟩
 ·cases e
theorem zVS:OpS X.K (rAny X (binaryOp .Sub)) (oInt fun i j=>i - j):=zLw zW2
theorem zVZ:OpS X.K (rAny X (binaryOp .BitAnd)) (oInt Builtin.bitAnd):=zLw zWe
theorem zYS:OpS X.K (rAny X (binaryOp .BitOr)) (oInt Builtin.bitOr):=zLw zZ2
theorem zVR:OpS X.K (rAny X (binaryOp .BitXor)) (oInt Builtin.bitXor):=zLw zW1
theorem zW0:OpS X.K (rAny X (binaryOp .Add)) oAdd:=by
 intro x y S d S' H μ v u Q e sr rx ry h;unfold oAdd at e;split at e
 ·obtain⟨rfl,rfl⟩:=zAt e;unfold RV at rx ry;subst rx ry;exact⟨_,zWf,_,_,rfl,rfl,h.self sr zBo⟩
 ·try dsimp only at e
  split at e
  ·rename_i hl;cases e;unfold RV at rx ry;obtain⟨p,vs,rfl,q1,r1⟩:=rx;obtain⟨p2,ws,rfl,q2,r2⟩:=ry;exact⟨_,zQQ,p,p2,vs,ws,rfl,rfl,q1,q2,by rw[<- r1.len,<- r2.len];exact zHn hl,fun p3 H1 sm sq=>h.oldT sr sm sq (r1.append r2)⟩
  ·cases e
 ·try dsimp only at e
  unfold RV at rx ry;obtain⟨p,rfl,m1⟩:=rx;obtain⟨p2,rfl,m2⟩:=ry;split at e
  ·rename_i xs ys o1 o2;split at e
   ·rename_i hl;cases e;obtain⟨vs,q1,r1⟩:=sr.lst m1 o1;obtain⟨ws,q2,r2⟩:=sr.lst m2 o2;exact⟨_,zWd,p,p2,vs,ws,rfl,rfl,q1,q2,by rw[<- r1.len,<- r2.len];exact zHn hl,fun p3 hp=>h.newL sr hp (r1.append r2)⟩
   ·cases e
  ·cases e
 ·try dsimp only at e
  split at e
  ·rename_i hl;cases e;unfold RV at rx ry;subst rx ry;exact⟨_,zMo,_,_,rfl,rfl,zHn hl,h.self sr zRZ⟩
  ·cases e
 ·cases e
theorem zTJ{i j:Int}(h:zER i j=true):CMul i j:=by unfold zER at h;simp only[qI3,qC9,decide_eq_true_eq]at h;exact h
theorem zVW:OpS X.K (rAny X (binaryOp .Mult)) oMul:=by
 intro x y S d S' H μ v u Q e sr rx ry h;unfold oMul at e;split at e
 ·try dsimp only at e
  split at e
  ·rename_i hl;cases e;unfold RV at rx ry;subst rx ry;exact⟨_,zW7,_,_,rfl,rfl,zTJ hl,h.self sr zBo⟩
  ·cases e
 ·cases e
theorem zVX:OpS X.K (rAny X (binaryOp .Mod)) oMod:=by
 intro x y S d S' H μ v u Q e sr rx ry h;unfold oMod at e;split at e
 ·try dsimp only at e
  split at e
  ·rename_i hl;cases e;unfold RV at rx ry;subst rx ry;exact⟨_,zW8,_,_,rfl,rfl,hl,h.self sr zBo⟩
  ·cases e
 ·cases e
theorem zVY:OpS X.K (rAny X (binaryOp .FloorDiv)) oDiv:=by
 intro x y S d S' H μ v u Q e sr rx ry h;unfold oDiv at e;split at e
 ·try dsimp only at e
  split at e
  ·rename_i hl;cases e;unfold RV at rx ry;subst rx ry;exact⟨_,zTA,_,_,rfl,rfl,hl,h.self sr zBo⟩
  ·cases e
 ·cases e
theorem zVV:OpS X.K (rAny X (binaryOp .Pow)) oPow:=by
 intro x y S d S' H μ v u Q e sr rx ry h;unfold oPow at e;split at e
 ·try dsimp only at e
  split at e
  ·rename_i hl;cases e;unfold RV at rx ry;subst rx ry;exact⟨_,zW5,_,_,rfl,rfl,hl,h.self sr zBo⟩
  ·cases e
 ·cases e
theorem zVU:OpS X.K (rAny X (binaryOp .LShift)) oShl:=by
 intro x y S d S' H μ v u Q e sr rx ry h;unfold oShl at e;split at e
 ·try dsimp only at e
  split at e
  ·rename_i hl;cases e;unfold RV at rx ry;subst rx ry;exact⟨_,zW4,_,_,rfl,rfl,hl,h.self sr zBo⟩
  ·cases e
 ·cases e
theorem zVT:OpS X.K (rAny X (binaryOp .RShift)) oShr:=by
 intro x y S d S' H μ v u Q e sr rx ry h;unfold oShr at e;split at e
 ·try dsimp only at e
  split at e
  ·rename_i hl;cases e;unfold RV at rx ry;subst rx ry;exact⟨_,zW3,_,_,rfl,rfl,hl,h.self sr zBo⟩
  ·cases e
 ·cases e
theorem zUP:UnS X.K (uAny X (unaryOp .USub)) oNeg:=by
 intro x S d S' H μ v Q e sr rx h;unfold oNeg at e;split at e
 ·obtain⟨rfl,rfl⟩:=zAt e;unfold RV at rx;subst rx;exact⟨_,zUQ,_,rfl,h.self sr zBo⟩
 ·cases e
noncomputable def oCmp(g:Int->Int->Bool):D->D->M D
 |.int i,.int j=>ret (.bl (g i j))
 |_,_=>bad
theorem zOa{op:CmpOp}{g:Int->Int->Bool}(h:OpR X (compareOp op) (rI0 fun i j=>.bl (g i j))):OpS X.K (rAny X (compareOp op)) (oCmp g):=by
 intro x y S d S' H μ v u Q e sr rx ry h';unfold oCmp at e;split at e
 ·obtain⟨rfl,rfl⟩:=zAt e;unfold RV at rx ry;subst rx ry;exact⟨_,h,_,_,rfl,rfl,h'.self sr zDp⟩
 ·cases e
theorem zYV:OpS X.K (rAny X (compareOp .LtE)) (oCmp fun i j=>decide (i<=j)):=zOa zZ5
theorem zYZ:OpS X.K (rAny X (compareOp .Gt)) (oCmp fun i j=>decide (j<i)):=zOa zZ6
theorem zZ0:OpS X.K (rAny X (compareOp .GtE)) (oCmp fun i j=>decide (j<=i)):=zOa zZ7
noncomputable def zCj:List D->Option (yA)
 |[]=>some []
 |.int i::r=>(zCj r).map (i::·)
 |_::_=>none
theorem zDw{K:W.Frag}{H:Hp}{μ:yC}:∀{ds:List D}{ns:yA}{vs:List V},zCj ds=some ns->RVs K H μ ds vs->vs=ns.map V.int
 |[],ns,vs,e,r=>by cases e;rw[r.nil_inv];rfl
 |.int i::ds,ns,vs,e,r=>by
  obtain⟨v,ws,rfl,r1,r2⟩:=r.cons_inv;unfold zCj at e;cases q:zCj ds with
  |none=>rw[q]at e;cases e
  |some ms =>
   rw[q]at e;cases e;unfold RV at r1;subst r1;rw[zDw q r2];rfl
 |.non::ds,ns,vs,e,r=>by cases e
 |.bl _::ds,ns,vs,e,r=>by cases e
 |.str _::ds,ns,vs,e,r=>by cases e
 |.ty _::ds,ns,vs,e,r=>by cases e
 |.tup _::ds,ns,vs,e,r=>by cases e
 |.lst _::ds,ns,vs,e,r=>by cases e
 |.dct _::ds,ns,vs,e,r=>by cases e
 |.rol _::ds,ns,vs,e,r=>by cases e
noncomputable def oLt:D->D->M D
 |.int i,.int j=>ret (.bl (decide (i<j)))
 |_,_=>bad
theorem zYU(hu:X.A.units<cLine):OpS X.K (rAny X (compareOp .Lt)) oLt:=by
 intro x y S d S' H μ v u Q e sr rx ry h;unfold oLt at e;split at e
 ·obtain⟨rfl,rfl⟩:=zAt e;unfold RV at rx ry;subst rx ry;exact⟨_,zZ4,_,_,rfl,rfl,h.self sr zDp⟩
 ·cases e
noncomputable def snap:Nat->zA0->D->Option PyData
 |0,_,_=>none
 |n+1,S,d=>match d with
  |.non=>some .none
  |.bl b=>some (.bool b)
  |.int i=>some (.int i)
  |.str x=>if PyData.strOk x then some (.str x)else none
  |.tup xs=>(xs.mapM (snap n S)).map .tuple
  |.lst k=>match zA4 S k with
   |some xs=>(xs.mapM (snap n S)).map .list
   |none=>none
  |_=>none
theorem zQh{K:W.Frag}{H:Hp}{μ:yC}{S:zA0}{n:Nat}(ih:∀d v p,snap n S d=some p->RV K H μ d v->Rp K H (fun _=>True) v p/\p.canLay0=true/\p.depth<=n):∀(xs:List D) (vs:List V) (ps:List PyData),xs.mapM (snap n S)=some ps->RVs K H μ xs vs->RpL K H (fun _=>True) vs ps/\PyData.canLayAll0 ps=true/\PyData.depthAll ps<=n
 |[],vs,ps,e,r=>by simp at e;subst e;rw[r.nil_inv];exact⟨.nil,rfl,qG3 _⟩
 |d::ds,vs,ps,e,r=>by
  obtain⟨v,ws,rfl,r1,r2⟩:=r.cons_inv;rw[qF4]at e;cases q:snap n S d with
  |none=>rw[q]at e;cases e
  |some p =>
   cases q2:ds.mapM (snap n S)with
   |none=>rw[q,q2]at e;cases e
   |some ps' =>
    rw[q,q2]at e;cases e;obtain⟨a1,a2,a3⟩:=ih d v p q r1;obtain⟨b1,b2,b3⟩:=zQh ih ds ws ps' q2 r2;refine⟨.cons a1 b1,?_,?_⟩
    ·show(PyData.canLay0 p&&PyData.canLayAll0 ps')=true;rw[a2,b2];rfl
    ·show max p.depth (PyData.depthAll ps')<=n;omega
theorem zDf{K:W.Frag}{H:Hp}{μ:yC}{S:zA0}(sr:SR K μ S H):∀(n:Nat) (d:D) (v:V) (p:PyData),snap n S d=some p->RV K H μ d v->Rp K H (fun _=>True) v p/\p.canLay0=true/\p.depth<=n
 |0,d,v,p,e,r=>by cases e
 |n+1,d,v,p,e,r=>by
  unfold snap at e;cases d with
  |non=>cases e;unfold RV at r;subst r;exact⟨.non,rfl,qG3 _⟩
  |bl b=>cases e;unfold RV at r;subst r;exact⟨.bl b,rfl,qG3 _⟩
  |int i=>cases e;unfold RV at r;subst r;exact⟨.int i,rfl,qG3 _⟩
  |str x =>
   dsimp only at e;split at e
   ·rename_i hs;cases e;unfold RV at r;subst r;exact⟨.str x,hs,qG3 _⟩
   ·cases e
  |tup xs =>
   dsimp only at e;cases q:xs.mapM (snap n S)with
   |none=>rw[q]at e;cases e
   |some ps =>
    rw[q]at e;cases e;unfold RV at r;obtain⟨a,vs,rfl,hq,rr⟩:=r;obtain⟨b1,b2,b3⟩:=zQh (fun d v p e r=>zDf sr n d v p e r) xs vs ps q rr;exact⟨.tup (SqT.of hq) b1,b2,qR9 b3⟩
  |lst k =>
   dsimp only at e;split at e
   ·rename_i xs hx;cases q:xs.mapM (snap n S)with
    |none=>rw[q]at e;cases e
    |some ps =>
     rw[q]at e;cases e;unfold RV at r;obtain⟨a,rfl,hm⟩:=r;obtain⟨vs,hq,rr⟩:=sr.sq hm hx;obtain⟨b1,b2,b3⟩:=zQh (fun d v p e r=>zDf sr n d v p e r) xs vs ps q rr;exact⟨.lst True.intro hq b1,b2,qR9 b3⟩
   ·cases e
  |dct k=>cases e
  |ty k=>cases e
  |rol k=>cases e
noncomputable def oEq:D->D->M D:=fun x y S=>match x,y with
 |.str a,.str b=>.ok (.bl (decide (a=b))) S
 |_,_=>match snap 40 S x,snap 40 S y with
  |some p,some q=>.ok (.bl (PyData.eqv p q)) S
  |_,_=>.bad
noncomputable def oNe:D->D->M D:=fun x y S=>match x,y with
 |.str a,.str b=>.ok (.bl (!decide (a=b))) S
 |_,_=>match snap 40 S x,snap 40 S y with
  |some p,some q=>.ok (.bl (!PyData.eqv p q)) S
  |_,_=>.bad
theorem zZ1(hu:X.A.units+64<cLine):OpS X.K (rAny X (compareOp .Eq)) oEq:=by
 intro x y S d S' H μ v u Q e sr rx ry h;unfold oEq at e;split at e
 ·rename_i a b;cases e;unfold RV at rx ry;subst rx ry;refine⟨_,zZ8,rfl,?_⟩;have z:decide (V.str a=V.str b)=decide (a=b):=by simp
  rw[z];exact h.self sr zDp
 ·split at e
  ·rename_i p q e1 e2;cases e;obtain⟨a1,a2,a3⟩:=zDf sr 40 x v p e1 rx;obtain⟨b1,b2,b3⟩:=zDf sr 40 y u q e2 ry;exact⟨_,zWb hu,_,_,p,q,a1,b1,⟨a2,by omega⟩,⟨b2,by omega⟩,h.self sr zDp⟩
  ·cases e
theorem zYT(hu:X.A.units+64<cLine):OpS X.K (rAny X (compareOp .NotEq)) oNe:=by
 intro x y S d S' H μ v u Q e sr rx ry h;unfold oNe at e;split at e
 ·rename_i a b;cases e;unfold RV at rx ry;subst rx ry;refine⟨_,zZ3,rfl,?_⟩;have z:decide (V.str a=V.str b)=decide (a=b):=by simp
  rw[z];exact h.self sr zDp
 ·split at e
  ·rename_i p q e1 e2;cases e;obtain⟨a1,a2,a3⟩:=zDf sr 40 x v p e1 rx;obtain⟨b1,b2,b3⟩:=zDf sr 40 y u q e2 ry;exact⟨_,zW6 hu,_,_,p,q,a1,b1,⟨a2,by omega⟩,⟨b2,by omega⟩,h.self sr zDp⟩
  ·cases e
noncomputable def D.isNon:D->Bool
 |.non=>true
 |_=>false
theorem zOI{K:W.Frag}{H:Hp}{μ:yC}{x:D}{v:V}(r:RV K H μ x v):decide (v=.non)=x.isNon:=by
 cases x with
 |non=>unfold RV at r;subst r;rfl
 |bl _=>unfold RV at r;subst r;rfl
 |int _=>unfold RV at r;subst r;rfl
 |str _=>unfold RV at r;subst r;rfl
 |ty _=>unfold RV at r;subst r;rfl
 |tup _=>unfold RV at r;obtain⟨_,_,rfl,_⟩:=r;rfl
 |lst _=>unfold RV at r;obtain⟨_,rfl,_⟩:=r;rfl
 |dct _=>unfold RV at r;obtain⟨_,rfl,_⟩:=r;rfl
 |rol _=>unfold RV at r;obtain⟨_,_,rfl,_⟩:=r;rfl
noncomputable def oIs:D->D->M D
 |x,.non=>ret (.bl x.isNon)
 |.bl a,.bl b=>ret (.bl (a == b))
 |_,_=>bad
noncomputable def zHj:D->D->M D
 |x,.non=>ret (.bl (!x.isNon))
 |.bl a,.bl b=>ret (.bl (a != b))
 |_,_=>bad
theorem zYX:OpS X.K (rAny X (compareOp .Is)) oIs:=by
 intro x y S d S' H μ v u Q e sr rx ry h;unfold oIs at e;split at e
 ·obtain⟨rfl,rfl⟩:=zAt e;unfold RV at ry;exact⟨_,zW9,ry,by rw[zOI rx];exact h.self sr zDp⟩
 ·obtain⟨rfl,rfl⟩:=zAt e;unfold RV at rx ry;subst rx ry;exact⟨_,zQP,_,_,rfl,rfl,h.self sr zDp⟩
 ·cases e
theorem zQO:OpS X.K (rAny X (compareOp .IsNot)) zHj:=by
 intro x y S d S' H μ v u Q e sr rx ry h;unfold zHj at e;split at e
 ·obtain⟨rfl,rfl⟩:=zAt e;unfold RV at ry;exact⟨_,zTz,ry,by rw[zOI rx];exact h.self sr zDp⟩
 ·obtain⟨rfl,rfl⟩:=zAt e;unfold RV at rx ry;subst rx ry;exact⟨_,zKh,_,_,rfl,rfl,h.self sr zDp⟩
 ·cases e
noncomputable def flat:D->Option V
 |.non=>some .non
 |.bl b=>some (.bl b)
 |.int i=>some (.int i)
 |.str x=>some (.str x)
 |_=>none
theorem zSh{K:W.Frag}{H:Hp}{μ:yC}{x:D}{v w:V}(e:flat x=some w)(r:RV K H μ x v):v=w:=by
 cases x with
 |non=>cases e;unfold RV at r;exact r
 |bl _=>cases e;unfold RV at r;exact r
 |int _=>cases e;unfold RV at r;exact r
 |str _=>cases e;unfold RV at r;exact r
 |_=>cases e
theorem zP1{K:W.Frag}{H:Hp}{μ:yC}:∀{ds:List D}{vs ws:List V},ds.mapM flat=some ws->RVs K H μ ds vs->vs=ws
 |[],vs,ws,e,r=>by simp at e;subst e;exact r.nil_inv
 |d::ds,vs,ws,e,r=>by
  obtain⟨v,us,rfl,r1,r2⟩:=r.cons_inv;rw[qF4]at e;cases q:flat d with
  |none=>rw[q]at e;cases e
  |some w =>
   cases q2:ds.mapM flat with
   |none=>rw[q,q2]at e;cases e
   |some ws' =>
    rw[q,q2]at e;cases e;rw[zSh q r1,zP1 q2 r2]
noncomputable def zDa:D->Option Key
 |.int i=>some (.inl i)
 |.str x=>some (.inr x)
 |_=>none
theorem zGd{K:W.Frag}{H:Hp}{μ:yC}{x:D}{v:V}{k:Key}(e:zDa x=some k)(r:RV K H μ x v):v=kV k:=by
 cases x with
 |int _=>cases e;unfold RV at r;exact r
 |str _=>cases e;unfold RV at r;exact r
 |_=>cases e
noncomputable def valD{κ:Type}[DecidableEq κ](kvs:List (κ×D))(k:κ):Option D:=(kvs.find? fun kv=>decide (kv.1=k)).map (·.2)
noncomputable def putD{κ:Type}[DecidableEq κ](kvs:List (κ×D))(k:κ)(v:D):List (κ×D) :=
 if(kvs.any fun kv=>decide (kv.1=k))=true then kvs.map (fun kv=>if kv.1=k then(kv.1,v)else kv)else kvs++[(k,v)]
section
variable {κ:Type} [DecidableEq κ] {K:W.Frag}{H:Hp}{μ:yC}
theorem RKs.cons_inv{p:κ×D}{kvs:List (κ×D)}{ws:List (κ×V)}(h:RKs K H μ (p::kvs) ws):∃q us,ws=q::us/\p.1=q.1/\RV K H μ p.2 q.2/\RKs K H μ kvs us:=by
 obtain⟨h1,h2⟩:=h;rw[qB5]at h1 h2;obtain⟨v,vs,e,r1,r2⟩:=h2.cons_inv;cases ws with
 |nil=>simp at h1
 |cons q us =>
  rw[qB5]at h1 e;cases e;rw[qT3.injEq]at h1;exact⟨q,us,rfl,h1.1,r1,h1.2,r2⟩
theorem RKs.val{k:κ}:∀{kvs:List (κ×D)}{ws:List (κ×V)},RKs K H μ kvs ws->(∀d,valD kvs k=some d->∃v,valV ws k=some v/\RV K H μ d v)/\(valD kvs k=none->valV ws k=none)
 |[],ws,h=>by
  have:ws=[]:=by have:=h.1;cases ws with|nil=>rfl|cons a b=>simp at this
  subst this;exact⟨fun d e=>(by cases e),fun _=>rfl⟩
 |p::kvs,ws,h=>by
  obtain⟨q,us,rfl,e1,r1,r2⟩:=h.cons_inv;obtain⟨i1,i2⟩:=RKs.val (k:=k) r2;by_cases hk:p.1=k
  ·have e2:valD (p::kvs) k=some p.2:=by simp[valD,qE9,hk]
   rw[e2,zFy (e1▸hk)];exact⟨fun d e=>by cases e;exact⟨_,rfl,r1⟩,fun e=>by cases e⟩
  ·have e2:valD (p::kvs) k=valD kvs k:=by simp[valD,qE9,hk]
   rw[e2,zFz (e1▸hk)];exact⟨i1,i2⟩
theorem RKs.nil:RKs K H μ ([]:List (κ×D)) []:=⟨rfl,RVs.nil⟩
theorem RKs.cons{k:κ}{d:D}{v:V}{kvs:List (κ×D)}{ws:List (κ×V)}(r:RV K H μ d v)(h:RKs K H μ kvs ws):RKs K H μ ((k,d)::kvs) ((k,v)::ws):=⟨by rw[qB5,qB5,h.1],by rw[qB5,qB5];exact .cons r h.2⟩
theorem RKs.any{k:κ}:∀{kvs:List (κ×D)}{ws:List (κ×V)},RKs K H μ kvs ws->(kvs.any fun kv=>decide (kv.1=k))=(ws.any fun kv=>decide (kv.1=k))
 |[],ws,h=>by
  have:ws=[]:=by have:=h.1;cases ws with|nil=>rfl|cons a b=>simp at this
  subst this;rfl
 |p::kvs,ws,h=>by obtain⟨q,us,rfl,e1,r1,r2⟩:=h.cons_inv;rw[qG2,qG2,RKs.any r2,e1]
theorem RKs.mapSet{k:κ}{d:D}{v:V}(rv:RV K H μ d v):∀{kvs:List (κ×D)}{ws:List (κ×V)},RKs K H μ kvs ws->RKs K H μ (kvs.map (fun kv=>if kv.1=k then(kv.1,d)else kv)) (ws.map (fun kv=>if kv.1=k then(kv.1,v)else kv))
 |[],ws,h=>by
  have:ws=[]:=by have:=h.1;cases ws with|nil=>rfl|cons a b=>simp at this
  subst this;exact .nil
 |p::kvs,ws,h=>by
  obtain⟨q,us,rfl,e1,r1,r2⟩:=h.cons_inv;rw[qB5,qB5];obtain⟨p1,p2⟩:=p;obtain⟨q1,q2⟩:=q;dsimp only at e1 r1 ⊢;subst e1;by_cases hk:p1=k
  ·rw[if_pos hk,if_pos hk];exact .cons rv (RKs.mapSet rv r2)
  ·rw[if_neg hk,if_neg hk];exact .cons r1 (RKs.mapSet rv r2)
theorem RKs.append{as:List (κ×D)}{bs:List (κ×V)}{cs:List (κ×D)}{ds:List (κ×V)}(h:RKs K H μ as bs)(g:RKs K H μ cs ds):RKs K H μ (as++cs) (bs++ds):=⟨by rw[qE4,qE4,h.1,g.1],by rw[qE4,qE4];exact h.2.append g.2⟩
theorem RKs.put{k:κ}{d:D}{v:V}(rv:RV K H μ d v){kvs:List (κ×D)}{ws:List (κ×V)}(h:RKs K H μ kvs ws):RKs K H μ (putD kvs k d) (putK ws k v):=by
 unfold putD putK;rw[h.any (k:=k)];by_cases hc:(ws.any fun kv=>decide (kv.1=k))=true
 ·rw[if_pos hc,if_pos hc];exact h.mapSet rv
 ·rw[if_neg hc,if_neg hc];exact h.append (.cons rv .nil)
theorem RKs.len{kvs:List (κ×D)}{ws:List (κ×V)}(h:RKs K H μ kvs ws):kvs.length=ws.length:=by have:=congrArg qM4 h.1;simpa using this
end
noncomputable def dictAt(S:zA0)(n:Nat)(x:D):Option (Option D):=match S[n]? with
 |some (.dk kvs)=>(zDa x).map fun k=>valD kvs k
 |some (.dt kvs)=>match x with
  |.tup ks=>(ks.mapM zDa).map fun k=>valD kvs k
  |_=>none
 |_=>none
theorem zHo{K:W.Frag}{H:Hp}{μ:yC}:∀{ds:List D}{ks:List Key}{vs:List V},ds.mapM zDa=some ks->RVs K H μ ds vs->vs=ks.map kV
 |[],ks,vs,e,r=>by simp at e;subst e;exact r.nil_inv
 |d::ds,ks,vs,e,r=>by
  obtain⟨u,us,rfl,r1,r2⟩:=r.cons_inv;rw[qF4]at e;cases q:zDa d with
  |none=>rw[q]at e;cases e
  |some k =>
   cases q2:ds.mapM zDa with
   |none=>rw[q,q2]at e;cases e
   |some ks' =>
    rw[q,q2]at e;cases e;rw[qB5,zGd q r1,zHo q2 r2]
theorem zJs{K:W.Frag}{H:Hp}{μ:yC}{S:zA0}{n:Nat}{x:D}{v:V}{a:Addr}{r:Option D}(sr:SR K μ S H)(e:dictAt S n x=some r)(hm:μ[n]?=some a)(rx:RV K H μ x v):∃o,DGet H a v o/\(∀d,r=some d->∃w,o=some w/\RV K H μ d w)/\(r=none->o=none):=by
 unfold dictAt at e;split at e
 ·rename_i kvs ho;cases q:zDa x with
  |none=>rw[q]at e;cases e
  |some k =>
   rw[q]at e;cases e;obtain⟨ws,hw,rr⟩:=sr.get hm ho;have:=zGd q rx;subst this;exact⟨valV ws k,DGet.k hw,(rr.val (k:=k)).1,(rr.val (k:=k)).2⟩
 ·rename_i kvs ho;split at e
  ·rename_i ks;cases q:ks.mapM zDa with
   |none=>rw[q]at e;cases e
   |some k =>
    rw[q]at e;cases e;obtain⟨ws,hw,rr⟩:=sr.get hm ho;unfold RV at rx;obtain⟨p,us,rfl,hp,ru⟩:=rx;have:=zHo q ru;subst this;exact⟨valV ws k,DGet.t hw hp,(rr.val (k:=k)).1,(rr.val (k:=k)).2⟩
  ·cases e
 ·cases e
noncomputable def oIn(neg:Bool):D->D->M D:=fun x y S=>match y with
 |.dct n=>match dictAt S n x with
  |some o=>.ok (.bl (if neg then !o.isSome else o.isSome)) S
  |none=>.bad
 |_=>match zHM S y,flat x with
  |some ys,some v=>match ys.mapM flat with
   |some vs=>.ok (.bl (if neg then !inV v vs else inV v vs)) S
   |none=>.bad
  |some ys,none=>match snap 40 S x,ys.mapM (snap 40 S)with
   |some p,some ps=>.ok (.bl (if neg then !(ps.any fun d=>PyData.eqv d p)else ps.any fun d=>PyData.eqv d p)) S
   |_,_=>.bad
  |_,_=>.bad
theorem zHx{x:D}{v:V}(h:flat x=some v):zGX v=true:=by cases x<;>first|(cases h;rfl)| cases h
theorem zGr:∀{ds:List D}{vs:List V},ds.mapM flat=some vs->vs.all zGX=true
 |[],vs,e=>by simp at e;subst e;rfl
 |d::ds,vs,e=>by
  rw[qF4]at e;cases q:flat d with
  |none=>rw[q]at e;cases e
  |some w =>
   cases q2:ds.mapM flat with
   |none=>rw[q,q2]at e;cases e
   |some ws' =>
    rw[q,q2]at e;cases e;rw[qJ7,zHx q,zGr q2];rfl
theorem zWc(hu:X.A.units+1<cLine):OpR X (compareOp .In) (fun y x H Q=>∃a o,x=.ref a/\DGet H a y o/\Q (.bl o.isSome) H):=by intro pins s σ H y x v u Q I ry rx h;obtain⟨a,o,rfl,g,q⟩:=h;obtain rfl:u=Value.ref a:=rx;exact d_in hu I g ry fun s3 I3=>⟨.bl o.isSome,H,I3,rfl,q⟩
theorem zOd(hu:X.A.units+1<cLine):OpR X (compareOp .NotIn) (fun y x H Q=>∃a o,x=.ref a/\DGet H a y o/\Q (.bl (!o.isSome)) H):=by intro pins s σ H y x v u Q I ry rx h;obtain⟨a,o,rfl,g,q⟩:=h;obtain rfl:u=Value.ref a:=rx;exact zUf hu I g ry fun s3 I3=>⟨.bl (!o.isSome),H,I3,rfl,q⟩
theorem zTD{n:Nat}:∀{ps:List PyData},PyData.canLayAll0 ps=true->PyData.depthAll ps<=n->∀d∈ps,d.canLay0=true/\d.depth<=n
 |[],_,_,d,h=>by cases h
 |p::ps,h1,h2,d,h=>by
  replace h1:(PyData.canLay0 p&&PyData.canLayAll0 ps)=true:=h1
  replace h2:max p.depth (PyData.depthAll ps)<=n:=h2
  rw[qC9]at h1;rcases qC0.mp h with rfl|h
  ·exact⟨h1.1,by omega⟩
  ·exact zTD h1.2 (by omega) d h
theorem zHi{neg:Bool}{op:CmpOp}(h1:OpR X (compareOp op) (rIn X.K neg))(h2:OpR X (compareOp op) (fun y x H Q=>∃a o,x=.ref a/\DGet H a y o/\Q (.bl (if neg then !o.isSome else o.isSome)) H))
  (h3:OpR X (compareOp op) (rInG X.K neg))
  : OpS X.K (rAny X (compareOp op)) (oIn neg):=by
 intro x y S d S' H μ v u Q e sr rx ry h;unfold oIn at e;split at e
 ·rename_i n;split at e
  ·rename_i o ho;cases e;unfold RV at ry;obtain⟨a,rfl,hm⟩:=ry;obtain⟨o',g,g1,g2⟩:=zJs sr ho hm rx;have e2:o'.isSome=o.isSome:=by
    cases o with
    |none=>simp[g2 rfl]
    |some d=>obtain⟨w,rfl,_⟩:=g1 d rfl;rfl
   exact⟨_,h2,a,o',rfl,g,by rw[e2];exact h.self sr zDp⟩
  ·cases e
 ·split at e
  ·rename_i ys w e1 e2;split at e
   ·rename_i ws e3;cases e;obtain⟨a,vs,rfl,hq,rr⟩:=sr.seq ry e1;have z1:=zSh e2 rx;have z2:=zP1 e3 rr;subst z1 z2;exact⟨_,h1,a,vs,rfl,hq,zHx e2,zGr e3,h.self sr zDp⟩
   ·cases e
  ·rename_i ys e1 e2;split at e
   ·rename_i p ps hp hps;cases e;obtain⟨a,vs,rfl,hq,rr⟩:=sr.seq ry e1;obtain⟨a1,a2,a3⟩:=zDf sr 40 x v p hp rx;obtain⟨b1,b2,b3⟩:=zQh (fun d v p e r=>zDf sr 40 d v p e r) ys vs ps hps rr;exact⟨_,h3,a,vs,_,_,p,ps,rfl,hq,a1,⟨a2,by omega⟩,b1,fun d hd=>⟨(zTD b2 b3 d hd).1,by have:=(zTD b2 b3 d hd).2;omega⟩,h.self sr zDp⟩
   ·cases e
  ·cases e
theorem zYY(hu:X.A.units+64<cLine):OpS X.K (rAny X (compareOp .In)) (oIn false):=zHi zOc (zWc (by omega))
 (zWa hu)
theorem zQN(hu:X.A.units+64<cLine):OpS X.K (rAny X (compareOp .NotIn)) (oIn true):=zHi zJ5 (zOd (by omega))
 (zOb hu)
end
open PySem PySem.Spec PyProof.Rows
section
variable {X:Cx}
theorem zU0(hu:X.A.units+1<cLine):IxR X (fun x y H Q=>∃a v,x=.ref a/\DGet H a y (some v)/\Q v H):=by
 intro value slice pins s σ H x y v u Q I rx ry h hs;obtain⟨a,z,rfl,g,q⟩:=h;obtain rfl:v=Value.ref a:=rx;have hT:=zKL I g;have h₂:wpAny (model X.prog X.w) X.A (getItem (.ref a) u) (EP X pins σ Q) X.xe s:=zPk hu I g ry fun w' s3 I3 rw'=>⟨z,H,I3,rw',q⟩
 unfold subscriptTail;refine wpAny_bind ?_;rw[getitemInPython_of_ne hT.not_modules];refine wpAny_bind (wpAny_specialOf hT PySem.F.slot_dict_getitem.lookup ?_);have fin:wpAny (model X.prog X.w) X.A (subscripted slice false (.ref a) u) (fun r s₃=>wpAny (model X.prog X.w) X.A (letTemporaryGo value (.ref a) r >>= fun _=>pure r) (EP X pins σ Q) X.xe s₃) X.xe s:=by rw[hs];exact wpAny_operating (wpAny_mono h₂ (fun r s₃ h₃=>wpAny_bind (wpAny_letTemporaryGo (wpAny_pure h₃))) fun _ _ x=>x)
 exact wpAny_pure (wpAny_bind fin)
noncomputable def oIx:D->D->M D:=fun x i S=>match x with
 |.dct n=>match dictAt S n i with
  |some (some d)=>.ok d S
  |_=>.bad
 |_=>match zHM S x,i with
  |some xs,.int j=>match atI xs j with
   |some d=>.ok d S
   |none=>.bad
  |_,_=>.bad
theorem RVs.at{K:W.Frag}{H:Hp}{μ:yC}{ds:List D}{vs:List V}{i:Int}{d:D}(r:RVs K H μ ds vs)(e:atI ds i=some d):∃v,atI vs i=some v/\RV K H μ d v:=by
 unfold atI at e ⊢;rw[<- r.len];cases q:ixN ds.length i with
 |none=>rw[q]at e;cases e
 |some j =>
  rw[q]at e;obtain⟨v,e1,e2⟩:=r.get (i:=j) (d:=d) e;exact⟨v,e1,e2⟩
theorem zYW(hu:X.A.units+1<cLine):OpS X.K (zOE X) oIx:=by
 intro x y S d S' H μ v u Q e sr rx ry h;unfold oIx at e;split at e
 ·rename_i n;split at e
  ·rename_i d' ho;cases e;unfold RV at rx;obtain⟨a,rfl,hm⟩:=rx;obtain⟨o,g,g1,_⟩:=zJs sr ho hm ry;obtain⟨w,rfl,rw'⟩:=g1 _ rfl;exact⟨_,zU0 hu,a,w,rfl,g,h.self sr rw'⟩
  ·cases e
 ·split at e
  ·rename_i xs j e1;split at e
   ·rename_i d' e2;cases e;obtain⟨a,vs,rfl,hq,rr⟩:=sr.seq rx e1;obtain⟨w,e3,rw'⟩:=rr.at e2;unfold RV at ry;subst ry;rcases hq with hq|hq
    ·exact⟨_,zTZ,a,vs,j,w,rfl,rfl,hq,e3,h.self sr rw'⟩
    ·exact⟨_,zWA,a,vs,j,w,rfl,rfl,hq,e3,h.self sr rw'⟩
   ·cases e
  ·cases e
noncomputable def cutD(xs:List D)(lo hi:yG):List D:=(xs.drop (HT.sIx xs.length 0 lo)).take (HT.sIx xs.length xs.length hi - HT.sIx xs.length 0 lo)
noncomputable def oSl:D->yG->yG->M D:=fun x lo hi S=>match x with
 |.tup xs=>.ok (.tup (cutD xs lo hi)) S
 |.lst n=>match zA4 S n with
  |some xs=>.ok (.lst S.length) (S++[.lst (cutD xs lo hi)])
  |none=>.bad
 |_=>.bad
theorem RVs.cut{K:W.Frag}{H:Hp}{μ:yC}{ds:List D}{vs:List V}(r:RVs K H μ ds vs)(lo hi:yG):RVs K H μ (cutD ds lo hi) (cutV vs lo hi):=by unfold cutD cutV;rw[r.len];exact(r.drop _).take _
theorem zYp:SlS X.K (zNK X) oSl:=by
 intro x lo hi S d S' H μ v Q e sr rx h;unfold oSl at e;split at e
 ·cases e;unfold RV at rx;obtain⟨p,vs,rfl,q,rr⟩:=rx;exact⟨_,zSS,p,vs,rfl,q,fun p2 H1 sm sq=>h.oldT sr sm sq (rr.cut lo hi)⟩
 ·split at e
  ·rename_i xs e1;cases e;unfold RV at rx;obtain⟨a,rfl,hm⟩:=rx;obtain⟨vs,q,rr⟩:=sr.sq hm e1;exact⟨_,zST,a,vs,rfl,q,fun p hp=>h.newL sr hp (rr.cut lo hi)⟩
  ·cases e
 ·cases e
theorem RVs.reverse{K:W.Frag}{H:Hp}{μ:yC}:∀{ds:List D}{vs:List V},RVs K H μ ds vs->RVs K H μ ds.reverse vs.reverse
 |[],vs,r=>by rw[r.nil_inv];exact .nil
 |d::ds,vs,r=>by obtain⟨v,ws,rfl,r1,r2⟩:=r.cons_inv;rw[qL5,qL5];exact r2.reverse.append (.cons r1 .nil)
noncomputable def fLen:List D->M D:=fun xs S=>match xs with
 |[.str x]=>if x.length<=lim then .ok (.int x.length) S else .bad
 |[.dct n]=>.bad
 |[x]=>match zHM S x with
  |some ys=>.ok (.int ys.length) S
  |none=>.bad
 |_=>.bad
theorem RVs.one{K:W.Frag}{H:Hp}{μ:yC}{d:D}{vs:List V}(h:RVs K H μ [d] vs):∃v,vs=[v]/\RV K H μ d v:=by obtain⟨v,ws,rfl,r1,r2⟩:=h.cons_inv;rw[r2.nil_inv];exact⟨v,rfl,r1⟩
theorem RVs.two{K:W.Frag}{H:Hp}{μ:yC}{d e:D}{vs:List V}(h:RVs K H μ [d,e] vs):∃v u,vs=[v,u]/\RV K H μ d v/\RV K H μ e u:=by obtain⟨v,ws,rfl,r1,r2⟩:=h.cons_inv;obtain⟨u,rfl,r3⟩:=r2.one;exact⟨v,u,rfl,r1,r3⟩
theorem zXa:zEF X.K (cAny X (.builtin "len")) fLen:=by
 intro xs S d S' H μ vs Q e sr rx h;unfold fLen at e;split at e
 ·split at e
  ·rename_i hl;cases e;obtain⟨v,rfl,r⟩:=rx.one;unfold RV at r;subst r;exact⟨_,zJF,_,rfl,zHn hl,h.self sr zBo⟩
  ·cases e
 ·cases e
 ·split at e
  ·rename_i ys e1;cases e;obtain⟨v,rfl,r⟩:=rx.one;obtain⟨a,vs,rfl,hq,rr⟩:=sr.seq r e1;exact⟨_,zJG,a,vs,rfl,hq,by rw[<- rr.len];exact h.self sr zBo⟩
  ·cases e
 ·cases e
noncomputable def fMin:List D->M D:=fun xs S=>match xs with
 |[.int i,.int j]=>.ok (.int (if j<i then j else i)) S
 |_=>.bad
noncomputable def fMax:List D->M D:=fun xs S=>match xs with
 |[.int i,.int j]=>.ok (.int (if j>i then j else i)) S
 |_=>.bad
theorem zX8(hc:X.calm=true):zEF X.K (cAny X (.builtin "min")) fMin:=by
 intro xs S d S' H μ vs Q e sr rx h;unfold fMin at e;split at e
 ·cases e;obtain⟨v,u,rfl,r1,r2⟩:=rx.two;unfold RV at r1 r2;subst r1 r2;exact⟨_,zPC hc,_,_,rfl,h.self sr zBo⟩
 ·cases e
theorem zX9(hc:X.calm=true):zEF X.K (cAny X (.builtin "max")) fMax:=by
 intro xs S d S' H μ vs Q e sr rx h;unfold fMax at e;split at e
 ·cases e;obtain⟨v,u,rfl,r1,r2⟩:=rx.two;unfold RV at r1 r2;subst r1 r2;exact⟨_,zPD hc,_,_,rfl,h.self sr zBo⟩
 ·cases e
noncomputable def zP8:List D->M D:=fun xs S=>match xs with
 |[x]=>match zHM S x with
  |some ys=>.ok (.lst S.length) (S++[.lst ys])
  |none=>.bad
 |_=>.bad
theorem zUh:zEF X.K (cAny X (.type "list")) zP8:=by
 intro xs S d S' H μ vs Q e sr rx h;unfold zP8 at e;split at e
 ·split at e
  ·rename_i ys e1;cases e;obtain⟨v,rfl,r⟩:=rx.one;obtain⟨a,vs,rfl,hq,rr⟩:=sr.seq r e1;exact⟨_,zJE,a,vs,rfl,hq,fun l hl=>h.newL sr hl rr⟩
  ·cases e
 ·cases e
noncomputable def zCk:List D->M D:=fun xs S=>match xs with
 |[.tup ys]=>.ok (.tup ys) S
 |[.lst n]=>match zA4 S n with
  |some ys=>.ok (.tup ys) S
  |none=>.bad
 |_=>.bad
theorem zRE:zEF X.K (cAny X (.type "tuple")) zCk:=by
 intro xs S d S' H μ vs Q e sr rx h;unfold zCk at e;split at e
 ·cases e;obtain⟨v,rfl,r⟩:=rx.one;have r':=r;unfold RV at r';obtain⟨p,ws,rfl,q,rr⟩:=r';exact⟨_,zEu,p,ws,rfl,.inr ⟨SqT.of q,h.self sr r⟩⟩
 ·split at e
  ·rename_i ys e1;cases e;obtain⟨v,rfl,r⟩:=rx.one;unfold RV at r;obtain⟨a,rfl,hm⟩:=r;obtain⟨ws,q,rr⟩:=sr.sq hm e1;exact⟨_,zEu,a,ws,rfl,.inl ⟨q,fun l hl=>h.newT sr hl rr⟩⟩
  ·cases e
 ·cases e
noncomputable def fInt:List D->M D:=fun xs S=>match xs with
 |[.int i]=>.ok (.int i) S
 |[.bl b]=>.ok (.int (if b then 1 else 0)) S
 |_=>.bad
theorem zXb:zEF X.K (cAny X (.type "int")) fInt:=by
 intro xs S d S' H μ vs Q e sr rx h;unfold fInt at e;split at e
 ·cases e;obtain⟨v,rfl,r⟩:=rx.one;unfold RV at r;subst r;exact⟨_,zJI,.inl ⟨_,rfl,h.self sr zBo⟩⟩
 ·cases e;obtain⟨v,rfl,r⟩:=rx.one;unfold RV at r;subst r;exact⟨_,zJI,.inr ⟨_,rfl,h.self sr zBo⟩⟩
 ·cases e
noncomputable def zKM(S:zA0)(n:Nat):Option String:=match S[n]? with
 |some (.dk _)=>some "dict"
 |_=>none
noncomputable def zMy(S:zA0):D->Option String
 |.non=>some "NoneType"
 |.bl _=>some "bool"
 |.int _=>some "int"
 |.str _=>some "str"
 |.tup _=>some "tuple"
 |.lst n=>if(zA4 S n).isSome then some "list" else none
 |.dct n=>zKM S n
 |_=>none
noncomputable def zBi:List D->M D:=fun xs S=>match xs with
 |[x,.ty T]=>match zMy S x with
  |some t=>if T∈["bool","int","tuple","list","str","dict"]then .ok (.bl (kOf t T)) S else .bad
  |none=>.bad
 |_=>.bad
theorem zTU{K:W.Frag}{H:Hp}{μ:yC}{S:zA0}{x:D}{v:V}{t:String}(sr:SR K μ S H)(e:zMy S x=some t)(r:RV K H μ x v):Ty2 K H v t/\t∈["NoneType","bool","int","str","tuple","list","dict"]:=by
 cases x with
 |non=>cases e;unfold RV at r;subst r;exact⟨.non,by decide⟩
 |bl b=>cases e;unfold RV at r;subst r;exact⟨.bl b,by decide⟩
 |int i=>cases e;unfold RV at r;subst r;exact⟨.int i,by decide⟩
 |str i=>cases e;unfold RV at r;subst r;exact⟨.str i,by decide⟩
 |tup xs=>cases e;unfold RV at r;obtain⟨p,vs,rfl,q,_⟩:=r;exact⟨.tup (SqT.of q),by decide⟩
 |lst n =>
  have e:(if(zA4 S n).isSome then some "list" else none)=some t:=e;split at e
  ·rename_i hs;cases e;obtain⟨xs,hx⟩:=qI7.mp hs;unfold RV at r;obtain⟨a,rfl,hm⟩:=r;obtain⟨vs,q,_⟩:=sr.sq hm hx;exact⟨.lst q,by decide⟩
  ·cases e
 |dct n =>
  have e:zKM S n=some t:=e;unfold zKM at e;split at e
  ·rename_i kvs ho;cases e;unfold RV at r;obtain⟨a,rfl,hm⟩:=r;obtain⟨ws,hw,_⟩:=sr.get hm ho;exact⟨.dk hw,by decide⟩
  ·cases e
 |ty n=>cases e
 |rol n=>cases e
theorem zUi:zEF X.K (cAny X (.builtin "isinstance")) zBi:=by
 intro xs S d S' H μ vs Q e sr rx h;unfold zBi at e;split at e
 ·rename_i x T;split at e
  ·rename_i t e1;split at e
   ·rename_i hT;cases e;obtain⟨v,u,rfl,r1,r2⟩:=rx.two;unfold RV at r2;subst r2;obtain⟨k1,k2⟩:=zTU sr e1 r1;exact⟨_,zJH,v,t,T,_,rfl,k1,zR6 X.K t k2 T hT,h.self sr zDp⟩
   ·cases e
  ·cases e
 ·cases e
noncomputable def zDC:List D->Option (List Bool)
 |[]=>some []
 |.bl b::r=>(zDC r).map (b::·)
 |_::_=>none
theorem zHD{K:W.Frag}{H:Hp}{μ:yC}:∀{ds:List D}{ns:List Bool}{vs:List V},zDC ds=some ns->RVs K H μ ds vs->vs=ns.map V.bl
 |[],ns,vs,e,r=>by cases e;rw[r.nil_inv];rfl
 |.bl i::ds,ns,vs,e,r=>by
  obtain⟨v,ws,rfl,r1,r2⟩:=r.cons_inv;unfold zDC at e;cases q:zDC ds with
  |none=>rw[q]at e;cases e
  |some ms =>
   rw[q]at e;cases e;unfold RV at r1;subst r1;rw[zHD q r2];rfl
 |.non::ds,ns,vs,e,r=>by cases e
 |.int _::ds,ns,vs,e,r=>by cases e
 |.str _::ds,ns,vs,e,r=>by cases e
 |.ty _::ds,ns,vs,e,r=>by cases e
 |.tup _::ds,ns,vs,e,r=>by cases e
 |.lst _::ds,ns,vs,e,r=>by cases e
 |.dct _::ds,ns,vs,e,r=>by cases e
 |.rol _::ds,ns,vs,e,r=>by cases e
noncomputable def zAm(g:List Bool->Bool):List D->M D:=fun xs S=>match xs with
 |[.tup ys]=>match zCj ys with
  |some ns=>.ok (.bl (g (ns.map (· != 0)))) S
  |none=>.bad
 |[.lst n]=>match (zA4 S n).bind zDC with
  |some bs=>.ok (.bl (g bs)) S
  |none=>.bad
 |_=>.bad
theorem zLZ{id:String}{g:List Bool->Bool}(hr:zBE X (.builtin id) (fun vs H Q=>∃(p:Addr) (bs:List Bool),vs=[.ref p]/\SqL X.K H p (bs.map V.bl)/\Q (.bl (g bs)) H))(hr2:zBE X (.builtin id) (fun vs H Q=>∃(p:Addr) (ns:yA),vs=[.ref p]/\SqT X.K H p (ns.map V.int)/\Q (.bl (g (ns.map (· != 0)))) H)):zEF X.K (cAny X (.builtin id)) (zAm g):=by
 intro xs S d S' H μ vs Q e sr rx h;unfold zAm at e;split at e
 ·split at e
  ·rename_i ns e1;cases e;obtain⟨v,rfl,r⟩:=rx.one;unfold RV at r;obtain⟨a,ws,rfl,q,rr⟩:=r;have z:=zDw e1 rr;subst z;exact⟨_,hr2,a,ns,rfl,SqT.of q,h.self sr zDp⟩
  ·cases e
 ·split at e
  ·rename_i bs e1;cases e;obtain⟨ys,e2,e3⟩:=qA3.mp e1;obtain⟨v,rfl,r⟩:=rx.one;unfold RV at r;obtain⟨a,rfl,hm⟩:=r;obtain⟨ws,q,rr⟩:=sr.sq hm e2;have z:=zHD e3 rr;subst z;exact⟨_,hr,a,bs,rfl,q,h.self sr zDp⟩
  ·cases e
 ·cases e
theorem zBE.imp{f:Value}{r r':List V->Hp->VK->Prop}(h:zBE X f r)(w:∀vs H Q,r' vs H Q->r vs H Q):zBE X f r':=fun pins s σ H xs us Q I rv q=>h pins s σ H xs us Q I rv (w _ _ _ q)
theorem zXd(hc:X.calm=true):zEF X.K (cAny X (.builtin "all")) (zAm fun bs=>bs.all id):=zLZ (zPH hc) ((zPG hc).imp fun vs H Q ⟨p,ns,h1,h2,h3⟩=>⟨p,ns,h1,h2,by rw[qJ4]at h3;exact h3⟩)
theorem zXc(hc:X.calm=true):zEF X.K (cAny X (.builtin "any")) (zAm fun bs=>bs.any id):=zLZ (zPF hc) ((zPE hc).imp fun vs H Q ⟨p,ns,h1,h2,h3⟩=>⟨p,ns,h1,h2,by rw[qL3]at h3;exact h3⟩)
noncomputable def insI(a:Int):yA->yA
 |[]=>[a]
 |b::r=>if a<=b then a::b::r else b::insI a r
noncomputable def zCD:yA->yA
 |[]=>[]
 |a::r=>insI a (zCD r)
theorem zGk(a:Int):∀l,(insI a l).Perm (a::l)
 |[]=>.refl _
 |b::r=>by
  unfold insI;split
  ·exact .refl _
  ·exact((zGk a r).cons b).trans (.swap _ _ _)
theorem zAO:∀l,(zCD l).Perm l
 |[]=>.refl _
 |a::r=>(zGk a _).trans ((zAO r).cons a)
theorem zGj(a:Int):∀l:yA,l.Pairwise (·<=·)->(insI a l).Pairwise (·<=·)
 |[],_=>by simp[insI]
 |b::r,h=>by
  have h':=qF2.mp h;unfold insI;split
  ·rename_i hab;refine qF2.mpr ⟨fun c hc=>?_,h⟩;rcases qC0.mp hc with rfl|hc
   ·exact hab
   ·exact qO4 hab (h'.1 c hc)
  ·rename_i hab;refine qF2.mpr ⟨fun c hc=>?_,zGj a r h'.2⟩;rcases qC0.mp ((zGk a r).mem_iff.mp hc)with rfl|hc
   ·omega
   ·exact h'.1 c hc
theorem zDt:∀l:yA,(zCD l).Pairwise (·<=·)
 |[]=>.nil
 |a::r=>zGj a _ (zDt r)
theorem zI5{l m:yA}(h:m.Perm l)(s:m.Pairwise (·<=·)):m=zCD l :=
 (h.trans (zAO l).symm).eq_of_pairwise (fun a b _ _ h1 h2=>Int.le_antisymm h1 h2) s (zDt l)
noncomputable def zU5:List (Key×D)->Option (yA)
 |[]=>some []
 |(.inl n,_)::r=>(zU5 r).map (n::·)
 |_::_=>none
theorem zJf:∀{kvs:List (Key×D)}{ns:yA},zU5 kvs=some ns->kvs.map (·.1)=ns.map Sum.inl
 |[],ns,e=>by cases e;rfl
 |(.inl n,d)::r,ns,e=>by obtain⟨ms,e1,e2⟩:=qA4.mp e;subst e2;simp[zJf e1]
 |(.inr x,d)::r,ns,e=>by cases e
noncomputable def zK7:List D->Option (List (yA))
 |[]=>some []
 |.tup xs::r=>match zCj xs,zK7 r with
  |some ns,some nss=>some (ns::nss)
  |_,_=>none
 |_=>none
noncomputable def tD(ns:yA):D:=.tup (ns.map .int)
noncomputable def insT(a:yA):List (yA)->List (yA)
 |[]=>[a]
 |b::r=>if HT.lexLt b a=true then b::insT a r else a::b::r
noncomputable def zFp:List (yA)->List (yA)
 |[]=>[]
 |a::r=>insT a (zFp r)
abbrev yM:=List D
abbrev LexP(l:List (yA)):Prop:=l.Pairwise fun x y=>HT.lexLt y x=false
theorem zGi(a:yA):∀l,(insT a l).Perm (a::l)
 |[]=>.refl _
 |b::r=>by
  unfold insT;split
  ·exact((zGi a r).cons b).trans (.swap _ _ _)
  ·exact .refl _
theorem zB3:∀l,(zFp l).Perm l
 |[]=>.refl _
 |a::r=>(zGi a _).trans ((zB3 r).cons a)
theorem zGh(a:yA):∀l,LexP l->LexP (insT a l)
 |[],_=>by simp[insT,LexP]
 |b::r,h=>by
  have h':=qF2.mp h;unfold insT;split
  ·rename_i hab;refine qF2.mpr ⟨fun c hc=>?_,zGh a r h'.2⟩;rcases qC0.mp ((zGi a r).mem_iff.mp hc)with rfl|hc
   ·exact zOu _ _ hab
   ·exact h'.1 c hc
  ·rename_i hab;have hab':HT.lexLt b a=false:=by simpa using hab
   refine qF2.mpr ⟨fun c hc=>?_,h⟩;rcases qC0.mp hc with rfl|hc
   ·exact hab'
   ·exact zOt a b c hab' (h'.1 c hc)
theorem zBV:∀l,LexP (zFp l)
 |[]=>.nil
 |a::r=>zGh a _ (zBV r)
theorem zEb{l m:List (yA)}(h:m.Perm l)(s:LexP m):m=zFp l :=
 (h.trans (zB3 l).symm).eq_of_pairwise (fun a b _ _ h1 h2=>zLK a b h1 h2) s (zBV l)
noncomputable def zMe:List (List Key×D)->Option (List (yA))
 |[]=>some []
 |(k,_)::r=>match k.mapM (fun x=>match x with|.inl n=>some n|.inr _=>none),zMe r with
  |some ns,some nss=>some (ns::nss)
  |_,_=>none
theorem zLM:∀{k:List Key}{ns:yA},k.mapM (fun x=>match x with|.inl n=>some n|.inr _=>none)=some ns->k=ns.map Sum.inl
 |[],ns,e=>by simp at e;subst e;rfl
 |.inl n::k,ns,e=>by
  rw[qF4]at e;cases q:k.mapM (fun x:Key=>match x with|.inl n=>some n|.inr _=>none)with
  |none=>rw[q]at e;cases e
  |some ms=>rw[q]at e;cases e;rw[zLM q];rfl
 |.inr x::k,ns,e=>by rw[qF4]at e;cases e
theorem zIK:∀{kvs:List (List Key×D)}{nss:List (yA)},zMe kvs=some nss->kvs.map (·.1)=nss.map (·.map Sum.inl)
 |[],nss,e=>by cases e;rfl
 |(k,d)::r,nss,e=>by
  unfold zMe at e;split at e
  ·rename_i ns ms e1 e2;cases e;simp[zLM e1,zIK e2]
  ·cases e
theorem zLm{K:W.Frag}{H:Hp}{μ:yC}:∀{ds:yM}{nss:List (yA)}{vs:List V},zK7 ds=some nss->RVs K H μ ds vs->∃ts:List (Addr×yA),ts.map (·.2)=nss/\vs=ts.map (fun t=>V.ref t.1)/\∀t∈ts,H t.1=some (.tup (t.2.map V.int))
 |[],nss,vs,e,r=>by cases e;exact⟨[],rfl,r.nil_inv,fun t h=>(by cases h)⟩
 |d::ds,nss,vs,e,r=>by
  unfold zK7 at e;split at e
  ·rename_i q;cases q
  ·rename_i xs r' q;cases q;split at e
   ·rename_i ns ms e1 e2;cases e;obtain⟨v,ws,rfl,r1,r2⟩:=r.cons_inv;obtain⟨ts,a,b,c⟩:=zLm e2 r2;unfold RV at r1;obtain⟨p,us,rfl,hp,ru⟩:=r1;rw[zDw e1 ru]at hp;refine⟨(p,ns)::ts,by simp[a],by simp[b],fun t ht=>?_⟩;rcases qC0.mp ht with rfl|ht
    ·exact hp
    ·exact c t ht
   ·cases e
  ·cases e
theorem zK6{K:W.Frag}{H:Hp}{μ:yC}:∀{ts:List (Addr×yA)},(∀t∈ts,H t.1=some (.tup (t.2.map V.int)))->RVs K H μ (ts.map fun t=>tD t.2) (ts.map fun t=>V.ref t.1)
 |[],_=>.nil
 |t::ts,h=>.cons (by unfold tD RV;exact⟨t.1,_,rfl,h t (qD0 ..),RVs.ints⟩) (zK6 fun u hu=>h u (qB9 _ hu))
theorem zOv{ts:List (Addr×yA)}{nss:List (yA)}(hp:(ts.map (·.2)).Perm nss)(hs:LexS ts):(zFp nss).map tD=ts.map fun t=>tD t.2:=by rw[<- zEb hp (qG1.mpr hs),qD9];rfl
noncomputable def zAR:yM->M D:=fun xs S=>match xs with
 |[.lst n]=>match (zA4 S n).bind zCj with
  |some ns=>if ns.length<64 then .ok (.lst S.length) (S++[.lst ((zCD ns).map D.int)])else .bad
  |none=>match (zA4 S n).bind zK7 with
   |some nss=>.ok (.lst S.length) (S++[.lst ((zFp nss).map tD)])
   |none=>.bad
 |[.tup xs]=>match zCj xs with
  |some ns=>if ns.length<64 then .ok (.lst S.length) (S++[.lst ((zCD ns).map D.int)])else .bad
  |none=>.bad
 |[.dct n]=>match S[n]? with
  |some (.dk kvs)=>match zU5 kvs with
   |some ns=>if ns.length<64 then .ok (.lst S.length) (S++[.lst ((zCD ns).map D.int)])else .bad
   |none=>.bad
  |some (.dt kvs)=>match zMe kvs with
   |some nss=>.ok (.lst S.length) (S++[.lst ((zFp nss).map tD)])
   |none=>.bad
  |_=>.bad
 |_=>.bad
theorem zPn(hc:X.calm=true)(hu:X.A.units+64<cLine):zEF X.K (cAny X (.builtin "sorted")) zAR:=by
 intro xs S d S' H μ vs Q e sr rx h;unfold zAR at e;split at e
 ·split at e
  ·rename_i ns e1;split at e
   ·rename_i hl;cases e;obtain⟨ys,e2,e3⟩:=qA3.mp e1;obtain⟨v,rfl,r⟩:=rx.one;unfold RV at r;obtain⟨a,rfl,hm⟩:=r;obtain⟨ws,q,rr⟩:=sr.sq hm e2;have z:=zDw e3 rr;subst z;refine⟨_,zJC,a,ns,rfl,q,hl,fun l ms hl hp hs=>?_⟩;rw[zI5 hp hs];exact h.newL sr hl RVs.ints
   ·cases e
  ·split at e
   ·rename_i nss e1;cases e;obtain⟨ys,e2,e3⟩:=qA3.mp e1;obtain⟨v,rfl,r⟩:=rx.one;unfold RV at r;obtain⟨a,rfl,hm⟩:=r;obtain⟨ws,q,rr⟩:=sr.sq hm e2;obtain⟨ts,t1,rfl,t3⟩:=zLm e3 rr;refine⟨_,zIk hc (by omega),a,ts,rfl,q,fun t ht=>SqT.of (t3 t ht),fun l ts' hl hp hs=>?_⟩;rw[zOv (by rw[<- t1];exact hp.map _) hs]at h;exact h.newL sr hl (zK6 fun t ht=>t3 t (hp.mem_iff.mp ht))
   ·cases e
 ·split at e
  ·rename_i ns e1;split at e
   ·rename_i hl;cases e;obtain⟨v,rfl,r⟩:=rx.one;unfold RV at r;obtain⟨a,us,rfl,hp,ru⟩:=r;rw[zDw e1 ru]at hp;refine⟨_,zJB hc,a,ns,rfl,SqT.of hp,hl,fun l ms hl hp hs=>?_⟩;rw[zI5 hp hs];exact h.newL sr hl RVs.ints
   ·cases e
  ·cases e
 ·split at e
  ·rename_i kvs e1;split at e
   ·rename_i ns e2;split at e
    ·rename_i hl;cases e;obtain⟨v,rfl,r⟩:=rx.one;unfold RV at r;obtain⟨a,rfl,hm⟩:=r;obtain⟨ws,hw,rr⟩:=sr.get hm e1;refine⟨_,zJD hc,a,ws,ns,rfl,hw,by rw[<- rr.1];exact zJf e2,hl,fun l ms hl hp hs=>?_⟩;rw[zI5 hp hs];exact h.newL sr hl RVs.ints
    ·cases e
   ·cases e
  ·rename_i kvs e1;split at e
   ·rename_i nss e2;cases e;obtain⟨v,rfl,r⟩:=rx.one;unfold RV at r;obtain⟨a,rfl,hm⟩:=r;obtain⟨ws,hw,rr⟩:=sr.get hm e1;refine⟨_,zIl hc (by omega),a,ws,nss,rfl,hw,by rw[<- rr.1];exact zIK e2,fun l ts hl t3 hp hs=>?_⟩;rw[zOv hp hs]at h;exact h.newL sr hl (zK6 t3)
   ·cases e
  ·cases e
 ·cases e
def MtS(K:W.Frag)(T:String)(r:V->List V->Hp->VK->Prop)(o:D->yM->M D):Prop:=∀x xs S d S' H μ v vs Q,o x xs S=.ok d S'->SR K μ S H->RV K H μ x v->RVs K H μ xs vs->Yld K μ H d S' Q->r v vs H Q
noncomputable def tyOk(T:String)(x:D)(S:zA0):Bool:=match x with
 |.lst n=>decide (T = "list")&&(zA4 S n).isSome
 |.dct n=>decide (T = "dict")&&(match S[n]? with|some (.dk _)=>true|some (.dt _)=>true|_=>false)
 |.int _=>decide (T = "int")
 |.str _=>decide (T = "str")
 |_=>false
theorem zUS{K:W.Frag}{H:Hp}{μ:yC}{S:zA0}{T:String}{x:D}{v:V}(sr:SR K μ S H)(h:tyOk T x S=true)(r:RV K H μ x v):tyV K T v H:=by
 unfold tyOk at h;split at h
 ·simp only[qC9,decide_eq_true_eq]at h;obtain⟨h1,h2⟩:=h;obtain⟨xs,hx⟩:=qI7.mp h2;unfold RV at r;obtain⟨a,rfl,hm⟩:=r;obtain⟨vs,q,_⟩:=sr.sq hm hx;exact .inl ⟨h1,vs,q⟩
 ·simp only[qC9,decide_eq_true_eq]at h;obtain⟨h1,h2⟩:=h;unfold RV at r;obtain⟨a,rfl,hm⟩:=r;split at h2
  ·rename_i kvs ho;obtain⟨ws,q,_⟩:=sr.get hm ho;exact .inr (.inr (.inl ⟨h1,.inl ⟨ws,q⟩⟩))
  ·rename_i kvs ho;obtain⟨ws,q,_⟩:=sr.get hm ho;exact .inr (.inr (.inl ⟨h1,.inr ⟨ws,q⟩⟩))
  ·cases h2
 ·unfold RV at r;subst r;exact(of_decide_eq_true h:T = "int")
 ·unfold RV at r;subst r;exact(of_decide_eq_true h:T = "str")
 ·cases h
noncomputable def zGD(T:String)(o:D->yM->M D)(a:C)(as:CA):C:=fun ρ=>bnd (a ρ) fun x S=>if tyOk T x S then bnd (as ρ) (fun xs=>o x xs) S else .bad
variable {o e:Expr}{es:yE}{co:C}{ca:CA}{name:Str}{apos cpos:Pos}{T id:String}{m:D->yM->M D}
theorem zHN(pa:PlainAttrs T)(slot:Slot T name id)(hty:typeOf (.builtin id)=pure (.type "method_descriptor"))(hm:MtS X.K T (zFg X id) m)(ho:PE X o (tOf X.K co))(ha:PA X (e::es) (tOfA X.K ca))
  (hbase:attributeBase o name X.env (eval o X.env)=eval o X.env)
  (hfew:((backTo cpos (starEach (e::es) X.env)).all (fun x=>!x.1)&&(backToKw cpos (keywordEach [] X.env)).all (fun x=>x.1.isSome)
   && decide ((e::es).length+([]:List Keyword).length+(if([]:List Keyword).isEmpty then 0 else 1)<30))=true)
  (hline:(apos.endLine == cpos.line)=true) (hs:starEach (e::es) X.env=(false,eval e X.env)::starEach es X.env) (hplain:(backTo cpos (starEach es X.env)).any (·.1)=false) :
  PE X (.Call (.Attribute o name apos) (e::es) [] cpos) (tOf X.K (zGD T m co ca)):=(zYO pa slot hty zZg ho ha hbase hfew hline hs hplain).weak (by
 rintro σ H Q ⟨μ,ρ,S,d,S',sr,re,e,y⟩;obtain⟨x,S1,e1,e⟩:=zA8 e;split at e
 ·rename_i hk;obtain⟨xs,S2,e2,e⟩:=zA8 e;refine⟨μ,ρ,S,x,S1,sr,re,e1,fun v H1 μ1 sr1 st1 r1=>⟨zUS sr1 hk r1,μ1,ρ,S1,xs,S2,sr1,re.up st1,e2,fun vs H2 μ2 sr2 st2 r2=>?_⟩⟩;exact hm x xs S2 d S' H2 μ2 v vs Q e sr2 (RV.up st2.tk st2.ext _ _ r1) r2 (y.shift (st1.trans st2 sr2.nd))
 ·cases e)
noncomputable def zG3(g:yM->yM->Option (yM×D)):D->yM->M D:=fun x xs S=>match x with
 |.lst n=>match S[n]? with
  |some (.lst ys)=>match g ys xs with
   |some (zs,d)=>.ok d (S.set n (.lst zs))
   |none=>.bad
  |_=>.bad
 |_=>.bad
theorem SR.putL{K:W.Frag}{H:Hp}{μ:yC}{S:zA0}{n:Nat}{p:Addr}{vs ws:List V}{zs:yM}(sr:SR K μ S H)(hn:μ[n]?=some p)(hp:H p=some (.lst vs))(r:RVs K H μ zs ws):SR K μ (S.set n (.lst zs)) (upd H p (.lst ws))/\Step K μ μ H (upd H p (.lst ws)) :=
 sr.put hn hp (fun _ z=>by cases z) (fun _ _ z=>by cases z) ⟨ws,zAf,RVs.up (zLp hp) ⟨[],by simp⟩ _ _ r⟩
theorem zOm{g:yM->yM->Option (yM×D)}
  (h:∀(K:W.Frag) H μ ys xs zs d vs us,g ys xs=some (zs,d)->RVs K H μ ys vs->RVs K H μ xs us->∃ws w,RVs K H μ zs ws/\RV K H μ d w/\∀(p:Addr) (Q:VK),H p=some (.lst vs)->Q w (upd H p (.lst ws))->zFg X id (.ref p) us H Q):MtS X.K "list" (zFg X id) (zG3 g):=by
 intro x xs S d S' H μ v us Q e sr rx rs y;unfold zG3 at e;split at e
 ·rename_i n;split at e
  ·rename_i ys ho;split at e
   ·rename_i zs d' hg;cases e;unfold RV at rx;obtain⟨p,rfl,hm⟩:=rx;obtain⟨vs,hp,rr⟩:=sr.lst hm ho;obtain⟨ws,w,r1,r2,fin⟩:=h X.K H μ ys xs zs d vs us hg rr rs;obtain⟨s1,s2⟩:=sr.putL hm hp r1;exact fin p Q hp (y w _ μ s1 s2 (RV.up s2.tk s2.ext _ _ r2))
   ·cases e
  ·cases e
 ·cases e
noncomputable def zDy:yM->yM->Option (yM×D):=fun ys xs=>match xs with
 |[x]=>if ys.length<lim then some (ys++[x],.non)else none
 |_=>none
theorem zOp:MtS X.K "list" (zFg X "list.append") (zG3 zDy):=zOm fun K H μ ys xs zs d vs us e r1 r2=>by
 unfold zDy at e;split at e
 ·split at e
  ·rename_i hl;cases e;obtain⟨v,rfl,r3⟩:=r2.one;exact⟨vs++[v],.non,r1.append (.cons r3 .nil),zFU,fun p Q hp q=>⟨_,zJ7,p,vs,v,rfl,rfl,hp,by rw[<- r1.len];exact zHm hl,q⟩⟩
  ·cases e
 ·cases e
noncomputable def zF0:yM->yM->Option (yM×D):=fun ys xs=>match xs with
 |[.int i,x]=>if ys.length<1000/\0<=i/\i.toNat<=ys.length then some (ys.take i.toNat++x::ys.drop i.toNat,.non)else none
 |_=>none
theorem zOn:MtS X.K "list" (zFg X "list.insert") (zG3 zF0):=zOm fun K H μ ys xs zs d vs us e r1 r2=>by
 unfold zF0 at e;split at e
 ·rename_i i x;split at e
  ·rename_i hl;cases e;obtain⟨h1,h2,h3⟩:=hl;obtain⟨v,u,rfl,r3,r4⟩:=r2.two;unfold RV at r3;subst r3;have ei:i=((i.toNat:Nat):Int):=by omega
   exact⟨vs.take i.toNat++u::vs.drop i.toNat,.non,(r1.take _).append (.cons r4 (r1.drop _)),zFU,fun p Q hp q=>⟨_,zOk,p,vs,i.toNat,u,rfl,by rw[<- ei],hp,by rw[<- r1.len];exact h1,by rw[<- r1.len];exact h3,q⟩⟩
  ·cases e
 ·cases e
theorem RVs.dropLast{K:W.Frag}{H:Hp}{μ:yC}{ds:yM}{vs:List V}(r:RVs K H μ ds vs):RVs K H μ ds.dropLast vs.dropLast:=by rw[qP1,qP1,r.len];exact r.take _
noncomputable def zE5:D->yM->M D:=fun x xs S=>match x,xs with
 |.lst n,[.lst k]=>match S[n]?,S[k]? with
  |some (.lst ys),some (.lst zs)=>if ys.length+zs.length<=lim then .ok .non (S.set n (.lst (ys++zs)))else .bad
  |_,_=>.bad
 |.lst n,[.tup zs]=>match S[n]? with
  |some (.lst ys)=>if ys.length+zs.length<=lim then .ok .non (S.set n (.lst (ys++zs)))else .bad
  |_=>.bad
 |_,_=>.bad
theorem zOo:MtS X.K "list" (zFg X "list.extend") zE5:=by
 intro x xs S d S' H μ v us Q e sr rx rs y;unfold zE5 at e;split at e
 ·split at e
  ·rename_i ys zs o1 o2;split at e
   ·rename_i hl;cases e;unfold RV at rx;obtain⟨p,rfl,m1⟩:=rx;obtain⟨u,rfl,r2⟩:=rs.one;unfold RV at r2;obtain⟨p2,rfl,m2⟩:=r2;obtain⟨vs,h1,r1⟩:=sr.lst m1 o1;obtain⟨ws,h2,r3⟩:=sr.lst m2 o2;obtain⟨s1,s2⟩:=sr.putL m1 h1 (r1.append r3);exact⟨_,zOl,p,p2,vs,ws,rfl,rfl,h1,h2,by rw[<- r1.len,<- r3.len];exact zHn hl,y _ _ μ s1 s2 zFU⟩
   ·cases e
  ·cases e
 ·split at e
  ·rename_i ys o1;split at e
   ·rename_i hl;cases e;unfold RV at rx;obtain⟨p,rfl,m1⟩:=rx;obtain⟨u,rfl,r2⟩:=rs.one;unfold RV at r2;obtain⟨p2,ws,rfl,h2,r3⟩:=r2;obtain⟨vs,h1,r1⟩:=sr.lst m1 o1;obtain⟨s1,s2⟩:=sr.putL m1 h1 (r1.append r3);exact⟨_,zTK,p,p2,vs,ws,rfl,rfl,h1,SqT.of h2,by rw[<- r1.len,<- r3.len];exact zHn hl,y _ _ μ s1 s2 zFU⟩
   ·cases e
  ·cases e
 ·cases e
noncomputable def zHZ:D->yM->M D:=fun x xs S=>match x,xs with
 |.dct n,[.tup ks,z]=>match S[n]?,ks.mapM zDa with
  |some (.dt kvs),some k=>match valD kvs k with
   |some v=>.ok v S
   |none=>if kvs.length<lim then .ok z (S.set n (.dt (kvs++[(k,z)])))else .bad
  |some (.dk []),some k=>.ok z (S.set n (.dt [(k,z)]))
  |_,_=>.bad
 |.dct n,[i,z]=>match S[n]?,zDa i with
  |some (.dk kvs),some k=>match valD kvs k with
   |some v=>.ok v S
   |none=>if kvs.length<lim then .ok z (S.set n (.dk (putD kvs k z)))else .bad
  |_,_=>.bad
 |_,_=>.bad
theorem RKs.snoc{K:W.Frag}{H:Hp}{μ:yC}{κ:Type}{k:κ}{d:D}{v:V}{kvs:List (κ×D)}{ws:List (κ×V)}(h:RKs K H μ kvs ws)(rv:RV K H μ d v):RKs K H μ (kvs++[(k,d)]) (ws++[(k,v)]) :=
 ⟨by rw[qE4,qE4,h.1];rfl,by rw[qE4,qE4];exact h.2.append (.cons rv .nil)⟩
theorem zTL(hu:X.A.units+1<cLine):MtS X.K "dict" (zFg X "dict.setdefault") zHZ:=by
 intro x xs S d S' H μ v us Q e sr rx rs y;unfold zHZ at e;split at e
 ·rename_i n ks z;unfold RV at rx;obtain⟨a,rfl,hm⟩:=rx;obtain⟨u1,u2,rfl,r1,r2⟩:=rs.two;unfold RV at r1;obtain⟨b,bs,rfl,hb,rb⟩:=r1;split at e
  ·rename_i kvs k ho hk;have:=zHo hk rb;subst this;obtain⟨ws,hw,rr⟩:=sr.get hm ho;split at e
   ·rename_i w hv;cases e;obtain⟨u,g1,g2⟩:=(rr.val (k:=k)).1 _ hv;refine⟨_,zG0 hu,a,b,ws,k,u2,rfl,rfl,hb,.inl hw,fun v' e'=>?_,fun e'=>?_⟩
    ·rw[g1]at e';cases e';exact y.self sr g2
    ·rw[g1]at e';cases e'
   ·rename_i hv;split at e
    ·rename_i hl;cases e;have g1:=(rr.val (k:=k)).2 hv;have tk:TF X.K H (upd H a (.dT (ws++[(k,u2)]))):=zEc hw (fun _ z=>by cases z) (fun _ _ z=>by cases z);obtain⟨s1,s2⟩:=sr.put (o:=.dT (ws++[(k,u2)])) (o':=.dt (kvs++[(k,d)])) hm hw (fun _ z=>by cases z) (fun _ _ z=>by cases z) ⟨_,zAf,(rr.snoc r2).up tk ⟨[],by simp⟩⟩;exact⟨_,zG0 hu,a,b,ws,k,u2,rfl,rfl,hb,.inl hw,fun v' e'=>(by rw[g1]at e';cases e'),fun _=>⟨by rw[<- rr.len];exact zHm hl,y _ _ μ s1 s2 (RV.up tk ⟨[],by simp⟩ _ _ r2)⟩⟩
    ·cases e
  ·rename_i k ho hk;cases e;have:=zHo hk rb;subst this;obtain⟨ws,hw,rr⟩:=sr.get hm ho;have w0:ws=[]:=qF3.mp rr.len.symm;subst w0;have tk:TF X.K H (upd H a (.dT [(k,u2)])):=zEc hw (fun _ z=>by cases z) (fun _ _ z=>by cases z);obtain⟨s1,s2⟩:=sr.put (o:=.dT [(k,u2)]) (o':=.dt [(k,d)]) hm hw (fun _ z=>by cases z) (fun _ _ z=>by cases z) ⟨_,zAf,RKs.cons (RV.up tk ⟨[],by simp⟩ _ _ r2) .nil⟩;exact⟨_,zG0 hu,a,b,[],k,u2,rfl,rfl,hb,.inr ⟨rfl,hw⟩,fun v' e'=>(by cases e'),fun _=>⟨by decide,y _ _ μ s1 s2 (RV.up tk ⟨[],by simp⟩ _ _ r2)⟩⟩
  ·cases e
 ·rename_i n i z hno;unfold RV at rx;obtain⟨a,rfl,hm⟩:=rx;obtain⟨u1,u2,rfl,r1,r2⟩:=rs.two;split at e
  ·rename_i kvs k ho hk;have:=zGd hk r1;subst this;obtain⟨ws,hw,rr⟩:=sr.get hm ho;split at e
   ·rename_i w hv;cases e;obtain⟨u,g1,g2⟩:=(rr.val (k:=k)).1 _ hv;refine⟨_,zHk,a,ws,k,u2,rfl,rfl,hw,fun v' e'=>?_,fun e'=>?_⟩
    ·rw[g1]at e';cases e';exact y.self sr g2
    ·rw[g1]at e';cases e'
   ·rename_i hv;split at e
    ·rename_i hl;cases e;have g1:=(rr.val (k:=k)).2 hv;have tk:TF X.K H (upd H a (.dK (putK ws k u2))):=zEc hw (fun _ z=>by cases z) (fun _ _ z=>by cases z);obtain⟨s1,s2⟩:=sr.put (o:=.dK (putK ws k u2)) (o':=.dk (putD kvs k d)) hm hw (fun _ z=>by cases z) (fun _ _ z=>by cases z) ⟨_,zAf,(rr.put r2).up tk ⟨[],by simp⟩⟩;exact⟨_,zHk,a,ws,k,u2,rfl,rfl,hw,fun v' e'=>(by rw[g1]at e';cases e'),fun _=>⟨by rw[<- rr.len];exact zHm hl,y _ _ μ s1 s2 (RV.up tk ⟨[],by simp⟩ _ _ r2)⟩⟩
    ·cases e
  ·cases e
 ·cases e
noncomputable def zMp(n:Nat)(i v:D)(S:zA0):Option zA0:=match S[n]?,i with
 |some (.dt kvs),.tup ks=>match ks.mapM zDa with
  |some k=>if kvs.length<lim then some (S.set n (.dt (putD kvs k v)))else none
  |none=>none
 |some (.dk []),.tup ks=>match ks.mapM zDa with
  |some k=>some (S.set n (.dt [(k,v)]))
  |none=>none
 |_,_=>none
theorem zIU(hu:X.A.units+1<cLine):PSet X (fun o i v H Q=>∃a b k,o=.ref a/\i=.ref b/\H b=some (.tup (k.map kV))/\((∃kvs,H a=some (.dT kvs)/\kvs.length<sizeLine/\Q (upd H a (.dT (putK kvs k v))))∨(H a=some (.dK [])/\Q (upd H a (.dT [(k,v)]))))):=by
 intro pins s σ H o i v ov iv u Q I ro ri rv h;obtain⟨a,b,k,rfl,rfl,hb,⟨kvs,ha,hl,q⟩| ⟨ha,q⟩⟩:=h
 ·obtain rfl:ov=Value.ref a:=ro;exact zGw hu I (DPut.t ha hb hl) ri rv fun s4 I4=>⟨_,I4,q⟩
 ·obtain rfl:ov=Value.ref a:=ro;have hb':upd H a (.dT []) b=some (.tup (k.map kV)):=by rw[zAb (fun z=>by rw[z,ha]at hb;cases hb)];exact hb
  refine zGw hu (I.dTnil ha) (DPut.t (kvs:=[]) zAf hb' (by decide)) ri rv fun s4 I4=>⟨_,I4,?_⟩
  rw[zNu];exact q
noncomputable def oSet:D->D->D->zA0->Option zA0:=fun x i v S=>match x with
 |.lst n=>match S[n]?,i with
  |some (.lst ys),.int k=>match ixN ys.length k with
   |some j=>some (S.set n (.lst (ys.set j v)))
   |none=>none
  |_,_=>none
 |.dct n=>match S[n]?,zDa i with
  |some (.dk kvs),some k=>if kvs.length<lim then some (S.set n (.dk (putD kvs k v)))else none
  |_,_=>zMp n i v S
 |_=>none
theorem zQl(hu:X.A.units+1<cLine):PSet X (fun o i v H Q=>∃a H4,o=.ref a/\DPut H a i v H4/\Q H4):=by intro pins s σ H o i v ov iv u Q I ro ri rv h;obtain⟨a,H4,rfl,g,q⟩:=h;obtain rfl:ov=Value.ref a:=ro;exact zGw hu I g ri rv fun s4 I4=>⟨H4,I4,q⟩
theorem zTl(hu:X.A.units+1<cLine){x i v:D}{S S':zA0}{H:Hp}{μ:yC}{ov iv vv:V}{Q:Hp->Prop}(e:oSet x i v S=some S')(sr:SR X.K μ S H)(rx:RV X.K H μ x ov)(ri:RV X.K H μ i iv)(rv:RV X.K H μ v vv)(y:∀H' ,SR X.K μ S' H'->Step X.K μ μ H H'->Q H'):zNS X ov iv vv H Q:=by
 unfold oSet at e;split at e
 ·split at e
  ·rename_i ys k ho;split at e
   ·rename_i j hj;cases e;unfold RV at rx ri;obtain⟨p,rfl,hm⟩:=rx;subst ri;obtain⟨vs,hp,rr⟩:=sr.lst hm ho;obtain⟨s1,s2⟩:=sr.putL hm hp (rr.set rv j);exact⟨_,zQk,p,vs,k,j,rfl,rfl,hp,by rw[<- rr.len];exact hj,y _ s1 s2⟩
   ·cases e
  ·cases e
 ·split at e
  ·rename_i kvs k ho hk;split at e
   ·rename_i hl;cases e;unfold RV at rx;obtain⟨p,rfl,hm⟩:=rx;obtain⟨ws,hp,rr⟩:=sr.get hm ho;have z:=zGd hk ri;subst z;have tk:TF X.K H (upd H p (.dK (putK ws k vv))):=zEc hp (fun _ z=>by cases z) (fun _ _ z=>by cases z);obtain⟨s1,s2⟩:=sr.put (o:=.dK (putK ws k vv)) (o':=.dk (putD kvs k v)) hm hp (fun _ z=>by cases z) (fun _ _ z=>by cases z) ⟨_,zAf,(rr.put rv).up tk ⟨[],by simp⟩⟩;exact⟨_,zQl hu,p,_,rfl,DPut.k hp (by rw[<- rr.len];exact zHm hl),y _ s1 s2⟩
   ·cases e
  ·rename_i hno;clear hno;unfold zMp at e;unfold RV at rx;obtain⟨p,rfl,hm⟩:=rx;split at e
   ·rename_i kvs ks ho;unfold RV at ri;obtain⟨b,bs,rfl,hb,rb⟩:=ri;split at e
    ·rename_i k hk;have:=zHo hk rb;subst this;split at e
     ·rename_i hl;cases e;obtain⟨ws,hp,rr⟩:=sr.get hm ho;have tk:TF X.K H (upd H p (.dT (putK ws k vv))):=zEc hp (fun _ z=>by cases z) (fun _ _ z=>by cases z);obtain⟨s1,s2⟩:=sr.put (o:=.dT (putK ws k vv)) (o':=.dt (putD kvs k v)) hm hp (fun _ z=>by cases z) (fun _ _ z=>by cases z) ⟨_,zAf,(rr.put rv).up tk ⟨[],by simp⟩⟩;exact⟨_,zIU hu,p,b,k,rfl,rfl,hb,.inl ⟨ws,hp,by rw[<- rr.len];exact zHm hl,y _ s1 s2⟩⟩
     ·cases e
    ·cases e
   ·rename_i ks ho;unfold RV at ri;obtain⟨b,bs,rfl,hb,rb⟩:=ri;split at e
    ·rename_i k hk;cases e;have:=zHo hk rb;subst this;obtain⟨ws,hw,rr⟩:=sr.get hm ho;have w0:ws=[]:=qF3.mp rr.len.symm;subst w0;have tk:TF X.K H (upd H p (.dT [(k,vv)])):=zEc hw (fun _ z=>by cases z) (fun _ _ z=>by cases z);obtain⟨s1,s2⟩:=sr.put (o:=.dT [(k,vv)]) (o':=.dt [(k,v)]) hm hw (fun _ z=>by cases z) (fun _ _ z=>by cases z) ⟨_,zAf,RKs.cons (RV.up tk ⟨[],by simp⟩ _ _ rv) .nil⟩;exact⟨_,zIU hu,p,b,k,rfl,rfl,hb,.inr ⟨hw,y _ s1 s2⟩⟩
    ·cases e
   ·cases e
 ·cases e
end
open PySem PySem.Spec PyProof.Rows
inductive RS where
 |bad|nx (ρ:Env1) (S:zA0)| rt (d:D) (S:zA0)| bk (ρ:Env1) (S:zA0)| ct (ρ:Env1) (S:zA0)| er (c:Str) (S:zA0)
noncomputable abbrev CS:=Env1->zA0->RS
def zJW(X:Cx)(μ:yC)(H:Hp)(E:Ends):RS->Prop
 |.bad=>False
 |.er _ _=>False
 |.nx ρ' S'=>∀σ' H' μ',SR X.K μ' S' H'->Step X.K μ μ' H H'->RE X.K H' μ' ρ' σ'->E.nx σ' H'
 |.bk ρ' S'=>∀σ' H' μ',SR X.K μ' S' H'->Step X.K μ μ' H H'->RE X.K H' μ' ρ' σ'->E.bk σ' H'
 |.ct ρ' S'=>∀σ' H' μ',SR X.K μ' S' H'->Step X.K μ μ' H H'->RE X.K H' μ' ρ' σ'->E.ct σ' H'
 |.rt d S'=>Yld X.K μ H d S' E.rt
inductive tOfS(X:Cx)(c:CS)(E:Ends)(σ:St)(H:Hp):Prop
 |mk (μ:yC) (ρ:Env1) (S:zA0) (sr:SR X.K μ S H) (re:RE X.K H μ ρ σ) (y:zJW X μ H E (c ρ S))
theorem zJW.shift{X:Cx}{μ μ1:yC}{H H1:Hp}{E:Ends}{r:RS}(h:zJW X μ H E r)(st:Step X.K μ μ1 H H1):zJW X μ1 H1 E r:=by
 cases r with
 |bad=>exact h
 |er _ _=>exact h
 |nx ρ S=>exact fun σ' H' μ' sr s2 re=>h σ' H' μ' sr (st.trans s2 sr.nd) re
 |bk ρ S=>exact fun σ' H' μ' sr s2 re=>h σ' H' μ' sr (st.trans s2 sr.nd) re
 |ct ρ S=>exact fun σ' H' μ' sr s2 re=>h σ' H' μ' sr (st.trans s2 sr.nd) re
 |rt d S=>exact Yld.shift h st
noncomputable def zA5:CS:=fun ρ S=>.nx ρ S
noncomputable def sBrk:CS:=fun ρ S=>.bk ρ S
noncomputable def sCnt:CS:=fun ρ S=>.ct ρ S
noncomputable def sBad:CS:=fun _ _=>.bad
noncomputable def zT9:CS:=fun _ S=>.rt .non S
noncomputable def sRet(c:C):CS:=fun ρ S=>match c ρ S with
 |.ok d S'=>.rt d S'
 |.bad=>.bad
 |.er _ _=>.bad
noncomputable def zGT(c:C):CS:=fun ρ S=>match c ρ S with
 |.ok _ S'=>.nx ρ S'
 |.bad=>.bad
 |.er _ _=>.bad
noncomputable def sSeq(a b:CS):CS:=fun ρ S=>match a ρ S with
 |.nx ρ' S'=>b ρ' S'
 |r=>r
noncomputable def sIf(t:CT)(a b:CS):CS:=fun ρ S=>match t ρ S with
 |.ok k S'=>if k then a ρ S' else b ρ S'
 |.bad=>.bad
 |.er _ _=>.bad
noncomputable abbrev G:=D->Env1->M Env1
noncomputable def sAsg(c:C)(g:G):CS:=fun ρ S=>match c ρ S with
 |.ok d S'=>match g d ρ S' with
  |.ok ρ' S2=>.nx ρ' S2
  |.bad=>.bad
  |.er _ _=>.bad
 |.bad=>.bad
 |.er _ _=>.bad
section
variable {X:Cx}{e a b tg:Expr}{ce ca cb:C}{pos:Pos}
theorem zSN:PS X (.Pass pos) (tOfS X zA5):=zTn.weak fun E σ H ⟨μ,ρ,S,sr,re,p⟩=>p σ H μ sr (Step.refl _ _ _) re
theorem zVa:PS X (.Break pos) (tOfS X sBrk):=zQz.weak fun E σ H ⟨μ,ρ,S,sr,re,p⟩=>p σ H μ sr (Step.refl _ _ _) re
theorem zV9:PS X (.Continue pos) (tOfS X sCnt):=zKd.weak fun E σ H ⟨μ,ρ,S,sr,re,p⟩=>p σ H μ sr (Step.refl _ _ _) re
theorem zVb{st:Stmt}:PS X st (tOfS X sBad):=zQy.weak fun E σ H ⟨μ,ρ,S,sr,re,p⟩=>p
theorem zSM:PS X (.Return none pos) (tOfS X zT9):=zTm.weak fun E σ H ⟨μ,ρ,S,sr,re,p⟩=>p _ H μ sr (Step.refl _ _ _) zFU
theorem zV7(he:PE X e (tOf X.K ce)):PS X (.Return (some e) pos) (tOfS X (sRet ce)):=(zVC he).weak (by
 rintro E σ H ⟨μ,ρ,S,sr,re,p⟩;unfold sRet at p;split at p
 ·rename_i d S' h;exact⟨μ,ρ,S,d,S',sr,re,h,p⟩
 ·exact False.elim p
 ·exact False.elim p)
theorem zSO(he:PE X e (tOf X.K ce))(hs:swapsWith e none pos.line X.env=pure false):PS X (.Expr e pos) (tOfS X (zGT ce)):=(zTo he hs).weak (by
 rintro E σ H ⟨μ,ρ,S,sr,re,p⟩;unfold zGT at p;split at p
 ·rename_i d S' h;exact⟨μ,ρ,S,d,S',sr,re,h,fun v H1 μ1 sr1 st1 r1=>p σ H1 μ1 sr1 st1 (re.up st1)⟩
 ·exact False.elim p
 ·exact False.elim p)
theorem zSL:PSs X [] (tOfS X zA5):=zTk.weak fun E σ H ⟨μ,ρ,S,sr,re,p⟩=>p σ H μ sr (Step.refl _ _ _) re
theorem zQf{st:Stmt}{rest:List Stmt}{c1 c2:CS}(h1:PS X st (tOfS X c1))(h2:PSs X rest (tOfS X c2)):PSs X (st::rest) (tOfS X (sSeq c1 c2)):=(zQw h1 h2).weak (by
 rintro E σ H ⟨μ,ρ,S,sr,re,p⟩;refine⟨μ,ρ,S,sr,re,?_⟩;unfold sSeq at p;revert p;cases c1 ρ S with
 |nx ρ' S'=>exact fun p σ' H' μ' sr' st' re'=>⟨μ',ρ',S',sr',re',p.shift st'⟩
 |bad=>exact fun p=>p
 |er _ _=>exact fun p=>p
 |rt _ _=>exact fun p=>p
 |bk _ _=>exact fun p=>p
 | ct _ _=>exact fun p=>p)
theorem zYq{t:Expr}{ct:CT}{as bs:List Stmt}{c1 c2:CS}(ht:PT X t (tOfT X.K ct))(h1:PSs X as (tOfS X c1))(h2:PSs X bs (tOfS X c2)):PS X (.If t as bs pos) (tOfS X (sIf ct c1 c2)):=(zYJ ht h1 h2).weak (by
 rintro E σ H ⟨μ,ρ,S,sr,re,p⟩;unfold sIf at p;split at p
 ·rename_i k S' h;refine⟨μ,ρ,S,k,S',sr,re,h,fun H1 μ1 sr1 st1=>?_⟩;cases k with
  |true=>rw[if_pos rfl]at p ⊢;exact⟨μ1,ρ,S',sr1,re.up st1,p.shift st1⟩
  |false=>rw[if_neg qB0]at p ⊢;exact⟨μ1,ρ,S',sr1,re.up st1,p.shift st1⟩
 ·exact False.elim p
 ·exact False.elim p)
inductive tOfG(K:W.Frag)(g:G)(v:V)(σ:St)(H:Hp)(Q:St->Hp->Prop):Prop
 |mk (μ:yC) (ρ:Env1) (S:zA0) (d:D) (ρ':Env1) (S':zA0) (sr:SR K μ S H) (re:RE K H μ ρ σ) (rv:RV K H μ d v) (e:g d ρ S=.ok ρ' S') (y:∀σ' H' μ',SR K μ' S' H'->Step K μ μ' H H'->RE K H' μ' ρ' σ'->Q σ' H')
theorem PG.weak{t t':TG}(h:PG X tg t)(w:∀v σ H Q,t' v σ H Q->t v σ H Q):PG X tg t':=fun pins s σ H v u Q I r q=>h pins s σ H v u Q I r (w v σ H Q q)
noncomputable def gN(i:Nat):G:=fun d ρ S=>.ok (ρ.set i (some d)) S
theorem zSZ{i:Nat}{x:Str}(h:PG X (.Name x pos) (zKC i)):PG X (.Name x pos) (tOfG X.K (gN i)):=h.weak (by
 rintro v σ H Q ⟨μ,ρ,S,d,ρ',S',sr,re,rv,e,y⟩;unfold gN at e;cases e;exact y _ H μ sr (Step.refl _ _ _) (re.set rv i))
noncomputable def gS(co ci:C):G:=fun d ρ=>bnd (co ρ) fun o=>bnd (ci ρ) fun i S=>match oSet o i d S with
 |some S'=>.ok ρ S'
 |none=>.bad
theorem zVh(hu:X.A.units+1<cLine)(ho:PE X a (tOf X.K ca))(hi:PE X b (tOf X.K cb))(ha:∀v,assign (.Subscript a b pos) X.env v=(do
   let ov <- holding [v] (eval a X.env)
   let iv <- holding [v,ov] (eval b X.env)
   standAt pos
   holding [v,ov,iv] (setItem ov iv v)
   release [v,ov,iv] [])):PG X (.Subscript a b pos) (tOfG X.K (gS ca cb)):=(zVH ho hi zVi ha).weak (by
 rintro v σ H Q ⟨μ,ρ,S,d,ρ',S',sr,re,rv,e,y⟩;obtain⟨x,S1,e1,e⟩:=zA8 e;obtain⟨z,S2,e2,e⟩:=zA8 e;split at e
 ·rename_i S3 e3;cases e;refine⟨μ,ρ,S,x,S1,sr,re,e1,fun ov H1 μ1 sr1 st1 r1=>⟨μ1,ρ,S1,z,S2,sr1,re.up st1,e2,fun iv H2 μ2 sr2 st2 r2=>?_⟩⟩;have st12:=st1.trans st2 sr2.nd;refine zTl hu e3 sr2 (RV.up st2.tk st2.ext _ _ r1) r2 (RV.up st12.tk st12.ext _ _ rv) fun H3 sr3 st3=>?_;exact y σ H3 μ2 sr3 (st12.trans st3 sr3.nd) (re.up (st12.trans st3 sr3.nd))
 ·cases e)
noncomputable def gTs:List G->yM->Env1->M Env1
 |[],[]=>fun ρ=>ret ρ
 |g::gs,d::ds=>fun ρ=>bnd (g d ρ) fun ρ1=>gTs gs ds ρ1
 |_,_=>fun _=>bad
noncomputable def gT(gs:List G):G:=fun d ρ=>match d with
 |.tup xs=>gTs gs xs ρ
 |_=>bad
inductive zNF(K:W.Frag)(gs:List G)(vs:List V)(σ:St)(H:Hp)(Q:St->Hp->Prop):Prop
 |mk (μ:yC) (ρ:Env1) (S:zA0) (ds:yM) (ρ':Env1) (S':zA0) (sr:SR K μ S H) (re:RE K H μ ρ σ) (rv:RVs K H μ ds vs) (e:gTs gs ds ρ S=.ok ρ' S') (y:∀σ' H' μ',SR K μ' S' H'->Step K μ μ' H H'->RE K H' μ' ρ' σ'->Q σ' H')
theorem PGs.weak{es:yE}{t t':TGs}(h:PGs X es t)(w:∀v σ H Q,t' v σ H Q->t v σ H Q):PGs X es t':=fun pins s σ H v u Q I r q=>h pins s σ H v u Q I r (w v σ H Q q)
theorem zSY:PGs X [] (zNF X.K []):=zO6.weak (by
 rintro v σ H Q ⟨μ,ρ,S,ds,ρ',S',sr,re,rv,e,y⟩;cases ds with
 |nil =>
  obtain⟨rfl,rfl⟩:=zAt e;exact⟨rv.nil_inv,y σ H μ sr (Step.refl _ _ _) re⟩
 | cons d ds=>cases e)
theorem zQj{es:yE}{g:G}{gs:List G}(h1:PG X e (tOfG X.K g))(h2:PGs X es (zNF X.K gs))(hs:(assignEach (e::es) X.env).map (·.2)=assign e X.env::(assignEach es X.env).map (·.2)):PGs X (e::es) (zNF X.K (g::gs)):=(zLu h1 h2 hs).weak (by
 rintro v σ H Q ⟨μ,ρ,S,ds,ρ',S',sr,re,rv,e,y⟩;cases ds with
 |nil=>cases e
 |cons d ds =>
  obtain⟨ρ1,S1,e1,e⟩:=zA8 e;obtain⟨u,us,rfl,r1,r2⟩:=rv.cons_inv;refine⟨u,us,rfl,μ,ρ,S,d,ρ1,S1,sr,re,r1,e1,fun σ1 H1 μ1 sr1 st1 re1=>?_⟩;exact⟨μ1,ρ1,S1,ds,ρ',S',sr1,re1,RVs.up st1.tk st1.ext _ _ r2,e,fun σ2 H2 μ2 sr2 st2 re2=>y σ2 H2 μ2 sr2 (st1.trans st2 sr2.nd) re2⟩)
theorem zUc{gs:List G}:∀{ds:yM}{ρ ρ':Env1}{S S':zA0},gTs gs ds ρ S=.ok ρ' S'->ds.length=gs.length:=by
 induction gs with
 |nil=>intro ds ρ ρ' S S' e;cases ds with|nil=>rfl|cons _ _=>cases e
 |cons g gs ih =>
  intro ds ρ ρ' S S' e;cases ds with
  |nil=>cases e
  |cons d ds =>
   obtain⟨ρ1,S1,e1,e⟩:=zA8 e;rw[qD1,qD1,ih e]
theorem zVg{es:yE}{k:Nat}{gs:List G}(hc:X.calm=true)(h:PGs X es (zNF X.K gs))(hn:(assignEach es X.env).length=gs.length)(hst:(assignEach es X.env).findIdx? (·.1)=none):PG X (.Tuple es k pos) (tOfG X.K (gT gs)) :=
 (zS4 hc h hn hst).weak (by
 rintro v σ H Q ⟨μ,ρ,S,d,ρ',S',sr,re,rv,e,y⟩;unfold gT at e;split at e
 ·rename_i xs;unfold RV at rv;obtain⟨p,vs,rfl,q,rr⟩:=rv;exact⟨p,vs,rfl,SqT.of q,by rw[<- rr.len];exact zUc e,μ,ρ,S,xs,ρ',S',sr,re,rr,e,y⟩
 ·cases e)
theorem zRW{g:G}(he:PE X e (tOf X.K ce))(hg:PG X tg (tOfG X.K g))(hs:swapsWithSole [tg] e pos.line X.env=pure false)(hw:swappedStores [tg] e X.env=pure none)(h1:(assignEach [tg] X.env).map (·.2)=[assign tg X.env]):PS X (.Assign [tg] e pos) (tOfS X (sAsg ce g)):=(zVE he hg hs hw h1).weak (by
 rintro E σ H ⟨μ,ρ,S,sr,re,p⟩;unfold sAsg at p;split at p
 ·rename_i d S' h;split at p
  ·rename_i ρ' S2 h2;refine⟨μ,ρ,S,d,S',sr,re,h,fun v H1 μ1 sr1 st1 r1=>⟨μ1,ρ,S',d,ρ',S2,sr1,re.up st1,r1,h2,fun σ2 H2 μ2 sr2 st2 re2=>?_⟩⟩;exact p σ2 H2 μ2 sr2 (st1.trans st2 sr2.nd) re2
  ·exact False.elim p
  ·exact False.elim p
 ·exact False.elim p
 ·exact False.elim p)
theorem zV6{i:Nat}{x:Str}{pos':Pos}(h:PS X (.Assign [.Name x pos'] e pos) (tAsg (tOf X.K ce) (zKC i))):PS X (.Assign [.Name x pos'] e pos) (tOfS X (sAsg ce (gN i))):=h.weak (by
 rintro E σ H ⟨μ,ρ,S,sr,re,p⟩;unfold sAsg at p;split at p
 ·rename_i d S' h;have e2:gN i d ρ S'=.ok (ρ.set i (some d)) S':=rfl;rw[e2]at p;exact⟨μ,ρ,S,d,S',sr,re,h,fun v H1 μ1 sr1 st1 r1=>p _ H1 μ1 sr1 st1 ((re.up st1).set r1 i)⟩
 ·exact False.elim p
 ·exact False.elim p)
noncomputable def zDU:Nat->CT->CS->CS
 |0,_,_=>fun _ _=>.bad
 |k+1,t,b=>fun ρ S=>match t ρ S with
  |.ok true S1=>match b ρ S1 with
   |.nx ρ2 S2=>zDU k t b ρ2 S2
   |.ct ρ2 S2=>zDU k t b ρ2 S2
   |.bk ρ2 S2=>.nx ρ2 S2
   |r=>r
  |.ok false S1=>.nx ρ S1
  |.bad=>.bad
  |.er _ _=>.bad
theorem zQg{t:Expr}{ct:CT}{body:List Stmt}{cb:CS}(k:Nat)(hp:PassesOwn (model X.prog X.w) X.A X.env X.xe)(ht:PT X t (tOfT X.K ct))(hb:PSs X body (tOfS X cb)):PS X (.While t body [] pos) (tOfS X (zDU k ct cb)):=(zQx hp ht hb).weak (by
 rintro E σ0 H0 ⟨μ0,ρ0,S0,sr0,re0,p0⟩;refine⟨fun m σ H=>∃μ ρ S,SR X.K μ S H/\Step X.K μ0 μ H0 H/\RE X.K H μ ρ σ/\zJW X μ H E (zDU m ct cb ρ S),⟨k,μ0,ρ0,S0,sr0,Step.refl _ _ _,re0,p0⟩,?_⟩;rintro m σ H ⟨μ,ρ,S,sr,st,re,p⟩;cases m with
 |zero=>exact False.elim p
 |succ m =>
  unfold zDU at p;split at p
  ·rename_i S1 h;refine⟨μ,ρ,S,true,S1,sr,re,h,fun H1 μ1 sr1 st1=>?_⟩;dsimp only;rw[if_pos rfl];refine⟨fun σ' H'=>∃μ ρ S,SR X.K μ S H'/\Step X.K μ0 μ H0 H'/\RE X.K H' μ ρ σ'/\zJW X μ H' E (zDU m ct cb ρ S),fun σ' H' h=>⟨m,qM1 m,h⟩,μ1,ρ,S1,sr1,re.up st1,?_⟩;have st01:=st.trans st1 sr1.nd;revert p;cases cb ρ S1 with
   |nx ρ2 S2=>exact fun p σ2 H2 μ2 sr2 st2 re2=>⟨μ2,ρ2,S2,sr2,st01.trans st2 sr2.nd,re2,p.shift (st1.trans st2 sr2.nd)⟩
   |ct ρ2 S2=>exact fun p σ2 H2 μ2 sr2 st2 re2=>⟨μ2,ρ2,S2,sr2,st01.trans st2 sr2.nd,re2,p.shift (st1.trans st2 sr2.nd)⟩
   |bk ρ2 S2=>exact fun p σ2 H2 μ2 sr2 st2 re2=>p σ2 H2 μ2 sr2 (st1.trans st2 sr2.nd) re2
   |rt d S2=>exact fun p=>Yld.shift p st1
   |bad=>exact fun p=>p
   |er _ _=>exact fun p=>p
  ·rename_i S1 h;refine⟨μ,ρ,S,false,S1,sr,re,h,fun H1 μ1 sr1 st1=>?_⟩;dsimp only;rw[if_neg qB0];exact p σ H1 μ1 sr1 st1 (re.up st1)
  ·exact False.elim p
  ·exact False.elim p)
noncomputable abbrev zDb:=List (Nat×yM)
def okW(w:zDb)(S:zA0):Prop:=∀p∈w,zA4 S p.1=some p.2
noncomputable abbrev CI:=Env1->M (yM×zDb)
structure ItOk(K:W.Frag)(J:It)(items:yM)(w:zDb)(μ0:yC)(H0:Hp):Prop where
 go:∀(i:Nat) H μ S,SR K μ S H->Step K μ0 μ H0 H->okW w S->i<items.length->J.go i H
 yld:∀(i:Nat) H μ S x H',SR K μ S H->Step K μ0 μ H0 H->okW w S->i<items.length->J.yld i H x H'->∃d,items[i]?=some d/\SR K μ S H'/\Step K μ μ H H'/\RV K H' μ d x
 stop:∀H μ S,SR K μ S H->Step K μ0 μ H0 H->okW w S->J.stop items.length H
inductive tOfI(K:W.Frag)(it:CI)(σ:St)(H:Hp)(R:It->Hp->Prop):Prop
 |mk (μ:yC) (ρ:Env1) (S:zA0) (items:yM) (w:zDb) (S':zA0) (sr:SR K μ S H) (re:RE K H μ ρ σ) (e:it ρ S=.ok (items,w) S') (y:∀J H' μ',SR K μ' S' H'->Step K μ μ' H H'->ItOk K J items w μ' H'->R J H')
theorem PI.weak{iter:Expr}{t t':TI}(h:PI X tg iter t)(w:∀σ H R,t' σ H R->t σ H R):PI X tg iter t':=fun pins s σ H R I q=>h pins s σ H R I (w σ H R q)
theorem Step.at{K:W.Frag}{μ μ':yC}{H H':Hp}(st:Step K μ μ' H H'){n:Nat}{a:Addr}(h:μ[n]?=some a):μ'[n]?=some a:=by obtain⟨ν,rfl⟩:=st.ext;rw[qA8 (qA2.mp h).1];exact h
open Classical in
noncomputable def zBb(w:zDb)(g:G)(b:CS):yM->CS
 |[]=>fun ρ S=>if okW w S then .nx ρ S else .bad
 | d::ds=>fun ρ S=>if okW w S then(match g d ρ S with
  |.ok ρ1 S1=>match b ρ1 S1 with
   |.nx ρ2 S2=>zBb w g b ds ρ2 S2
   |.ct ρ2 S2=>zBb w g b ds ρ2 S2
   |.bk ρ2 S2=>.nx ρ2 S2
   |r=>r
  |.bad=>.bad
  | .er _ _=>.bad)else .bad
noncomputable def sFor(it:CI)(g:G)(b:CS):CS:=fun ρ S=>match it ρ S with
 |.ok (items,w) S1=>zBb w g b items ρ S1
 |.bad=>.bad
 |.er _ _=>.bad
theorem zV8{iter:Expr}{body:List Stmt}{it:CI}{g:G}{cb:CS}(hp:PassesOwn (model X.prog X.w) X.A X.env X.xe)(hc:X.calm=true)(hi:PI X tg iter (tOfI X.K it))(hg:PG X tg (tOfG X.K g))(hb:PSs X body (tOfS X cb))
  (hs:∀x,foldedSetIterable iter X.env x=pure x):PS X (.For tg iter body [] pos) (tOfS X (sFor it g cb)):=(zVD hp hc hi hg hb hs).weak (by
 rintro E σ H ⟨μ,ρ,S,sr,re,p⟩;unfold sFor at p;split at p
 ·rename_i items w S0 h0;refine⟨μ,ρ,S,items,w,S0,sr,re,h0,fun J H0 μ0 sr0 st0 io=>?_⟩;refine⟨fun i m σ H=>i+m=items.length/\∃μ ρ S,SR X.K μ S H/\Step X.K μ0 μ H0 H/\RE X.K H μ ρ σ/\zJW X μ H E (zBb w g cb (items.drop i) ρ S),⟨items.length,by simp,μ0,ρ,S0,sr0,Step.refl _ _ _,re.up st0,by rw[qL4];exact p.shift st0⟩,?_⟩;rintro i m σ1 H1 ⟨him,μ1,ρ1,S1,sr1,st1,re1,p1⟩;by_cases hi:i<items.length
  ·rw[qF9 hi]at p1;unfold zBb at p1;split at p1
   ·rename_i hw;refine .inr ⟨io.go i H1 μ1 S1 sr1 st1 hw hi,fun σ' H'=>i+1+(m - 1)=items.length/\∃μ ρ S,SR X.K μ S H'/\Step X.K μ0 μ H0 H'/\RE X.K H' μ ρ σ'/\zJW X μ H' E (zBb w g cb (items.drop (i+1)) ρ S),fun σ' H' z=>⟨m - 1,by omega,z⟩,fun x H2 hy=>?_⟩;obtain⟨d,hd,sr2,st2,rv⟩:=io.yld i H1 μ1 S1 x H2 sr1 st1 hw hi hy;have ed:items[i]=d:=by rw[qA5 hi]at hd;exact Option.some.inj hd
    rw[ed]at p1;split at p1
    ·rename_i ρ3 S3 h3;refine⟨μ1,ρ1,S1,d,ρ3,S3,sr2,re1.up st2,rv,h3,fun σ3 H3 μ3 sr3 st3 re3=>⟨μ3,ρ3,S3,sr3,re3,?_⟩⟩;have st23:=st2.trans st3 sr3.nd;have st03:=st1.trans st23 sr3.nd;revert p1;cases cb ρ3 S3 with
     |nx ρ4 S4=>exact fun p σ4 H4 μ4 sr4 st4 re4=>⟨by omega,μ4,ρ4,S4,sr4,st03.trans st4 sr4.nd,re4,p.shift (st23.trans st4 sr4.nd)⟩
     |ct ρ4 S4=>exact fun p σ4 H4 μ4 sr4 st4 re4=>⟨by omega,μ4,ρ4,S4,sr4,st03.trans st4 sr4.nd,re4,p.shift (st23.trans st4 sr4.nd)⟩
     |bk ρ4 S4=>exact fun p σ4 H4 μ4 sr4 st4 re4=>p σ4 H4 μ4 sr4 (st23.trans st4 sr4.nd) re4
     |rt d S4=>exact fun p=>Yld.shift p st23
     |bad=>exact fun p=>p
     |er _ _=>exact fun p=>p
    ·exact False.elim p1
    ·exact False.elim p1
   ·exact False.elim p1
  ·have e:i=items.length:=by omega
   subst e;rw[qM3]at p1;unfold zBb at p1;split at p1
   ·rename_i hw;exact .inl ⟨io.stop H1 μ1 S1 sr1 st1 hw,p1 σ1 H1 μ1 sr1 (Step.refl _ _ _) re1⟩
   ·exact False.elim p1
 ·exact False.elim p
 ·exact False.elim p)
end
open PySem PySem.Spec PyProof.Rows
section
variable {X:Cx}{tg e:Expr}{ce:C}{pos:Pos}
noncomputable def iSeq(c:C):CI:=fun ρ=>bnd (c ρ) fun x S=>match x with
 |.tup xs=>.ok (xs,[]) S
 |.lst n=>match zA4 S n with
  |some xs=>.ok (xs,[(n,xs)]) S
  |none=>.bad
 |_=>.bad
theorem zWD{K:W.Frag}{H0:Hp}{μ0:yC}{a:Addr}{xs:yM}{vs:List V}(q:SqT K H0 a vs)(r:RVs K H0 μ0 xs vs):ItOk K (Itt K a) xs [] μ0 H0 where
 go:=fun i H μ S sr st _ hi=>by obtain⟨v,e,_⟩:=r.get (qA5 hi);exact⟨vs,v,st.tk.t _ _ q,e⟩
 yld:=fun i H μ S x H' sr st _ hi y=>by obtain⟨rfl,y⟩:=y;obtain⟨v,e,rv⟩:=r.get (qA5 hi);have:=y vs (st.tk.t _ _ q);rw[e]at this;cases this;exact⟨xs[i],qA5 hi,sr,Step.refl _ _ _,RV.up st.tk st.ext _ _ rv⟩
 stop:=fun H μ S sr st _=>⟨vs,st.tk.t _ _ q,by rw[r.len];exact qB1 _⟩
theorem zWE{K:W.Frag}{H0:Hp}{μ0:yC}{a:Addr}{n:Nat}{xs:yM}(hm:μ0[n]?=some a):ItOk K (Itl K a) xs [(n,xs)] μ0 H0 where
 go:=fun i H μ S sr st w hi=>by obtain⟨vs,q,r⟩:=sr.sq (st.at hm) (w (n,xs) (by simp));obtain⟨v,e,_⟩:=r.get (qA5 hi);exact⟨vs,v,q,e⟩
 yld:=fun i H μ S x H' sr st w hi y=>by obtain⟨rfl,y⟩:=y;obtain⟨vs,q,r⟩:=sr.sq (st.at hm) (w (n,xs) (by simp));obtain⟨v,e,rv⟩:=r.get (qA5 hi);have:=y vs q;rw[e]at this;cases this;exact⟨xs[i],qA5 hi,sr,Step.refl _ _ _,rv⟩
 stop:=fun H μ S sr st w=>by obtain⟨vs,q,r⟩:=sr.sq (st.at hm) (w (n,xs) (by simp));exact⟨vs,q,by rw[r.len];exact qB1 _⟩
theorem zVG{tl:TE}(hl:PE X e tl):PI X tg e (fun σ H R=>tl σ H fun x H1=>∃a,x=.ref a/\((∃xs,SqL X.K H1 a xs)/\R (Itl X.K a) H1∨(∃xs,SqT X.K H1 a xs)/\R (Itt X.K a) H1
  )):=by
 intro pins s σ H R I h;refine thn (hl pins s σ H _ I h) fun v s1 ⟨x,H1,I1,r1,q1⟩=>?_;obtain⟨a,e,q⟩:=q1;subst e;cases r1;rcases q with⟨⟨xs,hq⟩,q⟩| ⟨⟨xs,hq⟩,q⟩
 ·obtain⟨its,rv,p,hz⟩:=I1.list hq;refine wpAny_pyIter_list p.isList ?_;refine⟨s1.heap.objs.size,[s1.heap.objs.size],_,_,H1,rfl,I1.kept (t':=s1.toks) fun b o e=>qA6 _ e,zNx a _,⟨_,qB7 _ rfl,rfl,rfl⟩,fun b hb=>?_,q⟩;have e:b=s1.heap.objs.size:=by simpa using hb
  subst e;exact I1.fpOk (qB1 _) (I1.hok.fresh (qB1 _))
 ·obtain⟨its,rv,p,hz⟩:=I1.tuple hq;refine wpAny_pyIter_tuple (show s1.heap.IsTuple a its.toArray from p) ?_;refine⟨s1.heap.objs.size,[s1.heap.objs.size],_,_,H1,rfl,I1.kept (t':=s1.toks) fun b o e=>qA6 _ e,zMc a _,⟨_,qB7 _ rfl,rfl,rfl⟩,fun b hb=>?_,q⟩;have e:b=s1.heap.objs.size:=by simpa using hb
  subst e;exact I1.fpOk (qB1 _) (I1.hok.fresh (qB1 _))
theorem zVf(he:PE X e (tOf X.K ce)):PI X tg e (tOfI X.K (iSeq ce)):=(zVG he).weak (by
 rintro σ H R ⟨μ,ρ,S,items,w,S',sr,re,e,y⟩;obtain⟨x,S1,e1,e⟩:=zA8 e;refine⟨μ,ρ,S,x,S1,sr,re,e1,fun v H1 μ1 sr1 st1 r1=>?_⟩
 try dsimp only at e
 split at e
 ·rename_i xs;cases e;have r1':=r1;unfold RV at r1';obtain⟨a,vs,rfl,q,rr⟩:=r1';exact⟨a,rfl,.inr ⟨⟨vs,SqT.of q⟩,y _ H1 μ1 sr1 st1 (zWD (SqT.of q) rr)⟩⟩
 ·rename_i n;split at e
  ·rename_i xs hx;cases e;unfold RV at r1;obtain⟨a,rfl,hm⟩:=r1;obtain⟨vs,q,rr⟩:=sr1.sq hm hx;exact⟨a,rfl,.inl ⟨⟨vs,q⟩,y _ H1 μ1 sr1 st1 (zWE hm)⟩⟩
  ·cases e
 ·cases e)
noncomputable def upD(lo:Int)(n:Nat):yM:=(List.range n).map fun k=>D.int (lo+(k:Nat))
theorem zSb{K:W.Frag}{H0:Hp}{μ0:yC}{lo:Int}{n:Nat}:ItOk K (Itr lo n) (upD lo n) [] μ0 H0 where
 go:=fun i H μ S sr st _ hi=>by unfold upD at hi;simp at hi;exact hi
 yld:=fun i H μ S x H' sr st _ hi y=>by
  obtain⟨rfl,rfl⟩:=y;have hi':i<n:=by unfold upD at hi;simp at hi;exact hi
  exact⟨.int (lo+i),by unfold upD;rw[qC1,qG9 hi'];rfl,sr,Step.refl _ _ _,zBo⟩
 stop:=fun H μ S sr st _=>by show n<=(upD lo n).length;unfold upD;simp
noncomputable def zDx(a:CA):CI:=fun ρ=>bnd (a ρ) fun xs S=>match xs with
 |[.int j]=>if -4611686018427387904<=j/\j<4611686018427387904 then .ok (upD 0 j.toNat,[]) S else .bad
 |_=>.bad
noncomputable def zI7(a:CA):CI:=fun ρ=>bnd (a ρ) fun xs S=>match xs with
 |[.int i,.int j]=>if -4611686018427387904<=i/\i<4611686018427387904/\-4611686018427387904<=j/\j<4611686018427387904 then .ok (upD i (j - i).toNat,[]) S else .bad
 |_=>.bad
variable {a b:Expr}{ca:CA}
theorem zNO{p:Pos}(h:PI X tg (.Call (.Name "range" p) [a] [] pos) (zWQ (tOfA X.K ca))):PI X tg (.Call (.Name "range" p) [a] [] pos) (tOfI X.K (zDx ca)):=h.weak (by
 rintro σ H R ⟨μ,ρ,S,items,w,S',sr,re,e,y⟩;obtain⟨xs,S1,e1,e⟩:=zA8 e;refine⟨μ,ρ,S,xs,S1,sr,re,e1,fun vs H1 μ1 sr1 st1 r1=>?_⟩
 try dsimp only at e
 split at e
 ·rename_i j;split at e
  ·rename_i hl;cases e;obtain⟨v,rfl,r2⟩:=r1.one;unfold RV at r2;subst r2;exact⟨j,rfl,hl.1,hl.2,y _ H1 μ1 sr1 st1 zSb⟩
  ·cases e
 ·cases e)
theorem zNN{p:Pos}(h:PI X tg (.Call (.Name "range" p) [a,b] [] pos) (zWP (tOfA X.K ca))):PI X tg (.Call (.Name "range" p) [a,b] [] pos) (tOfI X.K (zI7 ca)):=h.weak (by
 rintro σ H R ⟨μ,ρ,S,items,w,S',sr,re,e,y⟩;obtain⟨xs,S1,e1,e⟩:=zA8 e;refine⟨μ,ρ,S,xs,S1,sr,re,e1,fun vs H1 μ1 sr1 st1 r1=>?_⟩
 try dsimp only at e
 split at e
 ·rename_i i j;split at e
  ·rename_i hl;cases e;obtain⟨v,u,rfl,r2,r3⟩:=r1.two;unfold RV at r2 r3;subst r2 r3;exact⟨i,j,rfl,hl,y _ H1 μ1 sr1 st1 zSb⟩
  ·cases e
 ·cases e)
theorem zNr{α β:Type}{xs:List α}{ys:List β}{i:Nat}(h:i<(xs.zip ys).length):∃x y,xs[i]?=some x/\ys[i]?=some y/\(xs.zip ys)[i]?=some (x,y):=by
 rw[qO9]at h;have h1:i<xs.length:=by omega
 have h2:i<ys.length:=by omega
 exact⟨xs[i],ys[i],qA5 h1,qA5 h2,by rw[qE7];exact⟨qA5 h1,qA5 h2⟩⟩
noncomputable def zipD(xs ys:yM):yM:=(xs.zip ys).map fun p=>.tup [p.1,p.2]
noncomputable def zsAt(S:zA0):D->Option (yM)
 |.tup xs=>some xs
 |.lst n=>zA4 S n
 |_=>none
noncomputable def zDd(x:D)(xs:yM):zDb:=match x with
 |.lst n=>[(n,xs)]
 |_=>[]
theorem zRX{K:W.Frag}{μ:yC}{S:zA0}{H:Hp}{x:D}{v:V}{xs:yM}(sr:SR K μ S H)(r:RV K H μ x v)(ho:zsAt S x=some xs):∃a b,v=.ref a/\(∃vs,SqX b K H a vs) /\
  ∀H1 μ1 S1,SR K μ1 S1 H1->Step K μ μ1 H H1->okW (zDd x xs) S1->∃vs,SqX b K H1 a vs/\RVs K H1 μ1 xs vs:=by
 unfold zsAt at ho;split at ho
 ·rename_i ys;cases ho;unfold RV at r;obtain⟨a,vs,rfl,q,rr⟩:=r;exact⟨a,true,rfl,⟨vs,SqT.of q⟩,fun H1 μ1 S1 sr1 st1 _=>⟨vs,st1.tk.t _ _ (SqT.of q),RVs.up st1.tk st1.ext _ _ rr⟩⟩
 ·rename_i n;unfold RV at r;obtain⟨a,rfl,hm⟩:=r;obtain⟨vs,q,rr⟩:=sr.sq hm ho;exact⟨a,false,rfl,⟨vs,q⟩,fun H1 μ1 S1 sr1 st1 w=>sr1.sq (st1.at hm) (w (n,xs) (by simp[zDd]))⟩
 ·cases ho
theorem zEM{w1 w2:zDb}{S:zA0}:okW (w1++w2) S↔okW w1 S/\okW w2 S:=by unfold okW;simp only[qB2];exact⟨fun h=>⟨fun p hp=>h p (.inl hp),fun p hp=>h p (.inr hp)⟩,fun h p hp=>hp.elim (h.1 p) (h.2 p)⟩
theorem zU2{K:W.Frag}{H0:Hp}{μ0:yC}{a b:Addr}{b1 b2:Bool}{w1 w2:zDb}{xs ys:yM}
  (g1:∀H1 μ1 S1,SR K μ1 S1 H1->Step K μ0 μ1 H0 H1->okW w1 S1->∃vs,SqX b1 K H1 a vs/\RVs K H1 μ1 xs vs) (g2:∀H1 μ1 S1,SR K μ1 S1 H1->Step K μ0 μ1 H0 H1->okW w2 S1->∃vs,SqX b2 K H1 b vs/\RVs K H1 μ1 ys vs) :
  ItOk K (ItzX b1 b2 K a b) (zipD xs ys) (w1++w2) μ0 H0 where
 go:=fun i H μ S sr st w hi=>by obtain⟨vs,q,r⟩:=g1 H μ S sr st (zEM.mp w).1;obtain⟨us,q2,r2⟩:=g2 H μ S sr st (zEM.mp w).2;obtain⟨x,y,e1,e2,_⟩:=zNr (xs:=xs) (ys:=ys) (i:=i) (by unfold zipD at hi;simpa using hi);obtain⟨v,g1,_⟩:=r.get e1;obtain⟨u,g2,_⟩:=r2.get e2;exact⟨vs,us,v,u,q,q2,g1,g2⟩
 yld:=fun i H μ S x H' sr st w hi y=>by obtain⟨T,hT,rfl,y⟩:=y;obtain⟨vs,q,r⟩:=g1 H μ S sr st (zEM.mp w).1;obtain⟨us,q2,r2⟩:=g2 H μ S sr st (zEM.mp w).2;obtain⟨x,y',e1,e2,e3⟩:=zNr (xs:=xs) (ys:=ys) (i:=i) (by unfold zipD at hi;simpa using hi);obtain⟨v,g1,rv⟩:=r.get e1;obtain⟨u,g2,ru⟩:=r2.get e2;have:=y vs us v u q q2 g1 g2;subst this;obtain⟨s1,s2,s3⟩:=zHW (p:=T) sr hT (.cons rv (.cons ru .nil));exact⟨.tup [x,y'],by unfold zipD;rw[qC1,e3];rfl,s1,s2,s3⟩
 stop:=fun H μ S sr st w=>by obtain⟨vs,q,r⟩:=g1 H μ S sr st (zEM.mp w).1;obtain⟨us,q2,r2⟩:=g2 H μ S sr st (zEM.mp w).2;exact⟨vs,us,q,q2,by unfold zipD;rw[qA0,qO9,r.len,r2.len]⟩
noncomputable def zRj(a:CA):CI:=fun ρ=>bnd (a ρ) fun xs S=>match xs with
 |[x,y]=>match zsAt S x,zsAt S y with
  |some ys,some zs=>.ok (zipD ys zs,zDd x ys++zDd y zs) S
  |_,_=>.bad
 |_=>.bad
theorem zVe{elts:yE}{k:Nat}{tpos p:Pos}(h:PI X (.Tuple elts k tpos) (.Call (.Name "zip" p) [a,b] [] pos) (zWO X.K (tOfA X.K ca))):PI X (.Tuple elts k tpos) (.Call (.Name "zip" p) [a,b] [] pos) (tOfI X.K (zRj ca)):=h.weak (by
 rintro σ H R ⟨μ,ρ,S,items,w,S',sr,re,e,y⟩;obtain⟨xs,S1,e1,e⟩:=zA8 e;refine⟨μ,ρ,S,xs,S1,sr,re,e1,fun vs H1 μ1 sr1 st1 r1=>?_⟩
 try dsimp only at e
 split at e
 ·rename_i x1 x2;split at e
  ·rename_i ys zs h1 h2;cases e;obtain⟨v,u,rfl,r2,r3⟩:=r1.two;obtain⟨a,b1,rfl,q1,g1⟩:=zRX sr1 r2 h1;obtain⟨b,b2,rfl,q2,g2⟩:=zRX sr1 r3 h2;exact⟨a,b,b1,b2,rfl,q1,q2,y _ H1 μ1 sr1 st1 (zU2 g1 g2)⟩
  ·cases e
 ·cases e)
noncomputable def zD0(xs:yM):yM:=((List.range xs.length).zip xs).map fun p=>.tup [.int (p.1:Nat),p.2]
theorem zLV{xs:yM}{i:Nat}(h:i<xs.length):(zD0 xs)[i]?=some (.tup [.int (i:Nat),xs[i]]):=by
 unfold zD0;rw[qC1];have:((List.range xs.length).zip xs)[i]?=some (i,xs[i]):=by rw[qE7];exact⟨qG9 h,qA5 h⟩
 rw[this];rfl
theorem zDN(xs:yM):(zD0 xs).length=xs.length:=by unfold zD0;simp
theorem zR9{K:W.Frag}{H0:Hp}{μ0:yC}{a:Addr}{xs:yM}{vs:List V}(q:SqT K H0 a vs)(r:RVs K H0 μ0 xs vs):ItOk K (IteX true K a) (zD0 xs) [] μ0 H0 where
 go:=fun i H μ S sr st _ hi=>by rw[zDN]at hi;obtain⟨v,e,_⟩:=r.get (qA5 hi);exact⟨vs,v,st.tk.t _ _ q,e⟩
 yld:=fun i H μ S x H' sr st _ hi y=>by rw[zDN]at hi;obtain⟨T,hT,rfl,y⟩:=y;obtain⟨v,e,rv⟩:=r.get (qA5 hi);have:=y vs v (st.tk.t _ _ q) e;subst this;obtain⟨s1,s2,s3⟩:=zHW (p:=T) sr hT (.cons zBo (.cons (RV.up st.tk st.ext _ _ rv) .nil));exact⟨_,zLV hi,s1,s2,s3⟩
 stop:=fun H μ S sr st _=>⟨vs,st.tk.t _ _ q,by rw[zDN,r.len]⟩
theorem zRa{K:W.Frag}{H0:Hp}{μ0:yC}{a:Addr}{n:Nat}{xs:yM}(hm:μ0[n]?=some a):ItOk K (IteX false K a) (zD0 xs) [(n,xs)] μ0 H0 where
 go:=fun i H μ S sr st w hi=>by rw[zDN]at hi;obtain⟨vs,q,r⟩:=sr.sq (st.at hm) (w (n,xs) (by simp));obtain⟨v,e,_⟩:=r.get (qA5 hi);exact⟨vs,v,q,e⟩
 yld:=fun i H μ S x H' sr st w hi y=>by rw[zDN]at hi;obtain⟨T,hT,rfl,y⟩:=y;obtain⟨vs,q,r⟩:=sr.sq (st.at hm) (w (n,xs) (by simp));obtain⟨v,e,rv⟩:=r.get (qA5 hi);have:=y vs v q e;subst this;obtain⟨s1,s2,s3⟩:=zHW (p:=T) sr hT (.cons zBo (.cons rv .nil));exact⟨_,zLV hi,s1,s2,s3⟩
 stop:=fun H μ S sr st w=>by obtain⟨vs,q,r⟩:=sr.sq (st.at hm) (w (n,xs) (by simp));exact⟨vs,q,by rw[zDN,r.len]⟩
noncomputable def zGl(a:CA):CI:=fun ρ=>bnd (a ρ) fun xs S=>match xs with
 |[.tup ys]=>.ok (zD0 ys,[]) S
 |[.lst n]=>match zA4 S n with
  |some ys=>.ok (zD0 ys,[(n,ys)]) S
  |none=>.bad
 |_=>.bad
theorem zSW{elts:yE}{k:Nat}{tpos p:Pos}(h:PI X (.Tuple elts k tpos) (.Call (.Name "enumerate" p) [a] [] pos) (zSe X.K (tOfA X.K ca))):PI X (.Tuple elts k tpos) (.Call (.Name "enumerate" p) [a] [] pos) (tOfI X.K (zGl ca)):=h.weak (by
 rintro σ H R ⟨μ,ρ,S,items,w,S',sr,re,e,y⟩;obtain⟨xs,S1,e1,e⟩:=zA8 e;refine⟨μ,ρ,S,xs,S1,sr,re,e1,fun vs H1 μ1 sr1 st1 r1=>?_⟩
 try dsimp only at e
 split at e
 ·rename_i ys;cases e;obtain⟨v,rfl,r2⟩:=r1.one;unfold RV at r2;obtain⟨a,vs,rfl,q,rr⟩:=r2;exact⟨a,rfl,.inl ⟨⟨vs,SqT.of q⟩,y _ H1 μ1 sr1 st1 (zR9 (SqT.of q) rr)⟩⟩
 ·rename_i n;split at e
  ·rename_i ys ho;cases e;obtain⟨v,rfl,r2⟩:=r1.one;unfold RV at r2;obtain⟨a,rfl,hm⟩:=r2;obtain⟨vs,q,_⟩:=sr1.sq hm ho;exact⟨a,rfl,.inr ⟨⟨vs,q⟩,y _ H1 μ1 sr1 st1 (zRa hm)⟩⟩
  ·cases e
 ·cases e)
noncomputable def stE(k:Nat)(js:List Nat)(ρ:Env1):Env1:=qI8 k none++js.map fun j=>(ρ[j]?).getD none
theorem RE.comp{K:W.Frag}{H:Hp}{μ:yC}{ρ:Env1}{σ:St}(re:RE K H μ ρ σ)(k:Nat)(js:List Nat):RE K H μ (stE k js ρ) (stC k js σ):=by
 refine⟨by unfold stE stC;simp,fun i d e=>?_⟩;unfold stE at e;unfold stC;by_cases hi:i<k
 ·rw[qA8 (by simpa using hi),qJ0]at e;simp[hi]at e
 ·rw[qA1 (by simpa using hi),qI0,qC1]at e;rw[qA1 (by simpa using hi),qI0,qC1];cases q:js[i - k]? with
  |none=>rw[q]at e;simp at e
  |some j =>
   rw[q]at e;simp only[qO7,Option.some.injEq]at e;cases q2:ρ[j]? with
   |none=>rw[q2]at e;simp at e
   |some z =>
    rw[q2]at e;simp at e;subst e;obtain⟨v,e1,r1⟩:=re.2 j d q2;exact⟨v,by simp[e1],r1⟩
inductive Tgt where
 |one|many (k:Nat)
noncomputable def zB9:Env1->Nat->yM->Env1
 |ρ,_,[]=>ρ
 |ρ,s,x::xs=>zB9 (ρ.set s (some x)) (s+1) xs
noncomputable def zH5(t:Tgt)(d:D)(ρ:Env1):Option Env1:=match t with
 |.one=>some (ρ.set 0 (some d))
 |.many k=>match d with
  |.tup xs=>if xs.length=k then some (zB9 ρ 0 xs)else none
  |_=>none
noncomputable def zLT:Nat->Nat->TGs
 |_,0=>gNil
 |s,n+1=>zWV (zKC s) (zLT (s+1) n)
noncomputable def tgtK:Tgt->Nat
 |.one=>1
 |.many k=>k
noncomputable def tOfT'(K:W.Frag):Tgt->TG
 |.one=>zKC 0
 |.many k=>gTup K k (zLT 0 k)
theorem zLi{k:Nat}{js:List Nat}{σ σ1:St}(h:zJU (stC k js σ) σ1){i:Nat}(hi:i<k)(v:V):zJU (stC k js σ) (σ1.set i (some v)):=by
 refine⟨by rw[qO6];exact h.1,fun j u e=>?_⟩;by_cases hj:i=j
 ·subst hj;obtain⟨_,h1,_⟩:=zNI e;omega
 ·rw[qF1 hj];exact h.2 j u e
theorem zIE(σ:St):zJU σ σ:=⟨rfl,fun _ _ h=>h⟩
theorem zLE{K:W.Frag}{H:Hp}{μ:yC}{k:Nat}{js:List Nat}{σ:St}{Q:St->Hp->Prop}:∀{n s:Nat}{xs:yM}{vs:List V}{ρ1:Env1}{σ1:St},RVs K H μ xs vs->xs.length=n->s+n<=k->RE K H μ ρ1 σ1->zJU (stC k js σ) σ1->(∀σ4,RE K H μ (zB9 ρ1 s xs) σ4->zJU (stC k js σ) σ4->Q σ4 H)->zLT s n vs σ1 H Q
 |0,s,xs,vs,ρ1,σ1,r,hl,hk,re,w,h=>by have:xs=[]:=qF3.mp hl;subst this;exact⟨r.nil_inv,h σ1 re w⟩
 |n+1,s,[],vs,ρ1,σ1,r,hl,hk,re,w,h=>by simp at hl
 |n+1,s,x::xs,vs,ρ1,σ1,r,hl,hk,re,w,h=>by obtain⟨v,us,rfl,r1,r2⟩:=r.cons_inv;exact⟨v,us,rfl,zLE r2 (by simpa using hl) (by omega) (re.set r1 s) (zLi w (by omega) v) h⟩
theorem zUt{K:W.Frag}{H:Hp}{μ:yC}{k:Nat}{js:List Nat}{σ:St}{ρ ρ4:Env1}{t:Tgt}{d:D}{x:V}{Q:St->Hp->Prop}(ht:tgtK t<=k)(re:RE K H μ (stE k js ρ) (stC k js σ))(rv:RV K H μ d x)(e:zH5 t d (stE k js ρ)=some ρ4)(h:∀σ4,RE K H μ ρ4 σ4->zJU (stC k js σ) σ4->Q σ4 H)(h1:1<=k):tOfT' K t x (stC k js σ) H Q:=by
 cases t with
 |one =>
  cases e;exact h _ (re.set rv 0) (zLi (zIE _) h1 x)
 |many n =>
  unfold zH5 at e;dsimp only at e;split at e
  ·rename_i xs;split at e
   ·rename_i hl;cases e;unfold RV at rv;obtain⟨p,vs,rfl,q,rr⟩:=rv;exact⟨p,vs,rfl,SqT.of q,by rw[<- rr.len];exact hl,zLE rr hl (by have:n<=k:=ht;omega) re (zIE _) h⟩
   ·cases e
  ·cases e
open Classical in
noncomputable def zAd(w:zDb)(t:Tgt)(tc:CT)(c:C)(ρ0:Env1):yM->M (yM)
 |[]=>fun S=>if okW w S then .ok [] S else .bad
 | d::ds=>fun S=>if okW w S then(match zH5 t d ρ0 with
  |some ρ1=>bnd (tc ρ1) (fun k=>if k then bnd (c ρ1) fun y=>bnd (zAd w t tc c ρ0 ds) fun ys=>ret (y::ys)else zAd w t tc c ρ0 ds) S
  | none=>.bad)else .bad
noncomputable def zBe(it:CI)(k:Nat)(js:List Nat)(t:Tgt)(tc:CT)(c:C):C:=fun ρ=>bnd (it ρ) fun p S=>if p.1.length<lim then
  bnd (zAd p.2 t tc c (stE k js ρ) p.1) (fun ys S'=>.ok (.lst S'.length) (S'++[.lst ys])) S
 else .bad
theorem SR.acc{K:W.Frag}{H:Hp}{μ:yC}{S:zA0}{A:Addr}{us ws:List V}(sr:SR K μ S H)(hA:A∉μ)(h:H A=some (.lst us)):SR K μ S (upd H A (.lst ws)) :=
 ⟨sr.len,sr.nd,fun n a o e1 e2=>(sr.obj n a o e1 e2).up (zLp h) ⟨[],by simp⟩ (zAb fun z=>hA (z▸qB4 e1))⟩
theorem Step.acc{K:W.Frag}{H0 H:Hp}{μ0 μ:yC}{A:Addr}{us ws:List V}(st:Step K μ0 μ H0 H)(h0:H0 A=none)(h:H A=some (.lst us)):Step K μ0 μ H0 (upd H A (.lst ws)) :=
 ⟨st.pre,fun b o hb e=>by rw[zAb (zAM e h0)];exact st.fr b o hb e,st.tk.trans (zLp h)⟩
theorem SR.adopt{K:W.Frag}{H:Hp}{μ:yC}{S:zA0}{A:Addr}{us:List V}{acc:yM}(sr:SR K μ S H)(hA:A∉μ)(h:H A=some (.lst us))(r:RVs K H μ acc us):SR K (μ++[A]) (S++[.lst acc]) H:=by
 refine⟨by simp[sr.len],?_,fun n a u e1 e2=>?_⟩
 ·rw[qE8];refine⟨sr.nd,by simp,fun a ha b hb=>?_⟩;simp at hb;subst hb;exact fun z=>hA (z▸ha)
 ·by_cases hn:n<μ.length
  ·rw[qA8 hn]at e1;rw[qA8 (by rw[<- sr.len];exact hn)]at e2;exact(sr.obj n a u e1 e2).up (TF.refl _ _) ⟨[A],rfl⟩ rfl
  ·rw[qA1 (by omega)]at e1;rw[qA1 (by rw[<- sr.len];omega)]at e2;have h1:n - μ.length=0:=by have:=(qA2.mp e1).1;simp at this;omega
   rw[h1]at e1;rw[<- sr.len,h1]at e2;simp at e1 e2;subst e1 e2;exact⟨us,h,RVs.up (TF.refl _ _) ⟨[A],rfl⟩ _ _ r⟩
theorem Step.adopt{K:W.Frag}{H0 H:Hp}{μ0 μ:yC}{A:Addr}(st:Step K μ0 μ H0 H)(h0:H0 A=none):Step K μ0 (μ++[A]) H0 H:=by
 obtain⟨ν,e,n⟩:=st.pre;refine⟨⟨ν++[A],by rw[e,qC2],fun b hb=>?_⟩,st.fr,st.tk⟩;rcases qB2.mp hb with h|h
 ·exact n b h
 ·simp at h;subst h;exact h0
theorem Step.notIn{K:W.Frag}{H H':Hp}{μ μ':yC}{A:Addr}{o:HO}(st:Step K μ μ' H H')(hA:A∉μ)(h:H A=some o):A∉μ':=fun z=>by
 obtain⟨ν,rfl,n⟩:=st.pre;rcases qB2.mp z with q|q
 ·exact hA q
 ·rw[n A q]at h;cases h
inductive zZY(K:W.Frag)(items:yM)(w:zDb)(t:Tgt)(tc:CT)(c:C)(ρ0:Env1)(μ0:yC)(H0:Hp)(A:Addr)(S1:zA0)(ys:yM)(i m:Nat)(us:List V)(H2:Hp):Prop
 |mk (him:i+m=items.length) (hus:us.length<=i) (μ2:yC) (S2:zA0) (acc rest:yM) (sr:SR K μ2 S2 H2) (st:Step K μ0 μ2 H0 H2) (nA:A∉μ2) (hA:H2 A=some (.lst us)) (ra:RVs K H2 μ2 acc us) (el:zAd w t tc c ρ0 (items.drop i) S2=.ok rest S1) (eys:acc++rest=ys)
theorem zOg{σ:St}{H:Hp}{Q:VK}{it:CI}{k:Nat}{js:List Nat}{t:Tgt}{tc:CT}{c:C}(ht:tgtK t<=k)(h1:1<=k)(h:tOf X.K (zBe it k js t tc c) σ H Q):zSJ (tOfI X.K it) k js (tOfT' X.K t) (tOfT X.K tc) (tOf X.K c) σ H Q:=by
 obtain⟨μ,ρ,S,d,S',sr,re,e,y⟩:=h;obtain⟨⟨items,w⟩,S0,e0,f0⟩:=zA8 e;dsimp only at f0;split at f0
 ·rename_i hlim;obtain⟨ys,S1,e1,f1⟩:=zA8 f0;cases f1;refine⟨μ,ρ,S,items,w,S0,sr,re,e0,fun J H0 μ0 sr0 st0 io A hA=>?_⟩;have reC:=(re.up st0).comp k js;obtain⟨srA,stA⟩:=sr0.other (o:=.lst []) hA;have nA:A∉μ0:=sr0.out hA;refine⟨zZY X.K items w t tc c (stE k js ρ) μ0 H0 A S1 ys,
   ⟨items.length,⟨by simp,qG3 _,μ0,S0,[],ys,srA,stA,nA,zAf,RVs.nil,by rw[qL4];exact e1,rfl⟩⟩,?_⟩
  rintro i m us H2 ⟨him,hus,μ2,S2,acc,rest,sr2,st2,nA2,hA2,racc,el,eys⟩;refine And.intro hA2 ?_;by_cases hi:i<items.length
  ·rw[qF9 hi]at el;unfold zAd at el;split at el
   ·rename_i hw;refine .inr ⟨io.go i H2 μ2 S2 sr2 st2 hw hi,zHm (by omega),fun x H3 hy=>?_⟩;obtain⟨d,hd,sr3,st3,rv⟩:=io.yld i H2 μ2 S2 x H3 sr2 st2 hw hi hy;have ed:items[i]=d:=by rw[qA5 hi]at hd;exact Option.some.inj hd
    rw[ed]at el;have hA3:H3 A=some (.lst us):=st3.fr A _ nA2 hA2;have st03:=st2.trans st3 sr3.nd;split at el
    ·rename_i ρ4 h4;refine zUt ht (reC.up st03) rv h4 (fun σ4 re4 wk=>⟨wk,?_⟩) h1;obtain⟨kb,S3,e3,f3⟩:=zA8 el;refine⟨μ2,ρ4,S2,kb,S3,sr3,re4,e3,fun H5 μ5 sr5 st5=>?_⟩;have hA5:H5 A=some (.lst us):=st5.fr A _ nA2 hA3;have nA5:=st5.notIn nA2 hA3;have st05:=st03.trans st5 sr5.nd;have st25:=st3.trans st5 sr5.nd;cases kb with
     |true =>
      rw[if_pos rfl]at f3 ⊢;obtain⟨z,S4,e4,f4⟩:=zA8 f3;obtain⟨zs,S5,e5,f5⟩:=zA8 f4;obtain⟨rfl,rfl⟩:=zAt f5;refine⟨μ5,ρ4,S3,z,S4,sr5,re4.up st5,e4,fun v H6 μ6 sr6 st6 rv6=>?_⟩;have hA6:H6 A=some (.lst us):=st6.fr A _ nA5 hA5;have nA6:=st6.notIn nA5 hA5;have st26:=st25.trans st6 sr6.nd;have tku:TF X.K H6 (upd H6 A (.lst (us++[v]))):=zLp hA6;refine⟨hA6,m - 1,by omega,⟨by omega,by rw[qB3];show us.length+1<=i+1;omega,μ6,S4,acc++[z],zs,sr6.acc nA6 hA6,(st05.trans st6 sr6.nd).acc hA hA6,nA6,zAf,?_,e5,by rw[qC2];exact eys⟩⟩;exact RVs.up tku ⟨[],by simp⟩ _ _ ((RVs.up st26.tk st26.ext _ _ racc).append (.cons rv6 .nil))
     |false =>
      rw[if_neg qB0]at f3 ⊢;exact⟨m - 1,by omega,⟨by omega,by omega,μ5,S3,acc,rest,sr5,st05,nA5,hA5,RVs.up st25.tk st25.ext _ _ racc,f3,eys⟩⟩
    ·cases el
   ·cases el
  ·have ei:i=items.length:=by omega
   subst ei;rw[qM3]at el;unfold zAd at el;split at el
   ·rename_i hw;cases el;rw[qH6]at eys;subst eys;refine .inl ⟨io.stop H2 μ2 _ sr2 st2 hw,?_⟩;have hA0:H A=none:=by
     cases q:H A with
     |none=>rfl
     |some o =>
      by_cases hm:A∈μ
      ·exact absurd (st0.mem hm) nA
      ·rw[st0.fr A o hm q]at hA;cases hA
    have sr3:=sr2.adopt nA2 hA2 racc;refine y (.ref A) H2 (μ2++[A]) sr3 ((st0.trans st2 sr2.nd).adopt hA0) ?_;unfold RV;exact⟨A,rfl,by rw[<- sr2.len,qA1 (qB1 _),qK3];rfl⟩
   ·cases el
 ·cases f0
end
open PySem PySem.Spec PyProof.Rows
structure Sc where
 N:yH
 names:List (Str×NameKind)
 fn:Option Str
noncomputable def bltL:yH:=["len","range","list","tuple","min","max","zip","isinstance","all","any","int","bool","enumerate","str","sorted","dict","sum","repr","set","abs"]
structure MgOk(ar:Str->yK)(mg:Str->yF):Prop where
 b:∀y:Str,y∈bltL->ar y=none->mg y=none
structure XOk(X:Cx)(sc:Sc)(ar:Str->yK)(cl:Str->yM->M D)(k:Nat):Prop where
 calm:X.calm=true
 N:X.N=sc.N
 nd:sc.N.Nodup
 gl:∀x,sc.names.lookup x=some .globalImplicit->Gl X x
 loc:∀x,sc.names.lookup x=some .local->X.env.scope.names.lookup x=some .local
 cel:∀x,sc.names.lookup x=some .cell->X.env.scope.names.lookup x=some .cell
 fre:∀x,sc.names.lookup x=some .free->X.env.scope.names.lookup x=some .cell∨X.env.scope.names.lookup x=some .free
 fnn:sc.fn.isSome=true->∀x,X.fn x=true
 room:Room k X.A
 xe:X.xe=fun _ _=>False
 blt:MgOk ar X.mg
 fns:∀x n,ar x=some n->(∃ps,zHH X.prog X.w X.K X.mg X.base x ps k (spOf X.K (cl x) n))/\∀ds S d S',cl x ds S=.ok d S'->ds.length=n
section
variable {X:Cx}{sc:Sc}{ar:Str->yK}{cl:Str->yM->M D}{k:Nat}
theorem XOk.vis(h:XOk X sc ar cl k){x:Str}(hv:sc.names.lookup x=some .local∨sc.names.lookup x=some .cell∨sc.names.lookup x=some .free):Vis X.env.scope x:=by
 rcases hv with q|q|q
 ·exact .inl (h.loc x q)
 ·exact .inr (.inl (h.cel x q))
 ·exact .inr (h.fre x q)
noncomputable def zU3(o:Option NameKind):Bool:=o == some .local||o == some .cell||o == some .free
theorem zRb{o:Option NameKind}(h:zU3 o=true):o=some .local∨o=some .cell∨o=some .free:=by
 unfold zU3 at h;simp only[qI3,beq_iff_eq]at h;rcases h with(h|h)| h
 ·exact .inl h
 ·exact .inr (.inl h)
 ·exact .inr (.inr h)
noncomputable def zFd:yH->Str->Nat->yK
 |[],_,_=>none
 |y::r,x,i=>if y=x then some i else zFd r x (i+1)
theorem zDL:∀{N:yH}{x:Str}{i j:Nat},zFd N x i=some j->i<=j/\N[j - i]?=some x
 |[],_,_,_,h=>by cases h
 |y::r,x,i,j,h=>by
  unfold zFd at h;split at h
  ·rename_i e;cases h;subst e;exact⟨qB1 _,by simp⟩
  ·obtain⟨h1,h2⟩:=zDL h;refine⟨by omega,?_⟩;have e:j - i=(j - (i+1))+1:=by omega
   rw[e,qD6];exact h2
noncomputable def zUm(sc:Sc)(ar:Str->yK)(x:Str):Option C:=match zFd sc.N x 0 with
 |some i=>if zU3 (sc.names.lookup x)&&!(x == ("__debug__":Str))&&!(x == ("__classdict__":Str))then some (cVar i)else none
 |none=>if sc.names.lookup x=some .globalImplicit/\ar x=none then
   (if x=("int":Str)then some (cCon (.ty "int"))else if x=("bool":Str)then some (cCon (.ty "bool"))else if x=("tuple":Str)then some (cCon (.ty "tuple"))
    else if x=("list":Str)then some (cCon (.ty "list"))else if x=("str":Str)then some (cCon (.ty "str"))
    else none)
  else none
theorem zVr(h:XOk X sc ar cl k){x:Str}{pos:Pos}{c:C}(e:zUm sc ar x=some c):PE X (.Name x pos) (tOf X.K c):=by
 unfold zUm at e;split at e
 ·rename_i i hi;split at e
  ·rename_i hv;cases e;simp only[qC9,qO0]at hv;obtain⟨⟨h1,h2⟩,h3⟩:=hv;have:=(zDL hi).2;exact zVj (zVI (by rw[h.N];exact this) (h.vis (zRb h1)) h2 h3)
  ·cases e
 ·split at e
  ·rename_i hg;have g:=h.gl x hg.1;have ty:∀(n:String) (b:bootBuiltins x=some (.type n)) (hn:x ≠ "__name__") (hd:(x == ("__debug__":Str))=false) (hm:X.mg x=none),PE X (.Name x pos) (tOf X.K (cCon (.ty n))):=fun n b hn hd hm =>
    zIV (zTy (v:=.ty n) g hm b rfl hn hd) fun K H μ=>by unfold RV;rfl
   split at e
   ·rename_i q;subst q;cases e;exact ty "int" zSr (by decide +kernel) (by decide +kernel) (h.blt.b _ (by decide +kernel) hg.2)
   ·split at e
    ·rename_i q;subst q;cases e;exact ty "bool" zUs (by decide +kernel) (by decide +kernel) (h.blt.b _ (by decide +kernel) hg.2)
    ·split at e
     ·rename_i q;subst q;cases e;exact ty "tuple" zM6 (by decide +kernel) (by decide +kernel) (h.blt.b _ (by decide +kernel) hg.2)
     ·split at e
      ·rename_i q;subst q;cases e;exact ty "list" zL4 (by decide +kernel) (by decide +kernel) (h.blt.b _ (by decide +kernel) hg.2)
      ·split at e
       ·rename_i q;subst q;cases e;exact ty "str" zXg (by decide +kernel) (by decide +kernel) (h.blt.b _ (by decide +kernel) hg.2)
       ·cases e
  ·cases e
noncomputable def zSq:Const->Option C
 |.none=>some (cCon .non)
 |.bool b=>some (cCon (.bl b))
 |.int i=>some (cCon (.int i))
 |.str x=>some (cCon (.str x))
 |_=>none
theorem zT5{v:Const}{j:Nat}{pos:Pos}{c:C}(e:zSq v=some c):PE X (.Constant v j pos) (tOf X.K c):=by
 cases v with
 |none=>cases e;exact zIV zVN fun _ _ _=>zFU
 |bool b=>cases e;exact zIV zYP fun _ _ _=>zDp
 |int i=>cases e;exact zIV zVP fun _ _ _=>zBo
 |str x=>cases e;exact zIV zVK fun _ _ _=>zRZ
 |_=>cases e
noncomputable def zWg:Operator->Option (D->D->M D)
 |.Add=>some oAdd
 |.Sub=>some (oInt fun i j=>i - j)
 |.Mult=>some oMul
 |.Mod=>some oMod
 |.FloorDiv=>some oDiv
 |.Pow=>some oPow
 |.LShift=>some oShl
 |.RShift=>some oShr
 |.BitAnd=>some (oInt Builtin.bitAnd)
 |.BitOr=>some (oInt Builtin.bitOr)
 |.BitXor=>some (oInt Builtin.bitXor)
 |_=>none
theorem s_op{op:Operator}{o:D->D->M D}(e:zWg op=some o):OpS X.K (rAny X (binaryOp op)) o:=by
 cases op with
 |Add=>cases e;exact zW0
 |Sub=>cases e;exact zVS
 |Mult=>cases e;exact zVW
 |Mod=>cases e;exact zVX
 |FloorDiv=>cases e;exact zVY
 |Pow=>cases e;exact zVV
 |LShift=>cases e;exact zVU
 |RShift=>cases e;exact zVT
 |BitAnd=>cases e;exact zVZ
 |BitOr=>cases e;exact zYS
 |BitXor=>cases e;exact zVR
 |_=>cases e
noncomputable def zQR:CmpOp->Option (D->D->M D)
 |.Eq=>some oEq
 |.NotEq=>some oNe
 |.Lt=>some oLt
 |.LtE=>some (oCmp fun i j=>decide (i<=j))
 |.Gt=>some (oCmp fun i j=>decide (j<i))
 |.GtE=>some (oCmp fun i j=>decide (j<=i))
 |.Is=>some oIs
 |.IsNot=>some zHj
 |.In=>some (oIn false)
 |.NotIn=>some (oIn true)
theorem zMj(h:Room k X.A){op:CmpOp}{o:D->D->M D}(e:zQR op=some o):OpS X.K (rAny X (compareOp op)) o:=by
 have h1:=h.units;have h2:=h.units0;have h3:X.A.units+1<cLine:=zRk h;cases op with
 |Eq=>cases e;exact zZ1 h1
 |NotEq=>cases e;exact zYT h1
 |Lt=>cases e;exact zYU h2
 |LtE=>cases e;exact zYV
 |Gt=>cases e;exact zYZ
 |GtE=>cases e;exact zZ0
 |Is=>cases e;exact zYX
 |IsNot=>cases e;exact zQO
 |In=>cases e;exact zYY h1
 |NotIn=>cases e;exact zQN h1
noncomputable def zBa:Expr->Bool
 |.Starred _ _=>false
 |_=>true
theorem zAj{a:Expr}{es:yE}{env:Env}(h:zBa a=true):starEach (a::es) env=(false,eval a env)::starEach es env:=by cases a<;>first|rfl|cases h
noncomputable def zA1?(f:Expr->Option C):yE->Option (List C)
 |[]=>some []
 |e::es=>if zBa e then(f e).bind fun c=>(zA1? f es).map (c::·)else none
def zDF(X:Cx)(f:Expr->Option C):Prop:=∀e c,f e=some c->PE X e (tOf X.K c)
variable {f:Expr->Option C}
theorem zDV(hf:zDF X f):∀{es:yE}{cs:List C},zA1? f es=some cs->PA X es (tOfA X.K (zA1 cs))/\(∀e∈es,zBa e=true)
 |[],cs,e=>by cases e;exact⟨zNU,by simp⟩
 |a::es,cs,e=>by
  unfold zA1? at e;split at e
  ·rename_i hs;obtain⟨c,e1,e⟩:=qA3.mp e;obtain⟨cs',e2,e⟩:=qA4.mp e;subst e;obtain⟨h1,h2⟩:=zDV hf e2;exact⟨zHP (hf a c e1) h1 (zAj hs),fun e he=>by
    rcases qC0.mp he with rfl|he
    ·exact hs
    ·exact h2 e he⟩
  ·cases e
theorem zEP{es:yE}{env:Env}{pos:Pos}(h:∀e∈es,zBa e=true):(backTo pos (starEach es env)).any (·.1)=false:=by
 induction es with
 |nil=>rfl
 |cons a es ih =>
  rw[zAj (h a (by simp))];show(false||(backTo pos (starEach es env)).any (·.1))=false;rw[ih fun e he=>h e (by simp[he])];rfl
noncomputable def zGe:Expr->Bool
 |.Slice _ _ _ _=>true
 |_=>false
theorem zTs{b:Expr}(h:zGe b=false):zLd b:=by cases b<;>first|(intro o i;rfl)| cases h
noncomputable def zH4?(f:Expr->Option C):Option Expr->Option CO
 |none=>some zF4
 |some e=>(f e).map zH4
theorem zRY(hf:zDF X f){e:Option Expr}{c:CO}(h:zH4? f e=some c):PO X e (tOfO X.K c):=by
 cases e with
 |none=>cases h;exact zSR
 |some a =>
  obtain⟨ca,e1,e2⟩:=qA4.mp h;subst e2;exact zSQ (hf a ca e1)
noncomputable def cSub(f:Expr->Option C)(a b:Expr):Option C:=match b with
 |.Slice lo hi none _=>(f a).bind fun ca=>(zH4? f lo).bind fun cl=>(zH4? f hi).map fun ch=>cSl oSl ca cl ch
 |_=>if zGe b then none else(f a).bind fun ca=>(f b).map fun cb=>cBin oIx ca cb
theorem zYw(h:Room k X.A)(hf:zDF X f){a b:Expr}{pos:Pos}{c:C}(e:cSub f a b=some c):PE X (.Subscript a b pos) (tOf X.K c):=by
 unfold cSub at e;split at e
 ·obtain⟨ca,e1,e⟩:=qA3.mp e;obtain⟨cl,e2,e⟩:=qA3.mp e;obtain⟨ch,e3,e⟩:=qA4.mp e;subst e;exact zQm zYp (hf a ca e1) (zRY hf e2) (zRY hf e3)
 ·split at e
  ·cases e
  ·rename_i hs;obtain⟨ca,e1,e⟩:=qA3.mp e;obtain⟨cb,e2,e⟩:=qA4.mp e;subst e;exact zYu (zYW (zRk h)) (hf a ca e1) (hf b cb e2) (zTs (by simpa using hs))
noncomputable def zEw(f:Expr->Option C)(a:Expr)(ops:List CmpOp)(bs:yE):Option C:=match ops,bs with
 |[op],[b]=>if behindInMarks op b then none else(zQR op).bind fun o=>(f a).bind fun ca=>(f b).map fun cb=>cBin o ca cb
 |[op,op'],[b,c]=>if lastMarks [op,op'] [b,c]then none else(zQR op).bind fun o=>(zQR op').bind fun o'=>(f a).bind fun ca=>(f b).bind fun cb=>(f c).map fun cc=>zHB o o' ca cb cc
 |_,_=>none
theorem zNW(h:Room k X.A)(hf:zDF X f){a:Expr}{ops:List CmpOp}{bs:yE}{pos:Pos}{c:C}(e:zEw f a ops bs=some c):PE X (.Compare a ops bs pos) (tOf X.K c):=by
 unfold zEw at e;split at e
 ·rename_i op b;split at e
  ·cases e
  ·rename_i hm;obtain⟨o,e0,e⟩:=qA3.mp e;obtain⟨ca,e1,e⟩:=qA3.mp e;obtain⟨cb,e2,e⟩:=qA4.mp e;subst e;exact zVn (zMj h e0) (hf a ca e1) (hf b cb e2) (by simpa using hm)
 ·rename_i op op' b c;split at e
  ·cases e
  ·rename_i hm;obtain⟨o,e0,e⟩:=qA3.mp e;obtain⟨o',e0',e⟩:=qA3.mp e;obtain⟨ca,e1,e⟩:=qA3.mp e;obtain⟨cb,e2,e⟩:=qA3.mp e;obtain⟨cc,e3,e⟩:=qA4.mp e;subst e;exact zQo (zMj h e0) (zMj h e0') (hf a ca e1) (hf b cb e2) (hf c cc e3) (by simpa using hm)
 ·cases e
noncomputable def zHI(f:Expr->Option C)(a:Expr)(ops:List CmpOp)(bs:yE):Option CT:=match ops,bs with
 |ops,bs=>(zEw f a ops bs).map zAx
theorem zMi(h:Room k X.A)(hf:zDF X f){a:Expr}{ops:List CmpOp}{bs:yE}{pos:Pos}{c:CT}(e:zHI f a ops bs=some c):PT X (.Compare a ops bs pos) (tOfT X.K c):=by
 unfold zHI at e;split at e
 ·obtain⟨cc,e1,e⟩:=qA4.mp e;subst e;unfold zEw at e1;split at e1
  ·split at e1
   ·cases e1
   ·rename_i hm;obtain⟨o,e0,e⟩:=qA3.mp e1;obtain⟨ca,g1,e⟩:=qA3.mp e;obtain⟨cb,e2,e⟩:=qA4.mp e;subst e;exact zV5 (zMj h e0) (hf _ ca g1) (hf _ cb e2) (by simpa using hm)
  ·split at e1
   ·cases e1
   ·rename_i hm;obtain⟨o,e0,e⟩:=qA3.mp e1;obtain⟨o',e0',e⟩:=qA3.mp e;obtain⟨ca,g1,e⟩:=qA3.mp e;obtain⟨cb,e2,e⟩:=qA3.mp e;obtain⟨cc,e3,e⟩:=qA4.mp e;subst e;exact zQe (zMj h e0) (zMj h e0') (hf _ ca g1) (hf _ cb e2) (hf _ cc e3) (by simpa using hm)
  ·cases e1
noncomputable def zJ2:Expr->Bool
 |.Name _ _=>true
 |.Subscript _ _ _=>true
 |.Call _ (_::_) _ _=>true
 |_=>false
theorem zUv{o:Expr}{name:Str}{env:Env}(h:zJ2 o=true):attributeBase o name env (eval o env)=eval o env:=by
 cases o with
 |Call f args kw pos =>
  cases args with
  |nil=>cases h
  |cons a r=>cases f<;>rfl
 |_=>first|rfl|cases h
noncomputable def zRM(x:Str):Option (yM->M D) :=
 if x=("len":Str)then some fLen else
 if x=("isinstance":Str)then some zBi else
 if x=("tuple":Str)then some zCk else
 if x=("list":Str)then some zP8 else
 if x=("min":Str)then some fMin else
 if x=("max":Str)then some fMax else
 if x=("all":Str)then some (zAm fun bs=>bs.all id)else
 if x=("any":Str)then some (zAm fun bs=>bs.any id)else
 if x=("int":Str)then some fInt else
 if x=("sorted":Str)then some zAR else
 none
noncomputable def zJ1:Expr->Option (yE)
 |.Call (.Name x _) as [] _=>if x=("range":Str)then some as else none
 |_=>none
noncomputable def zCA:yM->M D:=fun xs S=>match xs with
 |[.int j]=>if -4611686018427387904<=j/\j<4611686018427387904/\j<=1000 then .ok (.lst S.length) (S++[.lst (upD 0 j.toNat)])else .bad
 |[.int i,.int j]=>if -4611686018427387904<=i/\i<4611686018427387904/\-4611686018427387904<=j/\j<4611686018427387904/\j - i<=1000 then .ok (.lst S.length) (S++[.lst (upD i (j - i).toNat)])else .bad
 |_=>.bad
noncomputable def zPL(sc:Sc)(ar:Str->yK)(cl:Str->yM->M D)(f:Expr->Option C)(x:Str)(es:yE):Option C :=
 if sc.names.lookup x=some .globalImplicit then
  match ar x with
  |some n=>if es.length=n/\es≠[]/\(x == ("__debug__":Str))=false then(zA1? f es).map fun cs=>cApp (cl x) (zA1 cs)else none
  |none=>match es with
   |[e] =>
    match zJ1 e with
    |some as=>if x=("list":Str)/\ar "range"=none/\sc.names.lookup ("range":Str)=some .globalImplicit/\(as.length=1∨as.length=2)then(zA1? f as).map fun cs=>cApp zCA (zA1 cs)else none
    |none=>(zRM x).bind fun o=>(zA1? f es).map fun cs=>cApp o (zA1 cs)
   |_::_=>(zRM x).bind fun o=>(zA1? f es).map fun cs=>cApp o (zA1 cs)
   |[]=>none
 else none
theorem zQ8{K:W.Frag}{H:Hp}{μ:yC}(lo:Int)(n:Nat):RVs K H μ (upD lo n) (upV lo n):=by
 unfold upD upV;generalize List.range n=l
 induction l with
 |nil=>exact .nil
 |cons a r ih=>exact .cons zBo ih
set_option maxHeartbeats 2000000 in
theorem zVt(h:XOk X sc ar cl k){x:Str}(hx:sc.names.lookup x=some .globalImplicit)(hn:ar x=none){o:yM->M D}(eo:zRM x=some o){e:Expr}{es:yE}{cs:List C}(ha:PA X (e::es) (tOfA X.K (zA1 cs)))(hs:∀a∈e::es,zBa a=true){p pos:Pos}:PE X (.Call (.Name x p) (e::es) [] pos) (tOf X.K (cApp o (zA1 cs))):=by
 have g:=h.gl x hx;have s1:=zAj (es:=es) (env:=X.env) (hs e (by simp));have s2:(backTo pos (starEach es X.env)).any (·.1)=false:=zEP fun a ha=>hs a (by simp[ha]);unfold zRM at eo;have B:∀(id:String) (hb:bootBuiltins x=some (.builtin id)) (hm:X.mg x=none) (hne:x ≠ "__name__") (hd:(x == ("__debug__":Str))=false) (o:yM->M D),zEF X.K (cAny X (.builtin id)) o->PE X (.Call (.Name x p) (e::es) [] pos) (tOf X.K (cApp o (zA1 cs))):=fun id hb hm hne hd o ho =>
  (zQL zIn g hm hb ha hne hd s1 s2).weak (zS6 ho)
 have T:∀(id:String) (hb:bootBuiltins x=some (.type id)) (hm:X.mg x=none) (hne:x ≠ "__name__") (hd:(x == ("__debug__":Str))=false) (o:yM->M D),zEF X.K (cAny X (.type id)) o->PE X (.Call (.Name x p) (e::es) [] pos) (tOf X.K (cApp o (zA1 cs))):=fun id hb hm hne hd o ho =>
  (zFX zIn g hm hb ha hne hd s1 s2).weak (zS6 ho)
 split at eo
 ·rename_i q;subst q;cases eo;exact B "len" zXj (h.blt.b _ (by decide +kernel) hn) (by decide +kernel) (by decide +kernel) _ zXa
 split at eo
 ·rename_i q;subst q;cases eo;exact B "isinstance" zIo (h.blt.b _ (by decide +kernel) hn) (by decide +kernel) (by decide +kernel) _ zUi
 split at eo
 ·rename_i q;subst q;cases eo;exact T "tuple" zM6 (h.blt.b _ (by decide +kernel) hn) (by decide +kernel) (by decide +kernel) _ zRE
 split at eo
 ·rename_i q;subst q;cases eo;exact T "list" zL4 (h.blt.b _ (by decide +kernel) hn) (by decide +kernel) (by decide +kernel) _ zUh
 split at eo
 ·rename_i q;subst q;cases eo;exact B "min" zXh (h.blt.b _ (by decide +kernel) hn) (by decide +kernel) (by decide +kernel) _ (zX8 h.calm)
 split at eo
 ·rename_i q;subst q;cases eo;exact B "max" zXi (h.blt.b _ (by decide +kernel) hn) (by decide +kernel) (by decide +kernel) _ (zX9 h.calm)
 split at eo
 ·rename_i q;subst q;cases eo;exact B "all" zXl (h.blt.b _ (by decide +kernel) hn) (by decide +kernel) (by decide +kernel) _ (zXd h.calm)
 split at eo
 ·rename_i q;subst q;cases eo;exact B "any" zXk (h.blt.b _ (by decide +kernel) hn) (by decide +kernel) (by decide +kernel) _ (zXc h.calm)
 split at eo
 ·rename_i q;subst q;cases eo;exact T "int" zSr (h.blt.b _ (by decide +kernel) hn) (by decide +kernel) (by decide +kernel) _ zXb
 split at eo
 ·rename_i q;subst q;cases eo;exact B "sorted" (by decide +kernel) (h.blt.b _ (by decide +kernel) hn) (by decide +kernel) (by decide +kernel) _ (zPn h.calm h.room.units)
 cases eo
theorem zT3(h:XOk X sc ar cl k)(hx:sc.names.lookup ("list":Str)=some .globalImplicit)(hn:ar "list"=none)(hr:sc.names.lookup ("range":Str)=some .globalImplicit)(hnr:ar "range"=none){as:yE}{cs:List C}(ha:PA X as (tOfA X.K (zA1 cs)))(hs:∀a∈as,zBa a=true)(hl:as.length=1∨as.length=2){p pos p2 pos2:Pos}:
  PE X (.Call (.Name "list" p) [.Call (.Name "range" p2) as [] pos2] [] pos) (tOf X.K (cApp zCA (zA1 cs))):=by
 have g1:=h.gl _ hx;have g2:=h.gl _ hr;have R:PE X (.Call (.Name "range" p2) as [] pos2) (tCB (cAny X (.type "range")) (tOfA X.K (zA1 cs))):=by
  cases as with
  |nil=>simp at hl
  |cons e es=>exact zFX zIn g2 (h.blt.b _ (by decide +kernel) hnr) zRL ha (by decide +kernel) (by decide +kernel) (zAj (hs e (by simp))) (zEP fun a ha=>hs a (by simp[ha]))
 have L:=zFX (p:=p) (pos:=pos) (zIn (X:=X) (f:=.type "list")) g1 (h.blt.b _ (by decide +kernel) hn) zL4 (zO9 R zS5 rfl) (by decide +kernel) (by decide +kernel) rfl rfl;refine L.weak ?_;rintro σ H Q ⟨μ,ρ,S,d,S',sr,re,e,y⟩;obtain⟨xs,S1,e1,e⟩:=zA8 e;refine⟨μ,ρ,S,xs,S1,sr,re,e1,fun vs H1 μ1 sr1 st1 r1=>?_⟩;have y1:=y.shift st1;have fin:∀(i j:Int),-4611686018427387904<=i->i<4611686018427387904->-4611686018427387904<=j->j<4611686018427387904->j - i<=1000->Yld X.K μ1 H1 (.lst S1.length) (S1++[.lst (upD i (j - i).toNat)]) Q->∀q,H1 q=none->cAny X (.type "list") [.ref q] (upd H1 q (.rng i j)) Q:=by intro i j b1 b2 b3 b4 b5 y1 q hq;obtain⟨sr2,st2⟩:=sr1.other (o:=.rng i j) hq;exact⟨_,zIm h.calm,q,i,j,rfl,zAf,b1,b2,b3,b4,by omega,fun l hl=>(y1.shift st2).newL sr2 hl (zQ8 _ _)⟩
 unfold zCA at e;split at e
 ·rename_i j;split at e
  ·rename_i hb;cases e;obtain⟨v,rfl,r⟩:=r1.one;unfold RV at r;subst r;refine⟨_,zL1,j,rfl,fun q hq=>?_⟩;have:=fin 0 j (by decide) (by decide) hb.1 hb.2.1 (by omega) (by rw[Int.sub_zero];exact y1) q hq;exact this
  ·cases e
 ·rename_i i j;split at e
  ·rename_i hb;cases e;obtain⟨v,u,rfl,r,r'⟩:=r1.two;unfold RV at r r';subst r r';exact⟨_,zL0,i,j,rfl,fun q hq=>fin i j hb.1 hb.2.1 hb.2.2.1 hb.2.2.2.1 hb.2.2.2.2 y1 q hq⟩
  ·cases e
 ·cases e
theorem zT7(h:XOk X sc ar cl k)(hf:zDF X f){x:Str}{es:yE}{c:C}{p pos:Pos}(e:zPL sc ar cl f x es=some c):PE X (.Call (.Name x p) es [] pos) (tOf X.K c):=by
 unfold zPL at e;split at e
 ·rename_i hx;split at e
  ·rename_i n hn;split at e
   ·rename_i hc;obtain⟨hl,hne,hd⟩:=hc;obtain⟨cs,e1,e⟩:=qA4.mp e;subst e;obtain⟨h1,h2⟩:=zDV hf e1;obtain⟨⟨ps,Ca⟩,hlen⟩:=h.fns x n hn;cases es with
    |nil=>exact absurd rfl hne
    |cons a es =>
     exact(zQK (p:=p) (pos:=pos) Ca h.room (h.gl x hx) h1 (qB1 _) hd (zAj (h2 a (by simp))) (zEP fun b hb=>h2 b (by simp[hb]))).weak (zTF hlen)
   ·cases e
  ·rename_i hn;split at e
   ·rename_i a;split at e
    ·rename_i as ha;split at e
     ·rename_i hc;obtain⟨rfl,hnr,hr,hl⟩:=hc;obtain⟨cs,e1,e⟩:=qA4.mp e;subst e;obtain⟨h1,h2⟩:=zDV hf e1;unfold zJ1 at ha;split at ha
      ·rename_i x' p' as' pos';split at ha
       ·rename_i q;subst q;cases ha;exact zT3 h hx hn hr hnr h1 h2 hl
       ·cases ha
      ·cases ha
     ·cases e
    ·obtain⟨o,e0,e⟩:=qA3.mp e;obtain⟨cs,e1,e⟩:=qA4.mp e;subst e;obtain⟨h1,h2⟩:=zDV hf e1;exact zVt h hx hn e0 h1 h2
   ·obtain⟨o,e0,e⟩:=qA3.mp e;obtain⟨cs,e1,e⟩:=qA4.mp e;subst e;obtain⟨h1,h2⟩:=zDV hf e1;exact zVt h hx hn e0 h1 h2
   ·cases e
 ·cases e
end
open PySem PySem.Spec PyProof.Rows
section
variable {X:Cx}{sc:Sc}{ar:Str->yK}{cl:Str->yM->M D}{k:Nat}{f:Expr->Option C}
noncomputable def zWp(m:Str)(co:C):Option C :=
 none
noncomputable def zWo(m:Str)(co ca:C):Option C :=
 if m=("append":Str)then some (zGD "list" (zG3 zDy) co (zA1 [ca]))else
 if m=("extend":Str)then some (zGD "list" zE5 co (zA1 [ca]))else
 none
noncomputable def zWn(m:Str)(co ca cb:C):Option C :=
 if m=("insert":Str)then some (zGD "list" (zG3 zF0) co (zA1 [ca,cb]))else
 if m=("setdefault":Str)then some (zGD "dict" zHZ co (zA1 [ca,cb]))else
 none
noncomputable def zL2(f:Expr->Option C)(o:Expr)(m:Str)(es:yE)(apos cpos:Pos):Option C :=
 if zJ2 o&&(apos.endLine == cpos.line)then(f o).bind fun co=>match es with
  |[]=>zWp m co
  |[a]=>if zBa a then(f a).bind fun ca=>zWo m co ca else none
  |[a,b]=>if zBa a&&zBa b then(f a).bind fun ca=>(f b).bind fun cb=>zWn m co ca cb else none
  |_=>none
 else none
theorem zQq(hr0:Room k X.A)(hf:zDF X f){o:Expr}{m:Str}{es:yE}{apos cpos:Pos}{c:C}(e:zL2 f o m es apos cpos=some c):PE X (.Call (.Attribute o m apos) es [] cpos) (tOf X.K c):=by
 unfold zL2 at e;split at e
 ·rename_i hc;rw[qC9]at hc;obtain⟨hr,hl⟩:=hc;obtain⟨co,e0,g⟩:=qA3.mp e;clear e;have hb:∀name,attributeBase o name X.env (eval o X.env)=eval o X.env:=fun name=>zUv hr;split at g
  ·unfold zWp at g;cases g
  ·rename_i a;split at g
   ·rename_i hs;obtain⟨ca,e1,g'⟩:=qA3.mp g;clear g;have s1:=zAj (es:=[]) (env:=X.env) hs;have hA:PA X [a] (tOfA X.K (zA1 [ca])):=zHP (hf a ca e1) zNU s1;have hfew:((backTo cpos (starEach [a] X.env)).all (fun x=>!x.1)&&(backToKw cpos (keywordEach [] X.env)).all (fun x=>x.1.isSome)
     && decide ([a].length+([]:List Keyword).length+(if([]:List Keyword).isEmpty then 0 else 1)<30))=true:=by rw[s1];rfl
    unfold zWo at g';split at g'
    ·rename_i q;subst q;cases g';exact zHN PySem.F.plainAttrs_list PySem.F.slot_list_append PySem.F.type_list_append zOp (hf o co e0) hA (hb _) hfew hl s1 rfl
    split at g'
    ·rename_i q;subst q;cases g';exact zHN PySem.F.plainAttrs_list PySem.F.slot_list_extend PySem.F.type_list_extend zOo (hf o co e0) hA (hb _) hfew hl s1 rfl
    cases g'
   ·cases g
  ·rename_i a b;split at g
   ·rename_i hs;rw[qC9]at hs;obtain⟨ca,e1,g1⟩:=qA3.mp g;obtain⟨cb,e2,g'⟩:=qA3.mp g1;clear g g1;have s2:=zAj (es:=[]) (env:=X.env) hs.2;have s1:=zAj (es:=[b]) (env:=X.env) hs.1;have hA:PA X [a,b] (tOfA X.K (zA1 [ca,cb])):=zHP (hf a ca e1) (zHP (hf b cb e2) zNU s2) s1;have hfew:((backTo cpos (starEach [a,b] X.env)).all (fun x=>!x.1)&&(backToKw cpos (keywordEach [] X.env)).all (fun x=>x.1.isSome)
     && decide ([a,b].length+([]:List Keyword).length+(if([]:List Keyword).isEmpty then 0 else 1)<30))=true:=by rw[s1,s2];rfl
    unfold zWn at g';split at g'
    ·rename_i q;subst q;cases g';exact zHN PySem.F.plainAttrs_list PySem.F.slot_list_insert PySem.F.type_list_insert zOn (hf o co e0) hA (hb _) hfew hl s1 (by rw[s2];rfl)
    split at g'
    ·rename_i q;subst q;cases g';exact zHN PySem.F.plainAttrs_dict PySem.F.slot_dict_setdefault PySem.F.type_dict_setdefault (zTL (zRk hr0)) (hf o co e0) hA (hb _) hfew hl s1 (by rw[s2];rfl)
    cases g'
   ·cases g
  ·cases g
 ·cases e
noncomputable def zN7:C:=fun _ S=>.ok (.dct S.length) (S++[.dk []])
theorem zT2{pos:Pos}:PE X (.Dict [] [] pos) (tOf X.K zN7):=zQI.weak (by
 rintro σ H Q ⟨μ,ρ,S,d,S',sr,re,e,y⟩;unfold zN7 at e;cases e;intro p hp;obtain⟨s1,s2⟩:=sr.push (o:=.dK []) (o':=.dk []) hp ⟨[],zAf,RKs.nil⟩;exact y _ _ _ s1 s2 (by unfold RV;exact⟨p,rfl,by rw[<- sr.len,qA1 (qB1 _),qK3];rfl⟩))
noncomputable def zRJ(a b:C):C:=fun ρ=>bnd (a ρ) fun x=>bnd (b ρ) fun y S=>match zDa x with
 |some k=>.ok (.dct S.length) (S++[.dk [(k,y)]])
 |none=>.bad
theorem zT1{a b:Expr}{ca cb:C}{pos:Pos}(ha:PE X a (tOf X.K ca))(hb:PE X b (tOf X.K cb)):PE X (.Dict [some a] [b] pos) (tOf X.K (zRJ ca cb)):=(zTu (zQA ha hb zTp) rfl rfl (by simp) (by simp)).weak (by
 rintro σ H Q ⟨μ,ρ,S,d,S',sr,re,e,y⟩;obtain⟨x,S1,e1,f1⟩:=zA8 e;obtain⟨z,S2,e2,f2⟩:=zA8 f1;split at f2
 ·rename_i key hk;cases f2;intro p hp;obtain⟨s1,s2⟩:=sr.other (o:=.dK []) hp;refine⟨μ,ρ,S,x,S1,s1,re.up s2,e1,fun v H1 μ1 sr1 st1 r1=>⟨μ1,ρ,S1,z,S2,sr1,(re.up s2).up st1,e2,fun u H2 μ2 sr2 st2 r2=>?_⟩⟩;have n0:p∉μ:=sr.out hp;have q0:upd H p (.dK []) p=some (.dK []):=zAf;have q1:=st1.fr p _ n0 q0;have n1:=st1.notIn n0 q0;have q2:=st2.fr p _ n1 q1;have n2:=st2.notIn n1 q1;have ev:=zGd hk r1;subst ev;refine⟨q2,[(key,u)],rfl,by simp,?_⟩;have e3:zG1 [] [(key,u)]=[(key,u)]:=by simp[zG1,putK]
  rw[e3];have tk:TF X.K H2 (upd H2 p (.dK [(key,u)])):=zEc q2 (fun _ z=>by cases z) (fun _ _ z=>by cases z);have st12:=st1.trans st2 sr2.nd;have st02:Step X.K μ μ2 H H2:=s2.trans st12 sr2.nd;have sr3:SR X.K (μ2++[p]) (S2++[.dk [(key,z)]]) (upd H2 p (.dK [(key,u)])):=by
   refine⟨by simp[sr2.len],?_,fun n a w g1 g2=>?_⟩
   ·rw[qE8];refine⟨sr2.nd,by simp,fun a ha b hb=>?_⟩;simp at hb;subst hb;exact fun z=>n2 (z▸ha)
   ·by_cases hn:n<μ2.length
    ·rw[qA8 hn]at g1;rw[qA8 (by rw[<- sr2.len];exact hn)]at g2;exact(sr2.obj n a w g1 g2).up tk ⟨[p],rfl⟩ (zAb fun z=>n2 (z▸qB4 g1))
    ·rw[qA1 (by omega)]at g1;rw[qA1 (by rw[<- sr2.len];omega)]at g2;have h1:n - μ2.length=0:=by have:=(qA2.mp g1).1;simp at this;omega
     rw[h1]at g1;rw[<- sr2.len,h1]at g2;simp at g1 g2;subst g1 g2;exact⟨[(key,u)],zAf,RKs.cons (RV.up tk ⟨[p],rfl⟩ _ _ r2) .nil⟩
  have st3:Step X.K μ (μ2++[p]) H (upd H2 p (.dK [(key,u)])):=by
   obtain⟨ν,e4,n⟩:=st02.pre;refine⟨⟨ν++[p],by rw[e4,qC2],fun b hb=>?_⟩,fun b o hb q=>by rw[zAb (zAM q hp)];exact st02.fr b o hb q,st02.tk.trans tk⟩;rcases qB2.mp hb with h|h
   ·exact n b h
   ·simp at h;subst h;exact hp
  exact y _ _ _ sr3 st3 (by unfold RV;exact⟨p,rfl,by rw[<- sr2.len,qA1 (qB1 _),qK3];rfl⟩)
 ·cases f2)
noncomputable def zUo(f:Expr->Option C)(ks:List (Option Expr))(vs:yE):Option C:=match ks,vs with
 |[],[]=>some zN7
 |[some a],[b]=>(f a).bind fun ca=>(f b).map fun cb=>zRJ ca cb
 |_,_=>none
theorem zVs(hf:zDF X f){ks:List (Option Expr)}{vs:yE}{pos:Pos}{c:C}(e:zUo f ks vs=some c):PE X (.Dict ks vs pos) (tOf X.K c):=by
 unfold zUo at e;split at e
 ·cases e;exact zT2
 ·obtain⟨ca,e1,e⟩:=qA3.mp e;obtain⟨cb,e2,e⟩:=qA4.mp e;subst e;exact zT1 (hf _ _ e1) (hf _ _ e2)
 ·cases e
noncomputable def zM2(op:BoolOp)(f:Expr->Option C):yE->Option C
 |[]=>none
 |[a]=>f a
 |a::b::r=>(f a).bind fun ca=>(zM2 op f (b::r)).map fun cb=>match op with
  |.And=>zN8 ca cb
  |.Or=>cOrV ca cb
theorem zKa(hf:zDF X f){op:BoolOp}{pos:Pos}:∀{vs:yE}{c:C},zM2 op f vs=some c->PE X (.BoolOp op vs pos) (tOf X.K c)
 |[],c,e=>by cases e
 |[a],c,e=>zVL (hf a c e)
 |a::b::r,c,e=>by
  unfold zM2 at e;obtain⟨ca,e1,e⟩:=qA3.mp e;obtain⟨cb,e2,e⟩:=qA4.mp e;subst e;cases op with
  |And=>exact zVp (hf a ca e1) (zKa hf e2)
  |Or=>exact zYt (hf a ca e1) (zKa hf e2)
def zJX(X:Cx)(t:Expr->Option CT):Prop:=∀e c,t e=some c->PT X e (tOfT X.K c)
variable {t:Expr->Option CT}
noncomputable def zM3(op:BoolOp)(t:Expr->Option CT):yE->Option CT
 |[]=>none
 |[a]=>t a
 |a::b::r=>(t a).bind fun ca=>(zM3 op t (b::r)).map fun cb=>match op with
  |.And=>zL3 ca cb
  |.Or=>cOrT ca cb
theorem zKb(ht:zJX X t){op:BoolOp}{pos:Pos}:∀{vs:yE}{c:CT},zM3 op t vs=some c->PW X (.BoolOp op vs pos) (tOfT X.K c)
 |[],c,e=>by cases e
 |[a],c,e=>by
  cases op with
  |And=>exact zTg (ht a c e)
  |Or=>exact zVz (ht a c e)
 |a::b::r,c,e=>by
  unfold zM3 at e;obtain⟨ca,e1,e⟩:=qA3.mp e;obtain⟨cb,e2,e⟩:=qA4.mp e;subst e;cases op with
  |And=>exact zV2 (ht a ca e1) (zKb ht e2)
  |Or=>exact zYo (ht a ca e1) (zKb ht e2)
noncomputable def zBc:Expr->Bool
 |.Tuple _ _ _=>true
 |_=>false
noncomputable def zKt:Expr->Bool
 |.Set _ _ _=>true
 |_=>false
theorem zGq{iter:Expr}{env:Env}(h:zKt iter=false):∀x,foldedSetIterable iter env x=pure x:=by cases iter<;>first|(intro x;rfl)| cases h
noncomputable def zPI(o:Option (List C))(es:yE):Option CI:=o.bind fun cs=>match es with
 |[_]=>some (zDx (zA1 cs))
 |[_,_]=>some (zI7 (zA1 cs))
 |_=>none
noncomputable def zUk(t:Bool)(o:Option (List C))(es:yE):Option CI:=if t=true then o.bind fun cs=>match es with
  |[_,_]=>some (zRj (zA1 cs))
  |_=>none
 else none
noncomputable def zPK(t:Bool)(o:Option (List C))(es:yE):Option CI:=if t=true then o.bind fun cs=>match es with
  |[_]=>some (zGl (zA1 cs))
  |_=>none
 else none
noncomputable def zN6(sc:Sc)(ar:Str->yK)(f:Expr->Option C)(tg iter:Expr):Option CI:=if zKt iter then none else match iter with
 |.Call (.Name x _) es [] _=>if sc.names.lookup x=some .globalImplicit/\ar x=none then
   (if x=("range":Str)then zPI (zA1? f es) es else
    if x=("zip":Str)then zUk (zBc tg) (zA1? f es) es else
    if x=("enumerate":Str)then zPK (zBc tg) (zA1? f es) es else
    (f iter).map iSeq)
  else(f iter).map iSeq
 |_=>(f iter).map iSeq
theorem zQp(hf:zDF X f){tg:Expr}{es:yE}{c:CI}{p pos:Pos}(g:Gl X "range")(hm:X.mg "range"=none)(e:zPI (zA1? f es) es=some c):PI X tg (.Call (.Name "range" p) es [] pos) (tOfI X.K c):=by
 obtain⟨cs,e1,e2⟩:=qA3.mp e;clear e;obtain⟨h1,h2⟩:=zDV hf e1
 match es,h1,h2,e2 with
 |[a],h1,h2,e2 =>
  cases e2;exact zNO (zO5 g hm h1 (by rw[zAj (h2 a (by simp))];rfl))
 |[a,b],h1,h2,e2 =>
  cases e2;exact zNN (zO4 g hm h1 (by rw[zAj (h2 a (by simp)),zAj (h2 b (by simp))];rfl) (by rw[zAj (h2 b (by simp))];rfl))
 |[],h1,h2,e2=>cases e2
 |_::_::_::_,h1,h2,e2=>cases e2
theorem zOH{tg:Expr}(h:zBc tg=true):∃es k pos,tg=.Tuple es k pos:=by cases tg<;>first|exact⟨_,_,_,rfl⟩| cases h
theorem zVq(hf:zDF X f){tg:Expr}{es:yE}{c:CI}{p pos:Pos}(g:Gl X "zip")(hm:X.mg "zip"=none)(e:zUk (zBc tg) (zA1? f es) es=some c):PI X tg (.Call (.Name "zip" p) es [] pos) (tOfI X.K c):=by
 unfold zUk at e;by_cases ht:zBc tg=true
 ·rw[if_pos ht]at e;obtain⟨ts,kt,pt,rfl⟩:=zOH ht;obtain⟨cs,e1,e2⟩:=qA3.mp e;clear e ht;obtain⟨h1,h2⟩:=zDV hf e1
  match es,h1,h2,e2 with
  |[a,b],h1,h2,e2 =>
   cases e2;exact zVe (zTt g hm h1 (by rw[zAj (h2 a (by simp)),zAj (h2 b (by simp))];rfl) (by rw[zAj (h2 b (by simp))];rfl))
  |_::_::_::_,h1,h2,e2=>cases e2
  |[],h1,h2,e2=>cases e2
  |[_],h1,h2,e2=>cases e2
 ·rw[if_neg ht]at e;cases e
theorem zT4(hf:zDF X f){tg:Expr}{es:yE}{c:CI}{p pos:Pos}(g:Gl X "enumerate")(hm:X.mg "enumerate"=none)(e:zPK (zBc tg) (zA1? f es) es=some c):PI X tg (.Call (.Name "enumerate" p) es [] pos) (tOfI X.K c):=by
 unfold zPK at e;by_cases ht:zBc tg=true
 ·rw[if_pos ht]at e;obtain⟨ts,kt,pt,rfl⟩:=zOH ht;obtain⟨cs,e1,e2⟩:=qA3.mp e;clear e ht;obtain⟨h1,h2⟩:=zDV hf e1
  match es,h1,h2,e2 with
  |[a],h1,h2,e2 =>
   cases e2;exact zSW (zQD g hm h1 (by rw[zAj (h2 a (by simp))];rfl))
  |[],h1,h2,e2=>cases e2
  |_::_::_,h1,h2,e2=>cases e2
 ·rw[if_neg ht]at e;cases e
theorem zNV(h:XOk X sc ar cl k)(hf:zDF X f){tg iter:Expr}{c:CI}(e:zN6 sc ar f tg iter=some c):PI X tg iter (tOfI X.K c)/\zKt iter=false:=by
 unfold zN6 at e;split at e
 ·cases e
 rename_i hset;refine⟨?_,by simpa using hset⟩;have dflt:∀{c},(f iter).map iSeq=some c->PI X tg iter (tOfI X.K c):=fun e=>by obtain⟨ca,e1,e⟩:=qA4.mp e;subst e;exact zVf (hf _ _ e1)
 split at e
 ·rename_i x p es pos;split at e
  ·rename_i hx;have g:=h.gl x hx.1;split at e
   ·rename_i q;subst q;exact zQp hf g (h.blt.b _ (by decide +kernel) hx.2) e
   split at e
   ·rename_i q;subst q;exact zVq hf g (h.blt.b _ (by decide +kernel) hx.2) e
   split at e
   ·rename_i q;subst q;exact zT4 hf g (h.blt.b _ (by decide +kernel) hx.2) e
   exact dflt e
  ·exact dflt e
 ·exact dflt e
noncomputable def zEQ:yE->Option (yH)
 |[]=>some []
 |.Name x _::r=>(zEQ r).map (x::·)
 |_::_=>none
noncomputable def zMf:Expr->Option (Tgt×yH)
 |.Name x _=>some (.one,[x])
 |.Tuple es _ _=>(zEQ es).map fun xs=>(.many xs.length,xs)
 |_=>none
noncomputable def zBd(ns:List (Str×NameKind)):yH:=(ns.filter fun y=>y.2 == .free).map (·.1)
noncomputable def slots(N:yH):yH->Option (List Nat)
 |[]=>some []
 |x::r=>(zFd N x 0).bind fun j=>(slots N r).map (j::·)
noncomputable def zPq(xs:yH)(scope:Scope):Sc:=⟨xs++zBd scope.names,scope.names,none⟩
noncomputable def compOk(sc:Sc)(xs:yH)(scope:Scope):Bool :=
 decide (scope.kind=.function)&&scope.names.all (fun y=>y.2 != .cell||scope.names.lookup y.1 == some .cell)&&scope.names.all (fun y=>y.2 != .local||scope.names.lookup y.1 == some .local)
 && decide ((xs++zBd scope.names).Nodup)&&xs.all (fun x=>scope.names.lookup x == some .local||scope.names.lookup x == some .cell)&&decide (1<=xs.length)
 && (zBd scope.names).all (fun x=>(sc.names.lookup x == some .cell||sc.names.lookup x == some .free)&&scope.names.lookup x == some .free)
noncomputable def zGE(sc:Sc)(it:Option CI)(fe:Sc->Expr->Option C)(ft:Sc->Expr->Option CT)(tg elt:Expr)(ifs:yE)(scope:Scope):Option C :=
 (zMf tg).bind fun p=>if compOk sc p.2 scope then(slots sc.N (zBd scope.names)).bind fun js=>it.bind fun ci=>(fe (zPq p.2 scope) elt).bind fun ce=>match ifs with
  |[]=>some (zBe ci p.2.length js p.1 (fun _=>ret true) ce)
  |[q]=>(ft (zPq p.2 scope) q).map fun ct=>zBe ci p.2.length js p.1 ct ce
  |_=>none
 else none
theorem zIQ{N:yH}:∀{xs:yH}{js:List Nat},slots N xs=some js->js.length=xs.length/\∀(i j:Nat),js[i]?=some j->∃x,xs[i]?=some x/\N[j]?=some x
 |[],js,e=>by cases e;exact⟨rfl,fun i j h=>by simp at h⟩
 |x::r,js,e=>by
  unfold slots at e;obtain⟨j0,e1,e⟩:=qA3.mp e;obtain⟨js',e2,e⟩:=qA4.mp e;subst e;obtain⟨h1,h2⟩:=zIQ e2;refine⟨by simp[h1],fun i j h=>?_⟩;cases i with
  |zero=>simp at h;subst h;exact⟨x,rfl,(zDL e1).2⟩
  |succ i =>
   rw[qD6]at h;obtain⟨y,g1,g2⟩:=h2 i j h;exact⟨y,by rw[qD6];exact g1,g2⟩
theorem zCu{env:Env}:∀{names:List (Str×NameKind)}{x:Str}{k:NameKind},k≠.free->names.lookup x=some k ->
  (names.map fun(n,k)=>if(k == NameKind.free&&env.scope.kind == .function&&env.kindOf n == some .cell)then(n,NameKind.cell)else(n,k)).lookup x=some k
 |[],_,_,_,h=>by simp at h
 |(n,k')::r,x,k,nf,h=>by
  have ih:=@zCu env r x k nf;show List.lookup x ((if(k' == NameKind.free&&env.scope.kind == .function&&env.kindOf n == some .cell)=true then(n,NameKind.cell)else(n,k'))::_)=_;cases hx:x == n with
  |true =>
   simp only[qD2,hx]at h;cases h;have e:(k' == NameKind.free)=false:=by simpa using nf
   simp[qD2,hx,e]
  |false =>
   simp only[qD2,hx]at h;by_cases hc:(k' == NameKind.free&&env.scope.kind == .function&&env.kindOf n == some .cell)=true
   ·rw[if_pos hc];simp only[qD2,hx];exact ih h
   ·rw[if_neg hc];simp only[qD2,hx];exact ih h
theorem zQY{ns:List (Str×NameKind)}{x:Str}{k:NameKind}(h:ns.lookup x=some k):(x,k)∈ns:=zE3 h
theorem XOk.comp(h:XOk X sc ar cl k){xs:yH}{scope:Scope}(hc:compOk sc xs scope=true)(cl':List (Str×Addr))(s:Shared)(H:Hp)(C:Addr)(ex:yC):XOk (zBI X scope (xs++zBd scope.names) cl' s H C ex) (zPq xs scope) ar cl k:=by
 unfold compOk at hc;simp only[qC9,decide_eq_true_eq]at hc;obtain⟨⟨⟨⟨⟨⟨c1,c2⟩,c3⟩,c4⟩,c5⟩,c6⟩,c7⟩:=hc;exact{
  calm:=h.calm
  N:=rfl
  nd:=c4
  gl:=fun x hx=>zCu (by decide) hx
  loc:=fun x hx=>zCu (by decide) hx
  cel:=fun x hx=>zCu (by decide) hx
  fre:=fun x hx=>zFe hx
  fnn:=fun z=>by cases z
  room:=h.room
  xe:=rfl
  blt:=h.blt
  fns:=h.fns }
theorem zFY:∀{es:yE}{xs:yH},zEQ es=some xs->es.length=xs.length/\∀(i:Nat) (e:Expr),es[i]?=some e->∃x pos,e=.Name x pos/\xs[i]?=some x
 |[],xs,h=>by cases h;exact⟨rfl,fun i e h=>by simp at h⟩
 |a::r,xs,h=>by
  cases a with
  |Name x pos =>
   unfold zEQ at h;obtain⟨ys,e1,e⟩:=qA4.mp h;subst e;obtain⟨h1,h2⟩:=zFY e1;refine⟨by simp[h1],fun i e he=>?_⟩;cases i with
   |zero=>simp at he;subst he;exact⟨x,pos,rfl,rfl⟩
   |succ i =>
    rw[qD6]at he;obtain⟨y,p,g1,g2⟩:=h2 i e he;exact⟨y,p,g1,by rw[qD6];exact g2⟩
  |_=>cases h
theorem zGK{x:Str}{pos:Pos}{es:yE}{env:Env}:assignEach (.Name x pos::es) env=(false,assign (.Name x pos) env)::assignEach es env:=rfl
theorem zJ4:∀{es:yE}{s:Nat},(∀(i:Nat) (e:Expr),es[i]?=some e->∃x pos,e=.Name x pos/\X.N[s+i]?=some x/\Loc X.env.scope x/\(X.fn x=true∨X.env.scope.names.lookup x=some .local))->X.N.Nodup->PGs X es (zLT s es.length)
 |[],s,h,nd=>zO6
 |a::r,s,h,nd=>by obtain⟨x,pos,rfl,g1,g2,g3⟩:=h 0 a rfl;refine zLu (zHT nd (by simpa using g1) g2 g3) (zJ4 (s:=s+1) (fun i e he=>?_) nd) rfl;obtain⟨y,p,q1,q2,q3⟩:=h (i+1) e (by rw[qD6];exact he);exact⟨y,p,q1,by rw[show s+1+i=s+(i+1) by omega];exact q2,q3⟩
theorem zD7{env:Env}:∀{es:yE}{xs:yH},zEQ es=some xs->(assignEach es env).length=xs.length/\(assignEach es env).findIdx? (·.1)=none
 |[],xs,h=>by cases h;exact⟨rfl,rfl⟩
 |a::r,xs,h=>by
  cases a with
  |Name x pos =>
   unfold zEQ at h;obtain⟨ys,e1,e⟩:=qA4.mp h;subst e;obtain⟨h1,h2⟩:=zD7 (env:=env) e1;rw[zGK];exact⟨by simp[h1],by rw[qQ4];simp[h2]⟩
  |_=>cases h
theorem zSF{tg:Expr}{t:Tgt}{xs:yH}(e:zMf tg=some (t,xs)):tgtK t=xs.length:=by
 cases tg with
 |Name x pos=>cases e;rfl
 |Tuple es n pos =>
  unfold zMf at e;obtain⟨ys,e1,e⟩:=qA4.mp e;cases e;rfl
 |_=>cases e
theorem zLo{X':Cx}{sc':Sc}(h:XOk X' sc' ar cl k){x:Str}(g:sc'.names.lookup x=some .local∨sc'.names.lookup x=some .cell/\X'.fn x=true):Loc X'.env.scope x/\(X'.fn x=true∨X'.env.scope.names.lookup x=some .local):=by
 rcases g with g|⟨g,f⟩
 ·exact⟨.inl (h.loc x g),.inr (h.loc x g)⟩
 ·exact⟨.inr (h.cel x g),.inl f⟩
theorem zYv{X':Cx}{sc':Sc}(h:XOk X' sc' ar cl k){tg:Expr}{t:Tgt}{xs:yH}(e:zMf tg=some (t,xs))(hN:∀(i:Nat) (x:Str),xs[i]?=some x->sc'.N[i]?=some x/\(sc'.names.lookup x=some .local∨sc'.names.lookup x=some .cell/\X'.fn x=true)):PG X' tg (tOfT' X'.K t)/\tgtK t=xs.length:=by
 have nd:X'.N.Nodup:=by rw[h.N];exact h.nd
 cases tg with
 |Name x pos =>
  cases e;obtain⟨g1,g2⟩:=hN 0 x rfl;obtain⟨l1,l2⟩:=zLo h g2;exact⟨zHT nd (by rw[h.N];exact g1) l1 l2,rfl⟩
 |Tuple es n pos =>
  unfold zMf at e;obtain⟨ys,e1,e⟩:=qA4.mp e;cases e;obtain⟨a1,a2⟩:=zD7 (env:=X'.env) e1;obtain⟨n1,n2⟩:=zFY e1;refine⟨?_,rfl⟩;have:=zJ4 (X:=X') (es:=es) (s:=0) (fun i e he=>by
   obtain⟨x,pos,rfl,g⟩:=n2 i e he;obtain⟨g1,g2⟩:=hN i x g;obtain⟨l1,l2⟩:=zLo h g2;exact⟨x,pos,rfl,by rw[h.N,qN2];exact g1,l1,l2⟩) nd
  rw[n1]at this;exact zS4 h.calm this a1 a2
 |_=>cases e
theorem zSo(h:XOk X sc ar cl k){xs:yH}{scope:Scope}{js:List Nat}(hc:compOk sc xs scope=true)(e1:slots sc.N (zBd scope.names)=some js):zNk X scope (xs++zBd scope.names) xs.length js:=by
 obtain⟨l1,l2⟩:=zIQ e1;unfold compOk at hc;simp only[qC9,decide_eq_true_eq]at hc;obtain⟨⟨⟨⟨⟨⟨c1,c2⟩,c3⟩,c4⟩,c5⟩,c6⟩,c7⟩:=hc;have hf7:∀x,(x,NameKind.free)∈scope.names->(sc.names.lookup x=some .cell∨sc.names.lookup x=some .free)/\scope.names.lookup x=some .free:=fun x hx=>by
  have hm:x∈zBd scope.names:=by unfold zBd;rw[qB6];exact⟨(x,.free),by rw[qC6];exact⟨hx,by simp⟩,rfl⟩
  have:=qD8.mp c7 x hm;simpa using this
 refine⟨h.calm,c1,fun x hx=>?_,fun x hx=>?_,fun x hx hxl=>?_,?_,fun i j hj=>?_⟩
 ·have:=qD8.mp c2 _ hx;simpa using this
 ·rcases(hf7 x hx).1 with q|q
  ·exact .inl (h.cel x q)
  ·exact h.fre x q
 ·have:=qD8.mp c3 x hx;simp only[qI3,bne_iff_ne,ne_eq,beq_iff_eq]at this;rcases this with z|z
  ·exact absurd hxl z
  ·exact z
 ·rw[qB3,l1]
 ·obtain⟨x,g1,g2⟩:=l2 i j hj;have hm:(x,NameKind.free)∈scope.names:=by
   have:=qB4 g1;unfold zBd at this;rw[qB6]at this;obtain⟨⟨y,ky⟩,m1,m2⟩:=this;rw[qC6]at m1;dsimp only at m2;subst m2;have:ky=.free:=by simpa using m1.2
   subst this;exact m1.1
  obtain⟨v1,v2⟩:=hf7 x hm;refine⟨x,?_,by rw[h.N];exact g2,v2,h.vis (.inr v1)⟩;rw[qA1 (by omega),qL0];exact g1
theorem zSn(h:XOk X sc ar cl k){xs:yH}{scope:Scope}{tg:Expr}{t:Tgt}(hc:compOk sc xs scope=true)(e0:zMf tg=some (t,xs))(cl':List (Str×Addr))(s:Shared)(H:Hp)(C:Addr)(ex:yC):PG (zBI X scope (xs++zBd scope.names) cl' s H C ex) tg (tOfT' X.K t) :=
 (zYv (h.comp hc cl' s H C ex) e0 fun i x hx=>by
  unfold compOk at hc;simp only[qC9,decide_eq_true_eq]at hc;have c5:=hc.1.1.2;have hl:=(qA2.mp hx).1;refine⟨?_,?_⟩
  ·show(xs++zBd scope.names)[i]?=some x;rw[qA8 hl];exact hx
  ·have:=qD8.mp c5 x (qB4 hx);rw[qI3,beq_iff_eq,beq_iff_eq]at this;rcases this with z|z
   ·exact .inl z
   ·exact .inr ⟨z,decide_eq_true (zQY z)⟩).1
inductive zXC(X:Cx)(sc:Sc)(tg iter elt:Expr)(ifs:yE)(scope:Scope)(c:C):Prop
 |mk (t:Tgt) (xs:yH) (js:List Nat) (ci:CI) (ct:CT) (ce:C) (B:zNk X scope (xs++zBd scope.names) xs.length js) (hi:PI X tg iter (tOfI X.K ci)) (hs:zKt iter=false)
  (hg:∀cl' s H C ex,PG (zBI X scope (xs++zBd scope.names) cl' s H C ex) tg (tOfT' X.K t)) (hT:∀cl' s H C ex,PTs (zBI X scope (xs++zBd scope.names) cl' s H C ex) ifs (tOfT X.K ct))
  (hE:∀cl' s H C ex,PE (zBI X scope (xs++zBd scope.names) cl' s H C ex) elt (tOf X.K ce)) (ht:tgtK t<=xs.length) (h1:1<=xs.length) (hc:c=zBe ci xs.length js t ct ce)
theorem zPo(h:XOk X sc ar cl k){it:Option CI}{fe:Sc->Expr->Option C}{ft:Sc->Expr->Option CT}{tg iter elt:Expr}{ifs:yE}{scope:Scope}{c:C}(e:zGE sc it fe ft tg elt ifs scope=some c)
  (hi:∀ci,it=some ci->PI X tg iter (tOfI X.K ci)/\zKt iter=false) (hfe:∀X' sc',XOk X' sc' ar cl k->zDF X' (fe sc')) (hft:∀X' sc',XOk X' sc' ar cl k->zJX X' (ft sc')):zXC X sc tg iter elt ifs scope c:=by
 unfold zGE at e;obtain⟨⟨t,xs⟩,e0,e⟩:=qA3.mp e;dsimp only at e;by_cases hc:compOk sc xs scope=true
 ·rw[if_pos hc]at e;obtain⟨js,e1,u1⟩:=qA3.mp e;obtain⟨ci,e2,u2⟩:=qA3.mp u1;obtain⟨ce,e3,u3⟩:=qA3.mp u2;clear e u1 u2;obtain⟨i1,i2⟩:=hi ci e2;have c6:1<=xs.length:=by have hc':=hc;unfold compOk at hc';simp only[qC9,decide_eq_true_eq]at hc';exact hc'.1.2
  have hE:=fun cl' s H C ex=>hfe _ _ (h.comp hc cl' s H C ex) elt ce e3;have ht:tgtK t<=xs.length:=by rw[zSF e0];exact qB1 _
  cases ifs with
  |nil =>
   cases u3;exact⟨t,xs,js,ci,_,ce,zSo h hc e1,i1,i2,zSn h hc e0,fun cl' s H C ex pins s' σ H' Q I ⟨μ,ρ,S,d,S',sr,re,e,y⟩=>zTi pins s' σ H' Q I (by obtain⟨rfl,rfl⟩:=zAt e;exact y H' μ sr (Step.refl _ _ _)),hE,ht,c6,rfl⟩
  |cons q r =>
   cases r with
   |nil =>
    obtain⟨ct,e4,u4⟩:=qA4.mp u3;exact⟨t,xs,js,ci,ct,ce,zSo h hc e1,i1,i2,zSn h hc e0,fun cl' s H C ex=>zTh (hft _ _ (h.comp hc cl' s H C ex) q ct e4),hE,ht,c6,u4.symm⟩
   |cons _ _=>cases u3
 ·rw[if_neg hc]at e;cases e
theorem zT6(h:XOk X sc ar cl k){it:Option CI}{fe:Sc->Expr->Option C}{ft:Sc->Expr->Option CT}{tg iter elt:Expr}{ifs:yE}{scope:Scope}{pos:Pos}{c:C}(e:zGE sc it fe ft tg elt ifs scope=some c)
  (hi:∀ci,it=some ci->PI X tg iter (tOfI X.K ci)/\zKt iter=false) (hfe:∀X' sc',XOk X' sc' ar cl k->zDF X' (fe sc')) (hft:∀X' sc',XOk X' sc' ar cl k->zJX X' (ft sc')):PE X (.ListComp elt [⟨tg,iter,ifs,0⟩] scope pos) (tOf X.K c):=by obtain⟨t,xs,js,ci,ct,ce,B,i1,i2,hg,hT,hE,ht,h1,rfl⟩:=zPo h e hi hfe hft;exact(zTv B i1 hg hT hE (zGq i2)).weak fun σ H Q q=>zOg ht h1 q
theorem zQr(h:XOk X sc ar cl k){it:Option CI}{fe:Sc->Expr->Option C}{ft:Sc->Expr->Option CT}{tg iter elt:Expr}{ifs:yE}{scope:Scope}{pos pos' spos:Pos}{y0:Str}{go:TG}(hgo:PG X (.Name y0 pos') go)(hsw:swapsWith (.ListComp elt [⟨tg,iter,ifs,0⟩] scope pos) (some (.Name y0 pos')) spos.line X.env=pure true){c:C}(e:zGE sc it fe ft tg elt ifs scope=some c)
  (hi:∀ci,it=some ci->PI X tg iter (tOfI X.K ci)/\zKt iter=false) (hfe:∀X' sc',XOk X' sc' ar cl k->zDF X' (fe sc')) (hft:∀X' sc',XOk X' sc' ar cl k->zJX X' (ft sc')):PS X (.Assign [.Name y0 pos'] (.ListComp elt [⟨tg,iter,ifs,0⟩] scope pos) spos) (tAsg (tOf X.K c) go):=by obtain⟨t,xs,js,ci,ct,ce,B,i1,i2,hg,hT,hE,ht,h1,rfl⟩:=zPo h e hi hfe hft;exact(zMl hgo hsw B i1 hg hT hE (zGq i2)).weak fun D σ H q=>zOg ht h1 q
end
open PySem PySem.Spec PyProof.Rows
section
variable (ar:Str->yK) (cl:Str->yM->M D)
mutual
noncomputable def cE:Nat->Sc->Expr->Option C
 |0,_,_=>none
 |n+1,sc,e=>match e with
  |.Constant v _ _=>zSq v
  |.Name x _=>zUm sc ar x
  |.BinOp a op b _=>(zWg op).bind fun o=>(cE n sc a).bind fun ca=>(cE n sc b).map fun cb=>cBin o ca cb
  |.UnaryOp op a _=>match op with
   |.USub=>(cE n sc a).map fun ca=>cUn oNeg ca
   |.Not=>(cE n sc a).map fun ca=>zPJ ca
   |_=>none
  |.BoolOp op vs _=>zM2 op (cE n sc) vs
  |.IfExp t a b _=>(cT n sc t).bind fun ct=>(cE n sc a).bind fun ca=>(cE n sc b).map fun cb=>cIf ct ca cb
  |.Compare a ops bs _=>zEw (cE n sc) a ops bs
  |.Tuple es _ _=>(zA1? (cE n sc) es).bind fun cs=>if cs.length<=1000 then some (cTup (zA1 cs))else none
  |.List es _=>(zA1? (cE n sc) es).bind fun cs=>if cs.length<=1000 then some (cLst (zA1 cs))else none
  |.Subscript a b _=>cSub (cE n sc) a b
  |.Dict ks vs _=>zUo (cE n sc) ks vs
  |.Call fn es kw cpos=>match kw with
   |[]=>match fn with
    |.Name x _=>zPL sc ar cl (cE n sc) x es
    |.Attribute o m apos=>zL2 (cE n sc) o m es apos cpos
    |_=>none
   |_::_=>none
  |.ListComp elt gens scope _=>match gens with
   |[⟨tg,iter,ifs,ia⟩]=>if ia=0 then zGE sc (zN6 sc ar (cE n sc) tg iter) (cE n) (cT n) tg elt ifs scope else none
   |_=>none
  |_=>none
noncomputable def cT:Nat->Sc->Expr->Option CT
 |0,_,_=>none
 |n+1,sc,e=>match e with
  |.UnaryOp op a _=>match op with
   |.Not=>(cT n sc a).map fun ca=>zEv ca
   |_=>(cE n sc e).map cTru
  |.BoolOp op vs _=>zM3 op (cT n sc) vs
  |.IfExp _ _ _ _=>none
  |.Compare a ops bs _=>zHI (cE n sc) a ops bs
  |_=>(cE n sc e).map cTru
end
end
section
variable {X:Cx}{sc:Sc}{ar:Str->yK}{cl:Str->yM->M D}{k:Nat}
theorem zMk:∀n:Nat,(∀X sc,XOk X sc ar cl k->zDF X (cE ar cl n sc))/\(∀X sc,XOk X sc ar cl k->zJX X (cT ar cl n sc))
 |0=>⟨fun X sc h e c q=>(by cases q),fun X sc h e c q=>(by cases q)⟩
 |n+1=>by
  obtain⟨ihE,ihT⟩:=zMk n;refine⟨fun X sc h e c q=>?_,fun X sc h e c q=>?_⟩
  ·have hf:=ihE X sc h;have ht:=ihT X sc h;cases e with
   |Constant v j pos=>exact zT5 q
   |Name x pos=>exact zVr h q
   |BinOp a op b pos =>
    obtain⟨o,e0,q1⟩:=qA3.mp q;obtain⟨ca,e1,q2⟩:=qA3.mp q1;obtain⟨cb,e2,q3⟩:=qA4.mp q2;subst q3;exact zVo (s_op e0) (hf _ _ e1) (hf _ _ e2)
   |UnaryOp op a pos =>
    cases op with
    |USub =>
     obtain⟨ca,e1,q2⟩:=qA4.mp q;subst q2;exact zYs zUP (hf _ _ e1)
    |Not =>
     obtain⟨ca,e1,q2⟩:=qA4.mp q;subst q2;exact zVl (hf _ _ e1)
    |_=>cases q
   |BoolOp op vs pos=>exact zKa hf q
   |IfExp t a b pos =>
    obtain⟨ct,e0,q1⟩:=qA3.mp q;obtain⟨ca,e1,q2⟩:=qA3.mp q1;obtain⟨cb,e2,q3⟩:=qA4.mp q2;subst q3;exact zQn (ht _ _ e0) (hf _ _ e1) (hf _ _ e2)
   |Compare a ops bs pos=>exact zNW h.room hf q
   |Tuple es j pos =>
    obtain⟨cs,e1,q1⟩:=qA3.mp q;split at q1
    ·rename_i hl;cases q1;exact zVk (zDV hf e1).1 hl
    ·cases q1
   |List es pos =>
    obtain⟨cs,e1,q1⟩:=qA3.mp q;split at q1
    ·rename_i hl;cases q1;exact zVm (zDV hf e1).1 hl
    ·cases q1
   |Subscript a b pos=>exact zYw h.room hf q
   |Dict ks vs pos=>exact zVs hf q
   |Call fn es kw cpos =>
    cases kw with
    |cons _ _=>cases q
    |nil =>
     cases fn with
     |Name x p=>exact zT7 h hf q
     |Attribute o m apos=>exact zQq h.room hf q
     |_=>cases q
   |ListComp elt gens scope pos =>
    cases gens with
    |nil=>cases q
    |cons g gs =>
     obtain⟨tg,iter,ifs,ia⟩:=g;cases gs with
     |cons _ _=>cases q
     |nil =>
      change (if ia=0 then zGE sc (zN6 sc ar (cE ar cl n sc) tg iter) (cE ar cl n) (cT ar cl n) tg elt ifs scope else none)=some c at q;split at q
      ·rename_i hz;subst hz;exact zT6 h q (fun ci e=>zNV h hf e) (fun X' sc' h'=>ihE X' sc' h') (fun X' sc' h'=>ihT X' sc' h')
      ·cases q
   |_=>cases q
  ·have hf:=ihE X sc h;have ht:=ihT X sc h;have dflt:∀{c:CT},(cE ar cl n sc e).map cTru=some c->(∀whole,isTrue e X.env whole=(do let v <- whole;standAt e.pos;holding [v] (truthy v)))->PT X e (tOfT X.K c):=fun{c} q he=>by obtain⟨ca,e1,q2⟩:=qA4.mp q;subst q2;exact zV3 (hf _ _ e1) he
   cases e with
   |UnaryOp op a pos =>
    cases op with
    |Not =>
     obtain⟨ca,e1,q2⟩:=qA4.mp q;subst q2;exact zV4 (ht _ _ e1)
    |USub=>exact dflt q fun _=>rfl
    |UAdd=>exact dflt q fun _=>rfl
    |Invert=>exact dflt q fun _=>rfl
   |BoolOp op vs pos=>exact(zKb ht q).pt
   |IfExp t a b pos=>cases q
   |Compare a ops bs pos=>exact zMi h.room hf q
   |_=>exact dflt q fun _=>rfl
section
variable (ar:Str->yK) (cl:Str->yM->M D)
noncomputable def cTg(sc:Sc)(x:Str):Option G:=(zFd sc.N x 0).bind fun i=>if sc.names.lookup x=some .local∨(sc.fn.isSome=true/\sc.names.lookup x=some .cell)then some (gN i)else none
mutual
noncomputable def cG:Nat->Sc->Expr->Option G
 |0,_,_=>none
 |n+1,sc,e=>match e with
  |.Name x _=>cTg sc x
  |.Subscript a b _=>match b with
   |_=>if zGe b then none else(cE ar cl n sc a).bind fun ca=>(cE ar cl n sc b).map fun cb=>gS ca cb
  |.Tuple es _ _=>(cGs n sc es).map fun gs=>gT gs
  |_=>none
noncomputable def cGs:Nat->Sc->yE->Option (List G)
 |0,_,_=>none
 |n+1,sc,es=>match es with
  |[]=>some []
  |e::r=>if zBa e then(cG n sc e).bind fun g=>(cGs n sc r).map fun gs=>g::gs else none
end
end
theorem XOk.nd'(h:XOk X sc ar cl k):X.N.Nodup:=by rw[h.N];exact h.nd
theorem s_tg(h:XOk X sc ar cl k){x:Str}{g:G}(e:cTg sc x=some g):∃i,g=gN i/\X.N[i]?=some x/\Loc X.env.scope x/\(X.fn x=true∨X.env.scope.names.lookup x=some .local):=by
 unfold cTg at e;obtain⟨i,e1,e2⟩:=qA3.mp e;split at e2
 ·rename_i hc;cases e2;refine⟨i,rfl,by rw[h.N];exact(zDL e1).2,?_⟩;rcases hc with q|⟨q1,q2⟩
  ·exact⟨.inl (h.loc x q),.inr (h.loc x q)⟩
  ·exact⟨.inr (h.cel x q2),.inl (h.fnn q1 x)⟩
 ·cases e2
theorem zNi{a b:Expr}{pos:Pos}{env:Env}(h:zGe b=false):∀v,assign (.Subscript a b pos) env v=(do
   let ov <- holding [v] (eval a env)
   let iv <- holding [v,ov] (eval b env)
   standAt pos
   holding [v,ov,iv] (setItem ov iv v)
   release [v,ov,iv] []):=by cases b<;>first|(intro v;rfl)| cases h
theorem zCr{e:Expr}{es:yE}{env:Env}(h:zBa e=true):assignEach (e::es) env=(false,assign e env)::assignEach es env:=by cases e<;>first|rfl|cases h
theorem s_G:∀n:Nat,(∀X sc,XOk X sc ar cl k->∀e g,cG ar cl n sc e=some g->PG X e (tOfG X.K g))/\(∀X sc,XOk X sc ar cl k->∀es gs,cGs ar cl n sc es=some gs->PGs X es (zNF X.K gs)/\(assignEach es X.env).length=gs.length/\(assignEach es X.env).findIdx? (·.1)=none)
 |0=>⟨fun X sc h e c q=>(by cases q),fun X sc h e c q=>(by cases q)⟩
 |n+1=>by
  obtain⟨ih,ihs⟩:=s_G n;refine⟨fun X sc h e g q=>?_,fun X sc h es gs q=>?_⟩
  ·cases e with
   |Name x pos =>
    obtain⟨i,rfl,h1,h2,h3⟩:=s_tg h q;exact zSZ (zHT h.nd' h1 h2 h3)
   |Subscript a b pos =>
    change (if zGe b then none else(cE ar cl n sc a).bind fun ca=>(cE ar cl n sc b).map fun cb=>gS ca cb)=_ at q;split at q
    ·cases q
    ·rename_i hs;obtain⟨ca,e1,q1⟩:=qA3.mp q;obtain⟨cb,e2,q2⟩:=qA4.mp q1;subst q2;exact zVh (zRk h.room) ((zMk n).1 X sc h _ _ e1) ((zMk n).1 X sc h _ _ e2) (zNi (by simpa using hs))
   |Tuple es j pos =>
    obtain⟨gs,e1,q1⟩:=qA4.mp q;subst q1;obtain⟨h1,h2,h3⟩:=ihs X sc h es gs e1;exact zVg h.calm h1 h2 h3
   |_=>cases q
  ·cases es with
   |nil=>cases q;exact⟨zSY,rfl,rfl⟩
   |cons e r =>
    change (if zBa e=true then(cG ar cl n sc e).bind fun g=>(cGs ar cl n sc r).map fun gs=>g::gs else none)=_ at q;split at q
    ·rename_i hs;obtain⟨g,e1,q1⟩:=qA3.mp q;obtain⟨gs',e2,q2⟩:=qA4.mp q1;subst q2;obtain⟨h1,h2,h3⟩:=ihs X sc h r gs' e2;have ha:=zCr (es:=r) (env:=X.env) hs;refine⟨zQj (ih X sc h e g e1) h1 (by rw[ha];rfl),by rw[ha];simp[h2],by rw[ha,qQ4];simp[h3]⟩
    ·cases q
noncomputable def zJe:Expr->Bool
 |.ListComp _ _ _ _=>true
 |.SetComp _ _ _ _=>true
 |.DictComp _ _ _ _ _=>true
 |_=>false
theorem zLq{e:Expr}{t:Option Expr}{n:Nat}{env:Env}(h:zJe e=false):swapsWith e t n env=pure false:=by cases e<;>first|rfl|cases h
noncomputable def zKR:Expr->Expr->Bool
 |.Name _ _,.ListComp _ _ _ _=>false
 |.Tuple _ _ _,.ListComp _ _ _ _=>false
 |_,e=>zJe e
theorem zNX(h:XOk X sc ar cl k):∀{n:Nat}{elt:Expr}{gens:List Comprehension}{scope:Scope}{pos pos' spos:Pos}{x:Str}{c:C}{i:Nat} (q:cE ar cl n sc (.ListComp elt gens scope pos)=some c) (hgo:PG X (.Name x pos') (zKC i))
  (hsw:swapsWith (.ListComp elt gens scope pos) (some (.Name x pos')) spos.line X.env=pure true),PS X (.Assign [.Name x pos'] (.ListComp elt gens scope pos) spos) (tAsg (tOf X.K c) (zKC i))
 |0,_,_,_,_,_,_,_,_,_,q,_,_=>by cases q
 |n+1,elt,gens,scope,pos,pos',spos,x,c,i,q,hgo,hsw=>by
  obtain⟨ihE,ihT⟩:=zMk (ar:=ar) (cl:=cl) (k:=k) n;cases gens with
  |nil=>cases q
  |cons g gs =>
   obtain⟨tg,iter,ifs,ia⟩:=g;cases gs with
   |cons _ _=>cases q
   |nil =>
    change (if ia=0 then zGE sc (zN6 sc ar (cE ar cl n sc) tg iter) (cE ar cl n) (cT ar cl n) tg elt ifs scope else none)=some c at q;split at q
    ·rename_i hz;subst hz;exact zQr h hgo hsw q (fun ci e=>zNV h (ihE X sc h) e) (fun X' sc' h'=>ihE X' sc' h') (fun X' sc' h'=>ihT X' sc' h')
    ·cases q
theorem zMg{elt:Expr}{gens:List Comprehension}{scope:Scope}{pos pos':Pos}{x:Str}{line:Nat}{env:Env}:∃b:Bool,swapsWith (.ListComp elt gens scope pos) (some (.Name x pos')) line env=pure b:=⟨_,rfl⟩
inductive CB(tg e:Expr):Prop
 |no (h:∀n env,swapsWith e (some tg) n env=pure false)
 |yes (x:Str) (pos':Pos) (elt:Expr) (gens:List Comprehension) (scope:Scope) (pos:Pos) (h1:tg=.Name x pos') (h2:e=.ListComp elt gens scope pos)
theorem CB.of{tg e:Expr}(h:zJe e=false):CB tg e:=.no fun _ _=>zLq h
theorem zMX{tg e:Expr}(h:zKR tg e=false):CB tg e:=by
 cases tg with
 |Name x pos' =>
  cases e with
  |ListComp elt gens scope pos=>exact .yes x pos' elt gens scope pos rfl rfl
  |_=>exact .of h
 |Tuple es k pos =>
  cases e with
  |ListComp elt gens scope pos=>exact .no fun _ _=>rfl
  |_=>exact .of h
 |_=>exact .of h
noncomputable def zRc:Expr->Bool
 |.List _ _=>true
 |_=>false
theorem zHc{tg e:Expr}{env:Env}(h:(zBc tg&&zBc e)=false)(hl:zRc tg=false):swappedStores [tg] e env=pure none:=by
 cases tg with
 |Tuple es n pos=>cases e<;>first|rfl|cases h
 |List es pos=>cases hl
 |_=>rfl
noncomputable def zEI(sc:Sc):Expr->Bool
 |.Tuple [.Name x _,.Name y _] _ _=>sc.names.lookup x == some .cell||sc.names.lookup y == some .cell
 |_=>false
theorem zK9{tg:Expr}(h:zEI sc tg=true):∃x px y py k pos,tg=.Tuple [.Name x px,.Name y py] k pos/\(sc.names.lookup x=some .cell∨sc.names.lookup y=some .cell):=by
 unfold zEI at h;split at h
 ·rename_i x px y py k pos;simp only[qI3,beq_iff_eq]at h;exact⟨x,px,y,py,k,pos,rfl,h⟩
 ·cases h
theorem zIM{x y:Str}{px py pos pos2:Pos}{k k2:Nat}{vs:yE}{env:Env}(h:env.scope.names.lookup x=some .cell∨env.scope.names.lookup y=some .cell):swappedStores [.Tuple [.Name x px,.Name y py] k pos] (.Tuple vs k2 pos2) env=pure none:=by
 have hn:(([Expr.Name x px,Expr.Name y py].filterMap fun e=>match e with
  |.Name id p=>if(env.kindOf id == some NameKind.local&&p.line == (([Expr.Name x px,Expr.Name y py].head?.map (·.pos.line)).getD 0))=true then some id else none
  | _=>none).length != 2)=true:=by
  have kx:env.kindOf x=env.scope.names.lookup x:=rfl;have ky:env.kindOf y=env.scope.names.lookup y:=rfl;have hc:(some NameKind.cell == some NameKind.local)=false:=by decide
  rcases h with h|h
  ·simp only[qH8,qQ5,kx,h,hc,qP3,qE6,if_false];split<;>rfl
  ·simp only[qH8,qQ5,ky,h,hc,qP3,qE6,if_false];split<;>rfl
 unfold swappedStores;simp only[pure_bind];split
 ·rfl
 ·split
  ·rfl
  ·rw[if_pos];show(_||_)=true;rw[qI3];exact .inl hn
theorem zFP(h:XOk X sc ar cl k){tg e:Expr}(c2:(zBc tg&&zBc e&&!zEI sc tg)=false)(c3:zRc tg=false):swappedStores [tg] e X.env=pure none:=by
 cases hc:zEI sc tg with
 |false =>
  rw[hc]at c2;exact zHc (by simpa using c2) c3
 |true =>
  obtain⟨x,px,y,py,kk,pos,rfl,hxy⟩:=zK9 hc;cases he:zBc e with
  |false=>exact zHc (by rw[he];rfl) c3
  |true =>
   obtain⟨vs,k2,pt2,rfl⟩:=zOH he;exact zIM (hxy.imp (h.cel x) (h.cel y))
noncomputable def zYR(sc:Sc)(t v:Expr×Expr)(n:Str×Str):Option (Nat×Nat×Expr×Expr) :=
 if n.1≠n.2/\sc.names.lookup n.1=some .local/\sc.names.lookup n.2=some .local/\t.1.pos.line=t.2.pos.line/\zBa v.1=true/\zBa v.2=true/\([v.1,v.2].all (foldedForSure 8))=false/\([v.1,v.2].all (constantsAlone 8))=false then
  (zFd sc.N n.1 0).bind fun i=>(zFd sc.N n.2 0).map fun j=>(i,j,v.1,v.2)
 else none
noncomputable def zQ6:Nat:=100000
section
variable (ar:Str->yK) (cl:Str->yM->M D)
mutual
noncomputable def cSt:Nat->Sc->Stmt->Option CS
 |0,_,_=>none
 |n+1,sc,s=>match s with
  |.Return v _=>match v with
   |none=>some zT9
   |some e=>(cE ar cl n sc e).map fun c=>sRet c
  |.Expr e _=>if zJe e then none else(cE ar cl n sc e).map fun c=>zGT c
  |.Assign tgs e _=>match tgs with
   |[tg] =>
    if zKR tg e||(zBc tg&&zBc e&&!zEI sc tg)||zRc tg||!zBa tg then none else(cE ar cl n sc e).bind fun c=>(cG ar cl n sc tg).map fun g=>sAsg c g
   |_=>none
  |.If t a b _=>(cT ar cl n sc t).bind fun ct=>(cSts n sc a).bind fun ca=>(cSts n sc b).map fun cb=>sIf ct ca cb
  |.For tg it body els _=>match els with
   |[]=>(zN6 sc ar (cE ar cl n sc) tg it).bind fun ci=>(cG ar cl n sc tg).bind fun g=>(cSts n sc body).map fun cb=>sFor ci g cb
   |_::_=>none
  |.While t body els _=>match els with
   |[]=>(cT ar cl n sc t).bind fun ct=>(cSts n sc body).map fun cb=>zDU zQ6 ct cb
   |_::_=>none
  |.Pass _=>some zA5
  |.Break _=>some sBrk
  |.Continue _=>some sCnt
  |.Raise _ _ _=>some sBad
  |_=>none
noncomputable def cSts:Nat->Sc->List Stmt->Option CS
 |0,_,_=>none
 |n+1,sc,ss=>match ss with
  |[]=>some zA5
  |s::r=>(cSt n sc s).bind fun c=>(cSts n sc r).map fun d=>sSeq c d
end
end
inductive ParE(sc:Sc)(tg e:Expr)(r:Nat×Nat×Expr×Expr):Prop
 |mk (x y:Str) (px py pt pt2:Pos) (kt k2:Nat) (v1 v2:Expr) (h1:tg=.Tuple [.Name x px,.Name y py] kt pt) (h2:e=.Tuple [v1,v2] k2 pt2) (hp:zYR sc (.Name x px,.Name y py) (v1,v2) (x,y)=some r)
theorem zO7(h:XOk X sc ar cl k):PassesOwn (model X.prog X.w) X.A X.env X.xe:=by rw[h.xe];exact PassesOwn.never
theorem s_St:∀n:Nat,(∀X sc,XOk X sc ar cl k->∀s c,cSt ar cl n sc s=some c->PS X s (tOfS X c))/\(∀X sc,XOk X sc ar cl k->∀s c,cSts ar cl n sc s=some c->PSs X s (tOfS X c))
 |0=>⟨fun X sc h e c q=>(by cases q),fun X sc h e c q=>(by cases q)⟩
 |n+1=>by
  obtain⟨ih,ihs⟩:=s_St n;refine⟨fun X sc h s c q=>?_,fun X sc h ss c q=>?_⟩
  ·have hf:=(zMk (ar:=ar) (cl:=cl) (k:=k) n).1 X sc h;have ht:=(zMk (ar:=ar) (cl:=cl) (k:=k) n).2 X sc h;have hg:=(s_G (ar:=ar) (cl:=cl) (k:=k) n).1 X sc h;cases s with
   |Return v pos =>
    cases v with
    |none=>cases q;exact zSM
    |some e =>
     obtain⟨ce,e1,q1⟩:=qA4.mp q;subst q1;exact zV7 (hf _ _ e1)
   |Expr e pos =>
    change (if zJe e=true then none else(cE ar cl n sc e).map fun c=>zGT c)=some c at q;split at q
    ·cases q
    ·rename_i hc;obtain⟨ce,e1,q1⟩:=qA4.mp q;subst q1;exact zSO (hf _ _ e1) (zLq (by simpa using hc))
   |Assign tgs e pos =>
    cases tgs with
    |nil=>cases q
    |cons tg r =>
     cases r with
     |cons _ _=>cases q
     |nil =>
      change (if zKR tg e||(zBc tg&&zBc e&&!zEI sc tg)||zRc tg||!zBa tg then none else(cE ar cl n sc e).bind fun c=>(cG ar cl n sc tg).map fun g=>sAsg c g)=some c at q;split at q
      ·cases q
      ·rename_i hc;simp only[qI3,not_or,Bool.not_eq_true,qO0,Bool.not_eq_false]at hc;obtain⟨⟨⟨c1,c2⟩,c3⟩,c4⟩:=hc;obtain⟨ce,e1,q1⟩:=qA3.mp q;obtain⟨g,e2,q2⟩:=qA4.mp q1;subst q2;rcases zMX c1 with c1|⟨x,px,elt,gens,scope,pc,rfl,rfl⟩
       ·refine zRW (hf _ _ e1) (hg _ _ e2) (c1 _ _) (zFP h c2 c3) ?_;rw[zCr (by simpa using c4)];rfl
       ·obtain⟨b,hb⟩:=zMg (elt:=elt) (gens:=gens) (scope:=scope) (pos:=pc) (pos':=px) (x:=x) (line:=pos.line) (env:=X.env);cases b with
        |false=>exact zRW (hf _ _ e1) (hg _ _ e2) hb (zFP h c2 c3) (by rw[zCr (by simpa using c4)];rfl)
        |true =>
         cases n with
         |zero=>cases e2
         |succ n =>
          obtain⟨i,rfl,h1,h2,h3⟩:=s_tg h e2;exact zV6 (zNX h e1 (zHT h.nd' h1 h2 h3) hb)
   |If t a b pos =>
    obtain⟨ct,e0,q1⟩:=qA3.mp q;obtain⟨ca,e1,q2⟩:=qA3.mp q1;obtain⟨cb,e2,q3⟩:=qA4.mp q2;subst q3;exact zYq (ht _ _ e0) (ihs X sc h _ _ e1) (ihs X sc h _ _ e2)
   |For tg it body els pos =>
    cases els with
    |cons _ _=>cases q
    |nil =>
     obtain⟨ci,e0,q1⟩:=qA3.mp q;obtain⟨g,e1,q2⟩:=qA3.mp q1;obtain⟨cb,e2,q3⟩:=qA4.mp q2;subst q3;obtain⟨i1,i2⟩:=zNV h hf e0;exact zV8 (zO7 h) h.calm i1 (hg _ _ e1) (ihs X sc h _ _ e2) (zGq i2)
   |While t body els pos =>
    cases els with
    |cons _ _=>cases q
    |nil =>
     obtain⟨ct,e0,q1⟩:=qA3.mp q;obtain⟨cb,e2,q3⟩:=qA4.mp q1;subst q3;exact zQg zQ6 (zO7 h) (ht _ _ e0) (ihs X sc h _ _ e2)
   |Pass pos=>cases q;exact zSN
   |Break pos=>cases q;exact zVa
   |Continue pos=>cases q;exact zV9
   |Raise a b pos=>cases q;exact zVb
   |_=>cases q
  ·cases ss with
   |nil=>cases q;exact zSL
   |cons s r =>
    obtain⟨c1,e1,q1⟩:=qA3.mp q;obtain⟨c2,e2,q2⟩:=qA4.mp q1;subst q2;exact zQf (ih X sc h _ _ e1) (ihs X sc h _ _ e2)
noncomputable def zAe(n:Nat)(ds:yM):Env1:=ds.map some++qI8 (n - ds.length) none
noncomputable def runF(np nN:Nat)(b:CS):yM->M D:=fun ds S=>if ds.length=np then(match b (zAe nN ds) S with
 |.nx _ S'=>.ok .non S'
 |.rt d S'=>.ok d S'
 |.er c S'=>.er c S'
 | _=>.bad)else .bad
theorem RVs.begins{K:W.Frag}{H:Hp}{μ:yC}{N:yH}{ds:yM}{vs:List V}(r:RVs K H μ ds vs):RE K H μ (zAe N.length ds) (start N vs):=by
 unfold zAe start;refine⟨by simp[r.len],fun i d e=>?_⟩;by_cases hi:i<ds.length
 ·rw[qA8 (by simpa using hi),qC1]at e;rw[qA8 (by rw[qA0,<- r.len];exact hi),qC1];cases q:ds[i]? with
  |none=>rw[q]at e;cases e
  |some d' =>
   rw[q]at e;cases e;obtain⟨v,e1,e2⟩:=r.get q;exact⟨v,by rw[e1];rfl,e2⟩
 ·rw[qA1 (by simpa using hi),qJ0]at e;split at e<;>cases e
noncomputable def fnOk(N ps:yH)(scope:Scope):Bool :=
 decide (scope.kind=.function)&&!scope.isCoroutine&&!scope.isGenerator&&decide N.Nodup&&decide (N.take ps.length=ps)&&ps.all (fun x=>scope.names.lookup x == some .local||scope.names.lookup x == some .cell)&&scope.names.all (fun y=>y.2 != .free)
theorem zMJ{N ps:yH}{scope:Scope}(h:fnOk N ps scope=true):zIB N ps scope:=by
 unfold fnOk at h;simp only[qC9,decide_eq_true_eq,qO0]at h;obtain⟨⟨⟨⟨⟨⟨c1,c2⟩,c3⟩,c4⟩,c5⟩,c6⟩,c7⟩:=h;refine⟨c1,c2,c3,c4,c5,fun x hx=>?_,fun y hy=>?_⟩
 ·have:=qD8.mp c6 x hx;simpa using this
 ·have:=qD8.mp c7 y hy;simpa using this
theorem s_fn{P:Program}{w:World}{K:W.Frag}{mg:Str->yF}{base:Heap}{x:Str}{st:Stmt}{fa:Addr}{fd:FuncData}{N ps:yH}{fuel:Nat}{b:CS}(F:Fun K x x st fa fd)
  (hs:fnOk N ps (zA3 st)=true) (hc:cSts ar cl fuel ⟨N,(zA3 st).names,some x⟩ (zAZ st)=some b)
  (hB:MgOk ar mg)
  (ih:∀y n,ar y=some n->(∃ps,zHH P w K mg base y ps k (spOf K (cl y) n))/\∀ds S d S',cl y ds S=.ok d S'->ds.length=n):FnOk P w K mg base CX0 (k+1) fa fd ps (spOf K (runF ps.length N.length b) ps.length):=by
 have S:=zMJ hs;refine F.ok (k:=k) S (fun vs H Q E h=>h.1) (fun cdv A outer s H vs Q E hr h=>?_);obtain⟨hl,μ,ds,S0,d,S',sr,rv,e,y⟩:=h;have hX:XOk (cxOf CX0 P w K mg base N x (zA3 st) fa cdv A outer s H E).nox ⟨N,(zA3 st).names,some x⟩ ar cl k:={
  calm:=rfl
  N:=rfl
  nd:=S.nd
  gl:=fun x hx=>hx
  loc:=fun x hx=>hx
  cel:=fun x hx=>hx
  fre:=fun x hx=>.inr hx
  fnn:=fun _ x=>rfl
  room:=hr
  xe:=rfl
  blt:=hB
  fns:=ih }
 refine⟨_,(s_St fuel).2 _ _ hX _ _ hc,μ,zAe N.length ds,S0,sr,rv.begins,?_⟩;unfold runF at e;split at e
 ·split at e
  ·rename_i ρ S2 he;cases e;rw[he];exact fun σ' H' μ' sr' st' re'=>y _ H' μ' sr' st' zFU
  ·rename_i d' S2 he;cases e;rw[he];exact y
  ·cases e
  ·cases e
 ·cases e
theorem zYx{P:Program}{w:World}{K:W.Frag}{mg:Str->yF}{base:Heap}{x:Str}{st:Stmt}{fa:Addr}{fd:FuncData}{N ps:yH}{fuel:Nat}{b:CS}(F:Fun K x x st fa fd)(m:mg x=some (.ref fa))(hb:zIC K fd ps [])
  (hs:fnOk N ps (zA3 st)=true) (hc:cSts ar cl fuel ⟨N,(zA3 st).names,some x⟩ (zAZ st)=some b)
  (hB:MgOk ar mg)
  (ih:∀y n,ar y=some n->(∃ps,zHH P w K mg base y ps k (spOf K (cl y) n))/\∀ds S d S',cl y ds S=.ok d S'->ds.length=n):zHH P w K mg base x ps (k+1) (spOf K (runF ps.length N.length b) ps.length) :=
 ⟨fa,fd,s_fn F hs hc hB ih,hb,F.kp,m⟩
end
open PySem PySem.Spec PyProof.Rows
noncomputable abbrev CLL:=Str->yM->M D
noncomputable abbrev Tbl:=List (Str×(Nat×Nat×(CLL->CS)))
noncomputable def arT(tbl:Tbl)(x:Str):yK:=(tbl.lookup x).map (·.1)
noncomputable def zAi(tbl:Tbl):Nat->CLL
 |0,_=>fun _ _=>.bad
 |n+1,x=>match tbl.lookup x with
  |some p=>runF p.1 p.2.1 (p.2.2 (zAi tbl n))
  |none=>fun _ _=>.bad
structure zLf(K:W.Frag)(mg:Str->yF)(ar:Str->yK)(x:Str)(p:Nat×Nat×(CLL->CS)):Prop where
 ex:∃(st:Stmt) (fa:Addr) (fd:FuncData) (N ps:yH) (fuel:Nat),Fun K x x st fa fd/\mg x=some (.ref fa)/\zIC K fd ps []/\fnOk N ps (zA3 st)=true/\ps.length=p.1/\N.length=p.2.1 /\
  ∀cl:CLL,cSts ar cl fuel ⟨N,(zA3 st).names,some x⟩ (zAZ st)=some (p.2.2 cl)
theorem zQs{np nN:Nat}{b:CS}{ds:yM}{S S':zA0}{d:D}(h:runF np nN b ds S=.ok d S'):ds.length=np:=by
 unfold runF at h;split at h
 ·assumption
 ·cases h
theorem zMu{α:Type}{tbl:List (Str×α)}{x:Str}{p:α}(h:tbl.lookup x=some p):(x,p)∈tbl:=by
 induction tbl with
 |nil=>cases h
 |cons y r ih =>
  obtain⟨y1,y2⟩:=y;rw[qD2]at h;split at h
  ·rename_i e;cases h;have:x=y1:=by simpa using e
   subst this;simp
  ·exact qB9 _ (ih h)
theorem zRV{P:Program}{w:World}{K:W.Frag}{mg:Str->yF}{base:Heap}{tbl:Tbl}(hd:∀x p,tbl.lookup x=some p->zLf K mg (arT tbl) x p)(hB:MgOk (arT tbl) mg):
  ∀(k:Nat) (x:Str) (n:Nat),arT tbl x=some n->(∃ps,zHH P w K mg base x ps k (spOf K (zAi tbl k x) n))/\∀ds S d S',zAi tbl k x ds S=.ok d S'->ds.length=n
 |0,x,n,h=>by
  obtain⟨p,hp,rfl⟩:=qA4.mp h;obtain⟨st,fa,fd,N,ps,fuel,F,m,hb,_⟩:=(hd x p hp).ex;have no:∀ds S d S',zAi tbl 0 x ds S=.ok d S'->False:=fun ds S d S' e=>by unfold zAi at e;cases e
  refine⟨⟨ps,fa,fd,⟨fun vs H Q E h=>?_,fun A outer s H args us vs Q E _ _ _ _ h=>?_⟩,hb,F.kp,m⟩,fun ds S d S' e=>(no _ _ _ _ e).elim⟩
  ·obtain⟨_,μ,ds,S,d,S',_,_,e,_⟩:=h;exact(no _ _ _ _ e).elim
  ·obtain⟨_,μ,ds,S,d,S',_,_,e,_⟩:=h;exact(no _ _ _ _ e).elim
 |k+1,x,n,h=>by
  obtain⟨p,hp,rfl⟩:=qA4.mp h;obtain⟨st,fa,fd,N,ps,fuel,F,m,hb,hs,e1,e2,hc⟩:=(hd x p hp).ex;have ih:=zRV (P:=P) (w:=w) (base:=base) hd hB k;have q:=zYx (P:=P) (w:=w) (base:=base) (k:=k) F m hb hs (hc (zAi tbl k)) hB ih;have e3:zAi tbl (k+1) x=runF p.1 p.2.1 (p.2.2 (zAi tbl k)):=by show(match tbl.lookup x with|some p=>runF p.1 p.2.1 (p.2.2 (zAi tbl k))| none=>fun _ _=>.bad)=_;rw[hp]
  rw[e1,e2]at q;rw[e3];exact⟨⟨ps,q⟩,fun ds S d S' e=>zQs e⟩
noncomputable def spL(K:W.Frag):Sp:=fun vs H Q _=>∃(a:Addr) (ns:yA),vs=[.ref a]/\SqF K H a (ns.map V.int)/\ns.length<=63/\∀H',Q (.bl true) H'
theorem zVc{K:W.Frag}{H:Hp}{a:Addr}{xs:List V}(o:Only H)(h:SqL K H a xs):SqF K H a xs:=by
 rcases h with(h|⟨w,h⟩)| h
 ·rcases o a with q|⟨w,ys,q⟩
  ·rw[h]at q;cases q
  ·rw[h]at q;cases q
 ·exact .inl ⟨w,h⟩
 ·exact .inr h
theorem zWt{P:Program}{w:World}{K:W.Frag}{mg:Str->yF}{base:Heap}{tbl:Tbl}{fa:Addr}{fd:FuncData}{st:Stmt}{L nN fuel:Nat}{N:yH}{b:CLL->CS}(hd:∀x p,tbl.lookup x=some p->zLf K mg (arT tbl) x p)(hB:MgOk (arT tbl) mg)
  (hl:tbl.lookup ("law":Str)=some (1,nN,b)) (F:Fun K "law" "law" st fa fd) (hs:fnOk N ["_law_script"] (zA3 st)=true) (hN:N.length=nN) (hc:∀cl:CLL,cSts (arT tbl) cl fuel ⟨N,(zA3 st).names,some "law"⟩ (zAZ st)=some (b cl))
  (hlaw:∀ns:yA,ns.length<=63->∃S',zAi tbl (L+1) "law" [.rol (ns.map D.int)] []=.ok (.bl true) S') :
  FnOk P w K mg base CX0 (L+1) fa fd ["_law_script"] (spL K):=by
 have q:=s_fn (P:=P) (w:=w) (base:=base) (k:=L) F hs (hc (zAi tbl L)) hB (zRV (P:=P) (w:=w) (base:=base) hd hB L);refine q.imp fun vs H Q E h=>?_;obtain⟨a,ns,rfl,hS,hn,hQ⟩:=h;obtain⟨S',e⟩:=hlaw ns hn;have e3:zAi tbl (L+1) "law"=runF 1 nN (b (zAi tbl L)):=by show(match tbl.lookup ("law":Str)with|some p=>runF p.1 p.2.1 (p.2.2 (zAi tbl L))| none=>fun _ _=>.bad)=_;rw[hl]
 rw[e3]at e;refine⟨rfl,[],[.rol (ns.map D.int)],[],.bl true,S',⟨rfl,qP4,fun n a o h=>by simp at h⟩,.cons (by unfold RV;exact⟨a,_,rfl,hS,RVs.ints⟩) .nil,by rw[hN];exact e,fun v H' μ' _ _ r=>?_⟩;unfold RV at r;subst r;exact hQ H'
theorem walk_ev{l:W.OpenLaw}{q:Program}{loose:yH}{XP:(Str->yF)->Heap->Prop}{YP:World->Heap->Prop}{d:DefRec}{K:Params->W.Frag}{L:Nat}(hn:l.most=some 63)(hdf:d.params.defaults=[])(hr:Room L callerA)
  (hY:∀(w:World) (h:Heap),YP w h->(K w.params).In h)
  (F:∀(w:World) (mg:Str->yF) (fa:Addr) (h:Heap),(K w.params).In h->h.Ns mainGlobals mg->mg d.name=some (.ref fa) ->
   ∃fd:FuncData,(∀(s:Shared) (u:Value),BindsTo s fd ⟨[u],[]⟩ [("_law_script",u)])/\∀base:Heap,(K w.params).In base->base.Ns mainGlobals mg->FnOk l.prog w (K w.params) mg base CX0 L fa fd ["_law_script"] (spL (K w.params))) :
  W.WalkO q loose XP YP l.row.toRowW d [] (fun f vs=>PySem.call f vs) :=
 L2.walk_of (n:=63) (k:=L) (x := "_law_script") (CX:=fun _=>CX0) (sp:=fun w=>spL (K w.params)) hn (by decide) hdf hr hY F (fun _ _ a ns hl o hS=>⟨a,ns,rfl,zVc o hS,hl,fun _=>rfl⟩) fun _ _ _ _ _ z=>z
open PySem
def zNl(K:W.Frag)(mg:Str->yF)(ar:Str->yK):Tbl->Prop
 |[]=>True
 |e::r=>zLf K mg ar e.1 e.2/\zNl K mg ar r
theorem zNl.mem{K:W.Frag}{mg:Str->yF}{ar:Str->yK}:∀{t:Tbl},zNl K mg ar t->∀x p,(x,p)∈t->zLf K mg ar x p
 |[],_,x,p,h=>by cases h
 |e::r,⟨a,b⟩,x,p,h=>by
  rcases qC0.mp h with q|q
  ·subst q;exact a
  ·exact b.mem x p q
theorem zNl.look{K:W.Frag}{mg:Str->yF}{ar:Str->yK}{t:Tbl}(h:zNl K mg ar t)(x:Str)(p:Nat×Nat×(CLL->CS))(e:t.lookup x=some p):zLf K mg ar x p:=h.mem x p (zMu e)
theorem zX7{K:W.Frag}{mg:Str->yF}{ar:Str->yK}{x:Str}{st:Stmt}{fa:Addr}{fd:FuncData}{N ps:yH}{fuel np nN:Nat}{b:CLL->CS}(F:Fun K x x st fa fd)(m:mg x=some (.ref fa))(hb:zIC K fd ps [])(hs:fnOk N ps (zA3 st)=true)
  (hc:(fun cl:CLL=>cSts ar cl fuel ⟨N,(zA3 st).names,some x⟩ (zAZ st))=fun cl=>some (b cl)) (h1:ps.length=np:=by rfl) (h2:N.length=nN:=by rfl):zLf K mg ar x (np,nN,b) :=
 ⟨st,fa,fd,N,ps,fuel,F,m,hb,hs,h1,h2,fun cl=>congrFun hc cl⟩
def zID(mg:Str->yF):yH->Prop
 |[]=>True
 |x::r=>mg x=none/\zID mg r
theorem zID.mem{mg:Str->yF}:∀{l:yH},zID mg l->∀x∈l,mg x=none
 |[],_,x,h=>by cases h
 |e::r,⟨a,b⟩,x,h=>by
  rcases qC0.mp h with q|q
  ·subst q;exact a
  ·exact b.mem x q
open PySem
inductive Tg{γ:Type}(f:γ):Type where
 |mk
noncomputable def rbnd{α β:Type}(r:R α)(f:α->zA0->R β)(_:Tg f):R β:=match r with
 |.bad=>.bad
 |.er c S=>.er c S
 |.ok a S=>f a S
@[simp] theorem zAW{α β:Type}(a:α)(S:zA0)(f:α->zA0->R β):rbnd (.ok a S) f .mk=f a S:=rfl
@[simp] theorem zXJ{α β:Type}(f:α->zA0->R β):rbnd .bad f .mk=.bad:=rfl
@[simp] theorem zC1{α β:Type}(m:M α)(f:α->M β)(S:zA0):bnd m f S=rbnd (m S) f .mk:=rfl
@[simp] theorem zVw{α:Type}(a:α)(S:zA0):ret a S=.ok a S:=rfl
@[simp] theorem za9{α:Type}(S:zA0):(bad:M α) S=.bad:=rfl
noncomputable def rs{α:Type}(r:R α)(f:α->zA0->RS)(_:Tg f):RS:=match r with
 |.bad=>.bad
 |.er _ _=>.bad
 |.ok a S=>f a S
@[simp] theorem zae{α:Type}(a:α)(S:zA0)(f:α->zA0->RS):rs (.ok a S) f .mk=f a S:=rfl
@[simp] theorem za2{α:Type}(f:α->zA0->RS):rs .bad f .mk=.bad:=rfl
noncomputable def sb(r:RS)(f:CS)(_:Tg f):RS:=match r with
 |.nx ρ S=>f ρ S
 |r=>r
@[simp] theorem zab(ρ:Env1)(S:zA0)(f:CS):sb (.nx ρ S) f .mk=f ρ S:=rfl
@[simp] theorem zaa(d:D)(S:zA0)(f:CS):sb (.rt d S) f .mk=.rt d S:=rfl
@[simp] theorem zad(ρ:Env1)(S:zA0)(f:CS):sb (.bk ρ S) f .mk=.bk ρ S:=rfl
@[simp] theorem zac(ρ:Env1)(S:zA0)(f:CS):sb (.ct ρ S) f .mk=.ct ρ S:=rfl
@[simp] theorem zKc(a b:CS)(ρ:Env1)(S:zA0):sSeq a b ρ S=sb (a ρ S) b .mk:=by unfold sSeq sb;cases a ρ S<;>rfl
@[simp] theorem zXH(ρ:Env1)(S:zA0):zA5 ρ S=.nx ρ S:=rfl
@[simp] theorem zYz(ρ:Env1)(S:zA0):sBrk ρ S=.bk ρ S:=rfl
@[simp] theorem zYy(ρ:Env1)(S:zA0):sCnt ρ S=.ct ρ S:=rfl
@[simp] theorem zXG(ρ:Env1)(S:zA0):zT9 ρ S=.rt .non S:=rfl
@[simp] theorem zT8(c:C)(ρ:Env1)(S:zA0):sRet c ρ S=rs (c ρ S) (fun d S'=>.rt d S') .mk:=by unfold sRet rs;cases c ρ S<;>rfl
@[simp] theorem zXI(c:C)(ρ:Env1)(S:zA0):zGT c ρ S=rs (c ρ S) (fun _ S'=>.nx ρ S') .mk:=by unfold zGT rs;cases c ρ S<;>rfl
@[simp] theorem zYA(c:C)(g:G)(ρ:Env1)(S:zA0):sAsg c g ρ S=rs (c ρ S) (fun d S1=>rs (g d ρ S1) (fun ρ' S2=>.nx ρ' S2) .mk) .mk:=by
 unfold sAsg rs;cases c ρ S with
 |ok d S1=>dsimp only;cases g d ρ S1<;>rfl
 |_=>rfl
@[simp] theorem za1(t:CT)(a b:CS)(ρ:Env1)(S:zA0):sIf t a b ρ S=rs (t ρ S) (fun k S'=>if k then a ρ S' else b ρ S') .mk:=by unfold sIf rs;cases t ρ S<;>rfl
@[simp] theorem zTa(it:CI)(g:G)(b:CS)(ρ:Env1)(S:zA0):sFor it g b ρ S=rs (it ρ S) (fun p S1=>zBb p.2 g b p.1 ρ S1) .mk:=by
 unfold sFor rs;cases it ρ S with
 |ok p S1=>obtain⟨a,b⟩:=p;rfl
 |_=>rfl
@[simp] theorem zah(i:Nat)(d:D)(ρ:Env1)(S:zA0):gN i d ρ S=.ok (ρ.set i (some d)) S:=rfl
noncomputable def mo{α:Type}(o:Option α)(S':α->zA0)(ρ:Env1):R Env1:=match o with
 |some x=>.ok ρ (S' x)
 |none=>.bad
@[simp] theorem zag(co ci:C)(d:D)(ρ:Env1)(S:zA0):gS co ci d ρ S=rbnd (co ρ S) (fun o S1=>rbnd (ci ρ S1) (fun i S2=>mo (oSet o i d S2) (fun x=>x) ρ) .mk) .mk:=by
 unfold gS;rw[zC1];cases co ρ S with
 |bad=>rfl
 |er _ _=>rfl
 |ok o S1 =>
  rw[zAW,zAW,zC1];cases ci ρ S1 with
  |bad=>rfl
  |er _ _=>rfl
  |ok i S2 =>
   rw[zAW,zAW];cases h:oSet o i d S2<;>rfl
@[simp] theorem zZj{α:Type}(x:α)(f:α->zA0)(ρ:Env1):mo (some x) f ρ=.ok ρ (f x):=rfl
@[simp] theorem zaf(gs:List G)(xs:yM)(ρ:Env1)(S:zA0):gT gs (.tup xs) ρ S=gTs gs xs ρ S:=rfl
@[simp] theorem zZw(ρ:Env1)(S:zA0):gTs [] [] ρ S=.ok ρ S:=rfl
@[simp] theorem zXW(g:G)(gs:List G)(x:D)(xs:yM)(ρ:Env1)(S:zA0):gTs (g::gs) (x::xs) ρ S=rbnd (g x ρ S) (fun ρ1 S1=>gTs gs xs ρ1 S1) .mk:=rfl
@[simp] theorem zUl(i:Nat)(ρ:Env1)(S:zA0):cVar i ρ S=match ρ[i]? with|some (some d)=>.ok d S|_=>.bad:=rfl
@[simp] theorem zUp(d:D)(ρ:Env1)(S:zA0):cCon d ρ S=.ok d S:=rfl
@[simp] theorem zUq(o:D->D->M D)(a b:C)(ρ:Env1)(S:zA0):cBin o a b ρ S=rbnd (a ρ S) (fun x S1=>rbnd (b ρ S1) (fun y S2=>o x y S2) .mk) .mk:=rfl
@[simp] theorem za6(o:D->M D)(a:C)(ρ:Env1)(S:zA0):cUn o a ρ S=rbnd (a ρ S) o .mk:=rfl
@[simp] theorem zJJ(ρ:Env1)(S:zA0):zA1 [] ρ S=.ok [] S:=rfl
@[simp] theorem zHC(c:C)(cs:List C)(ρ:Env1)(S:zA0):zA1 (c::cs) ρ S=rbnd (c ρ S) (fun x S1=>rbnd (zA1 cs ρ S1) (fun xs S2=>.ok (x::xs) S2) .mk) .mk:=rfl
@[simp] theorem zPN(o:yM->M D)(a:CA)(ρ:Env1)(S:zA0):cApp o a ρ S=rbnd (a ρ S) o .mk:=rfl
@[simp] theorem zZG(a:CA)(ρ:Env1)(S:zA0):cTup a ρ S=rbnd (a ρ S) (fun xs S1=>.ok (.tup xs) S1) .mk:=rfl
@[simp] theorem zUn(a:CA)(ρ:Env1)(S:zA0):cLst a ρ S=rbnd (a ρ S) (fun xs S1=>.ok (.lst S1.length) (S1++[.lst xs])) .mk:=rfl
@[simp] theorem za8(t:CT)(a b:C)(ρ:Env1)(S:zA0):cIf t a b ρ S=rbnd (t ρ S) (fun k S1=>if k then a ρ S1 else b ρ S1) .mk:=by
 unfold cIf;rw[zC1];cases t ρ S with
 |ok k S1=>cases k<;>rfl
 |bad=>rfl
 |er _ _=>rfl
@[simp] theorem zY9(a:C)(ρ:Env1)(S:zA0):zAx a ρ S=rbnd (a ρ S) (fun x S1=>dB x S1) .mk:=rfl
@[simp] theorem zai(b:Bool)(S:zA0):dB (.bl b) S=.ok b S:=rfl
@[simp] theorem zYa(a b:C)(ρ:Env1)(S:zA0):zN8 a b ρ S=rbnd (zAx a ρ S) (fun k S1=>if k then b ρ S1 else .ok (.bl false) S1) .mk:=by
 unfold zN8;rw[zC1];cases zAx a ρ S with
 |ok k S1=>cases k<;>rfl
 |bad=>rfl
 |er _ _=>rfl
@[simp] theorem zZI(a b:C)(ρ:Env1)(S:zA0):cOrV a b ρ S=rbnd (zAx a ρ S) (fun k S1=>if k then .ok (.bl true) S1 else b ρ S1) .mk:=by
 unfold cOrV;rw[zC1];cases zAx a ρ S with
 |ok k S1=>cases k<;>rfl
 |bad=>rfl
 |er _ _=>rfl
@[simp] theorem zY4(a:C)(ρ:Env1)(S:zA0):zPJ a ρ S=rbnd (zAx a ρ S) (fun k S1=>.ok (.bl (!k)) S1) .mk:=rfl
@[simp] theorem zYb(a b:CT)(ρ:Env1)(S:zA0):zL3 a b ρ S=rbnd (a ρ S) (fun k S1=>if k then b ρ S1 else .ok false S1) .mk:=by
 unfold zL3;rw[zC1];cases a ρ S with
 |ok k S1=>cases k<;>rfl
 |bad=>rfl
 |er _ _=>rfl
@[simp] theorem zZJ(a b:CT)(ρ:Env1)(S:zA0):cOrT a b ρ S=rbnd (a ρ S) (fun k S1=>if k then .ok true S1 else b ρ S1) .mk:=by
 unfold cOrT;rw[zC1];cases a ρ S with
 |ok k S1=>cases k<;>rfl
 |bad=>rfl
 |er _ _=>rfl
@[simp] theorem zY5(a:CT)(ρ:Env1)(S:zA0):zEv a ρ S=rbnd (a ρ S) (fun k S1=>.ok (!k) S1) .mk:=rfl
@[simp] theorem zXe(o o':D->D->M D)(a b c:C)(ρ:Env1)(S:zA0):zHB o o' a b c ρ S=rbnd (a ρ S) (fun x S1=>rbnd (b ρ S1) (fun y S2=>rbnd (o x y S2) (fun z S3=>rbnd (dB z S3) (fun k S4=>if k then rbnd (c ρ S4) (fun w S5=>o' y w S5) .mk else .ok (.bl false) S4) .mk) .mk) .mk) .mk:=by
 unfold zHB;rw[zC1];cases a ρ S with
 |bad=>rfl
 |er _ _=>rfl
 |ok x S1 =>
  rw[zAW,zAW,zC1];cases b ρ S1 with
  |bad=>rfl
  |er _ _=>rfl
  |ok y S2 =>
   rw[zAW,zAW,zC1];cases o x y S2 with
   |bad=>rfl
   |er _ _=>rfl
   |ok z S3 =>
    rw[zAW,zAW,zC1];cases dB z S3 with
    |bad=>rfl
    |er _ _=>rfl
    |ok k S4=>cases k<;>rfl
@[simp] theorem zZH(a:C)(ρ:Env1)(S:zA0):cTru a ρ S=rbnd (a ρ S) (fun x S1=>dTru x S1) .mk:=rfl
@[simp] theorem zZD(b:Bool)(S:zA0):dTru (.bl b) S=.ok b S:=rfl
@[simp] theorem zY1(i:Int)(S:zA0):dTru (.int i) S=.ok (i != 0) S:=rfl
@[simp] theorem zY0(xs:yM)(S:zA0):dTru (.tup xs) S=.ok (!xs.isEmpty) S:=rfl
@[simp] theorem zUI(ρ:Env1)(S:zA0):zF4 ρ S=.ok none S:=rfl
@[simp] theorem zY3(a:C)(ρ:Env1)(S:zA0):zH4 a ρ S=rbnd (a ρ S) (fun x S1=>rbnd (dInt x S1) (fun i S2=>.ok (some i) S2) .mk) .mk:=rfl
@[simp] theorem zZE(i:Int)(S:zA0):dInt (.int i) S=.ok i S:=rfl
@[simp] theorem za7(o:D->yG->yG->M D)(a:C)(lo hi:CO)(ρ:Env1)(S:zA0):cSl o a lo hi ρ S=rbnd (a ρ S) (fun x S1=>rbnd (lo ρ S1) (fun l S2=>rbnd (hi ρ S2) (fun h S3=>o x l h S3) .mk) .mk) .mk:=rfl
@[simp] theorem zY6(T:String)(o:D->yM->M D)(a:C)(as:CA)(ρ:Env1)(S:zA0):zGD T o a as ρ S=rbnd (a ρ S) (fun x S1=>if tyOk T x S1 then rbnd (as ρ S1) (fun xs S2=>o x xs S2) .mk else .bad) .mk:=rfl
@[simp] theorem zZu(c:C)(ρ:Env1)(S:zA0):iSeq c ρ S=rbnd (c ρ S) (fun x S1=>match x with
 |.tup xs=>.ok (xs,[]) S1
 |.lst n=>match zA4 S1 n with
  |some xs=>.ok (xs,[(n,xs)]) S1
  |none=>.bad
 | _=>.bad) .mk:=rfl
@[simp] theorem zUD(a:CA)(ρ:Env1)(S:zA0):zDx a ρ S=rbnd (a ρ S) (fun xs S1=>match xs with
 |[.int j]=>if -4611686018427387904<=j/\j<4611686018427387904 then .ok (upD 0 j.toNat,[]) S1 else .bad
 | _=>.bad) .mk:=rfl
@[simp] theorem zUC(a:CA)(ρ:Env1)(S:zA0):zI7 a ρ S=rbnd (a ρ S) (fun xs S1=>match xs with
 |[.int i,.int j]=>if -4611686018427387904<=i/\i<4611686018427387904/\-4611686018427387904<=j/\j<4611686018427387904 then .ok (upD i (j - i).toNat,[]) S1 else .bad
 | _=>.bad) .mk:=rfl
@[simp] theorem zXV(a:CA)(ρ:Env1)(S:zA0):zRj a ρ S=rbnd (a ρ S) (fun xs S1=>match xs with
 |[x,y]=>match zsAt S1 x,zsAt S1 y with
  |some ys,some zs=>.ok (zipD ys zs,zDd x ys++zDd y zs) S1
  |_,_=>.bad
 | _=>.bad) .mk:=rfl
@[simp] theorem zSC(n:Nat)(xs:yM):zDd (.lst n) xs=[(n,xs)]:=rfl
@[simp] theorem zSB(ys:yM)(xs:yM):zDd (.tup ys) xs=[]:=rfl
@[simp] theorem zXF(S:zA0)(n:Nat):zsAt S (.lst n)=zA4 S n:=rfl
@[simp] theorem zXE(S:zA0)(xs:yM):zsAt S (.tup xs)=some xs:=rfl
@[simp] theorem zWR(a:CA)(ρ:Env1)(S:zA0):zGl a ρ S=rbnd (a ρ S) (fun xs S1=>match xs with
 |[.tup ys]=>.ok (zD0 ys,[]) S1
 |[.lst n]=>match zA4 S1 n with
  |some ys=>.ok (zD0 ys,[(n,ys)]) S1
  |none=>.bad
 | _=>.bad) .mk:=rfl
@[simp] theorem zRK(it:CI)(k:Nat)(js:List Nat)(t:Tgt)(tc:CT)(c:C)(ρ:Env1)(S:zA0):zBe it k js t tc c ρ S=rbnd (it ρ S) (fun p S1=>if p.1.length<lim then rbnd (zAd p.2 t tc c (stE k js ρ) p.1 S1) (fun ys S'=>.ok (.lst S'.length) (S'++[.lst ys])) .mk else .bad) .mk:=rfl
@[simp] theorem zY8(ρ:Env1)(S:zA0):zN7 ρ S=.ok (.dct S.length) (S++[.dk []]):=rfl
@[simp] theorem zY7(a b:C)(ρ:Env1)(S:zA0):zRJ a b ρ S=rbnd (a ρ S) (fun x S1=>rbnd (b ρ S1) (fun y S2=>match zDa x with
 |some k=>.ok (.dct S2.length) (S2++[.dk [(k,y)]])
 | none=>.bad) .mk) .mk:=rfl
@[simp] theorem zXT(i j:Int)(S:zA0):oAdd (.int i) (.int j) S=.ok (.int (i+j)) S:=rfl
@[simp] theorem zXS(xs ys:yM)(S:zA0):oAdd (.tup xs) (.tup ys) S=if xs.length+ys.length<=lim then .ok (.tup (xs++ys)) S else .bad:=rfl
@[simp] theorem zZe(g:Int->Int->Int)(i j:Int)(S:zA0):oInt g (.int i) (.int j) S=.ok (.int (g i j)) S:=rfl
@[simp] theorem zXO(i j:Int)(S:zA0):oMul (.int i) (.int j) S=if zER i j then .ok (.int (i*j)) S else .bad:=rfl
@[simp] theorem zXP(i j:Int)(S:zA0):oMod (.int i) (.int j) S=if 0<j then .ok (.int (i % j)) S else .bad:=rfl
@[simp] theorem zXQ(i j:Int)(S:zA0):oDiv (.int i) (.int j) S=if 0<j/\j<1073741824 then .ok (.int (i / j)) S else .bad:=rfl
@[simp] theorem zXM(i j:Int)(S:zA0):oPow (.int i) (.int j) S=if 0<=j/\j<=1000000/\i.natAbs<18446744073709551616 then .ok (.int (i ^ j.toNat)) S else .bad:=rfl
@[simp] theorem zXL(i j:Int)(S:zA0):oShl (.int i) (.int j) S=if 0<=j/\j<=1000000/\i.natAbs<18446744073709551616 then .ok (.int (i*2 ^ j.toNat)) S else .bad:=rfl
@[simp] theorem zXK(i j:Int)(S:zA0):oShr (.int i) (.int j) S=if 0<=j then .ok (.int (i / 2 ^ j.toNat)) S else .bad:=rfl
@[simp] theorem zXN(i:Int)(S:zA0):oNeg (.int i) S=.ok (.int (-i)) S:=rfl
@[simp] theorem zXR(g:Int->Int->Bool)(i j:Int)(S:zA0):oCmp g (.int i) (.int j) S=.ok (.bl (g i j)) S:=rfl
@[simp] theorem zZb(i j:Int)(S:zA0):oLt (.int i) (.int j) S=.ok (.bl (decide (i<j))) S:=rfl
theorem zP9(i j:Int):PyData.eqv (.int i) (.int j)=decide (i=j):=by show(i == j)=decide (i=j);rfl
@[simp] theorem zZf(i j:Int)(S:zA0):oEq (.int i) (.int j) S=.ok (.bl (decide (i=j))) S:=by show R.ok (D.bl (PyData.eqv (.int i) (.int j))) S=_;rw[zP9]
@[simp] theorem zZa(i j:Int)(S:zA0):oNe (.int i) (.int j) S=.ok (.bl (!decide (i=j))) S:=by show R.ok (D.bl (!PyData.eqv (.int i) (.int j))) S=_;rw[zP9]
@[simp] theorem za5(i j:Bool)(S:zA0):oEq (.bl i) (.bl j) S=.ok (.bl (i == j)) S:=by show R.ok (D.bl (PyData.eqv (.bool i) (.bool j))) S=_;cases i<;>cases j<;>rfl
@[simp] theorem za3(i j:Bool)(S:zA0):oNe (.bl i) (.bl j) S=.ok (.bl (i != j)) S:=by show R.ok (D.bl (!PyData.eqv (.bool i) (.bool j))) S=_;cases i<;>cases j<;>rfl
@[simp] theorem zZd(x:D)(S:zA0):oIs x .non S=.ok (.bl x.isNon) S:=by cases x<;>rfl
@[simp] theorem zUB(x:D)(S:zA0):zHj x .non S=.ok (.bl (!x.isNon)) S:=by cases x<;>rfl
@[simp] theorem za4(a b:Bool)(S:zA0):oIs (.bl a) (.bl b) S=.ok (.bl (a == b)) S:=rfl
@[simp] theorem zWi(a b:Bool)(S:zA0):zHj (.bl a) (.bl b) S=.ok (.bl (a != b)) S:=rfl
@[simp] theorem zZA(i j:Int)(S:zA0):fMin [.int i,.int j] S=.ok (.int (if j<i then j else i)) S:=rfl
@[simp] theorem zZB(i j:Int)(S:zA0):fMax [.int i,.int j] S=.ok (.int (if j>i then j else i)) S:=rfl
@[simp] theorem zXZ(i:Int)(S:zA0):fInt [.int i] S=.ok (.int i) S:=rfl
@[simp] theorem zZC(b:Bool)(S:zA0):fInt [.bl b] S=.ok (.int (if b then 1 else 0)) S:=rfl
@[simp] theorem zUG(xs:yM)(S:zA0):zCk [.tup xs] S=.ok (.tup xs) S:=rfl
theorem zCb{n:Nat}{xs:yM}{S:zA0}(h:zA4 S n=some xs):zCk [.lst n] S=.ok (.tup xs) S:=by show(match zA4 S n with|some ys=>R.ok (D.tup ys) S|none=>.bad)=_;rw[h]
@[simp] theorem zXX(xs:yM)(S:zA0):fLen [.tup xs] S=.ok (.int xs.length) S:=rfl
@[simp] theorem zXY(xs:yM)(S:zA0):fLen [.rol xs] S=.ok (.int xs.length) S:=rfl
theorem zFE{n:Nat}{xs:yM}{S:zA0}(h:zA4 S n=some xs):fLen [.lst n] S=.ok (.int xs.length) S:=by show(match zHM S (.lst n)with|some ys=>R.ok (D.int ys.length) S|none=>.bad)=_;show(match zA4 S n with|some ys=>R.ok (D.int ys.length) S|none=>.bad)=_;rw[h]
@[simp] theorem zWY(xs:yM)(S:zA0):zP8 [.tup xs] S=.ok (.lst S.length) (S++[.lst xs]):=rfl
@[simp] theorem zKk(xs:yM)(j:Int)(S:zA0):oIx (.tup xs) (.int j) S=match atI xs j with|some d=>.ok d S|none=>.bad:=rfl
@[simp] theorem zZc(xs:yM)(j:Int)(S:zA0):oIx (.rol xs) (.int j) S=match atI xs j with|some d=>.ok d S|none=>.bad:=rfl
theorem zCW{n:Nat}{xs:yM}{S:zA0}(h:zA4 S n=some xs)(j:Int):oIx (.lst n) (.int j) S=match atI xs j with|some d=>.ok d S|none=>.bad:=by show(match zA4 S n,D.int j with|some xs,.int j=>(match atI xs j with|some d=>R.ok d S|none=>.bad)| _,_=>.bad)=_;rw[h]
@[simp] theorem zZ9(xs:yM)(lo hi:yG)(S:zA0):oSl (.tup xs) lo hi S=.ok (.tup (cutD xs lo hi)) S:=rfl
theorem zOh{n:Nat}{xs:yM}{S:zA0}(h:zA4 S n=some xs)(lo hi:yG):oSl (.lst n) lo hi S=.ok (.lst S.length) (S++[.lst (cutD xs lo hi)]):=by show(match zA4 S n with|some xs=>R.ok (D.lst S.length) (S++[O.lst (cutD xs lo hi)])| none=>.bad)=_;rw[h]
@[simp] theorem zam{α:Type}(x:α)(xs:List α):atI (x::xs) 0=some x:=zCq (j:=0) rfl
@[simp] theorem zal{α:Type}(x y:α)(xs:List α):atI (x::y::xs) 1=some y:=zCq (j:=1) rfl
@[simp] theorem zak{α:Type}(x y z:α)(xs:List α):atI (x::y::z::xs) 2=some z:=zCq (j:=2) rfl
@[simp] theorem zaj{α:Type}(x y z w:α)(xs:List α):atI (x::y::z::w::xs) 3=some w:=zCq (j:=3) rfl
structure Kp(P:Nat->Prop)(S S':zA0):Prop where
 le:S.length<=S'.length
 eq:∀j,j<S.length->¬P j->S'[j]?=S[j]?
noncomputable abbrev Ex:zA0->zA0->Prop:=Kp fun _=>False
inductive Spc{α:Type}(m:R α)(r:α)(S:zA0):Prop
 |mk (S1:zA0) (e:m=.ok r S1) (x:Ex S S1)
theorem Kp.refl(P:Nat->Prop)(S:zA0):Kp P S S:=⟨qB1 _,fun _ _ _=>rfl⟩
theorem Kp.trans{P:Nat->Prop}{S S1 S2:zA0}(a:Kp P S S1)(b:Kp P S1 S2):Kp P S S2:=⟨qD3 a.le b.le,fun j h n=>(b.eq j (qC4 h a.le) n).trans (a.eq j h n)⟩
theorem Ex.kp{P:Nat->Prop}{S S':zA0}(h:Ex S S'):Kp P S S':=⟨h.le,fun j hj _=>h.eq j hj (fun z=>z)⟩
theorem Kp.kp{P:Nat->Prop}{S S':zA0}(h:Kp (fun _=>False) S S'):Kp P S S':=⟨h.le,fun j hj _=>h.eq j hj (fun z=>z)⟩
theorem zA6(S T:zA0):Ex S (S++T):=⟨by simp,fun j h _=>qA8 h⟩
theorem zFh{i:Nat}(S:zA0)(o:O):Kp (·=i) S (S.set i o):=⟨by simp,fun j h n=>qF1 fun z=>n z.symm⟩
theorem Kp.at{P:Nat->Prop}{S S':zA0}(h:Kp P S S'){j:Nat}{o:O}(e:S[j]?=some o)(n:¬P j):S'[j]?=some o:=by rw[h.eq j (qA2.mp e).1 n];exact e
theorem zAN{S:zA0}{n:Nat}{xs:yM}(h:zA4 S n=some xs):S[n]?=some (.lst xs):=by
 unfold zA4 at h;split at h
 ·rename_i ys e;cases h;exact e
 ·cases h
theorem zEn{S:zA0}{n:Nat}{xs:yM}(h:S[n]?=some (.lst xs)):zA4 S n=some xs:=by unfold zA4;rw[h]
theorem Kp.lst{P:Nat->Prop}{S S':zA0}(h:Kp P S S'){j:Nat}{xs:yM}(e:zA4 S j=some xs)(n:¬P j):zA4 S' j=some xs:=zEn (h.at (zAN e) n)
theorem zEo{S:zA0}{n:Nat}{xs:yM}(h:zA4 S n=some xs):n<S.length:=(qA2.mp (zAN h)).1
@[simp] theorem zA2(S:zA0)(xs:yM):zA4 (S++[.lst xs]) S.length=some xs:=zEn (by rw[qA1 (qB1 _),qK3];rfl)
theorem zAq{S T:zA0}{n:Nat}{xs:yM}(h:zA4 S n=some xs):zA4 (S++T) n=some xs:=(zA6 S T).lst h fun z=>z
theorem zDr{S:zA0}{n:Nat}{xs ys:yM}(h:zA4 S n=some xs):zA4 (S.set n (.lst ys)) n=some ys:=zEn (qE2 (zEo h))
theorem zFA{S:zA0}{n:Nat}{xs:yM}(h:zA4 S n=some xs):tyOk "list" (.lst n) S=true:=by show(decide ("list" = "list")&&(zA4 S n).isSome)=true;rw[h];rfl
theorem zI0{S:zA0}{n:Nat}{ys:yM}(h:zA4 S n=some ys)(g:yM->yM->Option (yM×D))(xs:yM):zG3 g (.lst n) xs S=match g ys xs with|some p=>.ok p.2 (S.set n (.lst p.1))| none=>.bad:=by
 unfold zG3;dsimp only;rw[zAN h];dsimp only;cases g ys xs with
 |none=>rfl
 |some p=>rfl
@[simp] theorem zUF(ys:yM)(x:D):zDy ys [x]=if ys.length<lim then some (ys++[x],.non)else none:=rfl
@[simp] theorem zUE(ys:yM)(i:Int)(x:D):zF0 ys [.int i,x]=if ys.length<1000/\0<=i/\i.toNat<=ys.length then some (ys.take i.toNat++x::ys.drop i.toNat,.non)else none:=rfl
theorem zLz{S:zA0}{n:Nat}{ys:yM}(h:zA4 S n=some ys)(k:Int)(v:D):oSet (.lst n) (.int k) v S=match ixN ys.length k with|some j=>some (S.set n (.lst (ys.set j v)))| none=>none:=by
 unfold oSet;dsimp only;rw[zAN h]
 all_goals (dsimp only;cases ixN ys.length k<;>rfl)
theorem zAh(S:zA0):okW [] S:=fun p h=>by cases h
theorem zAQ{S:zA0}{n:Nat}{xs:yM}(h:zA4 S n=some xs):okW [(n,xs)] S:=fun p hp=>by simp at hp;subst hp;exact h
theorem zTC{S:zA0}{n m:Nat}{xs ys:yM}(h:zA4 S n=some xs)(h2:zA4 S m=some ys):okW [(n,xs),(m,ys)] S:=fun p hp=>by
 simp at hp;rcases hp with rfl|rfl
 ·exact h
 ·exact h2
theorem zOr{w:zDb}{g:G}{b:CS}:∀(items:yM) (P:Nat->Env1->zA0->Prop) {ρ:Env1}{S:zA0} (k:Nat),(∀i ρ S,P i ρ S->okW w S)->P k ρ S ->
  (∀i d ρ S,items[i]?=some d->P (k+i) ρ S->∃ρ1 S1,g d ρ S=.ok ρ1 S1/\∃ρ2 S2,(b ρ1 S1=.nx ρ2 S2∨b ρ1 S1=.ct ρ2 S2)/\P (k+i+1) ρ2 S2)->∃ρ' S',zBb w g b items ρ S=.nx ρ' S'/\P (k+items.length) ρ' S'
 |[],P,ρ,S,k,hw,h0,hs=>⟨ρ,S,by unfold zBb;rw[if_pos (hw k ρ S h0)],by simpa using h0⟩
 |d::ds,P,ρ,S,k,hw,h0,hs=>by
  obtain⟨ρ1,S1,e1,ρ2,S2,e2,p2⟩:=hs 0 d ρ S rfl (by simpa using h0);obtain⟨ρ',S',e3,p3⟩:=zOr ds P (k+1) hw (by simpa using p2) (fun i d' ρ S hi hp=>by
   obtain⟨ρ1,S1,q1,ρ2,S2,q2,q3⟩:=hs (i+1) d' ρ S (by rw[qD6];exact hi) (by rw[show k+(i+1)=k+1+i by omega];exact hp);exact⟨ρ1,S1,q1,ρ2,S2,q2,by rw[show k+1+i+1=k+(i+1)+1 by omega];exact q3⟩)
  refine⟨ρ',S',?_,by rw[qD1,show k+(ds.length+1)=k+1+ds.length by omega];exact p3⟩;unfold zBb;rw[if_pos (hw k ρ S h0),e1];dsimp only;rcases e2 with e2|e2
  ·rw[e2];exact e3
  ·rw[e2];exact e3
inductive zZQ(r:RS)(P:Env1->zA0->Prop):Prop
 |mk (ρ2:Env1) (S2:zA0) (h:r=.nx ρ2 S2∨r=.ct ρ2 S2) (p:P ρ2 S2)
inductive zZP(g:G)(b:CS)(d:D)(ρ:Env1)(S:zA0)(P:Env1->zA0->Prop):Prop
 |mk (ρ1:Env1) (S1:zA0) (e:g d ρ S=.ok ρ1 S1) (t:zZQ (b ρ1 S1) P)
inductive zZW(r:RS)(P:Env1->zA0->Prop):Prop
 |mk (ρ':Env1) (S':zA0) (e:r=.nx ρ' S') (p:P ρ' S')
theorem zBQ{w:zDb}{g:G}{b:CS}{items:yM}(P:Nat->Env1->zA0->Prop){ρ:Env1}{S:zA0}(hw:∀i ρ S,P i ρ S->okW w S)(h0:P 0 ρ S)
  (hs:∀i d ρ S,items[i]?=some d->P i ρ S->zZP g b d ρ S (P (i+1))):zZW (zBb w g b items ρ S) (P items.length):=by
 obtain⟨ρ',S',e,p⟩:=zOr items P 0 hw h0 (fun i d ρ S hi hp=>by
  obtain⟨ρ1,S1,q1,ρ2,S2,q2,q3⟩:=hs i d ρ S hi (by simpa using hp);exact⟨ρ1,S1,q1,ρ2,S2,q2,by simpa using q3⟩)
 exact⟨ρ',S',e,by simpa using p⟩
inductive zXD(m:R (yM))(r:yM)(P:zA0->Prop):Prop
 |mk (S':zA0) (e:m=.ok r S') (p:P S')
theorem zC6{α:Type}(e:α->D){w:zDb}{t:Tgt}{tc:CT}{c:C}{ρ0:Env1}(P:zA0->Prop)(hw:∀S,P S->okW w S)(p:α->Bool)(f:α->D):∀(l:List α) {S:zA0},P S ->
  (∀a∈l,∀S,P S->∃ρ1,zH5 t (e a) ρ0=some ρ1/\∃S1,tc ρ1 S=.ok (p a) S1/\(p a=false->P S1)/\(p a=true->∃S2,c ρ1 S1=.ok (f a) S2/\P S2))->zXD (zAd w t tc c ρ0 (l.map e) S) ((l.filter p).map f) P
 |[],S,h0,hs=>⟨S,by rw[qH2];unfold zAd;rw[if_pos (hw S h0)];rfl,h0⟩
 |d::ds,S,h0,hs=>by
  obtain⟨ρ1,e1,S1,e2,hf,ht⟩:=hs d (by simp) S h0;rw[qB5];unfold zAd;rw[if_pos (hw S h0),e1];dsimp only;rw[zC1,e2,zAW];cases hp:p d with
  |false =>
   obtain⟨S',e3,h3⟩:=zC6 e P hw p f ds (hf hp) fun d' hd=>hs d' (by simp[hd]);exact⟨S',by rw[if_neg qB0,e3,qF8,hp];rfl,h3⟩
  |true =>
   obtain⟨S2,e4,h4⟩:=ht hp;obtain⟨S',e3,h3⟩:=zC6 e P hw p f ds h4 fun d' hd=>hs d' (by simp[hd]);exact⟨S',by rw[if_pos rfl,zC1,e4,zAW,zC1,e3,zAW,qF8,hp];rfl,h3⟩
theorem zCO{α:Type}(e:α->D){w:zDb}{t:Tgt}{c:C}{ρ0:Env1}(P:zA0->Prop)(hw:∀S,P S->okW w S)(f:α->D)(l:List α){S:zA0}(h0:P S)
  (hs:∀a∈l,∀S,P S->∃ρ1,zH5 t (e a) ρ0=some ρ1/\∃S2,c ρ1 S=.ok (f a) S2/\P S2):zXD (zAd w t (fun _=>ret true) c ρ0 (l.map e) S) (l.map f) P:=by
 obtain⟨S',e,h⟩:=zC6 e (w:=w) (t:=t) (tc:=fun _=>ret true) (c:=c) (ρ0:=ρ0) P hw (fun _=>true) f l h0 (fun d hd S h=>by
  obtain⟨ρ1,e1,S2,e2,h2⟩:=hs d hd S h;exact⟨ρ1,e1,S,rfl,(fun z=>by cases z),fun _=>⟨S2,e2,h2⟩⟩)
 exact⟨S',by rw[e,qP9.mpr (by simp)],h⟩
theorem zBz{α:Type}(e:α->D){w:zDb}{t:Tgt}{tc:CT}{c:C}{ρ0:Env1}{S:zA0}(hw:okW w S)(p:α->Bool)(f:α->D)(l:List α)
  (hs:∀a∈l,∃ρ1,zH5 t (e a) ρ0=some ρ1/\tc ρ1 S=.ok (p a) S/\(p a=true->c ρ1 S=.ok (f a) S)):zAd w t tc c ρ0 (l.map e) S=.ok ((l.filter p).map f) S:=by
 obtain⟨S',e1,h⟩:=zC6 e (w:=w) (t:=t) (tc:=tc) (c:=c) (ρ0:=ρ0) (fun S'=>S'=S) (fun S' z=>z▸hw) p f l rfl (fun a ha S' z=>by
  subst z;obtain⟨ρ1,q1,q2,q3⟩:=hs a ha;exact⟨ρ1,q1,S',q2,fun _=>rfl,fun z=>⟨S',q3 z,rfl⟩⟩)
 rw[e1,h]
theorem zB7{α:Type}(e:α->D){w:zDb}{t:Tgt}{c:C}{ρ0:Env1}{S:zA0}(hw:okW w S)(f:α->D)(l:List α)
  (hs:∀a∈l,∃ρ1,zH5 t (e a) ρ0=some ρ1/\c ρ1 S=.ok (f a) S):zAd w t (fun _=>ret true) c ρ0 (l.map e) S=.ok (l.map f) S:=by
 have:=zBz e (tc:=fun _=>ret true) (c:=c) hw (fun _=>true) f l (fun a ha=>by
  obtain⟨ρ1,q1,q2⟩:=hs a ha;exact⟨ρ1,q1,rfl,fun _=>q2⟩)
 rw[this,qP9.mpr (by simp)]
theorem zLh{t:CT}{b:CS}(P:Nat->Env1->zA0->Prop)(Q:Env1->zA0->Prop)(hs:∀m ρ S,P m ρ S->(∃S1,t ρ S=.ok false S1/\Q ρ S1)∨∃S1,t ρ S=.ok true S1/\∃ρ2 S2,(b ρ S1=.nx ρ2 S2∨b ρ S1=.ct ρ2 S2)/\∃m',m'<m/\P m' ρ2 S2):
  ∀(k m:Nat) (ρ:Env1) (S:zA0),m<k->P m ρ S->∃ρ' S',zDU k t b ρ S=.nx ρ' S'/\Q ρ' S'
 |0,m,ρ,S,hk,h=>absurd hk (qS7 _)
 |k+1,m,ρ,S,hk,h=>by
  unfold zDU;rcases hs m ρ S h with⟨S1,e,q⟩| ⟨S1,e,ρ2,S2,e2,m',hm,p2⟩
  ·rw[e];exact⟨ρ,S1,rfl,q⟩
  ·obtain⟨ρ',S',e3,q⟩:=zLh P Q hs k m' ρ2 S2 (by omega) p2;rw[e];dsimp only;rcases e2 with e2|e2
   ·rw[e2];exact⟨ρ',S',e3,q⟩
   ·rw[e2];exact⟨ρ',S',e3,q⟩
noncomputable def dkOf(fs:yA):List (Key×D):=fs.map fun x=>((Sum.inl x:Key),D.bl true)
noncomputable def addK(fs:yA)(a:Int):yA:=if a∈fs then fs else fs++[a]
theorem zX6(fs:yA)(a:Int):((dkOf fs).any fun kv=>decide (kv.1=(Sum.inl a:Key)))=decide (a∈fs):=by
 induction fs with
 |nil=>rfl
 |cons x r ih =>
  show(decide ((Sum.inl x:Key)=Sum.inl a)||(dkOf r).any _)=_;rw[ih];by_cases h:x=a
  ·subst h;simp
  ·have:(Sum.inl x:Key)≠Sum.inl a:=fun z=>h (Sum.inl.inj z);simp[this,Ne.symm h]
theorem zX5(fs:yA)(a:Int):putD (dkOf fs) (.inl a) (.bl true)=dkOf (addK fs a):=by
 unfold putD addK;rw[zX6];by_cases h:a∈fs
 ·rw[if_pos (by simpa using h),if_pos h];unfold dkOf;rw[qD9];refine qG0 fun x _=>?_;show(if(Sum.inl x:Key)=Sum.inl a then((Sum.inl x:Key),D.bl true)else(Sum.inl x,D.bl true))=_;split<;>rfl
 ·rw[if_neg (by simpa using h),if_neg h];unfold dkOf;simp
theorem zX4(fs:yA)(a:Int):valD (dkOf fs) (.inl a)=if a∈fs then some (.bl true)else none:=by
 unfold valD
 induction fs with
 |nil=>rfl
 |cons x r ih =>
  show Option.map _ (List.find? _ (((Sum.inl x:Key),D.bl true)::dkOf r))=_;rw[qE9];by_cases h:x=a
  ·subst h;simp
  ·have:(Sum.inl x:Key)≠Sum.inl a:=fun z=>h (Sum.inl.inj z);simp only[this,decide_false];rw[ih];simp[Ne.symm h]
theorem zOj{S:zA0}{m:Nat}{fs:yA}(h:S[m]?=some (.dk (dkOf fs)))(neg:Bool)(a:Int):oIn neg (.int a) (.dct m) S=.ok (.bl (if neg then !decide (a∈fs)else decide (a∈fs))) S:=by
 have e:dictAt S m (.int a)=some (if a∈fs then some (.bl true)else none):=by unfold dictAt;rw[h];show some (valD (dkOf fs) (.inl a))=_;rw[zX4]
 show(match dictAt S m (.int a)with|some o=>R.ok (D.bl (if neg then !o.isSome else o.isSome)) S|none=>.bad)=_;rw[e];by_cases hm:a∈fs
 ·simp[hm]
 ·simp[hm]
theorem zOi{S:zA0}{m:Nat}{fs:yA}(h:S[m]?=some (.dk (dkOf fs)))(hl:fs.length<lim)(a:Int):oSet (.dct m) (.int a) (.bl true) S=some (S.set m (.dk (dkOf (addK fs a)))):=by unfold oSet;dsimp only;rw[h];show(if(dkOf fs).length<lim then some (S.set m (.dk (putD (dkOf fs) (.inl a) (.bl true))))else none)=_;rw[if_pos (by unfold dkOf;rw[qA0];exact hl),zX5]
theorem zLJ{fs:yA}{a x:Int}:x∈addK fs a↔x∈fs∨x=a:=by
 unfold addK;split
 ·rename_i h;exact⟨.inl,fun z=>z.elim id fun e=>e▸h⟩
 ·simp
@[simp] theorem zXn(d:D)(ρ:Env1):zH5 .one d ρ=some (ρ.set 0 (some d)):=rfl
@[simp] theorem zXm(x y:D)(ρ:Env1):zH5 (.many 2) (.tup [x,y]) ρ=some ((ρ.set 0 (some x)).set 1 (some y)):=rfl
@[simp] theorem za0(k:Nat)(js:List Nat)(ρ:Env1):stE k js ρ=qI8 k none++js.map fun j=>(ρ[j]?).getD none:=rfl
theorem zTb{np nN:Nat}{b:CS}{ds:yM}{S:zA0}(h:ds.length=np):runF np nN b ds S=match b (zAe nN ds) S with
 |.nx _ S'=>.ok .non S'
 |.rt d S'=>.ok d S'
 |.er c S'=>.er c S'
 |_=>.bad:=by
 unfold runF;rw[if_pos h]
 all_goals (cases b (zAe nN ds) S<;>rfl)
theorem zA7{np nN:Nat}{b:CS}{ds:yM}{S S':zA0}{d:D}(h:ds.length=np)(e:b (zAe nN ds) S=.rt d S'):runF np nN b ds S=.ok d S':=by rw[zTb h,e]
open PySem
noncomputable def plain:Nat->D->Bool
 |0,_=>false
 |n+1,d=>match d with
  |.int _=>true
  |.non=>true
  |.str x=>PyData.strOk x
  |.tup xs=>xs.all (plain n)
  |_=>false
noncomputable def pdat:Nat->D->PyData
 |0,_=>.none
 |n+1,d=>match d with
  |.int i=>.int i
  |.str x=>.str x
  |.tup xs=>.tuple (xs.map (pdat n))
  |_=>.none
theorem zJa{α β:Type}{f:α->Option β}{g:α->β}{l:List α}(h:∀x∈l,f x=some (g x)):l.mapM f=some (l.map g):=by
 induction l with
 |nil=>rfl
 |cons a r ih =>
  rw[qF4,h a (by simp),ih fun x hx=>h x (by simp[hx])];rfl
theorem zDJ:∀{n:Nat}{d:D} (S:zA0),plain n d=true->snap n S d=some (pdat n d)
 |0,d,S,h=>by cases h
 |n+1,d,S,h=>by
  unfold plain at h;unfold snap pdat;cases d with
  |int i=>rfl
  |non=>rfl
  |str x=>dsimp only at h ⊢;rw[if_pos h]
  |tup xs =>
   dsimp only at h ⊢;rw[zJa (g:=pdat n) fun x hx=>zDJ S (qD8.mp h x hx)];rfl
  |_=>cases h
theorem zCN{n:Nat}(ih:∀d e,plain n d=true->plain n e=true->(PyData.eqv (pdat n d) (pdat n e)=true↔d=e)):∀(xs ys:yM),xs.all (plain n)=true->ys.all (plain n)=true->(PyData.eqvAll (xs.map (pdat n)) (ys.map (pdat n))=true↔xs=ys)
 |[],[],_,_=>by simp[PyData.eqvAll]
 |[],y::ys,_,_=>by simp[PyData.eqvAll]
 |x::xs,[],_,_=>by simp[PyData.eqvAll]
 |x::xs,y::ys,h1,h2=>by rw[qJ7,qC9]at h1 h2;rw[qB5,qB5];show(PyData.eqv (pdat n x) (pdat n y)&&PyData.eqvAll (xs.map (pdat n)) (ys.map (pdat n)))=true↔_;rw[qC9,ih x y h1.1 h2.1,zCN ih xs ys h1.2 h2.2,qT3.injEq]
theorem zDz:∀(n:Nat) (d e:D),plain n d=true->plain n e=true->(PyData.eqv (pdat n d) (pdat n e)=true↔d=e)
 |0,d,e,h,_=>by cases h
 |n+1,d,e,h1,h2=>by
  unfold plain at h1 h2;unfold pdat;cases d with
  |int i =>
   cases e with
   |int j=>simp[PyData.eqv]
   |non=>simp[PyData.eqv]
   |str y=>simp[PyData.eqv]
   |tup ys=>simp[PyData.eqv]
   |_=>cases h2
  |non =>
   cases e with
   |int j=>simp[PyData.eqv]
   |non=>simp[PyData.eqv]
   |str y=>simp[PyData.eqv]
   |tup ys=>simp[PyData.eqv]
   |_=>cases h2
  |str x =>
   cases e with
   |int j=>simp[PyData.eqv]
   |non=>simp[PyData.eqv]
   |str y=>simp[PyData.eqv]
   |tup ys=>simp[PyData.eqv]
   |_=>cases h2
  |tup xs =>
   cases e with
   |int j=>simp[PyData.eqv]
   |non=>simp[PyData.eqv]
   |str y=>simp[PyData.eqv]
   |tup ys =>
    show PyData.eqvAll (xs.map (pdat n)) (ys.map (pdat n))=true↔_;rw[zCN (zDz n) xs ys h1 h2];simp
   |_=>cases h2
  |_=>cases h1
noncomputable def eqB{α:Type}(x y:α):Bool:=@decide (x=y) (Classical.propDecidable _)
theorem zDA{α:Type}{x y:α}:eqB x y=true↔x=y:=@decide_eq_true_iff _ (Classical.propDecidable _)
@[simp] theorem zFF{α:Type}(x:α):eqB x x=true:=zDA.mpr rfl
theorem zAg{a b:Bool}(h:a=true↔b=true):a=b:=by cases a<;>cases b<;>simp at h ⊢
theorem zJ6{x y:D}(S:zA0)(h1:plain 40 x=true)(h2:plain 40 y=true):oEq x y S=.ok (.bl (eqB x y)) S:=by
 unfold oEq;split
 ·rename_i a b;rw[zAg (a:=decide (a=b)) (b:=eqB (D.str a) (D.str b)) (by rw[zDA,decide_eq_true_iff];exact⟨fun q=>by rw[q],fun q=>by injection q⟩)]
 ·rw[zDJ S h1,zDJ S h2];dsimp only;rw[zAg ((zDz 40 x y h1 h2).trans zDA.symm)]
theorem zDK{S:zA0}{k:Nat}{xs:yM}(h:zA4 S k=some xs)(hp:xs.all (plain 39)=true):snap 40 S (.lst k)=some (.list (xs.map (pdat 39))):=by show(match zA4 S k with|some xs=>(xs.mapM (snap 39 S)).map PyData.list|none=>none)=_;rw[h];dsimp only;rw[zJa (g:=pdat 39) fun x hx=>zDJ S (qD8.mp hp x hx)];rfl
theorem zKl{S:zA0}{a b:Nat}{xs ys:yM}(h1:zA4 S a=some xs)(h2:zA4 S b=some ys)(p1:xs.all (plain 39)=true)(p2:ys.all (plain 39)=true):oEq (.lst a) (.lst b) S=.ok (.bl (eqB xs ys)) S:=by unfold oEq;dsimp only;rw[zDK h1 p1,zDK h2 p2];dsimp only;rw[zAg ((show PyData.eqv (.list (xs.map (pdat 39))) (.list (ys.map (pdat 39)))=true↔xs=ys from zCN (zDz 39) xs ys p1 p2).trans zDA.symm)]
theorem zHU{S:zA0}{a b:Nat}{xs ys:yM}(h1:zA4 S a=some xs)(h2:zA4 S b=some ys)(p1:xs.all (plain 39)=true)(p2:ys.all (plain 39)=true):oNe (.lst a) (.lst b) S=.ok (.bl (!eqB xs ys)) S:=by unfold oNe;dsimp only;rw[zDK h1 p1,zDK h2 p2];dsimp only;rw[zAg ((show PyData.eqv (.list (xs.map (pdat 39))) (.list (ys.map (pdat 39)))=true↔xs=ys from zCN (zDz 39) xs ys p1 p2).trans zDA.symm)]
theorem zO2{n:Nat}(h:0<n)(i:Int):plain n (.int i)=true:=by
 cases n with
 |zero=>cases h
 |succ n=>rfl
theorem zFW{n:Nat}{xs:yM}(h:∀x∈xs,plain n x=true):plain (n+1) (.tup xs)=true:=qD8.mpr h
theorem zBp{n:Nat}(h:0<n)(l:yA):∀x∈l.map D.int,plain n x=true:=fun x hx=>by obtain⟨i,_,rfl⟩:=qB6.mp hx;exact zO2 h i
@[simp] theorem zRg(i:Int)(S:zA0):zBi [.int i,.ty "bool"] S=.ok (.bl false) S:=rfl
@[simp] theorem zSd(i:Int)(S:zA0):zBi [.int i,.ty "int"] S=.ok (.bl true) S:=rfl
@[simp] theorem zQ1(i:Int)(S:zA0):zBi [.int i,.ty "tuple"] S=.ok (.bl false) S:=rfl
@[simp] theorem zRf(i:Int)(S:zA0):zBi [.int i,.ty "list"] S=.ok (.bl false) S:=rfl
@[simp] theorem zQ3(b:Bool)(S:zA0):zBi [.bl b,.ty "bool"] S=.ok (.bl true) S:=rfl
@[simp] theorem zRh(b:Bool)(S:zA0):zBi [.bl b,.ty "int"] S=.ok (.bl true) S:=rfl
@[simp] theorem zON(b:Bool)(S:zA0):zBi [.bl b,.ty "tuple"] S=.ok (.bl false) S:=rfl
@[simp] theorem zQ2(b:Bool)(S:zA0):zBi [.bl b,.ty "list"] S=.ok (.bl false) S:=rfl
@[simp] theorem zLR  (S:zA0):zBi [.non,.ty "bool"] S=.ok (.bl false) S:=rfl
@[simp] theorem zMC  (S:zA0):zBi [.non,.ty "int"] S=.ok (.bl false) S:=rfl
@[simp] theorem zKv  (S:zA0):zBi [.non,.ty "tuple"] S=.ok (.bl false) S:=rfl
@[simp] theorem zLQ  (S:zA0):zBi [.non,.ty "list"] S=.ok (.bl false) S:=rfl
@[simp] theorem zRe(x:Str)(S:zA0):zBi [.str x,.ty "bool"] S=.ok (.bl false) S:=rfl
@[simp] theorem zSc(x:Str)(S:zA0):zBi [.str x,.ty "int"] S=.ok (.bl false) S:=rfl
@[simp] theorem zQ0(x:Str)(S:zA0):zBi [.str x,.ty "tuple"] S=.ok (.bl false) S:=rfl
@[simp] theorem zRd(x:Str)(S:zA0):zBi [.str x,.ty "list"] S=.ok (.bl false) S:=rfl
@[simp] theorem zOM(xs:yM)(S:zA0):zBi [.tup xs,.ty "bool"] S=.ok (.bl false) S:=rfl
@[simp] theorem zPZ(xs:yM)(S:zA0):zBi [.tup xs,.ty "int"] S=.ok (.bl false) S:=rfl
@[simp] theorem zNm(xs:yM)(S:zA0):zBi [.tup xs,.ty "tuple"] S=.ok (.bl true) S:=rfl
@[simp] theorem zOL(xs:yM)(S:zA0):zBi [.tup xs,.ty "list"] S=.ok (.bl false) S:=rfl
open PySem
theorem zCM(ns:yA):zCj (ns.map D.int)=some ns:=by
 induction ns with
 |nil=>rfl
 |cons a r ih=>show(zCj (r.map D.int)).map (a::·)=_;rw[ih];rfl
theorem zKK{n:Nat}{ns:yA}{S:zA0}(h:zA4 S n=some (ns.map D.int))(hl:ns.length<64):zAR [.lst n] S=.ok (.lst S.length) (S++[.lst ((zCD ns).map D.int)]):=by unfold zAR;simp only[h,Option.bind_some,zCM,if_pos hl]
theorem zGy(xs:yM){k:Int}(h0:0<=k):cutD xs none (some k)=xs.take k.toNat:=by
 unfold cutD;rw[show k=((k.toNat:Nat):Int) by omega,HT.sIx_nat,HT.sIx_none,qQ7,qL4,qI4];by_cases h:k.toNat<=xs.length
 ·rw[qO8 h]
 ·rw[qS0 (by omega),qK0,qF7 (by omega)]
theorem zG4{α:Type}(e:α->D){w:zDb}{g:G}{b:CS}(P:Env1->zA0->Prop)(R:zA0->Prop)(hw:∀ρ S,P ρ S->okW w S)(p:α->Bool)(r:α->D):∀(l:List α) {ρ:Env1}{S:zA0},P ρ S ->
  (∀a∈l,∀ρ S,P ρ S->∃ρ1 S1,g (e a) ρ S=.ok ρ1 S1/\((p a=true/\∃S2,b ρ1 S1=.rt (r a) S2/\R S2)∨(p a=false/\∃ρ2 S2,(b ρ1 S1=.nx ρ2 S2∨b ρ1 S1=.ct ρ2 S2)/\P ρ2 S2))) ->
  (∃a S',l.find? p=some a/\zBb w g b (l.map e) ρ S=.rt (r a) S'/\R S')∨(∃ρ' S',l.find? p=none/\zBb w g b (l.map e) ρ S=.nx ρ' S'/\P ρ' S')
 |[],ρ,S,h0,hs=>.inr ⟨ρ,S,rfl,by rw[qH2];unfold zBb;rw[if_pos (hw ρ S h0)],h0⟩
 |a::l,ρ,S,h0,hs=>by
  obtain⟨ρ1,S1,e1,h⟩:=hs a (by simp) ρ S h0;rw[qB5];unfold zBb;rw[if_pos (hw ρ S h0),e1];dsimp only;rcases h with⟨hp,S2,e2,r2⟩| ⟨hp,ρ2,S2,e2,p2⟩
  ·exact .inl ⟨a,S2,by rw[qE9,hp],by rw[e2],r2⟩
  ·rcases zG4 e P R hw p r l p2 (fun a ha=>hs a (by simp[ha]))with⟨a',S',f1,f2,f3⟩| ⟨ρ',S',f1,f2,f3⟩
   ·exact .inl ⟨a',S',by rw[qE9,hp];exact f1,by rcases e2 with e2|e2<;>rw[e2]<;>exact f2,f3⟩
   ·exact .inr ⟨ρ',S',by rw[qE9,hp];exact f1,by rcases e2 with e2|e2<;>rw[e2]<;>exact f2,f3⟩
theorem zQ9{S:zA0}{n:Nat}{o:O}(h:S[n]?=some o)(ho:(match o with|.dk _=>true|.dt _=>true|_=>false)=true):tyOk "dict" (.dct n) S=true:=by show(decide ("dict" = "dict")&&(match S[n]? with|some (.dk _)=>true|some (.dt _)=>true|_=>false))=true;rw[h];cases o<;>first|rfl|cases ho
end L2
namespace My
open PySem L2
noncomputable def zBq(cl:CLL):CS :=
 (sSeq (sRet (zN8 (cApp zBi (zA1 [(cVar 0),(cCon (.ty "int"))])) (zPJ (cApp zBi (zA1 [(cVar 0),(cCon (.ty "bool"))])))))
  zA5)
def zD6(cl:Nat->CLL):Prop:=∀n,cl (n+1) "is_whole"=runF 1 1 (zBq (cl n))
noncomputable def zE1(cl:CLL):C :=
 (cBin oAdd (cTup (zA1 [(cCon (.int 0))])) (cVar 0))
noncomputable def zE0(cl:CLL):C :=
 (cBin oAdd (cTup (zA1 [(cCon (.int 1))])) (cVar 0))
noncomputable def zDZ(cl:CLL):CS :=
 (sSeq (sAsg (cBin oAdd (zBe (iSeq (cVar 1)) 1 [] .one (fun _=>ret true) (zE1 cl)) (zBe (iSeq (cVar 1)) 1 [] .one (fun _=>ret true) (zE0 cl))) (gN 1))
  zA5)
noncomputable def zDP(cl:CLL):CS :=
 (sSeq (sAsg (cLst (zA1 [(cTup (zA1 []))])) (gN 1))
  (sSeq (sFor (zDx (zA1 [(cVar 0)])) (gN 2) (zDZ cl))
  (sSeq (sRet (cVar 1))
  zA5)))
def zE8(cl:Nat->CLL):Prop:=∀n,cl (n+1) "settings"=runF 1 3 (zDP (cl n))
noncomputable def zEA(cl:CLL):CS :=
 (sSeq (sRet (cBin oEq (cBin oIx (cVar 1) (cBin oIx (cVar 0) (cCon (.int 2)))) (cBin oIx (cVar 0) (cCon (.int 3)))))
  zA5)
def zCc(cl:Nat->CLL):Prop:=∀n,cl (n+1) "is_shut"=runF 2 2 (zEA (cl n))
noncomputable def zEJ(cl:CLL):CT :=
 (cTru (cApp (cl "is_shut") (zA1 [(cVar 1),(cVar 2)])))
noncomputable def zEK(cl:CLL):C :=
 (cVar 0)
noncomputable def zEy(cl:CLL):CS :=
 (sSeq (sRet (cApp zCk (zA1 [(zBe (zGl (zA1 [(cBin oIx (cVar 0) (cCon (.int 2)))])) 2 [1] (.many 2) (zEJ cl) (zEK cl))])))
  zA5)
def zF7(cl:Nat->CLL):Prop:=∀n,cl (n+1) "shut_at"=runF 2 2 (zEy (cl n))
noncomputable def zBO(cl:CLL):CS :=
 (sSeq (sIf (zAx (cBin oNe (cBin (oIn false) (cBin oIx (cVar 4) (cCon (.int 0))) (cVar 2)) (cBin (oIn false) (cBin oIx (cVar 4) (cCon (.int 1))) (cVar 2)))) (sSeq (sAsg (cCon (.bl true)) (gS (cVar 2) (cBin oIx (cVar 4) (cCon (.int 0)))))
  (sSeq (sAsg (cCon (.bl true)) (gS (cVar 2) (cBin oIx (cVar 4) (cCon (.int 1)))))
  (sSeq (sAsg (cCon (.bl true)) (gN 3))
  zA5))) zA5)
  zA5)
noncomputable def zBP(cl:CLL):CS :=
 (sSeq (sAsg (cCon (.bl false)) (gN 3))
  (sSeq (sFor (iSeq (cVar 1)) (gN 4) (zBO cl))
  zA5))
noncomputable def zC7(cl:CLL):CS :=
 (sSeq (sAsg (zRJ (cVar 0) (cCon (.bl true))) (gN 2))
  (sSeq (sAsg (cCon (.bl true)) (gN 3))
  (sSeq (zDU zQ6 (cTru (cVar 3)) (zBP cl))
  (sSeq (sRet (cVar 2))
  zA5))))
def zAP(cl:Nat->CLL):Prop:=∀n,cl (n+1) "places_from"=runF 2 5 (zC7 (cl n))
noncomputable def zIt(cl:CLL):CS :=
 (sSeq (sRet (cBin (oIn false) (cCon (.int 1)) (cApp (cl "places_from") (zA1 [(cCon (.int 0)),(cVar 0)]))))
  zA5)
def zFK(cl:Nat->CLL):Prop:=∀n,cl (n+1) "joins"=runF 1 1 (zIt (cl n))
noncomputable def zC4(cl:CLL):CT :=
 (cTru (cApp (cl "is_shut") (zA1 [(cVar 0),(cVar 1)])))
noncomputable def zC5(cl:CLL):C :=
 (cVar 0)
noncomputable def zBA(cl:CLL):CS :=
 (sSeq (sRet (zBe (iSeq (cBin oIx (cVar 0) (cCon (.int 2)))) 1 [1] .one (zC4 cl) (zC5 cl)))
  zA5)
def zBl(cl:Nat->CLL):Prop:=∀n,cl (n+1) "shut_contacts"=runF 2 2 (zBA (cl n))
noncomputable def zM7(cl:CLL):CS :=
 (sSeq (sRet (cApp (cl "joins") (zA1 [(cApp (cl "shut_contacts") (zA1 [(cVar 0),(cVar 1)]))])))
  zA5)
def zLe(cl:Nat->CLL):Prop:=∀n,cl (n+1) "lets"=runF 2 2 (zM7 (cl n))
noncomputable def zAE(cl:CLL):CT :=
 (zAx (cBin (oIn false) (cVar 0) (cVar 1)))
noncomputable def zAF(cl:CLL):C :=
 (cVar 0)
noncomputable def zAw(cl:CLL):C :=
 (cApp (cl "is_whole") (zA1 [(cVar 0)]))
noncomputable def zAr(cl:CLL):CS :=
 (sSeq (sIf (cOrT (zEv (cTru (cApp zBi (zA1 [(cVar 1),(cCon (.ty "tuple"))])))) (zEv (cTru (cApp (zAm fun bs=>bs.all id) (zA1 [(zBe (iSeq (cVar 1)) 1 [] .one (fun _=>ret true) (zAw cl))]))))) (sSeq (sRet (cCon (.bl false)))
  zA5) zA5)
  (sSeq (sRet (cBin oEq (cApp zP8 (zA1 [(cVar 1)])) (zBe (zDx (zA1 [(cApp fLen (zA1 [(cBin oIx (cVar 0) (cCon (.int 2)))]))])) 1 [1] .one (zAE cl) (zAF cl))))
  zA5))
def zFo(cl:Nat->CLL):Prop:=∀n,cl (n+1) "is_choice"=runF 2 2 (zAr (cl n))
noncomputable def zEG(cl:CLL):CT :=
 (zAx (cBin oNe (cVar 0) (cVar 1)))
noncomputable def zEH(cl:CLL):C :=
 (cVar 0)
noncomputable def zEx(cl:CLL):CS :=
 (sSeq (sRet (zBe (iSeq (cVar 0)) 1 [1] .one (zEG cl) (zEH cl)))
  zA5)
def zF6(cl:Nat->CLL):Prop:=∀n,cl (n+1) "without"=runF 2 2 (zEx (cl n))
noncomputable def zB6(cl:CLL):C :=
 (cBin oIx (cBin oIx (cVar 1) (cCon (.int 2))) (cVar 0))
noncomputable def zB0(cl:CLL):CS :=
 (sSeq (sRet (cApp (cl "joins") (zA1 [(zBe (iSeq (cVar 1)) 1 [0] .one (fun _=>ret true) (zB6 cl))])))
  zA5)
def zEE(cl:Nat->CLL):Prop:=∀n,cl (n+1) "join_along"=runF 2 2 (zB0 (cl n))
noncomputable def zBR(cl:CLL):CT :=
 (zAx (cBin (oIn true) (cVar 0) (cVar 2)))
noncomputable def zBS(cl:CLL):C :=
 (cVar 1)
noncomputable def zBD(cl:CLL):CS :=
 (sSeq (sRet (cApp (cl "joins") (zA1 [(zBe (zGl (zA1 [(cBin oIx (cVar 0) (cCon (.int 2)))])) 2 [1] (.many 2) (zBR cl) (zBS cl))])))
  zA5)
def zDY(cl:Nat->CLL):Prop:=∀n,cl (n+1) "join_beside"=runF 2 2 (zBD (cl n))
noncomputable def zDu(cl:CLL):C :=
 (cApp (cl "join_along") (zA1 [(cVar 1),(cApp (cl "without") (zA1 [(cVar 2),(cVar 0)]))]))
noncomputable def zC8(cl:CLL):CS :=
 (sSeq (sIf (cOrT (zEv (cTru (cApp (cl "is_choice") (zA1 [(cVar 0),(cVar 1)])))) (zEv (cTru (cApp (cl "join_along") (zA1 [(cVar 0),(cVar 1)]))))) (sSeq (sRet (cCon (.bl false)))
  zA5) zA5)
  (sSeq (sRet (zPJ (cApp (zAm fun bs=>bs.any id) (zA1 [(zBe (iSeq (cVar 1)) 1 [0,1] .one (fun _=>ret true) (zDu cl))]))))
  zA5))
def zK0(cl:Nat->CLL):Prop:=∀n,cl (n+1) "is_way"=runF 2 2 (zC8 (cl n))
noncomputable def zDv(cl:CLL):C :=
 (cApp (cl "join_beside") (zA1 [(cVar 1),(cApp (cl "without") (zA1 [(cVar 2),(cVar 0)]))]))
noncomputable def zD3(cl:CLL):CS :=
 (sSeq (sIf (cOrT (zEv (cTru (cApp (cl "is_choice") (zA1 [(cVar 0),(cVar 1)])))) (cTru (cApp (cl "join_beside") (zA1 [(cVar 0),(cVar 1)])))) (sSeq (sRet (cCon (.bl false)))
  zA5) zA5)
  (sSeq (sRet (cApp (zAm fun bs=>bs.all id) (zA1 [(zBe (iSeq (cVar 1)) 1 [0,1] .one (fun _=>ret true) (zDv cl))])))
  zA5))
def zK1(cl:Nat->CLL):Prop:=∀n,cl (n+1) "is_bar"=runF 2 2 (zD3 (cl n))
noncomputable def zCS(cl:CLL):CS :=
 (sSeq (sIf (zAx (cBin oEq (cBin oIx (cVar 0) (cCon (.int 0))) (cVar 1))) (sSeq (sRet (cBin oIx (cVar 0) (cCon (.int 1))))
  zA5) zA5)
  (sSeq (sIf (zAx (cBin oEq (cBin oIx (cVar 0) (cCon (.int 1))) (cVar 1))) (sSeq (sRet (cBin oIx (cVar 0) (cCon (.int 0))))
  zA5) zA5)
  (sSeq (sRet (cCon .non))
  zA5)))
def zFa(cl:Nat->CLL):Prop:=∀n,cl (n+1) "far_end"=runF 2 2 (zCS (cl n))
noncomputable def zB1(cl:CLL):CS :=
 (sSeq (sAsg (cApp (cl "far_end") (zA1 [(cVar 5),(cBin oIx (cVar 1) (cUn oNeg (cCon (.int 1))))])) (gN 6))
  (sSeq (sIf (zL3 (zAx (cBin zHj (cVar 6) (cCon .non))) (zAx (cBin (oIn true) (cVar 6) (cVar 1)))) (sSeq (zGT (zGD "list" zE5 (cVar 3) (zA1 [(cApp (cl "ways_on") (zA1 [(cVar 0),(cBin oAdd (cVar 1) (cTup (zA1 [(cVar 6)]))),(cBin oAdd (cVar 2) (cTup (zA1 [(cVar 4)])))]))])))
  zA5) zA5)
  zA5))
noncomputable def zCl(cl:CLL):CS :=
 (sSeq (sIf (zAx (cBin oEq (cBin oIx (cVar 1) (cUn oNeg (cCon (.int 1)))) (cCon (.int 1)))) (sSeq (sRet (cLst (zA1 [(cApp zCk (zA1 [(cApp zAR (zA1 [(cVar 2)]))]))])))
  zA5) zA5)
  (sSeq (sAsg (cLst (zA1 [])) (gN 3))
  (sSeq (sFor (zGl (zA1 [(cVar 0)])) (gT [(gN 4),(gN 5)]) (zB1 cl))
  (sSeq (sRet (cVar 3))
  zA5))))
def zHG(cl:Nat->CLL):Prop:=∀n,cl (n+1) "ways_on"=runF 3 7 (zCl (cl n))
noncomputable def zCT(cl:CLL):CS :=
 (sSeq (sRet (cApp zAR (zA1 [(cApp (cl "ways_on") (zA1 [(cBin oIx (cVar 0) (cCon (.int 2))),(cTup (zA1 [(cCon (.int 0))])),(cTup (zA1 []))]))])))
  zA5)
def zGQ(cl:Nat->CLL):Prop:=∀n,cl (n+1) "all_ways"=runF 1 1 (zCT (cl n))
noncomputable def zAz(cl:CLL):C :=
 (cBin oAdd (cVar 0) (cTup (zA1 [(cVar 1)])))
noncomputable def zAk(cl:CLL):CS :=
 (sSeq (sAsg (cBin oAdd (cVar 1) (zBe (iSeq (cVar 1)) 1 [2] .one (fun _=>ret true) (zAz cl))) (gN 1))
  zA5)
noncomputable def zAs(cl:CLL):CS :=
 (sSeq (sAsg (cLst (zA1 [(cTup (zA1 [(cCon (.int 0))]))])) (gN 1))
  (sSeq (sFor (zI7 (zA1 [(cCon (.int 2)),(cVar 0)])) (gN 2) (zAk cl))
  (sSeq (sRet (cVar 1))
  zA5)))
def zBf(cl:Nat->CLL):Prop:=∀n,cl (n+1) "halves_with_start"=runF 1 3 (zAs (cl n))
noncomputable def zEj(cl:CLL):CT :=
 (zAx (cBin oNe (cBin (oIn false) (cBin oIx (cVar 1) (cCon (.int 0))) (cVar 2)) (cBin (oIn false) (cBin oIx (cVar 1) (cCon (.int 1))) (cVar 2))))
noncomputable def zEk(cl:CLL):C :=
 (cVar 0)
noncomputable def zEz(cl:CLL):CS :=
 (sSeq (sRet (cApp zCk (zA1 [(zBe (zGl (zA1 [(cBin oIx (cVar 0) (cCon (.int 2)))])) 2 [1] (.many 2) (zEj cl) (zEk cl))])))
  zA5)
def zGP(cl:Nat->CLL):Prop:=∀n,cl (n+1) "out_of"=runF 2 2 (zEz (cl n))
noncomputable def zBn(cl:CLL):CS :=
 (sSeq (sAsg (cApp (cl "out_of") (zA1 [(cVar 0),(cVar 2)])) (gN 3))
  (sSeq (sIf (cTru (cApp (cl "is_bar") (zA1 [(cVar 0),(cVar 3)]))) (sSeq (sAsg (cCon (.bl true)) (gS (cVar 1) (cVar 3)))
  zA5) zA5)
  zA5))
noncomputable def zCU(cl:CLL):CS :=
 (sSeq (sAsg zN7 (gN 1))
  (sSeq (sFor (iSeq (cApp (cl "halves_with_start") (zA1 [(cBin oIx (cVar 0) (cCon (.int 1)))]))) (gN 2) (zBn cl))
  (sSeq (sRet (cApp zAR (zA1 [(cVar 1)])))
  zA5)))
def zGR(cl:Nat->CLL):Prop:=∀n,cl (n+1) "all_bars"=runF 1 4 (zCU (cl n))
noncomputable def zAv(cl:CLL):CS :=
 (sSeq (sAsg (cBin oIx (cBin oIx (cVar 0) (cCon (.int 2))) (cVar 3)) (gN 4))
  (sSeq (sIf (zAx (cBin oNe (zGD "dict" zHZ (cVar 2) (zA1 [(cBin oIx (cVar 4) (cCon (.int 2))),(cBin oIx (cVar 4) (cCon (.int 3)))])) (cBin oIx (cVar 4) (cCon (.int 3))))) (sSeq (sRet (cCon (.bl false)))
  zA5) zA5)
  zA5))
noncomputable def zCp(cl:CLL):CS :=
 (sSeq (sAsg zN7 (gN 2))
  (sSeq (sFor (iSeq (cVar 1)) (gN 3) (zAv cl))
  (sSeq (sRet (cCon (.bl true)))
  zA5)))
def zF9(cl:Nat->CLL):Prop:=∀n,cl (n+1) "is_live"=runF 2 5 (zCp (cl n))
noncomputable def zCv(cl:CLL):CT :=
 (cTru (cApp (cl "is_live") (zA1 [(cVar 1),(cVar 0)])))
noncomputable def zCw(cl:CLL):C :=
 (cVar 0)
noncomputable def zCm(cl:CLL):CS :=
 (sSeq (sRet (zBe (iSeq (cApp (cl "all_ways") (zA1 [(cVar 0)]))) 1 [0] .one (zCv cl) (zCw cl)))
  zA5)
def zFm(cl:Nat->CLL):Prop:=∀n,cl (n+1) "live_ways"=runF 1 1 (zCm (cl n))
noncomputable def zCx(cl:CLL):CT :=
 (cTru (cApp (cl "is_live") (zA1 [(cVar 1),(cVar 0)])))
noncomputable def zCy(cl:CLL):C :=
 (cVar 0)
noncomputable def zCn(cl:CLL):CS :=
 (sSeq (sRet (zBe (iSeq (cApp (cl "all_bars") (zA1 [(cVar 0)]))) 1 [0] .one (zCx cl) (zCy cl)))
  zA5)
def zFn(cl:Nat->CLL):Prop:=∀n,cl (n+1) "live_bars"=runF 1 1 (zCn (cl n))
noncomputable def zDc(cl:CLL):C :=
 (cBin (oIn false) (cVar 0) (cVar 1))
noncomputable def zBU(cl:CLL):CS :=
 (sSeq (sIf (cTru (cApp (zAm fun bs=>bs.all id) (zA1 [(zBe (iSeq (cVar 3)) 1 [2] .one (fun _=>ret true) (zDc cl))]))) (sSeq (sRet (cVar 3))
  zA5) zA5)
  zA5)
noncomputable def zD2(cl:CLL):CS :=
 (sSeq (sAsg (cApp (cl "shut_at") (zA1 [(cVar 0),(cVar 1)])) (gN 2))
  (sSeq (sFor (iSeq (cApp (cl "all_ways") (zA1 [(cVar 0)]))) (gN 3) (zBU cl))
  (sSeq (sRet (cCon .non))
  zA5)))
def zJY(cl:Nat->CLL):Prop:=∀n,cl (n+1) "way_at"=runF 2 4 (zD2 (cl n))
noncomputable def zDD(cl:CLL):C :=
 (cBin (oIn false) (cVar 0) (cVar 1))
noncomputable def zC2(cl:CLL):CS :=
 (sSeq (sIf (zEv (cTru (cApp (zAm fun bs=>bs.any id) (zA1 [(zBe (iSeq (cVar 3)) 1 [2] .one (fun _=>ret true) (zDD cl))])))) (sSeq (sRet (cVar 3))
  zA5) zA5)
  zA5)
noncomputable def zD4(cl:CLL):CS :=
 (sSeq (sAsg (cApp (cl "shut_at") (zA1 [(cVar 0),(cVar 1)])) (gN 2))
  (sSeq (sFor (iSeq (cApp (cl "all_bars") (zA1 [(cVar 0)]))) (gN 3) (zC2 cl))
  (sSeq (sRet (cCon .non))
  zA5)))
def zK2(cl:Nat->CLL):Prop:=∀n,cl (n+1) "bar_at"=runF 2 4 (zD4 (cl n))
noncomputable def zBB(cl:CLL):CS :=
 (sSeq (sRet (cBin oAdd (cApp zCk (zA1 [(cApp zAR (zA1 [(cLst (zA1 [(cBin oIx (cVar 1) (cBin oIx (cVar 0) (cCon (.int 0)))),(cBin oIx (cVar 1) (cBin oIx (cVar 0) (cCon (.int 1))))]))]))])) (cSl oSl (cVar 0) (zH4 (cCon (.int 2))) zF4)))
  zA5)
def zBm(cl:Nat->CLL):Prop:=∀n,cl (n+1) "moved_contact"=runF 2 2 (zBB (cl n))
noncomputable def zHX(cl:CLL):C :=
 (cApp (cl "moved_contact") (zA1 [(cVar 0),(cVar 1)]))
noncomputable def zIs(cl:CLL):CS :=
 (sSeq (sRet (cApp zCk (zA1 [(zBe (iSeq (cVar 0)) 1 [1] .one (fun _=>ret true) (zHX cl))])))
  zA5)
def zIz(cl:Nat->CLL):Prop:=∀n,cl (n+1) "moved"=runF 2 2 (zIs (cl n))
noncomputable def zCB(cl:CLL):CS :=
 (sSeq (sIf (zAx (cBin (oCmp fun i j=>decide (j<i)) (cVar 1) (cCon (.int 7)))) (sSeq sBad
  zA5) zA5)
  (sSeq (sIf (zAx (cBin (oCmp fun i j=>decide (j<i)) (cApp fLen (zA1 [(cVar 2)])) (cCon (.int 16)))) (sSeq sBad
  zA5) zA5)
  (sSeq (sRet (cTup (zA1 [(cVar 0),(cVar 1),(cVar 2)])))
  zA5)))
def zCa(cl:Nat->CLL):Prop:=∀n,cl (n+1) "net_within"=runF 3 3 (zCB (cl n))
noncomputable def zBj(cl:CLL):CS :=
 (sSeq (sAsg (cBin (oInt fun i j=>i - j) (cBin oAdd (cBin oIx (cVar 0) (cCon (.int 1))) (cBin oIx (cVar 1) (cCon (.int 1)))) (cCon (.int 2))) (gN 2))
  (sSeq (sAsg (cApp (cl "moved") (zA1 [(cBin oIx (cVar 1) (cCon (.int 2))),(cBin oAdd (cLst (zA1 [(cCon (.int 0)),(cCon (.int 1))])) (cApp zCA (zA1 [(cBin oIx (cVar 0) (cCon (.int 1))),(cVar 2)])))])) (gN 3))
  (sSeq (sRet (cApp (cl "net_within") (zA1 [(cBin oIx (cVar 0) (cCon (.int 0))),(cVar 2),(cBin oAdd (cBin oIx (cVar 0) (cCon (.int 2))) (cVar 3))])))
  zA5)))
def zCs(cl:Nat->CLL):Prop:=∀n,cl (n+1) "side_by_side"=runF 2 4 (zBj (cl n))
noncomputable def zGJ(cl:CLL):CS :=
 (sSeq (sRet (cTup (zA1 [(cBin oIx (cVar 0) (cCon (.int 0))),(cBin oIx (cVar 0) (cCon (.int 1))),(cApp (cl "moved") (zA1 [(cBin oIx (cVar 0) (cCon (.int 2))),(cBin oAdd (cLst (zA1 [(cCon (.int 1)),(cCon (.int 0))])) (cApp zCA (zA1 [(cCon (.int 2)),(cBin oIx (cVar 0) (cCon (.int 1)))])))]))])))
  zA5)
def zIA(cl:Nat->CLL):Prop:=∀n,cl (n+1) "about"=runF 1 1 (zGJ (cl n))
noncomputable def zBC(cl:CLL):CS :=
 (sSeq (sIf (zAx (cBin oLt (cVar 1) (cApp fLen (zA1 [(cVar 0)])))) (sSeq (sRet (cBin oIx (cVar 0) (cVar 1)))
  zA5) zA5)
  (sSeq (sRet (cCon (.int 0)))
  zA5))
def zBT(cl:Nat->CLL):Prop:=∀n,cl (n+1) "_law_cell_at"=runF 2 2 (zBC (cl n))
noncomputable def zCo(cl:CLL):CS :=
 (sSeq (sAsg (cApp (cl "_law_cell_at") (zA1 [(cVar 0),(cVar 1)])) (gN 2))
  (sSeq (sIf (zAx (cBin (oCmp fun i j=>decide (j<=i)) (cVar 2) (cBin oPow (cCon (.int 10)) (cCon (.int 18))))) (sSeq (sRet (cLst (zA1 [(cBin (oInt fun i j=>i - j) (cVar 2) (cBin oPow (cCon (.int 10)) (cCon (.int 18)))),(cCon (.bl true))])))
  zA5) zA5)
  (sSeq (sRet (cLst (zA1 [(cBin oMod (cVar 2) (cCon (.int 2147483647))),(cCon (.bl false))])))
  zA5)))
def zDG(cl:Nat->CLL):Prop:=∀n,cl (n+1) "_law_state"=runF 2 3 (zCo (cl n))
noncomputable def zCP(cl:CLL):CS :=
 (sSeq (sIf (cTru (cBin oIx (cVar 0) (cCon (.int 1)))) (sSeq (sAsg (cBin oMod (cBin oIx (cVar 0) (cCon (.int 0))) (cVar 1)) (gN 2))
  (sSeq (sAsg (cBin oDiv (cBin oIx (cVar 0) (cCon (.int 0))) (cVar 1)) (gS (cVar 0) (cCon (.int 0))))
  (sSeq (sRet (cVar 2))
  zA5))) zA5)
  (sSeq (sAsg (cBin oMod (cBin oAdd (cBin oMul (cBin oIx (cVar 0) (cCon (.int 0))) (cCon (.int 48271))) (cCon (.int 29))) (cCon (.int 2147483647))) (gS (cVar 0) (cCon (.int 0))))
  (sSeq (sAsg (cBin oMod (cBin oAdd (cBin oAdd (cBin oMul (cBin oIx (cVar 0) (cCon (.int 0))) (cBin oIx (cVar 0) (cCon (.int 0)))) (cBin oMul (cCon (.int 39373)) (cBin oIx (cVar 0) (cCon (.int 0))))) (cCon (.int 7))) (cCon (.int 2147483629))) (gN 3))
  (sSeq (sAsg (cBin oMod (cBin oAdd (cBin oMul (cVar 3) (cVar 3)) (cBin oMul (cCon (.int 16807)) (cVar 3))) (cCon (.int 2147483587))) (gN 3))
  (sSeq (sRet (cBin oMod (cBin oDiv (cVar 3) (cCon (.int 8))) (cVar 1)))
  zA5)))))
def zCt(cl:Nat->CLL):Prop:=∀n,cl (n+1) "_law_take"=runF 2 4 (zCP (cl n))
noncomputable def zCR(cl:CLL):CS :=
 (sSeq (sAsg (cBin oAdd (cBin oAdd (cLst (zA1 [(cCon (.int 0))])) (cApp zCA (zA1 [(cCon (.int 2)),(cVar 1)]))) (cLst (zA1 [(cCon (.int 1))]))) (gN 2))
  (sSeq (sAsg (cApp (cl "_law_take") (zA1 [(cVar 0),(cBin (oInt fun i j=>i - j) (cVar 1) (cCon (.int 1)))])) (gN 3))
  (sSeq (sAsg (cBin oAdd (cVar 3) (cCon (.int 1))) (gN 4))
  (sSeq (sIf (zAx (cBin oEq (cApp (cl "_law_take") (zA1 [(cVar 0),(cCon (.int 3))])) (cCon (.int 0)))) (sSeq (sAsg (cBin oAdd (cBin oAdd (cVar 3) (cCon (.int 1))) (cApp (cl "_law_take") (zA1 [(cVar 0),(cBin (oInt fun i j=>i - j) (cBin (oInt fun i j=>i - j) (cVar 1) (cCon (.int 1))) (cVar 3))]))) (gN 4))
  zA5) zA5)
  (sSeq (sRet (cTup (zA1 [(cApp fMin (zA1 [(cBin oIx (cVar 2) (cVar 3)),(cBin oIx (cVar 2) (cVar 4))])),(cApp fMax (zA1 [(cBin oIx (cVar 2) (cVar 3)),(cBin oIx (cVar 2) (cVar 4))]))])))
  zA5)))))
def zD5(cl:Nat->CLL):Prop:=∀n,cl (n+1) "_law_ends"=runF 2 5 (zCR (cl n))
noncomputable def zCL(cl:CLL):CS :=
 (sSeq (zGT (zGD "list" (zG3 zF0) (cVar 11) (zA1 [(cApp (cl "_law_take") (zA1 [(cVar 0),(cBin oAdd (cApp fLen (zA1 [(cVar 11)])) (cCon (.int 1)))])),(cVar 12)])))
  zA5)
noncomputable def zDM(cl:CLL):CS :=
 (sSeq (zGT (zGD "list" (zG3 zDy) (cVar 6) (zA1 [(cBin oAdd (cApp (cl "_law_ends") (zA1 [(cVar 0),(cVar 5)])) (cTup (zA1 [(cApp (cl "_law_take") (zA1 [(cVar 0),(cVar 4)])),(cApp (cl "_law_take") (zA1 [(cVar 0),(cCon (.int 2))]))])))])))
  zA5)
noncomputable def zEW(cl:CLL):CS :=
 (sSeq (zGT (zGD "list" (zG3 zDy) (cVar 6) (zA1 [(cTup (zA1 [(cApp fMin (zA1 [(cVar 8),(cVar 9)])),(cApp fMax (zA1 [(cVar 8),(cVar 9)])),(cApp (cl "_law_take") (zA1 [(cVar 0),(cVar 4)])),(cApp (cl "_law_take") (zA1 [(cVar 0),(cCon (.int 2))]))]))])))
  zA5)
noncomputable def zCQ(cl:CLL):CS :=
 (sSeq (sAsg (cBin oAdd (cCon (.int 1)) (cApp (cl "_law_take") (zA1 [(cVar 0),(cVar 1)]))) (gN 4))
  (sSeq (sAsg (cBin oAdd (cCon (.int 2)) (cApp (cl "_law_take") (zA1 [(cVar 0),(cBin (oInt fun i j=>i - j) (cVar 2) (cCon (.int 1)))]))) (gN 5))
  (sSeq (sAsg (cLst (zA1 [])) (gN 6))
  (sSeq (sAsg (cBin oAdd (cBin oAdd (cLst (zA1 [(cCon (.int 0))])) (cApp zCA (zA1 [(cCon (.int 2)),(cVar 5)]))) (cLst (zA1 [(cCon (.int 1))]))) (gN 7))
  (sSeq (sIf (zL3 (zAx (cBin oEq (cApp (cl "_law_take") (zA1 [(cVar 0),(cCon (.int 2))])) (cCon (.int 0)))) (zAx (cBin (oCmp fun i j=>decide (i<=j)) (cBin (oInt fun i j=>i - j) (cVar 5) (cCon (.int 1))) (cVar 3)))) (sSeq (sFor (zRj (zA1 [(cVar 7),(cSl oSl (cVar 7) (zH4 (cCon (.int 1))) zF4)])) (gT [(gN 8),(gN 9)]) (zEW cl))
  zA5) zA5)
  (sSeq (sFor (zDx (zA1 [(cApp (cl "_law_take") (zA1 [(cVar 0),(cBin oAdd (cBin (oInt fun i j=>i - j) (cVar 3) (cApp fLen (zA1 [(cVar 6)]))) (cCon (.int 1)))]))])) (gN 10) (zDM cl))
  (sSeq (sAsg (cLst (zA1 [])) (gN 11))
  (sSeq (sFor (iSeq (cVar 6)) (gN 12) (zCL cl))
  (sSeq (sRet (cTup (zA1 [(cVar 4),(cVar 5),(cApp zCk (zA1 [(cVar 11)]))])))
  zA5)))))))))
def zF8(cl:Nat->CLL):Prop:=∀n,cl (n+1) "_law_net"=runF 4 13 (zCQ (cl n))
noncomputable def zBx(cl:CLL):C :=
 (cBin (oIn false) (cVar 0) (cVar 1))
noncomputable def zAY(cl:CLL):CT :=
 (zEv (cTru (cApp (zAm fun bs=>bs.any id) (zA1 [(zBe (iSeq (cVar 0)) 1 [1] .one (fun _=>ret true) (zBx cl))]))))
noncomputable def zCi(cl:CLL):C :=
 (cVar 0)
noncomputable def zBw(cl:CLL):C :=
 (cBin (oIn false) (cVar 0) (cVar 1))
noncomputable def zAX(cl:CLL):CT :=
 (cTru (cApp (zAm fun bs=>bs.all id) (zA1 [(zBe (iSeq (cVar 0)) 1 [1] .one (fun _=>ret true) (zBw cl))])))
noncomputable def zCh(cl:CLL):C :=
 (cVar 0)
noncomputable def zBk(cl:CLL):CS :=
 (sSeq (sAsg (cApp (cl "shut_at") (zA1 [(cVar 0),(cVar 1)])) (gN 2))
  (sSeq (sAsg (zBe (iSeq (cApp (cl "live_ways") (zA1 [(cVar 0)]))) 1 [2] .one (zAX cl) (zCh cl)) (gN 3))
  (sSeq (sAsg (zBe (iSeq (cApp (cl "live_bars") (zA1 [(cVar 0)]))) 1 [2] .one (zAY cl) (zCi cl)) (gN 4))
  (sSeq (sIf (cOrT (zAx (cBin oNe (cBin oNe (cVar 3) (cLst (zA1 []))) (cApp (cl "lets") (zA1 [(cVar 0),(cVar 1)])))) (zAx (cBin oNe (cBin oEq (cVar 4) (cLst (zA1 []))) (cApp (cl "lets") (zA1 [(cVar 0),(cVar 1)]))))) (sSeq (sRet (cCon (.bl false)))
  zA5) zA5)
  (sSeq (sRet (zN8 (cBin oEq (cApp (cl "way_at") (zA1 [(cVar 0),(cVar 1)])) (cBin oIx (cBin oAdd (cVar 3) (cLst (zA1 [(cCon .non)]))) (cCon (.int 0)))) (cBin oEq (cApp (cl "bar_at") (zA1 [(cVar 0),(cVar 1)])) (cBin oIx (cBin oAdd (cVar 4) (cLst (zA1 [(cCon .non)]))) (cCon (.int 0))))))
  zA5)))))
def zDH(cl:Nat->CLL):Prop:=∀n,cl (n+1) "_law_at_right"=runF 2 5 (zBk (cl n))
noncomputable def zAB(cl:CLL):CT :=
 (zAx (cBin (oIn true) (cLst (zA1 [(cVar 0)])) (cVar 1)))
noncomputable def zBL(cl:CLL):C :=
 (cVar 0)
noncomputable def zBJ(cl:CLL):CT :=
 (zAx (cBin (oIn false) (cVar 0) (cVar 1)))
noncomputable def zBK(cl:CLL):C :=
 (cVar 0)
noncomputable def zAn(cl:CLL):C :=
 (zBe (iSeq (cVar 1)) 1 [0] .one (zBJ cl) (zBK cl))
noncomputable def zAC(cl:CLL):CS :=
 (sSeq (sAsg (zBe (iSeq (cVar 2)) 1 [3] .one (fun _=>ret true) (zAn cl)) (gN 4))
  (sSeq (sIf (cOrT (zAx (cBin (oIn false) (cLst (zA1 [])) (cVar 4))) (zAx (cBin oNe (zBe (iSeq (cVar 3)) 1 [4] .one (zAB cl) (zBL cl)) (cLst (zA1 []))))) (sSeq (sRet (cCon (.bl false)))
  zA5) zA5)
  zA5))
noncomputable def zB5(cl:CLL):C :=
 (cApp (cl "is_bar") (zA1 [(cVar 1),(cVar 0)]))
noncomputable def zB4(cl:CLL):C :=
 (cApp (cl "is_way") (zA1 [(cVar 1),(cVar 0)]))
noncomputable def zAL(cl:CLL):CS :=
 (sSeq (sAsg (cApp (cl "all_ways") (zA1 [(cVar 0)])) (gN 1))
  (sSeq (sAsg (cApp (cl "all_bars") (zA1 [(cVar 0)])) (gN 2))
  (sSeq (sIf (cOrT (zEv (cTru (cApp (zAm fun bs=>bs.all id) (zA1 [(zBe (iSeq (cVar 1)) 1 [0] .one (fun _=>ret true) (zB4 cl))])))) (zEv (cTru (cApp (zAm fun bs=>bs.all id) (zA1 [(zBe (iSeq (cVar 2)) 1 [0] .one (fun _=>ret true) (zB5 cl))]))))) (sSeq (sRet (cCon (.bl false)))
  zA5) zA5)
  (sSeq (sFor (iSeq (cSl oSl (cVar 1) zF4 (zH4 (cCon (.int 12))))) (gN 3) (zAC cl))
  (sSeq (sRet (cCon (.bl true)))
  zA5)))))
def zCV(cl:Nat->CLL):Prop:=∀n,cl (n+1) "_law_meet_right"=runF 1 5 (zAL (cl n))
noncomputable def zEr(cl:CLL):C :=
 (cApp (cl "_law_at_right") (zA1 [(cVar 1),(cVar 0)]))
noncomputable def zBY(cl:CLL):CS :=
 (sSeq (sAsg (cApp (cl "_law_state") (zA1 [(cVar 0),(cVar 1)])) (gN 2))
  (sSeq (sAsg (cApp (cl "_law_net") (zA1 [(cVar 2),(cCon (.int 4)),(cCon (.int 6)),(cBin oIx (cLst (zA1 [(cCon (.int 5)),(cCon (.int 8)),(cCon (.int 12))])) (cApp (cl "_law_take") (zA1 [(cVar 2),(cCon (.int 3))])))])) (gN 3))
  (sSeq (sIf (cOrT (zEv (cTru (cApp (zAm fun bs=>bs.all id) (zA1 [(zBe (iSeq (cApp (cl "settings") (zA1 [(cBin oIx (cVar 3) (cCon (.int 0)))]))) 1 [3] .one (fun _=>ret true) (zEr cl))])))) (zEv (cTru (cApp (cl "_law_meet_right") (zA1 [(cVar 3)]))))) (sSeq (sRet (cCon (.bl false)))
  zA5) zA5)
  (sSeq (sIf (cOrT (zAx (cBin oNe (cApp (cl "all_ways") (zA1 [(cApp (cl "about") (zA1 [(cVar 3)]))])) (cApp (cl "all_ways") (zA1 [(cVar 3)])))) (zAx (cBin oNe (cApp (cl "all_bars") (zA1 [(cApp (cl "about") (zA1 [(cVar 3)]))])) (cApp (cl "all_bars") (zA1 [(cVar 3)]))))) (sSeq (sRet (cCon (.bl false)))
  zA5) zA5)
  (sSeq (sIf (zL3 (zAx (cBin oLt (cBin oIx (cVar 3) (cCon (.int 1))) (cCon (.int 5)))) (zAx (cBin oLt (cApp fLen (zA1 [(cBin oIx (cVar 3) (cCon (.int 2)))])) (cCon (.int 9))))) (sSeq (sIf (zAx (cBin oNe (cApp fLen (zA1 [(cApp (cl "all_ways") (zA1 [(cApp (cl "side_by_side") (zA1 [(cVar 3),(cVar 3)]))]))])) (cBin oMul (cCon (.int 2)) (cApp fLen (zA1 [(cApp (cl "all_ways") (zA1 [(cVar 3)]))]))))) (sSeq (sRet (cCon (.bl false)))
  zA5) zA5)
  zA5) zA5)
  zA5)))))
noncomputable def zFJ(cl:CLL):CS :=
 (sSeq (sFor (zDx (zA1 [(cApp fMax (zA1 [(cCon (.int 1)),(cApp fMin (zA1 [(cApp fLen (zA1 [(cVar 0)])),(cCon (.int 5))]))]))])) (gN 1) (zBY cl))
  (sSeq (sRet (cCon (.bl true)))
  zA5))
def zJZ(cl:Nat->CLL):Prop:=∀n,cl (n+1) "law"=runF 1 4 (zFJ (cl n))
variable {cl:Nat->CLL}
theorem zPz(h:zBT cl)(n:Nat)(ns:yA)(k:Int)(hk:0<=k)(S:zA0):∃c,cl (n+1) "_law_cell_at" [.rol (ns.map D.int),.int k] S=.ok (.int c) S:=by
 by_cases hl:k<ns.length
 ·refine⟨ns[k.toNat]'(by omega),?_⟩;have e:atI (ns.map D.int) k=some (.int (ns[k.toNat]'(by omega))):=by have q:=zCq (xs:=ns.map D.int) (j:=k.toNat) (v:=.int (ns[k.toNat]'(by omega))) (by rw[qC1,qA5 (by omega)];rfl);rw[show((k.toNat:Nat):Int)=k by omega]at q;exact q
  rw[h];refine zA7 rfl ?_;simp[zBC,zAe,hl,e]
 ·refine⟨0,?_⟩;rw[h];refine zA7 rfl ?_;simp[zBC,zAe,hl]
def StOk(S:zA0)(i:Nat):Prop:=∃s b,zA4 S i=some [.int s,.bl b]/\(b=false->0<=s/\s<2147483647)
theorem StOk.lt{S:zA0}{i:Nat}(h:StOk S i):i<S.length:=by obtain⟨s,b,e,_⟩:=h;exact zEo e
theorem StOk.ex{S S':zA0}{i:Nat}(h:StOk S i)(e:Ex S S'):StOk S' i:=by obtain⟨s,b,q,r⟩:=h;exact⟨s,b,e.lst q (fun z=>z),r⟩
theorem zMh(h:zDG cl)(hc:zBT cl)(n:Nat)(ns:yA)(k:Int)(hk:0<=k)(S:zA0):∃S1,cl (n+2) "_law_state" [.rol (ns.map D.int),.int k] S=.ok (.lst S.length) S1/\Ex S S1/\StOk S1 S.length:=by
 obtain⟨c,ec⟩:=zPz hc n ns k hk S;rw[show n+2=(n+1)+1 from rfl,h];by_cases hb:(1000000000000000000:Int)<=c
 ·refine⟨S++[.lst [.int (c - 1000000000000000000),.bl true]],zA7 rfl ?_,zA6 _ _,_,_,zA2 _ _,fun z=>by cases z⟩;simp[zCo,zAe,ec,hb]
 ·refine⟨S++[.lst [.int (c % 2147483647),.bl false]],zA7 rfl ?_,zA6 _ _,_,_,zA2 _ _,fun _=>⟨qK6 _ (by decide),qJ6 _ (by decide)⟩⟩;simp[zCo,zAe,ec,hb]
theorem zFZ{i j:Int}(h1:-18446744073709551616<j)(h2:j<18446744073709551616):zER i j=true:=by unfold zER;simp[h1,h2]
@[simp] theorem zXU:ixN 2 0=some 0:=rfl
inductive zZR(c:CLL)(S:zA0)(i:Nat)(m:Int):Prop
 |mk (r:Int) (S1:zA0) (e:c "_law_take" [.lst i,.int m] S=.ok (.int r) S1) (a:0<=r) (b:r<m) (k:Kp (·=i) S S1) (l:S1.length=S.length) (st:StOk S1 i)
theorem zAA(h:zCt cl)(n:Nat){S:zA0}{i:Nat}(hS:StOk S i){m:Int}(m0:0<m)(m1:m<1073741824):zZR (cl (n+1)) S i m:=by
 obtain⟨s,b,hs,hb⟩:=hS;have e0:=zCW hs;cases b with
 |true =>
  refine⟨s % m,S.set i (.lst [.int (s / m),.bl true]),?_,qK6 _ (by omega),qJ6 _ m0,zFh _ _,by simp,⟨_,_,zDr hs,fun z=>by cases z⟩⟩;rw[h];refine zA7 rfl ?_;simp[zCP,zAe,e0,m0,m1,zLz hs]
 |false =>
  obtain⟨s0,s1⟩:=hb rfl;generalize hz:(s*48271+29) % 2147483647=z;have z0:0<=z:=by rw[<- hz];exact qK6 _ (by decide)
  have z1:z<2147483647:=by rw[<- hz];exact qJ6 _ (by decide)
  generalize hy:(z*z+39373*z+7) % 2147483629=y;have y0:0<=y:=by rw[<- hy];exact qK6 _ (by decide)
  have y1:y<2147483629:=by rw[<- hy];exact qJ6 _ (by decide)
  generalize hx:(y*y+16807*y) % 2147483587=x;refine⟨x / 8 % m,S.set i (.lst [.int z,.bl false]),?_,qK6 _ (by omega),qJ6 _ m0,zFh _ _,by simp,⟨_,_,zDr hs,fun _=>⟨z0,z1⟩⟩⟩;rw[h];refine zA7 rfl ?_;have e1:=zCW (zDr (ys:=[.int z,.bl false]) hs);have k1:zER s 48271=true:=zFZ (by decide) (by decide);have k2:zER z z=true:=zFZ (by omega) (by omega);have k3:zER 39373 z=true:=zFZ (by omega) (by omega);have k4:zER y y=true:=zFZ (by omega) (by omega);have k5:zER 16807 y=true:=zFZ (by omega) (by omega);simp[zCP,zAe,e0,zLz hs,k1,hz,e1,k2,k3,hy,k4,k5,hx,m0]
structure Ct where
 a:Int
 b:Int
 k:Int
 o:Int
 deriving DecidableEq
abbrev yN:=List Ct
noncomputable def Ct.d(c:Ct):D:=.tup [.int c.a,.int c.b,.int c.k,.int c.o]
def Ct.ok(sw pl:Int)(c:Ct):Prop:=0<=c.a/\c.a<c.b/\c.b<pl/\0<=c.k/\c.k<sw/\0<=c.o/\c.o<2
structure Net where
 sw:Int
 pl:Int
 cs:yN
noncomputable def Net.d(n:Net):D:=.tup [.int n.sw,.int n.pl,.tup (n.cs.map Ct.d)]
structure Net.ok(ms mp mc:Int)(n:Net):Prop where
 s1:1<=n.sw
 s2:n.sw<=ms
 p1:2<=n.pl
 p2:n.pl<=mp
 c1:(n.cs.length:Int)<=mc
 c2:∀c∈n.cs,c.ok n.sw n.pl
theorem zCX{S:zA0}{n m:Nat}{xs ys:yM}(h1:zA4 S n=some xs)(h2:zA4 S m=some ys)(h:xs.length+ys.length<=lim):oAdd (.lst n) (.lst m) S=.ok (.lst S.length) (S++[.lst (xs++ys)]):=by show(match S[n]?,S[m]? with|some (O.lst xs),some (O.lst ys)=>(if xs.length+ys.length<=lim then R.ok (D.lst S.length) (S++[O.lst (xs++ys)])else .bad)| _,_=>.bad)=_;rw[zAN h1,zAN h2];dsimp only;rw[if_pos h]
noncomputable def rowL(n:Int):yA:=[0]++((List.range (n - 2).toNat).map fun(k:Nat)=>(2:Int)+(k:Nat))++[1]
noncomputable def rowJ(n i:Int):Int:=if i=0 then 0 else if i=n - 1 then 1 else i+1
theorem zHQ{n:Int}(h2:2<=n):(rowL n).length=n.toNat:=by unfold rowL;simp;omega
theorem zLs{n:Int}{i:Nat}(h2:2<=n)(hi:(i:Int)<n):(rowL n)[i]?=some (rowJ n i):=by
 unfold rowL rowJ;by_cases h0:i=0
 ·subst h0;simp
 ·rw[if_neg (by omega)];by_cases hl:(i:Int)=n - 1
  ·rw[if_pos hl,qA1 (by simp;omega)];have:i - ([0]++((List.range (n - 2).toNat).map fun(k:Nat)=>(2:Int)+(k:Nat))).length=0:=by simp;omega
   rw[this];rfl
  ·rw[if_neg hl,qA8 (by simp;omega),qA1 (by simp;omega)];simp only[qD1,qH7,qC1];rw[qG9 (by omega)];simp;omega
theorem zNY{n i:Int}(h2:2<=n)(h0:0<=i)(hi:i<n):atI ((rowL n).map D.int) i=some (.int (rowJ n i)):=by have q:=zCq (xs:=(rowL n).map D.int) (j:=i.toNat) (v:=.int (rowJ n i.toNat)) (by rw[qC1,zLs h2 (by omega)];rfl);rw[show((i.toNat:Nat):Int)=i by omega]at q;exact q
theorem zHR{n i:Int}(h2:2<=n)(h0:0<=i)(hi:i<n):0<=rowJ n i/\rowJ n i<n:=by unfold rowJ;split<;>(try split)<;>omega
theorem zNZ{n i j:Int}(h2:2<=n)(h0:0<=i)(hij:i<j)(hj:j<n):rowJ n i≠rowJ n j:=by unfold rowJ;split<;>split<;>(try split)<;>(try split)<;>omega
theorem mima{x y n:Int}(hx:0<=x/\x<n)(hy:0<=y/\y<n)(h:x≠y):0<=(if y<x then y else x)/\(if y<x then y else x)<(if y>x then y else x)/\(if y>x then y else x)<n:=by split<;>split<;>omega
theorem zFN(lo:Int)(n:Nat):(upD lo n).length=n:=by unfold upD;simp
theorem zAa:lim=1048576:=rfl
theorem zS2{ρ:Env1}{j:Nat}{n:Int}(hj:ρ[j]?=some (some (.int n)))(h2:2<=n)(h7:n<=7)(S:zA0):∃k S1,cBin oAdd (cBin oAdd (cLst (zA1 [(cCon (.int 0))])) (cApp zCA (zA1 [(cCon (.int 2)),(cVar j)]))) (cLst (zA1 [(cCon (.int 1))])) ρ S=.ok (.lst k) S1/\Ex S S1/\S.length<=k/\zA4 S1 k=some ((rowL n).map D.int):=by
 have e1:zCA [.int 2,.int n] (S++[O.lst [D.int 0]])=.ok (.lst (S++[O.lst [D.int 0]]).length) (S++[O.lst [D.int 0]]++[.lst (upD 2 (n - 2).toNat)]):=by unfold zCA;dsimp only;rw[if_pos (by omega)]
 generalize hA:S++[O.lst [D.int 0]]++[O.lst (upD 2 (n - 2).toNat)]=A at e1;have a1:zA4 A S.length=some [.int 0]:=by rw[<- hA];exact zAq (zA2 _ _)
 have a2:zA4 A (S++[O.lst [D.int 0]]).length=some (upD 2 (n - 2).toNat):=by rw[<- hA];exact zA2 _ _
 have e2:=zCX a1 a2 (by rw[zFN,zAa];simp;omega);generalize hB:A++[O.lst ([D.int 0]++upD 2 (n - 2).toNat)]=B at e2;have b1:zA4 (B++[O.lst [D.int 1]]) A.length=some ([D.int 0]++upD 2 (n - 2).toNat):=by rw[<- hB];exact zAq (zA2 _ _)
 have e3:=zCX b1 (zA2 B [D.int 1]) (by rw[qB3,zFN,zAa];simp;omega);refine⟨(B++[O.lst [D.int 1]]).length,(B++[O.lst [D.int 1]])++[O.lst ([D.int 0]++upD 2 (n - 2).toNat++[D.int 1])],?_,?_,?_,?_⟩
 ·simp only[zUq,zUn,zHC,zJJ,zUp,zAW,zPN,zUl,hj,e1,e2,e3]
 ·have:Ex S A:=by rw[<- hA];exact(zA6 _ _).trans (zA6 _ _)
  have:Ex S B:=by rw[<- hB];exact this.trans (zA6 _ _)
  exact(this.trans (zA6 _ _)).trans (zA6 _ _)
 ·rw[qB3,<- hB,qB3,<- hA];simp;omega
 ·rw[zA2];congr 1;unfold rowL upD;simp
inductive zZX(c:CLL)(S:zA0)(i:Nat)(pl:Int):Prop
 |mk (x y:Int) (S1:zA0) (e:c "_law_ends" [.lst i,.int pl] S=.ok (.tup [.int x,.int y]) S1) (h0:0<=x) (h1:x<y) (h2:y<pl) (k:Kp (·=i) S S1) (st:StOk S1 i)
theorem zPb(h:zD5 cl)(ht:zCt cl)(n:Nat){S:zA0}{i:Nat}(hS:StOk S i){pl:Int}(p2:2<=pl)(p7:pl<=7):zZX (cl (n+2)) S i pl:=by
 obtain⟨k,S1,e1,x1,hk,l1⟩:=zS2 (ρ:=[some (.lst i),some (.int pl),none,none,none]) (j:=1) rfl p2 p7 S;have st1:=hS.ex x1;have ki:k≠i:=by have:=hS.lt;omega
 obtain⟨one,S2,e2,o0,o1,k2,n2,st2⟩:=zAA ht n st1 (m:=pl - 1) (by omega) (by omega);obtain⟨c3,S3,e3,c0,c1,k3,n3,st3⟩:=zAA ht n st2 (m:=3) (by omega) (by omega);have l3:zA4 S3 k=some ((rowL pl).map D.int):=k3.lst (k2.lst l1 ki) ki;have fin:∀(other:Int) (S4:zA0),one<other->other<pl->zA4 S4 k=some ((rowL pl).map D.int)->∀x y,x=(if rowJ pl other<rowJ pl one then rowJ pl other else rowJ pl one)->y=(if rowJ pl other>rowJ pl one then rowJ pl other else rowJ pl one) ->
   (oIx (.lst k) (.int one) S4=.ok (.int (rowJ pl one)) S4/\oIx (.lst k) (.int other) S4=.ok (.int (rowJ pl other)) S4)/\0<=x/\x<y/\y<pl:=by intro other S4 h1 h2 l4 x y ex ey;obtain⟨m1,m2,m3⟩:=mima (zHR p2 (i:=one) (by omega) (by omega)) (zHR p2 (i:=other) (by omega) (by omega)) (zNZ p2 (by omega) h1 h2);subst ex ey;exact⟨⟨by rw[zCW l4,zNY p2 (by omega) (by omega)],by rw[zCW l4,zNY p2 (by omega) (by omega)]⟩,m1,m2,m3⟩
 by_cases hc:c3=0
 ·obtain⟨r,S4,e4,r0,r1,k4,n4,st4⟩:=zAA ht n st3 (m:=pl - 1 - one) (by omega) (by omega);obtain⟨⟨f1,f2⟩,f3,f4,f5⟩:=fin (one+1+r) S4 (by omega) (by omega) (k4.lst l3 ki) _ _ rfl rfl;refine⟨_,_,S4,?_,f3,f4,f5,(x1.kp.trans k2).trans (k3.trans k4),st4⟩;rw[show n+2=(n+1)+1 from rfl,h];refine zA7 rfl ?_;simp[zCR,zAe,↓e1,e2,e3,hc,e4,f1,f2]
 ·obtain⟨⟨f1,f2⟩,f3,f4,f5⟩:=fin (one+1) S3 (by omega) (by omega) l3 _ _ rfl rfl;refine⟨_,_,S3,?_,f3,f4,f5,(x1.kp.trans k2).trans k3,st3⟩;rw[show n+2=(n+1)+1 from rfl,h];refine zA7 rfl ?_;simp[zCR,zAe,↓e1,e2,e3,hc,f1,f2]
theorem _root_.L2.Kp.setNew{P:Nat->Prop}{S0 S:zA0}{l:Nat}{o:O}(h:Kp P S0 S)(hl:S0.length<=l):Kp P S0 (S.set l o) :=
 ⟨by rw[qO6];exact h.le,fun j hj n=>by rw[qF1 (by omega)];exact h.eq j hj n⟩
theorem StOk.setO{S:zA0}{i l:Nat}{o:O}(h:StOk S i)(hl:l≠i):StOk (S.set l o) i:=by obtain⟨s,b,q,r⟩:=h;exact⟨s,b,zEn (by rw[qF1 hl];exact zAN q),r⟩
theorem zET{S:zA0}{i l:Nat}{o:O}{xs:yM}(h:zA4 S i=some xs)(hl:l≠i):zA4 (S.set l o) i=some xs:=zEn (by rw[qF1 hl];exact zAN h)
@[simp] theorem zK5{lo:Int}{n i:Nat}{d:D}:(upD lo n)[i]?=some d↔i<n/\d=.int (lo+i):=by
 unfold upD;rw[qC1];by_cases h:i<n
 ·rw[qG9 h];simp[h,eq_comm]
 ·rw[qL9 (by simpa using h)];simp[h]
structure Rows(S0 S:zA0)(i l:Nat)(sw pl:Int)(cs:yN):Prop where
 at':zA4 S l=some (cs.map Ct.d)
 ok:∀c∈cs,c.ok sw pl
 st:StOk S i
 kp:Kp (·=i) S0 S
 ge:S0.length<=l
 ne:l≠i
theorem Rows.put{S0 S S1:zA0}{i l:Nat}{sw pl:Int}{cs ds:yN}(h:Rows S0 S i l sw pl cs)(k:Kp (·=i) S S1)(st:StOk S1 i)(hd:∀c∈ds,c.ok sw pl):Rows S0 (S1.set l (.lst (ds.map Ct.d))) i l sw pl ds :=
 ⟨zDr (k.lst h.at' h.ne),hd,st.setO h.ne,(h.kp.trans k).setNew h.ge,h.ge,h.ne⟩
theorem Rows.go{S0 S S1:zA0}{i l:Nat}{sw pl:Int}{cs:yN}(h:Rows S0 S i l sw pl cs)(k:Kp (·=i) S S1)(st:StOk S1 i):Rows S0 S1 i l sw pl cs:=⟨k.lst h.at' h.ne,h.ok,st,h.kp.trans k,h.ge,h.ne⟩
noncomputable def nE(i:Nat)(ms mp mc sw pl:Int)(l:Nat)(a b c d e f:Option D):Env1:=[some (.lst i),some (.int ms),some (.int mp),some (.int mc),some (.int sw),some (.int pl),some (.lst l),a,b,c,d,e,f]
inductive NetP(S:zA0)(i:Nat)(ms mp mc:Int)(N:Net)(S1:zA0):Prop
 |mk (ok:N.ok ms mp mc) (k:Kp (·=i) S S1) (st:StOk S1 i)
inductive zUz(r:RS)(S:zA0)(i:Nat)(ms mp mc:Int):Prop
 |mk (N:Net) (S1:zA0) (e:r=.rt N.d S1) (p:NetP S i ms mp mc N S1)
inductive zXz(r:R D)(S:zA0)(i:Nat)(ms mp mc:Int):Prop
 |mk (N:Net) (S1:zA0) (e:r=.ok N.d S1) (ok:N.ok ms mp mc) (k:Kp (·=i) S S1) (st:StOk S1 i)
inductive zZV(S0:zA0)(i l:Nat)(ms mp mc sw pl:Int)(v7 v8 v9 v10:Option D)(m:Nat)(cs:yN)(j:Nat)(ρ:Env1)(S':zA0):Prop
 |mk (v12:Option D) (ds:yN) (e:ρ=nE i ms mp mc sw pl l v7 v8 v9 v10 (some (.lst m)) v12) (Rl:Rows S0 S' i l sw pl cs) (Rd:Rows S0 S' i m sw pl ds) (h:ds.length=j)
inductive zZU(S0:zA0)(i l:Nat)(ms mp mc sw pl:Int)(v7 v8 v9:Option D)(n0:Nat)(j:Nat)(ρ:Env1)(S':zA0):Prop
 |mk (v10:Option D) (ds:yN) (e:ρ=nE i ms mp mc sw pl l v7 v8 v9 v10 none none) (R:Rows S0 S' i l sw pl ds) (h:ds.length=n0+j)
inductive zZT(S0:zA0)(i l:Nat)(ms mp mc sw pl:Int)(kr t:Nat)(j:Nat)(ρ:Env1)(S':zA0):Prop
 |mk (v8 v9:Option D) (ds:yN) (e:ρ=nE i ms mp mc sw pl l (some (.lst kr)) v8 v9 none none none) (R:Rows S0 S' i l sw pl ds) (h:ds.length=j) (q1:zA4 S' kr=some ((rowL pl).map D.int)) (q2:zA4 S' t=some (((rowL pl).drop 1).map D.int))
theorem zQS(h:zF8 cl)(he:zD5 cl)(ht:zCt cl)(n:Nat){S:zA0}{i:Nat}(hS:StOk S i){ms mp mc:Int}(hms:1<=ms/\ms<=4)(hmp:2<=mp/\mp<=7)(hmc:0<=mc/\mc<=16):zXz (cl (n+3) "_law_net" [.lst i,.int ms,.int mp,.int mc] S) S i ms mp mc:=by
 obtain⟨r1,S1,e1,a1,b1,k1,n1,st1⟩:=zAA ht (n+1) hS (m:=ms) (by omega) (by omega);obtain⟨r2,S2,e2,a2,b2,k2,n2,st2⟩:=zAA ht (n+1) st1 (m:=mp - 1) (by omega) (by omega);generalize hsw:1+r1=sw at *;generalize hpl:2+r2=pl at *;have w1:1<=sw:=by omega
 have w2:sw<=ms:=by omega
 have p1:2<=pl:=by omega
 have p2:pl<=mp:=by omega
 have kS2:Kp (·=i) S S2:=k1.trans k2;have hl:S.length<=S2.length:=kS2.le;have li:S2.length≠i:=by have:=hS.lt;omega
 obtain⟨kr,S4,e4,x4,hk4,l4⟩:=zS2 (ρ:=nE i ms mp mc sw pl S2.length none none none none none none) (j:=5) rfl p1 (by omega) (S2++[.lst []]);have kri:kr≠i:=by have:=hS.lt;simp at hk4;omega
 have krl:kr≠S2.length:=by simp at hk4;omega
 have R4:Rows S S4 i S2.length sw pl []:=⟨x4.lst (zA2 _ _) (fun z=>z),(fun c hc=>by cases hc),(st2.ex (zA6 _ _)).ex x4,kS2.trans ((zA6 S2 [.lst []]).trans x4).kp,hl,li⟩
 have fin:∀(cs:yN) (S5:zA0) (v7 v8 v9 v10:Option D),Rows S S5 i S2.length sw pl cs->(cs.length:Int)<=mc ->
   zUz ((sSeq (sAsg (cLst (zA1 [])) (gN 11)) (sSeq (sFor (iSeq (cVar 6)) (gN 12) (zCL (cl (n+2)))) (sSeq (sRet (cTup (zA1 [(cVar 4),(cVar 5),(cApp zCk (zA1 [(cVar 11)]))]))) zA5))) (nE i ms mp mc sw pl S2.length v7 v8 v9 v10 none none) S5) S i ms mp mc:=by
  intro cs S5 v7 v8 v9 v10 R5 hc;have hm:S.length<=S5.length:=R5.kp.le;have mi:S5.length≠i:=by have:=hS.lt;omega
  have ml:S2.length≠S5.length:=by have:=zEo R5.at';omega
  have Rm:Rows S (S5++[.lst []]) i S2.length sw pl cs:=R5.go (zA6 _ _).kp (R5.st.ex (zA6 _ _));obtain⟨ρ',S6,e6,v12,ds,hρ,Rl,Rd,hd⟩:=zBQ (w:=[(S2.length,cs.map Ct.d)]) (g:=gN 12) (b:=zCL (cl (n+2))) (items:=cs.map Ct.d)
   (zZV S i S2.length ms mp mc sw pl v7 v8 v9 v10 S5.length cs)
   (ρ:=nE i ms mp mc sw pl S2.length v7 v8 v9 v10 (some (.lst S5.length)) none) (S:=S5++[.lst []])
   (fun j ρ S' hp=>by obtain⟨_,_,_,q,_⟩:=hp;exact zAQ q.at')
   ⟨none,[],rfl,Rm,⟨zA2 _ _,(fun c hc=>by cases hc),Rm.st,Rm.kp,hm,mi⟩,rfl⟩
   (fun j d ρ S' hd hp=>by
    obtain⟨v12,ds,rfl,Rl,Rd,hj⟩:=hp;rw[qC1]at hd;obtain⟨c,hc1,rfl⟩:=qA4.mp hd;have cok:=R5.ok c (qB4 hc1);have jl:j<cs.length:=(qA2.mp hc1).1;obtain⟨r,S7,e7,r0,r9,k7,n7,st7⟩:=zAA ht (n+1) Rl.st (m:=((ds.map Ct.d).length:Int)+1) (by omega) (by rw[qA0];omega);rw[qA0]at e7 r9;have hins:∀c'∈ds.take r.toNat++c::ds.drop r.toNat,c'.ok sw pl:=fun c' hc'=>by
     rcases qB2.mp hc' with q|q
     ·exact Rd.ok c' (qG4 q)
     ·rcases qC0.mp q with q|q
      ·subst q;exact cok
      ·exact Rd.ok c' (qH3 q)
    have Rd7:=Rd.put k7 st7 hins;have Rl7:Rows S (S7.set S5.length (.lst ((ds.take r.toNat++c::ds.drop r.toNat).map Ct.d))) i S2.length sw pl cs:=⟨zET (k7.lst Rl.at' Rl.ne) (Ne.symm ml),Rl.ok,st7.setO Rd.ne,(Rl.kp.trans k7).setNew Rd.ge,Rl.ge,Rl.ne⟩
    refine⟨_,_,rfl,_,_,.inl ?_,⟨some c.d,ds.take r.toNat++c::ds.drop r.toNat,rfl,Rl7,Rd7,by simp;omega⟩⟩;have q1:=zFA Rd.at';have q2:=zFE Rd.at';have q3:=zI0 (k7.lst Rd.at' Rd.ne) zF0 [.int r,c.d];have q4:ds.length<1000/\0<=r/\r.toNat<=ds.length:=by omega
    simp[nE,zCL,q1,q2,e7,q3,q4])
  subst hρ;refine⟨⟨sw,pl,ds⟩,S6,?_,⟨⟨w1,w2,p1,p2,by show(ds.length:Int)<=mc;rw[hd,qA0];exact hc,Rd.ok⟩,Rd.kp,Rd.st⟩⟩;have q5:zA4 (S5++[O.lst []]) S2.length=some (cs.map Ct.d):=Rm.at';have q6:=zCb Rd.at';unfold nE at e6 ⊢;simp[q5,e6,q6,Net.d]
 have mid:∀(cs:yN) (S5:zA0) (v7 v8 v9:Option D),Rows S S5 i S2.length sw pl cs->(cs.length:Int)<=mc ->
   zUz ((sSeq (sFor (zDx (zA1 [(cApp (cl (n+2) "_law_take") (zA1 [(cVar 0),(cBin oAdd (cBin (oInt fun i j=>i - j) (cVar 3) (cApp fLen (zA1 [(cVar 6)]))) (cCon (.int 1)))]))])) (gN 10) (zDM (cl (n+2))))
    (sSeq (sAsg (cLst (zA1 [])) (gN 11)) (sSeq (sFor (iSeq (cVar 6)) (gN 12) (zCL (cl (n+2)))) (sSeq (sRet (cTup (zA1 [(cVar 4),(cVar 5),(cApp zCk (zA1 [(cVar 11)]))]))) zA5)))) (nE i ms mp mc sw pl S2.length v7 v8 v9 none none none) S5) S i ms mp mc:=by
  intro cs S5 v7 v8 v9 R5 hc;obtain⟨r,S6,e6,r0,r9,k6,n6,st6⟩:=zAA ht (n+1) R5.st (m:=mc - ((cs.map Ct.d).length:Int)+1) (by rw[qA0];omega) (by omega);rw[qA0]at e6 r9;have R6:=R5.go k6 st6;obtain⟨ρ',S7,e7,v10,ds,hρ,Rd,hd⟩:=zBQ (w:=[]) (g:=gN 10) (b:=zDM (cl (n+2))) (items:=upD 0 r.toNat)
   (zZU S i S2.length ms mp mc sw pl v7 v8 v9 cs.length)
   (fun j ρ S' hp=>zAh _) ⟨none,cs,rfl,R6,rfl⟩
   (fun j d ρ S' hd hp=>by
    obtain⟨v10,ds,rfl,R,hj⟩:=hp;rw[zK5]at hd;obtain⟨hjr,rfl⟩:=hd;obtain⟨x,y,S8,e8,x0,xy,yp,k8,st8⟩:=zPb he ht n R.st p1 (by omega);obtain⟨r3,S9,e9,a3,b3,k9,n9,st9⟩:=zAA ht (n+1) st8 (m:=sw) (by omega) (by omega);obtain⟨r4,S10,e10,a4,b4,k10,n10,st10⟩:=zAA ht (n+1) st9 (m:=2) (by omega) (by omega);have kk:=(k8.trans k9).trans k10;have hok:∀c∈ds++[⟨x,y,r3,r4⟩],Ct.ok sw pl c:=fun c hc=>by
     rcases qB2.mp hc with q|q
     ·exact R.ok c q
     ·simp at q;subst q;exact⟨x0,xy,yp,a3,b3,a4,b4⟩
    have Rd:=R.put kk st10 hok;refine⟨_,_,rfl,_,_,.inl ?_,⟨some (.int (0+(j:Int))),ds++[⟨x,y,r3,r4⟩],rfl,Rd,by simp;omega⟩⟩;have q1:=zFA R.at';have q2:=zI0 (kk.lst R.at' R.ne) zDy [Ct.d ⟨x,y,r3,r4⟩];have q3:ds.length<lim:=by rw[zAa];omega
    have q4:(2:Nat)+2<=lim:=by decide
    simp[nE,zDM,q1,e8,e9,e10,Ct.d,q4]at q2 ⊢;simp[q2,q3])
  subst hρ;obtain⟨N,S11,e11,r11⟩:=fin ds S7 v7 v8 v9 v10 Rd (by rw[hd,zFN];omega);refine⟨N,S11,?_,r11⟩;have q5:=zFE R5.at';rw[qA0]at q5;have q6:-4611686018427387904<=r/\r<4611686018427387904:=by omega
  rw[zKc,zTa];unfold nE at e7 e11 ⊢;simp[q5,e6,q6,e7,-zKc,e11]
 obtain⟨c5,S5,e5,a5,b5,k5,n5,st5⟩:=zAA ht (n+1) R4.st (m:=2) (by omega) (by omega);have R5:=R4.go k5 st5;have l5:zA4 S5 kr=some ((rowL pl).map D.int):=k5.lst l4 kri;have main:zUz (zCQ (cl (n+2)) [some (.lst i),some (.int ms),some (.int mp),some (.int mc),none,none,none,none,none,none,none,none,none] S) S i ms mp mc:=by
  unfold nE at e4;by_cases hc:c5=0/\pl - 1<=mc
  ·have hcut:cutD ((rowL pl).map D.int) (some 1) none=((rowL pl).drop 1).map D.int:=by
    unfold cutD;have hs:HT.sIx ((rowL pl).map D.int).length 0 (some 1)=1:=by have:=HT.sIx_nat ((rowL pl).map D.int).length 0 1;have hl:=zHQ p1;rw[qA0]at this ⊢;rw[show((1:Nat):Int)=1 from rfl]at this;rw[this];omega
    rw[hs,HT.sIx_none,List.map_drop,qF7 (by simp)]
   have x6:=zA6 S5 [O.lst (((rowL pl).drop 1).map D.int)];have t6:zA4 (S5++[O.lst (((rowL pl).drop 1).map D.int)]) S5.length=some (((rowL pl).drop 1).map D.int):=zA2 _ _;have l6:=x6.lst l5 (fun z=>z);have ti:S5.length≠i:=by have:=st5.lt;omega
   have tl:S5.length≠S2.length:=by have:=zEo R5.at';omega
   have R6:=R5.go x6.kp (st5.ex x6);obtain⟨ρ',S7,e7,v8,v9,ds,hρ,Rd,hd,_⟩:=zBQ (w:=[(kr,(rowL pl).map D.int),(S5.length,((rowL pl).drop 1).map D.int)]) (g:=gT [gN 8,gN 9]) (b:=zEW (cl (n+2))) (items:=zipD ((rowL pl).map D.int) (((rowL pl).drop 1).map D.int))
    (zZT S i S2.length ms mp mc sw pl kr S5.length)
    (ρ:=nE i ms mp mc sw pl S2.length (some (.lst kr)) none none none none none) (S:=S5++[O.lst (((rowL pl).drop 1).map D.int)])
    (fun j ρ S' hp=>by obtain⟨_,_,_,_,_,_,q1,q2⟩:=hp;exact zTC q1 q2)
    ⟨none,none,[],rfl,R6,rfl,l6,t6⟩
    (fun j d ρ S' hd hp=>by
     obtain⟨v8,v9,ds,rfl,R,hj,q1,q2⟩:=hp;have hz:∃x y,(rowL pl)[j]?=some x/\(rowL pl)[1+j]?=some y/\d=.tup [.int x,.int y]:=by unfold zipD at hd;rw[qC1]at hd;obtain⟨⟨x,y⟩,hxy,rfl⟩:=qA4.mp hd;rw[qE7,qC1,qC1,List.getElem?_drop]at hxy;obtain⟨hx,hy⟩:=hxy;obtain⟨x',hx',rfl⟩:=qA4.mp hx;obtain⟨y',hy',rfl⟩:=qA4.mp hy;exact⟨x',y',hx',hy',rfl⟩
     obtain⟨x,y,hx,hy,rfl⟩:=hz;have hjl:1+j<(rowL pl).length:=(qA2.mp hy).1;rw[zHQ p1]at hjl;rw[zLs p1 (by omega)]at hx hy;cases hx;cases hy;obtain⟨r3,S9,e9,a3,b3,k9,n9,st9⟩:=zAA ht (n+1) R.st (m:=sw) (by omega) (by omega);obtain⟨r4,S10,e10,a4,b4,k10,n10,st10⟩:=zAA ht (n+1) st9 (m:=2) (by omega) (by omega);have kk:=k9.trans k10;obtain⟨m1,m2,m3⟩:=mima (n:=pl) (zHR p1 (i:=(j:Int)) (by omega) (by omega)) (zHR p1 (i:=((1+j:Nat):Int)) (by omega) (by omega)) (zNZ p1 (by omega) (by omega) (by omega));generalize hX:(if rowJ pl ((1+j:Nat):Int)<rowJ pl (j:Int)then rowJ pl ((1+j:Nat):Int)else rowJ pl (j:Int))=X at m1 m2;generalize hY:(if rowJ pl ((1+j:Nat):Int)>rowJ pl (j:Int)then rowJ pl ((1+j:Nat):Int)else rowJ pl (j:Int))=Y at m2 m3;have hok:∀c∈ds++[⟨X,Y,r3,r4⟩],Ct.ok sw pl c:=fun c hc=>by
      rcases qB2.mp hc with q|q
      ·exact R.ok c q
      ·simp at q;subst q;exact⟨m1,m2,m3,a3,b3,a4,b4⟩
     have Rd:=R.put kk st10 hok;refine⟨_,_,rfl,_,_,.inl ?_,⟨some (.int (rowJ pl (j:Int))),some (.int (rowJ pl ((1+j:Nat):Int))),ds++[⟨X,Y,r3,r4⟩],rfl,Rd,by simp;omega,zET (kk.lst q1 kri) krl.symm,zET (kk.lst q2 ti) tl.symm⟩⟩;have q7:=zFA R.at';have q8:=zI0 (kk.lst R.at' R.ne) zDy [Ct.d ⟨X,Y,r3,r4⟩];have q9:ds.length<lim:=by rw[zAa];omega
     simp[nE,zEW,q7,e9,e10,Ct.d,-Int.natCast_add,hX,hY]at q8 ⊢;simp[q8,q9])
   have hdl:ds.length=pl.toNat - 1:=by rw[hd];unfold zipD;rw[qA0,qO9,qA0,qA0,qJ1,zHQ p1];exact qS0 (Nat.sub_le _ _)
   subst hρ;obtain⟨N,S11,e11,r11⟩:=mid ds S7 (some (.lst kr)) v8 v9 Rd (by omega);unfold nE at e7 e11;refine⟨N,S11,?_,r11⟩;have q3:=zOh l5 (some 1) none;rw[hcut]at q3;unfold zCQ;generalize hT:((rowL pl).drop 1).map D.int=T at q3 l6 t6 e7;generalize hT2:(rowL pl).map D.int=T2 at q3 l6 t6 e7;simp[e1,e2,hsw,hpl,↓e4,e5,hc.1,hc.2,q3,l6,t6,e7,↓e11]
  ·obtain⟨N,S11,e11,r11⟩:=mid [] S5 (some (.lst kr)) none none R5 (by show(0:Int)<=mc;omega);unfold nE at e11;refine⟨N,S11,?_,r11⟩;unfold zCQ;by_cases h0:c5=0
   ·have h1:¬(pl - 1<=mc):=fun z=>hc ⟨h0,z⟩;simp[e1,e2,hsw,hpl,↓e4,e5,h0,h1,↓e11]
   ·simp[e1,e2,hsw,hpl,↓e4,e5,h0,↓e11]
 obtain⟨N,S12,e12,a12,b12,c12⟩:=main;exact⟨N,S12,by rw[show n+3=(n+2)+1 from rfl,h];exact zA7 rfl e12,a12,b12,c12⟩
end My
namespace Mt
def zED(es:List (Int×Int)):Prop:=∀C:Int->Prop,C 0->(∀e∈es,(C e.1↔C e.2))->C 1
structure zIy(es:List (Int×Int))(s:Int)(F:Int->Prop):Prop where
 start:F s
 closed:∀e∈es,(F e.1↔F e.2)
 least:∀C:Int->Prop,C s->(∀e∈es,(C e.1↔C e.2))->∀x,F x->C x
theorem zIy.joined{es:List (Int×Int)}{F:Int->Prop}(h:zIy es 0 F):F 1↔zED es:=⟨fun f C c0 cc=>h.least C c0 cc 1 f,fun j=>j F h.start h.closed⟩
theorem zJp{α:Type}{p q:α->Bool}{l:List α}(h:∀x,p x=true->q x=true){a:α}(ha:a∈l)(h1:q a=true)(h2:p a=false):(l.filter p).length<(l.filter q).length:=by
 induction l with
 |nil=>cases ha
 |cons x r ih =>
  have le:(r.filter p).length<=(r.filter q).length:=by
   clear ih ha
   induction r with
   |nil=>simp
   |cons y r ih =>
    rw[qF8,qF8];cases hp:p y with
    |true=>rw[h y hp];simpa using ih
    |false =>
     cases q y with
     |true=>simp;omega
     |false=>simpa using ih
  rw[qF8,qF8];rcases qC0.mp ha with e|e
  ·subst e;rw[h1,h2];simp;omega
  ·have:=ih e;cases hp:p x with
   |true=>rw[h x hp];simpa using this
   |false =>
    cases q x with
    |true=>simp;omega
    |false=>simpa using this
def Z(ms:yA)(x:Int):Prop:=0<=x/\ms[x.toNat]?=some 0
end Mt
namespace My
open PySem L2 Mt
variable {cl:Nat->CLL}
noncomputable def zAS(st:yA):D:=.tup (st.map D.int)
noncomputable def zD8(c:Ct)(st:yA):Bool:=decide (st.getD c.k.toNat 0=c.o)
theorem zIv{l:yA}{k:Int}(h0:0<=k)(h1:k<l.length):atI (l.map D.int) k=some (.int (l.getD k.toNat 0)):=by
 have e:l[k.toNat]?=some (l.getD k.toNat 0):=by rw[qR3,qA5 (by omega)];rfl
 have q:=zCq (xs:=l.map D.int) (j:=k.toNat) (v:=.int (l.getD k.toNat 0)) (by rw[qC1,e];rfl);rw[show((k.toNat:Nat):Int)=k by omega]at q;exact q
theorem zFi(h:zCc cl)(n:Nat)(c:Ct)(st:yA)(h0:0<=c.k)(h1:c.k<st.length)(S:zA0):cl (n+1) "is_shut" [c.d,zAS st] S=.ok (.bl (zD8 c st)) S:=by rw[h];refine zA7 rfl ?_;simp[zEA,zAe,Ct.d,zAS,zIv h0 h1,zD8]
noncomputable def zAT{α:Type}(l:List α):List (Nat×α):=(List.range l.length).zip l
theorem zC0{α:Type}(e:α->D)(l:List α):zD0 (l.map e)=(zAT l).map fun q=>.tup [.int (q.1:Nat),e q.2]:=by unfold zD0 zAT;rw[qA0,List.zip_map_right,qD9];rfl
theorem zBZ{α:Type}{l:List α}{q:Nat×α}(h:q∈zAT l):l[q.1]?=some q.2:=by unfold zAT at h;obtain⟨i,hi⟩:=qI5 h;rw[qE7]at hi;obtain⟨h1,h2⟩:=hi;have:=qA2.mp h1;obtain⟨h3,h4⟩:=this;simp at h4;rw[<- h4];exact h2
theorem zPa{α:Type}(l:List α):(zAT l).map (·.2)=l:=by unfold zAT;exact qO2 (by simp)
noncomputable def zIT(cs:yN)(st:yA):List Nat:=((zAT cs).filter fun q=>zD8 q.2 st).map (·.1)
noncomputable def zKn(l:List Nat):yM:=l.map fun(k:Nat)=>D.int (k:Nat)
theorem zG8:(1000:Nat)<lim:=by decide
theorem zDB{α:Type}(l:List α):(zAT l).length=l.length:=by unfold zAT;simp
theorem zDg(h:zF7 cl)(hi:zCc cl)(n:Nat)(N:Net)(st:yA)(hc:N.cs.length<=100)(hk:∀c∈N.cs,0<=c.k/\c.k<st.length)(S:zA0):Spc (cl (n+2) "shut_at" [N.d,zAS st] S) ((.tup (zKn (zIT N.cs st)))) S:=by
 have e1:zAd [] (.many 2) (zEJ (cl (n+1))) (zEK (cl (n+1))) [none,none,some (zAS st)] ((zAT N.cs).map fun q=>.tup [.int (q.1:Nat),q.2.d]) S=.ok (((zAT N.cs).filter fun q=>zD8 q.2 st).map fun q=>.int (q.1:Nat)) S:=by
  refine zBz (fun q:Nat×Ct=>.tup [.int (q.1:Nat),q.2.d]) (zAh S) _ _ _ fun q hq=>⟨_,rfl,?_,fun _=>?_⟩
  ·have hm:q.2∈N.cs:=qB4 (zBZ hq);have:=zFi hi n q.2 st (hk _ hm).1 (hk _ hm).2 S;simp[zEJ,zB9,this]
  ·simp[zEK,zB9]
 refine⟨_,?_,zA6 S [.lst (zKn (zIT N.cs st))]⟩;rw[show n+2=(n+1)+1 from rfl,h];refine zA7 rfl ?_;have e2:((zAT N.cs).filter fun q=>zD8 q.2 st).map (fun q=>D.int (q.1:Nat))=zKn (zIT N.cs st):=by unfold zKn zIT;rw[qD9];rfl
 rw[e2]at e1;have e3:=zCb (zA2 S (zKn (zIT N.cs st)));have e4:(zAT N.cs).length<lim:=by rw[zDB];have:=zG8;omega
 simp[zEy,zAe,Net.d,zC0,e1,e3,e4]
noncomputable def ends(cs:yN):List (Int×Int):=cs.map fun c=>(c.a,c.b)
noncomputable def cntF(B:Nat)(fs:yA):Nat:=((List.range B).filter fun(v:Nat)=>decide ((v:Int)∈fs)).length
theorem zKS(B:Nat)(fs:yA):cntF B fs<=B:=by unfold cntF;have:=qE0 (fun(v:Nat)=>decide ((v:Int)∈fs)) (List.range B);simpa using this
theorem zPr{B:Nat}{fs gs:yA}(h:∀x,x∈fs->x∈gs){x:Int}(hx:x∈gs)(hn:x∉fs)(h0:0<=x)(hB:x<B):cntF B fs<cntF B gs:=by
 unfold cntF;refine zJp (a:=x.toNat) (fun v hv=>?_) ?_ ?_ ?_
 ·simp only[decide_eq_true_eq]at hv ⊢;exact h _ hv
 ·rw[qJ9];omega
 ·simp only[decide_eq_true_eq];rw[show((x.toNat:Nat):Int)=x by omega];exact hx
 ·simp only[decide_eq_false_iff_not];rw[show((x.toNat:Nat):Int)=x by omega];exact hn
theorem zIw(fs:yA)(a:Int):(addK fs a).length<=fs.length+1:=by unfold addK;split<;>simp
noncomputable def pE(s:Int)(k l:Nat)(g:Bool)(v:Option D):Env1:=[some (.int s),some (.lst k),some (.dct l),some (.bl g),v]
def Clo(cs:yN)(s:Int)(fs:yA):Prop:=∀C:Int->Prop,C s->(∀e∈ends cs,(C e.1↔C e.2))->∀x∈fs,C x
inductive PlW(cs:yN)(s:Int)(k:Nat)(S:zA0)(m:Nat)(ρ:Env1)(S':zA0):Prop
 |mk (fs:yA) (g:Bool) (v4:Option D) (e:ρ=pE s k S.length g v4) (kp:Kp (·=S.length) (S++[.dk (dkOf [s])]) S') (hf:S'[S.length]?=some (.dk (dkOf fs))) (r1:s∈fs) (r2:Clo cs s fs) (r3:g=false->∀e∈ends cs,(e.1∈fs↔e.2∈fs)) (r4:g=true->m+cntF 7 fs=9) (r5:fs.length+200*m<=2000) (nd:fs.Nodup)
inductive PlQ(cs:yN)(s:Int)(k:Nat)(S:zA0)(ρ:Env1)(S':zA0):Prop
 |mk (fs:yA) (v4:Option D) (e:ρ=pE s k S.length false v4) (kp:Kp (·=S.length) (S++[.dk (dkOf [s])]) S') (hf:S'[S.length]?=some (.dk (dkOf fs))) (r1:s∈fs) (r2:Clo cs s fs) (r3:∀e∈ends cs,(e.1∈fs↔e.2∈fs)) (nd:fs.Nodup)
inductive PlL(cs:yN)(s:Int)(k:Nat)(S:zA0)(fs:yA)(j:Nat)(ρ:Env1)(S2:zA0):Prop
 |mk (fs2:yA) (g2:Bool) (v4:Option D) (e:ρ=pE s k S.length g2 v4) (kp:Kp (·=S.length) (S++[.dk (dkOf [s])]) S2) (hf:S2[S.length]?=some (.dk (dkOf fs2))) (q1:∀x∈fs,x∈fs2) (q2:Clo cs s fs2)
  (q3:g2=false->fs2=fs/\∀i c,i<j->cs[i]?=some c->(c.a∈fs↔c.b∈fs)) (q4:g2=true->cntF 7 fs<cntF 7 fs2) (q5:fs2.length<=fs.length+2*j) (nd:fs2.Nodup)
theorem zPU{fs:yA}(h:fs.Nodup)(a:Int):(addK fs a).Nodup:=by
 unfold addK;split
 ·exact h
 ·rename_i ha;exact qE8.mpr ⟨h,by simp,fun x hx y hy e=>ha (by rw[qA7]at hy;subst hy;subst e;exact hx)⟩
theorem zO3(h:zAP cl)(n:Nat)(cs:yN)(s:Int)(hs:0<=s/\s<7)(hc:cs.length<=100)(hb:∀c∈cs,(0<=c.a/\c.a<7)/\0<=c.b/\c.b<7){S:zA0}{k:Nat}(hk:zA4 S k=some (cs.map Ct.d)):
  ∃m S1 fs,cl (n+1) "places_from" [.int s,.lst k] S=.ok (.dct m) S1/\Ex S S1/\S1[m]?=some (.dk (dkOf fs))/\zIy (ends cs) s (·∈fs)/\fs.Nodup:=by
 have km:k≠S.length:=by have:=zEo hk;omega
 obtain⟨ρ',S',e,fs,v4,rfl,kp,hfs,r1,r2,r3,nd⟩:=zLh (t:=cTru (cVar 3)) (b:=zBP (cl n)) (PlW cs s k S) (PlQ cs s k S)
  (fun m ρ S' hp=>by
   obtain⟨fs,g,v4,rfl,kp,hfs,r1,r2,r3,r4,r5,nd⟩:=hp;cases g with
   |false=>exact .inl ⟨S',by simp[pE],⟨fs,v4,rfl,kp,hfs,r1,r2,r3 rfl,nd⟩⟩
   |true =>
    refine .inr ⟨S',by simp[pE],?_⟩;have hl:zA4 S' k=some (cs.map Ct.d):=kp.lst (zAq hk) km;obtain⟨ρ2,S2,e2,fs2,g2,v4',rfl,kp2,hfs2,q1,q2,q3,q4,q5,nd2⟩:=zBQ (w:=[(k,cs.map Ct.d)]) (g:=gN 4) (b:=zBO (cl n)) (items:=cs.map Ct.d)
     (PlL cs s k S fs) (ρ:=pE s k S.length false v4) (S:=S')
     (fun j ρ S2 hp=>by
      obtain⟨_,_,_,_,kp⟩:=hp;exact zAQ (kp.lst (zAq hk) km))
     ⟨fs,false,v4,rfl,kp,hfs,fun x hx=>hx,r2,fun _=>⟨rfl,fun i c hi=>by omega⟩,(fun z=>by cases z),by omega,nd⟩
     (fun j d ρ S2 hd hp=>by
      obtain⟨fs2,g2,v4,rfl,kp2,hf2,q1,q2,q3,q4,q5,nd2⟩:=hp;rw[qC1]at hd;obtain⟨c,hcj,rfl⟩:=qA4.mp hd;have hm:c∈cs:=qB4 hcj;have hj:j<cs.length:=(qA2.mp hcj).1;obtain⟨ba,bb⟩:=hb c hm;have he:(c.a,c.b)∈ends cs:=qB6.mpr ⟨c,hm,rfl⟩;refine⟨_,_,rfl,?_⟩;have i1:=zOj hf2 false c.a;have i2:=zOj hf2 false c.b;have hlim:fs2.length+2<lim:=by have:=zG8;rw[zAa];omega
      by_cases hne:(c.a∈fs2↔c.b∈fs2)
      ·refine⟨_,S2,.inl ?_,⟨fs2,g2,some c.d,rfl,kp2,hf2,q1,q2,fun hg=>⟨(q3 hg).1,fun i c' hi hc'=>?_⟩,q4,by omega,nd2⟩⟩
       ·have:(decide (c.a∈fs2) != decide (c.b∈fs2))=false:=by simp[hne]
        simp[pE,zBO,Ct.d,i1,i2,this]
       ·by_cases hij:i=j
        ·subst hij;rw[hcj]at hc';cases hc';rw[(q3 hg).1]at hne;exact hne
        ·exact(q3 hg).2 i c' (by omega) hc'
      ·have s1:=zOi hf2 (by omega) c.a;have f3:(S2.set S.length (.dk (dkOf (addK fs2 c.a))))[S.length]?=some (.dk (dkOf (addK fs2 c.a))):=qE2 (qA2.mp hf2).1;have s2:=zOi f3 (by have:=zIw fs2 c.a;omega) c.b;have f4:((S2.set S.length (.dk (dkOf (addK fs2 c.a)))).set S.length (.dk (dkOf (addK (addK fs2 c.a) c.b))))[S.length]?=some (.dk (dkOf (addK (addK fs2 c.a) c.b))):=qE2 (qA2.mp f3).1;have mem:∀x,x∈addK (addK fs2 c.a) c.b↔x∈fs2∨x=c.a∨x=c.b:=fun x=>by rw[zLJ,zLJ,or_assoc]
       refine⟨_,_,.inl ?_,⟨addK (addK fs2 c.a) c.b,true,some c.d,rfl,(kp2.trans (zFh _ _)).trans (zFh _ _),f4,fun x hx=>(mem x).mpr (.inl (q1 x hx)),fun C c0 cc x hx=>?_,(fun z=>by cases z),fun _=>?_,by have:=zIw fs2 c.a;have:=zIw (addK fs2 c.a) c.b;omega,zPU (zPU nd2 _) _⟩⟩
       ·have:(decide (c.a∈fs2) != decide (c.b∈fs2))=true:=by by_cases h1:c.a∈fs2<;>by_cases h2:c.b∈fs2<;>simp[h1,h2]at hne ⊢
        simp[pE,zBO,Ct.d,i1,i2,this,s1,s2]
       ·have ca:=q2 C c0 cc;have hcc:=cc _ he;dsimp only at hcc;have one:C c.a/\C c.b:=by
         by_cases h1:c.a∈fs2
         ·exact⟨ca _ h1,hcc.mp (ca _ h1)⟩
         ·by_cases h2:c.b∈fs2
          ·exact⟨hcc.mpr (ca _ h2),ca _ h2⟩
          ·exact absurd (iff_of_false h1 h2) hne
        rcases(mem x).mp hx with z|z|z
        ·exact ca x z
        ·subst z;exact one.1
        ·subst z;exact one.2
       ·have lt:cntF 7 fs2<cntF 7 (addK (addK fs2 c.a) c.b):=by
         by_cases h1:c.a∈fs2
         ·have h2:c.b∉fs2:=fun z=>hne (iff_of_true h1 z);exact zPr (fun x hx=>(mem x).mpr (.inl hx)) ((mem c.b).mpr (.inr (.inr rfl))) h2 bb.1 bb.2
         ·exact zPr (fun x hx=>(mem x).mpr (.inl hx)) ((mem c.a).mpr (.inr (.inl rfl))) h1 ba.1 ba.2
        cases g2 with
        |true=>have:=q4 rfl;omega
        | false=>rw[(q3 rfl).1]at lt ⊢;exact lt)
    have c0:=zKS 7 fs;have c1:=r4 rfl;rw[qA0]at q5;have step:zBP (cl n) (pE s k S.length true v4) S'=.nx (pE s k S.length g2 v4') S2:=by unfold pE at e2 ⊢;simp[zBP,hl,e2]
    cases g2 with
    |true =>
     have c2:=zKS 7 fs2;have c3:=q4 rfl;exact⟨_,S2,.inl step,9 - cntF 7 fs2,by omega,⟨fs2,true,v4',rfl,kp2,hfs2,q1 s r1,q2,(fun z=>by cases z),fun _=>by omega,by omega,nd2⟩⟩
    |false =>
     refine⟨_,S2,.inl step,0,by omega,⟨fs2,false,v4',rfl,kp2,hfs2,q1 s r1,q2,fun hg e he=>?_,(fun z=>by cases z),by omega,nd2⟩⟩;obtain⟨c,hc1,rfl⟩:=qB6.mp he;obtain⟨i,hi⟩:=qI5 hc1;rw[(q3 hg).1];exact(q3 hg).2 i c (by rw[qA0];exact(qA2.mp hi).1) hi)
  zQ6 (9 - cntF 7 [s]) (pE s k S.length true none) (S++[.dk (dkOf [s])]) (qK8 (Nat.sub_le _ _) (by decide))
   ⟨[s],true,none,rfl,Kp.refl _ _,by rw[qA1 (qB1 _),qK3];rfl,by simp,fun C c0 _ x hx=>(by simp at hx;subst hx;exact c0),(fun z=>by cases z),fun _=>(by have:=zKS 7 [s];omega),by simp;omega,by simp⟩
 refine⟨S.length,S',fs,?_,⟨?_,fun j hj _=>?_⟩,hfs,⟨r1,r3,fun C c0 cc x hx=>r2 C c0 cc x hx⟩,nd⟩
 ·rw[h];refine zA7 rfl ?_;have e0:(S++[O.dk [((Sum.inl s:Key),D.bl true)]])=S++[O.dk (dkOf [s])]:=rfl;unfold pE at e;simp[zC7,zAe,zDa,e0,e]
 ·have:=kp.le;simp at this;omega
 ·rw[kp.eq j (by simp;omega) (by omega),qA8 hj]
theorem zKe(h:zAP cl)(n:Nat)(cs:yN)(s:Int)(hs:0<=s/\s<7)(hc:cs.length<=100)(hb:∀c∈cs,(0<=c.a/\c.a<7)/\0<=c.b/\c.b<7){S:zA0}{k:Nat}(hk:zA4 S k=some (cs.map Ct.d)):
  ∃m S1 fs,cl (n+1) "places_from" [.int s,.lst k] S=.ok (.dct m) S1/\Ex S S1/\S1[m]?=some (.dk (dkOf fs))/\zIy (ends cs) s (·∈fs):=by obtain⟨m,S1,fs,a,b,c,d,_⟩:=zO3 h n cs s hs hc hb hk;exact⟨m,S1,fs,a,b,c,d⟩
noncomputable def jB(es:List (Int×Int)):Bool:=@decide (zED es) (Classical.propDecidable _)
theorem zHr{es:List (Int×Int)}:jB es=true↔zED es:=by exact @decide_eq_true_iff _ (Classical.propDecidable _)
theorem zZq{es:List (Int×Int)}{b:Bool}(h:b=true↔zED es):b=jB es:=by
 cases b with
 |true=>exact(zHr.mpr (h.mp rfl)).symm
 |false =>
  cases q:jB es with
  |false=>rfl
  |true=>exact absurd (h.mpr (zHr.mp q)) qB0
def In7(cs:yN):Prop:=∀c∈cs,(0<=c.a/\c.a<7)/\0<=c.b/\c.b<7
theorem zEX(h:zFK cl)(hp:zAP cl)(n:Nat)(cs:yN)(hc:cs.length<=100)(hb:In7 cs){S:zA0}{k:Nat}(hk:zA4 S k=some (cs.map Ct.d)):Spc (cl (n+2) "joins" [.lst k] S) ((.bl (jB (ends cs)))) S:=by obtain⟨m,S1,fs,e,x,hf,r⟩:=zKe hp n cs 0 (by decide) hc hb hk;refine⟨S1,?_,x⟩;rw[show n+2=(n+1)+1 from rfl,h];refine zA7 rfl ?_;have q:=zOj hf false 1;have e2:decide ((1:Int)∈fs)=jB (ends cs):=zZq (by rw[decide_eq_true_eq];exact r.joined);simp[zIt,zAe,e,q,e2]
noncomputable def zEp(N:Net)(st:yA):Bool:=jB (ends (N.cs.filter fun c=>zD8 c st))
structure zZS(N:Net)(st:yA):Prop where
 len:(st.length:Int)=N.sw
theorem Net.ok.ks{ms mp mc:Int}{N:Net}(h:N.ok ms mp mc){st:yA}(hs:zZS N st):∀c∈N.cs,0<=c.k/\c.k<st.length:=fun c hc=>by obtain⟨_,_,_,h4,h5,_,_⟩:=h.c2 c hc;rw[hs.len];exact⟨h4,h5⟩
theorem Net.ok.in7{ms mp mc:Int}{N:Net}(h:N.ok ms mp mc)(hm:mp<=7):In7 N.cs:=fun c hc=>by obtain⟨h1,h2,h3,_⟩:=h.c2 c hc;have:=h.p2;omega
theorem In7.filter{cs:yN}(h:In7 cs)(p:Ct->Bool):In7 (cs.filter p):=fun c hc=>h c (qC6.mp hc).1
theorem Net.ok.len{ms mp mc:Int}{N:Net}(h:N.ok ms mp mc)(hm:mc<=16):N.cs.length<=100:=by have:=h.c1;omega
theorem zEd(h:zBl cl)(hi:zCc cl)(n:Nat)(N:Net)(st:yA)(hc:N.cs.length<=100)(hk:∀c∈N.cs,0<=c.k/\c.k<st.length)(S:zA0):cl (n+2) "shut_contacts" [N.d,zAS st] S=.ok (.lst S.length) (S++[.lst ((N.cs.filter fun c=>zD8 c st).map Ct.d)]):=by
 have e1:zAd [] .one (zC4 (cl (n+1))) (zC5 (cl (n+1))) [none,some (zAS st)] (N.cs.map Ct.d) S=.ok ((N.cs.filter fun c=>zD8 c st).map Ct.d) S:=by
  refine zBz Ct.d (zAh S) _ _ _ fun c hm=>⟨_,rfl,?_,fun _=>?_⟩
  ·have:=zFi hi n c st (hk _ hm).1 (hk _ hm).2 S;simp[zC4,this]
  ·simp[zC5]
 rw[show n+2=(n+1)+1 from rfl,h];refine zA7 rfl ?_;have e4:N.cs.length<lim:=by have:=zG8;omega
 generalize (N.cs.filter fun c=>zD8 c st).map Ct.d=F at e1;simp[zBA,zAe,Net.d,e1,e4]
theorem zOw(h:zLe cl)(hj:zFK cl)(hp:zAP cl)(hs:zBl cl)(hi:zCc cl)(n:Nat){N:Net}{st:yA}(hc:N.cs.length<=100)(h7:In7 N.cs)(hk:∀c∈N.cs,0<=c.k/\c.k<st.length)(S:zA0):Spc (cl (n+3) "lets" [N.d,zAS st] S) ((.bl (zEp N st))) S:=by have e1:=zEd hs hi n N st hc hk S;have fl:(N.cs.filter fun c=>zD8 c st).length<=100:=qD3 (qE0 _ _) hc;obtain⟨S2,e4,x2⟩:=zEX hj hp n _ fl (h7.filter _) (zA2 S ((N.cs.filter fun c=>zD8 c st).map Ct.d));refine⟨S2,?_,(zA6 _ _).trans x2⟩;rw[show n+3=(n+2)+1 from rfl,h];refine zA7 rfl ?_;simp[zM7,zAe,e1,e4,zEp]
@[simp] theorem zY2(w x y z:D):cutD [w,x,y,z] none (some 2)=[w,x]:=rfl
def SeqD(S:zA0)(x:D)(l:yM):Prop:=x=.tup l∨∃k,x=.lst k/\zA4 S k=some l
noncomputable def sett:Nat->List (yA)
 |0=>[[]]
 |n+1=>(sett n).map (0::·)++(sett n).map (1::·)
theorem zHL:∀n,(sett n).length=2 ^ n
 |0=>rfl
 |n+1=>by unfold sett;rw[qB3,qA0,qA0,zHL n,qR0];omega
theorem zDh:∀n,∀st∈sett n,st.length=n/\∀b∈st,b=0∨b=1
 |0,st,h=>by simp[sett]at h;subst h;simp
 |n+1,st,h=>by
  unfold sett at h;rcases qB2.mp h with q|q
  ·obtain⟨t,ht,rfl⟩:=qB6.mp q;obtain⟨h1,h2⟩:=zDh n t ht;exact⟨by simp[h1],fun b hb=>by rcases qC0.mp hb with z|z;exact .inl z;exact h2 b z⟩
  ·obtain⟨t,ht,rfl⟩:=qB6.mp q;obtain⟨h1,h2⟩:=zDh n t ht;exact⟨by simp[h1],fun b hb=>by rcases qC0.mp hb with z|z;exact .inr z;exact h2 b z⟩
theorem zO0{j:Nat}(h:j<=4):2 ^ j<=16:=qD3 (qF5 (by decide) h) (by decide)
theorem zHK(h:zE8 cl)(n:Nat){sw:Int}(h0:0<=sw)(h4:sw<=4)(S:zA0):∃k S1,cl (n+1) "settings" [.int sw] S=.ok (.lst k) S1/\Ex S S1/\S.length<=k/\zA4 S1 k=some ((sett sw.toNat).map zAS):=by
 obtain⟨ρ',S1,e1,k,v2,rfl,x1,hk,l1⟩:=zBQ (w:=[]) (g:=gN 2) (b:=zDZ (cl n)) (items:=upD 0 sw.toNat)
  (fun j ρ S'=>∃k v2,ρ=[some (.int sw),some (.lst k),v2]/\Ex S S'/\S.length<=k/\zA4 S' k=some ((sett j).map zAS))
  (ρ:=[some (.int sw),some (.lst S.length),none]) (S:=S++[.lst [.tup []]])
  (fun j ρ S' hp=>zAh _) ⟨S.length,none,rfl,zA6 _ _,qB1 _,by rw[zA2];rfl⟩
  (fun j d ρ S' hd hp=>by
   obtain⟨k,v2,rfl,x1,hk,l1⟩:=hp;rw[zK5]at hd;have hj:j<sw.toNat:=hd.1;have lj:(sett j).length<=16:=by rw[zHL];exact zO0 (by omega)
   have comp:∀(b:Int) (e:C) (he:∀xs ρ S,e (some (.tup xs)::ρ) S=if 1+xs.length<=lim then .ok (.tup (.int b::xs)) S else .bad) (S2:zA0),zA4 S2 k=some ((sett j).map zAS)->zAd [(k,(sett j).map zAS)] .one (fun _=>ret true) e [none] ((sett j).map zAS) S2=.ok (((sett j).map (b::·)).map zAS) S2:=by
    intro b e he S2 l2;rw[qD9];refine zB7 zAS (zAQ l2) _ _ fun st hst=>⟨_,rfl,?_⟩
    have:=(zDh j st hst).1;show e [some (zAS st)] S2=_;unfold zAS;rw[he,if_pos (by rw[qA0,zAa];omega)];rfl
   have c1:=comp 0 (zE1 (cl n)) (fun xs ρ S=>by simp[zE1]) S' l1;have l2:=(zA6 S' [.lst (((sett j).map (0::·)).map zAS)]).lst l1 (fun z=>z);have c2:=comp 1 (zE0 (cl n)) (fun xs ρ S=>by simp[zE0]) (S'++[.lst (((sett j).map (0::·)).map zAS)]) l2;generalize hA:S'++[O.lst (((sett j).map (0::·)).map zAS)]=A at c2 l2;generalize hX0:((sett j).map (0::·)).map zAS=X0 at c1 hA;generalize hX1:((sett j).map (1::·)).map zAS=X1 at c2;have a1:zA4 (A++[.lst X1]) S'.length=some X0:=by rw[<- hA];exact zAq (zA2 _ _)
   have n0:X0.length<=16:=by rw[<- hX0];simpa using lj
   have n1:X1.length<=16:=by rw[<- hX1];simpa using lj
   have ad:=zCX a1 (zA2 A X1) (by rw[zAa];omega);refine⟨_,_,rfl,_,A++[.lst X1]++[.lst (X0++X1)],.inl ?_,(A++[O.lst X1]).length,some d,rfl,?_,?_,?_⟩
   ·have ll:((sett j).map zAS).length<lim:=by rw[qA0,zAa];omega
    generalize hB:(sett j).map zAS=B at l1 l2 c1 c2 ll;simp[zDZ,l1,c1,hA,l2,c2,ll,ad]
   ·rw[<- hA];exact((x1.trans (zA6 _ _)).trans (zA6 _ _)).trans (zA6 _ _)
   ·rw[<- hA];have:=x1.le;simp;omega
   ·rw[zA2,<- hX0,<- hX1,show sett (j+1)=(sett j).map (0::·)++(sett j).map (1::·)from rfl,qE4])
 rw[zFN]at l1;refine⟨k,S1,?_,x1,hk,l1⟩;rw[h];refine zA7 rfl ?_;have f2:-4611686018427387904<=sw/\sw<4611686018427387904:=by omega
 simp[zDP,zAe,f2,e1]
noncomputable def zHt:D->Bool
 |.int _=>true
 |_=>false
def Scal(d:D):Prop:=(flat d).isSome=true
theorem zI6(h:zD6 cl)(n:Nat){d:D}(hd:Scal d)(S:zA0):cl (n+1) "is_whole" [d] S=.ok (.bl (zHt d)) S:=by
 rw[h];refine zA7 rfl ?_;cases d with
 |int i=>simp[zBq,zAe,zHt]
 |bl b=>simp[zBq,zAe,zHt]
 |non=>simp[zBq,zAe,zHt]
 |str x=>simp[zBq,zAe,zHt]
 |_=>cases hd
theorem zRi(a:Int)(l:yA):inV (.int a) (l.map V.int)=decide (a∈l):=by
 unfold inV
 induction l with
 |nil=>rfl
 |cons x r ih =>
  rw[qB5,qG2,ih];by_cases h:x=a
  ·subst h;simp[eqV]
  ·have h2:¬a=x:=fun z=>h z.symm;simp[eqV,h,h2]
theorem zMK(l:yA):(l.map D.int).mapM flat=some (l.map V.int):=by
 induction l with
 |nil=>rfl
 |cons x r ih=>rw[qB5,qF4,ih];rfl
theorem zBv(neg:Bool)(a:Int)(l:yA)(S:zA0):oIn neg (.int a) (.tup (l.map D.int)) S=.ok (.bl (if neg then !decide (a∈l)else decide (a∈l))) S:=by show(match (l.map D.int).mapM flat with|some vs=>R.ok (D.bl (if neg then !inV (.int a) vs else inV (.int a) vs)) S|none=>.bad)=_;rw[zMK];dsimp only;rw[zRi]
@[simp] theorem zUH(w x y z:D):cutD [w,x,y,z] none (some 3)=[w,x,y]:=rfl
structure HD(cl:Nat->CLL):Prop where
 st:zDG cl
 ce:zBT cl
 ta:zCt cl
 en:zD5 cl
 ne:zF8 cl
theorem Net.ok.up{ms mp mc ms' mp' mc':Int}{N:Net}(h:N.ok ms mp mc)(h1:ms<=ms')(h2:mp<=mp')(h3:mc<=mc'):N.ok ms' mp' mc':=⟨h.s1,qO4 h.s2 h1,h.p1,qO4 h.p2 h2,qO4 h.c1 h3,h.c2⟩
abbrev Net.g(N:Net):Prop:=N.ok 4 7 16
theorem sett_len'{N:Net}(ok:N.g){st:yA}(h:st∈sett N.sw.toNat):(st.length:Int)=N.sw:=by have:=(zDh _ st h).1;have:=ok.s1;omega
noncomputable def b1(b:Bool):Int:=if b then 1 else 0
noncomputable def Ct.mv(f:Int->Int)(c:Ct):Ct:=⟨if f c.b<f c.a then f c.b else f c.a,if f c.b>f c.a then f c.b else f c.a,c.k,c.o⟩
noncomputable def nlF(nl:yA)(p:Int):Int:=nl.getD p.toNat 0
theorem zOG(x y:Int):zCD [x,y]=[if y<x then y else x,if y>x then y else x]:=by
 show insI x (insI y [])=_;show insI x [y]=_;unfold insI;by_cases h:x<=y
 ·rw[if_pos h,if_neg (by omega)];by_cases h2:y>x
  ·rw[if_pos h2]
  ·rw[if_neg h2];have:x=y:=by omega
   subst this;rfl
 ·rw[if_neg h,if_pos (by omega),if_neg (by omega)];rfl
theorem zRz(c:Ct):cutD [.int c.a,.int c.b,.int c.k,.int c.o] (some 2) none=[.int c.k,.int c.o]:=rfl
def InL(nl:yA)(c:Ct):Prop:=(0<=c.a/\c.a<nl.length)/\0<=c.b/\c.b<nl.length
theorem zEl(h:zBm cl)(n:Nat){c:Ct}{nl:yA}(hc:InL nl c){S:zA0}{j:Nat}(hj:zA4 S j=some (nl.map D.int)):Spc (cl (n+1) "moved_contact" [c.d,.lst j] S) ((c.mv (nlF nl)).d) S:=by
 have g1:=zCW hj c.a;have g2:=zCW hj c.b;rw[zIv hc.1.1 hc.1.2]at g1;rw[zIv hc.2.1 hc.2.2]at g2;have x1:=zA6 S [.lst [.int (nlF nl c.a),.int (nlF nl c.b)]];have s1:=zKK (ns:=[nlF nl c.a,nlF nl c.b]) (zA2 S [.int (nlF nl c.a),.int (nlF nl c.b)]) (by show 2<64;decide);rw[zOG]at s1;have t1:=zCb (zA2 (S++[.lst [.int (nlF nl c.a),.int (nlF nl c.b)]]) (([if nlF nl c.b<nlF nl c.a then nlF nl c.b else nlF nl c.a,if nlF nl c.b>nlF nl c.a then nlF nl c.b else nlF nl c.a]:yA).map D.int));refine⟨_,?_,x1.trans (zA6 _ [.lst (([if nlF nl c.b<nlF nl c.a then nlF nl c.b else nlF nl c.a,if nlF nl c.b>nlF nl c.a then nlF nl c.b else nlF nl c.a]:yA).map D.int)])⟩;rw[h];refine zA7 rfl ?_;have l4:(2+2:Nat)<=lim:=by decide
 unfold Ct.mv Ct.d;dsimp only;change oIx (.lst j) (.int c.a) S=.ok (.int (nlF nl c.a)) S at g1;change oIx (.lst j) (.int c.b) S=.ok (.int (nlF nl c.b)) S at g2;generalize nlF nl c.a=A at *;generalize nlF nl c.b=B at *;generalize (if B<A then B else A)=mi at *;generalize (if B>A then B else A)=ma at *;generalize hS1:S++[O.lst [.int A,.int B]]=S1 at *;simp only[qB5,qH2]at s1 t1;simp[zBB,zAe,g1,g2,hS1,s1,t1,zRz,l4]
theorem zMq(h:zIz cl)(hm:zBm cl)(n:Nat){cs:yN}(hl:cs.length<=100){nl:yA}(hc:∀c∈cs,InL nl c){S:zA0}{j:Nat}(hj:zA4 S j=some (nl.map D.int)){x:D}(hx:SeqD S x (cs.map Ct.d)):
  Spc (cl (n+2) "moved" [x,.lst j] S) ((.tup ((cs.map (Ct.mv (nlF nl))).map Ct.d))) S:=by
 obtain⟨w,hw,hW⟩:∃w,iSeq (cVar 0) [some x,some (.lst j)] S=.ok (cs.map Ct.d,w) S/\∀S',Ex S S'->okW w S':=by
  rcases hx with rfl|⟨k,rfl,hk⟩
  ·exact⟨[],by simp,fun S' _=>zAh _⟩
  ·exact⟨[(k,cs.map Ct.d)],by simp[hk],fun S' x=>zAQ (x.lst hk fun z=>z)⟩
 obtain⟨S2,e2,x2⟩:=zCO Ct.d (w:=w) (t:=.one) (c:=zHX (cl (n+1))) (ρ0:=[none,some (.lst j)]) (fun S'=>Ex S S') hW (fun c=>(c.mv (nlF nl)).d) cs (Kp.refl _ _)
  (fun c hcm S' x=>by
   obtain⟨S3,e3,x3⟩:=zEl hm n (hc c hcm) (x.lst hj fun z=>z);exact⟨_,rfl,S3,by simp[zHX,e3],x.trans x3⟩)
 have e4:cs.map (fun c=>(c.mv (nlF nl)).d)=(cs.map (Ct.mv (nlF nl))).map Ct.d:=by rw[qD9];rfl
 rw[e4]at e2;have t1:=zCb (zA2 S2 ((cs.map (Ct.mv (nlF nl))).map Ct.d));have ll:(cs.map Ct.d).length<lim:=by rw[qA0];have:=zG8;omega
 refine⟨_,?_,x2.trans (zA6 S2 [.lst ((cs.map (Ct.mv (nlF nl))).map Ct.d)])⟩;rw[show n+2=(n+1)+1 from rfl,h];refine zA7 rfl ?_;generalize (cs.map (Ct.mv (nlF nl))).map Ct.d=R1 at *;generalize cs.map Ct.d=R at *;simp only[zIs,zAe,qB5,qH2,qD1,qH7,qI8,qH6,zKc,zT8,zPN,zHC,zJJ,zRK];rw[show([some x,some (D.lst j)]++qI8 (2 - (0+1+1)) none:Env1)=[some x,some (.lst j)]from rfl,hw];simp[ll,e2,t1,stE]
theorem zWl{f:Int->Int}{sw pl pl':Int}{d:Ct}(hd:d.ok sw pl)(hf:∀p,0<=p->p<pl->0<=f p/\f p<pl')(hne:f d.a≠f d.b):(d.mv f).ok sw pl':=by
 obtain⟨a0,ab,bp,k0,k1,o0,o1⟩:=hd;have ha:=hf d.a a0 (by omega);have hb:=hf d.b (by omega) bp;refine⟨?_,?_,?_,k0,k1,o0,o1⟩
 ·show 0<=(if f d.b<f d.a then f d.b else f d.a);split<;>omega
 ·show(if f d.b<f d.a then f d.b else f d.a)<(if f d.b>f d.a then f d.b else f d.a);split<;>split<;>omega
 ·show(if f d.b>f d.a then f d.b else f d.a)<pl';split<;>omega
theorem zQT{f g:Int->Int}{d:Ct}(ha:f d.a=g d.a)(hb:f d.b=g d.b):d.mv f=d.mv g:=by unfold Ct.mv;rw[ha,hb]
theorem zI3{N:Net}{st:yA}:zEp N st=true↔∀C:Int->Prop,C 0->(∀c∈N.cs,zD8 c st=true->(C c.a↔C c.b))->C 1:=by
 unfold zEp;rw[zHr];unfold zED ends;constructor
 ·intro h C c0 cc;refine h C c0 fun e he=>?_;obtain⟨c,hc,rfl⟩:=qB6.mp he;rw[qC6]at hc;exact cc c hc.1 hc.2
 ·intro h C c0 cc;refine h C c0 fun c hc hs=>?_;exact cc (c.a,c.b) (qB6.mpr ⟨c,qC6.mpr ⟨hc,hs⟩,rfl⟩)
theorem zMx{N:Net}{st:yA}(h:zEp N st=false):∃C:Int->Prop,C 0/\(∀c∈N.cs,zD8 c st=true->(C c.a↔C c.b))/\¬C 1:=by refine Classical.byContradiction fun hn=>?_;have:zEp N st=true:=zI3.mpr fun C c0 cc=>Classical.byContradiction fun n1=>hn ⟨C,c0,cc,n1⟩;rw[h]at this;cases this
theorem zWm(f:Int->Int)(c:Ct)(C:Int->Prop):(C (c.mv f).a↔C (c.mv f).b)↔(C (f c.a)↔C (f c.b)):=by
 show(C (if f c.b<f c.a then f c.b else f c.a)↔C (if f c.b>f c.a then f c.b else f c.a))↔_;by_cases h:f c.b<f c.a
 ·rw[if_pos h,if_neg (by omega)];exact⟨fun z=>z.symm,fun z=>z.symm⟩
 ·rw[if_neg h];by_cases h2:f c.b>f c.a
  ·rw[if_pos h2]
  ·rw[if_neg h2];have:f c.a=f c.b:=by omega
   rw[this]
noncomputable def zYC(mid:Int)(p:Int):Int:=if p=1 then mid else p
noncomputable def zYB(p1 mid:Int)(k:Int):Int:=if k=0 then mid else if k=1 then 1 else k+p1 - 2
noncomputable def zC3(p1:Int)(k:Int):Int:=if k=0 then 0 else if k=1 then 1 else k+p1 - 2
noncomputable def abF(k:Int):Int:=if k=0 then 1 else if k=1 then 0 else k
noncomputable def Net.row(N M:Net):Net:=⟨N.sw,N.pl+M.pl - 2+1,N.cs.map (Ct.mv (zYC (N.pl+M.pl - 2)))++M.cs.map (Ct.mv (zYB N.pl (N.pl+M.pl - 2)))⟩
noncomputable def Net.side(N M:Net):Net:=⟨N.sw,N.pl+M.pl - 2,N.cs++M.cs.map (Ct.mv (zC3 N.pl))⟩
noncomputable def Net.abt(N:Net):Net:=⟨N.sw,N.pl,N.cs.map (Ct.mv abF)⟩
theorem abF2(x:Int):abF (abF x)=x:=by
 unfold abF;by_cases h0:x=0
 ·subst h0;rfl
 ·rw[if_neg h0];by_cases h1:x=1
  ·subst h1;rfl
  ·rw[if_neg h1,if_neg h0,if_neg h1]
theorem zPV{ms mp mc:Int}{N:Net}(ok:N.ok ms mp mc):N.abt.ok ms mp mc:=by
 have p1:=ok.p1;refine⟨ok.s1,ok.s2,ok.p1,ok.p2,by show((N.cs.map _).length:Int)<=mc;rw[qA0];exact ok.c1,fun c hc=>?_⟩;obtain⟨d,hd,rfl⟩:=qB6.mp hc;obtain⟨a0,ab,bp,_⟩:=ok.c2 d hd;refine zWl (ok.c2 d hd) (fun p p0 pp=>?_) (fun z=>?_)
 ·show 0<=abF p/\abF p<N.pl;unfold abF;split
  ·omega
  ·split<;>omega
 ·have:d.a=d.b:=by rw[<- abF2 d.a,<- abF2 d.b,z]
  omega
theorem zSU{N M:Net}(okN:N.ok 4 4 8)(okM:M.ok 4 4 8)(sw:M.sw=N.sw):(N.side M).g:=by
 have a:=okN.p1;have b:=okN.p2;have c:=okM.p1;have d:=okM.p2;have e:=okN.c1;have f:=okM.c1;refine⟨okN.s1,okN.s2,by show 2<=N.pl+M.pl - 2;omega,by show N.pl+M.pl - 2<=7;omega,by show((_++_:yN).length:Int)<=16;rw[qB3,qA0];omega,fun x hx=>?_⟩;rcases qB2.mp hx with q|q
 ·obtain⟨a0,ab,bp,r⟩:=okN.c2 x q;exact⟨a0,ab,by show x.b<N.pl+M.pl - 2;omega,r⟩
 ·obtain⟨y,hy,rfl⟩:=qB6.mp q;obtain⟨a0,ab,bp,_⟩:=okM.c2 y hy;have hy':=okM.c2 y hy;rw[sw]at hy';refine zWl hy' (fun p p0 pp=>?_) (fun z=>?_)
  ·show 0<=zC3 _ p/\zC3 _ p<N.pl+M.pl - 2;unfold zC3;split
   ·omega
   ·split<;>omega
  ·unfold zC3 at z;repeat' split at z
   all_goals omega
theorem zLD{S:zA0}{x y lo hi:Int}(h1:lo<=hi)(h2:hi - lo<=100)(h3:-1000<=lo/\hi<=1000):
  ∃S1,zCA [.int lo,.int hi] (S++[.lst [.int x,.int y]])=.ok (.lst (S.length+1)) (S++[.lst [.int x,.int y]]++[.lst (upD lo (hi - lo).toNat)])/\oAdd (.lst S.length) (.lst (S.length+1)) (S++[.lst [.int x,.int y]]++[.lst (upD lo (hi - lo).toNat)])=.ok (.lst (S.length+2)) S1/\Ex S S1 /\
   zA4 S1 (S.length+2)=some (([x,y]++(List.range (hi - lo).toNat).map fun(k:Nat)=>lo+(k:Int)).map D.int):=by
 have e:([x,y]++(List.range (hi - lo).toNat).map fun(k:Nat)=>lo+(k:Int)).map D.int=[.int x,.int y]++upD lo (hi - lo).toNat:=by rw[qE4,qD9];rfl
 have l1:zA4 (S++[.lst [.int x,.int y]]++[.lst (upD lo (hi - lo).toNat)]) S.length=some [.int x,.int y]:=zAq (zA2 _ _);have l2:zA4 (S++[.lst [.int x,.int y]]++[.lst (upD lo (hi - lo).toNat)]) (S.length+1)=some (upD lo (hi - lo).toNat):=by have:=zA2 (S++[.lst [.int x,.int y]]) (upD lo (hi - lo).toNat);rw[show(S++[O.lst [.int x,.int y]]).length=S.length+1 by simp]at this;exact this
 have ad:=zCX l1 l2 (by rw[zFN,zAa];show 2+_<=_;omega);have len:(S++[O.lst [.int x,.int y]]++[O.lst (upD lo (hi - lo).toNat)]).length=S.length+2:=by simp
 rw[len]at ad;refine⟨_,?_,ad,((zA6 _ _).trans (zA6 _ _)).trans (zA6 _ _),?_⟩
 ·unfold zCA;dsimp only;rw[if_pos (by omega),show(S++[O.lst [.int x,.int y]]).length=S.length+1 by simp]
 ·rw[<- len,zA2,e]
theorem zS7{x y lo:Int}{n:Nat}{p:Int}(p0:0<=p)(pn:p<n+2):nlF ([x,y]++(List.range n).map fun(k:Nat)=>lo+(k:Int)) p=if p=0 then x else if p=1 then y else lo+(p - 2):=by
 unfold nlF;by_cases h0:p=0
 ·subst h0;rfl
 ·rw[if_neg h0];by_cases h1:p=1
  ·subst h1;rfl
  ·rw[if_neg h1,qR3,qA1 (by show 2<=p.toNat;omega),qC1,qG9 (by show p.toNat - 2<n;omega)];show lo+((p.toNat - 2:Nat):Int)=_;omega
theorem zWk(x y lo:Int)(n:Nat):([x,y]++(List.range n).map fun(k:Nat)=>lo+(k:Int)).length=n+2:=by simp
theorem zSV(p1 p:Int):zC3 p1 p=if p=0 then 0 else if p=1 then 1 else p1+(p - 2):=by
 unfold zC3;by_cases h0:p=0
 ·rw[if_pos h0,if_pos h0]
 ·rw[if_neg h0,if_neg h0];by_cases h1:p=1
  ·rw[if_pos h1,if_pos h1]
  ·rw[if_neg h1,if_neg h1];omega
theorem zZO(p:Int):abF p=if p=0 then 1 else if p=1 then 0 else 2+(p - 2):=by
 unfold abF;by_cases h0:p=0
 ·rw[if_pos h0,if_pos h0]
 ·rw[if_neg h0,if_neg h0];by_cases h1:p=1
  ·rw[if_pos h1,if_pos h1]
  ·rw[if_neg h1,if_neg h1];omega
structure HM(cl:Nat->CLL):Prop where
 mo:zIz cl
 mc:zBm cl
theorem zLG(M:HM cl)(n:Nat){cs:yN}(hl:cs.length<=100){pl x y lo:Int}(hpl:2<=pl){sw:Int}(hc:∀c∈cs,c.ok sw pl)(f:Int->Int)(hf:∀p,0<=p->p<pl->f p=if p=0 then x else if p=1 then y else lo+(p - 2)){S:zA0}{j:Nat}
  (hj:zA4 S j=some (([x,y]++(List.range (pl - 2).toNat).map fun(k:Nat)=>lo+(k:Int)).map D.int)):Spc (cl (n+2) "moved" [.tup (cs.map Ct.d),.lst j] S) ((.tup ((cs.map (Ct.mv f)).map Ct.d))) S:=by
 obtain⟨S1,e,x1⟩:=zMq M.mo M.mc n hl (fun c hc'=>by
  obtain⟨a0,ab,bp,_⟩:=hc c hc';refine⟨⟨a0,?_⟩,by omega,?_⟩<;>(rw[zWk];omega)) hj (.inl rfl)
 refine⟨S1,?_,x1⟩;have em:cs.map (Ct.mv (nlF ([x,y]++(List.range (pl - 2).toNat).map fun(k:Nat)=>lo+(k:Int))))=cs.map (Ct.mv f):=qG0 fun c hc'=>by obtain⟨a0,ab,bp,_⟩:=hc c hc';exact zQT (by rw[zS7 a0 (by omega),hf _ a0 (by omega)]) (by rw[zS7 (by omega) (by omega),hf _ (by omega) bp])
 rw[em]at e;exact e
theorem zK3(h:zCa cl)(n:Nat){sw pl:Int}{R:yM}(hp:pl<=7)(hR:R.length<=16)(S:zA0):cl (n+1) "net_within" [.int sw,.int pl,.tup R] S=.ok (.tup [.int sw,.int pl,.tup R]) S:=by
 rw[h];refine zA7 rfl ?_;have h1:¬(7:Int)<pl:=by omega
 have h2:¬(16:Int)<(R.length:Int):=by omega
 simp[zCB,zAe,h1,h2]
theorem zQi(c:CLL){N M:D}{sw p q:Int}{R1 R2 Z2:yM}{w:D}{S C T B2:zA0}{k2:Nat}(hN:N=.tup [.int sw,.int p,.tup R1])(q2:∀T,oIx M (.int 1) T=.ok (.int q) T)(q3:∀T,oIx M (.int 2) T=.ok (.tup R2) T)
  (f2:zCA [.int p,.int (p+q - 2)] (S++[.lst [.int 0,.int 1]])=.ok (.lst (S.length+1)) C) (a2:oAdd (.lst S.length) (.lst (S.length+1)) C=.ok (.lst k2) T) (m2:c "moved" [.tup R2,.lst k2] T=.ok (.tup Z2) B2)
  (hl:R1.length+Z2.length<=lim) (e:c "net_within" [.int sw,.int (p+q - 2),.tup (R1++Z2)] B2=.ok w B2):zBj c (zAe 4 [N,M]) S=.rt w B2:=by subst hN;simp[zBj,zAe,q2,q3,f2,a2,m2,hl,e]
theorem zPW(c:CLL){N:D}{sw p:Int}{R1 Z:yM}{S C T B2:zA0}{k2:Nat}(hN:N=.tup [.int sw,.int p,.tup R1])
  (f2:zCA [.int 2,.int p] (S++[.lst [.int 1,.int 0]])=.ok (.lst (S.length+1)) C) (a2:oAdd (.lst S.length) (.lst (S.length+1)) C=.ok (.lst k2) T) (m2:c "moved" [.tup R1,.lst k2] T=.ok (.tup Z) B2):zGJ c (zAe 1 [N]) S=.rt (.tup [.int sw,.int p,.tup Z]) B2:=by subst hN;simp[zGJ,zAe,f2,a2,m2]
theorem zNM(h:zCs cl)(hw:zCa cl)(M:HM cl)(n:Nat){N N2:Net}(ok:N.g)(ok2:N2.g)(okR:(N.side N2).g)(S:zA0):Spc (cl (n+3) "side_by_side" [N.d,N2.d] S) ((N.side N2).d) S:=by
 have a:=ok.p1;have b:=ok.p2;have c:=ok2.p1;have d:=ok2.p2;have e:=ok.c1;have f:=ok2.c1;obtain⟨T,f2,a2,xT,lT⟩:=zLD (S:=S) (x:=0) (y:=1) (lo:=N.pl) (hi:=N.pl+N2.pl - 2) (by omega) (by omega) (by omega);rw[show N.pl+N2.pl - 2 - N.pl=N2.pl - 2 by omega]at lT f2 a2;obtain⟨B2,m2,xB2⟩:=zLG M n (ok2.len (by decide)) c ok2.c2 (zC3 N.pl) (fun p _ _=>zSV _ p) lT;have hR:=okR.c1;have hP:=okR.p2;have hl:(N.side N2).cs.length=N.cs.length+N2.cs.length:=by show(_++_:yN).length=_;rw[qB3,qA0]
 have hw':=zK3 hw (n+1) (sw:=N.sw) (pl:=N.pl+N2.pl - 2) (R:=N.cs.map Ct.d++(N2.cs.map (Ct.mv (zC3 N.pl))).map Ct.d) (by exact hP) (by rw[qB3,qA0,qA0,qA0];omega) B2;refine⟨B2,?_,xT.trans xB2⟩;have hd:(N.side N2).d=.tup [.int N.sw,.int (N.pl+N2.pl - 2),.tup (N.cs.map Ct.d++(N2.cs.map (Ct.mv (zC3 N.pl))).map Ct.d)]:=by show D.tup [.int N.sw,.int (N.pl+N2.pl - 2),.tup ((_++_:yN).map Ct.d)]=_;rw[qE4]
 rw[show n+3=(n+2)+1 from rfl,h,hd];exact zA7 rfl (zQi _ rfl (fun _=>rfl) (fun _=>rfl) f2 a2 m2 (by rw[qA0,qA0,qA0,zAa];omega) hw')
theorem zHF(h:zIA cl)(M:HM cl)(n:Nat){N:Net}(ok:N.g)(S:zA0):Spc (cl (n+3) "about" [N.d] S) (N.abt.d) S:=by have a:=ok.p1;have b:=ok.p2;obtain⟨T,f2,a2,xT,lT⟩:=zLD (S:=S) (x:=1) (y:=0) (lo:=2) (hi:=N.pl) (by omega) (by omega) (by omega);obtain⟨B2,m2,xB2⟩:=zLG M n (ok.len (by decide)) a ok.c2 abF (fun p _ _=>zZO p) lT;refine⟨B2,?_,xT.trans xB2⟩;rw[show n+3=(n+2)+1 from rfl,h];exact zA7 rfl (zPW _ rfl f2 a2 m2)
open PySem L2
def kd(S:zA0)(d:D):Prop:=∃t,zMy S d=some t
noncomputable def isT:D->Bool|.tup _=>true|_=>false
noncomputable def isI:D->Bool|.int _=>true|.bl _=>true|_=>false
noncomputable def isB:D->Bool|.bl _=>true|_=>false
theorem zWz(S:zA0)(i:Int):kd S (.int i):=⟨_,rfl⟩
theorem zWy(S:zA0)(xs:yM):kd S (.tup xs):=⟨_,rfl⟩
theorem zOq{S:zA0}{k:Nat}(h:kd S (.lst k)):zMy S (.lst k)=some "list":=by
 obtain⟨t,h⟩:=h;have h':(if(zA4 S k).isSome then some "list" else none)=some t:=h;show(if(zA4 S k).isSome then some "list" else none)=_;split at h'
 ·rename_i hh;rw[if_pos hh]
 ·cases h'
theorem zPj{S:zA0}{k:Nat}(h:kd S (.dct k)):zMy S (.dct k)=some "dict":=by
 obtain⟨t,h⟩:=h;have h':zKM S k=some t:=h;show zKM S k=_;unfold zKM at h';split at h'
 ·rename_i kvs e;unfold zKM;rw[e]
 ·cases h'
theorem zCZ{S:zA0}{x:D}{t T:String}(h:zMy S x=some t)(hT:T∈["bool","int","tuple","list","str","dict"]):zBi [x,.ty T] S=.ok (.bl (kOf t T)) S:=by unfold zBi;dsimp only;rw[h];dsimp only;rw[if_pos hT]
theorem zWF{S:zA0}{x:D}(h:kd S x):zBi [x,.ty "tuple"] S=.ok (.bl (isT x)) S:=by
 cases x with
 |lst k=>rw[zCZ (zOq h) (by decide)];rfl
 |dct k=>rw[zCZ (zPj h) (by decide)];rfl
 |ty k=>obtain⟨t,h⟩:=h;cases h
 |rol k=>obtain⟨t,h⟩:=h;cases h
 |_=>rw[zCZ rfl (by decide)];rfl
theorem zWG{S:zA0}{x:D}(h:kd S x):zBi [x,.ty "int"] S=.ok (.bl (isI x)) S:=by
 cases x with
 |lst k=>rw[zCZ (zOq h) (by decide)];rfl
 |dct k=>rw[zCZ (zPj h) (by decide)];rfl
 |ty k=>obtain⟨t,h⟩:=h;cases h
 |rol k=>obtain⟨t,h⟩:=h;cases h
 |_=>rw[zCZ rfl (by decide)];rfl
theorem zWH{S:zA0}{x:D}(h:kd S x):zBi [x,.ty "bool"] S=.ok (.bl (isB x)) S:=by
 cases x with
 |lst k=>rw[zCZ (zOq h) (by decide)];rfl
 |dct k=>rw[zCZ (zPj h) (by decide)];rfl
 |ty k=>obtain⟨t,h⟩:=h;cases h
 |rol k=>obtain⟨t,h⟩:=h;cases h
 |_=>rw[zCZ rfl (by decide)];rfl
noncomputable def isW:D->Bool
 |.int _=>true
 |_=>false
theorem zJd(h:zD6 cl)(n:Nat){S:zA0}{x:D}(hk:kd S x):cl (n+1) "is_whole" [x] S=.ok (.bl (isW x)) S:=by
 rw[h];refine zA7 rfl ?_;have e1:=zWG hk;have e2:=zWH hk;have z:isW x=(if isI x=true then !isB x else false):=by cases x<;>rfl
 rw[z];cases hb:isI x<;>cases hc:isB x<;>rw[hb]at e1<;>rw[hc]at e2<;>simp[zBq,zAe,e1,e2]
noncomputable abbrev Wk:=yA×yA
noncomputable def zAy(l:yA):Int:=l.getD (l.length - 1) 0
noncomputable def fr(c:Ct)(v:Int):yG:=if c.a=v then some c.b else if c.b=v then some c.a else none
noncomputable def kid(w:Wk)(q:Nat×Ct):Option Wk:=match fr q.2 (zAy w.1)with
 |some u=>if u∈w.1 then none else some (w.1++[u],w.2++[(q.1:Int)])
 |none=>none
noncomputable def kids(cs:yN)(w:Wk):List Wk:=(zAT cs).filterMap (kid w)
noncomputable def Vf(cs:yN):Nat->Wk->List (yA)
 |0,_=>[]
 |f+1,w=>if zAy w.1=1 then[zCD w.2]else(kids cs w).flatMap (Vf cs f)
noncomputable def Vs(cs:yN)(w:Wk):List (yA):=Vf cs (9 - w.1.length) w
structure WOk(cs:yN)(w:Wk):Prop where
 nd:w.1.Nodup
 in7:∀x∈w.1,0<=x/\x<7
 ne:0<w.1.length
 ln:w.2.length<w.1.length
theorem nd7{l:yA}(nd:l.Nodup)(h:∀x∈l,0<=x/\x<7):l.length<=7:=by
 have:l.length<=([0,1,2,3,4,5,6]:yA).length:=List.Nodup.length_le_of_subset nd fun x hx=>by
  have:=h x hx;have:x=0∨x=1∨x=2∨x=3∨x=4∨x=5∨x=6:=by omega
  simpa using this
 simpa using this
theorem WOk.le{cs:yN}{w:Wk}(h:WOk cs w):w.1.length<=7:=nd7 h.nd h.in7
theorem zCz{cs:yN}{w v:Wk}{q:Nat×Ct}(h:kid w q=some v):∃u,fr q.2 (zAy w.1)=some u/\u∉w.1/\v=(w.1++[u],w.2++[(q.1:Int)]):=by
 unfold kid at h;split at h
 ·rename_i u e;split at h
  ·cases h
  ·rename_i hn;cases h;exact⟨u,e,hn,rfl⟩
 ·cases h
theorem zZx{c:Ct}{v u:Int}(h:fr c v=some u)(h7:(0<=c.a/\c.a<7)/\0<=c.b/\c.b<7):0<=u/\u<7:=by
 unfold fr at h;split at h
 ·cases h;exact h7.2
 ·split at h
  ·cases h;exact h7.1
  ·cases h
theorem zBM{cs:yN}(h7:In7 cs){w:Wk}(h:WOk cs w):∀v∈kids cs w,WOk cs v/\v.1.length=w.1.length+1:=by
 intro v hv;obtain⟨q,hq,e⟩:=qE5.mp hv;obtain⟨u,e1,e2,rfl⟩:=zCz (cs:=cs) e;have hm:q.2∈cs:=qB4 (zBZ hq);have:=zZx e1 (h7 _ hm);refine⟨⟨?_,?_,by simp,by have:=h.ln;simp;omega⟩,by simp⟩
 ·rw[qE8];exact⟨h.nd,by simp,fun x hx y hy z=>e2 (by simp at hy;rw[<- hy,<- z];exact hx)⟩
 ·intro x hx;rcases qB2.mp hx with hx|hx
  ·exact h.in7 x hx
  ·rw[qA7.mp hx];exact this
theorem zIx{cs:yN}(h7:In7 cs){w:Wk}(h:WOk cs w):Vs cs w=if zAy w.1=1 then[zCD w.2]else(kids cs w).flatMap (Vs cs):=by
 have:=h.le;unfold Vs;obtain⟨f,hf⟩:∃f,9 - w.1.length=f+1:=⟨8 - w.1.length,by omega⟩
 rw[hf,Vf];split
 ·rfl
 ·have:∀l:List Wk,(∀v∈l,v.1.length=w.1.length+1)->l.flatMap (Vf cs f)=l.flatMap fun v=>Vf cs (9 - v.1.length) v:=by
   intro l
   induction l with
   |nil=>intro _;rfl
   |cons v l ih =>
    intro hl;rw[qL8,qL8,ih fun u hu=>hl u (qB9 _ hu),hl v (qD0 ..)];congr 2;omega
  exact this _ fun v hv=>(zBM h7 h v hv).2
noncomputable def zRq(l:yA)(c:Ct):Bool:=decide (c.a∉l)&&decide (c.b∉l)
noncomputable def live(cs:yN)(w:Wk):Nat:=(cs.filter (zRq w.1.dropLast)).length
noncomputable def wt(cs:yN)(w:Wk):Nat:=2 ^ live cs w
theorem zE6{l:yA}(h:0<l.length):l=l.dropLast++[zAy l]:=by
 have hne:l≠[]:=fun e=>by subst e;simp at h
 have e:=qM9 hne;have:zAy l=l.getLast hne:=by unfold zAy;rw[List.getLast_eq_getElem,qF6,qA5 (by omega)];rfl
 rw[this,e]
theorem zJv{α:Type}{p q r:α->Bool}(h1:∀x,q x=true->p x=true)(h2:∀x,r x=true->p x=true)(h3:∀x,q x=true->r x=false):∀l:List α,(l.filter q).length+(l.filter r).length<=(l.filter p).length
 |[]=>by simp
 |x::l=>by
  have ih:=zJv h1 h2 h3 l;simp only[qF8];cases e1:q x with
  |true =>
   rw[h1 x e1,h3 x e1];simp;omega
  |false =>
   cases e2:r x with
   |true=>rw[h2 x e2];simp;omega
   |false =>
    cases p x<;>simp<;>omega
theorem zR7{cs:yN}{w:Wk}:(kids cs w).length=(cs.filter fun c=>(kid w (0,c)).isSome).length:=by
 unfold kids;have e:∀l:List (Nat×Ct),(l.filterMap (kid w)).length=((l.map (·.2)).filter fun c=>(kid w (0,c)).isSome).length:=by
  intro l
  induction l with
  |nil=>rfl
  |cons q l ih =>
   have hs:(kid w q).isSome=(kid w (0,q.2)).isSome:=by
    unfold kid;dsimp only;split
    ·split<;>rfl
    ·rfl
   rw[qB5,qH8,qF8];cases hk:kid w q with
   |none=>rw[hk]at hs;simp only[Option.isSome_none]at hs;rw[<- hs];simpa using ih
   |some v=>rw[hk]at hs;simp only[qN4]at hs;rw[<- hs];simpa using ih
 rw[e,zPa]
theorem zGc{cs:yN}{w:Wk}(h:WOk cs w):∀v∈kids cs w,(kids cs w).length+live cs v<=live cs w:=by
 intro v hv;obtain⟨q,hq,e⟩:=qE5.mp hv;obtain⟨u,e1,e2,rfl⟩:=zCz (cs:=cs) e;rw[zR7,Nat.add_comm];unfold live;have hd:(w.1++[u]).dropLast=w.1:=by simp
 rw[hd];have hsp:=zE6 h.ne;have hl:zAy w.1∈w.1:=by
  have:zAy w.1∈w.1.dropLast++[zAy w.1]:=by simp
  rwa[<- hsp]at this
 have nl:zAy w.1∉w.1.dropLast:=by have nd:=h.nd;rw[hsp,qE8]at nd;exact fun hm=>nd.2.2 _ hm _ (qD7 _) rfl
 have sub:∀x,x∈w.1.dropLast->x∈w.1:=fun x hx=>qP6 _ hx;refine zJv (fun c hc=>?_) (fun c hc=>?_) (fun c hc=>?_) cs
 ·simp only[zRq,qC9,decide_eq_true_eq]at hc ⊢;exact⟨fun m=>hc.1 (sub _ m),fun m=>hc.2 (sub _ m)⟩
 ·obtain⟨v,hv⟩:=qI7.mp hc;obtain⟨u,f1,f2,_⟩:=zCz (cs:=cs) hv;simp only[zRq,qC9,decide_eq_true_eq];unfold fr at f1;split at f1
  ·rename_i ea;cases f1;exact⟨by rw[ea];exact nl,fun m=>f2 (sub _ m)⟩
  ·split at f1
   ·rename_i eb;cases f1;exact⟨fun m=>f2 (sub _ m),by rw[eb];exact nl⟩
   ·cases f1
 ·simp only[zRq,qC9,decide_eq_true_eq]at hc;unfold kid fr;dsimp only;rw[if_neg (fun e:c.a=zAy w.1=>hc.1 (by rw[e];exact hl)),if_neg (fun e:c.b=zAy w.1=>hc.2 (by rw[e];exact hl))];rfl
theorem zQB(d m:Nat)(h:d<=m):d*2 ^ (m - d)+1<=2 ^ m:=by
 have e:2 ^ m=2 ^ d*2 ^ (m - d):=by rw[<- Nat.pow_add];congr 1;omega
 have h1:d+1<=2 ^ d:=Nat.succ_le_of_lt Nat.lt_two_pow_self;have h2:1<=2 ^ (m - d):=qN5
 calc d*2 ^ (m - d)+1<=d*2 ^ (m - d)+2 ^ (m - d):=by omega
  _=(d+1)*2 ^ (m - d):=by rw[qS2,qS3]
  _<=2 ^ d*2 ^ (m - d):=Nat.mul_le_mul_right _ h1
  _=2 ^ m:=e.symm
noncomputable def wts(cs:yN)(l:List Wk):Nat:=(l.map (wt cs)).sum
theorem zRT{cs:yN}{b:Nat}:∀l:List Wk,(∀v∈l,wt cs v<=b)->wts cs l<=l.length*b
 |[],_=>by simp[wts]
 |v::l,h=>by have:=zRT l fun u hu=>h u (qB9 _ hu);have:=h v (qD0 ..);unfold wts at *;rw[qB5,qT2,qD1,qS2,qS3];omega
theorem zQ5{cs:yN}{w:Wk}(h:WOk cs w):wts cs (kids cs w)+1<=wt cs w:=by
 by_cases hk:kids cs w=[]
 ·rw[hk];unfold wts wt;exact qN5
 ·obtain⟨v0,hv0⟩:=qN6 _ hk;have hd:(kids cs w).length<=live cs w:=by have:=zGc h v0 hv0;omega
  have h1:=zRT (cs:=cs) (b:=2 ^ (live cs w - (kids cs w).length)) (kids cs w) fun v hv=>by have:=zGc h v hv;exact qF5 (by omega) (by omega)
  have h2:=zQB _ _ hd;unfold wt at *;omega
theorem zSt{cs:yN}(h7:In7 cs):∀(f:Nat) (w:Wk),WOk cs w->9 - w.1.length<=f->(Vs cs w).length<=wt cs w
 |0,w,h,hf=>by have:=h.le;omega
 |f+1,w,h,hf=>by
  rw[zIx h7 h];split
  ·exact qN5
  ·have g:∀l:List Wk,(∀v∈l,WOk cs v/\v.1.length=w.1.length+1)->(l.flatMap (Vs cs)).length<=wts cs l:=by
    intro l
    induction l with
    |nil=>intro _;simp
    |cons v l ih =>
     intro hl;obtain⟨o,e⟩:=hl v (qD0 ..);have h1:=zSt h7 f v o (by omega);have h2:=ih fun u hu=>hl u (qB9 _ hu);unfold wts at *;rw[qL8,qB3,qB5,qT2];omega
   have:=g _ (zBM h7 h);have:=zQ5 h;omega
theorem zYc{cs:yN}{w:Wk}(h:cs.length<=16):wt cs w<=65536:=by have:live cs w<=16:=qD3 (qE0 ..) h;exact qD3 (qF5 (by omega) this) (by decide)
noncomputable def w0:Wk:=([0],[])
theorem zM9(cs:yN):WOk cs w0:=⟨by simp[w0],fun x hx=>by simp[w0]at hx;omega,by simp[w0],by simp[w0]⟩
noncomputable def zAc(N:Net):List (yA):=zFp (Vs N.cs w0)
noncomputable def iT(l:yA):D:=.tup (l.map D.int)
noncomputable def csD(cs:yN):D:=.tup (cs.map Ct.d)
noncomputable def frD:yG->D
 |some u=>.int u
 |none=>.non
theorem zJq(h:zFa cl)(n:Nat)(c:Ct)(v:Int)(S:zA0):cl (n+1) "far_end" [c.d,.int v] S=.ok (frD (fr c v)) S:=by
 rw[h];refine zA7 rfl ?_;unfold fr;by_cases h1:c.a=v
 ·rw[if_pos h1];simp[zCS,zAe,Ct.d,h1,frD]
 ·rw[if_neg h1];by_cases h2:c.b=v
  ·rw[if_pos h2];simp[zCS,zAe,Ct.d,h1,h2,frD]
  ·rw[if_neg h2];simp[zCS,zAe,Ct.d,h1,h2,frD]
theorem zHV{l:yA}(h:0<l.length)(S:zA0):oIx (iT l) (.int (-1)) S=.ok (.int (zAy l)) S:=by
 unfold iT;rw[zKk];have:atI (l.map D.int) (-1)=some (.int (zAy l)):=by unfold atI ixN;rw[if_neg (by omega),if_pos (by simp;omega)];show(l.map D.int)[(-1+((l.map D.int).length:Int)).toNat]?=_;rw[qC1,show(-1+((l.map D.int).length:Int)).toNat=l.length - 1 by simp;omega,qA5 (by omega)];unfold zAy;rw[qF6,qA5 (by omega)];rfl
 rw[this]
theorem zKm{l:yA}{x:Int}(h:l.length<=100)(S:zA0):oAdd (iT l) (.tup [.int x]) S=.ok (iT (l++[x])) S:=by unfold iT oAdd;dsimp only;rw[if_pos (by have:=zG8;simp;omega)];simp
theorem zKJ{ns:yA}(hl:ns.length<64)(S:zA0):zAR [iT ns] S=.ok (.lst S.length) (S++[.lst ((zCD ns).map D.int)]):=by unfold zAR iT;dsimp only;rw[zCM];dsimp only;rw[if_pos hl]
theorem zIH:∀nss:List (yA),zK7 (nss.map tD)=some nss
 |[]=>rfl
 |ns::nss=>by rw[qB5];show(match zCj (ns.map D.int),zK7 (nss.map tD)with|some ns,some nss=>some (ns::nss)| _,_=>none)=_;rw[zCM,zIH nss]
theorem zKu:∀nss:List (yA),nss≠[]->zCj (nss.map tD)=none
 |[],h=>absurd rfl h
 |ns::nss,_=>rfl
theorem zJr{S:zA0}{n:Nat}{nss:List (yA)}(h:zA4 S n=some (nss.map tD)):zAR [.lst n] S=.ok (.lst S.length) (S++[.lst ((zFp nss).map tD)]):=by
 unfold zAR;dsimp only;rw[h];by_cases hn:nss=[]
 ·subst hn;rfl
 ·show(match zCj (nss.map tD)with|some ns=>_|none=>_)=_;rw[zKu nss hn];show(match zK7 (nss.map tD)with|some nss=>_|none=>_)=_;rw[zIH]
theorem zUJ(c:CLL){csd gd td nd cd:D}{v:Int}{k:Nat}{w:Option D}{S:zA0}(i1:oIx gd (.int (-1)) S=.ok (.int v) S)(e1:c "far_end" [cd,.int v] S=.ok .non S):
  zB1 c [some csd,some gd,some td,some (.lst k),some nd,some cd,w] S=.nx [some csd,some gd,some td,some (.lst k),some nd,some cd,some .non] S:=by simp[zB1,i1,e1,D.isNon]
theorem zUK(c:CLL){csd gd td nd cd:D}{v u:Int}{k:Nat}{w:Option D}{S:zA0}(i1:oIx gd (.int (-1)) S=.ok (.int v) S)(e1:c "far_end" [cd,.int v] S=.ok (.int u) S)(q:oIn true (.int u) gd S=.ok (.bl false) S):
  zB1 c [some csd,some gd,some td,some (.lst k),some nd,some cd,w] S=.nx [some csd,some gd,some td,some (.lst k),some nd,some cd,some (.int u)] S:=by simp[zB1,i1,e1,q,D.isNon]
theorem zUL(c:CLL){csd gd td nd cd gd' td':D}{v u:Int}{k m:Nat}{w:Option D}{S S1 S2:zA0}(i1:oIx gd (.int (-1)) S=.ok (.int v) S)(e1:c "far_end" [cd,.int v] S=.ok (.int u) S)(q:oIn true (.int u) gd S=.ok (.bl true) S)
  (a1:oAdd gd (.tup [.int u]) S=.ok gd' S) (a2:oAdd td (.tup [nd]) S=.ok td' S) (e2:c "ways_on" [csd,gd',td'] S=.ok (.lst m) S1) (ty:tyOk "list" (.lst k) S=true) (m1:zE5 (.lst k) [.lst m] S1=.ok .non S2) :
  zB1 c [some csd,some gd,some td,some (.lst k),some nd,some cd,w] S=.nx [some csd,some gd,some td,some (.lst k),some nd,some cd,some (.int u)] S2:=by simp[zB1,i1,e1,q,a1,a2,e2,m1,ty,D.isNon]
theorem zSx(c:CLL){csd gd td td':D}{S S1:zA0}{k:Nat}{xs:yM}{w3 w4 w5 w6:Option D}(i1:oIx gd (.int (-1)) S=.ok (.int 1) S)(f1:zAR [td] S=.ok (.lst k) S1)(f2:zCk [.lst k] S1=.ok td' S1):
  zCl c [some csd,some gd,some td,w3,w4,w5,w6] S=.rt (.lst S1.length) (S1++[.lst [td']]):=by simp[zCl,i1,f1,f2]
theorem zSy(c:CLL){gd td:D}{xs:yM}{v:Int}{S S1:zA0}{ρ:Env1}{w3 w4 w5 w6:Option D}(i1:oIx gd (.int (-1)) S=.ok (.int v) S)(hv:v≠1)
  (e1:zBb [] (gT [(gN 4),(gN 5)]) (zB1 c) (zD0 xs) [some (.tup xs),some gd,some td,some (.lst S.length),w4,w5,w6] (S++[.lst []])=.nx ρ S1) (hl:(zD0 xs).length<lim) (hr:ρ[3]?=some (some (.lst S.length))) :
  zCl c [some (.tup xs),some gd,some td,w3,w4,w5,w6] S=.rt (.lst S.length) S1:=by simp[zCl,i1,hv,e1,hr,hl]
theorem zIe{α:Type}{l:List α}{i:Nat}{q:Nat×α}(h:(zAT l)[i]?=some q):q.1=i/\l[i]?=some q.2:=by unfold zAT at h;rw[qE7]at h;have:=qA2.mp h.1;obtain⟨h3,h4⟩:=this;simp at h4;exact⟨h4.symm,h.2⟩
theorem zMT{α:Type}{l:List α}{i:Nat}{q:Nat×α}(h:(zAT l)[i]?=some q):(zAT l).take (i+1)=(zAT l).take i++[q]:=by rw[qR1,h];rfl
theorem zMt{S:zA0}{n k:Nat}{ys zs:yM}(h1:zA4 S n=some ys)(h2:zA4 S k=some zs)(h:ys.length+zs.length<=lim):zE5 (.lst n) [.lst k] S=.ok .non (S.set n (.lst (ys++zs))):=by unfold zE5;dsimp only;rw[zAN h1,zAN h2];dsimp only;rw[if_pos h]
structure HW(cl:Nat->CLL):Prop where
 fe:zFa cl
 wo:zHG cl
 aw:zGQ cl
inductive LstR(r:R D)(S:zA0)(L:yM):Prop
 |mk (k:Nat) (S1:zA0) (e:r=.ok (.lst k) S1) (x:Ex S S1) (le:S.length<=k) (l:zA4 S1 k=some L)
noncomputable def part(cs:yN)(w:Wk)(i:Nat):List (yA):=(((zAT cs).take i).filterMap (kid w)).flatMap (Vs cs)
theorem zO8{cs:yN}{w:Wk}{i:Nat}{q:Nat×Ct}(h:(zAT cs)[i]?=some q):part cs w (i+1)=part cs w i++(match kid w q with|some v=>Vs cs v|none=>[]):=by
 unfold part;rw[zMT h,qP2,qQ0];congr 1;cases e:kid w q with
 |none=>simp[e]
 |some v=>simp[e]
theorem zQM{cs:yN}(h7:In7 cs)(hc:cs.length<=16){w:Wk}(h:WOk cs w)(h1:zAy w.1≠1)(i:Nat):(part cs w i).length<=65536:=by
 have e:(Vs cs w).length<=65536:=qD3 (zSt h7 9 w h (by omega)) (zYc hc);rw[zIx h7 h,if_neg h1]at e;have s:(kids cs w)=((zAT cs).take i).filterMap (kid w)++((zAT cs).drop i).filterMap (kid w):=by rw[<- qP2,qD4];rfl
 rw[s,qQ0,qB3]at e;unfold part;omega
theorem zFc(H:HW cl){cs:yN}(h7:In7 cs)(hc:cs.length<=16):∀(f:Nat) (w:Wk),WOk cs w->w.1.length+f=8->∀(n:Nat) (S:zA0),LstR (cl (n+2+f) "ways_on" [csD cs,iT w.1,iT w.2] S) S ((Vs cs w).map tD)
 |0,w,h,hf,n,S=>by have:=h.le;omega
 |f+1,w,h,hf,n,S=>by
  have hle:=h.le;have hln:=h.ln;rw[show n+2+(f+1)=(n+2+f)+1 from rfl,H.wo];by_cases h1:zAy w.1=1
  ·rw[zIx h7 h,if_pos h1];have i1:=zHV h.ne S;rw[h1]at i1;have f1:=zKJ (ns:=w.2) (by omega) S;have f2:zCk [.lst S.length] (S++[.lst ((zCD w.2).map D.int)])=.ok (tD (zCD w.2)) _:=zCb (zA2 S _);refine⟨_,_,zA7 rfl (zSx (xs:=[]) _ i1 f1 f2),(zA6 S _).trans (zA6 _ _),by simp,zA2 _ _⟩
  ·have l0:zA4 (S++[O.lst []]) S.length=some []:=zA2 S [];obtain⟨ρ',S1,e1,v4,v5,v6,rfl,kp,l1⟩:=zBQ (w:=[]) (g:=gT [(gN 4),(gN 5)]) (b:=zB1 (cl (n+2+f))) (items:=zD0 (cs.map Ct.d))
    (fun i ρ S'=>∃v4 v5 v6,ρ=[some (csD cs),some (iT w.1),some (iT w.2),some (.lst S.length),v4,v5,v6]/\Kp (·=S.length) (S++[O.lst []]) S'/\zA4 S' S.length=some ((part cs w i).map tD))
    (ρ:=[some (csD cs),some (iT w.1),some (iT w.2),some (.lst S.length),none,none,none]) (S:=S++[O.lst []])
    (fun _ _ _ _=>zAh _) ⟨none,none,none,rfl,Kp.refl _ _,l0⟩
    (fun i d ρ S' hd hp=>by
     obtain⟨v4,v5,v6,rfl,kp,l1⟩:=hp;rw[zC0,qC1]at hd;obtain⟨q,hq,rfl⟩:=qA4.mp hd;obtain⟨q1,q2⟩:=zIe hq;have hm:q.2∈cs:=qB4 q2;have i1:=zHV h.ne S';have ef:=zJq H.fe (n+1+f) q.2 (zAy w.1) S';rw[show n+1+f+1=n+2+f by omega]at ef;have pl:=zQM h7 hc h h1 (i+1);rw[zO8 hq]at pl ⊢;refine⟨[some (csD cs),some (iT w.1),some (iT w.2),some (.lst S.length),some (.int (q.1:Nat)),some q.2.d,v6],S',rfl,?_⟩;cases hfr:fr q.2 (zAy w.1)with
     |none =>
      rw[hfr]at ef;have hk:kid w q=none:=by unfold kid;rw[hfr]
      rw[hk];exact⟨_,S',.inl (zUJ _ i1 ef),_,_,_,rfl,kp,by simpa using l1⟩
     |some u =>
      rw[hfr]at ef;have oi:=zBv true u w.1 S';by_cases hu:u∈w.1
      ·have hk:kid w q=none:=by unfold kid;rw[hfr];simp[hu]
       rw[hk];refine⟨_,S',.inl (zUK _ i1 ef (by simpa[hu,iT]using oi)),_,_,_,rfl,kp,by simpa using l1⟩
      ·have hk:kid w q=some (w.1++[u],w.2++[(q.1:Int)]):=by unfold kid;rw[hfr];simp[hu]
       have ko:=zBM h7 h (w.1++[u],w.2++[(q.1:Int)]) (qE5.mpr ⟨q,qB4 hq,hk⟩);obtain⟨m,S2,e2,x2,le2,l2⟩:=zFc H h7 hc f (w.1++[u],w.2++[(q.1:Int)]) ko.1 (by rw[ko.2];omega) n S';rw[hk]at pl ⊢;have l1':zA4 S2 S.length=some ((part cs w i).map tD):=x2.lst l1 fun z=>z;have m1:=zMt l1' l2 (by rw[qB3]at pl;rw[qA0,qA0,zAa];exact qD3 pl (by decide));refine⟨_,_,.inl (zUL _ i1 ef (by simpa[hu,iT]using oi) (zKm (by omega) S') (zKm (by omega) S') e2 (zFA l1) m1),_,_,_,rfl,(kp.trans x2.kp).trans (zFh _ _),?_⟩;rw[qE4];exact zDr l1')
   refine⟨S.length,S1,zA7 rfl (zSy _ (zHV h.ne S) h1 e1 ?_ rfl),?_,qB1 _,?_⟩
   ·rw[zC0,qA0,zDB,zAa];omega
   ·refine⟨by have:=kp.le;simp at this;omega,fun j hj _=>?_⟩;rw[kp.eq j (by simp;omega) (by omega),qA8 hj]
   ·rw[l1,zIx h7 h,if_neg h1];unfold part;rw[qF7 (by rw[zC0,qA0];exact qB1 _)];rfl
theorem zXs(c:CLL){nd csd:D}{k:Nat}{S S1 S2:zA0}{r:D}(i1:oIx nd (.int 2) S=.ok csd S)(e1:c "ways_on" [csd,.tup [.int 0],.tup []] S=.ok (.lst k) S1)(f1:zAR [.lst k] S1=.ok r S2):zCT c [some nd] S=.rt r S2:=by simp[zCT,i1,e1,f1]
theorem zAJ(H:HW cl)(n:Nat){N:Net}(ok:N.g)(S:zA0):LstR (cl (n+10) "all_ways" [N.d] S) S ((zAc N).map tD):=by
 have hc:N.cs.length<=16:=by have:=ok.c1;omega
 obtain⟨k,S1,e1,x1,le1,l1⟩:=zFc H (ok.in7 (by decide)) hc 7 w0 (zM9 _) rfl n S;rw[show n+10=(n+2+7)+1 from rfl,H.aw];have f1:=zJr l1;refine⟨_,_,zA7 rfl (zXs (nd:=N.d) (csd:=csD N.cs) _ ?_ e1 f1),x1.trans (zA6 _ _),x1.le,zA2 _ _⟩;unfold Net.d csD;simp
noncomputable def wD(w:Wk):D:=.tup [iT w.1,iT w.2]
structure PI(N:Net)(kf kq:Nat)(S0:zA0)(F:List (yA))(W:List Wk)(S:zA0):Prop where
 kp:Kp (fun j=>j=kf∨j=kq) S0 S
 lf:zA4 S kf=some (F.map tD)
 lq:zA4 S kq=some (W.map wD)
noncomputable def cutB(cs:yN)(C:Int->Bool)(i:Nat):Bool:=match cs[i]? with
 |some c=>C c.a != C c.b
 |none=>false
noncomputable def cutI(cs:yN)(C:Int->Bool):yA:=((List.range cs.length).filter (cutB cs C)).map fun(i:Nat)=>(i:Int)
structure Side(C:Int->Bool):Prop where
 z:C 0=true
 o:C 1=false
theorem zCC{cs:yN}{C:Int->Bool}{x:Int}:x∈cutI cs C↔∃(i:Nat) (c:Ct),cs[i]?=some c/\C c.a≠C c.b/\x=(i:Int):=by
 unfold cutI;simp only[qB6,qC6,qJ9];constructor
 ·rintro⟨i,⟨hi,hb⟩,rfl⟩;unfold cutB at hb;rw[qA5 hi]at hb;exact⟨i,_,qA5 hi,by simpa using hb,rfl⟩
 ·rintro⟨i,c,hc,hn,rfl⟩;have hi:=(qA2.mp hc).1;refine⟨i,⟨hi,?_⟩,rfl⟩;unfold cutB;rw[hc];simpa using hn
theorem zKN{cs:yN}{C C':Int->Bool}(h:∀x,x∈cutI cs C↔x∈cutI cs C'):cutI cs C=cutI cs C':=by
 unfold cutI;congr 1;apply qI6;intro i hi;have q:∀D:Int->Bool,cutB cs D i=true↔(i:Int)∈cutI cs D:=fun D=>by
  rw[zCC];constructor
  ·intro hb;unfold cutB at hb;split at hb
   ·rename_i c hc;exact⟨i,c,hc,by simpa using hb,rfl⟩
   ·cases hb
  ·rintro⟨j,c,hc,hn,e⟩;have:i=j:=by omega
   subst this;unfold cutB;rw[hc];simpa using hn
 exact zAg ((q C).trans ((h _).trans (q C').symm))
theorem zRy{cs:yN}{C C':Int->Bool}(h:∀c∈cs,C c.a=C' c.a/\C c.b=C' c.b):cutI cs C=cutI cs C':=by
 apply zKN;intro x;rw[zCC,zCC];constructor
 ·rintro⟨i,c,hc,hn,e⟩;have:=h c (qB4 hc);exact⟨i,c,hc,by rw[<- this.1,<- this.2];exact hn,e⟩
 ·rintro⟨i,c,hc,hn,e⟩;have:=h c (qB4 hc);exact⟨i,c,hc,by rw[this.1,this.2];exact hn,e⟩
noncomputable def zAI(cs:yN)(l:yA):yN:=((zAT cs).filter fun q=>decide ((q.1:Int)∉l)).map (·.2)
theorem zES{cs:yN}{l:yA}{c:Ct}:c∈zAI cs l↔∃i:Nat,cs[i]?=some c/\(i:Int)∉l:=by
 unfold zAI;simp only[qB6,qC6,decide_eq_true_eq];constructor
 ·rintro⟨q,⟨hq,hn⟩,rfl⟩;exact⟨q.1,zBZ hq,hn⟩
 ·rintro⟨i,hc,hn⟩;have hi:=(qA2.mp hc).1;refine⟨(i,c),⟨?_,hn⟩,rfl⟩;unfold zAT;rw[qM0];exact⟨i,by rw[qE7];exact⟨by simp[hi],hc⟩⟩
theorem zEN{cs:yN}{l:yA}:¬zED (ends (zAI cs l))↔∃C,Side C/\∀x∈cutI cs C,x∈l:=by
 constructor
 ·intro h;unfold zED at h;simp only[Classical.not_forall]at h;obtain⟨C,c0,cc,n1⟩:=h;refine⟨fun x=>@decide (C x) (Classical.propDecidable _),⟨by simpa using c0,by simpa using n1⟩,fun x hx=>?_⟩;obtain⟨i,c,hc,hn,rfl⟩:=zCC.mp hx;apply Classical.byContradiction;intro hl;have:=cc (c.a,c.b) (qB6.mpr ⟨c,zES.mpr ⟨i,hc,hl⟩,rfl⟩);apply hn;simp only[decide_eq_decide];exact this
 ·rintro⟨C,hs,hc⟩ hj;have:=hj (fun x=>C x=true) hs.z fun e he=>by obtain⟨c,hcm,rfl⟩:=qB6.mp he;obtain⟨i,hci,hl⟩:=zES.mp hcm;have:C c.a=C c.b:=Classical.byContradiction fun hn=>hl (hc _ (zCC.mpr ⟨i,c,hci,hn,rfl⟩));rw[this]
  rw[hs.o]at this;cases this
def zGO(cs:yN)(t:yA):Prop:=∀C',Side C'->(∀x∈cutI cs C',x∈t)->cutI cs C'=t
theorem zOx{cs:yN}{C:Int->Bool}(hs:Side C):(∀e∈cutI cs C,zED (ends (zAI cs ((cutI cs C).filter fun x=>decide (x≠e)))))↔zGO cs (cutI cs C):=by
 constructor
 ·intro h C' hs' hsub;apply zKN;intro x;refine⟨hsub x,fun hx=>Classical.byContradiction fun hn=>?_⟩;refine zEN.mpr ⟨C',hs',fun y hy=>?_⟩ (h x hx);rw[qC6];exact⟨hsub y hy,decide_eq_true fun e=>hn (e▸hy)⟩
 ·intro h e he;apply Classical.byContradiction;intro hn;obtain⟨C',hs',hsub⟩:=zEN.mp hn;have:=h C' hs' fun x hx=>(qC6.mp (hsub x hx)).1;have he':e∈cutI cs C':=by rw[this];exact he
  have:=(qC6.mp (hsub e he')).2;simp at this
structure zBF(cs:yN)(L:List (yA)):Prop where
 nd:L.Nodup
 so:LexP L
 mem:∀t,t∈L↔∃C,Side C/\t=cutI cs C/\zGO cs t
theorem zBF.uniq{cs:yN}{L L':List (yA)}(h:zBF cs L)(h':zBF cs L'):L=L':=by have p:L.Perm L':=(qG8 h.nd h'.nd).mpr fun t=>(h.mem t).trans (h'.mem t).symm;rw[zEb p h.so];exact(zEb (.refl _) h'.so).symm
noncomputable def addT(ts:List (yA))(t:yA):List (yA):=if t∈ts then ts else ts++[t]
theorem zLI{ts:List (yA)}{t x:yA}:x∈addT ts t↔x∈ts∨x=t:=by
 unfold addT;split
 ·rename_i h;exact⟨.inl,fun q=>q.elim id fun e=>e▸h⟩
 ·simp
theorem zUx{ts:List (yA)}{t:yA}(h:ts.Nodup):(addT ts t).Nodup:=by
 unfold addT;split
 ·exact h
 ·rename_i hn;rw[qE8];exact⟨h,by simp,fun x hx y hy e=>hn (by simp at hy;rw[<- hy,<- e];exact hx)⟩
theorem zRS(ts:List (yA))(t:yA):(addT ts t).length<=ts.length+1:=by unfold addT;split<;>simp
noncomputable def tK(t:yA):List Key:=t.map Sum.inl
noncomputable def dtOf(ts:List (yA)):List (List Key×D):=ts.map fun t=>(tK t,D.bl true)
noncomputable def dO(ts:List (yA)):O:=if ts=[]then .dk []else .dt (dtOf ts)
theorem zUZ{a b:yA}(h:tK a=tK b):a=b:=by unfold tK at h;exact(qK9 (fun x y e=>Sum.inl.inj e)).mp h
theorem zX3(ts:List (yA))(t:yA):((dtOf ts).any fun kv=>decide (kv.1=tK t))=decide (t∈ts):=by
 apply zAg;simp only[qS1,decide_eq_true_eq,dtOf,qB6];constructor
 ·rintro⟨kv,⟨a,ha,rfl⟩,e⟩;have:=zUZ e;rw[<- this];exact ha
 ·intro h;exact⟨_,⟨t,h,rfl⟩,rfl⟩
theorem zX1(ts:List (yA))(t:yA):putD (dtOf ts) (tK t) (.bl true)=dtOf (addT ts t):=by
 unfold putD addT;rw[zX3];by_cases h:t∈ts
 ·simp only[h,decide_true,if_true];unfold dtOf;rw[qD9];apply qG0;intro a ha;dsimp only[Function.comp];split
  ·rename_i e;rfl
  ·rfl
 ·simp[h,dtOf]
theorem zHq(t:yA):(t.map D.int).mapM zDa=some (tK t):=by
 induction t with
 |nil=>rfl
 |cons a t ih=>rw[qB5,qF4,ih];rfl
theorem zTG{S:zA0}{m:Nat}{ts:List (yA)}(h:S[m]?=some (dO ts))(hl:ts.length<lim)(t:yA):oSet (.dct m) (iT t) (.bl true) S=some (S.set m (dO (addT ts t))):=by
 unfold oSet iT;dsimp only;have hk:zDa (D.tup (t.map D.int))=none:=rfl;rw[h,hk];have ne:addT ts t≠[]:=fun e=>by have:t∈addT ts t:=zLI.mpr (.inr rfl);rw[e]at this;cases this
 have e2:dO (addT ts t)=.dt (dtOf (addT ts t)):=by unfold dO;rw[if_neg ne]
 by_cases hn:ts=[]
 ·subst hn;have e1:dO []=.dk []:=rfl;rw[e1];show zMp m (.tup (t.map D.int)) (.bl true) S=_;unfold zMp;rw[h,e1];dsimp only;rw[zHq,e2];rfl
 ·have e1:dO ts=.dt (dtOf ts):=by unfold dO;rw[if_neg hn]
  rw[e1];show zMp m (.tup (t.map D.int)) (.bl true) S=_;unfold zMp;rw[h,e1];dsimp only;rw[zHq];dsimp only;rw[if_pos (by unfold dtOf;rw[qA0];exact hl),zX1,e2]
theorem zLn:∀ts:List (yA),zMe (dtOf ts)=some ts
 |[]=>rfl
 |t::ts=>by
  have e:(tK t).mapM (fun x=>match x with|.inl n=>some n|.inr _=>none)=some t:=by
   unfold tK
   induction t with
   |nil=>rfl
   |cons a t ih=>rw[qB5,qF4,ih];rfl
  show(match (tK t).mapM (fun x:Key=>match x with|.inl n=>some n|.inr _=>none),zMe (dtOf ts)with|some ns,some nss=>some (ns::nss)| _,_=>none)=_;rw[e,zLn ts]
theorem zMS{S:zA0}{m:Nat}{ts:List (yA)}(h:S[m]?=some (dO ts)):zAR [.dct m] S=.ok (.lst S.length) (S++[.lst ((zFp ts).map tD)]):=by
 unfold zAR;dsimp only;rw[h];by_cases hn:ts=[]
 ·subst hn;rfl
 ·have e1:dO ts=.dt (dtOf ts):=by unfold dO;rw[if_neg hn]
  rw[e1];dsimp only;rw[zLn]
noncomputable def hv:Nat->List (yA)
 |0=>[[0]]
 |k+1=>hv k++(hv k).map (·++[(k:Int)+2])
theorem zOP:∀k,(hv k).length=2 ^ k
 |0=>rfl
 |k+1=>by rw[hv,qB3,qA0,zOP k,qR0];omega
theorem zOQ:∀k,∀h∈hv k,(0:Int)∈h/\(1:Int)∉h/\∀x∈h,0<=x/\x<(k:Int)+2
 |0,h,hh=>by simp[hv]at hh;subst hh;exact⟨by simp,by simp,fun x hx=>by simp at hx;omega⟩
 |k+1,h,hh=>by
  rw[hv]at hh;rcases qB2.mp hh with hh|hh
  ·obtain⟨a,b,c⟩:=zOQ k h hh;exact⟨a,b,fun x hx=>by have:=c x hx;omega⟩
  ·obtain⟨g,hg,rfl⟩:=qB6.mp hh;obtain⟨a,b,c⟩:=zOQ k g hg;refine⟨qC7 _ a,fun h1=>?_,fun x hx=>?_⟩
   ·rcases qB2.mp h1 with h1|h1
    ·exact b h1
    ·have:=qA7.mp h1;omega
   ·rcases qB2.mp hx with hx|hx
    ·have:=c x hx;omega
    ·have:=qA7.mp hx;omega
theorem zSf{C:Int->Bool}(hs:Side C):∀k,∃h∈hv k,∀x,0<=x->x<(k:Int)+2->(decide (x∈h)=C x)
 |0=>by
  refine⟨[0],by simp[hv],fun x h0 h1=>?_⟩;have:x=0∨x=1:=by omega
  rcases this with rfl|rfl
  ·simp[hs.z]
  ·simp[hs.o]
 |k+1=>by
  obtain⟨h,hh,hc⟩:=zSf hs k;have hb:=(zOQ k h hh).2.2;cases e:C ((k:Int)+2)with
  |true =>
   refine⟨h++[(k:Int)+2],by rw[hv];exact qC3 _ (qB6.mpr ⟨h,hh,rfl⟩),fun x h0 h1=>?_⟩;by_cases hx:x=(k:Int)+2
   ·subst hx;simp[e]
   ·rw[<- hc x h0 (by omega)];simp[hx]
  |false =>
   refine⟨h,by rw[hv];exact qC7 _ hh,fun x h0 h1=>?_⟩;by_cases hx:x=(k:Int)+2
   ·subst hx;rw[e];exact decide_eq_false fun hm=>by have:=hb _ hm;omega
   ·exact hc x h0 (by omega)
theorem zWj{S:zA0}{k:Nat}{l:yA}(h:zA4 S k=some (l.map D.int))(neg:Bool)(a:Int):oIn neg (.int a) (.lst k) S=.ok (.bl (if neg then !decide (a∈l)else decide (a∈l))) S:=by rw[<- zBv neg a l S];have e:zHM S (.lst k)=some (l.map D.int):=h;unfold oIn;dsimp only;rw[e];rfl
theorem ez{P:Ct->Bool}:∀(l:yN) (s:Nat),(((qP7 s l.length).zip l).filter fun q=>P q.2).map (·.1)=(qP7 s l.length).filter (fun i=>match l[i - s]? with|some c=>P c|none=>false)
 |[],s=>rfl
 |c::l,s=>by
  rw[qD1,List.range'_succ,qK7,qF8,qF8];have t:((qP7 (s+1) l.length).filter fun i=>match (c::l)[i - s]? with|some c=>P c|none=>false)=(qP7 (s+1) l.length).filter fun i=>match l[i - (s+1)]? with|some c=>P c|none=>false:=by apply qI6;intro i hi;have:=(List.mem_range'_1.mp hi).1;rw[show i - s=(i - (s+1))+1 by omega,qD6]
  have ih:=ez (P:=P) l (s+1);simp only[qK3,List.getElem?_cons_zero];cases h:P c with
  |true=>simp only[if_true,qB5];rw[ih,t]
  |false=>simp only[qE6,if_false];rw[ih,t]
theorem zRB(cs:yN)(C:Int->Bool):((zAT cs).filter fun q=>C q.2.a != C q.2.b).map (fun q=>D.int (q.1:Nat))=(cutI cs C).map D.int:=by
 have:=ez (P:=fun c=>C c.a != C c.b) cs 0;rw[<- List.range_eq_range']at this;unfold cutI;rw[qD9];have e:((List.range cs.length).filter (cutB cs C))=((zAT cs).filter fun q=>C q.2.a != C q.2.b).map (·.1):=by unfold zAT;rw[this];rfl
 rw[e,qD9];rfl
structure HBs(cl:Nat->CLL):Prop where
 ch:zFo cl
 wi:zF6 cl
 jb:zDY cl
 ib:zK1 cl
 jo:zFK cl
 pf:zAP cl
 wh:zD6 cl
structure HBr(cl:Nat->CLL):Prop where
 hw:zBf cl
 oo:zGP cl
 ab:zGR cl
 s:HBs cl
theorem zU9(c:CLL){pd:D}{k k2:Nat}{p:Int}{L Z:yM}{S S2:zA0}(l1:zA4 S k=some L)(hl:L.length<lim)(e1:zAd [(k,L)] .one (fun _=>ret true) (zAz c) [none,some (.int p)] L S=.ok Z S)(a1:oAdd (.lst k) (.lst S.length) (S++[.lst Z])=.ok (.lst k2) S2):
  zAk c [some pd,some (.lst k),some (.int p)] S=.nx [some pd,some (.lst k2),some (.int p)] S2:=by simp[zAk,l1,e1,a1,hl]
theorem zU8(c:CLL){pl:Int}{m:Nat}{w1 w2:Option D}{ρ:Env1}{r:D}{S S1:zA0}(h1:-4611686018427387904<=pl)(h2:pl<4611686018427387904)(hm:(pl - 2).toNat=m)(hl:(upD 2 m).length<lim)(e1:zBb [] (gN 2) (zAk c) (upD 2 m) [some (.int pl),some (.lst S.length),w2] (S++[.lst [.tup [.int 0]]])=.nx ρ S1)(hr:ρ[1]?=some (some r)):
  zAs c [some (.int pl),w1,w2] S=.rt r S1:=by simp[zAs,h1,h2,hm,e1,hr,hl]
theorem zKB(h:zBf cl)(n:Nat){pl:Int}(h2:2<=pl)(h7:pl<=7)(S:zA0):LstR (cl (n+1) "halves_with_start" [.int pl] S) S ((hv (pl - 2).toNat).map tD):=by
 have hm5:(pl - 2).toNat<=5:=by omega
 obtain⟨m,hm⟩:∃m,(pl - 2).toNat=m:=⟨_,rfl⟩
 rw[hm]at hm5 ⊢;have l0:zA4 (S++[O.lst [D.tup [.int 0]]]) S.length=some ((hv 0).map tD):=zA2 S _;obtain⟨ρ',S1,e1,k,v2,rfl,x1,le1,l1⟩:=zBQ (w:=[]) (g:=gN 2) (b:=zAk (cl n)) (items:=upD 2 m)
  (fun i ρ S'=>∃k v2,ρ=[some (.int pl),some (.lst k),v2]/\Ex S S'/\S.length<=k/\zA4 S' k=some ((hv i).map tD))
  (ρ:=[some (.int pl),some (.lst S.length),none]) (S:=S++[O.lst [D.tup [.int 0]]]) (fun _ _ _ _=>zAh _) ⟨S.length,none,rfl,zA6 _ _,qB1 _,l0⟩
  (fun i d ρ S' hd hp=>by
   obtain⟨k,v2,rfl,x1,le1,l1⟩:=hp;unfold upD at hd;rw[qC1]at hd;obtain⟨j,hj,rfl⟩:=qA4.mp hd;have hji:j=i/\i<m:=by obtain⟨a,b⟩:=qA2.mp hj;simp at a b;exact⟨b.symm,a⟩
   obtain⟨rfl,him⟩:=hji;have hlen:(hv j).length<=32:=by rw[zOP];exact qD3 (qF5 (by omega) (show j<=5 by omega)) (by decide)
   have e1:zAd [(k,(hv j).map tD)] .one (fun _=>ret true) (zAz (cl n)) [none,some (.int (2+(j:Nat)))] ((hv j).map tD) S'=.ok ((hv j).map fun g=>tD (g++[(j:Int)+2])) S' :=
    zB7 tD (zAQ l1) _ (hv j) fun g hg=>⟨[some (tD g),some (.int (2+(j:Nat)))],rfl,by
     have hgl:g.length<=100:=by
      have:∀k,∀h∈hv k,h.length<=k+1:=by
       intro k
       induction k with
       |zero=>intro h hh;simp[hv]at hh;subst hh;simp
       |succ k ih =>
        intro h hh;rw[hv]at hh;rcases qB2.mp hh with hh|hh
        ·have:=ih h hh;omega
        ·obtain⟨g,hg,rfl⟩:=qB6.mp hh;have:=ih g hg;simp;omega
      have:=this j g hg;omega
     have a:=zKm (l:=g) (x:=(j:Int)+2) hgl S';rw[Int.add_comm (j:Int) 2]at a;have a':oAdd (tD g) (.tup [.int (2+(j:Nat))]) S'=.ok (tD (g++[2+(j:Int)])) S':=a;rw[Int.add_comm (j:Int) 2];simp[zAz,a']⟩
   have a1:=zCX (zAq (T:=[.lst ((hv j).map fun g=>tD (g++[(j:Int)+2]))]) l1) (zA2 S' ((hv j).map fun g=>tD (g++[(j:Int)+2]))) (by rw[qA0,qA0,zAa];omega);refine⟨[some (.int pl),some (.lst k),some (.int (2+(j:Nat)))],S',rfl,_,_,.inl (zU9 _ l1 (by rw[qA0,zAa];omega) e1 a1),_,_,rfl,(x1.trans (zA6 _ _)).trans (zA6 _ _),?_,?_⟩
   ·have:=x1.le;simp;omega
   ·rw[zA2,hv,qE4,qD9];rfl)
 have hu:(upD 2 m).length=m:=by simp[upD]
 rw[hu]at l1;refine⟨k,S1,?_,x1,le1,l1⟩;rw[h];exact zA7 rfl (zU8 _ (by omega) (by omega) hm (by rw[hu,zAa];omega) e1 rfl)
theorem zWh(c:CLL){nd hd:D}{xs Z:yM}{S:zA0}(i1:oIx nd (.int 2) S=.ok (.tup xs) S)(hl:(zD0 xs).length<lim)(e1:zAd [] (.many 2) (zEj c) (zEk c) [none,none,some hd] (zD0 xs) S=.ok Z S):zEz c [some nd,some hd] S=.rt (.tup Z) (S++[.lst Z]):=by have f:=zCb (zA2 S Z);simp[zEz,i1,hl,e1,f]
theorem zKP{N:Net}(S:zA0):oIx N.d (.int 2) S=.ok (.tup (N.cs.map Ct.d)) S:=by unfold Net.d;simp
theorem zKg(h:zGP cl)(n:Nat){N:Net}(hc:N.cs.length<=16)(g:yA)(S:zA0):Spc (cl (n+1) "out_of" [N.d,tD g] S) (tD (cutI N.cs fun x=>decide (x∈g))) S:=by
 have e1:zAd [] (.many 2) (zEj (cl n)) (zEk (cl n)) [none,none,some (tD g)] ((zAT N.cs).map fun q=>.tup [.int (q.1:Nat),q.2.d]) S=.ok (((zAT N.cs).filter fun q=>decide (q.2.a∈g) != decide (q.2.b∈g)).map fun q=>D.int (q.1:Nat)) S:=by
  refine zBz (fun q:Nat×Ct=>.tup [.int (q.1:Nat),q.2.d]) (zAh S) _ _ _ fun q hq=>⟨_,rfl,?_,fun _=>?_⟩
  ·have o1:oIn false (.int q.2.a) (tD g) S=.ok (.bl (decide (q.2.a∈g))) S:=zBv false q.2.a g S;have o2:oIn false (.int q.2.b) (tD g) S=.ok (.bl (decide (q.2.b∈g))) S:=zBv false q.2.b g S;simp[zEj,zB9,Ct.d,o1,o2]
  ·simp[zEk,zB9]
 rw[zRB N.cs fun x=>decide (x∈g)]at e1;refine⟨S++[.lst ((cutI N.cs fun x=>decide (x∈g)).map D.int)],?_,zA6 S _⟩;rw[h];exact zA7 rfl (zWh _ (zKP S) (by rw[zC0,qA0,zDB,zAa];omega) (by rw[zC0];exact e1))
theorem zTW(c:CLL){nd sd r:D}{xs Z:yM}{S S1:zA0}(i1:oIx nd (.int 2) S=.ok (.tup xs) S)(hl:(zD0 xs).length<lim)(e1:zAd [] (.many 2) (zBR c) (zBS c) [none,none,some sd] (zD0 xs) S=.ok Z S)(e2:c "joins" [.lst S.length] (S++[.lst Z])=.ok r S1):zBD c [some nd,some sd] S=.rt r S1:=by simp[zBD,i1,hl,e1,e2]
theorem zGI(H:HBs cl)(n:Nat){N:Net}(ok:N.g){sd:D}{l:yA}{S:zA0}(hin:∀x:Int,oIn true (.int x) sd S=.ok (.bl (!decide (x∈l))) S):Spc (cl (n+3) "join_beside" [N.d,sd] S) (.bl (jB (ends (zAI N.cs l)))) S:=by
 have hc:N.cs.length<=16:=by have:=ok.c1;omega
 have e1:zAd [] (.many 2) (zBR (cl (n+2))) (zBS (cl (n+2))) [none,none,some sd] ((zAT N.cs).map fun q=>.tup [.int (q.1:Nat),q.2.d]) S=.ok (((zAT N.cs).filter fun q=>!decide ((q.1:Int)∈l)).map fun q=>q.2.d) S:=by
  refine zBz (fun q:Nat×Ct=>.tup [.int (q.1:Nat),q.2.d]) (zAh S) _ _ _ fun q hq=>⟨_,rfl,?_,fun _=>?_⟩
  ·have:=hin (q.1:Nat);simp[zBR,zB9,this]
  ·simp[zBS,zB9]
 have eZ:((zAT N.cs).filter fun q=>!decide ((q.1:Int)∈l)).map (fun q=>q.2.d)=(zAI N.cs l).map Ct.d:=by unfold zAI;rw[qD9];congr 1;apply qI6;intro q _;simp
 rw[eZ]at e1;have hb:(zAI N.cs l).length<=100:=by unfold zAI;rw[qA0];refine qD3 (qE0 ..) ?_;rw[zDB];omega
 have h7:In7 (zAI N.cs l):=fun c hc'=>by obtain⟨i,hi,_⟩:=zES.mp hc';exact ok.in7 (by decide) c (qB4 hi)
 obtain⟨S2,e2,x2⟩:=zEX H.jo H.pf n (zAI N.cs l) hb h7 (zA2 S ((zAI N.cs l).map Ct.d));refine⟨S2,?_,(zA6 S _).trans x2⟩;rw[show n+3=(n+2)+1 from rfl,H.jb];exact zA7 rfl (zTW _ (zKP S) (by rw[zC0,qA0,zDB,zAa];omega) (by rw[zC0];exact e1) e2)
theorem zFb(h:zF6 cl)(n:Nat){t:yA}(ht:t.length<=100)(e:Int)(S:zA0):cl (n+1) "without" [tD t,.int e] S=.ok (.lst S.length) (S++[.lst ((t.filter fun x=>decide (x≠e)).map D.int)]):=by
 have e1:zAd [] .one (zEG (cl n)) (zEH (cl n)) [none,some (.int e)] (t.map D.int) S=.ok ((t.filter fun x=>decide (x≠e)).map D.int) S:=by
  refine zBz D.int (zAh S) _ _ _ fun x hx=>⟨_,rfl,?_,fun _=>?_⟩
  ·simp[zEG,zB9]
  ·simp[zEH,zB9]
 rw[h];refine zA7 rfl ?_;have hl:(t.map D.int).length<lim:=by rw[qA0,zAa];omega
 have hl':t.length<lim:=by rw[zAa];omega
 simp[zEx,zAe,tD,e1,hl,hl']
noncomputable def lB(cs:yN)(t:yA):Bool:=@decide (zGO cs t) (Classical.propDecidable _)
theorem zLL{cs:yN}{t:yA}:lB cs t=true↔zGO cs t:=@decide_eq_true_iff _ (Classical.propDecidable _)
theorem zJL{α:Type}(f:α->Bool):∀l:List α,zDC (l.map fun d=>D.bl (f d))=some (l.map f)
 |[]=>rfl
 |a::l=>by rw[qB5];show(zDC (l.map fun d=>D.bl (f d))).map _=_;rw[zJL f l];rfl
theorem zBy{α:Type}{S:zA0}{n:Nat}(g:List Bool->Bool)(f:α->Bool)(l:List α)(h:zA4 S n=some (l.map fun d=>D.bl (f d))):zAm g [.lst n] S=.ok (.bl (g (l.map f))) S:=by unfold zAm;dsimp only;rw[h];show(match zDC (l.map fun d=>D.bl (f d))with|some bs=>R.ok (D.bl (g bs)) S|none=>.bad)=_;rw[zJL]
theorem zIg{cs:yN}{C:Int->Bool}:(cutI cs C).length<=cs.length:=by unfold cutI;rw[qA0];exact qD3 (qE0 ..) (by simp)
theorem zPl{cs:yN}{C:Int->Bool}:(((List.range cs.length).map fun(i:Nat)=>(i:Int)).filter fun x=>decide (x∈cutI cs C))=cutI cs C:=by
 conv=>rhs;unfold cutI
 rw[qS9];congr 1;apply qI6;intro i hi;apply zAg;simp only[Function.comp,decide_eq_true_eq];unfold cutI;constructor
 ·intro h;obtain⟨j,hj,e⟩:=qB6.mp h;have:i=j:=by omega
  subst this;exact(qC6.mp hj).2
 ·intro h;exact qB6.mpr ⟨i,qC6.mpr ⟨hi,h⟩,rfl⟩
theorem zWK(c:CLL){nd:D}{ts xs Z bs:yM}{m:Nat}{z:Int}{S S1 S2 S3:zA0}(l0:ts.length<lim)(e1:zAd [] .one (fun _=>ret true) (zAw c) [none] ts S=.ok bs S)(h1:S++[.lst bs]=S1)(f1:zAm (fun bs=>bs.all id) [.lst S.length] S1=.ok (.bl true) S1)
  (h2:S1++[.lst ts]=S2) (i1:∀S,oIx nd (.int 2) S=.ok (.tup xs) S) (fl:∀S,fLen [.tup xs] S=.ok (.int z) S) (hz:z.toNat=m) (m0:-4611686018427387904<=z) (m1:z<4611686018427387904) (hl:(upD 0 m).length<lim)
  (e2:zAd [] .one (zAE c) (zAF c) [none,some (.tup ts)] (upD 0 m) S2=.ok Z S2) (h3:S2++[.lst Z]=S3) (q:oEq (.lst S1.length) (.lst S2.length) S3=.ok (.bl true) S3) :
  zAr c [some nd,some (.tup ts)] S=.rt (.bl true) S3:=by simp[zAr,l0,e1,h1,f1,h2,i1,fl,hz,m0,m1,hl,e2,h3,q]
theorem zKZ(H:HBs cl)(n:Nat){N:Net}(hc:N.cs.length<=16)(C:Int->Bool)(S:zA0):Spc (cl (n+2) "is_choice" [N.d,tD (cutI N.cs C)] S) (.bl true) S:=by
 have hl:=zIg (cs:=N.cs) (C:=C);obtain⟨t,ht⟩:∃t,cutI N.cs C=t:=⟨_,rfl⟩
 have hag:=zPl (cs:=N.cs) (C:=C);rw[ht]at hl hag ⊢;have e1:zAd [] .one (fun _=>ret true) (zAw (cl (n+1))) [none] (t.map D.int) S=.ok (t.map fun _=>D.bl true) S:=by
  refine zB7 D.int (zAh S) _ t fun x hx=>⟨_,rfl,?_⟩
  have:=zI6 H.wh n (d:=.int x) rfl S;simp[zAw,zB9,this,zHt]
 have f1:=zBy (S:=S++[.lst (t.map fun _=>D.bl true)]) (n:=S.length) (fun bs=>bs.all id) (fun _:Int=>true) t (zA2 S _);rw[show(t.map fun _=>true).all id=true by simp]at f1;have e2:∀S:zA0,zAd [] .one (zAE (cl (n+1))) (zAF (cl (n+1))) [none,some (.tup (t.map D.int))] (upD 0 N.cs.length) S=.ok (t.map D.int) S:=fun S=>by
  have eu:upD 0 N.cs.length=((List.range N.cs.length).map fun(i:Nat)=>(i:Int)).map D.int:=by unfold upD;rw[qD9];apply qG0;intro k _;simp
  have e:zAd [] .one (zAE (cl (n+1))) (zAF (cl (n+1))) [none,some (.tup (t.map D.int))] (((List.range N.cs.length).map fun(i:Nat)=>(i:Int)).map D.int) S=.ok ((((List.range N.cs.length).map fun(i:Nat)=>(i:Int)).filter fun x=>decide (x∈t)).map D.int) S:=by
   refine zBz D.int (zAh S) _ _ _ fun x hx=>⟨_,rfl,?_,fun _=>?_⟩
   ·have:=zBv false x t S;simp[zAE,zB9,this]
   ·simp[zAF,zB9]
  rw[eu,e,hag]
 obtain⟨S1,h1⟩:∃S1,S++[O.lst (t.map fun _=>D.bl true)]=S1:=⟨_,rfl⟩
 obtain⟨S2,h2⟩:∃S2,S1++[O.lst (t.map D.int)]=S2:=⟨_,rfl⟩
 obtain⟨S3,h3⟩:∃S3,S2++[O.lst (t.map D.int)]=S3:=⟨_,rfl⟩
 have la:zA4 S2 S1.length=some (t.map D.int):=by rw[<- h2];exact zA2 _ _
 have la3:zA4 S3 S1.length=some (t.map D.int):=by rw[<- h3];exact zAq la
 have lb3:zA4 S3 S2.length=some (t.map D.int):=by rw[<- h3];exact zA2 _ _
 have q:=zKl la3 lb3 (qD8.mpr (zBp (by omega) t)) (qD8.mpr (zBp (by omega) t));rw[show eqB (t.map D.int) (t.map D.int)=true from zDA.mpr rfl]at q;rw[h1]at f1;have lt16:t.length<lim:=by rw[zAa];omega
 have x:Ex S S3:=by rw[<- h3,<- h2,<- h1];exact((zA6 S _).trans (zA6 _ _)).trans (zA6 _ _)
 refine⟨S3,?_,x⟩;rw[show n+2=(n+1)+1 from rfl,H.ch];obtain⟨z,hz⟩:∃z:Int,(N.cs.length:Int)=z:=⟨_,rfl⟩
 exact zA7 rfl (zWK (ts:=t.map D.int) (Z:=t.map D.int) (xs:=N.cs.map Ct.d) (m:=N.cs.length) (z:=z) _ (by rw[qA0];exact lt16) e1 h1 f1 h2 (fun S=>zKP S) (fun S=>by rw[<- hz];show R.ok (D.int ((N.cs.map Ct.d).length:Nat)) S=_;rw[qA0]) (by omega) (by omega) (by omega) (by rw[show(upD 0 N.cs.length).length=N.cs.length by simp[upD],zAa];omega) (e2 _) h3 q)
theorem zWN(c:CLL){nd:D}{ts Z:yM}{b:Bool}{S S1 S2 S3:zA0}(e1:c "is_choice" [nd,.tup ts] S=.ok (.bl true) S1)(e2:c "join_beside" [nd,.tup ts] S1=.ok (.bl false) S2)(hl:ts.length<lim)(e3:zAd [] .one (fun _=>ret true) (zDv c) [none,some nd,some (.tup ts)] ts S2=.ok Z S3)
  (f1:zAm (fun bs=>bs.all id) [.lst S3.length] (S3++[.lst Z])=.ok (.bl b) (S3++[.lst Z])):zD3 c [some nd,some (.tup ts)] S=.rt (.bl b) (S3++[.lst Z]):=by simp[zD3,e1,e2,hl,e3,f1]
theorem zU7(c:CLL){nd td r:D}{e:Int}{k:Nat}{S S1 S2:zA0}(w:c "without" [td,.int e] S=.ok (.lst k) S1)(e4:c "join_beside" [nd,.lst k] S1=.ok r S2):zDv c [some (.int e),some nd,some td] S=.ok r S2:=by simp[zDv,w,e4]
theorem zHs(H:HBs cl)(n:Nat){N:Net}(ok:N.g){C:Int->Bool}(hs:Side C)(S:zA0):Spc (cl (n+4) "is_bar" [N.d,tD (cutI N.cs C)] S) (.bl (lB N.cs (cutI N.cs C))) S:=by
 have hc:N.cs.length<=16:=by have:=ok.c1;omega
 have hl:=zIg (cs:=N.cs) (C:=C);obtain⟨S1,e1,x1⟩:=zKZ H (n+1) hc C S;obtain⟨S2,e2,x2⟩:=zGI H n ok (sd:=tD (cutI N.cs C)) (l:=cutI N.cs C) (S:=S1) fun x=>zBv true x _ S1;have j0:jB (ends (zAI N.cs (cutI N.cs C)))=false:=by
  cases q:jB (ends (zAI N.cs (cutI N.cs C)))with
  |false=>rfl
  |true=>exact absurd (zHr.mp q) (zEN.mpr ⟨C,hs,fun x hx=>hx⟩)
 rw[j0]at e2;have li:=zOx (cs:=N.cs) hs;obtain⟨t,ht⟩:∃t,cutI N.cs C=t:=⟨_,rfl⟩
 rw[ht]at e1 e2 hl li ⊢;obtain⟨S3,e3,x3⟩:=zCO D.int (w:=[]) (t:=.one) (c:=zDv (cl (n+3))) (ρ0:=[none,some N.d,some (.tup (t.map D.int))]) (fun S'=>Ex S2 S') (fun _ _=>zAh _)
  (fun e=>D.bl (jB (ends (zAI N.cs (t.filter fun x=>decide (x≠e)))))) t (S:=S2) (Kp.refl _ _) (fun e he S' hx=>by
   refine⟨[some (.int e),some N.d,some (.tup (t.map D.int))],rfl,?_⟩;have w:=zFb H.wi (n+2) (t:=t) (by omega) e S';obtain⟨S4,e4,x4⟩:=zGI H n ok (sd:=.lst S'.length) (l:=t.filter fun x=>decide (x≠e)) (S:=S'++[.lst ((t.filter fun x=>decide (x≠e)).map D.int)]) fun x=>zWj (zA2 S' _) true x;refine⟨S4,?_,(hx.trans (zA6 _ _)).trans x4⟩;exact zU7 _ w e4)
 have f1:=zBy (S:=S3++[.lst (t.map fun e=>D.bl (jB (ends (zAI N.cs (t.filter fun x=>decide (x≠e))))))]) (n:=S3.length) (fun bs=>bs.all id) (fun e:Int=>jB (ends (zAI N.cs (t.filter fun x=>decide (x≠e))))) t (zA2 S3 _);have eb:(t.map fun e:Int=>jB (ends (zAI N.cs (t.filter fun x=>decide (x≠e))))).all id=lB N.cs t:=by apply zAg;rw[zLL,<- li];simp only[qJ4,qD8,Function.comp,id,zHr]
 rw[eb]at f1;refine⟨S3++[.lst (t.map fun e=>D.bl (jB (ends (zAI N.cs (t.filter fun x=>decide (x≠e))))))],?_,((x1.trans x2).trans x3).trans (zA6 _ _)⟩;rw[show n+4=(n+3)+1 from rfl,H.ib];exact zA7 rfl (zWN _ e1 e2 (by rw[qA0,zAa];omega) e3 f1)
theorem zZN(c:CLL){nd hd td:D}{m:Nat}{w:Option D}{S S1 S2:zA0}(e1:c "out_of" [nd,hd] S=.ok td S1)(e2:c "is_bar" [nd,td] S1=.ok (.bl false) S2):zBn c [some nd,some (.dct m),some hd,w] S=.nx [some nd,some (.dct m),some hd,some td] S2:=by simp[zBn,e1,e2]
theorem zXu(c:CLL){nd hd td:D}{m:Nat}{w:Option D}{S S1 S2 S3:zA0}(e1:c "out_of" [nd,hd] S=.ok td S1)(e2:c "is_bar" [nd,td] S1=.ok (.bl true) S2)(s1:oSet (.dct m) td (.bl true) S2=some S3):zBn c [some nd,some (.dct m),some hd,w] S=.nx [some nd,some (.dct m),some hd,some td] S3:=by simp[zBn,e1,e2,s1]
theorem zUy(c:CLL){nd r:D}{pl:Int}{k:Nat}{L:yM}{v2 v3 w1 w2 w3:Option D}{S S1 S2 S3:zA0}(i1:∀S,oIx nd (.int 1) S=.ok (.int pl) S)(e1:c "halves_with_start" [.int pl] (S++[.dk []])=.ok (.lst k) S1)(l1:zA4 S1 k=some L)(hl:L.length<lim)
  (e2:zBb [(k,L)] (gN 2) (zBn c) L [some nd,some (.dct S.length),w2,w3] S1=.nx [some nd,some (.dct S.length),v2,v3] S2) (f1:zAR [.dct S.length] S2=.ok r S3):zCU c [some nd,w1,w2,w3] S=.rt r S3:=by simp[zCU,i1,e1,l1,hl,e2,f1]
theorem zB8(H:HBr cl)(n:Nat){N:Net}(ok:N.g)(S:zA0):∃L,zBF N.cs L/\L.length<=32/\LstR (cl (n+5) "all_bars" [N.d] S) S (L.map tD):=by
 have hc:N.cs.length<=16:=by have:=ok.c1;omega
 have p1:=ok.p1;have p2:=ok.p2;obtain⟨m,hm⟩:∃m,(N.pl - 2).toNat=m:=⟨_,rfl⟩
 obtain⟨k,S1,e1,x1,le1,l1⟩:=zKB H.hw (n+3) p1 p2 (S++[.dk []]);rw[hm]at l1;have hlen:(hv m).length<=32:=by rw[zOP];exact qD3 (qF5 (by omega) (show m<=5 by omega)) (by decide)
 have kne:k≠S.length:=by simp at le1;omega
 have d1:S1[S.length]?=some (dO []):=x1.at (by rw[qA1 (qB1 _)];simp[dO]) fun z=>z;obtain⟨ρ',S2,e2,v2,v3,ts,rfl,kp,d2,nd2,ln2,mem2⟩:=zBQ (w:=[(k,(hv m).map tD)]) (g:=gN 2) (b:=zBn (cl (n+4))) (items:=(hv m).map tD)
  (fun i ρ S'=>∃v2 v3 ts,ρ=[some N.d,some (.dct S.length),v2,v3]/\Kp (·=S.length) S1 S'/\S'[S.length]?=some (dO ts)/\ts.Nodup/\ts.length<=i/\∀t,t∈ts↔∃g∈(hv m).take i,t=cutI N.cs (fun x=>decide (x∈g))/\zGO N.cs t)
  (ρ:=[some N.d,some (.dct S.length),none,none]) (S:=S1) (fun i ρ S' hp=>by obtain⟨_,_,_,_,kp,_⟩:=hp;exact zAQ (kp.lst l1 kne)) ⟨none,none,[],rfl,Kp.refl _ _,d1,qP4,qB1 _,fun t=>by simp⟩
  (fun i d ρ S' hd hp=>by
   obtain⟨v2,v3,ts,rfl,kp,dd,nd,ln,mem⟩:=hp;rw[qC1]at hd;obtain⟨g,hg,rfl⟩:=qA4.mp hd;have gi:=zOQ m g (qB4 hg);have him:i<32:=by have:=(qA2.mp hg).1;omega
   have hs:Side fun x=>decide (x∈g):=⟨decide_eq_true gi.1,decide_eq_false gi.2.1⟩
   obtain⟨S3,e3,x3⟩:=zKg H.oo (n+3) hc g S';obtain⟨S4,e4,x4⟩:=zHs H.s n ok hs S3;have tk:(hv m).take (i+1)=(hv m).take i++[g]:=by rw[qR1,hg];rfl
   have d4:S4[S.length]?=some (dO ts):=x4.at (x3.at dd fun z=>z) fun z=>z;refine⟨[some N.d,some (.dct S.length),some (tD g),v3],S',rfl,?_⟩;rw[tk];cases hb:lB N.cs (cutI N.cs fun x=>decide (x∈g))with
   |false =>
    rw[hb]at e4;have nl:¬zGO N.cs (cutI N.cs fun x=>decide (x∈g)):=fun h=>by rw[zLL.mpr h]at hb;cases hb
    refine⟨_,S4,.inl (zZN _ e3 e4),_,_,ts,rfl,kp.trans (x3.trans x4).kp,d4,nd,by omega,fun t=>?_⟩;rw[mem];constructor
    ·rintro⟨h,hh,q⟩;exact⟨h,qC7 _ hh,q⟩
    ·rintro⟨h,hh,q1,q2⟩;rcases qB2.mp hh with hh|hh
     ·exact⟨h,hh,q1,q2⟩
     ·rw[qA7.mp hh]at q1;rw[q1]at q2;exact absurd q2 nl
   |true =>
    rw[hb]at e4;have hL:=zLL.mp hb;have s1:=zTG d4 (by rw[zAa];omega) (cutI N.cs fun x=>decide (x∈g));have hlt:S.length<S4.length:=(qA2.mp d4).1;refine⟨_,_,.inl (zXu _ e3 e4 s1),_,_,addT ts (cutI N.cs fun x=>decide (x∈g)),rfl,(kp.trans (x3.trans x4).kp).trans (zFh _ _),qE2 hlt,zUx nd,by have:=zRS ts (cutI N.cs fun x=>decide (x∈g));omega,fun t=>?_⟩;rw[zLI,mem];constructor
    ·rintro(⟨h,hh,q⟩| rfl)
     ·exact⟨h,qC7 _ hh,q⟩
     ·exact⟨g,qC3 _ (qD7 _),rfl,hL⟩
    ·rintro⟨h,hh,q1,q2⟩;rcases qB2.mp hh with hh|hh
     ·exact .inl ⟨h,hh,q1,q2⟩
     ·rw[qA7.mp hh]at q1;exact .inr q1)
 rw[qA0]at ln2 mem2;rw[qK0]at mem2;have f1:=zMS d2;have tp:=zB3 ts;refine⟨zFp ts,⟨tp.symm.nodup nd2,zBV ts,fun t=>?_⟩,by rw[tp.length_eq];omega,S2.length,S2++[.lst ((zFp ts).map tD)],?_,?_,?_,zA2 _ _⟩
 ·rw[tp.mem_iff,mem2];constructor
  ·rintro⟨g,hg,q1,q2⟩;have gi:=zOQ m g hg;exact⟨_,⟨decide_eq_true gi.1,decide_eq_false gi.2.1⟩,q1,q2⟩
  ·rintro⟨C,hs,q1,q2⟩;obtain⟨g,hg,hgc⟩:=zSf hs m;refine⟨g,hg,?_,q2⟩;rw[q1];refine zRy fun c hcm=>?_;obtain⟨a0,ab,bp,_⟩:=ok.c2 c hcm;exact⟨(hgc c.a a0 (by omega)).symm,(hgc c.b (by omega) (by omega)).symm⟩
 ·rw[show n+5=(n+4)+1 from rfl,H.ab];exact zA7 rfl (zUy (pl:=N.pl) _ (fun S=>by unfold Net.d;simp) e1 l1 (by rw[qA0,zAa];omega) e2 f1)
 ·refine Kp.trans ⟨?_,fun j hj _=>?_⟩ (zA6 _ _)
  ·have:=kp.le;have:=x1.le;simp at this;omega
  ·rw[kp.eq j (by have:=x1.le;simp at this;omega) (by omega),x1.eq j (by simp;omega) (fun z=>z),qA8 hj]
 ·have:=kp.le;have:=x1.le;simp at this;omega
theorem zS9{α:Type}(f:α->Nat):∀l:List α,l≠[]->∃v∈l,∀u∈l,f u<=f v
 |[],h=>absurd rfl h
 |[a],_=>⟨a,qD7 _,fun u hu=>by rw[qA7.mp hu];exact qB1 _⟩
 |a::b::l,_=>by
  obtain⟨v,hv,h⟩:=zS9 f (b::l) (by simp);by_cases hc:f a<=f v
  ·exact⟨v,qB9 _ hv,fun u hu=>by
    rcases qC0.mp hu with rfl|hu
    ·exact hc
    ·exact h u hu⟩
  ·exact⟨a,qD0 ..,fun u hu=>by
    rcases qC0.mp hu with rfl|hu
    ·exact qB1 _
    ·have:=h u hu;omega⟩
theorem zPm:∀d:Nat,d ^ 3<=3 ^ d
 |0=>by decide
 |1=>by decide
 |2=>by decide
 |3=>by decide
 |d+4=>by
  have ih:=zPm (d+3);rw[qR0 3 (d+3)];have:(d+4) ^ 3<=(d+3) ^ 3*3:=by
   have h1:(3*(d+4)) ^ 3<=(4*(d+3)) ^ 3:=qN1 (by omega) 3;rw[qS4,qS4]at h1;have e1:(3:Nat) ^ 3=27:=by decide
   have e2:(4:Nat) ^ 3=64:=by decide
   rw[e1,e2]at h1;omega
  omega
theorem zP2{cs:yN}{b:Nat}:∀l:List Wk,(∀v∈l,(Vs cs v).length<=b)->(l.flatMap (Vs cs)).length<=l.length*b
 |[],_=>by simp
 |v::l,h=>by have:=zP2 l fun u hu=>h u (qB9 _ hu);have:=h v (qD0 ..);rw[qL8,qB3,qD1,qS2,qS3];omega
theorem zPX{cs:yN}(h7:In7 cs):∀(f:Nat) (w:Wk),WOk cs w->9 - w.1.length<=f->(Vs cs w).length ^ 3<=3 ^ live cs w
 |0,w,h,hf=>by have:=h.le;omega
 |f+1,w,h,hf=>by
  rw[zIx h7 h];split
  ·simp only[qP0,Nat.one_pow];exact Nat.one_le_pow _ _ (by decide)
  ·by_cases hk:kids cs w=[]
   ·rw[hk];simp
   ·obtain⟨v,hv,hmax⟩:=zS9 (fun v=>(Vs cs v).length) (kids cs w) hk;obtain⟨vo,vl⟩:=zBM h7 h v hv;have ih:=zPX h7 f v vo (by omega);have kl:=zGc h v hv;have h1:=zP2 (cs:=cs) (b:=(Vs cs v).length) (kids cs w) hmax
    calc ((kids cs w).flatMap (Vs cs)).length ^ 3<=((kids cs w).length*(Vs cs v).length) ^ 3:=qN1 h1 3
     _=(kids cs w).length ^ 3*(Vs cs v).length ^ 3:=qS4 ..
     _<=3 ^ (kids cs w).length*3 ^ live cs v:=Nat.mul_le_mul (zPm _) ih
     _=3 ^ ((kids cs w).length+live cs v):=(Nat.pow_add ..).symm
     _<=3 ^ live cs w:=qF5 (by decide) kl
theorem zEa{N:Net}(ok:N.g):(zAc N).length<=400:=by
 have hc:N.cs.length<=16:=by have:=ok.c1;omega
 have h:=zPX (ok.in7 (by decide)) 9 w0 (zM9 N.cs) (by omega);have hl:live N.cs w0<=16:=qD3 (qE0 ..) hc;have h2:3 ^ live N.cs w0<=3 ^ 16:=qF5 (by decide) hl;unfold zAc;rw[(zB3 _).length_eq];apply Classical.byContradiction;intro hn;have:401 ^ 3<=(Vs N.cs w0).length ^ 3:=qN1 (by omega) 3;have e1:(401:Nat) ^ 3=64481201:=by decide
 have e2:(3:Nat) ^ 16=43046721:=by decide
 omega
def Few(t:yA):Prop:=t.length<=16/\∀x∈t,0<=x/\x<100
theorem zXx{cs:yN}(h7:In7 cs)(hc:cs.length<=16):∀(f:Nat) (w:Wk),WOk cs w->(∀x∈w.2,0<=x/\x<100)->9 - w.1.length<=f->∀t∈Vs cs w,Few t
 |0,w,h,_,hf=>by have:=h.le;omega
 |f+1,w,h,hn,hf=>by
  intro t ht;rw[zIx h7 h]at ht;split at ht
  ·rw[qA7.mp ht];have p:=zAO w.2;refine⟨by rw[p.length_eq];have:=h.ln;have:=h.le;omega,fun x hx=>hn x (p.mem_iff.mp hx)⟩
  ·obtain⟨v,hv,ht⟩:=qO3.mp ht;obtain⟨vo,vl⟩:=zBM h7 h v hv;refine zXx h7 hc f v vo (fun x hx=>?_) (by omega) t ht;obtain⟨q,hq,e⟩:=qE5.mp hv;obtain⟨u,_,_,rfl⟩:=zCz (cs:=cs) e;rcases qB2.mp hx with hx|hx
   ·exact hn x hx
   ·rw[qA7.mp hx];have:=(qA2.mp (zBZ hq)).1;omega
theorem zE9{N:Net}(ok:N.g):∀t∈zAc N,Few t:=fun t ht=>by
 have hc:N.cs.length<=16:=by have:=ok.c1;omega
 exact zXx (ok.in7 (by decide)) hc 9 w0 (zM9 _) (fun x hx=>by simp[w0]at hx) (by omega) t ((zB3 _).mem_iff.mp ht)
theorem zBF.few{N:Net}(ok:N.g){L:List (yA)}(h:zBF N.cs L):∀t∈L,Few t:=fun t ht=>by
 have hc:N.cs.length<=16:=by have:=ok.c1;omega
 obtain⟨C,_,rfl,_⟩:=(h.mem t).mp ht;refine⟨qD3 zIg hc,fun x hx=>?_⟩;obtain⟨i,c,hi,_,rfl⟩:=zCC.mp hx;have:=(qA2.mp hi).1;omega
theorem zXw{cs:yN}(h7:In7 cs):∀(f:Nat) (w:Wk),WOk cs w->(∀x∈w.2,0<=x/\x<(cs.length:Int))->9 - w.1.length<=f->∀t∈Vs cs w,∀x∈t,0<=x/\x<(cs.length:Int)
 |0,w,h,_,hf=>by have:=h.le;omega
 |f+1,w,h,hn,hf=>by
  intro t ht;rw[zIx h7 h]at ht;split at ht
  ·rw[qA7.mp ht];exact fun x hx=>hn x ((zAO w.2).mem_iff.mp hx)
  ·obtain⟨v,hv,ht⟩:=qO3.mp ht;obtain⟨vo,vl⟩:=zBM h7 h v hv;refine zXw h7 f v vo (fun x hx=>?_) (by omega) t ht;obtain⟨q,hq,e⟩:=qE5.mp hv;obtain⟨u,_,_,rfl⟩:=zCz (cs:=cs) e;rcases qB2.mp hx with hx|hx
   ·exact hn x hx
   ·rw[qA7.mp hx];have:=(qA2.mp (zBZ hq)).1;omega
def Ixs(cs:yN)(t:yA):Prop:=t.length<=16/\∀x∈t,0<=x/\x<(cs.length:Int)
theorem zSz{N:Net}(ok:N.g):∀t∈zAc N,Ixs N.cs t:=fun t ht =>
 ⟨(zE9 ok t ht).1,zXw (ok.in7 (by decide)) 9 w0 (zM9 _) (fun x hx=>by simp[w0]at hx) (by omega) t ((zB3 _).mem_iff.mp ht)⟩
theorem zBF.ix{N:Net}(ok:N.g){L:List (yA)}(h:zBF N.cs L):∀t∈L,Ixs N.cs t:=fun t ht=>by refine⟨(h.few ok t ht).1,fun x hx=>?_⟩;obtain⟨C,_,rfl,_⟩:=(h.mem t).mp ht;obtain⟨i,c,hi,_,rfl⟩:=zCC.mp hx;have:=(qA2.mp hi).1;omega
noncomputable def ctAt(cs:yN)(x:Int):Ct:=cs.getD x.toNat ⟨0,0,0,0⟩
theorem zRD{cs:yN}{x:Int}(h:0<=x/\x<(cs.length:Int)):cs[x.toNat]?=some (ctAt cs x):=by unfold ctAt;rw[qF6,qA5 (by omega)];rfl
noncomputable def pk(l:List (Int×Int)):List (Key×D):=l.map fun p=>((Sum.inl p.1:Key),D.int p.2)
theorem zS3(l:List (Int×Int))(k:Int):valD (pk l) (.inl k)=(l.lookup k).map D.int:=by
 induction l with
 |nil=>rfl
 |cons p l ih =>
  unfold valD pk at ih ⊢;rw[qB5,qE9,qD2];by_cases h:p.1=k
  ·subst h;simp
  ·have h1:(k == p.1)=false:=by simpa using fun e:k=p.1=>h e.symm
   have h2:decide ((Sum.inl p.1:Key)=Sum.inl k)=false:=decide_eq_false fun e=>h (Sum.inl.inj e);rw[h2,h1];exact ih
theorem zVF{l:List (Int×Int)}{k o:Int}(h:l.lookup k=none):putD (pk l) (.inl k) (.int o)=pk (l++[(k,o)]):=by
 unfold putD;have:((pk l).any fun kv=>decide (kv.1=(Sum.inl k:Key)))=false:=by rw[List.any_eq_false];intro kv hkv;unfold pk at hkv;obtain⟨p,hp,rfl⟩:=qB6.mp hkv;simp only[decide_eq_true_eq];intro e;have e':p.1=k:=Sum.inl.inj e;have:=List.lookup_eq_none_iff.mp h p hp;simp[e']at this
 rw[if_neg (by rw[this];simp)];unfold pk;simp
noncomputable def zDs(l:List (Int×Int)):yN->Bool
 |[]=>true
 |c::cs=>match l.lookup c.k with
  |some o=>if o=c.o then zDs l cs else false
  |none=>zDs (l++[(c.k,c.o)]) cs
def Cons(cs:yN):Prop:=∀c∈cs,∀c'∈cs,c.k=c'.k->c.o=c'.o
theorem zEU(l:List (Int×Int))(k o k':Int):(l++[(k,o)]).lookup k'=match l.lookup k' with|some x=>some x|none=>if k'=k then some o else none:=by
 induction l with
 |nil =>
  simp only[List.nil_append,qD2,List.lookup_nil];by_cases h:k'=k
  ·simp[h]
  ·have:(k' == k)=false:=by simpa using h
   rw[this];simp[h]
 |cons p l ih =>
  rw[qH0,qD2,qD2];cases h:(k' == p.1)with
  |true=>rfl
  |false=>simpa using ih
theorem zEV:∀(cs:yN) (l:List (Int×Int)),zDs l cs=true↔(∀c∈cs,∀o,l.lookup c.k=some o->o=c.o)/\Cons cs
 |[],l=>by simp[zDs,Cons]
 |c::cs,l=>by
  unfold zDs;split
  ·rename_i o e;by_cases h:o=c.o
   ·rw[if_pos h,zEV cs l];constructor
    ·rintro⟨h1,h2⟩;refine⟨fun c' hc' o' e'=>?_,fun a ha b hb hab=>?_⟩
     ·rcases qC0.mp hc' with rfl|hc'
      ·rw[e]at e';cases e';exact h
      ·exact h1 c' hc' o' e'
     ·rcases qC0.mp ha with ea|ha'<;>rcases qC0.mp hb with eb|hb'
      ·rw[ea,eb]
      ·rw[ea,<- h];exact h1 b hb' o (by rw[<- hab,ea];exact e)
      ·rw[eb,<- h];exact(h1 a ha' o (by rw[hab,eb];exact e)).symm
      ·exact h2 a ha' b hb' hab
    ·rintro⟨h1,h2⟩;exact⟨fun c' hc'=>h1 c' (qB9 _ hc'),fun a ha b hb=>h2 a (qB9 _ ha) b (qB9 _ hb)⟩
   ·rw[if_neg h];constructor
    ·intro z;cases z
    ·rintro⟨h1,_⟩;exact absurd (h1 c (qD0 ..) o e) h
  ·rename_i e;rw[zEV cs (l++[(c.k,c.o)])];constructor
   ·rintro⟨h1,h2⟩;have h3:∀b∈cs,b.k=c.k->c.o=b.o:=fun b hb hk=>h1 b hb c.o (by rw[zEU,hk,e];simp);refine⟨fun c' hc' o' e'=>?_,fun a ha b hb hab=>?_⟩
    ·rcases qC0.mp hc' with rfl|hc'
     ·rw[e]at e';cases e'
     ·exact h1 c' hc' o' (by rw[zEU,e'])
    ·rcases qC0.mp ha with ea|ha'<;>rcases qC0.mp hb with eb|hb'
     ·rw[ea,eb]
     ·rw[ea];exact h3 b hb' (by rw[<- hab,ea])
     ·rw[eb];exact(h3 a ha' (by rw[hab,eb])).symm
     ·exact h2 a ha' b hb' hab
   ·rintro⟨h1,h2⟩;refine⟨fun c' hc' o' e'=>?_,fun a ha b hb=>h2 a (qB9 _ ha) b (qB9 _ hb)⟩;rw[zEU]at e';split at e'
    ·rename_i x hx;cases e';exact h1 c' (qB9 _ hc') _ hx
    ·split at e'
     ·rename_i hk;cases e';exact h2 c (qD0 ..) c' (qB9 _ hc') hk.symm
     ·cases e'
noncomputable def zD9(cs:yN)(t:yA):Bool:=@decide (Cons (t.map (ctAt cs))) (Classical.propDecidable _)
theorem zG7{cs:yN}{t:yA}:zD9 cs t=true↔Cons (t.map (ctAt cs)):=@decide_eq_true_iff _ (Classical.propDecidable _)
theorem zR0{cs:yN}{t:yA}{b:Bool}(h:b=true↔Cons (t.map (ctAt cs))):b=zD9 cs t:=zAg (h.trans zG7.symm)
theorem zNR{S:zA0}{m:Nat}{l:List (Int×Int)}{k o:Int}(h:S[m]?=some (.dk (pk l)))(hv:l.lookup k=some o)(z:D):zHZ (.dct m) [.int k,z] S=.ok (.int o) S:=by
 have e:valD (pk l) (.inl k)=some (.int o):=by rw[zS3,hv];rfl
 unfold zHZ;dsimp only;rw[h];show(match valD (pk l) (.inl k)with|some v=>R.ok v S|none=>_)=_;rw[e]
theorem zNQ{S:zA0}{m:Nat}{l:List (Int×Int)}{k o:Int}(h:S[m]?=some (.dk (pk l)))(hv:l.lookup k=none)(hl:l.length<lim):zHZ (.dct m) [.int k,.int o] S=.ok (.int o) (S.set m (.dk (pk (l++[(k,o)])))):=by
 have e:valD (pk l) (.inl k)=none:=by rw[zS3,hv];rfl
 unfold zHZ;dsimp only;rw[h];show(match valD (pk l) (.inl k)with|some v=>R.ok v S|none=>if(pk l).length<lim then R.ok (D.int o) (S.set m (.dk (putD (pk l) (.inl k) (.int o))))else .bad)=_;rw[e];dsimp only;rw[if_pos (by unfold pk;rw[qA0];exact hl),zVF hv]
theorem zOO(c:CLL){nd sd cd:D}{csd:D}{m:Nat}{x k o r:Int}{w4:Option D}{S S1:zA0}(i2:oIx nd (.int 2) S=.ok csd S)(ix:oIx csd (.int x) S=.ok cd S)(c2:∀S,oIx cd (.int 2) S=.ok (.int k) S)(c3:∀S,oIx cd (.int 3) S=.ok (.int o) S)(ty:tyOk "dict" (.dct m) S=true)(m1:zHZ (.dct m) [.int k,.int o] S=.ok (.int r) S1):
  zAv c [some nd,some sd,some (.dct m),some (.int x),w4] S=if r=o then .nx [some nd,some sd,some (.dct m),some (.int x),some cd] S1 else .rt (.bl false) S1:=by
 by_cases h:r=o
 ·subst h;simp[zAv,i2,ix,c2,c3,ty,m1]
 ·simp[zAv,i2,ix,c2,c3,ty,m1,h]
theorem zG6(c:CLL){N:Net}{sd:D}{m:Nat}:∀(t:yA) (l:List (Int×Int)) (w3 w4:Option D) (S:zA0),(∀x∈t,0<=x/\x<(N.cs.length:Int))->S[m]?=some (.dk (pk l))->l.length+t.length<=1000 ->
  (zDs l (t.map (ctAt N.cs))=false/\∃S',zBb [] (gN 3) (zAv c) (t.map D.int) [some N.d,some sd,some (.dct m),w3,w4] S=.rt (.bl false) S'/\Kp (·=m) S S')∨(zDs l (t.map (ctAt N.cs))=true/\∃ρ' S',zBb [] (gN 3) (zAv c) (t.map D.int) [some N.d,some sd,some (.dct m),w3,w4] S=.nx ρ' S'/\Kp (·=m) S S')
 |[],l,w3,w4,S,_,_,_=>.inr ⟨rfl,_,S,by rw[qH2];unfold zBb;rw[if_pos (zAh S)],Kp.refl _ _⟩
 |x::t,l,w3,w4,S,hx,hd,hl=>by
  have hxx:=hx x (qD0 ..);have g:=zRD hxx;have i2:=zKP (N:=N) S;have ix:oIx (.tup (N.cs.map Ct.d)) (.int x) S=.ok (ctAt N.cs x).d S:=by rw[zKk];have:=zCq (xs:=N.cs.map Ct.d) (j:=x.toNat) (v:=(ctAt N.cs x).d) (by rw[qC1,g];rfl);rw[show((x.toNat:Nat):Int)=x by omega]at this;rw[this]
  have c2:∀S,oIx (ctAt N.cs x).d (.int 2) S=.ok (.int (ctAt N.cs x).k) S:=fun S=>by unfold Ct.d;simp
  have c3:∀S,oIx (ctAt N.cs x).d (.int 3) S=.ok (.int (ctAt N.cs x).o) S:=fun S=>by unfold Ct.d;simp
  have ty:tyOk "dict" (.dct m) S=true:=zQ9 hd rfl;rw[qB5,qB5];have hgo:zDs l (ctAt N.cs x::t.map (ctAt N.cs))=match l.lookup (ctAt N.cs x).k with|some o=>(if o=(ctAt N.cs x).o then zDs l (t.map (ctAt N.cs))else false)| none=>zDs (l++[((ctAt N.cs x).k,(ctAt N.cs x).o)]) (t.map (ctAt N.cs)):=rfl
  rw[hgo];have step:∀r:RS,zBb [] (gN 3) (zAv c) (D.int x::t.map D.int) [some N.d,some sd,some (.dct m),w3,w4] S=(match zAv c [some N.d,some sd,some (.dct m),some (.int x),w4] S with|.nx ρ2 S2=>zBb [] (gN 3) (zAv c) (t.map D.int) ρ2 S2|.ct ρ2 S2=>zBb [] (gN 3) (zAv c) (t.map D.int) ρ2 S2|.bk ρ2 S2=>.nx ρ2 S2|r=>r):=fun _=>by
   conv=>lhs;unfold zBb
   rw[if_pos (zAh S)];rfl
  rw[step (.rt .non S)];have hx':∀y∈t,0<=y/\y<(N.cs.length:Int):=fun y hy=>hx y (qB9 _ hy);cases hv:l.lookup (ctAt N.cs x).k with
  |some o =>
   have e:=zOO c (sd:=sd) (w4:=w4) i2 ix c2 c3 ty (zNR hd hv (.int (ctAt N.cs x).o));rw[e];by_cases h:o=(ctAt N.cs x).o
   ·rw[if_pos h];dsimp only;rw[if_pos h];exact zG6 c t l _ _ S hx' hd (by simp at hl;omega)
   ·rw[if_neg h];dsimp only;rw[if_neg h];exact .inl ⟨rfl,S,rfl,Kp.refl _ _⟩
  |none =>
   have e:=zOO c (sd:=sd) (w4:=w4) i2 ix c2 c3 ty (zNQ hd hv (by rw[zAa];simp at hl;omega));rw[e,if_pos rfl];dsimp only;have hlt:=(qA2.mp hd).1;have ih:=zG6 c (sd:=sd) t (l++[((ctAt N.cs x).k,(ctAt N.cs x).o)]) (some (.int x)) (some (ctAt N.cs x).d) (S.set m (.dk (pk (l++[((ctAt N.cs x).k,(ctAt N.cs x).o)])))) hx' (qE2 hlt) (by simp at hl ⊢;omega);rcases ih with⟨a,S',b,kp⟩| ⟨a,ρ',S',b,kp⟩
   ·exact .inl ⟨a,S',b,(zFh _ _).trans kp⟩
   ·exact .inr ⟨a,ρ',S',b,(zFh _ _).trans kp⟩
theorem zWI(c:CLL){nd:D}{ts:yM}{w2 w3 w4:Option D}{r:D}{S S1:zA0}(hl:ts.length<lim)(e:zBb [] (gN 3) (zAv c) ts [some nd,some (.tup ts),some (.dct S.length),w3,w4] (S++[.dk []])=.rt r S1):zCp c [some nd,some (.tup ts),w2,w3,w4] S=.rt r S1:=by simp[zCp,hl,e]
theorem zWJ(c:CLL){nd:D}{ts:yM}{w2 w3 w4:Option D}{ρ:Env1}{S S1:zA0}(hl:ts.length<lim)(e:zBb [] (gN 3) (zAv c) ts [some nd,some (.tup ts),some (.dct S.length),w3,w4] (S++[.dk []])=.nx ρ S1):zCp c [some nd,some (.tup ts),w2,w3,w4] S=.rt (.bl true) S1:=by simp[zCp,hl,e]
theorem zFj(h:zF9 cl)(n:Nat){N:Net}{t:yA}(ht:Ixs N.cs t)(S:zA0):Spc (cl (n+1) "is_live" [N.d,tD t] S) (.bl (zD9 N.cs t)) S:=by
 have hg:zDs [] (t.map (ctAt N.cs))=zD9 N.cs t:=zR0 (by
  rw[zEV];exact⟨fun q=>q.2,fun q=>⟨fun c _ o e=>by simp at e,q⟩⟩)
 have d0:(S++[O.dk []])[S.length]?=some (.dk (pk [])):=by rw[qA1 (qB1 _)];simp[pk]
 have hl:(t.map D.int).length<lim:=by rw[qA0,zAa];have:=ht.1;omega
 have kx:∀S',Kp (·=S.length) (S++[O.dk []]) S'->Ex S S':=fun S' kp=>⟨by have:=kp.le;simp at this;omega,fun j hj _=>by rw[kp.eq j (by simp;omega) (by omega),qA8 hj]⟩
 rcases zG6 (cl n) (N:=N) (sd:=tD t) (m:=S.length) t [] none none (S++[O.dk []]) ht.2 d0 (by have:=ht.1;simp;omega)with⟨a,S',e,kp⟩| ⟨a,ρ',S',e,kp⟩
 ·rw[hg]at a;rw[a];refine⟨S',?_,kx S' kp⟩;rw[h];exact zA7 rfl (zWI _ hl e)
 ·rw[hg]at a;rw[a];refine⟨S',?_,kx S' kp⟩;rw[h];exact zA7 rfl (zWJ _ hl e)
theorem zTO(c:CLL){nd:D}{k:Nat}{L Z:yM}{S S1 S2:zA0}(e1:c "all_ways" [nd] S=.ok (.lst k) S1)(l1:zA4 S1 k=some L)(hl:L.length<lim)(e2:zAd [(k,L)] .one (zCv c) (zCw c) [none,some nd] L S1=.ok Z S2):zCm c [some nd] S=.rt (.lst S2.length) (S2++[.lst Z]):=by simp[zCm,e1,l1,hl,e2]
theorem zTR(c:CLL){nd:D}{k:Nat}{L Z:yM}{S S1 S2:zA0}(e1:c "all_bars" [nd] S=.ok (.lst k) S1)(l1:zA4 S1 k=some L)(hl:L.length<lim)(e2:zAd [(k,L)] .one (zCx c) (zCy c) [none,some nd] L S1=.ok Z S2):zCn c [some nd] S=.rt (.lst S2.length) (S2++[.lst Z]):=by simp[zCn,e1,l1,hl,e2]
noncomputable def wOpt:Option (yA)->D
 |some t=>tD t
 |none=>.non
noncomputable def shI(N:Net)(st:yA):yA:=(zIT N.cs st).map fun(k:Nat)=>(k:Int)
theorem zSX(N:Net)(st:yA):zKn (zIT N.cs st)=(shI N st).map D.int:=by unfold zKn shI;rw[qD9];rfl
structure HA24(cl:Nat->CLL):Prop where
 w:HW cl
 b:HBr cl
 sa:zF7 cl
 is:zCc cl
 wa:zJY cl
 ba:zK2 cl
theorem zUO(c:CLL){nd sd shd:D}{ts Z:yM}{S:zA0}(hl:ts.length<lim)(e1:zAd [] .one (fun _=>ret true) (zDc c) [none,some shd] ts S=.ok Z S)(f1:zAm (fun bs=>bs.all id) [.lst S.length] (S++[.lst Z])=.ok (.bl true) (S++[.lst Z])):zBU c [some nd,some sd,some shd,some (.tup ts)] S=.rt (.tup ts) (S++[.lst Z]):=by simp[zBU,hl,e1,f1]
theorem zYd(c:CLL){nd sd shd:D}{ts Z:yM}{S:zA0}(hl:ts.length<lim)(e1:zAd [] .one (fun _=>ret true) (zDc c) [none,some shd] ts S=.ok Z S)(f1:zAm (fun bs=>bs.all id) [.lst S.length] (S++[.lst Z])=.ok (.bl false) (S++[.lst Z])):zBU c [some nd,some sd,some shd,some (.tup ts)] S=.nx [some nd,some sd,some shd,some (.tup ts)] (S++[.lst Z]):=by simp[zBU,hl,e1,f1]
theorem zXr(c:CLL){nd sd shd:D}{ts Z:yM}{S:zA0}(hl:ts.length<lim)(e1:zAd [] .one (fun _=>ret true) (zDD c) [none,some shd] ts S=.ok Z S)(f1:zAm (fun bs=>bs.any id) [.lst S.length] (S++[.lst Z])=.ok (.bl false) (S++[.lst Z])):zC2 c [some nd,some sd,some shd,some (.tup ts)] S=.rt (.tup ts) (S++[.lst Z]):=by simp[zC2,hl,e1,f1]
theorem zZK(c:CLL){nd sd shd:D}{ts Z:yM}{S:zA0}(hl:ts.length<lim)(e1:zAd [] .one (fun _=>ret true) (zDD c) [none,some shd] ts S=.ok Z S)(f1:zAm (fun bs=>bs.any id) [.lst S.length] (S++[.lst Z])=.ok (.bl true) (S++[.lst Z])):zC2 c [some nd,some sd,some shd,some (.tup ts)] S=.nx [some nd,some sd,some shd,some (.tup ts)] (S++[.lst Z]):=by simp[zC2,hl,e1,f1]
theorem zUM(c:CLL){nd sd shd r:D}{k:Nat}{L:yM}{w2 w3:Option D}{S S1 S2 S3:zA0}(e1:c "shut_at" [nd,sd] S=.ok shd S1)(e2:c "all_ways" [nd] S1=.ok (.lst k) S2)(l2:zA4 S2 k=some L)(hl:L.length<lim)(e3:zBb [(k,L)] (gN 3) (zBU c) L [some nd,some sd,some shd,w3] S2=.rt r S3):zD2 c [some nd,some sd,w2,w3] S=.rt r S3:=by simp[zD2,e1,e2,l2,hl,e3]
theorem zUN(c:CLL){nd sd shd:D}{k:Nat}{L:yM}{w2 w3:Option D}{ρ:Env1}{S S1 S2 S3:zA0}(e1:c "shut_at" [nd,sd] S=.ok shd S1)(e2:c "all_ways" [nd] S1=.ok (.lst k) S2)(l2:zA4 S2 k=some L)(hl:L.length<lim)(e3:zBb [(k,L)] (gN 3) (zBU c) L [some nd,some sd,some shd,w3] S2=.nx ρ S3):zD2 c [some nd,some sd,w2,w3] S=.rt .non S3:=by simp[zD2,e1,e2,l2,hl,e3]
theorem zXp(c:CLL){nd sd shd r:D}{k:Nat}{L:yM}{w2 w3:Option D}{S S1 S2 S3:zA0}(e1:c "shut_at" [nd,sd] S=.ok shd S1)(e2:c "all_bars" [nd] S1=.ok (.lst k) S2)(l2:zA4 S2 k=some L)(hl:L.length<lim)(e3:zBb [(k,L)] (gN 3) (zC2 c) L [some nd,some sd,some shd,w3] S2=.rt r S3):zD4 c [some nd,some sd,w2,w3] S=.rt r S3:=by simp[zD4,e1,e2,l2,hl,e3]
theorem zXq(c:CLL){nd sd shd:D}{k:Nat}{L:yM}{w2 w3:Option D}{ρ:Env1}{S S1 S2 S3:zA0}(e1:c "shut_at" [nd,sd] S=.ok shd S1)(e2:c "all_bars" [nd] S1=.ok (.lst k) S2)(l2:zA4 S2 k=some L)(hl:L.length<lim)(e3:zBb [(k,L)] (gN 3) (zC2 c) L [some nd,some sd,some shd,w3] S2=.nx ρ S3):zD4 c [some nd,some sd,w2,w3] S=.rt .non S3:=by simp[zD4,e1,e2,l2,hl,e3]
theorem zK4(H:HA24 cl)(n:Nat){N:Net}(ok:N.g){st:yA}(hs:∀c∈N.cs,0<=c.k/\c.k<st.length)(S:zA0):Spc (cl (n+11) "way_at" [N.d,zAS st] S) (wOpt ((zAc N).find? fun t=>t.all fun x=>decide (x∈shI N st))) S:=by
 have hc:N.cs.length<=100:=by have:=ok.c1;omega
 obtain⟨S1,e1,x1⟩:=zDg H.sa H.is (n+8) N st hc hs S;rw[zSX]at e1;obtain⟨k,S2,e2,x2,le2,l2⟩:=zAJ H.w n ok S1;have few:=zE9 ok;have fl:((zAc N).map tD).length<lim:=by rw[qA0,zAa];have:=zEa ok;omega
 have hf:=zG4 tD (w:=[(k,(zAc N).map tD)]) (g:=gN 3) (b:=zBU (cl (n+10))) (fun ρ S'=>(∃v3,ρ=[some N.d,some (zAS st),some (tD (shI N st)),v3])/\Ex S2 S') (fun S'=>Ex S2 S') (fun ρ S' hp=>zAQ (hp.2.lst l2 fun z=>z))
  (fun t=>t.all fun x=>decide (x∈shI N st)) tD (zAc N) (ρ:=[some N.d,some (zAS st),some (tD (shI N st)),none]) (S:=S2) ⟨⟨none,rfl⟩,Kp.refl _ _⟩ (fun t ht ρ S' hp=>by
   obtain⟨⟨v3,rfl⟩,hx⟩:=hp;have tl:=(few t ht).1;have e3:zAd [] .one (fun _=>ret true) (zDc (cl (n+10))) [none,some (tD (shI N st))] (t.map D.int) S'=.ok (t.map fun x=>D.bl (decide (x∈shI N st))) S' :=
    zB7 D.int (zAh S') _ t fun x hx=>⟨_,rfl,by
     have:oIn false (.int x) (tD (shI N st)) S'=.ok (.bl (decide (x∈shI N st))) S':=zBv false x _ S';simp[zDc,zB9,this]⟩
   have f1:=zBy (S:=S'++[.lst (t.map fun x=>D.bl (decide (x∈shI N st)))]) (n:=S'.length) (fun bs=>bs.all id) (fun x:Int=>decide (x∈shI N st)) t (zA2 S' _);rw[qJ4]at f1;have hl:(t.map D.int).length<lim:=by rw[qA0,zAa];omega
   refine⟨[some N.d,some (zAS st),some (tD (shI N st)),some (tD t)],S',rfl,?_⟩;cases hb:t.all fun x=>decide (x∈shI N st)with
   |true=>exact .inl ⟨rfl,_,zUO _ hl e3 (by rw[f1];exact congrArg (fun b=>R.ok (D.bl b) _) hb),hx.trans (zA6 _ _)⟩
   | false=>exact .inr ⟨rfl,_,_,.inl (zYd _ hl e3 (by rw[f1];exact congrArg (fun b=>R.ok (D.bl b) _) hb)),⟨_,rfl⟩,hx.trans (zA6 _ _)⟩)
 rcases hf with⟨t,S3,h1,e3,x3⟩| ⟨ρ',S3,h1,e3,_,x3⟩
 ·rw[h1];refine⟨S3,?_,(x1.trans x2).trans x3⟩;rw[show n+11=(n+10)+1 from rfl,H.wa];exact zA7 rfl (zUM _ e1 e2 l2 fl e3)
 ·rw[h1];refine⟨S3,?_,(x1.trans x2).trans x3⟩;rw[show n+11=(n+10)+1 from rfl,H.wa];exact zA7 rfl (zUN _ e1 e2 l2 fl e3)
theorem zLb(H:HA24 cl)(n:Nat){N:Net}(ok:N.g){st:yA}(hs:∀c∈N.cs,0<=c.k/\c.k<st.length){L:List (yA)}(hL:zBF N.cs L)(S:zA0):Spc (cl (n+6) "bar_at" [N.d,zAS st] S) (wOpt (L.find? fun t=>!(t.any fun x=>decide (x∈shI N st)))) S:=by
 have hc:N.cs.length<=100:=by have:=ok.c1;omega
 obtain⟨S1,e1,x1⟩:=zDg H.sa H.is (n+3) N st hc hs S;rw[zSX]at e1;obtain⟨L',hL',Ll,k,S2,e2,x2,le2,l2⟩:=zB8 H.b n ok S1;have:=hL'.uniq hL;subst this;have few:=hL'.few ok;have fl:(L'.map tD).length<lim:=by rw[qA0,zAa];omega
 have hf:=zG4 tD (w:=[(k,L'.map tD)]) (g:=gN 3) (b:=zC2 (cl (n+5))) (fun ρ S'=>(∃v3,ρ=[some N.d,some (zAS st),some (tD (shI N st)),v3])/\Ex S2 S') (fun S'=>Ex S2 S') (fun ρ S' hp=>zAQ (hp.2.lst l2 fun z=>z))
  (fun t=>!(t.any fun x=>decide (x∈shI N st))) tD L' (ρ:=[some N.d,some (zAS st),some (tD (shI N st)),none]) (S:=S2) ⟨⟨none,rfl⟩,Kp.refl _ _⟩ (fun t ht ρ S' hp=>by
   obtain⟨⟨v3,rfl⟩,hx⟩:=hp;have tl:=(few t ht).1;have e3:zAd [] .one (fun _=>ret true) (zDD (cl (n+5))) [none,some (tD (shI N st))] (t.map D.int) S'=.ok (t.map fun x=>D.bl (decide (x∈shI N st))) S' :=
    zB7 D.int (zAh S') _ t fun x hx=>⟨_,rfl,by
     have:oIn false (.int x) (tD (shI N st)) S'=.ok (.bl (decide (x∈shI N st))) S':=zBv false x _ S';simp[zDD,zB9,this]⟩
   have f1:=zBy (S:=S'++[.lst (t.map fun x=>D.bl (decide (x∈shI N st)))]) (n:=S'.length) (fun bs=>bs.any id) (fun x:Int=>decide (x∈shI N st)) t (zA2 S' _);rw[qL3]at f1;have hl:(t.map D.int).length<lim:=by rw[qA0,zAa];omega
   refine⟨[some N.d,some (zAS st),some (tD (shI N st)),some (tD t)],S',rfl,?_⟩;cases hb:t.any fun x=>decide (x∈shI N st)with
   |false=>exact .inl ⟨rfl,_,zXr _ hl e3 (by rw[f1];exact congrArg (fun b=>R.ok (D.bl b) _) hb),hx.trans (zA6 _ _)⟩
   | true=>exact .inr ⟨rfl,_,_,.inl (zZK _ hl e3 (by rw[f1];exact congrArg (fun b=>R.ok (D.bl b) _) hb)),⟨_,rfl⟩,hx.trans (zA6 _ _)⟩)
 rcases hf with⟨t,S3,h1,e3,x3⟩| ⟨ρ',S3,h1,e3,_,x3⟩
 ·rw[h1];refine⟨S3,?_,(x1.trans x2).trans x3⟩;rw[show n+6=(n+5)+1 from rfl,H.ba];exact zA7 rfl (zXp _ e1 e2 l2 fl e3)
 ·rw[h1];refine⟨S3,?_,(x1.trans x2).trans x3⟩;rw[show n+6=(n+5)+1 from rfl,H.ba];exact zA7 rfl (zXq _ e1 e2 l2 fl e3)
noncomputable def goS(n:Nat):yG->yM->Bool
 |_,[]=>true
 |o,.int x::ys=>(decide (0<=x)&&decide (x<(n:Int)))&&((match o with|some p=>decide (p<x)| none=>true)&&goS n (some x) ys)
 |_,_::_=>false
noncomputable def chB(n:Nat):D->Bool
 |.tup xs=>goS n none xs
 |_=>false
structure Rs(n:Nat)(t:yA):Prop where
 r:t.Pairwise (·<·)
 i:∀x∈t,0<=x/\x<(n:Int)
theorem zFD:∀(n:Nat) (o:yG) (xs:yM),goS n o xs=true->∃t:yA,xs=t.map D.int/\Rs n t/\∀p,o=some p->∀x∈t,p<x
 |n,o,[],_=>⟨[],rfl,⟨.nil,fun x hx=>by cases hx⟩,fun p _ x hx=>by cases hx⟩
 |n,o,d::ys,h=>by
  cases d with
  |int x =>
   simp only[goS,qC9,decide_eq_true_eq]at h;obtain⟨⟨h0,h1⟩,h2,h3⟩:=h;obtain⟨t,rfl,rs,hp⟩:=zFD n (some x) ys h3;refine⟨x::t,rfl,⟨qF2.mpr ⟨hp x rfl,rs.r⟩,fun y hy=>?_⟩,fun p e y hy=>?_⟩
   ·rcases qC0.mp hy with rfl|hy
    ·exact⟨h0,h1⟩
    ·exact rs.i y hy
   ·subst e;have hpx:p<x:=by simpa using h2
    rcases qC0.mp hy with rfl|hy
    ·exact hpx
    ·have:=hp x rfl y hy;omega
  |_=>simp[goS]at h
theorem zOY:∀(n:Nat) (o:yG) (t:yA),Rs n t->(∀p,o=some p->∀x∈t,p<x)->goS n o (t.map D.int)=true
 |n,o,[],_,_=>rfl
 |n,o,x::t,rs,hp=>by
  have h:=qF2.mp rs.r;have hx:=rs.i x (qD0 ..);simp only[qB5,goS,qC9,decide_eq_true_eq];refine⟨hx,?_,zOY n (some x) t ⟨h.2,fun y hy=>rs.i y (qB9 _ hy)⟩ fun p e y hy=>by cases e;exact h.1 y hy⟩;cases o with
  |none=>rfl
  |some p=>simpa using hp p rfl x (qD0 ..)
noncomputable def upI(n:Nat):yA:=(List.range n).map fun(i:Nat)=>(i:Int)
theorem zRU(n:Nat):(upI n).Pairwise (·<·):=by unfold upI;rw[qG1];exact(qJ5).imp fun h=>by omega
theorem zS0(n:Nat)(t:yA):t=(upI n).filter (fun x=>decide (x∈t))↔Rs n t:=by
 have mu:∀x,x∈upI n↔0<=x/\x<(n:Int):=fun x=>by
  unfold upI;rw[qB6];constructor
  ·rintro⟨i,hi,rfl⟩;have:=qJ9.mp hi;omega
  ·rintro⟨h0,h1⟩;exact⟨x.toNat,qJ9.mpr (by omega),by omega⟩
 constructor
 ·intro h;refine⟨?_,fun x hx=>?_⟩
  ·rw[h];exact(zRU n).sublist qK5
  ·rw[h]at hx;exact(mu x).mp (qC6.mp hx).1
 ·intro rs;have nd1:t.Nodup:=rs.r.imp fun h=>by omega
  have s2:=(zRU n).sublist (qK5 (p:=fun x=>decide (x∈t)));have nd2:((upI n).filter fun x=>decide (x∈t)).Nodup:=s2.imp fun h=>by omega
  have p:t.Perm ((upI n).filter fun x=>decide (x∈t)):=(qG8 nd1 nd2).mpr fun x=>by
   rw[qC6,mu];constructor
   ·intro hx;exact⟨rs.i x hx,decide_eq_true hx⟩
   ·rintro⟨_,hx⟩;exact of_decide_eq_true hx
  exact p.eq_of_pairwise (fun a b _ _ h1 h2=>by omega) rs.r s2
def TK(S:zA0)(x:D):Prop:=kd S x/\∀xs,x=.tup xs->∀y∈xs,kd S y
theorem zWM(c:CLL){nd x:D}{S:zA0}(f:zBi [x,.ty "tuple"] S=.ok (.bl false) S):zAr c [some nd,some x] S=.rt (.bl false) S:=by simp[zAr,f]
theorem zWL(c:CLL){nd:D}{ts bs:yM}{S:zA0}(l0:ts.length<lim)(e1:zAd [] .one (fun _=>ret true) (zAw c) [none] ts S=.ok bs S)(f1:zAm (fun bs=>bs.all id) [.lst S.length] (S++[.lst bs])=.ok (.bl false) (S++[.lst bs])):zAr c [some nd,some (.tup ts)] S=.rt (.bl false) (S++[.lst bs]):=by simp[zAr,l0,e1,f1]
theorem zU6(c:CLL){nd:D}{ts xs Z bs:yM}{m:Nat}{z:Int}{b:Bool}{S S1 S2 S3:zA0}(l0:ts.length<lim)(e1:zAd [] .one (fun _=>ret true) (zAw c) [none] ts S=.ok bs S)(h1:S++[.lst bs]=S1)(f1:zAm (fun bs=>bs.all id) [.lst S.length] S1=.ok (.bl true) S1)
  (h2:S1++[.lst ts]=S2) (i1:∀S,oIx nd (.int 2) S=.ok (.tup xs) S) (fl:∀S,fLen [.tup xs] S=.ok (.int z) S) (hz:z.toNat=m) (m0:-4611686018427387904<=z) (m1:z<4611686018427387904) (hl:(upD 0 m).length<lim)
  (e2:zAd [] .one (zAE c) (zAF c) [none,some (.tup ts)] (upD 0 m) S2=.ok Z S2) (h3:S2++[.lst Z]=S3) (q:oEq (.lst S1.length) (.lst S2.length) S3=.ok (.bl b) S3) :
  zAr c [some nd,some (.tup ts)] S=.rt (.bl b) S3:=by simp[zAr,l0,e1,h1,f1,h2,i1,fl,hz,m0,m1,hl,e2,h3,q]
theorem zN5(H:HBs cl)(n:Nat){N:Net}(hc:N.cs.length<=16){x:D}{S:zA0}(hx:TK S x)(hl:∀xs,x=.tup xs->xs.length<=100):Spc (cl (n+2) "is_choice" [N.d,x] S) (.bl (chB N.cs.length x)) S:=by
 have ft:=zWF hx.1;by_cases hT:isT x=true
 ·obtain⟨xs,rfl⟩:∃xs,x=.tup xs:=by cases x<;>first|exact⟨_,rfl⟩| cases hT
  have hxl:=hl xs rfl;have lx:xs.length<lim:=by rw[zAa];omega
  have e1:zAd [] .one (fun _=>ret true) (zAw (cl (n+1))) [none] xs S=.ok (xs.map fun y=>D.bl (isW y)) S:=by
   have:=zB7 (fun d:D=>d) (w:=[]) (t:=.one) (c:=zAw (cl (n+1))) (ρ0:=[none]) (zAh S) (fun y=>D.bl (isW y)) xs fun y hy=>⟨[some y],rfl,by
    have:=zJd H.wh n (hx.2 xs rfl y hy);simp[zAw,this]⟩
   simpa using this
  have f1:=zBy (S:=S++[.lst (xs.map fun y=>D.bl (isW y))]) (n:=S.length) (fun bs=>bs.all id) isW xs (zA2 S _);cases ha:(xs.map isW).all id with
  |false =>
   rw[ha]at f1;have:chB N.cs.length (.tup xs)=false:=by
    cases hb:chB N.cs.length (.tup xs)with
    |false=>rfl
    |true =>
     obtain⟨t,rfl,_⟩:=zFD _ _ _ hb;rw[qD9]at ha;have:(t.map (isW∘D.int)).all id=true:=by simp[isW]
     rw[this]at ha;cases ha
   rw[this];refine⟨_,?_,zA6 S [.lst (xs.map fun y=>D.bl (isW y))]⟩;rw[show n+2=(n+1)+1 from rfl,H.ch];exact zA7 rfl (zWL _ lx e1 f1)
  |true =>
   rw[ha]at f1;obtain⟨t,rfl⟩:∃t:yA,xs=t.map D.int:=by
    clear e1 f1 lx hxl ft hT hx hl
    induction xs with
    |nil=>exact⟨[],rfl⟩
    |cons y ys ih =>
     simp only[qB5,qJ7,qC9]at ha;obtain⟨t,rfl⟩:=ih ha.2;cases y<;>first|exact⟨_::t,rfl⟩| cases ha.1
   have eb:eqB (t.map D.int) (((upI N.cs.length).filter fun x=>decide (x∈t)).map D.int)=chB N.cs.length (.tup (t.map D.int)):=by
    apply zAg;rw[zDA];constructor
    ·intro h;have h':=(qK9 (fun a b q=>D.int.inj q)).mp h;exact zOY _ _ t ((zS0 _ t).mp h') fun p e=>by cases e
    ·intro h;obtain⟨t',e,rs,_⟩:=zFD _ _ _ h;have:=(qK9 (fun a b q=>D.int.inj q)).mp e;subst this;rw[<- (zS0 _ t).mpr rs]
   obtain⟨S1,h1⟩:∃S1,S++[O.lst ((t.map D.int).map fun y=>D.bl (isW y))]=S1:=⟨_,rfl⟩
   obtain⟨S2,h2⟩:∃S2,S1++[O.lst (t.map D.int)]=S2:=⟨_,rfl⟩
   obtain⟨Z,hZ⟩:∃Z,(upI N.cs.length).filter (fun x=>decide (x∈t))=Z:=⟨_,rfl⟩
   obtain⟨S3,h3⟩:∃S3,S2++[O.lst (Z.map D.int)]=S3:=⟨_,rfl⟩
   rw[hZ]at eb;have la:zA4 S2 S1.length=some (t.map D.int):=by rw[<- h2];exact zA2 _ _
   have la3:zA4 S3 S1.length=some (t.map D.int):=by rw[<- h3];exact zAq la
   have lb3:zA4 S3 S2.length=some (Z.map D.int):=by rw[<- h3];exact zA2 _ _
   have q:=zKl la3 lb3 (qD8.mpr (zBp (by omega) t)) (qD8.mpr (zBp (by omega) Z));rw[eb]at q;rw[h1]at f1;have e2:zAd [] .one (zAE (cl (n+1))) (zAF (cl (n+1))) [none,some (.tup (t.map D.int))] (upD 0 N.cs.length) S2=.ok (Z.map D.int) S2:=by
    have eu:upD 0 N.cs.length=(upI N.cs.length).map D.int:=by unfold upD upI;rw[qD9];apply qG0;intro k _;simp
    rw[eu,<- hZ];refine zBz D.int (zAh S2) _ _ _ fun x hx=>⟨_,rfl,?_,fun _=>?_⟩
    ·have:=zBv false x t S2;simp[zAE,zB9,this]
    ·simp[zAF,zB9]
   have x3:Ex S S3:=by rw[<- h3,<- h2,<- h1];exact((zA6 S _).trans (zA6 _ _)).trans (zA6 _ _)
   refine⟨S3,?_,x3⟩;rw[show n+2=(n+1)+1 from rfl,H.ch];obtain⟨z,hz⟩:∃z:Int,(N.cs.length:Int)=z:=⟨_,rfl⟩
   exact zA7 rfl (zU6 (ts:=t.map D.int) (xs:=N.cs.map Ct.d) (m:=N.cs.length) (z:=z) _ lx e1 h1 f1 h2 (fun S=>zKP S) (fun S=>by rw[<- hz];show R.ok (D.int ((N.cs.map Ct.d).length:Nat)) S=_;rw[qA0]) (by omega) (by omega) (by omega) (by rw[show(upD 0 N.cs.length).length=N.cs.length by simp[upD],zAa];omega) e2 h3 q)
 ·have hT':isT x=false:=by simpa using hT
  rw[hT']at ft;have:chB N.cs.length x=false:=by cases x<;>first|rfl|exact absurd rfl hT
  rw[this];refine⟨S,?_,Kp.refl _ _⟩;rw[show n+2=(n+1)+1 from rfl,H.ch];exact zA7 rfl (zWM _ ft)
noncomputable def cAt(cs:yN)(x:Int):Ct:=cs.getD x.toNat ⟨0,0,0,0⟩
theorem zAD{cs:yN}{x:Int}(h:0<=x/\x<(cs.length:Int)):cs[x.toNat]?=some (cAt cs x):=by unfold cAt;rw[qF6,qA5 (by omega)];rfl
noncomputable def jI(cs:yN)(t:yA):Bool:=jB (ends (t.map (cAt cs)))
def InR(cs:yN)(t:yA):Prop:=t.length<=100/\∀x∈t,0<=x/\x<(cs.length:Int)
structure HBw(cl:Nat->CLL):Prop where
 b:HBs cl
 ja:zEE cl
 iw:zK0 cl
theorem zZF{N:Net}{x:Int}(h:0<=x/\x<(N.cs.length:Int))(S:zA0):oIx (.tup (N.cs.map Ct.d)) (.int x) S=.ok (cAt N.cs x).d S:=by rw[zKk];have:=zCq (xs:=N.cs.map Ct.d) (j:=x.toNat) (v:=(cAt N.cs x).d) (by rw[qC1,zAD h];rfl);rw[show((x.toNat:Nat):Int)=x by omega]at this;rw[this]
theorem zZo(c:CLL){nd r:D}{ts Z:yM}{S S1:zA0}(hl:ts.length<lim)(e1:zAd [] .one (fun _=>ret true) (zB6 c) [none,some nd] ts S=.ok Z S)(e2:c "joins" [.lst S.length] (S++[.lst Z])=.ok r S1):zB0 c [some nd,some (.tup ts)] S=.rt r S1:=by simp[zB0,hl,e1,e2]
theorem zZp(c:CLL){nd r:D}{k:Nat}{ts Z:yM}{S S1:zA0}(l:zA4 S k=some ts)(hl:ts.length<lim)(e1:zAd [(k,ts)] .one (fun _=>ret true) (zB6 c) [none,some nd] ts S=.ok Z S)(e2:c "joins" [.lst S.length] (S++[.lst Z])=.ok r S1):zB0 c [some nd,some (.lst k)] S=.rt r S1:=by simp[zB0,l,hl,e1,e2]
theorem zHE(H:HBw cl)(n:Nat){N:Net}(ok:N.g){t:yA}(ht:InR N.cs t){x:D}{S:zA0}(hx:SeqD S x (t.map D.int)):Spc (cl (n+3) "join_along" [N.d,x] S) (.bl (jI N.cs t)) S:=by
 have e1:∀w,okW w S->zAd w .one (fun _=>ret true) (zB6 (cl (n+2))) [none,some N.d] (t.map D.int) S=.ok ((t.map (cAt N.cs)).map Ct.d) S:=fun w hw=>by
  have:=zB7 D.int (w:=w) (t:=.one) (c:=zB6 (cl (n+2))) (ρ0:=[none,some N.d]) hw (fun x=>(cAt N.cs x).d) t fun y hy=>⟨[some (.int y),some N.d],rfl,by
   simp[zB6,zKP,zZF (ht.2 y hy)]⟩
  rw[this,qD9];rfl
 have h7:In7 (t.map (cAt N.cs)):=fun c hc=>by obtain⟨y,hy,rfl⟩:=qB6.mp hc;exact ok.in7 (by decide) _ (qB4 (zAD (ht.2 y hy)))
 obtain⟨S2,e2,x2⟩:=zEX H.b.jo H.b.pf n (t.map (cAt N.cs)) (by rw[qA0];exact ht.1) h7 (zA2 S ((t.map (cAt N.cs)).map Ct.d));have hl:(t.map D.int).length<lim:=by rw[qA0,zAa];have:=ht.1;omega
 refine⟨S2,?_,(zA6 S _).trans x2⟩;rw[show n+3=(n+2)+1 from rfl,H.ja];rcases hx with rfl|⟨k,rfl,l⟩
 ·exact zA7 rfl (zZo _ hl (e1 [] (zAh S)) e2)
 ·exact zA7 rfl (zZp _ l hl (e1 _ (zAQ l)) e2)
noncomputable def wayB(cs:yN)(t:yA):Bool:=jI cs t&&!(t.any fun e=>jI cs (t.filter fun x=>decide (x≠e)))
noncomputable def wayX(cs:yN)(x:D):Bool:=if chB cs.length x then(match x with|.tup xs=>(match zCj xs with|some t=>wayB cs t|none=>false)| _=>false)else false
theorem zZt(c:CLL){nd x:D}{S S1:zA0}(e1:c "is_choice" [nd,x] S=.ok (.bl false) S1):zC8 c [some nd,some x] S=.rt (.bl false) S1/\zD3 c [some nd,some x] S=.rt (.bl false) S1:=by
 constructor
 ·simp[zC8,e1]
 ·simp[zD3,e1]
theorem zWC(c:CLL){nd x:D}{S S1 S2:zA0}(e1:c "is_choice" [nd,x] S=.ok (.bl true) S1)(e2:c "join_along" [nd,x] S1=.ok (.bl false) S2):zC8 c [some nd,some x] S=.rt (.bl false) S2:=by simp[zC8,e1,e2]
theorem zWB(c:CLL){nd:D}{ts Z:yM}{b:Bool}{S S1 S2 S3:zA0}(e1:c "is_choice" [nd,.tup ts] S=.ok (.bl true) S1)(e2:c "join_along" [nd,.tup ts] S1=.ok (.bl true) S2)(hl:ts.length<lim)(e3:zAd [] .one (fun _=>ret true) (zDu c) [none,some nd,some (.tup ts)] ts S2=.ok Z S3)
  (f1:zAm (fun bs=>bs.any id) [.lst S3.length] (S3++[.lst Z])=.ok (.bl b) (S3++[.lst Z])):zC8 c [some nd,some (.tup ts)] S=.rt (.bl !b) (S3++[.lst Z]):=by simp[zC8,e1,e2,hl,e3,f1]
theorem zU1(c:CLL){nd td r:D}{e:Int}{k:Nat}{S S1 S2:zA0}(w:c "without" [td,.int e] S=.ok (.lst k) S1)(e4:c "join_along" [nd,.lst k] S1=.ok r S2):zDu c [some (.int e),some nd,some td] S=.ok r S2:=by simp[zDu,w,e4]
theorem zMA(H:HBw cl)(n:Nat){N:Net}(ok:N.g){x:D}{S:zA0}(hx:TK S x)(hl:∀xs,x=.tup xs->xs.length<=100):Spc (cl (n+4) "is_way" [N.d,x] S) (.bl (wayX N.cs x)) S:=by
 unfold wayX;have hc:N.cs.length<=16:=by have:=ok.c1;omega
 obtain⟨S1,e1,x1⟩:=zN5 H.b (n+1) hc hx hl;rw[show n+4=(n+3)+1 from rfl,H.iw];cases hb:chB N.cs.length x with
 |false =>
  rw[hb]at e1;exact⟨S1,zA7 rfl (zZt _ e1).1,x1⟩
 |true =>
  rw[hb]at e1;cases x with
  |tup xs =>
   obtain⟨t,rfl,rs,_⟩:=zFD _ _ _ hb;have tl:t.length<=100:=by simpa using hl _ rfl
   have hR:InR N.cs t:=⟨tl,rs.i⟩
   simp only[if_true];rw[zCM];dsimp only;obtain⟨S2,e2,x2⟩:=zHE H n ok hR (x:=.tup (t.map D.int)) (S:=S1) (.inl rfl);unfold wayB;cases hj:jI N.cs t with
   |false=>rw[hj]at e2;exact⟨S2,zA7 rfl (zWC _ e1 e2),x1.trans x2⟩
   |true =>
    rw[hj]at e2;obtain⟨S3,e3,x3⟩:=zCO D.int (w:=[]) (t:=.one) (c:=zDu (cl (n+3))) (ρ0:=[none,some N.d,some (.tup (t.map D.int))]) (fun S'=>Ex S2 S') (fun _ _=>zAh _)
     (fun e=>D.bl (jI N.cs (t.filter fun x=>decide (x≠e)))) t (S:=S2) (Kp.refl _ _) (fun e he S' hx=>by
      refine⟨[some (.int e),some N.d,some (.tup (t.map D.int))],rfl,?_⟩;have w:=zFb H.b.wi (n+2) (t:=t) tl e S';obtain⟨S4,e4,x4⟩:=zHE H n ok (t:=t.filter fun x=>decide (x≠e)) ⟨qD3 (qE0 ..) tl,fun y hy=>rs.i y (qC6.mp hy).1⟩ (x:=.lst S'.length) (S:=S'++[.lst ((t.filter fun x=>decide (x≠e)).map D.int)]) (.inr ⟨_,rfl,zA2 S' _⟩);exact⟨S4,zU1 _ w e4,(hx.trans (zA6 _ _)).trans x4⟩)
    have f1:=zBy (S:=S3++[.lst (t.map fun e=>D.bl (jI N.cs (t.filter fun x=>decide (x≠e))))]) (n:=S3.length) (fun bs=>bs.any id) (fun e:Int=>jI N.cs (t.filter fun x=>decide (x≠e))) t (zA2 S3 _);rw[qL3]at f1;refine⟨S3++[.lst (t.map fun e=>D.bl (jI N.cs (t.filter fun x=>decide (x≠e))))],?_,((x1.trans x2).trans x3).trans (zA6 _ _)⟩;exact zA7 rfl (zWB _ e1 e2 (by rw[qA0,zAa];omega) e3 f1)
  |_=>cases hb
inductive Ext(cs:yN):Wk->Wk->Prop
 |refl (w:Wk):Ext cs w w
 |step {w v u:Wk}:zAy w.1≠1->v∈kids cs w->Ext cs v u->Ext cs w u
inductive Wlk(cs:yN):Wk->Prop
 |z:Wlk cs w0
 |s {w v:Wk}:Wlk cs w->zAy w.1≠1->v∈kids cs w->Wlk cs v
theorem Ext.wlk{cs:yN}{w u:Wk}(h:Ext cs w u):Wlk cs w->Wlk cs u:=by
 induction h with
 |refl w=>exact id
 |step h1 hv _ ih=>exact fun q=>ih (.s q h1 hv)
theorem Ext.snoc{cs:yN}{w u:Wk}(h:Ext cs w u):∀{v:Wk},zAy u.1≠1->v∈kids cs u->Ext cs w v:=by
 induction h with
 |refl w=>exact fun h1 hv=>.step h1 hv (.refl _)
 |step h1 hv _ ih=>exact fun g1 g2=>.step h1 hv (ih g1 g2)
theorem Wlk.ext{cs:yN}{w:Wk}(h:Wlk cs w):Ext cs w0 w:=by
 induction h with
 |z=>exact .refl _
 |s _ h1 hv ih=>exact ih.snoc h1 hv
theorem zJV{cs:yN}(h7:In7 cs):∀(f:Nat) (w:Wk),WOk cs w->9 - w.1.length<=f->∀t,t∈Vs cs w↔∃u,Ext cs w u/\zAy u.1=1/\t=zCD u.2
 |0,w,h,hf=>by have:=h.le;omega
 |f+1,w,h,hf=>by
  intro t;rw[zIx h7 h];split
  ·rename_i h1;rw[qA7];constructor
   ·rintro rfl;exact⟨w,.refl _,h1,rfl⟩
   ·rintro⟨u,e,_,rfl⟩;cases e with
    |refl=>rfl
    |step h2 _ _=>exact absurd h1 h2
  ·rename_i h1;rw[qO3];constructor
   ·rintro⟨v,hv,ht⟩;obtain⟨vo,vl⟩:=zBM h7 h v hv;obtain⟨u,e,l,q⟩:=(zJV h7 f v vo (by omega) t).mp ht;exact⟨u,.step h1 hv e,l,q⟩
   ·rintro⟨u,e,l,q⟩;cases e with
    |refl=>exact absurd l h1
    |@step _ v _ _ hv e =>
     obtain⟨vo,vl⟩:=zBM h7 h v hv;exact⟨v,hv,(zJV h7 f v vo (by omega) t).mpr ⟨u,e,l,q⟩⟩
theorem zSs{cs:yN}(h7:In7 cs)(t:yA):t∈Vs cs w0↔∃u,Wlk cs u/\zAy u.1=1/\t=zCD u.2:=by
 rw[zJV h7 9 w0 (zM9 cs) (by omega)];constructor
 ·rintro⟨u,e,q⟩;exact⟨u,e.wlk .z,q⟩
 ·rintro⟨u,e,q⟩;exact⟨u,e.ext,q⟩
abbrev Cl(cs:yN)(C:Int->Prop)(x:Int):Prop:=C (cAt cs x).a↔C (cAt cs x).b
structure WI(cs:yN)(w:Wk):Prop where
 ok:WOk cs w
 z:(0:Int)∈w.1
 en:∀x∈w.2,(0<=x/\x<(cs.length:Int))/\(cAt cs x).a∈w.1/\(cAt cs x).b∈w.1
 nd:w.2.Nodup
 jo:∀C:Int->Prop,C 0->(∀x∈w.2,Cl cs C x)->∀v∈w.1,C v
 se:∀e∈w.2,∃C:Int->Prop,(∀v,C v->v∈w.1)/\C 0/\¬C (zAy w.1)/\∀x∈w.2,x≠e->Cl cs C x
theorem zGb(l:yA)(u:Int):zAy (l++[u])=u:=by unfold zAy;rw[qF6];simp
theorem zGa{l:yA}(h:0<l.length):zAy l∈l:=by have:zAy l∈l.dropLast++[zAy l]:=qC3 _ (qD7 _);rwa[<- zE6 h]at this
theorem zWX{c:Ct}{v u:Int}(h:fr c v=some u):(c.a=v/\c.b=u)∨(c.b=v/\c.a=u):=by
 unfold fr at h;split at h
 ·rename_i e;cases h;exact .inl ⟨e,rfl⟩
 ·split at h
  ·rename_i e;cases h;exact .inr ⟨e,rfl⟩
  ·cases h
theorem zOz{cs:yN}{w v:Wk}(hv:v∈kids cs w):∃u x,(0<=x/\x<(cs.length:Int))/\(((cAt cs x).a=zAy w.1/\(cAt cs x).b=u)∨((cAt cs x).b=zAy w.1/\(cAt cs x).a=u))/\u∉w.1/\v=(w.1++[u],w.2++[x]):=by
 obtain⟨q,hq,e⟩:=qE5.mp hv;obtain⟨u,e1,e2,rfl⟩:=zCz (cs:=cs) e;have g:=zBZ hq;have hlt:=(qA2.mp g).1;have:cAt cs (q.1:Int)=q.2:=by have g2:=zAD (cs:=cs) (x:=(q.1:Int)) (by omega);rw[show((q.1:Int)).toNat=q.1 by omega,g]at g2;exact(Option.some.inj g2).symm
 exact⟨u,q.1,by omega,by rw[this];exact zWX e1,e2,rfl⟩
theorem Wlk.wi{cs:yN}(h7:In7 cs){w:Wk}(h:Wlk cs w):WI cs w:=by
 induction h with
 |z=>exact⟨zM9 cs,by simp[w0],fun x hx=>by simp[w0]at hx,by simp[w0],fun C c0 _ v hv=>by simp[w0]at hv;rw[hv];exact c0,fun e he=>by simp[w0]at he⟩
 |@s w v _ h1 hv ih =>
  obtain⟨vo,vl⟩:=zBM h7 ih.ok v hv;obtain⟨u,y,yr,ye,un,rfl⟩:=zOz hv;have hl:=zGa ih.ok.ne;have yn:y∉w.2:=fun hy=>by
   have:=(ih.en y hy).2;rcases ye with⟨_,e⟩| ⟨_,e⟩
   ·rw[e]at this;exact un this.2
   ·rw[e]at this;exact un this.1
  refine⟨vo,qC7 _ ih.z,fun x hx=>?_,?_,fun C c0 cc v hv=>?_,fun e he=>?_⟩
  ·rcases qB2.mp hx with hx|hx
   ·obtain⟨a,b,c⟩:=ih.en x hx;exact⟨a,qC7 _ b,qC7 _ c⟩
   ·rw[qA7.mp hx];refine⟨yr,?_⟩;rcases ye with⟨e1,e2⟩| ⟨e1,e2⟩
    ·rw[e1,e2];exact⟨qC7 _ hl,qC3 _ (qD7 _)⟩
    ·rw[e1,e2];exact⟨qC3 _ (qD7 _),qC7 _ hl⟩
  ·rw[qE8];exact⟨ih.nd,by simp,fun a ha b hb e=>yn (by rw[qA7.mp hb]at e;rw[<- e];exact ha)⟩
  ·have old:=ih.jo C c0 fun x hx=>cc x (qC7 _ hx);rcases qB2.mp hv with hv|hv
   ·exact old v hv
   ·rw[qA7.mp hv];have q:=cc y (qC3 _ (qD7 _));have q2:=old _ hl;unfold Cl at q;rcases ye with⟨e1,e2⟩| ⟨e1,e2⟩
    ·rw[e1,e2]at q;exact q.mp q2
    ·rw[e1,e2]at q;exact q.mpr q2
  ·rw[zGb];by_cases hey:e=y
   ·subst hey;refine⟨fun v=>v∈w.1,fun v hv=>qC7 _ hv,ih.z,un,fun x hx hne=>?_⟩;rcases qB2.mp hx with hx|hx
    ·exact iff_of_true (ih.en x hx).2.1 (ih.en x hx).2.2
    ·exact absurd (qA7.mp hx) hne
   ·have he':e∈w.2:=by
     rcases qB2.mp he with he|he
     ·exact he
     ·exact absurd (qA7.mp he) hey
    obtain⟨C,c1,c0,cn,cc⟩:=ih.se e he';refine⟨C,fun v hv=>qC7 _ (c1 v hv),c0,fun hu=>un (c1 u hu),fun x hx hne=>?_⟩;rcases qB2.mp hx with hx|hx
    ·exact cc x hx hne
    ·rw[qA7.mp hx];unfold Cl;have nu:¬C u:=fun hu=>un (c1 u hu);rcases ye with⟨e1,e2⟩| ⟨e1,e2⟩
     ·rw[e1,e2];exact iff_of_false cn nu
     ·rw[e1,e2];exact iff_of_false nu cn
theorem Wlk.pre{cs:yN}{w:Wk}(h:Wlk cs w):∀v∈w.1,∃w',Wlk cs w'/\zAy w'.1=v/\∀x∈w'.2,x∈w.2:=by
 induction h with
 |z=>exact fun v hv=>⟨w0,.z,by simp[w0]at hv;rw[hv];rfl,fun x hx=>hx⟩
 |@s w v' hw h1 hv' ih =>
  intro v hv;obtain⟨u,y,yr,ye,un,rfl⟩:=zOz hv';rcases qB2.mp hv with hv|hv
  ·obtain⟨w',a,b,c⟩:=ih v hv;exact⟨w',a,b,fun x hx=>qC7 _ (c x hx)⟩
  ·exact⟨_,.s hw h1 hv',by rw[zGb,qA7.mp hv],fun x hx=>hx⟩
theorem zQW{cs:yN}{w:Wk}{x u:Int}(hx:0<=x/\x<(cs.length:Int))(h:fr (cAt cs x) (zAy w.1)=some u)(hu:u∉w.1):(w.1++[u],w.2++[x])∈kids cs w:=by
 unfold kids;refine qE5.mpr ⟨(x.toNat,cAt cs x),?_,?_⟩
 ·unfold zAT;rw[qM0];exact⟨x.toNat,by rw[qE7];exact⟨by rw[qG9 (by omega)],zAD hx⟩⟩
 ·unfold kid;dsimp only;rw[h];dsimp only;rw[if_neg hu,show((x.toNat:Nat):Int)=x by omega]
theorem zH9{cs:yN}{P:Int->Prop}(hj:∀C:Int->Prop,C 0->(∀x,0<=x->x<(cs.length:Int)->P x->Cl cs C x)->C 1):∃w,Wlk cs w/\zAy w.1=1/\∀x∈w.2,P x:=by
 apply Classical.byContradiction;intro hn;have go:∀x a b,0<=x->x<(cs.length:Int)->P x->fr (cAt cs x) a=some b->(∃w,Wlk cs w/\zAy w.1=a/\∀x∈w.2,P x)->∃w,Wlk cs w/\zAy w.1=b/\∀x∈w.2,P x:=by
  rintro x a b x0 x1 px hf ⟨w,hw,hl,hp⟩;by_cases hb:b∈w.1
  ·obtain⟨w',a1,b1,c1⟩:=hw.pre b hb;exact⟨w',a1,b1,fun y hy=>hp y (c1 y hy)⟩
  ·have h1:zAy w.1≠1:=fun e=>hn ⟨w,hw,e,hp⟩;refine⟨_,.s hw h1 (zQW ⟨x0,x1⟩ (by rw[hl];exact hf) hb),zGb _ _,fun y hy=>?_⟩;rcases qB2.mp hy with hy|hy
   ·exact hp y hy
   ·rw[qA7.mp hy];exact px
 refine hn (hj (fun v=>∃w,Wlk cs w/\zAy w.1=v/\∀x∈w.2,P x) ⟨w0,.z,rfl,fun x hx=>by simp[w0]at hx⟩ fun x x0 x1 px=>?_);by_cases hab:(cAt cs x).a=(cAt cs x).b
 ·unfold Cl;rw[hab]
 ·exact⟨go x _ _ x0 x1 px (by unfold fr;rw[if_pos rfl]),go x _ _ x0 x1 px (by unfold fr;rw[if_neg hab,if_pos rfl])⟩
theorem Ext.free{cs:yN}(h7:In7 cs){w u:Wk}(h:Ext cs w u):WOk cs w->(∀x∈w.2,x∈u.2)/\∀x∈u.2,x∈w.2∨((cAt cs x).a∉w.1.dropLast/\(cAt cs x).b∉w.1.dropLast):=by
 induction h with
 |refl w=>exact fun _=>⟨fun x hx=>hx,fun x hx=>.inl hx⟩
 |@step w v u h1 hv _ ih =>
  intro hw;obtain⟨vo,vl⟩:=zBM h7 hw v hv;obtain⟨i1,i2⟩:=ih vo;obtain⟨p,y,yr,ye,un,rfl⟩:=zOz hv;have sub:∀x,x∈w.1.dropLast->x∈w.1:=fun x hx=>qP6 _ hx;have nl:zAy w.1∉w.1.dropLast:=by have nd:=hw.nd;rw[zE6 hw.ne,qE8]at nd;exact fun hm=>nd.2.2 _ hm _ (qD7 _) rfl
  have np:p∉w.1.dropLast:=fun hm=>un (sub _ hm);refine⟨fun x hx=>i1 x (qC7 _ hx),fun x hx=>?_⟩;rcases i2 x hx with q|q
  ·rcases qB2.mp q with q|q
   ·exact .inl q
   ·rw[qA7.mp q];right;rcases ye with⟨e1,e2⟩| ⟨e1,e2⟩
    ·rw[e1,e2];exact⟨nl,np⟩
    ·rw[e1,e2];exact⟨np,nl⟩
  ·right;have e:(w.1++[p]).dropLast=w.1:=by simp
   dsimp only at q;rw[e]at q;exact⟨fun hm=>q.1 (sub _ hm),fun hm=>q.2 (sub _ hm)⟩
theorem zRw{α:Type}(l:List α):(zAT l).Pairwise fun p q=>p.1<q.1:=by rw[qK4];intro i j hi hj hij;have a:=zIe (l:=l) (i:=i) (qA5 hi);have b:=zIe (l:=l) (i:=j) (qA5 hj);omega
theorem zXv{cs:yN}(h7:In7 cs):∀(f:Nat) (w:Wk),Wlk cs w->9 - w.1.length<=f->(Vs cs w).Nodup
 |0,w,h,hf=>by have:=(h.wi h7).ok.le;omega
 |f+1,w,h,hf=>by
  have wi:=h.wi h7;rw[zIx h7 wi.ok];split
  ·simp
  ·rename_i h1;unfold List.Nodup;rw[List.pairwise_flatMap];refine⟨fun v hv=>zXv h7 f v (.s h h1 hv) (by have:=(zBM h7 wi.ok v hv).2;omega),?_⟩;unfold kids;rw[List.pairwise_filterMap];refine List.Pairwise.imp_of_mem ?_ (zRw cs);intro q q' hq hq' hlt v e v' e' t ht t' ht' tt;subst tt;have hv:v∈kids cs w:=qE5.mpr ⟨q,hq,e⟩;have hv':v'∈kids cs w:=qE5.mpr ⟨q',hq',e'⟩;have vo:=(zBM h7 wi.ok v hv).1;have vo':=(zBM h7 wi.ok v' hv').1;obtain⟨u,g,_,tu⟩:=(zJV h7 9 v vo (by omega) t).mp ht;obtain⟨u',g',_,tu'⟩:=(zJV h7 9 v' vo' (by omega) t).mp ht';have me:∀x,x∈u.2↔x∈u'.2:=fun x=>by rw[<- (zAO u.2).mem_iff,<- (zAO u'.2).mem_iff,<- tu,<- tu']
   obtain⟨p,p1,p2,rfl⟩:=zCz (cs:=cs) e;obtain⟨p',p1',p2',rfl⟩:=zCz (cs:=cs) e';have hx:(q.1:Int)∈u'.2:=(me _).mp ((g.free h7 vo).1 _ (qC3 _ (qD7 _)));have hc:cAt cs (q.1:Int)=q.2:=by have g1:=zBZ hq;have hl:=(qA2.mp g1).1;have g2:=zAD (cs:=cs) (x:=(q.1:Int)) (by omega);rw[show((q.1:Int)).toNat=q.1 by omega,g1]at g2;exact(Option.some.inj g2).symm
   have fo:=zWX p1;have hl:=zGa wi.ok.ne;rcases(g'.free h7 vo').2 _ hx with k|k
   ·rcases qB2.mp k with k|k
    ·have:=(wi.en _ k).2;rw[hc]at this;rcases fo with⟨_,f2⟩| ⟨_,f2⟩
     ·rw[f2]at this;exact p2 this.2
     ·rw[f2]at this;exact p2 this.1
    ·have:=qA7.mp k;omega
   ·have e:(w.1++[p']).dropLast=w.1:=by simp
    dsimp only at k;rw[e,hc]at k;rcases fo with⟨f1,_⟩| ⟨f1,_⟩
    ·rw[f1]at k;exact k.1 hl
    ·rw[f1]at k;exact k.2 hl
theorem zBH{cs:yN}{t:yA}:jI cs t=true↔∀C:Int->Prop,C 0->(∀x∈t,Cl cs C x)->C 1:=by
 unfold jI;rw[zHr];unfold zED ends;constructor
 ·intro h C c0 cc;refine h C c0 fun e he=>?_;obtain⟨c,hc,rfl⟩:=qB6.mp he;obtain⟨x,hx,rfl⟩:=qB6.mp hc;exact cc x hx
 ·intro h C c0 cc;refine h C c0 fun x hx=>?_;exact cc ((cAt cs x).a,(cAt cs x).b) (qB6.mpr ⟨_,qB6.mpr ⟨x,hx,rfl⟩,rfl⟩)
theorem zAG{cs:yN}{t:yA}:wayB cs t=true↔jI cs t=true/\∀e∈t,jI cs (t.filter fun x=>decide (x≠e))=false:=by unfold wayB;rw[qC9];simp
theorem zS1{n:Nat}{t u:yA}(ht:Rs n t)(hu:Rs n u)(h:∀x,x∈t↔x∈u):t=u:=by
 have nd1:t.Nodup:=ht.r.imp fun h=>by omega
 have nd2:u.Nodup:=hu.r.imp fun h=>by omega
 exact((qG8 nd1 nd2).mpr h).eq_of_pairwise (fun a b _ _ h1 h2=>by omega) ht.r hu.r
theorem zNs{cs:yN}(h7:In7 cs){u:Wk}(h:Wlk cs u)(l:zAy u.1=1):Rs cs.length (zCD u.2)/\wayB cs (zCD u.2)=true:=by
 have wi:=h.wi h7;have p:=zAO u.2;have nd:(zCD u.2).Nodup:=p.symm.nodup wi.nd;refine⟨⟨?_,fun x hx=>(wi.en x (p.mem_iff.mp hx)).1⟩,zAG.mpr ⟨zBH.mpr fun C c0 cc=>?_,fun e he=>?_⟩⟩
 ·have:=List.pairwise_and_iff.mpr ⟨zDt u.2,nd⟩;exact this.imp fun h=>by omega
 ·have:=wi.jo C c0 (fun x hx=>cc x (p.mem_iff.mpr hx)) _ (zGa wi.ok.ne);rw[l]at this;exact this
 ·obtain⟨C,_,c0,cn,cc⟩:=wi.se e (p.mem_iff.mp he);rw[l]at cn;cases hj:jI cs ((zCD u.2).filter fun x=>decide (x≠e))with
  |false=>rfl
  |true =>
   refine absurd (zBH.mp hj C c0 fun x hx=>?_) cn;obtain⟨hx1,hx2⟩:=qC6.mp hx;exact cc x (p.mem_iff.mp hx1) (of_decide_eq_true hx2)
theorem zB2{N:Net}(ok:N.g)(t:yA):t∈zAc N↔Rs N.cs.length t/\wayB N.cs t=true:=by
 have h7:=ok.in7 (by decide);unfold zAc;rw[(zB3 _).mem_iff,zSs h7];constructor
 ·rintro⟨u,hu,l,rfl⟩;exact zNs h7 hu l
 ·rintro⟨rs,hb⟩;obtain⟨hj,hm⟩:=zAG.mp hb;obtain⟨u,hu,l,hp⟩:=zH9 (cs:=N.cs) (P:=fun x=>x∈t) fun C c0 cc=>zBH.mp hj C c0 fun x hx=>cc x (rs.i x hx).1 (rs.i x hx).2 hx;refine⟨u,hu,l,?_⟩;obtain⟨rs',hb'⟩:=zNs h7 hu l;refine zS1 rs rs' fun x=>?_;rw[(zAO u.2).mem_iff];refine⟨fun hx=>Classical.byContradiction fun hn=>?_,hp x⟩;have:=hm x hx;have:jI N.cs (t.filter fun y=>decide (y≠x))=true:=zBH.mpr fun C c0 cc=>(zBH.mp (zAG.mp hb').1) C c0 fun y hy=>by have hy':=(zAO u.2).mem_iff.mp hy;exact cc y (qC6.mpr ⟨hp y hy',decide_eq_true fun e=>hn (e▸hy')⟩)
  rw[hm x hx]at this;cases this
theorem zFL{N:Net}(ok:N.g):(zAc N).Nodup:=(zB3 _).symm.nodup (zXv (ok.in7 (by decide)) 9 w0 .z (by omega))
theorem zSA{N M:Net}(okN:N.g)(okM:M.g)(h:∀t,t∈zAc N↔t∈zAc M):zAc N=zAc M:=by have p:(zAc N).Perm (zAc M):=(qG8 (zFL okN) (zFL okM)).mpr h;rw[zEb p (zBV _)];exact(zEb (.refl _) (zBV _)).symm
theorem zM4{cs:yN}{i:Nat}{c:Ct}(h:cs[i]?=some c):cAt cs (i:Int)=c/\(i:Int)<(cs.length:Int):=by have hl:=(qA2.mp h).1;have g2:=zAD (cs:=cs) (x:=(i:Int)) (by omega);rw[show((i:Int)).toNat=i by omega,h]at g2;exact⟨(Option.some.inj g2).symm,by omega⟩
theorem zFl{cs:yN}{C:Int->Bool}{x:Int}:x∈cutI cs C↔(0<=x/\x<(cs.length:Int))/\C (cAt cs x).a≠C (cAt cs x).b:=by
 rw[zCC];constructor
 ·rintro⟨i,c,hc,hn,rfl⟩;obtain⟨e,hl⟩:=zM4 hc;rw[e];exact⟨⟨by omega,hl⟩,hn⟩
 ·rintro⟨hx,hn⟩;exact⟨x.toNat,_,zAD hx,hn,by omega⟩
theorem zRA{cs:yN}{C:Int->Bool}(hs:Side C){t:yA}(ht:∀x∈t,0<=x/\x<(cs.length:Int))(hj:jI cs t=true):∃x∈t,x∈cutI cs C:=by
 apply Classical.byContradiction;intro hn;have:=zBH.mp hj (fun v=>C v=true) hs.z fun x hx=>by have:C (cAt cs x).a=C (cAt cs x).b:=Classical.byContradiction fun h=>hn ⟨x,hx,zFl.mpr ⟨ht x hx,h⟩⟩;show C _=true↔C _=true;rw[this]
 rw[hs.o]at this;cases this
theorem zFH{cs:yN}{C:Int->Bool}{i:Nat}:cutB cs C i=true↔(i:Int)∈cutI cs C:=by
 rw[zCC];constructor
 ·intro hb;unfold cutB at hb;split at hb
  ·rename_i c hc;exact⟨i,c,hc,by simpa using hb,rfl⟩
  ·cases hb
 ·rintro⟨j,c,hc,hn,e⟩;have:i=j:=by omega
  subst this;unfold cutB;rw[hc];simpa using hn
theorem zSm{cs:yN}{C C':Int->Bool}(h:∀x∈cutI cs C',x∈cutI cs C)(hn:cutI cs C'≠cutI cs C):(cutI cs C').length<(cutI cs C).length:=by
 have:∃x∈cutI cs C,x∉cutI cs C':=Classical.byContradiction fun q=>hn (zKN fun x=>⟨h x,fun hx=>Classical.byContradiction fun z=>q ⟨x,hx,z⟩⟩);obtain⟨x,hx,hx'⟩:=this;obtain⟨i,c,hc,_,rfl⟩:=zCC.mp hx;unfold cutI;rw[qA0,qA0];refine zJp (a:=i) (fun j hj=>zFH.mpr (h _ (zFH.mp hj))) (qJ9.mpr (qA2.mp hc).1) (zFH.mpr hx) ?_;cases q:cutB cs C' i with
 |false=>rfl
 |true=>exact absurd (zFH.mp q) hx'
theorem zNh{cs:yN}(f:Nat):∀{C:Int->Bool},Side C->(cutI cs C).length<=f->∃C',Side C'/\(∀x∈cutI cs C',x∈cutI cs C)/\zGO cs (cutI cs C'):=by
 induction f with
 |zero =>
  intro C hs hf;refine⟨C,hs,fun x hx=>hx,fun C' hs' hsub=>Classical.byContradiction fun hne=>?_⟩;have:=zSm hsub hne;omega
 |succ f ih =>
  intro C hs hf;by_cases hl:zGO cs (cutI cs C)
  ·exact⟨C,hs,fun x hx=>hx,hl⟩
  ·unfold zGO at hl;simp only[Classical.not_forall]at hl;obtain⟨C',hs',hsub,hne⟩:=hl;have lt:=zSm hsub hne;obtain⟨C2,a,b,c⟩:=ih hs' (by omega);exact⟨C2,a,fun x hx=>hsub x (b x hx),c⟩
theorem zBF.within{cs:yN}{L:List (yA)}(hL:zBF cs L){C:Int->Bool}(hs:Side C):∃t∈L,∀x∈t,x∈cutI cs C:=by obtain⟨C',a,b,c⟩:=zNh (cs:=cs) _ hs (qB1 _);exact⟨_,(hL.mem _).mpr ⟨C',a,rfl,c⟩,b⟩
theorem zFQ{N:Net}{st:yA}{x:Int}:x∈shI N st↔(0<=x/\x<(N.cs.length:Int))/\zD8 (cAt N.cs x) st=true:=by
 unfold shI zIT;simp only[qB6,qC6];constructor
 ·rintro⟨i,⟨q,⟨hq,hb⟩,rfl⟩,rfl⟩;obtain⟨e,hl⟩:=zM4 (zBZ hq);rw[e];exact⟨⟨by omega,hl⟩,hb⟩
 ·rintro⟨hx,hb⟩;refine⟨x.toNat,⟨(x.toNat,cAt N.cs x),⟨?_,hb⟩,rfl⟩,by omega⟩;unfold zAT;rw[qM0];exact⟨x.toNat,by rw[qE7];exact⟨by rw[qG9 (by omega)],zAD hx⟩⟩
noncomputable def zDE(s t:yA):Bool:=t.all fun x=>decide (x∈s)
noncomputable def zBG(s t:yA):Bool:=!(t.any fun x=>decide (x∈s))
theorem zEC{s t:yA}:zDE s t=true↔∀x∈t,x∈s:=by unfold zDE;simp
theorem zEO{s t:yA}:zBG s t=true↔∀x∈t,x∉s:=by unfold zBG;simp
theorem zR1{N:Net}(ok:N.g){st:yA}:zEp N st=true↔∃t∈zAc N,zDE (shI N st) t=true:=by
 have h7:=ok.in7 (by decide);rw[zI3];constructor
 ·intro h;obtain⟨u,hu,l,hp⟩:=zH9 (cs:=N.cs) (P:=fun x=>zD8 (cAt N.cs x) st=true) fun C c0 cc=>h C c0 fun c hc hs=>by obtain⟨i,hi⟩:=qI5 hc;obtain⟨e,hl⟩:=zM4 hi;have:=cc i (by omega) hl (by rw[e];exact hs);unfold Cl at this;rw[e]at this;exact this
  refine⟨zCD u.2,(zB3 _).mem_iff.mpr ((zSs h7 _).mpr ⟨u,hu,l,rfl⟩),zEC.mpr fun x hx=>?_⟩;have hx':=(zAO u.2).mem_iff.mp hx;exact zFQ.mpr ⟨((hu.wi h7).en x hx').1,hp x hx'⟩
 ·rintro⟨t,ht,ha⟩ C c0 cc;obtain⟨rs,hb⟩:=(zB2 ok t).mp ht;refine zBH.mp (zAG.mp hb).1 C c0 fun x hx=>?_;obtain⟨hr,hs⟩:=zFQ.mp (zEC.mp ha x hx);exact cc _ (qB4 (zAD hr)) hs
theorem zR2{N:Net}{L:List (yA)}(hL:zBF N.cs L){st:yA}:zEp N st=false↔∃t∈L,zBG (shI N st) t=true:=by
 constructor
 ·intro h;obtain⟨C,c0,cc,n1⟩:=zMx h;obtain⟨t,ht,hsub⟩:=hL.within (C:=fun x=>@decide (C x) (Classical.propDecidable _)) ⟨by simpa using c0,by simpa using n1⟩;refine⟨t,ht,zEO.mpr fun x hx hs=>?_⟩;obtain⟨hr,hb⟩:=zFQ.mp hs;have:=(zFl.mp (hsub x hx)).2;apply this;simp only[decide_eq_decide];exact cc _ (qB4 (zAD hr)) hb
 ·rintro⟨t,ht,hn⟩;obtain⟨C,hs,rfl,_⟩:=(hL.mem t).mp ht;cases q:zEp N st with
  |false=>rfl
  |true =>
   have:=zI3.mp q (fun v=>C v=true) hs.z fun c hc hsh=>by obtain⟨i,hi⟩:=qI5 hc;obtain⟨e,hl⟩:=zM4 hi;have:C c.a=C c.b:=Classical.byContradiction fun hne=>zEO.mp hn i (zFl.mpr ⟨⟨by omega,hl⟩,by rw[e];exact hne⟩) (zFQ.mpr ⟨⟨by omega,hl⟩,by rw[e];exact hsh⟩);rw[this]
   rw[hs.o]at this;cases this
theorem zRC(cs:yN)(x:Int):ctAt cs x=cAt cs x:=rfl
theorem zQZ{N:Net}{st t:yA}(h:zDE (shI N st) t=true):zD9 N.cs t=true:=by refine zG7.mpr fun c hc c' hc' hk=>?_;obtain⟨x,hx,rfl⟩:=qB6.mp hc;obtain⟨y,hy,rfl⟩:=qB6.mp hc';have h1:=(zFQ.mp (zEC.mp h x hx)).2;have h2:=(zFQ.mp (zEC.mp h y hy)).2;unfold zD8 at h1 h2;rw[zRC,zRC]at hk ⊢;rw[<- of_decide_eq_true h1,<- of_decide_eq_true h2,hk]
theorem zOs{N:Net}(ok:N.g){st t:yA}(hst:st∈sett N.sw.toNat)(ht:Ixs N.cs t)(h:zBG (shI N st) t=true):zD9 N.cs t=true:=by
 have bits:=(zDh _ st hst).2;have sl:=sett_len' ok hst;refine zG7.mpr fun c hc c' hc' hk=>?_;obtain⟨x,hx,rfl⟩:=qB6.mp hc;obtain⟨y,hy,rfl⟩:=qB6.mp hc';have key:∀z∈t,(cAt N.cs z).o=1 - st.getD (cAt N.cs z).k.toNat 0:=fun z hz=>by
  have hr:=ht.2 z hz;have hm:=qB4 (zAD hr);obtain⟨_,_,_,k0,k1,o0,o1⟩:=ok.c2 _ hm;have hn:¬zD8 (cAt N.cs z) st=true:=fun q=>zEO.mp h z hz (zFQ.mpr ⟨hr,q⟩);unfold zD8 at hn;simp only[decide_eq_true_eq]at hn;have hlt:(cAt N.cs z).k.toNat<st.length:=by omega
  have e:st.getD (cAt N.cs z).k.toNat 0=st[(cAt N.cs z).k.toNat]:=by rw[qF6,qA5 hlt];rfl
  rw[e]at hn ⊢;have:=bits _ (qE3 hlt);omega
 rw[zRC,zRC]at hk ⊢;rw[key x hx,key y hy,hk]
theorem zGu{N:Net}{p:yA->Bool}{L:List (yA)}(h:∀t∈L,p t=true->zD9 N.cs t=true):(L.filter (zD9 N.cs)).filter p=L.filter p:=by
 rw[List.filter_filter];apply qI6;intro t ht;cases hp:p t with
 |false=>simp
 |true=>rw[h t ht hp];rfl
theorem zLr{N:Net}(ok:N.g){L:List (yA)}(hL:zBF N.cs L){t b:yA}(ht:t∈zAc N)(hb:b∈L):(t.filter fun x=>decide (x∈b))≠[]:=by obtain⟨rs,hw⟩:=(zB2 ok t).mp ht;obtain⟨C,hs,rfl,_⟩:=(hL.mem b).mp hb;obtain⟨x,hx,hc⟩:=zRA hs rs.i (zAG.mp hw).1;intro e;have:x∈t.filter fun x=>decide (x∈cutI N.cs C):=qC6.mpr ⟨hx,decide_eq_true hc⟩;rw[e]at this;cases this
theorem zNL{l:yA}{e:Int}(nd:l.Nodup)(hne:l≠[])(h:∀x∈l,x=e):l=[e]:=by
 cases l with
 |nil=>exact absurd rfl hne
 |cons a l =>
  have ha:=h a (qD0 ..);cases l with
  |nil=>rw[ha]
  |cons b l =>
   have hb:=h b (qB9 _ (qD0 ..));rw[ha,hb]at nd;simp at nd
theorem zNP{N:Net}(ok:N.g){L:List (yA)}(hL:zBF N.cs L){t:yA}(ht:t∈zAc N){e:Int}(he:e∈t):∃b∈L,(t.filter fun x=>decide (x∈b))=[e]:=by
 obtain⟨rs,hw⟩:=(zB2 ok t).mp ht;have hj:=(zAG.mp hw).2 e he;have:¬∀C:Int->Prop,C 0->(∀x∈t.filter fun x=>decide (x≠e),Cl N.cs C x)->C 1:=fun h=>by rw[zBH.mpr h]at hj;cases hj
 simp only[Classical.not_forall]at this;obtain⟨C,c0,cc,n1⟩:=this;obtain⟨b,hb,hsub⟩:=hL.within (C:=fun x=>@decide (C x) (Classical.propDecidable _)) ⟨by simpa using c0,by simpa using n1⟩;refine⟨b,hb,zNL ((rs.r.imp fun h=>by omega:t.Nodup).filter _) (zLr ok hL ht hb) fun x hx=>?_⟩;obtain⟨hx1,hx2⟩:=qC6.mp hx;apply Classical.byContradiction;intro hne;have:=(zFl.mp (hsub x (of_decide_eq_true hx2))).2;apply this;simp only[decide_eq_decide];exact cc x (qC6.mpr ⟨hx1,decide_eq_true hne⟩)
theorem zUr{cs:yN}(g:Ct->Ct){x:Int}(h:0<=x/\x<(cs.length:Int)):cAt (cs.map g) x=g (cAt cs x):=by have a:=zAD (cs:=cs.map g) (x:=x) (by rw[qA0];exact h);rw[qC1,zAD h]at a;exact(Option.some.inj a).symm
theorem zPt{cs:yN}(f:Int->Int)(C:Int->Prop){x:Int}(h:0<=x/\x<(cs.length:Int)):Cl (cs.map (Ct.mv f)) C x↔Cl cs (fun v=>C (f v)) x:=by unfold Cl;rw[zUr _ h];exact zWm f _ C
theorem zSa{N:Net}{t:yA}(ht:∀x∈t,0<=x/\x<(N.cs.length:Int)):jI N.abt.cs t=jI N.cs t:=by
 apply zAg;rw[zBH,zBH];constructor
 ·intro h C c0 cc;apply Classical.byContradiction;intro n1;have:=h (fun v=>¬C (abF v)) (by show ¬C (abF 0);exact n1) fun x hx=>(zPt abF _ (ht x hx)).mpr (by
   unfold Cl;dsimp only;rw[abF2,abF2];exact not_congr (cc x hx))
  exact this (by show C (abF 1);exact c0)
 ·intro h C c0 cc;apply Classical.byContradiction;intro n1;have:=h (fun v=>¬C (abF v)) (by show ¬C (abF 0);exact n1) fun x hx=>by have q:=(zPt abF C (ht x hx)).mp (cc x hx);exact not_congr q
  exact this (by show C (abF 1);exact c0)
theorem zLk{N:Net}{t:yA}(ht:∀x∈t,0<=x/\x<(N.cs.length:Int)):wayB N.abt.cs t=wayB N.cs t:=by apply zAg;rw[zAG,zAG,zSa ht];have:∀e,jI N.abt.cs (t.filter fun x=>decide (x≠e))=jI N.cs (t.filter fun x=>decide (x≠e)):=fun e=>zSa fun x hx=>ht x (qC6.mp hx).1;simp only[this]
theorem zLc(N:Net):N.abt.cs.length=N.cs.length:=by show(N.cs.map _).length=_;rw[qA0]
theorem zQ7{N:Net}(ok:N.g):zAc N.abt=zAc N:=by
 refine zSA (zPV ok) ok fun t=>?_;rw[zB2 (zPV ok),zB2 ok,zLc];constructor
 ·rintro⟨rs,h⟩;exact⟨rs,by rw[<- zLk rs.i];exact h⟩
 ·rintro⟨rs,h⟩;exact⟨rs,by rw[zLk rs.i];exact h⟩
theorem zKO{N:Net}{C:Int->Bool}:cutI N.abt.cs C=cutI N.cs fun x=>!C (abF x):=by
 have m:∀x,x∈cutI N.abt.cs C↔x∈cutI N.cs fun x=>!C (abF x):=fun x=>by
  rw[zFl,zFl,zLc];constructor
  ·rintro⟨h,q⟩;refine⟨h,fun e=>q ?_⟩;have:=(zPt (cs:=N.cs) abF (fun v=>C v=true) h).mpr (by unfold Cl;dsimp only at e ⊢;rw[Bool.not_inj e]);exact zAg this
  ·rintro⟨h,q⟩;refine⟨h,fun e=>q ?_⟩;have e':Cl N.abt.cs (fun v=>C v=true) x:=by unfold Cl;dsimp only;rw[e]
   have:=(zPt (cs:=N.cs) abF (fun v=>C v=true) h).mp e';unfold Cl at this;dsimp only at this ⊢;rw[zAg this]
 have s1:Rs N.cs.length (cutI N.abt.cs C):=by refine⟨?_,fun x hx=>by have:=(zFl.mp hx).1;rw[zLc]at this;exact this⟩;unfold cutI;rw[qG1];exact(qJ5.sublist qK5).imp fun h=>by omega
 have s2:Rs N.cs.length (cutI N.cs fun x=>!C (abF x)):=by refine⟨?_,fun x hx=>(zFl.mp hx).1⟩;unfold cutI;rw[qG1];exact(qJ5.sublist qK5).imp fun h=>by omega
 exact zS1 s1 s2 m
theorem zFB{C:Int->Bool}(h:Side C):Side fun x=>!C (abF x):=⟨by show(!C (abF 0))=true;rw[show abF 0=1 from rfl,h.o];rfl,by show(!C (abF 1))=false;rw[show abF 1=0 from rfl,h.z];rfl⟩
theorem zLY{N:Net}{C:Int->Bool}:cutI N.cs C=cutI N.abt.cs fun x=>!C (abF x):=by rw[zKO];congr 1;funext x;rw[abF2];simp
theorem zJb{N:Net}{t:yA}:zGO N.abt.cs t↔zGO N.cs t:=by
 constructor
 ·intro h C hs hsub;rw[zLY]at hsub ⊢;exact h _ (zFB hs) hsub
 ·intro h C hs hsub;rw[zKO]at hsub ⊢;exact h _ (zFB hs) hsub
theorem zBF.abt{N:Net}{L:List (yA)}(h:zBF N.abt.cs L):zBF N.cs L:=by
 refine⟨h.nd,h.so,fun t=>?_⟩;rw[h.mem];constructor
 ·rintro⟨C,hs,e,l⟩;exact⟨_,zFB hs,by rw[e,zKO],zJb.mp l⟩
 ·rintro⟨C,hs,e,l⟩;exact⟨_,zFB hs,by rw[e,zLY],zJb.mpr l⟩
theorem zTX{cs:yN}{t u:yA}(h:∀x∈t,x∈u)(hj:jI cs t=true):jI cs u=true:=zBH.mpr fun C c0 cc=>zBH.mp hj C c0 fun x hx=>cc x (h x hx)
theorem zM5{cs ds:yN}{x:Int}(h:0<=x/\x<(cs.length:Int)):cAt (cs++ds) x=cAt cs x:=by have a:=zAD (cs:=cs++ds) (x:=x) (by rw[qB3];omega);rw[qA8 (by omega),zAD h]at a;exact(Option.some.inj a).symm
theorem zPM{cs ds:yN}{x:Int}(h:0<=x/\x<(ds.length:Int)):cAt (cs++ds) (x+cs.length)=cAt ds x:=by have a:=zAD (cs:=cs++ds) (x:=x+cs.length) (by rw[qB3];omega);rw[qA1 (by omega),show(x+(cs.length:Int)).toNat - cs.length=x.toNat by omega,zAD h]at a;exact(Option.some.inj a).symm
theorem zOC{N:Net}{t:yA}(ht:∀x∈t,0<=x/\x<(N.cs.length:Int)):jI (N.side N).cs t=jI N.cs t:=by unfold jI;congr 2;apply qG0;intro x hx;exact zM5 (ht x hx)
noncomputable def upBy(n:Nat)(t:yA):yA:=t.map fun x=>x+(n:Int)
theorem zIh{N:Net}(C:Int->Prop){x:Int}(h:0<=x/\x<(N.cs.length:Int)):Cl (N.side N).cs C (x+N.cs.length)↔Cl N.cs (fun v=>C (zC3 N.pl v)) x:=by
 have:Cl (N.side N).cs C (x+N.cs.length)↔Cl (N.cs.map (Ct.mv (zC3 N.pl))) C x:=by unfold Cl;rw[show(N.side N).cs=N.cs++N.cs.map (Ct.mv (zC3 N.pl))from rfl,zPM (by rw[qA0];exact h)]
 rw[this];exact zPt _ C h
theorem zLN{N:Net}(ok:N.g){u:yA}(hu:∀x∈u,0<=x/\x<(N.cs.length:Int)):jI (N.side N).cs (upBy N.cs.length u)=jI N.cs u:=by
 have p1:=ok.p1;apply zAg;rw[zBH,zBH];constructor
 ·intro h C c0 cc;have inv:∀v,0<=v->(if zC3 N.pl v=0 then(0:Int)else if zC3 N.pl v=1 then 1 else zC3 N.pl v - N.pl+2)=v:=fun v v0=>by
   unfold zC3;by_cases h0:v=0
   ·simp[h0]
   ·rw[if_neg h0];by_cases h1:v=1
    ·simp[h1]
    ·rw[if_neg h1,if_neg (by omega),if_neg (by omega)];omega
  have:=h (fun v=>C (if v=0 then 0 else if v=1 then 1 else v - N.pl+2)) (by simpa using c0) fun y hy=>by obtain⟨x,hx,rfl⟩:=qB6.mp hy;rw[zIh _ (hu x hx)];obtain⟨a0,ab,bp,_⟩:=ok.c2 _ (qB4 (zAD (hu x hx)));unfold Cl;dsimp only;rw[inv _ a0,inv _ (by omega)];exact cc x hx
  simpa using this
 ·intro h C c0 cc;have:=h (fun v=>C (zC3 N.pl v)) (by show C (zC3 N.pl 0);exact c0) fun x hx=>(zIh C (hu x hx)).mp (cc _ (qB6.mpr ⟨x,hx,rfl⟩));exact this
theorem zTY{N:Net}(ok:N.g){t:yA}(ht:Rs (N.side N).cs.length t)(hj:jI (N.side N).cs t=true):jI (N.side N).cs (t.filter fun x=>decide (x<(N.cs.length:Int)))=true∨jI (N.side N).cs (t.filter fun x=>decide (¬x<(N.cs.length:Int)))=true:=by
 have p1:=ok.p1;apply Classical.byContradiction;intro hn;rw[not_or,zBH,zBH]at hn;simp only[Classical.not_forall]at hn;obtain⟨⟨C1,c0,cc,n1⟩,C2,d0,dd,m1⟩:=hn;have:=zBH.mp hj (fun v=>(v<N.pl/\C1 v)∨(N.pl<=v/\C2 v)) (.inl ⟨by omega,c0⟩) fun x hx=>by
  have hr:=ht.i x hx;by_cases hlt:x<(N.cs.length:Int)
  ·have q:=cc x (qC6.mpr ⟨hx,decide_eq_true hlt⟩);unfold Cl at q ⊢;rw[show cAt (N.side N).cs x=cAt N.cs x from zM5 ⟨hr.1,hlt⟩]at q ⊢;obtain⟨a0,ab,bp,_⟩:=ok.c2 _ (qB4 (zAD ⟨hr.1,hlt⟩));have key:∀v,v<N.pl->(((v<N.pl/\C1 v)∨(N.pl<=v/\C2 v))↔C1 v):=fun v hv=>⟨fun z=>by rcases z with z|z;exact z.2;omega,fun z=>.inl ⟨hv,z⟩⟩
   dsimp only;rw[key _ (by omega),key _ bp];exact q
  ·have q:=dd x (qC6.mpr ⟨hx,decide_eq_true hlt⟩);have hl:(N.side N).cs.length=N.cs.length+N.cs.length:=by show(N.cs++N.cs.map _).length=_;rw[qB3,qA0]
   have hr':0<=x - N.cs.length/\x - N.cs.length<(N.cs.length:Int):=by omega
   rw[show x=(x - N.cs.length)+N.cs.length by omega,zIh _ hr']at q ⊢;obtain⟨a0,ab,bp,_⟩:=ok.c2 _ (qB4 (zAD hr'));have key:∀v,0<=v->(((zC3 N.pl v<N.pl/\C1 (zC3 N.pl v))∨(N.pl<=zC3 N.pl v/\C2 (zC3 N.pl v)))↔C2 (zC3 N.pl v)):=fun v v0=>by
    unfold zC3;by_cases h0:v=0
    ·rw[if_pos h0];exact iff_of_true (.inl ⟨by omega,c0⟩) d0
    ·rw[if_neg h0];by_cases h1:v=1
     ·rw[if_pos h1];exact iff_of_false (fun z=>by rcases z with z|z;exact n1 z.2;omega) m1
     ·rw[if_neg h1];exact⟨fun z=>by rcases z with z|z;omega;exact z.2,fun z=>.inr ⟨by omega,z⟩⟩
   unfold Cl at q ⊢;dsimp only at q ⊢;rw[key _ a0,key _ (by omega)];exact q
 rcases this with z|z
 ·exact n1 z.2
 ·omega
theorem zLv{cs:yN}{t:yA}{p:Int->Bool}(hw:wayB cs t=true)(hj:jI cs (t.filter p)=true):∀x∈t,p x=true:=by
 intro e he;cases hp:p e with
 |true=>rfl
 |false =>
  have:=(zAG.mp hw).2 e he;have h2:jI cs (t.filter fun x=>decide (x≠e))=true:=zTX (fun x hx=>by
   obtain⟨a,b⟩:=qC6.mp hx;exact qC6.mpr ⟨a,decide_eq_true fun q=>by rw[q,hp]at b;cases b⟩) hj
  rw[this]at h2;cases h2
theorem zNv(n:Nat)(u:yA)(e:Int):(upBy n u).filter (fun x=>decide (x≠e+n))=upBy n (u.filter fun x=>decide (x≠e)):=by unfold upBy;rw[qS9];congr 1;apply qI6;intro x _;simp only[Function.comp];apply decide_eq_decide.mpr;omega
theorem zLj{N:Net}{t:yA}(ht:∀x∈t,0<=x/\x<(N.cs.length:Int)):wayB (N.side N).cs t=wayB N.cs t:=by apply zAg;rw[zAG,zAG,zOC ht];have:∀e,jI (N.side N).cs (t.filter fun x=>decide (x≠e))=jI N.cs (t.filter fun x=>decide (x≠e)):=fun e=>zOC fun x hx=>ht x (qC6.mp hx).1;simp only[this]
theorem zIF{N:Net}(ok:N.g){u:yA}(hu:∀x∈u,0<=x/\x<(N.cs.length:Int)):wayB (N.side N).cs (upBy N.cs.length u)=wayB N.cs u:=by
 apply zAg;rw[zAG,zAG,zLN ok hu];have h:∀e,jI (N.side N).cs ((upBy N.cs.length u).filter fun x=>decide (x≠e+N.cs.length))=jI N.cs (u.filter fun x=>decide (x≠e)):=fun e=>by rw[zNv];exact zLN ok fun x hx=>hu x (qC6.mp hx).1
 refine and_congr_right fun _=>⟨fun q e he=>?_,fun q e he=>?_⟩
 ·rw[<- h];exact q _ (qB6.mpr ⟨e,he,rfl⟩)
 ·obtain⟨x,hx,rfl⟩:=qB6.mp he;rw[h];exact q x hx
theorem zNt{N:Net}(ok:N.g)(okS:(N.side N).g):(zAc (N.side N)).length=2*(zAc N).length:=by
 have hl:(N.side N).cs.length=N.cs.length+N.cs.length:=by show(N.cs++N.cs.map _).length=_;rw[qB3,qA0]
 have ne:∀t∈zAc N,t≠[]:=fun t ht e=>by
  have:=(zAG.mp ((zB2 ok t).mp ht).2).1;rw[e]at this;have:=zBH.mp this (fun v=>v=0) rfl fun x hx=>by cases hx
  omega
 have nd:(zAc N++(zAc N).map (upBy N.cs.length)).Nodup:=by
  rw[qE8];refine⟨zFL ok,?_,fun a ha b hb e=>?_⟩
  ·unfold List.Nodup;rw[qG1];refine(zFL ok).imp fun h e=>h ?_;exact(qK9 (fun x y (q:x+(N.cs.length:Int)=y+N.cs.length)=>by omega)).mp e
  ·obtain⟨u,hu,rfl⟩:=qB6.mp hb;obtain⟨x,hx⟩:=qN6 _ (ne a ha);have h1:=((zB2 ok a).mp ha).1.i x hx;rw[e]at hx;obtain⟨y,hy,rfl⟩:=qB6.mp hx;have h2:=((zB2 ok u).mp hu).1.i y hy;omega
 have p:(zAc (N.side N)).Perm (zAc N++(zAc N).map (upBy N.cs.length)):=(qG8 (zFL okS) nd).mpr fun t=>by
  rw[qB2,zB2 okS,zB2 ok,qB6];constructor
  ·rintro⟨rs,hw⟩;rcases zTY ok rs (zAG.mp hw).1 with q|q
   ·have hp:=zLv hw q;have hr:∀x∈t,0<=x/\x<(N.cs.length:Int):=fun x hx=>⟨(rs.i x hx).1,of_decide_eq_true (hp x hx)⟩
    exact .inl ⟨⟨rs.r,hr⟩,by rw[<- zLj hr];exact hw⟩
   ·have hp:=zLv hw q;have e:t=upBy N.cs.length (t.map fun x=>x - N.cs.length):=by
     unfold upBy;rw[qD9]
     conv=>lhs;rw[<- List.map_id t]
     apply qG0;intro x _;simp only[id,Function.comp];omega
    have hr:∀x∈t.map fun x=>x - (N.cs.length:Int),0<=x/\x<(N.cs.length:Int):=fun y hy=>by obtain⟨x,hx,rfl⟩:=qB6.mp hy;have:=rs.i x hx;have:=of_decide_eq_true (hp x hx);omega
    refine .inr ⟨_,(zB2 ok _).mpr ⟨⟨?_,hr⟩,?_⟩,e.symm⟩
    ·rw[qG1];exact rs.r.imp fun h=>by omega
    ·rw[<- zIF ok hr,<- e];exact hw
  ·rintro(⟨rs,hw⟩| ⟨u,hu,rfl⟩)
   ·exact⟨⟨rs.r,fun x hx=>by have:=rs.i x hx;omega⟩,by rw[zLj rs.i];exact hw⟩
   ·obtain⟨rs,hw⟩:=(zB2 ok u).mp hu;refine⟨⟨?_,fun y hy=>?_⟩,by rw[zIF ok rs.i];exact hw⟩
    ·unfold upBy;rw[qG1];exact rs.r.imp fun h=>by omega
    ·obtain⟨x,hx,rfl⟩:=qB6.mp hy;have:=rs.i x hx;omega
 rw[p.length_eq,qB3,qA0];omega
structure HV(cl:Nat->CLL):Prop where
 il:zF9 cl
 lw:zFm cl
 lb:zFn cl
theorem zMv(H:HV cl)(W:HW cl)(n:Nat){N:Net}(ok:N.g)(S:zA0):LstR (cl (n+11) "live_ways" [N.d] S) S (((zAc N).filter (zD9 N.cs)).map tD):=by
 obtain⟨k,S1,e1,x1,le1,l1⟩:=zAJ W n ok S;obtain⟨S2,e2,x2⟩:=zC6 tD (w:=[(k,(zAc N).map tD)]) (t:=.one) (tc:=zCv (cl (n+10))) (c:=zCw (cl (n+10))) (ρ0:=[none,some N.d]) (fun S'=>Ex S1 S') (fun S' hx=>zAQ (hx.lst l1 fun z=>z))
  (zD9 N.cs) tD (zAc N) (S:=S1) (Kp.refl _ _) (fun t ht S' hx=>by
   obtain⟨S5,e5,x5⟩:=zFj H.il (n+9) (zSz ok t ht) S';exact⟨[some (tD t),some N.d],rfl,S5,by simp[zCv,e5],fun _=>hx.trans x5,fun _=>⟨S5,by simp[zCw],hx.trans x5⟩⟩)
 have hl:((zAc N).map tD).length<lim:=by rw[qA0,zAa];have:=zEa ok;omega
 refine⟨_,_,?_,(x1.trans x2).trans (zA6 _ _),?_,zA2 _ _⟩
 ·rw[show n+11=(n+10)+1 from rfl,H.lw];exact zA7 rfl (zTO _ e1 l1 hl e2)
 ·have:=x1.le;have:=x2.le;omega
theorem zMw(H:HV cl)(B:HBr cl)(n:Nat){N:Net}(ok:N.g){L:List (yA)}(hL:zBF N.cs L)(S:zA0):LstR (cl (n+6) "live_bars" [N.d] S) S ((L.filter (zD9 N.cs)).map tD):=by
 obtain⟨L',hL',Ll,k,S1,e1,x1,le1,l1⟩:=zB8 B n ok S;have:=hL'.uniq hL;subst this;obtain⟨S2,e2,x2⟩:=zC6 tD (w:=[(k,L'.map tD)]) (t:=.one) (tc:=zCx (cl (n+5))) (c:=zCy (cl (n+5))) (ρ0:=[none,some N.d]) (fun S'=>Ex S1 S') (fun S' hx=>zAQ (hx.lst l1 fun z=>z))
  (zD9 N.cs) tD L' (S:=S1) (Kp.refl _ _) (fun t ht S' hx=>by
   obtain⟨S5,e5,x5⟩:=zFj H.il (n+4) (hL'.ix ok t ht) S';exact⟨[some (tD t),some N.d],rfl,S5,by simp[zCx,e5],fun _=>hx.trans x5,fun _=>⟨S5,by simp[zCy],hx.trans x5⟩⟩)
 have hl:(L'.map tD).length<lim:=by rw[qA0,zAa];omega
 refine⟨_,_,?_,(x1.trans x2).trans (zA6 _ _),?_,zA2 _ _⟩
 ·rw[show n+6=(n+5)+1 from rfl,H.lb];exact zA7 rfl (zTR _ e1 l1 hl e2)
 ·have:=x1.le;have:=x2.le;omega
theorem zZL(c:CLL){sd:D}{ts Z:yM}{b:Bool}{S:zA0}(hl:ts.length<lim)(e1:zAd [] .one (fun _=>ret true) (zBw c) [none,some sd] ts S=.ok Z S)(f1:zAm (fun bs=>bs.all id) [.lst S.length] (S++[.lst Z])=.ok (.bl b) (S++[.lst Z])):zAX c [some (.tup ts),some sd] S=.ok b (S++[.lst Z]):=by simp[zAX,hl,e1,f1]
theorem zZM(c:CLL){sd:D}{ts Z:yM}{b:Bool}{S:zA0}(hl:ts.length<lim)(e1:zAd [] .one (fun _=>ret true) (zBx c) [none,some sd] ts S=.ok Z S)(f1:zAm (fun bs=>bs.any id) [.lst S.length] (S++[.lst Z])=.ok (.bl b) (S++[.lst Z])):zAY c [some (.tup ts),some sd] S=.ok (!b) (S++[.lst Z]):=by simp[zAY,hl,e1,f1]
theorem zDI(o:Option (yA)):plain 40 (wOpt o)=true:=by
 cases o with
 |none=>rfl
 |some t=>exact zFW (n:=39) (zBp (by omega) t)
theorem zOX{L:List (yA)}(p:yA->Bool):atI ((L.filter p).map tD++[.non]) 0=some (wOpt (L.find? p)):=by
 have e:∀l:List (yA),atI (l.map tD++[.non]) 0=some (wOpt l.head?):=fun l=>by
  cases l with
  |nil=>exact zCq (xs:=[D.non]) (j:=0) (v:=.non) rfl
  |cons a l=>exact zCq (xs:=(a::l).map tD++[.non]) (j:=0) (v:=tD a) rfl
 rw[e,List.head?_filter]
theorem zS8{S:zA0}{k:Nat}{L:List (yA)}(h:zA4 S k=some (L.map tD)):oNe (.lst k) (.lst S.length) (S++[.lst []])=.ok (.bl (!decide (L=[]))) (S++[.lst []])/\oEq (.lst k) (.lst S.length) (S++[.lst []])=.ok (.bl (decide (L=[]))) (S++[.lst []]):=by
 have p1:(L.map tD).all (plain 39)=true:=qD8.mpr fun d hd=>by obtain⟨t,_,rfl⟩:=qB6.mp hd;exact zFW (n:=38) (zBp (by omega) t)
 have a:=zHU (S:=S++[O.lst []]) (zAq h) (zA2 S []) p1 rfl;have b:=zKl (S:=S++[O.lst []]) (zAq h) (zA2 S []) p1 rfl;have e:eqB (L.map tD) []=decide (L=[]):=zAg (by rw[zDA,List.map_eq_nil_iff,decide_eq_true_iff]);rw[e]at a b;exact⟨a,b⟩
theorem zXt(c:CLL){nd sd shd wd bd:D}{kw kb:Nat}{Lw Lb Zw Zb:yM}{lt bw bb:Bool}{w2 w3 w4:Option D}{S S1 S2 S3 S4 S5 S6 S7 S8 S9 Sa Sb Sc Sd:zA0}(e1:c "shut_at" [nd,sd] S=.ok shd S1)(e2:c "live_ways" [nd] S1=.ok (.lst kw) S2)(l2:zA4 S2 kw=some Lw)(hlw:Lw.length<lim)
  (e3:zAd [(kw,Lw)] .one (zAX c) (zCh c) [none,some shd] Lw S2=.ok Zw S3) (h4:S3++[.lst Zw]=S4) (e5:c "live_bars" [nd] S4=.ok (.lst kb) S5) (l5:zA4 S5 kb=some Lb) (hlb:Lb.length<lim)
  (e6:zAd [(kb,Lb)] .one (zAY c) (zCi c) [none,some shd] Lb S5=.ok Zb S6) (h7:S6++[.lst Zb]=S7) (q1:oNe (.lst S3.length) (.lst S7.length) (S7++[.lst []])=.ok (.bl bw) (S7++[.lst []])) (e8:c "lets" [nd,sd] (S7++[.lst []])=.ok (.bl lt) S8) (g1:bw=lt)
  (q2:oEq (.lst S6.length) (.lst S8.length) (S8++[.lst []])=.ok (.bl bb) (S8++[.lst []])) (e9:c "lets" [nd,sd] (S8++[.lst []])=.ok (.bl lt) S9) (g2:bb=lt)
  (ea:c "way_at" [nd,sd] S9=.ok wd Sa) (ab:oAdd (.lst S3.length) (.lst Sa.length) (Sa++[.lst [.non]])=.ok (.lst (Sa.length+1)) Sb) (ib:oIx (.lst (Sa.length+1)) (.int 0) Sb=.ok wd Sb) (qb:oEq wd wd Sb=.ok (.bl true) Sb)
  (ec:c "bar_at" [nd,sd] Sb=.ok bd Sc) (ad:oAdd (.lst S6.length) (.lst Sc.length) (Sc++[.lst [.non]])=.ok (.lst (Sc.length+1)) Sd) (id_:oIx (.lst (Sc.length+1)) (.int 0) Sd=.ok bd Sd) (qd:oEq bd bd Sd=.ok (.bl true) Sd) :
  zBk c [some nd,some sd,w2,w3,w4] S=.rt (.bl true) Sd:=by subst g1 g2;simp[zBk,e1,e2,l2,hlw,e3,h4,e5,l5,hlb,e6,h7,q1,e8,q2,e9,ea,ab,ib,qb,ec,ad,id_,qd]
structure H25(cl:Nat->CLL):Prop where
 d:HD cl
 se:zE8 cl
 sc:zBl cl
 le:zLe cl
 a:HA24 cl
 v:HV cl
 b:HBw cl
 m:HM cl
 ab:zIA cl
 sb:zCs cl
 nw:zCa cl
 ar:zDH cl
 mr:zCV cl
theorem H25.lets(H:H25 cl)(n:Nat){N:Net}(ok:N.g){st:yA}(hs:(st.length:Int)=N.sw)(S:zA0):Spc (cl (n+3) "lets" [N.d,zAS st] S) ((.bl (zEp N st))) S :=
 zOw H.le H.b.b.jo H.b.b.pf H.sc H.a.is n (ok.len (by decide)) (ok.in7 (by decide)) (ok.ks ⟨hs⟩) S
theorem zJo{α:Type}{p:α->Bool}{l:List α}:(!decide (l.filter p=[]))=true↔∃a∈l,p a=true:=by simp
theorem zIu(H:H25 cl)(n:Nat){N:Net}(ok:N.g){L:List (yA)}(hL:zBF N.cs L)(Ll:L.length<=32){st:yA}(hst:st∈sett N.sw.toNat)(S:zA0):Spc (cl (n+13) "_law_at_right" [N.d,zAS st] S) (.bl true) S:=by
 have hc:N.cs.length<=100:=by have:=ok.c1;omega
 have sl:=sett_len' ok hst;have hk:=ok.ks ⟨sl⟩;have wf:=zEa ok;have few:=zE9 ok;have fewb:=hL.few ok;obtain⟨S1,e1,x1⟩:=zDg H.a.sa H.a.is (n+10) N st hc hk S;rw[zSX]at e1;obtain⟨kw,S2,e2,x2,le2,l2⟩:=zMv H.v H.a.w (n+1) ok S1;obtain⟨s,hs⟩:∃s,shI N st=s:=⟨_,rfl⟩
 have hw:=zR1 ok (st:=st);have hb:=zR2 hL (st:=st);have fl1:=zGu (N:=N) (p:=zDE s) (L:=zAc N) fun t ht hp=>zQZ (st:=st) (by rw[hs];exact hp);have fl2:=zGu (N:=N) (p:=zBG s) (L:=L) fun t ht hp=>zOs ok hst (hL.ix ok t ht) (by rw[hs];exact hp);have wa:=zK4 H.a (n+1) ok hk;have ba:=zLb H.a (n+6) ok hk hL;rw[hs]at e1 hw hb wa ba;have ee:∀(t:yA) (S':zA0),zAd [] .one (fun _=>ret true) (zBw (cl (n+12))) [none,some (tD s)] (t.map D.int) S'=.ok (t.map fun x=>D.bl (decide (x∈s))) S'/\zAd [] .one (fun _=>ret true) (zBx (cl (n+12))) [none,some (tD s)] (t.map D.int) S'=.ok (t.map fun x=>D.bl (decide (x∈s))) S':=fun t S'=>by have oi:∀x,oIn false (.int x) (tD s) S'=.ok (.bl (decide (x∈s))) S':=fun x=>zBv false x _ S';exact⟨zB7 D.int (zAh S') _ t fun x hx=>⟨_,rfl,by simp[zBw,zB9,oi]⟩,zB7 D.int (zAh S') _ t fun x hx=>⟨_,rfl,by simp[zBx,zB9,oi]⟩⟩
 obtain⟨S3,e3,x3⟩:=zC6 tD (w:=[(kw,((zAc N).filter (zD9 N.cs)).map tD)]) (t:=.one) (tc:=zAX (cl (n+12))) (c:=zCh (cl (n+12))) (ρ0:=[none,some (tD s)]) (fun S'=>Ex S2 S') (fun S' hx=>zAQ (hx.lst l2 fun z=>z))
  (zDE s) tD ((zAc N).filter (zD9 N.cs)) (S:=S2) (Kp.refl _ _) (fun t ht S' hx=>by
   have tl:=(few t (qC6.mp ht).1).1;have f1:=zBy (S:=S'++[.lst (t.map fun x=>D.bl (decide (x∈s)))]) (n:=S'.length) (fun bs=>bs.all id) (fun x:Int=>decide (x∈s)) t (zA2 S' _);rw[qJ4]at f1;have e:=zZL (cl (n+12)) (by rw[qA0,zAa];omega) (ee t S').1 f1;have xe:=hx.trans (zA6 S' [.lst (t.map fun x=>D.bl (decide (x∈s)))]);exact⟨[some (tD t),some (tD s)],rfl,_,e,fun _=>xe,fun _=>⟨_,rfl,xe⟩⟩)
 rw[fl1]at e3;obtain⟨S4,h4⟩:∃S4,S3++[O.lst (((zAc N).filter (zDE s)).map tD)]=S4:=⟨_,rfl⟩
 have lw4:zA4 S4 S3.length=some (((zAc N).filter (zDE s)).map tD):=by rw[<- h4];exact zA2 _ _
 have x4:Ex S3 S4:=by rw[<- h4];exact zA6 _ _
 obtain⟨kb,S5,e5,x5,le5,l5⟩:=zMw H.v H.a.b (n+6) ok hL S4;obtain⟨S6,e6,x6⟩:=zC6 tD (w:=[(kb,(L.filter (zD9 N.cs)).map tD)]) (t:=.one) (tc:=zAY (cl (n+12))) (c:=zCi (cl (n+12))) (ρ0:=[none,some (tD s)]) (fun S'=>Ex S5 S') (fun S' hx=>zAQ (hx.lst l5 fun z=>z))
  (zBG s) tD (L.filter (zD9 N.cs)) (S:=S5) (Kp.refl _ _) (fun t ht S' hx=>by
   have tl:=(fewb t (qC6.mp ht).1).1;have f1:=zBy (S:=S'++[.lst (t.map fun x=>D.bl (decide (x∈s)))]) (n:=S'.length) (fun bs=>bs.any id) (fun x:Int=>decide (x∈s)) t (zA2 S' _);rw[qL3]at f1;have e:=zZM (cl (n+12)) (by rw[qA0,zAa];omega) (ee t S').2 f1;have xe:=hx.trans (zA6 S' [.lst (t.map fun x=>D.bl (decide (x∈s)))]);exact⟨[some (tD t),some (tD s)],rfl,_,e,fun _=>xe,fun _=>⟨_,rfl,xe⟩⟩)
 rw[fl2]at e6;obtain⟨S7,h7⟩:∃S7,S6++[O.lst ((L.filter (zBG s)).map tD)]=S7:=⟨_,rfl⟩
 have lb7:zA4 S7 S6.length=some ((L.filter (zBG s)).map tD):=by rw[<- h7];exact zA2 _ _
 have x7:Ex S6 S7:=by rw[<- h7];exact zA6 _ _
 have lw7:zA4 S7 S3.length=some (((zAc N).filter (zDE s)).map tD):=((x5.trans x6).trans x7).lst lw4 fun z=>z;obtain⟨S8,e8,x8⟩:=H.lets (n+9) ok sl (S7++[.lst []]);have lb8:zA4 S8 S6.length=some ((L.filter (zBG s)).map tD):=x8.lst (zAq lb7) fun z=>z;obtain⟨S9,e9,x9⟩:=H.lets (n+9) ok sl (S8++[.lst []]);obtain⟨Sa,ea,xa⟩:=wa S9;have xx:Ex S7 Sa:=(((zA6 S7 _).trans x8).trans (zA6 S8 _)).trans (x9.trans xa);have lwa:zA4 Sa S3.length=some (((zAc N).filter (zDE s)).map tD):=xx.lst lw7 fun z=>z;have fw:((zAc N).filter (zDE s)).length<=400:=qD3 (qE0 ..) wf;have fb:(L.filter (zBG s)).length<=32:=qD3 (qE0 ..) Ll;have ab:=zCX (S:=Sa++[O.lst [.non]]) (zAq lwa) (zA2 Sa _) (by rw[qA0,zAa];simp;omega);rw[show(Sa++[O.lst [.non]]).length=Sa.length+1 by simp]at ab;obtain⟨Sb,hSb⟩:∃Sb,Sa++[O.lst [.non]]++[O.lst (((zAc N).filter (zDE s)).map tD++[.non])]=Sb:=⟨_,rfl⟩
 have lSb:zA4 Sb (Sa.length+1)=some (((zAc N).filter (zDE s)).map tD++[.non]):=by rw[<- hSb];have:=zA2 (Sa++[O.lst [.non]]) (((zAc N).filter (zDE s)).map tD++[.non]);rwa[show(Sa++[O.lst [.non]]).length=Sa.length+1 by simp]at this
 have ib:=zCW lSb 0;rw[zOX]at ib;dsimp only at ib;rw[hSb]at ab;have xb:Ex Sa Sb:=by rw[<- hSb];exact(zA6 Sa _).trans (zA6 _ _)
 obtain⟨Sc,ec,xc⟩:=ba Sb;have lbc:zA4 Sc S6.length=some ((L.filter (zBG s)).map tD):=(((zA6 S8 _).trans (x9.trans xa)).trans (xb.trans xc)).lst lb8 fun z=>z;have ad:=zCX (S:=Sc++[O.lst [.non]]) (zAq lbc) (zA2 Sc _) (by rw[qA0,zAa];simp;omega);rw[show(Sc++[O.lst [.non]]).length=Sc.length+1 by simp]at ad;obtain⟨Sd,hSd⟩:∃Sd,Sc++[O.lst [.non]]++[O.lst ((L.filter (zBG s)).map tD++[.non])]=Sd:=⟨_,rfl⟩
 have lSd:zA4 Sd (Sc.length+1)=some ((L.filter (zBG s)).map tD++[.non]):=by rw[<- hSd];have:=zA2 (Sc++[O.lst [.non]]) ((L.filter (zBG s)).map tD++[.non]);rwa[show(Sc++[O.lst [.non]]).length=Sc.length+1 by simp]at this
 have id_:=zCW lSd 0;rw[zOX]at id_;dsimp only at id_;rw[hSd]at ad;have xd:Ex Sc Sd:=by rw[<- hSd];exact(zA6 Sc _).trans (zA6 _ _)
 have g1:(!decide ((zAc N).filter (zDE s)=[]))=zEp N st:=zAg (zJo.trans hw.symm);have g2:decide (L.filter (zBG s)=[])=zEp N st:=by have:(!decide (L.filter (zBG s)=[]))=!zEp N st:=zAg (zJo.trans (hb.symm.trans (by cases zEp N st<;>simp)));exact Bool.not_inj this
 have pw:=zJ6 Sb (zDI ((zAc N).find? (zDE s))) (zDI ((zAc N).find? (zDE s)));have pb:=zJ6 Sd (zDI (L.find? (zBG s))) (zDI (L.find? (zBG s)));rw[zFF]at pw pb;refine⟨Sd,?_,?_⟩
 ·rw[show n+13=(n+12)+1 from rfl,H.ar];exact zA7 rfl (zXt _ e1 e2 l2 (by rw[qA0,zAa];have:=qE0 (zD9 N.cs) (zAc N);omega) e3 h4 e5 l5 (by rw[qA0,zAa];have:=qE0 (zD9 N.cs) L;omega) e6 h7 (zS8 lw7).1 e8 g1 (zS8 lb8).2 e9 g2 ea ab ib pw ec ad id_ pb)
 ·exact(((x1.trans x2).trans (x3.trans x4)).trans ((x5.trans x6).trans x7)).trans ((xx.trans xb).trans (xc.trans xd))
theorem zKq{f g:yA}(e:f.map D.int=g.map D.int):f=g:=by have:=congrArg (qQ8 fun d:D=>match d with|.int i=>i|_=>0) e;rw[qD9,qD9]at this;simpa[Function.comp_def]using this
theorem zLP(l:yA):(l.map D.int).all (plain 39)=true:=qD8.mpr (zBp (by omega) l)
theorem zIO{S:zA0}:∀{rs:List Nat}{gs:List (yA)},rs.map (zA4 S)=gs.map (fun g=>some (g.map D.int))->(rs.map D.lst).mapM (snap 40 S)=some (gs.map fun g=>PyData.list ((g.map D.int).map (pdat 39)))
 |[],[],_=>rfl
 |[],_::_,h=>by cases h
 |_::_,[],h=>by cases h
 |r::rs,g::gs,h=>by rw[qB5,qB5,qT3.injEq]at h;rw[qB5,qF4,zIO h.2,zDK h.1 (zLP g)];rfl
theorem zLA{S:zA0}{k j:Nat}{rs:List Nat}{gs:List (yA)}{f:yA}(h:zA4 S k=some (rs.map D.lst))(con:rs.map (zA4 S)=gs.map fun g=>some (g.map D.int))(lf:zA4 S j=some (f.map D.int))(neg:Bool):oIn neg (.lst j) (.lst k) S=.ok (.bl (if neg then !decide (f∈gs)else decide (f∈gs))) S:=by
 have e1:=zDK lf (zLP f);have e2:=zIO con;have e3:(gs.map fun g=>PyData.list ((g.map D.int).map (pdat 39))).any (fun d=>PyData.eqv d (.list ((f.map D.int).map (pdat 39))))=decide (f∈gs):=by
  refine zAg ?_;rw[qS1,decide_eq_true_iff];have q:∀g:yA,PyData.eqv (.list ((g.map D.int).map (pdat 39))) (.list ((f.map D.int).map (pdat 39)))=true↔g=f:=fun g=>(show _↔g.map D.int=f.map D.int from zCN (zDz 39) _ _ (zLP g) (zLP f)).trans ⟨zKq,fun e=>by rw[e]⟩;constructor
  ·rintro⟨d,hd,hq⟩;obtain⟨g,hg,rfl⟩:=qB6.mp hd;exact(q g).mp hq▸hg
  ·intro hf;exact⟨_,qB6.mpr ⟨f,hf,rfl⟩,(q f).mpr rfl⟩
 unfold oIn;dsimp only;have hs:zHM S (.lst k)=some (rs.map D.lst):=h;have hf:flat (.lst j)=none:=rfl;simp only[hs,hf,e1,e2,e3]
noncomputable def shr(t b:yA):yA:=t.filter fun x=>decide (x∈b)
theorem zZi(c:CLL){t b:yA}(tl:t.length<=100)(S:zA0):zAn c [some (tD b),some (tD t)] S=.ok (.lst S.length) (S++[.lst ((shr t b).map D.int)]):=by
 have e:zAd [] .one (zBJ c) (zBK c) [none,some (tD b)] (t.map D.int) S=.ok ((shr t b).map D.int) S :=
  zBz D.int (zAh S) _ _ _ fun x hx=>⟨_,rfl,by
   have:oIn false (.int x) (tD b) S=.ok (.bl (decide (x∈b))) S:=zBv false x _ S;simp[zBJ,zB9,this],fun _=>by simp[zBK,zB9]⟩
 have hl:(t.map D.int).length<lim:=by rw[qA0,zAa];omega
 show zAn c [some (tD b),some (.tup (t.map D.int))] S=_;generalize t.map D.int=T at *;simp[zAn,hl,e]
inductive ShR(t:yA)(l:List (yA))(S:zA0)(r:R (yM)):Prop
 |mk (rs:List Nat) (S':zA0) (e:r=.ok (rs.map D.lst) S') (x:Ex S S') (h:rs.map (zA4 S')=l.map fun b=>some ((shr t b).map D.int))
theorem zHf(c:CLL){t:yA}(tl:t.length<=100){w:zDb}{S0:zA0}(hw:∀S',Ex S0 S'->okW w S'):∀(l:List (yA)) (S:zA0),Ex S0 S->ShR t l S (zAd w .one (fun _=>ret true) (zAn c) [none,some (tD t)] (l.map tD) S)
 |[],S,x=>⟨[],S,by rw[qH2];unfold zAd;rw[if_pos (hw S x)];rfl,Kp.refl _ _,rfl⟩
 |b::l,S,x=>by
  have x1:=zA6 S [.lst ((shr t b).map D.int)];obtain⟨rs,S',e3,x3,h3⟩:=zHf c tl hw l _ (x.trans x1);refine⟨S.length::rs,S',?_,x1.trans x3,?_⟩
  ·have e4:=zZi c (b:=b) tl S;rw[qB5];unfold zAd;rw[if_pos (hw S x)];have e0:zH5 .one (tD b) [none,some (tD t)]=some [some (tD b),some (tD t)]:=rfl;rw[e0];dsimp only;rw[zC1,zVw,zAW,if_pos rfl,zC1,e4,zAW,zC1,e3,zAW];rfl
  ·rw[qB5,qB5,h3,x3.lst (zA2 S _) fun z=>z]
theorem zTN(c:CLL){nd:D}{k1 k2:Nat}{ts L Z:yM}{w4:Option D}{S S1 S2:zA0}(l2:zA4 S k2=some L)(hl:L.length<lim)(e1:zAd [(k2,L)] .one (fun _=>ret true) (zAn c) [none,some (.tup ts)] L S=.ok Z S1)(h2:S1++[.lst Z]=S2)(q1:oIn false (.lst S2.length) (.lst S1.length) (S2++[.lst []])=.ok (.bl false) (S2++[.lst []]))
  (ht:ts.length<lim) {S3 S4:zA0} (h3:S2++[.lst []]=S3) (e2:zAd [] .one (zAB c) (zBL c) [none,some (.lst S1.length)] ts S3=.ok [] S4) (q2:oNe (.lst S4.length) (.lst (S4.length+1)) (S4++[.lst [],.lst []])=.ok (.bl false) (S4++[.lst [],.lst []])) :
  zAC c [some nd,some (.lst k1),some (.lst k2),some (.tup ts),w4] S=.nx [some nd,some (.lst k1),some (.lst k2),some (.tup ts),some (.lst S1.length)] (S4++[.lst [],.lst []]):=by rw[h3]at q1;simp[zAC,l2,hl,e1,h2,q1,h3,ht,e2,q2]
theorem zZh(c:CLL){x:Int}{k:Nat}{b:Bool}{S:zA0}(q:oIn true (.lst S.length) (.lst k) (S++[.lst [.int x]])=.ok (.bl b) (S++[.lst [.int x]])):zAB c [some (.int x),some (.lst k)] S=.ok b (S++[.lst [.int x]]):=by simp[zAB,q]
theorem zJu{rs:List Nat}{gs:List (yA)}{S S':zA0}(con:rs.map (zA4 S)=gs.map fun g=>some (g.map D.int))(e:Ex S S'):rs.map (zA4 S')=gs.map fun g=>some (g.map D.int):=by rw[<- con];apply qG0;intro r hr;have:zA4 S r∈rs.map (zA4 S):=qB6.mpr ⟨r,hr,rfl⟩;rw[con]at this;obtain⟨g,_,hg⟩:=qB6.mp this;rw[<- hg];exact e.lst hg.symm fun z=>z
theorem zTM(c:CLL){nd:D}{k1 k2:Nat}{L1 L2 Z1 Z2:yM}{w1 w2 w3 w4 v3 v4:Option D}{S S1 S2 S3 S4 S5 S6 S7:zA0}(e1:c "all_ways" [nd] S=.ok (.lst k1) S1)(e2:c "all_bars" [nd] S1=.ok (.lst k2) S2)(l1:zA4 S2 k1=some L1)(h1:L1.length<lim)(e3:zAd [(k1,L1)] .one (fun _=>ret true) (zB4 c) [none,some nd] L1 S2=.ok Z1 S3)(h4:S3++[.lst Z1]=S4)(f1:zAm (fun bs=>bs.all id) [.lst S3.length] S4=.ok (.bl true) S4)
  (l2:zA4 S4 k2=some L2) (h2:L2.length<lim) (e4:zAd [(k2,L2)] .one (fun _=>ret true) (zB5 c) [none,some nd] L2 S4=.ok Z2 S5) (h6:S5++[.lst Z2]=S6) (f2:zAm (fun bs=>bs.all id) [.lst S5.length] S6=.ok (.bl true) S6)
  (l3:zA4 S6 k1=some L1) (h3:(cutD L1 none (some 12)).length<lim) (e5:zBb [(S6.length,cutD L1 none (some 12))] (gN 3) (zAC c) (cutD L1 none (some 12)) [some nd,some (.lst k1),some (.lst k2),w3,w4] (S6++[.lst (cutD L1 none (some 12))])=.nx [some nd,some (.lst k1),some (.lst k2),v3,v4] S7) :
  zAL c [some nd,w1,w2,w3,w4] S=.rt (.bl true) S7:=by have sl:=zOh l3 none (some 12);have ln:=zA2 S6 (cutD L1 none (some 12));simp[zAL,e1,e2,l1,h1,e3,h4,f1,l2,h2,e4,h6,f2,sl,ln,h3,e5]
theorem zGy(L:List (yA)):cutD (L.map tD) none (some 12)=(L.take 12).map tD:=by have h0:HT.sIx (L.map tD).length 0 none=0:=rfl;have h1:HT.sIx (L.map tD).length (L.map tD).length (some 12)=min 12 (L.map tD).length:=HT.sIx_nat _ _ 12;unfold cutD;rw[h0,h1,qL4,qQ7,List.map_take,List.take_eq_take_iff];omega
theorem zG2(H:H25 cl)(n:Nat){N:Net}(ok:N.g)(S:zA0):Spc (cl (n+12) "_law_meet_right" [N.d] S) (.bl true) S:=by
 have wf:=zEa ok;have few:=zE9 ok;obtain⟨k1,S1,e1,x1,le1,l1⟩:=zAJ H.a.w (n+1) ok S;obtain⟨L,hL,Ll,k2,S2,e2,x2,le2,l2⟩:=zB8 H.a.b (n+6) ok S1;have fewb:=hL.few ok;have l1':zA4 S2 k1=some ((zAc N).map tD):=x2.lst l1 fun z=>z;obtain⟨S3,e3,x3⟩:=zCO tD (w:=[(k1,(zAc N).map tD)]) (t:=.one) (c:=zB4 (cl (n+11))) (ρ0:=[none,some N.d]) (fun S'=>Ex S2 S') (fun S' hx=>zAQ (hx.lst l1' fun z=>z))
  (fun _=>D.bl true) (zAc N) (S:=S2) (Kp.refl _ _) (fun t ht S' hx=>by
   have tl:=(few t ht).1;obtain⟨rs,hw⟩:=(zB2 ok t).mp ht;obtain⟨S4,e4,x4⟩:=zMA H.b (n+7) ok (x:=tD t) (S:=S') ⟨zWy _ _,fun xs e y hy=>by cases e;obtain⟨i,_,rfl⟩:=qB6.mp hy;exact zWz _ _⟩ (fun xs e=>by cases e;rw[qA0];omega);have hwx:wayX N.cs (tD t)=true:=by
    unfold wayX;have:chB N.cs.length (tD t)=true:=zOY _ none t rs fun p e=>by cases e
    rw[this,if_pos rfl];show(match zCj (t.map D.int)with|some t=>wayB N.cs t|none=>false)=true;rw[zCM];exact hw
   rw[hwx]at e4;exact⟨[some (tD t),some N.d],rfl,S4,by simp[zB4,e4],hx.trans x4⟩)
 have f1:=zBy (S:=S3++[.lst ((zAc N).map fun _=>D.bl true)]) (n:=S3.length) (fun bs=>bs.all id) (fun _:yA=>true) (zAc N) (zA2 S3 _);rw[show((zAc N).map fun _=>true).all id=true by simp]at f1;obtain⟨S4,h4⟩:∃S4,S3++[O.lst ((zAc N).map fun _=>D.bl true)]=S4:=⟨_,rfl⟩
 have x4:Ex S3 S4:=by rw[<- h4];exact zA6 _ _
 have l2':zA4 S4 k2=some (L.map tD):=(x3.trans x4).lst l2 fun z=>z;obtain⟨S5,e5,x5⟩:=zCO tD (w:=[(k2,L.map tD)]) (t:=.one) (c:=zB5 (cl (n+11))) (ρ0:=[none,some N.d]) (fun S'=>Ex S4 S') (fun S' hx=>zAQ (hx.lst l2' fun z=>z))
  (fun _=>D.bl true) L (S:=S4) (Kp.refl _ _) (fun t ht S' hx=>by
   obtain⟨C,hs,rfl,hl⟩:=(hL.mem t).mp ht;obtain⟨S6,e6,x6⟩:=zHs H.a.b.s (n+7) ok hs S';rw[zLL.mpr hl]at e6;exact⟨[some (tD (cutI N.cs C)),some N.d],rfl,S6,by simp[zB5,e6],hx.trans x6⟩)
 have f2:=zBy (S:=S5++[.lst (L.map fun _=>D.bl true)]) (n:=S5.length) (fun bs=>bs.all id) (fun _:yA=>true) L (zA2 S5 _);rw[show(L.map fun _=>true).all id=true by simp]at f2;obtain⟨S6,h6⟩:∃S6,S5++[O.lst (L.map fun _=>D.bl true)]=S6:=⟨_,rfl⟩
 have x6:Ex S5 S6:=by rw[<- h6];exact zA6 _ _
 have l3:zA4 S6 k1=some ((zAc N).map tD):=(((x3.trans x4).trans (x5.trans x6))).lst l1' fun z=>z;have l4:zA4 S6 k2=some (L.map tD):=(x5.trans x6).lst l2' fun z=>z;obtain⟨S7,h7⟩:∃S7,S6++[O.lst (((zAc N).take 12).map tD)]=S7:=⟨_,rfl⟩
 have x7:Ex S6 S7:=by rw[<- h7];exact zA6 _ _
 have l7:zA4 S7 S6.length=some (((zAc N).take 12).map tD):=by rw[<- h7];exact zA2 _ _
 have l5:zA4 S7 k2=some (L.map tD):=x7.lst l4 fun z=>z;have hLl:(L.map tD).length<lim:=by rw[qA0,zAa];omega
 obtain⟨ρ',S8,e8,v3,v4,rfl,x8⟩:=zBQ (w:=[(S6.length,((zAc N).take 12).map tD)]) (g:=gN 3) (b:=zAC (cl (n+11))) (items:=((zAc N).take 12).map tD)
  (fun i ρ S'=>∃v3 v4,ρ=[some N.d,some (.lst k1),some (.lst k2),v3,v4]/\Ex S7 S') (ρ:=[some N.d,some (.lst k1),some (.lst k2),none,none]) (S:=S7) (fun i ρ S' hp=>by obtain⟨_,_,_,hx⟩:=hp;exact zAQ (hx.lst l7 fun z=>z)) ⟨none,none,rfl,Kp.refl _ _⟩
  (fun i d ρ S' hd hp=>by
   obtain⟨v3,v4,rfl,hx⟩:=hp;rw[qC1]at hd;obtain⟨t,ht',rfl⟩:=qA4.mp hd;have ht:t∈zAc N:=qG4 (qB4 ht');have tl:=(few t ht).1;have l8:zA4 S' k2=some (L.map tD):=hx.lst l5 fun z=>z;obtain⟨rs,T1,g1,y1,con⟩:=zHf (cl (n+11)) (t:=t) (by omega) (w:=[(k2,L.map tD)]) (S0:=S') (fun S'' hx'=>zAQ (hx'.lst l8 fun z=>z)) L S' (Kp.refl _ _);have con':rs.map (zA4 T1)=(L.map (shr t)).map fun g=>some (g.map D.int):=by rw[con,qD9];rfl
   obtain⟨T2,h2⟩:∃T2,T1++[O.lst (rs.map D.lst)]=T2:=⟨_,rfl⟩
   have y2:Ex T1 T2:=by rw[<- h2];exact zA6 _ _
   have lT:zA4 T2 T1.length=some (rs.map D.lst):=by rw[<- h2];exact zA2 _ _
   obtain⟨T3,h3⟩:∃T3,T2++[O.lst []]=T3:=⟨_,rfl⟩
   have y3:Ex T2 T3:=by rw[<- h3];exact zA6 _ _
   have lT3:zA4 T3 T1.length=some (rs.map D.lst):=y3.lst lT fun z=>z;have ln:zA4 T3 T2.length=some (([]:yA).map D.int):=by rw[<- h3];exact zA2 _ _
   have q1:=zLA lT3 (zJu (zJu con' y2) y3) ln false;have n1:[]∉L.map (shr t):=fun hm=>by obtain⟨b,hb,e⟩:=qB6.mp hm;exact zLr ok hL ht hb e
   simp only[n1,decide_false]at q1;obtain⟨T4,g2,y4⟩:=zC6 D.int (w:=[]) (t:=.one) (tc:=zAB (cl (n+11))) (c:=zBL (cl (n+11))) (ρ0:=[none,some (.lst T1.length)]) (fun S''=>Ex T3 S'') (fun _ _=>zAh _)
    (fun _=>false) D.int t (S:=T3) (Kp.refl _ _) (fun x hxt S'' hx'=>by
     have y5:=zA6 S'' [.lst [.int x]];have q:=zLA (f:=[x]) (((hx'.trans y5)).lst lT3 fun z=>z) (zJu (zJu (zJu con' y2) y3) (hx'.trans y5)) (zA2 S'' _) true;obtain⟨b,hb,e⟩:=zNP ok hL ht hxt;have hm:[x]∈L.map (shr t):=qB6.mpr ⟨b,hb,e⟩;simp only[hm,decide_true]at q;exact⟨[some (.int x),some (.lst T1.length)],rfl,_,zZh _ q,fun _=>hx'.trans y5,fun z=>by cases z⟩)
   rw[show t.filter (fun _=>false)=[] by simp]at g2;have eT:T4++[O.lst [],O.lst []]=T4++[O.lst []]++[O.lst []]:=by simp
   have q2:=zHU (S:=T4++[O.lst []]++[O.lst []]) (zAq (zA2 T4 [])) (zA2 (T4++[O.lst []]) []) rfl rfl;rw[<- eT,show(T4++[O.lst []]).length=T4.length+1 by simp,zFF]at q2;refine⟨[some N.d,some (.lst k1),some (.lst k2),some (tD t),v4],S',rfl,_,_,.inl (zTN _ l8 hLl g1 h2 (by rw[h3];exact q1) (by rw[qA0,zAa];omega) h3 g2 q2),_,_,rfl,?_⟩;exact((hx.trans y1).trans (y2.trans y3)).trans (y4.trans (zA6 _ _)))
 rw[<- h7,<- zGy]at e8;rw[h4]at f1;rw[h6]at f2;refine⟨S8,?_,((x1.trans x2).trans ((x3.trans x4).trans (x5.trans x6))).trans (x7.trans x8)⟩;rw[show n+12=(n+11)+1 from rfl,H.mr];exact zA7 rfl (zTM _ e1 e2 l1' (by rw[qA0,zAa];omega) e3 h4 f1 l2' hLl e5 h6 f2 l3 (by rw[zGy,qA0,zAa];have:=List.length_take_le 12 (zAc N);omega) e8)
theorem zR5(c:CLL){sc nd nda:D}{i j ks kw kw' kb kb':Nat}{jj r mo:Int}{Ls Zs:yM}{pl sw:Int}{csd:D}{nc:Nat}{w2 w3:Option D}{S S1 S2 S3 S4 S5 S6 S7 S8 S9 Sa Sb Sc Sd Se:zA0}(e1:c "_law_state" [sc,.int jj] S=.ok (.lst i) S1)(h2:S1++[.lst [.int 5,.int 8,.int 12]]=S2)(hj:S1.length=j)(e3:c "_law_take" [.lst i,.int 3] S2=.ok (.int r) S3)(em:oIx (.lst j) (.int r) S3=.ok (.int mo) S3)
  (e4:c "_law_net" [.lst i,.int 4,.int 6,.int mo] S3=.ok nd S4) (i0:∀S,oIx nd (.int 0) S=.ok (.int sw) S) (e5:c "settings" [.int sw] S4=.ok (.lst ks) S5) (l5:zA4 S5 ks=some Ls) (h5:Ls.length<lim) (e6:zAd [(ks,Ls)] .one (fun _=>ret true) (zEr c) [none,some nd] Ls S5=.ok Zs S6) (h7:S6++[.lst Zs]=S7) (f1:zAm (fun bs=>bs.all id) [.lst S6.length] S7=.ok (.bl true) S7)
  (e8:c "_law_meet_right" [nd] S7=.ok (.bl true) S8) (e9:c "about" [nd] S8=.ok nda S9) (ea:c "all_ways" [nda] S9=.ok (.lst kw) Sa) (eb:c "all_ways" [nd] Sa=.ok (.lst kw') Sb) (q1:oNe (.lst kw) (.lst kw') Sb=.ok (.bl false) Sb)
  (ec:c "about" [nd] Sb=.ok nda Sc) (ed:c "all_bars" [nda] Sc=.ok (.lst kb) Sd) (ee:c "all_bars" [nd] Sd=.ok (.lst kb') Se) (q2:oNe (.lst kb) (.lst kb') Se=.ok (.bl false) Se) (i1:∀S,oIx nd (.int 1) S=.ok (.int pl) S) (i2:∀S,oIx nd (.int 2) S=.ok csd S) (fl:∀S,fLen [csd] S=.ok (.int nc) S) :
  (¬(pl<5/\(nc:Int)<9)->zBY c [some sc,some (.int jj),w2,w3] S=.nx [some sc,some (.int jj),some (.lst i),some nd] Se) /\
  (pl<5/\(nc:Int)<9->∀(ns:D) (k1 k2:Nat) (m:Int) (T1 T2 T3:zA0),c "side_by_side" [nd,nd] Se=.ok ns T1->c "all_ways" [ns] T1=.ok (.lst k1) T2->fLen [.lst k1] T2=.ok (.int (2*m)) T2->c "all_ways" [nd] T2=.ok (.lst k2) T3->fLen [.lst k2] T3=.ok (.int m) T3->0<=m->m<=400->zBY c [some sc,some (.int jj),w2,w3] S=.nx [some sc,some (.int jj),some (.lst i),some nd] T3):=by
 constructor
 ·intro hn;by_cases hp:pl<5
  ·have hq:¬(nc:Int)<9:=fun z=>hn ⟨hp,z⟩;generalize hnn:(nc:Int)=m at *;simp[zBY,e1,h2,hj,e3,em,e4,i0,e5,l5,h5,e6,h7,f1,e8,e9,ea,eb,q1,ec,ed,ee,q2,i1,i2,fl,hp,hq]
  ·simp[zBY,e1,h2,hj,e3,em,e4,i0,e5,l5,h5,e6,h7,f1,e8,e9,ea,eb,q1,ec,ed,ee,q2,i1,i2,fl,hp]
 ·rintro⟨hp,hq⟩ ns k1 k2 m T1 T2 T3 g1 g2 g3 g4 g5 m0 m1;generalize hnn:(nc:Int)=q at *;have mo2:zER 2 m=true:=by unfold zER;simp
  simp[zBY,e1,h2,hj,e3,em,e4,i0,e5,l5,h5,e6,h7,f1,e8,e9,ea,eb,q1,ec,ed,ee,q2,i1,i2,fl,hp,hq,g1,g2,g3,g4,g5,mo2]
theorem zQc(L:List (yA)):(L.map tD).all (plain 39)=true:=qD8.mpr fun d hd=>by obtain⟨t,_,rfl⟩:=qB6.mp hd;exact zFW (n:=38) (zBp (by omega) t)
theorem zYD(H:H25 cl)(n:Nat)(ns:yA){sc:D}(hsc:D.rol (ns.map D.int)=sc)(jj:Int)(hj:0<=jj)(S:zA0)(w2 w3:Option D):∃v2 v3 S',zBY (cl (n+14)) [some sc,some (.int jj),w2,w3] S=.nx [some sc,some (.int jj),v2,v3] S':=by
 obtain⟨S1,e1,x1,st1⟩:=zMh H.d.st H.d.ce (n+12) ns jj hj S;rw[hsc]at e1;obtain⟨i0,hi0⟩:∃i0,S.length=i0:=⟨_,rfl⟩
 rw[hi0]at e1 st1;have x2:=zA6 S1 [.lst [.int 5,.int 8,.int 12]];obtain⟨r1,S3,e3,b1,b2,k3,n3,st3⟩:=zAA H.d.ta (n+13) (st1.ex x2) (m:=3) (by decide) (by decide);have l3:zA4 S3 S1.length=some [.int 5,.int 8,.int 12]:=k3.lst (zA2 _ _) (by have:=st1.lt;omega);obtain⟨mo,em,mo1,mo2⟩:∃mo,oIx (.lst S1.length) (.int r1) S3=.ok (.int mo) S3/\0<=mo/\mo<=16:=by
  have e:=zCW l3 r1;have:r1=0∨r1=1∨r1=2:=by omega
  rcases this with rfl|rfl|rfl
  ·exact⟨5,by rw[e];rfl,by decide,by decide⟩
  ·exact⟨8,by rw[e];rfl,by decide,by decide⟩
  ·exact⟨12,by rw[e];rfl,by decide,by decide⟩
 obtain⟨N,S4,e4,okN,k4',st4⟩:=zQS H.d.ne H.d.en H.d.ta (n+11) st3 (ms:=4) (mp:=6) (mc:=mo) (by decide) (by decide) ⟨mo1,mo2⟩;have ok:N.g:=okN.up (by decide) (by decide) mo2;have okA:N.abt.g:=zPV ok;have wf:=zEa ok;obtain⟨ks,S5,e5,x5,le5,l5⟩:=zHK H.se (n+13) (by have:=ok.s1;omega) ok.s2 S4;obtain⟨L,hL,Ll,kz,S5',e5',x5',_,_⟩:=zB8 H.a.b n ok [];obtain⟨S6,e6,x6⟩:=zCO zAS (w:=[(ks,(sett N.sw.toNat).map zAS)]) (t:=.one) (c:=zEr (cl (n+14))) (ρ0:=[none,some N.d]) (fun S'=>Ex S5 S') (fun S' hx=>zAQ (hx.lst l5 fun z=>z))
  (fun _=>D.bl true) (sett N.sw.toNat) (S:=S5) (Kp.refl _ _) (fun st hst S' hx=>by
   obtain⟨S6,e6,x6⟩:=zIu H (n+1) ok hL Ll hst S';exact⟨[some (zAS st),some N.d],rfl,S6,by simp[zEr,e6],hx.trans x6⟩)
 have f1:=zBy (S:=S6++[.lst ((sett N.sw.toNat).map fun _=>D.bl true)]) (n:=S6.length) (fun bs=>bs.all id) (fun _:yA=>true) (sett N.sw.toNat) (zA2 S6 _);rw[show((sett N.sw.toNat).map fun _=>true).all id=true by simp]at f1;obtain⟨S7,h7⟩:∃S7,S6++[O.lst ((sett N.sw.toNat).map fun _=>D.bl true)]=S7:=⟨_,rfl⟩
 rw[h7]at f1;obtain⟨S8,e8,x8⟩:=zG2 H (n+2) ok S7;obtain⟨S9,e9,x9⟩:=zHF H.ab H.m (n+11) ok S8;obtain⟨kw,Sa,ea,xa,lea,la⟩:=zAJ H.a.w (n+4) okA S9;rw[zQ7 ok]at la;obtain⟨kw',Sb,eb,xb,leb,lb⟩:=zAJ H.a.w (n+4) ok Sa;have q1:=zHU (xb.lst la fun z=>z) lb (zQc _) (zQc _);rw[zFF]at q1;obtain⟨Sc,ec,xc⟩:=zHF H.ab H.m (n+11) ok Sb;obtain⟨La,hLa,Lla,kb,Sd,ed,xd,led,ld⟩:=zB8 H.a.b (n+9) okA Sc;have:=hLa.abt.uniq hL;subst this;obtain⟨Lb,hLb,Llb,kb',Se,ee,xe,lee,le⟩:=zB8 H.a.b (n+9) ok Sd;have:=hLb.uniq hL;subst this;have q2:=zHU (xe.lst ld fun z=>z) le (zQc _) (zQc _);rw[zFF]at q2;have hse:((sett N.sw.toNat).map zAS).length<lim:=by rw[qA0,zHL,zAa];exact qK8 (qF5 (by omega) (show N.sw.toNat<=4 by have:=ok.s2;omega)) (by decide)
 have key:=zR5 (cl (n+14)) (w2:=w2) (w3:=w3) (sw:=N.sw) (pl:=N.pl) (csd:=.tup (N.cs.map Ct.d)) (nc:=N.cs.length) e1 rfl rfl e3 em e4 (fun S=>by unfold Net.d;simp) e5 l5 hse e6 h7 f1 e8 e9 ea eb q1 ec ed ee q2 (fun S=>by unfold Net.d;simp) (fun S=>zKP S) (fun S=>by show R.ok (D.int ((N.cs.map Ct.d).length:Nat)) S=_;rw[qA0]);by_cases hb:N.pl<5/\(N.cs.length:Int)<9
 ·have ok4:N.ok 4 4 8:=⟨ok.s1,ok.s2,ok.p1,by omega,by omega,ok.c2⟩
  have okS:(N.side N).g:=zSU ok4 ok4 rfl;obtain⟨T1,g1,y1⟩:=zNM H.sb H.nw H.m (n+11) ok ok okS Se;obtain⟨k1,T2,g2,y2,_,m2⟩:=zAJ H.a.w (n+4) okS T1;obtain⟨k2,T3,g3,y3,_,m3⟩:=zAJ H.a.w (n+4) ok T2;have fl2:=zFE m2;have fl3:=zFE m3;rw[qA0]at fl2 fl3;rw[zNt ok okS]at fl2;exact⟨_,_,T3,key.2 hb _ k1 k2 ((zAc N).length:Int) T1 T2 T3 g1 g2 (by rw[fl2];simp) g3 fl3 (by omega) (by omega)⟩
 ·exact⟨_,_,Se,key.1 hb⟩
theorem zZl(h:zJZ cl)(H:H25 cl)(n:Nat)(ns:yA):∃S',cl (n+15) "law" [.rol (ns.map D.int)] []=.ok (.bl true) S':=by
 rw[show n+15=(n+14)+1 from rfl,h];generalize hsc:D.rol (ns.map D.int)=sc;have hm:∃q:Int,(if(if(5:Int)<(ns.length:Int)then 5 else(ns.length:Int))>1 then(if(5:Int)<(ns.length:Int)then 5 else(ns.length:Int))else 1)=q/\0<=q/\q<=8:=⟨_,rfl,by split<;>(try split)<;>omega,by split<;>(try split)<;>omega⟩
 obtain⟨q,hq,q0,q6⟩:=hm;obtain⟨ρ',S1,e1,v1,v2,v3,rfl⟩:=zBQ (w:=[]) (g:=gN 1) (b:=zBY (cl (n+14))) (items:=upD 0 q.toNat)
  (fun j ρ S=>∃v1 v2 v3,ρ=[some sc,v1,v2,v3]) (ρ:=[some sc,none,none,none]) (S:=[])
  (fun j ρ S hp=>zAh _) ⟨none,none,none,rfl⟩
  (fun j d ρ S hd hp=>by
   obtain⟨v1,v2,v3,rfl⟩:=hp;rw[zK5]at hd;obtain⟨hj,rfl⟩:=hd;obtain⟨u2,u3,S2,e2⟩:=zYD H n ns hsc (0+(j:Int)) (by omega) S v2 v3;exact⟨_,_,rfl,_,S2,.inl e2,_,_,_,rfl⟩)
 refine⟨S1,zA7 rfl ?_⟩;have f2:-4611686018427387904<=q/\q<4611686018427387904:=by omega
 rw[<- hsc]at e1 ⊢;simp[zFJ,zAe,hq,f2,e1]
end My
set_option maxHeartbeats 4000000
namespace My
open PySem L2
noncomputable def tbl:Tbl:=[(("is_whole":Str),(1,1,zBq)),
 (("settings":Str),(1,3,zDP)),
 (("is_shut":Str),(2,2,zEA)),
 (("shut_at":Str),(2,2,zEy)),
 (("places_from":Str),(2,5,zC7)),
 (("joins":Str),(1,1,zIt)),
 (("shut_contacts":Str),(2,2,zBA)),
 (("lets":Str),(2,2,zM7)),
 (("is_choice":Str),(2,2,zAr)),
 (("without":Str),(2,2,zEx)),
 (("join_along":Str),(2,2,zB0)),
 (("join_beside":Str),(2,2,zBD)),
 (("is_way":Str),(2,2,zC8)),
 (("is_bar":Str),(2,2,zD3)),
 (("far_end":Str),(2,2,zCS)),
 (("ways_on":Str),(3,7,zCl)),
 (("all_ways":Str),(1,1,zCT)),
 (("halves_with_start":Str),(1,3,zAs)),
 (("out_of":Str),(2,2,zEz)),
 (("all_bars":Str),(1,4,zCU)),
 (("is_live":Str),(2,5,zCp)),
 (("live_ways":Str),(1,1,zCm)),
 (("live_bars":Str),(1,1,zCn)),
 (("way_at":Str),(2,4,zD2)),
 (("bar_at":Str),(2,4,zD4)),
 (("moved_contact":Str),(2,2,zBB)),
 (("moved":Str),(2,2,zIs)),
 (("net_within":Str),(3,3,zCB)),
 (("side_by_side":Str),(2,4,zBj)),
 (("about":Str),(1,1,zGJ)),
 (("_law_cell_at":Str),(2,2,zBC)),
 (("_law_state":Str),(2,3,zCo)),
 (("_law_take":Str),(2,4,zCP)),
 (("_law_ends":Str),(2,5,zCR)),
 (("_law_net":Str),(4,13,zCQ)),
 (("_law_at_right":Str),(2,5,zBk)),
 (("_law_meet_right":Str),(1,5,zAL)),
 (("law":Str),(1,4,zFJ))]
noncomputable def top(i:Nat):Stmt:=PySem.Challenge.pw_contactnets_k25_whole_ways_and_bars.main.body.getD i (.Pass ⟨0,0,0,0⟩)
theorem hk{f g:Nat->yM->M D}(h:f=g)(n:Nat):f n=g n:=congrFun h n
noncomputable abbrev zCH:Stmt:=top 1
noncomputable abbrev zCE:Stmt:=top 2
noncomputable abbrev zDm:Stmt:=top 3
noncomputable abbrev zDk:Stmt:=top 4
noncomputable abbrev zBr:Stmt:=top 5
noncomputable abbrev zFS:Stmt:=top 6
noncomputable abbrev zAU:Stmt:=top 7
noncomputable abbrev zIW:Stmt:=top 8
noncomputable abbrev zCg:Stmt:=top 10
noncomputable abbrev zDi:Stmt:=top 11
noncomputable abbrev zBX:Stmt:=top 12
noncomputable abbrev zBt:Stmt:=top 13
noncomputable abbrev zEg:Stmt:=top 14
noncomputable abbrev zEh:Stmt:=top 15
noncomputable abbrev zDo:Stmt:=top 16
noncomputable abbrev zDj:Stmt:=top 17
noncomputable abbrev zCI:Stmt:=top 18
noncomputable abbrev zAp:Stmt:=top 19
noncomputable abbrev zEf:Stmt:=top 20
noncomputable abbrev zCJ:Stmt:=top 21
noncomputable abbrev zDn:Stmt:=top 22
noncomputable abbrev zCd:Stmt:=top 23
noncomputable abbrev zCe:Stmt:=top 24
noncomputable abbrev zEe:Stmt:=top 25
noncomputable abbrev zEi:Stmt:=top 26
noncomputable abbrev zAV:Stmt:=top 31
noncomputable abbrev zFR:Stmt:=top 32
noncomputable abbrev zBW:Stmt:=top 33
noncomputable abbrev zBg:Stmt:=top 34
noncomputable abbrev zFT:Stmt:=top 35
noncomputable abbrev zBs:Stmt:=top 37
noncomputable abbrev zCf:Stmt:=top 38
noncomputable abbrev zCF:Stmt:=top 39
noncomputable abbrev zCG:Stmt:=top 40
noncomputable abbrev zDl:Stmt:=top 41
noncomputable abbrev zBh:Stmt:=top 42
noncomputable abbrev zAK:Stmt:=top 43
noncomputable abbrev zIX:Stmt:=top 44
abbrev CKp(x:Str)(N:yH)(st:Stmt)(b:CLL->CS):Prop:=(fun cl:CLL=>cSts (arT tbl) cl 60 ⟨N,(zA3 st).names,some x⟩ (zAZ st))=fun cl=>some (b cl)
theorem zKG:fnOk ["thing"] ["thing"] (zA3 zCH)=true:=by decide +kernel
theorem zGo:zD6 (zAi tbl):=hk (by kernel_rfl)
theorem zKW:CKp "is_whole" ["thing"] zCH zBq:=by kernel_rfl
theorem zKD:fnOk ["switches","told","switch"] ["switches"] (zA3 zCE)=true:=by decide +kernel
theorem zKw:zE8 (zAi tbl):=hk (by kernel_rfl)
theorem zKT:CKp "settings" ["switches","told","switch"] zCE zDP:=by kernel_rfl
theorem zMP:fnOk ["contact","setting"] ["contact","setting"] (zA3 zDm)=true:=by decide +kernel
theorem zMG:zCc (zAi tbl):=hk (by kernel_rfl)
theorem zN2:CKp "is_shut" ["contact","setting"] zDm zEA:=by kernel_rfl
theorem zMN:fnOk ["net","setting"] ["net","setting"] (zA3 zDk)=true:=by decide +kernel
theorem zME:zF7 (zAi tbl):=hk (by kernel_rfl)
theorem zN0:CKp "shut_at" ["net","setting"] zDk zEy:=by kernel_rfl
theorem zGY:fnOk ["start","contacts","found","grown","contact"] ["start","contacts"] (zA3 zBr)=true:=by decide +kernel
theorem zDW:zAP (zAi tbl):=hk (by kernel_rfl)
theorem zH1:CKp "places_from" ["start","contacts","found","grown","contact"] zBr zC7:=by kernel_rfl
theorem zRs:fnOk ["contacts"] ["contacts"] (zA3 zFS)=true:=by decide +kernel
theorem zLS:zFK (zAi tbl):=hk (by kernel_rfl)
theorem zRH:CKp "joins" ["contacts"] zFS zIt:=by kernel_rfl
theorem zFs:fnOk ["net","setting"] ["net","setting"] (zA3 zAU)=true:=by decide +kernel
theorem zFq:zBl (zAi tbl):=hk (by kernel_rfl)
theorem zFu:CKp "shut_contacts" ["net","setting"] zAU zBA:=by kernel_rfl
theorem zUd:fnOk ["net","setting"] ["net","setting"] (zA3 zIW)=true:=by decide +kernel
theorem zUa:zLe (zAi tbl):=hk (by kernel_rfl)
theorem zUj:CKp "lets" ["net","setting"] zIW zM7:=by kernel_rfl
theorem zJn:fnOk ["net","thing"] ["net","thing"] (zA3 zCg)=true:=by decide +kernel
theorem zFk:zFo (zAi tbl):=hk (by kernel_rfl)
theorem zJA:CKp "is_choice" ["net","thing"] zCg zAr:=by kernel_rfl
theorem zML:fnOk ["some","number"] ["some","number"] (zA3 zDi)=true:=by decide +kernel
theorem zHv:zF6 (zAi tbl):=hk (by kernel_rfl)
theorem zMY:CKp "without" ["some","number"] zDi zEx:=by kernel_rfl
theorem zIc:fnOk ["net","some"] ["net","some"] (zA3 zBX)=true:=by decide +kernel
theorem zI9:zEE (zAi tbl):=hk (by kernel_rfl)
theorem zIj:CKp "join_along" ["net","some"] zBX zB0:=by kernel_rfl
theorem zH0:fnOk ["net","some"] ["net","some"] (zA3 zBt)=true:=by decide +kernel
theorem zDX:zDY (zAi tbl):=hk (by kernel_rfl)
theorem zH3:CKp "join_beside" ["net","some"] zBt zBD:=by kernel_rfl
theorem zP5:fnOk ["net","thing"] ["net","thing"] (zA3 zEg)=true:=by decide +kernel
theorem zOT:zK0 (zAi tbl):=hk (by kernel_rfl)
theorem zPw:CKp "is_way" ["net","thing"] zEg zC8:=by kernel_rfl
theorem zP6:fnOk ["net","thing"] ["net","thing"] (zA3 zEh)=true:=by decide +kernel
theorem zJj:zK1 (zAi tbl):=hk (by kernel_rfl)
theorem zPx:CKp "is_bar" ["net","thing"] zEh zD3:=by kernel_rfl
theorem zMR:fnOk ["contact","place"] ["contact","place"] (zA3 zDo)=true:=by decide +kernel
theorem zMI:zFa (zAi tbl):=hk (by kernel_rfl)
theorem zN4:CKp "far_end" ["contact","place"] zDo zCS:=by kernel_rfl
theorem zMM:fnOk ["contacts","been","taken","found","number","contact","far"] ["contacts","been","taken"] (zA3 zDj)=true:=by decide +kernel
theorem zMD:zHG (zAi tbl):=hk (by kernel_rfl)
theorem zMZ:CKp "ways_on" ["contacts","been","taken","found","number","contact","far"] zDj zCl:=by kernel_rfl
theorem zKH:fnOk ["net"] ["net"] (zA3 zCI)=true:=by decide +kernel
theorem zKz:zGQ (zAi tbl):=hk (by kernel_rfl)
theorem zKX:CKp "all_ways" ["net"] zCI zCT:=by kernel_rfl
theorem zDR:fnOk ["places","told","place"] ["places"] (zA3 zAp)=true:=by decide +kernel
theorem zDQ:zBf (zAi tbl):=hk (by kernel_rfl)
theorem zDS:CKp "halves_with_start" ["places","told","place"] zAp zAs:=by kernel_rfl
theorem zP4:fnOk ["net","half"] ["net","half"] (zA3 zEf)=true:=by decide +kernel
theorem zOS:zGP (zAi tbl):=hk (by kernel_rfl)
theorem zPv:CKp "out_of" ["net","half"] zEf zEz:=by kernel_rfl
theorem zKI:fnOk ["net","found","half","some"] ["net"] (zA3 zCJ)=true:=by decide +kernel
theorem zKA:zGR (zAi tbl):=hk (by kernel_rfl)
theorem zKY:CKp "all_bars" ["net","found","half","some"] zCJ zCU:=by kernel_rfl
theorem zMQ:fnOk ["net","some","wanted","number","contact"] ["net","some"] (zA3 zDn)=true:=by decide +kernel
theorem zMH:zF9 (zAi tbl):=hk (by kernel_rfl)
theorem zN3:CKp "is_live" ["net","some","wanted","number","contact"] zDn zCp:=by kernel_rfl
theorem zJk:fnOk ["net"] ["net"] (zA3 zCd)=true:=by decide +kernel
theorem zJg:zFm (zAi tbl):=hk (by kernel_rfl)
theorem zJx:CKp "live_ways" ["net"] zCd zCm:=by kernel_rfl
theorem zJl:fnOk ["net"] ["net"] (zA3 zCe)=true:=by decide +kernel
theorem zJh:zFn (zAi tbl):=hk (by kernel_rfl)
theorem zJy:CKp "live_bars" ["net"] zCe zCn:=by kernel_rfl
theorem zP3:fnOk ["net","setting","shut","way"] ["net","setting"] (zA3 zEe)=true:=by decide +kernel
theorem zOR:zJY (zAi tbl):=hk (by kernel_rfl)
theorem zPu:CKp "way_at" ["net","setting","shut","way"] zEe zD2:=by kernel_rfl
theorem zP7:fnOk ["net","setting","shut","bar"] ["net","setting"] (zA3 zEi)=true:=by decide +kernel
theorem zOU:zK2 (zAi tbl):=hk (by kernel_rfl)
theorem zPy:CKp "bar_at" ["net","setting","shut","bar"] zEi zD4:=by kernel_rfl
theorem zFt:fnOk ["contact","new"] ["contact","new"] (zA3 zAV)=true:=by decide +kernel
theorem zFr:zBm (zAi tbl):=hk (by kernel_rfl)
theorem zFv:CKp "moved_contact" ["contact","new"] zAV zBB:=by kernel_rfl
theorem zRr:fnOk ["contacts","new"] ["contacts","new"] (zA3 zFR)=true:=by decide +kernel
theorem zRl:zIz (zAi tbl):=hk (by kernel_rfl)
theorem zRG:CKp "moved" ["contacts","new"] zFR zIs:=by kernel_rfl
theorem zIb:fnOk ["switches","places","contacts"] ["switches","places","contacts"] (zA3 zBW)=true:=by decide +kernel
theorem zI8:zCa (zAi tbl):=hk (by kernel_rfl)
theorem zIi:CKp "net_within" ["switches","places","contacts"] zBW zCB:=by kernel_rfl
theorem zGs:fnOk ["one","other","places","second"] ["one","other"] (zA3 zBg)=true:=by decide +kernel
theorem zGm:zCs (zAi tbl):=hk (by kernel_rfl)
theorem zGA:CKp "side_by_side" ["one","other","places","second"] zBg zBj:=by kernel_rfl
theorem zRt:fnOk ["net"] ["net"] (zA3 zFT)=true:=by decide +kernel
theorem zRm:zIA (zAi tbl):=hk (by kernel_rfl)
theorem zRI:CKp "about" ["net"] zFT zGJ:=by kernel_rfl
theorem zGZ:fnOk ["_law_script","_law_k"] ["_law_script","_law_k"] (zA3 zBs)=true:=by decide +kernel
theorem zGW:zBT (zAi tbl):=hk (by kernel_rfl)
theorem zH2:CKp "_law_cell_at" ["_law_script","_law_k"] zBs zBC:=by kernel_rfl
theorem zJm:fnOk ["_law_script","_law_k","_law_cell"] ["_law_script","_law_k"] (zA3 zCf)=true:=by decide +kernel
theorem zJi:zDG (zAi tbl):=hk (by kernel_rfl)
theorem zJz:CKp "_law_state" ["_law_script","_law_k","_law_cell"] zCf zCo:=by kernel_rfl
theorem zKE:fnOk ["_law_state_here","_law_many","_law_found","_law_mixed"] ["_law_state_here","_law_many"] (zA3 zCF)=true:=by decide +kernel
theorem zKx:zCt (zAi tbl):=hk (by kernel_rfl)
theorem zKU:CKp "_law_take" ["_law_state_here","_law_many","_law_found","_law_mixed"] zCF zCP:=by kernel_rfl
theorem zKF:fnOk ["_law_state_here","_law_places","_law_row","_law_one","_law_other"] ["_law_state_here","_law_places"] (zA3 zCG)=true:=by decide +kernel
theorem zKy:zD5 (zAi tbl):=hk (by kernel_rfl)
theorem zKV:CKp "_law_ends" ["_law_state_here","_law_places","_law_row","_law_one","_law_other"] zCG zCR:=by kernel_rfl
theorem zMO:fnOk ["_law_state_here","_law_most_switches","_law_most_places","_law_most_contacts","_law_switches","_law_places","_law_rows","_law_row","_law_one","_law_other","_law_turn","_law_mixed","_law_contact"] ["_law_state_here","_law_most_switches","_law_most_places","_law_most_contacts"] (zA3 zDl)=true:=by decide +kernel
theorem zMF:zF8 (zAi tbl):=hk (by kernel_rfl)
theorem zN1:CKp "_law_net" ["_law_state_here","_law_most_switches","_law_most_places","_law_most_contacts","_law_switches","_law_places","_law_rows","_law_row","_law_one","_law_other","_law_turn","_law_mixed","_law_contact"] zDl zCQ:=by kernel_rfl
theorem zGt:fnOk ["_law_net_here","_law_setting","_law_shut","_law_ways_here","_law_bars_here"] ["_law_net_here","_law_setting"] (zA3 zBh)=true:=by decide +kernel
theorem zGn:zDH (zAi tbl):=hk (by kernel_rfl)
theorem zGB:CKp "_law_at_right" ["_law_net_here","_law_setting","_law_shut","_law_ways_here","_law_bars_here"] zBh zBk:=by kernel_rfl
theorem zF1:fnOk ["_law_net_here","_law_some","_law_others","_law_one","_law_shares"] ["_law_net_here"] (zA3 zAK)=true:=by decide +kernel
theorem zEZ:zCV (zAi tbl):=hk (by kernel_rfl)
theorem zF3:CKp "_law_meet_right" ["_law_net_here","_law_some","_law_others","_law_one","_law_shares"] zAK zAL:=by kernel_rfl
theorem zSi:fnOk ["_law_script","_law_k","_law_state_here","_law_net_here"] ["_law_script"] (zA3 zIX)=true:=by decide +kernel
theorem zWS:zJZ (zAi tbl):=hk (by kernel_rfl)
theorem zSp:CKp "law" ["_law_script","_law_k","_law_state_here","_law_net_here"] zIX zFJ:=by kernel_rfl
theorem zR3(ns:yA)(h:ns.length<=63):∃S',zAi tbl 100 "law" [.rol (ns.map D.int)] []=.ok (.bl true) S':=zZl zWS ⟨⟨zJi,zGW,zKx,zKy,zMF⟩,zKw,zFq,zUa,⟨⟨zMI,zMD,zKz⟩,⟨zDQ,zOS,zKA,⟨zFk,zHv,zDX,zJj,zLS,zDW,zGo⟩⟩,zME,zMG,zOR,zOU⟩,⟨zMH,zJg,zJh⟩,⟨⟨zFk,zHv,zDX,zJj,zLS,zDW,zGo⟩,zI9,zOT⟩,⟨zRl,zFr⟩,zRm,zGm,zI8,zGn,zEZ⟩ 85 ns
def DF(K:W.Frag)(n:Str)(st:Stmt):Prop:=∃(f:Addr) (od an:Option Addr) (sl:Array (yF)) (oc kV dc pm cd ct:Value),W.nsIn K mainGlobals n=some (some (.ref f))/\K.lookup f=some ⟨oc,od,.func (W.fnOf n n (zD1 st) (zAZ st) (zA3 st) .none kV dc pm an cd ct),sl⟩/\W.codeIn K cd n=true/\W.keepIn K (.ref f)=true
theorem mkDF{K:W.Frag}{n:Str}{st:Stmt}{f:Addr}{od an:Option Addr}{sl:Array (yF)}{oc kV dc pm cd ct:Value}(a:W.nsIn K mainGlobals n=some (some (.ref f)))(l:K.lookup f=some ⟨oc,od,.func (W.fnOf n n (zD1 st) (zAZ st) (zA3 st) .none kV dc pm an cd ct),sl⟩)(c:W.codeIn K cd n=true)(k:W.keepIn K (.ref f)=true):DF K n st:=⟨f,od,an,sl,oc,kV,dc,pm,cd,ct,a,l,c,k⟩
theorem DF.in{K:W.Frag}{h:Heap}{mg:Str->yF}{n:Str}{st:Stmt}(d:DF K n st)(X:K.In h)(G:h.Ns mainGlobals mg):∃(f:Addr) (kV dc pm:Value) (an:Option Addr) (cd ct:Value),mg n=some (.ref f)/\Fun K n n st f (W.fnOf n n (zD1 st) (zAZ st) (zA3 st) .none kV dc pm an cd ct):=by obtain⟨f,od,an,sl,oc,kV,dc,pm,cd,ct,a,l,c,k⟩:=d;exact⟨f,kV,dc,pm,an,cd,ct,W.mg_of X G a,zWW l c k⟩
def ZN(K:W.Frag):yH->Prop
 |[]=>True
 |x::r=>W.nsIn K mainGlobals x=some none/\ZN K r
theorem ZN.none{K:W.Frag}{h:Heap}{mg:Str->yF}(X:K.In h)(G:h.Ns mainGlobals mg):∀{l:yH},ZN K l->zID mg l
 |[],_=>True.intro
 |_::_,z=>⟨W.mg_none_of X G z.1,z.2.none X G⟩
def BP(st:Stmt)(n:Str)(ps:yH)(kV doc pm:Value)(an:Option Addr)(cdv ct:Value)(us:yB):Prop:=bindArgs (W.fnOf n n (zD1 st) (zAZ st) (zA3 st) .none kV doc pm an cdv ct) ⟨us,[]⟩=pure (ps.zip us)
def BF(st:Stmt)(n:Str)(ps:yH):Prop:=∀(kV doc pm:Value) (an:Option Addr) (cdv ct:Value) (us:yB),us.length=ps.length->BP st n ps kV doc pm an cdv ct us
theorem dIn{K:W.Frag}{h:Heap}{mg:Str->yF}{ar:Str->yK}{x:Str}{st:Stmt}{N ps:yH}{fuel np nN:Nat}{b:CLL->CS}(d:DF K x st)(X:K.In h)(G:h.Ns mainGlobals mg)(hb:BF st x ps)(hs:fnOk N ps (zA3 st)=true)
  (hc:(fun cl:CLL=>cSts ar cl fuel ⟨N,(zA3 st).names,some x⟩ (zAZ st))=fun cl=>some (b cl)) (h1:ps.length=np:=by rfl) (h2:N.length=nN:=by rfl):zLf K mg ar x (np,nN,b):=by obtain⟨_,_,_,_,_,_,_,m,F⟩:=d.in X G;exact zX7 F m (F.binds (ps:=ps) hb) hs hc h1 h2
theorem usC{n:Nat}:∀us:yB,us.length=n+1->∃a r,us=a::r/\r.length=n
 |a::r,h=>⟨a,r,rfl,Nat.succ.inj h⟩
theorem us0{P:yB->Prop}(h:P [])(us:yB)(hl:us.length=0):P us:=by rw[List.eq_nil_of_length_eq_zero hl];exact h
theorem us1{P:yB->Prop}(h:∀a0:Value,P [a0])(us:yB)(hl:us.length=1):P us:=by obtain⟨a,r,rfl,hq⟩:=usC us hl;exact us0 (P:=fun r=>P (a::r)) (h a) r hq
theorem us2{P:yB->Prop}(h:∀a0 a1:Value,P [a0,a1])(us:yB)(hl:us.length=2):P us:=by obtain⟨a,r,rfl,hq⟩:=usC us hl;exact us1 (P:=fun r=>P (a::r)) (h a) r hq
theorem us3{P:yB->Prop}(h:∀a0 a1 a2:Value,P [a0,a1,a2])(us:yB)(hl:us.length=3):P us:=by obtain⟨a,r,rfl,hq⟩:=usC us hl;exact us2 (P:=fun r=>P (a::r)) (h a) r hq
theorem us4{P:yB->Prop}(h:∀a0 a1 a2 a3:Value,P [a0,a1,a2,a3])(us:yB)(hl:us.length=4):P us:=by obtain⟨a,r,rfl,hq⟩:=usC us hl;exact us3 (P:=fun r=>P (a::r)) (h a) r hq
theorem zL8:BF zCH "is_whole" ["thing"]:=fun kV doc pm an cdv ct=>us1 (P:=BP zCH "is_whole" ["thing"] kV doc pm an cdv ct) (fun _=>rfl)
theorem zL5:BF zCE "settings" ["switches"]:=fun kV doc pm an cdv ct=>us1 (P:=BP zCE "settings" ["switches"] kV doc pm an cdv ct) (fun _=>rfl)
theorem zNe:BF zDm "is_shut" ["contact","setting"]:=fun kV doc pm an cdv ct=>us2 (P:=BP zDm "is_shut" ["contact","setting"] kV doc pm an cdv ct) (fun _ _=>rfl)
theorem zNc:BF zDk "shut_at" ["net","setting"]:=fun kV doc pm an cdv ct=>us2 (P:=BP zDk "shut_at" ["net","setting"] kV doc pm an cdv ct) (fun _ _=>rfl)
theorem zH6:BF zBr "places_from" ["start","contacts"]:=fun kV doc pm an cdv ct=>us2 (P:=BP zBr "places_from" ["start","contacts"] kV doc pm an cdv ct) (fun _ _=>rfl)
theorem zRP:BF zFS "joins" ["contacts"]:=fun kV doc pm an cdv ct=>us1 (P:=BP zFS "joins" ["contacts"] kV doc pm an cdv ct) (fun _=>rfl)
theorem zFw:BF zAU "shut_contacts" ["net","setting"]:=fun kV doc pm an cdv ct=>us2 (P:=BP zAU "shut_contacts" ["net","setting"] kV doc pm an cdv ct) (fun _ _=>rfl)
theorem zUu:BF zIW "lets" ["net","setting"]:=fun kV doc pm an cdv ct=>us2 (P:=BP zIW "lets" ["net","setting"] kV doc pm an cdv ct) (fun _ _=>rfl)
theorem zJT:BF zCg "is_choice" ["net","thing"]:=fun kV doc pm an cdv ct=>us2 (P:=BP zCg "is_choice" ["net","thing"] kV doc pm an cdv ct) (fun _ _=>rfl)
theorem zNa:BF zDi "without" ["some","number"]:=fun kV doc pm an cdv ct=>us2 (P:=BP zDi "without" ["some","number"] kV doc pm an cdv ct) (fun _ _=>rfl)
theorem zIq:BF zBX "join_along" ["net","some"]:=fun kV doc pm an cdv ct=>us2 (P:=BP zBX "join_along" ["net","some"] kV doc pm an cdv ct) (fun _ _=>rfl)
theorem zH8:BF zBt "join_beside" ["net","some"]:=fun kV doc pm an cdv ct=>us2 (P:=BP zBt "join_beside" ["net","some"] kV doc pm an cdv ct) (fun _ _=>rfl)
theorem zPQ:BF zEg "is_way" ["net","thing"]:=fun kV doc pm an cdv ct=>us2 (P:=BP zEg "is_way" ["net","thing"] kV doc pm an cdv ct) (fun _ _=>rfl)
theorem zPR:BF zEh "is_bar" ["net","thing"]:=fun kV doc pm an cdv ct=>us2 (P:=BP zEh "is_bar" ["net","thing"] kV doc pm an cdv ct) (fun _ _=>rfl)
theorem zNg:BF zDo "far_end" ["contact","place"]:=fun kV doc pm an cdv ct=>us2 (P:=BP zDo "far_end" ["contact","place"] kV doc pm an cdv ct) (fun _ _=>rfl)
theorem zNb:BF zDj "ways_on" ["contacts","been","taken"]:=fun kV doc pm an cdv ct=>us3 (P:=BP zDj "ways_on" ["contacts","been","taken"] kV doc pm an cdv ct) (fun _ _ _=>rfl)
theorem zL9:BF zCI "all_ways" ["net"]:=fun kV doc pm an cdv ct=>us1 (P:=BP zCI "all_ways" ["net"] kV doc pm an cdv ct) (fun _=>rfl)
theorem zDT:BF zAp "halves_with_start" ["places"]:=fun kV doc pm an cdv ct=>us1 (P:=BP zAp "halves_with_start" ["places"] kV doc pm an cdv ct) (fun _=>rfl)
theorem zPP:BF zEf "out_of" ["net","half"]:=fun kV doc pm an cdv ct=>us2 (P:=BP zEf "out_of" ["net","half"] kV doc pm an cdv ct) (fun _ _=>rfl)
theorem zLa:BF zCJ "all_bars" ["net"]:=fun kV doc pm an cdv ct=>us1 (P:=BP zCJ "all_bars" ["net"] kV doc pm an cdv ct) (fun _=>rfl)
theorem zNf:BF zDn "is_live" ["net","some"]:=fun kV doc pm an cdv ct=>us2 (P:=BP zDn "is_live" ["net","some"] kV doc pm an cdv ct) (fun _ _=>rfl)
theorem zJQ:BF zCd "live_ways" ["net"]:=fun kV doc pm an cdv ct=>us1 (P:=BP zCd "live_ways" ["net"] kV doc pm an cdv ct) (fun _=>rfl)
theorem zJR:BF zCe "live_bars" ["net"]:=fun kV doc pm an cdv ct=>us1 (P:=BP zCe "live_bars" ["net"] kV doc pm an cdv ct) (fun _=>rfl)
theorem zPO:BF zEe "way_at" ["net","setting"]:=fun kV doc pm an cdv ct=>us2 (P:=BP zEe "way_at" ["net","setting"] kV doc pm an cdv ct) (fun _ _=>rfl)
theorem zPS:BF zEi "bar_at" ["net","setting"]:=fun kV doc pm an cdv ct=>us2 (P:=BP zEi "bar_at" ["net","setting"] kV doc pm an cdv ct) (fun _ _=>rfl)
theorem zFx:BF zAV "moved_contact" ["contact","new"]:=fun kV doc pm an cdv ct=>us2 (P:=BP zAV "moved_contact" ["contact","new"] kV doc pm an cdv ct) (fun _ _=>rfl)
theorem zRO:BF zFR "moved" ["contacts","new"]:=fun kV doc pm an cdv ct=>us2 (P:=BP zFR "moved" ["contacts","new"] kV doc pm an cdv ct) (fun _ _=>rfl)
theorem zIp:BF zBW "net_within" ["switches","places","contacts"]:=fun kV doc pm an cdv ct=>us3 (P:=BP zBW "net_within" ["switches","places","contacts"] kV doc pm an cdv ct) (fun _ _ _=>rfl)
theorem zGG:BF zBg "side_by_side" ["one","other"]:=fun kV doc pm an cdv ct=>us2 (P:=BP zBg "side_by_side" ["one","other"] kV doc pm an cdv ct) (fun _ _=>rfl)
theorem zRQ:BF zFT "about" ["net"]:=fun kV doc pm an cdv ct=>us1 (P:=BP zFT "about" ["net"] kV doc pm an cdv ct) (fun _=>rfl)
theorem zH7:BF zBs "_law_cell_at" ["_law_script","_law_k"]:=fun kV doc pm an cdv ct=>us2 (P:=BP zBs "_law_cell_at" ["_law_script","_law_k"] kV doc pm an cdv ct) (fun _ _=>rfl)
theorem zJS:BF zCf "_law_state" ["_law_script","_law_k"]:=fun kV doc pm an cdv ct=>us2 (P:=BP zCf "_law_state" ["_law_script","_law_k"] kV doc pm an cdv ct) (fun _ _=>rfl)
theorem zL6:BF zCF "_law_take" ["_law_state_here","_law_many"]:=fun kV doc pm an cdv ct=>us2 (P:=BP zCF "_law_take" ["_law_state_here","_law_many"] kV doc pm an cdv ct) (fun _ _=>rfl)
theorem zL7:BF zCG "_law_ends" ["_law_state_here","_law_places"]:=fun kV doc pm an cdv ct=>us2 (P:=BP zCG "_law_ends" ["_law_state_here","_law_places"] kV doc pm an cdv ct) (fun _ _=>rfl)
theorem zNd:BF zDl "_law_net" ["_law_state_here","_law_most_switches","_law_most_places","_law_most_contacts"]:=fun kV doc pm an cdv ct=>us4 (P:=BP zDl "_law_net" ["_law_state_here","_law_most_switches","_law_most_places","_law_most_contacts"] kV doc pm an cdv ct) (fun _ _ _ _=>rfl)
theorem zGH:BF zBh "_law_at_right" ["_law_net_here","_law_setting"]:=fun kV doc pm an cdv ct=>us2 (P:=BP zBh "_law_at_right" ["_law_net_here","_law_setting"] kV doc pm an cdv ct) (fun _ _=>rfl)
theorem zF5:BF zAK "_law_meet_right" ["_law_net_here"]:=fun kV doc pm an cdv ct=>us1 (P:=BP zAK "_law_meet_right" ["_law_net_here"] kV doc pm an cdv ct) (fun _=>rfl)
theorem zXo:BF zIX "law" ["_law_script"]:=fun kV doc pm an cdv ct=>us1 (P:=BP zIX "law" ["_law_script"] kV doc pm an cdv ct) (fun _=>rfl)
theorem all_mk{l:W.OpenLaw}{w:World}{K:W.Frag}{h:Heap}{mg:Str->yF}{fa:Addr}(X:K.In h)(G:h.Ns mainGlobals mg)(hfa:mg "law"=some (.ref fa))
  (d1:DF K "is_whole" zCH) (d2:DF K "settings" zCE) (d3:DF K "is_shut" zDm) (d4:DF K "shut_at" zDk) (d5:DF K "places_from" zBr) (d6:DF K "joins" zFS) (d7:DF K "shut_contacts" zAU) (d8:DF K "lets" zIW) (d9:DF K "is_choice" zCg) (d10:DF K "without" zDi) (d11:DF K "join_along" zBX) (d12:DF K "join_beside" zBt) (d13:DF K "is_way" zEg) (d14:DF K "is_bar" zEh) (d15:DF K "far_end" zDo) (d16:DF K "ways_on" zDj) (d17:DF K "all_ways" zCI) (d18:DF K "halves_with_start" zAp) (d19:DF K "out_of" zEf) (d20:DF K "all_bars" zCJ) (d21:DF K "is_live" zDn) (d22:DF K "live_ways" zCd) (d23:DF K "live_bars" zCe) (d24:DF K "way_at" zEe) (d25:DF K "bar_at" zEi) (d26:DF K "moved_contact" zAV) (d27:DF K "moved" zFR) (d28:DF K "net_within" zBW) (d29:DF K "side_by_side" zBg) (d30:DF K "about" zFT) (d31:DF K "_law_cell_at" zBs) (d32:DF K "_law_state" zCf) (d33:DF K "_law_take" zCF) (d34:DF K "_law_ends" zCG) (d35:DF K "_law_net" zDl) (d36:DF K "_law_at_right" zBh) (d37:DF K "_law_meet_right" zAK) (d38:DF K "law" zIX) (z:ZN K bltL) :
  ∃fd:FuncData,(∀(s:Shared) (v:Value),BindsTo s fd ⟨[v],[]⟩ [("_law_script",v)])/\∀base:Heap,K.In base->base.Ns mainGlobals mg->FnOk l.prog w K mg base CX0 100 fa fd ["_law_script"] (spL K):=by obtain⟨_,kV,dc,pm,an,cd,ct,m,F⟩:=d38.in X G;have e:=hfa.symm.trans m;cases e;have A:zNl K mg (arT tbl) tbl:=And.intro (dIn d1 X G zL8 zKG zKW) (And.intro (dIn d2 X G zL5 zKD zKT) (And.intro (dIn d3 X G zNe zMP zN2) (And.intro (dIn d4 X G zNc zMN zN0) (And.intro (dIn d5 X G zH6 zGY zH1) (And.intro (dIn d6 X G zRP zRs zRH) (And.intro (dIn d7 X G zFw zFs zFu) (And.intro (dIn d8 X G zUu zUd zUj) (And.intro (dIn d9 X G zJT zJn zJA) (And.intro (dIn d10 X G zNa zML zMY) (And.intro (dIn d11 X G zIq zIc zIj) (And.intro (dIn d12 X G zH8 zH0 zH3) (And.intro (dIn d13 X G zPQ zP5 zPw) (And.intro (dIn d14 X G zPR zP6 zPx) (And.intro (dIn d15 X G zNg zMR zN4) (And.intro (dIn d16 X G zNb zMM zMZ) (And.intro (dIn d17 X G zL9 zKH zKX) (And.intro (dIn d18 X G zDT zDR zDS) (And.intro (dIn d19 X G zPP zP4 zPv) (And.intro (dIn d20 X G zLa zKI zKY) (And.intro (dIn d21 X G zNf zMQ zN3) (And.intro (dIn d22 X G zJQ zJk zJx) (And.intro (dIn d23 X G zJR zJl zJy) (And.intro (dIn d24 X G zPO zP3 zPu) (And.intro (dIn d25 X G zPS zP7 zPy) (And.intro (dIn d26 X G zFx zFt zFv) (And.intro (dIn d27 X G zRO zRr zRG) (And.intro (dIn d28 X G zIp zIb zIi) (And.intro (dIn d29 X G zGG zGs zGA) (And.intro (dIn d30 X G zRQ zRt zRI) (And.intro (dIn d31 X G zH7 zGZ zH2) (And.intro (dIn d32 X G zJS zJm zJz) (And.intro (dIn d33 X G zL6 zKE zKU) (And.intro (dIn d34 X G zL7 zKF zKV) (And.intro (dIn d35 X G zNd zMO zN1) (And.intro (dIn d36 X G zGH zGt zGB) (And.intro (dIn d37 X G zF5 zF1 zF3) (And.intro (dIn d38 X G zXo zSi zSp) (True.intro))))))))))))))))))))))))))))))))))))));refine⟨W.fnOf "law" "law" (zD1 zIX) (zAZ zIX) (zA3 zIX) .none kV dc pm an cd ct,fun s v=>.of_eq rfl,fun base _ _=>?_⟩;exact zWt (L:=99) (fun x p e=>A.look x p e) ⟨fun y hy _=>(z.none X G).mem y hy⟩ (by kernel_rfl) F zSi rfl (fun cl=>congrFun zSp cl) (fun ns h=>zR3 ns h)
end My
open PySem PySem.W PyProof.Rows
theorem PySem.W.Fast.tw1574186382820791920:True:=trivial
theorem PySem.W.Fast.tw370215238880675236:True:=trivial
theorem PySem.W.Fast.tw7761655518919578711:True:=trivial
theorem PySem.W.Fast.tw8142881856767231088:True:=trivial
theorem PySem.W.Fast.tw12556078189269860233:True:=trivial
theorem PySem.W.Fast.tw15001338211510023077:True:=trivial
theorem PySem.W.Fast.tw10477691251447599713:True:=trivial
theorem PySem.W.Fast.tw1634067183417091879:True:=trivial
theorem PySem.W.Fast.tw13038826881792549328:True:=trivial
theorem PySem.W.Fast.tw15966820248024972825:True:=trivial
theorem PySem.W.Fast.tw2871800320796451301:True:=trivial
theorem PySem.W.Fast.tw5901753526587697650:True:=trivial
theorem PySem.W.Fast.tw4182863734814022126:True:=trivial
theorem PySem.W.Fast.tw13720979893609444842:True:=trivial
theorem PySem.W.Fast.tw6351998380659013920:True:=trivial
theorem PySem.W.Fast.tw9214356150894771199:True:=trivial
theorem PySem.W.Fast.tw16093457566554415385:True:=trivial
theorem PySem.W.Fast.tw12398962415257881063:True:=trivial
theorem PySem.W.Fast.tw3135761964285365229:True:=trivial
theorem PySem.W.Fast.tw15193925409025311591:True:=trivial
theorem PySem.W.Fast.tw10735188395308387667:True:=trivial
theorem PySem.W.Fast.tw12867758675031262777:True:=trivial
theorem PySem.W.Fast.tw16363521442808495238:True:=trivial
theorem PySem.W.Fast.tw9665955736563362028:True:=trivial
theorem PySem.W.Fast.tw6945021327444828084:True:=trivial
theorem PySem.W.Fast.tw10213512028786253890:True:=trivial
theorem PySem.W.Fast.tw6754140770590913895:True:=trivial
theorem PySem.W.Fast.tw103115480549925248:True:=trivial
theorem PySem.W.Fast.tw1369096748153555867:True:=trivial
theorem PySem.W.Fast.tw10208651093832993855:True:=trivial
theorem PySem.W.Fast.tw15408931126451910041:True:=trivial
theorem PySem.W.Fast.tw16931277206412003452:True:=trivial
theorem PySem.W.Fast.tw10203839103976204773:True:=trivial
theorem PySem.W.Fast.tw4211627860951108380:True:=trivial
theorem PySem.W.Fast.tw12630359899903754399:True:=trivial
theorem PySem.W.Fast.tw1991964799420140602:True:=trivial
theorem PySem.W.Fast.tw10426370464753011837:True:=trivial
theorem PySem.W.Fast.tw10292143164135327601:True:=trivial
theorem PySem.W.Fast.tw7969025027964091734:True:=trivial
theorem PySem.W.Fast.tw15852005066976509780:True:=trivial
theorem PySem.W.Fast.tw4098590234146902668:True:=trivial
theorem PySem.W.Fast.tw2159401978240207459:True:=trivial
theorem PySem.W.Fast.tw16617075693024571685:True:=trivial
theorem PySem.W.Fast.tw13078390226301070802:True:=trivial
theorem PySem.W.Fast.tw10323968093358109423:True:=trivial
theorem PySem.W.Fast.tw4530705107958284755:True:=trivial
theorem PySem.W.Fast.tw1371895947910929203:True:=trivial
theorem PySem.W.Fast.tw8152880204168192875:True:=trivial
theorem PySem.W.Fast.tw14611315110378163178:True:=trivial
theorem PySem.W.Fast.tw12597477434878769350:True:=trivial
theorem PySem.W.Fast.tw10814056634408281458:True:=trivial
theorem PySem.W.Fast.tw16165524946363549727:True:=trivial
theorem PySem.W.Fast.tw13542052240354879416:True:=trivial
theorem PySem.W.Fast.tw1700898005364090160:True:=trivial
theorem PySem.W.Fast.tw14640422587499163709:True:=trivial
theorem PySem.W.Fast.tw17691227597301372088:True:=trivial
theorem PySem.W.Fast.tw7741616498915379944:True:=trivial
theorem PySem.W.Fast.tw10333643781697041780:True:=trivial
theorem PySem.W.Fast.tw8627751109872766634:True:=trivial
theorem PySem.W.Fast.tw16056267553631855946:True:=trivial
theorem PySem.W.Fast.tw834230170764291513:True:=trivial
theorem PySem.W.Fast.tw15864863051767287435:True:=trivial
theorem PySem.W.Fast.tw8582762201775691636:True:=trivial
theorem PySem.W.Fast.tw5231655026099326257:True:=trivial
theorem PySem.W.Fast.tw11585737718982334543:True:=trivial
theorem PySem.W.Fast.tw8077372018505105530:True:=trivial
theorem PySem.W.Fast.tw17984043009888262566:True:=trivial
theorem PySem.W.Fast.tw276807639504190033:True:=trivial
theorem PySem.W.Fast.tw7225175553983029849:True:=trivial
theorem PySem.W.Fast.tw15509231731568121343:True:=trivial
theorem PySem.W.Fast.tw3144417654050344312:True:=trivial
theorem PySem.W.Fast.tw15163728305271141222:True:=trivial
theorem PySem.W.Fast.tw14685390764391797317:True:=trivial
theorem PySem.W.Fast.tw11717291297670678968:True:=trivial
theorem PySem.W.Fast.tw12482791148471079752:True:=trivial
theorem PySem.W.Fast.tw17640048914669402448:True:=trivial
theorem PySem.W.Fast.tw2123581194641182531:True:=trivial
theorem PySem.W.Fast.tw11832441882534625000:True:=trivial
theorem PySem.W.Fast.tw17067041551873546374:True:=trivial
set_option maxRecDepth 100000 in
set_option maxHeartbeats 0 in
theorem PySem.Challenge.cw_contactnets_k25_whole_ways_and_bars_holds : PySem.Challenge.rw_contactnets_k25_whole_ways_and_bars.Holds := by
 w_on; o_law; k_head; (case hw=>w_witness2)
 k_fill
 refine L2.walk_ev (L:=100) (l:=PySem.Challenge.rw_contactnets_k25_whole_ways_and_bars) rfl rfl ⟨rfl,by decide,by decide,rfl⟩ (fun w h Y=>PySem.W.kIn_of Y) ?F
 case F =>
  intro w mg fa h KX G hmg
  refine' My.all_mk KX G hmg (My.mkDF ?a1 ?l1 ?c1 ?k1) (My.mkDF ?a2 ?l2 ?c2 ?k2) (My.mkDF ?a3 ?l3 ?c3 ?k3) (My.mkDF ?a4 ?l4 ?c4 ?k4) (My.mkDF ?a5 ?l5 ?c5 ?k5) (My.mkDF ?a6 ?l6 ?c6 ?k6) (My.mkDF ?a7 ?l7 ?c7 ?k7) (My.mkDF ?a8 ?l8 ?c8 ?k8) (My.mkDF ?a9 ?l9 ?c9 ?k9) (My.mkDF ?a10 ?l10 ?c10 ?k10) (My.mkDF ?a11 ?l11 ?c11 ?k11) (My.mkDF ?a12 ?l12 ?c12 ?k12) (My.mkDF ?a13 ?l13 ?c13 ?k13) (My.mkDF ?a14 ?l14 ?c14 ?k14) (My.mkDF ?a15 ?l15 ?c15 ?k15) (My.mkDF ?a16 ?l16 ?c16 ?k16) (My.mkDF ?a17 ?l17 ?c17 ?k17) (My.mkDF ?a18 ?l18 ?c18 ?k18) (My.mkDF ?a19 ?l19 ?c19 ?k19) (My.mkDF ?a20 ?l20 ?c20 ?k20) (My.mkDF ?a21 ?l21 ?c21 ?k21) (My.mkDF ?a22 ?l22 ?c22 ?k22) (My.mkDF ?a23 ?l23 ?c23 ?k23) (My.mkDF ?a24 ?l24 ?c24 ?k24) (My.mkDF ?a25 ?l25 ?c25 ?k25) (My.mkDF ?a26 ?l26 ?c26 ?k26) (My.mkDF ?a27 ?l27 ?c27 ?k27) (My.mkDF ?a28 ?l28 ?c28 ?k28) (My.mkDF ?a29 ?l29 ?c29 ?k29) (My.mkDF ?a30 ?l30 ?c30 ?k30) (My.mkDF ?a31 ?l31 ?c31 ?k31) (My.mkDF ?a32 ?l32 ?c32 ?k32) (My.mkDF ?a33 ?l33 ?c33 ?k33) (My.mkDF ?a34 ?l34 ?c34 ?k34) (My.mkDF ?a35 ?l35 ?c35 ?k35) (My.mkDF ?a36 ?l36 ?c36 ?k36) (My.mkDF ?a37 ?l37 ?c37 ?k37) (My.mkDF ?a38 ?l38 ?c38 ?k38) ⟨?z1,?z2,?z3,?z4,?z5,?z6,?z7,?z8,?z9,?z10,?z11,?z12,?z13,?z14,?z15,?z16,?z17,?z18,?z19,?z20,True.intro⟩
  case a1=>k_is
  case l1=>k_is
  case c1=>k_is
  case k1=>k_is
  case a2=>k_is
  case l2=>k_is
  case c2=>k_is
  case k2=>k_is
  case a3=>k_is
  case l3=>k_is
  case c3=>k_is
  case k3=>k_is
  case a4=>k_is
  case l4=>k_is
  case c4=>k_is
  case k4=>k_is
  case a5=>k_is
  case l5=>k_is
  case c5=>k_is
  case k5=>k_is
  case a6=>k_is
  case l6=>k_is
  case c6=>k_is
  case k6=>k_is
  case a7=>k_is
  case l7=>k_is
  case c7=>k_is
  case k7=>k_is
  case a8=>k_is
  case l8=>k_is
  case c8=>k_is
  case k8=>k_is
  case a9=>k_is
  case l9=>k_is
  case c9=>k_is
  case k9=>k_is
  case a10=>k_is
  case l10=>k_is
  case c10=>k_is
  case k10=>k_is
  case a11=>k_is
  case l11=>k_is
  case c11=>k_is
  case k11=>k_is
  case a12=>k_is
  case l12=>k_is
  case c12=>k_is
  case k12=>k_is
  case a13=>k_is
  case l13=>k_is
  case c13=>k_is
  case k13=>k_is
  case a14=>k_is
  case l14=>k_is
  case c14=>k_is
  case k14=>k_is
  case a15=>k_is
  case l15=>k_is
  case c15=>k_is
  case k15=>k_is
  case a16=>k_is
  case l16=>k_is
  case c16=>k_is
  case k16=>k_is
  case a17=>k_is
  case l17=>k_is
  case c17=>k_is
  case k17=>k_is
  case a18=>k_is
  case l18=>k_is
  case c18=>k_is
  case k18=>k_is
  case a19=>k_is
  case l19=>k_is
  case c19=>k_is
  case k19=>k_is
  case a20=>k_is
  case l20=>k_is
  case c20=>k_is
  case k20=>k_is
  case a21=>k_is
  case l21=>k_is
  case c21=>k_is
  case k21=>k_is
  case a22=>k_is
  case l22=>k_is
  case c22=>k_is
  case k22=>k_is
  case a23=>k_is
  case l23=>k_is
  case c23=>k_is
  case k23=>k_is
  case a24=>k_is
  case l24=>k_is
  case c24=>k_is
  case k24=>k_is
  case a25=>k_is
  case l25=>k_is
  case c25=>k_is
  case k25=>k_is
  case a26=>k_is
  case l26=>k_is
  case c26=>k_is
  case k26=>k_is
  case a27=>k_is
  case l27=>k_is
  case c27=>k_is
  case k27=>k_is
  case a28=>k_is
  case l28=>k_is
  case c28=>k_is
  case k28=>k_is
  case a29=>k_is
  case l29=>k_is
  case c29=>k_is
  case k29=>k_is
  case a30=>k_is
  case l30=>k_is
  case c30=>k_is
  case k30=>k_is
  case a31=>k_is
  case l31=>k_is
  case c31=>k_is
  case k31=>k_is
  case a32=>k_is
  case l32=>k_is
  case c32=>k_is
  case k32=>k_is
  case a33=>k_is
  case l33=>k_is
  case c33=>k_is
  case k33=>k_is
  case a34=>k_is
  case l34=>k_is
  case c34=>k_is
  case k34=>k_is
  case a35=>k_is
  case l35=>k_is
  case c35=>k_is
  case k35=>k_is
  case a36=>k_is
  case l36=>k_is
  case c36=>k_is
  case k36=>k_is
  case a37=>k_is
  case l37=>k_is
  case c37=>k_is
  case k37=>k_is
  case a38=>k_is
  case l38=>k_is
  case c38=>k_is
  case k38=>k_is
  case z1=>k_is
  case z2=>k_is
  case z3=>k_is
  case z4=>k_is
  case z5=>k_is
  case z6=>k_is
  case z7=>k_is
  case z8=>k_is
  case z9=>k_is
  case z10=>k_is
  case z11=>k_is
  case z12=>k_is
  case z13=>k_is
  case z14=>k_is
  case z15=>k_is
  case z16=>k_is
  case z17=>k_is
  case z18=>k_is
  case z19=>k_is
  case z20=>k_is
