import PyProof.Rows.All
import Wide.All
import OpenK.AllK
import Lean
import PySem.Challenge.RW_contactnets_k44_nets_drawn_together
set_option Elab.async false
set_option linter.all false
set_option autoImplicit true
set_option relaxedAutoImplicit true
set_option genSizeOf false
set_option maxRecDepth 100000
set_option maxHeartbeats 1000000
open List renaming length_map→qA0,getElem?_append_right→qA3,getElem?_eq_getElem→qA4,getElem?_eq_some_iff→qA7,mem_cons→qA8,size_toArray→qA9,getElem?_append_left→qB0,getElem?_map→qB3,map_cons→qB5,mem_singleton→qB6,mem_append→qB7,length_append→qB8,mem_map→qB9,mem_of_getElem?→qC0,mem_cons_of_mem→qC2,mem_append_right→qC5,append_assoc→qC6,length_cons→qC7,map_map→qC8,getElem?_cons_succ→qC9,length_eq_zero_iff→qD0,lookup_cons→qD1,map_append→qD2,not_mem_nil→qD3,mem_cons_self→qD5,pairwise_append→qD6,getElem?_set_ne→qD7,length_take→qD8,all_eq_true→qD9,mem_filter→qE0,filter_cons→qE2,mem_range→qE4,length_drop→qE6,getElem_mem→qE7,mem_append_left→qE9,getElem?_set_self→qF0,pairwise_cons→qF3,getElem?_toArray→qF4,take_append_drop→qF5,pairwise_singleton→qF7,length_singleton→qF9,length_range→qG1,append_nil→qG3,length_nil→qG4,getD→qG5,mem_of_mem_take→qG6,getD_eq_getElem?_getD→qG8,filter_eq_nil_iff→qG9,getElem?_range→qH0,getElem?_zip_eq_some→qH1,take_length→qH3,cons→qH4,map_nil→qH5,any_cons→qH6,mapM_cons→qH7,nodup_cons→qH8,find?_cons→qH9,filterMap_cons→qI0,length_replicate→qI4,drop_eq_getElem_cons→qI5,pairwise_map→qI8,mem_of_mem_drop→qI9,getElem?_replicate→qJ0,mem_filterMap→qJ2,take_of_length_le→qJ4,filter_append→qJ6,getElem?_eq_none→qJ8,take_add_one→qJ9,replicate→qK0,mem_iff_getElem→qK1,getElem?_of_mem→qK2,pairwise_iff_getElem→qK4,map_congr_left→qK5,findSome?_cons→qK6,length_set→qK8,foldl_cons→qK9,getElem?_drop→qL0,set_cons_succ→qL1,set_cons_zero→qL2,reverse_cons→qL5,take_succ_eq_append_getElem→qL7,pairwise_of_forall_mem_list→qL8,nodup_append→qL9,getElem_of_mem→qM4,zip_cons_cons→qM7,drop_zero→qM8,length_eraseIdx_of_lt→qM9,filterMap_nil→qN0,findSome?_eq_none_iff→qN1,length→qN2,getElem_drop→qN4,mapM_toArray→qN5,foldl_append→qN7,getElem?_take_of_lt→qN8,all_cons→qN9,filterMap_cons_some→qO0,map_drop→qO1,mem_singleton_self→qO3,mem_reverse→qO4,cons_append→qO5,perm_middle→qO6,map_snd_zip→qO7,nodup_range→qO8,pairwise_lt_range→qP1,map_set→qP3,of_mem_zip→qP5,length_zip→qP6,pairwise_reverse→qP7,nodup_nil→qP9,filter_eq_self→qQ2,zip_nil_right→qQ5,findIdx?_cons→qR0,map_inj_right→qR1,take_sublist→qR2,zip_nil_left→qR3,ext_getElem→qS0,all_toArray→qS1,isEmpty_map→qS3,drop_length→qS4,any_eq_true→qS5,forIn_cons→qS8,range_succ→qT1,forIn_nil→qT3,map→qT4,drop_drop→qT5,map_take→qT6
open Option renaming bind_eq_some_iff→qA2,map_eq_some_iff→qA5,isSome_iff_exists→qK7,map_some→qM2,isSome_map→qN3,map_eq_none_iff→qP4,isSome_some→qQ6,getD_none→qR8,bind_some→qS6,bind→qT7
open Nat renaming le_refl→qA6,lt_of_lt_of_le→qC1,ne_of_lt→qC3,le_trans→qD4,zero_le→qE1,lt_succ_of_lt→qE3,not_lt_zero→qG0,lt_irrefl→qG7,lt_succ_self→qH2,le_of_lt→qI1,sub_self→qI2,ne_of_gt→qI7,le_add_right→qJ1,lt_of_le_of_lt→qJ3,lt_or_ge→qJ5,le_succ→qL3,add_sub_cancel_left→qL4,lt_trichotomy→qL6,min_eq_left→qM3,le_of_not_lt→qO2,succ_le_succ→qO9,min_eq_right→qP0,mod_lt→qP2,pow_le_pow_right→qQ0,lt_or_eq_of_le→qQ7,lt_of_lt_of_eq→qQ8,add_sub_cancel→qQ9,le_of_eq→qR4,lt_trans→qR5,sub_zero→qR6,zero_add→qR7,succ_ne_self→qR9,le_antisymm→qS9
open Bool renaming false_ne_true→qB1,and_eq_true→qC4,or_eq_true→qE8,false_eq_true→qF8,eq_iff_iff→qI6,not_eq_true'→qM0,false_and→qP8,or_false→qQ4,and_false→qT2
open Int renaming toNat_natCast→qF1,emod_lt_of_pos→qI3,emod_nonneg→qJ7,le_trans→qM5,fdiv_eq_ediv_of_nonneg→qM6,le_refl→qQ1,toNat_of_nonneg→qQ3,le_antisymm→qT0
open PySem.Heap renaming get?_push_of_some→qA1,get?_push_size→qB2,lt_size→qB4,SameBut→qE5,get?_update_other→qF2,size_push→qF6,get?_update_self→qG2,IsTuple→qK3,IsList→qM1,get?_push_ne→qN6,size_update→qS2,ExtBut→qS7
abbrev yA:=List Int
abbrev yB:=List PySem.Value
abbrev yC:=List PySem.Addr
abbrev yD:=List (PySem.Addr × PySem.Obj)
abbrev yE:=List PySem.Expr
abbrev yF:=Option PySem.Value
abbrev yG:=Option Int
abbrev yH:=List PySem.Str
abbrev yI:=List PyProof.Rows.Keyed
abbrev yJ:=Array PySem.Value
abbrev yK:=Option Nat
abbrev yL:=PySem.Value→PySem.Shared→Prop
open PySem renaming wpAny_bind→yO,wpAny_pure→yP,Shared→yQ,Addr→yR,Value→yT,wpAny→yV,model→yX,Spec→yY,Program→yZ,Expr→y4,compareOp→y7,sizeLine→y8,Heap→jA,Around→jC,World→jD,starEach→jE,wpAny_newObj_type→jF,wpAny_setState_of→jG,bootBuiltins→jH,wpAny_callSpecial?_slot→jI,wpAny_call_entry→jJ,binaryOp→jM,tupleKeyHash→jO,wpAny_holding→jP,mainGlobals→jQ,assignEach→jR,SetTable→jT,wpAny_mono→jU,NameKind→jV,wpAny_truthy_bool→jX,wpAny_pyIter_tuple→jY,wpAny_seqItems→j3,cLine→j5,intKind→j7,swappedStores→j8,wpAny_pyIter_list→j9,PyData→vA,codeAny_builtin→vB,FuncData→vC,wpAny_field→vF,Scope→vG,wpAny_setField→vJ,eval→vL,wpAny_passesOwn→vM,cellsFrom→vN,wpAny_ite_split→vO,sizeLine_eq→vP,wpAny_typeOf→vQ,mem_of_lookup→vR,sysModules→vS,wpAny_setField_rec→vT,wpAny_attempt→vV,Stmt→vW,preSum→vX,foldedSetIterable→vY,codeAny→vZ,wpAny_rule→wA,firstArgMember→wB,IsPair→wC,holding→wI,wpAny_loadPart'→wJ,backTo→wK,wpAny_Call_Name_kw→wL,tupleKind_room_in1→wM,sliceBounds→wO,pyNext→wQ,codeAny_mono→wR,swapsWith→wW,wpAny_forIn_list→wY,wpAny_isInstance→wZ,behindInMarks→fA,plainId_quiet→fB,wpAny_newList→fD,assign→fE,letOwnedTupleGo→fF,pushCells_keeps→fG,IsZip→fJ,CmpOp→fO,newFunctionEnv→fP,wpAny_fieldsOf→fR,getItem→fU,wpAny_pyIter_enum→fW,ofAClassStatement→fX,wpAny_standAt→fY,attributeBase→f6,wpAny_comprehension_free→f7,tupleKind→gA,noFill_tuple_add→gD,pushCells→gE,wpAny_pyIter_zip→gF,wpAny_askSetting→gG,pickOrder→gH,rawInt→gK,IsPart→gO,Keyword→gQ,call_meets→gR,callerA→gU,setEntries→gV,wpAny_execs_nil→gY,wpAny_updateSeq→gZ,wpAny_specialOf→g6,builtinLookup_eq_fast→g9,wpAny_eqIsQuiet_tuple→lF,keywordEach→lJ,wpAny_of_eq→lK,wpAny_updateSeq_pair→lM,wpAny_newTuple→lO,isSubtype_stop→lQ,wpAny_runValue→lV,PassesOwn→lX,lastMarks→lY,valueAt→lZ,collect→mB,wpAny_raiseNew_none→mE,assignInOrder→mF,swapsWithSole→mG,seq_tuple_add→mI,Comprehension→mM,builtinsNs→mN,wpAny_load→mO,Result→mP,standAt→mT,Operator→mU,BindsTo→mV,concat_meets→mX,seqIndex_neg→mY,relabel→mZ,notedBy→m8,setNext→m9,slotArgs→dA,Paired→dI,isTrue→dJ,seqIndex_of→dM,subscripted→dN,atKey→dO,hashByValue→dR,setItem→dS,newList→dU
open PySem.W renaming Frag→yS,kia_one→fL,fnOf→fZ,keepIn→lH,codeIn→mW,methodObj→dL
open Array renaming length_toList→yU,getElem?_eq_getElem→yW,getElem?_toList→y9,getElem?_eq_none→jN,getElem?_replicate→wH
open PyProof.Rows renaming wpS_bind→jK,Keyed→jL,callWith_type1→jS,wpS_pure→jW,seqObj→j4,slot_tuple_getitem→j6,IntsAre→vE,SortKind→vU,SortSt→wD,wpS_forRange→wT,callWith_builtin1→wX,assignInOrder_cons→fN,size_push'→fQ,AllBare→fT,listUpdate_at→f9,subscriptTail_builtinR→gP,listItems_at→gX,entry_list_sort→g7,envOfC→lI,slot_list_sort→lS,args_list_sort→lT,sortedHeap_old→lU,entry_proto_collect'→lW,lt_int→mC,entry_tuple_getitem→mD,subscriptTail→mJ,sortedHeap_at→mK,reverseSlice'→mL,wpS_modify→mQ,IsTup→mS,plain_sorted→dC,entry_sorted→dD,args_sorted1→dE,wpS_get→dF,wpS_mono→dG,mem_zip_self→dH,kind_sorted→dP,seqEpoch_at→dQ
open PySem.Obj renaming mapSeq→jZ,data_mapFields→vK,isFreed_of_fields→wV,cls_mapFields→fV,putSet→mR
open PyProof.Rows.F renaming plain_set_update_loop→vD,entry_set_update_loop→wF
open PySem.Builtin renaming bitAnd→vH,bitXor→lG,bitOr→mH
open PySem.F renaming slot_tuple_iterator_next→vI,args_tuple_add_2→wG,entry_tuple_add→wN,plainAttrs_list→wP,slot_tuple_add→wS,slot_tuple_lt→wU,args_tuple_iterator_next_1→fH,slot_zip_next→fI,entry_tuple_iterator_next→fK,plain_extend_loop→fS,slot_list_extend→f8,args_tuple_lt_2→gC,plain_list_iadd→gJ,entry_tuple_lt→gM,plain_set_new→g8,slot_set_iter→lE
open PySem.Calls renaming call_function_entry→wE,Name_function_global→fM
open Option renaming some→Z9,none→Z8
open Bool renaming true→Z7,false→Z5
namespace L2
open PySem PySem.Spec PyProof.Rows
abbrev Wm(x:Str):Prop:=(x == ("__debug__":Str))=Z5
abbrev Zm:=Sum Int Str
noncomputable def SL:Zm->yT->Bool
 |.inl k,v=>Value.isInt k v
 |.inr x,v=>Value.isStrOf x v
noncomputable def Ou(w:jD):Zm->Int
 |.inl k=>hashInt k
 |.inr x=>hashStr w x
theorem Vb:∀{k:Zm}{v:yT},SL k v=Z7->(∃i t,k=Sum.inl i/\v=Value.int i t)∨(∃x t,k=Sum.inr x/\v=Value.str x t)
 |.inl i,v,h=>by obtain⟨t,e⟩:=Value.isInt_shape (k:=i) (v:=v) h;exact .inl ⟨i,t,rfl,e⟩
 |.inr x,v,h=>by obtain⟨t,e⟩:=Value.isStrOf_shape (x:=x) (v:=v) h;exact .inr ⟨x,t,rfl,e⟩
theorem FJ(i:Int)(t:Tok):SL (.inl i) (.int i t)=Z7:=by simp[SL,Value.isInt]
theorem FI(x:Str)(t:Tok):SL (.inr x) (.str x t)=Z7:=by simp[SL,Value.isStrOf]
theorem FH(a b:Int):decide ((Sum.inl a:Zm)=Sum.inl b)=(a == b):=by
 by_cases e:a=b
 ·subst e;simp
 ·have h:¬(Sum.inl a:Zm)=Sum.inl b:=λq=>e (Sum.inl.inj q);rw[decide_eq_false h];exact(beq_eq_false_iff_ne.mpr e).symm
theorem FG(a b:Str):decide ((Sum.inr a:Zm)=Sum.inr b)=decide (a=b):=by
 by_cases e:a=b
 ·subst e;simp
 ·have h:¬(Sum.inr a:Zm)=Sum.inr b:=λq=>e (Sum.inr.inj q);rw[decide_eq_false h,decide_eq_false e]
theorem FF(a:Int)(b:Str):decide ((Sum.inl a:Zm)=Sum.inr b)=Z5:=decide_eq_false (λq=>nomatch q)
theorem FE(a:Str)(b:Int):decide ((Sum.inr a:Zm)=Sum.inl b)=Z5:=decide_eq_false (λq=>nomatch q)
noncomputable def WV(prog:yZ)(w:jD):PySem.KeyKind prog w Zm where
 is:=SL
 hash:=Ou w
 inj:=λv a b f d=>by
  rcases Vb f with⟨i,t,rfl,rfl⟩| ⟨x,t,rfl,rfl⟩
  ·rcases Vb d with⟨j,u,rfl,e⟩| ⟨y,u,rfl,e⟩
   ·injection e with e1 _;rw[e1]
   ·exact nomatch e
  ·rcases Vb d with⟨j,u,rfl,e⟩| ⟨y,u,rfl,e⟩
   ·exact nomatch e
   ·injection e with e1 _;rw[e1]
 byValue:=λk v h=>by rcases Vb h with⟨i,t,rfl,rfl⟩| ⟨x,t,rfl,rfl⟩<;>rfl
 pyHash:=λc h=>by
  rcases Vb c with⟨i,t,rfl,rfl⟩| ⟨x,t,rfl,rfl⟩
  ·exact wpAny_pyHash_int h
  ·exact wpAny_pyHash_str h
 eqBool:=λg c h=>by
  rcases Vb g with⟨i,t,rfl,rfl⟩| ⟨x,t,rfl,rfl⟩
  ·rcases Vb c with⟨j,u,rfl,rfl⟩| ⟨y,u,rfl,rfl⟩
   ·rw[FH]at h;exact wpAny_eqBool_int h
   ·rw[FF]at h;exact SeqAt.EqAt.int_str i t y u _ _ _ _ h
  ·rcases Vb c with⟨j,u,rfl,rfl⟩| ⟨y,u,rfl,rfl⟩
   ·rw[FE]at h;exact SeqAt.EqAt.str_int x t j u _ _ _ _ h
   ·rw[FG]at h;exact wpAny_eqBool_str h
 «strs»:=λk x t v h=>by
  rcases Vb h with⟨i,u,rfl,e⟩| ⟨y,u,rfl,e⟩
  ·exact nomatch e
  ·injection e with e1 _;subst e1;cases v<;>rfl
theorem FD(prog:yZ)(w:jD)(i:Int)(t:Tok):(WV prog w).is (.inl i) (.int i t)=Z7:=FJ i t
theorem FC(prog:yZ)(w:jD)(x:Str)(t:Tok):(WV prog w).is (.inr x) (.str x t)=Z7:=FI x t
inductive V where
 |non|bl (b:Bool)| int (i:Int)| str (x:Str)| byt (b:Array UInt8)| flt (b:UInt64)| ref (a:yR)| ty (n:String)
 deriving DecidableEq
def ZI:V->yT->Prop
 |.non,u=>u=Value.none
 |.bl b,u=>u=Value.bool b
 |.int i,u=>∃t,u=Value.int i t
 |.str x,u=>∃t,u=Value.str x t
 |.byt b,u=>∃t,u=Value.bytes b t
 |.flt b,u=>∃t,u=Value.float b t
 |.ref a,u=>u=Value.ref a
 |.ty n,u=>u=Value.type n
noncomputable abbrev ZM:List V->yB->Prop:=dI ZI
theorem ZM.length(r:ZM xs a):xs.length=a.length:=Paired.length r
theorem ZM.get:∀{xs:List V}{a:yB}{i:Nat}{x:V},ZM xs a->xs[i]?=Z9 x->∃u,a[i]?=Z9 u/\ZI x u
 |_,_,_,_,.nil,e=>by simp at e
 |_,_,0,_,.cons r _,e=>by simp at e;subst e;exact⟨_,rfl,r⟩
 |_,_,i+1,x,.cons _ t,e=>by obtain⟨u,c,b⟩:=ZM.get (i:=i) (x:=x) t (by simpa using e);exact⟨u,by simpa using c,b⟩
theorem ZM.set(r:ZI x u):∀{xs:List V}{a:yB} (i:Nat),ZM xs a->ZM (xs.set i x) (a.set i u)
 |_,_,_,.nil=>.nil
 |_,_,0,.cons _ t=>.cons r t
 |_,_,i+1,.cons q t=>.cons q (ZM.set r i t)
theorem ZM.append:∀{xs ys:List V}{a b:yB},ZM xs a->ZM ys b->ZM (xs++ys) (a++b)
 |_,_,_,_,.nil,s=>s
 |_,_,_,_,.cons r t,s=>.cons r (ZM.append t s)
theorem ZM.take:∀{xs:List V}{a:yB} (n:Nat),ZM xs a->ZM (xs.take n) (a.take n)
 |_,_,0,_=>.nil
 |_,_,_+1,.nil=>.nil
 |_,_,n+1,.cons r t=>.cons r (ZM.take n t)
theorem ZM.drop:∀{xs:List V}{a:yB} (n:Nat),ZM xs a->ZM (xs.drop n) (a.drop n)
 |_,_,0,r=>r
 |_,_,_+1,.nil=>.nil
 |_,_,n+1,.cons _ t=>ZM.drop n t
def XH:Option V->yF->Prop
 |some v,Z9 u=>ZI v u
 |none,Z8=>True
 |_,_=>False
def KV{a:Type}:List (a×V)->List (a×yT)->Prop:=dI fun(p:a×V) (q:a×yT)=>p.1=q.1/\ZI p.2 q.2
noncomputable def kV:Zm->V
 |.inl i=>.int i
 |.inr x=>.str x
inductive HO where
 /-- a list -/
 |lst (xs:List V)
 /-- a tuple (never changes) -/
 |tup (xs:List V)
 /-- a dict whose keys are ints and texts;one whose keys are tuples of ints and texts (the empty one is both) -/
 |dK (kvs:List (Zm×V))| dT (kvs:List (List Zm×V))
 /-- a set of ints: its members,its size -/
 |set (S:Int->Bool) (n:Nat)
 /-- an instance of the class at C,its dict at dx,its attributes -/
 |ins (C dx:yR) (fs:List (Str×V))
 /-- the dict of the instance at x -/
 |own (x:yR)
 /-- the dict of an exception -/
 |xd (fs:List (Str×V))
 /-- a bound method,f of x -/
 |met (f x:yR)
 /-- a range object lo,lo+1,.. below hi -/
 |rng (lo hi:Int)
 /-- a thing that is known to the object (the script;a dict while a loop walks it): read,never written while it is so -/
 |frz (o:Obj) (u:HO)
 /-- a code object's table -/
 |tbl (ps:yJ)
 /-- any other thing,by what is Z7 of its one object (a def of one's own: SetO a S n:=HO.ext λh=>..) -/
 |ext (φ:jA->Prop)
abbrev Hp:=yR->Option HO
noncomputable def ZE(H:Hp)(a:yR)(o:HO):Hp:=λb=>if b=a then Z9 o else H b
theorem Xg:ZE H a o a=Z9 o:=by unfold ZE;rw[if_pos rfl]
theorem YX(h:b≠a):ZE H a o b=H b:=by unfold ZE;rw[if_neg h]
theorem FB:ZE (ZE H a o) a u=ZE H a u:=by funext b;unfold ZE;split<;>rfl
theorem FA{H:Hp}(h:H a=Z9 o)(h':H b=Z9 u)(d:o≠u):a≠b:=by intro e;subst e;rw[h]at h';exact d (Option.some.inj h')
theorem Vr{H:Hp}(h:H a=Z9 o)(h':H b=Z8):a≠b:=by intro e;subst e;rw[h]at h';cases h'
section
variable (P:yZ) (w:jD)
def XX(H:Hp)(h:jA)(a:yR):HO->Prop
 |.lst d=>d.length<=y8/\∃(c:yB) (n:Nat),ZM d c/\h.get? a=Z9 { cls:=.type "list",data:=.seq c.toArray n }
 |.tup d=>d.length<=y8/\∃c:yB,ZM d c/\mS h a c.toArray
 |.dK b=>b.length<=y8/\(a == vS)=Z5/\∃j,KV b j/\h.DictOf (WV P w) a j
 |.dT b=>b.length<=y8/\(a == vS)=Z5/\∃d:List (List Zm×yR×yT),
   dI (fun(p:List Zm×V) (q:List Zm×yR×yT)=>p.1=q.1/\H q.2.1=Z9 (.tup (p.1.map kV))/\ZI p.2 q.2.2) b d /\
   ∃o m r,h.get? a=Z9 o/\o.ExactDict/\o.data=.dict m r/\m.toList=d.map (entryOfKey (gA (WV P w)))/\(d.map (·.1)).Nodup
 |.set S n=>h.SetOf (j7 P w) a S n
 |.ins C g fs=>H g=Z9 (.own a)/\fs.length<=1000/\g≠a/\h.get? a=Z9 (W.instObj C g) /\
   ∃e,h.Ns1 g e/\(∀f,XH (fs.lookup f) (e f))/\PySem.Within e (fs.map (·.1))
 |.own _=>∃o,h.get? a=Z9 o
 |.xd fs=>∃e,h.Ns1 a e/\∀f,XH (fs.lookup f) (e f)
 |.rng s z=>∃t u v,h.get? a=Z9 { cls:=.type "range",data:=.fields #[.int s t,.int z u,.int 1 v] }
 |.frz o u=>h.get? a=Z9 o/\XX H h a u
 |.tbl y=>h.get? a=Z9 { cls:=.none,data:=.fields y }
 |.met f x=>h.get? a=Z9 (dL (.ref f) (.ref x))
 |.ext i=>i h/\(∃o,h.get? a=Z9 o)/\∀k l:jA,i k->(∀o,k.get? a=Z9 o->l.get? a=Z9 o)->i l
def Yq(H:Hp)(h:jA):Prop:=∀a o,H a=Z9 o->XX P w H h a o
end
section
variable {P:yZ}{w:jD}{H H':Hp}{h h':jA}{a:yR}{o:HO}
theorem XX.lt(x:XX P w H h a o):a<h.objs.size:=by
 cases o with
 |lst c=>obtain⟨_,_,_,_,e⟩:=x;exact qB4 e
 |tup c=>obtain⟨_,_,_,p⟩:=x;exact p.lt
 |dK b=>obtain⟨_,_,_,_,o,_,_,e,_⟩:=x;exact qB4 e
 |dT b=>obtain⟨_,_,_,_,o,_,_,e,_⟩:=x;exact qB4 e
 |set S n=>obtain⟨o,_,_,_,e,_⟩:=x;exact qB4 e
 |ins C j fs=>obtain⟨_,_,_,e,_⟩:=x;exact qB4 e
 |own y=>obtain⟨_,e⟩:=x;exact qB4 e
 |xd fs=>obtain⟨_,⟨_,_,_,e,_⟩,_⟩:=x;exact qB4 e
 |rng g d=>obtain⟨_,_,_,e⟩:=x;exact qB4 e
 |frz k u=>obtain⟨e,_⟩:=x;exact qB4 e
 |tbl i=>exact qB4 (show h.get? a=Z9 _ from x)
 |met f y=>exact qB4 (show h.get? a=Z9 _ from x)
 |ext l=>obtain⟨_,⟨_,e⟩,_⟩:=x;exact qB4 e
theorem Paired.mapP{e g:Type}{F G:e->g->Prop}:∀{c:List e}{d:List g},dI F c d->(∀a b,F a b->G a b)->dI G c d
 |_,_,.nil,_=>.nil
 |_,_,.cons r t,f=>.cons (f _ _ r) (Paired.mapP t f)
theorem XX.stay(x:XX P w H h a o)(k:∀b u,(b=a∨H b=Z9 (.own a))->h.get? b=Z9 u->h'.get? b=Z9 u)
  (G:∀b,H b=Z9 (.own a)->H' b=Z9 (.own a)) (ht:∀b xs,H b=Z9 (.tup xs)->H' b=Z9 (.tup xs)):XX P w H' h' a o:=by
 induction o with
 |lst xs=>obtain⟨z,l,n,r,e⟩:=x;exact⟨z,l,n,r,k _ _ (.inl rfl) e⟩
 |tup xs=>obtain⟨z,l,r,g,e,c⟩:=x;exact⟨z,l,r,g,k _ _ (.inl rfl) e,c⟩
 |dK m=>obtain⟨z,y,E,r,g,j,i,e,c⟩:=x;exact⟨z,y,E,r,g,j,i,k _ _ (.inl rfl) e,c⟩
 |dT m =>
  obtain⟨z,y,xs,r,g,j,i,e,c⟩:=x;exact⟨z,y,xs,Paired.mapP r λp q z=>⟨z.1,ht _ _ z.2.1,z.2.2⟩,g,j,i,k _ _ (.inl rfl) e,c⟩
 |set S n=>obtain⟨g,j,i,t,e,c⟩:=x;exact⟨g,j,i,t,k _ _ (.inl rfl) e,c⟩
 |ins C J fs =>
  obtain⟨d,z,ne,e,A,⟨s,j,i,I,c⟩,r⟩:=x;exact⟨G _ d,z,ne,k _ _ (.inl rfl) e,A,⟨s,j,i,k _ _ (.inr d) I,c⟩,r⟩
 |own y=>obtain⟨g,e⟩:=x;exact⟨g,k _ _ (.inl rfl) e⟩
 |xd fs=>obtain⟨A,⟨s,j,i,e,c⟩,r⟩:=x;exact⟨A,⟨s,j,i,k _ _ (.inl rfl) e,c⟩,r⟩
 |rng K M=>obtain⟨t,u,v,e⟩:=x;exact⟨t,u,v,k _ _ (.inl rfl) e⟩
 |frz g u F=>obtain⟨e,q⟩:=x;exact⟨k _ _ (.inl rfl) e,F q⟩
 |tbl D =>
  have e:h.get? a=Z9 { cls:=.none,data:=.fields D }:=x;show h'.get? a=Z9 { cls:=.none,data:=.fields D };exact k a _ (.inl rfl) e
 |met f y =>
  have e:h.get? a=Z9 (dL (.ref f) (.ref y)):=x;show h'.get? a=Z9 (dL (.ref f) (.ref y));exact k a _ (.inl rfl) e
 |ext L=>obtain⟨p,⟨o,e⟩,B⟩:=x;exact⟨B _ _ p λo q=>k _ _ (.inl rfl) q,⟨o,k _ _ (.inl rfl) e⟩,B⟩
theorem Yq.lt(x:Yq P w H h)(e:H a=Z9 o):a<h.objs.size:=(x a o e).lt
theorem Yq.fresh(x:Yq P w H h)(e:h.objs.size<=a):H a=Z8:=by
 cases q:H a with
 |none=>rfl
 |some u=>exact absurd (qC1 (x.lt q) e) (qG7 _)
theorem Yq.kept(x:Yq P w H h)(k:∀b u,h.get? b=Z9 u->h'.get? b=Z9 u):Yq P w H h':=λa o e =>
 (x a o e).stay (λb u _ q=>k b u q) (λ_ q=>q) λ_ _ q=>q
theorem Yq.laid(x:Yq P w H h)(k:∀b u,h.get? b=Z9 u->h'.get? b=Z9 u)(i:h.objs.size<=a)(d:XX P w (ZE H a o) h' a o):Yq P w (ZE H a o) h':=λb u e=>by
 have g:=x.fresh i;by_cases f:b=a
 ·subst f;rw[Xg]at e;cases e;exact d
 ·rw[YX f]at e;exact(x b u e).stay (λc v _ q=>k c v q) (λc q=>by rw[YX (Vr q g)];exact q) λc j q=>by rw[YX (Vr q g)];exact q
end
def Rd(H:Hp)(a:yR)(u:HO):Prop:=H a=Z9 u∨∃o,H a=Z9 (.frz o u)
theorem Rd.ok(r:Rd H a u)(x:Yq P w H h):XX P w H h a u:=by
 rcases r with r|⟨o,r⟩
 ·exact x a u r
 ·obtain⟨_,q⟩:=x a _ r;exact q
def RO:Option HO->Prop
 |some (.lst _)=>True
 |some (.dK _)=>True
 |some (.dT _)=>True
 |some (.set _ _)=>True
 |some (.ins _ _ _)=>True
 |some (.ext _)=>True
 |_=>False
section
variable {P:yZ}{w:jD}{H:Hp}{h h':jA}{x e:yR}{o':HO}
theorem Yq.write(ok:Yq P w H h)(g:RO (H x))(he:e=x∨H e=Z9 (.own x))(k:∀b u,b≠e->h.get? b=Z9 u->h'.get? b=Z9 u)(n:∃u,h'.get? e=Z9 u)
  (m:XX P w (ZE H x o') h' x o'):Yq P w (ZE H x o') h':=λb u q=>by
 have d:∀c y,H c=Z9 (.own y)->c≠x:=λc y r z=>by subst z;rw[r]at g;exact g
 have f:∀c i,H c=Z9 (.tup i)->c≠x:=λc i r z=>by subst z;rw[r]at g;exact g
 by_cases l:b=x
 ·subst l;rw[Xg]at q;cases q;exact m
 ·rw[YX l]at q;by_cases a:b=e
  ·have o:H b=Z9 (.own x):=by
    rcases he with z|z
    ·exact absurd (a.trans z) l
    ·rw[a];exact z
   rw[q]at o;cases o;obtain⟨v,p⟩:=n;exact⟨v,by rw[a];exact p⟩
  ·refine(ok b u q).stay (λc v j r=>k c v ?_ r) (λc r=>by rw[YX (d c b r)];exact r) λc i r=>by rw[YX (f c i r)];exact r
   rcases j with rfl|j
   ·exact a
   ·rintro rfl;rcases he with z|z
    ·exact d c b j z
    ·rw[j]at z;cases z;exact l rfl
end
structure Un(fs ex:yC)(H H':Hp)(h h':jA):Prop where
 keep:∀b o,h.get? b=Z9 o->H b=Z8->b∉fs->b∉ex->h'.get? b=Z9 o
 slot:∀b o,h.get? b=Z9 o->H b=Z8->b∈fs->b∉ex->∃sl,h'.get? b=Z9 { o with slots:=sl }
 free:∀b o,h.get? b=Z9 o->H b=Z8->b∉ex->H' b=Z8
 there:∀b o,h.get? b=Z9 o->b∉ex->∃o',h'.get? b=Z9 o'
 tups:∀b xs,H b=Z9 (.tup xs)->H' b=Z9 (.tup xs)
 frzs:∀b o u,H b=Z9 (.frz o u)->H' b=Z9 (.frz o u)
 tbls:∀b ps,H b=Z9 (.tbl ps)->∃more,H' b=Z9 (.tbl (ps++more))
section
variable {fs fs' ex ex':yC}{H H1 H2:Hp}{h h1 h2 h':jA}{a x e:yR}{o:HO}
theorem Un.any(u:Un fs ex H H1 h h1)(q:h.get? b=Z9 c)(n:H b=Z8)(f:b∉ex):∃sl,h1.get? b=Z9 { c with slots:=sl }:=by
 by_cases d:b∈fs
 ·exact u.slot b c q n d f
 ·exact⟨c.slots,u.keep b c q n d f⟩
theorem Un.kept(k:∀b u,h.get? b=Z9 u->h'.get? b=Z9 u):Un fs ex H H h h' :=
 ⟨λb c q _ _ _=>k b c q,λb c q _ _ _=>⟨c.slots,k b c q⟩,λ_ _ _ n _=>n,λb c q _=>⟨c,k b c q⟩,λ_ _ q=>q,λ_ _ _ q=>q,λ_ d q=>⟨#[],by rw[q];simp⟩⟩
theorem Un.refl:Un fs ex H H h h:=Un.kept λ_ _ q=>q
theorem Un.laid(k:∀b u,h.get? b=Z9 u->h'.get? b=Z9 u)(f:h.objs.size<=a)(c:H a=Z8):Un fs ex H (ZE H a o) h h' where
 keep:=λb u q _ _ _=>k b u q
 slot:=λb u q _ _ _=>⟨u.slots,k b u q⟩
 free:=λb u q n _=>by rw[YX (qC3 (qC1 (qB4 q) f))];exact n
 there:=λb u q _=>⟨u,k b u q⟩
 tups:=λb d q=>by rw[YX (Vr q c)];exact q
 frzs:=λb u d q=>by rw[YX (Vr q c)];exact q
 tbls:=λb g q=>⟨#[],by rw[YX (Vr q c),q];simp⟩
theorem Un.write(d:RO (H x))(he:e=x∨H e=Z9 (.own x))(k:∀b u,b≠e->h.get? b=Z9 u->h'.get? b=Z9 u)(f:∃u,h'.get? e=Z9 u):Un fs ex H (ZE H x o) h h':=by
 have j:∀b,H b=Z8->b≠x:=λb n z=>by subst z;rw[n]at d;exact d
 have i:∀b,H b=Z8->b≠e:=λb n z=>by
  subst z;rcases he with r|r
  ·exact j b n r
  ·rw[n]at r;cases r
 have g:∀b u,H b=Z9 u->¬RO (Z9 u)->b≠x:=λb u q l z=>by subst z;rw[q]at d;exact l d
 refine⟨λb u q n _ _=>k b u (i b n) q,λb u q n _ _=>⟨u.slots,k b u (i b n) q⟩,λb u q n _=>by rw[YX (j b n)];exact n,λb u q _=>?_,
  λb m q=>by rw[YX (g b _ q λz=>z)];exact q,λb u m q=>by rw[YX (g b _ q λz=>z)];exact q,λb p q=>⟨#[],by rw[YX (g b _ q λz=>z),q];simp⟩⟩
 by_cases c:b=e
 ·subst c;exact f
 ·exact⟨u,k b u c q⟩
end
noncomputable def Qr(h:jA)(H:Hp):yC:=(List.range h.objs.size).filter λa=>(H a).isSome
noncomputable def Xx(h:jA)(H:Hp):Heap:=W.hideAll h (Qr h H)
theorem Fz(h:jA)(H:Hp):(Xx h H).objs.size=h.objs.size:=W.hideAll_size _ _
theorem Fy(e:h.get? b=Z9 o)(n:H b=Z8):(Xx h H).get? b=Z9 o :=
 W.hideAll_get _ e λa=>by have q:(H b).isSome=Z7:=(qE0.mp a).2;rw[n]at q;simp at q
theorem Fx(e:(Xx h H).get? b=Z9 o):h.get? b=Z9 o/\H b=Z8:=by
 have a:h.get? b=Z9 o:=W.of_hideAll (Qr h H) e;refine⟨a,?_⟩;cases q:H b with
 |none=>rfl
 |some x =>
  have c:b∈Qr h H:=qE0.mpr ⟨qE4.mpr (qB4 a),by simp[q]⟩;have z:(Xx h H).get? b=Z8:=W.hideAll_none (Qr h H) c;rw[z]at e;cases e
noncomputable def KM(g h:jA)(L:yR):yD:=(List.range h.objs.size).filterMap λa=>if a=L∨(g.get? a).isSome=Z7 then Z8 else(h.get? a).map λo=>(a,o)
theorem Fw(d:a≠L)(c:g.get? a=Z8)(b:h.get? a=Z9 o):(a,o)∈KM g h L :=
 qJ2.mpr ⟨a,qE4.mpr (qB4 b),by simp[d,c,b]⟩
noncomputable def ZD(g h:jA)(L d:yR):yD:=(KM g h L).filter λp=>decide (p.1≠d)
theorem zLj{g h:jA}{L d a:yR}{o:Obj}(f:a≠L)(b:g.get? a=Z8)(e:h.get? a=Z9 o)(c:a≠d):(a,o)∈ZD g h L d :=
 qE0.mpr ⟨Fw f b e,decide_eq_true c⟩
structure Mod(K:yS)(mg:Str->yF)(base:jA):Prop where
 kin:K.In base
 glob:base.Ns jQ mg
 blt:∃mb,base.Ns mN mb/\∀x:Str,x ≠ "__name__"->mb x=jH x
 nolimit:base.NoLimit
structure Cx where
 prog:yZ
 w:jD
 K:yS
 mg:Str->yF
 base:jA
 A:jC
 N:yH
 s₀:yQ
 H₀:Hp
 env:Env
 outer:List Env
 stack:List Env
 ex:yC
 fn:Str->Bool
 calm:Bool
 pn:yD
 xe:yL
noncomputable def VQ(l:List Env):yC:=l.filterMap (·.frame)
noncomputable abbrev Cx.fs(X:Cx):yC:=VQ X.outer
def RN(a:vG)(x:Str):Prop:=a.names.lookup x=Z9 .local∨a.names.lookup x=Z9 .cell∨a.names.lookup x=Z9 .free
def SK(a:vG)(x:Str):Prop:=a.names.lookup x=Z9 .local∨a.names.lookup x=Z9 .cell
def Ot(env:Env)(h:jA)(m:Str->yF)(x:Str)(u:yT):Prop :=
 (env.kindOf x=Z9 .local/\m x=Z9 u)∨((env.kindOf x=Z9 .cell∨env.kindOf x=Z9 .free)/\∃c,env.cells.lookup x=Z9 c/\h.IsCell c (Z9 u))
structure Cx.Ok(X:Cx):Prop where
 mod:Mod X.K X.mg X.base
 kind:X.env.scope.kind=.function
 glob:X.env.globals=jQ
 blt:X.env.builtins=mN
 above:X.s₀.heap.objs.size<=X.env.locals
 inj:∀x y c,X.env.cells.lookup x=Z9 c->X.env.cells.lookup y=Z9 c->x=y
 has:∀x,(X.env.kindOf x=Z9 .cell∨X.env.kindOf x=Z9 .free)->∃c,X.env.cells.lookup x=Z9 c
 cab:∀x c,X.fn x=Z7->X.env.cells.lookup x=Z9 c->X.s₀.heap.objs.size<=c
 hd:X.calm=Z7->X.A.handled=Z8
 frames:X.A.frames=Z9 X.stack
 stk:X.stack=X.outer∨(X.stack=X.env::X.outer/\X.env.frame=Z9 X.env.locals)
 exf:∀b∈X.ex,b≠X.env.locals/\∀x c,X.env.cells.lookup x=Z9 c->c≠b
 bs:∀b o,X.base.get? b=Z9 o->X.s₀.heap.get? b=Z9 o/\X.H₀ b=Z8
 bsz:X.base.objs.size<=X.s₀.heap.objs.size
 noex:∀b o,X.base.get? b=Z9 o->b∉X.ex
 exfs:∀b∈X.ex,b∉X.fs
 funs:X.s₀.heap.FunFrames X.base X.outer
 frf:∀b∈X.fs,X.H₀ b=Z8
structure ZQ(X:Cx)(pins:yD)(Z:List (Option V))(H:Hp)(s:yQ):Prop where
 ok:X.Ok
 os:s.os=X.s₀.os
 bare:fT s.gens
 base:Un X.fs X.ex X.H₀ H X.s₀.heap s.heap
 loc:∃m,s.heap.Ns X.env.locals m/\∀(i:Nat) (x:Str) (v:V),X.N[i]?=Z9 x->Z[i]?=Z9 (Z9 v)->RN X.env.scope x->∃u,ZI v u/\Ot X.env s.heap m x u
 cell:∀x c,X.env.cells.lookup x=Z9 c->∃v,s.heap.IsCell c v
 free:H X.env.locals=Z8
 freeC:∀x c,X.env.cells.lookup x=Z9 c->H c=Z8
 pin:∀p∈X.pn++pins,s.heap.get? p.1=Z9 p.2/\H p.1=Z8/\p.1≠X.env.locals/\p.1∉X.fs/\∀v,p.2.data≠.cell v
 hok:Yq X.prog X.w H s.heap
 len:Z.length=X.N.length
section
variable {X:Cx}{pins:yD}{Z:List (Option V)}{H H':Hp}{s:yQ}{h':jA}
theorem Cx.Ok.nofr(ok:X.Ok)(e:X.base.get? b=Z9 o):b∉X.fs:=λa=>by have:=(ok.funs.mem a).1;rw[e]at this;cases this
theorem ZQ.bs(I:ZQ X pins Z H s):∀b o,X.base.get? b=Z9 o->s.heap.get? b=Z9 o/\H b=Z8:=λb o e =>
 ⟨I.base.keep b o (I.ok.bs b o e).1 (I.ok.bs b o e).2 (I.ok.nofr e) (I.ok.noex b o e),I.base.free b o (I.ok.bs b o e).1 (I.ok.bs b o e).2 (I.ok.noex b o e)⟩
theorem ZQ.bk(I:ZQ X pins Z H s):∀b o,X.base.get? b=Z9 o->s.heap.get? b=Z9 o:=λb o e=>(I.bs b o e).1
theorem ZQ.mod(I:ZQ X pins Z H s):Mod X.K X.mg X.base:=I.ok.mod
theorem ZQ.kIn(I:ZQ X pins Z H s):X.K.In s.heap:=I.ok.mod.kin.keeps I.bk
theorem ZQ.lt(I:ZQ X pins Z H s):X.env.locals<s.heap.objs.size:=let ⟨_,hn,_⟩:=I.loc;hn.lt
theorem ZQ.sz(I:ZQ X pins Z H s):X.s₀.heap.objs.size<=s.heap.objs.size:=qD4 I.ok.above (qI1 I.lt)
theorem ZQ.nofs(I:ZQ X pins Z H s){a:yR}(h:s.heap.objs.size<=a):a∉X.fs:=λb=>by obtain⟨_,o,c,_⟩:=I.ok.funs.mem b;exact absurd (qC1 (qB4 c) (qD4 I.sz h)) (qG7 _)
theorem ZQ.cne(I:ZQ X pins Z H s):∀x c,X.env.cells.lookup x=Z9 c->c≠X.env.locals:=λx c e z=>by obtain⟨v,o,d,f⟩:=I.cell x c e;obtain⟨m,⟨i,h,g,b,a,_⟩,_⟩:=I.loc;rw[z,b]at d;cases d;rw[a]at f;cases f
theorem ZQ.funs(I:ZQ X pins Z H s):s.heap.FunFrames X.base X.outer:=by
 have all:∀(l:List Env),(∀b∈VQ l,b∈X.fs)->X.s₀.heap.FunFrames X.base l->s.heap.FunFrames X.base l:=by
  intro l
  induction l with
  |nil=>intro _ _;trivial
  |cons k r g =>
   intro f h;obtain⟨hk,⟨L,o,a,n,i,j⟩,m⟩:=h;have c:L∈X.fs:=f L (by unfold VQ;rw[qI0,a];exact qD5);obtain⟨p,e⟩:=I.base.slot L o i (I.ok.frf L c) c λz=>I.ok.exfs L z c;exact⟨hk,⟨L,_,a,n,e,j⟩,g (λb d=>f b (by unfold VQ;rw[qI0,a];exact qC2 _ d)) m⟩
 exact all X.outer (λ_ d=>d) I.ok.funs
theorem ZQ.stack(I:ZQ X pins Z H s):s.heap.FunFrames X.base X.stack:=by
 rcases I.ok.stk with e|⟨e,a⟩
 ·rw[e];exact I.funs
 ·rw[e];obtain⟨m,b,_⟩:=I.loc;refine .cons (by rw[I.ok.kind];decide) a b ?_ I.funs;exact Heap.get?_none_of_le (qD4 I.ok.bsz I.ok.above)
theorem ZQ.stkSub(I:ZQ X pins Z H s):∀b∈VQ X.stack,b∈X.env.locals::X.fs:=λb a=>by
 rcases I.ok.stk with e|⟨e,c⟩
 ·rw[e]at a;exact qC2 _ a
 ·rw[e]at a;unfold VQ at a;rw[qI0,c]at a;exact a
theorem ZQ.stkFree(I:ZQ X pins Z H s):∀b∈VQ X.stack,H b=Z8:=λb a=>by
 rcases qA8.mp (I.stkSub b a)with e|a
 ·rw[e];exact I.free
 ·obtain⟨_,o,c,_⟩:=I.ok.funs.mem a;exact I.base.free b o c (I.ok.frf b a) λz=>I.ok.exfs b z a
theorem ZQ.step{ch:yC}(I:ZQ X pins Z H s)
  (h:∀b∈ch,(b∈X.ex∨X.s₀.heap.objs.size<=b)/\b≠X.env.locals/\(∀x c,X.env.cells.lookup x=Z9 c->c≠b)/\∀p∈X.pn++pins,p.1≠b)
  (keep:∀b o,b≠X.env.locals->b∉X.fs->b∉ch->s.heap.get? b=Z9 o->H b=Z8->h'.get? b=Z9 o)
  (y:∀b o,b≠X.env.locals->b∈X.fs->b∉ch->s.heap.get? b=Z9 o->H b=Z8->∃sl,h'.get? b=Z9 { o with slots:=sl }) (f:∀b o,b∉ch->s.heap.get? b=Z9 o->H b=Z8->H' b=Z8)
  (B:∀b o,b∉ch->s.heap.get? b=Z9 o->∃o',h'.get? b=Z9 o')
  (E:∀b xs,H b=Z9 (.tup xs)->H' b=Z9 (.tup xs)) (D:∀b o u,H b=Z9 (.frz o u)->H' b=Z9 (.frz o u)) (F:∀b ps,H b=Z9 (.tbl ps)->∃more,H' b=Z9 (.tbl (ps++more)))
  (ns:∀m,s.heap.Ns X.env.locals m->h'.Ns X.env.locals m) (M:Yq X.prog X.w H' h') (S:fT g') :
  ZQ X pins Z H' { s with heap:=h',gens:=g',drawn:=d',toks:=t' }:=by
 have J:∀b o,X.s₀.heap.get? b=Z9 o->b≠X.env.locals:=λb o e=>qC3 (qC1 (qB4 e) I.ok.above);have t:∀b o,X.s₀.heap.get? b=Z9 o->b∉X.ex->b∉ch:=λb o e a A=>by
  rcases(h b A).1 with z|z
  ·exact a z
  ·exact absurd (qC1 (qB4 e) z) (qG7 _)
 have g:∀x c,X.env.cells.lookup x=Z9 c->∀v,s.heap.IsCell c v->h'.IsCell c v:=λx c e v ⟨o,C,K⟩=>by
  have j:c∉ch:=λz=>(h c z).2.2.1 x c e rfl;by_cases N:c∈X.fs
  ·obtain⟨sl,q⟩:=y c o (I.cne x c e) N j C (I.freeC x c e);exact⟨_,q,K⟩
  ·exact⟨o,keep c o (I.cne x c e) N j C (I.freeC x c e),K⟩
 refine⟨I.ok,I.os,S,⟨λb o e n A a=>?_,λb o e n A a=>?_,λb o e n a=>?_,λb o e a=>?_,λb xs e=>E b xs (I.base.tups b xs e),λb o xs e=>D b o xs (I.base.frzs b o xs e),λb ps e=>?_⟩,?_,λx c e=>?_,?_,λx c e=>?_,λp P=>?_,M,I.len⟩
 ·exact keep b o (J b o e) A (t b o e a) (I.base.keep b o e n A a) (I.base.free b o e n a)
 ·obtain⟨sl,w⟩:=I.base.slot b o e n A a;obtain⟨L,G⟩:=y b _ (J b o e) A (t b o e a) w (I.base.free b o e n a);exact⟨L,G⟩
 ·obtain⟨o',w⟩:=I.base.there b o e a;exact f b o' (t b o e a) w (I.base.free b o e n a)
 ·obtain⟨o',w⟩:=I.base.there b o e a;exact B b o' (t b o e a) w
 ·obtain⟨Q,w⟩:=I.base.tbls b ps e;obtain⟨U,G⟩:=F b _ w;exact⟨Q++U,by rw[G,Array.append_assoc]⟩
 ·obtain⟨m,W,T⟩:=I.loc;refine⟨m,ns m W,λi x v w G R=>?_⟩;obtain⟨u,r,l⟩:=T i x v w G R;refine⟨u,r,?_⟩;rcases l with l|⟨k,c,e,z⟩
  ·exact .inl l
  ·exact .inr ⟨k,c,e,g x c e _ z⟩
 ·obtain⟨v,z⟩:=I.cell x c e;exact⟨v,g x c e v z⟩
 ·obtain⟨m,⟨o,_,_,C,_⟩,_⟩:=I.loc;exact f _ o (λz=>(h _ z).2.1 rfl) C I.free
 ·obtain⟨v,o,C,K⟩:=I.cell x c e;exact f c o (λz=>(h c z).2.2.1 x c e rfl) C (I.freeC x c e)
 ·obtain⟨e,n,ne,O,d⟩:=I.pin p P;have j:p.1∉ch:=λz=>(h p.1 z).2.2.2 p P rfl;exact⟨keep p.1 p.2 ne O j e n,f p.1 p.2 j e n,ne,O,d⟩
theorem ZQ.un(I:ZQ X pins Z H s)(u:Un X.fs [] H H' s.heap h')(g:Yq X.prog X.w H' h'):ZQ X pins Z H' { s with heap:=h',toks:=t' }:=by
 obtain⟨m,⟨o,t,l,h,r⟩,_⟩:=id I.loc;obtain⟨p,i⟩:=u.any h I.free (by simp);exact I.step (g':=s.gens) (d':=s.drawn) (ch:=[]) (λ_ z=>nomatch z) (λb o _ f _ e n=>u.keep b o e n f (by simp)) (λb o _ f _ e n=>u.slot b o e n f (by simp)) (λb o _ e n=>u.free b o e n (by simp)) (λb o _ e=>u.there b o e (by simp)) u.tups u.frzs u.tbls (λq j=>by
  obtain⟨v,d,c,a,k⟩:=j;rw[h]at a;cases a;exact⟨_,d,c,i,k⟩) g I.bare
theorem ZQ.call(I:ZQ X pins Z H s)(u:Un (VQ X.stack) ch H H' s.heap h')(j:Yq X.prog X.w H' h')(l:fT g')
  (d:∀b∈ch,(b∈X.ex∨X.s₀.heap.objs.size<=b)/\b≠X.env.locals/\(∀x c,X.env.cells.lookup x=Z9 c->c≠b)/\∀p∈X.pn++pins,p.1≠b) :
  ZQ X pins Z H' { s with heap:=h',gens:=g',drawn:=d',toks:=t' }:=by
 obtain⟨m,⟨o,B,w,k,r⟩,_⟩:=id I.loc;obtain⟨y,g⟩:=u.any k I.free λz=>(d _ z).2.1 rfl;exact I.step (ch:=ch) d (λb o g v a e n=>u.keep b o e n (λz=>(qA8.mp (I.stkSub b z)).elim g v) a) (λb o _ _ a e n=>u.any e n a) (λb o a e n=>u.free b o e n a) (λb o a e=>u.there b o e a) u.tups u.frzs u.tbls (λA q=>by
  obtain⟨C,i,h,f,t⟩:=q;rw[k]at f;cases f;exact⟨_,i,h,g,t⟩) j l
theorem ZQ.turned(I:ZQ X pins Z H s)(k:∀b o,b≠it->s.heap.get? b=Z9 o->h'.get? b=Z9 o)(A:H it=Z8)(f:it≠X.env.locals)
  (h:it∈X.ex∨X.s₀.heap.objs.size<=it) (i:∀x c,X.env.cells.lookup x=Z9 c->c≠it) (t:∀p∈X.pn++pins,p.1≠it):ZQ X pins Z H { s with heap:=h',toks:=t' }:=by
 have d:∀b u,H b=Z9 u->b≠it:=λb u e z=>by rw[z,A]at e;cases e
 refine I.step (g':=s.gens) (d':=s.drawn) (ch:=[it]) (λb w=>?_) (λb o _ _ a e _=>k b o (λz=>a (by simp[z])) e) (λb o _ _ a e _=>⟨o.slots,k b o (λz=>a (by simp[z])) e⟩) (λ_ _ _ _ n=>n)
  (λb o a e=>⟨o,k b o (λz=>a (by simp[z])) e⟩) (λ_ _ e=>e) (λ_ _ _ e=>e) (λb B e=>⟨#[],by rw[e];simp⟩) (λm j=>?_) (λb u e=>?_) I.bare
 ·have e:b=it:=by simpa using w
  subst e;exact⟨h,f,i,t⟩
 ·obtain⟨o,y,g,l,r⟩:=j;exact⟨o,y,g,k _ o (Ne.symm f) l,r⟩
 ·refine(I.hok b u e).stay (λc v a q=>k c v ?_ q) (λ_ q=>q) λ_ _ q=>q;rcases a with z|z
  ·rw[z];exact d b u e
  ·exact d c _ z
theorem ZQ.tok(I:ZQ X pins Z H s)(t:Nat):ZQ X pins Z H { s with toks:=t }:=I.un (h':=s.heap) (t':=t) Un.refl I.hok
theorem ZQ.kept(I:ZQ X pins Z H s)(k:∀b u,s.heap.get? b=Z9 u->h'.get? b=Z9 u):ZQ X pins Z H { s with heap:=h',toks:=t' }:=I.un (Un.kept k) (I.hok.kept k)
theorem ZQ.laid{a:yR}(I:ZQ X pins Z H s)(k:∀b u,s.heap.get? b=Z9 u->h'.get? b=Z9 u)(d:s.heap.objs.size<=a)(c:XX X.prog X.w (ZE H a o) h' a o):
  ZQ X pins Z (ZE H a o) { s with heap:=h',toks:=t' }:=I.un (Un.laid k d (I.hok.fresh d)) (I.hok.laid k d c)
theorem ZQ.write(I:ZQ X pins Z H s)(d:RO (H x))(he:e=x∨H e=Z9 (.own x))(k:∀b u,b≠e->s.heap.get? b=Z9 u->h'.get? b=Z9 u)(a:∃u,h'.get? e=Z9 u)
  (c:XX X.prog X.w (ZE H x o) h' x o):ZQ X pins Z (ZE H x o) { s with heap:=h',toks:=t' }:=I.un (Un.write d he k a) (I.hok.write d he k a c)
theorem ZQ.weak(I:ZQ X pins Z H s)(e:a.length=Z.length)(w:∀(i:Nat) v,a[i]?=Z9 (Z9 v)->Z[i]?=Z9 (Z9 v)):ZQ X pins a H s :=
 ⟨I.ok,I.os,I.bare,I.base,let ⟨m,hn,hl'⟩:=I.loc;⟨m,hn,λi x v c d b=>hl' i x v c (w i v d) b⟩,I.cell,I.free,I.freeC,I.pin,I.hok,e.trans I.len⟩
theorem ZQ.pins_of(I:ZQ X pins Z H s)(h:∀p∈a,s.heap.get? p.1=Z9 p.2/\H p.1=Z8/\p.1≠X.env.locals/\p.1∉X.fs/\∀v,p.2.data≠.cell v):ZQ X a Z H s :=
 ⟨I.ok,I.os,I.bare,I.base,I.loc,I.cell,I.free,I.freeC,λp b=>(qB7.mp b).elim (λz=>I.pin p (qE9 _ z)) (h p),I.hok,I.len⟩
theorem KL{N:yH}(e:N.Nodup){i j:Nat}(a:N[i]?=Z9 x)(b:N[j]?=Z9 x):i=j:=by obtain⟨g,c⟩:=qA7.mp a;obtain⟨f,d⟩:=qA7.mp b;exact(List.getElem_inj e).mp (c.trans d.symm)
theorem Fv{E:yL}(I:ZQ X pins Z H s)(hN:X.N.Nodup)(N:X.N[i]?=Z9 x)(w:SK X.env.scope x)(r:ZI v u)
  (h:∀s',ZQ X pins (Z.set i (Z9 v)) H s'->(∃a,qE5 a s.heap s'.heap/\(a=X.env.locals∨X.env.cells.lookup x=Z9 a))->Q () s') (hf:X.fn x=Z7∨X.env.scope.names.lookup x=Z9 .local:=by first|exact .inl rfl|exact .inr rfl|assumption):yV M A (storeName X.env x u) Q E s:=by
 obtain⟨m,hn,hl⟩:=id I.loc;have J:(X.env.scope.kind == .class||(X.env.scope.kind == .module&&X.env.locals != X.env.globals))=Z5:=by rw[I.ok.kind];rfl
 have L:i<Z.length:=by rw[I.len];exact(qA7.mp N).1
 have cne:=I.cne;have l:∀{a:yR}{h':jA},(∃o,s.heap.get? a=Z9 o/\H a=Z8)->qE5 a s.heap h'->Yq X.prog X.w H h':=λ{a h'} ha f b ob e=>by
  obtain⟨_,_,B⟩:=ha;refine(I.hok b ob e).stay (λc S t q=>(f.2 c ?_).trans q) (λ_ q=>q) λ_ _ q=>q;rintro rfl;rcases t with rfl|t
  ·rw[B]at e;cases e
  ·rw[B]at t;cases t
 rcases w with hk|hk
 ·refine wpAny_storeName_local hk hn (λh' hn' f=>?_) J;obtain⟨oL,_,_,Y,_⟩:=id hn;refine h _ ⟨I.ok,I.os,I.bare,⟨λb o e n G w=>?_,λb o e n G w=>?_,I.base.free,λb o e w=>?_,I.base.tups,I.base.frzs,I.base.tbls⟩,⟨_,hn',λj y W g C e3=>?_⟩,λy c e=>?_,I.free,I.freeC,λp hp=>?_,l ⟨oL,Y,I.free⟩ f,by simpa using I.len⟩ ⟨_,f,.inl rfl⟩
  ·exact(f.2 b (qC3 (qC1 (qB4 e) I.ok.above))).trans (I.base.keep b o e n G w)
  ·obtain⟨sl,g⟩:=I.base.slot b o e n G w;exact⟨sl,(f.2 b (qC3 (qC1 (qB4 e) I.ok.above))).trans g⟩
  ·obtain⟨o',g⟩:=I.base.there b o e w;exact⟨o',(f.2 b (qC3 (qC1 (qB4 e) I.ok.above))).trans g⟩
  ·by_cases D:j=i
   ·subst D;rw[N]at g;cases g;rw[qF0 L]at C;cases C;exact⟨u,r,.inl ⟨hk,by simp⟩⟩
   ·rw[qD7 (Ne.symm D)]at C;obtain⟨U,r',q⟩:=hl j y W g C e3;refine⟨U,r',?_⟩;rcases q with⟨k,e⟩| ⟨k,c,e,z⟩
    ·refine .inl ⟨k,?_⟩;have:y≠x:=λe=>D (KL hN g (e▸N));simp[this,e]
    ·exact .inr ⟨k,c,e,z.sameBut f (cne y c e)⟩
  ·obtain⟨S,z⟩:=I.cell y c e;exact⟨S,z.sameBut f (cne y c e)⟩
  ·obtain⟨e,n,ne,nf,d⟩:=I.pin p hp;exact⟨(f.2 p.1 ne).trans e,n,ne,nf,d⟩
 ·have F:X.fn x=Z7:=by
   rcases hf with z|z
   ·exact z
   ·rw[z]at hk;cases hk
  obtain⟨c,t⟩:=I.ok.has x (.inl hk);obtain⟨S,z⟩:=I.cell x c t;refine wpAny_storeName_cell I.ok.kind hk t z (λh' O f=>?_);obtain⟨oc,P,K⟩:=id z;refine h { s with heap:=h' } ⟨I.ok,I.os,I.bare,⟨λb o e n G w=>?_,λb o e n G w=>?_,I.base.free,λb o e w=>?_,I.base.tups,I.base.frzs,I.base.tbls⟩,⟨m,hn.sameBut f (Ne.symm (cne x c t)),λj y W g C e3=>?_⟩,λy T e=>?_,I.free,I.freeC,λp hp=>?_,l ⟨oc,P,I.freeC x c t⟩ f,by simpa using I.len⟩ ⟨c,f,.inr t⟩
  ·exact(f.2 b (qC3 (qC1 (qB4 e) (I.ok.cab x c F t)))).trans (I.base.keep b o e n G w)
  ·obtain⟨sl,g⟩:=I.base.slot b o e n G w;exact⟨sl,(f.2 b (qC3 (qC1 (qB4 e) (I.ok.cab x c F t)))).trans g⟩
  ·obtain⟨o',g⟩:=I.base.there b o e w;exact⟨o',(f.2 b (qC3 (qC1 (qB4 e) (I.ok.cab x c F t)))).trans g⟩
  ·by_cases D:j=i
   ·subst D;rw[N]at g;cases g;rw[qF0 L]at C;cases C;exact⟨u,r,.inr ⟨.inl hk,c,t,O⟩⟩
   ·rw[qD7 (Ne.symm D)]at C;obtain⟨U,r',q⟩:=hl j y W g C e3;refine⟨U,r',?_⟩;rcases q with q|⟨k,T,e,z'⟩
    ·exact .inl q
    ·refine .inr ⟨k,T,e,z'.sameBut f ?_⟩;rintro rfl;exact D (KL hN g (I.ok.inj _ _ _ e t▸N))
  ·by_cases R:T=c
   ·subst R;exact⟨_,O⟩
   ·obtain⟨w2,z2⟩:=I.cell y T e;exact⟨w2,z2.sameBut f R⟩
  ·obtain⟨e,n,ne,nf,d⟩:=I.pin p hp;refine⟨(f.2 p.1 ?_).trans e,n,ne,nf,d⟩;intro q;rw[q,P]at e;have q':oc=p.2:=Option.some.inj e;exact d S (by rw[<- q'];exact K)
theorem Os{E:yL}(I:ZQ X pins Z H s)(c:X.N.Nodup)(b:X.N[i]?=Z9 x)(a:SK X.env.scope x)(r:ZI v u)
  (h:∀s',ZQ X pins (Z.set i (Z9 v)) H s'->Q () s') (e:X.fn x=Z7∨X.env.scope.names.lookup x=Z9 .local:=by first|exact .inl rfl|exact .inr rfl|assumption):yV M A (storeName X.env x u) Q E s :=
 Fv I c b a r (λs' d _=>h s' d) e
theorem ZQ.call'(I:ZQ X pins Z H s)(f:s'.os=s.os)(u:Un (VQ X.stack) ch H H' s.heap s'.heap)(d:Yq X.prog X.w H' s'.heap)(g:fT s'.gens)
  (a:∀b∈ch,(b∈X.ex∨X.s₀.heap.objs.size<=b)/\b≠X.env.locals/\(∀x c,X.env.cells.lookup x=Z9 c->c≠b)/\∀p∈X.pn++pins,p.1≠b):ZQ X pins Z H' s':=by obtain⟨i,g',d',t',h⟩:=s';have e:h=s.os:=f;subst e;exact I.call (g':=g') (t':=t') (d':=d') u d g a
end
abbrev XK:=yT->Option yR->Hp->Prop
abbrev St:=List (Option V)
abbrev VK:=V->Hp->Prop
abbrev TE:=St->Hp->VK->Prop
abbrev TT:=St->Hp->(Bool->Hp->Prop)->Prop
abbrev TA:=St->Hp->(List V->Hp->Prop)->Prop
structure Xw where
 nx:St->Hp->Prop
 rt:VK
 bk:St->Hp->Prop:=λ_ _=>False
 ct:St->Hp->Prop:=λ_ _=>False
abbrev TS:=Xw->St->Hp->Prop
inductive EP(X:Cx)(pins:yD)(Z:St)(Q:VK)(u:yT)(s':yQ):Prop
 |mk (v:V) (H':Hp) (I:ZQ X pins Z H' s') (r:ZI v u) (q:Q v H')
inductive TP(X:Cx)(pins:yD)(Z:St)(Q:Bool->Hp->Prop)(b:Bool)(s':yQ):Prop
 |mk (H':Hp) (I:ZQ X pins Z H' s') (q:Q b H')
inductive AP(X:Cx)(pins:yD)(Z:St)(Q:List V->Hp->Prop)(us:yB)(s':yQ):Prop
 |mk (vs:List V) (H':Hp) (I:ZQ X pins Z H' s') (r:ZM vs us) (q:Q vs H')
def SP(X:Cx)(a:yD)(D:Xw)(f:Flow)(s':yQ):Prop :=
 match f with
 |.next=>∃c b,ZQ X a c b s'/\D.nx c b
 |.brk=>∃c b,ZQ X a c b s'/\D.bk c b
 |.cont=>∃c b,ZQ X a c b s'/\D.ct c b
 |.ret u=>∃v c b,ZQ X a c b s'/\ZI v u/\D.rt v b
def PE(X:Cx)(e:y4)(t:TE):Prop :=
 ∀(a:yD) (s:yQ) (Z:St) (H:Hp) (Q:VK),ZQ X a Z H s->t Z H Q->yV (yX X.prog X.w) X.A (vL e X.env) (EP X a Z Q) X.xe s
def PT(X:Cx)(e:y4)(t:TT):Prop :=
 ∀(a:yD) (s:yQ) (Z:St) (H:Hp) (Q:Bool->Hp->Prop),ZQ X a Z H s->t Z H Q->yV (yX X.prog X.w) X.A (dJ e X.env (vL e X.env)) (TP X a Z Q) X.xe s
def PW(X:Cx)(e:y4)(t:TT):Prop :=
 ∀(b:Sem yT) (a:yD) (s:yQ) (Z:St) (H:Hp) (Q:Bool->Hp->Prop),ZQ X a Z H s->t Z H Q->yV (yX X.prog X.w) X.A (dJ e X.env b) (TP X a Z Q) X.xe s
theorem PW.pt(h:PW X e t):PT X e t:=h _
def PA(X:Cx)(es:yE)(t:TA):Prop :=
 ∀(b:Pos) (a:yD) (s:yQ) (Z:St) (H:Hp) (Q:List V->Hp->Prop),ZQ X a Z H s->t Z H Q->yV (yX X.prog X.w) X.A (spliced (wK b (jE es X.env))) (AP X a Z Q) X.xe s
def PS(X:Cx)(st:vW)(t:TS):Prop :=
 ∀(a:yD) (s:yQ) (Z:St) (H:Hp) (D:Xw),ZQ X a Z H s->t D Z H->yV (yX X.prog X.w) X.A (exec st X.env) (SP X a D) X.xe s
def XW(X:Cx)(st:List vW)(t:TS):Prop :=
 ∀(a:yD) (s:yQ) (Z:St) (H:Hp) (D:Xw),ZQ X a Z H s->t D Z H->yV (yX X.prog X.w) X.A (execs st X.env) (SP X a D) X.xe s
theorem Zv{Q b:c->yQ->Prop}{E:yL}(h:yV M A t Q E s)(d:∀a s,Q a s->b a s):yV M A t b E s:=jU h d λ_ _ x=>x
section
variable {X:Cx}
def Ub(i:Nat):TE:=fun Z H Q=>∃v,Z[i]?=Z9 (Z9 v)/\Q v H
def tC(v:V):TE:=λ_ H Q=>Q v H
theorem KJ{pos:Pos}(n:X.N[i]?=Z9 x)(p:RN X.env.scope x)(g:Wm x:=by decide)(f:(x == ("__classdict__":Str))=Z5:=by decide):PE X (.Name x pos) (Ub i):=by
 intro d s Z H Q I h;obtain⟨v,e,h⟩:=h;obtain⟨m,q,o⟩:=I.loc;obtain⟨u,r,l⟩:=o i x v n e p;have b:EP X d Z Q u s:=⟨v,H,I,r,h⟩
 rcases l with⟨hk,k⟩| ⟨hk,c,j,a⟩
 ·exact wpAny_Name (wpAny_loadName_local I.ok.kind hk q k b) g
 ·rcases hk with hk|hk
  ·exact wpAny_Name (wpAny_loadName_cell I.ok.kind hk j a b) g
  ·exact wpAny_Name (wpAny_loadName_free I.ok.kind hk j a b f) g
theorem Fu{i j pos}:PE X (.Constant (.int i) j pos) (tC (.int i)):=λ_ _ _ H _ I h=>wpAny_Constant_int ⟨.int i,H,I.tok _,⟨_,rfl⟩,h⟩
theorem Ft{b j pos}:PE X (.Constant (.bool b) j pos) (tC (.bl b)):=λ_ _ _ H _ I h=>Constant_bool ⟨.bl b,H,I,rfl,h⟩
theorem Fs{j pos}:PE X (.Constant .none j pos) (tC .non):=λ_ _ _ H _ I h=>Constant_none ⟨.non,H,I,rfl,h⟩
theorem Fq{x j pos}:PE X (.Constant (.str x) j pos) (tC (.str x)):=λ_ _ _ H _ I h=>Calls.Constant_str ⟨.str x,H,I.tok _,⟨_,rfl⟩,h⟩
def Gl(X:Cx)(x:Str):Prop:=X.env.kindOf x=Z9 .globalImplicit
theorem Fp{E:yL}{Z:St}{Q:yL}(I:ZQ X a Z H s)(b:Gl X x)(d:X.mg x=Z9 u)(h:Q u s)
  (c:Wm x:=by decide):yV (yX X.prog X.w) X.A (vL (.Name x pos) X.env) Q E s :=
 fM I.ok.kind b (Calls.loadGlobal_global (by rw[I.ok.glob];exact I.mod.glob.keeps I.bk) d h) c
theorem Va{E:yL}{Z:St}{pos:Pos}{Q:yL}(I:ZQ X a Z H s)(d:Gl X x)(e:X.mg x=Z8)(g:jH x=Z9 u)(h:Q u s)
  (i:x ≠ "__name__":=by decide) (f:Wm x:=by decide):yV (yX X.prog X.w) X.A (vL (.Name x pos) X.env) Q E s:=by obtain⟨j,b,c⟩:=I.mod.blt;exact fM I.ok.kind d (Calls.loadGlobal_builtin (by rw[I.ok.glob];exact I.mod.glob.keeps I.bk) e (by rw[I.ok.blt];exact b.keeps I.bk) ((c x i).trans g) h) f
theorem Fo{pos:Pos}(a:Gl X x)(e:X.mg x=Z8)(c:jH x=Z9 u)(r:ZI v u)(d:x ≠ "__name__":=by decide)(b:Wm x:=by decide):PE X (.Name x pos) (tC v) :=
 λ_ _ _ H _ I h=>Va I a e c ⟨v,H,I,r,h⟩ d b
variable {a b:y4}{ta tb:TE}{pos:Pos}
variable {tA tB':TT}{ZD:yE}
def Oq(t u:TT):TT:=fun Z H Q=>t Z H λc d=>if c=Z7 then u Z d Q else Q Z5 d
def Fn(t u:TT):TT:=fun Z H Q=>t Z H λc d=>if c=Z7 then Q Z7 d else u Z d Q
def Oo(t:TT):TT:=fun Z H Q=>t Z H λc d=>Q (!c) d
theorem Fm(f:PT X a tA):PW X (.BoolOp .And [a] pos) tA:=by
 intro i d s Z H Q I h;refine isTrue_and (Zv (f d s Z H Q I h) λc g e=>?_);cases c with
 |true=>exact isTrue_and_nil e
 |false=>exact e
theorem Fl(f:PT X a tA):PW X (.BoolOp .Or [a] pos) tA:=by
 intro i d s Z H Q I h;refine isTrue_or (Zv (f d s Z H Q I h) λc g e=>?_);cases c with
 |false=>exact isTrue_or_nil e
 |true=>exact e
theorem Fk(j:PT X a tA)(i:PW X (.BoolOp .And (b::ZD) pos) tB'):PW X (.BoolOp .And (a::b::ZD) pos) (Oq tA tB'):=by
 intro l d s Z H Q I h;refine isTrue_and (Zv (j d s Z H _ I h) λc k ⟨f,e,g⟩=>?_);cases c with
 |true=>exact i l d k Z f Q e g
 |false=>exact⟨f,e,g⟩
theorem Fj(j:PT X a tA)(i:PW X (.BoolOp .Or (b::ZD) pos) tB'):PW X (.BoolOp .Or (a::b::ZD) pos) (Fn tA tB'):=by
 intro l d s Z H Q I h;refine isTrue_or (Zv (j d s Z H _ I h) λc k ⟨f,e,g⟩=>?_);cases c with
 |true=>exact⟨f,e,g⟩
 |false=>exact i l d k Z f Q e g
theorem Fi(e:PT X a tA):PT X (.UnaryOp .Not a pos) (Oo tA):=by intro d s Z H Q I h;exact isTrue_not (Zv (e d s Z H (λc i=>Q (!c) i) I h) λc j ⟨f,g,q⟩=>⟨f,g,q⟩)
def Fh(f e:TE):TE:=fun Z H Q=>f Z H λx d=>∃c,x=.bl c/\if c=Z7 then e Z d Q else Q (.bl Z5) d
def On(f e:TE):TE:=fun Z H Q=>f Z H λx d=>∃c,x=.bl c/\if c=Z7 then Q (.bl Z7) d else e Z d Q
def Fg(d:TE):TE:=fun Z H Q=>d Z H λx e=>∃c,x=.bl c/\Q (.bl (!c)) e
theorem Ff{op}(h:PE X a t):PE X (.BoolOp op [a] pos) t:=λc s Z H Q I d=>BoolOp_one (h c s Z H Q I d)
theorem Fe(j:PE X a ta)(i:PE X (.BoolOp .And (b::ZD) pos) tb):PE X (.BoolOp .And (a::b::ZD) pos) (Fh ta tb):=by
 intro d s Z H Q I h;refine BoolOp_and (Zv (j d s Z H _ I h) λv l ⟨x,g,f,k,e⟩=>?_);obtain⟨c,rfl,e⟩:=e;cases k;refine jX ?_;cases c with
 |true=>exact i d l Z g Q f e
 |false=>exact⟨.bl Z5,g,f,rfl,e⟩
theorem Fd(j:PE X a ta)(i:PE X (.BoolOp .Or (b::ZD) pos) tb):PE X (.BoolOp .Or (a::b::ZD) pos) (On ta tb):=by
 intro d s Z H Q I h;refine BoolOp_or (Zv (j d s Z H _ I h) λv l ⟨x,g,f,k,e⟩=>?_);obtain⟨c,rfl,e⟩:=e;cases k;refine jX ?_;cases c with
 |false=>exact i d l Z g Q f e
 |true=>exact⟨.bl Z7,g,f,rfl,e⟩
theorem Fc(f:PE X a ta):PE X (.UnaryOp .Not a pos) (Fg ta):=by intro d s Z H Q I h;refine UnaryOp_ (Zv (f d s Z H _ I h) λv k ⟨x,j,g,i,e⟩=>?_);obtain⟨c,rfl,e⟩:=e;cases i;exact not_of (jX ⟨.bl (!c),j,g,rfl,e⟩)
def Fb(t:TT)(f e:TE):TE:=fun Z H Q=>t Z H λc d=>if c=Z7 then f Z d Q else e Z d Q
theorem E9(m:PT X c tA)(l:PE X a ta)(k:PE X b tb):PE X (.IfExp c a b pos) (Fb tA ta tb):=by
 intro e s Z H Q I h;refine wpAny_IfExp (Zv (m e s Z H _ I h) λd i ⟨g,f,j⟩=>?_);cases d with
 |true=>exact l e i Z g Q f j
 |false=>exact k e i Z g Q f j
end
def YT(K:yS)(H:Hp)(a:yR)(xs:List V):Prop :=
 Rd H a (.lst xs) ∨
  ∃(o:Obj) (b:yJ) (n:Nat),K.lookup a=Z9 o/\o.cls=.type "list"/\o.dict=Z8/\o.data=.seq b n/\b.size<=y8/\ZM xs b.toList
def Zp(K:yS)(H:Hp)(a:yR)(xs:List V):Prop :=
 Rd H a (.tup xs) ∨
  ∃(o:Obj) (b:yJ) (n:Nat),K.lookup a=Z9 o/\o.cls=.type "tuple"/\o.data=.seq b n/\b.size<=y8/\ZM xs b.toList
noncomputable def Om:yT->Option V
 |.none=>Z9 .non
 |.bool b=>Z9 (.bl b)
 |.int i _=>Z9 (.int i)
 |.str x _=>Z9 (.str x)
 |.bytes b _=>Z9 (.byt b)
 |.float b _=>Z9 (.flt b)
 |.ref a=>Z9 (.ref a)
 |.type n=>Z9 (.ty n)
 |_=>Z8
theorem ZI.abs(r:ZI x u):Om u=Z9 x:=by
 cases x with
 |non=>cases r;rfl
 |bl _=>cases r;rfl
 |int _=>obtain⟨t,rfl⟩:=r;rfl
 |str _=>obtain⟨t,rfl⟩:=r;rfl
 |byt _=>obtain⟨t,rfl⟩:=r;rfl
 |flt _=>obtain⟨t,rfl⟩:=r;rfl
 |ref _=>cases r;rfl
 |ty _=>cases r;rfl
theorem ZI.inj(r:ZI x u)(q:ZI y u):x=y:=Option.some.inj (r.abs.symm.trans q.abs)
theorem ZM.inj:∀{xs ys:List V}{a:yB},ZM xs a->ZM ys a->xs=ys
 |_,_,_,.nil,.nil=>rfl
 |_,_,_,.cons r t,.cons b c=>by rw[r.inj b,ZM.inj t c]
section
variable {X:Cx}{pins:yD}{Z:St}{H:Hp}{s:yQ}{a:yR}{xs ys:List V}
theorem YT.of{K:yS}(h:H a=Z9 (.lst xs)):YT K H a xs:=.inl (.inl h)
theorem Zp.of{K:yS}(h:H a=Z9 (.tup xs)):Zp K H a xs:=.inl (.inl h)
theorem ZQ.list(I:ZQ X pins Z H s)(h:YT X.K H a xs):∃its:yB,ZM xs its/\PlainL s.heap a its.toArray/\xs.length<=sizeLine:=by
 rcases h with h|⟨o,its,n,hk,c,b,d,f,r⟩
 ·obtain⟨z,its,n,r,e⟩:=h.ok I.hok;exact⟨its,r,⟨_,n,e,rfl,rfl,rfl⟩,z⟩
 ·refine⟨its.toList,r,⟨o,n,I.kIn a o hk,c,b,by simpa using d⟩,?_⟩;have e:=r.length;simp only[yU]at e;omega
theorem ZQ.tuple(I:ZQ X pins Z H s)(h:Zp X.K H a xs):∃its:yB,ZM xs its/\mS s.heap a its.toArray/\xs.length<=sizeLine:=by
 rcases h with h|⟨o,its,n,hk,b,c,d,r⟩
 ·obtain⟨z,its,r,p⟩:=h.ok I.hok;exact⟨its,r,p,z⟩
 ·refine⟨its.toList,r,⟨o,I.kIn a o hk,b,n,by simpa using c⟩,?_⟩;have e:=r.length;simp only[yU]at e;omega
theorem ZQ.list_inj(I:ZQ X pins Z H s)(h:YT X.K H a xs)(h':YT X.K H a ys):xs=ys:=by
 obtain⟨b,r,⟨o,n,e,_,_,d⟩,_⟩:=I.list h;obtain⟨its',g,⟨j,i,c,_,_,f⟩,_⟩:=I.list h';rw[e]at c;cases c;rw[d]at f;injection f with d1 _;have:b=its':=by simpa using congrArg Array.toList d1
 subst this;exact r.inj g
theorem ZQ.tuple_inj(I:ZQ X pins Z H s)(h:Zp X.K H a xs)(h':Zp X.K H a ys):xs=ys:=by
 obtain⟨b,r,⟨o,e,_,n,d⟩,_⟩:=I.tuple h;obtain⟨its',g,⟨j,c,_,i,f⟩,_⟩:=I.tuple h';rw[e]at c;cases c;rw[d]at f;injection f with d1 _;have:b=its':=by simpa using congrArg Array.toList d1
 subst this;exact r.inj g
end
noncomputable abbrev Cx.wish(X:Cx)(E:yL):Cx:={ X with xe:=E }
noncomputable abbrev Cx.nox(X:Cx):Cx:=X.wish λ_ _=>False
theorem Cx.Ok.wish{X:Cx}(ok:X.Ok)(E:yL):(X.wish E).Ok :=
 ⟨ok.mod,ok.kind,ok.glob,ok.blt,ok.above,ok.inj,ok.has,ok.cab,ok.hd,ok.frames,ok.stk,ok.exf,ok.bs,ok.bsz,ok.noex,ok.exfs,ok.funs,ok.frf⟩
theorem Cx.Ok.unwish{X:Cx}(ok:(X.wish E).Ok):X.Ok :=
 ⟨ok.mod,ok.kind,ok.glob,ok.blt,ok.above,ok.inj,ok.has,ok.cab,ok.hd,ok.frames,ok.stk,ok.exf,ok.bs,ok.bsz,ok.noex,ok.exfs,ok.funs,ok.frf⟩
section
variable {X:Cx}{pins:yD}{Z:St}{H:Hp}{s:yQ}{E:yL}
theorem ZQ.wish(I:ZQ X pins Z H s)(E:yL):ZQ (X.wish E) pins Z H s:=⟨I.ok.wish E,I.os,I.bare,I.base,I.loc,I.cell,I.free,I.freeC,I.pin,I.hok,I.len⟩
theorem ZQ.unwish(I:ZQ (X.wish E) pins Z H s):ZQ X pins Z H s:=⟨I.ok.unwish,I.os,I.bare,I.base,I.loc,I.cell,I.free,I.freeC,I.pin,I.hok,I.len⟩
theorem SP.unwish(h:SP (X.wish E) pins D f s'):SP X pins D f s':=by
 cases f with
 |next=>obtain⟨b,a,I,q⟩:=h;exact⟨b,a,I.unwish,q⟩
 |brk=>obtain⟨b,a,I,q⟩:=h;exact⟨b,a,I.unwish,q⟩
 |cont=>obtain⟨b,a,I,q⟩:=h;exact⟨b,a,I.unwish,q⟩
 |ret u=>obtain⟨v,b,a,I,r,q⟩:=h;exact⟨v,b,a,I.unwish,r,q⟩
theorem XW.nox{st:List vW}(h:XW X.nox st t):XW X st t:=λa s Z H D I b =>
 jU (h a s Z H D (I.wish _) b) (λ_ _ q=>q.unwish) λ_ _ z=>False.elim z
end
section
variable {X:Cx}{st:vW}{ZD:List vW}{t u:TS}{e:y4}{te:TE}{pos:Pos}
def KI:TS:=λD Z H=>D.nx Z H
def Ol(t u:TS):TS:=λD Z H=>t { D with nx:=u D } Z H
theorem E8:XW X [] KI:=λ_ _ Z H _ I h=>gY ⟨Z,H,I,h⟩
theorem E7(j:PS X st t)(b:XW X ZD u):XW X (st::ZD) (Ol t u):=by
 intro a s Z H D I h;refine wpAny_execs_cons (Zv (j a s Z H { D with nx:=u D } I h) λf g q=>?_);cases f with
 |next =>
  obtain⟨i,c,d,q⟩:=q;exact b a g i c D d q
 |ret v=>exact q
 |brk=>exact q
 |cont=>exact q
def E6:TS:=λD Z H=>D.bk Z H
def E5:TS:=λD Z H=>D.ct Z H
theorem E4:PS X (.Pass pos) KI:=λ_ _ Z H _ I h=>wpAny_Pass ⟨Z,H,I,h⟩
theorem E3:PS X (.Break pos) E6:=λ_ _ Z H _ I h=>wpAny_Break ⟨Z,H,I,h⟩
theorem E2:PS X (.Continue pos) E5:=λ_ _ Z H _ I h=>wpAny_Continue ⟨Z,H,I,h⟩
theorem ZQ.quiet{Z:St}(I:ZQ X a Z H s):interactive X.env=Z5:=by simp[interactive,I.ok.kind]
def E1(a:TE):TS:=λD Z H=>a Z H λ_ b=>D.nx Z b
theorem EZ(he:PE X e te)(hs:wW e Z8 pos.line X.env=pure Z5:=by rfl):PS X (.Expr e pos) (E1 te):=by intro a s Z H D I h;exact wpAny_Expr_any (Zv (he a s Z H _ I h) λv g ⟨x,c,b,f,d⟩=>⟨Z,c,b,d⟩) I.quiet hs
def Oj(a:TE):TS:=λD Z H=>a Z H D.rt
theorem EY(he:PE X e te):PS X (.Return (Z9 e) pos) (Oj te):=by intro a s Z H D I h;exact wpAny_Return_some (Zv (he a s Z H _ I h) λv g ⟨x,d,b,c,f⟩=>⟨x,Z,d,b,c,f⟩)
def EX:TS:=λD _ H=>D.rt .non H
theorem EW:PS X (.Return Z8 pos) EX:=λ_ _ Z H _ I h=>wpAny_Return_none ⟨.non,Z,H,I,rfl,h⟩
def Oi(c:TT)(t u:TS):TS:=λD Z H=>c Z H λb a=>if b=Z7 then t D Z a else u D Z a
theorem EV(n:PT X c tc)(m:XW X a t)(l:XW X b u):PS X (.If c a b pos) (Oi tc t u):=by
 intro f s Z H D I h;refine wpAny_If (Zv (n f s Z H _ I h) λd j ⟨i,g,k⟩=>?_);cases d with
 |true=>exact m f j Z i D g k
 |false=>exact l f j Z i D g k
def EU:TS:=λ_ _ _=>False
theorem ET:PS X st EU:=λ_ _ _ _ _ _ h=>h.elim
end
abbrev TG:=V->St->Hp->(St->Hp->Prop)->Prop
abbrev U9:=List V->St->Hp->(St->Hp->Prop)->Prop
def PG(X:Cx)(a:y4)(t:TG):Prop :=
 ∀(b:yD) (s:yQ) (Z:St) (H:Hp) (v:V) (u:yT) (Q:St->Hp->Prop),ZQ X b Z H s->ZI v u->t v Z H Q ->
  yV (yX X.prog X.w) X.A (fE a X.env u) (λ_ e=>∃d c,ZQ X b d c e/\Q d c) X.xe s
def Wl(X:Cx)(f:yE)(t:U9):Prop :=
 ∀(a:yD) (s:yQ) (Z:St) (H:Hp) (e:List V) (c:yB) (Q:St->Hp->Prop),ZQ X a Z H s->ZM e c->t e Z H Q ->
  yV (yX X.prog X.w) X.A (mF ((jR f X.env).map (·.2)) c) (λ_ g=>∃d b,ZQ X a d b g/\Q d b) X.xe s
abbrev U8:=V->V->V->Hp->(Hp->Prop)->Prop
def Wk(X:Cx)(t:U8):Prop :=
 ∀(a:yD) (s:yQ) (Z:St) (H:Hp) (o i v:V) (b d u:yT) (Q:Hp->Prop),ZQ X a Z H s->ZI o b->ZI i d->ZI v u->t o i v H Q ->
  yV (yX X.prog X.w) X.A (dS b d u) (λ_ e=>∃c,ZQ X a Z c e/\Q c) X.xe s
section
variable {X:Cx}{pos:Pos}
def Ua(i:Nat):TG:=λv Z H Q=>Q (Z.set i (Z9 v)) H
theorem Qq(f:X.N.Nodup)(c:X.N[i]?=Z9 x)(b:SK X.env.scope x)(e:X.fn x=Z7∨X.env.scope.names.lookup x=Z9 .local:=by first|exact .inl rfl|exact .inr rfl|assumption):PG X (.Name x pos) (Ua i):=by intro a s Z H v u Q I r h;exact wpAny_assign_Name (Os I f c b r (λg d=>⟨_,H,d,h⟩) e)
def RM:U9:=λa Z H Q=>a=[]/\Q Z H
def KH(t:TG)(u:U9):U9:=λc Z H Q=>∃v r,c=v::r/\t v Z H fun b a=>u r b a Q
theorem KG:Wl X [] RM:=by intro a s Z H c b Q I r h;obtain⟨e,h⟩:=h;subst e;cases r;exact assignInOrder_nil ⟨Z,H,I,h⟩
theorem KF(b:PG X e t)(c:Wl X es u)
  (hs:(jR (e::es) X.env).map (·.2)=fE e X.env::(jR es X.env).map (·.2):=by rfl):Wl X (e::es) (KH t u):=by
 intro a s Z H m n Q I r h;obtain⟨v,o,l,h⟩:=h;subst l;cases r with
 |cons r k =>
  rw[hs];refine fN (Zv (b a s Z H _ _ _ I r h) λ_ f ⟨d,g,j,i⟩=>?_);exact c a f d g _ _ Q j k i
def RL(K:yS)(n:Nat)(t:U9):TG:=λv Z H Q=>∃a b,v=.ref a/\Zp K H a b/\b.length=n/\t b Z H Q
theorem KE{k:Nat}(p:X.calm=Z7)(h:Wl X es t)
  (z:(jR es X.env).length=n:=by rfl) (f:(jR es X.env).findIdx? (·.1)=Z8:=by rfl):PG X (.Tuple es k pos) (RL X.K n t):=by intro c s Z H v u Q I r d;obtain⟨a,m,y,x,l,d⟩:=d;subst y;cases r;obtain⟨q,g,ht,A⟩:=I.tuple x;refine assign_Tuple_tuple (I.ok.hd p) ht (by simp[z,<- l,g.length]) f λi j=>?_;have w:ZQ X c Z H { s with heap:=i }:=I.kept (t':=s.toks) λb o e=>j b o (qC3 (qB4 e)) e;exact h c _ Z H m _ Q w (by simpa using g) d
def Oh(c a:TE)(t:U8):TG:=λv Z H Q=>c Z H λo e=>a Z e λi d=>t o i v d λb=>Q Z b
theorem ES(w:PE X o e)(C:PE X i d)(hs:Wk X t)
  (l:∀v,fE (.Subscript o i pos) X.env v=(do
   let b <- wI [v] (vL o X.env)
   let c <- wI [v,b] (vL i X.env)
   mT pos
   wI [v,b,c] (dS b c v)
   release [v,b,c] []):=by intro _;rfl):PG X (.Subscript o i pos) (Oh e d t):=by intro a s Z H v u Q I r h;rw[l];refine yO (jP (Zv (w a s Z H _ I h) λb n ⟨x,q,D,E,A⟩=>?_));refine yO (jP (Zv (C a n Z q _ D A) λc g ⟨y,B,f,p,m⟩=>?_));refine yO (fY (yO (jP (Zv (hs a g Z B x y v b c u _ f E p r m) λ_ F ⟨k,z,j⟩=>?_))));exact wpAny_release ⟨Z,k,z,j⟩
def VP(a:TE)(g:TG):TS:=λD Z H=>a Z H λx b=>g x Z b D.nx
theorem ER(he:PE X e c)(i:PG X b g)(hs:mG [b] e pos.line X.env=pure Z5:=by rfl)(d:j8 [b] e X.env=pure Z8:=by rfl)
  (f:(jR [b] X.env).map (·.2)=[fE b X.env]:=by rfl):PS X (.Assign [b] e pos) (VP c g):=by intro a s Z H D I h;refine wpAny_Assign_stores (Zv (he a s Z H _ I h) λv j ⟨x,k,m,n,l⟩=>?_) hs d;rw[f];exact Zv (i a j Z k x v _ m n l) λ_ o q=>q
def Og(i j:Nat)(a:TA):TS:=λD Z H=>a Z H λc b=>∃v w,c=[v,w]/\D.nx ((Z.set i (Z9 v)).set j (Z9 w)) b
theorem EO{l u d}(R:X.calm=Z7)(B:X.N.Nodup)(U:X.N[i]?=Z9 x)(P:X.N[j]?=Z9 y)(n:i≠j)
  (A:X.env.scope.names.lookup x=Z9 .local) (E:X.env.scope.names.lookup y=Z9 .local) (M:PA X [a,b] G)
  (K:j8 [.Tuple [.Name x t,.Name y k] l pt] (.Tuple [a,b] u d) X.env=pure (Z9 [x,y]))
  (hs:mG [.Tuple [.Name x t,.Name y k] l pt] (.Tuple [a,b] u d) pos.line X.env=pure Z5:=by rfl) :
  PS X (.Assign [.Tuple [.Name x t,.Name y k] l pt] (.Tuple [a,b] u d) pos) (Og i j G):=by
 intro c s Z H D I h;rw[exec_Assign_arm];refine yO (fY ?_);rw[hs];refine yO (yP ?_);rw[if_neg (by decide)];refine yO (Tuple_ (Zv (M _ c s Z H _ I h) λQ f ⟨vs,C,V,W,r⟩=>?_));obtain⟨v,w,Y,r⟩:=r;subst Y;obtain⟨g,u2,rfl,N,z⟩:∃g u2,Q=[g,u2]/\ZI v g/\ZI w u2:=by
  cases W with
  |cons p q =>
   cases q with
   |cons O T =>
    cases T;exact⟨_,_,rfl,p,O⟩
 refine jF ?_ (by show 2<=y8;decide);have J:ZQ X c Z C { f with heap:=f.heap.push { cls:=.type "tuple",data:=.seq [g,u2].toArray } }:=V.kept (t':=f.toks) λb o e=>qA1 _ e;rw[K];refine yO (yP ?_);show yV (yX X.prog X.w) X.A (do rule "assign.swapped-stores";let items <- unpackItems (.ref f.heap.objs.size) 2 Z8;mF [λv=>bindName X.env y v,λv=>bindName X.env x v] items.reverse;pure Flow.next) _ _ _;refine yO (wA (yO (unpackItems_tuple (items:=#[g,u2]) (I.ok.hd R) (IsTup.new f.heap _) λh' m=>?_)));have S:=J.kept (h':=h') (t':=f.toks) λb o e=>m b o (qC3 (qB4 e)) e;show yV _ _ (mF [λv=>bindName X.env y v,λv=>bindName X.env x v] [u2,g] >>= λ_=>pure Flow.next) _ _ _;refine yO (fN (wpAny_bindName (Os S B P (.inl E) z (λs2 L=>?_) (.inr E))));refine fN (wpAny_bindName (Os L B U (.inl A) N (λs3 F=>assignInOrder_nil (yP ?_)) (.inr A)));rw[List.set_comm _ _ (Ne.symm n)]at F;exact⟨_,C,F,r⟩
end
section
variable {X:Cx}{pos:Pos}
def EN(c:TT)(g:TS):TS:=λD Z H=>∃W:Nat->St->Hp->Prop,(∃m,W m Z H)/\∀m Z H,W m Z H ->
 c Z H λb f=>if b=Z7 then ∃N:St->Hp->Prop,(∀d a,N d a->∃e,e<m/\W e d a)/\g { D with nx:=N,ct:=N,bk:=D.nx } Z f else D.nx Z f
theorem EM(B:lX (yX X.prog X.w) X.A X.env X.xe)(G:PT X c tc)(K:XW X d y):PS X (.While c d [] pos) (EN tc y):=by
 intro a s Z H D I h;obtain⟨W,⟨M,J⟩,e⟩:=h;refine wpAny_While (codeAny_whileLoop (λn O=>∃u A,ZQ X a u A O/\W n u A) ?_ M ⟨Z,H,I,J⟩);rintro n F ⟨l,x,L,C⟩;refine vM B (Zv (G a F l x _ L (e n l x C)) λb E ⟨z,t,k⟩=>?_);cases b with
 |true =>
  obtain⟨N,w,k⟩:=k;rw[if_pos rfl];refine vM B (Zv (K a E l z _ t k) λf P j=>?_);cases f with
  |next =>
   obtain⟨i,g,q,r⟩:=j;obtain⟨p,m,o⟩:=w i g r;exact⟨p,m,i,g,q,o⟩
  |cont =>
   obtain⟨i,g,q,r⟩:=j;obtain⟨p,m,o⟩:=w i g r;exact⟨p,m,i,g,q,o⟩
  |brk=>exact j
  |ret v=>exact j
 |false =>
  rw[if_neg qB1];exact gY ⟨l,z,t,k⟩
end
structure It where
 go:Nat->Hp->Prop
 yld:Nat->Hp->V->Hp->Prop
 stop:Nat->Hp->Prop
def YF(X:Cx)(a:yD)(H:Hp)(b:yR):Prop :=
 H b=Z8/\b≠X.env.locals/\b∉X.fs/\(b∈X.ex∨X.s₀.heap.objs.size<=b)/\(∀x c,X.env.cells.lookup x=Z9 c->c≠b)/\∀p∈X.pn++a,p.1≠b
theorem ZQ.fpOk{Z:St}{b:yR}(I:ZQ X a Z H s)(d:s.heap.objs.size<=b)(h:f b=Z8):YF X a f b:=by
 refine⟨h,qI7 (qC1 I.lt d),I.nofs d,.inr (qD4 I.sz d),λx c e z=>?_,λp g z=>?_⟩
 ·obtain⟨v,q⟩:=I.cell x c e;exact absurd (qC1 q.lt (by rw[z];exact d)) (qG7 _)
 ·exact absurd (qC1 (qB4 (I.pin p g).1) (by rw[z];exact d)) (qG7 _)
structure Xv(P:yZ)(w:jD)(K:yS)(tg:y4)(JJ:It)(fp:yC)(it:yR)(tn:Nat->jA->Prop):Prop where
 mem:it∈fp
 obj:∀i h,tn i h->∀b∈fp,∃o,h.get? b=Z9 o/\∀v,o.data≠.cell v
 keep:∀i h h',tn i h->(∀b∈fp,∀o,h.get? b=Z9 o->h'.get? b=Z9 o)->tn i h'
 item:∀(X:Cx),X.prog=P->X.w=w->X.K=K->X.calm=Z7->∀(i:Nat) (pins:yD) (s:yQ) (Z:St) (H:Hp) (E:yL),ZQ X pins Z H s->(∀b∈fp,YF X pins H b)->tn i s.heap->JJ.go i H ->
  yV (yX P w) X.A (wQ (.ref it)) (λr s1=>∃u,r=Z9 u /\
   yV (yX P w) X.A (fF tg (.ref it) u) (λ_ s2=>∃x H',ZQ X pins Z H' s2/\ZI x u/\JJ.yld i H x H'/\tn (i+1) s2.heap/\∀b∈fp,H' b=Z8) E s1) E s
 done:∀(X:Cx),X.prog=P->X.w=w->X.K=K->X.calm=Z7->∀(i:Nat) (pins:yD) (s:yQ) (Z:St) (H:Hp) (E:yL),ZQ X pins Z H s->(∀b∈fp,YF X pins H b)->tn i s.heap->JJ.stop i H ->
  yV (yX P w) X.A (wQ (.ref it)) (λr s1=>r=Z8/\ZQ X pins Z H s1) E s
 self:∀(A:jC) (i:Nat) (s:yQ) (Q:yL) (E:yL),tn i s.heap->Q (.ref it) s->yV (yX P w) A (pyIter (.ref it)) Q E s
abbrev TI:=St->Hp->(It->Hp->Prop)->Prop
inductive KD(X:Cx)(pins:yD)(Z:St)(tg:y4)(R:It->Hp->Prop)(itv:yT)(s2:yQ):Prop
 |mk (it:yR) (fp:yC) (tn:Nat->jA->Prop) (JJ:It) (H':Hp) (e:itv=.ref it) (I:ZQ X pins Z H' s2) (T:Xv X.prog X.w X.K tg JJ fp it tn) (t0:tn 0 s2.heap) (f:∀b∈fp,YF X pins H' b) (r:R JJ H')
def PI(X:Cx)(c iter:y4)(b:TI):Prop :=
 ∀(a:yD) (s:yQ) (Z:St) (H:Hp) (R:It->Hp->Prop),ZQ X a Z H s->b Z H R ->
  yV (yX X.prog X.w) X.A (vL iter X.env) (λv d=>yV (yX X.prog X.w) X.A (pyIter v) (KD X a Z c R) X.xe d) X.xe s
theorem Of{E:yL}{d:yJ}(e:s.heap.get? b=Z9 o)(g:o.cls=.type n)(f:o.data=.fields d)
    (i:["enumerate","zip","dict_itemiterator","dict_reverseitemiterator","odict_iterator","itertools.zip_longest","itertools.pairwise"].contains n=Z5) (a:Q () s):yV M A (fF c (.ref b) u) Q E s:=by
  unfold fF;cases c<;>first
    |exact yP a
    | (cases u<;>first
        |exact yP a
        | (refine yO (mO e ?_)
           rw[g,f];show yV M A (if(["enumerate","zip","dict_itemiterator","dict_reverseitemiterator","odict_iterator","itertools.zip_longest","itertools.pairwise"].contains n&&d[0]? == Z9 (gK _))=Z7 then _ else _) Q E s;rw[if_neg (by intro h;rw[i,qP8]at h;cases h)];exact yP a))
noncomputable def Oe(K:yS)(a:yR):It :=
 ⟨λi H=>∃b x,YT K H a b/\b[i]?=Z9 x,λi H x c=>c=H/\∀b,YT K H a b->b[i]?=Z9 x,λi H=>∃b,YT K H a b/\b.length<=i⟩
noncomputable def Od(K:yS)(a:yR):It :=
 ⟨λi H=>∃b x,Zp K H a b/\b[i]?=Z9 x,λi H x c=>c=H/\∀b,Zp K H a b->b[i]?=Z9 x,λi H=>∃b,Zp K H a b/\b.length<=i⟩
noncomputable def RK(a:Int)(n:Nat):It:=⟨λi _=>i<n,λi H x b=>b=H/\x=.int (a+i),λi _=>n<=i⟩
theorem EL{P:yZ}{w:jD}{K:yS}{T:y4}(a it:yR):Xv P w K T (Oe K a) [it] it (λi h=>h.IsListIter it a i) where
 mem:=by simp
 obj:=λi h f b j=>by
  have e:b=it:=by simpa using j
  subst e;obtain⟨o,e,c,d⟩:=f;exact⟨o,e,λv z=>by rw[d]at z;cases z⟩
 keep:=λi h m f k=>f.at λo e=>k it (by simp) o e
 item:=by intro X F t J N i g s Z H E I n f C;subst F t J;obtain⟨S,x,q,A⟩:=C;obtain⟨L,B,p,O⟩:=I.list q;obtain⟨u,Q,V⟩:=B.get A;obtain⟨G,r,R,y,M,D⟩:=n it (by simp);refine wpAny_pyNext_list_item f p.isList (x:=u) (by simpa using Q) λm l sb=>?_;have W:ZQ X g Z H { s with heap:=m }:=I.turned (t':=s.toks) (λb o j e=>(sb.2 b j).trans e) G r y M D;obtain⟨o,e,c,d⟩:=id l;exact⟨u,rfl,Of (s:={ s with heap:=m }) e c d (by decide) ⟨x,H,W,V,⟨rfl,λys U=>by rw[I.list_inj U q];exact A⟩,l,λb j=>(n b j).1⟩⟩
 done:=by intro X F t J N i g s Z H E I n f C;subst F t J;obtain⟨S,q,A⟩:=C;obtain⟨L,B,p,O⟩:=I.list q;obtain⟨G,r,R,y,M,D⟩:=n it (by simp);have hl:=B.length;exact wpAny_pyNext_list_end (I.ok.hd N) f p.isList (by simp;omega) λm Y=>⟨rfl,I.turned (t':=s.toks) (λb o j e=>Y b o j e) G r y M D⟩
 self:=λ_ _ _ _ _ f h=>wpAny_pyIter_listiter f h
theorem EK{P:yZ}{w:jD}{K:yS}{T:y4}(a it:yR):Xv P w K T (Od K a) [it] it (λi h=>h.IsTupleIter it a i) where
 mem:=by simp
 obj:=λi h f b l=>by
  have e:b=it:=by simpa using l
  subst e;obtain⟨o,e,c,d⟩:=f;exact⟨o,e,λv z=>by rw[d]at z;cases z⟩
 keep:=λi h n f k=>f.at λo e=>k it (by simp) o e
 item:=by intro X G y L N i g s Z H E I q f D;subst G y L;obtain⟨S,x,r,B⟩:=D;obtain⟨j,C,p,O⟩:=I.tuple r;obtain⟨u,Q,V⟩:=C.get B;obtain⟨J,t,R,A,M,F⟩:=q it (by simp);refine wpAny_pyNext_tuple_item f (show s.heap.IsTuple a j.toArray from p) (x:=u) (by simpa using Q) λn m sb=>?_;have W:ZQ X g Z H { s with heap:=n }:=I.turned (t':=s.toks) (λb o l e=>(sb.2 b l).trans e) J t A M F;obtain⟨o,e,c,d⟩:=id m;exact⟨u,rfl,Of (s:={ s with heap:=n }) e c d (by decide) ⟨x,H,W,V,⟨rfl,λys U=>by rw[I.tuple_inj U r];exact B⟩,m,λb l=>(q b l).1⟩⟩
 done:=by intro X G y L N i g s Z H E I q f D;subst G y L;obtain⟨S,r,B⟩:=D;obtain⟨j,C,p,O⟩:=I.tuple r;obtain⟨J,t,R,A,M,F⟩:=q it (by simp);have hl:=C.length;exact wpAny_pyNext_tuple_end (I.ok.hd N) f (show s.heap.IsTuple a j.toArray from p) (by simp;omega) λn Y=>⟨rfl,I.turned (t':=s.toks) (λb o l e=>Y b o l e) J t A M F⟩
 self:=λ_ _ _ _ _ f h=>wpAny_pyIter_tupleiter f h
theorem EJ{P:yZ}{w:jD}{K:PySem.W.Frag}{J:y4}(it:yR)(j:Int)(n:Nat):Xv P w K J (RK j n) [it] it (λi h=>IsRangeIter h it (j+(i:Nat)*1) ((n:Int) - (i:Nat)) 1) where
 mem:=by simp
 obj:=λi h a b d=>by
  have e:b=it:=by simpa using d
  subst e;exact⟨_,a,λv z=>by
   have N:Data.fields _=Data.cell v:=z;cases N⟩
 keep:=λi h g a k=>k it (by simp) _ a
 item:=by intro X x p B A i c s Z H E I l a r;subst x p B;obtain⟨y,m,G,q,C,u⟩:=l it (by simp);have W:=Walks.range (prog:=X.prog) (w:=X.w) (I.ok.hd A) it j 1 n;refine W.item i s _ _ r a λv g D L f F=>?_;obtain⟨t,rfl⟩:=L;have M:ZQ X c Z H { s with heap:=g,toks:=D }:=I.turned (λb o d e=>F b o (by simpa using d) e) y m q C u;refine⟨_,rfl,Of (s:={ s with heap:=g,toks:=D }) (n := "range_iterator") f rfl rfl (by decide) ⟨.int (j+i),H,M,⟨t,?_⟩,⟨rfl,rfl⟩,f,λb d=>(l b d).1⟩⟩;rw[Int.mul_one]
 done:=by intro X x p B A i c s Z H E I l a r;subst x p B;obtain⟨y,m,G,q,C,u⟩:=l it (by simp);exact wpAny_pyNext_range_end (I.ok.hd A) a (by have:n<=i:=r;omega) λg O=>⟨rfl,I.turned (t':=s.toks) (λb o d e=>O b o d e) y m q C u⟩
 self:=λ_ _ _ _ _ a h=>wpAny_pyIter_rangeiter a h
section
variable {X:Cx}{tg:y4}
theorem KC{Z:St}{E:yL}{lo a:Int}(I:ZQ X c Z H s)(f:-(2 ^ 62)<=lo)(g:lo<2 ^ 62)(i:-(2 ^ 62)<=a)(h:a<2 ^ 62)
  (q:R (RK lo (a - lo).toNat) H):yV (yX X.prog X.w) X.A (pyIter (.ref s.heap.objs.size)) (KD X c Z tg R) E { s with heap:=s.heap.push { cls:=.type "range",data:=.fields #[.int lo t,.int a u,.int 1 v] },toks:=tk }:=by
 refine wpAny_pyIter_range (IsRange.new ..) (small_one f g i h) ?_;have d:ZQ X c Z H { s with heap:=s.heap.push { cls:=.type "range",data:=.fields #[.int lo t,.int a u,.int 1 v] },toks:=tk }:=I.kept λb o e=>qA1 _ e;refine⟨(s.heap.push { cls:=.type "range",data:=.fields #[.int lo t,.int a u,.int 1 v] }).objs.size,[(s.heap.push { cls:=.type "range",data:=.fields #[.int lo t,.int a u,.int 1 v] }).objs.size],_,_,H,rfl,
  d.kept (t':=tk) λb o e=>qA1 _ e,EJ _ lo (a - lo).toNat,?_,λb k=>?_,q⟩
 ·have l:lo+((0:Nat):Int)*1=lo:=by simp
  have j:(((a - lo).toNat:Nat):Int) - ((0:Nat):Int)=Builtin.Range.rangeSize lo a 1:=by rw[rangeSize_one];split<;>omega
  show IsRangeIter _ _ (lo+((0:Nat):Int)*1) ((((a - lo).toNat:Nat):Int) - ((0:Nat):Int)) 1;rw[l,j];exact qB2 _ rfl
 ·have e:b=(s.heap.push { cls:=.type "range",data:=.fields #[.int lo t,.int a u,.int 1 v] }).objs.size:=by simpa using k
  subst e;exact d.fpOk (qA6 _) (d.hok.fresh (qA6 _))
def KB(a:TA):TI:=fun Z H R=>a Z H λb c=>∃j:Int,b=[.int j]/\-(2 ^ 62)<=j/\j<2 ^ 62/\R (RK 0 j.toNat) c
def KA(a:TA):TI:=fun Z H R=>a Z H λb c=>∃i j:Int,b=[.int i,.int j]/\(-(2 ^ 62)<=i/\i<2 ^ 62/\-(2 ^ 62)<=j/\j<2 ^ 62)/\R (RK i (j - i).toNat) c
theorem EI(i:Gl X "range")(k:X.mg "range"=Z8)(f:PA X [a] d)(hs:jE [a] X.env=[(Z5,vL a X.env)]:=by rfl):PI X tg (.Call (.Name "range" p) [a] [] pos) (KB d):=by
 intro b s Z H R I h;refine Call_ (Va I i k boot_range (jS (Zv (f pos b s Z H _ I h) λw u ⟨o,v,l,n,c⟩=>?_) hs rfl));obtain⟨j,e,c,g,q⟩:=c;subst e;cases n with
 |cons r m =>
  cases m;obtain⟨t,rfl⟩:=r;exact call_range_1 (KC l (by omega) (by omega) c g (by simpa using q))
theorem EH{p pos:Pos}(o:Gl X "range")(u:X.mg "range"=Z8)(m:PA X [a,b] k)(hs:jE [a,b] X.env=[(Z5,vL a X.env),(Z5,vL b X.env)]:=by rfl)(c:jE [b] X.env=[(Z5,vL b X.env)]:=by rfl):
  PI X tg (.Call (.Name "range" p) [a,b] [] pos) (KA k):=by
 intro d s Z H R I h;refine Call_ (Va I o u boot_range (jS (Zv (m pos d s Z H _ I h) λD A ⟨z,C,x,y,f⟩=>?_) (by rw[hs,c]) (by rw[c];rfl)));obtain⟨i,j,e,⟨f,n,l,w⟩,q⟩:=f;subst e;cases y with
 |cons r g =>
  cases g with
  |cons v g =>
   cases g;obtain⟨t,rfl⟩:=r;obtain⟨B,rfl⟩:=v;exact call_range_2 (KC x f n l w q)
def Oc(f:TI)(g:TG)(h:TS):TS:=λD Z H=>f Z H λb k=>∃W:Nat->Nat->St->Hp->Prop,(∃m,W 0 m Z k)/\∀i m Z H,W i m Z H ->
 (b.stop i H/\D.nx Z H)∨(b.go i H/\∃N:St->Hp->Prop,(∀c a,N c a->∃d,d<m/\W (i+1) d c a)/\∀x a,b.yld i H x a->g x Z a fun e j=>h { D with nx:=N,ct:=N,bk:=D.nx } e j)
noncomputable def RJ(a:yC)(h:jA):yD:=a.filterMap λb=>(h.get? b).map λo=>(b,o)
theorem RI(c:b∈a)(e:h.get? b=Z9 o):(b,o)∈RJ a h:=qJ2.mpr ⟨b,c,by rw[e];rfl⟩
theorem EG(d:p∈RJ a h):p.1∈a/\h.get? p.1=Z9 p.2:=by
 obtain⟨b,c,e⟩:=qJ2.mp d;cases q:h.get? b with
 |none=>rw[q]at e;cases e
 |some o =>
  rw[q]at e;have f:(b,o)=p:=Option.some.inj e;subst f;exact⟨c,q⟩
theorem ZQ.pinned{Z:St}(I:ZQ X a Z H s)(j:∀b∈c,YF X a H b)(l:∀b∈c,∃o,s.heap.get? b=Z9 o/\∀v,o.data≠.cell v):ZQ X (a++RJ c s.heap) Z H s :=
 I.pins_of λp m=>(qB7.mp m).elim (λz=>I.pin p (qC5 _ z)) λz=>by obtain⟨g,e⟩:=EG z;obtain⟨k,h,i,_⟩:=j p.1 g;obtain⟨o,f,d⟩:=l p.1 g;rw[e]at f;cases f;exact⟨e,k,h,i,d⟩
theorem ZQ.unpinned{Z:St}(I:ZQ X (a++pl) Z H s):ZQ X a Z H s:=I.pins_of λp b=>I.pin p (qC5 _ (qE9 _ b))
theorem EF(F:lX (yX X.prog X.w) X.A X.env X.xe)(hc:X.calm=Z7)(hi:PI X tg iter wi)(hg:PG X tg g)(k:XW X t tb)
  (hs:∀x,vY iter X.env x=pure x:=by intro _;rfl):PS X (.For tg iter t [] pos) (Oc wi g tb):=by
 intro a s Z H D I h;refine wpAny_For (Zv (hi a s Z H _ I h) λv s1 h1=>Zv h1 λitv s2 h2=>?_) hs;obtain⟨it,E,tn,JJ,H2,e,I2,T,P,R,W,⟨m0,w0⟩,A⟩:=h2;subst e;have c:∀{H':Hp},(∀b∈E,H' b=Z8)->∀b∈E,YF X a H' b:=λhn b k=>⟨hn b k,(R b k).2⟩
 refine codeAny_forLoop_any (λn V=>∃i J H',ZQ X a J H' V/\tn i V.heap/\(∀b∈E,H' b=Z8)/\W i n J H') ?_ m0 ⟨0,Z,H2,I2,P,λb k=>(R b k).1,w0⟩;rintro n S ⟨i,C,K,I3,B,y,w3⟩;rcases A i n C K w3 with⟨z,qn⟩| ⟨go,N,hN,step⟩
 ·refine vM F (Zv (T.done X rfl rfl rfl hc i a S C K X.xe I3 (c y) B z) λr s4 ⟨O,I4⟩=>?_);subst O;exact gY ⟨C,K,I4,qn⟩
 ·refine vM F (Zv (T.item X rfl rfl rfl hc i a S C K X.xe I3 (c y) B go) λr s4 ⟨u,O,h4⟩=>?_);subst O;refine vM F (Zv h4 λ_ Y ⟨x,U,I5,r5,y5,w,Q⟩=>?_);have L:=I5.pinned (c Q) (T.obj _ _ w);refine vM F (Zv (hg _ Y C U x u _ L r5 (step x U y5)) λ_ s6 ⟨Z6,H6,I6,q6⟩=>?_);refine vM F (Zv (k _ s6 Z6 H6 _ I6 q6) λf M q=>?_);have again:∀{j:St}{l:Hp},ZQ X (a++RJ E Y.heap) j l M->N j l->∃m,m<n/\∃i J H',ZQ X a J H' M/\tn i M.heap/\(∀b∈E,H' b=Z8)/\W i m J H':=λ{j l} p G=>by obtain⟨m',hm,w7⟩:=hN j l G;refine⟨m',hm,i+1,j,l,p.unpinned,T.keep _ _ _ w λb k o e=>(p.pin (b,o) (qC5 _ (qC5 _ (RI k e)))).1,λb k=>?_,w7⟩;obtain⟨o,e,d⟩:=T.obj _ _ w b k;exact(p.pin (b,o) (qC5 _ (qC5 _ (RI k e)))).2.1
  cases f with
  |next=>obtain⟨j,l,p,G⟩:=q;exact again p G
  |cont=>obtain⟨j,l,p,G⟩:=q;exact again p G
  |brk=>obtain⟨j,l,p,q⟩:=q;exact⟨j,l,p.unpinned,q⟩
  |ret v=>obtain⟨x7,j,l,p,r7,q⟩:=q;exact⟨x7,j,l,p.unpinned,r7,q⟩
end
abbrev R2:=V->V->Hp->VK->Prop
def Y6(X:Cx)(f:yT->yT->Sem yT)(r:R2):Prop :=
 ∀(a:yD) (s:yQ) (Z:St) (H:Hp) (x y:V) (v u:yT) (Q:VK),ZQ X a Z H s->ZI x v->ZI y u->r x y H Q ->
  yV (yX X.prog X.w) X.A (f v u) (EP X a Z Q) X.xe s
def RH(X:Cx)(f:yT->Sem yT)(r:V->Hp->VK->Prop):Prop :=
 ∀(a:yD) (s:yQ) (Z:St) (H:Hp) (x:V) (v:yT) (Q:VK),ZQ X a Z H s->ZI x v->r x H Q ->
  yV (yX X.prog X.w) X.A (f v) (EP X a Z Q) X.xe s
def XU(X:Cx)(f:yT)(r:List V->Hp->VK->Prop):Prop :=
 ∀(a:yD) (s:yQ) (Z:St) (H:Hp) (b:List V) (c:yB) (Q:VK),ZQ X a Z H s->ZM b c->r b H Q ->
  yV (yX X.prog X.w) X.A (call f c) (EP X a Z Q) X.xe s
def Ob(X:Cx)(r:V->Hp->(Bool->Hp->Prop)->Prop):Prop :=
 ∀(a:yD) (s:yQ) (Z:St) (H:Hp) (x:V) (v:yT) (Q:Bool->Hp->Prop),ZQ X a Z H s->ZI x v->r x H Q ->
  yV (yX X.prog X.w) X.A (truthy v) (TP X a Z Q) X.xe s
def RG(r:R2)(b a:TE):TE:=fun Z H Q=>b Z H λx d=>a Z d λy c=>r x y c Q
def EE(r:V->Hp->VK->Prop)(a:TE):TE:=fun Z H Q=>a Z H λx b=>r x b Q
def rI(C:Int->Int->Prop)(g:Int->Int->V):R2:=λx y H Q=>∃i j,x=.int i/\y=.int j/\C i j/\Q (g i j) H
def Wj(g:Int->Int->V):R2:=λx y H Q=>∃i j,x=.int i/\y=.int j/\Q (g i j) H
def rU(g:Int->V):V->Hp->VK->Prop:=λx H Q=>∃i,x=.int i/\Q (g i) H
section
variable {X:Cx}{a b c:y4}{ta tb tc:TE}{pos:Pos}
theorem T9(m:PE X a ta)(t:PE X b tb){Z:St}{R:V->V->Hp->Prop}(I:ZQ X d Z H s)
  (h:ta Z H λx k=>tb Z k λy e=>R x y e) {Q:yL}{f:yT->yT->Sem yT}
  (q:∀v u j x y e,ZQ X d Z e j->ZI x v->ZI y u->R x y e->yV (yX X.prog X.w) X.A (f v u) Q X.xe j) :
  yV (yX X.prog X.w) X.A (vL a X.env) (λv i=>yV (yX X.prog X.w) X.A (vL b X.env) (λu g=>yV (yX X.prog X.w) X.A (f v u) Q X.xe g) X.xe i) X.xe s:=by refine Zv (m d s Z H _ I h) λv o ⟨x,k,w,z,r⟩=>?_;refine Zv (t d o Z k _ w r) λu j ⟨y,e,l,p,n⟩=>?_;exact q v u j x y e l z p n
theorem ED(k:Y6 X (jM op) r)(i:PE X a ta)(m:PE X b tb):PE X (.BinOp a op b pos) (RG r ta tb):=by intro d s Z H Q I h;exact wpAny_BinOp (T9 i m I h λv u f x y l e j g q=>k d f Z l x y v u Q e j g q)
theorem EC(g:RH X (unaryOp op) r)(e:PE X a ta):PE X (.UnaryOp op a pos) (EE r ta):=by intro d s Z H Q I h;exact UnaryOp_ (Zv (e d s Z H _ I h) λv j ⟨x,k,f,i,l⟩=>g d j Z k x v Q f i l)
theorem SJ{g:Int->Int->Int}
  (rule:∀(i j:Int) (t u:Tok) (s:yQ) (Q:yL) (E:yL),C i j->Q (.int (g i j) s.toks) { s with toks:=s.toks+1 }->yV (yX X.prog X.w) X.A (f (.int i t) (.int j u)) Q E s) :
  Y6 X f (rI C λi j=>.int (g i j)):=by intro d s Z H x y v u Q I k e h;obtain⟨i,j,rfl,rfl,m,q⟩:=h;obtain⟨t,rfl⟩:=k;obtain⟨l,rfl⟩:=e;exact rule i j t l s _ _ m ⟨.int (g i j),H,I.tok _,⟨_,rfl⟩,q⟩
theorem VO{g:Int->Int->Int}
  (rule:∀(i j:Int) (t u:Tok) (s:yQ) (Q:yL) (E:yL),Q (.int (g i j) s.toks) { s with toks:=s.toks+1 }->yV (yX X.prog X.w) X.A (f (.int i t) (.int j u)) Q E s) :
  Y6 X f (Wj λi j=>.int (g i j)):=by intro d s Z H x y v u Q I k e h;obtain⟨i,j,rfl,rfl,q⟩:=h;obtain⟨t,rfl⟩:=k;obtain⟨l,rfl⟩:=e;exact rule i j t l s _ _ ⟨.int (g i j),H,I.tok _,⟨_,rfl⟩,q⟩
theorem U7{g:Int->Int->Bool}
  (rule:∀(i j:Int) (t u:Tok) (s:yQ) (Q:yL) (E:yL),Q (.bool (g i j)) s->yV (yX X.prog X.w) X.A (f (.int i t) (.int j u)) Q E s) :
  Y6 X f (Wj λi j=>.bl (g i j)):=by intro d s Z H x y v u Q I k e h;obtain⟨i,j,rfl,rfl,q⟩:=h;obtain⟨t,rfl⟩:=k;obtain⟨l,rfl⟩:=e;exact rule i j t l s _ _ ⟨.bl (g i j),H,I,rfl,q⟩
def Oa(i j:Int):Prop:=0<j/\j<1073741824
def RF(i j:Int):Prop:=0<=j/\j<=1000000/\i.natAbs<2 ^ 64
def U6(i j:Int):Prop:=(-(2 ^ 64)<i/\i<2 ^ 64)∨(-(2 ^ 64)<j/\j<2 ^ 64)
theorem U6.ok(h:U6 i j):IntMulOk i j:=by
 rcases h with⟨e,d⟩| ⟨e,d⟩
 ·exact .of_left (intBits_le_64 e d)
 ·exact .of_right (intBits_le_64 e d)
theorem EB(k:Nat):(0:Int)<=2 ^ k:=by rw[two_pow_cast];exact Int.natCast_nonneg _
theorem EA:Y6 X (jM .Add) (Wj λi j=>.int (i+j)):=VO λ_ _ _ _ _ _ _ q=>add_int q
theorem Ez:Y6 X (jM .Sub) (Wj λi j=>.int (i - j)):=VO λ_ _ _ _ _ _ _ q=>sub_int q
theorem Ey:Y6 X (jM .Mult) (rI U6 λi j=>.int (i*j)):=SJ λ_ _ _ _ _ _ _ d q=>mul_int q d.ok
theorem Ew:Y6 X (jM .FloorDiv) (rI Oa λi j=>.int (i / j)):=SJ λi j _ _ _ _ _ d q=>by have f:(0:Int)<j:=d.1;have e:j<1073741824:=d.2;exact floordiv_int (by omega) (by rw[qM6 i (by omega)];exact q) (.inl (PyProof.noPylong_small (by omega)))
theorem Eu:Y6 X (jM .Mod) (rI (λ_ j=>0<j) λi j=>.int (i % j)):=SJ λi j _ _ _ _ _ d q=>by have e:(0:Int)<j:=d;exact mod_int' (by omega) (by rw[Int.fmod_eq_emod_of_nonneg i (by omega)];exact q)
theorem Et:Y6 X (jM .Pow) (rI RF λi j=>.int (i ^ j.toNat)):=SJ λ_ _ _ _ _ _ _ d q=>pow_int_small d.1 d.2.1 d.2.2 q
theorem Es:Y6 X (jM .LShift) (rI RF λi j=>.int (i*2 ^ j.toNat)):=SJ λ_ _ _ _ _ _ _ d q=>lshift_int_small d.1 d.2.1 d.2.2 q
theorem Er:Y6 X (jM .RShift) (rI (λ_ j=>0<=j) λi j=>.int (i / 2 ^ j.toNat)):=SJ λi j _ _ _ _ _ d q =>
 rshift_int d (by rw[qM6 i (EB _)];exact q)
theorem Ep:Y6 X (jM .BitAnd) (Wj λi j=>.int (vH i j)):=VO λ_ _ _ _ _ _ _ q=>and_int q
theorem Eo:Y6 X (jM .BitOr) (Wj λi j=>.int (mH i j)):=VO λ_ _ _ _ _ _ _ q=>or_int q
theorem En:Y6 X (jM .BitXor) (Wj λi j=>.int (lG i j)):=VO λ_ _ _ _ _ _ _ q=>xor_int q
theorem Em{g:Int->Int}
  (rule:∀(i:Int) (t:Tok) (s:yQ) (Q:yL) (E:yL),Q (.int (g i) s.toks) { s with toks:=s.toks+1 }->yV (yX X.prog X.w) X.A (f (.int i t)) Q E s) :
  RH X f (rU λi=>.int (g i)):=by intro d s Z H x v Q I e h;obtain⟨i,rfl,q⟩:=h;obtain⟨t,rfl⟩:=e;exact rule i t s _ _ ⟨.int (g i),H,I.tok _,⟨_,rfl⟩,q⟩
theorem El:RH X (unaryOp .USub) (rU λi=>.int (-i)):=Em λ_ _ _ _ _ q=>neg_int q
end
noncomputable def RD:V->V->Bool
 |.non,.non=>Z7|.non,.int _=>Z7|.int _,.non=>Z7|.non,.bl _=>Z7|.bl _,.non=>Z7|.non,.str _=>Z7|.str _,.non=>Z7
 |.int _,.int _=>Z7|.bl _,.bl _=>Z7|.str _,.str _=>Z7|.byt _,.byt _=>Z7
 |.int _,.str _=>Z7|.str _,.int _=>Z7|.bl _,.str _=>Z7|.str _,.bl _=>Z7
 |_,_=>Z5
def Ek:R2:=λx y H Q=>RD x y=Z7/\Q (.bl (decide (x=y))) H
def Ej:R2:=λx y H Q=>RD x y=Z7/\Q (.bl (!decide (x=y))) H
theorem Kz:decide (V.int i=V.int j)=(i == j):=by rw[qI6];simp
theorem Ky:decide (V.bl i=V.bl j)=(i == j):=by rw[qI6];simp
theorem Kx:decide (V.str i=V.str j)=(i == j):=by rw[qI6];simp
theorem Kw:decide (V.byt i=V.byt j)=(i.toList == j.toList):=by rw[qI6];cases i;cases j;simp
section
variable {X:Cx}{a b c:y4}{ta tb tc:TE}{pos:Pos}
theorem Yz{Z:St}(I:ZQ X d Z H s)(q:Q (.bl k) H)(e:k=f):EP X d Z Q (.bool f) s:=by subst e;exact⟨.bl k,H,I,rfl,q⟩
theorem Ei:Y6 X (y7 .Eq) Ek:=by
 intro k s Z H x y v u Q I g d h;obtain⟨f,q⟩:=h;cases x with
 |non =>
  cases g;cases y with
  |non=>cases d;exact PySem.EqNone.eq_none_none (Yz I q (by simp))
  |bl j=>cases d;exact PySem.EqNone.eq_none_bool (Yz I q (by simp))
  |int j=>obtain⟨e,rfl⟩:=d;exact PySem.EqNone.eq_none_int (Yz I q (by simp))
  |str j=>obtain⟨e,rfl⟩:=d;exact PySem.EqNone.eq_none_str (Yz I q (by simp))
  |_=>exact absurd (show Z5=Z7 from f) qB1
 |bl i =>
  cases g;cases y with
  |non=>cases d;exact PySem.EqNone.eq_bool_none (Yz I q (by simp))
  |bl j=>cases d;exact eq_bool (Yz I q Ky)
  |str j=>obtain⟨e,rfl⟩:=d;exact PySem.EqMixed.eq_bool_str (Yz I q (by simp))
  |_=>exact absurd (show Z5=Z7 from f) qB1
 |int i =>
  obtain⟨t,rfl⟩:=g;cases y with
  |non=>cases d;exact PySem.EqNone.eq_int_none (Yz I q (by simp))
  |int j=>obtain⟨e,rfl⟩:=d;exact eq_int (Yz I q Kz)
  |str j=>obtain⟨e,rfl⟩:=d;exact PySem.EqMixed.eq_int_str (Yz I q (by simp))
  |_=>exact absurd (show Z5=Z7 from f) qB1
 |str i =>
  obtain⟨t,rfl⟩:=g;cases y with
  |non=>cases d;exact PySem.EqNone.eq_str_none (Yz I q (by simp))
  |bl j=>cases d;exact PySem.EqMixed.eq_str_bool (Yz I q (by simp))
  |int j=>obtain⟨e,rfl⟩:=d;exact PySem.EqMixed.eq_str_int (Yz I q (by simp))
  |str j=>obtain⟨e,rfl⟩:=d;exact eq_str (Yz I q Kx)
  |_=>exact absurd (show Z5=Z7 from f) qB1
 |byt i =>
  obtain⟨t,rfl⟩:=g;cases y with
  |byt j=>obtain⟨e,rfl⟩:=d;exact W.eq_bytes (Yz I q Kw)
  |_=>exact absurd (show Z5=Z7 from f) qB1
 |_=>cases y<;>exact absurd (show Z5=Z7 from f) qB1
theorem Eh:Y6 X (y7 .NotEq) Ej:=by
 intro k s Z H x y v u Q I g d h;obtain⟨f,q⟩:=h;cases x with
 |non =>
  cases g;cases y with
  |non=>cases d;exact PySem.EqNone.ne_none_none (Yz I q (by simp))
  |bl j=>cases d;exact PySem.EqNone.ne_none_bool (Yz I q (by simp))
  |int j=>obtain⟨e,rfl⟩:=d;exact PySem.EqNone.ne_none_int (Yz I q (by simp))
  |str j=>obtain⟨e,rfl⟩:=d;exact PySem.EqNone.ne_none_str (Yz I q (by simp))
  |_=>exact absurd (show Z5=Z7 from f) qB1
 |bl i =>
  cases g;cases y with
  |non=>cases d;exact PySem.EqNone.ne_bool_none (Yz I q (by simp))
  |bl j=>cases d;exact ne_bool (Yz I q (congrArg not Ky))
  |str j=>obtain⟨e,rfl⟩:=d;exact PySem.EqMixed.ne_bool_str (Yz I q (by simp))
  |_=>exact absurd (show Z5=Z7 from f) qB1
 |int i =>
  obtain⟨t,rfl⟩:=g;cases y with
  |non=>cases d;exact PySem.EqNone.ne_int_none (Yz I q (by simp))
  |int j=>obtain⟨e,rfl⟩:=d;exact ne_int (Yz I q (congrArg not Kz))
  |str j=>obtain⟨e,rfl⟩:=d;exact PySem.EqMixed.ne_int_str (Yz I q (by simp))
  |_=>exact absurd (show Z5=Z7 from f) qB1
 |str i =>
  obtain⟨t,rfl⟩:=g;cases y with
  |non=>cases d;exact PySem.EqNone.ne_str_none (Yz I q (by simp))
  |bl j=>cases d;exact PySem.EqMixed.ne_str_bool (Yz I q (by simp))
  |int j=>obtain⟨e,rfl⟩:=d;exact PySem.EqMixed.ne_str_int (Yz I q (by simp))
  |str j=>obtain⟨e,rfl⟩:=d;exact ne_str (Yz I q (congrArg not Kx))
  |_=>exact absurd (show Z5=Z7 from f) qB1
 |byt i =>
  obtain⟨t,rfl⟩:=g;cases y with
  |byt j=>obtain⟨e,rfl⟩:=d;exact W.ne_bytes (Yz I q (congrArg not Kw))
  |_=>exact absurd (show Z5=Z7 from f) qB1
 |_=>cases y<;>exact absurd (show Z5=Z7 from f) qB1
theorem Eg:Y6 X (y7 .Lt) (Wj λi j=>.bl (decide (i<j))):=U7 λ_ _ _ _ _ _ _ q=>lt_int q
theorem Ef:Y6 X (y7 .LtE) (Wj λi j=>.bl (decide (i<=j))):=U7 λ_ _ _ _ _ _ _ q=>le_int q
theorem Ee:Y6 X (y7 .Gt) (Wj λi j=>.bl (decide (j<i))):=U7 λ_ _ _ _ _ _ _ q=>gt_int q
theorem Ed:Y6 X (y7 .GtE) (Wj λi j=>.bl (decide (j<=i))):=U7 λ_ _ _ _ _ _ _ q=>ge_int q
theorem Ec:Y6 X (y7 .Is) (λx y H Q=>y=.non/\Q (.bl (decide (x=.non))) H):=by
 intro e s Z H x y v u Q I d f h;obtain⟨rfl,q⟩:=h;cases f;refine is_none_gen (Yz I q ?_);cases x<;>first
  |(cases d;rfl)
  |(obtain⟨t,rfl⟩:=d;rfl)
theorem Eb:Y6 X (y7 .IsNot) (λx y H Q=>y=.non/\Q (.bl (!decide (x=.non))) H):=by
 intro e s Z H x y v u Q I d f h;obtain⟨rfl,q⟩:=h;cases f;refine isnot_none_gen (Yz I q ?_);cases x<;>first
  |(cases d;rfl)
  |(obtain⟨t,rfl⟩:=d;rfl)
theorem Ea(l:Y6 X (y7 op) r)(i:PE X a ta)(n:PE X b tb)(k:fA op b=Z5):PE X (.Compare a [op] [b] pos) (RG r ta tb):=by intro d s Z H Q I h;exact wpAny_Compare1 (T9 i n I h λv u f x y m e j g q=>l d f Z m x y v u Q e j g q) k
def N9(t:TE):TT:=fun Z H Q=>t Z H λx d=>∃k,x=.bl k/\Q k d
theorem D9(w:Y6 X (y7 op) r)(m:PE X a ta)(D:PE X b tb)(q:fA op b=Z5):PT X (.Compare a [op] [b] pos) (N9 (RG r ta tb)):=by
 intro d s Z H Q I h;refine wpAny_isTrue_Compare1 (Zv (m d s Z H _ I h) λv o ⟨x,t,E,F,B⟩=>Zv (D d o Z t _ E B) λu i ⟨y,C,f,p,n⟩ =>
  Zv (w d i Z C x y v u _ f F p n) λc G ⟨z,l,A,g,k,e,j⟩=>?_) q
 subst e;cases g;exact jX ⟨l,A,j⟩
def N8(r e:R2)(h f tc:TE):TE:=fun Z H Q=>h Z H λx l=>f Z l λy j=>r x y j λz d=>∃k,z=.bl k /\
 (if k=Z7 then tc Z d λg i=>e y g i Q else Q (.bl Z5) d)
theorem D8(L:Y6 X (y7 op) r)(i:Y6 X (y7 g) n)(C:PE X a ta)(S:PE X b tb)(M:PE X c tc)
  (J:lY [op,g] [b,c]=Z5:=by with_unfolding_all rfl):PE X (.Compare a [op,g] [b,c] pos) (N8 r n ta tb tc):=by
 intro f s Z H Q I h;refine Compare_chain (Zv (C f s Z H _ I h) λv G ⟨x,K,T,V,N⟩=>chain_link (Zv (S f G Z K _ T N) λu A ⟨y,P,t,m,E⟩ =>
  Zv (L f A Z P x y v u _ t V m E) λd R ⟨z,l,o,p,k,e,j⟩=>?_)) J
 subst e;cases p;refine jX ?_;cases k with
 |false=>exact ite_ff ⟨.bl Z5,l,o,rfl,j⟩
 |true=>exact ite_tt (chain_last (Zv (M f R Z l _ o j) λq B ⟨U,w,D,F,O⟩=>i f B Z w y U u q Q D m F O))
theorem D7(O:Y6 X (y7 op) r)(i:Y6 X (y7 g) n)(D:PE X a ta)(W:PE X b tb)(P:PE X c tc)
  (L:lY [op,g] [b,c]=Z5:=by with_unfolding_all rfl):PT X (.Compare a [op,g] [b,c] pos) (N9 (N8 r n ta tb tc)):=by
 intro f s Z H Q I h;refine isTrue_chain (Zv (D f s Z H _ I h) λv J ⟨x,M,I1,r1,R⟩=>test_link (Zv (W f J Z M _ I1 R) λu B ⟨y,U,t,m,F⟩ =>
  Zv (O f B Z U x y v u _ t r1 m F) λd V ⟨z,l,o,q,k,e,j⟩=>?_)) L
 subst e;cases q;refine jX ?_;cases k with
 |false =>
  obtain⟨k',K,Y⟩:=j;cases K;exact ite_ff ⟨l,o,Y⟩
 |true =>
  refine ite_tt (test_last (Zv (P f V Z l _ o j) λw C ⟨z',A,E,G,S⟩=>Zv (i f C Z A y z' u w _ E m G S) λd' s5 ⟨z2,H5,I5,N,k2,T,p⟩=>?_));subst T;cases N;exact jX ⟨H5,I5,p⟩
def T8(K:yS)(x:V)(H:Hp)(k:Bool):Prop :=
 match x with
 |.non=>k=Z5
 |.bl b=>k=b
 |.int i=>k=(i != 0)
 |.str y=>y.length<=y8/\k=((y.length:Int) != 0)
 |.byt y=>y.size<=y8/\k=((y.size:Int) != 0)
 |.ref p=>(∃d,YT K H p d/\k=!d.isEmpty)∨(∃d,Zp K H p d/\k=!d.isEmpty)∨∃e,H p=Z9 (.dK e)/\k=!e.isEmpty
 |_=>False
theorem D6{e:List (d×yT)}(r:KV kvs e):(!e.isEmpty)=!kvs.isEmpty:=by cases r<;>rfl
theorem Kv(r:ZM xs its):(!its.toArray.isEmpty)=!xs.isEmpty:=by cases r<;>simp
theorem SI:(y8:Nat)<2 ^ 63:=by rw[vP];decide
theorem D5:Ob X (λx H Q=>∃k,T8 X.K x H k/\Q k H):=by
 intro z s Z H x v Q I l h;obtain⟨k,e,q⟩:=h;have D:=SI;have C:y8=16777216:=vP;cases x with
 |non =>
  cases l;have d:k=Z5:=e;subst d;exact truthy_none ⟨H,I,q⟩
 |bl b =>
  cases l;have d:k=b:=e;subst d;exact jX ⟨H,I,q⟩
 |int i =>
  obtain⟨t,rfl⟩:=l;have d:k=(i != 0):=e;subst d;exact PySem.P.truthy_int ⟨H,I,q⟩
 |str y =>
  obtain⟨t,rfl⟩:=l;obtain⟨A,d⟩:y.length<=y8/\k=((y.length:Int) != 0):=e;subst d;exact PySem.P.truthy_str (by omega) ⟨H,I.tok _,q⟩
 |byt y =>
  obtain⟨t,rfl⟩:=l;obtain⟨A,d⟩:y.size<=y8/\k=((y.size:Int) != 0):=e;subst d;exact W.truthy_bytes (by omega) ⟨H,I.tok _,q⟩
 |ref p =>
  cases l;have d:(∃j,YT X.K H p j/\k=!j.isEmpty)∨(∃j,Zp X.K H p j/\k=!j.isEmpty)∨∃f,H p=Z9 (.dK f)/\k=!f.isEmpty:=e;rcases d with⟨j,n,d⟩| ⟨j,n,d⟩| ⟨f,n,d⟩
  ·subst d;obtain⟨u,r,o,w⟩:=I.list n;have g:=r.length;exact wpAny_truthy_list o.isList (by simp only[qA9];omega) ⟨H,I.tok _,by rw[Kv r];exact q⟩
  ·subst d;obtain⟨u,r,o,w⟩:=I.tuple n;have g:=r.length;exact truthy_tuple o (by simp only[qA9];omega) ⟨H,I.tok _,by rw[Kv r];exact q⟩
  ·subst d;obtain⟨w,B,vs,r,m⟩:f.length<=y8/\(p == vS)=Z5/\∃vs,KV f vs/\s.heap.DictOf (WV X.prog X.w) p vs:=I.hok p _ n;have g:f.length=vs.length:=Paired.length r;exact wpAny_truthy_dict B m (by omega) ⟨H,I.tok _,by rw[D6 r];exact q⟩
 |_=>exact(show False from e).elim
theorem D4(g:PE X a ta)(he:∀d,dJ a X.env d=(do let v <- d;mT a.pos;wI [v] (truthy v))):
  PT X a (fun Z H Q=>ta Z H λx f=>∃k,T8 X.K x f k/\Q k f):=by intro e s Z H Q I h;exact isTrue_plain (Zv (g e s Z H _ I h) λv l ⟨x,m,i,j,n⟩=>D5 e l Z m x v Q i j n) (he _)
theorem D3:Y6 X (jM .Add) (λx y H Q=>∃i j,x=.str i/\y=.str j/\i.length+j.length<=y8/\Q (.str (i++j)) H):=by intro d s Z H x y v u Q I g f h;obtain⟨i,j,rfl,rfl,e,q⟩:=h;obtain⟨t,rfl⟩:=g;obtain⟨k,rfl⟩:=f;exact add_str (λk l=>⟨.str (i++j),H,I.tok _,⟨_,rfl⟩,q⟩) e
theorem Wx(r:ZM [x] d):∃u,d=[u]/\ZI x u:=by
 cases r with
 |cons e f=>cases f;exact⟨_,rfl,e⟩
theorem Qp(r:ZM [x,y] d):∃u w',d=[u,w']/\ZI x u/\ZI y w':=by
 cases r with
 |cons f h =>
  cases h with
  |cons g e=>cases e;exact⟨_,_,rfl,f,g⟩
theorem D2(f:X.calm=Z7):XU X (.builtin "max") (λxs H Q=>∃i j,xs=[.int i,.int j]/\Q (.int (if j>i then j else i)) H):=by
 intro e s Z H xs o Q I r h;obtain⟨i,j,rfl,q⟩:=h;obtain⟨u,g,rfl,⟨t,rfl⟩,⟨m,rfl⟩⟩:=Qp r;refine max_two_ints (I.ok.hd f) λl n k=>⟨_,H,I.kept k,?_,q⟩
 by_cases d:j>i
 ·rw[if_pos d,if_pos d];exact⟨_,rfl⟩
 ·rw[if_neg d,if_neg d];exact⟨_,rfl⟩
theorem D0(f:X.calm=Z7):XU X (.builtin "min") (λxs H Q=>∃i j,xs=[.int i,.int j]/\Q (.int (if j<i then j else i)) H):=by
 intro e s Z H xs o Q I r h;obtain⟨i,j,rfl,q⟩:=h;obtain⟨u,g,rfl,⟨t,rfl⟩,⟨m,rfl⟩⟩:=Qp r;refine min_two_ints (I.ok.hd f) λl n k=>⟨_,H,I.kept k,?_,q⟩
 by_cases d:j<i
 ·rw[if_pos d,if_pos d];exact⟨_,rfl⟩
 ·rw[if_neg d,if_neg d];exact⟨_,rfl⟩
theorem Ku:XU X (.type "int") (λxs H Q=>(∃i,xs=[.int i]/\Q (.int i) H)∨∃k,xs=[.bl k]/\Q (.int (if k then 1 else 0)) H):=by
 intro d s Z H xs f Q I r h;rcases h with⟨i,rfl,q⟩| ⟨k,rfl,q⟩
 ·obtain⟨u,rfl,t,rfl⟩:=Wx r;exact call_int_int ⟨.int i,H,I,⟨_,rfl⟩,q⟩
 ·obtain⟨u,rfl,e⟩:=Wx r;cases e;exact call_int_bool ⟨.int (if k then 1 else 0),H,I.tok _,⟨_,rfl⟩,q⟩
end
theorem XH.some_of(r:XH (Z9 v) o):∃u,o=Z9 u/\ZI v u:=by
 cases o with
 |none=>exact(show False from r).elim
 |some u=>exact⟨u,rfl,r⟩
structure Zg(k:Nat)(A:jC):Prop where
 hd:A.handled=Z8
 dp:A.depth+3*k+5<recursionLimit
 un:A.units+16*k+200<j5
 gd:A.guards=Z9 []
theorem Zg.mono(r:Zg k A)(h:j<=k):Zg j A:=⟨r.hd,by have:=r.dp;omega,by have:=r.un;omega,r.gd⟩
theorem Zg.deeper(r:Zg (k+1) A)(env:Env):Zg k (A.deeper env) :=
 ⟨r.hd,by have:=r.dp;show A.depth+1+3*k+5<_;omega,by have:=r.un;show A.units+3+16*k+200<_;omega,r.gd⟩
theorem Zg.depth(r:Zg k A):A.depth<recursionLimit:=by have:=r.dp;omega
theorem Zg.units(r:Zg k A):A.units+64<cLine:=by have:=r.un;omega
theorem Zg.units0(r:Zg k A):A.units<cLine:=by have:=r.un;omega
def N7:TA:=λ_ H Q=>Q [] H
def DZ(b:TE)(c:TA):TA:=fun Z H Q=>b Z H λx e=>c Z e λa d=>Q (x::a) d
section
variable {X:Cx}{e:y4}{es:yE}{te:TE}{t:TA}{pos:Pos}
theorem Kt:PA X [] N7:=λ_ _ _ _ H Q I h=>Calls.spliced_nil ⟨[],H,I,.nil,h⟩
theorem Ks(d:PE X e te)(l:PA X es t)(hs:jE (e::es) X.env=(Z5,vL e X.env)::jE es X.env:=by rfl):PA X (e::es) (DZ te t):=by intro b a s Z H Q I h;rw[hs];show yV _ _ (spliced ((Z5,vL e X.env)::wK b (jE es X.env))) _ _ s;refine Calls.spliced_cons (Zv (d a s Z H _ I h) λu g ⟨x,j,o,p,m⟩=>?_);exact Zv (l b a g Z j _ o m) λr q ⟨k,n,c,i,f⟩=>⟨x::k,n,c,.cons p i,f⟩
def N6(t:TA):TE:=fun Z H Q=>t Z H λa b=>a.length<=y8/\∀p,b p=Z8->Q (.ref p) (ZE b p (.tup a))
def N5(t:TA):TE:=fun Z H Q=>t Z H λa b=>a.length<=y8/\∀p,b p=Z8->Q (.ref p) (ZE b p (.lst a))
theorem DY{l}(h:PA X es t):PE X (.Tuple es l pos) (N6 t):=by intro a s Z H Q I k;refine wpAny_Tuple_spliced (Zv (h pos a s Z H _ I k) λj c ⟨i,d,f,r,z,q⟩=>⟨by rw[<- r.length];exact z,?_⟩);have g:d c.heap.objs.size=Z8:=f.hok.fresh (qA6 _);refine⟨.ref c.heap.objs.size,ZE d c.heap.objs.size (.tup i),f.laid (t':=c.toks) (λb u e=>qA1 _ e) (qA6 _) ?_,rfl,q _ g⟩;exact⟨z,j,r,⟨_,qB2 _ rfl,rfl,_,rfl⟩⟩
theorem DX(h:PA X es t):PE X (.List es pos) (N5 t):=by intro a s Z H Q I k;refine wpAny_List_spliced (Zv (h pos a s Z H _ I k) λj c ⟨i,d,f,r,z,q⟩=>⟨by rw[<- r.length];exact z,?_⟩);have g:d c.heap.objs.size=Z8:=f.hok.fresh (qA6 _);refine⟨.ref c.heap.objs.size,ZE d c.heap.objs.size (.lst i),f.laid (t':=c.toks) (λb u e=>qA1 _ e) (qA6 _) ?_,rfl,q _ g⟩;exact⟨z,j,0,r,qB2 _ rfl⟩
end
abbrev Sp:=List V->Hp->VK->XK->Prop
abbrev VN:=List Env->Hp->yQ->XK->yL
structure U5(P:yZ)(w:jD)(K:yS)(mg:Str->yF)(base:jA)(A:jC)(outer:List Env)(s:yQ)(H:Hp):Prop where
 frames:A.frames=Z9 outer
 mod:Mod K mg base
 bs:∀b o,base.get? b=Z9 o->s.heap.get? b=Z9 o/\H b=Z8
 bsz:base.objs.size<=s.heap.objs.size
 funs:s.heap.FunFrames base outer
 frf:∀b∈VQ outer,H b=Z8
 hok:Yq P w H s.heap
 bare:fT s.gens
def CE(a:List Env)(P:yZ)(w:jD)(H:Hp)(s:yQ)(Q:VK)(u:yT)(s':yQ):Prop :=
 ∃v b,s'.os=s.os/\fT s'.gens/\Un (VQ a) [] H b s.heap s'.heap/\Yq P w b s'.heap/\ZI v u/\Q v b
def CR(CX:VN)(a:List Env)(P:yZ)(w:jD)(H:Hp)(s:yQ)(Q:VK)(E:XK)(r:mP)(s':yQ):Prop :=
 match r with
 |.ok (.ret u)=>CE a P w H s Q u s'
 |.ok _=>False
 |.error e=>CX a H s E e s'
structure Yp(P:yZ)(w:jD)(K:yS)(mg:Str->yF)(base:jA)(CX:VN)(k:Nat)(f:yR)(fd:vC)(ps:yH)(sp:Sp):Prop where
 len:∀vs H Q E,sp vs H Q E->vs.length=ps.length
 run:∀(A:jC) (outer:List Env) (s:yQ) (H:Hp) (args:Args) (us:yB) (vs:List V) (Q:VK) (E:XK),Zg k A->U5 P w K mg base A outer s H->mV s fd args (ps.zip us)->ZM vs us->sp vs H Q E ->
  vZ (yX P w) A (.call (.ref f) args) (CR CX outer P w H s Q E) s
theorem Yp.imp{K:yS}(F:Yp P w K e base CX k f d ps sp)
  (h:∀b H Q E,sp' b H Q E->sp b H Q E):Yp P w K e base CX k f d ps sp' :=
 ⟨λb H Q E q=>F.len b H Q E (h _ _ _ _ q),λA a s H c j b Q E l g n m i=>F.run A a s H c j b Q E l g n m (h _ _ _ _ i)⟩
section
variable {X:Cx}{pins:yD}{Z:St}{H:Hp}{s s':yQ}
theorem ZQ.env0(I:ZQ X pins Z H s):U5 X.prog X.w X.K X.mg X.base X.A X.stack s H :=
 ⟨I.ok.frames,I.ok.mod,I.bs,qD4 I.ok.bsz I.sz,I.stack,I.stkFree,I.hok,I.bare⟩
theorem ZQ.after(I:ZQ X pins Z H s)(h:CE X.stack X.prog X.w H s Q u s'):EP X pins Z Q u s':=by obtain⟨v,i,f,a,un,e,r,q⟩:=h;obtain⟨j,g,d,t,c⟩:=s';obtain rfl:c=s.os:=f;exact⟨v,i,I.call (h':=j) (g':=g) (d':=d) (t':=t) (ch:=[]) un e a (λb z=>absurd z (by simp)),r,q⟩
end
def N4(sp:Sp)(a:List V)(E:XK)(t:TA):TE:=fun Z H Q=>t Z H λb c=>sp (b++a) c Q E
def U4(K:yS)(b:vC)(ps:yH)(ds:yB):Prop :=
 ∀(s:yQ) (a:yB),K.In s.heap->(a++ds).length=ps.length->mV s b ⟨a,[]⟩ (ps.zip (a++ds))
theorem U4.all{K:yS}(h:∀a:yB,a.length=ps.length->bindArgs b ⟨a,[]⟩=pure (ps.zip a)):U4 K b ps []:=λs a _ c=>by rw[qG3]at c ⊢;exact .of_eq (h a c)
def N3(CX:VN)(X:Cx)(E:XK):Prop:=∀(a:yD) (Z:St) (H:Hp) (s:yQ) (e:yT) (b:yQ),ZQ X a Z H s->CX X.stack H s E e b->X.xe e b
section
variable {X:Cx}{CX:VN}{k:Nat}{f C:yR}{fd:vC}{ps:yH}{sp:Sp}{dvs:List V}{ds:yB}{E:XK}{x m:Str}{p pos apos:Pos}{e o:y4}{es:yE}{ta:TE}{t:TA}
theorem DW{Z:St}(F:Yp X.prog X.w X.K X.mg X.base CX k f fd ps sp)(n:Zg k X.A)(q:U4 X.K fd ps ds)(l:ZM dvs ds)(i:N3 CX X E)
  (I:ZQ X a Z H s) (r:ZM d b) (h:sp (d++dvs) H Q E):yV (yX X.prog X.w) X.A (call (.ref f) b) (EP X a Z Q) X.xe s:=by
 have g:ZM (d++dvs) (b++ds):=r.append l;have j:(b++ds).length=ps.length:=by rw[<- g.length];exact F.len _ _ _ _ h
 refine wpAny_call (wR (F.run X.A X.stack s H ⟨b,[]⟩ (b++ds) (d++dvs) Q E n I.env0 (q s b I.kIn j) g h) λr w c=>?_);cases r with
 |error e=>exact i a Z H s e w I c
 |ok v =>
  cases v with
  |ret u=>exact I.after c
  |next=>exact False.elim c
  |brk=>exact False.elim c
  |cont=>exact False.elim c
theorem DV(F:Yp X.prog X.w X.K X.mg X.base CX k f fd ps sp)(l:Zg k X.A)(g:Gl X x)(i:X.mg x=Z9 (.ref f))(hk:lH X.K (.ref f)=Z7)(n:U4 X.K fd ps ds)(j:ZM dvs ds)(c:N3 CX X E)
  (d:PA X (e::es) t) (hdb:Wm x:=by decide) (he:jE (e::es) X.env=(Z5,vL e X.env)::jE es X.env:=by rfl) (hpl:(wK pos (jE es X.env)).any (·.1)=Z5:=by rfl) :
  PE X (.Call (.Name x p) (e::es) [] pos) (N4 sp dvs E t):=by intro a s Z H Q I h;refine wL (Fp I g i ?_ hdb);refine W.callWith_K (h₀:=X.base) I.ok.mod.kin hk (Zv (d pos a s Z H _ I h) λy v ⟨u,w,b,r,q⟩=>⟨b.kIn,?_⟩) he hpl;exact DW F l n j c b r q
end
structure Qo(N P:yH)(sc:vG):Prop where
 kind:sc.kind=.function
 co:sc.isCoroutine=Z5
 gen:sc.isGenerator=Z5
 nd:N.Nodup
 pre:N.take P.length=P
 par:∀x∈P,sc.names.lookup x=Z9 .local∨sc.names.lookup x=Z9 .cell
 nofree:∀y∈sc.names,y.2≠.free
theorem Kr{kindOf:Str->Option jV}:∀{binds:List (Str×yT)}{m:Str->yF},(∀v,(x,v)∉binds)->bindL kindOf binds m x=m x
 |[],_,_=>rfl
 |(n,v)::r,m,h=>by
  unfold bindL;rw[Kr λw a=>h w (qC2 _ a)];split
  ·have:x≠n:=by rintro rfl;exact h v qD5
   simp[this]
  ·rfl
theorem Kq{kindOf:Str->Option jV}:∀{binds:List (Str×yT)}{m:Str->yF},(∀v,(x,v)∉binds)->bindC kindOf binds m x=m x
 |[],_,_=>rfl
 |(n,v)::r,m,h=>by
  unfold bindC;rw[Kq λw a=>h w (qC2 _ a)];split
  ·rfl
  ·have:x≠n:=by rintro rfl;exact h v qD5
   simp[this]
theorem Ko{kindOf:Str->Option jV}{x:Str}{v:yT}:∀{P:yH}{a:yB}{i:Nat}{m:Str->yF},P.Nodup->P[i]?=Z9 x->a[i]?=Z9 v->kindOf x=Z9 .local ->
  bindL kindOf (P.zip a) m x=Z9 v
 |[],_,_,_,_,h,_,_=>by simp at h
 |_::_,[],_,_,_,_,h,_=>by simp at h
 |p::P,w::a,0,m,nd,h1,h2,hk=>by simp at h1 h2;subst h1;subst h2;show bindL kindOf ((p,w)::P.zip a) m p=_;unfold bindL;rw[Kr λv b=>(qH8.mp nd).1 (qP5 b).1,if_pos hk];simp
 |p::P,w::a,i+1,m,nd,h1,h2,hk=>by show bindL kindOf ((p,w)::P.zip a) m x=_;unfold bindL;exact Ko (i:=i) (qH8.mp nd).2 (by simpa using h1) (by simpa using h2) hk
theorem Kn{kindOf:Str->Option jV}{x:Str}{v:yT}:∀{P:yH}{a:yB}{i:Nat}{m:Str->yF},P.Nodup->P[i]?=Z9 x->a[i]?=Z9 v->kindOf x≠Z9 .local ->
  bindC kindOf (P.zip a) m x=Z9 v
 |[],_,_,_,_,h,_,_=>by simp at h
 |_::_,[],_,_,_,_,h,_=>by simp at h
 |p::P,w::a,0,m,nd,h1,h2,hk=>by simp at h1 h2;subst h1;subst h2;show bindC kindOf ((p,w)::P.zip a) m p=_;unfold bindC;rw[Kq λv b=>(qH8.mp nd).1 (qP5 b).1,if_neg hk];simp
 |p::P,w::a,i+1,m,nd,h1,h2,hk=>by show bindC kindOf ((p,w)::P.zip a) m x=_;unfold bindC;exact Kn (i:=i) (qH8.mp nd).2 (by simpa using h1) (by simpa using h2) hk
noncomputable def start(N:yH)(a:List V):St:=a.map Z9++qK0 (N.length - a.length) Z8
noncomputable def WO(CX:VN)(P:yZ)(w:jD)(K:yS)(mg:Str->yF)(base:jA)(N:yH)(a:Str)(scope:vG)(f:yR)(c:yT)(A:jC)(outer:List Env)(s:yQ)(H:Hp)(E:XK):Cx where
 prog:=P
 w:=w
 K:=K
 mg:=mg
 base:=base
 A:=A.deeper (lI a scope s.heap.objs.size f c)
 N:=N
 s₀:=s
 H₀:=H
 env:=lI a scope s.heap.objs.size f c
 outer:=outer
 stack:=lI a scope s.heap.objs.size f c::outer
 ex:=[]
 calm:=Z7
 fn:=λ_=>Z7
 pn:=[]
 xe:=λe g=>yV (yX P w) (A.deeper (lI a scope s.heap.objs.size f c)) (leaving (lI a scope s.heap.objs.size f c) e) (λ_ b=>CX outer H s E e b) (λd b=>CX outer H s E d b) g
theorem Km{a:vG}(h:a.names.lookup x=Z9 .cell):∃c,(vN n a.names []).lookup x=Z9 c:=by have q:=W.cellsFrom_some a.names n [] (.inl h);exact qK7.mp q
theorem DU{K:yS}
  (S:Qo N ps scope) (R:A.handled=Z8) (l:U5 P w K J base A d s H) (U:m.length=ps.length) (r:ZM m I)
  (x:InCallC s s.heap.objs.size (bindL (lI g scope s.heap.objs.size f F).kindOf (ps.zip I) λ_=>Z8) (vN (s.heap.objs.size+1) scope.names []) (bindC (lI g scope s.heap.objs.size f F).kindOf (ps.zip I) λ_=>Z8) s1) :
  ZQ (WO CX P w K J base N g scope f F A d s H E) [] (start N m) H s1:=by
 have M:ps.length<=N.length:=by have:=congrArg qN2 S.pre;rw[qD8]at this;omega
 obtain⟨D,T,rfl,hk⟩:=x.done;have o:∀b:yR,b∉(WO CX P w K J base N g scope f F A d s H E).ex:=λb z=>absurd (show b∈([]:yC)from z) (by simp);refine⟨⟨l.mod,S.kind,rfl,rfl,qA6 _,λy z c D j=>?_,λy t=>?_,λy c _ h=>?_,λ_=>R,Around.frames_deeper l.frames,.inr ⟨rfl,rfl⟩,λb z=>absurd z (o b),l.bs,l.bsz,λb _ _=>o b,λb z=>absurd z (o b),l.funs,l.frf⟩,
  rfl,l.bare,Un.kept hk,⟨_,x.toInCall.ns,λi y v D j W=>?_⟩,λy c h=>⟨_,x.cell y c h⟩,l.hok.fresh (qA6 _),λy c h=>?_,λp C=>absurd (show p∈([]:yD)from C) (by simp),l.hok.kept hk,?_⟩
 ·exact name_of_addr x.apart (vR D) (vR j)
 ·have t:scope.names.lookup y=Z9 .cell∨scope.names.lookup y=Z9 .free:=t;rcases t with t|t
  ·exact Km t
  ·exact absurd rfl (S.nofree _ (vR t))
 ·exact qI1 (x.above y c (vR h))
 ·have G:i<m.length:=by
   unfold start at j;by_cases G:i<m.length
   ·exact G
   ·rw[qA3 (by simpa using G)]at j;rw[qJ0]at j;split at j<;>cases j
  have O:m[i]?=Z9 v:=by
   unfold start at j;rw[qB0 (by simpa using G),qB3]at j;cases e:m[i]? with
   |none=>rw[e]at j;cases j
   |some a=>rw[e]at j;cases j;rfl
  obtain⟨u,L,Q⟩:=r.get O;have C:ps[i]?=Z9 y:=by rw[<- S.pre,qN8 (by omega)];exact D
  have B:ps.Nodup:=by rw[<- S.pre];exact S.nd.sublist (qR2 _ _)
  refine⟨u,Q,?_⟩;rcases S.par y (qC0 C)with k|k
  ·exact .inl ⟨k,Ko B C L k⟩
  ·obtain⟨c,e⟩:=Km (n:=s.heap.objs.size+1) k;refine .inr ⟨.inl k,c,e,?_⟩;have q:=x.cell y c e;rw[Kn B C L (by show scope.names.lookup y≠_;rw[k];decide)]at q;exact q
 ·exact l.hok.fresh (qI1 (x.above y c (vR h)))
 ·unfold start;show _=N.length;rw[qB8,qA0,qI4];omega
theorem DT{K:yS}{T kV C X d U oc:yT}
  {M:Array (yF)} (lk:K.lookup f=Z9 ⟨oc,od,.func (fZ name c g h scope T kV C X Z d U),M⟩) (L:mW K d c=Z7) (S:Qo N ps scope)
  (len:∀i H Q E,sp i H Q E->i.length=ps.length)
  (p:∀(A:jC) (a:List Env) (s:yQ) (H:Hp) (i:List V) (Q:VK) (E:XK),Zg k (A.deeper (lI c scope s.heap.objs.size f d))->sp i H Q E ->
   ∃t,XW (WO CX P w K J base N c scope f d A a s H E) h t/\t { nx:=λ_ l=>Q .non l,rt:=Q } (start N i) H) :
  Yp P w K J base CX (k+1) f (fZ name c g h scope T kV C X Z d U) ps sp:=by
 refine⟨len,λA a s H Y us i Q E R F hb r B=>?_⟩;have hl:=len _ _ _ _ B;have KX:K.In s.heap:=F.mod.kin.keeps λb o e=>(F.bs b o e).1;have lim:s.heap.NoLimit:=F.mod.nolimit.keeps λb o e=>(F.bs b o e).1;have m:∀y∈ps.zip us,scope.names.lookup y.1=Z9 .local∨(scope.names.lookup y.1=Z9 .cell/\((vN (s.heap.objs.size+1) scope.names []).lookup y.1).isSome=Z7):=λ⟨n,v⟩ hy=>by
  rcases S.par n (qP5 hy).1 with q|q
  ·exact .inl q
  ·exact .inr ⟨q,W.cellsFrom_some _ _ _ (.inl q)⟩
 refine codeAny_call_function R.depth (KX _ _ lk) rfl S.co S.gen rfl (W.codeRec_of KX L) (hb _ _ _ _ ?_);refine wpAny_newFunctionEnv_cells S.kind m λenv he s1 x=>?_;subst he;refine⟨lim.keeps x.toInCall.keep,codeAny_func ?_⟩;obtain⟨t,ht,hq⟩:=p A a s H i Q E (R.deeper _) B;have I:ZQ (WO CX P w K J base N c scope f d A a s H E) [] (start N i) H s1:=DU S R.hd F hl r x;refine jU (ht [] s1 (start N i) H _ I hq) (λfl s' z=>?_) λe s' z=>z;have D:∀{G:St}{l:Hp}{v:V}{u:yT},ZQ (WO CX P w K J base N c scope f d A a s H E) [] G l s'->ZI v u->Q v l->CE a P w H s Q u s' :=
  λ{G l v u} j O q=>⟨v,l,j.os,j.bare,j.base,j.hok,O,q⟩
 cases fl with
 |ret u =>
  obtain⟨v,G,l,j,O,q⟩:=z;exact D j O q
 |next =>
  obtain⟨G,l,j,q⟩:=z;exact D (v:=V.non) (u:=Value.none) j rfl q
 |brk =>
  obtain⟨_,_,_,q⟩:=z;exact False.elim q
 |cont =>
  obtain⟨_,_,_,q⟩:=z;exact False.elim q
section
variable {X:Cx}{x:Str}{p pos:Pos}{e:y4}{es:yE}{t:TA}{id T:String}{r:List V->Hp->VK->Prop}
def Qn(r:List V->Hp->VK->Prop)(t:TA):TE:=fun Z H Q=>t Z H λa b=>r a b Q
theorem DS(k:XU X (.builtin id) r)(d:Gl X x)(g:X.mg x=Z8)(l:jH x=Z9 (.builtin id))(c:PA X (e::es) t)(q:x ≠ "__name__":=by decide)(hdb:Wm x:=by decide)
  (he:jE (e::es) X.env=(Z5,vL e X.env)::jE es X.env:=by rfl) (hpl:(wK pos (jE es X.env)).any (·.1)=Z5:=by rfl):PE X (.Call (.Name x p) (e::es) [] pos) (Qn r t):=by intro a s Z H Q I h;refine wL (Va I d g l ?_ q hdb);exact wX (Zv (c pos a s Z H _ I h) λj f ⟨b,i,n,o,m⟩=>k a f Z i b j Q n o m) he hpl
theorem N1(k:XU X (.type T) r)(d:Gl X x)(g:X.mg x=Z8)(l:jH x=Z9 (.type T))(c:PA X (e::es) t)(q:x ≠ "__name__":=by decide)(hdb:Wm x:=by decide)
  (he:jE (e::es) X.env=(Z5,vL e X.env)::jE es X.env:=by rfl) (hpl:(wK pos (jE es X.env)).any (·.1)=Z5:=by rfl):PE X (.Call (.Name x p) (e::es) [] pos) (Qn r t):=by intro a s Z H Q I h;refine wL (Va I d g l ?_ q hdb);exact jS (Zv (c pos a s Z H _ I h) λj f ⟨b,i,n,o,m⟩=>k a f Z i b j Q n o m) he hpl
end
end L2
namespace HT
open PySem PyProof.Rows
noncomputable def lexLt:yA->yA->Bool
 |[],[]=>Z5
 |[],_::_=>Z7
 |_::_,[]=>Z5
 |x::a,y::b=>if x=y then lexLt a b else decide (x<y)
theorem lexLt_cons(x y:Int)(xs ys:yA):lexLt (x::xs) (y::ys)=if x=y then lexLt xs ys else decide (x<y):=rfl
theorem DR:lexLt [] []=Z5:=rfl
theorem DQ(y:Int)(ys:yA):lexLt [] (y::ys)=Z7:=rfl
theorem DP(x:Int)(xs:yA):lexLt (x::xs) []=Z5:=rfl
theorem DO(A:jC)(s:yQ)(a:Int)(t:Tok)(c:Int)(u:Tok):∃e,SeqAt.EqAt A s (.int a t) (.int c u) e/\(e=Z7↔a=c) :=
 ⟨(a == c),SeqAt.EqAt.int_int a t c u,by simp⟩
theorem DN(A:jC)(s:yQ)(a:Int)(t:Tok)(c:Int)(u:Tok)(prog:yZ)(w:jD)(E:yL)(Q:yL)(h:Q (.bool (decide (a<c))) s):
  yV (yX prog w) A (richCompare .Lt (.int a t) (.int c u)) Q E s :=
 (mC h:yV (yX prog w) A (y7 .Lt (.int a t) (.int c u)) Q E s)
section
open PySem.SeqAt
open PySem.AutoSeq1 (wpAny_loadPart')
open PySem.MeetsSeq PySem.MeetsSeq2 PySem.MeetsSeq3
theorem tuple_lt_ints(l b:yR)(items f:yJ)(n W:Nat)(T J:Option yR)(sl L:Array (yF))(ns ms:yA)(P:vE items.toList ns)(N:vE f.toList ms):
  Meets (Builtin.«tuple.__lt__» ⟨[.ref l,.ref b],[]⟩)
   (λ_ R s=>s.heap.get? l=Z9 { cls:=.type "tuple",dict:=T,data:=.seq items n,slots:=sl }/\s.heap.get? b=Z9 { cls:=.type "tuple",dict:=J,data:=.seq f W,slots:=L } /\
    R (.ok (.ret (.bool (lexLt ns ms)))) s) :=
 .of_wp λr w A R s h=>by
  obtain⟨H,g,d,G,E⟩:=s;obtain⟨U,V,h⟩:=h;have Y:=AutoSeq1.sub_tuple_tuple;have X:items.size=ns.length:=by rw[<- P.length];simp
  have Z:f.size=ms.length:=by rw[<- N.length];simp
  wp_walk using wJ U,wJ V,wY _ (λZD b M=>b.1=Z8/\M=⟨H,g,d,G,E⟩/\∃(F I:yB) (k j:yA),ZD=F.zip I /\
   vE F k/\vE I j/\k.length+f.size=j.length+items.size/\R (.ok (.ret (.bool (lexLt k j)))) ⟨H,g,d,G,E⟩) _
  case turn =>
   rintro⟨y,x⟩ ZD b M ⟨B,rfl,F,I,k,j,m,z,o,i,p⟩;cases z with
   |nil=>rw[qR3]at m;cases m
   |cons a t C =>
    cases o with
    |nil=>rw[qQ5]at m;cases m
    |cons c u D =>
     rw[qM7]at m;injection m with hyx hrest;injection hyx with hy hx;subst hy hx;rw[lexLt_cons]at p;simp only[qC7]at i;obtain⟨e,Q,v⟩:=DO A.in1 ⟨H,g,d,G,E⟩ a t c u;refine yO (Q r w _ _ ?_);cases e with
     |true =>
      rw[if_pos (v.mp rfl)]at p
      wp_walk
      exact⟨rfl,rfl,_,_,_,_,hrest,C,D,by omega,p⟩
     |false =>
      rw[if_neg (λq=>absurd (v.mpr q) qB1)]at p;have K:=DN A.in1 ⟨H,g,d,G,E⟩ a t c u r w
      wp_walk using K
      exact⟨_,rfl,by simpa using p⟩
  case fin =>
   rintro⟨b1,b2⟩ M ⟨B,rfl,F,I,k,j,m,z,o,i,p⟩;simp only at B;subst B;have O:lexLt k j=decide (items.size<f.size):=by
    cases z with
    |nil =>
     cases o with
     |nil =>
      simp only[qG4]at i;rw[DR];exact(decide_eq_false (by omega)).symm
     |cons c u S =>
      simp only[qG4,qC7]at i;rw[DQ];exact(decide_eq_true (by omega)).symm
    |cons a t O =>
     cases o with
     |nil =>
      simp only[qG4,qC7]at i;rw[DP];exact(decide_eq_false (by omega)).symm
     |cons c u S =>
      rw[qM7]at m;cases m
   rw[O]at p
   wp_walk
   exact⟨_,rfl,by simpa[Builtin.Tuple.tupleCompareSizes]using p⟩
  case h =>
   exact⟨rfl,rfl,items.toList,f.toList,ns,ms,rfl,P,N,by omega,h⟩
end
section
variable {prog:yZ}{w:jD}{A:jC}{E:yL}{s:yQ}
theorem lt_tupInts{items a:yJ}{ns ms:yA}{Q:yL}(u:mS s.heap l items)(y:mS s.heap b a)(z:vE items.toList ns)(v:vE a.toList ms)
  (p:A.units<j5) (h:Q (.bool (lexLt ns ms)) s):yV (yX prog w) A (y7 .Lt (.ref l) (.ref b)) Q E s:=by
 obtain⟨⟨r,t,o,q⟩,j,m,n,k⟩:=id u;obtain⟨⟨i,f,data2,g⟩,d,e,B,c⟩:=id y;simp only at m k e c;subst m k e c;exact richCompare_meets_room (op:=.Lt) ⟨_,j,rfl⟩ ⟨_,d,rfl⟩ wU gM (gC _ _) (tuple_lt_ints l b items a n B t f q g ns ms z v)
  ⟨j,d,show Value.bool (lexLt ns ms)≠Value.notImplemented/\Q (.bool (lexLt ns ms)) s from⟨(λx=>nomatch x),h⟩⟩ p
theorem cat_tup{d a:yB}{Q:yL}(ht:mS s.heap t d.toArray)(y:mS s.heap b a.toArray)(r:d≠[])
  (v:a=[]->Q (.ref t) s) (x:a≠[]->Q (.ref s.heap.objs.size) { s with heap:=s.heap.push { cls:=.type "tuple",data:=.seq (d++a).toArray } })
  (hsz:d.length+a.length<=y8):yV (yX prog w) A (jM .Add (.ref t) (.ref b)) Q E s:=by
 obtain⟨⟨cls,o,data,m⟩,k,q,n,p⟩:=id ht;obtain⟨⟨l,f,data2,g⟩,c,i,u,h⟩:=id y;simp only at q p i h;subst q p i h;have e:d.toArray++a.toArray=(d++a).toArray:=by simp
 by_cases j:a=[]
 ·exact mX ⟨_,k,rfl⟩ ⟨_,c,rfl⟩ gD mI wS wN (wG _ _)
   (tuple_addW1 t b d.toArray a.toArray n u o f m g (by simpa using r) (by simp[j])) ⟨k,c,v j⟩
 ·refine mX ⟨_,k,rfl⟩ ⟨_,c,rfl⟩ gD mI wS wN (wG _ _)
   (tuple_addW2 t b d.toArray a.toArray n u o f m g (by simpa using r) (by simpa using j) (by rw[qA9,qA9];exact hsz)) ⟨k,c,?_⟩
  rw[e];exact x j
noncomputable def sIx(n d:Nat):yG->Nat
 |none=>d
 |some v=>if v<0 then(v+(n:Int)).toNat else min v.toNat n
theorem sIx_none(n d:Nat):sIx n d Z8=d:=rfl
theorem sIx_nat(n d k:Nat):sIx n d (Z9 (k:Int))=min k n:=by show(if(k:Int)<0 then((k:Int)+(n:Int)).toNat else min (k:Int).toNat n)=min k n;rw[if_neg (by omega),qF1]
theorem DM(n d:Nat)(b:d<=n)(o:yG):sIx n d o<=n:=by
 cases o with
 |none=>exact b
 |some v =>
  show(if v<0 then(v+(n:Int)).toNat else min v.toNat n)<=n;by_cases a:v<0
  ·rw[if_pos a];omega
  ·rw[if_neg a];exact Nat.min_le_right _ _
theorem Kl(v:Int)(n d:Nat):(if v<0 then max (v+(n:Int)) 0 else min v (n:Int))=((sIx n d (Z9 v):Nat):Int):=by
 show(if v<0 then max (v+(n:Int)) 0 else min v (n:Int))=(((if v<0 then(v+(n:Int)).toNat else min v.toNat n):Nat):Int)
 by_cases a:v<0
 ·simp only[if_pos a];omega
 ·simp only[if_neg a];omega
theorem DL(b a:yG)(n:Nat):Builtin.Slice.sliceAdjust b a 1 (n:Int)=(((sIx n 0 b:Nat):Int),((sIx n n a:Nat):Int)):=by
 have c:¬((1:Int)<0):=by omega
 unfold Builtin.Slice.sliceAdjust;simp only[c,if_false];refine Prod.ext ?_ ?_
 ·cases b with
  |none=>rfl
  |some v=>exact Kl v n 0
 ·cases a with
  |none=>rfl
  |some v=>exact Kl v n n
theorem DK(i j:Nat):Builtin.Slice.slicePlaces (i:Int) (j:Int) 1=j - i:=by
 unfold Builtin.Slice.slicePlaces;have a:(1:Int)>0:=by omega
 simp only[a,if_true,Int.ediv_one];split<;>omega
theorem Kk{o:yG}{Q:yG->yQ->Prop}(p:gO v o)(h:Q o s):yV (yX prog w) A (Builtin.Slice.slicePartIndex v) Q E s:=by
 cases p with
 |none=>exact slicePart_none h
 |int i t=>exact slicePart_int h
theorem sliceApplied_gen{a hi:yG}{Q:Int×Int×Nat->yQ->Prop}(hs:s.heap.IsSliceOf sl e d .none)(pl:gO e a)(f:gO d hi)
  (h:Q (((sIx n 0 a:Nat):Int),1,sIx n n hi - sIx n 0 a) s):yV (yX prog w) A (Builtin.Slice.sliceApplied (.ref sl) (pure (n:Int))) Q E s:=by obtain⟨i,b,g,c⟩:=id hs;unfold Builtin.Slice.sliceApplied Builtin.Slice.sliceFields;refine yO (yO (vF b c (x:=e) rfl (yO (vF b c (x:=d) rfl (yO (vF b c (x:=.none) rfl (yP ?_)))))));refine yO (slicePart_none ?_);show yV _ _ (if((1:Int) == 0)=Z7 then _ else _) _ _ s;rw[if_neg (by decide)];refine yO (Kk pl (yO (Kk f (yO (yP ?_)))));show yV _ _ (match Builtin.Slice.sliceAdjust a hi 1 (n:Int)with|(a,hi)=>pure (a,(1:Int),Builtin.Slice.slicePlaces a hi 1)) _ _ s;rw[DL a hi n];show yV _ _ (pure (((sIx n 0 a:Nat):Int),(1:Int),Builtin.Slice.slicePlaces ((sIx n 0 a:Nat):Int) ((sIx n n hi:Nat):Int) 1)) _ _ s;rw[DK];exact yP h
theorem DJ(xs:yJ)(i k:Nat):((List.range k).filterMap fun(m:Nat)=>xs[((i:Int)+(m:Int)*1).toNat]?).toArray=((xs.toList.drop i).take k).toArray:=by
 have e:(fun(m:Nat)=>xs[((i:Int)+(m:Int)*1).toNat]?)=λm=>xs[i+m]?:=by
  funext m;have:((i:Int)+(m:Int)*1).toNat=i+m:=by omega
  rw[this]
 rw[e];have:=pick_run xs i k;rw[List.filterMap_map]at this;have a:((λx=>xs[x]?)∘λx=>i+x)=λm=>xs[i+m]?:=rfl;rw[a]at this;rw[this]
theorem getItem_tuple_cut{items:yJ}{b c:yG}{Q:yL}(ht:mS s.heap t items)(hs:s.heap.IsSliceOf sl j i .none)(pl:gO j b)(k:gO i c)
  (n:¬(sIx items.size 0 b=0/\sIx items.size items.size c=items.size))
  (h:Q (.ref s.heap.objs.size) { s with heap:=s.heap.push { cls:=.type "tuple",data:=.seq ((items.toList.drop (sIx items.size 0 b)).take (sIx items.size items.size c - sIx items.size 0 b)).toArray } })
  (hsz:items.size<=y8):yV (yX prog w) A (fU (.ref t) (.ref sl)) Q E s:=by
 have a:sizeOk (.seq ((items.toList.drop (sIx items.size 0 b)).take (sIx items.size items.size c - sIx items.size 0 b)).toArray):=by show((items.toList.drop (sIx items.size 0 b)).take (sIx items.size items.size c - sIx items.size 0 b)).toArray.size<=y8;rw[qA9,qD8,qE6,yU];omega
 have r:sIx items.size items.size c<=items.size:=DM _ _ (qA6 _) c;obtain⟨l,e,f,o⟩:=id hs;have g:s.TypeIs (.ref sl) "slice":=⟨l,e,f⟩
 unfold fU
 try with_reducible refine jP ?_
 first|refine yO (yP ?_)| skip
 refine yO (wpAny_sequenceKey ht.typeIs (by decide) ?_);refine yO (jI (name:=Str.ofString "__getitem__") ht.typeIs j6
  (jJ j6 ht.typeIs mD ?_ (args_tuple_getitem _ _)))
 show yV _ _ (Builtin.Tuple.tupleItemsOf (.ref t) >>= _) _ _ s;refine yO (tupleItemsOf_ ht ?_);refine yO (vQ g ?_);rw[if_pos (by decide)];refine yO (sliceApplied_gen hs pl k ?_);have d:¬((((sIx items.size 0 b:Nat):Int) == 0&&(1:Int) == 1&&(sIx items.size items.size c - sIx items.size 0 b) == items.size)=Z7):=by intro q;rw[qC4,qC4]at q;have u:((sIx items.size 0 b:Nat):Int)=0:=eq_of_beq q.1.1;have p:sIx items.size items.size c - sIx items.size 0 b=items.size:=eq_of_beq q.2;exact n ⟨by omega,by omega⟩
 show yV _ _ (if(((sIx items.size 0 b:Nat):Int) == 0&&(1:Int) == 1&&(sIx items.size items.size c - sIx items.size 0 b) == items.size)=Z7 then _ else _) _ _ s;rw[if_neg d,DJ]
 first
  |exact yO (m:=Builtin.Tuple.tupleExact _) (jF (yP ⟨_,rfl,yP h⟩) a)
  |exact yO (m:=Builtin.Tuple.tupleExact _) (jF (yO (yP (yP ⟨_,rfl,yP h⟩))) a)
  |exact yO (yO (m:=Builtin.Tuple.tupleExact _) (jF (yP (yP ⟨_,rfl,yP h⟩)) a))
  |exact yO (yO (m:=Builtin.Tuple.tupleExact _) (jF (yP ⟨_,rfl,yP h⟩) a))
end
end HT
namespace L2
open PySem PySem.Spec PyProof.Rows
abbrev TO:=St->Hp->(yG->Hp->Prop)->Prop
def PO(X:Cx)(e:Option y4)(t:TO):Prop :=
 ∀(a:yD) (s:yQ) (Z:St) (H:Hp) (Q:yG->Hp->Prop),ZQ X a Z H s->t Z H Q ->
  yV (yX X.prog X.w) X.A (evalPart e X.env) (λu c=>∃o b,ZQ X a Z b c/\gO u o/\Q o b) X.xe s
def DI:TO:=λ_ H Q=>Q Z8 H
def DH(t:TE):TO:=fun Z H Q=>t Z H λx a=>∃i,x=.int i/\Q (Z9 i) a
theorem Qm{ns:yA}:∀{a:yB},ZM (ns.map V.int) a->vE a ns:=by
 induction ns with
 |nil=>intro a r;rw[qH5]at r;cases r;exact .nil
 |cons n ns b =>
  intro a r;rw[qB5]at r;cases r with
  |cons c d =>
   obtain⟨t,e⟩:=c;subst e;exact .cons n t (b d)
section
variable {X:Cx}{e:y4}{te:TE}{lo hi:Option y4}{tl th:TO}{pos p2:Pos}
theorem DG:PO X Z8 DI:=by intro a s Z H Q I h;rw[evalPart_none];exact yP ⟨Z8,H,I,.none,h⟩
theorem DE(h:PE X e te):PO X (Z9 e) (DH te):=by intro a s Z H Q I f;rw[evalPart_some];refine Zv (h a s Z H _ I f) λu j ⟨x,g,b,c,d⟩=>?_;obtain⟨i,rfl,q⟩:=d;obtain⟨t,rfl⟩:=c;exact⟨Z9 i,g,b,.int i t,q⟩
def SH(X:Cx)(r:V->yG->yG->Hp->VK->Prop):Prop :=
 ∀(a:yD) (s:yQ) (Z:St) (H:Hp) (x:V) (v g d:yT) (c b:yG) (f:yR) (Q:VK),ZQ X a Z H s->ZI x v->s.heap.IsSliceOf f g d .none->gO g c->gO d b->r x c b H Q ->
  ∃T h,typeLookup (.type T) "__getitem__"=pure (Z9 (.builtin h))/\s.TypeIs v T/\yV (yX X.prog X.w) X.A (fU v (.ref f)) (EP X a Z Q) X.xe s
def DD(r:V->yG->yG->Hp->VK->Prop)(d:TE)(f b:TO):TE:=fun Z H Q=>d Z H λx c=>f Z c λl g=>b Z g λu a=>r x l u a Q
theorem DC(C:SH X r)(he:PE X e te)(A:PO X lo tl)(w:PO X hi th):PE X (.Subscript e (.Slice lo hi Z8 p2) pos) (DD r te tl th):=by intro a s Z H Q I h;refine Subscript_ (Zv (he a s Z H _ I h) λv z ⟨x,B,G,J,D⟩=>?_);refine wpAny_Slice (Zv (A a z Z B _ G D) λf m ⟨l,F,k,o,t⟩=>Zv (w a m Z F _ k t) λd c ⟨u,g,E,i,n⟩=>?_);rw[evalPart_none];refine yP ?_;have p:ZQ X a Z g { c with heap:=c.heap.push { cls:=.type "slice",data:=.fields #[f,d,.none] } }:=E.kept (t':=c.toks) λb L q=>qA1 _ q;obtain⟨T,K,j,ht,y⟩:=C a { c with heap:=c.heap.push { cls:=.type "slice",data:=.fields #[f,d,.none] } } Z g x v f d l u c.heap.objs.size Q p J (Heap.IsSliceOf.new ..) o i n;show yV (yX X.prog X.w) X.A (mJ e (.Slice lo hi Z8 p2) v (.ref c.heap.objs.size)) (EP X a Z Q) X.xe { c with heap:=c.heap.push { cls:=.type "slice",data:=.fields #[f,d,.none] } };exact tail_any (ops:=[.ref c.heap.objs.size,v]) ht j y (by with_unfolding_all rfl)
noncomputable def XT(xs:List V)(a b:yG):List V:=(xs.drop (HT.sIx xs.length 0 a)).take (HT.sIx xs.length xs.length b - HT.sIx xs.length 0 a)
theorem Kj(xs:List V)(a b:yG):(XT xs a b).length<=xs.length:=by unfold XT;rw[qD8,qE6];omega
def N0(K:yS):V->yG->yG->Hp->VK->Prop:=λx d c H Q=>∃a b,x=.ref a/\Zp K H a b /\
 ¬(HT.sIx b.length 0 d=0/\HT.sIx b.length b.length c=b.length)/\∀p,H p=Z8->Q (.ref p) (ZE H p (.tup (XT b d c)))
theorem DB:SH X (N0 X.K):=by
 intro k s Z H x v z y f i w Q I t u n l h;obtain⟨a,d,rfl,p,m,q⟩:=h;cases t;obtain⟨g,r,ht,j⟩:=I.tuple p;have c:g.toArray.size=d.length:=by rw[qA9];exact r.length.symm
 refine⟨"tuple",_,PyProof.Rows.slot_tuple_getitem.lookup,ht.typeIs,?_⟩;refine HT.getItem_tuple_cut ht u n l (by rw[c];exact m) ?_ (by rw[c];exact j);rw[c];refine⟨.ref s.heap.objs.size,_,I.laid (t':=s.toks) (o:=.tup (XT d f i)) (λb A q=>qA1 _ q) (qA6 _) ?_,rfl,q _ (I.hok.fresh (qA6 _))⟩;exact⟨qD4 (Kj d f i) j,_,(r.drop (HT.sIx d.length 0 f)).take (HT.sIx d.length d.length i - HT.sIx d.length 0 f),IsTup.new _ _⟩
def DA(K:yS):R2:=λx y H Q=>∃a b d c,x=.ref a/\y=.ref b/\Zp K H a d/\Zp K H b c/\d≠[]/\d.length+c.length<=y8 /\
 (c=[]->Q (.ref a) H)/\(c≠[]->∀p,H p=Z8->Q (.ref p) (ZE H p (.tup (d++c))))
theorem ZM.nil_iff(r:ZM xs a):a=[]↔xs=[]:=by
 cases r with
 |nil=>simp
 |cons _ _=>simp
theorem Dz:Y6 X (jM .Add) (DA X.K):=by intro g s Z H x y v u Q I n k h;obtain⟨a,b,r,B,rfl,rfl,l,C,m,f,A,p⟩:=h;cases n;cases k;obtain⟨t,d,j,_⟩:=I.tuple l;obtain⟨i,c,D,_⟩:=I.tuple C;refine HT.cat_tup j D (λz=>m (d.nil_iff.mp z)) (λz=>⟨.ref a,H,I,rfl,A (c.nil_iff.mp z)⟩) (λz=>?_) (by rw[<- d.length,<- c.length];exact f);refine⟨.ref s.heap.objs.size,_,I.laid (t':=s.toks) (o:=.tup (r++B)) (λb E q=>qA1 _ q) (qA6 _) ?_,rfl,p (λw=>z (c.nil_iff.mpr w)) _ (I.hok.fresh (qA6 _))⟩;exact⟨by rw[qB8];exact f,_,d.append c,IsTup.new _ _⟩
end
noncomputable def Ww(n:Nat)(i:Int):yK:=if 0<=i then(if i<n then Z9 i.toNat else Z8)else if -(n:Int)<=i then Z9 (i+n).toNat else Z8
noncomputable def XZ{α:Type}(xs:List α)(i:Int):Option α:=(Ww xs.length i).bind λj=>xs[j]?
theorem Ki(h:Ww n i=Z9 j):seqIndex? i n=Z9 j/\j<n/\-(n:Int)<=i/\i<n:=by
 unfold Ww at h;by_cases b:0<=i
 ·rw[if_pos b]at h;by_cases a:i<n
  ·rw[if_pos a]at h;have e:i.toNat=j:=Option.some.inj h;exact⟨by rw[dM b a,e],by omega,by omega,a⟩
  ·rw[if_neg a]at h;cases h
 ·rw[if_neg b]at h;by_cases a:-(n:Int)<=i
  ·rw[if_pos a]at h;have e:(i+n).toNat=j:=Option.some.inj h;exact⟨by rw[mY (by omega) a,e],by omega,a,by omega⟩
  ·rw[if_neg a]at h;cases h
theorem Kh{v:a}(h:XZ xs i=Z9 v):∃j,seqIndex? i xs.length=Z9 j/\xs[j]?=Z9 v/\j<xs.length/\-(xs.length:Int)<=i/\i<xs.length:=by
 unfold XZ at h;cases e:Ww xs.length i with
 |none=>rw[e]at h;cases h
 |some j =>
  rw[e]at h;obtain⟨f,b,d,c⟩:=Ki e;exact⟨j,f,h,b,d,c⟩
theorem VM{j:Nat}{v:a}(h:xs[j]?=Z9 v):XZ xs (j:Int)=Z9 v:=by
 have b:j<xs.length:=(qA7.mp h).1;have e:Ww xs.length (j:Int)=Z9 j:=by unfold Ww;rw[if_pos (by omega),if_pos (by omega)];simp
 unfold XZ;rw[e];exact h
def NZ(b:y4):Prop:=∀o i,dN b Z5 o i=operate [o,i] (fU o i)
def SG(X:Cx)(r:R2):Prop :=
 ∀(c a:y4) (b:yD) (s:yQ) (Z:St) (H:Hp) (x y:V) (v u:yT) (Q:VK),ZQ X b Z H s->ZI x v->ZI y u->r x y H Q ->
  dN a Z5 v u=operate [v,u] (fU v u)->yV (yX X.prog X.w) X.A (mJ c a v u) (EP X b Z Q) X.xe s
def NY(X:Cx)(id:String)(r:V->List V->Hp->VK->Prop):Prop :=
 ∀(a:yD) (s:yQ) (Z:St) (H:Hp) (x:V) (b:List V) (v:yT) (c:yB) (Q:VK),ZQ X a Z H s->ZI x v->ZM b c->r x b H Q ->
  yV (yX X.prog X.w) X.A (call (.builtin id) (v::c)) (EP X a Z Q) X.xe s
section
variable {X:Cx}{a b:y4}{ta tb:TE}{pos:Pos}
theorem Dy(j:SG X r)(g:PE X a ta)(l:PE X b tb)(hs:NZ b):PE X (.Subscript a b pos) (RG r ta tb):=by intro c s Z H Q I h;exact Subscript_ (T9 g l I h λv u e x y k d i f q=>j a b c e Z k x y v u Q d i f q (hs _ _))
def NX(K:yS):R2:=λx y H Q=>∃p c i v,x=.ref p/\y=.int i/\YT K H p c/\XZ c i=Z9 v/\Q v H
def NW(K:yS):R2:=λx y H Q=>∃p c i v,x=.ref p/\y=.int i/\Zp K H p c/\XZ c i=Z9 v/\Q v H
theorem Dx:SG X (NX X.K):=by
 intro f g c s Z H x y v u Q I E D h A;obtain⟨p,O,i,z,rfl,rfl,L,C,q⟩:=h;cases E;obtain⟨t,rfl⟩:=D;obtain⟨m,r,k,N⟩:=I.list L;obtain⟨j,e,F,P,G,K⟩:=Kh C;obtain⟨w,B,n⟩:=r.get F;have J:=r.length;have R:=SI;have d:EP X c Z Q w s:=⟨z,H,I,n,q⟩
 by_cases o:0<=i
 ·have l:i.toNat=j:=by rw[dM o K]at e;exact Option.some.inj e
  exact item_listR k.isList o (by omega) (by rw[l];simpa using B) d A
 ·have l:(i+(m.toArray.size:Int)).toNat=j:=by rw[mY (by omega) G]at e;rw[qA9,<- J];exact Option.some.inj e
  exact gP (x:=w) k.isList.typeIs slot_list_getitem.lookup
   (wpAny_getItem_list_neg (Q:=λr M=>r=w/\EP X c Z Q r M) k.isList (by omega) (by rw[qA9]<;>omega) (by omega) (by rw[l];simpa using B) ⟨rfl,d⟩) A
theorem Dw:SG X (NW X.K):=by
 intro d e c s Z H x y v u Q I o n h B;obtain⟨p,M,i,z,rfl,rfl,F,l,q⟩:=h;cases o;obtain⟨t,rfl⟩:=n;obtain⟨E,r,k,J⟩:=I.tuple F;obtain⟨j,m,A,N,K,L⟩:=Kh l;obtain⟨w,D,g⟩:=r.get A;have C:=r.length;have O:=SI;have f:EP X c Z Q w s:=⟨z,H,I,g,q⟩
 exact gP (x:=w) k.typeIs slot_tuple_getitem.lookup
  (getItem_tuple (j:=j) (Q:=λr G=>r=w/\EP X c Z Q r G) k (by omega) (by omega) (by rw[qA9,<- C];exact m) (by simpa using D) ⟨rfl,f⟩) B
theorem Dv(its:yB)(n j:Nat)(u:yT):jZ (·.setIfInBounds j u) { cls:=.type "list",data:=.seq its.toArray n }={ cls:=.type "list",data:=.seq (its.set j u).toArray n }:=by simp[jZ]
theorem ZQ.lst{Z:St}(I:ZQ X c Z H s)(h:H p=Z9 (.lst xs)):
  ∃(its:yB) (n:Nat),ZM xs its/\s.heap.get? p=Z9 { cls:=.type "list",data:=.seq its.toArray n }/\xs.length<=sizeLine:=by obtain⟨z,its,n,r,e⟩:=I.hok p _ h;exact⟨its,n,r,e,z⟩
theorem ZQ.lstUpd{Z:St}{its its':yB}(I:ZQ X c Z H s)(h:H p=Z9 (.lst xs))
  (i:s.heap.get? p=Z9 { cls:=.type "list",data:=.seq its.toArray n }) (g:f { cls:=.type "list",data:=.seq its.toArray n }={ cls:=.type "list",data:=.seq its'.toArray d }) (r:ZM ys its') (hz:ys.length<=y8) (t:Nat) :
  ZQ X c Z (ZE H p (.lst ys)) { s with heap:=s.heap.update p f,toks:=t }:=by
 have e:(s.heap.update p f).get? p=Z9 { cls:=.type "list",data:=.seq its'.toArray d }:=by rw[qG2 f i (by rw[g]<;>rfl),g]
 refine I.write (x:=p) (e:=p) (by rw[h];trivial) (.inl rfl) (λb u j q=>(qF2 _ _ (Ne.symm j)).trans q) ⟨_,e⟩ ?_;exact⟨hz,its',d,r,e⟩
def Du:V->V->V->Hp->(Hp->Prop)->Prop:=λo i v H Q=>∃p c k j,o=.ref p/\i=.int k/\H p=Z9 (.lst c)/\Ww c.length k=Z9 j/\Q (ZE H p (.lst (c.set j v)))
theorem Dt:Wk X Du:=by
 intro d s Z H o i v G J u Q I z E B h;obtain⟨p,D,k,j,rfl,rfl,y,C,q⟩:=h;cases z;obtain⟨t,rfl⟩:=E;obtain⟨c,n,r,g,A⟩:=I.lst y;obtain⟨e,F,x,w⟩:=Ki C;have f:=r.length;have K:=SI;have l:ZQ X d Z (ZE H p (.lst (D.set j v))) { s with heap:=s.heap.update p (jZ (·.setIfInBounds j u)) } :=
  I.lstUpd y g (Dv c n j u) (r.set B j) (by rw[qK8];exact A) s.toks
 by_cases m:0<=k
 ·have hk:k.toNat=j:=by rw[dM m w]at e;exact Option.some.inj e
  exact W.ki_setAt g m (by omega) (by rw[qA9,<- f];exact w) (by rw[hk];exact⟨_,l,q⟩)
 ·have hk:(k+(c.toArray.size:Int)).toNat=j:=by rw[mY (by omega) x]at e;rw[qA9,<- f];exact Option.some.inj e
  exact W.ki_setBack g (by omega) (by rw[qA9,<- f];exact x) (by omega) (by rw[hk];exact⟨_,l,q⟩)
theorem Ds(d c:yG)(n:Nat):(wO d c Z8 n).1=((HT.sIx n 0 d:Nat):Int)/\(wO d c Z8 n).2.1=((HT.sIx n n c:Nat):Int)/\(wO d c Z8 n).2.2=1:=by
 refine⟨?_,?_,rfl⟩
 ·cases d with
  |none=>simp[wO,HT.sIx]
  |some i =>
   simp only[wO,HT.sIx,qR8,show(1:Int)>0 by decide,if_true];by_cases h:i<0
   ·simp only[h,if_true]<;>omega
   ·simp only[h,if_false]<;>omega
 ·cases c with
  |none=>simp[wO,HT.sIx]
  |some i =>
   simp only[wO,HT.sIx,qR8,show(1:Int)>0 by decide,if_true];by_cases h:i<0
   ·simp only[h,if_true]<;>omega
   ·simp only[h,if_false]<;>omega
theorem Dr(its:yB)(c d:yG):slicePick its.toArray c d Z8=((its.drop (HT.sIx its.length 0 c)).take (HT.sIx its.length its.length d - HT.sIx its.length 0 c)).toArray:=by obtain⟨g,e,f⟩:=Ds c d its.toArray.size;unfold slicePick;rw[g,e,f];simp only[sliceRange_one,pick_run,qA9]<;>rfl
def NV(K:yS):V->yG->yG->Hp->VK->Prop:=λx e d H Q=>∃a c,x=.ref a/\YT K H a c/\∀p,H p=Z8->Q (.ref p) (ZE H p (.lst (XT c e d)))
theorem Dq:SH X (NV X.K):=by intro g s Z H x v w u e f t Q I m n k i h;obtain⟨a,c,rfl,l,q⟩:=h;cases m;obtain⟨p,r,ht,j⟩:=I.list l;have d:=r.length;refine⟨"list",_,slot_list_getitem.lookup,ht.isList.typeIs,?_⟩;refine wpAny_getItem_list_slice ht.isList n k i .none (by simp) ?_ (by rw[qA9]<;>omega);rw[Dr,<- d];refine⟨.ref s.heap.objs.size,_,I.laid (t':=s.toks) (o:=.lst (XT c e f)) (λb y q=>qA1 _ q) (qA6 _) ?_,rfl,q _ (I.hok.fresh (qA6 _))⟩;exact⟨qD4 (Kj c e f) j,_,0,(r.drop (HT.sIx c.length 0 e)).take (HT.sIx c.length c.length f - HT.sIx c.length 0 e),qB2 _ rfl⟩
noncomputable def Vq:V->Bool
 |.non=>Z7
 |.bl _=>Z7
 |.int _=>Z7
 |.str _=>Z7
 |_=>Z5
noncomputable def Vp:V->V->Bool
 |.non,.non=>Z7
 |.bl a,.bl b=>a == b
 |.bl a,.int b=>(if a then 1 else 0) == b
 |.int a,.bl b=>a == (if b then 1 else 0)
 |.int a,.int b=>a == b
 |.str a,.str b=>a == b
 |_,_=>Z5
theorem Dp(e:ZI y u)(c:ZI x v)(g:Vq y=Z7)(f:Vq x=Z7):SeqAt.EqAt A s u v (Vp y x):=by
 cases y with
 |non =>
  cases e;cases x with
  |non=>cases c;exact SeqAt.EqAt.same _
  |bl b=>cases c;exact SeqAt.EqAt.none_bool b
  |int b=>obtain⟨t,rfl⟩:=c;exact SeqAt.EqAt.none_int b t
  |str b=>obtain⟨t,rfl⟩:=c;exact SeqAt.EqAt.none_str b t
  |_=>exact absurd (show Z5=Z7 from f) qB1
 |bl a =>
  cases e;cases x with
  |non=>cases c;exact SeqAt.EqAt.bool_none a
  |bl b=>cases c;exact SeqAt.EqAt.bool_bool a b
  |int b=>obtain⟨t,rfl⟩:=c;exact SeqAt.EqAt.bool_int a b t
  |str b=>obtain⟨t,rfl⟩:=c;exact SeqAt.EqAt.bool_str a b t
  |_=>exact absurd (show Z5=Z7 from f) qB1
 |int a =>
  obtain⟨d,rfl⟩:=e;cases x with
  |non=>cases c;exact SeqAt.EqAt.int_none a d
  |bl b=>cases c;exact SeqAt.EqAt.int_bool a d b
  |int b=>obtain⟨t,rfl⟩:=c;exact SeqAt.EqAt.int_int a d b t
  |str b=>obtain⟨t,rfl⟩:=c;exact SeqAt.EqAt.int_str a d b t
  |_=>exact absurd (show Z5=Z7 from f) qB1
 |str a =>
  obtain⟨d,rfl⟩:=e;cases x with
  |non=>cases c;exact SeqAt.EqAt.str_none a d
  |bl b=>cases c;exact SeqAt.EqAt.str_bool a d b
  |int b=>obtain⟨t,rfl⟩:=c;exact SeqAt.EqAt.str_int a d b t
  |str b=>obtain⟨t,rfl⟩:=c;exact SeqAt.EqAt.str_str a d b t
  |_=>exact absurd (show Z5=Z7 from f) qB1
 |_=>exact absurd (show Z5=Z7 from g) qB1
noncomputable def WN(x:V)(u:yT):Bool:=match u with
 |.none=>Vp .non x
 |.bool b=>Vp (.bl b) x
 |.int i _=>Vp (.int i) x
 |.str z _=>Vp (.str z) x
 |_=>Z5
theorem Kg(r:ZI y u)(f:Vq y=Z7):WN x u=Vp y x:=by
 cases y with
 |non=>cases r;rfl
 |bl b=>cases r;rfl
 |int i=>obtain⟨t,rfl⟩:=r;rfl
 |str z=>obtain⟨t,rfl⟩:=r;rfl
 |_=>exact absurd (show Z5=Z7 from f) qB1
theorem RC{x:V}:∀{xs:List V}{c:yB},ZM xs c->xs.all Vq=Z7->c.any (WN x)=xs.any λy=>Vp y x
 |_,_,.nil,_=>rfl
 |y::xs,u::c,.cons r t,f=>by rw[qN9,qC4]at f;rw[qH6,qH6,Kg r f.1,RC t f.2]
theorem RB{A:jC}{s:yQ}{x:V}{v:yT}(e:ZI x v)(g:Vq x=Z7):∀{xs:List V}{d:yB},ZM xs d->xs.all Vq=Z7->∀u∈d,SeqAt.EqAt A s u v (WN x u)
 |_,_,.nil,_=>λu c=>by cases c
 |y::xs,u::d,.cons r t,f=>λh c=>by
  rw[qN9,qC4]at f;rcases qA8.mp c with rfl|c
  ·rw[Kg r f.1];exact Dp r e f.1 g
  ·exact RB e g t f.2 h c
noncomputable def Vo(x:V)(xs:List V):Bool:=xs.any λy=>Vp y x
def NU(K:yS)(neg:Bool):R2:=λx y H Q=>∃p c,y=.ref p/\(YT K H p c∨Zp K H p c)/\Vq x=Z7/\c.all Vq=Z7/\Q (.bl (if neg then !Vo x c else Vo x c)) H
theorem Do:Y6 X (y7 .In) (NU X.K Z5):=by
 intro j s Z H x y v u Q I i l h;obtain⟨p,m,rfl,d,g,fs,q⟩:=h;cases l;rcases d with d|d
 ·obtain⟨c,r,f,k⟩:=I.list d;refine SeqAt.in_listAt (WN x) f.isList (λw e=>RB i g r fs w (by simpa using e)) ⟨.bl _,H,I,rfl,?_⟩;rw[show c.toArray.any (WN x)=c.any (WN x) by simp,RC r fs];exact q
 ·obtain⟨c,r,f,k⟩:=I.tuple d;refine SeqAt.in_tupleAt (WN x) f (λw e=>RB i g r fs w (by simpa using e)) ⟨.bl _,H,I,rfl,?_⟩;rw[show c.toArray.any (WN x)=c.any (WN x) by simp,RC r fs];exact q
theorem Dn:Y6 X (y7 .NotIn) (NU X.K Z7):=by
 intro j s Z H x y v u Q I i l h;obtain⟨p,m,rfl,d,g,fs,q⟩:=h;cases l;rcases d with d|d
 ·obtain⟨c,r,f,k⟩:=I.list d;refine SeqAt.notIn_listAt (WN x) f.isList (λw e=>RB i g r fs w (by simpa using e)) ⟨.bl _,H,I,rfl,?_⟩;rw[show c.toArray.any (WN x)=c.any (WN x) by simp,RC r fs];exact q
 ·obtain⟨c,r,f,k⟩:=I.tuple d;refine SeqAt.notIn_tupleAt (WN x) f (λw e=>RB i g r fs w (by simpa using e)) ⟨.bl _,H,I,rfl,?_⟩;rw[show c.toArray.any (WN x)=c.any (WN x) by simp,RC r fs];exact q
theorem Dm:XU X (.builtin "len") (λxs H Q=>∃p ys,xs=[.ref p]/\(YT X.K H p ys∨Zp X.K H p ys)/\Q (.int ys.length) H):=by
 intro i s Z H xs l Q I r h;obtain⟨p,ys,rfl,d,q⟩:=h;obtain⟨u,rfl,k⟩:=Wx r;cases k;have m:=SI;rcases d with d|d
 ·obtain⟨g,f,e,j⟩:=I.list d;have c:=f.length;exact Calls.call_len_list e.isList (by simp only[qA9]<;>omega) ⟨.int ys.length,H,I.tok _,⟨s.toks+1,by rw[qA9,c]⟩,q⟩
 ·obtain⟨g,f,e,j⟩:=I.tuple d;have c:=f.length;exact len_tuple e (by simp only[qA9]<;>omega) ⟨.int ys.length,H,I.tok _,⟨s.toks+1,by rw[qA9,c]⟩,q⟩
theorem Dl:XU X (.builtin "len") (λxs H Q=>∃z,xs=[.str z]/\z.length<=y8/\Q (.int z.length) H):=by intro c s Z H xs d Q I r h;obtain⟨z,rfl,f,q⟩:=h;obtain⟨u,rfl,t,rfl⟩:=Wx r;have e:=SI;exact len_str (by omega) ⟨.int z.length,H,I.tok _,⟨_,rfl⟩,q⟩
theorem Dk:XU X (.type "list") (λxs H Q=>∃p ys,xs=[.ref p]/\(YT X.K H p ys∨Zp X.K H p ys)/\∀l,H l=Z8->Q (.ref l) (ZE H l (.lst ys))):=by
 intro t s Z H xs B Q I r h;obtain⟨p,ys,rfl,k,q⟩:=h;obtain⟨u,rfl,A⟩:=Wx r;cases A;have j:∀(c:yB),ZM ys c->ys.length<=y8->∀(d:jA) (f:Nat),(∀b z,s.heap.get? b=Z9 z->d.get? b=Z9 z) ->
   d.get? s.heap.objs.size=Z9 { cls:=.type "list",dict:=Z8,data:=.seq c.toArray f,slots:=#[] }->EP X t Z Q (.ref s.heap.objs.size) { s with heap:=d }:=λc g i d f kp e =>
  ⟨.ref s.heap.objs.size,_,I.laid (t':=s.toks) kp (qA6 _) (show XX X.prog X.w _ d _ (.lst ys)from⟨i,c,f,g,e⟩),rfl,q _ (I.hok.fresh (qA6 _))⟩
 rcases k with k|k
 ·obtain⟨c,g,v,i⟩:=I.list k;have m:=g.length;obtain⟨o,w,y,n,x⟩:=v.isList;exact call_list_seq p (.inl rfl) w y x (λd f kp e=>j c g i d f kp e) (by simp only[qA9]<;>omega)
 ·obtain⟨c,g,v,i⟩:=I.tuple k;have m:=g.length;obtain⟨o,w,y,n,x⟩:=v;exact call_list_seq p (.inr rfl) w y x (λd f kp e=>j c g i d f kp e) (by simp only[qA9]<;>omega)
theorem Kf:XU X (.type "tuple") (λxs H Q=>∃p ys,xs=[.ref p]/\((YT X.K H p ys/\∀l,H l=Z8->Q (.ref l) (ZE H l (.tup ys)))∨(Zp X.K H p ys/\Q (.ref p) H))):=by
 intro c s Z H xs w Q I r h;obtain⟨p,ys,rfl,h⟩:=h;obtain⟨u,rfl,v⟩:=Wx r;cases v;rcases h with⟨j,q⟩| ⟨j,q⟩
 ·obtain⟨d,i,g,k⟩:=I.list j;have n:=i.length;refine call_tuple_list g.isList (λf kp=>?_) (by simp only[qA9]<;>omega);have m:ZQ X c Z H { s with heap:=f }:=I.kept (t':=s.toks) kp;have t:ZQ X c Z (ZE H f.objs.size (.tup ys)) { s with heap:=f.push { cls:=.type "tuple",data:=.seq d.toArray } } :=
   m.laid (t':=s.toks) (λb o e=>qA1 _ e) (qA6 _) (show XX X.prog X.w _ _ _ (.tup ys)from⟨k,d,i,IsTup.new _ _⟩)
  exact⟨.ref f.objs.size,_,t,rfl,q _ (m.hok.fresh (qA6 _))⟩
 ·obtain⟨d,i,g,k⟩:=I.tuple j;exact call_tuple_same g ⟨.ref p,H,I,rfl,q⟩
def NT(K:yS)(T:String)(x:V)(H:Hp):Prop:=match x with
 |.str _=>T = "str"
 |.int _=>T = "int"
 |.ref p=>(T = "list"/\∃d,YT K H p d)∨(T = "tuple"/\∃o,K.lookup p=Z9 o/\o.cls=.type "tuple"/\o.dict=Z8) ∨
   (T = "dict"/\((∃c,H p=Z9 (.dK c))∨∃c,H p=Z9 (.dT c)))∨(T = "set"/\∃S n,H p=Z9 (.set S n))
 |_=>False
theorem Dj{Z:St}(I:ZQ X d Z H s)(r:ZI x v)(ty:NT X.K T x H):
  s.TypeIs v T/\∀a,v=.ref a->∃k,s.heap.get? a=Z9 k/\k.dict=Z8:=by
 cases x with
 |str z =>
  obtain⟨t,rfl⟩:=r;cases (show T = "str" from ty);exact⟨typeIs_str s z t,λ_ e=>nomatch e⟩
 |int i =>
  obtain⟨t,rfl⟩:=r;cases (show T = "int" from ty);exact⟨typeIs_int s i t,λ_ e=>nomatch e⟩
 |ref p =>
  cases r;rcases ty with⟨rfl,u,q⟩| ⟨rfl,o,hk,l,g⟩| ⟨rfl,hk⟩| ⟨rfl,S,n,hk⟩
  ·obtain⟨m,_,j,_⟩:=I.list q;refine⟨j.isList.typeIs,λa e=>?_⟩;cases e;obtain⟨o,n,e,c,g,_⟩:=j;exact⟨o,e,g⟩
  ·refine⟨⟨o,I.kIn p o hk,l⟩,λa e=>?_⟩;cases e;exact⟨o,I.kIn _ o hk,g⟩
  ·have z:∃o,s.heap.get? p=Z9 o/\o.ExactDict:=by
    rcases hk with⟨f,hk⟩| ⟨f,hk⟩
    ·obtain⟨_,_,_,_,o,_,_,e,ex,_⟩:=I.hok p _ hk;exact⟨o,e,ex⟩
    ·obtain⟨_,_,_,_,o,_,_,e,ex,_⟩:=I.hok p _ hk;exact⟨o,e,ex⟩
   obtain⟨o,e,ex⟩:=z;refine⟨⟨o,e,ex.1⟩,λa h=>?_⟩;cases h;exact⟨o,e,ex.2.1⟩
  ·obtain⟨o,_,_,_,e,ex,_⟩:=I.hok p _ hk;refine⟨⟨o,e,ex.1⟩,λa h=>?_⟩;cases h;exact⟨o,e,ex.2.1⟩
 |_=>exact False.elim ty
def Di(K:yS)(T:String)(r:V->List V->Hp->VK->Prop)(e:TE)(t:TA):TE:=fun Z H Q=>e Z H λx c=>NT K T x c/\t Z c λd f=>r x d f Q
variable {o e:y4}{es:yE}{to:TE}{t:TA}{name:Str}{apos cpos:Pos}{T id:String}{r:V->List V->Hp->VK->Prop}
theorem Dh(w:PlainAttrs T)(j:Slot T name id)(k:typeOf (.builtin id)=pure (.type "method_descriptor"))(E:NY X id r)(G:PE X o to)(z:PA X (e::es) t)
  (f:f6 o name X.env (vL o X.env)=vL o X.env:=by rfl)
  (i:((wK cpos (jE (e::es) X.env)).all (λx=>!x.1)&&(backToKw cpos (lJ [] X.env)).all (λx=>x.1.isSome)
   && decide ((e::es).length+([]:List gQ).length+(if([]:List gQ).isEmpty then 0 else 1)<30))=Z7:=by rfl)
  (g:(apos.endLine == cpos.line)=Z7:=by rfl) (hs:jE (e::es) X.env=(Z5,vL e X.env)::jE es X.env:=by rfl) (d:(wK cpos (jE es X.env)).any (·.1)=Z5:=by rfl) :
  PE X (.Call (.Attribute o name apos) (e::es) [] cpos) (Di X.K T r to t):=by intro c s Z H Q I h;refine wpAny_Call_method_late f i g rfl (Zv (G c s Z H _ I h) λv C ⟨x,F,l,n,ty,K⟩=>?_);obtain⟨y,B⟩:=Dj l n ty;refine⟨T,id,w,j,k,y,B,?_⟩;have m:=z cpos c C Z F _ l K;rw[hs]at m ⊢;refine Calls.callWith_builtin (by show(Z5||(wK cpos (jE es X.env)).any (·.1))=Z5;rw[d]<;>rfl) (Calls.evalArgs_plain ?_);exact Zv m λJ u ⟨q,L,p,D,A⟩=>E c u Z L x q v J Q p n D A
end
def Ql(X:Cx)(id:String)(r:V->List V->Hp->VK->Prop):Prop :=
 ∀(a:yD) (s:yQ) (Z:St) (H:Hp) (x:V) (b:List V) (v:yT) (c:yB) (Q:VK),ZQ X a Z H s->ZI x v->ZM b c->r x b H Q ->
  yV (yX X.prog X.w) X.A (call (.builtin id) (v::c)) (EP X a Z Q) X.xe s
theorem ZM.cinv:∀{a:yB},ZM (x::xs) a->∃u r,a=u::r/\ZI x u/\ZM xs r
 |_,.cons r t=>⟨_,_,rfl,r,t⟩
theorem ZM.ninv:∀{a:yB},ZM [] a->a=[]
 |_,.nil=>rfl
theorem ZM.one(h:ZM [x] b):∃u,b=[u]/\ZI x u:=by obtain⟨u,r,rfl,a,t⟩:=h.cinv;rw[t.ninv];exact⟨u,rfl,a⟩
theorem ZM.two(h:ZM [x,y] c):∃u v,c=[u,v]/\ZI x u/\ZI y v:=by obtain⟨u,r,rfl,a,t⟩:=h.cinv;obtain⟨v,rfl,b⟩:=t.one;exact⟨u,v,rfl,a,b⟩
section
variable {X:Cx}{pins:yD}{Z:St}{H:Hp}{s:yQ}{l b:yR}{xs ys zs:List V}
theorem ZQ.lset{its its':yB}{f:yJ->yJ}(I:ZQ X pins Z H s)(d:H l=Z9 (.lst xs))
  (e:s.heap.get? l=Z9 { cls:=.type "list",data:=.seq its.toArray n }) (h:f its.toArray=its'.toArray) (g:ZM ys its') (hz:ys.length<=y8) :
  ZQ X pins Z (ZE H l (.lst ys)) { s with heap:=s.heap.update l (jZ f),toks:=t' }:=by have q:=PySem.IsL.update e f;rw[h]at q;refine I.write (x:=l) (e:=l) (by rw[d];exact trivial) (.inl rfl) (λi u a c=>(qF2 s.heap (jZ f) (Ne.symm a)).trans c) ⟨_,q⟩ ?_;exact⟨hz,its',_,g,q⟩
theorem ZQ.lnew(I:ZQ X pins Z H s)(a:ZM ys its)(hz:ys.length<=y8):
  ZQ X pins Z (ZE H s.heap.objs.size (.lst ys)) { s with heap:=s.heap.push { cls:=.type "list",data:=.seq its.toArray },toks:=t' } :=
 I.laid (λ_ _ q=>qA1 _ q) (qA6 _) ⟨hz,its,0,a,qB2 _ rfl⟩
theorem ZQ.fresh(I:ZQ X pins Z H s):H s.heap.objs.size=Z8:=I.hok.fresh (qA6 _)
theorem ZQ.lstM(I:ZQ X pins Z H s)(a:H l=Z9 (.lst xs)):xs.length<=y8/\∃(its:yB) (n:Nat),ZM xs its/\xs.length=its.length/\s.heap.get? l=Z9 { cls:=.type "list",data:=.seq its.toArray n }:=by obtain⟨z,its,n,r,e⟩:=I.hok l _ a;exact⟨z,its,n,r,r.length,e⟩
theorem Ke(h:n<=y8):Builtin.List.listTooLong n=Z5:=by unfold Builtin.List.listTooLong;exact decide_eq_false (by omega)
end
section
variable {X:Cx}
def Dg:V->List V->Hp->VK->Prop:=λx b H Q=>∃l a y,x=.ref l/\b=[y]/\H l=Z9 (.lst a)/\a.length<y8/\Q .non (ZE H l (.lst (a++[y])))
theorem Kd:Ql X "list.append" Dg:=by intro c s Z H x i v o Q I d f h;obtain⟨l,m,y,rfl,rfl,b,j,q⟩:=h;cases d;obtain⟨u,rfl,g⟩:=f.one;obtain⟨z,a,n,r,k,e⟩:=I.lstM b;refine gR F.slot_list_append ⟨_,e,rfl⟩ F.entry_list_append (F.args_list_append_2 _ _) (PySem.list_append l a.toArray n u (by rw[qA9];omega)) ⟨e,?_⟩;refine⟨.non,_,I.lset (its':=a++[u]) b e (by simp) (r.append (.cons g .nil)) ?_,rfl,q⟩;rw[qB8,qF9];omega
def Df:V->List V->Hp->VK->Prop:=λx d H Q=>∃l b a c,x=.ref l/\d=[.ref b]/\H l=Z9 (.lst a)/\H b=Z9 (.lst c)/\a.length+c.length<=y8/\Q .non (ZE H l (.lst (a++c)))
theorem De:Ql X "list.extend" Df:=by
 intro i s Z H x A v J Q I j m h;obtain⟨l,b,G,B,rfl,rfl,g,w,C,q⟩:=h;cases j;obtain⟨u,rfl,t⟩:=m.one;cases t;obtain⟨z,c,n,r,D,e⟩:=I.lstM g;obtain⟨E,a,y,o,k,p⟩:=I.lstM w;have f:c.toArray.size+a.toArray.size<=sizeLine:=by rw[qA9,qA9];omega
 have d:¬(!c.toArray.isEmpty&&Builtin.List.listTooLong (c.toArray.size+a.toArray.size))=Z7:=by rw[Ke f,qT2];exact qB1
 refine gR F.slot_list_extend ⟨_,e,rfl⟩ F.entry_list_extend (F.args_list_extend_2 _ _)
  (AutoSeq1.list_extend_list_list_0 l c.toArray n b a.toArray y d (by rw[qA9];omega) (by omega)) ⟨e,p,?_⟩
 refine⟨.non,_,I.lset (its':=c++a) g e (by simp) (r.append o) ?_,rfl,q⟩;rw[qB8];omega
def NS:R2:=λx y H Q=>∃l b a c,x=.ref l/\y=.ref b/\H l=Z9 (.lst a)/\H b=Z9 (.lst c)/\a.length+c.length<=y8/\∀p,H p=Z8->Q (.ref p) (ZE H p (.lst (a++c)))
theorem Dd:Y6 X (jM .Add) NS:=by
 intro d s Z H x y v u Q I g f h;obtain⟨l,b,C,t,rfl,rfl,m,p,w,q⟩:=h;cases g;cases f;obtain⟨z,c,n,r,A,e⟩:=I.lstM m;obtain⟨B,a,D,j,i,o⟩:=I.lstM p;refine PySem.P.add_list e o ?_ (by rw[qA9,qA9];omega);have k:c.toArray++a.toArray=(c++a).toArray:=by simp
 rw[k];exact⟨.ref _,_,I.lnew (t':=s.toks) (r.append j) (by rw[qB8];omega),rfl,q _ I.fresh⟩
end
end L2
namespace Att
open PySem PySem.W PySem.Calls PyProof.Rows
theorem Dc:∀(ns:yA) (c:yB),WellAll P h c (ns.map WData.int)->vE c ns:=by
 intro ns
 induction ns with
 |nil =>
  intro c w;rw[qH5]at w;cases w;exact .nil
 |cons n ns d =>
  intro c w;rw[qB5]at w;cases w with
  |cons a b =>
   cases a;exact .cons _ _ (d _ b)
theorem Da{l:OpenLaw}(y:l.most=Z9 n){c:yB}
  (b:l.row.toRowW.claim.pre args=Z7) (k:WellAll P h c args) :
  ∃a m ns,c=[Value.ref a]/\args=[WData.list (ns.map WData.int)]/\h.get? a=Z9 { cls:=.type "list",data:=.seq m.toArray }/\vE m ns/\ns.length<=n:=by
 have j:WShape.hasAll [] args [.list .int]=Z7:=(pre_splitW b).1;have o:l.pre.holds [] { args:=args }=Z7:=(pre_splitW b).2;obtain⟨d,r,rfl,s,t⟩:=hasAllW_cons j;obtain rfl:=hasAllW_nil t;obtain⟨z,rfl,v⟩:=hasW_list s;obtain⟨ns,rfl⟩:=items_int v;have f:ns.length<=n:=by
  unfold OpenLaw.pre at o;have g:(WTm.not (.lt (.lit (.int (n:Int))) (.len (.arg 0)))).holds [] { args:=[.list (ns.map .int)] }=Z7:=by have g:=(holds_andW o).1;rw[y]at g;exact g
  have i:=condW_of g (w_not (w_lt w_lit (w_len_list (w_arg rfl))));rw[qA0]at i;refine qO2 λq=>?_;have w:(n:Int)<((ns.length:Nat):Int):=by omega
  first
   |(rw[decide_eq_true w]at i;exact absurd i (by decide))
   |(simp at i;omega)
 cases k with
 |cons p x =>
  cases x;cases p with
  |list u e=>exact⟨_,_,ns,rfl,rfl,u,Dc ns _ e,f⟩
theorem C9(l:OpenLaw)(args:List WData):l.row.toRowW.claim.post args (.bool Z7) args=Z7 :=
 postW_of (r:=l.row.toRowW) (X:=(Z7 == Z7))
  (show WShape.has [] (.bool Z7) .bool=Z7 by first|rfl|decide|simp[WShape.has,WShape.arms,WShape.armsAll])
  (show(WTm.eq .res (.lit (.bool Z7))).value [] { args:=args,res:=Z9 (.bool Z7),after:=args }=Z9 (.bool (Z7 == Z7))from w_eq_bool (w_res rfl) w_lit) rfl
theorem attach_call{l:OpenLaw}{e:yH}{H:(Str->yF)->jA->Prop}
  (T:l.most=Z9 n) (x:d.params.defaults=[])
  (call:∀(w:jD) (c b:yQ) (s v:Str->yF) (j:yR) (o:Obj) (z t h:yT) (a:yR) (i:yB) (ns:yA),
   Ground q e [] H w c s v b.heap->D w b.heap ->
   b.heap.get? j=Z9 o->o.data=.func (docDef d.name d.params d.body d.scope z t h)->b.heap.CodeRec t d.name->s d.name=Z9 (.ref j) ->
   b.heap.get? a=Z9 { cls:=.type "list",data:=.seq i.toArray }->vE i ns->ns.length<=n->b.gens=#[] ->
   vZ (yX l.prog w) gU (.call (.ref j) ⟨[.ref a],[]⟩) (λr s'=>r=.ok (.ret (.bool Z7))/\OldK b.heap s'.heap/\s'.os=b.os/\fT s'.gens) b) :
  WalkO q e H D l.row.toRowW d [] (λf i=>PySem.call f i):=by intro w c b s v G Y j o z t h I kV O P u B y L F E U m C R A J;obtain rfl:I=.none:=Dflts.none B x;obtain rfl:kV=.none:=Dflts.noKw B;obtain⟨a,i,ns,rfl,rfl,k,g,p⟩:=Da T m A;refine enter_call (wR (call w c b s v j o z t h a i ns G Y O (fd_plain P) u y k g p L) λr s' S=>?_);obtain⟨rfl,K,Q,M⟩:=S;exact⟨.inl ⟨.bool Z7,.bool Z7,[],rfl,λ_=>rfl,.bool Z7,C9 l _,λ_=>⟨List.Pairwise.nil,λ_ N=>(nomatch N)⟩⟩,K,Q,M⟩
end Att
namespace L2
open PySem PySem.Spec PyProof.Rows
theorem Kc:∀{a:yB}{ns:yA},vE a ns->ZM (ns.map V.int) a
 |_,_,.nil=>.nil
 |_,_,.cons n t h=>.cons ⟨t,rfl⟩ (Kc h)
def U3(H:Hp):Prop:=∀b,H b=Z8∨∃o a,H b=Z9 (.frz o (.lst a))
theorem C8{K:yS}{G R:Str->yF}{j:yB}{ns:yA}
  (KX:K.In s₁.heap) (C:s₁.heap.Ns jQ G) (f:s₁.heap.Ns mN R) (Q:∀x:Str,x ≠ "__name__"->R x=jH x) (t:s₁.heap.NoLimit) (hg:s₁.gens=#[])
  (J:s₁.heap.get? a=Z9 { cls:=.type "list",data:=.seq j.toArray }) (Y:vE j ns) (X:ns.length<=y8) (hr:Zg k gU)
  (F:∀base:jA,K.In base->base.Ns jQ G->Yp P w K G base CX k M T [x] sp) (l:∀(s:yQ) (u:yT),mV s T ⟨[u],[]⟩ [(x,u)])
  (L:∀H:Hp,U3 H->YT K H a (ns.map V.int)->sp [.ref a] H (λv _=>v=.bl Z7) λ_ _ _=>False)
  (O:∀H e s',CX [] H s₁ (λ_ _ _=>False) e s'->False) :
  vZ (yX P w) gU (.call (.ref M) ⟨[.ref a],[]⟩) (λr s'=>r=.ok (.ret (.bool Z7))/\OldK s₁.heap s'.heap/\s'.os=s₁.os/\fT s'.gens) s₁:=by
 have W:=Kc Y;have A:=Y.length;have i:∀H:Hp,U3 H->YT K H a (ns.map V.int)->Yq P w H s₁.heap->(∀b,H b≠Z8->b=a)->(H a≠Z8->K.lookup a=Z8) ->
   vZ (yX P w) gU (.call (.ref M) ⟨[.ref a],[]⟩) (λr s'=>r=.ok (.ret (.bool Z7))/\OldK s₁.heap s'.heap/\s'.os=s₁.os/\fT s'.gens) s₁:=by
  intro H U hS I Z hK;have c:∀{b:yR}{o:Obj},s₁.heap.get? b=Z9 o->H b=Z8->(Xx s₁.heap H).get? b=Z9 o:=λe n=>Fy e n;have S:∀{b:yR}{o:Obj}{E:Array DictEntry}{ep:Nat},s₁.heap.get? b=Z9 o->o.data=.dict E ep->H b=Z8:=λ{b o E ep} e d=>by
   cases q:H b with
   |none=>rfl
   |some u =>
    have N:b=a:=Z b (by rw[q];simp);subst N;rw[J]at e;cases e;have d':Data.seq j.toArray _=Data.dict E ep:=d;cases d'
  have g:∀{b:yR}{m:Str->yF},s₁.heap.Ns b m->(Xx s₁.heap H).Ns b m:=λ{b m} ⟨o,E,ep,e,d,r⟩=>⟨o,E,ep,c e (S e d),d,r⟩
  have y:K.In (Xx s₁.heap H):=λb o e=>c (KX b o e) (by
   cases q:H b with
   |none=>rfl
   |some u =>
    have N:b=a:=Z b (by rw[q];simp);subst N;rw[hK (by rw[q];simp)]at e;cases e)
  have hM:Mod K G (Xx s₁.heap H):=⟨y,g C,⟨R,g f,Q⟩,let ⟨mc,h1,h2⟩:=t;⟨mc,g h1,h2⟩⟩
  have e0:U5 P w K G (Xx s₁.heap H) gU [] s₁ H:=⟨rfl,hM,λb o e=>Fx e,qR4 (Fz _ _),trivial,λb f=>absurd (show b∈([]:yC)from f) (by simp),I,.of_eq hg⟩
  refine wR ((F _ y (g C)).run gU [] s₁ H ⟨[.ref a],[]⟩ [.ref a] [.ref a] _ _ hr e0 (l s₁ (.ref a)) (.cons rfl .nil) (L H U hS)) λr s' h=>?_;cases r with
  |error e=>exact(O H e s' h).elim
  |ok fl =>
   cases fl with
   |next=>exact False.elim h
   |brk=>exact False.elim h
   |cont=>exact False.elim h
   |ret u =>
    obtain⟨v,H',os,p,un,B,r',q⟩:=h;have q':v=.bl Z7:=q;subst q';obtain rfl:u=Value.bool Z7:=r';refine⟨rfl,OldK.of_keep λb o e=>?_,os,p⟩;cases q:H b with
    |none=>exact un.keep b o e q (by intro z;exact absurd (show b∈([]:yC)from z) (by simp)) (by simp)
    |some u =>
     rcases U b with z|⟨ob,xs,z⟩
     ·rw[q]at z;cases z
     ·have z2:=un.frzs b ob _ z;obtain⟨e1,_⟩:=I b _ z;obtain⟨e2,_⟩:=B b _ z2;rw[e]at e1;cases e1;exact e2
 cases hk:K.lookup a with
 |some o =>
  have e:=KX a o hk;rw[J]at e;cases e;refine i (λ_=>Z8) (λ_=>.inl rfl) (.inr ⟨_,j.toArray,_,hk,rfl,rfl,rfl,by rw[qA9,A];exact X,by simpa using W⟩) (λb u z=>by have D:(Z8:Option HO)=Z9 u:=z;cases D) (λb z=>absurd rfl z) λz=>absurd rfl z
 |none =>
  refine i (λb=>if b=a then Z9 (.frz { cls:=.type "list",data:=.seq j.toArray } (.lst (ns.map V.int)))else Z8) (λb=>?_) (.inl (.inr ⟨{ cls:=.type "list",data:=.seq j.toArray },if_pos rfl⟩)) (λb u z=>?_) (λb z=>?_) λ_=>hk
  ·by_cases f:b=a
   ·exact .inr ⟨_,_,if_pos f⟩
   ·exact .inl (if_neg f)
  ·by_cases f:b=a
   ·have D:=(if_pos f).symm.trans z;cases D;subst f;exact⟨J,by rw[qA0];exact X,j,_,W,J⟩
   ·have D:=(if_neg f).symm.trans z;cases D
  ·by_cases f:b=a
   ·exact f
   ·exact absurd (if_neg f) z
theorem walk_of{l:W.OpenLaw}{g:yH}{T:(Str->yF)->jA->Prop}{K:Params->yS}{CX:jD->VN}{sp:jD->Sp}
  (U:l.most=Z9 n) (y:n<=y8) (A:d.params.defaults=[]) (P:Zg k gU)
  (L:∀(w:jD) (h:jA),E w h->(K w.params).In h)
  (F:∀(w:jD) (i:Str->yF) (p:yR) (h:jA),(K w.params).In h->h.Ns jQ i->i d.name=Z9 (.ref p) ->
   ∃t:vC,(∀(s:yQ) (u:yT),mV s t ⟨[u],[]⟩ [(x,u)]) /\
    ∀base:jA,(K w.params).In base->base.Ns jQ i->Yp l.prog w (K w.params) i base (CX w) k p t [x] (sp w))
  (r:∀(w:jD) (H:Hp) (a:yR) (ns:yA),ns.length<=n->U3 H->YT (K w.params) H a (ns.map V.int)->sp w [.ref a] H (λv _=>v=.bl Z7) λ_ _ _=>False)
  (z:∀(w:jD) (H:Hp) (s:yQ) (e:yT) (s':yQ),CX w [] H s (λ_ _ _=>False) e s'->False) :
  W.WalkO q g T E l.row.toRowW d [] (λf D=>PySem.call f D):=by refine Att.attach_call U A λw C m i Z p o pm cd R a D ns G Y X hd J B j c b N=>?_;have I:=L w _ Y;obtain⟨t,S,O⟩:=F w i p _ I G.T.g B;exact C8 I G.T.g G.T.b G.T.builtins G.T.nolimit N j c (qD4 b y) P O S (λH M Q=>r w H a ns b M Q) λH e s'=>z w H m e s'
noncomputable def U2(s:vW):Arguments:=match s with
 |.FunctionDef _ a _ _ _ _ _ _ _ _=>a
 |_=>{ posonlyargs:=[],args:=[],vararg:=Z8,kwonlyargs:=[],kw_defaults:=[],kwarg:=Z8,defaults:=[] }
noncomputable def W5(s:vW):List Stmt:=match s with
 |.FunctionDef _ _ b _ _ _ _ _ _ _=>b
 |_=>[]
noncomputable def Yk(s:vW):Scope:=match s with
 |.FunctionDef _ _ _ _ _ _ a _ _ _=>a
 |_=>{ kind:=.function,names:=[],isGenerator:=Z5,isCoroutine:=Z5 }
noncomputable abbrev Vn:VN:=λ_ _ _ _ _ _=>False
noncomputable abbrev E0:XK:=λ_ _ _=>False
theorem C7:N3 Vn X E0:=λ_ _ _ _ _ _ _ h=>h.elim
structure VL(K:yS)(x qual:Str)(st:vW)(f:yR)(fd:vC):Prop where
 ex:∃(oc:yT) (od:Option yR) (kV doc pm:yT) (an:Option yR) (cdv ct:yT) (osl:Array (yF)),
  fd=fZ x qual (U2 st) (W5 st) (Yk st) .none kV doc pm an cdv ct/\K.lookup f=Z9 ⟨oc,od,.func fd,osl⟩/\mW K cdv qual=Z7
 kp:lH K (.ref f)=Z7
section
variable {P:yZ}{w:jD}{K:yS}{mg:Str->yF}{base:jA}
theorem VL.ok{st:vW}(F:VL K x b st f j)(S:Qo N ps (Yk st))(len:∀d H Q E,sp d H Q E->d.length=ps.length)
  (e:∀(c:yT) (A:jC) (a:List Env) (s:yQ) (H:Hp) (d:List V) (Q:VK) (E:XK),Zg k (A.deeper (lI b (Yk st) s.heap.objs.size f c))->sp d H Q E ->
   ∃t,XW (WO Vn P w K mg base N b (Yk st) f c A a s H E).nox (W5 st) t/\t { nx:=λ_ p=>Q .non p,rt:=Q } (start N d) H):Yp P w K mg base Vn (k+1) f j ps sp:=by obtain⟨r,u,kV,o,y,z,c,v,l,rfl,m,i⟩:=F.ex;refine DT m i S len λA a s H d Q E n g=>?_;obtain⟨t,h,q⟩:=e c A a s H d Q E n g;exact⟨t,h.nox,q⟩
theorem VL.binds{st:vW}(F:VL K x a st f j)
  (h:∀(kV c g:yT) (i:Option yR) (b d:yT) (e:yB),e.length=ps.length->bindArgs (fZ x a (U2 st) (W5 st) (Yk st) .none kV c g i b d) ⟨e,[]⟩=pure (ps.zip e)):U4 K j ps []:=by obtain⟨m,n,kV,c,g,i,b,d,l,rfl,o,k⟩:=F.ex;exact .all (h kV c g i b d)
theorem C6{st:vW}{e:Array (yF)}{kV d i b g:yT}(l:K.lookup f=Z9 ⟨m,j,.func (fZ x a (U2 st) (W5 st) (Yk st) .none kV d i h b g),e⟩)
  (c:mW K b a=Z7) (k:lH K (.ref f)=Z7):VL K x a st f (fZ x a (U2 st) (W5 st) (Yk st) .none kV d i h b g):=⟨⟨m,j,kV,d,i,h,b,g,e,rfl,l,c⟩,k⟩
end
theorem NR(a:Zg k A):A.units+1<cLine:=qJ3 (Nat.add_le_add_left (by decide:1<=64) _) a.units
theorem Kb(h:n<=1000):n<sizeLine:=qJ3 h (by decide)
section
variable {X:Cx}
theorem pv(i:Nat){pos:Pos}(d:X.N[i]?=Z9 x:=by rfl)(c:RN X.env.scope x:=by first|exact Or.inl rfl|exact Or.inr (Or.inl rfl)| exact Or.inr (Or.inr rfl))(b:Wm x:=by decide)
  (a:(x == ("__classdict__":Str))=Z5:=by decide):PE X (.Name x pos) (Ub i):=KJ d c b a
end
def Same(H a:Hp):Prop:=∀b o,H b=Z9 o->a b=Z9 o
theorem Same.refl(H:Hp):Same H H:=λ_ _ h=>h
section
variable {κ:Type} [DecidableEq κ]
noncomputable def YE(kvs:List (κ×V))(k:κ):Option V:=(kvs.find? λa=>decide (a.1=k)).map (·.2)
noncomputable def Y5(kvs:List (κ×V))(k:κ)(v:V):List (κ×V) :=
 if(kvs.any λa=>decide (a.1=k))=Z7 then kvs.map (λa=>if a.1=k then(a.1,v)else a)else kvs++[(k,v)]
theorem Qk{k:κ}(e:p.1=k):YE (p::r) k=Z9 p.2:=by simp[YE,qH9,e]
theorem Qj{k:κ}(e:¬p.1=k):YE (p::r) k=YE r k:=by simp[YE,qH9,e]
theorem Ka(k:κ):∀kvs:List (κ×V),(kvs.any λa=>decide (a.1=k))=(YE kvs k).isSome
 |[]=>rfl
 |p::r=>by
  rw[qH6];by_cases e:p.1=k
  ·simp only[Qk e,decide_eq_true e,Bool.true_or,qQ6]
  ·rw[Qj e,decide_eq_false e,Bool.false_or];exact Ka k r
theorem NQ(kvs:List (κ×V))(k:κ)(v:V):(Y5 kvs k v).length<=kvs.length+1:=by
 unfold Y5;split
 ·rw[qA0];omega
 ·rw[qB8,qC7,qG4];omega
theorem XH.isSome_eq(r:XH o u):o.isSome=u.isSome:=by
 cases o with
 |none=>cases u with
  |none=>rfl
  |some _=>exact(show False from r).elim
 |some _=>cases u with
  |none=>exact(show False from r).elim
  |some _=>rfl
theorem KV.val(r:KV kvs d)(k:κ):XH (YE kvs k) (lZ d k):=by
 unfold KV at r
 induction r with
 |nil=>exact True.intro
 |@cons p q j c h t i =>
  obtain⟨f,g⟩:=h;by_cases e:p.1=k
  ·have a:q.1=k:=f.symm.trans e;have b:lZ (q::c) k=Z9 q.2:=by simp[lZ,qH9,a]
   rw[Qk e,b];exact g
  ·have a:¬q.1=k:=λz=>e (f.trans z);have b:lZ (q::c) k=lZ c k:=by simp[lZ,qH9,a]
   rw[Qj e,b];exact i
theorem KV.any(r:KV kvs b)(k:κ):(kvs.any λa=>decide (a.1=k))=b.any λa=>decide (a.1=k):=by
 unfold KV at r
 induction r with
 |nil=>rfl
 |cons h t c=>rw[qH6,qH6,c,h.1]
theorem KV.repl(r:KV kvs c)(k:κ)(d:ZI y u):
  KV (kvs.map λa=>if a.1=k then(a.1,y)else a) (c.map λa=>if a.1=k then(a.1,u)else a):=by
 unfold KV at r ⊢
 induction r with
 |nil=>exact .nil
 |@cons p q i j h t g =>
  rw[qB5,qB5];refine .cons ?_ g;obtain⟨b,f⟩:=h;by_cases e:p.1=k
  ·rw[if_pos e,if_pos (b.symm.trans e)];exact⟨b,d⟩
  ·rw[if_neg e,if_neg (λz=>e (b.trans z))];exact⟨b,f⟩
theorem KV.put(r:KV kvs a)(k:κ)(b:ZI y u):KV (Y5 kvs k y) (stored a k u):=by
 unfold Y5 stored;rw[r.any k];by_cases e:(a.any λc=>decide (c.1=k))=Z7
 ·rw[if_pos e,if_pos e];exact r.repl k b
 ·rw[if_neg e,if_neg e];exact Paired.snoc r ⟨rfl,b⟩
theorem KV.length{a:List (κ×yT)}(r:KV kvs a):kvs.length=a.length:=Paired.length r
end
theorem SF(r:ZI (kV k) u):(WV P w).is k u=Z7:=by
 cases k with
 |inl i=>obtain⟨t,e⟩:=(show ∃t,u=Value.int i t from r);subst e;exact FD P w i t
 |inr x=>obtain⟨t,e⟩:=(show ∃t,u=Value.str x t from r);subst e;exact FC P w x t
theorem J9:∀{ks:List Zm}{a:yB},ZM (ks.map kV) a->ItemsAre (WV P w) ks a
 |[],_,r=>by rw[qH5]at r;cases r;exact .nil
 |k::ks,_,r=>by
  rw[qB5]at r;cases r with
  |cons h t=>exact .cons (SF h) (J9 t)
noncomputable abbrev KT(H:Hp):List (List Zm×V)->List (List Zm×yR×yT)->Prop:=dI λp q=>p.1=q.1/\H q.2.1=Z9 (.tup (p.1.map kV))/\ZI p.2 q.2.2
theorem KT.val(r:KT H kvs xs)(k:List Zm):XH (YE kvs k) ((dO xs k).map (·.2)):=by
 induction r with
 |nil=>exact True.intro
 |@cons p q i c h t g =>
  obtain⟨d,_,f⟩:=h;by_cases e:p.1=k
  ·have a:q.1=k:=d.symm.trans e;have b:dO (q::c) k=Z9 q.2:=by simp[dO,qH9,a]
   rw[Qk e,b];exact f
  ·have a:¬q.1=k:=λz=>e (d.trans z);have b:dO (q::c) k=dO c k:=by simp[dO,qH9,a]
   rw[Qj e,b];exact g
theorem KT.repl(r:KT H kvs xs)(k:List Zm)(d:ZI y u):
  KT H (kvs.map λb=>if b.1=k then(b.1,y)else b) (xs.map (putAt k u)):=by
 induction r with
 |nil=>exact .nil
 |@cons p q j i h t f =>
  rw[qB5,qB5];refine .cons ?_ f;obtain⟨a,c,g⟩:=h;unfold putAt;by_cases e:p.1=k
  ·rw[if_pos e,if_pos (a.symm.trans e)];exact⟨a,c,d⟩
  ·rw[if_neg e,if_neg (λz=>e (a.trans z))];exact⟨a,c,g⟩
theorem KT.put(r:KT H kvs xs)(k:List Zm)(c:H b=Z9 (.tup (k.map kV)))(a:ZI y u):
  KT H (Y5 kvs k y) (storedH xs k b u):=by
 have e:(kvs.any λd=>decide (d.1=k))=(dO xs k).isSome:=by rw[Ka,(r.val k).isSome_eq,qN3]
 unfold Y5 storedH;rw[e];by_cases q:(dO xs k).isSome=Z7
 ·rw[if_pos q,if_pos q];exact r.repl k a
 ·rw[if_neg q,if_neg q];exact Paired.snoc r ⟨rfl,c,a⟩
theorem KT.keeps(r:KT H kvs xs)(ht:∀b ys,H b=Z9 (.tup ys)->a b=Z9 (.tup ys)):KT a kvs xs :=
 Paired.mapP r λ_ _ z=>⟨z.1,ht _ _ z.2.1,z.2.2⟩
section
variable {P:yZ}{w:jD}{H:Hp}{h:jA}{a:yR}
theorem J8(ok:Yq P w H h)(e:Rd H a u):XX P w H h a u:=e.ok ok
theorem RA(ok:Yq P w H h)(e:Rd H a (.dK kvs)):kvs.length<=y8/\(a == vS)=Z5/\∃vs,KV kvs vs/\h.DictOf (WV P w) a vs :=
 show XX P w H h a (.dK kvs)from J8 ok e
theorem NP(ok:Yq P w H h)(e:H a=Z9 (.dK kvs)):kvs.length<=y8/\(a == vS)=Z5/\∃vs,KV kvs vs/\h.DictOf (WV P w) a vs:=RA ok (.inl e)
theorem Rz(ok:Yq P w H h)(e:H a=Z9 (.tup (ks.map kV))):(gA (WV P w)).is h ks a:=by
 obtain⟨_,b,r,o,f,c,n,d⟩:=(show XX P w H h a (.tup (ks.map kV))from ok a _ e)
 exact⟨o,b.toArray,n,f,c,d,by simpa using J9 r⟩
theorem Ry(ok:Yq P w H h)(e:Rd H a (.dT kvs)):kvs.length<=y8/\(a == vS)=Z5 /\
  ∃xs,KT H kvs xs/\h.DictOfH (gA (WV P w)) a xs:=by
 obtain⟨z,y,xs,r,o,s,d,f,i,n,j,k⟩:=(show XX P w H h a (.dT kvs)from J8 ok e)
 refine⟨z,y,xs,r,o,s,d,f,i,n,j,λx b=>?_,k⟩;have all:∀{l:List (List Zm×V)}{m:List (List Zm×yR×yT)},KT H l m->∀x∈m,(gA (WV P w)).is h x.1 x.2.1:=by
  intro l m q
  induction q with
  |nil=>intro x b;exact nomatch b
  |@cons p q v u c t g =>
   intro x b;rcases qA8.mp b with e|b
   ·subst e;exact Rz ok (by rw[<- c.1];exact c.2.1)
   ·exact g x b
 exact all r x b
theorem C5(ok:Yq P w H h)(e:H a=Z9 (.dT kvs)):kvs.length<=y8/\(a == vS)=Z5 /\
  ∃xs,KT H kvs xs/\h.DictOfH (gA (WV P w)) a xs:=Ry ok (.inl e)
end
def Yy(H:Hp)(a:yR)(y:V)(r:Option V):Prop :=
 (∃c k,Rd H a (.dK c)/\y=kV k/\r=YE c k)∨∃c k b,Rd H a (.dT c)/\y=.ref b/\H b=Z9 (.tup (k.map kV))/\r=YE c k
def Xu(H:Hp)(a:yR)(y v:V)(d:Hp):Prop :=
 (∃c k,H a=Z9 (.dK c)/\y=kV k/\c.length<y8/\d=ZE H a (.dK (Y5 c k v))) ∨
 ∃c k b,H a=Z9 (.dT c)/\y=.ref b/\H b=Z9 (.tup (k.map kV))/\c.length<y8/\d=ZE H a (.dT (Y5 c k v))
theorem Yy.k{k:Zm}(e:H a=Z9 (.dK kvs)):Yy H a (kV k) (YE kvs k):=.inl ⟨kvs,k,.inl e,rfl,rfl⟩
theorem Yy.t{k:List Zm}(e:H a=Z9 (.dT kvs))(c:H b=Z9 (.tup (k.map kV))):Yy H a (.ref b) (YE kvs k):=.inr ⟨kvs,k,b,.inl e,rfl,c,rfl⟩
theorem Xu.k{k:Zm}(e:H a=Z9 (.dK kvs))(b:kvs.length<y8):Xu H a (kV k) v (ZE H a (.dK (Y5 kvs k v))):=.inl ⟨kvs,k,e,rfl,b,rfl⟩
theorem Xu.t{k:List Zm}(e:H a=Z9 (.dT kvs))(c:H b=Z9 (.tup (k.map kV)))(d:kvs.length<y8):
  Xu H a (.ref b) v (ZE H a (.dT (Y5 kvs k v))):=.inr ⟨kvs,k,b,e,rfl,c,d,rfl⟩
section
variable {X:Cx}{pins:yD}{Z:St}{H:Hp}{s:yQ}{a:yR}{y v:V}{u r:yT}{o:Option V}{A:jC}{E:yL}
theorem ZQ.big(I:ZQ X pins Z H s):vS<s.heap.objs.size:=by have h:jQ<s.heap.objs.size:=(I.mod.glob.keeps I.bk).lt;exact qR5 (by decide) h
theorem C3{Q:yL}(x:A.units+1<j5)(I:ZQ X pins Z H s)(g:Yy H a y (Z9 v))(t:ZI y u)(h:∀f s',ZQ X pins Z H s'->ZI v f->Q f s'):
  yV (yX X.prog X.w) A (fU (.ref a) u) Q E s:=by
 rcases g with⟨j,k,e,q,l⟩| ⟨j,k,b,e,q,D,l⟩
 ·subst q;obtain⟨z,C,w,c,n⟩:=RA I.hok e;obtain⟨f,m,d⟩:=XH.some_of (v:=v) (o:=lZ w k) (by rw[l];exact c.val k);exact wpAny_getItem_of (SF t) n.mapOf m (h f _ (I.tok _) d)
 ·subst q;cases (show u=Value.ref b from t);obtain⟨z,C,B,c,n⟩:=Ry I.hok e;obtain⟨f,m,d⟩:=XH.some_of (v:=v) (o:=(dO B k).map (·.2)) (by rw[l];exact c.val k);obtain⟨p,F,i⟩:=qA5.mp m;refine wpAny_getItem_heap (wM x) (Rz I.hok D) n F ?_;rw[i];exact h f _ (I.tok _) d
theorem NO{Q:yL}(n:A.units+1<j5)(I:ZQ X pins Z H s)(g:Yy H a y o)(m:ZI y u)(h:∀s',ZQ X pins Z H s'->Q (.bool o.isSome) s'):
  yV (yX X.prog X.w) A (y7 .In u (.ref a)) Q E s:=by
 rcases g with⟨d,k,e,j,l⟩| ⟨d,k,b,e,j,p,l⟩
 ·subst j;obtain⟨z,i,t,c,f⟩:=RA I.hok e;refine wpAny_in_of (SF m) i f.mapOf ?_;rw[<- (c.val k).isSome_eq,<- l];exact h _ (I.tok _)
 ·subst j;cases (show u=Value.ref b from m);obtain⟨z,i,w,c,f⟩:=Ry I.hok e;refine wpAny_in_heap (wM n) (Rz I.hok p) i f ?_;have q:=(c.val k).isSome_eq;rw[qN3]at q;rw[<- q,<- l];exact h _ (I.tok _)
theorem C2{Q:yL}(n:A.units+1<j5)(I:ZQ X pins Z H s)(g:Yy H a y o)(m:ZI y u)(h:∀s',ZQ X pins Z H s'->Q (.bool (!o.isSome)) s'):
  yV (yX X.prog X.w) A (y7 .NotIn u (.ref a)) Q E s:=by
 rcases g with⟨d,k,e,j,l⟩| ⟨d,k,b,e,j,p,l⟩
 ·subst j;obtain⟨z,i,t,c,f⟩:=RA I.hok e;refine wpAny_notIn_of (SF m) i f.mapOf ?_;rw[<- (c.val k).isSome_eq,<- l];exact h _ (I.tok _)
 ·subst j;cases (show u=Value.ref b from m);obtain⟨z,i,w,c,f⟩:=Ry I.hok e;refine wpAny_notIn_heap (wM n) (Rz I.hok p) i f ?_;have q:=(c.val k).isSome_eq;rw[qN3]at q;rw[<- q,<- l];exact h _ (I.tok _)
theorem NN(I:ZQ X pins Z H s)(g:RO (H a))(hs:qE5 a s.heap h')(he:∃q,h'.get? a=Z9 q)(c:XX X.prog X.w (ZE H a d) h' a d):
  ZQ X pins Z (ZE H a d) { s with heap:=h',toks:=t' } :=
 I.write (x:=a) (e:=a) g (.inl rfl) (λb q f z=>(hs.2 b f).trans z) he c
theorem J7(z:kvs.length<=y8)(e:(a == vS)=Z5)(b:KV kvs c)(f:h'.DictOf (WV P w) a c):
  XX P w d h' a (.dK kvs):=⟨z,e,c,b,f⟩
theorem NM(O:A.units+1<j5)(I:ZQ X pins Z H s)(g:Xu H a y v J)(D:ZI y u)(F:ZI v r)(h:∀s',ZQ X pins Z J s'->Q () s'):
  yV (yX X.prog X.w) A (dS (.ref a) u r) Q E s:=by
 rcases g with⟨d,k,e,B,l,n⟩| ⟨d,k,b,e,B,G,l,n⟩
 ·subst B n;obtain⟨z,x,N,f,t⟩:=NP I.hok e;have m:N.length<=sizeLine:=by rw[<- f.length];exact z
  have w:(Y5 d k v).length<=sizeLine:=by have:=NQ d k v;omega
  refine wpAny_setItem_pairs (hsz:=m) (SF D) t λC i p=>h _ ?_;have M:∃q,C.get? a=Z9 q:=let ⟨q,_,_,j,_⟩:=i;⟨q,j⟩
  exact NN I (by rw[e];exact True.intro) p M (J7 w x (f.put k F) i)
 ·subst B n;cases (show u=Value.ref b from D);obtain⟨z,x,T,f,t⟩:=C5 I.hok e;have m:T.length<=sizeLine:=by rw[<- Paired.length f];exact z
  have w:(Y5 d k v).length<=sizeLine:=by have:=NQ d k v;omega
  refine wpAny_setItem_heap (hsz:=m) (wM O) (Rz I.hok G) t λC i p=>h _ ?_;obtain⟨q,W,L,j,P,U,R,_,S⟩:=i;refine NN I (by rw[e];exact True.intro) p ⟨q,j⟩ ⟨w,x,_,(f.put k G F).keeps λc Y K=>?_,q,W,L,j,P,U,R,S⟩;rw[YX (FA K e (λz=>nomatch z))];exact K
end
theorem C1{Z:St}(I:ZQ X c Z H s)(g:Yy H a y o):s.TypeIs (.ref a) "dict":=by
 rcases g with⟨d,k,e,_,_⟩| ⟨d,k,b,e,_,_,_⟩
 ·obtain⟨_,_,i,_,f⟩:=RA I.hok e;exact f.typeIs
 ·obtain⟨_,_,h,_,f⟩:=Ry I.hok e;exact f.typeIs
theorem J4(h:jA)(a:vS<h.objs.size):XX P w H (h.push { cls:=.type "dict",data:=.dict #[] }) h.objs.size (.dK []) :=
 ⟨qE1 _,beq_eq_false_iff_ne.mpr (Ne.symm (qC3 a)),[],.nil,Heap.DictOf.new h⟩
def C0:TE:=λ_ H Q=>∀p,H p=Z8->Q (.ref p) (ZE H p (.dK []))
section
variable {X:Cx}{pos:Pos}
theorem CZ:PE X (.Dict [] [] pos) C0:=λb s Z H Q I h =>
 wpAny_Dict_empty ⟨.ref s.heap.objs.size,_,I.laid (a:=s.heap.objs.size) (o:=.dK []) (t':=s.toks) (λ_ _ q=>qA1 _ q) (qA6 _) (J4 s.heap I.big),rfl,h _ (I.hok.fresh (qA6 _))⟩
end
def NL:List (TE×TE)->St->Hp->(List (V×V)->Hp->Prop)->Prop
 |[],_,H,Q=>Q [] H
 |(c,tv)::r,Z,H,Q=>c Z H λx e=>tv Z e λy d=>NL r Z d λb a=>Q ((x,y)::b) a
noncomputable abbrev VV:List (V×V)->List (yT×yT)->Prop:=dI λp q=>ZI p.1 q.1/\ZI p.2 q.2
def Qi(X:Cx)(pos:Pos)(c:List (Option y4))(a:yE)(d:List (TE×TE)):Prop :=
 ∀(b:yD) (s:yQ) (Z:St) (H:Hp) (Q:List (V×V)->Hp->Prop),ZQ X b Z H s->NL d Z H Q ->
  yV (yX X.prog X.w) X.A (evalPairs (pairTrees c a X.env pos)) (λg h=>∃f e,ZQ X b Z e h/\VV f g/\Q f e) X.xe s
theorem CY:Qi X pos [] [] []:=λa s Z H Q I h=>pairTrees_nil_walk ⟨[],H,I,.nil,h⟩
theorem CW(hk:PE X k tk)(t:PE X v e)(r:Qi X pos ks d b):
  Qi X pos (Z9 k::ks) (v::d) ((tk,e)::b):=λa s Z H Q I h =>
 pairTrees_cons_walk (Zv (hk a s Z H _ I h) λu o ⟨x,p,B,m,w⟩=>Zv (t a o Z p _ B w) λD g ⟨y,A,f,j,n⟩ =>
  Zv (r a g Z A _ f n) λE C ⟨q,l,z,c,i⟩=>⟨(x,y)::q,l,z,.cons ⟨m,j⟩ c,i⟩)
noncomputable def T7(kvs more:List (Zm×V)):List (Zm×V):=more.foldl (λacc a=>Y5 acc a.1 a.2) kvs
theorem KV.merge:∀{more:List (Zm×V)}{rs:List (Zm×yT)}{kvs:List (Zm×V)}{a:List (Zm×yT)},KV more rs->KV kvs a->KV (T7 kvs more) (merged a rs):=by
 intro more rs kvs a r;unfold KV at r
 induction r generalizing kvs a with
 |nil=>intro q;exact q
 |@cons p q d f h t c =>
  intro b;have e:KV (Y5 kvs p.1 p.2) (stored a q.1 q.2):=by have:=b.put p.1 h.2;rw[<- h.1];exact this
  exact c e
theorem JZ:∀(more kvs:List (Zm×V)),(T7 kvs more).length<=kvs.length+more.length
 |[],kvs=>by show kvs.length<=kvs.length+0;omega
 |p::r,kvs=>by have a:=JZ r (Y5 kvs p.1 p.2);have b:=NQ kvs p.1 p.2;show(T7 (Y5 kvs p.1 p.2) r).length<=_;rw[qC7];omega
theorem JY:∀{kvs:List (Zm×V)}{d:List (yT×yT)},VV (kvs.map λe=>(kV e.1,e.2)) d->∃rs,Carries (WV P w) d rs/\KV kvs rs
 |[],_,r=>by rw[qH5]at r;cases r;exact⟨[],True.intro,.nil⟩
 |p::kvs,_,r=>by
  rw[qB5]at r;cases r with
  |@cons a b g bs h t =>
   obtain⟨rs,c,q⟩:=JY (P:=P) (w:=w) t;obtain⟨b1,f⟩:=b;exact⟨(p.1,f)::rs,⟨SF h.1,rfl,c⟩,.cons ⟨rfl,h.2⟩ q⟩
def CV(b:List (TE×TE)):TE:=fun Z H Q=>∀p,H p=Z8->NL b Z (ZE H p (.dK [])) λe d=>d p=Z9 (.dK [])/\∃a:List (Zm×V),e=a.map (λc=>(kV c.1,c.2))/\a.length<=15/\Q (.ref p) (ZE d p (.dK (T7 [] a)))
theorem CU(h:Qi X pos b d i)(j:b.all (·.isSome)=Z7)(C:b.length=d.length)(r:b≠[])
  (l:b.length<=15):PE X (.Dict b d pos) (CV i):=by
 intro k s Z H Q I q;have J:=I.hok.fresh (qA6 s.heap.objs.size);have G:=I.laid (a:=s.heap.objs.size) (o:=.dK []) (h':=s.heap.push { cls:=.type "dict",data:=.dict #[] }) (t':=s.toks) (λ_ _ q=>qA1 _ q) (qA6 _) (J4 s.heap I.big);refine wpAny_Dict_walk (knd:=WV X.prog X.w) j C r l (Zv (h k _ Z _ _ G (q _ J)) λO K ⟨M,N,n,m,e,f,p,L,x⟩=>?_);subst p;obtain⟨rs,c,B⟩:=JY (P:=X.prog) (w:=X.w) m;obtain⟨z,F,D,E,A⟩:=NP n.hok e;cases E;refine⟨rs,c,A,λh' g y=>⟨.ref s.heap.objs.size,_,?_,rfl,x⟩⟩;have u:(T7 [] f).length<=sizeLine:=by have v:=JZ f [];rw[qG4]at v;rw[vP];omega
 have t:∃q,h'.get? s.heap.objs.size=Z9 q:=let ⟨q,_,_,hq,_⟩:=g;⟨q,hq⟩
 exact NN n (by rw[e];exact True.intro) y t (J7 u F (B.merge .nil) g)
def UD(st a:St):Prop:=st.length=a.length/\∀(i:Nat) v,st[i]?=Z9 (Z9 v)->a[i]?=Z9 (Z9 v)
noncomputable def Xf(X:Cx)(scope:vG)(N:yH)(cl:List (Str×yR))(s:yQ)(H:Hp)(C:yR)(ex:yC):Cx where
 prog:=X.prog
 w:=X.w
 K:=X.K
 mg:=X.mg
 base:=X.base
 A:=X.A
 N:=N
 s₀:=s
 H₀:=H
 env:=compEnvC scope cl C X.env
 outer:=X.stack
 stack:=X.stack
 ex:=ex
 fn:=λx=>decide ((x,NameKind.cell)∈scope.names)
 calm:=X.calm
 pn:=[]
 xe:=λ_ _=>False
noncomputable def Yx(env:Env):List (Str×jV)->List (Str×yR)->List (Str×yR)
 |[],acc=>acc
 |(n,k)::r,acc=>if k == .free then(match env.cells.lookup n with|some c=>Yx env r ((n,c)::acc)| none=>Yx env r acc)else Yx env r acc
theorem Qh{env:Env}:∀(ns:List (Str×jV)) (acc:List (Str×yR)),(∀x c,acc.lookup x=Z9 c->env.cells.lookup x=Z9 c)->∀x c,(Yx env ns acc).lookup x=Z9 c->env.cells.lookup x=Z9 c
 |[],_,h=>h
 |(n,k)::r,acc,h=>by
  unfold Yx;split
  ·split
   ·rename_i c b;refine Qh r _ λx d e=>?_;rw[qD1]at e;cases a:x == n with
    |true =>
     rw[a]at e;have:x=n:=by simpa using a
     subst this;cases e;exact b
    |false =>
     rw[a]at e;exact h x d e
   ·exact Qh r _ h
  ·exact Qh r _ h
theorem Rx:∀(ns:List (Str×jV)) (acc:List (Str×yR)) (x:Str),((∃c,acc.lookup x=Z9 c)∨((x,NameKind.free)∈ns/\∃c,env.cells.lookup x=Z9 c))->∃c,(Yx env ns acc).lookup x=Z9 c
 |[],acc,x,h=>by
  rcases h with h|⟨h,_⟩
  ·exact h
  ·cases h
 |(n,k)::r,acc,x,h=>by
  unfold Yx;split
  ·rename_i hk;split
   ·rename_i c e;refine Rx r _ x ?_;by_cases a:x=n
    ·subst a;exact .inl ⟨c,by rw[qD1];simp⟩
    ·have f:(x == n)=Z5:=by simpa using a
     rcases h with⟨d,h⟩| ⟨h,d⟩
     ·exact .inl ⟨d,by rw[qD1,f];exact h⟩
     ·rcases qA8.mp h with h|h
      ·cases h;exact absurd rfl a
      ·exact .inr ⟨h,d⟩
   ·rename_i e;refine Rx r _ x ?_;rcases h with h|⟨h,d,b⟩
    ·exact .inl h
    ·rcases qA8.mp h with h|h
     ·cases h;rw[e]at b;cases b
     ·exact .inr ⟨h,d,b⟩
  ·rename_i hk;refine Rx r _ x ?_;rcases h with h|⟨h,d⟩
   ·exact .inl h
   ·rcases qA8.mp h with h|h
    ·cases h;exact absurd rfl hk
    ·exact .inr ⟨h,d⟩
theorem CQ(h:env.cells.lookup x=Z9 c):cellOf env x=pure c:=by unfold cellOf;rw[h]
theorem NK:∀(ns:List (Str×jV)) (acc:List (Str×yR)),(∀x,(x,NameKind.free)∈ns->∃c,env.cells.lookup x=Z9 c) ->
  (forIn ns acc fun(x:Str×jV) (r:List (Str×yR))=>(match x with
   | (name,kind)=>if kind == NameKind.free then(do let c <- cellOf env name;pure (ForInStep.yield ((name,c)::r)))else pure (ForInStep.yield r):Sem (ForInStep (List (Str×yR)))))=pure (Yx env ns acc)
 |[],acc,_=>rfl
 |(n,k)::r,acc,h=>by
  rw[qS8];unfold Yx;have b:∀x,(x,NameKind.free)∈r->∃c,env.cells.lookup x=Z9 c:=λx e=>h x (qC2 _ e);by_cases hk:k=.free
  ·subst hk;obtain⟨c,a⟩:=h n (qD5 ..);dsimp only;rw[a,CQ a];simp only[beq_self_eq_true,if_true,pure_bind];exact NK r _ b
  ·have d:(k == NameKind.free)=Z5:=by simpa using hk
   simp only[d,qF8,if_false,pure_bind];exact NK r _ b
theorem JX(h:∀x,(x,NameKind.free)∈scope.names->∃c,env.cells.lookup x=Z9 c):closureFor scope env=pure (Yx env scope.names []):=by unfold closureFor;have q:=NK (env:=env) scope.names [] h;simp only[bind_pure];refine Eq.trans ?_ q;congr 1
theorem NJ{ns:List (Str×jV)}(h:ns.lookup x=Z9 k):(x,k)∈ns:=by
 induction ns with
 |nil=>cases h
 |cons a r c =>
  obtain⟨n,d⟩:=a;rw[qD1]at h;cases b:x == n with
  |true =>
   rw[b]at h;have e:x=n:=by simpa using b
   subst e;cases h;exact qD5 ..
  |false =>
   rw[b]at h;exact qC2 _ (c h)
theorem JW(h:(mZ scope env).names.lookup x=Z9 k)(d:k=.cell∨k=.free):(x,NameKind.free)∈scope.names∨(x,NameKind.cell)∈scope.names:=by
 have m:=NJ h;obtain⟨⟨n,c⟩,a,e⟩:=qB9.mp m;dsimp only at e;split at e
 ·rename_i b;cases e;have:c=.free:=by simp only[qC4,beq_iff_eq]at b;exact b.1.1
  subst this;exact .inl a
 ·cases e;rcases d with rfl|rfl
  ·exact .inr a
  ·exact .inl a
theorem T6:∀(ns:List (Str×jV)) (h:jA) (acc:List (Str×yR)) {x:Str}{c:yR},(vN h.objs.size ns acc).lookup x=Z9 c ->
  ((x,NameKind.cell)∈ns/\h.objs.size<=c/\(gE h ns).IsCell c Z8)∨((x,NameKind.cell)∉ns/\acc.lookup x=Z9 c)
 |[],h,acc,x,c,e=>.inr ⟨by simp,e⟩
 |(n,k)::r,h,acc,x,c,e=>by
  unfold vN at e;unfold gE;by_cases hk:(k == NameKind.cell)=Z7
  ·rw[if_pos hk]at e ⊢;have f:k=.cell:=by simpa using hk
   rw[<- qF6 h { cls:=.type "cell",data:=.cell Z8 }]at e;rcases T6 r _ _ e with⟨b,a,g⟩| ⟨b,a⟩
   ·exact .inl ⟨qC2 _ b,by rw[qF6]at a;omega,g⟩
   ·rw[qD1]at a;cases d:x == n with
    |true =>
     rw[d]at a;cases a;have:x=n:=by simpa using d
     subst this;subst f;exact .inl ⟨qD5 ..,qA6 _,_,fG _ _ _ _ (qB2 _ rfl),rfl⟩
    |false =>
     rw[d]at a;refine .inr ⟨λz=>?_,a⟩;rcases qA8.mp z with z|z
     ·cases z;simp at d
     ·exact b z
  ·rw[if_neg hk]at e ⊢;rcases T6 r h acc e with⟨b,a,g⟩| ⟨b,a⟩
   ·exact .inl ⟨qC2 _ b,a,g⟩
   ·refine .inr ⟨λz=>?_,a⟩;rcases qA8.mp z with z|z
    ·cases z;exact hk rfl
    ·exact b z
theorem NI:∀(ns:List (Str×jV)) (n:Nat) (acc:List (Str×yR)),(∀x c,acc.lookup x=Z9 c->c<n)->(∀x y c,acc.lookup x=Z9 c->acc.lookup y=Z9 c->x=y) ->
  ∀x y c,(vN n ns acc).lookup x=Z9 c->(vN n ns acc).lookup y=Z9 c->x=y
 |[],n,acc,hb,hi=>hi
 |(m,k)::r,n,acc,hb,hi=>by
  unfold vN;split
  ·refine NI r (n+1) _ (λx c e=>?_) λx y c d a=>?_
   ·rw[qD1]at e;cases b:x == m with
    |true=>rw[b]at e;cases e;exact qH2 _
    |false=>rw[b]at e;exact qE3 (hb x c e)
   ·rw[qD1]at d a;cases b:x == m with
    |true =>
     rw[b]at d;cases d;cases f:y == m with
     |true=>rw[show x=m by simpa using b,show y=m by simpa using f]
     |false=>rw[f]at a;exact absurd (hb y _ a) (qG7 _)
    |false =>
     rw[b]at d;cases f:y == m with
     |true=>rw[f]at a;cases a;exact absurd (hb x _ d) (qG7 _)
     |false=>rw[f]at a;exact hi x y c d a
  ·exact NI r n acc hb hi
theorem Qg:∀(ns:List (Str×jV)) (n:Nat) (acc:List (Str×yR)) {x:Str},((x,NameKind.cell)∈ns∨∃c,acc.lookup x=Z9 c)->∃c,(vN n ns acc).lookup x=Z9 c
 |[],n,acc,x,h=>by
  rcases h with h|h
  ·cases h
  ·exact h
 |(m,k)::r,n,acc,x,h=>by
  unfold vN;split
  ·refine Qg r _ _ ?_;by_cases a:x=m
   ·subst a;exact .inr ⟨n,by rw[qD1];simp⟩
   ·have b:(x == m)=Z5:=by simpa using a
    rcases h with h|⟨c,h⟩
    ·rcases qA8.mp h with h|h
     ·cases h;exact absurd rfl a
     ·exact .inl h
    ·exact .inr ⟨c,by rw[qD1,b];exact h⟩
  ·rename_i hk;refine Qg r _ _ ?_;rcases h with h|h
   ·rcases qA8.mp h with h|h
    ·cases h;exact absurd rfl hk
    ·exact .inl h
   ·exact .inr h
theorem CP{E:yL}
  (i:Q (newEnv scope s.heap.objs.size a (vN (s.heap.push { cls:=.type "dict",data:=.dict #[] }).objs.size scope.names b) d Z8 .none (Z9 c) mN) { s with heap:=gE (s.heap.push { cls:=.type "dict",data:=.dict #[] }) scope.names }) :
  yV M A (fP scope a b [] d Z8 .none (Z9 c)) Q E s:=by simp only[fP,qQ6,if_true];refine yO (wpAny_alloc ?_);refine yO (wpAny_layCells _ (λh e f=>by cases g:e == NameKind.cell<;>simp[g]) _ _ _ _ ?_);rw[qT3];exact yO (yP (yP i))
section
variable {X:Cx}{pins:yD}{Z:St}{H:Hp}{s:yQ}{scope:vG}{N:yH}{C:yR}{ex:yC}
structure SE(X:Cx)(scope:vG)(N:yH)(k:Nat)(js:List Nat):Prop where
 calm:X.calm=Z7
 kind:scope.kind=.function
 cell:∀x,(x,NameKind.cell)∈scope.names->scope.names.lookup x=Z9 .cell
 free:∀x,(x,NameKind.free)∈scope.names->(X.env.kindOf x=Z9 .cell∨X.env.kindOf x=Z9 .free)
 names:∀x∈scope.names,x.2=.local->scope.names.lookup x.1=Z9 .local
 len:N.length=k+js.length
 js:∀i j,js[i]?=Z9 j->∃x,N[k+i]?=Z9 x/\X.N[j]?=Z9 x/\scope.names.lookup x=Z9 .free/\RN X.env.scope x
theorem UC(h:(Yx env ns []).lookup x=Z9 c):env.cells.lookup x=Z9 c:=Qh _ _ (λ_ _ z=>by cases z) x c h
theorem ZQ.compOk(I:ZQ X pins Z H s)(hk:scope.kind=.function)(j:∀x,(x,NameKind.free)∈scope.names->∃c,X.env.cells.lookup x=Z9 c){h:jA}(i:h.objs.size=C+1)(g:s.heap.objs.size<=C)(a:∀b∈ex,YF X pins H b)(f:∀b∈ex,b<s.heap.objs.size):
  (Xf X scope N (vN h.objs.size scope.names (Yx X.env scope.names [])) s H C ex).Ok where
 mod:=I.ok.mod
 kind:=hk
 glob:=I.ok.glob
 blt:=I.ok.blt
 above:=g
 inj:=NI _ _ _ (λx c e=>by
  obtain⟨v,q⟩:=I.cell x c (UC e);rw[i];exact qE3 (qC1 q.lt g)) λx y c r l=>I.ok.inj x y c (UC r) (UC l)
 has:=λx h=>by
  have m:=JW (scope:=scope) (env:=X.env) (x:=x) (k:=.cell);have n:=JW (scope:=scope) (env:=X.env) (x:=x) (k:=.free);have q:(x,NameKind.free)∈scope.names∨(x,NameKind.cell)∈scope.names:=by
   rcases h with h|h
   ·exact m h (.inl rfl)
   ·exact n h (.inr rfl)
  refine Qg _ _ _ ?_;rcases q with q|q
  ·exact .inr (Rx _ _ x (.inr ⟨q,j x q⟩))
  ·exact .inl q
 cab:=λx c h e=>by
  rcases T6 _ _ _ e with⟨_,q,_⟩| ⟨q,_⟩
  ·show s.heap.objs.size<=c;omega
  ·exact absurd (of_decide_eq_true h) q
 hd:=I.ok.hd
 frames:=I.ok.frames
 stk:=.inl rfl
 exf:=λb d=>⟨λz=>by
   have p:b=C:=z;exact qG7 _ (qC1 (f b d) (by rw[p];exact g)),λx c e=>by
   rcases T6 _ _ _ e with⟨_,q,_⟩| ⟨_,q⟩
   ·exact qI7 (qC1 (f b d) (qD4 g (qI1 (qC1 (by rw[i];exact qH2 C) q))))
   ·exact(a b d).2.2.2.2.1 x c (UC q)⟩
 bs:=I.bs
 bsz:=qD4 I.ok.bsz I.sz
 noex:=λb o e d=>by
  rcases(a b d).2.2.2.1 with z|z
  ·exact I.ok.noex b o e z
  ·exact qG7 _ (qC1 (qB4 e) (qD4 I.ok.bsz z))
 exfs:=λb d z=>by
  rcases qA8.mp (I.stkSub b z)with q|q
  ·exact(a b d).2.1 q
  ·exact(a b d).2.2.1 q
 funs:=I.stack
 frf:=I.stkFree
theorem CN{d:yE}(i:Nat->yQ->Prop)
  (f:∀n s,i n s->yV (yX prog w) A (wQ j) (λr k=>match r with
   |none=>R (.ok .next) k
   | some v=>yV (yX prog w) A (fF a j v) (λ_ g=>yV (yX prog w) A (fE a env v) (λ_ q =>
     yV (yX prog w) A (forIn d Z7 λc r=>if r=Z7 then do let ok <- dJ c env (vL c env);pure (ForInStep.yield ok)else pure (ForInStep.yield r)) (λok o =>
      if ok=Z7 then yV (yX prog w) A (vL elt env) (λx t =>
       yV (yX prog w) A (call (.builtin "list.append") [acc,x]) (λ_ p=>∃m,m<n/\i m p) (m8 (yX prog w) A env λe s'=>R (.error e) s') t) (m8 (yX prog w) A env λe s'=>R (.error e) s') o
      else ∃m,m<n/\i m o) (m8 (yX prog w) A env λe s'=>R (.error e) s') q) (m8 (yX prog w) A env λe s'=>R (.error e) s') g) (m8 (yX prog w) A env λe s'=>R (.error e) s') k) (m8 (yX prog w) A env λe s'=>R (.error e) s') s)
  (n:Nat) (h:i n s) :
  vZ (yX prog w) A (.compLoop (.ListComp elt [⟨a,iter,d,0⟩] scope pos) 0 j acc env) R s:=by
 refine codeAny_loop rfl i (λn s z=>?_) n h;show yV _ A ((compTurn (.ListComp elt [⟨a,iter,d,0⟩] scope pos) 0 j acc env).onRaise (λx=>do noteFrame x env;theTreesLotGoes x)) _ _ s;refine wpAny_noted ?_;rw[compTurn_list];refine yO (fY (yO (jU (f n s z) (λr k u=>?_) λ_ _ b=>b)));cases r with
 |none=>exact yP u
 |some v =>
  refine yO (jU u (λ_ g l=>?_) λ_ _ b=>b);refine yO (jU l (λ_ q B=>yO (jU B (λok o y=>?_) λ_ _ b=>b)) λ_ _ b=>b);cases ok with
  |false=>exact yP ⟨rfl,y⟩
  |true =>
   exact yO (yO (jU y (λx t D=>yO (jU D (λ_ p E=>yP (yP ⟨rfl,E⟩)) λ_ _ b=>b)) λ_ _ b=>b))
def T5(X:Cx)(b:yE)(t:TT):Prop :=
 ∀(a:yD) (s:yQ) (Z:St) (H:Hp) (Q:Bool->Hp->Prop),ZQ X a Z H s->t Z H Q ->
  yV (yX X.prog X.w) X.A (forIn b Z7 λc r=>if r=Z7 then do let ok <- dJ c X.env (vL c X.env);pure (ForInStep.yield ok)else pure (ForInStep.yield r)) (TP X a Z Q) X.xe s
def NH:TT:=λ_ H Q=>Q Z7 H
theorem CM:T5 X [] NH:=λa s Z H Q I h=>wpAny_tests_nil ⟨H,I,h⟩
theorem CL(h:PT X c t):T5 X [c] t:=λa s Z H Q I b=>wpAny_tests_one (h a s Z H Q I b)
def NG(e:It)(D:yR)(W:Nat->Nat->List V->Hp->Prop)(Q:Hp->Prop)(g:TG)(tc:TT)(n:TE)(j:St)(i m:Nat)(ys:List V)(c:Hp):Prop :=
 c D=Z9 (.lst ys)/\((e.stop i c/\Q c)∨(e.go i c/\ys.length<y8/\∀x h,e.yld i c x h->g x j h fun d l=>UD j d/\tc d l λb k =>
   if b=Z7 then n d k λy f=>f D=Z9 (.lst ys)/\∃a,a<m/\W (i+1) a (ys++[y]) (ZE f D (.lst (ys++[y])))else ∃a,a<m/\W (i+1) a ys k))
noncomputable def W4(k:Nat)(a:List Nat)(Z:St):St:=qK0 k Option.none++a.map λj=>(Z[j]?).getD Option.none
def NF(d:TI)(k:Nat)(e:List Nat)(g:TG)(tc:TT)(f:TE):TE:=fun Z H Q =>
 d Z H λh c=>∀D,c D=Z8->∃W:Nat->Nat->List V->Hp->Prop,(∃m,W 0 m [] (ZE c D (.lst [])))/\∀i m a b,W i m a b->NG h D W (Q (.ref D)) g tc f (W4 k e Z) i m a b
theorem JV(h:(W4 k b Z)[i]?=Z9 (Z9 v)):∃j,k<=i/\b[i - k]?=Z9 j/\Z[j]?=Z9 (Z9 v):=by
 unfold W4 at h;by_cases a:i<k
 ·rw[qB0 (by simpa using a),qJ0]at h;simp[a]at h
 ·rw[qA3 (by simpa using a),qI4,qB3]at h;cases e:b[i - k]? with
  |none=>rw[e]at h;simp at h
  |some j =>
   rw[e]at h;simp only[qM2,Option.some.injEq]at h;refine⟨j,by omega,rfl,?_⟩;cases q:Z[j]? with
   |none=>rw[q]at h;simp at h
   |some z =>
    rw[q]at h;simp at h;rw[h]
theorem JU(h:scope.names.lookup x=Z9 .free):(mZ scope env).names.lookup x=Z9 .cell∨(mZ scope env).names.lookup x=Z9 .free:=by
 unfold mZ;dsimp only;generalize scope.names=ns at h
 induction ns with
 |nil=>cases h
 |cons a r c =>
  obtain⟨n,k⟩:=a;rw[qD1]at h;rw[qB5];cases b:x == n with
  |true =>
   rw[b]at h;cases h;dsimp only;split
   ·exact .inl (by rw[qD1,b])
   ·exact .inr (by rw[qD1,b])
  |false =>
   rw[b]at h;dsimp only;split
   ·rw[qD1,b];exact c h
   ·rw[qD1,b];exact c h
inductive T4(Y:Cx)(Z0:St)(tn:Nat->jA->Prop)(fp:yC)(W:Nat->Nat->List V->Hp->Prop)(n:Nat)(s:yQ):Prop
 |mk (i:Nat) (ys:List V) (H:Hp) (I:ZQ Y [] Z0 H s) (st:tn i s.heap) (fr:∀b∈fp,H b=Z8) (w:W i n ys H)
theorem CK{Y:Cx}
  (hc:Y.calm=Z7) (hx:Y.xe=λ_ _=>False) (T:Xv Y.prog Y.w Y.K P JJ k it G) (a:∀M,(∀b∈k,M b=Z8)->∀b∈k,YF Y [] M b)
  (hg:PG Y P g) (htc:T5 Y f tc) (hte:PE Y elt te) (I:∀i m ys H2,W i m ys H2->NG JJ D W Q g tc te t i m ys H2) (fin:∀l F,ZQ Y [] t l F->Q l->R (.ok .next) F)
   (h0:T4 Y t G k W n s) (st3:G 0 s.heap):vZ (yX Y.prog Y.w) Y.A (.compStart (.ListComp elt [⟨P,iter,f,0⟩] scope pos) 0 (.ref it) (.ref D) Y.env) R s:=by
 have c:vZ (yX Y.prog Y.w) Y.A (.compLoop (.ListComp elt [⟨P,iter,f,0⟩] scope pos) 0 (.ref it) (.ref D) Y.env) R s:=by
  refine CN (T4 Y t G k W) ?_ n h0;rintro n s4 ⟨i,ys,l,I4,w,A,w4⟩;obtain⟨hD4,hd⟩:=I i n ys l w4;rcases hd with⟨B,q⟩| ⟨go,hz,step⟩
  ·refine Zv (T.done Y rfl rfl rfl hc i [] s4 _ l _ I4 (a _ A) w B) λr F ⟨hr,I5⟩=>?_;subst hr;exact fin l F I5 q
  ·refine Zv (T.item Y rfl rfl rfl hc i [] s4 _ l _ I4 (a _ A) w go) λr F ⟨u,hr,h5⟩=>?_;subst hr;refine Zv h5 λ_ s6 ⟨x,H6,I6,r6,y6,h,fr6⟩=>?_;have I6':=I6.pinned (a _ fr6) (T.obj _ _ h);have back:∀{j:St}{v:Hp}{s7:yQ}{m:Nat}{U:List V},ZQ Y ([]++RJ k s6.heap) j v s7->UD t j->W (i+1) m U v->T4 Y t G k W m s7:=λ{j v s7 m U} K hw w7=>by refine⟨i+1,U,v,K.unpinned.weak hw.1 hw.2,T.keep _ _ _ h λb L o e=>(K.pin (b,o) (qC5 _ (qC5 _ (RI L e)))).1,λb L=>?_,w7⟩;obtain⟨o,e,d⟩:=T.obj _ _ h b L;exact(K.pin (b,o) (qC5 _ (qC5 _ (RI L e)))).2.1
   have O:∀{E:yL} (e:yT) (s':yQ),Y.xe e s'->E e s':=λe s' z=>by rw[hx]at z;exact z.elim
   refine jU (hg _ s6 _ H6 x u _ I6' r6 (step x H6 y6)) (λ_ s7 ⟨j,v,K,J,q7⟩=>?_) O;refine jU (htc _ s7 j v _ K q7) (λb s8 ⟨H8,I8,q8⟩=>?_) O;cases b with
   |false =>
    obtain⟨p,hm,w8⟩:=(show ∃p,p<n/\W (i+1) p ys H8 by simpa using q8)
    rw[if_neg (by decide)];exact⟨p,hm,back I8 J w8⟩
   |true =>
    rw[if_pos rfl]at q8;rw[if_pos rfl];refine jU (hte _ s8 j H8 _ I8 q8) (λy s9 ⟨vy,H9,I9,r9,q9⟩=>?_) O;obtain⟨hD9,p,hm,w9⟩:=q9;refine jU (Kd (X:=Y) _ s9 j H9 (.ref D) [vy] (.ref D) [y] (λ_ M=>W (i+1) p (ys++[vy]) M) I9 rfl (.cons r9 .nil) ⟨_,ys,vy,rfl,rfl,hD9,hz,w9⟩) (λz s10 ⟨_,H10,S,_,q10⟩=>?_) O;exact⟨p,hm,back S J q10⟩
 exact codeAny_compStart_list c (T.self _ 0 _ _ _ st3 c)
theorem CJ{w:yE}{RR:yT->yR->mP->yQ->Prop}
  (BB:SE X scope N k js) (a:ZQ X pins Z L s2) (T:Xv X.prog X.w X.K W JJ M U R) (F:R 0 s2.heap) (f2:∀b∈M,YF X pins L b)
  (h:∀(cl:List (Str×yR)) (C:yR) (D:yQ),s2.heap.objs.size<=C->s2.heap.objs.size≠C->ZQ (Xf X scope N cl s2 L C M) [] (W4 k js Z) (ZE L s2.heap.objs.size (.lst [])) D->R 0 D.heap ->
   vZ (yX X.prog X.w) X.A (.compStart (.ListComp elt [⟨W,iter,w,0⟩] scope pos) 0 (.ref U) (.ref s2.heap.objs.size) (compEnvC scope cl C X.env)) (RR (.ref s2.heap.objs.size) C) D) :
  yV (yX X.prog X.w) X.A (dU []) (λacc s3=>yV (yX X.prog X.w) X.A (fP scope X.env.globals (Yx X.env scope.names []) [] X.env.qual Z8 .none (Z9 X.env)) (λg D =>
   vZ (yX X.prog X.w) X.A (.compStart (.ListComp elt [⟨W,iter,w,0⟩] scope pos) 0 (.ref U) acc { g with scope:=mZ scope X.env }) (RR acc g.locals) D) X.xe s3) X.xe s2:=by
 have n:∀x,(x,NameKind.free)∈scope.names->∃c,X.env.cells.lookup x=Z9 c:=λx hx=>a.ok.has x (BB.free x hx);refine jF (CP ?_);dsimp only;generalize hP:s2.heap.push { cls:=.type "list",dict:=Z8,data:=.seq ([]:yB).toArray }=P;have t:P.objs.size=s2.heap.objs.size+1:=by rw[<- hP,qF6]
 have O:s2.heap.objs.size≠P.objs.size:=by rw[t];exact qC3 (qH2 _)
 have d:s2.heap.objs.size<=P.objs.size:=by rw[t];exact qL3 _
 generalize hP2:P.push { cls:=.type "dict",data:=.dict #[] }=P2;have l:P2.objs.size=P.objs.size+1:=by rw[<- hP2,qF6]
 have I:(gE P2 scope.names).Ns P.objs.size (λ_=>Z8):=(hP2▸Heap.Ns.new P (.type "dict")).keeps (fG _ _);have f:∀b o,s2.heap.get? b=Z9 o->(gE P2 scope.names).get? b=Z9 o:=λb o e=>fG _ _ _ _ (hP2▸qA1 _ (hP▸qA1 _ e));have J:(gE P2 scope.names).get? s2.heap.objs.size=Z9 { cls:=.type "list",dict:=Z8,data:=.seq ([]:yB).toArray }:=fG _ _ _ _ (hP2▸qA1 _ (hP▸qB2 _ rfl));have S:∀b∈M,b<s2.heap.objs.size:=λb hb=>by obtain⟨o,e,_⟩:=T.obj _ _ F b hb;exact qB4 e
 have ok:=a.compOk (N:=N) (C:=P.objs.size) (ex:=M) BB.kind n l d f2 S;refine h (vN P2.objs.size scope.names (Yx X.env scope.names [])) P.objs.size _ d O ?_ (T.keep _ _ _ F λb _ o e=>f b o e);refine⟨ok,rfl,a.bare,Un.laid f (qA6 _) (a.hok.fresh (qA6 _)),⟨_,I,λi x v e1 e2 e3=>?_⟩,λx c e=>?_,?_,λx c e=>?_,λp hp=>(by cases hp),a.hok.laid f (qA6 _) ?_,?_⟩
 ·obtain⟨j,hki,hj,hv⟩:=JV e2;obtain⟨y,n1,n2,Y,n4⟩:=BB.js _ j hj;have ei:k+(i - k)=i:=by omega
  rw[ei]at n1;have E:N[i]?=Z9 x:=e1;rw[n1]at E;cases E;obtain⟨m,hn,hl⟩:=a.loc;obtain⟨u,r,lk⟩:=hl j x v n2 hv n4;refine⟨u,r,?_⟩;have mem:=NJ Y;rcases lk with⟨B,_⟩| ⟨B,c,ec,ce⟩
  ·rcases BB.free x mem with z|z
   ·rw[z]at B;cases B
   ·rw[z]at B;cases B
  ·obtain⟨c0,A⟩:=Qg scope.names P2.objs.size _ (.inr (Rx (env:=X.env) scope.names [] x (.inr ⟨mem,c,ec⟩)));have V:c0=c:=by
    rcases T6 _ _ _ A with⟨q,_⟩| ⟨_,q⟩
    ·have:=BB.cell x q;rw[Y]at this;cases this
    ·have:=UC q;rw[ec]at this;cases this;rfl
   subst V;refine .inr ⟨JU Y,c0,A,?_⟩;obtain⟨o,K,Q⟩:=ce;exact⟨o,f _ _ K,Q⟩
 ·rcases T6 _ _ _ e with⟨_,_,q⟩| ⟨_,q⟩
  ·exact⟨_,q⟩
  ·obtain⟨v,o,K,Q⟩:=a.cell x c (UC q);exact⟨v,o,f _ _ K,Q⟩
 ·show ZE L s2.heap.objs.size (.lst []) P.objs.size=Z8;rw[YX (Ne.symm O)];exact a.hok.fresh d
 ·rcases T6 _ _ _ e with⟨_,q,_⟩| ⟨_,q⟩
  ·have G:s2.heap.objs.size<c:=qC1 (by rw[l,t];omega) q;rw[YX (qI7 G)];exact a.hok.fresh (qI1 G)
  ·obtain⟨v,o,K,Q⟩:=a.cell x c (UC q);rw[YX (qC3 (qB4 K))];exact a.freeC x c (UC q)
 ·exact⟨qE1 _,[],_,.nil,J⟩
 ·unfold W4;rw[qB8,qI4,qA0];exact BB.len.symm
theorem JT{K:yT->yR->mP->yQ->Prop}{Q:V->Hp->Prop}
  (BB:SE X scope N k x) (B:ZQ X pins Z a s2) (T:Xv X.prog X.w X.K y L v G F) (h:F 0 s2.heap) (I:∀b∈v,YF X pins a b)
  (R:∀cl s H C ex,PG (Xf X scope N cl s H C ex) y g) (w:∀cl s H C ex,T5 (Xf X scope N cl s H C ex) f tc) (A:∀cl s H C ex,PE (Xf X scope N cl s H C ex) elt J)
  (M:∀D,a D=Z8->∃W:Nat->Nat->List V->Hp->Prop,(∃m,W 0 m [] (ZE a D (.lst [])))/\∀i m ys a,W i m ys a->NG L D W (Q (.ref D)) g tc J (W4 k x Z) i m ys a)
  (z:∀cl C t r,s2.heap.objs.size<=C->s2.heap.objs.size≠C->ZQ (Xf X scope N cl s2 a C v) [] (W4 k x Z) t r->Q (.ref s2.heap.objs.size) t->K (.ref s2.heap.objs.size) C (.ok .next) r) :
  yV (yX X.prog X.w) X.A (dU []) (λacc U=>yV (yX X.prog X.w) X.A (fP scope X.env.globals (Yx X.env scope.names []) [] X.env.qual Z8 .none (Z9 X.env)) (λc E =>
   vZ (yX X.prog X.w) X.A (.compStart (.ListComp elt [⟨y,iter,f,0⟩] scope pos) 0 (.ref G) acc { c with scope:=mZ scope X.env }) (K acc c.locals) E) X.xe U) X.xe s2:=by obtain⟨W,⟨m0,S⟩,j⟩:=M s2.heap.objs.size (B.hok.fresh (qA6 _));refine CJ BB B T h I λcl C E O P u l=>?_;refine CK (Y:=Xf X scope N cl s2 a C v) BB.calm rfl T (λH' hn b d=>⟨hn b d,(u.ok.exf b d).1,u.ok.exfs b d,.inl d,(u.ok.exf b d).2,λp hp=>by cases hp⟩) (R _ _ _ _ _) (w _ _ _ _ _) (A _ _ _ _ _) j (λt r I5 q=>z cl C t r O P I5 q) (n:=m0) ⟨0,[],_,u,l,λb d=>?_,S⟩ l;obtain⟨o,e,_⟩:=T.obj _ _ h b d;rw[YX (qC3 (qB4 e))];exact(I b d).1
theorem CH(BB:SE X scope N k M)(hi:PI X D iter L)
  (Y:∀cl s H C ex,PG (Xf X scope N cl s H C ex) D g) (A:∀cl s H C ex,T5 (Xf X scope N cl s H C ex) l tc) (F:∀cl s H C ex,PE (Xf X scope N cl s H C ex) elt O)
  (hs:∀x,vY iter X.env x=pure x:=by intro _;rfl):PE X (.ListComp elt [⟨D,iter,l,0⟩] scope pos) (NF L k M g tc O):=by
 intro w s Z H Q I h;rw[eval_ListComp];refine f7 (use:=Z8) rfl hs (JX λx i=>I.ok.has x (BB.free x i)) BB.kind BB.names (Zv (hi w s Z H _ I h) λv s1 V=>Zv V λitv K W=>?_);obtain⟨it,fp,tn,JJ,H2,e,G,T,B,r,P⟩:=W;subst e;refine JT BB G T B r Y A F P λcl C J R y hDC j q=>?_;obtain⟨m,hn,_⟩:=id j.loc;have p:J C=Z8:=j.free;refine⟨m,hn,λS a=>⟨.ref K.heap.objs.size,J,?_,rfl,q⟩⟩;have E:∀b o,K.heap.get? b=Z9 o->b≠C:=λb o e=>qC3 (qC1 (qB4 e) y);refine G.call' (s':={ R with heap:=S }) (ch:=fp) j.os ?_ (λb u e=>?_) j.bare (λb f=>⟨(r b f).2.2.2.1,(r b f).2.1,(r b f).2.2.2.2.1,(r b f).2.2.2.2.2⟩)
 ·have U:=j.base;exact⟨λb o e n f i=>(a.2 b (E b o e)).trans (U.keep b o e n f i),λb o e n f i=>by
    obtain⟨sl,z⟩:=U.slot b o e n f i;exact⟨sl,(a.2 b (E b o e)).trans z⟩,U.free,λb o e i=>by
    obtain⟨o',z⟩:=U.there b o e i;exact⟨o',(a.2 b (E b o e)).trans z⟩,U.tups,U.frzs,U.tbls⟩
 ·refine(j.hok b u e).stay (λc w' d t=>(a.2 c ?_).trans t) (λ_ t=>t) λ_ _ t=>t;rintro rfl;rcases d with rfl|d
  ·rw[p]at e;cases e
  ·rw[p]at d;cases d
end
theorem ND(h:H p=Z8)(o:HO):Same H (ZE H p o):=λb u q=>by rw[YX (Vr q h)];exact q
theorem Same.tup{K:yS}(e:Same H b)(h:Zp K H a xs):Zp K b a xs:=by
 rcases h with(h|⟨o,h⟩)| h
 ·exact .inl (.inl (e _ _ h))
 ·exact .inl (.inr ⟨o,e _ _ h⟩)
 ·exact .inr h
section
variable {X:Cx}{pins:yD}{Z:St}{H:Hp}{s:yQ}
theorem ZQ.yields{wr:yC}{T:yR}(I:ZQ X pins Z H s)(f:∀b∈wr,YF X pins H b)(k:∀b o,b∉wr->s.heap.get? b=Z9 o->h'.get? b=Z9 o)
  (j:s.heap.objs.size<=T) (r:ZM xs its) (hz:xs.length<=y8) (ht:mS h' T its.toArray):ZQ X pins Z (ZE H T (.tup xs)) { s with heap:=h',toks:=tk }:=by
 have l:∀b o,s.heap.get? b=Z9 o->b≠T:=λb o e=>qC3 (qC1 (qB4 e) j);have g:∀b u,H b=Z9 u->b≠T:=λb u e=>qC3 (qC1 (I.hok.lt e) j);have i:∀b u,H b=Z9 u->b∉wr:=λb u e a=>by rw[(f b a).1]at e;cases e
 refine I.call' (s':={ s with heap:=h',toks:=tk }) (ch:=wr) rfl ⟨λb o e n _ d=>k b o d e,λb o e n _ d=>⟨o.slots,k b o d e⟩,λb o e n _=>?_,λb o e d=>⟨o,k b o d e⟩,λb m e=>?_,λb o u e=>?_,λb p e=>⟨#[],?_⟩⟩ (λb u e=>?_) I.bare
  (λb a=>⟨(f b a).2.2.2.1,(f b a).2.1,(f b a).2.2.2.2.1,(f b a).2.2.2.2.2⟩)
 ·rw[YX (l b o e)];exact n
 ·rw[YX (g b _ e)];exact e
 ·rw[YX (g b _ e)];exact e
 ·rw[YX (g b _ e),e];simp
 ·by_cases a:b=T
  ·subst a;rw[Xg]at e;cases e;exact⟨hz,its,r,ht⟩
  ·rw[YX a]at e;refine(I.hok b u e).stay (λc v h q=>k c v ?_ q) (λc q=>?_) λc m q=>?_
   ·rcases h with rfl|h
    ·exact i _ _ e
    ·exact i _ _ h
   ·rw[YX (g c _ q)];exact q
   ·rw[YX (g c _ q)];exact q
theorem ZQ.turnedL{wr:yC}(I:ZQ X pins Z H s)(f:∀b∈wr,YF X pins H b)(k:∀b o,b∉wr->s.heap.get? b=Z9 o->h'.get? b=Z9 o):ZQ X pins Z H { s with heap:=h',toks:=tk }:=by
 have h:∀b u,H b=Z9 u->b∉wr:=λb u e a=>by rw[(f b a).1]at e;cases e
 refine I.call' (s':={ s with heap:=h',toks:=tk }) (ch:=wr) rfl ⟨λb o e n _ d=>k b o d e,λb o e n _ d=>⟨o.slots,k b o d e⟩,λb o e n _=>n,λb o e d=>⟨o,k b o d e⟩,λb i e=>e,λb o u e=>e,λb j e=>⟨#[],by rw[e];simp⟩⟩ (λb u e=>?_) I.bare
  (λb a=>⟨(f b a).2.2.2.1,(f b a).2.1,(f b a).2.2.2.2.1,(f b a).2.2.2.2.2⟩)
 refine(I.hok b u e).stay (λc v g q=>k c v ?_ q) (λc q=>q) λc i q=>q;rcases g with rfl|g
 ·exact h _ _ e
 ·exact h _ _ g
end
section
variable {X:Cx}
theorem CG:XU X (.type "range") (λc H Q=>∃i j:Int,c=[.int i,.int j]/\∀p,H p=Z8->Q (.ref p) (ZE H p (.rng i j))):=by intro a s Z H k l Q I r h;obtain⟨i,j,rfl,q⟩:=h;obtain⟨u,v,rfl,f,d⟩:=Qp r;obtain⟨t,rfl⟩:=f;obtain⟨g,rfl⟩:=d;refine call_range_2 ⟨.ref s.heap.objs.size,_,I.laid (o:=.rng i j) (λb o e=>qA1 _ e) (qA6 _) ?_,rfl,q _ (I.hok.fresh (qA6 _))⟩;exact⟨_,_,_,qB2 _ rfl⟩
theorem CF:XU X (.type "range") (λc H Q=>∃j:Int,c=[.int j]/\∀p,H p=Z8->Q (.ref p) (ZE H p (.rng 0 j))):=by intro a s Z H f g Q I r h;obtain⟨j,rfl,q⟩:=h;obtain⟨u,rfl,d⟩:=Wx r;obtain⟨t,rfl⟩:=d;refine call_range_1 ⟨.ref s.heap.objs.size,_,I.laid (o:=.rng 0 j) (λb o e=>qA1 _ e) (qA6 _) ?_,rfl,q _ (I.hok.fresh (qA6 _))⟩;exact⟨_,_,_,qB2 _ rfl⟩
noncomputable def SD(a:Int)(n:Nat):List V:=(List.range n).map λk=>V.int (a+(k:Nat))
theorem CD{acc:yJ}(h:ItemsOf (λi v=>∃t,v=.int (b+i*1) t) acc n):ZM (SD b n) acc.toList:=by
 obtain⟨l,h⟩:=h;have d:∀(k:Nat) (us:yB) (b:Int),us.length=k->(∀(i:Nat) (v:yT),us[i]?=Z9 v->∃t,v=Value.int (b+(i:Nat)) t)->ZM ((List.range k).map λj=>V.int (b+(j:Nat))) us:=by
  intro k
  induction k with
  |zero=>intro us b c _;cases us with
   |nil=>exact .nil
   |cons a r=>simp at c
  |succ k g =>
   intro us b c f;cases us with
   |nil=>simp at c
   |cons a r =>
    rw[List.range_succ_eq_map,qB5,qC8];refine .cons ?_ ?_
    ·obtain⟨t,e⟩:=f 0 a rfl;exact⟨t,e⟩
    ·have:=g r (b+1) (by simpa using c) λi v e=>by obtain⟨t,q⟩:=f (i+1) v (by simpa using e);exact⟨t,by rw[q];congr 1;omega⟩
     have e:((fun(j:Nat)=>V.int (b+(j:Nat)))∘Nat.succ)=fun(j:Nat)=>V.int (b+1+(j:Nat)):=by funext j;simp only[Function.comp];congr 1;omega
     rw[e];exact this
 exact d n acc.toList b (by simpa using l) λi v e=>by obtain⟨t,q⟩:=h i v (by simpa using e);exact⟨t,by rw[q,Int.mul_one]⟩
theorem CC(m:X.calm=Z7):XU X (.type "list") (λg H Q=>∃p i j,g=[.ref p]/\H p=Z9 (.rng i j)/\-(2 ^ 62)<=i/\i<2 ^ 62/\-(2 ^ 62)<=j/\j<2 ^ 62/\(j - i).toNat<=1000/\∀l,H l=Z8->Q (.ref l) (ZE H l (.lst (SD i (j - i).toNat)))):=by
 intro b s Z H E F Q I r h;obtain⟨p,i,j,rfl,A,b1,B,d,w,c,q⟩:=h;obtain⟨u,rfl,y⟩:=Wx r;cases y;obtain⟨t,u,v,e⟩:=(show XX X.prog X.w H s.heap p (.rng i j)from I.hok _ _ A)
 refine call_list_range (n:=(j - i).toNat) (I.ok.hd m) (show IsRange s.heap p i j 1 t u v from e) (small_one b1 B d w) (by rw[rangeSize_one];split<;>omega) (qD4 c (by decide)) λC D a k hk f z=>?_;have x:=CD z;refine⟨.ref s.heap.objs.size,_,I.laid (o:=.lst (SD i (j - i).toNat)) hk (qA6 _) ⟨?_,a.toList,k,x,by simpa using f⟩,rfl,q _ (I.hok.fresh (qA6 _))⟩;unfold SD;rw[qA0,qG1];exact qD4 c (by decide)
def Cz:V->List V->Hp->VK->Prop:=λx b H Q=>∃(l:yR) (a:List V) (i:Nat) (y:V),x=.ref l/\b=[.int i,y]/\H l=Z9 (.lst a)/\a.length<1000/\i<=a.length/\Q .non (ZE H l (.lst (a.take i++y::a.drop i)))
theorem Cy:Ql X "list.insert" Cz:=by
 intro f s Z H x w v C Q I j k h;obtain⟨l,B,i,y,rfl,rfl,d,A,D,q⟩:=h;cases j;obtain⟨E,u2,rfl,u,o⟩:=k.two;obtain⟨t,rfl⟩:=u;obtain⟨z,a,n,r,p,e⟩:=I.lstM d;generalize hx:((i:Nat):Int)=x;have g:0<=x:=by omega
 have m:x.toNat=i:=by omega
 have b:¬(!Builtin.List.listFitsIndex x)=Z7:=by rw[fitsIndex_both (by omega) (by omega)];exact qB1
 have c:a.toArray.size<=sizeLine:=by rw[qA9,<- p];exact z
 refine gR F.slot_list_insert ⟨_,e,rfl⟩ F.entry_list_insert (F.args_list_insert_3 _ _ _) (PySem.AutoSeq1.list_insert_list_int_val_1 l _ n x t u2 b c) ⟨e,?_⟩;refine⟨.non,_,I.lset (its':=a.take i++u2::a.drop i) d e ?_ ((r.take i).append (.cons o (r.drop i))) ?_,rfl,q⟩
 ·have hk:(if x<0 then(x+((a.toArray.size:Nat):Int)).toNat else min x.toNat a.toArray.size)=i:=by rw[if_neg (by omega),qA9];omega
  show(a.toArray.extract 0 (if x<0 then(x+((a.toArray.size:Nat):Int)).toNat else min x.toNat a.toArray.size)).push u2++a.toArray.extract (if x<0 then(x+((a.toArray.size:Nat):Int)).toNat else min x.toNat a.toArray.size)=_;rw[hk];apply Array.ext';simp;exact qJ4 (by rw[qE6];exact qA6 _)
 ·rw[qB8,qC7,qD8,qE6];have:(1000:Nat)<=sizeLine:=by decide
  omega
theorem Cw:Y6 X (y7 .Is) (λx y H Q=>∃a b,x=.bl a/\y=.bl b/\Q (.bl (a == b)) H):=by intro c s Z H x y v u Q I e d h;obtain⟨a,b,rfl,rfl,q⟩:=h;cases e;cases d;exact is_bool ⟨.bl (a == b),H,I,rfl,q⟩
theorem Cv:Y6 X (y7 .IsNot) (λx y H Q=>∃a b,x=.bl a/\y=.bl b/\Q (.bl (a != b)) H):=by intro c s Z H x y v u Q I e d h;obtain⟨a,b,rfl,rfl,q⟩:=h;cases e;cases d;exact isnot_bool ⟨.bl (a != b),H,I,rfl,q⟩
end
section
variable {X:Cx}
def Cu(K:yS):R2:=λx y H Q=>∃a b c d,x=.ref a/\y=.ref b/\H a=Z9 (.tup c)/\H b=Z9 (.tup d)/\c.length+d.length<=y8/\∀p e,Same H e->e p=Z9 (.tup (c++d))->Q (.ref p) e
theorem Cs:Y6 X (jM .Add) (Cu X.K):=by
 intro f s Z H x y v u Q I z t h;obtain⟨a,b,B,M,rfl,rfl,k,o,F,q⟩:=h;by_cases w:B=[]
 ·subst w;cases z;cases t;obtain⟨m,O,G,_⟩:=I.tuple (Zp.of k);obtain⟨i,S,P,_⟩:=I.tuple (Zp.of o);have e:m=[]:=(O.nil_iff).mpr rfl;subst e;obtain⟨⟨K,L,E,J⟩,A,D,n,C⟩:=id G;obtain⟨⟨r,j,data2,l⟩,d,g,R,c⟩:=id P;simp only at D C g c;subst D C g c;exact mX ⟨_,A,rfl⟩ ⟨_,d,rfl⟩ gD mI wS wN (wG _ _)
   (tuple_addW0 a b ([]:yB).toArray i.toArray n R L j J l (by simp)) ⟨A,d,⟨.ref b,H,I,rfl,q b H (Same.refl H) o⟩⟩
 ·refine Dz f s Z H (.ref a) (.ref b) v u Q I z t ⟨a,b,B,M,rfl,rfl,Zp.of k,Zp.of o,w,F,λe=>?_,λ_ p N=>q p _ (ND N _) Xg⟩;subst e;exact q a H (Same.refl H) (by rw[qG3];exact k)
theorem Cr(xs:List V)(a b:yG)(h:HT.sIx xs.length 0 a=0/\HT.sIx xs.length xs.length b=xs.length):XT xs a b=xs:=by unfold XT;rw[h.1,h.2,qM8,qR6,qH3]
theorem Cq{E:yL}{items:yJ}{a d:yG}{Q:yL}(ht:mS s.heap t items)(hs:s.heap.IsSliceOf sl l k .none)(pl:gO l a)(m:gO k d)
  (j:HT.sIx items.size 0 a=0/\HT.sIx items.size items.size d=items.size)
  (h:Q (.ref t) s):yV (yX prog w) A (fU (.ref t) (.ref sl)) Q E s:=by
 obtain⟨n,f,g,o⟩:=id hs;have i:s.TypeIs (.ref sl) "slice":=⟨n,f,g⟩
 unfold fU
 try with_reducible refine jP ?_
 first|refine yO (yP ?_)| skip
 refine yO (wpAny_sequenceKey ht.typeIs (by decide) ?_);refine yO (jI (name:=Str.ofString "__getitem__") ht.typeIs j6
  (jJ j6 ht.typeIs mD ?_ (args_tuple_getitem _ _)))
 show yV _ _ (Builtin.Tuple.tupleItemsOf (.ref t) >>= _) _ _ s;refine yO (tupleItemsOf_ ht ?_);refine yO (vQ i ?_);rw[if_pos (by decide)];refine yO (HT.sliceApplied_gen hs pl m ?_);have b:(((HT.sIx items.size 0 a:Nat):Int) == 0&&(1:Int) == 1&&(HT.sIx items.size items.size d - HT.sIx items.size 0 a) == items.size)=Z7:=by rw[j.1,j.2];simp
 show yV _ _ (if(((HT.sIx items.size 0 a:Nat):Int) == 0&&(1:Int) == 1&&(HT.sIx items.size items.size d - HT.sIx items.size 0 a) == items.size)=Z7 then _ else _) _ _ s;rw[if_pos b];have e:Builtin.Tuple.tupleIsExact (Value.ref t)=(typeOf (Value.ref t) >>= λc=>pure (c == .type "tuple")):=rfl;rw[e];refine yO (yO (vQ ht.typeIs (yP ?_)));rw[if_pos (by decide)];exact yO (wA (yP ⟨_,rfl,yP h⟩))
def Cp(K:yS):V->yG->yG->Hp->VK->Prop:=λx e d H Q=>∃a c,x=.ref a/\H a=Z9 (.tup c)/\∀p b,Same H b->b p=Z9 (.tup (XT c e d))->Q (.ref p) b
theorem Co:SH X (Cp X.K):=by
 intro d s Z H x v u t g j o Q I m n l k h;obtain⟨a,b,rfl,f,q⟩:=h;by_cases e:HT.sIx b.length 0 g=0/\HT.sIx b.length b.length j=b.length
 ·cases m;obtain⟨i,r,ht,y⟩:=I.tuple (Zp.of f);have c:i.toArray.size=b.length:=by rw[qA9];exact r.length.symm
  refine⟨"tuple",_,PyProof.Rows.slot_tuple_getitem.lookup,ht.typeIs,?_⟩;exact Cq ht n l k (by rw[c];exact e) ⟨.ref a,H,I,rfl,q a H (Same.refl H) (by rw[Cr b g j e];exact f)⟩
 ·exact DB d s Z H (.ref a) v u t g j o Q I m n l k ⟨a,b,rfl,Zp.of f,e,λp w=>q p _ (ND w _) Xg⟩
end
structure SC(P:yZ)(w:jD)(K:yS)(mg:Str->yF)(base:jA)(x:Str)(ps:yH)(k:Nat)(sp:Sp):Prop where
 ex:∃f fd,Yp P w K mg base Vn k f fd ps sp/\U4 K fd ps []/\lH K (.ref f)=Z7/\mg x=Z9 (.ref f)
section
variable {X:Cx}{a b c d:y4}{ta tb tc td:TE}{pos:Pos}
theorem Cn{es:yE}{p:Pos}(C:SC X.prog X.w X.K X.mg X.base x ps k sp)(n:Zg k' X.A)(l:Gl X x)(i:PA X (e::es) t)(hk:k<=k':=by decide)(hdb:Wm x:=by decide)
  (h:jE (e::es) X.env=(Z5,vL e X.env)::jE es X.env:=by rfl) (j:(wK pos (jE es X.env)).any (·.1)=Z5:=by rfl) :
  PE X (.Call (.Name x p) (e::es) [] pos) (N4 sp [] E0 t):=by obtain⟨f,q,F,o,g,m⟩:=C.ex;exact DV (hdb:=hdb) (he:=h) (hpl:=j) F (n.mono hk) l m g o .nil C7 i
end
def TK(K:yS)(H b:Hp):Prop:=∀p a,Zp K H p a->Zp K b p a
theorem TK.refl(K:yS)(H:Hp):TK K H H:=λ_ _ h=>h
theorem TK.trans{K:yS}(a:TK K H d)(b:TK K d H2):TK K H H2:=λp c h=>b p c (a p c h)
theorem dT{p:Prop}[Decidable p](h:p):decide p=Z7:=decide_eq_true h
theorem Cm:jH "len"=Z9 (.builtin "len"):=by decide +kernel
theorem Ck:jH "range"=Z9 (.type "range"):=by decide +kernel
theorem NC:jH "list"=Z9 (.type "list"):=by decide +kernel
theorem JS:jH "tuple"=Z9 (.type "tuple"):=by decide +kernel
theorem Cj:jH "min"=Z9 (.builtin "min"):=by decide +kernel
theorem Ci:jH "max"=Z9 (.builtin "max"):=by decide +kernel
theorem Cg:jH "zip"=Z9 (.type "zip"):=by decide +kernel
theorem Cf:jH "isinstance"=Z9 (.builtin "isinstance"):=by decide +kernel
theorem JR:jH "int"=Z9 (.type "int"):=by decide +kernel
theorem Ce:jH "bool"=Z9 (.type "bool"):=by decide +kernel
theorem Cd:jH "enumerate"=Z9 (.type "enumerate"):=by decide +kernel
theorem Cc:jH "str"=Z9 (.type "str"):=by decide +kernel
structure C4 where
 a:Int
 b:Int
 k:Int
 o:Int
def C4.ok(sw pl:Int)(c:C4):Prop:=0<=c.a/\c.a<c.b/\c.b<pl/\0<=c.k/\c.k<sw/\0<=c.o/\c.o<2
structure zTT(ms mp mc:Int)(sw pl:Int)(cs:List C4):Prop where
 s1:1<=sw
 s2:sw<=ms
 p1:2<=pl
 p2:pl<=mp
 c1:(cs.length:Int)<=mc
 c2:∀c∈cs,c.ok sw pl
inductive Vm(K:yS)(H:Hp):V->String->Prop where
 |non:Vm K H .non "NoneType"
 |bl (x:Bool):Vm K H (.bl x) "bool"
 |int (i:Int):Vm K H (.int i) "int"
 |str (x:Str):Vm K H (.str x) "str"
 |tup {a:yR}{xs:List V} (e:Zp K H a xs):Vm K H (.ref a) "tuple"
 |lst {a:yR}{xs:List V} (e:YT K H a xs):Vm K H (.ref a) "list"
 |dk {a:yR}{kvs:List (Zm×V)} (e:H a=Z9 (.dK kvs)):Vm K H (.ref a) "dict"
noncomputable def NB(t T:String):Bool:=t == T||(t == "bool"&&T == "int")
section
variable {X:Cx}
theorem Cb{E:yL}{Z:St}{Q:yL}(I:ZQ X k Z H s)(d:ZI x u)(ty:Vm X.K H x t)(e:W.kitOne X.K (.type t) c=Z9 b)(h:∀tk,Q (.bool b) { s with toks:=tk }):
  yV (yX X.prog X.w) A (call (.builtin "isinstance") [u,c]) Q E s:=by
 cases ty with
 |non=>cases (show u=Value.none from d);exact fL W.kitx_none I.kIn True.intro e (λz=>nomatch z) h
 |bl y=>cases (show u=Value.bool y from d);exact fL W.kitx_bool I.kIn True.intro e (λz=>nomatch z) h
 |int i=>obtain⟨t,q⟩:=(show ∃t,u=Value.int i t from d);cases q;exact fL W.kitx_int I.kIn True.intro e (λz=>nomatch z) h
 |str y=>obtain⟨t,q⟩:=(show ∃t,u=Value.str y t from d);cases q;exact fL W.kitx_str I.kIn True.intro e (λz=>nomatch z) h
 |@lst a r j =>
  cases (show u=Value.ref a from d);obtain⟨n,_,m,_⟩:=I.list j;obtain⟨o,f,g,_⟩:=m.isList;exact fL W.kitx_list I.kIn ⟨o,f,g⟩ e (λz=>nomatch z) h
 |@tup a r j =>
  cases (show u=Value.ref a from d);obtain⟨n,_,m,_⟩:=I.tuple j;obtain⟨o,f,g,_⟩:=m;exact fL W.kitx_tuple I.kIn ⟨o,f,g⟩ e (λz=>nomatch z) h
 |@dk a l j =>
  cases (show u=Value.ref a from d);obtain⟨_,_,w,_,p⟩:=(show XX X.prog X.w H s.heap a (.dK l)from I.hok a _ j)
  obtain⟨o,B,v,f,g,_⟩:=p;exact fL W.kitx_dict I.kIn ⟨o,f,g.1⟩ e (λz=>nomatch z) h
theorem Ca:XU X (.builtin "isinstance") (λc H Q=>∃x t T b,c=[x,.ty T]/\Vm X.K H x t/\W.kitOne X.K (.type t) (.type T)=Z9 b/\Q (.bl b) H):=by intro a s Z H i j Q I r h;obtain⟨x,t,T,b,rfl,ty,e,q⟩:=h;obtain⟨u,v,rfl,g,d⟩:=Qp r;cases d;exact Cb I g ty e λf=>⟨.bl b,H,I.tok f,rfl,q⟩
end
theorem B9(K:yS):(∀t∈["NoneType","bool","int","str","tuple","list","dict"],∀T∈["bool","int","tuple","list","str","dict"],W.kitOne K (.type t) (.type T)=Z9 (NB t T)):=by intro t ht T a;simp only[qA8,qD3,or_false]at ht a;rcases ht with rfl|rfl|rfl|rfl|rfl|rfl|rfl<;>rcases a with rfl|rfl|rfl|rfl|rfl|rfl<;>rfl
mutual
inductive Rp(K:yS)(H:Hp)(a0:yR->Prop):V->vA->Prop where
 |non:Rp K H a0 .non .none
 |bl (b:Bool):Rp K H a0 (.bl b) (.bool b)
 |int (i:Int):Rp K H a0 (.int i) (.int i)
 |str (x:Str):Rp K H a0 (.str x) (.str x)
 |tup {p:yR}{xs:List V}{ds:List vA} (h:Zp K H p xs) (r:RpL K H a0 xs ds):Rp K H a0 (.ref p) (.tuple ds)
 |lst {p:yR}{xs:List V}{ds:List vA} (n:a0 p) (h:YT K H p xs) (r:RpL K H a0 xs ds):Rp K H a0 (.ref p) (.list ds)
inductive RpL(K:yS)(H:Hp)(a0:yR->Prop):List V->List vA->Prop where
 |nil:RpL K H a0 [] []
 |cons {x:V}{xs:List V}{d:vA}{ds:List vA} (h:Rp K H a0 x d) (t:RpL K H a0 xs ds):RpL K H a0 (x::xs) (d::ds)
end
noncomputable def C4.d(c:C4):PyData:=.tuple [.int c.a,.int c.b,.int c.k,.int c.o]
section
variable {prog:yZ}{w:jD}{A:jC}{E:yL}{s:yQ}
theorem B8{d:yJ}{Q:yL}(c:s.heap.IsTupleIter j t n)(ht:s.heap.IsTuple t d)(f:d[n]?=Z9 v)
  (q:∀h',h'.IsTupleIter j t (n+1)->qE5 j s.heap h'->Q v { s with heap:=h' }):yV (yX prog w) A (Builtin.SmallTypes.nextOf (.ref j)) Q E s:=by obtain⟨k,b,h,a⟩:=id c;obtain⟨i,g,_,m,e⟩:=ht;unfold Builtin.SmallTypes.nextOf;refine yO (jI (name:=Str.ofString "__next__") c.typeIs vI (jJ vI c.typeIs fK ?_ (fH _)));show yV _ _ (field (.ref j) 0 >>= _) _ _ s;refine yO (vF b a (x:=.ref t) rfl ?_);show yV _ _ (if(Value.ref t == Value.none)=Z7 then _ else _) _ _ s;rw[if_neg (show ¬((Value.ref t == Value.none)=Z7)from λz=>qB1 z)];show yV _ _ (field (.ref j) 1 >>= _) _ _ s;refine yO (vF b a (x:=.int n 0) rfl ?_);show yV _ _ (seqItems? (.ref t) >>= _) _ _ s;refine yO (j3 g e ?_);simp only[f,qF1];refine yO (vJ b a (by simp) (yP ⟨v,rfl,yP (q _ ?_ (qE5.update ..))⟩));refine⟨_,qG2 _ b (wV (vK a _)),(fV ..).trans h,?_⟩;rw[vK a];simp[gK]
theorem B7{f:yJ}{Q:yL}(g:A.handled=Z8)(b:s.heap.IsTupleIter j t n)(ht:s.heap.IsTuple t f)(i:f[n]?=Z8)
  (q:∀h' e,qS7 j s.heap h'->(∃o,h'.get? e=Z9 o/\o.cls=.type "StopIteration")->E (.ref e) { s with heap:=h' }):yV (yX prog w) A (Builtin.SmallTypes.nextOf (.ref j)) Q E s:=by
 obtain⟨l,d,p,c⟩:=id b;obtain⟨r,k,_,m,h⟩:=ht;unfold Builtin.SmallTypes.nextOf;refine yO (jI (name:=Str.ofString "__next__") b.typeIs vI (jJ vI b.typeIs fK ?_ (fH _)));show yV _ _ (field (.ref j) 0 >>= _) _ _ s;refine yO (vF d c (x:=.ref t) rfl ?_);show yV _ _ (if(Value.ref t == Value.none)=Z7 then _ else _) _ _ s;rw[if_neg (show ¬((Value.ref t == Value.none)=Z7)from λz=>qB1 z)];show yV _ _ (field (.ref j) 1 >>= _) _ _ s;refine yO (vF d c (x:=.int n 0) rfl ?_);show yV _ _ (seqItems? (.ref t) >>= _) _ _ s;refine yO (j3 k h ?_);simp only[i,qF1];refine yO (wA (yO (vJ d c (by simp) ?_)));refine yO (m:=newExc (.type "StopIteration") []) ?_;simp only[newTuple,newExc];refine yO (jF ?_ (by size_fits));refine yO (m:=wB _ _) (lK (a:=Value.none) (by first|(simp only[wB];rfl)| rfl) ?_);refine jF ?_ (by size_fits);simp only[raiseNew];refine yO (wpAny_handled ?_)
 first|rw[g]| rw[show A.in1.handled=Z8 from g]
 refine yO (yP (wpAny_throw ?_));exact q _ _ (((qE5.update ..).extBut.push _).push _) ⟨_,qB2 _ rfl,rfl⟩
end
theorem B6{prog:yZ}{w:jD}{A:jC}(p:A.handled=Z8)(j t:yR)(c:t≠j)(b:yJ):
  Draws prog w A j [j,t] b.size (λi v=>b[i]?=Z9 v) (λi h=>h.IsTupleIter j t i/\h.IsTuple t b) where
 live:=λ_ _ a=>let ⟨o,ho,_⟩:=a.1;⟨o,ho⟩
 frame:=λ_ _ _ a d=>⟨a.1.at λo e=>d j (by simp) o e,let ⟨o,ho,r⟩:=a.2;⟨o,d t (by simp) o ho,r⟩⟩
 item:=λi s Q E g a n=>B8 a.1 a.2 (v:=b[i]) (by simp[g]) λl m f=>n _ l s.toks (by simp[g]) ⟨m,a.2.extBut f.extBut c⟩ f
 done:=λs Q E a k=>B7 p a.1 a.2 (by simp) k
theorem B5(l:yR)(items:yJ)(n:Nat)(b:Option yR)(sl:Array (yF)):
  Meets (Builtin.«enumerate.__new__» ⟨[.type "enumerate",.ref l],[]⟩) (λ_ R s=>s.heap.get? l=Z9 { cls:=.type "tuple",dict:=b,data:=.seq items n,slots:=sl } /\
   R (.ok (.ret (.ref (s.heap.push { cls:=.type "tuple_iterator",data:=.fields #[.ref l,.int 0 0] }).objs.size)))
    { s with heap:=(s.heap.push { cls:=.type "tuple_iterator",data:=.fields #[.ref l,.int 0 0] }).push { cls:=.type "enumerate",data:=.fields #[.none,.bool Z5,.ref s.heap.objs.size,gK 0,.none,.none] } }) :=
 .of_wp λi w A R s h=>by
  obtain⟨k,g,d,m,j⟩:=s;obtain⟨a,h⟩:=h;have f:=sub_enumerate;have e:qK3 (Shared.heap ⟨k,g,d,m,j⟩) l items:=⟨_,a,rfl,n,rfl⟩
  wp_walk using AutoSeq1.wpAny_loadPart' a
  refine wpAny_stack_any λo=>yP ?_;split
  ·rename_i c _ _ _ _ _;cases (c == Value.type "enumerate")<;>(wp_walk using AutoSeq1.wpAny_loadPart' a,jY e;exact⟨_,rfl,h⟩)
  ·wp_walk using AutoSeq1.wpAny_loadPart' a,jY e
   exact⟨_,rfl,h⟩
section
variable {X:Cx}{pins:yD}{Z:St}{H:Hp}{s:yQ}
mutual
theorem ZQ.reads(I:ZQ X pins Z H s){m:yR->Prop}:∀{x:V}{d:vA}{u:yT},Rp X.K H m x d->ZI x u->∃e,Reads s.heap u d e
 |_,_,u,.non,r=>by cases (show u=Value.none from r);exact⟨_,.none⟩
 |_,_,u,.bl b,r=>by cases (show u=Value.bool b from r);exact⟨_,.bool b⟩
 |_,_,u,.int i,r=>by obtain⟨t,q⟩:=(show ∃t,u=Value.int i t from r);cases q;exact⟨_,.int i t⟩
 |_,_,u,.str y,r=>by obtain⟨t,q⟩:=(show ∃t,u=Value.str y t from r);cases q;exact⟨_,.str y t⟩
 |_,_,u,.tup (p:=p) h rr,r=>by cases (show u=Value.ref p from r);obtain⟨g,c,⟨o,k,f,n,j⟩,_⟩:=I.tuple h;obtain⟨e,a⟩:=I.readsL rr c;exact⟨_,.tuple k f j (by simpa using a)⟩
 |_,_,u,.lst (p:=p) _ h rr,r=>by cases (show u=Value.ref p from r);obtain⟨g,c,l,_⟩:=I.list h;obtain⟨o,k,f,n,j⟩:=l.isList;obtain⟨e,a⟩:=I.readsL rr c;exact⟨_,.list k f j (by simpa using a)⟩
theorem ZQ.readsL(I:ZQ X pins Z H s){f:yR->Prop}:∀{xs:List V}{ds:List vA}{a:yB},RpL X.K H f xs ds->ZM xs a->∃c,ReadsAll s.heap a ds c
 |_,_,_,.nil,.nil=>⟨_,.nil⟩
 |_,_,_,.cons h t,.cons r d=>by obtain⟨i,e⟩:=I.reads h r;obtain⟨g,b⟩:=I.readsL t d;exact⟨_,.cons e b⟩
end
def U1(d:vA):Prop:=d.canLay0=Z7/\d.depth<=60
theorem B3(n:X.A.units+64<j5):Y6 X (y7 .Eq) (λx y H Q=>∃(N c:yR->Prop) (b a:vA),Rp X.K H N x b/\Rp X.K H c y a/\U1 b/\U1 a/\Q (.bl (PyData.eqv b a)) H):=by intro e s Z H x y v u Q I i f h;obtain⟨N,c,b,a,g,k,d,m,q⟩:=h;obtain⟨o,l⟩:=I.reads g i;obtain⟨bs,j⟩:=I.reads k f;exact SeqAt.compareEq_reads l j d.1 m.1 (by have:=d.2;omega) ⟨.bl _,H,I,rfl,q⟩
theorem BZ(n:X.A.units+64<j5):Y6 X (y7 .NotEq) (λx y H Q=>∃(N c:yR->Prop) (b a:vA),Rp X.K H N x b/\Rp X.K H c y a/\U1 b/\U1 a/\Q (.bl (!PyData.eqv b a)) H):=by intro e s Z H x y v u Q I i f h;obtain⟨N,c,b,a,g,k,d,m,q⟩:=h;obtain⟨o,l⟩:=I.reads g i;obtain⟨bs,j⟩:=I.reads k f;exact SeqAt.compareNe_reads l j d.1 m.1 (by have:=d.2;omega) ⟨.bl _,H,I,rfl,q⟩
end
def X6(b:Bool)(K:yS)(H:Hp)(a:yR)(xs:List V):Prop:=match b with
 |true=>Zp K H a xs
 |false=>YT K H a xs
def Wi(b:Bool)(h:jA)(a:yR)(c:yJ):Prop:=match b with
 |true=>h.IsTuple a c
 |false=>h.IsList a c
def WM(b:Bool)(h:jA)(j a:yR)(i:Nat):Prop:=match b with
 |true=>h.IsTupleIter j a i
 |false=>h.IsListIter j a i
theorem WM.obj(x:WM b h j a i):∃o,h.get? j=Z9 o/\∀v,o.data≠.cell v:=by
 cases b with
 |true=>obtain⟨o,d,_,c⟩:=(x:h.IsTupleIter j a i);exact⟨o,d,λv q=>by rw[c]at q;cases q⟩
 |false=>obtain⟨o,d,_,c⟩:=(x:h.IsListIter j a i);exact⟨o,d,λv q=>by rw[c]at q;cases q⟩
theorem WM.keep(x:WM b h j a i)(e:∀o,h.get? j=Z9 o->h'.get? j=Z9 o):WM b h' j a i:=by
 cases b with
 |true=>exact Heap.IsTupleIter.at x e
 |false=>exact Heap.IsListIter.at x e
theorem Wi.lt(x:Wi b h a c):a<h.objs.size:=by
 cases b with
 |true=>obtain⟨_,e,_⟩:=(x:h.IsTuple a c);exact qB4 e
 |false=>obtain⟨_,e,_⟩:=(x:h.IsList a c);exact qB4 e
theorem SB(b:Bool)(d:A.handled=Z8)(j t:yR)(a:t≠j)(c:yJ):
  Draws prog w A j [j,t] c.size (λi v=>c[i]?=Z9 v) (λi h=>WM b h j t i/\Wi b h t c):=by
 cases b with
 |true=>exact B6 d j t a c
 |false=>exact Draws.list d j t a c
section
variable {X:Cx}{pins:yD}{Z:St}{H:Hp}{s:yQ}
theorem ZQ.sqX(I:ZQ X pins Z H s)(h:X6 b X.K H a xs):∃its,ZM xs its/\Wi b s.heap a its.toArray:=by
 cases b with
 |true=>obtain⟨its,r,p,_⟩:=I.tuple h;exact⟨its,r,p⟩
 |false=>obtain⟨its,r,p,_⟩:=I.list h;exact⟨its,r,p.isList⟩
theorem ZQ.sqX_inj(I:ZQ X pins Z H s)(h:X6 b X.K H a xs)(h':X6 b X.K H a ys):xs=ys:=by
 cases b with
 |true=>exact I.tuple_inj h h'
 |false=>exact I.list_inj h h'
end
noncomputable def VJ(b:Bool)(K:yS)(a:yR):It :=
  ⟨λi H=>∃c x,X6 b K H a c/\c[i]?=Z9 x,
   λi H v d=>∃T,H T=Z8/\v=.ref T/\∀c x,X6 b K H a c->c[i]?=Z9 x->d=ZE H T (.tup [.int i,x]),
   λi H=>∃c,X6 b K H a c/\i=c.length⟩
theorem U0{P:yR->Prop}:∀x∈([]:yC),P x:=λ_ h=>by cases h
theorem YJ{P:yR->Prop}{l:yC}(h:P a)(t:∀x∈l,P x):∀x∈a::l,P x:=λx b=>(qA8.mp b).elim (λe=>e▸h) (t x)
theorem JQ{d:yC}(h:∀b∈d,YF X a H b)(n:∀b∈d,b≠T):∀b∈d,YF X a (ZE H T o) b:=λb c=>⟨by rw[YX (n b c)];exact(h b c).1,(h b c).2⟩
structure Rw(b:Bool)(e it a:yR)(i:Nat)(h:jA):Prop where
 a1:∃old,IsEnum h e it (i:Nat) old
 a2:WM b h it a i
theorem Rw.obj(st:Rw b e d a i h):∀c∈[e,d],∃o,h.get? c=Z9 o/\∀v,o.data≠.cell v:=by obtain⟨_,f⟩:=st.a1;exact YJ ⟨_,f,λv q=>by cases q⟩ (YJ st.a2.obj U0)
theorem Rw.ne(st:Rw b e d a i h){T:yR}(f:h.objs.size<=T):∀c∈[e,d],c≠T:=λc g=>by obtain⟨o,z,_⟩:=st.obj c g;exact qC3 (qC1 (qB4 z) f)
theorem BY{i:Nat}{Z:St}(I:ZQ X d Z H s)(h:X6 b X.K H a xs)(ex:xs[i]?=Z9 x)(c:List V)(f:V)(g:X6 b X.K H a c)(e:c[i]?=Z9 f):ZE H T (.tup [.int i,x])=ZE H T (.tup [.int i,f]):=by have j:=I.sqX_inj h g;subst j;rw[ex]at e;cases e;rfl
theorem BX{c:yB}{a:yJ}(e:c[i]?=Z9 d)(f:∃b v,c.toArray[i]?=Z9 v/\a=#[.int (i:Nat) b,v]):∃b,a=#[.int (i:Nat) b,d]:=by obtain⟨b,v,g,rfl⟩:=f;rw[qF4,e]at g;cases g;exact⟨b,rfl⟩
theorem JP{P:yZ}{w:jD}{K:PySem.W.Frag}{r:yE}{k:Nat}{pos:Pos}(b:Bool)(e l a:yR)(g:e≠l)(u:e≠a)(p:a≠l):
  Xv P w K (.Tuple r k pos) (VJ b K a) [e,l] e (Rw b e l a) where
 mem:=by simp
 obj:=λi h f=>f.obj
 keep:=λi h v ⟨⟨Q,h1⟩,V⟩ m=>⟨⟨Q,m e (by simp) _ h1⟩,V.keep λo z=>m l (by simp) o z⟩
 item:=by intro X M F O n i j s Z H E I t f L;subst M F O;obtain⟨xs,x,y,ex⟩:=L;obtain⟨d,R,G⟩:=I.sqX y;obtain⟨u1,e1,S⟩:=R.get ex;have D:=SB (prog:=X.prog) (w:=X.w) (A:=X.A.in1) b (show X.A.in1.handled=Z8 from I.ok.hd n) l a p d.toArray;have W:=WalksT.enumerateD (A:=X.A) D e g (by simp[g,u]) (by simp);have hl1:i<d.length:=(qA7.mp e1).1;refine W.item i s _ _ (by simp only[qA9];omega) ⟨f.1,f.2,G⟩ λT vals v tk hv B J hM m=>?_;obtain⟨Y,N⟩:=BX e1 hv;subst N;have U:=f.ne B;refine⟨_,rfl,W.go _ _ _ i T { s with heap:=v,toks:=tk } _ _ hM λV q C=>?_⟩;have I1:ZQ X j Z (ZE H T (.tup [.int i,x])) { s with heap:=v,toks:=tk }:=I.yields (its:=[.int i Y,u1]) t m B (.cons ⟨Y,rfl⟩ (.cons S .nil)) (by show 2<=y8;decide) J;exact⟨.ref T,_,I1.turnedL (tk:=tk) (JQ t U) C,rfl,⟨T,I.hok.fresh B,rfl,BY I y ex⟩,⟨q.1,q.2.1⟩,λc n=>by rw[YX (U c n)];exact(t c n).1⟩
 done:=by
  intro X M F O n i j s Z H E I t f L;subst M F O;obtain⟨xs,y,ei⟩:=L;obtain⟨d,R,G⟩:=I.sqX y;have D:=SB (prog:=X.prog) (w:=X.w) (A:=X.A.in1) b (show X.A.in1.handled=Z8 from I.ok.hd n) l a p d.toArray;have W:=WalksT.enumerateD (A:=X.A) D e g (by simp[g,u]) (by simp);have en:i=d.toArray.size:=by rw[qA9,<- R.length];exact ei
  refine W.done s _ _ (by rw[<- en];exact⟨f.1,f.2,G⟩) λv tk m=>?_;exact⟨rfl,I.turnedL t m⟩
 self:=λ_ _ _ _ _ f h=>let ⟨⟨_,z⟩,_⟩:=f;fW z h
section
variable {X:Cx}
def JO(K:yS)(d:TA):TI:=fun Z H R=>d Z H λe b=>∃a,e=[.ref a]/\((∃c,Zp K b a c)/\R (VJ Z7 K a) b∨(∃c,YT K b a c)/\R (VJ Z5 K a) b)
theorem BW{w:yE}(P:Gl X "enumerate")(T:X.mg "enumerate"=Z8)(N:PA X [a] L)(hs:jE [a] X.env=[(Z5,vL a X.env)]:=by rfl):
  PI X (.Tuple w k v) (.Call (.Name "enumerate" p) [a] [] pos) (JO X.K L):=by
 intro u s Z H R I h;refine Call_ (Va I P T Cd (jS (Zv (N pos u s Z H _ I h) λus d ⟨vs,G,j,K,V⟩=>?_) (by rw[hs];rfl) (by rfl)));obtain⟨t,e,q⟩:=V;subst e;rcases q with⟨⟨U,A⟩,q⟩| ⟨⟨U,A⟩,q⟩
 ·cases K with
  |cons r D =>
   cases D;cases r;obtain⟨i,S,y,M⟩:=j.tuple A;obtain⟨⟨c,E,O,Q⟩,J,C,n,B⟩:=id y
   replace C:c=.type "tuple":=C
   replace B:O=.seq i.toArray n:=B
   subst C B;have f:t<d.heap.objs.size:=qB4 J;refine callType_new PySem.F.called_enumerate (by decide) (PySem.F.typeCall_enumerate_1 _) (PySem.F.newCall_enumerate_1 _) (λobj=>PySem.F.args_object_init_2 obj _) PySem.F.entry_enumerate_new (B5 t i.toArray n E Q) ⟨J,?_⟩;have F:(d.heap.push { cls:=.type "tuple_iterator",data:=.fields #[.ref t,.int 0 0] }).objs.size=d.heap.objs.size+1:=qF6 ..;show _/\_;rw[F];have l:IsEnum ((d.heap.push { cls:=.type "tuple_iterator",data:=.fields #[.ref t,.int 0 0] }).push { cls:=.type "enumerate",data:=.fields #[.none,.bool Z5,.ref d.heap.objs.size,gK 0,.none,.none] }) (d.heap.objs.size+1) d.heap.objs.size 0 .none:=by have z:=qB2 (d.heap.push { cls:=.type "tuple_iterator",data:=.fields #[.ref t,.int 0 0] }) (o:={ cls:=.type "enumerate",data:=.fields #[.none,.bool Z5,.ref d.heap.objs.size,gK 0,.none,.none] }) rfl;rw[F]at z;exact z
   refine⟨⟨_,l,rfl⟩,?_⟩;refine fW l ?_;have kp:∀b o,d.heap.get? b=Z9 o->((d.heap.push { cls:=.type "tuple_iterator",data:=.fields #[.ref t,.int 0 0] }).push { cls:=.type "enumerate",data:=.fields #[.none,.bool Z5,.ref d.heap.objs.size,gK 0,.none,.none] }).get? b=Z9 o:=λb o x=>qA1 _ (qA1 _ x);refine⟨_,_,_,_,G,rfl,j.kept (t':=d.toks) kp,JP Z7 (d.heap.objs.size+1) d.heap.objs.size t (qR9 _) (qI7 (qE3 f)) (qC3 f),⟨⟨_,l⟩,⟨_,qA1 _ (qB2 _ rfl),rfl,rfl⟩⟩,λb m=>?_,q⟩;have g:d.heap.objs.size<=b:=by
    simp only[qA8,qD3,or_false]at m;rcases m with rfl|rfl
    ·exact qL3 _
    ·exact qA6 _
   exact j.fpOk g (j.hok.fresh g)
 ·cases K with
  |cons r D =>
   cases D;cases r;obtain⟨i,S,y,M⟩:=j.list A;have f:t<d.heap.objs.size:=by obtain⟨_,e,_⟩:=y.isList;exact qB4 e
   refine call_enumerate_list y.isList λh' l W Y hk=>?_;refine fW l ?_;refine⟨_,_,_,_,G,rfl,j.kept (t':=d.toks) hk,JP Z5 (d.heap.objs.size+1) d.heap.objs.size t (qR9 _) (qI7 (qE3 f)) (qC3 f),⟨⟨_,l⟩,W⟩,λb m=>?_,q⟩;have g:d.heap.objs.size<=b:=by
    simp only[qA8,qD3,or_false]at m;rcases m with rfl|rfl
    ·exact qL3 _
    ·exact qA6 _
   exact j.fpOk g (j.hok.fresh g)
end
section
variable {X:Cx}
theorem JN{h:jA}:∀{ds:List vA}{b:yB}{c:yC}{i:Nat}{u:yT},ReadsAll h b ds c->b[i]?=Z9 u->∃d bs,ds[i]?=Z9 d/\Reads h u d bs
 |_,_,_,i,u,.nil,e=>by simp at e
 |_,_,_,0,u,.cons r a,e=>by simp at e;subst e;exact⟨_,_,rfl,r⟩
 |_,_,_,i+1,u,.cons r a,e=>by rw[qC9]at e;obtain⟨d,bs,g,f⟩:=JN a e;exact⟨d,bs,by rw[qC9];exact g,f⟩
open Classical in
noncomputable def WU(h:jA)(b:vA)(y:yT):Bool:=decide (∃d a,Reads h y d a/\d.canLay0=Z7/\PyData.eqv d b=Z7)
theorem JM{a:yC}(r:Reads h y d a)(c:d.canLay0=Z7):WU h dx y=PyData.eqv d dx:=by
 classical
 unfold WU;cases q:PyData.eqv d dx with
 |true=>exact decide_eq_true ⟨d,a,r,c,q⟩
 |false =>
  refine decide_eq_false ?_;rintro⟨g,b,f,i,e⟩;have:=SeqAt.Reads.unique d g y a b c r f;subst this;rw[q]at e;cases e
end
structure Qf(z TI TO i1 i2:yR)(f1 f2:yC):Prop where
 TIz:TI≠z
 TOz:TO≠z
 i1z:i1≠z
 i2z:i2≠z
 TITO:TI≠TO
 TIi1:TI≠i1
 TIi2:TI≠i2
 TOi1:TO≠i1
 TOi2:TO≠i2
 i12:i1≠i2
 z1:z∉f1
 z2:z∉f2
 O1:TO∉f1
 O2:TO∉f2
 j1:i2∉f1
 j2:i1∉f2
section
variable {prog:yZ}{w:jD}{A:jC}{E:yL}{s:yQ}
variable {z TI TO i1 i2:yR}{f1 f2:yC}{n1 n2 k:Nat}{P1 P2:Nat->yT->Prop}{S1 S2:Nat->jA->Prop}
theorem Draws.sb{a:yC}{St:Nat->jA->Prop}(D:Draws prog w A j a n P St)(st:St i h)(sb:qE5 c h h')(f:c∉a):St i h' :=
 D.frame _ _ _ st λb d o e=>sb.extBut b o (λq=>f (q▸d)) e
theorem JL(hz:fJ s.heap z TI TO .none)(Z:wC s.heap TI (.ref i1) (.ref i2))(U:wC s.heap TO a b)(g:A.handled=Z8)
  (p:∀A:jC,A.handled=Z8->Draws prog w A i1 f1 n1 P1 S1) (u:∀A:jC,A.handled=Z8->Draws prog w A i2 f2 n2 P2 S2) (d:Qf z TI TO i1 i2 f1 f2) (h1:S1 k s.heap) (h2:S2 k s.heap)
  (hQ:k<n1->k<n2->∀x y h' tk,P1 k x->P2 k y->fJ h' z TI TO (gK s.heap.objs.size)->wC h' TO x y->S1 (k+1) h'->S2 (k+1) h'->wC h' s.heap.objs.size x y->h'.objs.size=s.heap.objs.size+1 ->
   (∀c o,c≠z->c≠TO->c≠i1->c≠i2->s.heap.get? c=Z9 o->h'.get? c=Z9 o)->Q (.done (.ret (.ref s.heap.objs.size))) { s with heap:=h',toks:=tk })
  (hE:(k=n1∨k=n2)->∀h' e tk,(∀c o,c≠z->c≠TO->c≠i1->c≠i2->s.heap.get? c=Z9 o->h'.get? c=Z9 o)->(∃o,h'.get? e=Z9 o/\o.cls=.type "StopIteration")->E (.ref e) { s with heap:=h',toks:=tk })
  (hk1:k<=n1) (hk2:k<=n2):yV (yX prog w) A (Builtin.«zip.__next__» ⟨[.ref z],[]⟩) Q E s:=by
 show yV _ _ (field (.ref z) 2 >>= _) _ _ _;refine yO (vF hz rfl (x:=.bool Z5) rfl ?_);show yV _ _ (field (.ref z) 3 >>= _) _ _ _;refine yO (vF hz rfl (x:=.ref TI) rfl ?_);refine yO (j3 Z rfl ?_);show yV _ _ (Builtin.SmallTypes.ownedTupleIsFree (.ref z) >>= _) _ _ _;refine yO ?_;unfold Builtin.SmallTypes.ownedTupleIsFree;refine yO (vF hz rfl (x:=.none) rfl (yP ?_));simp only[if_true];refine yO (wA ?_);refine yO (vF hz rfl (x:=.ref TO) rfl ?_);refine yO (vT hz (by simp) λha L n=>?_)
 replace L:fJ ha z TI TO .ellipsis:=L
 have F:S1 k ha:=Draws.sb (p A g) h1 n d.z1;have Y:S2 k ha:=Draws.sb (u A g) h2 n d.z2;have oa:wC ha TO a b:=n.extBut _ _ d.TOz U;refine yO ?_;simp only[List.zipIdx_cons,List.zipIdx_nil,qS8,qT3];refine yO (yO (wpAny_onRaise ?_));show yV _ _ (Builtin.SmallTypes.nextOf (.ref i1) >>= _) _ _ _;by_cases l1:k<n1
 ·refine yO ((p _ g).item k _ _ _ l1 F λx hb tb px N sb=>yP ?_);have ob:wC hb TO a b:=sb.extBut _ _ d.TOi1 oa;have V:S2 k hb:=Draws.sb (u A g) Y sb d.j2;have zb:fJ hb z TI TO .ellipsis:=sb.extBut _ _ d.i1z.symm L;refine yO (j3 ob rfl ?_);refine yO (lM ob λhc oc B=>?_)
  replace oc:wC hc TO x b:=oc
  have S:S1 (k+1) hc:=Draws.sb (p A g) N B d.O1;have I:S2 k hc:=Draws.sb (u A g) V B d.O2;have zc:fJ hc z TI TO .ellipsis:=B.extBut _ _ d.TOz.symm zb;refine yO (wpAny_letGo (yP ?_));refine yO (yO (wpAny_onRaise ?_));show yV _ _ (Builtin.SmallTypes.nextOf (.ref i2) >>= _) _ _ _;by_cases P:k<n2
  ·refine yO ((u _ g).item k _ _ _ P I λy hd td py s2d i=>yP ?_);have od:wC hd TO x b:=i.extBut _ _ d.TOi2 oc;have s1d:S1 (k+1) hd:=Draws.sb (p A g) S i d.j1;have t:fJ hd z TI TO .ellipsis:=i.extBut _ _ d.i2z.symm zc;refine yO (j3 od rfl ?_);refine yO (lM od λhe l D=>?_)
   replace l:wC he TO x y:=l
   have T:S1 (k+1) he:=Draws.sb (p A g) s1d D d.O1;have O:S2 (k+1) he:=Draws.sb (u A g) s2d D d.O2;have ze:fJ he z TI TO .ellipsis:=D.extBut _ _ d.TOz.symm t;refine yO (wpAny_letGo (yP (yP ?_)));refine yO (j3 l rfl ?_);refine yO (lO ?_);have H:he.objs.size=s.heap.objs.size:=by rw[D.1,i.1,B.1,sb.1,n.1]
   have kp:∀c o,c≠z->c≠TO->c≠i1->c≠i2->s.heap.get? c=Z9 o->he.get? c=Z9 o:=λc o h v r G e =>
    D.extBut _ _ v (i.extBut _ _ G (B.extBut _ _ v (sb.extBut _ _ r (n.extBut _ _ h e))))
   have J:z<he.objs.size:=qB4 ze;show yV _ _ (Builtin.SmallTypes.ownedTupleHandOut (.ref z) (.ref he.objs.size) >>= _) _ _ _;refine yO ?_;unfold Builtin.SmallTypes.ownedTupleHandOut;have zf:fJ (he.push { cls:=.type "tuple",data:=.seq #[x,y] }) z TI TO .ellipsis:=qA1 _ ze;refine yO (vT zf (by simp) λhg M sg=>?_)
   replace M:fJ hg z TI TO (gK he.objs.size):=M
   refine vT M (by simp) λhi K W=>?_
   replace K:fJ hi z TI TO (gK he.objs.size):=K
   have up:∀c o,c≠z->he.get? c=Z9 o->hi.get? c=Z9 o:=λc o h e=>W.extBut _ _ h (sg.extBut _ _ h (qA1 _ e));have tz:wC hi he.objs.size x y:=W.extBut _ _ (qI7 J) (sg.extBut _ _ (qI7 J) (qB2 _ rfl));have zz:hi.objs.size=he.objs.size+1:=by rw[W.1,sg.1,qF6]
   have R:S1 (k+1) hi:=(p A g).frame _ _ _ T λb hb o e=>up b o (λq=>d.z1 (q▸hb)) e;have X:S2 (k+1) hi:=(u A g).frame _ _ _ O λb hb o e=>up b o (λq=>d.z2 (q▸hb)) e;rw[H]at K tz zz;refine yP ?_;show Q (.done (.ret (.ref he.objs.size))) _;rw[H];exact hQ l1 P x y hi td px py K (up _ _ d.TOz l) R X tz zz λc o h v r G e=>up c o h (kp c o h v r G e)
  ·have e2:k=n2:=qS9 hk2 (qO2 P);refine yO ((u _ g).done _ _ _ (e2▸I) λhd e i he=>?_);obtain⟨l,f,j⟩:=he;have t:fJ hd z TI TO .ellipsis:=i _ _ d.i2z.symm zc;have m:e≠z:=λq=>by subst q;rw[t]at f;cases f;simp at j
   refine vT t (by simp) λhf _ C=>hE (.inr e2) hf e tb (λc o h v r G q=>C.extBut _ _ h (i _ _ G (B.extBut _ _ v (sb.extBut _ _ r (n.extBut _ _ h q))))) ⟨l,C.extBut _ _ m f,j⟩
 ·have e1:k=n1:=qS9 hk1 (qO2 l1);refine yO ((p _ g).done _ _ _ (e1▸F) λhd e i he=>?_);obtain⟨l,f,j⟩:=he;have t:fJ hd z TI TO .ellipsis:=i _ _ d.i1z.symm L;have m:e≠z:=λq=>by subst q;rw[t]at f;cases f;simp at j
  exact vT t (by simp) λhf _ C=>hE (.inl e1) hf e s.toks (λc o h _ r _ q=>C.extBut _ _ h (i _ _ r (n.extBut _ _ h q))) ⟨l,C.extBut _ _ m f,j⟩
theorem WalksT.zipD(u:A.handled=Z8)(B:∀A:jC,A.handled=Z8->Draws prog w A i1 f1 n1 P1 S1)(G:∀A:jC,A.handled=Z8->Draws prog w A i2 f2 n2 P2 S2)(n:Qf z TI TO i1 i2 f1 f2)(R:i1∈f1)(Z:i2∈f2):
  WalksT prog w A z (z::TI::TO::f1++f2) [z,TO,i1,i2] (min n1 n2) (λi D=>∃x y,P1 i x/\P2 i y/\D=#[x,y])
   (λi h=>fJ h z TI TO .none/\wC h TI (.ref i1) (.ref i2)/\(∃a b,wC h TO a b)/\S1 i h/\S2 i h)
   (λi T h=>fJ h z TI TO (gK T)/\wC h TI (.ref i1) (.ref i2)/\(∃a b,wC h TO a b)/\S1 (i+1) h/\S2 (i+1) h/\T≠z/\T≠TO/\T≠i1/\T≠i2) where
 sub:=λc g=>by simp at g ⊢;rcases g with rfl|rfl|rfl|rfl<;>simp[R,Z]
 frame:=λi h C j hk=>by obtain⟨m,d,⟨a,b,f⟩,r,t⟩:=j;exact⟨hk z (by simp) _ m,hk TI (by simp) _ d,⟨a,b,hk TO (by simp) _ f⟩,(B A u).frame _ _ _ r λb J o e=>hk b (by simp[J]) o e,(G A u).frame _ _ _ t λb J o e=>hk b (by simp[J]) o e⟩
 item:=λi s Q E hi j v=>by
  obtain⟨m,d,⟨a,b,f⟩,r,t⟩:=j;have p:s.TypeIs (.ref z) "zip":=⟨_,m,rfl⟩
  have lt:∀{c o},s.heap.get? c=Z9 o->s.heap.objs.size≠c:=λe=>qI7 (qB4 e);unfold wQ;refine yO (vV (jI (name:=Str.ofString "__next__") p fI
   (jJ fI p F.entry_zip_next (JL m d f u B G n r t (λ_ _ x y C K Y M V a2 W a4 a5 a6 hk=>⟨_,rfl,yP ?_⟩) (λq=>by omega) (by omega) (by omega)) (F.args_zip_next_1 _))))
  refine v s.heap.objs.size #[x,y] C K ⟨x,y,Y,M,rfl⟩ (qA6 _) ⟨_,a5,rfl,_,rfl⟩ ⟨V,hk _ _ n.TIz n.TITO n.TIi1 n.TIi2 d,⟨_,_,a2⟩,W,a4,lt m,lt f,?_,?_⟩
   λc o g e=>hk c o (λx=>g (by simp[x])) (λx=>g (by simp[x])) (λx=>g (by simp[x])) (λx=>g (by simp[x])) e
  ·obtain⟨_,e⟩:=(B A u).live _ _ r;exact lt e
  ·obtain⟨_,e⟩:=(G A u).live _ _ t;exact lt e
 go:=λL k O i T s Q E H v=>by obtain⟨m,d,⟨a,b,f⟩,r,t,_⟩:=H;refine wpAny_letOwnedTupleGo_zip m λC I l=>v C ⟨I,l.extBut _ _ n.TIz d,⟨a,b,l.extBut _ _ n.TOz f⟩,Draws.sb (B A u) r l n.z1,Draws.sb (G A u) t l n.z2⟩ λc o g e=>l.extBut _ _ (λx=>g (by simp[x])) e
 apart:=λi T h H p=>by
  obtain⟨_,_,_,_,_,S,t2,N,X⟩:=H;simp at p;rcases p with rfl|rfl|rfl|rfl
  ·exact S rfl
  ·exact t2 rfl
  ·exact N rfl
  ·exact X rfl
 done:=λs Q E j v=>by
  obtain⟨m,d,⟨a,b,f⟩,r,t⟩:=j;have p:s.TypeIs (.ref z) "zip":=⟨_,m,rfl⟩
  unfold wQ;refine yO (vV (jI (name:=Str.ofString "__next__") p fI
   (jJ fI p F.entry_zip_next (JL m d f u B G n r t (λq1 q2=>by omega) (λ_ C e K hk P=>?_) (by omega) (by omega)) (F.args_zip_next_1 _))))
  obtain⟨o,U,g⟩:=P;refine yO (wZ (T := "StopIteration") (b:=Z7) ⟨o,U,g⟩ lQ ?_);exact yP (v _ _ λc o g e=>hk c o (λx=>g (by simp[x])) (λx=>g (by simp[x])) (λx=>g (by simp[x])) (λx=>g (by simp[x])) e)
 self:=λi s Q E j v=>gF j.1 v
end
noncomputable def UZ(b:Bool)(l:yR):Obj:={ cls:=.type (if b then "tuple_iterator" else "list_iterator"),data:=.fields #[.ref l,.int 0 0] }
noncomputable abbrev Qe(h:jA)(b1 a:Bool)(c b:yR):Heap:=(h.push (UZ b1 c)).push (UZ a b)
noncomputable abbrev Qd(h:jA)(b1 b:Bool)(a c:yR):Heap:=(Qe h b1 b a c).push { cls:=.type "tuple",data:=.seq #[.ref h.objs.size,.ref (h.push (UZ b1 a)).objs.size] }
noncomputable abbrev UB(h:jA)(b1 a:Bool)(c b:yR):Heap:=(Qd h b1 a c b).push { cls:=.type "tuple",data:=.seq #[.none,.none] }
noncomputable abbrev Vl(h:jA)(b1 a:Bool)(c b:yR):Heap:=(UB h b1 a c b).push { cls:=.type "zip",data:=.fields #[.none,.bool Z5,.bool Z5,.ref (Qe h b1 a c b).objs.size,.ref (Qd h b1 a c b).objs.size] }
theorem BV(a b:yR)(xs ys:yJ):
  Meets (Builtin.«zip.__new__» ⟨[.type "zip",.ref a,.ref b],[]⟩) (λ_ R s=>s.heap.IsTuple a xs/\s.heap.IsTuple b ys /\
   R (.ok (.ret (.ref (UB s.heap Z7 Z7 a b).objs.size))) { s with heap:=Vl s.heap Z7 Z7 a b }) :=
 .of_wp λl w A R s h=>by
  obtain⟨m,g,d,n,k⟩:=s;obtain⟨f,c,h⟩:=h;have j:=sub_zip;have e:qK3 (Shared.heap ⟨m,g,d,n,k⟩) a xs:=f;have i:qK3 (Shared.heap ⟨m.push { cls:=.type "tuple_iterator",data:=.fields #[.ref a,.int 0 0] },g,d,n,k⟩) b ys:=qK3.push c _
  wp_walk using jY e,jY i
  exact⟨_,rfl,h⟩
theorem BU(a b:yR)(xs ys:yJ):
  Meets (Builtin.«zip.__new__» ⟨[.type "zip",.ref a,.ref b],[]⟩) (λ_ R s=>s.heap.IsTuple a xs/\s.heap.IsList b ys /\
   R (.ok (.ret (.ref (UB s.heap Z7 Z5 a b).objs.size))) { s with heap:=Vl s.heap Z7 Z5 a b }) :=
 .of_wp λl w A R s h=>by
  obtain⟨m,g,d,n,k⟩:=s;obtain⟨f,c,h⟩:=h;have j:=sub_zip;have e:qK3 (Shared.heap ⟨m,g,d,n,k⟩) a xs:=f;have i:qM1 (Shared.heap ⟨m.push { cls:=.type "tuple_iterator",data:=.fields #[.ref a,.int 0 0] },g,d,n,k⟩) b ys:=qM1.push c _
  wp_walk using jY e,j9 i
  exact⟨_,rfl,h⟩
theorem BS(a b:yR)(xs ys:yJ):
  Meets (Builtin.«zip.__new__» ⟨[.type "zip",.ref a,.ref b],[]⟩) (λ_ R s=>s.heap.IsList a xs/\s.heap.IsTuple b ys /\
   R (.ok (.ret (.ref (UB s.heap Z5 Z7 a b).objs.size))) { s with heap:=Vl s.heap Z5 Z7 a b }) :=
 .of_wp λl w A R s h=>by
  obtain⟨m,g,d,n,k⟩:=s;obtain⟨f,c,h⟩:=h;have j:=sub_zip;have e:qM1 (Shared.heap ⟨m,g,d,n,k⟩) a xs:=f;have i:qK3 (Shared.heap ⟨m.push { cls:=.type "list_iterator",data:=.fields #[.ref a,.int 0 0] },g,d,n,k⟩) b ys:=qK3.push c _
  wp_walk using j9 e,jY i
  exact⟨_,rfl,h⟩
theorem BR(a b:yR)(xs ys:yJ):
  Meets (Builtin.«zip.__new__» ⟨[.type "zip",.ref a,.ref b],[]⟩) (λ_ R s=>s.heap.IsList a xs/\s.heap.IsList b ys /\
   R (.ok (.ret (.ref (UB s.heap Z5 Z5 a b).objs.size))) { s with heap:=Vl s.heap Z5 Z5 a b }) :=
 .of_wp λl w A R s h=>by
  obtain⟨m,g,d,n,k⟩:=s;obtain⟨f,c,h⟩:=h;have j:=sub_zip;have e:qM1 (Shared.heap ⟨m,g,d,n,k⟩) a xs:=f;have i:qM1 (Shared.heap ⟨m.push { cls:=.type "list_iterator",data:=.fields #[.ref a,.int 0 0] },g,d,n,k⟩) b ys:=qM1.push c _
  wp_walk using j9 e,j9 i
  exact⟨_,rfl,h⟩
theorem BQ(b1 c:Bool)(a b:yR)(xs ys:yJ):
  Meets (Builtin.«zip.__new__» ⟨[.type "zip",.ref a,.ref b],[]⟩) (λ_ R s=>Wi b1 s.heap a xs/\Wi c s.heap b ys /\
   R (.ok (.ret (.ref (UB s.heap b1 c a b).objs.size))) { s with heap:=Vl s.heap b1 c a b }):=by
 cases b1 with
 |true=>cases c with
  |true=>exact BV a b xs ys
  |false=>exact BU a b xs ys
 |false=>cases c with
  |true=>exact BS a b xs ys
  |false=>exact BR a b xs ys
theorem JK(e:h.get? j=Z9 (UZ b l)):WM b h j l 0:=by
 cases b with
 |true=>exact⟨_,e,rfl,rfl⟩
 |false=>exact⟨_,e,rfl,rfl⟩
theorem JI(b:Bool)(l:yR):(UZ b l).isFreed=Z5:=by cases b<;>rfl
section
variable {prog:yZ}{w:jD}{A:jC}{E:yL}{s:yQ}
theorem BO{Q:yL}(i:Wi b1 s.heap a xs)(g:Wi d s.heap b ys)
  (h:∀h',fJ h' (s.heap.objs.size+4) (s.heap.objs.size+2) (s.heap.objs.size+3) .none->wC h' (s.heap.objs.size+2) (.ref s.heap.objs.size) (.ref (s.heap.objs.size+1)) ->
   wC h' (s.heap.objs.size+3) .none .none->WM b1 h' s.heap.objs.size a 0->WM d h' (s.heap.objs.size+1) b 0 ->
   (∀c o,s.heap.get? c=Z9 o->h'.get? c=Z9 o)->Q (.ref (s.heap.objs.size+4)) { s with heap:=h' }) :
  yV (yX prog w) A (call (.type "zip") [.ref a,.ref b]) Q E s:=by
 refine callType_new F.called_zip (by decide) (F.typeCall_zip_2 _ _) (F.newCall_zip_2 _ _) (λobj=>F.args_object_init_3 obj _ _) F.entry_zip_new (BQ b1 d a b xs ys) ⟨i,g,?_⟩;have f:(s.heap.push (UZ b1 a)).objs.size=s.heap.objs.size+1:=qF6 ..;have j:(Qe s.heap b1 d a b).objs.size=s.heap.objs.size+2:=by rw[qF6,f]
 have k:(Qd s.heap b1 d a b).objs.size=s.heap.objs.size+3:=by rw[qF6,j]
 have l:(UB s.heap b1 d a b).objs.size=s.heap.objs.size+4:=by rw[qF6,k]
 have e:(Vl s.heap b1 d a b).get? (UB s.heap b1 d a b).objs.size=Z9 _:=qB2 _ rfl;have n:(Vl s.heap b1 d a b).get? (Qd s.heap b1 d a b).objs.size=Z9 _:=qA1 _ (qB2 _ rfl);have m:(Vl s.heap b1 d a b).get? (Qe s.heap b1 d a b).objs.size=Z9 _:=qA1 _ (qA1 _ (qB2 _ rfl));have g2:(Vl s.heap b1 d a b).get? (s.heap.push (UZ b1 a)).objs.size=Z9 (UZ d b):=qA1 _ (qA1 _ (qA1 _ (qB2 _ (JI _ _))));have p:(Vl s.heap b1 d a b).get? s.heap.objs.size=Z9 (UZ b1 a):=qA1 _ (qA1 _ (qA1 _ (qA1 _ (qB2 _ (JI _ _)))));show _/\_;rw[j,k,l]at e;rw[f,j]at m;rw[k]at n;rw[f]at g2;rw[l];exact⟨⟨_,e,rfl⟩,h _ e m n (JK p) (JK g2) λc o x =>
  qA1 _ (qA1 _ (qA1 _ (qA1 _ (qA1 _ x))))⟩
end
theorem BN(d:a<n)(c:b<n):Qf (n+4) (n+2) (n+3) n (n+1) [n,a] [n+1,b]:=by constructor<;>(try simp only[qA8,qD3,or_false,not_or])<;>(try refine⟨?_,?_⟩)<;>(show ¬((_:Nat)=_))<;>(simp only[yR]at *;omega)
inductive Rv(b1 b2:Bool)(K:yS)(H:Hp)(a b:yR)(i:Nat):Prop
 |mk (xs ys:List V) (x y:V) (q1:X6 b1 K H a xs) (q2:X6 b2 K H b ys) (ex:xs[i]?=Z9 x) (ey:ys[i]?=Z9 y)
inductive NA(b1 b2:Bool)(K:yS)(H:Hp)(a b:yR)(i:Nat):Prop
 |mk (xs ys:List V) (q1:X6 b1 K H a xs) (q2:X6 b2 K H b ys) (ei:i=min xs.length ys.length)
noncomputable def T3(b1 c:Bool)(K:yS)(a b:yR):It :=
  ⟨λi H=>Rv b1 c K H a b i,
   λi H v f=>∃T,H T=Z8/\v=.ref T/\∀d e x y,X6 b1 K H a d->X6 c K H b e->d[i]?=Z9 x->e[i]?=Z9 y->f=ZE H T (.tup [x,y]),
   λi H=>NA b1 c K H a b i⟩
structure Ru(b1 b2:Bool)(z TI TO i1 i2 l1 l2:yR)(i:Nat)(h:jA):Prop where
 a1:fJ h z TI TO .none
 a2:wC h TI (.ref i1) (.ref i2)
 a3:∃a b,wC h TO a b
 a4:WM b1 h i1 l1 i
 a5:WM b2 h i2 l2 i
section
variable {b1 b2:Bool}{z TI TO i1 i2 l1 l2:yR}{i:Nat}{h:jA}
theorem Ru.obj(st:Ru b1 b2 z TI TO i1 i2 l1 l2 i h):∀b∈[z,TI,TO,i1,i2],∃o,h.get? b=Z9 o/\∀v,o.data≠.cell v:=by obtain⟨_,_,a⟩:=st.a3;exact YJ ⟨_,st.a1,λv q=>by cases q⟩ (YJ ⟨_,st.a2,λv q=>by cases q⟩ (YJ ⟨_,a,λv q=>by cases q⟩ (YJ st.a4.obj (YJ st.a5.obj U0))))
theorem Ru.ne(st:Ru b1 b2 z TI TO i1 i2 l1 l2 i h){T:yR}(c:h.objs.size<=T):∀b∈[z,TI,TO,i1,i2],b≠T:=λb a=>by obtain⟨o,e,_⟩:=st.obj b a;exact qC3 (qC1 (qB4 e) c)
theorem T1:∀b∈[z,TO,i1,i2],b∈[z,TI,TO,i1,i2]:=YJ (by simp) (YJ (by simp) (YJ (by simp) (YJ (by simp) U0)))
inductive BM(b1 b2:Bool)(X:Cx)(s:yQ)(H:Hp)(l1 l2:yR)(i:Nat):Prop
 |mk (xs ys:List V) (x y:V) (t1 t2:yB) (u1 u2:yT) (q1:X6 b1 X.K H l1 xs) (q2:X6 b2 X.K H l2 ys) (ex:xs[i]?=Z9 x) (ey:ys[i]?=Z9 y) (p1:Wi b1 s.heap l1 t1.toArray) (p2:Wi b2 s.heap l2 t2.toArray)
  (e1:t1[i]?=Z9 u1) (e2:t2[i]?=Z9 u2) (r1:ZI x u1) (r2:ZI y u2)
variable {X:Cx}{pins:yD}{Z:St}{H:Hp}{s:yQ}
theorem BL(I:ZQ X pins Z H s)(k:Rv b1 b2 X.K H l1 l2 i):BM b1 b2 X s H l1 l2 i:=by obtain⟨m,o,x,y,f,e,ex,g⟩:=k;obtain⟨a,p,j⟩:=I.sqX f;obtain⟨b,l,t⟩:=I.sqX e;obtain⟨r,q,d⟩:=p.get ex;obtain⟨u2,n,c⟩:=l.get g;exact⟨m,o,x,y,a,b,r,u2,f,e,ex,g,j,t,q,n,d,c⟩
theorem BK{c e:yB}{a:yJ}(g:c[i]?=Z9 f)(k:e[i]?=Z9 u2)(j:∃b v2,c.toArray[i]?=Z9 b/\e.toArray[i]?=Z9 v2/\a=#[b,v2]):a=#[f,u2]:=by obtain⟨b,v2,d,g2,rfl⟩:=j;rw[qF4,g]at d;rw[qF4,k]at g2;cases d;cases g2;rfl
theorem BJ(I:ZQ X pins Z H s)(n:X6 b1 X.K H l1 xs)(k:X6 b2 X.K H l2 ys)(ex:xs[i]?=Z9 x)(o:ys[i]?=Z9 y)(b a:List V)(f d:V)(m:X6 b1 X.K H l1 b)(g:X6 b2 X.K H l2 a)(c:b[i]?=Z9 f)(e:a[i]?=Z9 d):ZE H T (.tup [x,y])=ZE H T (.tup [f,d]):=by have j:=I.sqX_inj n m;have l:=I.sqX_inj k g;subst j l;rw[ex]at c;rw[o]at e;cases c;cases e;rfl
end
theorem BI{P:yZ}{w:jD}{K:PySem.W.Frag}{u:yE}{k:Nat}{pos:Pos}(b1 v:Bool)(z TI TO l m r q:yR)(D:Qf z TI TO l m [l,r] [m,q])(d1:r≠l)(d2:q≠m):
  Xv P w K (.Tuple u k pos) (T3 b1 v K r q) [z,TI,TO,l,m] z (Ru b1 v z TI TO l m r q) where
 mem:=by simp
 obj:=λi h d=>d.obj
 keep:=λi h B ⟨a1,a2,⟨x,y,a3⟩,a4,a5⟩ j =>
  ⟨j z (by simp) _ a1,j TI (by simp) _ a2,⟨x,y,j TO (by simp) _ a3⟩,a4.keep λo e=>j l (by simp) o e,a5.keep λo e=>j m (by simp) o e⟩
 item:=by intro X R V L S i f s Z H E I C d hg;subst R V L;obtain⟨xs,ys,x,y,a,c,u1,u2,q1,F,ex,ey,Y,M,e1,e2,U,J⟩:=BL I hg;have W:=WalksT.zipD (prog:=X.prog) (w:=X.w) (I.ok.hd S) (λA p=>SB b1 p l r d1 a.toArray) (λA p=>SB v p m q d2 c.toArray) D (by simp) (by simp);have hl1:i<a.length:=(qA7.mp e1).1;have hl2:i<c.length:=(qA7.mp e2).1;have t:∀b∈[z,TO,l,m],YF X f H b:=λb n=>C b (T1 b n);refine W.item i s _ _ (by simp only[qA9];omega) ⟨d.a1,d.a2,d.a3,⟨d.a4,Y⟩,d.a5,M⟩ λT vals B tk hv O G hM j=>?_;have N:=BK e1 e2 hv;subst N;have nT:=d.ne O;refine⟨_,rfl,W.go _ _ _ i T { s with heap:=B,toks:=tk } _ _ hM λh2 g Q=>?_⟩;have I1:ZQ X f Z (ZE H T (.tup [x,y])) { s with heap:=B,toks:=tk }:=I.yields (its:=[u1,u2]) t j O (.cons U (.cons J .nil)) (by show 2<=y8;decide) G;have I2:=I1.turnedL (tk:=tk) (JQ t λb n=>nT b (T1 b n)) Q;exact⟨.ref T,_,I2,rfl,⟨T,I.hok.fresh O,rfl,BJ I q1 F ex ey⟩,⟨g.1,g.2.1,g.2.2.1,g.2.2.2.1.1,g.2.2.2.2.1⟩,λb n=>by rw[YX (nT b n)];exact(C b n).1⟩
 done:=by
  intro X R V L S i f s Z H E I C d hg;subst R V L;obtain⟨xs,ys,q1,F,ei⟩:=hg;obtain⟨a,r1,Y⟩:=I.sqX q1;obtain⟨c,r2,M⟩:=I.sqX F;have W:=WalksT.zipD (prog:=X.prog) (w:=X.w) (I.ok.hd S) (λA p=>SB b1 p l r d1 a.toArray) (λA p=>SB v p m q d2 c.toArray) D (by simp) (by simp);have en:i=min a.toArray.size c.toArray.size:=by simp only[qA9,<- r1.length,<- r2.length];exact ei
  refine W.done s _ _ (by rw[<- en];exact⟨d.a1,d.a2,d.a3,⟨d.a4,Y⟩,d.a5,M⟩) λB tk j=>?_;exact⟨rfl,I.turnedL (λb n=>C b (T1 b n)) j⟩
 self:=λ_ _ _ _ _ d h=>gF d.a1 h
section
variable {X:Cx}
def JH(K:yS)(f:TA):TI:=fun Z H R=>f Z H λg c=>∃a b b1 d,g=[.ref a,.ref b]/\(∃e,X6 b1 K c a e)/\(∃h,X6 d K c b h)/\R (T3 b1 d K a b) c
theorem BH{j:yE}{k:Nat}{i:Pos}{p pos:Pos}(L:Gl X "zip")(M:X.mg "zip"=Z8)(G:PA X [a,b] A)(hs:jE [a,b] X.env=[(Z5,vL a X.env),(Z5,vL b X.env)]:=by rfl)(d:jE [b] X.env=[(Z5,vL b X.env)]:=by rfl):
  PI X (.Tuple j k i) (.Call (.Name "zip" p) [a,b] [] pos) (JH X.K A):=by
 intro c s Z H R I h;refine Call_ (Va I L M Cg (jS (Zv (G pos c s Z H _ I h) λY n ⟨T,y,f,Q,O⟩=>?_) (by rw[hs,d]) (by rw[d];rfl)));obtain⟨J,P,b1,S,e,⟨W,F⟩,⟨ys,K⟩,q⟩:=O;subst e;cases Q with
 |cons r v =>
  cases v with
  |cons N v =>
   cases v;cases r;cases N;obtain⟨B,U,l⟩:=f.sqX F;obtain⟨C,V,w⟩:=f.sqX K;refine BO l w λE x m u o t hk=>?_;refine gF x ?_;have D:ZQ X c Z y { n with heap:=E }:=f.kept (t':=n.toks) hk;refine⟨_,_,_,_,y,rfl,D,BI b1 S _ _ _ _ _ J P (BN l.lt w.lt) (qC3 l.lt) (qC3 (qE3 w.lt)),⟨x,m,⟨_,_,u⟩,o,t⟩,λb z=>?_,q⟩;have g:n.heap.objs.size<=b:=by
    simp only[qA8,qD3,or_false]at z;rcases z with rfl|rfl|rfl|rfl|rfl
    ·exact qJ1 _ _
    ·exact qJ1 _ _
    ·exact qJ1 _ _
    ·exact qA6 _
    ·exact qJ1 _ _
   exact f.fpOk g (f.hok.fresh g)
end
section
variable {X:Cx}{pins:yD}{Z:St}{H:Hp}{s:yQ}{scope:vG}{N:yH}{C:yR}{ex:yC}
theorem BG{c:yE}(y:PG X (.Name n pos') go)(D:wW (.ListComp elt [⟨t,iter,c,0⟩] scope pos) (Z9 (.Name n pos')) f.line X.env=pure Z7){K:List Nat}
  (BB:SE X scope N k K) (hi:PI X t iter O)
  (hg:∀cl s H C ex,PG (Xf X scope N cl s H C ex) t g) (F:∀cl s H C ex,T5 (Xf X scope N cl s H C ex) c tc) (w:∀cl s H C ex,PE (Xf X scope N cl s H C ex) elt P)
  (hs:∀x,vY iter X.env x=pure x:=by intro _;rfl):PS X (.Assign [.Name n pos'] (.ListComp elt [⟨t,iter,c,0⟩] scope pos) f) (VP (NF O k K g tc P) go):=by
 intro a s Z H U I h;rw[exec_Assign_Name_used _ _ _ _ D];refine yO (fY (yO ?_));show yV _ X.A (do let _ <- comprehension (.ListComp elt [⟨t,iter,c,0⟩] scope pos) scope X.env _ (dU []) Z5 (vL iter X.env) (Z9 (fE (.Name n pos') X.env))) _ _ s;refine yO (jU (f7 (use:=Z9 (fE (.Name n pos') X.env)) (Q:=λ_ s'=>SP X a U .next s') rfl hs (JX λx hx=>I.ok.has x (BB.free x hx)) BB.kind BB.names (Zv (hi a s Z H _ I h) λv s1 h1=>Zv h1 λitv L h2=>?_)) (λ_ s' hq=>yP (yP hq)) λ_ _ e=>e);obtain⟨it,fp,tn,JJ,H2,e,E,T,J,j,Y⟩:=h2;subst e;refine JT (Q:=λx H1=>go x Z H1 U.nx) BB E T J j hg F w Y λcl C G s5 p hDC i q=>?_;obtain⟨m,u,_⟩:=id i.loc;have A:G C=Z8:=i.free;have IA:ZQ X a Z G s5:=E.call' (s':=s5) (ch:=fp) i.os i.base i.hok i.bare (λb d=>⟨(j b d).2.2.2.1,(j b d).2.1,(j b d).2.2.2.2.1,(j b d).2.2.2.2.2⟩);have V:∀{S:Hp},S C=Z8->∀b∈[C],YF X a S b:=λu b d=>by
  have:b=C:=by simpa using d
  subst this;exact E.fpOk p u
 have R:∀b∈[C],∃o,s5.heap.get? b=Z9 o/\∀v,o.data≠.cell v:=λb d=>by
  have:b=C:=by simpa using d
  subst this;obtain⟨o,_,_,ho,hd,_⟩:=id u;exact⟨o,ho,λv z=>by rw[hd]at z;cases z⟩
 have IB:=IA.pinned (V A) R;refine Zv (y _ s5 Z G (.ref L.heap.objs.size) (.ref L.heap.objs.size) _ IB rfl q) λ_ s6 ⟨Z6,H6,W,q6⟩=>?_;obtain⟨oc,l,_⟩:=R C (by simp);have r:=W.pin (C,oc) (qC5 _ (qC5 _ (RI (by simp) l)));refine⟨m,u.at' λo e=>?_,λh' B=>⟨Z6,H6,?_,q6⟩⟩
 ·have M:s5.heap.get? C=Z9 o:=e;rw[l]at M;cases M;exact r.1
 ·exact W.unpinned.turnedL (wr:=[C]) (tk:=s6.toks) (V r.2.1) λb o nb e=>B.extBut b o (by simpa using nb) e
end
section
variable {X:Cx}
open AutoSeq1 in
theorem BE(l:yR)(items:yJ)(n:Nat)(b:yR)(a:yJ)(m:Nat)(c:Option yR)(sl:Array (yF))(p:¬(!items.isEmpty&&Builtin.List.listTooLong (items.size+a.size))=Z7)(i:items.size<=y8)(j:items.size+a.size<=y8+1):
  Meets (Builtin.«list.extend» ⟨[.ref l,.ref b],[]⟩) (λ_ R s=>s.heap.get? l=Z9 { cls:=.type "list",dict:=Z8,data:=.seq items n,slots:=#[] }/\s.heap.get? b=Z9 { cls:=.type "tuple",dict:=c,data:=.seq a m,slots:=sl } /\
   R (.ok (.ret Value.none)) { s with heap:=s.heap.update l (jZ λx=>x++a),toks:=s.toks }) :=
 .of_wp λe w A R s h=>by
  obtain⟨y,g,d,q,o⟩:=s;obtain⟨f,k,h⟩:=h;have r:=idx_int;have v:=AutoSeq1.sub_tuple_tuple;have t:=AutoSeq1.sub_list_list;have z:=AutoSeq1.sub_tuple_list;have u:=AutoSeq1.sub_list_tuple;have hz:(items++a).size<=y8+1:=by rw[Array.size_append];exact j
  wp_walk using(gZ f rfl (hz:=i) (_hz':=hz)),wJ f,wJ k
  exact⟨_,rfl,h⟩
def BD(K:yS):V->List V->Hp->VK->Prop:=λx d H Q=>∃l b a c,x=.ref l/\d=[.ref b]/\H l=Z9 (.lst a)/\Zp K H b c/\a.length+c.length<=y8/\Q .non (ZE H l (.lst (a++c)))
theorem BC:Ql X "list.extend" (BD X.K):=by
 intro p s Z H x F v L Q I w y h;obtain⟨l,b,K,t,rfl,rfl,o,E,G,q⟩:=h;cases w;obtain⟨u,rfl,D⟩:=y.one;cases D;obtain⟨z,d,n,r,J,e⟩:=I.lstM o;obtain⟨a,m,⟨⟨c,k,A,B⟩,C,i,n2,g⟩,_⟩:=I.tuple E
 replace i:c=.type "tuple":=i
 replace g:A=.seq a.toArray n2:=g
 subst i g;have M:t.length=a.length:=m.length;have j:d.toArray.size+a.toArray.size<=sizeLine:=by rw[qA9,qA9];omega
 have f:¬(!d.toArray.isEmpty&&Builtin.List.listTooLong (d.toArray.size+a.toArray.size))=Z7:=by rw[Ke j,qT2];exact qB1
 refine gR f8 ⟨_,e,rfl⟩ PySem.F.entry_list_extend (PySem.F.args_list_extend_2 _ _)
  (BE l d.toArray n b a.toArray n2 k B f (by rw[qA9];omega) (by omega)) ⟨e,C,?_⟩
 refine⟨.non,_,I.lset (its':=d++a) o e (by simp) (r.append m) ?_,rfl,q⟩;rw[qB8];omega
end
abbrev JG(h:jA)(T:yR)(a b c:yT):Prop:=h.get? T=Z9 { cls:=.type "tuple",data:=.seq #[a,b,c] }
structure BA(z TI TO i1 i2 i3:yR)(f1 f2 f3:yC):Prop where
 TIz:TI≠z
 TOz:TO≠z
 i1z:i1≠z
 i2z:i2≠z
 i3z:i3≠z
 TITO:TI≠TO
 TIi1:TI≠i1
 TIi2:TI≠i2
 TIi3:TI≠i3
 TOi1:TO≠i1
 TOi2:TO≠i2
 TOi3:TO≠i3
 z1:z∉f1
 z2:z∉f2
 z3:z∉f3
 O1:TO∉f1
 O2:TO∉f2
 O3:TO∉f3
 a12:i1∉f2
 a13:i1∉f3
 a21:i2∉f1
 a23:i2∉f3
 a31:i3∉f1
 a32:i3∉f2
inductive Bz(K:yS)(H:Hp)(a b c:yR)(i:Nat):Prop
 |mk (xs ys us:List V) (x y u:V) (q1:YT K H a xs) (q2:Zp K H b ys) (q3:Zp K H c us) (ex:xs[i]?=Z9 x) (ey:ys[i]?=Z9 y) (eu:us[i]?=Z9 u)
inductive By(K:yS)(H:Hp)(a b c:yR)(i:Nat):Prop
 |mk (xs ys us:List V) (q1:YT K H a xs) (q2:Zp K H b ys) (q3:Zp K H c us) (ei:i=min xs.length (min ys.length us.length))
structure Qc(z TI TO i1 i2 i3 l1 l2 l3:yR)(i:Nat)(h:jA):Prop where
 a1:fJ h z TI TO .none
 a2:JG h TI (.ref i1) (.ref i2) (.ref i3)
 a3:∃a b c,JG h TO a b c
 a4:WM Z5 h i1 l1 i
 a5:WM Z7 h i2 l2 i
 a6:WM Z7 h i3 l3 i
section
variable {z TI TO i1 i2 i3 l1 l2 l3:yR}{i:Nat}{h:jA}
theorem Qc.obj(st:Qc z TI TO i1 i2 i3 l1 l2 l3 i h):∀b∈[z,TI,TO,i1,i2,i3],∃o,h.get? b=Z9 o/\∀v,o.data≠.cell v:=by obtain⟨_,_,_,a⟩:=st.a3;exact YJ ⟨_,st.a1,λv q=>by cases q⟩ (YJ ⟨_,st.a2,λv q=>by cases q⟩ (YJ ⟨_,a,λv q=>by cases q⟩ (YJ st.a4.obj (YJ st.a5.obj (YJ st.a6.obj U0)))))
theorem Qc.ne(st:Qc z TI TO i1 i2 i3 l1 l2 l3 i h){T:yR}(c:h.objs.size<=T):∀b∈[z,TI,TO,i1,i2,i3],b≠T:=λb a=>by obtain⟨o,e,_⟩:=st.obj b a;exact qC3 (qC1 (qB4 e) c)
inductive pH(X:Cx)(s:yQ)(H:Hp)(l1 l2 l3:yR)(i:Nat):Prop
 |mk (xs ys us:List V) (x y u:V) (t1 t2 t3:yB) (u1 u2 u3:yT) (q1:YT X.K H l1 xs) (q2:Zp X.K H l2 ys) (q3:Zp X.K H l3 us) (ex:xs[i]?=Z9 x) (ey:ys[i]?=Z9 y) (eu:us[i]?=Z9 u)
  (p1:Wi Z5 s.heap l1 t1.toArray) (p2:Wi Z7 s.heap l2 t2.toArray) (p3:Wi Z7 s.heap l3 t3.toArray) (e1:t1[i]?=Z9 u1) (e2:t2[i]?=Z9 u2) (e3:t3[i]?=Z9 u3) (r1:ZI x u1) (r2:ZI y u2) (r3:ZI u u3)
variable {X:Cx}{pins:yD}{Z:St}{H:Hp}{s:yQ}
end
section
variable {X:Cx}
theorem ZM.rev(r:ZM xs a):ZM xs.reverse a.reverse:=by
 induction r with
 |nil=>exact .nil
 |cons r t b=>rw[qL5,qL5];exact b.append (.cons r .nil)
theorem JF:∀{a:yB}{ns:yA},vE a ns->ZM (ns.map V.int) a
 |_,_,h=>by
  induction h with
  |nil=>exact .nil
  |cons _ _ _ b=>exact .cons ⟨_,rfl⟩ b
theorem Bx:XU X (.builtin "sorted") (λk H Q=>∃(p:yR) (ns:yA),k=[.ref p]/\YT X.K H p (ns.map V.int)/\ns.length<64/\∀(l:yR) (ms:yA),H l=Z8->ms.Perm ns->ms.Pairwise (·<=·)->Q (.ref l) (ZE H l (.lst (ms.map V.int)))):=by intro i s Z H A B Q I r h;obtain⟨p,ns,rfl,x,y,q⟩:=h;obtain⟨u,rfl,w⟩:=Wx r;cases w;obtain⟨d,f,n,z⟩:=I.list x;have c:=f.length;rw[qA0]at c;refine sorted_ints n.isList (Qm f) (by omega) λout a m g v=>?_;obtain⟨e,j⟩:=sortedAll_at s.heap d out;have t:a.length=ns.length:=g.length_eq;refine⟨.ref (s.heap.objs.size+1),_,I.laid (t':=s.toks) (o:=.lst (a.map V.int)) (λb o e=>sortedAll_old e) (qL3 _) ?_,rfl,q _ _ (I.hok.fresh (qL3 _)) g v⟩;exact⟨by rw[qA0,t];exact qD4 (qI1 y) (by decide),out.toList,e,JF m,by simpa[j4]using j⟩
theorem Nz(ns:yA):∀k,k<=ns.length->vX (λi=>ns.getD i 0) k=(ns.take k).sum
 |0,_=>by simp[vX]
 |k+1,h=>by
  rw[qJ9,qA4 (by omega),List.sum_append];show vX (λi=>ns.getD i 0) k+ns.getD k 0=_;rw[Nz ns k (by omega)];have:k<ns.length:=by omega
  simp[qG5,this]
theorem Bw(R:X.calm=Z7):XU X (.builtin "sum") (λE H Q=>∃(p:yR) (ns:yA),E=[.ref p]/\YT X.K H p (ns.map V.int)/\(∀n∈ns,0<=n/\n<=1000000)/\ns.length<=1000000/\Q (.int ns.sum) H):=by
 intro C s Z H xs us Q I r h;obtain⟨p,ns,rfl,T,D,hl,q⟩:=h;obtain⟨u,rfl,m⟩:=Wx r;cases m;obtain⟨d,w,l,U⟩:=I.list T;have f:p<s.heap.objs.size:=by obtain⟨_,e,_⟩:=l.isList;exact qB4 e
 have a:=w.length;rw[qA0]at a;have K:∀k,k<=ns.length->0<=vX (λi=>ns.getD i 0) k/\vX (λi=>ns.getD i 0) k<=1000000*(k:Int):=by
  intro k
  induction k with
  |zero=>intro _;simp[vX]
  |succ k M =>
   intro hk;have J:=M (by omega);have L:=D (ns.getD k 0) (by simp only[qG5];rw[qA4 (by omega)];exact qE7 _);show 0<=vX _ k+ns.getD k 0/\vX _ k+ns.getD k 0<=_;omega
 refine call_sum_walk (j9 l.isList ?_);refine⟨s.heap.objs.size,_,[s.heap.objs.size],_,_,_,λi=>ns.getD i 0,rfl,Walks.list (A:=X.A.in1) (show X.A.in1.handled=Z8 from I.ok.hd R) s.heap.objs.size p (qC3 f) d.toArray,⟨⟨_,qB2 _ rfl,rfl,rfl⟩,l.isList.push _⟩,λb y=>?_,λi v S=>?_,λj O=>?_,λW N t' F=>?_⟩
 ·rw[fQ];simp only[qA8,qD3,or_false]at y;rcases y with rfl|rfl
  ·exact qH2 _
  ·exact qE3 f
 ·have c:d[i]?=Z9 v:=by simpa using S
  have z:i<ns.length:=by have:=(qA7.mp c).1;omega
  obtain⟨u,e,m⟩:=ZM.get w (i:=i) (x:=.int ns[i]) (by rw[qB3,qA4 z];rfl);rw[e]at c;cases c;obtain⟨t,rfl⟩:=m;exact⟨t,by simp[qG5,z]⟩
 ·have g:j<ns.length:=by rw[qA9]at O;omega
  have J:=K (j+1) (by omega);have L:=D (ns.getD j 0) (by simp only[qG5];rw[qA4 g];exact qE7 _);have h3:((j+1:Nat):Int)<=1000000:=by omega
  have Y:vX (λi=>ns.getD i 0) (j+1)<=1000000000000:=by omega
  dsimp only;generalize vX (λi=>ns.getD i 0) (j+1)=P at *;generalize ns.getD j 0=G at *;refine⟨?_,?_⟩<;>(unfold InLong;omega)
 ·have e:vX (λi=>ns.getD i 0) d.toArray.size=ns.sum:=by rw[qA9,<- a,Nz ns _ (qA6 _),qH3]
  rw[e];refine⟨.int ns.sum,H,?_,⟨_,rfl⟩,q⟩;exact I.kept (t':=N) λb o B=>F b o (by simp only[qB6];exact qC3 (qB4 B)) (qA1 _ B)
theorem Bv(S:X.calm=Z7):XU X (.builtin "sum") (λE H Q=>∃(p:yR) (ns:yA),E=[.ref p]/\Zp X.K H p (ns.map V.int)/\(∀n∈ns,0<=n/\n<=1000000)/\ns.length<=1000000/\Q (.int ns.sum) H):=by
 intro C s Z H xs us Q I r h;obtain⟨p,ns,rfl,U,D,hl,q⟩:=h;obtain⟨u,rfl,m⟩:=Wx r;cases m;obtain⟨a,w,K,W⟩:=I.tuple U;have d:s.heap.IsTuple p a.toArray:=K;have g:p<s.heap.objs.size:=by obtain⟨_,e,_⟩:=d;exact qB4 e
 have c:=w.length;rw[qA0]at c;have L:∀k,k<=ns.length->0<=vX (λi=>ns.getD i 0) k/\vX (λi=>ns.getD i 0) k<=1000000*(k:Int):=by
  intro k
  induction k with
  |zero=>intro _;simp[vX]
  |succ k N =>
   intro hk;have J:=N (by omega);have M:=D (ns.getD k 0) (by simp only[qG5];rw[qA4 (by omega)];exact qE7 _);show 0<=vX _ k+ns.getD k 0/\vX _ k+ns.getD k 0<=_;omega
 refine call_sum_walk (jY d ?_);refine⟨s.heap.objs.size,_,[s.heap.objs.size],_,_,_,λi=>ns.getD i 0,rfl,Walks.tuple (A:=X.A.in1) (show X.A.in1.handled=Z8 from I.ok.hd S) s.heap.objs.size p (qC3 g) a.toArray,⟨⟨_,qB2 _ rfl,rfl,rfl⟩,d.push _⟩,λb y=>?_,λi v T=>?_,λj R=>?_,λY O t' F=>?_⟩
 ·rw[fQ];simp only[qA8,qD3,or_false]at y;rcases y with rfl|rfl
  ·exact qH2 _
  ·exact qE3 g
 ·have f:a[i]?=Z9 v:=by simpa using T
  have z:i<ns.length:=by have:=(qA7.mp f).1;omega
  obtain⟨u,e,m⟩:=ZM.get w (i:=i) (x:=.int ns[i]) (by rw[qB3,qA4 z];rfl);rw[e]at f;cases f;obtain⟨t,rfl⟩:=m;exact⟨t,by simp[qG5,z]⟩
 ·have l:j<ns.length:=by rw[qA9]at R;omega
  have J:=L (j+1) (by omega);have M:=D (ns.getD j 0) (by simp only[qG5];rw[qA4 l];exact qE7 _);have h3:((j+1:Nat):Int)<=1000000:=by omega
  have h4:vX (λi=>ns.getD i 0) (j+1)<=1000000000000:=by omega
  dsimp only;generalize vX (λi=>ns.getD i 0) (j+1)=P at *;generalize ns.getD j 0=G at *;refine⟨?_,?_⟩<;>(unfold InLong;omega)
 ·have e:vX (λi=>ns.getD i 0) a.toArray.size=ns.sum:=by rw[qA9,<- c,Nz ns _ (qA6 _),qH3]
  rw[e];refine⟨.int ns.sum,H,?_,⟨_,rfl⟩,q⟩;exact I.kept (t':=O) λb o B=>F b o (by simp only[qB6];exact qC3 (qB4 B)) (qA1 _ B)
end
section
variable {X:Cx}
def TZ(K:yS)(neg:Bool):R2:=λx y H Q=>∃(p:yR) (b:List V) (N c:yR->Prop) (a:vA) (ds:List vA),
 y=.ref p/\(YT K H p b∨Zp K H p b)/\Rp K H N x a/\U1 a/\RpL K H c b ds/\(∀d∈ds,U1 d)/\Q (.bl (if neg then !(ds.any λd=>PyData.eqv d a)else ds.any λd=>PyData.eqv d a)) H
theorem Rt{h:jA}{b:vA}:∀{ds:List vA}{a:yB}{c:yC},ReadsAll h a ds c->(∀d∈ds,U1 d)->a.any (WU h b)=ds.any λd=>PyData.eqv d b
 |_,_,_,.nil,_=>rfl
 |_,_,_,.cons r e,o=>by rw[qH6,qH6,JM r (o _ (qD5 ..)).1,Rt e λd f=>o d (qC2 _ f)]
theorem Qb{A:jC}{s:yQ}{a:vA}{u:yT}{bs:yC}(o:A.units+64<j5)(j:Reads s.heap u a bs)(n:U1 a):∀{ds:List vA}{e:yB}{f:yC},ReadsAll s.heap e ds f->(∀d∈ds,U1 d)->∀w∈e,SeqAt.EqAt A.in1 s w u (WU s.heap a w):=λ{ds e f} l c w h=>by obtain⟨m,k,rfl⟩:=qM4 h;obtain⟨d,p,i,g⟩:=JN l (qA4 k);have b:=c d (qC0 i);rw[JM g b.1];refine SeqAt.eqAt_reads d a _ s _ _ _ _ g j b.1 n.1 ?_;have:=b.2;show A.units+1+min d.depth a.depth<j5;omega
theorem Bu(j:X.A.units+64<j5):Y6 X (y7 .In) (TZ X.K Z5):=by
 intro m s Z H x y v u Q I z o h;obtain⟨p,C,N,B,c,ds,rfl,f,t,l,d,b,q⟩:=h;cases o;obtain⟨bs,k⟩:=I.reads t z;rcases f with f|f
 ·obtain⟨a,r,i,n⟩:=I.list f;obtain⟨A,e⟩:=I.readsL d r;refine SeqAt.in_listAt (WU s.heap c) i.isList (λw g=>Qb j k l e b w (by simpa using g)) ⟨.bl _,H,I,rfl,?_⟩;rw[show a.toArray.any (WU s.heap c)=a.any (WU s.heap c) by simp,Rt e b];exact q
 ·obtain⟨a,r,i,n⟩:=I.tuple f;obtain⟨A,e⟩:=I.readsL d r;refine SeqAt.in_tupleAt (WU s.heap c) i (λw g=>Qb j k l e b w (by simpa using g)) ⟨.bl _,H,I,rfl,?_⟩;rw[show a.toArray.any (WU s.heap c)=a.any (WU s.heap c) by simp,Rt e b];exact q
theorem Bt(j:X.A.units+64<j5):Y6 X (y7 .NotIn) (TZ X.K Z7):=by
 intro m s Z H x y v u Q I z o h;obtain⟨p,C,N,B,c,ds,rfl,f,t,l,d,b,q⟩:=h;cases o;obtain⟨bs,k⟩:=I.reads t z;rcases f with f|f
 ·obtain⟨a,r,i,n⟩:=I.list f;obtain⟨A,e⟩:=I.readsL d r;refine SeqAt.notIn_listAt (WU s.heap c) i.isList (λw g=>Qb j k l e b w (by simpa using g)) ⟨.bl _,H,I,rfl,?_⟩;rw[show a.toArray.any (WU s.heap c)=a.any (WU s.heap c) by simp,Rt e b];exact q
 ·obtain⟨a,r,i,n⟩:=I.tuple f;obtain⟨A,e⟩:=I.readsL d r;refine SeqAt.notIn_tupleAt (WU s.heap c) i (λw g=>Qb j k l e b w (by simpa using g)) ⟨.bl _,H,I,rfl,?_⟩;rw[show a.toArray.any (WU s.heap c)=a.any (WU s.heap c) by simp,Rt e b];exact q
end
section
variable {X:Cx}{pins:yD}{Z:St}{H:Hp}{s:yQ}
theorem ZQ.dTnil(I:ZQ X pins Z H s)(e:H a=Z9 (.dK [])):ZQ X pins Z (ZE H a (.dT [])) s:=by
 obtain⟨z,k,g,r,o,d,f,c,i,l,p,j,n⟩:=NP I.hok e;have h:g=[]:=by cases r;rfl
 subst h;have m:d.toList=[]:=by have:=j.length;exact qD0.mp (by simpa using this)
 refine I.write (x:=a) (e:=a) (h':=s.heap) (t':=s.toks) (by rw[e];exact True.intro) (.inl rfl) (λb u _ q=>q) ⟨o,c⟩ ?_;exact⟨qE1 _,k,[],.nil,o,d,f,c,i,l,by simpa using m,qP9⟩
end
def Rs(xs:Array Nat):Prop:=xs.toList.Pairwise (·<·)
theorem Rs.get(h:Rs xs){i j a b:Nat}(d:xs[i]?=Z9 a)(c:xs[j]?=Z9 b)(l:i<j):a<b:=by rw[<- y9]at d c;obtain⟨e,rfl⟩:=qA7.mp d;obtain⟨f,rfl⟩:=qA7.mp c;exact qK4.mp h i j e f l
def Bl(xs:Array Nat)(j r:Nat):Prop:=r<=xs.size/\(∀i a,xs[i]?=Z9 a->i<r->a<j)/\∀i a,xs[i]?=Z9 a->r<=i->j<=a
theorem Ny{xs:Array Nat}(h:Rs xs)(j:Nat):∀(n lo hi:Nat),hi - lo<=n->lo<=hi->hi<=xs.size->(∀i a,xs[i]?=Z9 a->i<lo->a<j)->(∀i a,xs[i]?=Z9 a->hi<=i->j<=a)->Bl xs j (SetTable.below.go xs j n lo hi)
 |0,lo,hi,h1,h2,h3,h4,h5=>by
  have e:lo=hi:=by omega
  subst e;exact⟨h3,h4,h5⟩
 |n+1,lo,hi,h1,h2,h3,h4,h5=>by
  unfold SetTable.below.go;split
  ·rename_i l;have g:(lo+hi) / 2<xs.size:=by omega
   have c:xs[(lo+hi) / 2]?=Z9 xs[(lo+hi) / 2]:=yW g;have k:xs.getD ((lo+hi) / 2) j=xs[(lo+hi) / 2]:=by simp[Array.getD,g]
   simp only[k];split
   ·rename_i d;refine Ny h j n _ hi (by omega) (by omega) h3 (λi a b f=>?_) h5;by_cases e:i=(lo+hi) / 2
    ·subst e;rw[c]at b;cases b;exact d
    ·exact qR5 (h.get b c (by omega)) d
   ·rename_i d;refine Ny h j n lo _ (by omega) (by omega) (by omega) h4 (λi a b f=>?_);by_cases e:i=(lo+hi) / 2
    ·subst e;rw[c]at b;cases b;omega
    ·have:=h.get c b (by omega);omega
  ·have e:lo=hi:=by omega
   subst e;exact⟨h3,h4,h5⟩
theorem Rq(h:Rs xs)(j:Nat):Bl xs j (SetTable.below xs j):=by
 refine Ny h j _ 0 xs.size (by omega) (by omega) (qA6 _) (λi a _ l=>absurd l (qG0 _)) λi a b l=>?_;have:i<xs.size:=by
  rcases qJ5 i xs.size with g|g
  ·exact g
  ·rw[jN g]at b;cases b
 omega
theorem Bl.uniq(a:Bl xs j r)(b:Bl xs j r'):r=r':=by
 obtain⟨g,c,e⟩:=a;obtain⟨b1,f,d⟩:=b;rcases qL6 r r' with l|l|l
 ·have:=f r _ (yW (by omega)) l;have:=e r _ (yW (by omega)) (qA6 _);omega
 ·exact l
 ·have:=c r' _ (yW (by omega)) l;have:=d r' _ (yW (by omega)) (qA6 _);omega
theorem Rs.insert(h:Rs xs)(w:xs[SetTable.below xs j]?≠Z9 j):Rs (SetTable.insertAt xs (SetTable.below xs j) j):=by
 obtain⟨b1,t,n⟩:=Rq h j;unfold Rs;rw[SetTable.toList_insertAt];have e:xs.toList=xs.toList.take (SetTable.below xs j)++xs.toList.drop (SetTable.below xs j):=(qF5 _ _).symm;have f:=h;unfold Rs at f;rw[e,qD6]at f;obtain⟨p,v,s⟩:=f;have r:∀a∈xs.toList.take (SetTable.below xs j),a<j:=λa c=>by obtain⟨i,d,rfl⟩:=qM4 c;rw[qD8]at d;refine t i _ ?_ (by omega);rw[<- y9,List.getElem_take];exact qA4 _
 have q:∀a∈xs.toList.drop (SetTable.below xs j),j<a:=λa c=>by
  obtain⟨i,d,rfl⟩:=qM4 c;rw[qE6]at d;have g:xs[SetTable.below xs j+i]?=Z9 ((xs.toList.drop (SetTable.below xs j))[i]):=by rw[<- y9,qN4];exact qA4 _
  have l:=n _ _ g (by omega);rcases qQ7 l with l|l
  ·exact l
  ·exfalso;by_cases u:i=0
   ·subst u;rw[<- l]at g;exact w g
   ·have k:SetTable.below xs j<xs.size:=by rw[yU]at d;omega
    have o:xs[SetTable.below xs j]?=Z9 xs[SetTable.below xs j]:=yW k;have:=h.get o g (by omega);have:=n _ _ o (qA6 _);omega
 rw[qD6,qF3];refine⟨p,⟨q,v⟩,λa c b m=>?_⟩;rcases qA8.mp m with rfl|m
 ·exact r a c
 ·exact s a c b m
structure TOk(bt:Bool)(t:jT):Prop where
 led:t.led=!bt
 up:t.plain=Z7->Rs t.place
theorem TOk.fresh(bt:Bool):TOk bt (.fresh 0 0 (!bt)):=⟨rfl,λ_=>by simp[SetTable.fresh,Rs]⟩
theorem Bs(e:SetTable.laid m f v l p hs=Z9 (t,o)):t.led=l/\t.plain=p/\Rs t.place:=by
 unfold SetTable.laid at e;obtain⟨c,_,e⟩:=qA2.mp e;cases e;refine⟨rfl,rfl,?_⟩;have g:∀ks:List Nat,(ks.filterMap λj=>(c.getD j Z8).map (j,·)).map (·.1)=ks.filter λj=>(c.getD j Z8).isSome:=by
  intro ks
  induction ks with
  |nil=>rfl
  |cons a ks d =>
   cases h:c.getD a Z8 with
   |none=>rw[List.filterMap_cons_none (by rw[h];rfl),List.filter_cons_of_neg (by rw[h];exact qB1),d]
   |some b=>rw[qO0 (b:=(a,b)) (by rw[h];rfl),List.filter_cons_of_pos (by rw[h];rfl),qB5,d]
 show List.Pairwise (·<·) (((List.range (m+1)).filterMap λj=>(c.getD j Z8).map (j,·)).map (·.1));rw[g];exact List.Pairwise.filter _ qP1
noncomputable def one(a:yA)(z:Int):yA:=if z∈a then a else z::a
noncomputable def WL(w:jD):Bool:=w.params.followText "set-order"
noncomputable def UA(w:jD):Obj:={ cls:=.type "set",dict:=Z8,data:=.set #[] 0 (.fresh 0 0 (!WL w)) }
section
variable {prog:yZ}{w:jD}{A:jC}{E:yL}{s:yQ}
theorem Br(a:yT){Q:yL}(h:Q (.ref s.heap.objs.size) { s with heap:=s.heap.push (UA w) }):
  vZ (yX prog w) A (.call (.builtin "set.__new__") ⟨[.type "set",a],[]⟩) (wants Q E) s:=by
 refine codeAny_of_tree ?_;show yV _ A.in1 (do checkBuiltinCall "set.__new__" ⟨[.type "set",a],[]⟩;again (.builtin "set.__new__" ⟨[.type "set",a],[]⟩)) _ _ s;refine yO (lK (PySem.F.newCall_set_1 a) (yP ⟨fB g8 _,vB PySem.F.entry_set_new ?_⟩));rw[Around.under_plainId g8 _];unfold Builtin.«set.__new__» Builtin.Frozenset.newClass;have b:=sub_set_self;obtain⟨e,g,d,f,c⟩:=s;dsimp only
 wp_walk
 refine gG (yP ?_);dsimp only;simp only[newObj];refine yO (wpAny_alloc (yP ?_));exact yP h
end
theorem JE:Manifest.owners.lookup (String.ofList ['r','o','t','a','r','e','t','i','_','t','e','s'].reverse)=Z9 Manifest.sig_set_iterator:=by kernel_rfl
theorem VI:Slot "set_iterator" "__next__" "set_iterator.__next__" :=
 .of (owner := "set_iterator") (n := "__next__") (by rw[typeLookup_type,g9];kernel_rfl) (by decide +kernel) (by decide +kernel) (by decide +kernel)
  (by first|exact .inl (by decide +kernel)| exact .inr (by decide +kernel)) (by rw[isSubtype_type];kernel_rfl)
theorem JD:Slot "set_iterator" "__iter__" "set_iterator.__iter__" :=
 .of (owner := "set_iterator") (n := "__iter__") (by rw[typeLookup_type,g9];kernel_rfl) (by decide +kernel) (by decide +kernel) (by decide +kernel)
  (by first|exact .inl (by decide +kernel)| exact .inr (by decide +kernel)) (by rw[isSubtype_type];kernel_rfl)
theorem Qa:entryFor table "set_iterator.__next__"=Z9 Builtin.«set_iterator.__next__»:=entryFor_of_tree (by kernel_rfl)
theorem Bq:entryFor table "set_iterator.__iter__"=Z9 Builtin.«dict_keyiterator.__iter__»:=entryFor_alias (id' := "dict_keyiterator.__iter__") (by kernel_rfl) rfl (by decide +kernel) (by kernel_rfl)
theorem Bp:entryFor table "set.__iter__"=Z9 Builtin.«frozenset.__iter__»:=entryFor_alias (id' := "frozenset.__iter__") (by kernel_rfl) rfl (by decide +kernel) (by kernel_rfl)
theorem P9(a:yT):argsOk "set_iterator.__next__" ⟨[a],[]⟩:=by unfold argsOk;rw[signature?_of (id := "set_iterator.__next__") (n:=['_','_','t','x','e','n','_','_']) (o:=['r','o','t','a','r','e','t','i','_','t','e','s']) (by kernel_rfl) JE];kernel_rfl
theorem Bo(a:yT):argsOk "set_iterator.__iter__" ⟨[a],[]⟩:=by unfold argsOk;rw[signature?_of (id := "set_iterator.__iter__") (n:=['_','_','r','e','t','i','_','_']) (o:=['r','o','t','a','r','e','t','i','_','t','e','s']) (by kernel_rfl) JE];kernel_rfl
def Y0(h:jA)(a S:yR)(f:yT)(i n b:Nat):Prop:=∃o,h.get? a=Z9 o/\o.cls=.type "set_iterator"/\o.data=.fields #[f,.int (i:Int) 0,.ref S,.int (n:Int) 0,.int (b:Int) 0]
section
variable {prog:yZ}{w:jD}{A:jC}{E:yL}{s:yQ}{it S:yR}{f:yT}{i n ep:Nat}
theorem Y0.ty(h:Y0 s.heap it S f i n ep):s.TypeIs (.ref it) "set_iterator":=let ⟨o,g,c,_⟩:=h;⟨o,g,c⟩
theorem Y0.at(x:Y0 h it S f i n ep)(e:∀o,h.get? it=Z9 o->h'.get? it=Z9 o):Y0 h' it S f i n ep:=let ⟨o,g,r⟩:=x;⟨o,e _ g,r⟩
theorem Y0.set0(x:Y0 h it S f i n ep)(a:yT):Y0 (h.update it (Obj.mapFields (·.setIfInBounds 0 a))) it S a i n ep:=by obtain⟨o,g,c,d⟩:=x;exact⟨_,qG2 _ g (wV (vK d _)),(fV ..).trans c,by rw[vK d];simp⟩
theorem Y0.set1(x:Y0 h it S f i n ep)(j:Nat):Y0 (h.update it (Obj.mapFields (·.setIfInBounds 1 (.int (j:Int) 0)))) it S f j n ep:=by obtain⟨o,g,c,d⟩:=x;exact⟨_,qG2 _ g (wV (vK d _)),(fV ..).trans c,by rw[vK d];simp⟩
theorem Nx{Q:yL}(a:Y0 s.heap it S f i n ep)(h:Q (.ref it) s):yV (yX prog w) A (pyIter (.ref it)) Q E s:=by refine wpAny_pyIter_slot a.ty JD (jJ JD a.ty Bq ?_ (Bo _));show yV _ _ (ret (.ref it)) _ _ s;exact yP ⟨_,rfl,"set_iterator",_,a.ty,VI.lookup,h⟩
theorem JC{sl nx:Nat}{Q:yF->yQ->Prop}(a:Y0 s.heap it S (.int (sl:Int) 0) i es.size ep)(g:s.heap.get? S=Z9 o)(d:o.data=.set es ep t)(k:t.fits es.size=Z7)
  (p:∀(A:jC) (E:yL) (R:Option (yT×Nat)->yQ->Prop),R (Z9 (x,nx)) s->yV (yX prog w) A (m9 S sl i ep) R E s)
  (l:∀h',Y0 h' it S (.int (nx:Int) 0) (i+1) es.size ep->qE5 it s.heap h'->Q (Z9 x) { s with heap:=h' }):yV (yX prog w) A (wQ (.ref it)) Q E s:=by have ty:=a.ty;obtain⟨y,e,u,h⟩:=id a;unfold wQ;refine yO (vV (jI (name:=Str.ofString "__next__") ty VI (jJ VI ty Qa ?_ (P9 _))));unfold Builtin.«set_iterator.__next__»;refine yO (m:=dA "__next__" 0 _) (yP (yO (fR e h ?_)));dsimp only;unfold gV;refine yO (yO (jG g d k (yP ?_)));rw[if_neg (by simp)];simp only[qF1];refine yO (p _ _ _ ?_);dsimp only;show yV _ _ (setField (.ref it) 0 (.int (nx:Int) 0) >>= _) _ _ s;refine yO (vJ e h (by simp) ?_);have b:=a.set0 (.int (nx:Int) 0);obtain⟨v,j,r,q⟩:=id b;show yV _ _ (setField (.ref it) 1 (.int ((i:Int)+1) 0) >>= _) _ _ _;refine yO (vJ j q (by simp) ?_);have c:=b.set1 (i+1);rw[show(((i+1:Nat):Int))=(i:Int)+1 from by omega]at c;exact yP ⟨_,rfl,yP (l _ c ((qE5.update ..).trans (qE5.update ..)))⟩
theorem JB{sl:Nat}{Q:yF->yQ->Prop}(l:A.handled=Z8)(c:Y0 s.heap it S (.int (sl:Int) 0) i es.size ep)(g:s.heap.get? S=Z9 o)(d:o.data=.set es ep t)(p:t.fits es.size=Z7)
  (k:∀(A:jC) (E:yL) (R:Option (yT×Nat)->yQ->Prop),R Z8 s->yV (yX prog w) A (m9 S sl i ep) R E s)
  (j:∀h',qS7 it s.heap h'->Q Z8 { s with heap:=h' }):yV (yX prog w) A (wQ (.ref it)) Q E s:=by have ty:=c.ty;obtain⟨q,h,r,e⟩:=id c;unfold wQ;refine yO (vV (jI (name:=Str.ofString "__next__") ty VI (jJ VI ty Qa ?_ (P9 _))));unfold Builtin.«set_iterator.__next__»;refine yO (m:=dA "__next__" 0 _) (yP (yO (fR h e ?_)));dsimp only;unfold gV;refine yO (yO (jG g d p (yP ?_)));rw[if_neg (by simp)];simp only[qF1];refine yO (k _ _ _ ?_);dsimp only;refine yO (vJ (i:=2) h e (by simp) ?_);show yV _ A.in1 (newExc (.type "StopIteration") [] >>= _) _ _ _;unfold newExc newTuple;refine yO (yO (jF (yO (m:=wB _ _) (lK (a:=Value.none) (by simp only[wB];rfl) (jF ?_ (by size_fits)))) (by size_fits)));refine mE l ?_;refine yO (wZ (T := "StopIteration") (b:=Z7) ⟨_,qB2 _ rfl,rfl⟩ lQ ?_);exact yP (j _ (((qE5.update ..).extBut.push _).push _))
theorem Bn{pl:yJ}{p:Nat}{Q:yF->yQ->Prop}(a:Y0 s.heap it S (.ref T) i es.size ep)(j:s.heap.IsTuple T pl)(g:s.heap.get? S=Z9 o)(d:o.data=.set es ep t)(b:t.fits es.size=Z7)
  (q:pl[i]?=Z9 (.int (p:Int) 0)) (k:es[p]?=Z9 (z,x))
  (l:∀h',Y0 h' it S (.ref T) (i+1) es.size ep->qE5 it s.heap h'->Q (Z9 x) { s with heap:=h' }):yV (yX prog w) A (wQ (.ref it)) Q E s:=by have ty:=a.ty;obtain⟨y,e,u,h⟩:=id a;unfold wQ;refine yO (vV (jI (name:=Str.ofString "__next__") ty VI (jJ VI ty Qa ?_ (P9 _))));unfold Builtin.«set_iterator.__next__»;refine yO (m:=dA "__next__" 0 _) (yP (yO (fR e h ?_)));dsimp only;unfold gV;refine yO (yO (jG g d b (yP ?_)));rw[if_neg (by simp)];obtain⟨v,gT,cT,r,dT⟩:=id j;refine yO (j3 gT dT ?_);simp only[qF1,q];unfold setNextDrawn;refine yO (yO (jG g d b ?_));dsimp only;rw[if_neg (by simp)];simp only[k];refine yP ?_;show yV _ _ (setField (.ref it) 1 (.int ((i:Int)+1) 0) >>= _) _ _ _;refine yO (vJ e h (by simp) ?_);have c:=a.set1 (i+1);rw[show(((i+1:Nat):Int))=(i:Int)+1 from by omega]at c;exact yP ⟨_,rfl,yP (l _ c (qE5.update ..))⟩
theorem Bm{pl:yJ}{Q:yF->yQ->Prop}(r:A.handled=Z8)(c:Y0 s.heap it S (.ref T) i es.size ep)(j:s.heap.IsTuple T pl)(g:s.heap.get? S=Z9 o)(d:o.data=.set es ep t)(l:t.fits es.size=Z7)
  (u:pl[i]?=Z8) (p:∀h',qS7 it s.heap h'->Q Z8 { s with heap:=h' }):yV (yX prog w) A (wQ (.ref it)) Q E s:=by have ty:=c.ty;obtain⟨C,e,y,h⟩:=id c;unfold wQ;refine yO (vV (jI (name:=Str.ofString "__next__") ty VI (jJ VI ty Qa ?_ (P9 _))));unfold Builtin.«set_iterator.__next__»;refine yO (m:=dA "__next__" 0 _) (yP (yO (fR e h ?_)));dsimp only;unfold gV;refine yO (yO (jG g d l (yP ?_)));rw[if_neg (by simp)];obtain⟨z,gT,cT,v,dT⟩:=id j;refine yO (j3 gT dT ?_);simp only[qF1,u];refine yO (vJ (i:=0) e h (by simp) ?_);obtain⟨B,k,x,q⟩:=c.set0 (.int 0 0);refine yO (vJ (i:=2) k q (by simp) ?_);show yV _ A.in1 (newExc (.type "StopIteration") [] >>= _) _ _ _;unfold newExc newTuple;refine yO (yO (jF (yO (m:=wB _ _) (lK (a:=Value.none) (by simp only[wB];rfl) (jF ?_ (by size_fits)))) (by size_fits)));refine mE r ?_;refine yO (wZ (T := "StopIteration") (b:=Z7) ⟨_,qB2 _ rfl,rfl⟩ lQ ?_);exact yP (p _ ((((qE5.update ..).trans (qE5.update ..)).extBut.push _).push _))
end
theorem Nw{b:Type}:∀{l:List b}{i:Nat} (h:i<l.length),(l[i]::l.eraseIdx i).Perm l
 |a::l,0,h=>.refl _
 |a::l,i+1,h=>by
  have c:i<l.length:=by simpa using h
  rw[List.getElem_cons_succ,List.eraseIdx_cons_succ];exact(List.Perm.swap _ _ _).trans ((Nw c).cons a)
theorem JA(next:Nat->Nat):∀(n k:Nat) (l:List b) (out:Array b),l.length=n->(pickOrder.go next n k l out).toList.Perm (out.toList++l)
 |0,k,l,out,h=>by rw[qD0.mp h];unfold pickOrder.go;simp
 |n+1,k,l,out,h=>by
  unfold pickOrder.go;have a:next k % l.length<l.length:=qP2 _ (by omega)
  rw[qA4 a];dsimp only;refine(JA next n (k+1) _ _ (by rw[qM9 a];omega)).trans ?_;rw[Array.toList_push,qC6];refine List.Perm.append_left _ ?_;exact Nw a
theorem Nv(next:Nat->Nat)(xs:Array a):(gH next xs).toList.Perm xs.toList:=by
 have:=JA next xs.size 0 xs.toList #[] (by rw[yU])
 simpa[gH]using this
section
variable {prog:yZ}{w:jD}{A:jC}{E:yL}{s:yQ}{S:yR}{i sl ep:Nat}{es:Array (Int×yT)}{t:jT}{o:Obj}
theorem P8(a:WL w=b)(h:Q b s):yV (yX prog w) A setsByText Q E s:=by unfold setsByText;refine yO (gG (yP ?_));subst a;exact h
theorem Jz(a:WL w=Z7)(g:s.heap.get? S=Z9 o)(d:o.data=.set es ep t)(b:t.fits es.size=Z7)
  (h:R (((gH (w.params.setOrder S ep) es)[i]?).map λe=>(e.2,sl)) s):yV (yX prog w) A (m9 S sl i ep) R E s:=by unfold m9;refine yO (jG g d b (yO (P8 a ?_)));rw[if_pos rfl];dsimp only;rw[if_neg (by simp)];unfold setWalk;refine yO (yO (jG g d b (yO (P8 a ?_))));rw[if_pos rfl];refine yO (gG (yP (yP h)))
theorem Jy(b:WL w=Z5)(g:s.heap.get? S=Z9 o)(d:o.data=.set es ep t)(e:t.fits es.size=Z7)(f:t.led=Z7)(c:(!t.plain&&decide (es.size>1))=Z5)
  (h:R (match es[SetTable.below t.place sl]?,t.place[SetTable.below t.place sl]? with|some (_,x),Z9 j=>Z9 (x,j+1)| _,_=>Z8) s):yV (yX prog w) A (m9 S sl i ep) R E s:=by unfold m9;refine yO (jG g d e (yO (P8 b ?_)));rw[if_neg (by simp)];dsimp only;refine vO (λa=>absurd a (by show ¬((!t.plain&&decide (es.size>1))=Z7);rw[c];exact qB1)) λ_=>?_;refine yO ?_;show yV _ _ (if(!t.led&&!es.isEmpty)=Z7 then unsupported _ else pure ()) _ _ _;rw[f,if_neg (by simp)];exact yP (yP h)
theorem Jx{b:Type}:∀(n:Nat) (xs:List b) {s:yQ}{Q:List b->yQ->Prop},xs.length=n->(∀ys d,ys.Perm xs->Q ys { s with drawn:=d })->yV (yX prog w) A (drawOrder n xs) Q E s
 |0,xs,s,Q,hl,h=>by unfold drawOrder;rw[qD0.mp hl]at h;exact yP (h [] s.drawn .nil)
 |n+1,[],s,Q,hl,h=>by cases hl
 |n+1,x::xs,s,Q,hl,h=>by
  unfold drawOrder;refine yO ?_;show yV _ _ (choose .order (x::xs).length) _ _ _;have c:∀(k:Nat) (R:Nat->yQ->Prop),k≠0->(∀i d,i<k->R i { s with drawn:=d })->yV (yX prog w) A (choose .order k) R E s:=by intro k R hk e g p j;unfold choose;rw[Sem.wp_choose];exact⟨hk,by rw[Sem.wp_pure];exact e _ _ (qP2 _ (by omega))⟩
  refine c _ _ (by simp) λi d a=>?_;rw[qA4 a];refine yO (Jx n _ (by rw[qM9 a];omega) λys l f=>yP (h _ _ ?_));exact(List.Perm.cons _ f).trans (Nw a)
end
section
variable {prog:yZ}{w:jD}{A:jC}{E:yL}{s:yQ}{S I T:yR}{ep:Nat}{es:Array (Int×yT)}{t:jT}{o:Obj}{vs:yB}
theorem Bk(p:A.handled=Z8)(m:S≠I)(c:WL w=Z7)(d:o.data=.set es ep t)(g:t.fits es.size=Z7):
  Walks prog w A I [I,S] [I] es.size (λi v=>((gH (w.params.setOrder S ep) es).toList.map (·.2))[i]?=Z9 v) (λi h=>Y0 h I S (.int 0 0) i es.size ep/\h.get? S=Z9 o) where
 sub:=λb c=>by simp at c;simp[c]
 frame:=λ_ _ _ a hk=>⟨a.1.at λo e=>hk I (by simp) o e,hk S (by simp) _ a.2⟩
 item:=λi s Q E q a f=>by
  have n:i<(gH (w.params.setOrder S ep) es).size:=by rw[<- yU,(Nv _ es).length_eq,yU];exact q
  refine JC (sl:=0) (nx:=0) (x:=(gH (w.params.setOrder S ep) es)[i].2) a.1 a.2 d g (λA E R j=>Jz c a.2 d g (by rw[yW n];exact j)) λk l sb=>?_;refine f _ k s.toks ?_ ⟨l,(sb.2 S m).trans a.2⟩ λb o c e=>(sb.2 b (λh=>c (by simp[h]))).trans e;rw[qB3,y9,yW n];rfl
 done:=λs Q E a f=>by refine JB (sl:=0) p a.1 a.2 d g (λA E R j=>Jz c a.2 d g (by rw[jN (by rw[<- yU,(Nv _ es).length_eq,yU];exact qA6 _)];exact j)) λk r=>?_;exact f k s.toks λb o c e=>r b o (λh=>c (by simp[h])) e
 self:=λ_ _ _ _ a f=>Nx a.1 f
theorem Bj(h:Rs xs):SetTable.below xs 0=0:=(Rq h 0).uniq ⟨qE1 _,λi a _ l=>absurd l (qG0 _),λ_ _ _ _=>qE1 _⟩
theorem Bi(h:Rs xs)(c:i<xs.size):SetTable.below xs (xs[i]+1)=i+1:=by
 refine(Rq h _).uniq ⟨c,λj a b l=>?_,λj a b l=>?_⟩
 ·rcases qQ7 (Nat.le_of_lt_succ l)with l|l
  ·exact qE3 (h.get b (yW c) l)
  ·subst l;rw[yW c]at b;cases b;exact qH2 _
 ·exact h.get (yW c) b l
theorem Bh(z:A.handled=Z8)(n:S≠I)(a:WL w=Z5)(d:o.data=.set es ep t)(f:t.fits es.size=Z7)(p:t.led=Z7)(y:(!t.plain&&decide (es.size>1))=Z5)(B:Rs t.place):
  Walks prog w A I [I,S] [I] es.size (λi v=>(es.toList.map (·.2))[i]?=Z9 v) (λi h=>(∃sl:Nat,SetTable.below t.place sl=i/\Y0 h I S (.int (sl:Int) 0) i es.size ep)/\h.get? S=Z9 o) where
 sub:=λb a=>by simp at a;simp[a]
 frame:=λ_ _ _ c hk=>⟨let ⟨sl,e,q⟩:=c.1;⟨sl,e,q.at λo e=>hk I (by simp) o e⟩,hk S (by simp) _ c.2⟩
 item:=λi s Q E u c j=>by
  obtain⟨⟨sl,e,q⟩,g⟩:=c;have D:t.place.size=es.size:=by simp only[SetTable.fits,qC4,beq_iff_eq]at f;exact f.1
  have r:i<t.place.size:=by omega
  refine JC (nx:=t.place[i]+1) (x:=es[i].2) q g d f (λA E R k=>Jy a g d f p y (by rw[e,yW u,yW r];exact k)) λl m sb=>?_;refine j _ l s.toks ?_ ⟨⟨_,Bi B r,m⟩,(sb.2 S n).trans g⟩ λb o a e=>(sb.2 b (λh=>a (by simp[h]))).trans e;rw[qB3,y9,yW u];rfl
 done:=λs Q E c j=>by obtain⟨⟨sl,e,q⟩,g⟩:=c;refine JB z q g d f (λA E R k=>Jy a g d f p y (by rw[e,jN (qA6 _)];exact k)) λl C=>?_;exact j l s.toks λb o a e=>C b o (λh=>a (by simp[h])) e
 self:=λ_ _ _ _ c j=>let ⟨_,_,q⟩:=c.1;Nx q j
theorem Bg(B:A.handled=Z8)(m:S≠I)(y:T≠I)(d:o.data=.set es ep t)(q:t.fits es.size=Z7){ps:List Nat}(n:ps.Perm (List.range es.size)):
  Walks prog w A I [I,S,T] [I] es.size (λi v=>(ps.map λp=>((es[p]?).map (·.2)).getD .none)[i]?=Z9 v) (λi h=>Y0 h I S (.ref T) i es.size ep/\h.IsTuple T (ps.map fun(p:Nat)=>Value.int (p:Int) 0).toArray/\h.get? S=Z9 o) where
 sub:=λb c=>by simp at c;simp[c]
 frame:=λ_ _ _ a hk=>⟨a.1.at λo e=>hk I (by simp) o e,let ⟨o,g,r⟩:=a.2.1;⟨o,hk T (by simp) _ g,r⟩,hk S (by simp) _ a.2.2⟩
 item:=λi s Q E C a f=>by
  have k:i<ps.length:=by rw[n.length_eq,qG1];exact C
  have u:ps[i]<es.size:=qE4.mp (n.mem_iff.mp (qE7 k));refine Bn (p:=ps[i]) (z:=es[ps[i]].1) (x:=es[ps[i]].2) a.1 a.2.1 a.2.2 d q ?_ (yW u) λj l sb=>?_
  ·rw[qF4,qB3,qA4 k];rfl
  refine f _ j s.toks ?_ ⟨l,a.2.1.extBut sb.extBut y,(sb.2 S m).trans a.2.2⟩ λb o c e=>(sb.2 b (λh=>c (by simp[h]))).trans e;rw[qB3,qA4 k,qM2,yW u];rfl
 done:=λs Q E a f=>by
  refine Bm B a.1 a.2.1 a.2.2 d q ?_ λj D=>?_
  ·rw[qF4,qB3,qJ8 (by rw[n.length_eq,qG1];exact qA6 _)];rfl
  exact f j s.toks λb o c e=>D b o (λh=>c (by simp[h])) e
 self:=λ_ _ _ _ a f=>Nx a.1 f
theorem Bf(es:Array (Int×yT)):(List.range es.size).map (λp=>((es[p]?).map (·.2)).getD .none)=es.toList.map (·.2):=by
 refine qS0 (by simp) λj b c=>?_;have a:j<es.size:=by simpa using b
 simp[a]
inductive Be(prog:yZ)(w:jD)(A:jC)(h0:jA)(S I:yR)(h':jA)(n:Nat)(vs:yB):Prop
 |mk (fp:yC) (St:Nat->jA->Prop) (vals:yB) (p:vals.Perm vs) (W:Walks prog w A I fp [I] n (λi v=>vals[i]?=Z9 v) St) (st:St 0 h') (f:∀b∈fp,b=S∨h0.objs.size<=b) (i:h0.objs.size<=I)
theorem Bc{Q:yL}(g:s.heap.get? S=Z9 o)(x:o.ExactSet)(d:o.data=.set es ep t)(c:t.fits es.size=Z7)(k:TOk (WL w) t)(h:es.size<scanBound)
  (v:∀(I:yR) (h':jA) dr,(∀b o,s.heap.get? b=Z9 o->h'.get? b=Z9 o)->(∀BB:jC,BB.handled=Z8->Be prog w BB s.heap S I h' es.size (es.toList.map (·.2)))->Q (.ref I) { s with heap:=h',drawn:=dr }) :
  yV (yX prog w) A (pyIter (.ref S)) Q E s:=by
 have ty:s.TypeIs (.ref S) "set":=⟨o,g,x.1⟩
 have lt:S<s.heap.objs.size:=qB4 g;refine wpAny_pyIter_slot ty lE (jJ lE ty Bp ?_ (PySem.F.args_set_iter_1 _));unfold Builtin.«frozenset.__iter__» Builtin.Frozenset.slot0 Builtin.Frozenset.sizeOf gV setDrawn;refine yO (yO (m:=dA "__iter__" 0 _) (yP (yP ?_)));refine yO (yO (yO (jG g d c (yP (yP ?_)))));refine yO (yO (jG g d c (yO (P8 rfl (yP ?_)))));dsimp only;refine vO (λq=>?_) λq=>?_
 ·refine yO (Jx es.size (List.range es.size) (by rw[qG1]) λB dr i=>?_);have p:B.length=es.size:=by rw[i.length_eq,qG1]
  refine yO (lO ?_ (by rw[qA0,p];exact fits_of_scanBound h));refine yO (wpAny_setEpoch_of (o:=o) (qA1 _ g) d c ?_);unfold newFields;refine yO (jF (yP ⟨_,rfl,"set_iterator",_,⟨_,qB2 _ rfl,rfl⟩,VI.lookup,?_⟩));refine v _ _ dr (λb o e=>qA1 _ (qA1 _ e)) λBB r=>?_;refine⟨[_,S,s.heap.objs.size],_,_,?_,Bg (o:=o) (t:=t) r ?_ ?_ d c i,⟨⟨_,qB2 _ rfl,rfl,rfl⟩,⟨_,qA1 _ (qB2 _ rfl),rfl,0,rfl⟩,qA1 _ (qA1 _ g)⟩,?_,?_⟩
  ·refine(i.map _).trans (.of_eq ?_);exact Bf es
  ·exact qC3 (qQ8 (qE3 lt) (qF6 _ _).symm)
  ·exact qC3 (qQ8 (qH2 _) (qF6 _ _).symm)
  ·intro b h;simp only[qA8,qD3,or_false]at h;rcases h with rfl|rfl|rfl
   ·exact .inr (qD4 (qL3 _) (qR4 (qF6 _ _).symm))
   ·exact .inl rfl
   ·exact .inr (qA6 _)
  ·exact qD4 (qL3 _) (qR4 (qF6 _ _).symm)
 ·have y:¬(!WL w&&(!t.plain&&decide (es.size>1)))=Z7:=q;refine yO (yP (yO (wpAny_setEpoch_of g d c ?_)));unfold newFields;refine yO (jF (yP ⟨_,rfl,"set_iterator",_,⟨_,qB2 _ rfl,rfl⟩,VI.lookup,?_⟩));refine v _ _ s.drawn (λb o e=>qA1 _ e) λBB r=>?_;have j:∀b∈[s.heap.objs.size,S],b=S∨s.heap.objs.size<=b:=λb h=>by
   simp only[qA8,qD3,or_false]at h;rcases h with rfl|rfl
   ·exact .inr (qA6 _)
   ·exact .inl rfl
  cases f:WL w with
  |true=>exact⟨_,_,_,(Nv _ es).map _,Bk (o:=o) (t:=t) r (qC3 lt) f d c,⟨⟨_,qB2 _ rfl,rfl,rfl⟩,qA1 _ g⟩,j,qA6 _⟩
  |false =>
   rw[f]at y k;have i:(!t.plain&&decide (es.size>1))=Z5:=by simpa using y
   have z:Rs t.place:=by
    cases n:t.plain with
    |true=>exact k.up n
    |false =>
     rw[n]at i;have D:t.place.size=es.size:=by simp only[SetTable.fits,qC4,beq_iff_eq]at c;exact c.1
     have F:es.size<=1:=by simpa using i
     unfold Rs;have u:t.place.toList.length<=1:=by rw[yU];omega
     cases C:t.place.toList with
     |nil=>exact .nil
     |cons a l =>
      rw[C]at u;cases l with
      |nil=>exact qF7 _ _
      |cons b l=>simp at u
   exact⟨_,_,_,.refl _,Bh (o:=o) r (qC3 lt) f d c k.led i z,⟨⟨0,Bj z,⟨_,qB2 _ rfl,rfl,rfl⟩⟩,qA1 _ g⟩,j,qA6 _⟩
end
section
variable {prog:yZ}{w:jD}{A:jC}{E:yL}{s:yQ}{S:yR}{zs:yA}
theorem Bb(c:s.TypeIs (.ref S) "set")(h:Q Z5 s):yV (yX prog w) A (Builtin.List.listLengthHint (.ref S)) Q E s:=by
 unfold Builtin.List.listLengthHint;refine yO (g6 c PySem.F.slot_set_len.lookup ?_);generalize hid:("set.__len__":String)=id0
 wp_delta
 rw[show splitId id0=Z9 ("set","__len__")from by subst hid;decide +kernel];subst hid;refine yO (wZ (T := "set") (b:=Z7) c sub_set_self ?_);refine vO (λa=>absurd a (by decide)) (λ_=>?_);refine vO (λ_=>?_) (λa=>absurd (by decide +kernel) a);refine yO (vQ c ?_);exact yP h
end
theorem ZQ.dr{Z:St}(I:ZQ X a Z H s)(d:Drawn):ZQ X a Z H { s with drawn:=d } :=
 ⟨I.ok,I.os,I.bare,I.base,I.loc,I.cell,I.free,I.freeC,I.pin,I.hok,I.len⟩
section
variable {prog:yZ}{w:jD}{A:jC}{E:yL}{s:yQ}{r:yR}
theorem Ba{Q:yL}{ns:yA}(y:ns.length<64)
  (t:∀(A:jC) (E:yL) (R:yB->yQ->Prop),A.handled=Z8->(∀(h':jA) (tk:Nat) (dr:Drawn) (a:yB) (ms:yA),(∀b o,s.heap.get? b=Z9 o->h'.get? b=Z9 o)->vE a ms->ms.Perm ns->R a { s with heap:=h',toks:=tk,drawn:=dr })->yV (yX prog w) A (mB (.ref r)) R E s)
  (q:A.handled=Z8)
  (h:∀(f:jA) (l:yR) (h':jA) (tk:Nat) (dr:Drawn) (e:Nat) (a:yB) (ms:yA),(∀b o,s.heap.get? b=Z9 o->f.get? b=Z9 o)->(∀b o,f.get? b=Z9 o->h'.get? b=Z9 o)->f.objs.size<=l->h'.get? l=Z9 (j4 "list" a.toArray e)->vE a ms->ms.Perm ns->ms.Pairwise (·<=·)->Q (.ref l) { s with heap:=h',toks:=tk,drawn:=dr }) :
  yV (yX prog w) A (call (.builtin "sorted") [.ref r]) Q E s:=by
 refine wE dP dC dD (dE _) ?_;unfold Builtin.«sorted»;refine yO (m:=checkCount "sorted" 1 1 _) (yP ?_);refine yO (t _ _ _ q λh' tk dr a ms hk k j=>?_);have d:a.length=ns.length:=by
  rw[<- j.length_eq];clear hk j
  induction k with
  |nil=>rfl
  |cons _ _ _ p=>simp[p]
 refine yO (fD ?_ (by rw[d,vP];omega));have c:(h'.push (j4 "list" a.toArray 0)).get? h'.objs.size=Z9 (j4 "list" a.toArray 0):=qB2 _ rfl;show yV _ _ _ _ _ { s with heap:=h'.push (j4 "list" a.toArray 0),toks:=tk,drawn:=dr };refine yO (jP (jJ lS ⟨_,c,rfl⟩ g7 (list_sort_tree c k (by omega) λout i u x v=>⟨_,rfl,?_⟩) (lT _)));obtain⟨e,n⟩:=mK (out:=out) c;refine yP ⟨_,rfl,h h' h'.objs.size _ tk dr e out.toList i hk (λb o g=>?_) (qA6 _) (by simpa using n) u (x.trans j) v⟩;have lt:b<h'.objs.size:=qB4 g;rw[lU (qC3 lt) (by rw[fQ];exact qE3 lt)];exact qA1 _ g
end
structure XG(lt:jL->jL->Bool):Prop where
 as:∀x y,lt x y=Z7->lt y x=Z5
 tr:∀x y z,lt y x=Z5->lt z y=Z5->lt z x=Z5
theorem XG.flip(h:XG lt):XG λx y=>lt y x :=
 ⟨λx y e=>h.as y x e,λx y z a b=>h.tr z y x b a⟩
theorem XG.rf(h:XG lt)(x:jL):lt x x=Z5:=by
 cases e:lt x x with
 |false=>rfl
 |true=>exact e.symm.trans (h.as x x e)
abbrev Yj(lt:jL->jL->Bool)(l:yI):Prop:=l.Pairwise λx y=>lt y x=Z5
section
variable {lt:jL->jL->Bool}{a b ra rb out xs:yI}{x:jL}
theorem Yj.rev(h:Yj (λx y=>lt y x) out):Yj lt out.reverse:=qP7.mpr h
end
def Xt(prog:yZ)(w:jD)(A:jC)(s:yQ)(a:vU)(lt:jL->jL->Bool)(G:jL->Prop):Prop :=
 ∀x y,G x->G y->∀Q:Bool->yQ->Prop,Q (lt x y) s->yV (yX prog w) A (keyLt' a x.1 y.1) Q (λ_ _=>False) s
section
variable {prog:yZ}{w:jD}{A:jC}{E:yL}{s:yQ}{κ:vU}{lt:jL->jL->Bool}{G:jL->Prop}{st:wD}
theorem A9(d:Xt prog w A s κ lt G)(hk:kindOf st=κ)(c:G x)(f:G y)(h:Q (Z9 (lt x y)) st):wpS (yX prog w) A E s (lt' x y) Q st:=by rw[lt'_eq];refine jK (dF ?_);rw[hk];refine jK (wpS_lift (vV (jU (d x y c f (λb a=>a=s/\b=lt x y) ⟨rfl,rfl⟩) (λb a e=>?_) λ_ _ x=>x.elim)));obtain⟨rfl,rfl⟩:=e;exact⟨rfl,jW h⟩
theorem Jw(b:a[i]?=Z9 x)(h:Q x st):wpS (yX prog w) A E s (elem' a i) Q st:=by rw[elem'_eq,b];exact jW h
end
section
variable {lt:jL->jL->Bool}{a b ra rb out xs:yI}{x:jL}
theorem Jv(h:i<a.length):a.drop i=[a[i]]++a.drop (i+1):=qI5 h
end
theorem Nu(d:XG lt)(sb:Yj lt b)(c:i<b.length)(h:lt b[i] x=Z5):∀y∈b.drop i,lt y x=Z5:=by
 intro y a;rw[Jv c]at a;rcases qB7.mp a with a|a
 ·rw[qB6.mp a];exact h
 ·have e:Yj lt ([b[i]]++b.drop (i+1)):=by rw[<- Jv c];exact sb.sublist (List.drop_sublist ..)
  exact d.tr x b[i] y h ((qD6.mp e).2.2 _ (qO3 _) y a)
section
variable {prog:yZ}{w:jD}{A:jC}{E:yL}{s:yQ}{κ:vU}{lt:jL->jL->Bool}{G:jL->Prop}{st:wD}
end
section
variable {lt:jL->jL->Bool}{a b:yI}{na nb t:Nat}{out:Array jL}
theorem A8(h:na - 1<a.length)(c:0<na):(a.take na).reverse=[a[na - 1]]++(a.take (na - 1)).reverse:=by
 obtain⟨m,rfl⟩:∃m,na=m+1:=⟨na - 1,by omega⟩
 simp only[qQ9]at h ⊢;rw[qL7 h,List.reverse_append];rfl
theorem A7(e:XG lt)(sb:Yj lt b)(f:nb - 1<b.length)(h:lt x b[nb - 1]=Z5):∀y∈(b.take nb).reverse,lt x y=Z5:=by
 intro y c;rcases Nat.eq_zero_or_pos nb with rfl|g
 ·simp at c
 ·have i:Yj lt (b.take nb):=sb.sublist (qR2 ..);have d:(b.take nb).reverse.Pairwise λx y=>lt x y=Z5:=qP7.mpr i;rw[A8 f g]at c d;rcases qB7.mp c with c|c
  ·rw[qB6.mp c];exact h
  ·exact e.tr y b[nb - 1] x ((qD6.mp d).2.2 _ (qO3 _) y c) h
end
section
variable {prog:yZ}{w:jD}{A:jC}{E:yL}{s:yQ}{κ:vU}{lt:jL->jL->Bool}{G:jL->Prop}{st:wD}
end
noncomputable abbrev Wh:=Nat×Nat×Nat
noncomputable abbrev SS(a:vU)(l:yI)(p:List Wh)(g:Nat):SortSt:=SortSt.mk' a l.toArray p.toArray g Z8
theorem A6{l:yI}(h:x∈l.take n):∃i,∃a:i<l.length,i<n/\l[i]=x:=by obtain⟨i,a,e⟩:=qK1.mp h;refine⟨i,by simp at a;omega,by simp at a;omega,by simpa using e⟩
theorem A5{l:yI}(h:x∈l.drop n):∃i,∃a:i<l.length,n<=i/\l[i]=x:=by obtain⟨i,a,e⟩:=qK1.mp h;refine⟨n+i,by simp at a;omega,by omega,by simpa using e⟩
theorem A4(a:XG lt)(sl:Yj lt l)(h:0<l.length):∀y∈l,lt y l[0]=Z5:=λy b=>Nu a sl h (a.rf _) y (by simpa using b)
theorem Nt(a:XG lt)(sl:Yj lt l)(h:0<l.length):∀y∈l,lt (l[l.length - 1]'(by omega)) y=Z5:=λy b=>A7 (nb:=l.length) a sl (by omega) (a.rf _) y (by simpa using b)
theorem A3(P T U:yI):mirror (P++(T++U)).toArray P.length (P.length+T.length) ((P.length+T.length - P.length) / 2)=(P++(T.reverse++U)).toArray:=by
 apply Array.ext_getElem?;intro k;rw[getElem?_mirror_all (by simp)];simp only[qF4];by_cases h:P.length<=k/\k<P.length+T.length
 ·rw[if_pos h,qA3 (by omega),qB0 (by omega),qA3 (by omega),qB0 (by simp;omega),List.getElem?_reverse (by omega)];congr 1;omega
 ·rw[if_neg h];by_cases a:k<P.length
  ·rw[qB0 a,qB0 a]
  ·rw[qA3 (by omega),qA3 (by omega),qA3 (by omega),qA3 (by simp;omega)];simp
theorem A2(P T U:yI)(e:jL):bubble (P++(T++(e::U))).toArray (P.length+T.length) T.length=(P++(e::(T++U))).toArray:=by
 apply Array.ext_getElem?;intro k;rw[getElem?_bubble (by simp) _ (by omega)];simp only[qF4,qQ9];by_cases h:k=P.length
 ·rw[if_pos h,qA3 (by omega),qA3 (by omega),qA3 (by omega),h];simp
 ·rw[if_neg h];by_cases b:P.length<k/\k<=P.length+T.length
  ·rw[if_pos b,qA3 (by omega),qB0 (by omega),qA3 (by omega)];obtain⟨m,rfl⟩:∃m,k=P.length+m+1:=⟨k - P.length - 1,by omega⟩
   rw[show P.length+m+1 - P.length=m+1 by omega,qC9,qB0 (by omega)];congr 1;omega
  ·rw[if_neg b];by_cases a:k<P.length
   ·rw[qB0 a,qB0 a]
   ·obtain⟨m,rfl⟩:∃m,k=P.length+T.length+m+1:=⟨k - P.length - T.length - 1,by omega⟩
    rw[qA3 (by omega),qA3 (by omega),qA3 (by omega),show P.length+T.length+m+1 - P.length - T.length=m+1 by omega,show P.length+T.length+m+1 - P.length=T.length+m+1 by omega,qC9,qC9,qA3 (by omega)];congr 1;omega
section
variable {prog:yZ}{w:jD}{A:jC}{E:yL}{s:yQ}{κ:vU}{lt:jL->jL->Bool}{G:jL->Prop}{p:List Wh}{g:Nat}
theorem Ro(d:Xt prog w A s κ lt G)(b:∀x∈l,G x)(a:l[i]?=Z9 x)(c:l[j]?=Z9 y)(h:Q (Z9 (lt x y)) (SS κ l p g)):wpS (yX prog w) A E s (ltAt' i j) Q (SS κ l p g):=by rw[ltAt'_eq];refine jK (dF ?_);refine jK (Jw (show l.toArray[i]?=Z9 x by rw[qF4];exact a) (jK (Jw (show l.toArray[j]?=Z9 y by rw[qF4];exact c) ?_)));exact A9 d rfl (b x (qC0 a)) (b y (qC0 c)) h
theorem Rk{P T U:yI}(a:i=P.length)(b:j=P.length+T.length)(h:Q () (SS κ (P++(T.reverse++U)) p g)):wpS (yX prog w) A E s (mL i j) Q (SS κ (P++(T++U)) p g):=by
 subst a b;rw[reverseSlice'_eq];refine mQ ?_;have e:setArr (SS κ (P++(T++U)) p g) (mirror (arrOf (SS κ (P++(T++U)) p g)) P.length (P.length+T.length) ((P.length+T.length - P.length) / 2))=SS κ (P++(T.reverse++U)) p g:=by show SortSt.mk' κ (mirror (P++(T++U)).toArray _ _ _) _ _ _=_;rw[A3]
 rw[e];exact h
theorem A1{P T U:yI}(a:i=P.length+T.length)(b:j=P.length)(h:Q () (SS κ (P++(e::(T++U))) p g)):wpS (yX prog w) A E s (moveDown' i j) Q (SS κ (P++(T++(e::U))) p g):=by
 subst a b;rw[moveDown'_eq];refine mQ ?_;have c:setArr (SS κ (P++(T++(e::U))) p g) (bubble (arrOf (SS κ (P++(T++(e::U))) p g)) (P.length+T.length) (P.length+T.length - P.length))=SS κ (P++(e::(T++U))) p g:=by show SortSt.mk' κ (bubble (P++(T++(e::U))).toArray _ _) _ _ _=_;rw[qL4,A2]
 rw[c];exact h
theorem Ju{pre D U:yI}(o:XG lt)(K:Xt prog w A s κ lt G)(t:∀x∈pre++(D++U),G x)(j:k=pre.length)(L:n=D.length+U.length)(M:0<D.length)(B:Yj lt D)
  (h:∀V W,U=V++W->Yj lt (D++V)->(W=[]∨∃e H,W=e::H/\∃z,(D++V)[(D++V).length - 1]?=Z9 z/\lt e z=Z7)->Q (Z8,D.length+V.length) (SS κ (pre++(D++U)) p g)) :
  wpS (yX prog w) A E s (forIn [D.length:n] (Z8,D.length) λ_ (c:Option (yK)×Nat)=>ltAt' (k+c.2) (k+c.2 - 1) >>= λr=>match r with
   |some a=>if a=Z7 then pure (ForInStep.done (Z8,c.2))else pure (ForInStep.yield (Z8,c.2+1))
   | _=>pure (ForInStep.done (Z9 Z8,c.2))) Q (SS κ (pre++(D++U)) p g):=by
 subst j L;refine wT (I:=λx c b=>b=SS κ (pre++(D++U)) p g/\c=(Z8,x)/\∃V W,U=V++W/\x=D.length+V.length/\Yj lt (D++V)) ?_ ?_ ⟨rfl,rfl,[],U,rfl,rfl,by simpa using B⟩
 ·rintro x c b _ i ⟨rfl,rfl,V,W,rfl,rfl,f⟩;dsimp only;cases W with
  |nil=>simp at i
  |cons e W =>
   have C:(D++V).length - 1<(D++V).length:=by simp;omega
   obtain⟨z,l⟩:∃z,(D++V)[(D++V).length - 1]?=Z9 z:=⟨_,qA4 C⟩
   have d:=l;rw[qB8]at d;refine jK (Ro K t (x:=e) (y:=z) ?_ ?_ ?_)
   ·rw[qA3 (by omega),qA3 (by omega),qA3 (by omega)];rw[show pre.length+(D.length+V.length) - pre.length - D.length - V.length=0 by omega];rfl
   ·rw[<- qC6 D,qA3 (by omega),qB0 (by simp;omega),<- d];congr 1;omega
   ·cases m:lt e z with
    |true=>exact jW (h V (e::W) rfl f (.inr ⟨e,W,rfl,z,l,m⟩))
    |false =>
     refine jW ⟨rfl,rfl,V++[e],W,by simp,by simp;omega,?_⟩;rw[<- qC6];refine qD6.mpr ⟨f,qF7 ..,λu F v J=>?_⟩;have:=qB6.mp J;subst this;have q:=Nt o f (by simp;omega) u F;rw[<- (qA7.mp l).2]at m;exact o.tr _ _ _ q m
 ·rintro c b ⟨rfl,rfl,V,W,rfl,i,f⟩;have:W=[]:=by
   cases W with
   |nil=>rfl
   |cons e W=>simp at i
  subst this;rw[i];exact h V [] rfl f (.inl rfl)
end
structure Xe(lt:jL->jL->Bool)(R D1 T U:yI):Prop where
 pm:(D1++(T++U)).Perm R
 ds:Yj (λx y=>lt y x) (D1++T)
 t0:0<T.length
 eq:∀u∈T,∀v∈T,lt u v=Z5
section
variable {lt:jL->jL->Bool}{R D1 T U:yI}{e t:jL}
theorem Xe.last(h:Xe lt R D1 T (e::U))(a:XG lt)(ht:(D1++T)[(D1++T).length - 1]?=Z9 t)(k:lt t e=Z5):∀d∈D1++T,lt d e=Z5:=by intro d b;have q:=Nt (lt:=λx y=>lt y x) a.flip h.ds (by have:=h.t0;simp;omega) d b;rw[(qA7.mp ht).2]at q;exact a.tr e t d k q
theorem Xe.rev(h:Xe lt R D1 T U):Yj (λx y=>lt y x) (D1++T.reverse):=by obtain⟨a,b,c⟩:=qD6.mp h.ds;refine qD6.mpr ⟨a,qL8 λu f v g=>h.eq u (by simpa using f) v (by simpa using g),λx d y i=>c x d y (by simpa using i)⟩
theorem Xe.one(h:Xe lt R D1 T (e::U))(q:∀d∈D1++T,lt d e=Z5)(a:XG lt):Xe lt R (D1++T) [e] U:=by
 refine⟨by simpa using h.pm,qD6.mpr ⟨h.ds,qF7 ..,λx b y g=>?_⟩,by simp,λu c v f=>?_⟩
 ·rw[qB6.mp g];exact q x b
 ·rw[qB6.mp c,qB6.mp f];exact a.rf _
theorem Xe.oneR(h:Xe lt R D1 T (e::U))(q:∀d∈D1++T,lt d e=Z5)(b:XG lt):Xe lt R (D1++T.reverse) [e] U:=by
 refine⟨?_,qD6.mpr ⟨h.rev,qF7 ..,λx a y g=>?_⟩,by simp,λu c v f=>?_⟩
 ·rw[qC6];exact((List.Perm.refl D1).append (T.reverse_perm.append (List.Perm.refl _))).trans h.pm
 ·rw[qB6.mp g];refine q x ?_;rcases qB7.mp a with a|a
  ·exact qE9 _ a
  ·exact qC5 _ (by simpa using a)
 ·rw[qB6.mp c,qB6.mp f];exact b.rf _
theorem Xe.more(h:Xe lt R D1 T (e::U))(q:∀d∈D1++T,lt d e=Z5)(c:XG lt)(ht:(D1++T)[(D1++T).length - 1]?=Z9 t)(k:lt e t=Z5):Xe lt R D1 (T++[e]) U:=by
 have g:t∈T:=by rw[qA3 (by have:=h.t0;simp;omega)]at ht;exact qC0 ht
 refine⟨by simpa using h.pm,?_,by simp,?_⟩
 ·rw[<- qC6];exact qD6.mpr ⟨h.ds,qF7 ..,λx f y i=>by rw[qB6.mp i];exact q x f⟩
 ·intro u a v b;rcases qB7.mp a with a|a<;>rcases qB7.mp b with b|b
  ·exact h.eq u a v b
  ·rw[qB6.mp b];exact q u (qC5 _ a)
  ·rw[qB6.mp a];exact c.tr v t e (h.eq t g v b) k
  ·rw[qB6.mp a,qB6.mp b];exact c.rf _
end
section
variable {prog:yZ}{w:jD}{A:jC}{E:yL}{s:yQ}{κ:vU}{lt:jL->jL->Bool}{G:jL->Prop}{p:List Wh}{g:Nat}
def Jt(a:vU)(lt:jL->jL->Bool)(pre R:yI)(p:List Wh)(g:Nat)(Q:yK->wD->Prop):Prop :=
 ∀N W,(N++W).Perm R->0<N.length->Yj lt N->Q (Z9 N.length) (SS a (pre++(N++W)) p g)
theorem Js{pre R a:yI}(c:∀x∈pre++R,G x)(h:a.Perm R):∀x∈pre++a,G x:=λx b=>c x (((List.Perm.refl pre).append h).mem_iff.mp b)
noncomputable def Nr(d a n:Nat):StateT wD Sem (Option (yK)×Nat):=forIn [a:n] (Z8,a) λ_ (c:Option (yK)×Nat)=>ltAt' (d+c.2) (d+c.2 - 1) >>= λr=>match r with
 |some b=>if b=Z7 then pure (ForInStep.done (Z8,c.2))else pure (ForInStep.yield (Z8,c.2+1))
 |_=>pure (ForInStep.done (Z9 Z8,c.2))
noncomputable def Nq(d m n:Nat):StateT wD Sem (Option (yK)×Nat×Nat):=forIn [m:n] (Z8,m,0) λ_ (c:Option (yK)×Nat×Nat)=>ltAt' (d+c.2.1) (d+c.2.1 - 1) >>= λr=>match r with
 |some a=>if a=Z7 then ite (c.2.2>0) (mL (d+c.2.1 - (c.2.2+1)) (d+c.2.1) >>= λ_=>pure (ForInStep.yield (Z8,c.2.1+1,0))) (pure (ForInStep.yield (Z8,c.2.1+1,0)))
  else ltAt' (d+c.2.1 - 1) (d+c.2.1) >>= λr=>match r with
   |some b=>if b=Z7 then pure (ForInStep.done (Z8,c.2.1,c.2.2))else pure (ForInStep.yield (Z8,c.2.1+1,c.2.2+1))
   |_=>pure (ForInStep.done (Z9 Z8,c.2.1,c.2.2))
 |_=>pure (ForInStep.done (Z9 Z8,c.2.1,c.2.2))
theorem Jr(i:XG lt)(B:Xt prog w A s κ lt G)(D:∀x∈pre++R,G x)(l:v=pre.length)(M:n=R.length)(b:Xe lt R a T U)(f:T.length=1)
   (J:m=(a++T).length) (h:∀a T U q,Xe lt R a T U->T.length=q+1->Q (Z8,(a++T).length,q) (SS κ (pre++(a++(T++U))) p g)):wpS (yX prog w) A E s (Nq v m n) Q (SS κ (pre++(a++(T++U))) p g):=by
 subst l M J;have u:=b.pm.length_eq;refine dG (wT (I:=λx c d=>∃a T U q,c=(Z8,x,q)/\d=SS κ (pre++(a++(T++U))) p g/\Xe lt R a T U/\(a++T).length=x/\T.length=q+1)
  (Q:=λc d=>∃a T U q,c=(Z8,(a++T).length,q)/\d=SS κ (pre++(a++(T++U))) p g/\Xe lt R a T U/\T.length=q+1) ?_ ?_ ⟨a,T,U,0,rfl,rfl,b,rfl,f⟩) ?_
 ·rintro x c d _ o ⟨a,T,U,q,rfl,rfl,b,rfl,f⟩;dsimp only;have F:=b.pm.length_eq;cases U with
  |nil=>simp at F o;omega
  |cons e U =>
   have H:(a++T).length - 1<(a++T).length:=by simp;omega
   obtain⟨t,k⟩:∃t,(a++T)[(a++T).length - 1]?=Z9 t:=⟨_,qA4 H⟩
   have r:(pre++(a++(T++e::U)))[pre.length+(a++T).length]?=Z9 e:=by rw[<- qC6 a,qA3 (by omega),qA3 (by omega),show pre.length+(a++T).length - pre.length - (a++T).length=0 by omega];rfl
   have g2:(pre++(a++(T++e::U)))[pre.length+(a++T).length - 1]?=Z9 t:=by rw[<- qC6 a,qA3 (by omega),qB0 (by omega),<- k];congr 1;omega
   have j:=Js D b.pm;refine jK (Ro B j r g2 ?_);cases C:lt e t with
   |true =>
    have y:=b.last i k (i.as _ _ C);simp only[if_true];by_cases z:q>0
    ·rw[if_pos z];have K:pre++(a++(T++e::U))=(pre++a)++(T++e::U):=by simp
     rw[K];refine jK (Rk (by simp;omega) (by simp;omega) (jW ⟨a++T.reverse,[e],U,0,rfl,by simp,b.oneR y i,by simp;omega,rfl⟩))
    ·rw[if_neg z];exact jW ⟨a++T,[e],U,0,rfl,by simp,b.one y i,by simp;omega,rfl⟩
   |false =>
    simp only[qF8,if_false];refine jK (Ro B j g2 r ?_);cases L:lt t e with
    |true=>exact jW ⟨a,T,e::U,q,rfl,rfl,b,f⟩
    |false=>exact jW ⟨a,T++[e],U,q+1,rfl,by simp,b.more (b.last i k L) i k C,by simp;omega,by simp[f]⟩
 ·rintro c d ⟨a,T,U,q,rfl,rfl,b,o,f⟩;exact⟨a,T,U,q,by rw[o],rfl,b,f⟩
 rintro c d ⟨a,T,U,q,rfl,rfl,b,f⟩;exact h a T U q b f
theorem P7{K:Option (yK)×Nat->StateT wD Sem (yK)}(r:∀m st,Q (Z9 m) st->wpS (yX prog w) A E s (K (Z8,m)) Q st)(l:XG lt)(u:Xt prog w A s κ lt G)(f:∀x∈pre++R,G x)(d:c=pre.length)(v:n=R.length)(h:Jt κ lt pre R p g Q)
  (j:Yj (λx y=>lt y x) D) (o:a=D.length) (k:0<D.length) (i:(D++U).Perm R):wpS (yX prog w) A E s (mL c (c+a) >>= λ_=>Nr c a n >>= K) Q (SS κ (pre++(D++U)) p g):=by
 subst o d v;refine jK (Rk rfl rfl ?_);have b:(D.reverse++U).Perm R:=(D.reverse_perm.append (List.Perm.refl U)).trans i;have q:D.length=D.reverse.length:=by simp
 rw[q];refine jK (Ju l u (Js f b) rfl (by rw[<- b.length_eq];simp) (by simp[k]) j.rev λV W e t _=>?_);subst e;have:=h (D.reverse++V) W (by simpa using b) (by simp;omega) t;simp only[qC6,qB8]at this;exact r _ _ this
theorem A0(i:XG lt)(t:Xt prog w A s κ lt G)(o:∀x∈pre++R,G x)(f:Z=pre.length)(B:n=R.length)(hR:0<R.length)(h:Jt κ lt pre R p g Q):
  wpS (yX prog w) A E s (countRun' Z n) Q (SS κ (pre++R) p g):=by
 obtain⟨r,R',rfl⟩:∃r R',R=r::R':=by cases R with
  |nil=>simp at hR
  |cons r R=>exact⟨r,R,rfl⟩
 have e0:pre++r::R'=pre++([r]++R'):=rfl;rw[e0]at o ⊢;refine jK (Ju (D:=[r]) i t o f (by rw[B];simp;omega) (by simp) (qF7 ..) λV W e L ho=>?_);subst e;dsimp only;by_cases X:([r].length+V.length == n)=Z7
 ·rw[if_pos X];have:=h ([r]++V) W (by simp) (by simp) L;simp only[qC6,qB8]at this;exact jW this
 rw[if_neg X];rcases ho with rfl|⟨e,W',rfl,z,J,Y⟩
 ·exfalso;apply X;rw[B];simp;omega
 have O:∀x∈pre++(([r]++V)++e::W'),G x:=by simpa using o
 rw[show pre++([r]++(V++e::W'))=pre++(([r]++V)++e::W') by simp];have hs:∀H,(H++e::W').Perm (r::(V++e::W'))->(∀u∈H,∀v∈H,lt u v=Z5)->(∀d∈H,lt d e=Z5)->Xe lt (r::(V++e::W')) H [e] W':=λH a b c =>
  ⟨by simpa using a,qD6.mpr ⟨qL8 b,qF7 ..,λx hx y hy=>by rw[qB6.mp hy];exact c x hx⟩,by simp,λu l v F=>by rw[qB6.mp l,qB6.mp F];exact i.rf _⟩
 by_cases M:[r].length+V.length>1
 ·rw[if_pos M];refine jK (Ro t O (x:=r) (y:=z) (by rw[f,qA3 (by omega)];simp) (by
   rw[f,qA3 (by omega),qB0 (by simp at M ⊢;omega),<- J];congr 1;simp;omega) ?_)
  cases e3:lt r z with
  |true =>
   have:=h ([r]++V) (e::W') (by simp) (by simp) L;simp only[qC6,qB8]at this ⊢;exact jW this
  |false =>
   simp only[qF8,if_false];have z1:∀u∈[r]++V,lt z u=Z5:=λu l=>by have:=Nt i L (by simp) u l;rwa[(qA7.mp J).2]at this
   have z2:∀u∈[r]++V,lt u r=Z5:=λu l=>A4 i L (by simp) u l;have al:∀u∈[r]++V,∀v∈[r]++V,lt u v=Z5:=λu l v F=>i.tr v r u (i.tr v z r (z1 v F) e3) (z2 u l);have zm:z∈[r]++V:=qC0 J;refine jK (Rk f (by rw[f];simp;omega) ?_);have S:=hs ([r]++V).reverse (by
    have:=((([r]++V).reverse_perm).append (List.Perm.refl (e::W')))
    simpa using this) (λu l v F=>al u (qO4.mp l) v (qO4.mp F)) (λd P=>i.tr e z d (i.as _ _ Y) (al d (qO4.mp P) z zm))
   refine jK (wpS_lift (wA ⟨rfl,?_⟩));refine jK (Jr i t (by simpa using o) f B S rfl (by simp;omega) λj T U q k hT=>?_);dsimp only;by_cases I:q>0
   ·rw[if_pos I,show pre++(j++(T++U))=(pre++j)++(T++U) by simp];refine jK (Rk (by rw[f];simp;omega) (by rw[f];simp;omega) ?_);rw[show(pre++j)++(T.reverse++U)=pre++((j++T.reverse)++U) by simp];exact P7 (K:=_) (λm N C=>jW C) i t (by simpa using o) f B h k.rev (by simp) (by have:=k.t0;simp;omega) (by rw[qC6];exact((List.Perm.refl j).append (T.reverse_perm.append (List.Perm.refl _))).trans k.pm)
   ·rw[if_neg I,show pre++(j++(T++U))=pre++((j++T)++U) by simp];exact P7 (K:=_) (λm N C=>jW C) i t (by simpa using o) f B h k.ds rfl (by have:=k.t0;simp;omega) (by simpa using k.pm)
 ·rw[if_neg M];have hV:V=[]:=by cases V with
   |nil=>rfl
   |cons v V=>simp at M
  subst hV;have S:=hs [r] (by simp) (λu l v F=>by rw[qB6.mp l,qB6.mp F];exact i.rf _) (λd P=>by
   rw[qB6.mp P];have:z=r:=by simpa using J.symm
   rw[<- this];exact i.as _ _ Y)
  refine jK (wpS_lift (wA ⟨rfl,?_⟩));refine jK (Jr i t (by simpa using o) f B S rfl (by simp) λj T U q k hT=>?_);dsimp only;by_cases I:q>0
  ·rw[if_pos I,show pre++(j++(T++U))=(pre++j)++(T++U) by simp];refine jK (Rk (by rw[f];simp;omega) (by rw[f];simp;omega) ?_);rw[show(pre++j)++(T.reverse++U)=pre++((j++T.reverse)++U) by simp];exact P7 (K:=_) (λm N C=>jW C) i t (by simpa using o) f B h k.rev (by simp) (by have:=k.t0;simp;omega) (by rw[qC6];exact((List.Perm.refl j).append (T.reverse_perm.append (List.Perm.refl _))).trans k.pm)
  ·rw[if_neg I,show pre++(j++(T++U))=pre++((j++T)++U) by simp];exact P7 (K:=_) (λm N C=>jW C) i t (by simpa using o) f B h k.ds rfl (by have:=k.t0;simp;omega) (by simpa using k.pm)
end
section
variable {prog:yZ}{w:jD}{A:jC}{E:yL}{s:yQ}{κ:vU}{lt:jL->jL->Bool}{G:jL->Prop}{p:List Wh}{g:Nat}
theorem AZ(c:XG lt)(h:Yj lt S)(m:∀x∈S.take l,lt e x=Z5)(f:∀x∈S.drop l,lt e x=Z7):Yj lt (S.take l++(e::S.drop l)):=by
 have i:Yj lt (S.take l++S.drop l):=by rw[qF5];exact h
 obtain⟨j,k,d⟩:=qD6.mp i;refine qD6.mpr ⟨j,qF3.mpr ⟨λy a=>c.as _ _ (f y a),k⟩,λx b y a=>?_⟩;rcases qA8.mp a with rfl|a
 ·exact m x b
 ·exact d x b y a
theorem AY{pre S U b:yI}(u:XG lt)(hA:Xt prog w A s κ lt G)(R:∀x∈pre++(S++(U++b)),G x)(H:O=pre.length)(hn:n=S.length+U.length)(M:ok=S.length)(h0:0<S.length)(X:Yj lt S)
  (h:∀N,N.Perm (S++U)->Yj lt N->Q Z7 (SS κ (pre++(N++b)) p g)):wpS (yX prog w) A E s (binarySort' O n ok) Q (SS κ (pre++(S++(U++b))) p g):=by
 subst H hn M;rw[binarySort'_eq];rw[show max S.length 1=S.length by omega];refine jK (dG (wT (I:=λk c m=>c=(Z8,())/\∃a f,k=a.length/\(a++f).Perm (S++U)/\Yj lt a/\m=SS κ (pre++(a++(f++b))) p g)
  (Q:=λc m=>c=(Z8,())/\∃N,N.Perm (S++U)/\Yj lt N/\m=SS κ (pre++(N++b)) p g) ?_ ?_ ⟨rfl,S,U,rfl,.refl _,X,rfl⟩) ?_)
 ·rintro k c m P Y ⟨rfl,a,f,rfl,t,q,rfl⟩;dsimp only;have K:=t.length_eq;cases f with
  |nil=>simp at K;omega
  |cons e f =>
  have J:∀x∈pre++(a++(e::f++b)),G x:=λx j=>R x (by
   rcases qB7.mp j with j|j
   ·exact qE9 _ j
   ·refine qC5 _ ?_;rw[<- qC6]at j ⊢;rcases qB7.mp j with j|j
    ·exact qE9 _ (t.mem_iff.mp j)
    ·exact qC5 _ j)
  refine jK (dG (wT (I:=λx c d=>d=SS κ (pre++(a++(e::f++b))) p g/\∃l r,c=(Z8,l,r)/\l<=r/\r<=a.length/\r - l<=a.length - x /\
    (∀i,(o:i<a.length)->i<l->lt e a[i]=Z5)/\(∀i,(o:i<a.length)->r<=i->lt e a[i]=Z7))
   (Q:=λc d=>d=SS κ (pre++(a++(e::f++b))) p g/\∃l r,c=(Z8,l,r)/\l<=a.length /\
    (∀i,(o:i<a.length)->i<l->lt e a[i]=Z5)/\(∀i,(o:i<a.length)->l<=i->lt e a[i]=Z7)) ?_ ?_ ⟨rfl,0,a.length,rfl,by omega,by omega,by omega,λi o h=>(by omega),λi o h=>(by omega)⟩) ?_)
  ·rintro x c d _ j ⟨rfl,l,r,rfl,F,z,V,C,B⟩;dsimp only;by_cases D:l≥r
   ·rw[if_pos D];have:l=r:=by omega
    subst this;exact jW ⟨rfl,l,l,rfl,z,C,B⟩
   ·rw[if_neg D];refine jK (Ro hA J (x:=e) (y:=a[(l+r) / 2]'(by omega)) ?_ ?_ ?_)
    ·rw[qA3 (by omega),qA3 (by omega),show pre.length+a.length - pre.length - a.length=0 by omega];rfl
    ·rw[qA3 (by omega),qB0 (by omega),qL4];exact qA4 (by omega)
    ·cases L:lt e (a[(l+r) / 2]'(by omega))with
     |true =>
      refine jW ⟨rfl,l,(l+r) / 2,rfl,by omega,by omega,by omega,C,λi o T=>?_⟩;cases Z:lt e a[i]with
      |true=>rfl
      |false =>
       have:=Nu u (x:=a[(l+r) / 2]'(by omega)) q (i:=(l+r) / 2) (by omega) (u.rf _) a[i] (by
        rw[qK1];exact⟨i - (l+r) / 2,by simp;omega,by simp only[qN4];congr 1;omega⟩)
       rw[u.tr _ _ _ this Z]at L;cases L
     |false =>
      refine jW ⟨rfl,(l+r) / 2+1,r,rfl,by omega,by omega,by omega,λi o T=>?_,B⟩;have:=Nu u (x:=a[i]) q (i:=i) o (u.rf _) (a[(l+r) / 2]'(by omega)) (by
        rw[qK1];exact⟨(l+r) / 2 - i,by simp;omega,by simp only[qN4];congr 1;omega⟩)
      exact u.tr _ _ _ this L
  ·rintro c d ⟨rfl,l,r,rfl,F,z,V,C,B⟩;have:l=r:=by omega
   subst this;exact⟨rfl,l,l,rfl,z,C,B⟩
  ·rintro c d ⟨rfl,l,r,rfl,hl,C,B⟩;dsimp only;have e0:pre++(a++(e::f++b))=(pre++a.take l)++(a.drop l++(e::(f++b))):=by
    conv=>lhs;rw[<- qF5 l a]
    simp only[qC6,qO5]
   rw[e0];refine jK (A1 (by simp;omega) (by simp;omega) (jW ⟨rfl,a.take l++(e::a.drop l),f,by simp;omega,?_,AZ u q (λx j=>?_) (λx j=>?_),by simp⟩))
   ·refine List.Perm.trans ?_ t;have:(a++e::f)=a.take l++(a.drop l++(e::f)):=by rw[<- qC6,qF5]
    rw[this,qC6];refine(List.Perm.refl _).append ?_;rw[qO5];exact qO6.symm
   ·obtain⟨i,o,v,rfl⟩:=A6 j;exact C i o v
   ·obtain⟨i,o,v,rfl⟩:=A5 j;exact B i o v
 ·rintro c m ⟨rfl,a,f,hk,t,q,rfl⟩;have K:=t.length_eq;have:f=[]:=by
   cases f with
   |nil=>rfl
   |cons e f=>simp at K;omega
  subst this;exact⟨rfl,a,by simpa using t,q,by simp⟩
 ·rintro c m ⟨rfl,N,t,W,rfl⟩;exact jW (h N t W)
end
abbrev Rn:=List (yI×Nat)
noncomputable def Wv:Rn->yI
 |[]=>[]
 |r::rs=>r.1++Wv rs
noncomputable def SA:Nat->Rn->List Wh
 |_,[]=>[]
 |o,r::rs=>(o,r.1.length,r.2)::SA (o+r.1.length) rs
section
variable {prog:yZ}{w:jD}{A:jC}{E:yL}{s:yQ}{κ:vU}{lt:jL->jL->Bool}{G:jL->Prop}
noncomputable abbrev Uz(a:vU)(rs:Rn)(ZD:yI)(g:Nat):SortSt:=SS a (Wv rs++ZD) (SA 0 rs) g
theorem Np:∀n:Nat,n<64->0<n->minRun' n n 0=n:=by decide +kernel
theorem AX(D:XG lt)(F:Xt prog w A s κ lt G)(B:∀x∈l,G x)(H:0<l.length)(o:l.length<64)
  (h:∀u a,arrOf a=u.toArray->failedOf a=Z8->u.Perm l->Yj lt u->Q () a):wpS (yX prog w) A E s sortRuns' Q (SS κ l [] 7):=by
 rw[sortRuns'_eq];refine jK (dF ?_);dsimp only;rw[show l.toArray.size=l.length from rfl,Np _ o H];refine jK (dG (wT
  (I:=λx c a=>(x=0/\c=(Z8,0)/\a=Uz κ [] l 7)∨∃M,c=(Z8,l.length)/\a=Uz κ [(M,0)] [] 7/\M.Perm l/\Yj lt M)
  (Q:=λc a=>∃M,c=(Z8,l.length)/\a=Uz κ [(M,0)] [] 7/\M.Perm l/\Yj lt M) ?_ ?_ (.inl ⟨rfl,rfl,rfl⟩)) ?_)
 ·rintro x c a _ j (⟨rfl,rfl,rfl⟩| ⟨M,rfl,rfl,b,k⟩)
  ·dsimp only;rw[if_neg (by omega)];have r:∀x∈Wv []++l,G x:=B;refine jK (A0 (pre:=Wv []) D F r rfl (by omega) (by omega) λN W e K t=>?_);dsimp only;have L:=e.length_eq;rw[qB8]at L;have d:∀M:yI,M.Perm l->Yj lt M->((Z8,0+l.length):Option Unit×Nat)=(Z8,l.length)/\SS κ (Wv []++(M++[])) (SA 0 []++[(0,l.length,0)]) 7=Uz κ [(M,0)] [] 7:=λM b k=>by refine⟨by rw[qR7],?_⟩;unfold Uz;rw[Wv,Wv,Wv,SA,SA,SA,qG3,qG3,List.nil_append,b.length_eq];rfl
   by_cases f:N.length<l.length
   ·rw[if_pos f];refine jK (wpS_lift (wA ⟨rfl,?_⟩));have J:∀x∈Wv []++(N++(W++[])),G x:=λx j=>B x (e.mem_iff.mp (by simpa[Wv]using j));have p:Wv []++(N++W)=Wv []++(N++(W++[])):=by rw[qG3]
    rw[p];refine jK (AY D F J rfl (by simp;omega) rfl K t λz v g=>?_);simp only[Bool.not_true,qF8,if_false];have i:min (l.length - 0) l.length=l.length:=by omega
    refine jK (dF ?_)
    (try dsimp only)
    have b:=v.trans e;obtain⟨m,n⟩:=d z b g;refine jK (mQ (jW (.inr ⟨z,?_,?_,b,g⟩)))
    ·rw[i];exact m
    ·rw[<- n,i];rfl
   ·rw[if_neg f];have p:W=[]:=qD0.mp (by omega);subst p;rw[qG3]at e;refine jK (dF ?_)
    (try dsimp only)
    obtain⟨m,n⟩:=d N e t;have C:N.length=l.length:=e.length_eq;refine jK (mQ (jW (.inr ⟨N,?_,?_,e,t⟩)))
    ·rw[<- C]at m ⊢;exact m
    ·rw[<- n,<- C];rfl
  ·dsimp only;rw[if_pos (qA6 _)];exact jW ⟨M,rfl,rfl,b,k⟩
 ·rintro c a (⟨j,_⟩| q)
  ·omega
  ·exact q
 rintro c a ⟨M,rfl,rfl,b,k⟩;dsimp only;have y:Q () (Uz κ [(M,0)] [] 7):=h M _ (by show(Wv [(M,0)]++[]).toArray=_;simp[Wv]) rfl b k;refine jK (dG (wT (I:=λx c a=>c=(Z8,())/\a=Uz κ [(M,0)] [] 7) (Q:=λc a=>c=(Z8,())/\a=Uz κ [(M,0)] [] 7) ?_ (λc a q=>q) ⟨rfl,rfl⟩) ?_)
 ·rintro x c a _ j ⟨rfl,rfl⟩;refine jK (dF ?_)
  (try dsimp only)
  rw[if_pos (by show 1<=1;exact qA6 _)];exact jW ⟨rfl,rfl⟩
 ·rintro c a ⟨rfl,rfl⟩;exact jW y
end
theorem Nn:∀(x y:yA),HT.lexLt x y=Z7->HT.lexLt y x=Z5
 |[],[],h=>by cases h
 |[],_::_,_=>rfl
 |_::_,[],h=>by cases h
 |a::x,b::y,h=>by
  rw[HT.lexLt_cons]at h ⊢;by_cases e:a=b
  ·subst e;rw[if_pos rfl]at h ⊢;exact Nn x y h
  ·rw[if_neg e]at h;rw[if_neg (λq=>e q.symm)];have:=of_decide_eq_true h;exact decide_eq_false (by omega)
theorem Nm:∀(x y z:yA),HT.lexLt y x=Z5->HT.lexLt z y=Z5->HT.lexLt z x=Z5
 |[],y,z,h,k=>by
  cases z with
  |nil=>rfl
  |cons c z=>rfl
 |a::x,[],z,h,k=>by cases h
 |a::x,b::y,[],h,k=>by cases k
 |a::x,b::y,c::z,h,k=>by
  rw[HT.lexLt_cons]at h k ⊢;by_cases e:b=a
  ·subst e;rw[if_pos rfl]at h;by_cases d:c=b
   ·subst d;rw[if_pos rfl]at k ⊢;exact Nm x y z h k
   ·rw[if_neg d]at k ⊢;exact k
  ·rw[if_neg e]at h;have g:=of_decide_eq_false h;by_cases d:c=b
   ·subst d;rw[if_neg e];exact h
   ·rw[if_neg d]at k;have f:=of_decide_eq_false k;rw[if_neg (by omega)];exact decide_eq_false (by omega)
theorem Jq:∀(x y:yA),HT.lexLt y x=Z5->HT.lexLt x y=Z5->x=y
 |[],[],_,_=>rfl
 |[],_::_,_,k=>by cases k
 |_::_,[],h,_=>by cases h
 |a::x,b::y,h,k=>by
  rw[HT.lexLt_cons]at h k;by_cases e:a=b
  ·subst e;rw[if_pos rfl]at h k;rw[Jq x y h k]
  ·rw[if_neg e]at k;rw[if_neg (λq=>e q.symm)]at h;have:=of_decide_eq_false h;have:=of_decide_eq_false k;omega
noncomputable def UY(h:jA):yT->yA
 |.ref a=>match h.get? a with
  |some o=>match o.data with
   |.seq b _=>b.toList.map numOf
   |_=>[]
  |none=>[]
 |_=>[]
def Yw(h:jA)(v:yT)(ns:yA):Prop:=∃a b,v=.ref a/\mS h a b/\vE b.toList ns
theorem Yw.kd(x:Yw h v ns):UY h v=ns:=by obtain⟨a,e,rfl,⟨o,c,g,n,d⟩,b⟩:=x;show(match h.get? a with|some o=>_|none=>_)=_;rw[c];show(match o.data with|.seq f _=>_|_=>_)=_;rw[d];exact b.nums
theorem Yw.mono(x:Yw h v ns)(k:∀b o,o.cls=.type "tuple"->h.get? b=Z9 o->h'.get? b=Z9 o):Yw h' v ns:=by obtain⟨a,c,rfl,⟨o,f,d,n,g⟩,e⟩:=x;exact⟨a,c,rfl,⟨o,k a o d f,d,n,g⟩,e⟩
noncomputable def Rj(h:jA)(x y:jL):Bool:=HT.lexLt (UY h x.1) (UY h y.1)
theorem AW(h:jA):XG (Rj h):=⟨λx y=>Nn _ _,λx y z=>Nm _ _ _⟩
section
variable {prog:yZ}{w:jD}{A:jC}{E:yL}{s:yQ}
theorem AV{b:Bool}{f d:Nat}{Q:Bool->yQ->Prop}{j:yB}{ns:yA}(k:vE j ns):∀{g:yB}{ms:yA} (i:Nat),vE g ms->ns.length+d=ms.length+f ->
  Q (HT.lexLt ns ms) s->W.KatLex prog w A b (decide (f<d)) Q (j.zip g) i s:=by
 induction k with
 |nil =>
  intro g ms i a c h;rw[qR3];refine W.kat_nil ?_;cases a with
  |nil=>rw[show decide (f<d)=Z5 from decide_eq_false (by simp at c;omega)];exact h
  |cons m u a=>rw[show decide (f<d)=Z7 from decide_eq_true (by simp at c;omega)];exact h
 |cons n t k l =>
  intro g ms i a c h;cases a with
  |nil =>
   rw[qQ5];refine W.kat_nil ?_;rw[show decide (f<d)=Z5 from decide_eq_false (by simp at c;omega)];exact h
  |cons m u a =>
   rw[qM7];refine W.kat_cons (wpAny_eqBool_int ?_);rw[HT.lexLt_cons]at h;by_cases e:n=m
   ·subst e;rw[if_pos rfl]at h;rw[show(n == n)=Z7 by simp];exact W.kat_yes (l (i+1) a (by simp at c;omega) h)
   ·rw[if_neg e]at h;rw[show(n == m)=Z5 by simpa using e];refine W.kat_no ?_;cases o:(b&&i == 0)with
    |true=>exact oneLt_int h
    |false=>exact W.kat_one _ _ (mC h)
theorem AU(hk:j=tuples' Z7∨j=general'∨j=oneType')(v:A.units<j5):Xt prog w A s j (Rj s.heap) (λx=>∃ns,Yw s.heap x.1 ns):=by
 rintro⟨x,M⟩ ⟨y,L⟩ ⟨ns,u⟩ ⟨H,z⟩ Q f;unfold Rj at f;rw[u.kd,z.kd]at f;obtain⟨a,r,D,⟨o,g,q,n,i⟩,k⟩:=u;obtain⟨b,m,B,⟨C,d,e,G,c⟩,h⟩:=z;dsimp only at D B f ⊢;subst D B;rcases hk with rfl|rfl|rfl
 ·refine W.kat_lt g i d c (AV k 0 h ?_ f);rw[<- k.length,<- h.length];simp;omega
 ·exact W.kat_one _ _ (HT.lt_tupInts ⟨o,g,q,n,i⟩ ⟨C,d,e,G,c⟩ k h v f)
 ·rw[keyLt'_oneType,oneLt'_eq];simp only[if_true];refine yO (wpAny_cRoomFor v ?_);obtain⟨J,K,F,I⟩:=o;obtain⟨t,l,data2,p⟩:=C;simp only at q i e c;subst q i e c;refine yO (wpAny_callSpecialIfBound?_slot ⟨_,g,rfl⟩ wU (gR wU ⟨_,g,rfl⟩ gM (gC _ _) (HT.tuple_lt_ints a b r m n G K l I p ns H k h) ⟨g,d,?_⟩));exact jX f
theorem Jp:∀(b:yB),(∀v∈b,∃ns,Yw s.heap v ns)->∃fs:List (yF),fs.length=b.length/\(∀f∈fs,∀v,f=Z9 v->∃n t,v=.int n t)/\∀{M:Model}{A:jC}{E:yL}{Q:List (yF)->yQ->Prop},Q fs s->yV M A (b.mapM firstOfTuple') Q E s
 |[],_=>⟨[],rfl,λf c=>(by cases c),λh=>by rw[List.mapM_nil];exact yP h⟩
 |v::b,hv=>by
  obtain⟨fs,i,k,p⟩:=Jp b λu j=>hv u (qC2 _ j);obtain⟨ns,a,d,rfl,⟨o,g,m,n,l⟩,q⟩:=hv v (qD5 ..);refine⟨d[0]?::fs,by simp[i],λf c v e=>?_,λ{M A E Q} h=>?_⟩
  ·rcases qA8.mp c with rfl|c
   ·have:v∈d.toList:=by rw[<- y9]at e;exact qC0 e
    exact q.all v this
   ·exact k f c v e
  ·rw[qH7];refine yO ?_;rw[W.kas_first_eq];refine yO (vQ (T := "tuple") ⟨o,g,m⟩ ?_);rw[if_neg (by first|decide|simp)];refine yO (gX g l (yP ?_));exact yO (p (yP h))
theorem AS{i:yB}(j:∀v∈i,∃ns,Yw s.heap v ns)(k:0<i.length)(h:∀m,(m=tuples' Z7∨m=general'∨m=oneType')->Q m s):
  yV (yX prog w) A (keyKind' i.toArray) Q E s:=by
 obtain⟨fs,z,B,I⟩:=Jp (s:=s) i j;rw[PyProof.Rows.kat_kind_eq,qN5,map_eq_pure_bind];refine yO (yO (I (yP ?_)));by_cases g:(fs.toArray.all λx=>x.isSome)=Z7
 ·rw[if_pos g];refine yO (wA ?_);have D:∀v∈fs.filterMap id,∃n t,v=.int n t:=λv j=>by obtain⟨f,C,e⟩:=qJ2.mp j;exact B f C v e
  have u:0<(fs.filterMap id).length:=by
   cases fs with
   |nil=>simp at z;omega
   |cons f fs =>
    cases f with
    |none=>simp at g
    |some v=>simp
  have p:fs.toArray.filterMap id=(fs.filterMap id).toArray:=by simp
  rw[p,oneTypeOnly'_eq,qN5,map_eq_pure_bind];refine yO (yO (yO (W.kas_mapM (r:=Value.type "int") _ (λv j y l=>?_) (yP ?_))))
  ·obtain⟨n,t,rfl⟩:=D v j;exact yP l
  ·obtain⟨c,fr,e⟩:∃c fr,fs.filterMap id=c::fr:=by
    cases l:fs.filterMap id with
    |nil=>rw[l]at u;simp at u
    |cons a b=>exact⟨a,b,rfl⟩
   rw[e];have k:(qT4 (λ_=>Value.type "int") (c::fr)).toArray[0]?=Z9 (Value.type "int"):=by simp
   have d:((qT4 (λ_=>Value.type "int") (c::fr)).toArray.all λx=>x == Value.type "int")=Z7:=by simp only[qS1,List.all_map,qD9];intro _ _;rfl
   rw[k];simp only[d,if_true];exact yP (yP (h _ (.inl rfl)))
 ·rw[if_neg g];split
  ·exact yP (h _ (.inr (.inl rfl)))
  ·rw[oneTypeOnly'_eq,qN5,map_eq_pure_bind];refine yO (yO (yO (W.kas_mapM (r:=Value.type "tuple") _ (λv q y l=>?_) (yP ?_))))
   ·obtain⟨ns,a,H,rfl,⟨o,F,G,n,J⟩,K⟩:=j v q;exact vQ (T := "tuple") ⟨o,F,G⟩ l
   ·obtain⟨c,fr,rfl⟩:∃c fr,i=c::fr:=by
     cases i with
     |nil=>simp at k
     |cons a b=>exact⟨a,b,rfl⟩
    have k:(qT4 (λ_=>Value.type "tuple") (c::fr)).toArray[0]?=Z9 (Value.type "tuple"):=by simp
    have d:((qT4 (λ_=>Value.type "tuple") (c::fr)).toArray.all λx=>x == Value.type "tuple")=Z7:=by simp only[qS1,List.all_map,qD9];intro _ _;rfl
    rw[k];simp only[d,if_true];exact yP (yP (h _ (.inr (.inr rfl))))
abbrev Wg(n:Nat):Prop:=n<64
theorem Jo{vs:yB}(k:s.heap.get? a=Z9 (j4 "list" vs.toArray n))(N:∀v∈vs,∃ns,Yw s.heap v ns)(hz:vs.length<=y8)(F:Wg vs.length)(R:A.units<j5)
  (h:∀out:yB,out.Perm vs->out.Pairwise (λx y=>HT.lexLt (UY s.heap y) (UY s.heap x)=Z5)->P (.done (.ret .none)) { s with heap:=sortedHeap s.heap a vs out.toArray }) :
  yV (yX prog w) A (Builtin.«list.sort» ⟨[.ref a],[]⟩) P E s:=by
 rw[list_sort_plain];have M:a<s.heap.objs.size:=qB4 k;refine yO (gX k rfl ?_);refine yO (f9 k rfl ?_ (by rw[qA9];exact hz) (qE1 _));obtain⟨I,j⟩:∃I,(s.heap.update a (jZ λ_=>#[])).get? a=Z9 (j4 "list" #[] I):=⟨_,get?_update_seq k (λ_=>#[])⟩
 refine yO (dQ j rfl ?_);refine yO (lO ?_ hz);refine yO (fD ?_ (qE1 _));refine jP ?_;obtain⟨h6,r⟩:∃h6,((s.heap.update a (jZ λ_=>#[])).push (j4 "tuple" vs.toArray 0)).push (j4 "list" #[] 0)=h6:=⟨_,rfl⟩
 have d:h6.get? a=Z9 (j4 "list" #[] I):=by rw[<- r,qN6 _ _ _ (by rw[fQ,qS2];exact qC3 (qE3 M)),qN6 _ _ _ (by rw[qS2];exact qC3 M)];exact j
 have kp:∀b o,o.cls=.type "tuple"->s.heap.get? b=Z9 o->h6.get? b=Z9 o:=λb o U q=>by
  have F:b≠a:=λe=>by subst e;rw[k]at q;cases q;exact absurd (Value.type.inj U) (by decide)
  rw[<- r];exact qA1 _ (qA1 _ ((qF2 _ _ (Ne.symm F)).trans q))
 show yV (yX prog w) A _ P E { s with heap:=((s.heap.update a (jZ λ_=>#[])).push (j4 "tuple" vs.toArray 0)).push (j4 "list" #[] 0) };rw[r];dsimp only;have m:∀v∈vs,∃ns,Yw h6 v ns:=λv B=>let ⟨ns,x⟩:=N v B;⟨ns,x.mono kp⟩
 have i:∀v∈vs,UY h6 v=UY s.heap v:=λv B=>by obtain⟨ns,x⟩:=N v B;rw[x.kd,(x.mono kp).kd]
 have p:∀out:yB,out.Perm vs->out.Pairwise (λx y=>HT.lexLt (UY s.heap y) (UY s.heap x)=Z5)->P (.done (.ret .none)) { s with heap:=h6.update a (jZ λ_=>out.toArray) }:=λout D G=>by rw[<- r];exact h out D G
 have J:vs.toArray.size=vs.length:=by simp
 by_cases h2:vs.toArray.size<2
 ·rw[if_pos h2,if_pos h2];refine yO (yP ?_);rw[StateT.run_pure];refine yO (yP ?_);dsimp only;refine yO (dQ d rfl ?_);have C:((vs.toArray.zip vs.toArray).map (·.2))=vs.toArray:=by apply Array.ext';simp;exact qO7 (qA6 _)
  rw[C];refine yO (f9 d rfl ?_ (hsz2:=by rw[qA9];omega));simp only[bne_self_eq_false,qF8,if_false];refine yP (p vs (.refl _) ?_)
  match vs,J,h2 with
  |[],_,_=>exact .nil
  |[v],_,_=>exact qF7 ..
  |_::_::_,hs,h2=>exact absurd h2 (by simp)
 ·rw[if_neg h2,if_neg h2];refine yO (AS (s:={ s with heap:=h6 }) m (by omega) fun Y t=>?_);have S:vs.toArray.zip vs.toArray=(vs.zip vs).toArray:=by simp
  rw[S];refine yO (jU (AX (l:=vs.zip vs) (s:={ s with heap:=h6 }) (Q:=λ_ c=>∃f,arrOf c=f.toArray/\failedOf c=Z8/\f.Perm (vs.zip vs)/\Yj (Rj h6) f) (AW h6) (AU (s:={ s with heap:=h6 }) t R) (λx z=>m _ (dH z).2) (by simp;omega) (by simp;exact F)
   λf c D G V X=>⟨f,D,G,V,X⟩) ?_ λ_ _ e=>e)
  rintro⟨⟨⟩,c⟩ Z ⟨rfl,f,u,T,H,hs⟩;dsimp only;refine yO (dQ d rfl ?_);have C:(arrOf c).map (·.2)=(f.map (·.2)).toArray:=by rw[u];simp
  have L:(f.map (·.2)).Perm vs:=by have:=H.map (·.2);rwa[qO7 (qA6 _)]at this
  rw[C];refine yO (f9 d rfl ?_ (hsz2:=by rw[qA9,L.length_eq];omega));rw[T];simp only[bne_self_eq_false,qF8,if_false];refine yP (p _ L ?_);rw[qI8];refine hs.imp_of_mem λ{x y} z W g=>?_;have K:=dH (H.mem_iff.mp z);have O:=dH (H.mem_iff.mp W);unfold Rj at g;rw[i _ K.2,i _ O.2]at g;rw[<- K.1,<- O.1];exact g
end
section
variable {prog:yZ}{w:jD}{A:jC}{E:yL}{s:yQ}{r:yR}
theorem Jn{Q:yB->yQ->Prop}(d:s.heap.get? l=Z9 o)(f:o.cls=.type T)(e:o.data=.seq a.toArray n)(c:T = "list"∨T = "tuple")
  (h:Q a { s with heap:=(s.heap.push (j4 "list" #[] 0)).update s.heap.objs.size (jZ (·++a.toArray)) }) (hsz:a.length<=y8) :
  yV (yX prog w) A (mB (.ref l)) Q E s:=by
 unfold mB;refine yO (lV (vB lW ?_));show yV _ _ (do again (.builtin "list.__iadd__" ⟨[<- dU [],.ref l],[]⟩)) _ _ s;refine yO (fD (yP ⟨Code.quiet_builtin _ (by decide +kernel),vB entry_list_iadd' ?_⟩) (qE1 _));show yV _ _ (Builtin.List.listExtendWith (.ref s.heap.objs.size) (.ref l) (.ref s.heap.objs.size)) _ _ { s with heap:=s.heap.push (j4 "list" #[] 0) };unfold Builtin.List.listExtendWith;have b:(s.heap.push (j4 "list" #[] 0)).get? l=Z9 o:=qA1 _ d;refine yO (vQ (T:=T) ⟨o,b,f⟩ ?_);have ht:(Builtin.List.listSameRef (.ref s.heap.objs.size) (.ref l)||Value.type T == Value.type "list"||Value.type T == Value.type "tuple")=Z7:=by
  rcases c with rfl|rfl
  ·rw[show(Value.type "list" == Value.type "list")=Z7 from rfl];simp
  ·rw[show(Value.type "tuple" == Value.type "tuple")=Z7 from rfl];simp
 rw[if_pos ht];refine yO (gX b e ?_);refine yO (gX (xs:=#[]) (n:=0) (qB2 _ rfl) rfl ?_);rw[if_neg (by simp)];refine yO (f9 (xs:=#[]) (n:=0) (qB2 _ rfl) rfl ?_ (qE1 _) (by show(#[]++a.toArray).size<=y8+1;simp only[Array.size_append,qA9,qG4];omega));refine yP ?_;show yV (yX prog w) A (do
   let o <- load s.heap.objs.size
   match o.data with
   |.seq xs _=>pure xs.toList
   | _=>unsupported "internal:collect") Q E { s with heap:=(s.heap.push (j4 "list" #[] 0)).update s.heap.objs.size (jZ (·++a.toArray)) }
 refine yO (mO (get?_update_seq (qB2 _ rfl) _) ?_);show yV _ _ (pure ((#[]:yJ)++a.toArray).toList) Q E _;rw[show((#[]:yJ)++a.toArray).toList=a by simp];exact yP h
theorem Jm(h:jA)(a:yB):∀b o,h.get? b=Z9 o->((h.push (j4 "list" #[] 0)).update h.objs.size (jZ (·++a.toArray))).get? b=Z9 o:=λb o g=>by rw[Heap.get?_update_ne _ _ _ _ (qC3 (qB4 g))];exact qA1 _ g
theorem Jl{i o:Type}(f:i->o){m n:List o}(h:m.Perm n):∀l:List i,n=l.map f->∃g:List i,g.Perm l/\m=g.map f:=by
 induction h with
 |nil=>intro l e;exact⟨[],by cases l with|nil=>exact .refl _|cons _ _=>simp at e,rfl⟩
 |cons x p v =>
  intro l e;cases l with
  |nil=>simp at e
  |cons a l =>
   rw[qB5]at e;injection e with d c;obtain⟨g,z,q⟩:=v l c;exact⟨a::g,z.cons a,by rw[qB5,d,q]⟩
 |swap x y l =>
  intro l e
  match l,e with
  |[],e=>simp at e
  |[_],e=>simp at e
  |a::b::l,e =>
   simp only[qB5]at e;injection e with d c;injection c with c e3;exact⟨b::a::l,.swap a b l,by simp[d,c,e3]⟩
 |trans p q j k =>
  intro l e;obtain⟨u,t,d⟩:=k l e;obtain⟨B,C,c⟩:=j u d;exact⟨B,C.trans t,c⟩
abbrev VH(a:List (yR×yA)):Prop:=a.Pairwise λx y=>HT.lexLt y.2 x.2=Z5
theorem AR{Q:yL}(p:c.length<=y8)(I:Wg c.length)(u:∀t∈c,Yw s.heap (.ref t.1) t.2)(J:A.units+2<j5)
  (D:∀(A:jC) (E:yL) (R:yB->yQ->Prop),A.handled=Z8->(∀(h':jA) (tk:Nat) (dr:Drawn),(∀b o,s.heap.get? b=Z9 o->h'.get? b=Z9 o)->R (c.map λt=>.ref t.1) { s with heap:=h',toks:=tk,drawn:=dr })->yV (yX prog w) A (mB (.ref r)) R E s)
  (C:A.handled=Z8)
  (h:∀(i:jA) (l:yR) (h':jA) (tk:Nat) (dr:Drawn) (e:Nat) (a:List (yR×yA)),(∀b o,s.heap.get? b=Z9 o->i.get? b=Z9 o)->(∀b o,i.get? b=Z9 o->h'.get? b=Z9 o)->i.objs.size<=l->h'.get? l=Z9 (j4 "list" (a.map λt=>Value.ref t.1).toArray e)->a.Perm c->VH a->Q (.ref l) { s with heap:=h',toks:=tk,drawn:=dr }) :
  yV (yX prog w) A (call (.builtin "sorted") [.ref r]) Q E s:=by
 refine wE dP dC dD (dE _) ?_;unfold Builtin.«sorted»;refine yO (m:=checkCount "sorted" 1 1 _) (yP ?_);refine yO (D _ _ _ C λh' tk dr hk=>?_);have d:(c.map λt=>Value.ref t.1).length=c.length:=by simp
 refine yO (fD ?_ (by rw[d];exact p));have f:(h'.push (j4 "list" (c.map λt=>Value.ref t.1).toArray 0)).get? h'.objs.size=Z9 (j4 "list" (c.map λt=>Value.ref t.1).toArray 0):=qB2 _ rfl;show yV _ _ _ _ _ { s with heap:=h'.push (j4 "list" (c.map λt=>Value.ref t.1).toArray 0),toks:=tk,drawn:=dr };have n:∀t∈c,Yw (h'.push (j4 "list" (c.map λt=>Value.ref t.1).toArray 0)) (.ref t.1) t.2:=λt ht=>(u t ht).mono λb o _ g=>qA1 _ (hk b o g);refine yO (jP (jJ lS ⟨_,f,rfl⟩ g7 (Jo f (λv G=>?_) (by rw[d];exact p) (by rw[d];exact I) (by show A.units+1+1<j5;omega) λout F q=>⟨_,rfl,?_⟩) (lT _)))
 ·obtain⟨t,ht,rfl⟩:=qB9.mp G;exact⟨t.2,n t ht⟩
 obtain⟨a,k,rfl⟩:=Jl _ F c rfl;obtain⟨e,z⟩:=mK (out:=(a.map λt=>Value.ref t.1).toArray) f;refine yP ⟨_,rfl,h h' h'.objs.size _ tk dr e a hk (λb o g=>?_) (qA6 _) z k ?_⟩
 ·have lt:b<h'.objs.size:=qB4 g;rw[lU (qC3 lt) (by rw[fQ];exact qE3 lt)];exact qA1 _ g
 ·rw[qI8]at q;refine q.imp_of_mem λ{x y} B H j=>?_;rwa[(n x (k.mem_iff.mp B)).kd,(n y (k.mem_iff.mp H)).kd]at j
end
section
variable {X:Cx}
theorem AQ{Z:St}(I:ZQ X b Z H s)(h:Zp X.K H a (ns.map V.int)):Yw s.heap (.ref a) ns:=by obtain⟨c,r,p,_⟩:=I.tuple h;exact⟨a,c.toArray,rfl,p,by simpa using Qm r⟩
theorem Nl:∀{a:List (yR×yA)}{us:yB},ZM (a.map λt=>V.ref t.1) us->us=a.map λt=>Value.ref t.1
 |[],us,r=>by rw[qH5]at r;cases r;rfl
 |t::a,us,r=>by
  rw[qB5]at r;cases r with
  |cons h r =>
   rw[Nl r];cases h;rfl
theorem Nk:∀(a:List (yR×yA)),ZM (a.map λt=>V.ref t.1) (a.map λt=>Value.ref t.1)
 |[]=>.nil
 |t::a=>.cons rfl (Nk a)
theorem AO(G:X.calm=Z7):XU X (.builtin "sorted") (λy H Q=>∃(p:yR) (ns:yA),y=[.ref p]/\Zp X.K H p (ns.map V.int)/\ns.length<64/\∀(l:yR) (ms:yA),H l=Z8->ms.Perm ns->ms.Pairwise (·<=·)->Q (.ref l) (ZE H l (.lst (ms.map V.int)))):=by
 intro f s Z H S t Q I r h;obtain⟨p,ns,rfl,O,w,q⟩:=h;obtain⟨u,rfl,L⟩:=Wx r;cases L;obtain⟨i,m,⟨o,D,j,n,J⟩,P⟩:=I.tuple O;have a:=m.length;rw[qA0]at a;refine Ba w (λA E R U x=>Jn D j J (.inr rfl) (x _ s.toks s.drawn i ns (Jm _ _) (Qm m) (.refl _)) (by rw[<- a,vP];omega)) (I.ok.hd G) λB K T c dr e t ms N F v C M d z=>?_;have k:ZQ X f Z H { s with heap:=B,toks:=c,drawn:=dr }:=(I.kept (t':=c) λb o e=>N b o e).dr dr;refine⟨.ref K,_,k.laid (t':=c) (o:=.lst (ms.map V.int)) F v ?_,rfl,q _ _ (k.hok.fresh v) d z⟩;have g:ms.length<64:=by rw[d.length_eq];exact w
 exact⟨by rw[qA0];exact qD4 (qI1 g) (by decide),t,e,JF M,by simpa[j4]using C⟩
theorem AN(J:X.calm=Z7)(y:X.A.units+2<j5):XU X (.builtin "sorted") (λw H Q=>∃(p:yR) (d:List (yR×yA)),w=[.ref p]/\YT X.K H p (d.map λt=>V.ref t.1)/\(∀t∈d,Zp X.K H t.1 (t.2.map V.int))/\Wg d.length /\
  ∀(l:yR) (a:List (yR×yA)),H l=Z8->a.Perm d->VH a->Q (.ref l) (ZE H l (.lst (a.map λt=>V.ref t.1)))):=by intro f s Z H U W Q I r h;obtain⟨p,d,rfl,S,ht,O,q⟩:=h;obtain⟨u,rfl,N⟩:=Wx r;cases N;obtain⟨L,z,⟨o,n,F,i,x,K⟩,g⟩:=I.list S;have T:=Nl z;subst T;rw[qA0]at g;refine AR g O (λt h=>AQ I (ht t h)) y (λA E R hA v=>Jn F i K (.inl rfl) (v _ s.toks s.drawn (Jm _ _)) (by rw[qA0];exact g)) (I.ok.hd J) λB M Y c dr e a P G k D m C=>?_;have j:ZQ X f Z H { s with heap:=B,toks:=c,drawn:=dr }:=(I.kept (t':=c) λb o e=>P b o e).dr dr;refine⟨.ref M,_,j.laid (t':=c) (o:=.lst (a.map λt=>V.ref t.1)) G k ?_,rfl,q _ _ (j.hok.fresh k) m C⟩;exact⟨by rw[qA0,m.length_eq];exact g,_,e,Nk a,by simpa[j4]using D⟩
end
noncomputable def Wu(m:Nat)(p:SetTable.Probe):SetTable.Probe:=(⟨m,#[],#[],0,Z5,0,Z5⟩:jT).advance p
theorem Jk(t:jT)(p:SetTable.Probe):t.advance p=Wu t.mask p:=rfl
noncomputable def YD(m:Nat)(h:Int):Nat->Nat×Nat
 |0=>(SetTable.bits h % (m+1),SetTable.bits h)
 |k+1=>SetTable.leap m (YD m h k).1 (YD m h k).2
noncomputable def Uy(m:Nat)(x:Nat×Nat):SetTable.Probe:=⟨x.1,SetTable.runEnd m x.1 - x.1,x.1,x.2,Z8⟩
noncomputable def pr(m:Nat)(h:Int):Nat->SetTable.Probe
 |0=>Uy m (YD m h 0)
 |n+1=>Wu m (pr m h n)
theorem Jj(m:Nat)(h:0<p.more):Wu m p={ p with j:=p.j+1,more:=p.more - 1 }:=by unfold Wu SetTable.advance;rw[if_pos h]
theorem Nj(m:Nat)(h:p.more=0)(a:p.dummy=Z8):Wu m p=Uy m (SetTable.leap m p.i p.perturb):=by unfold Wu SetTable.advance Uy;rw[if_neg (by omega),a]
theorem Ni(m:Nat)(h:Int)(e:pr m h n=Uy m x):∀r,r<=SetTable.runEnd m x.1 - x.1->pr m h (n+r)=⟨x.1+r,SetTable.runEnd m x.1 - x.1 - r,x.1,x.2,Z8⟩
 |0,_=>e
 |r+1,hr=>by
  show Wu m (pr m h (n+r))=_;rw[Ni m h e r (by omega),Jj m (by show 0<_ - r;omega)];have a:x.1+r+1=x.1+(r+1):=by omega
  have b:SetTable.runEnd m x.1 - x.1 - r - 1=SetTable.runEnd m x.1 - x.1 - (r+1):=by omega
  show SetTable.Probe.mk (x.1+r+1) (SetTable.runEnd m x.1 - x.1 - r - 1) x.1 x.2 Z8=_;rw[a,b]
theorem AM(m i:Nat):SetTable.runEnd m i - i<=9:=by unfold SetTable.runEnd;split<;>omega
theorem Ji(m:Nat)(h:Int):∀k,∃n,n<=10*k/\pr m h n=Uy m (YD m h k)
 |0=>⟨0,qA6 _,rfl⟩
 |k+1=>by obtain⟨n,a,e⟩:=Ji m h k;have l:=AM m (YD m h k).1;refine⟨n+(SetTable.runEnd m (YD m h k).1 - (YD m h k).1)+1,by omega,?_⟩;show Wu m (pr m h (n+_))=_;rw[Ni m h e _ (qA6 _),Nj m (qI2 _) rfl];rfl
theorem AL(h:Int):SetTable.bits h<18446744073709551616:=by unfold SetTable.bits;have a:0<=h % (2 ^ 64:Int):=qJ7 _ (by decide);have b:h % (2 ^ 64:Int)<2 ^ 64:=qI3 _ (by decide);omega
theorem Jh(m:Nat)(h:Int):∀k,(YD m h k).2=SetTable.bits h / 32 ^ k
 |0=>by simp[YD]
 |k+1=>by show(YD m h k).2 / 32=_;rw[Jh m h k,Nat.div_div_eq_div_mul,Nat.pow_succ]
theorem AK(m:Nat)(h:Int)(hk:13<=k):(YD m h k).2=0:=by rw[Jh];refine Nat.div_eq_of_lt (qC1 (AL h) ?_);exact qD4 (by decide) (qQ0 (by decide) hk)
noncomputable def gI(m:Nat):Nat->Nat->Nat
 |0,i=>i
 |r+1,i=>(gI m r i*5+1) % (m+1)
theorem Jg(m:Nat)(h:Int):∀r,(YD m h (13+r)).1=gI m r (YD m h 13).1
 |0=>rfl
 |r+1=>by show((YD m h (13+r)).1*5+1+(YD m h (13+r)).2 / 32) % (m+1)=_;rw[AK m h (by omega),Jg m h r];rfl
theorem Nh:∀i,i<8->∀s,s<8->∃r,r<8/\gI 7 r i=s:=by decide +kernel
theorem AJ:∀i,i<32->∀s,s<32->∃r,r<32/\gI 31 r i=s:=by decide +kernel
theorem Ng(m:Nat)(h:Int):∀k,(YD m h k).1<m+1
 |0=>qP2 _ (by omega)
 |k+1=>qP2 _ (by omega)
def WK(m:Nat):Prop:=m=7∨m=31
theorem Jf(b:WK m)(h:Int)(hs:s<=m):∃k,k<=13+m/\(YD m h k).1=s:=by
 have a:∃r,r<m+1/\gI m r (YD m h 13).1=s:=by
  have:=Ng m h 13;rcases b with rfl|rfl
  ·exact Nh _ this s (by omega)
  ·exact AJ _ this s (by omega)
 obtain⟨r,c,e⟩:=a;exact⟨13+r,by omega,by rw[Jg];exact e⟩
theorem AI(b:WK m)(h:Int)(hs:s<=m):∃n,n<10*(m+15)/\(pr m h n).j=s:=by obtain⟨k,hk,e⟩:=Jf b h hs;obtain⟨n,c,a⟩:=Ji m h k;exact⟨n,by omega,by rw[a];exact e⟩
theorem AH(m:Nat)(p:SetTable.Probe):(Wu m p).dummy=p.dummy:=by unfold Wu SetTable.advance;split<;>rfl
theorem Nf(m:Nat)(h:Int):∀n,(pr m h n).dummy=Z8
 |0=>rfl
 |n+1=>by show(Wu m (pr m h n)).dummy=Z8;rw[AH,Nf m h n]
theorem least{P:Nat->Prop}(n:Nat)(h:P n):∃k,k<=n/\P k/\∀i,i<k->¬P i:=by
 induction n using Nat.strongRecOn with
 |ind n f =>
  by_cases q:∃i,i<n/\P i
  ·obtain⟨i,e,d⟩:=q;obtain⟨k,a,b,c⟩:=f i e d;exact⟨k,by omega,b,c⟩
  ·exact⟨n,qA6 _,h,λi e d=>q ⟨i,e,d⟩⟩
section
variable {t:jT}
theorem AG(up:Rs t.place)(h:t.place[i]?=Z9 j):t.slot j=.live i:=by
 have b:=Rq up j;obtain⟨b1,c,a⟩:=b;have e:SetTable.below t.place j=i:=by
  rcases qL6 (SetTable.below t.place j) i with l|l|l
  ·have d:i<t.place.size:=by
    rcases qJ5 i t.place.size with g|g
    ·exact g
    ·rw[jN g]at h;cases h
   have g:t.place[SetTable.below t.place j]?=Z9 t.place[SetTable.below t.place j]:=yW (by omega);have:=a _ _ g (qA6 _);have:=up.get g h l;omega
  ·exact l
  ·have:=c _ _ h l;omega
 unfold SetTable.slot;simp only[e,h,beq_self_eq_true,if_true]
theorem AF(nd:t.dummies=#[])(h:∀i:Nat,t.place[i]?≠Z9 j):t.slot j=.empty:=by
 unfold SetTable.slot SetTable.has;rw[nd];have b:(t.place[SetTable.below t.place j]? == Z9 j)=Z5:=by
  cases q:t.place[SetTable.below t.place j]? with
  |none=>rfl
  |some a =>
   have:a≠j:=λe=>h _ (by rw[q,e]);simpa using this
 simp[b]
theorem P6{a:Array Nat}:j∈a.toList↔∃i:Nat,a[i]?=Z9 j:=by
 constructor
 ·intro h;obtain⟨i,b⟩:=qK2 h;exact⟨i,by rw[<- y9];exact b⟩
 ·rintro⟨i,b⟩;rw[<- y9]at b;exact qC0 b
theorem Nd:∀{l m:List Nat},l.Nodup->(∀x∈l,x∈m)->l.length<=m.length
 |[],m,_,_=>by simp
 |a::l,m,nd,h=>by have nd':=qH8.mp nd;have c:=h a (by simp);have d:=Nd (l:=l) (m:=m.erase a) nd'.2 (λx b=>(List.mem_erase_of_ne (λe:x=a=>nd'.1 (e▸b))).mpr (h x (by simp[b])));rw[List.length_erase_of_mem c]at d;have:=List.length_pos_of_mem c;simp;omega
theorem AE{l:List Nat}(h:l.length<=m):∃s,s<=m/\s∉l:=by refine Classical.byContradiction λb=>?_;have:=Nd (l:=List.range (m+1)) (m:=l) qO8 λx a=>Classical.byContradiction λq=>b ⟨x,by have:=qE4.mp a;omega,q⟩;rw[qG1]at this;omega
theorem AD(g:WK m)(h:Int){l:List Nat}(o:l.length<=m):∃n,n<10*(m+15)/\(pr m h n).j∉l/\∀k,k<n->(pr m h k).j∈l:=by obtain⟨s,f,j⟩:=AE o;obtain⟨n,p,e⟩:=AI g h f;obtain⟨k,a,b,c⟩:=least (P:=λn=>(pr m h n).j∉l) n (by rw[e];exact j);exact⟨k,by omega,b,λi d=>Classical.byContradiction λq=>c i d q⟩
inductive P5(t:jT)(f:Nat->Int)(h:Int)(n0 n:Nat):Option SetTable.Met->Prop
 |cand (n1 i:Nat) (h1:n<=n1) (h2:n1<n0) (hs:t.slot (pr t.mask h n1).j=.live i) (hf:f i=h) (hb:∀k,n<=k->k<n1->∃i,t.slot (pr t.mask h k).j=.live i/\f i≠h):P5 t f h n0 n (Z9 (.candidate (pr t.mask h n1).j i (pr t.mask h (n1+1))))
 |free (hb:∀k,n<=k->k<n0->∃i,t.slot (pr t.mask h k).j=.live i/\f i≠h):P5 t f h n0 n (Z9 (.empty (pr t.mask h n0).j Z8))
theorem Je{f:Nat->Int}{h:Int}{a:Nat}(he:t.slot (pr t.mask h a).j=.empty)(s:∀k,k<a->∃i,t.slot (pr t.mask h k).j=.live i):∀(F n:Nat),n<=a->a - n<F->P5 t f h a n (SetTable.probe.go t f h F (pr t.mask h n))
 |0,n,_,hF=>absurd hF (qG0 _)
 |F+1,n,hn,hF=>by
  unfold SetTable.probe.go;by_cases e:n=a
  ·subst e;rw[he];dsimp only;rw[Nf];exact .free λk g b=>by omega
  ·obtain⟨i,o⟩:=s n (by omega);rw[o];dsimp only;by_cases d:f i=h
   ·rw[if_pos (by simpa using d),Jk];exact .cand n i (qA6 _) (by omega) o d λk g b=>by omega
   ·rw[if_neg (by simpa using d),Jk];have j:=Je (f:=f) he s F (n+1) (by omega) (by omega);show P5 t f h a n (SetTable.probe.go t f h F (pr t.mask h (n+1)));have ext:∀m,(∀k,n+1<=k->k<m->∃i,t.slot (pr t.mask h k).j=.live i/\f i≠h)->∀k,n<=k->k<m->∃i,t.slot (pr t.mask h k).j=.live i/\f i≠h:=λm c k g b=>by
     by_cases q:k=n
     ·subst q;exact⟨i,o,d⟩
     ·exact c k (by omega) b
    revert j;generalize SetTable.probe.go t f h F (pr t.mask h (n+1))=r;intro j;cases j with
    |cand p u g b v l c=>exact .cand p u (by omega) b v l (ext p c)
    |free c=>exact .free (ext a c)
end
structure Wf(t:jT)(es:Array (Int×yT)):Prop where
 m:WK t.mask
 up:Rs t.place
 nd:t.dummies=#[]
 sz:t.place.size=es.size
 bd:∀j∈t.place.toList,j<=t.mask
 few:es.size*5<t.mask*3
 rc:∀(i j:Nat) e,t.place[i]?=Z9 j->es[i]?=Z9 e->∃n,(pr t.mask e.1 n).j=j/\∀k,k<n->(pr t.mask e.1 k).j∈t.place.toList
theorem Wf.fresh(bt:Bool):Wf (.fresh 0 0 bt) #[]:=⟨.inl rfl,by simp[SetTable.fresh,Rs],rfl,rfl,λj h=>(by simp[SetTable.fresh]at h),by show 0*5<7*3;decide,λi j e h=>by simp[SetTable.fresh]at h⟩
theorem Wf.fits(h:Wf t es):t.fits es.size=Z7:=by unfold SetTable.fits SetTable.fill;rw[h.nd,h.sz];have:=h.few;simp;omega
theorem Wf.way(T:Wf t es)(h:Int):∃n,n<10*(t.mask+15)/\t.slot (pr t.mask h n).j=.empty/\(∀i:Nat,t.place[i]?≠Z9 (pr t.mask h n).j)/\∀k,k<n->∃i:Nat,t.place[i]?=Z9 (pr t.mask h k).j/\t.slot (pr t.mask h k).j=.live i:=by
 have f:t.place.toList.length<=t.mask:=by rw[yU,T.sz];have:=T.few;omega
 obtain⟨n,a,b,c⟩:=AD T.m h f;have e:∀i:Nat,t.place[i]?≠Z9 (pr t.mask h n).j:=λi q=>b (P6.mpr ⟨i,q⟩);refine⟨n,a,AF T.nd e,e,λk hk=>?_⟩;obtain⟨i,d⟩:=P6.mp (c k hk);exact⟨i,d,AG T.up d⟩
section
variable {prog:yZ}{w:jD}{A:jC}{E:yL}{s:yQ}{a b:yR}
abbrev isT(prog:yZ)(w:jD)(h:jA)(k:yA)(a:yR):Prop:=IsTupleKey (j7 prog w) h k a
theorem items_int{ks:yA}{d:yB}(h:ItemsAre (j7 prog w) ks d):∀v∈d,∃i t,v=Value.int i t:=by
 induction h with
 |nil=>intro v c;cases c
 |cons hk _ e =>
  intro v c;rcases qA8.mp c with rfl|c
  ·obtain⟨t,rfl⟩:=Value.isInt_shape hk;exact⟨_,t,rfl⟩
  ·exact e v c
theorem Jd(hk:isT prog w s.heap k a)(h:Q Z5 s):yV (yX prog w) A (fX (d+1) (.ref a)) Q E s:=by
 obtain⟨o,f,n,l,q,p,x⟩:=hk;have all:=items_int x;unfold fX;refine yO (vQ (T := "tuple") ⟨o,l,q⟩ ?_);dsimp only;refine yO (yP ?_);rw[if_neg (by decide)];refine yO (j3 l p ?_);dsimp only;refine yO ?_;show yV _ _ (forIn f _ _) _ _ s;rw[<- Array.forIn_toList];refine wY _ (λZD r j=>r.1=Z8/\j=s/\∀v∈ZD,∃i t,v=Value.int i t) _ ?_ ?_ _ _ ⟨rfl,rfl,all⟩
 ·rintro v ZD r j ⟨g,rfl,c⟩;obtain⟨i,t,rfl⟩:=c v qD5;refine yO ?_;have e:fX d (.int i t)=pure Z5:=by cases d<;>rfl
  rw[e];refine yP ?_;exact yP ⟨rfl,rfl,λu m=>c u (qC2 _ m)⟩
 ·rintro⟨z,y⟩ j ⟨g,rfl,_⟩;simp only at g;subst g;exact yP h
theorem AC(hk:isT prog w s.heap k a)(h:Q Z7 s):yV (yX prog w) A (dR (d+1) (.ref a)) Q E s:=by
 obtain⟨o,f,n,l,q,p,x⟩:=hk;have all:=items_int x;have ty:s.TypeIs (.ref a) "tuple":=⟨o,l,q⟩
 unfold dR;refine yO (g6 ty PySem.F.slot_tuple_hash.lookup ?_);dsimp only;refine yO (j3 l p ?_);refine yO ?_;show yV _ _ (forIn f _ _) _ _ s;rw[<- Array.forIn_toList];refine wY _ (λZD r j=>r.1=Z8/\j=s/\∀v∈ZD,∃i t,v=Value.int i t) _ ?_ ?_ _ _ ⟨rfl,rfl,all⟩
 ·rintro v ZD r j ⟨g,rfl,c⟩;obtain⟨i,t,rfl⟩:=c v qD5;refine yO ?_;have e:dR d (.int i t)=pure Z7:=by cases d<;>rfl
  rw[e];refine yP ?_;exact yP ⟨rfl,rfl,λu m=>c u (qC2 _ m)⟩
 ·rintro⟨z,y⟩ j ⟨g,rfl,_⟩;simp only at g;subst g;exact yP h
theorem AB{ys:yB}(hk:isT prog w s.heap k a)(j:∀y∈ys,∃b l,y=Value.ref b/\isT prog w s.heap l b)(h:Q Z5 s):yV (yX prog w) A (searchCouldBeSeen (.ref a) ys) Q E s:=by
 unfold searchCouldBeSeen;refine yO ?_;refine wY _ (λZD r e=>r.1=Z8/\e=s/\∀y∈ZD,∃b l,y=Value.ref b/\isT prog w s.heap l b) _ ?_ ?_ _ _ ⟨rfl,rfl,j⟩
 ·rintro y ZD r e ⟨f,rfl,c⟩;obtain⟨b,l,rfl,g⟩:=c y qD5;have d:∀y∈ZD,∃b l,y=Value.ref b/\isT prog w e.heap l b:=λu i=>c u (qC2 _ i);dsimp only;refine vO (λ_=>yP ⟨rfl,rfl,d⟩) λ_=>?_;refine yO (lF hk ?_);rw[if_neg (by decide)];refine yO (lF g ?_);rw[if_neg (by decide)];refine yO (Jd hk ?_);rw[if_neg (by decide)];refine yO (Jd g ?_);rw[if_neg (by decide)];exact yP ⟨rfl,rfl,d⟩
 ·rintro⟨m,n⟩ e ⟨f,rfl,_⟩;simp only at f;subst f;exact yP h
theorem AA(h:Q Z7 s):yV (yX prog w) A (isSame (.ref p) (.ref p)) Q E s:=by unfold isSame;simp;exact yP h
structure VG(prog:yZ)(w:jD)(h:jA)(es:Array (Int×yT))(xs:List (yA×yR)):Prop where
 e:es.toList=xs.map λx=>(jO (j7 prog w) x.1,Value.ref x.2)
 t:∀x∈xs,isT prog w h x.1 x.2
theorem VG.at(X:VG prog w h es xs)(d:i<es.size):∃x,xs[i]?=Z9 x/\es[i]?=Z9 (jO (j7 prog w) x.1,Value.ref x.2)/\isT prog w h x.1 x.2:=by
 have e:xs.length=es.size:=by rw[<- yU,X.e,qA0]
 have c:xs[i]?=Z9 xs[i]:=qA4 (by omega);refine⟨xs[i],c,?_,X.t _ (qE7 _)⟩;rw[<- y9,X.e,qB3,c];rfl
def We(prog:yZ)(w:jD)(t:jT)(xs:List (yA×yR))(k:yA)(n:Nat):Prop:=∀j,j<n->∃(i:Nat) (x:yA×yR),t.place[i]?=Z9 (pr t.mask (jO (j7 prog w) k) j).j/\xs[i]?=Z9 x/\x.1≠k
theorem Jc{es:Array (Int×yT)}{ep:Nat}{t:jT}{o:Obj}{xs:List (yA×yR)}{k:yA}(W:A.units<j5)(T:Wf t es)(g:s.heap.get? a=Z9 o)(d:o.data=.set es ep t)(X:VG prog w s.heap es xs)(hk:isT prog w s.heap k b){Q:SetFound->yQ->Prop}
  {m:Nat} (R:m<10*(t.mask+15)) (he:t.slot (pr t.mask (jO (j7 prog w) k) m).j=.empty) (D:∀j,j<m->∃i:Nat,t.place[i]?=Z9 (pr t.mask (jO (j7 prog w) k) j).j/\t.slot (pr t.mask (jO (j7 prog w) k) j).j=.live i)
  (Y:k∈xs.map (·.1)->Q (.there Z8) s) (I:We prog w t xs k m->Q (.free (pr t.mask (jO (j7 prog w) k) m).j Z5) s) :
  ∀(F n:Nat) (st:Option SetTable.Probe),n<=m->m - n<F->st.getD (t.probeStart (jO (j7 prog w) k))=pr t.mask (jO (j7 prog w) k) n->We prog w t xs k n->yV (yX prog w) A (setSearchFrom a (.ref b) (jO (j7 prog w) k) Z7 F st) Q E s
 |0,n,st,_,hF,_,_=>absurd hF (qG0 _)
 |F+1,n,st,hn,hF,hst,hp=>by
  obtain⟨H,l⟩:∃H,jO (j7 prog w) k=H:=⟨_,rfl⟩
  rw[l]at he D I hst ⊢;unfold We at hp I;rw[l]at hp I;unfold setSearchFrom;refine yO (jG g d T.fits ?_);dsimp only;rw[if_neg (by unfold SetTable.gaveWay;rcases T.m with e|e<;>rw[e]<;>decide),hst];have N:=Je (t:=t) (f:=λi=>(es[i]?.map (·.1)).getD 0) (h:=H) he (λj G=>(D j G).imp λi h=>h.2) (10*(t.mask+15)) n hn (by omega);have other:∀j,n<=j->j<m->(∃i:Nat,t.slot (pr t.mask H j).j=.live i/\(es[i]?.map (·.1)).getD 0≠H)->∃(i:Nat) (x:yA×yR),t.place[i]?=Z9 (pr t.mask H j).j/\xs[i]?=Z9 x/\x.1≠k:=λj _ M ⟨i',Z,S⟩=>by
   obtain⟨i,u,O⟩:=D j M;rw[O]at Z;have ei:=SetTable.Slot.live.inj Z;subst ei;have B:i<es.size:=by
    rw[<- T.sz];rcases qJ5 i t.place.size with g|g
    ·exact g
    ·rw[jN g]at u;cases u
   obtain⟨x,P,L,_⟩:=X.at B;refine⟨i,x,u,P,λe=>S ?_⟩;rw[L,e,l];rfl
  split
  case h_2 =>
   rename_i c;exfalso;obtain⟨r,v⟩:∃r,SetTable.probe.go t (λi=>(es[i]?.map (·.1)).getD 0) H (10*(t.mask+15)) (pr t.mask H n)=r:=⟨_,rfl⟩
   rw[v]at N;cases N with
   |cand n1 i h1 M U V J=>exact c _ v
   |free J=>exact c _ v
  rename_i met c;have p:SetTable.probe.go t (λi=>(es[i]?.map (·.1)).getD 0) H (10*(t.mask+15)) (pr t.mask H n)=Z9 met:=c;rw[p]at N;clear c p;cases N with
  |free J =>
   dsimp only;refine yP (I λj G=>?_);by_cases q:j<n
   ·exact hp j q
   ·exact other j (by omega) G (J j (by omega) G)
  |cand n1 i h1 M U V J =>
   dsimp only;obtain⟨i',u,O⟩:=D n1 M;rw[U]at O;cases O;have B:i<es.size:=by
    rw[<- T.sz];rcases qJ5 i t.place.size with g|g
    ·exact g
    ·rw[jN g]at u;cases u
   obtain⟨x,P,L,x3⟩:=X.at B;refine vO (λ_=>yO (AB hk (λy hy=>?_) ?_)) λ_=>?_
   ·obtain⟨e,C,rfl⟩:=qB9.mp hy;have K:e∈es.toList:=by rw[Array.toList_filter]at C;exact(qE0.mp C).1
    rw[X.e]at K;obtain⟨z,hz,rfl⟩:=qB9.mp K;exact⟨z.2,z.1,rfl,X.t z hz⟩
   case' refine_2=>rw[if_neg (by decide)]
   all_goals
    rw[L];dsimp only;refine yO (jP (wpAny_eqBool_tuple W x3 hk (yO (jG g d T.fits ?_))));dsimp only;by_cases e:x.1=k
    ·rw[decide_eq_true e,if_pos (by decide)];exact yP (Y (qB9.mpr ⟨x,qC0 P,e⟩))
    ·rw[decide_eq_false e,if_neg (by decide)];have sm:t.sameMemory t.moves t.mask=Z9 Z7:=by unfold SetTable.sameMemory;simp
     rw[sm];dsimp only;rw[if_pos rfl,U];dsimp only;rw[L];dsimp only;refine yO (AA ?_);refine yO (yP ?_);rw[if_pos rfl];dsimp only;rw[if_neg (by decide)];rw[<- l];refine Jc W T g d X hk R (by rw[l];exact he) (by rw[l];exact D) Y (by unfold We;rw[l];exact I) F (n1+1) _ (by omega) (by omega) (by rw[l];rfl) ?_;unfold We;rw[l];intro j G;by_cases q:j<n
     ·exact hp j q
     by_cases S:j<n1
     ·exact other j (by omega) (by omega) (J j (by omega) S)
     ·have:j=n1:=by omega
      subst this;exact⟨i,x,u,P,e⟩
end
theorem Nc(h:i<=m):SetTable.runEnd m i<=m/\i<=SetTable.runEnd m i:=by unfold SetTable.runEnd;split<;>omega
theorem TY{a:Type}{ow:Array a}{d:a}(h:j<ow.size):ow[j]?=Z9 (ow.getD j d):=by rw[yW h];simp[Array.getD,h]
theorem Jb{m:Nat}(h:Int){ow:Array (yK)}(sz:ow.size=m+1){K:Nat}(p:ow[(YD m h K).1]?=Z9 Z8):∀(F k n:Nat),k<=K->K - k<F->pr m h n=Uy m (YD m h k)->(∀i,i<n->∃c,ow[(pr m h i).j]?=Z9 (Z9 c)) ->
  ∃j s,SetTable.layClean.free m ow F (YD m h k).1 (YD m h k).2=Z9 j/\(pr m h s).j=j/\ow[j]?=Z9 Z8/\∀i,i<s->∃c,ow[(pr m h i).j]?=Z9 (Z9 c)
 |0,k,n,_,hF,_,_=>absurd hF (qG0 _)
 |F+1,k,n,hk,hF,e,ho=>by
  obtain⟨i,pt,a⟩:∃i pt,YD m h k=(i,pt):=⟨_,_,rfl⟩
  have A:i<=m:=by have:=Ng m h k;rw[a]at this;omega
  obtain⟨E,D⟩:=Nc A;rw[a]at e ⊢;have l:∀r,r<=SetTable.runEnd m i - i->pr m h (n+r)=⟨i+r,SetTable.runEnd m i - i - r,i,pt,Z8⟩:=Ni m h e;unfold SetTable.layClean.free;cases t:(List.range (SetTable.runEnd m i+1 - i)).find? λq=>(ow.getD (i+q) (Z9 0)).isNone with
  |some q =>
   obtain⟨x,u,o⟩:=List.find?_range_eq_some.mp t;have C:q<SetTable.runEnd m i+1 - i:=qE4.mp u;refine⟨i+q,n+q,rfl,?_,?_,λj v=>?_⟩
   ·rw[l q (by omega)]
   ·rw[TY (d:=Z9 0) (by omega)];exact congrArg Z9 (Option.isNone_iff_eq_none.mp x)
   ·by_cases g:j<n
    ·exact ho j g
    ·obtain⟨r,rfl⟩:∃r,j=n+r:=⟨j - n,by omega⟩
     rw[l r (by omega)];have:=o r (by omega);show ∃c,ow[i+r]?=Z9 (Z9 c);rw[TY (d:=Z9 0) (by omega)];cases b:ow.getD (i+r) (Z9 0)with
     |none=>rw[b]at this;simp at this
     |some c=>exact⟨c,rfl⟩
  |none =>
   have o:=List.find?_range_eq_none.mp t;have f:∀r,r<SetTable.runEnd m i+1 - i->∃c,ow[i+r]?=Z9 (Z9 c):=λr w=>by
    have:=o r w;rw[TY (d:=Z9 0) (by omega)];cases b:ow.getD (i+r) (Z9 0)with
    |none=>rw[b]at this;simp at this
    |some c=>exact⟨c,rfl⟩
   have G:k≠K:=λB=>by subst B;obtain⟨c,b⟩:=f 0 (by omega);rw[a]at p;rw[Nat.add_zero,p]at b;cases b
   have z:pr m h (n+(SetTable.runEnd m i - i)+1)=Uy m (YD m h (k+1)):=by show Wu m (pr m h (n+_))=_;rw[l _ (qA6 _),Nj m (qI2 _) rfl];show _=Uy m (SetTable.leap m (YD m h k).1 (YD m h k).2);rw[a]
   have:=Jb h sz p F (k+1) _ (by omega) (by omega) z λj v=>by
    by_cases g:j<n
    ·exact ho j g
    ·obtain⟨r,rfl⟩:∃r,j=n+r:=⟨j - n,by omega⟩
     rw[l r (by omega)];exact f r (by omega)
   have y:YD m h (k+1)=SetTable.leap m i pt:=by show SetTable.leap m (YD m h k).1 (YD m h k).2=_;rw[a]
   rw[y]at this;exact this
theorem Az{l:List Nat}(nd:l.Nodup)(h:∀x∈l,x<N):l.length<=N:=by have:=Nd (m:=List.range N) nd λx a=>qE4.mpr (h x a);rwa[qG1]at this
structure Ow(m:Nat)(hs:yA)(k:Nat)(ow:Array (yK)):Prop where
 sz:ow.size=m+1
 lt:∀(j c:Nat),ow[j]?=Z9 (Z9 c)->c<k
 un:∀(j j' c:Nat),ow[j]?=Z9 (Z9 c)->ow[j']?=Z9 (Z9 c)->j=j'
 all:∀c,c<k->∃j:Nat,ow[j]?=Z9 (Z9 c)
 rc:∀(j c:Nat),ow[j]?=Z9 (Z9 c)->∃h n,hs[c]?=Z9 h/\(pr m h n).j=j/\∀i,i<n->∃c',ow[(pr m h i).j]?=Z9 (Z9 c')
theorem Ow.room(O:Ow m hs k ow)(hk:k<=m):∃s,s<=m/\ow[s]?=Z9 Z8:=by
 refine Classical.byContradiction λo=>?_;have p:∀j,j<=m->∃c,ow[j]?=Z9 (Z9 c):=λj h=>by
  have:=TY (ow:=ow) (d:=Z8) (j:=j) (by rw[O.sz];omega);cases f:ow.getD j Z8 with
  |none=>rw[f]at this;exact absurd ⟨j,h,this⟩ o
  |some c=>rw[f]at this;exact⟨c,this⟩
 have ex:∀n,n<=m+1->∃l:List Nat,l.length=n/\l.Nodup/\∀c∈l,∃j,j<n/\ow[j]?=Z9 (Z9 c):=λn=>by
  induction n with
  |zero=>exact λ_=>⟨[],rfl,.nil,λc f=>by cases f⟩
  |succ n t =>
   intro o;obtain⟨l,a,b,c⟩:=t (by omega);obtain⟨d,i⟩:=p n (by omega);refine⟨d::l,by simp[a],qH8.mpr ⟨λu=>?_,b⟩,λe g=>?_⟩
   ·obtain⟨j,h,q⟩:=c d u;have:=O.un j n d q i;omega
   ·rcases qA8.mp g with rfl|g
    ·exact⟨n,by omega,i⟩
    ·obtain⟨j,h,q⟩:=c e g;exact⟨j,by omega,q⟩
 obtain⟨l,a,b,c⟩:=ex (m+1) (qA6 _);have:=Az b λx r=>let ⟨j,_,q⟩:=c x r;O.lt j x q
 omega
theorem Ow.put{m k j n:Nat}(O:Ow m hs k ow)(v:hs[k]?=Z9 h)(o:ow[j]?=Z9 Z8)(e:(pr m h n).j=j)(u:∀i,i<n->∃c,ow[(pr m h i).j]?=Z9 (Z9 c)):Ow m hs (k+1) (ow.setIfInBounds j (Z9 k)):=by
 have r:j<ow.size:=by
  rcases qJ5 j ow.size with g|g
  ·exact g
  ·rw[jN g]at o;cases o
 have d:∀i:Nat,(ow.setIfInBounds j (Z9 k))[i]?=if j=i then Z9 (Z9 k)else ow[i]?:=λi=>by
  rw[Array.getElem?_setIfInBounds];by_cases q:j=i
  ·subst q;simp[r]
  ·simp[q]
 have keep:∀i c,ow[i]?=Z9 (Z9 c)->(ow.setIfInBounds j (Z9 k))[i]?=Z9 (Z9 c):=λi c q=>by rw[d,if_neg (λz=>by subst z;rw[o]at q;cases q)];exact q
 refine⟨by simp[O.sz],λi c q=>?_,λi l c q f=>?_,λc x=>?_,λi c q=>?_⟩
 ·rw[d]at q;split at q
  ·cases q;omega
  ·have:=O.lt i c q;omega
 ·rw[d]at q f;by_cases a:j=i
  ·rw[if_pos a]at q;cases q;by_cases b:j=l
   ·omega
   ·rw[if_neg b]at f;have:=O.lt _ _ f;omega
  ·rw[if_neg a]at q;by_cases b:j=l
   ·rw[if_pos b]at f;cases f;have:=O.lt _ _ q;omega
   ·rw[if_neg b]at f;exact O.un i l c q f
 ·by_cases z:c=k
  ·subst z;exact⟨j,by rw[d,if_pos rfl]⟩
  ·obtain⟨i,q⟩:=O.all c (by omega);exact⟨i,keep i c q⟩
 ·rw[d]at q;split at q
  ·rename_i z;cases q;subst z;exact⟨h,n,v,e,λi p=>(u i p).imp λc q=>keep _ c q⟩
  ·obtain⟨s,w,a,b,t⟩:=O.rc i c q;exact⟨s,w,a,b,λi p=>(t i p).imp λc q=>keep _ c q⟩
noncomputable abbrev Ri(m:Nat):Option (Array (yK)×Nat)->Int->Option (Array (yK)×Nat):=λacc h=>do
 let (owner,k) <- acc
 let j <- SetTable.layClean.free m owner (SetTable.turns m) (SetTable.bits h % (m+1)) (SetTable.bits h)
 pure (owner.setIfInBounds j (Z9 k),k+1)
theorem Ja{m:Nat}(f:WK m){hs:yA}(v:hs.length<=m+1):∀(ZD:yA) (k:Nat) (ow:Array (yK)),hs.drop k=ZD->k<=hs.length->Ow m hs k ow->∃c,ZD.foldl (Ri m) (Z9 (ow,k))=Z9 (c,hs.length)/\Ow m hs hs.length c
 |[],k,ow,e,hk,O=>by
  have:hs.length=k:=by have:=congrArg qN2 e;simp at this;omega
  exact⟨ow,by rw[List.foldl_nil,this],this▸O⟩
 |h::ZD,k,ow,e,hk,O=>by
  have q:k<hs.length:=by have:=congrArg qN2 e;simp at this;omega
  have w:hs[k]?=Z9 h:=by have:=congrArg (λl=>l[0]?) e;simpa using this
  obtain⟨s,t,o⟩:=O.room (by omega);obtain⟨K,A,z⟩:=Jf f h t;obtain⟨j,n,g,r,p,x⟩:=Jb h O.sz (K:=K) (by rw[z];exact o) (m+15) 0 0 (qE1 _) (by omega) rfl (λi y=>absurd y (qG0 _));have u:=O.put w p r x;obtain⟨c,a,b⟩:=Ja f v ZD (k+1) _ (by rw[<- qT5,e];rfl) q u;refine⟨c,?_,b⟩;rw[qK9,<- a];congr 1;show(SetTable.layClean.free m ow (SetTable.turns m) (SetTable.bits h % (m+1)) (SetTable.bits h) >>= λj=>pure (ow.setIfInBounds j (Z9 k),k+1))=_;have d:SetTable.layClean.free m ow (SetTable.turns m) (SetTable.bits h % (m+1)) (SetTable.bits h)=Z9 j:=g;rw[d];rfl
theorem zIF(e:WK m)(f:hs.size<=m+1):∃ow,SetTable.layClean m hs=Z9 ow/\Ow m hs.toList hs.size ow:=by
 have d:Ow m hs.toList 0 (Array.replicate (m+1) Z8):=⟨by simp,λj c h=>(by simp[wH]at h),λj g c h=>(by simp[wH]at h),λc h=>absurd h (qG0 _),λj c h=>(by simp[wH]at h)⟩
 obtain⟨ow,a,b⟩:=Ja e (hs:=hs.toList) (by rw[yU];exact f) hs.toList 0 _ rfl (qE1 _) d;rw[yU]at a b;refine⟨ow,?_,b⟩;have:SetTable.layClean m hs=(hs.toList.foldl (Ri m) (Z9 (Array.replicate (m+1) Z8,0))).map (·.1):=by rw[Array.foldl_toList];rfl
 rw[this,a];rfl
noncomputable def Wd(es:Array (Int×yT))(c:Nat):Int×Value:=es.getD c (0,.none)
theorem zLG(h:c<es.size):es[c]?=Z9 (Wd es c):=TY h
theorem I7:∀l:List Nat,(∀c∈l,c<es.size)->l.filterMap (es[·]?)=l.map (Wd es)
 |[],_=>rfl
 |c::l,h=>by rw[qO0 (zLG (h c (by simp))),I7 l λd a=>h d (by simp[a])];rfl
theorem Ay(es:Array (Int×yT)):(List.range es.size).map (Wd es)=es.toList:=by
 refine List.ext_getElem? λi=>?_;by_cases h:i<es.size
 ·rw[qB3,qH0 h,y9,zLG h];rfl
 ·rw[qJ8 (by simp;omega),qJ8 (by simp;omega)]
noncomputable def WT(m:Nat)(ow:Array (yK)):List (Nat×Nat):=(List.range (m+1)).filterMap λj=>(ow.getD j Z8).map (j,·)
theorem Nb(sz:ow.size=m+1):(j,c)∈WT m ow↔ow[j]?=Z9 (Z9 c):=by
 unfold WT;rw[qJ2];constructor
 ·rintro⟨i,a,e⟩;obtain⟨d,k,f⟩:=qA5.mp e;cases f;rw[TY (d:=Z8) (by have:=qE4.mp a;omega),k]
 ·intro h;have b:j<ow.size:=by
   rcases qJ5 j ow.size with g|g
   ·exact g
   ·rw[jN g]at h;cases h
  refine⟨j,qE4.mpr (by omega),?_⟩;rw[TY (d:=Z8) b]at h;rw[Option.some.inj h];rfl
theorem Ax(m:Nat)(ow:Array (yK)):(WT m ow).Pairwise λx y=>x.1<y.1:=by unfold WT;refine List.Pairwise.filterMap _ (λa b c x d y e=>?_) qP1;obtain⟨_,_,rfl⟩:=qA5.mp d;obtain⟨_,_,rfl⟩:=qA5.mp e;exact c
inductive Aw(m:Nat)(l p:Bool)(es:Array (Int×yT))(r:Option (jT×Array Nat)):Prop
 |mk (t:jT) (order:Array Nat) (e:r=Z9 (t,order)) (sz:(order.filterMap (es[·]?)).size=es.size) (pm:(order.filterMap (es[·]?)).toList.Perm es.toList) (T:Wf t (order.filterMap (es[·]?))) (hm:t.mask=m) (hl:t.led=l) (hp:t.plain=p)
theorem Av(C:WK m)(A:es.size*5<m*3):Aw m l p es (SetTable.laid m f v l p (es.map (·.1))):=by
 obtain⟨d,J,O⟩:=zIF C (hs:=es.map (·.1)) (by rw[Array.size_map];omega);rw[Array.size_map]at O;have E:SetTable.laid m f v l p (es.map (·.1))=Z9 ({ mask:=m,place:=((WT m d).map (·.1)).toArray,dummies:=#[],finger:=f,led:=l,moves:=v,plain:=p },((WT m d).map (·.2)).toArray):=by unfold SetTable.laid;rw[J];rfl
 have o:∀q∈WT m d,d[q.1]?=Z9 (Z9 q.2):=λq r=>(Nb O.sz).mp r;have B:∀c∈(WT m d).map (·.2),c<es.size:=λc K=>by obtain⟨q,r,rfl⟩:=qB9.mp K;exact O.lt _ _ (o q r)
 have w:((((WT m d).map (·.2)).toArray).filterMap (es[·]?)).toList=(WT m d).map λq=>Wd es q.2:=by rw[Array.toList_filterMap,I7 _ B,qC8];rfl
 have z:((WT m d).map (·.2)).Perm (List.range es.size):=by
  refine(List.perm_ext_iff_of_nodup ?_ qO8).mpr λc=>?_
  ·refine qI8.mpr ((Ax m d).imp_of_mem λ{x y} F L h=>λe=>?_);have:=O.un x.1 y.1 x.2 (o x F) (e▸o y L);omega
  ·rw[qE4];refine⟨λh=>B c h,λh=>?_⟩;obtain⟨j,q⟩:=O.all c h;exact qB9.mpr ⟨(j,c),(Nb O.sz).mpr q,rfl⟩
 have D:((((WT m d).map (·.2)).toArray).filterMap (es[·]?)).toList.Perm es.toList:=by rw[w,<- Ay es];have:=z.map (Wd es);rw[qC8]at this;exact this
 have sz:((((WT m d).map (·.2)).toArray).filterMap (es[·]?)).size=es.size:=by rw[<- yU,D.length_eq,yU]
 obtain⟨_,_,up⟩:=Bs E;refine⟨_,_,E,sz,D,⟨C,up,rfl,?_,λj I=>?_,by rw[sz];exact A,λi j e s u=>?_⟩,rfl,rfl,rfl⟩
 ·rw[<- yU,<- yU,w];simp
 ·obtain⟨q,r,rfl⟩:=qB9.mp I;have:=o q r;have:q.1<d.size:=by
   rcases qJ5 q.1 d.size with g|g
   ·exact g
   ·rw[jN g]at this;cases this
  rw[O.sz]at this;show q.1<=m;omega
 ·rw[<- y9]at s u;rw[w,qB3]at u;rw[show(((WT m d).map (·.1)).toArray).toList=(WT m d).map (·.1)from rfl,qB3]at s;cases r:(WT m d)[i]? with
  |none=>rw[r]at s;cases s
  |some q =>
   rw[r]at s u;cases s;cases u;have t:=qC0 r;obtain⟨h,n,a,b,c⟩:=O.rc _ _ (o q t);have G:h=(Wd es q.2).1:=by have:=O.lt _ _ (o q t);rw[y9,Array.getElem?_map,zLG this]at a;exact(Option.some.inj a).symm
   subst G;refine⟨n,b,λk hk=>?_⟩;obtain⟨H,M⟩:=c k hk;exact qB9.mpr ⟨(_,H),(Nb O.sz).mpr M,rfl⟩
theorem Au{e f:Type}{l:List e}{r:List f}{x:e}{y:f}(m:l.length=r.length)(j:p<=l.length){i:Nat}{a:e}{b:f}(d:(l.take p++x::l.drop p)[i]?=Z9 a)(c:(r.take p++y::r.drop p)[i]?=Z9 b):(a=x/\b=y)∨∃k:Nat,l[k]?=Z9 a/\r[k]?=Z9 b:=by
 have lt:(l.take p).length=p:=by rw[qD8];omega
 have h:(r.take p).length=p:=by rw[qD8];omega
 rcases qL6 i p with g|g|g
 ·rw[qB0 (by omega),qN8 g]at d c;exact .inr ⟨i,d,c⟩
 ·subst g;rw[qA3 (by omega),lt,qI2]at d;rw[qA3 (by omega),h,qI2]at c;cases d;cases c;exact .inl ⟨rfl,rfl⟩
 ·obtain⟨k,hk⟩:∃k,i - p=k+1:=⟨i - p - 1,by omega⟩
  rw[qA3 (by omega),lt,hk,qC9,qL0]at d;rw[qA3 (by omega),h,hk,qC9,qL0]at c;exact .inr ⟨p+k,d,c⟩
theorem As(T:Wf t es)(u:∀i:Nat,t.place[i]?≠Z9 (pr t.mask h n).j)(y:(pr t.mask h n).j<=t.mask)(z:∀k,k<n->∃i:Nat,t.place[i]?=Z9 (pr t.mask h k).j):
  (t.put (pr t.mask h n).j).1.dummies=#[]/\(t.put (pr t.mask h n).j).1.mask=t.mask/\Rs (t.put (pr t.mask h n).j).1.place/\(t.put (pr t.mask h n).j).1.place.size=es.size+1/\(SetTable.insertAt es (t.put (pr t.mask h n).j).2 (h,v)).size=es.size+1/\(SetTable.insertAt es (t.put (pr t.mask h n).j).2 (h,v)).toList.Perm ((h,v)::es.toList) /\
  ((es.size+1)*5<t.mask*3->Wf (t.put (pr t.mask h n).j).1 (SetTable.insertAt es (t.put (pr t.mask h n).j).2 (h,v))):=by
 obtain⟨j,w⟩:∃j,(pr t.mask h n).j=j:=⟨_,rfl⟩
 rw[w]at u y ⊢;have D:t.put j=({ t with place:=SetTable.insertAt t.place (SetTable.below t.place j) j },SetTable.below t.place j):=by unfold SetTable.put SetTable.has;rw[T.nd];simp
 rw[D];obtain⟨b1,_,_⟩:=Rq T.up j;have l:t.place.toList.length=es.toList.length:=by rw[yU,yU,T.sz]
 have f:=SetTable.toList_insertAt t.place (SetTable.below t.place j) j;have p:=SetTable.toList_insertAt es (SetTable.below t.place j) (h,v);have up:Rs (SetTable.insertAt t.place (SetTable.below t.place j) j):=T.up.insert (u _);have s:(SetTable.insertAt t.place (SetTable.below t.place j) j).size=es.size+1:=by rw[<- yU,f,qB8,qC7,qD8,qE6,yU,T.sz];rw[T.sz]at b1;omega
 have g:(SetTable.insertAt es (SetTable.below t.place j) (h,v)).size=es.size+1:=by rw[<- yU,p,qB8,qC7,qD8,qE6,yU];rw[T.sz]at b1;omega
 have A:(SetTable.insertAt es (SetTable.below t.place j) (h,v)).toList.Perm ((h,v)::es.toList):=by rw[p];exact qO6.trans (by rw[qF5])
 have d:∀x,x∈t.place.toList->x∈(SetTable.insertAt t.place (SetTable.below t.place j) j).toList:=λx c=>by
  rw[f];rw[<- qF5 (SetTable.below t.place j) t.place.toList]at c;rcases qB7.mp c with q|q
  ·exact qE9 _ q
  ·exact qC5 _ (qC2 _ q)
 refine⟨T.nd,rfl,up,s,g,A,λr=>⟨T.m,up,T.nd,by rw[g];exact s,λx c=>?_,by rw[g];exact r,λi x e m o=>?_⟩⟩
 ·rw[show({ t with place:=SetTable.insertAt t.place (SetTable.below t.place j) j }:jT).place.toList=_ from f]at c;rcases qB7.mp c with q|q
  ·exact T.bd x (qG6 q)
  ·rcases qA8.mp q with rfl|q
   ·exact y
   ·exact T.bd x (qI9 q)
 ·rw[<- y9]at m o;rw[p]at o;rw[show({ t with place:=SetTable.insertAt t.place (SetTable.below t.place j) j }:jT).place.toList=_ from f]at m;rcases Au l (by rw[yU];exact b1) m o with⟨rfl,rfl⟩| ⟨k,q1,q2⟩
  ·exact⟨n,w,λk hk=>d _ (P6.mpr (z k hk))⟩
  ·rw[y9]at q1 q2;obtain⟨C,a,b⟩:=T.rc k x e q1 q2;exact⟨C,a,λi B=>d _ (b i B)⟩
theorem Na{d k:Type}{f:d->k}{j l:List k}(h:j.Perm l):∀m:List d,l=m.map f->∃c:List d,c.Perm m/\j=c.map f:=by
 induction h with
 |nil=>intro m e;exact⟨m,.refl _,e⟩
 |cons x _ s =>
  intro m e;cases m with
  |nil=>cases e
  |cons a m =>
   rw[qB5,qH4.injEq]at e;obtain⟨c,p,q⟩:=s m e.2;exact⟨a::c,p.cons a,by rw[qB5,e.1,q]⟩
 |swap x y l =>
  intro m e
  match m,e with
  |a::b::m,e =>
   rw[qB5,qB5,qH4.injEq,qH4.injEq]at e;exact⟨b::a::m,.swap _ _ _,by rw[qB5,qB5,e.1,e.2.1,e.2.2]⟩
 |trans _ _ g i =>
  intro m e;obtain⟨n,o,t⟩:=i m e;obtain⟨u,v,r⟩:=g n t;exact⟨u,v.trans o,r⟩
theorem I0(m:Nat)(h:Int):∀n,(pr m h n).j+(pr m h n).more<=m
 |0=>by have:=Ng m h 0;have:=Nc (m:=m) (i:=(YD m h 0).1) (by omega);show(YD m h 0).1+(SetTable.runEnd m (YD m h 0).1 - (YD m h 0).1)<=m;omega
 |n+1=>by
  have b:=I0 m h n;show(Wu m (pr m h n)).j+(Wu m (pr m h n)).more<=m;by_cases q:0<(pr m h n).more
  ·rw[Jj m q];show(pr m h n).j+1+((pr m h n).more - 1)<=m;omega
  ·rw[Nj m (by omega) (Nf m h n)];generalize hx:SetTable.leap m (pr m h n).i (pr m h n).perturb=x;have a:x.1<=m:=by rw[<- hx];have:((pr m h n).i*5+1+(pr m h n).perturb / 32) % (m+1)<m+1:=qP2 _ (by omega);show((pr m h n).i*5+1+(pr m h n).perturb / 32) % (m+1)<=m;omega
   have:=Nc a;show x.1+(SetTable.runEnd m x.1 - x.1)<=m;omega
section
variable {prog:yZ}{w:jD}{A:jC}{E:yL}{s:yQ}{bt:Bool}{a:yR}{ks:List (yA)}{L:yR->Prop}
inductive Xs(prog:yZ)(w:jD)(bt:Bool)(L:yR->Prop)(h:jA)(a:yR)(ks:List (yA)):Prop
 |mk (o:Obj) (es:Array (Int×yT)) (ep:Nat) (t:jT) (xs:List (yA×yR)) (g:h.get? a=Z9 o) (x:o.ExactSet) (d:o.data=.set es ep t) (k:TOk bt t) (pl:t.plain=Z7) (T:Wf t es) (X:VG prog w h es xs) (p:(xs.map (·.1)).Perm ks) (al:∀x∈xs,L x.2)
noncomputable def YW(ks:List (yA))(k:yA):List (yA):=if k∈ks then ks else k::ks
theorem isT.keep(x:isT prog w h k b)(hk:∀o,h.get? b=Z9 o->h'.get? b=Z9 o):isT prog w h' k b:=by obtain⟨o,c,n,d,r⟩:=x;exact⟨o,c,n,hk o d,r⟩
theorem Xs.at(S:Xs prog w bt L h a ks)(k:∀b o,b=a∨L b->h.get? b=Z9 o->h'.get? b=Z9 o):Xs prog w bt L h' a ks:=by obtain⟨o,l,i,t,j,g,x,d,m,f,T,X,p,e⟩:=S;exact⟨o,l,i,t,j,k a o (.inl rfl) g,x,d,m,f,T,⟨X.e,λx c=>(X.t x c).keep λo=>k _ o (.inr (e x c))⟩,p,e⟩
theorem isT.ne(x:isT prog w h k b)(g:h.get? a=Z9 o)(c:o.cls=.type "set"):b≠a:=λe=>by obtain⟨j,d,n,f,i,_⟩:=x;rw[e,g]at f;cases f;rw[c]at i;exact absurd i (by decide)
theorem Xs.stored{h:jA}{xs:List (yA×yR)}(g:h.get? a=Z9 o)(x:o.ExactSet)(d:o.data=.set es b t):
  (h.update a (mR es' t')).get? a=Z9 { o with data:=.set es' (b+1) t' }:=by have:=qG2 (mR es' t') g (by rw[putSet_of es' t' d];rfl);rw[putSet_of es' t' d]at this;exact this
theorem Ar{k:yA}(T:Wf t es)(X:VG prog w h es xs)(v:∀i:Nat,t.place[i]?≠Z9 (pr t.mask (jO (j7 prog w) k) n0).j)(F:We prog w t xs k n0):k∉xs.map (·.1):=λz=>by
 obtain⟨x,u,rfl⟩:=qB9.mp z;obtain⟨i,m⟩:=qK2 u;have C:xs.length=es.size:=by rw[<- yU,X.e,qA0]
 have o:i<es.size:=by rw[<- C];exact(qA7.mp m).1
 have f:i<t.place.size:=by rw[T.sz];exact o
 have d:t.place[i]?=Z9 t.place[i]:=yW f;obtain⟨y,p,B,_⟩:=X.at o;rw[m]at p;cases p;obtain⟨n,a,b⟩:=T.rc i _ _ d B;have l:∀k,k<=n->∃i:Nat,t.place[i]?=Z9 (pr t.mask (jO (j7 prog w) x.1) k).j:=λk hk=>by
  by_cases e:k=n
  ·subst e;exact⟨i,by rw[a];exact d⟩
  ·exact P6.mp (b k (by omega))
 have lt:n<n0:=by
  rcases qJ5 n n0 with g|g
  ·exact g
  ·obtain⟨c,q⟩:=l n0 g;exact absurd q (v c)
 obtain⟨c,G,j,r,D⟩:=F n lt;rw[a]at j;have:c=i:=by
  rcases qL6 c i with g|g|g
  ·have:=T.up.get j d g;omega
  ·exact g
  ·have:=T.up.get d j g;omega
 subst this;rw[m]at r;cases r;exact D rfl
theorem M9(hu:A.units<j5)(S:Xs prog w bt L s.heap a ks)(hk:isT prog w s.heap k b)(hb:L b)(room:ks.length<=16)(h:∀(r:Bool) (h':jA),qE5 a s.heap h'->Xs prog w bt L h' a (YW ks k)->Q r { s with heap:=h' }):
  yV (yX prog w) A (setAddHashed a (.ref b) (jO (j7 prog w) k)) Q E s:=by
 obtain⟨o,es,Y,t,xs,g,x,d,k1,pl,T,X,p,al⟩:=S;have hl:es.size=ks.length:=by rw[<- p.length_eq,qA0,<- yU,X.e,qA0]
 obtain⟨H,hH⟩:∃H,jO (j7 prog w) k=H:=⟨_,rfl⟩
 unfold setAddHashed setAddHashedIn;refine jP (yO (jG g d T.fits ?_));dsimp only;rw[if_neg (by simp[byScan,Value.scannable])];obtain⟨J,n1,n2,n3,W⟩:=T.way (jO (j7 prog w) k);refine yO ?_;unfold setSearch;refine Jc hu T g d X hk n1 n2 W (λhm=>?_) (λhp=>?_) 100000 0 Z8 (qE1 _) (by rcases T.m with e|e<;>rw[e]at n1<;>omega) rfl (λj hj=>absurd hj (qG0 _))
 ·dsimp only;refine yP ?_;have:Xs prog w bt L s.heap a (YW ks k):=by unfold YW;rw[if_pos (p.mem_iff.mp hm)];exact⟨o,es,Y,t,xs,g,x,d,k1,pl,T,X,p,al⟩
  have:=h Z5 s.heap (qE5.refl ..) this;cases s;exact this
 ·have hn:=Ar T X n3 hp;rw[hH]at n2 n3 W ⊢;dsimp only;refine yO (jG g d T.fits ?_);dsimp only;have jb:(pr t.mask H J).j<=t.mask:=by have:=I0 t.mask H J;omega
  obtain⟨P,u2,Z,G,D,R,V⟩:=As T (v:=.ref b) n3 jb λk hk=>let ⟨i,q,_⟩:=W k hk;⟨i,q⟩
  have y:(t.put (pr t.mask H J).j).1.plain=Z7:=pl;have C:(t.put (pr t.mask H J).j).1.led=!bt:=k1.led;obtain⟨B,y1,M⟩:=Na (f:=λx:yA×yR=>(jO (j7 prog w) x.1,Value.ref x.2)) R ((k,b)::xs) (by rw[qB5,X.e,hH]);have K:∀z∈B,L z.2:=λz F=>by
   rcases qA8.mp (y1.mem_iff.mp F)with rfl|q
   ·exact hb
   ·exact al z q
  have I:(B.map (·.1)).Perm (YW ks k):=by unfold YW;rw[if_neg (λhm=>hn (p.mem_iff.mpr hm))];exact(y1.map Prod.fst).trans (by rw[qB5];exact p.cons k)
  generalize hput:t.put (pr t.mask H J).j=pt at P u2 Z G D R V y C M ⊢;obtain⟨u,pp⟩:=pt;dsimp only at P u2 Z G D R V y C M ⊢;rw[if_pos y];refine yO (AC (d:=7) hk ?_);rw[if_pos rfl];have c1:o.cls=.type "set":=x.1;generalize SetTable.insertAt es pp (H,Value.ref b)=es1 at D R V M ⊢;refine yO (wpAny_storeSet_of g d ?_ (by rw[D,vP];omega));have N:=Xs.stored (h:=s.heap) (es':=es1) (t':=u) (xs:=xs) g x d;have X3:∀z∈B,isT prog w (s.heap.update a (mR es1 u)) z.1 z.2:=λz F=>by
   have:isT prog w s.heap z.1 z.2:=by
    rcases qA8.mp (y1.mem_iff.mp F)with rfl|q
    ·exact hk
    ·exact X.t z q
   exact this.keep λo' e=>by rw[qF2 _ _ (Ne.symm (this.ne g c1))];exact e
  have sb:=qE5.update s.heap a (mR es1 u);have few:=T.few;by_cases n:(!false&&u.tooFull)=Z7
  ·rw[if_pos n];have U:u.tooFull=Z7:=by simpa using n
   unfold SetTable.tooFull SetTable.fill at U;rw[P,G,u2]at U;simp at U;have m7:t.mask=7/\es.size=4:=by rcases T.m with e|e<;>rw[e]at U few ⊢<;>exact⟨by omega,by omega⟩
   rw[m7.2]at G D ⊢;have O:u.fits es1.size=Z7:=by unfold SetTable.fits SetTable.fill;rw[P,G,D,u2,m7.1];rfl
   unfold setRelay;refine yO (yO (jG N rfl O ?_));dsimp only;obtain⟨t',c,e,sz,pm,T',hm',hl',hp'⟩:=Av (m:=31) (f:=u.finger) (v:=u.movedTo 31) (l:=u.led) (p:=u.plain) (.inr rfl) (es:=es1) (by rw[D];decide);rw[show SetTable.sizeAbove (SetTable.grown (4+1))=32 by decide +kernel,if_neg (by rw[vP];omega)];refine yO ?_;have e':u.relaid (es1.map (·.1)) (SetTable.grown (4+1))=Z9 (t',c):=e;rw[e'];show yV _ _ (if((c.filterMap (es1[·]?)).size != es1.size)=Z7 then _ else pure (c.filterMap (es1[·]?),t')) _ _ _;rw[if_neg (by simp[sz])];refine yP ?_;dsimp only;generalize c.filterMap (es1[·]?)=es2 at sz pm T' ⊢;refine wpAny_storeSet_of N rfl ?_ (by rw[sz,D,vP];omega);obtain⟨xs2,z1,z2⟩:=Na pm B M;have g4:=Xs.stored (es':=es2) (t':=t') (xs:=xs) N x rfl;refine yP (h Z7 _ (sb.trans (qE5.update _ a _)) ⟨_,es2,Y+1+1,t',xs2,g4,x,rfl,⟨by rw[hl'];exact C,λ_=>T'.up⟩,by rw[hp'];exact y,T',⟨z2,λz F=>?_⟩,(z1.map Prod.fst).trans I,λz F=>K z (z1.mem_iff.mp F)⟩);have:=X3 z (z1.mem_iff.mp F);exact this.keep λo' e=>by rw[qF2 _ _ (Ne.symm (this.ne N c1))];exact e
  ·rw[if_neg n];refine yP (h Z7 _ sb ⟨_,es1,Y+1,u,B,N,x,rfl,⟨C,λ_=>Z⟩,y,V ?_,⟨M,X3⟩,I,K⟩);have:u.tooFull=Z5:=by simpa using n
   unfold SetTable.tooFull SetTable.fill at this;rw[P,G,u2]at this;simp at this;omega
end
noncomputable def VF(val:Nat->yA):Nat->List (yA)
 |0=>[]
 |i+1=>YW (VF val i) (val i)
theorem IZ(val:Nat->yA):∀i,(VF val i).length<=i
 |0=>qA6 _
 |i+1=>by
  have:=IZ val i;show(YW _ _).length<=_;unfold YW;split
  ·omega
  ·rw[qC7];omega
section
variable {prog:yZ}{w:jD}{A:jC}{R:mP->yQ->Prop}{I:yR}{fp wr:yC}{G:Array GenState->Array GenState->Prop}{n:Nat}{P:Nat->yT->Prop}{St:Nat->yQ->Prop}{bt:Bool}
theorem Aq(C:A.in1.units<j5)(W:WalksS prog w A.in1 I fp wr G n P St)(S:yR)(D:S∉fp)(val:Nat->yA)(c:Nat->yR)(m:∀i v,P i v->v=.ref (c i))(L0:yR->Prop)(y:∀i,i<n->(c i≠S/\c i∉wr)/\L0 (c i))(l:n<=16):
  ∀(k i:Nat) (s:yQ),n - i=k->i<=n->St i s->(∀i,i<n->isT prog w s.heap (val i) (c i))->Xs prog w bt (λb=>(b≠S/\b∉wr)/\L0 b) s.heap S (VF val i)->(∀s',Moved (S::wr) G s s'->Xs prog w bt (λb=>(b≠S/\b∉wr)/\L0 b) s'.heap S (VF val n)->R (.ok (.ret .none)) s') ->
   vZ (yX prog w) A (.builtin "set.update.loop" ⟨[.ref S,.ref I],[]⟩) R s:=by
 have B:S∉wr:=λh=>D (W.sub _ h);have sub:∀b∈wr,b∈S::wr:=λb l=>qC2 _ l;intro k
 induction k with
 |zero =>
  intro i s hk f r z x p;have e:i=n:=by omega
  subst e;refine vB wF ?_;rw[Around.under_plainId vD _];show yV _ A.in1 (wQ (.ref I) >>= _) _ _ s;refine yO (W.done s _ _ r λs' j=>?_);exact yP (p s' (j.mono sub) (x.at λb o q g=>j.heap b o (q.elim (λe=>e▸B) (·.1.2)) g))
 |succ k J =>
  intro i s hk f r z x p;have a:i<n:=by omega
  refine vB wF ?_;rw[Around.under_plainId vD _];show yV _ A.in1 (wQ (.ref I) >>= _) _ _ s;refine yO (W.item i s _ _ a r λv s' L t j=>?_);have N:=m i v L;subst N;have M:=x.at λb o q g=>j.heap b o (q.elim (λe=>e▸B) (·.1.2)) g;have d:∀i,i<n->isT prog w s'.heap (val i) (c i):=λi f=>(z i f).keep λo g=>j.heap _ o (y i f).1.2 g;show yV _ A.in1 (wI [Value.ref (c i)] (setAdd S (.ref (c i))) >>= _) _ _ s';refine yO (jP ?_);unfold setAdd;refine jP (yO (wpAny_pyHash_tuple C (d i a) ?_));refine M9 (s:={ s' with toks:=s'.toks+((val i).length+1) }) C M (d i a) (y i a) (by have:=IZ val i;omega) λb H sb K=>?_;refine yP ⟨fB vD _,J (i+1) _ (by omega) a (W.frame _ s' _ _ t (qJ1 _ _) λb l o e=>?_) (λi f=>(d i f).keep λo e=>?_) K λE u F=>?_⟩
  ·rw[sb.2 b (λh:b=S=>D (by rw[<- h];exact l))];exact e
  ·show H.get? _=_;rw[sb.2 _ (y i f).1.1];exact e
  ·refine p E (Moved.trans W.gtrans ((j.mono sub).then_heap (qJ1 _ _) λb o l e=>?_) u) F;rw[sb.2 b (λh:b=S=>l (by rw[h];exact qD5))];exact e
end
theorem Xs.weak(S:Xs prog w bt L h a ks)(j:∀b,L b->c b):Xs prog w bt c h a ks:=by obtain⟨o,m,e,t,k,g,x,d,n,i,T,X,p,l⟩:=S;exact⟨o,m,e,t,k,g,x,d,n,i,T,X,p,λx f=>j _ (l x f)⟩
section
variable {prog:yZ}{w:jD}{A:jC}{E:yL}{s:yQ}
theorem Ap{items:yJ}{a:List (yR×yA)}(U:A.units+8<j5)(N:A.handled=Z8)(hs:s0.heap.get? S=Z9 (UA w))(C:l≠S)(r:s0.heap.IsList l items)(J:items.toList=a.map λt=>Value.ref t.1)(ht:∀t∈a,isT prog w s0.heap t.2 t.1)(z:items.size<=16){Q:yL}
  (h:∀(h':jA) (tk:Nat),Xs prog w (WL w) (λb=>∃t∈a,t.1=b) h' S (VF (λi=>(a.getD i (0,[])).2) items.size)->(∀b o,b≠S->s0.heap.get? b=Z9 o->h'.get? b=Z9 o)->Q .none { s0 with heap:=h',toks:=tk }) :
  vZ (yX prog w) A (.call (.builtin "set.__init__") ⟨[.ref S,.ref l],[]⟩) (wants Q E) s0:=by
 have ty:s0.TypeIs (.ref S) "set":=⟨_,hs,rfl⟩
 refine codeAny_call_builtin PySem.F.called_set.init.plain PySem.F.entry_set_init (PySem.check_set_init_1 ty ?_);have u:S<s0.heap.objs.size:=qB4 hs;obtain⟨D,g,d,L,P⟩:=s0;obtain⟨M,F,f,T,j⟩:=id r;obtain⟨G,x,n,m⟩:=M;simp only at f j;subst f j;have R:=PySem.F.sub_list_set;have V:=PySem.F.sub_list_frozenset;have W:(Value.type "list" == Value.type "dict")=Z5:=by decide
 unfold Builtin.«set.__init__» noKeywords Builtin.Frozenset.updateFrom;generalize hPI:pyIter=PI;unfold UA at hs
 wp_walk
 subst hPI;refine j9 r ?_;refine yO (lV ?_);have p:l<D.objs.size:=qB4 F;have X:a.length=items.size:=by rw[<- yU,J,qA0]
 have I:∀i,i<items.size->a[i]?=Z9 (a.getD i (0,[])):=λi h=>by rw[qA4 (by omega)];simp[qG5,show i<a.length by omega]
 have y:∀i,i<items.size->isT prog w D (a.getD i (0,[])).2 (a.getD i (0,[])).1:=λi h=>ht _ (qC0 (I i h));refine Aq (bt:=WL w) (by simp;omega) ((Walks.list (by simp[N]) _ l (qC3 p) items).toS) S ?_ (λi=>(a.getD i (0,[])).2) (λi=>(a.getD i (0,[])).1) (λi v O=>?_) (λb=>∃t∈a,t.1=b) (λi c=>⟨⟨(y i c).ne hs rfl,λk=>?_⟩,_,qC0 (I i c),rfl⟩) z (items.size - 0) 0 _ rfl (qE1 _)
  ⟨⟨_,qB2 _ rfl,rfl,rfl⟩,r.push _⟩ (λi c=>(y i c).keep λo e=>qA1 _ e) ⟨_,#[],0,_,[],qA1 _ hs,⟨rfl,rfl,rfl⟩,rfl,TOk.fresh _,rfl,Wf.fresh _,⟨rfl,λ_ B=>by cases B⟩,.nil,λ_ B=>by cases B⟩ λY k K=>?_
 rotate_left
 ·have:items.toList[i]?=Z9 v:=by rw[y9];exact O
  rw[J,qB3]at this;cases q:a[i]? with
  |none=>rw[q]at this;cases this
  |some t=>rw[q]at this;cases this;simp[qG5,q]
 ·have e:(a.getD i (0,[])).1=D.objs.size:=by simpa using k
  obtain⟨o,_,_,H,_⟩:=y i c;rw[e]at H;exact absurd (qB4 H) (qG7 _)
 rotate_left
 ·simp only[qA8,qB6,qD3,or_false,not_or];exact⟨qC3 u,λe=>C e.symm⟩
 ·rw[Moved.eq_with k];refine yP ?_;refine yP (h _ _ (K.weak λ_ h=>h.2) λb o z e=>?_);refine k.heap b o (λq=>?_) (qA1 _ e);rcases qA8.mp q with q|q
  ·exact z q
  ·rw[qB6.mp q]at e;exact absurd (qB4 e) (qG7 _)
theorem Ao{items:yJ}{d:List (yR×yA)}{Q:yL}(K:A.units+16<j5)(B:A.handled=Z8)(v:s.heap.IsList l items)(F:items.toList=d.map λt=>Value.ref t.1)(ht:∀t∈d,isT prog w s.heap t.2 t.1)(D:items.size<=16)
  (h:∀(h':jA) (tk:Nat),Xs prog w (WL w) (λb=>∃t∈d,t.1=b) h' s.heap.objs.size (VF (λi=>(d.getD i (0,[])).2) items.size)->(∀b o,s.heap.get? b=Z9 o->h'.get? b=Z9 o)->Q (.ref s.heap.objs.size) { s with heap:=h',toks:=tk }) :
  yV (yX prog w) A (call (.type "set") [.ref l]) Q E s:=by
 obtain⟨c,N,p⟩:=PySem.F.called_set.mro;have f:=PySem.F.called_set.made;have y:=PySem.F.called_set.sub;refine wpAny_call (codeAny_of_tree ?_);show yV _ _ (callAny (.type "set") _) _ _ _;refine yP ⟨Code.quiet_builtin _ (by decide +kernel),vB PySem.F.entry_type_call ?_⟩;rw[Around.under_plain (weight_type_call_type "set" [.ref l] []) rfl];have J:=PySem.F.called_set.notType;have L:=PySem.F.called_set.canCreate;have M:=PySem.F.typeCall_set_1 (.ref l)
 repeat (any_goals (first|assumption|wp_step))
 refine wR (Br (w:=w) (.ref l) (E:=E) (Q:=λobj u=>obj=.ref s.heap.objs.size/\u={ s with heap:=s.heap.push (UA w) }) ⟨rfl,rfl⟩) λr u m=>?_;cases r with
 |error e=>exact m
 |ok H =>
  cases H with
  |ret obj =>
   obtain⟨rfl,rfl⟩:=m;have x:(s.heap.push (UA w)).get? s.heap.objs.size=Z9 (UA w):=qB2 _ rfl;have I:Shared.TypeIs { s with heap:=s.heap.push (UA w) } (.ref s.heap.objs.size) "set":=⟨_,x,rfl⟩
   have C:=PySem.F.called_set.init.lookup;have G:=PySem.F.called_set.init.bind (.ref s.heap.objs.size)
   repeat (any_goals (first|assumption|wp_step))
   have j:l<s.heap.objs.size:=by obtain⟨o,g,_⟩:=id v;exact qB4 g
   refine wR (Ap (E:=E) (w:=w) (s0:={ s with heap:=s.heap.push (UA w) }) (Q:=λr q=>r=.none/\∃h' tk,q={ s with heap:=h',toks:=tk }/\Xs prog w (WL w) (λb=>∃t∈d,t.1=b) h' s.heap.objs.size (VF (λi=>(d.getD i (0,[])).2) items.size)/\∀b o,s.heap.get? b=Z9 o->h'.get? b=Z9 o) (by simp;omega) (by simp[B]) x (qC3 j) (v.push _) F (λt h=>(ht t h).keep λo e=>qA1 _ e) D λh' tk k kp =>
    ⟨rfl,h',tk,rfl,k,λb o e=>kp b o (qC3 (qB4 e)) (qA1 _ e)⟩) λz q a=>?_
   cases z with
   |error e=>exact a
   |ok n =>
    cases n with
    |ret r =>
     obtain⟨rfl,h',tk,rfl,k,kp⟩:=a
     repeat (any_goals (first|assumption|wp_step))
     exact h _ _ k kp
    |_=>exact a.elim
  |_=>exact m.elim
end
section
variable {prog:yZ}{w:jD}{A:jC}{E:yL}{s:yQ}{S:yR}{zs:List (yA)}{Lp:yR->Prop}
theorem isT.unpush(x:isT prog w (h.push o) k b)(d:o.cls=.type "list")(i:o.isFreed=Z5:=by rfl):isT prog w h k b:=by
 obtain⟨f,a,n,g,c,r⟩:=x;have:b≠h.objs.size:=λe=>by subst e;rw[qB2 _ i]at g;cases g;rw[d]at c;exact absurd c (by decide)
 exact⟨f,a,n,by rw[<- qN6 _ _ _ this];exact g,c,r⟩
theorem An(hS:Xs prog w (WL w) Lp s.heap S zs)(hh:A.handled=Z8)(L:yR)(U:L≠S)(q:yT)(Q:s.heap.get? L=Z9 { cls:=.type "list",data:=.seq #[] })
  (hR:∀h' tk dr acc c,(∀b o,b≠L->s.heap.get? b=Z9 o->h'.get? b=Z9 o)->h'.get? L=Z9 { cls:=.type "list",dict:=Z8,data:=.seq acc c,slots:=#[] }->(∃a:List (yR×yA),acc.toList=a.map (λt=>Value.ref t.1)/\(a.map (·.2)).Perm zs/\∀t∈a,Lp t.1/\isT prog w s.heap t.2 t.1)->R (.ok (.ret q)) { s with heap:=h',toks:=tk,drawn:=dr }) :
  yV (yX prog w) A.in1 (Builtin.List.listExtendWith (.ref L) (.ref S) q)
   (λr s'=>match r with|.done f=>R (.ok f) s'|.again F=>F.quiet=Z7/\vZ (yX prog w) A F R s') (λe s'=>R (.error e) s') s:=by
 obtain⟨o,M,ep,t,xs,g,x,d,k,pl,T,X,p,al⟩:=hS;have f:=T.fits;have b:M.size<scanBound:=by have:=T.few;rcases T.m with e|e<;>rw[e]at this<;>(show _<4096)<;>omega
 have ty:∀h g2 O t2 Z,h.get? S=Z9 o->Shared.TypeIs ⟨h,g2,O,t2,Z⟩ (.ref S) "set":=λh g2 O t2 Z C=>⟨o,C,x.1⟩
 unfold Builtin.List.listExtendWith;refine yO (vQ (T := "set") ⟨o,g,x.1⟩ ?_);have h1:Builtin.List.listSameRef (.ref L) (.ref S)=Z5:=by simp[Builtin.List.listSameRef,U]
 have h2:(Value.type "set" == Value.type "list")=Z5:=by decide
 have h3:(Value.type "set" == Value.type "tuple")=Z5:=by decide
 simp only[h1,h2,h3,qQ4,qF8,if_false];refine yO (Bc g x d f k b λI h' dr kp W=>?_);have gS:=kp _ _ g;refine yO (jP (Bb ⟨o,gS,x.1⟩ ?_));obtain⟨fp,St,vals,pv,W,N,hf,hi⟩:=W A.in1 hh;have lL:L<s.heap.objs.size:=qB4 Q;have Y:L∉fp:=λD=>by
  rcases hf L D with z|z
  ·exact U z
  ·exact absurd lL (Nat.not_lt.mpr z)
 have r:∀(acc:yJ),ItemsOf (λi v=>vals[i]?=Z9 v) acc M.size->∃a:List (yR×yA),acc.toList=a.map (λt=>Value.ref t.1)/\(a.map (·.2)).Perm zs/\∀t∈a,Lp t.1/\isT prog w s.heap t.2 t.1:=λacc P=>by
  have el:acc.toList=vals:=by refine qS0 (by rw[yU,P.1,pv.length_eq,qA0,yU]) λj j1 j2=>?_;have V:vals[j]?=Z9 acc.toList[j]:=P.2 j acc.toList[j] (by rw[<- y9];exact qA4 j1);rw[qA4 j2]at V;exact(Option.some.inj V).symm
  rw[el];obtain⟨H,K,q2⟩:=Na (f:=λx:yA×yR=>Value.ref x.2) pv xs (by rw[X.e,qC8];rfl);refine⟨H.map λx=>(x.2,x.1),by rw[q2,qC8];rfl,?_,λt ht=>?_⟩
  ·rw[qC8];exact(K.map Prod.fst).trans p
  ·obtain⟨x,C,rfl⟩:=qB9.mp ht;exact⟨al x (K.mem_iff.mp C),X.t x (K.mem_iff.mp C)⟩
 have y:∀(h:jA) (c tk:Nat),St 0 h->(∀b o,b≠L->s.heap.get? b=Z9 o->h.get? b=Z9 o)->h.get? L=Z9 { cls:=.type "list",data:=.seq #[] c } ->
   vZ (yX prog w) A (.builtin "list.extend.loop" ⟨[.ref L,.ref I,q],[]⟩) R { s with heap:=h,toks:=tk,drawn:=dr }:=by
  intro h c tk J hk l;refine codeAny_extend_loopS W.toS (fits_of_scanBound b) L Y q M.size 0 _ #[] c rfl (qE1 _) J l (ItemsOf.nil _) λs' acc F D n B=>?_;rw[Moved.eq_with D];refine hR s'.heap s'.toks dr acc F (λb o u e=>D.heap b o (λm=>?_) (hk b o u e)) n (r acc B);rcases qA8.mp m with e'|m
  ·exact u e'
  ·exact absurd (qB4 e) (by rw[qB6.mp m];exact Nat.not_lt.mpr hi)
 have l:=kp _ _ Q;refine vO (λ_=>?_) (λ_=>yP ⟨fB fS _,y _ 0 _ N (λb o _ e=>kp b o e) l⟩);refine yO (wA (yO ?_));show yV _ _ (updateSeq L (·.push .none) >>= λ_=>updateSeq L (·.pop)) _ _ _;refine yO (gZ l rfl ?_);have n:=qG2 (jZ (·.push Value.none)) l rfl;refine gZ (hz:=by seq_fits) n rfl ?_;have G:=qG2 (jZ (·.pop)) n rfl;refine yP ⟨fB fS _,y _ _ _ ?_ (λb o u e=>?_) G⟩
 ·refine W.frame 0 _ _ N λb u o e=>?_;have ne:b≠L:=λh=>Y (h▸u);exact(qF2 _ _ (Ne.symm ne)).trans ((qF2 _ _ (Ne.symm ne)).trans e)
 ·exact(qF2 _ _ (Ne.symm u)).trans ((qF2 _ _ (Ne.symm u)).trans (kp b o e))
theorem Am{R:yB->yQ->Prop}(n:Xs prog w (WL w) Lp s.heap S zs)(u:A.handled=Z8)
  (h:∀(h':jA) tk dr (acc:yJ),(∀b o,s.heap.get? b=Z9 o->h'.get? b=Z9 o)->(∃a:List (yR×yA),acc.toList=a.map (λt=>Value.ref t.1)/\(a.map (·.2)).Perm zs/\∀t∈a,Lp t.1/\isT prog w s.heap t.2 t.1)->R acc.toList { s with heap:=h',toks:=tk,drawn:=dr }) :
  yV (yX prog w) A (mB (.ref S)) R E s:=by
 have lt:S<s.heap.objs.size:=by obtain⟨o,_,_,_,_,g,_⟩:=id n;exact qB4 g
 unfold mB;refine yO (lV (vB lW ?_));rw[Around.under_plainId PySem.F.plain_proto_collect _];show yV _ A.in1 (dU [] >>= λl=>again (.builtin "list.__iadd__" ⟨[l,.ref S],[]⟩)) _ _ s;refine yO (jF ?_);refine yP ⟨fB gJ _,vB entry_list_iadd' ?_⟩;rw[Around.under_plainId gJ _];have p:(s.heap.push { cls:=.type "list",data:=.seq ([]:yB).toArray }).get? s.heap.objs.size=Z9 { cls:=.type "list",data:=.seq #[] }:=qB2 _ rfl;show yV _ A.in1 (Builtin.List.listExtendWith (.ref s.heap.objs.size) (.ref S) (.ref s.heap.objs.size)) _ _ _;have j:=An (prog:=prog) (A:=A) (s:={ s with heap:=s.heap.push { cls:=.type "list",data:=.seq ([]:yB).toArray } })
  (R:=fun(q:mP) (m:yQ)=>∃(h':jA) (tk:Nat) (dr:Drawn) (acc:yJ) (c:Nat),q=.ok (.ret (.ref s.heap.objs.size))/\m={ s with heap:=h',toks:=tk,drawn:=dr } /\
   (∀b o,s.heap.get? b=Z9 o->h'.get? b=Z9 o)/\h'.get? s.heap.objs.size=Z9 { cls:=.type "list",dict:=Z8,data:=.seq acc c,slots:=#[] }/\∃a:List (yR×yA),acc.toList=a.map (λt=>Value.ref t.1)/\(a.map (·.2)).Perm zs/\∀t∈a,Lp t.1/\isT prog w s.heap t.2 t.1)
  (n.at λb o _ e=>qA1 _ e) u s.heap.objs.size (qI7 lt) (.ref s.heap.objs.size) p
  (λh' tk dr acc c hk i d=>⟨h',tk,dr,acc,c,rfl,rfl,λb o e=>hk b o (qC3 (qB4 e)) (qA1 _ e),i,d.imp λa q=>⟨q.1,q.2.1,λt ht=>⟨(q.2.2 t ht).1,(q.2.2 t ht).2.unpush rfl⟩⟩⟩)
 refine jU j (λk m x=>?_) λe m x=>?_
 ·cases k with
  |done f =>
   obtain⟨h',tk,dr,acc,c,e,rfl,hk,i,d⟩:=x;cases e;show yV _ A (load s.heap.objs.size >>= _) _ _ _;refine yO (mO i ?_);exact yP (h h' tk dr acc hk d)
  |again z =>
   refine⟨x.1,wR x.2 λq v y=>?_⟩;obtain⟨h',tk,dr,acc,c,rfl,rfl,hk,i,d⟩:=y;show yV _ A (load s.heap.objs.size >>= _) _ _ _;refine yO (mO i ?_);exact yP (h h' tk dr acc hk d)
 ·obtain⟨_,_,_,_,_,r,_⟩:=x;cases r
end
noncomputable def Yv(l:List (yA)):List (yA):=l.foldl YW []
theorem IY(l:List (yA))(val:Nat->yA)(b:∀i k,l[i]?=Z9 k->val i=k):∀i,i<=l.length->VF val i=Yv (l.take i)
 |0,_=>by simp[VF,Yv]
 |i+1,h=>by have a:i<l.length:=h;show YW (VF _ i) _=_;rw[IY l val b i (by omega),qL7 a,Yv,Yv,qN7,b i _ (qA4 a)];rfl
theorem M8:∀(l z:List (yA)),(l.foldl YW z).length<=z.length+l.length
 |[],z=>qA6 _
 |a::l,z=>by
  refine qD4 (M8 l _) ?_;have:(YW z a).length<=z.length+1:=by unfold YW;split<;>simp
  simp;omega
theorem Al{ks:yA}{a:yB}(h:ItemsAre (j7 prog w) ks a):vE a ks:=by
 induction h with
 |nil=>exact .nil
 |cons hk _ b =>
  obtain⟨t,rfl⟩:=Value.isInt_shape hk;exact .cons _ _ b
theorem Ak{ks:yA}{vs:yB}(h:vE vs ks):ItemsAre (j7 prog w) ks vs:=by
 induction h with
 |nil=>exact .nil
 |cons i t _ a=>exact .cons (intKind_is _ _ _ _) a
section
variable {prog:yZ}{w:jD}{A:jC}{E:yL}{s:yQ}{r:yR}
theorem isT.tupI(x:isT prog w h k b):Yw h (.ref b) k:=by obtain⟨o,a,n,g,c,d,i⟩:=x;exact⟨b,a,rfl,⟨o,g,c,n,d⟩,Al i⟩
theorem Aj{Q:yL}(P:yR×yA->Prop)(u:nss.length<=y8)(J:Wg nss.length)(K:A.units+2<j5)
  (F:∀(A:jC) (E:yL) (R:yB->yQ->Prop),A.handled=Z8->(∀(h':jA) (tk:Nat) (dr:Drawn) (c:List (yR×yA)),(∀b o,s.heap.get? b=Z9 o->h'.get? b=Z9 o)->(c.map (·.2)).Perm nss->(∀t∈c,P t/\isT prog w s.heap t.2 t.1)->R (c.map λt=>.ref t.1) { s with heap:=h',toks:=tk,drawn:=dr })->yV (yX prog w) A (mB (.ref r)) R E s)
  (D:A.handled=Z8)
  (h:∀(j:jA) (l:yR) (h':jA) (tk:Nat) (dr:Drawn) (e:Nat) (a:List (yR×yA)),(∀b o,s.heap.get? b=Z9 o->j.get? b=Z9 o)->(∀b o,j.get? b=Z9 o->h'.get? b=Z9 o)->j.objs.size<=l->h'.get? l=Z9 (j4 "list" (a.map λt=>Value.ref t.1).toArray e)->(a.map (·.2)).Perm nss->(∀t∈a,P t)->VH a->Q (.ref l) { s with heap:=h',toks:=tk,drawn:=dr }) :
  yV (yX prog w) A (call (.builtin "sorted") [.ref r]) Q E s:=by
 refine wE dP dC dD (dE _) ?_;unfold Builtin.«sorted»;refine yO (m:=checkCount "sorted" 1 1 _) (yP ?_);refine yO (F _ _ _ D λh' tk dr c hk q p=>?_);have d:(c.map λt=>Value.ref t.1).length=nss.length:=by rw[qA0,<- q.length_eq,qA0]
 refine yO (fD ?_ (by rw[d];exact u));have f:(h'.push (j4 "list" (c.map λt=>Value.ref t.1).toArray 0)).get? h'.objs.size=Z9 (j4 "list" (c.map λt=>Value.ref t.1).toArray 0):=qB2 _ rfl;show yV _ _ _ _ _ { s with heap:=h'.push (j4 "list" (c.map λt=>Value.ref t.1).toArray 0),toks:=tk,drawn:=dr };have n:∀t∈c,Yw (h'.push (j4 "list" (c.map λt=>Value.ref t.1).toArray 0)) (.ref t.1) t.2:=λt ht=>((p t ht).2.tupI).mono λb o _ g=>qA1 _ (hk b o g);refine yO (jP (jJ lS ⟨_,f,rfl⟩ g7 (Jo f (λv H=>?_) (by rw[d];exact u) (by rw[d];exact J) (by show A.units+1+1<j5;omega) λout G z=>⟨_,rfl,?_⟩) (lT _)))
 ·obtain⟨t,ht,rfl⟩:=qB9.mp H;exact⟨t.2,n t ht⟩
 obtain⟨a,i,rfl⟩:=Jl _ G c rfl;obtain⟨e,B⟩:=mK (out:=(a.map λt=>Value.ref t.1).toArray) f;refine yP ⟨_,rfl,h h' h'.objs.size _ tk dr e a hk (λb o g=>?_) (qA6 _) B ((i.map (·.2)).trans q) (λt ht=>(p t (i.mem_iff.mp ht)).1) ?_⟩
 ·have lt:b<h'.objs.size:=qB4 g;rw[lU (qC3 lt) (by rw[fQ];exact qE3 lt)];exact qA1 _ g
 ·rw[qI8]at z;refine z.imp_of_mem λ{x y} C I k=>?_;rwa[(n x (i.mem_iff.mp C)).kd,(n y (i.mem_iff.mp I)).kd]at k
end
section
variable {X:Cx}{a:y4}{ta:TA}{p p2 pos pos2:Pos}
theorem Ai{Z:St}{a:yR}(I:ZQ X b Z H s)(h:Zp X.K H a (ns.map V.int)):isT X.prog X.w s.heap ns a:=by obtain⟨e,r,⟨o,g,c,n,d⟩,_⟩:=I.tuple h;exact⟨o,e.toArray,n,g,c,d,by simpa using Ak (Qm r)⟩
def IX(K:yS)(e:TA):TE:=fun Z H Q=>e Z H λf c=>∃(l:yR) (d:List (yR×yA)),f=[.ref l]/\YT K c l (d.map λt=>V.ref t.1)/\(∀t∈d,c t.1=Z9 (.tup (t.2.map V.int)))/\d.length<=16/\∀(q:yR) (b:List (yR×yA)),c q=Z8->(∀t∈b,c t.1=Z9 (.tup (t.2.map V.int)))->(b.map (·.2)).Perm (Yv (d.map (·.2)))->VH b->Q (.ref q) (ZE c q (.lst (b.map λt=>V.ref t.1)))
theorem Ah(M:X.calm=Z7)(hu:X.A.units+64<j5)(hg:Gl X "sorted")(hm:X.mg "sorted"=Z8)(y:Gl X "set")(z:X.mg "set"=Z8)(U:PA X [a] ta)(hs:jE [a] X.env=[(Z5,vL a X.env)]:=by rfl):
  PE X (.Call (.Name "sorted" p) [.Call (.Name "set" p2) [a] [] pos2] [] pos) (IX X.K ta):=by
 intro d s Z H Q I h;refine wL (Va I hg hm PyProof.Rows.boot_sorted ?_);refine wX ?_ rfl rfl;refine Calls.spliced_cons (Call_ (Va I y z PyProof.Rows.boot_set (jS (Zv (U pos2 d s Z H _ I h) λus v ⟨vs,H1,m,r1,q1⟩=>?_) (by rw[hs];rfl) rfl)));obtain⟨l,c,rfl,hq,ht,hn,q⟩:=q1;obtain⟨u,rfl,ru⟩:=Wx r1;cases ru;obtain⟨its,Y,W,hz⟩:=m.list hq;have ei:=Nl Y;subst ei;have C:∀t∈c,isT X.prog X.w v.heap t.2 t.1:=λt h=>Ai m (Zp.of (ht t h));have hb:(c.map λt=>Value.ref t.1).toArray.size<=16:=by rw[qA9,qA0];exact hn
 refine Ao (by omega) (m.ok.hd M) W.isList (by simp) C hb λT w J kp=>Calls.spliced_nil ?_;have es:VF (λi=>(c.getD i (0,[])).2) (c.map λt=>Value.ref t.1).toArray.size=Yv (c.map (·.2)):=by
  rw[qA9,qA0,IY (c.map (·.2)) _ (λi k h=>by
   rw[qB3]at h;cases q:c[i]? with
   |none=>rw[q]at h;cases h
   | some t=>rw[q]at h;cases h;simp[qG5,q]) _ (by rw[qA0];exact qA6 _),<- qA0 (f:=λt:yR×yA=>t.2),qH3]
 rw[es]at J;have L:(Yv (c.map (·.2))).length<=16:=by have:=M8 (c.map (·.2)) [];rw[qA0]at this;unfold Yv;simp at this;omega
 refine Aj (s:={ v with heap:=T,toks:=w }) (nss:=Yv (c.map (·.2))) (λt=>t∈c) (by rw[vP];omega) (by first|exact trivial|exact qJ3 L (by decide)) (by omega) (λA E R hA O=>Am J hA λn w dr acc B ⟨x,e,r,N⟩=>?_) (m.ok.hd M) λh2 l2 h3 j dr e g B k3 K g3 r hP S=>?_
 ·rw[e];refine O n w dr x B r λt h=>⟨?_,(N t h).2⟩
  obtain⟨⟨t',n,G⟩,P⟩:=N t h;have D:=(C t' n).keep λo e=>kp _ o e;rw[G]at D;have:=(gA (j7 X.prog X.w)).inj D P;have:t=t':=Prod.ext G.symm this.symm;rw[this];exact n
 ·have F:ZQ X d Z H1 { v with heap:=h2,toks:=j,drawn:=dr }:=(m.kept (t':=j) λb o e=>B b o (kp b o e)).dr dr;refine⟨.ref l2,_,F.laid (t':=j) (o:=.lst (g.map λt=>V.ref t.1)) k3 K ?_,rfl,q _ _ (F.hok.fresh K) (λt h=>ht t (hP t h)) r S⟩;have hl:g.length<=16:=by rw[<- qA0 (f:=(·.2)),r.length_eq];exact L
  exact⟨by rw[qA0,vP];omega,_,e,Nk g,by simpa[j4]using g3⟩
end
inductive D where
 |non|bl (b:Bool)| int (i:Int)| str (x:Str)| ty (n:String)| tup (xs:List D)| lst (n:Nat)| dct (n:Nat)| rol (xs:List D)
inductive O where
 |lst (xs:List D)| dk (kvs:List (Zm×D))| dt (kvs:List (List Zm×D))
abbrev ZU:=List O
abbrev ZR:=List (Option D)
def TX(K:yS)(H:Hp)(a:yR)(xs:List V):Prop:=(∃o,H a=Z9 (.frz o (.lst xs))) ∨
  ∃(o:Obj) (b:yJ) (n:Nat),K.lookup a=Z9 o/\o.cls=.type "list"/\o.dict=Z8/\o.data=.seq b n/\b.size<=y8/\ZM xs b.toList
theorem TX.sq{K:yS}(h:TX K H a xs):YT K H a xs:=by
 rcases h with⟨o,h⟩| h
 ·exact .inl (.inr ⟨o,h⟩)
 ·exact .inr h
structure TF(K:yS)(H H':Hp):Prop where
 t:TK K H H'
 f:∀a xs,TX K H a xs->TX K H' a xs
 u:∀a xs,H a=Z9 (.tup xs)->H' a=Z9 (.tup xs)
theorem TF.refl(K:yS)(H:Hp):TF K H H:=⟨TK.refl K H,λ_ _ h=>h,λ_ _ h=>h⟩
theorem TF.trans{K:yS}(a:TF K H d)(b:TF K d H2):TF K H H2:=⟨a.t.trans b.t,λp c h=>b.f p c (a.f p c h),λp c h=>b.u p c (a.u p c h)⟩
theorem Ag{K:yS}(h:∀q o,q≠p->H q=Z9 o->H' q=Z9 o)(a:∀xs,H p≠Z9 (.tup xs))(b:∀x y,H p≠Z9 (.frz x y)):TF K H H':=by
 refine⟨λq c e=>?_,λq c e=>?_,λq c e=>h _ _ (λz=>a _ (z▸e)) e⟩
 ·rcases e with(e|⟨w,e⟩)| e
  ·exact .inl (.inl (h _ _ (λz=>a _ (z▸e)) e))
  ·exact .inl (.inr ⟨w,h _ _ (λz=>b _ _ (z▸e)) e⟩)
  ·exact .inr e
 ·rcases e with⟨w,e⟩| e
  ·exact .inl ⟨w,h _ _ (λz=>b _ _ (z▸e)) e⟩
  ·exact .inr e
theorem Sz{K:yS}(e:H p=Z9 u)(b:∀xs,u≠.tup xs)(c:∀x y,u≠.frz x y):TF K H (ZE H p o) :=
 Ag (p:=p) (λq v a h=>by rw[YX a];exact h) (λxs h=>by rw[e]at h;exact b xs (Option.some.inj h)) (λx y h=>by rw[e]at h;exact c x y (Option.some.inj h))
theorem P4{K:yS}(e:H p=Z9 (.lst xs)):TF K H (ZE H p o):=Sz e (λ_ z=>by cases z) (λ_ _ z=>by cases z)
theorem IW{K:yS}(h:Same H H'):TF K H H':=⟨λp a e=>h.tup e,λq b e=>by
 rcases e with⟨w,e⟩| e
 ·exact .inl ⟨w,h _ _ e⟩
 ·exact .inr e,λ_ _ e=>h _ _ e⟩
mutual
def RV(K:yS)(H:Hp)(J:yC):D->V->Prop
 |.non,v=>v=.non
 |.bl b,v=>v=.bl b
 |.int i,v=>v=.int i
 |.str x,v=>v=.str x
 |.ty n,v=>v=.ty n
 |.tup d,v=>∃p c,v=.ref p/\H p=Z9 (.tup c)/\RVs K H J d c
 |.lst n,v=>∃a,v=.ref a/\J[n]?=Z9 a
 |.dct n,v=>∃a,v=.ref a/\J[n]?=Z9 a
 |.rol d,v=>∃p c,v=.ref p/\TX K H p c/\RVs K H J d c
def RVs(K:yS)(H:Hp)(J:yC):List D->List V->Prop
 |[],vs=>vs=[]
 |d::ds,vs=>∃v a,vs=v::a/\RV K H J d v/\RVs K H J ds a
end
def YK{b:Type}(K:yS)(H:Hp)(J:yC)(kvs:List (b×D))(a:List (b×V)):Prop:=kvs.map (·.1)=a.map (·.1)/\RVs K H J (kvs.map (·.2)) (a.map (·.2))
def OR(K:yS)(H:Hp)(J:yC)(a:yR):O->Prop
 |.lst e=>∃d,H a=Z9 (.lst d)/\RVs K H J e d
 |.dk b=>∃c,H a=Z9 (.dK c)/\YK K H J b c
 |.dt b=>∃c,H a=Z9 (.dT c)/\YK K H J b c
structure SR(K:yS)(J:yC)(S:ZU)(H:Hp):Prop where
 len:J.length=S.length
 nd:J.Nodup
 obj:∀(n:Nat) (a:yR) (o:O),J[n]?=Z9 a->S[n]?=Z9 o->OR K H J a o
structure ZJ(K:yS)(J J':yC)(H H':Hp):Prop where
 pre:∃ν,J'=J++ν/\∀b∈ν,H b=Z8
 fr:∀b o,b∉J->H b=Z9 o->H' b=Z9 o
 tk:TF K H H'
section
variable {K:yS}{H H' H1 H2:Hp}{J J' J1 J2:yC}{S S':ZU}
mutual
theorem RV.up(tk:TF K H H')(pre:∃g,J'=J++g):∀(d:D) (v:V),RV K H J d v->RV K H' J' d v
 |.non,v,h=>by simpa[RV]using h
 |.bl b,v,h=>by simpa[RV]using h
 |.int i,v,h=>by simpa[RV]using h
 |.str x,v,h=>by simpa[RV]using h
 |.ty n,v,h=>by simpa[RV]using h
 |.tup f,v,h=>by unfold RV at h ⊢;obtain⟨p,c,e,q,r⟩:=h;exact⟨p,c,e,tk.u p c q,RVs.up tk pre f c r⟩
 |.lst n,v,h=>by unfold RV at h ⊢;obtain⟨a,e,q⟩:=h;obtain⟨g,rfl⟩:=pre;exact⟨a,e,by rw[qB0 (qA7.mp q).1];exact q⟩
 |.dct n,v,h=>by unfold RV at h ⊢;obtain⟨a,e,q⟩:=h;obtain⟨g,rfl⟩:=pre;exact⟨a,e,by rw[qB0 (qA7.mp q).1];exact q⟩
 |.rol f,v,h=>by unfold RV at h ⊢;obtain⟨p,c,e,q,r⟩:=h;exact⟨p,c,e,tk.f p c q,RVs.up tk pre f c r⟩
theorem RVs.up(tk:TF K H H')(pre:∃b,J'=J++b):∀(ds:List D) (vs:List V),RVs K H J ds vs->RVs K H' J' ds vs
 |[],vs,h=>by simpa[RVs]using h
 |d::ds,vs,h=>by unfold RVs at h ⊢;obtain⟨v,a,e,r,q⟩:=h;exact⟨v,a,e,RV.up tk pre d v r,RVs.up tk pre ds a q⟩
end
theorem RVs.len:∀{ds:List D}{vs:List V},RVs K H J ds vs->ds.length=vs.length
 |[],vs,h=>by unfold RVs at h;subst h;rfl
 |d::ds,vs,h=>by unfold RVs at h;obtain⟨v,a,rfl,_,q⟩:=h;rw[qC7,qC7,RVs.len q]
theorem RVs.nil:RVs K H J [] []:=by unfold RVs;rfl
theorem RVs.cons(h:RV K H J d v)(t:RVs K H J ds a):RVs K H J (d::ds) (v::a):=by unfold RVs;exact⟨v,a,rfl,h,t⟩
theorem RVs.get:∀{ds:List D}{vs:List V}{i:Nat}{d:D},RVs K H J ds vs->ds[i]?=Z9 d->∃v,vs[i]?=Z9 v/\RV K H J d v
 |[],vs,i,d,h,e=>by simp at e
 |x::ds,vs,0,d,h,e=>by unfold RVs at h;obtain⟨v,b,rfl,r,q⟩:=h;simp at e;subst e;exact⟨v,rfl,r⟩
 |x::ds,vs,i+1,d,h,e=>by unfold RVs at h;obtain⟨v,b,rfl,r,q⟩:=h;obtain⟨u,a,c⟩:=RVs.get (i:=i) (d:=d) q (by simpa using e);exact⟨u,by simpa using a,c⟩
theorem RVs.append:∀{ds es:List D}{vs us:List V},RVs K H J ds vs->RVs K H J es us->RVs K H J (ds++es) (vs++us)
 |[],es,vs,us,h,g=>by unfold RVs at h;subst h;exact g
 |d::ds,es,vs,us,h,g=>by unfold RVs at h;obtain⟨v,a,rfl,r,q⟩:=h;exact .cons r (RVs.append q g)
theorem RVs.take:∀{ds:List D}{a:List V} (n:Nat),RVs K H J ds a->RVs K H J (ds.take n) (a.take n)
 |_,_,0,_=>by simp;exact .nil
 |[],a,n+1,h=>by unfold RVs at h;subst h;exact .nil
 |d::ds,a,n+1,h=>by unfold RVs at h;obtain⟨v,b,rfl,r,q⟩:=h;exact .cons r (RVs.take n q)
theorem RVs.drop:∀{ds:List D}{a:List V} (n:Nat),RVs K H J ds a->RVs K H J (ds.drop n) (a.drop n)
 |_,_,0,h=>by simpa using h
 |[],a,n+1,h=>by unfold RVs at h;subst h;exact .nil
 |d::ds,a,n+1,h=>by unfold RVs at h;obtain⟨v,b,rfl,r,q⟩:=h;exact RVs.drop n q
theorem RVs.set(g:RV K H J d v):∀{ds:List D}{vs:List V} (n:Nat),RVs K H J ds vs->RVs K H J (ds.set n d) (vs.set n v)
 |[],vs,n,h=>by unfold RVs at h;subst h;exact .nil
 |x::ds,vs,0,h=>by unfold RVs at h;obtain⟨u,a,rfl,r,q⟩:=h;exact .cons g q
 |x::ds,vs,n+1,h=>by unfold RVs at h;obtain⟨u,a,rfl,r,q⟩:=h;exact .cons r (RVs.set g n q)
theorem RVs.ints{ns:yA}:RVs K H J (ns.map D.int) (ns.map V.int):=by
 induction ns with
 |nil=>exact .nil
 |cons a r b=>exact .cons (by unfold RV;rfl) b
theorem YK.up(tk:TF K H H')(pre:∃b,J'=J++b){ws:List (a×V)}(h:YK K H J kvs ws):YK K H' J' kvs ws:=⟨h.1,RVs.up tk pre _ _ h.2⟩
theorem SR.isS(f:SR K J S H)(h:a∈J):∃o,H a=Z9 o:=by
 obtain⟨n,d⟩:=qK2 h;have g:n<S.length:=by rw[<- f.len];exact(qA7.mp d).1
 have q:=f.obj n a S[n] d (qA4 g);revert q;generalize S[n]=o;intro q;cases o with
 |lst i=>obtain⟨c,e,_⟩:=q;exact⟨_,e⟩
 |dk b=>obtain⟨c,e,_⟩:=q;exact⟨_,e⟩
 |dt b=>obtain⟨c,e,_⟩:=q;exact⟨_,e⟩
theorem SR.out(b:SR K J S H)(h:H a=Z8):a∉J:=λm=>by obtain⟨o,e⟩:=b.isS m;rw[h]at e;cases e
theorem ZJ.refl(K:yS)(J:yC)(H:Hp):ZJ K J J H H:=⟨⟨[],by simp,by simp⟩,λ_ _ _ h=>h,TF.refl K H⟩
theorem ZJ.mem(st:ZJ K J J' H H')(h:a∈J):a∈J':=by obtain⟨b,rfl,_⟩:=st.pre;exact qE9 _ h
theorem ZJ.ext(st:ZJ K J J' H H'):∃ν,J'=J++ν:=let ⟨ν,e,_⟩:=st.pre;⟨ν,e⟩
theorem ZJ.trans(a:ZJ K J J1 H H1)(b:ZJ K J1 J2 H1 H2)(nd:J2.Nodup):ZJ K J J2 H H2:=by
 obtain⟨m,e,l⟩:=a.pre;obtain⟨d,k,n⟩:=b.pre;have nd':(J++m++d).Nodup:=by rw[<- e,<- k];exact nd
 refine⟨⟨m++d,by rw[k,e,qC6],λc f=>?_⟩,λc o f h=>?_,a.tk.trans b.tk⟩
 ·rcases qB7.mp f with h|h
  ·exact l c h
  ·have j:=n c h;cases q:H c with
   |none=>rfl
   |some o =>
    have:c∉J:=λg=>by have:=(qL9.mp nd').2.2 c (qE9 _ g) c h;exact this rfl
    rw[a.fr c o this q]at j;cases j
 ·refine b.fr c o (λg=>?_) (a.fr c o f h);rw[e]at g;rcases qB7.mp g with i|i
  ·exact f i
  ·rw[l c i]at h;cases h
theorem OR.up(tk:TF K H H')(pre:∃f,J'=J++f)(e:H' a=H a):∀{o:O},OR K H J a o->OR K H' J' a o
 |.lst g,⟨d,h,r⟩=>⟨d,by rw[e];exact h,RVs.up tk pre _ _ r⟩
 |.dk b,⟨c,h,r⟩=>⟨c,by rw[e];exact h,r.up tk pre⟩
 |.dt b,⟨c,h,r⟩=>⟨c,by rw[e];exact h,r.up tk pre⟩
theorem Rh(h:H p=Z8):TF K H (ZE H p o):=IW (ND h o)
theorem SR.other(c:SR K J S H)(h:H p=Z8):SR K J S (ZE H p o)/\ZJ K J J H (ZE H p o):=by
 have f:=c.out h;refine⟨⟨c.len,c.nd,λn a g d i=>?_⟩,⟨⟨[],by simp,by simp⟩,λb u k e=>?_,Rh h⟩⟩
 ·have j:a∈J:=qC0 d;have ne:a≠p:=λz=>f (z▸j);exact(c.obj n a g d i).up (Rh h) ⟨[],by simp⟩ (YX ne)
 ·rw[YX (Vr e h)];exact e
theorem SR.push(d:SR K J S H)(h:H p=Z8)(q:OR K (ZE H p o) (J++[p]) p o'):SR K (J++[p]) (S++[o']) (ZE H p o)/\ZJ K J (J++[p]) H (ZE H p o):=by
 have j:=d.out h;refine⟨⟨by simp[d.len],?_,λn a u c f=>?_⟩,⟨⟨[p],rfl,λb g=>?_⟩,λb u g e=>?_,Rh h⟩⟩
 ·rw[qL9];refine⟨d.nd,by simp,λa l b g=>?_⟩;simp at g;subst g;exact λz=>j (z▸l)
 ·by_cases k:n<J.length
  ·rw[qB0 k]at c;rw[qB0 (by rw[<- d.len];exact k)]at f;have m:a∈J:=qC0 c;have ne:a≠p:=λz=>j (z▸m);exact(d.obj n a u c f).up (Rh h) ⟨[p],rfl⟩ (YX ne)
  ·rw[qA3 (by omega)]at c;rw[qA3 (by rw[<- d.len];omega)]at f;have i:n - J.length=0:=by have:=(qA7.mp c).1;simp at this;omega
   rw[i]at c;rw[<- d.len,i]at f;simp at c f;subst c f;exact q
 ·simp at g;subst g;exact h
 ·rw[YX (Vr e h)];exact e
theorem SR.put(c:SR K J S H)(h:J[n]?=Z9 p)(t:H p=Z9 u)(k:∀xs,u≠.tup xs)(r:∀x y,u≠.frz x y)(q:OR K (ZE H p o) J p o'):SR K J (S.set n o') (ZE H p o)/\ZJ K J J H (ZE H p o):=by
 have j:TF K H (ZE H p o):=Sz t k r;have f:p∈J:=qC0 h;refine⟨⟨by simp[c.len],c.nd,λm a w d g=>?_⟩,⟨⟨[],by simp,by simp⟩,λb w s e=>?_,j⟩⟩
 ·by_cases i:m=n
  ·subst i;rw[h]at d;cases d;have l:m<S.length:=by rw[<- c.len];exact(qA7.mp h).1
   rw[qF0 l]at g;cases g;exact q
  ·rw[qD7 (λz=>i z.symm)]at g;have ne:a≠p:=λz=>by subst z;exact i ((List.getElem?_inj (qA7.mp d).1 c.nd).mp (d.trans h.symm))
   exact(c.obj m a w d g).up j ⟨[],by simp⟩ (YX ne)
 ·have ne:b≠p:=λz=>s (z▸f);rw[YX ne];exact e
end
inductive R(α:Type) where
 |bad|ok (a:α) (S:ZU)| er (c:Str) (S:ZU)
noncomputable abbrev M(a:Type):=ZU->R a
noncomputable def Za{d β:Type}(m:M d)(f:d->M β):M β:=λS=>match m S with
 |.bad=>.bad
 |.er c b=>.er c b
 |.ok a b=>f a b
noncomputable def ret{α:Type}(a:α):M α:=λS=>.ok a S
noncomputable def bad{α:Type}:M α:=λ_=>.bad
inductive Af{α β:Type}(m:M α)(f:α->M β)(S:ZU)(b:β)(S2:ZU):Prop
 |mk (a:α) (S1:ZU) (e:m S=.ok a S1) (g:f a S1=.ok b S2)
theorem Y9{f:d->M i}(h:Za m f S=.ok b S2):Af m f S b S2:=by
 unfold Za at h;cases e:m S with
 |bad=>rw[e]at h;cases h
 |er c g=>rw[e]at h;cases h
 |ok a g=>rw[e]at h;exact⟨a,g,e,h⟩
theorem Ys{a b:d}(h:ret a S=.ok b c):b=a/\c=S:=by unfold ret at h;cases h;exact⟨rfl,rfl⟩
abbrev C:=ZR->M D
abbrev CT:=ZR->M Bool
abbrev CA:=ZR->M (List D)
def RE(K:yS)(H:Hp)(J:yC)(B:ZR)(Z:St):Prop:=B.length=Z.length/\∀(i:Nat) (d:D),B[i]?=Z9 (Z9 d)->∃v,Z[i]?=Z9 (Z9 v)/\RV K H J d v
section
variable {K:yS}{H H':Hp}{J J':yC}{B:ZR}{Z:St}
theorem RE.up(h:RE K H J B Z)(st:ZJ K J J' H H'):RE K H' J' B Z:=⟨h.1,λi d e=>let ⟨v,q,r⟩:=h.2 i d e;⟨v,q,RV.up st.tk st.ext d v r⟩⟩
theorem RE.set(h:RE K H J B Z)(r:RV K H J d v)(i:Nat):RE K H J (B.set i (Z9 d)) (Z.set i (Z9 v)):=by
 refine⟨by simp[h.1],λj c e=>?_⟩;by_cases a:i=j
 ·subst a;have b:i<B.length:=by have:=(qA7.mp e).1;simpa using this
  rw[qF0 b]at e;cases e;exact⟨v,by rw[qF0 (by rw[<- h.1];exact b)],r⟩
 ·rw[qD7 a]at e ⊢;exact h.2 j c e
end
def XS(K:yS)(J:yC)(H:Hp)(d:D)(c:ZU)(Q:VK):Prop:=∀v a b,SR K b c a->ZJ K J b H a->RV K a b d v->Q v a
def M7(K:yS)(J:yC)(H:Hp)(ds:List D)(d:ZU)(Q:List V->Hp->Prop):Prop:=∀c a b,SR K b d a->ZJ K J b H a->RVs K a b ds c->Q c a
def UX(K:yS)(J:yC)(H:Hp)(b:Bool)(d:ZU)(Q:Bool->Hp->Prop):Prop:=∀a c,SR K c d a->ZJ K J c H a->Q b a
inductive ZA(K:yS)(c:C)(Z:St)(H:Hp)(Q:VK):Prop
 |mk (J:yC) (B:ZR) (S:ZU) (d:D) (S':ZU) (sr:SR K J S H) (re:RE K H J B Z) (e:c B S=.ok d S') (y:XS K J H d S' Q)
inductive YS(K:yS)(c:CA)(Z:St)(H:Hp)(Q:List V->Hp->Prop):Prop
 |mk (J:yC) (B:ZR) (S:ZU) (d:List D) (S':ZU) (sr:SR K J S H) (re:RE K H J B Z) (e:c B S=.ok d S') (y:M7 K J H d S' Q)
inductive YZ(K:yS)(c:CT)(Z:St)(H:Hp)(Q:Bool->Hp->Prop):Prop
 |mk (J:yC) (B:ZR) (S:ZU) (d:Bool) (S':ZU) (sr:SR K J S H) (re:RE K H J B Z) (e:c B S=.ok d S') (y:UX K J H d S' Q)
theorem XS.self{K:yS}(h:XS K J H d S Q)(a:SR K J S H)(r:RV K H J d v):Q v H:=h v H J a (ZJ.refl K J H) r
theorem XS.shift{K:yS}(h:XS K J H d S Q)(st:ZJ K J a H c):XS K a c d S Q:=λv e f b g r=>h v e f b (st.trans g b.nd) r
theorem UX.shift{K:yS}(h:UX K J H d S Q)(st:ZJ K J a H c):UX K a c d S Q:=λe f b g=>h e f b (st.trans g b.nd)
theorem PE.weak(h:PE X e t)(w:∀Z H Q,t' Z H Q->t Z H Q):PE X e t':=λa s Z H Q I q=>h a s Z H Q I (w Z H Q q)
theorem PT.weak(h:PT X e t)(w:∀Z H Q,t' Z H Q->t Z H Q):PT X e t':=λa s Z H Q I q=>h a s Z H Q I (w Z H Q q)
theorem PW.weak(h:PW X e t)(w:∀Z H Q,t' Z H Q->t Z H Q):PW X e t':=λb a s Z H Q I q=>h b a s Z H Q I (w Z H Q q)
theorem PA.weak(h:PA X e t)(w:∀Z H Q,t' Z H Q->t Z H Q):PA X e t':=λb a s Z H Q I q=>h b a s Z H Q I (w Z H Q q)
theorem PS.weak(h:PS X e t)(w:∀D Z H,t' D Z H->t D Z H):PS X e t':=λa s Z H D I q=>h a s Z H D I (w D Z H q)
theorem XW.weak(h:XW X e t)(w:∀D Z H,t' D Z H->t D Z H):XW X e t':=λa s Z H D I q=>h a s Z H D I (w D Z H q)
def Zs(X:Cx)(f:yT->yT->Sem yT):R2:=λv u H Q=>∃r,Y6 X f r/\r v u H Q
theorem TV:Y6 X f (Zs X f):=λa s Z H x y v u Q I c b ⟨r,d,q⟩=>d a s Z H x y v u Q I c b q
def TU(X:Cx)(f:yT->Sem yT):V->Hp->VK->Prop:=λv H Q=>∃r,RH X f r/\r v H Q
theorem Ae:RH X f (TU X f):=λa s Z H x v Q I b ⟨r,c,q⟩=>c a s Z H x v Q I b q
def Yo(X:Cx)(f:yT):List V->Hp->VK->Prop:=λa H Q=>∃r,XU X f r/\r a H Q
theorem callAny:XU X f (Yo X f):=λa s Z H x v Q I b ⟨r,c,q⟩=>c a s Z H x v Q I b q
def M6(X:Cx):R2:=λv u H Q=>∃r,SG X r/\r v u H Q
theorem Ad:SG X (M6 X):=λg d a s Z H x y v u Q I c b ⟨r,f,q⟩ e=>f g d a s Z H x y v u Q I c b q e
def M5(X:Cx):V->yG->yG->Hp->VK->Prop:=λv b a H Q=>∃r,SH X r/\r v b a H Q
theorem Ac:SH X (M5 X):=λd s Z H x v j h e k g Q I f a b c ⟨r,i,q⟩=>i d s Z H x v j h e k g Q I f a b c q
def TR(X:Cx)(id:String):V->List V->Hp->VK->Prop:=λv a H Q=>∃r,NY X id r/\r v a H Q
theorem Ab{id:String}:NY X id (TR X id):=λa s Z H x d v e Q I b rs ⟨r,c,q⟩=>c a s Z H x d v e Q I b rs q
noncomputable def IV(X:Cx):U8:=λo i v H Q=>∃r,Wk X r/\r o i v H Q
theorem Aa:Wk X (IV X):=λa s Z H o i v d f u Q I g c b ⟨r,e,q⟩=>e a s Z H o i v d f u Q I g c b q
noncomputable def ZY(i:Nat):C:=fun B S=>match B[i]? with
 |some (Z9 d)=>.ok d S
 |_=>.bad
noncomputable def ZX(d:D):C:=λ_ S=>.ok d S
noncomputable def ZW(o:D->D->M D)(a b:C):C:=fun B=>Za (a B) λx=>Za (b B) λy=>o x y
noncomputable def M4(o:D->M D)(a:C):C:=fun B=>Za (a B) o
noncomputable def ZS:List C->CA
 |[]=>λ_=>ret []
 |c::b=>fun B=>Za (c B) λx=>Za (ZS b B) λa=>ret (x::a)
noncomputable def ZT(o:List D->M D)(a:CA):C:=fun B=>Za (a B) o
noncomputable def ZC(a:CA):C:=ZT (λb=>ret (.tup b)) a
noncomputable def Zr(a:CA):C:=ZT (λb S=>.ok (.lst S.length) (S++[.lst b])) a
noncomputable def Rg(t:CT)(a b:C):C:=fun B=>Za (t B) λk=>if k then a B else b B
noncomputable def Zt(a:C):CT:=fun B=>Za (a B) λx=>match x with
 |.bl b=>ret b
 |_=>bad
noncomputable def UW(a b:C):C:=fun B=>Za (Zt a B) λk=>if k then b B else ret (.bl Z5)
noncomputable def UV(a b:C):C:=fun B=>Za (Zt a B) λk=>if k then ret (.bl Z7)else b B
noncomputable def P3(a:C):C:=fun B=>Za (Zt a B) λk=>ret (.bl (!k))
noncomputable def VE(a b:CT):CT:=fun B=>Za (a B) λk=>if k then b B else ret Z5
noncomputable def Yu(a b:CT):CT:=fun B=>Za (a B) λk=>if k then ret Z7 else b B
noncomputable def Wt(a:CT):CT:=fun B=>Za (a B) λk=>ret (!k)
noncomputable def dB(x:D):M Bool:=match x with
 |.bl b=>ret b
 |_=>bad
noncomputable def Ux(o o':D->D->M D)(a b c:C):C:=fun B=>Za (a B) λx=>Za (b B) λy=>Za (o x y) λz=>Za (dB z) λk=>if k then Za (c B) λw=>o' y w else ret (.bl Z5)
section
variable {X:Cx}{a b c d:y4}{ca cb cc cd:C}{pos:Pos}
theorem z0(h:PE X (.Name x pos) (Ub i)):PE X (.Name x pos) (ZA X.K (ZY i)):=h.weak fun Z H Q ⟨J,B,S,d,l,g,f,e,y⟩=>by
 unfold ZY at e;split at e
 ·rename_i k j;cases e;obtain⟨v,q,r⟩:=f.2 i _ j;exact⟨v,q,y.self g r⟩
 ·cases e
theorem Rf{d:D}(h:PE X e (tC v))(f:∀K H J,RV K H J d v):PE X e (ZA X.K (ZX d)):=h.weak fun Z H Q ⟨J,B,S,k,i,g,j,e,y⟩=>by unfold ZX at e;cases e;exact y.self g (f _ _ _)
def YP(K:yS)(r:R2)(o:D->D->M D):Prop:=∀x y S d e H J v u Q,o x y S=.ok d e->SR K J S H->RV K H J x v->RV K H J y u->XS K J H d e Q->r v u H Q
theorem P0(q:YP X.K r o):∀Z H Q,ZA X.K (ZW o ca cb) Z H Q->RG r (ZA X.K ca) (ZA X.K cb) Z H Q:=by rintro Z H Q ⟨J,B,S,d,F,p,k,e,y⟩;obtain⟨x,l,E,e⟩:=Y9 e;obtain⟨z,j,s,e⟩:=Y9 e;refine⟨J,B,S,x,l,p,k,E,λv G t i h A=>⟨t,B,l,z,j,i,k.up h,s,λu w m g f n=>?_⟩⟩;exact q x z j d F w m v u Q e g (RV.up f.tk f.ext _ _ A) n (y.shift (h.trans f g.nd))
theorem zZ(g:YP X.K (Zs X (jM op)) o)(e:PE X a (ZA X.K ca))(f:PE X b (ZA X.K cb)):PE X (.BinOp a op b pos) (ZA X.K (ZW o ca cb)):=(ED TV e f).weak (P0 g)
theorem zY(g:YP X.K (Zs X (y7 op)) o)(e:PE X a (ZA X.K ca))(f:PE X b (ZA X.K cb))(h:fA op b=Z5):PE X (.Compare a [op] [b] pos) (ZA X.K (ZW o ca cb)):=(Ea TV e f h).weak (P0 g)
theorem IU{c:C}(h:∀Z H Q,ZA X.K c Z H Q->t Z H Q):∀Z H Q,YZ X.K (Zt c) Z H Q->N9 t Z H Q:=by
 rintro Z H Q ⟨J,B,S,d,q,m,j,e,y⟩;obtain⟨x,l,p,e⟩:=Y9 e;refine h Z H _ ⟨J,B,S,x,l,m,j,p,λv n o f g i=>?_⟩;cases x with
 |bl k =>
  obtain⟨rfl,rfl⟩:=Ys e;unfold RV at i;exact⟨_,i,y n o f g⟩
 |_=>cases e
theorem zX(g:YP X.K (Zs X (y7 op)) o)(e:PE X a (ZA X.K ca))(f:PE X b (ZA X.K cb))(h:fA op b=Z5):PT X (.Compare a [op] [b] pos) (YZ X.K (Zt (ZW o ca cb))):=(D9 TV e f h).weak (IU (P0 g))
theorem IT(ho:YP X.K r o)(E:YP X.K P o'):∀Z H Q,ZA X.K (Ux o o' ca cb cc) Z H Q->N8 r P (ZA X.K ca) (ZA X.K cb) (ZA X.K cc) Z H Q:=by
 rintro Z H Q ⟨J,B,S,d,S',sr,A,e,y⟩;obtain⟨x,O,e1,R⟩:=Y9 e;obtain⟨z,L,e2,f2⟩:=Y9 R;obtain⟨t,U,e3,V⟩:=Y9 f2;obtain⟨k,S4,I,q⟩:=Y9 V;refine⟨J,B,S,x,O,sr,A,e1,λv H1 J1 s p r1=>⟨J1,B,O,z,L,s,A.up p,e2,λu H2 Y m h N=>?_⟩⟩;have n:=p.trans h m.nd;refine ho x z L t U H2 Y v u _ e3 m (RV.up h.tk h.ext _ _ r1) N λv3 W F i j G=>?_;have f:=n.trans j i.nd;cases t with
 |bl k' =>
  obtain⟨rfl,rfl⟩:=Ys I;unfold RV at G;refine⟨_,G,?_⟩;cases k with
  |true =>
   rw[if_pos rfl]at q ⊢;obtain⟨w,K,e5,f5⟩:=Y9 q;refine⟨F,B,_,w,K,i,A.up f,e5,λT H5 J5 l g r5=>?_⟩;exact E z w K d S' H5 J5 u T Q f5 l (RV.up g.tk g.ext _ _ (RV.up j.tk j.ext _ _ N)) r5 (y.shift (f.trans g l.nd))
  |false =>
   rw[if_neg qB1]at q ⊢;obtain⟨rfl,rfl⟩:=Ys q;exact y _ W F i f (by unfold RV;rfl)
 |_=>cases I
theorem zW(i:YP X.K (Zs X (y7 op)) o)(f:YP X.K (Zs X (y7 e)) o')(g:PE X a (ZA X.K ca))(h:PE X b (ZA X.K cb))(j:PE X c (ZA X.K cc))(k:lY [op,e] [b,c]=Z5):
  PE X (.Compare a [op,e] [b,c] pos) (ZA X.K (Ux o o' ca cb cc)):=(D8 TV TV g h j k).weak (IT i f)
theorem zV(i:YP X.K (Zs X (y7 op)) o)(f:YP X.K (Zs X (y7 e)) o')(g:PE X a (ZA X.K ca))(h:PE X b (ZA X.K cb))(j:PE X c (ZA X.K cc))(k:lY [op,e] [b,c]=Z5):
  PT X (.Compare a [op,e] [b,c] pos) (YZ X.K (Zt (Ux o o' ca cb cc))):=(D7 TV TV g h j k).weak (IU (IT i f))
def IS(K:yS)(r:V->Hp->VK->Prop)(o:D->M D):Prop:=∀x S d e H J v Q,o x S=.ok d e->SR K J S H->RV K H J x v->XS K J H d e Q->r v H Q
theorem zU(m:IS X.K (TU X (unaryOp op)) o)(i:PE X a (ZA X.K ca)):PE X (.UnaryOp op a pos) (ZA X.K (M4 o ca)):=(EC Ae i).weak (by
 rintro Z H Q ⟨J,B,S,d,r,k,j,e,y⟩;obtain⟨x,h,q,e⟩:=Y9 e;exact⟨J,B,S,x,h,k,j,q,λv l n f g p=>m x h d r l n v Q e f p (y.shift g)⟩)
theorem M3(p:SR X.K J S H)(n:RE X.K H J B Z)(e:Zt ca B S=.ok k m)(h:∀f g,SR X.K g m f->ZJ X.K J g H f->Q (.bl k) f):ZA X.K ca Z H Q:=by
 obtain⟨x,o,q,e⟩:=Y9 e;refine⟨J,B,S,x,o,p,n,q,λv f g i j l=>?_⟩;cases x with
 |bl r =>
  obtain⟨rfl,rfl⟩:=Ys e;unfold RV at l;subst l;exact h f g i j
 |_=>cases e
theorem zT{ZD:yE}(j:PE X a (ZA X.K ca))(o:PE X (.BoolOp .And (b::ZD) pos) (ZA X.K cb)):PE X (.BoolOp .And (a::b::ZD) pos) (ZA X.K (UW ca cb)):=(Fe j o).weak (by
 rintro Z H Q ⟨J,B,S,d,q,m,h,e,y⟩;obtain⟨k,l,p,e⟩:=Y9 e;refine M3 m h p λn i g f=>⟨k,rfl,?_⟩
 cases k with
 |true=>rw[if_pos rfl]at e ⊢;exact⟨i,B,l,d,q,g,h.up f,e,y.shift f⟩
 | false=>rw[if_neg qB1]at e ⊢;obtain⟨rfl,rfl⟩:=Ys e;exact y _ n i g f (by unfold RV;rfl))
theorem zS{ZD:yE}(j:PE X a (ZA X.K ca))(o:PE X (.BoolOp .Or (b::ZD) pos) (ZA X.K cb)):PE X (.BoolOp .Or (a::b::ZD) pos) (ZA X.K (UV ca cb)):=(Fd j o).weak (by
 rintro Z H Q ⟨J,B,S,d,q,m,h,e,y⟩;obtain⟨k,l,p,e⟩:=Y9 e;refine M3 m h p λn i g f=>⟨k,rfl,?_⟩
 cases k with
 |false=>rw[if_neg qB1]at e ⊢;exact⟨i,B,l,d,q,g,h.up f,e,y.shift f⟩
 | true=>rw[if_pos rfl]at e ⊢;obtain⟨rfl,rfl⟩:=Ys e;exact y _ n i g f (by unfold RV;rfl))
theorem zR(h:PE X a (ZA X.K ca)):PE X (.UnaryOp .Not a pos) (ZA X.K (P3 ca)):=(Fc h).weak (by
 rintro Z H Q ⟨J,B,S,d,p,i,l,e,y⟩;obtain⟨k,o,j,e⟩:=Y9 e;obtain⟨rfl,rfl⟩:=Ys e;exact M3 i l j λn m g f=>⟨k,rfl,y _ n m g f (by unfold RV;rfl)⟩)
theorem zQ(ht:PT X t (YZ X.K j))(n:PE X a (ZA X.K ca))(p:PE X b (ZA X.K cb)):PE X (.IfExp t a b pos) (ZA X.K (Rg j ca cb)):=(E9 ht n p).weak (by
 rintro Z H Q ⟨J,B,S,d,m,o,h,e,y⟩;obtain⟨k,i,q,e⟩:=Y9 e;refine⟨J,B,S,k,i,o,h,q,λr l g f=>?_⟩;cases k with
 |true=>rw[if_pos rfl]at e ⊢;exact⟨l,B,i,d,m,g,h.up f,e,y.shift f⟩
 | false=>rw[if_neg qB1]at e ⊢;exact⟨l,B,i,d,m,g,h.up f,e,y.shift f⟩)
variable {ta tb:CT}
theorem zP{ZD:yE}(l:PT X a (YZ X.K ta))(o:PW X (.BoolOp .And (b::ZD) pos) (YZ X.K tb)):PW X (.BoolOp .And (a::b::ZD) pos) (YZ X.K (VE ta tb)):=(Fk l o).weak (by
 rintro Z H Q ⟨J,B,S,d,q,m,h,e,y⟩;obtain⟨k,i,p,e⟩:=Y9 e;refine⟨J,B,S,k,i,m,h,p,λn j g f=>?_⟩;cases k with
 |true=>rw[if_pos rfl]at e ⊢;exact⟨j,B,i,d,q,g,h.up f,e,y.shift f⟩
 | false=>rw[if_neg qB1]at e ⊢;obtain⟨rfl,rfl⟩:=Ys e;exact y n j g f)
theorem zO{ZD:yE}(l:PT X a (YZ X.K ta))(o:PW X (.BoolOp .Or (b::ZD) pos) (YZ X.K tb)):PW X (.BoolOp .Or (a::b::ZD) pos) (YZ X.K (Yu ta tb)):=(Fj l o).weak (by
 rintro Z H Q ⟨J,B,S,d,q,m,h,e,y⟩;obtain⟨k,i,p,e⟩:=Y9 e;refine⟨J,B,S,k,i,m,h,p,λn j g f=>?_⟩;cases k with
 |false=>rw[if_neg qB1]at e ⊢;exact⟨j,B,i,d,q,g,h.up f,e,y.shift f⟩
 | true=>rw[if_pos rfl]at e ⊢;obtain⟨rfl,rfl⟩:=Ys e;exact y n j g f)
theorem zN(h:PT X a (YZ X.K ta)):PT X (.UnaryOp .Not a pos) (YZ X.K (Wt ta)):=(Fi h).weak (by
 rintro Z H Q ⟨J,B,S,d,p,i,l,e,y⟩;obtain⟨k,o,j,e⟩:=Y9 e;obtain⟨rfl,rfl⟩:=Ys e;exact⟨J,B,S,k,_,i,l,j,λn m g f=>y n m g f⟩)
noncomputable def WJ(x:D):M Bool:=λS=>match x with
 |.non=>.ok Z5 S
 |.bl b=>.ok b S
 |.int i=>.ok (i != 0) S
 |.str y=>if y.length<=y8 then .ok ((y.length:Int) != 0) S else .bad
 |.tup e=>.ok (!e.isEmpty) S
 |.lst n=>match S[n]? with
  |some (.lst e)=>.ok (!e.isEmpty) S
  |_=>.bad
 |.dct n=>match S[n]? with
  |some (.dk f)=>.ok (!f.isEmpty) S
  |_=>.bad
 |.ty _=>.bad
 |.rol e=>.ok (!e.isEmpty) S
noncomputable def YN(a:C):CT:=fun B=>Za (a B) WJ
theorem PZ{K:yS}(h:RVs K H J ds e):ds.isEmpty=e.isEmpty:=by
 cases ds with
 |nil=>unfold RVs at h;subst h;rfl
 |cons d ds=>unfold RVs at h;obtain⟨v,f,rfl,_⟩:=h;rfl
theorem SR.get{K:yS}(f:SR K J S H){n:Nat}{a:yR}(h:J[n]?=Z9 a)(e:S[n]?=Z9 o):OR K H J a o:=f.obj n a o h e
theorem zM{K:yS}(e:WJ x S=.ok k s)(m:SR K J S H)(r:RV K H J x v):s=S/\T8 K v H k:=by
 unfold WJ at e;cases x with
 |non=>cases e;unfold RV at r;subst r;exact⟨rfl,rfl⟩
 |bl b=>cases e;unfold RV at r;subst r;exact⟨rfl,rfl⟩
 |int i=>cases e;unfold RV at r;subst r;exact⟨rfl,rfl⟩
 |str y =>
  unfold RV at r;subst r;dsimp only at e;split at e
  ·rename_i u;cases e;exact⟨rfl,u,rfl⟩
  ·cases e
 |tup o =>
  cases e;unfold RV at r;obtain⟨p,g,rfl,q,f⟩:=r;exact⟨rfl,.inr (.inl ⟨g,Zp.of q,by rw[PZ f]⟩)⟩
 |lst n =>
  unfold RV at r;obtain⟨a,rfl,h⟩:=r;dsimp only at e;split at e
  ·rename_i o j;cases e;obtain⟨g,l,f⟩:=m.get h j;exact⟨rfl,.inl ⟨g,YT.of l,by rw[PZ f]⟩⟩
  ·cases e
 |dct n =>
  unfold RV at r;obtain⟨a,rfl,h⟩:=r;dsimp only at e;split at e
  ·rename_i t j;cases e;obtain⟨w,l,f⟩:=m.get h j;refine⟨rfl,.inr (.inr ⟨w,l,?_⟩)⟩;have:=PZ f.2;rw[qS3,qS3]at this;rw[this]
  ·cases e
 |ty _=>cases e
 |rol o =>
  cases e;unfold RV at r;obtain⟨p,g,rfl,q,f⟩:=r;exact⟨rfl,.inl ⟨g,q.sq,by rw[PZ f]⟩⟩
theorem zL(j:PE X a (ZA X.K ca))(he:∀f,dJ a X.env f=(do let v <- f;mT a.pos;wI [v] (truthy v))):PT X a (YZ X.K (YN ca)):=(D4 j he).weak (by
 rintro Z H Q ⟨J,B,S,d,r,m,k,e,y⟩;obtain⟨x,l,q,e⟩:=Y9 e;refine⟨J,B,S,x,l,m,k,q,λv n o g h p=>?_⟩;obtain⟨rfl,i⟩:=zM e g p;exact⟨d,i,y n o g h⟩)
variable {es:yE}{cs:List C}
theorem PY:PA X [] (YS X.K (ZS [])):=Kt.weak (by
 rintro Z H Q ⟨J,B,S,d,g,f,h,e,y⟩;obtain⟨rfl,rfl⟩:=Ys e;exact y [] H J f (ZJ.refl _ _ _) RVs.nil)
theorem Sy(m:PE X a (ZA X.K ca))(r:PA X es (YS X.K (ZS cs)))(hs:jE (a::es) X.env=(Z5,vL a X.env)::jE es X.env):PA X (a::es) (YS X.K (ZS (ca::cs))):=(Ks m r hs).weak (by
 rintro Z H Q ⟨J,B,S,d,A,p,j,e,y⟩;obtain⟨x,k,z,e⟩:=Y9 e;obtain⟨q,D,s,e⟩:=Y9 e;obtain⟨rfl,rfl⟩:=Ys e;exact⟨J,B,S,x,k,p,j,z,λv E t i h w=>⟨t,B,k,q,A,i,j.up h,s,λl u n g f o=>y (v::l) u n g (h.trans f g.nd) (.cons (RV.up f.tk f.ext _ _ w) o)⟩⟩)
theorem M2:∀{cs:List C}{S S':ZU}{xs:List D},ZS cs B S=.ok xs S'->xs.length=cs.length
 |[],S,S',xs,e=>by obtain⟨rfl,rfl⟩:=Ys e;rfl
 |c::cs,S,S',xs,e=>by obtain⟨x,i,h,e⟩:=Y9 e;obtain⟨j,g,f,e⟩:=Y9 e;obtain⟨rfl,rfl⟩:=Ys e;rw[qC7,qC7,M2 f]
theorem PX{K:yS}(i:SR K J S H)(h:H p=Z8)(r:RVs K H J ds e):SR K J S (ZE H p (.tup e))/\ZJ K J J H (ZE H p (.tup e))/\RV K (ZE H p (.tup e)) J (.tup ds) (.ref p):=by obtain⟨g,f⟩:=i.other (o:=.tup e) h;exact⟨g,f,by unfold RV;exact⟨p,e,rfl,Xg,RVs.up f.tk f.ext _ _ r⟩⟩
theorem zK{K:yS}(f:SR K J S H)(h:H p=Z8)(r:RVs K H J ds e):SR K (J++[p]) (S++[.lst ds]) (ZE H p (.lst e))/\ZJ K J (J++[p]) H (ZE H p (.lst e))/\RV K (ZE H p (.lst e)) (J++[p]) (.lst S.length) (.ref p):=by obtain⟨g,i⟩:=f.push (o:=.lst e) (o':=.lst ds) h ⟨e,Xg,RVs.up (Rh h) ⟨[p],rfl⟩ _ _ r⟩;exact⟨g,i,by unfold RV;exact⟨p,rfl,by rw[<- f.len,qA3 (qA6 _),qI2];rfl⟩⟩
theorem XS.newL{K:yS}(y:XS K J H (.lst S.length) (S++[.lst ds]) Q)(i:SR K J S H)(h:H p=Z8)(r:RVs K H J ds e):Q (.ref p) (ZE H p (.lst e)):=by obtain⟨f,g,j⟩:=zK i h r;exact y _ _ _ f g j
theorem XS.newT{K:yS}(y:XS K J H (.tup ds) S Q)(i:SR K J S H)(h:H p=Z8)(r:RVs K H J ds e):Q (.ref p) (ZE H p (.tup e)):=by obtain⟨f,g,j⟩:=PX i h r;exact y _ _ _ f g j
theorem zJ{q}(h:PA X es (YS X.K (ZS cs)))(v:cs.length<=1000):PE X (.Tuple es q pos) (ZA X.K (ZC (ZS cs))):=(DY h).weak (by
 rintro Z H Q ⟨J,B,S,d,o,l,k,e,y⟩;obtain⟨m,u,j,e⟩:=Y9 e;obtain⟨rfl,rfl⟩:=Ys e;refine⟨J,B,S,m,o,l,k,j,λr w x f g i=>⟨?_,λp n=>(y.shift g).newT f n i⟩⟩;have s:=M2 j;have t:=i.len;exact qI1 (Kb (by omega)))
theorem zI(h:PA X es (YS X.K (ZS cs)))(t:cs.length<=1000):PE X (.List es pos) (ZA X.K (Zr (ZS cs))):=(DX h).weak (by
 rintro Z H Q ⟨J,B,S,d,w,m,k,e,y⟩;obtain⟨n,l,j,e⟩:=Y9 e;cases e;refine⟨J,B,S,n,l,m,k,j,λq u v f g i=>⟨?_,λp o=>(y.shift g).newL f o i⟩⟩;have r:=M2 j;have s:=i.len;exact qI1 (Kb (by omega)))
theorem zH(g:YP X.K (M6 X) o)(e:PE X a (ZA X.K ca))(f:PE X b (ZA X.K cb))(hs:NZ b):PE X (.Subscript a b pos) (ZA X.K (ZW o ca cb)):=(Dy Ad e f hs).weak (P0 g)
noncomputable def CO:=ZR->M (yG)
noncomputable def Yc:CO:=λ_=>ret Z8
noncomputable def TQ(x:D):M Int:=match x with
 |.int i=>ret i
 |_=>bad
noncomputable def Yn(a:C):CO:=fun B=>Za (a B) λx=>Za (TQ x) λi=>ret (Z9 i)
def M1(K:yS)(J:yC)(H:Hp)(b:yG)(g:ZU)(Q:yG->Hp->Prop):Prop:=∀e f,SR K f g e->ZJ K J f H e->Q b e
inductive VD(K:yS)(c:CO)(Z:St)(H:Hp)(Q:yG->Hp->Prop):Prop
 |mk (J:yC) (B:ZR) (S:ZU) (d:yG) (S':ZU) (sr:SR K J S H) (re:RE K H J B Z) (e:c B S=.ok d S') (y:M1 K J H d S' Q)
theorem PO.weak(h:PO X e t)(w:∀Z H Q,t' Z H Q->t Z H Q):PO X e t':=λf s Z H Q I q=>h f s Z H Q I (w Z H Q q)
theorem zG:PO X Z8 (VD X.K Yc):=DG.weak (by
 rintro Z H Q ⟨J,B,S,d,g,f,h,e,y⟩;obtain⟨rfl,rfl⟩:=Ys e;exact y H J f (ZJ.refl _ _ _))
theorem zF(l:PE X a (ZA X.K ca)):PO X (Z9 a) (VD X.K (Yn ca)):=(DE l).weak (by
 rintro Z H Q ⟨J,B,S,d,t,o,m,e,y⟩;obtain⟨x,n,r,e⟩:=Y9 e;obtain⟨i,s,h,e⟩:=Y9 e;obtain⟨rfl,rfl⟩:=Ys e;refine⟨J,B,S,x,n,o,m,r,λv p q f g k=>?_⟩;cases x with
 |int j =>
  obtain⟨rfl,rfl⟩:=Ys h;unfold RV at k;exact⟨_,k,y p q f g⟩
 | _=>cases h)
noncomputable def Yi(o:D->yG->yG->M D)(a:C)(f e:CO):C:=fun B=>Za (a B) λx=>Za (f B) λl=>Za (e B) λh=>o x l h
def IR(K:yS)(r:V->yG->yG->Hp->VK->Prop)(o:D->yG->yG->M D):Prop:=∀x l h S d e H J v Q,o x l h S=.ok d e->SR K J S H->RV K H J x v->XS K J H d e Q->r v l h H Q
theorem zE(K:IR X.K (M5 X) o)(A:PE X a (ZA X.K ca))(I:PO X r (VD X.K cl))(L:PO X u (VD X.K ch)):PE X (.Subscript a (.Slice r u Z8 U) pos) (ZA X.K (Yi o ca cl ch)):=(DC Ac A I L).weak (by
 rintro Z H Q ⟨J,B,S,d,R,G,p,e,y⟩;obtain⟨x,t,T,e⟩:=Y9 e;obtain⟨l,s,O,e⟩:=Y9 e;obtain⟨h,q,F,e⟩:=Y9 e;refine⟨J,B,S,x,t,G,p,T,λv V N n k P=>⟨N,B,t,l,s,n,p.up k,O,λW E m g=>?_⟩⟩;have f:=k.trans g m.nd;refine⟨E,B,s,h,q,m,p.up f,F,λz w j i=>?_⟩;exact K x l h q d R z w v Q e j (RV.up i.tk i.ext _ _ (RV.up g.tk g.ext _ _ P)) (y.shift (f.trans i j.nd)))
def V1(K:yS)(r:List V->Hp->VK->Prop)(o:List D->M D):Prop:=∀e S d g H J f Q,o e S=.ok d g->SR K J S H->RVs K H J e f->XS K J H d g Q->r f H Q
variable {ca':CA}
theorem IQ(n:V1 X.K r o):∀Z H Q,ZA X.K (ZT o ca') Z H Q->Qn r (YS X.K ca') Z H Q:=by rintro Z H Q ⟨J,B,S,d,t,l,k,e,y⟩;obtain⟨i,h,s,e⟩:=Y9 e;exact⟨J,B,S,i,h,l,k,s,λj m p f g q=>n i h d t m p j Q e f q (y.shift g)⟩
noncomputable def WI(K:yS)(g:List D->M D)(n:Nat):Sp:=λe H Q E=>e.length=n/\∃J ds S d f,SR K J S H/\RVs K H J ds e/\g ds S=.ok d f/\XS K J H d f Q
theorem zD(r:∀ds S d i,g ds S=.ok d i->ds.length=n):∀Z H Q,ZA X.K (ZT g ca') Z H Q->N4 (WI X.K g n) [] E0 (YS X.K ca') Z H Q:=by rintro Z H Q ⟨J,B,S,d,i,o,m,e,y⟩;obtain⟨k,j,q,e⟩:=Y9 e;refine⟨J,B,S,k,j,o,m,q,λs t p f h l=>?_⟩;rw[qG3];exact⟨by rw[<- l.len];exact r _ _ _ _ e,p,k,j,d,i,f,l,e,y.shift h⟩
end
noncomputable def lim:Nat:=1048576
theorem Sw(h:n<=lim):n<=sizeLine:=qD4 h (by decide)
theorem PV(h:n<lim):n<sizeLine:=qC1 h (by decide)
section
variable {K:yS}{H H' H1:Hp}{J:yC}{S:ZU}
theorem SR.same(c:SR K J S H)(d:Same H H1):SR K J S H1/\ZJ K J J H H1:=by have g:TF K H H1:=IW d;refine⟨⟨c.len,c.nd,λn a o f i=>?_⟩,⟨⟨[],by simp,by simp⟩,λb o _ h=>d b o h,g⟩⟩;obtain⟨u,e⟩:=c.isS (qC0 f);exact(c.obj n a o f i).up g ⟨[],by simp⟩ (by rw[e];exact d _ _ e)
theorem XS.oldT(y:XS K J H (.tup ds) S Q)(e:SR K J S H)(c:Same H H1)(h:H1 p=Z9 (.tup a))(r:RVs K H J ds a):Q (.ref p) H1:=by obtain⟨d,b⟩:=e.same c;exact y _ _ _ d b (by unfold RV;exact⟨p,a,rfl,h,RVs.up b.tk b.ext _ _ r⟩)
theorem XN:RV K H J (.int i) (.int i):=by unfold RV;rfl
theorem WH:RV K H J (.bl i) (.bl i):=by unfold RV;rfl
theorem TN:RV K H J .non .non:=by unfold RV;rfl
theorem IP:RV K H J (.str i) (.str i):=by unfold RV;rfl
theorem SR.lst(b:SR K J S H){n:Nat}(h:J[n]?=Z9 a)(c:S[n]?=Z9 (.lst xs)):∃vs,H a=Z9 (.lst vs)/\RVs K H J xs vs:=b.obj n a _ h c
noncomputable def ZH(S:ZU)(n:Nat):Option (List D):=match S[n]? with
 |some (.lst a)=>Z9 a
 |_=>Z8
theorem SR.sq(c:SR K J S H)(h:J[n]?=Z9 a)(b:ZH S n=Z9 xs):∃vs,YT K H a vs/\RVs K H J xs vs:=by
 unfold ZH at b;split at b
 ·rename_i d e;cases b;obtain⟨vs,q,r⟩:=c.get h e;exact⟨vs,YT.of q,r⟩
 ·cases b
noncomputable def Vk(S:ZU):D->Option (List D)
 |.tup a=>Z9 a
 |.lst n=>ZH S n
 |.rol a=>Z9 a
 |_=>Z8
theorem SR.seq(d:SR K J S H)(r:RV K H J x v)(b:Vk S x=Z9 xs):∃a vs,v=.ref a/\(YT K H a vs∨Zp K H a vs)/\RVs K H J xs vs:=by
 unfold Vk at b;split at b
 ·cases b;unfold RV at r;obtain⟨p,vs,rfl,q,c⟩:=r;exact⟨p,vs,rfl,.inr (Zp.of q),c⟩
 ·unfold RV at r;obtain⟨a,rfl,e⟩:=r;obtain⟨vs,q,c⟩:=d.sq e b;exact⟨a,vs,rfl,.inl q,c⟩
 ·cases b;unfold RV at r;obtain⟨p,vs,rfl,q,c⟩:=r;exact⟨p,vs,rfl,.inl q.sq,c⟩
 ·cases b
theorem RVs.cons_inv(h:RVs K H J (d::ds) a):∃v ws,a=v::ws/\RV K H J d v/\RVs K H J ds ws:=by unfold RVs at h;exact h
theorem RVs.nil_inv(h:RVs K H J [] a):a=[]:=by unfold RVs at h;exact h
end
noncomputable def Zw(g:Int->Int->Int):D->D->M D
 |.int i,.int j=>ret (.int (g i j))
 |_,_=>bad
noncomputable def ZK:D->D->M D
 |.int i,.int j=>ret (.int (i+j))
 |.tup a,.tup b=>λS=>if a.length+b.length<=lim then .ok (.tup (a++b)) S else .bad
 |.lst n,.lst m=>λS=>match S[n]?,S[m]? with
  |some (.lst a),Z9 (.lst b)=>if a.length+b.length<=lim then .ok (.lst S.length) (S++[.lst (a++b)])else .bad
  |_,_=>.bad
 |.str x,.str y=>λS=>if x.length+y.length<=lim then .ok (.str (x++y)) S else .bad
 |_,_=>bad
noncomputable def VC(i j:Int):Bool:=(decide (-18446744073709551616<i)&&decide (i<18446744073709551616))||(decide (-18446744073709551616<j)&&decide (j<18446744073709551616))
noncomputable def Ym:D->D->M D
 |.int i,.int j=>λS=>if VC i j then .ok (.int (i*j)) S else .bad
 |_,_=>bad
noncomputable def Yt:D->D->M D
 |.int i,.int j=>λS=>if 0<j then .ok (.int (i % j)) S else .bad
 |_,_=>bad
noncomputable def W3:D->D->M D
 |.int i,.int j=>λS=>if 0<j/\j<1073741824 then .ok (.int (i / j)) S else .bad
 |_,_=>bad
noncomputable def Wc:D->D->M D
 |.int i,.int j=>λS=>if 0<=j/\j<=1000000/\i.natAbs<18446744073709551616 then .ok (.int (i ^ j.toNat)) S else .bad
 |_,_=>bad
noncomputable def WG:D->D->M D
 |.int i,.int j=>λS=>if 0<=j/\j<=1000000/\i.natAbs<18446744073709551616 then .ok (.int (i*2 ^ j.toNat)) S else .bad
 |_,_=>bad
noncomputable def VB:D->D->M D
 |.int i,.int j=>λS=>if 0<=j then .ok (.int (i / 2 ^ j.toNat)) S else .bad
 |_,_=>bad
noncomputable def UU:D->M D
 |.int i=>ret (.int (-i))
 |_=>bad
section
variable {X:Cx}
theorem PU(h:Y6 X (jM op) (Wj λi j=>.int (g i j))):YP X.K (Zs X (jM op)) (Zw g):=by
 intro x y S d k H J v u Q e c b a f;unfold Zw at e;split at e
 ·obtain⟨rfl,rfl⟩:=Ys e;unfold RV at b a;subst b a;exact⟨_,h,_,_,rfl,rfl,f.self c XN⟩
 ·cases e
theorem zC:YP X.K (Zs X (jM .Sub)) (Zw λi j=>i - j):=PU Ez
theorem zB:YP X.K (Zs X (jM .BitAnd)) (Zw vH):=PU Ep
theorem zA:YP X.K (Zs X (jM .BitOr)) (Zw mH):=PU Eo
theorem zy:YP X.K (Zs X (jM .BitXor)) (Zw lG):=PU En
theorem zx:YP X.K (Zs X (jM .Add)) ZK:=by
 intro x y S d D H J v u Q e c b a h;unfold ZK at e;split at e
 ·obtain⟨rfl,rfl⟩:=Ys e;unfold RV at b a;subst b a;exact⟨_,EA,_,_,rfl,rfl,h.self c XN⟩
 ·try dsimp only at e
  split at e
  ·rename_i g;cases e;unfold RV at b a;obtain⟨p,j,rfl,l,i⟩:=b;obtain⟨n,m,rfl,k,f⟩:=a;exact⟨_,Cs,p,n,j,m,rfl,rfl,l,k,by rw[<- i.len,<- f.len];exact Sw g,λs A q sq=>h.oldT c q sq (i.append f)⟩
  ·cases e
 ·try dsimp only at e
  unfold RV at b a;obtain⟨p,rfl,o⟩:=b;obtain⟨n,rfl,t⟩:=a;split at e
  ·rename_i B C r w;split at e
   ·rename_i g;cases e;obtain⟨j,l,i⟩:=c.lst o r;obtain⟨m,k,f⟩:=c.lst t w;exact⟨_,Dd,p,n,j,m,rfl,rfl,l,k,by rw[<- i.len,<- f.len];exact Sw g,λs z=>h.newL c z (i.append f)⟩
   ·cases e
  ·cases e
 ·try dsimp only at e
  split at e
  ·rename_i g;cases e;unfold RV at b a;subst b a;exact⟨_,D3,_,_,rfl,rfl,Sw g,h.self c IP⟩
  ·cases e
 ·cases e
theorem zw(h:VC i j=Z7):U6 i j:=by unfold VC at h;simp only[qE8,qC4,decide_eq_true_eq]at h;exact h
theorem zv:YP X.K (Zs X (jM .Mult)) Ym:=by
 intro x y S d g H J v u Q e c b a h;unfold Ym at e;split at e
 ·try dsimp only at e
  split at e
  ·rename_i f;cases e;unfold RV at b a;subst b a;exact⟨_,Ey,_,_,rfl,rfl,zw f,h.self c XN⟩
  ·cases e
 ·cases e
theorem zu:YP X.K (Zs X (jM .Mod)) Yt:=by
 intro x y S d g H J v u Q e c b a h;unfold Yt at e;split at e
 ·try dsimp only at e
  split at e
  ·rename_i f;cases e;unfold RV at b a;subst b a;exact⟨_,Eu,_,_,rfl,rfl,f,h.self c XN⟩
  ·cases e
 ·cases e
theorem zt:YP X.K (Zs X (jM .FloorDiv)) W3:=by
 intro x y S d g H J v u Q e c b a h;unfold W3 at e;split at e
 ·try dsimp only at e
  split at e
  ·rename_i f;cases e;unfold RV at b a;subst b a;exact⟨_,Ew,_,_,rfl,rfl,f,h.self c XN⟩
  ·cases e
 ·cases e
theorem zr:YP X.K (Zs X (jM .Pow)) Wc:=by
 intro x y S d g H J v u Q e c b a h;unfold Wc at e;split at e
 ·try dsimp only at e
  split at e
  ·rename_i f;cases e;unfold RV at b a;subst b a;exact⟨_,Et,_,_,rfl,rfl,f,h.self c XN⟩
  ·cases e
 ·cases e
theorem zp:YP X.K (Zs X (jM .LShift)) WG:=by
 intro x y S d g H J v u Q e c b a h;unfold WG at e;split at e
 ·try dsimp only at e
  split at e
  ·rename_i f;cases e;unfold RV at b a;subst b a;exact⟨_,Es,_,_,rfl,rfl,f,h.self c XN⟩
  ·cases e
 ·cases e
theorem zo:YP X.K (Zs X (jM .RShift)) VB:=by
 intro x y S d g H J v u Q e c b a h;unfold VB at e;split at e
 ·try dsimp only at e
  split at e
  ·rename_i f;cases e;unfold RV at b a;subst b a;exact⟨_,Er,_,_,rfl,rfl,f,h.self c XN⟩
  ·cases e
 ·cases e
theorem zl:IS X.K (TU X (unaryOp .USub)) UU:=by
 intro x S d c H J v Q e b a h;unfold UU at e;split at e
 ·obtain⟨rfl,rfl⟩:=Ys e;unfold RV at a;subst a;exact⟨_,El,_,rfl,h.self b XN⟩
 ·cases e
noncomputable def YM(g:Int->Int->Bool):D->D->M D
 |.int i,.int j=>ret (.bl (g i j))
 |_,_=>bad
theorem M0(h:Y6 X (y7 op) (Wj λi j=>.bl (g i j))):YP X.K (Zs X (y7 op)) (YM g):=by
 intro x y S d k H J v u Q e c b a f;unfold YM at e;split at e
 ·obtain⟨rfl,rfl⟩:=Ys e;unfold RV at b a;subst b a;exact⟨_,h,_,_,rfl,rfl,f.self c WH⟩
 ·cases e
theorem zk:YP X.K (Zs X (y7 .LtE)) (YM λi j=>decide (i<=j)):=M0 Ef
theorem zj:YP X.K (Zs X (y7 .Gt)) (YM λi j=>decide (j<i)):=M0 Ee
theorem zh:YP X.K (Zs X (y7 .GtE)) (YM λi j=>decide (j<=i)):=M0 Ed
noncomputable def Ws:List D->Option (yA)
 |[]=>Z9 []
 |.int i::r=>(Ws r).map (i::·)
 |_::_=>Z8
theorem Sv{K:yS}{H:Hp}{J:yC}:∀{ds:List D}{ns:yA}{vs:List V},Ws ds=Z9 ns->RVs K H J ds vs->vs=ns.map V.int
 |[],ns,vs,e,r=>by cases e;rw[r.nil_inv];rfl
 |.int i::ds,ns,vs,e,r=>by
  obtain⟨v,c,rfl,a,b⟩:=r.cons_inv;unfold Ws at e;cases q:Ws ds with
  |none=>rw[q]at e;cases e
  |some d =>
   rw[q]at e;cases e;unfold RV at a;subst a;rw[Sv q b];rfl
 |.non::ds,ns,vs,e,r=>by cases e
 |.bl _::ds,ns,vs,e,r=>by cases e
 |.str _::ds,ns,vs,e,r=>by cases e
 |.ty _::ds,ns,vs,e,r=>by cases e
 |.tup _::ds,ns,vs,e,r=>by cases e
 |.lst _::ds,ns,vs,e,r=>by cases e
 |.dct _::ds,ns,vs,e,r=>by cases e
 |.rol _::ds,ns,vs,e,r=>by cases e
noncomputable def Vj:D->D->M D
 |.int i,.int j=>ret (.bl (decide (i<j)))
 |_,_=>bad
theorem zg(f:X.A.units<j5):YP X.K (Zs X (y7 .Lt)) Vj:=by
 intro x y S d g H J v u Q e c b a h;unfold Vj at e;split at e
 ·obtain⟨rfl,rfl⟩:=Ys e;unfold RV at b a;subst b a;exact⟨_,Eg,_,_,rfl,rfl,h.self c WH⟩
 ·cases e
noncomputable def Zl:Nat->ZU->D->Option vA
 |0,_,_=>Z8
 |n+1,S,d=>match d with
  |.non=>Z9 .none
  |.bl b=>Z9 (.bool b)
  |.int i=>Z9 (.int i)
  |.str x=>if PyData.strOk x then Z9 (.str x)else Z8
  |.tup a=>(a.mapM (Zl n S)).map .tuple
  |.lst k=>match ZH S k with
   |some a=>(a.mapM (Zl n S)).map .list
   |none=>Z8
  |_=>Z8
theorem PR{K:yS}{H:Hp}{J:yC}{S:ZU}{n:Nat}(c:∀d v p,Zl n S d=Z9 p->RV K H J d v->Rp K H (λ_=>True) v p/\p.canLay0=Z7/\p.depth<=n):∀(xs:List D) (vs:List V) (ps:List vA),xs.mapM (Zl n S)=Z9 ps->RVs K H J xs vs->RpL K H (λ_=>True) vs ps/\PyData.canLayAll0 ps=Z7/\PyData.depthAll ps<=n
 |[],vs,ps,e,r=>by simp at e;subst e;rw[r.nil_inv];exact⟨.nil,rfl,qE1 _⟩
 |d::ds,vs,ps,e,r=>by
  obtain⟨v,j,rfl,i,f⟩:=r.cons_inv;rw[qH7]at e;cases q:Zl n S d with
  |none=>rw[q]at e;cases e
  |some p =>
   cases b:ds.mapM (Zl n S)with
   |none=>rw[q,b]at e;cases e
   |some a =>
    rw[q,b]at e;cases e;obtain⟨g,h,m⟩:=c d v p q i;obtain⟨b1,k,l⟩:=PR c ds j a b f;refine⟨.cons g b1,?_,?_⟩
    ·show(PyData.canLay0 p&&PyData.canLayAll0 a)=Z7;rw[h,k];rfl
    ·show max p.depth (PyData.depthAll a)<=n;omega
theorem Uw{K:yS}{H:Hp}{J:yC}{S:ZU}(h:SR K J S H):∀(n:Nat) (d:D) (v:V) (p:vA),Zl n S d=Z9 p->RV K H J d v->Rp K H (λ_=>True) v p/\p.canLay0=Z7/\p.depth<=n
 |0,d,v,p,e,r=>by cases e
 |n+1,d,v,p,e,r=>by
  unfold Zl at e;cases d with
  |non=>cases e;unfold RV at r;subst r;exact⟨.non,rfl,qE1 _⟩
  |bl b=>cases e;unfold RV at r;subst r;exact⟨.bl b,rfl,qE1 _⟩
  |int i=>cases e;unfold RV at r;subst r;exact⟨.int i,rfl,qE1 _⟩
  |str x =>
   dsimp only at e;split at e
   ·rename_i t;cases e;unfold RV at r;subst r;exact⟨.str x,t,qE1 _⟩
   ·cases e
  |tup c =>
   dsimp only at e;cases q:c.mapM (Zl n S)with
   |none=>rw[q]at e;cases e
   |some j =>
    rw[q]at e;cases e;unfold RV at r;obtain⟨a,g,rfl,m,l⟩:=r;obtain⟨b1,o,f⟩:=PR (λd v p e r=>Uw h n d v p e r) c g j q l;exact⟨.tup (Zp.of m) b1,o,qO9 f⟩
  |lst k =>
   dsimp only at e;split at e
   ·rename_i c s;cases q:c.mapM (Zl n S)with
    |none=>rw[q]at e;cases e
    |some j =>
     rw[q]at e;cases e;unfold RV at r;obtain⟨a,rfl,u⟩:=r;obtain⟨g,m,l⟩:=h.sq u s;obtain⟨b1,o,f⟩:=PR (λd v p e r=>Uw h n d v p e r) c g j q l;exact⟨.lst True.intro m b1,o,qO9 f⟩
   ·cases e
  |dct k=>cases e
  |ty k=>cases e
  |rol k=>cases e
noncomputable def Y8:D->D->M D:=λx y S=>match x,y with
 |.str a,.str b=>.ok (.bl (decide (a=b))) S
 |_,_=>match Zl 40 S x,Zl 40 S y with
  |some p,Z9 q=>.ok (.bl (PyData.eqv p q)) S
  |_,_=>.bad
noncomputable def XM:D->D->M D:=λx y S=>match x,y with
 |.str a,.str b=>.ok (.bl (!decide (a=b))) S
 |_,_=>match Zl 40 S x,Zl 40 S y with
  |some p,Z9 q=>.ok (.bl (!PyData.eqv p q)) S
  |_,_=>.bad
theorem zd(i:X.A.units+64<j5):YP X.K (Zs X (y7 .Eq)) Y8:=by
 intro x y S d s H J v u Q e c g f h;unfold Y8 at e;split at e
 ·rename_i a b;cases e;unfold RV at g f;subst g f;refine⟨_,Ei,rfl,?_⟩;have z:decide (V.str a=V.str b)=decide (a=b):=by simp
  rw[z];exact h.self c WH
 ·split at e
  ·rename_i p q m k;cases e;obtain⟨j,l,r⟩:=Uw c 40 x v p m g;obtain⟨b1,n,o⟩:=Uw c 40 y u q k f;exact⟨_,B3 i,_,_,p,q,j,b1,⟨l,by omega⟩,⟨n,by omega⟩,h.self c WH⟩
  ·cases e
theorem za(i:X.A.units+64<j5):YP X.K (Zs X (y7 .NotEq)) XM:=by
 intro x y S d s H J v u Q e c g f h;unfold XM at e;split at e
 ·rename_i a b;cases e;unfold RV at g f;subst g f;refine⟨_,Eh,rfl,?_⟩;have z:decide (V.str a=V.str b)=decide (a=b):=by simp
  rw[z];exact h.self c WH
 ·split at e
  ·rename_i p q m k;cases e;obtain⟨j,l,r⟩:=Uw c 40 x v p m g;obtain⟨b1,n,o⟩:=Uw c 40 y u q k f;exact⟨_,BZ i,_,_,p,q,j,b1,⟨l,by omega⟩,⟨n,by omega⟩,h.self c WH⟩
  ·cases e
noncomputable def D.isNon:D->Bool
 |.non=>Z7
 |_=>Z5
theorem IM{K:yS}(r:RV K H J x v):decide (v=.non)=x.isNon:=by
 cases x with
 |non=>unfold RV at r;subst r;rfl
 |bl _=>unfold RV at r;subst r;rfl
 |int _=>unfold RV at r;subst r;rfl
 |str _=>unfold RV at r;subst r;rfl
 |ty _=>unfold RV at r;subst r;rfl
 |tup _=>unfold RV at r;obtain⟨_,_,rfl,_⟩:=r;rfl
 |lst _=>unfold RV at r;obtain⟨_,rfl,_⟩:=r;rfl
 |dct _=>unfold RV at r;obtain⟨_,rfl,_⟩:=r;rfl
 |rol _=>unfold RV at r;obtain⟨_,_,rfl,_⟩:=r;rfl
noncomputable def TM:D->D->M D
 |x,.non=>ret (.bl x.isNon)
 |.bl a,.bl b=>ret (.bl (a == b))
 |_,_=>bad
noncomputable def V0:D->D->M D
 |x,.non=>ret (.bl (!x.isNon))
 |.bl a,.bl b=>ret (.bl (a != b))
 |_,_=>bad
theorem y3:YP X.K (Zs X (y7 .Is)) TM:=by
 intro x y S d f H J v u Q e c b a h;unfold TM at e;split at e
 ·obtain⟨rfl,rfl⟩:=Ys e;unfold RV at a;exact⟨_,Ec,a,by rw[IM b];exact h.self c WH⟩
 ·obtain⟨rfl,rfl⟩:=Ys e;unfold RV at b a;subst b a;exact⟨_,Cw,_,_,rfl,rfl,h.self c WH⟩
 ·cases e
theorem y2:YP X.K (Zs X (y7 .IsNot)) V0:=by
 intro x y S d f H J v u Q e c b a h;unfold V0 at e;split at e
 ·obtain⟨rfl,rfl⟩:=Ys e;unfold RV at a;exact⟨_,Eb,a,by rw[IM b];exact h.self c WH⟩
 ·obtain⟨rfl,rfl⟩:=Ys e;unfold RV at b a;subst b a;exact⟨_,Cv,_,_,rfl,rfl,h.self c WH⟩
 ·cases e
noncomputable def YC:D->Option V
 |.non=>Z9 .non
 |.bl b=>Z9 (.bl b)
 |.int i=>Z9 (.int i)
 |.str x=>Z9 (.str x)
 |_=>Z8
theorem IL{K:yS}(e:YC x=Z9 w)(r:RV K H J x v):v=w:=by
 cases x with
 |non=>cases e;unfold RV at r;exact r
 |bl _=>cases e;unfold RV at r;exact r
 |int _=>cases e;unfold RV at r;exact r
 |str _=>cases e;unfold RV at r;exact r
 |_=>cases e
theorem IK{K:yS}{H:Hp}{J:yC}:∀{ds:List D}{vs ws:List V},ds.mapM YC=Z9 ws->RVs K H J ds vs->vs=ws
 |[],vs,ws,e,r=>by simp at e;subst e;exact r.nil_inv
 |d::ds,vs,ws,e,r=>by
  obtain⟨v,g,rfl,c,f⟩:=r.cons_inv;rw[qH7]at e;cases q:YC d with
  |none=>rw[q]at e;cases e
  |some w =>
   cases a:ds.mapM YC with
   |none=>rw[q,a]at e;cases e
   |some b =>
    rw[q,a]at e;cases e;rw[IL q c,IK a f]
noncomputable def Wb:D->Option Zm
 |.int i=>Z9 (.inl i)
 |.str x=>Z9 (.inr x)
 |_=>Z8
theorem PQ{K:yS}(e:Wb x=Z9 k)(r:RV K H J x v):v=kV k:=by
 cases x with
 |int _=>cases e;unfold RV at r;exact r
 |str _=>cases e;unfold RV at r;exact r
 |_=>cases e
noncomputable def Xr{a:Type}[DecidableEq a](kvs:List (a×D))(k:a):Option D:=(kvs.find? λb=>decide (b.1=k)).map (·.2)
noncomputable def Wa{b:Type}[DecidableEq b](kvs:List (b×D))(k:b)(v:D):List (b×D) :=
 if(kvs.any λa=>decide (a.1=k))=Z7 then kvs.map (λa=>if a.1=k then(a.1,v)else a)else kvs++[(k,v)]
section
variable {κ:Type} [DecidableEq κ] {K:yS}{H:Hp}{J:yC}
theorem YK.cons_inv{b:List (κ×V)}(h:YK K H J (p::kvs) b):∃q us,b=q::us/\p.1=q.1/\RV K H J p.2 q.2/\YK K H J kvs us:=by
 obtain⟨a,c⟩:=h;rw[qB5]at a c;obtain⟨v,g,e,d,f⟩:=c.cons_inv;cases b with
 |nil=>simp at a
 |cons q us =>
  rw[qB5]at a e;cases e;rw[qH4.injEq]at a;exact⟨q,us,rfl,a.1,d,a.2,f⟩
theorem YK.val:∀{kvs:List (κ×D)}{ws:List (κ×V)},YK K H J kvs ws->(∀d,Xr kvs k=Z9 d->∃v,YE ws k=Z9 v/\RV K H J d v)/\(Xr kvs k=Z8->YE ws k=Z8)
 |[],ws,h=>by
  have:ws=[]:=by have:=h.1;cases ws with|nil=>rfl|cons a b=>simp at this
  subst this;exact⟨λd e=>(by cases e),λ_=>rfl⟩
 |p::kvs,ws,h=>by
  obtain⟨q,m,rfl,f,j,l⟩:=h.cons_inv;obtain⟨g,i⟩:=YK.val (k:=k) l;by_cases hk:p.1=k
  ·have c:Xr (p::kvs) k=Z9 p.2:=by simp[Xr,qH9,hk]
   rw[c,Qk (f▸hk)];exact⟨λd e=>by cases e;exact⟨_,rfl,j⟩,λe=>by cases e⟩
  ·have c:Xr (p::kvs) k=Xr kvs k:=by simp[Xr,qH9,hk]
   rw[c,Qj (f▸hk)];exact⟨g,i⟩
theorem YK.nil:YK K H J ([]:List (κ×D)) []:=⟨rfl,RVs.nil⟩
theorem YK.cons{a:List (κ×V)}(r:RV K H J d v)(h:YK K H J kvs a):YK K H J ((k,d)::kvs) ((k,v)::a):=⟨by rw[qB5,qB5,h.1],by rw[qB5,qB5];exact .cons r h.2⟩
theorem YK.any:∀{kvs:List (κ×D)}{ws:List (κ×V)},YK K H J kvs ws->(kvs.any λc=>decide (c.1=k))=(ws.any λc=>decide (c.1=k))
 |[],ws,h=>by
  have:ws=[]:=by have:=h.1;cases ws with|nil=>rfl|cons a b=>simp at this
  subst this;rfl
 |p::kvs,ws,h=>by obtain⟨q,f,rfl,d,g,e⟩:=h.cons_inv;rw[qH6,qH6,YK.any e,d]
theorem YK.mapSet(e:RV K H J d v):∀{kvs:List (κ×D)}{ws:List (κ×V)},YK K H J kvs ws->YK K H J (kvs.map (λc=>if c.1=k then(c.1,d)else c)) (ws.map (λc=>if c.1=k then(c.1,v)else c))
 |[],ws,h=>by
  have:ws=[]:=by have:=h.1;cases ws with|nil=>rfl|cons a b=>simp at this
  subst this;exact .nil
 |p::kvs,ws,h=>by
  obtain⟨q,m,rfl,g,f,i⟩:=h.cons_inv;rw[qB5,qB5];obtain⟨j,n⟩:=p;obtain⟨o,l⟩:=q;dsimp only at g f ⊢;subst g;by_cases hk:j=k
  ·rw[if_pos hk,if_pos hk];exact .cons e (YK.mapSet e i)
  ·rw[if_neg hk,if_neg hk];exact .cons f (YK.mapSet e i)
theorem YK.append{ds:List (κ×V)}(h:YK K H J a bs)(g:YK K H J cs ds):YK K H J (a++cs) (bs++ds):=⟨by rw[qD2,qD2,h.1,g.1],by rw[qD2,qD2];exact h.2.append g.2⟩
theorem YK.put(c:RV K H J d v){b:List (κ×V)}(h:YK K H J kvs b):YK K H J (Wa kvs k d) (Y5 b k v):=by
 unfold Wa Y5;rw[h.any (k:=k)];by_cases a:(b.any λe=>decide (e.1=k))=Z7
 ·rw[if_pos a,if_pos a];exact h.mapSet c
 ·rw[if_neg a,if_neg a];exact h.append (.cons c .nil)
theorem YK.len{a:List (κ×V)}(h:YK K H J kvs a):kvs.length=a.length:=by have:=congrArg qN2 h.1;simpa using this
end
noncomputable def PP(S:ZU)(n:Nat)(x:D):Option (Option D):=match S[n]? with
 |some (.dk a)=>(Wb x).map λk=>Xr a k
 |some (.dt a)=>match x with
  |.tup ks=>(ks.mapM Wb).map λk=>Xr a k
  |_=>Z8
 |_=>Z8
theorem PN{K:yS}{H:Hp}{J:yC}:∀{ds:List D}{ks:List Zm}{vs:List V},ds.mapM Wb=Z9 ks->RVs K H J ds vs->vs=ks.map kV
 |[],ks,vs,e,r=>by simp at e;subst e;exact r.nil_inv
 |d::ds,ks,vs,e,r=>by
  obtain⟨u,g,rfl,b,f⟩:=r.cons_inv;rw[qH7]at e;cases q:Wb d with
  |none=>rw[q]at e;cases e
  |some k =>
   cases a:ds.mapM Wb with
   |none=>rw[q,a]at e;cases e
   |some c =>
    rw[q,a]at e;cases e;rw[qB5,PQ q b,PN a f]
theorem IJ{K:yS}(j:SR K J S H)(e:PP S n x=Z9 r)(l:J[n]?=Z9 a)(g:RV K H J x v):∃o,Yy H a v o/\(∀d,r=Z9 d->∃w,o=Z9 w/\RV K H J d w)/\(r=Z8->o=Z8):=by
 unfold PP at e;split at e
 ·rename_i c h;cases q:Wb x with
  |none=>rw[q]at e;cases e
  |some k =>
   rw[q]at e;cases e;obtain⟨i,f,b⟩:=j.get l h;have:=PQ q g;subst this;exact⟨YE i k,Yy.k f,(b.val (k:=k)).1,(b.val (k:=k)).2⟩
 ·rename_i c h;split at e
  ·rename_i ks;cases q:ks.mapM Wb with
   |none=>rw[q]at e;cases e
   |some k =>
    rw[q]at e;cases e;obtain⟨i,f,b⟩:=j.get l h;unfold RV at g;obtain⟨p,t,rfl,s,m⟩:=g;have:=PN q m;subst this;exact⟨YE i k,Yy.t f s,(b.val (k:=k)).1,(b.val (k:=k)).2⟩
  ·cases e
 ·cases e
noncomputable def Yr(neg:Bool):D->D->M D:=λx y S=>match y with
 |.dct n=>match PP S n x with
  |some o=>.ok (.bl (if neg then !o.isSome else o.isSome)) S
  |none=>.bad
 |_=>match Vk S y,YC x with
  |some a,Z9 v=>match a.mapM YC with
   |some c=>.ok (.bl (if neg then !Vo v c else Vo v c)) S
   |none=>.bad
  |some a,Z8=>match Zl 40 S x,a.mapM (Zl 40 S)with
   |some p,Z9 b=>.ok (.bl (if neg then !(b.any λd=>PyData.eqv d p)else b.any λd=>PyData.eqv d p)) S
   |_,_=>.bad
  |_,_=>.bad
theorem II(h:YC x=Z9 v):Vq v=Z7:=by cases x<;>first|(cases h;rfl)| cases h
theorem IH:∀{ds:List D}{vs:List V},ds.mapM YC=Z9 vs->vs.all Vq=Z7
 |[],vs,e=>by simp at e;subst e;rfl
 |d::ds,vs,e=>by
  rw[qH7]at e;cases q:YC d with
  |none=>rw[q]at e;cases e
  |some w =>
   cases a:ds.mapM YC with
   |none=>rw[q,a]at e;cases e
   |some b =>
    rw[q,a]at e;cases e;rw[qN9,II q,IH a];rfl
theorem y0(e:X.A.units+1<j5):Y6 X (y7 .In) (λy x H Q=>∃a o,x=.ref a/\Yy H a y o/\Q (.bl o.isSome) H):=by intro b s Z H y x v u Q I c d h;obtain⟨a,o,rfl,g,q⟩:=h;obtain rfl:u=Value.ref a:=d;exact NO e I g c λi f=>⟨.bl o.isSome,H,f,rfl,q⟩
theorem yz(e:X.A.units+1<j5):Y6 X (y7 .NotIn) (λy x H Q=>∃a o,x=.ref a/\Yy H a y o/\Q (.bl (!o.isSome)) H):=by intro b s Z H y x v u Q I c d h;obtain⟨a,o,rfl,g,q⟩:=h;obtain rfl:u=Value.ref a:=d;exact C2 e I g c λi f=>⟨.bl (!o.isSome),H,f,rfl,q⟩
theorem MZ{n:Nat}:∀{ps:List vA},PyData.canLayAll0 ps=Z7->PyData.depthAll ps<=n->∀d∈ps,d.canLay0=Z7/\d.depth<=n
 |[],_,_,d,h=>by cases h
 |p::ps,h1,h2,d,h=>by
  replace h1:(PyData.canLay0 p&&PyData.canLayAll0 ps)=Z7:=h1
  replace h2:max p.depth (PyData.depthAll ps)<=n:=h2
  rw[qC4]at h1;rcases qA8.mp h with rfl|h
  ·exact⟨h1.1,by omega⟩
  ·exact MZ h1.2 (by omega) d h
theorem IG(G:Y6 X (y7 op) (NU X.K neg))(I:Y6 X (y7 op) (λy x H Q=>∃a o,x=.ref a/\Yy H a y o/\Q (.bl (if neg then !o.isSome else o.isSome)) H))
  (O:Y6 X (y7 op) (TZ X.K neg))
  : YP X.K (Zs X (y7 op)) (Yr neg):=by
 intro x y S d V H J v u Q e b j i h;unfold Yr at e;split at e
 ·rename_i n;split at e
  ·rename_i o M;cases e;unfold RV at i;obtain⟨a,rfl,K⟩:=i;obtain⟨D,g,F,g2⟩:=IJ b M K j;have c:D.isSome=o.isSome:=by
    cases o with
    |none=>simp[g2 rfl]
    |some d=>obtain⟨w,rfl,_⟩:=F d rfl;rfl
   exact⟨_,I,a,D,rfl,g,by rw[c];exact h.self b WH⟩
  ·cases e
 ·split at e
  ·rename_i B w q c;split at e
   ·rename_i U t;cases e;obtain⟨a,f,rfl,m,l⟩:=b.seq i q;have E:=IL c j;have L:=IK t l;subst E L;exact⟨_,G,a,f,rfl,m,II c,IH t,h.self b WH⟩
   ·cases e
  ·rename_i B q c;split at e
   ·rename_i p A R k;cases e;obtain⟨a,f,rfl,m,l⟩:=b.seq i q;obtain⟨N,P,T⟩:=Uw b 40 x v p R j;obtain⟨b1,C,s⟩:=PR (λd v p e r=>Uw b 40 d v p e r) B f A k l;exact⟨_,O,a,f,_,_,p,A,rfl,m,N,⟨P,by omega⟩,b1,λd z=>⟨(MZ C s d z).1,by have:=(MZ C s d z).2;omega⟩,h.self b WH⟩
   ·cases e
  ·cases e
theorem yy(a:X.A.units+64<j5):YP X.K (Zs X (y7 .In)) (Yr Z5):=IG Do (y0 (by omega))
 (Bu a)
theorem yx(a:X.A.units+64<j5):YP X.K (Zs X (y7 .NotIn)) (Yr Z7):=IG Dn (yz (by omega))
 (Bt a)
end
section
variable {X:Cx}
theorem yw(o:X.A.units+1<j5):SG X (λx y H Q=>∃a v,x=.ref a/\Yy H a y (Z9 v)/\Q v H):=by
 intro e d b s Z H x y v u Q I n m h p;obtain⟨a,z,rfl,g,q⟩:=h;obtain rfl:v=Value.ref a:=n;have l:=C1 I g;have i:yV (yX X.prog X.w) X.A (fU (.ref a) u) (EP X b Z Q) X.xe s:=C3 o I g m λw A t k=>⟨z,H,t,k,q⟩
 unfold mJ;refine yO ?_;rw[getitemInPython_of_ne l.not_modules];refine yO (g6 l PySem.F.slot_dict_getitem.lookup ?_);have j:yV (yX X.prog X.w) X.A (dN d Z5 (.ref a) u) (λr c=>yV (yX X.prog X.w) X.A (letTemporaryGo e (.ref a) r >>= λ_=>pure r) (EP X b Z Q) X.xe c) X.xe s:=by rw[p];exact wpAny_operating (jU i (λr c f=>yO (wpAny_letTemporaryGo (yP f))) λ_ _ x=>x)
 exact yP (yO j)
noncomputable def ZL:D->D->M D:=λx i S=>match x with
 |.dct n=>match PP S n i with
  |some (Z9 d)=>.ok d S
  |_=>.bad
 |_=>match Vk S x,i with
  |some a,.int j=>match XZ a j with
   |some d=>.ok d S
   |none=>.bad
  |_,_=>.bad
theorem RVs.at{K:yS}(r:RVs K H J ds a)(e:XZ ds i=Z9 d):∃v,XZ a i=Z9 v/\RV K H J d v:=by
 unfold XZ at e ⊢;rw[<- r.len];cases q:Ww ds.length i with
 |none=>rw[q]at e;cases e
 |some j =>
  rw[q]at e;obtain⟨v,b,c⟩:=r.get (i:=j) (d:=d) e;exact⟨v,b,c⟩
theorem yv(q:X.A.units+1<j5):YP X.K (M6 X) ZL:=by
 intro x y S d D H J v u Q e c k i h;unfold ZL at e;split at e
 ·rename_i n;split at e
  ·rename_i z s;cases e;unfold RV at k;obtain⟨a,rfl,r⟩:=k;obtain⟨o,g,p,_⟩:=IJ c s r i;obtain⟨w,rfl,b⟩:=p _ rfl;exact⟨_,yw q,a,w,rfl,g,h.self c b⟩
  ·cases e
 ·split at e
  ·rename_i C j B;split at e
   ·rename_i z t;cases e;obtain⟨a,l,rfl,f,A⟩:=c.seq k B;obtain⟨w,m,b⟩:=A.at t;unfold RV at i;subst i;rcases f with f|f
    ·exact⟨_,Dx,a,l,j,w,rfl,rfl,f,m,h.self c b⟩
    ·exact⟨_,Dw,a,l,j,w,rfl,rfl,f,m,h.self c b⟩
   ·cases e
  ·cases e
noncomputable def Zf(xs:List D)(a b:yG):List D:=(xs.drop (HT.sIx xs.length 0 a)).take (HT.sIx xs.length xs.length b - HT.sIx xs.length 0 a)
noncomputable def YB:D->yG->yG->M D:=λx c b S=>match x with
 |.tup a=>.ok (.tup (Zf a c b)) S
 |.lst n=>match ZH S n with
  |some a=>.ok (.lst S.length) (S++[.lst (Zf a c b)])
  |none=>.bad
 |_=>.bad
theorem RVs.cut{K:yS}(r:RVs K H J ds c)(b a:yG):RVs K H J (Zf ds b a) (XT c b a):=by unfold Zf XT;rw[r.len];exact(r.drop _).take _
theorem yu:IR X.K (M5 X) YB:=by
 intro x i j S d t H J v Q e f b h;unfold YB at e;split at e
 ·cases e;unfold RV at b;obtain⟨p,c,rfl,q,g⟩:=b;exact⟨_,Co,p,c,rfl,q,λs o l sq=>h.oldT f l sq (g.cut i j)⟩
 ·split at e
  ·rename_i r n;cases e;unfold RV at b;obtain⟨a,rfl,k⟩:=b;obtain⟨c,q,g⟩:=f.sq k n;exact⟨_,Dq,a,c,rfl,q,λp m=>h.newL f m (g.cut i j)⟩
  ·cases e
 ·cases e
theorem RVs.reverse{K:yS}:∀{ds:List D}{vs:List V},RVs K H J ds vs->RVs K H J ds.reverse vs.reverse
 |[],vs,r=>by rw[r.nil_inv];exact .nil
 |d::ds,vs,r=>by obtain⟨v,c,rfl,a,b⟩:=r.cons_inv;rw[qL5,qL5];exact b.reverse.append (.cons a .nil)
noncomputable def Zi:List D->M D:=λa S=>match a with
 |[.str x]=>if x.length<=lim then .ok (.int x.length) S else .bad
 |[.dct n]=>.bad
 |[x]=>match Vk S x with
  |some b=>.ok (.int b.length) S
  |none=>.bad
 |_=>.bad
theorem RVs.one{K:yS}(h:RVs K H J [d] a):∃v,a=[v]/\RV K H J d v:=by obtain⟨v,e,rfl,b,c⟩:=h.cons_inv;rw[c.nil_inv];exact⟨v,rfl,b⟩
theorem RVs.two{K:yS}(h:RVs K H J [d,e] a):∃v u,a=[v,u]/\RV K H J d v/\RV K H J e u:=by obtain⟨v,g,rfl,b,f⟩:=h.cons_inv;obtain⟨u,rfl,c⟩:=f.one;exact⟨v,u,rfl,b,c⟩
theorem yt:V1 X.K (Yo X (.builtin "len")) Zi:=by
 intro l S d n H J c Q e b f h;unfold Zi at e;split at e
 ·split at e
  ·rename_i g;cases e;obtain⟨v,rfl,r⟩:=f.one;unfold RV at r;subst r;exact⟨_,Dl,_,rfl,Sw g,h.self b XN⟩
  ·cases e
 ·cases e
 ·split at e
  ·rename_i m k;cases e;obtain⟨v,rfl,r⟩:=f.one;obtain⟨a,c,rfl,j,i⟩:=b.seq r k;exact⟨_,Dm,a,c,rfl,j,by rw[<- i.len];exact h.self b XN⟩
  ·cases e
 ·cases e
noncomputable def XF:List D->M D:=λa S=>match a with
 |[.int i,.int j]=>.ok (.int (if j<i then j else i)) S
 |_=>.bad
noncomputable def Xq:List D->M D:=λa S=>match a with
 |[.int i,.int j]=>.ok (.int (if j>i then j else i)) S
 |_=>.bad
theorem yr(g:X.calm=Z7):V1 X.K (Yo X (.builtin "min")) XF:=by
 intro i S d k H J j Q e f c h;unfold XF at e;split at e
 ·cases e;obtain⟨v,u,rfl,a,b⟩:=c.two;unfold RV at a b;subst a b;exact⟨_,D0 g,_,_,rfl,h.self f XN⟩
 ·cases e
theorem yq(g:X.calm=Z7):V1 X.K (Yo X (.builtin "max")) Xq:=by
 intro i S d k H J j Q e f c h;unfold Xq at e;split at e
 ·cases e;obtain⟨v,u,rfl,a,b⟩:=c.two;unfold RV at a b;subst a b;exact⟨_,D2 g,_,_,rfl,h.self f XN⟩
 ·cases e
noncomputable def XY:List D->M D:=λb S=>match b with
 |[.tup a]=>.ok (.tup a) S
 |[.lst n]=>match ZH S n with
  |some a=>.ok (.tup a) S
  |none=>.bad
 |_=>.bad
theorem yo:V1 X.K (Yo X (.type "tuple")) XY:=by
 intro o S d t H J n Q e b f h;unfold XY at e;split at e
 ·cases e;obtain⟨v,rfl,r⟩:=f.one;have g:=r;unfold RV at g;obtain⟨p,c,rfl,q,i⟩:=g;exact⟨_,Kf,p,c,rfl,.inr ⟨Zp.of q,h.self b r⟩⟩
 ·split at e
  ·rename_i s m;cases e;obtain⟨v,rfl,r⟩:=f.one;unfold RV at r;obtain⟨a,rfl,j⟩:=r;obtain⟨c,q,i⟩:=b.sq j m;exact⟨_,Kf,a,c,rfl,.inl ⟨q,λl k=>h.newT b k i⟩⟩
  ·cases e
 ·cases e
noncomputable def Xp:List D->M D:=λa S=>match a with
 |[.int i]=>.ok (.int i) S
 |[.bl b]=>.ok (.int (if b then 1 else 0)) S
 |_=>.bad
theorem yn:V1 X.K (Yo X (.type "int")) Xp:=by
 intro c S d f H J g Q e b a h;unfold Xp at e;split at e
 ·cases e;obtain⟨v,rfl,r⟩:=a.one;unfold RV at r;subst r;exact⟨_,Ku,.inl ⟨_,rfl,h.self b XN⟩⟩
 ·cases e;obtain⟨v,rfl,r⟩:=a.one;unfold RV at r;subst r;exact⟨_,Ku,.inr ⟨_,rfl,h.self b XN⟩⟩
 ·cases e
noncomputable def TL(S:ZU)(n:Nat):Option String:=match S[n]? with
 |some (.dk _)=>Z9 "dict"
 |_=>Z8
noncomputable def Su(S:ZU):D->Option String
 |.non=>Z9 "NoneType"
 |.bl _=>Z9 "bool"
 |.int _=>Z9 "int"
 |.str _=>Z9 "str"
 |.tup _=>Z9 "tuple"
 |.lst n=>if(ZH S n).isSome then Z9 "list" else Z8
 |.dct n=>TL S n
 |_=>Z8
noncomputable def YI:List D->M D:=λa S=>match a with
 |[x,.ty T]=>match Su S x with
  |some t=>if T∈["bool","int","tuple","list","str","dict"]then .ok (.bl (NB t T)) S else .bad
  |none=>.bad
 |_=>.bad
theorem ym{K:yS}(d:SR K J S H)(e:Su S x=Z9 t)(r:RV K H J x v):Vm K H v t/\t∈["NoneType","bool","int","str","tuple","list","dict"]:=by
 cases x with
 |non=>cases e;unfold RV at r;subst r;exact⟨.non,by decide⟩
 |bl b=>cases e;unfold RV at r;subst r;exact⟨.bl b,by decide⟩
 |int i=>cases e;unfold RV at r;subst r;exact⟨.int i,by decide⟩
 |str i=>cases e;unfold RV at r;subst r;exact⟨.str i,by decide⟩
 |tup m=>cases e;unfold RV at r;obtain⟨p,g,rfl,q,_⟩:=r;exact⟨.tup (Zp.of q),by decide⟩
 |lst n =>
  have e:(if(ZH S n).isSome then Z9 "list" else Z8)=Z9 t:=e;split at e
  ·rename_i k;cases e;obtain⟨m,j⟩:=qK7.mp k;unfold RV at r;obtain⟨a,rfl,c⟩:=r;obtain⟨g,q,_⟩:=d.sq c j;exact⟨.lst q,by decide⟩
  ·cases e
 |dct n =>
  have e:TL S n=Z9 t:=e;unfold TL at e;split at e
  ·rename_i f l;cases e;unfold RV at r;obtain⟨a,rfl,c⟩:=r;obtain⟨o,h,_⟩:=d.get c l;exact⟨.dk h,by decide⟩
  ·cases e
 |ty n=>cases e
 |rol n=>cases e
theorem yl:V1 X.K (Yo X (.builtin "isinstance")) YI:=by
 intro m S d n H J l Q e b f h;unfold YI at e;split at e
 ·rename_i x T;split at e
  ·rename_i t k;split at e
   ·rename_i c;cases e;obtain⟨v,u,rfl,i,a⟩:=f.two;unfold RV at a;subst a;obtain⟨j,g⟩:=ym b k i;exact⟨_,Ca,v,t,T,_,rfl,j,B9 X.K t g T c,h.self b WH⟩
   ·cases e
  ·cases e
 ·cases e
theorem XU.imp(h:XU X f r)(w:∀b H Q,r' b H Q->r b H Q):XU X f r':=λa s Z H d e Q I c q=>h a s Z H d e Q I c (w _ _ _ q)
noncomputable def XR(a:Int):yA->yA
 |[]=>[a]
 |b::r=>if a<=b then a::b::r else b::XR a r
noncomputable def XQ:yA->yA
 |[]=>[]
 |a::r=>XR a (XQ r)
theorem MY(a:Int):∀l,(XR a l).Perm (a::l)
 |[]=>.refl _
 |b::r=>by
  unfold XR;split
  ·exact .refl _
  ·exact((MY a r).cons b).trans (.swap _ _ _)
theorem IF:∀l,(XQ l).Perm l
 |[]=>.refl _
 |a::r=>(MY a _).trans ((IF r).cons a)
theorem IE(a:Int):∀l:yA,l.Pairwise (·<=·)->(XR a l).Pairwise (·<=·)
 |[],_=>by simp[XR]
 |b::r,h=>by
  have f:=qF3.mp h;unfold XR;split
  ·rename_i d;refine qF3.mpr ⟨λc e=>?_,h⟩;rcases qA8.mp e with rfl|e
   ·exact d
   ·exact qM5 d (f.1 c e)
  ·rename_i d;refine qF3.mpr ⟨λc e=>?_,IE a r f.2⟩;rcases qA8.mp ((MY a r).mem_iff.mp e)with rfl|e
   ·omega
   ·exact f.1 c e
theorem ID:∀l:yA,(XQ l).Pairwise (·<=·)
 |[]=>.nil
 |a::r=>IE a _ (ID r)
theorem IC(h:m.Perm l)(s:m.Pairwise (·<=·)):m=XQ l :=
 (h.trans (IF l).symm).eq_of_pairwise (λa b _ _ d c=>qT0 d c) s (ID l)
noncomputable def UT:List D->Option (List (yA))
 |[]=>Z9 []
 |.tup b::r=>match Ws b,UT r with
  |some c,Z9 a=>Z9 (c::a)
  |_,_=>Z8
 |_=>Z8
noncomputable def tD(ns:yA):D:=.tup (ns.map .int)
noncomputable def WE(a:yA):List (yA)->List (yA)
 |[]=>[a]
 |b::r=>if HT.lexLt b a=Z7 then b::WE a r else a::b::r
noncomputable def XA:List (yA)->List (yA)
 |[]=>[]
 |a::r=>WE a (XA r)
abbrev yM:=List D
abbrev VA(l:List (yA)):Prop:=l.Pairwise λx y=>HT.lexLt y x=Z5
theorem MX(a:yA):∀l,(WE a l).Perm (a::l)
 |[]=>.refl _
 |b::r=>by
  unfold WE;split
  ·exact((MX a r).cons b).trans (.swap _ _ _)
  ·exact .refl _
theorem Ss:∀l,(XA l).Perm l
 |[]=>.refl _
 |a::r=>(MX a _).trans ((Ss r).cons a)
theorem Iz(a:yA):∀l,VA l->VA (WE a l)
 |[],_=>by simp[WE,VA]
 |b::r,h=>by
  have g:=qF3.mp h;unfold WE;split
  ·rename_i e;refine qF3.mpr ⟨λc f=>?_,Iz a r g.2⟩;rcases qA8.mp ((MX a r).mem_iff.mp f)with rfl|f
   ·exact Nn _ _ e
   ·exact g.1 c f
  ·rename_i e;have d:HT.lexLt b a=Z5:=by simpa using e
   refine qF3.mpr ⟨λc f=>?_,h⟩;rcases qA8.mp f with rfl|f
   ·exact d
   ·exact Nm a b c d (g.1 c f)
theorem MW:∀l,VA (XA l)
 |[]=>.nil
 |a::r=>Iz a _ (MW r)
theorem Iy(h:m.Perm l)(s:VA m):m=XA l :=
 (h.trans (Ss l).symm).eq_of_pairwise (λa b _ _ d c=>Jq a b d c) s (MW l)
theorem MV{K:yS}{H:Hp}{J:yC}:∀{ds:yM}{nss:List (yA)}{vs:List V},UT ds=Z9 nss->RVs K H J ds vs->∃f:List (yR×yA),f.map (·.2)=nss/\vs=f.map (λt=>V.ref t.1)/\∀t∈f,H t.1=Z9 (.tup (t.2.map V.int))
 |[],nss,vs,e,r=>by cases e;exact⟨[],rfl,r.nil_inv,λt h=>(by cases h)⟩
 |d::ds,nss,vs,e,r=>by
  unfold UT at e;split at e
  ·rename_i q;cases q
  ·rename_i u s q;cases q;split at e
   ·rename_i j o n l;cases e;obtain⟨v,x,rfl,i,k⟩:=r.cons_inv;obtain⟨f,a,b,c⟩:=MV l k;unfold RV at i;obtain⟨p,w,rfl,g,m⟩:=i;rw[Sv n m]at g;refine⟨(p,j)::f,by simp[a],by simp[b],λt ht=>?_⟩;rcases qA8.mp ht with rfl|ht
    ·exact g
    ·exact c t ht
   ·cases e
  ·cases e
theorem MU{K:yS}:∀{a:List (yR×yA)},(∀t∈a,H t.1=Z9 (.tup (t.2.map V.int)))->RVs K H J (a.map λt=>tD t.2) (a.map λt=>V.ref t.1)
 |[],_=>.nil
 |t::a,h=>.cons (by unfold tD RV;exact⟨t.1,_,rfl,h t (qD5 ..),RVs.ints⟩) (MU λu b=>h u (qC2 _ b))
theorem Iw(b:(a.map (·.2)).Perm nss)(hs:VH a):(XA nss).map tD=a.map λt=>tD t.2:=by rw[<- Iy b (qI8.mpr hs),qC8];rfl
noncomputable def PM:yM->M D:=λa S=>match a with
 |[x]=>match Vk S x with
  |some b=>.ok (.lst S.length) (S++[.lst b])
  |none=>.bad
 |_=>.bad
theorem yk(n:X.calm=Z7):V1 X.K (Yo X (.type "list")) PM:=by
 intro m S d p H J b Q e c f h;unfold PM at e;split at e
 ·split at e
  ·rename_i o k;cases e;obtain⟨v,rfl,r⟩:=f.one;obtain⟨a,b,rfl,j,i⟩:=c.seq r k;exact⟨_,Dk,a,b,rfl,j,λl g=>h.newL c g i⟩
  ·cases e
 ·cases e
noncomputable def WD:yM->M D:=λc S=>match c with
 |[.lst n]=>match (ZH S n).bind Ws with
  |some a=>if a.length<64 then .ok (.lst S.length) (S++[.lst ((XQ a).map D.int)])else .bad
  |none=>match (ZH S n).bind UT with
   |some b=>if Wg b.length then .ok (.lst S.length) (S++[.lst ((XA b).map tD)])else .bad
   |none=>.bad
 |[.tup c]=>match Ws c with
  |some a=>if a.length<64 then .ok (.lst S.length) (S++[.lst ((XQ a).map D.int)])else .bad
  |none=>.bad
 |_=>.bad
theorem yj(w:X.calm=Z7)(I:X.A.units+64<j5):V1 X.K (Yo X (.builtin "sorted")) WD:=by
 intro K S d M H J G Q e g k h;unfold WD at e;split at e
 ·split at e
  ·rename_i j i;split at e
   ·rename_i b;cases e;obtain⟨D,o,m⟩:=qA2.mp i;obtain⟨v,rfl,r⟩:=k.one;unfold RV at r;obtain⟨a,rfl,n⟩:=r;obtain⟨F,q,p⟩:=g.sq n o;have z:=Sv m p;subst z;refine⟨_,Bx,a,j,rfl,q,b,λl A b c f=>?_⟩;rw[IC c f];exact h.newL g b RVs.ints
   ·cases e
  ·split at e
   ·rename_i B i;split at e
    ·rename_i x;cases e;obtain⟨D,o,m⟩:=qA2.mp i;obtain⟨v,rfl,r⟩:=k.one;unfold RV at r;obtain⟨a,rfl,n⟩:=r;obtain⟨F,q,p⟩:=g.sq n o;obtain⟨C,u,rfl,s⟩:=MV m p;refine⟨_,AN w (by omega),a,C,rfl,q,λt ht=>Zp.of (s t ht),by rw[<- u,qA0]at x;exact x,λl y b c f=>?_⟩;rw[Iw (by rw[<- u];exact c.map _) f]at h;exact h.newL g b (MU λt ht=>s t (c.mem_iff.mp ht))
    ·cases e
   ·cases e
 ·split at e
  ·rename_i j i;split at e
   ·rename_i b;cases e;obtain⟨v,rfl,r⟩:=k.one;unfold RV at r;obtain⟨a,L,rfl,c,E⟩:=r;rw[Sv i E]at c;refine⟨_,AO w,a,j,rfl,Zp.of c,b,λl A b c f=>?_⟩;rw[IC c f];exact h.newL g b RVs.ints
   ·cases e
  ·cases e
 ·cases e
noncomputable def V9:yM->M D:=λb S=>match b with
 |[.lst n]=>match (ZH S n).bind Ws with
  |some a=>if(a.all λi=>decide (0<=i)&&decide (i<=1000000))=Z7/\a.length<=1000000 then .ok (.int a.sum) S else .bad
  |none=>.bad
 |[.tup b]=>match Ws b with
  |some a=>if(a.all λi=>decide (0<=i)&&decide (i<=1000000))=Z7/\a.length<=1000000 then .ok (.int a.sum) S else .bad
  |none=>.bad
 |_=>.bad
theorem yi(l:X.calm=Z7):V1 X.K (Yo X (.builtin "sum")) V9:=by
 intro u S d x H J t Q e g k h;unfold V9 at e;split at e
 ·split at e
  ·rename_i c p;split at e
   ·rename_i b;cases e;obtain⟨w,o,f⟩:=qA2.mp p;obtain⟨v,rfl,r⟩:=k.one;unfold RV at r;obtain⟨a,rfl,m⟩:=r;obtain⟨s,q,i⟩:=g.sq m o;have z:=Sv f i;subst z;refine⟨_,Bw l,a,c,rfl,q,λn j=>?_,b.2,h.self g XN⟩;have:=qD9.mp b.1 n j;simpa using this
   ·cases e
  ·cases e
 ·split at e
  ·rename_i c f;split at e
   ·rename_i b;cases e;obtain⟨v,rfl,r⟩:=k.one;unfold RV at r;obtain⟨a,s,rfl,q,i⟩:=r;have z:=Sv f i;subst z;refine⟨_,Bv l,a,c,rfl,Zp.of q,λn j=>?_,b.2,h.self g XN⟩;have:=qD9.mp b.1 n j;simpa using this
   ·cases e
  ·cases e
 ·cases e
def Re(K:yS)(T:String)(r:V->List V->Hp->VK->Prop)(o:D->yM->M D):Prop:=∀x a S d c H J v b Q,o x a S=.ok d c->SR K J S H->RV K H J x v->RVs K H J a b->XS K J H d c Q->r v b H Q
noncomputable def WC(T:String)(x:D)(S:ZU):Bool:=match x with
 |.lst n=>decide (T = "list")&&(ZH S n).isSome
 |.dct n=>decide (T = "dict")&&(match S[n]? with|some (.dk _)=>Z7|some (.dt _)=>Z7|_=>Z5)
 |.int _=>decide (T = "int")
 |.str _=>decide (T = "str")
 |_=>Z5
theorem yh{K:yS}(f:SR K J S H)(h:WC T x S=Z7)(r:RV K H J x v):NT K T v H:=by
 unfold WC at h;split at h
 ·simp only[qC4,decide_eq_true_eq]at h;obtain⟨b,c⟩:=h;obtain⟨l,k⟩:=qK7.mp c;unfold RV at r;obtain⟨a,rfl,d⟩:=r;obtain⟨j,q,_⟩:=f.sq d k;exact .inl ⟨b,j,q⟩
 ·simp only[qC4,decide_eq_true_eq]at h;obtain⟨b,c⟩:=h;unfold RV at r;obtain⟨a,rfl,d⟩:=r;split at c
  ·rename_i e g;obtain⟨i,q,_⟩:=f.get d g;exact .inr (.inr (.inl ⟨b,.inl ⟨i,q⟩⟩))
  ·rename_i e g;obtain⟨i,q,_⟩:=f.get d g;exact .inr (.inr (.inl ⟨b,.inr ⟨i,q⟩⟩))
  ·cases c
 ·unfold RV at r;subst r;exact(of_decide_eq_true h:T = "int")
 ·unfold RV at r;subst r;exact(of_decide_eq_true h:T = "str")
 ·cases h
noncomputable def W2(T:String)(o:D->yM->M D)(a:C)(b:CA):C:=fun B=>Za (a B) λx S=>if WC T x S then Za (b B) (λc=>o x c) S else .bad
variable {o e:y4}{es:yE}{co:C}{ca:CA}{name:Str}{apos cpos:Pos}{T id:String}{m:D->yM->M D}
theorem MT(u:PlainAttrs T)(j:Slot T name id)(l:typeOf (.builtin id)=pure (.type "method_descriptor"))(E:Re X.K T (TR X id) m)(G:PE X o (ZA X.K co))(w:PA X (e::es) (YS X.K ca))
  (b:f6 o name X.env (vL o X.env)=vL o X.env)
  (i:((wK cpos (jE (e::es) X.env)).all (λx=>!x.1)&&(backToKw cpos (lJ [] X.env)).all (λx=>x.1.isSome)
   && decide ((e::es).length+([]:List gQ).length+(if([]:List gQ).isEmpty then 0 else 1)<30))=Z7)
  (f:(apos.endLine == cpos.line)=Z7) (hs:jE (e::es) X.env=(Z5,vL e X.env)::jE es X.env) (a:(wK cpos (jE es X.env)).any (·.1)=Z5) :
  PE X (.Call (.Attribute o name apos) (e::es) [] cpos) (ZA X.K (W2 T m co ca)):=(Dh u j l Ab G w b i f hs a).weak (by
 rintro Z H Q ⟨J,B,S,d,O,F,p,e,y⟩;obtain⟨x,q,N,e⟩:=Y9 e;split at e
 ·rename_i hk;obtain⟨r,n,K,e⟩:=Y9 e;refine⟨J,B,S,x,q,F,p,N,λv P I g k s=>⟨yh g hk s,I,B,q,r,n,g,p.up k,K,λt L z h c A=>?_⟩⟩;exact E x r n d O L z v t Q e h (RV.up c.tk c.ext _ _ s) A (y.shift (k.trans c h.nd))
 ·cases e)
noncomputable def XJ(g:yM->yM->Option (yM×D)):D->yM->M D:=λx a S=>match x with
 |.lst n=>match S[n]? with
  |some (.lst c)=>match g c a with
   |some (b,d)=>.ok d (S.set n (.lst b))
   |none=>.bad
  |_=>.bad
 |_=>.bad
theorem SR.putL{K:yS}{c:yM}(g:SR K J S H)(f:J[n]?=Z9 p)(b:H p=Z9 (.lst d))(r:RVs K H J c a):SR K J (S.set n (.lst c)) (ZE H p (.lst a))/\ZJ K J J H (ZE H p (.lst a)) :=
 g.put f b (λ_ z=>by cases z) (λ_ _ z=>by cases z) ⟨a,Xg,RVs.up (P4 b) ⟨[],by simp⟩ _ _ r⟩
theorem Iv{g:yM->yM->Option (yM×D)}
  (h:∀(K:yS) H J ys xs b d a c,g ys xs=Z9 (b,d)->RVs K H J ys a->RVs K H J xs c->∃j w,RVs K H J b j/\RV K H J d w/\∀(p:yR) (Q:VK),H p=Z9 (.lst a)->Q w (ZE H p (.lst j))->TR X id (.ref p) c H Q):Re X.K "list" (TR X id) (XJ g):=by
 intro x xs S d F H J v c Q e q k rs y;unfold XJ at e;split at e
 ·rename_i n;split at e
  ·rename_i ys z;split at e
   ·rename_i b E s;cases e;unfold RV at k;obtain⟨p,rfl,l⟩:=k;obtain⟨a,r,A⟩:=q.lst l z;obtain⟨j,w,B,u,i⟩:=h X.K H J ys xs b d a c s A rs;obtain⟨t,f⟩:=q.putL l r B;exact i p Q r (y w _ J t f (RV.up f.tk f.ext _ _ u))
   ·cases e
  ·cases e
 ·cases e
noncomputable def VZ:yM->yM->Option (yM×D):=λa b=>match b with
 |[x]=>if a.length<lim then Z9 (a++[x],.non)else Z8
 |_=>Z8
theorem yg:Re X.K "list" (TR X "list.append") (XJ VZ):=Iv λK H J l i k d b j e a g=>by
 unfold VZ at e;split at e
 ·split at e
  ·rename_i h;cases e;obtain⟨v,rfl,c⟩:=g.one;exact⟨b++[v],.non,a.append (.cons c .nil),TN,λp Q f q=>⟨_,Kd,p,b,v,rfl,rfl,f,by rw[<- a.len];exact PV h,q⟩⟩
  ·cases e
 ·cases e
noncomputable def W1:yM->yM->Option (yM×D):=λa b=>match b with
 |[.int i,x]=>if a.length<1000/\0<=i/\i.toNat<=a.length then Z9 (a.take i.toNat++x::a.drop i.toNat,.non)else Z8
 |_=>Z8
theorem yf:Re X.K "list" (TR X "list.insert") (XJ W1):=Iv λK H J y t r d b w e a h=>by
 unfold W1 at e;split at e
 ·rename_i i x;split at e
  ·rename_i j;cases e;obtain⟨f,s,k⟩:=j;obtain⟨v,u,rfl,c,g⟩:=h.two;unfold RV at c;subst c;have l:i=((i.toNat:Nat):Int):=by omega
   exact⟨b.take i.toNat++u::b.drop i.toNat,.non,(a.take _).append (.cons g (a.drop _)),TN,λp Q n q=>⟨_,Cy,p,b,i.toNat,u,rfl,by rw[<- l],n,by rw[<- a.len];exact f,by rw[<- a.len];exact k,q⟩⟩
  ·cases e
 ·cases e
noncomputable def Sr:D->yM->M D:=λx c S=>match x,c with
 |.lst n,[.lst k]=>match S[n]?,S[k]? with
  |some (.lst b),Z9 (.lst a)=>if b.length+a.length<=lim then .ok .non (S.set n (.lst (b++a)))else .bad
  |_,_=>.bad
 |.lst n,[.tup a]=>match S[n]? with
  |some (.lst b)=>if b.length+a.length<=lim then .ok .non (S.set n (.lst (b++a)))else .bad
  |_=>.bad
 |_,_=>.bad
theorem ye:Re X.K "list" (TR X "list.extend") Sr:=by
 intro x E S d G H J v F Q e g i rs y;unfold Sr at e;split at e
 ·split at e
  ·rename_i w B r A;split at e
   ·rename_i q;cases e;unfold RV at i;obtain⟨p,rfl,b⟩:=i;obtain⟨u,rfl,f⟩:=rs.one;unfold RV at f;obtain⟨t,rfl,z⟩:=f;obtain⟨j,c,h⟩:=g.lst b r;obtain⟨s,l,a⟩:=g.lst z A;obtain⟨n,k⟩:=g.putL b c (h.append a);exact⟨_,De,p,t,j,s,rfl,rfl,c,l,by rw[<- h.len,<- a.len];exact Sw q,y _ _ J n k TN⟩
   ·cases e
  ·cases e
 ·split at e
  ·rename_i w r;split at e
   ·rename_i q;cases e;unfold RV at i;obtain⟨p,rfl,b⟩:=i;obtain⟨u,rfl,f⟩:=rs.one;unfold RV at f;obtain⟨t,s,rfl,l,a⟩:=f;obtain⟨j,c,h⟩:=g.lst b r;obtain⟨n,k⟩:=g.putL b c (h.append a);exact⟨_,BC,p,t,j,s,rfl,rfl,c,Zp.of l,by rw[<- h.len,<- a.len];exact Sw q,y _ _ J n k TN⟩
   ·cases e
  ·cases e
 ·cases e
noncomputable def Iu(n:Nat)(i v:D)(S:ZU):Option ZU:=match S[n]?,i with
 |some (.dt a),.tup ks=>match ks.mapM Wb with
  |some k=>if a.length<lim then Z9 (S.set n (.dt (Wa a k v)))else Z8
  |none=>Z8
 |some (.dk []),.tup ks=>match ks.mapM Wb with
  |some k=>Z9 (S.set n (.dt [(k,v)]))
  |none=>Z8
 |_,_=>Z8
theorem Ir(l:X.A.units+1<j5):Wk X (λo i v H Q=>∃a b k,o=.ref a/\i=.ref b/\H b=Z9 (.tup (k.map kV))/\((∃kvs,H a=Z9 (.dT kvs)/\kvs.length<y8/\Q (ZE H a (.dT (Y5 kvs k v))))∨(H a=Z9 (.dK [])/\Q (ZE H a (.dT [(k,v)]))))):=by
 intro r s Z H o i v p y u Q I j t n h;obtain⟨a,b,k,rfl,rfl,d,⟨kvs,c,x,q⟩| ⟨c,q⟩⟩:=h
 ·obtain rfl:p=Value.ref a:=j;exact NM l I (Xu.t c d x) t n λw f=>⟨_,f,q⟩
 ·obtain rfl:p=Value.ref a:=j;have g:ZE H a (.dT []) b=Z9 (.tup (k.map kV)):=by rw[YX (λz=>by rw[z,c]at d;cases d)];exact d
  refine NM l (I.dTnil c) (Xu.t (kvs:=[]) Xg g (by decide)) t n λw f=>⟨_,f,?_⟩
  rw[FB];exact q
noncomputable def XE:D->D->D->ZU->Option ZU:=λx i v S=>match x with
 |.lst n=>match S[n]?,i with
  |some (.lst b),.int k=>match Ww b.length k with
   |some j=>Z9 (S.set n (.lst (b.set j v)))
   |none=>Z8
  |_,_=>Z8
 |.dct n=>match S[n]?,Wb i with
  |some (.dk a),Z9 k=>if a.length<lim then Z9 (S.set n (.dk (Wa a k v)))else Z8
  |_,_=>Iu n i v S
 |_=>Z8
theorem yd(j:X.A.units+1<j5):Wk X (λo i v H Q=>∃a b,o=.ref a/\Xu H a i v b/\Q b):=by intro c s Z H o i v l r u Q I d n k h;obtain⟨a,b,rfl,g,q⟩:=h;obtain rfl:l=Value.ref a:=d;exact NM j I g n k λp f=>⟨b,f,q⟩
theorem yc(E:X.A.units+1<j5){S O:ZU}(e:XE x i v S=Z9 O)(f:SR X.K J S H)(t:RV X.K H J x L)(s:RV X.K H J i N)(w:RV X.K H J v g)(y:∀K ,SR X.K J O K->ZJ X.K J J H K->Q K):IV X L N g H Q:=by
 unfold XE at e;split at e
 ·split at e
  ·rename_i W k r;split at e
   ·rename_i j R;cases e;unfold RV at t s;obtain⟨p,rfl,a⟩:=t;subst s;obtain⟨P,d,c⟩:=f.lst a r;obtain⟨q,n⟩:=f.putL a d (c.set w j);exact⟨_,Dt,p,P,k,j,rfl,rfl,d,by rw[<- c.len];exact R,y _ q n⟩
   ·cases e
  ·cases e
 ·split at e
  ·rename_i l k r hk;split at e
   ·rename_i G;cases e;unfold RV at t;obtain⟨p,rfl,a⟩:=t;obtain⟨h,d,c⟩:=f.get a r;have z:=PQ hk s;subst z;have u:TF X.K H (ZE H p (.dK (Y5 h k g))):=Sz d (λ_ z=>by cases z) (λ_ _ z=>by cases z);obtain⟨q,n⟩:=f.put (o:=.dK (Y5 h k g)) (o':=.dk (Wa l k v)) a d (λ_ z=>by cases z) (λ_ _ z=>by cases z) ⟨_,Xg,(c.put w).up u ⟨[],by simp⟩⟩;exact⟨_,yd E,p,_,rfl,Xu.k d (by rw[<- c.len];exact PV G),y _ q n⟩
   ·cases e
  ·rename_i A;clear A;unfold Iu at e;unfold RV at t;obtain⟨p,rfl,a⟩:=t;split at e
   ·rename_i l ks r;unfold RV at s;obtain⟨b,bs,rfl,I,F⟩:=s;split at e
    ·rename_i k hk;have:=PN hk F;subst this;split at e
     ·rename_i G;cases e;obtain⟨h,d,c⟩:=f.get a r;have u:TF X.K H (ZE H p (.dT (Y5 h k g))):=Sz d (λ_ z=>by cases z) (λ_ _ z=>by cases z);obtain⟨q,n⟩:=f.put (o:=.dT (Y5 h k g)) (o':=.dt (Wa l k v)) a d (λ_ z=>by cases z) (λ_ _ z=>by cases z) ⟨_,Xg,(c.put w).up u ⟨[],by simp⟩⟩;exact⟨_,Ir E,p,b,k,rfl,rfl,I,.inl ⟨h,d,by rw[<- c.len];exact PV G,y _ q n⟩⟩
     ·cases e
    ·cases e
   ·rename_i ks r;unfold RV at s;obtain⟨b,bs,rfl,I,F⟩:=s;split at e
    ·rename_i k hk;cases e;have:=PN hk F;subst this;obtain⟨h,B,c⟩:=f.get a r;have U:h=[]:=qD0.mp c.len.symm;subst U;have u:TF X.K H (ZE H p (.dT [(k,g)])):=Sz B (λ_ z=>by cases z) (λ_ _ z=>by cases z);obtain⟨q,n⟩:=f.put (o:=.dT [(k,g)]) (o':=.dt [(k,v)]) a B (λ_ z=>by cases z) (λ_ _ z=>by cases z) ⟨_,Xg,YK.cons (RV.up u ⟨[],by simp⟩ _ _ w) .nil⟩;exact⟨_,Ir E,p,b,k,rfl,rfl,I,.inr ⟨B,y _ q n⟩⟩
    ·cases e
   ·cases e
 ·cases e
end
inductive RS where
 |bad|nx (B:ZR) (S:ZU)| rt (d:D) (S:ZU)| bk (B:ZR) (S:ZU)| ct (B:ZR) (S:ZU)| er (c:Str) (S:ZU)
abbrev CS:=ZR->ZU->RS
def US(X:Cx)(J:yC)(H:Hp)(E:Xw):RS->Prop
 |.bad=>False
 |.er _ _=>False
 |.nx f e=>∀c a b,SR X.K b e a->ZJ X.K J b H a->RE X.K a b f c->E.nx c a
 |.bk f e=>∀c a b,SR X.K b e a->ZJ X.K J b H a->RE X.K a b f c->E.bk c a
 |.ct f e=>∀c a b,SR X.K b e a->ZJ X.K J b H a->RE X.K a b f c->E.ct c a
 |.rt d e=>XS X.K J H d e E.rt
inductive Zb(X:Cx)(c:CS)(E:Xw)(Z:St)(H:Hp):Prop
 |mk (J:yC) (B:ZR) (S:ZU) (sr:SR X.K J S H) (re:RE X.K H J B Z) (y:US X J H E (c B S))
theorem US.shift(h:US X J H E r)(st:ZJ X.K J i H j):US X i j E r:=by
 cases r with
 |bad=>exact h
 |er _ _=>exact h
 |nx B S=>exact fun c b f a g e=>h c b f a (st.trans g a.nd) e
 |bk B S=>exact fun c b f a g e=>h c b f a (st.trans g a.nd) e
 |ct B S=>exact fun c b f a g e=>h c b f a (st.trans g a.nd) e
 |rt d S=>exact XS.shift h st
noncomputable def ZG:CS:=fun B S=>.nx B S
noncomputable def TJ:CS:=fun B S=>.bk B S
noncomputable def TH:CS:=fun B S=>.ct B S
noncomputable def Rc:CS:=λ_ _=>.bad
noncomputable def MS:CS:=λ_ S=>.rt .non S
noncomputable def ZF(c:C):CS:=fun B S=>match c B S with
 |.ok d a=>.rt d a
 |.bad=>.bad
 |.er _ _=>.bad
noncomputable def Xd(c:C):CS:=fun B S=>match c B S with
 |.ok _ a=>.nx B a
 |.bad=>.bad
 |.er _ _=>.bad
noncomputable def ZV(a b:CS):CS:=fun B S=>match a B S with
 |.nx c d=>b c d
 |r=>r
noncomputable def YR(t:CT)(a b:CS):CS:=fun B S=>match t B S with
 |.ok k c=>if k then a B c else b B c
 |.bad=>.bad
 |.er _ _=>.bad
abbrev G:=D->ZR->M ZR
noncomputable def ZP(c:C)(g:G):CS:=fun B S=>match c B S with
 |.ok d e=>match g d B e with
  |.ok b a=>.nx b a
  |.bad=>.bad
  |.er _ _=>.bad
 |.bad=>.bad
 |.er _ _=>.bad
section
variable {X:Cx}{e a b tg:y4}{ce ca cb:C}{pos:Pos}
theorem yb:PS X (.Pass pos) (Zb X ZG):=E4.weak λE Z H ⟨J,B,S,d,c,p⟩=>p Z H J d (ZJ.refl _ _ _) c
theorem ya:PS X (.Break pos) (Zb X TJ):=E3.weak λE Z H ⟨J,B,S,d,c,p⟩=>p Z H J d (ZJ.refl _ _ _) c
theorem x9:PS X (.Continue pos) (Zb X TH):=E2.weak λE Z H ⟨J,B,S,d,c,p⟩=>p Z H J d (ZJ.refl _ _ _) c
theorem xZ{st:vW}:PS X st (Zb X Rc):=ET.weak λE Z H ⟨J,B,S,d,c,p⟩=>p
theorem xY:PS X (.Return Z8 pos) (Zb X MS):=EW.weak λE Z H ⟨J,B,S,c,d,p⟩=>p _ H J c (ZJ.refl _ _ _) TN
theorem xX(he:PE X e (ZA X.K ce)):PS X (.Return (Z9 e) pos) (Zb X (ZF ce)):=(EY he).weak (by
 rintro E Z H ⟨J,B,S,c,f,p⟩;unfold ZF at p;split at p
 ·rename_i d g h;exact⟨J,B,S,d,g,c,f,h,p⟩
 ·exact False.elim p
 ·exact False.elim p)
theorem xW(he:PE X e (ZA X.K ce))(hs:wW e Z8 pos.line X.env=pure Z5):PS X (.Expr e pos) (Zb X (Xd ce)):=(EZ he hs).weak (by
 rintro E Z H ⟨J,B,S,i,g,p⟩;unfold Xd at p;split at p
 ·rename_i d l h;exact⟨J,B,S,d,l,i,g,h,λv j k f c m=>p Z j k f c (g.up c)⟩
 ·exact False.elim p
 ·exact False.elim p)
theorem xV:XW X [] (Zb X ZG):=E8.weak λE Z H ⟨J,B,S,d,c,p⟩=>p Z H J d (ZJ.refl _ _ _) c
theorem xU{st:vW}{ZD:List vW}(i:PS X st (Zb X d))(j:XW X ZD (Zb X h)):XW X (st::ZD) (Zb X (ZV d h)):=(E7 i j).weak (by
 rintro E Z H ⟨J,B,S,m,k,p⟩;refine⟨J,B,S,m,k,?_⟩;unfold ZV at p;revert p;cases d B S with
 |nx n o=>exact λp q r l g c f=>⟨l,n,o,g,f,p.shift c⟩
 |bad=>exact λp=>p
 |er _ _=>exact λp=>p
 |rt _ _=>exact λp=>p
 |bk _ _=>exact λp=>p
 | ct _ _=>exact λp=>p)
theorem xT(ht:PT X t (YZ X.K m))(o:XW X j (Zb X l))(q:XW X bs (Zb X i)):PS X (.If t j bs pos) (Zb X (YR m l i)):=(EV ht o q).weak (by
 rintro E Z H ⟨J,B,S,r,f,p⟩;unfold YR at p;split at p
 ·rename_i k g h;refine⟨J,B,S,k,g,r,f,h,λs n d c=>?_⟩;cases k with
  |true=>rw[if_pos rfl]at p ⊢;exact⟨n,B,g,d,f.up c,p.shift c⟩
  |false=>rw[if_neg qB1]at p ⊢;exact⟨n,B,g,d,f.up c,p.shift c⟩
 ·exact False.elim p
 ·exact False.elim p)
inductive W0(K:yS)(g:G)(v:V)(Z:St)(H:Hp)(Q:St->Hp->Prop):Prop
 |mk (J:yC) (B:ZR) (S:ZU) (d:D) (B':ZR) (S':ZU) (sr:SR K J S H) (re:RE K H J B Z) (rv:RV K H J d v) (e:g d B S=.ok B' S') (y:∀Z' H' J',SR K J' S' H'->ZJ K J J' H H'->RE K H' J' B' Z'->Q Z' H')
theorem PG.weak(h:PG X tg t)(w:∀v Z H Q,t' v Z H Q->t v Z H Q):PG X tg t':=λc s Z H v u Q I r q=>h c s Z H v u Q I r (w v Z H Q q)
noncomputable def gN(i:Nat):G:=λd B S=>.ok (B.set i (Z9 d)) S
theorem xS(h:PG X (.Name x pos) (Ua i)):PG X (.Name x pos) (W0 X.K (gN i)):=h.weak (by
 rintro v Z H Q ⟨J,B,S,d,k,j,g,f,c,e,y⟩;unfold gN at e;cases e;exact y _ H J g (ZJ.refl _ _ _) (f.set c i))
noncomputable def gS(c f:C):G:=λd B=>Za (c B) λo=>Za (f B) λi S=>match XE o i d S with
 |some g=>.ok B g
 |none=>.bad
theorem xR(t:X.A.units+1<j5)(E:PE X a (ZA X.K ca))(I:PE X b (ZA X.K cb))(q:∀v,fE (.Subscript a b pos) X.env v=(do
   let i <- wI [v] (vL a X.env)
   let l <- wI [v,i] (vL b X.env)
   mT pos
   wI [v,i,l] (dS i l v)
   release [v,i,l] [])):PG X (.Subscript a b pos) (W0 X.K (gS ca cb)):=(ES E I Aa q).weak (by
 rintro v Z H Q ⟨J,B,S,d,O,R,D,n,u,e,y⟩;obtain⟨x,o,L,e⟩:=Y9 e;obtain⟨z,w,G,e⟩:=Y9 e;split at e
 ·rename_i M s;cases e;refine⟨J,B,S,x,o,D,n,L,λi N F m j K=>⟨F,B,o,z,w,m,n.up j,G,λl P r k f A=>?_⟩⟩;have c:=j.trans f k.nd;refine yc t s k (RV.up f.tk f.ext _ _ K) A (RV.up c.tk c.ext _ _ u) λp g h=>?_;exact y Z p r g (c.trans h g.nd) (n.up (c.trans h g.nd))
 ·cases e)
noncomputable def Uv:List G->yM->ZR->M ZR
 |[],[]=>fun B=>ret B
 |g::c,d::ds=>fun B=>Za (g d B) fun f=>Uv c ds f
 |_,_=>λ_=>bad
noncomputable def gT(f:List G):G:=λd B=>match d with
 |.tup c=>Uv f c B
 |_=>bad
inductive Rb(K:yS)(gs:List G)(vs:List V)(Z:St)(H:Hp)(Q:St->Hp->Prop):Prop
 |mk (J:yC) (B:ZR) (S:ZU) (ds:yM) (B':ZR) (S':ZU) (sr:SR K J S H) (re:RE K H J B Z) (rv:RVs K H J ds vs) (e:Uv gs ds B S=.ok B' S') (y:∀Z' H' J',SR K J' S' H'->ZJ K J J' H H'->RE K H' J' B' Z'->Q Z' H')
theorem Wl.weak(h:Wl X es t)(w:∀v Z H Q,t' v Z H Q->t v Z H Q):Wl X es t':=λc s Z H v u Q I r q=>h c s Z H v u Q I r (w v Z H Q q)
theorem xQ:Wl X [] (Rb X.K []):=KG.weak (by
 rintro v Z H Q ⟨J,B,S,ds,i,h,g,f,c,e,y⟩;cases ds with
 |nil =>
  obtain⟨rfl,rfl⟩:=Ys e;exact⟨c.nil_inv,y Z H J g (ZJ.refl _ _ _) f⟩
 | cons d ds=>cases e)
theorem xP(o:PG X e (W0 X.K g))(r:Wl X es (Rb X.K n))(hs:(jR (e::es) X.env).map (·.2)=fE e X.env::(jR es X.env).map (·.2)):Wl X (e::es) (Rb X.K (g::n)):=(KF o r hs).weak (by
 rintro v Z H Q ⟨J,B,S,ds,A,K,w,s,q,e,y⟩;cases ds with
 |nil=>cases e
 |cons d ds =>
  obtain⟨l,m,I,e⟩:=Y9 e;obtain⟨u,z,rfl,F,t⟩:=q.cons_inv;refine⟨u,z,rfl,J,B,S,d,l,m,w,s,F,I,fun L M D h c k=>?_⟩;exact⟨D,l,m,ds,A,K,h,k,RVs.up c.tk c.ext _ _ t,e,fun x E p f i j=>y x E p f (c.trans i f.nd) j⟩)
theorem xO:∀{ds:yM}{B f:ZR}{S h:ZU},Uv c ds B S=.ok f h->ds.length=c.length:=by
 induction c with
 |nil=>intro ds B f S h e;cases ds with|nil=>rfl|cons _ _=>cases e
 |cons g c i =>
  intro ds B f S h e;cases ds with
  |nil=>cases e
  |cons d ds =>
   obtain⟨l,k,j,e⟩:=Y9 e;rw[qC7,qC7,i e]
theorem xN(o:X.calm=Z7)(h:Wl X es (Rb X.K f))(s:(jR es X.env).length=f.length)(c:(jR es X.env).findIdx? (·.1)=Z8):PG X (.Tuple es k pos) (W0 X.K (gT f)) :=
 (KE o h s c).weak (by
 rintro v Z H Q ⟨J,B,S,d,r,t,m,l,g,e,y⟩;unfold gT at e;split at e
 ·rename_i n;unfold RV at g;obtain⟨p,j,rfl,q,i⟩:=g;exact⟨p,j,rfl,Zp.of q,by rw[<- i.len];exact xO e,J,B,S,n,r,t,m,l,i,e,y⟩
 ·cases e)
theorem Iq(he:PE X e (ZA X.K ce))(s:PG X tg (W0 X.K g))(hs:mG [tg] e pos.line X.env=pure Z5)(n:j8 [tg] e X.env=pure Z8)(o:(jR [tg] X.env).map (·.2)=[fE tg X.env]):PS X (.Assign [tg] e pos) (Zb X (ZP ce g)):=(ER he s hs n o).weak (by
 rintro E Z H ⟨J,B,S,u,l,p⟩;unfold ZP at p;split at p
 ·rename_i d m h;split at p
  ·rename_i x t r;refine⟨J,B,S,d,m,u,l,h,λv D y i f A=>⟨y,B,m,d,x,t,i,l.up f,A,r,fun w z q c j k=>?_⟩⟩;exact p w z q c (f.trans j c.nd) k
  ·exact False.elim p
  ·exact False.elim p
 ·exact False.elim p
 ·exact False.elim p)
theorem xM(h:PS X (.Assign [.Name x pos'] e pos) (VP (ZA X.K ce) (Ua i))):PS X (.Assign [.Name x pos'] e pos) (Zb X (ZP ce (gN i))):=h.weak (by
 rintro E Z H ⟨J,B,S,j,g,p⟩;unfold ZP at p;split at p
 ·rename_i d S' h;have l:gN i d B S'=.ok (B.set i (Z9 d)) S':=rfl;rw[l]at p;exact⟨J,B,S,d,S',j,g,h,λv k m f c n=>p _ k m f c ((g.up c).set n i)⟩
 ·exact False.elim p
 ·exact False.elim p)
noncomputable def Xo(i j:Nat)(a b:C):CS:=fun B S=>match a B S with
 |.ok x d=>match b B d with
  |.ok y c=>.nx ((B.set i (Z9 x)).set j (Z9 y)) c
  |.bad=>.bad
  |.er _ _=>.bad
 |.bad=>.bad
 |.er _ _=>.bad
theorem xK{n r c}(Q:X.calm=Z7)(N:X.N.Nodup)(W:X.N[i]?=Z9 x)(P:X.N[j]?=Z9 y)(l:i≠j)
  (A:X.env.scope.names.lookup x=Z9 .local) (R:X.env.scope.names.lookup y=Z9 .local) (E:PE X a (ZA X.K ca)) (V:PE X b (ZA X.K cb)) (Y:jE [a,b] X.env=(Z5,vL a X.env)::jE [b] X.env) (sb:jE [b] X.env=(Z5,vL b X.env)::jE [] X.env)
  (w:X.env.scope.kind=.function->j8 [.Tuple [.Name x q,.Name y m] n pt] (.Tuple [a,b] r c) X.env=pure (Z9 [x,y])) :
  PS X (.Assign [.Tuple [.Name x q,.Name y m] n pt] (.Tuple [a,b] r c) pos) (Zb X (Xo i j ca cb)):=by
 intro g s Z H D I h;refine EO Q N W P l A R (Sy E (Sy V PY sb) Y) (w I.ok.kind) rfl g s Z H D I ?_;obtain⟨J,B,S,M,o,p⟩:=h;unfold Xo at p;split at p
 ·rename_i d L z;split at p
  ·rename_i t K G;refine⟨J,B,S,[d,t],K,M,o,?_,λvs O T k f r1=>?_⟩
   ·show Za (ca B) _ S=_;unfold Za;rw[z];show Za (Za (cb B) _) _ L=_;unfold Za;rw[G];rfl
   ·obtain⟨v,u,rfl,F,U⟩:=r1.two;exact⟨v,u,rfl,p _ O T k f (((o.up f).set F i).set U j)⟩
  ·exact False.elim p
  ·exact False.elim p
 ·exact False.elim p
 ·exact False.elim p
noncomputable def WS:Nat->CT->CS->CS
 |0,_,_=>λ_ _=>.bad
 |k+1,t,b=>fun B S=>match t B S with
  |.ok Z7 f=>match b B f with
   |.nx d c=>WS k t b d c
   |.ct d c=>WS k t b d c
   |.bk d c=>.nx d c
   |r=>r
  |.ok Z5 f=>.nx B f
  |.bad=>.bad
  |.er _ _=>.bad
theorem xJ(k:Nat)(R:lX (yX X.prog X.w) X.A X.env X.xe)(ht:PT X t (YZ X.K ct))(P:XW X l (Zb X r)):PS X (.While t l [] pos) (Zb X (WS k ct r)):=(EM R ht P).weak (by
 rintro E T L ⟨x,N,Q,y,F,O⟩;refine⟨λm Z H=>∃J B S,SR X.K J S H/\ZJ X.K x J L H/\RE X.K H J B Z/\US X J H E (WS m ct r B S),⟨k,x,N,Q,y,ZJ.refl _ _ _,F,O⟩,?_⟩;rintro m Z H ⟨J,B,S,I,M,v,p⟩;cases m with
 |zero=>exact False.elim p
 |succ m =>
  unfold WS at p;split at p
  ·rename_i s h;refine⟨J,B,S,Z7,s,I,v,h,λK A j f=>?_⟩;dsimp only;rw[if_pos rfl];refine⟨fun G u=>∃J B S,SR X.K J S u/\ZJ X.K x J L u/\RE X.K u J B G/\US X J u E (WS m ct r B S),fun G u h=>⟨m,qH2 m,h⟩,A,B,s,j,v.up f,?_⟩;have n:=M.trans f j.nd;revert p;cases r B s with
   |nx w q=>exact λp z D o c g i=>⟨o,w,q,c,n.trans g c.nd,i,p.shift (f.trans g c.nd)⟩
   |ct w q=>exact λp z D o c g i=>⟨o,w,q,c,n.trans g c.nd,i,p.shift (f.trans g c.nd)⟩
   |bk w q=>exact λp z D o c g i=>p z D o c (f.trans g c.nd) i
   |rt d q=>exact λp=>XS.shift p f
   |bad=>exact λp=>p
   |er _ _=>exact λp=>p
  ·rename_i s h;refine⟨J,B,S,Z5,s,I,v,h,λK A j f=>?_⟩;dsimp only;rw[if_neg qB1];exact p Z K A j f (v.up f)
  ·exact False.elim p
  ·exact False.elim p)
abbrev Xc:=List (Nat×yM)
def X2(w:Xc)(S:ZU):Prop:=∀p∈w,ZH S p.1=Z9 p.2
abbrev CI:=ZR->M (yM×Xc)
structure WZ(K:yS)(JJ:It)(items:yM)(w:Xc)(J0:yC)(H0:Hp):Prop where
 go:∀(i:Nat) H J S,SR K J S H->ZJ K J0 J H0 H->X2 w S->i<items.length->JJ.go i H
 yld:∀(i:Nat) H J S x H',SR K J S H->ZJ K J0 J H0 H->X2 w S->i<items.length->JJ.yld i H x H'->∃d,items[i]?=Z9 d/\SR K J S H'/\ZJ K J J H H'/\RV K H' J d x
 stop:∀H J S,SR K J S H->ZJ K J0 J H0 H->X2 w S->JJ.stop items.length H
inductive YA(K:yS)(it:CI)(Z:St)(H:Hp)(R:It->Hp->Prop):Prop
 |mk (J:yC) (B:ZR) (S:ZU) (items:yM) (w:Xc) (S':ZU) (sr:SR K J S H) (re:RE K H J B Z) (e:it B S=.ok (items,w) S') (y:∀JJ H' J',SR K J' S' H'->ZJ K J J' H H'->WZ K JJ items w J' H'->R JJ H')
theorem PI.weak(h:PI X tg iter t)(w:∀Z H R,t' Z H R->t Z H R):PI X tg iter t':=λc s Z H R I q=>h c s Z H R I (w Z H R q)
theorem ZJ.at{K:yS}(st:ZJ K J c H d){n:Nat}{a:yR}(h:J[n]?=Z9 a):c[n]?=Z9 a:=by obtain⟨f,rfl⟩:=st.ext;rw[qB0 (qA7.mp h).1];exact h
open Classical in
noncomputable def YV(w:Xc)(g:G)(b:CS):yM->CS
 |[]=>fun B S=>if X2 w S then .nx B S else .bad
 | d::ds=>fun B S=>if X2 w S then(match g d B S with
  |.ok i h=>match b i h with
   |.nx f c=>YV w g b ds f c
   |.ct f c=>YV w g b ds f c
   |.bk f c=>.nx f c
   |r=>r
  |.bad=>.bad
  | .er _ _=>.bad)else .bad
noncomputable def Ze(d:CI)(g:G)(b:CS):CS:=fun B S=>match d B S with
 |.ok (c,w) f=>YV w g b c B f
 |.bad=>.bad
 |.er _ _=>.bad
theorem xI(sr0:SR X.K r S0 t)(re0:RE X.K t r B Z)(io:WZ X.K Q items w r t)(p:US X r t E (YV w g v items B S0)):
  ∃W:Nat->Nat->St->Hp->Prop,(∃m,W 0 m Z t)/\∀i m Z H,W i m Z H->(Q.stop i H/\E.nx Z H)∨(Q.go i H/\∃N:St->Hp->Prop,(∀y l,N y l->∃m',m'<m/\W (i+1) m' y l)/\∀x l,Q.yld i H x l->W0 X.K g x Z l fun Z2 H2=>Zb X v { E with nx:=N,ct:=N,bk:=E.nx } Z2 H2):=by
 refine⟨λi m Z H=>i+m=items.length/\∃J B S,SR X.K J S H/\ZJ X.K r J t H/\RE X.K H J B Z/\US X J H E (YV w g v (items.drop i) B S),⟨items.length,by simp,r,B,S0,sr0,ZJ.refl _ _ _,re0,by rw[qM8];exact p⟩,?_⟩;rintro i m Z1 O ⟨him,D,B1,M,n,o,I,j⟩;by_cases P:i<items.length
 ·rw[qI5 P]at j;unfold YV at j;split at j
  ·rename_i L;refine .inr ⟨io.go i O D M n o L P,fun y l=>i+1+(m - 1)=items.length/\∃J B S,SR X.K J S l/\ZJ X.K r J t l/\RE X.K l J B y/\US X J l E (YV w g v (items.drop (i+1)) B S),fun y l z=>⟨m - 1,by omega,z⟩,λx H2 hy=>?_⟩;obtain⟨d,hd,sr2,u,rv⟩:=io.yld i O D M x H2 n o L P hy;have ed:items[i]=d:=by rw[qA4 P]at hd;exact Option.some.inj hd
   rw[ed]at j;split at j
   ·rename_i V U h3;refine⟨D,B1,M,d,V,U,sr2,I.up u,rv,h3,fun Z3 H3 J3 s st3 Y=>⟨J3,V,U,s,Y,?_⟩⟩;have f:=u.trans st3 s.nd;have q:=o.trans f s.nd;revert j;cases v V U with
    |nx K F=>exact λp R T A c h k=>⟨by omega,A,K,F,c,q.trans h c.nd,k,p.shift (f.trans h c.nd)⟩
    |ct K F=>exact λp R T A c h k=>⟨by omega,A,K,F,c,q.trans h c.nd,k,p.shift (f.trans h c.nd)⟩
    |bk K F=>exact λp R T A c h k=>p R T A c (f.trans h c.nd) k
    |rt d F=>exact λp=>XS.shift p f
    |bad=>exact λp=>p
    |er _ _=>exact λp=>p
   ·exact False.elim j
   ·exact False.elim j
  ·exact False.elim j
 ·have e:i=items.length:=by omega
  subst e;rw[qS4]at j;unfold YV at j;split at j
  ·rename_i L;exact .inl ⟨io.stop O D M n o L,j Z1 O D n (ZJ.refl _ _ _) I⟩
  ·exact False.elim j
theorem xH(u:lX (yX X.prog X.w) X.A X.env X.xe)(o:X.calm=Z7)(s:PI X tg iter (YA X.K i))(m:PG X tg (W0 X.K g))(r:XW X c (Zb X j))
  (hs:∀x,vY iter X.env x=pure x):PS X (.For tg iter c [] pos) (Zb X (Ze i g j)):=(EF u o s m r hs).weak (by
 rintro E Z H ⟨J,B,S,n,k,p⟩;unfold Ze at p;split at p
 ·rename_i d w t l;exact⟨J,B,S,d,w,t,n,k,l,λz y v h f q=>xI h (k.up f) q (p.shift f)⟩
 ·exact False.elim p
 ·exact False.elim p)
end
section
variable {X:Cx}{tg e:y4}{ce:C}{pos:Pos}
noncomputable def Zq(c:C):CI:=fun B=>Za (c B) λx S=>match x with
 |.tup a=>.ok (a,[]) S
 |.lst n=>match ZH S n with
  |some a=>.ok (a,[(n,a)]) S
  |none=>.bad
 |_=>.bad
theorem xG{K:yS}{g:Hp}{h:yC}{a:yR}{xs:yM}{c:List V}(q:Zp K g a c)(r:RVs K g h xs c):WZ K (Od K a) xs [] h g where
 go:=λi H J S f b _ d=>by obtain⟨v,e,_⟩:=r.get (qA4 d);exact⟨c,v,b.tk.t _ _ q,e⟩
 yld:=λi H J S x k f b _ d y=>by obtain⟨rfl,y⟩:=y;obtain⟨v,e,j⟩:=r.get (qA4 d);have:=y c (b.tk.t _ _ q);rw[e]at this;cases this;exact⟨xs[i],qA4 d,f,ZJ.refl _ _ _,RV.up b.tk b.ext _ _ j⟩
 stop:=λH J S f b _=>⟨c,b.tk.t _ _ q,by rw[r.len];exact qA6 _⟩
theorem xF{K:yS}{k:Hp}{h:yC}{a:yR}{n:Nat}{xs:yM}(g:h[n]?=Z9 a):WZ K (Oe K a) xs [(n,xs)] h k where
 go:=λi H J S b c w f=>by obtain⟨d,q,r⟩:=b.sq (c.at g) (w (n,xs) (by simp));obtain⟨v,e,_⟩:=r.get (qA4 f);exact⟨d,v,q,e⟩
 yld:=λi H J S x l b c w f y=>by obtain⟨rfl,y⟩:=y;obtain⟨d,q,r⟩:=b.sq (c.at g) (w (n,xs) (by simp));obtain⟨v,e,j⟩:=r.get (qA4 f);have:=y d q;rw[e]at this;cases this;exact⟨xs[i],qA4 f,b,ZJ.refl _ _ _,j⟩
 stop:=λH J S b c w=>by obtain⟨d,q,r⟩:=b.sq (c.at g) (w (n,xs) (by simp));exact⟨d,q,by rw[r.len];exact qA6 _⟩
theorem xE(r:PE X e l):PI X tg e (fun Z H R=>l Z H λx f=>∃a,x=.ref a/\((∃xs,YT X.K f a xs)/\R (Oe X.K a) f∨(∃xs,Zp X.K f a xs)/\R (Od X.K a) f
  ∨ False)):=by
 intro i s Z H R I h;refine Zv (r i s Z H _ I h) λv c ⟨x,f,d,u,t⟩=>?_;obtain⟨a,e,q⟩:=t;subst e;cases u;rcases q with⟨⟨xs,k⟩,q⟩| ⟨⟨xs,k⟩,q⟩| q
 ·obtain⟨g,n,p,m⟩:=d.list k;refine j9 p.isList ?_;refine⟨c.heap.objs.size,[c.heap.objs.size],_,_,f,rfl,d.kept (t':=c.toks) λb o e=>qA1 _ e,EL a _,⟨_,qB2 _ rfl,rfl,rfl⟩,λb j=>?_,q⟩;have e:b=c.heap.objs.size:=by simpa using j
  subst e;exact d.fpOk (qA6 _) (d.hok.fresh (qA6 _))
 ·obtain⟨g,n,p,m⟩:=d.tuple k;refine jY (show c.heap.IsTuple a g.toArray from p) ?_;refine⟨c.heap.objs.size,[c.heap.objs.size],_,_,f,rfl,d.kept (t':=c.toks) λb o e=>qA1 _ e,EK a _,⟨_,qB2 _ rfl,rfl,rfl⟩,λb j=>?_,q⟩;have e:b=c.heap.objs.size:=by simpa using j
  subst e;exact d.fpOk (qA6 _) (d.hok.fresh (qA6 _))
 ·skip
  exact q.elim
theorem xD(he:PE X e (ZA X.K ce)):PI X tg e (YA X.K (Zq ce)):=(xE he).weak (by
 rintro Z H R ⟨J,B,S,f,w,u,r,o,e,y⟩;obtain⟨x,p,t,e⟩:=Y9 e;refine⟨J,B,S,x,p,r,o,t,λv j k b d h=>?_⟩
 try dsimp only at e
 split at e
 ·rename_i s;cases e;have c:=h;unfold RV at c;obtain⟨a,g,rfl,q,l⟩:=c;exact⟨a,rfl,.inr (.inl ⟨⟨g,Zp.of q⟩,y _ j k b d (xG (Zp.of q) l)⟩)⟩
 ·rename_i n;split at e
  ·rename_i s m;cases e;unfold RV at h;obtain⟨a,rfl,i⟩:=h;obtain⟨g,q,l⟩:=b.sq i m;exact⟨a,rfl,.inl ⟨⟨g,q⟩,y _ j k b d (xF i)⟩⟩
  ·cases e
 ·cases e)
noncomputable def Zd(a:Int)(n:Nat):yM:=(List.range n).map λk=>D.int (a+(k:Nat))
theorem Ip{K:yS}{g:Hp}{h:yC}{b:Int}{n:Nat}:WZ K (RK b n) (Zd b n) [] h g where
 go:=λi H J S d f _ a=>by unfold Zd at a;simp at a;exact a
 yld:=λi H J S x j d f _ a y=>by
  obtain⟨rfl,rfl⟩:=y;have c:i<n:=by unfold Zd at a;simp at a;exact a
  exact⟨.int (b+i),by unfold Zd;rw[qB3,qH0 c];rfl,d,ZJ.refl _ _ _,XN⟩
 stop:=λH J S d f _=>by show n<=(Zd b n).length;unfold Zd;simp
noncomputable def big:Int:=4611686018427387904
noncomputable def VY(a:CA):CI:=fun B=>Za (a B) λb S=>match b with
 |[.int j]=>if -4611686018427387904<=j/\j<4611686018427387904 then .ok (Zd 0 j.toNat,[]) S else .bad
 |_=>.bad
noncomputable def TC(a:CA):CI:=fun B=>Za (a B) λb S=>match b with
 |[.int i,.int j]=>if -4611686018427387904<=i/\i<4611686018427387904/\-4611686018427387904<=j/\j<4611686018427387904 then .ok (Zd i (j - i).toNat,[]) S else .bad
 |_=>.bad
variable {a b:y4}{ca:CA}
theorem xC(h:PI X tg (.Call (.Name "range" p) [a] [] pos) (KB (YS X.K ca))):PI X tg (.Call (.Name "range" p) [a] [] pos) (YA X.K (VY ca)):=h.weak (by
 rintro Z H R ⟨J,B,S,d,w,u,m,k,e,y⟩;obtain⟨o,l,s,e⟩:=Y9 e;refine⟨J,B,S,o,l,m,k,s,λt n q c f r=>?_⟩
 try dsimp only at e
 split at e
 ·rename_i j;split at e
  ·rename_i i;cases e;obtain⟨v,rfl,g⟩:=r.one;unfold RV at g;subst g;exact⟨j,rfl,i.1,i.2,y _ n q c f Ip⟩
  ·cases e
 ·cases e)
theorem xB(h:PI X tg (.Call (.Name "range" p) [a,b] [] pos) (KA (YS X.K ca))):PI X tg (.Call (.Name "range" p) [a,b] [] pos) (YA X.K (TC ca)):=h.weak (by
 rintro Z H R ⟨J,B,S,d,w,A,n,l,e,y⟩;obtain⟨r,m,x,e⟩:=Y9 e;refine⟨J,B,S,r,m,n,l,x,λz q s c f t=>?_⟩
 try dsimp only at e
 split at e
 ·rename_i i j;split at e
  ·rename_i o;cases e;obtain⟨v,u,rfl,k,g⟩:=t.two;unfold RV at k g;subst k g;exact⟨i,j,rfl,o,y _ q s c f Ip⟩
  ·cases e
 ·cases e)
theorem Io{g f:Type}{xs:List g}{ys:List f}(h:i<(xs.zip ys).length):∃x y,xs[i]?=Z9 x/\ys[i]?=Z9 y/\(xs.zip ys)[i]?=Z9 (x,y):=by
 rw[qP6]at h;have d:i<xs.length:=by omega
 have c:i<ys.length:=by omega
 exact⟨xs[i],ys[i],qA4 d,qA4 c,by rw[qH1];exact⟨qA4 d,qA4 c⟩⟩
noncomputable def zipD(xs ys:yM):yM:=(xs.zip ys).map λp=>.tup [p.1,p.2]
noncomputable def WY(S:ZU):D->Option (yM)
 |.tup c=>Z9 c
 |.lst n=>ZH S n
 |_=>Z8
noncomputable def Uu(x:D)(xs:yM):Xc:=match x with
 |.lst n=>[(n,xs)]
 |_=>[]
theorem Im{K:yS}(l:SR K J S H)(r:RV K H J x v)(g:WY S x=Z9 xs):∃a b,v=.ref a/\(∃vs,X6 b K H a vs) /\
  ∀d h i,SR K h i d->ZJ K J h H d->X2 (Uu x xs) i->∃vs,X6 b K d a vs/\RVs K d h xs vs:=by
 unfold WY at g;split at g
 ·rename_i m;cases g;unfold RV at r;obtain⟨a,vs,rfl,q,k⟩:=r;exact⟨a,Z7,rfl,⟨vs,Zp.of q⟩,λd h i f c _=>⟨vs,c.tk.t _ _ (Zp.of q),RVs.up c.tk c.ext _ _ k⟩⟩
 ·rename_i n;unfold RV at r;obtain⟨a,rfl,j⟩:=r;obtain⟨vs,q,k⟩:=l.sq j g;exact⟨a,Z5,rfl,⟨vs,q⟩,λd h i f c w=>f.sq (c.at j) (w (n,xs) (by simp[Uu]))⟩
 ·cases g
theorem Sq:X2 (d++w2) S↔X2 d S/\X2 w2 S:=by unfold X2;simp only[qB7];exact⟨λh=>⟨λp c=>h p (.inl c),λp c=>h p (.inr c)⟩,λh p c=>c.elim (h.1 p) (h.2 p)⟩
theorem xA{K:yS}{t:Hp}{s:yC}{a b:yR}{b1 D:Bool}{B w2:Xc}{xs ys:yM}
  (h:∀f j m,SR K j m f->ZJ K s j t f->X2 B m->∃c,X6 b1 K f a c/\RVs K f j xs c) (g2:∀f j m,SR K j m f->ZJ K s j t f->X2 w2 m->∃c,X6 D K f b c/\RVs K f j ys c) :
  WZ K (T3 b1 D K a b) (zipD xs ys) (B++w2) s t where
 go:=λi H J S d g w o=>by obtain⟨c,q,r⟩:=h H J S d g (Sq.mp w).1;obtain⟨n,k,l⟩:=g2 H J S d g (Sq.mp w).2;obtain⟨x,y,A,z,_⟩:=Io (xs:=xs) (ys:=ys) (i:=i) (by unfold zipD at o;simpa using o);obtain⟨v,h,_⟩:=r.get A;obtain⟨u,g2,_⟩:=l.get z;exact⟨c,n,v,u,q,k,h,g2⟩
 yld:=λi H J S x P d g w o y=>by obtain⟨T,E,rfl,y⟩:=y;obtain⟨c,q,r⟩:=h H J S d g (Sq.mp w).1;obtain⟨n,k,l⟩:=g2 H J S d g (Sq.mp w).2;obtain⟨x,O,A,z,G⟩:=Io (xs:=xs) (ys:=ys) (i:=i) (by unfold zipD at o;simpa using o);obtain⟨v,h,I⟩:=r.get A;obtain⟨u,g2,N⟩:=l.get z;have:=y c n v u q k h g2;subst this;obtain⟨L,F,M⟩:=PX (p:=T) d E (.cons I (.cons N .nil));exact⟨.tup [x,O],by unfold zipD;rw[qB3,G];rfl,L,F,M⟩
 stop:=λH J S d g w=>by obtain⟨c,q,r⟩:=h H J S d g (Sq.mp w).1;obtain⟨n,k,l⟩:=g2 H J S d g (Sq.mp w).2;exact⟨c,n,q,k,by unfold zipD;rw[qA0,qP6,r.len,l.len]⟩
noncomputable def Ra(a:CA):CI:=fun B=>Za (a B) λf S=>match f with
 |[x,y]=>match WY S x,WY S y with
  |some d,Z9 c=>.ok (zipD d c,Uu x d++Uu y c) S
  |_,_=>.bad
 |_=>.bad
theorem xx{d:yE}(h:PI X (.Tuple d k c) (.Call (.Name "zip" p) [a,b] [] pos) (JH X.K (YS X.K ca))):PI X (.Tuple d k c) (.Call (.Name "zip" p) [a,b] [] pos) (YA X.K (Ra ca)):=h.weak (by
 rintro Z H R ⟨J,B,S,g,w,N,t,q,e,y⟩;obtain⟨z,s,F,e⟩:=Y9 e;refine⟨J,B,S,z,s,t,q,F,λI x D f i E=>?_⟩
 try dsimp only at e
 split at e
 ·rename_i O L;split at e
  ·rename_i M K m o;cases e;obtain⟨v,u,rfl,r,j⟩:=E.two;obtain⟨a,b1,rfl,A,l⟩:=Im f r m;obtain⟨b,G,rfl,n,g2⟩:=Im f j o;exact⟨a,b,b1,G,rfl,A,n,y _ x D f i (xA l g2)⟩
  ·cases e
 ·cases e)
noncomputable def Wr(xs:yM):yM:=((List.range xs.length).zip xs).map λp=>.tup [.int (p.1:Nat),p.2]
theorem Il(h:i<xs.length):(Wr xs)[i]?=Z9 (.tup [.int (i:Nat),xs[i]]):=by
 unfold Wr;rw[qB3];have:((List.range xs.length).zip xs)[i]?=Z9 (i,xs[i]):=by rw[qH1];exact⟨qH0 h,qA4 h⟩
 rw[this];rfl
theorem So(xs:yM):(Wr xs).length=xs.length:=by unfold Wr;simp
theorem xw{K:yS}{h:Hp}{j:yC}{a:yR}{xs:yM}{f:List V}(q:Zp K h a f)(r:RVs K h j xs f):WZ K (VJ Z7 K a) (Wr xs) [] j h where
 go:=λi H J S g c _ d=>by rw[So]at d;obtain⟨v,e,_⟩:=r.get (qA4 d);exact⟨f,v,c.tk.t _ _ q,e⟩
 yld:=λi H J S x s g c _ d y=>by rw[So]at d;obtain⟨T,k,rfl,y⟩:=y;obtain⟨v,e,m⟩:=r.get (qA4 d);have:=y f v (c.tk.t _ _ q) e;subst this;obtain⟨n,l,o⟩:=PX (p:=T) g k (.cons XN (.cons (RV.up c.tk c.ext _ _ m) .nil));exact⟨_,Il d,n,l,o⟩
 stop:=λH J S g c _=>⟨f,c.tk.t _ _ q,by rw[So,r.len]⟩
theorem xv{K:yS}{s:Hp}{j:yC}{a:yR}{n:Nat}{xs:yM}(h:j[n]?=Z9 a):WZ K (VJ Z5 K a) (Wr xs) [(n,xs)] j s where
 go:=λi H J S c f w d=>by rw[So]at d;obtain⟨g,q,r⟩:=c.sq (f.at h) (w (n,xs) (by simp));obtain⟨v,e,_⟩:=r.get (qA4 d);exact⟨g,v,q,e⟩
 yld:=λi H J S x u c f w d y=>by rw[So]at d;obtain⟨T,k,rfl,y⟩:=y;obtain⟨g,q,r⟩:=c.sq (f.at h) (w (n,xs) (by simp));obtain⟨v,e,m⟩:=r.get (qA4 d);have:=y g v q e;subst this;obtain⟨o,l,t⟩:=PX (p:=T) c k (.cons XN (.cons m .nil));exact⟨_,Il d,o,l,t⟩
 stop:=λH J S c f w=>by obtain⟨g,q,r⟩:=c.sq (f.at h) (w (n,xs) (by simp));exact⟨g,q,by rw[So,r.len]⟩
noncomputable def Q9(a:CA):CI:=fun B=>Za (a B) λd S=>match d with
 |[.tup c]=>.ok (Wr c,[]) S
 |[.lst n]=>match ZH S n with
  |some c=>.ok (Wr c,[(n,c)]) S
  |none=>.bad
 |_=>.bad
theorem xu{d:yE}(h:PI X (.Tuple d k c) (.Call (.Name "enumerate" p) [a] [] pos) (JO X.K (YS X.K ca))):PI X (.Tuple d k c) (.Call (.Name "enumerate" p) [a] [] pos) (YA X.K (Q9 ca)):=h.weak (by
 rintro Z H R ⟨J,B,S,l,w,G,x,t,e,y⟩;obtain⟨A,u,F,e⟩:=Y9 e;refine⟨J,B,S,A,u,x,t,F,λj o r f i s=>?_⟩
 try dsimp only at e
 split at e
 ·rename_i D;cases e;obtain⟨v,rfl,g⟩:=s.one;unfold RV at g;obtain⟨a,j,rfl,q,E⟩:=g;exact⟨a,rfl,.inl ⟨⟨j,Zp.of q⟩,y _ o r f i (xw (Zp.of q) E)⟩⟩
 ·rename_i n;split at e
  ·rename_i D z;cases e;obtain⟨v,rfl,g⟩:=s.one;unfold RV at g;obtain⟨a,rfl,m⟩:=g;obtain⟨j,q,_⟩:=f.sq m z;exact⟨a,rfl,.inr ⟨⟨j,q⟩,y _ o r f i (xv m)⟩⟩
  ·cases e
 ·cases e)
noncomputable def UR(k:Nat)(c:List Nat)(B:ZR):ZR:=qK0 k Z8++c.map λj=>(B[j]?).getD Z8
theorem RE.comp{K:yS}(m:RE K H J B Z)(k:Nat)(f:List Nat):RE K H J (UR k f B) (W4 k f Z):=by
 refine⟨by unfold UR W4;simp,λi d e=>?_⟩;unfold UR at e;unfold W4;by_cases c:i<k
 ·rw[qB0 (by simpa using c),qJ0]at e;simp[c]at e
 ·rw[qA3 (by simpa using c),qI4,qB3]at e;rw[qA3 (by simpa using c),qI4,qB3];cases q:f[i - k]? with
  |none=>rw[q]at e;simp at e
  |some j =>
   rw[q]at e;simp only[qM2,Option.some.injEq]at e;cases g:B[j]? with
   |none=>rw[g]at e;simp at e
   |some z =>
    rw[g]at e;simp at e;subst e;obtain⟨v,l,h⟩:=m.2 j d g;exact⟨v,by simp[l],h⟩
inductive Xb where
 |one|many (k:Nat)
noncomputable def Q8:ZR->Nat->yM->ZR
 |B,_,[]=>B
 |B,s,x::c=>Q8 (B.set s (Z9 x)) (s+1) c
noncomputable def UQ(t:Xb)(d:D)(B:ZR):Option ZR:=match t with
 |.one=>Z9 (B.set 0 (Z9 d))
 |.many k=>match d with
  |.tup c=>if c.length=k then Z9 (Q8 B 0 c)else Z8
  |_=>Z8
noncomputable def PL:Nat->Nat->U9
 |_,0=>RM
 |s,n+1=>KH (Ua s) (PL (s+1) n)
noncomputable def V8:Xb->Nat
 |.one=>1
 |.many k=>k
noncomputable def tOfT'(K:yS):Xb->TG
 |.one=>Ua 0
 |.many k=>RL K k (PL 0 k)
theorem Ik(h:UD (W4 k c Z) f)(g:i<k)(v:V):UD (W4 k c Z) (f.set i (Z9 v)):=by
 refine⟨by rw[qK8];exact h.1,λj u e=>?_⟩;by_cases d:i=j
 ·subst d;obtain⟨_,l,_⟩:=JV e;omega
 ·rw[qD7 d];exact h.2 j u e
theorem Ij(Z:St):UD Z Z:=⟨rfl,λ_ _ h=>h⟩
theorem Ii{K:yS}{H:Hp}{J:yC}{k:Nat}{d:List Nat}{Z:St}{Q:St->Hp->Prop}:∀{n s:Nat}{xs:yM}{vs:List V}{B1:ZR}{Z1:St},RVs K H J xs vs->xs.length=n->s+n<=k->RE K H J B1 Z1->UD (W4 k d Z) Z1->(∀c,RE K H J (Q8 B1 s xs) c->UD (W4 k d Z) c->Q c H)->PL s n vs Z1 H Q
 |0,s,xs,vs,B1,Z1,r,hl,hk,re,w,h=>by have:xs=[]:=qD0.mp hl;subst this;exact⟨r.nil_inv,h Z1 re w⟩
 |n+1,s,[],vs,B1,Z1,r,hl,hk,re,w,h=>by simp at hl
 |n+1,s,x::xs,vs,B1,Z1,r,hl,hk,re,w,h=>by obtain⟨v,f,rfl,g,i⟩:=r.cons_inv;exact⟨v,f,rfl,Ii i (by simpa using hl) (by omega) (re.set g s) (Ik w (by omega) v) h⟩
theorem xt{K:yS}(ht:V8 t<=k)(j:RE K H J (UR k c B) (W4 k c Z))(g:RV K H J d x)(e:UQ t d (UR k c B)=Z9 i)(h:∀f,RE K H J i f->UD (W4 k c Z) f->Q f H)(r:1<=k):tOfT' K t x (W4 k c Z) H Q:=by
 cases t with
 |one =>
  cases e;exact h _ (j.set g 0) (Ik (Ij _) r x)
 |many n =>
  unfold UQ at e;dsimp only at e;split at e
  ·rename_i s;split at e
   ·rename_i l;cases e;unfold RV at g;obtain⟨p,o,rfl,q,m⟩:=g;exact⟨p,o,rfl,Zp.of q,by rw[<- m.len];exact l,Ii m l (by have:n<=k:=ht;omega) j (Ij _) h⟩
   ·cases e
  ·cases e
open Classical in
noncomputable def Y2(w:Xc)(t:Xb)(tc:CT)(c:C)(B0:ZR):yM->M (yM)
 |[]=>λS=>if X2 w S then .ok [] S else .bad
 | d::ds=>λS=>if X2 w S then(match UQ t d B0 with
  |some f=>Za (tc f) (λk=>if k then Za (c f) λy=>Za (Y2 w t tc c B0 ds) λg=>ret (y::g)else Y2 w t tc c B0 ds) S
  | none=>.bad)else .bad
noncomputable def X1(f:CI)(k:Nat)(g:List Nat)(t:Xb)(tc:CT)(c:C):C:=fun B=>Za (f B) λp S=>if p.1.length<lim then
  Za (Y2 p.2 t tc c (UR k g B) p.1) (λh d=>.ok (.lst d.length) (d++[.lst h])) S
 else .bad
theorem SR.acc{K:yS}(c:SR K J S H)(f:A∉J)(h:H A=Z9 (.lst g)):SR K J S (ZE H A (.lst i)) :=
 ⟨c.len,c.nd,λn a o d j=>(c.obj n a o d j).up (P4 h) ⟨[],by simp⟩ (YX λz=>f (z▸qC0 d))⟩
theorem ZJ.acc{K:yS}(st:ZJ K d J c H)(i:c A=Z8)(h:H A=Z9 (.lst g)):ZJ K d J c (ZE H A (.lst j)) :=
 ⟨st.pre,λb o f e=>by rw[YX (Vr e i)];exact st.fr b o f e,st.tk.trans (P4 h)⟩
theorem SR.adopt{K:yS}{acc:yM}(d:SR K J S H)(m:A∉J)(h:H A=Z9 (.lst g))(r:RVs K H J acc g):SR K (J++[A]) (S++[.lst acc]) H:=by
 refine⟨by simp[d.len],?_,λn a u c f=>?_⟩
 ·rw[qL9];refine⟨d.nd,by simp,λa l b j=>?_⟩;simp at j;subst j;exact λz=>m (z▸l)
 ·by_cases k:n<J.length
  ·rw[qB0 k]at c;rw[qB0 (by rw[<- d.len];exact k)]at f;exact(d.obj n a u c f).up (TF.refl _ _) ⟨[A],rfl⟩ rfl
  ·rw[qA3 (by omega)]at c;rw[qA3 (by rw[<- d.len];omega)]at f;have i:n - J.length=0:=by have:=(qA7.mp c).1;simp at this;omega
   rw[i]at c;rw[<- d.len,i]at f;simp at c f;subst c f;exact⟨g,h,RVs.up (TF.refl _ _) ⟨[A],rfl⟩ _ _ r⟩
theorem ZJ.adopt{K:yS}(st:ZJ K d J c H)(g:c A=Z8):ZJ K d (J++[A]) c H:=by
 obtain⟨i,e,n⟩:=st.pre;refine⟨⟨i++[A],by rw[e,qC6],λb f=>?_⟩,st.fr,st.tk⟩;rcases qB7.mp f with h|h
 ·exact n b h
 ·simp at h;subst h;exact g
theorem ZJ.notIn{K:yS}(st:ZJ K J J' H c)(d:A∉J)(h:H A=Z9 o):A∉J':=λz=>by
 obtain⟨f,rfl,n⟩:=st.pre;rcases qB7.mp z with q|q
 ·exact d q
 ·rw[n A q]at h;cases h
inductive xr(K:yS)(items:yM)(w:Xc)(t:Xb)(tc:CT)(c:C)(B0:ZR)(J0:yC)(H0:Hp)(A:yR)(S1:ZU)(ys:yM)(i m:Nat)(us:List V)(H2:Hp):Prop
 |mk (him:i+m=items.length) (hus:us.length<=i) (J2:yC) (S2:ZU) (acc ZD:yM) (sr:SR K J2 S2 H2) (st:ZJ K J0 J2 H0 H2) (nA:A∉J2) (hA:H2 A=Z9 (.lst us)) (ra:RVs K H2 J2 acc us) (el:Y2 w t tc c B0 (items.drop i) S2=.ok ZD S1) (eys:acc++ZD=ys)
theorem Ih(ht:V8 t<=k)(h1:1<=k)(h:ZA X.K (X1 it k js t tc c) Z H Q):NF (YA X.K it) k js (tOfT' X.K t) (YZ X.K tc) (ZA X.K c) Z H Q:=by
 obtain⟨J,B,S,d,S',sr,re,e,y⟩:=h;obtain⟨⟨f,w⟩,S0,e0,f0⟩:=Y9 e;dsimp only at f0;split at f0
 ·rename_i hlim;obtain⟨ys,S1,e1,f1⟩:=Y9 f0;cases f1;refine⟨J,B,S,f,w,S0,sr,re,e0,λJJ H0 J0 W I io A Y=>?_⟩;have reC:=(re.up I).comp k js;obtain⟨srA,stA⟩:=W.other (o:=.lst []) Y;have nA:A∉J0:=W.out Y;refine⟨xr X.K f w t tc c (UR k js B) J0 H0 A S1 ys,
   ⟨f.length,⟨by simp,qE1 _,J0,S0,[],ys,srA,stA,nA,Xg,RVs.nil,by rw[qM8];exact e1,rfl⟩⟩,?_⟩
  rintro i m us H2 ⟨him,hus,V,S2,acc,ZD,g,p,G,R,r,j,D⟩;refine And.intro R ?_;by_cases hi:i<f.length
  ·rw[qI5 hi]at j;unfold Y2 at j;split at j
   ·rename_i hw;refine .inr ⟨io.go i H2 V S2 g p hw hi,PV (by omega),λx H3 hy=>?_⟩;obtain⟨d,hd,u,P,rv⟩:=io.yld i H2 V S2 x H3 g p hw hi hy;have ed:f[i]=d:=by rw[qA4 hi]at hd;exact Option.some.inj hd
    rw[ed]at j;have U:H3 A=Z9 (.lst us):=P.fr A _ G R;have K:=p.trans P u.nd;split at j
    ·rename_i B4 h4;refine xt ht (reC.up K) rv h4 (fun Z4 re4 wk=>⟨wk,?_⟩) h1;obtain⟨kb,S3,e3,f3⟩:=Y9 j;refine⟨V,B4,S2,kb,S3,u,re4,e3,λH5 J5 E l=>?_⟩;have T:H5 A=Z9 (.lst us):=l.fr A _ G U;have O:=l.notIn G U;have L:=K.trans l E.nd;have n:=P.trans l E.nd;cases kb with
     |true =>
      rw[if_pos rfl]at f3 ⊢;obtain⟨z,S4,e4,f4⟩:=Y9 f3;obtain⟨zs,S5,e5,f5⟩:=Y9 f4;obtain⟨rfl,rfl⟩:=Ys f5;refine⟨J5,B4,S3,z,S4,E,re4.up l,e4,λv H6 J6 N F rv6=>?_⟩;have s:H6 A=Z9 (.lst us):=F.fr A _ O T;have nA6:=F.notIn O T;have M:=n.trans F N.nd;have tku:TF X.K H6 (ZE H6 A (.lst (us++[v]))):=P4 s;refine⟨s,m - 1,by omega,⟨by omega,by rw[qB8];show us.length+1<=i+1;omega,J6,S4,acc++[z],zs,N.acc nA6 s,(L.trans F N.nd).acc Y s,nA6,Xg,?_,e5,by rw[qC6];exact D⟩⟩;exact RVs.up tku ⟨[],by simp⟩ _ _ ((RVs.up M.tk M.ext _ _ r).append (.cons rv6 .nil))
     |false =>
      rw[if_neg qB1]at f3 ⊢;exact⟨m - 1,by omega,⟨by omega,by omega,J5,S3,acc,ZD,E,L,O,T,RVs.up n.tk n.ext _ _ r,f3,D⟩⟩
    ·cases j
   ·cases j
  ·have ei:i=f.length:=by omega
   subst ei;rw[qS4]at j;unfold Y2 at j;split at j
   ·rename_i hw;cases j;rw[qG3]at D;subst D;refine .inl ⟨io.stop H2 V _ g p hw,?_⟩;have hA0:H A=Z8:=by
     cases q:H A with
     |none=>rfl
     |some o =>
      by_cases hm:A∈J
      ·exact absurd (I.mem hm) nA
      ·rw[I.fr A o hm q]at Y;cases Y
    have u:=g.adopt G R r;refine y (.ref A) H2 (V++[A]) u ((I.trans p g.nd).adopt hA0) ?_;unfold RV;exact⟨A,rfl,by rw[<- g.len,qA3 (qA6 _),qI2];rfl⟩
   ·cases j
 ·cases f0
end
noncomputable def Q7(a:CA):C:=fun B=>Za (a B) λc S=>match c with
 |[.lst n]=>match (ZH S n).bind UT with
  |some b=>if b.length<=16 then .ok (.lst S.length) (S++[.lst ((XA (Yv b)).map tD)])else .bad
  |none=>.bad
 |_=>.bad
theorem xq(h:PE X (.Call (.Name "sorted" p) [.Call (.Name "set" m) [a] [] b] [] pos) (IX X.K (YS X.K i))):PE X (.Call (.Name "sorted" p) [.Call (.Name "set" m) [a] [] b] [] pos) (ZA X.K (Q7 i)):=h.weak (by
 rintro Z H Q ⟨J,B,S,d,T,D,x,e,y⟩;obtain⟨F,C,L,e⟩:=Y9 e;refine⟨J,B,S,F,C,D,x,L,λM N O c g K=>?_⟩
 try dsimp only at e
 split at e
 ·split at e
  ·rename_i u s;split at e
   ·rename_i f;cases e;obtain⟨P,G,t⟩:=qA2.mp s;obtain⟨v,rfl,r⟩:=K.one;unfold RV at r;obtain⟨a,rfl,E⟩:=r;obtain⟨R,q,I⟩:=c.sq E G;obtain⟨z,j,rfl,n⟩:=MV t I;refine⟨a,z,rfl,q,n,by rw[<- j,qA0]at f;exact f,λl o f w k A=>?_⟩;rw[j]at k;rw[Iw k A]at y;exact(y.shift g).newL c f (MU w)
   ·cases e
  ·cases e
 ·cases e)
structure Sc where
 N:yH
 names:List (Str×jV)
 fn:Option Str
noncomputable def Q6:yH:=["len","range","list","tuple","min","max","zip","isinstance","all","any","int","bool","enumerate","str","sorted","dict","sum","repr","set","abs"]
structure Vz(ar:Str->yK)(mg:Str->yF):Prop where
 b:∀y:Str,y∈Q6->ar y=Z8->mg y=Z8
structure YO(X:Cx)(sc:Sc)(ar:Str->yK)(cl:Str->yM->M D)(k:Nat):Prop where
 calm:X.calm=Z7
 N:X.N=sc.N
 nd:sc.N.Nodup
 gl:∀x,sc.names.lookup x=Z9 .globalImplicit->Gl X x
 loc:∀x,sc.names.lookup x=Z9 .local->X.env.scope.names.lookup x=Z9 .local
 cel:∀x,sc.names.lookup x=Z9 .cell->X.env.scope.names.lookup x=Z9 .cell
 fre:∀x,sc.names.lookup x=Z9 .free->X.env.scope.names.lookup x=Z9 .cell∨X.env.scope.names.lookup x=Z9 .free
 fnn:sc.fn.isSome=Z7->∀x,X.fn x=Z7
 room:Zg k X.A
 xe:X.xe=λ_ _=>False
 blt:Vz ar X.mg
 fns:∀x n,ar x=Z9 n->(∃ps,SC X.prog X.w X.K X.mg X.base x ps k (WI X.K (cl x) n))/\∀ds S d S',cl x ds S=.ok d S'->ds.length=n
section
variable {X:Cx}{sc:Sc}{ar:Str->yK}{cl:Str->yM->M D}{k:Nat}
theorem YO.vis(h:YO X sc ar cl k)(a:sc.names.lookup x=Z9 .local∨sc.names.lookup x=Z9 .cell∨sc.names.lookup x=Z9 .free):RN X.env.scope x:=by
 rcases a with q|q|q
 ·exact .inl (h.loc x q)
 ·exact .inr (.inl (h.cel x q))
 ·exact .inr (h.fre x q)
noncomputable def MR(o:Option jV):Bool:=o == Z9 .local||o == Z9 .cell||o == Z9 .free
theorem xp(h:MR o=Z7):o=Z9 .local∨o=Z9 .cell∨o=Z9 .free:=by
 unfold MR at h;simp only[qE8,beq_iff_eq]at h;rcases h with(h|h)| h
 ·exact .inl h
 ·exact .inr (.inl h)
 ·exact .inr (.inr h)
noncomputable def Ut:yH->Str->Nat->yK
 |[],_,_=>Z8
 |y::r,x,i=>if y=x then Z9 i else Ut r x (i+1)
theorem Sm:∀{N:yH}{x:Str}{i j:Nat},Ut N x i=Z9 j->i<=j/\N[j - i]?=Z9 x
 |[],_,_,_,h=>by cases h
 |y::r,x,i,j,h=>by
  unfold Ut at h;split at h
  ·rename_i e;cases h;subst e;exact⟨qA6 _,by simp⟩
  ·obtain⟨b,a⟩:=Sm h;refine⟨by omega,?_⟩;have e:j - i=(j - (i+1))+1:=by omega
   rw[e,qC9];exact a
noncomputable def MQ(a:Sc)(ar:Str->yK)(x:Str):Option C:=match Ut a.N x 0 with
 |some i=>if MR (a.names.lookup x)&&!(x == ("__debug__":Str))&&!(x == ("__classdict__":Str))then Z9 (ZY i)else Z8
 |none=>if a.names.lookup x=Z9 .globalImplicit/\ar x=Z8 then
   (if x=("int":Str)then Z9 (ZX (.ty "int"))else if x=("bool":Str)then Z9 (ZX (.ty "bool"))else if x=("tuple":Str)then Z9 (ZX (.ty "tuple"))
    else if x=("list":Str)then Z9 (ZX (.ty "list"))else if x=("str":Str)then Z9 (ZX (.ty "str"))
    else Z8)
  else Z8
theorem xo(h:YO X sc ar cl k)(e:MQ sc ar x=Z9 c):PE X (.Name x pos) (ZA X.K c):=by
 unfold MQ at e;split at e
 ·rename_i i r;split at e
  ·rename_i j;cases e;simp only[qC4,qM0]at j;obtain⟨⟨m,o⟩,p⟩:=j;have:=(Sm r).2;exact z0 (KJ (by rw[h.N];exact this) (h.vis (xp m)) o p)
  ·cases e
 ·split at e
  ·rename_i a;have g:=h.gl x a.1;have ty:∀(n:String) (b:jH x=Z9 (.type n)) (l:x ≠ "__name__") (f:Wm x) (d:X.mg x=Z8),PE X (.Name x pos) (ZA X.K (ZX (.ty n))):=λn b l f d =>
    Rf (Fo (v:=.ty n) g d b rfl l f) λK H J=>by unfold RV;rfl
   split at e
   ·rename_i q;subst q;cases e;exact ty "int" JR (by decide +kernel) (by decide +kernel) (h.blt.b _ (by decide +kernel) a.2)
   ·split at e
    ·rename_i q;subst q;cases e;exact ty "bool" Ce (by decide +kernel) (by decide +kernel) (h.blt.b _ (by decide +kernel) a.2)
    ·split at e
     ·rename_i q;subst q;cases e;exact ty "tuple" JS (by decide +kernel) (by decide +kernel) (h.blt.b _ (by decide +kernel) a.2)
     ·split at e
      ·rename_i q;subst q;cases e;exact ty "list" NC (by decide +kernel) (by decide +kernel) (h.blt.b _ (by decide +kernel) a.2)
      ·split at e
       ·rename_i q;subst q;cases e;exact ty "str" Cc (by decide +kernel) (by decide +kernel) (h.blt.b _ (by decide +kernel) a.2)
       ·cases e
  ·cases e
noncomputable def Ig:Const->Option C
 |.none=>Z9 (ZX .non)
 |.bool b=>Z9 (ZX (.bl b))
 |.int i=>Z9 (ZX (.int i))
 |.str x=>Z9 (ZX (.str x))
 |_=>Z8
theorem xn(e:Ig v=Z9 c):PE X (.Constant v j pos) (ZA X.K c):=by
 cases v with
 |none=>cases e;exact Rf Fs λ_ _ _=>TN
 |bool b=>cases e;exact Rf Ft λ_ _ _=>WH
 |int i=>cases e;exact Rf Fu λ_ _ _=>XN
 |str x=>cases e;exact Rf Fq λ_ _ _=>IP
 |_=>cases e
noncomputable def Ie:mU->Option (D->D->M D)
 |.Add=>Z9 ZK
 |.Sub=>Z9 (Zw λi j=>i - j)
 |.Mult=>Z9 Ym
 |.Mod=>Z9 Yt
 |.FloorDiv=>Z9 W3
 |.Pow=>Z9 Wc
 |.LShift=>Z9 WG
 |.RShift=>Z9 VB
 |.BitAnd=>Z9 (Zw vH)
 |.BitOr=>Z9 (Zw mH)
 |.BitXor=>Z9 (Zw lG)
 |_=>Z8
theorem MP(e:Ie op=Z9 o):YP X.K (Zs X (jM op)) o:=by
 cases op with
 |Add=>cases e;exact zx
 |Sub=>cases e;exact zC
 |Mult=>cases e;exact zv
 |Mod=>cases e;exact zu
 |FloorDiv=>cases e;exact zt
 |Pow=>cases e;exact zr
 |LShift=>cases e;exact zp
 |RShift=>cases e;exact zo
 |BitAnd=>cases e;exact zB
 |BitOr=>cases e;exact zA
 |BitXor=>cases e;exact zy
 |_=>cases e
noncomputable def PK:fO->Option (D->D->M D)
 |.Eq=>Z9 Y8
 |.NotEq=>Z9 XM
 |.Lt=>Z9 Vj
 |.LtE=>Z9 (YM λi j=>decide (i<=j))
 |.Gt=>Z9 (YM λi j=>decide (j<i))
 |.GtE=>Z9 (YM λi j=>decide (j<=i))
 |.Is=>Z9 TM
 |.IsNot=>Z9 V0
 |.In=>Z9 (Yr Z5)
 |.NotIn=>Z9 (Yr Z7)
theorem Sl(h:Zg k X.A)(e:PK op=Z9 o):YP X.K (Zs X (y7 op)) o:=by
 have a:=h.units;have b:=h.units0;have c:X.A.units+1<cLine:=NR h;cases op with
 |Eq=>cases e;exact zd a
 |NotEq=>cases e;exact za a
 |Lt=>cases e;exact zg b
 |LtE=>cases e;exact zk
 |Gt=>cases e;exact zj
 |GtE=>cases e;exact zh
 |Is=>cases e;exact y3
 |IsNot=>cases e;exact y2
 |In=>cases e;exact yy a
 |NotIn=>cases e;exact yx a
noncomputable def Xn:y4->Bool
 |.Starred _ _=>Z5
 |_=>Z7
theorem Xm{es:yE}(h:Xn a=Z7):jE (a::es) env=(Z5,vL a env)::jE es env:=by cases a<;>first|rfl|cases h
noncomputable def zA1?(f:y4->Option C):yE->Option (List C)
 |[]=>Z9 []
 |e::a=>if Xn e then(f e).bind λc=>(zA1? f a).map (c::·)else Z8
def WX(X:Cx)(f:y4->Option C):Prop:=∀e c,f e=Z9 c->PE X e (ZA X.K c)
variable {f:y4->Option C}
theorem Vy(g:WX X f):∀{es:yE}{cs:List C},zA1? f es=Z9 cs->PA X es (YS X.K (ZS cs))/\(∀e∈es,Xn e=Z7)
 |[],cs,e=>by cases e;exact⟨PY,by simp⟩
 |a::es,cs,e=>by
  unfold zA1? at e;split at e
  ·rename_i d;obtain⟨c,i,e⟩:=qA2.mp e;obtain⟨l,j,e⟩:=qA5.mp e;subst e;obtain⟨m,h⟩:=Vy g j;exact⟨Sy (g a c i) m (Xm d),λe b=>by
    rcases qA8.mp b with rfl|b
    ·exact d
    ·exact h e b⟩
  ·cases e
theorem MO{es:yE}(h:∀e∈es,Xn e=Z7):(wK pos (jE es env)).any (·.1)=Z5:=by
 induction es with
 |nil=>rfl
 |cons a es b =>
  rw[Xm (h a (by simp))];show(Z5||(wK pos (jE es env)).any (·.1))=Z5;rw[b λe c=>h e (by simp[c])];rfl
noncomputable def Q5:y4->Bool
 |.Slice _ _ _ _=>Z7
 |_=>Z5
theorem xm(h:Q5 b=Z5):NZ b:=by cases b<;>first|(intro o i;rfl)| cases h
noncomputable def zAY?(f:y4->Option C):Option y4->Option CO
 |none=>Z9 Yc
 |some e=>(f e).map Yn
theorem Ic(i:WX X f)(h:zAY? f e=Z9 c):PO X e (VD X.K c):=by
 cases e with
 |none=>cases h;exact zG
 |some a =>
  obtain⟨b,d,g⟩:=qA5.mp h;subst g;exact zF (i a b d)
noncomputable def TB(f:y4->Option C)(a b:y4):Option C:=match b with
 |.Slice e d Z8 _=>(f a).bind λc=>(zAY? f e).bind λh=>(zAY? f d).map λg=>Yi YB c h g
 |_=>if Q5 b then Z8 else(f a).bind λc=>(f b).map λi=>ZW ZL c i
theorem xl(h:Zg k X.A)(d:WX X f)(e:TB f a b=Z9 c):PE X (.Subscript a b pos) (ZA X.K c):=by
 unfold TB at e;split at e
 ·obtain⟨g,i,e⟩:=qA2.mp e;obtain⟨p,j,e⟩:=qA2.mp e;obtain⟨o,l,e⟩:=qA5.mp e;subst e;exact zE yu (d a g i) (Ic d j) (Ic d l)
 ·split at e
  ·cases e
  ·rename_i n;obtain⟨g,i,e⟩:=qA2.mp e;obtain⟨m,j,e⟩:=qA5.mp e;subst e;exact zH (yv (NR h)) (d a g i) (d b m j) (xm (by simpa using n))
noncomputable def Q4(f:y4->Option C)(a:y4)(ops:List fO)(bs:yE):Option C:=match ops,bs with
 |[op],[b]=>if fA op b then Z8 else(PK op).bind λo=>(f a).bind λd=>(f b).map λe=>ZW o d e
 |[op,op'],[b,c]=>if lY [op,op'] [b,c]then Z8 else(PK op).bind λo=>(PK op').bind λg=>(f a).bind λd=>(f b).bind λe=>(f c).map λh=>Ux o g d e h
 |_,_=>Z8
theorem xk(h:Zg k X.A)(d:WX X f)(e:Q4 f a ops bs=Z9 c):PE X (.Compare a ops bs pos) (ZA X.K c):=by
 unfold Q4 at e;split at e
 ·rename_i s b;split at e
  ·cases e
  ·rename_i j;obtain⟨o,p,e⟩:=qA2.mp e;obtain⟨l,n,e⟩:=qA2.mp e;obtain⟨i,m,e⟩:=qA5.mp e;subst e;exact zY (Sl h p) (d a l n) (d b i m) (by simpa using j)
 ·rename_i s t b c;split at e
  ·cases e
  ·rename_i j;obtain⟨o,p,e⟩:=qA2.mp e;obtain⟨u,g,e⟩:=qA2.mp e;obtain⟨l,n,e⟩:=qA2.mp e;obtain⟨i,m,e⟩:=qA2.mp e;obtain⟨r,q,e⟩:=qA5.mp e;subst e;exact zW (Sl h p) (Sl h g) (d a l n) (d b i m) (d c r q) (by simpa using j)
 ·cases e
noncomputable def MN(f:y4->Option C)(a:y4)(ops:List fO)(bs:yE):Option CT:=match ops,bs with
 |ops,bs=>(Q4 f a ops bs).map Zt
theorem xj(h:Zg k X.A)(d:WX X f)(e:MN f a ops bs=Z9 c):PT X (.Compare a ops bs pos) (YZ X.K c):=by
 unfold MN at e;split at e
 ·obtain⟨q,b,e⟩:=qA5.mp e;subst e;unfold Q4 at b;split at b
  ·split at b
   ·cases b
   ·rename_i l;obtain⟨o,p,e⟩:=qA2.mp b;obtain⟨m,g,e⟩:=qA2.mp e;obtain⟨j,n,e⟩:=qA5.mp e;subst e;exact zX (Sl h p) (d _ m g) (d _ j n) (by simpa using l)
  ·split at b
   ·cases b
   ·rename_i l;obtain⟨o,p,e⟩:=qA2.mp b;obtain⟨s,i,e⟩:=qA2.mp e;obtain⟨m,g,e⟩:=qA2.mp e;obtain⟨j,n,e⟩:=qA2.mp e;obtain⟨q,r,e⟩:=qA5.mp e;subst e;exact zV (Sl h p) (Sl h i) (d _ m g) (d _ j n) (d _ q r) (by simpa using l)
  ·cases b
noncomputable def Ib:y4->Bool
 |.Name _ _=>Z7
 |.Subscript _ _ _=>Z7
 |.Call _ (_::_) _ _=>Z7
 |_=>Z5
theorem xi(h:Ib o=Z7):f6 o name env (vL o env)=vL o env:=by
 cases o with
 |Call f b kw c =>
  cases b with
  |nil=>cases h
  |cons a r=>cases f<;>rfl
 |_=>first|rfl|cases h
noncomputable def Ia(x:Str):y4->Option y4
 |.Call (.Name y _) [a] [] _=>if x=("sorted":Str)/\y=("set":Str)then Z9 a else Z8
 |_=>Z8
noncomputable def H7(x:Str):Option (yM->M D) :=
 Z8
noncomputable def PJ(x:Str):Option (yM->M D) :=
 if x=("len":Str)then Z9 Zi else
 if x=("isinstance":Str)then Z9 YI else
 if x=("tuple":Str)then Z9 XY else
 if x=("list":Str)then Z9 PM else
 if x=("min":Str)then Z9 XF else
 if x=("max":Str)then Z9 Xq else
 if x=("int":Str)then Z9 Xp else
 if x=("sorted":Str)then Z9 WD else
 if x=("sum":Str)then Z9 V9 else
 H7 x
noncomputable def H4:y4->Option (yE)
 |.Call (.Name x _) as [] _=>if x=("range":Str)then Z9 as else Z8
 |_=>Z8
noncomputable def Xa:yM->M D:=λa S=>match a with
 |[.int j]=>if -4611686018427387904<=j/\j<4611686018427387904/\j<=1000 then .ok (.lst S.length) (S++[.lst (Zd 0 j.toNat)])else .bad
 |[.int i,.int j]=>if -4611686018427387904<=i/\i<4611686018427387904/\-4611686018427387904<=j/\j<4611686018427387904/\j - i<=1000 then .ok (.lst S.length) (S++[.lst (Zd i (j - i).toNat)])else .bad
 |_=>.bad
noncomputable def MM(d:Sc)(ar:Str->yK)(cl:Str->yM->M D)(f:y4->Option C)(x:Str)(es:yE):Option C :=
 if d.names.lookup x=Z9 .globalImplicit then
  match ar x with
  |some n=>if es.length=n/\es≠[]/\Wm x then(zA1? f es).map λb=>ZT (cl x) (ZS b)else Z8
  |none=>match es with
   |[e] =>
    match Ia x e with
    |some a=>if ar "set"=Z8/\d.names.lookup ("set":Str)=Z9 .globalImplicit then(zA1? f [a]).map λb=>Q7 (ZS b)else Z8
    |none =>
    match H4 e with
    |some c=>if x=("list":Str)/\ar "range"=Z8/\d.names.lookup ("range":Str)=Z9 .globalImplicit/\(c.length=1∨c.length=2)then(zA1? f c).map λb=>ZT Xa (ZS b)else Z8
    |none=>(PJ x).bind λo=>(zA1? f es).map λb=>ZT o (ZS b)
   |_::_=>(PJ x).bind λo=>(zA1? f es).map λb=>ZT o (ZS b)
   |[]=>Z8
 else Z8
theorem xh{K:yS}(b:Int)(n:Nat):RVs K H J (Zd b n) (SD b n):=by
 unfold Zd SD;generalize List.range n=l
 induction l with
 |nil=>exact .nil
 |cons a r c=>exact .cons XN c
set_option maxHeartbeats 2000000 in
theorem HZ(h:YO X sc ar cl k)(v:sc.names.lookup x=Z9 .globalImplicit)(d:ar x=Z8)(b:PJ x=Z9 o){es:yE}(r:PA X (e::es) (YS X.K (ZS cs)))(hs:∀a∈e::es,Xn a=Z7):PE X (.Call (.Name x p) (e::es) [] pos) (ZA X.K (ZT o (ZS cs))):=by
 have g:=h.gl x v;have u:=Xm (es:=es) (env:=X.env) (hs e (by simp));have t:(wK pos (jE es X.env)).any (·.1)=Z5:=MO λa r=>hs a (by simp[r]);unfold PJ at b;have j:∀(i:String) (n:jH x=Z9 (.builtin i)) (l:X.mg x=Z8) (c:x ≠ "__name__") (m:Wm x) (o:yM->M D),V1 X.K (Yo X (.builtin i)) o->PE X (.Call (.Name x p) (e::es) [] pos) (ZA X.K (ZT o (ZS cs))):=λi n l c m o s =>
  (DS callAny g l n r c m u t).weak (IQ s)
 have T:∀(i:String) (n:jH x=Z9 (.type i)) (l:X.mg x=Z8) (c:x ≠ "__name__") (m:Wm x) (o:yM->M D),V1 X.K (Yo X (.type i)) o->PE X (.Call (.Name x p) (e::es) [] pos) (ZA X.K (ZT o (ZS cs))):=λi n l c m o s =>
  (N1 callAny g l n r c m u t).weak (IQ s)
 split at b
 ·rename_i q;subst q;cases b;exact j "len" Cm (h.blt.b _ (by decide +kernel) d) (by decide +kernel) (by decide +kernel) _ yt
 split at b
 ·rename_i q;subst q;cases b;exact j "isinstance" Cf (h.blt.b _ (by decide +kernel) d) (by decide +kernel) (by decide +kernel) _ yl
 split at b
 ·rename_i q;subst q;cases b;exact T "tuple" JS (h.blt.b _ (by decide +kernel) d) (by decide +kernel) (by decide +kernel) _ yo
 split at b
 ·rename_i q;subst q;cases b;exact T "list" NC (h.blt.b _ (by decide +kernel) d) (by decide +kernel) (by decide +kernel) _ (yk h.calm)
 split at b
 ·rename_i q;subst q;cases b;exact j "min" Cj (h.blt.b _ (by decide +kernel) d) (by decide +kernel) (by decide +kernel) _ (yr h.calm)
 split at b
 ·rename_i q;subst q;cases b;exact j "max" Ci (h.blt.b _ (by decide +kernel) d) (by decide +kernel) (by decide +kernel) _ (yq h.calm)
 split at b
 ·rename_i q;subst q;cases b;exact T "int" JR (h.blt.b _ (by decide +kernel) d) (by decide +kernel) (by decide +kernel) _ yn
 split at b
 ·rename_i q;subst q;cases b;exact j "sorted" (by decide +kernel) (h.blt.b _ (by decide +kernel) d) (by decide +kernel) (by decide +kernel) _ (yj h.calm h.room.units)
 split at b
 ·rename_i q;subst q;cases b;exact j "sum" (by decide +kernel) (h.blt.b _ (by decide +kernel) d) (by decide +kernel) (by decide +kernel) _ (yi h.calm)
 unfold H7 at b;cases b
theorem xg(h:YO X sc ar cl k)(U:sc.names.lookup ("list":Str)=Z9 .globalImplicit)(hn:ar "list"=Z8)(hr:sc.names.lookup ("range":Str)=Z9 .globalImplicit)(G:ar "range"=Z8)(x:PA X g (YS X.K (ZS cs)))(hs:∀a∈g,Xn a=Z7)(E:g.length=1∨g.length=2){p pos O b:Pos}:
  PE X (.Call (.Name "list" p) [.Call (.Name "range" O) g [] b] [] pos) (ZA X.K (ZT Xa (ZS cs))):=by
 have T:=h.gl _ U;have g2:=h.gl _ hr;have R:PE X (.Call (.Name "range" O) g [] b) (Qn (Yo X (.type "range")) (YS X.K (ZS cs))):=by
  cases g with
  |nil=>simp at E
  |cons e es=>exact N1 callAny g2 (h.blt.b _ (by decide +kernel) G) Ck x (by decide +kernel) (by decide +kernel) (Xm (hs e (by simp))) (MO λa x=>hs a (by simp[x]))
 have L:=N1 (p:=p) (pos:=pos) (callAny (X:=X) (f:=.type "list")) T (h.blt.b _ (by decide +kernel) hn) NC (Ks R Kt rfl) (by decide +kernel) (by decide +kernel) rfl rfl;refine L.weak ?_;rintro Z H Q ⟨J,B,S,d,S',W,V,e,y⟩;obtain⟨Y,z,e1,e⟩:=Y9 e;refine⟨J,B,S,Y,z,W,V,e1,λvs A J1 t F N=>?_⟩;have s:=y.shift F;have m:∀(i j:Int),-4611686018427387904<=i->i<4611686018427387904->-4611686018427387904<=j->j<4611686018427387904->j - i<=1000->XS X.K J1 A (.lst z.length) (z++[.lst (Zd i (j - i).toNat)]) Q->∀q,A q=Z8->Yo X (.type "list") [.ref q] (ZE A q (.rng i j)) Q:=by intro i j b1 b2 P b4 b5 s q n;obtain⟨I,w⟩:=t.other (o:=.rng i j) n;exact⟨_,CC h.calm,q,i,j,rfl,Xg,b1,b2,P,b4,by omega,λl E=>(s.shift w).newL I E (xh _ _)⟩
 unfold Xa at e;split at e
 ·rename_i j;split at e
  ·rename_i c;cases e;obtain⟨v,rfl,r⟩:=N.one;unfold RV at r;subst r;refine⟨_,CF,j,rfl,λq n=>?_⟩;have:=m 0 j (by decide) (by decide) c.1 c.2.1 (by omega) (by rw[Int.sub_zero];exact s) q n;exact this
  ·cases e
 ·rename_i i j;split at e
  ·rename_i c;cases e;obtain⟨v,u,rfl,r,K⟩:=N.two;unfold RV at r K;subst r K;exact⟨_,CG,i,j,rfl,λq n=>m i j c.1 c.2.1 c.2.2.1 c.2.2.2.1 c.2.2.2.2 s q n⟩
  ·cases e
 ·cases e
theorem xf(h:YO X sc ar cl k)(r:WX X f)(e:MM sc ar cl f x es=Z9 c):PE X (.Call (.Name x p) es [] pos) (ZA X.K c):=by
 unfold MM at e;split at e
 ·rename_i m;split at e
  ·rename_i n l;split at e
   ·rename_i s;obtain⟨B,w,H⟩:=s;obtain⟨u,j,e⟩:=qA5.mp e;subst e;obtain⟨i,g⟩:=Vy r j;obtain⟨⟨N,G⟩,t⟩:=h.fns x n l;cases es with
    |nil=>exact absurd rfl w
    |cons a es =>
     exact(Cn (p:=p) (pos:=pos) G h.room (h.gl x m) i (qA6 _) H (Xm (g a (by simp))) (MO λb J=>g b (by simp[J]))).weak (zD t)
   ·cases e
  ·rename_i l;split at e
   ·rename_i a;split at e
    ·rename_i b d;split at e
     ·rename_i s;obtain⟨v,F⟩:=s;obtain⟨u,j,e⟩:=qA5.mp e;subst e;unfold Ia at d;split at d
      ·split at d
       ·rename_i q;obtain⟨rfl,rfl⟩:=q;cases d;obtain⟨i,g⟩:=Vy r j;exact xq (Ah h.calm h.room.units (h.gl _ m) (h.blt.b _ (by decide +kernel) l) (h.gl _ F) (h.blt.b _ (by decide +kernel) v) i (by rw[Xm (g _ (by simp))];rfl))
       ·cases d
      ·cases d
     ·cases e
    split at e
    ·rename_i K d;split at e
     ·rename_i s;obtain⟨rfl,z,I,B⟩:=s;obtain⟨u,j,e⟩:=qA5.mp e;subst e;obtain⟨i,g⟩:=Vy r j;unfold H4 at d;split at d
      ·rename_i O L E A;split at d
       ·rename_i q;subst q;cases d;exact xg h m l I z i g B
       ·cases d
      ·cases d
     ·cases e
    ·obtain⟨o,y,e⟩:=qA2.mp e;obtain⟨u,j,e⟩:=qA5.mp e;subst e;obtain⟨i,g⟩:=Vy r j;exact HZ h m l y i g
   ·obtain⟨o,y,e⟩:=qA2.mp e;obtain⟨u,j,e⟩:=qA5.mp e;subst e;obtain⟨i,g⟩:=Vy r j;exact HZ h m l y i g
   ·cases e
 ·cases e
end
section
variable {X:Cx}{sc:Sc}{ar:Str->yK}{cl:Str->yM->M D}{k:Nat}{f:y4->Option C}
noncomputable def HY(m:Str)(a:C):Option C :=
 Z8
noncomputable def HX(m:Str)(b a:C):Option C :=
 if m=("append":Str)then Z9 (W2 "list" (XJ VZ) b (ZS [a]))else
 if m=("extend":Str)then Z9 (W2 "list" Sr b (ZS [a]))else
 Z8
noncomputable def HW(m:Str)(b a c:C):Option C :=
 if m=("insert":Str)then Z9 (W2 "list" (XJ W1) b (ZS [a,c]))else
 Z8
noncomputable def ML(f:y4->Option C)(o:y4)(m:Str)(es:yE)(d c:Pos):Option C :=
 if Ib o&&(d.endLine == c.line)then(f o).bind λg=>match es with
  |[]=>HY m g
  |[a]=>if Xn a then(f a).bind λe=>HX m g e else Z8
  |[a,b]=>if Xn a&&Xn b then(f a).bind λe=>(f b).bind λh=>HW m g e h else Z8
  |_=>Z8
 else Z8
theorem xc(G:Zg k X.A)(p:WX X f)(e:ML f o m es j d=Z9 c):PE X (.Call (.Attribute o m j) es [] d) (ZA X.K c):=by
 unfold ML at e;split at e
 ·rename_i F;rw[qC4]at F;obtain⟨H,w⟩:=F;obtain⟨v,A,g⟩:=qA2.mp e;clear e;have y:∀n,f6 o n X.env (vL o X.env)=vL o X.env:=λn=>xi H;split at g
  ·unfold HY at g;cases g
  ·rename_i a;split at g
   ·rename_i r;obtain⟨s,z,i⟩:=qA2.mp g;clear g;have l:=Xm (es:=[]) (env:=X.env) r;have t:PA X [a] (YS X.K (ZS [s])):=Sy (p a s z) PY l;have h:((wK d (jE [a] X.env)).all (λx=>!x.1)&&(backToKw d (lJ [] X.env)).all (λx=>x.1.isSome)
     && decide ([a].length+([]:List gQ).length+(if([]:List gQ).isEmpty then 0 else 1)<30))=Z7:=by rw[l];rfl
    unfold HX at i;split at i
    ·rename_i q;subst q;cases i;exact MT wP PySem.F.slot_list_append PySem.F.type_list_append yg (p o v A) t (y _) h w l rfl
    split at i
    ·rename_i q;subst q;cases i;exact MT wP f8 PySem.F.type_list_extend ye (p o v A) t (y _) h w l rfl
    cases i
   ·cases g
  ·rename_i a b;split at g
   ·rename_i r;rw[qC4]at r;obtain⟨s,z,B⟩:=qA2.mp g;obtain⟨E,I,i⟩:=qA2.mp B;clear g B;have u:=Xm (es:=[]) (env:=X.env) r.2;have l:=Xm (es:=[b]) (env:=X.env) r.1;have t:PA X [a,b] (YS X.K (ZS [s,E])):=Sy (p a s z) (Sy (p b E I) PY u) l;have h:((wK d (jE [a,b] X.env)).all (λx=>!x.1)&&(backToKw d (lJ [] X.env)).all (λx=>x.1.isSome)
     && decide ([a,b].length+([]:List gQ).length+(if([]:List gQ).isEmpty then 0 else 1)<30))=Z7:=by rw[l,u];rfl
    unfold HW at i;split at i
    ·rename_i q;subst q;cases i;exact MT wP PySem.F.slot_list_insert PySem.F.type_list_insert yf (p o v A) t (y _) h w l (by rw[u];rfl)
    cases i
   ·cases g
  ·cases g
 ·cases e
noncomputable def PH:C:=λ_ S=>.ok (.dct S.length) (S++[.dk []])
theorem xa:PE X (.Dict [] [] pos) (ZA X.K PH):=CZ.weak (by
 rintro Z H Q ⟨J,B,S,d,i,a,h,e,y⟩;unfold PH at e;cases e;intro p b;obtain⟨c,g⟩:=a.push (o:=.dK []) (o':=.dk []) b ⟨[],Xg,YK.nil⟩;exact y _ _ _ c g (by unfold RV;exact⟨p,rfl,by rw[<- a.len,qA3 (qA6 _),qI2];rfl⟩))
noncomputable def MK(a b:C):C:=fun B=>Za (a B) λx=>Za (b B) λy S=>match Wb x with
 |some k=>.ok (.dct S.length) (S++[.dk [(k,y)]])
 |none=>.bad
theorem wz{ca V:C}(I:PE X a (ZA X.K ca))(m:PE X b (ZA X.K V)):PE X (.Dict [Z9 a] [b] pos) (ZA X.K (MK ca V)):=(CU (CW I m CY) rfl rfl (by simp) (by simp)).weak (by
 rintro Z H Q ⟨J,B,S,d,S',sr,W,e,y⟩;obtain⟨x,Y,e1,f1⟩:=Y9 e;obtain⟨z,U,e2,K⟩:=Y9 f1;split at K
 ·rename_i g hk;cases K;intro p A;obtain⟨s1,F⟩:=sr.other (o:=.dK []) A;refine⟨J,B,S,x,Y,s1,W.up F,e1,λv H1 J1 E j r1=>⟨J1,B,Y,z,U,E,(W.up F).up j,e2,λu H2 s c r r2=>?_⟩⟩;have P:p∉J:=sr.out A;have O:ZE H p (.dK []) p=Z9 (.dK []):=Xg;have q1:=j.fr p _ P O;have n1:=j.notIn P O;have T:=r.fr p _ n1 q1;have n2:=r.notIn n1 q1;have ev:=PQ hk r1;subst ev;refine⟨T,[(g,u)],rfl,by simp,?_⟩;have e3:T7 [] [(g,u)]=[(g,u)]:=by simp[T7,Y5]
  rw[e3];have L:TF X.K H2 (ZE H2 p (.dK [(g,u)])):=Sz T (λ_ z=>by cases z) (λ_ _ z=>by cases z);have t:=j.trans r c.nd;have i:ZJ X.K J s H H2:=F.trans t c.nd;have G:SR X.K (s++[p]) (U++[.dk [(g,z)]]) (ZE H2 p (.dK [(g,u)])):=by
   refine⟨by simp[c.len],?_,λn a w l g2=>?_⟩
   ·rw[qL9];refine⟨c.nd,by simp,λa I b m=>?_⟩;simp at m;subst m;exact λz=>n2 (z▸I)
   ·by_cases hn:n<s.length
    ·rw[qB0 hn]at l;rw[qB0 (by rw[<- c.len];exact hn)]at g2;exact(c.obj n a w l g2).up L ⟨[p],rfl⟩ (YX λz=>n2 (z▸qC0 l))
    ·rw[qA3 (by omega)]at l;rw[qA3 (by rw[<- c.len];omega)]at g2;have R:n - s.length=0:=by have:=(qA7.mp l).1;simp at this;omega
     rw[R]at l;rw[<- c.len,R]at g2;simp at l g2;subst l g2;exact⟨[(g,u)],Xg,YK.cons (RV.up L ⟨[p],rfl⟩ _ _ r2) .nil⟩
  have N:ZJ X.K J (s++[p]) H (ZE H2 p (.dK [(g,u)])):=by
   obtain⟨ν,e4,n⟩:=i.pre;refine⟨⟨ν++[p],by rw[e4,qC6],λb m=>?_⟩,λb o m q=>by rw[YX (Vr q A)];exact i.fr b o m q,i.tk.trans L⟩;rcases qB7.mp m with h|h
   ·exact n b h
   ·simp at h;subst h;exact A
  exact y _ _ _ G N (by unfold RV;exact⟨p,rfl,by rw[<- c.len,qA3 (qA6 _),qI2];rfl⟩)
 ·cases K)
noncomputable def MJ(f:y4->Option C)(ks:List (Option y4))(d:yE):Option C:=match ks,d with
 |[],[]=>Z9 PH
 |[Z9 a],[b]=>(f a).bind λc=>(f b).map λe=>MK c e
 |_,_=>Z8
theorem wy(b:WX X f)(e:MJ f ks a=Z9 c):PE X (.Dict ks a pos) (ZA X.K c):=by
 unfold MJ at e;split at e
 ·cases e;exact xa
 ·obtain⟨h,d,e⟩:=qA2.mp e;obtain⟨i,g,e⟩:=qA5.mp e;subst e;exact wz (b _ _ d) (b _ _ g)
 ·cases e
noncomputable def PF(op:BoolOp)(f:y4->Option C):yE->Option C
 |[]=>Z8
 |[a]=>f a
 |a::b::r=>(f a).bind λc=>(PF op f (b::r)).map λd=>match op with
  |.And=>UW c d
  |.Or=>UV c d
theorem MI(d:WX X f):∀{i:yE}{c:C},PF op f i=Z9 c->PE X (.BoolOp op i pos) (ZA X.K c)
 |[],c,e=>by cases e
 |[a],c,e=>Ff (d a c e)
 |a::b::r,c,e=>by
  unfold PF at e;obtain⟨g,h,e⟩:=qA2.mp e;obtain⟨l,j,e⟩:=qA5.mp e;subst e;cases op with
  |And=>exact zT (d a g h) (MI d j)
  |Or=>exact zS (d a g h) (MI d j)
def Q3(X:Cx)(t:y4->Option CT):Prop:=∀e c,t e=Z9 c->PT X e (YZ X.K c)
variable {t:y4->Option CT}
noncomputable def PD(op:BoolOp)(t:y4->Option CT):yE->Option CT
 |[]=>Z8
 |[a]=>t a
 |a::b::r=>(t a).bind λc=>(PD op t (b::r)).map λd=>match op with
  |.And=>VE c d
  |.Or=>Yu c d
theorem MH(ht:Q3 X t):∀{h:yE}{c:CT},PD op t h=Z9 c->PW X (.BoolOp op h pos) (YZ X.K c)
 |[],c,e=>by cases e
 |[a],c,e=>by
  cases op with
  |And=>exact Fm (ht a c e)
  |Or=>exact Fl (ht a c e)
 |a::b::r,c,e=>by
  unfold PD at e;obtain⟨d,g,e⟩:=qA2.mp e;obtain⟨j,i,e⟩:=qA5.mp e;subst e;cases op with
  |And=>exact zP (ht a d g) (MH ht i)
  |Or=>exact zO (ht a d g) (MH ht i)
noncomputable def Xz:y4->Bool
 |.Tuple _ _ _=>Z7
 |_=>Z5
noncomputable def Tz:y4->Bool
 |.Set _ _ _=>Z7
 |_=>Z5
theorem MG(h:Tz iter=Z5):∀x,vY iter env x=pure x:=by cases iter<;>first|(intro x;rfl)| cases h
noncomputable def HV(o:Option (List C))(es:yE):Option CI:=o.bind λa=>match es with
 |[_]=>Z9 (VY (ZS a))
 |[_,_]=>Z9 (TC (ZS a))
 |_=>Z8
noncomputable def MF(t:Bool)(o:Option (List C))(es:yE):Option CI:=if t=Z7 then o.bind λa=>match es with
  |[_,_]=>Z9 (Ra (ZS a))
  |_=>Z8
 else Z8
noncomputable def ME(t:Bool)(o:Option (List C))(es:yE):Option CI:=if t=Z7 then o.bind λa=>match es with
  |[_]=>Z9 (Q9 (ZS a))
  |_=>Z8
 else Z8
noncomputable def Sk(b:Sc)(ar:Str->yK)(f:y4->Option C)(a iter:y4):Option CI:=if Tz iter then Z8 else match iter with
 |.Call (.Name x _) es [] _=>if b.names.lookup x=Z9 .globalImplicit/\ar x=Z8 then
   (if x=("range":Str)then HV (zA1? f es) es else
    if x=("zip":Str)then MF (Xz a) (zA1? f es) es else
    if x=("enumerate":Str)then ME (Xz a) (zA1? f es) es else
    (f iter).map Zq)
  else(f iter).map Zq
 |_=>(f iter).map Zq
theorem wx(j:WX X f)(g:Gl X "range")(d:X.mg "range"=Z8)(e:HV (zA1? f es) es=Z9 c):PI X h (.Call (.Name "range" p) es [] pos) (YA X.K c):=by
 obtain⟨l,i,e2⟩:=qA2.mp e;clear e;obtain⟨h1,h2⟩:=Vy j i
 match es,h1,h2,e2 with
 |[a],h1,h2,e2 =>
  cases e2;exact xC (EI g d h1 (by rw[Xm (h2 a (by simp))];rfl))
 |[a,b],h1,h2,e2 =>
  cases e2;exact xB (EH g d h1 (by rw[Xm (h2 a (by simp)),Xm (h2 b (by simp))];rfl) (by rw[Xm (h2 b (by simp))];rfl))
 |[],h1,h2,e2=>cases e2
 |_::_::_::_,h1,h2,e2=>cases e2
theorem Q2(h:Xz a=Z7):∃es k pos,a=.Tuple es k pos:=by cases a<;>first|exact⟨_,_,_,rfl⟩| cases h
theorem wu(i:WX X f)(g:Gl X "zip")(j:X.mg "zip"=Z8)(e:MF (Xz d) (zA1? f es) es=Z9 c):PI X d (.Call (.Name "zip" p) es [] pos) (YA X.K c):=by
 unfold MF at e;by_cases ht:Xz d=Z7
 ·rw[if_pos ht]at e;obtain⟨m,l,pt,rfl⟩:=Q2 ht;obtain⟨n,h,e2⟩:=qA2.mp e;clear e ht;obtain⟨h1,h2⟩:=Vy i h
  match es,h1,h2,e2 with
  |[a,b],h1,h2,e2 =>
   cases e2;exact xx (BH g j h1 (by rw[Xm (h2 a (by simp)),Xm (h2 b (by simp))];rfl) (by rw[Xm (h2 b (by simp))];rfl))
  |_::_::_::_,h1,h2,e2=>cases e2
  |[],h1,h2,e2=>cases e2
  |[_],h1,h2,e2=>cases e2
 ·rw[if_neg ht]at e;cases e
theorem wt(h:WX X f)(g:Gl X "enumerate")(i:X.mg "enumerate"=Z8)(e:ME (Xz b) (zA1? f es) es=Z9 c):PI X b (.Call (.Name "enumerate" p) es [] pos) (YA X.K c):=by
 unfold ME at e;by_cases ht:Xz b=Z7
 ·rw[if_pos ht]at e;obtain⟨l,j,pt,rfl⟩:=Q2 ht;obtain⟨m,d,e2⟩:=qA2.mp e;clear e ht;obtain⟨h1,h2⟩:=Vy h d
  match es,h1,h2,e2 with
  |[a],h1,h2,e2 =>
   cases e2;exact xu (BW g i h1 (by rw[Xm (h2 a (by simp))];rfl))
  |[],h1,h2,e2=>cases e2
  |_::_::_,h1,h2,e2=>cases e2
 ·rw[if_neg ht]at e;cases e
theorem MD(h:YO X sc ar cl k)(d:WX X f)(e:Sk sc ar f i iter=Z9 c):PI X i iter (YA X.K c)/\Tz iter=Z5:=by
 unfold Sk at e;split at e
 ·cases e
 rename_i a;refine⟨?_,by simpa using a⟩;have dflt:∀{c},(f iter).map Zq=Z9 c->PI X i iter (YA X.K c):=λe=>by obtain⟨m,l,e⟩:=qA5.mp e;subst e;exact xD (d _ _ l)
 split at e
 ·rename_i x p n j;split at e
  ·rename_i b;have g:=h.gl x b.1;split at e
   ·rename_i q;subst q;exact wx d g (h.blt.b _ (by decide +kernel) b.2) e
   split at e
   ·rename_i q;subst q;exact wu d g (h.blt.b _ (by decide +kernel) b.2) e
   split at e
   ·rename_i q;subst q;exact wt d g (h.blt.b _ (by decide +kernel) b.2) e
   exact dflt e
  ·exact dflt e
 ·exact dflt e
noncomputable def Tx:yE->Option (yH)
 |[]=>Z9 []
 |.Name x _::r=>(Tx r).map (x::·)
 |_::_=>Z8
noncomputable def Sj:y4->Option (Xb×yH)
 |.Name x _=>Z9 (.one,[x])
 |.Tuple b _ _=>(Tx b).map λa=>(.many a.length,a)
 |_=>Z8
noncomputable def WR(ns:List (Str×jV)):yH:=(ns.filter λy=>y.2 == .free).map (·.1)
noncomputable def slots(N:yH):yH->Option (List Nat)
 |[]=>Z9 []
 |x::r=>(Ut N x 0).bind λj=>(slots N r).map (j::·)
noncomputable def MC(xs:yH)(scope:vG):Sc:=⟨xs++WR scope.names,scope.names,Z8⟩
noncomputable def compOk(a:Sc)(xs:yH)(scope:vG):Bool :=
 decide (scope.kind=.function)&&scope.names.all (λy=>y.2 != .cell||scope.names.lookup y.1 == Z9 .cell)&&scope.names.all (λy=>y.2 != .local||scope.names.lookup y.1 == Z9 .local)
 && decide ((xs++WR scope.names).Nodup)&&xs.all (λx=>scope.names.lookup x == Z9 .local||scope.names.lookup x == Z9 .cell)&&decide (1<=xs.length)
 && (WR scope.names).all (λx=>(a.names.lookup x == Z9 .cell||a.names.lookup x == Z9 .free)&&scope.names.lookup x == Z9 .free)
noncomputable def Tw(d:Sc)(g:Option CI)(j:Sc->y4->Option C)(l:Sc->y4->Option CT)(i elt:y4)(a:yE)(scope:vG):Option C :=
 (Sj i).bind λp=>if compOk d p.2 scope then(slots d.N (WR scope.names)).bind λb=>g.bind λc=>(j (MC p.2 scope) elt).bind λe=>match a with
  |[]=>Z9 (X1 c p.2.length b p.1 (λ_=>ret Z7) e)
  |[q]=>(l (MC p.2 scope) q).map λh=>X1 c p.2.length b p.1 h e
  |_=>Z8
 else Z8
theorem HU:∀{xs:yH}{js:List Nat},slots N xs=Z9 js->js.length=xs.length/\∀(i j:Nat),js[i]?=Z9 j->∃x,xs[i]?=Z9 x/\N[j]?=Z9 x
 |[],js,e=>by cases e;exact⟨rfl,λi j h=>by simp at h⟩
 |x::r,js,e=>by
  unfold slots at e;obtain⟨m,d,e⟩:=qA2.mp e;obtain⟨a,g,e⟩:=qA5.mp e;subst e;obtain⟨l,b⟩:=HU g;refine⟨by simp[l],λi j h=>?_⟩;cases i with
  |zero=>simp at h;subst h;exact⟨x,rfl,(Sm d).2⟩
  |succ i =>
   rw[qC9]at h;obtain⟨y,c,g2⟩:=b i j h;exact⟨y,by rw[qC9];exact c,g2⟩
theorem PC{env:Env}:∀{a:List (Str×jV)}{x:Str}{k:jV},k≠.free->a.lookup x=Z9 k ->
  (a.map fun(n,k)=>if(k == NameKind.free&&env.scope.kind == .function&&env.kindOf n == Z9 .cell)then(n,NameKind.cell)else(n,k)).lookup x=Z9 k
 |[],_,_,_,h=>by simp at h
 |(n,k')::r,x,k,nf,h=>by
  have c:=@PC env r x k nf;show List.lookup x ((if(k' == NameKind.free&&env.scope.kind == .function&&env.kindOf n == Z9 .cell)=Z7 then(n,NameKind.cell)else(n,k'))::_)=_;cases b:x == n with
  |true =>
   simp only[qD1,b]at h;cases h;have e:(k' == NameKind.free)=Z5:=by simpa using nf
   simp[qD1,b,e]
  |false =>
   simp only[qD1,b]at h;by_cases d:(k' == NameKind.free&&env.scope.kind == .function&&env.kindOf n == Z9 .cell)=Z7
   ·rw[if_pos d];simp only[qD1,b];exact c h
   ·rw[if_neg d];simp only[qD1,b];exact c h
theorem wq{ns:List (Str×jV)}{k:jV}(h:ns.lookup x=Z9 k):(x,k)∈ns:=NJ h
theorem YO.comp(h:YO X sc ar cl k)(b:compOk sc xs scope=Z7)(c:List (Str×yR))(s:yQ)(H:Hp)(C:yR)(ex:yC):YO (Xf X scope (xs++WR scope.names) c s H C ex) (MC xs scope) ar cl k:=by
 unfold compOk at b;simp only[qC4,decide_eq_true_eq]at b;obtain⟨⟨⟨⟨⟨⟨m,e⟩,i⟩,d⟩,g⟩,j⟩,l⟩:=b;exact{
  calm:=h.calm
  N:=rfl
  nd:=d
  gl:=λx a=>PC (by decide) a
  loc:=λx a=>PC (by decide) a
  cel:=λx a=>PC (by decide) a
  fre:=λx a=>JU a
  fnn:=λz=>by cases z
  room:=h.room
  xe:=rfl
  blt:=h.blt
  fns:=h.fns }
theorem PB:∀{es:yE}{xs:yH},Tx es=Z9 xs->es.length=xs.length/\∀(i:Nat) (e:y4),es[i]?=Z9 e->∃x pos,e=.Name x pos/\xs[i]?=Z9 x
 |[],xs,h=>by cases h;exact⟨rfl,λi e h=>by simp at h⟩
 |a::r,xs,h=>by
  cases a with
  |Name x pos =>
   unfold Tx at h;obtain⟨l,g,e⟩:=qA5.mp h;subst e;obtain⟨j,c⟩:=PB g;refine⟨by simp[j],λi e b=>?_⟩;cases i with
   |zero=>simp at b;subst b;exact⟨x,pos,rfl,rfl⟩
   |succ i =>
    rw[qC9]at b;obtain⟨y,p,d,g2⟩:=c i e b;exact⟨y,p,d,by rw[qC9];exact g2⟩
  |_=>cases h
theorem wo{es:yE}:jR (.Name x pos::es) env=(Z5,fE (.Name x pos) env)::jR es env:=rfl
theorem HS:∀{es:yE}{s:Nat},(∀(i:Nat) (e:y4),es[i]?=Z9 e->∃x pos,e=.Name x pos/\X.N[s+i]?=Z9 x/\SK X.env.scope x/\(X.fn x=Z7∨X.env.scope.names.lookup x=Z9 .local))->X.N.Nodup->Wl X es (PL s es.length)
 |[],s,h,nd=>KG
 |a::r,s,h,nd=>by obtain⟨x,pos,rfl,g,g2,c⟩:=h 0 a rfl;refine KF (Qq nd (by simpa using g) g2 c) (HS (s:=s+1) (λi e d=>?_) nd) rfl;obtain⟨y,p,j,b,l⟩:=h (i+1) e (by rw[qC9];exact d);exact⟨y,p,j,by rw[show s+1+i=s+(i+1) by omega];exact b,l⟩
theorem HR:∀{es:yE}{xs:yH},Tx es=Z9 xs->(jR es env).length=xs.length/\(jR es env).findIdx? (·.1)=Z8
 |[],xs,h=>by cases h;exact⟨rfl,rfl⟩
 |a::r,xs,h=>by
  cases a with
  |Name x b =>
   unfold Tx at h;obtain⟨i,d,e⟩:=qA5.mp h;subst e;obtain⟨g,c⟩:=HR (env:=env) d;rw[wo];exact⟨by simp[g],by rw[qR0];simp[c]⟩
  |_=>cases h
theorem wm{t:Xb}(e:Sj b=Z9 (t,xs)):V8 t=xs.length:=by
 cases b with
 |Name x a=>cases e;rfl
 |Tuple c n a =>
  unfold Sj at e;obtain⟨g,d,e⟩:=qA5.mp e;cases e;rfl
 |_=>cases e
theorem HQ(h:YO b a ar cl k)(g:a.names.lookup x=Z9 .local∨a.names.lookup x=Z9 .cell/\b.fn x=Z7):SK b.env.scope x/\(b.fn x=Z7∨b.env.scope.names.lookup x=Z9 .local):=by
 rcases g with g|⟨g,f⟩
 ·exact⟨.inl (h.loc x g),.inr (h.loc x g)⟩
 ·exact⟨.inr (h.cel x g),.inl f⟩
theorem wj(h:YO c a ar cl k){t:Xb}(e:Sj l=Z9 (t,xs))(o:∀(i:Nat) (x:Str),xs[i]?=Z9 x->a.N[i]?=Z9 x/\(a.names.lookup x=Z9 .local∨a.names.lookup x=Z9 .cell/\c.fn x=Z7)):PG c l (tOfT' c.K t)/\V8 t=xs.length:=by
 have p:c.N.Nodup:=by rw[h.N];exact h.nd
 cases l with
 |Name x b =>
  cases e;obtain⟨d,g2⟩:=o 0 x rfl;obtain⟨j,m⟩:=HQ h g2;exact⟨Qq p (by rw[h.N];exact d) j m,rfl⟩
 |Tuple es n b =>
  unfold Sj at e;obtain⟨z,q,e⟩:=qA5.mp e;cases e;obtain⟨v,w⟩:=HR (env:=c.env) q;obtain⟨u,y⟩:=PB q;refine⟨?_,rfl⟩;have:=HS (X:=c) (es:=es) (s:=0) (λi e r=>by
   obtain⟨x,b,rfl,g⟩:=y i e r;obtain⟨d,g2⟩:=o i x g;obtain⟨j,m⟩:=HQ h g2;exact⟨x,b,rfl,by rw[h.N,qR7];exact d,j,m⟩) p
  rw[u]at this;exact KE h.calm this v w
 |_=>cases e
theorem HP(h:YO X sc ar cl k)(e:compOk sc xs scope=Z7)(E:slots sc.N (WR scope.names)=Z9 js):SE X scope (xs++WR scope.names) xs.length js:=by
 obtain⟨r,A⟩:=HU E;unfold compOk at e;simp only[qC4,decide_eq_true_eq]at e;obtain⟨⟨⟨⟨⟨⟨u,p⟩,n⟩,G⟩,H⟩,F⟩,o⟩:=e;have b:∀x,(x,NameKind.free)∈scope.names->(sc.names.lookup x=Z9 .cell∨sc.names.lookup x=Z9 .free)/\scope.names.lookup x=Z9 .free:=λx a=>by
  have d:x∈WR scope.names:=by unfold WR;rw[qB9];exact⟨(x,.free),by rw[qE0];exact⟨a,by simp⟩,rfl⟩
  have:=qD9.mp o x d;simpa using this
 refine⟨h.calm,u,λx a=>?_,λx a=>?_,λx a g=>?_,?_,λi j w=>?_⟩
 ·have:=qD9.mp p _ a;simpa using this
 ·rcases(b x a).1 with q|q
  ·exact .inl (h.cel x q)
  ·exact h.fre x q
 ·have:=qD9.mp n x a;simp only[qE8,bne_iff_ne,ne_eq,beq_iff_eq]at this;rcases this with z|z
  ·exact absurd g z
  ·exact z
 ·rw[qB8,r]
 ·obtain⟨x,l,g2⟩:=A i j w;have d:(x,NameKind.free)∈scope.names:=by
   have:=qC0 l;unfold WR at this;rw[qB9]at this;obtain⟨⟨y,B⟩,c,m⟩:=this;rw[qE0]at c;dsimp only at m;subst m;have:B=.free:=by simpa using c.2
   subst this;exact c.1
  obtain⟨s,v⟩:=b x d;refine⟨x,?_,by rw[h.N];exact g2,v,h.vis (.inr s)⟩;rw[qA3 (by omega),qL4];exact l
theorem HN(h:YO X sc ar cl k){t:Xb}(b:compOk sc xs scope=Z7)(g:Sj d=Z9 (t,xs))(a:List (Str×yR))(s:yQ)(H:Hp)(C:yR)(ex:yC):PG (Xf X scope (xs++WR scope.names) a s H C ex) d (tOfT' X.K t) :=
 (wj (h.comp b a s H C ex) g λi x c=>by
  unfold compOk at b;simp only[qC4,decide_eq_true_eq]at b;have e:=b.1.1.2;have j:=(qA7.mp c).1;refine⟨?_,?_⟩
  ·show(xs++WR scope.names)[i]?=Z9 x;rw[qB0 j];exact c
  ·have:=qD9.mp e x (qC0 c);rw[qE8,beq_iff_eq,beq_iff_eq]at this;rcases this with z|z
   ·exact .inl z
   ·exact .inr ⟨z,decide_eq_true (wq z)⟩).1
inductive wg(X:Cx)(sc:Sc)(tg iter elt:y4)(ifs:yE)(scope:vG)(c:C):Prop
 |mk (t:Xb) (xs:yH) (js:List Nat) (ci:CI) (ct:CT) (ce:C) (BB:SE X scope (xs++WR scope.names) xs.length js) (hi:PI X tg iter (YA X.K ci)) (hs:Tz iter=Z5)
  (hg:∀cl' s H C ex,PG (Xf X scope (xs++WR scope.names) cl' s H C ex) tg (tOfT' X.K t)) (hT:∀cl' s H C ex,T5 (Xf X scope (xs++WR scope.names) cl' s H C ex) ifs (YZ X.K ct))
  (hE:∀cl' s H C ex,PE (Xf X scope (xs++WR scope.names) cl' s H C ex) elt (ZA X.K ce)) (ht:V8 t<=xs.length) (h1:1<=xs.length) (hc:c=X1 ci xs.length js t ct ce)
theorem HM(h:YO X sc ar cl k){K:Option CI}{G:Sc->y4->Option C}(e:Tw sc K G U v elt i scope=Z9 c)
  (hi:∀l,K=Z9 l->PI X v iter (YA X.K l)/\Tz iter=Z5) (z:∀n a,YO n a ar cl k->WX n (G a)) (u:∀n a,YO n a ar cl k->Q3 n (U a)):wg X sc v iter elt i scope c:=by
 unfold Tw at e;obtain⟨⟨t,m⟩,w,e⟩:=qA2.mp e;dsimp only at e;by_cases b:compOk sc m scope=Z7
 ·rw[if_pos b]at e;obtain⟨O,R,T⟩:=qA2.mp e;obtain⟨l,e2,u2⟩:=qA2.mp T;obtain⟨x,W,p⟩:=qA2.mp u2;clear e T u2;obtain⟨E,F⟩:=hi l e2;have L:1<=m.length:=by have j:=b;unfold compOk at j;simp only[qC4,decide_eq_true_eq]at j;exact j.1.2
  have A:=λg s H C ex=>z _ _ (h.comp b g s H C ex) elt x W;have ht:V8 t<=m.length:=by rw[wm w];exact qA6 _
  cases i with
  |nil =>
   cases p;exact⟨t,m,O,l,_,x,HP h b R,E,F,HN h b w,λg s H C ex o s' Z P Q I ⟨J,B,S,d,S',Y,re,e,y⟩=>CM o s' Z P Q I (by obtain⟨rfl,rfl⟩:=Ys e;exact y P J Y (ZJ.refl _ _ _)),A,ht,L,rfl⟩
  |cons q r =>
   cases r with
   |nil =>
    obtain⟨N,V,u4⟩:=qA5.mp p;exact⟨t,m,O,l,N,x,HP h b R,E,F,HN h b w,λg s H C ex=>CL (u _ _ (h.comp b g s H C ex) q N V),A,ht,L,u4.symm⟩
   |cons _ _=>cases p
 ·rw[if_neg b]at e;cases e
theorem we(h:YO X sc ar cl k)(e:Tw sc n m o j elt b scope=Z9 c)
  (x:∀i,n=Z9 i->PI X j iter (YA X.K i)/\Tz iter=Z5) (l:∀d a,YO d a ar cl k->WX d (m a)) (g:∀d a,YO d a ar cl k->Q3 d (o a)):PE X (.ListComp elt [⟨j,iter,b,0⟩] scope pos) (ZA X.K c):=by obtain⟨t,B,A,i,z,E,y,s,u,w,p,r,ht,v,rfl⟩:=HM h e x l g;exact(CH y s w p r (MG u)).weak fun Z H Q q=>Ih ht v q
theorem wd(h:YO X sc ar cl k){d:yE}(m:PG X (.Name j pos') go)(o:wW (.ListComp elt [⟨i,iter,d,0⟩] scope pos) (Z9 (.Name j pos')) b.line X.env=pure Z7)(e:Tw sc s r u i elt d scope=Z9 c)
  (B:∀n,s=Z9 n->PI X i iter (YA X.K n)/\Tz iter=Z5) (p:∀g a,YO g a ar cl k->WX g (r a)) (l:∀g a,YO g a ar cl k->Q3 g (u a)):PS X (.Assign [.Name j pos'] (.ListComp elt [⟨i,iter,d,0⟩] scope pos) b) (VP (ZA X.K c) go):=by obtain⟨t,I,G,n,F,J,E,x,y,A,v,w,ht,z,rfl⟩:=HM h e B p l;exact(BG m o E x A v w (MG y)).weak λD Z H q=>Ih ht z q
end
section
variable (ar:Str->yK) (cl:Str->yM->M D)
mutual
noncomputable def cE:Nat->Sc->y4->Option C
 |0,_,_=>Z8
 |n+1,sc,e=>match e with
  |.Constant v _ _=>Ig v
  |.Name x _=>MQ sc ar x
  |.BinOp a h b _=>(Ie h).bind λo=>(cE n sc a).bind λc=>(cE n sc b).map λr=>ZW o c r
  |.UnaryOp h a _=>match h with
   |.USub=>(cE n sc a).map λc=>M4 UU c
   |.Not=>(cE n sc a).map λc=>P3 c
   |_=>Z8
  |.BoolOp h p _=>PF h (cE n sc) p
  |.IfExp t a b _=>(cT n sc t).bind λu=>(cE n sc a).bind λc=>(cE n sc b).map λr=>Rg u c r
  |.Compare a l bs _=>Q4 (cE n sc) a l bs
  |.Tuple f _ _=>(zA1? (cE n sc) f).bind λk=>if k.length<=1000 then Z9 (ZC (ZS k))else Z8
  |.List f _=>(zA1? (cE n sc) f).bind λk=>if k.length<=1000 then Z9 (Zr (ZS k))else Z8
  |.Subscript a b _=>TB (cE n sc) a b
  |.Dict ks p _=>MJ (cE n sc) ks p
  |.Call s f kw i=>match kw with
   |[]=>match s with
    |.Name x _=>MM sc ar cl (cE n sc) x f
    |.Attribute o m g=>ML (cE n sc) o m f g i
    |_=>Z8
   |_::_=>Z8
  |.ListComp q j d _=>match j with
   |[⟨tg,iter,ifs,ia⟩]=>if ia=0 then Tw sc (Sk sc ar (cE n sc) tg iter) (cE n) (cT n) tg q ifs d else Z8
   |_=>Z8
  |_=>Z8
noncomputable def cT:Nat->Sc->y4->Option CT
 |0,_,_=>Z8
 |n+1,sc,e=>match e with
  |.UnaryOp c a _=>match c with
   |.Not=>(cT n sc a).map λd=>Wt d
   |_=>(cE n sc e).map YN
  |.BoolOp c f _=>PD c (cT n sc) f
  |.IfExp _ _ _ _=>Z8
  |.Compare a b bs _=>MN (cE n sc) a b bs
  |_=>(cE n sc e).map YN
end
end
section
variable {X:Cx}{sc:Sc}{ar:Str->yK}{cl:Str->yM->M D}{k:Nat}
theorem Si:∀n:Nat,(∀X i,YO X i ar cl k->WX X (cE ar cl n i))/\(∀X i,YO X i ar cl k->Q3 X (cT ar cl n i))
 |0=>⟨λX i h e c q=>(by cases q),λX i h e c q=>(by cases q)⟩
 |n+1=>by
  obtain⟨z,w⟩:=Si n;refine⟨λX i h e c q=>?_,λX i h e c q=>?_⟩
  ·have f:=z X i h;have ht:=w X i h;cases e with
   |Constant v j d=>exact xn q
   |Name x d=>exact xo h q
   |BinOp a B b d =>
    obtain⟨o,O,u⟩:=qA2.mp q;obtain⟨C,l,r⟩:=qA2.mp u;obtain⟨W,L,H⟩:=qA5.mp r;subst H;exact zZ (MP O) (f _ _ l) (f _ _ L)
   |UnaryOp B a d =>
    cases B with
    |USub =>
     obtain⟨C,l,r⟩:=qA5.mp q;subst r;exact zU zl (f _ _ l)
    |Not =>
     obtain⟨C,l,r⟩:=qA5.mp q;subst r;exact zR (f _ _ l)
    |_=>cases q
   |BoolOp B P d=>exact MI f q
   |IfExp t a b d =>
    obtain⟨ct,O,u⟩:=qA2.mp q;obtain⟨C,l,r⟩:=qA2.mp u;obtain⟨W,L,H⟩:=qA5.mp r;subst H;exact zQ (ht _ _ O) (f _ _ l) (f _ _ L)
   |Compare a G bs d=>exact xk h.room f q
   |Tuple T j d =>
    obtain⟨cs,l,u⟩:=qA2.mp q;split at u
    ·rename_i K;cases u;exact zJ (Vy f l).1 K
    ·cases u
   |List T d =>
    obtain⟨cs,l,u⟩:=qA2.mp q;split at u
    ·rename_i K;cases u;exact zI (Vy f l).1 K
    ·cases u
   |Subscript a b d=>exact xl h.room f q
   |Dict ks P d=>exact wy f q
   |Call Y T kw S =>
    cases kw with
    |cons _ _=>cases q
    |nil =>
     cases Y with
     |Name x p=>exact xf h f q
     |Attribute o m Q=>exact xc h.room f q
     |_=>cases q
   |ListComp J E y d =>
    cases E with
    |nil=>cases q
    |cons g gs =>
     obtain⟨R,iter,F,Z⟩:=g;cases gs with
     |cons _ _=>cases q
     |nil =>
      change (if Z=0 then Tw i (Sk i ar (cE ar cl n i) R iter) (cE ar cl n) (cT ar cl n) R J F y else Z8)=Z9 c at q;split at q
      ·rename_i V;subst V;exact we h q (λci e=>MD h f e) (λN A I=>z N A I) (λN A I=>w N A I)
      ·cases q
   |_=>cases q
  ·have f:=z X i h;have ht:=w X i h;have dflt:∀{c:CT},(cE ar cl n i e).map YN=Z9 c->(∀s,dJ e X.env s=(do let v <- s;mT e.pos;wI [v] (truthy v)))->PT X e (YZ X.K c):=λ{c} q U=>by obtain⟨C,l,r⟩:=qA5.mp q;subst r;exact zL (f _ _ l) U
   cases e with
   |UnaryOp B a d =>
    cases B with
    |Not =>
     obtain⟨C,l,r⟩:=qA5.mp q;subst r;exact zN (ht _ _ l)
    |USub=>exact dflt q λ_=>rfl
    |UAdd=>exact dflt q λ_=>rfl
    |Invert=>exact dflt q λ_=>rfl
   |BoolOp B P d=>exact(MH ht q).pt
   |IfExp t a b d=>cases q
   |Compare a G bs d=>exact xj h.room f q
   |_=>exact dflt q λ_=>rfl
section
variable (ar:Str->yK) (cl:Str->yM->M D)
noncomputable def MB(a:Sc)(x:Str):Option G:=(Ut a.N x 0).bind λi=>if a.names.lookup x=Z9 .local∨(a.fn.isSome=Z7/\a.names.lookup x=Z9 .cell)then Z9 (gN i)else Z8
mutual
noncomputable def cG:Nat->Sc->y4->Option G
 |0,_,_=>Z8
 |n+1,sc,e=>match e with
  |.Name x _=>MB sc x
  |.Subscript a b _=>match b with
   |_=>if Q5 b then Z8 else(cE ar cl n sc a).bind λc=>(cE ar cl n sc b).map λf=>gS c f
  |.Tuple d _ _=>(cGs n sc d).map λg=>gT g
  |_=>Z8
noncomputable def cGs:Nat->Sc->yE->Option (List G)
 |0,_,_=>Z8
 |n+1,sc,es=>match es with
  |[]=>Z9 []
  |e::r=>if Xn e then(cG n sc e).bind λg=>(cGs n sc r).map λa=>g::a else Z8
end
end
theorem YO.nd'(h:YO X sc ar cl k):X.N.Nodup:=by rw[h.N];exact h.nd
theorem Q1(h:YO X sc ar cl k)(e:MB sc x=Z9 g):∃i,g=gN i/\X.N[i]?=Z9 x/\SK X.env.scope x/\(X.fn x=Z7∨X.env.scope.names.lookup x=Z9 .local):=by
 unfold MB at e;obtain⟨i,d,a⟩:=qA2.mp e;split at a
 ·rename_i c;cases a;refine⟨i,rfl,by rw[h.N];exact(Sm d).2,?_⟩;rcases c with q|⟨f,b⟩
  ·exact⟨.inl (h.loc x q),.inr (h.loc x q)⟩
  ·exact⟨.inr (h.cel x b),.inl (h.fnn f x)⟩
 ·cases a
theorem wc(h:Q5 b=Z5):∀v,fE (.Subscript a b pos) env v=(do
   let ov <- wI [v] (vL a env)
   let iv <- wI [v,ov] (vL b env)
   mT pos
   wI [v,ov,iv] (dS ov iv v)
   release [v,ov,iv] []):=by cases b<;>first|(intro v;rfl)| cases h
theorem MA{es:yE}(h:Xn e=Z7):jR (e::es) env=(Z5,fE e env)::jR es env:=by cases e<;>first|rfl|cases h
theorem HL:∀n:Nat,(∀X d,YO X d ar cl k->∀e g,cG ar cl n d e=Z9 g->PG X e (W0 X.K g))/\(∀X d,YO X d ar cl k->∀es f,cGs ar cl n d es=Z9 f->Wl X es (Rb X.K f)/\(jR es X.env).length=f.length/\(jR es X.env).findIdx? (·.1)=Z8)
 |0=>⟨λX d h e c q=>(by cases q),λX d h e c q=>(by cases q)⟩
 |n+1=>by
  obtain⟨D,u⟩:=HL n;refine⟨λX d h e g q=>?_,λX d h es f q=>?_⟩
  ·cases e with
   |Name x l =>
    obtain⟨i,rfl,m,o,s⟩:=Q1 h q;exact xS (Qq h.nd' m o s)
   |Subscript a b l =>
    change (if Q5 b then Z8 else(cE ar cl n d a).bind λC=>(cE ar cl n d b).map λB=>gS C B)=_ at q;split at q
    ·cases q
    ·rename_i z;obtain⟨C,t,p⟩:=qA2.mp q;obtain⟨B,A,w⟩:=qA5.mp p;subst w;exact xR (NR h.room) ((Si n).1 X d h _ _ t) ((Si n).1 X d h _ _ A) (wc (by simpa using z))
   |Tuple es j l =>
    obtain⟨f,t,p⟩:=qA5.mp q;subst p;obtain⟨m,o,s⟩:=u X d h es f t;exact xN h.calm m o s
   |_=>cases q
  ·cases es with
   |nil=>cases q;exact⟨xQ,rfl,rfl⟩
   |cons e r =>
    change (if Xn e=Z7 then(cG ar cl n d e).bind λg=>(cGs ar cl n d r).map λf=>g::f else Z8)=_ at q;split at q
    ·rename_i z;obtain⟨g,t,p⟩:=qA2.mp q;obtain⟨y,A,w⟩:=qA5.mp p;subst w;obtain⟨m,o,s⟩:=u X d h r y A;have v:=MA (es:=r) (env:=X.env) z;refine⟨xP (D X d h e g t) m (by rw[v];rfl),by rw[v];simp[o],by rw[v,qR0];simp[s]⟩
    ·cases q
noncomputable def Q0:y4->Bool
 |.ListComp _ _ _ _=>Z7
 |.SetComp _ _ _ _=>Z7
 |.DictComp _ _ _ _ _=>Z7
 |_=>Z5
theorem HK(h:Q0 e=Z5):wW e t n env=pure Z5:=by cases e<;>first|rfl|cases h
noncomputable def Mz:y4->y4->Bool
 |.Name _ _,.ListComp _ _ _ _=>Z5
 |.Tuple _ _ _,.ListComp _ _ _ _=>Z5
 |_,e=>Q0 e
theorem wb(h:YO X sc ar cl k):∀{n:Nat}{elt:y4}{gens:List mM}{scope:vG}{pos pos' a:Pos}{x:Str}{c:C}{i:Nat} (q:cE ar cl n sc (.ListComp elt gens scope pos)=Z9 c) (d:PG X (.Name x pos') (Ua i))
  (f:wW (.ListComp elt gens scope pos) (Z9 (.Name x pos')) a.line X.env=pure Z7),PS X (.Assign [.Name x pos'] (.ListComp elt gens scope pos) a) (VP (ZA X.K c) (Ua i))
 |0,_,_,_,_,_,_,_,_,_,q,_,_=>by cases q
 |n+1,elt,gens,scope,pos,pos',a,x,c,i,q,d,f=>by
  obtain⟨j,o⟩:=Si (ar:=ar) (cl:=cl) (k:=k) n;cases gens with
  |nil=>cases q
  |cons g u =>
   obtain⟨r,iter,l,t⟩:=g;cases u with
   |cons _ _=>cases q
   |nil =>
    change (if t=0 then Tw sc (Sk sc ar (cE ar cl n sc) r iter) (cE ar cl n) (cT ar cl n) r elt l scope else Z8)=Z9 c at q;split at q
    ·rename_i s;subst s;exact wd h d f q (λv e=>MD h (j X sc h) e) (λp b m=>j p b m) (λp b m=>o p b m)
    ·cases q
theorem wa:∃b:Bool,wW (.ListComp elt gens scope pos) (Z9 (.Name x pos')) line env=pure b:=⟨_,rfl⟩
inductive CB(tg e:y4):Prop
 |no (h:∀n env,wW e (Z9 tg) n env=pure Z5)
 |yes (x:Str) (pos':Pos) (elt:y4) (gens:List mM) (scope:vG) (pos:Pos) (h1:tg=.Name x pos') (h2:e=.ListComp elt gens scope pos)
theorem CB.of(h:Q0 e=Z5):CB a e:=.no λ_ _=>HK h
theorem vz(h:Mz g e=Z5):CB g e:=by
 cases g with
 |Name x f =>
  cases e with
  |ListComp d b a c=>exact .yes x f d b a c rfl rfl
  |_=>exact .of h
 |Tuple i k c =>
  cases e with
  |ListComp d b a c=>exact .no λ_ _=>rfl
  |_=>exact .of h
 |_=>exact .of h
noncomputable def Pz:y4->Bool
 |.List _ _=>Z7
 |_=>Z5
theorem HJ(h:(Xz a&&Xz e)=Z5)(d:Pz a=Z5):j8 [a] e env=pure Z8:=by
 cases a with
 |Tuple c n b=>cases e<;>first|rfl|cases h
 |List c b=>cases d
 |_=>rfl
noncomputable def HI:y4->yE
 |.Tuple a _ _=>a
 |_=>[]
noncomputable def two?{c:Type}:List c->Option (c×c)
 |[a,b]=>Z9 (a,b)
 |_=>Z8
noncomputable def Sh(a:Sc):y4->Bool
 |.Tuple [.Name x _,.Name y _] _ _=>a.names.lookup x == Z9 .cell||a.names.lookup y == Z9 .cell
 |_=>Z5
theorem vx(h:Sh sc c=Z7):∃x b y a k pos,c=.Tuple [.Name x b,.Name y a] k pos/\(sc.names.lookup x=Z9 .cell∨sc.names.lookup y=Z9 .cell):=by
 unfold Sh at h;split at h
 ·rename_i x b y a k pos;simp only[qE8,beq_iff_eq]at h;exact⟨x,b,y,a,k,pos,rfl,h⟩
 ·cases h
theorem vw{l:yE}(h:env.scope.names.lookup x=Z9 .cell∨env.scope.names.lookup y=Z9 .cell):j8 [.Tuple [.Name x c,.Name y b] k pos] (.Tuple l g a) env=pure Z8:=by
 have m:(([Expr.Name x c,Expr.Name y b].filterMap λe=>match e with
  |.Name d p=>if(env.kindOf d == Z9 NameKind.local&&p.line == (([Expr.Name x c,Expr.Name y b].head?.map (·.pos.line)).getD 0))=Z7 then Z9 d else Z8
  | _=>Z8).length != 2)=Z7:=by
  have i:env.kindOf x=env.scope.names.lookup x:=rfl;have j:env.kindOf y=env.scope.names.lookup y:=rfl;have f:(Z9 NameKind.cell == Z9 NameKind.local)=Z5:=by decide
  rcases h with h|h
  ·simp only[qI0,qN0,i,h,f,qP8,qF8,if_false];split<;>rfl
  ·simp only[qI0,qN0,j,h,f,qP8,qF8,if_false];split<;>rfl
 unfold j8;simp only[pure_bind];split
 ·rfl
 ·split
  ·rfl
  ·rw[if_pos];show(_||_)=Z7;rw[qE8];exact .inl m
theorem HH(h:YO X sc ar cl k)(c:(Xz a&&Xz e&&!Sh sc a)=Z5)(d:Pz a=Z5):j8 [a] e X.env=pure Z8:=by
 cases g:Sh sc a with
 |false =>
  rw[g]at c;exact HJ (by simpa using c) d
 |true =>
  cases f:Xz e with
  |false=>exact HJ (by rw[f];simp) d
  |true =>
   obtain⟨n,m,j,rfl⟩:=Q2 f;obtain⟨x,p,y,l,o,i,rfl,b⟩:=vx g;exact vw (b.imp (h.cel x) (h.cel y))
theorem Mx:∀{l:List a}{p:a×a},two? l=Z9 p->l=[p.1,p.2]
 |[_,_],_,h=>by cases h;rfl
noncomputable def Py(a:Sc)(t v:y4×y4)(n:Str×Str):Option (Nat×Nat×y4×y4) :=
 if n.1≠n.2/\a.names.lookup n.1=Z9 .local/\a.names.lookup n.2=Z9 .local/\t.1.pos.line=t.2.pos.line/\Xn v.1=Z7/\Xn v.2=Z7/\([v.1,v.2].all (foldedForSure 8))=Z5/\([v.1,v.2].all (constantsAlone 8))=Z5 then
  (Ut a.N n.1 0).bind λi=>(Ut a.N n.2 0).map λj=>(i,j,v.1,v.2)
 else Z8
noncomputable def QZ(a:Sc)(t v:y4×y4):Option (Nat×Nat×y4×y4):=(Tx [t.1,t.2]).bind λb=>(two? b).bind (Py a t v)
noncomputable def QY(b:Sc)(a e:y4):Option (Nat×Nat×y4×y4):=if Xz a=Z7/\Xz e=Z7 then
  (two? (HI a)).bind λt=>(two? (HI e)).bind (QZ b t)
 else Z8
theorem vv(hk:env.scope.kind=.function)(c:x≠y)(m:env.scope.names.lookup x=Z9 .local)(r:env.scope.names.lookup y=Z9 .local)(p:px.line=d.line)(n:Xn a=Z7)(s:Xn b=Z7)
  (l:([a,b].all (foldedForSure 8))=Z5) (o:([a,b].all (constantsAlone 8))=Z5):j8 [.Tuple [.Name x px,.Name y d] h pt] (.Tuple [a,b] f e) env=pure (Z9 [x,y]):=by
 have u:env.blockKind=.function:=by unfold Env.blockKind;rw[hk];rfl
 have t:env.kindOf x=Z9 .local:=m;have f:env.kindOf y=Z9 .local:=r;have k:(Expr.Name x px).pos=px:=rfl;have b1:(Z9 NameKind.local == Z9 NameKind.local)=Z7:=by decide
 have v:(d.line == px.line)=Z7:=by rw[p];exact beq_self_eq_true _
 have i:(px.line == px.line)=Z7:=beq_self_eq_true _;have q:[x,y].eraseDups.length=2:=by simp[List.eraseDups_cons,c,Ne.symm c]
 unfold j8;simp only[qC7,qG4,u];rw[show(!((0+1+1 == 2:Bool)||(0+1+1 == 3:Bool))||(0+1+1 != 0+1+1:Bool)||(ScopeKind.function != ScopeKind.function))=Z5 from rfl];simp only[qF8,if_false,pure_bind];rw[if_neg (λz=>by
  obtain⟨w,g,j⟩:=qS5.mp z;have A:Xn w=Z7:=by
   simp only[qA8,qD3,or_false]at g;rcases g with rfl|rfl
   ·exact n
   ·exact s
  cases w<;>first|exact absurd j qB1|exact absurd A qB1)]
 simp only[qI0,qN0,List.head?_cons,qM2,Option.getD_some,t,f,k,b1,v,i,Bool.and_self,if_true,q,l,o,qC7,qG4];rfl
noncomputable def VX:Nat:=100000
section
variable (ar:Str->yK) (cl:Str->yM->M D)
mutual
noncomputable def HG:Nat->Sc->vW->Option CS
 |0,_,_=>Z8
 |n+1,sc,s=>match s with
  |.Return v _=>match v with
   |none=>Z9 MS
   |some e=>(cE ar cl n sc e).map λc=>ZF c
  |.Expr e _=>if Q0 e then Z8 else(cE ar cl n sc e).map λc=>Xd c
  |.Assign o e _=>match o with
   |[f] =>
    match QY sc f e with
    |some (i,j,a,b)=>(cE ar cl n sc a).bind λm=>(cE ar cl n sc b).map λk=>Xo i j m k
    |none =>
    if Mz f e||(Xz f&&Xz e&&!Sh sc f)||Pz f||!Xn f then Z8 else(cE ar cl n sc e).bind λc=>(cG ar cl n sc f).map λg=>ZP c g
   |_=>Z8
  |.If t a b _=>(cT ar cl n sc t).bind λl=>(cSts n sc a).bind λm=>(cSts n sc b).map λk=>YR l m k
  |.For f p d h _=>match h with
   |[]=>(Sk sc ar (cE ar cl n sc) f p).bind λq=>(cG ar cl n sc f).bind λg=>(cSts n sc d).map λk=>Ze q g k
   |_::_=>Z8
  |.While t d h _=>match h with
   |[]=>(cT ar cl n sc t).bind λl=>(cSts n sc d).map λk=>WS VX l k
   |_::_=>Z8
  |.Pass _=>Z9 ZG
  |.Break _=>Z9 TJ
  |.Continue _=>Z9 TH
  |.Raise _ _ _=>Z9 Rc
  |_=>Z8
noncomputable def cSts:Nat->Sc->List vW->Option CS
 |0,_,_=>Z8
 |n+1,sc,ss=>match ss with
  |[]=>Z9 ZG
  |s::r=>(HG n sc s).bind λc=>(cSts n sc r).map λd=>ZV c d
end
end
theorem vu(h:YO X sc ar cl k)(c:Py sc (.Name x v,.Name y m) (p,v2) (x,y)=Z9 (i,j,a,b))(E:PE X a (ZA X.K t))(K:PE X b (ZA X.K r)):
  PS X (.Assign [.Tuple [.Name x v,.Name y m] w pt] (.Tuple [p,v2] L e) pos) (Zb X (Xo i j t r)):=by
 unfold Py at c;dsimp only at c;split at c
 ·rename_i J;obtain⟨s,F,A,H,u,q,B,G⟩:=J;obtain⟨M,I,g⟩:=qA2.mp c;obtain⟨N,D,l⟩:=qA5.mp g;cases l;have f:=(Sm I).2;have d:=(Sm D).2;rw[qR6]at f d;have n:=h.loc x F;have o:=h.loc y A;refine xK h.calm h.nd' (by rw[h.N];exact f) (by rw[h.N];exact d) (λz=>?_) n o E K (Xm u) (Xm q) λhk=>vv hk s n o H u q B G;subst z;rw[f]at d;exact s (Option.some.inj d)
 ·cases c
inductive Mw(sc:Sc)(tg e:y4)(r:Nat×Nat×y4×y4):Prop
 |mk (x y:Str) (px py pt pt2:Pos) (kt k2:Nat) (v1 v2:y4) (h1:tg=.Tuple [.Name x px,.Name y py] kt pt) (h2:e=.Tuple [v1,v2] k2 pt2) (hp:Py sc (.Name x px,.Name y py) (v1,v2) (x,y)=Z9 r)
theorem vt(b:QY sc h e=Z9 r):Mw sc h e r:=by
 unfold QY at b;by_cases ht:Xz h=Z7/\Xz e=Z7
 ·rw[if_pos ht]at b;obtain⟨D,o,pt,rfl⟩:=Q2 ht.1;obtain⟨s,B,f,rfl⟩:=Q2 ht.2;clear ht;obtain⟨⟨k,m⟩,q,c⟩:=qA2.mp b;obtain⟨⟨i,j⟩,g2,a⟩:=qA2.mp c;unfold QZ at a;obtain⟨v,l,d⟩:=qA2.mp a;obtain⟨⟨x,y⟩,C,g⟩:=qA2.mp d;clear b c a d;have w:D=[k,m]:=Mx q;have t:s=[i,j]:=Mx g2;have z:v=[x,y]:=Mx C;subst w t z;obtain⟨F,A,rfl,p⟩:=(PB l).2 0 k rfl;obtain⟨E,n,rfl,u⟩:=(PB l).2 1 m rfl;cases p;cases u;exact⟨x,y,A,n,pt,f,o,B,i,j,rfl,rfl,g⟩
 ·rw[if_neg ht]at b;cases b
theorem vr(h:YO X sc ar cl k)(c:QY sc g e=Z9 (i,j,a,b))(m:PE X a (ZA X.K f))(n:PE X b (ZA X.K d)):PS X (.Assign [g] e pos) (Zb X (Xo i j f d)):=by obtain⟨x,y,s,o,pt,l,p,t,q,r,rfl,rfl,c⟩:=vt c;exact vu h c m n
theorem HF(h:YO X sc ar cl k):lX (yX X.prog X.w) X.A X.env X.xe:=by rw[h.xe];exact PassesOwn.never
theorem QX:∀n:Nat,(∀X d,YO X d ar cl k->∀s c,HG ar cl n d s=Z9 c->PS X s (Zb X c))/\(∀X d,YO X d ar cl k->∀s c,cSts ar cl n d s=Z9 c->XW X s (Zb X c))
 |0=>⟨λX d h e c q=>(by cases q),λX d h e c q=>(by cases q)⟩
 |n+1=>by
  obtain⟨Q,o⟩:=QX n;refine⟨λX d h s c q=>?_,λX d h Y c q=>?_⟩
  ·have w:=(Si (ar:=ar) (cl:=cl) (k:=k) n).1 X d h;have ht:=(Si (ar:=ar) (cl:=cl) (k:=k) n).2 X d h;have G:=(HL (ar:=ar) (cl:=cl) (k:=k) n).1 X d h;cases s with
   |Return v pos =>
    cases v with
    |none=>cases q;exact xY
    |some e =>
     obtain⟨M,l,f⟩:=qA5.mp q;subst f;exact xX (w _ _ l)
   |Expr e pos =>
    change (if Q0 e=Z7 then Z8 else(cE ar cl n d e).map λc=>Xd c)=Z9 c at q;split at q
    ·cases q
    ·rename_i E;obtain⟨M,l,f⟩:=qA5.mp q;subst f;exact xW (w _ _ l) (HK (by simpa using E))
   |Assign H e pos =>
    cases H with
    |nil=>cases q
    |cons u r =>
     cases r with
     |cons _ _=>cases q
     |nil =>
      change (match QY d u e with|some (i,j,a,b)=>(cE ar cl n d a).bind λI=>(cE ar cl n d b).map λA=>Xo i j I A|none=>if Mz u e||(Xz u&&Xz e&&!Sh d u)||Pz u||!Xn u then Z8 else(cE ar cl n d e).bind λc=>(cG ar cl n d u).map λg=>ZP c g)=Z9 c at q;split at q
      ·rename_i i j a b W;obtain⟨I,l,f⟩:=qA2.mp q;obtain⟨A,m,p⟩:=qA5.mp f;subst p;exact vr h W (w _ _ l) (w _ _ m)
      split at q
      ·cases q
      ·rename_i E;simp only[qE8,not_or,Bool.not_eq_true,qM0,Bool.not_eq_false]at E;obtain⟨⟨⟨D,F⟩,J⟩,K⟩:=E;obtain⟨M,l,f⟩:=qA2.mp q;obtain⟨g,m,p⟩:=qA5.mp f;subst p;rcases vz D with D|⟨x,V,elt,gens,scope,S,rfl,rfl⟩
       ·refine Iq (w _ _ l) (G _ _ m) (D _ _) (HH h F J) ?_;rw[MA (by simpa using K)];rfl
       ·obtain⟨b,L⟩:=wa (elt:=elt) (gens:=gens) (scope:=scope) (pos:=S) (pos':=V) (x:=x) (line:=pos.line) (env:=X.env);cases b with
        |false=>exact Iq (w _ _ l) (G _ _ m) L (HH h F J) (by rw[MA (by simpa using K)];rfl)
        |true =>
         cases n with
         |zero=>cases m
         |succ n =>
          obtain⟨i,rfl,P,R,U⟩:=Q1 h m;exact xM (wb h l (Qq h.nd' P R U) L)
   |If t a b pos =>
    obtain⟨T,C,f⟩:=qA2.mp q;obtain⟨I,l,p⟩:=qA2.mp f;obtain⟨A,m,z⟩:=qA5.mp p;subst z;exact xT (ht _ _ C) (o X d h _ _ l) (o X d h _ _ m)
   |For u Z B y pos =>
    cases y with
    |cons _ _=>cases q
    |nil =>
     obtain⟨ci,C,f⟩:=qA2.mp q;obtain⟨g,l,p⟩:=qA2.mp f;obtain⟨A,m,z⟩:=qA5.mp p;subst z;obtain⟨N,O⟩:=MD h w C;exact xH (HF h) h.calm N (G _ _ l) (o X d h _ _ m) (MG O)
   |While t B y pos =>
    cases y with
    |cons _ _=>cases q
    |nil =>
     obtain⟨T,C,f⟩:=qA2.mp q;obtain⟨A,m,z⟩:=qA5.mp f;subst z;exact xJ VX (HF h) (ht _ _ C) (o X d h _ _ m)
   |Pass pos=>cases q;exact yb
   |Break pos=>cases q;exact ya
   |Continue pos=>cases q;exact x9
   |Raise a b pos=>cases q;exact xZ
   |_=>cases q
  ·cases Y with
   |nil=>cases q;exact xV
   |cons s r =>
    obtain⟨D,l,f⟩:=qA2.mp q;obtain⟨F,m,p⟩:=qA5.mp f;subst p;exact xU (Q X d h _ _ l) (o X d h _ _ m)
noncomputable def Y1(n:Nat)(ds:yM):ZR:=ds.map Z9++qK0 (n - ds.length) Z8
noncomputable def Zy(e f:Nat)(b:CS):yM->M D:=λds S=>if ds.length=e then(match b (Y1 f ds) S with
 |.nx _ a=>.ok .non a
 |.rt d a=>.ok d a
 |.er c a=>.er c a
 | _=>.bad)else .bad
theorem RVs.begins{K:yS}{ds:yM}(r:RVs K H J ds b):RE K H J (Y1 N.length ds) (start N b):=by
 unfold Y1 start;refine⟨by simp[r.len],λi d e=>?_⟩;by_cases a:i<ds.length
 ·rw[qB0 (by simpa using a),qB3]at e;rw[qB0 (by rw[qA0,<- r.len];exact a),qB3];cases q:ds[i]? with
  |none=>rw[q]at e;cases e
  |some g =>
   rw[q]at e;cases e;obtain⟨v,c,f⟩:=r.get q;exact⟨v,by rw[c];rfl,f⟩
 ·rw[qA3 (by simpa using a),qJ0]at e;split at e<;>cases e
noncomputable def Xl(N ps:yH)(scope:vG):Bool :=
 decide (scope.kind=.function)&&!scope.isCoroutine&&!scope.isGenerator&&decide N.Nodup&&decide (N.take ps.length=ps)&&ps.all (λx=>scope.names.lookup x == Z9 .local||scope.names.lookup x == Z9 .cell)&&scope.names.all (λy=>y.2 != .free)
theorem vq(h:Xl N ps scope=Z7):Qo N ps scope:=by
 unfold Xl at h;simp only[qC4,decide_eq_true_eq,qM0]at h;obtain⟨⟨⟨⟨⟨⟨j,b⟩,d⟩,f⟩,c⟩,e⟩,g⟩:=h;refine⟨j,b,d,f,c,λx a=>?_,λy i=>?_⟩
 ·have:=qD9.mp e x a;simpa using this
 ·have:=qD9.mp g y i;simpa using this
theorem QW{K:yS}{st:vW}(F:VL K x x st j p)
  (hs:Xl N ps (Yk st)=Z7) (D:cSts ar cl a ⟨N,(Yk st).names,Z9 x⟩ (W5 st)=Z9 b)
  (M:Vz ar g)
  (u:∀y n,ar y=Z9 n->(∃ps,SC P w K g base y ps k (WI K (cl y) n))/\∀ds S d q,cl y ds S=.ok d q->ds.length=n):Yp P w K g base Vn (k+1) j p ps (WI K (Zy ps.length N.length b) ps.length):=by
 have S:=vq hs;refine F.ok (k:=k) S (λr H Q E h=>h.1) (λm A f s H r Q E G h=>?_);obtain⟨U,J,ds,R,d,q,C,t,e,y⟩:=h;have I:YO (WO Vn P w K g base N x (Yk st) j m A f s H E).nox ⟨N,(Yk st).names,Z9 x⟩ ar cl k:={
  calm:=rfl
  N:=rfl
  nd:=S.nd
  gl:=λx c=>c
  loc:=λx c=>c
  cel:=λx c=>c
  fre:=λx c=>.inr c
  fnn:=λ_ x=>rfl
  room:=G
  xe:=rfl
  blt:=M
  fns:=u }
 refine⟨_,(QX a).2 _ _ I _ _ D,J,Y1 N.length ds,R,C,t.begins,?_⟩;unfold Zy at e;split at e
 ·split at e
  ·rename_i B v i;cases e;rw[i];exact fun T O z o l L=>y _ O z o l TN
  ·rename_i V v i;cases e;rw[i];exact y
  ·cases e
  ·cases e
 ·cases e
theorem vp{K:yS}{c:Str->yF}{st:vW}(F:VL K x x st f e)(m:c x=Z9 (.ref f))(i:U4 K e ps [])
  (hs:Xl N ps (Yk st)=Z7) (h:cSts ar cl a ⟨N,(Yk st).names,Z9 x⟩ (W5 st)=Z9 b)
  (j:Vz ar c)
  (g:∀y n,ar y=Z9 n->(∃ps,SC P w K c base y ps k (WI K (cl y) n))/\∀ds S d l,cl y ds S=.ok d l->ds.length=n):SC P w K c base x ps (k+1) (WI K (Zy ps.length N.length b) ps.length) :=
 ⟨f,e,QW F hs h j g,i,F.kp,m⟩
end
abbrev ZO:=Str->yM->M D
abbrev Us:=List (Str×(Nat×Nat×(ZO->CS)))
noncomputable def Ur(tbl:Us)(x:Str):yK:=(tbl.lookup x).map (·.1)
noncomputable def WB(tbl:Us):Nat->ZO
 |0,_=>λ_ _=>.bad
 |n+1,x=>match tbl.lookup x with
  |some p=>Zy p.1 p.2.1 (p.2.2 (WB tbl n))
  |none=>λ_ _=>.bad
structure Tv(K:yS)(mg:Str->yF)(ar:Str->yK)(x:Str)(p:Nat×Nat×(ZO->CS)):Prop where
 ex:∃(st:vW) (fa:yR) (fd:vC) (N ps:yH) (fuel:Nat),VL K x x st fa fd/\mg x=Z9 (.ref fa)/\U4 K fd ps []/\Xl N ps (Yk st)=Z7/\ps.length=p.1/\N.length=p.2.1 /\
  ∀cl:ZO,cSts ar cl fuel ⟨N,(Yk st).names,Z9 x⟩ (W5 st)=Z9 (p.2.2 cl)
theorem vo(h:Zy np c b ds S=.ok d a):ds.length=np:=by
 unfold Zy at h;split at h
 ·assumption
 ·cases h
theorem vn{a:Type}{tbl:List (Str×a)}{p:a}(h:tbl.lookup x=Z9 p):(x,p)∈tbl:=by
 induction tbl with
 |nil=>cases h
 |cons y r b =>
  obtain⟨y1,c⟩:=y;rw[qD1]at h;split at h
  ·rename_i e;cases h;have:x=y1:=by simpa using e
   subst this;simp
  ·exact qC2 _ (b h)
theorem HE{K:yS}(g:∀x p,tbl.lookup x=Z9 p->Tv K l (Ur tbl) x p)(u:Vz (Ur tbl) l):
  ∀(k:Nat) (x:Str) (n:Nat),Ur tbl x=Z9 n->(∃ps,SC P w K l base x ps k (WI K (WB tbl k x) n))/\∀ds S d a,WB tbl k x ds S=.ok d a->ds.length=n
 |0,x,n,h=>by
  obtain⟨p,c,rfl⟩:=qA5.mp h;obtain⟨v,r,o,N,ps,b,F,m,j,_⟩:=(g x p c).ex;have f:∀ds S d a,WB tbl 0 x ds S=.ok d a->False:=λds S d a e=>by unfold WB at e;cases e
  refine⟨⟨ps,r,o,⟨λy H Q E h=>?_,λA i s H t L y Q E _ _ _ _ h=>?_⟩,j,F.kp,m⟩,λds S d a e=>(f _ _ _ _ e).elim⟩
  ·obtain⟨_,J,ds,S,d,a,_,_,e,_⟩:=h;exact(f _ _ _ _ e).elim
  ·obtain⟨_,J,ds,S,d,a,_,_,e,_⟩:=h;exact(f _ _ _ _ e).elim
 |k+1,x,n,h=>by
  obtain⟨p,c,rfl⟩:=qA5.mp h;obtain⟨v,r,o,N,ps,b,F,m,j,C,I,G,D⟩:=(g x p c).ex;have B:=HE (P:=P) (w:=w) (base:=base) g u k;have q:=vp (P:=P) (w:=w) (base:=base) (k:=k) F m j C (D (WB tbl k)) u B;have z:WB tbl (k+1) x=Zy p.1 p.2.1 (p.2.2 (WB tbl k)):=by show(match tbl.lookup x with|some p=>Zy p.1 p.2.1 (p.2.2 (WB tbl k))| none=>λ_ _=>.bad)=_;rw[c]
  rw[I,G]at q;rw[z];exact⟨⟨ps,q⟩,λds S d a e=>vo e⟩
noncomputable def Px(K:yS):Sp:=λd H Q _=>∃(a:yR) (b:yA),d=[.ref a]/\TX K H a (b.map V.int)/\b.length<=63/\∀c,Q (.bl Z7) c
theorem vm{K:yS}(o:U3 H)(h:YT K H a xs):TX K H a xs:=by
 rcases h with(h|⟨w,h⟩)| h
 ·rcases o a with q|⟨w,b,q⟩
  ·rw[h]at q;cases q
  ·rw[h]at q;cases q
 ·exact .inl ⟨w,h⟩
 ·exact .inr h
theorem vl{K:yS}{st:vW}(z:∀x p,tbl.lookup x=Z9 p->Tv K g (Ur tbl) x p)(m:Vz (Ur tbl) g)
  (y:tbl.lookup ("law":Str)=Z9 (1,f,b)) (F:VL K "law" "law" st l j) (hs:Xl N ["_law_script"] (Yk st)=Z7) (u:N.length=f) (A:∀cl:ZO,cSts (Ur tbl) cl d ⟨N,(Yk st).names,Z9 "law"⟩ (W5 st)=Z9 (b cl))
  (c:∀ns:yA,ns.length<=63->∃i,WB tbl (L+1) "law" [.rol (ns.map D.int)] []=.ok (.bl Z7) i) :
  Yp P w K g base Vn (L+1) l j ["_law_script"] (Px K):=by
 have q:=QW (P:=P) (w:=w) (base:=base) (k:=L) F hs (A (WB tbl L)) m (HE (P:=P) (w:=w) (base:=base) z m L);refine q.imp λI H Q E h=>?_;obtain⟨a,ns,rfl,B,G,t⟩:=h;obtain⟨i,e⟩:=c ns G;have s:WB tbl (L+1) "law"=Zy 1 f (b (WB tbl L)):=by show(match tbl.lookup ("law":Str)with|some p=>Zy p.1 p.2.1 (p.2.2 (WB tbl L))| none=>λ_ _=>.bad)=_;rw[y]
 rw[s]at e;refine⟨rfl,[],[.rol (ns.map D.int)],[],.bl Z7,i,⟨rfl,qP9,λn a o h=>by simp at h⟩,.cons (by unfold RV;exact⟨a,_,rfl,B,RVs.ints⟩) .nil,by rw[u];exact e,λv C J _ _ r=>?_⟩;unfold RV at r;subst r;exact t C
theorem walk_ev{l:W.OpenLaw}{b:yH}{A:(Str->yF)->jA->Prop}{K:Params->yS}(B:l.most=Z9 63)(e:d.params.defaults=[])(v:Zg L gU)
  (p:∀(w:jD) (h:jA),j w h->(K w.params).In h)
  (F:∀(w:jD) (c:Str->yF) (i:yR) (h:jA),(K w.params).In h->h.Ns jQ c->c d.name=Z9 (.ref i) ->
   ∃g:vC,(∀(s:yQ) (u:yT),mV s g ⟨[u],[]⟩ [("_law_script",u)])/\∀base:jA,(K w.params).In base->base.Ns jQ c->Yp l.prog w (K w.params) c base Vn L i g ["_law_script"] (Px (K w.params))) :
  W.WalkO q b A j l.row.toRowW d [] (λf m=>PySem.call f m) :=
 L2.walk_of (n:=63) (k:=L) (x := "_law_script") (CX:=λ_=>Vn) (sp:=λw=>Px (K w.params)) B (by decide) e v p F (λ_ _ a r t o y=>⟨a,r,rfl,vm o y,t,λ_=>rfl⟩) λ_ _ _ _ _ z=>z
open PySem
def Sg(K:yS)(a:Str->yF)(ar:Str->yK):Us->Prop
 |[]=>True
 |e::r=>Tv K a ar e.1 e.2/\Sg K a ar r
theorem Sg.mem{K:yS}{c:Str->yF}{ar:Str->yK}:∀{t:Us},Sg K c ar t->∀x p,(x,p)∈t->Tv K c ar x p
 |[],_,x,p,h=>by cases h
 |e::r,⟨a,b⟩,x,p,h=>by
  rcases qA8.mp h with q|q
  ·subst q;exact a
  ·exact b.mem x p q
theorem Sg.look{K:yS}(h:Sg K a ar t)(x:Str)(p:Nat×Nat×(ZO->CS))(e:t.lookup x=Z9 p):Tv K a ar x p:=h.mem x p (vn e)
theorem vk{K:yS}{e:Str->yF}{st:vW}{a np nN:Nat}(F:VL K x x st d c)(m:e x=Z9 (.ref d))(i:U4 K c ps [])(hs:Xl N ps (Yk st)=Z7)
  (h:(λcl:ZO=>cSts ar cl a ⟨N,(Yk st).names,Z9 x⟩ (W5 st))=λcl=>Z9 (b cl)) (f:ps.length=np:=by rfl) (g:N.length=nN:=by rfl):Tv K e ar x (np,nN,b) :=
 ⟨st,d,c,N,ps,a,F,m,i,hs,f,g,λcl=>congrFun h cl⟩
def Pw(a:Str->yF):yH->Prop
 |[]=>True
 |x::r=>a x=Z8/\Pw a r
theorem Pw.mem{c:Str->yF}:∀{l:yH},Pw c l->∀x∈l,c x=Z8
 |[],_,x,h=>by cases h
 |e::r,⟨a,b⟩,x,h=>by
  rcases qA8.mp h with q|q
  ·subst q;exact a
  ·exact b.mem x q
inductive Tg{γ:Type}(f:γ):Type where
 |mk
noncomputable def Zz{b β:Type}(r:R b)(f:b->ZU->R β)(_:Tg f):R β:=match r with
 |.bad=>.bad
 |.er c S=>.er c S
 |.ok a S=>f a S
@[simp]theorem Xy(a:b)(S:ZU)(f:b->ZU->R c):Zz (.ok a S) f .mk=f a S:=rfl
@[simp]theorem pG(f:a->ZU->R b):Zz .bad f .mk=.bad:=rfl
@[simp]theorem Wq(m:M a)(f:a->M b)(S:ZU):Za m f S=Zz (m S) f .mk:=rfl
@[simp]theorem pF(a:b)(S:ZU):ret a S=.ok a S:=rfl
@[simp]theorem pE(S:ZU):(bad:M a) S=.bad:=rfl
noncomputable def rs{b:Type}(r:R b)(f:b->ZU->RS)(_:Tg f):RS:=match r with
 |.bad=>.bad
 |.er _ _=>.bad
 |.ok a S=>f a S
@[simp]theorem HC(a:b)(S:ZU)(f:b->ZU->RS):rs (.ok a S) f .mk=f a S:=rfl
@[simp]theorem pD(f:a->ZU->RS):rs .bad f .mk=.bad:=rfl
noncomputable def sb(r:RS)(f:CS)(_:Tg f):RS:=match r with
 |.nx B S=>f B S
 |r=>r
@[simp]theorem HB(B:ZR)(S:ZU)(f:CS):sb (.nx B S) f .mk=f B S:=rfl
@[simp]theorem pC(d:D)(S:ZU)(f:CS):sb (.rt d S) f .mk=.rt d S:=rfl
@[simp]theorem pB(B:ZR)(S:ZU)(f:CS):sb (.bk B S) f .mk=.bk B S:=rfl
@[simp]theorem pA(B:ZR)(S:ZU)(f:CS):sb (.ct B S) f .mk=.ct B S:=rfl
@[simp]theorem QV(a b:CS)(B:ZR)(S:ZU):ZV a b B S=sb (a B S) b .mk:=by unfold ZV sb;cases a B S<;>rfl
@[simp]theorem pz(B:ZR)(S:ZU):ZG B S=.nx B S:=rfl
@[simp]theorem pq(B:ZR)(S:ZU):TJ B S=.bk B S:=rfl
@[simp]theorem pk(B:ZR)(S:ZU):TH B S=.ct B S:=rfl
@[simp]theorem pj(B:ZR)(S:ZU):MS B S=.rt .non S:=rfl
@[simp]theorem vj(c:C)(B:ZR)(S:ZU):ZF c B S=rs (c B S) (λd a=>.rt d a) .mk:=by unfold ZF rs;cases c B S<;>rfl
@[simp]theorem ph(c:C)(B:ZR)(S:ZU):Xd c B S=rs (c B S) (λ_ a=>.nx B a) .mk:=by unfold Xd rs;cases c B S<;>rfl
@[simp]theorem vi(c:C)(g:G)(B:ZR)(S:ZU):ZP c g B S=rs (c B S) (λd a=>rs (g d B a) (fun e b=>.nx e b) .mk) .mk:=by
 unfold ZP rs;cases c B S with
 |ok d a=>dsimp only;cases g d B a<;>rfl
 |_=>rfl
@[simp]theorem pg(t:CT)(a b:CS)(B:ZR)(S:ZU):YR t a b B S=rs (t B S) (λk c=>if k then a B c else b B c) .mk:=by unfold YR rs;cases t B S<;>rfl
@[simp]theorem Mv(c:CI)(g:G)(b:CS)(B:ZR)(S:ZU):Ze c g b B S=rs (c B S) (λp d=>YV p.2 g b p.1 B d) .mk:=by
 unfold Ze rs;cases c B S with
 |ok p d=>obtain⟨a,b⟩:=p;rfl
 |_=>rfl
@[simp]theorem Pv(i:Nat)(d:D)(B:ZR)(S:ZU):gN i d B S=.ok (B.set i (Z9 d)) S:=rfl
noncomputable def mo{a:Type}(o:Option a)(b:a->ZU)(B:ZR):R ZR:=match o with
 |some x=>.ok B (b x)
 |none=>.bad
@[simp]theorem pf(a b:C)(d:D)(B:ZR)(S:ZU):gS a b d B S=Zz (a B S) (λo e=>Zz (b B e) (λi c=>mo (XE o i d c) (λx=>x) B) .mk) .mk:=by
 unfold gS;rw[Wq];cases a B S with
 |bad=>rfl
 |er _ _=>rfl
 |ok o e =>
  rw[Xy,Xy,Wq];cases b B e with
  |bad=>rfl
  |er _ _=>rfl
  |ok i c =>
   rw[Xy,Xy];cases h:XE o i d c<;>rfl
@[simp]theorem pe(x:a)(f:a->ZU)(B:ZR):mo (Z9 x) f B=.ok B (f x):=rfl
@[simp]theorem pb(a:List G)(xs:yM)(B:ZR)(S:ZU):gT a (.tup xs) B S=Uv a xs B S:=rfl
@[simp]theorem pa(B:ZR)(S:ZU):Uv [] [] B S=.ok B S:=rfl
@[simp]theorem o9(g:G)(a:List G)(x:D)(xs:yM)(B:ZR)(S:ZU):Uv (g::a) (x::xs) B S=Zz (g x B S) (fun c b=>Uv a xs c b) .mk:=rfl
@[simp]theorem Mu(i:Nat)(B:ZR)(S:ZU):ZY i B S=match B[i]? with|some (Z9 d)=>.ok d S|_=>.bad:=rfl
@[simp]theorem HA(d:D)(B:ZR)(S:ZU):ZX d B S=.ok d S:=rfl
@[simp]theorem Hz(o:D->D->M D)(a b:C)(B:ZR)(S:ZU):ZW o a b B S=Zz (a B S) (λx d=>Zz (b B d) (λy c=>o x y c) .mk) .mk:=rfl
@[simp]theorem o8(o:D->M D)(a:C)(B:ZR)(S:ZU):M4 o a B S=Zz (a B S) o .mk:=rfl
@[simp]theorem Ms(B:ZR)(S:ZU):ZS [] B S=.ok [] S:=rfl
@[simp]theorem Hy(c:C)(cs:List C)(B:ZR)(S:ZU):ZS (c::cs) B S=Zz (c B S) (λx b=>Zz (ZS cs B b) (λxs a=>.ok (x::xs) a) .mk) .mk:=rfl
@[simp]theorem vh(o:yM->M D)(a:CA)(B:ZR)(S:ZU):ZT o a B S=Zz (a B S) o .mk:=rfl
@[simp]theorem o7(a:CA)(B:ZR)(S:ZU):ZC a B S=Zz (a B S) (λxs b=>.ok (.tup xs) b) .mk:=rfl
@[simp]theorem Hx(a:CA)(B:ZR)(S:ZU):Zr a B S=Zz (a B S) (λxs b=>.ok (.lst b.length) (b++[.lst xs])) .mk:=rfl
@[simp]theorem o6(t:CT)(a b:C)(B:ZR)(S:ZU):Rg t a b B S=Zz (t B S) (λk c=>if k then a B c else b B c) .mk:=by
 unfold Rg;rw[Wq];cases t B S with
 |ok k c=>cases k<;>rfl
 |bad=>rfl
 |er _ _=>rfl
@[simp]theorem o5(a:C)(B:ZR)(S:ZU):Zt a B S=Zz (a B S) (λx b=>dB x b) .mk:=rfl
@[simp]theorem o4(b:Bool)(S:ZU):dB (.bl b) S=.ok b S:=rfl
@[simp]theorem o3(a b:C)(B:ZR)(S:ZU):UW a b B S=Zz (Zt a B S) (λk c=>if k then b B c else .ok (.bl Z5) c) .mk:=by
 unfold UW;rw[Wq];cases Zt a B S with
 |ok k c=>cases k<;>rfl
 |bad=>rfl
 |er _ _=>rfl
@[simp]theorem o2(a b:C)(B:ZR)(S:ZU):UV a b B S=Zz (Zt a B S) (λk c=>if k then .ok (.bl Z7) c else b B c) .mk:=by
 unfold UV;rw[Wq];cases Zt a B S with
 |ok k c=>cases k<;>rfl
 |bad=>rfl
 |er _ _=>rfl
@[simp]theorem oZ(a:C)(B:ZR)(S:ZU):P3 a B S=Zz (Zt a B S) (λk b=>.ok (.bl (!k)) b) .mk:=rfl
@[simp]theorem oY(a b:CT)(B:ZR)(S:ZU):VE a b B S=Zz (a B S) (λk c=>if k then b B c else .ok Z5 c) .mk:=by
 unfold VE;rw[Wq];cases a B S with
 |ok k c=>cases k<;>rfl
 |bad=>rfl
 |er _ _=>rfl
@[simp]theorem oX(a b:CT)(B:ZR)(S:ZU):Yu a b B S=Zz (a B S) (λk c=>if k then .ok Z7 c else b B c) .mk:=by
 unfold Yu;rw[Wq];cases a B S with
 |ok k c=>cases k<;>rfl
 |bad=>rfl
 |er _ _=>rfl
@[simp]theorem oW(a:CT)(B:ZR)(S:ZU):Wt a B S=Zz (a B S) (λk b=>.ok (!k) b) .mk:=rfl
@[simp]theorem oV(o o':D->D->M D)(a b c:C)(B:ZR)(S:ZU):Ux o o' a b c B S=Zz (a B S) (λx e=>Zz (b B e) (λy d=>Zz (o x y d) (λz f=>Zz (dB z f) (λk g=>if k then Zz (c B g) (λw h=>o' y w h) .mk else .ok (.bl Z5) g) .mk) .mk) .mk) .mk:=by
 unfold Ux;rw[Wq];cases a B S with
 |bad=>rfl
 |er _ _=>rfl
 |ok x e =>
  rw[Xy,Xy,Wq];cases b B e with
  |bad=>rfl
  |er _ _=>rfl
  |ok y d =>
   rw[Xy,Xy,Wq];cases o x y d with
   |bad=>rfl
   |er _ _=>rfl
   |ok z f =>
    rw[Xy,Xy,Wq];cases dB z f with
    |bad=>rfl
    |er _ _=>rfl
    |ok k g=>cases k<;>rfl
@[simp]theorem oU(a:C)(B:ZR)(S:ZU):YN a B S=Zz (a B S) (λx b=>WJ x b) .mk:=rfl
@[simp]theorem oT(b:Bool)(S:ZU):WJ (.bl b) S=.ok b S:=rfl
@[simp]theorem oS(i:Int)(S:ZU):WJ (.int i) S=.ok (i != 0) S:=rfl
@[simp]theorem oR(xs:yM)(S:ZU):WJ (.tup xs) S=.ok (!xs.isEmpty) S:=rfl
@[simp]theorem oQ(B:ZR)(S:ZU):Yc B S=.ok Z8 S:=rfl
@[simp]theorem oP(a:C)(B:ZR)(S:ZU):Yn a B S=Zz (a B S) (λx c=>Zz (TQ x c) (λi b=>.ok (Z9 i) b) .mk) .mk:=rfl
@[simp]theorem oO(i:Int)(S:ZU):TQ (.int i) S=.ok i S:=rfl
@[simp]theorem oN(o:D->yG->yG->M D)(a:C)(c b:CO)(B:ZR)(S:ZU):Yi o a c b B S=Zz (a B S) (λx e=>Zz (c B e) (λl d=>Zz (b B d) (λh f=>o x l h f) .mk) .mk) .mk:=rfl
@[simp]theorem oM(T:String)(o:D->yM->M D)(a:C)(b:CA)(B:ZR)(S:ZU):W2 T o a b B S=Zz (a B S) (λx c=>if WC T x c then Zz (b B c) (λxs d=>o x xs d) .mk else .bad) .mk:=rfl
@[simp]theorem oK(c:C)(B:ZR)(S:ZU):Zq c B S=Zz (c B S) (λx a=>match x with
 |.tup xs=>.ok (xs,[]) a
 |.lst n=>match ZH a n with
  |some xs=>.ok (xs,[(n,xs)]) a
  |none=>.bad
 | _=>.bad) .mk:=rfl
@[simp]theorem vg(a:CA)(B:ZR)(S:ZU):VY a B S=Zz (a B S) (λxs b=>match xs with
 |[.int j]=>if -4611686018427387904<=j/\j<4611686018427387904 then .ok (Zd 0 j.toNat,[]) b else .bad
 | _=>.bad) .mk:=rfl
@[simp]theorem oJ(a:CA)(B:ZR)(S:ZU):TC a B S=Zz (a B S) (λxs b=>match xs with
 |[.int i,.int j]=>if -4611686018427387904<=i/\i<4611686018427387904/\-4611686018427387904<=j/\j<4611686018427387904 then .ok (Zd i (j - i).toNat,[]) b else .bad
 | _=>.bad) .mk:=rfl
@[simp]theorem oI(a:CA)(B:ZR)(S:ZU):Ra a B S=Zz (a B S) (λxs b=>match xs with
 |[x,y]=>match WY b x,WY b y with
  |some ys,Z9 c=>.ok (zipD ys c,Uu x ys++Uu y c) b
  |_,_=>.bad
 | _=>.bad) .mk:=rfl
@[simp]theorem oH(n:Nat)(xs:yM):Uu (.lst n) xs=[(n,xs)]:=rfl
@[simp]theorem oG(ys:yM)(xs:yM):Uu (.tup ys) xs=[]:=rfl
@[simp]theorem oF(S:ZU)(n:Nat):WY S (.lst n)=ZH S n:=rfl
@[simp]theorem oE(S:ZU)(xs:yM):WY S (.tup xs)=Z9 xs:=rfl
@[simp]theorem oD(a:CA)(B:ZR)(S:ZU):Q9 a B S=Zz (a B S) (λxs b=>match xs with
 |[.tup ys]=>.ok (Wr ys,[]) b
 |[.lst n]=>match ZH b n with
  |some ys=>.ok (Wr ys,[(n,ys)]) b
  |none=>.bad
 | _=>.bad) .mk:=rfl
@[simp]theorem oC(a:CI)(k:Nat)(b:List Nat)(t:Xb)(tc:CT)(c:C)(B:ZR)(S:ZU):X1 a k b t tc c B S=Zz (a B S) (λp e=>if p.1.length<lim then Zz (Y2 p.2 t tc c (UR k b B) p.1 e) (λys d=>.ok (.lst d.length) (d++[.lst ys])) .mk else .bad) .mk:=rfl
@[simp]theorem oB(B:ZR)(S:ZU):PH B S=.ok (.dct S.length) (S++[.dk []]):=rfl
@[simp]theorem oA(a b:C)(B:ZR)(S:ZU):MK a b B S=Zz (a B S) (λx d=>Zz (b B d) (λy c=>match Wb x with
 |some k=>.ok (.dct c.length) (c++[.dk [(k,y)]])
 | none=>.bad) .mk) .mk:=rfl
@[simp]theorem oz(i j:Int)(S:ZU):ZK (.int i) (.int j) S=.ok (.int (i+j)) S:=rfl
@[simp]theorem oy(xs ys:yM)(S:ZU):ZK (.tup xs) (.tup ys) S=if xs.length+ys.length<=lim then .ok (.tup (xs++ys)) S else .bad:=rfl
@[simp]theorem ox(g:Int->Int->Int)(i j:Int)(S:ZU):Zw g (.int i) (.int j) S=.ok (.int (g i j)) S:=rfl
@[simp]theorem ou(i j:Int)(S:ZU):Ym (.int i) (.int j) S=if VC i j then .ok (.int (i*j)) S else .bad:=rfl
@[simp]theorem ot(i j:Int)(S:ZU):Yt (.int i) (.int j) S=if 0<j then .ok (.int (i % j)) S else .bad:=rfl
@[simp]theorem oq(i j:Int)(S:ZU):W3 (.int i) (.int j) S=if 0<j/\j<1073741824 then .ok (.int (i / j)) S else .bad:=rfl
@[simp]theorem oo(i j:Int)(S:ZU):Wc (.int i) (.int j) S=if 0<=j/\j<=1000000/\i.natAbs<18446744073709551616 then .ok (.int (i ^ j.toNat)) S else .bad:=rfl
@[simp]theorem vf(i j:Int)(S:ZU):WG (.int i) (.int j) S=if 0<=j/\j<=1000000/\i.natAbs<18446744073709551616 then .ok (.int (i*2 ^ j.toNat)) S else .bad:=rfl
@[simp]theorem om(i j:Int)(S:ZU):VB (.int i) (.int j) S=if 0<=j then .ok (.int (i / 2 ^ j.toNat)) S else .bad:=rfl
@[simp]theorem oj(i:Int)(S:ZU):UU (.int i) S=.ok (.int (-i)) S:=rfl
@[simp]theorem oi(g:Int->Int->Bool)(i j:Int)(S:ZU):YM g (.int i) (.int j) S=.ok (.bl (g i j)) S:=rfl
@[simp]theorem oh(i j:Int)(S:ZU):Vj (.int i) (.int j) S=.ok (.bl (decide (i<j))) S:=rfl
theorem Hw(i j:Int):PyData.eqv (.int i) (.int j)=decide (i=j):=by show(i == j)=decide (i=j);rfl
@[simp]theorem og(i j:Int)(S:ZU):Y8 (.int i) (.int j) S=.ok (.bl (decide (i=j))) S:=by show R.ok (D.bl (PyData.eqv (.int i) (.int j))) S=_;rw[Hw]
@[simp]theorem oe(i j:Int)(S:ZU):XM (.int i) (.int j) S=.ok (.bl (!decide (i=j))) S:=by show R.ok (D.bl (!PyData.eqv (.int i) (.int j))) S=_;rw[Hw]
@[simp]theorem nZ(i j:Bool)(S:ZU):Y8 (.bl i) (.bl j) S=.ok (.bl (i == j)) S:=by show R.ok (D.bl (PyData.eqv (.bool i) (.bool j))) S=_;cases i<;>cases j<;>rfl
@[simp]theorem nY(i j:Bool)(S:ZU):XM (.bl i) (.bl j) S=.ok (.bl (i != j)) S:=by show R.ok (D.bl (!PyData.eqv (.bool i) (.bool j))) S=_;cases i<;>cases j<;>rfl
@[simp]theorem nX(x:D)(S:ZU):TM x .non S=.ok (.bl x.isNon) S:=by cases x<;>rfl
@[simp]theorem nW(x:D)(S:ZU):V0 x .non S=.ok (.bl (!x.isNon)) S:=by cases x<;>rfl
@[simp]theorem nV(a b:Bool)(S:ZU):TM (.bl a) (.bl b) S=.ok (.bl (a == b)) S:=rfl
@[simp]theorem nU(a b:Bool)(S:ZU):V0 (.bl a) (.bl b) S=.ok (.bl (a != b)) S:=rfl
@[simp]theorem nS(i j:Int)(S:ZU):XF [.int i,.int j] S=.ok (.int (if j<i then j else i)) S:=rfl
@[simp]theorem nR(i j:Int)(S:ZU):Xq [.int i,.int j] S=.ok (.int (if j>i then j else i)) S:=rfl
@[simp]theorem nQ(i:Int)(S:ZU):Xp [.int i] S=.ok (.int i) S:=rfl
@[simp]theorem nP(b:Bool)(S:ZU):Xp [.bl b] S=.ok (.int (if b then 1 else 0)) S:=rfl
@[simp]theorem nO(xs:yM)(S:ZU):XY [.tup xs] S=.ok (.tup xs) S:=rfl
theorem Uq{xs:yM}(h:ZH S n=Z9 xs):XY [.lst n] S=.ok (.tup xs) S:=by show(match ZH S n with|some a=>R.ok (D.tup a) S|none=>.bad)=_;rw[h]
@[simp]theorem nM(xs:yM)(S:ZU):Zi [.tup xs] S=.ok (.int xs.length) S:=rfl
@[simp]theorem nL(xs:yM)(S:ZU):Zi [.rol xs] S=.ok (.int xs.length) S:=rfl
theorem Sf{xs:yM}(h:ZH S n=Z9 xs):Zi [.lst n] S=.ok (.int xs.length) S:=by show(match Vk S (.lst n)with|some a=>R.ok (D.int a.length) S|none=>.bad)=_;show(match ZH S n with|some a=>R.ok (D.int a.length) S|none=>.bad)=_;rw[h]
@[simp]theorem nK(xs:yM)(S:ZU):PM [.tup xs] S=.ok (.lst S.length) (S++[.lst xs]):=rfl
@[simp]theorem ve(xs:yM)(j:Int)(S:ZU):ZL (.tup xs) (.int j) S=match XZ xs j with|some d=>.ok d S|none=>.bad:=rfl
@[simp]theorem nJ(xs:yM)(j:Int)(S:ZU):ZL (.rol xs) (.int j) S=match XZ xs j with|some d=>.ok d S|none=>.bad:=rfl
theorem W9{xs:yM}(h:ZH S n=Z9 xs)(j:Int):ZL (.lst n) (.int j) S=match XZ xs j with|some d=>.ok d S|none=>.bad:=by show(match ZH S n,D.int j with|some xs,.int j=>(match XZ xs j with|some d=>R.ok d S|none=>.bad)| _,_=>.bad)=_;rw[h]
@[simp]theorem nI(xs:yM)(a b:yG)(S:ZU):YB (.tup xs) a b S=.ok (.tup (Zf xs a b)) S:=rfl
theorem Pu{xs:yM}(h:ZH S n=Z9 xs)(b a:yG):YB (.lst n) b a S=.ok (.lst S.length) (S++[.lst (Zf xs b a)]):=by show(match ZH S n with|some xs=>R.ok (D.lst S.length) (S++[O.lst (Zf xs b a)])| none=>.bad)=_;rw[h]
@[simp]theorem vd(x:a)(xs:List a):XZ (x::xs) 0=Z9 x:=VM (j:=0) rfl
@[simp]theorem vc(x y:a)(xs:List a):XZ (x::y::xs) 1=Z9 y:=VM (j:=1) rfl
@[simp]theorem nH(x y z:a)(xs:List a):XZ (x::y::z::xs) 2=Z9 z:=VM (j:=2) rfl
@[simp]theorem nG(x y z w:a)(xs:List a):XZ (x::y::z::w::xs) 3=Z9 w:=VM (j:=3) rfl
structure Kp(P:Nat->Prop)(S S':ZU):Prop where
 le:S.length<=S'.length
 eq:∀j,j<S.length->¬P j->S'[j]?=S[j]?
noncomputable abbrev Ex:ZU->ZU->Prop:=Kp λ_=>False
inductive Wp{α:Type}(m:R α)(r:α)(S:ZU):Prop
 |mk (S1:ZU) (e:m=.ok r S1) (x:Ex S S1)
theorem Kp.refl(P:Nat->Prop)(S:ZU):Kp P S S:=⟨qA6 _,λ_ _ _=>rfl⟩
theorem Kp.trans(a:Kp P S c)(b:Kp P c S2):Kp P S S2:=⟨qD4 a.le b.le,λj h n=>(b.eq j (qC1 h a.le) n).trans (a.eq j h n)⟩
theorem Ex.kp(h:Ex S S'):Kp P S S':=⟨h.le,λj a _=>h.eq j a (λz=>z)⟩
theorem Kp.kp(h:Kp (λ_=>False) S S'):Kp P S S':=⟨h.le,λj a _=>h.eq j a (λz=>z)⟩
theorem Kp.mono(h:Kp P S S')(m:∀j,j<S.length->P j->Q j):Kp Q S S':=⟨h.le,λj a n=>h.eq j a λz=>n (m j a z)⟩
theorem Zn(S T:ZU):Ex S (S++T):=⟨by simp,λj h _=>qB0 h⟩
theorem Up(S:ZU)(o:O):Kp (·=i) S (S.set i o):=⟨by simp,λj h n=>qD7 λz=>n z.symm⟩
theorem Kp.at(h:Kp P S a)(e:S[j]?=Z9 o)(n:¬P j):a[j]?=Z9 o:=by rw[h.eq j (qA7.mp e).1 n];exact e
theorem Vi{xs:yM}(h:ZH S n=Z9 xs):S[n]?=Z9 (.lst xs):=by
 unfold ZH at h;split at h
 ·rename_i a e;cases h;exact e
 ·cases h
theorem QU{xs:yM}(h:S[n]?=Z9 (.lst xs)):ZH S n=Z9 xs:=by unfold ZH;rw[h]
theorem Kp.lst(h:Kp P S a){xs:yM}(e:ZH S j=Z9 xs)(n:¬P j):ZH a j=Z9 xs:=QU (h.at (Vi e) n)
theorem Tu{xs:yM}(h:ZH S n=Z9 xs):n<S.length:=(qA7.mp (Vi h)).1
@[simp]theorem Zh(S:ZU)(xs:yM):ZH (S++[.lst xs]) S.length=Z9 xs:=QU (by rw[qA3 (qA6 _),qI2];rfl)
theorem Mr{xs:yM}(h:ZH S n=Z9 xs):ZH (S++T) n=Z9 xs:=(Zn S T).lst h λz=>z
theorem V7{xs ys:yM}(h:ZH S n=Z9 xs):ZH (S.set n (.lst ys)) n=Z9 ys:=QU (qF0 (Tu h))
theorem Uo{xs:yM}(h:ZH S n=Z9 xs):WC "list" (.lst n) S=Z7:=by show(decide ("list" = "list")&&(ZH S n).isSome)=Z7;rw[h];rfl
theorem Tt{S:ZU}{n:Nat}{ys:yM}(h:ZH S n=Z9 ys)(g:yM->yM->Option (yM×D))(xs:yM):XJ g (.lst n) xs S=match g ys xs with|some p=>.ok p.2 (S.set n (.lst p.1))| none=>.bad:=by
 unfold XJ;dsimp only;rw[Vi h];dsimp only;cases g ys xs with
 |none=>rfl
 |some p=>rfl
@[simp]theorem vb(ys:yM)(x:D):VZ ys [x]=if ys.length<lim then Z9 (ys++[x],.non)else Z8:=rfl
@[simp]theorem Hv(ys:yM)(i:Int)(x:D):W1 ys [.int i,x]=if ys.length<1000/\0<=i/\i.toNat<=ys.length then Z9 (ys.take i.toNat++x::ys.drop i.toNat,.non)else Z8:=rfl
theorem Ts{S:ZU}{n:Nat}{ys:yM}(h:ZH S n=Z9 ys)(k:Int)(v:D):XE (.lst n) (.int k) v S=match Ww ys.length k with|some j=>Z9 (S.set n (.lst (ys.set j v)))| none=>Z8:=by
 unfold XE;dsimp only;rw[Vi h]
 all_goals (dsimp only;cases Ww ys.length k<;>rfl)
theorem X5(S:ZU):X2 [] S:=λp h=>by cases h
theorem Vh{xs:yM}(h:ZH S n=Z9 xs):X2 [(n,xs)] S:=λp a=>by simp at a;subst a;exact h
theorem va{xs ys:yM}(h:ZH S n=Z9 xs)(b:ZH S m=Z9 ys):X2 [(n,xs),(m,ys)] S:=λp a=>by
 simp at a;rcases a with rfl|rfl
 ·exact h
 ·exact b
theorem Hu{w:Xc}{g:G}{b:CS}:∀(items:yM) (P:Nat->ZR->ZU->Prop) {B:ZR}{S:ZU} (k:Nat),(∀i B S,P i B S->X2 w S)->P k B S ->
  (∀i d B S,items[i]?=Z9 d->P (k+i) B S->∃a e,g d B S=.ok a e/\∃f c,(b a e=.nx f c∨b a e=.ct f c)/\P (k+i+1) f c)->∃j l,YV w g b items B S=.nx j l/\P (k+items.length) j l
 |[],P,B,S,k,hw,h0,hs=>⟨B,S,by unfold YV;rw[if_pos (hw k B S h0)],by simpa using h0⟩
 |d::ds,P,B,S,k,hw,h0,hs=>by
  obtain⟨a,e,u,f,c,h,v⟩:=hs 0 d B S rfl (by simpa using h0);obtain⟨j,l,m,q⟩:=Hu ds P (k+1) hw (by simpa using v) (λi r B S s t=>by
   obtain⟨a,e,p,f,c,o,n⟩:=hs (i+1) r B S (by rw[qC9];exact s) (by rw[show k+(i+1)=k+1+i by omega];exact t);exact⟨a,e,p,f,c,o,by rw[show k+1+i+1=k+(i+1)+1 by omega];exact n⟩)
  refine⟨j,l,?_,by rw[qC7,show k+(ds.length+1)=k+1+ds.length by omega];exact q⟩;unfold YV;rw[if_pos (hw k B S h0),u];dsimp only;rcases h with h|h
  ·rw[h];exact m
  ·rw[h];exact m
inductive uZ(r:RS)(P:ZR->ZU->Prop):Prop
 |mk (B2:ZR) (S2:ZU) (h:r=.nx B2 S2∨r=.ct B2 S2) (p:P B2 S2)
inductive uY(g:G)(b:CS)(d:D)(B:ZR)(S:ZU)(P:ZR->ZU->Prop):Prop
 |mk (B1:ZR) (S1:ZU) (e:g d B S=.ok B1 S1) (t:uZ (b B1 S1) P)
inductive uX(r:RS)(P:ZR->ZU->Prop):Prop
 |mk (B':ZR) (S':ZU) (e:r=.nx B' S') (p:P B' S')
theorem VW(P:Nat->ZR->ZU->Prop)(f:∀i B S,P i B S->X2 w S)(a:P 0 B S)
  (hs:∀i d B S,items[i]?=Z9 d->P i B S->uY g b d B S (P (i+1))):uX (YV w g b items B S) (P items.length):=by
 obtain⟨n,s,e,p⟩:=Hu items P 0 f a (λi d B S q r=>by
  obtain⟨c,l,o,m,k,j,h⟩:=hs i d B S q (by simpa using r);exact⟨c,l,o,m,k,j,by simpa using h⟩)
 exact⟨n,s,e,by simpa using p⟩
inductive Ht(m:R (yM))(r:yM)(P:ZU->Prop):Prop
 |mk (S':ZU) (e:m=.ok r S') (p:P S')
theorem Pt{g:Type}(e:g->D){w:Xc}{t:Xb}{tc:CT}{c:C}{B0:ZR}(P:ZU->Prop)(h:∀S,P S->X2 w S)(p:g->Bool)(f:g->D):∀(l:List g) {S:ZU},P S ->
  (∀a∈l,∀S,P S->∃b,UQ t (e a) B0=Z9 b/\∃i,tc b S=.ok (p a) i/\(p a=Z5->P i)/\(p a=Z7->∃m,c b i=.ok (f a) m/\P m))->Ht (Y2 w t tc c B0 (l.map e) S) ((l.filter p).map f) P
 |[],S,h0,hs=>⟨S,by rw[qH5];unfold Y2;rw[if_pos (h S h0)];rfl,h0⟩
 |d::ds,S,h0,hs=>by
  obtain⟨b,y,i,x,v,ht⟩:=hs d (by simp) S h0;rw[qB5];unfold Y2;rw[if_pos (h S h0),y];dsimp only;rw[Wq,x,Xy];cases j:p d with
  |false =>
   obtain⟨r,k,o⟩:=Pt e P h p f ds (v j) λq n=>hs q (by simp[n]);exact⟨r,by rw[if_neg qB1,k,qE2,j];rfl,o⟩
  |true =>
   obtain⟨m,s,u⟩:=ht j;obtain⟨r,k,o⟩:=Pt e P h p f ds u λq n=>hs q (by simp[n]);exact⟨r,by rw[if_pos rfl,Wq,s,Xy,Wq,k,Xy,qE2,j];rfl,o⟩
theorem Mq{i:Type}(e:i->D)(P:ZU->Prop)(k:∀S,P S->X2 w S)(f:i->D)(l:List i)(j:P S)
  (hs:∀a∈l,∀S,P S->∃b,UQ t (e a) B0=Z9 b/\∃g,c b S=.ok (f a) g/\P g):Ht (Y2 w t (λ_=>ret Z7) c B0 (l.map e) S) (l.map f) P:=by
 obtain⟨q,e,h⟩:=Pt e (w:=w) (t:=t) (tc:=λ_=>ret Z7) (c:=c) (B0:=B0) P k (λ_=>Z7) f l j (λd n S h=>by
  obtain⟨b,p,g,o,m⟩:=hs d n S h;exact⟨b,p,S,rfl,(λz=>by cases z),λ_=>⟨g,o,m⟩⟩)
 exact⟨q,by rw[e,qQ2.mpr (by simp)],h⟩
theorem Se{g:Type}(e:g->D)(i:X2 w S)(p:g->Bool)(f:g->D)(l:List g)
  (hs:∀a∈l,∃d,UQ t (e a) B0=Z9 d/\tc d S=.ok (p a) S/\(p a=Z7->c d S=.ok (f a) S)):Y2 w t tc c B0 (l.map e) S=.ok ((l.filter p).map f) S:=by
 obtain⟨b,o,h⟩:=Pt e (w:=w) (t:=t) (tc:=tc) (c:=c) (B0:=B0) (λb=>b=S) (λb z=>z▸i) p f l rfl (λa k b z=>by
  subst z;obtain⟨d,n,m,j⟩:=hs a k;exact⟨d,n,b,m,λ_=>rfl,λz=>⟨b,j z,rfl⟩⟩)
 rw[o,h]
theorem UP{d:Type}(e:d->D)(j:X2 w S)(f:d->D)(l:List d)
  (hs:∀a∈l,∃b,UQ t (e a) B0=Z9 b/\c b S=.ok (f a) S):Y2 w t (λ_=>ret Z7) c B0 (l.map e) S=.ok (l.map f) S:=by
 have:=Se e (tc:=λ_=>ret Z7) (c:=c) j (λ_=>Z7) f l (λa g=>by
  obtain⟨b,i,h⟩:=hs a g;exact⟨b,i,rfl,λ_=>h⟩)
 rw[this,qQ2.mpr (by simp)]
theorem Mp{t:CT}{b:CS}(P:Nat->ZR->ZU->Prop)(Q:ZR->ZU->Prop)(hs:∀m B S,P m B S->(∃a,t B S=.ok Z5 a/\Q B a)∨∃a,t B S=.ok Z7 a/\∃i c,(b B a=.nx i c∨b B a=.ct i c)/\∃j,j<m/\P j i c):
  ∀(k m:Nat) (B:ZR) (S:ZU),m<k->P m B S->∃g d,WS k t b B S=.nx g d/\Q g d
 |0,m,B,S,hk,h=>absurd hk (qG0 _)
 |k+1,m,B,S,hk,h=>by
  unfold WS;rcases hs m B S h with⟨a,e,q⟩| ⟨a,e,i,c,f,j,o,n⟩
  ·rw[e];exact⟨B,a,rfl,q⟩
  ·obtain⟨g,d,l,q⟩:=Mp P Q hs k j i c (by omega) n;rw[e];dsimp only;rcases f with f|f
   ·rw[f];exact⟨g,d,l,q⟩
   ·rw[f];exact⟨g,d,l,q⟩
@[simp]theorem nF(d:D)(B:ZR):UQ .one d B=Z9 (B.set 0 (Z9 d)):=rfl
@[simp]theorem nD(x y:D)(B:ZR):UQ (.many 2) (.tup [x,y]) B=Z9 ((B.set 0 (Z9 x)).set 1 (Z9 y)):=rfl
@[simp]theorem nC(k:Nat)(a:List Nat)(B:ZR):UR k a B=qK0 k Z8++a.map λj=>(B[j]?).getD Z8:=rfl
theorem uW{f e:Nat}{b:CS}{ds:yM}{S:ZU}(h:ds.length=f):Zy f e b ds S=match b (Y1 e ds) S with
 |.nx _ a=>.ok .non a
 |.rt d a=>.ok d a
 |.er c a=>.er c a
 |_=>.bad:=by
 unfold Zy;rw[if_pos h]
 all_goals (cases b (Y1 e ds) S<;>rfl)
theorem Y7{a c:Nat}{b:CS}{ds:yM}{S S':ZU}{d:D}(h:ds.length=a)(e:b (Y1 c ds) S=.rt d S'):Zy a c b ds S=.ok d S':=by rw[uW h,e]
noncomputable def plain:Nat->D->Bool
 |0,_=>Z5
 |n+1,d=>match d with
  |.int _=>Z7
  |.non=>Z7
  |.str x=>PyData.strOk x
  |.tup a=>a.all (plain n)
  |_=>Z5
noncomputable def Zc:Nat->D->vA
 |0,_=>.none
 |n+1,d=>match d with
  |.int i=>.int i
  |.str x=>.str x
  |.tup a=>.tuple (a.map (Zc n))
  |_=>.none
theorem Mo{b c:Type}{f:b->Option c}{g:b->c}{l:List b}(h:∀x∈l,f x=Z9 (g x)):l.mapM f=Z9 (l.map g):=by
 induction l with
 |nil=>rfl
 |cons a r e =>
  rw[qH7,h a (by simp),e λx d=>h x (by simp[d])];rfl
theorem Sd:∀{n:Nat}{d:D} (S:ZU),plain n d=Z7->Zl n S d=Z9 (Zc n d)
 |0,d,S,h=>by cases h
 |n+1,d,S,h=>by
  unfold plain at h;unfold Zl Zc;cases d with
  |int i=>rfl
  |non=>rfl
  |str x=>dsimp only at h ⊢;rw[if_pos h]
  |tup b =>
   dsimp only at h ⊢;rw[Mo (g:=Zc n) λx a=>Sd S (qD9.mp h x a)];rfl
  |_=>cases h
theorem Pr{n:Nat}(a:∀d e,plain n d=Z7->plain n e=Z7->(PyData.eqv (Zc n d) (Zc n e)=Z7↔d=e)):∀(xs ys:yM),xs.all (plain n)=Z7->ys.all (plain n)=Z7->(PyData.eqvAll (xs.map (Zc n)) (ys.map (Zc n))=Z7↔xs=ys)
 |[],[],_,_=>by simp[PyData.eqvAll]
 |[],y::ys,_,_=>by simp[PyData.eqvAll]
 |x::xs,[],_,_=>by simp[PyData.eqvAll]
 |x::xs,y::ys,h1,h2=>by rw[qN9,qC4]at h1 h2;rw[qB5,qB5];show(PyData.eqv (Zc n x) (Zc n y)&&PyData.eqvAll (xs.map (Zc n)) (ys.map (Zc n)))=Z7↔_;rw[qC4,a x y h1.1 h2.1,Pr a xs ys h1.2 h2.2,qH4.injEq]
theorem R9:∀(n:Nat) (d e:D),plain n d=Z7->plain n e=Z7->(PyData.eqv (Zc n d) (Zc n e)=Z7↔d=e)
 |0,d,e,h,_=>by cases h
 |n+1,d,e,h1,h2=>by
  unfold plain at h1 h2;unfold Zc;cases d with
  |int i =>
   cases e with
   |int j=>simp[PyData.eqv]
   |non=>simp[PyData.eqv]
   |str y=>simp[PyData.eqv]
   |tup a=>simp[PyData.eqv]
   |_=>cases h2
  |non =>
   cases e with
   |int j=>simp[PyData.eqv]
   |non=>simp[PyData.eqv]
   |str y=>simp[PyData.eqv]
   |tup a=>simp[PyData.eqv]
   |_=>cases h2
  |str x =>
   cases e with
   |int j=>simp[PyData.eqv]
   |non=>simp[PyData.eqv]
   |str y=>simp[PyData.eqv]
   |tup a=>simp[PyData.eqv]
   |_=>cases h2
  |tup b =>
   cases e with
   |int j=>simp[PyData.eqv]
   |non=>simp[PyData.eqv]
   |str y=>simp[PyData.eqv]
   |tup a =>
    show PyData.eqvAll (b.map (Zc n)) (a.map (Zc n))=Z7↔_;rw[Pr (R9 n) b a h1 h2];simp
   |_=>cases h2
  |_=>cases h1
noncomputable def V6{a:Type}(x y:a):Bool:=@decide (x=y) (Classical.propDecidable _)
theorem Vg{x y:a}:V6 x y=Z7↔x=y:=@decide_eq_true_iff _ (Classical.propDecidable _)
@[simp]theorem Mn(x:a):V6 x x=Z7:=Vg.mpr rfl
theorem Vf(h:a=Z7↔b=Z7):a=b:=by cases a<;>cases b<;>simp at h ⊢
theorem Pq(S:ZU)(d:plain 40 x=Z7)(c:plain 40 y=Z7):Y8 x y S=.ok (.bl (V6 x y)) S:=by
 unfold Y8;split
 ·rename_i a b;rw[Vf (a:=decide (a=b)) (b:=V6 (D.str a) (D.str b)) (by rw[Vg,decide_eq_true_iff];exact⟨λq=>by rw[q],λq=>by injection q⟩)]
 ·rw[Sd S d,Sd S c];dsimp only;rw[Vf ((R9 40 x y d c).trans Vg.symm)]
theorem QT{xs:yM}(h:ZH S k=Z9 xs)(b:xs.all (plain 39)=Z7):Zl 40 S (.lst k)=Z9 (.list (xs.map (Zc 39))):=by show(match ZH S k with|some xs=>(xs.mapM (Zl 39 S)).map PyData.list|none=>Z8)=_;rw[h];dsimp only;rw[Mo (g:=Zc 39) λx a=>Sd S (qD9.mp b x a)];rfl
theorem uV{xs ys:yM}(f:ZH S a=Z9 xs)(e:ZH S b=Z9 ys)(d:xs.all (plain 39)=Z7)(c:ys.all (plain 39)=Z7):Y8 (.lst a) (.lst b) S=.ok (.bl (V6 xs ys)) S:=by unfold Y8;dsimp only;rw[QT f d,QT e c];dsimp only;rw[Vf ((show PyData.eqv (.list (xs.map (Zc 39))) (.list (ys.map (Zc 39)))=Z7↔xs=ys from Pr (R9 39) xs ys d c).trans Vg.symm)]
theorem Hs{xs ys:yM}(f:ZH S a=Z9 xs)(e:ZH S b=Z9 ys)(d:xs.all (plain 39)=Z7)(c:ys.all (plain 39)=Z7):XM (.lst a) (.lst b) S=.ok (.bl (!V6 xs ys)) S:=by unfold XM;dsimp only;rw[QT f d,QT e c];dsimp only;rw[Vf ((show PyData.eqv (.list (xs.map (Zc 39))) (.list (ys.map (Zc 39)))=Z7↔xs=ys from Pr (R9 39) xs ys d c).trans Vg.symm)]
theorem uU(h:0<n)(i:Int):plain n (.int i)=Z7:=by
 cases n with
 |zero=>cases h
 |succ n=>rfl
theorem Mm{xs:yM}(h:∀x∈xs,plain n x=Z7):plain (n+1) (.tup xs)=Z7:=qD9.mpr h
theorem Ml(h:0<n)(l:yA):∀x∈l.map D.int,plain n x=Z7:=λx a=>by obtain⟨i,_,rfl⟩:=qB9.mp a;exact uU h i
@[simp]theorem nB(i:Int)(S:ZU):YI [.int i,.ty "bool"] S=.ok (.bl Z5) S:=rfl
@[simp]theorem nz(i:Int)(S:ZU):YI [.int i,.ty "int"] S=.ok (.bl Z7) S:=rfl
@[simp]theorem ny(i:Int)(S:ZU):YI [.int i,.ty "tuple"] S=.ok (.bl Z5) S:=rfl
@[simp]theorem nv(i:Int)(S:ZU):YI [.int i,.ty "list"] S=.ok (.bl Z5) S:=rfl
@[simp]theorem nu(b:Bool)(S:ZU):YI [.bl b,.ty "bool"] S=.ok (.bl Z7) S:=rfl
@[simp]theorem nt(b:Bool)(S:ZU):YI [.bl b,.ty "int"] S=.ok (.bl Z7) S:=rfl
@[simp]theorem nr(b:Bool)(S:ZU):YI [.bl b,.ty "tuple"] S=.ok (.bl Z5) S:=rfl
@[simp]theorem nq(b:Bool)(S:ZU):YI [.bl b,.ty "list"] S=.ok (.bl Z5) S:=rfl
@[simp]theorem nh  (S:ZU):YI [.non,.ty "bool"] S=.ok (.bl Z5) S:=rfl
@[simp]theorem ng  (S:ZU):YI [.non,.ty "int"] S=.ok (.bl Z5) S:=rfl
@[simp]theorem nc  (S:ZU):YI [.non,.ty "tuple"] S=.ok (.bl Z5) S:=rfl
@[simp]theorem m6  (S:ZU):YI [.non,.ty "list"] S=.ok (.bl Z5) S:=rfl
@[simp]theorem m5(x:Str)(S:ZU):YI [.str x,.ty "bool"] S=.ok (.bl Z5) S:=rfl
@[simp]theorem m4(x:Str)(S:ZU):YI [.str x,.ty "int"] S=.ok (.bl Z5) S:=rfl
@[simp]theorem mA(x:Str)(S:ZU):YI [.str x,.ty "tuple"] S=.ok (.bl Z5) S:=rfl
@[simp]theorem mz(x:Str)(S:ZU):YI [.str x,.ty "list"] S=.ok (.bl Z5) S:=rfl
@[simp]theorem my(xs:yM)(S:ZU):YI [.tup xs,.ty "bool"] S=.ok (.bl Z5) S:=rfl
@[simp]theorem mx(xs:yM)(S:ZU):YI [.tup xs,.ty "int"] S=.ok (.bl Z5) S:=rfl
@[simp]theorem mw(xs:yM)(S:ZU):YI [.tup xs,.ty "tuple"] S=.ok (.bl Z7) S:=rfl
@[simp]theorem mu(xs:yM)(S:ZU):YI [.tup xs,.ty "list"] S=.ok (.bl Z5) S:=rfl
@[simp]theorem mr(i j:Nat)(a b:C)(B:ZR)(S:ZU):Xo i j a b B S=rs (a B S) (λx c=>rs (b B c) (λy d=>.nx ((B.set i (Z9 x)).set j (Z9 y)) d) .mk) .mk:=by
 unfold Xo rs;cases a B S with
 |ok x c=>dsimp only;cases b B c<;>rfl
 |_=>rfl
theorem Mk(ns:yA):Ws (ns.map D.int)=Z9 ns:=by
 induction ns with
 |nil=>rfl
 |cons a r b=>show(Ws (r.map D.int)).map (a::·)=_;rw[b];rfl
theorem Hr(h:ZH S n=Z9 (ns.map D.int))(a:ns.length<64):WD [.lst n] S=.ok (.lst S.length) (S++[.lst ((XQ ns).map D.int)]):=by unfold WD;simp only[h,qS6,Mk,if_pos a]
theorem Hq(xs:yM)(a:0<=k):Zf xs Z8 (Z9 k)=xs.take k.toNat:=by
 unfold Zf;rw[show k=((k.toNat:Nat):Int) by omega,HT.sIx_nat,HT.sIx_none,qR6,qM8,qF1];by_cases h:k.toNat<=xs.length
 ·rw[qM3 h]
 ·rw[qP0 (by omega),qH3,qJ4 (by omega)]
theorem Pp(xs:yM)(a:0<=k):Zf xs (Z9 k) Z8=xs.drop k.toNat:=by
 unfold Zf;rw[show k=((k.toNat:Nat):Int) by omega,HT.sIx_nat,HT.sIx_none,qF1];by_cases h:k.toNat<=xs.length
 ·rw[qM3 h,qJ4 (by simp)]
 ·rw[qP0 (by omega),qI2,List.take_zero,List.drop_of_length_le (by omega)]
end L2
namespace My
open PySem L2
noncomputable def Mj(cl:ZO):C :=
 (ZC (ZS [(ZW ZL (ZY 0) (ZX (.int 0))),(ZW ZL (ZY 0) (ZX (.int 1))),(ZC (ZS [(ZX (.str (Str.ofString "at"))),(ZW ZL (ZY 0) (ZX (.int 2))),(ZW ZL (ZY 0) (ZX (.int 3)))]))]))
noncomputable def Po(cl:ZO):CS :=
 (ZV (ZF (X1 (Zq (ZW ZL (ZY 0) (ZX (.int 2)))) 1 [] .one (λ_=>ret Z7) (Mj cl)))
  ZG)
def Ho(cl:Nat->ZO):Prop:=∀n,cl (n+1) "bonds_of"=Zy 1 1 (Po (cl n))
noncomputable def Pn(cl:ZO):CT :=
 (Zt (ZW (Yr Z5) (ZY 1) (Yi YB (ZY 0) Yc (Yn (ZX (.int 2))))))
noncomputable def Pm(cl:ZO):C :=
 (ZY 0)
noncomputable def Tq(cl:ZO):CS :=
 (ZV (ZF (UW (ZW (YM λi j=>decide (j<=i)) (ZY 0) (ZX (.int 2))) (ZW Y8 (ZT Zi (ZS [(X1 (Zq (ZY 1)) 1 [0] .one (Pn cl) (Pm cl))])) (ZX (.int 2)))))
  ZG)
def Hn(cl:Nat->ZO):Prop:=∀n,cl (n+1) "may_vanish"=Zy 2 2 (Tq (cl n))
noncomputable def Pl(cl:ZO):CT :=
 (Zt (ZW XM (ZY 0) (ZY 1)))
noncomputable def Pk(cl:ZO):C :=
 (ZY 0)
noncomputable def Vx(cl:ZO):CS :=
 (ZV (YR (VE (Zt (ZW (Yr Z5) (ZY 3) (Yi YB (ZY 1) Yc (Yn (ZX (.int 2)))))) (YN (ZT (cl "may_vanish") (ZS [(ZY 3),(ZY 2)])))) (ZV (ZP (ZT WD (ZS [(X1 (Zq (ZW ZK (Yi YB (ZY 0) Yc (Yn (ZX (.int 2)))) (Yi YB (ZY 1) Yc (Yn (ZX (.int 2)))))) 1 [3] .one (Pl cl) (Pk cl))])) (gN 4))
  (ZV (ZF (ZC (ZS [(ZW ZL (ZY 4) (ZX (.int 0))),(ZW ZL (ZY 4) (ZX (.int 1))),(ZC (ZS [(ZX (.str (Str.ofString "row"))),(ZC (ZS [(ZW ZL (ZY 0) (ZX (.int 2))),(ZW ZL (ZY 1) (ZX (.int 2)))]))]))])))
  ZG)) ZG)
  ZG)
noncomputable def Um(cl:ZO):CS :=
 (ZV (YR (Zt (ZW Y8 (Yi YB (ZY 0) Yc (Yn (ZX (.int 2)))) (Yi YB (ZY 1) Yc (Yn (ZX (.int 2)))))) (ZV (ZF (ZW ZK (Yi YB (ZY 0) Yc (Yn (ZX (.int 2)))) (ZC (ZS [(ZC (ZS [(ZX (.str (Str.ofString "side"))),(ZC (ZS [(ZW ZL (ZY 0) (ZX (.int 2))),(ZW ZL (ZY 1) (ZX (.int 2)))]))]))]))))
  ZG) ZG)
  (ZV (Ze (Zq (Yi YB (ZY 0) Yc (Yn (ZX (.int 2))))) (gN 3) (Vx cl))
  (ZV (ZF (ZX .non))
  ZG)))
def uT(cl:Nat->ZO):Prop:=∀n,cl (n+1) "drawn_pair"=Zy 3 5 (Um (cl n))
noncomputable def Ve(cl:ZO):CS :=
 (ZV (ZP (ZT (cl "drawn_pair") (ZS [(ZW ZL (ZY 0) (ZY 3)),(ZY 2),(ZY 0)])) (gN 4))
  (ZV (YR (Zt (ZW V0 (ZY 4) (ZX .non))) (ZV (ZF (ZW ZK (ZW ZK (ZW ZK (Yi YB (ZY 0) Yc (Yn (ZY 3))) (Zr (ZS [(ZY 4)]))) (Yi YB (ZY 0) (Yn (ZW ZK (ZY 3) (ZX (.int 1)))) (Yn (ZY 1)))) (Yi YB (ZY 0) (Yn (ZW ZK (ZY 1) (ZX (.int 1)))) Yc)))
  ZG) ZG)
  ZG))
noncomputable def Ul(cl:ZO):CS :=
 (ZV (Ze (VY (ZS [(ZY 1)])) (gN 3) (Ve cl))
  ZG)
noncomputable def Tp(cl:ZO):CS :=
 (ZV (Ze (Q9 (ZS [(ZY 0)])) (gT [(gN 1),(gN 2)]) (Ul cl))
  (ZV (ZF (ZX .non))
  ZG))
def uS(cl:Nat->ZO):Prop:=∀n,cl (n+1) "drawn_once"=Zy 1 5 (Tp (cl n))
noncomputable def To(cl:ZO):CS :=
 (ZV (ZP (ZY 2) (gN 1))
  (ZV (ZP (ZT (cl "drawn_once") (ZS [(ZY 1)])) (gN 2))
  ZG))
noncomputable def UO(cl:ZO):CS :=
 (ZV (ZP (ZT (cl "bonds_of") (ZS [(ZY 0)])) (gN 1))
  (ZV (ZP (ZT (cl "drawn_once") (ZS [(ZY 1)])) (gN 2))
  (ZV (WS VX (Zt (ZW V0 (ZY 2) (ZX .non))) (To cl))
  (ZV (YR (VE (Zt (ZW Y8 (ZT Zi (ZS [(ZY 1)])) (ZX (.int 1)))) (Zt (ZW Y8 (Yi YB (ZW ZL (ZY 1) (ZX (.int 0))) Yc (Yn (ZX (.int 2)))) (ZC (ZS [(ZX (.int 0)),(ZX (.int 1))]))))) (ZV (ZF (ZW ZL (ZW ZL (ZY 1) (ZX (.int 0))) (ZX (.int 2))))
  ZG) ZG)
  (ZV (ZF (ZX .non))
  ZG)))))
def uR(cl:Nat->ZO):Prop:=∀n,cl (n+1) "tree_of"=Zy 1 3 (UO (cl n))
noncomputable def QS(cl:ZO):CS :=
 (ZV (YR (Zt (ZW Vj (ZY 1) (ZT Zi (ZS [(ZY 0)])))) (ZV (ZF (ZW ZL (ZY 0) (ZY 1)))
  ZG) ZG)
  (ZV (ZF (ZX (.int 0)))
  ZG))
def Mi(cl:Nat->ZO):Prop:=∀n,cl (n+1) "_law_cell_at"=Zy 2 2 (QS (cl n))
noncomputable def QR(cl:ZO):CS :=
 (ZV (ZP (ZT (cl "_law_cell_at") (ZS [(ZY 0),(ZY 1)])) (gN 2))
  (ZV (YR (Zt (ZW (YM λi j=>decide (j<=i)) (ZY 2) (ZW Wc (ZX (.int 10)) (ZX (.int 18))))) (ZV (ZF (Zr (ZS [(ZW (Zw λi j=>i - j) (ZY 2) (ZW Wc (ZX (.int 10)) (ZX (.int 18)))),(ZX (.bl Z7))])))
  ZG) ZG)
  (ZV (ZF (Zr (ZS [(ZW Yt (ZY 2) (ZX (.int 2147483647))),(ZX (.bl Z5))])))
  ZG)))
def Hm(cl:Nat->ZO):Prop:=∀n,cl (n+1) "_law_state"=Zy 2 3 (QR (cl n))
noncomputable def Mh(cl:ZO):CS :=
 (ZV (YR (YN (ZW ZL (ZY 0) (ZX (.int 1)))) (ZV (ZP (ZW Yt (ZW ZL (ZY 0) (ZX (.int 0))) (ZY 1)) (gN 2))
  (ZV (ZP (ZW W3 (ZW ZL (ZY 0) (ZX (.int 0))) (ZY 1)) (gS (ZY 0) (ZX (.int 0))))
  (ZV (ZF (ZY 2))
  ZG))) ZG)
  (ZV (ZP (ZW Yt (ZW ZK (ZW Ym (ZW ZL (ZY 0) (ZX (.int 0))) (ZX (.int 48271))) (ZX (.int 29))) (ZX (.int 2147483647))) (gS (ZY 0) (ZX (.int 0))))
  (ZV (ZP (ZW Yt (ZW ZK (ZW ZK (ZW Ym (ZW ZL (ZY 0) (ZX (.int 0))) (ZW ZL (ZY 0) (ZX (.int 0)))) (ZW Ym (ZX (.int 39373)) (ZW ZL (ZY 0) (ZX (.int 0))))) (ZX (.int 7))) (ZX (.int 2147483629))) (gN 3))
  (ZV (ZP (ZW Yt (ZW ZK (ZW Ym (ZY 3) (ZY 3)) (ZW Ym (ZX (.int 16807)) (ZY 3))) (ZX (.int 2147483587))) (gN 3))
  (ZV (ZF (ZW Yt (ZW W3 (ZY 3) (ZX (.int 8))) (ZY 1)))
  ZG)))))
def mq(cl:Nat->ZO):Prop:=∀n,cl (n+1) "_law_take"=Zy 2 4 (Mh (cl n))
noncomputable def QQ(cl:ZO):CS :=
 (ZV (ZP (ZW ZK (ZW ZK (Zr (ZS [(ZX (.int 0))])) (ZT Xa (ZS [(ZX (.int 2)),(ZY 1)]))) (Zr (ZS [(ZX (.int 1))]))) (gN 2))
  (ZV (ZP (ZT (cl "_law_take") (ZS [(ZY 0),(ZW (Zw λi j=>i - j) (ZY 1) (ZX (.int 1)))])) (gN 3))
  (ZV (ZP (ZW ZK (ZY 3) (ZX (.int 1))) (gN 4))
  (ZV (YR (Zt (ZW Y8 (ZT (cl "_law_take") (ZS [(ZY 0),(ZX (.int 3))])) (ZX (.int 0)))) (ZV (ZP (ZW ZK (ZW ZK (ZY 3) (ZX (.int 1))) (ZT (cl "_law_take") (ZS [(ZY 0),(ZW (Zw λi j=>i - j) (ZW (Zw λi j=>i - j) (ZY 1) (ZX (.int 1))) (ZY 3))]))) (gN 4))
  ZG) ZG)
  (ZV (ZF (ZC (ZS [(ZT XF (ZS [(ZW ZL (ZY 2) (ZY 3)),(ZW ZL (ZY 2) (ZY 4))])),(ZT Xq (ZS [(ZW ZL (ZY 2) (ZY 3)),(ZW ZL (ZY 2) (ZY 4))]))])))
  ZG)))))
def Pj(cl:Nat->ZO):Prop:=∀n,cl (n+1) "_law_ends"=Zy 2 5 (QQ (cl n))
noncomputable def uQ(cl:ZO):CS :=
 (ZV (Xd (W2 "list" (XJ W1) (ZY 11) (ZS [(ZT (cl "_law_take") (ZS [(ZY 0),(ZW ZK (ZT Zi (ZS [(ZY 11)])) (ZX (.int 1)))])),(ZY 12)])))
  ZG)
noncomputable def uP(cl:ZO):CS :=
 (ZV (Xd (W2 "list" (XJ VZ) (ZY 6) (ZS [(ZW ZK (ZT (cl "_law_ends") (ZS [(ZY 0),(ZY 5)])) (ZC (ZS [(ZT (cl "_law_take") (ZS [(ZY 0),(ZY 4)])),(ZT (cl "_law_take") (ZS [(ZY 0),(ZX (.int 2))]))])))])))
  ZG)
noncomputable def uO(cl:ZO):CS :=
 (ZV (Xd (W2 "list" (XJ VZ) (ZY 6) (ZS [(ZC (ZS [(ZT XF (ZS [(ZY 8),(ZY 9)])),(ZT Xq (ZS [(ZY 8),(ZY 9)])),(ZT (cl "_law_take") (ZS [(ZY 0),(ZY 4)])),(ZT (cl "_law_take") (ZS [(ZY 0),(ZX (.int 2))]))]))])))
  ZG)
noncomputable def Mg(cl:ZO):CS :=
 (ZV (ZP (ZW ZK (ZX (.int 1)) (ZT (cl "_law_take") (ZS [(ZY 0),(ZY 1)]))) (gN 4))
  (ZV (ZP (ZW ZK (ZX (.int 2)) (ZT (cl "_law_take") (ZS [(ZY 0),(ZW (Zw λi j=>i - j) (ZY 2) (ZX (.int 1)))]))) (gN 5))
  (ZV (ZP (Zr (ZS [])) (gN 6))
  (ZV (ZP (ZW ZK (ZW ZK (Zr (ZS [(ZX (.int 0))])) (ZT Xa (ZS [(ZX (.int 2)),(ZY 5)]))) (Zr (ZS [(ZX (.int 1))]))) (gN 7))
  (ZV (YR (VE (Zt (ZW Y8 (ZT (cl "_law_take") (ZS [(ZY 0),(ZX (.int 2))])) (ZX (.int 0)))) (Zt (ZW (YM λi j=>decide (i<=j)) (ZW (Zw λi j=>i - j) (ZY 5) (ZX (.int 1))) (ZY 3)))) (ZV (Ze (Ra (ZS [(ZY 7),(Yi YB (ZY 7) (Yn (ZX (.int 1))) Yc)])) (gT [(gN 8),(gN 9)]) (uO cl))
  ZG) ZG)
  (ZV (Ze (VY (ZS [(ZT (cl "_law_take") (ZS [(ZY 0),(ZW ZK (ZW (Zw λi j=>i - j) (ZY 3) (ZT Zi (ZS [(ZY 6)]))) (ZX (.int 1)))]))])) (gN 10) (uP cl))
  (ZV (ZP (Zr (ZS [])) (gN 11))
  (ZV (Ze (Zq (ZY 6)) (gN 12) (uQ cl))
  (ZV (ZF (ZC (ZS [(ZY 4),(ZY 5),(ZT XY (ZS [(ZY 11)]))])))
  ZG)))))))))
def mn(cl:Nat->ZO):Prop:=∀n,cl (n+1) "_law_net"=Zy 4 13 (Mg (cl n))
noncomputable def Mf(cl:ZO):CS :=
 (ZV (ZP (Yi YB (ZW ZL (ZW ZL (ZY 0) (ZX (.int 2))) (ZY 4)) Yc (Yn (ZX (.int 2)))) (gT [(gN 5),(gN 6)]))
  (ZV (ZP (ZT XF (ZS [(ZW ZL (ZY 2) (ZY 5)),(ZW ZL (ZY 2) (ZY 6))])) (gN 7))
  (ZV (ZP (ZY 7) (gS (ZY 2) (ZY 5)))
  (ZV (ZP (ZY 7) (gS (ZY 2) (ZY 6)))
  ZG))))
noncomputable def Me(cl:ZO):CS :=
 (ZV (Ze (Zq (ZY 1)) (gN 4) (Mf cl))
  ZG)
noncomputable def Pi(cl:ZO):CS :=
 (ZV (ZP (ZT Xa (ZS [(ZW ZL (ZY 0) (ZX (.int 1)))])) (gN 2))
  (ZV (Ze (VY (ZS [(ZW ZL (ZY 0) (ZX (.int 1)))])) (gN 3) (Me cl))
  (ZV (ZF (ZY 2))
  ZG)))
def Ph(cl:Nat->ZO):Prop:=∀n,cl (n+1) "_law_marks"=Zy 2 8 (Pi (cl n))
noncomputable def Md(cl:ZO):C :=
 (ZW (Zw vH) (ZW VB (ZY 1) (ZW (Zw λi j=>i - j) (ZW (Zw λi j=>i - j) (ZY 2) (ZX (.int 1))) (ZY 0))) (ZX (.int 1)))
noncomputable def Mc(cl:ZO):CS :=
 (ZV (Xd (W2 "list" (XJ VZ) (ZY 1) (ZS [(ZT XY (ZS [(X1 (VY (ZS [(ZY 0)])) 1 [2,0] .one (λ_=>ret Z7) (Md cl))]))])))
  ZG)
noncomputable def Pg(cl:ZO):CS :=
 (ZV (ZP (Zr (ZS [])) (gN 1))
  (ZV (Ze (VY (ZS [(ZW WG (ZX (.int 1)) (ZY 0))])) (gN 2) (Mc cl))
  (ZV (ZF (ZY 1))
  ZG)))
def Pf(cl:Nat->ZO):Prop:=∀n,cl (n+1) "_law_settings"=Zy 1 3 (Pg (cl n))
noncomputable def Mb(cl:ZO):CT :=
 (Zt (ZW Y8 (ZW ZL (ZY 2) (ZW ZL (ZY 1) (ZX (.int 2)))) (ZW ZL (ZY 1) (ZX (.int 3)))))
noncomputable def Ma(cl:ZO):C :=
 (ZY 0)
noncomputable def Pe(cl:ZO):CS :=
 (ZV (ZF (X1 (Q9 (ZS [(ZW ZL (ZY 0) (ZX (.int 2)))])) 2 [1] (.many 2) (Mb cl) (Ma cl)))
  ZG)
def Pd(cl:Nat->ZO):Prop:=∀n,cl (n+1) "_law_shut"=Zy 2 2 (Pe (cl n))
noncomputable def Pc(cl:ZO):CS :=
 (ZV (ZF (ZW Y8 (ZW ZL (ZT (cl "_law_marks") (ZS [(ZY 0),(ZT (cl "_law_shut") (ZS [(ZY 0),(ZY 1)]))])) (ZX (.int 1))) (ZX (.int 0))))
  ZG)
def L9(cl:Nat->ZO):Prop:=∀n,cl (n+1) "_law_lets"=Zy 2 2 (Pc (cl n))
noncomputable def L8(cl:ZO):C :=
 (ZT Xp (ZS [(ZT (cl "_law_lets") (ZS [(ZY 1),(ZY 0)]))]))
noncomputable def Pb(cl:ZO):CS :=
 (ZV (ZF (ZT XY (ZS [(X1 (Zq (ZT (cl "_law_settings") (ZS [(ZW ZL (ZY 0) (ZX (.int 0)))]))) 1 [0] .one (λ_=>ret Z7) (L8 cl))])))
  ZG)
def Hl(cl:Nat->ZO):Prop:=∀n,cl (n+1) "_law_function"=Zy 1 1 (Pb (cl n))
noncomputable def Pa(cl:ZO):CS :=
 (ZV (Xo 2 3 (ZW ZL (ZY 1) (ZW ZL (ZY 0) (ZX (.int 0)))) (ZW ZL (ZY 1) (ZW ZL (ZY 0) (ZX (.int 1)))))
  (ZV (ZF (ZW ZK (ZC (ZS [(ZT XF (ZS [(ZY 2),(ZY 3)])),(ZT Xq (ZS [(ZY 2),(ZY 3)]))])) (Yi YB (ZY 0) (Yn (ZX (.int 2))) Yc)))
  ZG))
def R8(cl:Nat->ZO):Prop:=∀n,cl (n+1) "_law_turned_ends"=Zy 2 4 (Pa (cl n))
noncomputable def R7(cl:ZO):CS :=
 (ZV (ZF (UW (ZT YI (ZS [(ZY 0),(ZX (.ty "int"))])) (UW (P3 (ZT YI (ZS [(ZY 0),(ZX (.ty "bool"))]))) (Ux (YM λi j=>decide (i<=j)) Vj (ZY 1) (ZY 0) (ZY 2)))))
  ZG)
def L7(cl:Nat->ZO):Prop:=∀n,cl (n+1) "_law_whole"=Zy 3 3 (R7 (cl n))
noncomputable def Tn(cl:ZO):CS :=
 (ZV (YR (Yu (Zt (ZW Vj (ZY 2) (ZX (.int 2)))) (Zt (ZW Y8 (ZT (cl "_law_take") (ZS [(ZY 0),(ZX (.int 5))])) (ZX (.int 0))))) (ZV (ZF (ZC (ZS [(ZX (.str (Str.ofString "at"))),(ZT (cl "_law_take") (ZS [(ZY 0),(ZY 1)])),(ZT (cl "_law_take") (ZS [(ZY 0),(ZX (.int 2))]))])))
  ZG) ZG)
  (ZV (ZP (ZW ZK (ZX (.int 1)) (ZT (cl "_law_take") (ZS [(ZY 0),(ZW (Zw λi j=>i - j) (ZY 2) (ZX (.int 1)))]))) (gN 3))
  (ZV (ZP (Zr (ZS [(ZT (cl "_law_tree") (ZS [(ZY 0),(ZY 1),(ZY 3)])),(ZT (cl "_law_tree") (ZS [(ZY 0),(ZY 1),(ZW (Zw λi j=>i - j) (ZY 2) (ZY 3))]))])) (gN 4))
  (ZV (YR (VE (Zt (ZW (YM λi j=>decide (j<i)) (ZY 3) (ZX (.int 1)))) (Zt (ZW Y8 (ZT (cl "_law_take") (ZS [(ZY 0),(ZX (.int 3))])) (ZX (.int 0))))) (ZV (ZP (ZW ZK (ZX (.int 1)) (ZT (cl "_law_take") (ZS [(ZY 0),(ZW (Zw λi j=>i - j) (ZY 3) (ZX (.int 1)))]))) (gN 5))
  (ZV (ZP (ZT (cl "_law_tree") (ZS [(ZY 0),(ZY 1),(ZY 5)])) (gS (ZY 4) (ZX (.int 0))))
  (ZV (Xd (W2 "list" (XJ W1) (ZY 4) (ZS [(ZX (.int 1)),(ZT (cl "_law_tree") (ZS [(ZY 0),(ZY 1),(ZW (Zw λi j=>i - j) (ZY 3) (ZY 5))]))])))
  ZG))) ZG)
  (ZV (ZF (ZC (ZS [(ZW ZL (Zr (ZS [(ZX (.str (Str.ofString "row"))),(ZX (.str (Str.ofString "side")))])) (ZT (cl "_law_take") (ZS [(ZY 0),(ZX (.int 2))]))),(ZT XY (ZS [(ZY 4)]))])))
  ZG)))))
def Hk(cl:Nat->ZO):Prop:=∀n,cl (n+1) "_law_tree"=Zy 3 6 (Tn (cl n))
noncomputable def L6(cl:ZO):CS :=
 (ZV (Xd (W2 "list" Sr (ZY 1) (ZS [(ZT (cl "_law_leaves") (ZS [(ZY 2)]))])))
  ZG)
noncomputable def QP(cl:ZO):CS :=
 (ZV (YR (Zt (ZW Y8 (ZW ZL (ZY 0) (ZX (.int 0))) (ZX (.str (Str.ofString "at"))))) (ZV (ZF (Zr (ZS [(ZY 0)])))
  ZG) ZG)
  (ZV (ZP (Zr (ZS [])) (gN 1))
  (ZV (Ze (Zq (ZW ZL (ZY 0) (ZX (.int 1)))) (gN 2) (L6 cl))
  (ZV (ZF (ZY 1))
  ZG))))
def Hj(cl:Nat->ZO):Prop:=∀n,cl (n+1) "_law_leaves"=Zy 1 3 (QP (cl n))
noncomputable def QO(cl:ZO):C :=
 (ZT (cl "_law_bit") (ZS [(ZY 0),(ZY 1)]))
noncomputable def UN(cl:ZO):CS :=
 (ZV (YR (Zt (ZW Y8 (ZW ZL (ZY 0) (ZX (.int 0))) (ZX (.str (Str.ofString "at"))))) (ZV (ZF (ZT Xp (ZS [(ZW Y8 (ZW ZL (ZY 1) (ZW ZL (ZY 0) (ZX (.int 1)))) (ZW ZL (ZY 0) (ZX (.int 2))))])))
  ZG) ZG)
  (ZV (ZP (X1 (Zq (ZW ZL (ZY 0) (ZX (.int 1)))) 1 [1] .one (λ_=>ret Z7) (QO cl)) (gN 2))
  (ZV (ZF (ZT Xp (ZS [(Rg (Zt (ZW Y8 (ZW ZL (ZY 0) (ZX (.int 0))) (ZX (.str (Str.ofString "row"))))) (ZW (Yr Z7) (ZX (.int 0)) (ZY 2)) (ZW (Yr Z5) (ZX (.int 1)) (ZY 2)))])))
  ZG)))
def L5(cl:Nat->ZO):Prop:=∀n,cl (n+1) "_law_bit"=Zy 2 3 (UN (cl n))
noncomputable def QN(cl:ZO):C :=
 (ZT (cl "_law_bit") (ZS [(ZY 1),(ZY 0)]))
noncomputable def QM(cl:ZO):CS :=
 (ZV (ZF (ZT XY (ZS [(X1 (Zq (ZT (cl "_law_settings") (ZS [(ZY 0)]))) 1 [1] .one (λ_=>ret Z7) (QN cl))])))
  ZG)
def Hi(cl:Nat->ZO):Prop:=∀n,cl (n+1) "_law_tree_bits"=Zy 2 2 (QM (cl n))
noncomputable def Tj(cl:ZO):CS :=
 (ZV (ZP (ZT (cl "_law_counted") (ZS [(ZY 0),(ZY 4)])) (gN 5))
  (ZV (YR (Zt (ZW Y8 (ZY 5) (ZX (.int 0)))) (ZV (ZF (ZX (.int 0)))
  ZG) ZG)
  (ZV (ZP (ZW ZK (ZY 3) (ZY 5)) (gN 3))
  ZG)))
noncomputable def Wo(cl:ZO):CS :=
 (ZV (YR (Yu (Wt (YN (ZT YI (ZS [(ZY 1),(ZX (.ty "tuple"))])))) (Yu (Zt (ZW (Yr Z7) (ZT Zi (ZS [(ZY 1)])) (ZC (ZS [(ZX (.int 2)),(ZX (.int 3))])))) (Wt (YN (ZT YI (ZS [(ZW ZL (ZY 1) (ZX (.int 0))),(ZX (.ty "str"))])))))) (ZV (ZF (ZX (.int 0)))
  ZG) ZG)
  (ZV (YR (Zt (ZW Y8 (ZT Zi (ZS [(ZY 1)])) (ZX (.int 3)))) (ZV (ZP (UW (ZW Y8 (ZW ZL (ZY 1) (ZX (.int 0))) (ZX (.str (Str.ofString "at")))) (UW (ZT (cl "_law_whole") (ZS [(ZW ZL (ZY 1) (ZX (.int 1))),(ZX (.int 0)),(ZY 0)])) (ZT (cl "_law_whole") (ZS [(ZW ZL (ZY 1) (ZX (.int 2))),(ZX (.int 0)),(ZX (.int 2))])))) (gN 2))
  (ZV (ZF (ZT Xp (ZS [(ZY 2)])))
  ZG)) ZG)
  (ZV (YR (Yu (Zt (ZW (Yr Z7) (ZW ZL (ZY 1) (ZX (.int 0))) (ZC (ZS [(ZX (.str (Str.ofString "row"))),(ZX (.str (Str.ofString "side")))])))) (Yu (Wt (YN (ZT YI (ZS [(ZW ZL (ZY 1) (ZX (.int 1))),(ZX (.ty "tuple"))])))) (Zt (ZW Vj (ZT Zi (ZS [(ZW ZL (ZY 1) (ZX (.int 1)))])) (ZX (.int 2)))))) (ZV (ZF (ZX (.int 0)))
  ZG) ZG)
  (ZV (ZP (ZX (.int 0)) (gN 3))
  (ZV (Ze (Zq (ZW ZL (ZY 1) (ZX (.int 1)))) (gN 4) (Tj cl))
  (ZV (ZF (ZY 3))
  ZG))))))
def Hh(cl:Nat->ZO):Prop:=∀n,cl (n+1) "_law_counted"=Zy 2 6 (Wo (cl n))
noncomputable def uN(cl:ZO):C :=
 (ZT (cl "_law_turned_ends") (ZS [(ZY 0),(ZY 1)]))
noncomputable def uM(cl:ZO):C :=
 (ZT (cl "_law_turned_ends") (ZS [(ZY 0),(ZY 1)]))
noncomputable def uL(cl:ZO):C :=
 (ZW (Zw λi j=>i - j) (ZW ZK (ZY 0) (ZY 1)) (ZX (.int 2)))
noncomputable def uK(cl:ZO):CS :=
 (ZV (ZP (ZT (cl "_law_laid") (ZS [(ZY 0),(ZY 3)])) (gN 4))
  (ZV (ZP (ZC (ZS [(ZW ZL (ZY 2) (ZX (.int 1))),(ZW ZL (ZY 4) (ZX (.int 1)))])) (gT [(gN 5),(gN 6)]))
  (ZV (ZP (ZT Xa (ZS [(ZY 5)])) (gN 7))
  (ZV (ZP (ZW ZK (Zr (ZS [(ZX (.int 0)),(ZX (.int 1))])) (X1 (TC (ZS [(ZX (.int 2)),(ZY 6)])) 1 [5] .one (λ_=>ret Z7) (uL cl))) (gN 8))
  (ZV (ZP (ZW (Zw λi j=>i - j) (ZW ZK (ZY 5) (ZY 6)) (ZX (.int 2))) (gN 9))
  (ZV (YR (Zt (ZW Y8 (ZW ZL (ZY 1) (ZX (.int 0))) (ZX (.str (Str.ofString "row"))))) (ZV (ZP (ZY 9) (gS (ZY 7) (ZX (.int 1))))
  (ZV (ZP (ZY 9) (gS (ZY 8) (ZX (.int 0))))
  (ZV (ZP (ZW ZK (ZY 9) (ZX (.int 1))) (gN 9))
  ZG))) ZG)
  (ZV (ZP (ZW ZK (X1 (Zq (ZW ZL (ZY 2) (ZX (.int 2)))) 1 [7] .one (λ_=>ret Z7) (uN cl)) (X1 (Zq (ZW ZL (ZY 4) (ZX (.int 2)))) 1 [8] .one (λ_=>ret Z7) (uM cl))) (gN 10))
  (ZV (ZP (ZC (ZS [(ZY 0),(ZY 9),(ZT XY (ZS [(ZY 10)]))])) (gN 2))
  ZG))))))))
noncomputable def L4(cl:ZO):CS :=
 (ZV (YR (Zt (ZW Y8 (ZW ZL (ZY 1) (ZX (.int 0))) (ZX (.str (Str.ofString "at"))))) (ZV (ZF (ZC (ZS [(ZY 0),(ZX (.int 2)),(ZC (ZS [(ZC (ZS [(ZX (.int 0)),(ZX (.int 1)),(ZW ZL (ZY 1) (ZX (.int 1))),(ZW ZL (ZY 1) (ZX (.int 2)))]))]))])))
  ZG) ZG)
  (ZV (ZP (ZT (cl "_law_laid") (ZS [(ZY 0),(ZW ZL (ZW ZL (ZY 1) (ZX (.int 1))) (ZX (.int 0)))])) (gN 2))
  (ZV (Ze (Zq (Yi YB (ZW ZL (ZY 1) (ZX (.int 1))) (Yn (ZX (.int 1))) Yc)) (gN 3) (uK cl))
  (ZV (ZF (ZY 2))
  ZG))))
def mh(cl:Nat->ZO):Prop:=∀n,cl (n+1) "_law_laid"=Zy 2 11 (L4 (cl n))
noncomputable def QL(cl:ZO):CS :=
 (ZV (Xd (W2 "list" (XJ W1) (ZY 4) (ZS [(ZT (cl "_law_take") (ZS [(ZY 0),(ZW ZK (ZT Zi (ZS [(ZY 4)])) (ZX (.int 1)))])),(ZT (cl "_law_turned_ends") (ZS [(ZY 5),(ZY 2)]))])))
  ZG)
noncomputable def QK(cl:ZO):CS :=
 (ZV (Xd (W2 "list" (XJ W1) (ZY 2) (ZS [(ZW ZK (ZX (.int 2)) (ZT (cl "_law_take") (ZS [(ZY 0),(ZW (Zw λi j=>i - j) (ZY 3) (ZX (.int 1)))]))),(ZY 3)])))
  ZG)
noncomputable def QJ(cl:ZO):CS :=
 (ZV (ZP (Zr (ZS [(ZX (.int 0)),(ZX (.int 1))])) (gN 2))
  (ZV (Ze (TC (ZS [(ZX (.int 2)),(ZW ZL (ZY 1) (ZX (.int 1)))])) (gN 3) (QK cl))
  (ZV (ZP (Zr (ZS [])) (gN 4))
  (ZV (Ze (Zq (ZW ZL (ZY 1) (ZX (.int 2)))) (gN 5) (QL cl))
  (ZV (ZF (ZC (ZS [(ZW ZL (ZY 1) (ZX (.int 0))),(ZW ZL (ZY 1) (ZX (.int 1))),(ZT XY (ZS [(ZY 4)]))])))
  ZG)))))
def Hg(cl:Nat->ZO):Prop:=∀n,cl (n+1) "_law_mixed"=Zy 2 6 (QJ (cl n))
noncomputable def O9(cl:ZO):CT :=
 (Zt (ZW (Yr Z7) (ZY 0) (ZY 1)))
noncomputable def O8(cl:ZO):C :=
 (ZY 0)
noncomputable def O7(cl:ZO):C :=
 (ZW (Zw λi j=>i - j) (ZT V9 (ZS [(ZY 0)])) (ZY 1))
noncomputable def QI(cl:ZO):CT :=
 (Zt (ZW (Yr Z5) (ZY 1) (ZY 0)))
noncomputable def QH(cl:ZO):C :=
 (ZY 0)
noncomputable def UM(cl:ZO):CS :=
 (ZV (ZP (X1 (Zq (ZY 1)) 1 [3] .one (QI cl) (QH cl)) (gN 4))
  (ZV (YR (Zt (ZW Y8 (ZT Zi (ZS [(ZY 4)])) (ZX (.int 2)))) (ZV (ZP (ZT WD (ZS [(X1 (Zq (ZY 4)) 1 [3] .one (λ_=>ret Z7) (O7 cl))])) (gN 5))
  (ZV (ZP (Q7 (ZS [(ZW ZK (X1 (Zq (ZY 1)) 1 [4] .one (O9 cl) (O8 cl)) (Zr (ZS [(ZT XY (ZS [(ZY 5)]))])))])) (gN 1))
  ZG)) ZG)
  ZG))
noncomputable def R5(cl:ZO):CS :=
 (ZV (ZP (ZY 1) (gN 2))
  (ZV (Ze (TC (ZS [(ZX (.int 2)),(ZW ZL (ZY 0) (ZX (.int 1)))])) (gN 3) (UM cl))
  ZG))
noncomputable def O6(cl:ZO):C :=
 (Yi YB (ZY 0) Yc (Yn (ZX (.int 2))))
noncomputable def QG(cl:ZO):CS :=
 (ZV (ZP (Q7 (ZS [(X1 (Zq (ZW ZL (ZY 0) (ZX (.int 2)))) 1 [] .one (λ_=>ret Z7) (O6 cl))])) (gN 1))
  (ZV (ZP (ZX .non) (gN 2))
  (ZV (WS VX (Zt (ZW XM (ZY 2) (ZY 1))) (R5 cl))
  (ZV (ZF (ZW Y8 (ZY 1) (Zr (ZS [(ZC (ZS [(ZX (.int 0)),(ZX (.int 1))]))]))))
  ZG))))
def Hf(cl:Nat->ZO):Prop:=∀n,cl (n+1) "_law_drawn"=Zy 1 6 (QG (cl n))
noncomputable def O5(cl:ZO):C :=
 (Yi YB (ZY 0) (Yn (ZX (.int 1))) Yc)
noncomputable def O4(cl:ZO):C :=
 (Yi YB (ZY 0) (Yn (ZX (.int 2))) Yc)
noncomputable def Ti(cl:ZO):CS :=
 (ZV (ZP (ZT (cl "tree_of") (ZS [(ZY 0)])) (gN 1))
  (ZV (YR (Wt (YN (ZT (cl "_law_drawn") (ZS [(ZY 0)])))) (ZV (ZF (ZW TM (ZY 1) (ZX .non)))
  ZG) ZG)
  (ZV (YR (Yu (Zt (ZW TM (ZY 1) (ZX .non))) (Wt (Zt (Ux (YM λi j=>decide (i<=j)) (YM λi j=>decide (i<=j)) (ZX (.int 1)) (ZT (cl "_law_counted") (ZS [(ZW ZL (ZY 0) (ZX (.int 0))),(ZY 1)])) (ZX (.int 16)))))) (ZV (ZF (ZX (.bl Z5)))
  ZG) ZG)
  (ZV (YR (Zt (ZW XM (ZT WD (ZS [(X1 (Zq (ZT (cl "_law_leaves") (ZS [(ZY 1)]))) 1 [] .one (λ_=>ret Z7) (O5 cl))])) (ZT WD (ZS [(X1 (Zq (ZW ZL (ZY 0) (ZX (.int 2)))) 1 [] .one (λ_=>ret Z7) (O4 cl))])))) (ZV (ZF (ZX (.bl Z5)))
  ZG) ZG)
  (ZV (ZF (ZW Y8 (ZT (cl "_law_tree_bits") (ZS [(ZW ZL (ZY 0) (ZX (.int 0))),(ZY 1)])) (ZT (cl "_law_function") (ZS [(ZY 0)]))))
  ZG)))))
def He(cl:Nat->ZO):Prop:=∀n,cl (n+1) "_law_right"=Zy 1 2 (Ti (cl n))
noncomputable def Uk(cl:ZO):CS :=
 (ZV (ZP (ZW ZL (ZY 1) (ZX (.int 2))) (gN 2))
  (ZV (ZP (ZT (cl "_law_take") (ZS [(ZY 0),(ZT Zi (ZS [(ZY 2)]))])) (gN 3))
  (ZV (YR (Yu (Zt (ZW Y8 (ZT (cl "_law_take") (ZS [(ZY 0),(ZX (.int 2))])) (ZX (.int 0)))) (Zt (ZW Y8 (ZT Zi (ZS [(ZY 2)])) (ZX (.int 16))))) (ZV (ZF (ZC (ZS [(ZW ZL (ZY 1) (ZX (.int 0))),(ZW ZL (ZY 1) (ZX (.int 1))),(ZW ZK (Yi YB (ZY 2) Yc (Yn (ZY 3))) (Yi YB (ZY 2) (Yn (ZW ZK (ZY 3) (ZX (.int 1)))) Yc))])))
  ZG) ZG)
  (ZV (ZP (ZW ZK (ZT (cl "_law_ends") (ZS [(ZY 0),(ZW ZL (ZY 1) (ZX (.int 1)))])) (ZC (ZS [(ZT (cl "_law_take") (ZS [(ZY 0),(ZW ZL (ZY 1) (ZX (.int 0)))])),(ZT (cl "_law_take") (ZS [(ZY 0),(ZX (.int 2))]))]))) (gN 4))
  (ZV (ZF (ZC (ZS [(ZW ZL (ZY 1) (ZX (.int 0))),(ZW ZL (ZY 1) (ZX (.int 1))),(ZW ZK (ZW ZK (Yi YB (ZY 2) Yc (Yn (ZY 3))) (ZC (ZS [(ZY 4)]))) (Yi YB (ZY 2) (Yn (ZY 3)) Yc))])))
  ZG)))))
def Hd(cl:Nat->ZO):Prop:=∀n,cl (n+1) "_law_bent"=Zy 2 5 (Uk (cl n))
noncomputable def Vd(cl:ZO):CS :=
 (ZV (ZP (ZT (cl "_law_state") (ZS [(ZY 0),(ZY 1)])) (gN 2))
  (ZV (ZP (ZW ZK (ZX (.int 1)) (ZT (cl "_law_take") (ZS [(ZY 2),(ZX (.int 4))]))) (gN 3))
  (ZV (ZP (ZT (cl "_law_laid") (ZS [(ZY 3),(ZT (cl "_law_tree") (ZS [(ZY 2),(ZY 3),(ZW ZL (Zr (ZS [(ZX (.int 4)),(ZX (.int 7)),(ZX (.int 12))])) (ZT (cl "_law_take") (ZS [(ZY 2),(ZX (.int 3))])))]))])) (gN 4))
  (ZV (YR (Zt (ZW Vj (ZW ZL (ZY 4) (ZX (.int 1))) (ZX (.int 8)))) (ZV (ZP (ZT (cl "_law_mixed") (ZS [(ZY 2),(ZY 4)])) (gN 4))
  (ZV (YR (Yu (Wt (YN (ZT (cl "_law_right") (ZS [(ZY 4)])))) (VE (Zt (ZW Y8 (ZT (cl "_law_take") (ZS [(ZY 2),(ZX (.int 3))])) (ZX (.int 0)))) (Wt (YN (ZT (cl "_law_right") (ZS [(ZT (cl "_law_bent") (ZS [(ZY 2),(ZY 4)]))])))))) (ZV (ZF (ZX (.bl Z5)))
  ZG) ZG)
  ZG)) ZG)
  (ZV (YR (Wt (YN (ZT (cl "_law_right") (ZS [(ZT (cl "_law_net") (ZS [(ZY 2),(ZX (.int 4)),(ZX (.int 7)),(ZX (.int 10))]))])))) (ZV (ZF (ZX (.bl Z5)))
  ZG) ZG)
  ZG)))))
noncomputable def QF(cl:ZO):CS :=
 (ZV (YR (Yu (Wt (YN (ZT (cl "_law_right") (ZS [(ZC (ZS [(ZX (.int 1)),(ZX (.int 2)),(ZC (ZS []))]))])))) (Yu (Wt (YN (ZT (cl "_law_right") (ZS [(ZC (ZS [(ZX (.int 1)),(ZX (.int 3)),(ZC (ZS [(ZC (ZS [(ZX (.int 0)),(ZX (.int 1)),(ZX (.int 0)),(ZX (.int 1))]))]))]))])))) (Wt (YN (ZT (cl "_law_right") (ZS [(ZC (ZS [(ZX (.int 1)),(ZX (.int 3)),(ZC (ZS [(ZC (ZS [(ZX (.int 0)),(ZX (.int 2)),(ZX (.int 0)),(ZX (.int 1))]))]))]))])))))) (ZV (ZF (ZX (.bl Z5)))
  ZG) ZG)
  (ZV (Ze (VY (ZS [(ZT Xq (ZS [(ZX (.int 1)),(ZT XF (ZS [(ZT Zi (ZS [(ZY 0)])),(ZX (.int 8))]))]))])) (gN 1) (Vd cl))
  (ZV (ZF (ZX (.bl Z7)))
  ZG)))
def uJ(cl:Nat->ZO):Prop:=∀n,cl (n+1) "law"=Zy 1 5 (QF (cl n))
noncomputable def L3(cl:ZO):CS :=
 (ZV (YR (YN (ZW ZL (ZY 0) (ZX (.int 1)))) (ZV (ZP (ZW Yt (ZW ZL (ZY 0) (ZX (.int 0))) (ZY 1)) (gN 2))
  (ZV (ZP (ZW W3 (ZW ZL (ZY 0) (ZX (.int 0))) (ZY 1)) (gS (ZY 0) (ZX (.int 0))))
  (ZV (ZF (ZY 2))
  ZG))) ZG)
  (ZV (ZP (ZW Yt (ZW ZK (ZW Ym (ZW ZL (ZY 0) (ZX (.int 0))) (ZX (.int 48271))) (ZX (.int 29))) (ZX (.int 2147483647))) (gS (ZY 0) (ZX (.int 0))))
  (ZV (ZP (ZW Yt (ZW ZK (ZW ZK (ZW Ym (ZW ZL (ZY 0) (ZX (.int 0))) (ZW ZL (ZY 0) (ZX (.int 0)))) (ZW Ym (ZX (.int 39373)) (ZW ZL (ZY 0) (ZX (.int 0))))) (ZX (.int 7))) (ZX (.int 2147483629))) (gN 3))
  (ZV (ZP (ZW Yt (ZW ZK (ZW Ym (ZY 3) (ZY 3)) (ZW Ym (ZX (.int 16807)) (ZY 3))) (ZX (.int 2147483587))) (gN 3))
  (ZV (ZF (ZW Yt (ZW W3 (ZY 3) (ZX (.int 8))) (ZY 1)))
  ZG)))))
def Th(cl:Nat->ZO):Prop:=∀n,cl (n+1) "_law_take"=Zy 2 4 (L3 (cl n))
noncomputable def QE(cl:ZO):CS :=
 (ZV (Xd (W2 "list" (XJ W1) (ZY 11) (ZS [(ZT (cl "_law_take") (ZS [(ZY 0),(ZW ZK (ZT Zi (ZS [(ZY 11)])) (ZX (.int 1)))])),(ZY 12)])))
  ZG)
noncomputable def O0(cl:ZO):CS :=
 (ZV (Xd (W2 "list" (XJ VZ) (ZY 6) (ZS [(ZW ZK (ZT (cl "_law_ends") (ZS [(ZY 0),(ZY 5)])) (ZC (ZS [(ZT (cl "_law_take") (ZS [(ZY 0),(ZY 4)])),(ZT (cl "_law_take") (ZS [(ZY 0),(ZX (.int 2))]))])))])))
  ZG)
noncomputable def L1(cl:ZO):CS :=
 (ZV (Xd (W2 "list" (XJ VZ) (ZY 6) (ZS [(ZC (ZS [(ZT XF (ZS [(ZY 8),(ZY 9)])),(ZT Xq (ZS [(ZY 8),(ZY 9)])),(ZT (cl "_law_take") (ZS [(ZY 0),(ZY 4)])),(ZT (cl "_law_take") (ZS [(ZY 0),(ZX (.int 2))]))]))])))
  ZG)
noncomputable def OZ(cl:ZO):CS :=
 (ZV (ZP (ZW ZK (ZX (.int 1)) (ZT (cl "_law_take") (ZS [(ZY 0),(ZY 1)]))) (gN 4))
  (ZV (ZP (ZW ZK (ZX (.int 2)) (ZT (cl "_law_take") (ZS [(ZY 0),(ZW (Zw λi j=>i - j) (ZY 2) (ZX (.int 1)))]))) (gN 5))
  (ZV (ZP (Zr (ZS [])) (gN 6))
  (ZV (ZP (ZW ZK (ZW ZK (Zr (ZS [(ZX (.int 0))])) (ZT Xa (ZS [(ZX (.int 2)),(ZY 5)]))) (Zr (ZS [(ZX (.int 1))]))) (gN 7))
  (ZV (YR (VE (Zt (ZW Y8 (ZT (cl "_law_take") (ZS [(ZY 0),(ZX (.int 2))])) (ZX (.int 0)))) (Zt (ZW (YM λi j=>decide (i<=j)) (ZW (Zw λi j=>i - j) (ZY 5) (ZX (.int 1))) (ZY 3)))) (ZV (Ze (Ra (ZS [(ZY 7),(Yi YB (ZY 7) (Yn (ZX (.int 1))) Yc)])) (gT [(gN 8),(gN 9)]) (L1 cl))
  ZG) ZG)
  (ZV (Ze (VY (ZS [(ZT (cl "_law_take") (ZS [(ZY 0),(ZW ZK (ZW (Zw λi j=>i - j) (ZY 3) (ZT Zi (ZS [(ZY 6)]))) (ZX (.int 1)))]))])) (gN 10) (O0 cl))
  (ZV (ZP (Zr (ZS [])) (gN 11))
  (ZV (Ze (Zq (ZY 6)) (gN 12) (QE cl))
  (ZV (ZF (ZC (ZS [(ZY 4),(ZY 5),(ZT XY (ZS [(ZY 11)]))])))
  ZG)))))))))
def Hc(cl:Nat->ZO):Prop:=∀n,cl (n+1) "_law_net"=Zy 4 13 (OZ (cl n))
noncomputable def R3(cl:ZO):C :=
 (ZT (cl "_law_turned_ends") (ZS [(ZY 0),(ZY 1)]))
noncomputable def R1(cl:ZO):C :=
 (ZT (cl "_law_turned_ends") (ZS [(ZY 0),(ZY 1)]))
noncomputable def Tf(cl:ZO):C :=
 (ZW (Zw λi j=>i - j) (ZW ZK (ZY 0) (ZY 1)) (ZX (.int 2)))
noncomputable def Uj(cl:ZO):CS :=
 (ZV (ZP (ZT (cl "_law_laid") (ZS [(ZY 0),(ZY 3)])) (gN 4))
  (ZV (ZP (ZC (ZS [(ZW ZL (ZY 2) (ZX (.int 1))),(ZW ZL (ZY 4) (ZX (.int 1)))])) (gT [(gN 5),(gN 6)]))
  (ZV (ZP (ZT Xa (ZS [(ZY 5)])) (gN 7))
  (ZV (ZP (ZW ZK (Zr (ZS [(ZX (.int 0)),(ZX (.int 1))])) (X1 (TC (ZS [(ZX (.int 2)),(ZY 6)])) 1 [5] .one (λ_=>ret Z7) (Tf cl))) (gN 8))
  (ZV (ZP (ZW (Zw λi j=>i - j) (ZW ZK (ZY 5) (ZY 6)) (ZX (.int 2))) (gN 9))
  (ZV (YR (Zt (ZW Y8 (ZW ZL (ZY 1) (ZX (.int 0))) (ZX (.str (Str.ofString "row"))))) (ZV (ZP (ZY 9) (gS (ZY 7) (ZX (.int 1))))
  (ZV (ZP (ZY 9) (gS (ZY 8) (ZX (.int 0))))
  (ZV (ZP (ZW ZK (ZY 9) (ZX (.int 1))) (gN 9))
  ZG))) ZG)
  (ZV (ZP (ZW ZK (X1 (Zq (ZW ZL (ZY 2) (ZX (.int 2)))) 1 [7] .one (λ_=>ret Z7) (R3 cl)) (X1 (Zq (ZW ZL (ZY 4) (ZX (.int 2)))) 1 [8] .one (λ_=>ret Z7) (R1 cl))) (gN 10))
  (ZV (ZP (ZC (ZS [(ZY 0),(ZY 9),(ZT XY (ZS [(ZY 10)]))])) (gN 2))
  ZG))))))))
noncomputable def QD(cl:ZO):CS :=
 (ZV (YR (Zt (ZW Y8 (ZW ZL (ZY 1) (ZX (.int 0))) (ZX (.str (Str.ofString "at"))))) (ZV (ZF (ZC (ZS [(ZY 0),(ZX (.int 2)),(ZC (ZS [(ZC (ZS [(ZX (.int 0)),(ZX (.int 1)),(ZW ZL (ZY 1) (ZX (.int 1))),(ZW ZL (ZY 1) (ZX (.int 2)))]))]))])))
  ZG) ZG)
  (ZV (ZP (ZT (cl "_law_laid") (ZS [(ZY 0),(ZW ZL (ZW ZL (ZY 1) (ZX (.int 1))) (ZX (.int 0)))])) (gN 2))
  (ZV (Ze (Zq (Yi YB (ZW ZL (ZY 1) (ZX (.int 1))) (Yn (ZX (.int 1))) Yc)) (gN 3) (Uj cl))
  (ZV (ZF (ZY 2))
  ZG))))
def Hb(cl:Nat->ZO):Prop:=∀n,cl (n+1) "_law_laid"=Zy 2 11 (QD (cl n))
variable {cl:Nat->ZO}
theorem uI(h:Mi cl)(n:Nat)(ns:yA)(k:Int)(hk:0<=k)(S:ZU):∃c,cl (n+1) "_law_cell_at" [.rol (ns.map D.int),.int k] S=.ok (.int c) S:=by
 by_cases a:k<ns.length
 ·refine⟨ns[k.toNat]'(by omega),?_⟩;have e:XZ (ns.map D.int) k=Z9 (.int (ns[k.toNat]'(by omega))):=by have q:=VM (xs:=ns.map D.int) (j:=k.toNat) (v:=.int (ns[k.toNat]'(by omega))) (by rw[qB3,qA4 (by omega)];rfl);rw[show((k.toNat:Nat):Int)=k by omega]at q;exact q
  rw[h];refine Y7 rfl ?_;simp[QS,Y1,a,e]
 ·refine⟨0,?_⟩;rw[h];refine Y7 rfl ?_;simp[QS,Y1,a]
def Zu(S:ZU)(i:Nat):Prop:=∃s b,ZH S i=Z9 [.int s,.bl b]/\(b=Z5->0<=s/\s<2147483647)
theorem Zu.lt(h:Zu S i):i<S.length:=by obtain⟨s,b,e,_⟩:=h;exact Tu e
theorem Zu.ex(h:Zu S i)(e:Ex S a):Zu a i:=by obtain⟨s,b,q,r⟩:=h;exact⟨s,b,e.lst q (λz=>z),r⟩
theorem Zu.kp(h:Zu S i)(e:Kp P S a)(n:¬P i):Zu a i:=by obtain⟨s,b,q,r⟩:=h;exact⟨s,b,e.lst q n,r⟩
theorem uH(h:Hm cl)(e:Mi cl)(n:Nat)(ns:yA)(k:Int)(hk:0<=k)(S:ZU):∃a,cl (n+2) "_law_state" [.rol (ns.map D.int),.int k] S=.ok (.lst S.length) a/\Ex S a/\Zu a S.length:=by
 obtain⟨c,d⟩:=uI e n ns k hk S;rw[show n+2=(n+1)+1 from rfl,h];by_cases b:(1000000000000000000:Int)<=c
 ·refine⟨S++[.lst [.int (c - 1000000000000000000),.bl Z7]],Y7 rfl ?_,Zn _ _,_,_,Zh _ _,λz=>by cases z⟩;simp[QR,Y1,d,b]
 ·refine⟨S++[.lst [.int (c % 2147483647),.bl Z5]],Y7 rfl ?_,Zn _ _,_,_,Zh _ _,λ_=>⟨qJ7 _ (by decide),qI3 _ (by decide)⟩⟩;simp[QR,Y1,d,b]
theorem QC(a:-18446744073709551616<j)(b:j<18446744073709551616):VC i j=Z7:=by unfold VC;simp[a,b]
@[simp]theorem mf:Ww 2 0=Z9 0:=rfl
inductive uG(c:ZO)(S:ZU)(i:Nat)(m:Int):Prop
 |mk (r:Int) (S1:ZU) (e:c "_law_take" [.lst i,.int m] S=.ok (.int r) S1) (a:0<=r) (b:r<m) (k:Kp (·=i) S S1) (l:S1.length=S.length) (st:Zu S1 i)
theorem Yh(h:Th cl)(n:Nat)(l:Zu S i)(c:0<m)(j:m<1073741824):uG (cl (n+1)) S i m:=by
 obtain⟨s,b,a,p⟩:=l;have d:=W9 a;cases b with
 |true =>
  refine⟨s % m,S.set i (.lst [.int (s / m),.bl Z7]),?_,qJ7 _ (by omega),qI3 _ c,Up _ _,by simp,⟨_,_,V7 a,λz=>by cases z⟩⟩;rw[h];refine Y7 rfl ?_;simp[L3,Y1,d,c,j,Ts a]
 |false =>
  obtain⟨A,v⟩:=p rfl;generalize hz:(s*48271+29) % 2147483647=z;have e:0<=z:=by rw[<- hz];exact qJ7 _ (by decide)
  have g:z<2147483647:=by rw[<- hz];exact qI3 _ (by decide)
  generalize hy:(z*z+39373*z+7) % 2147483629=y;have u:0<=y:=by rw[<- hy];exact qJ7 _ (by decide)
  have w:y<2147483629:=by rw[<- hy];exact qI3 _ (by decide)
  generalize hx:(y*y+16807*y) % 2147483587=x;refine⟨x / 8 % m,S.set i (.lst [.int z,.bl Z5]),?_,qJ7 _ (by omega),qI3 _ c,Up _ _,by simp,⟨_,_,V7 a,λ_=>⟨e,g⟩⟩⟩;rw[h];refine Y7 rfl ?_;have t:=W9 (V7 (ys:=[.int z,.bl Z5]) a);have r:VC s 48271=Z7:=QC (by decide) (by decide);have q:VC z z=Z7:=QC (by omega) (by omega);have k:VC 39373 z=Z7:=QC (by omega) (by omega);have f:VC y y=Z7:=QC (by omega) (by omega);have o:VC 16807 y=Z7:=QC (by omega) (by omega);simp[L3,Y1,d,Ts a,r,hz,t,q,k,hy,f,o,hx,c]
structure Ct where
 a:Int
 b:Int
 k:Int
 o:Int
 deriving DecidableEq
abbrev yN:=List Ct
noncomputable def Ct.d(c:Ct):D:=.tup [.int c.a,.int c.b,.int c.k,.int c.o]
def Ct.ok(sw pl:Int)(c:Ct):Prop:=0<=c.a/\c.a<c.b/\c.b<pl/\0<=c.k/\c.k<sw/\0<=c.o/\c.o<2
structure Zx where
 sw:Int
 pl:Int
 cs:yN
noncomputable def Zx.d(n:Zx):D:=.tup [.int n.sw,.int n.pl,.tup (n.cs.map Ct.d)]
structure Zx.ok(ms mp mc:Int)(n:Zx):Prop where
 s1:1<=n.sw
 s2:n.sw<=ms
 p1:2<=n.pl
 p2:n.pl<=mp
 c1:(n.cs.length:Int)<=mc
 c2:∀c∈n.cs,c.ok n.sw n.pl
theorem Ui{xs ys:yM}(b:ZH S n=Z9 xs)(a:ZH S m=Z9 ys)(h:xs.length+ys.length<=lim):ZK (.lst n) (.lst m) S=.ok (.lst S.length) (S++[.lst (xs++ys)]):=by show(match S[n]?,S[m]? with|some (O.lst xs),Z9 (O.lst ys)=>(if xs.length+ys.length<=lim then R.ok (D.lst S.length) (S++[O.lst (xs++ys)])else .bad)| _,_=>.bad)=_;rw[Vi b,Vi a];dsimp only;rw[if_pos h]
noncomputable def Zk(n:Int):yA:=[0]++((List.range (n - 2).toNat).map fun(k:Nat)=>(2:Int)+(k:Nat))++[1]
noncomputable def Zj(n i:Int):Int:=if i=0 then 0 else if i=n - 1 then 1 else i+1
theorem LZ(a:2<=n):(Zk n).length=n.toNat:=by unfold Zk;simp;omega
theorem Ha{i:Nat}(d:2<=n)(c:(i:Int)<n):(Zk n)[i]?=Z9 (Zj n i):=by
 unfold Zk Zj;by_cases b:i=0
 ·subst b;simp
 ·rw[if_neg (by omega)];by_cases a:(i:Int)=n - 1
  ·rw[if_pos a,qA3 (by simp;omega)];have:i - ([0]++((List.range (n - 2).toNat).map fun(k:Nat)=>(2:Int)+(k:Nat))).length=0:=by simp;omega
   rw[this];rfl
  ·rw[if_neg a,qB0 (by simp;omega),qA3 (by simp;omega)];simp only[qC7,qG4,qB3];rw[qH0 (by omega)];simp;omega
theorem G9(a:2<=n)(c:0<=i)(b:i<n):XZ ((Zk n).map D.int) i=Z9 (.int (Zj n i)):=by have q:=VM (xs:=(Zk n).map D.int) (j:=i.toNat) (v:=.int (Zj n i.toNat)) (by rw[qB3,Ha a (by omega)];rfl);rw[show((i.toNat:Nat):Int)=i by omega]at q;exact q
theorem OY(b:2<=n)(c:0<=i)(a:i<n):0<=Zj n i/\Zj n i<n:=by unfold Zj;split<;>(try split)<;>omega
theorem G8(c:2<=n)(d:0<=i)(a:i<j)(b:j<n):Zj n i≠Zj n j:=by unfold Zj;split<;>split<;>(try split)<;>(try split)<;>omega
theorem Te{x y n:Int}(a:0<=x/\x<n)(b:0<=y/\y<n)(h:x≠y):0<=(if y<x then y else x)/\(if y<x then y else x)<(if y>x then y else x)/\(if y>x then y else x)<n:=by split<;>split<;>omega
theorem Uh(a:Int)(n:Nat):(Zd a n).length=n:=by unfold Zd;simp
theorem Vw:lim=1048576:=rfl
theorem G7(e:B[j]?=Z9 (Z9 (.int n)))(h:2<=n)(i:n<=7)(S:ZU):∃k a,ZW ZK (ZW ZK (Zr (ZS [(ZX (.int 0))])) (ZT Xa (ZS [(ZX (.int 2)),(ZY j)]))) (Zr (ZS [(ZX (.int 1))])) B S=.ok (.lst k) a/\Ex S a/\S.length<=k/\ZH a k=Z9 ((Zk n).map D.int):=by
 have b:Xa [.int 2,.int n] (S++[O.lst [D.int 0]])=.ok (.lst (S++[O.lst [D.int 0]]).length) (S++[O.lst [D.int 0]]++[.lst (Zd 2 (n - 2).toNat)]):=by unfold Xa;dsimp only;rw[if_pos (by omega)]
 generalize hA:S++[O.lst [D.int 0]]++[O.lst (Zd 2 (n - 2).toNat)]=A at b;have g:ZH A S.length=Z9 [.int 0]:=by rw[<- hA];exact Mr (Zh _ _)
 have f:ZH A (S++[O.lst [D.int 0]]).length=Z9 (Zd 2 (n - 2).toNat):=by rw[<- hA];exact Zh _ _
 have c:=Ui g f (by rw[Uh,Vw];simp;omega);generalize hB:A++[O.lst ([D.int 0]++Zd 2 (n - 2).toNat)]=BB at c;have b1:ZH (BB++[O.lst [D.int 1]]) A.length=Z9 ([D.int 0]++Zd 2 (n - 2).toNat):=by rw[<- hB];exact Mr (Zh _ _)
 have d:=Ui b1 (Zh BB [D.int 1]) (by rw[qB8,Uh,Vw];simp;omega);refine⟨(BB++[O.lst [D.int 1]]).length,(BB++[O.lst [D.int 1]])++[O.lst ([D.int 0]++Zd 2 (n - 2).toNat++[D.int 1])],?_,?_,?_,?_⟩
 ·simp only[Hz,Hx,Hy,Ms,HA,Xy,vh,Mu,e,b,c,d]
 ·have:Ex S A:=by rw[<- hA];exact(Zn _ _).trans (Zn _ _)
  have:Ex S BB:=by rw[<- hB];exact this.trans (Zn _ _)
  exact(this.trans (Zn _ _)).trans (Zn _ _)
 ·rw[qB8,<- hB,qB8,<- hA];simp;omega
 ·rw[Zh];congr 1;unfold Zk Zd;simp
inductive uF(c:ZO)(S:ZU)(i:Nat)(pl:Int):Prop
 |mk (x y:Int) (S1:ZU) (e:c "_law_ends" [.lst i,.int pl] S=.ok (.tup [.int x,.int y]) S1) (h0:0<=x) (h1:x<y) (h2:y<pl) (k:Kp (·=i) S S1) (st:Zu S1 i)
theorem G6(h:Pj cl)(ht:Th cl)(n:Nat)(H:Zu S i)(b:2<=pl)(R:pl<=7):uF (cl (n+2)) S i pl:=by
 obtain⟨k,Y,J,z,hk,Q⟩:=G7 (B:=[Z9 (.lst i),Z9 (.int pl),Z8,Z8,Z8]) (j:=1) rfl b R S;have v:=H.ex z;have e:k≠i:=by have:=H.lt;omega
 obtain⟨one,X,G,Z,o1,u,n2,g⟩:=Yh ht n v (m:=pl - 1) (by omega) (by omega);obtain⟨K,o,C,W,c1,s,n3,c⟩:=Yh ht n g (m:=3) (by omega) (by omega);have I:ZH o k=Z9 ((Zk pl).map D.int):=s.lst (u.lst Q e) e;have d:∀(other:Int) (a:ZU),one<other->other<pl->ZH a k=Z9 ((Zk pl).map D.int)->∀x y,x=(if Zj pl other<Zj pl one then Zj pl other else Zj pl one)->y=(if Zj pl other>Zj pl one then Zj pl other else Zj pl one) ->
   (ZL (.lst k) (.int one) a=.ok (.int (Zj pl one)) a/\ZL (.lst k) (.int other) a=.ok (.int (Zj pl other)) a)/\0<=x/\x<y/\y<pl:=by intro other a O P E x y ex T;obtain⟨N,U,M⟩:=Te (OY b (i:=one) (by omega) (by omega)) (OY b (i:=other) (by omega) (by omega)) (G8 b (by omega) O P);subst ex T;exact⟨⟨by rw[W9 E,G9 b (by omega) (by omega)],by rw[W9 E,G9 b (by omega) (by omega)]⟩,N,U,M⟩
 by_cases F:K=0
 ·obtain⟨r,a,L,r0,r1,A,V,w⟩:=Yh ht n c (m:=pl - 1 - one) (by omega) (by omega);obtain⟨⟨f,p⟩,l,t,q⟩:=d (one+1+r) a (by omega) (by omega) (A.lst I e) _ _ rfl rfl;refine⟨_,_,a,?_,l,t,q,(z.kp.trans u).trans (s.trans A),w⟩;rw[show n+2=(n+1)+1 from rfl,h];refine Y7 rfl ?_;simp[QQ,Y1,↓J,G,C,F,L,f,p]
 ·obtain⟨⟨f,p⟩,l,t,q⟩:=d (one+1) o (by omega) (by omega) I _ _ rfl rfl;refine⟨_,_,o,?_,l,t,q,(z.kp.trans u).trans s,c⟩;rw[show n+2=(n+1)+1 from rfl,h];refine Y7 rfl ?_;simp[QQ,Y1,↓J,G,C,F,f,p]
theorem _root_.L2.Kp.setNew{P:Nat->Prop}{a S:ZU}{l:Nat}{o:O}(h:Kp P a S)(c:a.length<=l):Kp P a (S.set l o) :=
 ⟨by rw[qK8];exact h.le,λj b n=>by rw[qD7 (by omega)];exact h.eq j b n⟩
theorem Zu.setO(h:Zu S i)(a:l≠i):Zu (S.set l o) i:=by obtain⟨s,b,q,r⟩:=h;exact⟨s,b,QU (by rw[qD7 a];exact Vi q),r⟩
theorem OX{xs:yM}(h:ZH S i=Z9 xs)(a:l≠i):ZH (S.set l o) i=Z9 xs:=QU (by rw[qD7 a];exact Vi h)
@[simp]theorem QB:(Zd a n)[i]?=Z9 d↔i<n/\d=.int (a+i):=by
 unfold Zd;rw[qB3];by_cases h:i<n
 ·rw[qH0 h];simp[h,eq_comm]
 ·rw[qJ8 (by simpa using h)];simp[h]
structure Rows(S0 S:ZU)(i l:Nat)(sw pl:Int)(cs:yN):Prop where
 at':ZH S l=Z9 (cs.map Ct.d)
 ok:∀c∈cs,c.ok sw pl
 st:Zu S i
 kp:Kp (·=i) S0 S
 ge:S0.length<=l
 ne:l≠i
theorem Rows.put(h:Rows b S i l sw pl cs)(k:Kp (·=i) S a)(st:Zu a i)(d:∀c∈ds,c.ok sw pl):Rows b (a.set l (.lst (ds.map Ct.d))) i l sw pl ds :=
 ⟨V7 (k.lst h.at' h.ne),d,st.setO h.ne,(h.kp.trans k).setNew h.ge,h.ge,h.ne⟩
theorem Rows.go(h:Rows b S i l sw pl cs)(k:Kp (·=i) S a)(st:Zu a i):Rows b a i l sw pl cs:=⟨k.lst h.at' h.ne,h.ok,st,h.kp.trans k,h.ge,h.ne⟩
noncomputable def nE(i:Nat)(ms mp mc sw pl:Int)(l:Nat)(a b c d e f:Option D):ZR:=[Z9 (.lst i),Z9 (.int ms),Z9 (.int mp),Z9 (.int mc),Z9 (.int sw),Z9 (.int pl),Z9 (.lst l),a,b,c,d,e,f]
inductive LY(S:ZU)(i:Nat)(ms mp mc:Int)(N:Zx)(S1:ZU):Prop
 |mk (ok:N.ok ms mp mc) (k:Kp (·=i) S S1) (st:Zu S1 i)
inductive LX(r:RS)(S:ZU)(i:Nat)(ms mp mc:Int):Prop
 |mk (N:Zx) (S1:ZU) (e:r=.rt N.d S1) (p:LY S i ms mp mc N S1)
inductive zTT(r:R D)(S:ZU)(i:Nat)(ms mp mc:Int):Prop
 |mk (N:Zx) (S1:ZU) (e:r=.ok N.d S1) (ok:N.ok ms mp mc) (k:Kp (·=i) S S1) (st:Zu S1 i)
inductive uE(S0:ZU)(i l:Nat)(ms mp mc sw pl:Int)(v7 v8 v9 v10:Option D)(m:Nat)(cs:yN)(j:Nat)(B:ZR)(S':ZU):Prop
 |mk (v12:Option D) (ds:yN) (e:B=nE i ms mp mc sw pl l v7 v8 v9 v10 (Z9 (.lst m)) v12) (Rl:Rows S0 S' i l sw pl cs) (Rd:Rows S0 S' i m sw pl ds) (h:ds.length=j)
inductive uD(S0:ZU)(i l:Nat)(ms mp mc sw pl:Int)(v7 v8 v9:Option D)(n0:Nat)(j:Nat)(B:ZR)(S':ZU):Prop
 |mk (v10:Option D) (ds:yN) (e:B=nE i ms mp mc sw pl l v7 v8 v9 v10 Z8 Z8) (R:Rows S0 S' i l sw pl ds) (h:ds.length=n0+j)
inductive uC(S0:ZU)(i l:Nat)(ms mp mc sw pl:Int)(kr t:Nat)(j:Nat)(B:ZR)(S':ZU):Prop
 |mk (v8 v9:Option D) (ds:yN) (e:B=nE i ms mp mc sw pl l (Z9 (.lst kr)) v8 v9 Z8 Z8 Z8) (R:Rows S0 S' i l sw pl ds) (h:ds.length=j) (q1:ZH S' kr=Z9 ((Zk pl).map D.int)) (q2:ZH S' t=Z9 (((Zk pl).drop 1).map D.int))
theorem LW(h:Hc cl)(he:Pj cl)(ht:Th cl)(n:Nat)(hS:Zu S i)(hms:1<=ms/\ms<=4)(hmp:2<=mp/\mp<=7)(hmc:0<=mc/\mc<=16):zTT (cl (n+3) "_law_net" [.lst i,.int ms,.int mp,.int mc] S) S i ms mp mc:=by
 obtain⟨r1,S1,e1,a1,b1,k1,n1,st1⟩:=Yh ht (n+1) hS (m:=ms) (by omega) (by omega);obtain⟨r2,S2,e2,a2,b2,k2,n2,st2⟩:=Yh ht (n+1) st1 (m:=mp - 1) (by omega) (by omega);generalize hsw:1+r1=sw at *;generalize hpl:2+r2=pl at *;have w1:1<=sw:=by omega
 have w2:sw<=ms:=by omega
 have E:2<=pl:=by omega
 have p2:pl<=mp:=by omega
 have kS2:Kp (·=i) S S2:=k1.trans k2;have hl:S.length<=S2.length:=kS2.le;have li:S2.length≠i:=by have:=hS.lt;omega
 obtain⟨H,S4,e4,x4,hk4,l4⟩:=G7 (B:=nE i ms mp mc sw pl S2.length Z8 Z8 Z8 Z8 Z8 Z8) (j:=5) rfl E (by omega) (S2++[.lst []]);have kri:H≠i:=by have:=hS.lt;simp at hk4;omega
 have krl:H≠S2.length:=by simp at hk4;omega
 have R4:Rows S S4 i S2.length sw pl []:=⟨x4.lst (Zh _ _) (λz=>z),(λc l=>by cases l),(st2.ex (Zn _ _)).ex x4,kS2.trans ((Zn S2 [.lst []]).trans x4).kp,hl,li⟩
 have fin:∀(cs:yN) (a:ZU) (F s p k:Option D),Rows S a i S2.length sw pl cs->(cs.length:Int)<=mc ->
   LX ((ZV (ZP (Zr (ZS [])) (gN 11)) (ZV (Ze (Zq (ZY 6)) (gN 12) (QE (cl (n+2)))) (ZV (ZF (ZC (ZS [(ZY 4),(ZY 5),(ZT XY (ZS [(ZY 11)]))]))) ZG))) (nE i ms mp mc sw pl S2.length F s p k Z8 Z8) a) S i ms mp mc:=by
  intro cs a F s p k o l;have hm:S.length<=a.length:=o.kp.le;have mi:a.length≠i:=by have:=hS.lt;omega
  have ml:S2.length≠a.length:=by have:=Tu o.at';omega
  have Rm:Rows S (a++[.lst []]) i S2.length sw pl cs:=o.go (Zn _ _).kp (o.st.ex (Zn _ _));obtain⟨B',S6,e6,v12,ds,hB,I,Rd,f⟩:=VW (w:=[(S2.length,cs.map Ct.d)]) (g:=gN 12) (b:=QE (cl (n+2))) (items:=cs.map Ct.d)
   (uE S i S2.length ms mp mc sw pl F s p k a.length cs)
   (B:=nE i ms mp mc sw pl S2.length F s p k (Z9 (.lst a.length)) Z8) (S:=a++[.lst []])
   (λj B S' C=>by obtain⟨_,_,_,q,_⟩:=C;exact Vh q.at')
   ⟨Z8,[],rfl,Rm,⟨Zh _ _,(λc l=>by cases l),Rm.st,Rm.kp,hm,mi⟩,rfl⟩
   (λj d B S' f C=>by
    obtain⟨v12,ds,rfl,I,Rd,hj⟩:=C;rw[qB3]at f;obtain⟨c,hc1,rfl⟩:=qA5.mp f;have cok:=o.ok c (qC0 hc1);have jl:j<cs.length:=(qA7.mp hc1).1;obtain⟨r,S7,A,r0,r9,k7,n7,st7⟩:=Yh ht (n+1) I.st (m:=((ds.map Ct.d).length:Int)+1) (by omega) (by rw[qA0];omega);rw[qA0]at A r9;have hins:∀c'∈ds.take r.toNat++c::ds.drop r.toNat,c'.ok sw pl:=λc' hc'=>by
     rcases qB7.mp hc' with q|q
     ·exact Rd.ok c' (qG6 q)
     ·rcases qA8.mp q with q|q
      ·subst q;exact cok
      ·exact Rd.ok c' (qI9 q)
    have Rd7:=Rd.put k7 st7 hins;have Rl7:Rows S (S7.set a.length (.lst ((ds.take r.toNat++c::ds.drop r.toNat).map Ct.d))) i S2.length sw pl cs:=⟨OX (k7.lst I.at' I.ne) (Ne.symm ml),I.ok,st7.setO Rd.ne,(I.kp.trans k7).setNew Rd.ge,I.ge,I.ne⟩
    refine⟨_,_,rfl,_,_,.inl ?_,⟨Z9 c.d,ds.take r.toNat++c::ds.drop r.toNat,rfl,Rl7,Rd7,by simp;omega⟩⟩;have Z:=Uo Rd.at';have G:=Sf Rd.at';have J:=Tt (k7.lst Rd.at' Rd.ne) W1 [.int r,c.d];have q4:ds.length<1000/\0<=r/\r.toNat<=ds.length:=by omega
    simp[nE,QE,Z,G,A,J,q4])
  subst hB;refine⟨⟨sw,pl,ds⟩,S6,?_,⟨⟨w1,w2,E,p2,by show(ds.length:Int)<=mc;rw[f,qA0];exact l,Rd.ok⟩,Rd.kp,Rd.st⟩⟩;have q5:ZH (a++[O.lst []]) S2.length=Z9 (cs.map Ct.d):=Rm.at';have q6:=Uq Rd.at';unfold nE at e6 ⊢;simp[q5,e6,q6,Zx.d]
 have mid:∀(cs:yN) (a:ZU) (F s p:Option D),Rows S a i S2.length sw pl cs->(cs.length:Int)<=mc ->
   LX ((ZV (Ze (VY (ZS [(ZT (cl (n+2) "_law_take") (ZS [(ZY 0),(ZW ZK (ZW (Zw λi j=>i - j) (ZY 3) (ZT Zi (ZS [(ZY 6)]))) (ZX (.int 1)))]))])) (gN 10) (O0 (cl (n+2))))
    (ZV (ZP (Zr (ZS [])) (gN 11)) (ZV (Ze (Zq (ZY 6)) (gN 12) (QE (cl (n+2)))) (ZV (ZF (ZC (ZS [(ZY 4),(ZY 5),(ZT XY (ZS [(ZY 11)]))]))) ZG)))) (nE i ms mp mc sw pl S2.length F s p Z8 Z8 Z8) a) S i ms mp mc:=by
  intro cs a F s p o l;obtain⟨r,S6,e6,r0,r9,k6,n6,st6⟩:=Yh ht (n+1) o.st (m:=mc - ((cs.map Ct.d).length:Int)+1) (by rw[qA0];omega) (by omega);rw[qA0]at e6 r9;have R6:=o.go k6 st6;obtain⟨B',S7,A,k,ds,hB,Rd,f⟩:=VW (w:=[]) (g:=gN 10) (b:=O0 (cl (n+2))) (items:=Zd 0 r.toNat)
   (uD S i S2.length ms mp mc sw pl F s p cs.length)
   (λj B S' C=>X5 _) ⟨Z8,cs,rfl,R6,rfl⟩
   (λj d B S' f C=>by
    obtain⟨k,ds,rfl,R,hj⟩:=C;rw[QB]at f;obtain⟨hjr,rfl⟩:=f;obtain⟨x,y,S8,e8,x0,xy,yp,k8,st8⟩:=G6 he ht n R.st E (by omega);obtain⟨L,S9,e9,a3,b3,k9,n9,P⟩:=Yh ht (n+1) st8 (m:=sw) (by omega) (by omega);obtain⟨Q,S10,V,a4,b4,U,n10,v⟩:=Yh ht (n+1) P (m:=2) (by omega) (by omega);have M:=(k8.trans k9).trans U;have W:∀c∈ds++[⟨x,y,L,Q⟩],Ct.ok sw pl c:=λc l=>by
     rcases qB7.mp l with q|q
     ·exact R.ok c q
     ·simp at q;subst q;exact⟨x0,xy,yp,a3,b3,a4,b4⟩
    have Rd:=R.put M v W;refine⟨_,_,rfl,_,_,.inl ?_,⟨Z9 (.int (0+(j:Int))),ds++[⟨x,y,L,Q⟩],rfl,Rd,by simp;omega⟩⟩;have Z:=Uo R.at';have G:=Tt (M.lst R.at' R.ne) VZ [Ct.d ⟨x,y,L,Q⟩];have J:ds.length<lim:=by rw[Vw];omega
    have q4:(2:Nat)+2<=lim:=by decide
    simp[nE,O0,Z,e8,e9,V,Ct.d,q4]at G ⊢;simp[G,J])
  subst hB;obtain⟨N,u,e,t⟩:=fin ds S7 F s p k Rd (by rw[f,Uh];omega);refine⟨N,u,?_,t⟩;have q5:=Sf o.at';rw[qA0]at q5;have q6:-4611686018427387904<=r/\r<4611686018427387904:=by omega
  rw[QV,Mv];unfold nE at A e ⊢;simp[q5,e6,q6,A,-QV,e]
 obtain⟨c5,a,e5,a5,b5,k5,n5,K⟩:=Yh ht (n+1) R4.st (m:=2) (by omega) (by omega);have o:=R4.go k5 K;have l5:ZH a H=Z9 ((Zk pl).map D.int):=k5.lst l4 kri;have main:LX (OZ (cl (n+2)) [Z9 (.lst i),Z9 (.int ms),Z9 (.int mp),Z9 (.int mc),Z8,Z8,Z8,Z8,Z8,Z8,Z8,Z8,Z8] S) S i ms mp mc:=by
  unfold nE at e4;by_cases l:c5=0/\pl - 1<=mc
  ·have hcut:Zf ((Zk pl).map D.int) (Z9 1) Z8=((Zk pl).drop 1).map D.int:=by
    unfold Zf;have hs:HT.sIx ((Zk pl).map D.int).length 0 (Z9 1)=1:=by have:=HT.sIx_nat ((Zk pl).map D.int).length 0 1;have hl:=LZ E;rw[qA0]at this ⊢;rw[show((1:Nat):Int)=1 from rfl]at this;rw[this];omega
    rw[hs,HT.sIx_none,qO1,qJ4 (by simp)]
   have x6:=Zn a [O.lst (((Zk pl).drop 1).map D.int)];have t6:ZH (a++[O.lst (((Zk pl).drop 1).map D.int)]) a.length=Z9 (((Zk pl).drop 1).map D.int):=Zh _ _;have l6:=x6.lst l5 (λz=>z);have ti:a.length≠i:=by have:=K.lt;omega
   have tl:a.length≠S2.length:=by have:=Tu o.at';omega
   have R6:=o.go x6.kp (K.ex x6);obtain⟨B',S7,A,s,p,ds,hB,Rd,f,_⟩:=VW (w:=[(H,(Zk pl).map D.int),(a.length,((Zk pl).drop 1).map D.int)]) (g:=gT [gN 8,gN 9]) (b:=L1 (cl (n+2))) (items:=zipD ((Zk pl).map D.int) (((Zk pl).drop 1).map D.int))
    (uC S i S2.length ms mp mc sw pl H a.length)
    (B:=nE i ms mp mc sw pl S2.length (Z9 (.lst H)) Z8 Z8 Z8 Z8 Z8) (S:=a++[O.lst (((Zk pl).drop 1).map D.int)])
    (λj B S' C=>by obtain⟨_,_,_,_,_,_,Z,G⟩:=C;exact va Z G)
    ⟨Z8,Z8,[],rfl,R6,rfl,l6,t6⟩
    (λj d B S' f C=>by
     obtain⟨s,p,ds,rfl,R,hj,Z,G⟩:=C;have hz:∃x y,(Zk pl)[j]?=Z9 x/\(Zk pl)[1+j]?=Z9 y/\d=.tup [.int x,.int y]:=by unfold zipD at f;rw[qB3]at f;obtain⟨⟨x,y⟩,hxy,rfl⟩:=qA5.mp f;rw[qH1,qB3,qB3,qL0]at hxy;obtain⟨hx,hy⟩:=hxy;obtain⟨x',hx',rfl⟩:=qA5.mp hx;obtain⟨y',hy',rfl⟩:=qA5.mp hy;exact⟨x',y',hx',hy',rfl⟩
     obtain⟨x,y,hx,hy,rfl⟩:=hz;have hjl:1+j<(Zk pl).length:=(qA7.mp hy).1;rw[LZ E]at hjl;rw[Ha E (by omega)]at hx hy;cases hx;cases hy;obtain⟨L,S9,e9,a3,b3,k9,n9,P⟩:=Yh ht (n+1) R.st (m:=sw) (by omega) (by omega);obtain⟨Q,S10,V,a4,b4,U,n10,v⟩:=Yh ht (n+1) P (m:=2) (by omega) (by omega);have M:=k9.trans U;obtain⟨m1,m2,m3⟩:=Te (n:=pl) (OY E (i:=(j:Int)) (by omega) (by omega)) (OY E (i:=((1+j:Nat):Int)) (by omega) (by omega)) (G8 E (by omega) (by omega) (by omega));generalize hX:(if Zj pl ((1+j:Nat):Int)<Zj pl (j:Int)then Zj pl ((1+j:Nat):Int)else Zj pl (j:Int))=X at m1 m2;generalize hY:(if Zj pl ((1+j:Nat):Int)>Zj pl (j:Int)then Zj pl ((1+j:Nat):Int)else Zj pl (j:Int))=Y at m2 m3;have W:∀c∈ds++[⟨X,Y,L,Q⟩],Ct.ok sw pl c:=λc l=>by
      rcases qB7.mp l with q|q
      ·exact R.ok c q
      ·simp at q;subst q;exact⟨m1,m2,m3,a3,b3,a4,b4⟩
     have Rd:=R.put M v W;refine⟨_,_,rfl,_,_,.inl ?_,⟨Z9 (.int (Zj pl (j:Int))),Z9 (.int (Zj pl ((1+j:Nat):Int))),ds++[⟨X,Y,L,Q⟩],rfl,Rd,by simp;omega,OX (M.lst Z kri) krl.symm,OX (M.lst G ti) tl.symm⟩⟩;have q7:=Uo R.at';have q8:=Tt (M.lst R.at' R.ne) VZ [Ct.d ⟨X,Y,L,Q⟩];have q9:ds.length<lim:=by rw[Vw];omega
     simp[nE,L1,q7,e9,V,Ct.d,-Int.natCast_add,hX,hY]at q8 ⊢;simp[q8,q9])
   have hdl:ds.length=pl.toNat - 1:=by rw[f];unfold zipD;rw[qA0,qP6,qA0,qA0,qE6,LZ E];exact qP0 (Nat.sub_le _ _)
   subst hB;obtain⟨N,u,e,t⟩:=mid ds S7 (Z9 (.lst H)) s p Rd (by omega);unfold nE at A e;refine⟨N,u,?_,t⟩;have J:=Pu l5 (Z9 1) Z8;rw[hcut]at J;unfold OZ;generalize hT:((Zk pl).drop 1).map D.int=T at J l6 t6 A;generalize hT2:(Zk pl).map D.int=T2 at J l6 t6 A;simp[e1,e2,hsw,hpl,↓e4,e5,l.1,l.2,J,l6,t6,A,↓e]
  ·obtain⟨N,u,e,t⟩:=mid [] a (Z9 (.lst H)) Z8 Z8 o (by show(0:Int)<=mc;omega);unfold nE at e;refine⟨N,u,?_,t⟩;unfold OZ;by_cases h0:c5=0
   ·have h1:¬(pl - 1<=mc):=λz=>l ⟨h0,z⟩;simp[e1,e2,hsw,hpl,↓e4,e5,h0,h1,↓e]
   ·simp[e1,e2,hsw,hpl,↓e4,e5,h0,↓e]
 obtain⟨N,S12,e12,a12,b12,c12⟩:=main;exact⟨N,S12,by rw[show n+3=(n+2)+1 from rfl,h];exact Y7 rfl e12,a12,b12,c12⟩
end My
namespace Mt
def QA(es:List (Int×Int)):Prop:=∀C:Int->Prop,C 0->(∀e∈es,(C e.1↔C e.2))->C 1
structure LV(es:List (Int×Int))(s:Int)(F:Int->Prop):Prop where
 start:F s
 closed:∀e∈es,(F e.1↔F e.2)
 least:∀C:Int->Prop,C s->(∀e∈es,(C e.1↔C e.2))->∀x,F x->C x
theorem LV.joined(h:LV es 0 F):F 1↔QA es:=⟨λf C a b=>h.least C a b 1 f,λj=>j F h.start h.closed⟩
theorem uB{f:Type}{p q:f->Bool}{l:List f}(h:∀x,p x=Z7->q x=Z7){a:f}(c:a∈l)(i:q a=Z7)(g:p a=Z5):(l.filter p).length<(l.filter q).length:=by
 induction l with
 |nil=>cases c
 |cons x r b =>
  have j:(r.filter p).length<=(r.filter q).length:=by
   clear b c
   induction r with
   |nil=>simp
   |cons y r b =>
    rw[qE2,qE2];cases d:p y with
    |true=>rw[h y d];simpa using b
    |false =>
     cases q y with
     |true=>simp;omega
     |false=>simpa using b
  rw[qE2,qE2];rcases qA8.mp c with e|e
  ·subst e;rw[i,g];simp;omega
  ·have:=b e;cases d:p x with
   |true=>rw[h x d];simpa using this
   |false =>
    cases q x with
    |true=>simp;omega
    |false=>simpa using this
noncomputable def YH(ms:yA)(e:Int×Int):yA :=
 let l:=if ms.getD e.2.toNat 0<ms.getD e.1.toNat 0 then ms.getD e.2.toNat 0 else ms.getD e.1.toNat 0
 (ms.set e.1.toNat l).set e.2.toNat l
structure Vc(pl:Int)(ms:yA):Prop where
 len:(ms.length:Int)=pl
 pos:∀(i:Nat) x,ms[i]?=Z9 x->0<=x
def ZZ(ms:yA)(x:Int):Prop:=0<=x/\ms[x.toNat]?=Z9 0
theorem uA(h:Vc pl ms)(o:0<=e.1/\e.1<pl)(r:0<=e.2/\e.2<pl):Vc pl (YH ms e)/\∀x,ZZ (YH ms e) x↔ZZ ms x∨((x=e.1∨x=e.2)/\(ZZ ms e.1∨ZZ ms e.2)):=by
 obtain⟨a,b⟩:=e;dsimp only at o r ⊢;have m:a.toNat<ms.length:=by have:=h.len;omega
 have s:b.toNat<ms.length:=by have:=h.len;omega
 have j:ms[a.toNat]?=Z9 ms[a.toNat]:=qA4 m;have g:ms[b.toNat]?=Z9 ms[b.toNat]:=qA4 s;have n:=h.pos _ _ j;have u:=h.pos _ _ g;have y:ms.getD a.toNat 0=ms[a.toNat]:=by simp[qG5,j]
 have w:ms.getD b.toNat 0=ms[b.toNat]:=by simp[qG5,g]
 unfold YH;dsimp only;rw[y,w];generalize hA:ms[a.toNat]=A at *;generalize hB:ms[b.toNat]=BB at *;generalize hl:(if BB<A then BB else A)=l;have l0:0<=l:=by
  rw[<- hl];split
  ·exact u
  ·exact n
 have f:l=0↔A=0∨BB=0:=by
  rw[<- hl];split
  ·rename_i q;exact⟨.inr,λz=>z.elim (λz=>absurd (z▸q:BB<0) (Int.not_lt.mpr u)) id⟩
  ·rename_i q;exact⟨.inl,λz=>z.elim id λz=>qT0 (z▸Int.not_lt.mp q:A<=0) n⟩
 have get:∀i:Nat,((ms.set a.toNat l).set b.toNat l)[i]?=if i=b.toNat∨i=a.toNat then Z9 l else ms[i]?:=by
  intro i;by_cases t:i=b.toNat
  ·subst t;rw[qF0 (by simpa using s),if_pos (.inl rfl)]
  ·rw[qD7 (λz=>t z.symm)];by_cases p:i=a.toNat
   ·subst p;rw[qF0 m,if_pos (.inr rfl)]
   ·rw[qD7 (λz=>p z.symm),if_neg (by omega)]
 refine⟨⟨by simpa using h.len,λi x c=>?_⟩,λx=>?_⟩
 ·rw[get]at c;split at c
  ·cases c;exact l0
  ·exact h.pos i x c
 ·unfold ZZ;rw[get,j,g];simp only[Option.some.injEq];constructor
  ·rintro⟨k,c⟩;split at c
   ·rename_i d;cases c;have:=f.mp rfl;refine .inr ⟨by omega,?_⟩;rcases this with z|z
    ·exact .inl ⟨o.1,z⟩
    ·exact .inr ⟨r.1,z⟩
   ·exact .inl ⟨k,c⟩
  ·rintro(⟨k,c⟩| ⟨c,v⟩)
   ·refine⟨k,?_⟩;split
    ·rename_i d;rcases d with d|d
     ·rw[d,g]at c;rw[f.mpr (.inr (Option.some.inj c))]
     ·rw[d,j]at c;rw[f.mpr (.inl (Option.some.inj c))]
    ·exact c
   ·refine⟨by omega,?_⟩;rw[if_pos (by omega)];congr 1;rcases v with⟨_,z⟩| ⟨_,z⟩
    ·exact f.mpr (.inl z)
    ·exact f.mpr (.inr z)
theorem LU{pl:Int}:∀(es:List (Int×Int)) {ms:yA},Vc pl ms->(∀e∈es,(0<=e.1/\e.1<pl)/\0<=e.2/\e.2<pl)->Vc pl (es.foldl YH ms)/\(∀x,ZZ ms x->ZZ (es.foldl YH ms) x) /\
  ((∀x,ZZ (es.foldl YH ms) x->ZZ ms x)->∀e∈es,(ZZ ms e.1↔ZZ ms e.2))/\((∀e∈es,(ZZ ms e.1↔ZZ ms e.2))->∀x,ZZ (es.foldl YH ms) x->ZZ ms x) /\
  (∀C:Int->Prop,(∀e∈es,(C e.1↔C e.2))->(∀x,ZZ ms x->C x)->∀x,ZZ (es.foldl YH ms) x->C x)
 |[],ms,h,hb=>⟨h,λx z=>z,λ_ e a=>by simp at a,λ_ x z=>z,λC _ i x z=>i x z⟩
 |e::es,ms,h,hb=>by
  obtain⟨n,f⟩:=uA h (hb e (by simp)).1 (hb e (by simp)).2;obtain⟨m,g2,o,p,l⟩:=LU es n λc a=>hb c (by simp[a]);rw[qK9];refine⟨m,λx z=>g2 x ((f x).mpr (.inl z)),λj c a=>?_,λi x z=>?_,λC k g x z=>?_⟩
  ·have d:∀x,ZZ (YH ms e) x->ZZ ms x:=λx z=>j x (g2 x z);have same:∀x,ZZ (YH ms e) x↔ZZ ms x:=λx=>⟨d x,λz=>(f x).mpr (.inl z)⟩
   rcases qA8.mp a with q|q
   ·subst q;exact⟨λz=>d _ ((f _).mpr (.inr ⟨.inr rfl,.inl z⟩)),λz=>d _ ((f _).mpr (.inr ⟨.inl rfl,.inr z⟩))⟩
   ·have:=o (λx z=>(same x).mpr (j x z)) c q;rw[same,same]at this;exact this
  ·have a:=i e (by simp);have same:∀x,ZZ (YH ms e) x↔ZZ ms x:=λx=>by
    rw[f];constructor
    ·rintro(z|⟨z,w⟩)
     ·exact z
     ·rcases z with z|z
      ·subst z;rcases w with w|w;exact w;exact a.mpr w
      ·subst z;rcases w with w|w;exact a.mp w;exact w
    ·exact .inl
   have:=p (λc b=>by rw[same,same];exact i c (by simp[b])) x z;exact(same x).mp this
  ·refine l C (λc b=>k c (by simp[b])) (λx z=>?_) x z;rcases(f x).mp z with z|⟨z,w⟩
   ·exact g x z
   ·have a:=k e (by simp);rcases z with z|z
    ·subst z;rcases w with w|w;exact g _ w;exact a.mpr (g _ w)
    ·subst z;rcases w with w|w;exact a.mp (g _ w);exact g _ w
noncomputable def XI(es:List (Int×Int)):Nat->yA->yA
 |0,ms=>ms
 |n+1,ms=>XI es n (es.foldl YH ms)
noncomputable def Vv(pl:Nat)(ms:yA):Nat:=((List.range pl).filter λi=>decide (ms[i]?=Z9 0)).length
theorem uz(pl:Nat)(ms:yA):Vv pl ms<=pl:=by unfold Vv;have:=List.length_filter_le (λi=>decide (ms[i]?=Z9 0)) (List.range pl);simpa using this
theorem uy{pl:Nat}(h:∀x,ZZ ms x->ZZ ns x)(b:ZZ ns x)(d:¬ZZ ms x)(e:x<pl):Vv pl ms<Vv pl ns:=by
 unfold Vv;refine uB (a:=x.toNat) (λi c=>?_) ?_ ?_ ?_
 ·have:ZZ ms i:=⟨by omega,by simpa using c⟩
  have:=(h i this).2;simpa using this
 ·rw[qE4];have:=b.1;omega
 ·simpa using b.2
 ·simp only[decide_eq_false_iff_not];exact λz=>d ⟨b.1,z⟩
theorem LS{pl:Nat}{es:List (Int×Int)}(p:∀e∈es,(0<=e.1/\e.1<pl)/\0<=e.2/\e.2<pl):∀(n:Nat) {ms:yA},Vc pl ms->Vc pl (XI es n ms)/\(∀x,ZZ ms x->ZZ (XI es n ms) x) /\
  ((∀e∈es,(ZZ (XI es n ms) e.1↔ZZ (XI es n ms) e.2))∨Vv pl ms+n<=Vv pl (XI es n ms)) /\
  (∀C:Int->Prop,(∀e∈es,(C e.1↔C e.2))->(∀x,ZZ ms x->C x)->∀x,ZZ (XI es n ms) x->C x) /\
  ((∀e∈es,(ZZ ms e.1↔ZZ ms e.2))->∀x,ZZ (XI es n ms) x->ZZ ms x)
 |0,ms,h=>⟨h,λx z=>z,.inr (qA6 _),λC _ j x z=>j x z,λ_ x z=>z⟩
 |n+1,ms,h=>by
  obtain⟨m,f,v,q,y⟩:=LU es h p;obtain⟨r,g2,d,A,l⟩:=LS p n m;show Vc pl (XI es n (es.foldl YH ms))/\_;refine⟨r,λx z=>g2 x (f x z),?_,λC o j x z=>A C o (y C o j) x z,λi x z=>?_⟩
  ·rcases d with d|d
   ·exact .inl d
   ·by_cases g:∀x,ZZ (es.foldl YH ms) x->ZZ ms x
    ·have t:=v g;have same:∀x,ZZ (es.foldl YH ms) x↔ZZ ms x:=λx=>⟨g x,f x⟩
     have c:∀e∈es,(ZZ (es.foldl YH ms) e.1↔ZZ (es.foldl YH ms) e.2):=λe b=>by rw[same,same];exact t e b
     have back:=l c;have a:∀x,ZZ (XI es n (es.foldl YH ms)) x↔ZZ (es.foldl YH ms) x:=λx=>⟨back x,g2 x⟩
     exact .inl λe b=>by show ZZ (XI es n (es.foldl YH ms)) e.1↔ZZ (XI es n (es.foldl YH ms)) e.2;rw[a,a];exact c e b
    ·refine .inr ?_;have:∃x,ZZ (es.foldl YH ms) x/\¬ZZ ms x:=Classical.byContradiction λB=>g λx z=>Classical.byContradiction λs=>B ⟨x,z,s⟩;obtain⟨x,k,w⟩:=this;have u:x<pl:=by have:=(qA7.mp k.2).1;have D:=m.len;have:=k.1;omega
     have:=uy (pl:=pl) f k w u;show Vv pl ms+(n+1)<=Vv pl (XI es n (es.foldl YH ms));omega
  ·have c:∀e∈es,(ZZ (es.foldl YH ms) e.1↔ZZ (es.foldl YH ms) e.2):=by
    have same:∀x,ZZ (es.foldl YH ms) x↔ZZ ms x:=λx=>⟨q i x,f x⟩
    intro e b;rw[same,same];exact i e b
   exact q i x (l c x z)
theorem ux{pl:Nat}{es:List (Int×Int)}(f:0<pl)(n:∀e∈es,(0<=e.1/\e.1<pl)/\0<=e.2/\e.2<pl):Vc pl (XI es pl ((List.range pl).map fun(k:Nat)=>(k:Int)))/\LV es 0 (ZZ (XI es pl ((List.range pl).map fun(k:Nat)=>(k:Int)))):=by
 have s:Vc pl ((List.range pl).map fun(k:Nat)=>(k:Int)):=⟨by simp,λi x a=>by
  rw[qB3]at a;obtain⟨k,_,rfl⟩:=qA5.mp a;omega⟩
 have c:ZZ ((List.range pl).map fun(k:Nat)=>(k:Int)) 0:=⟨by omega,by
  show((List.range pl).map fun(k:Nat)=>(k:Int))[0]?=Z9 0;rw[qB3,qH0 f];rfl⟩
 have o:∀x,ZZ ((List.range pl).map fun(k:Nat)=>(k:Int)) x->x=0:=λx a=>by obtain⟨u,q⟩:=a;rw[qB3]at q;obtain⟨k,hk,e⟩:=qA5.mp q;have:=qA7.mp hk;obtain⟨h,d⟩:=this;simp at d;omega
 obtain⟨g,g2,b,p,t⟩:=LS n pl s;refine⟨g,g2 0 c,?_,λC j l x z=>p C l (λy m=>by rw[o y m];exact j) x z⟩;rcases b with b|b
 ·exact b
 ·exfalso;have h:=uz pl (XI es pl ((List.range pl).map fun(k:Nat)=>(k:Int)));have d:0<Vv pl ((List.range pl).map fun(k:Nat)=>(k:Int)):=by
   unfold Vv;rw[List.length_pos_iff];intro r;have:(0:Nat)∈(List.range pl).filter λi=>decide (((List.range pl).map fun(k:Nat)=>(k:Int))[i]?=Z9 0):=by rw[qE0];exact⟨by simpa using f,by simpa using c.2⟩
   rw[r]at this;cases this
  omega
end Mt
namespace My
open PySem L2 Mt
variable {cl:Nat->ZO}
noncomputable def Yb(st:yA):D:=.tup (st.map D.int)
noncomputable def XD(c:Ct)(st:yA):Bool:=decide (st.getD c.k.toNat 0=c.o)
theorem Td{l:yA}{k:Int}(a:0<=k)(b:k<l.length):XZ (l.map D.int) k=Z9 (.int (l.getD k.toNat 0)):=by
 have e:l[k.toNat]?=Z9 (l.getD k.toNat 0):=by rw[qG5,qA4 (by omega)];rfl
 have q:=VM (xs:=l.map D.int) (j:=k.toNat) (v:=.int (l.getD k.toNat 0)) (by rw[qB3,e];rfl);rw[show((k.toNat:Nat):Int)=k by omega]at q;exact q
noncomputable def XC{a:Type}(l:List a):List (Nat×a):=(List.range l.length).zip l
theorem G5(e:a->D)(l:List a):Wr (l.map e)=(XC l).map λq=>.tup [.int (q.1:Nat),e q.2]:=by unfold Wr XC;rw[qA0,List.zip_map_right,qC8];rfl
theorem Tc{q:Nat×c}(h:q∈XC l):l[q.1]?=Z9 q.2:=by unfold XC at h;obtain⟨i,a⟩:=qK2 h;rw[qH1]at a;obtain⟨e,d⟩:=a;have:=qA7.mp e;obtain⟨f,b⟩:=this;simp at b;rw[<- b];exact d
theorem uw(l:List a):(XC l).map (·.2)=l:=by unfold XC;exact qO7 (by simp)
noncomputable def VU(cs:yN)(st:yA):List Nat:=((XC cs).filter λq=>XD q.2 st).map (·.1)
noncomputable def VT(l:List Nat):yM:=l.map fun(k:Nat)=>D.int (k:Nat)
theorem UL:(1000:Nat)<lim:=by decide
theorem uv(l:List a):(XC l).length=l.length:=by unfold XC;simp
theorem uu(h:Pd cl)(n:Nat)(N:Zx)(st:yA)(g:N.cs.length<=100)(hk:∀c∈N.cs,0<=c.k/\c.k<st.length)(S:ZU):cl (n+1) "_law_shut" [N.d,Yb st] S=.ok (.lst S.length) (S++[.lst (VT (VU N.cs st))]):=by
 have a:Y2 [] (.many 2) (Mb (cl n)) (Ma (cl n)) [Z8,Z8,Z9 (Yb st)] ((XC N.cs).map λq=>.tup [.int (q.1:Nat),q.2.d]) S=.ok (((XC N.cs).filter λq=>XD q.2 st).map λq=>.int (q.1:Nat)) S:=by
  refine Se (λq:Nat×Ct=>.tup [.int (q.1:Nat),q.2.d]) (X5 S) _ _ _ λq d=>⟨_,rfl,?_,λ_=>?_⟩
  ·have b:q.2∈N.cs:=qC0 (Tc d);simp[Mb,Q8,Ct.d,Yb,Td (hk _ b).1 (hk _ b).2,XD]
  ·simp[Ma,Q8]
 rw[h];refine Y7 rfl ?_;have f:((XC N.cs).filter λq=>XD q.2 st).map (λq=>D.int (q.1:Nat))=VT (VU N.cs st):=by unfold VT VU;rw[qC8];rfl
 rw[f]at a;have e:(XC N.cs).length<lim:=by rw[uv];have:=UL;omega
 simp[Pe,Y1,Zx.d,G5,a,e]
noncomputable def YL(cs:yN):List (Int×Int):=cs.map λc=>(c.a,c.b)
noncomputable def jB(es:List (Int×Int)):Bool:=@decide (QA es) (Classical.propDecidable _)
theorem LR:jB es=Z7↔QA es:=by exact @decide_eq_true_iff _ (Classical.propDecidable _)
theorem ur(h:b=Z7↔QA es):b=jB es:=by
 cases b with
 |true=>exact(LR.mpr (h.mp rfl)).symm
 |false =>
  cases q:jB es with
  |false=>rfl
  |true=>exact absurd (h.mpr (LR.mp q)) qB1
theorem uq(h:i∈VU cs st):∃c,cs[i]?=Z9 c/\XD c st=Z7:=by unfold VU at h;obtain⟨q,a,rfl⟩:=qB9.mp h;rw[qE0]at a;exact⟨q.2,Tc a.1,a.2⟩
theorem uo(cs:yN)(st:yA)(dflt:Ct):(VU cs st).map (λi=>cs.getD i dflt)=cs.filter λc=>XD c st:=by
 unfold VU;rw[qC8];have:((XC cs).filter λq=>XD q.2 st).map ((λi=>cs.getD i dflt)∘λq=>q.1)=((XC cs).filter λq=>XD q.2 st).map (·.2):=by refine qK5 λq a=>?_;rw[qE0]at a;have:=Tc a.1;simp[qG5,this]
 rw[this];have b:cs.filter (λc=>XD c st)=((XC cs).map (·.2)).filter (λc=>XD c st):=by rw[uw]
 rw[b,List.filter_map];rfl
theorem um{cs:yN}(h:cs[i]?=Z9 c):XZ (cs.map Ct.d) (i:Nat)=Z9 c.d:=VM (by rw[qB3,h];rfl)
noncomputable def Yg(N:Zx)(st:yA):Bool:=jB (YL (N.cs.filter λc=>XD c st))
structure uk(N:Zx)(st:yA):Prop where
 len:(st.length:Int)=N.sw
theorem Zx.ok.ks(h:N.ok ms mp mc)(hs:uk N st):∀c∈N.cs,0<=c.k/\c.k<st.length:=λc d=>by obtain⟨_,_,_,b,a,_,_⟩:=h.c2 c d;rw[hs.len];exact⟨b,a⟩
theorem Zx.ok.len{N:Zx}(h:N.ok ms mp mc)(a:mc<=16):N.cs.length<=100:=by have:=h.c1;omega
@[simp]theorem me(w x y z:D):Zf [w,x,y,z] Z8 (Z9 2)=[w,x]:=rfl
theorem OW{n:Nat}{k:Int}(a:0<=k)(b:k<n):Ww n k=Z9 k.toNat:=by unfold Ww;rw[if_pos a,if_pos b]
theorem G4(es:List (Int×Int)):∀(n:Nat) (ms:yA),XI es (n+1) ms=es.foldl YH (XI es n ms)
 |0,ms=>rfl
 |n+1,ms=>G4 es n (es.foldl YH ms)
noncomputable def Ya(cs:yN)(l:List Nat):List (Int×Int):=l.map λi=>((cs.getD i ⟨0,0,0,0⟩).a,(cs.getD i ⟨0,0,0,0⟩).b)
theorem G3(cs:yN)(st:yA):Ya cs (VU cs st)=YL (cs.filter λc=>XD c st):=by unfold Ya YL;rw[<- uo cs st ⟨0,0,0,0⟩,qC8];rfl
def LQ(S:ZU)(x:D)(l:yM):Prop:=x=.tup l∨∃k,x=.lst k/\ZH S k=Z9 l
inductive uj(nd x:D)(k:Nat)(S0:ZU)(ms:yA)(B:ZR)(S':ZU):Prop
 |mk (v3 v4 v5 v6 v7:Option D) (e:B=[Z9 nd,Z9 x,Z9 (.lst k),v3,v4,v5,v6,v7]) (kp:Kp (·=k) S0 S') (hm:ZH S' k=Z9 (ms.map D.int))
inductive ui(nd x d:D)(k:Nat)(S0:ZU)(ms:yA)(B:ZR)(S':ZU):Prop
 |mk (v4 v5 v6 v7:Option D) (e:B=[Z9 nd,Z9 x,Z9 (.lst k),Z9 d,v4,v5,v6,v7]) (kp:Kp (·=k) S0 S') (hm:ZH S' k=Z9 (ms.map D.int))
theorem uh(h:Ph cl)(n:Nat){N:Zx}(ok:N.ok ms mp mc)(hm:mp<=7)(l:List Nat)(hl:∀i∈l,i<N.cs.length)(Q:LQ S x (VT l)):
  ∃m I,cl (n+1) "_law_marks" [N.d,x] S=.ok (.lst m) I/\Ex S I/\S.length<=m/\ZH I m=Z9 ((XI (Ya N.cs l) N.pl.toNat ((List.range N.pl.toNat).map fun(k:Nat)=>(k:Int))).map D.int):=by
 have p1:=ok.p1;have p2:=ok.p2;have P:∃w,∀S',Ex S S'∨Kp (·=S.length) (S++[.lst (Zd 0 N.pl.toNat)]) S'->(∀B:ZR,B[1]?=Z9 (Z9 x)->Zq (ZY 1) B S'=.ok (VT l,w) S')/\X2 w S':=by
  rcases Q with rfl|⟨k,rfl,hk⟩
  ·exact⟨[],λS' _=>⟨fun B M=>by simp[M],X5 _⟩⟩
  ·refine⟨[(k,VT l)],λS' hS=>?_⟩;have:ZH S' k=Z9 (VT l):=by
    rcases hS with q|q
    ·exact q.lst hk (λz=>z)
    ·exact q.lst (Mr hk) (by have:=Tu hk;omega)
   exact⟨fun B M=>by simp[M,this],Vh this⟩
 obtain⟨w,P⟩:=P;have J:∀e∈Ya N.cs l,(0<=e.1/\e.1<(N.pl.toNat:Int))/\0<=e.2/\e.2<(N.pl.toNat:Int):=λe V=>by
  obtain⟨i,hi,rfl⟩:=qB9.mp V;have f:=hl i hi;obtain⟨a1,a2,a3,_⟩:=ok.c2 _ (qE7 f);have X:N.cs.getD i ⟨0,0,0,0⟩=N.cs[i]:=by simp[qG5,f]
  rw[X];dsimp only;omega
 let ms0:yA:=(List.range N.pl.toNat).map fun(k:Nat)=>(k:Int)
 have m0:Vc N.pl.toNat ms0:=⟨by simp[ms0],λi x Q=>by
  rw[qB3]at Q;obtain⟨k,_,rfl⟩:=qA5.mp Q;omega⟩
 have u0:Zd 0 N.pl.toNat=ms0.map D.int:=by simp[Zd,ms0,qC8]
 obtain⟨B',I,e1,v3,O,y,v,C,rfl,kp,K⟩:=VW (w:=[]) (g:=gN 3) (b:=Me (cl n)) (items:=Zd 0 N.pl.toNat)
  (λj=>uj N.d x S.length (S++[.lst (Zd 0 N.pl.toNat)]) (XI (Ya N.cs l) j ms0))
  (B:=[Z9 N.d,Z9 x,Z9 (.lst S.length),Z8,Z8,Z8,Z8,Z8]) (S:=S++[.lst (Zd 0 N.pl.toNat)])
  (λj B S' t=>X5 _) ⟨Z8,Z8,Z8,Z8,Z8,rfl,Kp.refl _ _,by rw[Zh,u0];rfl⟩
  (λj d B S' hd t=>by
   obtain⟨v3,O,y,v,C,rfl,kp,hm⟩:=t;obtain⟨ix,okw⟩:=P S' (.inr kp);have H:=(LS J j m0).1;generalize hmj:XI (Ya N.cs l) j ms0=mj at hm H;obtain⟨B2,F,e2,T,W,v6',Z,rfl,o,a⟩:=VW (w:=w) (g:=gN 4) (b:=Mf (cl n)) (items:=VT l)
    (λi=>ui N.d x d S.length (S++[.lst (Zd 0 N.pl.toNat)]) ((Ya N.cs (l.take i)).foldl YH mj))
    (B:=[Z9 N.d,Z9 x,Z9 (.lst S.length),Z9 d,O,y,v,C]) (S:=S')
    (λi B F t=>by obtain⟨_,_,_,_,_,kp,_⟩:=t;exact(P F (.inr kp)).2)
    ⟨O,y,v,C,rfl,kp,by simpa[Ya]using hm⟩
    (λi d' B F p t=>by
     obtain⟨O,y,v,C,rfl,o,a⟩:=t;unfold VT at p;rw[qB3]at p;obtain⟨q,hq,rfl⟩:=qA5.mp p;have f:=hl q (qC0 hq);obtain⟨a1,a2,a3,_⟩:=ok.c2 _ (qE7 f);have X:N.cs.getD q ⟨0,0,0,0⟩=N.cs[q]:=by simp[qG5,f]
     have u:=(LU (Ya N.cs (l.take i)) H (λe V=>J e (by
      obtain⟨z,hz,rfl⟩:=qB9.mp V;exact qB9.mpr ⟨z,qG6 hz,rfl⟩))).1
     have ht:l.take (i+1)=l.take i++[q]:=by rw[qJ9,hq];rfl
     generalize hmm:(Ya N.cs (l.take i)).foldl YH mj=mm at a u;have Y:N.cs[q]?=Z9 N.cs[q]:=qA4 f;generalize hcc:N.cs[q]=c at *;have lm:(mm.length:Int)=N.pl:=by have:=u.len;omega
     have U:=W9 a c.a;have g2:=W9 a c.b;rw[Td a1 (by omega)]at U;rw[Td (by omega) (by omega)]at g2;generalize hA:mm.getD c.a.toNat 0=A at U;generalize M:mm.getD c.b.toNat 0=BB at g2;have em:YH mm (c.a,c.b)=(mm.set c.a.toNat (if BB<A then BB else A)).set c.b.toNat (if BB<A then BB else A):=by unfold YH;dsimp only;rw[hA,M]
     generalize hL:(if BB<A then BB else A)=L at em;have G:=Ts a c.a (.int L);rw[qA0,OW a1 (by omega)]at G;dsimp only at G;rw[<- qP3]at G;have r:=V7 (ys:=(mm.set c.a.toNat L).map D.int) a;have s:=Ts r c.b (.int L);rw[qA0,qK8,OW (by omega) (by omega)]at s;dsimp only at s;rw[<- qP3,<- em]at s;generalize hSa:F.set S.length (.lst ((mm.set c.a.toNat L).map D.int))=Sa at G s r;generalize hSb:Sa.set S.length (.lst ((YH mm (c.a,c.b)).map D.int))=Sb at s;refine⟨_,_,rfl,_,Sb,.inl ?_,⟨Z9 (.int (q:Nat)),Z9 (.int c.a),Z9 (.int c.b),Z9 (.int L),rfl,?_,?_⟩⟩
     ·simp[Mf,Zx.d,um Y,Ct.d,U,g2,hL,G,s]
     ·rw[<- hSb,<- hSa];exact(o.trans (Up _ _)).trans (Up _ _)
     ·rw[<- hSb,V7 r,ht];congr 2;unfold Ya;rw[qD2,qN7];show _=YH _ ((N.cs.getD q ⟨0,0,0,0⟩).a,(N.cs.getD q ⟨0,0,0,0⟩).b);rw[X,<- hmm];rfl)
   refine⟨_,_,rfl,_,F,.inl ?_,⟨Z9 d,T,W,v6',Z,rfl,o,?_⟩⟩
   ·simp only[qL1,qL2];have R:=ix [Z9 N.d,Z9 x,Z9 (.lst S.length),Z9 d,O,y,v,C] rfl;simp only[Me,QV,Mv];rw[R];simp[e2]
   ·rw[a,G4,hmj,show(VT l).length=l.length by unfold VT;simp,qH3])
 rw[Uh]at K;refine⟨S.length,I,?_,⟨by have:=kp.le;simp at this;omega,λj hj _=>by rw[kp.eq j (by simp;omega) (by omega),qB0 hj]⟩,qA6 _,K⟩;rw[h];refine Y7 rfl ?_;have f1:Xa [.int N.pl] S=.ok (.lst S.length) (S++[.lst (Zd 0 N.pl.toNat)]):=by unfold Xa;dsimp only;rw[if_pos (by omega)]
 have f2:-4611686018427387904<=N.pl/\N.pl<4611686018427387904:=by omega
 have E:=e1;unfold Zx.d at E;simp[Pi,Y1,Zx.d,f1,f2,E]
theorem ug(h:L9 cl)(t:Ph cl)(hs:Pd cl)(n:Nat)(ok:N.ok ms mp mc)(j:mp<=7)(g:mc<=16)(hk:∀c∈N.cs,0<=c.k/\c.k<st.length)(S:ZU):Wp (cl (n+2) "_law_lets" [N.d,Yb st] S) ((.bl (Yg N st))) S:=by
 have y:=uu hs n N st (ok.len g) hk S;obtain⟨m,s,u,r,_,q⟩:=uh t n ok j (VU N.cs st) (λi w=>by obtain⟨c,f,_⟩:=uq w;exact(qA7.mp f).1) (S:=S++[.lst (VT (VU N.cs st))]) (x:=.lst S.length) (.inr ⟨S.length,rfl,Zh _ _⟩);have z:=ok.p1;have d:∀e∈Ya N.cs (VU N.cs st),(0<=e.1/\e.1<(N.pl.toNat:Int))/\0<=e.2/\e.2<(N.pl.toNat:Int):=λe l=>by rw[G3]at l;obtain⟨c,f,rfl⟩:=qB9.mp l;obtain⟨A,C,B,_⟩:=ok.c2 c (qE0.mp f).1;dsimp only;omega
 obtain⟨mo,p⟩:=ux (pl:=N.pl.toNat) (by omega) d;refine⟨s,?_,(Zn _ _).trans r⟩;rw[show n+2=(n+1)+1 from rfl,h];refine Y7 rfl ?_;generalize hR:XI (Ya N.cs (VU N.cs st)) N.pl.toNat ((List.range N.pl.toNat).map fun(k:Nat)=>(k:Int))=Rr at q mo p;have a:=W9 q 1;rw[Td (by decide) (by have:=mo.len;omega)]at a;have b:(1:Nat)<Rr.length:=by have:=mo.len;omega
 have o:decide (Rr.getD (1:Int).toNat 0=0)=Yg N st:=by unfold Yg;rw[<- G3];refine ur ?_;rw[decide_eq_true_eq,<- p.joined];unfold ZZ;show Rr.getD 1 0=0↔0<=(1:Int)/\Rr[1]?=Z9 0;rw[qG5,qA4 b];simp
 generalize Rr.getD (1:Int).toNat 0=v at a o;simp[Pc,Y1,y,u,a,o]
noncomputable def YQ:Nat->List (yA)
 |0=>[[]]
 |n+1=>(YQ n).map (0::·)++(YQ n).map (1::·)
theorem G2:∀n,(YQ n).length=2 ^ n
 |0=>rfl
 |n+1=>by unfold YQ;rw[qB8,qA0,qA0,G2 n,Nat.pow_succ];omega
theorem OV:∀n,∀st∈YQ n,st.length=n/\∀b∈st,b=0∨b=1
 |0,st,h=>by simp[YQ]at h;subst h;simp
 |n+1,st,h=>by
  unfold YQ at h;rcases qB7.mp h with q|q
  ·obtain⟨t,ht,rfl⟩:=qB9.mp q;obtain⟨d,c⟩:=OV n t ht;exact⟨by simp[d],λb a=>by rcases qA8.mp a with z|z;exact .inl z;exact c b z⟩
  ·obtain⟨t,ht,rfl⟩:=qB9.mp q;obtain⟨d,c⟩:=OV n t ht;exact⟨by simp[d],λb a=>by rcases qA8.mp a with z|z;exact .inr z;exact c b z⟩
theorem uf(h:j<=4):2 ^ j<=16:=qD4 (qQ0 (by decide) h) (by decide)
noncomputable def ue(sw:Int):List (yA):=(List.range (1*2 ^ sw.toNat:Int).toNat).map fun(m:Nat)=>(List.range sw.toNat).map fun(k:Nat)=>vH ((0+(m:Int)) / 2 ^ (sw - 1 - (0+(k:Int))).toNat) 1
theorem ud(a:1<=sw)(b:sw<=4):ue sw=YQ sw.toNat:=by
 have:sw=1∨sw=2∨sw=3∨sw=4:=by omega
 rcases this with rfl|rfl|rfl|rfl<;>decide +kernel
theorem G1(h:Pf cl)(n:Nat)(G:1<=sw)(H:sw<=4)(S:ZU):∃k c,cl (n+1) "_law_settings" [.int sw] S=.ok (.lst k) c/\Ex S c/\S.length<=k/\ZH c k=Z9 ((YQ sw.toNat).map Yb):=by
 rw[<- ud G H];have s:(1*2 ^ sw.toNat:Int)<=16:=by
  have:sw=1∨sw=2∨sw=3∨sw=4:=by omega
  rcases this with rfl|rfl|rfl|rfl<;>decide
 have E:(0:Int)<=1*2 ^ sw.toNat:=by
  have:sw=1∨sw=2∨sw=3∨sw=4:=by omega
  rcases this with rfl|rfl|rfl|rfl<;>decide
 let f:Nat->yA:=fun(m:Nat)=>(List.range sw.toNat).map fun(k:Nat)=>vH ((0+(m:Int)) / 2 ^ (sw - 1 - (0+(k:Int))).toNat) 1
 obtain⟨P,c,N,r,rfl,t,a⟩:=VW (w:=[]) (g:=gN 2) (b:=Mc (cl n)) (items:=Zd 0 (1*2 ^ sw.toNat:Int).toNat)
  (λj B S'=>∃r,B=[Z9 (.int sw),Z9 (.lst S.length),r]/\Ex S S'/\ZH S' S.length=Z9 (((List.range j).map f).map Yb))
  (B:=[Z9 (.int sw),Z9 (.lst S.length),Z8]) (S:=S++[.lst []])
  (λj B S' s=>X5 _) ⟨Z8,rfl,Zn _ _,by rw[Zh];rfl⟩
  (λj d B S' y s=>by
   obtain⟨r,rfl,t,a⟩:=s;rw[QB]at y;obtain⟨O,rfl⟩:=y;have x:Y2 [] .one (λ_=>ret Z7) (Md (cl n)) [Z8,Z9 (.int (0+(j:Int))),Z9 (.int sw)] ((List.range sw.toNat).map fun(k:Nat)=>D.int (0+(k:Nat))) S'=.ok ((List.range sw.toNat).map fun(k:Nat)=>D.int (vH ((0+(j:Int)) / 2 ^ (sw - 1 - (0+(k:Int))).toNat) 1)) S':=by
    refine UP (fun(k:Nat)=>D.int (0+(k:Nat))) (X5 S') _ _ λk hk=>⟨_,rfl,?_⟩
    rw[qE4]at hk;have q:(0:Int)<=sw - 1 - (0+(k:Int)):=by omega
    generalize (0+(k:Int))=kk at q ⊢;generalize (0+(j:Int))=jj;have L:kk<=sw - 1:=by omega
    simp[Md,L]
   have I:(List.range sw.toNat).map (fun(k:Nat)=>D.int (vH ((0+(j:Int)) / 2 ^ (sw - 1 - (0+(k:Int))).toNat) 1))=(f j).map D.int:=by rw[qC8];rfl
   rw[I]at x;have u:=Zn S' [.lst ((f j).map D.int)];have C:=u.lst a (λz=>z);have J:=Uq (Zh S' ((f j).map D.int));have p:=Tt C VZ [.tup ((f j).map D.int)];have K:=Uo a;have v:(((List.range j).map f).map Yb).length<lim:=by rw[qA0,qA0,qG1,Vw];omega
   refine⟨_,_,rfl,_,_,.inl ?_,Z9 (.int (0+(j:Int))),rfl,((t.trans u).setNew (l:=S.length) (o:=.lst (((List.range j).map f).map Yb++[.tup ((f j).map D.int)])) (qA6 _)),?_⟩
   ·have i:-4611686018427387904<=sw/\sw<4611686018427387904:=by omega
    have e:sw.toNat<lim:=by rw[Vw];omega
    generalize hB:((List.range j).map f).map Yb=BB at p v;generalize (f j).map D.int=F at *;rw[vb,if_pos v]at p;dsimp only at p;unfold Zd at *;simp only[qL1,qL2];generalize (0+(j:Int))=jj at *;simp[Mc,K,i,Zd,e,-Int.zero_add,x,J,p]
   ·rw[V7 C,qT1,qD2,qD2];rfl)
 rw[Uh]at a;refine⟨S.length,c,?_,t,qA6 _,a⟩;rw[h];refine Y7 rfl ?_;have i:-4611686018427387904<=(1*2 ^ sw.toNat:Int)/\(1*2 ^ sw.toNat:Int)<4611686018427387904:=by omega
 have e:0<=sw/\sw<=1000000/\(1:Int).natAbs<18446744073709551616:=⟨by omega,by omega,by decide⟩
 generalize hpw:(1*2 ^ sw.toNat:Int)=pw at *;have A:WG (.int 1) (.int sw) (S++[.lst []])=.ok (.int pw) (S++[.lst []]):=by rw[vf,if_pos e,hpw]
 have M:VY (ZS [ZW WG (ZX (.int 1)) (ZY 0)]) [Z9 (.int sw),Z9 (.lst S.length),Z8] (S++[.lst []])=.ok (Zd 0 pw.toNat,[]) (S++[.lst []]):=by rw[vg,Hy,Hz,HA,Xy,Mu];dsimp only[List.getElem?_cons_zero];rw[Xy,A,Xy,Ms,Xy,Xy];dsimp only;rw[if_pos i]
 clear A e i;simp only[Pg,Y1,qB5,qH5,QV,vi,Hx,Ms,Xy,HC,Pv,HB,Mv];rw[show(List.set ([Z9 (D.int sw)]++qK0 (3 - [D.int sw].length) Z8) 1 (Z9 (D.lst (qN2 S))))=[Z9 (.int sw),Z9 (.lst S.length),Z8]from rfl,M,HC];dsimp only;rw[N,HB,QV,vj,Mu];rfl
theorem G0(h:0<n)(st:yA):plain (n+1) (Yb st)=Z7:=Mm (Ml h st)
noncomputable def WA(N:Zx):yA:=(YQ N.sw.toNat).map λa=>if Yg N a then 1 else 0
theorem GZ{sw:Int}(a:sw<=4):((YQ sw.toNat).map Yb).length<lim:=by rw[qA0,G2,Vw];have:=uf (j:=sw.toNat) (by omega);omega
theorem uc(h:Hl cl)(b:L9 cl)(y:Ph cl)(hs:Pd cl)(d:Pf cl)(n:Nat)(ok:N.ok ms mp mc)(E:ms<=4)(g:mp<=7)(f:mc<=16)(S:ZU):
  Wp (cl (n+3) "_law_function" [N.d] S) ((Yb (WA N))) S:=by
 have m:=ok.s1;have H:=ok.s2;obtain⟨k,u,G,F,_,i⟩:=G1 d (n+1) (sw:=N.sw) m (by omega) S;obtain⟨j,l,q⟩:=Mq Yb (w:=[(k,(YQ N.sw.toNat).map Yb)]) (t:=.one) (c:=L8 (cl (n+2))) (B0:=[Z8,Z9 N.d]) (λa=>Ex u a) (λa x=>Vh (x.lst i λz=>z)) (λst=>.int (if Yg N st then 1 else 0)) (YQ N.sw.toNat) (Kp.refl _ _)
  (λst e a x=>by
   have B:=(OV _ st e).1;obtain⟨p,r,s⟩:=ug b y hs n ok g f (st:=st) (ok.ks ⟨by rw[B];omega⟩) a;refine⟨_,rfl,p,?_,x.trans s⟩;simp[L8,r])
 have o:(YQ N.sw.toNat).map (λst=>D.int (if Yg N st then 1 else 0))=(WA N).map D.int:=by unfold WA;rw[qC8];rfl
 rw[o]at l;refine⟨_,?_,(F.trans q).trans (Zn j [.lst ((WA N).map D.int)])⟩;rw[show n+3=(n+2)+1 from rfl,h];refine Y7 rfl ?_;have A:=GZ (sw:=N.sw) (by omega);have C:=Uq (Zh j ((WA N).map D.int));have v:ZL N.d (.int 0) S=.ok (.int N.sw) S:=by simp[Zx.d]
 generalize (YQ N.sw.toNat).map Yb=BB at *;simp[Pb,Y1,v,G,i,A,l,C,Yb]
theorem GY(a:Int)(l:yA):Vo (.int a) (l.map V.int)=decide (a∈l):=by
 unfold Vo
 induction l with
 |nil=>rfl
 |cons x r b =>
  rw[qB5,qH6,b];by_cases h:x=a
  ·subst h;simp[Vp]
  ·have c:¬a=x:=λz=>h z.symm;simp[Vp,h,c]
theorem GX(l:yA):(l.map D.int).mapM YC=Z9 (l.map V.int):=by
 induction l with
 |nil=>rfl
 |cons x r a=>rw[qB5,qH7,a];rfl
theorem GW(neg:Bool)(a:Int)(l:yA)(S:ZU):Yr neg (.int a) (.tup (l.map D.int)) S=.ok (.bl (if neg then !decide (a∈l)else decide (a∈l))) S:=by show(match (l.map D.int).mapM YC with|some b=>R.ok (D.bl (if neg then !Vo (.int a) b else Vo (.int a) b)) S|none=>.bad)=_;rw[GX];dsimp only;rw[GY]
@[simp]theorem lP(w x y z:D):Zf [w,x,y,z] Z8 (Z9 3)=[w,x,y]:=rfl
structure HD(cl:Nat->ZO):Prop where
 st:Hm cl
 ce:Mi cl
 ta:Th cl
 en:Pj cl
 ne:Hc cl
structure ub(cl:Nat->ZO):Prop where
 ls:Pf cl
 sh:Pd cl
 ma:Ph cl
 le:L9 cl
 fu:Hl cl
theorem Zx.ok.up{N:Zx}(h:N.ok ms mp mc)(e:ms<=b)(c:mp<=a)(d:mc<=mc'):N.ok b a mc':=⟨h.s1,qM5 h.s2 e,h.p1,qM5 h.p2 c,qM5 h.c1 d,h.c2⟩
abbrev Zx.g(N:Zx):Prop:=N.ok 4 7 16
noncomputable def b1(b:Bool):Int:=if b then 1 else 0
theorem Zx.d_eq(N:Zx):N.d=.tup [.int N.sw,.int N.pl,.tup (N.cs.map Ct.d)]:=rfl
noncomputable def Ct.mv(f:Int->Int)(c:Ct):Ct:=⟨if f c.b<f c.a then f c.b else f c.a,if f c.b>f c.a then f c.b else f c.a,c.k,c.o⟩
noncomputable def XB(a:yA)(p:Int):Int:=a.getD p.toNat 0
theorem GV(x y:Int):XQ [x,y]=[if y<x then y else x,if y>x then y else x]:=by
 show XR x (XR y [])=_;show XR x [y]=_;unfold XR;by_cases h:x<=y
 ·rw[if_pos h,if_neg (by omega)];by_cases a:y>x
  ·rw[if_pos a]
  ·rw[if_neg a];have:x=y:=by omega
   subst this;rfl
 ·rw[if_neg h,if_pos (by omega),if_neg (by omega)];rfl
theorem ua(c:Ct):Zf [.int c.a,.int c.b,.int c.k,.int c.o] (Z9 2) Z8=[.int c.k,.int c.o]:=rfl
def RZ(a:yA)(c:Ct):Prop:=(0<=c.a/\c.a<a.length)/\0<=c.b/\c.b<a.length
theorem LP{d:Ct}(c:d.ok sw pl)(a:∀p,0<=p->p<pl->0<=f p/\f p<pl')(b:f d.a≠f d.b):(d.mv f).ok sw pl':=by
 obtain⟨k,n,h,e,g,j,i⟩:=c;have m:=a d.a k (by omega);have l:=a d.b (by omega) h;refine⟨?_,?_,?_,e,g,j,i⟩
 ·show 0<=(if f d.b<f d.a then f d.b else f d.a);split<;>omega
 ·show(if f d.b<f d.a then f d.b else f d.a)<(if f d.b>f d.a then f d.b else f d.a);split<;>split<;>omega
 ·show(if f d.b>f d.a then f d.b else f d.a)<pl';split<;>omega
theorem OU{d:Ct}(b:f d.a=g d.a)(a:f d.b=g d.b):d.mv f=d.mv g:=by unfold Ct.mv;rw[b,a]
theorem VS:Yg N st=Z7↔∀C:Int->Prop,C 0->(∀c∈N.cs,XD c st=Z7->(C c.a↔C c.b))->C 1:=by
 unfold Yg;rw[LR];unfold QA YL;constructor
 ·intro h C b d;refine h C b λe f=>?_;obtain⟨c,a,rfl⟩:=qB9.mp f;rw[qE0]at a;exact d c a.1 a.2
 ·intro h C b d;refine h C b λc a g=>?_;exact d (c.a,c.b) (qB9.mpr ⟨c,qE0.mpr ⟨a,g⟩,rfl⟩)
theorem OT(h:Yg N st=Z5):∃C:Int->Prop,C 0/\(∀c∈N.cs,XD c st=Z7->(C c.a↔C c.b))/\¬C 1:=by refine Classical.byContradiction λa=>?_;have:Yg N st=Z7:=VS.mpr λC b e=>Classical.byContradiction λd=>a ⟨C,b,e,d⟩;rw[h]at this;cases this
theorem RY(f:Int->Int)(c:Ct)(C:Int->Prop):(C (c.mv f).a↔C (c.mv f).b)↔(C (f c.a)↔C (f c.b)):=by
 show(C (if f c.b<f c.a then f c.b else f c.a)↔C (if f c.b>f c.a then f c.b else f c.a))↔_;by_cases h:f c.b<f c.a
 ·rw[if_pos h,if_neg (by omega)];exact⟨λz=>z.symm,λz=>z.symm⟩
 ·rw[if_neg h];by_cases a:f c.b>f c.a
  ·rw[if_pos a]
  ·rw[if_neg a];have:f c.a=f c.b:=by omega
   rw[this]
noncomputable def X9(a:Int)(p:Int):Int:=if p=1 then a else p
noncomputable def X4(b a:Int)(k:Int):Int:=if k=0 then a else if k=1 then 1 else k+b - 2
noncomputable def W8(a:Int)(k:Int):Int:=if k=0 then 0 else if k=1 then 1 else k+a - 2
noncomputable def Zx.row(N M:Zx):Zx:=⟨N.sw,N.pl+M.pl - 2+1,N.cs.map (Ct.mv (X9 (N.pl+M.pl - 2)))++M.cs.map (Ct.mv (X4 N.pl (N.pl+M.pl - 2)))⟩
noncomputable def Zx.side(N M:Zx):Zx:=⟨N.sw,N.pl+M.pl - 2,N.cs++M.cs.map (Ct.mv (W8 N.pl))⟩
theorem t9{N M:Zx}(j:N.g)(k:M.g)(st:yA):Yg (N.row M) st=(Yg N st&&Yg M st):=by
 have K:=j.p1;have I:=k.p1;refine Vf ?_;rw[qC4];have y:∀C:Int->Prop,(∀c∈(N.row M).cs,XD c st=Z7->(C c.a↔C c.b))↔(∀c∈N.cs,XD c st=Z7->(C (X9 (N.pl+M.pl - 2) c.a)↔C (X9 (N.pl+M.pl - 2) c.b)))/\(∀c∈M.cs,XD c st=Z7->(C (X4 N.pl (N.pl+M.pl - 2) c.a)↔C (X4 N.pl (N.pl+M.pl - 2) c.b))):=by
  intro C;show(∀c∈N.cs.map _++M.cs.map _,_)↔_;constructor
  ·intro h;exact⟨λc b f=>(RY _ c C).mp (h _ (qE9 _ (qB9.mpr ⟨c,b,rfl⟩)) f),λc b f=>(RY _ c C).mp (h _ (qC5 _ (qB9.mpr ⟨c,b,rfl⟩)) f)⟩
  ·intro h c b f;rcases qB7.mp b with q|q
   ·obtain⟨d,A,rfl⟩:=qB9.mp q;exact(RY _ d C).mpr (h.1 d A f)
   ·obtain⟨d,A,rfl⟩:=qB9.mp q;exact(RY _ d C).mpr (h.2 d A f)
 constructor
 ·intro h;refine⟨?_,?_⟩
  ·refine Classical.byContradiction λB=>?_;obtain⟨r,o,w,v⟩:=OT (by simpa using B);have:=VS.mp h (λx=>x≠1/\x<N.pl/\r x) ⟨by decide,by omega,o⟩ ((y (λx=>x≠1/\x<N.pl/\r x)).mpr ⟨λc b f=>?_,λc b f=>?_⟩)
   ·exact this.1 rfl
   ·obtain⟨l,E,n,_⟩:=j.c2 c b;have e:=w c b f;have a:∀x,0<=x->x<N.pl->((X9 (N.pl+M.pl - 2) x≠1/\X9 (N.pl+M.pl - 2) x<N.pl/\r (X9 (N.pl+M.pl - 2) x))↔r x):=λx u s=>by
     unfold X9;by_cases i:x=1
     ·rw[if_pos i,i];exact⟨λz=>by omega,λz=>absurd z v⟩
     ·rw[if_neg i];exact⟨λz=>z.2.2,λz=>⟨i,s,z⟩⟩
    rw[a c.a l (by omega),a c.b (by omega) n];exact e
   ·obtain⟨l,E,n,_⟩:=k.c2 c b;have a:∀x,0<=x->¬(X4 N.pl (N.pl+M.pl - 2) x≠1/\X4 N.pl (N.pl+M.pl - 2) x<N.pl/\r (X4 N.pl (N.pl+M.pl - 2) x)):=λx u z=>by
     unfold X4 at z;by_cases m:x=0
     ·rw[if_pos m]at z;omega
     ·rw[if_neg m]at z;by_cases g:x=1
      ·rw[if_pos g]at z;exact z.1 rfl
      ·rw[if_neg g]at z;omega
    exact iff_of_false (a _ l) (a _ (by omega))
  ·refine Classical.byContradiction λB=>?_;obtain⟨p,o,w,v⟩:=OT (by simpa using B);have:=VS.mp h (λx=>x≠1/\(x<N.pl∨x=N.pl+M.pl - 2∨p (x - N.pl+2))) ⟨by decide,.inl (by omega)⟩ ((y (λx=>x≠1/\(x<N.pl∨x=N.pl+M.pl - 2∨p (x - N.pl+2)))).mpr ⟨λc b f=>?_,λc b f=>?_⟩)
   ·exact this.1 rfl
   ·obtain⟨l,E,n,_⟩:=j.c2 c b;have a:∀x,0<=x->x<N.pl->(X9 (N.pl+M.pl - 2) x≠1/\(X9 (N.pl+M.pl - 2) x<N.pl∨X9 (N.pl+M.pl - 2) x=N.pl+M.pl - 2∨p (X9 (N.pl+M.pl - 2) x - N.pl+2))):=λx u s=>by
     unfold X9;by_cases i:x=1
     ·rw[if_pos i];exact⟨by omega,.inr (.inl rfl)⟩
     ·rw[if_neg i];exact⟨i,.inl s⟩
    exact iff_of_true (a _ l (by omega)) (a _ (by omega) n)
   ·obtain⟨l,E,n,_⟩:=k.c2 c b;have e:=w c b f;have a:∀x,0<=x->x<M.pl->((X4 N.pl (N.pl+M.pl - 2) x≠1/\(X4 N.pl (N.pl+M.pl - 2) x<N.pl∨X4 N.pl (N.pl+M.pl - 2) x=N.pl+M.pl - 2∨p (X4 N.pl (N.pl+M.pl - 2) x - N.pl+2)))↔p x):=λx u s=>by
     unfold X4;by_cases m:x=0
     ·rw[if_pos m,m];exact iff_of_true ⟨by omega,.inr (.inl rfl)⟩ o
     ·rw[if_neg m];by_cases g:x=1
      ·rw[if_pos g,g];exact iff_of_false (λz=>z.1 rfl) v
      ·rw[if_neg g,show x+N.pl - 2 - N.pl+2=x by omega];exact⟨λz=>by rcases z.2 with z|z|z;omega;omega;exact z,λz=>⟨by omega,.inr (.inr z)⟩⟩
    rw[a c.a l (by omega),a c.b (by omega) n];exact e
 ·intro⟨g,F⟩;refine VS.mpr λC o J=>?_;obtain⟨H,G⟩:=(y C).mp J;have t:C (X9 (N.pl+M.pl - 2) 1):=VS.mp g (λx=>C (X9 (N.pl+M.pl - 2) x)) (by show C (X9 _ 0);unfold X9;rw[if_neg (by decide)];exact o) H;have D:C (X4 N.pl (N.pl+M.pl - 2) 1):=VS.mp F (λx=>C (X4 N.pl (N.pl+M.pl - 2) x)) (by show C (X4 _ _ 0);unfold X4;rw[if_pos rfl];unfold X9 at t;rw[if_pos rfl]at t;exact t) G;unfold X4 at D;rw[if_neg (by decide),if_pos rfl]at D;exact D
theorem t8{N M:Zx}(g:N.g)(i:M.g)(st:yA):Yg (N.side M) st=(Yg N st||Yg M st):=by
 have J:=g.p1;have F:=i.p1;refine Vf ?_;rw[qE8];have r:∀C:Int->Prop,(∀c∈(N.side M).cs,XD c st=Z7->(C c.a↔C c.b))↔(∀c∈N.cs,XD c st=Z7->(C c.a↔C c.b))/\(∀c∈M.cs,XD c st=Z7->(C (W8 N.pl c.a)↔C (W8 N.pl c.b))):=by
  intro C;show(∀c∈N.cs++M.cs.map _,_)↔_;constructor
  ·intro h;exact⟨λc b f=>h _ (qE9 _ b) f,λc b f=>(RY _ c C).mp (h _ (qC5 _ (qB9.mpr ⟨c,b,rfl⟩)) f)⟩
  ·intro h c b f;rcases qB7.mp b with q|q
   ·exact h.1 c q f
   ·obtain⟨d,E,rfl⟩:=qB9.mp q;exact(RY _ d C).mpr (h.2 d E f)
 constructor
 ·intro h;refine Classical.byContradiction λo=>?_;rw[not_or]at o;obtain⟨l,j,A,p⟩:=OT (show Yg N st=Z5 by simpa using o.1);obtain⟨k,v,D,u⟩:=OT (show Yg M st=Z5 by simpa using o.2);have:=VS.mp h (λx=>(x<N.pl/\l x)∨(N.pl<=x/\k (x - N.pl+2))) (.inl ⟨by omega,j⟩) ((r (λx=>(x<N.pl/\l x)∨(N.pl<=x/\k (x - N.pl+2)))).mpr ⟨λc b f=>?_,λc b f=>?_⟩)
  ·rcases this with z|z
   ·exact p z.2
   ·omega
  ·obtain⟨t,H,s,_⟩:=g.c2 c b;have e:=A c b f;have a:∀x,x<N.pl->(((x<N.pl/\l x)∨(N.pl<=x/\k (x - N.pl+2)))↔l x):=λx B=>⟨λz=>by rcases z with z|z;exact z.2;omega,λz=>.inl ⟨B,z⟩⟩
   rw[a c.a (by omega),a c.b s];exact e
  ·obtain⟨t,H,s,_⟩:=i.c2 c b;have e:=D c b f;have a:∀x,0<=x->(((W8 N.pl x<N.pl/\l (W8 N.pl x))∨(N.pl<=W8 N.pl x/\k (W8 N.pl x - N.pl+2)))↔k x):=λx I=>by
    unfold W8;by_cases m:x=0
    ·rw[if_pos m,m];exact iff_of_true (.inl ⟨by omega,j⟩) v
    ·rw[if_neg m];by_cases n:x=1
     ·rw[if_pos n,n];exact iff_of_false (λz=>by rcases z with z|z;exact p z.2;omega) u
     ·rw[if_neg n,show x+N.pl - 2 - N.pl+2=x by omega];exact⟨λz=>by rcases z with z|z;omega;exact z.2,λz=>.inr ⟨by omega,z⟩⟩
   rw[a c.a t,a c.b (by omega)];exact e
 ·intro h;refine VS.mpr λC j G=>?_;obtain⟨y,w⟩:=(r C).mp G;rcases h with h|h
  ·exact VS.mp h C j y
  ·have:=VS.mp h (λx=>C (W8 N.pl x)) j w;exact this
theorem OS{x y a:Int}{n:Nat}{p:Int}(d:0<=p)(e:p<n+2):XB ([x,y]++(List.range n).map fun(k:Nat)=>a+(k:Int)) p=if p=0 then x else if p=1 then y else a+(p - 2):=by
 unfold XB;by_cases b:p=0
 ·subst b;rfl
 ·rw[if_neg b];by_cases c:p=1
  ·subst c;rfl
  ·rw[if_neg c,qG5,qA3 (by show 2<=p.toNat;omega),qB3,qH0 (by show p.toNat - 2<n;omega)];show a+((p.toNat - 2:Nat):Int)=_;omega
theorem t7(x y a:Int)(n:Nat):([x,y]++(List.range n).map fun(k:Nat)=>a+(k:Int)).length=n+2:=by simp
theorem GU(d a p:Int):X4 d a p=if p=0 then a else if p=1 then 1 else d+(p - 2):=by
 unfold X4;by_cases b:p=0
 ·rw[if_pos b,if_pos b]
 ·rw[if_neg b,if_neg b];by_cases c:p=1
  ·rw[if_pos c,if_pos c]
  ·rw[if_neg c,if_neg c];omega
theorem GT(c p:Int):W8 c p=if p=0 then 0 else if p=1 then 1 else c+(p - 2):=by
 unfold W8;by_cases a:p=0
 ·rw[if_pos a,if_pos a]
 ·rw[if_neg a,if_neg a];by_cases b:p=1
  ·rw[if_pos b,if_pos b]
  ·rw[if_neg b,if_neg b];omega
open PySem L2
inductive Tr where
 |lf (k o:Int)
 |nd (r:Bool) (ps:List Tr)
noncomputable def kw(r:Bool):Str:=if r then Str.ofString "row" else Str.ofString "side"
mutual
noncomputable def Tr.d:Tr->D
 |.lf k o=>.tup [.str (Str.ofString "at"),.int k,.int o]
 |.nd r a=>.tup [.str (kw r),.tup (Tr.ds a)]
noncomputable def Tr.ds:List Tr->yM
 |[]=>[]
 |t::r=>t.d::Tr.ds r
end
mutual
noncomputable def Tr.ht:Tr->Nat
 |.lf _ _=>0
 |.nd _ a=>Tr.hts a+1
noncomputable def Tr.hts:List Tr->Nat
 |[]=>0
 |t::r=>max t.ht (Tr.hts r)
end
mutual
noncomputable def Tr.sz:Tr->Nat
 |.lf _ _=>1
 |.nd _ a=>Tr.szs a+1
noncomputable def Tr.szs:List Tr->Nat
 |[]=>0
 |t::r=>t.sz+Tr.szs r
end
theorem Ta:∀ps,Tr.ds ps=ps.map Tr.d
 |[]=>rfl
 |t::r=>by show t.d::Tr.ds r=_;rw[Ta r];rfl
theorem UK:∀{ps:List Tr}{t:Tr},t∈ps->t.ht<=Tr.hts ps
 |p::r,t,h=>by
  show t.ht<=max p.ht (Tr.hts r);rcases qA8.mp h with rfl|h
  ·omega
  ·have:=UK h;omega
theorem t5:∀t:Tr,1<=t.sz
 |.lf _ _=>qA6 _
 |.nd _ a=>by show 1<=Tr.szs a+1;omega
theorem RX:∀{ps:List Tr}{t:Tr},t∈ps->t.sz<=Tr.szs ps
 |p::r,t,h=>by
  show t.sz<=p.sz+Tr.szs r;rcases qA8.mp h with rfl|h
  ·omega
  ·have:=RX h;omega
theorem OQ:∀ps:List Tr,ps.length<=Tr.szs ps
 |[]=>qA6 _
 |p::r=>by show r.length+1<=p.sz+Tr.szs r;have:=OQ r;have:=t5 p;omega
theorem OP(r:Bool):(kw r=Str.ofString "at")=False:=by cases r<;>simp only[eq_iff_iff,iff_false]<;>decide +kernel
theorem OO(r:Bool):(kw r=Str.ofString "row")=(r=Z7):=by
 cases r
 ·simp only[eq_iff_iff];constructor<;>intro h<;>revert h<;>decide +kernel
 ·simp only[eq_iff_iff];constructor<;>intro h<;>first|rfl|trivial
@[simp]theorem lN(a b:Str)(S:ZU):Y8 (.str a) (.str b) S=.ok (.bl (decide (a=b))) S:=rfl
noncomputable def Tr.un(r:Bool):Tr->List Tr
 |.nd b a=>if b=r then a else[.nd b a]
 |.lf k o=>[.lf k o]
theorem GS:∀a b:List Tr,Tr.szs (a++b)=Tr.szs a+Tr.szs b
 |[],b=>by show Tr.szs b=0+Tr.szs b;omega
 |t::r,b=>by show t.sz+Tr.szs (r++b)=t.sz+Tr.szs r+Tr.szs b;rw[GS r b];omega
theorem t4(r:Bool):PyData.strOk (kw r)=Z7:=by cases r<;>decide +kernel
theorem tZ(L:List Tr)(a:Nat):Tr.szs L=Tr.szs (L.take a)+Tr.szs (L.drop a):=by have:=GS (L.take a) (L.drop a);rw[qF5]at this;exact this
mutual
noncomputable def Tr.lv:Tr->Nat
 |.lf _ _=>1
 |.nd _ a=>Tr.lvs a
noncomputable def Tr.lvs:List Tr->Nat
 |[]=>0
 |t::r=>t.lv+Tr.lvs r
end
mutual
def Tr.wf(sw:Int):Tr->Prop
 |.lf k o=>0<=k/\k<sw/\0<=o/\o<2
 |.nd _ a=>2<=a.length/\Tr.wfs sw a
def Tr.wfs(sw:Int):List Tr->Prop
 |[]=>True
 |t::r=>t.wf sw/\Tr.wfs sw r
end
theorem Ug{sw:Int}:∀{ps:List Tr},Tr.wfs sw ps->∀t∈ps,t.wf sw
 |p::r,h,t,ht=>by
  rcases qA8.mp ht with rfl|ht
  ·exact h.1
  ·exact Ug h.2 t ht
mutual
theorem ON:∀t:Tr,t.wf sw->1<=t.lv
 |.lf _ _,_=>qA6 _
 |.nd r a,h=>by have:=lvs_len a h.2;have:=h.1;show 1<=Tr.lvs a;omega
theorem lvs_len:∀ps:List Tr,Tr.wfs sw ps->ps.length<=Tr.lvs ps
 |[],_=>qA6 _
 |t::r,h=>by have:=ON t h.1;have:=lvs_len r h.2;show r.length+1<=t.lv+Tr.lvs r;omega
end
mutual
theorem LO:∀t:Tr,t.wf sw->t.sz+1<=2*t.lv
 |.lf _ _,_=>qA6 _
 |.nd r a,h=>by have:=szs_lv a h.2;have:=h.1;show Tr.szs a+1+1<=2*Tr.lvs a;omega
theorem szs_lv:∀ps:List Tr,Tr.wfs sw ps->Tr.szs ps+ps.length<=2*Tr.lvs ps
 |[],_=>qA6 _
 |t::r,h=>by have:=LO t h.1;have:=szs_lv r h.2;show t.sz+Tr.szs r+(r.length+1)<=2*(t.lv+Tr.lvs r);omega
end
theorem tY(T:ZU)(r:Int)(a:0<=r)(c:r<2):∃b,ZL (.lst T.length) (.int r) (T++[.lst [.str (Str.ofString "row"),.str (Str.ofString "side")]])=.ok (.str (kw b)) (T++[.lst [.str (Str.ofString "row"),.str (Str.ofString "side")]]):=by
 have e:=W9 (Zh T [.str (Str.ofString "row"),.str (Str.ofString "side")]) r;have:r=0∨r=1:=by omega
 rcases this with rfl|rfl
 ·exact⟨Z7,by rw[e];rfl⟩
 ·exact⟨Z5,by rw[e];rfl⟩
noncomputable def LN(cl:ZO):CS:=(ZV (ZF (ZC (ZS [(ZW ZL (Zr (ZS [(ZX (.str (Str.ofString "row"))),(ZX (.str (Str.ofString "side")))])) (ZT (cl "_law_take") (ZS [(ZY 0),(ZX (.int 2))]))),(ZT XY (ZS [(ZY 4)]))])))
  ZG)
theorem LM(cl:ZO):Tn cl=(ZV (YR (Yu (Zt (ZW Vj (ZY 2) (ZX (.int 2)))) (Zt (ZW Y8 (ZT (cl "_law_take") (ZS [(ZY 0),(ZX (.int 5))])) (ZX (.int 0))))) (ZV (ZF (ZC (ZS [(ZX (.str (Str.ofString "at"))),(ZT (cl "_law_take") (ZS [(ZY 0),(ZY 1)])),(ZT (cl "_law_take") (ZS [(ZY 0),(ZX (.int 2))]))])))
  ZG) ZG)
  (ZV (ZP (ZW ZK (ZX (.int 1)) (ZT (cl "_law_take") (ZS [(ZY 0),(ZW (Zw λi j=>i - j) (ZY 2) (ZX (.int 1)))]))) (gN 3))
  (ZV (ZP (Zr (ZS [(ZT (cl "_law_tree") (ZS [(ZY 0),(ZY 1),(ZY 3)])),(ZT (cl "_law_tree") (ZS [(ZY 0),(ZY 1),(ZW (Zw λi j=>i - j) (ZY 2) (ZY 3))]))])) (gN 4))
  (ZV (YR (VE (Zt (ZW (YM λi j=>decide (j<i)) (ZY 3) (ZX (.int 1)))) (Zt (ZW Y8 (ZT (cl "_law_take") (ZS [(ZY 0),(ZX (.int 3))])) (ZX (.int 0))))) (ZV (ZP (ZW ZK (ZX (.int 1)) (ZT (cl "_law_take") (ZS [(ZY 0),(ZW (Zw λi j=>i - j) (ZY 3) (ZX (.int 1)))]))) (gN 5))
  (ZV (ZP (ZT (cl "_law_tree") (ZS [(ZY 0),(ZY 1),(ZY 5)])) (gS (ZY 4) (ZX (.int 0))))
  (ZV (Xd (W2 "list" (XJ W1) (ZY 4) (ZS [(ZX (.int 1)),(ZT (cl "_law_tree") (ZS [(ZY 0),(ZY 1),(ZW (Zw λi j=>i - j) (ZY 3) (ZY 5))]))])))
  ZG))) ZG)
  (LN cl))))):=rfl
theorem tX(h:Hk cl)(ht:Th cl){sw:Int}(s1:1<=sw)(s4:sw<=4):∀(H:Nat) (m:Int),1<=m->m<=H+1->H<=100->∀(n:Nat) (S:ZU) (i:Nat),Zu S i->∃(t:Tr) (v:ZU),cl (n+H+2) "_law_tree" [.lst i,.int sw,.int m] S=.ok t.d v/\t.wf sw/\(t.lv:Int)<=m/\t.ht<=H/\Kp (·=i) S v/\Zu v i:=by
 have B:∀(H:Nat) (n:Nat) (S:ZU) (i:Nat),Zu S i->∃(k o:Int) (v y:ZU),cl (n+H+1) "_law_take" [.lst i,.int sw] S=.ok (.int k) v/\cl (n+H+1) "_law_take" [.lst i,.int 2] v=.ok (.int o) y/\(Tr.lf k o).wf sw/\Kp (·=i) S y/\Zu y i:=λH n S i Z=>by obtain⟨k,v,I,a1,a2,k1,_,L⟩:=Yh ht (n+H) Z (m:=sw) (by omega) (by omega);obtain⟨o,y,w,b1,b2,N,_,l⟩:=Yh ht (n+H) L (m:=2) (by decide) (by decide);exact⟨k,o,v,y,I,w,⟨a1,a2,b1,b2⟩,k1.trans N,l⟩
 intro H
 induction H with
 |zero =>
  intro m m1 m2 hH n S i Z;have:m=1:=by omega
  subst this;obtain⟨k,o,v,y,I,w,wf,N,l⟩:=B 0 n S i Z;refine⟨.lf k o,y,?_,wf,qQ1 _,qA6 _,N,l⟩;rw[show n+0+2=(n+0+1)+1 from rfl,h];refine Y7 rfl ?_;simp only[Nat.add_zero]at I w;simp[Tn,Y1,I,w,Tr.d]
 |succ H ih =>
  intro m m1 m2 hH n S i Z;rw[show n+(H+1)+2=(n+(H+1)+1)+1 from rfl,h];by_cases hm:m<2
  ·obtain⟨k,o,v,y,I,w,wf,N,l⟩:=B (H+1) n S i Z;refine⟨.lf k o,y,Y7 rfl ?_,wf,by show((1:Nat):Int)<=m;omega,qE1 _,N,l⟩;simp[Tn,Y1,hm,I,w,Tr.d]
  obtain⟨r5,v,I,_,_,k1,_,L⟩:=Yh ht (n+(H+1)) Z (m:=5) (by decide) (by decide);by_cases h5:r5=0
  ·subst h5;obtain⟨k,o,y,S3,w,X,wf,N,l⟩:=B (H+1) n v i L;refine⟨.lf k o,S3,Y7 rfl ?_,wf,by show((1:Nat):Int)<=m;omega,qE1 _,k1.trans N,l⟩;simp[Tn,Y1,hm,I,w,X,Tr.d]
  obtain⟨f,y,w,f0,f1,N,_,l⟩:=Yh ht (n+(H+1)) L (m:=m - 1) (by omega) (by omega);generalize hfew:1+f=few at *;obtain⟨s,S3,X,wf1,lv1,ht1,k3,st3⟩:=ih few (by omega) (by omega) (by omega) n y i l;obtain⟨a,S4,e4,V,lv2,ht2,k4,st4⟩:=ih (m - few) (by omega) (by omega) (by omega) n S3 i st3;rw[show n+H+2=n+(H+1)+1 from rfl]at X e4;have M:=((k1.trans N).trans k3).trans k4;have hi4:=st4.lt;obtain⟨p,hp⟩:∃p,S4.length=p:=⟨_,rfl⟩
  have x5:=Zn S4 [.lst [s.d,a.d]];have l5:ZH (S4++[.lst [s.d,a.d]]) p=Z9 [s.d,a.d]:=by rw[<- hp];exact Zh _ _
  have Q:=st4.ex x5;have P:p≠i:=by omega
  generalize hS5:S4++[O.lst [s.d,a.d]]=S5 at x5 l5 Q;have T:∀(x:List Tr) (A:ZU) (v5:Option D),2<=x.length->x.length<=3->Tr.wfs sw x->(Tr.lvs x:Int)<=m->Tr.hts x<=H->ZH A p=Z9 (x.map Tr.d)->Kp (·=i) S A->Zu A i ->
    ∃(t:Tr) (S7:ZU),LN (cl (n+(H+1)+1)) [Z9 (.lst i),Z9 (.int sw),Z9 (.int m),Z9 (.int few),Z9 (.lst p),v5] A=.rt t.d S7/\t.wf sw/\(t.lv:Int)<=m/\t.ht<=H+1/\Kp (·=i) S S7/\Zu S7 i:=by
   intro x A v5 l2 l3 wf lv hts lp K C;have x7:=Zn A [.lst [.str (Str.ofString "row"),.str (Str.ofString "side")]];obtain⟨r,S8,e8,r0,r1,W,n8,U⟩:=Yh ht (n+(H+1)) (C.ex x7) (m:=2) (by decide) (by decide);obtain⟨b,Y⟩:=tY A r r0 r1;have lq:ZH S8 A.length=Z9 [.str (Str.ofString "row"),.str (Str.ofString "side")]:=W.lst (Zh _ _) (by have:=C.lt;omega);have hb8:ZL (.lst A.length) (.int r) S8=.ok (.str (kw b)) S8:=by
    have e:=W9 lq r;rw[W9 (Zh _ _)]at Y;rw[e];revert Y;cases XZ [D.str (Str.ofString "row"),.str (Str.ofString "side")] r with
    |none=>intro Y;cases Y
    |some d=>intro Y;cases Y;rfl
   have lp8:ZH S8 p=Z9 (x.map Tr.d):=W.lst (x7.lst lp λz=>z) P;have s:=Uq lp8;refine⟨.nd b x,S8,?_,⟨l2,wf⟩,lv,by show Tr.hts x+1<=H+1;omega,(K.trans x7.kp).trans W,U⟩;show _=RS.rt (.tup [.str (kw b),.tup (Tr.ds x)]) S8;rw[Ta];generalize x.map Tr.d=R at *;simp[LN,e8,hb8,s]
  by_cases hf:few>1
  ·obtain⟨r3,A,e6,_,_,k6,_,C⟩:=Yh ht (n+(H+1)) Q (m:=3) (by decide) (by decide);by_cases h3:r3=0
   ·subst h3;obtain⟨g,S7,e7,g0,g1,k7,_,st7⟩:=Yh ht (n+(H+1)) C (m:=few - 1) (by omega) (by omega);generalize hless:1+g=less at *;obtain⟨q,S8,e8,wf3,lv3,ht3,W,U⟩:=ih less (by omega) (by omega) (by omega) n S7 i st7;rw[show n+H+2=n+(H+1)+1 from rfl]at e8;have l8:ZH S8 p=Z9 [s.d,a.d]:=W.lst (k7.lst (k6.lst l5 P) P) P;have s8:=Ts l8 0 q.d;have l9:=V7 (ys:=[q.d,a.d]) l8;have k9:=Up (i:=p) S8 (.lst [q.d,a.d]);have st9:Zu (S8.set p (.lst [q.d,a.d])) i:=U.kp k9 (λz=>P z.symm);obtain⟨u,c,e10,wf4,lv4,ht4,k10,st10⟩:=ih (few - less) (by omega) (by omega) (by omega) n _ i st9;rw[show n+H+2=n+(H+1)+1 from rfl]at e10;have l10:ZH c p=Z9 [q.d,a.d]:=k10.lst l9 P;have q9:=Uo l9;have a10:=Tt l10 W1 [.int 1,u.d];have l11:=V7 (ys:=[q.d,u.d,a.d]) l10;have k11:=Up (i:=p) c (.lst [q.d,u.d,a.d]);have st11:Zu (c.set p (.lst [q.d,u.d,a.d])) i:=st10.kp k11 (λz=>P z.symm);have kAll:Kp (·=i) S (c.set p (.lst [q.d,u.d,a.d])):=by
     have pS:S.length<=p:=by have:=M.le;omega
     have K:Kp (λj=>j=i∨j=p) S (c.set p (.lst [q.d,u.d,a.d])) :=
      ((((((M.trans x5.kp).trans k6).trans k7).trans W).mono λj _ z=>.inl z).trans ((k9.mono λj _ z=>.inr z).trans ((k10.mono λj _ z=>.inl z).trans (k11.mono λj _ z=>.inr z))))
     exact⟨K.le,λj hj nj=>K.eq j hj λz=>z.elim nj λz=>by omega⟩
    obtain⟨t,G,J,wf,lv,hh,K,E⟩:=T [q,u,a] (c.set p (.lst [q.d,u.d,a.d])) (Z9 (.int less)) (by show 2<=3;decide) (by show 3<=3;decide) ⟨wf3,wf4,V,trivial⟩ (by show((q.lv+(u.lv+(a.lv+0)):Nat):Int)<=m;omega) (by show max q.ht (max u.ht (max a.ht 0))<=H;omega) l11 kAll st11;refine⟨t,G,Y7 rfl ?_,wf,lv,hh,K,E⟩;have s8':XE (.lst p) (.int 0) q.d S8=Z9 (S8.set p (.lst [q.d,a.d])):=s8;have a10':XJ W1 (.lst p) [.int 1,u.d] c=.ok .non (c.set p (.lst [q.d,u.d,a.d])):=by rw[a10];rfl
    generalize s.d=d1 at *;generalize a.d=d2 at *;generalize q.d=d3 at *;generalize u.d=d4 at *;generalize hSa:S8.set p (.lst [d3,d2])=Sa at *;generalize hSb:c.set p (.lst [d3,d4,d2])=Sb at *;have F:(1:Int)<few:=hf;simp only[LM,Y1];simp[hm,I,h5,w,hfew,X,e4,hp,hS5,F,e6,e7,hless,e8,s8',q9,e10,a10',J]
   ·obtain⟨t,G,J,wf,lv,hh,K,E⟩:=T [s,a] A Z8 (by show 2<=2;decide) (by show 2<=3;decide) ⟨wf1,V,trivial⟩ (by show((s.lv+(a.lv+0):Nat):Int)<=m;omega) (by show max s.ht (max a.ht 0)<=H;omega) (k6.lst l5 P) ((M.trans x5.kp).trans k6) C;refine⟨t,G,Y7 rfl ?_,wf,lv,hh,K,E⟩;generalize s.d=d1 at *;generalize a.d=d2 at *;have F:(1:Int)<few:=hf;simp only[LM,Y1];simp[hm,I,h5,w,hfew,X,e4,hp,hS5,F,e6,h3,J]
  ·obtain⟨t,G,J,wf,lv,hh,K,E⟩:=T [s,a] S5 Z8 (by show 2<=2;decide) (by show 2<=3;decide) ⟨wf1,V,trivial⟩ (by show((s.lv+(a.lv+0):Nat):Int)<=m;omega) (by show max s.ht (max a.ht 0)<=H;omega) l5 (M.trans x5.kp) Q;refine⟨t,G,Y7 rfl ?_,wf,lv,hh,K,E⟩;generalize s.d=d1 at *;generalize a.d=d2 at *;have F:¬(1:Int)<few:=hf;simp only[LM,Y1];simp[hm,I,h5,w,hfew,X,e4,hp,hS5,F,J]
def kd(S:ZU)(d:D):Prop:=∃t,Su S d=Z9 t
noncomputable def isT:D->Bool|.tup _=>Z7|_=>Z5
noncomputable def OM:D->Bool|.int _=>Z7|.bl _=>Z7|_=>Z5
noncomputable def OL:D->Bool|.bl _=>Z7|_=>Z5
noncomputable def isS:D->Bool|.str _=>Z7|_=>Z5
theorem tW(S:ZU)(i:Int):kd S (.int i):=⟨_,rfl⟩
theorem LL(S:ZU)(xs:yM):kd S (.tup xs):=⟨_,rfl⟩
theorem OK(h:kd S (.lst k)):Su S (.lst k)=Z9 "list":=by
 obtain⟨t,h⟩:=h;have a:(if(ZH S k).isSome then Z9 "list" else Z8)=Z9 t:=h;show(if(ZH S k).isSome then Z9 "list" else Z8)=_;split at a
 ·rename_i b;rw[if_pos b]
 ·cases a
theorem OJ(h:kd S (.dct k)):Su S (.dct k)=Z9 "dict":=by
 obtain⟨t,h⟩:=h;have a:TL S k=Z9 t:=h;show TL S k=_;unfold TL at a;split at a
 ·rename_i b e;unfold TL;rw[e]
 ·cases a
theorem VR(h:Su S x=Z9 t)(a:T∈["bool","int","tuple","list","str","dict"]):YI [x,.ty T] S=.ok (.bl (NB t T)) S:=by unfold YI;dsimp only;rw[h];dsimp only;rw[if_pos a]
theorem LK(h:kd S x):YI [x,.ty "tuple"] S=.ok (.bl (isT x)) S:=by
 cases x with
 |lst k=>rw[VR (OK h) (by decide)];rfl
 |dct k=>rw[VR (OJ h) (by decide)];rfl
 |ty k=>obtain⟨t,h⟩:=h;cases h
 |rol k=>obtain⟨t,h⟩:=h;cases h
 |_=>rw[VR rfl (by decide)];rfl
theorem GR(h:kd S x):YI [x,.ty "str"] S=.ok (.bl (isS x)) S:=by
 cases x with
 |lst k=>rw[VR (OK h) (by decide)];rfl
 |dct k=>rw[VR (OJ h) (by decide)];rfl
 |ty k=>obtain⟨t,h⟩:=h;cases h
 |rol k=>obtain⟨t,h⟩:=h;cases h
 |_=>rw[VR rfl (by decide)];rfl
theorem tV(h:kd S x):YI [x,.ty "int"] S=.ok (.bl (OM x)) S:=by
 cases x with
 |lst k=>rw[VR (OK h) (by decide)];rfl
 |dct k=>rw[VR (OJ h) (by decide)];rfl
 |ty k=>obtain⟨t,h⟩:=h;cases h
 |rol k=>obtain⟨t,h⟩:=h;cases h
 |_=>rw[VR rfl (by decide)];rfl
theorem tU(h:kd S x):YI [x,.ty "bool"] S=.ok (.bl (OL x)) S:=by
 cases x with
 |lst k=>rw[VR (OK h) (by decide)];rfl
 |dct k=>rw[VR (OJ h) (by decide)];rfl
 |ty k=>obtain⟨t,h⟩:=h;cases h
 |rol k=>obtain⟨t,h⟩:=h;cases h
 |_=>rw[VR rfl (by decide)];rfl
noncomputable def W7(b a:Int):D->Bool
 |.int i=>decide (b<=i)&&decide (i<a)
 |_=>Z5
theorem GQ(h:L7 cl)(n:Nat)(c a:Int)(hk:kd S x):cl (n+1) "_law_whole" [x,.int c,.int a] S=.ok (.bl (W7 c a x)) S:=by
 rw[h];refine Y7 rfl ?_;have d:=tV hk;have e:=tU hk;cases x with
 |int i =>
  have:W7 c a (.int i)=(decide (c<=i)&&decide (i<a)):=rfl;rw[this];by_cases f:c<=i<;>by_cases g:i<a<;>simp[R7,Y1,d,e,OM,OL,f,g]
 |bl b=>simp[R7,Y1,d,e,OM,OL,W7]
 |_=>simp[R7,Y1,d,e,OM,OL,W7]
def GP(sw:Int)(l:yA):Prop:=l.length=2 ^ sw.toNat/\∀i∈l,0<=i/\i<2
noncomputable def LJ(r:List (yA)):D:=.tup (r.map Yb)
def OI(sw:Int)(p:Nat)(r:List (yA)):Prop:=r.length=p/\∀l∈r,GP sw l
abbrev Tb:=List (List (yA))
noncomputable def tD(T:Tb):D:=.tup (T.map LJ)
def LI(sw:Int)(T:Tb):Prop:=2<=T.length/\T.length<=7/\∀r∈T,OI sw T.length r
noncomputable def SZ(T:Tb)(a b:Nat):yA:=(T.getD a []).getD b []
def tT(T:Tb):Prop:=(∀a,a<T.length->0∉SZ T a a)/\∀a,a<T.length->∀b,b<a->SZ T a b=SZ T b a
theorem tS(ok:LI sw T)(b:a<T.length):T[a]?=Z9 (T.getD a [])/\OI sw T.length (T.getD a []):=by
 have:T.getD a []=T[a]:=by rw[qG8,qA4 b];rfl
 rw[this];exact⟨qA4 b,ok.2.2 _ (qE7 b)⟩
theorem zLG(ok:LI sw T)(e:a<T.length)(d:b<T.length):(T.getD a [])[b]?=Z9 (SZ T a b)/\GP sw (SZ T a b):=by
 obtain⟨_,l,o⟩:=tS ok e;have c:b<(T.getD a []).length:=by rw[l];exact d
 have:SZ T a b=(T.getD a [])[b]:=by unfold SZ;rw[qG8,qA4 c];rfl
 rw[this];exact⟨qA4 c,o _ (qE7 c)⟩
structure LH(S:ZU)(k:Nat)(rs:List Nat)(T:Tb):Prop where
 out:ZH S k=Z9 (rs.map D.lst)
 len:rs.length=T.length
 nd:rs.Nodup
 nk:k∉rs
 row:∀(a r:Nat),rs[a]?=Z9 r->ZH S r=Z9 ((T.getD a []).map Yb)
def TOk(a:ZU)(i k:Nat)(rs:List Nat)(sw:Int)(p:Nat)(S:ZU):Prop:=∃T,LH S k rs T/\LI sw T/\tT T/\T.length=p/\Kp (·=i) a S/\Zu S i
noncomputable def sE(x:Str):D->Bool
 |.str y=>decide (y=x)
 |_=>Z5
def Sn(d:D):Prop:=∃p,(∀S,Zl 40 S d=Z9 p)/\(∀x,p=.str x->d=.str x)/\(isS d=Z5->YC d=Z8->∃a,d=.tup a)
theorem LG(h:∀y,p≠.str y):PyData.eqv p (.str x)=Z5/\PyData.eqv (.str x) p=Z5:=by
 cases p with
 |str y=>exact absurd rfl (h y)
 |_=>exact⟨rfl,rfl⟩
theorem ne_str(h:Sn d)(a:PyData.strOk x=Z7)(S:ZU):Y8 d (.str x) S=.ok (.bl (sE x d)) S/\XM d (.str x) S=.ok (.bl (!sE x d)) S:=by
 obtain⟨p,g,b,_⟩:=h;cases d with
 |str y=>exact⟨rfl,rfl⟩
 |_ =>
  have c:∀y,p≠.str y:=λy e=>by have:=b y e;cases this
  have f:Zl 40 S (.str x)=Z9 (.str x):=by unfold Zl;dsimp only;rw[if_pos a]
  have:=(LG (x:=x) c).1;unfold Y8 XM;dsimp only;rw[g S,f];dsimp only;rw[this];exact⟨rfl,rfl⟩
theorem tR(h:Sn d)(r:PyData.strOk x=Z7)(t:PyData.strOk y=Z7)(S:ZU):Yr Z7 d (.tup [.str x,.str y]) S=.ok (.bl (!(sE x d||sE y d))) S:=by
 obtain⟨p,q,s,f⟩:=h;have l:∀z,PyData.strOk z=Z7->Zl 40 S (.str z)=Z9 (.str z):=λz o=>by unfold Zl;dsimp only;rw[if_pos o]
 have v:[D.str x,D.str y].mapM YC=Z9 [V.str x,V.str y]:=rfl;have j:[D.str x,D.str y].mapM (Zl 40 S)=Z9 [.str x,.str y]:=by rw[qH7,l x r,qH7,l y t];rfl
 have sq:Vk S (.tup [.str x,.str y])=Z9 [.str x,.str y]:=rfl;cases d with
 |str z =>
  have g:∀a b:Str,(a == b)=decide (b=a):=λa b=>by rw[qI6,beq_iff_eq,decide_eq_true_eq];exact eq_comm
  show R.ok (D.bl (!((x == z)||((y == z)||false)))) S=_;rw[g,g,qQ4];rfl
 |non=>rfl
 |bl b=>rfl
 |int i=>rfl
 |tup c =>
  have n:∀y,p≠.str y:=λy e=>by have:=s y e;cases this
  have g:=(LG (x:=x) n).2;have u:=(LG (x:=y) n).2;unfold Yr;dsimp only;rw[sq];show(match Zl 40 S (.tup c),[D.str x,D.str y].mapM (Zl 40 S)with|some p,Z9 m=>R.ok (D.bl (if Z7 then !(m.any λd=>PyData.eqv d p)else m.any λd=>PyData.eqv d p)) S|_,_=>.bad)=_;rw[q S,j];show R.ok (D.bl (!(PyData.eqv (.str x) p||(PyData.eqv (.str y) p||false)))) S=_;rw[g,u];rfl
 |lst k=>obtain⟨c,e⟩:=f rfl rfl;cases e
 |dct k=>obtain⟨c,e⟩:=f rfl rfl;cases e
 |ty k=>obtain⟨c,e⟩:=f rfl rfl;cases e
 |rol k=>obtain⟨c,e⟩:=f rfl rfl;cases e
theorem GO(h:PyData.strOk x=Z7):Sn (.str x):=⟨.str x,λS=>by unfold Zl;dsimp only;rw[if_pos h],λy e=>(by cases e;rfl),λa b=>(by cases b)⟩
def Gd(S:ZU):Nat->D->Prop
 |0,d=>kd S d/\isT d=Z5
 |n+1,d=>kd S d/\∀h r,d=.tup (h::r)->Sn h/\(∀x∈r,kd S x)/\∀a,r=[.tup a]->a.length<=1000/\∀x∈a,Gd S n x
theorem Gd.k(h:Gd S n d):kd S d:=by cases n<;>exact h.1
noncomputable abbrev SY:Str:=Str.ofString "at"
noncomputable abbrev UJ:Str:=Str.ofString "row"
noncomputable abbrev OH:Str:=Str.ofString "side"
theorem GN:PyData.strOk SY=Z7:=by decide +kernel
theorem tQ:PyData.strOk UJ=Z7:=by decide +kernel
theorem tP:PyData.strOk OH=Z7:=by decide +kernel
noncomputable def UI(sw:Int):D->Bool
 |.tup [h,a,b]=>sE SY h&&(W7 0 sw a&&W7 0 2 b)
 |_=>Z5
noncomputable def Wn:D->Option (yM)
 |.tup [h,.tup ps]=>if(sE UJ h||sE OH h)=Z7/\2<=ps.length then Z9 ps else Z8
 |_=>Z8
noncomputable def SX(l:List Nat):Nat:=if 0∈l then 0 else l.sum
noncomputable def Xk(sw:Int):Nat->D->Nat
 |0,_=>0
 |n+1,d=>if UI sw d then 1 else match Wn d with
  |some a=>SX (a.map (Xk sw n))
  |none=>0
theorem LF{d:Type}(xs:List d):(∃a b c,xs=[a,b,c])∨xs.length≠3:=by
 match xs with
 |[]=>exact .inr (by simp)
 |[_]=>exact .inr (by simp)
 |[_,_]=>exact .inr (by simp)
 |[a,b,c]=>exact .inl ⟨a,b,c,rfl⟩
 |_::_::_::_::_=>exact .inr (by simp)
theorem LD{c:Type}(xs:List c):(∃a b,xs=[a,b])∨xs.length≠2:=by
 match xs with
 |[]=>exact .inr (by simp)
 |[_]=>exact .inr (by simp)
 |[a,b]=>exact .inl ⟨a,b,rfl⟩
 |_::_::_::_=>exact .inr (by simp)
theorem tO{xs:yM}(h:xs.length≠3):UI sw (.tup xs)=Z5:=by
 match xs,h with
 |[],_=>rfl
 |[_],_=>rfl
 |[_,_],_=>rfl
 |_::_::_::_::_,_=>rfl
theorem GM{xs:yM}(h:xs.length≠2):Wn (.tup xs)=Z8:=by
 unfold Wn;split
 ·rename_i e;cases e;simp at h
 ·rfl
theorem Qz(h:D)(ps:yM):Wn (.tup [h,.tup ps])=if(sE UJ h||sE OH h)=Z7/\2<=ps.length then Z9 ps else Z8:=rfl
theorem tN(q:Wn d=Z9 ps):UI sw d=Z5:=by
 unfold Wn at q;split at q
 ·rfl
 ·cases q
theorem SW(q:UI sw d=Z5)(p:Wn d=Z8):Xk sw (N+1) d=0:=by show(if UI sw d then 1 else match Wn d with|some a=>_|none=>0)=0;rw[q,p];rfl
theorem GL(h:sE x d=Z7):isS d=Z7:=by cases d<;>first|rfl|cases h
theorem UH(q:Int)(S:ZU):Yr Z7 (.int q) (.tup [.int 2,.int 3]) S=.ok (.bl (!(decide (q=2)||decide (q=3)))) S:=by
 show R.ok (D.bl (!(((2:Int) == q)||(((3:Int) == q)||false)))) S=_;have e:∀a b:Int,(a == b)=decide (b=a):=λa b=>by rw[qI6,beq_iff_eq,decide_eq_true_eq];exact eq_comm
 rw[e,e,qQ4]
theorem GK(c:ZO)(sw:Int)(f:D->Nat)(S:ZU):∀(l:yM) (a:Nat) (v4 v5:Option D),(∀x∈l,c "_law_counted" [.int sw,x] S=.ok (.int (f x:Nat)) S) ->
  (0∈l.map f/\YV [] (gN 4) (Tj c) l [Z9 (.int sw),Z9 T0,v2,Z9 (.int (a:Nat)),v4,v5] S=.rt (.int 0) S) ∨
  (0∉l.map f/\∃w4 w5,YV [] (gN 4) (Tj c) l [Z9 (.int sw),Z9 T0,v2,Z9 (.int (a:Nat)),v4,v5] S=.nx [Z9 (.int sw),Z9 T0,v2,Z9 (.int ((a+(l.map f).sum:Nat):Nat)),w4,w5] S)
 |[],a,v4,v5,h=>.inr ⟨by simp,v4,v5,by unfold YV;rw[if_pos (X5 _)];rfl⟩
 |x::l,a,v4,v5,h=>by
  have g:=h x (by simp);unfold YV;rw[if_pos (X5 _)];simp only[Pv,qL1,qL2];by_cases d:f x=0
  ·refine .inl ⟨by simp[d],?_⟩;rw[d]at g;have i:c "_law_counted" [.int sw,x] S=.ok (.int 0) S:=g;have:Tj c [Z9 (.int sw),Z9 T0,v2,Z9 (.int (a:Nat)),Z9 x,v5] S=.rt (.int 0) S:=by simp[Tj,i]
   rw[this]
  ·have b:¬((f x:Nat):Int)=0:=by omega
   have:Tj c [Z9 (.int sw),Z9 T0,v2,Z9 (.int (a:Nat)),Z9 x,v5] S=.nx [Z9 (.int sw),Z9 T0,v2,Z9 (.int ((a+f x:Nat):Nat)),Z9 x,Z9 (.int (f x:Nat))] S:=by
    generalize hq:((f x:Nat):Int)=q at *;have:((a+f x:Nat):Int)=(a:Int)+q:=by omega
    rw[this];simp[Tj,g,b]
   rw[this];rcases GK c sw f S l (a+f x) (Z9 x) (Z9 (.int (f x:Nat))) (λy j=>h y (by simp[j]))with⟨z,e⟩| ⟨z,w4,w5,e⟩
   ·exact .inl ⟨by simp[z],e⟩
   ·refine .inr ⟨by simp at z ⊢;exact⟨λq=>d q.symm,z⟩,w4,w5,?_⟩;rw[qB5,List.sum_cons,<- Nat.add_assoc];exact e
theorem tM(h:Hh cl)(I:L7 cl)(sw:Int):∀(N n:Nat) {S:ZU}{d:D},Gd S N d->cl (n+N+2) "_law_counted" [.int sw,d] S=.ok (.int (Xk sw (N+1) d:Nat)) S:=by
 intro N
 induction N with
 |zero =>
  intro n S d g;rw[show n+0+2=(n+1)+1 from rfl,h];refine Y7 rfl ?_;have j:=LK g.k;rw[g.2]at j;have:Xk sw (0+1) d=0:=SW (by have:=g.2;cases d<;>first|rfl|cases this) (by have:=g.2;cases d<;>first|rfl|cases this);rw[this];simp[Wo,Y1,j]
 |succ N R =>
  intro n S d g;rw[show n+(N+1)+2=(n+N+2)+1 by omega,h];refine Y7 rfl ?_;have j:=LK g.k;cases d with
  |tup s =>
   rcases LF s with⟨a,b,c,rfl⟩| F
   ·obtain⟨t,o,_⟩:=g.2 a [b,c] rfl;have H:=GQ I (n+N+1) 0 sw (o b (by simp));have L:=GQ I (n+N+1) 0 2 (o c (by simp));have G:Wn (.tup [a,b,c])=Z8:=GM (by simp);have C:Xk sw (N+1+1) (.tup [a,b,c])=if(sE SY a&&(W7 0 sw b&&W7 0 2 c))=Z7 then 1 else 0:=by show(if(sE SY a&&(W7 0 sw b&&W7 0 2 c))=Z7 then 1 else match Wn (.tup [a,b,c])with|some ps=>SX (ps.map (Xk sw (N+1)))| none=>0)=_;rw[G]
    rw[C];have v:kd S a:=by
     obtain⟨p,B,u,f⟩:=t;cases a with
     |lst k=>obtain⟨_,z⟩:=f rfl rfl;cases z
     |dct k=>obtain⟨_,z⟩:=f rfl rfl;cases z
     |ty k=>obtain⟨_,z⟩:=f rfl rfl;cases z
     |rol k=>obtain⟨_,z⟩:=f rfl rfl;cases z
     |_=>exact⟨_,rfl⟩
    have i:=GR v;have l:=(ne_str t GN S).1;cases q:sE SY a with
    |true =>
     have r:=GL q;rw[q]at l;rw[r]at i;cases U:W7 0 sw b<;>cases Q:W7 0 2 c<;>rw[U]at H<;>rw[Q]at L<;>simp[Wo,Y1,j,isT,i,l,H,L,UH]
    |false =>
     rw[q]at l;cases r:isS a<;>rw[r]at i<;>simp[Wo,Y1,j,isT,i,l,UH]
   ·rcases LD s with⟨a,b,rfl⟩| w
    ·obtain⟨t,o,A⟩:=g.2 a [b] rfl;have v:kd S a:=by
      obtain⟨p,B,u,f⟩:=t;cases a with
      |lst k=>obtain⟨_,z⟩:=f rfl rfl;cases z
      |dct k=>obtain⟨_,z⟩:=f rfl rfl;cases z
      |ty k=>obtain⟨_,z⟩:=f rfl rfl;cases z
      |rol k=>obtain⟨_,z⟩:=f rfl rfl;cases z
      |_=>exact⟨_,rfl⟩
     have i:=GR v;have l:=tR t tQ tP S;have O:=LK (o b (by simp));cases r:isS a with
     |false =>
      rw[r]at i;have:Xk sw (N+1+1) (.tup [a,b])=0:=SW rfl (by
       cases b<;>first|rfl|(rw[Qz,if_neg];rintro⟨z,_⟩;rw[qE8]at z;rcases z with z|z<;>rw[GL z]at r<;>cases r))
      rw[this];simp[Wo,Y1,j,isT,i,UH]
     |true =>
      rw[r]at i;cases q:(sE UJ a||sE OH a)with
      |false =>
       rw[q]at l;have:Xk sw (N+1+1) (.tup [a,b])=0:=SW rfl (by
        cases b<;>first|rfl|(rw[Qz,if_neg];rintro⟨z,_⟩;rw[q]at z;cases z))
       rw[this];simp[Wo,Y1,j,isT,i,UH,l]
      |true =>
       rw[q]at l;cases b with
       |tup ps =>
        by_cases J:2<=ps.length
        ·have G:Wn (.tup [a,.tup ps])=Z9 ps:=by rw[Qz,if_pos ⟨q,J⟩]
         have C:Xk sw (N+1+1) (.tup [a,.tup ps])=SX (ps.map (Xk sw (N+1))):=by show(if UI sw (.tup [a,.tup ps])then 1 else match Wn (.tup [a,.tup ps])with|some ps=>SX (ps.map (Xk sw (N+1)))| none=>0)=_;rw[G];rfl
         rw[C];have m:¬((ps.length:Int)<2):=by omega
         have K:=GK (cl (n+N+2)) sw (T0:=.tup [a,.tup ps]) (v2:=Z8) (Xk sw (N+1)) S ps 0 Z8 Z8 (λx P=>R n ((A ps rfl).2 x P));have M:((0:Nat):Int)=0:=rfl;rw[M]at K;unfold SX;generalize hql:(ps.length:Int)=ql at *;rcases K with⟨z,e⟩| ⟨z,X,W,e⟩
         ·rw[if_pos z];simp[Wo,Y1,j,isT,i,UH,l,hql,m,e]
         ·rw[if_neg z,<- qR7 (List.sum _)];simp[Wo,Y1,j,isT,i,UH,l,hql,m,e]
        ·have:Xk sw (N+1+1) (.tup [a,.tup ps])=0:=SW rfl (by rw[Qz,if_neg λz=>J z.2]);rw[this];have m:(ps.length:Int)<2:=by omega
         generalize hql:(ps.length:Int)=ql at *;simp[Wo,Y1,j,isT,i,UH,l,hql,m]
       |_ =>
        have:∀y,(∀ps,y≠.tup ps)->Xk sw (N+1+1) (.tup [a,y])=0:=λy E=>SW rfl (by cases y<;>first|rfl|exact absurd rfl (E _));rw[this _ (by intro ps z;cases z)];simp[Wo,Y1,j,isT,i,UH,l,O]
    ·rw[show Xk sw (N+1+1) (.tup s)=0 from SW (tO F) (GM w)];have T:¬(s.length:Int)=2:=by omega
     have V:¬(s.length:Int)=3:=by omega
     generalize hq:(s.length:Int)=q at *;simp[Wo,Y1,j,isT,UH,hq,T,V]
  |_ =>
   have:∀y,(∀ps,y≠.tup ps)->Xk sw (N+1+1) y=0:=λy E=>by cases y<;>first|exact SW rfl rfl|exact absurd rfl (E _)
   rw[this _ (by intro ps z;cases z)];simp[Wo,Y1,j,isT]
mutual
theorem GJ:∀t:Tr,t.lv<=t.sz
 |.lf _ _=>qA6 _
 |.nd r a=>Nat.le_succ_of_le (lvs_szs a)
theorem lvs_szs:∀ps:List Tr,Tr.lvs ps<=Tr.szs ps
 |[]=>qA6 _
 |t::r=>Nat.add_le_add (GJ t) (lvs_szs r)
end
theorem tL(S:ZU):∀(H:Nat) (t:Tr),t.ht<=H->t.sz<=1000->Gd S (H+1) t.d:=by
 have a:∀(n:Nat) (k o:Int),Gd S (n+1) (Tr.lf k o).d:=λn k o=>⟨LL _ _,λh r e=>by
  have d:D.tup [.str (Str.ofString "at"),.int k,.int o]=.tup (h::r):=e;cases d;exact⟨GO GN,λx b=>by simp at b;rcases b with rfl|rfl<;>exact tW _ _,λc e=>by simp at e⟩⟩
 intro H
 induction H with
 |zero =>
  intro t ht f;cases t with
  |lf k o=>exact a 0 k o
  |nd r c=>simp[Tr.ht]at ht
 |succ H j =>
  intro t ht f;cases t with
  |lf k o=>exact a (H+1) k o
  |nd r c =>
   have i:Tr.hts c+1<=H+1:=ht;have l:Tr.szs c+1<=1000:=f;refine⟨LL _ _,λh q e=>?_⟩;have d:D.tup [.str (kw r),.tup (Tr.ds c)]=.tup (h::q):=e;cases d;refine⟨GO (t4 r),λx b=>by rw[qB6.mp b];exact LL _ _,λm e=>?_⟩;cases e;rw[Ta];refine⟨by rw[qA0];have:=OQ c;omega,λx b=>?_⟩;obtain⟨t,g,rfl⟩:=qB9.mp b;exact j t (by have:=UK g;omega) (by have:=RX g;omega)
mutual
noncomputable def Tr.on(st:yA):Tr->Bool
 |.lf k o=>decide (st.getD k.toNat 0=o)
 |.nd r a=>if r then Tr.onA st a else Tr.onO st a
noncomputable def Tr.onA(st:yA):List Tr->Bool
 |[]=>Z7
 |t::r=>t.on st&&Tr.onA st r
noncomputable def Tr.onO(st:yA):List Tr->Bool
 |[]=>Z5
 |t::r=>t.on st||Tr.onO st r
end
noncomputable def RW(sw:Int)(t:Tr):yA:=(YQ sw.toNat).map λa=>b1 (t.on a)
noncomputable def SV(r:Bool)(a b:Bool):Bool:=if r then a&&b else a||b
noncomputable def SU(r:Bool)(st:yA):Bool->List Tr->Bool
 |a,[]=>a
 |a,t::b=>SU r st (SV r a (t.on st)) b
theorem GI(r:Bool)(st:yA):∀(ps:List Tr) (a:Bool),SU r st a ps=SV r a (if r then Tr.onA st ps else Tr.onO st ps)
 |[],a=>by cases r<;>cases a<;>rfl
 |t::ps,a=>by show SU r st (SV r a (t.on st)) ps=_;rw[GI r st ps];cases r<;>simp[SV,Tr.onA,Tr.onO,Bool.and_assoc,Bool.or_assoc]
theorem tK(r:Bool)(st:yA)(t:Tr)(ps:List Tr):(Tr.nd r (t::ps)).on st=SU r st (t.on st) ps:=by rw[GI];cases r<;>simp[Tr.on,Tr.onA,Tr.onO,SV]
noncomputable def V5(sw k o:Int):Zx:=⟨sw,2,[⟨0,1,k,o⟩]⟩
theorem tJ(sw k o:Int)(st:yA):Yg (V5 sw k o) st=(Tr.lf k o).on st:=by
 have e:(Tr.lf k o).on st=XD ⟨0,1,k,o⟩ st:=rfl;rw[e,qI6,VS];constructor
 ·intro h;refine Classical.byContradiction λn=>?_;have:=h (λx=>x=0) rfl λc a d=>by simp only[V5,qA8,qD3,or_false]at a;subst a;exact absurd d n
  cases this
 ·intro h C b f;exact(f ⟨0,1,k,o⟩ (by simp[V5]) h).mp b
theorem GH{l:yA}(h:ZH S q=Z9 (l.map D.int))(neg:Bool)(a:Int):Yr neg (.int a) (.lst q) S=.ok (.bl (if neg then !decide (a∈l)else decide (a∈l))) S:=by have e:Vk S (.lst q)=Z9 (l.map D.int):=h;unfold Yr;dsimp only;rw[e];show(match (l.map D.int).mapM YC with|some b=>R.ok (D.bl (if neg then !Vo (.int a) b else Vo (.int a) b)) S|none=>.bad)=_;rw[GX];dsimp only;rw[GY]
theorem tI(c:ZO)(a:ZL b (.int k) S=.ok (.int x) S):UN c [Z9 (.tup [.str (Str.ofString "at"),.int k,.int o]),Z9 b,Z8] S=.rt (.int (b1 (decide (x=o)))) S:=by
 by_cases h:x=o
 ·simp[UN,a,h,b1]
 ·simp[UN,a,h,b1]
theorem LC(c:ZO)(e:c "_law_bit" [p,a] S=.ok d S1):QO c [Z9 p,Z9 a] S=.ok d S1:=by simp[QO,e]
theorem tH(c:ZO){r k:Bool}{X R:yM}(f:X.length<lim)(e:Y2 [] .one (λ_=>ret Z7) (QO c) [Z8,Z9 d] X S=.ok R a)(b:a++[.lst R]=S2)(o:(if r then Yr Z7 (.int 0) (.lst a.length) S2 else Yr Z5 (.int 1) (.lst a.length) S2)=.ok (.bl k) S2):UN c [Z9 (.tup [.str (kw r),.tup X]),Z9 d,Z8] S=.rt (.int (b1 k)) S2:=by
 cases r
 ·rw[if_neg qB1]at o;cases k<;>simp[UN,OP,OO,f,e,b,o,b1]
 ·rw[if_pos rfl]at o;cases k<;>simp[UN,OP,OO,f,e,b,o,b1]
theorem tG(st:yA)(ps:List Tr):(!decide ((0:Int)∈ps.map λt=>b1 (t.on st)))=Tr.onA st ps/\decide ((1:Int)∈ps.map λt=>b1 (t.on st))=Tr.onO st ps:=by
 induction ps with
 |nil=>exact⟨rfl,rfl⟩
 |cons t ps b =>
  obtain⟨c,a⟩:=b;rw[qB5];refine⟨?_,?_⟩
  ·show _=(t.on st&&Tr.onA st ps)
   rw[<- c];cases t.on st<;>simp[b1]
  ·show _=(t.on st||Tr.onO st ps)
   rw[<- a];cases t.on st<;>simp[b1]
theorem tF(h:L5 cl){sw:Int}{st:yA}(A:(st.length:Int)=sw):∀(K:Nat) (t:Tr),t.ht<=K->t.wf sw->t.sz<=1000->∀(n:Nat) (S:ZU),Wp (cl (n+K+1) "_law_bit" [t.d,Yb st] S) (.int (b1 (t.on st))) S:=by
 have a:∀(k o:Int),(Tr.lf k o).wf sw->∀(n:Nat) (S:ZU),Wp (cl (n+1) "_law_bit" [(Tr.lf k o).d,Yb st] S) (.int (b1 ((Tr.lf k o).on st))) S:=λk o b n S=>by
  obtain⟨s,d,_,_⟩:=b;have C:ZL (Yb st) (.int k) S=.ok (.int (st.getD k.toNat 0)) S:=by show ZL (.tup (st.map D.int)) (.int k) S=_;rw[ve,Td s (by omega)]
  refine⟨S,?_,Kp.refl _ _⟩;rw[h];exact Y7 rfl (tI _ C)
 intro K
 induction K with
 |zero =>
  intro t ht b j n S;cases t with
  |lf k o=>exact a k o b n S
  |nd r ps=>simp[Tr.ht]at ht
 |succ K y =>
  intro t ht b j n S;cases t with
  |lf k o=>exact a k o b (n+(K+1)) S
  |nd r ps =>
   have m:Tr.hts ps+1<=K+1:=ht;have z:Tr.szs ps+1<=1000:=j;have g:2<=ps.length/\Tr.wfs sw ps:=b;obtain⟨e,F,G⟩:=Mq Tr.d (w:=[]) (t:=.one) (c:=QO (cl (n+K+1))) (B0:=[Z8,Z9 (Yb st)]) (λf=>Ex S f) (λf _=>X5 _) (λt=>D.int (b1 (t.on st))) ps (Kp.refl _ _)
    (λt i f x=>by
     obtain⟨q,u,v⟩:=y t (by have:=UK i;omega) (Ug g.2 t i) (by have:=RX i;omega) n f;exact⟨_,rfl,q,LC _ u,x.trans v⟩)
   obtain⟨S2,d⟩:∃S2,e++[O.lst (ps.map λt=>D.int (b1 (t.on st)))]=S2:=⟨_,rfl⟩
   have l:ZH S2 e.length=Z9 ((ps.map λt=>b1 (t.on st)).map D.int):=by rw[<- d,qC8];exact Zh _ _
   have o:(if r then Yr Z7 (.int 0) (.lst e.length) S2 else Yr Z5 (.int 1) (.lst e.length) S2)=.ok (.bl ((Tr.nd r ps).on st)) S2:=by
    obtain⟨p,E⟩:=tG st ps;cases r
    ·rw[if_neg qB1,GH l,if_neg qB1,E];rfl
    ·rw[if_pos rfl,GH l,if_pos rfl,p];rfl
   refine⟨S2,?_,G.trans (by rw[<- d];exact Zn _ _)⟩;have B:(Tr.nd r ps).d=.tup [.str (kw r),.tup (ps.map Tr.d)]:=by simp[Tr.d,Ta]
   rw[show n+(K+1)+1=(n+K+1)+1 by omega,h,B];exact Y7 rfl (tH _ (by rw[qA0,Vw];have:=OQ ps;omega) F d o)
theorem LB(c:ZO)(e:c "_law_bit" [a,b] S=.ok d S1):QN c [Z9 b,Z9 a] S=.ok d S1:=by simp[QN,e]
theorem tb_run2'(c:ZO){BB R:yM}(g:c "_law_settings" [sw] S=.ok (.lst k) b)(f:ZH b k=Z9 BB)(i:BB.length<lim)(h:Y2 [(k,BB)] .one (λ_=>ret Z7) (QN c) [Z8,Z9 e] BB b=.ok R a)(t:XY [.lst a.length] (a++[.lst R])=.ok d (a++[.lst R])):QM c [Z9 sw,Z9 e] S=.rt d (a++[.lst R]):=by simp[QM,g,f,i,h,t]
theorem tE(h:Hi cl)(s:L5 cl)(hs:Pf cl)(q:1<=sw)(d:sw<=4)(ht:t.ht<=K)(j:t.wf sw)(hz:t.sz<=1000)(n:Nat)(S:ZU):Wp (cl (n+K+2) "_law_tree_bits" [.int sw,t.d] S) (Yb (RW sw t)) S:=by
 obtain⟨k,r,u,v,_,e⟩:=G1 hs (n+K) (sw:=sw) q d S;obtain⟨f,g,m⟩:=Mq Yb (w:=[(k,(YQ sw.toNat).map Yb)]) (t:=.one) (c:=QN (cl (n+K+1))) (B0:=[Z8,Z9 t.d]) (λa=>Ex r a) (λa x=>Vh (x.lst e λz=>z)) (λst=>D.int (b1 (t.on st))) (YQ sw.toNat) (Kp.refl _ _)
  (λst b a x=>by
   obtain⟨l,o,p⟩:=tF s (sw:=sw) (st:=st) (by have:=(OV _ st b).1;omega) K t ht j hz n a;exact⟨_,rfl,l,LB _ o,x.trans p⟩)
 have i:(YQ sw.toNat).map (λst=>D.int (b1 (t.on st)))=(RW sw t).map D.int:=by unfold RW;rw[qC8];rfl
 rw[i]at g;refine⟨_,?_,(v.trans m).trans (Zn f [.lst ((RW sw t).map D.int)])⟩;rw[show n+K+2=(n+K+1)+1 from rfl,h];exact Y7 rfl (tb_run2' _ u e (GZ d) g (Uq (Zh f _)))
theorem GG(h:R8 cl)(n:Nat)(b:RZ a c)(e:ZH S j=Z9 (a.map D.int)):cl (n+1) "_law_turned_ends" [c.d,.lst j] S=.ok (c.mv (XB a)).d S:=by
 have d:=W9 e c.a;have g2:=W9 e c.b;rw[Td b.1.1 b.1.2]at d;rw[Td b.2.1 b.2.2]at g2;rw[h];refine Y7 rfl ?_;have f:(2+2:Nat)<=lim:=by decide
 unfold Ct.mv Ct.d;dsimp only;change ZL (.lst j) (.int c.a) S=.ok (.int (XB a c.a)) S at d;change ZL (.lst j) (.int c.b) S=.ok (.int (XB a c.b)) S at g2;generalize XB a c.a=A at *;generalize XB a c.b=BB at *;simp[Pa,Y1,d,g2,ua,f]
noncomputable def Zx.sub(N:Zx)(l:List Nat):Zx:=⟨N.sw,N.pl,l.map λi=>N.cs.getD i ⟨0,0,0,0⟩⟩
noncomputable def jn(r:Bool)(N M:Zx):Zx:=if r then N.row M else N.side M
mutual
noncomputable def Tr.lay(sw:Int):Tr->Zx
 |.lf k o=>V5 sw k o
 |.nd r b=>match Tr.lays sw b with
  |[]=>V5 sw 0 0
  |N::a=>a.foldl (jn r) N
noncomputable def Tr.lays(sw:Int):List Tr->List Zx
 |[]=>[]
 |t::r=>t.lay sw::Tr.lays sw r
end
theorem GF(sw:Int):∀ps:List Tr,Tr.lays sw ps=ps.map (Tr.lay sw)
 |[]=>rfl
 |t::r=>by rw[qB5,<- GF sw r];rfl
theorem OG(sw:Int)(r:Bool)(t:Tr)(ps:List Tr):(Tr.nd r (t::ps)).lay sw=(ps.map (Tr.lay sw)).foldl (jn r) (t.lay sw):=by show(match Tr.lays sw (t::ps)with|[]=>V5 sw 0 0|N::a=>a.foldl (jn r) N)=_;rw[GF];rfl
structure Xj(sw:Int)(p c:Nat)(N:Zx):Prop where
 s:N.sw=sw
 p1:2<=N.pl
 p2:N.pl<=p
 c1:N.cs.length<=c
 c2:∀x∈N.cs,x.ok sw N.pl
theorem Xj.up(h:Xj sw p c N)(d:p<=b)(e:c<=a):Xj sw b a N:=⟨h.s,h.p1,by have:=h.p2;omega,by have:=h.c1;omega,h.c2⟩
theorem GE{N M:Zx}(r:Bool)(h:Xj sw p c N)(i:Xj sw t u M):Xj sw (p+t - 1) (c+u) (jn r N M)/\N.pl<=(jn r N M).pl/\M.pl<=(jn r N M).pl:=by
 have a:=h.p1;have b:=h.p2;have e:=i.p1;have d:=i.p2;have f:=h.c1;have g:=i.c1;cases r with
 |true =>
  refine⟨⟨h.s,by show 2<=N.pl+M.pl - 2+1;omega,by show N.pl+M.pl - 2+1<=_;omega,by show(_++_:yN).length<=_;rw[qB8,qA0,qA0];omega,λx n=>?_⟩,by show N.pl<=N.pl+M.pl - 2+1;omega,by show M.pl<=N.pl+M.pl - 2+1;omega⟩;have k:x∈(N.row M).cs:=n;rcases qB7.mp k with q|q
  ·obtain⟨y,j,rfl⟩:=qB9.mp q;obtain⟨l,m,o,_⟩:=h.c2 y j;refine LP (h.c2 y j) (λp v s=>?_) (λz=>?_)
   ·show 0<=X9 _ p/\X9 _ p<N.pl+M.pl - 2+1;unfold X9;split<;>omega
   ·unfold X9 at z;split at z<;>split at z<;>omega
  ·obtain⟨y,j,rfl⟩:=qB9.mp q;obtain⟨l,m,o,_⟩:=i.c2 y j;refine LP (i.c2 y j) (λp v s=>?_) (λz=>?_)
   ·show 0<=X4 _ _ p/\X4 _ _ p<N.pl+M.pl - 2+1;unfold X4;split
    ·omega
    ·split<;>omega
   ·unfold X4 at z;repeat' split at z
    all_goals omega
 |false =>
  refine⟨⟨h.s,by show 2<=N.pl+M.pl - 2;omega,by show N.pl+M.pl - 2<=_;omega,by show(_++_:yN).length<=_;rw[qB8,qA0];omega,λx n=>?_⟩,by show N.pl<=N.pl+M.pl - 2;omega,by show M.pl<=N.pl+M.pl - 2;omega⟩;have k:x∈(N.side M).cs:=n;rcases qB7.mp k with q|q
  ·obtain⟨l,m,o,r⟩:=h.c2 x q;exact⟨l,m,by show x.b<N.pl+M.pl - 2;omega,r⟩
  ·obtain⟨y,j,rfl⟩:=qB9.mp q;obtain⟨l,m,o,_⟩:=i.c2 y j;refine LP (i.c2 y j) (λp v s=>?_) (λz=>?_)
   ·show 0<=W8 _ p/\W8 _ p<N.pl+M.pl - 2;unfold W8;split
    ·omega
    ·split<;>omega
   ·unfold W8 at z;repeat' split at z
    all_goals omega
theorem LA{sw:Int}{r:Bool}:∀(a:List Tr) {N:Zx}{p c:Nat},(∀t∈a,Xj sw (t.lv+1) t.lv (t.lay sw))->Xj sw (p+1) c N->Xj sw (p+Tr.lvs a+1) (c+Tr.lvs a) ((a.map (Tr.lay sw)).foldl (jn r) N)/\N.pl<=((a.map (Tr.lay sw)).foldl (jn r) N).pl
 |[],N,p,c,_,h=>⟨h,qQ1 _⟩
 |t::a,N,p,c,ht,h=>by
  obtain⟨o,d,_⟩:=GE r h (ht t (by simp));obtain⟨b,f⟩:=LA (r:=r) a (N:=jn r N (t.lay sw)) (p:=p+t.lv) (c:=c+t.lv) (λe g=>ht e (by simp[g])) (o.up (by omega) (qA6 _));rw[qB5,qK9];refine⟨b.up ?_ ?_,qM5 d f⟩
  ·show p+t.lv+Tr.lvs a+1<=p+(t.lv+Tr.lvs a)+1;omega
  ·show c+t.lv+Tr.lvs a<=c+(t.lv+Tr.lvs a);omega
theorem zIF{sw:Int}:∀(K:Nat) (t:Tr),t.ht<=K->t.wf sw->Xj sw (t.lv+1) t.lv (t.lay sw):=by
 have a:∀k o,(Tr.lf k o).wf sw->Xj sw ((Tr.lf k o).lv+1) (Tr.lf k o).lv ((Tr.lf k o).lay sw):=λk o d=>by obtain⟨l,m,q,p⟩:=d;refine⟨rfl,by show(2:Int)<=2;decide,by show(2:Int)<=2;decide,by show 1<=1;decide,λc g=>?_⟩;have g:c∈[(⟨0,1,k,o⟩:Ct)]:=g;simp only[qA8,qD3,or_false]at g;subst g;exact⟨by show(0:Int)<=0;decide,by show(0:Int)<1;decide,by show(1:Int)<2;decide,l,m,q,p⟩
 intro K
 induction K with
 |zero =>
  intro t ht d;cases t with
  |lf k o=>exact a k o d
  |nd r ps=>simp[Tr.ht]at ht
 |succ K n =>
  intro t ht d;cases t with
  |lf k o=>exact a k o d
  |nd r ps =>
   have j:Tr.hts ps+1<=K+1:=ht;have e:2<=ps.length/\Tr.wfs sw ps:=d;cases ps with
   |nil=>simp at e
   |cons i h =>
    have b:∀t∈i::h,Xj sw (t.lv+1) t.lv (t.lay sw):=λt f=>n t (by have:=UK f;omega) (Ug e.2 t f);rw[OG];exact(LA h (λt f=>b t (qC2 _ f)) (b i (by simp))).1
theorem GD(c:ZO)(e:c "_law_turned_ends" [x,.lst j] S=.ok d S):R3 c [Z9 x,Z9 (.lst j)] S=.ok d S/\R1 c [Z9 x,Z9 (.lst j)] S=.ok d S:=by exact⟨by simp[R3,e],by simp[R1,e]⟩
theorem tB(c:ZO):Tf c [Z9 (.int k),Z9 (.int P)] S=.ok (.int (k+P - 2)) S:=by simp[Tf]
theorem tx(c:ZO){X n l L0 o ZZ1 ZZ2:yM}(I:c "_law_laid" [.int sw,j] S=.ok h f)(y:∀S,ZL k (.int 1) S=.ok (.int P) S)(L:∀S,ZL k (.int 2) S=.ok (.tup n) S)(s:∀S,ZL h (.int 1) S=.ok (.int Q) S)(H:∀S,ZL h (.int 2) S=.ok (.tup l) S)
  (u:Xa [.int P] f=.ok (.lst f.length) i) (F:i++[.lst [.int 0,.int 1]]=d) (q:-4611686018427387904<=Q) (E:Q<4611686018427387904) (J:(Q - 2).toNat=m) (A:(Zd 2 m).length<lim) (v:Y2 [] .one (λ_=>ret Z7) (Tf c) [Z8,Z9 (.int P)] (Zd 2 m) d=.ok o d) (x:d++[.lst o]=g) (K:ZK (.lst i.length) (.lst d.length) g=.ok (.lst g.length) b)
  (w:n.length<lim) (G:l.length<lim) (r:Y2 [] .one (λ_=>ret Z7) (R3 c) [Z8,Z9 (.lst f.length)] n b=.ok ZZ1 b) (p:b++[.lst ZZ1]=e) (B:Y2 [] .one (λ_=>ret Z7) (R1 c) [Z8,Z9 (.lst g.length)] l e=.ok ZZ2 e) (C:e++[.lst ZZ2]=a) (z:ZK (.lst b.length) (.lst e.length) a=.ok (.lst a.length) S8) (t:XY [.lst a.length] S8=.ok (.tup (ZZ1++ZZ2)) S8) :
  Uj c [Z9 (.int sw),Z9 (.tup [.str (kw Z5),.tup X]),Z9 k,Z9 j,w4,w5,w6,w7,w8,w9,w10] S=.nx [Z9 (.int sw),Z9 (.tup [.str (kw Z5),.tup X]),Z9 (.tup [.int sw,.int (P+Q - 2),.tup (ZZ1++ZZ2)]),Z9 j,Z9 h,Z9 (.int P),Z9 (.int Q),Z9 (.lst f.length),Z9 (.lst g.length),Z9 (.int (P+Q - 2)),Z9 (.lst a.length)] S8:=by simp[Uj,I,y,s,u,F,q,E,J,A,v,x,K,OO,L,H,w,G,r,p,B,C,z,t]
theorem tw(c:ZO){X n l L0 q ZZ1 ZZ2:yM}(L:c "_law_laid" [.int sw,j] S=.ok h a)(A:∀S,ZL k (.int 1) S=.ok (.int P) S)(O:∀S,ZL k (.int 2) S=.ok (.tup n) S)(v:∀S,ZL h (.int 1) S=.ok (.int Q) S)(J:∀S,ZL h (.int 2) S=.ok (.tup l) S)
  (w:Xa [.int P] a=.ok (.lst a.length) i) (H:i++[.lst [.int 0,.int 1]]=f) (s:-4611686018427387904<=Q) (G:Q<4611686018427387904) (M:(Q - 2).toNat=m) (C:(Zd 2 m).length<lim) (x:Y2 [] .one (λ_=>ret Z7) (Tf c) [Z8,Z9 (.int P)] (Zd 2 m) f=.ok q f) (z:f++[.lst q]=b) (N:ZK (.lst i.length) (.lst f.length) b=.ok (.lst b.length) o)
  (K:XE (.lst a.length) (.int 1) (.int (P+Q - 2)) o=Z9 p) (sb:XE (.lst b.length) (.int 0) (.int (P+Q - 2)) p=Z9 e)
  (y:n.length<lim) (I:l.length<lim) (u:Y2 [] .one (λ_=>ret Z7) (R3 c) [Z8,Z9 (.lst a.length)] n e=.ok ZZ1 e) (r:e++[.lst ZZ1]=g) (E:Y2 [] .one (λ_=>ret Z7) (R1 c) [Z8,Z9 (.lst b.length)] l g=.ok ZZ2 g) (F:g++[.lst ZZ2]=d) (B:ZK (.lst e.length) (.lst g.length) d=.ok (.lst d.length) S8) (t:XY [.lst d.length] S8=.ok (.tup (ZZ1++ZZ2)) S8) :
  Uj c [Z9 (.int sw),Z9 (.tup [.str (kw Z7),.tup X]),Z9 k,Z9 j,w4,w5,w6,w7,w8,w9,w10] S=.nx [Z9 (.int sw),Z9 (.tup [.str (kw Z7),.tup X]),Z9 (.tup [.int sw,.int (P+Q - 2+1),.tup (ZZ1++ZZ2)]),Z9 j,Z9 h,Z9 (.int P),Z9 (.int Q),Z9 (.lst a.length),Z9 (.lst b.length),Z9 (.int (P+Q - 2+1)),Z9 (.lst d.length)] S8:=by simp[Uj,L,A,v,w,H,s,G,M,C,x,z,N,OO,K,sb,O,J,y,I,u,r,E,F,B,t]
noncomputable abbrev Vu(p:Nat):yA:=(List.range p).map fun(k:Nat)=>(k:Int)
theorem Lz(p:Nat):(Vu p).length=p:=by simp
theorem GC(h:i<p):(Vu p)[i]?=Z9 (i:Int):=by simp[h]
theorem OF(h:R8 cl)(n:Nat){cs:yN}(g:ZH S j=Z9 (d.map D.int))(f:Int->Int)(b:∀c∈cs,RZ d c)(i:∀c∈cs,c.mv (XB d)=c.mv f):
  Y2 [] .one (λ_=>ret Z7) (R3 (cl (n+1))) [Z8,Z9 (.lst j)] (cs.map Ct.d) S=.ok ((cs.map (Ct.mv f)).map Ct.d) S/\Y2 [] .one (λ_=>ret Z7) (R1 (cl (n+1))) [Z8,Z9 (.lst j)] (cs.map Ct.d) S=.ok ((cs.map (Ct.mv f)).map Ct.d) S:=by
 have e:(cs.map (Ct.mv f)).map Ct.d=cs.map λc=>(c.mv f).d:=by rw[qC8];rfl
 have one:∀c∈cs,cl (n+1) "_law_turned_ends" [c.d,.lst j] S=.ok (c.mv f).d S:=λc a=>by have:=GG h n (b c a) g;rw[i c a]at this;exact this
 rw[e];exact⟨UP Ct.d (X5 S) _ _ λc a=>⟨_,rfl,(GD _ (one c a)).1⟩,UP Ct.d (X5 S) _ _ λc a=>⟨_,rfl,(GD _ (one c a)).2⟩⟩
theorem tu{c:Ct}(h:c.ok sw pl):c.mv (λp=>p)=c:=by obtain⟨_,d,_⟩:=h;obtain⟨a,b,k,o⟩:=c;unfold Ct.mv;dsimp only at d ⊢;rw[if_neg (by omega),if_pos (by omega)]
theorem GB{p:Nat}{x:Int}(a:0<=x)(b:x<p):XB (Vu p) x=x:=by unfold XB;rw[qG8,GC (by omega)];simp[qQ3 a]
theorem GA{p:Nat}{a x:Int}(c:0<=x)(d:x<p):XB ((Vu p).set 1 a) x=X9 a x:=by
 unfold XB X9;rw[qG8];by_cases b:x=1
 ·subst b;rw[show(1:Int).toNat=1 from rfl,qF0 (by rw[Lz];omega),if_pos rfl];rfl
 ·rw[qD7 (by omega),GC (by omega),if_neg b];simp[qQ3 c]
theorem ts(b:0<=P)(a:P<=1000)(S:ZU):Xa [.int P] S=.ok (.lst S.length) (S++[.lst ((Vu P.toNat).map D.int)]):=by unfold Xa;dsimp only;rw[if_pos (by omega)];congr 3;unfold Zd;rw[qC8];simp
theorem OE(N:Zx)(S:ZU):ZL N.d (.int 2) S=.ok (.tup (N.cs.map Ct.d)) S:=by simp[Zx.d]
theorem OD(N:Zx)(S:ZU):ZL N.d (.int 1) S=.ok (.int N.pl) S:=by simp[Zx.d]
theorem Gz(c:ZO):Y2 [] .one (λ_=>ret Z7) (Tf c) [Z8,Z9 (.int P)] (Zd 2 m) S=.ok (((List.range m).map fun(k:Nat)=>P+(k:Int)).map D.int) S:=by
 have:=UP (λk:Nat=>D.int (2+(k:Nat))) (w:=[]) (t:=.one) (c:=Tf c) (B0:=[Z8,Z9 (.int P)]) (S:=S) (X5 S) (λk:Nat=>D.int (P+(k:Int))) (List.range m) λk _=>⟨_,rfl,by
  have e:=tB c (k:=2+(k:Int)) (P:=P) (S:=S);rw[show 2+(k:Int)+P - 2=P+(k:Int) by omega]at e;exact e⟩
 rw[qC8];exact this
theorem tq(h:R8 cl)(n:Nat){N M:Zx}(j:Xj sw 17 16 N)(m:Xj sw 17 16 M){X:yM}(e1:cl (n+1) "_law_laid" [.int sw,pd] S=.ok M.d s):
  ∃u4 u5 u6 u7 u8 u9 u10 S',Uj (cl (n+1)) [Z9 (.int sw),Z9 (.tup [.str (kw r),.tup X]),Z9 N.d,Z9 pd,w4,w5,w6,w7,w8,w9,w10] S=.nx [Z9 (.int sw),Z9 (.tup [.str (kw r),.tup X]),Z9 (jn r N M).d,Z9 pd,u4,u5,u6,u7,u8,u9,u10] S'/\Ex s S':=by
 have a:=j.p1;have b:=j.p2;have e:=m.p1;have d:=m.p2;have f:=j.c1;have g:=m.c1;have J:=j.s;have lb:100<=lim:=by rw[Vw];decide
 obtain⟨S2,Y⟩:∃S2,s++[O.lst ((Vu N.pl.toNat).map D.int)]=S2:=⟨_,rfl⟩
 obtain⟨S3,H⟩:∃S3,S2++[O.lst [.int 0,.int 1]]=S3:=⟨_,rfl⟩
 obtain⟨S4,E⟩:∃S4,S3++[O.lst (((List.range (M.pl - 2).toNat).map fun(k:Nat)=>N.pl+(k:Int)).map D.int)]=S4:=⟨_,rfl⟩
 have Z:=ts (P:=N.pl) (by omega) (by omega) s;rw[Y]at Z;have x2:Ex s S2:=by rw[<- Y];exact Zn _ _
 have x3:Ex S2 S3:=by rw[<- H];exact Zn _ _
 have x4:Ex S3 S4:=by rw[<- E];exact Zn _ _
 have n2:S2.length=s.length+1:=by rw[<- Y];simp
 have n3:S3.length=S2.length+1:=by rw[<- H];simp
 have n4:S4.length=S3.length+1:=by rw[<- E];simp
 have lL:ZH S4 s.length=Z9 ((Vu N.pl.toNat).map D.int):=(x3.trans x4).lst (by rw[<- Y];exact Zh _ _) λz=>z;have l01:ZH S4 S2.length=Z9 [.int 0,.int 1]:=x4.lst (by rw[<- H];exact Zh _ _) λz=>z;have lR:ZH S4 S3.length=Z9 (((List.range (M.pl - 2).toNat).map fun(k:Nat)=>N.pl+(k:Int)).map D.int):=by rw[<- E];exact Zh _ _
 have a4:=Ui l01 lR (by rw[qA0,qA0,qG1];show 2+_<=_;omega);obtain⟨S5,h5⟩:∃S5,S4++[O.lst ([.int 0,.int 1]++((List.range (M.pl - 2).toNat).map fun(k:Nat)=>N.pl+(k:Int)).map D.int)]=S5:=⟨_,rfl⟩
 rw[h5]at a4;have x5:Ex S4 S5:=by rw[<- h5];exact Zn _ _
 have eR:([.int 0,.int 1]++((List.range (M.pl - 2).toNat).map fun(k:Nat)=>N.pl+(k:Int)).map D.int)=([0,1]++(List.range (M.pl - 2).toNat).map fun(k:Nat)=>N.pl+(k:Int)).map D.int:=by rw[qD2];rfl
 have l5:ZH S5 S4.length=Z9 (([0,1]++(List.range (M.pl - 2).toNat).map fun(k:Nat)=>N.pl+(k:Int)).map D.int):=by rw[<- eR,<- h5];exact Zh _ _
 have w:=x5.lst lL λz=>z;have K:=((x2.trans x3).trans x4).trans x5;have T:∀c∈N.cs,RZ (Vu N.pl.toNat) c:=λc l=>by obtain⟨o,G,R,_⟩:=j.c2 c l;refine⟨⟨o,?_⟩,by omega,?_⟩<;>(rw[Lz];omega)
 have U:∀x y:Int,(([x,y]++(List.range (M.pl - 2).toNat).map fun(k:Nat)=>N.pl+(k:Int)).length:Int)=M.pl:=λx y=>by rw[t7];omega
 have L:∀x y:Int,∀c∈M.cs,RZ ([x,y]++(List.range (M.pl - 2).toNat).map fun(k:Nat)=>N.pl+(k:Int)) c:=λx y c l=>by obtain⟨o,G,R,_⟩:=m.c2 c l;refine⟨⟨o,?_⟩,by omega,?_⟩<;>(rw[U];omega)
 have v:(N.cs.map Ct.d).length<lim:=by rw[qA0];omega
 have u:(M.cs.map Ct.d).length<lim:=by rw[qA0];omega
 have W:(Zd 2 (M.pl - 2).toNat).length<lim:=by rw[Uh];omega
 have I:∀{Sx:ZU}{ZZ1 ZZ2:yM},ZZ1.length<=16->ZZ2.length<=16->∃S8,ZK (.lst Sx.length) (.lst (Sx++[O.lst ZZ1]).length) (Sx++[O.lst ZZ1]++[O.lst ZZ2])=.ok (.lst (Sx++[O.lst ZZ1]++[O.lst ZZ2]).length) S8/\XY [.lst (Sx++[O.lst ZZ1]++[O.lst ZZ2]).length] S8=.ok (.tup (ZZ1++ZZ2)) S8/\Ex Sx S8:=λ{Sx ZZ1 ZZ2} k1 k2=>by have q:=Ui ((Zn (Sx++[O.lst ZZ1]) [O.lst ZZ2]).lst (Zh Sx ZZ1) λz=>z) (Zh (Sx++[O.lst ZZ1]) ZZ2) (by omega);exact⟨_,q,Uq (Zh _ _),((Zn Sx [O.lst ZZ1]).trans (Zn _ [O.lst ZZ2])).trans (Zn _ _)⟩
 cases r with
 |false =>
  obtain⟨B,_⟩:=OF h n w (λp=>p) T λc l=>by obtain⟨o,G,R,_⟩:=j.c2 c l;exact OU (GB o (by omega)) (GB (by omega) (by omega))
  obtain⟨S8,a7,t,x8⟩:=I (Sx:=S5) (ZZ1:=(N.cs.map (Ct.mv λp=>p)).map Ct.d) (ZZ2:=(M.cs.map (Ct.mv (W8 N.pl))).map Ct.d) (by simp;omega) (by simp;omega);obtain⟨_,A⟩:=OF h n (cs:=M.cs) ((Zn S5 [O.lst ((N.cs.map (Ct.mv λp=>p)).map Ct.d)]).lst l5 λz=>z) (W8 N.pl) (L 0 1) λc l=>by obtain⟨o,G,R,_⟩:=m.c2 c l;exact OU (by rw[OS o (by omega),GT]) (by rw[OS (by omega) (by omega),GT])
  have q:=tx (cl (n+1)) (X:=X) (L0:=[]) (w4:=w4) (w5:=w5) (w6:=w6) (w7:=w7) (w8:=w8) (w9:=w9) (w10:=w10) e1 (λS=>OD N S) (λS=>OE N S) (λS=>OD M S) (λS=>OE M S) Z H (by omega) (by omega) rfl W (Gz _) E a4 v u B rfl A rfl a7 t;have hd:(jn Z5 N M).d=.tup [.int sw,.int (N.pl+M.pl - 2),.tup ((N.cs.map (Ct.mv λp=>p)).map Ct.d++(M.cs.map (Ct.mv (W8 N.pl))).map Ct.d)]:=by
   have:N.cs.map (Ct.mv λp=>p)=N.cs:=by
    conv=>rhs;rw[<- List.map_id N.cs]
    exact qK5 λc l=>tu (j.c2 c l)
   rw[this];show D.tup [.int N.sw,.int (N.pl+M.pl - 2),.tup ((_++_:yN).map Ct.d)]=_;rw[qD2,J]
  rw[hd];exact⟨_,_,_,_,_,_,_,S8,q,K.trans x8⟩
 |true =>
  have V:=Ts w 1 (.int (N.pl+M.pl - 2));rw[qA0,Lz,OW (by decide) (by omega)]at V;dsimp only at V;rw[show(1:Int).toNat=1 from rfl,<- qP3]at V;have lA:=V7 (ys:=((Vu N.pl.toNat).set 1 (N.pl+M.pl - 2)).map D.int) w;have C:S4.length≠s.length:=by omega
  have lB:=(Up (i:=s.length) S5 (.lst (((Vu N.pl.toNat).set 1 (N.pl+M.pl - 2)).map D.int))).lst l5 C;obtain⟨Sa,Q⟩:∃Sa,S5.set s.length (.lst (((Vu N.pl.toNat).set 1 (N.pl+M.pl - 2)).map D.int))=Sa:=⟨_,rfl⟩
  rw[Q]at V lA lB;have sb:=Ts lB 0 (.int (N.pl+M.pl - 2));rw[qA0,OW (by decide) (by rw[U];omega)]at sb;dsimp only at sb;rw[show(0:Int).toNat=0 from rfl,<- qP3]at sb;have e0:([0,1]++(List.range (M.pl - 2).toNat).map fun(k:Nat)=>N.pl+(k:Int)).set 0 (N.pl+M.pl - 2)=[N.pl+M.pl - 2,1]++(List.range (M.pl - 2).toNat).map fun(k:Nat)=>N.pl+(k:Int):=rfl;rw[e0]at sb;have lC:=V7 (ys:=([N.pl+M.pl - 2,1]++(List.range (M.pl - 2).toNat).map fun(k:Nat)=>N.pl+(k:Int)).map D.int) lB;have lD:=(Up (i:=S4.length) Sa (.lst (([N.pl+M.pl - 2,1]++(List.range (M.pl - 2).toNat).map fun(k:Nat)=>N.pl+(k:Int)).map D.int))).lst lA (Ne.symm C);obtain⟨Sb,F⟩:∃Sb,Sa.set S4.length (.lst (([N.pl+M.pl - 2,1]++(List.range (M.pl - 2).toNat).map fun(k:Nat)=>N.pl+(k:Int)).map D.int))=Sb:=⟨_,rfl⟩
  rw[F]at sb lC lD;have xb:Ex s Sb:=by rw[<- F,<- Q];exact(K.setNew (qA6 _)).setNew (by omega)
  obtain⟨B,_⟩:=OF h n (cs:=N.cs) lD (X9 (N.pl+M.pl - 2)) (λc l=>by
   obtain⟨z1,z2⟩:=T c l;unfold RZ;rw[qK8];exact⟨z1,z2⟩) λc l=>by obtain⟨o,G,R,_⟩:=j.c2 c l;exact OU (GA o (by omega)) (GA (by omega) (by omega))
  obtain⟨S8,a7,t,x8⟩:=I (Sx:=Sb) (ZZ1:=(N.cs.map (Ct.mv (X9 (N.pl+M.pl - 2)))).map Ct.d) (ZZ2:=(M.cs.map (Ct.mv (X4 N.pl (N.pl+M.pl - 2)))).map Ct.d) (by simp;omega) (by simp;omega);obtain⟨_,A⟩:=OF h n (cs:=M.cs) ((Zn Sb [O.lst ((N.cs.map (Ct.mv (X9 (N.pl+M.pl - 2)))).map Ct.d)]).lst lC λz=>z) (X4 N.pl (N.pl+M.pl - 2)) (L _ 1) λc l=>by obtain⟨o,G,R,_⟩:=m.c2 c l;exact OU (by rw[OS o (by omega),GU]) (by rw[OS (by omega) (by omega),GU])
  have q:=tw (cl (n+1)) (X:=X) (L0:=[]) (w4:=w4) (w5:=w5) (w6:=w6) (w7:=w7) (w8:=w8) (w9:=w9) (w10:=w10) e1 (λS=>OD N S) (λS=>OE N S) (λS=>OD M S) (λS=>OE M S) Z H (by omega) (by omega) rfl W (Gz _) E a4 V sb v u B rfl A rfl a7 t;have hd:(jn Z7 N M).d=.tup [.int sw,.int (N.pl+M.pl - 2+1),.tup ((N.cs.map (Ct.mv (X9 (N.pl+M.pl - 2)))).map Ct.d++(M.cs.map (Ct.mv (X4 N.pl (N.pl+M.pl - 2)))).map Ct.d)]:=by show D.tup [.int N.sw,.int (N.pl+M.pl - 2+1),.tup ((_++_:yN).map Ct.d)]=_;rw[qD2,J]
  rw[hd];exact⟨_,_,_,_,_,_,_,S8,q,xb.trans x8⟩
theorem Gy:∀(ps:List Tr) (j:Nat),Tr.lvs (ps.take j)<=Tr.lvs ps
 |[],j=>by simp
 |t::ps,0=>qE1 _
 |t::ps,j+1=>by have:=Gy ps j;show t.lv+Tr.lvs (ps.take j)<=t.lv+Tr.lvs ps;omega
theorem Ly:∀{ps:List Tr}{t:Tr},t∈ps->t.lv<=Tr.lvs ps
 |p::r,t,h=>by
  show t.lv<=p.lv+Tr.lvs r;rcases qA8.mp h with rfl|h
  ·omega
  ·have:=Ly h;omega
theorem tp{a c:Type}(f:c->a->c)(b:c)(l:List a)(x:a):(l++[x]).foldl f b=f (l.foldl f b) x:=by rw[qN7];rfl
theorem tm(c:ZO):QD c [Z9 (.int sw),Z9 (.tup [.str (Str.ofString "at"),.int k,.int o]),Z8,Z8,Z8,Z8,Z8,Z8,Z8,Z8,Z8] S=.rt (.tup [.int sw,.int 2,.tup [.tup [.int 0,.int 1,.int k,.int o]]]) S:=by simp[QD]
theorem tj(c:ZO){ps:yM}(i:Zf (p0::ps) (Z9 1) Z8=ps)(g:ps.length<lim)(h:c "_law_laid" [sw,p0] S=.ok a b)(e:YV [] (gN 3) (Uj c) ps [Z9 sw,Z9 (.tup [.str (kw r),.tup (p0::ps)]),Z9 a,Z8,Z8,Z8,Z8,Z8,Z8,Z8,Z8] b=.nx [Z9 sw,Z9 (.tup [.str (kw r),.tup (p0::ps)]),Z9 d,w3,w4,w5,w6,w7,w8,w9,w10] S2):
  QD c [Z9 sw,Z9 (.tup [.str (kw r),.tup (p0::ps)]),Z8,Z8,Z8,Z8,Z8,Z8,Z8,Z8,Z8] S=.rt d S2:=by have f:XZ (p0::ps) 0=Z9 p0:=VM (j:=0) rfl;simp[QD,OP,f,h,i,g,e]
inductive tf(sw:Int)(r:Bool)(X:yM)(t0:Tr)(ps:List Tr)(S0:ZU)(j:Nat)(B:ZR)(S:ZU):Prop
 |mk (w3 w4 w5 w6 w7 w8 w9 w10:Option D) (e:B=[Z9 (.int sw),Z9 (.tup [.str (kw r),.tup X]),Z9 (((ps.take j).map (Tr.lay sw)).foldl (jn r) (t0.lay sw)).d,w3,w4,w5,w6,w7,w8,w9,w10]) (x:Ex S0 S)
theorem sZ(h:Hb cl)(ht:R8 cl){sw:Int}:∀(K:Nat) (t:Tr),t.ht<=K->t.wf sw->t.sz<=1000->t.lv<=16->∀(n:Nat) (S:ZU),Wp (cl (n+K+2) "_law_laid" [.int sw,t.d] S) ((t.lay sw).d) S:=by
 have e:∀(k o:Int) (n:Nat) (S:ZU),Wp (cl (n+2) "_law_laid" [.int sw,(Tr.lf k o).d] S) (((Tr.lf k o).lay sw).d) S:=λk o n S=>by refine⟨S,?_,Kp.refl _ _⟩;rw[show n+2=(n+1)+1 from rfl,h];exact Y7 rfl (tm _)
 intro K
 induction K with
 |zero =>
  intro t q v z A n S;cases t with
  |lf k o=>exact e k o n S
  |nd r ps=>simp[Tr.ht]at q
 |succ K L =>
  intro t T v z A n S;cases t with
  |lf k o=>exact e k o (n+(K+1)) S
  |nd r ps =>
   have hh':Tr.hts ps+1<=K+1:=T;have P:Tr.szs ps+1<=1000:=z;have i:2<=ps.length/\Tr.wfs sw ps:=v;have s:Tr.lvs ps<=16:=A;cases ps with
   |nil=>simp at i
   |cons a ps =>
    have l:∀t∈a::ps,Xj sw (t.lv+1) t.lv (t.lay sw):=λt c=>zIF K t (by have:=UK c;omega) (Ug i.2 t c);have f:∀t∈a::ps,∀S,Wp (cl (n+K+2) "_law_laid" [.int sw,t.d] S) ((t.lay sw).d) S:=λt c S=>L t (by have:=UK c;omega) (Ug i.2 t c) (by have:=RX c;omega) (by have:=Ly c;omega) n S;have Q:a.lv+Tr.lvs ps<=16:=s;obtain⟨y,e1,x1⟩:=f a (by simp) S;obtain⟨B',N,W,U,w4,w5,w6,w7,w8,w9,w10,C,E⟩:=VW (w:=[]) (g:=gN 3) (b:=Uj (cl (n+K+2))) (items:=ps.map Tr.d) (tf sw r (a.d::ps.map Tr.d) a ps y) (B:=[Z9 (.int sw),Z9 (.tup [.str (kw r),.tup (a.d::ps.map Tr.d)]),Z9 (a.lay sw).d,Z8,Z8,Z8,Z8,Z8,Z8,Z8,Z8]) (S:=y)
     (λ_ _ _ _=>X5 _) ⟨_,_,_,_,_,_,_,_,rfl,Kp.refl _ _⟩
     (λj d B S' m hp=>by
      obtain⟨U,w4,w5,w6,w7,w8,w9,w10,rfl,x⟩:=hp;rw[qB3]at m;obtain⟨t,u,rfl⟩:=qA5.mp m;have c:t∈a::ps:=qC2 _ (qC0 u);obtain⟨S3,G,J⟩:=f t c S';have M:ps.take (j+1)=ps.take j++[t]:=by rw[qJ9,u];rfl
      have Y:=(LA (r:=r) (ps.take j) (λO F=>l O (qC2 _ (qG6 F))) (l a (by simp))).1;have lt:=Gy ps j;have lm:=Ly (qC0 u);obtain⟨u4,u5,I,Z,H,R,p,S4,D,V⟩:=tq ht (n+K+1) (r:=r) (Y.up (by omega) (by omega)) ((l t c).up (by omega) (by omega)) (X:=a.d::ps.map Tr.d) (w4:=w4) (w5:=w5) (w6:=w6) (w7:=w7) (w8:=w8) (w9:=w9) (w10:=w10) G;refine⟨_,_,rfl,_,S4,.inl D,⟨Z9 t.d,u4,u5,I,Z,H,R,p,?_,(x.trans J).trans V⟩⟩;rw[M,qD2,qB5,qH5,tp])
    rw[qA0,qH3]at C;subst C;have m:(Tr.nd r (a::ps)).d=.tup [.str (kw r),.tup (a.d::ps.map Tr.d)]:=by simp[Tr.d,Tr.ds,Ta]
    have cd:Zf (a.d::ps.map Tr.d) (Z9 1) Z8=ps.map Tr.d:=by rw[Pp _ (by decide)];rfl
    refine⟨N,?_,x1.trans E⟩;rw[show n+(K+1)+2=(n+K+2)+1 by omega,h,m,OG];exact Y7 rfl (tj _ cd (by rw[qA0,Vw];have:=OQ (a::ps);simp at this;omega) e1 W)
section
variable {sw:Int}{st:yA} (hl:(st.length:Int)=sw) (hb:∀b∈st,b=0∨b=1)
include hl hb
end
theorem OC:∀a b:List Tr,Tr.lvs (a++b)=Tr.lvs a+Tr.lvs b
 |[],b=>by show Tr.lvs b=0+Tr.lvs b;omega
 |t::r,b=>by show t.lv+Tr.lvs (r++b)=t.lv+Tr.lvs r+Tr.lvs b;rw[OC r b];omega
mutual
theorem Gx:∀t:Tr,t.wf sw->t.ht+1<=t.lv
 |.lf _ _,_=>qA6 _
 |.nd r c,h=>by have a:=hts_lvs c h.2;have b:=h.1;show Tr.hts c+1+1<=Tr.lvs c;omega
theorem hts_lvs:∀ps:List Tr,Tr.wfs sw ps->Tr.hts ps+ps.length<=Tr.lvs ps
 |[],_=>qA6 _
 |t::q,h=>by have a:=Gx t h.1;have b:=hts_lvs q h.2;have c:=lvs_len q h.2;show max t.ht (Tr.hts q)+(q.length+1)<=t.lv+Tr.lvs q;omega
end
structure Bd(α:Type) where
 a:Int
 b:Int
 t:α
section
variable {α β:Type}
noncomputable def Bd.has(x:Bd α)(p:Int):Bool:=decide (p=x.a)||decide (p=x.b)
noncomputable def Y3(p:Int)(bs:List (Bd α)):Bool:=decide (2<=p)&&decide ((bs.filter λx=>x.has p).length=2)
noncomputable def Bd.far(x:Bd α)(p:Int):Int:=if x.a=p then x.b else x.a
noncomputable def X8(rw:α->α->α)(x y:Bd α)(p:Int):Bd α:=⟨if y.far p<x.far p then y.far p else x.far p,if y.far p>x.far p then y.far p else x.far p,rw x.t y.t⟩
noncomputable def Wz(a rw:α->α->α)(x y:Bd α)(bs:List (Bd α)):Option (Bd α) :=
 if x.a=y.a/\x.b=y.b then Z9 ⟨x.a,x.b,a x.t y.t⟩
 else if y.has x.a&&Y3 x.a bs then Z9 (X8 rw x y x.a)
 else if y.has x.b&&Y3 x.b bs then Z9 (X8 rw x y x.b)
 else Z8
noncomputable def RU(a rw:α->α->α)(bs:List (Bd α))(y:Bd α):List Nat->Option (Nat×Bd α)
 |[]=>Z8
 |i::r=>match bs[i]? with
  |none=>Z8
  |some x=>match Wz a rw x y bs with
   |some b=>Z9 (i,b)
   |none=>RU a rw bs y r
noncomputable def V4(a rw:α->α->α)(bs:List (Bd α)):List (Nat×Bd α)->Option (Nat×Nat×Bd α)
 |[]=>Z8
 |(j,y)::r=>match RU a rw bs y (List.range j)with
  |some (i,b)=>Z9 (i,j,b)
  |none=>V4 a rw bs r
noncomputable def V3(bs:List (Bd α))(i j:Nat)(b:Bd α):List (Bd α):=bs.take i++[b]++(bs.drop (i+1)).take (j - (i+1))++bs.drop (j+1)
noncomputable def X0(a rw:α->α->α)(bs:List (Bd α)):Option (List (Bd α)):=(V4 a rw bs (XC bs)).map λq=>V3 bs q.1 q.2.1 q.2.2
noncomputable def XP(b rw:α->α->α):Nat->List (Bd α)->List (Bd α)
 |0,bs=>bs
 |n+1,bs=>match X0 b rw bs with
  |some a=>XP b rw n a
  |none=>bs
noncomputable def Bd.mp(f:α->β)(x:Bd α):Bd β:=⟨x.a,x.b,f x.t⟩
section
variable {sd rw:α->α->α}{sd' rw':β->β->β}{f:α->β} (hs:∀s t,f (sd s t)=sd' (f s) (f t)) (hr:∀s t,f (rw s t)=rw' (f s) (f t))
include hs hr
end
theorem Gw{b:Bd α}:∀{a:List Nat},RU c rw bs y a=Z9 (i,b)->i∈a/\∃x,bs[i]?=Z9 x/\Wz c rw x y bs=Z9 b
 |[],h=>by cases h
 |k::r,h=>by
  unfold RU at h;split at h
  ·cases h
  ·rename_i x e;split at h
   ·rename_i f d;cases h;exact⟨by simp,x,e,d⟩
   ·obtain⟨m,q⟩:=Gw h;exact⟨qC2 _ m,q⟩
theorem Gv:∀{l:List (Nat×Bd α)},V4 a rw bs l=Z9 (i,j,b)->∃y,(j,y)∈l/\i<j/\∃x,bs[i]?=Z9 x/\Wz a rw x y bs=Z9 b
 |[],h=>by cases h
 |(k,y)::r,h=>by
  unfold V4 at h;split at h
  ·rename_i n g d;cases h;obtain⟨m,x,c,f⟩:=Gw d;exact⟨y,by simp,qE4.mp m,x,c,f⟩
  ·obtain⟨e,m,q⟩:=Gv h;exact⟨e,qC2 _ m,q⟩
theorem Gu{x:α}(h:l[i]?=Z9 x):l=l.take i++x::l.drop (i+1):=by obtain⟨a,rfl⟩:=qA7.mp h;rw[<- qI5 a,qF5]
theorem OB{bs a:List (Bd α)}(h:X0 e rw bs=Z9 a):∃A x BB y C b,bs=A++x::(BB++y::C)/\Wz e rw x y bs=Z9 b/\a=A++b::(BB++C):=by
 unfold X0 at h;obtain⟨⟨i,j,b⟩,l,rfl⟩:=qA5.mp h;obtain⟨y,g,o,x,f,m⟩:=Gv l;have k:=Tc g;have n:=Gu f;have c:(bs.drop (i+1))[j - (i+1)]?=Z9 y:=by rw[qL0,show i+1+(j - (i+1))=j by omega];exact k
 have d:=Gu c;rw[qT5,show i+1+(j - (i+1)+1)=j+1 by omega]at d;refine⟨bs.take i,x,(bs.drop (i+1)).take (j - (i+1)),y,bs.drop (j+1),b,?_,m,?_⟩
 ·rw[<- d];exact n
 ·show bs.take i++[b]++(bs.drop (i+1)).take (j - (i+1))++bs.drop (j+1)=_;simp
theorem Lx{bs a:List (Bd α)}(h:X0 c rw bs=Z9 a):a.length+1=bs.length:=by obtain⟨A,x,d,y,C,b,rfl,_,rfl⟩:=OB h;simp;omega
theorem Gs:∀(n:Nat) {bs:List (Bd α)},bs.length<=n->X0 a rw (XP a rw n bs)=Z8
 |0,bs,h=>by have:bs=[]:=qD0.mp (by omega);subst this;rfl
 |n+1,bs,h=>by
  unfold XP;cases e:X0 a rw bs with
  |none=>exact e
  |some b=>exact Gs n (by have:=Lx e;omega)
end
noncomputable def YU(s t:Tr):Tr:=.nd Z5 [s,t]
noncomputable def Y4(s t:Tr):Tr:=.nd Z7 [s,t]
def Ue(bs:List (Bd Tr))(st:yA):Prop:=∀C:Int->Prop,C 0->(∀e∈bs,e.t.on st=Z7->(C e.a↔C e.b))->C 1
structure Xi(sw:Int)(bs:List (Bd Tr)):Prop where
 e:∀x∈bs,0<=x.a/\x.a<x.b/\x.b<7
 w:∀x∈bs,x.t.wf sw
theorem Gq(s t:Tr)(st:yA):(YU s t).on st=(s.on st||t.on st):=by simp[YU,Tr.on,Tr.onO]
theorem sY(s t:Tr)(st:yA):(Y4 s t).on st=(s.on st&&t.on st):=by simp[Y4,Tr.on,Tr.onA]
theorem OA{x:(Bd Tr)}(h:x.has p=Z7)(C:Int->Prop):(C x.a↔C x.b)↔(C p↔C (x.far p)):=by
 unfold Bd.has at h;simp only[qE8,decide_eq_true_eq]at h;unfold Bd.far;by_cases q:x.a=p
 ·rw[if_pos q,q]
 ·rw[if_neg q];rcases h with h|h
  ·exact absurd h.symm q
  ·rw[<- h];exact⟨λz=>z.symm,λz=>z.symm⟩
theorem RT{x:(Bd Tr)}(h:x.has p=Z7)(a:x.a<x.b):x.far p≠p/\((x.far p=x.a/\p=x.b)∨(x.far p=x.b/\p=x.a)):=by unfold Bd.has at h;simp only[qE8,decide_eq_true_eq]at h;unfold Bd.far;split<;>omega
theorem Gp{A BB C:List (Bd Tr)}(ok:Xi sw (A++x::(BB++y::C)))(i:x.has p=Z7)(j:y.has p=Z7)(n:Y3 p (A++x::(BB++y::C))=Z7)(J:¬(x.a=y.a/\x.b=y.b)):
  Xi sw (A++X8 Y4 x y p::(BB++C))/\∀st,Ue (A++x::(BB++y::C)) st↔Ue (A++X8 Y4 x y p::(BB++C)) st:=by
 unfold Y3 at n;simp only[qC4,decide_eq_true_eq]at n;obtain⟨L,t⟩:=n;have l:∀e,e∈A∨e∈BB∨e∈C->e.has p=Z5:=by
  rw[qJ6,qE2,if_pos i,qJ6,qE2,if_pos j]at t;simp only[qB8,qC7]at t;have G:(A.filter λe=>e.has p)=[]:=qD0.mp (by omega);have u:(BB.filter λe=>e.has p)=[]:=qD0.mp (by omega);have v:(C.filter λe=>e.has p)=[]:=qD0.mp (by omega);rintro e (h|h|h)
  ·simpa using qG9.mp G e h
  ·simpa using qG9.mp u e h
  ·simpa using qG9.mp v e h
 have ex:=ok.e x (by simp);have E:=ok.e y (by simp);obtain⟨F,K⟩:=RT i ex.2.1;obtain⟨B,M⟩:=RT j E.2.1;have ne:x.far p≠y.far p:=λz=>J (by omega);refine⟨⟨λe b=>?_,λe b=>?_⟩,λst=>?_⟩
 ·simp only[qB7,qA8]at b;rcases b with h|rfl|h|h
  ·exact ok.e e (by simp[h])
  ·show 0<=(if y.far p<x.far p then y.far p else x.far p)/\(if y.far p<x.far p then y.far p else x.far p)<(if y.far p>x.far p then y.far p else x.far p)/\(if y.far p>x.far p then y.far p else x.far p)<7;split<;>split<;>omega
  ·exact ok.e e (by simp[h])
  ·exact ok.e e (by simp[h])
 ·simp only[qB7,qA8]at b;rcases b with h|rfl|h|h
  ·exact ok.w e (by simp[h])
  ·exact⟨qA6 _,ok.w x (by simp),ok.w y (by simp),trivial⟩
  ·exact ok.w e (by simp[h])
  ·exact ok.w e (by simp[h])
 ·have r:∀D:Int->Prop,(D (X8 Y4 x y p).a↔D (X8 Y4 x y p).b)↔(D (x.far p)↔D (y.far p)):=λD=>by
   show(D (if y.far p<x.far p then y.far p else x.far p)↔D (if y.far p>x.far p then y.far p else x.far p))↔_;by_cases q:y.far p<x.far p
   ·rw[if_pos q,if_neg (by omega)];exact⟨λz=>z.symm,λz=>z.symm⟩
   ·rw[if_neg q,if_pos (by omega)]
  have s:(X8 Y4 x y p).t.on st=(x.t.on st&&y.t.on st):=sY _ _ _;constructor
  ·intro k D o d;obtain⟨c,g⟩:∃c:Int->Prop,c=λz=>if z=p then(if x.t.on st then D (x.far p)else D (y.far p))else D z:=⟨_,rfl⟩
   have a:∀q:Int,q≠p->(c q↔D q):=λq H=>by rw[g];show(if q=p then _ else D q)↔D q;rw[if_neg H]
   have f:c p↔if x.t.on st then D (x.far p)else D (y.far p):=by rw[g];show(if p=p then _ else _)↔_;rw[if_pos rfl]
   have:=k c ((a 0 (by omega)).mpr o) λe b on=>?_
   ·exact(a 1 (by omega)).mp this
   ·simp only[qB7,qA8]at b;have other:e.has p=Z5->e∈A++X8 Y4 x y p::(BB++C)->(c e.a↔c e.b):=λh m=>by unfold Bd.has at h;simp only[Bool.or_eq_false_iff,decide_eq_false_iff_not]at h;exact(a e.a (Ne.symm h.1)).trans ((d e m on).trans (a e.b (Ne.symm h.2)).symm)
    rcases b with h|h|h|h|h
    ·exact other (l e (.inl h)) (by simp[h])
    ·subst h;refine(OA i c).mpr (f.trans (Iff.trans ?_ (a _ F).symm));rw[if_pos on]
    ·exact other (l e (.inr (.inl h))) (by simp[h])
    ·subst h;refine(OA j c).mpr (f.trans (Iff.trans ?_ (a _ B).symm));by_cases q:x.t.on st=Z7
     ·rw[if_pos q];exact(r D).mp (d (X8 Y4 x e p) (by simp) (by rw[s,q,on];rfl))
     ·rw[if_neg q]
    ·exact other (l e (.inr (.inr h))) (by simp[h])
  ·intro k D o d;refine k D o λe b on=>?_;simp only[qB7,qA8]at b;rcases b with h|rfl|h|h
   ·exact d e (by simp[h]) on
   ·rw[s,qC4]at on;have w:=(OA i D).mp (d x (by simp) on.1);have I:=(OA j D).mp (d y (by simp) on.2);exact(r D).mpr (w.symm.trans I)
   ·exact d e (by simp[h]) on
   ·exact d e (by simp[h]) on
theorem sX{A BB C:List (Bd Tr)}(ok:Xi sw (A++x::(BB++y::C)))(i:x.a=y.a)(g:x.b=y.b):
  Xi sw (A++⟨x.a,x.b,YU x.t y.t⟩::(BB++C))/\∀st,Ue (A++x::(BB++y::C)) st↔Ue (A++⟨x.a,x.b,YU x.t y.t⟩::(BB++C)) st:=by
 refine⟨⟨λe a=>?_,λe a=>?_⟩,λst=>?_⟩
 ·simp only[qB7,qA8]at a;rcases a with h|rfl|h|h
  ·exact ok.e e (by simp[h])
  ·exact ok.e x (by simp)
  ·exact ok.e e (by simp[h])
  ·exact ok.e e (by simp[h])
 ·simp only[qB7,qA8]at a;rcases a with h|rfl|h|h
  ·exact ok.w e (by simp[h])
  ·exact⟨qA6 _,ok.w x (by simp),ok.w y (by simp),trivial⟩
  ·exact ok.w e (by simp[h])
  ·exact ok.w e (by simp[h])
 ·constructor
  ·intro f D d b;have c:(x.t.on st||y.t.on st)=Z7->(D x.a↔D x.b):=λz=>b ⟨x.a,x.b,YU x.t y.t⟩ (by simp) (by rw[Gq];exact z);refine f D d λe a on=>?_;simp only[qB7,qA8]at a;rcases a with h|rfl|h|rfl|h
   ·exact b e (by simp[h]) on
   ·exact c (by rw[on];rfl)
   ·exact b e (by simp[h]) on
   ·rw[<- i,<- g];exact c (by rw[on];simp)
   ·exact b e (by simp[h]) on
  ·intro f D d b;refine f D d λe a on=>?_;simp only[qB7,qA8]at a;rcases a with h|rfl|h|h
   ·exact b e (by simp[h]) on
   ·rw[Gq,qE8]at on;show D x.a↔D x.b;rcases on with on|on
    ·exact b x (by simp) on
    ·rw[i,g];exact b y (by simp) on
   ·exact b e (by simp[h]) on
   ·exact b e (by simp[h]) on
noncomputable def Ud(bs:List (Bd Tr)):Nat:=Tr.lvs (bs.map Bd.t)
structure Same(sw:Int)(bs bs':List (Bd Tr)):Prop where
 ok:Xi sw bs'
 lv:Ud bs'=Ud bs
 j:∀st,Ue bs st↔Ue bs' st
theorem Lw(ok:Xi sw bs)(h:X0 YU Y4 bs=Z9 bs'):Same sw bs bs':=by
 obtain⟨A,x,c,y,C,b,rfl,a,rfl⟩:=OB h;have lvs:b.t.lv=x.t.lv+y.t.lv->Ud (A++b::(c++C))=Ud (A++x::(c++y::C)):=λe=>by
  unfold Ud;simp only[qD2,qB5,OC];show _+(b.t.lv+Tr.lvs _)=_+(x.t.lv+Tr.lvs _)
  simp only[OC];show _+(b.t.lv+(_+Tr.lvs _))=_+(x.t.lv+(_+(y.t.lv+Tr.lvs _)))
  omega
 have two:∀r (s t:Tr),(Tr.nd r [s,t]).lv=s.lv+t.lv:=λr s t=>by show s.lv+(t.lv+0)=_;omega
 unfold Wz at a;split at a
 ·rename_i q;cases a;obtain⟨o,j⟩:=sX ok q.1 q.2;exact⟨o,lvs (two _ _ _),j⟩
 ·rename_i q;split at a
  ·rename_i z;cases a;rw[qC4]at z;obtain⟨o,j⟩:=Gp ok (by simp[Bd.has]) z.1 z.2 q;exact⟨o,lvs (two _ _ _),j⟩
  ·split at a
   ·rename_i z;cases a;rw[qC4]at z;obtain⟨o,j⟩:=Gp ok (by simp[Bd.has]) z.1 z.2 q;exact⟨o,lvs (two _ _ _),j⟩
   ·cases a
theorem Lv:∀(n:Nat) {bs:List (Bd Tr)},Xi sw bs->Same sw bs (XP YU Y4 n bs)
 |0,bs,ok=>⟨ok,rfl,λ_=>Iff.rfl⟩
 |n+1,bs,ok=>by
  unfold XP;cases e:X0 YU Y4 bs with
  |none=>exact⟨ok,rfl,λ_=>Iff.rfl⟩
  |some d =>
   have a:=Lw ok e;have b:=Lv n a.ok;exact⟨b.ok,b.lv.trans a.lv,λc=>(a.j c).trans (b.j c)⟩
theorem Xj.g2(b:1<=sw)(d:sw<=4)(h:Xj sw p c N)(a:N.pl<=7)(e:c<=16):N.g:=⟨by rw[h.s];exact b,by rw[h.s];exact d,h.p1,a,by have:=h.c1;omega,by rw[h.s];exact h.c2⟩
theorem sW(r:Bool)(N M:Zx):(jn r N M).cs.length=N.cs.length+M.cs.length:=by cases r<;>simp[jn,Zx.row,Zx.side]
structure UG(sw:Int)(t:Tr):Prop where
 ok:Xj sw (t.lv+1) t.lv (t.lay sw)
 len:(t.lay sw).cs.length=t.lv
 on:t.lv<=6->∀st,Yg (t.lay sw) st=t.on st
theorem Gn{sw:Int}(f:1<=sw)(g:sw<=4){r:Bool}:∀(d:List Tr) {N:Zx}{c:Nat},(∀t∈d,UG sw t)->Xj sw (c+1) c N ->
  ((d.map (Tr.lay sw)).foldl (jn r) N).cs.length=N.cs.length+Tr.lvs d/\(c+Tr.lvs d<=6->∀st,Yg ((d.map (Tr.lay sw)).foldl (jn r) N) st=SU r st (Yg N st) d)
 |[],N,c,_,h=>⟨rfl,λ_ _=>rfl⟩
 |t::d,N,c,ht,h=>by
  have lt:=ht t (by simp);obtain⟨o,_,_⟩:=GE r h lt.ok;obtain⟨a,b⟩:=Gn f g (r:=r) d (N:=jn r N (t.lay sw)) (c:=c+t.lv) (λj l=>ht j (by simp[l])) (o.up (by omega) (qA6 _));rw[qB5,qK9];refine⟨?_,λk st=>?_⟩
  ·rw[a,sW,lt.len];show N.cs.length+t.lv+Tr.lvs d=N.cs.length+(t.lv+Tr.lvs d)
   omega
  ·have i:c+(t.lv+Tr.lvs d)<=6:=k;rw[b (by omega) st];have gN:N.g:=h.g2 f g (by have:=h.p2;omega) (by omega);have gT:(t.lay sw).g:=lt.ok.g2 f g (by have:=lt.ok.p2;omega) (by omega);have e:Yg (jn r N (t.lay sw)) st=SV r (Yg N st) (t.on st):=by
    rw[<- lt.on (by omega) st];cases r
    ·exact t8 gN gT st
    ·exact t9 gN gT st
   show SU r st _ d=SU r st (SV r (Yg N st) (t.on st)) d;rw[e]
theorem sV{sw:Int}(q:1<=sw)(n:sw<=4):∀(K:Nat) (t:Tr),t.ht<=K->t.wf sw->UG sw t:=by
 have c:∀k o,(Tr.lf k o).wf sw->UG sw (.lf k o):=λk o e=>⟨zIF 0 _ (qA6 _) e,rfl,λ_ g=>tJ sw k o g⟩
 intro K
 induction K with
 |zero =>
  intro t ht e;cases t with
  |lf k o=>exact c k o e
  |nd r ps=>simp[Tr.ht]at ht
 |succ K p =>
  intro t ht e;cases t with
  |lf k o=>exact c k o e
  |nd r ps =>
   have m:Tr.hts ps+1<=K+1:=ht;have f:2<=ps.length/\Tr.wfs sw ps:=e;cases ps with
   |nil=>simp at f
   |cons l i =>
    have d:∀t∈l::i,UG sw t:=λt h=>p t (by have:=UK h;omega) (Ug f.2 t h);have l0:=d l (by simp);obtain⟨a,b⟩:=Gn q n (r:=r) i (λt h=>d t (qC2 _ h)) l0.ok;refine⟨zIF (K+1) _ ht e,?_,λs g=>?_⟩
    ·rw[OG,a,l0.len];rfl
    ·have j:l.lv+Tr.lvs i<=6:=s;rw[OG,b j g,tK,l0.on (by omega) g]
theorem sU(g:G)(b:CS)(B:ZR)(S:ZU):YV [] g b [] B S=.nx B S:=by unfold YV;rw[if_pos (X5 _)]
theorem Gm{ds:yM}(e:b (B.set i (Z9 d)) S=.nx a S2):YV [] (gN i) b (d::ds) B S=YV [] (gN i) b ds a S2:=by
 conv=>lhs;unfold YV
 rw[if_pos (X5 _),Pv];dsimp only;rw[e]
noncomputable def u2(_ _:Unit):Unit:=()
noncomputable def l0:Tr:=.lf 0 0
noncomputable def Bd.d(x:Bd Tr):D:=.tup [.int x.a,.int x.b,x.t.d]
noncomputable def sT:Option (Bd Tr)->D
 |none=>.non
 |some b=>b.d
noncomputable def Zo(N:Zx):List (Bd Tr):=N.cs.map λc=>⟨c.a,c.b,.lf c.k c.o⟩
theorem UF(x y z:D):Zf [x,y,z] Z8 (Z9 2)=[x,y]:=rfl
theorem Oz(p a b:Int)(S:ZU):Yr Z5 (.int p) (.tup [.int a,.int b]) S=.ok (.bl (decide (p=a)||decide (p=b))) S:=by
 have q:decide (p∈[a,b])=(decide (p=a)||decide (p=b)):=by simp[Bool.decide_or]
 rw[<- q];exact GW Z5 p [a,b] S
theorem Qy:2+1<=lim/\2+2<=lim/\4<lim:=by decide
theorem sS(h:Ho cl)(n:Nat)(N:Zx)(d:N.cs.length<=100)(S:ZU):cl (n+1) "bonds_of" [N.d] S=.ok (.lst S.length) (S++[.lst ((Zo N).map Bd.d)]):=by
 have e:Y2 [] .one (λ_=>ret Z7) (Mj (cl n)) [Z8] (N.cs.map Ct.d) S=.ok (N.cs.map λc=>Bd.d ⟨c.a,c.b,.lf c.k c.o⟩) S :=
  UP Ct.d (X5 S) _ _ λc _=>⟨_,rfl,by simp[Mj,Ct.d,Bd.d,Tr.d]⟩
 have b:(Zo N).map Bd.d=N.cs.map λc=>Bd.d ⟨c.a,c.b,.lf c.k c.o⟩:=by unfold Zo;rw[qC8];rfl
 rw[h,b];refine Y7 rfl ?_;have a:(N.cs.map Ct.d).length<lim:=by rw[qA0];have:=UL;omega
 rw[Zx.d_eq];generalize (N.cs.map λc=>Bd.d ⟨c.a,c.b,.lf c.k c.o⟩)=R at *;generalize N.cs.map Ct.d=BB at *;simp[Po,Y1,e,a]
theorem sR(c:ZO){BB R:yM}(hk:ZH S k=Z9 BB)(b:BB.length<lim)(a:2<=p)(e:Y2 [(k,BB)] .one (Pn c) (Pm c) [Z8,Z9 (.int p)] BB S=.ok R S)(f:Zi [.lst S.length] (S++[.lst R])=.ok (.int L) (S++[.lst R])):
  Tq c [Z9 (.int p),Z9 (.lst k)] S=.rt (.bl (decide (L=2))) (S++[.lst R]):=by simp[Tq,hk,b,a,e,f]
theorem sQ(c:ZO)(a:¬2<=p):Tq c [Z9 (.int p),Z9 (.lst k)] S=.rt (.bl Z5) S:=by simp[Tq,a]
theorem sP(h:Hn cl)(n:Nat)(b:bs.length<=100)(hk:ZH S k=Z9 (bs.map Bd.d))(p:Int):Wp (cl (n+1) "may_vanish" [.int p,.lst k] S) (.bl (Y3 p bs)) S:=by
 rw[h];by_cases a:2<=p
 ·have e:Y2 [(k,bs.map Bd.d)] .one (Pn (cl n)) (Pm (cl n)) [Z8,Z9 (.int p)] (bs.map Bd.d) S=.ok ((bs.filter λx=>x.has p).map Bd.d) S :=
   Se Bd.d (Vh hk) _ _ _ λx _=>⟨_,rfl,by simp[Pn,Bd.d,UF,Oz,Bd.has],λ_=>by simp[Pm]⟩
  have f:=Sf (Zh S ((bs.filter λx=>x.has p).map Bd.d));have r:=sR (cl n) hk (by rw[qA0];have:=UL;omega) a e f;refine⟨_,Y7 rfl r |>.trans ?_,Zn S [.lst ((bs.filter λx=>x.has p).map Bd.d)]⟩;have:Y3 p bs=decide ((((bs.filter λx=>x.has p).map Bd.d).length:Int)=2):=by unfold Y3;rw[decide_eq_true a,Bool.true_and,qA0];exact decide_eq_decide.mpr (by omega)
  rw[this]
 ·refine⟨S,Y7 rfl (sQ (cl n) a)|>.trans ?_,Kp.refl _ _⟩;have:Y3 p bs=Z5:=by unfold Y3;rw[decide_eq_false a];rfl
  rw[this]
theorem sO(c:ZO){e kd:D}(h:(decide (p=b)||decide (p=a))=Z5):Vx c [Z9 e,Z9 (.tup [.int b,.int a,d]),Z9 kd,Z9 (.int p),w4] S=.nx [Z9 e,Z9 (.tup [.int b,.int a,d]),Z9 kd,Z9 (.int p),w4] S:=by
 have f:Yr Z5 (.int p) (.tup [.int b,.int a]) S=.ok (.bl Z5) S:=by rw[Oz,h]
 simp[Vx,UF,f]
theorem sN(c:ZO){e kd:D}(h:(decide (p=b)||decide (p=a))=Z7)(m:c "may_vanish" [.int p,kd] S=.ok (.bl Z5) S1):Vx c [Z9 e,Z9 (.tup [.int b,.int a,d]),Z9 kd,Z9 (.int p),w4] S=.nx [Z9 e,Z9 (.tup [.int b,.int a,d]),Z9 kd,Z9 (.int p),w4] S1:=by
 have f:Yr Z5 (.int p) (.tup [.int b,.int a]) S=.ok (.bl Z7) S:=by rw[Oz,h]
 simp[Vx,UF,f,m]
theorem sM(c:ZO){kd:D}(h:(decide (p=b)||decide (p=d))=Z7)(m:c "may_vanish" [.int p,kd] S=.ok (.bl Z7) a)
  (e:Y2 [] .one (Pl c) (Pk c) [Z8,Z9 (.int p)] [.int f,.int g,.int b,.int d] a=.ok [.int u,.int v] a) (r:a++[.lst [.int u,.int v]]=k) (y:WD [.lst a.length] k=.ok (.lst j) S3) (t:ZL (.lst j) (.int 0) S3=.ok (.int o) S3) (q:ZL (.lst j) (.int 1) S3=.ok (.int i) S3) :
  Vx c [Z9 (.tup [.int f,.int g,n]),Z9 (.tup [.int b,.int d,l]),Z9 kd,Z9 (.int p),w4] S=.rt (.tup [.int o,.int i,.tup [.str (Str.ofString "row"),.tup [n,l]]]) S3:=by
 have w:Yr Z5 (.int p) (.tup [.int b,.int d]) S=.ok (.bl Z7) S:=by rw[Oz,h]
 obtain⟨s,x,z⟩:=Qy;simp[Vx,UF,w,m,e,r,y,t,q,s,x,z]
theorem sL(c:ZO){e d kd:D}(q:Y8 (.tup [.int a,.int b]) (.tup [.int g,.int f]) S=.ok (.bl Z7) S):
  Um c [Z9 (.tup [.int a,.int b,e]),Z9 (.tup [.int g,.int f,d]),Z9 kd,Z8,Z8] S=.rt (.tup [.int a,.int b,.tup [.str (Str.ofString "side"),.tup [e,d]]]) S:=by obtain⟨h,j,i⟩:=Qy;simp[Um,UF,q,h]
theorem Lu(c:ZO){i h kd d:D}(q:Y8 (.tup [.int a,.int b]) (.tup [.int g,.int f]) S=.ok (.bl Z5) S)
  (e:YV [] (gN 3) (Vx c) [.int a,.int b] [Z9 (.tup [.int a,.int b,i]),Z9 (.tup [.int g,.int f,h]),Z9 kd,Z8,Z8] S=.rt d S'∨(d=.non/\YV [] (gN 3) (Vx c) [.int a,.int b] [Z9 (.tup [.int a,.int b,i]),Z9 (.tup [.int g,.int f,h]),Z9 kd,Z8,Z8] S=.nx B S')) :
  Um c [Z9 (.tup [.int a,.int b,i]),Z9 (.tup [.int g,.int f,h]),Z9 kd,Z8,Z8] S=.rt d S':=by
 rcases e with e|⟨rfl,e⟩
 ·simp[Um,UF,q,e]
 ·simp[Um,UF,q,e]
theorem sJ{x y:Bd Tr}(g:x.has p=Z7)(f:x.a<x.b)(j:y.has p=Z7)(d:y.a<y.b):[x.a,x.b,y.a,y.b].filter (λe=>!decide (e=p))=[x.far p,y.far p]:=by
 obtain⟨_,i⟩:=RT g f;obtain⟨_,h⟩:=RT j d;have two:∀a b:Int,a<b->∀q,(q=a/\p=b)∨(q=b/\p=a)->[a,b].filter (λe=>!decide (e=p))=[q]:=by
  rintro a b l q (⟨rfl,rfl⟩| ⟨rfl,rfl⟩)
  ·have c:¬q=p:=by omega
   simp[qE2,c]
  ·have c:¬q=p:=by omega
   simp[qE2,c]
 have e:=two _ _ f _ i;have k:=two _ _ d _ h;show([x.a,x.b]++[y.a,y.b]).filter _=_;rw[qJ6,e,k];rfl
theorem Gj{ds:yM}(e:b (B.set i (Z9 d)) S=.rt r S2):YV [] (gN i) b (d::ds) B S=.rt r S2:=by
 conv=>lhs;unfold YV
 rw[if_pos (X5 _),Pv];dsimp only;rw[e]
structure Qx(cl:Nat->ZO):Prop where
 bo:Ho cl
 mv:Hn cl
 dp:uT cl
 on:uS cl
 to:uR cl
theorem Gi(H:Qx cl)(n:Nat)(o:bs.length<=100)(i:x.a<x.b)(j:y.a<y.b)(l:x.has p=Z7)(hk:ZH S k=Z9 (bs.map Bd.d))(w4:Option D):
  ∃S1,Ex S S1/\((y.has p&&Y3 p bs)=Z7->Vx (cl (n+1)) [Z9 x.d,Z9 y.d,Z9 (.lst k),Z9 (.int p),w4] S=.rt (X8 Y4 x y p).d S1) /\
   ((y.has p&&Y3 p bs)=Z5->Vx (cl (n+1)) [Z9 x.d,Z9 y.d,Z9 (.lst k),Z9 (.int p),w4] S=.nx [Z9 x.d,Z9 y.d,Z9 (.lst k),Z9 (.int p),w4] S1):=by
 cases a:y.has p with
 |false=>exact⟨S,Kp.refl _ _,(λz=>by cases z),λ_=>sO (cl (n+1)) a⟩
 |true =>
  obtain⟨S1,m,h⟩:=sP H.mv n o hk p;cases f:Y3 p bs with
  |false=>rw[f]at m;exact⟨S1,h,(λz=>by cases z),λ_=>sN (cl (n+1)) a m⟩
  |true =>
   rw[f]at m;have e:Y2 [] .one (Pl (cl (n+1))) (Pk (cl (n+1))) [Z8,Z9 (.int p)] ([x.a,x.b,y.a,y.b].map D.int) S1=.ok (([x.a,x.b,y.a,y.b].filter λe=>!decide (e=p)).map D.int) S1 :=
    Se D.int (X5 S1) _ _ _ λq _=>⟨_,rfl,by simp[Pl],λ_=>by simp[Pk]⟩
   rw[sJ l i a j]at e;have b:=Hr (ns:=[x.far p,y.far p]) (Zh S1 [.int (x.far p),.int (y.far p)]) (by show 2<64;decide);rw[GV]at b;have g:=Zh (S1++[.lst [.int (x.far p),.int (y.far p)]]) (([if y.far p<x.far p then y.far p else x.far p,if y.far p>x.far p then y.far p else x.far p]:yA).map D.int);have d:=W9 g 0;have c:=W9 g 1;simp only[qB5,qH5,vd,vc]at d c b;exact⟨_,h.trans ((Zn _ _).trans (Zn _ _)),λ_=>sM (cl (n+1)) a m e rfl b d c,(λz=>by cases z)⟩
theorem sI(H:Qx cl)(n:Nat)(o:bs.length<=100)(g:x.a<x.b)(j:y.a<y.b)(hk:ZH S k=Z9 (bs.map Bd.d)):Wp (cl (n+2) "drawn_pair" [x.d,y.d,.lst k] S) (sT (Wz YU Y4 x y bs)) S:=by
 have q:Y8 (.tup [.int x.a,.int x.b]) (.tup [.int y.a,.int y.b]) S=.ok (.bl (decide (x.a=y.a/\x.b=y.b))) S:=by rw[Pq S rfl rfl];have:V6 (D.tup [.int x.a,.int x.b]) (.tup [.int y.a,.int y.b])=decide (x.a=y.a/\x.b=y.b):=Vf (Vg.trans (by simp));rw[this]
 rw[show n+2=(n+1)+1 from rfl,H.dp];unfold Wz;by_cases c:x.a=y.a/\x.b=y.b
 ·rw[if_pos c];rw[decide_eq_true c]at q;exact⟨S,Y7 rfl (sL (cl (n+1)) q),Kp.refl _ _⟩
 ·rw[if_neg c];rw[decide_eq_false c]at q;obtain⟨r,d,s,t⟩:=Gi H n o g j (p:=x.a) (by simp[Bd.has]) hk Z8;by_cases b:(y.has x.a&&Y3 x.a bs)=Z7
  ·rw[if_pos b];exact⟨r,Y7 rfl (Lu (cl (n+1)) (B:=[]) q (.inl (Gj (s b)))),d⟩
  ·rw[if_neg b];have f:(y.has x.a&&Y3 x.a bs)=Z5:=by simpa using b
   obtain⟨m,h,b1,u⟩:=Gi H n o g j (p:=x.b) (by simp[Bd.has]) (d.lst hk λz=>z) Z8;have l:=Gm (ds:=[.int x.b]) (i:=3) (B:=[Z9 x.d,Z9 y.d,Z9 (.lst k),Z8,Z8]) (t f);by_cases a:(y.has x.b&&Y3 x.b bs)=Z7
   ·rw[if_pos a];refine⟨m,Y7 rfl (Lu (cl (n+1)) (B:=[]) q (.inl ?_)),d.trans h⟩;exact l.trans (Gj (b1 a))
   ·rw[if_neg a];have e:(y.has x.b&&Y3 x.b bs)=Z5:=by simpa using a
    refine⟨m,Y7 rfl (Lu (cl (n+1)) (B:=[Z9 x.d,Z9 y.d,Z9 (.lst k),Z9 (.int x.b),Z8]) q (.inr ⟨rfl,?_⟩)),d.trans h⟩;exact l.trans ((Gm (ds:=[]) (i:=3) (B:=[Z9 x.d,Z9 y.d,Z9 (.lst k),Z9 (.int x.a),Z8]) (u e)).trans (sU _ _ _ _))
theorem Ls{m u:Type}(e:m->D){w:Xc}{g:G}{b:CS}(P:ZR->ZU->Prop)(R:u->D->ZU->Prop)(n:∀B S,P B S->X2 w S)(f:m->Option u):∀(l:List m) {B:ZR}{S:ZU},P B S ->
  (∀a∈l,∀B S,P B S->∃j k,g (e a) B S=.ok j k/\((∃q,f a=Z9 q/\∃d c,b j k=.rt d c/\R q d c)∨(f a=Z8/\∃o c,b j k=.nx o c/\P o c))) ->
  (∃q d i,l.findSome? f=Z9 q/\YV w g b (l.map e) B S=.rt d i/\R q d i)∨(∃t i,l.findSome? f=Z8/\YV w g b (l.map e) B S=.nx t i/\P t i)
 |[],B,S,h0,hs=>.inr ⟨B,S,rfl,by rw[qH5];unfold YV;rw[if_pos (n B S h0)],h0⟩
 |a::l,B,S,h0,hs=>by
  obtain⟨j,k,y,h⟩:=hs a (by simp) B S h0;rw[qB5];unfold YV;rw[if_pos (n B S h0),y];dsimp only;rcases h with⟨q,s,d,c,p,r⟩| ⟨s,o,c,p,z⟩
  ·rw[p];exact .inl ⟨q,d,c,by rw[qK6,s],rfl,r⟩
  ·rw[p,qK6,s];exact Ls e P R n f l z λx v=>hs x (by simp[v])
noncomputable def SQ(bs:List (Bd Tr))(y:Bd Tr)(i:Nat):Option (Nat×Bd Tr):=bs[i]?.bind λx=>(Wz YU Y4 x y bs).map λb=>(i,b)
noncomputable def V2(bs:List (Bd Tr))(q:Nat×Bd Tr):Option (Nat×Nat×Bd Tr):=((List.range q.1).findSome? (SQ bs q.2)).map λz=>(z.1,q.1,z.2)
theorem Gh:∀{c:List Nat},(∀i∈c,i<bs.length)->RU YU Y4 bs y c=c.findSome? (SQ bs y)
 |[],_=>rfl
 |i::r,h=>by
  have a:=h i (by simp);unfold RU;rw[qA4 a,qK6];unfold SQ;rw[qA4 a];dsimp only[qT7];cases Wz YU Y4 bs[i] y bs with
  |some b=>rfl
  |none=>exact Gh λi a=>h i (by simp[a])
theorem Lr:∀{l:List (Nat×Bd Tr)},(∀q∈l,q.1<=bs.length)->V4 YU Y4 bs l=l.findSome? (V2 bs)
 |[],_=>rfl
 |(j,y)::r,h=>by
  unfold V4;rw[Gh λi a=>by have:=qE4.mp a;have:=h (j,y) (by simp);omega,qK6];unfold V2;cases (List.range j).findSome? (SQ bs y)with
  |some z=>rfl
  |none=>exact Lr λq b=>h q (by simp[b])
theorem sH(c:ZO)(v:ZL (.lst k) (.int i) S=.ok q S)(e:c "drawn_pair" [q,s,.lst k] S=.ok b m)(E:b.isNon=Z5)
  (z:YB (.lst k) Z8 (Z9 i) m=.ok (.lst o) a) (C:a++[.lst [b]]=g) (y:ZK (.lst o) (.lst a.length) g=.ok (.lst u) p) (w:YB (.lst k) (Z9 (i+1)) (Z9 j) p=.ok (.lst r) f) (A:ZK (.lst u) (.lst r) f=.ok (.lst t) h) (B:YB (.lst k) (Z9 (j+1)) Z8 h=.ok (.lst l) d) (x:ZK (.lst t) (.lst l) d=.ok (.lst n) S8) :
  Ve c [Z9 (.lst k),Z9 (.int j),Z9 s,Z9 (.int i),w4] S=.rt (.lst n) S8:=by simp[Ve,v,e,E,z,C,y,w,A,B,x]
theorem sG(c:ZO)(d:ZL (.lst k) (.int i) S=.ok b S)(e:c "drawn_pair" [b,a,.lst k] S=.ok .non S1):
  Ve c [Z9 (.lst k),Z9 (.int j),Z9 a,Z9 (.int i),w4] S=.nx [Z9 (.lst k),Z9 (.int j),Z9 a,Z9 (.int i),Z9 .non] S1:=by have:D.isNon .non=Z7:=rfl;simp[Ve,d,e,this]
theorem sF(xs:yM)(a:j<=xs.length)(b:i<=j):Zf xs (Z9 (i:Int)) (Z9 (j:Int))=(xs.drop i).take (j - i):=by unfold Zf;rw[HT.sIx_nat,HT.sIx_nat,qM3 a,qM3 (qD4 b a)]
theorem sD(c:ZO)(Q:bs.length<=100){k i j:Nat}(N:i<j)(R:j<bs.length){x y b:Bd Tr}(hk:ZH S k=Z9 (bs.map Bd.d))(F:Ex S d)(L:bs[i]?=Z9 x)(e:c "drawn_pair" [x.d,y.d,.lst k] S=.ok b.d d):
  ∃a S',Ve c [Z9 (.lst k),Z9 (.int j),Z9 y.d,Z9 (.int i),w4] S=.rt (.lst a) S'/\ZH S' a=Z9 ((V3 bs i j b).map Bd.d)/\Ex S S':=by
 have G:ZL (.lst k) (.int (i:Nat)) S=.ok x.d S:=by rw[W9 hk,VM (by rw[qB3,L];rfl)]
 have E:=F.lst hk λz=>z;have n:=Pu E Z8 (Z9 (i:Int));rw[Hq _ (by omega),qF1]at n;obtain⟨S2,l⟩:∃S2,d++[.lst ((bs.map Bd.d).take i)]=S2:=⟨_,rfl⟩
 have w:Ex d S2:=l▸Zn _ _;have J:ZH S2 d.length=Z9 ((bs.map Bd.d).take i):=l▸Zh _ _;rw[l]at n;obtain⟨S3,s⟩:∃S3,S2++[.lst [b.d]]=S3:=⟨_,rfl⟩
 have h:Ex S2 S3:=s▸Zn _ _;have H:ZH S3 S2.length=Z9 [b.d]:=s▸Zh _ _;have T:=UL;have v:=Ui (h.lst J λz=>z) H (by rw[qD8,qA0,qF9];omega);obtain⟨S4,m⟩:∃S4,S3++[.lst ((bs.map Bd.d).take i++[b.d])]=S4:=⟨_,rfl⟩
 rw[m]at v;have C:Ex S3 S4:=m▸Zn _ _;have P:ZH S4 S3.length=Z9 ((bs.map Bd.d).take i++[b.d]):=m▸Zh _ _;have u:=((w.trans h).trans C).lst E λz=>z;have g:=Pu u (Z9 ((i+1:Nat):Int)) (Z9 (j:Int));rw[sF _ (by rw[qA0];omega) (by omega)]at g;obtain⟨S5,o⟩:∃S5,S4++[.lst (((bs.map Bd.d).drop (i+1)).take (j - (i+1)))]=S5:=⟨_,rfl⟩
 rw[o]at g;have q:Ex S4 S5:=o▸Zn _ _;have M:ZH S5 S4.length=Z9 (((bs.map Bd.d).drop (i+1)).take (j - (i+1))):=o▸Zh _ _;have B:=Ui (q.lst P λz=>z) M (by simp only[qB8,qD8,qE6,qA0,qF9];omega);obtain⟨S6,f⟩:∃S6,S5++[.lst ((bs.map Bd.d).take i++[b.d]++((bs.map Bd.d).drop (i+1)).take (j - (i+1)))]=S6:=⟨_,rfl⟩
 rw[f]at B;have A:Ex S5 S6:=f▸Zn _ _;have K:ZH S6 S5.length=Z9 ((bs.map Bd.d).take i++[b.d]++((bs.map Bd.d).drop (i+1)).take (j - (i+1))):=f▸Zh _ _;have r:=Pu ((q.trans A).lst u λz=>z) (Z9 ((j+1:Nat):Int)) Z8;rw[Pp _ (by omega),qF1]at r;obtain⟨S7,p⟩:∃S7,S6++[.lst ((bs.map Bd.d).drop (j+1))]=S7:=⟨_,rfl⟩
 rw[p]at r;have t:Ex S6 S7:=p▸Zn _ _;have O:ZH S7 S6.length=Z9 ((bs.map Bd.d).drop (j+1)):=p▸Zh _ _;have I:=Ui (t.lst K λz=>z) O (by simp only[qB8,qD8,qE6,qA0,qF9];omega);refine⟨S7.length,_,sH c G e rfl n s v (by exact g) B (by exact r) I,?_,?_⟩
 ·rw[Zh];unfold V3;simp[qD2,qT6,qO1]
 ·exact F.trans (w.trans (h.trans (C.trans (q.trans (A.trans (t.trans (Zn _ _)))))))
theorem Gg(c:ZO)(i:0<=j)(h:j<1000):
  (YV [] (gN 3) (Ve c) (Zd 0 j.toNat) [Z9 (.lst k),Z9 (.int j),Z9 f,w3,w4] S=.rt d g->Ul c [Z9 (.lst k),Z9 (.int j),Z9 f,w3,w4] S=.rt d g) /\
  (YV [] (gN 3) (Ve c) (Zd 0 j.toNat) [Z9 (.lst k),Z9 (.int j),Z9 f,w3,w4] S=.nx B g->Ul c [Z9 (.lst k),Z9 (.int j),Z9 f,w3,w4] S=.nx B g):=by
 have a:(-4611686018427387904:Int)<=j:=by omega
 have b:j<4611686018427387904:=by omega
 constructor
 ·intro e;simp[Ul,e,a,b]
 ·intro e;simp[Ul,e,a,b]
inductive sC(r:R D)(bs:List (Bd Tr))(S:ZU):Prop
 |yes (bs':List (Bd Tr)) (k':Nat) (S':ZU) (h:X0 YU Y4 bs=Z9 bs') (e:r=.ok (.lst k') S') (l:ZH S' k'=Z9 (bs'.map Bd.d)) (x:Ex S S')
 |no (S':ZU) (h:X0 YU Y4 bs=Z8) (e:r=.ok .non S') (x:Ex S S')
theorem Gf(c:ZO){BB:yM}(hk:ZH S k=Z9 BB):
  (YV [(k,BB)] (gT [gN 1,gN 2]) (Ul c) (Wr BB) [Z9 (.lst k),Z8,Z8,Z8,Z8] S=.rt d a->Tp c [Z9 (.lst k),Z8,Z8,Z8,Z8] S=.rt d a) /\
  (YV [(k,BB)] (gT [gN 1,gN 2]) (Ul c) (Wr BB) [Z9 (.lst k),Z8,Z8,Z8,Z8] S=.nx B a->Tp c [Z9 (.lst k),Z8,Z8,Z8,Z8] S=.rt .non a):=by
 constructor
 ·intro e;simp[Tp,hk,e]
 ·intro e;simp[Tp,hk,e]
theorem sA(H:Qx cl)(n:Nat)(ok:Xi sw bs)(I:bs.length<=100)(hk:ZH S k=Z9 (bs.map Bd.d)):sC (cl (n+3) "drawn_once" [.lst k] S) bs S:=by
 have s:=Ls (λq:Nat×Bd Tr=>.tup [.int (q.1:Nat),q.2.d]) (w:=[(k,bs.map Bd.d)]) (g:=gT [gN 1,gN 2]) (b:=Ul (cl (n+2))) (fun B c=>(∃G M m w4,B=[Z9 (.lst k),G,M,m,w4])/\Ex S c)
  (λq d c=>∃a,d=.lst a/\ZH c a=Z9 ((V3 bs q.1 q.2.1 q.2.2).map Bd.d)/\Ex S c) (fun B c e=>Vh (e.2.lst hk λz=>z)) (V2 bs) (XC bs) (B:=[Z9 (.lst k),Z8,Z8,Z8,Z8]) (S:=S) ⟨⟨_,_,_,_,rfl⟩,Kp.refl _ _⟩
  (λq F B c e=>by
   obtain⟨j,y⟩:=q;obtain⟨⟨G,M,m,w4,rfl⟩,x⟩:=e;have E:=Tc F;dsimp only at E;have N:j<bs.length:=(qA7.mp E).1;refine⟨[Z9 (.lst k),Z9 (.int (j:Nat)),Z9 y.d,m,w4],c,rfl,?_⟩;have t:=Ls (λi:Nat=>D.int (0+(i:Nat))) (w:=[]) (g:=gN 3) (b:=Ve (cl (n+2))) (fun B c=>(∃m w4,B=[Z9 (.lst k),Z9 (.int (j:Nat)),Z9 y.d,m,w4])/\Ex S c)
    (λq d c=>∃a,d=.lst a/\ZH c a=Z9 ((V3 bs q.1 j q.2).map Bd.d)/\Ex S c) (fun B c _=>X5 _) (SQ bs y) (List.range j) (B:=[Z9 (.lst k),Z9 (.int (j:Nat)),Z9 y.d,m,w4]) (S:=c) ⟨⟨_,_,rfl⟩,x⟩
    (λi W B S2 e=>by
     obtain⟨⟨m,w4,rfl⟩,v⟩:=e;have C:=qE4.mp W;have L:i<bs.length:=by omega
     have A:bs[i]?=Z9 bs[i]:=qA4 L;refine⟨_,S2,rfl,?_⟩;have o:=v.lst hk λz=>z;obtain⟨r,u,p⟩:=sI H n I (x:=bs[i]) (y:=y) (ok.e _ (qE7 L)).2.1 (ok.e _ (qC0 E)).2.1 o;unfold SQ;rw[A];dsimp only[qT7];show(∃q,_=Z9 q/\∃d K,Ve (cl (n+2)) [Z9 (.lst k),Z9 (.int (j:Nat)),Z9 y.d,Z9 (.int (0+(i:Nat))),w4] S2=_/\_)∨_;rw[Int.zero_add];cases e:Wz YU Y4 bs[i] y bs with
     |some b =>
      rw[e]at u;obtain⟨a,V,P,R,U⟩:=sD (cl (n+2)) I C N (w4:=w4) o p A u;exact .inl ⟨(i,b),rfl,_,V,P,a,rfl,R,v.trans U⟩
     |none =>
      rw[e]at u;have O:ZL (.lst k) (.int (i:Nat)) S2=.ok (bs[i]).d S2:=by rw[W9 o,VM (by rw[qB3,A];rfl)]
      exact .inr ⟨rfl,_,r,sG (cl (n+2)) O u,⟨_,_,rfl⟩,v.trans p⟩)
   have Q:(List.range j).map (λi:Nat=>D.int (0+(i:Nat)))=Zd 0 ((j:Int)).toNat:=by rw[qF1];rfl
   rw[Q]at t;unfold V2;dsimp only;rcases t with⟨q,d,r,f,h,a,rfl,X,p⟩| ⟨T,r,f,h,⟨Y,Z,rfl⟩,p⟩
   ·rw[f];exact .inl ⟨(q.1,j,q.2),rfl,_,r,(Gg (cl (n+2)) (B:=[]) (by omega) (by omega)).1 h,a,rfl,X,p⟩
   ·rw[f];exact .inr ⟨rfl,_,r,(Gg (cl (n+2)) (d:=.non) (by omega) (by omega)).2 h,⟨_,_,_,_,rfl⟩,p⟩)
 rw[<- G5]at s;have J:X0 YU Y4 bs=((XC bs).findSome? (V2 bs)).map λq=>V3 bs q.1 q.2.1 q.2.2:=by unfold X0;rw[Lr λq F=>by have:=(qA7.mp (Tc F)).1;omega]
 rw[show n+3=(n+2)+1 from rfl,H.on];rcases s with⟨q,d,c,f,h,a,rfl,l,x⟩| ⟨T,c,f,h,_,x⟩
 ·exact .yes _ a c (by rw[J,f];rfl) (Y7 rfl ((Gf (cl (n+2)) (B:=[]) hk).1 h)) l x
 ·exact .no c (by rw[J,f];rfl) (Y7 rfl ((Gf (cl (n+2)) (d:=.non) hk).2 h)) x
theorem Ge:∀(n:Nat) {bs:List (Bd c)},bs.length<=n->XP b rw (n+1) bs=XP b rw n bs
 |0,bs,h=>by have:bs=[]:=qD0.mp (by omega);subst this;rfl
 |n+1,bs,h=>by
  show(match X0 b rw bs with|some a=>XP b rw (n+1) a|none=>bs)=(match X0 b rw bs with|some a=>XP b rw n a|none=>bs)
  cases e:X0 b rw bs with
  |none=>rfl
  |some a=>exact Ge n (by have:=Lx e;omega)
theorem sy(c:ZO)(i:c "bonds_of" [nd] S=.ok (.lst a) e)(l:c "drawn_once" [.lst a] e=.ok v d)(f:WS VX (Zt (ZW V0 (ZY 2) (ZX .non))) (To c) [Z9 nd,Z9 (.lst a),Z9 v] d=.nx [Z9 nd,Z9 (.lst k),Z9 h] S3)
  (g:Zi [.lst k] S3=.ok (.int 1) S3) (j:ZL (.lst k) (.int 0) S3=.ok (.tup [.int 0,.int 1,b]) S3):UO c [Z9 nd,Z8,Z8] S=.rt b S3:=by
 have q:Y8 (.tup [.int 0,.int 1]) (.tup [.int 0,.int 1]) S3=.ok (.bl Z7) S3:=by rw[Pq S3 rfl rfl,Mn]
 simp[UO,i,l,f,g,j,UF,q]
theorem sx(c:ZO)(e:c "drawn_once" [d] S=.ok v S1):To c [Z9 nd,a,Z9 d] S=.nx [Z9 nd,Z9 d,Z9 v] S1:=by simp[To,e]
theorem Gc(B0 a:Option D)(d:D)(S:ZU):Zt (ZW V0 (ZY 2) (ZX .non)) [B0,a,Z9 d] S=.ok (!d.isNon) S:=by simp
theorem Gb:∀ps:List Tr,(ps.map Tr.lv).sum=Tr.lvs ps
 |[]=>rfl
 |t::q=>by show t.lv+(q.map Tr.lv).sum=t.lv+Tr.lvs q;rw[Gb q]
theorem Ga{sw:Int}:∀(n:Nat) (t:Tr),t.ht<n->t.wf sw->Xk sw n t.d=t.lv
 |0,t,h,_=>absurd h (qG0 _)
 |n+1,.lf k o,_,hw=>by
  obtain⟨l,f,i,g⟩:=hw;have:UI sw (Tr.lf k o).d=Z7:=by
   show(sE SY (.str (Str.ofString "at"))&&(W7 0 sw (.int k)&&W7 0 2 (.int o)))=Z7;have a:sE SY (.str (Str.ofString "at"))=Z7:=by decide +kernel
   have b:W7 0 sw (.int k)=Z7:=by simp[W7,l,f]
   have c:W7 0 2 (.int o)=Z7:=by simp[W7,i,g]
   rw[a,b,c];rfl
  show(if UI sw (Tr.lf k o).d then 1 else _)=1;rw[if_pos this]
 |n+1,.nd r ps,h,hw=>by
  have p:Tr.hts ps+1<n+1:=h;have d:2<=ps.length/\Tr.wfs sw ps:=hw;have e:(Tr.nd r ps).d=.tup [.str (kw r),.tup (ps.map Tr.d)]:=by show D.tup [.str (kw r),.tup (Tr.ds ps)]=_;rw[Ta]
  have q:Wn (Tr.nd r ps).d=Z9 (ps.map Tr.d):=by rw[e,Qz,if_pos ⟨by cases r<;>decide +kernel,by rw[qA0];exact d.1⟩]
  show(if UI sw (Tr.nd r ps).d then 1 else match Wn (Tr.nd r ps).d with|some ps=>SX (ps.map (Xk sw n))| none=>0)=Tr.lvs ps;rw[tN q,q,if_neg qB1];dsimp only;rw[qC8];have j:ps.map (Xk sw n∘Tr.d)=ps.map Tr.lv:=qK5 λt ht=>Ga n t (by have:=UK ht;omega) (Ug d.2 t ht);rw[j];unfold SX;rw[if_neg,Gb];intro z;obtain⟨t,ht,m⟩:=qB9.mp z;have:=ON t (Ug d.2 t ht);omega
theorem Lq(l:yA)(S:ZU):Y8 (Yb l) (Yb l) S=.ok (.bl Z7) S:=by rw[Pq S (G0 (n:=39) (by decide) l) (G0 (n:=39) (by decide) l),Mn]
theorem sv(ok:∀c∈N.cs,c.ok sw N.pl)(j:N.pl<=7):Xi sw (Zo N):=by
 constructor
 ·intro x a;obtain⟨c,b,rfl⟩:=qB9.mp a;obtain⟨i,f,k,_⟩:=ok c b;exact⟨i,f,by show c.b<7;omega⟩
 ·intro x a;obtain⟨c,b,rfl⟩:=qB9.mp a;obtain⟨_,_,_,e,d,h,g⟩:=ok c b;exact⟨e,d,h,g⟩
theorem su(N:Zx)(st:yA):Ue (Zo N) st↔Yg N st=Z7:=by
 rw[VS];constructor
 ·intro f C a d;refine f C a λe g on=>?_;obtain⟨c,b,rfl⟩:=qB9.mp g;exact d c b on
 ·intro f C a d;exact f C a λc b on=>d ⟨c.a,c.b,.lf c.k c.o⟩ (qB9.mpr ⟨c,b,rfl⟩) on
theorem sk(t:Tr)(st:yA):Ue [⟨0,1,t⟩] st↔t.on st=Z7:=by
 constructor
 ·intro d;by_cases h:t.on st=Z7
  ·exact h
  ·have:=d (λx=>x=0) rfl λe b on=>by rw[qB6.mp b]at on;exact absurd on h
   exact absurd this (by decide)
 ·intro on C a c;exact(c ⟨0,1,t⟩ (by simp) on).mp a
theorem sj(N:Zx):Ud (Zo N)=N.cs.length:=by
 unfold Ud Zo;rw[qC8]
 induction N.cs with
 |nil=>rfl
 |cons c r a=>rw[qB5,qC7];show 1+Tr.lvs _=_;rw[a];omega
structure Drawn(sw:Int)(t u:Tr):Prop where
 wf:u.wf sw
 lv:u.lv=t.lv
 dr:XP YU Y4 6 (Zo (t.lay sw))=[⟨0,1,u⟩]
 on:∀st,u.on st=t.on st
theorem si(t:Tr):t.d.isNon=Z5:=by cases t<;>rfl
theorem Lo:∀nss:List (yA),UT (nss.map L2.tD)=Z9 nss
 |[]=>rfl
 |ns::nss=>by rw[qB5];show(match Ws (ns.map D.int),UT (nss.map L2.tD)with|some ns,Z9 nss=>Z9 (ns::nss)| _,_=>Z8)=_;rw[Mk,Lo nss]
theorem sf:∀nss:List (yA),nss≠[]->Ws (nss.map L2.tD)=Z8
 |[],h=>absurd rfl h
 |ns::nss,_=>rfl
theorem F9(h:ZH S n=Z9 (nss.map L2.tD))(b:Wg nss.length:=by trivial):WD [.lst n] S=.ok (.lst S.length) (S++[.lst ((XA nss).map L2.tD)]):=by
 unfold WD;dsimp only;rw[h];by_cases a:nss=[]
 ·subst a;rfl
 ·show(match Ws (nss.map L2.tD)with|some c=>_|none=>_)=_;rw[sf nss a];show(match UT (nss.map L2.tD)with|some nss=>_|none=>_)=_;rw[Lo];dsimp only;rw[if_pos b]
abbrev Gr:=Int->Int->Prop
structure Gk(G:Gr):Prop where
 s:∀x y,G x y->G y x
 i:∀x,¬G x x
noncomputable def YG(G:Gr)(v a b:Int):Gr:=λx y=>(x≠v/\y≠v/\G x y)∨(x=a/\y=b)∨(x=b/\y=a)
structure Yl(G:Gr)(v a b:Int):Prop where
 g:2<=v
 n:a≠b
 h:∀y,G v y↔y=a∨y=b
def F8(G:Gr):Prop:=∀x y,G x y↔(x=0/\y=1)∨(x=1/\y=0)
inductive Rr:Gr->Prop
 |one {G:Gr}:F8 G->Rr G
 |step {G:Gr}{v a b:Int}:Yl G v a b->Rr (YG G v a b)->Rr G
theorem Ln{G:Gr}(k:Gk G)(n:a≠b):Gk (YG G v a b):=by
 obtain⟨s,i⟩:=k;constructor
 ·rintro x y (⟨e,d,c⟩| h|h)
  ·exact .inl ⟨d,e,s _ _ c⟩
  ·exact .inr (.inr ⟨h.2,h.1⟩)
  ·exact .inr (.inl ⟨h.2,h.1⟩)
 ·rintro x (⟨_,_,c⟩| h|h)
  ·exact i _ c
  ·exact n (h.1.symm.trans h.2)
  ·exact n (h.2.symm.trans h.1)
theorem Lm(G:Gr)(v a b:Int):YG G v a b=YG G v b a:=by funext x y;unfold YG;exact propext ⟨λh=>h.imp id Or.symm,λh=>h.imp id Or.symm⟩
theorem Yl.sym{G:Gr}(h:Yl G v a b):Yl G v b a:=⟨h.g,h.n.symm,λy=>(h.h y).trans ⟨Or.symm,Or.symm⟩⟩
theorem Yl.ne{G:Gr}(k:Gk G)(h:Yl G v a b):a≠v/\b≠v:=⟨λe=>k.i v ((h.h v).mpr (.inl e.symm)),λe=>k.i v ((h.h v).mpr (.inr e.symm))⟩
theorem se{G:Gr}(r:Rr G):∀{v u:Int},Gk G->2<=v->(∀y,G v y↔y=u)->False:=by
 induction r with
 |one h =>
  intro v u _ j a;have:=(h v u).mp ((a u).mpr rfl);omega
 |@step G w c d b _ l =>
  intro v u k j a;have m:=Ln (v:=w) k b.n;obtain⟨q,s⟩:=b.ne k;by_cases e:v=w
  ·subst e;have p:=(a c).mp ((b.h c).mpr (.inl rfl));have g:=(a d).mp ((b.h d).mpr (.inr rfl));exact b.n (p.trans g.symm)
  by_cases o:v=c
  ·subst o;have f:u=w:=((a w).mp (k.s _ _ ((b.h v).mpr (.inl rfl)))).symm;subst f;refine l m j (u:=d) λy=>⟨?_,λh=>.inr (.inl ⟨rfl,h⟩)⟩
   rintro(⟨_,g,i⟩| h|h)
   ·exact absurd ((a y).mp i) g
   ·exact h.2
   ·exact absurd h.1 b.n
  by_cases n:v=d
  ·subst n;have f:u=w:=((a w).mp (k.s _ _ ((b.h v).mpr (.inr rfl)))).symm;subst f;refine l m j (u:=c) λy=>⟨?_,λh=>.inr (.inr ⟨rfl,h⟩)⟩
   rintro(⟨_,g,i⟩| h|h)
   ·exact absurd ((a y).mp i) g
   ·exact absurd h.1.symm b.n
   ·exact h.2
  ·refine l m j (u:=u) λy=>⟨?_,λh=>?_⟩
   ·rintro(⟨_,g,i⟩| h|h)
    ·exact(a y).mp i
    ·exact absurd h.1 o
    ·exact absurd h.1 n
   ·refine .inl ⟨e,?_,(a y).mpr h⟩;rintro rfl;have:=(b.h v).mp (k.s _ _ ((a y).mpr h));omega
theorem F7{G:Gr}(k:Gk G)(j:Yl G w c d)(f:Yl G v a b)(e:v≠w)(h:¬G v w):Yl (YG G w c d) v a b:=by
 have g:¬(v=c∨v=d):=λq=>h (k.s _ _ ((j.h v).mpr q));refine⟨f.g,f.n,λy=>⟨?_,λq=>.inl ⟨e,?_,(f.h y).mpr q⟩⟩⟩
 ·rintro(⟨_,_,i⟩| q|q)
  ·exact(f.h y).mp i
  ·exact absurd (.inl q.1) g
  ·exact absurd (.inr q.1) g
 ·rintro rfl;exact h ((f.h y).mpr q)
theorem sa{G:Gr}(m:c≠v)(j:d≠v)(l:a≠w)(k:b≠w):YG (YG G w c d) v a b=YG (YG G v a b) w c d:=by
 funext x y;refine propext ⟨?_,?_⟩
 ·rintro(⟨i,f,⟨g,e,h⟩| q|q⟩| q|q)
  ·exact .inl ⟨g,e,.inl ⟨i,f,h⟩⟩
  ·exact .inr (.inl q)
  ·exact .inr (.inr q)
  ·exact .inl ⟨by rw[q.1];exact l,by rw[q.2];exact k,.inr (.inl q)⟩
  ·exact .inl ⟨by rw[q.1];exact k,by rw[q.2];exact l,.inr (.inr q)⟩
 ·rintro(⟨i,f,⟨g,e,h⟩| q|q⟩| q|q)
  ·exact .inl ⟨g,e,.inl ⟨i,f,h⟩⟩
  ·exact .inr (.inl q)
  ·exact .inr (.inr q)
  ·exact .inl ⟨by rw[q.1];exact m,by rw[q.2];exact j,.inr (.inl q)⟩
  ·exact .inl ⟨by rw[q.1];exact j,by rw[q.2];exact m,.inr (.inr q)⟩
theorem F6{G:Gr}(k:Gk G)(c:Yl G w v d)(a:Yl G v w b)(n:b≠d):Yl (YG G w v d) v b d:=by
 obtain⟨e,i⟩:=c.ne k;obtain⟨j,h⟩:=a.ne k;refine⟨a.g,n,λy=>⟨?_,?_⟩⟩
 ·rintro(⟨_,f,g⟩| q|q)
  ·exact((a.h y).mp g).elim (λz=>absurd z f) .inl
  ·exact .inr q.2
  ·exact absurd q.1.symm c.n.symm
 ·rintro(rfl|rfl)
  ·exact .inl ⟨e,a.n.symm,(a.h y).mpr (.inr rfl)⟩
  ·exact .inr (.inl ⟨rfl,rfl⟩)
theorem r8{G:Gr}(k:Gk G)(i:Yl G w v d)(h:Yl G v w b):YG (YG G w v d) v b d=YG (YG G v w b) w d b:=by
 funext x y;refine propext ⟨?_,?_⟩
 ·rintro(⟨c,a,⟨f,e,g⟩| q|q⟩| q|q)
  ·exact .inl ⟨f,e,.inl ⟨c,a,g⟩⟩
  ·exact absurd q.1 c
  ·exact absurd q.2 a
  ·exact .inr (.inr q)
  ·exact .inr (.inl q)
 ·rintro(⟨c,a,⟨f,e,g⟩| q|q⟩| q|q)
  ·exact .inl ⟨f,e,.inl ⟨c,a,g⟩⟩
  ·exact absurd q.1 c
  ·exact absurd q.2 a
  ·exact .inr (.inr q)
  ·exact .inr (.inl q)
theorem rZ{G:Gr}(k:Gk G)(a:Yl G w v b)(c:Yl G v w b):∀y,YG G w v b v y↔y=b:=by
 obtain⟨f,g⟩:=a.ne k;refine λy=>⟨?_,λh=>.inr (.inl ⟨rfl,h⟩)⟩
 rintro(⟨_,d,e⟩| q|q)
 ·exact((c.h y).mp e).elim (λz=>absurd z d) id
 ·exact q.2
 ·exact absurd q.1 a.n
theorem rY{G:Gr}(r:Rr G):∀{v a b:Int},Gk G->Yl G v a b->Rr (YG G v a b):=by
 induction r with
 |one h =>
  intro v a b _ f;have:=(h v a).mp ((f.h a).mpr (.inl rfl));have:=f.g;omega
 |@step G w c d i r s =>
  intro v a b k f;have o:=Ln (v:=w) k i.n;have J:=Ln (v:=v) k f.n;by_cases e:v=w
  ·subst e;have l:=(i.h a).mp ((f.h a).mpr (.inl rfl));have j:=(i.h b).mp ((f.h b).mpr (.inr rfl));have:=f.n;rcases l with rfl|rfl
   ·rcases j with rfl|rfl
    ·exact absurd rfl this
    ·exact r
   ·rcases j with rfl|rfl
    ·rw[Lm];exact r
    ·exact absurd rfl this
  by_cases g:G v w
  ·have x:∀{d b:Int},Yl G w v d->Yl G v w b->(∀{p q r:Int},Gk (YG G w v d)->Yl (YG G w v d) p q r->Rr (YG (YG G w v d) p q r))->Rr (YG G w v d)->Gk (YG G w v d)->Rr (YG G v w b):=by
    intro d b i f s r o;by_cases n:b=d
    ·subst n;exact(se r o f.g (rZ k i f)).elim
    ·have:=s o (F6 k i f n);rw[r8 k i f]at this;exact .step (F6 k f i (Ne.symm n)) this
   have l:=(f.h w).mp g;have j:=(i.h v).mp (k.s _ _ g);have m:∀{a b c d:Int},Yl G v a b->Yl G w c d->(∀{v a b:Int},Gk (YG G w c d)->Yl (YG G w c d) v a b->Rr (YG (YG G w c d) v a b))->Rr (YG G w c d)->Gk (YG G w c d)->w=a->v=c->Rr (YG G v a b):=by rintro a b c d f i s r o rfl rfl;exact x i f s r o
   have t:=@s;have y:=r;have u:=o;rw[Lm]at t y u;rcases l with l|l
   ·rcases j with j|j
    ·exact m f i s r o l j
    ·exact m f i.sym t y u l j
   ·rw[Lm];rcases j with j|j
    ·exact m f.sym i s r o l j
    ·exact m f.sym i.sym t y u l j
  ·have A:¬G w v:=λz=>g (k.s _ _ z);obtain⟨F,K⟩:=i.ne k;obtain⟨H,I⟩:=f.ne k;have B:c≠v:=by rintro rfl;exact A ((i.h c).mpr (.inl rfl))
   have C:d≠v:=by rintro rfl;exact A ((i.h d).mpr (.inr rfl))
   have D:a≠w:=by rintro rfl;exact g ((f.h a).mpr (.inl rfl))
   have E:b≠w:=by rintro rfl;exact g ((f.h b).mpr (.inr rfl))
   have:=s o (F7 k i f e g);rw[sa B C D E]at this;exact .step (F7 k f i (Ne.symm e) A) this
theorem F5{G:Gr}(k:Gk G)(h:Yl G v a b):Rr G↔Rr (YG G v a b):=⟨λr=>rY r k h,λr=>.step h r⟩
theorem F4{G:Gr}(h:∀v a b,¬Yl G v a b):Rr G↔F8 G:=⟨λr=>by cases r with|one h=>exact h|step q _=>exact absurd q (h _ _ _),.one⟩
noncomputable def gB(bs:List (Bd Tr)):Gr:=λx y=>∃e∈bs,(x=e.a/\y=e.b)∨(x=e.b/\y=e.a)
theorem rX(h:∀e∈bs,e.a<e.b):Gk (gB bs):=by
 constructor
 ·rintro x y ⟨e,m,q⟩;exact⟨e,m,by omega⟩
 ·rintro x ⟨e,m,q⟩;have:=h e m;omega
theorem F3{A BB C:List (Bd Tr)}(c:∀e∈A++x::(BB++y::C),e.a<e.b)(f:x.has p=Z7)(i:y.has p=Z7)(d:Y3 p (A++x::(BB++y::C))=Z7)(B:¬(x.a=y.a/\x.b=y.b))(s:b=X8 Y4 x y p):
  Rr (gB (A++x::(BB++y::C)))↔Rr (gB (A++b::(BB++C))):=by
 unfold Y3 at d;simp only[qC4,decide_eq_true_eq]at d;obtain⟨w,g⟩:=d;have a:∀e,e∈A∨e∈BB∨e∈C->p≠e.a/\p≠e.b:=by
  rw[qJ6,qE2,if_pos f,qJ6,qE2,if_pos i]at g;simp only[qB8,qC7]at g;have r:(A.filter λe=>e.has p)=[]:=qD0.mp (by omega);have j:(BB.filter λe=>e.has p)=[]:=qD0.mp (by omega);have l:(C.filter λe=>e.has p)=[]:=qD0.mp (by omega);rintro e (h|h|h)
  ·simpa[Bd.has]using qG9.mp r e h
  ·simpa[Bd.has]using qG9.mp j e h
  ·simpa[Bd.has]using qG9.mp l e h
 have ex:=c x (by simp);have o:=c y (by simp);obtain⟨H,D⟩:=RT f ex;obtain⟨G,I⟩:=RT i o;have ne:x.far p≠y.far p:=λz=>B (by omega);have n:(b.a=x.far p/\b.b=y.far p)∨(b.a=y.far p/\b.b=x.far p):=by
  rw[s];show((if y.far p<x.far p then y.far p else x.far p)=_/\(if y.far p>x.far p then y.far p else x.far p)=_)∨((if y.far p<x.far p then y.far p else x.far p)=_/\(if y.far p>x.far p then y.far p else x.far p)=_)
  split<;>split<;>omega
 have k:=rX c;have t:Yl (gB (A++x::(BB++y::C))) p (x.far p) (y.far p):=by
  refine⟨w,ne,λz=>⟨?_,?_⟩⟩
  ·rintro⟨e,m,q⟩;simp only[qB7,qA8]at m;rcases m with m|rfl|m|rfl|m
   ·have:=a e (.inl m);omega
   ·left;omega
   ·have:=a e (.inr (.inl m));omega
   ·right;omega
   ·have:=a e (.inr (.inr m));omega
  ·rintro(rfl|rfl)
   ·exact⟨x,by simp,by omega⟩
   ·exact⟨y,by simp,by omega⟩
 have e:gB (A++b::(BB++C))=YG (gB (A++x::(BB++y::C))) p (x.far p) (y.far p):=by
  funext u v;refine propext ⟨?_,?_⟩
  ·rintro⟨e,m,q⟩;simp only[qB7,qA8]at m;rcases m with m|rfl|m|m
   ·have:=a e (.inl m);exact .inl ⟨by omega,by omega,e,by simp[m],q⟩
   ·right;omega
   ·have:=a e (.inr (.inl m));exact .inl ⟨by omega,by omega,e,by simp[m],q⟩
   ·have:=a e (.inr (.inr m));exact .inl ⟨by omega,by omega,e,by simp[m],q⟩
  ·rintro(⟨E,F,e,m,q⟩| q)
   ·simp only[qB7,qA8]at m;rcases m with m|rfl|m|rfl|m
    ·exact⟨e,by simp[m],q⟩
    ·omega
    ·exact⟨e,by simp[m],q⟩
    ·omega
    ·exact⟨e,by simp[m],q⟩
   ·exact⟨b,by simp,by omega⟩
 rw[e];exact F5 k t
theorem rW{A BB C:List (Bd Tr)}(d:x.a=y.a)(a:x.b=y.b)(b1:b.a=x.a)(c:b.b=x.b):gB (A++x::(BB++y::C))=gB (A++b::(BB++C)):=by
 funext u v;refine propext ⟨?_,?_⟩
 ·rintro⟨e,m,q⟩;simp only[qB7,qA8]at m;rcases m with m|rfl|m|rfl|m
  ·exact⟨e,by simp[m],q⟩
  ·exact⟨b,by simp,by omega⟩
  ·exact⟨e,by simp[m],q⟩
  ·exact⟨b,by simp,by omega⟩
  ·exact⟨e,by simp[m],q⟩
 ·rintro⟨e,m,q⟩;simp only[qB7,qA8]at m;rcases m with m|rfl|m|m
  ·exact⟨e,by simp[m],q⟩
  ·exact⟨x,by simp,by omega⟩
  ·exact⟨e,by simp[m],q⟩
  ·exact⟨e,by simp[m],q⟩
theorem rV(ok:Xi sw bs)(h:X0 YU Y4 bs=Z9 c):Rr (gB bs)↔Rr (gB c):=by
 obtain⟨A,x,f,y,C,b,rfl,a,rfl⟩:=OB h;have d:∀e∈A++x::(f++y::C),e.a<e.b:=λe m=>(ok.e e m).2.1;unfold Wz at a;split at a
 ·rename_i q;cases a;rw[rW (b:=⟨x.a,x.b,YU x.t y.t⟩) q.1 q.2 rfl rfl]
 ·rename_i q;split at a
  ·rename_i z;cases a;rw[qC4]at z;exact F3 d (by simp[Bd.has]) z.1 z.2 q rfl
  ·split at a
   ·rename_i z;cases a;rw[qC4]at z;exact F3 d (by simp[Bd.has]) z.1 z.2 q rfl
   ·cases a
theorem F2:∀(n:Nat) {bs:List (Bd Tr)},Xi sw bs->(Rr (gB bs)↔Rr (gB (XP YU Y4 n bs)))
 |0,bs,ok=>Iff.rfl
 |n+1,bs,ok=>by
  unfold XP;cases e:X0 YU Y4 bs with
  |none=>exact Iff.rfl
  |some a=>exact(rV ok e).trans (F2 n (Lw ok e).ok)
theorem rT(h:X0 YU Y4 bs=Z8):bs.Pairwise λx y=>Wz YU Y4 x y bs=Z8:=by
 unfold X0 at h;rw[qP4,Lr (λq e=>qI1 (qA7.mp (Tc e)).1),qN1]at h;rw[qK4];intro i j c d b;have a:(j,bs[j])∈XC bs:=by unfold XC;exact qC0 (i:=j) (by simp[qH1,d])
 have:=h _ a;unfold V2 at this;rw[qP4,qN1]at this;have:=this i (qE4.mpr b);unfold SQ at this;rw[qA4 c]at this;simpa using this
theorem Qw(h:Wz YU Y4 x y bs=Z8):¬(x.a=y.a/\x.b=y.b)/\(y.has x.a&&Y3 x.a bs)=Z5/\(y.has x.b&&Y3 x.b bs)=Z5:=by
 unfold Wz at h;split at h
 ·cases h
 ·split at h
  ·cases h
  ·split at h
   ·cases h
   ·rename_i a b c;exact⟨a,by simpa using b,by simpa using c⟩
theorem farE{v a b x y:Int}(l:x<y)(q:(v=x/\(y=a∨y=b))∨(v=y/\(x=a∨x=b))):∃z,(z=a∨z=b)/\x=min v z/\y=max v z:=by
 rcases q with⟨rfl,h⟩|⟨rfl,h⟩
 ·exact⟨y,h,(Int.min_eq_left (Int.le_of_lt l)).symm,(Int.max_eq_right (Int.le_of_lt l)).symm⟩
 ·exact⟨x,h,(Int.min_eq_right (Int.le_of_lt l)).symm,(Int.max_eq_left (Int.le_of_lt l)).symm⟩
theorem threeE{v a b c d e f g i:Int}(h:∃z,(z=a∨z=b)/\c=min v z/\d=max v z)(j:∃z,(z=a∨z=b)/\e=min v z/\f=max v z)(k:∃z,(z=a∨z=b)/\g=min v z/\i=max v z):(c=e/\d=f)∨(c=g/\d=i)∨(e=g/\f=i):=by
 obtain⟨x,l,rfl,rfl⟩:=h;obtain⟨y,m,rfl,rfl⟩:=j;obtain⟨z,n,rfl,rfl⟩:=k
 rcases l with l|l<;>rcases m with m|m<;>rcases n with n|n<;>rw[l,m,n]<;>first|exact .inl ⟨rfl,rfl⟩|exact .inr (.inl ⟨rfl,rfl⟩)|exact .inr (.inr ⟨rfl,rfl⟩)
theorem rS(A:∀e∈F,e.a<e.b)(h:X0 YU Y4 F=Z8):Rr (gB F)↔∃t,F=[⟨0,1,t⟩]:=by
 have pw:=rT h;have f:∀v a b,¬Yl (gB F) v a b:=by
  rintro v a b ⟨G,S,k⟩;obtain⟨E,I,P⟩:=(k a).mpr (.inl rfl);obtain⟨J,D,Q⟩:=(k b).mpr (.inr rfl);have sub:(F.filter λx=>x.has v).Sublist F:=List.filter_sublist;have i:∀e∈F,(v=e.a∨v=e.b)->e∈F.filter λx=>x.has v:=λe m q=>qE0.mpr ⟨m,by simpa[Bd.has]using q⟩;have c:∀e∈F.filter (λx=>x.has v),e.a<e.b/\((v=e.a/\(e.b=a∨e.b=b))∨(v=e.b/\(e.a=a∨e.a=b))):=λe m=>by
   obtain⟨s,n⟩:=qE0.mp m;have l:=A e s;simp only[Bd.has,qE8,decide_eq_true_eq]at n;refine⟨l,?_⟩;rcases n with n|n
   ·have:=(k e.b).mp ⟨e,s,by omega⟩;omega
   ·have:=(k e.a).mp ⟨e,s,by omega⟩;omega
  have p:=i E I (by omega);have B:=i J D (by omega);have g:=pw.sublist sub;have mv:(F.filter λx=>x.has v).length=2->Y3 v F=Z7:=λe=>by unfold Y3;rw[e];simp[G]
  generalize F.filter (λx=>x.has v)=L at *
  match L with
  |[]=>cases p
  |[x] =>
   rw[qB6]at p B;subst p;subst B;omega
  |[x,y] =>
   have m:=mv rfl;have K:=Qw ((qF3.mp g).1 y (by simp));have w:=c x (by simp);have H:=c y (by simp);obtain⟨_,d,C⟩:=K;have u:y.has v=Z7:=by simp only[Bd.has,qE8,decide_eq_true_eq];omega
   rcases w.2 with q|q
   ·rw[<- q.1,u,m]at d;cases d
   ·rw[<- q.1,u,m]at C;cases C
  |x::y::z::r =>
   have w:=c x (by simp);have H:=c y (by simp);have M:=c z (by simp);simp only[qF3,qA8]at g;have N:=(Qw (g.1 y (.inl rfl))).1;have R:=(Qw (g.1 z (.inr (.inl rfl)))).1;have O:=(Qw (g.2.1 z (.inl rfl))).1;rcases threeE (farE w.1 w.2) (farE H.1 H.2) (farE M.1 M.2)with q|q|q
   ·exact N q
   ·exact R q
   ·exact O q
 rw[F4 f];constructor
 ·intro o;have YL:∀e∈F,e.a=0/\e.b=1:=λe m=>by have:=(o e.a e.b).mp ⟨e,m,.inl ⟨rfl,rfl⟩⟩;have:=A e m;omega
  match F,pw,YL,o with
  |[],_,_,o =>
   obtain⟨e,m,_⟩:=(o 0 1).mpr (.inl ⟨rfl,rfl⟩);cases m
  |[e],_,YL,_ =>
   obtain⟨j,d⟩:=YL e (by simp);obtain⟨a,b,t⟩:=e;cases j;cases d;exact⟨t,rfl⟩
  |x::y::r,pw,YL,_ =>
   have j:=YL x (by simp);have d:=YL y (by simp);simp only[qF3,qA8]at pw;exact absurd ⟨j.1.trans d.1.symm,j.2.trans d.2.symm⟩ (Qw (pw.1 y (.inl rfl))).1
 ·rintro⟨t,rfl⟩ x y;constructor
  ·rintro⟨e,m,q⟩;rw[qB6]at m;subst m;exact q
  ·intro q;exact⟨_,qB6.mpr rfl,q⟩
theorem rR(ok:Xi sw bs)(a:bs.length<=n):Rr (gB bs)↔∃t,XP YU Y4 n bs=[⟨0,1,t⟩] :=
 (F2 n ok).trans (rS (λe m=>((Lv n ok).ok.e e m).2.1) (Gs n a))
theorem Ll:∀(l z:List (yA)),(∀r,r∈l.foldl YW z↔r∈z∨r∈l)/\(z.Nodup->(l.foldl YW z).Nodup)
 |[],z=>⟨λr=>by simp,λh=>h⟩
 |k::l,z=>by
  obtain⟨b,a⟩:=Ll l (YW z k);rw[qK9];by_cases q:k∈z
  ·have e:YW z k=z:=by simp[YW,q]
   rw[e]at b a ⊢;refine⟨λr=>(b r).trans ?_,a⟩;rw[qA8];exact⟨λh=>h.elim .inl λh=>.inr (.inr h),λh=>h.elim .inl λh=>h.elim (λz=>.inl (z▸q)) .inr⟩
  ·have e:YW z k=k::z:=by simp[YW,q]
   rw[e]at b a ⊢;refine⟨λr=>(b r).trans ?_,λc=>a (qH8.mpr ⟨q,c⟩)⟩;rw[qA8,qA8];exact⟨λh=>h.elim (λh=>h.elim (λz=>.inr (.inl z)) .inl) λh=>.inr (.inr h),λh=>h.elim (λz=>.inl (.inr z)) λh=>h.elim (λz=>.inl (.inl z)) .inr⟩
noncomputable def WQ(l:List (yA)):List (yA):=XA (Yv l)
theorem Oy:r∈WQ l↔r∈l:=by unfold WQ Yv;rw[(Ss _).mem_iff,(Ll l []).1];simp
theorem F1(l:List (yA)):(WQ l).Nodup:=by unfold WQ Yv;exact(Ss _).symm.nodup ((Ll l []).2 qP9)
theorem F0(l:List (yA)):(WQ l).length<=l.length:=by unfold WQ Yv;rw[(Ss _).length_eq];have:=M8 l [];simpa using this
structure XO(pl:Int)(R:List (yA)):Prop where
 f:∀r∈R,∃a b,r=[a,b]/\0<=a/\a<b/\b<pl
 nd:R.Nodup
noncomputable def gL(R:List (yA)):Gr:=λx y=>[x,y]∈R∨[y,x]∈R
theorem rQ{R:List (yA)}(ok:XO pl R):Gk (gL R):=by
 constructor
 ·exact λx y h=>h.symm
 ·rintro x (h|h)
  ·obtain⟨a,b,e,_,l,_⟩:=ok.f _ h;simp only[qH4.injEq,and_true]at e;omega
  ·obtain⟨a,b,e,_,l,_⟩:=ok.f _ h;simp only[qH4.injEq,and_true]at e;omega
noncomputable def X7(R:List (yA))(p:Int):List (yA):=R.filter λr=>decide (p∈r)
noncomputable def YY(R:List (yA))(p:Int):yA:=(X7 R p).map λr=>r.sum - p
noncomputable def W6(R:List (yA))(p:Int):List (yA):=R.filter λr=>!decide (r∈X7 R p)
noncomputable def Qv(R:List (yA))(p:Int):List (yA):=if(X7 R p).length=2 then WQ (W6 R p++[XQ (YY R p)])else R
theorem SO{R:List (yA)}{p:Int}{r:yA}:r∈X7 R p↔r∈R/\p∈r:=by unfold X7;rw[qE0,decide_eq_true_eq]
theorem zLj{R:List (yA)}{p:Int}{r:yA}:r∈W6 R p↔r∈R/\¬p∈r:=by unfold W6;rw[qE0,qM0,decide_eq_false_iff_not,SO];exact⟨λh=>⟨h.1,λz=>h.2 ⟨h.1,z⟩⟩,λh=>⟨h.1,λz=>h.2 z.2⟩⟩
theorem FZ{a:Type}(p:a->Bool):∀l:List a,(l.filter p).length+(l.filter λx=>!p x).length=l.length
 |[]=>rfl
 |x::l=>by have:=FZ p l;rw[qE2,qE2];cases p x<;>simp<;>omega
theorem FY{R:List (yA)}:(X7 R p).length+(W6 R p).length=R.length:=by rw[<- FZ (λr=>decide (p∈r)) R];unfold X7 W6;congr 2;exact List.filter_congr λr a=>by congr 1;rw[decide_eq_decide,SO];exact⟨λh=>h.2,λh=>⟨a,h⟩⟩
inductive rP(pl:Int)(R R':List (yA))(p:Int):Prop
 |no (h:R'=R) (n:(X7 R p).length≠2)
 |yes (ok:XO pl R') (r:Rr (gL R)↔Rr (gL R')) (l:R'.length<R.length)
theorem rO{R:List (yA)}(ok:XO pl R)(D:2<=p):rP pl R (Qv R p) p:=by
 by_cases h:(X7 R p).length=2
 ·have len:=FY (R:=R) (p:=p);have g:=F0 (W6 R p++[XQ (YY R p)]);rw[qB8,qF9]at g;have A:=@zLj R p;have i:=@SO R p;have t:(X7 R p).Nodup:=ok.nd.filter _;have F:Qv R p=WQ (W6 R p++[XQ (YY R p)]):=if_pos h;rw[F];unfold YY at *
  match B:X7 R p,h with
  |[r1,r2],_ =>
   rw[B]at i t len g;rw[qB5,qB5,qH5]at g ⊢;have j:=i.mp (qD5 ..);have k:=i.mp (qC2 _ (qD5 ..));obtain⟨a1,b1,rfl,G,I,N⟩:=ok.f _ j.1;obtain⟨a2,b2,rfl,K,M,u2⟩:=ok.f _ k.1;have ne:¬(a1=a2/\b1=b2):=by rintro⟨rfl,rfl⟩;simp at t
   have C:p=a1∨p=b1:=by simpa using j.2
   have v:p=a2∨p=b2:=by simpa using k.2
   obtain⟨a,f⟩:∃a,a=[a1,b1].sum - p:=⟨_,rfl⟩
   obtain⟨f2,b⟩:∃f2,f2=[a2,b2].sum - p:=⟨_,rfl⟩
   rw[<- f,<- b]at g ⊢;have J:a=a1+b1 - p:=by rw[f];simp
   have H:f2=a2+b2 - p:=by rw[b];simp
   clear f b;obtain⟨c,d,l,w,L⟩:∃c d,XQ [a,f2]=[c,d]/\c<d/\((c=a/\d=f2)∨(c=f2/\d=a)):=by rw[GV];refine⟨_,_,rfl,?_⟩;split<;>split<;>omega
   rw[l]at g ⊢;have mem:∀r,r∈WQ (W6 R p++[[c,d]])↔(r∈R/\¬p∈r)∨r=[c,d]:=λr=>by rw[Oy,qB7,A,qB6]
   have two:∀x y,([x,y]:yA)∈R->p=x∨p=y->(x=a1/\y=b1)∨(x=a2/\y=b2):=λx y m q=>by have:=i.mpr ⟨m,by simpa using q⟩;simpa using this
   have E:Yl (gL R) p a f2:=by
    refine⟨D,by omega,λy=>⟨?_,?_⟩⟩
    ·rintro(m|m)
     ·have:=two _ _ m (.inl rfl);omega
     ·have:=two _ _ m (.inr rfl);omega
    ·have o:gL R a1 b1/\gL R b1 a1:=⟨.inl j.1,.inr j.1⟩
     have g2:gL R a2 b2/\gL R b2 a2:=⟨.inl k.1,.inr k.1⟩
     rintro(rfl|rfl)
     ·rcases C with q|q
      ·rw[show p=a1 from q,show y=b1 by omega];exact o.1
      ·rw[show p=b1 from q,show y=a1 by omega];exact o.2
     ·rcases v with q|q
      ·rw[show p=a2 from q,show y=b2 by omega];exact g2.1
      ·rw[show p=b2 from q,show y=a2 by omega];exact g2.2
   have e:gL (WQ (W6 R p++[[c,d]]))=YG (gL R) p a f2:=by
    funext x y;refine propext ⟨?_,?_⟩
    ·rintro(m|m)
     ·rcases(mem _).mp m with⟨m,n⟩| q
      ·simp only[qA8,qD3,or_false,not_or]at n;exact .inl ⟨λz=>n.1 z.symm,λz=>n.2 z.symm,.inl m⟩
      ·simp only[qH4.injEq,and_true]at q;right;omega
     ·rcases(mem _).mp m with⟨m,n⟩| q
      ·simp only[qA8,qD3,or_false,not_or]at n;exact .inl ⟨λz=>n.2 z.symm,λz=>n.1 z.symm,.inr m⟩
      ·simp only[qH4.injEq,and_true]at q;right;omega
    ·rintro(⟨s,u,m|m⟩| q)
     ·exact .inl ((mem _).mpr (.inl ⟨m,by simp only[qA8,qD3,or_false,not_or];exact⟨λz=>s z.symm,λz=>u z.symm⟩⟩))
     ·exact .inr ((mem _).mpr (.inl ⟨m,by simp only[qA8,qD3,or_false,not_or];exact⟨λz=>u z.symm,λz=>s z.symm⟩⟩))
     ·have:(x=c/\y=d)∨(y=c/\x=d):=by omega
      rcases this with⟨rfl,rfl⟩| ⟨rfl,rfl⟩
      ·exact .inl ((mem _).mpr (.inr rfl))
      ·exact .inr ((mem _).mpr (.inr rfl))
   refine .yes ⟨λr m=>?_,F1 _⟩ (by rw[e];exact F5 (rQ ok) E) (by simp only[qC7,qG4]at len;omega);rcases(mem r).mp m with⟨m,_⟩| rfl
   ·exact ok.f r m
   ·exact⟨c,d,rfl,by omega,w,by omega⟩
 ·exact .no (if_neg h) h
theorem rN{R:List (yA)}(ok:XO pl R)(h:∀p,2<=p->p<pl->(X7 R p).length≠2):Rr (gL R)↔R=[[0,1]]:=by
 have d:∀v a b,¬Yl (gL R) v a b:=by
  rintro v a b ⟨A,X,g⟩;have lt:v<pl:=by
   rcases(g a).mpr (.inl rfl)with m|m
   ·obtain⟨x,y,e,_⟩:=ok.f _ m;simp only[qH4.injEq,and_true]at e;omega
   ·obtain⟨x,y,e,_⟩:=ok.f _ m;simp only[qH4.injEq,and_true]at e;omega
  have E:=h v A lt;have nd:(X7 R v).Nodup:=ok.nd.filter _;have f:∀z,(z=a∨z=b)->∃x y,[x,y]∈X7 R v/\((x=v/\y=z)∨(x=z/\y=v)):=λz n=>by
   rcases(g z).mpr n with m|m
   ·exact⟨v,z,SO.mpr ⟨m,by simp⟩,.inl ⟨rfl,rfl⟩⟩
   ·exact⟨z,v,SO.mpr ⟨m,by simp⟩,.inr ⟨rfl,rfl⟩⟩
  have c:∀r∈X7 R v,∃x y,r=[x,y]/\x<y/\((v=x/\(y=a∨y=b))∨(v=y/\(x=a∨x=b))):=λr m=>by
   obtain⟨i,C⟩:=SO.mp m;obtain⟨x,y,rfl,_,l,_⟩:=ok.f _ i;refine⟨x,y,rfl,l,?_⟩;have q:v=x∨v=y:=by simpa using C
   rcases q with q|q
   ·exact .inl ⟨q,(g y).mp (.inl (q▸i))⟩
   ·exact .inr ⟨q,(g x).mp (.inr (q▸i))⟩
  obtain⟨F,Z,j,T⟩:=f a (.inl rfl);obtain⟨G,W,k,V⟩:=f b (.inr rfl);generalize X7 R v=L at *
  match L with
  |[]=>cases j
  |[r] =>
   rw[qB6]at j k;have:=j.trans k.symm;simp only[qH4.injEq,and_true]at this;omega
  |[r,s]=>exact E rfl
  |r::s::t::L =>
   obtain⟨Y,O,rfl,K,Q⟩:=c r (by simp);obtain⟨I,N,rfl,S,J⟩:=c s (by simp);obtain⟨M,P,rfl,U,H⟩:=c t (by simp);rcases threeE (farE K Q) (farE S J) (farE U H)with q|q|q
   ·exact(qH8.mp nd).1 (by rw[q.1,q.2];simp)
   ·exact(qH8.mp nd).1 (by rw[q.1,q.2];simp)
   ·exact(qH8.mp (qH8.mp nd).2).1 (by rw[q.1,q.2];simp)
 rw[F4 d];constructor
 ·intro o;have YL:∀r∈R,r=[0,1]:=λr m=>by
   obtain⟨x,y,rfl,_,l,_⟩:=ok.f _ m;have:=(o x y).mp (.inl m);have D:x=0:=by omega
   have B:y=1:=by omega
   rw[D,B]
  have nd:=ok.nd
  match R,nd,YL,o with
  |[],_,_,o =>
   rcases(o 0 1).mpr (.inl ⟨rfl,rfl⟩)with m|m
   ·cases m
   ·cases m
  |[r],_,YL,_=>rw[YL r (by simp)]
  |r::s::L,nd,YL,_ =>
   have u:=YL r (by simp);have w:=YL s (by simp);rw[u,w]at nd;simp at nd
 ·rintro rfl x y;unfold gL;simp only[qB6,qH4.injEq,and_true];exact⟨λh=>h.imp id λh=>⟨h.2,h.1⟩,λh=>h.imp id λh=>⟨h.2,h.1⟩⟩
theorem rM(r:yA):plain 39 (L2.tD r)=Z7:=Mm (n:=38) (Ml (by decide) r)
theorem RQ(r:yA):plain 40 (L2.tD r)=Z7:=Mm (n:=39) (Ml (by decide) r)
theorem RP(R:List (yA)):(R.map L2.tD).all (plain 39)=Z7:=qD9.mpr λx a=>by obtain⟨r,_,rfl⟩:=qB9.mp a;exact rM r
theorem FX(h:L2.tD a=L2.tD b):a=b:=by unfold L2.tD at h;injection h with h;exact(qR1 (λx y h=>by injection h)).mp h
theorem FW{A BB:List (yA)}:A.map L2.tD=BB.map L2.tD↔A=BB:=qR1 (λx y h=>FX h)
theorem rL{a:List (yA)}(h:ZH S k=Z9 (a.map L2.tD))(q:yA):Yr Z7 (L2.tD q) (.lst k) S=.ok (.bl (!decide (q∈a))) S:=by
 have m:=Sd (n:=40) S (RQ q);have l:(a.map L2.tD).mapM (Zl 40 S)=Z9 ((a.map L2.tD).map (Zc 40)):=Mo λx e=>by obtain⟨g,_,rfl⟩:=qB9.mp e;exact Sd (n:=40) S (RQ g)
 have f:((a.map L2.tD).map (Zc 40)).any (λd=>PyData.eqv d (Zc 40 (L2.tD q)))=decide (q∈a):=by
  refine Vf ?_;rw[qS5,decide_eq_true_iff];constructor
  ·rintro⟨d,c,i⟩;rw[qC8]at c;obtain⟨g,j,rfl⟩:=qB9.mp c;have:=(R9 40 (L2.tD g) (L2.tD q) (RQ g) (RQ q)).mp i;exact FX this▸j
  ·intro b;refine⟨Zc 40 (L2.tD q),?_,(R9 40 _ _ (RQ q) (RQ q)).mpr rfl⟩;rw[qC8];exact qB9.mpr ⟨q,b,rfl⟩
 unfold Yr;dsimp only;have o:Vk S (.lst k)=Z9 (a.map L2.tD):=h;have b:YC (L2.tD q)=Z8:=rfl;simp only[o,b,m,l,f];rfl
noncomputable def Vt:yM->M D:=λb S=>match b with
 |[.lst n]=>match (ZH S n).bind UT with
  |some a=>if a.length<=16 then .ok (.lst S.length) (S++[.lst ((XA (Yv a)).map L2.tD)])else .bad
  |none=>.bad
 |_=>.bad
@[simp]theorem ly(a:CA)(B:ZR)(S:ZU):Q7 a B S=Zz (a B S) Vt .mk:=rfl
theorem FV(h:ZH S n=Z9 (nss.map L2.tD))(a:nss.length<=16):Vt [.lst n] S=.ok (.lst S.length) (S++[.lst ((WQ nss).map L2.tD)]):=by unfold Vt;dsimp only;rw[h,qS6,Lo];dsimp only;rw[if_pos a];rfl
theorem rK(b:∀i∈r,0<=i/\i<=1000000)(c:r.length<=1000000)(S:ZU):V9 [L2.tD r] S=.ok (.int r.sum) S:=by
 unfold V9 L2.tD;have:(r.all λi=>decide (0<=i)&&decide (i<=1000000))=Z7:=qD9.mpr λi a=>by simpa using b i a
 simp only[Mk,this,c,and_self,if_true]
theorem rJ(c:ZO){BB H:yM}(hk:ZH S k=Z9 BB)(b:BB.length<lim)(e:Y2 [(k,BB)] .one (QI c) (QH c) [Z8,Z9 (.int p)] BB S=.ok H S)
  (f:Zi [.lst S.length] (S++[.lst H])=.ok (.int L) (S++[.lst H])) (a:¬L=2) :
  UM c [Z9 nd,Z9 (.lst k),w2,Z9 (.int p),w4,w5] S=.nx [Z9 nd,Z9 (.lst k),w2,Z9 (.int p),Z9 (.lst S.length),w5] (S++[.lst H]):=by simp[UM,hk,b,e,f,a]
theorem rH(c:ZO){BB H F Q:yM}(hk:ZH S k=Z9 BB)(u:BB.length<lim)(e:Y2 [(k,BB)] .one (QI c) (QH c) [Z8,Z9 (.int p)] BB S=.ok H S)
  (o:S++[.lst H]=a) (f:Zi [.lst S.length] a=.ok (.int 2) a) (w:ZH a S.length=Z9 H) (g:H.length<lim) (x:Y2 [(S.length,H)] .one (λ_=>ret Z7) (O7 c) [Z8,Z9 (.int p)] H a=.ok F a)
  (r:a++[.lst F]=n) (y:WD [.lst a.length] n=.ok (.lst j) b) (h:ZH b k=Z9 BB) (q:Y2 [(k,BB)] .one (O9 c) (O8 c) [Z8,Z9 (.lst S.length)] BB b=.ok Q b)
  (s:b++[.lst Q]=d) (A:XY [.lst j] d=.ok T d) (v:d++[.lst [T]]=i) (t:ZK (.lst b.length) (.lst d.length) i=.ok (.lst m) l) (B:Vt [.lst m] l=.ok (.lst z) S7) :
  UM c [Z9 nd,Z9 (.lst k),w2,Z9 (.int p),w4,w5] S=.nx [Z9 nd,Z9 (.lst z),w2,Z9 (.int p),Z9 (.lst S.length),Z9 (.lst j)] S7:=by simp[UM,hk,u,e,o,f,w,g,x,r,y,h,q,s,A,v,t,B]
theorem rG(c:ZO)(hpl:pl<=100){R:List (yA)}(ok:XO pl R)(K:R.length<=16)(hk:ZH S k=Z9 (R.map L2.tD)):
  ∃z U H S',UM c [Z9 nd,Z9 (.lst k),w2,Z9 (.int p),w4,w5] S=.nx [Z9 nd,Z9 (.lst z),w2,Z9 (.int p),U,H] S'/\ZH S' z=Z9 ((Qv R p).map L2.tD)/\Ex S S':=by
 have big:=UL;have C:(R.map L2.tD).length<lim:=by rw[qA0];omega
 have e:Y2 [(k,R.map L2.tD)] .one (QI c) (QH c) [Z8,Z9 (.int p)] (R.map L2.tD) S=.ok ((X7 R p).map L2.tD) S :=
  Se L2.tD (Vh hk) _ _ _ λr _=>⟨_,rfl,by simp[QI,L2.tD,GW],λ_=>by simp[QH]⟩
 have d:=Zh S ((X7 R p).map L2.tD);have f:=Sf d;rw[qA0]at f;by_cases l:(X7 R p).length=2
 ·rw[l]at f;have o:Ex S (S++[.lst ((X7 R p).map L2.tD)]):=Zn _ _;obtain⟨S1,E⟩:∃S1,S++[.lst ((X7 R p).map L2.tD)]=S1:=⟨_,rfl⟩
  rw[E]at d f o;have M:Y2 [(S.length,(X7 R p).map L2.tD)] .one (λ_=>ret Z7) (O7 c) [Z8,Z9 (.int p)] ((X7 R p).map L2.tD) S1=.ok ((YY R p).map D.int) S1:=by
   unfold YY;rw[qC8];exact UP L2.tD (Vh d) (λr=>.int (r.sum - p)) _ λr L=>⟨_,rfl,by
    obtain⟨a,b,rfl,X,Y,Z⟩:=ok.f r (SO.mp L).1;have fs:=rK (r:=[a,b]) (λi O=>by simp only[qA8,qD3,or_false]at O;omega) (by show 2<=1000000;decide) S1;generalize L2.tD [a,b]=T at *;generalize [a,b].sum=s at *;simp[O7,fs]⟩
  have N:=Zh S1 ((YY R p).map D.int);have q:=Hr N (by unfold YY;rw[qA0];omega);have h:Ex S1 (S1++[.lst ((YY R p).map D.int)]):=Zn _ _;obtain⟨S2,x⟩:∃S2,S1++[.lst ((YY R p).map D.int)]=S2:=⟨_,rfl⟩
  rw[x]at q h;have G:=Zh S2 ((XQ (YY R p)).map D.int);have j:Ex S2 (S2++[.lst ((XQ (YY R p)).map D.int)]):=Zn _ _;obtain⟨S3,I⟩:∃S3,S2++[.lst ((XQ (YY R p)).map D.int)]=S3:=⟨_,rfl⟩
  rw[I]at G q j;have g:=((o.trans h).trans j).lst hk λz=>z;have t:=(h.trans j).lst d λz=>z;have J:Y2 [(k,R.map L2.tD)] .one (O9 c) (O8 c) [Z8,Z9 (.lst S.length)] (R.map L2.tD) S3=.ok ((W6 R p).map L2.tD) S3 :=
   Se L2.tD (Vh g) _ _ _ λr _=>⟨_,rfl,by simp[O9,rL t],λ_=>by simp[O8]⟩
  have A:=Zh S3 ((W6 R p).map L2.tD);have n:Ex S3 (S3++[.lst ((W6 R p).map L2.tD)]):=Zn _ _;obtain⟨S4,F⟩:∃S4,S3++[.lst ((W6 R p).map L2.tD)]=S4:=⟨_,rfl⟩
  rw[F]at A n;have V:=Uq (n.lst G λz=>z);have y:=Zh S4 [L2.tD (XQ (YY R p))];have m:Ex S4 (S4++[.lst [L2.tD (XQ (YY R p))]]):=Zn _ _;obtain⟨S5,v⟩:∃S5,S4++[.lst [L2.tD (XQ (YY R p))]]=S5:=⟨_,rfl⟩
  rw[v]at y m;have len:=FY (R:=R) (p:=p);have B:=Ui (m.lst A λz=>z) y (by rw[qA0];simp only[qF9];omega);have u:=Zh S5 ((W6 R p).map L2.tD++[L2.tD (XQ (YY R p))]);have w:Ex S5 (S5++[.lst ((W6 R p).map L2.tD++[L2.tD (XQ (YY R p))])]):=Zn _ _;obtain⟨S6,P⟩:∃S6,S5++[.lst ((W6 R p).map L2.tD++[L2.tD (XQ (YY R p))])]=S6:=⟨_,rfl⟩
  rw[P]at u B w;have Q:(W6 R p).map L2.tD++[L2.tD (XQ (YY R p))]=(W6 R p++[XQ (YY R p)]).map L2.tD:=by rw[qD2];rfl
  rw[Q]at u;have W:=FV u (by rw[qB8,qF9];omega);refine⟨_,_,_,_,rH c hk C e E f d (by rw[qA0];omega) M x q g J F V v B W,?_,o.trans (h.trans (j.trans (n.trans (m.trans (w.trans (Zn _ _))))))⟩;rw[Zh];unfold Qv;rw[if_pos l]
 ·refine⟨k,_,_,_,rJ c hk C e f (by omega),?_,Zn _ _⟩;unfold Qv;rw[if_neg l];exact(Zn S [.lst ((X7 R p).map L2.tD)]).lst hk λz=>z
inductive FU(pl:Int)(G:Gr)(nd:D)(w2:Option D)(R:List (yA))(S0:ZU)(j:Nat)(B:ZR)(S:ZU):Prop
 |mk (R':List (yA)) (k:Nat) (w3 w4 w5:Option D) (h:B=[Z9 nd,Z9 (.lst k),w2,w3,w4,w5]) (l:ZH S k=Z9 (R'.map L2.tD)) (ok:XO pl R') (le:R'.length<=R.length) (r:Rr G↔Rr (gL R')) (s:(R'=R/\∀i:Nat,i<j->(X7 R (2+(i:Int))).length≠2)∨R'.length<R.length) (x:Ex S0 S)
theorem rF(c:ZO)(hpl:pl<=100){G:Gr}{R:List (yA)}(ok:XO pl R)(H:Rr G↔Rr (gL R))(A:R.length<=16)(hk:ZH S k=Z9 (R.map L2.tD))(m:Nat):
  ∃f S',YV [] (gN 3) (UM c) (Zd 2 m) [Z9 nd,Z9 (.lst k),w2,w3,w4,w5] S=.nx f S'/\FU pl G nd w2 R S m f S':=by
 obtain⟨f,S',e,p⟩:=VW (w:=[]) (g:=gN 3) (b:=UM c) (items:=Zd 2 m) (FU pl G nd w2 R S) (B:=[Z9 nd,Z9 (.lst k),w2,w3,w4,w5]) (S:=S)
  (λ_ _ _ _=>X5 _) ⟨R,k,w3,w4,w5,rfl,hk,ok,qA6 _,H,.inl ⟨rfl,λi t=>absurd t (qG0 _)⟩,Kp.refl _ _⟩
  (λj d B S' E J=>by
   obtain⟨C,O,N,K,y,rfl,l,a,F,r,s,x⟩:=J;obtain⟨M,rfl⟩:=QB.mp E;obtain⟨z,v,u,L,I,h,o⟩:=rG c hpl a (by omega) (p:=2+(j:Int)) (nd:=nd) (w2:=w2) (w4:=K) (w5:=y) l;refine⟨_,_,rfl,_,_,.inl I,?_⟩;rcases rO a (p:=2+(j:Int)) (by omega)with⟨e,n⟩| ⟨ok2,r2,l3⟩
   ·rw[e]at h;refine⟨C,z,_,v,u,rfl,h,a,F,r,?_,x.trans o⟩;rcases s with⟨rfl,s⟩| s
    ·refine .inl ⟨rfl,λi t=>?_⟩;by_cases q:i=j
     ·subst q;exact n
     ·exact s i (by omega)
    ·exact .inr s
   ·exact⟨_,z,_,v,u,rfl,h,ok2,by omega,r.trans r2,.inr (by omega),x.trans o⟩)
 rw[Uh]at p;exact⟨f,S',e,p⟩
theorem rE{xs:yM}(h:ZH S k=Z9 xs)(a:xs.all (plain 39)=Z7):XM .non (.lst k) S=.ok (.bl Z7) S:=by unfold XM;dsimp only;rw[QT h a];rfl
theorem FT(h:XM o r S=.ok (.bl b) S):Zt (ZW XM (ZY 2) (ZY 1)) [B0,Z9 r,Z9 o,w3,w4,w5] S=.ok b S:=by simp[h]
theorem rD(c:ZO)(f:ZL nd (.int 1) S=.ok (.int pl) S)(b:-4611686018427387904<=pl/\pl<4611686018427387904)
  (e:YV [] (gN 3) (UM c) (Zd 2 (pl - 2).toNat) [Z9 nd,Z9 (.lst k),Z9 (.lst k),w3,w4,w5] S=.nx a S'):R5 c [Z9 nd,Z9 (.lst k),Z9 o,w3,w4,w5] S=.nx a S':=by obtain⟨g,d⟩:=b;simp[R5,f,g,d,e]
inductive rC(pl:Int)(G:Gr)(nd:D)(S0:ZU)(m:Nat)(B:ZR)(S:ZU):Prop
 |go (R:List (yA)) (k:Nat) (o:D) (w3 w4 w5:Option D) (h:B=[Z9 nd,Z9 (.lst k),Z9 o,w3,w4,w5]) (l:ZH S k=Z9 (R.map L2.tD)) (ok:XO pl R) (h16:R.length<=16) (r:Rr G↔Rr (gL R)) (t:XM o (.lst k) S=.ok (.bl Z7) S) (x:Ex S0 S) (hm:m=R.length+1)
 |st (R:List (yA)) (k:Nat) (o:D) (w3 w4 w5:Option D) (h:B=[Z9 nd,Z9 (.lst k),Z9 o,w3,w4,w5]) (l:ZH S k=Z9 (R.map L2.tD)) (ok:XO pl R) (r:Rr G↔Rr (gL R)) (t:XM o (.lst k) S=.ok (.bl Z5) S) (q:∀p,2<=p->p<pl->(X7 R p).length≠2) (x:Ex S0 S)
theorem rB(c:ZO)(hpl:pl<=100)(L:0<=pl){G:Gr}{R:List (yA)}(ok:XO pl R)(P:Rr G↔Rr (gL R))(j:R.length<=16)(O:∀S,ZL nd (.int 1) S=.ok (.int pl) S)(hk:ZH S k=Z9 (R.map L2.tD)):
  ∃w S',WS VX (Zt (ZW XM (ZY 2) (ZY 1))) (R5 c) [Z9 nd,Z9 (.lst k),Z9 .non,w3,w4,w5] S=.nx w S'/\∃n v o g h d,w=[Z9 nd,Z9 (.lst v),Z9 o,g,h,d]/\ZH S' v=Z9 (n.map L2.tD)/\(Rr G↔n=[[0,1]])/\Ex S S':=by
 refine Mp (t:=Zt (ZW XM (ZY 2) (ZY 1))) (b:=R5 c) (rC pl G nd S) (fun w S'=>∃n v o g h d,w=[Z9 nd,Z9 (.lst v),Z9 o,g,h,d]/\ZH S' v=Z9 (n.map L2.tD)/\(Rr G↔n=[[0,1]])/\Ex S S') (λm B S' Q=>?_) VX (R.length+1) _ S (qJ3 (qO9 j) (by decide)) (.go R k _ w3 w4 w5 rfl hk ok j P (rE hk (RP R)) (Kp.refl _ _) rfl);rcases Q with⟨f,E,o,g,h,d,rfl,l,a,A,r,t,x,rfl⟩| ⟨f,E,o,g,h,d,rfl,l,a,r,t,q,x⟩
 ·refine .inr ⟨S',FT t,?_⟩;obtain⟨X,N,e,R2,J,F,K,I,rfl,C,u,Y,H,s,y⟩:=rF c hpl a r A (nd:=nd) (w2:=Z9 (.lst E)) (w3:=g) (w4:=h) (w5:=d) l (pl - 2).toNat;have M:=y.lst l λz=>z;have ne:=Hs M C (RP f) (RP R2);refine⟨_,N,.inl (rD c (O S') ⟨by omega,by omega⟩ e),?_⟩;by_cases q:R2=f
  ·subst q;have U:∀i:Nat,i<(pl - 2).toNat->(X7 R2 (2+(i:Int))).length≠2:=by
    rcases s with s|s
    ·exact s.2
    ·omega
   refine⟨0,by omega,.st R2 J _ F K I rfl C u H (by rw[ne,show V6 (R2.map L2.tD) (R2.map L2.tD)=Z7 from Vg.mpr rfl];rfl) (λp V W=>?_) (x.trans y)⟩;have:=U (p - 2).toNat (by omega);rwa[show(2+(((p - 2).toNat:Nat):Int))=p by omega]at this
  ·have lt:R2.length<f.length:=by
    rcases s with s|s
    ·exact absurd s.1 q
    ·exact s
   have T:V6 (f.map L2.tD) (R2.map L2.tD)=Z5:=by
    cases z:V6 (f.map L2.tD) (R2.map L2.tD)with
    |false=>rfl
    |true=>exact absurd (FW.mp (Vg.mp z)).symm q
   exact⟨R2.length+1,by omega,.go R2 J _ F K I rfl C u (by omega) H (by rw[ne,T];rfl) (x.trans y) rfl⟩
 ·exact .inl ⟨S',FT t,f,E,o,g,h,d,rfl,l,r.trans (rN a q),x⟩
theorem rA(x y z w:D):Zf [x,y,z,w] Z8 (Z9 2)=[x,y]:=rfl
theorem rz(x y z w:D):Zf [x,y,z,w] (Z9 2) Z8=[z,w]:=rfl
theorem ry(x y z:D):Zf [x,y,z] (Z9 1) Z8=[y,z]:=rfl
theorem Qu(N:Zx)(S:ZU):ZL N.d (.int 1) S=.ok (.int N.pl) S:=by simp[Zx.d]
theorem Qt(N:Zx)(S:ZU):ZL N.d (.int 2) S=.ok (.tup (N.cs.map Ct.d)) S:=by simp[Zx.d]
theorem rx(c:ZO){C BB:yM}(r:ZL nd (.int 2) S=.ok (.tup C) S)(l:C.length<lim)(e:Y2 [] .one (λ_=>ret Z7) (O6 c) [Z8] C S=.ok BB S)(i:S++[.lst BB]=f)(s:Vt [.lst S.length] f=.ok (.lst k) d)
  (m:WS VX (Zt (ZW XM (ZY 2) (ZY 1))) (R5 c) [Z9 nd,Z9 (.lst k),Z9 .non,Z8,Z8,Z8] d=.nx [Z9 nd,Z9 (.lst g),Z9 o,n,p,h] a) (j:a++[.lst [.tup [.int 0,.int 1]]]=S4) (q:Y8 (.lst g) (.lst a.length) S4=.ok (.bl b) S4) :
  QG c [Z9 nd,Z8,Z8,Z8,Z8,Z8] S=.rt (.bl b) S4:=by simp[QG,r,l,e,i,s,m,j,q]
open Classical in
theorem rq(h:Hf cl)(n:Nat)(ok:Xi sw (Zo N))(L:∀c∈N.cs,c.b<N.pl)(hpl:N.pl<=100)(f:0<=N.pl)(g:N.cs.length<=16)(S:ZU):Wp (cl (n+1) "_law_drawn" [N.d] S) (.bl (decide (Rr (gB (Zo N))))) S:=by
 have big:=UL;have M:∀c∈N.cs,0<=c.a/\c.a<c.b:=λc a=>by have:=ok.e ⟨c.a,c.b,.lf c.k c.o⟩ (qB9.mpr ⟨c,a,rfl⟩);exact⟨this.1,this.2.1⟩
 obtain⟨P,d⟩:∃P:List (yA),P=N.cs.map λc=>[c.a,c.b]:=⟨_,rfl⟩
 have e:Y2 [] .one (λ_=>ret Z7) (O6 (cl n)) [Z8] (N.cs.map Ct.d) S=.ok (P.map L2.tD) S:=by rw[d,qC8];exact UP Ct.d (X5 S) (λc=>L2.tD [c.a,c.b]) _ λc _=>⟨_,rfl,by simp[O6,Ct.d,L2.tD,rA]⟩
 have l:=Zh S (P.map L2.tD);have B:Ex S (S++[.lst (P.map L2.tD)]):=Zn _ _;obtain⟨S1,v⟩:∃S1,S++[.lst (P.map L2.tD)]=S1:=⟨_,rfl⟩
 rw[v]at l B;have t:P.length<=16:=by rw[d,qA0];exact g
 have C:=FV l t;have A:=Zh S1 ((WQ P).map L2.tD);have j:Ex S1 (S1++[.lst ((WQ P).map L2.tD)]):=Zn _ _;obtain⟨S2,F⟩:∃S2,S1++[.lst ((WQ P).map L2.tD)]=S2:=⟨_,rfl⟩
 rw[F]at A C j;have OI:XO N.pl (WQ P):=⟨λr u=>by
  rw[Oy,d]at u;obtain⟨c,a,rfl⟩:=qB9.mp u;have:=M c a;exact⟨c.a,c.b,rfl,this.1,this.2,L c a⟩,F1 _⟩
 have E:gL (WQ P)=gB (Zo N):=by
  funext x y;unfold gL gB Zo;rw[Oy,Oy,d];refine propext ⟨?_,?_⟩
  ·rintro(m|m)
   ·obtain⟨c,a,e⟩:=qB9.mp m;simp only[qH4.injEq,and_true]at e;exact⟨_,qB9.mpr ⟨c,a,rfl⟩,.inl ⟨e.1.symm,e.2.symm⟩⟩
   ·obtain⟨c,a,e⟩:=qB9.mp m;simp only[qH4.injEq,and_true]at e;exact⟨_,qB9.mpr ⟨c,a,rfl⟩,.inr ⟨e.2.symm,e.1.symm⟩⟩
  ·rintro⟨e,m,q⟩;obtain⟨c,a,rfl⟩:=qB9.mp m;rcases q with⟨rfl,rfl⟩| ⟨rfl,rfl⟩
   ·exact .inl (qB9.mpr ⟨c,a,rfl⟩)
   ·exact .inr (qB9.mpr ⟨c,a,rfl⟩)
 obtain⟨_,b,I,s,R,o,Q,T,O,rfl,J,D,H⟩:=rB (cl n) hpl f OI (G:=gB (Zo N)) (by rw[E]) (qD4 (F0 P) t) (Qu N) (w3:=Z8) (w4:=Z8) (w5:=Z8) A;have i:Ex b (b++[.lst [.tup [.int 0,.int 1]]]):=Zn _ _;have p:=Zh b [.tup [.int 0,.int 1]];obtain⟨S4,w⟩:∃S4,b++[.lst [.tup [.int 0,.int 1]]]=S4:=⟨_,rfl⟩
 rw[w]at p i;have k:=uV (i.lst J λz=>z) p (RP s) (by rfl);have K:V6 (s.map L2.tD) [.tup [.int 0,.int 1]]=decide (Rr (gB (Zo N))):=by refine Vf (Vg.trans ?_);rw[decide_eq_true_iff,D];exact FW (BB:=[[0,1]])
 rw[K]at k;refine⟨S4,?_,B.trans (j.trans (H.trans i))⟩;rw[h];exact Y7 rfl (rx (cl n) (Qt N S) (by rw[qA0];omega) e v C I w k)
noncomputable def Lk:List (Bd Tr)->D
 |[⟨a,b,t⟩]=>if a=0/\b=1 then t.d else .non
 |_=>.non
theorem FS(c:ZO)(h:c "bonds_of" [nd] S=.ok (.lst a) d)(i:c "drawn_once" [.lst a] d=.ok v b)(e:WS VX (Zt (ZW V0 (ZY 2) (ZX .non))) (To c) [Z9 nd,Z9 (.lst a),Z9 v] b=.nx [Z9 nd,Z9 (.lst k),Z9 g] S3)
  (f:Zi [.lst k] S3=.ok (.int L) S3) (j:¬L=1):UO c [Z9 nd,Z8,Z8] S=.rt .non S3:=by simp[UO,h,i,e,f,j]
theorem rp(c:ZO)(l:c "bonds_of" [nd] S=.ok (.lst d) f)(n:c "drawn_once" [.lst d] f=.ok v e)(h:WS VX (Zt (ZW V0 (ZY 2) (ZX .non))) (To c) [Z9 nd,Z9 (.lst d),Z9 v] e=.nx [Z9 nd,Z9 (.lst k),Z9 j] S3)
  (i:Zi [.lst k] S3=.ok (.int 1) S3) (m:ZL (.lst k) (.int 0) S3=.ok (.tup [.int a,.int b,g]) S3) (q:Y8 (.tup [.int a,.int b]) (.tup [.int 0,.int 1]) S3=.ok (.bl Z5) S3):UO c [Z9 nd,Z8,Z8] S=.rt .non S3:=by simp[UO,l,n,h,i,m,UF,q]
inductive FR(nd:D)(sw:Int)(F:List (Bd Tr))(S0:ZU)(m:Nat)(B:ZR)(S:ZU):Prop
 |yes (bs bs':List (Bd Tr)) (k k':Nat) (h:B=[Z9 nd,Z9 (.lst k),Z9 (.lst k')]) (l:ZH S k=Z9 (bs.map Bd.d)) (l':ZH S k'=Z9 (bs'.map Bd.d)) (o:X0 YU Y4 bs=Z9 bs') (ok:Xi sw bs) (hl:bs.length<=16) (f:XP YU Y4 16 bs=F) (x:Ex S0 S) (hm:m=bs.length)
 |no (bs:List (Bd Tr)) (k:Nat) (h:B=[Z9 nd,Z9 (.lst k),Z9 .non]) (l:ZH S k=Z9 (bs.map Bd.d)) (o:X0 YU Y4 bs=Z8) (ok:Xi sw bs) (f:bs=F) (x:Ex S0 S)
theorem ro(H:Qx cl)(n:Nat)(ok:Xi sw (Zo N))(P:N.cs.length<=16)(S:ZU):Wp (cl (n+4) "tree_of" [N.d] S) (Lk (XP YU Y4 16 (Zo N))) S:=by
 obtain⟨F,G⟩:∃F,XP YU Y4 16 (Zo N)=F:=⟨_,rfl⟩
 rw[G];have u:=sS H.bo (n+2) N (by omega) S;have M:=Zh S ((Zo N).map Bd.d);have j:(Zo N).length<=16:=by unfold Zo;rw[qA0];exact P
 have A:(1000:Nat)<VX:=by decide
 have I:∀(bs:List (Bd Tr)) (k:Nat) (h:ZU),Xi sw bs->bs.length<=16->ZH h k=Z9 (bs.map Bd.d)->XP YU Y4 16 bs=F->Ex (S++[.lst ((Zo N).map Bd.d)]) h->∃v S2,cl (n+3) "drawn_once" [.lst k] h=.ok v S2/\FR N.d sw F (S++[.lst ((Zo N).map Bd.d)]) bs.length [Z9 N.d,Z9 (.lst k),Z9 v] S2:=by
  intro bs k h c J l f x;rcases sA H n c (by omega) l with⟨d,C,S2,o,e,w,p⟩| ⟨S2,o,e,p⟩
  ·exact⟨_,S2,e,.yes bs d k C rfl (p.lst l λz=>z) w o c J f (x.trans p) rfl⟩
  ·refine⟨_,S2,e,.no bs k rfl (p.lst l λz=>z) o c ?_ (x.trans p)⟩;have:XP YU Y4 16 bs=bs:=by unfold XP;rw[o]
   rw[<- f,this]
 obtain⟨v,S2,i,E⟩:=I (Zo N) S.length _ ok j M G (Kp.refl _ _);obtain⟨V,S3,s,bs,k,rfl,l3,U,O,K,L⟩:=Mp (t:=Zt (ZW V0 (ZY 2) (ZX .non))) (b:=To (cl (n+3))) (FR N.d sw F (S++[.lst ((Zo N).map Bd.d)]))
  (fun B h=>∃bs k,B=[Z9 N.d,Z9 (.lst k),Z9 .non]/\ZH h k=Z9 (bs.map Bd.d)/\X0 YU Y4 bs=Z8/\Xi sw bs/\bs=F/\Ex (S++[.lst ((Zo N).map Bd.d)]) h)
  (λm B h T=>by
   rcases T with⟨bs,d,k,C,rfl,l,w,o,c,J,f,x,rfl⟩| ⟨bs,k,rfl,l,o,c,f,x⟩
   ·have len:=Lx o;have R:XP YU Y4 16 d=F:=by have g:=f;unfold XP at g;rw[o]at g;dsimp only at g;rw[Ge 15 (by omega)];exact g
    obtain⟨v,S2,i,E⟩:=I d C h (Lw c o).ok (by omega) w R x;exact .inr ⟨h,Gc _ _ _ _,_,S2,.inl (sx _ i),d.length,by omega,E⟩
   ·exact .inl ⟨h,Gc _ _ _ _,bs,k,rfl,l,o,c,f,x⟩) VX (Zo N).length _ S2 (qR5 (qJ3 j (by decide:16<1000)) A) E
 subst K;have fl:=Sf l3;have ix:=W9 l3 0;refine⟨S3,?_,(Zn S _).trans L⟩;rw[show n+4=(n+3)+1 from rfl,H.to]
 match bs,l3,fl,ix with
 |[],l3,fl,ix=>exact Y7 rfl (FS (cl (n+3)) u i s fl (by decide))
 |[⟨a,b,t⟩],l3,fl,ix =>
  by_cases q:a=0/\b=1
  ·obtain⟨rfl,rfl⟩:=q;exact Y7 rfl (sy (cl (n+3)) u i s fl ix)
  ·have Q:Y8 (.tup [.int a,.int b]) (.tup [.int 0,.int 1]) S3=.ok (.bl Z5) S3:=by
    rw[Pq S3 rfl rfl];have:V6 (D.tup [.int a,.int b]) (.tup [.int 0,.int 1])=Z5:=by
     cases z:V6 (D.tup [.int a,.int b]) (.tup [.int 0,.int 1])with
     |false=>rfl
     |true=>exact absurd (by simpa using Vg.mp z) q
    rw[this]
   rw[show Lk [⟨a,b,t⟩]=.non from if_neg q];exact Y7 rfl (rp (cl (n+3)) u i s fl ix Q)
 |x::y::r,l3,fl,ix =>
  exact Y7 rfl (FS (cl (n+3)) u i s fl (by simp only[qA0,qC7];omega))
mutual
noncomputable def Tr.lfl:Tr->List (Int×Int)
 |.lf k o=>[(k,o)]
 |.nd _ a=>Tr.lfls a
noncomputable def Tr.lfls:List Tr->List (Int×Int)
 |[]=>[]
 |t::a=>t.lfl++Tr.lfls a
end
theorem Lj:∀a b:List Tr,Tr.lfls (a++b)=Tr.lfls a++Tr.lfls b
 |[],b=>by simp[Tr.lfls]
 |t::a,b=>by rw[qO5,Tr.lfls,Tr.lfls,Lj a b,qC6]
theorem rn(h:X0 YU Y4 bs=Z9 c):(Tr.lfls (c.map Bd.t)).Perm (Tr.lfls (bs.map Bd.t)):=by
 obtain⟨A,x,e,y,C,b,rfl,a,rfl⟩:=OB h;have d:b.t.lfl=x.t.lfl++y.t.lfl:=by
  unfold Wz at a;split at a
  ·cases a;simp[YU,Tr.lfl,Tr.lfls]
  ·split at a
   ·cases a;simp[X8,Y4,Tr.lfl,Tr.lfls]
   ·split at a
    ·cases a;simp[X8,Y4,Tr.lfl,Tr.lfls]
    ·cases a
 simp only[qD2,qB5,Lj,Tr.lfls,d];refine List.Perm.append_left _ ?_;rw[qC6];refine List.Perm.append_left _ ?_;rw[<- qC6,<- qC6];exact List.Perm.append_right _ List.perm_append_comm
theorem FQ:∀(n:Nat) {bs:List (Bd Tr)},(Tr.lfls ((XP YU Y4 n bs).map Bd.t)).Perm (Tr.lfls (bs.map Bd.t))
 |0,bs=>.refl _
 |n+1,bs=>by
  unfold XP;cases e:X0 YU Y4 bs with
  |none=>exact .refl _
  |some a=>exact(FQ n).trans (rn e)
theorem rm(N:Zx):Tr.lfls ((Zo N).map Bd.t)=N.cs.map λc=>(c.k,c.o):=by
 unfold Zo;rw[qC8]
 induction N.cs with
 |nil=>rfl
 |cons c r a=>rw[qB5,qB5,Tr.lfls,a];rfl
noncomputable def Vs(q:Int×Int):D:=(Tr.lf q.1 q.2).d
theorem rl(h:Hj cl):∀(H:Nat) (t:Tr),t.ht<=H->t.sz<=1000->∀(n:Nat) (S:ZU),∃k S1,cl (n+H+1) "_law_leaves" [t.d] S=.ok (.lst k) S1/\ZH S1 k=Z9 (t.lfl.map Vs)/\t.lfl.length=t.lv/\S.length<=k/\Ex S S1:=by
 intro H;have a:∀(n:Nat) (k o:Int) (S:ZU),∃q S1,cl (n+1) "_law_leaves" [(Tr.lf k o).d] S=.ok (.lst q) S1/\ZH S1 q=Z9 ((Tr.lf k o).lfl.map Vs)/\(Tr.lf k o).lfl.length=(Tr.lf k o).lv/\S.length<=q/\Ex S S1:=λn k o S =>
  ⟨S.length,S++[.lst [(Tr.lf k o).d]],by rw[h];exact Y7 rfl (by simp[QP,Y1,Tr.d]),Zh _ _,rfl,qA6 _,Zn _ _⟩
 induction H with
 |zero =>
  intro t ht E n S;cases t with
  |lf k o=>exact a n k o S
  |nd r ps=>simp[Tr.ht]at ht
 |succ H N =>
  intro t ht E n S;cases t with
  |lf k o=>exact a (n+(H+1)) k o S
  |nd r ps =>
   have L:Tr.hts ps+1<=H+1:=ht;have P:Tr.szs ps+1<=1000:=E;obtain⟨q,J⟩:∃q,S.length=q:=⟨_,rfl⟩
   obtain⟨f,K⟩:∃f,f=(Tr.nd r ps).d:=⟨_,rfl⟩
   obtain⟨V,S1,C,y,rfl,e,m,x⟩:=VW (w:=[]) (g:=gN 2) (b:=L6 (cl (n+(H+1)))) (items:=ps.map Tr.d)
    (λj B l=>∃y,B=[Z9 f,Z9 (.lst q),y]/\ZH l q=Z9 ((Tr.lfls (ps.take j)).map Vs)/\(Tr.lfls (ps.take j)).length=Tr.lvs (ps.take j)/\Ex S l) (B:=[Z9 f,Z9 (.lst q),Z8]) (S:=S++[.lst []])
    (λj B l _=>X5 _) ⟨Z8,rfl,by rw[<- J];exact Zh _ _,by simp[Tr.lvs,Tr.lfls],Zn _ _⟩
    (λj d B l G T=>by
     obtain⟨y,rfl,e,m,x⟩:=T;rw[qB3]at G;obtain⟨t,c,rfl⟩:=qA5.mp G;have v:t∈ps:=qC0 c;obtain⟨k,s,I,p,u,U,D⟩:=N t (by have:=UK v;omega) (by have:=RX v;omega) n l;rw[show n+H+1=n+(H+1) by omega]at I;have Q:=Tu e;have i:=D.lst e λz=>z;have O:Tr.lvs (ps.take j)<=1000:=by have:=lvs_szs (ps.take j);have:=tZ ps j;omega
     have M:t.lv<=1000:=by have:=GJ t;have:=RX v;omega
     have ext:Sr (.lst q) [.lst k] s=.ok .non (s.set q (.lst ((Tr.lfls (ps.take j)).map Vs++t.lfl.map Vs))):=by unfold Sr;dsimp only;rw[Vi i,Vi p];dsimp only;rw[if_pos (by rw[qA0,qA0,Vw];omega)]
     have F:Tr.lfls (ps.take (j+1))=Tr.lfls (ps.take j)++t.lfl:=by rw[qJ9,c,Lj];show _++(t.lfl++[])=_;rw[qG3]
     refine⟨_,_,rfl,[Z9 f,Z9 (.lst q),Z9 t.d],s.set q (.lst ((Tr.lfls (ps.take j)).map Vs++t.lfl.map Vs)),.inl ?_,_,rfl,?_,?_,(x.trans D).setNew (by omega)⟩
     ·have R:=Uo e;simp only[qL1,qL2];generalize t.d=td at *;simp[L6,R,I,ext]
     ·rw[F,qD2];exact V7 i
     ·rw[F,qB8,m,u,qJ9,c,OC];show _=_+(t.lv+0)
      omega)
   rw[qA0,qH3]at e m;refine⟨q,S1,?_,e,m,by omega,x⟩
   ·rw[h];refine Y7 rfl ?_;rw[K]at C;simp only[Tr.d,Ta]at C ⊢;generalize ps.map Tr.d=A at *;simp[QP,Y1,OP,J,C]
theorem rk(c:ZO)(d:c "tree_of" [nd] S=.ok .non a)(b:c "_law_drawn" [nd] a=.ok (.bl Z5) S2):Ti c [Z9 nd,Z8] S=.rt (.bl Z7) S2:=by have q:D.non.isNon=Z7:=rfl;simp[Ti,d,b,q]
theorem rj(c:ZO){F Q A BB:yM}(z:∀S,ZL nd (.int 0) S=.ok sw S)(r:∀S,ZL nd (.int 2) S=.ok (.tup Q) S)(K:c "tree_of" [nd] S=.ok d l)(M:d.isNon=Z5)(I:c "_law_drawn" [nd] l=.ok (.bl Z7) f)
  (x:c "_law_counted" [sw,d] f=.ok (.int L) f) (w:1<=L) (y:L<=16) (s:c "_law_leaves" [d] f=.ok (.lst k) a) (C:ZH a k=Z9 F) (E:F.length<lim) (H:Y2 [(k,F)] .one (λ_=>ret Z7) (O5 c) [Z8] F a=.ok A a) (G:a++[.lst A]=n) (J:WD [.lst a.length] n=.ok (.lst p) b)
  (h:Q.length<lim) (B:Y2 [] .one (λ_=>ret Z7) (O4 c) [Z8] Q b=.ok BB b) (t:b++[.lst BB]=j) (i:WD [.lst b.length] j=.ok (.lst o) e) (ne:XM (.lst p) (.lst o) e=.ok (.bl Z5) e) (v:c "_law_tree_bits" [sw,d] e=.ok g m) (u:c "_law_function" [nd] m=.ok g S9) (q:Y8 g g S9=.ok (.bl Z7) S9) :
  Ti c [Z9 nd,Z8] S=.rt (.bl Z7) S9:=by simp[Ti,z,r,K,M,I,x,w,y,s,C,E,H,G,J,h,B,t,i,ne,v,u,q]
structure Qs(cl:Nat->ZO):Prop where
 dr:Qx cl
 ld:Hf cl
 co:Hh cl
 wh:L7 cl
 lv:Hj cl
 tb:Hi cl
 bi:L5 cl
 lf:ub cl
theorem rh(h:a.Perm b):XA a=XA b:=Iy ((Ss a).trans h) (MW a)
theorem Ox(N:Zx)(S:ZU):ZL N.d (.int 0) S=.ok (.int N.sw) S:=by simp[Zx.d]
theorem rg(h:¬∃t,F=[⟨0,1,t⟩]):Lk F=.non:=by
 match F with
 |[]=>rfl
 |[⟨a,b,t⟩] =>
  refine if_neg ?_;rintro⟨rfl,rfl⟩;exact h ⟨t,rfl⟩
 |x::y::r=>rfl
open Classical in
theorem rd(h:He cl)(H:Qs cl)(n:Nat){N:Zx}(ok:N.g)(S:ZU):Wp (cl (n+19) "_law_right" [N.d] S) (.bl Z7) S:=by
 have big:=UL;have b:Xi N.sw (Zo N):=sv ok.c2 ok.p2;have a:N.cs.length<=16:=by have:=ok.c1;omega
 have i:(Zo N).length<=16:=by unfold Zo;rw[qA0];exact a
 obtain⟨S1,o,J⟩:=ro H.dr (n+14) b a S;obtain⟨v,m,y⟩:=rq H.ld (n+17) b (λc Y=>(ok.c2 c Y).2.2.1) (by have:=ok.p2;omega) (by have:=ok.p1;omega) a S1;have O:=rR (n:=16) b i;by_cases l:Rr (gB (Zo N))
 ·rw[decide_eq_true l]at m;obtain⟨t,ht⟩:=O.mp l;have j:=Lv 16 b;have u:=FQ 16 (bs:=Zo N);rw[ht]at o j u;have r:cl (n+18) "tree_of" [N.d] S=.ok t.d S1:=o;have wf:t.wf N.sw:=j.ok.w ⟨0,1,t⟩ (by simp);have lv:t.lv=N.cs.length:=by
   have:=j.lv;rw[sj]at this;have e:Ud [⟨0,1,t⟩]=t.lv:=by show t.lv+0=t.lv;omega
   omega
  have on:∀st,t.on st=Yg N st:=λst=>Vf ((sk t st).symm.trans ((j.j st).symm.trans (su N st)));have w:t.lfl.Perm (N.cs.map λc=>(c.k,c.o)):=by
   rw[rm]at u;have e:Tr.lfls ([(⟨0,1,t⟩:Bd Tr)].map Bd.t)=t.lfl:=by show t.lfl++[]=_;rw[qG3]
   rwa[e]at u
  have g:t.sz<=1000:=by have:=LO t wf;omega
  have d:t.ht<=15:=by have:=Gx t wf;omega
  have A:=tM H.co H.wh N.sw 16 n (tL v 15 t d g);rw[Ga (16+1) t (by omega) wf]at A;obtain⟨k,S3,R,C,ll,_,U⟩:=rl H.lv 15 t d g (n+2) v;have Z:Y2 [(k,t.lfl.map Vs)] .one (λ_=>ret Z7) (O5 (cl (n+18))) [Z8] (t.lfl.map Vs) S3=.ok ((t.lfl.map λq=>[q.1,q.2]).map L2.tD) S3:=by rw[qC8];exact UP Vs (Vh C) _ _ λq _=>⟨_,rfl,by simp[O5,Vs,Tr.d,ry,L2.tD]⟩
  have I:Ex S3 (S3++[.lst ((t.lfl.map λq=>[q.1,q.2]).map L2.tD)]):=Zn _ _;have B:=Zh S3 ((t.lfl.map λq=>[q.1,q.2]).map L2.tD);obtain⟨S4,G⟩:∃S4,S3++[.lst ((t.lfl.map λq=>[q.1,q.2]).map L2.tD)]=S4:=⟨_,rfl⟩
  rw[G]at B I;have K:=F9 B (by first|exact trivial|(show _<64;rw[qA0];omega));have E:Ex S4 (S4++[.lst ((XA (t.lfl.map λq=>[q.1,q.2])).map L2.tD)]):=Zn _ _;have M:=Zh S4 ((XA (t.lfl.map λq=>[q.1,q.2])).map L2.tD);obtain⟨S5,P⟩:∃S5,S4++[.lst ((XA (t.lfl.map λq=>[q.1,q.2])).map L2.tD)]=S5:=⟨_,rfl⟩
  rw[P]at M E K;have V:Y2 [] .one (λ_=>ret Z7) (O4 (cl (n+18))) [Z8] (N.cs.map Ct.d) S5=.ok ((N.cs.map λc=>[c.k,c.o]).map L2.tD) S5:=by rw[qC8];exact UP Ct.d (X5 _) _ _ λq _=>⟨_,rfl,by simp[O4,Ct.d,rz,L2.tD]⟩
  have s:Ex S5 (S5++[.lst ((N.cs.map λc=>[c.k,c.o]).map L2.tD)]):=Zn _ _;have D:=Zh S5 ((N.cs.map λc=>[c.k,c.o]).map L2.tD);obtain⟨S6,L⟩:∃S6,S5++[.lst ((N.cs.map λc=>[c.k,c.o]).map L2.tD)]=S6:=⟨_,rfl⟩
  rw[L]at D s;have f:=F9 D (by first|exact trivial|(show _<64;rw[qA0];omega));have es:XA (t.lfl.map λq=>[q.1,q.2])=XA (N.cs.map λc=>[c.k,c.o]):=by refine rh ?_;have:=w.map (λq:Int×Int=>[q.1,q.2]);rwa[qC8]at this
  rw[<- es]at f;have p:Ex S6 (S6++[.lst ((XA (t.lfl.map λq=>[q.1,q.2])).map L2.tD)]):=Zn _ _;have F:=Zh S6 ((XA (t.lfl.map λq=>[q.1,q.2])).map L2.tD);obtain⟨S7,q7⟩:∃S7,S6++[.lst ((XA (t.lfl.map λq=>[q.1,q.2])).map L2.tD)]=S7:=⟨_,rfl⟩
  rw[q7]at F p f;have ne:=Hs ((s.trans p).lst M λz=>z) F (RP _) (RP _);rw[Mn]at ne;obtain⟨X,x,x8⟩:=tE H.tb H.bi H.lf.ls ok.s1 ok.s2 d wf g (n+1) S7;obtain⟨W,T,Q⟩:=uc H.lf.fu H.lf.le H.lf.ma H.lf.sh H.lf.ls (n+15) ok (by decide) (by decide) (by decide) X;have eb:RW N.sw t=WA N:=by unfold RW WA;exact qK5 λst _=>by rw[on st];cases Yg N st<;>rfl
  rw[eb]at x;refine⟨W,?_,J.trans (y.trans (U.trans (I.trans (E.trans (s.trans (p.trans (x8.trans Q)))))))⟩;rw[show n+19=(n+18)+1 from rfl,h];exact Y7 rfl (rj (cl (n+18)) (Ox N) (Qt N) r (si t) m A (by have:=ON t wf;omega) (by omega) R C (by rw[qA0];omega) Z G K (by rw[qA0];omega) V L f ne x T (Lq _ _))
 ·rw[decide_eq_false l]at m;rw[rg λz=>l (O.mpr z)]at o;refine⟨v,?_,J.trans y⟩;rw[show n+19=(n+18)+1 from rfl,h];exact Y7 rfl (rk (cl (n+18)) o m)
theorem q0(c:ZO){BB:yM}(g:p - 1=d)(h:2+r=b)(f:WC "list" (.lst q) S=Z7)(j:c "_law_take" [.lst i,.int d] S=.ok (.int r) a)(e:XJ W1 (.lst q) [.int b,.int p] a=.ok .non (a.set q (.lst BB))):
  QK c [Z9 (.lst i),Z9 nd,Z9 (.lst q),Z9 (.int p),w4,w5] S=.nx [Z9 (.lst i),Z9 nd,Z9 (.lst q),Z9 (.int p),w4,w5] (a.set q (.lst BB)):=by simp[QK,f,g,j,h,e]
theorem qZ(c:ZO){BB:yM}(h:L+1=e)(j:WC "list" (.lst z) S=Z7)(f:Zi [.lst z] S=.ok (.int L) S)(k:c "_law_take" [.lst i,.int e] S=.ok (.int r) a)(g:c "_law_turned_ends" [b,.lst q] a=.ok d a)(l:XJ W1 (.lst z) [.int r,d] a=.ok .non (a.set z (.lst BB))):
  QL c [Z9 (.lst i),Z9 nd,Z9 (.lst q),w3,Z9 (.lst z),Z9 b] S=.nx [Z9 (.lst i),Z9 nd,Z9 (.lst q),w3,Z9 (.lst z),Z9 b] (a.set z (.lst BB)):=by simp[QL,j,f,h,k,g,l]
theorem qY(c:ZO){C R:yM}(l:∀S,ZL nd (.int 0) S=.ok sw S)(g:∀S,ZL nd (.int 1) S=.ok (.int pl) S)(f:∀S,ZL nd (.int 2) S=.ok (.tup C) S)(o:-4611686018427387904<=pl/\pl<4611686018427387904)(r:C.length<lim)(p:S.length=q)
  (s:YV [] (gN 3) (QK c) (Zd 2 (pl - 2).toNat) [Z9 (.lst i),Z9 nd,Z9 (.lst q),Z8,Z8,Z8] (S++[.lst [.int 0,.int 1]])=.nx [Z9 (.lst i),Z9 nd,Z9 (.lst q),e,Z8,Z8] b) (hz:b.length=z) (k:b++[.lst []]=d)
  (n:YV [] (gN 5) (QL c) C [Z9 (.lst i),Z9 nd,Z9 (.lst q),e,Z9 (.lst z),Z8] d=.nx [Z9 (.lst i),Z9 nd,Z9 (.lst q),a,Z9 (.lst z),h] S3) (t:XY [.lst z] S3=.ok (.tup R) S3) :
  QJ c [Z9 (.lst i),Z9 nd,Z8,Z8,Z8,Z8] S=.rt (.tup [sw,.int pl,.tup R]) S3:=by obtain⟨j,m⟩:=o;simp[QJ,l,g,f,j,m,r,p,s,hz,k,n,t]
theorem qX{p:Nat}(h:a.Perm ((List.range p).map fun(k:Nat)=>(k:Int))){sw pl:Int}(C:pl=p)(ok:c.ok sw pl):(c.mv (XB a)).ok sw pl/\RZ a c:=by
 obtain⟨i,D,t,m,y,r,u⟩:=ok;have len:a.length=p:=by rw[h.length_eq];simp
 have s:a.Nodup:=h.symm.nodup (by
  rw[List.Nodup,qI8];exact qO8.imp λd z=>d (by omega))
 have b:∀x:Int,0<=x->x<pl->∃e:x.toNat<a.length,XB a x=a[x.toNat]:=λx A B=>⟨by omega,by
  unfold XB;rw[qG8,qA4 (by omega)];rfl⟩
 have inR:∀x∈a,0<=x/\x<pl:=λx e=>by have:=h.mem_iff.mp e;obtain⟨k,hk,rfl⟩:=qB9.mp this;rw[qE4]at hk;omega
 obtain⟨f,g⟩:=b c.a i (by omega);obtain⟨j,l⟩:=b c.b (by omega) t;have w:=inR _ (g▸qE7 f);have q:=inR _ (l▸qE7 j);have ne:XB a c.a≠XB a c.b:=by rw[g,l];intro z;exact(qK4.mp s) c.a.toNat c.b.toNat f j (by omega) z
 obtain⟨n,v,o⟩:=Te w q ne;exact⟨⟨n,v,o,m,y,r,u⟩,⟨⟨i,by omega⟩,by omega,by omega⟩⟩
inductive Li(r:R D)(N:Zx)(S:ZU)(i:Nat):Prop
 |mk (M:Zx) (S1:ZU) (e:r=.ok M.d S1) (ok:M.g) (hs:M.sw=N.sw) (hp:M.pl=N.pl) (hc:M.cs.length=N.cs.length) (k:Kp (·=i) S S1) (st:Zu S1 i)
inductive qW(S0:ZU)(i q z:Nat)(nd:D)(v3:Option D)(nl:yA)(sw pl:Int)(j:Nat)(B:ZR)(S':ZU):Prop
 |mk (v5:Option D) (ds:yN) (e:B=[Z9 (.lst i),Z9 nd,Z9 (.lst q),v3,Z9 (.lst z),v5]) (R:Rows S0 S' i z sw pl ds) (h:ds.length=j) (l:ZH S' q=Z9 (nl.map D.int))
theorem qV(h:Hg cl)(ht:Th cl)(I:R8 cl)(n:Nat)(ok:N.g)(hS:Zu S i):Li (cl (n+2) "_law_mixed" [.lst i,N.d] S) N S i:=by
 have big:=UL;have p1:=ok.p1;have p2:=ok.p2;have T:-4611686018427387904<=N.pl/\N.pl<4611686018427387904:=by omega
 obtain⟨q,X⟩:∃q,S.length=q:=⟨_,rfl⟩
 have J:q≠i:=by have:=hS.lt;omega
 obtain⟨B',E,e1,v,s,rfl,u,R,o,kp,A⟩:=VW (w:=[]) (g:=gN 3) (b:=QK (cl (n+1))) (items:=Zd 2 (N.pl - 2).toNat)
  (λj B f=>∃v l,B=[Z9 (.lst i),Z9 N.d,Z9 (.lst q),v,Z8,Z8]/\ZH f q=Z9 (l.map D.int)/\l.length=2+j/\l.Perm ((List.range (2+j)).map fun(k:Nat)=>(k:Int))/\Kp (·=i) S f/\Zu f i)
  (B:=[Z9 (.lst i),Z9 N.d,Z9 (.lst q),Z8,Z8,Z8]) (S:=S++[.lst [.int 0,.int 1]])
  (λj B f o=>X5 _) ⟨Z8,[0,1],rfl,by rw[<- X];exact Zh _ _,rfl,List.Perm.refl _,(Zn _ _).kp,hS.ex (Zn _ _)⟩
  (λj d B f e o=>by
   obtain⟨v,l,rfl,u,R,F,kp,A⟩:=o;rw[QB]at e;obtain⟨hj,rfl⟩:=e;obtain⟨r,S2,e2,r0,r1,k2,n2,Q⟩:=Yh ht n A (m:=(2+(j:Int)) - 1) (by omega) (by omega);have W:=k2.lst u J;have t1:=Uo u;have a:=Tt W W1 [.int (2+r),.int (2+(j:Int))];have y:(l.map D.int).length<1000/\0<=2+r/\(2+r).toNat<=(l.map D.int).length:=by rw[qA0];omega
   rw[Hv,if_pos y]at a;dsimp only at a;have L:(l.map D.int).take (2+r).toNat++D.int (2+(j:Int))::(l.map D.int).drop (2+r).toNat=(l.take (2+r).toNat++(2+(j:Int))::l.drop (2+r).toNat).map D.int:=by simp
   rw[L]at a;refine⟨_,_,rfl,_,S2.set q (.lst ((l.take (2+r).toNat++(2+(j:Int))::l.drop (2+r).toNat).map D.int)),.inl (q0 _ rfl rfl t1 e2 a),_,_,rfl,V7 W,by simp;omega,?_,(kp.trans k2).setNew (by omega),Q.setO J⟩;rw[show 2+(j+1)=(2+j)+1 from rfl,qT1,qD2];have Y:(l.take (2+r).toNat++(2+(j:Int))::l.drop (2+r).toNat).Perm ((2+(j:Int))::(l.take (2+r).toNat++l.drop (2+r).toNat)):=qO6;rw[qF5]at Y;refine Y.trans ((List.Perm.cons _ F).trans ?_);show List.Perm _ (_++[((2+j:Nat):Int)]);rw[show((2+j:Nat):Int)=2+(j:Int) by omega];exact(List.perm_append_singleton _ _).symm)
 rw[Uh]at R o;have M:N.pl=((2+(N.pl - 2).toNat:Nat):Int):=by omega
 obtain⟨z,Z⟩:∃z,E.length=z:=⟨_,rfl⟩
 have zi:z≠i:=by have:=A.lt;omega
 have zq:z≠q:=by have:=Tu u;omega
 have le1:=kp.le;have R0:Rows S (E++[.lst []]) i z N.sw N.pl []:=⟨by rw[<- Z];exact Zh _ _,λc hc=>(by cases hc),A.ex (Zn _ _),kp.trans (Zn _ _).kp,by omega,zi⟩
 obtain⟨B',S3,e3,v5,ds,hB,Rd,e,_⟩:=VW (w:=[]) (g:=gN 5) (b:=QL (cl (n+1))) (items:=N.cs.map Ct.d)
  (qW S i q z N.d v s N.sw N.pl) (B:=[Z9 (.lst i),Z9 N.d,Z9 (.lst q),v,Z9 (.lst z),Z8]) (S:=E++[.lst []])
  (λj B f o=>X5 _) ⟨Z8,[],rfl,R0,rfl,(Zn _ _).lst u λz=>z⟩
  (λj d B f e G=>by
   obtain⟨v5,ds,rfl,Rd,R,lq⟩:=G;rw[qB3]at e;obtain⟨c,t,rfl⟩:=qA5.mp e;have cm:=qC0 t;have jl:j<N.cs.length:=(qA7.mp t).1;have K:=ok.c1;obtain⟨C,U⟩:=qX o M (ok.c2 c cm);obtain⟨r,S7,e7,r0,r9,H,n7,O⟩:=Yh ht n Rd.st (m:=((ds.map Ct.d).length:Int)+1) (by omega) (by rw[qA0];omega);have V:=H.lst lq J;have e8:=GG I n U V;have lz:=H.lst Rd.at' Rd.ne;have a:=Tt lz W1 [.int r,(c.mv (XB s)).d];have y:(ds.map Ct.d).length<1000/\0<=r/\r.toNat<=(ds.map Ct.d).length:=by rw[qA0]at r9 ⊢;omega
   rw[Hv,if_pos y]at a;dsimp only at a;have L:(ds.map Ct.d).take r.toNat++(c.mv (XB s)).d::(ds.map Ct.d).drop r.toNat=(ds.take r.toNat++c.mv (XB s)::ds.drop r.toNat).map Ct.d:=by simp
   rw[L]at a;have p:∀x∈ds.take r.toNat++c.mv (XB s)::ds.drop r.toNat,x.ok N.sw N.pl:=λx P=>by
    rcases qB7.mp P with q|q
    ·exact Rd.ok x (qG6 q)
    ·rcases qA8.mp q with q|q
     ·subst q;exact C
     ·exact Rd.ok x (qI9 q)
   rw[qA0]at y;exact⟨_,_,rfl,_,_,.inl (qZ _ rfl (Uo Rd.at') (Sf Rd.at') e7 e8 a),⟨Z9 c.d,_,rfl,Rd.put H O p,by simp;omega,OX V zq⟩⟩)
 subst hB;rw[qA0]at e;have ft:=Uq Rd.at';refine⟨⟨N.sw,N.pl,ds⟩,S3,?_,⟨ok.s1,ok.s2,p1,p2,by show(ds.length:Int)<=16;have:=ok.c1;omega,Rd.ok⟩,rfl,rfl,e,Rd.kp,Rd.st⟩;rw[show n+2=(n+1)+1 from rfl,h];have K:=ok.c1;exact Y7 rfl (qY (cl (n+1)) (Ox N) (Qu N) (Qt N) T (by rw[qA0];omega) X e1 Z rfl e3 ft)
theorem qU(c:ZO){C A BB:yM}(e:∀S,ZL nd (.int 0) S=.ok sw S)(d:∀S,ZL nd (.int 1) S=.ok (.int pl) S)(a:∀S,ZL nd (.int 2) S=.ok (.tup C) S)(h:(C.length:Int)=L)(m:c "_law_take" [.lst i,.int L] S=.ok (.int r) g)(l:c "_law_take" [.lst i,.int 2] g=.ok (.int b) S2)(o:b=0∨L=16)
  (k:Zf C Z8 (Z9 r)=A) (f:Zf C (Z9 (r+1)) Z8=BB) (j:A.length+BB.length<=lim):Uk c [Z9 (.lst i),Z9 nd,Z8,Z8,Z8] S=.rt (.tup [sw,.int pl,.tup (A++BB)]) S2:=by
 by_cases q:b=0
 ·simp[Uk,e,d,a,h,m,l,q,k,f,j]
 ·have n:L=16:=o.resolve_left q;subst n;simp[Uk,e,d,a,h,m,l,q,k,f,j]
theorem qT(c:ZO){C A BB:yM}(p:∀S,ZL nd (.int 0) S=.ok (.int sw) S)(l:∀S,ZL nd (.int 1) S=.ok (.int pl) S)(j:∀S,ZL nd (.int 2) S=.ok (.tup C) S)(t:(C.length:Int)=L)(B:c "_law_take" [.lst i,.int L] S=.ok (.int r) g)(w:c "_law_take" [.lst i,.int 2] g=.ok (.int b) f)(z:¬b=0)(a:¬L=16)
  (n:c "_law_ends" [.lst i,.int pl] f=.ok (.tup [.int x,.int y]) e) (m:c "_law_take" [.lst i,.int sw] e=.ok (.int k) h) (E:c "_law_take" [.lst i,.int 2] h=.ok (.int o) S5) (s:2+2<=lim)
  (v:Zf C Z8 (Z9 r)=A) (q:Zf C (Z9 r) Z8=BB) (d:A.length+1<=lim) (u:A.length+1+BB.length<=lim):Uk c [Z9 (.lst i),Z9 nd,Z8,Z8,Z8] S=.rt (.tup [.int sw,.int pl,.tup (A++[.tup [.int x,.int y,.int k,.int o]]++BB)]) S5:=by simp[Uk,p,l,j,t,B,w,z,a,n,m,E,s,v,q,d,u]
theorem qS(h:Hd cl)(ht:Th cl)(he:Pj cl)(n:Nat){N:Zx}(ok:N.g)(Z:1<=N.cs.length)(U:Zu S i):zTT (cl (n+3) "_law_bent" [.lst i,N.d] S) S i 4 7 16:=by
 have big:=UL;have Q:=ok.c1;obtain⟨r,S1,C,v,V,B,_,p⟩:=Yh ht (n+1) U (m:=((N.cs.map Ct.d).length:Int)) (by rw[qA0];omega) (by rw[qA0];omega);obtain⟨b,K,w,b0,b9,A,_,a⟩:=Yh ht (n+1) p (m:=2) (by decide) (by decide);rw[qA0]at V;have g:=Hq (N.cs.map Ct.d) v;rw[<- qT6]at g;by_cases q:b=0∨((N.cs.map Ct.d).length:Int)=16
 ·have d:=Pp (N.cs.map Ct.d) (k:=r+1) (by omega);rw[<- qO1]at d;refine⟨⟨N.sw,N.pl,N.cs.take r.toNat++N.cs.drop (r+1).toNat⟩,K,?_,⟨ok.s1,ok.s2,ok.p1,ok.p2,?_,λc j=>?_⟩,B.trans A,a⟩
  ·rw[show n+3=(n+2)+1 from rfl,h];refine(Y7 rfl (qU (cl (n+2)) (Ox N) (Qu N) (Qt N) rfl C w q g d (by rw[qA0,qA0,qD8,qE6];omega))).trans ?_;unfold Zx.d;rw[qD2]
  ·show((N.cs.take r.toNat++N.cs.drop (r+1).toNat).length:Int)<=16;rw[qB8,qD8,qE6];omega
  ·rcases qB7.mp j with m|m
   ·exact ok.c2 c (qG6 m)
   ·exact ok.c2 c (qI9 m)
 ·have T:¬b=0:=λz=>q (.inl z);have u:¬((N.cs.map Ct.d).length:Int)=16:=λz=>q (.inr z);obtain⟨x,y,Y,J,I,M,D,P,f⟩:=G6 he ht n a ok.p1 ok.p2;have L:=ok.s1;have H:=ok.s2;obtain⟨k,S4,F,l,t,E,_,s⟩:=Yh ht (n+1) f (m:=N.sw) (by omega) (by omega);obtain⟨o,G,X,O,R,W,_,e⟩:=Yh ht (n+1) s (m:=2) (by decide) (by decide);have d:=Pp (N.cs.map Ct.d) v;rw[<- qO1]at d;rw[qA0]at u;have len:(N.cs.take r.toNat).length+(N.cs.drop r.toNat).length=N.cs.length:=by rw[qD8,qE6];omega
  refine⟨⟨N.sw,N.pl,N.cs.take r.toNat++[⟨x,y,k,o⟩]++N.cs.drop r.toNat⟩,G,?_,⟨L,H,ok.p1,ok.p2,?_,λc j=>?_⟩,B.trans (A.trans (P.trans (E.trans W))),e⟩
  ·rw[show n+3=(n+2)+1 from rfl,h];refine(Y7 rfl (qT (cl (n+2)) (Ox N) (Qu N) (Qt N) rfl C w T (by rw[qA0];exact u) J F X (by omega) g d (by rw[qA0];omega) (by rw[qA0,qA0];omega))).trans ?_;unfold Zx.d;rw[qD2,qD2];rfl
  ·show((N.cs.take r.toNat++[(⟨x,y,k,o⟩:Ct)]++N.cs.drop r.toNat).length:Int)<=16;rw[qB8,qB8,qF9];omega
  ·rcases qB7.mp j with m|m
   ·rcases qB7.mp m with m|m
    ·exact ok.c2 c (qG6 m)
    ·rw[qB6]at m;subst m;exact⟨I,M,D,l,t,O,R⟩
   ·exact ok.c2 c (qI9 m)
structure SN(cl:Nat->ZO):Prop where
 d:HD cl
 tr:Hk cl
 la:Hb cl
 te:R8 cl
 mi:Hg cl
 be:Hd cl
 ri:He cl
 r:Qs cl
section
variable (c:ZO) {sc jd td nd md bd N2:D}{i:Nat}{r1 sw r3 m P r4:Int}{w2 w3 w4:Option D}{S S1 S2 S3 S4 S5 S6 S7 S8 S9 S10 S11 S12 S13:ZU}
  (e1:c "_law_state" [sc,jd] S=.ok (.lst i) S1) (e2:c "_law_take" [.lst i,.int 4] S1=.ok (.int r1) S2) (hsw:1+r1=sw) (h3:S2++[.lst [.int 4,.int 7,.int 12]]=S3) (e3:c "_law_take" [.lst i,.int 3] S3=.ok (.int r3) S4) (ix:ZL (.lst S2.length) (.int r3) S4=.ok (.int m) S4)
  (e4:c "_law_tree" [.lst i,.int sw,.int m] S4=.ok td S5) (e5:c "_law_laid" [.int sw,td] S5=.ok nd S6) (i1:∀S,ZL nd (.int 1) S=.ok (.int P) S)
include e1 e2 hsw h3 e3 ix e4 e5 i1
theorem qR(b:¬P<8)(a:c "_law_net" [.lst i,.int 4,.int 7,.int 10] S6=.ok N2 S7)(d:c "_law_right" [N2] S7=.ok (.bl Z7) S8):Vd c [Z9 sc,Z9 jd,w2,w3,w4] S=.nx [Z9 sc,Z9 jd,Z9 (.lst i),Z9 (.int sw),Z9 nd] S8:=by simp[Vd,e1,e2,hsw,h3,e3,ix,e4,e5,i1,b,a,d]
theorem qQ(e:P<8)(h:c "_law_mixed" [.lst i,nd] S6=.ok md S7)(d:c "_law_right" [md] S7=.ok (.bl Z7) S8)(g:c "_law_take" [.lst i,.int 3] S8=.ok (.int r4) S9)(f:¬r4=0)(b:c "_law_net" [.lst i,.int 4,.int 7,.int 10] S9=.ok N2 S10)(a:c "_law_right" [N2] S10=.ok (.bl Z7) S11):
  Vd c [Z9 sc,Z9 jd,w2,w3,w4] S=.nx [Z9 sc,Z9 jd,Z9 (.lst i),Z9 (.int sw),Z9 md] S11:=by simp[Vd,e1,e2,hsw,h3,e3,ix,e4,e5,i1,e,h,d,g,f,b,a]
theorem qP(f:P<8)(j:c "_law_mixed" [.lst i,nd] S6=.ok md S7)(g:c "_law_right" [md] S7=.ok (.bl Z7) S8)(h:c "_law_take" [.lst i,.int 3] S8=.ok (.int 0) S9)(e:c "_law_bent" [.lst i,md] S9=.ok bd S10)(d:c "_law_right" [bd] S10=.ok (.bl Z7) S11)(b:c "_law_net" [.lst i,.int 4,.int 7,.int 10] S11=.ok N2 S12)(a:c "_law_right" [N2] S12=.ok (.bl Z7) S13):
  Vd c [Z9 sc,Z9 jd,w2,w3,w4] S=.nx [Z9 sc,Z9 jd,Z9 (.lst i),Z9 (.int sw),Z9 md] S13:=by simp[Vd,e1,e2,hsw,h3,e3,ix,e4,e5,i1,f,j,g,h,e,d,b,a]
end
inductive FP(sc:D)(B:ZR)(S:ZU):Prop
 |mk (w1 w2 w3 w4:Option D) (e:B=[Z9 sc,w1,w2,w3,w4])
theorem Uc(H:SN cl)(n:Nat){N:Zx}(ok:N.g)(S:ZU):Wp (cl (n+20) "_law_right" [N.d] S) (.bl Z7) S:=rd H.ri H.r (n+1) ok S
theorem qO(H:SN cl)(n:Nat)(ns:yA){G:D}(I:D.rol (ns.map D.int)=G)(X:Int)(hj:0<=X)(S:ZU)(w2 w3 w4:Option D):∃B S',Vd (cl (n+20)) [Z9 G,Z9 (.int X),w2,w3,w4] S=.nx B S'/\FP G B S':=by
 obtain⟨S1,r,x1,j⟩:=uH H.d.st H.d.ce (n+18) ns X hj S;rw[I]at r;obtain⟨i0,N⟩:∃i0,S.length=i0:=⟨_,rfl⟩
 rw[N]at r j;obtain⟨r1,w,A,a1,a2,k2,n2,u⟩:=Yh H.d.ta (n+19) j (m:=4) (by decide) (by decide);obtain⟨sw,f⟩:∃sw,1+r1=sw:=⟨_,rfl⟩
 have Q:1<=sw:=by omega
 have V:sw<=4:=by omega
 have l3:=Zh w [.int 4,.int 7,.int 12];have q:=u.ex (Zn w [.lst [.int 4,.int 7,.int 12]]);have ni:w.length≠i0:=by have:=u.lt;omega
 obtain⟨S3,x⟩:∃S3,w++[.lst [.int 4,.int 7,.int 12]]=S3:=⟨_,rfl⟩
 rw[x]at l3 q;obtain⟨i,S4,O,b1,b2,k4,n4,E⟩:=Yh H.d.ta (n+19) q (m:=3) (by decide) (by decide);have l4:=k4.lst l3 ni;obtain⟨m,m1,m12,T⟩:∃m:Int,1<=m/\m<=12/\ZL (.lst w.length) (.int i) S4=.ok (.int m) S4:=by
  have g:=W9 l4 i;have c3:i=0∨i=1∨i=2:=by omega
  rcases c3 with rfl|rfl|rfl
  ·exact⟨4,by decide,by decide,g⟩
  ·exact⟨7,by decide,by decide,g⟩
  ·exact⟨12,by decide,by decide,g⟩
 obtain⟨t,S5,U,y,lt,ht,k5,z⟩:=tX H.tr H.d.ta Q V 11 m m1 (by omega) (by decide) (n+7) S4 i0 E;have lv12:t.lv<=12:=by omega
 obtain⟨S6,J,x6⟩:=sZ H.la H.te 11 t ht y (by have:=LO t y;omega) (by omega) (n+7) S5;have p:=z.ex x6;have L:=sV Q V t.ht t (qA6 _) y;have K:=Qu (t.lay sw);by_cases P:(t.lay sw).pl<8
 ·have g:=L.ok.g2 Q V (by omega) (by omega);obtain⟨M,S7,Y,o,_,_,hc,k7,R⟩:=qV H.mi H.d.ta H.te (n+18) g p;obtain⟨S8,e7,x8⟩:=Uc H n o S7;obtain⟨r4,S9,e8,_,_,k9,_,l⟩:=Yh H.d.ta (n+19) (R.ex x8) (m:=3) (by decide) (by decide);by_cases Z:r4=0
  ·subst Z;obtain⟨BB,F,f1,W,k10,s⟩:=qS H.be H.d.ta H.d.en (n+17) o (by rw[hc,L.len];exact ON t y) l;obtain⟨S11,f2,C⟩:=Uc H n W F;obtain⟨N2,c,h,d,v,e⟩:=LW H.d.ne H.d.en H.d.ta (n+17) (s.ex C) (ms:=4) (mp:=7) (mc:=10) (by decide) (by decide) (by decide);obtain⟨b,a,k⟩:=Uc H n (d.up (by decide) (by decide) (by decide)) c;exact⟨_,b,qP (cl (n+20)) r A f x O T U J K P Y e7 e8 f1 f2 h a,_,_,_,_,rfl⟩
  ·obtain⟨N2,c,h,d,v,e⟩:=LW H.d.ne H.d.en H.d.ta (n+17) l (ms:=4) (mp:=7) (mc:=10) (by decide) (by decide) (by decide);obtain⟨b,a,k⟩:=Uc H n (d.up (by decide) (by decide) (by decide)) c;exact⟨_,b,qQ (cl (n+20)) r A f x O T U J K P Y e7 e8 Z h a,_,_,_,_,rfl⟩
 ·obtain⟨N2,c,h,d,v,e⟩:=LW H.d.ne H.d.en H.d.ta (n+17) p (ms:=4) (mp:=7) (mc:=10) (by decide) (by decide) (by decide);obtain⟨b,a,k⟩:=Uc H n (d.up (by decide) (by decide) (by decide)) c;exact⟨_,b,qR (cl (n+20)) r A f x O T U J K P h a,_,_,_,_,rfl⟩
theorem qN(c:ZO){ns:yA}(b:D.rol (ns.map D.int)=a)(n:c "_law_right" [.tup [.int 1,.int 2,.tup []]] S=.ok (.bl Z7) g)(k:c "_law_right" [.tup [.int 1,.int 3,.tup [.tup [.int 0,.int 1,.int 0,.int 1]]]] g=.ok (.bl Z7) f)(h:c "_law_right" [.tup [.int 1,.int 3,.tup [.tup [.int 0,.int 2,.int 0,.int 1]]]] f=.ok (.bl Z7) d)
  (m:(if(if(8:Int)<(ns.length:Int)then 8 else(ns.length:Int))>1 then(if(8:Int)<(ns.length:Int)then 8 else(ns.length:Int))else 1)=q) (i:-4611686018427387904<=q/\q<4611686018427387904) (e:YV [] (gN 1) (Vd c) (Zd 0 q.toNat) [Z9 a,Z8,Z8,Z8,Z8] d=.nx [Z9 a,j,v2,l,o] S4) :
  QF c [Z9 a,Z8,Z8,Z8,Z8] S=.rt (.bl Z7) S4:=by rw[<- b]at e ⊢;simp[QF,n,k,h,m,i,e]
theorem qM(h:uJ cl)(H:SN cl)(n:Nat)(ns:yA):∃S',cl (n+21) "law" [.rol (ns.map D.int)] []=.ok (.bl Z7) S':=by
 rw[show n+21=(n+20)+1 from rfl,h];generalize hsc:D.rol (ns.map D.int)=sc;have A:∃q:Int,(if(if(8:Int)<(ns.length:Int)then 8 else(ns.length:Int))>1 then(if(8:Int)<(ns.length:Int)then 8 else(ns.length:Int))else 1)=q/\0<=q/\q<=8:=⟨_,rfl,by split<;>(try split)<;>omega,by split<;>(try split)<;>omega⟩
 obtain⟨q,F,J,M⟩:=A;have i:∀p:Int,0<p->p<3->∀c∈[(⟨0,p,0,1⟩:Ct)],c.ok 1 3:=λp t C c a=>by rw[qB6]at a;subst a;exact⟨qQ1 0,t,C,qQ1 0,(by decide:(0:Int)<1),(by decide:(0:Int)<=1),(by decide:(1:Int)<2)⟩
 obtain⟨y,G,_⟩:=Uc H n (N:=⟨1,2,[]⟩) ⟨by decide,by decide,by decide,by decide,by decide,λc a=>(by cases a)⟩ [];obtain⟨e,f,_⟩:=Uc H n (N:=⟨1,3,[⟨0,1,0,1⟩]⟩) ⟨by decide,by decide,by decide,by decide,by decide,i 1 (by decide) (by decide)⟩ y;obtain⟨u,v,_⟩:=Uc H n (N:=⟨1,3,[⟨0,2,0,1⟩]⟩) ⟨by decide,by decide,by decide,by decide,by decide,i 2 (by decide) (by decide)⟩ e;obtain⟨L,E,s,x,k,m,r,rfl⟩:=VW (w:=[]) (g:=gN 1) (b:=Vd (cl (n+20))) (items:=Zd 0 q.toNat)
  (λj B S=>FP sc B S) (B:=[Z9 sc,Z8,Z8,Z8,Z8]) (S:=u)
  (λj B S o=>X5 _) ⟨Z8,Z8,Z8,Z8,rfl⟩
  (λj d B S l o=>by
   obtain⟨x,k,m,r,rfl⟩:=o;rw[QB]at l;obtain⟨K,rfl⟩:=l;obtain⟨z,e,f,I⟩:=qO H n ns hsc (0+(j:Int)) (by omega) S k m r;exact⟨_,_,rfl,z,e,.inl f,I⟩)
 exact⟨E,Y7 rfl (qN (cl (n+20)) hsc G f v F ⟨by omega,by omega⟩ s)⟩
end My
set_option maxHeartbeats 4000000
namespace My
open PySem L2
noncomputable def tbl:Us:=[(("bonds_of":Str),(1,1,Po)),
 (("may_vanish":Str),(2,2,Tq)),
 (("drawn_pair":Str),(3,5,Um)),
 (("drawn_once":Str),(1,5,Tp)),
 (("tree_of":Str),(1,3,UO)),
 (("_law_cell_at":Str),(2,2,QS)),
 (("_law_state":Str),(2,3,QR)),
 (("_law_take":Str),(2,4,Mh)),
 (("_law_ends":Str),(2,5,QQ)),
 (("_law_net":Str),(4,13,Mg)),
 (("_law_marks":Str),(2,8,Pi)),
 (("_law_settings":Str),(1,3,Pg)),
 (("_law_shut":Str),(2,2,Pe)),
 (("_law_lets":Str),(2,2,Pc)),
 (("_law_function":Str),(1,1,Pb)),
 (("_law_turned_ends":Str),(2,4,Pa)),
 (("_law_whole":Str),(3,3,R7)),
 (("_law_tree":Str),(3,6,Tn)),
 (("_law_leaves":Str),(1,3,QP)),
 (("_law_bit":Str),(2,3,UN)),
 (("_law_tree_bits":Str),(2,2,QM)),
 (("_law_counted":Str),(2,6,Wo)),
 (("_law_laid":Str),(2,11,L4)),
 (("_law_mixed":Str),(2,6,QJ)),
 (("_law_drawn":Str),(1,6,QG)),
 (("_law_right":Str),(1,2,Ti)),
 (("_law_bent":Str),(2,5,Uk)),
 (("law":Str),(1,5,QF))]
noncomputable def Yf(i:Nat):Stmt:=PySem.Challenge.pw_contactnets_k44_nets_drawn_together.main.body.getD i (.Pass ⟨0,0,0,0⟩)
theorem hk{f g:Nat->yM->M D}(h:f=g)(n:Nat):f n=g n:=congrFun h n
noncomputable abbrev Lh:Stmt:=Yf 1
noncomputable abbrev Lg:Stmt:=Yf 2
noncomputable abbrev Lf:Stmt:=Yf 3
noncomputable abbrev Le:Stmt:=Yf 4
noncomputable abbrev Ld:Stmt:=Yf 5
noncomputable abbrev Lc:Stmt:=Yf 7
noncomputable abbrev Lb:Stmt:=Yf 8
noncomputable abbrev La:Stmt:=Yf 9
noncomputable abbrev K9:Stmt:=Yf 10
noncomputable abbrev K8:Stmt:=Yf 11
noncomputable abbrev K7:Stmt:=Yf 12
noncomputable abbrev K6:Stmt:=Yf 13
noncomputable abbrev K5:Stmt:=Yf 14
noncomputable abbrev K4:Stmt:=Yf 15
noncomputable abbrev K3:Stmt:=Yf 16
noncomputable abbrev K2:Stmt:=Yf 17
noncomputable abbrev K1:Stmt:=Yf 18
noncomputable abbrev K0:Stmt:=Yf 19
noncomputable abbrev KZ:Stmt:=Yf 20
noncomputable abbrev KY:Stmt:=Yf 21
noncomputable abbrev KW:Stmt:=Yf 22
noncomputable abbrev KU:Stmt:=Yf 23
noncomputable abbrev KS:Stmt:=Yf 24
noncomputable abbrev KR:Stmt:=Yf 25
noncomputable abbrev KQ:Stmt:=Yf 26
noncomputable abbrev KP:Stmt:=Yf 27
noncomputable abbrev KO:Stmt:=Yf 28
noncomputable abbrev SM:Stmt:=Yf 29
abbrev Ye(x:Str)(N:yH)(st:vW)(b:ZO->CS):Prop:=(λa:ZO=>cSts (Ur tbl) a 60 ⟨N,(Yk st).names,Z9 x⟩ (W5 st))=λa=>Z9 (b a)
theorem qL:Ye "bonds_of" ["net"] Lh Po:=by kernel_rfl
theorem qK:Ye "may_vanish" ["place","bonds"] Lg Tq:=by kernel_rfl
theorem qJ:Ye "drawn_pair" ["one","other","bonds","place","far"] Lf Um:=by kernel_rfl
theorem qI:Ye "drawn_once" ["bonds","number","other","earlier","bond"] Le Tp:=by kernel_rfl
theorem qH:Ye "tree_of" ["net","bonds","fewer"] Ld UO:=by kernel_rfl
theorem qG:Ye "_law_cell_at" ["_law_script","_law_k"] Lc QS:=by kernel_rfl
theorem qF:Ye "_law_state" ["_law_script","_law_k","_law_cell"] Lb QR:=by kernel_rfl
theorem qE:Ye "_law_take" ["_law_state_here","_law_many","_law_found","_law_mixed_here"] La Mh:=by kernel_rfl
theorem qD:Ye "_law_ends" ["_law_state_here","_law_places","_law_row","_law_one","_law_other"] K9 QQ:=by kernel_rfl
theorem qC:Ye "_law_net" ["_law_state_here","_law_most_switches","_law_most_places","_law_most_contacts","_law_switches","_law_places","_law_rows","_law_row","_law_one","_law_other","_law_turn","_law_mixed_here","_law_contact"] K8 Mg:=by kernel_rfl
theorem qB:Ye "_law_marks" ["_law_net_here","_law_numbers","_law_marks_here","_law_turn","_law_number","_law_a","_law_b","_law_least"] K7 Pi:=by kernel_rfl
theorem qA:Ye "_law_settings" ["_law_switches","_law_found","_law_number"] K6 Pg:=by kernel_rfl
theorem qz:Ye "_law_shut" ["_law_net_here","_law_setting"] K5 Pe:=by kernel_rfl
theorem qy:Ye "_law_lets" ["_law_net_here","_law_setting"] K4 Pc:=by kernel_rfl
theorem qx:Ye "_law_function" ["_law_net_here"] K3 Pb:=by kernel_rfl
theorem qw:Ye "_law_turned_ends" ["_law_contact","_law_names","_law_one","_law_other"] K2 Pa:=by kernel_rfl
theorem qv:Ye "_law_whole" ["_law_thing","_law_least","_law_below"] K1 R7:=by kernel_rfl
theorem qu:Ye "_law_tree" ["_law_state_here","_law_switches","_law_most","_law_few","_law_parts","_law_less"] K0 Tn:=by kernel_rfl
theorem qt:Ye "_law_leaves" ["_law_tree_here","_law_found","_law_one"] KZ QP:=by kernel_rfl
theorem qs:Ye "_law_bit" ["_law_tree_here","_law_setting","_law_bits"] KY UN:=by kernel_rfl
theorem qr:Ye "_law_tree_bits" ["_law_switches","_law_tree_here"] KW QM:=by kernel_rfl
theorem qq:Ye "_law_counted" ["_law_switches","_law_thing","_law_good","_law_total","_law_one","_law_many"] KU Wo:=by kernel_rfl
theorem qp:Ye "_law_laid" ["_law_switches","_law_tree_here","_law_here","_law_one","_law_there","_law_p","_law_q","_law_left","_law_right_here","_law_size","_law_rows"] KS L4:=by kernel_rfl
theorem qo:Ye "_law_mixed" ["_law_state_here","_law_net_here","_law_names","_law_place","_law_rows","_law_row"] KR QJ:=by kernel_rfl
theorem qm:Ye "_law_drawn" ["_law_net_here","_law_rows","_law_old","_law_place","_law_here","_law_far"] KQ QG:=by kernel_rfl
theorem qk:Ye "_law_right" ["_law_net_here","_law_found"] KP Ti:=by kernel_rfl
theorem qj:Ye "_law_bent" ["_law_state_here","_law_net_here","_law_rows","_law_at","_law_more"] KO Uk:=by kernel_rfl
theorem FO:Xl ["_law_script","_law_k","_law_state_here","_law_switches","_law_net_here"] ["_law_script"] (Yk SM)=Z7:=by decide +kernel
theorem FN:Ye "law" ["_law_script","_law_k","_law_state_here","_law_switches","_law_net_here"] SM QF:=by kernel_rfl
theorem qi(ns:yA)(h:ns.length<=63):∃S',WB tbl 100 "law" [.rol (ns.map D.int)] []=.ok (.bl Z7) S':=qM (hk (by kernel_rfl)) ⟨⟨hk (by kernel_rfl),hk (by kernel_rfl),hk (by kernel_rfl),hk (by kernel_rfl),hk (by kernel_rfl)⟩,hk (by kernel_rfl),hk (by kernel_rfl),hk (by kernel_rfl),hk (by kernel_rfl),hk (by kernel_rfl),hk (by kernel_rfl),⟨⟨hk (by kernel_rfl),hk (by kernel_rfl),hk (by kernel_rfl),hk (by kernel_rfl),hk (by kernel_rfl)⟩,hk (by kernel_rfl),hk (by kernel_rfl),hk (by kernel_rfl),hk (by kernel_rfl),hk (by kernel_rfl),hk (by kernel_rfl),⟨hk (by kernel_rfl),hk (by kernel_rfl),hk (by kernel_rfl),hk (by kernel_rfl),hk (by kernel_rfl)⟩⟩⟩ 79 ns
def DF(K:yS)(n:Str)(st:vW):Prop:=∃(f:yR) (e d:Option yR) (c:Array (yF)) (i kV g h a b:yT),W.nsIn K jQ n=Z9 (Z9 (.ref f))/\K.lookup f=Z9 ⟨i,e,.func (fZ n n (U2 st) (W5 st) (Yk st) .none kV g h d a b),c⟩/\mW K a n=Z7/\lH K (.ref f)=Z7
theorem mkDF{sl:Array (yF)}{j kV h i b d:yT}(a:W.nsIn K jQ n=Z9 (Z9 (.ref f)))(l:K.lookup f=Z9 ⟨j,g,.func (fZ n n (U2 st) (W5 st) (Yk st) .none kV h i e b d),sl⟩)(c:mW K b n=Z7)(k:lH K (.ref f)=Z7):DF K n st:=⟨f,g,e,sl,j,kV,h,i,b,d,a,l,c,k⟩
theorem DF.in{m:Str->yF}(d:DF K n st)(X:K.In h)(G:h.Ns jQ m):∃(f:yR) (kV j i:yT) (g:Option yR) (e b:yT),m n=Z9 (.ref f)/\VL K n n st f (fZ n n (U2 st) (W5 st) (Yk st) .none kV j i g e b):=by obtain⟨f,p,g,o,q,kV,j,i,e,b,a,l,c,k⟩:=d;exact⟨f,kV,j,i,g,e,b,W.mg_of X G a,C6 l c k⟩
def ZN(K:yS):yH->Prop
 |[]=>True
 |x::r=>W.nsIn K jQ x=Z9 Z8/\ZN K r
theorem ZN.none(X:K.In h)(G:h.Ns jQ a):∀{l:yH},ZN K l->Pw a l
 |[],_=>True.intro
 |_::_,z=>⟨W.mg_none_of X G z.1,z.2.none X G⟩
def BP(st:vW)(n:Str)(ps:yH)(kV b f:yT)(e:Option yR)(a d:yT)(c:yB):Prop:=bindArgs (fZ n n (U2 st) (W5 st) (Yk st) .none kV b f e a d) ⟨c,[]⟩=pure (ps.zip c)
def BF(st:vW)(n:Str)(ps:yH):Prop:=∀(kV b f:yT) (e:Option yR) (a d:yT) (c:yB),c.length=ps.length->BP st n ps kV b f e a d c
theorem Yd{c:Str->yF}{a np nN:Nat}(d:DF K x st)(X:K.In h)(G:h.Ns jQ c)(i:BF st x ps)(hs:Xl N ps (Yk st)=Z7)
  (g:(λcl:ZO=>cSts ar cl a ⟨N,(Yk st).names,Z9 x⟩ (W5 st))=λcl=>Z9 (b cl)) (e:ps.length=np:=by rfl) (f:N.length=nN:=by rfl):Tv K c ar x (np,nN,b):=by obtain⟨_,_,_,_,_,_,_,m,F⟩:=d.in X G;exact vk F m (F.binds (ps:=ps) i) hs g e f
theorem Ov:∀b:yB,b.length=n+1->∃a r,b=a::r/\r.length=n
 |a::r,h=>⟨a,r,rfl,Nat.succ.inj h⟩
theorem qh{P:yB->Prop}(h:P [])(us:yB)(a:us.length=0):P us:=by rw[List.eq_nil_of_length_eq_zero a];exact h
theorem FM{P:yB->Prop}(h:∀c:yT,P [c])(us:yB)(d:us.length=1):P us:=by obtain⟨a,r,rfl,b⟩:=Ov us d;exact qh (P:=λr=>P (a::r)) (h a) r b
theorem FL{P:yB->Prop}(h:∀c d:yT,P [c,d])(us:yB)(e:us.length=2):P us:=by obtain⟨a,r,rfl,b⟩:=Ov us e;exact FM (P:=λr=>P (a::r)) (h a) r b
theorem FK{P:yB->Prop}(h:∀d e c:yT,P [d,e,c])(us:yB)(f:us.length=3):P us:=by obtain⟨a,r,rfl,b⟩:=Ov us f;exact FL (P:=λr=>P (a::r)) (h a) r b
theorem qg{P:yB->Prop}(h:∀g e d f:yT,P [g,e,d,f])(us:yB)(c:us.length=4):P us:=by obtain⟨a,r,rfl,b⟩:=Ov us c;exact FK (P:=λr=>P (a::r)) (h a) r b
theorem UE {st n a}(h:∀c d p e f g b,BP st n [a] c d p e f g [b]):BF st n [a]:=λc d p e f g=>FM (P:=BP st n [a] c d p e f g) (h c d p e f g)
theorem Wy {st n b a}(h:∀c d p e f g i j,BP st n [b,a] c d p e f g [i,j]):BF st n [b,a]:=λc d p e f g=>FL (P:=BP st n [b,a] c d p e f g) (h c d p e f g)
theorem KN {st n i b a}(h:∀c d p e f g j k u2,BP st n [i,b,a] c d p e f g [j,k,u2]):BF st n [i,b,a]:=λc d p e f g=>FK (P:=BP st n [i,b,a] c d p e f g) (h c d p e f g)
theorem qf {st n j b a i}(h:∀c d p e f g l m u2 k,BP st n [j,b,a,i] c d p e f g [l,m,u2,k]):BF st n [j,b,a,i]:=λc d p e f g=>qg (P:=BP st n [j,b,a,i] c d p e f g) (h c d p e f g)
theorem qe:BF Lh "bonds_of" ["net"]:=UE λ_ _ _ _ _ _ _=>rfl
theorem qd:BF Lg "may_vanish" ["place","bonds"]:=Wy λ_ _ _ _ _ _ _ _=>rfl
theorem qc:BF Lf "drawn_pair" ["one","other","bonds"]:=KN λ_ _ _ _ _ _ _ _ _=>rfl
theorem qb:BF Le "drawn_once" ["bonds"]:=UE λ_ _ _ _ _ _ _=>rfl
theorem qa:BF Ld "tree_of" ["net"]:=UE λ_ _ _ _ _ _ _=>rfl
theorem p9:BF Lc "_law_cell_at" ["_law_script","_law_k"]:=Wy λ_ _ _ _ _ _ _ _=>rfl
theorem p8:BF Lb "_law_state" ["_law_script","_law_k"]:=Wy λ_ _ _ _ _ _ _ _=>rfl
theorem p7:BF La "_law_take" ["_law_state_here","_law_many"]:=Wy λ_ _ _ _ _ _ _ _=>rfl
theorem p6:BF K9 "_law_ends" ["_law_state_here","_law_places"]:=Wy λ_ _ _ _ _ _ _ _=>rfl
theorem p5:BF K8 "_law_net" ["_law_state_here","_law_most_switches","_law_most_places","_law_most_contacts"]:=qf λ_ _ _ _ _ _ _ _ _ _=>rfl
theorem p4:BF K7 "_law_marks" ["_law_net_here","_law_numbers"]:=Wy λ_ _ _ _ _ _ _ _=>rfl
theorem pZ:BF K6 "_law_settings" ["_law_switches"]:=UE λ_ _ _ _ _ _ _=>rfl
theorem pY:BF K5 "_law_shut" ["_law_net_here","_law_setting"]:=Wy λ_ _ _ _ _ _ _ _=>rfl
theorem pX:BF K4 "_law_lets" ["_law_net_here","_law_setting"]:=Wy λ_ _ _ _ _ _ _ _=>rfl
theorem pW:BF K3 "_law_function" ["_law_net_here"]:=UE λ_ _ _ _ _ _ _=>rfl
theorem pV:BF K2 "_law_turned_ends" ["_law_contact","_law_names"]:=Wy λ_ _ _ _ _ _ _ _=>rfl
theorem pU:BF K1 "_law_whole" ["_law_thing","_law_least","_law_below"]:=KN λ_ _ _ _ _ _ _ _ _=>rfl
theorem pT:BF K0 "_law_tree" ["_law_state_here","_law_switches","_law_most"]:=KN λ_ _ _ _ _ _ _ _ _=>rfl
theorem pR:BF KZ "_law_leaves" ["_law_tree_here"]:=UE λ_ _ _ _ _ _ _=>rfl
theorem pQ:BF KY "_law_bit" ["_law_tree_here","_law_setting"]:=Wy λ_ _ _ _ _ _ _ _=>rfl
theorem pP:BF KW "_law_tree_bits" ["_law_switches","_law_tree_here"]:=Wy λ_ _ _ _ _ _ _ _=>rfl
theorem pO:BF KU "_law_counted" ["_law_switches","_law_thing"]:=Wy λ_ _ _ _ _ _ _ _=>rfl
theorem pN:BF KS "_law_laid" ["_law_switches","_law_tree_here"]:=Wy λ_ _ _ _ _ _ _ _=>rfl
theorem pM:BF KR "_law_mixed" ["_law_state_here","_law_net_here"]:=Wy λ_ _ _ _ _ _ _ _=>rfl
theorem pL:BF KQ "_law_drawn" ["_law_net_here"]:=UE λ_ _ _ _ _ _ _=>rfl
theorem pK:BF KP "_law_right" ["_law_net_here"]:=UE λ_ _ _ _ _ _ _=>rfl
theorem pJ:BF KO "_law_bent" ["_law_state_here","_law_net_here"]:=Wy λ_ _ _ _ _ _ _ _=>rfl
theorem pI:BF SM "law" ["_law_script"]:=UE λ_ _ _ _ _ _ _=>rfl
theorem all_mk{l:W.OpenLaw}{b:Str->yF}{M:yR}(X:K.In h)(G:h.Ns jQ b)(d:b "law"=Z9 (.ref M))
  (Y:DF K "bonds_of" Lh) (O:DF K "may_vanish" Lg) (V:DF K "drawn_pair" Lf) (N:DF K "drawn_once" Le) (P:DF K "tree_of" Ld) (T:DF K "_law_cell_at" Lc) (S:DF K "_law_state" Lb) (d8:DF K "_law_take" La) (d9:DF K "_law_ends" K9) (D:DF K "_law_net" K8) (u:DF K "_law_marks" K7) (o:DF K "_law_settings" K6) (E:DF K "_law_shut" K5) (k:DF K "_law_lets" K4) (f:DF K "_law_function" K3) (i:DF K "_law_turned_ends" K2) (c:DF K "_law_whole" K1) (H:DF K "_law_tree" K0) (r:DF K "_law_leaves" KZ) (t:DF K "_law_bit" KY) (C:DF K "_law_tree_bits" KW) (n:DF K "_law_counted" KU) (g:DF K "_law_laid" KS) (I:DF K "_law_mixed" KR) (q:DF K "_law_drawn" KQ) (j:DF K "_law_right" KP) (B:DF K "_law_bent" KO) (a:DF K "law" SM) (z:ZN K Q6) :
  ∃J:vC,(∀(s:yQ) (v:yT),mV s J ⟨[v],[]⟩ [("_law_script",v)])/\∀base:jA,K.In base->base.Ns jQ b->Yp l.prog w K b base Vn 100 M J ["_law_script"] (Px K):=by obtain⟨_,kV,dc,Z,an,cd,U,m,F⟩:=a.in X G;have e:=d.symm.trans m;cases e;have A:Sg K b (Ur tbl) tbl:=And.intro (Yd Y X G qe (by decide +kernel) qL) (And.intro (Yd O X G qd (by decide +kernel) qK) (And.intro (Yd V X G qc (by decide +kernel) qJ) (And.intro (Yd N X G qb (by decide +kernel) qI) (And.intro (Yd P X G qa (by decide +kernel) qH) (And.intro (Yd T X G p9 (by decide +kernel) qG) (And.intro (Yd S X G p8 (by decide +kernel) qF) (And.intro (Yd d8 X G p7 (by decide +kernel) qE) (And.intro (Yd d9 X G p6 (by decide +kernel) qD) (And.intro (Yd D X G p5 (by decide +kernel) qC) (And.intro (Yd u X G p4 (by decide +kernel) qB) (And.intro (Yd o X G pZ (by decide +kernel) qA) (And.intro (Yd E X G pY (by decide +kernel) qz) (And.intro (Yd k X G pX (by decide +kernel) qy) (And.intro (Yd f X G pW (by decide +kernel) qx) (And.intro (Yd i X G pV (by decide +kernel) qw) (And.intro (Yd c X G pU (by decide +kernel) qv) (And.intro (Yd H X G pT (by decide +kernel) qu) (And.intro (Yd r X G pR (by decide +kernel) qt) (And.intro (Yd t X G pQ (by decide +kernel) qs) (And.intro (Yd C X G pP (by decide +kernel) qr) (And.intro (Yd n X G pO (by decide +kernel) qq) (And.intro (Yd g X G pN (by decide +kernel) qp) (And.intro (Yd I X G pM (by decide +kernel) qo) (And.intro (Yd q X G pL (by decide +kernel) qm) (And.intro (Yd j X G pK (by decide +kernel) qk) (And.intro (Yd B X G pJ (by decide +kernel) qj) (And.intro (Yd a X G pI FO FN) (True.intro))))))))))))))))))))))))))));refine⟨fZ "law" "law" (U2 SM) (W5 SM) (Yk SM) .none kV dc Z an cd U,λs v=>.of_eq rfl,λbase _ _=>?_⟩;exact vl (L:=99) (λx p e=>A.look x p e) ⟨λy hy _=>(z.none X G).mem y hy⟩ (by kernel_rfl) F FO rfl (λR=>congrFun FN R) (λQ h=>qi Q h)
end My
open PySem PySem.W PyProof.Rows
namespace PySem.W.Fast
theorem te994220601314414462:True:=trivial
theorem tw16510226665984456978:True:=trivial
end PySem.W.Fast
set_option maxRecDepth 100000 in
set_option maxHeartbeats 0 in
theorem PySem.Challenge.cw_contactnets_k44_nets_drawn_together_holds : PySem.Challenge.rw_contactnets_k44_nets_drawn_together.Holds := by
 w_on; o_law; k_head; (case hw=>w_witness2)
 k_fill
 refine L2.walk_ev (L:=100) (l:=PySem.Challenge.rw_contactnets_k44_nets_drawn_together) rfl rfl ⟨rfl,by decide,by decide,rfl⟩ (fun w h Y=>PySem.W.kIn_of Y) ?F
 case F =>
  intro w mg fa h KX G hmg
  refine' My.all_mk KX G hmg (My.mkDF ?a1 ?l1 ?c1 ?k1) (My.mkDF ?a2 ?l2 ?c2 ?k2) (My.mkDF ?a3 ?l3 ?c3 ?k3) (My.mkDF ?a4 ?l4 ?c4 ?k4) (My.mkDF ?a5 ?l5 ?c5 ?k5) (My.mkDF ?a6 ?l6 ?c6 ?k6) (My.mkDF ?a7 ?l7 ?c7 ?k7) (My.mkDF ?a8 ?l8 ?c8 ?k8) (My.mkDF ?a9 ?l9 ?c9 ?k9) (My.mkDF ?a10 ?l10 ?c10 ?k10) (My.mkDF ?a11 ?l11 ?c11 ?k11) (My.mkDF ?a12 ?l12 ?c12 ?k12) (My.mkDF ?a13 ?l13 ?c13 ?k13) (My.mkDF ?a14 ?l14 ?c14 ?k14) (My.mkDF ?a15 ?l15 ?c15 ?k15) (My.mkDF ?a16 ?l16 ?c16 ?k16) (My.mkDF ?a17 ?l17 ?c17 ?k17) (My.mkDF ?a18 ?l18 ?c18 ?k18) (My.mkDF ?a19 ?l19 ?c19 ?k19) (My.mkDF ?a20 ?l20 ?c20 ?k20) (My.mkDF ?a21 ?l21 ?c21 ?k21) (My.mkDF ?a22 ?l22 ?c22 ?k22) (My.mkDF ?a23 ?l23 ?c23 ?k23) (My.mkDF ?a24 ?l24 ?c24 ?k24) (My.mkDF ?a25 ?l25 ?c25 ?k25) (My.mkDF ?a26 ?l26 ?c26 ?k26) (My.mkDF ?a27 ?l27 ?c27 ?k27) (My.mkDF ?a28 ?l28 ?c28 ?k28) ⟨?z1,?z2,?z3,?z4,?z5,?z6,?z7,?z8,?z9,?z10,?z11,?z12,?z13,?z14,?z15,?z16,?z17,?z18,?z19,?z20,True.intro⟩
  case a1=>k_is
  case l1=>k_is
  case c1=>k_is
  case k1=>k_is
  case a2=>k_is
  case l2=>k_is
  case c2=>k_is
  case k2=>k_is
  case a3=>k_is
  case l3=>k_is
  case c3=>k_is
  case k3=>k_is
  case a4=>k_is
  case l4=>k_is
  case c4=>k_is
  case k4=>k_is
  case a5=>k_is
  case l5=>k_is
  case c5=>k_is
  case k5=>k_is
  case a6=>k_is
  case l6=>k_is
  case c6=>k_is
  case k6=>k_is
  case a7=>k_is
  case l7=>k_is
  case c7=>k_is
  case k7=>k_is
  case a8=>k_is
  case l8=>k_is
  case c8=>k_is
  case k8=>k_is
  case a9=>k_is
  case l9=>k_is
  case c9=>k_is
  case k9=>k_is
  case a10=>k_is
  case l10=>k_is
  case c10=>k_is
  case k10=>k_is
  case a11=>k_is
  case l11=>k_is
  case c11=>k_is
  case k11=>k_is
  case a12=>k_is
  case l12=>k_is
  case c12=>k_is
  case k12=>k_is
  case a13=>k_is
  case l13=>k_is
  case c13=>k_is
  case k13=>k_is
  case a14=>k_is
  case l14=>k_is
  case c14=>k_is
  case k14=>k_is
  case a15=>k_is
  case l15=>k_is
  case c15=>k_is
  case k15=>k_is
  case a16=>k_is
  case l16=>k_is
  case c16=>k_is
  case k16=>k_is
  case a17=>k_is
  case l17=>k_is
  case c17=>k_is
  case k17=>k_is
  case a18=>k_is
  case l18=>k_is
  case c18=>k_is
  case k18=>k_is
  case a19=>k_is
  case l19=>k_is
  case c19=>k_is
  case k19=>k_is
  case a20=>k_is
  case l20=>k_is
  case c20=>k_is
  case k20=>k_is
  case a21=>k_is
  case l21=>k_is
  case c21=>k_is
  case k21=>k_is
  case a22=>k_is
  case l22=>k_is
  case c22=>k_is
  case k22=>k_is
  case a23=>k_is
  case l23=>k_is
  case c23=>k_is
  case k23=>k_is
  case a24=>k_is
  case l24=>k_is
  case c24=>k_is
  case k24=>k_is
  case a25=>k_is
  case l25=>k_is
  case c25=>k_is
  case k25=>k_is
  case a26=>k_is
  case l26=>k_is
  case c26=>k_is
  case k26=>k_is
  case a27=>k_is
  case l27=>k_is
  case c27=>k_is
  case k27=>k_is
  case a28=>k_is
  case l28=>k_is
  case c28=>k_is
  case k28=>k_is
  case z1=>k_is
  case z2=>k_is
  case z3=>k_is
  case z4=>k_is
  case z5=>k_is
  case z6=>k_is
  case z7=>k_is
  case z8=>k_is
  case z9=>k_is
  case z10=>k_is
  case z11=>k_is
  case z12=>k_is
  case z13=>k_is
  case z14=>k_is
  case z15=>k_is
  case z16=>k_is
  case z17=>k_is
  case z18=>k_is
  case z19=>k_is
  case z20=>k_is
