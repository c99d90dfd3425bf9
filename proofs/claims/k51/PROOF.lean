import PyProof.Rows.All
import Wide.All
import OpenK.AllK
import Lean
import PySem.Challenge.RW_contactnets_k51_fewest_contacts
set_option Elab.async false
set_option linter.all false
set_option genSizeOf false
set_option maxRecDepth 100000
set_option maxHeartbeats 1000000
open List renaming getElem?_append_right→qA0,getElem?_eq_some_iff→qA3,getElem?_eq_getElem→qA4,getElem?_append_left→qA7,length_map→qA8,mem_cons→qB0,size_toArray→qB1,mem_of_getElem?→qB5,append_assoc→qB6,mem_singleton→qB7,map_cons→qB8,mem_append→qB9,getElem?_map→qC0,mem_cons_of_mem→qC1,pairwise_append→qC2,length_append→qC3,mem_append_right→qC6,getElem?_toArray→qC7,getElem?_set_self→qC8,take_append_drop→qC9,lookup_cons→qD1,map_map→qD2,not_mem_nil→qD3,length_cons→qD4,all_eq_true→qD5,getElem?_cons_succ→qD6,getElem_mem→qD7,mem_map→qD8,getElem?_set_ne→qD9,map_append→qE1,pairwise_singleton→qE4,drop_eq_getElem_cons→qE5,replicate→qE6,mem_cons_self→qE8,mem_append_left→qE9,map_congr_left→qF0,length_range→qF2,mem_filter→qF3,find?_cons→qF4,cons_append→qF5,getElem?_of_mem→qF6,mem_range→qF7,take_sublist→qF8,getD_eq_getElem?_getD→qG0,append_nil→qG1,mem_iff_getElem→qG5,getElem?_replicate→qG6,drop_sublist→qG7,filterMap_cons→qG9,take_of_length_le→qH1,any_cons→qH3,take_length→qH5,length_replicate→qH6,perm_append_comm→qH7,mem_of_mem_drop→qH9,mem_of_mem_take→qI0,nodup_append→qI1,mem_singleton_self→qI3,mem_reverse→qI4,length_eq_zero_iff→qI5,filter_cons→qI6,nodup_cons→qJ0,length_set→qJ1,pairwise_reverse→qJ2,getElem?_eq_none→qJ3,length_take→qJ6,map_nil→qJ7,getD→qK0,getElem?_range→qK1,pairwise_cons→qK4,length→qK5,reverse_cons→qK7,drop_of_length_le→qK8,pairwise_of_forall_mem_list→qK9,mapM_cons→qL0,length_drop→qL1,drop_length→qL3,take_append_of_le_length→qL5,of_mem_zip→qL6,foldl_cons→qL7,getElem_of_mem→qL8,cons→qM0,getElem?_zip_eq_some→qM2,getElem_drop→qM6,getElem?_inj→qM7,all_cons→qM8,length_erase_of_mem→qM9,take_append_getElem→qN0,mem_flatMap→qN4,length_nil→qN5,length_zip→qN8,nil_append→qN9,range_succ→qO1,dropLast_eq_take→qO3,length_filter_le→qO4,drop_zero→qO6,drop_drop→qO7,reverse_append→qP1,toList_toArray→qP2,filter_eq_self→qP3,mem_filterMap→qP4,findIdx?_cons→qP7,filterMap_nil→qP8,zip_cons_cons→qP9,take_add_one→qQ0,pairwise_map→qQ2,zipIdx_cons→qQ7,map_snd_zip→qQ8,isEmpty_map→qQ9,nodup_range→qR3,forIn_cons→qR4,drop_left'→qR7,forIn_nil→qR8
open Option renaming bind_eq_some_iff→qA1,map_eq_some_iff→qA2,isSome_iff_exists→qI2,isNone_iff_eq_none→qM3,isSome_map→qM4,bind_some→qN3,isSome_some→qP5,getD_none→qQ5,map_some→qR5
open Nat renaming le_refl→qA6,lt_of_lt_of_le→qB2,ne_of_lt→qC4,le_trans→qD0,lt_succ_of_lt→qF1,lt_of_le_of_lt→qG2,le_of_lt→qG3,ne_of_gt→qG4,lt_irrefl→qH2,zero_le→qH4,testBit_succ→qI7,sub_self→qI8,pow_le_pow_right→qJ5,lt_succ_self→qJ8,add_sub_cancel_left→qK6,le_add_right→qL2,zero_add→qL9,le_succ→qM5,le_of_not_lt→qN1,min_eq_left→qN6,not_lt_zero→qO0,testBit_and→qO2,eq_of_testBit_eq→qO9,testBit_or→qP0,add_sub_cancel→qP6,mul_mod_right→qQ4,succ_ne_self→qQ6,succ_le_succ→qR0,testBit_zero→qR1,le_antisymm→qR6,add_le_add→qS0
open Bool renaming false_ne_true→qA9,and_eq_true→qC5,false_eq_true→qE3,not_eq_true'→qG8,or_eq_true→qH8,eq_iff_iff→qK2,false_and→qO5,and_eq_true_iff→qO8
open Int renaming toNat_natCast→qE0,emod_lt_of_pos→qI9,emod_nonneg→qK3,fdiv_eq_ediv_of_nonneg→qM1,le_antisymm→qN7,le_trans→qQ3,toNat→qR2
open PySem.Heap renaming get?_push_of_some→qA5,lt_size→qB3,get?_push_size→qB4,get?_update_other→qE2,get?_update_self→qE7,size_push→qF9,SameBut→qH0,IsList→qJ4,IsTuple→qJ9,get?_none_of_le→qL4,size_update→qN2,get?_push_ne→qQ1,MadeExcOf→qR9
abbrev yA:=List Int
abbrev yB:=List PySem.Value
abbrev yC:=List PySem.Addr
abbrev yD:=List (PySem.Addr × PySem.Obj)
abbrev yE:=List PySem.Expr
abbrev yF:=Option PySem.Value
abbrev yG:=Option Int
abbrev yH:=List PySem.Str
abbrev yI:=List PyProof.Rows.Keyed
abbrev yJ:=Array PySem.Value
abbrev yK:=Option Nat
abbrev yL:=PySem.Value→PySem.Shared→Prop
open PySem renaming wpAny_bind→yO,wpAny_pure→yP,Addr→yR,Shared→yS,Value→yU,model→yW,wpAny→yX,Spec→yZ,Expr→y4,Program→y7,mainGlobals→y8,compareOp→y9,sizeLine→jA,Heap→jC,World→jD,Around→jE,starEach→jF,bootBuiltins→jH,binaryOp→jJ,wpAny_mono→jK,wpAny_callSpecial?_slot→jM,wpAny_call_entry→jN,wpAny_holding→jO,wpAny_newObj_type→jP,assignEach→jQ,Scope→jS,NameKind→jT,ExceptHandler→jW,FuncData→jX,wpAny_field→jZ,wpAny_truthy_bool→j7,rawInt→j8,wpAny_Call_Name_kw→vA,wpAny_pyIter_tuple→vB,wpAny_typeNameOfWhole_keyiter→vC,cellsFrom→vE,wpAny_pyIter_list→vF,sysModules→vG,Stmt→vI,wpAny_attempt→vK,eval→vL,wpAny_rule→vM,wpAny_execs_nil→vO,wpAny_passesOwn→vP,Arguments→vQ,codeAny_mono→vR,codeAny→vU,mem_of_lookup→vV,wpAny_seqItems→vW,sizeLine_eq→vX,wpAny_typeOf→vY,wpAny_setField_rec→vZ,swappedStores→v9,foldedSetIterable→wB,wpAny_newFunctionEnv_cells→wC,wpAny_setField→wE,IsPair→wF,holding→wI,attributeBase→wK,backTo→wM,tupleKind_room_in1→wO,PyData→wP,swapsWith→wQ,cLine→wR,sliceBounds→wT,codeAny_call_function→wY,codeAny_handlers_test→wZ,assign→fA,wpAny_isInstance→fE,behindInMarks→fG,wpAny_setFlight_none→fK,letOwnedTupleGo→fM,pushCells_keeps→fN,getAttrByItsOwn→fQ,IsZip→fR,wpAny_handleBy_cons→fS,DictEntry→fW,CmpOp→fY,wpAny_call→fZ,newFunctionEnv→f8,firstArgMember→f9,boundAndCalled→gB,getItem→gF,wpAny_pyIter_enum→gH,wpAny_dictEntries→gI,pyNext→gJ,wpAny_comprehension_free→gL,preSum→gM,wpAny_execs_cons→gP,PassesOwn→gQ,noFill_tuple_add→gR,pushCells→gU,wpAny_pyIter_zip→gV,codeAmong→gZ,wpAny_pyNext_list_item→lB,IsPart→lC,Keyword→lG,wpAny_dictEpoch→lH,codeAny_builtin→lI,wpAny_pyNext_list_end→lJ,wpAny_isOneOf_keyiter→lK,wpAny_notOrdered_dict→lM,Paired→lO,wpAny_Expr_any→lP,recursionLimit→lS,keywordEach→lV,wpAny_updateSeq_pair→lX,intItems→lY,codeAny_call_builtin→mB,tupleKind→mD,lastMarks→mE,callerA→mF,valueAt→mG,noteFrame→mH,wpAny_standAt→mK,swapsWithSole→mL,seq_tuple_add→mM,wpAny_newList→mP,Comprehension→mT,builtinsNs→mU,typeLookup→mV,PlainAttrs→mW,typeOf→mX,Model→mZ,standAt→m5,Operator→m6,BindsTo→m7,codeAny_func→dC,concat_meets→dD,seqIndex_neg→dE,relabel→dF,notedBy→dG,getAttr?→dH,isTrue→dJ,Result→dL,stored→dM,seqIndex_of→dO,subscripted→dP,atKey→dQ,setItem→dU,leaving→dW
open PySem.W renaming Frag→yQ,kitOne→vS,kia_one→wU,cellsFrom_some→fB,tabIn→fH,CodeHd→fL,nsIn→gC,exmOne→gD,fnOf→gK,keepIn→lT,findIn→lZ,looks_findIn→mC,callWith_K→m8,codeIn→m9,codeRec_of→dA,methodObj→dN
open PyProof.Rows renaming wpS_bind→yT,Keyed→yV,wpS_pure→yY,SortSt→jG,wpS_forRange→jU,callWith_type1→j6,slot_tuple_getitem→j9,wpS_mono→vD,SortKind→v0,seqObj→wG,wpS_modify→wH,IntsAre→wL,AllBare→fT,wpS_get→fV,wpS_lift→gA,subscriptTail_builtinR→lE,envOfC→lU,entry_tuple_getitem→mI,recsOf→mJ,subscriptTail→mO,elem'→mQ,reverseSlice'→mR,listUpdate_at→mS,size_push'→mY,mem_zip_self→dI,numOf→dR,seqEpoch_at→dS
open Array renaming toList_append→jI,length_toList→vT,getElem?_toList→wA,ext'→fD,toList_reverse→fJ
open PySem.Builtin renaming bitAnd→jL,bitOr→vJ,bitNot→wX,bitXor→lQ
open PySem.Obj renaming data_mapFields→jR,mapFields→jV,isFreed_of_fields→jY,mapSeq→wD,cls_mapFields→gG
open PySem.F renaming slot_dict_keyiterator_next→vH,slot_tuple_iterator_next→vN,args_tuple_add_2→wJ,entry_tuple_add→wS,slot_tuple_add→wW,args_dict_keyiterator_next_1→fF,entry_dict_keyiterator_next→fI,args_tuple_iterator_next_1→fO,slot_zip_next→fP,entry_tuple_iterator_next→fU,slot_dict_update→gO,plainAttrs_list→lA
open PySem.Calls renaming spliced_cons→wN,spliced_nil→wV,Name_function_global→fX,call_function_entry→gE,callWith_builtin→lF,evalArgs_plain→lW
namespace L2
open PySem PySem.Spec PyProof.Rows
abbrev nDb(x:Str):Prop:=(x == ("__debug__":Str))=false
abbrev Key:=Sum Int Str
noncomputable def zHL:Key->yU->Bool
 |.inl k,v=>Value.isInt k v
 |.inr x,v=>Value.isStrOf x v
noncomputable def keyH(w:jD):Key->Int
 |.inl k=>hashInt k
 |.inr x=>hashStr w x
theorem zAu:∀{k:Key}{v:yU},zHL k v=true->(∃i t,k=Sum.inl i/\v=Value.int i t)∨(∃x t,k=Sum.inr x/\v=Value.str x t)
 |.inl i,v,h=>by obtain⟨t,e⟩:=Value.isInt_shape (k:=i) (v:=v) h;exact .inl ⟨i,t,rfl,e⟩
 |.inr x,v,h=>by obtain⟨t,e⟩:=Value.isStrOf_shape (x:=x) (v:=v) h;exact .inr ⟨x,t,rfl,e⟩
theorem zOd(i:Int)(t:Tok):zHL (.inl i) (.int i t)=true:=by simp[zHL,Value.isInt]
theorem zOc(x:Str)(t:Tok):zHL (.inr x) (.str x t)=true:=by simp[zHL,Value.isStrOf]
theorem zWv(a b:Int):decide ((Sum.inl a:Key)=Sum.inl b)=(a == b):=by
 by_cases e:a=b
 ·subst e;simp
 ·have h:¬(Sum.inl a:Key)=Sum.inl b:=λq=>e (Sum.inl.inj q);rw[decide_eq_false h];exact(beq_eq_false_iff_ne.mpr e).symm
theorem zWs(a b:Str):decide ((Sum.inr a:Key)=Sum.inr b)=decide (a=b):=by
 by_cases e:a=b
 ·subst e;simp
 ·have h:¬(Sum.inr a:Key)=Sum.inr b:=λq=>e (Sum.inr.inj q);rw[decide_eq_false h,decide_eq_false e]
theorem zWu(a:Int)(b:Str):decide ((Sum.inl a:Key)=Sum.inr b)=false:=decide_eq_false (λq=>nomatch q)
theorem zWt(a:Str)(b:Int):decide ((Sum.inr a:Key)=Sum.inl b)=false:=decide_eq_false (λq=>nomatch q)
noncomputable def zA9(prog:y7)(w:jD):PySem.KeyKind prog w Key where
 is:=zHL
 hash:=keyH w
 inj:=λv a b ha hb=>by
  rcases zAu ha with⟨i,t,rfl,rfl⟩| ⟨x,t,rfl,rfl⟩
  ·rcases zAu hb with⟨j,u,rfl,e⟩| ⟨y,u,rfl,e⟩
   ·injection e with e1 _;rw[e1]
   ·exact nomatch e
  ·rcases zAu hb with⟨j,u,rfl,e⟩| ⟨y,u,rfl,e⟩
   ·exact nomatch e
   ·injection e with e1 _;rw[e1]
 byValue:=λk v h=>by rcases zAu h with⟨i,t,rfl,rfl⟩| ⟨x,t,rfl,rfl⟩<;>rfl
 pyHash:=λhv h=>by
  rcases zAu hv with⟨i,t,rfl,rfl⟩| ⟨x,t,rfl,rfl⟩
  ·exact wpAny_pyHash_int h
  ·exact wpAny_pyHash_str h
 eqBool:=λhu hv h=>by
  rcases zAu hu with⟨i,t,rfl,rfl⟩| ⟨x,t,rfl,rfl⟩
  ·rcases zAu hv with⟨j,u,rfl,rfl⟩| ⟨y,u,rfl,rfl⟩
   ·rw[zWv]at h;exact wpAny_eqBool_int h
   ·rw[zWu]at h;exact SeqAt.EqAt.int_str i t y u _ _ _ _ h
  ·rcases zAu hv with⟨j,u,rfl,rfl⟩| ⟨y,u,rfl,rfl⟩
   ·rw[zWt]at h;exact SeqAt.EqAt.str_int x t j u _ _ _ _ h
   ·rw[zWs]at h;exact wpAny_eqBool_str h
 «strs»:=λk x t v h=>by
  rcases zAu h with⟨i,u,rfl,e⟩| ⟨y,u,rfl,e⟩
  ·exact nomatch e
  ·injection e with e1 _;subst e1;cases v<;>rfl
theorem zKd(prog:y7)(w:jD)(i:Int)(t:Tok):(zA9 prog w).is (.inl i) (.int i t)=true:=zOd i t
theorem zKc(prog:y7)(w:jD)(x:Str)(t:Tok):(zA9 prog w).is (.inr x) (.str x t)=true:=zOc x t
inductive V where
 |non|bl (b:Bool)| int (i:Int)| str (x:Str)| byt (b:Array UInt8)| flt (b:UInt64)| ref (a:yR)| ty (n:String)
 deriving DecidableEq
def RelV:V->yU->Prop
 |.non,u=>u=Value.none
 |.bl b,u=>u=Value.bool b
 |.int i,u=>∃t,u=Value.int i t
 |.str x,u=>∃t,u=Value.str x t
 |.byt b,u=>∃t,u=Value.bytes b t
 |.flt b,u=>∃t,u=Value.float b t
 |.ref a,u=>u=Value.ref a
 |.ty n,u=>u=Value.type n
noncomputable abbrev Vals:List V->yB->Prop:=lO RelV
theorem Vals.length{xs:List V}{us:yB}(r:Vals xs us):xs.length=us.length:=Paired.length r
theorem Vals.get:∀{xs:List V}{us:yB}{i:Nat}{x:V},Vals xs us->xs[i]?=some x->∃u,us[i]?=some u/\RelV x u
 |_,_,_,_,.nil,e=>by simp at e
 |_,_,0,_,.cons r _,e=>by simp at e;subst e;exact⟨_,rfl,r⟩
 |_,_,i+1,x,.cons _ t,e=>by obtain⟨u,h1,h2⟩:=Vals.get (i:=i) (x:=x) t (by simpa using e);exact⟨u,by simpa using h1,h2⟩
theorem Vals.set{x:V}{u:yU}(r:RelV x u):∀{xs:List V}{us:yB} (i:Nat),Vals xs us->Vals (xs.set i x) (us.set i u)
 |_,_,_,.nil=>.nil
 |_,_,0,.cons _ t=>.cons r t
 |_,_,i+1,.cons q t=>.cons q (Vals.set r i t)
theorem Vals.append:∀{xs ys:List V}{us ws:yB},Vals xs us->Vals ys ws->Vals (xs++ys) (us++ws)
 |_,_,_,_,.nil,s=>s
 |_,_,_,_,.cons r t,s=>.cons r (Vals.append t s)
theorem Vals.take:∀{xs:List V}{us:yB} (n:Nat),Vals xs us->Vals (xs.take n) (us.take n)
 |_,_,0,_=>.nil
 |_,_,_+1,.nil=>.nil
 |_,_,n+1,.cons r t=>.cons r (Vals.take n t)
theorem Vals.drop:∀{xs:List V}{us:yB} (n:Nat),Vals xs us->Vals (xs.drop n) (us.drop n)
 |_,_,0,r=>r
 |_,_,_+1,.nil=>.nil
 |_,_,n+1,.cons _ t=>Vals.drop n t
def RelO:Option V->yF->Prop
 |some v,some u=>RelV v u
 |none,none=>True
 |_,_=>False
def KV{κ:Type}:List (κ×V)->List (κ×yU)->Prop:=lO fun(p:κ×V) (q:κ×yU)=>p.1=q.1/\RelV p.2 q.2
noncomputable def kV:Key->V
 |.inl i=>.int i
 |.inr x=>.str x
inductive HO where
 /-- a list -/
 |lst (xs:List V)
 /-- a tuple (never changes) -/
 |tup (xs:List V)
 /-- a dict whose keys are ints and texts;one whose keys are tuples of ints and texts (the empty one is both) -/
 |dK (kvs:List (Key×V))| dT (kvs:List (List Key×V))
 /-- a set of ints: its members,its size -/
 |set (S:Int->Bool) (n:Nat)
 /-- an instance of the class at C,its dict at dx,its attributes -/
 |ins (C dx:yR) (fs:List (Str×V))
 /-- the dict of the instance at x -/
 |own (x:yR)
 /-- the dict of an exception -/
 |xd (fs:List (Str×V))
 /-- a bound method,f of x -/
 |met (f x:yR)
 /-- a range object lo,lo+1,.. below hi -/
 |rng (lo hi:Int)
 /-- a thing that is known to the object (the script;a dict while a loop walks it): read,never written while it is so -/
 |frz (o:Obj) (u:HO)
 /-- a code object's table -/
 |tbl (ps:yJ)
 /-- any other thing,by what is true of its one object (a def of one's own: SetO a S n:=HO.ext λh=>..) -/
 |ext (φ:jC->Prop)
abbrev Hp:=yR->Option HO
noncomputable def upd(H:Hp)(a:yR)(o:HO):Hp:=λb=>if b=a then some o else H b
theorem zAc{H:Hp}{a:yR}{o:HO}:upd H a o a=some o:=by unfold upd;rw[if_pos rfl]
theorem zA6{H:Hp}{a b:yR}{o:HO}(h:b≠a):upd H a o b=H b:=by unfold upd;rw[if_neg h]
theorem zZ5{H:Hp}{a b:yR}{o u:HO}(h:H a=some o)(h':H b=some u)(d:o≠u):a≠b:=by intro e;subst e;rw[h]at h';exact d (Option.some.inj h')
theorem zAH{H:Hp}{a b:yR}{o:HO}(h:H a=some o)(h':H b=none):a≠b:=by intro e;subst e;rw[h]at h';cases h'
section
variable (P:y7) (w:jD)
def zBL(H:Hp)(h:jC)(a:yR):HO->Prop
 |.lst xs=>xs.length<=jA/\∃(its:yB) (n:Nat),Vals xs its/\h.get? a=some { cls:=.type "list",data:=.seq its.toArray n }
 |.tup xs=>xs.length<=jA/\∃its:yB,Vals xs its/\IsTup h a its.toArray
 |.dK kvs=>kvs.length<=jA/\(a == vG)=false/\∃vs,KV kvs vs/\h.DictOf (zA9 P w) a vs
 |.dT kvs=>kvs.length<=jA/\(a == vG)=false/\∃xs:List (List Key×yR×yU),
   lO (fun(p:List Key×V) (q:List Key×yR×yU)=>p.1=q.1/\H q.2.1=some (.tup (p.1.map kV))/\RelV p.2 q.2.2) kvs xs /\
   ∃o es ep,h.get? a=some o/\o.ExactDict/\o.data=.dict es ep/\es.toList=xs.map (entryOfKey (mD (zA9 P w)))/\(xs.map (·.1)).Nodup
 |.set S n=>h.SetOf (intKind P w) a S n
 |.ins C dx fs=>H dx=some (.own a)/\fs.length<=1000/\dx≠a/\h.get? a=some (W.instObj C dx) /\
   ∃mA,h.Ns1 dx mA/\(∀f,RelO (fs.lookup f) (mA f))/\PySem.Within mA (fs.map (·.1))
 |.own _=>∃o,h.get? a=some o
 |.xd fs=>∃mA,h.Ns1 a mA/\∀f,RelO (fs.lookup f) (mA f)
 |.rng lo hi=>∃t u v,h.get? a=some { cls:=.type "range",data:=.fields #[.int lo t,.int hi u,.int 1 v] }
 |.frz o u=>h.get? a=some o/\zBL H h a u
 |.tbl ps=>h.get? a=some { cls:=.none,data:=.fields ps }
 |.met f x=>h.get? a=some (dN (.ref f) (.ref x))
 |.ext φ=>φ h/\(∃o,h.get? a=some o)/\∀h1 h2:jC,φ h1->(∀o,h1.get? a=some o->h2.get? a=some o)->φ h2
def HOk(H:Hp)(h:jC):Prop:=∀a o,H a=some o->zBL P w H h a o
end
section
variable {P:y7}{w:jD}{H H':Hp}{h h':jC}{a:yR}{o:HO}
theorem zBL.lt(x:zBL P w H h a o):a<h.objs.size:=by
 cases o with
 |lst xs=>obtain⟨_,_,_,_,e⟩:=x;exact qB3 e
 |tup xs=>obtain⟨_,_,_,p⟩:=x;exact p.lt
 |dK kvs=>obtain⟨_,_,_,_,o,_,_,e,_⟩:=x;exact qB3 e
 |dT kvs=>obtain⟨_,_,_,_,o,_,_,e,_⟩:=x;exact qB3 e
 |set S n=>obtain⟨o,_,_,_,e,_⟩:=x;exact qB3 e
 |ins C dx fs=>obtain⟨_,_,_,e,_⟩:=x;exact qB3 e
 |own y=>obtain⟨_,e⟩:=x;exact qB3 e
 |xd fs=>obtain⟨_,⟨_,_,_,e,_⟩,_⟩:=x;exact qB3 e
 |rng lo hi=>obtain⟨_,_,_,e⟩:=x;exact qB3 e
 |frz ob u=>obtain⟨e,_⟩:=x;exact qB3 e
 |tbl ps=>exact qB3 (show h.get? a=some _ from x)
 |met f y=>exact qB3 (show h.get? a=some _ from x)
 |ext φ=>obtain⟨_,⟨_,e⟩,_⟩:=x;exact qB3 e
theorem Paired.mapP{α β:Type}{F G:α->β->Prop}:∀{l₁:List α}{l₂:List β},lO F l₁ l₂->(∀a b,F a b->G a b)->lO G l₁ l₂
 |_,_,.nil,_=>.nil
 |_,_,.cons r t,f=>.cons (f _ _ r) (Paired.mapP t f)
theorem zBL.stay(x:zBL P w H h a o)(k:∀b u,(b=a∨H b=some (.own a))->h.get? b=some u->h'.get? b=some u)
  (ho:∀b,H b=some (.own a)->H' b=some (.own a)) (ht:∀b xs,H b=some (.tup xs)->H' b=some (.tup xs)):zBL P w H' h' a o:=by
 induction o with
 |lst xs=>obtain⟨z,its,n,r,e⟩:=x;exact⟨z,its,n,r,k _ _ (.inl rfl) e⟩
 |tup xs=>obtain⟨z,its,r,ob,e,c⟩:=x;exact⟨z,its,r,ob,k _ _ (.inl rfl) e,c⟩
 |dK kvs=>obtain⟨z,y,vs,r,ob,es,ep,e,c⟩:=x;exact⟨z,y,vs,r,ob,es,ep,k _ _ (.inl rfl) e,c⟩
 |dT kvs =>
  obtain⟨z,y,xs,r,ob,es,ep,e,c⟩:=x;exact⟨z,y,xs,Paired.mapP r λp q z=>⟨z.1,ht _ _ z.2.1,z.2.2⟩,ob,es,ep,k _ _ (.inl rfl) e,c⟩
 |set S n=>obtain⟨ob,es,ep,t,e,c⟩:=x;exact⟨ob,es,ep,t,k _ _ (.inl rfl) e,c⟩
 |ins C dx fs =>
  obtain⟨d,z,ne,e,mA,⟨od,es,ep,e2,c⟩,r⟩:=x;exact⟨ho _ d,z,ne,k _ _ (.inl rfl) e,mA,⟨od,es,ep,k _ _ (.inr d) e2,c⟩,r⟩
 |own y=>obtain⟨ob,e⟩:=x;exact⟨ob,k _ _ (.inl rfl) e⟩
 |xd fs=>obtain⟨mA,⟨od,es,ep,e,c⟩,r⟩:=x;exact⟨mA,⟨od,es,ep,k _ _ (.inl rfl) e,c⟩,r⟩
 |rng lo hi=>obtain⟨t,u,v,e⟩:=x;exact⟨t,u,v,k _ _ (.inl rfl) e⟩
 |frz ob u ih=>obtain⟨e,q⟩:=x;exact⟨k _ _ (.inl rfl) e,ih q⟩
 |tbl ps =>
  have e:h.get? a=some { cls:=.none,data:=.fields ps }:=x;show h'.get? a=some { cls:=.none,data:=.fields ps };exact k a _ (.inl rfl) e
 |met f y =>
  have e:h.get? a=some (dN (.ref f) (.ref y)):=x;show h'.get? a=some (dN (.ref f) (.ref y));exact k a _ (.inl rfl) e
 |ext φ=>obtain⟨p,⟨o,e⟩,st⟩:=x;exact⟨st _ _ p λo q=>k _ _ (.inl rfl) q,⟨o,k _ _ (.inl rfl) e⟩,st⟩
theorem HOk.lt(x:HOk P w H h)(e:H a=some o):a<h.objs.size:=(x a o e).lt
theorem HOk.fresh(x:HOk P w H h)(e:h.objs.size<=a):H a=none:=by
 cases q:H a with
 |none=>rfl
 |some u=>exact absurd (qB2 (x.lt q) e) (qH2 _)
theorem HOk.kept(x:HOk P w H h)(k:∀b u,h.get? b=some u->h'.get? b=some u):HOk P w H h':=λa o e =>
 (x a o e).stay (λb u _ q=>k b u q) (λ_ q=>q) λ_ _ q=>q
theorem HOk.laid(x:HOk P w H h)(k:∀b u,h.get? b=some u->h'.get? b=some u)(hp:h.objs.size<=a)(new:zBL P w (upd H a o) h' a o):HOk P w (upd H a o) h':=λb u e=>by
 have hn:=x.fresh hp;by_cases hb:b=a
 ·subst hb;rw[zAc]at e;cases e;exact new
 ·rw[zA6 hb]at e;exact(x b u e).stay (λc v _ q=>k c v q) (λc q=>by rw[zA6 (zAH q hn)];exact q) λc xs q=>by rw[zA6 (zAH q hn)];exact q
end
def Rd(H:Hp)(a:yR)(u:HO):Prop:=H a=some u∨∃o,H a=some (.frz o u)
theorem Rd.ok{P:y7}{w:jD}{H:Hp}{h:jC}{a:yR}{u:HO}(r:Rd H a u)(x:HOk P w H h):zBL P w H h a u:=by
 rcases r with r|⟨o,r⟩
 ·exact x a u r
 ·obtain⟨_,q⟩:=x a _ r;exact q
def Mut:Option HO->Prop
 |some (.lst _)=>True
 |some (.dK _)=>True
 |some (.dT _)=>True
 |some (.set _ _)=>True
 |some (.ins _ _ _)=>True
 |some (.ext _)=>True
 |_=>False
section
variable {P:y7}{w:jD}{H:Hp}{h h':jC}{x e:yR}{o':HO}
theorem HOk.write(ok:HOk P w H h)(mu:Mut (H x))(he:e=x∨H e=some (.own x))(k:∀b u,b≠e->h.get? b=some u->h'.get? b=some u)(heo:∃u,h'.get? e=some u)
  (new:zBL P w (upd H x o') h' x o'):HOk P w (upd H x o') h':=λb u q=>by
 have nown:∀c y,H c=some (.own y)->c≠x:=λc y r z=>by subst z;rw[r]at mu;exact mu
 have ntup:∀c xs,H c=some (.tup xs)->c≠x:=λc xs r z=>by subst z;rw[r]at mu;exact mu
 by_cases hb:b=x
 ·subst hb;rw[zAc]at q;cases q;exact new
 ·rw[zA6 hb]at q;by_cases hbe:b=e
  ·have q':H b=some (.own x):=by
    rcases he with z|z
    ·exact absurd (hbe.trans z) hb
    ·rw[hbe];exact z
   rw[q]at q';cases q';obtain⟨v,hv⟩:=heo;exact⟨v,by rw[hbe];exact hv⟩
  ·refine(ok b u q).stay (λc v hc r=>k c v ?_ r) (λc r=>by rw[zA6 (nown c b r)];exact r) λc xs r=>by rw[zA6 (ntup c xs r)];exact r
   rcases hc with rfl|hc
   ·exact hbe
   ·rintro rfl;rcases he with z|z
    ·exact nown c b hc z
    ·rw[hc]at z;cases z;exact hb rfl
end
structure Un(fs ex:yC)(H H':Hp)(h h':jC):Prop where
 keep:∀b o,h.get? b=some o->H b=none->b∉fs->b∉ex->h'.get? b=some o
 slot:∀b o,h.get? b=some o->H b=none->b∈fs->b∉ex->∃sl,h'.get? b=some { o with slots:=sl }
 free:∀b o,h.get? b=some o->H b=none->b∉ex->H' b=none
 there:∀b o,h.get? b=some o->b∉ex->∃o',h'.get? b=some o'
 tups:∀b xs,H b=some (.tup xs)->H' b=some (.tup xs)
 frzs:∀b o u,H b=some (.frz o u)->H' b=some (.frz o u)
 tbls:∀b ps,H b=some (.tbl ps)->∃more,H' b=some (.tbl (ps++more))
section
variable {fs fs' ex ex':yC}{H H1 H2:Hp}{h h1 h2 h':jC}{a x e:yR}{o:HO}
theorem Un.any(u:Un fs ex H H1 h h1){b:yR}{ob:Obj}(q:h.get? b=some ob)(n:H b=none)(hx:b∉ex):∃sl,h1.get? b=some { ob with slots:=sl }:=by
 by_cases hb:b∈fs
 ·exact u.slot b ob q n hb hx
 ·exact⟨ob.slots,u.keep b ob q n hb hx⟩
theorem Un.kept(k:∀b u,h.get? b=some u->h'.get? b=some u):Un fs ex H H h h' :=
 ⟨λb ob q _ _ _=>k b ob q,λb ob q _ _ _=>⟨ob.slots,k b ob q⟩,λ_ _ _ n _=>n,λb ob q _=>⟨ob,k b ob q⟩,λ_ _ q=>q,λ_ _ _ q=>q,λ_ ps q=>⟨#[],by rw[q];simp⟩⟩
theorem Un.refl:Un fs ex H H h h:=Un.kept λ_ _ q=>q
theorem Un.laid(k:∀b u,h.get? b=some u->h'.get? b=some u)(hp:h.objs.size<=a)(hn:H a=none):Un fs ex H (upd H a o) h h' where
 keep:=λb u q _ _ _=>k b u q
 slot:=λb u q _ _ _=>⟨u.slots,k b u q⟩
 free:=λb u q n _=>by rw[zA6 (qC4 (qB2 (qB3 q) hp))];exact n
 there:=λb u q _=>⟨u,k b u q⟩
 tups:=λb xs q=>by rw[zA6 (zAH q hn)];exact q
 frzs:=λb u xs q=>by rw[zA6 (zAH q hn)];exact q
 tbls:=λb ps q=>⟨#[],by rw[zA6 (zAH q hn),q];simp⟩
theorem Un.write(mu:Mut (H x))(he:e=x∨H e=some (.own x))(k:∀b u,b≠e->h.get? b=some u->h'.get? b=some u)(heo:∃u,h'.get? e=some u):Un fs ex H (upd H x o) h h':=by
 have hx:∀b,H b=none->b≠x:=λb n z=>by subst z;rw[n]at mu;exact mu
 have hb:∀b,H b=none->b≠e:=λb n z=>by
  subst z;rcases he with r|r
  ·exact hx b n r
  ·rw[n]at r;cases r
 have hm:∀b u,H b=some u->¬Mut (some u)->b≠x:=λb u q nm z=>by subst z;rw[q]at mu;exact nm mu
 refine⟨λb u q n _ _=>k b u (hb b n) q,λb u q n _ _=>⟨u.slots,k b u (hb b n) q⟩,λb u q n _=>by rw[zA6 (hx b n)];exact n,λb u q _=>?_,
  λb xs q=>by rw[zA6 (hm b _ q λz=>z)];exact q,λb u xs q=>by rw[zA6 (hm b _ q λz=>z)];exact q,λb ps q=>⟨#[],by rw[zA6 (hm b _ q λz=>z),q];simp⟩⟩
 by_cases hbe:b=e
 ·subst hbe;exact heo
 ·exact⟨u,k b u hbe q⟩
end
noncomputable def trk(h:jC)(H:Hp):yC:=(List.range h.objs.size).filter λa=>(H a).isSome
noncomputable def hidT(h:jC)(H:Hp):Heap:=W.hideAll h (trk h H)
theorem zOq(h:jC)(H:Hp):(hidT h H).objs.size=h.objs.size:=W.hideAll_size _ _
theorem zQG{h:jC}{H:Hp}{b:yR}{o:Obj}(e:h.get? b=some o)(n:H b=none):(hidT h H).get? b=some o :=
 W.hideAll_get _ e λhm=>by have q:(H b).isSome=true:=(qF3.mp hm).2;rw[n]at q;simp at q
theorem zSZ{h:jC}{H:Hp}{b:yR}{o:Obj}(e:(hidT h H).get? b=some o):h.get? b=some o/\H b=none:=by
 have e':h.get? b=some o:=W.of_hideAll (trk h H) e;refine⟨e',?_⟩;cases q:H b with
 |none=>rfl
 |some x =>
  have hm:b∈trk h H:=qF3.mpr ⟨qF7.mpr (qB3 e'),by simp[q]⟩;have z:(hidT h H).get? b=none:=W.hideAll_none (trk h H) hm;rw[z]at e;cases e
noncomputable def zU7(g h:jC)(L:yR):yD:=(List.range h.objs.size).filterMap λa=>if a=L∨(g.get? a).isSome=true then none else(h.get? a).map λo=>(a,o)
noncomputable def rest(g h:jC)(L d:yR):yD:=(zU7 g h L).filter λp=>decide (p.1≠d)
structure Mod(K:yQ)(mg:Str->yF)(base:jC):Prop where
 kin:K.In base
 glob:base.Ns y8 mg
 blt:∃mb,base.Ns mU mb/\∀x:Str,x ≠ "__name__"->mb x=jH x
 nolimit:base.NoLimit
structure Cx where
 prog:y7
 w:jD
 K:yQ
 mg:Str->yF
 base:jC
 A:jE
 N:yH
 s₀:yS
 H₀:Hp
 env:Env
 outer:List Env
 stack:List Env
 ex:yC
 fn:Str->Bool
 calm:Bool
 pn:yD
 xe:yL
noncomputable def frs(l:List Env):yC:=l.filterMap (·.frame)
noncomputable abbrev Cx.fs(X:Cx):yC:=frs X.outer
def Vis(sc:jS)(x:Str):Prop:=sc.names.lookup x=some .local∨sc.names.lookup x=some .cell∨sc.names.lookup x=some .free
def Loc(sc:jS)(x:Str):Prop:=sc.names.lookup x=some .local∨sc.names.lookup x=some .cell
def Look(env:Env)(h:jC)(m:Str->yF)(x:Str)(u:yU):Prop :=
 (env.kindOf x=some .local/\m x=some u)∨((env.kindOf x=some .cell∨env.kindOf x=some .free)/\∃c,env.cells.lookup x=some c/\h.IsCell c (some u))
structure Cx.Ok(X:Cx):Prop where
 mod:Mod X.K X.mg X.base
 kind:X.env.scope.kind=.function
 glob:X.env.globals=y8
 blt:X.env.builtins=mU
 above:X.s₀.heap.objs.size<=X.env.locals
 inj:∀x y c,X.env.cells.lookup x=some c->X.env.cells.lookup y=some c->x=y
 has:∀x,(X.env.kindOf x=some .cell∨X.env.kindOf x=some .free)->∃c,X.env.cells.lookup x=some c
 cab:∀x c,X.fn x=true->X.env.cells.lookup x=some c->X.s₀.heap.objs.size<=c
 hd:X.calm=true->X.A.handled=none
 frames:X.A.frames=some X.stack
 stk:X.stack=X.outer∨(X.stack=X.env::X.outer/\X.env.frame=some X.env.locals)
 exf:∀b∈X.ex,b≠X.env.locals/\∀x c,X.env.cells.lookup x=some c->c≠b
 bs:∀b o,X.base.get? b=some o->X.s₀.heap.get? b=some o/\X.H₀ b=none
 bsz:X.base.objs.size<=X.s₀.heap.objs.size
 noex:∀b o,X.base.get? b=some o->b∉X.ex
 exfs:∀b∈X.ex,b∉X.fs
 funs:X.s₀.heap.FunFrames X.base X.outer
 frf:∀b∈X.fs,X.H₀ b=none
structure Inv(X:Cx)(pins:yD)(Z:List (Option V))(H:Hp)(s:yS):Prop where
 ok:X.Ok
 os:s.os=X.s₀.os
 bare:fT s.gens
 base:Un X.fs X.ex X.H₀ H X.s₀.heap s.heap
 loc:∃m,s.heap.Ns X.env.locals m/\∀(i:Nat) (x:Str) (v:V),X.N[i]?=some x->Z[i]?=some (some v)->Vis X.env.scope x->∃u,RelV v u/\Look X.env s.heap m x u
 cell:∀x c,X.env.cells.lookup x=some c->∃v,s.heap.IsCell c v
 free:H X.env.locals=none
 freeC:∀x c,X.env.cells.lookup x=some c->H c=none
 pin:∀p∈X.pn++pins,s.heap.get? p.1=some p.2/\H p.1=none/\p.1≠X.env.locals/\p.1∉X.fs/\∀v,p.2.data≠.cell v
 hok:HOk X.prog X.w H s.heap
 len:Z.length=X.N.length
section
variable {X:Cx}{pins:yD}{Z:List (Option V)}{H H':Hp}{s:yS}{h':jC}
theorem Cx.Ok.nofr(ok:X.Ok){b:yR}{o:Obj}(e:X.base.get? b=some o):b∉X.fs:=λhb=>by have:=(ok.funs.mem hb).1;rw[e]at this;cases this
theorem Inv.bs(I:Inv X pins Z H s):∀b o,X.base.get? b=some o->s.heap.get? b=some o/\H b=none:=λb o e =>
 ⟨I.base.keep b o (I.ok.bs b o e).1 (I.ok.bs b o e).2 (I.ok.nofr e) (I.ok.noex b o e),I.base.free b o (I.ok.bs b o e).1 (I.ok.bs b o e).2 (I.ok.noex b o e)⟩
theorem Inv.bk(I:Inv X pins Z H s):∀b o,X.base.get? b=some o->s.heap.get? b=some o:=λb o e=>(I.bs b o e).1
theorem Inv.mod(I:Inv X pins Z H s):Mod X.K X.mg X.base:=I.ok.mod
theorem Inv.kIn(I:Inv X pins Z H s):X.K.In s.heap:=I.ok.mod.kin.keeps I.bk
theorem Inv.lt(I:Inv X pins Z H s):X.env.locals<s.heap.objs.size:=let ⟨_,hn,_⟩:=I.loc;hn.lt
theorem Inv.sz(I:Inv X pins Z H s):X.s₀.heap.objs.size<=s.heap.objs.size:=qD0 I.ok.above (qG3 I.lt)
theorem Inv.nofs(I:Inv X pins Z H s){a:yR}(h:s.heap.objs.size<=a):a∉X.fs:=λhb=>by obtain⟨_,o,ho,_⟩:=I.ok.funs.mem hb;exact absurd (qB2 (qB3 ho) (qD0 I.sz h)) (qH2 _)
theorem Inv.cne(I:Inv X pins Z H s):∀x c,X.env.cells.lookup x=some c->c≠X.env.locals:=λx c e z=>by obtain⟨v,o,ho,hd⟩:=I.cell x c e;obtain⟨m,⟨o',es,ep,ho',hd',_⟩,_⟩:=I.loc;rw[z,ho']at ho;cases ho;rw[hd']at hd;cases hd
theorem Inv.funs(I:Inv X pins Z H s):s.heap.FunFrames X.base X.outer:=by
 have all:∀(l:List Env),(∀b∈frs l,b∈X.fs)->X.s₀.heap.FunFrames X.base l->s.heap.FunFrames X.base l:=by
  intro l
  induction l with
  |nil=>intro _ _;trivial
  |cons env r ih =>
   intro hs hl;obtain⟨hk,⟨L,o,hf,hn,ho,hd⟩,hr⟩:=hl;have hL:L∈X.fs:=hs L (by unfold frs;rw[qG9,hf];exact qE8);obtain⟨sl,e⟩:=I.base.slot L o ho (I.ok.frf L hL) hL λz=>I.ok.exfs L z hL;exact⟨hk,⟨L,_,hf,hn,e,hd⟩,ih (λb hb=>hs b (by unfold frs;rw[qG9,hf];exact qC1 _ hb)) hr⟩
 exact all X.outer (λ_ hb=>hb) I.ok.funs
theorem Inv.stack(I:Inv X pins Z H s):s.heap.FunFrames X.base X.stack:=by
 rcases I.ok.stk with e|⟨e,hf⟩
 ·rw[e];exact I.funs
 ·rw[e];obtain⟨m,hn,_⟩:=I.loc;refine .cons (by rw[I.ok.kind];decide) hf hn ?_ I.funs;exact qL4 (qD0 I.ok.bsz I.ok.above)
theorem Inv.stkSub(I:Inv X pins Z H s):∀b∈frs X.stack,b∈X.env.locals::X.fs:=λb hb=>by
 rcases I.ok.stk with e|⟨e,hf⟩
 ·rw[e]at hb;exact qC1 _ hb
 ·rw[e]at hb;unfold frs at hb;rw[qG9,hf]at hb;exact hb
theorem Inv.stkFree(I:Inv X pins Z H s):∀b∈frs X.stack,H b=none:=λb hb=>by
 rcases qB0.mp (I.stkSub b hb)with e|hb
 ·rw[e];exact I.free
 ·obtain⟨_,o,ho,_⟩:=I.ok.funs.mem hb;exact I.base.free b o ho (I.ok.frf b hb) λz=>I.ok.exfs b z hb
theorem Inv.step{g':Array GenState}{t':Nat}{d':Drawn}{ch:yC}(I:Inv X pins Z H s)
  (hch:∀b∈ch,(b∈X.ex∨X.s₀.heap.objs.size<=b)/\b≠X.env.locals/\(∀x c,X.env.cells.lookup x=some c->c≠b)/\∀p∈X.pn++pins,p.1≠b)
  (keep:∀b o,b≠X.env.locals->b∉X.fs->b∉ch->s.heap.get? b=some o->H b=none->h'.get? b=some o)
  (slot:∀b o,b≠X.env.locals->b∈X.fs->b∉ch->s.heap.get? b=some o->H b=none->∃sl,h'.get? b=some { o with slots:=sl }) (free:∀b o,b∉ch->s.heap.get? b=some o->H b=none->H' b=none)
  (there:∀b o,b∉ch->s.heap.get? b=some o->∃o',h'.get? b=some o')
  (tups:∀b xs,H b=some (.tup xs)->H' b=some (.tup xs)) (frzs:∀b o u,H b=some (.frz o u)->H' b=some (.frz o u)) (tbls:∀b ps,H b=some (.tbl ps)->∃more,H' b=some (.tbl (ps++more)))
  (ns:∀m,s.heap.Ns X.env.locals m->h'.Ns X.env.locals m) (hok:HOk X.prog X.w H' h') (hg:fT g') :
  Inv X pins Z H' { s with heap:=h',gens:=g',drawn:=d',toks:=t' }:=by
 have neL:∀b o,X.s₀.heap.get? b=some o->b≠X.env.locals:=λb o e=>qC4 (qB2 (qB3 e) I.ok.above);have neC:∀b o,X.s₀.heap.get? b=some o->b∉X.ex->b∉ch:=λb o e hx hb=>by
  rcases(hch b hb).1 with z|z
  ·exact hx z
  ·exact absurd (qB2 (qB3 e) z) (qH2 _)
 have cellK:∀x c,X.env.cells.lookup x=some c->∀v,s.heap.IsCell c v->h'.IsCell c v:=λx c e v ⟨o,ho,hd⟩=>by
  have nch:c∉ch:=λz=>(hch c z).2.2.1 x c e rfl;by_cases hc:c∈X.fs
  ·obtain⟨sl,q⟩:=slot c o (I.cne x c e) hc nch ho (I.freeC x c e);exact⟨_,q,hd⟩
  ·exact⟨o,keep c o (I.cne x c e) hc nch ho (I.freeC x c e),hd⟩
 refine⟨I.ok,I.os,hg,⟨λb o e n hb hx=>?_,λb o e n hb hx=>?_,λb o e n hx=>?_,λb o e hx=>?_,λb xs e=>tups b xs (I.base.tups b xs e),λb o xs e=>frzs b o xs (I.base.frzs b o xs e),λb ps e=>?_⟩,?_,λx c e=>?_,?_,λx c e=>?_,λp hp=>?_,hok,I.len⟩
 ·exact keep b o (neL b o e) hb (neC b o e hx) (I.base.keep b o e n hb hx) (I.base.free b o e n hx)
 ·obtain⟨sl,e1⟩:=I.base.slot b o e n hb hx;obtain⟨sl',e2⟩:=slot b _ (neL b o e) hb (neC b o e hx) e1 (I.base.free b o e n hx);exact⟨sl',e2⟩
 ·obtain⟨o',e1⟩:=I.base.there b o e hx;exact free b o' (neC b o e hx) e1 (I.base.free b o e n hx)
 ·obtain⟨o',e1⟩:=I.base.there b o e hx;exact there b o' (neC b o e hx) e1
 ·obtain⟨m1,e1⟩:=I.base.tbls b ps e;obtain⟨m2,e2⟩:=tbls b _ e1;exact⟨m1++m2,by rw[e2,Array.append_assoc]⟩
 ·obtain⟨m,hn,hl⟩:=I.loc;refine⟨m,ns m hn,λi x v e1 e2 e3=>?_⟩;obtain⟨u,r,l⟩:=hl i x v e1 e2 e3;refine⟨u,r,?_⟩;rcases l with l|⟨k,c,e,z⟩
  ·exact .inl l
  ·exact .inr ⟨k,c,e,cellK x c e _ z⟩
 ·obtain⟨v,z⟩:=I.cell x c e;exact⟨v,cellK x c e v z⟩
 ·obtain⟨m,⟨o,_,_,ho,_⟩,_⟩:=I.loc;exact free _ o (λz=>(hch _ z).2.1 rfl) ho I.free
 ·obtain⟨v,o,ho,hd⟩:=I.cell x c e;exact free c o (λz=>(hch c z).2.2.1 x c e rfl) ho (I.freeC x c e)
 ·obtain⟨e,n,ne,nf,d⟩:=I.pin p hp;have nch:p.1∉ch:=λz=>(hch p.1 z).2.2.2 p hp rfl;exact⟨keep p.1 p.2 ne nf nch e n,free p.1 p.2 nch e n,ne,nf,d⟩
theorem Inv.un{t':Nat}(I:Inv X pins Z H s)(u:Un X.fs [] H H' s.heap h')(hok:HOk X.prog X.w H' h'):Inv X pins Z H' { s with heap:=h',toks:=t' }:=by
 obtain⟨m,⟨o,es,ep,ho,r⟩,_⟩:=id I.loc;obtain⟨sl,hL⟩:=u.any ho I.free (by simp);exact I.step (g':=s.gens) (d':=s.drawn) (ch:=[]) (λ_ z=>nomatch z) (λb o _ hb _ e n=>u.keep b o e n hb (by simp)) (λb o _ hb _ e n=>u.slot b o e n hb (by simp)) (λb o _ e n=>u.free b o e n (by simp)) (λb o _ e=>u.there b o e (by simp)) u.tups u.frzs u.tbls (λm' hm=>by
  obtain⟨o',es',ep',ho',r'⟩:=hm;rw[ho]at ho';cases ho';exact⟨_,es',ep',hL,r'⟩) hok I.bare
theorem Inv.call{g':Array GenState}{t':Nat}{d':Drawn}{ch:yC}(I:Inv X pins Z H s)(u:Un (frs X.stack) ch H H' s.heap h')(hok:HOk X.prog X.w H' h')(hg:fT g')
  (hch:∀b∈ch,(b∈X.ex∨X.s₀.heap.objs.size<=b)/\b≠X.env.locals/\(∀x c,X.env.cells.lookup x=some c->c≠b)/\∀p∈X.pn++pins,p.1≠b) :
  Inv X pins Z H' { s with heap:=h',gens:=g',drawn:=d',toks:=t' }:=by
 obtain⟨m,⟨o,es,ep,ho,r⟩,_⟩:=id I.loc;obtain⟨sl,hL⟩:=u.any ho I.free λz=>(hch _ z).2.1 rfl;exact I.step (ch:=ch) hch (λb o hL hb hc e n=>u.keep b o e n (λz=>(qB0.mp (I.stkSub b z)).elim hL hb) hc) (λb o _ _ hc e n=>u.any e n hc) (λb o hc e n=>u.free b o e n hc) (λb o hc e=>u.there b o e hc) u.tups u.frzs u.tbls (λm' hm=>by
  obtain⟨o',es',ep',ho',r'⟩:=hm;rw[ho]at ho';cases ho';exact⟨_,es',ep',hL,r'⟩) hok hg
theorem Inv.turned{t':Nat}{it:yR}(I:Inv X pins Z H s)(k:∀b o,b≠it->s.heap.get? b=some o->h'.get? b=some o)(hn:H it=none)(hL:it≠X.env.locals)
  (h1:it∈X.ex∨X.s₀.heap.objs.size<=it) (h2:∀x c,X.env.cells.lookup x=some c->c≠it) (h3:∀p∈X.pn++pins,p.1≠it):Inv X pins Z H { s with heap:=h',toks:=t' }:=by
 have nit:∀b u,H b=some u->b≠it:=λb u e z=>by rw[z,hn]at e;cases e
 refine I.step (g':=s.gens) (d':=s.drawn) (ch:=[it]) (λb hb=>?_) (λb o _ _ hc e _=>k b o (λz=>hc (by simp[z])) e) (λb o _ _ hc e _=>⟨o.slots,k b o (λz=>hc (by simp[z])) e⟩) (λ_ _ _ _ n=>n)
  (λb o hc e=>⟨o,k b o (λz=>hc (by simp[z])) e⟩) (λ_ _ e=>e) (λ_ _ _ e=>e) (λb ps e=>⟨#[],by rw[e];simp⟩) (λm hm=>?_) (λb u e=>?_) I.bare
 ·have e:b=it:=by simpa using hb
  subst e;exact⟨h1,hL,h2,h3⟩
 ·obtain⟨o,es,ep,ho,r⟩:=hm;exact⟨o,es,ep,k _ o (Ne.symm hL) ho,r⟩
 ·refine(I.hok b u e).stay (λc v hc q=>k c v ?_ q) (λ_ q=>q) λ_ _ q=>q;rcases hc with z|z
  ·rw[z];exact nit b u e
  ·exact nit c _ z
theorem Inv.tok(I:Inv X pins Z H s)(t:Nat):Inv X pins Z H { s with toks:=t }:=I.un (h':=s.heap) (t':=t) Un.refl I.hok
theorem Inv.kept{t':Nat}(I:Inv X pins Z H s)(k:∀b u,s.heap.get? b=some u->h'.get? b=some u):Inv X pins Z H { s with heap:=h',toks:=t' }:=I.un (Un.kept k) (I.hok.kept k)
theorem Inv.laid{a:yR}{o:HO}{t':Nat}(I:Inv X pins Z H s)(k:∀b u,s.heap.get? b=some u->h'.get? b=some u)(hp:s.heap.objs.size<=a)(new:zBL X.prog X.w (upd H a o) h' a o):
  Inv X pins Z (upd H a o) { s with heap:=h',toks:=t' }:=I.un (Un.laid k hp (I.hok.fresh hp)) (I.hok.laid k hp new)
theorem Inv.write{x e:yR}{o:HO}{t':Nat}(I:Inv X pins Z H s)(mu:Mut (H x))(he:e=x∨H e=some (.own x))(k:∀b u,b≠e->s.heap.get? b=some u->h'.get? b=some u)(heo:∃u,h'.get? e=some u)
  (new:zBL X.prog X.w (upd H x o) h' x o):Inv X pins Z (upd H x o) { s with heap:=h',toks:=t' }:=I.un (Un.write mu he k heo) (I.hok.write mu he k heo new)
theorem Inv.weak{Z':List (Option V)}(I:Inv X pins Z H s)(hl:Z'.length=Z.length)(w:∀(i:Nat) v,Z'[i]?=some (some v)->Z[i]?=some (some v)):Inv X pins Z' H s :=
 ⟨I.ok,I.os,I.bare,I.base,let ⟨m,hn,hl'⟩:=I.loc;⟨m,hn,λi x v e1 e2 e3=>hl' i x v e1 (w i v e2) e3⟩,I.cell,I.free,I.freeC,I.pin,I.hok,hl.trans I.len⟩
theorem Inv.pins_of{pins':yD}(I:Inv X pins Z H s)(h:∀p∈pins',s.heap.get? p.1=some p.2/\H p.1=none/\p.1≠X.env.locals/\p.1∉X.fs/\∀v,p.2.data≠.cell v):Inv X pins' Z H s :=
 ⟨I.ok,I.os,I.bare,I.base,I.loc,I.cell,I.free,I.freeC,λp hp=>(qB9.mp hp).elim (λz=>I.pin p (qE9 _ z)) (h p),I.hok,I.len⟩
theorem zHA{N:yH}(hN:N.Nodup){i j:Nat}{x:Str}(a:N[i]?=some x)(b:N[j]?=some x):i=j:=by obtain⟨h1,e1⟩:=qA3.mp a;obtain⟨h2,e2⟩:=qA3.mp b;exact(List.getElem_inj hN).mp (e1.trans e2.symm)
theorem zMY{M:mZ}{A:jE}{E:yL}{i:Nat}{x:Str}{v:V}{u:yU}{Q:Unit->yS->Prop}(I:Inv X pins Z H s)(hN:X.N.Nodup)(hi:X.N[i]?=some x)(hx:Loc X.env.scope x)(r:RelV v u)
  (h:∀s',Inv X pins (Z.set i (some v)) H s'->(∃a,qH0 a s.heap s'.heap/\(a=X.env.locals∨X.env.cells.lookup x=some a))->Q () s') (hf:X.fn x=true∨X.env.scope.names.lookup x=some .local:=by first|exact .inl rfl|exact .inr rfl|assumption):yX M A (storeName X.env x u) Q E s:=by
 obtain⟨m,hn,hl⟩:=id I.loc;have hcls:(X.env.scope.kind == .class||(X.env.scope.kind == .module&&X.env.locals != X.env.globals))=false:=by rw[I.ok.kind];rfl
 have hiZ:i<Z.length:=by rw[I.len];exact(qA3.mp hi).1
 have cne:=I.cne;have tracked:∀{a:yR}{h':jC},(∃o,s.heap.get? a=some o/\H a=none)->qH0 a s.heap h'->HOk X.prog X.w H h':=λ{a h'} ha hs b ob e=>by
  obtain⟨_,_,hfree⟩:=ha;refine(I.hok b ob e).stay (λc w' hc q=>(hs.2 c ?_).trans q) (λ_ q=>q) λ_ _ q=>q;rintro rfl;rcases hc with rfl|hc
  ·rw[hfree]at e;cases e
  ·rw[hfree]at hc;cases hc
 rcases hx with hk|hk
 ·refine wpAny_storeName_local hk hn (λh' hn' hs=>?_) hcls;obtain⟨oL,_,_,hoL,_⟩:=id hn;refine h _ ⟨I.ok,I.os,I.bare,⟨λb o e n hb hx=>?_,λb o e n hb hx=>?_,I.base.free,λb o e hx=>?_,I.base.tups,I.base.frzs,I.base.tbls⟩,⟨_,hn',λj y v' e1 e2 e3=>?_⟩,λy c e=>?_,I.free,I.freeC,λp hp=>?_,tracked ⟨oL,hoL,I.free⟩ hs,by simpa using I.len⟩ ⟨_,hs,.inl rfl⟩
  ·exact(hs.2 b (qC4 (qB2 (qB3 e) I.ok.above))).trans (I.base.keep b o e n hb hx)
  ·obtain⟨sl,e1⟩:=I.base.slot b o e n hb hx;exact⟨sl,(hs.2 b (qC4 (qB2 (qB3 e) I.ok.above))).trans e1⟩
  ·obtain⟨o',e1⟩:=I.base.there b o e hx;exact⟨o',(hs.2 b (qC4 (qB2 (qB3 e) I.ok.above))).trans e1⟩
  ·by_cases hj:j=i
   ·subst hj;rw[hi]at e1;cases e1;rw[qC8 hiZ]at e2;cases e2;exact⟨u,r,.inl ⟨hk,by simp⟩⟩
   ·rw[qD9 (Ne.symm hj)]at e2;obtain⟨u',r',q⟩:=hl j y v' e1 e2 e3;refine⟨u',r',?_⟩;rcases q with⟨k,e⟩| ⟨k,c,e,z⟩
    ·refine .inl ⟨k,?_⟩;have:y≠x:=λe=>hj (zHA hN e1 (e▸hi));simp[this,e]
    ·exact .inr ⟨k,c,e,z.sameBut hs (cne y c e)⟩
  ·obtain⟨w',z⟩:=I.cell y c e;exact⟨w',z.sameBut hs (cne y c e)⟩
  ·obtain⟨e,n,ne,nf,d⟩:=I.pin p hp;exact⟨(hs.2 p.1 ne).trans e,n,ne,nf,d⟩
 ·have hfn:X.fn x=true:=by
   rcases hf with z|z
   ·exact z
   ·rw[z]at hk;cases hk
  obtain⟨c,hc⟩:=I.ok.has x (.inl hk);obtain⟨w',z⟩:=I.cell x c hc;refine wpAny_storeName_cell I.ok.kind hk hc z (λh' hc' hs=>?_);obtain⟨oc,hoc,hocd⟩:=id z;refine h { s with heap:=h' } ⟨I.ok,I.os,I.bare,⟨λb o e n hb hx=>?_,λb o e n hb hx=>?_,I.base.free,λb o e hx=>?_,I.base.tups,I.base.frzs,I.base.tbls⟩,⟨m,hn.sameBut hs (Ne.symm (cne x c hc)),λj y v' e1 e2 e3=>?_⟩,λy c' e=>?_,I.free,I.freeC,λp hp=>?_,tracked ⟨oc,hoc,I.freeC x c hc⟩ hs,by simpa using I.len⟩ ⟨c,hs,.inr hc⟩
  ·exact(hs.2 b (qC4 (qB2 (qB3 e) (I.ok.cab x c hfn hc)))).trans (I.base.keep b o e n hb hx)
  ·obtain⟨sl,e1⟩:=I.base.slot b o e n hb hx;exact⟨sl,(hs.2 b (qC4 (qB2 (qB3 e) (I.ok.cab x c hfn hc)))).trans e1⟩
  ·obtain⟨o',e1⟩:=I.base.there b o e hx;exact⟨o',(hs.2 b (qC4 (qB2 (qB3 e) (I.ok.cab x c hfn hc)))).trans e1⟩
  ·by_cases hj:j=i
   ·subst hj;rw[hi]at e1;cases e1;rw[qC8 hiZ]at e2;cases e2;exact⟨u,r,.inr ⟨.inl hk,c,hc,hc'⟩⟩
   ·rw[qD9 (Ne.symm hj)]at e2;obtain⟨u',r',q⟩:=hl j y v' e1 e2 e3;refine⟨u',r',?_⟩;rcases q with q|⟨k,c',e,z'⟩
    ·exact .inl q
    ·refine .inr ⟨k,c',e,z'.sameBut hs ?_⟩;rintro rfl;exact hj (zHA hN e1 (I.ok.inj _ _ _ e hc▸hi))
  ·by_cases hcc:c'=c
   ·subst hcc;exact⟨_,hc'⟩
   ·obtain⟨w2,z2⟩:=I.cell y c' e;exact⟨w2,z2.sameBut hs hcc⟩
  ·obtain⟨e,n,ne,nf,d⟩:=I.pin p hp;refine⟨(hs.2 p.1 ?_).trans e,n,ne,nf,d⟩;intro q;rw[q,hoc]at e;have q':oc=p.2:=Option.some.inj e;exact d w' (by rw[<- q'];exact hocd)
theorem zKY{M:mZ}{A:jE}{E:yL}{i:Nat}{x:Str}{v:V}{u:yU}{Q:Unit->yS->Prop}(I:Inv X pins Z H s)(hN:X.N.Nodup)(hi:X.N[i]?=some x)(hx:Loc X.env.scope x)(r:RelV v u)
  (h:∀s',Inv X pins (Z.set i (some v)) H s'->Q () s') (hf:X.fn x=true∨X.env.scope.names.lookup x=some .local:=by first|exact .inl rfl|exact .inr rfl|assumption):yX M A (storeName X.env x u) Q E s :=
 zMY I hN hi hx r (λs' I' _=>h s' I') hf
theorem Inv.call'{s':yS}{ch:yC}(I:Inv X pins Z H s)(ho:s'.os=s.os)(u:Un (frs X.stack) ch H H' s.heap s'.heap)(hok:HOk X.prog X.w H' s'.heap)(hg:fT s'.gens)
  (hch:∀b∈ch,(b∈X.ex∨X.s₀.heap.objs.size<=b)/\b≠X.env.locals/\(∀x c,X.env.cells.lookup x=some c->c≠b)/\∀p∈X.pn++pins,p.1≠b):Inv X pins Z H' s':=by obtain⟨h',g',d',t',o'⟩:=s';have e:o'=s.os:=ho;subst e;exact I.call (g':=g') (t':=t') (d':=d') u hok hg hch
end
abbrev XK:=yU->Option yR->Hp->Prop
abbrev St:=List (Option V)
abbrev VK:=V->Hp->Prop
abbrev TE:=St->Hp->VK->Prop
abbrev TT:=St->Hp->(Bool->Hp->Prop)->Prop
abbrev TA:=St->Hp->(List V->Hp->Prop)->Prop
structure Ends where
 nx:St->Hp->Prop
 rt:VK
 bk:St->Hp->Prop:=λ_ _=>False
 ct:St->Hp->Prop:=λ_ _=>False
abbrev TS:=Ends->St->Hp->Prop
inductive EP(X:Cx)(pins:yD)(Z:St)(Q:VK)(u:yU)(s':yS):Prop
 |mk (v:V) (H':Hp) (I:Inv X pins Z H' s') (r:RelV v u) (q:Q v H')
inductive TP(X:Cx)(pins:yD)(Z:St)(Q:Bool->Hp->Prop)(b:Bool)(s':yS):Prop
 |mk (H':Hp) (I:Inv X pins Z H' s') (q:Q b H')
inductive AP(X:Cx)(pins:yD)(Z:St)(Q:List V->Hp->Prop)(us:yB)(s':yS):Prop
 |mk (vs:List V) (H':Hp) (I:Inv X pins Z H' s') (r:Vals vs us) (q:Q vs H')
def SP(X:Cx)(pins:yD)(D:Ends)(f:Flow)(s':yS):Prop :=
 match f with
 |.next=>∃Z' H',Inv X pins Z' H' s'/\D.nx Z' H'
 |.brk=>∃Z' H',Inv X pins Z' H' s'/\D.bk Z' H'
 |.cont=>∃Z' H',Inv X pins Z' H' s'/\D.ct Z' H'
 |.ret u=>∃v Z' H',Inv X pins Z' H' s'/\RelV v u/\D.rt v H'
def PE(X:Cx)(e:y4)(t:TE):Prop :=
 ∀(pins:yD) (s:yS) (Z:St) (H:Hp) (Q:VK),Inv X pins Z H s->t Z H Q->yX (yW X.prog X.w) X.A (vL e X.env) (EP X pins Z Q) X.xe s
def PT(X:Cx)(e:y4)(t:TT):Prop :=
 ∀(pins:yD) (s:yS) (Z:St) (H:Hp) (Q:Bool->Hp->Prop),Inv X pins Z H s->t Z H Q->yX (yW X.prog X.w) X.A (dJ e X.env (vL e X.env)) (TP X pins Z Q) X.xe s
def PW(X:Cx)(e:y4)(t:TT):Prop :=
 ∀(whole:Sem yU) (pins:yD) (s:yS) (Z:St) (H:Hp) (Q:Bool->Hp->Prop),Inv X pins Z H s->t Z H Q->yX (yW X.prog X.w) X.A (dJ e X.env whole) (TP X pins Z Q) X.xe s
theorem PW.pt{X:Cx}{e:y4}{t:TT}(h:PW X e t):PT X e t:=h _
def PA(X:Cx)(es:yE)(t:TA):Prop :=
 ∀(pos:Pos) (pins:yD) (s:yS) (Z:St) (H:Hp) (Q:List V->Hp->Prop),Inv X pins Z H s->t Z H Q->yX (yW X.prog X.w) X.A (spliced (wM pos (jF es X.env))) (AP X pins Z Q) X.xe s
def PS(X:Cx)(st:vI)(t:TS):Prop :=
 ∀(pins:yD) (s:yS) (Z:St) (H:Hp) (D:Ends),Inv X pins Z H s->t D Z H->yX (yW X.prog X.w) X.A (exec st X.env) (SP X pins D) X.xe s
def PSs(X:Cx)(st:List vI)(t:TS):Prop :=
 ∀(pins:yD) (s:yS) (Z:St) (H:Hp) (D:Ends),Inv X pins Z H s->t D Z H->yX (yW X.prog X.w) X.A (execs st X.env) (SP X pins D) X.xe s
theorem thn{α:Type}{t:Sem α}{Q Q':α->yS->Prop}{M:mZ}{A:jE}{E:yL}{s:yS}(h:yX M A t Q E s)(hQ:∀a s,Q a s->Q' a s):yX M A t Q' E s:=jK h hQ λ_ _ x=>x
section
variable {X:Cx}
def tVar(i:Nat):TE:=fun Z H Q=>∃v,Z[i]?=some (some v)/\Q v H
def tC(v:V):TE:=λ_ H Q=>Q v H
theorem zIU{i:Nat}{x:Str}{pos:Pos}(hN:X.N[i]?=some x)(hv:Vis X.env.scope x)(hd:nDb x:=by decide)(hcd:(x == ("__classdict__":Str))=false:=by decide):PE X (.Name x pos) (tVar i):=by
 intro pins s Z H Q I h;obtain⟨v,e,h⟩:=h;obtain⟨m,hn,hl⟩:=I.loc;obtain⟨u,r,l⟩:=hl i x v hN e hv;have fin:EP X pins Z Q u s:=⟨v,H,I,r,h⟩
 rcases l with⟨hk,hm⟩| ⟨hk,c,hc,hcell⟩
 ·exact wpAny_Name (wpAny_loadName_local I.ok.kind hk hn hm fin) hd
 ·rcases hk with hk|hk
  ·exact wpAny_Name (wpAny_loadName_cell I.ok.kind hk hc hcell fin) hd
  ·exact wpAny_Name (wpAny_loadName_free I.ok.kind hk hc hcell fin hcd) hd
theorem zVx{i j pos}:PE X (.Constant (.int i) j pos) (tC (.int i)):=λ_ _ _ H _ I h=>wpAny_Constant_int ⟨.int i,H,I.tok _,⟨_,rfl⟩,h⟩
theorem zYE{b j pos}:PE X (.Constant (.bool b) j pos) (tC (.bl b)):=λ_ _ _ H _ I h=>Constant_bool ⟨.bl b,H,I,rfl,h⟩
theorem zNt{j pos}:PE X (.Constant .none j pos) (tC .non):=λ_ _ _ H _ I h=>Constant_none ⟨.non,H,I,rfl,h⟩
theorem zRi{x j pos}:PE X (.Constant (.str x) j pos) (tC (.str x)):=λ_ _ _ H _ I h=>Calls.Constant_str ⟨.str x,H,I.tok _,⟨_,rfl⟩,h⟩
def Gl(X:Cx)(x:Str):Prop:=X.env.kindOf x=some .globalImplicit
theorem zDj{E:yL}{pins:yD}{s:yS}{Z:St}{H:Hp}{x:Str}{u:yU}{pos:Pos}{Q:yL}(I:Inv X pins Z H s)(hg:Gl X x)(hm:X.mg x=some u)(h:Q u s)
  (hd:nDb x:=by decide):yX (yW X.prog X.w) X.A (vL (.Name x pos) X.env) Q E s :=
 fX I.ok.kind hg (Calls.loadGlobal_global (by rw[I.ok.glob];exact I.mod.glob.keeps I.bk) hm h) hd
theorem zFC{E:yL}{pins:yD}{s:yS}{Z:St}{H:Hp}{x:Str}{u:yU}{pos:Pos}{Q:yL}(I:Inv X pins Z H s)(hg:Gl X x)(hm:X.mg x=none)(hv:jH x=some u)(h:Q u s)
  (hn:x ≠ "__name__":=by decide) (hd:nDb x:=by decide):yX (yW X.prog X.w) X.A (vL (.Name x pos) X.env) Q E s:=by obtain⟨mb,h1,h2⟩:=I.mod.blt;exact fX I.ok.kind hg (Calls.loadGlobal_builtin (by rw[I.ok.glob];exact I.mod.glob.keeps I.bk) hm (by rw[I.ok.blt];exact h1.keeps I.bk) ((h2 x hn).trans hv) h) hd
theorem zSQ{x:Str}{v:V}{u:yU}{pos:Pos}(hg:Gl X x)(hm:X.mg x=some u)(r:RelV v u)(hd:nDb x:=by decide):PE X (.Name x pos) (tC v) :=
 λ_ _ _ H _ I h=>zDj I hg hm ⟨v,H,I,r,h⟩ hd
theorem zNu{x:Str}{v:V}{u:yU}{pos:Pos}(hg:Gl X x)(hm:X.mg x=none)(hv:jH x=some u)(r:RelV v u)(hn:x ≠ "__name__":=by decide)(hd:nDb x:=by decide):PE X (.Name x pos) (tC v) :=
 λ_ _ _ H _ I h=>zFC I hg hm hv ⟨v,H,I,r,h⟩ hn hd
variable {a b:y4}{ta tb:TE}{pos:Pos}
variable {tA tB':TT}{rest:yE}
def tAnd(t u:TT):TT:=fun Z H Q=>t Z H λc H1=>if c=true then u Z H1 Q else Q false H1
def tOr(t u:TT):TT:=fun Z H Q=>t Z H λc H1=>if c=true then Q true H1 else u Z H1 Q
def tNot(t:TT):TT:=fun Z H Q=>t Z H λc H1=>Q (!c) H1
theorem zSE(ha:PT X a tA):PW X (.BoolOp .And [a] pos) tA:=by
 intro wh pins s Z H Q I h;refine isTrue_and (thn (ha pins s Z H Q I h) λc s1 e=>?_);cases c with
 |true=>exact isTrue_and_nil e
 |false=>exact e
theorem zVl(ha:PT X a tA):PW X (.BoolOp .Or [a] pos) tA:=by
 intro wh pins s Z H Q I h;refine isTrue_or (thn (ha pins s Z H Q I h) λc s1 e=>?_);cases c with
 |false=>exact isTrue_or_nil e
 |true=>exact e
theorem zVm(ha:PT X a tA)(hb:PW X (.BoolOp .And (b::rest) pos) tB'):PW X (.BoolOp .And (a::b::rest) pos) (tAnd tA tB'):=by
 intro wh pins s Z H Q I h;refine isTrue_and (thn (ha pins s Z H _ I h) λc s1 ⟨H1,I1,q1⟩=>?_);cases c with
 |true=>exact hb wh pins s1 Z H1 Q I1 q1
 |false=>exact⟨H1,I1,q1⟩
theorem zYy(ha:PT X a tA)(hb:PW X (.BoolOp .Or (b::rest) pos) tB'):PW X (.BoolOp .Or (a::b::rest) pos) (tOr tA tB'):=by
 intro wh pins s Z H Q I h;refine isTrue_or (thn (ha pins s Z H _ I h) λc s1 ⟨H1,I1,q1⟩=>?_);cases c with
 |true=>exact⟨H1,I1,q1⟩
 |false=>exact hb wh pins s1 Z H1 Q I1 q1
theorem zVn(ha:PT X a tA):PT X (.UnaryOp .Not a pos) (tNot tA):=by intro pins s Z H Q I h;exact isTrue_not (thn (ha pins s Z H (λc H1=>Q (!c) H1) I h) λc s' ⟨H',I',q⟩=>⟨H',I',q⟩)
def zYc(ta tb:TE):TE:=fun Z H Q=>ta Z H λx H1=>∃c,x=.bl c/\if c=true then tb Z H1 Q else Q (.bl false) H1
def tOrV(ta tb:TE):TE:=fun Z H Q=>ta Z H λx H1=>∃c,x=.bl c/\if c=true then Q (.bl true) H1 else tb Z H1 Q
def zY7(ta:TE):TE:=fun Z H Q=>ta Z H λx H1=>∃c,x=.bl c/\Q (.bl (!c)) H1
theorem zVt{op}{t:TE}(h:PE X a t):PE X (.BoolOp op [a] pos) t:=λpins s Z H Q I hw=>BoolOp_one (h pins s Z H Q I hw)
theorem zVz(ha:PE X a ta)(hb:PE X (.BoolOp .And (b::rest) pos) tb):PE X (.BoolOp .And (a::b::rest) pos) (zYc ta tb):=by
 intro pins s Z H Q I h;refine BoolOp_and (thn (ha pins s Z H _ I h) λv s1 ⟨x,H1,I1,r1,q1⟩=>?_);obtain⟨c,rfl,q1⟩:=q1;cases r1;refine j7 ?_;cases c with
 |true=>exact hb pins s1 Z H1 Q I1 q1
 |false=>exact⟨.bl false,H1,I1,rfl,q1⟩
theorem zYB(ha:PE X a ta)(hb:PE X (.BoolOp .Or (b::rest) pos) tb):PE X (.BoolOp .Or (a::b::rest) pos) (tOrV ta tb):=by
 intro pins s Z H Q I h;refine BoolOp_or (thn (ha pins s Z H _ I h) λv s1 ⟨x,H1,I1,r1,q1⟩=>?_);obtain⟨c,rfl,q1⟩:=q1;cases r1;refine j7 ?_;cases c with
 |false=>exact hb pins s1 Z H1 Q I1 q1
 |true=>exact⟨.bl true,H1,I1,rfl,q1⟩
theorem zVu(ha:PE X a ta):PE X (.UnaryOp .Not a pos) (zY7 ta):=by intro pins s Z H Q I h;refine UnaryOp_ (thn (ha pins s Z H _ I h) λv s1 ⟨x,H1,I1,r1,q1⟩=>?_);obtain⟨c,rfl,q1⟩:=q1;cases r1;exact not_of (j7 ⟨.bl (!c),H1,I1,rfl,q1⟩)
def tIf(t:TT)(ta tb:TE):TE:=fun Z H Q=>t Z H λc H1=>if c=true then ta Z H1 Q else tb Z H1 Q
theorem zL3{c:y4}(hc:PT X c tA)(ha:PE X a ta)(hb:PE X b tb):PE X (.IfExp c a b pos) (tIf tA ta tb):=by
 intro pins s Z H Q I h;refine wpAny_IfExp (thn (hc pins s Z H _ I h) λd s1 ⟨H1,I1,q1⟩=>?_);cases d with
 |true=>exact ha pins s1 Z H1 Q I1 q1
 |false=>exact hb pins s1 Z H1 Q I1 q1
end
def SqL(K:yQ)(H:Hp)(a:yR)(xs:List V):Prop :=
 Rd H a (.lst xs) ∨
  ∃(o:Obj) (its:yJ) (n:Nat),K.lookup a=some o/\o.cls=.type "list"/\o.dict=none/\o.data=.seq its n/\its.size<=jA/\Vals xs its.toList
def SqT(K:yQ)(H:Hp)(a:yR)(xs:List V):Prop :=
 Rd H a (.tup xs) ∨
  ∃(o:Obj) (its:yJ) (n:Nat),K.lookup a=some o/\o.cls=.type "tuple"/\o.data=.seq its n/\its.size<=jA/\Vals xs its.toList
noncomputable def absV:yU->Option V
 |.none=>some .non
 |.bool b=>some (.bl b)
 |.int i _=>some (.int i)
 |.str x _=>some (.str x)
 |.bytes b _=>some (.byt b)
 |.float b _=>some (.flt b)
 |.ref a=>some (.ref a)
 |.type n=>some (.ty n)
 |_=>none
theorem RelV.abs{x:V}{u:yU}(r:RelV x u):absV u=some x:=by
 cases x with
 |non=>cases r;rfl
 |bl _=>cases r;rfl
 |int _=>obtain⟨t,rfl⟩:=r;rfl
 |str _=>obtain⟨t,rfl⟩:=r;rfl
 |byt _=>obtain⟨t,rfl⟩:=r;rfl
 |flt _=>obtain⟨t,rfl⟩:=r;rfl
 |ref _=>cases r;rfl
 |ty _=>cases r;rfl
theorem RelV.inj{x y:V}{u:yU}(r:RelV x u)(q:RelV y u):x=y:=Option.some.inj (r.abs.symm.trans q.abs)
theorem Vals.inj:∀{xs ys:List V}{us:yB},Vals xs us->Vals ys us->xs=ys
 |_,_,_,.nil,.nil=>rfl
 |_,_,_,.cons r t,.cons r' t'=>by rw[r.inj r',Vals.inj t t']
section
variable {X:Cx}{pins:yD}{Z:St}{H:Hp}{s:yS}{a:yR}{xs ys:List V}
theorem SqL.of{K:yQ}(h:H a=some (.lst xs)):SqL K H a xs:=.inl (.inl h)
theorem SqT.of{K:yQ}(h:H a=some (.tup xs)):SqT K H a xs:=.inl (.inl h)
theorem Inv.list(I:Inv X pins Z H s)(h:SqL X.K H a xs):∃its:yB,Vals xs its/\PlainL s.heap a its.toArray/\xs.length<=sizeLine:=by
 rcases h with h|⟨o,its,n,hk,hc,hd,hs,hz,r⟩
 ·obtain⟨z,its,n,r,e⟩:=h.ok I.hok;exact⟨its,r,⟨_,n,e,rfl,rfl,rfl⟩,z⟩
 ·refine⟨its.toList,r,⟨o,n,I.kIn a o hk,hc,hd,by simpa using hs⟩,?_⟩;have e:=r.length;simp only[vT]at e;omega
theorem Inv.tuple(I:Inv X pins Z H s)(h:SqT X.K H a xs):∃its:yB,Vals xs its/\IsTup s.heap a its.toArray/\xs.length<=sizeLine:=by
 rcases h with h|⟨o,its,n,hk,hc,hs,hz,r⟩
 ·obtain⟨z,its,r,p⟩:=h.ok I.hok;exact⟨its,r,p,z⟩
 ·refine⟨its.toList,r,⟨o,I.kIn a o hk,hc,n,by simpa using hs⟩,?_⟩;have e:=r.length;simp only[vT]at e;omega
theorem Inv.list_inj(I:Inv X pins Z H s)(h:SqL X.K H a xs)(h':SqL X.K H a ys):xs=ys:=by
 obtain⟨its,r,⟨o,n,e,_,_,d⟩,_⟩:=I.list h;obtain⟨its',r',⟨o',n',e',_,_,d'⟩,_⟩:=I.list h';rw[e]at e';cases e';rw[d]at d';injection d' with d1 _;have:its=its':=by simpa using congrArg Array.toList d1
 subst this;exact r.inj r'
theorem Inv.tuple_inj(I:Inv X pins Z H s)(h:SqT X.K H a xs)(h':SqT X.K H a ys):xs=ys:=by
 obtain⟨its,r,⟨o,e,_,n,d⟩,_⟩:=I.tuple h;obtain⟨its',r',⟨o',e',_,n',d'⟩,_⟩:=I.tuple h';rw[e]at e';cases e';rw[d]at d';injection d' with d1 _;have:its=its':=by simpa using congrArg Array.toList d1
 subst this;exact r.inj r'
end
noncomputable abbrev Cx.wish(X:Cx)(E:yL):Cx:={ X with xe:=E }
noncomputable abbrev Cx.nox(X:Cx):Cx:=X.wish λ_ _=>False
theorem Cx.Ok.wish{X:Cx}(ok:X.Ok)(E:yL):(X.wish E).Ok :=
 ⟨ok.mod,ok.kind,ok.glob,ok.blt,ok.above,ok.inj,ok.has,ok.cab,ok.hd,ok.frames,ok.stk,ok.exf,ok.bs,ok.bsz,ok.noex,ok.exfs,ok.funs,ok.frf⟩
theorem Cx.Ok.unwish{X:Cx}{E:yL}(ok:(X.wish E).Ok):X.Ok :=
 ⟨ok.mod,ok.kind,ok.glob,ok.blt,ok.above,ok.inj,ok.has,ok.cab,ok.hd,ok.frames,ok.stk,ok.exf,ok.bs,ok.bsz,ok.noex,ok.exfs,ok.funs,ok.frf⟩
section
variable {X:Cx}{pins:yD}{Z:St}{H:Hp}{s:yS}{E:yL}
theorem Inv.wish(I:Inv X pins Z H s)(E:yL):Inv (X.wish E) pins Z H s:=⟨I.ok.wish E,I.os,I.bare,I.base,I.loc,I.cell,I.free,I.freeC,I.pin,I.hok,I.len⟩
theorem Inv.unwish(I:Inv (X.wish E) pins Z H s):Inv X pins Z H s:=⟨I.ok.unwish,I.os,I.bare,I.base,I.loc,I.cell,I.free,I.freeC,I.pin,I.hok,I.len⟩
end
section
variable {X:Cx}{st:vI}{rest:List vI}{t u:TS}{e:y4}{te:TE}{pos:Pos}
def zPs:TS:=λD Z H=>D.nx Z H
def tSeq(t u:TS):TS:=λD Z H=>t { D with nx:=u D } Z H
theorem zHy:PSs X [] zPs:=λ_ _ Z H _ I h=>vO ⟨Z,H,I,h⟩
theorem zCC(h1:PS X st t)(h2:PSs X rest u):PSs X (st::rest) (tSeq t u):=by
 intro pins s Z H D I h;refine gP (thn (h1 pins s Z H { D with nx:=u D } I h) λf s1 q=>?_);cases f with
 |next =>
  obtain⟨Z',H',I',q⟩:=q;exact h2 pins s1 Z' H' D I' q
 |ret v=>exact q
 |brk=>exact q
 |cont=>exact q
def zUx:TS:=λD Z H=>D.bk Z H
def zYa:TS:=λD Z H=>D.ct Z H
theorem zSL:PS X (.Pass pos) zPs:=λ_ _ Z H _ I h=>wpAny_Pass ⟨Z,H,I,h⟩
theorem zPQ:PS X (.Break pos) zUx:=λ_ _ Z H _ I h=>wpAny_Break ⟨Z,H,I,h⟩
theorem zK4:PS X (.Continue pos) zYa:=λ_ _ Z H _ I h=>wpAny_Continue ⟨Z,H,I,h⟩
theorem Inv.quiet{pins:yD}{Z:St}{H:Hp}{s:yS}(I:Inv X pins Z H s):interactive X.env=false:=by simp[interactive,I.ok.kind]
def zY8(te:TE):TS:=λD Z H=>te Z H λ_ H1=>D.nx Z H1
theorem zNk(he:PE X e te)(hs:wQ e none pos.line X.env=pure false:=by rfl):PS X (.Expr e pos) (zY8 te):=by intro pins s Z H D I h;exact lP (thn (he pins s Z H _ I h) λv s1 ⟨x,H1,I1,r1,q1⟩=>⟨Z,H1,I1,q1⟩) I.quiet hs
def tRet(te:TE):TS:=λD Z H=>te Z H D.rt
theorem zNj(he:PE X e te):PS X (.Return (some e) pos) (tRet te):=by intro pins s Z H D I h;exact wpAny_Return_some (thn (he pins s Z H _ I h) λv s1 ⟨x,H1,I1,r1,q1⟩=>⟨x,Z,H1,I1,r1,q1⟩)
def zY5:TS:=λD _ H=>D.rt .non H
theorem zSK:PS X (.Return none pos) zY5:=λ_ _ Z H _ I h=>wpAny_Return_none ⟨.non,Z,H,I,rfl,h⟩
def tIfS(c:TT)(t u:TS):TS:=λD Z H=>c Z H λb H1=>if b=true then t D Z H1 else u D Z H1
theorem zYz{c:y4}{a b:List vI}{tc:TT}(hc:PT X c tc)(ha:PSs X a t)(hb:PSs X b u):PS X (.If c a b pos) (tIfS tc t u):=by
 intro pins s Z H D I h;refine wpAny_If (thn (hc pins s Z H _ I h) λd s1 ⟨H1,I1,q1⟩=>?_);cases d with
 |true=>exact ha pins s1 Z H1 D I1 q1
 |false=>exact hb pins s1 Z H1 D I1 q1
def zUv:TS:=λ_ _ _=>False
theorem zPP:PS X st zUv:=λ_ _ _ _ _ _ h=>h.elim
end
abbrev TG:=V->St->Hp->(St->Hp->Prop)->Prop
abbrev TGs:=List V->St->Hp->(St->Hp->Prop)->Prop
def PG(X:Cx)(target:y4)(t:TG):Prop :=
 ∀(pins:yD) (s:yS) (Z:St) (H:Hp) (v:V) (u:yU) (Q:St->Hp->Prop),Inv X pins Z H s->RelV v u->t v Z H Q ->
  yX (yW X.prog X.w) X.A (fA target X.env u) (λ_ s'=>∃Z' H',Inv X pins Z' H' s'/\Q Z' H') X.xe s
def PGs(X:Cx)(ts:yE)(t:TGs):Prop :=
 ∀(pins:yD) (s:yS) (Z:St) (H:Hp) (vs:List V) (us:yB) (Q:St->Hp->Prop),Inv X pins Z H s->Vals vs us->t vs Z H Q ->
  yX (yW X.prog X.w) X.A (assignInOrder ((jQ ts X.env).map (·.2)) us) (λ_ s'=>∃Z' H',Inv X pins Z' H' s'/\Q Z' H') X.xe s
abbrev TSet:=V->V->V->Hp->(Hp->Prop)->Prop
def PSet(X:Cx)(t:TSet):Prop :=
 ∀(pins:yD) (s:yS) (Z:St) (H:Hp) (o i v:V) (ov iv u:yU) (Q:Hp->Prop),Inv X pins Z H s->RelV o ov->RelV i iv->RelV v u->t o i v H Q ->
  yX (yW X.prog X.w) X.A (dU ov iv u) (λ_ s'=>∃H',Inv X pins Z H' s'/\Q H') X.xe s
section
variable {X:Cx}{pos:Pos}
def zHU(i:Nat):TG:=λv Z H Q=>Q (Z.set i (some v)) H
theorem zDg{i:Nat}{x:Str}(hN:X.N.Nodup)(hi:X.N[i]?=some x)(hx:Loc X.env.scope x)(hf:X.fn x=true∨X.env.scope.names.lookup x=some .local:=by first|exact .inl rfl|exact .inr rfl|assumption):PG X (.Name x pos) (zHU i):=by intro pins s Z H v u Q I r h;exact wpAny_assign_Name (zKY I hN hi hx r (λs' I'=>⟨_,H,I',h⟩) hf)
def gNil:TGs:=λvs Z H Q=>vs=[]/\Q Z H
def zWK(t:TG)(u:TGs):TGs:=λvs Z H Q=>∃v r,vs=v::r/\t v Z H fun Z' H'=>u r Z' H' Q
theorem zNs:PGs X [] gNil:=by intro pins s Z H vs us Q I r h;obtain⟨e,h⟩:=h;subst e;cases r;exact assignInOrder_nil ⟨Z,H,I,h⟩
theorem zL2{e:y4}{es:yE}{t:TG}{u:TGs}(h1:PG X e t)(h2:PGs X es u)
  (hs:(jQ (e::es) X.env).map (·.2)=fA e X.env::(jQ es X.env).map (·.2):=by rfl):PGs X (e::es) (zWK t u):=by
 intro pins s Z H vs us Q I r h;obtain⟨v,vr,e1,h⟩:=h;subst e1;cases r with
 |cons r rr =>
  rw[hs];refine assignInOrder_cons (thn (h1 pins s Z H _ _ _ I r h) λ_ s1 ⟨Z1,H1,I1,q1⟩=>?_);exact h2 pins s1 Z1 H1 _ _ Q I1 rr q1
def gTup(K:yQ)(n:Nat)(t:TGs):TG:=λv Z H Q=>∃a xs,v=.ref a/\SqT K H a xs/\xs.length=n/\t xs Z H Q
theorem zRh{es:yE}{k:Nat}{t:TGs}{n:Nat}(hc:X.calm=true)(h:PGs X es t)
  (hn:(jQ es X.env).length=n:=by rfl) (hst:(jQ es X.env).findIdx? (·.1)=none:=by rfl):PG X (.Tuple es k pos) (gTup X.K n t):=by intro pins s Z H v u Q I r hw;obtain⟨a,xs,e1,hq,hl,hw⟩:=hw;subst e1;cases r;obtain⟨its,rv,ht,hz⟩:=I.tuple hq;refine assign_Tuple_tuple (I.ok.hd hc) ht (by simp[hn,<- hl,rv.length]) hst λh' hx=>?_;have I1:Inv X pins Z H { s with heap:=h' }:=I.kept (t':=s.toks) λb o e=>hx b o (qC4 (qB3 e)) e;exact h pins _ Z H xs _ Q I1 (by simpa using rv) hw
def gSub(to ti:TE)(t:TSet):TG:=λv Z H Q=>to Z H λo H1=>ti Z H1 λi H2=>t o i v H2 λH3=>Q Z H3
theorem zVr{o i:y4}{to ti:TE}{t:TSet}(ho:PE X o to)(hi:PE X i ti)(hs:PSet X t)
  (ha:∀v,fA (.Subscript o i pos) X.env v=(do
   let ov <- wI [v] (vL o X.env)
   let iv <- wI [v,ov] (vL i X.env)
   m5 pos
   wI [v,ov,iv] (dU ov iv v)
   release [v,ov,iv] []):=by intro _;rfl):PG X (.Subscript o i pos) (gSub to ti t):=by intro pins s Z H v u Q I r h;rw[ha];refine yO (jO (thn (ho pins s Z H _ I h) λov s1 ⟨x,H1,I1,r1,q1⟩=>?_));refine yO (jO (thn (hi pins s1 Z H1 _ I1 q1) λiv s2 ⟨y,H2,I2,r2,q2⟩=>?_));refine yO (mK (yO (jO (thn (hs pins s2 Z H2 x y v ov iv u _ I2 r1 r2 r q2) λ_ s3 ⟨H3,I3,q3⟩=>?_))));exact wpAny_release ⟨Z,H3,I3,q3⟩
def tAsg(te:TE)(g:TG):TS:=λD Z H=>te Z H λx H1=>g x Z H1 D.nx
theorem zH5{tg e:y4}{te:TE}{g:TG}(he:PE X e te)(hg:PG X tg g)(hs:mL [tg] e pos.line X.env=pure false:=by rfl)(hw:v9 [tg] e X.env=pure none:=by rfl)
  (h1:(jQ [tg] X.env).map (·.2)=[fA tg X.env]:=by rfl):PS X (.Assign [tg] e pos) (tAsg te g):=by intro pins s Z H D I h;refine wpAny_Assign_stores (thn (he pins s Z H _ I h) λv s1 ⟨x,H1,I1,r1,q1⟩=>?_) hs hw;rw[h1];exact thn (hg pins s1 Z H1 x v _ I1 r1 q1) λ_ s2 q=>q
end
section
variable {X:Cx}{pos:Pos}
def zUs(c:TT)(tb:TS):TS:=λD Z H=>∃W:Nat->St->Hp->Prop,(∃m,W m Z H)/\∀m Z H,W m Z H ->
 c Z H λb H1=>if b=true then ∃N:St->Hp->Prop,(∀Z' H',N Z' H'->∃m',m'<m/\W m' Z' H')/\tb { D with nx:=N,ct:=N,bk:=D.nx } Z H1 else D.nx Z H1
theorem zPM{c:y4}{body:List vI}{tc:TT}{tb:TS}(hp:gQ (yW X.prog X.w) X.A X.env X.xe)(hc:PT X c tc)(hb:PSs X body tb):PS X (.While c body [] pos) (zUs tc tb):=by
 intro pins s Z H D I h;obtain⟨W,⟨m0,w0⟩,turn⟩:=h;refine wpAny_While (codeAny_whileLoop (λn s'=>∃Z' H',Inv X pins Z' H' s'/\W n Z' H') ?_ m0 ⟨Z,H,I,w0⟩);rintro n s1 ⟨Z1,H1,I1,w1⟩;refine vP hp (thn (hc pins s1 Z1 H1 _ I1 (turn n Z1 H1 w1)) λb s2 ⟨H2,I2,q2⟩=>?_);cases b with
 |true =>
  obtain⟨N,hN,q2⟩:=q2;rw[if_pos rfl];refine vP hp (thn (hb pins s2 Z1 H2 _ I2 q2) λf s3 q3=>?_);cases f with
  |next =>
   obtain⟨Z3,H3,I3,n3⟩:=q3;obtain⟨m',hm,w3⟩:=hN Z3 H3 n3;exact⟨m',hm,Z3,H3,I3,w3⟩
  |cont =>
   obtain⟨Z3,H3,I3,n3⟩:=q3;obtain⟨m',hm,w3⟩:=hN Z3 H3 n3;exact⟨m',hm,Z3,H3,I3,w3⟩
  |brk=>exact q3
  |ret v=>exact q3
 |false =>
  rw[if_neg qA9];exact vO ⟨Z1,H2,I2,q2⟩
end
structure It where
 go:Nat->Hp->Prop
 yld:Nat->Hp->V->Hp->Prop
 stop:Nat->Hp->Prop
def FpOk(X:Cx)(pins:yD)(H:Hp)(b:yR):Prop :=
 H b=none/\b≠X.env.locals/\b∉X.fs/\(b∈X.ex∨X.s₀.heap.objs.size<=b)/\(∀x c,X.env.cells.lookup x=some c->c≠b)/\∀p∈X.pn++pins,p.1≠b
theorem Inv.fpOk{X:Cx}{pins:yD}{Z:St}{H H':Hp}{s:yS}{b:yR}(I:Inv X pins Z H s)(hb:s.heap.objs.size<=b)(hn:H' b=none):FpOk X pins H' b:=by
 refine⟨hn,qG4 (qB2 I.lt hb),I.nofs hb,.inr (qD0 I.sz hb),λx c e z=>?_,λp hp z=>?_⟩
 ·obtain⟨v,q⟩:=I.cell x c e;exact absurd (qB2 q.lt (by rw[z];exact hb)) (qH2 _)
 ·exact absurd (qB2 (qB3 (I.pin p hp).1) (by rw[z];exact hb)) (qH2 _)
structure Turn(P:y7)(w:jD)(K:yQ)(tg:y4)(JJ:It)(fp:yC)(it:yR)(tn:Nat->jC->Prop):Prop where
 mem:it∈fp
 obj:∀i h,tn i h->∀b∈fp,∃o,h.get? b=some o/\∀v,o.data≠.cell v
 keep:∀i h h',tn i h->(∀b∈fp,∀o,h.get? b=some o->h'.get? b=some o)->tn i h'
 item:∀(X:Cx),X.prog=P->X.w=w->X.K=K->X.calm=true->∀(i:Nat) (pins:yD) (s:yS) (Z:St) (H:Hp) (E:yL),Inv X pins Z H s->(∀b∈fp,FpOk X pins H b)->tn i s.heap->JJ.go i H ->
  yX (yW P w) X.A (gJ (.ref it)) (λr s1=>∃u,r=some u /\
   yX (yW P w) X.A (fM tg (.ref it) u) (λ_ s2=>∃x H',Inv X pins Z H' s2/\RelV x u/\JJ.yld i H x H'/\tn (i+1) s2.heap/\∀b∈fp,H' b=none) E s1) E s
 done:∀(X:Cx),X.prog=P->X.w=w->X.K=K->X.calm=true->∀(i:Nat) (pins:yD) (s:yS) (Z:St) (H:Hp) (E:yL),Inv X pins Z H s->(∀b∈fp,FpOk X pins H b)->tn i s.heap->JJ.stop i H ->
  yX (yW P w) X.A (gJ (.ref it)) (λr s1=>r=none/\Inv X pins Z H s1) E s
 self:∀(A:jE) (i:Nat) (s:yS) (Q:yL) (E:yL),tn i s.heap->Q (.ref it) s->yX (yW P w) A (pyIter (.ref it)) Q E s
abbrev TI:=St->Hp->(It->Hp->Prop)->Prop
inductive PIE(X:Cx)(pins:yD)(Z:St)(tg:y4)(R:It->Hp->Prop)(itv:yU)(s2:yS):Prop
 |mk (it:yR) (fp:yC) (tn:Nat->jC->Prop) (JJ:It) (H':Hp) (e:itv=.ref it) (I:Inv X pins Z H' s2) (T:Turn X.prog X.w X.K tg JJ fp it tn) (t0:tn 0 s2.heap) (f:∀b∈fp,FpOk X pins H' b) (r:R JJ H')
def PI(X:Cx)(tg iter:y4)(wi:TI):Prop :=
 ∀(pins:yD) (s:yS) (Z:St) (H:Hp) (R:It->Hp->Prop),Inv X pins Z H s->wi Z H R ->
  yX (yW X.prog X.w) X.A (vL iter X.env) (λv s1=>yX (yW X.prog X.w) X.A (pyIter v) (PIE X pins Z tg R) X.xe s1) X.xe s
theorem zQJ{M:mZ}{A:jE}{E:yL}{s:yS}{tg:y4}{it:yR}{u:yU}{o:Obj}{n:String}{vs:yJ}{Q:Unit->yS->Prop}(ho:s.heap.get? it=some o)(hc:o.cls=.type n)(hd:o.data=.fields vs)
    (hn:["enumerate","zip","dict_itemiterator","dict_reverseitemiterator","odict_iterator","itertools.zip_longest","itertools.pairwise"].contains n=false) (hQ:Q () s):yX M A (fM tg (.ref it) u) Q E s:=by
  unfold fM;cases tg<;>first
    |exact yP hQ
    | (cases u<;>first
        |exact yP hQ
        | (refine yO (wpAny_load ho ?_)
           rw[hc,hd];show yX M A (if(["enumerate","zip","dict_itemiterator","dict_reverseitemiterator","odict_iterator","itertools.zip_longest","itertools.pairwise"].contains n&&vs[0]? == some (j8 _))=true then _ else _) Q E s;rw[if_neg (by intro h;rw[hn,qO5]at h;cases h)];exact yP hQ))
noncomputable def Itl(K:yQ)(a:yR):It :=
 ⟨λi H=>∃xs x,SqL K H a xs/\xs[i]?=some x,λi H x H'=>H'=H/\∀xs,SqL K H a xs->xs[i]?=some x,λi H=>∃xs,SqL K H a xs/\xs.length<=i⟩
noncomputable def Itt(K:yQ)(a:yR):It :=
 ⟨λi H=>∃xs x,SqT K H a xs/\xs[i]?=some x,λi H x H'=>H'=H/\∀xs,SqT K H a xs->xs[i]?=some x,λi H=>∃xs,SqT K H a xs/\xs.length<=i⟩
noncomputable def Itr(lo:Int)(n:Nat):It:=⟨λi _=>i<n,λi H x H'=>H'=H/\x=.int (lo+i),λi _=>n<=i⟩
theorem zMJ{P:y7}{w:jD}{K:yQ}{tg:y4}(a it:yR):Turn P w K tg (Itl K a) [it] it (λi h=>h.IsListIter it a i) where
 mem:=by simp
 obj:=λi h st b hb=>by
  have e:b=it:=by simpa using hb
  subst e;obtain⟨o,e,c,d⟩:=st;exact⟨o,e,λv z=>by rw[d]at z;cases z⟩
 keep:=λi h h' st k=>st.at λo e=>k it (by simp) o e
 item:=by intro X hP hw hK hc i pins s Z H E I hf st hg;subst hP hw hK;obtain⟨xs,x,hq,hx⟩:=hg;obtain⟨its,rv,p,hz⟩:=I.list hq;obtain⟨u,hu,ru⟩:=rv.get hx;obtain⟨f0,f1,f2,f3,f4,f5⟩:=hf it (by simp);refine lB st p.isList (x:=u) (by simpa using hu) λh' st' sb=>?_;have I1:Inv X pins Z H { s with heap:=h' }:=I.turned (t':=s.toks) (λb o hb e=>(sb.2 b hb).trans e) f0 f1 f3 f4 f5;obtain⟨o,e,c,d⟩:=id st';exact⟨u,rfl,zQJ (s:={ s with heap:=h' }) e c d (by decide) ⟨x,H,I1,ru,⟨rfl,λys hy=>by rw[I.list_inj hy hq];exact hx⟩,st',λb hb=>(hf b hb).1⟩⟩
 done:=by intro X hP hw hK hc i pins s Z H E I hf st hg;subst hP hw hK;obtain⟨xs,hq,hx⟩:=hg;obtain⟨its,rv,p,hz⟩:=I.list hq;obtain⟨f0,f1,f2,f3,f4,f5⟩:=hf it (by simp);have hl:=rv.length;exact lJ (I.ok.hd hc) st p.isList (by simp;omega) λh' eb=>⟨rfl,I.turned (t':=s.toks) (λb o hb e=>eb b o hb e) f0 f1 f3 f4 f5⟩
 self:=λ_ _ _ _ _ st h=>wpAny_pyIter_listiter st h
theorem zLO{P:y7}{w:jD}{K:yQ}{tg:y4}(a it:yR):Turn P w K tg (Itt K a) [it] it (λi h=>h.IsTupleIter it a i) where
 mem:=by simp
 obj:=λi h st b hb=>by
  have e:b=it:=by simpa using hb
  subst e;obtain⟨o,e,c,d⟩:=st;exact⟨o,e,λv z=>by rw[d]at z;cases z⟩
 keep:=λi h h' st k=>st.at λo e=>k it (by simp) o e
 item:=by intro X hP hw hK hc i pins s Z H E I hf st hg;subst hP hw hK;obtain⟨xs,x,hq,hx⟩:=hg;obtain⟨its,rv,p,hz⟩:=I.tuple hq;obtain⟨u,hu,ru⟩:=rv.get hx;obtain⟨f0,f1,f2,f3,f4,f5⟩:=hf it (by simp);refine wpAny_pyNext_tuple_item st (show s.heap.IsTuple a its.toArray from p) (x:=u) (by simpa using hu) λh' st' sb=>?_;have I1:Inv X pins Z H { s with heap:=h' }:=I.turned (t':=s.toks) (λb o hb e=>(sb.2 b hb).trans e) f0 f1 f3 f4 f5;obtain⟨o,e,c,d⟩:=id st';exact⟨u,rfl,zQJ (s:={ s with heap:=h' }) e c d (by decide) ⟨x,H,I1,ru,⟨rfl,λys hy=>by rw[I.tuple_inj hy hq];exact hx⟩,st',λb hb=>(hf b hb).1⟩⟩
 done:=by intro X hP hw hK hc i pins s Z H E I hf st hg;subst hP hw hK;obtain⟨xs,hq,hx⟩:=hg;obtain⟨its,rv,p,hz⟩:=I.tuple hq;obtain⟨f0,f1,f2,f3,f4,f5⟩:=hf it (by simp);have hl:=rv.length;exact wpAny_pyNext_tuple_end (I.ok.hd hc) st (show s.heap.IsTuple a its.toArray from p) (by simp;omega) λh' eb=>⟨rfl,I.turned (t':=s.toks) (λb o hb e=>eb b o hb e) f0 f1 f3 f4 f5⟩
 self:=λ_ _ _ _ _ st h=>wpAny_pyIter_tupleiter st h
theorem zLP{P:y7}{w:jD}{K:PySem.W.Frag}{tg:y4}(it:yR)(lo:Int)(n:Nat):Turn P w K tg (Itr lo n) [it] it (λi h=>IsRangeIter h it (lo+(i:Nat)*1) ((n:Int) - (i:Nat)) 1) where
 mem:=by simp
 obj:=λi h st b hb=>by
  have e:b=it:=by simpa using hb
  subst e;exact⟨_,st,λv z=>by
   have z':Data.fields _=Data.cell v:=z;cases z'⟩
 keep:=λi h h' st k=>k it (by simp) _ st
 item:=by intro X hP hw hK hc i pins s Z H E I hf st hg;subst hP hw hK;obtain⟨f0,f1,f2,f3,f4,f5⟩:=hf it (by simp);have W:=Walks.range (prog:=X.prog) (w:=X.w) (I.ok.hd hc) it lo 1 n;refine W.item i s _ _ hg st λv h' tk hv st' kk=>?_;obtain⟨t,rfl⟩:=hv;have I1:Inv X pins Z H { s with heap:=h',toks:=tk }:=I.turned (λb o hb e=>kk b o (by simpa using hb) e) f0 f1 f3 f4 f5;refine⟨_,rfl,zQJ (s:={ s with heap:=h',toks:=tk }) (n := "range_iterator") st' rfl rfl (by decide) ⟨.int (lo+i),H,I1,⟨t,?_⟩,⟨rfl,rfl⟩,st',λb hb=>(hf b hb).1⟩⟩;rw[Int.mul_one]
 done:=by intro X hP hw hK hc i pins s Z H E I hf st hg;subst hP hw hK;obtain⟨f0,f1,f2,f3,f4,f5⟩:=hf it (by simp);exact wpAny_pyNext_range_end (I.ok.hd hc) st (by have:n<=i:=hg;omega) λh' eb=>⟨rfl,I.turned (t':=s.toks) (λb o hb e=>eb b o hb e) f0 f1 f3 f4 f5⟩
 self:=λ_ _ _ _ _ st h=>wpAny_pyIter_rangeiter st h
section
variable {X:Cx}{tg:y4}
theorem zL0{pins:yD}{Z:St}{H:Hp}{s:yS}{R:It->Hp->Prop}{E:yL}{lo hi:Int}{t u v:Tok}{tk:Nat}(I:Inv X pins Z H s)(h1:-(2 ^ 62)<=lo)(h2:lo<2 ^ 62)(h3:-(2 ^ 62)<=hi)(h4:hi<2 ^ 62)
  (q:R (Itr lo (hi - lo).toNat) H):yX (yW X.prog X.w) X.A (pyIter (.ref s.heap.objs.size)) (PIE X pins Z tg R) E { s with heap:=s.heap.push { cls:=.type "range",data:=.fields #[.int lo t,.int hi u,.int 1 v] },toks:=tk }:=by
 refine wpAny_pyIter_range (IsRange.new ..) (small_one h1 h2 h3 h4) ?_;have I1:Inv X pins Z H { s with heap:=s.heap.push { cls:=.type "range",data:=.fields #[.int lo t,.int hi u,.int 1 v] },toks:=tk }:=I.kept λb o e=>qA5 _ e;refine⟨(s.heap.push { cls:=.type "range",data:=.fields #[.int lo t,.int hi u,.int 1 v] }).objs.size,[(s.heap.push { cls:=.type "range",data:=.fields #[.int lo t,.int hi u,.int 1 v] }).objs.size],_,_,H,rfl,
  I1.kept (t':=tk) λb o e=>qA5 _ e,zLP _ lo (hi - lo).toNat,?_,λb hb=>?_,q⟩
 ·have e1:lo+((0:Nat):Int)*1=lo:=by simp
  have e2:(((hi - lo).toNat:Nat):Int) - ((0:Nat):Int)=Builtin.Range.rangeSize lo hi 1:=by rw[rangeSize_one];split<;>omega
  show IsRangeIter _ _ (lo+((0:Nat):Int)*1) ((((hi - lo).toNat:Nat):Int) - ((0:Nat):Int)) 1;rw[e1,e2];exact qB4 _ rfl
 ·have e:b=(s.heap.push { cls:=.type "range",data:=.fields #[.int lo t,.int hi u,.int 1 v] }).objs.size:=by simpa using hb
  subst e;exact I1.fpOk (qA6 _) (I1.hok.fresh (qA6 _))
def zWD(ta:TA):TI:=fun Z H R=>ta Z H λvs H1=>∃j:Int,vs=[.int j]/\-(2 ^ 62)<=j/\j<2 ^ 62/\R (Itr 0 j.toNat) H1
def zWC(ta:TA):TI:=fun Z H R=>ta Z H λvs H1=>∃i j:Int,vs=[.int i,.int j]/\(-(2 ^ 62)<=i/\i<2 ^ 62/\-(2 ^ 62)<=j/\j<2 ^ 62)/\R (Itr i (j - i).toNat) H1
theorem zNr{a:y4}{ta:TA}{p pos:Pos}(hg:Gl X "range")(hm:X.mg "range"=none)(ha:PA X [a] ta)(hs:jF [a] X.env=[(false,vL a X.env)]:=by rfl):PI X tg (.Call (.Name "range" p) [a] [] pos) (zWD ta):=by
 intro pins s Z H R I h;refine Call_ (zFC I hg hm boot_range (j6 (thn (ha pos pins s Z H _ I h) λus s1 ⟨vs,H1,I1,r1,q1⟩=>?_) hs rfl));obtain⟨j,e,q1,q2,q⟩:=q1;subst e;cases r1 with
 |cons r rr =>
  cases rr;obtain⟨t,rfl⟩:=r;exact call_range_1 (zL0 I1 (by omega) (by omega) q1 q2 (by simpa using q))
theorem zNq{a b:y4}{ta:TA}{p pos:Pos}(hg:Gl X "range")(hm:X.mg "range"=none)(ha:PA X [a,b] ta)(hs:jF [a,b] X.env=[(false,vL a X.env),(false,vL b X.env)]:=by rfl)(hs2:jF [b] X.env=[(false,vL b X.env)]:=by rfl):
  PI X tg (.Call (.Name "range" p) [a,b] [] pos) (zWC ta):=by
 intro pins s Z H R I h;refine Call_ (zFC I hg hm boot_range (j6 (thn (ha pos pins s Z H _ I h) λus s1 ⟨vs,H1,I1,r1,q1⟩=>?_) (by rw[hs,hs2]) (by rw[hs2];rfl)));obtain⟨i,j,e,⟨q1,q2,q3,q4⟩,q⟩:=q1;subst e;cases r1 with
 |cons r rr =>
  cases rr with
  |cons r' rr =>
   cases rr;obtain⟨t,rfl⟩:=r;obtain⟨t',rfl⟩:=r';exact call_range_2 (zL0 I1 q1 q2 q3 q4 q)
def tFor(wi:TI)(g:TG)(tb:TS):TS:=λD Z H=>wi Z H λJJ H1=>∃W:Nat->Nat->St->Hp->Prop,(∃m,W 0 m Z H1)/\∀i m Z H,W i m Z H ->
 (JJ.stop i H/\D.nx Z H)∨(JJ.go i H/\∃N:St->Hp->Prop,(∀Z' H',N Z' H'->∃m',m'<m/\W (i+1) m' Z' H')/\∀x H',JJ.yld i H x H'->g x Z H' fun Z2 H2=>tb { D with nx:=N,ct:=N,bk:=D.nx } Z2 H2)
noncomputable def zIS(fp:yC)(h:jC):yD:=fp.filterMap λb=>(h.get? b).map λo=>(b,o)
theorem zCQ{fp:yC}{h:jC}{b:yR}{o:Obj}(hb:b∈fp)(e:h.get? b=some o):(b,o)∈zIS fp h:=qP4.mpr ⟨b,hb,by rw[e];rfl⟩
theorem zNE{fp:yC}{h:jC}{p:yR×Obj}(hp:p∈zIS fp h):p.1∈fp/\h.get? p.1=some p.2:=by
 obtain⟨b,hb,e⟩:=qP4.mp hp;cases q:h.get? b with
 |none=>rw[q]at e;cases e
 |some o =>
  rw[q]at e;have e':(b,o)=p:=Option.some.inj e;subst e';exact⟨hb,q⟩
theorem Inv.pinned{pins:yD}{Z:St}{H:Hp}{s:yS}{fp:yC}(I:Inv X pins Z H s)(hf:∀b∈fp,FpOk X pins H b)(ho:∀b∈fp,∃o,s.heap.get? b=some o/\∀v,o.data≠.cell v):Inv X (pins++zIS fp s.heap) Z H s :=
 I.pins_of λp hp=>(qB9.mp hp).elim (λz=>I.pin p (qC6 _ z)) λz=>by obtain⟨hb,e⟩:=zNE z;obtain⟨f0,f1,f2,_⟩:=hf p.1 hb;obtain⟨o,e',d⟩:=ho p.1 hb;rw[e]at e';cases e';exact⟨e,f0,f1,f2,d⟩
theorem Inv.unpinned{pins pl:yD}{Z:St}{H:Hp}{s:yS}(I:Inv X (pins++pl) Z H s):Inv X pins Z H s:=I.pins_of λp hp=>I.pin p (qC6 _ (qE9 _ hp))
theorem zVo{iter:y4}{body:List vI}{wi:TI}{g:TG}{tb:TS}{pos:Pos}(hp:gQ (yW X.prog X.w) X.A X.env X.xe)(hc:X.calm=true)(hi:PI X tg iter wi)(hg:PG X tg g)(hb:PSs X body tb)
  (hs:∀x,wB iter X.env x=pure x:=by intro _;rfl):PS X (.For tg iter body [] pos) (tFor wi g tb):=by
 intro pins s Z H D I h;refine wpAny_For (thn (hi pins s Z H _ I h) λv s1 h1=>thn h1 λitv s2 h2=>?_) hs;obtain⟨it,fp,tn,JJ,H2,e,I2,T,st2,f2,W,⟨m0,w0⟩,turn⟩:=h2;subst e;have stat:∀{H':Hp},(∀b∈fp,H' b=none)->∀b∈fp,FpOk X pins H' b:=λhn b hb=>⟨hn b hb,(f2 b hb).2⟩
 refine codeAny_forLoop_any (λn s'=>∃i Z' H',Inv X pins Z' H' s'/\tn i s'.heap/\(∀b∈fp,H' b=none)/\W i n Z' H') ?_ m0 ⟨0,Z,H2,I2,st2,λb hb=>(f2 b hb).1,w0⟩;rintro n s3 ⟨i,Z3,H3,I3,st3,fr3,w3⟩;rcases turn i n Z3 H3 w3 with⟨stop,qn⟩| ⟨go,N,hN,step⟩
 ·refine vP hp (thn (T.done X rfl rfl rfl hc i pins s3 Z3 H3 X.xe I3 (stat fr3) st3 stop) λr s4 ⟨hr,I4⟩=>?_);subst hr;exact vO ⟨Z3,H3,I4,qn⟩
 ·refine vP hp (thn (T.item X rfl rfl rfl hc i pins s3 Z3 H3 X.xe I3 (stat fr3) st3 go) λr s4 ⟨u,hr,h4⟩=>?_);subst hr;refine vP hp (thn h4 λ_ s5 ⟨x,H5,I5,r5,y5,st5,fr5⟩=>?_);have I5':=I5.pinned (stat fr5) (T.obj _ _ st5);refine vP hp (thn (hg _ s5 Z3 H5 x u _ I5' r5 (step x H5 y5)) λ_ s6 ⟨Z6,H6,I6,q6⟩=>?_);refine vP hp (thn (hb _ s6 Z6 H6 _ I6 q6) λf s7 q7=>?_);have again:∀{Z7:St}{H7:Hp},Inv X (pins++zIS fp s5.heap) Z7 H7 s7->N Z7 H7->∃m,m<n/\∃i Z' H',Inv X pins Z' H' s7/\tn i s7.heap/\(∀b∈fp,H' b=none)/\W i m Z' H':=λ{Z7 H7} I7 n7=>by obtain⟨m',hm,w7⟩:=hN Z7 H7 n7;refine⟨m',hm,i+1,Z7,H7,I7.unpinned,T.keep _ _ _ st5 λb hb o e=>(I7.pin (b,o) (qC6 _ (qC6 _ (zCQ hb e)))).1,λb hb=>?_,w7⟩;obtain⟨o,e,d⟩:=T.obj _ _ st5 b hb;exact(I7.pin (b,o) (qC6 _ (qC6 _ (zCQ hb e)))).2.1
  cases f with
  |next=>obtain⟨Z7,H7,I7,n7⟩:=q7;exact again I7 n7
  |cont=>obtain⟨Z7,H7,I7,n7⟩:=q7;exact again I7 n7
  |brk=>obtain⟨Z7,H7,I7,q7⟩:=q7;exact⟨Z7,H7,I7.unpinned,q7⟩
  |ret v=>obtain⟨x7,Z7,H7,I7,r7,q7⟩:=q7;exact⟨x7,Z7,H7,I7.unpinned,r7,q7⟩
end
abbrev R2:=V->V->Hp->VK->Prop
def OpR(X:Cx)(f:yU->yU->Sem yU)(r:R2):Prop :=
 ∀(pins:yD) (s:yS) (Z:St) (H:Hp) (x y:V) (v u:yU) (Q:VK),Inv X pins Z H s->RelV x v->RelV y u->r x y H Q ->
  yX (yW X.prog X.w) X.A (f v u) (EP X pins Z Q) X.xe s
def UnR(X:Cx)(f:yU->Sem yU)(r:V->Hp->VK->Prop):Prop :=
 ∀(pins:yD) (s:yS) (Z:St) (H:Hp) (x:V) (v:yU) (Q:VK),Inv X pins Z H s->RelV x v->r x H Q ->
  yX (yW X.prog X.w) X.A (f v) (EP X pins Z Q) X.xe s
def zBN(X:Cx)(f:yU)(r:List V->Hp->VK->Prop):Prop :=
 ∀(pins:yD) (s:yS) (Z:St) (H:Hp) (xs:List V) (us:yB) (Q:VK),Inv X pins Z H s->Vals xs us->r xs H Q ->
  yX (yW X.prog X.w) X.A (call f us) (EP X pins Z Q) X.xe s
def TruR(X:Cx)(r:V->Hp->(Bool->Hp->Prop)->Prop):Prop :=
 ∀(pins:yD) (s:yS) (Z:St) (H:Hp) (x:V) (v:yU) (Q:Bool->Hp->Prop),Inv X pins Z H s->RelV x v->r x H Q ->
  yX (yW X.prog X.w) X.A (truthy v) (TP X pins Z Q) X.xe s
def tOp(r:R2)(ta tb:TE):TE:=fun Z H Q=>ta Z H λx H1=>tb Z H1 λy H2=>r x y H2 Q
def tUn(r:V->Hp->VK->Prop)(ta:TE):TE:=fun Z H Q=>ta Z H λx H1=>r x H1 Q
def rI(C:Int->Int->Prop)(g:Int->Int->V):R2:=λx y H Q=>∃i j,x=.int i/\y=.int j/\C i j/\Q (g i j) H
def rI0(g:Int->Int->V):R2:=λx y H Q=>∃i j,x=.int i/\y=.int j/\Q (g i j) H
def rU(g:Int->V):V->Hp->VK->Prop:=λx H Q=>∃i,x=.int i/\Q (g i) H
section
variable {X:Cx}{a b c:y4}{ta tb tc:TE}{pos:Pos}
theorem binT(ha:PE X a ta)(hb:PE X b tb){pins:yD}{s:yS}{Z:St}{H:Hp}{R:V->V->Hp->Prop}(I:Inv X pins Z H s)
  (h:ta Z H λx H1=>tb Z H1 λy H2=>R x y H2) {Q:yL}{f:yU->yU->Sem yU}
  (hf:∀v u s2 x y H2,Inv X pins Z H2 s2->RelV x v->RelV y u->R x y H2->yX (yW X.prog X.w) X.A (f v u) Q X.xe s2) :
  yX (yW X.prog X.w) X.A (vL a X.env) (λv s₁=>yX (yW X.prog X.w) X.A (vL b X.env) (λu s₂=>yX (yW X.prog X.w) X.A (f v u) Q X.xe s₂) X.xe s₁) X.xe s:=by refine thn (ha pins s Z H _ I h) λv s1 ⟨x,H1,I1,r1,q1⟩=>?_;refine thn (hb pins s1 Z H1 _ I1 q1) λu s2 ⟨y,H2,I2,r2,q2⟩=>?_;exact hf v u s2 x y H2 I2 r1 r2 q2
theorem zYC{op:m6}{r:R2}(ho:OpR X (jJ op) r)(ha:PE X a ta)(hb:PE X b tb):PE X (.BinOp a op b pos) (tOp r ta tb):=by intro pins s Z H Q I h;exact wpAny_BinOp (binT ha hb I h λv u s2 x y H2 I2 rx ry q=>ho pins s2 Z H2 x y v u Q I2 rx ry q)
theorem zYA{op:UnaryOp}{r:V->Hp->VK->Prop}(ho:UnR X (unaryOp op) r)(ha:PE X a ta):PE X (.UnaryOp op a pos) (tUn r ta):=by intro pins s Z H Q I h;exact UnaryOp_ (thn (ha pins s Z H _ I h) λv s1 ⟨x,H1,I1,r1,q1⟩=>ho pins s1 Z H1 x v Q I1 r1 q1)
theorem opI{f:yU->yU->Sem yU}{C:Int->Int->Prop}{g:Int->Int->Int}
  (rule:∀(i j:Int) (t u:Tok) (s:yS) (Q:yL) (E:yL),C i j->Q (.int (g i j) s.toks) { s with toks:=s.toks+1 }->yX (yW X.prog X.w) X.A (f (.int i t) (.int j u)) Q E s) :
  OpR X f (rI C λi j=>.int (g i j)):=by intro pins s Z H x y v u Q I rx ry h;obtain⟨i,j,rfl,rfl,hc,q⟩:=h;obtain⟨t,rfl⟩:=rx;obtain⟨t',rfl⟩:=ry;exact rule i j t t' s _ _ hc ⟨.int (g i j),H,I.tok _,⟨_,rfl⟩,q⟩
theorem opI0{f:yU->yU->Sem yU}{g:Int->Int->Int}
  (rule:∀(i j:Int) (t u:Tok) (s:yS) (Q:yL) (E:yL),Q (.int (g i j) s.toks) { s with toks:=s.toks+1 }->yX (yW X.prog X.w) X.A (f (.int i t) (.int j u)) Q E s) :
  OpR X f (rI0 λi j=>.int (g i j)):=by intro pins s Z H x y v u Q I rx ry h;obtain⟨i,j,rfl,rfl,q⟩:=h;obtain⟨t,rfl⟩:=rx;obtain⟨t',rfl⟩:=ry;exact rule i j t t' s _ _ ⟨.int (g i j),H,I.tok _,⟨_,rfl⟩,q⟩
theorem opB0{f:yU->yU->Sem yU}{g:Int->Int->Bool}
  (rule:∀(i j:Int) (t u:Tok) (s:yS) (Q:yL) (E:yL),Q (.bool (g i j)) s->yX (yW X.prog X.w) X.A (f (.int i t) (.int j u)) Q E s) :
  OpR X f (rI0 λi j=>.bl (g i j)):=by intro pins s Z H x y v u Q I rx ry h;obtain⟨i,j,rfl,rfl,q⟩:=h;obtain⟨t,rfl⟩:=rx;obtain⟨t',rfl⟩:=ry;exact rule i j t t' s _ _ ⟨.bl (g i j),H,I,rfl,q⟩
def CDiv(i j:Int):Prop:=0<j/\j<1073741824
def CPow(i j:Int):Prop:=0<=j/\j<=1000000/\i.natAbs<2 ^ 64
def CMul(i j:Int):Prop:=(-(2 ^ 64)<i/\i<2 ^ 64)∨(-(2 ^ 64)<j/\j<2 ^ 64)
theorem CMul.ok{i j:Int}(h:CMul i j):IntMulOk i j:=by
 rcases h with⟨h1,h2⟩| ⟨h1,h2⟩
 ·exact .of_left (intBits_le_64 h1 h2)
 ·exact .of_right (intBits_le_64 h1 h2)
theorem zLN(k:Nat):(0:Int)<=2 ^ k:=by rw[two_pow_cast];exact Int.natCast_nonneg _
theorem zVY:OpR X (jJ .Add) (rI0 λi j=>.int (i+j)):=opI0 λ_ _ _ _ _ _ _ q=>add_int q
theorem zVM:OpR X (jJ .Sub) (rI0 λi j=>.int (i - j)):=opI0 λ_ _ _ _ _ _ _ q=>sub_int q
theorem zVR:OpR X (jJ .Mult) (rI CMul λi j=>.int (i*j)):=opI λ_ _ _ _ _ _ _ hc q=>mul_int q hc.ok
theorem zSX:OpR X (jJ .FloorDiv) (rI CDiv λi j=>.int (i / j)):=opI λi j _ _ _ _ _ hc q=>by have h1:(0:Int)<j:=hc.1;have h2:j<1073741824:=hc.2;exact floordiv_int (by omega) (by rw[qM1 i (by omega)];exact q) (.inl (PyProof.noPylong_small (by omega)))
theorem zVS:OpR X (jJ .Mod) (rI (λ_ j=>0<j) λi j=>.int (i % j)):=opI λi j _ _ _ _ _ hc q=>by have h1:(0:Int)<j:=hc;exact mod_int' (by omega) (by rw[Int.fmod_eq_emod_of_nonneg i (by omega)];exact q)
theorem zVP:OpR X (jJ .Pow) (rI CPow λi j=>.int (i ^ j.toNat)):=opI λ_ _ _ _ _ _ _ hc q=>pow_int_small hc.1 hc.2.1 hc.2.2 q
theorem zVO:OpR X (jJ .LShift) (rI CPow λi j=>.int (i*2 ^ j.toNat)):=opI λ_ _ _ _ _ _ _ hc q=>lshift_int_small hc.1 hc.2.1 hc.2.2 q
theorem zVN:OpR X (jJ .RShift) (rI (λ_ j=>0<=j) λi j=>.int (i / 2 ^ j.toNat)):=opI λi j _ _ _ _ _ hc q =>
 rshift_int hc (by rw[qM1 i (zLN _)];exact q)
theorem zVX:OpR X (jJ .BitAnd) (rI0 λi j=>.int (jL i j)):=opI0 λ_ _ _ _ _ _ _ q=>and_int q
theorem zYR:OpR X (jJ .BitOr) (rI0 λi j=>.int (vJ i j)):=opI0 λ_ _ _ _ _ _ _ q=>or_int q
theorem zVL:OpR X (jJ .BitXor) (rI0 λi j=>.int (lQ i j)):=opI0 λ_ _ _ _ _ _ _ q=>xor_int q
theorem unI{f:yU->Sem yU}{g:Int->Int}
  (rule:∀(i:Int) (t:Tok) (s:yS) (Q:yL) (E:yL),Q (.int (g i) s.toks) { s with toks:=s.toks+1 }->yX (yW X.prog X.w) X.A (f (.int i t)) Q E s) :
  UnR X f (rU λi=>.int (g i)):=by intro pins s Z H x v Q I rx h;obtain⟨i,rfl,q⟩:=h;obtain⟨t,rfl⟩:=rx;exact rule i t s _ _ ⟨.int (g i),H,I.tok _,⟨_,rfl⟩,q⟩
theorem zUm:UnR X (unaryOp .USub) (rU λi=>.int (-i)):=unI λ_ _ _ _ _ q=>neg_int q
end
noncomputable def scal:V->V->Bool
 |.non,.non=>true|.non,.int _=>true|.int _,.non=>true|.non,.bl _=>true|.bl _,.non=>true|.non,.str _=>true|.str _,.non=>true
 |.int _,.int _=>true|.bl _,.bl _=>true|.str _,.str _=>true|.byt _,.byt _=>true
 |.int _,.str _=>true|.str _,.int _=>true|.bl _,.str _=>true|.str _,.bl _=>true
 |_,_=>false
def rEq:R2:=λx y H Q=>scal x y=true/\Q (.bl (decide (x=y))) H
def rNe:R2:=λx y H Q=>scal x y=true/\Q (.bl (!decide (x=y))) H
theorem zOO{i j:Int}:decide (V.int i=V.int j)=(i == j):=by rw[qK2];simp
theorem zRy{i j:Bool}:decide (V.bl i=V.bl j)=(i == j):=by rw[qK2];simp
theorem zON{i j:Str}:decide (V.str i=V.str j)=(i == j):=by rw[qK2];simp
theorem zOP{i j:Array UInt8}:decide (V.byt i=V.byt j)=(i.toList == j.toList):=by rw[qK2];cases i;cases j;simp
section
variable {X:Cx}{a b c:y4}{ta tb tc:TE}{pos:Pos}
theorem zAk{pins:yD}{Z:St}{H:Hp}{s:yS}{Q:VK}{k k':Bool}(I:Inv X pins Z H s)(q:Q (.bl k) H)(e:k=k'):EP X pins Z Q (.bool k') s:=by subst e;exact⟨.bl k,H,I,rfl,q⟩
theorem zYW:OpR X (y9 .Eq) rEq:=by
 intro pins s Z H x y v u Q I rx ry h;obtain⟨hs,q⟩:=h;cases x with
 |non =>
  cases rx;cases y with
  |non=>cases ry;exact PySem.EqNone.eq_none_none (zAk I q (by simp))
  |bl j=>cases ry;exact PySem.EqNone.eq_none_bool (zAk I q (by simp))
  |int j=>obtain⟨t',rfl⟩:=ry;exact PySem.EqNone.eq_none_int (zAk I q (by simp))
  |str j=>obtain⟨t',rfl⟩:=ry;exact PySem.EqNone.eq_none_str (zAk I q (by simp))
  |_=>exact absurd (show false=true from hs) qA9
 |bl i =>
  cases rx;cases y with
  |non=>cases ry;exact PySem.EqNone.eq_bool_none (zAk I q (by simp))
  |bl j=>cases ry;exact eq_bool (zAk I q zRy)
  |str j=>obtain⟨t',rfl⟩:=ry;exact PySem.EqMixed.eq_bool_str (zAk I q (by simp))
  |_=>exact absurd (show false=true from hs) qA9
 |int i =>
  obtain⟨t,rfl⟩:=rx;cases y with
  |non=>cases ry;exact PySem.EqNone.eq_int_none (zAk I q (by simp))
  |int j=>obtain⟨t',rfl⟩:=ry;exact eq_int (zAk I q zOO)
  |str j=>obtain⟨t',rfl⟩:=ry;exact PySem.EqMixed.eq_int_str (zAk I q (by simp))
  |_=>exact absurd (show false=true from hs) qA9
 |str i =>
  obtain⟨t,rfl⟩:=rx;cases y with
  |non=>cases ry;exact PySem.EqNone.eq_str_none (zAk I q (by simp))
  |bl j=>cases ry;exact PySem.EqMixed.eq_str_bool (zAk I q (by simp))
  |int j=>obtain⟨t',rfl⟩:=ry;exact PySem.EqMixed.eq_str_int (zAk I q (by simp))
  |str j=>obtain⟨t',rfl⟩:=ry;exact eq_str (zAk I q zON)
  |_=>exact absurd (show false=true from hs) qA9
 |byt i =>
  obtain⟨t,rfl⟩:=rx;cases y with
  |byt j=>obtain⟨t',rfl⟩:=ry;exact W.eq_bytes (zAk I q zOP)
  |_=>exact absurd (show false=true from hs) qA9
 |_=>cases y<;>exact absurd (show false=true from hs) qA9
theorem zYS:OpR X (y9 .NotEq) rNe:=by
 intro pins s Z H x y v u Q I rx ry h;obtain⟨hs,q⟩:=h;cases x with
 |non =>
  cases rx;cases y with
  |non=>cases ry;exact PySem.EqNone.ne_none_none (zAk I q (by simp))
  |bl j=>cases ry;exact PySem.EqNone.ne_none_bool (zAk I q (by simp))
  |int j=>obtain⟨t',rfl⟩:=ry;exact PySem.EqNone.ne_none_int (zAk I q (by simp))
  |str j=>obtain⟨t',rfl⟩:=ry;exact PySem.EqNone.ne_none_str (zAk I q (by simp))
  |_=>exact absurd (show false=true from hs) qA9
 |bl i =>
  cases rx;cases y with
  |non=>cases ry;exact PySem.EqNone.ne_bool_none (zAk I q (by simp))
  |bl j=>cases ry;exact ne_bool (zAk I q (congrArg not zRy))
  |str j=>obtain⟨t',rfl⟩:=ry;exact PySem.EqMixed.ne_bool_str (zAk I q (by simp))
  |_=>exact absurd (show false=true from hs) qA9
 |int i =>
  obtain⟨t,rfl⟩:=rx;cases y with
  |non=>cases ry;exact PySem.EqNone.ne_int_none (zAk I q (by simp))
  |int j=>obtain⟨t',rfl⟩:=ry;exact ne_int (zAk I q (congrArg not zOO))
  |str j=>obtain⟨t',rfl⟩:=ry;exact PySem.EqMixed.ne_int_str (zAk I q (by simp))
  |_=>exact absurd (show false=true from hs) qA9
 |str i =>
  obtain⟨t,rfl⟩:=rx;cases y with
  |non=>cases ry;exact PySem.EqNone.ne_str_none (zAk I q (by simp))
  |bl j=>cases ry;exact PySem.EqMixed.ne_str_bool (zAk I q (by simp))
  |int j=>obtain⟨t',rfl⟩:=ry;exact PySem.EqMixed.ne_str_int (zAk I q (by simp))
  |str j=>obtain⟨t',rfl⟩:=ry;exact ne_str (zAk I q (congrArg not zON))
  |_=>exact absurd (show false=true from hs) qA9
 |byt i =>
  obtain⟨t,rfl⟩:=rx;cases y with
  |byt j=>obtain⟨t',rfl⟩:=ry;exact W.ne_bytes (zAk I q (congrArg not zOP))
  |_=>exact absurd (show false=true from hs) qA9
 |_=>cases y<;>exact absurd (show false=true from hs) qA9
theorem zIW:OpR X (y9 .Lt) (rI0 λi j=>.bl (decide (i<j))):=opB0 λ_ _ _ _ _ _ _ q=>lt_int q
theorem zYT:OpR X (y9 .LtE) (rI0 λi j=>.bl (decide (i<=j))):=opB0 λ_ _ _ _ _ _ _ q=>le_int q
theorem zYU:OpR X (y9 .Gt) (rI0 λi j=>.bl (decide (j<i))):=opB0 λ_ _ _ _ _ _ _ q=>gt_int q
theorem zYV:OpR X (y9 .GtE) (rI0 λi j=>.bl (decide (j<=i))):=opB0 λ_ _ _ _ _ _ _ q=>ge_int q
theorem zVT:OpR X (y9 .Is) (λx y H Q=>y=.non/\Q (.bl (decide (x=.non))) H):=by
 intro pins s Z H x y v u Q I rx ry h;obtain⟨rfl,q⟩:=h;cases ry;refine is_none_gen (zAk I q ?_);cases x<;>first
  |(cases rx;rfl)
  |(obtain⟨t,rfl⟩:=rx;rfl)
theorem zSW:OpR X (y9 .IsNot) (λx y H Q=>y=.non/\Q (.bl (!decide (x=.non))) H):=by
 intro pins s Z H x y v u Q I rx ry h;obtain⟨rfl,q⟩:=h;cases ry;refine isnot_none_gen (zAk I q ?_);cases x<;>first
  |(cases rx;rfl)
  |(obtain⟨t,rfl⟩:=rx;rfl)
theorem zST{op:fY}{r:R2}(ho:OpR X (y9 op) r)(ha:PE X a ta)(hb:PE X b tb)(hm:fG op b=false):PE X (.Compare a [op] [b] pos) (tOp r ta tb):=by intro pins s Z H Q I h;exact wpAny_Compare1 (binT ha hb I h λv u s2 x y H2 I2 rx ry q=>ho pins s2 Z H2 x y v u Q I2 rx ry q) hm
def zRY(t:TE):TT:=fun Z H Q=>t Z H λx H'=>∃k,x=.bl k/\Q k H'
theorem zSH{op:fY}{r:R2}(ho:OpR X (y9 op) r)(ha:PE X a ta)(hb:PE X b tb)(hm:fG op b=false):PT X (.Compare a [op] [b] pos) (zRY (tOp r ta tb)):=by
 intro pins s Z H Q I h;refine wpAny_isTrue_Compare1 (thn (ha pins s Z H _ I h) λv s1 ⟨x,H1,I1,r1,q1⟩=>thn (hb pins s1 Z H1 _ I1 q1) λu s2 ⟨y,H2,I2,r2,q2⟩ =>
  thn (ho pins s2 Z H2 x y v u _ I2 r1 r2 q2) λc s3 ⟨z,H3,I3,r3,k,e,q3⟩=>?_) hm
 subst e;cases r3;exact j7 ⟨H3,I3,q3⟩
def zMV(r r':R2)(ta tb tc:TE):TE:=fun Z H Q=>ta Z H λx H1=>tb Z H1 λy H2=>r x y H2 λz H3=>∃k,z=.bl k /\
 (if k=true then tc Z H3 λw' H4=>r' y w' H4 Q else Q (.bl false) H3)
theorem zPY{op op':fY}{r r':R2}(ho:OpR X (y9 op) r)(ho':OpR X (y9 op') r')(ha:PE X a ta)(hb:PE X b tb)(hc:PE X c tc)
  (hm:mE [op,op'] [b,c]=false:=by with_unfolding_all rfl):PE X (.Compare a [op,op'] [b,c] pos) (zMV r r' ta tb tc):=by
 intro pins s Z H Q I h;refine Compare_chain (thn (ha pins s Z H _ I h) λv s1 ⟨x,H1,I1,r1,q1⟩=>chain_link (thn (hb pins s1 Z H1 _ I1 q1) λu s2 ⟨y,H2,I2,r2,q2⟩ =>
  thn (ho pins s2 Z H2 x y v u _ I2 r1 r2 q2) λd s3 ⟨z,H3,I3,r3,k,e,q3⟩=>?_)) hm
 subst e;cases r3;refine j7 ?_;cases k with
 |false=>exact ite_ff ⟨.bl false,H3,I3,rfl,q3⟩
 |true=>exact ite_tt (chain_last (thn (hc pins s3 Z H3 _ I3 q3) λw' s4 ⟨z',H4,I4,r4,q4⟩=>ho' pins s4 Z H4 y z' u w' Q I4 r2 r4 q4))
theorem zPL{op op':fY}{r r':R2}(ho:OpR X (y9 op) r)(ho':OpR X (y9 op') r')(ha:PE X a ta)(hb:PE X b tb)(hc:PE X c tc)
  (hm:mE [op,op'] [b,c]=false:=by with_unfolding_all rfl):PT X (.Compare a [op,op'] [b,c] pos) (zRY (zMV r r' ta tb tc)):=by
 intro pins s Z H Q I h;refine isTrue_chain (thn (ha pins s Z H _ I h) λv s1 ⟨x,H1,I1,r1,q1⟩=>test_link (thn (hb pins s1 Z H1 _ I1 q1) λu s2 ⟨y,H2,I2,r2,q2⟩ =>
  thn (ho pins s2 Z H2 x y v u _ I2 r1 r2 q2) λd s3 ⟨z,H3,I3,r3,k,e,q3⟩=>?_)) hm
 subst e;cases r3;refine j7 ?_;cases k with
 |false =>
  obtain⟨k',e',q'⟩:=q3;cases e';exact ite_ff ⟨H3,I3,q'⟩
 |true =>
  refine ite_tt (test_last (thn (hc pins s3 Z H3 _ I3 q3) λw' s4 ⟨z',H4,I4,r4,q4⟩=>thn (ho' pins s4 Z H4 y z' u w' _ I4 r2 r4 q4) λd' s5 ⟨z2,H5,I5,r5,k2,e2,q5⟩=>?_));subst e2;cases r5;exact j7 ⟨H5,I5,q5⟩
def TruV(K:yQ)(x:V)(H:Hp)(k:Bool):Prop :=
 match x with
 |.non=>k=false
 |.bl b=>k=b
 |.int i=>k=(i != 0)
 |.str y=>y.length<=jA/\k=((y.length:Int) != 0)
 |.byt y=>y.size<=jA/\k=((y.size:Int) != 0)
 |.ref p=>(∃xs,SqL K H p xs/\k=!xs.isEmpty)∨(∃xs,SqT K H p xs/\k=!xs.isEmpty)∨∃kvs,H p=some (.dK kvs)/\k=!kvs.isEmpty
 |_=>False
theorem zMc{κ:Type}{kvs:List (κ×V)}{vs:List (κ×yU)}(r:KV kvs vs):(!vs.isEmpty)=!kvs.isEmpty:=by cases r<;>rfl
theorem zHb{xs:List V}{its:yB}(r:Vals xs its):(!its.toArray.isEmpty)=!xs.isEmpty:=by cases r<;>simp
theorem zH8:(jA:Nat)<2 ^ 63:=by rw[vX];decide
theorem zUp:TruR X (λx H Q=>∃k,TruV X.K x H k/\Q k H):=by
 intro pins s Z H x v Q I rx h;obtain⟨k,e,q⟩:=h;have hl:=zH8;have hs:jA=16777216:=vX;cases x with
 |non =>
  cases rx;have e':k=false:=e;subst e';exact truthy_none ⟨H,I,q⟩
 |bl b =>
  cases rx;have e':k=b:=e;subst e';exact j7 ⟨H,I,q⟩
 |int i =>
  obtain⟨t,rfl⟩:=rx;have e':k=(i != 0):=e;subst e';exact PySem.P.truthy_int ⟨H,I,q⟩
 |str y =>
  obtain⟨t,rfl⟩:=rx;obtain⟨hy,e'⟩:y.length<=jA/\k=((y.length:Int) != 0):=e;subst e';exact PySem.P.truthy_str (by omega) ⟨H,I.tok _,q⟩
 |byt y =>
  obtain⟨t,rfl⟩:=rx;obtain⟨hy,e'⟩:y.size<=jA/\k=((y.size:Int) != 0):=e;subst e';exact W.truthy_bytes (by omega) ⟨H,I.tok _,q⟩
 |ref p =>
  cases rx;have e':(∃xs,SqL X.K H p xs/\k=!xs.isEmpty)∨(∃xs,SqT X.K H p xs/\k=!xs.isEmpty)∨∃kvs,H p=some (.dK kvs)/\k=!kvs.isEmpty:=e;rcases e' with⟨xs,hx,e'⟩| ⟨xs,hx,e'⟩| ⟨kvs,hx,e'⟩
  ·subst e';obtain⟨its,r,pl,hz⟩:=I.list hx;have hlen:=r.length;exact wpAny_truthy_list pl.isList (by simp only[qB1];omega) ⟨H,I.tok _,by rw[zHb r];exact q⟩
  ·subst e';obtain⟨its,r,pl,hz⟩:=I.tuple hx;have hlen:=r.length;exact truthy_tuple pl (by simp only[qB1];omega) ⟨H,I.tok _,by rw[zHb r];exact q⟩
  ·subst e';obtain⟨hz,hS,vs,r,m⟩:kvs.length<=jA/\(p == vG)=false/\∃vs,KV kvs vs/\s.heap.DictOf (zA9 X.prog X.w) p vs:=I.hok p _ hx;have hlen:kvs.length=vs.length:=Paired.length r;exact wpAny_truthy_dict hS m (by omega) ⟨H,I.tok _,by rw[zMc r];exact q⟩
 |_=>exact(show False from e).elim
theorem zPK(ha:PE X a ta)(he:∀whole,dJ a X.env whole=(do let v <- whole;m5 a.pos;wI [v] (truthy v))):
  PT X a (fun Z H Q=>ta Z H λx H'=>∃k,TruV X.K x H' k/\Q k H'):=by intro pins s Z H Q I h;exact isTrue_plain (thn (ha pins s Z H _ I h) λv s1 ⟨x,H1,I1,r1,q1⟩=>zUp pins s1 Z H1 x v Q I1 r1 q1) (he _)
theorem zM5:OpR X (jJ .Add) (λx y H Q=>∃i j,x=.str i/\y=.str j/\i.length+j.length<=jA/\Q (.str (i++j)) H):=by intro pins s Z H x y v u Q I rx ry h;obtain⟨i,j,rfl,rfl,hz,q⟩:=h;obtain⟨t,rfl⟩:=rx;obtain⟨t',rfl⟩:=ry;exact add_str (λt' tk=>⟨.str (i++j),H,I.tok _,⟨_,rfl⟩,q⟩) hz
theorem zDd{x:V}{us:yB}(r:Vals [x] us):∃u,us=[u]/\RelV x u:=by
 cases r with
 |cons r1 r2=>cases r2;exact⟨_,rfl,r1⟩
theorem zLM{x y:V}{us:yB}(r:Vals [x,y] us):∃u w',us=[u,w']/\RelV x u/\RelV y w':=by
 cases r with
 |cons r1 r2 =>
  cases r2 with
  |cons r3 r4=>cases r4;exact⟨_,_,rfl,r1,r3⟩
theorem zP9(hc:X.calm=true):zBN X (.builtin "max") (λxs H Q=>∃i j,xs=[.int i,.int j]/\Q (.int (if j>i then j else i)) H):=by
 intro pins s Z H xs us Q I r h;obtain⟨i,j,rfl,q⟩:=h;obtain⟨u,w',rfl,⟨t,rfl⟩,⟨t',rfl⟩⟩:=zLM r;refine max_two_ints (I.ok.hd hc) λh' tk k=>⟨_,H,I.kept k,?_,q⟩
 by_cases hj:j>i
 ·rw[if_pos hj,if_pos hj];exact⟨_,rfl⟩
 ·rw[if_neg hj,if_neg hj];exact⟨_,rfl⟩
theorem zP7(hc:X.calm=true):zBN X (.builtin "min") (λxs H Q=>∃i j,xs=[.int i,.int j]/\Q (.int (if j<i then j else i)) H):=by
 intro pins s Z H xs us Q I r h;obtain⟨i,j,rfl,q⟩:=h;obtain⟨u,w',rfl,⟨t,rfl⟩,⟨t',rfl⟩⟩:=zLM r;refine min_two_ints (I.ok.hd hc) λh' tk k=>⟨_,H,I.kept k,?_,q⟩
 by_cases hj:j<i
 ·rw[if_pos hj,if_pos hj];exact⟨_,rfl⟩
 ·rw[if_neg hj,if_neg hj];exact⟨_,rfl⟩
theorem zJE:zBN X (.type "int") (λxs H Q=>(∃i,xs=[.int i]/\Q (.int i) H)∨∃k,xs=[.bl k]/\Q (.int (if k then 1 else 0)) H):=by
 intro pins s Z H xs us Q I r h;rcases h with⟨i,rfl,q⟩| ⟨k,rfl,q⟩
 ·obtain⟨u,rfl,t,rfl⟩:=zDd r;exact call_int_int ⟨.int i,H,I,⟨_,rfl⟩,q⟩
 ·obtain⟨u,rfl,r1⟩:=zDd r;cases r1;exact call_int_bool ⟨.int (if k then 1 else 0),H,I.tok _,⟨_,rfl⟩,q⟩
end
theorem RelO.some_of{v:V}{o:yF}(r:RelO (some v) o):∃u,o=some u/\RelV v u:=by
 cases o with
 |none=>exact(show False from r).elim
 |some u=>exact⟨u,rfl,r⟩
structure Room(k:Nat)(A:jE):Prop where
 hd:A.handled=none
 dp:A.depth+3*k+5<lS
 un:A.units+16*k+200<wR
 gd:A.guards=some []
theorem Room.mono{j k:Nat}{A:jE}(r:Room k A)(h:j<=k):Room j A:=⟨r.hd,by have:=r.dp;omega,by have:=r.un;omega,r.gd⟩
theorem Room.deeper{k:Nat}{A:jE}(r:Room (k+1) A)(env:Env):Room k (A.deeper env) :=
 ⟨r.hd,by have:=r.dp;show A.depth+1+3*k+5<_;omega,by have:=r.un;show A.units+3+16*k+200<_;omega,r.gd⟩
theorem Room.depth{k:Nat}{A:jE}(r:Room k A):A.depth<recursionLimit:=by have:=r.dp;omega
theorem Room.units{k:Nat}{A:jE}(r:Room k A):A.units+64<cLine:=by have:=r.un;omega
theorem Room.units0{k:Nat}{A:jE}(r:Room k A):A.units<cLine:=by have:=r.un;omega
def tNil:TA:=λ_ H Q=>Q [] H
def zYb(ta:TE)(tr:TA):TA:=fun Z H Q=>ta Z H λx H1=>tr Z H1 λxs H2=>Q (x::xs) H2
section
variable {X:Cx}{e:y4}{es:yE}{te:TE}{t:TA}{pos:Pos}
theorem zL4:PA X [] tNil:=λ_ _ _ _ H Q I h=>wV ⟨[],H,I,.nil,h⟩
theorem zFr(ha:PE X e te)(hr:PA X es t)(hs:jF (e::es) X.env=(false,vL e X.env)::jF es X.env:=by rfl):PA X (e::es) (zYb te t):=by intro pos pins s Z H Q I h;rw[hs];show yX _ _ (spliced ((false,vL e X.env)::wM pos (jF es X.env))) _ _ s;refine wN (thn (ha pins s Z H _ I h) λu s1 ⟨x,H1,I1,r1,q1⟩=>?_);exact thn (hr pos pins s1 Z H1 _ I1 q1) λus s2 ⟨xs,H2,I2,r2,q2⟩=>⟨x::xs,H2,I2,.cons r1 r2,q2⟩
def tTup(t:TA):TE:=fun Z H Q=>t Z H λxs H1=>xs.length<=jA/\∀p,H1 p=none->Q (.ref p) (upd H1 p (.tup xs))
def tLst(t:TA):TE:=fun Z H Q=>t Z H λxs H1=>xs.length<=jA/\∀p,H1 p=none->Q (.ref p) (upd H1 p (.lst xs))
theorem zVs{x1}(h:PA X es t):PE X (.Tuple es x1 pos) (tTup t):=by intro pins s Z H Q I hq;refine wpAny_Tuple_spliced (thn (h pos pins s Z H _ I hq) λus s1 ⟨xs,H1,I1,r,z,q⟩=>⟨by rw[<- r.length];exact z,?_⟩);have hf:H1 s1.heap.objs.size=none:=I1.hok.fresh (qA6 _);refine⟨.ref s1.heap.objs.size,upd H1 s1.heap.objs.size (.tup xs),I1.laid (t':=s1.toks) (λb u e=>qA5 _ e) (qA6 _) ?_,rfl,q _ hf⟩;exact⟨z,us,r,⟨_,qB4 _ rfl,rfl,_,rfl⟩⟩
theorem zVv(h:PA X es t):PE X (.List es pos) (tLst t):=by intro pins s Z H Q I hq;refine wpAny_List_spliced (thn (h pos pins s Z H _ I hq) λus s1 ⟨xs,H1,I1,r,z,q⟩=>⟨by rw[<- r.length];exact z,?_⟩);have hf:H1 s1.heap.objs.size=none:=I1.hok.fresh (qA6 _);refine⟨.ref s1.heap.objs.size,upd H1 s1.heap.objs.size (.lst xs),I1.laid (t':=s1.toks) (λb u e=>qA5 _ e) (qA6 _) ?_,rfl,q _ hf⟩;exact⟨z,us,0,r,qB4 _ rfl⟩
end
abbrev Sp:=List V->Hp->VK->XK->Prop
abbrev CXT:=List Env->Hp->yS->XK->yL
structure Env0(P:y7)(w:jD)(K:yQ)(mg:Str->yF)(base:jC)(A:jE)(outer:List Env)(s:yS)(H:Hp):Prop where
 frames:A.frames=some outer
 mod:Mod K mg base
 bs:∀b o,base.get? b=some o->s.heap.get? b=some o/\H b=none
 bsz:base.objs.size<=s.heap.objs.size
 funs:s.heap.FunFrames base outer
 frf:∀b∈frs outer,H b=none
 hok:HOk P w H s.heap
 bare:fT s.gens
def CE(outer:List Env)(P:y7)(w:jD)(H:Hp)(s:yS)(Q:VK)(u:yU)(s':yS):Prop :=
 ∃v H',s'.os=s.os/\fT s'.gens/\Un (frs outer) [] H H' s.heap s'.heap/\HOk P w H' s'.heap/\RelV v u/\Q v H'
def CR(CX:CXT)(outer:List Env)(P:y7)(w:jD)(H:Hp)(s:yS)(Q:VK)(E:XK)(r:dL)(s':yS):Prop :=
 match r with
 |.ok (.ret u)=>CE outer P w H s Q u s'
 |.ok _=>False
 |.error e=>CX outer H s E e s'
structure FnOk(P:y7)(w:jD)(K:yQ)(mg:Str->yF)(base:jC)(CX:CXT)(k:Nat)(f:yR)(fd:jX)(ps:yH)(sp:Sp):Prop where
 len:∀vs H Q E,sp vs H Q E->vs.length=ps.length
 run:∀(A:jE) (outer:List Env) (s:yS) (H:Hp) (args:Args) (us:yB) (vs:List V) (Q:VK) (E:XK),Room k A->Env0 P w K mg base A outer s H->m7 s fd args (ps.zip us)->Vals vs us->sp vs H Q E ->
  vU (yW P w) A (.call (.ref f) args) (CR CX outer P w H s Q E) s
theorem FnOk.imp{P:y7}{w:jD}{K:yQ}{mg:Str->yF}{base:jC}{CX:CXT}{k:Nat}{f:yR}{fd:jX}{ps:yH}{sp sp':Sp}(F:FnOk P w K mg base CX k f fd ps sp)
  (h:∀vs H Q E,sp' vs H Q E->sp vs H Q E):FnOk P w K mg base CX k f fd ps sp' :=
 ⟨λvs H Q E q=>F.len vs H Q E (h _ _ _ _ q),λA outer s H args us vs Q E hr he hb hv hs=>F.run A outer s H args us vs Q E hr he hb hv (h _ _ _ _ hs)⟩
section
variable {X:Cx}{pins:yD}{Z:St}{H:Hp}{s s':yS}
theorem Inv.env0(I:Inv X pins Z H s):Env0 X.prog X.w X.K X.mg X.base X.A X.stack s H :=
 ⟨I.ok.frames,I.ok.mod,I.bs,qD0 I.ok.bsz I.sz,I.stack,I.stkFree,I.hok,I.bare⟩
theorem Inv.after{Q:VK}{u:yU}(I:Inv X pins Z H s)(h:CE X.stack X.prog X.w H s Q u s'):EP X pins Z Q u s':=by obtain⟨v,H',os,bare,un,hok,r,q⟩:=h;obtain⟨hh,g,d,t,os'⟩:=s';obtain rfl:os'=s.os:=os;exact⟨v,H',I.call (h':=hh) (g':=g) (d':=d) (t':=t) (ch:=[]) un hok bare (λb z=>absurd z (by simp)),r,q⟩
end
def zPt(sp:Sp)(dvs:List V)(E:XK)(t:TA):TE:=fun Z H Q=>t Z H λvs H1=>sp (vs++dvs) H1 Q E
def zEm(K:yQ)(fd:jX)(ps:yH)(ds:yB):Prop :=
 ∀(s:yS) (us:yB),K.In s.heap->(us++ds).length=ps.length->m7 s fd ⟨us,[]⟩ (ps.zip (us++ds))
theorem zEm.all{K:yQ}{fd:jX}{ps:yH}(h:∀us:yB,us.length=ps.length->bindArgs fd ⟨us,[]⟩=pure (ps.zip us)):zEm K fd ps []:=λs us _ hl=>by rw[qG1]at hl ⊢;exact .of_eq (h us hl)
def zHj(CX:CXT)(X:Cx)(E:XK):Prop:=∀(pins:yD) (Z:St) (H:Hp) (s:yS) (e:yU) (s':yS),Inv X pins Z H s->CX X.stack H s E e s'->X.xe e s'
section
variable {X:Cx}{CX:CXT}{k:Nat}{f C:yR}{fd:jX}{ps:yH}{sp:Sp}{dvs:List V}{ds:yB}{E:XK}{x m:Str}{p pos apos:Pos}{e o:y4}{es:yE}{ta:TE}{t:TA}
theorem zVe{pins:yD}{Z:St}{H:Hp}{s:yS}{Q:VK}{us:yB}{vs:List V}(F:FnOk X.prog X.w X.K X.mg X.base CX k f fd ps sp)(hr:Room k X.A)(hb:zEm X.K fd ps ds)(hd:Vals dvs ds)(hx:zHj CX X E)
  (I:Inv X pins Z H s) (r:Vals vs us) (h:sp (vs++dvs) H Q E):yX (yW X.prog X.w) X.A (call (.ref f) us) (EP X pins Z Q) X.xe s:=by
 have r2:Vals (vs++dvs) (us++ds):=r.append hd;have hl:(us++ds).length=ps.length:=by rw[<- r2.length];exact F.len _ _ _ _ h
 refine fZ (vR (F.run X.A X.stack s H ⟨us,[]⟩ (us++ds) (vs++dvs) Q E hr I.env0 (hb s us I.kIn hl) r2 h) λr s' hq=>?_);cases r with
 |error e=>exact hx pins Z H s e s' I hq
 |ok fl =>
  cases fl with
  |ret u=>exact I.after hq
  |next=>exact False.elim hq
  |brk=>exact False.elim hq
  |cont=>exact False.elim hq
theorem zSU(F:FnOk X.prog X.w X.K X.mg X.base CX k f fd ps sp)(hr:Room k X.A)(hg:Gl X x)(hm:X.mg x=some (.ref f))(hk:lT X.K (.ref f)=true)(hb:zEm X.K fd ps ds)(hd:Vals dvs ds)(hx:zHj CX X E)
  (ha:PA X (e::es) t) (hdb:nDb x:=by decide) (he:jF (e::es) X.env=(false,vL e X.env)::jF es X.env:=by rfl) (hpl:(wM pos (jF es X.env)).any (·.1)=false:=by rfl) :
  PE X (.Call (.Name x p) (e::es) [] pos) (zPt sp dvs E t):=by intro pins s Z H Q I h;refine vA (zDj I hg hm ?_ hdb);refine m8 (h₀:=X.base) I.ok.mod.kin hk (thn (ha pos pins s Z H _ I h) λus s1 ⟨vs,H1,I1,r,q⟩=>⟨I1.kIn,?_⟩) he hpl;exact zVe F hr hb hd hx I1 r q
end
structure zE0(N P:yH)(sc:jS):Prop where
 kind:sc.kind=.function
 co:sc.isCoroutine=false
 gen:sc.isGenerator=false
 nd:N.Nodup
 pre:N.take P.length=P
 par:∀x∈P,sc.names.lookup x=some .local∨sc.names.lookup x=some .cell
 nofree:∀y∈sc.names,y.2≠.free
theorem zJK{kindOf:Str->Option jT}{x:Str}:∀{binds:List (Str×yU)}{m:Str->yF},(∀v,(x,v)∉binds)->bindL kindOf binds m x=m x
 |[],_,_=>rfl
 |(n,v)::r,m,h=>by
  unfold bindL;rw[zJK λw hw=>h w (qC1 _ hw)];split
  ·have:x≠n:=by rintro rfl;exact h v qE8
   simp[this]
  ·rfl
theorem zJM{kindOf:Str->Option jT}{x:Str}:∀{binds:List (Str×yU)}{m:Str->yF},(∀v,(x,v)∉binds)->bindC kindOf binds m x=m x
 |[],_,_=>rfl
 |(n,v)::r,m,h=>by
  unfold bindC;rw[zJM λw hw=>h w (qC1 _ hw)];split
  ·rfl
  ·have:x≠n:=by rintro rfl;exact h v qE8
   simp[this]
theorem zJL{kindOf:Str->Option jT}{x:Str}{v:yU}:∀{P:yH}{vs:yB}{i:Nat}{m:Str->yF},P.Nodup->P[i]?=some x->vs[i]?=some v->kindOf x=some .local ->
  bindL kindOf (P.zip vs) m x=some v
 |[],_,_,_,_,h,_,_=>by simp at h
 |_::_,[],_,_,_,_,h,_=>by simp at h
 |p::P,w::vs,0,m,nd,h1,h2,hk=>by simp at h1 h2;subst h1;subst h2;show bindL kindOf ((p,w)::P.zip vs) m p=_;unfold bindL;rw[zJK λv hv=>(qJ0.mp nd).1 (qL6 hv).1,if_pos hk];simp
 |p::P,w::vs,i+1,m,nd,h1,h2,hk=>by show bindL kindOf ((p,w)::P.zip vs) m x=_;unfold bindL;exact zJL (i:=i) (qJ0.mp nd).2 (by simpa using h1) (by simpa using h2) hk
theorem zJN{kindOf:Str->Option jT}{x:Str}{v:yU}:∀{P:yH}{vs:yB}{i:Nat}{m:Str->yF},P.Nodup->P[i]?=some x->vs[i]?=some v->kindOf x≠some .local ->
  bindC kindOf (P.zip vs) m x=some v
 |[],_,_,_,_,h,_,_=>by simp at h
 |_::_,[],_,_,_,_,h,_=>by simp at h
 |p::P,w::vs,0,m,nd,h1,h2,hk=>by simp at h1 h2;subst h1;subst h2;show bindC kindOf ((p,w)::P.zip vs) m p=_;unfold bindC;rw[zJM λv hv=>(qJ0.mp nd).1 (qL6 hv).1,if_neg hk];simp
 |p::P,w::vs,i+1,m,nd,h1,h2,hk=>by show bindC kindOf ((p,w)::P.zip vs) m x=_;unfold bindC;exact zJN (i:=i) (qJ0.mp nd).2 (by simpa using h1) (by simpa using h2) hk
noncomputable def start(N:yH)(vs:List V):St:=vs.map some++qE6 (N.length - vs.length) none
noncomputable def cxOf(CX:CXT)(P:y7)(w:jD)(K:yQ)(mg:Str->yF)(base:jC)(N:yH)(qual:Str)(scope:jS)(f:yR)(cd:yU)(A:jE)(outer:List Env)(s:yS)(H:Hp)(E:XK):Cx where
 prog:=P
 w:=w
 K:=K
 mg:=mg
 base:=base
 A:=A.deeper (lU qual scope s.heap.objs.size f cd)
 N:=N
 s₀:=s
 H₀:=H
 env:=lU qual scope s.heap.objs.size f cd
 outer:=outer
 stack:=lU qual scope s.heap.objs.size f cd::outer
 ex:=[]
 calm:=true
 fn:=λ_=>true
 pn:=[]
 xe:=λe s'=>yX (yW P w) (A.deeper (lU qual scope s.heap.objs.size f cd)) (dW (lU qual scope s.heap.objs.size f cd) e) (λ_ s''=>CX outer H s E e s'') (λe' s''=>CX outer H s E e' s'') s'
theorem zLD{sc:jS}{n:Nat}{x:Str}(h:sc.names.lookup x=some .cell):∃c,(vE n sc.names []).lookup x=some c:=by have q:=fB sc.names n [] (.inl h);exact qI2.mp q
theorem zFG{CX:CXT}{P:y7}{w:jD}{K:yQ}{mg:Str->yF}{base:jC}{N ps:yH}{qual:Str}{scope:jS}{f:yR}{cd:yU}{A:jE}{outer:List Env}{s s1:yS}{H:Hp}{E:XK}{us:yB}{vs:List V}
  (S:zE0 N ps scope) (hd:A.handled=none) (e0:Env0 P w K mg base A outer s H) (hl:vs.length=ps.length) (r:Vals vs us)
  (x:InCallC s s.heap.objs.size (bindL (lU qual scope s.heap.objs.size f cd).kindOf (ps.zip us) λ_=>none) (vE (s.heap.objs.size+1) scope.names []) (bindC (lU qual scope s.heap.objs.size f cd).kindOf (ps.zip us) λ_=>none) s1) :
  Inv (cxOf CX P w K mg base N qual scope f cd A outer s H E) [] (start N vs) H s1:=by
 have hpl:ps.length<=N.length:=by have:=congrArg qK5 S.pre;rw[qJ6]at this;omega
 obtain⟨h1,tk,rfl,hk⟩:=x.done;have noA:∀b:yR,b∉(cxOf CX P w K mg base N qual scope f cd A outer s H E).ex:=λb z=>absurd (show b∈([]:yC)from z) (by simp);refine⟨⟨e0.mod,S.kind,rfl,rfl,qA6 _,λy z c h1 h2=>?_,λy hy=>?_,λy c _ h=>?_,λ_=>hd,Around.frames_deeper e0.frames,.inr ⟨rfl,rfl⟩,λb z=>absurd z (noA b),e0.bs,e0.bsz,λb _ _=>noA b,λb z=>absurd z (noA b),e0.funs,e0.frf⟩,
  rfl,e0.bare,Un.kept hk,⟨_,x.toInCall.ns,λi y v h1 h2 h3=>?_⟩,λy c h=>⟨_,x.cell y c h⟩,e0.hok.fresh (qA6 _),λy c h=>?_,λp hp=>absurd (show p∈([]:yD)from hp) (by simp),e0.hok.kept hk,?_⟩
 ·exact name_of_addr x.apart (vV h1) (vV h2)
 ·have hy:scope.names.lookup y=some .cell∨scope.names.lookup y=some .free:=hy;rcases hy with hy|hy
  ·exact zLD hy
  ·exact absurd rfl (S.nofree _ (vV hy))
 ·exact qG3 (x.above y c (vV h))
 ·have hi:i<vs.length:=by
   unfold start at h2;by_cases hi:i<vs.length
   ·exact hi
   ·rw[qA0 (by simpa using hi)]at h2;rw[qG6]at h2;split at h2<;>cases h2
  have ha:vs[i]?=some v:=by
   unfold start at h2;rw[qA7 (by simpa using hi),qC0]at h2;cases e:vs[i]? with
   |none=>rw[e]at h2;cases h2
   |some a=>rw[e]at h2;cases h2;rfl
  obtain⟨u,hu,rv⟩:=r.get ha;have hp:ps[i]?=some y:=by rw[<- S.pre,List.getElem?_take_of_lt (by omega)];exact h1
  have ndP:ps.Nodup:=by rw[<- S.pre];exact S.nd.sublist (qF8 _ _)
  refine⟨u,rv,?_⟩;rcases S.par y (qB5 hp)with k|k
  ·exact .inl ⟨k,zJL ndP hp hu k⟩
  ·obtain⟨c,e⟩:=zLD (n:=s.heap.objs.size+1) k;refine .inr ⟨.inl k,c,e,?_⟩;have q:=x.cell y c e;rw[zJN ndP hp hu (by show scope.names.lookup y≠_;rw[k];decide)]at q;exact q
 ·exact e0.hok.fresh (qG3 (x.above y c (vV h)))
 ·unfold start;show _=N.length;rw[qC3,qA8,qH6];omega
theorem zZq{CX:CXT}{P:y7}{w:jD}{K:yQ}{mg:Str->yF}{base:jC}{k:Nat}{f:yR}{name qual:Str}{params:vQ}{body:List vI}{scope:jS}{dV kV doc pm cdv ct oc:yU}{an od:Option yR}
  {osl:Array (yF)}{N ps:yH}{sp:Sp} (lk:K.lookup f=some ⟨oc,od,.func (gK name qual params body scope dV kV doc pm an cdv ct),osl⟩) (hcd:m9 K cdv qual=true) (S:zE0 N ps scope)
  (len:∀vs H Q E,sp vs H Q E->vs.length=ps.length)
  (hbody:∀(A:jE) (outer:List Env) (s:yS) (H:Hp) (vs:List V) (Q:VK) (E:XK),Room k (A.deeper (lU qual scope s.heap.objs.size f cdv))->sp vs H Q E ->
   ∃t,PSs (cxOf CX P w K mg base N qual scope f cdv A outer s H E) body t/\t { nx:=λ_ H'=>Q .non H',rt:=Q } (start N vs) H) :
  FnOk P w K mg base CX (k+1) f (gK name qual params body scope dV kV doc pm an cdv ct) ps sp:=by
 refine⟨len,λA outer s H args us vs Q E hr e0 hb r hsp=>?_⟩;have hl:=len _ _ _ _ hsp;have KX:K.In s.heap:=e0.mod.kin.keeps λb o e=>(e0.bs b o e).1;have lim:s.heap.NoLimit:=e0.mod.nolimit.keeps λb o e=>(e0.bs b o e).1;have hkind:∀y∈ps.zip us,scope.names.lookup y.1=some .local∨(scope.names.lookup y.1=some .cell/\((vE (s.heap.objs.size+1) scope.names []).lookup y.1).isSome=true):=λ⟨n,v⟩ hy=>by
  rcases S.par n (qL6 hy).1 with q|q
  ·exact .inl q
  ·exact .inr ⟨q,fB _ _ _ (.inl q)⟩
 refine wY hr.depth (KX _ _ lk) rfl S.co S.gen rfl (dA KX hcd) (hb _ _ _ _ ?_);refine wC S.kind hkind λenv he s1 x=>?_;subst he;refine⟨lim.keeps x.toInCall.keep,dC ?_⟩;obtain⟨t,ht,hq⟩:=hbody A outer s H vs Q E (hr.deeper _) hsp;have I:Inv (cxOf CX P w K mg base N qual scope f cdv A outer s H E) [] (start N vs) H s1:=zFG S hr.hd e0 hl r x;refine jK (ht [] s1 (start N vs) H _ I hq) (λfl s' hs=>?_) λe s' hs=>hs;have fin:∀{Z':St}{H':Hp}{v:V}{u:yU},Inv (cxOf CX P w K mg base N qual scope f cdv A outer s H E) [] Z' H' s'->RelV v u->Q v H'->CE outer P w H s Q u s' :=
  λ{Z' H' v u} JJ rv q=>⟨v,H',JJ.os,JJ.bare,JJ.base,JJ.hok,rv,q⟩
 cases fl with
 |ret u =>
  obtain⟨v,Z',H',JJ,rv,q⟩:=hs;exact fin JJ rv q
 |next =>
  obtain⟨Z',H',JJ,q⟩:=hs;exact fin (v:=V.non) (u:=Value.none) JJ rfl q
 |brk =>
  obtain⟨_,_,_,q⟩:=hs;exact False.elim q
 |cont =>
  obtain⟨_,_,_,q⟩:=hs;exact False.elim q
section
variable {X:Cx}{x:Str}{p pos:Pos}{e:y4}{es:yE}{t:TA}{id T:String}{r:List V->Hp->VK->Prop}
def tCB(r:List V->Hp->VK->Prop)(t:TA):TE:=fun Z H Q=>t Z H λvs H1=>r vs H1 Q
theorem zHz(hc:zBN X (.builtin id) r)(hg:Gl X x)(hm:X.mg x=none)(hv:jH x=some (.builtin id))(ha:PA X (e::es) t)(hn:x ≠ "__name__":=by decide)(hdb:nDb x:=by decide)
  (he:jF (e::es) X.env=(false,vL e X.env)::jF es X.env:=by rfl) (hpl:(wM pos (jF es X.env)).any (·.1)=false:=by rfl):PE X (.Call (.Name x p) (e::es) [] pos) (tCB r t):=by intro pins s Z H Q I h;refine vA (zFC I hg hm hv ?_ hn hdb);exact PyProof.Rows.callWith_builtin1 (thn (ha pos pins s Z H _ I h) λus s1 ⟨vs,H1,I1,r1,q1⟩=>hc pins s1 Z H1 vs us Q I1 r1 q1) he hpl
theorem zFp(hc:zBN X (.type T) r)(hg:Gl X x)(hm:X.mg x=none)(hv:jH x=some (.type T))(ha:PA X (e::es) t)(hn:x ≠ "__name__":=by decide)(hdb:nDb x:=by decide)
  (he:jF (e::es) X.env=(false,vL e X.env)::jF es X.env:=by rfl) (hpl:(wM pos (jF es X.env)).any (·.1)=false:=by rfl):PE X (.Call (.Name x p) (e::es) [] pos) (tCB r t):=by intro pins s Z H Q I h;refine vA (zFC I hg hm hv ?_ hn hdb);exact j6 (thn (ha pos pins s Z H _ I h) λus s1 ⟨vs,H1,I1,r1,q1⟩=>hc pins s1 Z H1 vs us Q I1 r1 q1) he hpl
end
end L2
namespace HT
open PySem PyProof.Rows
section
variable {prog:y7}{w:jD}{A:jE}{E:yL}{s:yS}
theorem cat_tup{t b:yR}{vs ws:yB}{Q:yL}(ht:IsTup s.heap t vs.toArray)(hb:IsTup s.heap b ws.toArray)(hv:vs≠[])
  (h1:ws=[]->Q (.ref t) s) (h2:ws≠[]->Q (.ref s.heap.objs.size) { s with heap:=s.heap.push { cls:=.type "tuple",data:=.seq (vs++ws).toArray } })
  (hsz:vs.length+ws.length<=jA):yX (yW prog w) A (jJ .Add (.ref t) (.ref b)) Q E s:=by
 obtain⟨⟨cls,dd,data,sl⟩,ho,hc,n,hd⟩:=id ht;obtain⟨⟨cls2,dd2,data2,sl2⟩,ho2,hc2,n2,hd2⟩:=id hb;simp only at hc hd hc2 hd2;subst hc hd hc2 hd2;have e:vs.toArray++ws.toArray=(vs++ws).toArray:=by simp
 by_cases hw:ws=[]
 ·exact dD ⟨_,ho,rfl⟩ ⟨_,ho2,rfl⟩ gR mM wW wS (wJ _ _)
   (tuple_addW1 t b vs.toArray ws.toArray n n2 dd dd2 sl sl2 (by simpa using hv) (by simp[hw])) ⟨ho,ho2,h1 hw⟩
 ·refine dD ⟨_,ho,rfl⟩ ⟨_,ho2,rfl⟩ gR mM wW wS (wJ _ _)
   (tuple_addW2 t b vs.toArray ws.toArray n n2 dd dd2 sl sl2 (by simpa using hv) (by simpa using hw) (by rw[qB1,qB1];exact hsz)) ⟨ho,ho2,?_⟩
  rw[e];exact h2 hw
noncomputable def sIx(n d:Nat):yG->Nat
 |none=>d
 |some v=>if v<0 then(v+(n:Int)).toNat else min v.toNat n
theorem sIx_none(n d:Nat):sIx n d none=d:=rfl
theorem sIx_nat(n d k:Nat):sIx n d (some (k:Int))=min k n:=by show(if(k:Int)<0 then((k:Int)+(n:Int)).toNat else min (k:Int).toNat n)=min k n;rw[if_neg (by omega),qE0]
theorem zVb(n d:Nat)(hd:d<=n)(o:yG):sIx n d o<=n:=by
 cases o with
 |none=>exact hd
 |some v =>
  show(if v<0 then(v+(n:Int)).toNat else min v.toNat n)<=n;by_cases hv:v<0
  ·rw[if_pos hv];omega
  ·rw[if_neg hv];exact Nat.min_le_right _ _
theorem zP0(v:Int)(n d:Nat):(if v<0 then max (v+(n:Int)) 0 else min v (n:Int))=((sIx n d (some v):Nat):Int):=by
 show(if v<0 then max (v+(n:Int)) 0 else min v (n:Int))=(((if v<0 then(v+(n:Int)).toNat else min v.toNat n):Nat):Int)
 by_cases hv:v<0
 ·simp only[if_pos hv];omega
 ·simp only[if_neg hv];omega
theorem zMx(lo hi:yG)(n:Nat):Builtin.Slice.sliceAdjust lo hi 1 (n:Int)=(((sIx n 0 lo:Nat):Int),((sIx n n hi:Nat):Int)):=by
 have h1:¬((1:Int)<0):=by omega
 unfold Builtin.Slice.sliceAdjust;simp only[h1,if_false];refine Prod.ext ?_ ?_
 ·cases lo with
  |none=>rfl
  |some v=>exact zP0 v n 0
 ·cases hi with
  |none=>rfl
  |some v=>exact zP0 v n n
theorem zM3(i j:Nat):Builtin.Slice.slicePlaces (i:Int) (j:Int) 1=j - i:=by
 unfold Builtin.Slice.slicePlaces;have h1:(1:Int)>0:=by omega
 simp only[h1,if_true,Int.ediv_one];split<;>omega
theorem zH2{v:yU}{o:yG}{Q:yG->yS->Prop}(p:lC v o)(h:Q o s):yX (yW prog w) A (Builtin.Slice.slicePartIndex v) Q E s:=by
 cases p with
 |none=>exact slicePart_none h
 |int i t=>exact slicePart_int h
theorem sliceApplied_gen{sl:yR}{vl vu:yU}{lo hi:yG}{n:Nat}{Q:Int×Int×Nat->yS->Prop}(hs:s.heap.IsSliceOf sl vl vu .none)(pl:lC vl lo)(pu:lC vu hi)
  (h:Q (((sIx n 0 lo:Nat):Int),1,sIx n n hi - sIx n 0 lo) s):yX (yW prog w) A (Builtin.Slice.sliceApplied (.ref sl) (pure (n:Int))) Q E s:=by obtain⟨os,hos,hcs,hds⟩:=id hs;unfold Builtin.Slice.sliceApplied Builtin.Slice.sliceFields;refine yO (yO (jZ hos hds (x:=vl) rfl (yO (jZ hos hds (x:=vu) rfl (yO (jZ hos hds (x:=.none) rfl (yP ?_)))))));refine yO (slicePart_none ?_);show yX _ _ (if((1:Int) == 0)=true then _ else _) _ _ s;rw[if_neg (by decide)];refine yO (zH2 pl (yO (zH2 pu (yO (yP ?_)))));show yX _ _ (match Builtin.Slice.sliceAdjust lo hi 1 (n:Int)with|(lo,hi)=>pure (lo,(1:Int),Builtin.Slice.slicePlaces lo hi 1)) _ _ s;rw[zMx lo hi n];show yX _ _ (pure (((sIx n 0 lo:Nat):Int),(1:Int),Builtin.Slice.slicePlaces ((sIx n 0 lo:Nat):Int) ((sIx n n hi:Nat):Int) 1)) _ _ s;rw[zM3];exact yP h
theorem zPS(xs:yJ)(i k:Nat):((List.range k).filterMap fun(m:Nat)=>xs[((i:Int)+(m:Int)*1).toNat]?).toArray=((xs.toList.drop i).take k).toArray:=by
 have e:(fun(m:Nat)=>xs[((i:Int)+(m:Int)*1).toNat]?)=λm=>xs[i+m]?:=by
  funext m;have:((i:Int)+(m:Int)*1).toNat=i+m:=by omega
  rw[this]
 rw[e];have:=pick_run xs i k;rw[List.filterMap_map]at this;have e2:((λx=>xs[x]?)∘λx=>i+x)=λm=>xs[i+m]?:=rfl;rw[e2]at this;rw[this]
theorem getItem_tuple_cut{t sl:yR}{items:yJ}{vl vu:yU}{lo hi:yG}{Q:yL}(ht:IsTup s.heap t items)(hs:s.heap.IsSliceOf sl vl vu .none)(pl:lC vl lo)(pu:lC vu hi)
  (hw:¬(sIx items.size 0 lo=0/\sIx items.size items.size hi=items.size))
  (h:Q (.ref s.heap.objs.size) { s with heap:=s.heap.push { cls:=.type "tuple",data:=.seq ((items.toList.drop (sIx items.size 0 lo)).take (sIx items.size items.size hi - sIx items.size 0 lo)).toArray } })
  (hsz:items.size<=jA):yX (yW prog w) A (gF (.ref t) (.ref sl)) Q E s:=by
 have htake:sizeOk (.seq ((items.toList.drop (sIx items.size 0 lo)).take (sIx items.size items.size hi - sIx items.size 0 lo)).toArray):=by show((items.toList.drop (sIx items.size 0 lo)).take (sIx items.size items.size hi - sIx items.size 0 lo)).toArray.size<=jA;rw[qB1,qJ6,qL1,vT];omega
 have hj:sIx items.size items.size hi<=items.size:=zVb _ _ (qA6 _) hi;obtain⟨os,hos,hcs,hds⟩:=id hs;have hTs:s.TypeIs (.ref sl) "slice":=⟨os,hos,hcs⟩
 unfold gF
 try with_reducible refine jO ?_
 first|refine yO (yP ?_)| skip
 refine yO (wpAny_sequenceKey ht.typeIs (by decide) ?_);refine yO (jM (name:=Str.ofString "__getitem__") ht.typeIs j9
  (jN j9 ht.typeIs mI ?_ (args_tuple_getitem _ _)))
 show yX _ _ (Builtin.Tuple.tupleItemsOf (.ref t) >>= _) _ _ s;refine yO (tupleItemsOf_ ht ?_);refine yO (vY hTs ?_);rw[if_pos (by decide)];refine yO (sliceApplied_gen hs pl pu ?_);have hno:¬((((sIx items.size 0 lo:Nat):Int) == 0&&(1:Int) == 1&&(sIx items.size items.size hi - sIx items.size 0 lo) == items.size)=true):=by intro q;rw[qC5,qC5]at q;have q1:((sIx items.size 0 lo:Nat):Int)=0:=eq_of_beq q.1.1;have q2:sIx items.size items.size hi - sIx items.size 0 lo=items.size:=eq_of_beq q.2;exact hw ⟨by omega,by omega⟩
 show yX _ _ (if(((sIx items.size 0 lo:Nat):Int) == 0&&(1:Int) == 1&&(sIx items.size items.size hi - sIx items.size 0 lo) == items.size)=true then _ else _) _ _ s;rw[if_neg hno,zPS]
 first
  |exact yO (m:=Builtin.Tuple.tupleExact _) (jP (yP ⟨_,rfl,yP h⟩) htake)
  |exact yO (m:=Builtin.Tuple.tupleExact _) (jP (yO (yP (yP ⟨_,rfl,yP h⟩))) htake)
  |exact yO (yO (m:=Builtin.Tuple.tupleExact _) (jP (yP (yP ⟨_,rfl,yP h⟩)) htake))
  |exact yO (yO (m:=Builtin.Tuple.tupleExact _) (jP (yP ⟨_,rfl,yP h⟩) htake))
end
end HT
namespace L2
open PySem PySem.Spec PyProof.Rows
abbrev TO:=St->Hp->(yG->Hp->Prop)->Prop
def PO(X:Cx)(e:Option y4)(t:TO):Prop :=
 ∀(pins:yD) (s:yS) (Z:St) (H:Hp) (Q:yG->Hp->Prop),Inv X pins Z H s->t Z H Q ->
  yX (yW X.prog X.w) X.A (evalPart e X.env) (λu s'=>∃o H',Inv X pins Z H' s'/\lC u o/\Q o H') X.xe s
def zRZ:TO:=λ_ H Q=>Q none H
def zY6(t:TE):TO:=fun Z H Q=>t Z H λx H1=>∃i,x=.int i/\Q (some i) H1
theorem zMd{ns:yA}:∀{us:yB},Vals (ns.map V.int) us->wL us ns:=by
 induction ns with
 |nil=>intro us r;rw[qJ7]at r;cases r;exact .nil
 |cons n ns ih =>
  intro us r;rw[qB8]at r;cases r with
  |cons r1 r2 =>
   obtain⟨t,e⟩:=r1;subst e;exact .cons n t (ih r2)
section
variable {X:Cx}{e:y4}{te:TE}{lo hi:Option y4}{tl th:TO}{pos p2:Pos}
theorem zSO:PO X none zRZ:=by intro pins s Z H Q I h;rw[evalPart_none];exact yP ⟨none,H,I,.none,h⟩
theorem zSN(h:PE X e te):PO X (some e) (zY6 te):=by intro pins s Z H Q I hw;rw[evalPart_some];refine thn (h pins s Z H _ I hw) λu s1 ⟨x,H1,I1,r1,q1⟩=>?_;obtain⟨i,rfl,q⟩:=q1;obtain⟨t,rfl⟩:=r1;exact⟨some i,H1,I1,.int i t,q⟩
def SlR(X:Cx)(r:V->yG->yG->Hp->VK->Prop):Prop :=
 ∀(pins:yD) (s:yS) (Z:St) (H:Hp) (x:V) (v vl vu:yU) (lo hi:yG) (sl:yR) (Q:VK),Inv X pins Z H s->RelV x v->s.heap.IsSliceOf sl vl vu .none->lC vl lo->lC vu hi->r x lo hi H Q ->
  ∃T id,mV (.type T) "__getitem__"=pure (some (.builtin id))/\s.TypeIs v T/\yX (yW X.prog X.w) X.A (gF v (.ref sl)) (EP X pins Z Q) X.xe s
def tSl(r:V->yG->yG->Hp->VK->Prop)(te:TE)(tl th:TO):TE:=fun Z H Q=>te Z H λx H1=>tl Z H1 λl H2=>th Z H2 λu H3=>r x l u H3 Q
theorem zPW{r:V->yG->yG->Hp->VK->Prop}(hr:SlR X r)(he:PE X e te)(hl:PO X lo tl)(hu:PO X hi th):PE X (.Subscript e (.Slice lo hi none p2) pos) (tSl r te tl th):=by intro pins s Z H Q I h;refine Subscript_ (thn (he pins s Z H _ I h) λv s1 ⟨x,H1,I1,r1,q1⟩=>?_);refine wpAny_Slice (thn (hl pins s1 Z H1 _ I1 q1) λvl s2 ⟨l,H2,I2,pl,q2⟩=>thn (hu pins s2 Z H2 _ I2 q2) λvu s3 ⟨u,H3,I3,pu,q3⟩=>?_);rw[evalPart_none];refine yP ?_;have I4:Inv X pins Z H3 { s3 with heap:=s3.heap.push { cls:=.type "slice",data:=.fields #[vl,vu,.none] } }:=I3.kept (t':=s3.toks) λb ob q=>qA5 _ q;obtain⟨T,id,hT,ht,hg⟩:=hr pins { s3 with heap:=s3.heap.push { cls:=.type "slice",data:=.fields #[vl,vu,.none] } } Z H3 x v vl vu l u s3.heap.objs.size Q I4 r1 (Heap.IsSliceOf.new ..) pl pu q3;show yX (yW X.prog X.w) X.A (mO e (.Slice lo hi none p2) v (.ref s3.heap.objs.size)) (EP X pins Z Q) X.xe { s3 with heap:=s3.heap.push { cls:=.type "slice",data:=.fields #[vl,vu,.none] } };exact tail_any (ops:=[.ref s3.heap.objs.size,v]) ht hT hg (by with_unfolding_all rfl)
noncomputable def cutV(xs:List V)(lo hi:yG):List V:=(xs.drop (HT.sIx xs.length 0 lo)).take (HT.sIx xs.length xs.length hi - HT.sIx xs.length 0 lo)
theorem zG1(xs:List V)(lo hi:yG):(cutV xs lo hi).length<=xs.length:=by unfold cutV;rw[qJ6,qL1];omega
def rSlT(K:yQ):V->yG->yG->Hp->VK->Prop:=λx lo hi H Q=>∃a xs,x=.ref a/\SqT K H a xs /\
 ¬(HT.sIx xs.length 0 lo=0/\HT.sIx xs.length xs.length hi=xs.length)/\∀p,H p=none->Q (.ref p) (upd H p (.tup (cutV xs lo hi)))
theorem zUL:SlR X (rSlT X.K):=by
 intro pins s Z H x v vl vu lo hi sl Q I rx hs pl pu h;obtain⟨a,xs,rfl,hx,hw,q⟩:=h;cases rx;obtain⟨its,r,ht,hz⟩:=I.tuple hx;have hlen:its.toArray.size=xs.length:=by rw[qB1];exact r.length.symm
 refine⟨"tuple",_,PyProof.Rows.slot_tuple_getitem.lookup,ht.typeIs,?_⟩;refine HT.getItem_tuple_cut ht hs pl pu (by rw[hlen];exact hw) ?_ (by rw[hlen];exact hz);rw[hlen];refine⟨.ref s.heap.objs.size,_,I.laid (t':=s.toks) (o:=.tup (cutV xs lo hi)) (λb ob q=>qA5 _ q) (qA6 _) ?_,rfl,q _ (I.hok.fresh (qA6 _))⟩;exact⟨qD0 (zG1 xs lo hi) hz,_,(r.drop (HT.sIx xs.length 0 lo)).take (HT.sIx xs.length xs.length hi - HT.sIx xs.length 0 lo),IsTup.new _ _⟩
def zYx(K:yQ):R2:=λx y H Q=>∃a b xs ys,x=.ref a/\y=.ref b/\SqT K H a xs/\SqT K H b ys/\xs≠[]/\xs.length+ys.length<=jA /\
 (ys=[]->Q (.ref a) H)/\(ys≠[]->∀p,H p=none->Q (.ref p) (upd H p (.tup (xs++ys))))
theorem Vals.nil_iff{xs:List V}{us:yB}(r:Vals xs us):us=[]↔xs=[]:=by
 cases r with
 |nil=>simp
 |cons _ _=>simp
theorem zSY:OpR X (jJ .Add) (zYx X.K):=by intro pins s Z H x y v u Q I rx ry h;obtain⟨a,b,xs,ys,rfl,rfl,ha,hb,hx,hz,q1,q2⟩:=h;cases rx;cases ry;obtain⟨its,r1,p1,_⟩:=I.tuple ha;obtain⟨its2,r2,p2,_⟩:=I.tuple hb;refine HT.cat_tup p1 p2 (λz=>hx (r1.nil_iff.mp z)) (λz=>⟨.ref a,H,I,rfl,q1 (r2.nil_iff.mp z)⟩) (λz=>?_) (by rw[<- r1.length,<- r2.length];exact hz);refine⟨.ref s.heap.objs.size,_,I.laid (t':=s.toks) (o:=.tup (xs++ys)) (λb ob q=>qA5 _ q) (qA6 _) ?_,rfl,q2 (λw=>z (r2.nil_iff.mpr w)) _ (I.hok.fresh (qA6 _))⟩;exact⟨by rw[qC3];exact hz,_,r1.append r2,IsTup.new _ _⟩
end
noncomputable def ixN(n:Nat)(i:Int):yK:=if 0<=i then(if i<n then some i.toNat else none)else if -(n:Int)<=i then some (i+n).toNat else none
noncomputable def atI{α:Type}(xs:List α)(i:Int):Option α:=(ixN xs.length i).bind λj=>xs[j]?
theorem zOf{n:Nat}{i:Int}{j:Nat}(h:ixN n i=some j):seqIndex? i n=some j/\j<n/\-(n:Int)<=i/\i<n:=by
 unfold ixN at h;by_cases h0:0<=i
 ·rw[if_pos h0]at h;by_cases h1:i<n
  ·rw[if_pos h1]at h;have e:i.toNat=j:=Option.some.inj h;exact⟨by rw[dO h0 h1,e],by omega,by omega,h1⟩
  ·rw[if_neg h1]at h;cases h
 ·rw[if_neg h0]at h;by_cases h1:-(n:Int)<=i
  ·rw[if_pos h1]at h;have e:(i+n).toNat=j:=Option.some.inj h;exact⟨by rw[dE (by omega) h1,e],by omega,h1,by omega⟩
  ·rw[if_neg h1]at h;cases h
theorem zPi{α:Type}{xs:List α}{i:Int}{v:α}(h:atI xs i=some v):∃j,seqIndex? i xs.length=some j/\xs[j]?=some v/\j<xs.length/\-(xs.length:Int)<=i/\i<xs.length:=by
 unfold atI at h;cases e:ixN xs.length i with
 |none=>rw[e]at h;cases h
 |some j =>
  rw[e]at h;obtain⟨h1,h2,h3,h4⟩:=zOf e;exact⟨j,h1,h,h2,h3,h4⟩
theorem zCw{α:Type}{xs:List α}{j:Nat}{v:α}(h:xs[j]?=some v):atI xs (j:Int)=some v:=by
 have hj:j<xs.length:=(qA3.mp h).1;have e:ixN xs.length (j:Int)=some j:=by unfold ixN;rw[if_pos (by omega),if_pos (by omega)];simp
 unfold atI;rw[e];exact h
theorem zIo{α:Type}(xs:List α)(v:α):atI (xs++[v]) (-1)=some v:=by
 have hl:(xs++[v]).length=xs.length+1:=by simp
 have e:ixN (xs++[v]).length (-1)=some xs.length:=by unfold ixN;rw[hl,if_neg (by decide),if_pos (by omega)];congr 1;omega
 unfold atI;rw[e];show(xs++[v])[xs.length]?=some v;simp
def zIu(b:y4):Prop:=∀o i,dP b false o i=operate [o,i] (gF o i)
def IxR(X:Cx)(r:R2):Prop :=
 ∀(value slice:y4) (pins:yD) (s:yS) (Z:St) (H:Hp) (x y:V) (v u:yU) (Q:VK),Inv X pins Z H s->RelV x v->RelV y u->r x y H Q ->
  dP slice false v u=operate [v,u] (gF v u)->yX (yW X.prog X.w) X.A (mO value slice v u) (EP X pins Z Q) X.xe s
def MtR(X:Cx)(id:String)(r:V->List V->Hp->VK->Prop):Prop :=
 ∀(pins:yD) (s:yS) (Z:St) (H:Hp) (x:V) (xs:List V) (v:yU) (us:yB) (Q:VK),Inv X pins Z H s->RelV x v->Vals xs us->r x xs H Q ->
  yX (yW X.prog X.w) X.A (call (.builtin id) (v::us)) (EP X pins Z Q) X.xe s
section
variable {X:Cx}{a b:y4}{ta tb:TE}{pos:Pos}
theorem zVw{r:R2}(hr:IxR X r)(ha:PE X a ta)(hb:PE X b tb)(hs:zIu b):PE X (.Subscript a b pos) (tOp r ta tb):=by intro pins s Z H Q I h;exact Subscript_ (binT ha hb I h λv u s2 x y H2 I2 rx ry q=>hr a b pins s2 Z H2 x y v u Q I2 rx ry q (hs _ _))
def rIxL(K:yQ):R2:=λx y H Q=>∃p xs i v,x=.ref p/\y=.int i/\SqL K H p xs/\atI xs i=some v/\Q v H
def rIxT(K:yQ):R2:=λx y H Q=>∃p xs i v,x=.ref p/\y=.int i/\SqT K H p xs/\atI xs i=some v/\Q v H
theorem zTr:IxR X (rIxL X.K):=by
 intro value slice pins s Z H x y v u Q I rx ry h hs;obtain⟨p,xs,i,z,rfl,rfl,hq,he,q⟩:=h;cases rx;obtain⟨t,rfl⟩:=ry;obtain⟨its,r,pl,hz⟩:=I.list hq;obtain⟨j,h1,h2,h3,h4,h5⟩:=zPi he;obtain⟨w,ew,rw'⟩:=r.get h2;have hl:=r.length;have hn:=zH8;have fin:EP X pins Z Q w s:=⟨z,H,I,rw',q⟩
 by_cases h0:0<=i
 ·have hj:i.toNat=j:=by rw[dO h0 h5]at h1;exact Option.some.inj h1
  exact item_listR pl.isList h0 (by omega) (by rw[hj];simpa using ew) fin hs
 ·have hj:(i+(its.toArray.size:Int)).toNat=j:=by rw[dE (by omega) h4]at h1;rw[qB1,<- hl];exact Option.some.inj h1
  exact lE (x:=w) pl.isList.typeIs slot_list_getitem.lookup
   (wpAny_getItem_list_neg (Q:=λr s'=>r=w/\EP X pins Z Q r s') pl.isList (by omega) (by rw[qB1]<;>omega) (by omega) (by rw[hj];simpa using ew) ⟨rfl,fin⟩) hs
theorem zWw:IxR X (rIxT X.K):=by
 intro value slice pins s Z H x y v u Q I rx ry h hs;obtain⟨p,xs,i,z,rfl,rfl,hq,he,q⟩:=h;cases rx;obtain⟨t,rfl⟩:=ry;obtain⟨its,r,pl,hz⟩:=I.tuple hq;obtain⟨j,h1,h2,h3,h4,h5⟩:=zPi he;obtain⟨w,ew,rw'⟩:=r.get h2;have hl:=r.length;have hn:=zH8;have fin:EP X pins Z Q w s:=⟨z,H,I,rw',q⟩
 exact lE (x:=w) pl.typeIs slot_tuple_getitem.lookup
  (getItem_tuple (j:=j) (Q:=λr s'=>r=w/\EP X pins Z Q r s') pl (by omega) (by omega) (by rw[qB1,<- hl];exact h1) (by simpa using ew) ⟨rfl,fin⟩) hs
theorem zM8(its:yB)(n j:Nat)(u:yU):wD (·.setIfInBounds j u) { cls:=.type "list",data:=.seq its.toArray n }={ cls:=.type "list",data:=.seq (its.set j u).toArray n }:=by simp[wD]
theorem Inv.lst{pins:yD}{Z:St}{H:Hp}{s:yS}{p:yR}{xs:List V}(I:Inv X pins Z H s)(h:H p=some (.lst xs)):
  ∃(its:yB) (n:Nat),Vals xs its/\s.heap.get? p=some { cls:=.type "list",data:=.seq its.toArray n }/\xs.length<=sizeLine:=by obtain⟨z,its,n,r,e⟩:=I.hok p _ h;exact⟨its,n,r,e,z⟩
theorem Inv.lstUpd{pins:yD}{Z:St}{H:Hp}{s:yS}{p:yR}{xs ys:List V}{its its':yB}{n n':Nat}{f:Obj->Obj}(I:Inv X pins Z H s)(h:H p=some (.lst xs))
  (ho:s.heap.get? p=some { cls:=.type "list",data:=.seq its.toArray n }) (hf:f { cls:=.type "list",data:=.seq its.toArray n }={ cls:=.type "list",data:=.seq its'.toArray n' }) (r:Vals ys its') (hz:ys.length<=jA) (t:Nat) :
  Inv X pins Z (upd H p (.lst ys)) { s with heap:=s.heap.update p f,toks:=t }:=by
 have e:(s.heap.update p f).get? p=some { cls:=.type "list",data:=.seq its'.toArray n' }:=by rw[qE7 f ho (by rw[hf]<;>rfl),hf]
 refine I.write (x:=p) (e:=p) (by rw[h];trivial) (.inl rfl) (λb u hb q=>(qE2 _ _ (Ne.symm hb)).trans q) ⟨_,e⟩ ?_;exact⟨hz,its',n',r,e⟩
def zYw:V->V->V->Hp->(Hp->Prop)->Prop:=λo i v H Q=>∃p xs k j,o=.ref p/\i=.int k/\H p=some (.lst xs)/\ixN xs.length k=some j/\Q (upd H p (.lst (xs.set j v)))
theorem zPA:PSet X zYw:=by
 intro pins s Z H o i v ov iv u Q I ro ri rv h;obtain⟨p,xs,k,j,rfl,rfl,hp,hj,q⟩:=h;cases ro;obtain⟨t,rfl⟩:=ri;obtain⟨its,n,r,ho,hz⟩:=I.lst hp;obtain⟨h1,h2,h3,h4⟩:=zOf hj;have hl:=r.length;have hn:=zH8;have I':Inv X pins Z (upd H p (.lst (xs.set j v))) { s with heap:=s.heap.update p (wD (·.setIfInBounds j u)) } :=
  I.lstUpd hp ho (zM8 its n j u) (r.set rv j) (by rw[qJ1];exact hz) s.toks
 by_cases h0:0<=k
 ·have hk:k.toNat=j:=by rw[dO h0 h4]at h1;exact Option.some.inj h1
  exact W.ki_setAt ho h0 (by omega) (by rw[qB1,<- hl];exact h4) (by rw[hk];exact⟨_,I',q⟩)
 ·have hk:(k+(its.toArray.size:Int)).toNat=j:=by rw[dE (by omega) h3]at h1;rw[qB1,<- hl];exact Option.some.inj h1
  exact W.ki_setBack ho (by omega) (by rw[qB1,<- hl];exact h3) (by omega) (by rw[hk];exact⟨_,I',q⟩)
theorem zII(lo hi:yG)(n:Nat):(wT lo hi none n).1=((HT.sIx n 0 lo:Nat):Int)/\(wT lo hi none n).2.1=((HT.sIx n n hi:Nat):Int)/\(wT lo hi none n).2.2=1:=by
 refine⟨?_,?_,rfl⟩
 ·cases lo with
  |none=>simp[wT,HT.sIx]
  |some i =>
   simp only[wT,HT.sIx,qQ5,show(1:Int)>0 by decide,if_true];by_cases h:i<0
   ·simp only[h,if_true]<;>omega
   ·simp only[h,if_false]<;>omega
 ·cases hi with
  |none=>simp[wT,HT.sIx]
  |some i =>
   simp only[wT,HT.sIx,qQ5,show(1:Int)>0 by decide,if_true];by_cases h:i<0
   ·simp only[h,if_true]<;>omega
   ·simp only[h,if_false]<;>omega
theorem zHr(its:yB)(lo hi:yG):slicePick its.toArray lo hi none=((its.drop (HT.sIx its.length 0 lo)).take (HT.sIx its.length its.length hi - HT.sIx its.length 0 lo)).toArray:=by obtain⟨h1,h2,h3⟩:=zII lo hi its.toArray.size;unfold slicePick;rw[h1,h2,h3];simp only[sliceRange_one,pick_run,qB1]<;>rfl
def rSlL(K:yQ):V->yG->yG->Hp->VK->Prop:=λx lo hi H Q=>∃a xs,x=.ref a/\SqL K H a xs/\∀p,H p=none->Q (.ref p) (upd H p (.lst (cutV xs lo hi)))
theorem zSd:SlR X (rSlL X.K):=by intro pins s Z H x v vl vu lo hi sl Q I rx hs pl pu h;obtain⟨a,xs,rfl,hx,q⟩:=h;cases rx;obtain⟨its,r,ht,hz⟩:=I.list hx;have hlen:=r.length;refine⟨"list",_,slot_list_getitem.lookup,ht.isList.typeIs,?_⟩;refine wpAny_getItem_list_slice ht.isList hs pl pu .none (by simp) ?_ (by rw[qB1]<;>omega);rw[zHr,<- hlen];refine⟨.ref s.heap.objs.size,_,I.laid (t':=s.toks) (o:=.lst (cutV xs lo hi)) (λb ob q=>qA5 _ q) (qA6 _) ?_,rfl,q _ (I.hok.fresh (qA6 _))⟩;exact⟨qD0 (zG1 xs lo hi) hz,_,0,(r.drop (HT.sIx xs.length 0 lo)).take (HT.sIx xs.length xs.length hi - HT.sIx xs.length 0 lo),qB4 _ rfl⟩
noncomputable def zGu:V->Bool
 |.non=>true
 |.bl _=>true
 |.int _=>true
 |.str _=>true
 |_=>false
noncomputable def eqV:V->V->Bool
 |.non,.non=>true
 |.bl a,.bl b=>a == b
 |.bl a,.int b=>(if a then 1 else 0) == b
 |.int a,.bl b=>a == (if b then 1 else 0)
 |.int a,.int b=>a == b
 |.str a,.str b=>a == b
 |_,_=>false
theorem zWX{A:jE}{s:yS}{y x:V}{u v:yU}(ry:RelV y u)(rx:RelV x v)(fy:zGu y=true)(fx:zGu x=true):SeqAt.EqAt A s u v (eqV y x):=by
 cases y with
 |non =>
  cases ry;cases x with
  |non=>cases rx;exact SeqAt.EqAt.same _
  |bl b=>cases rx;exact SeqAt.EqAt.none_bool b
  |int b=>obtain⟨t,rfl⟩:=rx;exact SeqAt.EqAt.none_int b t
  |str b=>obtain⟨t,rfl⟩:=rx;exact SeqAt.EqAt.none_str b t
  |_=>exact absurd (show false=true from fx) qA9
 |bl a =>
  cases ry;cases x with
  |non=>cases rx;exact SeqAt.EqAt.bool_none a
  |bl b=>cases rx;exact SeqAt.EqAt.bool_bool a b
  |int b=>obtain⟨t,rfl⟩:=rx;exact SeqAt.EqAt.bool_int a b t
  |str b=>obtain⟨t,rfl⟩:=rx;exact SeqAt.EqAt.bool_str a b t
  |_=>exact absurd (show false=true from fx) qA9
 |int a =>
  obtain⟨t',rfl⟩:=ry;cases x with
  |non=>cases rx;exact SeqAt.EqAt.int_none a t'
  |bl b=>cases rx;exact SeqAt.EqAt.int_bool a t' b
  |int b=>obtain⟨t,rfl⟩:=rx;exact SeqAt.EqAt.int_int a t' b t
  |str b=>obtain⟨t,rfl⟩:=rx;exact SeqAt.EqAt.int_str a t' b t
  |_=>exact absurd (show false=true from fx) qA9
 |str a =>
  obtain⟨t',rfl⟩:=ry;cases x with
  |non=>cases rx;exact SeqAt.EqAt.str_none a t'
  |bl b=>cases rx;exact SeqAt.EqAt.str_bool a t' b
  |int b=>obtain⟨t,rfl⟩:=rx;exact SeqAt.EqAt.str_int a t' b t
  |str b=>obtain⟨t,rfl⟩:=rx;exact SeqAt.EqAt.str_str a t' b t
  |_=>exact absurd (show false=true from fx) qA9
 |_=>exact absurd (show false=true from fy) qA9
noncomputable def eqU(x:V)(u:yU):Bool:=match u with
 |.none=>eqV .non x
 |.bool b=>eqV (.bl b) x
 |.int i _=>eqV (.int i) x
 |.str z _=>eqV (.str z) x
 |_=>false
theorem zRx{x y:V}{u:yU}(r:RelV y u)(f:zGu y=true):eqU x u=eqV y x:=by
 cases y with
 |non=>cases r;rfl
 |bl b=>cases r;rfl
 |int i=>obtain⟨t,rfl⟩:=r;rfl
 |str z=>obtain⟨t,rfl⟩:=r;rfl
 |_=>exact absurd (show false=true from f) qA9
theorem zGg{x:V}:∀{xs:List V}{us:yB},Vals xs us->xs.all zGu=true->us.any (eqU x)=xs.any λy=>eqV y x
 |_,_,.nil,_=>rfl
 |y::xs,u::us,.cons r t,f=>by rw[qM8,qC5]at f;rw[qH3,qH3,zRx r f.1,zGg t f.2]
theorem zEb{A:jE}{s:yS}{x:V}{v:yU}(rx:RelV x v)(fx:zGu x=true):∀{xs:List V}{us:yB},Vals xs us->xs.all zGu=true->∀u∈us,SeqAt.EqAt A s u v (eqU x u)
 |_,_,.nil,_=>λu hu=>by cases hu
 |y::xs,u::us,.cons r t,f=>λu' hu=>by
  rw[qM8,qC5]at f;rcases qB0.mp hu with rfl|hu
  ·rw[zRx r f.1];exact zWX r rx f.1 fx
  ·exact zEb rx fx t f.2 u' hu
noncomputable def inV(x:V)(xs:List V):Bool:=xs.any λy=>eqV y x
def rIn(K:yQ)(neg:Bool):R2:=λx y H Q=>∃p xs,y=.ref p/\(SqL K H p xs∨SqT K H p xs)/\zGu x=true/\xs.all zGu=true/\Q (.bl (if neg then !inV x xs else inV x xs)) H
theorem zNz:OpR X (y9 .In) (rIn X.K false):=by
 intro pins s Z H x y v u Q I rx ry h;obtain⟨p,xs,rfl,hq,fx,fs,q⟩:=h;cases ry;rcases hq with hq|hq
 ·obtain⟨its,r,pl,hz⟩:=I.list hq;refine SeqAt.in_listAt (eqU x) pl.isList (λw hw=>zEb rx fx r fs w (by simpa using hw)) ⟨.bl _,H,I,rfl,?_⟩;rw[show its.toArray.any (eqU x)=its.any (eqU x) by simp,zGg r fs];exact q
 ·obtain⟨its,r,pl,hz⟩:=I.tuple hq;refine SeqAt.in_tupleAt (eqU x) pl (λw hw=>zEb rx fx r fs w (by simpa using hw)) ⟨.bl _,H,I,rfl,?_⟩;rw[show its.toArray.any (eqU x)=its.any (eqU x) by simp,zGg r fs];exact q
theorem zIV:OpR X (y9 .NotIn) (rIn X.K true):=by
 intro pins s Z H x y v u Q I rx ry h;obtain⟨p,xs,rfl,hq,fx,fs,q⟩:=h;cases ry;rcases hq with hq|hq
 ·obtain⟨its,r,pl,hz⟩:=I.list hq;refine SeqAt.notIn_listAt (eqU x) pl.isList (λw hw=>zEb rx fx r fs w (by simpa using hw)) ⟨.bl _,H,I,rfl,?_⟩;rw[show its.toArray.any (eqU x)=its.any (eqU x) by simp,zGg r fs];exact q
 ·obtain⟨its,r,pl,hz⟩:=I.tuple hq;refine SeqAt.notIn_tupleAt (eqU x) pl (λw hw=>zEb rx fx r fs w (by simpa using hw)) ⟨.bl _,H,I,rfl,?_⟩;rw[show its.toArray.any (eqU x)=its.any (eqU x) by simp,zGg r fs];exact q
theorem zJB:zBN X (.builtin "len") (λxs H Q=>∃p ys,xs=[.ref p]/\(SqL X.K H p ys∨SqT X.K H p ys)/\Q (.int ys.length) H):=by
 intro pins s Z H xs us Q I r h;obtain⟨p,ys,rfl,hq,q⟩:=h;obtain⟨u,rfl,rx⟩:=zDd r;cases rx;have hn:=zH8;rcases hq with hq|hq
 ·obtain⟨its,r',pl,hz⟩:=I.list hq;have hlen:=r'.length;exact Calls.call_len_list pl.isList (by simp only[qB1]<;>omega) ⟨.int ys.length,H,I.tok _,⟨s.toks+1,by rw[qB1,hlen]⟩,q⟩
 ·obtain⟨its,r',pl,hz⟩:=I.tuple hq;have hlen:=r'.length;exact len_tuple pl (by simp only[qB1]<;>omega) ⟨.int ys.length,H,I.tok _,⟨s.toks+1,by rw[qB1,hlen]⟩,q⟩
theorem zJA:zBN X (.builtin "len") (λxs H Q=>∃z,xs=[.str z]/\z.length<=jA/\Q (.int z.length) H):=by intro pins s Z H xs us Q I r h;obtain⟨z,rfl,hz,q⟩:=h;obtain⟨u,rfl,t,rfl⟩:=zDd r;have hn:=zH8;exact len_str (by omega) ⟨.int z.length,H,I.tok _,⟨_,rfl⟩,q⟩
theorem zJz:zBN X (.type "list") (λxs H Q=>∃p ys,xs=[.ref p]/\(SqL X.K H p ys∨SqT X.K H p ys)/\∀l,H l=none->Q (.ref l) (upd H l (.lst ys))):=by
 intro pins s Z H xs us Q I r h;obtain⟨p,ys,rfl,hq,q⟩:=h;obtain⟨u,rfl,rx⟩:=zDd r;cases rx;have fin:∀(its:yB),Vals ys its->ys.length<=jA->∀(h':jC) (c':Nat),(∀b o',s.heap.get? b=some o'->h'.get? b=some o') ->
   h'.get? s.heap.objs.size=some { cls:=.type "list",dict:=none,data:=.seq its.toArray c',slots:=#[] }->EP X pins Z Q (.ref s.heap.objs.size) { s with heap:=h' }:=λits r' hz h' c' kp e =>
  ⟨.ref s.heap.objs.size,_,I.laid (t':=s.toks) kp (qA6 _) (show zBL X.prog X.w _ h' _ (.lst ys)from⟨hz,its,c',r',e⟩),rfl,q _ (I.hok.fresh (qA6 _))⟩
 rcases hq with hq|hq
 ·obtain⟨its,r',pl,hz⟩:=I.list hq;have hlen:=r'.length;obtain⟨o,ho,hc,n,hd⟩:=pl.isList;exact call_list_seq p (.inl rfl) ho hc hd (λh' c' kp e=>fin its r' hz h' c' kp e) (by simp only[qB1]<;>omega)
 ·obtain⟨its,r',pl,hz⟩:=I.tuple hq;have hlen:=r'.length;obtain⟨o,ho,hc,n,hd⟩:=pl;exact call_list_seq p (.inr rfl) ho hc hd (λh' c' kp e=>fin its r' hz h' c' kp e) (by simp only[qB1]<;>omega)
theorem zEg:zBN X (.type "tuple") (λxs H Q=>∃p ys,xs=[.ref p]/\((SqL X.K H p ys/\∀l,H l=none->Q (.ref l) (upd H l (.tup ys)))∨(SqT X.K H p ys/\Q (.ref p) H))):=by
 intro pins s Z H xs us Q I r h;obtain⟨p,ys,rfl,h⟩:=h;obtain⟨u,rfl,rx⟩:=zDd r;cases rx;rcases h with⟨hq,q⟩| ⟨hq,q⟩
 ·obtain⟨its,r',pl,hz⟩:=I.list hq;have hlen:=r'.length;refine call_tuple_list pl.isList (λh' kp=>?_) (by simp only[qB1]<;>omega);have I1:Inv X pins Z H { s with heap:=h' }:=I.kept (t':=s.toks) kp;have I2:Inv X pins Z (upd H h'.objs.size (.tup ys)) { s with heap:=h'.push { cls:=.type "tuple",data:=.seq its.toArray } } :=
   I1.laid (t':=s.toks) (λb o e=>qA5 _ e) (qA6 _) (show zBL X.prog X.w _ _ _ (.tup ys)from⟨hz,its,r',IsTup.new _ _⟩)
  exact⟨.ref h'.objs.size,_,I2,rfl,q _ (I1.hok.fresh (qA6 _))⟩
 ·obtain⟨its,r',pl,hz⟩:=I.tuple hq;exact call_tuple_same pl ⟨.ref p,H,I,rfl,q⟩
def tyV(K:yQ)(T:String)(x:V)(H:Hp):Prop:=match x with
 |.str _=>T = "str"
 |.int _=>T = "int"
 |.ref p=>(T = "list"/\∃xs,SqL K H p xs)∨(T = "tuple"/\∃o,K.lookup p=some o/\o.cls=.type "tuple"/\o.dict=none) ∨
   (T = "dict"/\((∃kvs,H p=some (.dK kvs))∨∃kvs,H p=some (.dT kvs)))∨(T = "set"/\∃S n,H p=some (.set S n))
 |_=>False
theorem zR7{pins:yD}{Z:St}{H:Hp}{s:yS}{T:String}{x:V}{v:yU}(I:Inv X pins Z H s)(r:RelV x v)(ty:tyV X.K T x H):
  s.TypeIs v T/\∀a,v=.ref a->∃ob,s.heap.get? a=some ob/\ob.dict=none:=by
 cases x with
 |str z =>
  obtain⟨t,rfl⟩:=r;cases (show T = "str" from ty);exact⟨typeIs_str s z t,λ_ e=>nomatch e⟩
 |int i =>
  obtain⟨t,rfl⟩:=r;cases (show T = "int" from ty);exact⟨typeIs_int s i t,λ_ e=>nomatch e⟩
 |ref p =>
  cases r;rcases ty with⟨rfl,xs,hq⟩| ⟨rfl,o,hk,hc,hd⟩| ⟨rfl,hk⟩| ⟨rfl,S,n,hk⟩
  ·obtain⟨its,_,pl,_⟩:=I.list hq;refine⟨pl.isList.typeIs,λa e=>?_⟩;cases e;obtain⟨o,n,e,c,hd,_⟩:=pl;exact⟨o,e,hd⟩
  ·refine⟨⟨o,I.kIn p o hk,hc⟩,λa e=>?_⟩;cases e;exact⟨o,I.kIn _ o hk,hd⟩
  ·have z:∃o,s.heap.get? p=some o/\o.ExactDict:=by
    rcases hk with⟨kvs,hk⟩| ⟨kvs,hk⟩
    ·obtain⟨_,_,_,_,o,_,_,e,ex,_⟩:=I.hok p _ hk;exact⟨o,e,ex⟩
    ·obtain⟨_,_,_,_,o,_,_,e,ex,_⟩:=I.hok p _ hk;exact⟨o,e,ex⟩
   obtain⟨o,e,ex⟩:=z;refine⟨⟨o,e,ex.1⟩,λa e2=>?_⟩;cases e2;exact⟨o,e,ex.2.1⟩
  ·obtain⟨o,_,_,_,e,ex,_⟩:=I.hok p _ hk;refine⟨⟨o,e,ex.1⟩,λa e2=>?_⟩;cases e2;exact⟨o,e,ex.2.1⟩
 |_=>exact False.elim ty
def tBM0(K:yQ)(T:String)(r:V->List V->Hp->VK->Prop)(to:TE):TE:=fun Z H Q=>to Z H λx H1=>tyV K T x H1/\r x [] H1 Q
def tBM(K:yQ)(T:String)(r:V->List V->Hp->VK->Prop)(to:TE)(t:TA):TE:=fun Z H Q=>to Z H λx H1=>tyV K T x H1/\t Z H1 λxs H2=>r x xs H2 Q
variable {o e:y4}{es:yE}{to:TE}{t:TA}{name:Str}{apos cpos:Pos}{T id:String}{r:V->List V->Hp->VK->Prop}
theorem zVy(pa:mW T)(slot:Slot T name id)(hty:mX (.builtin id)=pure (.type "method_descriptor"))(hm:MtR X id r)(ho:PE X o to)
  (hbase:wK o name X.env (vL o X.env)=vL o X.env:=by rfl) (hline:(apos.endLine == cpos.line)=true:=by rfl):PE X (.Call (.Attribute o name apos) [] [] cpos) (tBM0 X.K T r to):=by intro pins s Z H Q I h;refine wpAny_Call_method0_late hbase hline (thn (ho pins s Z H _ I h) λv s1 ⟨x,H1,I1,r1,ty,q1⟩=>?_);obtain⟨h1,h2⟩:=zR7 I1 r1 ty;exact⟨T,id,pa,slot,hty,h1,h2,lF rfl (PySem.evalArgs_none (hm pins s1 Z H1 x [] v [] Q I1 r1 .nil q1))⟩
theorem zYD(pa:mW T)(slot:Slot T name id)(hty:mX (.builtin id)=pure (.type "method_descriptor"))(hm:MtR X id r)(ho:PE X o to)(ha:PA X (e::es) t)
  (hbase:wK o name X.env (vL o X.env)=vL o X.env:=by rfl)
  (hfew:((wM cpos (jF (e::es) X.env)).all (λx=>!x.1)&&(backToKw cpos (lV [] X.env)).all (λx=>x.1.isSome)
   && decide ((e::es).length+([]:List lG).length+(if([]:List lG).isEmpty then 0 else 1)<30))=true:=by rfl)
  (hline:(apos.endLine == cpos.line)=true:=by rfl) (hs:jF (e::es) X.env=(false,vL e X.env)::jF es X.env:=by rfl) (hplain:(wM cpos (jF es X.env)).any (·.1)=false:=by rfl) :
  PE X (.Call (.Attribute o name apos) (e::es) [] cpos) (tBM X.K T r to t):=by intro pins s Z H Q I h;refine wpAny_Call_method_late hbase hfew hline rfl (thn (ho pins s Z H _ I h) λv s1 ⟨x,H1,I1,r1,ty,q1⟩=>?_);obtain⟨h1,h2⟩:=zR7 I1 r1 ty;refine⟨T,id,pa,slot,hty,h1,h2,?_⟩;have hA:=ha cpos pins s1 Z H1 _ I1 q1;rw[hs]at hA ⊢;refine lF (by show(false||(wM cpos (jF es X.env)).any (·.1))=false;rw[hplain]<;>rfl) (lW ?_);exact thn hA λus s2 ⟨vs,H2,I2,r2,q2⟩=>hm pins s2 Z H2 x vs v us Q I2 r1 r2 q2
end
def MtM(X:Cx)(id:String)(r:V->List V->Hp->VK->Prop):Prop :=
 ∀(pins:yD) (s:yS) (Z:St) (H:Hp) (x:V) (xs:List V) (v:yU) (us:yB) (Q:VK),Inv X pins Z H s->RelV x v->Vals xs us->r x xs H Q ->
  yX (yW X.prog X.w) X.A (call (.builtin id) (v::us)) (EP X pins Z Q) X.xe s
theorem Vals.cinv{x:V}{xs:List V}:∀{us:yB},Vals (x::xs) us->∃u r,us=u::r/\RelV x u/\Vals xs r
 |_,.cons r t=>⟨_,_,rfl,r,t⟩
theorem Vals.ninv:∀{us:yB},Vals [] us->us=[]
 |_,.nil=>rfl
theorem Vals.one{x:V}{us:yB}(h:Vals [x] us):∃u,us=[u]/\RelV x u:=by obtain⟨u,r,rfl,a,t⟩:=h.cinv;rw[t.ninv];exact⟨u,rfl,a⟩
theorem Vals.two{x y:V}{us:yB}(h:Vals [x,y] us):∃u v,us=[u,v]/\RelV x u/\RelV y v:=by obtain⟨u,r,rfl,a,t⟩:=h.cinv;obtain⟨v,rfl,b⟩:=t.one;exact⟨u,v,rfl,a,b⟩
theorem Vals.zero:∀{us:yB},Vals [] us->us=[]
 |_,.nil=>rfl
theorem Vals.dropLast{xs:List V}{us:yB}(h:Vals xs us):Vals xs.dropLast us.dropLast:=by
 induction h with
 |nil=>exact .nil
 |cons r t ih =>
  cases t with
  |nil=>exact .nil
  |cons q t'=>exact .cons r ih
section
variable {X:Cx}{pins:yD}{Z:St}{H:Hp}{s:yS}{l b:yR}{xs ys zs:List V}
theorem Inv.lset{its its':yB}{n:Nat}{f:yJ->yJ}{t':Nat}(I:Inv X pins Z H s)(hH:H l=some (.lst xs))
  (e:s.heap.get? l=some { cls:=.type "list",data:=.seq its.toArray n }) (hf:f its.toArray=its'.toArray) (hv:Vals ys its') (hz:ys.length<=jA) :
  Inv X pins Z (upd H l (.lst ys)) { s with heap:=s.heap.update l (wD f),toks:=t' }:=by have q:=PySem.IsL.update e f;rw[hf]at q;refine I.write (x:=l) (e:=l) (by rw[hH];exact trivial) (.inl rfl) (λb' u hb hu=>(qE2 s.heap (wD f) (Ne.symm hb)).trans hu) ⟨_,q⟩ ?_;exact⟨hz,its',_,hv,q⟩
theorem Inv.lnew{its:yB}{t':Nat}(I:Inv X pins Z H s)(hv:Vals ys its)(hz:ys.length<=jA):
  Inv X pins Z (upd H s.heap.objs.size (.lst ys)) { s with heap:=s.heap.push { cls:=.type "list",data:=.seq its.toArray },toks:=t' } :=
 I.laid (λ_ _ q=>qA5 _ q) (qA6 _) ⟨hz,its,0,hv,qB4 _ rfl⟩
theorem Inv.fresh(I:Inv X pins Z H s):H s.heap.objs.size=none:=I.hok.fresh (qA6 _)
theorem Inv.lstM(I:Inv X pins Z H s)(hH:H l=some (.lst xs)):xs.length<=jA/\∃(its:yB) (n:Nat),Vals xs its/\xs.length=its.length/\s.heap.get? l=some { cls:=.type "list",data:=.seq its.toArray n }:=by obtain⟨z,its,n,r,e⟩:=I.hok l _ hH;exact⟨z,its,n,r,r.length,e⟩
end
section
variable {X:Cx}
def zSD:V->List V->Hp->VK->Prop:=λx vs H Q=>∃l xs y,x=.ref l/\vs=[y]/\H l=some (.lst xs)/\xs.length<jA/\Q .non (upd H l (.lst (xs++[y])))
theorem zJ0:MtM X "list.append" zSD:=by intro pins s Z H x vs v us Q I rx rv h;obtain⟨l,xs,y,rfl,rfl,hH,hz,q⟩:=h;cases rx;obtain⟨u,rfl,ru⟩:=rv.one;obtain⟨z,its,n,r,hl,e⟩:=I.lstM hH;refine call_meets F.slot_list_append ⟨_,e,rfl⟩ F.entry_list_append (F.args_list_append_2 _ _) (PySem.list_append l its.toArray n u (by rw[qB1];omega)) ⟨e,?_⟩;refine⟨.non,_,I.lset (its':=its++[u]) hH e (by simp) (r.append (.cons ru .nil)) ?_,rfl,q⟩;rw[qC3,List.length_singleton];omega
def rCat:R2:=λx y H Q=>∃l b xs zs,x=.ref l/\y=.ref b/\H l=some (.lst xs)/\H b=some (.lst zs)/\xs.length+zs.length<=jA/\∀p,H p=none->Q (.ref p) (upd H p (.lst (xs++zs)))
theorem zVW:OpR X (jJ .Add) rCat:=by
 intro pins s Z H x y v u Q I rx ry h;obtain⟨l,b,xs,zs,rfl,rfl,hH,hB,hz,q⟩:=h;cases rx;cases ry;obtain⟨z,its,n,r,hl,e⟩:=I.lstM hH;obtain⟨z2,its2,n2,r2,hl2,e2⟩:=I.lstM hB;refine PySem.P.add_list e e2 ?_ (by rw[qB1,qB1];omega);have ea:its.toArray++its2.toArray=(its++its2).toArray:=by simp
 rw[ea];exact⟨.ref _,_,I.lnew (t':=s.toks) (r.append r2) (by rw[qC3];omega),rfl,q _ I.fresh⟩
end
end L2
namespace Att
open PySem PySem.W PySem.Calls PyProof.Rows
theorem zFI{P:Params}{h:jC}:∀(ns:yA) (vs:yB),WellAll P h vs (ns.map WData.int)->wL vs ns:=by
 intro ns
 induction ns with
 |nil =>
  intro vs w;rw[qJ7]at w;cases w;exact .nil
 |cons n ns ih =>
  intro vs w;rw[qB8]at w;cases w with
  |cons a b =>
   cases a;exact .cons _ _ (ih _ b)
theorem zN8{l:OpenLaw}{n:Nat}(hn:l.most=some n){P:Params}{h:jC}{args:List WData}{vals:yB}
  (hpre:l.row.toRowW.claim.pre args=true) (hwl:WellAll P h vals args) :
  ∃a vs ns,vals=[Value.ref a]/\args=[WData.list (ns.map WData.int)]/\h.get? a=some { cls:=.type "list",data:=.seq vs.toArray }/\wL vs ns/\ns.length<=n:=by
 have hsh:WShape.hasAll [] args [.list .int]=true:=(pre_splitW hpre).1;have hc:l.pre.holds [] { args:=args }=true:=(pre_splitW hpre).2;obtain⟨d,r,rfl,h1,h2⟩:=hasAllW_cons hsh;obtain rfl:=hasAllW_nil h2;obtain⟨xs,rfl,h3⟩:=hasW_list h1;obtain⟨ns,rfl⟩:=items_int h3;have hlen:ns.length<=n:=by
  unfold OpenLaw.pre at hc;have h4:(WTm.not (.lt (.lit (.int (n:Int))) (.len (.arg 0)))).holds [] { args:=[.list (ns.map .int)] }=true:=by have h4:=(holds_andW hc).1;rw[hn]at h4;exact h4
  have h5:=condW_of h4 (w_not (w_lt w_lit (w_len_list (w_arg rfl))));rw[qA8]at h5;refine qN1 λq=>?_;have q':(n:Int)<((ns.length:Nat):Int):=by omega
  first
   |(rw[decide_eq_true q']at h5;exact absurd h5 (by decide))
   |(simp at h5;omega)
 cases hwl with
 |cons w1 w2 =>
  cases w2;cases w1 with
  |list ho hall=>exact⟨_,_,ns,rfl,rfl,ho,zFI ns _ hall,hlen⟩
theorem zNm(l:OpenLaw)(args:List WData):l.row.toRowW.claim.post args (.bool true) args=true :=
 postW_of (r:=l.row.toRowW) (X:=(true == true))
  (show WShape.has [] (.bool true) .bool=true by first|rfl|decide|simp[WShape.has,WShape.arms,WShape.armsAll])
  (show(WTm.eq .res (.lit (.bool true))).value [] { args:=args,res:=some (.bool true),after:=args }=some (.bool (true == true))from w_eq_bool (w_res rfl) w_lit) rfl
theorem attach_call{l:OpenLaw}{n:Nat}{q:y7}{loose:yH}{XP:(Str->yF)->jC->Prop}{YP:jD->jC->Prop}{d:DefRec}
  (hn:l.most=some n) (hdf:d.params.defaults=[])
  (call:∀(w:jD) (s₀ s₁:yS) (mg mb:Str->yF) (fa:yR) (o:Obj) (pm cd doc:yU) (a:yR) (vs:yB) (ns:yA),
   Ground q loose [] XP w s₀ mg mb s₁.heap->YP w s₁.heap ->
   s₁.heap.get? fa=some o->o.data=.func (docDef d.name d.params d.body d.scope pm cd doc)->s₁.heap.CodeRec cd d.name->mg d.name=some (.ref fa) ->
   s₁.heap.get? a=some { cls:=.type "list",data:=.seq vs.toArray }->wL vs ns->ns.length<=n->s₁.gens=#[] ->
   vU (yW l.prog w) mF (.call (.ref fa) ⟨[.ref a],[]⟩) (λr s'=>r=.ok (.ret (.bool true))/\OldK s₁.heap s'.heap/\s'.os=s₁.os/\fT s'.gens) s₁) :
  WalkO q loose XP YP l.row.toRowW d [] (λf vs=>PySem.call f vs):=by intro w s₀ s₁ mg mb G Y fa o pm cd doc dV kV ho hd hcd hD hmg hg args vals as hpre hlay hrd hwl hlo;obtain rfl:dV=.none:=Dflts.none hD hdf;obtain rfl:kV=.none:=Dflts.noKw hD;obtain⟨a,vs,ns,rfl,rfl,hobj,hints,hlen⟩:=zN8 hn hpre hwl;refine enter_call (vR (call w s₀ s₁ mg mb fa o pm cd doc a vs ns G Y ho (fd_plain hd) hcd hmg hobj hints hlen hg) λr s' hq=>?_);obtain⟨rfl,h2,h3,h4⟩:=hq;exact⟨.inl ⟨.bool true,.bool true,[],rfl,λ_=>rfl,.bool true,zNm l _,λ_=>⟨List.Pairwise.nil,λ_ hm=>(nomatch hm)⟩⟩,h2,h3,h4⟩
end Att
namespace L2
open PySem PySem.Spec PyProof.Rows
theorem zIz:∀{vs:yB}{ns:yA},wL vs ns->Vals (ns.map V.int) vs
 |_,_,.nil=>.nil
 |_,_,.cons n t h=>.cons ⟨t,rfl⟩ (zIz h)
noncomputable def zD1(s:vI):Arguments:=match s with
 |.FunctionDef _ a _ _ _ _ _ _ _ _=>a
 |_=>{ posonlyargs:=[],args:=[],vararg:=none,kwonlyargs:=[],kw_defaults:=[],kwarg:=none,defaults:=[] }
noncomputable def zAr(s:vI):List Stmt:=match s with
 |.FunctionDef _ _ b _ _ _ _ _ _ _=>b
 |_=>[]
noncomputable def zA1(s:vI):Scope:=match s with
 |.FunctionDef _ _ _ _ _ _ sc _ _ _=>sc
 |_=>{ kind:=.function,names:=[],isGenerator:=false,isCoroutine:=false }
noncomputable abbrev CX0:CXT:=λ_ _ _ _ _ _=>False
noncomputable abbrev E0:XK:=λ_ _ _=>False
structure Fun(K:yQ)(x qual:Str)(st:vI)(f:yR)(fd:jX):Prop where
 ex:∃(oc:yU) (od:Option yR) (kV doc pm:yU) (an:Option yR) (cdv ct:yU) (osl:Array (yF)),
  fd=gK x qual (zD1 st) (zAr st) (zA1 st) .none kV doc pm an cdv ct/\K.lookup f=some ⟨oc,od,.func fd,osl⟩/\m9 K cdv qual=true
 kp:lT K (.ref f)=true
section
variable {P:y7}{w:jD}{K:yQ}{mg:Str->yF}{base:jC}
theorem Fun.binds{x qual:Str}{st:vI}{f:yR}{fd:jX}{ps:yH}(F:Fun K x qual st f fd)
  (h:∀(kV doc pm:yU) (an:Option yR) (cdv ct:yU) (us:yB),us.length=ps.length->bindArgs (gK x qual (zD1 st) (zAr st) (zA1 st) .none kV doc pm an cdv ct) ⟨us,[]⟩=pure (ps.zip us)):zEm K fd ps []:=by obtain⟨oc,od,kV,doc,pm,an,cdv,ct,osl,rfl,lk,hcd⟩:=F.ex;exact .all (h kV doc pm an cdv ct)
theorem zWL{x qual:Str}{st:vI}{f:yR}{oc:yU}{od an:Option yR}{osl:Array (yF)}{kV doc pm cdv ct:yU}(l:K.lookup f=some ⟨oc,od,.func (gK x qual (zD1 st) (zAr st) (zA1 st) .none kV doc pm an cdv ct),osl⟩)
  (c:m9 K cdv qual=true) (k:lT K (.ref f)=true):Fun K x qual st f (gK x qual (zD1 st) (zAr st) (zA1 st) .none kV doc pm an cdv ct):=⟨⟨oc,od,kV,doc,pm,an,cdv,ct,osl,rfl,l,c⟩,k⟩
end
theorem zQD{A:jE}{k:Nat}(hr:Room k A):A.units+1<cLine:=qG2 (Nat.add_le_add_left (by decide:1<=64) _) hr.units
theorem zIH{n:Nat}(h:n<=1000):n<sizeLine:=qG2 h (by decide)
def Same(H H':Hp):Prop:=∀b o,H b=some o->H' b=some o
theorem Same.refl(H:Hp):Same H H:=λ_ _ h=>h
section
variable {κ:Type} [DecidableEq κ]
noncomputable def valV(kvs:List (κ×V))(k:κ):Option V:=(kvs.find? λkv=>decide (kv.1=k)).map (·.2)
noncomputable def putK(kvs:List (κ×V))(k:κ)(v:V):List (κ×V) :=
 if(kvs.any λkv=>decide (kv.1=k))=true then kvs.map (λkv=>if kv.1=k then(kv.1,v)else kv)else kvs++[(k,v)]
theorem zF9{p:κ×V}{r:List (κ×V)}{k:κ}(e:p.1=k):valV (p::r) k=some p.2:=by simp[valV,qF4,e]
theorem zFa{p:κ×V}{r:List (κ×V)}{k:κ}(e:¬p.1=k):valV (p::r) k=valV r k:=by simp[valV,qF4,e]
theorem zKU(k:κ):∀kvs:List (κ×V),(kvs.any λkv=>decide (kv.1=k))=(valV kvs k).isSome
 |[]=>rfl
 |p::r=>by
  rw[qH3];by_cases e:p.1=k
  ·simp only[zF9 e,decide_eq_true e,Bool.true_or,qP5]
  ·rw[zFa e,decide_eq_false e,Bool.false_or];exact zKU k r
theorem zDU(kvs:List (κ×V))(k:κ)(v:V):(putK kvs k v).length<=kvs.length+1:=by
 unfold putK;split
 ·rw[qA8];omega
 ·rw[qC3,qD4,qN5];omega
theorem RelO.isSome_eq{o:Option V}{u:yF}(r:RelO o u):o.isSome=u.isSome:=by
 cases o with
 |none=>cases u with
  |none=>rfl
  |some _=>exact(show False from r).elim
 |some _=>cases u with
  |none=>exact(show False from r).elim
  |some _=>rfl
theorem KV.val{kvs:List (κ×V)}{vs:List (κ×yU)}(r:KV kvs vs)(k:κ):RelO (valV kvs k) (mG vs k):=by
 unfold KV at r
 induction r with
 |nil=>exact True.intro
 |@cons p q ps qs h t ih =>
  obtain⟨h1,h2⟩:=h;by_cases e:p.1=k
  ·have e':q.1=k:=h1.symm.trans e;have b:mG (q::qs) k=some q.2:=by simp[mG,qF4,e']
   rw[zF9 e,b];exact h2
  ·have e':¬q.1=k:=λz=>e (h1.trans z);have b:mG (q::qs) k=mG qs k:=by simp[mG,qF4,e']
   rw[zFa e,b];exact ih
theorem KV.any{kvs:List (κ×V)}{vs:List (κ×yU)}(r:KV kvs vs)(k:κ):(kvs.any λkv=>decide (kv.1=k))=vs.any λkv=>decide (kv.1=k):=by
 unfold KV at r
 induction r with
 |nil=>rfl
 |cons h t ih=>rw[qH3,qH3,ih,h.1]
theorem KV.repl{kvs:List (κ×V)}{vs:List (κ×yU)}(r:KV kvs vs)(k:κ){y:V}{u:yU}(ry:RelV y u):
  KV (kvs.map λkv=>if kv.1=k then(kv.1,y)else kv) (vs.map λkv=>if kv.1=k then(kv.1,u)else kv):=by
 unfold KV at r ⊢
 induction r with
 |nil=>exact .nil
 |@cons p q ps qs h t ih =>
  rw[qB8,qB8];refine .cons ?_ ih;obtain⟨h1,h2⟩:=h;by_cases e:p.1=k
  ·rw[if_pos e,if_pos (h1.symm.trans e)];exact⟨h1,ry⟩
  ·rw[if_neg e,if_neg (λz=>e (h1.trans z))];exact⟨h1,h2⟩
theorem KV.put{kvs:List (κ×V)}{vs:List (κ×yU)}(r:KV kvs vs)(k:κ){y:V}{u:yU}(ry:RelV y u):KV (putK kvs k y) (dM vs k u):=by
 unfold putK dM;rw[r.any k];by_cases e:(vs.any λkv=>decide (kv.1=k))=true
 ·rw[if_pos e,if_pos e];exact r.repl k ry
 ·rw[if_neg e,if_neg e];exact Paired.snoc r ⟨rfl,ry⟩
theorem KV.length{kvs:List (κ×V)}{vs:List (κ×yU)}(r:KV kvs vs):kvs.length=vs.length:=Paired.length r
end
theorem zKh{P:y7}{w:jD}{k:Key}{u:yU}(r:RelV (kV k) u):(zA9 P w).is k u=true:=by
 cases k with
 |inl i=>obtain⟨t,e⟩:=(show ∃t,u=Value.int i t from r);subst e;exact zKd P w i t
 |inr x=>obtain⟨t,e⟩:=(show ∃t,u=Value.str x t from r);subst e;exact zKc P w x t
theorem zJ7{P:y7}{w:jD}:∀{ks:List Key}{us:yB},Vals (ks.map kV) us->ItemsAre (zA9 P w) ks us
 |[],_,r=>by rw[qJ7]at r;cases r;exact .nil
 |k::ks,_,r=>by
  rw[qB8]at r;cases r with
  |cons h t=>exact .cons (zKh h) (zJ7 t)
noncomputable abbrev KT(H:Hp):List (List Key×V)->List (List Key×yR×yU)->Prop:=lO λp q=>p.1=q.1/\H q.2.1=some (.tup (p.1.map kV))/\RelV p.2 q.2.2
theorem KT.val{H:Hp}{kvs:List (List Key×V)}{xs:List (List Key×yR×yU)}(r:KT H kvs xs)(k:List Key):RelO (valV kvs k) ((dQ xs k).map (·.2)):=by
 induction r with
 |nil=>exact True.intro
 |@cons p q ps qs h t ih =>
  obtain⟨h1,_,h2⟩:=h;by_cases e:p.1=k
  ·have e':q.1=k:=h1.symm.trans e;have b:dQ (q::qs) k=some q.2:=by simp[dQ,qF4,e']
   rw[zF9 e,b];exact h2
  ·have e':¬q.1=k:=λz=>e (h1.trans z);have b:dQ (q::qs) k=dQ qs k:=by simp[dQ,qF4,e']
   rw[zFa e,b];exact ih
theorem KT.repl{H:Hp}{kvs:List (List Key×V)}{xs:List (List Key×yR×yU)}(r:KT H kvs xs)(k:List Key){y:V}{u:yU}(ry:RelV y u):
  KT H (kvs.map λkv=>if kv.1=k then(kv.1,y)else kv) (xs.map (putAt k u)):=by
 induction r with
 |nil=>exact .nil
 |@cons p q ps qs h t ih =>
  rw[qB8,qB8];refine .cons ?_ ih;obtain⟨h1,h2,h3⟩:=h;unfold putAt;by_cases e:p.1=k
  ·rw[if_pos e,if_pos (h1.symm.trans e)];exact⟨h1,h2,ry⟩
  ·rw[if_neg e,if_neg (λz=>e (h1.trans z))];exact⟨h1,h2,h3⟩
theorem KT.put{H:Hp}{kvs:List (List Key×V)}{xs:List (List Key×yR×yU)}(r:KT H kvs xs)(k:List Key){b:yR}{y:V}{u:yU}(hb:H b=some (.tup (k.map kV)))(ry:RelV y u):
  KT H (putK kvs k y) (storedH xs k b u):=by
 have e:(kvs.any λkv=>decide (kv.1=k))=(dQ xs k).isSome:=by rw[zKU,(r.val k).isSome_eq,qM4]
 unfold putK storedH;rw[e];by_cases q:(dQ xs k).isSome=true
 ·rw[if_pos q,if_pos q];exact r.repl k ry
 ·rw[if_neg q,if_neg q];exact Paired.snoc r ⟨rfl,hb,ry⟩
theorem KT.keeps{H H':Hp}{kvs:List (List Key×V)}{xs:List (List Key×yR×yU)}(r:KT H kvs xs)(ht:∀b ys,H b=some (.tup ys)->H' b=some (.tup ys)):KT H' kvs xs :=
 Paired.mapP r λ_ _ z=>⟨z.1,ht _ _ z.2.1,z.2.2⟩
section
variable {P:y7}{w:jD}{H:Hp}{h:jC}{a:yR}
theorem zVj{u:HO}(ok:HOk P w H h)(e:Rd H a u):zBL P w H h a u:=e.ok ok
theorem zKx{kvs:List (Key×V)}(ok:HOk P w H h)(e:Rd H a (.dK kvs)):kvs.length<=jA/\(a == vG)=false/\∃vs,KV kvs vs/\h.DictOf (zA9 P w) a vs :=
 show zBL P w H h a (.dK kvs)from zVj ok e
theorem zOM{kvs:List (Key×V)}(ok:HOk P w H h)(e:H a=some (.dK kvs)):kvs.length<=jA/\(a == vG)=false/\∃vs,KV kvs vs/\h.DictOf (zA9 P w) a vs:=zKx ok (.inl e)
theorem zJ6{ks:List Key}(ok:HOk P w H h)(e:H a=some (.tup (ks.map kV))):(mD (zA9 P w)).is h ks a:=by
 obtain⟨_,its,r,o,h1,h2,n,h3⟩:=(show zBL P w H h a (.tup (ks.map kV))from ok a _ e)
 exact⟨o,its.toArray,n,h1,h2,h3,by simpa using zJ7 r⟩
theorem zOL{kvs:List (List Key×V)}(ok:HOk P w H h)(e:Rd H a (.dT kvs)):kvs.length<=jA/\(a == vG)=false /\
  ∃xs,KT H kvs xs/\h.DictOfH (mD (zA9 P w)) a xs:=by
 obtain⟨z,y,xs,r,o,es,ep,h1,h2,h3,h4,h5⟩:=(show zBL P w H h a (.dT kvs)from zVj ok e)
 refine⟨z,y,xs,r,o,es,ep,h1,h2,h3,h4,λx hx=>?_,h5⟩;have all:∀{l:List (List Key×V)}{m:List (List Key×yR×yU)},KT H l m->∀x∈m,(mD (zA9 P w)).is h x.1 x.2.1:=by
  intro l m q
  induction q with
  |nil=>intro x hx;exact nomatch hx
  |@cons p q ps qs hq t ih =>
   intro x hx;rcases qB0.mp hx with e|hx
   ·subst e;exact zJ6 ok (by rw[<- hq.1];exact hq.2.1)
   ·exact ih x hx
 exact all r x hx
theorem zZw{kvs:List (List Key×V)}(ok:HOk P w H h)(e:H a=some (.dT kvs)):kvs.length<=jA/\(a == vG)=false /\
  ∃xs,KT H kvs xs/\h.DictOfH (mD (zA9 P w)) a xs:=zOL ok (.inl e)
end
def DGet(H:Hp)(a:yR)(y:V)(r:Option V):Prop :=
 (∃kvs k,Rd H a (.dK kvs)/\y=kV k/\r=valV kvs k)∨∃kvs k b,Rd H a (.dT kvs)/\y=.ref b/\H b=some (.tup (k.map kV))/\r=valV kvs k
def DPut(H:Hp)(a:yR)(y v:V)(H':Hp):Prop :=
 (∃kvs k,H a=some (.dK kvs)/\y=kV k/\kvs.length<jA/\H'=upd H a (.dK (putK kvs k v))) ∨
 ∃kvs k b,H a=some (.dT kvs)/\y=.ref b/\H b=some (.tup (k.map kV))/\kvs.length<jA/\H'=upd H a (.dT (putK kvs k v))
theorem DGet.k{H:Hp}{a:yR}{kvs:List (Key×V)}{k:Key}(e:H a=some (.dK kvs)):DGet H a (kV k) (valV kvs k):=.inl ⟨kvs,k,.inl e,rfl,rfl⟩
theorem DPut.k{H:Hp}{a:yR}{kvs:List (Key×V)}{k:Key}{v:V}(e:H a=some (.dK kvs))(hl:kvs.length<jA):DPut H a (kV k) v (upd H a (.dK (putK kvs k v))):=.inl ⟨kvs,k,e,rfl,hl,rfl⟩
section
variable {X:Cx}{pins:yD}{Z:St}{H:Hp}{s:yS}{a:yR}{y v:V}{u r:yU}{o:Option V}{A:jE}{E:yL}
theorem Inv.big(I:Inv X pins Z H s):vG<s.heap.objs.size:=by have h:y8<s.heap.objs.size:=(I.mod.glob.keeps I.bk).lt;exact Nat.lt_trans (by decide) h
theorem zOR{Q:yL}(hu:A.units+1<wR)(I:Inv X pins Z H s)(g:DGet H a y (some v))(ry:RelV y u)(h:∀w' s',Inv X pins Z H s'->RelV v w'->Q w' s'):
  yX (yW X.prog X.w) A (gF (.ref a) u) Q E s:=by
 rcases g with⟨kvs,k,e,ey,l⟩| ⟨kvs,k,b,e,ey,eb,l⟩
 ·subst ey;obtain⟨z,hd,vs,rel,dd⟩:=zKx I.hok e;obtain⟨w',hw,rw'⟩:=RelO.some_of (v:=v) (o:=mG vs k) (by rw[l];exact rel.val k);exact wpAny_getItem_of (zKh ry) dd.mapOf hw (h w' _ (I.tok _) rw')
 ·subst ey;cases (show u=Value.ref b from ry);obtain⟨z,hd,xs,rel,dd⟩:=zOL I.hok e;obtain⟨w',hw,rw'⟩:=RelO.some_of (v:=v) (o:=(dQ xs k).map (·.2)) (by rw[l];exact rel.val k);obtain⟨p,hp,hp2⟩:=qA2.mp hw;refine wpAny_getItem_heap (wO hu) (zJ6 I.hok eb) dd hp ?_;rw[hp2];exact h w' _ (I.tok _) rw'
theorem d_in{Q:yL}(hu:A.units+1<wR)(I:Inv X pins Z H s)(g:DGet H a y o)(ry:RelV y u)(h:∀s',Inv X pins Z H s'->Q (.bool o.isSome) s'):
  yX (yW X.prog X.w) A (y9 .In u (.ref a)) Q E s:=by
 rcases g with⟨kvs,k,e,ey,l⟩| ⟨kvs,k,b,e,ey,eb,l⟩
 ·subst ey;obtain⟨z,hd,vs,rel,dd⟩:=zKx I.hok e;refine wpAny_in_of (zKh ry) hd dd.mapOf ?_;rw[<- (rel.val k).isSome_eq,<- l];exact h _ (I.tok _)
 ·subst ey;cases (show u=Value.ref b from ry);obtain⟨z,hd,xs,rel,dd⟩:=zOL I.hok e;refine wpAny_in_heap (wO hu) (zJ6 I.hok eb) hd dd ?_;have q:=(rel.val k).isSome_eq;rw[qM4]at q;rw[<- q,<- l];exact h _ (I.tok _)
theorem zTP{Q:yL}(hu:A.units+1<wR)(I:Inv X pins Z H s)(g:DGet H a y o)(ry:RelV y u)(h:∀s',Inv X pins Z H s'->Q (.bool (!o.isSome)) s'):
  yX (yW X.prog X.w) A (y9 .NotIn u (.ref a)) Q E s:=by
 rcases g with⟨kvs,k,e,ey,l⟩| ⟨kvs,k,b,e,ey,eb,l⟩
 ·subst ey;obtain⟨z,hd,vs,rel,dd⟩:=zKx I.hok e;refine wpAny_notIn_of (zKh ry) hd dd.mapOf ?_;rw[<- (rel.val k).isSome_eq,<- l];exact h _ (I.tok _)
 ·subst ey;cases (show u=Value.ref b from ry);obtain⟨z,hd,xs,rel,dd⟩:=zOL I.hok e;refine wpAny_notIn_heap (wO hu) (zJ6 I.hok eb) hd dd ?_;have q:=(rel.val k).isSome_eq;rw[qM4]at q;rw[<- q,<- l];exact h _ (I.tok _)
theorem zI6{h':jC}{t':Nat}{ob:HO}(I:Inv X pins Z H s)(mu:Mut (H a))(hs:qH0 a s.heap h')(he:∃q,h'.get? a=some q)(new:zBL X.prog X.w (upd H a ob) h' a ob):
  Inv X pins Z (upd H a ob) { s with heap:=h',toks:=t' } :=
 I.write (x:=a) (e:=a) mu (.inl rfl) (λb q hb z=>(hs.2 b hb).trans z) he new
theorem zLB{P:y7}{w:jD}{H':Hp}{h':jC}{kvs:List (Key×V)}{vs:List (Key×yU)}(z:kvs.length<=jA)(hd:(a == vG)=false)(rel:KV kvs vs)(dd:h'.DictOf (zA9 P w) a vs):
  zBL P w H' h' a (.dK kvs):=⟨z,hd,vs,rel,dd⟩
theorem zOQ{H':Hp}{Q:Unit->yS->Prop}(hu:A.units+1<wR)(I:Inv X pins Z H s)(g:DPut H a y v H')(ry:RelV y u)(rv:RelV v r)(h:∀s',Inv X pins Z H' s'->Q () s'):
  yX (yW X.prog X.w) A (dU (.ref a) u r) Q E s:=by
 rcases g with⟨kvs,k,e,ey,l,eH⟩| ⟨kvs,k,b,e,ey,eb,l,eH⟩
 ·subst ey eH;obtain⟨z,hd,vs,rel,dd⟩:=zOM I.hok e;have hz:vs.length<=sizeLine:=by rw[<- rel.length];exact z
  have hl:(putK kvs k v).length<=sizeLine:=by have:=zDU kvs k v;omega
  refine wpAny_setItem_pairs (hsz:=hz) (zKh ry) dd λh' dd' hs=>h _ ?_;have he:∃q,h'.get? a=some q:=let ⟨q,_,_,hq,_⟩:=dd';⟨q,hq⟩
  exact zI6 I (by rw[e];exact True.intro) hs he (zLB hl hd (rel.put k rv) dd')
 ·subst ey eH;cases (show u=Value.ref b from ry);obtain⟨z,hd,xs,rel,dd⟩:=zZw I.hok e;have hz:xs.length<=sizeLine:=by rw[<- Paired.length rel];exact z
  have hl:(putK kvs k v).length<=sizeLine:=by have:=zDU kvs k v;omega
  refine wpAny_setItem_heap (hsz:=hz) (wO hu) (zJ6 I.hok eb) dd λh' dd' hs=>h _ ?_;obtain⟨q,es,ep,hq,h2,h3,h4,_,h5⟩:=dd';refine zI6 I (by rw[e];exact True.intro) hs ⟨q,hq⟩ ⟨hl,hd,_,(rel.put k eb rv).keeps λc ys ec=>?_,q,es,ep,hq,h2,h3,h4,h5⟩;rw[zA6 (zZ5 ec e (λz=>nomatch z))];exact ec
end
section
variable {X:Cx}{pins:yD}{Z:St}{H:Hp}{s:yS}{a:yR}{kvs:List (Key×V)}{k:Key}{u:yU}{A:jE}{E:yL}
theorem zZy{Q:yL}(I:Inv X pins Z H s)(e:Rd H a (.dK kvs))(h:∀t s',Inv X pins Z H s'->Q (.int kvs.length t) s'):yX (yW X.prog X.w) A (call (.builtin "len") [.ref a]) Q E s:=by obtain⟨z,hd,vs,rel,dd⟩:=zKx I.hok e;refine call_len_dict hd dd (by rw[<- rel.length];rw[vX]at z;omega) ?_;rw[<- rel.length];exact h _ _ (I.tok _)
end
theorem zKy{X:Cx}{pins:yD}{Z:St}{H:Hp}{s:yS}{a:yR}{y:V}{o:Option V}(I:Inv X pins Z H s)(g:DGet H a y o):s.TypeIs (.ref a) "dict":=by
 rcases g with⟨kvs,k,e,_,_⟩| ⟨kvs,k,b,e,_,_,_⟩
 ·obtain⟨_,_,vs,_,dd⟩:=zKx I.hok e;exact dd.typeIs
 ·obtain⟨_,_,xs,_,dd⟩:=zOL I.hok e;exact dd.typeIs
theorem zI5{P:y7}{w:jD}{H:Hp}(h:jC)(hb:vG<h.objs.size):zBL P w H (h.push { cls:=.type "dict",data:=.dict #[] }) h.objs.size (.dK []) :=
 ⟨qH4 _,beq_eq_false_iff_ne.mpr (Ne.symm (qC4 hb)),[],.nil,Heap.DictOf.new h⟩
def zUw:TE:=λ_ H Q=>∀p,H p=none->Q (.ref p) (upd H p (.dK []))
section
variable {X:Cx}{pos:Pos}
theorem zPX:PE X (.Dict [] [] pos) zUw:=λpins s Z H Q I h =>
 wpAny_Dict_empty ⟨.ref s.heap.objs.size,_,I.laid (a:=s.heap.objs.size) (o:=.dK []) (t':=s.toks) (λ_ _ q=>qA5 _ q) (qA6 _) (zI5 s.heap I.big),rfl,h _ (I.hok.fresh (qA6 _))⟩
end
def zMT:List (TE×TE)->St->Hp->(List (V×V)->Hp->Prop)->Prop
 |[],_,H,Q=>Q [] H
 |(tk,tv)::r,Z,H,Q=>tk Z H λx H1=>tv Z H1 λy H2=>zMT r Z H2 λps H3=>Q ((x,y)::ps) H3
noncomputable abbrev VV:List (V×V)->List (yU×yU)->Prop:=lO λp q=>RelV p.1 q.1/\RelV p.2 q.2
def PPs(X:Cx)(pos:Pos)(keys:List (Option y4))(values:yE)(trs:List (TE×TE)):Prop :=
 ∀(pins:yD) (s:yS) (Z:St) (H:Hp) (Q:List (V×V)->Hp->Prop),Inv X pins Z H s->zMT trs Z H Q ->
  yX (yW X.prog X.w) X.A (evalPairs (pairTrees keys values X.env pos)) (λvs s'=>∃ps H',Inv X pins Z H' s'/\VV ps vs/\Q ps H') X.xe s
theorem zSM{X:Cx}{pos:Pos}:PPs X pos [] [] []:=λpins s Z H Q I h=>pairTrees_nil_walk ⟨[],H,I,.nil,h⟩
theorem zPR{X:Cx}{pos:Pos}{k v:y4}{ks:List (Option y4)}{vs:yE}{tk tv:TE}{trs:List (TE×TE)}(hk:PE X k tk)(hv:PE X v tv)(hr:PPs X pos ks vs trs):
  PPs X pos (some k::ks) (v::vs) ((tk,tv)::trs):=λpins s Z H Q I h =>
 pairTrees_cons_walk (thn (hk pins s Z H _ I h) λu s1 ⟨x,H1,I1,rx,q1⟩=>thn (hv pins s1 Z H1 _ I1 q1) λw2 s2 ⟨y,H2,I2,ry,q2⟩ =>
  thn (hr pins s2 Z H2 _ I2 q2) λws s3 ⟨ps,H3,I3,rel,q3⟩=>⟨(x,y)::ps,H3,I3,.cons ⟨rx,ry⟩ rel,q3⟩)
noncomputable def zBs(kvs more:List (Key×V)):List (Key×V):=more.foldl (λacc kv=>putK acc kv.1 kv.2) kvs
theorem KV.merge:∀{more:List (Key×V)}{rs:List (Key×yU)}{kvs:List (Key×V)}{vs:List (Key×yU)},KV more rs->KV kvs vs->KV (zBs kvs more) (merged vs rs):=by
 intro more rs kvs vs r;unfold KV at r
 induction r generalizing kvs vs with
 |nil=>intro q;exact q
 |@cons p q ps qs h t ih =>
  intro r0;have e:KV (putK kvs p.1 p.2) (dM vs q.1 q.2):=by have:=r0.put p.1 h.2;rw[<- h.1];exact this
  exact ih e
theorem zC8:∀(more kvs:List (Key×V)),(zBs kvs more).length<=kvs.length+more.length
 |[],kvs=>by show kvs.length<=kvs.length+0;omega
 |p::r,kvs=>by have h1:=zC8 r (putK kvs p.1 p.2);have h2:=zDU kvs p.1 p.2;show(zBs (putK kvs p.1 p.2) r).length<=_;rw[qD4];omega
theorem zHh{P:y7}{w:jD}:∀{kvs:List (Key×V)}{ws:List (yU×yU)},VV (kvs.map λkv=>(kV kv.1,kv.2)) ws->∃rs,Carries (zA9 P w) ws rs/\KV kvs rs
 |[],_,r=>by rw[qJ7]at r;cases r;exact⟨[],True.intro,.nil⟩
 |p::kvs,_,r=>by
  rw[qB8]at r;cases r with
  |@cons a b as bs h t =>
   obtain⟨rs,c,q⟩:=zHh (P:=P) (w:=w) t;obtain⟨b1,b2⟩:=b;exact⟨(p.1,b2)::rs,⟨zKh h.1,rfl,c⟩,.cons ⟨rfl,h.2⟩ q⟩
def zY9(trs:List (TE×TE)):TE:=fun Z H Q=>∀p,H p=none->zMT trs Z (upd H p (.dK [])) λps H2=>H2 p=some (.dK [])/\∃kvs:List (Key×V),ps=kvs.map (λkv=>(kV kv.1,kv.2))/\kvs.length<=15/\Q (.ref p) (upd H2 p (.dK (zBs [] kvs)))
theorem zSR{X:Cx}{pos:Pos}{keys:List (Option y4)}{values:yE}{trs:List (TE×TE)}(h:PPs X pos keys values trs)(hall:keys.all (·.isSome)=true)(hl:keys.length=values.length)(h0:keys≠[])
  (h15:keys.length<=15):PE X (.Dict keys values pos) (zY9 trs):=by
 intro pins s Z H Q I q;have hn:=I.hok.fresh (qA6 s.heap.objs.size);have I1:=I.laid (a:=s.heap.objs.size) (o:=.dK []) (h':=s.heap.push { cls:=.type "dict",data:=.dict #[] }) (t':=s.toks) (λ_ _ q=>qA5 _ q) (qA6 _) (zI5 s.heap I.big);refine wpAny_Dict_walk (knd:=zA9 X.prog X.w) hall hl h0 h15 (thn (h pins _ Z _ _ I1 (q _ hn)) λws s2 ⟨ps,H2,I2,rel,e,kvs,ep,lk,q2⟩=>?_);subst ep;obtain⟨rs,c,rk⟩:=zHh (P:=X.prog) (w:=X.w) rel;obtain⟨z,hd,vs0,r0,dd⟩:=zOM I2.hok e;cases r0;refine⟨rs,c,dd,λh' dd' hs=>⟨.ref s.heap.objs.size,_,?_,rfl,q2⟩⟩;have hz:(zBs [] kvs).length<=sizeLine:=by have h1:=zC8 kvs [];rw[qN5]at h1;rw[vX];omega
 have he:∃q,h'.get? s.heap.objs.size=some q:=let ⟨q,_,_,hq,_⟩:=dd';⟨q,hq⟩
 exact zI6 I2 (by rw[e];exact True.intro) hs he (zLB hz hd (rk.merge .nil) dd')
def zJT(st st2:St):Prop:=st.length=st2.length/\∀(i:Nat) v,st[i]?=some (some v)->st2[i]?=some (some v)
noncomputable def zBG(X:Cx)(scope:jS)(N:yH)(cl:List (Str×yR))(s:yS)(H:Hp)(C:yR)(ex:yC):Cx where
 prog:=X.prog
 w:=X.w
 K:=X.K
 mg:=X.mg
 base:=X.base
 A:=X.A
 N:=N
 s₀:=s
 H₀:=H
 env:=compEnvC scope cl C X.env
 outer:=X.stack
 stack:=X.stack
 ex:=ex
 fn:=λx=>decide ((x,NameKind.cell)∈scope.names)
 calm:=X.calm
 pn:=[]
 xe:=λ_ _=>False
noncomputable def clOf(env:Env):List (Str×jT)->List (Str×yR)->List (Str×yR)
 |[],acc=>acc
 |(n,k)::r,acc=>if k == .free then(match env.cells.lookup n with|some c=>clOf env r ((n,c)::acc)| none=>clOf env r acc)else clOf env r acc
theorem zFg{env:Env}:∀(ns:List (Str×jT)) (acc:List (Str×yR)),(∀x c,acc.lookup x=some c->env.cells.lookup x=some c)->∀x c,(clOf env ns acc).lookup x=some c->env.cells.lookup x=some c
 |[],_,h=>h
 |(n,k)::r,acc,h=>by
  unfold clOf;split
  ·split
   ·rename_i c hc;refine zFg r _ λx d e=>?_;rw[qD1]at e;cases hx:x == n with
    |true =>
     rw[hx]at e;have:x=n:=by simpa using hx
     subst this;cases e;exact hc
    |false =>
     rw[hx]at e;exact h x d e
   ·exact zFg r _ h
  ·exact zFg r _ h
theorem zDy{env:Env}:∀(ns:List (Str×jT)) (acc:List (Str×yR)) (x:Str),((∃c,acc.lookup x=some c)∨((x,NameKind.free)∈ns/\∃c,env.cells.lookup x=some c))->∃c,(clOf env ns acc).lookup x=some c
 |[],acc,x,h=>by
  rcases h with h|⟨h,_⟩
  ·exact h
  ·cases h
 |(n,k)::r,acc,x,h=>by
  unfold clOf;split
  ·rename_i hk;split
   ·rename_i c hc;refine zDy r _ x ?_;by_cases hx:x=n
    ·subst hx;exact .inl ⟨c,by rw[qD1];simp⟩
    ·have hb:(x == n)=false:=by simpa using hx
     rcases h with⟨d,h⟩| ⟨h,d⟩
     ·exact .inl ⟨d,by rw[qD1,hb];exact h⟩
     ·rcases qB0.mp h with h|h
      ·cases h;exact absurd rfl hx
      ·exact .inr ⟨h,d⟩
   ·rename_i hc;refine zDy r _ x ?_;rcases h with h|⟨h,d,hd⟩
    ·exact .inl h
    ·rcases qB0.mp h with h|h
     ·cases h;rw[hc]at hd;cases hd
     ·exact .inr ⟨h,d,hd⟩
  ·rename_i hk;refine zDy r _ x ?_;rcases h with h|⟨h,d⟩
   ·exact .inl h
   ·rcases qB0.mp h with h|h
    ·cases h;exact absurd rfl hk
    ·exact .inr ⟨h,d⟩
theorem zP3{env:Env}{x:Str}{c:yR}(h:env.cells.lookup x=some c):cellOf env x=pure c:=by unfold cellOf;rw[h]
theorem zEB{env:Env}:∀(ns:List (Str×jT)) (acc:List (Str×yR)),(∀x,(x,NameKind.free)∈ns->∃c,env.cells.lookup x=some c) ->
  (forIn ns acc fun(x:Str×jT) (r:List (Str×yR))=>(match x with
   | (name,kind)=>if kind == NameKind.free then(do let c <- cellOf env name;pure (ForInStep.yield ((name,c)::r)))else pure (ForInStep.yield r):Sem (ForInStep (List (Str×yR)))))=pure (clOf env ns acc)
 |[],acc,_=>rfl
 |(n,k)::r,acc,h=>by
  rw[qR4];unfold clOf;have hr:∀x,(x,NameKind.free)∈r->∃c,env.cells.lookup x=some c:=λx hx=>h x (qC1 _ hx);by_cases hk:k=.free
  ·subst hk;obtain⟨c,hc⟩:=h n (qE8 ..);dsimp only;rw[hc,zP3 hc];simp only[beq_self_eq_true,if_true,pure_bind];exact zEB r _ hr
  ·have hb:(k == NameKind.free)=false:=by simpa using hk
   simp only[hb,qE3,if_false,pure_bind];exact zEB r _ hr
theorem zCb{scope:jS}{env:Env}(h:∀x,(x,NameKind.free)∈scope.names->∃c,env.cells.lookup x=some c):closureFor scope env=pure (clOf env scope.names []):=by unfold closureFor;have q:=zEB (env:=env) scope.names [] h;simp only[bind_pure];refine Eq.trans ?_ q;congr 1
theorem zBI{ns:List (Str×jT)}{x:Str}{k:jT}(h:ns.lookup x=some k):(x,k)∈ns:=by
 induction ns with
 |nil=>cases h
 |cons a r ih =>
  obtain⟨n,k'⟩:=a;rw[qD1]at h;cases hx:x == n with
  |true =>
   rw[hx]at h;have e:x=n:=by simpa using hx
   subst e;cases h;exact qE8 ..
  |false =>
   rw[hx]at h;exact qC1 _ (ih h)
theorem zFl{scope:jS}{env:Env}{x:Str}{k:jT}(h:(dF scope env).names.lookup x=some k)(hc:k=.cell∨k=.free):(x,NameKind.free)∈scope.names∨(x,NameKind.cell)∈scope.names:=by
 have m:=zBI h;obtain⟨⟨n,k'⟩,hm,e⟩:=qD8.mp m;dsimp only at e;split at e
 ·rename_i hq;cases e;have:k'=.free:=by simp only[qC5,beq_iff_eq]at hq;exact hq.1.1
  subst this;exact .inl hm
 ·cases e;rcases hc with rfl|rfl
  ·exact .inr hm
  ·exact .inl hm
theorem zBJ:∀(ns:List (Str×jT)) (h:jC) (acc:List (Str×yR)) {x:Str}{c:yR},(vE h.objs.size ns acc).lookup x=some c ->
  ((x,NameKind.cell)∈ns/\h.objs.size<=c/\(gU h ns).IsCell c none)∨((x,NameKind.cell)∉ns/\acc.lookup x=some c)
 |[],h,acc,x,c,e=>.inr ⟨by simp,e⟩
 |(n,k)::r,h,acc,x,c,e=>by
  unfold vE at e;unfold gU;by_cases hk:(k == NameKind.cell)=true
  ·rw[if_pos hk]at e ⊢;have hk':k=.cell:=by simpa using hk
   rw[<- qF9 h { cls:=.type "cell",data:=.cell none }]at e;rcases zBJ r _ _ e with⟨q1,q2,q3⟩| ⟨q1,q2⟩
   ·exact .inl ⟨qC1 _ q1,by rw[qF9]at q2;omega,q3⟩
   ·rw[qD1]at q2;cases hx:x == n with
    |true =>
     rw[hx]at q2;cases q2;have:x=n:=by simpa using hx
     subst this;subst hk';exact .inl ⟨qE8 ..,qA6 _,_,fN _ _ _ _ (qB4 _ rfl),rfl⟩
    |false =>
     rw[hx]at q2;refine .inr ⟨λz=>?_,q2⟩;rcases qB0.mp z with z|z
     ·cases z;simp at hx
     ·exact q1 z
  ·rw[if_neg hk]at e ⊢;rcases zBJ r h acc e with⟨q1,q2,q3⟩| ⟨q1,q2⟩
   ·exact .inl ⟨qC1 _ q1,q2,q3⟩
   ·refine .inr ⟨λz=>?_,q2⟩;rcases qB0.mp z with z|z
    ·cases z;exact hk rfl
    ·exact q1 z
theorem zG6:∀(ns:List (Str×jT)) (n:Nat) (acc:List (Str×yR)),(∀x c,acc.lookup x=some c->c<n)->(∀x y c,acc.lookup x=some c->acc.lookup y=some c->x=y) ->
  ∀x y c,(vE n ns acc).lookup x=some c->(vE n ns acc).lookup y=some c->x=y
 |[],n,acc,hb,hi=>hi
 |(m,k)::r,n,acc,hb,hi=>by
  unfold vE;split
  ·refine zG6 r (n+1) _ (λx c e=>?_) λx y c e1 e2=>?_
   ·rw[qD1]at e;cases hx:x == m with
    |true=>rw[hx]at e;cases e;exact qJ8 _
    |false=>rw[hx]at e;exact qF1 (hb x c e)
   ·rw[qD1]at e1 e2;cases hx:x == m with
    |true =>
     rw[hx]at e1;cases e1;cases hy:y == m with
     |true=>rw[show x=m by simpa using hx,show y=m by simpa using hy]
     |false=>rw[hy]at e2;exact absurd (hb y _ e2) (qH2 _)
    |false =>
     rw[hx]at e1;cases hy:y == m with
     |true=>rw[hy]at e2;cases e2;exact absurd (hb x _ e1) (qH2 _)
     |false=>rw[hy]at e2;exact hi x y c e1 e2
  ·exact zG6 r n acc hb hi
theorem zDz:∀(ns:List (Str×jT)) (n:Nat) (acc:List (Str×yR)) {x:Str},((x,NameKind.cell)∈ns∨∃c,acc.lookup x=some c)->∃c,(vE n ns acc).lookup x=some c
 |[],n,acc,x,h=>by
  rcases h with h|h
  ·cases h
  ·exact h
 |(m,k)::r,n,acc,x,h=>by
  unfold vE;split
  ·refine zDz r _ _ ?_;by_cases hx:x=m
   ·subst hx;exact .inr ⟨n,by rw[qD1];simp⟩
   ·have hb:(x == m)=false:=by simpa using hx
    rcases h with h|⟨c,h⟩
    ·rcases qB0.mp h with h|h
     ·cases h;exact absurd rfl hx
     ·exact .inl h
    ·exact .inr ⟨c,by rw[qD1,hb];exact h⟩
  ·rename_i hk;refine zDz r _ _ ?_;rcases h with h|h
   ·rcases qB0.mp h with h|h
    ·cases h;exact absurd rfl hk
    ·exact .inl h
   ·exact .inr h
theorem zGi{M:mZ}{A:jE}{E:yL}{s:yS}{scope:jS}{globals:yR}{closure:List (Str×yR)}{qual:Str}{outer:Env}{Q:Env->yS->Prop}
  (hQ:Q (newEnv scope s.heap.objs.size globals (vE (s.heap.push { cls:=.type "dict",data:=.dict #[] }).objs.size scope.names closure) qual none .none (some outer) mU) { s with heap:=gU (s.heap.push { cls:=.type "dict",data:=.dict #[] }) scope.names }) :
  yX M A (f8 scope globals closure [] qual none .none (some outer)) Q E s:=by simp only[f8,qP5,if_true];refine yO (wpAny_alloc ?_);refine yO (wpAny_layCells _ (λname kind cells=>by cases hkc:kind == NameKind.cell<;>simp[hkc]) _ _ _ _ ?_);rw[qR8];exact yO (yP (yP hQ))
section
variable {X:Cx}{pins:yD}{Z:St}{H:Hp}{s:yS}{scope:jS}{N:yH}{C:yR}{ex:yC}
structure zMy(X:Cx)(scope:jS)(N:yH)(k:Nat)(js:List Nat):Prop where
 calm:X.calm=true
 kind:scope.kind=.function
 cell:∀x,(x,NameKind.cell)∈scope.names->scope.names.lookup x=some .cell
 free:∀x,(x,NameKind.free)∈scope.names->(X.env.kindOf x=some .cell∨X.env.kindOf x=some .free)
 names:∀x∈scope.names,x.2=.local->scope.names.lookup x.1=some .local
 len:N.length=k+js.length
 js:∀i j,js[i]?=some j->∃x,N[k+i]?=some x/\X.N[j]?=some x/\scope.names.lookup x=some .free/\Vis X.env.scope x
theorem zDY{env:Env}{ns:List (Str×jT)}{x:Str}{c:yR}(h:(clOf env ns []).lookup x=some c):env.cells.lookup x=some c:=zFg _ _ (λ_ _ z=>by cases z) x c h
theorem Inv.compOk(I:Inv X pins Z H s)(hk:scope.kind=.function)(hf:∀x,(x,NameKind.free)∈scope.names->∃c,X.env.cells.lookup x=some c){h:jC}(hh:h.objs.size=C+1)(hC:s.heap.objs.size<=C)(hex:∀b∈ex,FpOk X pins H b)(hxs:∀b∈ex,b<s.heap.objs.size):
  (zBG X scope N (vE h.objs.size scope.names (clOf X.env scope.names [])) s H C ex).Ok where
 mod:=I.ok.mod
 kind:=hk
 glob:=I.ok.glob
 blt:=I.ok.blt
 above:=hC
 inj:=zG6 _ _ _ (λx c e=>by
  obtain⟨v,q⟩:=I.cell x c (zDY e);rw[hh];exact qF1 (qB2 q.lt hC)) λx y c e1 e2=>I.ok.inj x y c (zDY e1) (zDY e2)
 has:=λx h=>by
  have m:=zFl (scope:=scope) (env:=X.env) (x:=x) (k:=.cell);have m2:=zFl (scope:=scope) (env:=X.env) (x:=x) (k:=.free);have q:(x,NameKind.free)∈scope.names∨(x,NameKind.cell)∈scope.names:=by
   rcases h with h|h
   ·exact m h (.inl rfl)
   ·exact m2 h (.inr rfl)
  refine zDz _ _ _ ?_;rcases q with q|q
  ·exact .inr (zDy _ _ x (.inr ⟨q,hf x q⟩))
  ·exact .inl q
 cab:=λx c h e=>by
  rcases zBJ _ _ _ e with⟨_,q,_⟩| ⟨q,_⟩
  ·show s.heap.objs.size<=c;omega
  ·exact absurd (of_decide_eq_true h) q
 hd:=I.ok.hd
 frames:=I.ok.frames
 stk:=.inl rfl
 exf:=λb hb=>⟨λz=>by
   have z':b=C:=z;exact qH2 _ (qB2 (hxs b hb) (by rw[z'];exact hC)),λx c e=>by
   rcases zBJ _ _ _ e with⟨_,q,_⟩| ⟨_,q⟩
   ·exact qG4 (qB2 (hxs b hb) (qD0 hC (qG3 (qB2 (by rw[hh];exact qJ8 C) q))))
   ·exact(hex b hb).2.2.2.2.1 x c (zDY q)⟩
 bs:=I.bs
 bsz:=qD0 I.ok.bsz I.sz
 noex:=λb o e hb=>by
  rcases(hex b hb).2.2.2.1 with z|z
  ·exact I.ok.noex b o e z
  ·exact qH2 _ (qB2 (qB3 e) (qD0 I.ok.bsz z))
 exfs:=λb hb z=>by
  rcases qB0.mp (I.stkSub b z)with q|q
  ·exact(hex b hb).2.1 q
  ·exact(hex b hb).2.2.1 q
 funs:=I.stack
 frf:=I.stkFree
theorem zKz{prog:y7}{w:jD}{A:jE}{R:dL->yS->Prop}{elt target iter:y4}{ifs:yE}{scope:jS}{pos:Pos}{it acc:yU}{env:Env}{s:yS}(JJ:Nat->yS->Prop)
  (turn:∀n s,JJ n s->yX (yW prog w) A (gJ it) (λr s1=>match r with
   |none=>R (.ok .next) s1
   | some v=>yX (yW prog w) A (fM target it v) (λ_ s1'=>yX (yW prog w) A (fA target env v) (λ_ s2 =>
     yX (yW prog w) A (forIn ifs true λc r=>if r=true then do let ok <- dJ c env (vL c env);pure (ForInStep.yield ok)else pure (ForInStep.yield r)) (λok s3 =>
      if ok=true then yX (yW prog w) A (vL elt env) (λx s4 =>
       yX (yW prog w) A (call (.builtin "list.append") [acc,x]) (λ_ s5=>∃m,m<n/\JJ m s5) (dG (yW prog w) A env λe s'=>R (.error e) s') s4) (dG (yW prog w) A env λe s'=>R (.error e) s') s3
      else ∃m,m<n/\JJ m s3) (dG (yW prog w) A env λe s'=>R (.error e) s') s2) (dG (yW prog w) A env λe s'=>R (.error e) s') s1') (dG (yW prog w) A env λe s'=>R (.error e) s') s1) (dG (yW prog w) A env λe s'=>R (.error e) s') s)
  (n:Nat) (h:JJ n s) :
  vU (yW prog w) A (.compLoop (.ListComp elt [⟨target,iter,ifs,0⟩] scope pos) 0 it acc env) R s:=by
 refine codeAny_loop rfl JJ (λn s hI=>?_) n h;show yX _ A ((compTurn (.ListComp elt [⟨target,iter,ifs,0⟩] scope pos) 0 it acc env).onRaise (λx=>do mH x env;theTreesLotGoes x)) _ _ s;refine wpAny_noted ?_;rw[compTurn_list];refine yO (mK (yO (jK (turn n s hI) (λr s1 h1=>?_) λ_ _ h'=>h')));cases r with
 |none=>exact yP h1
 |some v =>
  refine yO (jK h1 (λ_ s1' h1'=>?_) λ_ _ h'=>h');refine yO (jK h1' (λ_ s2 h2=>yO (jK h2 (λok s3 h3=>?_) λ_ _ h'=>h')) λ_ _ h'=>h');cases ok with
  |false=>exact yP ⟨rfl,h3⟩
  |true =>
   exact yO (yO (jK h3 (λx s4 h4=>yO (jK h4 (λ_ s5 h5=>yP (yP ⟨rfl,h5⟩)) λ_ _ h'=>h')) λ_ _ h'=>h'))
def PTs(X:Cx)(ifs:yE)(t:TT):Prop :=
 ∀(pins:yD) (s:yS) (Z:St) (H:Hp) (Q:Bool->Hp->Prop),Inv X pins Z H s->t Z H Q ->
  yX (yW X.prog X.w) X.A (forIn ifs true λc r=>if r=true then do let ok <- dJ c X.env (vL c X.env);pure (ForInStep.yield ok)else pure (ForInStep.yield r)) (TP X pins Z Q) X.xe s
def tYes:TT:=λ_ H Q=>Q true H
theorem zSG{X:Cx}:PTs X [] tYes:=λpins s Z H Q I h=>wpAny_tests_nil ⟨H,I,h⟩
theorem zSF{X:Cx}{c:y4}{t:TT}(h:PT X c t):PTs X [c] t:=λpins s Z H Q I hw=>wpAny_tests_one (h pins s Z H Q I hw)
def zUc(JJ:It)(D:yR)(W:Nat->Nat->List V->Hp->Prop)(Q:Hp->Prop)(g:TG)(tc:TT)(te:TE)(Z0:St)(i m:Nat)(ys:List V)(H2:Hp):Prop :=
 H2 D=some (.lst ys)/\((JJ.stop i H2/\Q H2)∨(JJ.go i H2/\ys.length<jA/\∀x H3,JJ.yld i H2 x H3->g x Z0 H3 fun Z4 H4=>zJT Z0 Z4/\tc Z4 H4 λb H5 =>
   if b=true then te Z4 H5 λy H6=>H6 D=some (.lst ys)/\∃m',m'<m/\W (i+1) m' (ys++[y]) (upd H6 D (.lst (ys++[y])))else ∃m',m'<m/\W (i+1) m' ys H5))
noncomputable def stC(k:Nat)(js:List Nat)(Z:St):St:=qE6 k Option.none++js.map λj=>(Z[j]?).getD Option.none
def zS0(wi:TI)(k:Nat)(js:List Nat)(g:TG)(tc:TT)(te:TE):TE:=fun Z H Q =>
 wi Z H λJJ H1=>∀D,H1 D=none->∃W:Nat->Nat->List V->Hp->Prop,(∃m,W 0 m [] (upd H1 D (.lst [])))/\∀i m ys H2,W i m ys H2->zUc JJ D W (Q (.ref D)) g tc te (stC k js Z) i m ys H2
theorem zJZ{k:Nat}{js:List Nat}{Z:St}{i:Nat}{v:V}(h:(stC k js Z)[i]?=some (some v)):∃j,k<=i/\js[i - k]?=some j/\Z[j]?=some (some v):=by
 unfold stC at h;by_cases hi:i<k
 ·rw[qA7 (by simpa using hi),qG6]at h;simp[hi]at h
 ·rw[qA0 (by simpa using hi),qH6,qC0]at h;cases e:js[i - k]? with
  |none=>rw[e]at h;simp at h
  |some j =>
   rw[e]at h;simp only[qR5,Option.some.injEq]at h;refine⟨j,by omega,rfl,?_⟩;cases q:Z[j]? with
   |none=>rw[q]at h;simp at h
   |some z =>
    rw[q]at h;simp at h;rw[h]
theorem zEH{scope:jS}{env:Env}{x:Str}(h:scope.names.lookup x=some .free):(dF scope env).names.lookup x=some .cell∨(dF scope env).names.lookup x=some .free:=by
 unfold dF;dsimp only;generalize scope.names=ns at h
 induction ns with
 |nil=>cases h
 |cons a r ih =>
  obtain⟨n,k⟩:=a;rw[qD1]at h;rw[qB8];cases hx:x == n with
  |true =>
   rw[hx]at h;cases h;dsimp only;split
   ·exact .inl (by rw[qD1,hx])
   ·exact .inr (by rw[qD1,hx])
  |false =>
   rw[hx]at h;dsimp only;split
   ·rw[qD1,hx];exact ih h
   ·rw[qD1,hx];exact ih h
inductive CInv(Y:Cx)(Z0:St)(tn:Nat->jC->Prop)(fp:yC)(W:Nat->Nat->List V->Hp->Prop)(n:Nat)(s:yS):Prop
 |mk (i:Nat) (ys:List V) (H:Hp) (I:Inv Y [] Z0 H s) (st:tn i s.heap) (fr:∀b∈fp,H b=none) (w:W i n ys H)
theorem zOW{Y:Cx}{elt iter tg:y4}{ifs:yE}{scope:jS}{pos:Pos}{g:TG}{tc:TT}{te:TE}{JJ:It}{fp:yC}{it D:yR}{tn:Nat->jC->Prop}{Z0:St}{W:Nat->Nat->List V->Hp->Prop}{Q:Hp->Prop}{R:dL->yS->Prop}
  (hc:Y.calm=true) (hx:Y.xe=λ_ _=>False) (T:Turn Y.prog Y.w Y.K tg JJ fp it tn) (stat:∀H',(∀b∈fp,H' b=none)->∀b∈fp,FpOk Y [] H' b)
  (hg:PG Y tg g) (htc:PTs Y ifs tc) (hte:PE Y elt te) (turn:∀i m ys H2,W i m ys H2->zUc JJ D W Q g tc te Z0 i m ys H2) (fin:∀H4 s5,Inv Y [] Z0 H4 s5->Q H4->R (.ok .next) s5)
  {s:yS}{n:Nat} (h0:CInv Y Z0 tn fp W n s) (st3:tn 0 s.heap):vU (yW Y.prog Y.w) Y.A (.compStart (.ListComp elt [⟨tg,iter,ifs,0⟩] scope pos) 0 (.ref it) (.ref D) Y.env) R s:=by
 have loop:vU (yW Y.prog Y.w) Y.A (.compLoop (.ListComp elt [⟨tg,iter,ifs,0⟩] scope pos) 0 (.ref it) (.ref D) Y.env) R s:=by
  refine zKz (CInv Y Z0 tn fp W) ?_ n h0;rintro n s4 ⟨i,ys,H4,I4,st4,fr4,w4⟩;obtain⟨hD4,hd⟩:=turn i n ys H4 w4;rcases hd with⟨stop,q⟩| ⟨go,hz,step⟩
  ·refine thn (T.done Y rfl rfl rfl hc i [] s4 _ H4 _ I4 (stat _ fr4) st4 stop) λr s5 ⟨hr,I5⟩=>?_;subst hr;exact fin H4 s5 I5 q
  ·refine thn (T.item Y rfl rfl rfl hc i [] s4 _ H4 _ I4 (stat _ fr4) st4 go) λr s5 ⟨u,hr,h5⟩=>?_;subst hr;refine thn h5 λ_ s6 ⟨x,H6,I6,r6,y6,st6,fr6⟩=>?_;have I6':=I6.pinned (stat _ fr6) (T.obj _ _ st6);have back:∀{Z7:St}{H7:Hp}{s7:yS}{m:Nat}{zs:List V},Inv Y ([]++zIS fp s6.heap) Z7 H7 s7->zJT Z0 Z7->W (i+1) m zs H7->CInv Y Z0 tn fp W m s7:=λ{Z7 H7 s7 m zs} I7 hw w7=>by refine⟨i+1,zs,H7,I7.unpinned.weak hw.1 hw.2,T.keep _ _ _ st6 λb hb o e=>(I7.pin (b,o) (qC6 _ (qC6 _ (zCQ hb e)))).1,λb hb=>?_,w7⟩;obtain⟨o,e,d⟩:=T.obj _ _ st6 b hb;exact(I7.pin (b,o) (qC6 _ (qC6 _ (zCQ hb e)))).2.1
   have no:∀{E:yL} (e:yU) (s':yS),Y.xe e s'->E e s':=λe s' z=>by rw[hx]at z;exact z.elim
   refine jK (hg _ s6 _ H6 x u _ I6' r6 (step x H6 y6)) (λ_ s7 ⟨Z7,H7,I7,hw7,q7⟩=>?_) no;refine jK (htc _ s7 Z7 H7 _ I7 q7) (λb s8 ⟨H8,I8,q8⟩=>?_) no;cases b with
   |false =>
    obtain⟨m',hm,w8⟩:=(show ∃m',m'<n/\W (i+1) m' ys H8 by simpa using q8)
    rw[if_neg (by decide)];exact⟨m',hm,back I8 hw7 w8⟩
   |true =>
    rw[if_pos rfl]at q8;rw[if_pos rfl];refine jK (hte _ s8 Z7 H8 _ I8 q8) (λy s9 ⟨vy,H9,I9,r9,q9⟩=>?_) no;obtain⟨hD9,m',hm,w9⟩:=q9;refine jK (zJ0 (X:=Y) _ s9 Z7 H9 (.ref D) [vy] (.ref D) [y] (λ_ H'=>W (i+1) m' (ys++[vy]) H') I9 rfl (.cons r9 .nil) ⟨_,ys,vy,rfl,rfl,hD9,hz,w9⟩) (λz s10 ⟨_,H10,I10,_,q10⟩=>?_) no;exact⟨m',hm,back I10 hw7 q10⟩
 exact codeAny_compStart_list loop (T.self _ 0 _ _ _ st3 loop)
theorem zMp{elt iter tg:y4}{ifs:yE}{pos:Pos}{k:Nat}{js:List Nat}{JJ:It}{fp:yC}{it:yR}{tn:Nat->jC->Prop}{H2:Hp}{s2:yS}{RR:yU->yR->dL->yS->Prop}
  (BB:zMy X scope N k js) (I2:Inv X pins Z H2 s2) (T:Turn X.prog X.w X.K tg JJ fp it tn) (st2:tn 0 s2.heap) (f2:∀b∈fp,FpOk X pins H2 b)
  (h:∀(cl:List (Str×yR)) (C:yR) (s4:yS),s2.heap.objs.size<=C->s2.heap.objs.size≠C->Inv (zBG X scope N cl s2 H2 C fp) [] (stC k js Z) (upd H2 s2.heap.objs.size (.lst [])) s4->tn 0 s4.heap ->
   vU (yW X.prog X.w) X.A (.compStart (.ListComp elt [⟨tg,iter,ifs,0⟩] scope pos) 0 (.ref it) (.ref s2.heap.objs.size) (compEnvC scope cl C X.env)) (RR (.ref s2.heap.objs.size) C) s4) :
  yX (yW X.prog X.w) X.A (newList []) (λacc s3=>yX (yW X.prog X.w) X.A (f8 scope X.env.globals (clOf X.env scope.names []) [] X.env.qual none .none (some X.env)) (λcenv s4 =>
   vU (yW X.prog X.w) X.A (.compStart (.ListComp elt [⟨tg,iter,ifs,0⟩] scope pos) 0 (.ref it) acc { cenv with scope:=dF scope X.env }) (RR acc cenv.locals) s4) X.xe s3) X.xe s2:=by
 have hcell:∀x,(x,NameKind.free)∈scope.names->∃c,X.env.cells.lookup x=some c:=λx hx=>I2.ok.has x (BB.free x hx);refine jP (zGi ?_);dsimp only;generalize hP:s2.heap.push { cls:=.type "list",dict:=none,data:=.seq ([]:yB).toArray }=P;have hPs:P.objs.size=s2.heap.objs.size+1:=by rw[<- hP,qF9]
 have hDC:s2.heap.objs.size≠P.objs.size:=by rw[hPs];exact qC4 (qJ8 _)
 have hCle:s2.heap.objs.size<=P.objs.size:=by rw[hPs];exact qM5 _
 generalize hP2:P.push { cls:=.type "dict",data:=.dict #[] }=P2;have hP2s:P2.objs.size=P.objs.size+1:=by rw[<- hP2,qF9]
 have hns1:(gU P2 scope.names).Ns P.objs.size (λ_=>none):=(hP2▸Heap.Ns.new P (.type "dict")).keeps (fN _ _);have old:∀b o,s2.heap.get? b=some o->(gU P2 scope.names).get? b=some o:=λb o e=>fN _ _ _ _ (hP2▸qA5 _ (hP▸qA5 _ e));have hacc:(gU P2 scope.names).get? s2.heap.objs.size=some { cls:=.type "list",dict:=none,data:=.seq ([]:yB).toArray }:=fN _ _ _ _ (hP2▸qA5 _ (hP▸qB4 _ rfl));have hfx:∀b∈fp,b<s2.heap.objs.size:=λb hb=>by obtain⟨o,e,_⟩:=T.obj _ _ st2 b hb;exact qB3 e
 have ok:=I2.compOk (N:=N) (C:=P.objs.size) (ex:=fp) BB.kind hcell hP2s hCle f2 hfx;refine h (vE P2.objs.size scope.names (clOf X.env scope.names [])) P.objs.size _ hCle hDC ?_ (T.keep _ _ _ st2 λb _ o e=>old b o e);refine⟨ok,rfl,I2.bare,Un.laid old (qA6 _) (I2.hok.fresh (qA6 _)),⟨_,hns1,λi x v e1 e2 e3=>?_⟩,λx c e=>?_,?_,λx c e=>?_,λp hp=>(by cases hp),I2.hok.laid old (qA6 _) ?_,?_⟩
 ·obtain⟨j,hki,hj,hv⟩:=zJZ e2;obtain⟨y,n1,n2,n3,n4⟩:=BB.js _ j hj;have ei:k+(i - k)=i:=by omega
  rw[ei]at n1;have e1':N[i]?=some x:=e1;rw[n1]at e1';cases e1';obtain⟨m,hn,hl⟩:=I2.loc;obtain⟨u,r,lk⟩:=hl j x v n2 hv n4;refine⟨u,r,?_⟩;have mem:=zBI n3;rcases lk with⟨kk,_⟩| ⟨kk,c,ec,ce⟩
  ·rcases BB.free x mem with z|z
   ·rw[z]at kk;cases kk
   ·rw[z]at kk;cases kk
  ·obtain⟨c0,ec0⟩:=zDz scope.names P2.objs.size _ (.inr (zDy (env:=X.env) scope.names [] x (.inr ⟨mem,c,ec⟩)));have hc0:c0=c:=by
    rcases zBJ _ _ _ ec0 with⟨q,_⟩| ⟨_,q⟩
    ·have:=BB.cell x q;rw[n3]at this;cases this
    ·have:=zDY q;rw[ec]at this;cases this;rfl
   subst hc0;refine .inr ⟨zEH n3,c0,ec0,?_⟩;obtain⟨o,ho,hd⟩:=ce;exact⟨o,old _ _ ho,hd⟩
 ·rcases zBJ _ _ _ e with⟨_,_,q⟩| ⟨_,q⟩
  ·exact⟨_,q⟩
  ·obtain⟨v,o,ho,hd⟩:=I2.cell x c (zDY q);exact⟨v,o,old _ _ ho,hd⟩
 ·show upd H2 s2.heap.objs.size (.lst []) P.objs.size=none;rw[zA6 (Ne.symm hDC)];exact I2.hok.fresh hCle
 ·rcases zBJ _ _ _ e with⟨_,q,_⟩| ⟨_,q⟩
  ·have hlt:s2.heap.objs.size<c:=qB2 (by rw[hP2s,hPs];omega) q;rw[zA6 (qG4 hlt)];exact I2.hok.fresh (qG3 hlt)
  ·obtain⟨v,o,ho,hd⟩:=I2.cell x c (zDY q);rw[zA6 (qC4 (qB3 ho))];exact I2.freeC x c (zDY q)
 ·exact⟨qH4 _,[],_,.nil,hacc⟩
 ·unfold stC;rw[qC3,qH6,qA8];exact BB.len.symm
theorem zLC{elt iter tg:y4}{ifs:yE}{pos:Pos}{k:Nat}{js:List Nat}{g:TG}{tc:TT}{te:TE}{JJ:It}{fp:yC}{it:yR}{tn:Nat->jC->Prop}{H2:Hp}{s2:yS}{RR:yU->yR->dL->yS->Prop}{Q:V->Hp->Prop}
  (BB:zMy X scope N k js) (I2:Inv X pins Z H2 s2) (T:Turn X.prog X.w X.K tg JJ fp it tn) (st2:tn 0 s2.heap) (f2:∀b∈fp,FpOk X pins H2 b)
  (hg:∀cl s H C ex,PG (zBG X scope N cl s H C ex) tg g) (htc:∀cl s H C ex,PTs (zBG X scope N cl s H C ex) ifs tc) (hte:∀cl s H C ex,PE (zBG X scope N cl s H C ex) elt te)
  (hW:∀D,H2 D=none->∃W:Nat->Nat->List V->Hp->Prop,(∃m,W 0 m [] (upd H2 D (.lst [])))/\∀i m ys H2,W i m ys H2->zUc JJ D W (Q (.ref D)) g tc te (stC k js Z) i m ys H2)
  (fin:∀cl C H4 s5,s2.heap.objs.size<=C->s2.heap.objs.size≠C->Inv (zBG X scope N cl s2 H2 C fp) [] (stC k js Z) H4 s5->Q (.ref s2.heap.objs.size) H4->RR (.ref s2.heap.objs.size) C (.ok .next) s5) :
  yX (yW X.prog X.w) X.A (newList []) (λacc s3=>yX (yW X.prog X.w) X.A (f8 scope X.env.globals (clOf X.env scope.names []) [] X.env.qual none .none (some X.env)) (λcenv s4 =>
   vU (yW X.prog X.w) X.A (.compStart (.ListComp elt [⟨tg,iter,ifs,0⟩] scope pos) 0 (.ref it) acc { cenv with scope:=dF scope X.env }) (RR acc cenv.locals) s4) X.xe s3) X.xe s2:=by obtain⟨W,⟨m0,w0⟩,turn⟩:=hW s2.heap.objs.size (I2.hok.fresh (qA6 _));refine zMp BB I2 T st2 f2 λcl C s4 h1 h2 I4 st4=>?_;refine zOW (Y:=zBG X scope N cl s2 H2 C fp) BB.calm rfl T (λH' hn b hb=>⟨hn b hb,(I4.ok.exf b hb).1,I4.ok.exfs b hb,.inl hb,(I4.ok.exf b hb).2,λp hp=>by cases hp⟩) (hg _ _ _ _ _) (htc _ _ _ _ _) (hte _ _ _ _ _) turn (λH4 s5 I5 q=>fin cl C H4 s5 h1 h2 I5 q) (n:=m0) ⟨0,[],_,I4,st4,λb hb=>?_,w0⟩ st4;obtain⟨o,e,_⟩:=T.obj _ _ st2 b hb;rw[zA6 (qC4 (qB3 e))];exact(f2 b hb).1
theorem zSS{elt iter tg:y4}{ifs:yE}{pos:Pos}{wi:TI}{g:TG}{tc:TT}{te:TE}{k:Nat}{js:List Nat}(BB:zMy X scope N k js)(hi:PI X tg iter wi)
  (hg:∀cl s H C ex,PG (zBG X scope N cl s H C ex) tg g) (htc:∀cl s H C ex,PTs (zBG X scope N cl s H C ex) ifs tc) (hte:∀cl s H C ex,PE (zBG X scope N cl s H C ex) elt te)
  (hs:∀x,wB iter X.env x=pure x:=by intro _;rfl):PE X (.ListComp elt [⟨tg,iter,ifs,0⟩] scope pos) (zS0 wi k js g tc te):=by
 intro pins s Z H Q I h;rw[eval_ListComp];refine gL (use:=none) rfl hs (zCb λx hx=>I.ok.has x (BB.free x hx)) BB.kind BB.names (thn (hi pins s Z H _ I h) λv s1 h1=>thn h1 λitv s2 h2=>?_);obtain⟨it,fp,tn,JJ,H2,e,I2,T,st2,f2,hW⟩:=h2;subst e;refine zLC BB I2 T st2 f2 hg htc hte hW λcl C H4 s5 hCle hDC I5 q=>?_;obtain⟨m,hn,_⟩:=id I5.loc;have hC4:H4 C=none:=I5.free;refine⟨m,hn,λh' hs'=>⟨.ref s2.heap.objs.size,H4,?_,rfl,q⟩⟩;have bl:∀b o,s2.heap.get? b=some o->b≠C:=λb o e=>qC4 (qB2 (qB3 e) hCle);refine I2.call' (s':={ s5 with heap:=h' }) (ch:=fp) I5.os ?_ (λb u e=>?_) I5.bare (λb hb=>⟨(f2 b hb).2.2.2.1,(f2 b hb).2.1,(f2 b hb).2.2.2.2.1,(f2 b hb).2.2.2.2.2⟩)
 ·have U:=I5.base;exact⟨λb o e n hb hx=>(hs'.2 b (bl b o e)).trans (U.keep b o e n hb hx),λb o e n hb hx=>by
    obtain⟨sl,z⟩:=U.slot b o e n hb hx;exact⟨sl,(hs'.2 b (bl b o e)).trans z⟩,U.free,λb o e hx=>by
    obtain⟨o',z⟩:=U.there b o e hx;exact⟨o',(hs'.2 b (bl b o e)).trans z⟩,U.tups,U.frzs,U.tbls⟩
 ·refine(I5.hok b u e).stay (λc w' hcc q'=>(hs'.2 c ?_).trans q') (λ_ q'=>q') λ_ _ q'=>q';rintro rfl;rcases hcc with rfl|hcc
  ·rw[hC4]at e;cases e
  ·rw[hC4]at hcc;cases hcc
end
theorem zHu{H:Hp}{p:yR}(h:H p=none)(o:HO):Same H (upd H p o):=λb u q=>by rw[zA6 (zAH q h)];exact q
theorem Same.tup{K:yQ}{H H':Hp}{a:yR}{xs:List V}(e:Same H H')(h:SqT K H a xs):SqT K H' a xs:=by
 rcases h with(h|⟨o,h⟩)| h
 ·exact .inl (.inl (e _ _ h))
 ·exact .inl (.inr ⟨o,e _ _ h⟩)
 ·exact .inr h
section
variable {X:Cx}{pins:yD}{Z:St}{H:Hp}{s:yS}
theorem Inv.yields{wr:yC}{h':jC}{tk:Nat}{T:yR}{xs:List V}{its:yB}(I:Inv X pins Z H s)(hf:∀b∈wr,FpOk X pins H b)(k:∀b o,b∉wr->s.heap.get? b=some o->h'.get? b=some o)
  (hT:s.heap.objs.size<=T) (r:Vals xs its) (hz:xs.length<=jA) (ht:IsTup h' T its.toArray):Inv X pins Z (upd H T (.tup xs)) { s with heap:=h',toks:=tk }:=by
 have nT:∀b o,s.heap.get? b=some o->b≠T:=λb o e=>qC4 (qB2 (qB3 e) hT);have hH:∀b u,H b=some u->b≠T:=λb u e=>qC4 (qB2 (I.hok.lt e) hT);have nw:∀b u,H b=some u->b∉wr:=λb u e hb=>by rw[(hf b hb).1]at e;cases e
 refine I.call' (s':={ s with heap:=h',toks:=tk }) (ch:=wr) rfl ⟨λb o e n _ hx=>k b o hx e,λb o e n _ hx=>⟨o.slots,k b o hx e⟩,λb o e n _=>?_,λb o e hx=>⟨o,k b o hx e⟩,λb ys e=>?_,λb o u e=>?_,λb ps e=>⟨#[],?_⟩⟩ (λb u e=>?_) I.bare
  (λb hb=>⟨(hf b hb).2.2.2.1,(hf b hb).2.1,(hf b hb).2.2.2.2.1,(hf b hb).2.2.2.2.2⟩)
 ·rw[zA6 (nT b o e)];exact n
 ·rw[zA6 (hH b _ e)];exact e
 ·rw[zA6 (hH b _ e)];exact e
 ·rw[zA6 (hH b _ e),e];simp
 ·by_cases hb:b=T
  ·subst hb;rw[zAc]at e;cases e;exact⟨hz,its,r,ht⟩
  ·rw[zA6 hb]at e;refine(I.hok b u e).stay (λc v hc q=>k c v ?_ q) (λc q=>?_) λc ys q=>?_
   ·rcases hc with rfl|hc
    ·exact nw _ _ e
    ·exact nw _ _ hc
   ·rw[zA6 (hH c _ q)];exact q
   ·rw[zA6 (hH c _ q)];exact q
theorem Inv.turnedL{wr:yC}{h':jC}{tk:Nat}(I:Inv X pins Z H s)(hf:∀b∈wr,FpOk X pins H b)(k:∀b o,b∉wr->s.heap.get? b=some o->h'.get? b=some o):Inv X pins Z H { s with heap:=h',toks:=tk }:=by
 have nw:∀b u,H b=some u->b∉wr:=λb u e hb=>by rw[(hf b hb).1]at e;cases e
 refine I.call' (s':={ s with heap:=h',toks:=tk }) (ch:=wr) rfl ⟨λb o e n _ hx=>k b o hx e,λb o e n _ hx=>⟨o.slots,k b o hx e⟩,λb o e n _=>n,λb o e hx=>⟨o,k b o hx e⟩,λb ys e=>e,λb o u e=>e,λb ps e=>⟨#[],by rw[e];simp⟩⟩ (λb u e=>?_) I.bare
  (λb hb=>⟨(hf b hb).2.2.2.1,(hf b hb).2.1,(hf b hb).2.2.2.2.1,(hf b hb).2.2.2.2.2⟩)
 refine(I.hok b u e).stay (λc v hc q=>k c v ?_ q) (λc q=>q) λc ys q=>q;rcases hc with rfl|hc
 ·exact nw _ _ e
 ·exact nw _ _ hc
end
section
variable {X:Cx}
theorem zKG:zBN X (.type "range") (λvs H Q=>∃i j:Int,vs=[.int i,.int j]/\∀p,H p=none->Q (.ref p) (upd H p (.rng i j))):=by intro pins s Z H xs us Q I r h;obtain⟨i,j,rfl,q⟩:=h;obtain⟨u,v,rfl,ru,rv⟩:=zLM r;obtain⟨t,rfl⟩:=ru;obtain⟨t',rfl⟩:=rv;refine call_range_2 ⟨.ref s.heap.objs.size,_,I.laid (o:=.rng i j) (λb o e=>qA5 _ e) (qA6 _) ?_,rfl,q _ (I.hok.fresh (qA6 _))⟩;exact⟨_,_,_,qB4 _ rfl⟩
theorem zKH:zBN X (.type "range") (λvs H Q=>∃j:Int,vs=[.int j]/\∀p,H p=none->Q (.ref p) (upd H p (.rng 0 j))):=by intro pins s Z H xs us Q I r h;obtain⟨j,rfl,q⟩:=h;obtain⟨u,rfl,ru⟩:=zDd r;obtain⟨t,rfl⟩:=ru;refine call_range_1 ⟨.ref s.heap.objs.size,_,I.laid (o:=.rng 0 j) (λb o e=>qA5 _ e) (qA6 _) ?_,rfl,q _ (I.hok.fresh (qA6 _))⟩;exact⟨_,_,_,qB4 _ rfl⟩
noncomputable def upV(lo:Int)(n:Nat):List V:=(List.range n).map λk=>V.int (lo+(k:Nat))
theorem zRQ{lo:Int}{n:Nat}{acc:yJ}(h:ItemsOf (λi v=>∃t,v=.int (lo+i*1) t) acc n):Vals (upV lo n) acc.toList:=by
 obtain⟨hs,h⟩:=h;have key:∀(k:Nat) (us:yB) (lo:Int),us.length=k->(∀(i:Nat) (v:yU),us[i]?=some v->∃t,v=Value.int (lo+(i:Nat)) t)->Vals ((List.range k).map λj=>V.int (lo+(j:Nat))) us:=by
  intro k
  induction k with
  |zero=>intro us lo hl _;cases us with
   |nil=>exact .nil
   |cons a r=>simp at hl
  |succ k ih =>
   intro us lo hl hh;cases us with
   |nil=>simp at hl
   |cons a r =>
    rw[List.range_succ_eq_map,qB8,qD2];refine .cons ?_ ?_
    ·obtain⟨t,e⟩:=hh 0 a rfl;exact⟨t,e⟩
    ·have:=ih r (lo+1) (by simpa using hl) λi v e=>by obtain⟨t,q⟩:=hh (i+1) v (by simpa using e);exact⟨t,by rw[q];congr 1;omega⟩
     have e:((fun(j:Nat)=>V.int (lo+(j:Nat)))∘Nat.succ)=fun(j:Nat)=>V.int (lo+1+(j:Nat)):=by funext j;simp only[Function.comp];congr 1;omega
     rw[e];exact this
 exact key n acc.toList lo (by simpa using hs) λi v e=>by obtain⟨t,q⟩:=h i v (by simpa using e);exact⟨t,by rw[q,Int.mul_one]⟩
theorem zIe(hc:X.calm=true):zBN X (.type "list") (λvs H Q=>∃p i j,vs=[.ref p]/\H p=some (.rng i j)/\-(2 ^ 62)<=i/\i<2 ^ 62/\-(2 ^ 62)<=j/\j<2 ^ 62/\(j - i).toNat<=1000/\∀l,H l=none->Q (.ref l) (upd H l (.lst (upV i (j - i).toNat)))):=by
 intro pins s Z H xs us Q I r h;obtain⟨p,i,j,rfl,hp,b1,b2,b3,b4,hn,q⟩:=h;obtain⟨u,rfl,ru⟩:=zDd r;cases ru;obtain⟨t,u,v,e⟩:=(show zBL X.prog X.w H s.heap p (.rng i j)from I.hok _ _ hp)
 refine call_list_range (n:=(j - i).toNat) (I.ok.hd hc) (show IsRange s.heap p i j 1 t u v from e) (small_one b1 b2 b3 b4) (by rw[rangeSize_one];split<;>omega) (qD0 hn (by decide)) λh' tk acc' c' hk he hi=>?_;have hv:=zRQ hi;refine⟨.ref s.heap.objs.size,_,I.laid (o:=.lst (upV i (j - i).toNat)) hk (qA6 _) ⟨?_,acc'.toList,c',hv,by simpa using he⟩,rfl,q _ (I.hok.fresh (qA6 _))⟩;unfold upV;rw[qA8,qF2];exact qD0 hn (by decide)
def zSC:V->List V->Hp->VK->Prop:=λx vs H Q=>∃(l:yR) (xs:List V) (i:Nat) (y:V),x=.ref l/\vs=[.int i,y]/\H l=some (.lst xs)/\xs.length<1000/\i<=xs.length/\Q .non (upd H l (.lst (xs.take i++y::xs.drop i)))
theorem zNP:MtM X "list.insert" zSC:=by
 intro pins s Z H x vs v us Q I rx rv h;obtain⟨l,xs,i,y,rfl,rfl,hH,hz,hi,q⟩:=h;cases rx;obtain⟨u1,u2,rfl,r1,r2⟩:=rv.two;obtain⟨t,rfl⟩:=r1;obtain⟨z,its,n,r,hl,e⟩:=I.lstM hH;generalize hx:((i:Nat):Int)=x;have hx0:0<=x:=by omega
 have hx1:x.toNat=i:=by omega
 have hfit:¬(!Builtin.List.listFitsIndex x)=true:=by rw[fitsIndex_both (by omega) (by omega)];exact qA9
 have hsz:its.toArray.size<=sizeLine:=by rw[qB1,<- hl];exact z
 refine call_meets F.slot_list_insert ⟨_,e,rfl⟩ F.entry_list_insert (F.args_list_insert_3 _ _ _) (PySem.AutoSeq1.list_insert_list_int_val_1 l _ n x t u2 hfit hsz) ⟨e,?_⟩;refine⟨.non,_,I.lset (its':=its.take i++u2::its.drop i) hH e ?_ ((r.take i).append (.cons r2 (r.drop i))) ?_,rfl,q⟩
 ·have hk:(if x<0 then(x+((its.toArray.size:Nat):Int)).toNat else min x.toNat its.toArray.size)=i:=by rw[if_neg (by omega),qB1];omega
  show(its.toArray.extract 0 (if x<0 then(x+((its.toArray.size:Nat):Int)).toNat else min x.toNat its.toArray.size)).push u2++its.toArray.extract (if x<0 then(x+((its.toArray.size:Nat):Int)).toNat else min x.toNat its.toArray.size)=_;rw[hk];apply fD;simp;exact qH1 (by rw[qL1];exact qA6 _)
 ·rw[qC3,qD4,qJ6,qL1];have:(1000:Nat)<=sizeLine:=by decide
  omega
theorem zQ2:OpR X (y9 .Is) (λx y H Q=>∃a b,x=.bl a/\y=.bl b/\Q (.bl (a == b)) H):=by intro pins s Z H x y v u Q I rx ry h;obtain⟨a,b,rfl,rfl,q⟩:=h;cases rx;cases ry;exact is_bool ⟨.bl (a == b),H,I,rfl,q⟩
theorem zK6:OpR X (y9 .IsNot) (λx y H Q=>∃a b,x=.bl a/\y=.bl b/\Q (.bl (a != b)) H):=by intro pins s Z H x y v u Q I rx ry h;obtain⟨a,b,rfl,rfl,q⟩:=h;cases rx;cases ry;exact isnot_bool ⟨.bl (a != b),H,I,rfl,q⟩
end
section
variable {X:Cx}
def zVk(K:yQ):R2:=λx y H Q=>∃a b xs ys,x=.ref a/\y=.ref b/\H a=some (.tup xs)/\H b=some (.tup ys)/\xs.length+ys.length<=jA/\∀p H1,Same H H1->H1 p=some (.tup (xs++ys))->Q (.ref p) H1
theorem zQ3:OpR X (jJ .Add) (zVk X.K):=by
 intro pins s Z H x y v u Q I rx ry h;obtain⟨a,b,xs,ys,rfl,rfl,ha,hb,hz,q⟩:=h;by_cases hx:xs=[]
 ·subst hx;cases rx;cases ry;obtain⟨its,r1,p1,_⟩:=I.tuple (SqT.of ha);obtain⟨its2,r2,p2,_⟩:=I.tuple (SqT.of hb);have e:its=[]:=(r1.nil_iff).mpr rfl;subst e;obtain⟨⟨cls,dd,data,sl⟩,ho,hc,n,hd⟩:=id p1;obtain⟨⟨cls2,dd2,data2,sl2⟩,ho2,hc2,n2,hd2⟩:=id p2;simp only at hc hd hc2 hd2;subst hc hd hc2 hd2;exact dD ⟨_,ho,rfl⟩ ⟨_,ho2,rfl⟩ gR mM wW wS (wJ _ _)
   (tuple_addW0 a b ([]:yB).toArray its2.toArray n n2 dd dd2 sl sl2 (by simp)) ⟨ho,ho2,⟨.ref b,H,I,rfl,q b H (Same.refl H) hb⟩⟩
 ·refine zSY pins s Z H (.ref a) (.ref b) v u Q I rx ry ⟨a,b,xs,ys,rfl,rfl,SqT.of ha,SqT.of hb,hx,hz,λe=>?_,λ_ p hp=>q p _ (zHu hp _) zAc⟩;subst e;exact q a H (Same.refl H) (by rw[qG1];exact ha)
theorem zMo(xs:List V)(lo hi:yG)(h:HT.sIx xs.length 0 lo=0/\HT.sIx xs.length xs.length hi=xs.length):cutV xs lo hi=xs:=by unfold cutV;rw[h.1,h.2,qO6,Nat.sub_zero,qH5]
theorem zDW{prog:y7}{w:jD}{A:jE}{E:yL}{s:yS}{t sl:yR}{items:yJ}{vl vu:yU}{lo hi:yG}{Q:yL}(ht:IsTup s.heap t items)(hs:s.heap.IsSliceOf sl vl vu .none)(pl:lC vl lo)(pu:lC vu hi)
  (hw:HT.sIx items.size 0 lo=0/\HT.sIx items.size items.size hi=items.size)
  (h:Q (.ref t) s):yX (yW prog w) A (gF (.ref t) (.ref sl)) Q E s:=by
 obtain⟨os,hos,hcs,hds⟩:=id hs;have hTs:s.TypeIs (.ref sl) "slice":=⟨os,hos,hcs⟩
 unfold gF
 try with_reducible refine jO ?_
 first|refine yO (yP ?_)| skip
 refine yO (wpAny_sequenceKey ht.typeIs (by decide) ?_);refine yO (jM (name:=Str.ofString "__getitem__") ht.typeIs j9
  (jN j9 ht.typeIs mI ?_ (args_tuple_getitem _ _)))
 show yX _ _ (Builtin.Tuple.tupleItemsOf (.ref t) >>= _) _ _ s;refine yO (tupleItemsOf_ ht ?_);refine yO (vY hTs ?_);rw[if_pos (by decide)];refine yO (HT.sliceApplied_gen hs pl pu ?_);have hyes:(((HT.sIx items.size 0 lo:Nat):Int) == 0&&(1:Int) == 1&&(HT.sIx items.size items.size hi - HT.sIx items.size 0 lo) == items.size)=true:=by rw[hw.1,hw.2];simp
 show yX _ _ (if(((HT.sIx items.size 0 lo:Nat):Int) == 0&&(1:Int) == 1&&(HT.sIx items.size items.size hi - HT.sIx items.size 0 lo) == items.size)=true then _ else _) _ _ s;rw[if_pos hyes];have hEx:Builtin.Tuple.tupleIsExact (Value.ref t)=(mX (Value.ref t) >>= λc=>pure (c == .type "tuple")):=rfl;rw[hEx];refine yO (yO (vY ht.typeIs (yP ?_)));rw[if_pos (by decide)];exact yO (vM (yP ⟨_,rfl,yP h⟩))
def zYv(K:yQ):V->yG->yG->Hp->VK->Prop:=λx lo hi H Q=>∃a xs,x=.ref a/\H a=some (.tup xs)/\∀p H1,Same H H1->H1 p=some (.tup (cutV xs lo hi))->Q (.ref p) H1
theorem zSc:SlR X (zYv X.K):=by
 intro pins s Z H x v vl vu lo hi sl Q I rx hs pl pu h;obtain⟨a,xs,rfl,hx,q⟩:=h;by_cases hw:HT.sIx xs.length 0 lo=0/\HT.sIx xs.length xs.length hi=xs.length
 ·cases rx;obtain⟨its,r,ht,hz⟩:=I.tuple (SqT.of hx);have hlen:its.toArray.size=xs.length:=by rw[qB1];exact r.length.symm
  refine⟨"tuple",_,PyProof.Rows.slot_tuple_getitem.lookup,ht.typeIs,?_⟩;exact zDW ht hs pl pu (by rw[hlen];exact hw) ⟨.ref a,H,I,rfl,q a H (Same.refl H) (by rw[zMo xs lo hi hw];exact hx)⟩
 ·exact zUL pins s Z H (.ref a) v vl vu lo hi sl Q I rx hs pl pu ⟨a,xs,rfl,SqT.of hx,hw,λp hp=>q p _ (zHu hp _) zAc⟩
end
def TK(K:yQ)(H H':Hp):Prop:=∀p xs,SqT K H p xs->SqT K H' p xs
theorem TK.refl(K:yQ)(H:Hp):TK K H H:=λ_ _ h=>h
theorem TK.trans{K:yQ}{H H1 H2:Hp}(a:TK K H H1)(b:TK K H1 H2):TK K H H2:=λp xs h=>b p xs (a p xs h)
theorem dT{p:Prop}[Decidable p](h:p):decide p=true:=decide_eq_true h
theorem zRF:jH "len"=some (.builtin "len"):=by decide +kernel
theorem zR3:jH "range"=some (.type "range"):=by decide +kernel
theorem zKK:jH "list"=some (.type "list"):=by decide +kernel
theorem zLI:jH "tuple"=some (.type "tuple"):=by decide +kernel
theorem zXc:jH "min"=some (.builtin "min"):=by decide +kernel
theorem zXd:jH "max"=some (.builtin "max"):=by decide +kernel
theorem zXa:jH "zip"=some (.type "zip"):=by decide +kernel
theorem zIi:jH "isinstance"=some (.builtin "isinstance"):=by decide +kernel
theorem zRG:jH "int"=some (.type "int"):=by decide +kernel
theorem zU3:jH "bool"=some (.type "bool"):=by decide +kernel
theorem zJI:jH "enumerate"=some (.type "enumerate"):=by decide +kernel
theorem zXb:jH "str"=some (.type "str"):=by decide +kernel
section
variable {X:Cx}{scope:jS}{N:yH}{k:Nat}
def HJ(X:Cx)(scope:jS)(N:yH)(k:Nat)(js:List Nat):Prop:=∀i j,js[i]?=some j->∃x,N[k+i]?=some x/\X.N[j]?=some x/\scope.names.lookup x=some .free/\Vis X.env.scope x
theorem hj1{j0:Nat}{x0:Str}(a0:N[k]?=some x0)(b0:X.N[j0]?=some x0)(c0:scope.names.lookup x0=some .free)(d0:Vis X.env.scope x0):HJ X scope N k [j0]:=λi j h=>by
 match i,h with
 |0,h=>cases h;exact⟨x0,a0,b0,c0,d0⟩
 |i+1,h=>simp at h
theorem hj2{j0 j1:Nat}{x0 x1:Str}(a0:N[k]?=some x0)(b0:X.N[j0]?=some x0)(c0:scope.names.lookup x0=some .free)(d0:Vis X.env.scope x0)
  (a1:N[k+1]?=some x1) (b1:X.N[j1]?=some x1) (c1:scope.names.lookup x1=some .free) (d1:Vis X.env.scope x1):HJ X scope N k [j0,j1]:=λi j h=>by
 match i,h with
 |0,h=>cases h;exact⟨x0,a0,b0,c0,d0⟩
 |1,h=>cases h;exact⟨x1,a1,b1,c1,d1⟩
 |i+2,h=>simp at h
end
structure C4 where
 a:Int
 b:Int
 k:Int
 o:Int
def C4.ok(sw pl:Int)(c:C4):Prop:=0<=c.a/\c.a<c.b/\c.b<pl/\0<=c.k/\c.k<sw/\0<=c.o/\c.o<2
inductive Ty2(K:yQ)(H:Hp):V->String->Prop where
 |non:Ty2 K H .non "NoneType"
 |bl (x:Bool):Ty2 K H (.bl x) "bool"
 |int (i:Int):Ty2 K H (.int i) "int"
 |str (x:Str):Ty2 K H (.str x) "str"
 |tup {a:yR}{xs:List V} (e:SqT K H a xs):Ty2 K H (.ref a) "tuple"
 |lst {a:yR}{xs:List V} (e:SqL K H a xs):Ty2 K H (.ref a) "list"
 |dk {a:yR}{kvs:List (Key×V)} (e:H a=some (.dK kvs)):Ty2 K H (.ref a) "dict"
noncomputable def kOf(t T:String):Bool:=t == T||(t == "bool"&&T == "int")
section
variable {X:Cx}
theorem zMb{A:jE}{E:yL}{pins:yD}{Z:St}{H:Hp}{s:yS}{Q:yL}{c:yU}{b:Bool}{x:V}{u:yU}{t:String}(I:Inv X pins Z H s)(rx:RelV x u)(ty:Ty2 X.K H x t)(e:vS X.K (.type t) c=some b)(h:∀tk,Q (.bool b) { s with toks:=tk }):
  yX (yW X.prog X.w) A (call (.builtin "isinstance") [u,c]) Q E s:=by
 cases ty with
 |non=>cases (show u=Value.none from rx);exact wU W.kitx_none I.kIn True.intro e (λz=>nomatch z) h
 |bl y=>cases (show u=Value.bool y from rx);exact wU W.kitx_bool I.kIn True.intro e (λz=>nomatch z) h
 |int i=>obtain⟨t,q⟩:=(show ∃t,u=Value.int i t from rx);cases q;exact wU W.kitx_int I.kIn True.intro e (λz=>nomatch z) h
 |str y=>obtain⟨t,q⟩:=(show ∃t,u=Value.str y t from rx);cases q;exact wU W.kitx_str I.kIn True.intro e (λz=>nomatch z) h
 |@lst a xs ea =>
  cases (show u=Value.ref a from rx);obtain⟨its,_,pl,_⟩:=I.list ea;obtain⟨o,h1,h2,_⟩:=pl.isList;exact wU W.kitx_list I.kIn ⟨o,h1,h2⟩ e (λz=>nomatch z) h
 |@tup a xs ea =>
  cases (show u=Value.ref a from rx);obtain⟨its,_,pl,_⟩:=I.tuple ea;obtain⟨o,h1,h2,_⟩:=pl;exact wU W.kitx_tuple I.kIn ⟨o,h1,h2⟩ e (λz=>nomatch z) h
 |@dk a kvs ea =>
  cases (show u=Value.ref a from rx);obtain⟨_,_,vs,_,p⟩:=(show zBL X.prog X.w H s.heap a (.dK kvs)from I.hok a _ ea)
  obtain⟨o,es,ep,h1,h2,_⟩:=p;exact wU W.kitx_dict I.kIn ⟨o,h1,h2.1⟩ e (λz=>nomatch z) h
theorem zJD:zBN X (.builtin "isinstance") (λvs H Q=>∃x t T b,vs=[x,.ty T]/\Ty2 X.K H x t/\vS X.K (.type t) (.type T)=some b/\Q (.bl b) H):=by intro pins s Z H xs us Q I r h;obtain⟨x,t,T,b,rfl,ty,e,q⟩:=h;obtain⟨u,v,rfl,ru,rv⟩:=zLM r;cases rv;exact zMb I ru ty e λtk=>⟨.bl b,H,I.tok tk,rfl,q⟩
end
theorem zQo(K:yQ):(∀t∈["NoneType","bool","int","str","tuple","list","dict"],∀T∈["bool","int","tuple","list","str","dict"],vS K (.type t) (.type T)=some (kOf t T)):=by intro t ht T hT;simp only[qB0,qD3,or_false]at ht hT;rcases ht with rfl|rfl|rfl|rfl|rfl|rfl|rfl<;>rcases hT with rfl|rfl|rfl|rfl|rfl|rfl<;>rfl
mutual
inductive Rp(K:yQ)(H:Hp)(a0:yR->Prop):V->wP->Prop where
 |non:Rp K H a0 .non .none
 |bl (b:Bool):Rp K H a0 (.bl b) (.bool b)
 |int (i:Int):Rp K H a0 (.int i) (.int i)
 |str (x:Str):Rp K H a0 (.str x) (.str x)
 |tup {p:yR}{xs:List V}{ds:List wP} (h:SqT K H p xs) (r:RpL K H a0 xs ds):Rp K H a0 (.ref p) (.tuple ds)
 |lst {p:yR}{xs:List V}{ds:List wP} (n:a0 p) (h:SqL K H p xs) (r:RpL K H a0 xs ds):Rp K H a0 (.ref p) (.list ds)
inductive RpL(K:yQ)(H:Hp)(a0:yR->Prop):List V->List wP->Prop where
 |nil:RpL K H a0 [] []
 |cons {x:V}{xs:List V}{d:wP}{ds:List wP} (h:Rp K H a0 x d) (t:RpL K H a0 xs ds):RpL K H a0 (x::xs) (d::ds)
end
noncomputable def C4.d(c:C4):PyData:=.tuple [.int c.a,.int c.b,.int c.k,.int c.o]
section
variable {prog:y7}{w:jD}{A:jE}{E:yL}{s:yS}
theorem zIA{j t:yR}{n:Nat}{vs:yJ}{v:yU}{Q:yL}(hj:s.heap.IsTupleIter j t n)(ht:s.heap.IsTuple t vs)(hv:vs[n]?=some v)
  (q:∀h',h'.IsTupleIter j t (n+1)->qH0 j s.heap h'->Q v { s with heap:=h' }):yX (yW prog w) A (Builtin.SmallTypes.nextOf (.ref j)) Q E s:=by obtain⟨oj,e1,c1,d1⟩:=id hj;obtain⟨ot,e2,_,m,d2⟩:=ht;unfold Builtin.SmallTypes.nextOf;refine yO (jM (name:=Str.ofString "__next__") hj.typeIs vN (jN vN hj.typeIs fU ?_ (fO _)));show yX _ _ (field (.ref j) 0 >>= _) _ _ s;refine yO (jZ e1 d1 (x:=.ref t) rfl ?_);show yX _ _ (if(Value.ref t == Value.none)=true then _ else _) _ _ s;rw[if_neg (show ¬((Value.ref t == Value.none)=true)from λz=>qA9 z)];show yX _ _ (field (.ref j) 1 >>= _) _ _ s;refine yO (jZ e1 d1 (x:=.int n 0) rfl ?_);show yX _ _ (seqItems? (.ref t) >>= _) _ _ s;refine yO (vW e2 d2 ?_);simp only[hv,qE0];refine yO (wE e1 d1 (by simp) (yP ⟨v,rfl,yP (q _ ?_ (qH0.update ..))⟩));refine⟨_,qE7 _ e1 (jY (jR d1 _)),(gG ..).trans c1,?_⟩;rw[jR d1];simp[j8]
theorem zJW{j t:yR}{n:Nat}{vs:yJ}{Q:yL}(hh:A.handled=none)(hj:s.heap.IsTupleIter j t n)(ht:s.heap.IsTuple t vs)(hv:vs[n]?=none)
  (q:∀h' e,Heap.ExtBut j s.heap h'->(∃o,h'.get? e=some o/\o.cls=.type "StopIteration")->E (.ref e) { s with heap:=h' }):yX (yW prog w) A (Builtin.SmallTypes.nextOf (.ref j)) Q E s:=by
 obtain⟨oj,e1,c1,d1⟩:=id hj;obtain⟨ot,e2,_,m,d2⟩:=ht;unfold Builtin.SmallTypes.nextOf;refine yO (jM (name:=Str.ofString "__next__") hj.typeIs vN (jN vN hj.typeIs fU ?_ (fO _)));show yX _ _ (field (.ref j) 0 >>= _) _ _ s;refine yO (jZ e1 d1 (x:=.ref t) rfl ?_);show yX _ _ (if(Value.ref t == Value.none)=true then _ else _) _ _ s;rw[if_neg (show ¬((Value.ref t == Value.none)=true)from λz=>qA9 z)];show yX _ _ (field (.ref j) 1 >>= _) _ _ s;refine yO (jZ e1 d1 (x:=.int n 0) rfl ?_);show yX _ _ (seqItems? (.ref t) >>= _) _ _ s;refine yO (vW e2 d2 ?_);simp only[hv,qE0];refine yO (vM (yO (wE e1 d1 (by simp) ?_)));refine yO (m:=newExc (.type "StopIteration") []) ?_;simp only[newTuple,newExc];refine yO (jP ?_ (by size_fits));refine yO (m:=f9 _ _) (wpAny_of_eq (a:=Value.none) (by first|(simp only[f9];rfl)| rfl) ?_);refine jP ?_ (by size_fits);simp only[raiseNew];refine yO (wpAny_handled ?_)
 first|rw[hh]| rw[show A.in1.handled=none from hh]
 refine yO (yP (wpAny_throw ?_));exact q _ _ (((qH0.update ..).extBut.push _).push _) ⟨_,qB4 _ rfl,rfl⟩
end
theorem zMn{prog:y7}{w:jD}{A:jE}(hh:A.handled=none)(j t:yR)(hne:t≠j)(vs:yJ):
  Draws prog w A j [j,t] vs.size (λi v=>vs[i]?=some v) (λi h=>h.IsTupleIter j t i/\h.IsTuple t vs) where
 live:=λ_ _ st=>let ⟨o,ho,_⟩:=st.1;⟨o,ho⟩
 frame:=λ_ _ _ st kk=>⟨st.1.at λo e=>kk j (by simp) o e,let ⟨o,ho,r⟩:=st.2;⟨o,kk t (by simp) o ho,r⟩⟩
 item:=λi s Q E hi st hQ=>zIA st.1 st.2 (v:=vs[i]) (by simp[hi]) λh' h1 h2=>hQ _ h' s.toks (by simp[hi]) ⟨h1,st.2.extBut h2.extBut hne⟩ h2
 done:=λs Q E st hE=>zJW hh st.1 st.2 (by simp) hE
theorem zQW(l:yR)(items:yJ)(n:Nat)(dct:Option yR)(sl:Array (yF)):
  Meets (Builtin.«enumerate.__new__» ⟨[.type "enumerate",.ref l],[]⟩) (λ_ R s=>s.heap.get? l=some { cls:=.type "tuple",dict:=dct,data:=.seq items n,slots:=sl } /\
   R (.ok (.ret (.ref (s.heap.push { cls:=.type "tuple_iterator",data:=.fields #[.ref l,.int 0 0] }).objs.size)))
    { s with heap:=(s.heap.push { cls:=.type "tuple_iterator",data:=.fields #[.ref l,.int 0 0] }).push { cls:=.type "enumerate",data:=.fields #[.none,.bool false,.ref s.heap.objs.size,j8 0,.none,.none] } }) :=
 .of_wp λprog w A R s h=>by
  obtain⟨hp,g,d,tk,os⟩:=s;obtain⟨hl,h⟩:=h;have hsub:=sub_enumerate;have hT:qJ9 (Shared.heap ⟨hp,g,d,tk,os⟩) l items:=⟨_,hl,rfl,n,rfl⟩
  wp_walk using AutoSeq1.wpAny_loadPart' hl
  refine wpAny_stack_any λst=>yP ?_;split
  ·rename_i c _ _ _ _ _;cases (c == Value.type "enumerate")<;>(wp_walk using AutoSeq1.wpAny_loadPart' hl,vB hT;exact⟨_,rfl,h⟩)
  ·wp_walk using AutoSeq1.wpAny_loadPart' hl,vB hT
   exact⟨_,rfl,h⟩
section
variable {X:Cx}{pins:yD}{Z:St}{H:Hp}{s:yS}
mutual
theorem Inv.reads(I:Inv X pins Z H s){a0:yR->Prop}:∀{x:V}{d:wP}{u:yU},Rp X.K H a0 x d->RelV x u->∃as,Reads s.heap u d as
 |_,_,u,.non,r=>by cases (show u=Value.none from r);exact⟨_,.none⟩
 |_,_,u,.bl b,r=>by cases (show u=Value.bool b from r);exact⟨_,.bool b⟩
 |_,_,u,.int i,r=>by obtain⟨t,q⟩:=(show ∃t,u=Value.int i t from r);cases q;exact⟨_,.int i t⟩
 |_,_,u,.str y,r=>by obtain⟨t,q⟩:=(show ∃t,u=Value.str y t from r);cases q;exact⟨_,.str y t⟩
 |_,_,u,.tup (p:=p) h rr,r=>by cases (show u=Value.ref p from r);obtain⟨its,rv,⟨o,h1,h2,n,h3⟩,_⟩:=I.tuple h;obtain⟨as,ra⟩:=I.readsL rr rv;exact⟨_,.tuple h1 h2 h3 (by simpa using ra)⟩
 |_,_,u,.lst (p:=p) _ h rr,r=>by cases (show u=Value.ref p from r);obtain⟨its,rv,pl,_⟩:=I.list h;obtain⟨o,h1,h2,n,h3⟩:=pl.isList;obtain⟨as,ra⟩:=I.readsL rr rv;exact⟨_,.list h1 h2 h3 (by simpa using ra)⟩
theorem Inv.readsL(I:Inv X pins Z H s){a0:yR->Prop}:∀{xs:List V}{ds:List wP}{us:yB},RpL X.K H a0 xs ds->Vals xs us->∃as,ReadsAll s.heap us ds as
 |_,_,_,.nil,.nil=>⟨_,.nil⟩
 |_,_,_,.cons h t,.cons r rr=>by obtain⟨a1,q1⟩:=I.reads h r;obtain⟨a2,q2⟩:=I.readsL t rr;exact⟨_,.cons q1 q2⟩
end
def okD(d:wP):Prop:=d.canLay0=true/\d.depth<=60
theorem zVU(hu:X.A.units+64<wR):OpR X (y9 .Eq) (λx y H Q=>∃(N N':yR->Prop) (da db:wP),Rp X.K H N x da/\Rp X.K H N' y db/\okD da/\okD db/\Q (.bl (PyData.eqv da db)) H):=by intro pins s Z H x y v u Q I rx ry h;obtain⟨N,N',da,db,hx,hy,o1,o2,q⟩:=h;obtain⟨as,ra⟩:=I.reads hx rx;obtain⟨bs,rb⟩:=I.reads hy ry;exact SeqAt.compareEq_reads ra rb o1.1 o2.1 (by have:=o1.2;omega) ⟨.bl _,H,I,rfl,q⟩
theorem zVQ(hu:X.A.units+64<wR):OpR X (y9 .NotEq) (λx y H Q=>∃(N N':yR->Prop) (da db:wP),Rp X.K H N x da/\Rp X.K H N' y db/\okD da/\okD db/\Q (.bl (!PyData.eqv da db)) H):=by intro pins s Z H x y v u Q I rx ry h;obtain⟨N,N',da,db,hx,hy,o1,o2,q⟩:=h;obtain⟨as,ra⟩:=I.reads hx rx;obtain⟨bs,rb⟩:=I.reads hy ry;exact SeqAt.compareNe_reads ra rb o1.1 o2.1 (by have:=o1.2;omega) ⟨.bl _,H,I,rfl,q⟩
end
def SqX(b:Bool)(K:yQ)(H:Hp)(a:yR)(xs:List V):Prop:=match b with
 |true=>SqT K H a xs
 |false=>SqL K H a xs
def IsX(b:Bool)(h:jC)(a:yR)(vs:yJ):Prop:=match b with
 |true=>h.IsTuple a vs
 |false=>h.IsList a vs
def ItX(b:Bool)(h:jC)(j a:yR)(i:Nat):Prop:=match b with
 |true=>h.IsTupleIter j a i
 |false=>h.IsListIter j a i
theorem ItX.obj{b:Bool}{h:jC}{j a:yR}{i:Nat}(x:ItX b h j a i):∃o,h.get? j=some o/\∀v,o.data≠.cell v:=by
 cases b with
 |true=>obtain⟨o,h1,_,h2⟩:=(x:h.IsTupleIter j a i);exact⟨o,h1,λv q=>by rw[h2]at q;cases q⟩
 |false=>obtain⟨o,h1,_,h2⟩:=(x:h.IsListIter j a i);exact⟨o,h1,λv q=>by rw[h2]at q;cases q⟩
theorem ItX.keep{b:Bool}{h h':jC}{j a:yR}{i:Nat}(x:ItX b h j a i)(e:∀o,h.get? j=some o->h'.get? j=some o):ItX b h' j a i:=by
 cases b with
 |true=>exact Heap.IsTupleIter.at x e
 |false=>exact Heap.IsListIter.at x e
theorem IsX.lt{b:Bool}{h:jC}{a:yR}{vs:yJ}(x:IsX b h a vs):a<h.objs.size:=by
 cases b with
 |true=>obtain⟨_,e,_⟩:=(x:h.IsTuple a vs);exact qB3 e
 |false=>obtain⟨_,e,_⟩:=(x:h.IsList a vs);exact qB3 e
theorem zHf{prog:y7}{w:jD}{A:jE}(b:Bool)(hh:A.handled=none)(j t:yR)(hne:t≠j)(vs:yJ):
  Draws prog w A j [j,t] vs.size (λi v=>vs[i]?=some v) (λi h=>ItX b h j t i/\IsX b h t vs):=by
 cases b with
 |true=>exact zMn hh j t hne vs
 |false=>exact Draws.list hh j t hne vs
section
variable {X:Cx}{pins:yD}{Z:St}{H:Hp}{s:yS}
theorem Inv.sqX(I:Inv X pins Z H s){b:Bool}{a:yR}{xs:List V}(h:SqX b X.K H a xs):∃its,Vals xs its/\IsX b s.heap a its.toArray:=by
 cases b with
 |true=>obtain⟨its,r,p,_⟩:=I.tuple h;exact⟨its,r,p⟩
 |false=>obtain⟨its,r,p,_⟩:=I.list h;exact⟨its,r,p.isList⟩
theorem Inv.sqX_inj(I:Inv X pins Z H s){b:Bool}{a:yR}{xs ys:List V}(h:SqX b X.K H a xs)(h':SqX b X.K H a ys):xs=ys:=by
 cases b with
 |true=>exact I.tuple_inj h h'
 |false=>exact I.list_inj h h'
end
noncomputable def IteX(b:Bool)(K:yQ)(a:yR):It :=
  ⟨λi H=>∃xs x,SqX b K H a xs/\xs[i]?=some x,
   λi H v H'=>∃T,H T=none/\v=.ref T/\∀xs x,SqX b K H a xs->xs[i]?=some x->H'=upd H T (.tup [.int i,x]),
   λi H=>∃xs,SqX b K H a xs/\i=xs.length⟩
theorem allN{P:yR->Prop}:∀x∈([]:yC),P x:=λ_ h=>by cases h
theorem allC{P:yR->Prop}{a:yR}{l:yC}(h:P a)(t:∀x∈l,P x):∀x∈a::l,P x:=λx hx=>(qB0.mp hx).elim (λe=>e▸h) (t x)
theorem zRt{X:Cx}{pins:yD}{H:Hp}{T:yR}{o:HO}{ws:yC}(h:∀b∈ws,FpOk X pins H b)(n:∀b∈ws,b≠T):∀b∈ws,FpOk X pins (upd H T o) b:=λb hb=>⟨by rw[zA6 (n b hb)];exact(h b hb).1,(h b hb).2⟩
structure EsX(b:Bool)(e it a:yR)(i:Nat)(h:jC):Prop where
 a1:∃old,IsEnum h e it (i:Nat) old
 a2:ItX b h it a i
theorem EsX.obj{b:Bool}{e it a:yR}{i:Nat}{h:jC}(st:EsX b e it a i h):∀c∈[e,it],∃o,h.get? c=some o/\∀v,o.data≠.cell v:=by obtain⟨_,a1⟩:=st.a1;exact allC ⟨_,a1,λv q=>by cases q⟩ (allC st.a2.obj allN)
theorem EsX.ne{b:Bool}{e it a:yR}{i:Nat}{h:jC}(st:EsX b e it a i h){T:yR}(hT:h.objs.size<=T):∀c∈[e,it],c≠T:=λc hc=>by obtain⟨o,z,_⟩:=st.obj c hc;exact qC4 (qB2 (qB3 z) hT)
theorem zyE{b:Bool}{a:yR}{i:Nat}{X:Cx}{pins:yD}{Z:St}{H:Hp}{s:yS}(I:Inv X pins Z H s){xs:List V}{x:V}(q1:SqX b X.K H a xs)(ex:xs[i]?=some x){T:yR}(xs':List V)(x':V)(s1:SqX b X.K H a xs')(t1:xs'[i]?=some x'):upd H T (.tup [.int i,x])=upd H T (.tup [.int i,x']):=by have h1:=I.sqX_inj q1 s1;subst h1;rw[ex]at t1;cases t1;rfl
theorem zvE{t1:yB}{u1:yU}{i:Nat}{vals:yJ}(e1:t1[i]?=some u1)(hv:∃tt v,t1.toArray[i]?=some v/\vals=#[.int (i:Nat) tt,v]):∃tt,vals=#[.int (i:Nat) tt,u1]:=by obtain⟨tt,v,g,rfl⟩:=hv;rw[qC7,e1]at g;cases g;exact⟨tt,rfl⟩
theorem zGY{P:y7}{w:jD}{K:PySem.W.Frag}{elts:yE}{k:Nat}{pos:Pos}(b:Bool)(e it a:yR)(hei:e≠it)(hea:e≠a)(hai:a≠it):
  Turn P w K (.Tuple elts k pos) (IteX b K a) [e,it] e (EsX b e it a) where
 mem:=by simp
 obj:=λi h st=>st.obj
 keep:=λi h h' ⟨⟨old,h1⟩,h2⟩ kk=>⟨⟨old,kk e (by simp) _ h1⟩,h2.keep λo z=>kk it (by simp) o z⟩
 item:=by intro X hP hw hK hc i pins s Z H E I hf st hg;subst hP hw hK;obtain⟨xs,x,q1,ex⟩:=hg;obtain⟨its1,r1,p1⟩:=I.sqX q1;obtain⟨u1,e1,ru1⟩:=r1.get ex;have D:=zHf (prog:=X.prog) (w:=X.w) (A:=X.A.in1) b (show X.A.in1.handled=none from I.ok.hd hc) it a hai its1.toArray;have W:=WalksT.enumerateD (A:=X.A) D e hei (by simp[hei,hea]) (by simp);have hl1:i<its1.length:=(qA3.mp e1).1;refine W.item i s _ _ (by simp only[qB1];omega) ⟨st.1,st.2,p1⟩ λT vals h' tk hv hT hIs hM kk=>?_;obtain⟨tt,hvv⟩:=zvE e1 hv;subst hvv;have nT:=st.ne hT;refine⟨_,rfl,W.go _ _ _ i T { s with heap:=h',toks:=tk } _ _ hM λh2 st2 kk2=>?_⟩;have I1:Inv X pins Z (upd H T (.tup [.int i,x])) { s with heap:=h',toks:=tk }:=I.yields (its:=[.int i tt,u1]) hf kk hT (.cons ⟨tt,rfl⟩ (.cons ru1 .nil)) (by show 2<=jA;decide) hIs;exact⟨.ref T,_,I1.turnedL (tk:=tk) (zRt hf nT) kk2,rfl,⟨T,I.hok.fresh hT,rfl,zyE I q1 ex⟩,⟨st2.1,st2.2.1⟩,λc hc=>by rw[zA6 (nT c hc)];exact(hf c hc).1⟩
 done:=by
  intro X hP hw hK hc i pins s Z H E I hf st hg;subst hP hw hK;obtain⟨xs,q1,ei⟩:=hg;obtain⟨its1,r1,p1⟩:=I.sqX q1;have D:=zHf (prog:=X.prog) (w:=X.w) (A:=X.A.in1) b (show X.A.in1.handled=none from I.ok.hd hc) it a hai its1.toArray;have W:=WalksT.enumerateD (A:=X.A) D e hei (by simp[hei,hea]) (by simp);have en:i=its1.toArray.size:=by rw[qB1,<- r1.length];exact ei
  refine W.done s _ _ (by rw[<- en];exact⟨st.1,st.2,p1⟩) λh' tk kk=>?_;exact⟨rfl,I.turnedL hf kk⟩
 self:=λ_ _ _ _ _ st h=>let ⟨⟨_,z⟩,_⟩:=st;gH z h
section
variable {X:Cx}
def zRs(K:yQ)(ta:TA):TI:=fun Z H R=>ta Z H λvs H1=>∃a,vs=[.ref a]/\((∃xs,SqT K H1 a xs)/\R (IteX true K a) H1∨(∃xs,SqL K H1 a xs)/\R (IteX false K a) H1)
theorem zPT{elts:yE}{k:Nat}{tpos:Pos}{a:y4}{ta:TA}{p pos:Pos}(hg:Gl X "enumerate")(hm:X.mg "enumerate"=none)(ha:PA X [a] ta)(hs:jF [a] X.env=[(false,vL a X.env)]:=by rfl):
  PI X (.Tuple elts k tpos) (.Call (.Name "enumerate" p) [a] [] pos) (zRs X.K ta):=by
 intro pins s Z H R I h;refine Call_ (zFC I hg hm zJI (j6 (thn (ha pos pins s Z H _ I h) λus s1 ⟨vs,H1,I1,r1,q1⟩=>?_) (by rw[hs];rfl) (by rfl)));obtain⟨t,e,q⟩:=q1;subst e;rcases q with⟨⟨xs,h1⟩,q⟩| ⟨⟨xs,h1⟩,q⟩
 ·cases r1 with
  |cons r rr =>
   cases rr;cases r;obtain⟨its1,v1,p1,z1⟩:=I1.tuple h1;obtain⟨⟨c,dct,dt,sl⟩,hl,hc,n,hd⟩:=id p1
   replace hc:c=.type "tuple":=hc
   replace hd:dt=.seq its1.toArray n:=hd
   subst hc hd;have hlt:t<s1.heap.objs.size:=qB3 hl;refine callType_new PySem.F.called_enumerate (by decide) (PySem.F.typeCall_enumerate_1 _) (PySem.F.newCall_enumerate_1 _) (λobj=>PySem.F.args_object_init_2 obj _) PySem.F.entry_enumerate_new (zQW t its1.toArray n dct sl) ⟨hl,?_⟩;have hz:(s1.heap.push { cls:=.type "tuple_iterator",data:=.fields #[.ref t,.int 0 0] }).objs.size=s1.heap.objs.size+1:=qF9 ..;show _/\_;rw[hz];have he:IsEnum ((s1.heap.push { cls:=.type "tuple_iterator",data:=.fields #[.ref t,.int 0 0] }).push { cls:=.type "enumerate",data:=.fields #[.none,.bool false,.ref s1.heap.objs.size,j8 0,.none,.none] }) (s1.heap.objs.size+1) s1.heap.objs.size 0 .none:=by have z:=qB4 (s1.heap.push { cls:=.type "tuple_iterator",data:=.fields #[.ref t,.int 0 0] }) (o:={ cls:=.type "enumerate",data:=.fields #[.none,.bool false,.ref s1.heap.objs.size,j8 0,.none,.none] }) rfl;rw[hz]at z;exact z
   refine⟨⟨_,he,rfl⟩,?_⟩;refine gH he ?_;have kp:∀b o,s1.heap.get? b=some o->((s1.heap.push { cls:=.type "tuple_iterator",data:=.fields #[.ref t,.int 0 0] }).push { cls:=.type "enumerate",data:=.fields #[.none,.bool false,.ref s1.heap.objs.size,j8 0,.none,.none] }).get? b=some o:=λb o x=>qA5 _ (qA5 _ x);refine⟨_,_,_,_,H1,rfl,I1.kept (t':=s1.toks) kp,zGY true (s1.heap.objs.size+1) s1.heap.objs.size t (qQ6 _) (qG4 (qF1 hlt)) (qC4 hlt),⟨⟨_,he⟩,⟨_,qA5 _ (qB4 _ rfl),rfl,rfl⟩⟩,λb hb=>?_,q⟩;have hle:s1.heap.objs.size<=b:=by
    simp only[qB0,qD3,or_false]at hb;rcases hb with rfl|rfl
    ·exact qM5 _
    ·exact qA6 _
   exact I1.fpOk hle (I1.hok.fresh hle)
 ·cases r1 with
  |cons r rr =>
   cases rr;cases r;obtain⟨its1,v1,p1,z1⟩:=I1.list h1;have hlt:t<s1.heap.objs.size:=by obtain⟨_,e,_⟩:=p1.isList;exact qB3 e
   refine call_enumerate_list p1.isList λh' he hi hsz hk=>?_;refine gH he ?_;refine⟨_,_,_,_,H1,rfl,I1.kept (t':=s1.toks) hk,zGY false (s1.heap.objs.size+1) s1.heap.objs.size t (qQ6 _) (qG4 (qF1 hlt)) (qC4 hlt),⟨⟨_,he⟩,hi⟩,λb hb=>?_,q⟩;have hle:s1.heap.objs.size<=b:=by
    simp only[qB0,qD3,or_false]at hb;rcases hb with rfl|rfl
    ·exact qM5 _
    ·exact qA6 _
   exact I1.fpOk hle (I1.hok.fresh hle)
end
structure ZAp(z TI TO i1 i2:yR)(f1 f2:yC):Prop where
 TIz:TI≠z
 TOz:TO≠z
 i1z:i1≠z
 i2z:i2≠z
 TITO:TI≠TO
 TIi1:TI≠i1
 TIi2:TI≠i2
 TOi1:TO≠i1
 TOi2:TO≠i2
 i12:i1≠i2
 z1:z∉f1
 z2:z∉f2
 O1:TO∉f1
 O2:TO∉f2
 j1:i2∉f1
 j2:i1∉f2
section
variable {prog:y7}{w:jD}{A:jE}{E:yL}{s:yS}
variable {z TI TO i1 i2:yR}{f1 f2:yC}{n1 n2 k:Nat}{P1 P2:Nat->yU->Prop}{S1 S2:Nat->jC->Prop}
theorem Draws.sb{j c:yR}{fp:yC}{n i:Nat}{P:Nat->yU->Prop}{St:Nat->jC->Prop}{h h':jC}(D:Draws prog w A j fp n P St)(st:St i h)(sb:qH0 c h h')(hc:c∉fp):St i h' :=
 D.frame _ _ _ st λb hb o e=>sb.extBut b o (λq=>hc (q▸hb)) e
theorem zKS{Q:Fin->yS->Prop}{a b:yU}(hz:fR s.heap z TI TO .none)(hTI:wF s.heap TI (.ref i1) (.ref i2))(hTO:wF s.heap TO a b)(hh:A.handled=none)
  (D1:∀A:jE,A.handled=none->Draws prog w A i1 f1 n1 P1 S1) (D2:∀A:jE,A.handled=none->Draws prog w A i2 f2 n2 P2 S2) (ap:ZAp z TI TO i1 i2 f1 f2) (h1:S1 k s.heap) (h2:S2 k s.heap)
  (hQ:k<n1->k<n2->∀x y h' tk,P1 k x->P2 k y->fR h' z TI TO (j8 s.heap.objs.size)->wF h' TO x y->S1 (k+1) h'->S2 (k+1) h'->wF h' s.heap.objs.size x y->h'.objs.size=s.heap.objs.size+1 ->
   (∀c o,c≠z->c≠TO->c≠i1->c≠i2->s.heap.get? c=some o->h'.get? c=some o)->Q (.done (.ret (.ref s.heap.objs.size))) { s with heap:=h',toks:=tk })
  (hE:(k=n1∨k=n2)->∀h' e tk,(∀c o,c≠z->c≠TO->c≠i1->c≠i2->s.heap.get? c=some o->h'.get? c=some o)->(∃o,h'.get? e=some o/\o.cls=.type "StopIteration")->E (.ref e) { s with heap:=h',toks:=tk })
  (hk1:k<=n1) (hk2:k<=n2):yX (yW prog w) A (Builtin.«zip.__next__» ⟨[.ref z],[]⟩) Q E s:=by
 show yX _ _ (field (.ref z) 2 >>= _) _ _ _;refine yO (jZ hz rfl (x:=.bool false) rfl ?_);show yX _ _ (field (.ref z) 3 >>= _) _ _ _;refine yO (jZ hz rfl (x:=.ref TI) rfl ?_);refine yO (vW hTI rfl ?_);show yX _ _ (Builtin.SmallTypes.ownedTupleIsFree (.ref z) >>= _) _ _ _;refine yO ?_;unfold Builtin.SmallTypes.ownedTupleIsFree;refine yO (jZ hz rfl (x:=.none) rfl (yP ?_));simp only[if_true];refine yO (vM ?_);refine yO (jZ hz rfl (x:=.ref TO) rfl ?_);refine yO (vZ hz (by simp) λha za sa=>?_)
 replace za:fR ha z TI TO .ellipsis:=za
 have s1a:S1 k ha:=Draws.sb (D1 A hh) h1 sa ap.z1;have s2a:S2 k ha:=Draws.sb (D2 A hh) h2 sa ap.z2;have oa:wF ha TO a b:=sa.extBut _ _ ap.TOz hTO;refine yO ?_;simp only[qQ7,List.zipIdx_nil,qR4,qR8];refine yO (yO (wpAny_onRaise ?_));show yX _ _ (Builtin.SmallTypes.nextOf (.ref i1) >>= _) _ _ _;by_cases l1:k<n1
 ·refine yO ((D1 _ hh).item k _ _ _ l1 s1a λx hb tb px s1b sb=>yP ?_);have ob:wF hb TO a b:=sb.extBut _ _ ap.TOi1 oa;have s2b:S2 k hb:=Draws.sb (D2 A hh) s2a sb ap.j2;have zb:fR hb z TI TO .ellipsis:=sb.extBut _ _ ap.i1z.symm za;refine yO (vW ob rfl ?_);refine yO (lX ob λhc oc sc=>?_)
  replace oc:wF hc TO x b:=oc
  have s1c:S1 (k+1) hc:=Draws.sb (D1 A hh) s1b sc ap.O1;have s2c:S2 k hc:=Draws.sb (D2 A hh) s2b sc ap.O2;have zc:fR hc z TI TO .ellipsis:=sc.extBut _ _ ap.TOz.symm zb;refine yO (wpAny_letGo (yP ?_));refine yO (yO (wpAny_onRaise ?_));show yX _ _ (Builtin.SmallTypes.nextOf (.ref i2) >>= _) _ _ _;by_cases l2:k<n2
  ·refine yO ((D2 _ hh).item k _ _ _ l2 s2c λy hd td py s2d sd=>yP ?_);have od:wF hd TO x b:=sd.extBut _ _ ap.TOi2 oc;have s1d:S1 (k+1) hd:=Draws.sb (D1 A hh) s1c sd ap.j1;have zd:fR hd z TI TO .ellipsis:=sd.extBut _ _ ap.i2z.symm zc;refine yO (vW od rfl ?_);refine yO (lX od λhe oe se=>?_)
   replace oe:wF he TO x y:=oe
   have s1e:S1 (k+1) he:=Draws.sb (D1 A hh) s1d se ap.O1;have s2e:S2 (k+1) he:=Draws.sb (D2 A hh) s2d se ap.O2;have ze:fR he z TI TO .ellipsis:=se.extBut _ _ ap.TOz.symm zd;refine yO (wpAny_letGo (yP (yP ?_)));refine yO (vW oe rfl ?_);refine yO (wpAny_newTuple ?_);have hsz:he.objs.size=s.heap.objs.size:=by rw[se.1,sd.1,sc.1,sb.1,sa.1]
   have kp:∀c o,c≠z->c≠TO->c≠i1->c≠i2->s.heap.get? c=some o->he.get? c=some o:=λc o c1 c2 c3 c4 e =>
    se.extBut _ _ c2 (sd.extBut _ _ c4 (sc.extBut _ _ c2 (sb.extBut _ _ c3 (sa.extBut _ _ c1 e))))
   have zlt:z<he.objs.size:=qB3 ze;show yX _ _ (Builtin.SmallTypes.ownedTupleHandOut (.ref z) (.ref he.objs.size) >>= _) _ _ _;refine yO ?_;unfold Builtin.SmallTypes.ownedTupleHandOut;have zf:fR (he.push { cls:=.type "tuple",data:=.seq #[x,y] }) z TI TO .ellipsis:=qA5 _ ze;refine yO (vZ zf (by simp) λhg zg sg=>?_)
   replace zg:fR hg z TI TO (j8 he.objs.size):=zg
   refine vZ zg (by simp) λhi zi si=>?_
   replace zi:fR hi z TI TO (j8 he.objs.size):=zi
   have up:∀c o,c≠z->he.get? c=some o->hi.get? c=some o:=λc o c1 e=>si.extBut _ _ c1 (sg.extBut _ _ c1 (qA5 _ e));have tz:wF hi he.objs.size x y:=si.extBut _ _ (qG4 zlt) (sg.extBut _ _ (qG4 zlt) (qB4 _ rfl));have zz:hi.objs.size=he.objs.size+1:=by rw[si.1,sg.1,qF9]
   have s1i:S1 (k+1) hi:=(D1 A hh).frame _ _ _ s1e λb hb o e=>up b o (λq=>ap.z1 (q▸hb)) e;have s2i:S2 (k+1) hi:=(D2 A hh).frame _ _ _ s2e λb hb o e=>up b o (λq=>ap.z2 (q▸hb)) e;rw[hsz]at zi tz zz;refine yP ?_;show Q (.done (.ret (.ref he.objs.size))) _;rw[hsz];exact hQ l1 l2 x y hi td px py zi (up _ _ ap.TOz oe) s1i s2i tz zz λc o c1 c2 c3 c4 e=>up c o c1 (kp c o c1 c2 c3 c4 e)
  ·have e2:k=n2:=qR6 hk2 (qN1 l2);refine yO ((D2 _ hh).done _ _ _ (e2▸s2c) λhd e sd he=>?_);obtain⟨oe,hoe,hce⟩:=he;have zd:fR hd z TI TO .ellipsis:=sd _ _ ap.i2z.symm zc;have hez:e≠z:=λq=>by subst q;rw[zd]at hoe;cases hoe;simp at hce
   refine vZ zd (by simp) λhf _ sf=>hE (.inr e2) hf e tb (λc o c1 c2 c3 c4 q=>sf.extBut _ _ c1 (sd _ _ c4 (sc.extBut _ _ c2 (sb.extBut _ _ c3 (sa.extBut _ _ c1 q))))) ⟨oe,sf.extBut _ _ hez hoe,hce⟩
 ·have e1:k=n1:=qR6 hk1 (qN1 l1);refine yO ((D1 _ hh).done _ _ _ (e1▸s1a) λhd e sd he=>?_);obtain⟨oe,hoe,hce⟩:=he;have zd:fR hd z TI TO .ellipsis:=sd _ _ ap.i1z.symm za;have hez:e≠z:=λq=>by subst q;rw[zd]at hoe;cases hoe;simp at hce
  exact vZ zd (by simp) λhf _ sf=>hE (.inl e1) hf e s.toks (λc o c1 _ c3 _ q=>sf.extBut _ _ c1 (sd _ _ c3 (sa.extBut _ _ c1 q))) ⟨oe,sf.extBut _ _ hez hoe,hce⟩
theorem WalksT.zipD(hh:A.handled=none)(D1:∀A:jE,A.handled=none->Draws prog w A i1 f1 n1 P1 S1)(D2:∀A:jE,A.handled=none->Draws prog w A i2 f2 n2 P2 S2)(ap:ZAp z TI TO i1 i2 f1 f2)(m1:i1∈f1)(m2:i2∈f2):
  WalksT prog w A z (z::TI::TO::f1++f2) [z,TO,i1,i2] (min n1 n2) (λi vals=>∃x y,P1 i x/\P2 i y/\vals=#[x,y])
   (λi h=>fR h z TI TO .none/\wF h TI (.ref i1) (.ref i2)/\(∃a b,wF h TO a b)/\S1 i h/\S2 i h)
   (λi T h=>fR h z TI TO (j8 T)/\wF h TI (.ref i1) (.ref i2)/\(∃a b,wF h TO a b)/\S1 (i+1) h/\S2 (i+1) h/\T≠z/\T≠TO/\T≠i1/\T≠i2) where
 sub:=λc hc=>by simp at hc ⊢;rcases hc with rfl|rfl|rfl|rfl<;>simp[m1,m2]
 frame:=λi h h' hst hk=>by obtain⟨hz,hTI,⟨a,b,hTO⟩,h1,h2⟩:=hst;exact⟨hk z (by simp) _ hz,hk TI (by simp) _ hTI,⟨a,b,hk TO (by simp) _ hTO⟩,(D1 A hh).frame _ _ _ h1 λb hb o e=>hk b (by simp[hb]) o e,(D2 A hh).frame _ _ _ h2 λb hb o e=>hk b (by simp[hb]) o e⟩
 item:=λi s Q E hi hst hQ=>by
  obtain⟨hz,hTI,⟨a,b,hTO⟩,h1,h2⟩:=hst;have hT:s.TypeIs (.ref z) "zip":=⟨_,hz,rfl⟩
  have lt:∀{c o},s.heap.get? c=some o->s.heap.objs.size≠c:=λe=>qG4 (qB3 e);unfold gJ;refine yO (vK (jM (name:=Str.ofString "__next__") hT fP
   (jN fP hT F.entry_zip_next (zKS hz hTI hTO hh D1 D2 ap h1 h2 (λ_ _ x y h' tk px py a1 a2 a3 a4 a5 a6 hk=>⟨_,rfl,yP ?_⟩) (λq=>by omega) (by omega) (by omega)) (F.args_zip_next_1 _))))
  refine hQ s.heap.objs.size #[x,y] h' tk ⟨x,y,px,py,rfl⟩ (qA6 _) ⟨_,a5,rfl,_,rfl⟩ ⟨a1,hk _ _ ap.TIz ap.TITO ap.TIi1 ap.TIi2 hTI,⟨_,_,a2⟩,a3,a4,lt hz,lt hTO,?_,?_⟩
   λc o hc e=>hk c o (λx=>hc (by simp[x])) (λx=>hc (by simp[x])) (λx=>hc (by simp[x])) (λx=>hc (by simp[x])) e
  ·obtain⟨_,e⟩:=(D1 A hh).live _ _ h1;exact lt e
  ·obtain⟨_,e⟩:=(D2 A hh).live _ _ h2;exact lt e
 go:=λelts k pos i T s Q E hm hQ=>by obtain⟨hz,hTI,⟨a,b,hTO⟩,h1,h2,_⟩:=hm;refine wpAny_letOwnedTupleGo_zip hz λh' hz' hs'=>hQ h' ⟨hz',hs'.extBut _ _ ap.TIz hTI,⟨a,b,hs'.extBut _ _ ap.TOz hTO⟩,Draws.sb (D1 A hh) h1 hs' ap.z1,Draws.sb (D2 A hh) h2 hs' ap.z2⟩ λc o hc e=>hs'.extBut _ _ (λx=>hc (by simp[x])) e
 apart:=λi T h hm hT=>by
  obtain⟨_,_,_,_,_,t1,t2,t3,t4⟩:=hm;simp at hT;rcases hT with rfl|rfl|rfl|rfl
  ·exact t1 rfl
  ·exact t2 rfl
  ·exact t3 rfl
  ·exact t4 rfl
 done:=λs Q E hst hQ=>by
  obtain⟨hz,hTI,⟨a,b,hTO⟩,h1,h2⟩:=hst;have hT:s.TypeIs (.ref z) "zip":=⟨_,hz,rfl⟩
  unfold gJ;refine yO (vK (jM (name:=Str.ofString "__next__") hT fP
   (jN fP hT F.entry_zip_next (zKS hz hTI hTO hh D1 D2 ap h1 h2 (λq1 q2=>by omega) (λ_ h' e tk hk he=>?_) (by omega) (by omega)) (F.args_zip_next_1 _))))
  obtain⟨o,ho,hc⟩:=he;refine yO (fE (T := "StopIteration") (b:=true) ⟨o,ho,hc⟩ isSubtype_stop ?_);exact yP (hQ _ _ λc o hc e=>hk c o (λx=>hc (by simp[x])) (λx=>hc (by simp[x])) (λx=>hc (by simp[x])) (λx=>hc (by simp[x])) e)
 self:=λi s Q E hst hQ=>gV hst.1 hQ
end
noncomputable def itO(b:Bool)(l:yR):Obj:={ cls:=.type (if b then "tuple_iterator" else "list_iterator"),data:=.fields #[.ref l,.int 0 0] }
noncomputable abbrev zq2(h:jC)(b1 b2:Bool)(l1 l2:yR):Heap:=(h.push (itO b1 l1)).push (itO b2 l2)
noncomputable abbrev zq3(h:jC)(b1 b2:Bool)(l1 l2:yR):Heap:=(zq2 h b1 b2 l1 l2).push { cls:=.type "tuple",data:=.seq #[.ref h.objs.size,.ref (h.push (itO b1 l1)).objs.size] }
noncomputable abbrev zq4(h:jC)(b1 b2:Bool)(l1 l2:yR):Heap:=(zq3 h b1 b2 l1 l2).push { cls:=.type "tuple",data:=.seq #[.none,.none] }
noncomputable abbrev zq5(h:jC)(b1 b2:Bool)(l1 l2:yR):Heap:=(zq4 h b1 b2 l1 l2).push { cls:=.type "zip",data:=.fields #[.none,.bool false,.bool false,.ref (zq2 h b1 b2 l1 l2).objs.size,.ref (zq3 h b1 b2 l1 l2).objs.size] }
theorem zMC(l1 l2:yR)(xs ys:yJ):
  Meets (Builtin.«zip.__new__» ⟨[.type "zip",.ref l1,.ref l2],[]⟩) (λ_ R s=>s.heap.IsTuple l1 xs/\s.heap.IsTuple l2 ys /\
   R (.ok (.ret (.ref (zq4 s.heap true true l1 l2).objs.size))) { s with heap:=zq5 s.heap true true l1 l2 }) :=
 .of_wp λprog w A R s h=>by
  obtain⟨hp,g,d,tk,os⟩:=s;obtain⟨hl1,hl2,h⟩:=h;have hsub:=sub_zip;have hL1:qJ9 (Shared.heap ⟨hp,g,d,tk,os⟩) l1 xs:=hl1;have hL2:qJ9 (Shared.heap ⟨hp.push { cls:=.type "tuple_iterator",data:=.fields #[.ref l1,.int 0 0] },g,d,tk,os⟩) l2 ys:=qJ9.push hl2 _
  wp_walk using vB hL1,vB hL2
  exact⟨_,rfl,h⟩
theorem zMD(l1 l2:yR)(xs ys:yJ):
  Meets (Builtin.«zip.__new__» ⟨[.type "zip",.ref l1,.ref l2],[]⟩) (λ_ R s=>s.heap.IsTuple l1 xs/\s.heap.IsList l2 ys /\
   R (.ok (.ret (.ref (zq4 s.heap true false l1 l2).objs.size))) { s with heap:=zq5 s.heap true false l1 l2 }) :=
 .of_wp λprog w A R s h=>by
  obtain⟨hp,g,d,tk,os⟩:=s;obtain⟨hl1,hl2,h⟩:=h;have hsub:=sub_zip;have hL1:qJ9 (Shared.heap ⟨hp,g,d,tk,os⟩) l1 xs:=hl1;have hL2:qJ4 (Shared.heap ⟨hp.push { cls:=.type "tuple_iterator",data:=.fields #[.ref l1,.int 0 0] },g,d,tk,os⟩) l2 ys:=qJ4.push hl2 _
  wp_walk using vB hL1,vF hL2
  exact⟨_,rfl,h⟩
theorem zME(l1 l2:yR)(xs ys:yJ):
  Meets (Builtin.«zip.__new__» ⟨[.type "zip",.ref l1,.ref l2],[]⟩) (λ_ R s=>s.heap.IsList l1 xs/\s.heap.IsTuple l2 ys /\
   R (.ok (.ret (.ref (zq4 s.heap false true l1 l2).objs.size))) { s with heap:=zq5 s.heap false true l1 l2 }) :=
 .of_wp λprog w A R s h=>by
  obtain⟨hp,g,d,tk,os⟩:=s;obtain⟨hl1,hl2,h⟩:=h;have hsub:=sub_zip;have hL1:qJ4 (Shared.heap ⟨hp,g,d,tk,os⟩) l1 xs:=hl1;have hL2:qJ9 (Shared.heap ⟨hp.push { cls:=.type "list_iterator",data:=.fields #[.ref l1,.int 0 0] },g,d,tk,os⟩) l2 ys:=qJ9.push hl2 _
  wp_walk using vF hL1,vB hL2
  exact⟨_,rfl,h⟩
theorem zMF(l1 l2:yR)(xs ys:yJ):
  Meets (Builtin.«zip.__new__» ⟨[.type "zip",.ref l1,.ref l2],[]⟩) (λ_ R s=>s.heap.IsList l1 xs/\s.heap.IsList l2 ys /\
   R (.ok (.ret (.ref (zq4 s.heap false false l1 l2).objs.size))) { s with heap:=zq5 s.heap false false l1 l2 }) :=
 .of_wp λprog w A R s h=>by
  obtain⟨hp,g,d,tk,os⟩:=s;obtain⟨hl1,hl2,h⟩:=h;have hsub:=sub_zip;have hL1:qJ4 (Shared.heap ⟨hp,g,d,tk,os⟩) l1 xs:=hl1;have hL2:qJ4 (Shared.heap ⟨hp.push { cls:=.type "list_iterator",data:=.fields #[.ref l1,.int 0 0] },g,d,tk,os⟩) l2 ys:=qJ4.push hl2 _
  wp_walk using vF hL1,vF hL2
  exact⟨_,rfl,h⟩
theorem zPp(b1 b2:Bool)(l1 l2:yR)(xs ys:yJ):
  Meets (Builtin.«zip.__new__» ⟨[.type "zip",.ref l1,.ref l2],[]⟩) (λ_ R s=>IsX b1 s.heap l1 xs/\IsX b2 s.heap l2 ys /\
   R (.ok (.ret (.ref (zq4 s.heap b1 b2 l1 l2).objs.size))) { s with heap:=zq5 s.heap b1 b2 l1 l2 }):=by
 cases b1 with
 |true=>cases b2 with
  |true=>exact zMC l1 l2 xs ys
  |false=>exact zMD l1 l2 xs ys
 |false=>cases b2 with
  |true=>exact zME l1 l2 xs ys
  |false=>exact zMF l1 l2 xs ys
theorem zOh{b:Bool}{h:jC}{j l:yR}(e:h.get? j=some (itO b l)):ItX b h j l 0:=by
 cases b with
 |true=>exact⟨_,e,rfl,rfl⟩
 |false=>exact⟨_,e,rfl,rfl⟩
theorem zLp(b:Bool)(l:yR):(itO b l).isFreed=false:=by cases b<;>rfl
section
variable {prog:y7}{w:jD}{A:jE}{E:yL}{s:yS}
theorem zP4{b1 b2:Bool}{l1 l2:yR}{xs ys:yJ}{Q:yL}(hl1:IsX b1 s.heap l1 xs)(hl2:IsX b2 s.heap l2 ys)
  (h:∀h',fR h' (s.heap.objs.size+4) (s.heap.objs.size+2) (s.heap.objs.size+3) .none->wF h' (s.heap.objs.size+2) (.ref s.heap.objs.size) (.ref (s.heap.objs.size+1)) ->
   wF h' (s.heap.objs.size+3) .none .none->ItX b1 h' s.heap.objs.size l1 0->ItX b2 h' (s.heap.objs.size+1) l2 0 ->
   (∀c o,s.heap.get? c=some o->h'.get? c=some o)->Q (.ref (s.heap.objs.size+4)) { s with heap:=h' }) :
  yX (yW prog w) A (call (.type "zip") [.ref l1,.ref l2]) Q E s:=by
 refine callType_new F.called_zip (by decide) (F.typeCall_zip_2 _ _) (F.newCall_zip_2 _ _) (λobj=>F.args_object_init_3 obj _ _) F.entry_zip_new (zPp b1 b2 l1 l2 xs ys) ⟨hl1,hl2,?_⟩;have z1:(s.heap.push (itO b1 l1)).objs.size=s.heap.objs.size+1:=qF9 ..;have z2:(zq2 s.heap b1 b2 l1 l2).objs.size=s.heap.objs.size+2:=by rw[qF9,z1]
 have z3:(zq3 s.heap b1 b2 l1 l2).objs.size=s.heap.objs.size+3:=by rw[qF9,z2]
 have z4:(zq4 s.heap b1 b2 l1 l2).objs.size=s.heap.objs.size+4:=by rw[qF9,z3]
 have g5:(zq5 s.heap b1 b2 l1 l2).get? (zq4 s.heap b1 b2 l1 l2).objs.size=some _:=qB4 _ rfl;have g4:(zq5 s.heap b1 b2 l1 l2).get? (zq3 s.heap b1 b2 l1 l2).objs.size=some _:=qA5 _ (qB4 _ rfl);have g3:(zq5 s.heap b1 b2 l1 l2).get? (zq2 s.heap b1 b2 l1 l2).objs.size=some _:=qA5 _ (qA5 _ (qB4 _ rfl));have g2:(zq5 s.heap b1 b2 l1 l2).get? (s.heap.push (itO b1 l1)).objs.size=some (itO b2 l2):=qA5 _ (qA5 _ (qA5 _ (qB4 _ (zLp _ _))));have g1:(zq5 s.heap b1 b2 l1 l2).get? s.heap.objs.size=some (itO b1 l1):=qA5 _ (qA5 _ (qA5 _ (qA5 _ (qB4 _ (zLp _ _)))));show _/\_;rw[z2,z3,z4]at g5;rw[z1,z2]at g3;rw[z3]at g4;rw[z1]at g2;rw[z4];exact⟨⟨_,g5,rfl⟩,h _ g5 g3 g4 (zOh g1) (zOh g2) λc o x =>
  qA5 _ (qA5 _ (qA5 _ (qA5 _ (qA5 _ x))))⟩
end
theorem zRL{n l1 l2:yR}(h1:l1<n)(h2:l2<n):ZAp (n+4) (n+2) (n+3) n (n+1) [n,l1] [n+1,l2]:=by constructor<;>(try simp only[qB0,qD3,or_false,not_or])<;>(try refine⟨?_,?_⟩)<;>(show ¬((_:Nat)=_))<;>(simp only[yR]at *;omega)
inductive ZgoX(b1 b2:Bool)(K:yQ)(H:Hp)(a b:yR)(i:Nat):Prop
 |mk (xs ys:List V) (x y:V) (q1:SqX b1 K H a xs) (q2:SqX b2 K H b ys) (ex:xs[i]?=some x) (ey:ys[i]?=some y)
inductive ZstX(b1 b2:Bool)(K:yQ)(H:Hp)(a b:yR)(i:Nat):Prop
 |mk (xs ys:List V) (q1:SqX b1 K H a xs) (q2:SqX b2 K H b ys) (ei:i=min xs.length ys.length)
noncomputable def ItzX(b1 b2:Bool)(K:yQ)(a b:yR):It :=
  ⟨λi H=>ZgoX b1 b2 K H a b i,
   λi H v H'=>∃T,H T=none/\v=.ref T/\∀xs ys x y,SqX b1 K H a xs->SqX b2 K H b ys->xs[i]?=some x->ys[i]?=some y->H'=upd H T (.tup [x,y]),
   λi H=>ZstX b1 b2 K H a b i⟩
structure ZsX(b1 b2:Bool)(z TI TO i1 i2 l1 l2:yR)(i:Nat)(h:jC):Prop where
 a1:fR h z TI TO .none
 a2:wF h TI (.ref i1) (.ref i2)
 a3:∃a b,wF h TO a b
 a4:ItX b1 h i1 l1 i
 a5:ItX b2 h i2 l2 i
section
variable {b1 b2:Bool}{z TI TO i1 i2 l1 l2:yR}{i:Nat}{h:jC}
theorem ZsX.obj(st:ZsX b1 b2 z TI TO i1 i2 l1 l2 i h):∀b∈[z,TI,TO,i1,i2],∃o,h.get? b=some o/\∀v,o.data≠.cell v:=by obtain⟨_,_,a3⟩:=st.a3;exact allC ⟨_,st.a1,λv q=>by cases q⟩ (allC ⟨_,st.a2,λv q=>by cases q⟩ (allC ⟨_,a3,λv q=>by cases q⟩ (allC st.a4.obj (allC st.a5.obj allN))))
theorem ZsX.ne(st:ZsX b1 b2 z TI TO i1 i2 l1 l2 i h){T:yR}(hT:h.objs.size<=T):∀b∈[z,TI,TO,i1,i2],b≠T:=λb hb=>by obtain⟨o,e,_⟩:=st.obj b hb;exact qC4 (qB2 (qB3 e) hT)
theorem zsub:∀b∈[z,TO,i1,i2],b∈[z,TI,TO,i1,i2]:=allC (by simp) (allC (by simp) (allC (by simp) (allC (by simp) allN)))
inductive ZFX(b1 b2:Bool)(X:Cx)(s:yS)(H:Hp)(l1 l2:yR)(i:Nat):Prop
 |mk (xs ys:List V) (x y:V) (t1 t2:yB) (u1 u2:yU) (q1:SqX b1 X.K H l1 xs) (q2:SqX b2 X.K H l2 ys) (ex:xs[i]?=some x) (ey:ys[i]?=some y) (p1:IsX b1 s.heap l1 t1.toArray) (p2:IsX b2 s.heap l2 t2.toArray)
  (e1:t1[i]?=some u1) (e2:t2[i]?=some u2) (r1:RelV x u1) (r2:RelV y u2)
variable {X:Cx}{pins:yD}{Z:St}{H:Hp}{s:yS}
theorem zfX(I:Inv X pins Z H s)(hg:ZgoX b1 b2 X.K H l1 l2 i):ZFX b1 b2 X s H l1 l2 i:=by obtain⟨xs,ys,x,y,q1,q2,ex,ey⟩:=hg;obtain⟨its1,r1,p1⟩:=I.sqX q1;obtain⟨its2,r2,p2⟩:=I.sqX q2;obtain⟨u1,e1,ru1⟩:=r1.get ex;obtain⟨u2,e2,ru2⟩:=r2.get ey;exact⟨xs,ys,x,y,its1,its2,u1,u2,q1,q2,ex,ey,p1,p2,e1,e2,ru1,ru2⟩
theorem zvX{t1 t2:yB}{u1 u2:yU}{vals:yJ}(e1:t1[i]?=some u1)(e2:t2[i]?=some u2)(hv:∃v1 v2,t1.toArray[i]?=some v1/\t2.toArray[i]?=some v2/\vals=#[v1,v2]):vals=#[u1,u2]:=by obtain⟨v1,v2,g1,g2,rfl⟩:=hv;rw[qC7,e1]at g1;rw[qC7,e2]at g2;cases g1;cases g2;rfl
theorem zyX(I:Inv X pins Z H s){xs ys:List V}{x y:V}(q1:SqX b1 X.K H l1 xs)(q2:SqX b2 X.K H l2 ys)(ex:xs[i]?=some x)(ey:ys[i]?=some y){T:yR}(xs' ys':List V)(x' y':V)(s1:SqX b1 X.K H l1 xs')(s2:SqX b2 X.K H l2 ys')(t1:xs'[i]?=some x')(t2:ys'[i]?=some y'):upd H T (.tup [x,y])=upd H T (.tup [x',y']):=by have h1:=I.sqX_inj q1 s1;have h2:=I.sqX_inj q2 s2;subst h1 h2;rw[ex]at t1;rw[ey]at t2;cases t1;cases t2;rfl
end
theorem zMI{P:y7}{w:jD}{K:PySem.W.Frag}{elts:yE}{k:Nat}{pos:Pos}(b1 b2:Bool)(z TI TO i1 i2 l1 l2:yR)(D:ZAp z TI TO i1 i2 [i1,l1] [i2,l2])(d1:l1≠i1)(d2:l2≠i2):
  Turn P w K (.Tuple elts k pos) (ItzX b1 b2 K l1 l2) [z,TI,TO,i1,i2] z (ZsX b1 b2 z TI TO i1 i2 l1 l2) where
 mem:=by simp
 obj:=λi h st=>st.obj
 keep:=λi h h' ⟨a1,a2,⟨x,y,a3⟩,a4,a5⟩ kk =>
  ⟨kk z (by simp) _ a1,kk TI (by simp) _ a2,⟨x,y,kk TO (by simp) _ a3⟩,a4.keep λo e=>kk i1 (by simp) o e,a5.keep λo e=>kk i2 (by simp) o e⟩
 item:=by intro X hP hw hK hc i pins s Z H E I hf st hg;subst hP hw hK;obtain⟨xs,ys,x,y,its1,its2,u1,u2,q1,q2,ex,ey,p1,p2,e1,e2,ru1,ru2⟩:=zfX I hg;have W:=WalksT.zipD (prog:=X.prog) (w:=X.w) (I.ok.hd hc) (λA hh=>zHf b1 hh i1 l1 d1 its1.toArray) (λA hh=>zHf b2 hh i2 l2 d2 its2.toArray) D (by simp) (by simp);have hl1:i<its1.length:=(qA3.mp e1).1;have hl2:i<its2.length:=(qA3.mp e2).1;have hwr:∀b∈[z,TO,i1,i2],FpOk X pins H b:=λb hb=>hf b (zsub b hb);refine W.item i s _ _ (by simp only[qB1];omega) ⟨st.a1,st.a2,st.a3,⟨st.a4,p1⟩,st.a5,p2⟩ λT vals h' tk hv hT hIs hM kk=>?_;have hvv:=zvX e1 e2 hv;subst hvv;have nT:=st.ne hT;refine⟨_,rfl,W.go _ _ _ i T { s with heap:=h',toks:=tk } _ _ hM λh2 st2 kk2=>?_⟩;have I1:Inv X pins Z (upd H T (.tup [x,y])) { s with heap:=h',toks:=tk }:=I.yields (its:=[u1,u2]) hwr kk hT (.cons ru1 (.cons ru2 .nil)) (by show 2<=jA;decide) hIs;have I2:=I1.turnedL (tk:=tk) (zRt hwr λb hb=>nT b (zsub b hb)) kk2;exact⟨.ref T,_,I2,rfl,⟨T,I.hok.fresh hT,rfl,zyX I q1 q2 ex ey⟩,⟨st2.1,st2.2.1,st2.2.2.1,st2.2.2.2.1.1,st2.2.2.2.2.1⟩,λb hb=>by rw[zA6 (nT b hb)];exact(hf b hb).1⟩
 done:=by
  intro X hP hw hK hc i pins s Z H E I hf st hg;subst hP hw hK;obtain⟨xs,ys,q1,q2,ei⟩:=hg;obtain⟨its1,r1,p1⟩:=I.sqX q1;obtain⟨its2,r2,p2⟩:=I.sqX q2;have W:=WalksT.zipD (prog:=X.prog) (w:=X.w) (I.ok.hd hc) (λA hh=>zHf b1 hh i1 l1 d1 its1.toArray) (λA hh=>zHf b2 hh i2 l2 d2 its2.toArray) D (by simp) (by simp);have en:i=min its1.toArray.size its2.toArray.size:=by simp only[qB1,<- r1.length,<- r2.length];exact ei
  refine W.done s _ _ (by rw[<- en];exact⟨st.a1,st.a2,st.a3,⟨st.a4,p1⟩,st.a5,p2⟩) λh' tk kk=>?_;exact⟨rfl,I.turnedL (λb hb=>hf b (zsub b hb)) kk⟩
 self:=λ_ _ _ _ _ st h=>gV st.a1 h
section
variable {X:Cx}
def zWB(K:yQ)(ta:TA):TI:=fun Z H R=>ta Z H λvs H1=>∃a b b1 b2,vs=[.ref a,.ref b]/\(∃xs,SqX b1 K H1 a xs)/\(∃ys,SqX b2 K H1 b ys)/\R (ItzX b1 b2 K a b) H1
theorem zSP{elts:yE}{k:Nat}{tpos:Pos}{a b:y4}{ta:TA}{p pos:Pos}(hg:Gl X "zip")(hm:X.mg "zip"=none)(ha:PA X [a,b] ta)(hs:jF [a,b] X.env=[(false,vL a X.env),(false,vL b X.env)]:=by rfl)(hs2:jF [b] X.env=[(false,vL b X.env)]:=by rfl):
  PI X (.Tuple elts k tpos) (.Call (.Name "zip" p) [a,b] [] pos) (zWB X.K ta):=by
 intro pins s Z H R I h;refine Call_ (zFC I hg hm zXa (j6 (thn (ha pos pins s Z H _ I h) λus s1 ⟨vs,H1,I1,r1,q1⟩=>?_) (by rw[hs,hs2]) (by rw[hs2];rfl)));obtain⟨l1,l2,b1,b2,e,⟨xs,h1⟩,⟨ys,h2⟩,q⟩:=q1;subst e;cases r1 with
 |cons r rr =>
  cases rr with
  |cons r' rr =>
   cases rr;cases r;cases r';obtain⟨its1,v1,p1⟩:=I1.sqX h1;obtain⟨its2,v2,p2⟩:=I1.sqX h2;refine zP4 p1 p2 λh' hz hTI hTO hi1 hi2 hk=>?_;refine gV hz ?_;have I2:Inv X pins Z H1 { s1 with heap:=h' }:=I1.kept (t':=s1.toks) hk;refine⟨_,_,_,_,H1,rfl,I2,zMI b1 b2 _ _ _ _ _ l1 l2 (zRL p1.lt p2.lt) (qC4 p1.lt) (qC4 (qF1 p2.lt)),⟨hz,hTI,⟨_,_,hTO⟩,hi1,hi2⟩,λb hb=>?_,q⟩;have hle:s1.heap.objs.size<=b:=by
    simp only[qB0,qD3,or_false]at hb;rcases hb with rfl|rfl|rfl|rfl|rfl
    ·exact qL2 _ _
    ·exact qL2 _ _
    ·exact qL2 _ _
    ·exact qA6 _
    ·exact qL2 _ _
   exact I1.fpOk hle (I1.hok.fresh hle)
end
section
variable {X:Cx}{pins:yD}{Z:St}{H:Hp}{s:yS}{scope:jS}{N:yH}{C:yR}{ex:yC}
theorem zM2{elt iter tg:y4}{ifs:yE}{pos pos' spos:Pos}{y0:Str}{go:TG}(hgo:PG X (.Name y0 pos') go)(hsw:wQ (.ListComp elt [⟨tg,iter,ifs,0⟩] scope pos) (some (.Name y0 pos')) spos.line X.env=pure true){wi:TI}{g:TG}{tc:TT}{te:TE}{k:Nat}{js:List Nat}
  (BB:zMy X scope N k js) (hi:PI X tg iter wi)
  (hg:∀cl s H C ex,PG (zBG X scope N cl s H C ex) tg g) (htc:∀cl s H C ex,PTs (zBG X scope N cl s H C ex) ifs tc) (hte:∀cl s H C ex,PE (zBG X scope N cl s H C ex) elt te)
  (hs:∀x,wB iter X.env x=pure x:=by intro _;rfl):PS X (.Assign [.Name y0 pos'] (.ListComp elt [⟨tg,iter,ifs,0⟩] scope pos) spos) (tAsg (zS0 wi k js g tc te) go):=by
 intro pins s Z H D0 I h;rw[exec_Assign_Name_used _ _ _ _ hsw];refine yO (mK (yO ?_));show yX _ X.A (do let _ <- comprehension (.ListComp elt [⟨tg,iter,ifs,0⟩] scope pos) scope X.env _ (newList []) false (vL iter X.env) (some (fA (.Name y0 pos') X.env))) _ _ s;refine yO (jK (gL (use:=some (fA (.Name y0 pos') X.env)) (Q:=λ_ s'=>SP X pins D0 .next s') rfl hs (zCb λx hx=>I.ok.has x (BB.free x hx)) BB.kind BB.names (thn (hi pins s Z H _ I h) λv s1 h1=>thn h1 λitv s2 h2=>?_)) (λ_ s' hq=>yP (yP hq)) λ_ _ e=>e);obtain⟨it,fp,tn,JJ,H2,e,I2,T,st2,f2,hW⟩:=h2;subst e;refine zLC (Q:=λx H1=>go x Z H1 D0.nx) BB I2 T st2 f2 hg htc hte hW λcl C H4 s5 hCle hDC I5 q=>?_;obtain⟨m,hn,_⟩:=id I5.loc;have hC4:H4 C=none:=I5.free;have IA:Inv X pins Z H4 s5:=I2.call' (s':=s5) (ch:=fp) I5.os I5.base I5.hok I5.bare (λb hb=>⟨(f2 b hb).2.2.2.1,(f2 b hb).2.1,(f2 b hb).2.2.2.2.1,(f2 b hb).2.2.2.2.2⟩);have fC:∀{H':Hp},H' C=none->∀b∈[C],FpOk X pins H' b:=λhn b hb=>by
  have:b=C:=by simpa using hb
  subst this;exact I2.fpOk hCle hn
 have oC:∀b∈[C],∃o,s5.heap.get? b=some o/\∀v,o.data≠.cell v:=λb hb=>by
  have:b=C:=by simpa using hb
  subst this;obtain⟨o,_,_,ho,hd,_⟩:=id hn;exact⟨o,ho,λv z=>by rw[hd]at z;cases z⟩
 have IB:=IA.pinned (fC hC4) oC;refine thn (hgo _ s5 Z H4 (.ref s2.heap.objs.size) (.ref s2.heap.objs.size) _ IB rfl q) λ_ s6 ⟨Z6,H6,I6,q6⟩=>?_;obtain⟨oc,hoc,_⟩:=oC C (by simp);have hp6:=I6.pin (C,oc) (qC6 _ (qC6 _ (zCQ (by simp) hoc)));refine⟨m,hn.at' λo e=>?_,λh' hs'=>⟨Z6,H6,?_,q6⟩⟩
 ·have e':s5.heap.get? C=some o:=e;rw[hoc]at e';cases e';exact hp6.1
 ·exact I6.unpinned.turnedL (wr:=[C]) (tk:=s6.toks) (fC hp6.2.1) λb o nb e=>hs'.extBut b o (by simpa using nb) e
end
abbrev zXk(h:jC)(T:yR)(a b c:yU):Prop:=h.get? T=some { cls:=.type "tuple",data:=.seq #[a,b,c] }
structure ZAp3(z TI TO i1 i2 i3:yR)(f1 f2 f3:yC):Prop where
 TIz:TI≠z
 TOz:TO≠z
 i1z:i1≠z
 i2z:i2≠z
 i3z:i3≠z
 TITO:TI≠TO
 TIi1:TI≠i1
 TIi2:TI≠i2
 TIi3:TI≠i3
 TOi1:TO≠i1
 TOi2:TO≠i2
 TOi3:TO≠i3
 z1:z∉f1
 z2:z∉f2
 z3:z∉f3
 O1:TO∉f1
 O2:TO∉f2
 O3:TO∉f3
 a12:i1∉f2
 a13:i1∉f3
 a21:i2∉f1
 a23:i2∉f3
 a31:i3∉f1
 a32:i3∉f2
inductive Zgo3(K:yQ)(H:Hp)(a b c:yR)(i:Nat):Prop
 |mk (xs ys us:List V) (x y u:V) (q1:SqL K H a xs) (q2:SqT K H b ys) (q3:SqT K H c us) (ex:xs[i]?=some x) (ey:ys[i]?=some y) (eu:us[i]?=some u)
inductive Zst3(K:yQ)(H:Hp)(a b c:yR)(i:Nat):Prop
 |mk (xs ys us:List V) (q1:SqL K H a xs) (q2:SqT K H b ys) (q3:SqT K H c us) (ei:i=min xs.length (min ys.length us.length))
structure Zs3(z TI TO i1 i2 i3 l1 l2 l3:yR)(i:Nat)(h:jC):Prop where
 a1:fR h z TI TO .none
 a2:zXk h TI (.ref i1) (.ref i2) (.ref i3)
 a3:∃a b c,zXk h TO a b c
 a4:ItX false h i1 l1 i
 a5:ItX true h i2 l2 i
 a6:ItX true h i3 l3 i
section
variable {z TI TO i1 i2 i3 l1 l2 l3:yR}{i:Nat}{h:jC}
theorem Zs3.obj(st:Zs3 z TI TO i1 i2 i3 l1 l2 l3 i h):∀b∈[z,TI,TO,i1,i2,i3],∃o,h.get? b=some o/\∀v,o.data≠.cell v:=by obtain⟨_,_,_,a3⟩:=st.a3;exact allC ⟨_,st.a1,λv q=>by cases q⟩ (allC ⟨_,st.a2,λv q=>by cases q⟩ (allC ⟨_,a3,λv q=>by cases q⟩ (allC st.a4.obj (allC st.a5.obj (allC st.a6.obj allN)))))
theorem Zs3.ne(st:Zs3 z TI TO i1 i2 i3 l1 l2 l3 i h){T:yR}(hT:h.objs.size<=T):∀b∈[z,TI,TO,i1,i2,i3],b≠T:=λb hb=>by obtain⟨o,e,_⟩:=st.obj b hb;exact qC4 (qB2 (qB3 e) hT)
inductive ZF3(X:Cx)(s:yS)(H:Hp)(l1 l2 l3:yR)(i:Nat):Prop
 |mk (xs ys us:List V) (x y u:V) (t1 t2 t3:yB) (u1 u2 u3:yU) (q1:SqL X.K H l1 xs) (q2:SqT X.K H l2 ys) (q3:SqT X.K H l3 us) (ex:xs[i]?=some x) (ey:ys[i]?=some y) (eu:us[i]?=some u)
  (p1:IsX false s.heap l1 t1.toArray) (p2:IsX true s.heap l2 t2.toArray) (p3:IsX true s.heap l3 t3.toArray) (e1:t1[i]?=some u1) (e2:t2[i]?=some u2) (e3:t3[i]?=some u3) (r1:RelV x u1) (r2:RelV y u2) (r3:RelV u u3)
variable {X:Cx}{pins:yD}{Z:St}{H:Hp}{s:yS}
end
section
variable {X:Cx}
theorem Vals.rev{xs:List V}{us:yB}(r:Vals xs us):Vals xs.reverse us.reverse:=by
 induction r with
 |nil=>exact .nil
 |cons r t ih=>rw[qK7,qK7];exact ih.append (.cons r .nil)
theorem zFH:∀{us:yB}{ns:yA},wL us ns->Vals (ns.map V.int) us
 |_,_,h=>by
  induction h with
  |nil=>exact .nil
  |cons _ _ _ ih=>exact .cons ⟨_,rfl⟩ ih
theorem zJx:zBN X (.builtin "sorted") (λvs H Q=>∃(p:yR) (ns:yA),vs=[.ref p]/\SqL X.K H p (ns.map V.int)/\ns.length<64/\∀(l:yR) (ms:yA),H l=none->ms.Perm ns->ms.Pairwise (·<=·)->Q (.ref l) (upd H l (.lst (ms.map V.int)))):=by intro pins s Z H xs us Q I r h;obtain⟨p,ns,rfl,hq,hn,q⟩:=h;obtain⟨u,rfl,ru⟩:=zDd r;cases ru;obtain⟨its,rv,pl,hz⟩:=I.list hq;have hlen:=rv.length;rw[qA8]at hlen;refine sorted_ints pl.isList (zMd rv) (by omega) λout ns' h1 h2 h3=>?_;obtain⟨e,he⟩:=sortedAll_at s.heap its out;have hl:ns'.length=ns.length:=h2.length_eq;refine⟨.ref (s.heap.objs.size+1),_,I.laid (t':=s.toks) (o:=.lst (ns'.map V.int)) (λb o e=>sortedAll_old e) (qM5 _) ?_,rfl,q _ _ (I.hok.fresh (qM5 _)) h2 h3⟩;exact⟨by rw[qA8,hl];exact qD0 (qG3 hn) (by decide),out.toList,e,zFH h1,by simpa[wG]using he⟩
theorem zIQ(ns:yA):∀k,k<=ns.length->gM (λi=>ns.getD i 0) k=(ns.take k).sum
 |0,_=>by simp[gM]
 |k+1,h=>by
  rw[qQ0,qA4 (by omega),List.sum_append];show gM (λi=>ns.getD i 0) k+ns.getD k 0=_;rw[zIQ ns k (by omega)];have:k<ns.length:=by omega
  simp[qK0,this]
theorem zP5(hc:X.calm=true):zBN X (.builtin "sum") (λvs H Q=>∃(p:yR) (ns:yA),vs=[.ref p]/\SqL X.K H p (ns.map V.int)/\(∀n∈ns,0<=n/\n<=1000000)/\ns.length<=1000000/\Q (.int ns.sum) H):=by
 intro pins s Z H xs us Q I r h;obtain⟨p,ns,rfl,hq,hn,hl,q⟩:=h;obtain⟨u,rfl,ru⟩:=zDd r;cases ru;obtain⟨its,rv,pl,hz⟩:=I.list hq;have hlt:p<s.heap.objs.size:=by obtain⟨_,e,_⟩:=pl.isList;exact qB3 e
 have hlen:=rv.length;rw[qA8]at hlen;have b0:∀k,k<=ns.length->0<=gM (λi=>ns.getD i 0) k/\gM (λi=>ns.getD i 0) k<=1000000*(k:Int):=by
  intro k
  induction k with
  |zero=>intro _;simp[gM]
  |succ k ih =>
   intro hk;have h1:=ih (by omega);have h2:=hn (ns.getD k 0) (by simp only[qK0];rw[qA4 (by omega)];exact qD7 _);show 0<=gM _ k+ns.getD k 0/\gM _ k+ns.getD k 0<=_;omega
 refine call_sum_walk (vF pl.isList ?_);refine⟨s.heap.objs.size,_,[s.heap.objs.size],_,_,_,λi=>ns.getD i 0,rfl,Walks.list (A:=X.A.in1) (show X.A.in1.handled=none from I.ok.hd hc) s.heap.objs.size p (qC4 hlt) its.toArray,⟨⟨_,qB4 _ rfl,rfl,rfl⟩,pl.isList.push _⟩,λb hb=>?_,λi v hv=>?_,λj hj=>?_,λh' tk t' kk=>?_⟩
 ·rw[mY];simp only[qB0,qD3,or_false]at hb;rcases hb with rfl|rfl
  ·exact qJ8 _
  ·exact qF1 hlt
 ·have hv':its[i]?=some v:=by simpa using hv
  have hi:i<ns.length:=by have:=(qA3.mp hv').1;omega
  obtain⟨u,e,ru⟩:=Vals.get rv (i:=i) (x:=.int ns[i]) (by rw[qC0,qA4 hi];rfl);rw[e]at hv';cases hv';obtain⟨t,rfl⟩:=ru;exact⟨t,by simp[qK0,hi]⟩
 ·have hj':j<ns.length:=by rw[qB1]at hj;omega
  have h1:=b0 (j+1) (by omega);have h2:=hn (ns.getD j 0) (by simp only[qK0];rw[qA4 hj'];exact qD7 _);have h3:((j+1:Nat):Int)<=1000000:=by omega
  have h4:gM (λi=>ns.getD i 0) (j+1)<=1000000000000:=by omega
  dsimp only;generalize gM (λi=>ns.getD i 0) (j+1)=P at *;generalize ns.getD j 0=G at *;refine⟨?_,?_⟩<;>(unfold InLong;omega)
 ·have e:gM (λi=>ns.getD i 0) its.toArray.size=ns.sum:=by rw[qB1,<- hlen,zIQ ns _ (qA6 _),qH5]
  rw[e];refine⟨.int ns.sum,H,?_,⟨_,rfl⟩,q⟩;exact I.kept (t':=tk) λb o eb=>kk b o (by simp only[qB7];exact qC4 (qB3 eb)) (qA5 _ eb)
theorem zT4:MtR X "int.bit_length" (λx vs H Q=>∃i:Int,x=.int i/\vs=[]/\Q (.int ((Builtin.Int.intBits i:Nat):Int)) H):=by intro pins s Z H x xs v us Q I rx rs h;obtain⟨i,rfl,rfl,q⟩:=h;obtain⟨t,rfl⟩:=rx;have:=rs.zero;subst this;exact call_int_bit_length ⟨.int _,H,I.tok _,⟨_,rfl⟩,q⟩
end
def Raw(h:jC)(d:yR)(es:Array fW)(ep:Nat):Prop:=∃o,h.get? d=some o/\o.cls=.type "dict"/\o.data=.dict es ep
section
variable {prog:y7}{w:jD}{A:jE}{E:yL}{s:yS}{z TI TO:yR}{f0:yU}
theorem zHa:isSubtype (.type "AttributeError") (.type "AttributeError")=pure true:=by kernel_rfl
end
section
variable {prog:y7}{w:jD}{A:jE}{z TI TO i1 i2 d:yR}{f1 f2:yC}{n1 n2:Nat}{P1 P2:Nat->yU->Prop}{S1 S2:Nat->jC->Prop}
theorem zFo:plainId "dict.update.loop"=true:=by kernel_rfl
theorem zG0:entryFor table "dict.update.loop"=some Builtin.«dict.update.loop»:=by kernel_rfl
theorem zFm(args:Args):(Code.builtin "dict.update.loop" args).quiet=true:=by kernel_rfl
end
section
variable {prog:y7}{w:jD}{A:jE}{E:yL}{s:yS}{it d:yR}{i ep:Nat}{es:Array fW}
theorem zZi{e:fW}{Q:yF->yS->Prop}(hit:s.heap.IsKeyIter it d i es.size ep)(hr:Raw s.heap d es ep)(hx:es[i]?=some e)
  (hQ:∀h',h'.IsKeyIter it d (i+1) es.size ep->qH0 it s.heap h'->Q (some e.key) { s with heap:=h' }):yX (yW prog w) A (gJ (.ref it)) Q E s:=by
 have ty:=hit.typeIs;obtain⟨o,ho,hc,hd⟩:=id hit;obtain⟨od,hod,_,hdd⟩:=hr;unfold gJ;refine yO (vK (jM (name:=Str.ofString "__next__") ty vH (jN vH ty fI ?_ (fF _))));refine yO (yP (yO (yO (yO (vC ty (yP (yO (wpAny_fieldsOf ho hd ?_))))))));have o1:Builtin.Dict_items.ownsTuple "dict_keyiterator"=false:=by decide
 have n1:¬((Value.ref d == Value.none)=true):=qA9;simp only[o1,qE3,if_false];show yX _ _ (if(Value.ref d == Value.none)=true then _ else _) _ _ s;rw[if_neg n1];refine yO (yP (yO (gI hod hdd ?_)));rw[if_neg (by simp)];refine yO (yP (yO (lH hod hdd ?_)));rw[if_neg (by simp)];refine yP ?_;have n2:¬((i:Int)<0):=by omega
 simp only[n2,if_false,qE0,hx];refine yO (yO (vC ty (yP (yO (lK ty ?_)))));show yX _ _ (setField (.ref it) 1 (j8 ((i:Int)+1)) >>= _) _ _ s;refine yO (wE ho hd (by simp) ?_);have it2:(s.heap.update it (jV (·.setIfInBounds 1 (j8 ((i:Int)+1))))).IsKeyIter it d (i+1) es.size ep :=
  ⟨_,qE7 _ ho (jY (jR hd _)),(gG ..).trans hc,by rw[jR hd];simp[j8]⟩
 have ty2:Shared.TypeIs { s with heap:=s.heap.update it (jV (·.setIfInBounds 1 (j8 ((i:Int)+1)))) } (.ref it) "dict_keyiterator":=it2.typeIs;refine yO (jO (yO (lK ty2 ?_)));show yX _ _ (pure e.key) _ _ _;exact yP (yP ⟨_,rfl,yP (hQ _ it2 (qH0.update ..))⟩)
theorem kend{Q:yF->yS->Prop}(hh:A.handled=none)(hit:s.heap.IsKeyIter it d i es.size ep)(hr:Raw s.heap d es ep)(hx:es[i]?=none)
  (hQ:∀h',Heap.ExtBut it s.heap h'->Q none { s with heap:=h' }):yX (yW prog w) A (gJ (.ref it)) Q E s:=by
 have ty:=hit.typeIs;obtain⟨o,ho,hc,hd⟩:=id hit;obtain⟨od,hod,_,hdd⟩:=hr;unfold gJ;refine yO (vK (jM (name:=Str.ofString "__next__") ty vH (jN vH ty fI ?_ (fF _))));refine yO (yP (yO (yO (yO (vC ty (yP (yO (wpAny_fieldsOf ho hd ?_))))))));have o1:Builtin.Dict_items.ownsTuple "dict_keyiterator"=false:=by decide
 have n1:¬((Value.ref d == Value.none)=true):=qA9;simp only[o1,qE3,if_false];show yX _ _ (if(Value.ref d == Value.none)=true then _ else _) _ _ s;rw[if_neg n1];refine yO (yP (yO (gI hod hdd ?_)));rw[if_neg (by simp)];refine yO (yP (yO (lH hod hdd ?_)));rw[if_neg (by simp)];refine yP ?_;have n2:¬((i:Int)<0):=by omega
 simp only[n2,if_false,qE0,hx];refine yO (yO (vC ty (yP ?_)));refine yO (wE (i:=0) ho hd (by simp) ?_);show yX _ A.in1 (newExc (.type "StopIteration") [] >>= _) _ _ _;unfold newExc newTuple;refine yO (yO (jP (yO (m:=f9 _ _) (wpAny_of_eq (a:=Value.none) (by simp only[f9];rfl) (jP ?_ (by size_fits)))) (by size_fits)));refine wpAny_raiseNew_none hh ?_;refine yO (fE (T := "StopIteration") (b:=true) ⟨_,qB4 _ rfl,rfl⟩ isSubtype_stop ?_);exact yP (hQ _ (((qH0.update ..).extBut.push _).push _))
theorem zQp{Q:yL}(lo:(d == vG)=false)(hr:Raw s.heap d es ep)
  (hQ:Q (.ref s.heap.objs.size) { s with heap:=s.heap.push { cls:=.type "dict_keyiterator",data:=.fields #[.ref d,.int 0 0,.int es.size 0,.int ep 0] } }):yX (yW prog w) A (pyIter (.ref d)) Q E s:=by
 obtain⟨o,ho,hc,hdat⟩:=hr;have ty:s.TypeIs (.ref d) "dict":=⟨o,ho,hc⟩
 refine wpAny_pyIter_slot ty F.slot_dict_iter (jN F.slot_dict_iter ty F.entry_dict_iter ?_ (F.args_dict_iter_1 _));unfold Builtin.«dict.__iter__» Builtin.Dict.dictSlotNone;refine yO (yO (lM ty (yO (yP (yP ?_)))));refine yO (yP ?_);show yX _ _ (Builtin.Dict.showsAll d >>= _) _ _ _;unfold Builtin.Dict.showsAll;rw[if_neg (by rw[lo];exact qA9)];refine yO (yP (yO (gI ho hdat (yO (lH ho hdat ?_)))));show yX _ _ (newFields _ _ >>= _) _ _ _;unfold newFields;refine yO (jP (yP ⟨_,rfl,"dict_keyiterator",_,⟨_,qB4 _ rfl,rfl⟩,F.slot_dict_keyiterator_next.lookup,?_⟩));simpa[j8]using hQ
end
theorem zEr{α β:Type}{R:α->β->Prop}{xs:List α}{ys:List β}(r:lO R xs ys):∀{i:Nat}{y:β},ys[i]?=some y->∃x,xs[i]?=some x/\R x y:=by
 induction r with
 |nil=>intro i y e;simp at e
 |cons h t ih =>
  intro i y e;cases i with
  |zero=>simp at e;subst e;exact⟨_,rfl,h⟩
  |succ i=>exact ih (by simpa using e)
noncomputable def one(zs:yA)(z:Int):yA:=if z∈zs then zs else z::zs
theorem Inv.dr{X:Cx}{pins:yD}{Z:St}{H:Hp}{s:yS}(I:Inv X pins Z H s)(d:Drawn):Inv X pins Z H { s with drawn:=d } :=
 ⟨I.ok,I.os,I.bare,I.base,I.loc,I.cell,I.free,I.freeC,I.pin,I.hok,I.len⟩
section
variable {prog:y7}{w:jD}{A:jE}{E:yL}{s:yS}{r:yR}
theorem zMZ{Q:yL}{ns:yA}(hl:ns.length<64)
  (hc:∀(A:jE) (E:yL) (R:yB->yS->Prop),A.handled=none->(∀(h':jC) (tk:Nat) (dr:Drawn) (us:yB) (ms:yA),(∀b o,s.heap.get? b=some o->h'.get? b=some o)->wL us ms->ms.Perm ns->R us { s with heap:=h',toks:=tk,drawn:=dr })->yX (yW prog w) A (collect (.ref r)) R E s)
  (hh:A.handled=none)
  (h:∀(h1:jC) (l:yR) (h':jC) (tk:Nat) (dr:Drawn) (e:Nat) (us:yB) (ms:yA),(∀b o,s.heap.get? b=some o->h1.get? b=some o)->(∀b o,h1.get? b=some o->h'.get? b=some o)->h1.objs.size<=l->h'.get? l=some (wG "list" us.toArray e)->wL us ms->ms.Perm ns->ms.Pairwise (·<=·)->Q (.ref l) { s with heap:=h',toks:=tk,drawn:=dr }) :
  yX (yW prog w) A (call (.builtin "sorted") [.ref r]) Q E s:=by
 refine gE kind_sorted plain_sorted entry_sorted (args_sorted1 _) ?_;unfold Builtin.«sorted»;refine yO (m:=checkCount "sorted" 1 1 _) (yP ?_);refine yO (hc _ _ _ hh λh' tk dr us ms hk hi hp=>?_);have hlen:us.length=ns.length:=by
  rw[<- hp.length_eq];clear hk hp
  induction hi with
  |nil=>rfl
  |cons _ _ _ ih=>simp[ih]
 refine yO (mP ?_ (by rw[hlen,vX];omega));have hoL:(h'.push (wG "list" us.toArray 0)).get? h'.objs.size=some (wG "list" us.toArray 0):=qB4 _ rfl;show yX _ _ _ _ _ { s with heap:=h'.push (wG "list" us.toArray 0),toks:=tk,drawn:=dr };refine yO (jO (jN slot_list_sort ⟨_,hoL,rfl⟩ entry_list_sort (list_sort_tree hoL hi (by omega) λout ns' a1 a2 a3=>⟨_,rfl,?_⟩) (args_list_sort _)));obtain⟨e,he⟩:=sortedHeap_at (out:=out) hoL;refine yP ⟨_,rfl,h h' h'.objs.size _ tk dr e out.toList ns' hk (λb o g=>?_) (qA6 _) (by simpa using he) a1 (a2.trans hp) a3⟩;have lt:b<h'.objs.size:=qB3 g;rw[sortedHeap_old (qC4 lt) (by rw[mY];exact qF1 lt)];exact qA5 _ g
end
theorem zKj:∀(us:yB) (ns:yA),us.length=ns.length->(∀(j:Nat) (v:yU) (n:Int),us[j]?=some v->ns[j]?=some n->∃t,v=.int n t)->wL us ns
 |[],[],_,_=>.nil
 |[],_::_,h,_=>by cases h
 |_::_,[],h,_=>by cases h
 |u::us,n::ns,h,k=>by obtain⟨t,rfl⟩:=k 0 u n rfl rfl;exact .cons n t (zKj us ns (by simpa using h) λj v m e1 e2=>k (j+1) v m (by simpa using e1) (by simpa using e2))
theorem zJy{X:Cx}(hc:X.calm=true):zBN X (.builtin "sorted") (λvs H Q=>∃(p:yR) (kvs:List (Key×V)) (ns:yA),vs=[.ref p]/\H p=some (.dK kvs)/\kvs.map (·.1)=ns.map Sum.inl/\ns.length<64/\∀(l:yR) (ms:yA),H l=none->ms.Perm ns->ms.Pairwise (·<=·)->Q (.ref l) (upd H l (.lst (ms.map V.int)))):=by
 intro pins s Z H xs us Q I r h;obtain⟨p,kvs,ns,rfl,hp,hk,hn,q⟩:=h;obtain⟨u,rfl,ru⟩:=zDd r;cases ru;obtain⟨hz,lo,vs,kv,dd⟩:=zOM I.hok hp;obtain⟨ep,hat⟩:=dd.dictAt;have hl:vs.length=ns.length:=by rw[<- Paired.length kv,<- qA8 (f:=(·.1)),hk,qA8]
 refine zMZ hn (λA E R hA hR=>W.kdu_collect (W.kdl_dict (knd:=zA9 X.prog X.w) (kvs:=vs) (ep:=ep) lo) hA hat (by rw[hl,vX];omega) λh' tk acc hk2 hacc=>hR h' tk s.drawn _ ns hk2 ?_ (.refl _)) (I.ok.hd hc) λh2 l2 h3 tk3 dr e us ms k2 k3 le g3 hi hpm hw=>?_
 ·refine zKj _ _ (by rw[vT,hacc.1,hl]) λj v n e1 e2=>?_;obtain⟨k,x,e3,e4⟩:∃k x,vs[j]?=some (k,x)/\(zA9 X.prog X.w).is k v=true:=hacc.2 j v (by rw[<- wA];exact e1);obtain⟨q1,e5,e6,_⟩:=zEr kv e3;have e7:(kvs.map (·.1))[j]?=some k:=by rw[qC0,e5];exact congrArg some e6
  rw[hk,qC0,e2]at e7;cases e7;cases v<;>first|exact absurd e4 qA9|skip
  rename_i i t;have:i=n:=by simpa[zA9,zHL,Value.isInt]using e4
  subst this;exact⟨t,rfl⟩
 ·have I2:Inv X pins Z H { s with heap:=h2,toks:=tk3,drawn:=dr }:=(I.kept (t':=tk3) λb o e=>k2 b o e).dr dr;refine⟨.ref l2,_,I2.laid (t':=tk3) (o:=.lst (ms.map V.int)) k3 le ?_,rfl,q _ _ (I2.hok.fresh le) hpm hw⟩;have hl2:ms.length<64:=by rw[hpm.length_eq];exact hn
  exact⟨by rw[qA8];exact qD0 (qG3 hl2) (by decide),us,e,zFH hi,by simpa[wG]using g3⟩
structure Swo(lt:yV->yV->Bool):Prop where
 as:∀x y,lt x y=true->lt y x=false
 tr:∀x y z,lt y x=false->lt z y=false->lt z x=false
theorem Swo.flip{lt:yV->yV->Bool}(h:Swo lt):Swo λx y=>lt y x :=
 ⟨λx y e=>h.as y x e,λx y z a b=>h.tr z y x b a⟩
theorem Swo.rf{lt:yV->yV->Bool}(h:Swo lt)(x:yV):lt x x=false:=by
 cases e:lt x x with
 |false=>rfl
 |true=>exact e.symm.trans (h.as x x e)
abbrev Srt(lt:yV->yV->Bool)(l:yI):Prop:=l.Pairwise λx y=>lt y x=false
structure MrgI(lt:yV->yV->Bool)(a b ra rb out:yI):Prop where
 pm:(out++(ra++rb)).Perm (a++b)
 so:Srt lt out
 sa:Srt lt ra
 sb:Srt lt rb
 la:∀x∈out,∀y∈ra,lt y x=false
 lb:∀x∈out,∀y∈rb,lt y x=false
section
variable {lt:yV->yV->Bool}{a b ra rb out xs:yI}{x:yV}
theorem MrgI.swap(h:MrgI lt a b ra rb out):MrgI lt b a rb ra out :=
 ⟨((List.Perm.refl out).append qH7).trans (h.pm.trans qH7),h.so,h.sb,h.sa,h.lb,h.la⟩
theorem MrgI.push(h:MrgI lt a b (xs++ra) rb out)(k:∀x∈xs,∀y∈rb,lt y x=false):MrgI lt a b ra rb (out++xs):=by
 obtain⟨pm,so,sa,sb,la,lb⟩:=h;obtain⟨s1,s2,s3⟩:=qC2.mp sa;refine⟨?_,qC2.mpr ⟨so,s1,λx hx y hy=>la x hx y (qE9 _ hy)⟩,s2,sb,λx hx y hy=>?_,λx hx y hy=>?_⟩
 ·simpa[qB6]using pm
 ·rcases qB9.mp hx with hx|hx
  ·exact la x hx y (qC6 _ hy)
  ·exact s3 x hx y hy
 ·rcases qB9.mp hx with hx|hx
  ·exact lb x hx y hy
  ·exact k x hx y hy
structure Mg(lt:yV->yV->Bool)(a b out:yI):Prop where
 pm:out.Perm (a++b)
 so:Srt lt out
theorem MrgI.fin(h:MrgI lt a b ra [] out):Mg lt a b (out++ra) :=
 ⟨by simpa using h.pm,qC2.mpr ⟨h.so,h.sa,h.la⟩⟩
theorem MrgI.last(h:MrgI lt a b [x] rb out)(k:∀y∈rb,lt x y=false):Mg lt a b (out++rb++[x]):=by
 refine⟨?_,qC2.mpr ⟨qC2.mpr ⟨h.so,h.sb,h.lb⟩,qE4 ..,λu hu v hv=>?_⟩⟩
 ·rw[qB6];exact((List.Perm.refl out).append qH7).trans h.pm
 ·have e:=qB7.mp hv;subst e;rcases qB9.mp hu with hu|hu
  ·exact h.la u hu v (qI3 _)
  ·exact k u hu
theorem Srt.rev(h:Srt (λx y=>lt y x) out):Srt lt out.reverse:=qJ2.mpr h
end
noncomputable def gallop':Bool->yV->Array yV->Nat->Nat->Nat->StateT jG Sem (yK):=sortPriv% PySem.Builtin.gallop
noncomputable def mergeLo':Array yV->Array yV->StateT jG Sem (Array yV):=sortPriv% PySem.Builtin.mergeLo
noncomputable def mergeHi':Array yV->Array yV->StateT jG Sem (Array yV):=sortPriv% PySem.Builtin.mergeHi
noncomputable def bq(lt:yV->yV->Bool)(left:Bool)(key x:yV):Bool:=if left then lt x key else !lt key x
def Asks(prog:y7)(w:jD)(A:jE)(s:yS)(κ:v0)(lt:yV->yV->Bool)(G:yV->Prop):Prop :=
 ∀x y,G x->G y->∀Q:Bool->yS->Prop,Q (lt x y) s->yX (yW prog w) A (keyLt' κ x.1 y.1) Q (λ_ _=>False) s
section
variable {prog:y7}{w:jD}{A:jE}{E:yL}{s:yS}{κ:v0}{lt:yV->yV->Bool}{G:yV->Prop}{st:jG}
theorem zML{x y:yV}{Q:Option Bool->jG->Prop}(hA:Asks prog w A s κ lt G)(hk:kindOf st=κ)(hx:G x)(hy:G y)(h:Q (some (lt x y)) st):wpS (yW prog w) A E s (lt' x y) Q st:=by rw[lt'_eq];refine yT (fV ?_);rw[hk];refine yT (gA (vK (jK (hA x y hx hy (λb s'=>s'=s/\b=lt x y) ⟨rfl,rfl⟩) (λb s' e=>?_) λ_ _ x=>x.elim)));obtain⟨rfl,rfl⟩:=e;exact⟨rfl,yY h⟩
theorem zAm{arr:Array yV}{i:Nat}{x:yV}{Q:yV->jG->Prop}(hx:arr[i]?=some x)(h:Q x st):wpS (yW prog w) A E s (mQ arr i) Q st:=by rw[elem'_eq,hx];exact yY h
theorem zUo{left:Bool}{key x:yV}{arr:Array yV}{i:Nat}{Q:Option Bool->jG->Prop}(hA:Asks prog w A s κ lt G)(hk:kindOf st=κ)(hx:arr[i]?=some x)(gx:G x)(gk:G key)(h:Q (some (bq lt left key x)) st):
  wpS (yW prog w) A E s (do let x <- mQ arr i;if left then lt' x key else return (<- lt' key x).map (!·)) Q st:=by
 refine yT (zAm hx ?_);cases left with
 |true=>exact zML hA hk gx gk h
 |false=>exact yT (zML hA hk gk gx (yY h))
def GalI(P:Nat->Bool)(n x:Nat)(c:Option (yK)×Nat×Nat)(st' st:jG):Prop:=st'=st/\∃lo hi,c=(none,lo,hi)/\lo<=hi/\hi<=n/\hi - lo<=n - x/\(∀i,i<lo->P i=true)/\(∀i,hi<=i->i<n->P i=false)
theorem zOu{P:Nat->Bool}{n:Nat}{BB:Nat->StateT jG Sem (Option Bool)}(bey:∀{i:Nat}{R:Option Bool->jG->Prop},i<n->R (some (P i)) st->wpS (yW prog w) A E s (BB i) R st)
  {c:Option (yK)×Nat×Nat} (h:GalI P n 0 c st st) (hm:∀i j,i<=j->j<n->P j=true->P i=true) :
  wpS (yW prog w) A E s (forIn [:n] c λ_ c=>if c.2.1≥c.2.2 then pure (ForInStep.done (none,c.2.1,c.2.2))else BB (c.2.1+(c.2.2 - c.2.1) / 2) >>= λr=>match r with
   |some more=>if more=true then pure (ForInStep.yield (none,c.2.1+(c.2.2 - c.2.1) / 2+1,c.2.2))else pure (ForInStep.yield (none,c.2.1,c.2.1+(c.2.2 - c.2.1) / 2))
   | _=>pure (ForInStep.done (some none,c.2.1,c.2.2)))
   (λc st'=>st'=st/\∃k,c=(none,k,k)/\k<=n/\(∀i,i<k->P i=true)/\(∀i,k<=i->i<n->P i=false)) st:=by
 refine jU (I:=λx c st'=>GalI P n x c st' st) ?_ ?_ h
 ·rintro x c st' _ hx ⟨rfl,lo,hi,rfl,h1,h2,h3,h4,h5⟩;dsimp only;by_cases hge:lo≥hi
  ·rw[if_pos hge];have e:lo=hi:=by omega
   subst e;exact yY ⟨rfl,lo,rfl,h2,h4,h5⟩
  ·rw[if_neg hge];refine yT (bey (i:=lo+(hi - lo) / 2) (by omega) ?_);cases e:P (lo+(hi - lo) / 2)with
   |true=>exact yY ⟨rfl,_,_,rfl,by omega,h2,by omega,λi hi'=>hm i _ (by omega) (by omega) e,h5⟩
   |false =>
    refine yY ⟨rfl,_,_,rfl,by omega,by omega,by omega,h4,λi h6 h7=>?_⟩;cases e2:P i with
    |false=>rfl
    |true=>rw[hm _ i h6 h7 e2]at e;cases e
 ·rintro c st' ⟨rfl,lo,hi,rfl,h1,h2,h3,h4,h5⟩;have e:lo=hi:=by omega
  subst e;exact⟨rfl,lo,rfl,h2,h4,h5⟩
theorem zQK{left:Bool}{key:yV}{arr:Array yV}{base n hint:Nat}{Q:yK->jG->Prop}(P:Nat->Bool)(hA:Asks prog w A s κ lt G)(hk:kindOf st=κ)(gk:G key)(hh:hint<n)
  (hp:∀i,i<n->∃x,arr[base+i]?=some x/\G x/\bq lt left key x=P i) (hm:∀i j,i<=j->j<n->P j=true->P i=true)
  (h:∀k,k<=n->(∀i,i<k->P i=true)->(∀i,k<=i->i<n->P i=false)->Q (some k) st) :
  wpS (yW prog w) A E s (gallop' left key arr base n hint) Q st:=by
 have bey:∀{i:Nat}{R:Option Bool->jG->Prop},i<n->R (some (P i)) st->wpS (yW prog w) A E s (do let x <- mQ arr (base+i);if left then lt' x key else return (<- lt' key x).map (!·)) R st:=by intro i R hi hR;obtain⟨x,hx,gx,e⟩:=hp i hi;exact zUo hA hk hx gx gk (by rw[e];exact hR)
 refine yT (bey hh ?_);dsimp only;have fn:∀{lo hi:Nat},lo<=hi->hi<=n->(∀i,i<lo->P i=true)->(∀i,hi<=i->i<n->P i=false)->GalI P n 0 (none,lo,hi) st st:=λa b c d=>⟨rfl,_,_,rfl,a,b,by omega,c,d⟩
 cases hr:P hint with
 |true =>
  simp only[if_true];refine yT (vD (jU (I:=λx c st'=>st'=st/\∃l o,c=(none,l,o)/\l<o/\hint+l<n/\x+1<=o/\P (hint+l)=true)
   (Q:=λc st'=>st'=st/\∃l o,c=(none,l,o)/\l<o/\hint+l<n/\P (hint+l)=true/\(n - hint<=o∨hint+o<n/\P (hint+o)=false)) ?_ ?_ ⟨rfl,0,1,rfl,by omega,by omega,by omega,hr⟩) ?_)
  ·rintro x c st' _ hx ⟨rfl,l,o,rfl,h1,h2,h3,h4⟩;dsimp only;by_cases hge:o≥n - hint
   ·rw[if_pos hge];exact yY ⟨rfl,l,o,rfl,h1,h2,h4,.inl hge⟩
   ·rw[if_neg hge];refine yT (bey (i:=hint+o) (by omega) ?_);cases e:P (hint+o)with
    |true=>exact yY ⟨rfl,o,2*o+1,rfl,by omega,by omega,by omega,e⟩
    |false=>exact yY ⟨rfl,l,o,rfl,h1,h2,h4,.inr ⟨by omega,e⟩⟩
  ·rintro c st' ⟨rfl,l,o,rfl,h1,h2,h3,h4⟩;exact⟨rfl,l,o,rfl,h1,h2,h4,.inl (by omega)⟩
  ·rintro c st' ⟨rfl,l,o,rfl,h1,h2,h4,h5⟩;dsimp only;refine yT (vD (zOu (bey:=bey) (hm:=hm) (fn (lo:=hint+l+1) (hi:=hint+min o (n - hint)) (by omega) (by omega) (λi hi=>hm i (hint+l) (by omega) h2 h4) λi h6 h7=>?_)) ?_)
   ·rcases h5 with h5|⟨h8,h9⟩
    ·omega
    ·cases e:P i with
     |false=>rfl
     |true=>rw[hm (hint+o) i (by omega) h7 e]at h9;cases h9
   ·rintro c st' ⟨rfl,k,rfl,a1,a2,a3⟩;exact yY (h k a1 a2 a3)
 |false =>
  simp only[qE3,if_false];refine yT (vD (jU (I:=λx c st'=>st'=st/\∃l o,c=(none,l,o)/\l<o/\l<=hint/\x+1<=o/\P (hint - l)=false)
   (Q:=λc st'=>st'=st/\∃l o,c=(none,l,o)/\l<o/\l<=hint/\P (hint - l)=false/\(hint+1<=o∨o<=hint/\P (hint - o)=true)) ?_ ?_ ⟨rfl,0,1,rfl,by omega,by omega,by omega,hr⟩) ?_)
  ·rintro x c st' _ hx ⟨rfl,l,o,rfl,h1,h2,h3,h4⟩;dsimp only;by_cases hge:o≥hint+1
   ·rw[if_pos hge];exact yY ⟨rfl,l,o,rfl,h1,h2,h4,.inl hge⟩
   ·rw[if_neg hge];refine yT (bey (i:=hint - o) (by omega) ?_);cases e:P (hint - o)with
    |false=>exact yY ⟨rfl,o,2*o+1,rfl,by omega,by omega,by omega,e⟩
    |true=>exact yY ⟨rfl,l,o,rfl,h1,h2,h4,.inr ⟨by omega,e⟩⟩
  ·rintro c st' ⟨rfl,l,o,rfl,h1,h2,h3,h4⟩;exact⟨rfl,l,o,rfl,h1,h2,h4,.inl (by omega)⟩
  ·rintro c st' ⟨rfl,l,o,rfl,h1,h2,h4,h5⟩;dsimp only;refine yT (vD (zOu (bey:=bey) (hm:=hm) (fn (lo:=hint+1 - min o (hint+1)) (hi:=hint - l) (by omega) (by omega) (λi hi=>?_) λi h6 h7=>?_)) ?_)
   ·rcases h5 with h5|⟨h8,h9⟩
    ·omega
    ·exact hm i (hint - o) (by omega) (by omega) h9
   ·cases e:P i with
    |false=>rfl
    |true=>rw[hm (hint - l) i (by omega) h7 e]at h4;cases h4
   ·rintro c st' ⟨rfl,k,rfl,a1,a2,a3⟩;exact yY (h k a1 a2 a3)
end
structure Sg(st st':jG):Prop where
 k:kindOf st'=kindOf st
 a:arrOf st'=arrOf st
 p:pendingOf st'=pendingOf st
 f:failedOf st'=failedOf st
theorem Sg.rfl(st:jG):Sg st st:=⟨Eq.refl _,Eq.refl _,Eq.refl _,Eq.refl _⟩
section
variable {lt:yV->yV->Bool}{a b ra rb out xs:yI}{x:yV}
theorem zI0(a:yI)(i:Nat):(a.toArray.extract i a.toArray.size).toList=a.drop i:=by simp only[List.extract_toArray,qB1,List.extract_eq_take_drop];exact qH1 (by simp)
theorem zLx(a:yI)(i j:Nat):(a.toArray.extract i j).toList=(a.drop i).take (j - i):=by simp
theorem zI4{a:yI}{i:Nat}(h:i<a.length):a.drop i=[a[i]]++a.drop (i+1):=qE5 h
theorem zTL{a:yI}{i j:Nat}(h:i<=j):a.drop i=(a.drop i).take (j - i)++a.drop j:=by
 conv=>lhs;rw[<- qC9 (j - i) (a.drop i)]
 rw[qO7];congr 2;omega
end
theorem zEj{lt:yV->yV->Bool}{b:yI}{i:Nat}{x:yV}(hO:Swo lt)(sb:Srt lt b)(hi:i<b.length)(h:lt b[i] x=false):∀y∈b.drop i,lt y x=false:=by
 intro y hy;rw[zI4 hi]at hy;rcases qB9.mp hy with hy|hy
 ·rw[qB7.mp hy];exact h
 ·have s1:Srt lt ([b[i]]++b.drop (i+1)):=by rw[<- zI4 hi];exact sb.sublist (qG7 ..)
  exact hO.tr x b[i] y h ((qC2.mp s1).2.2 _ (qI3 _) y hy)
section
variable {lt:yV->yV->Bool}{a b:yI}{ia ib k:Nat}{out:Array yV}
theorem zWf(h:MrgI lt a b (a.drop ia) (b.drop ib) out.toList)(h1:ia<=a.length)(h2:ib<=b.length):out.size=ia+ib:=by have e:=h.pm.length_eq;simp at e;omega
theorem zFB(h:MrgI lt a b (a.drop ia) (b.drop ib) out.toList)(e:ib=b.length∨ia=a.length):Mg lt a b (out++a.toArray.extract ia a.toArray.size++b.toArray.extract ib b.toArray.size).toList:=by
 rw[jI,jI,zI0,zI0];rcases e with rfl|rfl
 ·rw[qL3]at h ⊢;simpa using h.fin
 ·rw[qL3]at h ⊢;have:=h.swap.fin;exact⟨by simpa using this.pm.trans qH7,by simpa using this.so⟩
theorem zHF(h:MrgI lt a b (a.drop ia) (b.drop ib) out.toList)(e:ia+1=a.length)(hl:∀y∈b,lt (a[a.length - 1]'(by omega)) y=false):Mg lt a b (out++b.toArray.extract ib b.toArray.size++a.toArray.extract ia a.toArray.size).toList:=by
 rw[jI,jI,zI0,zI0];have e1:a.drop ia=[a[a.length - 1]'(by omega)]:=by rw[zI4 (by omega),qK8 (by omega),qG1];congr 2;omega
 rw[e1]at h ⊢;exact h.last λy hy=>hl y (qH9 hy)
theorem lo_a(h:MrgI lt a b (a.drop ia) (b.drop ib) out.toList)(i1:ia<a.length)(k:∀y∈b.drop ib,lt y a[ia]=false):MrgI lt a b (a.drop (ia+1)) (b.drop ib) (out.push a[ia]).toList:=by rw[zI4 i1]at h;rw[Array.toList_push];exact h.push λx hx=>by rw[qB7.mp hx];exact k
theorem zWg(h:MrgI lt a b (a.drop ia) (b.drop ib) out.toList)(hk:ia+k<=a.length)(q:∀i,(hi:i<k)->∀y∈b.drop ib,lt y (a[ia+i]'(by omega))=false):MrgI lt a b (a.drop (ia+k)) (b.drop ib) (out++a.toArray.extract ia (ia+k)).toList:=by
 rw[zTL (show ia<=ia+k by omega)]at h;rw[jI,zLx];refine h.push λx hx=>?_;obtain⟨i,hi,e⟩:=qG5.mp hx;have hi':i<k:=by simp at hi;omega
 rw[<- e];simpa using q i hi'
end
section
variable {lt:yV->yV->Bool}{a b:yI}{ia ib k:Nat}{out:Array yV}
theorem lo_b(h:MrgI lt a b (a.drop ia) (b.drop ib) out.toList)(i1:ib<b.length)(k:∀y∈a.drop ia,lt y b[ib]=false):MrgI lt a b (a.drop ia) (b.drop (ib+1)) (out.push b[ib]).toList :=
 (lo_a h.swap i1 k).swap
theorem zZb(h:MrgI lt a b (a.drop ia) (b.drop ib) out.toList)(hk:ib+k<=b.length)(q:∀i,(hi:i<k)->∀y∈a.drop ia,lt y (b[ib+i]'(by omega))=false):MrgI lt a b (a.drop ia) (b.drop (ib+k)) (out++b.toArray.extract ib (ib+k)).toList :=
 (zWg h.swap hk q).swap
structure Wl(lt:yV->yV->Bool)(a b:yI)(ia ib:Nat)(out:Array yV):Prop where
 m:MrgI lt a b (a.drop ia) (b.drop ib) out.toList
 i:ia+1<a.length
 j:ib<b.length
theorem zQL(hO:Swo lt)(sa:Srt lt a)(left:Bool)(key:yV){i j:Nat}(hij:i<=j)(hj:j<a.length)(h:bq lt left key a[j]=true):bq lt left key (a[i]'(by omega))=true:=by
 rcases Nat.lt_or_eq_of_le hij with hlt|rfl
 ·have e:=List.pairwise_iff_getElem.mp sa i j (by omega) hj hlt;cases left with
  |true =>
   show lt a[i] key=true;cases e2:lt a[i] key with
   |true=>rfl
   |false=>exact(hO.tr key a[i] a[j] e2 e).symm.trans h
  |false =>
   have h':lt key a[j]=false:=by simpa[bq]using h
   show(!lt key a[i])=true;rw[hO.tr a[i] a[j] key e h'];rfl
 ·exact h
end
section
variable {prog:y7}{w:jD}{A:jE}{E:yL}{s:yS}{κ:v0}{lt:yV->yV->Bool}{G:yV->Prop}{st:jG}
noncomputable def setG':Nat->StateT jG Sem Unit:=sortPriv% PySem.Builtin.setMinGallop
theorem zMK{g:Nat}{Q:Unit->jG->Prop}(h:∀st',Sg st st'->Q () st'):wpS (yW prog w) A E s (setG' g) Q st :=
 wH (h _ ⟨rfl,rfl,rfl,rfl⟩)
theorem zBF{β:Type}{c:Prop}{dc:Decidable c}{m m':StateT jG Sem β}{Q:β->jG->Prop}(h:c->wpS (yW prog w) A E s m Q st)(h':¬c->wpS (yW prog w) A E s m' Q st):wpS (yW prog w) A E s (if c then m else m') Q st:=by
 split
 ·rename_i e;exact h e
 ·rename_i e;exact h' e
theorem zFR{β:Type}{lo hi:Nat}{f f':Nat->β->StateT jG Sem (ForInStep β)}(hf:f'=f)(I:Nat->β->jG->Prop){Q:β->jG->Prop}(hstep:∀i c st,lo<=i->i<hi->I i c st->wpS (yW prog w) A E s (f' i c) (λr st'=>match r with|.done c'=>Q c' st'|.yield c'=>I (i+1) c' st') st)
  (hend:∀c st,I (max lo hi) c st->Q c st) {c:β} (h:I lo c st):wpS (yW prog w) A E s (forIn [lo:hi] c f) Q st:=by subst hf;exact jU I hstep hend h
theorem Sg.trans{st st' st'':jG}(h:Sg st st')(k:Sg st' st''):Sg st st'':=⟨k.k.trans h.k,k.a.trans h.a,k.p.trans h.p,k.f.trans h.f⟩
theorem zHc{left:Bool}{key:yV}{a:yI}{base n hint:Nat}{Q:yK->jG->Prop}(hO:Swo lt)(hA:Asks prog w A s κ lt G)(hk:kindOf st=κ)(gk:G key)(ga:∀x∈a,G x)(sa:Srt lt ((a.drop base).take n))(hn:base+n<=a.length)(hh:hint<n)
  (h:∀k,k<=n->(∀i,(hi:i<k)->(hn':i<n)->bq lt left key (a[base+i]'(by omega))=true)->(∀i,k<=i->(hi:i<n)->bq lt left key (a[base+i]'(by omega))=false)->Q (some k) st) :
  wpS (yW prog w) A E s (gallop' left key a.toArray base n hint) Q st:=by
 have ge:∀i,(hi:i<n)->((a.drop base).take n)[i]'(by simp;omega)=a[base+i]'(by omega):=λi hi=>by simp
 refine zQK (P:=λi=>if hi:i<n then bq lt left key (a[base+i]'(by omega))else false) hA hk gk hh (λi hi=>⟨a[base+i]'(by omega),by rw[qC7];exact qA4 (by omega),ga _ (qD7 _),by simp[hi]⟩) (λi j hij hj hp=>?_) λk hk1 hk2 hk3=>h k hk1 (λi hi hn'=>?_) λi hi hn'=>?_
 ·have hi:i<n:=by omega
  simp only[hi,hj,dif_pos]at hp ⊢;rw[<- ge j hj]at hp;rw[<- ge i hi];exact zQL hO sa left key hij (by simp;omega) hp
 ·have:=hk2 i hi;simpa[hn']using this
 ·have:=hk3 i hi hn';simpa[hn']using this
abbrev LoC:=Option (Array yV)×Array yV×Nat×Nat×Nat×Nat×Nat
noncomputable abbrev LoM:=StateT jG Sem (ForInStep LoC)
noncomputable abbrev loD(a b out:Array yV)(ia ib:Nat):Array Keyed:=out++a.extract ia a.size++b.extract ib b.size
noncomputable abbrev loL(a b out:Array yV)(ia ib:Nat):Array Keyed:=out++b.extract ib b.size++a.extract ia a.size
noncomputable abbrev loR(r out:Array yV)(ia ib g p q:Nat):LoM:=pure (.done (some r,out,ia,ib,g,p,q))
noncomputable def lo3(a b:Array yV)(g p q:Nat)(out:Array yV)(ia ib:Nat):LoM:=mQ a ia >>= λv =>
 if(ia+1+1 == a.size)=true then loR (loL a b (out.push v) (ia+1) ib) (out.push v) (ia+1) ib g p q
 else if(decide (p<7)&&decide (q<7))=true then pure (.done (none,out.push v,ia+1,ib,g,p,q))else pure (.yield (none,out.push v,ia+1,ib,g,p,q))
noncomputable def lo2b(a b:Array yV)(g p q:Nat)(out:Array yV)(ia ib:Nat):yK->LoM
 |some k=>if k>0 then(if(ib+k == b.size)=true then loR (loD a b (out++b.extract ib (ib+k)) ia (ib+k)) (out++b.extract ib (ib+k)) ia (ib+k) g p k else lo3 a b g p k (out++b.extract ib (ib+k)) ia (ib+k))else lo3 a b g p k out ia ib
 |_=>loR (loD a b out ia ib) out ia ib g p q
noncomputable def lo2(a b:Array yV)(g p q:Nat)(out:Array yV)(ia ib:Nat):LoM:=mQ b ib >>= λv =>
 if(ib+1 == b.size)=true then loR (loD a b (out.push v) ia (ib+1)) (out.push v) ia (ib+1) g p q
 else mQ a ia >>= λu=>gallop' true u b (ib+1) (b.size - (ib+1)) 0 >>= lo2b a b g p q (out.push v) ia (ib+1)
noncomputable def lo1b(a b:Array yV)(g p q:Nat)(out:Array yV)(ia ib:Nat):yK->LoM
 | some k=>if k>0 then(if(ia+k+1 == a.size)=true then loR (loL a b (out++a.extract ia (ia+k)) (ia+k) ib) (out++a.extract ia (ia+k)) (ia+k) ib g k q
   else if(ia+k == a.size)=true then loR (loD a b (out++a.extract ia (ia+k)) (ia+k) ib) (out++a.extract ia (ia+k)) (ia+k) ib g k q else lo2 a b g k q (out++a.extract ia (ia+k)) (ia+k) ib)else lo2 a b g k q out ia ib
 |_=>loR (loD a b out ia ib) out ia ib g p q
noncomputable def lo1(a b:Array yV)(g p q:Nat)(out:Array yV)(ia ib:Nat):LoM:=setG' g >>= λ_=>mQ b ib >>= λv=>gallop' false v a ia (a.size - ia) 0 >>= lo1b a b g p q out ia ib
noncomputable def lo0(a b:Array yV)(c:LoC):LoM:=if c.2.2.2.2.1>1 then lo1 a b (c.2.2.2.2.1 - 1) c.2.2.2.2.2.1 c.2.2.2.2.2.2 c.2.1 c.2.2.1 c.2.2.2.1 else lo1 a b c.2.2.2.2.1 c.2.2.2.2.2.1 c.2.2.2.2.2.2 c.2.1 c.2.2.1 c.2.2.2.1
def LoQ(lt:yV->yV->Bool)(a b:yI)(st:jG)(x:Nat)(c:LoC)(st':jG):Prop:=Sg st st'/\((∃r o,c=(some r,o)/\Mg lt a b r.toList)∨∃out ia ib g p q,c=(none,out,ia,ib,g,p,q)/\Wl lt a b ia ib out/\x+2<=out.size)
def LoI(lt:yV->yV->Bool)(a b:yI)(st:jG)(x:Nat)(c:LoC)(st':jG):Prop:=∃out ia ib g p q,c=(none,out,ia,ib,g,p,q)/\Sg st st'/\Wl lt a b ia ib out/\x+2<=out.size
noncomputable abbrev LoP(lt:yV->yV->Bool)(a b:yI)(st:jG)(x:Nat):ForInStep LoC->jG->Prop:=λr st'=>match r with|.done c'=>LoQ lt a b st x c' st'|.yield c'=>LoI lt a b st x c' st'
section
variable {st0:jG}{a b:yI}{x g p q ia ib:Nat}{out:Array yV}
theorem zJ3{r:Array yV}(hs:Sg st0 st)(h:Mg lt a b r.toList):wpS (yW prog w) A E s (loR r out ia ib g p q) (LoP lt a b st0 x) st:=yY ⟨hs,.inl ⟨_,_,rfl,h⟩⟩
theorem zLj(hs:Sg st0 st)(ha:0<a.length)(hl:∀y∈b,lt (a[a.length - 1]'(by omega)) y=false)(i2:ia+1<a.length)(j3:ib<b.length)(hz:x+2<=out.size)(m4:MrgI lt a b (a.drop (ia+1)) (b.drop ib) (out.push a[ia]).toList):wpS (yW prog w) A E s (lo3 a.toArray b.toArray g p q out ia ib) (LoP lt a b st0 x) st:=by
 refine yT (zAm (x:=a[ia]) (by rw[qC7];exact qA4 (by omega)) (zBF (λe7=>zJ3 hs (zHF m4 (by simpa using e7) hl)) λe7=>?_));have w5:Wl lt a b (ia+1) ib (out.push a[ia]):=⟨m4,by simp at e7;omega,j3⟩
 exact zBF (λ_=>yY ⟨hs,.inr ⟨_,_,_,_,_,_,rfl,w5,by simp;omega⟩⟩) λ_=>yY ⟨_,_,_,_,_,_,rfl,hs,w5,by simp;omega⟩
theorem zLk(hO:Swo lt)(hA:Asks prog w A s κ lt G)(hk:kindOf st0=κ)(ga:∀x∈a,G x)(gb:∀x∈b,G x)(sa:Srt lt a)(sb:Srt lt b)(hs:Sg st0 st)(ha:0<a.length)(hl:∀y∈b,lt (a[a.length - 1]'(by omega)) y=false)(i2:ia+1<a.length)(j1:ib<b.length)(hz:x+2<=out.size)(mk:MrgI lt a b (a.drop ia) (b.drop ib) out.toList)(ck:∀y∈a.drop ia,lt y b[ib]=false):wpS (yW prog w) A E s (lo2 a.toArray b.toArray g p q out ia ib) (LoP lt a b st0 x) st:=by
 have m3:=lo_b mk j1 ck;refine yT (zAm (x:=b[ib]) (by simp[j1]) (zBF (λe5=>zJ3 hs (zFB m3 (.inl (by simpa using e5)))) λe5=>?_));have j2:ib+1<b.length:=by simp at e5;omega
 refine yT (zAm (x:=a[ia]) (by rw[qC7];exact qA4 (by omega)) (yT (zHc hO hA (hs.k.trans hk) (ga _ (qD7 _)) gb (sb.sublist ((qF8 ..).trans (qG7 ..))) (by simp;omega) (by simp;omega) λk k1 k2 k3=>?_)));simp only[qB1]at k1 k2 k3;have mk2:MrgI lt a b (a.drop ia) (b.drop (ib+1+k)) ((out.push b[ib])++b.toArray.extract (ib+1) (ib+1+k)).toList :=
  zZb m3 (by omega) λi hi=>zEj hO sa (by omega) (hO.as _ _ (by simpa[bq]using k2 i hi (by omega)))
 have ck2:ib+1+k<b.length->∀y∈b.drop (ib+1+k),lt y a[ia]=false:=λhl=>zEj hO sb hl (by simpa[bq]using k3 k (qA6 _) (by omega));refine zBF (λhk1=>zBF (λe6=>zJ3 hs (zFB mk2 (.inl (by simpa using e6)))) λe6=>?_) λhk1=>?_
 ·have j3:ib+1+k<b.length:=by simp at e6;omega
  exact zLj hs ha hl i2 j3 (by simp;omega) (lo_a mk2 (by omega) (ck2 j3))
 ·have e0:k=0:=by omega
  subst e0;exact zLj hs ha hl i2 j2 (by simp;omega) (lo_a m3 (by omega) (ck2 j2))
theorem zQg(hO:Swo lt)(hA:Asks prog w A s κ lt G)(hk:kindOf st0=κ)(ga:∀x∈a,G x)(gb:∀x∈b,G x)(sa:Srt lt a)(sb:Srt lt b)(hs:Sg st0 st)(ha:0<a.length)(hl:∀y∈b,lt (a[a.length - 1]'(by omega)) y=false)(W:Wl lt a b ia ib out)(hsz:x+2<=out.size):wpS (yW prog w) A E s (lo1 a.toArray b.toArray g p q out ia ib) (LoP lt a b st0 x) st:=by
 have i1:=W.i;have j1:=W.j;refine yT (zMK λst4 s4=>?_);have hs4:=hs.trans s4;refine yT (zAm (x:=b[ib]) (by simp[j1]) (yT (zHc hO hA (hs4.k.trans hk) (gb _ (qD7 _)) ga (sa.sublist ((qF8 ..).trans (qG7 ..))) (by simp;omega) (by simp;omega) λk k1 k2 k3=>?_)));simp only[qB1]at k1 k2 k3;have mk:MrgI lt a b (a.drop (ia+k)) (b.drop ib) (out++a.toArray.extract ia (ia+k)).toList :=
  zWg W.m (by omega) λi hi=>zEj hO sb j1 (by simpa[bq]using k2 i hi (by omega))
 have ck:ia+k<a.length->∀y∈a.drop (ia+k),lt y b[ib]=false:=λhl=>zEj hO sa hl (hO.as _ _ (by simpa[bq]using k3 k (qA6 _) (by omega)));refine zBF (λhk0=>zBF (λe3=>zJ3 hs4 (zHF mk (by simpa using e3) hl)) λe3=>zBF (λe4=>zJ3 hs4 (zFB mk (.inr (by simpa using e4)))) λe4=>?_) λhk0=>?_
 ·have i2:ia+k+1<a.length:=by simp at e3 e4;omega
  exact zLk hO hA hk ga gb sa sb hs4 ha hl i2 j1 (by rw[Array.size_append];omega) mk (ck (by omega))
 ·have e0:k=0:=by omega
  subst e0;exact zLk hO hA hk ga gb sa sb hs4 ha hl i1 j1 hsz W.m (ck (by omega))
end
theorem zQ7{a b:yI}{Q:Array yV->jG->Prop}(hO:Swo lt)(hA:Asks prog w A s κ lt G)(hk:kindOf st=κ)(ga:∀x∈a,G x)(gb:∀x∈b,G x)(sa:Srt lt a)(sb:Srt lt b)
  (ha:0<a.length) (hb:0<b.length) (h0:∀x∈a,lt x b[0]=false) (hl:∀y∈b,lt (a[a.length - 1]'(by omega)) y=false)
  (h:∀out st',Sg st st'->Mg lt a b out.toList->Q out st'):wpS (yW prog w) A E s (mergeLo' a.toArray b.toArray) Q st:=by
 refine yT (gA (vM ⟨rfl,?_⟩));refine yT (zAm (x:=b[0]) (by simp[hb]) ?_);dsimp only;have m0:MrgI lt a b (a.drop 0) (b.drop 0) (#[]:Array yV).toList:=⟨by simp,.nil,by simpa using sa,by simpa using sb,λx hx=>(by simp at hx),λx hx=>(by simp at hx)⟩
 have m1:MrgI lt a b (a.drop 0) (b.drop 1) (#[b[0]]:Array yV).toList:=lo_b m0 hb λy hy=>h0 y (by simpa using hy);by_cases e1:(1 == b.toArray.size)=true
 ·rw[if_pos e1];exact yY (h _ _ (.rfl _) (zFB m1 (.inl (by simpa using e1))))
 rw[if_neg e1];by_cases e2:(0+1 == a.toArray.size)=true
 ·rw[if_pos e2];exact yY (h _ _ (.rfl _) (zHF m1 (by simpa using e2) hl))
 rw[if_neg e2];have w1:Wl lt a b 0 1 #[b[0]]:=⟨m1,by simp at e2;omega,by simp at e1;omega⟩
 refine yT (fV ?_);refine yT (vD (jU (I:=λx c st'=>∃out ia ib g,c=(none,out,ia,ib,g)/\Sg st st'/\Wl lt a b ia ib out/\x+1<=out.size)
  (Q:=λc st'=>∃r o,c=(some r,o)/\Sg st st'/\Mg lt a b r.toList) ?_ ?_ ⟨_,_,_,_,rfl,.rfl _,w1,by simp⟩) ?_)
 ·rintro x c st1 _ hx ⟨out,ia,ib,g,rfl,hs,W,hsz⟩;dsimp only;have hk1:kindOf st1=κ:=hs.k.trans hk;refine yT (vD (jU (I:=λy c st'=>∃out ia ib p q,c=(none,out,ia,ib,p,q)/\st'=st1/\Wl lt a b ia ib out/\x+1+y<=out.size)
   (Q:=λc st'=>st'=st1/\((∃r o,c=(some r,o)/\Mg lt a b r.toList)∨∃out ia ib p q,c=(none,out,ia,ib,p,q)/\Wl lt a b ia ib out/\x+2<=out.size)) ?_ ?_ ⟨_,_,_,_,_,rfl,rfl,W,by omega⟩) ?_)
  ·rintro y c st2 _ hy ⟨out,ia,ib,p,q,rfl,rfl,W,hsz⟩;dsimp only;have i1:=W.i;have j1:=W.j;refine yT (zAm (x:=b[ib]) (by simp[j1]) (yT (zAm (x:=a[ia]) (by rw[qC7];exact qA4 (by omega)) (yT (zML hA hk1 (gb _ (qD7 _)) (ga _ (qD7 _)) ?_)))));cases e:lt b[ib] a[ia]with
   |true =>
    refine yT (zAm (x:=b[ib]) (by simp[j1]) ?_);have m2:=lo_b W.m j1 (zEj hO sa (by omega) (hO.as _ _ e));by_cases e3:(ib+1 == b.toArray.size)=true
    ·rw[if_pos e3];exact yY ⟨rfl,.inl ⟨_,_,rfl,zFB m2 (.inl (by simpa using e3))⟩⟩
    rw[if_neg e3];have w2:Wl lt a b ia (ib+1) (out.push b[ib]):=⟨m2,i1,by simp at e3;omega⟩
    split
    ·exact yY ⟨rfl,.inr ⟨_,_,_,_,_,rfl,w2,by simp;omega⟩⟩
    ·exact yY ⟨_,_,_,_,_,rfl,rfl,w2,by simp;omega⟩
   |false =>
    refine yT (zAm (x:=a[ia]) (by rw[qC7];exact qA4 (by omega)) ?_);have m2:=lo_a W.m (by omega) (zEj hO sb j1 e);by_cases e3:(ia+1+1 == a.toArray.size)=true
    ·rw[if_pos e3];exact yY ⟨rfl,.inl ⟨_,_,rfl,zHF m2 (by simpa using e3) hl⟩⟩
    rw[if_neg e3];have w2:Wl lt a b (ia+1) ib (out.push a[ia]):=⟨m2,by simp at e3;omega,j1⟩
    split
    ·exact yY ⟨rfl,.inr ⟨_,_,_,_,_,rfl,w2,by simp;omega⟩⟩
    ·exact yY ⟨_,_,_,_,_,rfl,rfl,w2,by simp;omega⟩
  ·rintro c st2 ⟨out,ia,ib,p,q,rfl,rfl,W,hsz⟩;exact⟨rfl,.inr ⟨_,_,_,_,_,rfl,W,by simp at hsz;omega⟩⟩
  rintro c st2 ⟨rfl,⟨r,o,rfl,hr⟩| ⟨out,ia,ib,p,q,rfl,W,hsz⟩⟩
  ·exact yY ⟨r,_,rfl,hs,hr⟩
  dsimp only;refine yT (gA (vM ⟨rfl,?_⟩));refine yT (vD (zFR (f':=λ_ c=>lo0 a.toArray b.toArray c) (by kernel_rfl) (λ_=>LoI lt a b st x) (Q:=LoQ lt a b st x) ?_ ?_ ⟨_,_,_,_,_,_,rfl,hs,W,hsz⟩) ?_)
  ·rintro y c st3 _ _ ⟨out,ia,ib,g,p,q,rfl,hs3,W,hsz⟩;have h1:∀g,wpS (yW prog w) A E s (lo1 a.toArray b.toArray g p q out ia ib) (LoP lt a b st x) st3:=λg=>zQg hO hA hk ga gb sa sb hs3 ha hl W hsz;exact vD (zBF (λ_=>h1 _) λ_=>h1 _) λr st' h=>by cases r<;>exact h
  ·rintro c st2 ⟨out,ia,ib,g,p,q,rfl,hs3,W,hsz⟩;exact⟨hs3,.inr ⟨_,_,_,_,_,_,rfl,W,hsz⟩⟩
  rintro c st3 ⟨hs3,⟨r,o,rfl,hr⟩| ⟨out,ia,ib,g,p,q,rfl,W,hsz⟩⟩
  ·exact yY ⟨r,_,rfl,hs3,hr⟩
  dsimp only;exact yT (wH (yY ⟨_,_,_,_,rfl,⟨hs3.k,hs3.a,hs3.p,hs3.f⟩,W,by omega⟩))
 ·rintro c st1 ⟨out,ia,ib,g,rfl,hs,W,hsz⟩;have:=zWf W.m (by have:=W.i;omega) (by have:=W.j;omega);have:=W.i;have:=W.j;simp at hsz;omega
 ·rintro c st1 ⟨r,o,rfl,hs,hr⟩;exact yY (h r st1 hs hr)
end
section
variable {lt:yV->yV->Bool}{a b:yI}{na nb t:Nat}{out:Array yV}
theorem zMS(h:na - 1<a.length)(h0:0<na):(a.take na).reverse=[a[na - 1]]++(a.take (na - 1)).reverse:=by
 obtain⟨m,rfl⟩:∃m,na=m+1:=⟨na - 1,by omega⟩
 simp only[qP6]at h ⊢;rw[List.take_succ_eq_append_getElem h,qP1];rfl
theorem zRW(h:t<=na):(a.take na).reverse=((a.drop t).take (na - t)).reverse++(a.take t).reverse:=by
 rw[<- qP1];congr 1;rw[<- List.drop_take]
 conv=>lhs;rw[<- qC9 t (a.take na)]
 rw[List.take_take,qN6 h]
abbrev MH(lt:yV->yV->Bool)(a b:yI)(na nb:Nat)(out:Array yV):Prop:=MrgI (λx y=>lt y x) a b (a.take na).reverse (b.take nb).reverse out.toList
theorem zGh{x:yV}(hO:Swo lt)(sb:Srt lt b)(hi:nb - 1<b.length)(h:lt x b[nb - 1]=false):∀y∈(b.take nb).reverse,lt x y=false:=by
 intro y hy;rcases Nat.eq_zero_or_pos nb with rfl|h0
 ·simp at hy
 ·have s1:Srt lt (b.take nb):=sb.sublist (qF8 ..);have s2:(b.take nb).reverse.Pairwise λx y=>lt x y=false:=qJ2.mpr s1;rw[zMS hi h0]at hy s2;rcases qB9.mp hy with hy|hy
  ·rw[qB7.mp hy];exact h
  ·exact hO.tr y b[nb - 1] x ((qC2.mp s2).2.2 _ (qI3 _) y hy) h
theorem zQS(a:yI)(j:Nat):(a.toArray.extract 0 j).toList=a.take j:=by simp
theorem zWI(h:MH lt a b na nb out)(h1:na<=a.length)(h2:nb<=b.length):out.size+na+nb=a.length+b.length:=by have e:=h.pm.length_eq;simp at e;omega
theorem Mg.rev{o:yI}(h:Mg (λx y=>lt y x) a b o):Mg lt a b o.reverse:=⟨o.reverse_perm.trans h.pm,h.so.rev⟩
theorem Mg.comm{o:yI}(h:Mg lt b a o):Mg lt a b o:=⟨h.pm.trans qH7,h.so⟩
theorem zFQ(h:MH lt a b na nb out)(e:na=0∨nb=0):Mg lt a b (a.toArray.extract 0 na++b.toArray.extract 0 nb++out.reverse).toList:=by
 rw[jI,jI,zQS,zQS,fJ];rcases e with rfl|rfl
 ·have:=(MrgI.fin (ra:=(b.take nb).reverse) (by simpa using h.swap)).rev.comm;simpa using this
 ·unfold MH at h;have:=(MrgI.fin (ra:=(a.take na).reverse) (by simpa using h)).rev;simpa using this
theorem zFd(h:MH lt a b na nb out)(e:nb=1)(hb:0<b.length)(h0:∀x∈a,lt x b[0]=false):Mg lt a b (b.toArray.extract 0 nb++a.toArray.extract 0 na++out.reverse).toList:=by
 rw[jI,jI,zQS,zQS,fJ];subst e;have e1:b.take 1=[b[0]]:=by
  cases b with
  |nil=>simp at hb
  |cons x b=>simp
 have h':=h.swap;rw[e1]at h' ⊢;have:=(MrgI.last h' λy hy=>h0 y (qI0 (qI4.mp hy))).rev.comm;simpa using this
theorem hi_a(h:MH lt a b na nb out)(i1:na - 1<a.length)(i0:0<na)(k:∀y∈(b.take nb).reverse,lt a[na - 1] y=false):MH lt a b (na - 1) nb (out.push a[na - 1]):=by unfold MH at h ⊢;rw[zMS i1 i0]at h;rw[Array.toList_push];exact h.push λx hx=>by rw[qB7.mp hx];exact k
theorem zWJ(h:MH lt a b na nb out)(ht:t<=na)(hn:na<=a.length)(q:∀i,t<=i->(hi:i<na)->∀y∈(b.take nb).reverse,lt (a[i]'(by omega)) y=false):MH lt a b t nb (out++(a.toArray.extract t na).reverse):=by
 unfold MH at h ⊢;rw[zRW ht]at h;rw[jI,fJ,zLx];refine h.push λx hx=>?_;obtain⟨i,hi,e⟩:=qG5.mp (qI4.mp hx);have hi':t+i<na:=by simp at hi;omega
 rw[<- e];simpa using q (t+i) (by omega) hi'
end
section
variable {lt:yV->yV->Bool}{a b:yI}{na nb t:Nat}{out:Array yV}
theorem hi_b(h:MH lt a b na nb out)(i1:nb - 1<b.length)(i0:0<nb)(k:∀y∈(a.take na).reverse,lt b[nb - 1] y=false):MH lt a b na (nb - 1) (out.push b[nb - 1]) :=
 MrgI.swap (hi_a (MrgI.swap h) i1 i0 k)
theorem zZm(h:MH lt a b na nb out)(ht:t<=nb)(hn:nb<=b.length)(q:∀i,t<=i->(hi:i<nb)->∀y∈(a.take na).reverse,lt (b[i]'(by omega)) y=false):MH lt a b na t (out++(b.toArray.extract t nb).reverse) :=
 MrgI.swap (zWJ (MrgI.swap h) ht hn q)
structure Wh(lt:yV->yV->Bool)(a b:yI)(na nb:Nat)(out:Array yV):Prop where
 m:MH lt a b na nb out
 i:0<na
 j:1<nb
 i':na<a.length
 j':nb<=b.length
end
section
variable {prog:y7}{w:jD}{A:jE}{E:yL}{s:yS}{κ:v0}{lt:yV->yV->Bool}{G:yV->Prop}{st:jG}
abbrev HiC:=Option (Array yV)×Nat×Nat×Array yV×Nat×Nat×Nat
noncomputable abbrev HiM:=StateT jG Sem (ForInStep HiC)
noncomputable abbrev hiD(a b out:Array yV)(na nb:Nat):Array Keyed:=a.extract 0 na++b.extract 0 nb++out.reverse
noncomputable abbrev hiF(a b out:Array yV)(na nb:Nat):Array Keyed:=b.extract 0 nb++a.extract 0 na++out.reverse
noncomputable abbrev hiR(r out:Array yV)(na nb g p q:Nat):HiM:=pure (.done (some r,na,nb,out,g,p,q))
noncomputable def hi3(a b:Array yV)(g p q:Nat)(out:Array yV)(na nb:Nat):HiM:=mQ a (na - 1) >>= λv =>
 if(na - 1 == 0)=true then hiR (hiD a b (out.push v) (na - 1) nb) (out.push v) (na - 1) nb g p q
 else if(decide (p<7)&&decide (q<7))=true then pure (.done (none,na - 1,nb,out.push v,g,p,q))else pure (.yield (none,na - 1,nb,out.push v,g,p,q))
noncomputable def hi2b(a b:Array yV)(g p q:Nat)(out:Array yV)(na nb:Nat):yK->HiM
 | some k=>if nb - k>0 then(if(k == 1)=true then hiR (hiF a b (out++(b.extract k nb).reverse) na k) (out++(b.extract k nb).reverse) na k g p (nb - k)
   else if(k == 0)=true then hiR (hiD a b (out++(b.extract k nb).reverse) na k) (out++(b.extract k nb).reverse) na k g p (nb - k)else hi3 a b g p (nb - k) (out++(b.extract k nb).reverse) na k)else hi3 a b g p (nb - k) out na nb
 |_=>hiR (hiD a b out na nb) out na nb g p q
noncomputable def hi2(a b:Array yV)(g p q:Nat)(out:Array yV)(na nb:Nat):HiM:=mQ b (nb - 1) >>= λv =>
 if(nb - 1 == 1)=true then hiR (hiF a b (out.push v) na (nb - 1)) (out.push v) na (nb - 1) g p q
 else mQ a (na - 1) >>= λu=>gallop' true u b 0 (nb - 1) (nb - 1 - 1) >>= hi2b a b g p q (out.push v) na (nb - 1)
noncomputable def hi1b(a b:Array yV)(g p q:Nat)(out:Array yV)(na nb:Nat):yK->HiM
 |some k=>if na - k>0 then(if(k == 0)=true then hiR (hiD a b (out++(a.extract k na).reverse) k nb) (out++(a.extract k na).reverse) k nb g (na - k) q else hi2 a b g (na - k) q (out++(a.extract k na).reverse) k nb)else hi2 a b g (na - k) q out na nb
 |_=>hiR (hiD a b out na nb) out na nb g p q
noncomputable def hi1(a b:Array yV)(g p q:Nat)(out:Array yV)(na nb:Nat):HiM:=setG' g >>= λ_=>mQ b (nb - 1) >>= λv=>gallop' false v a 0 na (na - 1) >>= hi1b a b g p q out na nb
noncomputable def hi0(a b:Array yV)(c:HiC):HiM:=if c.2.2.2.2.1>1 then hi1 a b (c.2.2.2.2.1 - 1) c.2.2.2.2.2.1 c.2.2.2.2.2.2 c.2.2.2.1 c.2.1 c.2.2.1 else hi1 a b c.2.2.2.2.1 c.2.2.2.2.2.1 c.2.2.2.2.2.2 c.2.2.2.1 c.2.1 c.2.2.1
def HiQ(lt:yV->yV->Bool)(a b:yI)(st:jG)(x:Nat)(c:HiC)(st':jG):Prop:=Sg st st'/\((∃r o,c=(some r,o)/\Mg lt a b r.toList)∨∃na nb out g p q,c=(none,na,nb,out,g,p,q)/\Wh lt a b na nb out/\x+2<=out.size)
def HiI(lt:yV->yV->Bool)(a b:yI)(st:jG)(x:Nat)(c:HiC)(st':jG):Prop:=∃na nb out g p q,c=(none,na,nb,out,g,p,q)/\Sg st st'/\Wh lt a b na nb out/\x+2<=out.size
noncomputable abbrev HiP(lt:yV->yV->Bool)(a b:yI)(st:jG)(x:Nat):ForInStep HiC->jG->Prop:=λr st'=>match r with|.done c'=>HiQ lt a b st x c' st'|.yield c'=>HiI lt a b st x c' st'
section
variable {st0:jG}{a b:yI}{x g p q na nb:Nat}{out:Array yV}
theorem zQH{l:yI}{i:Nat}(hi:i<l.length):l.toArray[i]?=some l[i]:=by rw[qC7];exact qA4 hi
theorem zJg{r:Array yV}(hs:Sg st0 st)(h:Mg lt a b r.toList):wpS (yW prog w) A E s (hiR r out na nb g p q) (HiP lt a b st0 x) st:=yY ⟨hs,.inl ⟨_,_,rfl,h⟩⟩
theorem zLt(hs:Sg st0 st)(i3:0<na)(i4:na<a.length)(j4:1<nb)(j5:nb<=b.length)(hz:x+2<=out.size)(m4:MH lt a b (na - 1) nb (out.push (a[na - 1]'(by omega)))):wpS (yW prog w) A E s (hi3 a.toArray b.toArray g p q out na nb) (HiP lt a b st0 x) st:=by
 refine yT (zAm (zQH (i:=na - 1) (by omega)) (zBF (λe7=>zJg hs (zFQ m4 (.inl (by simpa using e7)))) λe7=>?_));have w5:Wh lt a b (na - 1) nb _:=⟨m4,by simp at e7;omega,j4,by omega,j5⟩
 exact zBF (λ_=>yY ⟨hs,.inr ⟨_,_,_,_,_,_,rfl,w5,by simp;omega⟩⟩) λ_=>yY ⟨_,_,_,_,_,_,rfl,hs,w5,by simp;omega⟩
theorem zLu(hO:Swo lt)(hA:Asks prog w A s κ lt G)(hk:kindOf st0=κ)(ga:∀x∈a,G x)(gb:∀x∈b,G x)(sa:Srt lt a)(sb:Srt lt b)(hb:0<b.length)(h0:∀x∈a,lt x b[0]=false)(hs:Sg st0 st)(i3:0<na)(i4:na<a.length)(j1:1<nb)(j2:nb<=b.length)(hz:x+2<=out.size)(mk:MH lt a b na nb out)(ck:∀y∈(a.take na).reverse,lt (b[nb - 1]'(by omega)) y=false):wpS (yW prog w) A E s (hi2 a.toArray b.toArray g p q out na nb) (HiP lt a b st0 x) st:=by
 have m3:=hi_b mk (by omega) (by omega) ck;refine yT (zAm (zQH (i:=nb - 1) (by omega)) (zBF (λe5=>zJg hs (zFd m3 (by simpa using e5) hb h0)) λe5=>?_));have j3:1<nb - 1:=by simp at e5;omega
 refine yT (zAm (zQH (i:=na - 1) (by omega)) (yT (zHc hO hA (hs.k.trans hk) (ga _ (qD7 _)) gb (sb.sublist ((qF8 ..).trans (qG7 ..))) (by omega) (by omega) λk k1 k2 k3=>?_)));simp only[qL9]at k2 k3;have mk2:MH lt a b na k ((out.push (b[nb - 1]'(by omega)))++(b.toArray.extract k (nb - 1)).reverse) :=
  zZm m3 k1 (by omega) λi hi1 hi=>zGh hO sa (by omega) (by simpa[bq]using k3 i hi1 hi)
 have ck2:0<k->∀y∈(b.take k).reverse,lt (a[na - 1]'(by omega)) y=false:=λhl=>zGh hO sb (by omega) (hO.as _ _ (by simpa[bq]using k2 (k - 1) (by omega) (by omega)));refine zBF (λhk1=>zBF (λe6=>zJg hs (zFd mk2 (by simpa using e6) hb h0)) λe6=>zBF (λe8=>zJg hs (zFQ mk2 (.inr (by simpa using e8)))) λe8=>?_) λhk1=>?_
 ·exact zLt hs i3 i4 (by simp at e6 e8;omega) (by omega) (by simp;omega) (hi_a mk2 (by omega) i3 (ck2 (by simp at e8;omega)))
 ·have e0:k=nb - 1:=by omega
  subst e0;exact zLt hs i3 i4 j3 (by omega) (by simp;omega) (hi_a m3 (by omega) i3 (ck2 (by omega)))
theorem zQI(hO:Swo lt)(hA:Asks prog w A s κ lt G)(hk:kindOf st0=κ)(ga:∀x∈a,G x)(gb:∀x∈b,G x)(sa:Srt lt a)(sb:Srt lt b)(hb:0<b.length)(h0:∀x∈a,lt x b[0]=false)(hs:Sg st0 st)(W:Wh lt a b na nb out)(hsz:x+2<=out.size):wpS (yW prog w) A E s (hi1 a.toArray b.toArray g p q out na nb) (HiP lt a b st0 x) st:=by
 obtain⟨m,i1,j1,i2,j2⟩:=W;refine yT (zMK λst4 s4=>?_);have hs4:=hs.trans s4;refine yT (zAm (zQH (i:=nb - 1) (by omega)) (yT (zHc hO hA (hs4.k.trans hk) (gb _ (qD7 _)) ga (sa.sublist ((qF8 ..).trans (qG7 ..))) (by omega) (by omega) λk k1 k2 k3=>?_)));simp only[qL9]at k2 k3;have mk:MH lt a b k nb (out++(a.toArray.extract k na).reverse):=zWJ m k1 (by omega) λi hi1 hi=>zGh hO sb (by omega) (hO.as _ _ (by simpa[bq]using k3 i hi1 hi));have ck:0<k->∀y∈(a.take k).reverse,lt (b[nb - 1]'(by omega)) y=false:=λhl=>zGh hO sa (by omega) (by simpa[bq]using k2 (k - 1) (by omega) (by omega));refine zBF (λhk0=>zBF (λe3=>zJg hs4 (zFQ mk (.inl (by simpa using e3)))) λe3=>?_) λhk0=>?_
 ·exact zLu hO hA hk ga gb sa sb hb h0 hs4 (by simp at e3;omega) (by omega) j1 j2 (by rw[Array.size_append];omega) mk (ck (by simp at e3;omega))
 ·have e0:k=na:=by omega
  subst e0;exact zLu hO hA hk ga gb sa sb hb h0 hs4 i1 i2 j1 j2 hsz m (ck i1)
end
theorem zQ8{a b:yI}{Q:Array yV->jG->Prop}(hO:Swo lt)(hA:Asks prog w A s κ lt G)(hk:kindOf st=κ)(ga:∀x∈a,G x)(gb:∀x∈b,G x)(sa:Srt lt a)(sb:Srt lt b)
  (ha:0<a.length) (hb:0<b.length) (h0:∀x∈a,lt x b[0]=false) (hl:∀y∈b,lt (a[a.length - 1]'(by omega)) y=false)
  (h:∀out st',Sg st st'->Mg lt a b out.toList->Q out st'):wpS (yW prog w) A E s (mergeHi' a.toArray b.toArray) Q st:=by
 have geA:∀i,(hi:i<a.length)->a.toArray[i]?=some a[i]:=λi hi=>by rw[qC7];exact qA4 hi
 have geB:∀i,(hi:i<b.length)->b.toArray[i]?=some b[i]:=λi hi=>by rw[qC7];exact qA4 hi
 refine yT (gA (vM ⟨rfl,?_⟩))
 (try dsimp only)
 rw[show a.toArray.size=a.length from rfl,show b.toArray.size=b.length from rfl];refine yT (zAm (geA (a.length - 1) (by omega)) ?_)
 (try dsimp only)
 have m0:MH lt a b a.length b.length #[]:=by
  refine⟨?_,.nil,?_,?_,λx hx=>(by simp at hx),λx hx=>(by simp at hx)⟩
  ·simpa using(a.reverse_perm.append b.reverse_perm)
  ·rw[qH5];exact qJ2.mpr sa
  ·rw[qH5];exact qJ2.mpr sb
 have m1:MH lt a b (a.length - 1) b.length #[a[a.length - 1]]:=hi_a m0 (by omega) ha λy hy=>hl y (qI0 (qI4.mp hy));by_cases e1:(a.length - 1 == 0)=true
 ·rw[if_pos e1];exact yY (h _ _ (.rfl _) (zFQ m1 (.inl (by simpa using e1))))
 rw[if_neg e1];by_cases e2:(b.length == 1)=true
 ·rw[if_pos e2];exact yY (h _ _ (.rfl _) (zFd m1 (by simpa using e2) hb h0))
 rw[if_neg e2];have w1:Wh lt a b (a.length - 1) b.length #[a[a.length - 1]]:=⟨m1,by simp at e1;omega,by simp at e2;omega,by omega,by omega⟩
 refine yT (fV ?_);refine yT (vD (jU (I:=λx c st'=>∃na nb out g,c=(none,na,nb,out,g)/\Sg st st'/\Wh lt a b na nb out/\x+1<=out.size)
  (Q:=λc st'=>∃r o,c=(some r,o)/\Sg st st'/\Mg lt a b r.toList) ?_ ?_ ⟨_,_,_,_,rfl,.rfl _,w1,by simp⟩) ?_)
 ·rintro x c st1 _ hx ⟨na,nb,out,g,rfl,hs,W,hsz⟩;dsimp only;have hk1:kindOf st1=κ:=hs.k.trans hk;refine yT (vD (jU (I:=λy c st'=>∃na nb out p q,c=(none,na,nb,out,p,q)/\st'=st1/\Wh lt a b na nb out/\x+1+y<=out.size)
   (Q:=λc st'=>st'=st1/\((∃r o,c=(some r,o)/\Mg lt a b r.toList)∨∃na nb out p q,c=(none,na,nb,out,p,q)/\Wh lt a b na nb out/\x+2<=out.size)) ?_ ?_ ⟨_,_,_,_,_,rfl,rfl,W,by omega⟩) ?_)
  ·rintro y c st2 _ hy ⟨na,nb,out,p,q,rfl,rfl,⟨m,i1,j1,i2,j2⟩,hsz⟩;dsimp only;refine yT (zAm (geB (nb - 1) (by omega)) (yT (zAm (geA (na - 1) (by omega)) (yT (zML hA hk1 (gb _ (qD7 _)) (ga _ (qD7 _)) ?_)))));cases e:lt b[nb - 1] a[na - 1]with
   |true =>
    refine yT (zAm (geA (na - 1) (by omega)) ?_);have m2:=hi_a m (by omega) i1 (zGh hO sb (by omega) (hO.as _ _ e));by_cases e3:(na - 1 == 0)=true
    ·rw[if_pos e3];exact yY ⟨rfl,.inl ⟨_,_,rfl,zFQ m2 (.inl (by simpa using e3))⟩⟩
    rw[if_neg e3];have w2:Wh lt a b (na - 1) nb (out.push a[na - 1]):=⟨m2,by simp at e3;omega,j1,by omega,j2⟩
    split
    ·exact yY ⟨rfl,.inr ⟨_,_,_,_,_,rfl,w2,by simp;omega⟩⟩
    ·exact yY ⟨_,_,_,_,_,rfl,rfl,w2,by simp;omega⟩
   |false =>
    refine yT (zAm (geB (nb - 1) (by omega)) ?_);have m2:=hi_b m (by omega) (by omega) (zGh hO sa (by omega) e);by_cases e3:(nb - 1 == 1)=true
    ·rw[if_pos e3];exact yY ⟨rfl,.inl ⟨_,_,rfl,zFd m2 (by simpa using e3) hb h0⟩⟩
    rw[if_neg e3];have w2:Wh lt a b na (nb - 1) (out.push b[nb - 1]):=⟨m2,i1,by simp at e3;omega,i2,by omega⟩
    split
    ·exact yY ⟨rfl,.inr ⟨_,_,_,_,_,rfl,w2,by simp;omega⟩⟩
    ·exact yY ⟨_,_,_,_,_,rfl,rfl,w2,by simp;omega⟩
  ·rintro c st2 ⟨na,nb,out,p,q,rfl,rfl,W,hsz⟩;exact⟨rfl,.inr ⟨_,_,_,_,_,rfl,W,by simp at hsz;omega⟩⟩
  rintro c st2 ⟨rfl,⟨r,o,rfl,hr⟩| ⟨na,nb,out,p,q,rfl,W,hsz⟩⟩
  ·exact yY ⟨r,_,rfl,hs,hr⟩
  dsimp only;refine yT (gA (vM ⟨rfl,?_⟩));refine yT (vD (zFR (f':=λ_ c=>hi0 a.toArray b.toArray c) (by kernel_rfl) (λ_=>HiI lt a b st x) (Q:=HiQ lt a b st x) ?_ ?_ ⟨_,_,_,_,_,_,rfl,hs,W,hsz⟩) ?_)
  ·rintro y c st3 _ _ ⟨na,nb,out,g,p,q,rfl,hs3,W,hsz⟩;have h1:∀g,wpS (yW prog w) A E s (hi1 a.toArray b.toArray g p q out na nb) (HiP lt a b st x) st3:=λg=>zQI hO hA hk ga gb sa sb hb h0 hs3 W hsz;exact vD (zBF (λ_=>h1 _) λ_=>h1 _) λr st' h=>by cases r<;>exact h
  ·rintro c st2 ⟨na,nb,out,g,p,q,rfl,hs3,W,hsz⟩;exact⟨hs3,.inr ⟨_,_,_,_,_,_,rfl,W,hsz⟩⟩
  rintro c st3 ⟨hs3,⟨r,o,rfl,hr⟩| ⟨na,nb,out,g,p,q,rfl,W,hsz⟩⟩
  ·exact yY ⟨r,_,rfl,hs3,hr⟩
  dsimp only;exact yT (wH (yY ⟨_,_,_,_,rfl,⟨hs3.k,hs3.a,hs3.p,hs3.f⟩,W,by omega⟩))
 ·rintro c st1 ⟨na,nb,out,g,rfl,hs,W,hsz⟩;have:=zWI W.m (by have:=W.i';omega) W.j';have:=W.i;have:=W.j;simp at hsz;omega
 ·rintro c st1 ⟨r,o,rfl,hs,hr⟩;exact yY (h r st1 hs hr)
end
noncomputable abbrev Pend:=Nat×Nat×Nat
noncomputable abbrev SS(κ:v0)(l:yI)(p:List Pend)(g:Nat):SortSt:=SortSt.mk' κ l.toArray p.toArray g none
theorem Sg.ss{κ:v0}{l:yI}{p:List Pend}{g:Nat}{st':jG}(h:Sg (SS κ l p g) st'):∃g',st'=SS κ l p g':=by obtain⟨k,a,b,c⟩:=h;cases st';cases k;cases a;cases b;cases c;exact⟨_,Eq.refl _⟩
theorem zRM{M:mZ}{A:jE}{E:yL}{s:yS}{Z:Type}{Q:PUnit->Z->Prop}{st st2:Z}(h:Q ⟨⟩ st2):wpS M A E s (set st2:StateT Z Sem PUnit) Q st:=by unfold wpS;rw[StateT.run_set];exact yP ⟨rfl,h⟩
theorem zPU(p1 p2:List Pend)(u v z:Pend):((p1++u::v::p2).toArray.setIfInBounds p1.length z).eraseIdxIfInBounds (p1.length+1)=(p1++z::p2).toArray:=by apply fD;rw[Array.eraseIdxIfInBounds_eq];simp[List.eraseIdx_append_of_length_le]
theorem zRJ(pre M post:yI):∀(N:yI) (i:Nat) (pr:yI),pr.length=pre.length+i->N.length=M.length ->
  (M.zipIdx i).foldl (fun(a:Array yV) (q:yV×Nat)=>a.setIfInBounds (pre.length+q.2) q.1) (pr++(N++post)).toArray=(pr++(M++post)).toArray:=by
 induction M with
 |nil=>intro N i pr h1 h2;have:N=[]:=qI5.mp h2;subst this;rfl
 |cons m M ih =>
  intro N i pr h1 h2;cases N with
  |nil=>simp at h2
  |cons n N =>
   rw[qQ7,qL7];have e:((pr++(n::N++post)).toArray.setIfInBounds (pre.length+i) m)=((pr++[m])++(N++post)).toArray:=by rw[<- h1];apply fD;simp
   show List.foldl _ ((pr++(n::N++post)).toArray.setIfInBounds (pre.length+i) m) _=_;rw[e,ih N (i+1) (pr++[m]) (by simp;omega) (by simpa using h2)];simp
theorem zZj{lt:yV->yV->Bool}{X Y M:yI}{k n:Nat}{y0 xl:yV}(hO:Swo lt)(sx:Srt lt X)(sy:Srt lt Y)(h0:∀y∈Y,lt y y0=false)(hl:∀x∈X,lt xl x=false)
  (c1:∀x∈X.take k,lt y0 x=false) (c2:∀y∈Y.drop n,lt y xl=false) (hM:Mg lt (X.drop k) (Y.take n) M):Mg lt X Y (X.take k++(M++Y.drop n)):=by
 have sX:Srt lt (X.take k++X.drop k):=by rw[qC9];exact sx
 have sY:Srt lt (Y.take n++Y.drop n):=by rw[qC9];exact sy
 obtain⟨x1,x2,x3⟩:=qC2.mp sX;obtain⟨y1,y2,y3⟩:=qC2.mp sY;refine⟨?_,qC2.mpr ⟨x1,qC2.mpr ⟨hM.so,y2,λm hm y hy=>?_⟩,λx hx m hm=>?_⟩⟩
 ·have e:X++Y=X.take k++(X.drop k++Y.take n++Y.drop n):=by rw[qB6,qC9,<- qB6,qC9]
  rw[e];exact(List.Perm.refl _).append (hM.pm.append (List.Perm.refl _))
 ·rcases qB9.mp (hM.pm.mem_iff.mp hm)with hm|hm
  ·exact hO.tr m xl y (hl m (qH9 hm)) (c2 y hy)
  ·exact y3 m hm y hy
 ·have q:∀y∈Y,lt y x=false:=λy hy=>hO.tr x y0 y (c1 x hx) (h0 y hy);rcases qB9.mp hm with hm|hm
  ·rcases qB9.mp (hM.pm.mem_iff.mp hm)with hm|hm
   ·exact x3 x hx m hm
   ·exact q m (qI0 hm)
  ·exact q m (qH9 hm)
theorem zDR{l:yI}{n:Nat}{x:yV}(h:x∈l.take n):∃i,∃hi:i<l.length,i<n/\l[i]=x:=by obtain⟨i,hi,e⟩:=qG5.mp h;refine⟨i,by simp at hi;omega,by simp at hi;omega,by simpa using e⟩
theorem zDS{l:yI}{n:Nat}{x:yV}(h:x∈l.drop n):∃i,∃hi:i<l.length,n<=i/\l[i]=x:=by obtain⟨i,hi,e⟩:=qG5.mp h;refine⟨n+i,by simp at hi;omega,by omega,by simpa using e⟩
theorem zOr{lt:yV->yV->Bool}{l:yI}(hO:Swo lt)(sl:Srt lt l)(h:0<l.length):∀y∈l,lt y l[0]=false:=λy hy=>zEj hO sl h (hO.rf _) y (by simpa using hy)
theorem zHH{lt:yV->yV->Bool}{l:yI}(hO:Swo lt)(sl:Srt lt l)(h:0<l.length):∀y∈l,lt (l[l.length - 1]'(by omega)) y=false:=λy hy=>zGh (nb:=l.length) hO sl (by omega) (hO.rf _) y (by simpa using hy)
section
variable {prog:y7}{w:jD}{A:jE}{E:yL}{s:yS}{κ:v0}{lt:yV->yV->Bool}{G:yV->Prop}{st:jG}
theorem zQ9{pre X Y post:yI}{p1 p2:List Pend}{pw q g i sb:Nat}{Q:Bool->jG->Prop}(hO:Swo lt)(hA:Asks prog w A s κ lt G)(gl:∀x∈pre++(X++(Y++post)),G x)(sx:Srt lt X)(sy:Srt lt Y)(hx:0<X.length)(hy:0<Y.length)(hsb:sb=pre.length+X.length)(hi:i=p1.length)
  (h:∀ZZ g',Mg lt X Y ZZ->Q true (SS κ (pre++(ZZ++post)) (p1++(pre.length,X.length+Y.length,pw)::p2) g')) :
  wpS (yW prog w) A E s (mergeAt' i) Q (SS κ (pre++(X++(Y++post))) (p1++(pre.length,X.length,pw)::(sb,Y.length,q)::p2) g):=by
 subst hi hsb;have ga:∀j x,(pre++(X++(Y++post)))[j]?=some x->(pre++(X++(Y++post))).toArray[j]?=some x:=λj x e=>by rw[qC7];exact e
 refine yT (fV ?_);have e1:(p1++(pre.length,X.length,pw)::(pre.length+X.length,Y.length,q)::p2).toArray[p1.length]?=some (pre.length,X.length,pw):=by simp
 have e2:(p1++(pre.length,X.length,pw)::(pre.length+X.length,Y.length,q)::p2).toArray[p1.length+1]?=some (pre.length+X.length,Y.length,q):=by simp
 dsimp only[SS];rw[e1,e2];dsimp only;rw[zPU];refine yT (zRM ?_);have gY:∀j,(hj:j<Y.length)->(pre++(X++(Y++post)))[pre.length+X.length+j]?=some Y[j]:=λj hj=>by rw[qA0 (by omega),qA0 (by omega),qA7 (by omega),<- qA4 hj];congr 1;omega
 have gX:∀j,(hj:j<X.length)->(pre++(X++(Y++post)))[pre.length+j]?=some X[j]:=λj hj=>by rw[qA0 (by omega),qA7 (by omega),<- qA4 hj];congr 1;omega
 have hlen:(pre++(X++(Y++post))).length=pre.length+X.length+Y.length+post.length:=by simp;omega
 have gY':∀j,(hj:j<Y.length)->(pre++(X++(Y++post)))[pre.length+X.length+j]'(by omega)=Y[j]:=λj hj=>(qA3.mp (gY j hj)).2;have gX':∀j,(hj:j<X.length)->(pre++(X++(Y++post)))[pre.length+j]'(by omega)=X[j]:=λj hj=>(qA3.mp (gX j hj)).2;have dX:((pre++(X++(Y++post))).drop pre.length).take X.length=X:=by simp
 have dY:((pre++(X++(Y++post))).drop (pre.length+X.length)).take Y.length=Y:=by rw[<- qB6,<- qC3];simp
 have inl:∀x∈X,G x:=λx hx=>gl x (by simp[hx]);have inr:∀x∈Y,G x:=λx hx=>gl x (by simp[hx]);have fin:∀g',Mg lt X Y (X++Y)->Q true (SS κ (pre++(X++(Y++post))) (p1++(pre.length,X.length+Y.length,pw)::p2) g'):=λg' hm=>by have:=h (X++Y) g' hm;rwa[qB6]at this
 refine yT (zAm (ga (pre.length+X.length) Y[0] (gY 0 hy)) ?_);refine yT (zHc hO hA rfl (inr _ (qD7 _)) gl (by rw[dX];exact sx) (by omega) hx λk k1 k2 k3=>?_);dsimp only;have c1:∀x∈X.take k,lt Y[0] x=false:=λx hx=>by obtain⟨i,hi,hik,rfl⟩:=zDR hx;have:=k2 i hik hi;rw[gX' i hi]at this;simpa[bq]using this
 have h0:=zOr hO sy hy;have hl:=zHH hO sx hx;by_cases e3:(X.length - k == 0)=true
 ·rw[if_pos e3];have hk:X.length<=k:=by simp at e3;omega
  refine yY (fin _ ⟨.refl _,qC2.mpr ⟨sx,sy,λx hx' y hy'=>hO.tr x Y[0] y (c1 x ?_) (h0 y hy')⟩⟩);rw[qH1 hk];exact hx'
 rw[if_neg e3];have hk:k<X.length:=by simp at e3;omega
 rw[show pre.length+k+(X.length - k) - 1=pre.length+(X.length - 1) by omega];refine yT (zAm (ga _ (X[X.length - 1]) (gX (X.length - 1) (by omega))) ?_);refine yT (zHc hO hA rfl (inl _ (qD7 _)) gl (by rw[dY];exact sy) (by omega) (by omega) λn n1 n2 n3=>?_);dsimp only;have c2:∀y∈Y.drop n,lt y X[X.length - 1]=false:=λy hy'=>by obtain⟨i,hi,hik,rfl⟩:=zDS hy';have:=n3 i hik hi;rw[gY' i hi]at this;simpa[bq]using this
 by_cases e4:(n == 0)=true
 ·rw[if_pos e4];have hn:n=0:=by simpa using e4
  subst hn;exact yY (fin _ ⟨.refl _,qC2.mpr ⟨sx,sy,λx hx' y hy'=>hO.tr x _ y (hl x hx') (c2 y (by simpa using hy'))⟩⟩)
 rw[if_neg e4];have hn:0<n:=by simp at e4;omega
 have x2:(pre++(X++(Y++post))).toArray.extract (pre.length+k) (pre.length+X.length)=(X.drop k).toArray:=by apply fD;rw[zLx,<- qO7];simp only[qR7];rw[List.drop_append_of_le_length (by omega),qL5 (by simp;omega)];exact qH1 (by simp;omega)
 have y1:(pre++(X++(Y++post))).toArray.extract (pre.length+X.length) (pre.length+X.length+n)=(Y.take n).toArray:=by apply fD;rw[zLx,<- qO7];simp only[qR7];rw[show pre.length+X.length+n - (pre.length+X.length)=n by omega,qL5 n1]
 rw[x2,y1];have f0:∀x∈X.drop k,lt x ((Y.take n)[0]'(by simp;omega))=false:=λx hx'=>by
  obtain⟨i,hi,hik,rfl⟩:=zDS hx';have:=k3 i hik hi;rw[gX' i hi]at this;have e:(Y.take n)[0]'(by simp;omega)=Y[0]:=by simp
  rw[e];exact hO.as _ _ (by simpa[bq]using this)
 have fl:∀y∈Y.take n,lt ((X.drop k)[(X.drop k).length - 1]'(by simp;omega)) y=false:=λy hy'=>by
  obtain⟨i,hi,hik,rfl⟩:=zDR hy';have:=n2 i hik hi;rw[gY' i hi]at this;have e:(X.drop k)[(X.drop k).length - 1]'(by simp;omega)=X[X.length - 1]:=by simp only[qM6];congr 1;simp;omega
  rw[e];exact hO.as _ _ (by simpa[bq]using this)
 have after:∀(out:Array yV) g',Mg lt (X.drop k) (Y.take n) out.toList->Q true (SS κ (pre++((X.take k++(out.toList++Y.drop n))++post)) (p1++(pre.length,X.length+Y.length,pw)::p2) g'):=λout g' hm=>h _ g' (zZj hO sx sy h0 hl c1 c2 hm);have fo:∀(out:Array yV),Mg lt (X.drop k) (Y.take n) out.toList->out.toList.zipIdx.foldl (fun(a:Array yV) (x:yV×Nat)=>a.setIfInBounds (pre.length+k+x.2) x.1) (pre++(X++(Y++post))).toArray=(pre++((X.take k++(out.toList++Y.drop n))++post)).toArray:=λout hm=>by
  have e:=zRJ (pre++X.take k) out.toList (Y.drop n++post) (X.drop k++Y.take n) 0 (pre++X.take k) (by simp) hm.pm.length_eq.symm;have e5:(pre++X.take k).length=pre.length+k:=by simp;omega
  have e6:pre++X.take k++(X.drop k++Y.take n++(Y.drop n++post))=pre++(X++(Y++post)):=by
   conv=>rhs;rw[<- qC9 k X,<- qC9 n Y]
   simp only[qB6]
  have e7:pre++X.take k++(out.toList++(Y.drop n++post))=pre++((X.take k++(out.toList++Y.drop n))++post):=by simp only[qB6]
  rw[e5,e6,e7]at e;exact e
 by_cases hc:X.length - k<=n
 case' pos =>
  rw[if_pos hc];refine yT (zQ7 (a:=X.drop k) (b:=Y.take n) hO hA rfl (λx hx'=>inl x (qH9 hx')) (λx hx'=>inr x (qI0 hx')) (sx.sublist (qG7 ..)) (sy.sublist (qF8 ..)) (by simp;omega) (by simp;omega) f0 fl λout st' hs hm=>?_)
 case' neg =>
  rw[if_neg hc];refine yT (zQ8 (a:=X.drop k) (b:=Y.take n) hO hA rfl (λx hx'=>inl x (qH9 hx')) (λx hx'=>inr x (qI0 hx')) (sx.sublist (qG7 ..)) (sy.sublist (qF8 ..)) (by simp;omega) (by simp;omega) f0 fl λout st' hs hm=>?_)
 all_goals
  obtain⟨g',rfl⟩:=hs.ss;refine yT (wH (yT (fV (yY ?_))));have:=after out g' hm;rw[SS,<- fo out hm]at this;exact this
end
theorem zM7(P T U:yI):mirror (P++(T++U)).toArray P.length (P.length+T.length) ((P.length+T.length - P.length) / 2)=(P++(T.reverse++U)).toArray:=by
 apply Array.ext_getElem?;intro k;rw[getElem?_mirror_all (by simp)];simp only[qC7];by_cases h:P.length<=k/\k<P.length+T.length
 ·rw[if_pos h,qA0 (by omega),qA7 (by omega),qA0 (by omega),qA7 (by simp;omega),List.getElem?_reverse (by omega)];congr 1;omega
 ·rw[if_neg h];by_cases h1:k<P.length
  ·rw[qA7 h1,qA7 h1]
  ·rw[qA0 (by omega),qA0 (by omega),qA0 (by omega),qA0 (by simp;omega)];simp
theorem zMu(P T U:yI)(e:yV):bubble (P++(T++(e::U))).toArray (P.length+T.length) T.length=(P++(e::(T++U))).toArray:=by
 apply Array.ext_getElem?;intro k;rw[getElem?_bubble (by simp) _ (by omega)];simp only[qC7,qP6];by_cases h:k=P.length
 ·rw[if_pos h,qA0 (by omega),qA0 (by omega),qA0 (by omega),h];simp
 ·rw[if_neg h];by_cases h1:P.length<k/\k<=P.length+T.length
  ·rw[if_pos h1,qA0 (by omega),qA7 (by omega),qA0 (by omega)];obtain⟨m,rfl⟩:∃m,k=P.length+m+1:=⟨k - P.length - 1,by omega⟩
   rw[show P.length+m+1 - P.length=m+1 by omega,qD6,qA7 (by omega)];congr 1;omega
  ·rw[if_neg h1];by_cases h2:k<P.length
   ·rw[qA7 h2,qA7 h2]
   ·obtain⟨m,rfl⟩:∃m,k=P.length+T.length+m+1:=⟨k - P.length - T.length - 1,by omega⟩
    rw[qA0 (by omega),qA0 (by omega),qA0 (by omega),show P.length+T.length+m+1 - P.length - T.length=m+1 by omega,show P.length+T.length+m+1 - P.length=T.length+m+1 by omega,qD6,qD6,qA0 (by omega)];congr 1;omega
section
variable {prog:y7}{w:jD}{A:jE}{E:yL}{s:yS}{κ:v0}{lt:yV->yV->Bool}{G:yV->Prop}{p:List Pend}{g:Nat}
theorem zMM{l:yI}{i j:Nat}{x y:yV}{Q:Option Bool->jG->Prop}(hA:Asks prog w A s κ lt G)(gl:∀x∈l,G x)(hx:l[i]?=some x)(hy:l[j]?=some y)(h:Q (some (lt x y)) (SS κ l p g)):wpS (yW prog w) A E s (ltAt' i j) Q (SS κ l p g):=by rw[ltAt'_eq];refine yT (fV ?_);refine yT (zAm (show l.toArray[i]?=some x by rw[qC7];exact hx) (yT (zAm (show l.toArray[j]?=some y by rw[qC7];exact hy) ?_)));exact zML hA rfl (gl x (qB5 hx)) (gl y (qB5 hy)) h
theorem zIB{P T U:yI}{i j:Nat}{Q:Unit->jG->Prop}(hi:i=P.length)(hj:j=P.length+T.length)(h:Q () (SS κ (P++(T.reverse++U)) p g)):wpS (yW prog w) A E s (mR i j) Q (SS κ (P++(T++U)) p g):=by
 subst hi hj;rw[reverseSlice'_eq];refine wH ?_;have e:setArr (SS κ (P++(T++U)) p g) (mirror (arrOf (SS κ (P++(T++U)) p g)) P.length (P.length+T.length) ((P.length+T.length - P.length) / 2))=SS κ (P++(T.reverse++U)) p g:=by show SortSt.mk' κ (mirror (P++(T++U)).toArray _ _ _) _ _ _=_;rw[zM7]
 rw[e];exact h
theorem zRR{P T U:yI}{e:yV}{i j:Nat}{Q:Unit->jG->Prop}(hi:i=P.length+T.length)(hj:j=P.length)(h:Q () (SS κ (P++(e::(T++U))) p g)):wpS (yW prog w) A E s (moveDown' i j) Q (SS κ (P++(T++(e::U))) p g):=by
 subst hi hj;rw[moveDown'_eq];refine wH ?_;have e1:setArr (SS κ (P++(T++(e::U))) p g) (bubble (arrOf (SS κ (P++(T++(e::U))) p g)) (P.length+T.length) (P.length+T.length - P.length))=SS κ (P++(e::(T++U))) p g:=by show SortSt.mk' κ (bubble (P++(T++(e::U))).toArray _ _) _ _ _=_;rw[qK6,zMu]
 rw[e1];exact h
theorem zLL{pre D U:yI}{lo n:Nat}{Q:Option (yK)×Nat->jG->Prop}(hO:Swo lt)(hA:Asks prog w A s κ lt G)(gl:∀x∈pre++(D++U),G x)(hlo:lo=pre.length)(hn:n=D.length+U.length)(hD:0<D.length)(sD:Srt lt D)
  (h:∀V W,U=V++W->Srt lt (D++V)->(W=[]∨∃e W',W=e::W'/\∃z,(D++V)[(D++V).length - 1]?=some z/\lt e z=true)->Q (none,D.length+V.length) (SS κ (pre++(D++U)) p g)) :
  wpS (yW prog w) A E s (forIn [D.length:n] (none,D.length) λ_ (c:Option (yK)×Nat)=>ltAt' (lo+c.2) (lo+c.2 - 1) >>= λr=>match r with
   |some smaller=>if smaller=true then pure (ForInStep.done (none,c.2))else pure (ForInStep.yield (none,c.2+1))
   | _=>pure (ForInStep.done (some none,c.2))) Q (SS κ (pre++(D++U)) p g):=by
 subst hlo hn;refine jU (I:=λx c st'=>st'=SS κ (pre++(D++U)) p g/\c=(none,x)/\∃V W,U=V++W/\x=D.length+V.length/\Srt lt (D++V)) ?_ ?_ ⟨rfl,rfl,[],U,rfl,rfl,by simpa using sD⟩
 ·rintro x c st' _ hx ⟨rfl,rfl,V,W,rfl,rfl,sV⟩;dsimp only;cases W with
  |nil=>simp at hx
  |cons e W =>
   have hz:(D++V).length - 1<(D++V).length:=by simp;omega
   obtain⟨z,ez⟩:∃z,(D++V)[(D++V).length - 1]?=some z:=⟨_,qA4 hz⟩
   have ez':=ez;rw[qC3]at ez';refine yT (zMM hA gl (x:=e) (y:=z) ?_ ?_ ?_)
   ·rw[qA0 (by omega),qA0 (by omega),qA0 (by omega)];rw[show pre.length+(D.length+V.length) - pre.length - D.length - V.length=0 by omega];rfl
   ·rw[<- qB6 D,qA0 (by omega),qA7 (by simp;omega),<- ez'];congr 1;omega
   ·cases e1:lt e z with
    |true=>exact yY (h V (e::W) rfl sV (.inr ⟨e,W,rfl,z,ez,e1⟩))
    |false =>
     refine yY ⟨rfl,rfl,V++[e],W,by simp,by simp;omega,?_⟩;rw[<- qB6];refine qC2.mpr ⟨sV,qE4 ..,λu hu v hv=>?_⟩;have:=qB7.mp hv;subst this;have q:=zHH hO sV (by simp;omega) u hu;rw[<- (qA3.mp ez).2]at e1;exact hO.tr _ _ _ q e1
 ·rintro c st' ⟨rfl,rfl,V,W,rfl,hx,sV⟩;have:W=[]:=by
   cases W with
   |nil=>rfl
   |cons e W=>simp at hx
  subst this;rw[hx];exact h V [] rfl sV (.inl rfl)
end
structure Dsc(lt:yV->yV->Bool)(R D1 T U:yI):Prop where
 pm:(D1++(T++U)).Perm R
 ds:Srt (λx y=>lt y x) (D1++T)
 t0:0<T.length
 eq:∀u∈T,∀v∈T,lt u v=false
section
variable {lt:yV->yV->Bool}{R D1 T U:yI}{e t:yV}
theorem Dsc.last(h:Dsc lt R D1 T (e::U))(hO:Swo lt)(ht:(D1++T)[(D1++T).length - 1]?=some t)(k:lt t e=false):∀d∈D1++T,lt d e=false:=by intro d hd;have q:=zHH (lt:=λx y=>lt y x) hO.flip h.ds (by have:=h.t0;simp;omega) d hd;rw[(qA3.mp ht).2]at q;exact hO.tr e t d k q
theorem Dsc.rev(h:Dsc lt R D1 T U):Srt (λx y=>lt y x) (D1++T.reverse):=by obtain⟨a,b,c⟩:=qC2.mp h.ds;refine qC2.mpr ⟨a,qK9 λu hu v hv=>h.eq u (by simpa using hu) v (by simpa using hv),λx hx y hy=>c x hx y (by simpa using hy)⟩
theorem Dsc.one(h:Dsc lt R D1 T (e::U))(q:∀d∈D1++T,lt d e=false)(hO:Swo lt):Dsc lt R (D1++T) [e] U:=by
 refine⟨by simpa using h.pm,qC2.mpr ⟨h.ds,qE4 ..,λx hx y hy=>?_⟩,by simp,λu hu v hv=>?_⟩
 ·rw[qB7.mp hy];exact q x hx
 ·rw[qB7.mp hu,qB7.mp hv];exact hO.rf _
theorem Dsc.oneR(h:Dsc lt R D1 T (e::U))(q:∀d∈D1++T,lt d e=false)(hO:Swo lt):Dsc lt R (D1++T.reverse) [e] U:=by
 refine⟨?_,qC2.mpr ⟨h.rev,qE4 ..,λx hx y hy=>?_⟩,by simp,λu hu v hv=>?_⟩
 ·rw[qB6];exact((List.Perm.refl D1).append (T.reverse_perm.append (List.Perm.refl _))).trans h.pm
 ·rw[qB7.mp hy];refine q x ?_;rcases qB9.mp hx with hx|hx
  ·exact qE9 _ hx
  ·exact qC6 _ (by simpa using hx)
 ·rw[qB7.mp hu,qB7.mp hv];exact hO.rf _
theorem Dsc.more(h:Dsc lt R D1 T (e::U))(q:∀d∈D1++T,lt d e=false)(hO:Swo lt)(ht:(D1++T)[(D1++T).length - 1]?=some t)(k:lt e t=false):Dsc lt R D1 (T++[e]) U:=by
 have hT:t∈T:=by rw[qA0 (by have:=h.t0;simp;omega)]at ht;exact qB5 ht
 refine⟨by simpa using h.pm,?_,by simp,?_⟩
 ·rw[<- qB6];exact qC2.mpr ⟨h.ds,qE4 ..,λx hx y hy=>by rw[qB7.mp hy];exact q x hx⟩
 ·intro u hu v hv;rcases qB9.mp hu with hu|hu<;>rcases qB9.mp hv with hv|hv
  ·exact h.eq u hu v hv
  ·rw[qB7.mp hv];exact q u (qC6 _ hu)
  ·rw[qB7.mp hu];exact hO.tr v t e (h.eq t hT v hv) k
  ·rw[qB7.mp hu,qB7.mp hv];exact hO.rf _
end
section
variable {prog:y7}{w:jD}{A:jE}{E:yL}{s:yS}{κ:v0}{lt:yV->yV->Bool}{G:yV->Prop}{p:List Pend}{g:Nat}
def zXj(κ:v0)(lt:yV->yV->Bool)(pre R:yI)(p:List Pend)(g:Nat)(Q:yK->jG->Prop):Prop :=
 ∀N W,(N++W).Perm R->0<N.length->Srt lt N->Q (some N.length) (SS κ (pre++(N++W)) p g)
theorem zOt{pre R R':yI}(gl:∀x∈pre++R,G x)(h:R'.Perm R):∀x∈pre++R',G x:=λx hx=>gl x (((List.Perm.refl pre).append h).mem_iff.mp hx)
noncomputable def ascL(lo a n:Nat):StateT jG Sem (Option (yK)×Nat):=forIn [a:n] (none,a) λ_ (c:Option (yK)×Nat)=>ltAt' (lo+c.2) (lo+c.2 - 1) >>= λr=>match r with
 |some smaller=>if smaller=true then pure (ForInStep.done (none,c.2))else pure (ForInStep.yield (none,c.2+1))
 |_=>pure (ForInStep.done (some none,c.2))
noncomputable def dscL(lo m n:Nat):StateT jG Sem (Option (yK)×Nat×Nat):=forIn [m:n] (none,m,0) λ_ (c:Option (yK)×Nat×Nat)=>ltAt' (lo+c.2.1) (lo+c.2.1 - 1) >>= λr=>match r with
 |some smaller=>if smaller=true then ite (c.2.2>0) (mR (lo+c.2.1 - (c.2.2+1)) (lo+c.2.1) >>= λ_=>pure (ForInStep.yield (none,c.2.1+1,0))) (pure (ForInStep.yield (none,c.2.1+1,0)))
  else ltAt' (lo+c.2.1 - 1) (lo+c.2.1) >>= λr=>match r with
   |some larger=>if larger=true then pure (ForInStep.done (none,c.2.1,c.2.2))else pure (ForInStep.yield (none,c.2.1+1,c.2.2+1))
   |_=>pure (ForInStep.done (some none,c.2.1,c.2.2))
 |_=>pure (ForInStep.done (some none,c.2.1,c.2.2))
theorem zJq{pre R D1 T U:yI}{lo n:Nat}{Q:Option (yK)×Nat×Nat->jG->Prop}(hO:Swo lt)(hA:Asks prog w A s κ lt G)(gl:∀x∈pre++R,G x)(hlo:lo=pre.length)(hn:n=R.length)(hD:Dsc lt R D1 T U)(hT:T.length=1)
  {m:Nat} (hm:m=(D1++T).length) (h:∀D1 T U q,Dsc lt R D1 T U->T.length=q+1->Q (none,(D1++T).length,q) (SS κ (pre++(D1++(T++U))) p g)):wpS (yW prog w) A E s (dscL lo m n) Q (SS κ (pre++(D1++(T++U))) p g):=by
 subst hlo hn hm;have lenR:=hD.pm.length_eq;refine vD (jU (I:=λx c st'=>∃D1 T U q,c=(none,x,q)/\st'=SS κ (pre++(D1++(T++U))) p g/\Dsc lt R D1 T U/\(D1++T).length=x/\T.length=q+1)
  (Q:=λc st'=>∃D1 T U q,c=(none,(D1++T).length,q)/\st'=SS κ (pre++(D1++(T++U))) p g/\Dsc lt R D1 T U/\T.length=q+1) ?_ ?_ ⟨D1,T,U,0,rfl,rfl,hD,rfl,hT⟩) ?_
 ·rintro x c st' _ hx ⟨D1,T,U,q,rfl,rfl,hD,rfl,hT⟩;dsimp only;have lR:=hD.pm.length_eq;cases U with
  |nil=>simp at lR hx;omega
  |cons e U =>
   have hz:(D1++T).length - 1<(D1++T).length:=by simp;omega
   obtain⟨t,et⟩:∃t,(D1++T)[(D1++T).length - 1]?=some t:=⟨_,qA4 hz⟩
   have g1:(pre++(D1++(T++e::U)))[pre.length+(D1++T).length]?=some e:=by rw[<- qB6 D1,qA0 (by omega),qA0 (by omega),show pre.length+(D1++T).length - pre.length - (D1++T).length=0 by omega];rfl
   have g2:(pre++(D1++(T++e::U)))[pre.length+(D1++T).length - 1]?=some t:=by rw[<- qB6 D1,qA0 (by omega),qA7 (by omega),<- et];congr 1;omega
   have gl':=zOt gl hD.pm;refine yT (zMM hA gl' g1 g2 ?_);cases e1:lt e t with
   |true =>
    have q1:=hD.last hO et (hO.as _ _ e1);simp only[if_true];by_cases hq:q>0
    ·rw[if_pos hq];have ea:pre++(D1++(T++e::U))=(pre++D1)++(T++e::U):=by simp
     rw[ea];refine yT (zIB (by simp;omega) (by simp;omega) (yY ⟨D1++T.reverse,[e],U,0,rfl,by simp,hD.oneR q1 hO,by simp;omega,rfl⟩))
    ·rw[if_neg hq];exact yY ⟨D1++T,[e],U,0,rfl,by simp,hD.one q1 hO,by simp;omega,rfl⟩
   |false =>
    simp only[qE3,if_false];refine yT (zMM hA gl' g2 g1 ?_);cases e2:lt t e with
    |true=>exact yY ⟨D1,T,e::U,q,rfl,rfl,hD,hT⟩
    |false=>exact yY ⟨D1,T++[e],U,q+1,rfl,by simp,hD.more (hD.last hO et e2) hO et e1,by simp;omega,by simp[hT]⟩
 ·rintro c st' ⟨D1,T,U,q,rfl,rfl,hD,hx,hT⟩;exact⟨D1,T,U,q,by rw[hx],rfl,hD,hT⟩
 rintro c st' ⟨D1,T,U,q,rfl,rfl,hD,hT⟩;exact h D1 T U q hD hT
theorem zFe{pre R D U:yI}{lo n a:Nat}{Q:yK->jG->Prop}{K:Option (yK)×Nat->StateT jG Sem (yK)}(hK:∀m st,Q (some m) st->wpS (yW prog w) A E s (K (none,m)) Q st)(hO:Swo lt)(hA:Asks prog w A s κ lt G)(gl:∀x∈pre++R,G x)(hlo:lo=pre.length)(hn:n=R.length)(h:zXj κ lt pre R p g Q)
  (sD:Srt (λx y=>lt y x) D) (lD:a=D.length) (h0:0<D.length) (pD:(D++U).Perm R):wpS (yW prog w) A E s (mR lo (lo+a) >>= λ_=>ascL lo a n >>= K) Q (SS κ (pre++(D++U)) p g):=by
 subst lD hlo hn;refine yT (zIB rfl rfl ?_);have pD':(D.reverse++U).Perm R:=(D.reverse_perm.append (List.Perm.refl U)).trans pD;have hl:D.length=D.reverse.length:=by simp
 rw[hl];refine yT (zLL hO hA (zOt gl pD') rfl (by rw[<- pD'.length_eq];simp) (by simp[h0]) sD.rev λV W e sV _=>?_);subst e;have:=h (D.reverse++V) W (by simpa using pD') (by simp;omega) sV;simp only[qB6,qC3]at this;exact hK _ _ this
theorem zQY{pre R:yI}{lo n:Nat}{Q:yK->jG->Prop}(hO:Swo lt)(hA:Asks prog w A s κ lt G)(gl:∀x∈pre++R,G x)(hlo:lo=pre.length)(hn:n=R.length)(hR:0<R.length)(h:zXj κ lt pre R p g Q):
  wpS (yW prog w) A E s (countRun' lo n) Q (SS κ (pre++R) p g):=by
 obtain⟨r,R',rfl⟩:∃r R',R=r::R':=by cases R with
  |nil=>simp at hR
  |cons r R=>exact⟨r,R,rfl⟩
 have e0:pre++r::R'=pre++([r]++R'):=rfl;rw[e0]at gl ⊢;refine yT (zLL (D:=[r]) hO hA gl hlo (by rw[hn];simp;omega) (by simp) (qE4 ..) λV W e sV ho=>?_);subst e;dsimp only;by_cases e1:([r].length+V.length == n)=true
 ·rw[if_pos e1];have:=h ([r]++V) W (by simp) (by simp) sV;simp only[qB6,qC3]at this;exact yY this
 rw[if_neg e1];rcases ho with rfl|⟨e,W',rfl,z,ez,hz⟩
 ·exfalso;apply e1;rw[hn];simp;omega
 have gl':∀x∈pre++(([r]++V)++e::W'),G x:=by simpa using gl
 rw[show pre++([r]++(V++e::W'))=pre++(([r]++V)++e::W') by simp];have hs:∀R0,(R0++e::W').Perm (r::(V++e::W'))->(∀u∈R0,∀v∈R0,lt u v=false)->(∀d∈R0,lt d e=false)->Dsc lt (r::(V++e::W')) R0 [e] W':=λR0 a b c =>
  ⟨by simpa using a,qC2.mpr ⟨qK9 b,qE4 ..,λx hx y hy=>by rw[qB7.mp hy];exact c x hx⟩,by simp,λu hu v hv=>by rw[qB7.mp hu,qB7.mp hv];exact hO.rf _⟩
 by_cases e2:[r].length+V.length>1
 ·rw[if_pos e2];refine yT (zMM hA gl' (x:=r) (y:=z) (by rw[hlo,qA0 (by omega)];simp) (by
   rw[hlo,qA0 (by omega),qA7 (by simp at e2 ⊢;omega),<- ez];congr 1;simp;omega) ?_)
  cases e3:lt r z with
  |true =>
   have:=h ([r]++V) (e::W') (by simp) (by simp) sV;simp only[qB6,qC3]at this ⊢;exact yY this
  |false =>
   simp only[qE3,if_false];have z1:∀u∈[r]++V,lt z u=false:=λu hu=>by have:=zHH hO sV (by simp) u hu;rwa[(qA3.mp ez).2]at this
   have z2:∀u∈[r]++V,lt u r=false:=λu hu=>zOr hO sV (by simp) u hu;have al:∀u∈[r]++V,∀v∈[r]++V,lt u v=false:=λu hu v hv=>hO.tr v r u (hO.tr v z r (z1 v hv) e3) (z2 u hu);have zm:z∈[r]++V:=qB5 ez;refine yT (zIB hlo (by rw[hlo];simp;omega) ?_);have D0:=hs ([r]++V).reverse (by
    have:=((([r]++V).reverse_perm).append (List.Perm.refl (e::W')))
    simpa using this) (λu hu v hv=>al u (qI4.mp hu) v (qI4.mp hv)) (λd hd=>hO.tr e z d (hO.as _ _ hz) (al d (qI4.mp hd) z zm))
   refine yT (gA (vM ⟨rfl,?_⟩));refine yT (zJq hO hA (by simpa using gl) hlo hn D0 rfl (by simp;omega) λD1 T U q hD hT=>?_);dsimp only;by_cases hq:q>0
   ·rw[if_pos hq,show pre++(D1++(T++U))=(pre++D1)++(T++U) by simp];refine yT (zIB (by rw[hlo];simp;omega) (by rw[hlo];simp;omega) ?_);rw[show(pre++D1)++(T.reverse++U)=pre++((D1++T.reverse)++U) by simp];exact zFe (K:=_) (λm st hm=>yY hm) hO hA (by simpa using gl) hlo hn h hD.rev (by simp) (by have:=hD.t0;simp;omega) (by rw[qB6];exact((List.Perm.refl D1).append (T.reverse_perm.append (List.Perm.refl _))).trans hD.pm)
   ·rw[if_neg hq,show pre++(D1++(T++U))=pre++((D1++T)++U) by simp];exact zFe (K:=_) (λm st hm=>yY hm) hO hA (by simpa using gl) hlo hn h hD.ds rfl (by have:=hD.t0;simp;omega) (by simpa using hD.pm)
 ·rw[if_neg e2];have hV:V=[]:=by cases V with
   |nil=>rfl
   |cons v V=>simp at e2
  subst hV;have D0:=hs [r] (by simp) (λu hu v hv=>by rw[qB7.mp hu,qB7.mp hv];exact hO.rf _) (λd hd=>by
   rw[qB7.mp hd];have:z=r:=by simpa using ez.symm
   rw[<- this];exact hO.as _ _ hz)
  refine yT (gA (vM ⟨rfl,?_⟩));refine yT (zJq hO hA (by simpa using gl) hlo hn D0 rfl (by simp) λD1 T U q hD hT=>?_);dsimp only;by_cases hq:q>0
  ·rw[if_pos hq,show pre++(D1++(T++U))=(pre++D1)++(T++U) by simp];refine yT (zIB (by rw[hlo];simp;omega) (by rw[hlo];simp;omega) ?_);rw[show(pre++D1)++(T.reverse++U)=pre++((D1++T.reverse)++U) by simp];exact zFe (K:=_) (λm st hm=>yY hm) hO hA (by simpa using gl) hlo hn h hD.rev (by simp) (by have:=hD.t0;simp;omega) (by rw[qB6];exact((List.Perm.refl D1).append (T.reverse_perm.append (List.Perm.refl _))).trans hD.pm)
  ·rw[if_neg hq,show pre++(D1++(T++U))=pre++((D1++T)++U) by simp];exact zFe (K:=_) (λm st hm=>yY hm) hO hA (by simpa using gl) hlo hn h hD.ds rfl (by have:=hD.t0;simp;omega) (by simpa using hD.pm)
end
section
variable {prog:y7}{w:jD}{A:jE}{E:yL}{s:yS}{κ:v0}{lt:yV->yV->Bool}{G:yV->Prop}{p:List Pend}{g:Nat}
theorem zTv{S:yI}{e:yV}{l:Nat}(hO:Swo lt)(sS:Srt lt S)(h1:∀x∈S.take l,lt e x=false)(h2:∀x∈S.drop l,lt e x=true):Srt lt (S.take l++(e::S.drop l)):=by
 have sX:Srt lt (S.take l++S.drop l):=by rw[qC9];exact sS
 obtain⟨x1,x2,x3⟩:=qC2.mp sX;refine qC2.mpr ⟨x1,qK4.mpr ⟨λy hy=>hO.as _ _ (h2 y hy),x2⟩,λx hx y hy=>?_⟩;rcases qB0.mp hy with rfl|hy
 ·exact h1 x hx
 ·exact x3 x hx y hy
theorem zR5{pre S U post:yI}{lo n ok:Nat}{Q:Bool->jG->Prop}(hO:Swo lt)(hA:Asks prog w A s κ lt G)(gl:∀x∈pre++(S++(U++post)),G x)(hlo:lo=pre.length)(hn:n=S.length+U.length)(hok:ok=S.length)(h0:0<S.length)(sS:Srt lt S)
  (h:∀N,N.Perm (S++U)->Srt lt N->Q true (SS κ (pre++(N++post)) p g)):wpS (yW prog w) A E s (binarySort' lo n ok) Q (SS κ (pre++(S++(U++post))) p g):=by
 subst hlo hn hok;rw[binarySort'_eq];rw[show max S.length 1=S.length by omega];refine yT (vD (jU (I:=λk c st'=>c=(none,())/\∃S' U',k=S'.length/\(S'++U').Perm (S++U)/\Srt lt S'/\st'=SS κ (pre++(S'++(U'++post))) p g)
  (Q:=λc st'=>c=(none,())/\∃N,N.Perm (S++U)/\Srt lt N/\st'=SS κ (pre++(N++post)) p g) ?_ ?_ ⟨rfl,S,U,rfl,.refl _,sS,rfl⟩) ?_)
 ·rintro k c st' hk1 hk2 ⟨rfl,S',U',rfl,pm,sS',rfl⟩;dsimp only;have lp:=pm.length_eq;cases U' with
  |nil=>simp at lp;omega
  |cons e U' =>
  have gl':∀x∈pre++(S'++(e::U'++post)),G x:=λx hx=>gl x (by
   rcases qB9.mp hx with hx|hx
   ·exact qE9 _ hx
   ·refine qC6 _ ?_;rw[<- qB6]at hx ⊢;rcases qB9.mp hx with hx|hx
    ·exact qE9 _ (pm.mem_iff.mp hx)
    ·exact qC6 _ hx)
  refine yT (vD (jU (I:=λx c st''=>st''=SS κ (pre++(S'++(e::U'++post))) p g/\∃l r,c=(none,l,r)/\l<=r/\r<=S'.length/\r - l<=S'.length - x /\
    (∀i,(hi:i<S'.length)->i<l->lt e S'[i]=false)/\(∀i,(hi:i<S'.length)->r<=i->lt e S'[i]=true))
   (Q:=λc st''=>st''=SS κ (pre++(S'++(e::U'++post))) p g/\∃l r,c=(none,l,r)/\l<=S'.length /\
    (∀i,(hi:i<S'.length)->i<l->lt e S'[i]=false)/\(∀i,(hi:i<S'.length)->l<=i->lt e S'[i]=true)) ?_ ?_ ⟨rfl,0,S'.length,rfl,by omega,by omega,by omega,λi hi h=>(by omega),λi hi h=>(by omega)⟩) ?_)
  ·rintro x c st'' _ hx ⟨rfl,l,r,rfl,hlr,hrk,hm,q1,q2⟩;dsimp only;by_cases hge:l≥r
   ·rw[if_pos hge];have:l=r:=by omega
    subst this;exact yY ⟨rfl,l,l,rfl,hrk,q1,q2⟩
   ·rw[if_neg hge];refine yT (zMM hA gl' (x:=e) (y:=S'[(l+r) / 2]'(by omega)) ?_ ?_ ?_)
    ·rw[qA0 (by omega),qA0 (by omega),show pre.length+S'.length - pre.length - S'.length=0 by omega];rfl
    ·rw[qA0 (by omega),qA7 (by omega),qK6];exact qA4 (by omega)
    ·cases e1:lt e (S'[(l+r) / 2]'(by omega))with
     |true =>
      refine yY ⟨rfl,l,(l+r) / 2,rfl,by omega,by omega,by omega,q1,λi hi h1=>?_⟩;cases e2:lt e S'[i]with
      |true=>rfl
      |false =>
       have:=zEj hO (x:=S'[(l+r) / 2]'(by omega)) sS' (i:=(l+r) / 2) (by omega) (hO.rf _) S'[i] (by
        rw[qG5];exact⟨i - (l+r) / 2,by simp;omega,by simp only[qM6];congr 1;omega⟩)
       rw[hO.tr _ _ _ this e2]at e1;cases e1
     |false =>
      refine yY ⟨rfl,(l+r) / 2+1,r,rfl,by omega,by omega,by omega,λi hi h1=>?_,q2⟩;have:=zEj hO (x:=S'[i]) sS' (i:=i) hi (hO.rf _) (S'[(l+r) / 2]'(by omega)) (by
        rw[qG5];exact⟨(l+r) / 2 - i,by simp;omega,by simp only[qM6];congr 1;omega⟩)
      exact hO.tr _ _ _ this e1
  ·rintro c st'' ⟨rfl,l,r,rfl,hlr,hrk,hm,q1,q2⟩;have:l=r:=by omega
   subst this;exact⟨rfl,l,l,rfl,hrk,q1,q2⟩
  ·rintro c st'' ⟨rfl,l,r,rfl,hl,q1,q2⟩;dsimp only;have e0:pre++(S'++(e::U'++post))=(pre++S'.take l)++(S'.drop l++(e::(U'++post))):=by
    conv=>lhs;rw[<- qC9 l S']
    simp only[qB6,qF5]
   rw[e0];refine yT (zRR (by simp;omega) (by simp;omega) (yY ⟨rfl,S'.take l++(e::S'.drop l),U',by simp;omega,?_,zTv hO sS' (λx hx=>?_) (λx hx=>?_),by simp⟩))
   ·refine List.Perm.trans ?_ pm;have:(S'++e::U')=S'.take l++(S'.drop l++(e::U')):=by rw[<- qB6,qC9]
    rw[this,qB6];refine(List.Perm.refl _).append ?_;rw[qF5];exact List.perm_middle.symm
   ·obtain⟨i,hi,hil,rfl⟩:=zDR hx;exact q1 i hi hil
   ·obtain⟨i,hi,hil,rfl⟩:=zDS hx;exact q2 i hi hil
 ·rintro c st' ⟨rfl,S',U',hk,pm,sS',rfl⟩;have lp:=pm.length_eq;have:U'=[]:=by
   cases U' with
   |nil=>rfl
   |cons e U'=>simp at lp;omega
  subst this;exact⟨rfl,S',by simpa using pm,sS',by simp⟩
 ·rintro c st' ⟨rfl,N,pm,sN,rfl⟩;exact yY (h N pm sN)
end
abbrev Rn:=List (yI×Nat)
noncomputable def zA8:Rn->yI
 |[]=>[]
 |r::rs=>r.1++zA8 rs
noncomputable def pnd:Nat->Rn->List Pend
 |_,[]=>[]
 |o,r::rs=>(o,r.1.length,r.2)::pnd (o+r.1.length) rs
theorem zBr:∀(a b:Rn),zA8 (a++b)=zA8 a++zA8 b
 |[],_=>rfl
 |r::a,b=>by rw[qF5,zA8,zBr a b,zA8,qB6]
theorem zDf:∀(o:Nat) (a b:Rn),pnd o (a++b)=pnd o a++pnd (o+(zA8 a).length) b
 |o,[],b=>by simp[pnd,zA8]
 |o,r::a,b=>by rw[qF5,pnd,zDf (o+r.1.length) a b,pnd,zA8,qC3,qF5,Nat.add_assoc]
theorem zEq:∀(o:Nat) (a:Rn),(pnd o a).length=a.length
 |_,[]=>rfl
 |o,r::a=>by rw[pnd,qD4,zEq,qD4]
structure Good(lt:yV->yV->Bool)(rs:Rn):Prop where
 s:∀r∈rs,Srt lt r.1
 p:∀r∈rs,0<r.1.length
theorem Good.len{lt:yV->yV->Bool}:∀{rs:Rn},Good lt rs->rs.length<=(zA8 rs).length
 |[],_=>qA6 _
 |r::rs,h=>by have:=Good.len (rs:=rs) ⟨λx hx=>h.s x (qC1 _ hx),λx hx=>h.p x (qC1 _ hx)⟩;have:=h.p r (qE8 ..);rw[zA8,qC3,qD4];omega
theorem zUn{rs:Rn}{i:Nat}(h:i+1<rs.length):∃r1 x y r2,rs=r1++x::y::r2/\r1.length=i:=by refine⟨rs.take i,rs[i],rs[i+1],rs.drop (i+2),?_,by simp;omega⟩;rw[<- qE5,<- qE5,qC9]
theorem zO5{rs:Rn}(h:rs≠[]):∃r1 x,rs=r1++[x]:=⟨rs.dropLast,rs.getLast h,(List.dropLast_concat_getLast h).symm⟩
theorem zLf:∀(l:List Pend) (u:Pend) (f:Pend->Pend),(l++[u]).modify l.length f=l++[f u]
 |[],u,f=>by simp
 |v::l,u,f=>by rw[qF5,qD4,List.modify_succ_cons,zLf l u f,qF5]
theorem zZl{c:Prop}[Decidable c]{n:Nat}(h:1<n):(if c then n - 2 - 1 else n - 2)+1<n:=by split<;>omega
section
variable {prog:y7}{w:jD}{A:jE}{E:yL}{s:yS}{κ:v0}{lt:yV->yV->Bool}{G:yV->Prop}
noncomputable abbrev RnS(κ:v0)(rs:Rn)(rest:yI)(g:Nat):SortSt:=SS κ (zA8 rs++rest) (pnd 0 rs) g
theorem zLe{rs:Rn}{rest:yI}{g i:Nat}{Q:Bool->jG->Prop}(hO:Swo lt)(hA:Asks prog w A s κ lt G)(gl:∀x∈zA8 rs++rest,G x)(hg:Good lt rs)(hi:i+1<rs.length)
  (h:∀rs' g',Good lt rs'->(zA8 rs').Perm (zA8 rs)->rs'.length+1=rs.length->Q true (RnS κ rs' rest g')):wpS (yW prog w) A E s (mergeAt' i) Q (RnS κ rs rest g):=by
 obtain⟨r1,⟨X,pw⟩,⟨Y,q⟩,r2,rfl,rfl⟩:=zUn hi;have mx:(X,pw)∈r1++(X,pw)::(Y,q)::r2:=by simp
 have my:(Y,q)∈r1++(X,pw)::(Y,q)::r2:=by simp
 have el:zA8 (r1++(X,pw)::(Y,q)::r2)++rest=zA8 r1++(X++(Y++(zA8 r2++rest))):=by rw[zBr,zA8,zA8];simp
 have ep:pnd 0 (r1++(X,pw)::(Y,q)::r2)=pnd 0 r1++((zA8 r1).length,X.length,pw)::((zA8 r1).length+X.length,Y.length,q)::pnd ((zA8 r1).length+X.length+Y.length) r2:=by rw[zDf,pnd,pnd];simp
 have hst:RnS κ (r1++(X,pw)::(Y,q)::r2) rest g=SS κ (zA8 r1++(X++(Y++(zA8 r2++rest)))) (pnd 0 r1++((zA8 r1).length,X.length,pw)::((zA8 r1).length+X.length,Y.length,q)::pnd ((zA8 r1).length+X.length+Y.length) r2) g:=by unfold RnS;rw[el,ep]
 rw[hst];rw[el]at gl;refine zQ9 hO hA gl (hg.s _ mx) (hg.s _ my) (hg.p _ mx) (hg.p _ my) rfl (zEq ..).symm λZZ g' hZ=>?_;have lz:=hZ.pm.length_eq;rw[qC3]at lz;have hr:=h (r1++(ZZ,pw)::r2) g' ⟨λr hr=>?_,λr hr=>?_⟩ ?_ (by simp;omega)
 ·have el':zA8 (r1++(ZZ,pw)::r2)++rest=zA8 r1++(ZZ++(zA8 r2++rest)):=by rw[zBr,zA8];simp
  have ep':pnd 0 (r1++(ZZ,pw)::r2)=pnd 0 r1++((zA8 r1).length,X.length+Y.length,pw)::pnd ((zA8 r1).length+X.length+Y.length) r2:=by rw[zDf,pnd];simp only[qL9];rw[lz,Nat.add_assoc]
  unfold RnS at hr;rw[el',ep']at hr;exact hr
 ·rcases qB9.mp hr with hr|hr
  ·exact hg.s r (by simp[hr])
  ·rcases qB0.mp hr with rfl|hr
   ·exact hZ.so
   ·exact hg.s r (by simp[hr])
 ·rcases qB9.mp hr with hr|hr
  ·exact hg.p r (by simp[hr])
  ·rcases qB0.mp hr with rfl|hr
   ·have:=hg.p _ mx;show 0<ZZ.length;simp at this;omega
   ·exact hg.p r (by simp[hr])
 ·rw[zBr,zBr,zA8,zA8,zA8];refine(List.Perm.refl _).append ?_;rw[<- qB6];exact hZ.pm.append (List.Perm.refl _)
theorem zPV{rs:Rn}{i:Nat}(h:i<rs.length):∃o,(pnd 0 rs).toArray[i]?=some (o,rs[i].1.length,rs[i].2):=by
 have e:rs=rs.take i++rs[i]::rs.drop (i+1):=by rw[<- qE5,qC9]
 refine⟨(zA8 (rs.take i)).length,?_⟩;rw[qC7]
 conv=>lhs;rw[e]
 rw[zDf,qA0 (by rw[zEq,qJ6];exact Nat.min_le_left ..),zEq,pnd];simp[qN6 (qG3 h)]
theorem zS8{l:yI}{Q:Unit->jG->Prop}(hO:Swo lt)(hA:Asks prog w A s κ lt G)(gl:∀x∈l,G x)(h0:0<l.length)
  (h:∀l' st',arrOf st'=l'.toArray->failedOf st'=none->l'.Perm l->Srt lt l'->Q () st'):wpS (yW prog w) A E s sortRuns' Q (SS κ l [] 7):=by
 rw[sortRuns'_eq];refine yT (fV ?_);dsimp only;rw[show l.toArray.size=l.length from rfl];generalize minRun' l.length l.length 0=mr;have hG:∀{l':yI},l'.Perm l->∀x∈l',G x:=λhp x hx=>gl x (hp.mem_iff.mp hx);refine yT (vD (jU
  (I:=λx c st'=>∃rs post g,c=(none,(zA8 rs).length)/\st'=RnS κ rs post g/\(zA8 rs++post).Perm l/\Good lt rs/\(x<=(zA8 rs).length))
  (Q:=λc st'=>∃rs g,c=(none,l.length)/\st'=RnS κ rs [] g/\(zA8 rs).Perm l/\Good lt rs) ?_ ?_ ⟨[],l,7,rfl,rfl,.refl _,⟨λr hr=>(by cases hr),λr hr=>(by cases hr)⟩,qH4 _⟩) ?_)
 ·rintro x c st' _ hx ⟨rs,post,g,rfl,rfl,pm,hg,hp⟩;dsimp only;have lp:=pm.length_eq;rw[qC3]at lp;by_cases hge:(zA8 rs).length≥l.length
  ·rw[if_pos hge];have e:post=[]:=qI5.mp (by omega);subst e;refine yY ⟨rs,g,by rw[show(zA8 rs).length=l.length by omega],rfl,by simpa using pm,hg⟩
  rw[if_neg hge];refine yT (zQY hO hA (hG pm) rfl (by omega) (by omega) λN W pN hN sN=>?_);dsimp only;have lN:=pN.length_eq;rw[qC3]at lN;have done:∀{N W:yI}{rs':Rn}{g':Nat},(N++W).Perm post->0<N.length->Srt lt N->Good lt rs'->(zA8 rs').Perm (zA8 rs)->∃rs2 post2 g2,((none,(zA8 rs).length+N.length):Option Unit×Nat)=(none,(zA8 rs2).length)/\SS κ (zA8 rs'++(N++W)) (pnd 0 rs'++[((zA8 rs).length,N.length,0)]) g'=RnS κ rs2 post2 g2/\(zA8 rs2++post2).Perm l/\Good lt rs2/\x+1<=(zA8 rs2).length:=by
   intro N W rs' g' pN hN sN hg' hp';have ef:zA8 (rs'++[(N,0)])=zA8 rs'++N:=by rw[zBr,zA8,zA8,qG1]
   refine⟨rs'++[(N,0)],W,g',?_,?_,?_,⟨λr hr=>?_,λr hr=>?_⟩,?_⟩
   ·rw[ef,qC3,hp'.length_eq]
   ·unfold RnS;rw[ef,zDf,pnd,pnd,qB6,qL9,hp'.length_eq]
   ·rw[ef,qB6];exact(hp'.append pN).trans pm
   ·rcases qB9.mp hr with hr|hr
    ·exact hg'.s r hr
    ·rw[qB7.mp hr];exact sN
   ·rcases qB9.mp hr with hr|hr
    ·exact hg'.p r hr
    ·rw[qB7.mp hr];exact hN
   ·rw[ef,qC3,hp'.length_eq];omega
  by_cases hlt:N.length<mr
  case' pos =>
   rw[if_pos hlt];refine yT (gA (vM ⟨rfl,?_⟩));have eW:zA8 rs++(N++W)=zA8 rs++(N++(W.take (min (l.length - (zA8 rs).length) mr - N.length)++W.drop (min (l.length - (zA8 rs).length) mr - N.length))):=by rw[qC9]
   have gW:∀x∈zA8 rs++(N++W),G x:=hG (((List.Perm.refl _).append pN).trans pm);rw[eW]at gW ⊢;refine yT (zR5 hO hA gW rfl (by simp;omega) rfl hN sN λN' pN' sN'=>?_);simp only[Bool.not_true,qE3,if_false];have lN':min (l.length - (zA8 rs).length) mr=N'.length:=by rw[pN'.length_eq];simp;omega
   rw[lN'];have pN2:(N'++W.drop (min (l.length - (zA8 rs).length) mr - N.length)).Perm post:=by refine List.Perm.trans (pN'.append (List.Perm.refl _)) ?_;rw[qB6,qC9];exact pN
   have hN2:0<N'.length:=by rw[pN'.length_eq];simp;omega
   rw[lN']at pN2;generalize W.drop (N'.length - N.length)=W' at pN2 ⊢;clear eW gW pN' lN' pN hN sN lN;generalize N'=M at sN' pN2 hN2 ⊢;have sM:=sN';have pM:=pN2;have hM:=hN2;generalize W'=V at pM ⊢
  case' neg =>
   rw[if_neg hlt];have sM:=sN;have pM:=pN;have hM:=hN;clear sN pN hN lN hlt;generalize N=M at sM pM hM ⊢;generalize W=V at pM ⊢
  all_goals
   refine yT (fV ?_)
   (try dsimp only)
   by_cases hrs:rs=[]
   ·subst hrs;exact yT (wH (yY (done (rs':=[]) pM hM sM hg (.refl _))))
   ·obtain⟨r1,y,e⟩:=zO5 hrs;have eb:(pnd 0 rs).toArray.back?=some ((zA8 r1).length,y.1.length,y.2):=by rw[e,zDf,pnd,pnd];simp
    rw[eb];dsimp only;refine yT (vD (jU (I:=λ_ c st'=>c=(none,())/\∃rs' g',st'=RnS κ rs' (M++V) g'/\Good lt rs'/\(zA8 rs').Perm (zA8 rs)/\rs'≠[])
     (Q:=λc st'=>c=(none,())/\∃rs' g',st'=RnS κ rs' (M++V) g'/\Good lt rs'/\(zA8 rs').Perm (zA8 rs)/\rs'≠[]) ?_ (λc st' h=>h) ⟨rfl,rs,g,rfl,hg,.refl _,hrs⟩) ?_)
    ·rintro i c st' _ _ ⟨rfl,rs',g',rfl,hg',hp',hne⟩;refine yT (fV ?_)
     (try dsimp only)
     have es:(pnd 0 rs').toArray.size=rs'.length:=qB1.trans (zEq ..);rw[es];by_cases h1:rs'.length>1
     ·rw[if_pos h1];obtain⟨o,eo⟩:=zPV (rs:=rs') (i:=rs'.length - 2) (by omega);rw[eo];dsimp only;split
      ·exact yY ⟨rfl,rs',g',rfl,hg',hp',hne⟩
      ·refine yT (zLe hO hA (hG (((hp'.append (List.Perm.refl _)).trans ((List.Perm.refl _).append pM)).trans pm)) hg' (by omega) λrs2 g2 hg2 hp2 hl2=>?_);exact yY ⟨rfl,rs2,g2,rfl,hg2,hp2.trans hp',λe=>by subst e;simp at hl2;omega⟩
     ·rw[if_neg h1];exact yY ⟨rfl,rs',g',rfl,hg',hp',hne⟩
    ·rintro c st' ⟨rfl,rs',g',rfl,hg',hp',hne⟩;dsimp only;obtain⟨r2,⟨Y,q⟩,rfl⟩:=zO5 hne;refine yT (wH (yT (wH (yY ?_))));generalize power' l.length _ _ l.length=pw;have e3:(pnd 0 (r2++[(Y,q)])).toArray.modify ((pnd 0 (r2++[(Y,q)])).toArray.size - 1) (λx=>(x.1,x.2.1,pw))=(pnd 0 (r2++[(Y,pw)])).toArray:=by apply fD;rw[zDf,zDf,pnd,pnd,pnd,pnd];simp[zLf]
     have e4:setPending (RnS κ (r2++[(Y,q)]) (M++V) g') ((pnd 0 (r2++[(Y,q)])).toArray.modify ((pnd 0 (r2++[(Y,q)])).toArray.size - 1) (λx=>(x.1,x.2.1,pw)))=RnS κ (r2++[(Y,pw)]) (M++V) g':=by rw[e3];unfold RnS;rw[zBr,zBr];rfl
     have:=done (rs':=r2++[(Y,pw)]) (g':=g') pM hM sM ⟨λr hr=>?_,λr hr=>?_⟩ (by rw[zBr]at hp' ⊢;exact hp')
     ·obtain⟨a,b,c,d,e,f⟩:=this;refine⟨a,b,c,d,?_,f⟩;rw[<- e];show setPending (setPending (RnS κ (r2++[(Y,q)]) (M++V) g') ((pnd 0 (r2++[(Y,q)])).toArray.modify ((pnd 0 (r2++[(Y,q)])).toArray.size - 1) (λx=>(x.1,x.2.1,pw)))) _=_;rw[e4];show SortSt.mk' κ _ ((pnd 0 (r2++[(Y,pw)])).toArray.push _) _ _=SortSt.mk' κ _ _ _ _;rw[List.push_toArray]
     ·rcases qB9.mp hr with hr|hr
      ·exact hg'.s r (by simp[hr])
      ·rw[qB7.mp hr];exact hg'.s (Y,q) (by simp)
     ·rcases qB9.mp hr with hr|hr
      ·exact hg'.p r (by simp[hr])
      ·rw[qB7.mp hr];exact hg'.p (Y,q) (by simp)
 ·rintro c st' ⟨rs,post,g,rfl,rfl,pm,hg,hp⟩;have lp:=pm.length_eq;rw[qC3]at lp;have e:post=[]:=qI5.mp (by omega);subst e;exact⟨rs,g,by rw[show(zA8 rs).length=l.length by simp at lp;omega],rfl,by simpa using pm,hg⟩
 rintro c st' ⟨rs,g,rfl,rfl,pm,hg⟩;dsimp only;have l1:=hg.len;rw[pm.length_eq]at l1;refine yT (vD (jU (I:=λx c st'=>c=(none,())/\∃rs' g',st'=RnS κ rs' [] g'/\Good lt rs'/\(zA8 rs').Perm l/\rs'.length+x<=l.length+1)
  (Q:=λc st'=>c=(none,())/\∃rs' g',st'=RnS κ rs' [] g'/\Good lt rs'/\(zA8 rs').Perm l/\rs'.length<=1) ?_ ?_ ⟨rfl,rs,g,rfl,hg,pm,by omega⟩) ?_)
 ·rintro x c st' _ hx ⟨rfl,rs',g',rfl,hg',hp',hl'⟩;refine yT (fV ?_)
  (try dsimp only)
  have es:(pnd 0 rs').toArray.size=rs'.length:=qB1.trans (zEq ..);rw[es];by_cases h1:rs'.length<=1
  ·rw[if_pos h1];exact yY ⟨rfl,rs',g',rfl,hg',hp',h1⟩
  ·rw[if_neg h1];refine yT (zLe hO hA (hG (by simpa using hp')) hg' (zZl (by omega)) λrs2 g2 hg2 hp2 hl2=>?_);exact yY ⟨rfl,rs2,g2,rfl,hg2,hp2.trans hp',by omega⟩
 ·rintro c st' ⟨rfl,rs',g',rfl,hg',hp',hl'⟩;exact⟨rfl,rs',g',rfl,hg',hp',by omega⟩
 ·rintro c st' ⟨rfl,rs',g',rfl,hg',hp',hl'⟩
  match rs',hl' with
  |[],_ =>
   have:=hp'.length_eq;simp[zA8]at this;omega
  |[(R,q)],_ =>
   have hf:zA8 [(R,q)]=R:=by simp[zA8]
   refine yY (h R _ ?_ rfl (by rw[hf]at hp';exact hp') (hg'.s (R,q) (qI3 _)));show(zA8 [(R,q)]++[]).toArray=_;rw[hf,qG1]
end
noncomputable def ItK(a:yR)(o:Obj):It :=
 ⟨λi H=>∃kvs,H a=some (.frz o (.dK kvs))/\i<kvs.length,λi H x H'=>H'=H/\∀kvs,H a=some (.frz o (.dK kvs))->∃p,kvs[i]?=some p/\x=kV p.1,λi H=>∃kvs,H a=some (.frz o (.dK kvs))/\kvs.length<=i⟩
theorem zPZ{prog:y7}{w:jD}:∀{es:List fW}{vs:List (Key×yU)},Pairs (zA9 prog w) es vs->∀{i:Nat}{q:Key×yU},vs[i]?=some q->∃e,es[i]?=some e/\(zA9 prog w).is q.1 e.key=true:=by
 intro es vs h
 induction h with
 |nil=>intro i q e;simp at e
 |cons h1 h2 _ ih =>
  intro i q e;cases i with
  |zero=>simp at e;subst e;exact⟨_,rfl,h1⟩
  |succ i=>exact ih (by simpa using e)
theorem zNw{prog:y7}{w:jD}:∀{es:List fW}{vs:List (Key×yU)},Pairs (zA9 prog w) es vs->es.length=vs.length:=by
 intro es vs h
 induction h with
 |nil=>rfl
 |cons _ _ _ ih=>simp[ih]
inductive FzK(X:Cx)(H:Hp)(h:jC)(a:yR)(o:Obj)(kvs:List (Key×V)):Prop
 |mk (es:Array fW) (ep:Nat) (vs:List (Key×yU)) (g:h.get? a=some o) (c:o.cls=.type "dict") (d:o.data=.dict es ep) (r:KV kvs vs) (p:Pairs (zA9 X.prog X.w) es.toList vs) (lo:(a == vG)=false) (z:kvs.length<=jA)
theorem zOv{X:Cx}{pins:yD}{Z:St}{H:Hp}{s:yS}{a:yR}{o:Obj}{kvs:List (Key×V)}(I:Inv X pins Z H s)(e:H a=some (.frz o (.dK kvs))):FzK X H s.heap a o kvs:=by
 obtain⟨g,z,lo,vs,r,o',es,ep,g1,g2,g3,g4,g5,g6⟩:=(show zBL X.prog X.w H s.heap a (.frz o (.dK kvs))from I.hok a _ e)
 rw[g]at g1;cases g1;exact⟨es,ep,vs,g,g2.1,g3,r,g5,lo,z⟩
theorem zSA{k:Key}{v:yU}(h:zHL k v=true):RelV (kV k) v:=by
 rcases zAu h with⟨i,t,rfl,rfl⟩| ⟨x,t,rfl,rfl⟩
 ·exact⟨t,rfl⟩
 ·exact⟨t,rfl⟩
theorem zLQ{P:y7}{w:jD}{K:yQ}{tg:y4}(a it:yR)(o:Obj)(es:Array fW)(ep:Nat)(ho:o.data=.dict es ep):Turn P w K tg (ItK a o) [it] it (λi h=>h.IsKeyIter it a i es.size ep) where
 mem:=by simp
 obj:=λi h st b hb=>by
  have e:b=it:=by simpa using hb
  subst e;obtain⟨o,e,c,d⟩:=st;exact⟨o,e,λv z=>by rw[d]at z;cases z⟩
 keep:=λi h h' st k=>st.at λo e=>k it (by simp) o e
 item:=by
  intro X hP hw hK hc i pins s Z H E I hf st hg;subst hP hw hK;obtain⟨kvs,hq,hi⟩:=hg;obtain⟨es',ep',vs,g,c,d,r,p,lo,z⟩:=zOv I hq;rw[ho]at d;cases d;obtain⟨f0,f1,f2,f3,f4,f5⟩:=hf it (by simp);have hvs:i<vs.length:=by rw[<- Paired.length r];exact hi
  obtain⟨q,hq2⟩:∃q,vs[i]?=some q:=⟨_,qA4 hvs⟩
  obtain⟨e,he,hk⟩:=zPZ p hq2;have hes:es[i]?=some e:=by rw[<- wA];exact he
  refine zZi st ⟨o,g,c,ho⟩ hes λh' st' sb=>?_;have I1:Inv X pins Z H { s with heap:=h' }:=I.turned (t':=s.toks) (λb o hb e=>(sb.2 b hb).trans e) f0 f1 f3 f4 f5;obtain⟨oi,ei,ci,di⟩:=id st';refine⟨_,rfl,zQJ (s:={ s with heap:=h' }) ei ci di (by decide) ⟨kV q.1,H,I1,zSA hk,⟨rfl,λkvs' h2=>?_⟩,st',λb hb=>(hf b hb).1⟩⟩;rw[hq]at h2;cases h2;obtain⟨p',hp',hr⟩:=zEr r hq2;exact⟨p',hp',by rw[hr.1]⟩
 done:=by
  intro X hP hw hK hc i pins s Z H E I hf st hg;subst hP hw hK;obtain⟨kvs,hq,hi⟩:=hg;obtain⟨es',ep',vs,g,c,d,r,p,lo,z⟩:=zOv I hq;rw[ho]at d;cases d;obtain⟨f0,f1,f2,f3,f4,f5⟩:=hf it (by simp);have hes:es[i]?=none:=by rw[<- wA,qJ3];rw[zNw p,<- Paired.length r];exact hi
  exact kend (I.ok.hd hc) st ⟨o,g,c,ho⟩ hes λh' eb=>⟨rfl,I.turned (t':=s.toks) (λb o hb e=>eb b o hb e) f0 f1 f3 f4 f5⟩
 self:=λ_ _ _ _ _ st h=>wpAny_pyIter_keyiter st h
theorem Inv.freeze{X:Cx}{pins:yD}{Z:St}{H:Hp}{s:yS}{a:yR}{kvs:List (Key×V)}(I:Inv X pins Z H s)(e:H a=some (.dK kvs)):∃o,Inv X pins Z (upd H a (.frz o (.dK kvs))) s:=by
 obtain⟨z,lo,vs,r,o,es,ep,g1,g2,g3,g4,g5,g6⟩:=(show zBL X.prog X.w H s.heap a (.dK kvs)from I.hok a _ e)
 refine⟨o,?_⟩;have mu:Mut (H a):=by rw[e];trivial
 have hok:HOk X.prog X.w (upd H a (.frz o (.dK kvs))) s.heap:=I.hok.write mu (.inl rfl) (λb u _ q=>q) ⟨o,g1⟩ ⟨g1,z,lo,vs,r,o,es,ep,g1,g2,g3,g4,g5,g6⟩;exact I.un (t':=s.toks) (Un.write mu (.inl rfl) (λb u _ q=>q) ⟨o,g1⟩) hok
section
variable {X:Cx}{tg e:y4}
theorem zZx{pins:yD}{Z:St}{H1:Hp}{s1:yS}{a:yR}{R:It->Hp->Prop}(I1:Inv X pins Z H1 s1)(q:∃kvs,((H1 a=some (.dK kvs)/\∀o,R (ItK a o) (upd H1 a (.frz o (.dK kvs))))∨∃o,H1 a=some (.frz o (.dK kvs))/\R (ItK a o) H1)):yX (yW X.prog X.w) X.A (pyIter (.ref a)) (PIE X pins Z tg R) X.xe s1:=by
 obtain⟨kvs,q⟩:=q;have go:∀{H2:Hp}{o:Obj},Inv X pins Z H2 s1->H2 a=some (.frz o (.dK kvs))->R (ItK a o) H2->yX (yW X.prog X.w) X.A (pyIter (.ref a)) (PIE X pins Z tg R) X.xe s1:=by
  intro H2 o I2 hq q;obtain⟨es,ep,vs,g,c,d,r,p,lo,z⟩:=zOv I2 hq;refine zQp lo ⟨o,g,c,d⟩ ?_;refine⟨s1.heap.objs.size,[s1.heap.objs.size],_,_,H2,rfl,I2.kept (t':=s1.toks) λb o e=>qA5 _ e,zLQ a _ o es ep d,⟨_,qB4 _ rfl,rfl,rfl⟩,λb hb=>?_,q⟩;have e:b=s1.heap.objs.size:=by simpa using hb
  subst e;exact I2.fpOk (qA6 _) (I2.hok.fresh (qA6 _))
 rcases q with⟨hq,q⟩| ⟨o,hq,q⟩
 ·obtain⟨o,I2⟩:=I1.freeze hq;exact go I2 zAc (q o)
 ·exact go I1 hq q
end
section
variable {X:Cx}
theorem zNO:MtR X "dict.update" (λx vs H Q=>∃a b kvs more,x=.ref a/\vs=[.ref b]/\a≠b/\H a=some (.dK kvs)/\Rd H b (.dK more)/\kvs.length+more.length<=jA/\Q .non (upd H a (.dK (zBs kvs more)))):=by
 intro pins s Z H x vs v us Q I rx rv h;obtain⟨a,b,kvs,more,rfl,rfl,hab,ha,hb,hz,q⟩:=h;cases rx;obtain⟨u,rfl,ru⟩:=zDd rv;cases ru;obtain⟨z1,lo1,vs,r1,d1⟩:=zOM I.hok ha;obtain⟨z2,lo2,ws,r2,d2⟩:=zKx I.hok hb;refine call_meetsIn gO d1.typeIs PySem.F.entry_dict_update (PySem.F.args_dict_update_2 _ _) (meets_dict_update (zA9 X.prog X.w) a b hab lo2) ⟨vs,ws,d1,d2,by rw[<- Paired.length r1,<- Paired.length r2];exact hz,λh' g1 g2 sb=>?_⟩;have hl:(zBs kvs more).length<=sizeLine:=qD0 (zC8 more kvs) hz;have he:∃q,h'.get? a=some q:=let ⟨q,_,_,hq,_⟩:=g1;⟨q,hq⟩
 exact⟨.non,upd H a (.dK (zBs kvs more)),zI6 (t':=s.toks) I (by rw[ha];exact True.intro) sb he (zLB hl lo1 (KV.merge r2 r1) g1),rfl,q⟩
theorem zJC:zBN X (.builtin "len") (λxs H Q=>∃a kvs,xs=[.ref a]/\Rd H a (.dK kvs)/\Q (.int (kvs.length:Int)) H):=by intro pins s Z H xs us Q I r h;obtain⟨a,kvs,rfl,e,q⟩:=h;obtain⟨u,rfl,ru⟩:=zDd r;cases ru;exact zZy I e λt s' I'=>⟨.int _,H,I',⟨t,rfl⟩,q⟩
end
section
variable {prog:y7}{w:jD}{A:jE}{E:yL}{s:yS}{z:yR}
theorem zNZ:mV (.type "list") (Str.ofString "keys")=pure none:=am_miss_of_fast (by kernel_rfl)
theorem zTh:mV (.type "list") (Str.ofString "__getattr__")=pure none:=am_miss_of_fast (by kernel_rfl)
theorem zKa{Q:yF->yS->Prop}{xs:yJ}{n:Nat}{sl:Array (yF)}(hz:s.heap.get? z=some { cls:=.type "list",dict:=none,data:=.seq xs n,slots:=sl })(hh:A.handled=none)(hQ:∀h' tk,(∀b o,s.heap.get? b=some o->h'.get? b=some o)->Q none { s with heap:=h',toks:=tk }):
  yX (yW prog w) A (dH (.ref z) (Str.ofString "keys")) Q E s:=by
 unfold dH getAttrBy? getAttrBy;refine yO (wpAny_mkText ?_);refine yO (vK (jO (yO (vY (T := "list") ⟨_,hz,rfl⟩ ?_))));rw[F.slot_list_getattribute.lookup];refine yO (yP ?_);show yX _ _ (fQ _ _ _ _ _ _) _ _ _;unfold fQ hookBefore;refine yO (yP ?_);refine yO (vK (jO ?_));show yX _ _ (gB _ _ _) _ _ _;unfold gB;rw[F.slot_list_getattribute.bind];refine yO (yP ?_);refine jN F.slot_list_getattribute ⟨_,hz,rfl⟩ am_entry_list_getattribute ?_ (F.args_list_getattribute_2 _ _);unfold Builtin.«object.__getattribute__»;refine yO (yP ?_);refine yO (yP ?_);refine yO (vY (T := "list") ⟨_,hz,rfl⟩ ?_);unfold Builtin.ObjectAttr.find;rw[zNZ];refine yO (yO (yP (yO (yP (yO (yP ?_))))));show yX _ _ (Builtin.ObjectAttr.ownThenClass _ _ _ _) _ _ _;unfold Builtin.ObjectAttr.ownThenClass Builtin.ObjectAttr.inOwnDict Builtin.ObjectAttr.ownDict;refine yO (yO (yO (wpAny_load hz ?_)));show yX _ _ (instanceDict z false) _ _ _;unfold instanceDict;refine yO (wpAny_loadPart hz ?_);show yX _ _ (pure none) _ _ _;refine yP ?_;show yX _ _ (pure none) _ _ _;refine yP ?_;show yX _ _ (Builtin.ObjectAttr.copiedAttributeGuard _ _ >>= _) _ _ _;have g:Builtin.ObjectAttr.copiedAttributeGuard (Str.ofString "keys") (.ref z)=pure ():=by unfold Builtin.ObjectAttr.copiedAttributeGuard;dsimp only;rw[if_neg (by decide +kernel)]
 rw[g];refine yO (yP ?_);unfold Builtin.ObjectAttr.byTheClass;refine yO (vM (yP ?_));show yX _ _ (Builtin.ObjectAttr.noSuchAttribute _ _) _ _ _;unfold Builtin.ObjectAttr.noSuchAttribute typeNameOfCut shownTypeOf;refine yO (yO (yO (vY (T := "list") ⟨_,hz,rfl⟩ (yP ?_))));show yX _ _ (typeName (.type "list")) _ _ _;have tn:typeName (.type "list")=pure "list":=by
  show pure ((Manifest.find? "list").elim "list" λx=>x.tpName)=_;have:((Manifest.find? "list").elim "list" λx=>x.tpName) = "list":=by kernel_rfl
  rw[this]
 rw[tn];refine yP ?_;refine wpAny_raiseAttrError hh (λh' tk e ne=>?_) (by size_fits);have ty:∀g d os,Shared.TypeIs { heap:=h',gens:=g,drawn:=d,toks:=tk,os:=os } (.ref e) "AttributeError":=λg d os=>let ⟨_,_,q⟩:=ne.there;⟨_,q,rfl⟩
 show yX _ _ (getattributeRaised _ _ _ _ _ _ _) _ _ _;unfold getattributeRaised hookBehind;refine yO (fE (T := "AttributeError") (b:=true) (ty _ _ _) zHa ?_);show yX _ _ (mV (.type "list") (Str.ofString "__getattr__") >>= _) _ _ _;rw[zTh];refine yO (yP ?_);show yX _ _ (throw (Value.ref e) >>= _) _ _ _;refine yO (wpAny_throw ?_);refine yO (fE (T := "AttributeError") (b:=true) (ty _ _ _) zHa ?_);exact yP (hQ h' tk ne.keeps)
structure zED where
 t:yR
 k:Key
 key:yU
 v:yU
def zED.at(q:zED)(h:jC):Prop:=∃o n,h.get? q.t=some o/\o.cls=.type "tuple"/\o.data=.seq #[q.key,q.v] n
structure DL(prog:y7)(w:jD)(it l d:yR)(items:yJ)(qs:List zED)(h0:jC):Prop where
 n:items.size=qs.length
 e:∀(i:Nat) (q:zED),qs[i]?=some q->items[i]?=some (Value.ref q.t)
 k:∀q∈qs,(zA9 prog w).is q.k q.key=true
 p:∀q∈qs,q.at h0
 l:h0.IsList l items
 fr:∀c o,h0.get? c=some o->c≠it/\c≠d
 nd:it≠d
noncomputable abbrev stoQ(xs:List (Key×yU))(qs:List zED):List (Key×yU):=qs.foldl (λa q=>dM a q.k q.v) xs
theorem zS1(xs:List (Key×yU))(k:Key)(v:yU):(dM xs k v).length<=xs.length+1:=by
 unfold dM;split
 ·rw[qA8];omega
 ·simp
theorem zWY{it l d:yR}{items:yJ}{qs:List zED}{h0:jC}(ZZ:DL prog w it l d items qs h0)(hh:A.handled=none){R:dL->yS->Prop}:∀(m k:Nat) (s:yS) (xs:List (Key×yU)),k+m=qs.length->xs.length+m<=jA->s.heap.IsListIter it l k->s.heap.DictOf (zA9 prog w) d xs->(∀c o,h0.get? c=some o->s.heap.get? c=some o) ->
  (∀h' tk,h'.DictOf (zA9 prog w) d (stoQ xs (qs.drop k))->(∀c o,h0.get? c=some o->h'.get? c=some o)->R (.ok (.ret .none)) { s with heap:=h',toks:=tk }) ->
  vU (yW prog w) A (.builtin "dict.update.loop" ⟨[.ref d,.ref it,j8 (k:Int),.none],[]⟩) R s:=by
 intro m
 induction m with
 |zero =>
  intro k s xs hk hl st dr he hR;refine lI zG0 ?_;rw[Around.under_plainId zFo];show yX _ _ (gJ (.ref it) >>= _) _ _ _;have hn:=ZZ.n;refine yO (lJ hh st (qJ4.at ZZ.l λo q=>he _ o q) (by simp;omega) λh' eb=>?_);show yX _ _ (Builtin.Dict.addKeywords d [] >>= _) _ _ _;refine yO (yP ?_);refine yP ?_;have e0:qs.drop k=[]:=qK8 (by omega);rw[e0]at hR;refine hR h' s.toks ?_ λc o q=>eb c o (ZZ.fr c o q).1 (he c o q);obtain⟨o,es,ep,ho,r⟩:=dr;exact⟨o,es,ep,eb _ _ (Ne.symm ZZ.nd) ho,r⟩
 |succ m ih =>
  intro k s xs hk hl st dr he hR;refine lI zG0 ?_;rw[Around.under_plainId zFo];show yX _ _ (gJ (.ref it) >>= _) _ _ _;have kl:k<qs.length:=by omega
  have hq:qs[k]?=some qs[k]:=qA4 kl;have mk:qs[k]∈qs:=qD7 kl;refine yO (lB st (qJ4.at ZZ.l λo q=>he _ o q) (ZZ.e k _ hq) λh1 st1 sb=>?_);have e1:∀c o,h0.get? c=some o->h1.get? c=some o:=λc o q=>(sb.2 c (ZZ.fr c o q).1).trans (he c o q);obtain⟨o,n,ho,hc,hd⟩:=ZZ.p _ mk;have ho1:=e1 _ _ ho;have dr1:h1.DictOf (zA9 prog w) d xs:=by obtain⟨o,es,ep,q,r⟩:=dr;exact⟨o,es,ep,(sb.2 d (Ne.symm ZZ.nd)).trans q,r⟩
  show yX _ _ (wI _ _ >>= _) _ _ _;refine yO (jO (yO (wpAny_tryCatch ?_)));unfold Builtin.Dict.pairItems;refine yO (vY (T := "tuple") ⟨_,ho1,hc⟩ ?_);show yX _ _ (seqItems? _ >>= _) _ _ _;refine yO (vW ho1 hd (yP ?_));show yX _ _ (wI _ (dictSet d qs[k].key qs[k].v)) _ _ _;refine jO (wpAny_dictSet_pairs (ZZ.k _ mk) dr1 (λh2 dd hs=>?_) (by omega));refine yP ⟨zFm _,?_⟩;show vU _ _ (.builtin "dict.update.loop" ⟨[.ref d,.ref it,j8 ((k:Int)+1),.none],[]⟩) _ _;refine ih (k+1) _ _ (by omega) (by have:=zS1 xs qs[k].k qs[k].v;omega) (st1.at λo q=>(hs.2 it ZZ.nd).trans q) dd (λc o q=>(hs.2 c (ZZ.fr c o q).2).trans (e1 c o q)) λh' tk' dr' ex=>hR h' tk' ?_ ex;rw[qE5 kl];exact dr'
theorem zIf{l:yR}{items:yJ}{n:Nat}{sl:Array (yF)}{qs:List zED}{Q:yL}(hh:A.handled=none)(hl:s.heap.get? l=some { cls:=.type "list",dict:=none,data:=.seq items n,slots:=sl })(hn:items.size=qs.length)(he:∀(i:Nat) (q:zED),qs[i]?=some q->items[i]?=some (Value.ref q.t))(hk:∀q∈qs,(zA9 prog w).is q.k q.key=true)(hp:∀q∈qs,q.at s.heap)(hz:qs.length<=jA)
  (hQ:∀h' tk,h'.DictOf (zA9 prog w) s.heap.objs.size (stoQ [] qs)->(∀c o,s.heap.get? c=some o->h'.get? c=some o)->Q (.ref s.heap.objs.size) { s with heap:=h',toks:=tk }) :
  yX (yW prog w) A (call (.type "dict") [.ref l]) Q E s:=by
 refine callType_codes F.kt_called_dict (F.kt_typeCall_dict_1 _) F.entry_dict_init (kt_code_dict_new (Q₁:=λobj s1=>obj=.ref s.heap.objs.size/\s1={ s with heap:=s.heap.push { cls:=.type "dict",data:=.dict #[] } }) _ ⟨rfl,rfl⟩) λobj s1 hq=>?_;obtain⟨rfl,rfl⟩:=hq;have g0:(s.heap.push { cls:=Value.type "dict",data:=Data.dict #[] }).get? s.heap.objs.size=some { cls:=Value.type "dict",data:=Data.dict #[] }:=qB4 _ rfl;have ty:Shared.TypeIs { s with heap:=s.heap.push { cls:=Value.type "dict",data:=Data.dict #[] } } (.ref s.heap.objs.size) "dict":=⟨_,g0,rfl⟩
 refine⟨ty,F.args_dict_init_2 _ _,?_⟩;unfold Builtin.«dict.__init__» Builtin.Dict.selfAndRest;refine yO (yO (lM ty ?_));refine yO (yP (yP ?_));show yX _ _ (Builtin.Dict.updateFrom "dict.__init__" s.heap.objs.size (.ref l) [] .none) _ _ _;unfold Builtin.Dict.updateFrom;have hl1:=qA5 { cls:=Value.type "dict",data:=Data.dict #[] } hl;refine yO (vY (T := "list") ⟨_,hl1,rfl⟩ ?_);show yX _ _ (dH (.ref l) (Str.ofString "keys") >>= _) _ _ _;refine yO (zKa hl1 hh λh2 tk k2=>?_);refine yO (vM ?_);have hl2:=k2 _ _ hl1;have il:h2.IsList l items:=⟨_,hl2,rfl,n,rfl⟩
 refine yO (vF il ?_);refine yP ⟨zFm _,?_⟩;have lt0:∀c o,s.heap.get? c=some o->c<s.heap.objs.size:=λc o e=>qB3 e;have le2:s.heap.objs.size<h2.objs.size:=qB3 (k2 _ _ g0);have ex:∀c o,s.heap.get? c=some o->(h2.push { cls:=.type "list_iterator",data:=.fields #[.ref l,.int 0 0] }).get? c=some o:=λc o q=>qA5 _ (k2 _ _ (qA5 _ q));have d2:h2.DictOf (zA9 prog w) s.heap.objs.size []:=by
  obtain⟨o,es,ep,q,r⟩:=(Heap.DictOf.new (knd:=zA9 prog w) s.heap)
  exact⟨o,es,ep,k2 _ _ q,r⟩
 have ZZ:DL prog w h2.objs.size l s.heap.objs.size items qs s.heap:=⟨hn,he,hk,hp,⟨_,hl,rfl,n,rfl⟩,λc o e=>⟨by have:=lt0 c o e;simp only[yR]at *;omega,by have:=lt0 c o e;simp only[yR]at *;omega⟩,by simp only[yR]at *;omega⟩
 refine zWY (A:=A.in1) ZZ hh qs.length 0 _ [] (by omega) (by simpa using hz) ⟨_,qB4 _ rfl,rfl,rfl⟩ (d2.push _) ex λh' tk' dr ex'=>⟨rfl,hQ h' tk' (by simpa using dr) ex'⟩
end
section
variable {X:Cx}
theorem zIF:∀(qs:List zED) (ps:List (Key×V)),qs.map (·.k)=ps.map (·.1)->(∀(i:Nat) (q:zED) (p:Key×V),qs[i]?=some q->ps[i]?=some p->RelV p.2 q.v)->∀{kvs:List (Key×V)}{vs:List (Key×yU)},KV kvs vs->KV (zBs kvs ps) (stoQ vs qs)
 |[],[],_,_,kvs,vs,r=>r
 |[],_::_,h,_,_,_,_=>by cases h
 |_::_,[],h,_,_,_,_=>by cases h
 |q::qs,p::ps,h,hr,kvs,vs,r=>by rw[qB8,qB8,qM0.injEq]at h;have:=zIF qs ps h.2 (λi q p e1 e2=>hr (i+1) q p (by simpa using e1) (by simpa using e2)) (r.put q.k (hr 0 q p rfl rfl));show KV (zBs (putK kvs p.1 p.2) ps) (stoQ (dM vs q.k q.v) qs);rw[<- h.1];exact this
def Prs(H:Hp):List V->List (Key×V)->Prop:=lO λv (p:Key×V)=>∃t,v=.ref t/\H t=some (.tup [kV p.1,p.2])
theorem zVp{pins:yD}{Z:St}{H:Hp}{s:yS}(I:Inv X pins Z H s):∀{xs:List V}{ps:List (Key×V)}{us:yB},Prs H xs ps->Vals xs us->∃qs:List zED,us.length=qs.length/\(∀(i:Nat) (q:zED),qs[i]?=some q->us[i]?=some (Value.ref q.t))/\(∀q∈qs,(zA9 X.prog X.w).is q.k q.key=true)/\(∀q∈qs,q.at s.heap)/\qs.map (·.k)=ps.map (·.1)/\∀(i:Nat) (q:zED) (p:Key×V),qs[i]?=some q->ps[i]?=some p->RelV p.2 q.v:=by
 intro xs ps us h
 induction h generalizing us with
 |nil=>intro r;cases r;exact⟨[],rfl,λi q e=>(by simp at e),λq h=>(by cases h),λq h=>(by cases h),rfl,λi q p e=>(by simp at e)⟩
 |@cons x p xs ps hx _ ih =>
  intro r;obtain⟨t,rfl,ht⟩:=hx;cases r with
  |@cons _ u _ us ru r =>
   cases (show u=Value.ref t from ru);obtain⟨qs,q1,q2,q3,q4,q5,q6⟩:=ih r;obtain⟨its,rv,⟨o,ho,hc,n,hd⟩,_⟩:=I.tuple (SqT.of ht);obtain⟨k,v,rfl,rk,rvv⟩:=zLM rv;refine⟨⟨t,p.1,k,v⟩::qs,by simp[q1],λi q e=>?_,λq hq=>?_,λq hq=>?_,by simp[q5],λi q p' e1 e2=>?_⟩
   ·cases i with
    |zero=>simp at e;subst e;rfl
    |succ i=>exact q2 i q (by simpa using e)
   ·rcases qB0.mp hq with rfl|hq
    ·exact zKh (P:=X.prog) (w:=X.w) rk
    ·exact q3 q hq
   ·rcases qB0.mp hq with rfl|hq
    ·exact⟨o,n,ho,hc,hd⟩
    ·exact q4 q hq
   ·cases i with
    |zero=>simp at e1 e2;subst e1 e2;exact rvv
    |succ i=>exact q6 i q p' (by simpa using e1) (by simpa using e2)
theorem zMr(hc:X.calm=true):zBN X (.type "dict") (λvs H Q=>∃(l:yR) (xs:List V) (ps:List (Key×V)),vs=[.ref l]/\H l=some (.lst xs)/\Prs H xs ps/\xs.length<=jA/\∀q,H q=none->Q (.ref q) (upd H q (.dK (zBs [] ps)))):=by
 intro pins s Z H vs us Q I r h;obtain⟨l,xs,ps,rfl,hl,hp,hz,q⟩:=h;obtain⟨u,rfl,ru⟩:=zDd r;cases ru;obtain⟨_,its,n,rv,_,e⟩:=I.lstM hl;obtain⟨qs,q1,q2,q3,q4,q5,q6⟩:=zVp I hp rv;have hlen:qs.length<=sizeLine:=by rw[<- q1,<- rv.length];exact hz
 refine zIf (I.ok.hd hc) e (by simpa using q1) (λi q e=>by simpa using q2 i q e) q3 q4 hlen λh' tk dr ex=>?_;have km:=zIF qs ps q5 q6 (kvs:=[]) (vs:=[]) .nil;have hlo:(s.heap.objs.size == vG)=false:=(zI5 (P:=X.prog) (w:=X.w) (H:=H) s.heap I.big).2.1;refine⟨.ref s.heap.objs.size,upd H s.heap.objs.size (.dK (zBs [] ps)),I.laid (t':=tk) ex (qA6 _) (zLB ?_ hlo km dr),rfl,q _ (I.hok.fresh (qA6 _))⟩;refine qD0 (zC8 ps []) ?_;have:=congrArg qK5 q5;simp at this;simp;omega
end
noncomputable def ltn(x y:yV):Bool:=decide (dR x.1<dR y.1)
theorem zT8:Swo ltn:=⟨λx y h=>by
 have:=of_decide_eq_true h;exact decide_eq_false (by omega),λx y z h k=>by
 have:=of_decide_eq_false h;have:=of_decide_eq_false k;exact decide_eq_false (by omega)⟩
theorem zHN:∀{vs:yB},(∀v∈vs,∃i t,v=Value.int i t)->wL vs (vs.map dR)
 |[],_=>.nil
 |v::vs,h=>by obtain⟨i,t,rfl⟩:=h v (qE8 ..);exact .cons i t (zHN λu hu=>h u (qC1 _ hu))
section
variable {prog:y7}{w:jD}{A:jE}{E:yL}{s:yS}
theorem zQw:Asks prog w A s oneType' ltn (λx=>∃i t,x.1=Value.int i t):=by rintro⟨x,x'⟩ ⟨y,y'⟩ ⟨i,t,hx⟩ ⟨j,u,hy⟩ Q hq;dsimp only at hx hy hq ⊢;subst hx hy;unfold ltn at hq;rw[keyLt'_oneType];exact oneLt_int hq
theorem zN0{a:yR}{vs:yB}{n:Nat}{P:Fin->yS->Prop}(ho:s.heap.get? a=some (wG "list" vs.toArray n))(hv:∀v∈vs,∃i t,v=Value.int i t)(hz:vs.length<=jA)
  (h:∀out:yB,out.Perm vs->out.Pairwise (λx y=>decide (dR y<dR x)=false)->P (.done (.ret .none)) { s with heap:=sortedHeap s.heap a vs out.toArray }) :
  yX (yW prog w) A (Builtin.«list.sort» ⟨[.ref a],[]⟩) P E s:=by
 rw[list_sort_plain];have ha:a<s.heap.objs.size:=qB3 ho;refine yO (listItems_at ho rfl ?_);refine yO (mS ho rfl ?_ (by rw[qB1];exact hz) (qH4 _));obtain⟨e1,ho1⟩:∃e1,(s.heap.update a (wD λ_=>#[])).get? a=some (wG "list" #[] e1):=⟨_,get?_update_seq ho (λ_=>#[])⟩
 refine yO (dS ho1 rfl ?_);refine yO (wpAny_newTuple ?_ hz);refine yO (mP ?_ (qH4 _));refine jO ?_;obtain⟨h6,e6⟩:∃h6,((s.heap.update a (wD λ_=>#[])).push (wG "tuple" vs.toArray 0)).push (wG "list" #[] 0)=h6:=⟨_,rfl⟩
 have ho6:h6.get? a=some (wG "list" #[] e1):=by rw[<- e6,qQ1 _ _ _ (by rw[mY,qN2];exact qC4 (qF1 ha)),qQ1 _ _ _ (by rw[qN2];exact qC4 ha)];exact ho1
 show yX (yW prog w) A _ P E { s with heap:=((s.heap.update a (wD λ_=>#[])).push (wG "tuple" vs.toArray 0)).push (wG "list" #[] 0) };rw[e6];dsimp only;have fin:∀out:yB,out.Perm vs->out.Pairwise (λx y=>decide (dR y<dR x)=false)->P (.done (.ret .none)) { s with heap:=h6.update a (wD λ_=>out.toArray) }:=λout a1 a2=>by rw[<- e6];exact h out a1 a2
 have hsz:vs.toArray.size=vs.length:=by simp
 by_cases h2:vs.toArray.size<2
 ·rw[if_pos h2,if_pos h2];refine yO (yP ?_);rw[StateT.run_pure];refine yO (yP ?_);dsimp only;refine yO (dS ho6 rfl ?_);have eo:((vs.toArray.zip vs.toArray).map (·.2))=vs.toArray:=by apply fD;simp;exact qQ8 (qA6 _)
  rw[eo];refine yO (mS ho6 rfl ?_ (hsz2:=by rw[qB1];omega));simp only[bne_self_eq_false,qE3,if_false];refine yP (fin vs (.refl _) ?_)
  match vs,hsz,h2 with
  |[],_,_=>exact .nil
  |[v],_,_=>exact qE4 ..
  |_::_::_,hs,h2=>exact absurd h2 (by simp)
 ·rw[if_neg h2,if_neg h2];have hkk:keyKind' vs.toArray=pure oneType':=by
   match vs,hv,h2 with
   |[],_,h2=>exact absurd (by simp) h2
   |[_],_,h2=>exact absurd (by simp) h2
   |v₁::v₂::rest,hv,_=>exact keyKind_ints (zHN hv)
  rw[hkk];refine yO (yP ?_);have ez:vs.toArray.zip vs.toArray=(vs.zip vs).toArray:=by simp
  rw[ez];refine yO (jK (zS8 (l:=vs.zip vs) (s:={ s with heap:=h6 }) (Q:=λ_ st'=>∃l',arrOf st'=l'.toArray/\failedOf st'=none/\l'.Perm (vs.zip vs)/\Srt ltn l') zT8 (zQw (s:={ s with heap:=h6 })) (λx hx=>hv _ (dI hx).2) (by simp;omega)
   λl' st' a1 a2 a3 a4=>⟨l',a1,a2,a3,a4⟩) ?_ λ_ _ e=>e)
  rintro⟨⟨⟩,st'⟩ s' ⟨rfl,l',e1',hf,hp,hs⟩;dsimp only;refine yO (dS ho6 rfl ?_);have eo:(arrOf st').map (·.2)=(l'.map (·.2)).toArray:=by rw[e1'];simp
  have po:(l'.map (·.2)).Perm vs:=by have:=hp.map (·.2);rwa[qQ8 (qA6 _)]at this
  rw[eo];refine yO (mS ho6 rfl ?_ (hsz2:=by rw[qB1,po.length_eq];omega));rw[hf];simp only[bne_self_eq_false,qE3,if_false];refine yP (fin _ po ?_);rw[qQ2];refine hs.imp_of_mem λ{x y} hx hy hxy=>?_;have m1:=dI (hp.mem_iff.mp hx);have m2:=dI (hp.mem_iff.mp hy);unfold ltn at hxy;rw[<- m1.1,<- m2.1];exact hxy
variable {r:yR}
theorem zLU{Q:yL}{ns:yA}(hl:ns.length<=5000)
  (hc:∀(A:jE) (E:yL) (R:yB->yS->Prop),A.handled=none->(∀(h':jC) (tk:Nat) (dr:Drawn) (us:yB) (ms:yA),(∀b o,s.heap.get? b=some o->h'.get? b=some o)->wL us ms->ms.Perm ns->R us { s with heap:=h',toks:=tk,drawn:=dr })->yX (yW prog w) A (collect (.ref r)) R E s)
  (hh:A.handled=none)
  (h:∀(h1:jC) (l:yR) (h':jC) (tk:Nat) (dr:Drawn) (e:Nat) (us:yB) (ms:yA),(∀b o,s.heap.get? b=some o->h1.get? b=some o)->(∀b o,h1.get? b=some o->h'.get? b=some o)->h1.objs.size<=l->h'.get? l=some (wG "list" us.toArray e)->wL us ms->ms.Perm ns->ms.Pairwise (·<=·)->Q (.ref l) { s with heap:=h',toks:=tk,drawn:=dr }) :
  yX (yW prog w) A (call (.builtin "sorted") [.ref r]) Q E s:=by
 refine gE kind_sorted plain_sorted entry_sorted (args_sorted1 _) ?_;unfold Builtin.«sorted»;refine yO (m:=checkCount "sorted" 1 1 _) (yP ?_);refine yO (hc _ _ _ hh λh' tk dr us ms hk hi hp=>?_);have hlen:us.length=ns.length:=by
  rw[<- hp.length_eq];clear hk hp
  induction hi with
  |nil=>rfl
  |cons _ _ _ ih=>simp[ih]
 refine yO (mP ?_ (by rw[hlen,vX];omega));have hoL:(h'.push (wG "list" us.toArray 0)).get? h'.objs.size=some (wG "list" us.toArray 0):=qB4 _ rfl;show yX _ _ _ _ _ { s with heap:=h'.push (wG "list" us.toArray 0),toks:=tk,drawn:=dr };refine yO (jO (jN slot_list_sort ⟨_,hoL,rfl⟩ entry_list_sort (zN0 hoL (λv hv=>hi.all v hv) (by rw[hlen,vX];omega) λout p so=>⟨_,rfl,?_⟩) (args_list_sort _)));obtain⟨e,he⟩:=sortedHeap_at (out:=out.toArray) hoL;refine yP ⟨_,rfl,h h' h'.objs.size _ tk dr e out (out.map dR) hk (λb o g=>?_) (qA6 _) (by simpa using he) (zHN λv hv=>hi.all v (p.mem_iff.mp hv)) ((p.map dR).trans (by rw[hi.nums];exact hp)) (by rw[qQ2];exact so.imp λh=>by have:=of_decide_eq_false h;omega)⟩;have lt:b<h'.objs.size:=qB3 g;rw[sortedHeap_old (qC4 lt) (by rw[mY];exact qF1 lt)];exact qA5 _ g
end
theorem zId{X:Cx}(hc:X.calm=true):zBN X (.builtin "sorted") (λvs H Q=>∃(p:yR) (kvs:List (Key×V)) (ns:yA),vs=[.ref p]/\H p=some (.dK kvs)/\kvs.map (·.1)=ns.map Sum.inl/\ns.length<=5000/\∀(l:yR) (ms:yA),H l=none->ms.Perm ns->ms.Pairwise (·<=·)->Q (.ref l) (upd H l (.lst (ms.map V.int)))):=by
 intro pins s Z H xs us Q I r h;obtain⟨p,kvs,ns,rfl,hp,hk,hn,q⟩:=h;obtain⟨u,rfl,ru⟩:=zDd r;cases ru;obtain⟨hz,lo,vs,kv,dd⟩:=zOM I.hok hp;obtain⟨ep,hat⟩:=dd.dictAt;have hl:vs.length=ns.length:=by rw[<- Paired.length kv,<- qA8 (f:=(·.1)),hk,qA8]
 refine zLU hn (λA E R hA hR=>W.kdu_collect (W.kdl_dict (knd:=zA9 X.prog X.w) (kvs:=vs) (ep:=ep) lo) hA hat (by rw[hl,vX];omega) λh' tk acc hk2 hacc=>hR h' tk s.drawn _ ns hk2 ?_ (.refl _)) (I.ok.hd hc) λh2 l2 h3 tk3 dr e us ms k2 k3 le g3 hi hpm hw=>?_
 ·refine zKj _ _ (by rw[vT,hacc.1,hl]) λj v n e1 e2=>?_;obtain⟨k,x,e3,e4⟩:∃k x,vs[j]?=some (k,x)/\(zA9 X.prog X.w).is k v=true:=hacc.2 j v (by rw[<- wA];exact e1);obtain⟨q1,e5,e6,_⟩:=zEr kv e3;have e7:(kvs.map (·.1))[j]?=some k:=by rw[qC0,e5];exact congrArg some e6
  rw[hk,qC0,e2]at e7;cases e7;cases v<;>first|exact absurd e4 qA9|skip
  rename_i i t;have:i=n:=by simpa[zA9,zHL,Value.isInt]using e4
  subst this;exact⟨t,rfl⟩
 ·have I2:Inv X pins Z H { s with heap:=h2,toks:=tk3,drawn:=dr }:=(I.kept (t':=tk3) λb o e=>k2 b o e).dr dr;refine⟨.ref l2,_,I2.laid (t':=tk3) (o:=.lst (ms.map V.int)) k3 le ?_,rfl,q _ _ (I2.hok.fresh le) hpm hw⟩;have hl2:ms.length<=5000:=by rw[hpm.length_eq];exact hn
  exact⟨by rw[qA8];exact qD0 hl2 (by decide),us,e,zFH hi,by simpa[wG]using g3⟩
theorem zFq:∀{ns:yA}{us:yB},Vals (ns.map V.int) us->∃xs:List (Int×Tok),us=xs.map (λp=>Value.int p.1 p.2)/\xs.map (·.1)=ns
 |[],us,h=>by cases h;exact⟨[],rfl,rfl⟩
 |n::ns,us,h=>by
  cases h with
  |cons h1 h2 =>
   obtain⟨t,rfl⟩:=h1;obtain⟨xs,rfl,e⟩:=zFq h2;exact⟨(n,t)::xs,rfl,by simp[e]⟩
section
variable {X:Cx}
theorem zPh{xs:List (Int×Tok)}{ns:yA}{j:Nat}{v:yU}(e:xs.map (·.1)=ns)(h:(lY xs.toArray)[j]?=some v):∃M t,v=Value.int M t/\M=numAt xs.toArray j/\M∈ns:=by
 obtain⟨t,rfl⟩:=intItems_at h;refine⟨_,t,rfl,rfl,?_⟩;have hj:j<xs.length:=by have:=(Array.getElem?_eq_some_iff.mp h).1;simpa[lY]using this
 rw[numAt_eq];subst e;simp only[qK0];rw[qA4 (by simpa using hj)];exact qD7 _
theorem zP6(hc:X.calm=true):zBN X (.builtin "min") (λvs H Q=>∃(p:yR) (ns:yA),vs=[.ref p]/\SqL X.K H p (ns.map V.int)/\0<ns.length/\∀M,M∈ns->(∀a∈ns,M<=a)->Q (.int M) H):=by
 intro pins s Z H xs us Q I r h;obtain⟨p,ns,rfl,hq,hl,q⟩:=h;obtain⟨u,rfl,ru⟩:=zDd r;cases ru;obtain⟨its,rv,pl,hz⟩:=I.list hq;obtain⟨ps,rfl,e⟩:=zFq rv;have hlen:ps.length=ns.length:=by rw[<- e];simp
 have hi:s.heap.IsList p (lY ps.toArray):=by have:=pl.isList;simpa[lY]using this
 refine min_intList (I.ok.hd hc) hi (by simp;omega) λv h' tk hv k=>?_;obtain⟨M,t,rfl,hM,hm⟩:=zPh e hv;refine⟨.int M,H,I.kept k,⟨t,rfl⟩,q M hm λa ha=>?_⟩;obtain⟨j,hj,rfl⟩:=qL8 ha;have:=(argBest_lt (numAt ps.toArray) (ps.toArray.size - 1)).2 j (by simp;omega);rw[hM];refine qQ3 this ?_;rw[numAt_eq,qP2,e];simp[qK0,hj]
theorem zP8(hc:X.calm=true):zBN X (.builtin "max") (λvs H Q=>∃(p:yR) (ns:yA),vs=[.ref p]/\SqL X.K H p (ns.map V.int)/\0<ns.length/\∀M,M∈ns->(∀a∈ns,a<=M)->Q (.int M) H):=by
 intro pins s Z H xs us Q I r h;obtain⟨p,ns,rfl,hq,hl,q⟩:=h;obtain⟨u,rfl,ru⟩:=zDd r;cases ru;obtain⟨its,rv,pl,hz⟩:=I.list hq;obtain⟨ps,rfl,e⟩:=zFq rv;have hlen:ps.length=ns.length:=by rw[<- e];simp
 have hi:s.heap.IsList p (lY ps.toArray):=by have:=pl.isList;simpa[lY]using this
 refine max_intList (I.ok.hd hc) hi (by simp;omega) λv h' tk hv k=>?_;obtain⟨M,t,rfl,hM,hm⟩:=zPh e hv;refine⟨.int M,H,I.kept k,⟨t,rfl⟩,q M hm λa ha=>?_⟩;obtain⟨j,hj,rfl⟩:=qL8 ha;have:=(argBest_gt (numAt ps.toArray) (ps.toArray.size - 1)).2 j (by simp;omega);rw[hM];refine qQ3 ?_ this;rw[numAt_eq,qP2,e];simp[qK0,hj]
end
def Trc(h:jC)(e T:yR)(cls:yU):Prop:=∃oe vs oT ts,h.get? e=some oe/\oe.cls=cls/\oe.data=.fields vs/\vs[1]?=some (.ref T)/\T≠e/\h.get? T=some oT/\oT.data=.fields ts/\ts[3]?=some .none
structure Lft(l:List Env)(wr:yC)(e:yR)(cls:yU)(h h':jC):Prop where
 keep:∀b o,h.get? b=some o->b∉wr->b∉frs l->h'.get? b=some o
 slot:∀b o,h.get? b=some o->b∉wr->∃sl,h'.get? b=some { o with slots:=sl }
 there:∀b o,h.get? b=some o->∃o',h'.get? b=some o'
 tr:∃T,h.objs.size<=T/\Trc h' e T cls
section
variable {M:mZ}{A:jE}{E:yL}{s:yS}{base:jC}{env:Env}{outer:List Env}{L e:yR}{oe:Obj}{vs:yJ}{Q:Unit->yS->Prop}
theorem zH7{h₁:jC}{pl:yB}{head:yU}{wr:yC}{h₀:jC}(hpl:IsPlace pl)(hs:Heap.SlotsOnly (frs (env::outer)) h₀ h₁)(he:h₁.get? e=some oe)(hd:oe.data=.fields vs)(hsz:1<vs.size)(hew:e∈wr)
  (hQ:∀h',Lft (env::outer) wr e oe.cls h₀ h'->Q () { s with heap:=h' }) :
  yX M A (EntryCells.newEntry head (.ref L) .none (j8 L) .none pl >>= λb=>setField (.ref e) 1 b) (λ_ s'=>yX M A (setFlight (.ref e) none) Q E s') E { s with heap:=h₁ }:=by
 obtain⟨ts,hts⟩:∃ts,([head,.ref L,.none,j8 L,.none]++(if pl.isEmpty then qE6 6 Value.none else pl)).toArray=ts:=⟨_,rfl⟩
 have t3:3<ts.size:=by rw[<- hts,qB1,qC3];simp only[qD4,qN5];omega
 unfold EntryCells.newEntry newFields;refine yO (jP ?_ (hpl.sizeOk5 _ _ _ _ _));rw[hts];have e2:=qA5 (h:=h₁) { cls:=.type "traceback",dict:=none,data:=.fields ts } he;refine wE e2 hd hsz ?_;have ne:h₁.objs.size≠e:=qG4 (qB3 he);have d3:=jR hd (·.setIfInBounds 1 (Value.ref h₁.objs.size));have e3:=qE7 (jV (·.setIfInBounds 1 (Value.ref h₁.objs.size))) e2 (jY d3);have T3:=(qE2 (h₁.push { cls:=.type "traceback",dict:=none,data:=.fields ts }) (jV (·.setIfInBounds 1 (Value.ref h₁.objs.size))) (Ne.symm ne)).trans (qB4 h₁ rfl);refine fK e3 d3 (by simp[hsz]) T3 rfl t3 (hQ _ ?_);have keep:∀b o,b≠e->h₁.get? b=some o->(((h₁.push { cls:=.type "traceback",dict:=none,data:=.fields ts }).update e (jV (·.setIfInBounds 1 (Value.ref h₁.objs.size)))).update h₁.objs.size (jV (·.setIfInBounds 3 .none))).get? b=some o:=λb o hbe hb=>by rw[qE2 _ _ (qG4 (qB3 hb)),qE2 _ _ (Ne.symm hbe)];exact qA5 _ hb
 have eE:=(qE2 ((h₁.push { cls:=.type "traceback",dict:=none,data:=.fields ts }).update e (jV (·.setIfInBounds 1 (Value.ref h₁.objs.size)))) (jV (·.setIfInBounds 3 .none)) ne).trans e3;have ew:∀b:yR,b∉wr->b≠e:=λb hb z=>hb (z▸hew);refine⟨λb o hb n1 n2=>keep b o (ew b n1) ((hs.2.1 b n2).trans hb),λb o hb n1=>?_,λb o hb=>?_,h₁.objs.size,Nat.le_of_eq hs.1.symm,_,_,_,_,eE,gG _ _,d3,by simp[hsz],ne,qE7 _ T3 (jY (jR rfl _)),jR rfl _,by simp[t3]⟩
 ·obtain⟨sl,q⟩:=hs.2.2 b o hb;exact⟨sl,keep b _ (ew b n1) q⟩
 ·obtain⟨sl,q⟩:=hs.2.2 b o hb;by_cases z:b=e
  ·exact⟨_,by rw[z];exact eE⟩
  ·exact⟨_,keep b _ z q⟩
theorem zM6(hfr:A.frames=some (env::outer))(hl:s.heap.FunFrames base (env::outer))(hf:env.frame=some L)(he:s.heap.get? e=some oe)(hd:oe.data=.fields vs)(h1:vs[1]?=some .none)
  (hQ:∀h',Lft (env::outer) [e] e oe.cls s.heap h'->Q () { s with heap:=h' }):yX M A (mH (.ref e) env) (λ_ s'=>yX M A (setFlight (.ref e) none) Q E s') E s:=by
 have nf:e∉frs (env::outer):=λhm=>by obtain⟨_,o,ho,hn⟩:=hl.mem hm;rw[he]at ho;cases ho;exact hn vs hd
 unfold mH;simp only[hf];refine yO (jZ he hd h1 ?_);rw[if_neg (by decide)];refine yO (wpAny_frameOf_fun hfr hl hf λh₁ hs=>yO (wpAny_entryPlaceOf λpl hpl=>?_));exact zH7 hpl hs ((hs.2.1 e nf).trans he) hd (Array.getElem?_eq_some_iff.mp h1).1 (by simp) hQ
theorem zFt{T:yR}{cls:yU}(hfr:A.frames=some (env::outer))(hl:s.heap.FunFrames base (env::outer))(hf:env.frame=some L)(ht:Trc s.heap e T cls)
  (hQ:∀h',Lft (env::outer) [e,T] e cls s.heap h'->Q () { s with heap:=h' }):yX M A (mH (.ref e) env) (λ_ s'=>yX M A (setFlight (.ref e) none) Q E s') E s:=by
 obtain⟨oe,vs,oT,ts,he,rfl,hd,h1,nT,hT,hdT,h3⟩:=ht;have t3:=(Array.getElem?_eq_some_iff.mp h3).1;unfold mH;simp only[hf];refine yO (jZ he hd h1 ?_);rw[if_pos (show(Value.ref T != Value.none)=true from by simp)];refine yO (jZ hT hdT h3 ?_);rw[if_neg (show ¬((Value.none == j8 L)=true)from by simp[j8])];refine yO (wE hT hdT t3 ?_);obtain⟨h0,hh0⟩:∃h0,s.heap.update T (jV (·.setIfInBounds 3 Value.none))=h0:=⟨_,rfl⟩
 have oth:∀b,b≠T->h0.get? b=s.heap.get? b:=λb hb=>by rw[<- hh0];exact qE2 _ _ (Ne.symm hb)
 have sz:h0.objs.size=s.heap.objs.size:=by rw[<- hh0];exact qN2 _ _ _
 have atT:∃o',h0.get? T=some o':=⟨_,by rw[<- hh0];exact qE7 _ hT (jY (jR hdT _))⟩
 rw[hh0];have he0:h0.get? e=some oe:=(oth e (Ne.symm nT)).trans he;have hl0:h0.FunFrames base (env::outer):=hl.of_keeps λb o hb hnf=>⟨o,(oth b λz=>by rw[z,hT]at hb;cases hb;exact hnf ts hdT).trans hb,rfl⟩
 have nf:e∉frs (env::outer):=λhm=>by obtain⟨_,o,ho,hn⟩:=hl0.mem hm;rw[he0]at ho;cases ho;exact hn vs hd
 refine yO (wpAny_frameOf_fun (s:={ s with heap:=h0 }) hfr hl0 hf λh₁ hs=>yO (wpAny_entryPlaceOf λpl hpl=>?_));refine zH7 (s:=s) hpl hs ((hs.2.1 e nf).trans he0) hd (Array.getElem?_eq_some_iff.mp h1).1 (wr:=[e,T]) (by simp) λh' lf=>hQ h' ?_;have nT':∀b:yR,b∉[e,T]->b≠T:=λb hb z=>hb (by rw[z];simp);refine⟨λb o hb n1 n2=>lf.keep b o ((oth b (nT' b n1)).trans hb) n1 n2,λb o hb n1=>lf.slot b o ((oth b (nT' b n1)).trans hb) n1,λb o hb=>?_,by rw[<- sz];exact lf.tr⟩;by_cases z:b=T
 ·obtain⟨o',q⟩:=atT;exact lf.there b o' (by rw[z];exact q)
 ·exact lf.there b o ((oth b z).trans hb)
end
inductive CX1(P:y7)(w:jD)(outer:List Env)(H:Hp)(s:yS)(E:XK)(ev:yU)(s':yS):Prop
 |mk (e T:yR) (C:yU) (H':Hp) (eq:ev=.ref e) (tr:Trc s'.heap e T C) (ne:s.heap.get? e=none) (nT:s.heap.get? T=none) (os:s'.os=s.os) (bare:fT s'.gens) (un:Un (frs outer) [] H H' s.heap s'.heap) (hok:HOk P w H' s'.heap) (he:H' e=none) (hT:H' T=none) (w:E C none H')
theorem zBL.here{P:y7}{w:jD}{H:Hp}{h:jC}{a:yR}{o:HO}(x:zBL P w H h a o):∃ob,h.get? a=some ob:=by
 cases o with
 |lst xs=>obtain⟨_,_,_,_,e⟩:=x;exact⟨_,e⟩
 |tup xs=>obtain⟨_,_,_,ob,e,_⟩:=x;exact⟨ob,e⟩
 |dK kvs=>obtain⟨_,_,_,_,ob,_,_,e,_⟩:=x;exact⟨ob,e⟩
 |dT kvs=>obtain⟨_,_,_,_,ob,_,_,e,_⟩:=x;exact⟨ob,e⟩
 |set S n=>obtain⟨ob,_,_,_,e,_⟩:=x;exact⟨ob,e⟩
 |ins C dx fs=>obtain⟨_,_,_,e,_⟩:=x;exact⟨_,e⟩
 |own y=>exact x
 |xd fs=>obtain⟨_,⟨ob,_,_,e,_⟩,_⟩:=x;exact⟨ob,e⟩
 |rng lo hi=>obtain⟨_,_,_,e⟩:=x;exact⟨_,e⟩
 |frz ob u=>exact⟨ob,x.1⟩
 |tbl ps=>exact⟨_,x⟩
 |met f y=>exact⟨_,x⟩
 |ext φ=>exact x.2.1
section
variable {X:Cx}{pins:yD}{Z:St}{H:Hp}{s:yS}{E:XK}{e T:yR}{C:yU}{wr:yC}{h':jC}
structure Own1(X:Cx)(E:XK):Prop where
 xe:X.xe=λe s'=>yX (yW X.prog X.w) X.A (dW X.env e) (λ_ s''=>CX1 X.prog X.w X.outer X.H₀ X.s₀ E e s'') (λe' s''=>CX1 X.prog X.w X.outer X.H₀ X.s₀ E e' s'') s'
 stk:X.stack=X.env::X.outer
 fr:X.env.frame=some X.env.locals
 ex:X.ex=[]
theorem zOw(o:Own1 X E):frs X.stack=X.env.locals::X.fs:=by rw[o.stk];show List.filterMap (·.frame) (X.env::X.outer)=_;rw[qG9,o.fr];rfl
theorem zQF(I:Inv X pins Z H s)(lf:Lft X.stack wr e C s.heap h')(hw:∀b∈wr,H b=none):HOk X.prog X.w H h':=λa o q=>(I.hok a o q).stay (λb u hb r=>by
 have hs:∃z,H b=some z:=by
  rcases hb with rfl|hb
  ·exact⟨o,q⟩
  ·exact⟨_,hb⟩
 obtain⟨z,hz⟩:=hs;refine lf.keep b u r (λm=>?_) λm=>?_
 ·rw[hw b m]at hz;cases hz
 ·rw[I.stkFree b m]at hz;cases hz) (λ_ r=>r) λ_ _ r=>r
theorem zRz(o:Own1 X E)(I:Inv X pins Z H s)(lf:Lft X.stack wr e C s.heap h')(hw:∀b∈wr,X.s₀.heap.get? b=none/\H b=none)(he:e∈wr)(hE:E C none H):CX1 X.prog X.w X.outer X.H₀ X.s₀ E (.ref e) { s with heap:=h' }:=by
 obtain⟨T,hT,tr⟩:=lf.tr;have fr:=zOw o;have ex:∀b,b∉X.ex:=λb hb=>by rw[o.ex]at hb;cases hb
 have n0:∀b ob,X.s₀.heap.get? b=some ob->b∉wr:=λb ob q m=>by rw[(hw b m).1]at q;cases q
 have nL:∀b ob,X.s₀.heap.get? b=some ob->b≠X.env.locals:=λb ob q=>qC4 (qB2 (qB3 q) I.ok.above);have T0:X.s₀.heap.get? T=none:=by
  cases q:X.s₀.heap.get? T with
  |none=>rfl
  |some ob =>
   obtain⟨o',q'⟩:=I.base.there T ob q (ex T);exact absurd (qB3 q') (Nat.not_lt.mpr hT)
 refine⟨e,T,C,H,rfl,tr,(hw e he).1,T0,I.os,I.bare,⟨λb ob q n hb _=>?_,λb ob q n hb _=>?_,λb ob q n _=>I.base.free b ob q n (ex b),λb ob q _=>?_,I.base.tups,I.base.frzs,I.base.tbls⟩,zQF I lf λb m=>(hw b m).2,(hw e he).2,I.hok.fresh hT,hE⟩
 ·refine lf.keep b ob (I.base.keep b ob q n hb (ex b)) (n0 b ob q) ?_;rw[fr];exact λm=>(qB0.mp m).elim (nL b ob q) hb
 ·obtain⟨sl,q1⟩:=I.base.slot b ob q n hb (ex b);obtain⟨sl',q2⟩:=lf.slot b _ q1 (n0 b ob q);exact⟨sl',q2⟩
 ·obtain⟨o',q1⟩:=I.base.there b ob q (ex b);exact lf.there b o' q1
theorem zM4(o:Own1 X E):zHj (CX1 X.prog X.w) X E:=by
 intro pins Z H s ev s' I h;obtain⟨e,T,C,H',rfl,tr,ne,nT,os,bare,un,hok,he,hT,hE⟩:=h;have I':Inv X pins Z H' s':=I.call' os un hok bare λb z=>absurd z (by simp);rw[o.xe];unfold dW;have z0:∀b,s.heap.get? b=none->X.s₀.heap.get? b=none:=λb hb=>by
  cases q:X.s₀.heap.get? b with
  |none=>rfl
  |some ob =>
   obtain⟨o',q'⟩:=I.base.there b ob q (by rw[o.ex];simp);rw[hb]at q';cases q'
 have fl:=I'.stack;have fr:=I'.ok.frames;rw[o.stk]at fl fr;refine yO (zFt fr fl o.fr tr λh' lf=>zRz o I' (by rw[o.stk];exact lf) (λb hb=>?_) (by simp) hE);simp only[qB0,qD3,or_false]at hb;rcases hb with rfl|rfl
 ·exact⟨z0 _ ne,he⟩
 ·exact⟨z0 _ nT,hT⟩
def zKP(X:Cx)(E:XK):Prop:=∀(pins:yD) (Z:St) (H:Hp) (s:yS) (h':jC) (e C:yR) (vs:yB),Inv X pins Z H s->qR9 s.heap h' e (.ref C) vs->E (.ref C) none H->X.xe (.ref e) { s with heap:=h' }
theorem zSV(o:Own1 X E):zKP X E:=by
 intro pins Z H s h' e C vs I mk hE;have I':Inv X pins Z H { s with heap:=h' }:=I.kept (t':=s.toks) mk.keeps;obtain⟨t,he,_,_⟩:=mk.there;have e0:X.s₀.heap.get? e=none:=by
  cases q:X.s₀.heap.get? e with
  |none=>rfl
  |some ob =>
   obtain⟨o',q'⟩:=I.base.there e ob q (by rw[o.ex];simp);rw[mk.new]at q';cases q'
 have hH:H e=none:=by
  cases q:H e with
  |none=>rfl
  |some u =>
   obtain⟨o',q'⟩:=(I.hok e u q).here;rw[mk.new]at q';cases q'
 have fl:=I'.stack;have fr:=I'.ok.frames;rw[o.stk]at fl fr;rw[o.xe];unfold dW;refine yO (zM6 (s:={ s with heap:=h' }) fr fl o.fr he rfl rfl λh'' lf=>zRz o I' (by rw[o.stk];exact lf) (λb hb=>?_) (by simp) hE);simp only[qB0,qD3,or_false]at hb;subst hb;exact⟨e0,hH⟩
end
noncomputable abbrev VEs:yB:=[.type "ValueError",.type "Exception",.type "BaseException",.type "object"]
def ExcK(K:yQ)(C:yR):Prop:=W.excIn K C VEs "ValueError.__new__"=true
theorem zWT{K:yQ}{C:yR}(h:ExcK K C):∃bm N nm q bs hdct sn sub ab col dd k0 k1 k2 k3 k5,K.lookup C=some (excClassObj nm q C N bs bm hdct sn sub ab col dd k0 k1 k2 k3 k5 "ValueError.__new__")/\W.tailIn K VEs bm=true/\W.nsOkIn K N=true/\gC K N "__init__"=some none:=by
 unfold ExcK W.excIn at h;split at h
 ·rename_i dd cd sl ho;split at h
  ·rename_i C' bm k0 k1 k2 k3 n k5 hm hs;simp only[qC5,beq_iff_eq,qG8]at h;obtain⟨⟨⟨⟨⟨rfl,rfl⟩,hdel⟩,ht⟩,hok⟩,hni⟩:=h;obtain⟨nm,bs,mro,ns,qn,hd,sn,sub,ab,col,del⟩:=cd;dsimp only at hm hdel hok hni;subst hm hdel;obtain⟨l⟩:=sl;dsimp only at hs;subst hs;exact⟨bm,ns,nm,qn,bs,hd,sn,sub,ab,col,dd,k0,k1,k2,k3,k5,ho,ht,hok,hni⟩
  ·cases h
 ·cases h
section
variable {X:Cx}{E:XK}{x:Str}{C:yR}{txt:Str}{j:Nat}{np p2 cpos pos:Pos}
def zUu(C:yR)(E:XK):TS:=λ_ _ H=>E (.ref C) none H
theorem zPO(hc:X.calm=true)(hg:Gl X x)(hm:X.mg x=some (.ref C))(hk:ExcK X.K C)(pn:zKP X E)(hd:nDb x):PS X (.Raise (some (.Call (.Name x np) [.Constant (.str txt) j p2] [] cpos)) none pos) (zUu C E):=by
 intro pins s Z H D I h;obtain⟨bm,N,nm,q,bs,hdct,sn,sub,ab,col,dd,k0,k1,k2,k3,k5,lk,ht,hok,hni⟩:=zWT hk;have T:=W.tail_of_in I.kIn ht;refine wpAny_Raise_call_subT (C:=C) (nm:=nm) (q:=q) (N:=N) (bs:=bs) (bm:=bm) (hdct:=hdct) (sn:=sn) (sub:=sub) (ab:=ab) (col:=col) (dd:=dd) (k0:=k0) (k1:=k1) (k2:=k2) (k3:=k3) (k5:=k5)
  PySem.F.excBase_ValueError (mN:=s.heap.nsMap N) (T.hasType (by decide)) (I.ok.hd hc) rfl (W.nsMap_none_of_in I.kIn hok hni) (zDj I hg hm ⟨rfl,?_⟩ hd)
 refine lW (wN (Calls.Constant_str (pos:=p2) (k:=j) (wV ?_)));have I2:Inv X pins Z H { s with toks:=s.toks+1 }:=I.tok _;exact⟨rfl,by show 1<=jA;decide,I2.kIn _ _ lk,.of_isNs (W.isNs_of_in I2.kIn hok),W.tail_of_in I2.kIn ht,λh' e mk=>pn pins Z H _ h' e C _ I2 mk h⟩
end
noncomputable def zI7(P:y7)(w:jD)(K:yQ)(mg:Str->yF)(base:jC)(N:yH)(qual:Str)(scope:jS)(f:yR)(cd:yU)(cl:List (Str×yR))(A:jE)(outer:List Env)(s:yS)(H:Hp)(E:XK):Cx where
 prog:=P
 w:=w
 K:=K
 mg:=mg
 base:=base
 A:=A.deeper (W.envX qual scope s.heap.objs.size f cd cl)
 N:=N
 s₀:=s
 H₀:=H
 env:=W.envX qual scope s.heap.objs.size f cd cl
 outer:=outer
 stack:=W.envX qual scope s.heap.objs.size f cd cl::outer
 ex:=[]
 calm:=true
 fn:=λ_=>false
 pn:=[]
 xe:=λe s'=>yX (yW P w) (A.deeper (W.envX qual scope s.heap.objs.size f cd cl)) (dW (W.envX qual scope s.heap.objs.size f cd cl) e) (λ_ s''=>CX1 P w outer H s E e s'') (λe' s''=>CX1 P w outer H s E e' s'') s'
structure zUa(N:yH)(Z:St)(scope:jS)(cl:List (Str×yR))(H:Hp)(h:jC):Prop where
 inj:∀x y c,cl.lookup x=some c->cl.lookup y=some c->x=y
 has:∀x,(scope.names.lookup x=some .cell∨scope.names.lookup x=some .free)->∃c,cl.lookup x=some c
 val:∀(i:Nat) (x:Str) (v:V),N[i]?=some x->Z[i]?=some (some v)->∃u c,RelV v u/\scope.names.lookup x=some .free/\cl.lookup x=some c/\h.IsCell c (some u)
 cell:∀x c,cl.lookup x=some c->(∃v,h.IsCell c v)/\H c=none
 len:Z.length=N.length
section
variable {P:y7}{w:jD}{K:yQ}{mg:Str->yF}{base:jC}{N:yH}{Z:St}{qual:Str}{scope:jS}{f:yR}{cd:yU}{cl:List (Str×yR)}{A:jE}{outer:List Env}{s:yS}{H:Hp}{E:XK}
theorem zJw{h h':jC}{c:yR}{v:yF}(x:h.IsCell c v)(k:∀o,h.get? c=some o->h'.get? c=some o):h'.IsCell c v:=let ⟨o,e,d⟩:=x;⟨o,k o e,d⟩
theorem zTk(e0:Env0 P w K mg base A outer s H)(hd:A.handled=none)(hk:scope.kind=.function)(L:zUa N Z scope cl H s.heap){h₁:jC}{tk:Tok}{m:Str->yF}(hns:h₁.Ns s.heap.objs.size m)(hk₁:∀b o,s.heap.get? b=some o->h₁.get? b=some o):
  Inv (zI7 P w K mg base N qual scope f cd cl A outer s H E) [] Z H { s with heap:=h₁,toks:=tk }:=by
 have noA:∀b:yR,b∉(zI7 P w K mg base N qual scope f cd cl A outer s H E).ex:=λb z=>absurd (show b∈([]:yC)from z) (by simp);refine⟨⟨e0.mod,hk,rfl,rfl,qA6 _,L.inj,L.has,λ_ _ z=>(by cases z),λ_=>hd,Around.frames_deeper e0.frames,.inr ⟨rfl,rfl⟩,λb z=>absurd z (noA b),e0.bs,e0.bsz,λb _ _=>noA b,λb z=>absurd z (noA b),e0.funs,e0.frf⟩,
  rfl,e0.bare,Un.kept hk₁,⟨m,hns,λi y v h1 h2 h3=>?_⟩,λy c h=>?_,e0.hok.fresh (qA6 _),λy c h=>(L.cell y c h).2,λp hp=>absurd (show p∈([]:yD)from hp) (by simp),e0.hok.kept hk₁,L.len⟩
 ·obtain⟨u,c,r,e1,e2,e3⟩:=L.val i y v h1 h2;exact⟨u,r,.inr ⟨.inr e1,c,e2,zJw e3 λo=>hk₁ c o⟩⟩
 ·obtain⟨v,x⟩:=(L.cell y c h).1;exact⟨v,zJw x λo=>hk₁ c o⟩
theorem zO8:Own1 (zI7 P w K mg base N qual scope f cd cl A outer s H E) E:=⟨rfl,rfl,rfl,rfl⟩
theorem zO7{k:Nat}{name:Str}{params:vQ}{body:y4}{pm ctv:yU}{t:TE}{Q:VK}(hr:Room k A)(hk1:1<=k)(e0:Env0 P w K mg base A outer s H)
  (ho:s.heap.get? f=some { cls:=.type "function",data:=.func (W.kla_fn name qual params body scope cl pm cd ctv) }) (hcd:s.heap.CodeRec cd qual)
  (hk:scope.kind=.function) (hco:scope.isCoroutine=false) (hgen:scope.isGenerator=false) (hcell:∀x∈scope.names,x.2≠.cell)
  (hb:bindArgs (W.kla_fn name qual params body scope cl pm cd ctv) ⟨[],[]⟩=pure []) (L:zUa N Z scope cl H s.heap)
  (hbody:PE (zI7 P w K mg base N qual scope f cd cl A outer s H E) body t) (ht:t Z H Q) :
  vU (yW P w) A (.call (.ref f) ⟨[],[]⟩) (CR (CX1 P w) outer P w H s Q E) s:=by have lim:s.heap.NoLimit:=e0.mod.nolimit.keeps λb o e=>(e0.bs b o e).1;have hr1:Room 1 A:=hr.mono hk1;refine W.kla_callFunE hr1.depth ho rfl hco hgen rfl hcd ?_;rw[hb];refine yP (wpAny_newFunctionEnv hcell (λ_ z=>nomatch z) (λh₁ hns hsb=>⟨lim.fresh _ hsb,?_⟩) hk);show vU _ _ (.expr body (W.envX qual scope s.heap.objs.size f cd cl)) _ _;have hk₁:∀b o,s.heap.get? b=some o->h₁.get? b=some o:=λb o e=>hsb.extBut b o (qC4 (qB3 e)) (qA5 _ e);refine W.kla_codeExpr (jK (hbody [] _ Z H Q (zTk e0 hr1.hd hk L hns hk₁) ht) (λv s' h=>?_) λ_ _ y=>y);obtain⟨v',H',I',r,q⟩:=h;exact⟨v',H',I'.os,I'.bare,I'.base,I'.hok,r,q⟩
end
structure New1(X:Cx)(pins:yD)(H:Hp)(b:yR):Prop where
 s0:X.s₀.heap.get? b=none
 h:H b=none
 l:b≠X.env.locals
 c:∀x c,X.env.cells.lookup x=some c->c≠b
 p:∀p∈X.pn++pins,p.1≠b
section
variable {X:Cx}{pins:yD}{Z:St}{H H':Hp}{s:yS}
theorem Inv.new1(I:Inv X pins Z H s)(hex:X.ex=[]){b:yR}(hb:s.heap.get? b=none)(hH:H' b=none):New1 X pins H' b:=by
 refine⟨?_,hH,λz=>?_,λx c e z=>?_,λp hp z=>?_⟩
 ·cases q:X.s₀.heap.get? b with
  |none=>rfl
  |some ob =>
   obtain⟨o',q'⟩:=I.base.there b ob q (by rw[hex];simp);rw[hb]at q';cases q'
 ·obtain⟨m,⟨o,es,ep,e,_⟩,_⟩:=I.loc;rw[<- z,hb]at e;cases e
 ·obtain⟨v,o,q,_⟩:=I.cell x c e;rw[z,hb]at q;cases q
 ·have q:=(I.pin p hp).1;rw[z,hb]at q;cases q
theorem Inv.touch(I:Inv X pins Z H s)(hex:X.ex=[]){h':jC}{wr:yC}(keep:∀b o,s.heap.get? b=some o->b∉wr->b∉frs X.stack->h'.get? b=some o)
  (slot:∀b o,s.heap.get? b=some o->b∉wr->∃sl,h'.get? b=some { o with slots:=sl }) (there:∀b o,s.heap.get? b=some o->∃o',h'.get? b=some o') (hw:∀b∈wr,New1 X pins H b):Inv X pins Z H { s with heap:=h' }:=by
 have ex:∀b,b∉X.ex:=λb hb=>by rw[hex]at hb;cases hb
 have n0:∀b ob,X.s₀.heap.get? b=some ob->b∉wr:=λb ob q m=>by rw[(hw b m).s0]at q;cases q
 have nL:∀b ob,X.s₀.heap.get? b=some ob->b≠X.env.locals:=λb ob q=>qC4 (qB2 (qB3 q) I.ok.above);have nS:∀b,b≠X.env.locals->b∉X.fs->b∉frs X.stack:=λb h1 h2 m=>(qB0.mp (I.stkSub b m)).elim h1 h2;refine⟨I.ok,I.os,I.bare,⟨λb ob q n hb _=>?_,λb ob q n hb _=>?_,λb ob q n _=>I.base.free b ob q n (ex b),λb ob q _=>?_,I.base.tups,I.base.frzs,I.base.tbls⟩,?_,λx c e=>?_,I.free,I.freeC,λp hp=>?_,?_,I.len⟩
 ·exact keep b ob (I.base.keep b ob q n hb (ex b)) (n0 b ob q) (nS b (nL b ob q) hb)
 ·obtain⟨sl,q1⟩:=I.base.slot b ob q n hb (ex b);obtain⟨sl',q2⟩:=slot b _ q1 (n0 b ob q);exact⟨sl',q2⟩
 ·obtain⟨o',q1⟩:=I.base.there b ob q (ex b);exact there b o' q1
 ·obtain⟨m,⟨o,es,ep,e,d,r⟩,hv⟩:=I.loc;obtain⟨sl,e'⟩:=slot _ _ e λz=>(hw _ z).l rfl;refine⟨m,⟨_,es,ep,e',d,r⟩,λi x v h1 h2 h3=>?_⟩;obtain⟨u,r,l⟩:=hv i x v h1 h2 h3;refine⟨u,r,?_⟩;rcases l with l|⟨k,c,e1,o2,e2,d2⟩
  ·exact .inl l
  ·obtain⟨sl2,e3⟩:=slot _ _ e2 λz=>(hw _ z).c x c e1 rfl;exact .inr ⟨k,c,e1,_,e3,d2⟩
 ·obtain⟨v,o2,e2,d2⟩:=I.cell x c e;obtain⟨sl2,e3⟩:=slot _ _ e2 λz=>(hw _ z).c x c e rfl;exact⟨v,_,e3,d2⟩
 ·obtain⟨p1,p2,p3,p4,p5⟩:=I.pin p hp;exact⟨keep _ _ p1 (λz=>(hw _ z).p p hp rfl) (nS _ p3 p4),p2,p3,p4,p5⟩
 ·exact λa o q=>(I.hok a o q).stay (λb u hb r=>by
   have hs:∃z,H b=some z:=by
    rcases hb with rfl|hb
    ·exact⟨o,q⟩
    ·exact⟨_,hb⟩
   obtain⟨z,hz⟩:=hs;refine keep b u r (λm=>?_) λm=>?_
   ·rw[(hw b m).h]at hz;cases hz
   ·rw[I.stkFree b m]at hz;cases hz) (λ_ r=>r) λ_ _ r=>r
noncomputable def Cx.marked(X:Cx)(e:yR):Cx:={ X with A:=X.A.mark (some (.ref e)),calm:=false,xe:=λ_ _=>False }
theorem Inv.marked(I:Inv X pins Z H s)(e:yR):Inv (X.marked e) pins Z H s :=
 ⟨⟨I.ok.mod,I.ok.kind,I.ok.glob,I.ok.blt,I.ok.above,I.ok.inj,I.ok.has,I.ok.cab,λz=>(by cases z),I.ok.frames,I.ok.stk,I.ok.exf,I.ok.bs,I.ok.bsz,I.ok.noex,I.ok.exfs,I.ok.funs,I.ok.frf⟩,I.os,I.bare,I.base,I.loc,I.cell,I.free,I.freeC,I.pin,I.hok,I.len⟩
theorem Inv.unmark{e:yR}(ok:X.Ok)(I:Inv (X.marked e) pins Z H s):Inv X pins Z H s:=⟨ok,I.os,I.bare,I.base,I.loc,I.cell,I.free,I.freeC,I.pin,I.hok,I.len⟩
theorem SP.unmark{e:yR}{D:Ends}{f:Flow}(ok:X.Ok)(h:SP (X.marked e) pins D f s):SP X pins D f s:=by
 cases f with
 |next=>obtain⟨Z',H',I,q⟩:=h;exact⟨Z',H',I.unmark ok,q⟩
 |brk=>obtain⟨Z',H',I,q⟩:=h;exact⟨Z',H',I.unmark ok,q⟩
 |cont=>obtain⟨Z',H',I,q⟩:=h;exact⟨Z',H',I.unmark ok,q⟩
 |ret u=>obtain⟨v,Z',H',I,r,q⟩:=h;exact⟨v,Z',H',I.unmark ok,r,q⟩
inductive HsOk(X:Cx)(j:Nat):List jW->List (yR×Str)->Prop
 |nil:HsOk X j [] []
 |cons {x y w:Str}{p q q2 q3 q4:Pos}{jj:Nat}{C:yR}{r:List jW}{ws:List (yR×Str)} (hg:Gl X x) (hm:X.mg x=some (.ref C)) (hd:nDb x) (hy:X.N[j]?=some y) (hl:X.env.scope.names.lookup y=some .local) (t:HsOk X j r ws) :
   HsOk X j (.ExceptHandler (some (.Name x p)) none [.Assign [.Name y q] (.Constant (.str w) jj q2) q3] q4::r) ((C,w)::ws)
inductive zIv(K:yQ)(cls:yU):List (yR×Str)->Str->Prop
 |here {C:yR}{w:Str}{r:List (yR×Str)} (h:gD K cls (.ref C)=some true):zIv K cls ((C,w)::r) w
 |there {C:yR}{v w:Str}{r:List (yR×Str)} (h:gD K cls (.ref C)=some false) (t:zIv K cls r w):zIv K cls ((C,v)::r) w
theorem zKq{e T:yR}{cls:yU}{j:Nat}{ws:List (yR×Str)}{w:Str}(pk:zIv X.K cls ws w)(hex:X.ex=[])(hN:X.N.Nodup)(I:Inv X pins Z H s)(tr:Trc s.heap e T cls)(nT:New1 X pins H T){D:Ends}(hD:D.nx (Z.set j (some (.str w))) H){E':yL}:
  ∀{hs:List jW},HsOk X j hs ws->yX (yW X.prog X.w) X.A (handleBy (.ref e) X.env hs) (SP X pins D) E' s:=by
 obtain⟨oe,vs,oT,ts,he,hcls,hd,h1,nTe,hT,hdT,h3⟩:=tr;have LT:W.Looks (yW X.prog X.w) s.heap (mX (.ref e)) cls:=hcls▸(W.Looks.ld he).andThen .now
 induction pk with
 |@here C w r h =>
  intro hs hk;cases hk with
  |@cons x y w p q q2 q3 q4 jj C r ws hg hm hdb hy hl t =>
   refine fS (wZ (zDj (X:=X.marked e) (I.marked e) hg hm ?_ hdb)) (by intro q;cases q);refine W.exm_one I.kIn LT h _ _ _ s (λ_ _ z=>z) ?_;refine codeAny_handlers_suite (fK he hd h1 hT hdT (Array.getElem?_eq_some_iff.mp h3).1 ?_);have up:∀b,b≠T->(s.heap.update T (jV (·.setIfInBounds 3 .none))).get? b=s.heap.get? b:=λb hb=>qE2 _ _ (Ne.symm hb);have I2:Inv X pins Z H { s with heap:=s.heap.update T (jV (·.setIfInBounds 3 .none)) }:=by
    refine I.touch hex (wr:=[T]) (λb o q n _=>(up b (by simpa using n)).trans q) (λb o q n=>⟨o.slots,(up b (by simpa using n)).trans q⟩) (λb o q=>?_) λb hb=>by simp at hb;subst hb;exact nT
    by_cases z:b=T
    ·subst z;exact⟨_,qE7 _ hT (jY (jR hdT _))⟩
    ·exact⟨o,(up b z).trans q⟩
   have ps:PSs (X.marked e) [.Assign [.Name y q] (.Constant (.str w) jj q2) q3] (tSeq (tAsg (tC (.str w)) (zHU j)) zPs):=zCC (zH5 zRi (zDg hN hy (.inl hl) (.inr hl))) zHy;exact jK (ps pins _ Z H D (I2.marked e) hD) (λf s2 z=>z.unmark I.ok) λ_ _ z=>False.elim z
 |@there C v w r h t ih =>
  intro hs hk;cases hk with
  |@cons x y w' p q q2 q3 q4 jj C r ws hg hm hdb hy hl tl =>
   refine fS (wZ (zDj (X:=X.marked e) (I.marked e) hg hm ?_ hdb)) (by intro q;cases q);refine W.exm_one I.kIn LT h _ _ _ s (λ_ _ z=>z) ?_;exact ih hD tl
def LamC(X:Cx)(f:yR)(H:Hp)(Q:VK)(E:XK):Prop:=∀pins Z s,Inv X pins Z H s->W.FnAt f s.heap/\vU (yW X.prog X.w) X.A (.call (.ref f) ⟨[],[]⟩) (CR (CX1 X.prog X.w) X.stack X.prog X.w H s Q E) s
def zY4(X:Cx)(i j:Nat)(ws:List (yR×Str))(f:yR):TS:=λD Z H=>Z[i]?=some (some (.ref f))/\LamC X f H (λ_ H'=>D.nx Z H') λC _ H'=>∃w,zIv X.K C ws w/\D.nx (Z.set j (some (.str w))) H'
theorem zSI{i j:Nat}{x:Str}{p1 p2 p3 p4:Pos}{h0:jW}{hs:List jW}{ws:List (yR×Str)}{f:yR}(stk:X.stack=X.env::X.outer)(fr:X.env.frame=some X.env.locals)(hex:X.ex=[])(hN:X.N.Nodup)(hi:X.N[i]?=some x)(hv:Vis X.env.scope x)
  (hdb:nDb x) (hcd:(x == ("__classdict__":Str))=false) (hk:HsOk X j (h0::hs) ws):PS X (.Try [.Expr (.Call (.Name x p1) [] [] p2) p3] (h0::hs) [] [] p4) (zY4 X i j ws f):=by
 intro pins s Z H D I h;obtain⟨hf,lc⟩:=h;refine wpAny_Try_except (gP (lP (vA ?_) I.quiet (by rfl)));refine jK (zIU (X:=X.nox) hi hv hdb hcd pins s Z H (λv H1=>v=.ref f/\H1=H) (I.wish _) ⟨.ref f,hf,rfl,rfl⟩) (λu s1 z=>?_) λ_ _ z=>False.elim z
 ·obtain⟨v,H1,I1,r,e1,e2⟩:=z;have I1:=I1.unwish;subst e1 e2;have eu:u=.ref f:=r;subst eu;obtain⟨fa,run⟩:=lc pins Z s1 I1;refine W.callWith_F0 fa (fZ (vR run λr s2 h=>?_));cases r with
  |error ev =>
   obtain⟨e,T,C,H',rfl,tr,ne,nT,os,bare,un,hok,he,hT,w,pk,hD⟩:=h;have I':Inv X pins Z H' s2:=I1.call' os un hok bare λb z=>absurd z (by simp);have fl:=I'.stack;have frm:=I'.ok.frames;rw[stk]at fl frm;refine zFt frm fl fr tr λh' lf=>?_;rw[<- stk]at lf;obtain⟨T',hT',tr'⟩:=lf.tr;have I2:Inv X pins Z H' { s2 with heap:=h' }:=I'.touch hex lf.keep lf.slot lf.there λb hb=>by
    simp only[qB0,qD3,or_false]at hb;rcases hb with rfl|rfl
    ·exact I1.new1 hex ne he
    ·exact I1.new1 hex nT hT
   exact zKq pk hex hN I2 tr' (I'.new1 hex (qL4 hT') (I'.hok.fresh hT')) hD hk
  |ok fl =>
   cases fl with
   |ret u =>
    obtain⟨v,H',I',_,q⟩:=I1.after h;exact vO (vO ⟨Z,H',I',q⟩)
   |next=>exact False.elim h
   |brk=>exact False.elim h
   |cont=>exact False.elim h
end
noncomputable def zMN(c y y':Str)(h0:jW)(hs:List jW)(p1 p2 p3 p4 p5 p6 p7 p8 p9:Pos)(j:Nat):List vI :=
 [.Assign [.Name y p1] (.Constant .none j p2) p3,.Try [.Expr (.Call (.Name c p4) [] [] p5) p6] (h0::hs) [] [] p7,.Return (some (.Name y' p8)) p9]
section
variable {X:Cx}
theorem zNi{c y:Str}{h0:jW}{hs:List jW}{p1 p2 p3 p4 p5 p6 p7 p8 p9:Pos}{j:Nat}{ws:List (yR×Str)}{f:yR}{H:Hp}{D:Ends}(stk:X.stack=X.env::X.outer)(fr:X.env.frame=some X.env.locals)(hex:X.ex=[])(hN:X.N=[c,y])(nd:c≠y)
  (hv:Vis X.env.scope c) (hc1:nDb c) (hc2:(c == ("__classdict__":Str))=false) (hl:X.env.scope.names.lookup y=some .local) (hy1:nDb y) (hy2:(y == ("__classdict__":Str))=false) (hk:HsOk X 1 (h0::hs) ws)
  (lc:LamC X f H (λ_ H'=>D.rt .non H') λC _ H'=>∃w,zIv X.K C ws w/\D.rt (.str w) H') {pins:yD}{s:yS} (I:Inv X pins (start [c,y] [.ref f]) H s) :
  yX (yW X.prog X.w) X.A (execs (zMN c y y h0 hs p1 p2 p3 p4 p5 p6 p7 p8 p9 j) X.env) (SP X pins D) X.xe s:=by
 have i0:X.N[0]?=some c:=by rw[hN];rfl
 have i1:X.N[1]?=some y:=by rw[hN];rfl
 have hn:X.N.Nodup:=by rw[hN];simp[nd]
 have a:=zH5 (pos:=p3) (zNt (X:=X) (j:=j) (pos:=p2)) (zDg (pos:=p1) hn i1 (.inl hl) (.inr hl));have b:=zSI (j:=1) (p1:=p4) (p2:=p5) (p3:=p6) (p4:=p7) (f:=f) stk fr hex hn i0 hv hc1 hc2 hk;have r:=zNj (pos:=p9) (zIU (pos:=p8) i1 (.inl hl) hy1 hy2);refine zCC a (zCC b (zCC r zHy)) pins s _ H D I ⟨rfl,λpins Z s I=>?_⟩;obtain⟨z1,z2⟩:=lc pins Z s I;refine⟨z1,vR z2 λr s' q=>?_⟩;cases r with
 |error ev =>
  obtain⟨e,T,C,H',rfl,tr,ne,nT,os,bare,un,hok,he,hT,w,pk,hD⟩:=q;exact⟨e,T,C,H',rfl,tr,ne,nT,os,bare,un,hok,he,hT,w,pk,.str w,rfl,hD⟩
 |ok fl =>
  cases fl with
  |ret u =>
   obtain⟨v,H',os,bare,un,hok,r,q⟩:=q;exact⟨v,H',os,bare,un,hok,r,.non,rfl,q⟩
  |next=>exact q
  |brk=>exact q
  |cont=>exact q
end
section
variable {P:y7}{w:jD}{K:yQ}{mg:Str->yF}{base:jC}
theorem zMR{x c y:Str}{st:vI}{fa f:yR}{fd:jX}{h0:jW}{hs:List jW}{p1 p2 p3 p4 p5 p6 p7 p8 p9:Pos}{j:Nat}{ws:List (yR×Str)}{A:jE}{outer:List Env}{s:yS}{H:Hp}{Q:VK}(F:Fun K x x st fa fd)(S:zE0 [c,y] [c] (zA1 st))(hb:zEm K fd [c] [])
  (hbody:zAr st=zMN c y y h0 hs p1 p2 p3 p4 p5 p6 p7 p8 p9 j) (hc1:nDb c) (hc2:(c == ("__classdict__":Str))=false) (hl:(zA1 st).names.lookup y=some .local) (hy1:nDb y) (hy2:(y == ("__classdict__":Str))=false)
  (hd:A.depth<lS) (hh:A.handled=none) (e0:Env0 P w K mg base A outer s H)
  (hk:∀cdv,HsOk (cxOf CX0 P w K mg base [c,y] x (zA1 st) fa cdv A outer s H E0) 1 (h0::hs) ws)
  (lc:∀cdv,LamC (cxOf CX0 P w K mg base [c,y] x (zA1 st) fa cdv A outer s H E0) f H (λ_ H'=>Q .non H') λC _ H'=>∃w,zIv K C ws w/\Q (.str w) H') :
  vU (yW P w) A (.call (.ref fa) ⟨[.ref f],[]⟩) (CR CX0 outer P w H s Q E0) s:=by
 obtain⟨oc,od,kV,doc,pm,an,cdv,ct,osl,rfl,lk,hcd⟩:=F.ex;have KX:K.In s.heap:=e0.mod.kin.keeps λb o e=>(e0.bs b o e).1;have lim:s.heap.NoLimit:=e0.mod.nolimit.keeps λb o e=>(e0.bs b o e).1;have hkind:∀z∈[(c,Value.ref f)],(zA1 st).names.lookup z.1=some .local∨((zA1 st).names.lookup z.1=some .cell/\((vE (s.heap.objs.size+1) (zA1 st).names []).lookup z.1).isSome=true):=λz hz=>by
  simp only[qB0,qD3,or_false]at hz;subst hz;rcases S.par c (by simp)with q|q
  ·exact .inl q
  ·exact .inr ⟨q,fB _ _ _ (.inl q)⟩
 refine wY hd (KX _ _ lk) rfl S.co S.gen rfl (dA KX hcd) (hb s [.ref f] KX rfl _ _ _ _ (wC S.kind hkind λenv he s1 z=>?_));subst he;refine⟨lim.keeps z.toInCall.keep,dC ?_⟩;have I:Inv (cxOf CX0 P w K mg base [c,y] x (zA1 st) fa cdv A outer s H E0) [] (start [c,y] [.ref f]) H s1:=zFG S hh e0 rfl (.cons rfl .nil) z;rw[hbody];have nd:c≠y:=by have:=S.nd;simp at this;exact this
 have hv:Vis (zA1 st) c:=(S.par c (by simp)).elim .inl λq=>.inr (.inl q);refine jK (zNi (D:={ nx:=λ_ H'=>Q .non H',rt:=Q }) (X:=cxOf CX0 P w K mg base [c,y] x (zA1 st) fa cdv A outer s H E0) rfl rfl rfl rfl nd hv hc1 hc2 hl hy1 hy2 (hk cdv) (lc cdv) I) (λfl s' q=>?_) λe s' q=>q;cases fl with
 |ret u =>
  obtain⟨v,Z',H',JJ,rv,q⟩:=q;exact⟨v,H',JJ.os,JJ.bare,JJ.base,JJ.hok,rv,q⟩
 |next =>
  obtain⟨Z',H',JJ,q⟩:=q;exact⟨.non,H',JJ.os,JJ.bare,JJ.base,JJ.hok,rfl,q⟩
 |brk =>
  obtain⟨_,_,_,q⟩:=q;exact False.elim q
 |cont =>
  obtain⟨_,_,_,q⟩:=q;exact False.elim q
end
structure ExcG(K:yQ)(C:yR):Prop where
 ga:lZ K (.ref C) "__getattribute__"=some (some (.builtin "BaseException.__getattribute__"))
 cl:lZ K (.ref C) "__class__"=some (some (.builtin "object.__class__"))
 mo:W.mroIn K C (.type "object")=some true
 mb:W.mroIn K C (.type "BaseException")=some true
 gn:lZ K (.ref C) "__getattr__"=some none
 it:(W.clsIn K C).isSome=true
section
open PySem.W Builtin Builtin.ObjectAttr Builtin.Getset_descriptor
variable {prog:y7}{w:jD}{A:jE}{E:yL}{s:yS}{K:yQ}{e C:yR}{oe:Obj}
theorem zEd{h:jC}(he:h.get? e=some oe)(hc:oe.cls=.ref C){M:mZ}:W.Looks M h (mX (.ref e)) (.ref C):=hc▸(W.Looks.ld he).andThen .now
theorem zQT{R:dL->yS->Prop}{tp:yU}(X:K.In s.heap)(g:ExcG K C)(he:s.heap.get? e=some oe)(hc:oe.cls=.ref C)(h:R (.ok (.ret (.ref C))) s):
  vU (yW prog w) A (.call (.builtin "getset_descriptor.__get__") ⟨[.builtin "object.__class__",.ref e,tp],[]⟩) R s:=by
 obtain⟨hh,g',dr,t,os⟩:=s;have L0:=zEd he hc (M:=yW prog w);have L1:=W.looks_mroIn (M:=yW prog w) X g.mo;refine mB KF.slot_gs.plain KF.entry_gs (KF.slot_gs.check _ _ _ _ _ _ _ _ KF.type_class (KF.args_gs _ _ _) ?_);unfold Builtin.«getset_descriptor.__get__» descrGet;rw[dga_obj];refine yO (yP ?_);unfold descrGetter descrCheckInstance descrNameAndClass isInstance;simp only[KF.owner_class]
 repeat lk
 refine⟨Code.quiet_builtin _ (by decide +kernel),lI KF.entry_class ?_⟩;unfold Builtin.«object.__class__» shownTypeOf
 repeat lk
 exact h
theorem zOG{M:mZ}{nameV:yU}{Q:Unit->yS->Prop}(X:K.In s.heap)(g:ExcG K C)(he:s.heap.get? e=some oe)(hc:oe.cls=.ref C)(hq:Q () s):yX M A (checkBuiltinCall "BaseException.__getattribute__" ⟨[.ref e,nameV],[]⟩) Q E s:=by
 have hk:builtinKind "BaseException.__getattribute__"=some .slot:=by decide +kernel
 have hsplit:splitId "BaseException.__getattribute__"=some ("BaseException","__getattribute__"):=by decide +kernel
 have ha:=F.args_bexc_ga (.ref e) nameV;obtain⟨hh,g',dr,t,os⟩:=s;have L0:=zEd he hc (M:=M);have L1:=W.looks_mroIn (M:=M) X g.mb;simp only[checkBuiltinCall,hk,hsplit];refine yO ?_;unfold isInstance;refine yO (L0.at (L1.at ?_))
 repeat (first|assumption|wp_step)
theorem zOE{tk:Tok}{Q:Fin->yS->Prop}(X:K.In s.heap)(g:ExcG K C)(he:s.heap.get? e=some oe)(hc:oe.cls=.ref C)(hq:Q (.done (.ret (.ref C))) s):
  yX (yW prog w) A (Builtin.«object.__getattribute__» ⟨[.ref e,.str "__class__" tk],[]⟩) Q E s:=by
 obtain⟨hh,g',dr,t,os⟩:=s;have L0:=zEd he hc (M:=yW prog w);have L1:=mC (M:=yW prog w) X g.cl;have hT5:(⟨hh,g',dr,t,os⟩:yS).TypeIs (.builtin "object.__class__") "getset_descriptor":=KF.type_class;have f6:=F.slot_gs_get.lookup;have f7:=F.slot_gs_set.lookup;unfold Builtin.«object.__getattribute__»
 repeat (any_goals (first|assumption|with_reducible refine W.Looks.at (by assumption) ?_|wp_step))
 refine zQT X g he hc ?_
 repeat (any_goals (first|assumption|wp_step))
theorem zPg(self:yU):bindSpecial (.builtin "BaseException.__getattribute__") self=pure (.builtin "BaseException.__getattribute__",[self]):=F.attr_ValueError.ga.bind self
theorem zOF{Q:yF->yS->Prop}(X:K.In s.heap)(g:ExcG K C)(he:s.heap.get? e=some oe)(hc:oe.cls=.ref C)(h:Q (some (.ref C)) { s with toks:=s.toks+1 }):
  yX (yW prog w) A (dH (.ref e) "__class__") Q E s:=by
 obtain⟨hh,g',dr,t,os⟩:=s;have L0:=zEd he hc (M:=yW prog w);have L1:=mC (M:=yW prog w) X g.ga;have L2:=mC (M:=yW prog w) X g.gn;unfold dH getAttrBy? getAttrBy;refine yO (wpAny_mkText ?_);refine yO (vK (jO (yO (L0.at (yO (L1.at ?_))))));show yX _ _ (fQ _ _ _ _ _ _) _ _ _;unfold fQ hookBefore;rw[if_pos (show onTheHeap (Value.ref C)=true from rfl)];refine yO (L2.at ?_);refine yO (vK (jO ?_));show yX _ _ (gB _ _ _) _ _ _;unfold gB;rw[zPg];refine yO (yP ?_);refine fZ (mB F.attr_ValueError.ga.plain F.entry_bexc_ga (zOG (s:=⟨hh,g',dr,t+1,os⟩) X g he hc (zOE (s:=⟨hh,g',dr,t+1,os⟩) X g he hc ?_)))
 repeat (any_goals (first|assumption|wp_step))
theorem zQn(g:ExcG K C):KitX K (.ref e) (.ref C) (λh=>∃oe,h.get? e=some oe/\oe.cls=.ref C) where
 ty:=λM h X p=>by obtain⟨oe,he,hc⟩:=p;exact zEd he hc
 it:=λ_ _ X _=>by
  have hcD:=g.it;unfold clsIn at hcD;split at hcD
  ·rename_i c' d' cd' sl' ho;intro A' Q' E' s' k q;unfold isType loadHead;exact yO (wpAny_loadPart (k _ _ (X _ _ ho)) (yP q))
  ·cases hcD
 ne:=λh tp dd its n sl X htp=>by
  have hcD:=g.it;refine Bool.eq_false_iff.mpr λq=>?_;have e:C=tp:=Value.ref.inj (beq_iff_eq.mp q);subst e;unfold clsIn at hcD;split at hcD
  ·rename_i c' d' cd' sl' ho;have z:=(X _ _ ho).symm.trans htp;cases z
  ·cases hcD
 ca:=λX p k=>by obtain⟨oe,he,hc⟩:=p;exact zOF X g he hc k
end
section
variable {X:Cx}{pins:yD}{Z:St}{H H':Hp}{s:yS}
noncomputable def xrec(e:yR)(oe:Obj):HO:=.frz oe (.ext λh=>h.get? e=some oe)
theorem Inv.adopt(I:Inv X pins Z H s)(hex:X.ex=[]){e:yR}{oe:Obj}(n:New1 X pins H e)(he:s.heap.get? e=some oe):Inv X pins Z (upd H e (xrec e oe)) s:=by
 have ne:∀b u,H b=some u->b≠e:=λb u q z=>by rw[z,n.h]at q;cases q
 have n0:∀b ob,X.s₀.heap.get? b=some ob->b≠e:=λb ob q z=>by rw[z,n.s0]at q;cases q
 have ex:∀b,b∉X.ex:=λb hb=>by rw[hex]at hb;cases hb
 refine⟨I.ok,I.os,I.bare,⟨I.base.keep,I.base.slot,λb o q z hx=>?_,I.base.there,λb xs q=>?_,λb o u q=>?_,λb ps q=>?_⟩,I.loc,I.cell,?_,λx c q=>?_,λp hp=>?_,λa o q=>?_,I.len⟩
 ·rw[zA6 (n0 b o q)];exact I.base.free b o q z hx
 ·have:=I.base.tups b xs q;rw[zA6 (ne _ _ this)];exact this
 ·have:=I.base.frzs b o u q;rw[zA6 (ne _ _ this)];exact this
 ·obtain⟨m,this⟩:=I.base.tbls b ps q;exact⟨m,by rw[zA6 (ne _ _ this)];exact this⟩
 ·rw[zA6 (Ne.symm n.l)];exact I.free
 ·rw[zA6 (n.c x c q)];exact I.freeC x c q
 ·obtain⟨p1,p2,p3⟩:=I.pin p hp;exact⟨p1,by rw[zA6 (n.p p hp)];exact p2,p3⟩
 ·by_cases z:a=e
  ·subst z;rw[zAc]at q;cases q;exact⟨he,he,⟨oe,he⟩,λh1 h2 p q=>q _ p⟩
  ·rw[zA6 z]at q;exact(I.hok a o q).stay (λb u hb r=>r) (λb r=>by rw[zA6 (ne _ _ r)];exact r) λb xs r=>by rw[zA6 (ne _ _ r)];exact r
theorem zNN{M:mZ}{A:jE}{E:yL}{i:Nat}{x:Str}{pos:Pos}{Q:Unit->yS->Prop}(I:Inv X pins Z H s)(hN:X.N.Nodup)(hi:X.N[i]?=some x)(hk:X.env.scope.names.lookup x=some .local)
  (h:∀s',Inv X pins (Z.set i none) H s'->Q () s'):yX M A (do bindName X.env x .none;unbindBehindTheSuite X.env x pos) Q E s:=by
 obtain⟨m,hn,hl⟩:=id I.loc;have hcls:(X.env.scope.kind == .class||(X.env.scope.kind == .module&&X.env.locals != X.env.globals))=false:=by rw[I.ok.kind];rfl
 have hiZ:i<Z.length:=by rw[I.len];exact(qA3.mp hi).1
 have cne:=I.cne;obtain⟨oL,_,_,hoL,_⟩:=id hn;refine wpAny_nameGoes_keeps hk hn hcls λh' u hn' hs=>?_;refine h { s with heap:=h',toks:=s.toks+1 } ⟨I.ok,I.os,I.bare,⟨λb o e n hb hx=>?_,λb o e n hb hx=>?_,I.base.free,λb o e hx=>?_,I.base.tups,I.base.frzs,I.base.tbls⟩,⟨_,hn',λj y v' e1 e2 e3=>?_⟩,λy c e=>?_,I.free,I.freeC,λp hp=>?_,λb ob e=>?_,by simpa using I.len⟩
 ·exact(hs.2 b (qC4 (qB2 (qB3 e) I.ok.above))).trans (I.base.keep b o e n hb hx)
 ·obtain⟨sl,e1⟩:=I.base.slot b o e n hb hx;exact⟨sl,(hs.2 b (qC4 (qB2 (qB3 e) I.ok.above))).trans e1⟩
 ·obtain⟨o',e1⟩:=I.base.there b o e hx;exact⟨o',(hs.2 b (qC4 (qB2 (qB3 e) I.ok.above))).trans e1⟩
 ·by_cases hj:j=i
  ·subst hj;rw[qC8 hiZ]at e2;cases e2
  ·rw[qD9 (Ne.symm hj)]at e2;obtain⟨u',r',q⟩:=hl j y v' e1 e2 e3;refine⟨u',r',?_⟩;rcases q with⟨k,e⟩| ⟨k,c,e,z⟩
   ·refine .inl ⟨k,?_⟩;have:y≠x:=λe=>hj (zHA hN e1 (e▸hi));simp[this,e]
   ·exact .inr ⟨k,c,e,z.sameBut hs (cne y c e)⟩
 ·obtain⟨w',z⟩:=I.cell y c e;exact⟨w',z.sameBut hs (cne y c e)⟩
 ·obtain⟨e,n,ne,nf,d⟩:=I.pin p hp;exact⟨(hs.2 p.1 ne).trans e,n,ne,nf,d⟩
 ·refine(I.hok b ob e).stay (λc w' hc q=>(hs.2 c ?_).trans q) (λ_ q=>q) λ_ _ q=>q;rintro rfl;rcases hc with rfl|hc
  ·rw[I.free]at e;cases e
  ·rw[I.free]at hc;cases hc
theorem zOs{e T C:yR}{cls:yU}{i j:Nat}{x en y:Str}{p q q2 q3 q4:Pos}(hx:gD X.K cls (.ref C)=some true)(hex:X.ex=[])(hN:X.N.Nodup)(I:Inv X pins Z H s)(tr:Trc s.heap e T cls)(nT:New1 X pins H T)(nE:New1 X pins H e)
  (hg:Gl X x) (hm:X.mg x=some (.ref C)) (hdb:nDb x) (hi:X.N[i]?=some en) (hle:X.env.scope.names.lookup en=some .local) (hn1:nDb en) (hn2:(en == ("__classdict__":Str))=false) (hy:X.N[j]?=some y) (hl:X.env.scope.names.lookup y=some .local)
  {D:Ends} (hD:∀oe,oe.cls=cls->D.nx (((Z.set i (some (.ref e))).set j (some (.ref e))).set i none) (upd H e (xrec e oe))) {E':yL} :
  yX (yW X.prog X.w) X.A (handleBy (.ref e) X.env [.ExceptHandler (some (.Name x p)) (some en) [.Assign [.Name y q] (.Name en q2) q3] q4]) (SP X pins D) E' s:=by
 obtain⟨oe,vs,oT,ts,he,hcls,hd,h1,nTe,hT,hdT,h3⟩:=tr;have LT:W.Looks (yW X.prog X.w) s.heap (mX (.ref e)) cls:=hcls▸(W.Looks.ld he).andThen .now;refine fS (wZ (zDj (X:=X.marked e) (I.marked e) hg hm ?_ hdb)) (by intro q;cases q);refine W.exm_one I.kIn LT hx _ _ _ s (λ_ _ z=>z) ?_;refine codeAny_handlers_suite_as (fK he hd h1 hT hdT (Array.getElem?_eq_some_iff.mp h3).1 ?_);have up:∀b,b≠T->(s.heap.update T (jV (·.setIfInBounds 3 .none))).get? b=s.heap.get? b:=λb hb=>qE2 _ _ (Ne.symm hb);have I2:Inv X pins Z H { s with heap:=s.heap.update T (jV (·.setIfInBounds 3 .none)) }:=by
  refine I.touch hex (wr:=[T]) (λb o q n _=>(up b (by simpa using n)).trans q) (λb o q n=>⟨o.slots,(up b (by simpa using n)).trans q⟩) (λb o q=>?_) λb hb=>by simp at hb;subst hb;exact nT
  by_cases z:b=T
  ·subst z;exact⟨_,qE7 _ hT (jY (jR hdT _))⟩
  ·exact⟨o,(up b z).trans q⟩
 have I3:=I2.adopt hex nE ((up e (Ne.symm nTe)).trans he);refine zKY (v:=.ref e) I3 hN hi (.inl hle) rfl (λs4 I4=>?_) (.inr hle);have ps:PSs (X.marked e) [.Assign [.Name y q] (.Name en q2) q3] (tSeq (tAsg (tVar i) (zHU j)) zPs):=zCC (zH5 (zIU hi (.inl hle) hn1 hn2) (zDg hN hy (.inl hl) (.inr hl))) zHy;have hiZ:i<Z.length:=by rw[I.len];exact(qA3.mp hi).1
 refine jK (ps pins s4 _ _ { nx:=fun Z' H'=>Z'=(Z.set i (some (.ref e))).set j (some (.ref e))/\H'=upd H e (xrec e oe),rt:=λ_ _=>False } (I4.marked e) ⟨.ref e,by rw[qC8 hiZ],rfl,rfl⟩) (λf s5 z=>?_) λ_ _ z=>False.elim z;cases f with
 |next =>
  obtain⟨Z',H',JJ,rfl,rfl⟩:=z;exact zNN (JJ.unmark I.ok) hN hi hle λs6 JJ6=>⟨_,_,JJ6,hD oe hcls⟩
 |brk=>obtain⟨_,_,_,z⟩:=z;exact False.elim z
 |cont=>obtain⟨_,_,_,z⟩:=z;exact False.elim z
 |ret u=>obtain⟨_,_,_,_,_,z⟩:=z;exact False.elim z
def zUt(X:Cx)(i k j:Nat)(C:yR)(f:yR):TS:=λD Z H=>Z[i]?=some (some (.ref f))/\LamC X f H (λ_ H'=>D.nx Z H') λc _ H'=>gD X.K c (.ref C)=some true/\∀e oe,H' e=none->oe.cls=c->D.nx (((Z.set k (some (.ref e))).set j (some (.ref e))).set k none) (upd H' e (xrec e oe))
theorem zPN{i k j:Nat}{x en y g:Str}{p1 p2 p3 p4 p q q2 q3 q4:Pos}{C f:yR}(stk:X.stack=X.env::X.outer)(fr:X.env.frame=some X.env.locals)(hex:X.ex=[])(hN:X.N.Nodup)(hi:X.N[i]?=some x)(hv:Vis X.env.scope x)
  (hdb:nDb x) (hcd:(x == ("__classdict__":Str))=false) (hg:Gl X g) (hm:X.mg g=some (.ref C)) (hgd:nDb g) (hk:X.N[k]?=some en) (hle:X.env.scope.names.lookup en=some .local) (hn1:nDb en) (hn2:(en == ("__classdict__":Str))=false) (hy:X.N[j]?=some y) (hl:X.env.scope.names.lookup y=some .local) :
  PS X (.Try [.Expr (.Call (.Name x p1) [] [] p2) p3] [.ExceptHandler (some (.Name g p)) (some en) [.Assign [.Name y q] (.Name en q2) q3] q4] [] [] p4) (zUt X i k j C f):=by
 intro pins s Z H D I h;obtain⟨hf,lc⟩:=h;refine wpAny_Try_except (gP (lP (vA ?_) I.quiet (by rfl)));refine jK (zIU (X:=X.nox) hi hv hdb hcd pins s Z H (λv H1=>v=.ref f/\H1=H) (I.wish _) ⟨.ref f,hf,rfl,rfl⟩) (λu s1 z=>?_) λ_ _ z=>False.elim z
 ·obtain⟨v,H1,I1,r,e1,e2⟩:=z;have I1:=I1.unwish;subst e1 e2;have eu:u=.ref f:=r;subst eu;obtain⟨fa,run⟩:=lc pins Z s1 I1;refine W.callWith_F0 fa (fZ (vR run λr s2 h=>?_));cases r with
  |error ev =>
   obtain⟨e,T,c,H',rfl,tr,ne,nT,os,bare,un,hok,he,hT,hx,hD⟩:=h;have I':Inv X pins Z H' s2:=I1.call' os un hok bare λb z=>absurd z (by simp);have fl:=I'.stack;have frm:=I'.ok.frames;rw[stk]at fl frm;refine zFt frm fl fr tr λh' lf=>?_;rw[<- stk]at lf;obtain⟨T',hT',tr'⟩:=lf.tr;have nE:=I1.new1 hex ne he;have I2:Inv X pins Z H' { s2 with heap:=h' }:=I'.touch hex lf.keep lf.slot lf.there λb hb=>by
    simp only[qB0,qD3,or_false]at hb;rcases hb with rfl|rfl
    ·exact nE
    ·exact I1.new1 hex nT hT
   exact zOs hx hex hN I2 tr' (I'.new1 hex (qL4 hT') (I'.hok.fresh hT')) nE hg hm hgd hk hle hn1 hn2 hy hl λoe q=>hD e oe he q
  |ok fl =>
   cases fl with
   |ret u =>
    obtain⟨v,H',I',_,q⟩:=I1.after h;exact vO (vO ⟨Z,H',I',q⟩)
   |next=>exact False.elim h
   |brk=>exact False.elim h
   |cont=>exact False.elim h
end
inductive D where
 |non|bl (b:Bool)| int (i:Int)| str (x:Str)| ty (n:String)| tup (xs:List D)| lst (n:Nat)| dct (n:Nat)| rol (xs:List D)
 |xc (c:Str)
inductive O where
 |lst (xs:List D)| dk (kvs:List (Key×D))| dt (kvs:List (List Key×D))
 |tb (x:Str)
 |fk (kvs:List (Key×D))
abbrev zA0:=List O
abbrev Env1:=List (Option D)
def SqF(K:yQ)(H:Hp)(a:yR)(xs:List V):Prop:=(∃o,H a=some (.frz o (.lst xs))) ∨
  ∃(o:Obj) (its:yJ) (n:Nat),K.lookup a=some o/\o.cls=.type "list"/\o.dict=none/\o.data=.seq its n/\its.size<=jA/\Vals xs its.toList
theorem SqF.sq{K:yQ}{H:Hp}{a:yR}{xs:List V}(h:SqF K H a xs):SqL K H a xs:=by
 rcases h with⟨o,h⟩| h
 ·exact .inl (.inr ⟨o,h⟩)
 ·exact .inr h
structure TF(K:yQ)(H H':Hp):Prop where
 t:TK K H H'
 f:∀a xs,SqF K H a xs->SqF K H' a xs
 u:∀a xs,H a=some (.tup xs)->H' a=some (.tup xs)
 z:∀a o u,H a=some (.frz o u)->H' a=some (.frz o u)
theorem TF.refl(K:yQ)(H:Hp):TF K H H:=⟨TK.refl K H,λ_ _ h=>h,λ_ _ h=>h,λ_ _ _ h=>h⟩
theorem TF.trans{K:yQ}{H H1 H2:Hp}(a:TF K H H1)(b:TF K H1 H2):TF K H H2:=⟨a.t.trans b.t,λp xs h=>b.f p xs (a.f p xs h),λp xs h=>b.u p xs (a.u p xs h),λp o u h=>b.z p o u (a.z p o u h)⟩
theorem zUq{K:yQ}{H H':Hp}{p:yR}(h:∀q o,q≠p->H q=some o->H' q=some o)(nt:∀xs,H p≠some (.tup xs))(nf:∀x y,H p≠some (.frz x y)):TF K H H':=by
 refine⟨λq ys e=>?_,λq ys e=>?_,λq ys e=>h _ _ (λz=>nt _ (z▸e)) e,λq o u e=>h _ _ (λz=>nf _ _ (z▸e)) e⟩
 ·rcases e with(e|⟨w,e⟩)| e
  ·exact .inl (.inl (h _ _ (λz=>nt _ (z▸e)) e))
  ·exact .inl (.inr ⟨w,h _ _ (λz=>nf _ _ (z▸e)) e⟩)
  ·exact .inr e
 ·rcases e with⟨w,e⟩| e
  ·exact .inl ⟨w,h _ _ (λz=>nf _ _ (z▸e)) e⟩
  ·exact .inr e
theorem zH0{K:yQ}{H:Hp}{p:yR}{u o:HO}(e:H p=some u)(nt:∀xs,u≠.tup xs)(nf:∀x y,u≠.frz x y):TF K H (upd H p o) :=
 zUq (p:=p) (λq v hq h=>by rw[zA6 hq];exact h) (λxs h=>by rw[e]at h;exact nt xs (Option.some.inj h)) (λx y h=>by rw[e]at h;exact nf x y (Option.some.inj h))
theorem zKX{K:yQ}{H:Hp}{p:yR}{xs:List V}{o:HO}(e:H p=some (.lst xs)):TF K H (upd H p o):=zH0 e (λ_ z=>by cases z) (λ_ _ z=>by cases z)
theorem zMO{K:yQ}{H H':Hp}(h:Same H H'):TF K H H':=⟨λp xs e=>h.tup e,λq ys e=>by
 rcases e with⟨w,e⟩| e
 ·exact .inl ⟨w,h _ _ e⟩
 ·exact .inr e,λ_ _ e=>h _ _ e,λ_ _ _ e=>h _ _ e⟩
mutual
def RV(K:yQ)(H:Hp)(J:yC):D->V->Prop
 |.non,v=>v=.non
 |.bl b,v=>v=.bl b
 |.int i,v=>v=.int i
 |.str x,v=>v=.str x
 |.ty n,v=>v=.ty n
 |.tup xs,v=>∃p vs,v=.ref p/\H p=some (.tup vs)/\RVs K H J xs vs
 |.lst n,v=>∃a,v=.ref a/\J[n]?=some a
 |.dct n,v=>∃a,v=.ref a/\J[n]?=some a
 |.rol xs,v=>∃p vs,v=.ref p/\SqF K H p vs/\RVs K H J xs vs
 |.xc c,v=>∃e oe C,v=.ref e/\H e=some (.frz oe (.ext λh=>h.get? e=some oe))/\oe.cls=.ref C/\gC K y8 c=some (some (.ref C))
def RVs(K:yQ)(H:Hp)(J:yC):List D->List V->Prop
 |[],vs=>vs=[]
 |d::ds,vs=>∃v ws,vs=v::ws/\RV K H J d v/\RVs K H J ds ws
end
def RKs{κ:Type}(K:yQ)(H:Hp)(J:yC)(kvs:List (κ×D))(ws:List (κ×V)):Prop:=kvs.map (·.1)=ws.map (·.1)/\RVs K H J (kvs.map (·.2)) (ws.map (·.2))
def zUb(q:Str)(H:Hp)(cv:yU):Prop:=∃c o vs t,cv=.ref c/\H c=some (.frz o (.ext λh=>h.get? c=some o))/\o.data=.fields vs/\vs[1]?=some (.str q t)
noncomputable def zDT(x:Str):Str:=x ++ ".<locals>." ++ "<lambda>"
structure TabT(K:yQ)(q:Str)(H:Hp)(a:yR)(x:Str)(ps:yJ):Prop where
 tab:∃c,fH K x=some (c,a)
 ok:TriplesOk ps.toList
 code:∀pos cv,gZ pos ps.toList=some cv->zUb q H cv
def OR(K:yQ)(H:Hp)(J:yC)(a:yR):O->Prop
 |.lst xs=>∃vs,H a=some (.lst vs)/\RVs K H J xs vs
 |.dk kvs=>∃ws,H a=some (.dK ws)/\RKs K H J kvs ws
 |.dt kvs=>∃ws,H a=some (.dT ws)/\RKs K H J kvs ws
 |.tb x=>∃ps,H a=some (.tbl ps)/\TabT K (zDT x) H a x ps
 |.fk kvs=>∃o ws,H a=some (.frz o (.dK ws))/\RKs K H J kvs ws
structure SR(K:yQ)(J:yC)(S:zA0)(H:Hp):Prop where
 len:J.length=S.length
 nd:J.Nodup
 obj:∀(n:Nat) (a:yR) (o:O),J[n]?=some a->S[n]?=some o->OR K H J a o
structure Step(K:yQ)(J J':yC)(H H':Hp):Prop where
 pre:∃ν,J'=J++ν/\∀b∈ν,H b=none
 fr:∀b o,b∉J->H b=some o->H' b=some o
 tk:TF K H H'
section
variable {K:yQ}{H H' H1 H2:Hp}{J J' J1 J2:yC}{S S':zA0}
mutual
theorem RV.up(tk:TF K H H')(pre:∃ν,J'=J++ν):∀(d:D) (v:V),RV K H J d v->RV K H' J' d v
 |.non,v,h=>by simpa[RV]using h
 |.bl b,v,h=>by simpa[RV]using h
 |.int i,v,h=>by simpa[RV]using h
 |.str x,v,h=>by simpa[RV]using h
 |.ty n,v,h=>by simpa[RV]using h
 |.tup xs,v,h=>by unfold RV at h ⊢;obtain⟨p,vs,e,q,r⟩:=h;exact⟨p,vs,e,tk.u p vs q,RVs.up tk pre xs vs r⟩
 |.lst n,v,h=>by unfold RV at h ⊢;obtain⟨a,e,q⟩:=h;obtain⟨ν,rfl⟩:=pre;exact⟨a,e,by rw[qA7 (qA3.mp q).1];exact q⟩
 |.dct n,v,h=>by unfold RV at h ⊢;obtain⟨a,e,q⟩:=h;obtain⟨ν,rfl⟩:=pre;exact⟨a,e,by rw[qA7 (qA3.mp q).1];exact q⟩
 |.rol xs,v,h=>by unfold RV at h ⊢;obtain⟨p,vs,e,q,r⟩:=h;exact⟨p,vs,e,tk.f p vs q,RVs.up tk pre xs vs r⟩
 |.xc c,v,h=>by unfold RV at h ⊢;obtain⟨e,oe,C,r,q,k⟩:=h;exact⟨e,oe,C,r,tk.z e oe _ q,k⟩
theorem RVs.up(tk:TF K H H')(pre:∃ν,J'=J++ν):∀(ds:List D) (vs:List V),RVs K H J ds vs->RVs K H' J' ds vs
 |[],vs,h=>by simpa[RVs]using h
 |d::ds,vs,h=>by unfold RVs at h ⊢;obtain⟨v,ws,e,r,q⟩:=h;exact⟨v,ws,e,RV.up tk pre d v r,RVs.up tk pre ds ws q⟩
end
theorem RVs.len:∀{ds:List D}{vs:List V},RVs K H J ds vs->ds.length=vs.length
 |[],vs,h=>by unfold RVs at h;subst h;rfl
 |d::ds,vs,h=>by unfold RVs at h;obtain⟨v,ws,rfl,_,q⟩:=h;rw[qD4,qD4,RVs.len q]
theorem RVs.nil:RVs K H J [] []:=by unfold RVs;rfl
theorem RVs.cons{d:D}{v:V}{ds:List D}{vs:List V}(h:RV K H J d v)(t:RVs K H J ds vs):RVs K H J (d::ds) (v::vs):=by unfold RVs;exact⟨v,vs,rfl,h,t⟩
theorem RVs.get:∀{ds:List D}{vs:List V}{i:Nat}{d:D},RVs K H J ds vs->ds[i]?=some d->∃v,vs[i]?=some v/\RV K H J d v
 |[],vs,i,d,h,e=>by simp at e
 |x::ds,vs,0,d,h,e=>by unfold RVs at h;obtain⟨v,ws,rfl,r,q⟩:=h;simp at e;subst e;exact⟨v,rfl,r⟩
 |x::ds,vs,i+1,d,h,e=>by unfold RVs at h;obtain⟨v,ws,rfl,r,q⟩:=h;obtain⟨u,e1,e2⟩:=RVs.get (i:=i) (d:=d) q (by simpa using e);exact⟨u,by simpa using e1,e2⟩
theorem RVs.append:∀{ds es:List D}{vs us:List V},RVs K H J ds vs->RVs K H J es us->RVs K H J (ds++es) (vs++us)
 |[],es,vs,us,h,g=>by unfold RVs at h;subst h;exact g
 |d::ds,es,vs,us,h,g=>by unfold RVs at h;obtain⟨v,ws,rfl,r,q⟩:=h;exact .cons r (RVs.append q g)
theorem RVs.take:∀{ds:List D}{vs:List V} (n:Nat),RVs K H J ds vs->RVs K H J (ds.take n) (vs.take n)
 |_,_,0,_=>by simp;exact .nil
 |[],vs,n+1,h=>by unfold RVs at h;subst h;exact .nil
 |d::ds,vs,n+1,h=>by unfold RVs at h;obtain⟨v,ws,rfl,r,q⟩:=h;exact .cons r (RVs.take n q)
theorem RVs.drop:∀{ds:List D}{vs:List V} (n:Nat),RVs K H J ds vs->RVs K H J (ds.drop n) (vs.drop n)
 |_,_,0,h=>by simpa using h
 |[],vs,n+1,h=>by unfold RVs at h;subst h;exact .nil
 |d::ds,vs,n+1,h=>by unfold RVs at h;obtain⟨v,ws,rfl,r,q⟩:=h;exact RVs.drop n q
theorem RVs.set{d:D}{v:V}(g:RV K H J d v):∀{ds:List D}{vs:List V} (n:Nat),RVs K H J ds vs->RVs K H J (ds.set n d) (vs.set n v)
 |[],vs,n,h=>by unfold RVs at h;subst h;exact .nil
 |x::ds,vs,0,h=>by unfold RVs at h;obtain⟨u,ws,rfl,r,q⟩:=h;exact .cons g q
 |x::ds,vs,n+1,h=>by unfold RVs at h;obtain⟨u,ws,rfl,r,q⟩:=h;exact .cons r (RVs.set g n q)
theorem RVs.ints{ns:yA}:RVs K H J (ns.map D.int) (ns.map V.int):=by
 induction ns with
 |nil=>exact .nil
 |cons a r ih=>exact .cons (by unfold RV;rfl) ih
theorem RKs.up{κ:Type}(tk:TF K H H')(pre:∃ν,J'=J++ν){kvs:List (κ×D)}{ws:List (κ×V)}(h:RKs K H J kvs ws):RKs K H' J' kvs ws:=⟨h.1,RVs.up tk pre _ _ h.2⟩
theorem SR.isS(sr:SR K J S H){a:yR}(h:a∈J):∃o,H a=some o:=by
 obtain⟨n,hn⟩:=qF6 h;have hl:n<S.length:=by rw[<- sr.len];exact(qA3.mp hn).1
 have q:=sr.obj n a S[n] hn (qA4 hl);revert q;generalize S[n]=o;intro q;cases o with
 |lst xs=>obtain⟨vs,e,_⟩:=q;exact⟨_,e⟩
 |dk kvs=>obtain⟨vs,e,_⟩:=q;exact⟨_,e⟩
 |dt kvs=>obtain⟨vs,e,_⟩:=q;exact⟨_,e⟩
 |tb q'=>obtain⟨vs,e,_⟩:=q;exact⟨_,e⟩
 |fk kvs=>obtain⟨o,vs,e,_⟩:=q;exact⟨_,e⟩
theorem SR.out(sr:SR K J S H){a:yR}(h:H a=none):a∉J:=λm=>by obtain⟨o,e⟩:=sr.isS m;rw[h]at e;cases e
theorem Step.refl(K:yQ)(J:yC)(H:Hp):Step K J J H H:=⟨⟨[],by simp,by simp⟩,λ_ _ _ h=>h,TF.refl K H⟩
theorem Step.mem(st:Step K J J' H H'){a:yR}(h:a∈J):a∈J':=by obtain⟨ν,rfl,_⟩:=st.pre;exact qE9 _ h
theorem Step.ext(st:Step K J J' H H'):∃ν,J'=J++ν:=let ⟨ν,e,_⟩:=st.pre;⟨ν,e⟩
theorem Step.trans(a:Step K J J1 H H1)(b:Step K J1 J2 H1 H2)(nd:J2.Nodup):Step K J J2 H H2:=by
 obtain⟨ν,e,n1⟩:=a.pre;obtain⟨ν',e',n2⟩:=b.pre;have nd':(J++ν++ν').Nodup:=by rw[<- e,<- e'];exact nd
 refine⟨⟨ν++ν',by rw[e',e,qB6],λc hc=>?_⟩,λc o hc h=>?_,a.tk.trans b.tk⟩
 ·rcases qB9.mp hc with h|h
  ·exact n1 c h
  ·have hn:=n2 c h;cases q:H c with
   |none=>rfl
   |some o =>
    have:c∉J:=λhm=>by have:=(qI1.mp nd').2.2 c (qE9 _ hm) c h;exact this rfl
    rw[a.fr c o this q]at hn;cases hn
 ·refine b.fr c o (λhm=>?_) (a.fr c o hc h);rw[e]at hm;rcases qB9.mp hm with h'|h'
  ·exact hc h'
  ·rw[n1 c h']at h;cases h
theorem OR.up(tk:TF K H H')(pre:∃ν,J'=J++ν){a:yR}(e:H' a=H a):∀{o:O},OR K H J a o->OR K H' J' a o
 |.lst xs,⟨vs,h,r⟩=>⟨vs,by rw[e];exact h,RVs.up tk pre _ _ r⟩
 |.dk kvs,⟨ws,h,r⟩=>⟨ws,by rw[e];exact h,r.up tk pre⟩
 |.dt kvs,⟨ws,h,r⟩=>⟨ws,by rw[e];exact h,r.up tk pre⟩
 | .tb q,⟨ps,h,t⟩=>⟨ps,by rw[e];exact h,t.tab,t.ok,λpos cv z=>by
  obtain⟨c,o,vs,t',rfl,x,y⟩:=t.code pos cv z;exact⟨c,o,vs,t',rfl,tk.z _ _ _ x,y⟩⟩
 |.fk kvs,⟨o,ws,h,r⟩=>⟨o,ws,by rw[e];exact h,r.up tk pre⟩
theorem zGZ{p:yR}{o:HO}(h:H p=none):TF K H (upd H p o):=zMO (zHu h o)
theorem SR.other(sr:SR K J S H){p:yR}{o:HO}(h:H p=none):SR K J S (upd H p o)/\Step K J J H (upd H p o):=by
 have hp:=sr.out h;refine⟨⟨sr.len,sr.nd,λn a o' e1 e2=>?_⟩,⟨⟨[],by simp,by simp⟩,λb u hb e=>?_,zGZ h⟩⟩
 ·have hm:a∈J:=qB5 e1;have ne:a≠p:=λz=>hp (z▸hm);exact(sr.obj n a o' e1 e2).up (zGZ h) ⟨[],by simp⟩ (zA6 ne)
 ·rw[zA6 (zAH e h)];exact e
theorem SR.push(sr:SR K J S H){p:yR}{o:HO}{o':O}(h:H p=none)(ho:OR K (upd H p o) (J++[p]) p o'):SR K (J++[p]) (S++[o']) (upd H p o)/\Step K J (J++[p]) H (upd H p o):=by
 have hp:=sr.out h;refine⟨⟨by simp[sr.len],?_,λn a u e1 e2=>?_⟩,⟨⟨[p],rfl,λb hb=>?_⟩,λb u hb e=>?_,zGZ h⟩⟩
 ·rw[qI1];refine⟨sr.nd,by simp,λa ha b hb=>?_⟩;simp at hb;subst hb;exact λz=>hp (z▸ha)
 ·by_cases hn:n<J.length
  ·rw[qA7 hn]at e1;rw[qA7 (by rw[<- sr.len];exact hn)]at e2;have hm:a∈J:=qB5 e1;have ne:a≠p:=λz=>hp (z▸hm);exact(sr.obj n a u e1 e2).up (zGZ h) ⟨[p],rfl⟩ (zA6 ne)
  ·rw[qA0 (by omega)]at e1;rw[qA0 (by rw[<- sr.len];omega)]at e2;have h1:n - J.length=0:=by have:=(qA3.mp e1).1;simp at this;omega
   rw[h1]at e1;rw[<- sr.len,h1]at e2;simp at e1 e2;subst e1 e2;exact ho
 ·simp at hb;subst hb;exact h
 ·rw[zA6 (zAH e h)];exact e
theorem SR.put(sr:SR K J S H){n:Nat}{p:yR}{o u:HO}{o':O}(hn:J[n]?=some p)(hp:H p=some u)(nt:∀xs,u≠.tup xs)(nf:∀x y,u≠.frz x y)(ho:OR K (upd H p o) J p o'):SR K J (S.set n o') (upd H p o)/\Step K J J H (upd H p o):=by
 have tk:TF K H (upd H p o):=zH0 hp nt nf;have hmem:p∈J:=qB5 hn;refine⟨⟨by simp[sr.len],sr.nd,λm a w e1 e2=>?_⟩,⟨⟨[],by simp,by simp⟩,λb w hb e=>?_,tk⟩⟩
 ·by_cases hm:m=n
  ·subst hm;rw[hn]at e1;cases e1;have hl:m<S.length:=by rw[<- sr.len];exact(qA3.mp hn).1
   rw[qC8 hl]at e2;cases e2;exact ho
  ·rw[qD9 (λz=>hm z.symm)]at e2;have ne:a≠p:=λz=>by subst z;exact hm ((qM7 (qA3.mp e1).1 sr.nd).mp (e1.trans hn.symm))
   exact(sr.obj m a w e1 e2).up tk ⟨[],by simp⟩ (zA6 ne)
 ·have ne:b≠p:=λz=>hb (z▸hmem);rw[zA6 ne];exact e
end
inductive R(α:Type) where
 |bad|ok (a:α) (S:zA0)| er (c:Str) (S:zA0)
noncomputable abbrev M(α:Type):=zA0->R α
noncomputable def bnd{α β:Type}(m:M α)(f:α->M β):M β:=λS=>match m S with
 |.bad=>.bad
 |.er c S'=>.er c S'
 |.ok a S'=>f a S'
noncomputable def ret{α:Type}(a:α):M α:=λS=>.ok a S
noncomputable def bad{α:Type}:M α:=λ_=>.bad
inductive zZN{α β:Type}(m:M α)(f:α->M β)(S:zA0)(b:β)(S2:zA0):Prop
 |mk (a:α) (S1:zA0) (e:m S=.ok a S1) (g:f a S1=.ok b S2)
theorem zA7{α β:Type}{m:M α}{f:α->M β}{S S2:zA0}{b:β}(h:bnd m f S=.ok b S2):zZN m f S b S2:=by
 unfold bnd at h;cases e:m S with
 |bad=>rw[e]at h;cases h
 |er c S'=>rw[e]at h;cases h
 |ok a S'=>rw[e]at h;exact⟨a,S',e,h⟩
theorem zAq{α:Type}{a b:α}{S S':zA0}(h:ret a S=.ok b S'):b=a/\S'=S:=by unfold ret at h;cases h;exact⟨rfl,rfl⟩
abbrev C:=Env1->M D
abbrev CT:=Env1->M Bool
abbrev CA:=Env1->M (List D)
def RE(K:yQ)(H:Hp)(J:yC)(B:Env1)(Z:St):Prop:=B.length=Z.length/\∀(i:Nat) (d:D),B[i]?=some (some d)->∃v,Z[i]?=some (some v)/\RV K H J d v
section
variable {K:yQ}{H H':Hp}{J J':yC}{B:Env1}{Z:St}
theorem RE.up(h:RE K H J B Z)(st:Step K J J' H H'):RE K H' J' B Z:=⟨h.1,λi d e=>let ⟨v,q,r⟩:=h.2 i d e;⟨v,q,RV.up st.tk st.ext d v r⟩⟩
theorem RE.set(h:RE K H J B Z){d:D}{v:V}(r:RV K H J d v)(i:Nat):RE K H J (B.set i (some d)) (Z.set i (some v)):=by
 refine⟨by simp[h.1],λj d' e=>?_⟩;by_cases hj:i=j
 ·subst hj;have hl:i<B.length:=by have:=(qA3.mp e).1;simpa using this
  rw[qC8 hl]at e;cases e;exact⟨v,by rw[qC8 (by rw[<- h.1];exact hl)],r⟩
 ·rw[qD9 hj]at e ⊢;exact h.2 j d' e
end
def Yld(K:yQ)(J:yC)(H:Hp)(d:D)(S':zA0)(Q:VK):Prop:=∀v H' J',SR K J' S' H'->Step K J J' H H'->RV K H' J' d v->Q v H'
def YldA(K:yQ)(J:yC)(H:Hp)(ds:List D)(S':zA0)(Q:List V->Hp->Prop):Prop:=∀vs H' J',SR K J' S' H'->Step K J J' H H'->RVs K H' J' ds vs->Q vs H'
def YldT(K:yQ)(J:yC)(H:Hp)(b:Bool)(S':zA0)(Q:Bool->Hp->Prop):Prop:=∀H' J',SR K J' S' H'->Step K J J' H H'->Q b H'
inductive tOf(K:yQ)(c:C)(Z:St)(H:Hp)(Q:VK):Prop
 |mk (J:yC) (B:Env1) (S:zA0) (d:D) (S':zA0) (sr:SR K J S H) (re:RE K H J B Z) (e:c B S=.ok d S') (y:Yld K J H d S' Q)
inductive tOfA(K:yQ)(c:CA)(Z:St)(H:Hp)(Q:List V->Hp->Prop):Prop
 |mk (J:yC) (B:Env1) (S:zA0) (d:List D) (S':zA0) (sr:SR K J S H) (re:RE K H J B Z) (e:c B S=.ok d S') (y:YldA K J H d S' Q)
inductive tOfT(K:yQ)(c:CT)(Z:St)(H:Hp)(Q:Bool->Hp->Prop):Prop
 |mk (J:yC) (B:Env1) (S:zA0) (d:Bool) (S':zA0) (sr:SR K J S H) (re:RE K H J B Z) (e:c B S=.ok d S') (y:YldT K J H d S' Q)
theorem Yld.self{K:yQ}{J:yC}{H:Hp}{d:D}{S:zA0}{Q:VK}(h:Yld K J H d S Q)(sr:SR K J S H){v:V}(r:RV K H J d v):Q v H:=h v H J sr (Step.refl K J H) r
theorem Yld.shift{K:yQ}{J J1:yC}{H H1:Hp}{d:D}{S:zA0}{Q:VK}(h:Yld K J H d S Q)(st:Step K J J1 H H1):Yld K J1 H1 d S Q:=λv H' J' sr s2 r=>h v H' J' sr (st.trans s2 sr.nd) r
theorem YldT.shift{K:yQ}{J J1:yC}{H H1:Hp}{d:Bool}{S:zA0}{Q:Bool->Hp->Prop}(h:YldT K J H d S Q)(st:Step K J J1 H H1):YldT K J1 H1 d S Q:=λH' J' sr s2=>h H' J' sr (st.trans s2 sr.nd)
theorem PE.weak{X:Cx}{e:y4}{t t':TE}(h:PE X e t)(w:∀Z H Q,t' Z H Q->t Z H Q):PE X e t':=λpins s Z H Q I q=>h pins s Z H Q I (w Z H Q q)
theorem PT.weak{X:Cx}{e:y4}{t t':TT}(h:PT X e t)(w:∀Z H Q,t' Z H Q->t Z H Q):PT X e t':=λpins s Z H Q I q=>h pins s Z H Q I (w Z H Q q)
theorem PW.weak{X:Cx}{e:y4}{t t':TT}(h:PW X e t)(w:∀Z H Q,t' Z H Q->t Z H Q):PW X e t':=λwh pins s Z H Q I q=>h wh pins s Z H Q I (w Z H Q q)
theorem PA.weak{X:Cx}{e:yE}{t t':TA}(h:PA X e t)(w:∀Z H Q,t' Z H Q->t Z H Q):PA X e t':=λpos pins s Z H Q I q=>h pos pins s Z H Q I (w Z H Q q)
theorem PS.weak{X:Cx}{e:vI}{t t':TS}(h:PS X e t)(w:∀D Z H,t' D Z H->t D Z H):PS X e t':=λpins s Z H D I q=>h pins s Z H D I (w D Z H q)
theorem PSs.weak{X:Cx}{e:List vI}{t t':TS}(h:PSs X e t)(w:∀D Z H,t' D Z H->t D Z H):PSs X e t':=λpins s Z H D I q=>h pins s Z H D I (w D Z H q)
def rAny(X:Cx)(f:yU->yU->Sem yU):R2:=λv u H Q=>∃r,OpR X f r/\r v u H Q
theorem zK7{X:Cx}{f:yU->yU->Sem yU}:OpR X f (rAny X f):=λpins s Z H x y v u Q I rx ry ⟨r,ho,q⟩=>ho pins s Z H x y v u Q I rx ry q
def uAny(X:Cx)(f:yU->Sem yU):V->Hp->VK->Prop:=λv H Q=>∃r,UnR X f r/\r v H Q
theorem zY3{X:Cx}{f:yU->Sem yU}:UnR X f (uAny X f):=λpins s Z H x v Q I rx ⟨r,ho,q⟩=>ho pins s Z H x v Q I rx q
def cAny(X:Cx)(f:yU):List V->Hp->VK->Prop:=λvs H Q=>∃r,zBN X f r/\r vs H Q
theorem zG7{X:Cx}{f:yU}:zBN X f (cAny X f):=λpins s Z H x v Q I rx ⟨r,ho,q⟩=>ho pins s Z H x v Q I rx q
def zOg(X:Cx):R2:=λv u H Q=>∃r,IxR X r/\r v u H Q
theorem zWx{X:Cx}:IxR X (zOg X):=λva sl pins s Z H x y v u Q I rx ry ⟨r,ho,q⟩ hs=>ho va sl pins s Z H x y v u Q I rx ry q hs
def zN1(X:Cx):V->yG->yG->Hp->VK->Prop:=λv lo hi H Q=>∃r,SlR X r/\r v lo hi H Q
theorem zYg{X:Cx}:SlR X (zN1 X):=λpins s Z H x v vl vu lo hi sl Q I rx a b c ⟨r,ho,q⟩=>ho pins s Z H x v vl vu lo hi sl Q I rx a b c q
def zEa(X:Cx)(id:String):V->List V->Hp->VK->Prop:=λv vs H Q=>∃r,MtR X id r/\r v vs H Q
theorem zW7{X:Cx}{id:String}:MtR X id (zEa X id):=λpins s Z H x xs v us Q I rx rs ⟨r,ho,q⟩=>ho pins s Z H x xs v us Q I rx rs q
noncomputable def zN5(X:Cx):TSet:=λo i v H Q=>∃r,PSet X r/\r o i v H Q
theorem zUT{X:Cx}:PSet X (zN5 X):=λpins s Z H o i v ov iv u Q I r1 r2 r3 ⟨r,ho,q⟩=>ho pins s Z H o i v ov iv u Q I r1 r2 r3 q
noncomputable def cVar(i:Nat):C:=fun B S=>match B[i]? with
 |some (some d)=>.ok d S
 |_=>.bad
noncomputable def cCon(d:D):C:=λ_ S=>.ok d S
noncomputable def cBin(o:D->D->M D)(a b:C):C:=fun B=>bnd (a B) λx=>bnd (b B) λy=>o x y
noncomputable def cUn(o:D->M D)(a:C):C:=fun B=>bnd (a B) o
noncomputable def zA2:List C->CA
 |[]=>λ_=>ret []
 |c::cs=>fun B=>bnd (c B) λx=>bnd (zA2 cs B) λxs=>ret (x::xs)
noncomputable def cApp(o:List D->M D)(a:CA):C:=fun B=>bnd (a B) o
noncomputable def cTup(a:CA):C:=cApp (λxs=>ret (.tup xs)) a
noncomputable def cLst(a:CA):C:=cApp (λxs S=>.ok (.lst S.length) (S++[.lst xs])) a
noncomputable def cIf(t:CT)(a b:C):C:=fun B=>bnd (t B) λk=>if k then a B else b B
noncomputable def zAs(a:C):CT:=fun B=>bnd (a B) λx=>match x with
 |.bl b=>ret b
 |_=>bad
noncomputable def zIh(a b:C):C:=fun B=>bnd (zAs a B) λk=>if k then b B else ret (.bl false)
noncomputable def cOrV(a b:C):C:=fun B=>bnd (zAs a B) λk=>if k then ret (.bl true)else b B
noncomputable def zR0(a:C):C:=fun B=>bnd (zAs a B) λk=>ret (.bl (!k))
noncomputable def zPe(a b:CT):CT:=fun B=>bnd (a B) λk=>if k then b B else ret false
noncomputable def cOrT(a b:CT):CT:=fun B=>bnd (a B) λk=>if k then ret true else b B
noncomputable def zKI(a:CT):CT:=fun B=>bnd (a B) λk=>ret (!k)
noncomputable def dB(x:D):M Bool:=match x with
 |.bl b=>ret b
 |_=>bad
noncomputable def zG9(o o':D->D->M D)(a b c:C):C:=fun B=>bnd (a B) λx=>bnd (b B) λy=>bnd (o x y) λz=>bnd (dB z) λk=>if k then bnd (c B) λw=>o' y w else ret (.bl false)
section
variable {X:Cx}{a b c d:y4}{ca cb cc cd:C}{pos:Pos}
theorem zUU{i:Nat}{x:Str}(h:PE X (.Name x pos) (tVar i)):PE X (.Name x pos) (tOf X.K (cVar i)):=h.weak fun Z H Q ⟨J,B,S,d,S',sr,re,e,y⟩=>by
 unfold cVar at e;split at e
 ·rename_i d' hd;cases e;obtain⟨v,q,r⟩:=re.2 i _ hd;exact⟨v,q,y.self sr r⟩
 ·cases e
theorem zIM{e:y4}{v:V}{d:D}(h:PE X e (tC v))(hd:∀K H J,RV K H J d v):PE X e (tOf X.K (cCon d)):=h.weak fun Z H Q ⟨J,B,S,d',S',sr,re,e,y⟩=>by unfold cCon at e;cases e;exact y.self sr (hd _ _ _)
def OpS(K:yQ)(r:R2)(o:D->D->M D):Prop:=∀x y S d S' H J v u Q,o x y S=.ok d S'->SR K J S H->RV K H J x v->RV K H J y u->Yld K J H d S' Q->r v u H Q
theorem zL8{r:R2}{o:D->D->M D}(ho:OpS X.K r o):∀Z H Q,tOf X.K (cBin o ca cb) Z H Q->tOp r (tOf X.K ca) (tOf X.K cb) Z H Q:=by rintro Z H Q ⟨J,B,S,d,S',sr,re,e,y⟩;obtain⟨x,S1,e1,e⟩:=zA7 e;obtain⟨z,S2,e2,e⟩:=zA7 e;refine⟨J,B,S,x,S1,sr,re,e1,λv H1 J1 sr1 st1 r1=>⟨J1,B,S1,z,S2,sr1,re.up st1,e2,λu H2 J2 sr2 st2 r2=>?_⟩⟩;exact ho x z S2 d S' H2 J2 v u Q e sr2 (RV.up st2.tk st2.ext _ _ r1) r2 (y.shift (st1.trans st2 sr2.nd))
theorem zV2{op:m6}{o:D->D->M D}(ho:OpS X.K (rAny X (jJ op)) o)(ha:PE X a (tOf X.K ca))(hb:PE X b (tOf X.K cb)):PE X (.BinOp a op b pos) (tOf X.K (cBin o ca cb)):=(zYC zK7 ha hb).weak (zL8 ho)
theorem zV1{op:fY}{o:D->D->M D}(ho:OpS X.K (rAny X (y9 op)) o)(ha:PE X a (tOf X.K ca))(hb:PE X b (tOf X.K cb))(hm:fG op b=false):PE X (.Compare a [op] [b] pos) (tOf X.K (cBin o ca cb)):=(zST zK7 ha hb hm).weak (zL8 ho)
theorem zND{t:TE}{c:C}(h:∀Z H Q,tOf X.K c Z H Q->t Z H Q):∀Z H Q,tOfT X.K (zAs c) Z H Q->zRY t Z H Q:=by
 rintro Z H Q ⟨J,B,S,d,S',sr,re,e,y⟩;obtain⟨x,S1,e1,e⟩:=zA7 e;refine h Z H _ ⟨J,B,S,x,S1,sr,re,e1,λv H1 J1 sr1 st1 r1=>?_⟩;cases x with
 |bl k =>
  obtain⟨rfl,rfl⟩:=zAq e;unfold RV at r1;exact⟨_,r1,y H1 J1 sr1 st1⟩
 |_=>cases e
theorem zUD{op:fY}{o:D->D->M D}(ho:OpS X.K (rAny X (y9 op)) o)(ha:PE X a (tOf X.K ca))(hb:PE X b (tOf X.K cb))(hm:fG op b=false):PT X (.Compare a [op] [b] pos) (tOfT X.K (zAs (cBin o ca cb))):=(zSH zK7 ha hb hm).weak (zND (zL8 ho))
theorem zL7{r r':R2}{o o':D->D->M D}(ho:OpS X.K r o)(ho':OpS X.K r' o'):∀Z H Q,tOf X.K (zG9 o o' ca cb cc) Z H Q->zMV r r' (tOf X.K ca) (tOf X.K cb) (tOf X.K cc) Z H Q:=by
 rintro Z H Q ⟨J,B,S,d,S',sr,re,e,y⟩;obtain⟨x,S1,e1,f1⟩:=zA7 e;obtain⟨z,S2,e2,f2⟩:=zA7 f1;obtain⟨t,S3,e3,f3⟩:=zA7 f2;obtain⟨k,S4,e4,f4⟩:=zA7 f3;refine⟨J,B,S,x,S1,sr,re,e1,λv H1 J1 sr1 st1 r1=>⟨J1,B,S1,z,S2,sr1,re.up st1,e2,λu H2 J2 sr2 st2 r2=>?_⟩⟩;have st12:=st1.trans st2 sr2.nd;refine ho x z S2 t S3 H2 J2 v u _ e3 sr2 (RV.up st2.tk st2.ext _ _ r1) r2 λv3 H3 J3 sr3 st3 r3=>?_;have st13:=st12.trans st3 sr3.nd;cases t with
 |bl k' =>
  obtain⟨rfl,rfl⟩:=zAq e4;unfold RV at r3;refine⟨_,r3,?_⟩;cases k with
  |true =>
   rw[if_pos rfl]at f4 ⊢;obtain⟨w,S5,e5,f5⟩:=zA7 f4;refine⟨J3,B,_,w,S5,sr3,re.up st13,e5,λv5 H5 J5 sr5 st5 r5=>?_⟩;exact ho' z w S5 d S' H5 J5 u v5 Q f5 sr5 (RV.up st5.tk st5.ext _ _ (RV.up st3.tk st3.ext _ _ r2)) r5 (y.shift (st13.trans st5 sr5.nd))
  |false =>
   rw[if_neg qA9]at f4 ⊢;obtain⟨rfl,rfl⟩:=zAq f4;exact y _ H3 J3 sr3 st13 (by unfold RV;rfl)
 |_=>cases e4
theorem zPF{op op':fY}{o o':D->D->M D}(ho:OpS X.K (rAny X (y9 op)) o)(ho':OpS X.K (rAny X (y9 op')) o')(ha:PE X a (tOf X.K ca))(hb:PE X b (tOf X.K cb))(hc:PE X c (tOf X.K cc))(hm:mE [op,op'] [b,c]=false):
  PE X (.Compare a [op,op'] [b,c] pos) (tOf X.K (zG9 o o' ca cb cc)):=(zPY zK7 zK7 ha hb hc hm).weak (zL7 ho ho')
theorem zPu{op op':fY}{o o':D->D->M D}(ho:OpS X.K (rAny X (y9 op)) o)(ho':OpS X.K (rAny X (y9 op')) o')(ha:PE X a (tOf X.K ca))(hb:PE X b (tOf X.K cb))(hc:PE X c (tOf X.K cc))(hm:mE [op,op'] [b,c]=false):
  PT X (.Compare a [op,op'] [b,c] pos) (tOfT X.K (zAs (zG9 o o' ca cb cc))):=(zPL zK7 zK7 ha hb hc hm).weak (zND (zL7 ho ho'))
def UnS(K:yQ)(r:V->Hp->VK->Prop)(o:D->M D):Prop:=∀x S d S' H J v Q,o x S=.ok d S'->SR K J S H->RV K H J x v->Yld K J H d S' Q->r v H Q
theorem zYj{op:UnaryOp}{o:D->M D}(ho:UnS X.K (uAny X (unaryOp op)) o)(ha:PE X a (tOf X.K ca)):PE X (.UnaryOp op a pos) (tOf X.K (cUn o ca)):=(zYA zY3 ha).weak (by
 rintro Z H Q ⟨J,B,S,d,S',sr,re,e,y⟩;obtain⟨x,S1,e1,e⟩:=zA7 e;exact⟨J,B,S,x,S1,sr,re,e1,λv H1 J1 sr1 st1 r1=>ho x S1 d S' H1 J1 v Q e sr1 r1 (y.shift st1)⟩)
theorem zK8{Z:St}{H:Hp}{J:yC}{B:Env1}{S S':zA0}{k:Bool}(sr:SR X.K J S H)(re:RE X.K H J B Z)(e:zAs ca B S=.ok k S'){Q:VK}(h:∀H1 J1,SR X.K J1 S' H1->Step X.K J J1 H H1->Q (.bl k) H1):tOf X.K ca Z H Q:=by
 obtain⟨x,S1,e1,e⟩:=zA7 e;refine⟨J,B,S,x,S1,sr,re,e1,λv H1 J1 sr1 st1 r1=>?_⟩;cases x with
 |bl k' =>
  obtain⟨rfl,rfl⟩:=zAq e;unfold RV at r1;subst r1;exact h H1 J1 sr1 st1
 |_=>cases e
theorem zV3{rest:yE}(ha:PE X a (tOf X.K ca))(hb:PE X (.BoolOp .And (b::rest) pos) (tOf X.K cb)):PE X (.BoolOp .And (a::b::rest) pos) (tOf X.K (zIh ca cb)):=(zVz ha hb).weak (by
 rintro Z H Q ⟨J,B,S,d,S',sr,re,e,y⟩;obtain⟨k,S1,e1,e⟩:=zA7 e;refine zK8 sr re e1 λH1 J1 sr1 st1=>⟨k,rfl,?_⟩
 cases k with
 |true=>rw[if_pos rfl]at e ⊢;exact⟨J1,B,S1,d,S',sr1,re.up st1,e,y.shift st1⟩
 | false=>rw[if_neg qA9]at e ⊢;obtain⟨rfl,rfl⟩:=zAq e;exact y _ H1 J1 sr1 st1 (by unfold RV;rfl))
theorem zYk{rest:yE}(ha:PE X a (tOf X.K ca))(hb:PE X (.BoolOp .Or (b::rest) pos) (tOf X.K cb)):PE X (.BoolOp .Or (a::b::rest) pos) (tOf X.K (cOrV ca cb)):=(zYB ha hb).weak (by
 rintro Z H Q ⟨J,B,S,d,S',sr,re,e,y⟩;obtain⟨k,S1,e1,e⟩:=zA7 e;refine zK8 sr re e1 λH1 J1 sr1 st1=>⟨k,rfl,?_⟩
 cases k with
 |false=>rw[if_neg qA9]at e ⊢;exact⟨J1,B,S1,d,S',sr1,re.up st1,e,y.shift st1⟩
 | true=>rw[if_pos rfl]at e ⊢;obtain⟨rfl,rfl⟩:=zAq e;exact y _ H1 J1 sr1 st1 (by unfold RV;rfl))
theorem zUW(ha:PE X a (tOf X.K ca)):PE X (.UnaryOp .Not a pos) (tOf X.K (zR0 ca)):=(zVu ha).weak (by
 rintro Z H Q ⟨J,B,S,d,S',sr,re,e,y⟩;obtain⟨k,S1,e1,e⟩:=zA7 e;obtain⟨rfl,rfl⟩:=zAq e;exact zK8 sr re e1 λH1 J1 sr1 st1=>⟨k,rfl,y _ H1 J1 sr1 st1 (by unfold RV;rfl)⟩)
theorem zPE{t:y4}{ct:CT}(ht:PT X t (tOfT X.K ct))(ha:PE X a (tOf X.K ca))(hb:PE X b (tOf X.K cb)):PE X (.IfExp t a b pos) (tOf X.K (cIf ct ca cb)):=(zL3 ht ha hb).weak (by
 rintro Z H Q ⟨J,B,S,d,S',sr,re,e,y⟩;obtain⟨k,S1,e1,e⟩:=zA7 e;refine⟨J,B,S,k,S1,sr,re,e1,λH1 J1 sr1 st1=>?_⟩;cases k with
 |true=>rw[if_pos rfl]at e ⊢;exact⟨J1,B,S1,d,S',sr1,re.up st1,e,y.shift st1⟩
 | false=>rw[if_neg qA9]at e ⊢;exact⟨J1,B,S1,d,S',sr1,re.up st1,e,y.shift st1⟩)
variable {ta tb:CT}
theorem zUA{rest:yE}(ha:PT X a (tOfT X.K ta))(hb:PW X (.BoolOp .And (b::rest) pos) (tOfT X.K tb)):PW X (.BoolOp .And (a::b::rest) pos) (tOfT X.K (zPe ta tb)):=(zVm ha hb).weak (by
 rintro Z H Q ⟨J,B,S,d,S',sr,re,e,y⟩;obtain⟨k,S1,e1,e⟩:=zA7 e;refine⟨J,B,S,k,S1,sr,re,e1,λH1 J1 sr1 st1=>?_⟩;cases k with
 |true=>rw[if_pos rfl]at e ⊢;exact⟨J1,B,S1,d,S',sr1,re.up st1,e,y.shift st1⟩
 | false=>rw[if_neg qA9]at e ⊢;obtain⟨rfl,rfl⟩:=zAq e;exact y H1 J1 sr1 st1)
theorem zYd{rest:yE}(ha:PT X a (tOfT X.K ta))(hb:PW X (.BoolOp .Or (b::rest) pos) (tOfT X.K tb)):PW X (.BoolOp .Or (a::b::rest) pos) (tOfT X.K (cOrT ta tb)):=(zYy ha hb).weak (by
 rintro Z H Q ⟨J,B,S,d,S',sr,re,e,y⟩;obtain⟨k,S1,e1,e⟩:=zA7 e;refine⟨J,B,S,k,S1,sr,re,e1,λH1 J1 sr1 st1=>?_⟩;cases k with
 |false=>rw[if_neg qA9]at e ⊢;exact⟨J1,B,S1,d,S',sr1,re.up st1,e,y.shift st1⟩
 | true=>rw[if_pos rfl]at e ⊢;obtain⟨rfl,rfl⟩:=zAq e;exact y H1 J1 sr1 st1)
theorem zUC(ha:PT X a (tOfT X.K ta)):PT X (.UnaryOp .Not a pos) (tOfT X.K (zKI ta)):=(zVn ha).weak (by
 rintro Z H Q ⟨J,B,S,d,S',sr,re,e,y⟩;obtain⟨k,S1,e1,e⟩:=zA7 e;obtain⟨rfl,rfl⟩:=zAq e;exact⟨J,B,S,k,_,sr,re,e1,λH1 J1 sr1 st1=>y H1 J1 sr1 st1⟩)
noncomputable def dTru(x:D):M Bool:=λS=>match x with
 |.non=>.ok false S
 |.bl b=>.ok b S
 |.int i=>.ok (i != 0) S
 |.str y=>if y.length<=jA then .ok ((y.length:Int) != 0) S else .bad
 |.tup xs=>.ok (!xs.isEmpty) S
 |.lst n=>match S[n]? with
  |some (.lst xs)=>.ok (!xs.isEmpty) S
  |_=>.bad
 |.dct n=>match S[n]? with
  |some (.dk kvs)=>.ok (!kvs.isEmpty) S
  |_=>.bad
 |.ty _=>.bad
 |.rol xs=>.ok (!xs.isEmpty) S
 |.xc _=>.bad
noncomputable def cTru(a:C):CT:=fun B=>bnd (a B) dTru
theorem zLz{K:yQ}{H:Hp}{J:yC}{ds:List D}{vs:List V}(h:RVs K H J ds vs):ds.isEmpty=vs.isEmpty:=by
 cases ds with
 |nil=>unfold RVs at h;subst h;rfl
 |cons d ds=>unfold RVs at h;obtain⟨v,ws,rfl,_⟩:=h;rfl
theorem SR.get{K:yQ}{H:Hp}{J:yC}{S:zA0}(sr:SR K J S H){n:Nat}{a:yR}{o:O}(h:J[n]?=some a)(ho:S[n]?=some o):OR K H J a o:=sr.obj n a o h ho
theorem zTQ{K:yQ}{H:Hp}{J:yC}{S S':zA0}{x:D}{v:V}{k:Bool}(e:dTru x S=.ok k S')(sr:SR K J S H)(r:RV K H J x v):S'=S/\TruV K v H k:=by
 unfold dTru at e;cases x with
 |non=>cases e;unfold RV at r;subst r;exact⟨rfl,rfl⟩
 |bl b=>cases e;unfold RV at r;subst r;exact⟨rfl,rfl⟩
 |int i=>cases e;unfold RV at r;subst r;exact⟨rfl,rfl⟩
 |str y =>
  unfold RV at r;subst r;dsimp only at e;split at e
  ·rename_i hl;cases e;exact⟨rfl,hl,rfl⟩
  ·cases e
 |tup xs =>
  cases e;unfold RV at r;obtain⟨p,vs,rfl,q,rr⟩:=r;exact⟨rfl,.inr (.inl ⟨vs,SqT.of q,by rw[zLz rr]⟩)⟩
 |lst n =>
  unfold RV at r;obtain⟨a,rfl,hm⟩:=r;dsimp only at e;split at e
  ·rename_i xs ho;cases e;obtain⟨vs,hq,rr⟩:=sr.get hm ho;exact⟨rfl,.inl ⟨vs,SqL.of hq,by rw[zLz rr]⟩⟩
  ·cases e
 |dct n =>
  unfold RV at r;obtain⟨a,rfl,hm⟩:=r;dsimp only at e;split at e
  ·rename_i kvs ho;cases e;obtain⟨ws,hq,rr⟩:=sr.get hm ho;refine⟨rfl,.inr (.inr ⟨ws,hq,?_⟩)⟩;have:=zLz rr.2;rw[qQ9,qQ9]at this;rw[this]
  ·cases e
 |ty _=>cases e
 |rol xs =>
  cases e;unfold RV at r;obtain⟨p,vs,rfl,q,rr⟩:=r;exact⟨rfl,.inl ⟨vs,q.sq,by rw[zLz rr]⟩⟩
 |xc _=>cases e
theorem zUB(ha:PE X a (tOf X.K ca))(he:∀whole,dJ a X.env whole=(do let v <- whole;m5 a.pos;wI [v] (truthy v))):PT X a (tOfT X.K (cTru ca)):=(zPK ha he).weak (by
 rintro Z H Q ⟨J,B,S,d,S',sr,re,e,y⟩;obtain⟨x,S1,e1,e⟩:=zA7 e;refine⟨J,B,S,x,S1,sr,re,e1,λv H1 J1 sr1 st1 r1=>?_⟩;obtain⟨rfl,tv⟩:=zTQ e sr1 r1;exact⟨d,tv,y H1 J1 sr1 st1⟩)
variable {es:yE}{cs:List C}
theorem zN9:PA X [] (tOfA X.K (zA2 [])):=zL4.weak (by
 rintro Z H Q ⟨J,B,S,d,S',sr,re,e,y⟩;obtain⟨rfl,rfl⟩:=zAq e;exact y [] H J sr (Step.refl _ _ _) RVs.nil)
theorem zHv(ha:PE X a (tOf X.K ca))(hr:PA X es (tOfA X.K (zA2 cs)))(hs:jF (a::es) X.env=(false,vL a X.env)::jF es X.env):PA X (a::es) (tOfA X.K (zA2 (ca::cs))):=(zFr ha hr hs).weak (by
 rintro Z H Q ⟨J,B,S,d,S',sr,re,e,y⟩;obtain⟨x,S1,e1,e⟩:=zA7 e;obtain⟨xs,S2,e2,e⟩:=zA7 e;obtain⟨rfl,rfl⟩:=zAq e;exact⟨J,B,S,x,S1,sr,re,e1,λv H1 J1 sr1 st1 r1=>⟨J1,B,S1,xs,S',sr1,re.up st1,e2,λvs H2 J2 sr2 st2 r2=>y (v::vs) H2 J2 sr2 (st1.trans st2 sr2.nd) (.cons (RV.up st2.tk st2.ext _ _ r1) r2)⟩⟩)
theorem zGa{B:Env1}:∀{cs:List C}{S S':zA0}{xs:List D},zA2 cs B S=.ok xs S'->xs.length=cs.length
 |[],S,S',xs,e=>by obtain⟨rfl,rfl⟩:=zAq e;rfl
 |c::cs,S,S',xs,e=>by obtain⟨x,S1,e1,e⟩:=zA7 e;obtain⟨ys,S2,e2,e⟩:=zA7 e;obtain⟨rfl,rfl⟩:=zAq e;rw[qD4,qD4,zGa e2]
theorem zHB{K:yQ}{H:Hp}{J:yC}{S:zA0}{ds:List D}{vs:List V}{p:yR}(sr:SR K J S H)(h:H p=none)(r:RVs K H J ds vs):SR K J S (upd H p (.tup vs))/\Step K J J H (upd H p (.tup vs))/\RV K (upd H p (.tup vs)) J (.tup ds) (.ref p):=by obtain⟨s1,s2⟩:=sr.other (o:=.tup vs) h;exact⟨s1,s2,by unfold RV;exact⟨p,vs,rfl,zAc,RVs.up s2.tk s2.ext _ _ r⟩⟩
theorem zT2{K:yQ}{H:Hp}{J:yC}{S:zA0}{ds:List D}{vs:List V}{p:yR}(sr:SR K J S H)(h:H p=none)(r:RVs K H J ds vs):SR K (J++[p]) (S++[.lst ds]) (upd H p (.lst vs))/\Step K J (J++[p]) H (upd H p (.lst vs))/\RV K (upd H p (.lst vs)) (J++[p]) (.lst S.length) (.ref p):=by obtain⟨s1,s2⟩:=sr.push (o:=.lst vs) (o':=.lst ds) h ⟨vs,zAc,RVs.up (zGZ h) ⟨[p],rfl⟩ _ _ r⟩;exact⟨s1,s2,by unfold RV;exact⟨p,rfl,by rw[<- sr.len,qA0 (qA6 _),qI8];rfl⟩⟩
theorem Yld.newL{K:yQ}{H:Hp}{J:yC}{S:zA0}{ds:List D}{vs:List V}{p:yR}{Q:VK}(y:Yld K J H (.lst S.length) (S++[.lst ds]) Q)(sr:SR K J S H)(h:H p=none)(r:RVs K H J ds vs):Q (.ref p) (upd H p (.lst vs)):=by obtain⟨s1,s2,s3⟩:=zT2 sr h r;exact y _ _ _ s1 s2 s3
theorem Yld.newT{K:yQ}{H:Hp}{J:yC}{S:zA0}{ds:List D}{vs:List V}{p:yR}{Q:VK}(y:Yld K J H (.tup ds) S Q)(sr:SR K J S H)(h:H p=none)(r:RVs K H J ds vs):Q (.ref p) (upd H p (.tup vs)):=by obtain⟨s1,s2,s3⟩:=zHB sr h r;exact y _ _ _ s1 s2 s3
theorem zUV{x1}(h:PA X es (tOfA X.K (zA2 cs)))(hl:cs.length<=1000):PE X (.Tuple es x1 pos) (tOf X.K (cTup (zA2 cs))):=(zVs h).weak (by
 rintro Z H Q ⟨J,B,S,d,S',sr,re,e,y⟩;obtain⟨xs,S1,e1,e⟩:=zA7 e;obtain⟨rfl,rfl⟩:=zAq e;refine⟨J,B,S,xs,S',sr,re,e1,λvs H1 J1 sr1 st1 r1=>⟨?_,λp hp=>(y.shift st1).newT sr1 hp r1⟩⟩;have h1:=zGa e1;have h2:=r1.len;exact qG3 (zIH (by omega)))
theorem zUX(h:PA X es (tOfA X.K (zA2 cs)))(hl:cs.length<=1000):PE X (.List es pos) (tOf X.K (cLst (zA2 cs))):=(zVv h).weak (by
 rintro Z H Q ⟨J,B,S,d,S',sr,re,e,y⟩;obtain⟨xs,S1,e1,e⟩:=zA7 e;cases e;refine⟨J,B,S,xs,S1,sr,re,e1,λvs H1 J1 sr1 st1 r1=>⟨?_,λp hp=>(y.shift st1).newL sr1 hp r1⟩⟩;have h1:=zGa e1;have h2:=r1.len;exact qG3 (zIH (by omega)))
theorem zYl{o:D->D->M D}(ho:OpS X.K (zOg X) o)(ha:PE X a (tOf X.K ca))(hb:PE X b (tOf X.K cb))(hs:zIu b):PE X (.Subscript a b pos) (tOf X.K (cBin o ca cb)):=(zVw zWx ha hb hs).weak (zL8 ho)
noncomputable def CO:=Env1->M (yG)
noncomputable def zIg:CO:=λ_=>ret none
noncomputable def dInt(x:D):M Int:=match x with
 |.int i=>ret i
 |_=>bad
noncomputable def zJF(a:C):CO:=fun B=>bnd (a B) λx=>bnd (dInt x) λi=>ret (some i)
def YldO(K:yQ)(J:yC)(H:Hp)(b:yG)(S':zA0)(Q:yG->Hp->Prop):Prop:=∀H' J',SR K J' S' H'->Step K J J' H H'->Q b H'
inductive tOfO(K:yQ)(c:CO)(Z:St)(H:Hp)(Q:yG->Hp->Prop):Prop
 |mk (J:yC) (B:Env1) (S:zA0) (d:yG) (S':zA0) (sr:SR K J S H) (re:RE K H J B Z) (e:c B S=.ok d S') (y:YldO K J H d S' Q)
theorem PO.weak{e:Option y4}{t t':TO}(h:PO X e t)(w:∀Z H Q,t' Z H Q->t Z H Q):PO X e t':=λpins s Z H Q I q=>h pins s Z H Q I (w Z H Q q)
theorem zSa:PO X none (tOfO X.K zIg):=zSO.weak (by
 rintro Z H Q ⟨J,B,S,d,S',sr,re,e,y⟩;obtain⟨rfl,rfl⟩:=zAq e;exact y H J sr (Step.refl _ _ _))
theorem zS9(ha:PE X a (tOf X.K ca)):PO X (some a) (tOfO X.K (zJF ca)):=(zSN ha).weak (by
 rintro Z H Q ⟨J,B,S,d,S',sr,re,e,y⟩;obtain⟨x,S1,e1,e⟩:=zA7 e;obtain⟨i,S2,e2,e⟩:=zA7 e;obtain⟨rfl,rfl⟩:=zAq e;refine⟨J,B,S,x,S1,sr,re,e1,λv H1 J1 sr1 st1 r1=>?_⟩;cases x with
 |int j =>
  obtain⟨rfl,rfl⟩:=zAq e2;unfold RV at r1;exact⟨_,r1,y H1 J1 sr1 st1⟩
 | _=>cases e2)
noncomputable def cSl(o:D->yG->yG->M D)(a:C)(lo hi:CO):C:=fun B=>bnd (a B) λx=>bnd (lo B) λl=>bnd (hi B) λh=>o x l h
def SlS(K:yQ)(r:V->yG->yG->Hp->VK->Prop)(o:D->yG->yG->M D):Prop:=∀x l h S d S' H J v Q,o x l h S=.ok d S'->SR K J S H->RV K H J x v->Yld K J H d S' Q->r v l h H Q
theorem zPC{lo hi:Option y4}{cl ch:CO}{p2:Pos}{o:D->yG->yG->M D}(ho:SlS X.K (zN1 X) o)(ha:PE X a (tOf X.K ca))(hl:PO X lo (tOfO X.K cl))(hh:PO X hi (tOfO X.K ch)):PE X (.Subscript a (.Slice lo hi none p2) pos) (tOf X.K (cSl o ca cl ch)):=(zPW zYg ha hl hh).weak (by
 rintro Z H Q ⟨J,B,S,d,S',sr,re,e,y⟩;obtain⟨x,S1,e1,e⟩:=zA7 e;obtain⟨l,S2,e2,e⟩:=zA7 e;obtain⟨h,S3,e3,e⟩:=zA7 e;refine⟨J,B,S,x,S1,sr,re,e1,λv H1 J1 sr1 st1 r1=>⟨J1,B,S1,l,S2,sr1,re.up st1,e2,λH2 J2 sr2 st2=>?_⟩⟩;have st12:=st1.trans st2 sr2.nd;refine⟨J2,B,S2,h,S3,sr2,re.up st12,e3,λH3 J3 sr3 st3=>?_⟩;exact ho x l h S3 d S' H3 J3 v Q e sr3 (RV.up st3.tk st3.ext _ _ (RV.up st2.tk st2.ext _ _ r1)) (y.shift (st12.trans st3 sr3.nd)))
def zEF(K:yQ)(r:List V->Hp->VK->Prop)(o:List D->M D):Prop:=∀xs S d S' H J vs Q,o xs S=.ok d S'->SR K J S H->RVs K H J xs vs->Yld K J H d S' Q->r vs H Q
variable {ca':CA}
theorem zRk{r:List V->Hp->VK->Prop}{o:List D->M D}(ho:zEF X.K r o):∀Z H Q,tOf X.K (cApp o ca') Z H Q->tCB r (tOfA X.K ca') Z H Q:=by rintro Z H Q ⟨J,B,S,d,S',sr,re,e,y⟩;obtain⟨xs,S1,e1,e⟩:=zA7 e;exact⟨J,B,S,xs,S1,sr,re,e1,λvs H1 J1 sr1 st1 r1=>ho xs S1 d S' H1 J1 vs Q e sr1 r1 (y.shift st1)⟩
end
noncomputable def lim:Nat:=1048576
theorem zH9{n:Nat}(h:n<=lim):n<=sizeLine:=qD0 h (by decide)
theorem zO0{n:Nat}(h:n<lim):n<sizeLine:=qB2 h (by decide)
section
variable {K:yQ}{H H' H1:Hp}{J:yC}{S:zA0}
theorem SR.same(sr:SR K J S H)(sm:Same H H1):SR K J S H1/\Step K J J H H1:=by have tk:TF K H H1:=zMO sm;refine⟨⟨sr.len,sr.nd,λn a o e1 e2=>?_⟩,⟨⟨[],by simp,by simp⟩,λb o _ h=>sm b o h,tk⟩⟩;obtain⟨u,hu⟩:=sr.isS (qB5 e1);exact(sr.obj n a o e1 e2).up tk ⟨[],by simp⟩ (by rw[hu];exact sm _ _ hu)
theorem Yld.oldT{ds:List D}{vs:List V}{p:yR}{Q:VK}(y:Yld K J H (.tup ds) S Q)(sr:SR K J S H)(sm:Same H H1)(h:H1 p=some (.tup vs))(r:RVs K H J ds vs):Q (.ref p) H1:=by obtain⟨s1,s2⟩:=sr.same sm;exact y _ _ _ s1 s2 (by unfold RV;exact⟨p,vs,rfl,h,RVs.up s2.tk s2.ext _ _ r⟩)
theorem zAy{i:Int}:RV K H J (.int i) (.int i):=by unfold RV;rfl
theorem zDC{i:Bool}:RV K H J (.bl i) (.bl i):=by unfold RV;rfl
theorem zE9:RV K H J .non .non:=by unfold RV;rfl
theorem zNe{i:Str}:RV K H J (.str i) (.str i):=by unfold RV;rfl
theorem SR.lst(sr:SR K J S H){n:Nat}{a:yR}{xs:List D}(h:J[n]?=some a)(ho:S[n]?=some (.lst xs)):∃vs,H a=some (.lst vs)/\RVs K H J xs vs:=sr.obj n a _ h ho
noncomputable def zA3(S:zA0)(n:Nat):Option (List D):=match S[n]? with
 |some (.lst xs)=>some xs
 |_=>none
theorem SR.sq(sr:SR K J S H){n:Nat}{a:yR}{xs:List D}(h:J[n]?=some a)(ho:zA3 S n=some xs):∃vs,SqL K H a vs/\RVs K H J xs vs:=by
 unfold zA3 at ho;split at ho
 ·rename_i ys e;cases ho;obtain⟨vs,q,r⟩:=sr.get h e;exact⟨vs,SqL.of q,r⟩
 ·cases ho
noncomputable def zIL(S:zA0):D->Option (List D)
 |.tup xs=>some xs
 |.lst n=>zA3 S n
 |.rol xs=>some xs
 |_=>none
theorem SR.seq(sr:SR K J S H){x:D}{v:V}{xs:List D}(r:RV K H J x v)(ho:zIL S x=some xs):∃a vs,v=.ref a/\(SqL K H a vs∨SqT K H a vs)/\RVs K H J xs vs:=by
 unfold zIL at ho;split at ho
 ·cases ho;unfold RV at r;obtain⟨p,vs,rfl,q,rr⟩:=r;exact⟨p,vs,rfl,.inr (SqT.of q),rr⟩
 ·unfold RV at r;obtain⟨a,rfl,hm⟩:=r;obtain⟨vs,q,rr⟩:=sr.sq hm ho;exact⟨a,vs,rfl,.inl q,rr⟩
 ·cases ho;unfold RV at r;obtain⟨p,vs,rfl,q,rr⟩:=r;exact⟨p,vs,rfl,.inl q.sq,rr⟩
 ·cases ho
theorem RVs.cons_inv{d:D}{ds:List D}{vs:List V}(h:RVs K H J (d::ds) vs):∃v ws,vs=v::ws/\RV K H J d v/\RVs K H J ds ws:=by unfold RVs at h;exact h
theorem RVs.nil_inv{vs:List V}(h:RVs K H J [] vs):vs=[]:=by unfold RVs at h;exact h
end
noncomputable def oInt(g:Int->Int->Int):D->D->M D
 |.int i,.int j=>ret (.int (g i j))
 |_,_=>bad
noncomputable def oAdd:D->D->M D
 |.int i,.int j=>ret (.int (i+j))
 |.tup xs,.tup ys=>λS=>if xs.length+ys.length<=lim then .ok (.tup (xs++ys)) S else .bad
 |.lst n,.lst m=>λS=>match S[n]?,S[m]? with
  |some (.lst xs),some (.lst ys)=>if xs.length+ys.length<=lim then .ok (.lst S.length) (S++[.lst (xs++ys)])else .bad
  |_,_=>.bad
 |.str x,.str y=>λS=>if x.length+y.length<=lim then .ok (.str (x++y)) S else .bad
 |_,_=>bad
noncomputable def zDQ(i j:Int):Bool:=(decide (-18446744073709551616<i)&&decide (i<18446744073709551616))||(decide (-18446744073709551616<j)&&decide (j<18446744073709551616))
noncomputable def oMul:D->D->M D
 |.int i,.int j=>λS=>if zDQ i j then .ok (.int (i*j)) S else .bad
 |_,_=>bad
noncomputable def oMod:D->D->M D
 |.int i,.int j=>λS=>if 0<j then .ok (.int (i % j)) S else .bad
 |_,_=>bad
noncomputable def oDiv:D->D->M D
 |.int i,.int j=>λS=>if 0<j/\j<1073741824 then .ok (.int (i / j)) S else .bad
 |_,_=>bad
noncomputable def oPow:D->D->M D
 |.int i,.int j=>λS=>if 0<=j/\j<=1000000/\i.natAbs<18446744073709551616 then .ok (.int (i ^ j.toNat)) S else .bad
 |_,_=>bad
noncomputable def oShl:D->D->M D
 |.int i,.int j=>λS=>if 0<=j/\j<=1000000/\i.natAbs<18446744073709551616 then .ok (.int (i*2 ^ j.toNat)) S else .bad
 |_,_=>bad
noncomputable def oShr:D->D->M D
 |.int i,.int j=>λS=>if 0<=j then .ok (.int (i / 2 ^ j.toNat)) S else .bad
 |_,_=>bad
noncomputable def oNeg:D->M D
 |.int i=>ret (.int (-i))
 |_=>bad
section
variable {X:Cx}
theorem zL5{op:m6}{g:Int->Int->Int}(h:OpR X (jJ op) (rI0 λi j=>.int (g i j))):OpS X.K (rAny X (jJ op)) (oInt g):=by
 intro x y S d S' H J v u Q e sr rx ry h';unfold oInt at e;split at e
 ·obtain⟨rfl,rfl⟩:=zAq e;unfold RV at rx ry;subst rx ry;exact⟨_,h,_,_,rfl,rfl,h'.self sr zAy⟩
 ·cases e
theorem zVB:OpS X.K (rAny X (jJ .Sub)) (oInt λi j=>i - j):=zL5 zVM
theorem zVJ:OpS X.K (rAny X (jJ .BitAnd)) (oInt jL):=zL5 zVX
theorem zYH:OpS X.K (rAny X (jJ .BitOr)) (oInt vJ):=zL5 zYR
theorem zVA:OpS X.K (rAny X (jJ .BitXor)) (oInt lQ):=zL5 zVL
theorem zVK:OpS X.K (rAny X (jJ .Add)) oAdd:=by
 intro x y S d S' H J v u Q e sr rx ry h;unfold oAdd at e;split at e
 ·obtain⟨rfl,rfl⟩:=zAq e;unfold RV at rx ry;subst rx ry;exact⟨_,zVY,_,_,rfl,rfl,h.self sr zAy⟩
 ·try dsimp only at e
  split at e
  ·rename_i hl;cases e;unfold RV at rx ry;obtain⟨p,vs,rfl,q1,r1⟩:=rx;obtain⟨p2,ws,rfl,q2,r2⟩:=ry;exact⟨_,zQ3,p,p2,vs,ws,rfl,rfl,q1,q2,by rw[<- r1.len,<- r2.len];exact zH9 hl,λp3 H1 sm sq=>h.oldT sr sm sq (r1.append r2)⟩
  ·cases e
 ·try dsimp only at e
  unfold RV at rx ry;obtain⟨p,rfl,m1⟩:=rx;obtain⟨p2,rfl,m2⟩:=ry;split at e
  ·rename_i xs ys o1 o2;split at e
   ·rename_i hl;cases e;obtain⟨vs,q1,r1⟩:=sr.lst m1 o1;obtain⟨ws,q2,r2⟩:=sr.lst m2 o2;exact⟨_,zVW,p,p2,vs,ws,rfl,rfl,q1,q2,by rw[<- r1.len,<- r2.len];exact zH9 hl,λp3 hp=>h.newL sr hp (r1.append r2)⟩
   ·cases e
  ·cases e
 ·try dsimp only at e
  split at e
  ·rename_i hl;cases e;unfold RV at rx ry;subst rx ry;exact⟨_,zM5,_,_,rfl,rfl,zH9 hl,h.self sr zNe⟩
  ·cases e
 ·cases e
theorem zT3{i j:Int}(h:zDQ i j=true):CMul i j:=by unfold zDQ at h;simp only[qH8,qC5,decide_eq_true_eq]at h;exact h
theorem zVF:OpS X.K (rAny X (jJ .Mult)) oMul:=by
 intro x y S d S' H J v u Q e sr rx ry h;unfold oMul at e;split at e
 ·try dsimp only at e
  split at e
  ·rename_i hl;cases e;unfold RV at rx ry;subst rx ry;exact⟨_,zVR,_,_,rfl,rfl,zT3 hl,h.self sr zAy⟩
  ·cases e
 ·cases e
theorem zVG:OpS X.K (rAny X (jJ .Mod)) oMod:=by
 intro x y S d S' H J v u Q e sr rx ry h;unfold oMod at e;split at e
 ·try dsimp only at e
  split at e
  ·rename_i hl;cases e;unfold RV at rx ry;subst rx ry;exact⟨_,zVS,_,_,rfl,rfl,hl,h.self sr zAy⟩
  ·cases e
 ·cases e
theorem zVI:OpS X.K (rAny X (jJ .FloorDiv)) oDiv:=by
 intro x y S d S' H J v u Q e sr rx ry h;unfold oDiv at e;split at e
 ·try dsimp only at e
  split at e
  ·rename_i hl;cases e;unfold RV at rx ry;subst rx ry;exact⟨_,zSX,_,_,rfl,rfl,hl,h.self sr zAy⟩
  ·cases e
 ·cases e
theorem zVE:OpS X.K (rAny X (jJ .Pow)) oPow:=by
 intro x y S d S' H J v u Q e sr rx ry h;unfold oPow at e;split at e
 ·try dsimp only at e
  split at e
  ·rename_i hl;cases e;unfold RV at rx ry;subst rx ry;exact⟨_,zVP,_,_,rfl,rfl,hl,h.self sr zAy⟩
  ·cases e
 ·cases e
theorem zVD:OpS X.K (rAny X (jJ .LShift)) oShl:=by
 intro x y S d S' H J v u Q e sr rx ry h;unfold oShl at e;split at e
 ·try dsimp only at e
  split at e
  ·rename_i hl;cases e;unfold RV at rx ry;subst rx ry;exact⟨_,zVO,_,_,rfl,rfl,hl,h.self sr zAy⟩
  ·cases e
 ·cases e
theorem zVC:OpS X.K (rAny X (jJ .RShift)) oShr:=by
 intro x y S d S' H J v u Q e sr rx ry h;unfold oShr at e;split at e
 ·try dsimp only at e
  split at e
  ·rename_i hl;cases e;unfold RV at rx ry;subst rx ry;exact⟨_,zVN,_,_,rfl,rfl,hl,h.self sr zAy⟩
  ·cases e
 ·cases e
theorem zUl:UnS X.K (uAny X (unaryOp .USub)) oNeg:=by
 intro x S d S' H J v Q e sr rx h;unfold oNeg at e;split at e
 ·obtain⟨rfl,rfl⟩:=zAq e;unfold RV at rx;subst rx;exact⟨_,zUm,_,rfl,h.self sr zAy⟩
 ·cases e
noncomputable def oCmp(g:Int->Int->Bool):D->D->M D
 |.int i,.int j=>ret (.bl (g i j))
 |_,_=>bad
theorem zNx{op:fY}{g:Int->Int->Bool}(h:OpR X (y9 op) (rI0 λi j=>.bl (g i j))):OpS X.K (rAny X (y9 op)) (oCmp g):=by
 intro x y S d S' H J v u Q e sr rx ry h';unfold oCmp at e;split at e
 ·obtain⟨rfl,rfl⟩:=zAq e;unfold RV at rx ry;subst rx ry;exact⟨_,h,_,_,rfl,rfl,h'.self sr zDC⟩
 ·cases e
theorem zYK:OpS X.K (rAny X (y9 .LtE)) (oCmp λi j=>decide (i<=j)):=zNx zYT
theorem zYN:OpS X.K (rAny X (y9 .Gt)) (oCmp λi j=>decide (j<i)):=zNx zYU
theorem zYO:OpS X.K (rAny X (y9 .GtE)) (oCmp λi j=>decide (j<=i)):=zNx zYV
noncomputable def zDm:List D->Option (yA)
 |[]=>some []
 |.int i::r=>(zDm r).map (i::·)
 |_::_=>none
theorem zDl{K:yQ}{H:Hp}{J:yC}:∀{ds:List D}{ns:yA}{vs:List V},zDm ds=some ns->RVs K H J ds vs->vs=ns.map V.int
 |[],ns,vs,e,r=>by cases e;rw[r.nil_inv];rfl
 |.int i::ds,ns,vs,e,r=>by
  obtain⟨v,ws,rfl,r1,r2⟩:=r.cons_inv;unfold zDm at e;cases q:zDm ds with
  |none=>rw[q]at e;cases e
  |some ms =>
   rw[q]at e;cases e;unfold RV at r1;subst r1;rw[zDl q r2];rfl
 |.non::ds,ns,vs,e,r=>by cases e
 |.bl _::ds,ns,vs,e,r=>by cases e
 |.str _::ds,ns,vs,e,r=>by cases e
 |.ty _::ds,ns,vs,e,r=>by cases e
 |.tup _::ds,ns,vs,e,r=>by cases e
 |.lst _::ds,ns,vs,e,r=>by cases e
 |.dct _::ds,ns,vs,e,r=>by cases e
 |.rol _::ds,ns,vs,e,r=>by cases e
 |.xc _::ds,ns,vs,e,r=>by cases e
noncomputable def oLt:D->D->M D
 |.int i,.int j=>ret (.bl (decide (i<j)))
 |_,_=>bad
theorem zYJ(hu:X.A.units<wR):OpS X.K (rAny X (y9 .Lt)) oLt:=by
 intro x y S d S' H J v u Q e sr rx ry h;unfold oLt at e;split at e
 ·obtain⟨rfl,rfl⟩:=zAq e;unfold RV at rx ry;subst rx ry;exact⟨_,zIW,_,_,rfl,rfl,h.self sr zDC⟩
 ·cases e
noncomputable def snap:Nat->zA0->D->Option wP
 |0,_,_=>none
 |n+1,S,d=>match d with
  |.non=>some .none
  |.bl b=>some (.bool b)
  |.int i=>some (.int i)
  |.str x=>if PyData.strOk x then some (.str x)else none
  |.tup xs=>(xs.mapM (snap n S)).map .tuple
  |.lst k=>match zA3 S k with
   |some xs=>(xs.mapM (snap n S)).map .list
   |none=>none
  |_=>none
theorem zSb{K:yQ}{H:Hp}{J:yC}{S:zA0}{n:Nat}(ih:∀d v p,snap n S d=some p->RV K H J d v->Rp K H (λ_=>True) v p/\p.canLay0=true/\p.depth<=n):∀(xs:List D) (vs:List V) (ps:List wP),xs.mapM (snap n S)=some ps->RVs K H J xs vs->RpL K H (λ_=>True) vs ps/\PyData.canLayAll0 ps=true/\PyData.depthAll ps<=n
 |[],vs,ps,e,r=>by simp at e;subst e;rw[r.nil_inv];exact⟨.nil,rfl,qH4 _⟩
 |d::ds,vs,ps,e,r=>by
  obtain⟨v,ws,rfl,r1,r2⟩:=r.cons_inv;rw[qL0]at e;cases q:snap n S d with
  |none=>rw[q]at e;cases e
  |some p =>
   cases q2:ds.mapM (snap n S)with
   |none=>rw[q,q2]at e;cases e
   |some ps' =>
    rw[q,q2]at e;cases e;obtain⟨a1,a2,a3⟩:=ih d v p q r1;obtain⟨b1,b2,b3⟩:=zSb ih ds ws ps' q2 r2;refine⟨.cons a1 b1,?_,?_⟩
    ·show(PyData.canLay0 p&&PyData.canLayAll0 ps')=true;rw[a2,b2];rfl
    ·show max p.depth (PyData.depthAll ps')<=n;omega
theorem zEp{K:yQ}{H:Hp}{J:yC}{S:zA0}(sr:SR K J S H):∀(n:Nat) (d:D) (v:V) (p:wP),snap n S d=some p->RV K H J d v->Rp K H (λ_=>True) v p/\p.canLay0=true/\p.depth<=n
 |0,d,v,p,e,r=>by cases e
 |n+1,d,v,p,e,r=>by
  unfold snap at e;cases d with
  |non=>cases e;unfold RV at r;subst r;exact⟨.non,rfl,qH4 _⟩
  |bl b=>cases e;unfold RV at r;subst r;exact⟨.bl b,rfl,qH4 _⟩
  |int i=>cases e;unfold RV at r;subst r;exact⟨.int i,rfl,qH4 _⟩
  |str x =>
   dsimp only at e;split at e
   ·rename_i hs;cases e;unfold RV at r;subst r;exact⟨.str x,hs,qH4 _⟩
   ·cases e
  |tup xs =>
   dsimp only at e;cases q:xs.mapM (snap n S)with
   |none=>rw[q]at e;cases e
   |some ps =>
    rw[q]at e;cases e;unfold RV at r;obtain⟨a,vs,rfl,hq,rr⟩:=r;obtain⟨b1,b2,b3⟩:=zSb (λd v p e r=>zEp sr n d v p e r) xs vs ps q rr;exact⟨.tup (SqT.of hq) b1,b2,qR0 b3⟩
  |lst k =>
   dsimp only at e;split at e
   ·rename_i xs hx;cases q:xs.mapM (snap n S)with
    |none=>rw[q]at e;cases e
    |some ps =>
     rw[q]at e;cases e;unfold RV at r;obtain⟨a,rfl,hm⟩:=r;obtain⟨vs,hq,rr⟩:=sr.sq hm hx;obtain⟨b1,b2,b3⟩:=zSb (λd v p e r=>zEp sr n d v p e r) xs vs ps q rr;exact⟨.lst True.intro hq b1,b2,qR0 b3⟩
   ·cases e
  |dct k=>cases e
  |ty k=>cases e
  |rol k=>cases e
  |xc _=>cases e
noncomputable def oEq:D->D->M D:=λx y S=>match x,y with
 |.str a,.str b=>.ok (.bl (decide (a=b))) S
 |_,_=>match snap 40 S x,snap 40 S y with
  |some p,some q=>.ok (.bl (PyData.eqv p q)) S
  |_,_=>.bad
noncomputable def oNe:D->D->M D:=λx y S=>match x,y with
 |.str a,.str b=>.ok (.bl (!decide (a=b))) S
 |_,_=>match snap 40 S x,snap 40 S y with
  |some p,some q=>.ok (.bl (!PyData.eqv p q)) S
  |_,_=>.bad
theorem zYP(hu:X.A.units+64<wR):OpS X.K (rAny X (y9 .Eq)) oEq:=by
 intro x y S d S' H J v u Q e sr rx ry h;unfold oEq at e;split at e
 ·rename_i a b;cases e;unfold RV at rx ry;subst rx ry;refine⟨_,zYW,rfl,?_⟩;have z:decide (V.str a=V.str b)=decide (a=b):=by simp
  rw[z];exact h.self sr zDC
 ·split at e
  ·rename_i p q e1 e2;cases e;obtain⟨a1,a2,a3⟩:=zEp sr 40 x v p e1 rx;obtain⟨b1,b2,b3⟩:=zEp sr 40 y u q e2 ry;exact⟨_,zVU hu,_,_,p,q,a1,b1,⟨a2,by omega⟩,⟨b2,by omega⟩,h.self sr zDC⟩
  ·cases e
theorem zYI(hu:X.A.units+64<wR):OpS X.K (rAny X (y9 .NotEq)) oNe:=by
 intro x y S d S' H J v u Q e sr rx ry h;unfold oNe at e;split at e
 ·rename_i a b;cases e;unfold RV at rx ry;subst rx ry;refine⟨_,zYS,rfl,?_⟩;have z:decide (V.str a=V.str b)=decide (a=b):=by simp
  rw[z];exact h.self sr zDC
 ·split at e
  ·rename_i p q e1 e2;cases e;obtain⟨a1,a2,a3⟩:=zEp sr 40 x v p e1 rx;obtain⟨b1,b2,b3⟩:=zEp sr 40 y u q e2 ry;exact⟨_,zVQ hu,_,_,p,q,a1,b1,⟨a2,by omega⟩,⟨b2,by omega⟩,h.self sr zDC⟩
  ·cases e
noncomputable def D.isNon:D->Bool
 |.non=>true
 |_=>false
theorem zOj{K:yQ}{H:Hp}{J:yC}{x:D}{v:V}(r:RV K H J x v):decide (v=.non)=x.isNon:=by
 cases x with
 |non=>unfold RV at r;subst r;rfl
 |bl _=>unfold RV at r;subst r;rfl
 |int _=>unfold RV at r;subst r;rfl
 |str _=>unfold RV at r;subst r;rfl
 |ty _=>unfold RV at r;subst r;rfl
 |tup _=>unfold RV at r;obtain⟨_,_,rfl,_⟩:=r;rfl
 |lst _=>unfold RV at r;obtain⟨_,rfl,_⟩:=r;rfl
 |dct _=>unfold RV at r;obtain⟨_,rfl,_⟩:=r;rfl
 |rol _=>unfold RV at r;obtain⟨_,_,rfl,_⟩:=r;rfl
 |xc _=>unfold RV at r;obtain⟨_,_,_,rfl,_⟩:=r;rfl
noncomputable def oIs:D->D->M D
 |x,.non=>ret (.bl x.isNon)
 |.bl a,.bl b=>ret (.bl (a == b))
 |_,_=>bad
noncomputable def zIX:D->D->M D
 |x,.non=>ret (.bl (!x.isNon))
 |.bl a,.bl b=>ret (.bl (a != b))
 |_,_=>bad
theorem zYL:OpS X.K (rAny X (y9 .Is)) oIs:=by
 intro x y S d S' H J v u Q e sr rx ry h;unfold oIs at e;split at e
 ·obtain⟨rfl,rfl⟩:=zAq e;unfold RV at ry;exact⟨_,zVT,ry,by rw[zOj rx];exact h.self sr zDC⟩
 ·obtain⟨rfl,rfl⟩:=zAq e;unfold RV at rx ry;subst rx ry;exact⟨_,zQ2,_,_,rfl,rfl,h.self sr zDC⟩
 ·cases e
theorem zQ1:OpS X.K (rAny X (y9 .IsNot)) zIX:=by
 intro x y S d S' H J v u Q e sr rx ry h;unfold zIX at e;split at e
 ·obtain⟨rfl,rfl⟩:=zAq e;unfold RV at ry;exact⟨_,zSW,ry,by rw[zOj rx];exact h.self sr zDC⟩
 ·obtain⟨rfl,rfl⟩:=zAq e;unfold RV at rx ry;subst rx ry;exact⟨_,zK6,_,_,rfl,rfl,h.self sr zDC⟩
 ·cases e
noncomputable def flat:D->Option V
 |.non=>some .non
 |.bl b=>some (.bl b)
 |.int i=>some (.int i)
 |.str x=>some (.str x)
 |_=>none
theorem zRu{K:yQ}{H:Hp}{J:yC}{x:D}{v w:V}(e:flat x=some w)(r:RV K H J x v):v=w:=by
 cases x with
 |non=>cases e;unfold RV at r;exact r
 |bl _=>cases e;unfold RV at r;exact r
 |int _=>cases e;unfold RV at r;exact r
 |str _=>cases e;unfold RV at r;exact r
 |_=>cases e
theorem zOx{K:yQ}{H:Hp}{J:yC}:∀{ds:List D}{vs ws:List V},ds.mapM flat=some ws->RVs K H J ds vs->vs=ws
 |[],vs,ws,e,r=>by simp at e;subst e;exact r.nil_inv
 |d::ds,vs,ws,e,r=>by
  obtain⟨v,us,rfl,r1,r2⟩:=r.cons_inv;rw[qL0]at e;cases q:flat d with
  |none=>rw[q]at e;cases e
  |some w =>
   cases q2:ds.mapM flat with
   |none=>rw[q,q2]at e;cases e
   |some ws' =>
    rw[q,q2]at e;cases e;rw[zRu q r1,zOx q2 r2]
noncomputable def zFF:D->Option Key
 |.int i=>some (.inl i)
 |.str x=>some (.inr x)
 |_=>none
theorem zFE{K:yQ}{H:Hp}{J:yC}{x:D}{v:V}{k:Key}(e:zFF x=some k)(r:RV K H J x v):v=kV k:=by
 cases x with
 |int _=>cases e;unfold RV at r;exact r
 |str _=>cases e;unfold RV at r;exact r
 |_=>cases e
noncomputable def valD{κ:Type}[DecidableEq κ](kvs:List (κ×D))(k:κ):Option D:=(kvs.find? λkv=>decide (kv.1=k)).map (·.2)
noncomputable def putD{κ:Type}[DecidableEq κ](kvs:List (κ×D))(k:κ)(v:D):List (κ×D) :=
 if(kvs.any λkv=>decide (kv.1=k))=true then kvs.map (λkv=>if kv.1=k then(kv.1,v)else kv)else kvs++[(k,v)]
section
variable {κ:Type} [DecidableEq κ] {K:yQ}{H:Hp}{J:yC}
theorem RKs.cons_inv{p:κ×D}{kvs:List (κ×D)}{ws:List (κ×V)}(h:RKs K H J (p::kvs) ws):∃q us,ws=q::us/\p.1=q.1/\RV K H J p.2 q.2/\RKs K H J kvs us:=by
 obtain⟨h1,h2⟩:=h;rw[qB8]at h1 h2;obtain⟨v,vs,e,r1,r2⟩:=h2.cons_inv;cases ws with
 |nil=>simp at h1
 |cons q us =>
  rw[qB8]at h1 e;cases e;rw[qM0.injEq]at h1;exact⟨q,us,rfl,h1.1,r1,h1.2,r2⟩
theorem RKs.val{k:κ}:∀{kvs:List (κ×D)}{ws:List (κ×V)},RKs K H J kvs ws->(∀d,valD kvs k=some d->∃v,valV ws k=some v/\RV K H J d v)/\(valD kvs k=none->valV ws k=none)
 |[],ws,h=>by
  have:ws=[]:=by have:=h.1;cases ws with|nil=>rfl|cons a b=>simp at this
  subst this;exact⟨λd e=>(by cases e),λ_=>rfl⟩
 |p::kvs,ws,h=>by
  obtain⟨q,us,rfl,e1,r1,r2⟩:=h.cons_inv;obtain⟨i1,i2⟩:=RKs.val (k:=k) r2;by_cases hk:p.1=k
  ·have e2:valD (p::kvs) k=some p.2:=by simp[valD,qF4,hk]
   rw[e2,zF9 (e1▸hk)];exact⟨λd e=>by cases e;exact⟨_,rfl,r1⟩,λe=>by cases e⟩
  ·have e2:valD (p::kvs) k=valD kvs k:=by simp[valD,qF4,hk]
   rw[e2,zFa (e1▸hk)];exact⟨i1,i2⟩
theorem RKs.nil:RKs K H J ([]:List (κ×D)) []:=⟨rfl,RVs.nil⟩
theorem RKs.cons{k:κ}{d:D}{v:V}{kvs:List (κ×D)}{ws:List (κ×V)}(r:RV K H J d v)(h:RKs K H J kvs ws):RKs K H J ((k,d)::kvs) ((k,v)::ws):=⟨by rw[qB8,qB8,h.1],by rw[qB8,qB8];exact .cons r h.2⟩
theorem RKs.any{k:κ}:∀{kvs:List (κ×D)}{ws:List (κ×V)},RKs K H J kvs ws->(kvs.any λkv=>decide (kv.1=k))=(ws.any λkv=>decide (kv.1=k))
 |[],ws,h=>by
  have:ws=[]:=by have:=h.1;cases ws with|nil=>rfl|cons a b=>simp at this
  subst this;rfl
 |p::kvs,ws,h=>by obtain⟨q,us,rfl,e1,r1,r2⟩:=h.cons_inv;rw[qH3,qH3,RKs.any r2,e1]
theorem RKs.mapSet{k:κ}{d:D}{v:V}(rv:RV K H J d v):∀{kvs:List (κ×D)}{ws:List (κ×V)},RKs K H J kvs ws->RKs K H J (kvs.map (λkv=>if kv.1=k then(kv.1,d)else kv)) (ws.map (λkv=>if kv.1=k then(kv.1,v)else kv))
 |[],ws,h=>by
  have:ws=[]:=by have:=h.1;cases ws with|nil=>rfl|cons a b=>simp at this
  subst this;exact .nil
 |p::kvs,ws,h=>by
  obtain⟨q,us,rfl,e1,r1,r2⟩:=h.cons_inv;rw[qB8,qB8];obtain⟨p1,p2⟩:=p;obtain⟨q1,q2⟩:=q;dsimp only at e1 r1 ⊢;subst e1;by_cases hk:p1=k
  ·rw[if_pos hk,if_pos hk];exact .cons rv (RKs.mapSet rv r2)
  ·rw[if_neg hk,if_neg hk];exact .cons r1 (RKs.mapSet rv r2)
theorem RKs.append{as:List (κ×D)}{bs:List (κ×V)}{cs:List (κ×D)}{ds:List (κ×V)}(h:RKs K H J as bs)(g:RKs K H J cs ds):RKs K H J (as++cs) (bs++ds):=⟨by rw[qE1,qE1,h.1,g.1],by rw[qE1,qE1];exact h.2.append g.2⟩
theorem RKs.put{k:κ}{d:D}{v:V}(rv:RV K H J d v){kvs:List (κ×D)}{ws:List (κ×V)}(h:RKs K H J kvs ws):RKs K H J (putD kvs k d) (putK ws k v):=by
 unfold putD putK;rw[h.any (k:=k)];by_cases hc:(ws.any λkv=>decide (kv.1=k))=true
 ·rw[if_pos hc,if_pos hc];exact h.mapSet rv
 ·rw[if_neg hc,if_neg hc];exact h.append (.cons rv .nil)
noncomputable def mrgD(kvs more:List (κ×D)):List (κ×D):=more.foldl (λacc kv=>putD acc kv.1 kv.2) kvs
theorem RKs.len{kvs:List (κ×D)}{ws:List (κ×V)}(h:RKs K H J kvs ws):kvs.length=ws.length:=by have:=congrArg qK5 h.1;simpa using this
end
noncomputable def dictAt(S:zA0)(n:Nat)(x:D):Option (Option D):=match S[n]? with
 |some (.dk kvs)=>(zFF x).map λk=>valD kvs k
 |some (.fk kvs)=>(zFF x).map λk=>valD kvs k
 |_=>none
theorem zJo{K:yQ}{H:Hp}{J:yC}{S:zA0}{n:Nat}{x:D}{v:V}{a:yR}{r:Option D}(sr:SR K J S H)(e:dictAt S n x=some r)(hm:J[n]?=some a)(rx:RV K H J x v):∃o,DGet H a v o/\(∀d,r=some d->∃w,o=some w/\RV K H J d w)/\(r=none->o=none):=by
 unfold dictAt at e;split at e
 ·rename_i kvs ho;cases q:zFF x with
  |none=>rw[q]at e;cases e
  |some k =>
   rw[q]at e;cases e;obtain⟨ws,hw,rr⟩:=sr.get hm ho;have:=zFE q rx;subst this;exact⟨valV ws k,DGet.k hw,(rr.val (k:=k)).1,(rr.val (k:=k)).2⟩
 ·rename_i kvs ho;cases q:zFF x with
  |none=>rw[q]at e;cases e
  |some k =>
   rw[q]at e;cases e;obtain⟨o,ws,hw,rr⟩:=sr.get hm ho;have:=zFE q rx;subst this;exact⟨valV ws k,.inl ⟨_,_,.inr ⟨o,hw⟩,rfl,rfl⟩,(rr.val (k:=k)).1,(rr.val (k:=k)).2⟩
 ·cases e
noncomputable def oIn(neg:Bool):D->D->M D:=λx y S=>match y with
 |.dct n=>match dictAt S n x with
  |some o=>.ok (.bl (if neg then !o.isSome else o.isSome)) S
  |none=>.bad
 |_=>match zIL S y,flat x with
  |some ys,some v=>match ys.mapM flat with
   |some vs=>.ok (.bl (if neg then !inV v vs else inV v vs)) S
   |none=>.bad
  |_,_=>.bad
theorem zHe{x:D}{v:V}(h:flat x=some v):zGu v=true:=by cases x<;>first|(cases h;rfl)| cases h
theorem zFT:∀{ds:List D}{vs:List V},ds.mapM flat=some vs->vs.all zGu=true
 |[],vs,e=>by simp at e;subst e;rfl
 |d::ds,vs,e=>by
  rw[qL0]at e;cases q:flat d with
  |none=>rw[q]at e;cases e
  |some w =>
   cases q2:ds.mapM flat with
   |none=>rw[q,q2]at e;cases e
   |some ws' =>
    rw[q,q2]at e;cases e;rw[qM8,zHe q,zFT q2];rfl
theorem zVV(hu:X.A.units+1<wR):OpR X (y9 .In) (λy x H Q=>∃a o,x=.ref a/\DGet H a y o/\Q (.bl o.isSome) H):=by intro pins s Z H y x v u Q I ry rx h;obtain⟨a,o,rfl,g,q⟩:=h;obtain rfl:u=Value.ref a:=rx;exact d_in hu I g ry λs3 I3=>⟨.bl o.isSome,H,I3,rfl,q⟩
theorem zNA(hu:X.A.units+1<wR):OpR X (y9 .NotIn) (λy x H Q=>∃a o,x=.ref a/\DGet H a y o/\Q (.bl (!o.isSome)) H):=by intro pins s Z H y x v u Q I ry rx h;obtain⟨a,o,rfl,g,q⟩:=h;obtain rfl:u=Value.ref a:=rx;exact zTP hu I g ry λs3 I3=>⟨.bl (!o.isSome),H,I3,rfl,q⟩
theorem zH6{neg:Bool}{op:fY}(h1:OpR X (y9 op) (rIn X.K neg))(h2:OpR X (y9 op) (λy x H Q=>∃a o,x=.ref a/\DGet H a y o/\Q (.bl (if neg then !o.isSome else o.isSome)) H))
  : OpS X.K (rAny X (y9 op)) (oIn neg):=by
 intro x y S d S' H J v u Q e sr rx ry h;unfold oIn at e;split at e
 ·rename_i n;split at e
  ·rename_i o ho;cases e;unfold RV at ry;obtain⟨a,rfl,hm⟩:=ry;obtain⟨o',g,g1,g2⟩:=zJo sr ho hm rx;have e2:o'.isSome=o.isSome:=by
    cases o with
    |none=>simp[g2 rfl]
    |some d=>obtain⟨w,rfl,_⟩:=g1 d rfl;rfl
   exact⟨_,h2,a,o',rfl,g,by rw[e2];exact h.self sr zDC⟩
  ·cases e
 ·split at e
  ·rename_i ys w e1 e2;split at e
   ·rename_i ws e3;cases e;obtain⟨a,vs,rfl,hq,rr⟩:=sr.seq ry e1;have z1:=zRu e2 rx;have z2:=zOx e3 rr;subst z1 z2;exact⟨_,h1,a,vs,rfl,hq,zHe e2,zFT e3,h.self sr zDC⟩
   ·cases e
  ·cases e
theorem zYM(hu:X.A.units+64<wR):OpS X.K (rAny X (y9 .In)) (oIn false):=zH6 zNz (zVV (by omega))
theorem zQ0(hu:X.A.units+64<wR):OpS X.K (rAny X (y9 .NotIn)) (oIn true):=zH6 zIV (zNA (by omega))
end
section
variable {X:Cx}
theorem zTs(hu:X.A.units+1<wR):IxR X (λx y H Q=>∃a v,x=.ref a/\DGet H a y (some v)/\Q v H):=by
 intro value slice pins s Z H x y v u Q I rx ry h hs;obtain⟨a,z,rfl,g,q⟩:=h;obtain rfl:v=Value.ref a:=rx;have hT:=zKy I g;have h₂:yX (yW X.prog X.w) X.A (gF (.ref a) u) (EP X pins Z Q) X.xe s:=zOR hu I g ry λw' s3 I3 rw'=>⟨z,H,I3,rw',q⟩
 unfold mO;refine yO ?_;rw[getitemInPython_of_ne hT.not_modules];refine yO (wpAny_specialOf hT PySem.F.slot_dict_getitem.lookup ?_);have fin:yX (yW X.prog X.w) X.A (dP slice false (.ref a) u) (λr s₃=>yX (yW X.prog X.w) X.A (letTemporaryGo value (.ref a) r >>= λ_=>pure r) (EP X pins Z Q) X.xe s₃) X.xe s:=by rw[hs];exact wpAny_operating (jK h₂ (λr s₃ h₃=>yO (wpAny_letTemporaryGo (yP h₃))) λ_ _ x=>x)
 exact yP (yO fin)
noncomputable def oIx:D->D->M D:=λx i S=>match x with
 |.dct n=>match dictAt S n i with
  |some (some d)=>.ok d S
  |_=>.bad
 |_=>match zIL S x,i with
  |some xs,.int j=>match atI xs j with
   |some d=>.ok d S
   |none=>.bad
  |_,_=>.bad
theorem RVs.at{K:yQ}{H:Hp}{J:yC}{ds:List D}{vs:List V}{i:Int}{d:D}(r:RVs K H J ds vs)(e:atI ds i=some d):∃v,atI vs i=some v/\RV K H J d v:=by
 unfold atI at e ⊢;rw[<- r.len];cases q:ixN ds.length i with
 |none=>rw[q]at e;cases e
 |some j =>
  rw[q]at e;obtain⟨v,e1,e2⟩:=r.get (i:=j) (d:=d) e;exact⟨v,e1,e2⟩
theorem zVH(hu:X.A.units+1<wR):OpS X.K (zOg X) oIx:=by
 intro x y S d S' H J v u Q e sr rx ry h;unfold oIx at e;split at e
 ·rename_i n;split at e
  ·rename_i d' ho;cases e;unfold RV at rx;obtain⟨a,rfl,hm⟩:=rx;obtain⟨o,g,g1,_⟩:=zJo sr ho hm ry;obtain⟨w,rfl,rw'⟩:=g1 _ rfl;exact⟨_,zTs hu,a,w,rfl,g,h.self sr rw'⟩
  ·cases e
 ·split at e
  ·rename_i xs j e1;split at e
   ·rename_i d' e2;cases e;obtain⟨a,vs,rfl,hq,rr⟩:=sr.seq rx e1;obtain⟨w,e3,rw'⟩:=rr.at e2;unfold RV at ry;subst ry;rcases hq with hq|hq
    ·exact⟨_,zTr,a,vs,j,w,rfl,rfl,hq,e3,h.self sr rw'⟩
    ·exact⟨_,zWw,a,vs,j,w,rfl,rfl,hq,e3,h.self sr rw'⟩
   ·cases e
  ·cases e
noncomputable def cutD(xs:List D)(lo hi:yG):List D:=(xs.drop (HT.sIx xs.length 0 lo)).take (HT.sIx xs.length xs.length hi - HT.sIx xs.length 0 lo)
noncomputable def oSl:D->yG->yG->M D:=λx lo hi S=>match x with
 |.tup xs=>.ok (.tup (cutD xs lo hi)) S
 |.lst n=>match zA3 S n with
  |some xs=>.ok (.lst S.length) (S++[.lst (cutD xs lo hi)])
  |none=>.bad
 |_=>.bad
theorem RVs.cut{K:yQ}{H:Hp}{J:yC}{ds:List D}{vs:List V}(r:RVs K H J ds vs)(lo hi:yG):RVs K H J (cutD ds lo hi) (cutV vs lo hi):=by unfold cutD cutV;rw[r.len];exact(r.drop _).take _
theorem zYe:SlS X.K (zN1 X) oSl:=by
 intro x lo hi S d S' H J v Q e sr rx h;unfold oSl at e;split at e
 ·cases e;unfold RV at rx;obtain⟨p,vs,rfl,q,rr⟩:=rx;exact⟨_,zSc,p,vs,rfl,q,λp2 H1 sm sq=>h.oldT sr sm sq (rr.cut lo hi)⟩
 ·split at e
  ·rename_i xs e1;cases e;unfold RV at rx;obtain⟨a,rfl,hm⟩:=rx;obtain⟨vs,q,rr⟩:=sr.sq hm e1;exact⟨_,zSd,a,vs,rfl,q,λp hp=>h.newL sr hp (rr.cut lo hi)⟩
  ·cases e
 ·cases e
theorem RVs.reverse{K:yQ}{H:Hp}{J:yC}:∀{ds:List D}{vs:List V},RVs K H J ds vs->RVs K H J ds.reverse vs.reverse
 |[],vs,r=>by rw[r.nil_inv];exact .nil
 |d::ds,vs,r=>by obtain⟨v,ws,rfl,r1,r2⟩:=r.cons_inv;rw[qK7,qK7];exact r2.reverse.append (.cons r1 .nil)
noncomputable def fLen:List D->M D:=λxs S=>match xs with
 |[.str x]=>if x.length<=lim then .ok (.int x.length) S else .bad
 |[.dct n]=>match S[n]? with
  |some (.dk kvs)=>.ok (.int kvs.length) S
  |some (.fk kvs)=>.ok (.int kvs.length) S
  |_=>.bad
 |[x]=>match zIL S x with
  |some ys=>.ok (.int ys.length) S
  |none=>.bad
 |_=>.bad
theorem RVs.one{K:yQ}{H:Hp}{J:yC}{d:D}{vs:List V}(h:RVs K H J [d] vs):∃v,vs=[v]/\RV K H J d v:=by obtain⟨v,ws,rfl,r1,r2⟩:=h.cons_inv;rw[r2.nil_inv];exact⟨v,rfl,r1⟩
theorem RVs.two{K:yQ}{H:Hp}{J:yC}{d e:D}{vs:List V}(h:RVs K H J [d,e] vs):∃v u,vs=[v,u]/\RV K H J d v/\RV K H J e u:=by obtain⟨v,ws,rfl,r1,r2⟩:=h.cons_inv;obtain⟨u,rfl,r3⟩:=r2.one;exact⟨v,u,rfl,r1,r3⟩
theorem zRA:zEF X.K (cAny X (.builtin "len")) fLen:=by
 intro xs S d S' H J vs Q e sr rx h;unfold fLen at e;split at e
 ·split at e
  ·rename_i hl;cases e;obtain⟨v,rfl,r⟩:=rx.one;unfold RV at r;subst r;exact⟨_,zJA,_,rfl,zH9 hl,h.self sr zAy⟩
  ·cases e
 ·obtain⟨v,rfl,r⟩:=rx.one;unfold RV at r;obtain⟨a,rfl,hm⟩:=r;split at e
  ·rename_i kvs ho;cases e;obtain⟨ws,hw,rr⟩:=sr.get hm ho;exact⟨_,zJC,a,ws,rfl,.inl hw,by rw[<- rr.len];exact h.self sr zAy⟩
  ·rename_i kvs ho;cases e;obtain⟨o,ws,hw,rr⟩:=sr.get hm ho;exact⟨_,zJC,a,ws,rfl,.inr ⟨o,hw⟩,by rw[<- rr.len];exact h.self sr zAy⟩
  ·cases e
 ·split at e
  ·rename_i ys e1;cases e;obtain⟨v,rfl,r⟩:=rx.one;obtain⟨a,vs,rfl,hq,rr⟩:=sr.seq r e1;exact⟨_,zJB,a,vs,rfl,hq,by rw[<- rr.len];exact h.self sr zAy⟩
  ·cases e
 ·cases e
noncomputable def zDi(a:Int):yA->Int
 |[]=>a
 |b::r=>if b<a then zDi b r else zDi a r
noncomputable def zFw(a:Int):yA->Int
 |[]=>a
 |b::r=>if a<b then zFw b r else zFw a r
theorem zDV:∀(a:Int) (r:yA),zDi a r∈a::r/\∀x∈a::r,zDi a r<=x
 |a,[]=>by simp[zDi]
 |a,b::r=>by
  unfold zDi;split
  ·have h:=zDV b r;refine⟨qC1 _ h.1,λx hx=>?_⟩;rcases qB0.mp hx with rfl|hx
   ·have:=h.2 b (by simp);omega
   ·exact h.2 x hx
  ·have h:=zDV a r;refine⟨?_,λx hx=>?_⟩
   ·rcases qB0.mp h.1 with e|e
    ·rw[e];simp
    ·exact qC1 _ (qC1 _ e)
   ·have:=h.2 a (by simp);rcases qB0.mp hx with rfl|hx
    ·omega
    rcases qB0.mp hx with rfl|hx
    ·omega
    ·exact h.2 x (qC1 _ hx)
theorem zEu:∀(a:Int) (r:yA),zFw a r∈a::r/\∀x∈a::r,x<=zFw a r
 |a,[]=>by simp[zFw]
 |a,b::r=>by
  unfold zFw;split
  ·have h:=zEu b r;refine⟨qC1 _ h.1,λx hx=>?_⟩;rcases qB0.mp hx with rfl|hx
   ·have:=h.2 b (by simp);omega
   ·exact h.2 x hx
  ·have h:=zEu a r;refine⟨?_,λx hx=>?_⟩
   ·rcases qB0.mp h.1 with e|e
    ·rw[e];simp
    ·exact qC1 _ (qC1 _ e)
   ·have:=h.2 a (by simp);rcases qB0.mp hx with rfl|hx
    ·omega
    rcases qB0.mp hx with rfl|hx
    ·omega
    ·exact h.2 x (qC1 _ hx)
noncomputable def fMin:List D->M D:=λxs S=>match xs with
 |[.int i,.int j]=>.ok (.int (if j<i then j else i)) S
 |[.lst n]=>match (zA3 S n).bind zDm with
  |some (a::r)=>.ok (.int (zDi a r)) S
  |_=>.bad
 |_=>.bad
noncomputable def fMax:List D->M D:=λxs S=>match xs with
 |[.int i,.int j]=>.ok (.int (if j>i then j else i)) S
 |[.lst n]=>match (zA3 S n).bind zDm with
  |some (a::r)=>.ok (.int (zFw a r)) S
  |_=>.bad
 |_=>.bad
theorem zX4(hc:X.calm=true):zEF X.K (cAny X (.builtin "min")) fMin:=by
 intro xs S d S' H J vs Q e sr rx h;unfold fMin at e;split at e
 ·cases e;obtain⟨v,u,rfl,r1,r2⟩:=rx.two;unfold RV at r1 r2;subst r1 r2;exact⟨_,zP7 hc,_,_,rfl,h.self sr zAy⟩
 ·split at e
  ·rename_i b r e1;cases e;obtain⟨ys,e2,e3⟩:=qA1.mp e1;obtain⟨v,rfl,r1⟩:=rx.one;unfold RV at r1;obtain⟨a,rfl,hm⟩:=r1;obtain⟨ws,q,rr⟩:=sr.sq hm e2;have z:=zDl e3 rr;subst z;refine⟨_,zP6 hc,a,b::r,rfl,q,by simp,λM m1 m2=>?_⟩;have s:=zDV b r;rw[qN7 (m2 _ s.1) (s.2 _ m1)];exact h.self sr zAy
  ·cases e
 ·cases e
theorem zX5(hc:X.calm=true):zEF X.K (cAny X (.builtin "max")) fMax:=by
 intro xs S d S' H J vs Q e sr rx h;unfold fMax at e;split at e
 ·cases e;obtain⟨v,u,rfl,r1,r2⟩:=rx.two;unfold RV at r1 r2;subst r1 r2;exact⟨_,zP9 hc,_,_,rfl,h.self sr zAy⟩
 ·split at e
  ·rename_i b r e1;cases e;obtain⟨ys,e2,e3⟩:=qA1.mp e1;obtain⟨v,rfl,r1⟩:=rx.one;unfold RV at r1;obtain⟨a,rfl,hm⟩:=r1;obtain⟨ws,q,rr⟩:=sr.sq hm e2;have z:=zDl e3 rr;subst z;refine⟨_,zP8 hc,a,b::r,rfl,q,by simp,λM m1 m2=>?_⟩;have s:=zEu b r;rw[qN7 (s.2 _ m1) (m2 _ s.1)];exact h.self sr zAy
  ·cases e
 ·cases e
noncomputable def zBx:List D->M D:=λxs S=>match xs with
 |[.tup ys]=>.ok (.tup ys) S
 |[.lst n]=>match zA3 S n with
  |some ys=>.ok (.tup ys) S
  |none=>.bad
 |_=>.bad
theorem zQX:zEF X.K (cAny X (.type "tuple")) zBx:=by
 intro xs S d S' H J vs Q e sr rx h;unfold zBx at e;split at e
 ·cases e;obtain⟨v,rfl,r⟩:=rx.one;have r':=r;unfold RV at r';obtain⟨p,ws,rfl,q,rr⟩:=r';exact⟨_,zEg,p,ws,rfl,.inr ⟨SqT.of q,h.self sr r⟩⟩
 ·split at e
  ·rename_i ys e1;cases e;obtain⟨v,rfl,r⟩:=rx.one;unfold RV at r;obtain⟨a,rfl,hm⟩:=r;obtain⟨ws,q,rr⟩:=sr.sq hm e1;exact⟨_,zEg,a,ws,rfl,.inl ⟨q,λl hl=>h.newT sr hl rr⟩⟩
  ·cases e
 ·cases e
noncomputable def fInt:List D->M D:=λxs S=>match xs with
 |[.int i]=>.ok (.int i) S
 |[.bl b]=>.ok (.int (if b then 1 else 0)) S
 |_=>.bad
theorem zX6:zEF X.K (cAny X (.type "int")) fInt:=by
 intro xs S d S' H J vs Q e sr rx h;unfold fInt at e;split at e
 ·cases e;obtain⟨v,rfl,r⟩:=rx.one;unfold RV at r;subst r;exact⟨_,zJE,.inl ⟨_,rfl,h.self sr zAy⟩⟩
 ·cases e;obtain⟨v,rfl,r⟩:=rx.one;unfold RV at r;subst r;exact⟨_,zJE,.inr ⟨_,rfl,h.self sr zAy⟩⟩
 ·cases e
noncomputable def zTO(S:zA0)(n:Nat):Option String:=match S[n]? with
 |some (.dk _)=>some "dict"
 |_=>none
noncomputable def zWr(S:zA0):D->Option String
 |.non=>some "NoneType"
 |.bl _=>some "bool"
 |.int _=>some "int"
 |.str _=>some "str"
 |.tup _=>some "tuple"
 |.lst n=>if(zA3 S n).isSome then some "list" else none
 |.dct n=>zTO S n
 |_=>none
noncomputable def zBE:List D->M D:=λxs S=>match xs with
 |[x,.ty T]=>match zWr S x with
  |some t=>if T∈["bool","int","tuple","list","str","dict"]then .ok (.bl (kOf t T)) S else .bad
  |none=>.bad
 |_=>.bad
theorem zTq{K:yQ}{H:Hp}{J:yC}{S:zA0}{x:D}{v:V}{t:String}(sr:SR K J S H)(e:zWr S x=some t)(r:RV K H J x v):Ty2 K H v t/\t∈["NoneType","bool","int","str","tuple","list","dict"]:=by
 cases x with
 |non=>cases e;unfold RV at r;subst r;exact⟨.non,by decide⟩
 |bl b=>cases e;unfold RV at r;subst r;exact⟨.bl b,by decide⟩
 |int i=>cases e;unfold RV at r;subst r;exact⟨.int i,by decide⟩
 |str i=>cases e;unfold RV at r;subst r;exact⟨.str i,by decide⟩
 |tup xs=>cases e;unfold RV at r;obtain⟨p,vs,rfl,q,_⟩:=r;exact⟨.tup (SqT.of q),by decide⟩
 |lst n =>
  have e:(if(zA3 S n).isSome then some "list" else none)=some t:=e;split at e
  ·rename_i hs;cases e;obtain⟨xs,hx⟩:=qI2.mp hs;unfold RV at r;obtain⟨a,rfl,hm⟩:=r;obtain⟨vs,q,_⟩:=sr.sq hm hx;exact⟨.lst q,by decide⟩
  ·cases e
 |dct n =>
  have e:zTO S n=some t:=e;unfold zTO at e;split at e
  ·rename_i kvs ho;cases e;unfold RV at r;obtain⟨a,rfl,hm⟩:=r;obtain⟨ws,hw,_⟩:=sr.get hm ho;exact⟨.dk hw,by decide⟩
  ·cases e
 |ty n=>cases e
 |rol n=>cases e
 |xc _=>cases e
theorem zTS:zEF X.K (cAny X (.builtin "isinstance")) zBE:=by
 intro xs S d S' H J vs Q e sr rx h;unfold zBE at e;split at e
 ·rename_i x T;split at e
  ·rename_i t e1;split at e
   ·rename_i hT;cases e;obtain⟨v,u,rfl,r1,r2⟩:=rx.two;unfold RV at r2;subst r2;obtain⟨k1,k2⟩:=zTq sr e1 r1;exact⟨_,zJD,v,t,T,_,rfl,k1,zQo X.K t k2 T hT,h.self sr zDC⟩
   ·cases e
  ·cases e
 ·cases e
theorem zBN.imp{f:yU}{r r':List V->Hp->VK->Prop}(h:zBN X f r)(w:∀vs H Q,r' vs H Q->r vs H Q):zBN X f r':=λpins s Z H xs us Q I rv q=>h pins s Z H xs us Q I rv (w _ _ _ q)
noncomputable def insI(a:Int):yA->yA
 |[]=>[a]
 |b::r=>if a<=b then a::b::r else b::insI a r
noncomputable def zEN:yA->yA
 |[]=>[]
 |a::r=>insI a (zEN r)
theorem zFK(a:Int):∀l,(insI a l).Perm (a::l)
 |[]=>.refl _
 |b::r=>by
  unfold insI;split
  ·exact .refl _
  ·exact((zFK a r).cons b).trans (.swap _ _ _)
theorem zEw:∀l,(zEN l).Perm l
 |[]=>.refl _
 |a::r=>(zFK a _).trans ((zEw r).cons a)
theorem zFJ(a:Int):∀l:yA,l.Pairwise (·<=·)->(insI a l).Pairwise (·<=·)
 |[],_=>by simp[insI]
 |b::r,h=>by
  have h':=qK4.mp h;unfold insI;split
  ·rename_i hab;refine qK4.mpr ⟨λc hc=>?_,h⟩;rcases qB0.mp hc with rfl|hc
   ·exact hab
   ·exact qQ3 hab (h'.1 c hc)
  ·rename_i hab;refine qK4.mpr ⟨λc hc=>?_,zFJ a r h'.2⟩;rcases qB0.mp ((zFK a r).mem_iff.mp hc)with rfl|hc
   ·omega
   ·exact h'.1 c hc
theorem zEJ:∀l:yA,(zEN l).Pairwise (·<=·)
 |[]=>.nil
 |a::r=>zFJ a _ (zEJ r)
theorem zHM{l m:yA}(h:m.Perm l)(s:m.Pairwise (·<=·)):m=zEN l :=
 (h.trans (zEw l).symm).eq_of_pairwise (λa b _ _ h1 h2=>qN7 h1 h2) s (zEJ l)
noncomputable def zOn:List (Key×D)->Option (yA)
 |[]=>some []
 |(.inl n,_)::r=>(zOn r).map (n::·)
 |_::_=>none
theorem zFL:∀{kvs:List (Key×D)}{ns:yA},zOn kvs=some ns->kvs.map (·.1)=ns.map Sum.inl
 |[],ns,e=>by cases e;rfl
 |(.inl n,d)::r,ns,e=>by obtain⟨ms,e1,e2⟩:=qA2.mp e;subst e2;simp[zFL e1]
 |(.inr x,d)::r,ns,e=>by cases e
noncomputable def zQQ:List D->M D:=λxs S=>match xs with
 |[x]=>match zIL S x with
  |some ys=>.ok (.lst S.length) (S++[.lst ys])
  |none=>.bad
 |_=>.bad
theorem zTR(hc:X.calm=true):zEF X.K (cAny X (.type "list")) zQQ:=by
 intro xs S d S' H J vs Q e sr rx h;unfold zQQ at e;split at e
 ·split at e
  ·rename_i ys e1;cases e;obtain⟨v,rfl,r⟩:=rx.one;obtain⟨a,vs,rfl,hq,rr⟩:=sr.seq r e1;exact⟨_,zJz,a,vs,rfl,hq,λl hl=>h.newL sr hl rr⟩
  ·cases e
 ·cases e
noncomputable def zC5:List D->M D:=λxs S=>match xs with
 |[.lst n]=>match (zA3 S n).bind zDm with
  |some ns=>if ns.length<64 then .ok (.lst S.length) (S++[.lst ((zEN ns).map D.int)])else .bad
  |none=>.bad
 |[.dct n]=>match S[n]? with
  |some (.dk kvs)=>match zOn kvs with
   |some ns=>if ns.length<64 then .ok (.lst S.length) (S++[.lst ((zEN ns).map D.int)])else if ns.length<=5000 then .ok (.lst S.length) (S++[.lst ((zEN ns).map D.int)])else .bad
   |none=>.bad
  |_=>.bad
 |_=>.bad
theorem zOT(hc:X.calm=true)(hu:X.A.units+64<wR):zEF X.K (cAny X (.builtin "sorted")) zC5:=by
 intro xs S d S' H J vs Q e sr rx h;unfold zC5 at e;split at e
 ·split at e
  ·rename_i ns e1;split at e
   ·rename_i hl;cases e;obtain⟨ys,e2,e3⟩:=qA1.mp e1;obtain⟨v,rfl,r⟩:=rx.one;unfold RV at r;obtain⟨a,rfl,hm⟩:=r;obtain⟨ws,q,rr⟩:=sr.sq hm e2;have z:=zDl e3 rr;subst z;refine⟨_,zJx,a,ns,rfl,q,hl,λl ms hl hp hs=>?_⟩;rw[zHM hp hs];exact h.newL sr hl RVs.ints
   ·cases e
  ·cases e
 ·split at e
  ·rename_i kvs e1;split at e
   ·rename_i ns e2;split at e
    ·rename_i hl;cases e;obtain⟨v,rfl,r⟩:=rx.one;unfold RV at r;obtain⟨a,rfl,hm⟩:=r;obtain⟨ws,hw,rr⟩:=sr.get hm e1;refine⟨_,zJy hc,a,ws,ns,rfl,hw,by rw[<- rr.1];exact zFL e2,hl,λl ms hl hp hs=>?_⟩;rw[zHM hp hs];exact h.newL sr hl RVs.ints
    ·split at e
     ·rename_i hl;cases e;obtain⟨v,rfl,r⟩:=rx.one;unfold RV at r;obtain⟨a,rfl,hm⟩:=r;obtain⟨ws,hw,rr⟩:=sr.get hm e1;refine⟨_,zId hc,a,ws,ns,rfl,hw,by rw[<- rr.1];exact zFL e2,hl,λl ms hl hp hs=>?_⟩;rw[zHM hp hs];exact h.newL sr hl RVs.ints
     ·cases e
   ·cases e
  ·cases e
 ·cases e
noncomputable def fSum:List D->M D:=λxs S=>match xs with
 |[.lst n]=>match (zA3 S n).bind zDm with
  |some ns=>if(ns.all λi=>decide (0<=i)&&decide (i<=1000000))=true/\ns.length<=1000000 then .ok (.int ns.sum) S else .bad
  |none=>.bad
 |_=>.bad
theorem zX3(hc:X.calm=true):zEF X.K (cAny X (.builtin "sum")) fSum:=by
 intro xs S d S' H J vs Q e sr rx h;unfold fSum at e;split at e
 ·split at e
  ·rename_i ns e1;split at e
   ·rename_i hl;cases e;obtain⟨ys,e2,e3⟩:=qA1.mp e1;obtain⟨v,rfl,r⟩:=rx.one;unfold RV at r;obtain⟨a,rfl,hm⟩:=r;obtain⟨ws,q,rr⟩:=sr.sq hm e2;have z:=zDl e3 rr;subst z;refine⟨_,zP5 hc,a,ns,rfl,q,λn hn=>?_,hl.2,h.self sr zAy⟩;have:=qD5.mp hl.1 n hn;simpa using this
   ·cases e
  ·cases e
 ·cases e
def MtS(K:yQ)(T:String)(r:V->List V->Hp->VK->Prop)(o:D->List D->M D):Prop:=∀x xs S d S' H J v vs Q,o x xs S=.ok d S'->SR K J S H->RV K H J x v->RVs K H J xs vs->Yld K J H d S' Q->r v vs H Q
noncomputable def tyOk(T:String)(x:D)(S:zA0):Bool:=match x with
 |.lst n=>decide (T = "list")&&(zA3 S n).isSome
 |.dct n=>decide (T = "dict")&&(match S[n]? with|some (.dk _)=>true|some (.dt _)=>true|_=>false)
 |.int _=>decide (T = "int")
 |.str _=>decide (T = "str")
 |_=>false
theorem zR8{K:yQ}{H:Hp}{J:yC}{S:zA0}{T:String}{x:D}{v:V}(sr:SR K J S H)(h:tyOk T x S=true)(r:RV K H J x v):tyV K T v H:=by
 unfold tyOk at h;split at h
 ·simp only[qC5,decide_eq_true_eq]at h;obtain⟨h1,h2⟩:=h;obtain⟨xs,hx⟩:=qI2.mp h2;unfold RV at r;obtain⟨a,rfl,hm⟩:=r;obtain⟨vs,q,_⟩:=sr.sq hm hx;exact .inl ⟨h1,vs,q⟩
 ·simp only[qC5,decide_eq_true_eq]at h;obtain⟨h1,h2⟩:=h;unfold RV at r;obtain⟨a,rfl,hm⟩:=r;split at h2
  ·rename_i kvs ho;obtain⟨ws,q,_⟩:=sr.get hm ho;exact .inr (.inr (.inl ⟨h1,.inl ⟨ws,q⟩⟩))
  ·rename_i kvs ho;obtain⟨ws,q,_⟩:=sr.get hm ho;exact .inr (.inr (.inl ⟨h1,.inr ⟨ws,q⟩⟩))
  ·cases h2
 ·unfold RV at r;subst r;exact(of_decide_eq_true h:T = "int")
 ·unfold RV at r;subst r;exact(of_decide_eq_true h:T = "str")
 ·cases h
noncomputable def zF3(T:String)(o:D->List D->M D)(a:C)(as:CA):C:=fun B=>bnd (a B) λx S=>if tyOk T x S then bnd (as B) (λxs=>o x xs) S else .bad
variable {o e:y4}{es:yE}{co:C}{ca:CA}{name:Str}{apos cpos:Pos}{T id:String}{m:D->List D->M D}
theorem zK0(pa:mW T)(slot:Slot T name id)(hty:mX (.builtin id)=pure (.type "method_descriptor"))(hm:MtS X.K T (zEa X id) m)(ho:PE X o (tOf X.K co))(ha:PA X (e::es) (tOfA X.K ca))
  (hbase:wK o name X.env (vL o X.env)=vL o X.env)
  (hfew:((wM cpos (jF (e::es) X.env)).all (λx=>!x.1)&&(backToKw cpos (lV [] X.env)).all (λx=>x.1.isSome)
   && decide ((e::es).length+([]:List lG).length+(if([]:List lG).isEmpty then 0 else 1)<30))=true)
  (hline:(apos.endLine == cpos.line)=true) (hs:jF (e::es) X.env=(false,vL e X.env)::jF es X.env) (hplain:(wM cpos (jF es X.env)).any (·.1)=false) :
  PE X (.Call (.Attribute o name apos) (e::es) [] cpos) (tOf X.K (zF3 T m co ca)):=(zYD pa slot hty zW7 ho ha hbase hfew hline hs hplain).weak (by
 rintro Z H Q ⟨J,B,S,d,S',sr,re,e,y⟩;obtain⟨x,S1,e1,e⟩:=zA7 e;split at e
 ·rename_i hk;obtain⟨xs,S2,e2,e⟩:=zA7 e;refine⟨J,B,S,x,S1,sr,re,e1,λv H1 J1 sr1 st1 r1=>⟨zR8 sr1 hk r1,J1,B,S1,xs,S2,sr1,re.up st1,e2,λvs H2 J2 sr2 st2 r2=>?_⟩⟩;exact hm x xs S2 d S' H2 J2 v vs Q e sr2 (RV.up st2.tk st2.ext _ _ r1) r2 (y.shift (st1.trans st2 sr2.nd))
 ·cases e)
noncomputable def zLE(T:String)(o:D->List D->M D)(a:C):C:=fun B=>bnd (a B) λx S=>if tyOk T x S then o x [] S else .bad
theorem zPD(pa:mW T)(slot:Slot T name id)(hty:mX (.builtin id)=pure (.type "method_descriptor"))(hm:MtS X.K T (zEa X id) m)(ho:PE X o (tOf X.K co))
  (hbase:wK o name X.env (vL o X.env)=vL o X.env) (hline:(apos.endLine == cpos.line)=true):PE X (.Call (.Attribute o name apos) [] [] cpos) (tOf X.K (zLE T m co)):=(zVy pa slot hty zW7 ho hbase hline).weak (by
 rintro Z H Q ⟨J,B,S,d,S',sr,re,e,y⟩;obtain⟨x,S1,e1,e⟩:=zA7 e;split at e
 ·rename_i hk;exact⟨J,B,S,x,S1,sr,re,e1,λv H1 J1 sr1 st1 r1=>⟨zR8 sr1 hk r1,hm x [] S1 d S' H1 J1 v [] Q e sr1 r1 RVs.nil (y.shift st1)⟩⟩
 ·cases e)
noncomputable def zCY(g:List D->List D->Option (List D×D)):D->List D->M D:=λx xs S=>match x with
 |.lst n=>match S[n]? with
  |some (.lst ys)=>match g ys xs with
   |some (zs,d)=>.ok d (S.set n (.lst zs))
   |none=>.bad
  |_=>.bad
 |_=>.bad
theorem SR.putL{K:yQ}{H:Hp}{J:yC}{S:zA0}{n:Nat}{p:yR}{vs ws:List V}{zs:List D}(sr:SR K J S H)(hn:J[n]?=some p)(hp:H p=some (.lst vs))(r:RVs K H J zs ws):SR K J (S.set n (.lst zs)) (upd H p (.lst ws))/\Step K J J H (upd H p (.lst ws)) :=
 sr.put hn hp (λ_ z=>by cases z) (λ_ _ z=>by cases z) ⟨ws,zAc,RVs.up (zKX hp) ⟨[],by simp⟩ _ _ r⟩
theorem zNQ{g:List D->List D->Option (List D×D)}
  (h:∀(K:yQ) H J ys xs zs d vs us,g ys xs=some (zs,d)->RVs K H J ys vs->RVs K H J xs us->∃ws w,RVs K H J zs ws/\RV K H J d w/\∀(p:yR) (Q:VK),H p=some (.lst vs)->Q w (upd H p (.lst ws))->zEa X id (.ref p) us H Q):MtS X.K "list" (zEa X id) (zCY g):=by
 intro x xs S d S' H J v us Q e sr rx rs y;unfold zCY at e;split at e
 ·rename_i n;split at e
  ·rename_i ys ho;split at e
   ·rename_i zs d' hg;cases e;unfold RV at rx;obtain⟨p,rfl,hm⟩:=rx;obtain⟨vs,hp,rr⟩:=sr.lst hm ho;obtain⟨ws,w,r1,r2,fin⟩:=h X.K H J ys xs zs d vs us hg rr rs;obtain⟨s1,s2⟩:=sr.putL hm hp r1;exact fin p Q hp (y w _ J s1 s2 (RV.up s2.tk s2.ext _ _ r2))
   ·cases e
  ·cases e
 ·cases e
noncomputable def zAR:List D->List D->Option (List D×D):=λys xs=>match xs with
 |[x]=>if ys.length<lim then some (ys++[x],.non)else none
 |_=>none
theorem zNS:MtS X.K "list" (zEa X "list.append") (zCY zAR):=zNQ λK H J ys xs zs d vs us e r1 r2=>by
 unfold zAR at e;split at e
 ·split at e
  ·rename_i hl;cases e;obtain⟨v,rfl,r3⟩:=r2.one;exact⟨vs++[v],.non,r1.append (.cons r3 .nil),zE9,λp Q hp q=>⟨_,zJ0,p,vs,v,rfl,rfl,hp,by rw[<- r1.len];exact zO0 hl,q⟩⟩
  ·cases e
 ·cases e
noncomputable def zHV:List D->List D->Option (List D×D):=λys xs=>match xs with
 |[.int i,x]=>if ys.length<1000/\0<=i/\i.toNat<=ys.length then some (ys.take i.toNat++x::ys.drop i.toNat,.non)else none
 |_=>none
theorem zNR:MtS X.K "list" (zEa X "list.insert") (zCY zHV):=zNQ λK H J ys xs zs d vs us e r1 r2=>by
 unfold zHV at e;split at e
 ·rename_i i x;split at e
  ·rename_i hl;cases e;obtain⟨h1,h2,h3⟩:=hl;obtain⟨v,u,rfl,r3,r4⟩:=r2.two;unfold RV at r3;subst r3;have ei:i=((i.toNat:Nat):Int):=by omega
   exact⟨vs.take i.toNat++u::vs.drop i.toNat,.non,(r1.take _).append (.cons r4 (r1.drop _)),zE9,λp Q hp q=>⟨_,zNP,p,vs,i.toNat,u,rfl,by rw[<- ei],hp,by rw[<- r1.len];exact h1,by rw[<- r1.len];exact h3,q⟩⟩
  ·cases e
 ·cases e
theorem RVs.dropLast{K:yQ}{H:Hp}{J:yC}{ds:List D}{vs:List V}(r:RVs K H J ds vs):RVs K H J ds.dropLast vs.dropLast:=by rw[qO3,qO3,r.len];exact r.take _
noncomputable def zNV:D->List D->M D:=λx xs S=>match x,xs with
 |.int i,[]=>.ok (.int ((Builtin.Int.intBits i:Nat):Int)) S
 |_,_=>.bad
theorem zT5:MtS X.K "int" (zEa X "int.bit_length") zNV:=by
 intro x xs S d S' H J v us Q e sr rx rs y;unfold zNV at e;split at e
 ·cases e;unfold RV at rx;subst rx;exact⟨_,zT4,_,rfl,rs.nil_inv,y.self sr zAy⟩
 ·cases e
theorem RKs.merge{K:yQ}{H:Hp}{J:yC}:∀{more:List (Key×D)}{ws:List (Key×V)}{kvs:List (Key×D)}{us:List (Key×V)},RKs K H J more ws->RKs K H J kvs us->RKs K H J (mrgD kvs more) (zBs us ws)
 |[],ws,kvs,us,h,g=>by
  have:ws=[]:=by have:=h.1;cases ws with|nil=>rfl|cons a b=>simp at this
  subst this;exact g
 |p::more,ws,kvs,us,h,g=>by obtain⟨q,vs,rfl,e1,r1,r2⟩:=h.cons_inv;show RKs K H J (mrgD (putD kvs p.1 p.2) more) (zBs (putK us q.1 q.2) vs);rw[<- e1];exact RKs.merge r2 (g.put r1)
noncomputable def dkAt(S:zA0)(n:Nat):Option (List (Key×D)):=match S[n]? with
 |some (.dk kvs)=>some kvs
 |some (.fk kvs)=>some kvs
 |_=>none
theorem zTM{K:yQ}{H:Hp}{J:yC}{S:zA0}{n:Nat}{a:yR}{kvs:List (Key×D)}(sr:SR K J S H)(e:dkAt S n=some kvs)(hm:J[n]?=some a):∃ws,Rd H a (.dK ws)/\RKs K H J kvs ws:=by
 unfold dkAt at e;split at e
 ·rename_i ho;cases e;obtain⟨ws,hw,rr⟩:=sr.get hm ho;exact⟨ws,.inl hw,rr⟩
 ·rename_i ho;cases e;obtain⟨o,ws,hw,rr⟩:=sr.get hm ho;exact⟨ws,.inr ⟨o,hw⟩,rr⟩
 ·cases e
noncomputable def mUpd:D->List D->M D:=λx xs S=>match x,xs with
 |.dct n,[.dct m]=>match S[n]?,dkAt S m with
  |some (.dk kvs),some more=>if n≠m/\kvs.length+more.length<=lim then .ok .non (S.set n (.dk (mrgD kvs more)))else .bad
  |_,_=>.bad
 |_,_=>.bad
theorem zW8:MtS X.K "dict" (zEa X "dict.update") mUpd:=by
 intro x xs S d S' H J v us Q e sr rx rs y;unfold mUpd at e;split at e
 ·rename_i n m;split at e
  ·rename_i kvs more ho hk;split at e
   ·rename_i hl;cases e;unfold RV at rx;obtain⟨a,rfl,hm⟩:=rx;obtain⟨u,rfl,r2⟩:=rs.one;unfold RV at r2;obtain⟨b,rfl,hb⟩:=r2;obtain⟨ws,hw,rr⟩:=sr.get hm ho;obtain⟨ms,hw2,rr2⟩:=zTM sr hk hb;have hab:a≠b:=λz=>by subst z;exact hl.1 ((qM7 (qA3.mp hm).1 sr.nd).mp (hm.trans hb.symm))
    have tk:TF X.K H (upd H a (.dK (zBs ws ms))):=zH0 hw (λ_ z=>by cases z) (λ_ _ z=>by cases z);obtain⟨s1,s2⟩:=sr.put (o:=.dK (zBs ws ms)) (o':=.dk (mrgD kvs more)) hm hw (λ_ z=>by cases z) (λ_ _ z=>by cases z) ⟨_,zAc,(rr2.merge rr).up tk ⟨[],by simp⟩⟩;exact⟨_,zNO,a,b,ws,ms,rfl,rfl,hab,hw,hw2,by rw[<- rr.len,<- rr2.len];exact zH9 hl.2,y _ _ J s1 s2 zE9⟩
   ·cases e
  ·cases e
 ·cases e
noncomputable def prsD:List D->Option (List (Key×D))
 |[]=>some []
 |.tup [k,v]::r=>match zFF k,prsD r with
  |some q,some ps=>some ((q,v)::ps)
  |_,_=>none
 |_=>none
theorem zNl{K:yQ}{H:Hp}{J:yC}:∀{ds:List D}{ps:List (Key×D)}{vs:List V},prsD ds=some ps->RVs K H J ds vs->∃qs,Prs H vs qs/\RKs K H J ps qs
 |[],ps,vs,e,r=>by cases e;rw[r.nil_inv];exact⟨[],.nil,.nil⟩
 |d::ds,ps,vs,e,r=>by
  obtain⟨v,ws,rfl,r1,r2⟩:=r.cons_inv;unfold prsD at e;split at e
  ·rename_i q;cases q
  ·rename_i k x r' q;cases q;split at e
   ·rename_i q ps' e1 e2;cases e;obtain⟨qs,a,b⟩:=zNl e2 r2;unfold RV at r1;obtain⟨p,us,rfl,hp,ru⟩:=r1;obtain⟨u1,u2,rfl,t1,t2⟩:=ru.two;rw[zFE e1 t1]at hp;exact⟨(q,u2)::qs,.cons ⟨p,rfl,hp⟩ a,RKs.cons t2 b⟩
   ·cases e
  ·cases e
noncomputable def zKw:List D->M D:=λxs S=>match xs with
 |[.lst n]=>match S[n]? with
  |some (.lst ys)=>match prsD ys with
   |some ps=>if ys.length<=lim then .ok (.dct S.length) (S++[.dk (mrgD [] ps)])else .bad
   |none=>.bad
  |_=>.bad
 |_=>.bad
theorem zTT(hc:X.calm=true):zEF X.K (cAny X (.type "dict")) zKw:=by
 intro xs S d S' H J vs Q e sr rx h;unfold zKw at e;split at e
 ·split at e
  ·rename_i ys e1;split at e
   ·rename_i ps e2;split at e
    ·rename_i hl;cases e;obtain⟨v,rfl,r⟩:=rx.one;unfold RV at r;obtain⟨a,rfl,hm⟩:=r;obtain⟨us,hu,ru⟩:=sr.get hm e1;obtain⟨qs,hq,rq⟩:=zNl e2 ru;refine⟨_,zMr hc,a,us,qs,rfl,hu,hq,by rw[<- ru.len];exact zH9 hl,λp hp=>?_⟩;obtain⟨s1,s2⟩:=sr.push (o:=.dK (zBs [] qs)) (o':=.dk (mrgD [] ps)) hp ⟨_,zAc,(rq.merge RKs.nil).up (zGZ hp) ⟨[p],rfl⟩⟩;exact h _ _ _ s1 s2 (by unfold RV;exact⟨p,rfl,by rw[<- sr.len,qA0 (qA6 _)];simp⟩)
    ·cases e
   ·cases e
  ·cases e
 ·cases e
noncomputable def oSet:D->D->D->zA0->Option zA0:=λx i v S=>match x with
 |.lst n=>match S[n]?,i with
  |some (.lst ys),.int k=>match ixN ys.length k with
   |some j=>some (S.set n (.lst (ys.set j v)))
   |none=>none
  |_,_=>none
 |.dct n=>match S[n]?,zFF i with
  |some (.dk kvs),some k=>if kvs.length<lim then some (S.set n (.dk (putD kvs k v)))else none
  |_,_=>none
 |_=>none
theorem zPB(hu:X.A.units+1<wR):PSet X (λo i v H Q=>∃a H4,o=.ref a/\DPut H a i v H4/\Q H4):=by intro pins s Z H o i v ov iv u Q I ro ri rv h;obtain⟨a,H4,rfl,g,q⟩:=h;obtain rfl:ov=Value.ref a:=ro;exact zOQ hu I g ri rv λs4 I4=>⟨H4,I4,q⟩
theorem zSJ(hu:X.A.units+1<wR){x i v:D}{S S':zA0}{H:Hp}{J:yC}{ov iv vv:V}{Q:Hp->Prop}(e:oSet x i v S=some S')(sr:SR X.K J S H)(rx:RV X.K H J x ov)(ri:RV X.K H J i iv)(rv:RV X.K H J v vv)(y:∀H' ,SR X.K J S' H'->Step X.K J J H H'->Q H'):zN5 X ov iv vv H Q:=by
 unfold oSet at e;split at e
 ·split at e
  ·rename_i ys k ho;split at e
   ·rename_i j hj;cases e;unfold RV at rx ri;obtain⟨p,rfl,hm⟩:=rx;subst ri;obtain⟨vs,hp,rr⟩:=sr.lst hm ho;obtain⟨s1,s2⟩:=sr.putL hm hp (rr.set rv j);exact⟨_,zPA,p,vs,k,j,rfl,rfl,hp,by rw[<- rr.len];exact hj,y _ s1 s2⟩
   ·cases e
  ·cases e
 ·split at e
  ·rename_i kvs k ho hk;split at e
   ·rename_i hl;cases e;unfold RV at rx;obtain⟨p,rfl,hm⟩:=rx;obtain⟨ws,hp,rr⟩:=sr.get hm ho;have z:=zFE hk ri;subst z;have tk:TF X.K H (upd H p (.dK (putK ws k vv))):=zH0 hp (λ_ z=>by cases z) (λ_ _ z=>by cases z);obtain⟨s1,s2⟩:=sr.put (o:=.dK (putK ws k vv)) (o':=.dk (putD kvs k v)) hm hp (λ_ z=>by cases z) (λ_ _ z=>by cases z) ⟨_,zAc,(rr.put rv).up tk ⟨[],by simp⟩⟩;exact⟨_,zPB hu,p,_,rfl,DPut.k hp (by rw[<- rr.len];exact zO0 hl),y _ s1 s2⟩
   ·cases e
  ·cases e
 ·cases e
end
inductive RS where
 |bad|nx (B:Env1) (S:zA0)| rt (d:D) (S:zA0)| bk (B:Env1) (S:zA0)| ct (B:Env1) (S:zA0)| er (c:Str) (S:zA0)
abbrev CS:=Env1->zA0->RS
noncomputable def EX(X:Cx):XK:=λC _ H'=>(∀(pins:yD) (Z:St) (H:Hp) (s:yS) (e T:yR) (s':yS),Inv X pins Z H s->Trc s'.heap e T C->s.heap.get? e=none->s.heap.get? T=none->s'.os=s.os->fT s'.gens->Un (frs X.stack) [] H H' s.heap s'.heap->HOk X.prog X.w H' s'.heap->H' e=none->H' T=none->X.xe (.ref e) s') /\
 ∀(pins:yD) (Z:St) (s:yS) (h':jC) (e D:yR) (vs:yB),C=.ref D->Inv X pins Z H' s->qR9 s.heap h' e (.ref D) vs->X.xe (.ref e) { s with heap:=h' }
theorem zFY{X:Cx}:zHj (CX1 X.prog X.w) X (EX X):=by intro pins Z H s ev s' I h;obtain⟨e,T,C,H',rfl,tr,ne,nT,os,bare,un,hok,he,hT,hE⟩:=h;exact hE.1 pins Z H s e T s' I tr ne nT os bare un hok he hT
theorem zWU{X:Cx}:zKP X (EX X):=λpins Z H s h' e C vs I mk hE=>hE.2 pins Z s h' e C vs rfl I mk
theorem zOH{X:Cx}{E:XK}(o:Own1 X E){C:yU}{H':Hp}(h:E C none H'):EX X C none H':=by refine⟨λpins Z H s e T s' I tr ne nT os bare un hok he hT=>zM4 o pins Z H s _ s' I ⟨e,T,C,H',rfl,tr,ne,nT,os,bare,un,hok,he,hT,h⟩,λpins Z s h' e D vs eq I mk=>?_⟩;subst eq;exact zSV o pins Z H' s h' e D vs I mk h
def YldE(X:Cx)(J:yC)(H:Hp)(c:Str)(S':zA0):Prop:=∀H' J',SR X.K J' S' H'->Step X.K J J' H H'->∀C,X.mg c=some (.ref C)->EX X (.ref C) none H'
theorem YldE.shift{X:Cx}{J J1:yC}{H H1:Hp}{c:Str}{S':zA0}(h:YldE X J H c S')(st:Step X.K J J1 H H1):YldE X J1 H1 c S':=λH' J' sr s2=>h H' J' sr (st.trans s2 sr.nd)
def zGX(X:Cx)(J:yC)(H:Hp)(E:Ends):RS->Prop
 |.bad=>False
 |.er c S'=>YldE X J H c S'
 |.nx B' S'=>∀Z' H' J',SR X.K J' S' H'->Step X.K J J' H H'->RE X.K H' J' B' Z'->E.nx Z' H'
 |.bk B' S'=>∀Z' H' J',SR X.K J' S' H'->Step X.K J J' H H'->RE X.K H' J' B' Z'->E.bk Z' H'
 |.ct B' S'=>∀Z' H' J',SR X.K J' S' H'->Step X.K J J' H H'->RE X.K H' J' B' Z'->E.ct Z' H'
 |.rt d S'=>Yld X.K J H d S' E.rt
inductive tOfS(X:Cx)(c:CS)(E:Ends)(Z:St)(H:Hp):Prop
 |mk (J:yC) (B:Env1) (S:zA0) (sr:SR X.K J S H) (re:RE X.K H J B Z) (y:zGX X J H E (c B S))
theorem zGX.shift{X:Cx}{J J1:yC}{H H1:Hp}{E:Ends}{r:RS}(h:zGX X J H E r)(st:Step X.K J J1 H H1):zGX X J1 H1 E r:=by
 cases r with
 |bad=>exact h
 |er _ _=>exact YldE.shift h st
 |nx B S=>exact fun Z' H' J' sr s2 re=>h Z' H' J' sr (st.trans s2 sr.nd) re
 |bk B S=>exact fun Z' H' J' sr s2 re=>h Z' H' J' sr (st.trans s2 sr.nd) re
 |ct B S=>exact fun Z' H' J' sr s2 re=>h Z' H' J' sr (st.trans s2 sr.nd) re
 |rt d S=>exact Yld.shift h st
noncomputable def zA4:CS:=fun B S=>.nx B S
noncomputable def sBrk:CS:=fun B S=>.bk B S
noncomputable def sCnt:CS:=fun B S=>.ct B S
noncomputable def sBad:CS:=λ_ _=>.bad
noncomputable def zSv:CS:=λ_ S=>.rt .non S
noncomputable def sRet(c:C):CS:=fun B S=>match c B S with
 |.ok d S'=>.rt d S'
 |.bad=>.bad
 |.er _ _=>.bad
noncomputable def zE8(c:C):CS:=fun B S=>match c B S with
 |.ok _ S'=>.nx B S'
 |.bad=>.bad
 |.er _ _=>.bad
noncomputable def sSeq(a b:CS):CS:=fun B S=>match a B S with
 |.nx B' S'=>b B' S'
 |r=>r
noncomputable def sIf(t:CT)(a b:CS):CS:=fun B S=>match t B S with
 |.ok k S'=>if k then a B S' else b B S'
 |.bad=>.bad
 |.er _ _=>.bad
abbrev G:=D->Env1->M Env1
noncomputable def sAsg(c:C)(g:G):CS:=fun B S=>match c B S with
 |.ok d S'=>match g d B S' with
  |.ok B' S2=>.nx B' S2
  |.bad=>.bad
  |.er _ _=>.bad
 |.bad=>.bad
 |.er _ _=>.bad
section
variable {X:Cx}{e a b tg:y4}{ce ca cb:C}{pos:Pos}
theorem zS5:PS X (.Pass pos) (tOfS X zA4):=zSL.weak λE Z H ⟨J,B,S,sr,re,p⟩=>p Z H J sr (Step.refl _ _ _) re
theorem zUI:PS X (.Break pos) (tOfS X sBrk):=zPQ.weak λE Z H ⟨J,B,S,sr,re,p⟩=>p Z H J sr (Step.refl _ _ _) re
theorem zUH:PS X (.Continue pos) (tOfS X sCnt):=zK4.weak λE Z H ⟨J,B,S,sr,re,p⟩=>p Z H J sr (Step.refl _ _ _) re
theorem zUJ{st:vI}:PS X st (tOfS X sBad):=zPP.weak λE Z H ⟨J,B,S,sr,re,p⟩=>p
theorem zS4:PS X (.Return none pos) (tOfS X zSv):=zSK.weak λE Z H ⟨J,B,S,sr,re,p⟩=>p _ H J sr (Step.refl _ _ _) zE9
theorem zUF(he:PE X e (tOf X.K ce)):PS X (.Return (some e) pos) (tOfS X (sRet ce)):=(zNj he).weak (by
 rintro E Z H ⟨J,B,S,sr,re,p⟩;unfold sRet at p;split at p
 ·rename_i d S' h;exact⟨J,B,S,d,S',sr,re,h,p⟩
 ·exact False.elim p
 ·exact False.elim p)
theorem zS6(he:PE X e (tOf X.K ce))(hs:wQ e none pos.line X.env=pure false):PS X (.Expr e pos) (tOfS X (zE8 ce)):=(zNk he hs).weak (by
 rintro E Z H ⟨J,B,S,sr,re,p⟩;unfold zE8 at p;split at p
 ·rename_i d S' h;exact⟨J,B,S,d,S',sr,re,h,λv H1 J1 sr1 st1 r1=>p Z H1 J1 sr1 st1 (re.up st1)⟩
 ·exact False.elim p
 ·exact False.elim p)
theorem zS2:PSs X [] (tOfS X zA4):=zHy.weak λE Z H ⟨J,B,S,sr,re,p⟩=>p Z H J sr (Step.refl _ _ _) re
theorem zPv{st:vI}{rest:List vI}{c1 c2:CS}(h1:PS X st (tOfS X c1))(h2:PSs X rest (tOfS X c2)):PSs X (st::rest) (tOfS X (sSeq c1 c2)):=(zCC h1 h2).weak (by
 rintro E Z H ⟨J,B,S,sr,re,p⟩;refine⟨J,B,S,sr,re,?_⟩;unfold sSeq at p;revert p;cases c1 B S with
 |nx B' S'=>exact λp Z' H' J' sr' st' re'=>⟨J',B',S',sr',re',p.shift st'⟩
 |bad=>exact λp=>p
 |er _ _=>exact λp=>p
 |rt _ _=>exact λp=>p
 |bk _ _=>exact λp=>p
 | ct _ _=>exact λp=>p)
theorem zYf{t:y4}{ct:CT}{as bs:List vI}{c1 c2:CS}(ht:PT X t (tOfT X.K ct))(h1:PSs X as (tOfS X c1))(h2:PSs X bs (tOfS X c2)):PS X (.If t as bs pos) (tOfS X (sIf ct c1 c2)):=(zYz ht h1 h2).weak (by
 rintro E Z H ⟨J,B,S,sr,re,p⟩;unfold sIf at p;split at p
 ·rename_i k S' h;refine⟨J,B,S,k,S',sr,re,h,λH1 J1 sr1 st1=>?_⟩;cases k with
  |true=>rw[if_pos rfl]at p ⊢;exact⟨J1,B,S',sr1,re.up st1,p.shift st1⟩
  |false=>rw[if_neg qA9]at p ⊢;exact⟨J1,B,S',sr1,re.up st1,p.shift st1⟩
 ·exact False.elim p
 ·exact False.elim p)
inductive tOfG(K:yQ)(g:G)(v:V)(Z:St)(H:Hp)(Q:St->Hp->Prop):Prop
 |mk (J:yC) (B:Env1) (S:zA0) (d:D) (B':Env1) (S':zA0) (sr:SR K J S H) (re:RE K H J B Z) (rv:RV K H J d v) (e:g d B S=.ok B' S') (y:∀Z' H' J',SR K J' S' H'->Step K J J' H H'->RE K H' J' B' Z'->Q Z' H')
theorem PG.weak{t t':TG}(h:PG X tg t)(w:∀v Z H Q,t' v Z H Q->t v Z H Q):PG X tg t':=λpins s Z H v u Q I r q=>h pins s Z H v u Q I r (w v Z H Q q)
noncomputable def gN(i:Nat):G:=λd B S=>.ok (B.set i (some d)) S
theorem zSi{i:Nat}{x:Str}(h:PG X (.Name x pos) (zHU i)):PG X (.Name x pos) (tOfG X.K (gN i)):=h.weak (by
 rintro v Z H Q ⟨J,B,S,d,B',S',sr,re,rv,e,y⟩;unfold gN at e;cases e;exact y _ H J sr (Step.refl _ _ _) (re.set rv i))
noncomputable def gS(co ci:C):G:=λd B=>bnd (co B) λo=>bnd (ci B) λi S=>match oSet o i d S with
 |some S'=>.ok B S'
 |none=>.bad
theorem zUR(hu:X.A.units+1<wR)(ho:PE X a (tOf X.K ca))(hi:PE X b (tOf X.K cb))(ha:∀v,fA (.Subscript a b pos) X.env v=(do
   let ov <- wI [v] (vL a X.env)
   let iv <- wI [v,ov] (vL b X.env)
   m5 pos
   wI [v,ov,iv] (dU ov iv v)
   release [v,ov,iv] [])):PG X (.Subscript a b pos) (tOfG X.K (gS ca cb)):=(zVr ho hi zUT ha).weak (by
 rintro v Z H Q ⟨J,B,S,d,B',S',sr,re,rv,e,y⟩;obtain⟨x,S1,e1,e⟩:=zA7 e;obtain⟨z,S2,e2,e⟩:=zA7 e;split at e
 ·rename_i S3 e3;cases e;refine⟨J,B,S,x,S1,sr,re,e1,λov H1 J1 sr1 st1 r1=>⟨J1,B,S1,z,S2,sr1,re.up st1,e2,λiv H2 J2 sr2 st2 r2=>?_⟩⟩;have st12:=st1.trans st2 sr2.nd;refine zSJ hu e3 sr2 (RV.up st2.tk st2.ext _ _ r1) r2 (RV.up st12.tk st12.ext _ _ rv) λH3 sr3 st3=>?_;exact y Z H3 J2 sr3 (st12.trans st3 sr3.nd) (re.up (st12.trans st3 sr3.nd))
 ·cases e)
noncomputable def gTs:List G->List D->Env1->M Env1
 |[],[]=>fun B=>ret B
 |g::gs,d::ds=>fun B=>bnd (g d B) fun B1=>gTs gs ds B1
 |_,_=>λ_=>bad
noncomputable def gT(gs:List G):G:=λd B=>match d with
 |.tup xs=>gTs gs xs B
 |_=>bad
inductive zMU(K:yQ)(gs:List G)(vs:List V)(Z:St)(H:Hp)(Q:St->Hp->Prop):Prop
 |mk (J:yC) (B:Env1) (S:zA0) (ds:List D) (B':Env1) (S':zA0) (sr:SR K J S H) (re:RE K H J B Z) (rv:RVs K H J ds vs) (e:gTs gs ds B S=.ok B' S') (y:∀Z' H' J',SR K J' S' H'->Step K J J' H H'->RE K H' J' B' Z'->Q Z' H')
theorem PGs.weak{es:yE}{t t':TGs}(h:PGs X es t)(w:∀v Z H Q,t' v Z H Q->t v Z H Q):PGs X es t':=λpins s Z H v u Q I r q=>h pins s Z H v u Q I r (w v Z H Q q)
theorem zSh:PGs X [] (zMU X.K []):=zNs.weak (by
 rintro v Z H Q ⟨J,B,S,ds,B',S',sr,re,rv,e,y⟩;cases ds with
 |nil =>
  obtain⟨rfl,rfl⟩:=zAq e;exact⟨rv.nil_inv,y Z H J sr (Step.refl _ _ _) re⟩
 | cons d ds=>cases e)
theorem zPz{es:yE}{g:G}{gs:List G}(h1:PG X e (tOfG X.K g))(h2:PGs X es (zMU X.K gs))(hs:(jQ (e::es) X.env).map (·.2)=fA e X.env::(jQ es X.env).map (·.2)):PGs X (e::es) (zMU X.K (g::gs)):=(zL2 h1 h2 hs).weak (by
 rintro v Z H Q ⟨J,B,S,ds,B',S',sr,re,rv,e,y⟩;cases ds with
 |nil=>cases e
 |cons d ds =>
  obtain⟨B1,S1,e1,e⟩:=zA7 e;obtain⟨u,us,rfl,r1,r2⟩:=rv.cons_inv;refine⟨u,us,rfl,J,B,S,d,B1,S1,sr,re,r1,e1,fun Z1 H1 J1 sr1 st1 re1=>?_⟩;exact⟨J1,B1,S1,ds,B',S',sr1,re1,RVs.up st1.tk st1.ext _ _ r2,e,fun Z2 H2 J2 sr2 st2 re2=>y Z2 H2 J2 sr2 (st1.trans st2 sr2.nd) re2⟩)
theorem zTA{gs:List G}:∀{ds:List D}{B B':Env1}{S S':zA0},gTs gs ds B S=.ok B' S'->ds.length=gs.length:=by
 induction gs with
 |nil=>intro ds B B' S S' e;cases ds with|nil=>rfl|cons _ _=>cases e
 |cons g gs ih =>
  intro ds B B' S S' e;cases ds with
  |nil=>cases e
  |cons d ds =>
   obtain⟨B1,S1,e1,e⟩:=zA7 e;rw[qD4,qD4,ih e]
theorem zUQ{es:yE}{k:Nat}{gs:List G}(hc:X.calm=true)(h:PGs X es (zMU X.K gs))(hn:(jQ es X.env).length=gs.length)(hst:(jQ es X.env).findIdx? (·.1)=none):PG X (.Tuple es k pos) (tOfG X.K (gT gs)) :=
 (zRh hc h hn hst).weak (by
 rintro v Z H Q ⟨J,B,S,d,B',S',sr,re,rv,e,y⟩;unfold gT at e;split at e
 ·rename_i xs;unfold RV at rv;obtain⟨p,vs,rfl,q,rr⟩:=rv;exact⟨p,vs,rfl,SqT.of q,by rw[<- rr.len];exact zTA e,J,B,S,xs,B',S',sr,re,rr,e,y⟩
 ·cases e)
theorem zRa{g:G}(he:PE X e (tOf X.K ce))(hg:PG X tg (tOfG X.K g))(hs:mL [tg] e pos.line X.env=pure false)(hw:v9 [tg] e X.env=pure none)(h1:(jQ [tg] X.env).map (·.2)=[fA tg X.env]):PS X (.Assign [tg] e pos) (tOfS X (sAsg ce g)):=(zH5 he hg hs hw h1).weak (by
 rintro E Z H ⟨J,B,S,sr,re,p⟩;unfold sAsg at p;split at p
 ·rename_i d S' h;split at p
  ·rename_i B' S2 h2;refine⟨J,B,S,d,S',sr,re,h,λv H1 J1 sr1 st1 r1=>⟨J1,B,S',d,B',S2,sr1,re.up st1,r1,h2,fun Z2 H2 J2 sr2 st2 re2=>?_⟩⟩;exact p Z2 H2 J2 sr2 (st1.trans st2 sr2.nd) re2
  ·exact False.elim p
  ·exact False.elim p
 ·exact False.elim p
 ·exact False.elim p)
theorem zUE{i:Nat}{x:Str}{pos':Pos}(h:PS X (.Assign [.Name x pos'] e pos) (tAsg (tOf X.K ce) (zHU i))):PS X (.Assign [.Name x pos'] e pos) (tOfS X (sAsg ce (gN i))):=h.weak (by
 rintro E Z H ⟨J,B,S,sr,re,p⟩;unfold sAsg at p;split at p
 ·rename_i d S' h;have e2:gN i d B S'=.ok (B.set i (some d)) S':=rfl;rw[e2]at p;exact⟨J,B,S,d,S',sr,re,h,λv H1 J1 sr1 st1 r1=>p _ H1 J1 sr1 st1 ((re.up st1).set r1 i)⟩
 ·exact False.elim p
 ·exact False.elim p)
noncomputable def zCA:Nat->CT->CS->CS
 |0,_,_=>λ_ _=>.bad
 |k+1,t,b=>fun B S=>match t B S with
  |.ok true S1=>match b B S1 with
   |.nx B2 S2=>zCA k t b B2 S2
   |.ct B2 S2=>zCA k t b B2 S2
   |.bk B2 S2=>.nx B2 S2
   |r=>r
  |.ok false S1=>.nx B S1
  |.bad=>.bad
  |.er _ _=>.bad
theorem zPw{t:y4}{ct:CT}{body:List vI}{cb:CS}(k:Nat)(hp:gQ (yW X.prog X.w) X.A X.env X.xe)(ht:PT X t (tOfT X.K ct))(hb:PSs X body (tOfS X cb)):PS X (.While t body [] pos) (tOfS X (zCA k ct cb)):=(zPM hp ht hb).weak (by
 rintro E Z0 H0 ⟨J0,B0,S0,sr0,re0,p0⟩;refine⟨λm Z H=>∃J B S,SR X.K J S H/\Step X.K J0 J H0 H/\RE X.K H J B Z/\zGX X J H E (zCA m ct cb B S),⟨k,J0,B0,S0,sr0,Step.refl _ _ _,re0,p0⟩,?_⟩;rintro m Z H ⟨J,B,S,sr,st,re,p⟩;cases m with
 |zero=>exact False.elim p
 |succ m =>
  unfold zCA at p;split at p
  ·rename_i S1 h;refine⟨J,B,S,true,S1,sr,re,h,λH1 J1 sr1 st1=>?_⟩;dsimp only;rw[if_pos rfl];refine⟨fun Z' H'=>∃J B S,SR X.K J S H'/\Step X.K J0 J H0 H'/\RE X.K H' J B Z'/\zGX X J H' E (zCA m ct cb B S),fun Z' H' h=>⟨m,qJ8 m,h⟩,J1,B,S1,sr1,re.up st1,?_⟩;have st01:=st.trans st1 sr1.nd;revert p;cases cb B S1 with
   |nx B2 S2=>exact λp Z2 H2 J2 sr2 st2 re2=>⟨J2,B2,S2,sr2,st01.trans st2 sr2.nd,re2,p.shift (st1.trans st2 sr2.nd)⟩
   |ct B2 S2=>exact λp Z2 H2 J2 sr2 st2 re2=>⟨J2,B2,S2,sr2,st01.trans st2 sr2.nd,re2,p.shift (st1.trans st2 sr2.nd)⟩
   |bk B2 S2=>exact λp Z2 H2 J2 sr2 st2 re2=>p Z2 H2 J2 sr2 (st1.trans st2 sr2.nd) re2
   |rt d S2=>exact λp=>Yld.shift p st1
   |bad=>exact λp=>p
   |er _ _=>exact λp=>YldE.shift p st1
  ·rename_i S1 h;refine⟨J,B,S,false,S1,sr,re,h,λH1 J1 sr1 st1=>?_⟩;dsimp only;rw[if_neg qA9];exact p Z H1 J1 sr1 st1 (re.up st1)
  ·exact False.elim p
  ·exact False.elim p)
abbrev zD5:=List (Nat×List D)
def okW(w:zD5)(S:zA0):Prop:=∀p∈w,zA3 S p.1=some p.2
abbrev CI:=Env1->M (List D×zD5)
structure ItOk(K:yQ)(JJ:It)(items:List D)(w:zD5)(J0:yC)(H0:Hp):Prop where
 go:∀(i:Nat) H J S,SR K J S H->Step K J0 J H0 H->okW w S->i<items.length->JJ.go i H
 yld:∀(i:Nat) H J S x H',SR K J S H->Step K J0 J H0 H->okW w S->i<items.length->JJ.yld i H x H'->∃d,items[i]?=some d/\SR K J S H'/\Step K J J H H'/\RV K H' J d x
 stop:∀H J S,SR K J S H->Step K J0 J H0 H->okW w S->JJ.stop items.length H
inductive tOfI(K:yQ)(it:CI)(Z:St)(H:Hp)(R:It->Hp->Prop):Prop
 |mk (J:yC) (B:Env1) (S:zA0) (items:List D) (w:zD5) (S':zA0) (sr:SR K J S H) (re:RE K H J B Z) (e:it B S=.ok (items,w) S') (y:∀JJ H' J',SR K J' S' H'->Step K J J' H H'->ItOk K JJ items w J' H'->R JJ H')
theorem PI.weak{iter:y4}{t t':TI}(h:PI X tg iter t)(w:∀Z H R,t' Z H R->t Z H R):PI X tg iter t':=λpins s Z H R I q=>h pins s Z H R I (w Z H R q)
theorem Step.at{K:yQ}{J J':yC}{H H':Hp}(st:Step K J J' H H'){n:Nat}{a:yR}(h:J[n]?=some a):J'[n]?=some a:=by obtain⟨ν,rfl⟩:=st.ext;rw[qA7 (qA3.mp h).1];exact h
open Classical in
noncomputable def zAx(w:zD5)(g:G)(b:CS):List D->CS
 |[]=>fun B S=>if okW w S then .nx B S else .bad
 | d::ds=>fun B S=>if okW w S then(match g d B S with
  |.ok B1 S1=>match b B1 S1 with
   |.nx B2 S2=>zAx w g b ds B2 S2
   |.ct B2 S2=>zAx w g b ds B2 S2
   |.bk B2 S2=>.nx B2 S2
   |r=>r
  |.bad=>.bad
  | .er _ _=>.bad)else .bad
noncomputable def sFor(it:CI)(g:G)(b:CS):CS:=fun B S=>match it B S with
 |.ok (items,w) S1=>zAx w g b items B S1
 |.bad=>.bad
 |.er _ _=>.bad
theorem zWN{items:List D}{w:zD5}{g:G}{cb:CS}{E:Ends}{Z:St}{JJ:It}{H0:Hp}{J0:yC}{B:Env1}{S0:zA0}(sr0:SR X.K J0 S0 H0)(re0:RE X.K H0 J0 B Z)(io:ItOk X.K JJ items w J0 H0)(p:zGX X J0 H0 E (zAx w g cb items B S0)):
  ∃W:Nat->Nat->St->Hp->Prop,(∃m,W 0 m Z H0)/\∀i m Z H,W i m Z H->(JJ.stop i H/\E.nx Z H)∨(JJ.go i H/\∃N:St->Hp->Prop,(∀Z' H',N Z' H'->∃m',m'<m/\W (i+1) m' Z' H')/\∀x H',JJ.yld i H x H'->tOfG X.K g x Z H' fun Z2 H2=>tOfS X cb { E with nx:=N,ct:=N,bk:=E.nx } Z2 H2):=by
 refine⟨λi m Z H=>i+m=items.length/\∃J B S,SR X.K J S H/\Step X.K J0 J H0 H/\RE X.K H J B Z/\zGX X J H E (zAx w g cb (items.drop i) B S),⟨items.length,by simp,J0,B,S0,sr0,Step.refl _ _ _,re0,by rw[qO6];exact p⟩,?_⟩;rintro i m Z1 H1 ⟨him,J1,B1,S1,sr1,st1,re1,p1⟩;by_cases hi:i<items.length
 ·rw[qE5 hi]at p1;unfold zAx at p1;split at p1
  ·rename_i hw;refine .inr ⟨io.go i H1 J1 S1 sr1 st1 hw hi,fun Z' H'=>i+1+(m - 1)=items.length/\∃J B S,SR X.K J S H'/\Step X.K J0 J H0 H'/\RE X.K H' J B Z'/\zGX X J H' E (zAx w g cb (items.drop (i+1)) B S),fun Z' H' z=>⟨m - 1,by omega,z⟩,λx H2 hy=>?_⟩;obtain⟨d,hd,sr2,st2,rv⟩:=io.yld i H1 J1 S1 x H2 sr1 st1 hw hi hy;have ed:items[i]=d:=by rw[qA4 hi]at hd;exact Option.some.inj hd
   rw[ed]at p1;split at p1
   ·rename_i B3 S3 h3;refine⟨J1,B1,S1,d,B3,S3,sr2,re1.up st2,rv,h3,fun Z3 H3 J3 sr3 st3 re3=>⟨J3,B3,S3,sr3,re3,?_⟩⟩;have st23:=st2.trans st3 sr3.nd;have st03:=st1.trans st23 sr3.nd;revert p1;cases cb B3 S3 with
    |nx B4 S4=>exact λp Z4 H4 J4 sr4 st4 re4=>⟨by omega,J4,B4,S4,sr4,st03.trans st4 sr4.nd,re4,p.shift (st23.trans st4 sr4.nd)⟩
    |ct B4 S4=>exact λp Z4 H4 J4 sr4 st4 re4=>⟨by omega,J4,B4,S4,sr4,st03.trans st4 sr4.nd,re4,p.shift (st23.trans st4 sr4.nd)⟩
    |bk B4 S4=>exact λp Z4 H4 J4 sr4 st4 re4=>p Z4 H4 J4 sr4 (st23.trans st4 sr4.nd) re4
    |rt d S4=>exact λp=>Yld.shift p st23
    |bad=>exact λp=>p
    |er _ _=>exact λp=>YldE.shift p st23
   ·exact False.elim p1
   ·exact False.elim p1
  ·exact False.elim p1
 ·have e:i=items.length:=by omega
  subst e;rw[qL3]at p1;unfold zAx at p1;split at p1
  ·rename_i hw;exact .inl ⟨io.stop H1 J1 S1 sr1 st1 hw,p1 Z1 H1 J1 sr1 (Step.refl _ _ _) re1⟩
  ·exact False.elim p1
theorem zUG{iter:y4}{body:List vI}{it:CI}{g:G}{cb:CS}(hp:gQ (yW X.prog X.w) X.A X.env X.xe)(hc:X.calm=true)(hi:PI X tg iter (tOfI X.K it))(hg:PG X tg (tOfG X.K g))(hb:PSs X body (tOfS X cb))
  (hs:∀x,wB iter X.env x=pure x):PS X (.For tg iter body [] pos) (tOfS X (sFor it g cb)):=(zVo hp hc hi hg hb hs).weak (by
 rintro E Z H ⟨J,B,S,sr,re,p⟩;unfold sFor at p;split at p
 ·rename_i items w S0 h0;exact⟨J,B,S,items,w,S0,sr,re,h0,λJJ H0 J0 sr0 st0 io=>zWN sr0 (re.up st0) io (p.shift st0)⟩
 ·exact False.elim p
 ·exact False.elim p)
noncomputable def zH3(c:Str):CS:=λ_ S=>.er c S
theorem zPx{x:Str}{txt:Str}{j:Nat}{np p2 cpos:Pos}(hc:X.calm=true)(hg:Gl X x)(hx:∃C,X.mg x=some (.ref C)/\ExcK X.K C)(hd:nDb x):PS X (.Raise (some (.Call (.Name x np) [.Constant (.str txt) j p2] [] cpos)) none pos) (tOfS X (zH3 x)):=by obtain⟨C,hm,hk⟩:=hx;refine(zPO hc hg hm hk zWU hd).weak ?_;rintro E Z H ⟨J,B,S,sr,re,p⟩;exact p H J sr (Step.refl _ _ _) C hm
inductive tOfX(X:Cx)(c:C)(Z:St)(H:Hp)(Q:VK):Prop
 |mk (J:yC) (B:Env1) (S:zA0) (sr:SR X.K J S H) (re:RE X.K H J B Z) (y:match c B S with|.ok d S'=>Yld X.K J H d S' Q|.er k S'=>YldE X J H k S'|.bad=>False)
noncomputable def zEM(c:C):CS:=fun B S=>match c B S with
 |.ok d S'=>.rt d S'
 |.bad=>.bad
 |.er k S'=>.er k S'
theorem zS3(he:PE X e (tOfX X ce)):PS X (.Return (some e) pos) (tOfS X (zEM ce)):=(zNj he).weak (by
 rintro E Z H ⟨J,B,S,sr,re,p⟩;refine⟨J,B,S,sr,re,?_⟩;unfold zEM at p;revert p;cases ce B S with
 |ok d S'=>exact λp=>p
 |bad=>exact λp=>p
 | er k S'=>exact λp=>p)
noncomputable def zH4(c:C):CS:=fun B S=>match c B S with
 |.ok _ S'=>.nx B S'
 |.bad=>.bad
 |.er k S'=>.er k S'
theorem zPy(he:PE X e (tOfX X ce))(hs:wQ e none pos.line X.env=pure false):PS X (.Expr e pos) (tOfS X (zH4 ce)):=(zNk he hs).weak (by
 rintro E Z H ⟨J,B,S,sr,re,p⟩;refine⟨J,B,S,sr,re,?_⟩;unfold zH4 at p;revert p;cases ce B S with
 |ok d S'=>exact λp v H1 J1 sr1 st1 r1=>p Z H1 J1 sr1 st1 (re.up st1)
 |bad=>exact λp=>p
 | er k S'=>exact λp=>p)
noncomputable def zHq(K:yQ)(mg:Str->yF)(φ:List D->M D)(n:Nat):Sp:=λvs H Q E=>vs.length=n/\∃J ds S,SR K J S H/\RVs K H J ds vs/\match φ ds S with
 |.ok d S'=>Yld K J H d S' Q
 |.er c S'=>∀H' J',SR K J' S' H'->Step K J J' H H'->∀C,mg c=some (.ref C)->E (.ref C) none H'
 |.bad=>False
theorem zQ5{φ:List D->M D}{n:Nat}{ca':CA}(hn:∀ds S,φ ds S≠.bad->ds.length=n):∀Z H Q,tOf X.K (cApp φ ca') Z H Q->zPt (zHq X.K X.mg φ n) [] E0 (tOfA X.K ca') Z H Q:=by rintro Z H Q ⟨J,B,S,d,S',sr,re,e,y⟩;obtain⟨xs,S1,e1,e⟩:=zA7 e;refine⟨J,B,S,xs,S1,sr,re,e1,λvs H1 J1 sr1 st1 r1=>?_⟩;rw[qG1];refine⟨by rw[<- r1.len];exact hn _ S1 (by rw[e];exact λz=>by cases z),J1,xs,S1,sr1,r1,?_⟩;rw[e];exact y.shift st1
noncomputable def zB1(φ:List D->M D)(ca:CA):C:=fun B S=>match ca B S with
 |.ok xs S1=>φ xs S1
 |_=>.bad
theorem zFs{φ:List D->M D}{n:Nat}{ca':CA}(hn:∀ds S,φ ds S≠.bad->ds.length=n):∀Z H Q,tOfX X (zB1 φ ca') Z H Q->zPt (zHq X.K X.mg φ n) [] (EX X) (tOfA X.K ca') Z H Q:=by
 rintro Z H Q ⟨J,B,S,sr,re,y⟩;unfold zB1 at y;cases h:ca' B S with
 |bad=>rw[h]at y;exact y.elim
 |er c S'=>rw[h]at y;exact y.elim
 |ok xs S1 =>
  rw[h]at y;refine⟨J,B,S,xs,S1,sr,re,h,λvs H1 J1 sr1 st1 r1=>?_⟩;rw[qG1];dsimp only at y;refine⟨by rw[<- r1.len];exact hn _ S1 (λz=>by rw[z]at y;exact y),J1,xs,S1,sr1,r1,?_⟩;revert y;cases φ xs S1 with
  |ok d S'=>exact λy=>Yld.shift y st1
  |bad=>exact λy=>y
  |er c S'=>exact λy=>YldE.shift y st1
structure zEE(P:y7)(w:jD)(K:yQ)(mg:Str->yF)(base:jC)(x:Str)(ps:yH)(k:Nat)(sp:Sp):Prop where
 ex:∃f fd,FnOk P w K mg base (CX1 P w) k f fd ps sp/\zEm K fd ps []/\lT K (.ref f)=true/\mg x=some (.ref f)
theorem zFc{x:Str}{ps:yH}{k k':Nat}{sp:Sp}{E:XK}{e:y4}{es:yE}{t:TA}{p:Pos}(C:zEE X.prog X.w X.K X.mg X.base x ps k sp)(hr:Room k' X.A)(hg:Gl X x)(hx:zHj (CX1 X.prog X.w) X E)(ha:PA X (e::es) t)(hk:k<=k')(hdb:nDb x)
  (h1:jF (e::es) X.env=(false,vL e X.env)::jF es X.env) (h2:(wM pos (jF es X.env)).any (·.1)=false) :
  PE X (.Call (.Name x p) (e::es) [] pos) (zPt sp [] E t):=by obtain⟨f,fd,F,hb,hkp,hm⟩:=C.ex;exact zSU (hdb:=hdb) (he:=h1) (hpl:=h2) F (hr.mono hk) hg hm hkp hb .nil hx ha
theorem zYF:zHj (CX1 X.prog X.w) X E0:=λ_ _ _ _ _ _ _ h=>by obtain⟨_,_,_,_,_,_,_,_,_,_,_,_,_,_,z⟩:=h;exact z.elim
end
section
variable {X:Cx}{tg e:y4}{ce:C}{pos:Pos}
noncomputable def kD:Key->D
 |.inl i=>.int i
 |.inr x=>.str x
noncomputable def iSeq(c:C):CI:=fun B=>bnd (c B) λx S=>match x with
 |.tup xs=>.ok (xs,[]) S
 |.lst n=>match zA3 S n with
  |some xs=>.ok (xs,[(n,xs)]) S
  |none=>.bad
 |.dct n=>match S[n]? with
  |some (.dk kvs)=>.ok (kvs.map λp=>kD p.1,[]) (S.set n (.fk kvs))
  |some (.fk kvs)=>.ok (kvs.map λp=>kD p.1,[]) S
  |_=>.bad
 |_=>.bad
theorem zWy{K:yQ}{H0:Hp}{J0:yC}{a:yR}{xs:List D}{vs:List V}(q:SqT K H0 a vs)(r:RVs K H0 J0 xs vs):ItOk K (Itt K a) xs [] J0 H0 where
 go:=λi H J S sr st _ hi=>by obtain⟨v,e,_⟩:=r.get (qA4 hi);exact⟨vs,v,st.tk.t _ _ q,e⟩
 yld:=λi H J S x H' sr st _ hi y=>by obtain⟨rfl,y⟩:=y;obtain⟨v,e,rv⟩:=r.get (qA4 hi);have:=y vs (st.tk.t _ _ q);rw[e]at this;cases this;exact⟨xs[i],qA4 hi,sr,Step.refl _ _ _,RV.up st.tk st.ext _ _ rv⟩
 stop:=λH J S sr st _=>⟨vs,st.tk.t _ _ q,by rw[r.len];exact qA6 _⟩
theorem zWz{K:yQ}{H0:Hp}{J0:yC}{a:yR}{n:Nat}{xs:List D}(hm:J0[n]?=some a):ItOk K (Itl K a) xs [(n,xs)] J0 H0 where
 go:=λi H J S sr st w hi=>by obtain⟨vs,q,r⟩:=sr.sq (st.at hm) (w (n,xs) (by simp));obtain⟨v,e,_⟩:=r.get (qA4 hi);exact⟨vs,v,q,e⟩
 yld:=λi H J S x H' sr st w hi y=>by obtain⟨rfl,y⟩:=y;obtain⟨vs,q,r⟩:=sr.sq (st.at hm) (w (n,xs) (by simp));obtain⟨v,e,rv⟩:=r.get (qA4 hi);have:=y vs q;rw[e]at this;cases this;exact⟨xs[i],qA4 hi,sr,Step.refl _ _ _,rv⟩
 stop:=λH J S sr st w=>by obtain⟨vs,q,r⟩:=sr.sq (st.at hm) (w (n,xs) (by simp));exact⟨vs,q,by rw[r.len];exact qA6 _⟩
theorem zWA{K:yQ}{H0:Hp}{J0:yC}{a:yR}{o:Obj}{ws:List (Key×V)}{kvs:List (Key×D)}(q:H0 a=some (.frz o (.dK ws)))(e:kvs.map (·.1)=ws.map (·.1)):ItOk K (ItK a o) (kvs.map λp=>kD p.1) [] J0 H0 where
 go:=λi H J S sr st _ hi=>⟨ws,st.tk.z _ _ _ q,by
  have:=congrArg qK5 e;simp at this hi;omega⟩
 yld:=λi H J S x H' sr st _ hi y=>by
  obtain⟨rfl,y⟩:=y;obtain⟨p,hp,rfl⟩:=y ws (st.tk.z _ _ _ q);have h1:(kvs.map (·.1))[i]?=some p.1:=by rw[e,qC0,hp];rfl
  have h2:(kvs.map λp=>kD p.1)[i]?=some (kD p.1):=by
   have:(kvs.map λp=>kD p.1)=(kvs.map (·.1)).map kD:=by rw[qD2];rfl
   rw[this,qC0,h1];rfl
  refine⟨kD p.1,h2,sr,Step.refl _ _ _,?_⟩;cases p.1<;>(unfold kD RV;rfl)
 stop:=λH J S sr st _=>⟨ws,st.tk.z _ _ _ q,by
  have:=congrArg qK5 e;simp at this;simp;omega⟩
theorem zVq{tl:TE}(hl:PE X e tl):PI X tg e (fun Z H R=>tl Z H λx H1=>∃a,x=.ref a/\((∃xs,SqL X.K H1 a xs)/\R (Itl X.K a) H1∨(∃xs,SqT X.K H1 a xs)/\R (Itt X.K a) H1
  ∨ (∃kvs,((H1 a=some (.dK kvs)/\∀o,R (ItK a o) (upd H1 a (.frz o (.dK kvs))))∨∃o,H1 a=some (.frz o (.dK kvs))/\R (ItK a o) H1))
  ∨ False)):=by
 intro pins s Z H R I h;refine thn (hl pins s Z H _ I h) λv s1 ⟨x,H1,I1,r1,q1⟩=>?_;obtain⟨a,e,q⟩:=q1;subst e;cases r1;rcases q with⟨⟨xs,hq⟩,q⟩| ⟨⟨xs,hq⟩,q⟩| q
 ·obtain⟨its,rv,p,hz⟩:=I1.list hq;refine vF p.isList ?_;refine⟨s1.heap.objs.size,[s1.heap.objs.size],_,_,H1,rfl,I1.kept (t':=s1.toks) λb o e=>qA5 _ e,zMJ a _,⟨_,qB4 _ rfl,rfl,rfl⟩,λb hb=>?_,q⟩;have e:b=s1.heap.objs.size:=by simpa using hb
  subst e;exact I1.fpOk (qA6 _) (I1.hok.fresh (qA6 _))
 ·obtain⟨its,rv,p,hz⟩:=I1.tuple hq;refine vB (show s1.heap.IsTuple a its.toArray from p) ?_;refine⟨s1.heap.objs.size,[s1.heap.objs.size],_,_,H1,rfl,I1.kept (t':=s1.toks) λb o e=>qA5 _ e,zLO a _,⟨_,qB4 _ rfl,rfl,rfl⟩,λb hb=>?_,q⟩;have e:b=s1.heap.objs.size:=by simpa using hb
  subst e;exact I1.fpOk (qA6 _) (I1.hok.fresh (qA6 _))
 ·skip
  rcases q with q|q
  ·exact zZx I1 q
  exact q.elim
theorem zUO(he:PE X e (tOf X.K ce)):PI X tg e (tOfI X.K (iSeq ce)):=(zVq he).weak (by
 rintro Z H R ⟨J,B,S,items,w,S',sr,re,e,y⟩;obtain⟨x,S1,e1,e⟩:=zA7 e;refine⟨J,B,S,x,S1,sr,re,e1,λv H1 J1 sr1 st1 r1=>?_⟩
 try dsimp only at e
 split at e
 ·rename_i xs;cases e;have r1':=r1;unfold RV at r1';obtain⟨a,vs,rfl,q,rr⟩:=r1';exact⟨a,rfl,.inr (.inl ⟨⟨vs,SqT.of q⟩,y _ H1 J1 sr1 st1 (zWy (SqT.of q) rr)⟩)⟩
 ·rename_i n;split at e
  ·rename_i xs hx;cases e;unfold RV at r1;obtain⟨a,rfl,hm⟩:=r1;obtain⟨vs,q,rr⟩:=sr1.sq hm hx;exact⟨a,rfl,.inl ⟨⟨vs,q⟩,y _ H1 J1 sr1 st1 (zWz hm)⟩⟩
  ·cases e
 ·rename_i n;unfold RV at r1;obtain⟨a,rfl,hm⟩:=r1;have fin:(∃kvs,((H1 a=some (.dK kvs)/\∀o,R (ItK a o) (upd H1 a (.frz o (.dK kvs))))∨∃o,H1 a=some (.frz o (.dK kvs))/\R (ItK a o) H1)):=by
   split at e
   ·rename_i kvs ho;cases e;obtain⟨ws,hw,rr⟩:=sr1.get hm ho;refine⟨ws,.inl ⟨hw,λo=>?_⟩⟩;have tk:TF X.K H1 (upd H1 a (.frz o (.dK ws))):=zH0 hw (λ_ z=>by cases z) (λ_ _ z=>by cases z);obtain⟨s1,s2⟩:=sr1.put (o:=.frz o (.dK ws)) (o':=.fk kvs) hm hw (λ_ z=>by cases z) (λ_ _ z=>by cases z) ⟨_,_,zAc,rr.up tk ⟨[],by simp⟩⟩;exact y _ _ J1 s1 (st1.trans s2 s1.nd) (zWA zAc rr.1)
   ·rename_i kvs ho;cases e;obtain⟨o,ws,hw,rr⟩:=sr1.get hm ho;exact⟨ws,.inr ⟨o,hw,y _ H1 J1 sr1 st1 (zWA hw rr.1)⟩⟩
   ·cases e
  first
  |exact⟨a,rfl,.inr (.inr (.inr (.inl fin)))⟩
  |exact⟨a,rfl,.inr (.inr (.inl fin))⟩
 ·cases e)
noncomputable def upD(lo:Int)(n:Nat):List D:=(List.range n).map λk=>D.int (lo+(k:Nat))
theorem zRp{K:yQ}{H0:Hp}{J0:yC}{lo:Int}{n:Nat}:ItOk K (Itr lo n) (upD lo n) [] J0 H0 where
 go:=λi H J S sr st _ hi=>by unfold upD at hi;simp at hi;exact hi
 yld:=λi H J S x H' sr st _ hi y=>by
  obtain⟨rfl,rfl⟩:=y;have hi':i<n:=by unfold upD at hi;simp at hi;exact hi
  exact⟨.int (lo+i),by unfold upD;rw[qC0,qK1 hi'];rfl,sr,Step.refl _ _ _,zAy⟩
 stop:=λH J S sr st _=>by show n<=(upD lo n).length;unfold upD;simp
noncomputable def zBw(a:CA):CI:=fun B=>bnd (a B) λxs S=>match xs with
 |[.int j]=>if -4611686018427387904<=j/\j<4611686018427387904 then .ok (upD 0 j.toNat,[]) S else .bad
 |_=>.bad
noncomputable def zHP(a:CA):CI:=fun B=>bnd (a B) λxs S=>match xs with
 |[.int i,.int j]=>if -4611686018427387904<=i/\i<4611686018427387904/\-4611686018427387904<=j/\j<4611686018427387904 then .ok (upD i (j - i).toNat,[]) S else .bad
 |_=>.bad
variable {a b:y4}{ca:CA}
theorem zN4{p:Pos}(h:PI X tg (.Call (.Name "range" p) [a] [] pos) (zWD (tOfA X.K ca))):PI X tg (.Call (.Name "range" p) [a] [] pos) (tOfI X.K (zBw ca)):=h.weak (by
 rintro Z H R ⟨J,B,S,items,w,S',sr,re,e,y⟩;obtain⟨xs,S1,e1,e⟩:=zA7 e;refine⟨J,B,S,xs,S1,sr,re,e1,λvs H1 J1 sr1 st1 r1=>?_⟩
 try dsimp only at e
 split at e
 ·rename_i j;split at e
  ·rename_i hl;cases e;obtain⟨v,rfl,r2⟩:=r1.one;unfold RV at r2;subst r2;exact⟨j,rfl,hl.1,hl.2,y _ H1 J1 sr1 st1 zRp⟩
  ·cases e
 ·cases e)
theorem zN3{p:Pos}(h:PI X tg (.Call (.Name "range" p) [a,b] [] pos) (zWC (tOfA X.K ca))):PI X tg (.Call (.Name "range" p) [a,b] [] pos) (tOfI X.K (zHP ca)):=h.weak (by
 rintro Z H R ⟨J,B,S,items,w,S',sr,re,e,y⟩;obtain⟨xs,S1,e1,e⟩:=zA7 e;refine⟨J,B,S,xs,S1,sr,re,e1,λvs H1 J1 sr1 st1 r1=>?_⟩
 try dsimp only at e
 split at e
 ·rename_i i j;split at e
  ·rename_i hl;cases e;obtain⟨v,u,rfl,r2,r3⟩:=r1.two;unfold RV at r2 r3;subst r2 r3;exact⟨i,j,rfl,hl,y _ H1 J1 sr1 st1 zRp⟩
  ·cases e
 ·cases e)
theorem zMG{α β:Type}{xs:List α}{ys:List β}{i:Nat}(h:i<(xs.zip ys).length):∃x y,xs[i]?=some x/\ys[i]?=some y/\(xs.zip ys)[i]?=some (x,y):=by
 rw[qN8]at h;have h1:i<xs.length:=by omega
 have h2:i<ys.length:=by omega
 exact⟨xs[i],ys[i],qA4 h1,qA4 h2,by rw[qM2];exact⟨qA4 h1,qA4 h2⟩⟩
noncomputable def zipD(xs ys:List D):List D:=(xs.zip ys).map λp=>.tup [p.1,p.2]
noncomputable def zsAt(S:zA0):D->Option (List D)
 |.tup xs=>some xs
 |.lst n=>zA3 S n
 |_=>none
noncomputable def zDc(x:D)(xs:List D):zD5:=match x with
 |.lst n=>[(n,xs)]
 |_=>[]
theorem zRb{K:yQ}{J:yC}{S:zA0}{H:Hp}{x:D}{v:V}{xs:List D}(sr:SR K J S H)(r:RV K H J x v)(ho:zsAt S x=some xs):∃a b,v=.ref a/\(∃vs,SqX b K H a vs) /\
  ∀H1 J1 S1,SR K J1 S1 H1->Step K J J1 H H1->okW (zDc x xs) S1->∃vs,SqX b K H1 a vs/\RVs K H1 J1 xs vs:=by
 unfold zsAt at ho;split at ho
 ·rename_i ys;cases ho;unfold RV at r;obtain⟨a,vs,rfl,q,rr⟩:=r;exact⟨a,true,rfl,⟨vs,SqT.of q⟩,λH1 J1 S1 sr1 st1 _=>⟨vs,st1.tk.t _ _ (SqT.of q),RVs.up st1.tk st1.ext _ _ rr⟩⟩
 ·rename_i n;unfold RV at r;obtain⟨a,rfl,hm⟩:=r;obtain⟨vs,q,rr⟩:=sr.sq hm ho;exact⟨a,false,rfl,⟨vs,q⟩,λH1 J1 S1 sr1 st1 w=>sr1.sq (st1.at hm) (w (n,xs) (by simp[zDc]))⟩
 ·cases ho
theorem zEs{w1 w2:zD5}{S:zA0}:okW (w1++w2) S↔okW w1 S/\okW w2 S:=by unfold okW;simp only[qB9];exact⟨λh=>⟨λp hp=>h p (.inl hp),λp hp=>h p (.inr hp)⟩,λh p hp=>hp.elim (h.1 p) (h.2 p)⟩
theorem zTt{K:yQ}{H0:Hp}{J0:yC}{a b:yR}{b1 b2:Bool}{w1 w2:zD5}{xs ys:List D}
  (g1:∀H1 J1 S1,SR K J1 S1 H1->Step K J0 J1 H0 H1->okW w1 S1->∃vs,SqX b1 K H1 a vs/\RVs K H1 J1 xs vs) (g2:∀H1 J1 S1,SR K J1 S1 H1->Step K J0 J1 H0 H1->okW w2 S1->∃vs,SqX b2 K H1 b vs/\RVs K H1 J1 ys vs) :
  ItOk K (ItzX b1 b2 K a b) (zipD xs ys) (w1++w2) J0 H0 where
 go:=λi H J S sr st w hi=>by obtain⟨vs,q,r⟩:=g1 H J S sr st (zEs.mp w).1;obtain⟨us,q2,r2⟩:=g2 H J S sr st (zEs.mp w).2;obtain⟨x,y,e1,e2,_⟩:=zMG (xs:=xs) (ys:=ys) (i:=i) (by unfold zipD at hi;simpa using hi);obtain⟨v,g1,_⟩:=r.get e1;obtain⟨u,g2,_⟩:=r2.get e2;exact⟨vs,us,v,u,q,q2,g1,g2⟩
 yld:=λi H J S x H' sr st w hi y=>by obtain⟨T,hT,rfl,y⟩:=y;obtain⟨vs,q,r⟩:=g1 H J S sr st (zEs.mp w).1;obtain⟨us,q2,r2⟩:=g2 H J S sr st (zEs.mp w).2;obtain⟨x,y',e1,e2,e3⟩:=zMG (xs:=xs) (ys:=ys) (i:=i) (by unfold zipD at hi;simpa using hi);obtain⟨v,g1,rv⟩:=r.get e1;obtain⟨u,g2,ru⟩:=r2.get e2;have:=y vs us v u q q2 g1 g2;subst this;obtain⟨s1,s2,s3⟩:=zHB (p:=T) sr hT (.cons rv (.cons ru .nil));exact⟨.tup [x,y'],by unfold zipD;rw[qC0,e3];rfl,s1,s2,s3⟩
 stop:=λH J S sr st w=>by obtain⟨vs,q,r⟩:=g1 H J S sr st (zEs.mp w).1;obtain⟨us,q2,r2⟩:=g2 H J S sr st (zEs.mp w).2;exact⟨vs,us,q,q2,by unfold zipD;rw[qA8,qN8,r.len,r2.len]⟩
noncomputable def zKl(a:CA):CI:=fun B=>bnd (a B) λxs S=>match xs with
 |[x,y]=>match zsAt S x,zsAt S y with
  |some ys,some zs=>.ok (zipD ys zs,zDc x ys++zDc y zs) S
  |_,_=>.bad
 |_=>.bad
theorem zUN{elts:yE}{k:Nat}{tpos p:Pos}(h:PI X (.Tuple elts k tpos) (.Call (.Name "zip" p) [a,b] [] pos) (zWB X.K (tOfA X.K ca))):PI X (.Tuple elts k tpos) (.Call (.Name "zip" p) [a,b] [] pos) (tOfI X.K (zKl ca)):=h.weak (by
 rintro Z H R ⟨J,B,S,items,w,S',sr,re,e,y⟩;obtain⟨xs,S1,e1,e⟩:=zA7 e;refine⟨J,B,S,xs,S1,sr,re,e1,λvs H1 J1 sr1 st1 r1=>?_⟩
 try dsimp only at e
 split at e
 ·rename_i x1 x2;split at e
  ·rename_i ys zs h1 h2;cases e;obtain⟨v,u,rfl,r2,r3⟩:=r1.two;obtain⟨a,b1,rfl,q1,g1⟩:=zRb sr1 r2 h1;obtain⟨b,b2,rfl,q2,g2⟩:=zRb sr1 r3 h2;exact⟨a,b,b1,b2,rfl,q1,q2,y _ H1 J1 sr1 st1 (zTt g1 g2)⟩
  ·cases e
 ·cases e)
noncomputable def zEY(xs:List D):List D:=((List.range xs.length).zip xs).map λp=>.tup [.int (p.1:Nat),p.2]
theorem zI3{xs:List D}{i:Nat}(h:i<xs.length):(zEY xs)[i]?=some (.tup [.int (i:Nat),xs[i]]):=by
 unfold zEY;rw[qC0];have:((List.range xs.length).zip xs)[i]?=some (i,xs[i]):=by rw[qM2];exact⟨qK1 h,qA4 h⟩
 rw[this];rfl
theorem zD0(xs:List D):(zEY xs).length=xs.length:=by unfold zEY;simp
theorem zQq{K:yQ}{H0:Hp}{J0:yC}{a:yR}{xs:List D}{vs:List V}(q:SqT K H0 a vs)(r:RVs K H0 J0 xs vs):ItOk K (IteX true K a) (zEY xs) [] J0 H0 where
 go:=λi H J S sr st _ hi=>by rw[zD0]at hi;obtain⟨v,e,_⟩:=r.get (qA4 hi);exact⟨vs,v,st.tk.t _ _ q,e⟩
 yld:=λi H J S x H' sr st _ hi y=>by rw[zD0]at hi;obtain⟨T,hT,rfl,y⟩:=y;obtain⟨v,e,rv⟩:=r.get (qA4 hi);have:=y vs v (st.tk.t _ _ q) e;subst this;obtain⟨s1,s2,s3⟩:=zHB (p:=T) sr hT (.cons zAy (.cons (RV.up st.tk st.ext _ _ rv) .nil));exact⟨_,zI3 hi,s1,s2,s3⟩
 stop:=λH J S sr st _=>⟨vs,st.tk.t _ _ q,by rw[zD0,r.len]⟩
theorem zQr{K:yQ}{H0:Hp}{J0:yC}{a:yR}{n:Nat}{xs:List D}(hm:J0[n]?=some a):ItOk K (IteX false K a) (zEY xs) [(n,xs)] J0 H0 where
 go:=λi H J S sr st w hi=>by rw[zD0]at hi;obtain⟨vs,q,r⟩:=sr.sq (st.at hm) (w (n,xs) (by simp));obtain⟨v,e,_⟩:=r.get (qA4 hi);exact⟨vs,v,q,e⟩
 yld:=λi H J S x H' sr st w hi y=>by rw[zD0]at hi;obtain⟨T,hT,rfl,y⟩:=y;obtain⟨vs,q,r⟩:=sr.sq (st.at hm) (w (n,xs) (by simp));obtain⟨v,e,rv⟩:=r.get (qA4 hi);have:=y vs v q e;subst this;obtain⟨s1,s2,s3⟩:=zHB (p:=T) sr hT (.cons zAy (.cons rv .nil));exact⟨_,zI3 hi,s1,s2,s3⟩
 stop:=λH J S sr st w=>by obtain⟨vs,q,r⟩:=sr.sq (st.at hm) (w (n,xs) (by simp));exact⟨vs,q,by rw[zD0,r.len]⟩
noncomputable def zLs(a:CA):CI:=fun B=>bnd (a B) λxs S=>match xs with
 |[.tup ys]=>.ok (zEY ys,[]) S
 |[.lst n]=>match zA3 S n with
  |some ys=>.ok (zEY ys,[(n,ys)]) S
  |none=>.bad
 |_=>.bad
theorem zSe{elts:yE}{k:Nat}{tpos p:Pos}(h:PI X (.Tuple elts k tpos) (.Call (.Name "enumerate" p) [a] [] pos) (zRs X.K (tOfA X.K ca))):PI X (.Tuple elts k tpos) (.Call (.Name "enumerate" p) [a] [] pos) (tOfI X.K (zLs ca)):=h.weak (by
 rintro Z H R ⟨J,B,S,items,w,S',sr,re,e,y⟩;obtain⟨xs,S1,e1,e⟩:=zA7 e;refine⟨J,B,S,xs,S1,sr,re,e1,λvs H1 J1 sr1 st1 r1=>?_⟩
 try dsimp only at e
 split at e
 ·rename_i ys;cases e;obtain⟨v,rfl,r2⟩:=r1.one;unfold RV at r2;obtain⟨a,vs,rfl,q,rr⟩:=r2;exact⟨a,rfl,.inl ⟨⟨vs,SqT.of q⟩,y _ H1 J1 sr1 st1 (zQq (SqT.of q) rr)⟩⟩
 ·rename_i n;split at e
  ·rename_i ys ho;cases e;obtain⟨v,rfl,r2⟩:=r1.one;unfold RV at r2;obtain⟨a,rfl,hm⟩:=r2;obtain⟨vs,q,_⟩:=sr1.sq hm ho;exact⟨a,rfl,.inr ⟨⟨vs,q⟩,y _ H1 J1 sr1 st1 (zQr hm)⟩⟩
  ·cases e
 ·cases e)
noncomputable def stE(k:Nat)(js:List Nat)(B:Env1):Env1:=qE6 k none++js.map λj=>(B[j]?).getD none
theorem RE.comp{K:yQ}{H:Hp}{J:yC}{B:Env1}{Z:St}(re:RE K H J B Z)(k:Nat)(js:List Nat):RE K H J (stE k js B) (stC k js Z):=by
 refine⟨by unfold stE stC;simp,λi d e=>?_⟩;unfold stE at e;unfold stC;by_cases hi:i<k
 ·rw[qA7 (by simpa using hi),qG6]at e;simp[hi]at e
 ·rw[qA0 (by simpa using hi),qH6,qC0]at e;rw[qA0 (by simpa using hi),qH6,qC0];cases q:js[i - k]? with
  |none=>rw[q]at e;simp at e
  |some j =>
   rw[q]at e;simp only[qR5,Option.some.injEq]at e;cases q2:B[j]? with
   |none=>rw[q2]at e;simp at e
   |some z =>
    rw[q2]at e;simp at e;subst e;obtain⟨v,e1,r1⟩:=re.2 j d q2;exact⟨v,by simp[e1],r1⟩
inductive Tgt where
 |one|many (k:Nat)
noncomputable def zN6:Env1->Nat->List D->Env1
 |B,_,[]=>B
 |B,s,x::xs=>zN6 (B.set s (some x)) (s+1) xs
noncomputable def zGN(t:Tgt)(d:D)(B:Env1):Option Env1:=match t with
 |.one=>some (B.set 0 (some d))
 |.many k=>match d with
  |.tup xs=>if xs.length=k then some (zN6 B 0 xs)else none
  |_=>none
noncomputable def zLv:Nat->Nat->TGs
 |_,0=>gNil
 |s,n+1=>zWK (zHU s) (zLv (s+1) n)
noncomputable def tgtK:Tgt->Nat
 |.one=>1
 |.many k=>k
noncomputable def tOfT'(K:yQ):Tgt->TG
 |.one=>zHU 0
 |.many k=>gTup K k (zLv 0 k)
theorem zKT{k:Nat}{js:List Nat}{Z Z1:St}(h:zJT (stC k js Z) Z1){i:Nat}(hi:i<k)(v:V):zJT (stC k js Z) (Z1.set i (some v)):=by
 refine⟨by rw[qJ1];exact h.1,λj u e=>?_⟩;by_cases hj:i=j
 ·subst hj;obtain⟨_,h1,_⟩:=zJZ e;omega
 ·rw[qD9 hj];exact h.2 j u e
theorem zIy(Z:St):zJT Z Z:=⟨rfl,λ_ _ h=>h⟩
theorem zLd{K:yQ}{H:Hp}{J:yC}{k:Nat}{js:List Nat}{Z:St}{Q:St->Hp->Prop}:∀{n s:Nat}{xs:List D}{vs:List V}{B1:Env1}{Z1:St},RVs K H J xs vs->xs.length=n->s+n<=k->RE K H J B1 Z1->zJT (stC k js Z) Z1->(∀Z4,RE K H J (zN6 B1 s xs) Z4->zJT (stC k js Z) Z4->Q Z4 H)->zLv s n vs Z1 H Q
 |0,s,xs,vs,B1,Z1,r,hl,hk,re,w,h=>by have:xs=[]:=qI5.mp hl;subst this;exact⟨r.nil_inv,h Z1 re w⟩
 |n+1,s,[],vs,B1,Z1,r,hl,hk,re,w,h=>by simp at hl
 |n+1,s,x::xs,vs,B1,Z1,r,hl,hk,re,w,h=>by obtain⟨v,us,rfl,r1,r2⟩:=r.cons_inv;exact⟨v,us,rfl,zLd r2 (by simpa using hl) (by omega) (re.set r1 s) (zKT w (by omega) v) h⟩
theorem zU4{K:yQ}{H:Hp}{J:yC}{k:Nat}{js:List Nat}{Z:St}{B B4:Env1}{t:Tgt}{d:D}{x:V}{Q:St->Hp->Prop}(ht:tgtK t<=k)(re:RE K H J (stE k js B) (stC k js Z))(rv:RV K H J d x)(e:zGN t d (stE k js B)=some B4)(h:∀Z4,RE K H J B4 Z4->zJT (stC k js Z) Z4->Q Z4 H)(h1:1<=k):tOfT' K t x (stC k js Z) H Q:=by
 cases t with
 |one =>
  cases e;exact h _ (re.set rv 0) (zKT (zIy _) h1 x)
 |many n =>
  unfold zGN at e;dsimp only at e;split at e
  ·rename_i xs;split at e
   ·rename_i hl;cases e;unfold RV at rv;obtain⟨p,vs,rfl,q,rr⟩:=rv;exact⟨p,vs,rfl,SqT.of q,by rw[<- rr.len];exact hl,zLd rr hl (by have:n<=k:=ht;omega) re (zIy _) h⟩
   ·cases e
  ·cases e
open Classical in
noncomputable def zAW(w:zD5)(t:Tgt)(tc:CT)(c:C)(B0:Env1):List D->M (List D)
 |[]=>λS=>if okW w S then .ok [] S else .bad
 | d::ds=>λS=>if okW w S then(match zGN t d B0 with
  |some B1=>bnd (tc B1) (λk=>if k then bnd (c B1) λy=>bnd (zAW w t tc c B0 ds) λys=>ret (y::ys)else zAW w t tc c B0 ds) S
  | none=>.bad)else .bad
noncomputable def zCs(it:CI)(k:Nat)(js:List Nat)(t:Tgt)(tc:CT)(c:C):C:=fun B=>bnd (it B) λp S=>if p.1.length<lim then
  bnd (zAW p.2 t tc c (stE k js B) p.1) (λys S'=>.ok (.lst S'.length) (S'++[.lst ys])) S
 else .bad
theorem SR.acc{K:yQ}{H:Hp}{J:yC}{S:zA0}{A:yR}{us ws:List V}(sr:SR K J S H)(hA:A∉J)(h:H A=some (.lst us)):SR K J S (upd H A (.lst ws)) :=
 ⟨sr.len,sr.nd,λn a o e1 e2=>(sr.obj n a o e1 e2).up (zKX h) ⟨[],by simp⟩ (zA6 λz=>hA (z▸qB5 e1))⟩
theorem Step.acc{K:yQ}{H0 H:Hp}{J0 J:yC}{A:yR}{us ws:List V}(st:Step K J0 J H0 H)(h0:H0 A=none)(h:H A=some (.lst us)):Step K J0 J H0 (upd H A (.lst ws)) :=
 ⟨st.pre,λb o hb e=>by rw[zA6 (zAH e h0)];exact st.fr b o hb e,st.tk.trans (zKX h)⟩
theorem SR.adopt{K:yQ}{H:Hp}{J:yC}{S:zA0}{A:yR}{us:List V}{acc:List D}(sr:SR K J S H)(hA:A∉J)(h:H A=some (.lst us))(r:RVs K H J acc us):SR K (J++[A]) (S++[.lst acc]) H:=by
 refine⟨by simp[sr.len],?_,λn a u e1 e2=>?_⟩
 ·rw[qI1];refine⟨sr.nd,by simp,λa ha b hb=>?_⟩;simp at hb;subst hb;exact λz=>hA (z▸ha)
 ·by_cases hn:n<J.length
  ·rw[qA7 hn]at e1;rw[qA7 (by rw[<- sr.len];exact hn)]at e2;exact(sr.obj n a u e1 e2).up (TF.refl _ _) ⟨[A],rfl⟩ rfl
  ·rw[qA0 (by omega)]at e1;rw[qA0 (by rw[<- sr.len];omega)]at e2;have h1:n - J.length=0:=by have:=(qA3.mp e1).1;simp at this;omega
   rw[h1]at e1;rw[<- sr.len,h1]at e2;simp at e1 e2;subst e1 e2;exact⟨us,h,RVs.up (TF.refl _ _) ⟨[A],rfl⟩ _ _ r⟩
theorem Step.adopt{K:yQ}{H0 H:Hp}{J0 J:yC}{A:yR}(st:Step K J0 J H0 H)(h0:H0 A=none):Step K J0 (J++[A]) H0 H:=by
 obtain⟨ν,e,n⟩:=st.pre;refine⟨⟨ν++[A],by rw[e,qB6],λb hb=>?_⟩,st.fr,st.tk⟩;rcases qB9.mp hb with h|h
 ·exact n b h
 ·simp at h;subst h;exact h0
theorem Step.notIn{K:yQ}{H H':Hp}{J J':yC}{A:yR}{o:HO}(st:Step K J J' H H')(hA:A∉J)(h:H A=some o):A∉J':=λz=>by
 obtain⟨ν,rfl,n⟩:=st.pre;rcases qB9.mp z with q|q
 ·exact hA q
 ·rw[n A q]at h;cases h
inductive zZM(K:yQ)(items:List D)(w:zD5)(t:Tgt)(tc:CT)(c:C)(B0:Env1)(J0:yC)(H0:Hp)(A:yR)(S1:zA0)(ys:List D)(i m:Nat)(us:List V)(H2:Hp):Prop
 |mk (him:i+m=items.length) (hus:us.length<=i) (J2:yC) (S2:zA0) (acc rest:List D) (sr:SR K J2 S2 H2) (st:Step K J0 J2 H0 H2) (nA:A∉J2) (hA:H2 A=some (.lst us)) (ra:RVs K H2 J2 acc us) (el:zAW w t tc c B0 (items.drop i) S2=.ok rest S1) (eys:acc++rest=ys)
theorem zNF{Z:St}{H:Hp}{Q:VK}{it:CI}{k:Nat}{js:List Nat}{t:Tgt}{tc:CT}{c:C}(ht:tgtK t<=k)(h1:1<=k)(h:tOf X.K (zCs it k js t tc c) Z H Q):zS0 (tOfI X.K it) k js (tOfT' X.K t) (tOfT X.K tc) (tOf X.K c) Z H Q:=by
 obtain⟨J,B,S,d,S',sr,re,e,y⟩:=h;obtain⟨⟨items,w⟩,S0,e0,f0⟩:=zA7 e;dsimp only at f0;split at f0
 ·rename_i hlim;obtain⟨ys,S1,e1,f1⟩:=zA7 f0;cases f1;refine⟨J,B,S,items,w,S0,sr,re,e0,λJJ H0 J0 sr0 st0 io A hA=>?_⟩;have reC:=(re.up st0).comp k js;obtain⟨srA,stA⟩:=sr0.other (o:=.lst []) hA;have nA:A∉J0:=sr0.out hA;refine⟨zZM X.K items w t tc c (stE k js B) J0 H0 A S1 ys,
   ⟨items.length,⟨by simp,qH4 _,J0,S0,[],ys,srA,stA,nA,zAc,RVs.nil,by rw[qO6];exact e1,rfl⟩⟩,?_⟩
  rintro i m us H2 ⟨him,hus,J2,S2,acc,rest,sr2,st2,nA2,hA2,racc,el,eys⟩;refine And.intro hA2 ?_;by_cases hi:i<items.length
  ·rw[qE5 hi]at el;unfold zAW at el;split at el
   ·rename_i hw;refine .inr ⟨io.go i H2 J2 S2 sr2 st2 hw hi,zO0 (by omega),λx H3 hy=>?_⟩;obtain⟨d,hd,sr3,st3,rv⟩:=io.yld i H2 J2 S2 x H3 sr2 st2 hw hi hy;have ed:items[i]=d:=by rw[qA4 hi]at hd;exact Option.some.inj hd
    rw[ed]at el;have hA3:H3 A=some (.lst us):=st3.fr A _ nA2 hA2;have st03:=st2.trans st3 sr3.nd;split at el
    ·rename_i B4 h4;refine zU4 ht (reC.up st03) rv h4 (fun Z4 re4 wk=>⟨wk,?_⟩) h1;obtain⟨kb,S3,e3,f3⟩:=zA7 el;refine⟨J2,B4,S2,kb,S3,sr3,re4,e3,λH5 J5 sr5 st5=>?_⟩;have hA5:H5 A=some (.lst us):=st5.fr A _ nA2 hA3;have nA5:=st5.notIn nA2 hA3;have st05:=st03.trans st5 sr5.nd;have st25:=st3.trans st5 sr5.nd;cases kb with
     |true =>
      rw[if_pos rfl]at f3 ⊢;obtain⟨z,S4,e4,f4⟩:=zA7 f3;obtain⟨zs,S5,e5,f5⟩:=zA7 f4;obtain⟨rfl,rfl⟩:=zAq f5;refine⟨J5,B4,S3,z,S4,sr5,re4.up st5,e4,λv H6 J6 sr6 st6 rv6=>?_⟩;have hA6:H6 A=some (.lst us):=st6.fr A _ nA5 hA5;have nA6:=st6.notIn nA5 hA5;have st26:=st25.trans st6 sr6.nd;have tku:TF X.K H6 (upd H6 A (.lst (us++[v]))):=zKX hA6;refine⟨hA6,m - 1,by omega,⟨by omega,by rw[qC3];show us.length+1<=i+1;omega,J6,S4,acc++[z],zs,sr6.acc nA6 hA6,(st05.trans st6 sr6.nd).acc hA hA6,nA6,zAc,?_,e5,by rw[qB6];exact eys⟩⟩;exact RVs.up tku ⟨[],by simp⟩ _ _ ((RVs.up st26.tk st26.ext _ _ racc).append (.cons rv6 .nil))
     |false =>
      rw[if_neg qA9]at f3 ⊢;exact⟨m - 1,by omega,⟨by omega,by omega,J5,S3,acc,rest,sr5,st05,nA5,hA5,RVs.up st25.tk st25.ext _ _ racc,f3,eys⟩⟩
    ·cases el
   ·cases el
  ·have ei:i=items.length:=by omega
   subst ei;rw[qL3]at el;unfold zAW at el;split at el
   ·rename_i hw;cases el;rw[qG1]at eys;subst eys;refine .inl ⟨io.stop H2 J2 _ sr2 st2 hw,?_⟩;have hA0:H A=none:=by
     cases q:H A with
     |none=>rfl
     |some o =>
      by_cases hm:A∈J
      ·exact absurd (st0.mem hm) nA
      ·rw[st0.fr A o hm q]at hA;cases hA
    have sr3:=sr2.adopt nA2 hA2 racc;refine y (.ref A) H2 (J2++[A]) sr3 ((st0.trans st2 sr2.nd).adopt hA0) ?_;unfold RV;exact⟨A,rfl,by rw[<- sr2.len,qA0 (qA6 _),qI8];rfl⟩
   ·cases el
 ·cases f0
end
theorem zI9{pos:Pos}{a b:Int}{c cv:yU}(l:yB)(h:TriplesOk l)(e:gZ pos (l++[j8 a,j8 b,c])=some cv):gZ pos l=some cv∨cv=c:=by
 fun_induction TriplesOk l with
 |case1 =>
  right;simp only[qN9,gZ,j8]at e;split at e
  ·exact(Option.some.inj e).symm
  ·cases e
 |case2 a' t b' u x rest ih =>
  simp only[qF5,gZ]at e ⊢;split at e
  ·rename_i hc;rw[if_pos hc];exact .inl e
  ·rename_i hc;rw[if_neg hc];exact ih h e
 |case3 l h1 h2=>exact h.elim
section
variable {P:y7}{w:jD}{H:Hp}{h h':jC}{T c':yR}{ps qs:yJ}{oc:Obj}
noncomputable def Hmk(H:Hp)(T c':yR)(oc:Obj)(qs:yJ):Hp:=upd (upd H c' (.frz oc (.ext λh=>h.get? c'=some oc))) T (.tbl qs)
theorem zTy:Hmk H T c' oc qs T=some (.tbl qs):=zAc
theorem zWH(n:c'≠T):Hmk H T c' oc qs c'=some (.frz oc (.ext λh=>h.get? c'=some oc)):=by unfold Hmk;rw[zA6 n,zAc]
theorem zGt{b:yR}(n1:b≠T)(n2:b≠c'):Hmk H T c' oc qs b=H b:=by unfold Hmk;rw[zA6 n1,zA6 n2]
theorem zY2{fs:yC}(hT:H T=some (.tbl ps))(hs:h.objs.size<=c')(hc:H c'=none)(k:∀b o,b≠T->h.get? b=some o->h'.get? b=some o)(hT':∃o,h'.get? T=some o)(hq:∃more,qs=ps++more):Un fs [] H (Hmk H T c' oc qs) h h':=by
 have nT:∀b,H b=none->b≠T:=λb n z=>by rw[z,hT]at n;cases n
 have nC:∀b o,h.get? b=some o->b≠c':=λb o e=>qC4 (qB2 (qB3 e) hs);have nC':∀b u,H b=some u->b≠c':=λb u e z=>by rw[z,hc]at e;cases e
 have nT':∀b u,H b=some u->(∀qs,u≠.tbl qs)->b≠T:=λb u e z y=>by rw[y,hT]at e;exact z _ (Option.some.inj e).symm
 refine⟨λb o e n _ _=>k b o (nT b n) e,λb o e n _ _=>⟨o.slots,k b o (nT b n) e⟩,λb o e n _=>?_,λb o e _=>?_,λb xs e=>?_,λb o u e=>?_,λb qs' e=>?_⟩
 ·rw[zGt (nT b n) (nC b o e)];exact n
 ·by_cases z:b=T
  ·rw[z];exact hT'
  ·exact⟨o,k b o z e⟩
 ·rw[zGt (nT' b _ e λ_ z=>by cases z) (nC' b _ e)];exact e
 ·rw[zGt (nT' b _ e λ_ z=>by cases z) (nC' b _ e)];exact e
 ·by_cases z:b=T
  ·subst z;rw[hT]at e;cases e;obtain⟨m,rfl⟩:=hq;exact⟨m,zTy⟩
  ·exact⟨#[],by rw[zGt z (nC' b _ e),e];simp⟩
theorem zWG(ok:HOk P w H h)(hT:H T=some (.tbl ps))(hs:h.objs.size<=c')(hc:H c'=none)(k:∀b o,b≠T->h.get? b=some o->h'.get? b=some o)(hT':h'.get? T=some { cls:=.none,data:=.fields qs })(hoc:h'.get? c'=some oc):HOk P w (Hmk H T c' oc qs) h':=by
 have nCT:c'≠T:=λz=>by rw[z,hT]at hc;cases hc
 have nC':∀b u,H b=some u->b≠c':=λb u e z=>by rw[z,hc]at e;cases e
 have nT':∀b u,H b=some u->(∀qs,u≠.tbl qs)->b≠T:=λb u e z y=>by rw[y,hT]at e;exact z _ (Option.some.inj e).symm
 intro a o e;by_cases z:a=T
 ·subst z;rw[zTy]at e;cases e;exact hT'
 ·by_cases y:a=c'
  ·subst y;rw[zWH nCT]at e;cases e;exact⟨hoc,hoc,⟨oc,hoc⟩,λh1 h2 p q=>q _ p⟩
  ·rw[zGt z y]at e;refine(ok a o e).stay (λb u hb r=>k b u ?_ r) (λb q=>?_) λb xs q=>?_
   ·rcases hb with rfl|hb
    ·exact z
    ·exact nT' b _ hb λ_ z=>by cases z
   ·rw[zGt (nT' b _ q λ_ z=>by cases z) (nC' b _ q)];exact q
   ·rw[zGt (nT' b _ q λ_ z=>by cases z) (nC' b _ q)];exact q
end
inductive LamX(X:Cx)(x:Str):Prop
 |mk (c T:yR) (tab:fH X.K x=some (c,T)) (code:X.env.code=.ref c) (qual:X.env.qual=x ++ ".<locals>.") (hd:fL X.base c T) (blt:X.base.BuiltinsAt X.mg T) (ne:y8≠T)
structure zZL(X:Cx)(K:yQ)(x:Str)(params:vQ)(body:y4)(scope:jS)(cl:List (Str×yR))(T f:yR)(H H':Hp)(h:jC):Prop where
 tab:∃ps,H' T=some (.tbl ps)/\TabT K (zDT x) H' T x ps
 ch:∀b o,b≠T->H b=some o->H' b=some o
 fn:∃cv ctv pm,h.get? f=some { cls:=.type "function",data:=.func (W.kla_fn "<lambda>" (zDT x) params body scope cl pm cv ctv) }/\zUb (zDT x) H' cv
 free:H' f=none
 fr:f∉frs X.stack
section
variable {X:Cx}{pins:yD}{Z:St}{H:Hp}{s:yS}
theorem zXe{h h':jC}{mg:Str->yF}{T:yR}(BB:h.BuiltinsAt mg T)(k:∀b o,h.get? b=some o->h'.get? b=some o):h'.BuiltinsAt mg T:=by obtain⟨bm,o,h1,h2,h3,h4,h5,r⟩:=BB;exact⟨bm,o,h1,h2,h3,h4,k _ _ h5,r⟩
theorem zLm{x:Str}{T:yR}{ps:yJ}{params:vQ}{body:y4}{scope:jS}{cl:List (Str×yR)}{pos:Pos}{Q:yL}{E:yL}(I:Inv X pins Z H s)(L:LamX X x)(hT:H T=some (.tbl ps))(t:TabT X.K (zDT x) H T x ps)
  (hcl:closureFor scope X.env=pure cl) (hdef:defaultsOf params X.env=([],[]))
  (h:∀f H' s',zZL X X.K x params body scope cl T f H H' s'.heap->Inv X pins Z H' s'->(∀b o,s.heap.get? b=some o->H b=none->s'.heap.get? b=some o/\H' b=none)->Q (.ref f) s') :
  yX (yW X.prog X.w) X.A (vL (.Lambda params body scope pos) X.env) Q E s:=by
 obtain⟨c,T',tab,code,qual,C,BB,ne⟩:=L;obtain⟨c2,t1⟩:=t.tab;rw[tab]at t1;cases t1;have eq:X.env.qual ++ "<lambda>"=zDT x:=by rw[qual];rfl
 have oT:s.heap.get? T=some (W.tabObj ps):=I.hok T _ hT;have G:s.heap.Ns y8 X.mg:=I.ok.mod.glob.keeps I.bk;have C':=C.keeps I.bk;have BB':=zXe BB I.bk;have ge:=I.ok.glob;have nfr:∀a:yR,s.heap.objs.size<=a->a∉frs X.stack:=λa ha m=>by
  rcases qB0.mp (I.stkSub a m)with z|z
  ·exact absurd I.lt (by rw[<- z];exact Nat.not_lt.mpr ha)
  ·exact I.nofs ha z
 refine W.kla_eval hdef ?_;rw[eq];cases hf:gZ pos ps.toList with
 |some cv =>
  refine W.kla_makeFunctionHit hcl ge G code C' oT t.ok hf BB' λctv h' tk k hs=>?_;have k2:∀(o:Obj) (b:yR) (u:Obj),s.heap.get? b=some u->(h'.push o).get? b=some u:=λo b u e=>qA5 _ (k b u e);refine h h'.objs.size H _ ⟨⟨ps,hT,t⟩,λ_ _ _ e=>e,⟨cv,ctv,_,qB4 _ rfl,t.code _ _ hf⟩,I.hok.fresh hs,nfr _ hs⟩ (I.kept (t':=tk) (k2 _)) λb o e n=>⟨k2 _ b o e,n⟩
 |none =>
  refine W.kla_makeFunction hcl ge G code C' oT t.ok hf ne BB' λc' ctv h' tk k hs hlt hrec hT'=>?_;obtain⟨c3,oc,vs,tq,e3,hoc,hd,hq⟩:=hrec;cases e3;have hc:H c'=none:=I.hok.fresh hs;have nCT:c'≠T:=λz=>by rw[z,hT]at hc;cases hc
  have sz:s.heap.objs.size<=h'.objs.size:=qD0 hs (qG3 hlt);have k2:∀(o:Obj) (b:yR) (u:Obj),b≠T->s.heap.get? b=some u->(h'.push o).get? b=some u:=λo b u n e=>qA5 _ (k b u n e);have fresh:H h'.objs.size=none:=I.hok.fresh sz;have cT:zUb (zDT x) (Hmk H T c' oc (ps++#[j8 pos.line,j8 pos.col,.ref c'])) (.ref c'):=⟨c',oc,vs,tq,rfl,zWH nCT,hd,hq⟩
  have nT:∀b,H b=none->b≠T:=λb n z=>by rw[z,hT]at n;cases n
  have ch:∀b o,b≠T->H b=some o->Hmk H T c' oc (ps++#[j8 pos.line,j8 pos.col,.ref c']) b=some o:=λb o n e=>by rw[zGt n λz=>by rw[z,hc]at e;cases e];exact e
  refine h h'.objs.size (Hmk H T c' oc (ps++#[j8 pos.line,j8 pos.col,.ref c'])) _ ⟨⟨_,zTy,t.tab,?_,λp cv z=>?_⟩,ch,⟨.ref c',ctv,_,qB4 _ rfl,cT⟩,?_,nfr _ sz⟩ ?_ λb o e n=>⟨k2 _ b o (nT b n) e,?_⟩
  ·rw[jI];exact TriplesOk_snoc _ _ _ _ t.ok
  ·rw[jI]at z;rcases zI9 _ t.ok z with z|rfl
   ·obtain⟨c4,o4,vs4,t4,rfl,h4,r4⟩:=t.code p cv z;exact⟨c4,o4,vs4,t4,rfl,ch _ _ (λy=>by rw[y,hT]at h4;cases h4) h4,r4⟩
   ·exact cT
  ·rw[zGt (nT _ fresh) (qG4 hlt)];exact fresh
  ·exact I.un (t':=tk) (zY2 hT hs hc (k2 _) ⟨_,qA5 _ hT'⟩ ⟨_,rfl⟩) (zWG I.hok hT hs hc (k2 _) (qA5 _ hT') (qA5 _ hoc))
  ·rw[zGt (nT b n) (qC4 (qB2 (qB3 e) hs))];exact n
end
noncomputable def tbAt(S:zA0):Option Str:=match (S[0]?:Option O)with
 |some (O.tb x)=>some x
 |_=>none
theorem zIC{S:zA0}{x:Str}(h:tbAt S=some x):S[0]?=some (.tb x):=by
 unfold tbAt at h;split at h
 ·rename_i e;cases h;exact e
 ·cases h
theorem zRV{S:zA0}{x:Str}(h:S[0]?=some (.tb x)):tbAt S=some x:=by unfold tbAt;rw[h]
noncomputable def zPb(x:Str)(ws:List (Str×Str))(js:List Nat)(cb:C):C:=fun B S=>if tbAt S=some x then(match cb (stE 0 js B) S with
 |.ok _ S'=>.ok .non S'
 | .er c S'=>(match ws.lookup c with
  |some w=>.ok (.str w) S'
  | none=>.bad)
 | .bad=>.bad)else .bad
inductive zEC(K:yQ)(mg:Str->yF)(tk:Str)(ws:List (Str×Str)):Prop
 |mk (st:vI) (fa:yR) (fd:jX) (c y:Str) (h0:jW) (hs:List jW) (p1 p2 p3 p4 p5 p6 p7 p8 p9:Pos) (j:Nat) (wa:List (yR×Str)) (F:Fun K tk tk st fa fd) (m:mg tk=some (.ref fa)) (b:zEm K fd [c] []) (S:zE0 [c,y] [c] (zA1 st))
   (body:zAr st=zMN c y y h0 hs p1 p2 p3 p4 p5 p6 p7 p8 p9 j) (hc1:nDb c) (hc2:(c == ("__classdict__":Str))=false) (hl:(zA1 st).names.lookup y=some .local) (hy1:nDb y) (hy2:(y == ("__classdict__":Str))=false)
   (hs:∀X:Cx,X.mg=mg->X.env.scope=zA1 st->X.N=[c,y]->HsOk X 1 (h0::hs) wa) (pk:∀c w C,ws.lookup c=some w->mg c=some (.ref C)->zIv K (.ref C) wa w)
section
variable {X:Cx}{pins:yD}{Z:St}{H H':Hp}{s:yS}{K:yQ}{J:yC}{S:zA0}
theorem SR.made(sr:SR K J S H){T:yR}{x:Str}{ps:yJ}(h0:J[0]?=some T)(hS:S[0]?=some (.tb x))(hT:H T=some (.tbl ps))(ch:∀b o,b≠T->H b=some o->H' b=some o)(t:∃ps,H' T=some (.tbl ps)/\TabT K (zDT x) H' T x ps):SR K J S H'/\Step K J J H H':=by
 have hm:T∈J:=qB5 h0;have tk:TF K H H':=zUq (p:=T) (λq o n e=>ch q o n e) (λxs e=>by rw[hT]at e;cases e) λa b e=>by rw[hT]at e;cases e
 refine⟨⟨sr.len,sr.nd,λn a o e1 e2=>?_⟩,⟨⟨[],by simp,by simp⟩,λb o hb e=>ch b o (λz=>hb (z▸hm)) e,tk⟩⟩;by_cases hn:n=0
 ·subst hn;rw[h0]at e1;cases e1;rw[hS]at e2;cases e2;exact t
 ·have ne:a≠T:=λz=>by subst z;exact hn ((qM7 (qA3.mp e1).1 sr.nd).mp (e1.trans h0.symm))
  obtain⟨o',q⟩:=sr.isS (qB5 e1);exact(sr.obj n a o e1 e2).up tk ⟨[],by simp⟩ (by rw[ch a o' ne q,q])
structure zU9(X:Cx)(params:vQ)(scope:jS)(N:yH)(js:List Nat):Prop where
 kind:scope.kind=.function
 co:scope.isCoroutine=false
 gen:scope.isGenerator=false
 nocell:∀x∈scope.names,x.2≠.cell
 args:params={ posonlyargs:=[],args:=[],vararg:=none,kwonlyargs:=[],kw_defaults:=[],kwarg:=none,defaults:=[] }
 frees:∀x,(x,NameKind.free)∈scope.names->X.env.scope.names.lookup x=some .cell
 len:js.length=N.length
 slot:∀(i j:Nat),js[i]?=some j->∃x,N[i]?=some x/\X.N[j]?=some x/\scope.names.lookup x=some .free
theorem zRo{params:vQ}{scope:jS}{N:yH}{js:List Nat}{h:jC}(I:Inv X pins Z H s)(L:zU9 X params scope N js)(k:∀b o,s.heap.get? b=some o->H b=none->∃sl,h.get? b=some { o with slots:=sl }):zUa N (stC 0 js Z) scope (clOf X.env scope.names []) H h:=by
 have ck:∀x c v,X.env.cells.lookup x=some c->s.heap.IsCell c v->h.IsCell c v:=λx c v e z=>by obtain⟨o,e1,d⟩:=z;obtain⟨sl,e2⟩:=k c o e1 (I.freeC x c e);exact⟨_,e2,d⟩
 have cs:∀x,(x,NameKind.free)∈scope.names->∃c,X.env.cells.lookup x=some c:=λx hx=>I.ok.has x (.inl (L.frees x hx));have has:∀x,(x,NameKind.free)∈scope.names->∃c,(clOf X.env scope.names []).lookup x=some c:=λx hx=>zDy scope.names [] x (.inr ⟨hx,cs x hx⟩);refine⟨λx y c h1 h2=>I.ok.inj x y c (zDY h1) (zDY h2),λx hx=>?_,λi x v h1 h2=>?_,λx c e=>?_,by unfold stC;simp[L.len]⟩
 ·rcases hx with hx|hx
  ·exact absurd rfl (L.nocell _ (zBI hx))
  ·exact has x (zBI hx)
 ·obtain⟨j,_,e1,e2⟩:=zJZ h2;rw[Nat.sub_zero]at e1;obtain⟨x',n1,n2,n3⟩:=L.slot i j e1;rw[h1]at n1;cases n1;have hx:=zBI n3;have kc:=L.frees x hx;obtain⟨m,hn,hv⟩:=I.loc;obtain⟨u,r,l⟩:=hv j x v n2 e2 (.inr (.inl kc));obtain⟨c,ec⟩:=has x hx;refine⟨u,c,r,n3,ec,?_⟩;rcases l with⟨l,_⟩| ⟨_,c2,e3,z⟩
  ·have l':X.env.scope.names.lookup x=some .local:=l;rw[kc]at l';cases l'
  ·rw[zDY ec]at e3;cases e3;exact ck x c _ (zDY ec) z
 ·obtain⟨v,z⟩:=I.cell x c (zDY e);exact⟨⟨v,ck x c v (zDY e) z⟩,I.freeC x c (zDY e)⟩
theorem zSj{tk x:Str}{ws:List (Str×Str)}{js:List Nat}{cb:C}{params:vQ}{body:y4}{scope:jS}{N:yH}{p lpos pos:Pos}(Tk:zEC X.K X.mg tk ws)(L:LamX X x)(hg:Gl X tk)(hdb:nDb tk)(hr:Room 2 X.A)(lt:zU9 X params scope N js)
  (hbody:∀(f:yR) (cd:yU) (cl:List (Str×yR)) (e1:Env) (outer:List Env) (s:yS) (H:Hp) (E:XK),PE (zI7 X.prog X.w X.K X.mg X.base N (zDT x) scope f cd cl (X.A.deeper e1) outer s H E) body (tOfX (zI7 X.prog X.w X.K X.mg X.base N (zDT x) scope f cd cl (X.A.deeper e1) outer s H E) cb)) :
  PE X (.Call (.Name tk p) [.Lambda params body scope lpos] [] pos) (tOf X.K (zPb x ws js cb)):=by
 rintro pins s Z H Q I ⟨J,B,S,d,S',sr,re,e,y⟩;obtain⟨st,fa,fd,c,yy,h0,hs,p1,p2,p3,p4,p5,p6,p7,p8,p9,j,wa,F,m,bi,Sc,bod,hc1,hc2,hl,hy1,hy2,hso,pk⟩:=Tk;unfold zPb at e;split at e
 ·rename_i hS;have hS:=zIC hS;obtain⟨T,hT0⟩:∃T,J[0]?=some T:=by
   have:0<J.length:=by rw[sr.len];exact(qA3.mp hS).1
   exact⟨_,qA4 this⟩
  obtain⟨ps,hT,tt⟩:=sr.obj 0 T _ hT0 hS;have hcl:=zCb (scope:=scope) (env:=X.env) λx hx=>I.ok.has x (.inl (lt.frees x hx));refine vA (zDj I hg m ?_ hdb);refine m8 (h₀:=X.base) I.ok.mod.kin F.kp (wN (zLm I L hT tt hcl (by rw[lt.args];rfl) λf H1 s1 la I1 kp=>wV ⟨I1.kIn,?_⟩)) rfl rfl;obtain⟨sr1,st1⟩:=sr.made hT0 hS hT la.ch la.tab;obtain⟨cv,ctv,pm,hf,cT⟩:=la.fn;have re1:=(re.up st1).comp 0 js;refine fZ (vR (zMR (Q:=Q) (f:=f) F Sc bi bod hc1 hc2 hl hy1 hy2 hr.depth hr.hd I1.env0 (λcdv=>hso _ rfl rfl rfl) λcdv=>?_) λr s' hq=>?_)
  ·intro pins2 Z2 s2 I2;have hf2:s2.heap.get? f=some _:=I2.base.keep f _ hf la.free la.fr (by show f∉([]:yC);simp);refine⟨⟨_,_,_,_,hf2⟩,?_⟩;have hcd:s2.heap.CodeRec cv (zDT x):=by obtain⟨c3,o3,vs3,t3,rfl,h3,d3,q3⟩:=cT;exact⟨c3,o3,vs3,t3,rfl,(I2.hok c3 _ h3).1,d3,q3⟩
   have ls:=zRo I1 lt (h:=s2.heap) λb o e n=>I2.base.any e n (by show b∉([]:yC);simp);refine zO7 (k:=1) (E:=λC _ H'=>∃w,zIv X.K C wa w/\Q (.str w) H') (hr.deeper _) (qA6 _) I2.env0 hf2 hcd lt.kind lt.co lt.gen lt.nocell (by rw[lt.args];rfl) ls (hbody _ _ _ _ _ _ _ _) ⟨J,stE 0 js B,S,sr1,re1,?_⟩;revert e;cases cb (stE 0 js B) S with
   |bad=>exact λe=>by cases e
   |ok d' S2 =>
    intro e;cases e;exact λv H2 J2 sr2 st2 rv=>y _ H2 J2 sr2 (st1.trans st2 sr2.nd) zE9
   |er k S2 =>
    intro e H2 J2 sr2 st2 C hC;dsimp only at e;split at e
    ·rename_i w hw;cases e;exact zOH zO8 ⟨w,pk k w C hw hC,y _ H2 J2 sr2 (st1.trans st2 sr2.nd) zNe⟩
    ·cases e
  ·cases r with
   |error e=>exact False.elim hq
   |ok fl =>
    cases fl with
    |ret u=>exact I1.after hq
    |next=>exact False.elim hq
    |brk=>exact False.elim hq
    |cont=>exact False.elim hq
 ·cases e
end
noncomputable def xoL:yH:=["TooMany","NoContact","NoBridge","NoName","BadNote","NoPlace","NoTable"]
noncomputable def exG(K:yQ)(c:Str):Option Addr:=match gC K y8 c with
 |some (some (.ref C))=>some C
 |_=>none
theorem zRw{K:yQ}{c:Str}{C:yR}(h:exG K c=some C):gC K y8 c=some (some (.ref C)):=by
 unfold exG at h;split at h
 ·rename_i q;cases h;exact q
 ·cases h
theorem zW3{K:yQ}{c:Str}{C:yR}(h:gC K y8 c=some (some (.ref C))):exG K c=some C:=by unfold exG;rw[h]
noncomputable def zWW(K:yQ)(c:Str):Bool:=match exG K c with
 |some C=>lZ K (.ref C) "__getattribute__" == some (some (.builtin "BaseException.__getattribute__"))&&lZ K (.ref C) "__class__" == some (some (.builtin "object.__class__"))&&W.mroIn K C (.type "object") == some true&&W.mroIn K C (.type "BaseException") == some true
   && lZ K (.ref C) "__getattr__" == some none&&(W.clsIn K C).isSome&&vS K (.ref C) (.type "ValueError") == some true&&vS K (.type "NoneType") (.ref C) == some false
 |none=>false
noncomputable def zWV(K:yQ)(c g:Str):Bool:=match exG K c,exG K g with
 |some C,some G=>vS K (.ref C) (.ref G) == some (c == g)
 |_,_=>false
noncomputable def zI1(K:yQ):Bool:=xoL.all λc=>zWW K c&&xoL.all λg=>zWV K c g
theorem zDn{K:yQ}(h:zI1 K=true){c:Str}(hc:c∈xoL):∃C,exG K c=some C/\ExcG K C/\vS K (.ref C) (.type "ValueError")=some true/\vS K (.type "NoneType") (.ref C)=some false:=by
 have h1:=(qO8.mp (qD5.mp h c hc)).1;unfold zWW at h1;split at h1
 ·rename_i C q;simp only[qC5,beq_iff_eq]at h1;obtain⟨⟨⟨⟨⟨⟨⟨a1,a2⟩,a3⟩,a4⟩,a5⟩,a6⟩,a7⟩,a8⟩:=h1;exact⟨C,q,⟨a1,a2,a3,a4,a5,a6⟩,a7,a8⟩
 ·cases h1
theorem zOJ{K:yQ}(h:zI1 K=true){c g:Str}(hc:c∈xoL)(hg:g∈xoL){C G:yR}(e1:exG K c=some C)(e2:exG K g=some G):vS K (.ref C) (.ref G)=some (c == g):=by have h1:=qD5.mp (qO8.mp (qD5.mp h c hc)).2 g hg;unfold zWV at h1;rw[e1,e2]at h1;exact beq_iff_eq.mp h1
noncomputable def oIsX(g:Str):D->M D:=λx S=>match x with
 |.xc c=>if c∈xoL then .ok (.bl (c == g||g == ("ValueError":Str))) S else .bad
 |.non=>.ok (.bl false) S
 |_=>.bad
section
variable {X:Cx}{a:y4}{ca:C}{g:Str}{p p2 pos:Pos}
theorem zQs{pins:yD}{Z:St}{H:Hp}{s:yS}{Q:VK}{G:yU}{d:D}{v:V}{u:yU}{b:Bool}{J:yC}(I:Inv X pins Z H s)(r:RelV v u)(rv:RV X.K H J d v)(xk:zI1 X.K=true)
  (e:d=.non/\vS X.K (.type "NoneType") G=some b∨∃c C,d=.xc c/\c∈xoL/\exG X.K c=some C/\vS X.K (.ref C) G=some b) (q:Q (.bl b) H):yX (yW X.prog X.w) X.A (call (.builtin "isinstance") [u,G]) (EP X pins Z Q) X.xe s:=by
 rcases e with⟨rfl,e⟩| ⟨c,C,rfl,hc,hC,e⟩
 ·unfold RV at rv;subst rv;cases (show u=Value.none from r);exact wU W.kitx_none I.kIn True.intro e (λz=>nomatch z) λtk=>⟨.bl b,H,I.tok tk,rfl,q⟩
 ·unfold RV at rv;obtain⟨ea,oe,C',rfl,h1,h2,h3⟩:=rv;have:=zW3 h3;rw[hC]at this;cases this;cases (show u=Value.ref ea from r);obtain⟨C2,k1,k2,_⟩:=zDn xk hc;rw[hC]at k1;cases k1;exact wU (zQn k2) I.kIn ⟨oe,(I.hok ea _ h1).1,h2⟩ e (λz=>nomatch z) λtk=>⟨.bl b,H,I.tok tk,rfl,q⟩
theorem zUZ(ha:PE X a (tOf X.K ca))(hg0:Gl X "isinstance")(hm0:X.mg "isinstance"=none)(xk:zI1 X.K=true)
  (hg:(g = "ValueError"/\Gl X g/\X.mg g=none)∨(g∈xoL/\Gl X g/\(∃G,X.mg g=some (.ref G)/\exG X.K g=some G)/\nDb g)) (h1:jF [a,.Name g p2] X.env=(false,vL a X.env)::jF [.Name g p2] X.env) :
  PE X (.Call (.Name "isinstance" p) [a,.Name g p2] [] pos) (tOf X.K (cUn (oIsX g) ca)):=by
 obtain⟨gv,gu,hgv,hpe,kN,kX⟩:∃(gv:V) (gu:yU),(∀u,RelV gv u->u=gu)/\PE X (.Name g p2) (tC gv)/\vS X.K (.type "NoneType") gu=some false/\∀c C,c∈xoL->exG X.K c=some C->vS X.K (.ref C) gu=some (c == g||g == ("ValueError":Str)):=by
  rcases hg with⟨rfl,hg,hm⟩| ⟨hx,hg,⟨G,hm,hG⟩,hd⟩
  ·refine⟨.ty "ValueError",.type "ValueError",λu h=>h,zNu hg hm (by decide +kernel) rfl (by decide +kernel) (by decide +kernel),rfl,λc C hc hC=>?_⟩;obtain⟨C',k1,_,k3,_⟩:=zDn xk hc;rw[hC]at k1;cases k1;rw[k3,beq_self_eq_true,Bool.or_true]
  ·obtain⟨G',k1,_,_,k4⟩:=zDn xk hx;rw[hG]at k1;cases k1;refine⟨.ref G,.ref G,λu h=>h,zSQ hg hm rfl hd,k4,λc C hc hC=>?_⟩;rw[zOJ xk hc hx hC hG];have:(g == ("ValueError":Str))=false:=by simp only[xoL,qB0,qD3,or_false]at hx;rcases hx with rfl|rfl|rfl|rfl|rfl|rfl|rfl<;>decide +kernel
   rw[this,Bool.or_false]
 have hc:zBN X (.builtin "isinstance") (λvs H Q=>∃v d J b,vs=[v,gv]/\RV X.K H J d v/\(d=.non/\vS X.K (.type "NoneType") gu=some b∨∃c C,d=.xc c/\c∈xoL/\exG X.K c=some C/\vS X.K (.ref C) gu=some b)/\Q (.bl b) H):=by intro pins s Z H xs us Q I r h;obtain⟨v,d,J,b,rfl,rv,e,q⟩:=h;obtain⟨u,u2,rfl,ru,r2⟩:=zLM r;have:=hgv u2 r2;subst this;exact zQs I ru rv xk e q
 refine(zHz hc hg0 hm0 (by decide +kernel) (zFr ha (zFr hpe zL4) h1) (by decide +kernel) (by decide +kernel) h1 rfl).weak ?_;rintro Z H Q ⟨J,B,S,d,S',sr,re,e,y⟩;obtain⟨x,S1,e1,e⟩:=zA7 e;refine⟨J,B,S,x,S1,sr,re,e1,λv H1 J1 sr1 st1 r1=>?_⟩;unfold oIsX at e;split at e
 ·rename_i c;split at e
  ·rename_i hc;cases e;obtain⟨C,k1,_⟩:=zDn xk hc;exact⟨v,_,J1,_,rfl,r1,.inr ⟨c,C,rfl,hc,k1,kX c C hc k1⟩,(y.shift st1).self sr1 zDC⟩
  ·cases e
 ·cases e;exact⟨v,_,J1,_,rfl,r1,.inl ⟨rfl,kN⟩,(y.shift st1).self sr1 zDC⟩
 ·cases e
end
noncomputable def rfE(n:Nat)(d:D):Env1:=none::some d::qE6 (n - 2) none
noncomputable def endR:RS->R D
 |.rt d S=>.ok d S
 |.nx _ S=>.ok .non S
 |_=>.bad
noncomputable def zBK(x:Str)(n:Nat)(b:CS)(js:List Nat)(cb:C):C:=fun B S=>if tbAt S=some x then(match cb (stE 0 js B) S with
 |.ok _ S'=>endR (b (rfE n .non) S')
 |.er c S'=>if c∈xoL then endR (b (rfE n (.xc c)) S')else .bad
 | .bad=>.bad)else .bad
noncomputable def zRg(c y en g:Str)(p1 p2 p3 p4 p5 p6 p7 q1 q2 q3 q4 q5:Pos)(j:Nat)(rest:List vI):List vI :=
 .Assign [.Name y p1] (.Constant .none j p2) p3::.Try [.Expr (.Call (.Name c p4) [] [] p5) p6] [.ExceptHandler (some (.Name g q1)) (some en) [.Assign [.Name y q2] (.Name en q3) q4] q5] [] [] p7::rest
structure RfTx(st:vI)(c y en g:Str)(N:yH)(rest:List vI):Prop where
 body:∃p1 p2 p3 p4 p5 p6 p7 q1 q2 q3 q4 q5 j,zAr st=zRg c y en g p1 p2 p3 p4 p5 p6 p7 q1 q2 q3 q4 q5 j rest
 sc:zE0 N [c] (zA1 st)
 n:∃more,N=c::y::en::more
 ly:(zA1 st).names.lookup y=some .local
 le:(zA1 st).names.lookup en=some .local
 lg:(zA1 st).names.lookup g=some .globalImplicit
 c1:nDb c
 c2:(c == ("__classdict__":Str))=false
 e1:nDb en
 e2:(en == ("__classdict__":Str))=false
 g1:nDb g
inductive zU8(P:y7)(w:jD)(K:yQ)(mg:Str->yF)(base:jC)(tk:Str)(n:Nat)(b:CS):Prop
 |mk (st:vI) (fa:yR) (fd:jX) (c y en g:Str) (N:yH) (rest:List vI) (C:yR) (F:Fun K tk tk st fa fd) (m:mg tk=some (.ref fa)) (bi:zEm K fd [c] []) (tx:RfTx st c y en g N rest) (hl:N.length=n) (hm:mg g=some (.ref C))
   (hx:∀x∈xoL,∀D,exG K x=some D->mg x=some (.ref D)/\gD K (.ref D) (.ref C)=some true)
   (rs:∀(cdv:yU) (A:jE) (outer:List Env) (s:yS) (H:Hp),Room 1 A->PSs (cxOf CX0 P w K mg base N tk (zA1 st) fa cdv A outer s H E0) rest (tOfS (cxOf CX0 P w K mg base N tk (zA1 st) fa cdv A outer s H E0) b))
section
variable {P:y7}{w:jD}{K:yQ}{mg:Str->yF}{base:jC}
theorem zM1{tk c y en g:Str}{st:vI}{fa f C:yR}{fd:jX}{N:yH}{rest:List vI}{b:CS}{A:jE}{outer:List Env}{s:yS}{H:Hp}{Q:VK}(F:Fun K tk tk st fa fd)(bi:zEm K fd [c] [])(tx:RfTx st c y en g N rest)(hm:mg g=some (.ref C))
  (rs:∀(cdv:yU),PSs (cxOf CX0 P w K mg base N tk (zA1 st) fa cdv A outer s H E0) rest (tOfS (cxOf CX0 P w K mg base N tk (zA1 st) fa cdv A outer s H E0) b))
  (hd:A.depth<lS) (hh:A.handled=none) (e0:Env0 P w K mg base A outer s H)
  (lc:∀cdv,LamC (cxOf CX0 P w K mg base N tk (zA1 st) fa cdv A outer s H E0) f H (λ_ H'=>tOfS (cxOf CX0 P w K mg base N tk (zA1 st) fa cdv A outer s H E0) b { nx:=λ_ H'=>Q .non H',rt:=Q } (some (.ref f)::some .non::qE6 (N.length - 2) none) H')
   λD _ H'=>gD K D (.ref C)=some true/\∀e oe,H' e=none->oe.cls=D->tOfS (cxOf CX0 P w K mg base N tk (zA1 st) fa cdv A outer s H E0) b { nx:=λ_ H'=>Q .non H',rt:=Q } (some (.ref f)::some (.ref e)::qE6 (N.length - 2) none) (upd H' e (xrec e oe))) :
  vU (yW P w) A (.call (.ref fa) ⟨[.ref f],[]⟩) (CR CX0 outer P w H s Q E0) s:=by
 obtain⟨oc,od,kV,doc,pm,an,cdv,ct,osl,rfl,lk,hcd⟩:=F.ex;have S:=tx.sc;obtain⟨more,hN⟩:=tx.n;obtain⟨p1,p2,p3,p4,p5,p6,p7,q1,q2,q3,q4,q5,j,hbody⟩:=tx.body;have KX:K.In s.heap:=e0.mod.kin.keeps λb o e=>(e0.bs b o e).1;have lim:s.heap.NoLimit:=e0.mod.nolimit.keeps λb o e=>(e0.bs b o e).1;have hkind:∀z∈[(c,Value.ref f)],(zA1 st).names.lookup z.1=some .local∨((zA1 st).names.lookup z.1=some .cell/\((vE (s.heap.objs.size+1) (zA1 st).names []).lookup z.1).isSome=true):=λz hz=>by
  simp only[qB0,qD3,or_false]at hz;subst hz;rcases S.par c (by simp)with q|q
  ·exact .inl q
  ·exact .inr ⟨q,fB _ _ _ (.inl q)⟩
 refine wY hd (KX _ _ lk) rfl S.co S.gen rfl (dA KX hcd) (bi s [.ref f] KX rfl _ _ _ _ (wC S.kind hkind λenv he s1 z=>?_));subst he;refine⟨lim.keeps z.toInCall.keep,dC ?_⟩;have I:Inv (cxOf CX0 P w K mg base N tk (zA1 st) fa cdv A outer s H E0) [] (start N [.ref f]) H s1:=zFG S hh e0 rfl (.cons rfl .nil) z;rw[hbody];obtain⟨X,hX⟩:∃X,cxOf CX0 P w K mg base N tk (zA1 st) fa cdv A outer s H E0=X:=⟨_,rfl⟩
 have hNX:X.N=N:=by rw[<- hX];rfl
 have i0:X.N[0]?=some c:=by rw[hNX,hN];rfl
 have i1:X.N[1]?=some y:=by rw[hNX,hN];rfl
 have i2:X.N[2]?=some en:=by rw[hNX,hN];rfl
 have hn:X.N.Nodup:=by rw[hNX];exact S.nd
 have hv:Vis X.env.scope c:=by rw[<- hX];exact(S.par c (by simp)).elim .inl λq=>.inr (.inl q)
 have ly:X.env.scope.names.lookup y=some .local:=by rw[<- hX];exact tx.ly
 have le:X.env.scope.names.lookup en=some .local:=by rw[<- hX];exact tx.le
 have lg:Gl X g:=by rw[<- hX];exact tx.lg
 have mg':X.mg g=some (.ref C):=by rw[<- hX];exact hm
 have a:=zH5 (pos:=p3) (zNt (X:=X) (j:=j) (pos:=p2)) (zDg (pos:=p1) hn i1 (.inl ly) (.inr ly));have t:=zPN (X:=X) (i:=0) (k:=2) (j:=1) (p1:=p4) (p2:=p5) (p3:=p6) (p4:=p7) (p:=q1) (q:=q2) (q2:=q3) (q3:=q4) (q4:=q5) (f:=f) (by rw[<- hX];rfl) (by rw[<- hX];rfl) (by rw[<- hX];rfl) hn i0 hv tx.c1 tx.c2 lg mg' tx.g1 i2 le tx.e1 tx.e2 i1 ly;have rs':=rs cdv;have lc':=lc cdv;have ln:N.length=more.length+3:=by rw[hN];simp
 have e1:(start N [V.ref f]).set 1 (some .non)=some (.ref f)::some .non::qE6 (N.length - 2) none:=by unfold start;rw[ln];rfl
 have e2:∀e:yR,((((start N [V.ref f]).set 1 (some .non)).set 2 (some (.ref e))).set 1 (some (.ref e))).set 2 none=some (.ref f)::some (.ref e)::qE6 (N.length - 2) none:=λe=>by rw[e1,ln];rfl
 have e3:X.K=K:=by rw[<- hX];rfl
 rw[hX]at rs' lc' I;have eP:X.prog=P:=by rw[<- hX];rfl
 have eW:X.w=w:=by rw[<- hX];rfl
 have run:=zCC a (zCC t rs') [] s1 _ H { nx:=λ_ H'=>Q .non H',rt:=Q } I ⟨by rw[e1];rfl,λpins Z s2 I2=>?_⟩
 ·rw[<- hX]at run;refine jK run (λfl s' q=>?_) λe s' q=>q;cases fl with
  |ret u =>
   obtain⟨v,Z',H',JJ,rv,q⟩:=q;exact⟨v,H',JJ.os,JJ.bare,JJ.base,JJ.hok,rv,q⟩
  |next =>
   obtain⟨Z',H',JJ,q⟩:=q;exact⟨.non,H',JJ.os,JJ.bare,JJ.base,JJ.hok,rfl,q⟩
  |brk =>
   obtain⟨_,_,_,q⟩:=q;exact False.elim q
  |cont =>
   obtain⟨_,_,_,q⟩:=q;exact False.elim q
 ·obtain⟨z1,z2⟩:=lc' pins Z s2 I2;refine⟨z1,vR z2 λr s' q=>?_⟩;cases r with
  |error ev =>
   obtain⟨e,T,D,H',rfl,tr,ne,nT,os,bare,un,hok,he,hT,hx,hD⟩:=q;refine⟨e,T,D,H',rfl,tr,ne,nT,os,bare,un,hok,he,hT,by rw[e3];exact hx,λe oe q1 q2=>?_⟩;rw[e2];exact hD e oe q1 q2
  |ok fl =>
   cases fl with
   |ret u =>
    obtain⟨v,H',os,bare,un,hok,r,q⟩:=q;refine⟨v,H',os,bare,un,hok,r,?_⟩;show tOfS X b _ ((start N [V.ref f]).set 1 (some .non)) H';rw[e1];exact q
   |next=>exact q
   |brk=>exact q
   |cont=>exact q
end
section
variable {X:Cx}{pins:yD}{Z:St}{H H':Hp}{s:yS}{K:yQ}{J:yC}{S:zA0}
theorem zRf{n:Nat}{d:D}{v w:V}(r:RV K H J d v):RE K H J (rfE n d) (some w::some v::qE6 (n - 2) none):=by
 refine⟨by simp[rfE],λi d' e=>?_⟩;unfold rfE at e
 match i,e with
 |0,e=>simp at e
 |1,e=>simp at e;subst e;exact⟨v,rfl,r⟩
 |i+2,e =>
  simp only[qD6]at e;rw[qG6]at e;split at e<;>cases e
theorem zNh{b:CS}{Q:VK}{d:D}{B:Env1}{S S':zA0}(e:endR (b B S)=.ok d S')(y:Yld X.K J H d S' Q):zGX X J H { nx:=λ_ H'=>Q .non H',rt:=Q } (b B S):=by
 revert e;cases b B S with
 |rt d' S2=>intro e;cases e;exact y
 |nx B' S2=>intro e;cases e;exact fun Z' H' J' sr st re=>y _ H' J' sr st zE9
 |bad=>intro e;cases e
 |er _ _=>intro e;cases e
 |bk _ _=>intro e;cases e
 |ct _ _=>intro e;cases e
theorem zN7{tk x:Str}{n:Nat}{b:CS}{js:List Nat}{cb:C}{params:vQ}{body:y4}{scope:jS}{N:yH}{p lpos pos:Pos}(Rk:zU8 X.prog X.w X.K X.mg X.base tk n b)(xe:∀c∈xoL,∀C,X.mg c=some (.ref C)->exG X.K c=some C)(L:LamX X x)(hg:Gl X tk)(hdb:nDb tk)(hr:Room 2 X.A)(lt:zU9 X params scope N js)
  (hbody:∀(f:yR) (cd:yU) (cl:List (Str×yR)) (e1:Env) (outer:List Env) (s:yS) (H:Hp) (E:XK),PE (zI7 X.prog X.w X.K X.mg X.base N (zDT x) scope f cd cl (X.A.deeper e1) outer s H E) body (tOfX (zI7 X.prog X.w X.K X.mg X.base N (zDT x) scope f cd cl (X.A.deeper e1) outer s H E) cb)) :
  PE X (.Call (.Name tk p) [.Lambda params body scope lpos] [] pos) (tOf X.K (zBK x n b js cb)):=by
 rintro pins s Z H Q I ⟨J,B,S,d,S',sr,re,e,y⟩;obtain⟨st,fa,fd,c,yy,en,g,N',rest,C,F,m,bi,tx,hl,hm,hx,rs⟩:=Rk;unfold zBK at e;split at e
 ·rename_i hS;have hS:=zIC hS;obtain⟨T,hT0⟩:∃T,J[0]?=some T:=by
   have:0<J.length:=by rw[sr.len];exact(qA3.mp hS).1
   exact⟨_,qA4 this⟩
  obtain⟨ps,hT,tt⟩:=sr.obj 0 T _ hT0 hS;have hcl:=zCb (scope:=scope) (env:=X.env) λx hx=>I.ok.has x (.inl (lt.frees x hx));refine vA (zDj I hg m ?_ hdb);refine m8 (h₀:=X.base) I.ok.mod.kin F.kp (wN (zLm I L hT tt hcl (by rw[lt.args];rfl) λf H1 s1 la I1 kp=>wV ⟨I1.kIn,?_⟩)) rfl rfl;obtain⟨sr1,st1⟩:=sr.made hT0 hS hT la.ch la.tab;obtain⟨cv,ctv,pm,hf,cT⟩:=la.fn;have re1:=(re.up st1).comp 0 js;refine fZ (vR (zM1 (Q:=Q) (f:=f) (b:=b) F bi tx hm (λcdv=>rs cdv _ _ _ _ (hr.mono (by omega))) hr.depth hr.hd I1.env0 λcdv=>?_) λr s' hq=>?_)
  ·intro pins2 Z2 s2 I2;have hf2:s2.heap.get? f=some _:=I2.base.keep f _ hf la.free la.fr (by show f∉([]:yC);simp);refine⟨⟨_,_,_,_,hf2⟩,?_⟩;have hcd:s2.heap.CodeRec cv (zDT x):=by obtain⟨c3,o3,vs3,t3,rfl,h3,d3,q3⟩:=cT;exact⟨c3,o3,vs3,t3,rfl,(I2.hok c3 _ h3).1,d3,q3⟩
   have ls:=zRo I1 lt (h:=s2.heap) λb o e n=>I2.base.any e n (by show b∉([]:yC);simp);refine zO7 (k:=1) (hr.deeper _) (qA6 _) I2.env0 hf2 hcd lt.kind lt.co lt.gen lt.nocell (by rw[lt.args];rfl) ls (hbody _ _ _ _ _ _ _ _) ⟨J,stE 0 js B,S,sr1,re1,?_⟩;revert e;cases cb (stE 0 js B) S with
   |bad=>exact λe=>by cases e
   |ok d' S2 =>
    intro e v H2 J2 sr2 st2 rv;refine⟨J2,rfE n .non,S2,sr2,by rw[hl];exact zRf zE9,?_⟩;exact zNh e (y.shift (st1.trans st2 sr2.nd))
   |er k S2 =>
    intro e H2 J2 sr2 st2 C' hC;dsimp only at e;split at e
    ·rename_i hk;have hC2:=xe k hk C' hC;refine zOH zO8 ⟨(hx k hk C' hC2).2,λea oe hn hoc=>?_⟩;obtain⟨sr3,st3⟩:=sr2.other (o:=xrec ea oe) hn;refine⟨J2,rfE n (.xc k),S2,sr3,?_,?_⟩
     ·rw[hl];refine zRf ?_;unfold RV;exact⟨ea,oe,C',rfl,zAc,hoc,zRw hC2⟩
     ·exact zNh e (y.shift ((st1.trans st2 sr2.nd).trans st3 sr3.nd))
    ·cases e
  ·cases r with
   |error e=>exact False.elim hq
   |ok fl =>
    cases fl with
    |ret u=>exact I1.after hq
    |next=>exact False.elim hq
    |brk=>exact False.elim hq
    |cont=>exact False.elim hq
 ·cases e
end
structure Sc where
 N:yH
 names:List (Str×jT)
 fn:Option Str
noncomputable abbrev excL:yH:=xoL
noncomputable def rzL:yH:=["refuse_no_place","refuse_no_contact","net_within","in_row","side_by_side","net_of","levels_to"]
noncomputable def lamD:Str := "law"
noncomputable def tkL:List (Str×List (Str×Str)):=[]
noncomputable def rfB:CS:=(sSeq (sAsg (cLst (zA2 [(cUn (oIsX "TooMany") (cVar 1)),(cUn (oIsX "NoContact") (cVar 1)),(cUn (oIsX "NoBridge") (cVar 1))])) (gN 3)) (sSeq (sAsg (cBin oAdd (cVar 3) (cLst (zA2 [(cUn (oIsX "NoName") (cVar 1)),(cUn (oIsX "BadNote") (cVar 1)),(cUn (oIsX "NoPlace") (cVar 1))]))) (gN 3)) (sSeq (zE8 (zF3 "list" (zCY zAR) (cVar 3) (zA2 [(cUn (oIsX "NoTable") (cVar 1))]))) (sSeq (sIf (zKI (cTru (cUn (oIsX "ValueError") (cVar 1)))) (sSeq (sRet (cCon .non)) zA4) zA4) (sSeq (sRet (zCs (zBw (zA2 [(cCon (.int 7))])) 1 [3] .one ((cTru (cBin oIx (cVar 1) (cVar 0)))) ((cVar 0)))) zA4)))))
noncomputable def rfN:yH:=["_law_refused"]
noncomputable def bltL:yH:=["len","range","list","tuple","min","max","zip","isinstance","all","any","int","bool","enumerate","str","sorted","dict","sum","repr","set","abs"]
structure MgOk(ar:Str->yK)(mg:Str->yF):Prop where
 b:∀y:Str,y∈bltL->ar y=none->mg y=none
structure XOk(X:Cx)(sc:Sc)(ar:Str->yK)(cl:Str->List D->M D)(k:Nat):Prop where
 calm:X.calm=true
 N:X.N=sc.N
 nd:sc.N.Nodup
 gl:∀x,sc.names.lookup x=some .globalImplicit->Gl X x
 loc:∀x,sc.names.lookup x=some .local->X.env.scope.names.lookup x=some .local
 cel:∀x,sc.names.lookup x=some .cell->X.env.scope.names.lookup x=some .cell
 fre:∀x,sc.names.lookup x=some .free->X.env.scope.names.lookup x=some .cell∨X.env.scope.names.lookup x=some .free
 fnn:sc.fn.isSome=true->∀x,X.fn x=true
 room:Room (3*k) X.A
 roomT:sc.fn=some lamD->Room (3*k+2) X.A
 lam:sc.fn=some lamD->LamX X lamD
 tk:sc.fn=some lamD->∀t ws,tkL.lookup t=some ws->zEC X.K X.mg t ws
 rf:sc.fn=some lamD->∀t∈rfN,zU8 X.prog X.w X.K X.mg X.base t 4 rfB
 xk:zI1 X.K=true
 xm:∀c∈xoL,∃C,X.mg c=some (.ref C)/\exG X.K c=some C
 xv:X.mg "ValueError"=none
 own:gQ (yW X.prog X.w) X.A X.env X.xe
 exc:∀x∈excL,∃C,X.mg x=some (.ref C)/\ExcK X.K C
 blt:MgOk ar X.mg
 fns:∀x n,ar x=some n->(∃ps,zEE X.prog X.w X.K X.mg X.base x ps (3*k) (zHq X.K X.mg (cl x) n))/\∀ds S,cl x ds S≠.bad->ds.length=n
section
variable {X:Cx}{sc:Sc}{ar:Str->yK}{cl:Str->List D->M D}{k:Nat}
theorem XOk.vis(h:XOk X sc ar cl k){x:Str}(hv:sc.names.lookup x=some .local∨sc.names.lookup x=some .cell∨sc.names.lookup x=some .free):Vis X.env.scope x:=by
 rcases hv with q|q|q
 ·exact .inl (h.loc x q)
 ·exact .inr (.inl (h.cel x q))
 ·exact .inr (h.fre x q)
noncomputable def zTu(o:Option jT):Bool:=o == some .local||o == some .cell||o == some .free
theorem zQu{o:Option jT}(h:zTu o=true):o=some .local∨o=some .cell∨o=some .free:=by
 unfold zTu at h;simp only[qH8,beq_iff_eq]at h;rcases h with(h|h)| h
 ·exact .inl h
 ·exact .inr (.inl h)
 ·exact .inr (.inr h)
noncomputable def zEG:yH->Str->Nat->yK
 |[],_,_=>none
 |y::r,x,i=>if y=x then some i else zEG r x (i+1)
theorem zDv:∀{N:yH}{x:Str}{i j:Nat},zEG N x i=some j->i<=j/\N[j - i]?=some x
 |[],_,_,_,h=>by cases h
 |y::r,x,i,j,h=>by
  unfold zEG at h;split at h
  ·rename_i e;cases h;subst e;exact⟨qA6 _,by simp⟩
  ·obtain⟨h1,h2⟩:=zDv h;refine⟨by omega,?_⟩;have e:j - i=(j - (i+1))+1:=by omega
   rw[e,qD6];exact h2
noncomputable def zTY(sc:Sc)(ar:Str->yK)(x:Str):Option C:=match zEG sc.N x 0 with
 |some i=>if zTu (sc.names.lookup x)&&!(x == ("__debug__":Str))&&!(x == ("__classdict__":Str))then some (cVar i)else none
 |none=>if sc.names.lookup x=some .globalImplicit/\ar x=none then
   (if x=("int":Str)then some (cCon (.ty "int"))else if x=("bool":Str)then some (cCon (.ty "bool"))else if x=("tuple":Str)then some (cCon (.ty "tuple"))
    else if x=("list":Str)then some (cCon (.ty "list"))else if x=("str":Str)then some (cCon (.ty "str"))
    else none)
  else none
theorem zV7(h:XOk X sc ar cl k){x:Str}{pos:Pos}{c:C}(e:zTY sc ar x=some c):PE X (.Name x pos) (tOf X.K c):=by
 unfold zTY at e;split at e
 ·rename_i i hi;split at e
  ·rename_i hv;cases e;simp only[qC5,qG8]at hv;obtain⟨⟨h1,h2⟩,h3⟩:=hv;have:=(zDv hi).2;exact zUU (zIU (by rw[h.N];exact this) (h.vis (zQu h1)) h2 h3)
  ·cases e
 ·split at e
  ·rename_i hg;have g:=h.gl x hg.1;have ty:∀(n:String) (b:jH x=some (.type n)) (hn:x ≠ "__name__") (hd:nDb x) (hm:X.mg x=none),PE X (.Name x pos) (tOf X.K (cCon (.ty n))):=λn b hn hd hm =>
    zIM (zNu (v:=.ty n) g hm b rfl hn hd) λK H J=>by unfold RV;rfl
   split at e
   ·rename_i q;subst q;cases e;exact ty "int" zRG (by decide +kernel) (by decide +kernel) (h.blt.b _ (by decide +kernel) hg.2)
   ·split at e
    ·rename_i q;subst q;cases e;exact ty "bool" zU3 (by decide +kernel) (by decide +kernel) (h.blt.b _ (by decide +kernel) hg.2)
    ·split at e
     ·rename_i q;subst q;cases e;exact ty "tuple" zLI (by decide +kernel) (by decide +kernel) (h.blt.b _ (by decide +kernel) hg.2)
     ·split at e
      ·rename_i q;subst q;cases e;exact ty "list" zKK (by decide +kernel) (by decide +kernel) (h.blt.b _ (by decide +kernel) hg.2)
      ·split at e
       ·rename_i q;subst q;cases e;exact ty "str" zXb (by decide +kernel) (by decide +kernel) (h.blt.b _ (by decide +kernel) hg.2)
       ·cases e
  ·cases e
noncomputable def zRE:Const->Option C
 |.none=>some (cCon .non)
 |.bool b=>some (cCon (.bl b))
 |.int i=>some (cCon (.int i))
 |.str x=>some (cCon (.str x))
 |_=>none
theorem zSr{v:Const}{j:Nat}{pos:Pos}{c:C}(e:zRE v=some c):PE X (.Constant v j pos) (tOf X.K c):=by
 cases v with
 |none=>cases e;exact zIM zNt λ_ _ _=>zE9
 |bool b=>cases e;exact zIM zYE λ_ _ _=>zDC
 |int i=>cases e;exact zIM zVx λ_ _ _=>zAy
 |str x=>cases e;exact zIM zRi λ_ _ _=>zNe
 |_=>cases e
noncomputable def zVZ:m6->Option (D->D->M D)
 |.Add=>some oAdd
 |.Sub=>some (oInt λi j=>i - j)
 |.Mult=>some oMul
 |.Mod=>some oMod
 |.FloorDiv=>some oDiv
 |.Pow=>some oPow
 |.LShift=>some oShl
 |.RShift=>some oShr
 |.BitAnd=>some (oInt jL)
 |.BitOr=>some (oInt vJ)
 |.BitXor=>some (oInt lQ)
 |_=>none
theorem s_op{op:m6}{o:D->D->M D}(e:zVZ op=some o):OpS X.K (rAny X (jJ op)) o:=by
 cases op with
 |Add=>cases e;exact zVK
 |Sub=>cases e;exact zVB
 |Mult=>cases e;exact zVF
 |Mod=>cases e;exact zVG
 |FloorDiv=>cases e;exact zVI
 |Pow=>cases e;exact zVE
 |LShift=>cases e;exact zVD
 |RShift=>cases e;exact zVC
 |BitAnd=>cases e;exact zVJ
 |BitOr=>cases e;exact zYH
 |BitXor=>cases e;exact zVA
 |_=>cases e
noncomputable def zQ4:fY->Option (D->D->M D)
 |.Eq=>some oEq
 |.NotEq=>some oNe
 |.Lt=>some oLt
 |.LtE=>some (oCmp λi j=>decide (i<=j))
 |.Gt=>some (oCmp λi j=>decide (j<i))
 |.GtE=>some (oCmp λi j=>decide (j<=i))
 |.Is=>some oIs
 |.IsNot=>some zIX
 |.In=>some (oIn false)
 |.NotIn=>some (oIn true)
theorem zLX(h:Room k X.A){op:fY}{o:D->D->M D}(e:zQ4 op=some o):OpS X.K (rAny X (y9 op)) o:=by
 have h1:=h.units;have h2:=h.units0;have h3:X.A.units+1<cLine:=zQD h;cases op with
 |Eq=>cases e;exact zYP h1
 |NotEq=>cases e;exact zYI h1
 |Lt=>cases e;exact zYJ h2
 |LtE=>cases e;exact zYK
 |Gt=>cases e;exact zYN
 |GtE=>cases e;exact zYO
 |Is=>cases e;exact zYL
 |IsNot=>cases e;exact zQ1
 |In=>cases e;exact zYM h1
 |NotIn=>cases e;exact zQ0 h1
noncomputable def zAz:y4->Bool
 |.Starred _ _=>false
 |_=>true
theorem zAa{a:y4}{es:yE}{env:Env}(h:zAz a=true):jF (a::es) env=(false,vL a env)::jF es env:=by cases a<;>first|rfl|cases h
noncomputable def zA2?(f:y4->Option C):yE->Option (List C)
 |[]=>some []
 |e::es=>if zAz e then(f e).bind λc=>(zA2? f es).map (c::·)else none
def zC2(X:Cx)(f:y4->Option C):Prop:=∀e c,f e=some c->PE X e (tOf X.K c)
variable {f:y4->Option C}
theorem zCO(hf:zC2 X f):∀{es:yE}{cs:List C},zA2? f es=some cs->PA X es (tOfA X.K (zA2 cs))/\(∀e∈es,zAz e=true)
 |[],cs,e=>by cases e;exact⟨zN9,by simp⟩
 |a::es,cs,e=>by
  unfold zA2? at e;split at e
  ·rename_i hs;obtain⟨c,e1,e⟩:=qA1.mp e;obtain⟨cs',e2,e⟩:=qA2.mp e;subst e;obtain⟨h1,h2⟩:=zCO hf e2;exact⟨zHv (hf a c e1) h1 (zAa hs),λe he=>by
    rcases qB0.mp he with rfl|he
    ·exact hs
    ·exact h2 e he⟩
  ·cases e
theorem zCe{es:yE}{env:Env}{pos:Pos}(h:∀e∈es,zAz e=true):(wM pos (jF es env)).any (·.1)=false:=by
 induction es with
 |nil=>rfl
 |cons a es ih =>
  rw[zAa (h a (by simp))];show(false||(wM pos (jF es env)).any (·.1))=false;rw[ih λe he=>h e (by simp[he])];rfl
noncomputable def zEx:y4->Bool
 |.Slice _ _ _ _=>true
 |_=>false
theorem zNo{b:y4}(h:zEx b=false):zIu b:=by cases b<;>first|(intro o i;rfl)| cases h
noncomputable def zJF?(f:y4->Option C):Option y4->Option CO
 |none=>some zIg
 |some e=>(f e).map zJF
theorem zRe(hf:zC2 X f){e:Option y4}{c:CO}(h:zJF? f e=some c):PO X e (tOfO X.K c):=by
 cases e with
 |none=>cases h;exact zSa
 |some a =>
  obtain⟨ca,e1,e2⟩:=qA2.mp h;subst e2;exact zS9 (hf a ca e1)
noncomputable def cSub(f:y4->Option C)(a b:y4):Option C:=match b with
 |.Slice lo hi none _=>(f a).bind λca=>(zJF? f lo).bind λcl=>(zJF? f hi).map λch=>cSl oSl ca cl ch
 |_=>if zEx b then none else(f a).bind λca=>(f b).map λcb=>cBin oIx ca cb
theorem zYn(h:Room k X.A)(hf:zC2 X f){a b:y4}{pos:Pos}{c:C}(e:cSub f a b=some c):PE X (.Subscript a b pos) (tOf X.K c):=by
 unfold cSub at e;split at e
 ·obtain⟨ca,e1,e⟩:=qA1.mp e;obtain⟨cl,e2,e⟩:=qA1.mp e;obtain⟨ch,e3,e⟩:=qA2.mp e;subst e;exact zPC zYe (hf a ca e1) (zRe hf e2) (zRe hf e3)
 ·split at e
  ·cases e
  ·rename_i hs;obtain⟨ca,e1,e⟩:=qA1.mp e;obtain⟨cb,e2,e⟩:=qA2.mp e;subst e;exact zYl (zVH (zQD h)) (hf a ca e1) (hf b cb e2) (zNo (by simpa using hs))
noncomputable def zEh(f:y4->Option C)(a:y4)(ops:List fY)(bs:yE):Option C:=match ops,bs with
 |[op],[b]=>if fG op b then none else(zQ4 op).bind λo=>(f a).bind λca=>(f b).map λcb=>cBin o ca cb
 |[op,op'],[b,c]=>if mE [op,op'] [b,c]then none else(zQ4 op).bind λo=>(zQ4 op').bind λo'=>(f a).bind λca=>(f b).bind λcb=>(f c).map λcc=>zG9 o o' ca cb cc
 |_,_=>none
theorem zNc(h:Room k X.A)(hf:zC2 X f){a:y4}{ops:List fY}{bs:yE}{pos:Pos}{c:C}(e:zEh f a ops bs=some c):PE X (.Compare a ops bs pos) (tOf X.K c):=by
 unfold zEh at e;split at e
 ·rename_i op b;split at e
  ·cases e
  ·rename_i hm;obtain⟨o,e0,e⟩:=qA1.mp e;obtain⟨ca,e1,e⟩:=qA1.mp e;obtain⟨cb,e2,e⟩:=qA2.mp e;subst e;exact zV1 (zLX h e0) (hf a ca e1) (hf b cb e2) (by simpa using hm)
 ·rename_i op op' b c;split at e
  ·cases e
  ·rename_i hm;obtain⟨o,e0,e⟩:=qA1.mp e;obtain⟨o',e0',e⟩:=qA1.mp e;obtain⟨ca,e1,e⟩:=qA1.mp e;obtain⟨cb,e2,e⟩:=qA1.mp e;obtain⟨cc,e3,e⟩:=qA2.mp e;subst e;exact zPF (zLX h e0) (zLX h e0') (hf a ca e1) (hf b cb e2) (hf c cc e3) (by simpa using hm)
 ·cases e
noncomputable def zHo(f:y4->Option C)(a:y4)(ops:List fY)(bs:yE):Option CT:=match ops,bs with
 |ops,bs=>(zEh f a ops bs).map zAs
theorem zLW(h:Room k X.A)(hf:zC2 X f){a:y4}{ops:List fY}{bs:yE}{pos:Pos}{c:CT}(e:zHo f a ops bs=some c):PT X (.Compare a ops bs pos) (tOfT X.K c):=by
 unfold zHo at e;split at e
 ·obtain⟨cc,e1,e⟩:=qA2.mp e;subst e;unfold zEh at e1;split at e1
  ·split at e1
   ·cases e1
   ·rename_i hm;obtain⟨o,e0,e⟩:=qA1.mp e1;obtain⟨ca,g1,e⟩:=qA1.mp e;obtain⟨cb,e2,e⟩:=qA2.mp e;subst e;exact zUD (zLX h e0) (hf _ ca g1) (hf _ cb e2) (by simpa using hm)
  ·split at e1
   ·cases e1
   ·rename_i hm;obtain⟨o,e0,e⟩:=qA1.mp e1;obtain⟨o',e0',e⟩:=qA1.mp e;obtain⟨ca,g1,e⟩:=qA1.mp e;obtain⟨cb,e2,e⟩:=qA1.mp e;obtain⟨cc,e3,e⟩:=qA2.mp e;subst e;exact zPu (zLX h e0) (zLX h e0') (hf _ ca g1) (hf _ cb e2) (hf _ cc e3) (by simpa using hm)
  ·cases e1
noncomputable def zIR:y4->Bool
 |.Name _ _=>true
 |.Subscript _ _ _=>true
 |.Call _ (_::_) _ _=>true
 |_=>false
theorem zU6{o:y4}{name:Str}{env:Env}(h:zIR o=true):wK o name env (vL o env)=vL o env:=by
 cases o with
 |Call f args kw pos =>
  cases args with
  |nil=>cases h
  |cons a r=>cases f<;>rfl
 |_=>first|rfl|cases h
noncomputable def zWd(x:Str):Option (List D->M D) :=
 if x=("dict":Str)then some zKw else
 none
noncomputable def zR4(x:Str):Option (List D->M D) :=
 if x=("len":Str)then some fLen else
 if x=("isinstance":Str)then some zBE else
 if x=("tuple":Str)then some zBx else
 if x=("list":Str)then some zQQ else
 if x=("min":Str)then some fMin else
 if x=("max":Str)then some fMax else
 if x=("int":Str)then some fInt else
 if x=("sorted":Str)then some zC5 else
 if x=("sum":Str)then some fSum else
 zWd x
noncomputable def zIP:y4->Option (yE)
 |.Call (.Name x _) as [] _=>if x=("range":Str)then some as else none
 |_=>none
noncomputable def zOD:List D->M D:=λxs S=>match xs with
 |[.int j]=>if -4611686018427387904<=j/\j<4611686018427387904/\j<=1000 then .ok (.lst S.length) (S++[.lst (upD 0 j.toNat)])else .bad
 |[.int i,.int j]=>if -4611686018427387904<=i/\i<4611686018427387904/\-4611686018427387904<=j/\j<4611686018427387904/\j - i<=1000 then .ok (.lst S.length) (S++[.lst (upD i (j - i).toNat)])else .bad
 |_=>.bad
noncomputable def zLF(sc:Sc)(ar:Str->yK)(cl:Str->List D->M D)(f:y4->Option C)(x:Str)(es:yE):Option C :=
 if sc.names.lookup x=some .globalImplicit then
  match ar x with
  |some n=>if es.length=n/\es≠[]/\nDb x then(zA2? f es).map λcs=>cApp (cl x) (zA2 cs)else none
  |none=>match es with
   |[e] =>
    match zIP e with
    |some as=>if x=("list":Str)/\ar "range"=none/\sc.names.lookup ("range":Str)=some .globalImplicit/\(as.length=1∨as.length=2)then(zA2? f as).map λcs=>cApp zOD (zA2 cs)else none
    |none=>(zR4 x).bind λo=>(zA2? f es).map λcs=>cApp o (zA2 cs)
   |_::_=>(zR4 x).bind λo=>(zA2? f es).map λcs=>cApp o (zA2 cs)
   |[]=>none
 else none
theorem zPq{K:yQ}{H:Hp}{J:yC}(lo:Int)(n:Nat):RVs K H J (upD lo n) (upV lo n):=by
 unfold upD upV;generalize List.range n=l
 induction l with
 |nil=>exact .nil
 |cons a r ih=>exact .cons zAy ih
set_option maxHeartbeats 2000000 in
theorem zV9(h:XOk X sc ar cl k){x:Str}(hx:sc.names.lookup x=some .globalImplicit)(hn:ar x=none){o:List D->M D}(eo:zR4 x=some o){e:y4}{es:yE}{cs:List C}(ha:PA X (e::es) (tOfA X.K (zA2 cs)))(hs:∀a∈e::es,zAz a=true){p pos:Pos}:PE X (.Call (.Name x p) (e::es) [] pos) (tOf X.K (cApp o (zA2 cs))):=by
 have g:=h.gl x hx;have s1:=zAa (es:=es) (env:=X.env) (hs e (by simp));have s2:(wM pos (jF es X.env)).any (·.1)=false:=zCe λa ha=>hs a (by simp[ha]);unfold zR4 at eo;have BB:∀(id:String) (hb:jH x=some (.builtin id)) (hm:X.mg x=none) (hne:x ≠ "__name__") (hd:nDb x) (o:List D->M D),zEF X.K (cAny X (.builtin id)) o->PE X (.Call (.Name x p) (e::es) [] pos) (tOf X.K (cApp o (zA2 cs))):=λid hb hm hne hd o ho =>
  (zHz zG7 g hm hb ha hne hd s1 s2).weak (zRk ho)
 have T:∀(id:String) (hb:jH x=some (.type id)) (hm:X.mg x=none) (hne:x ≠ "__name__") (hd:nDb x) (o:List D->M D),zEF X.K (cAny X (.type id)) o->PE X (.Call (.Name x p) (e::es) [] pos) (tOf X.K (cApp o (zA2 cs))):=λid hb hm hne hd o ho =>
  (zFp zG7 g hm hb ha hne hd s1 s2).weak (zRk ho)
 split at eo
 ·rename_i q;subst q;cases eo;exact BB "len" zRF (h.blt.b _ (by decide +kernel) hn) (by decide +kernel) (by decide +kernel) _ zRA
 split at eo
 ·rename_i q;subst q;cases eo;exact BB "isinstance" zIi (h.blt.b _ (by decide +kernel) hn) (by decide +kernel) (by decide +kernel) _ zTS
 split at eo
 ·rename_i q;subst q;cases eo;exact T "tuple" zLI (h.blt.b _ (by decide +kernel) hn) (by decide +kernel) (by decide +kernel) _ zQX
 split at eo
 ·rename_i q;subst q;cases eo;exact T "list" zKK (h.blt.b _ (by decide +kernel) hn) (by decide +kernel) (by decide +kernel) _ (zTR h.calm)
 split at eo
 ·rename_i q;subst q;cases eo;exact BB "min" zXc (h.blt.b _ (by decide +kernel) hn) (by decide +kernel) (by decide +kernel) _ (zX4 h.calm)
 split at eo
 ·rename_i q;subst q;cases eo;exact BB "max" zXd (h.blt.b _ (by decide +kernel) hn) (by decide +kernel) (by decide +kernel) _ (zX5 h.calm)
 split at eo
 ·rename_i q;subst q;cases eo;exact T "int" zRG (h.blt.b _ (by decide +kernel) hn) (by decide +kernel) (by decide +kernel) _ zX6
 split at eo
 ·rename_i q;subst q;cases eo;exact BB "sorted" (by decide +kernel) (h.blt.b _ (by decide +kernel) hn) (by decide +kernel) (by decide +kernel) _ (zOT h.calm h.room.units)
 split at eo
 ·rename_i q;subst q;cases eo;exact BB "sum" (by decide +kernel) (h.blt.b _ (by decide +kernel) hn) (by decide +kernel) (by decide +kernel) _ (zX3 h.calm)
 unfold zWd at eo;split at eo
 ·rename_i q;subst q;cases eo;exact T "dict" (by decide +kernel) (h.blt.b _ (by decide +kernel) hn) (by decide +kernel) (by decide +kernel) _ (zTT h.calm)
 cases eo
theorem zSp(h:XOk X sc ar cl k)(hx:sc.names.lookup ("list":Str)=some .globalImplicit)(hn:ar "list"=none)(hr:sc.names.lookup ("range":Str)=some .globalImplicit)(hnr:ar "range"=none){as:yE}{cs:List C}(ha:PA X as (tOfA X.K (zA2 cs)))(hs:∀a∈as,zAz a=true)(hl:as.length=1∨as.length=2){p pos p2 pos2:Pos}:
  PE X (.Call (.Name "list" p) [.Call (.Name "range" p2) as [] pos2] [] pos) (tOf X.K (cApp zOD (zA2 cs))):=by
 have g1:=h.gl _ hx;have g2:=h.gl _ hr;have R:PE X (.Call (.Name "range" p2) as [] pos2) (tCB (cAny X (.type "range")) (tOfA X.K (zA2 cs))):=by
  cases as with
  |nil=>simp at hl
  |cons e es=>exact zFp zG7 g2 (h.blt.b _ (by decide +kernel) hnr) zR3 ha (by decide +kernel) (by decide +kernel) (zAa (hs e (by simp))) (zCe λa ha=>hs a (by simp[ha]))
 have L:=zFp (p:=p) (pos:=pos) (zG7 (X:=X) (f:=.type "list")) g1 (h.blt.b _ (by decide +kernel) hn) zKK (zFr R zL4 rfl) (by decide +kernel) (by decide +kernel) rfl rfl;refine L.weak ?_;rintro Z H Q ⟨J,B,S,d,S',sr,re,e,y⟩;obtain⟨xs,S1,e1,e⟩:=zA7 e;refine⟨J,B,S,xs,S1,sr,re,e1,λvs H1 J1 sr1 st1 r1=>?_⟩;have y1:=y.shift st1;have fin:∀(i j:Int),-4611686018427387904<=i->i<4611686018427387904->-4611686018427387904<=j->j<4611686018427387904->j - i<=1000->Yld X.K J1 H1 (.lst S1.length) (S1++[.lst (upD i (j - i).toNat)]) Q->∀q,H1 q=none->cAny X (.type "list") [.ref q] (upd H1 q (.rng i j)) Q:=by intro i j b1 b2 b3 b4 b5 y1 q hq;obtain⟨sr2,st2⟩:=sr1.other (o:=.rng i j) hq;exact⟨_,zIe h.calm,q,i,j,rfl,zAc,b1,b2,b3,b4,by omega,λl hl=>(y1.shift st2).newL sr2 hl (zPq _ _)⟩
 unfold zOD at e;split at e
 ·rename_i j;split at e
  ·rename_i hb;cases e;obtain⟨v,rfl,r⟩:=r1.one;unfold RV at r;subst r;refine⟨_,zKH,j,rfl,λq hq=>?_⟩;have:=fin 0 j (by decide) (by decide) hb.1 hb.2.1 (by omega) (by rw[Int.sub_zero];exact y1) q hq;exact this
  ·cases e
 ·rename_i i j;split at e
  ·rename_i hb;cases e;obtain⟨v,u,rfl,r,r'⟩:=r1.two;unfold RV at r r';subst r r';exact⟨_,zKG,i,j,rfl,λq hq=>fin i j hb.1 hb.2.1 hb.2.2.1 hb.2.2.2.1 hb.2.2.2.2 y1 q hq⟩
  ·cases e
 ·cases e
theorem zSt(h:XOk X sc ar cl k)(hf:zC2 X f){x:Str}{es:yE}{c:C}{p pos:Pos}(e:zLF sc ar cl f x es=some c):PE X (.Call (.Name x p) es [] pos) (tOf X.K c):=by
 unfold zLF at e;split at e
 ·rename_i hx;split at e
  ·rename_i n hn;split at e
   ·rename_i hc;obtain⟨hl,hne,hd⟩:=hc;obtain⟨cs,e1,e⟩:=qA2.mp e;subst e;obtain⟨h1,h2⟩:=zCO hf e1;obtain⟨⟨ps,Ca⟩,hlen⟩:=h.fns x n hn;cases es with
    |nil=>exact absurd rfl hne
    |cons a es =>
     exact(zFc (p:=p) (pos:=pos) Ca h.room (h.gl x hx) zYF h1 (qA6 _) hd (zAa (h2 a (by simp))) (zCe λb hb=>h2 b (by simp[hb]))).weak (zQ5 hlen)
   ·cases e
  ·rename_i hn;split at e
   ·rename_i a;split at e
    ·rename_i as ha;split at e
     ·rename_i hc;obtain⟨rfl,hnr,hr,hl⟩:=hc;obtain⟨cs,e1,e⟩:=qA2.mp e;subst e;obtain⟨h1,h2⟩:=zCO hf e1;unfold zIP at ha;split at ha
      ·rename_i x' p' as' pos';split at ha
       ·rename_i q;subst q;cases ha;exact zSp h hx hn hr hnr h1 h2 hl
       ·cases ha
      ·cases ha
     ·cases e
    ·obtain⟨o,e0,e⟩:=qA1.mp e;obtain⟨cs,e1,e⟩:=qA2.mp e;subst e;obtain⟨h1,h2⟩:=zCO hf e1;exact zV9 h hx hn e0 h1 h2
   ·obtain⟨o,e0,e⟩:=qA1.mp e;obtain⟨cs,e1,e⟩:=qA2.mp e;subst e;obtain⟨h1,h2⟩:=zCO hf e1;exact zV9 h hx hn e0 h1 h2
   ·cases e
 ·cases e
end
section
variable {X:Cx}{sc:Sc}{ar:Str->yK}{cl:Str->List D->M D}{k:Nat}{f:y4->Option C}
noncomputable def zWb(m:Str)(co:C):Option C :=
 if m=("bit_length":Str)then some (zLE "int" zNV co)else
 none
noncomputable def zWa(m:Str)(co ca:C):Option C :=
 if m=("append":Str)then some (zF3 "list" (zCY zAR) co (zA2 [ca]))else
 if m=("update":Str)then some (zF3 "dict" mUpd co (zA2 [ca]))else
 none
noncomputable def zW9(m:Str)(co ca cb:C):Option C :=
 if m=("insert":Str)then some (zF3 "list" (zCY zHV) co (zA2 [ca,cb]))else
 none
noncomputable def zKJ(f:y4->Option C)(o:y4)(m:Str)(es:yE)(apos cpos:Pos):Option C :=
 if zIR o&&(apos.endLine == cpos.line)then(f o).bind λco=>match es with
  |[]=>zWb m co
  |[a]=>if zAz a then(f a).bind λca=>zWa m co ca else none
  |[a,b]=>if zAz a&&zAz b then(f a).bind λca=>(f b).bind λcb=>zW9 m co ca cb else none
  |_=>none
 else none
theorem zPI(hr0:Room k X.A)(hf:zC2 X f){o:y4}{m:Str}{es:yE}{apos cpos:Pos}{c:C}(e:zKJ f o m es apos cpos=some c):PE X (.Call (.Attribute o m apos) es [] cpos) (tOf X.K c):=by
 unfold zKJ at e;split at e
 ·rename_i hc;rw[qC5]at hc;obtain⟨hr,hl⟩:=hc;obtain⟨co,e0,g⟩:=qA1.mp e;clear e;have hb:∀name,wK o name X.env (vL o X.env)=vL o X.env:=λname=>zU6 hr;split at g
  ·unfold zWb at g;split at g
   ·rename_i q;subst q;cases g;exact zPD PySem.F.plainAttrs_int PySem.F.slot_int_bit_length PySem.F.type_int_bit_length zT5 (hf o co e0) (hb _) hl
   cases g
  ·rename_i a;split at g
   ·rename_i hs;obtain⟨ca,e1,g'⟩:=qA1.mp g;clear g;have s1:=zAa (es:=[]) (env:=X.env) hs;have hA:PA X [a] (tOfA X.K (zA2 [ca])):=zHv (hf a ca e1) zN9 s1;have hfew:((wM cpos (jF [a] X.env)).all (λx=>!x.1)&&(backToKw cpos (lV [] X.env)).all (λx=>x.1.isSome)
     && decide ([a].length+([]:List lG).length+(if([]:List lG).isEmpty then 0 else 1)<30))=true:=by rw[s1];rfl
    unfold zWa at g';split at g'
    ·rename_i q;subst q;cases g';exact zK0 lA PySem.F.slot_list_append PySem.F.type_list_append zNS (hf o co e0) hA (hb _) hfew hl s1 rfl
    split at g'
    ·rename_i q;subst q;cases g';exact zK0 PySem.F.plainAttrs_dict gO PySem.F.type_dict_update zW8 (hf o co e0) hA (hb _) hfew hl s1 rfl
    cases g'
   ·cases g
  ·rename_i a b;split at g
   ·rename_i hs;rw[qC5]at hs;obtain⟨ca,e1,g1⟩:=qA1.mp g;obtain⟨cb,e2,g'⟩:=qA1.mp g1;clear g g1;have s2:=zAa (es:=[]) (env:=X.env) hs.2;have s1:=zAa (es:=[b]) (env:=X.env) hs.1;have hA:PA X [a,b] (tOfA X.K (zA2 [ca,cb])):=zHv (hf a ca e1) (zHv (hf b cb e2) zN9 s2) s1;have hfew:((wM cpos (jF [a,b] X.env)).all (λx=>!x.1)&&(backToKw cpos (lV [] X.env)).all (λx=>x.1.isSome)
     && decide ([a,b].length+([]:List lG).length+(if([]:List lG).isEmpty then 0 else 1)<30))=true:=by rw[s1,s2];rfl
    unfold zW9 at g';split at g'
    ·rename_i q;subst q;cases g';exact zK0 lA PySem.F.slot_list_insert PySem.F.type_list_insert zNR (hf o co e0) hA (hb _) hfew hl s1 (by rw[s2];rfl)
    cases g'
   ·cases g
  ·cases g
 ·cases e
noncomputable def zJG:C:=λ_ S=>.ok (.dct S.length) (S++[.dk []])
theorem zSm{pos:Pos}:PE X (.Dict [] [] pos) (tOf X.K zJG):=zPX.weak (by
 rintro Z H Q ⟨J,B,S,d,S',sr,re,e,y⟩;unfold zJG at e;cases e;intro p hp;obtain⟨s1,s2⟩:=sr.push (o:=.dK []) (o':=.dk []) hp ⟨[],zAc,RKs.nil⟩;exact y _ _ _ s1 s2 (by unfold RV;exact⟨p,rfl,by rw[<- sr.len,qA0 (qA6 _),qI8];rfl⟩))
noncomputable def zR1(a b:C):C:=fun B=>bnd (a B) λx=>bnd (b B) λy S=>match zFF x with
 |some k=>.ok (.dct S.length) (S++[.dk [(k,y)]])
 |none=>.bad
theorem zSl{a b:y4}{ca cb:C}{pos:Pos}(ha:PE X a (tOf X.K ca))(hb:PE X b (tOf X.K cb)):PE X (.Dict [some a] [b] pos) (tOf X.K (zR1 ca cb)):=(zSR (zPR ha hb zSM) rfl rfl (by simp) (by simp)).weak (by
 rintro Z H Q ⟨J,B,S,d,S',sr,re,e,y⟩;obtain⟨x,S1,e1,f1⟩:=zA7 e;obtain⟨z,S2,e2,f2⟩:=zA7 f1;split at f2
 ·rename_i key hk;cases f2;intro p hp;obtain⟨s1,s2⟩:=sr.other (o:=.dK []) hp;refine⟨J,B,S,x,S1,s1,re.up s2,e1,λv H1 J1 sr1 st1 r1=>⟨J1,B,S1,z,S2,sr1,(re.up s2).up st1,e2,λu H2 J2 sr2 st2 r2=>?_⟩⟩;have n0:p∉J:=sr.out hp;have q0:upd H p (.dK []) p=some (.dK []):=zAc;have q1:=st1.fr p _ n0 q0;have n1:=st1.notIn n0 q0;have q2:=st2.fr p _ n1 q1;have n2:=st2.notIn n1 q1;have ev:=zFE hk r1;subst ev;refine⟨q2,[(key,u)],rfl,by simp,?_⟩;have e3:zBs [] [(key,u)]=[(key,u)]:=by simp[zBs,putK]
  rw[e3];have tk:TF X.K H2 (upd H2 p (.dK [(key,u)])):=zH0 q2 (λ_ z=>by cases z) (λ_ _ z=>by cases z);have st12:=st1.trans st2 sr2.nd;have st02:Step X.K J J2 H H2:=s2.trans st12 sr2.nd;have sr3:SR X.K (J2++[p]) (S2++[.dk [(key,z)]]) (upd H2 p (.dK [(key,u)])):=by
   refine⟨by simp[sr2.len],?_,λn a w g1 g2=>?_⟩
   ·rw[qI1];refine⟨sr2.nd,by simp,λa ha b hb=>?_⟩;simp at hb;subst hb;exact λz=>n2 (z▸ha)
   ·by_cases hn:n<J2.length
    ·rw[qA7 hn]at g1;rw[qA7 (by rw[<- sr2.len];exact hn)]at g2;exact(sr2.obj n a w g1 g2).up tk ⟨[p],rfl⟩ (zA6 λz=>n2 (z▸qB5 g1))
    ·rw[qA0 (by omega)]at g1;rw[qA0 (by rw[<- sr2.len];omega)]at g2;have h1:n - J2.length=0:=by have:=(qA3.mp g1).1;simp at this;omega
     rw[h1]at g1;rw[<- sr2.len,h1]at g2;simp at g1 g2;subst g1 g2;exact⟨[(key,u)],zAc,RKs.cons (RV.up tk ⟨[p],rfl⟩ _ _ r2) .nil⟩
  have st3:Step X.K J (J2++[p]) H (upd H2 p (.dK [(key,u)])):=by
   obtain⟨ν,e4,n⟩:=st02.pre;refine⟨⟨ν++[p],by rw[e4,qB6],λb hb=>?_⟩,λb o hb q=>by rw[zA6 (zAH q hp)];exact st02.fr b o hb q,st02.tk.trans tk⟩;rcases qB9.mp hb with h|h
   ·exact n b h
   ·simp at h;subst h;exact hp
  exact y _ _ _ sr3 st3 (by unfold RV;exact⟨p,rfl,by rw[<- sr2.len,qA0 (qA6 _),qI8];rfl⟩)
 ·cases f2)
noncomputable def zU0(f:y4->Option C)(ks:List (Option y4))(vs:yE):Option C:=match ks,vs with
 |[],[]=>some zJG
 |[some a],[b]=>(f a).bind λca=>(f b).map λcb=>zR1 ca cb
 |_,_=>none
theorem zV8(hf:zC2 X f){ks:List (Option y4)}{vs:yE}{pos:Pos}{c:C}(e:zU0 f ks vs=some c):PE X (.Dict ks vs pos) (tOf X.K c):=by
 unfold zU0 at e;split at e
 ·cases e;exact zSm
 ·obtain⟨ca,e1,e⟩:=qA1.mp e;obtain⟨cb,e2,e⟩:=qA2.mp e;subst e;exact zSl (hf _ _ e1) (hf _ _ e2)
 ·cases e
noncomputable def zLG(op:BoolOp)(f:y4->Option C):yE->Option C
 |[]=>none
 |[a]=>f a
 |a::b::r=>(f a).bind λca=>(zLG op f (b::r)).map λcb=>match op with
  |.And=>zIh ca cb
  |.Or=>cOrV ca cb
theorem zK1(hf:zC2 X f){op:BoolOp}{pos:Pos}:∀{vs:yE}{c:C},zLG op f vs=some c->PE X (.BoolOp op vs pos) (tOf X.K c)
 |[],c,e=>by cases e
 |[a],c,e=>zVt (hf a c e)
 |a::b::r,c,e=>by
  unfold zLG at e;obtain⟨ca,e1,e⟩:=qA1.mp e;obtain⟨cb,e2,e⟩:=qA2.mp e;subst e;cases op with
  |And=>exact zV3 (hf a ca e1) (zK1 hf e2)
  |Or=>exact zYk (hf a ca e1) (zK1 hf e2)
def zHk(X:Cx)(t:y4->Option CT):Prop:=∀e c,t e=some c->PT X e (tOfT X.K c)
variable {t:y4->Option CT}
noncomputable def zLH(op:BoolOp)(t:y4->Option CT):yE->Option CT
 |[]=>none
 |[a]=>t a
 |a::b::r=>(t a).bind λca=>(zLH op t (b::r)).map λcb=>match op with
  |.And=>zPe ca cb
  |.Or=>cOrT ca cb
theorem zK2(ht:zHk X t){op:BoolOp}{pos:Pos}:∀{vs:yE}{c:CT},zLH op t vs=some c->PW X (.BoolOp op vs pos) (tOfT X.K c)
 |[],c,e=>by cases e
 |[a],c,e=>by
  cases op with
  |And=>exact zSE (ht a c e)
  |Or=>exact zVl (ht a c e)
 |a::b::r,c,e=>by
  unfold zLH at e;obtain⟨ca,e1,e⟩:=qA1.mp e;obtain⟨cb,e2,e⟩:=qA2.mp e;subst e;cases op with
  |And=>exact zUA (ht a ca e1) (zK2 ht e2)
  |Or=>exact zYd (ht a ca e1) (zK2 ht e2)
noncomputable def zB0:y4->Bool
 |.Tuple _ _ _=>true
 |_=>false
noncomputable def zKi:y4->Bool
 |.Set _ _ _=>true
 |_=>false
theorem zFS{iter:y4}{env:Env}(h:zKi iter=false):∀x,wB iter env x=pure x:=by cases iter<;>first|(intro x;rfl)| cases h
noncomputable def zPc(o:Option (List C))(es:yE):Option CI:=o.bind λcs=>match es with
 |[_]=>some (zBw (zA2 cs))
 |[_,_]=>some (zHP (zA2 cs))
 |_=>none
noncomputable def zTX(t:Bool)(o:Option (List C))(es:yE):Option CI:=if t=true then o.bind λcs=>match es with
  |[_,_]=>some (zKl (zA2 cs))
  |_=>none
 else none
noncomputable def zPd(t:Bool)(o:Option (List C))(es:yE):Option CI:=if t=true then o.bind λcs=>match es with
  |[_]=>some (zLs (zA2 cs))
  |_=>none
 else none
noncomputable def zMs(sc:Sc)(ar:Str->yK)(f:y4->Option C)(tg iter:y4):Option CI:=if zKi iter then none else match iter with
 |.Call (.Name x _) es [] _=>if sc.names.lookup x=some .globalImplicit/\ar x=none then
   (if x=("range":Str)then zPc (zA2? f es) es else
    if x=("zip":Str)then zTX (zB0 tg) (zA2? f es) es else
    if x=("enumerate":Str)then zPd (zB0 tg) (zA2? f es) es else
    (f iter).map iSeq)
  else(f iter).map iSeq
 |_=>(f iter).map iSeq
theorem zPH(hf:zC2 X f){tg:y4}{es:yE}{c:CI}{p pos:Pos}(g:Gl X "range")(hm:X.mg "range"=none)(e:zPc (zA2? f es) es=some c):PI X tg (.Call (.Name "range" p) es [] pos) (tOfI X.K c):=by
 obtain⟨cs,e1,e2⟩:=qA1.mp e;clear e;obtain⟨h1,h2⟩:=zCO hf e1
 match es,h1,h2,e2 with
 |[a],h1,h2,e2 =>
  cases e2;exact zN4 (zNr g hm h1 (by rw[zAa (h2 a (by simp))];rfl))
 |[a,b],h1,h2,e2 =>
  cases e2;exact zN3 (zNq g hm h1 (by rw[zAa (h2 a (by simp)),zAa (h2 b (by simp))];rfl) (by rw[zAa (h2 b (by simp))];rfl))
 |[],h1,h2,e2=>cases e2
 |_::_::_::_,h1,h2,e2=>cases e2
theorem zOi{tg:y4}(h:zB0 tg=true):∃es k pos,tg=.Tuple es k pos:=by cases tg<;>first|exact⟨_,_,_,rfl⟩| cases h
theorem zV5(hf:zC2 X f){tg:y4}{es:yE}{c:CI}{p pos:Pos}(g:Gl X "zip")(hm:X.mg "zip"=none)(e:zTX (zB0 tg) (zA2? f es) es=some c):PI X tg (.Call (.Name "zip" p) es [] pos) (tOfI X.K c):=by
 unfold zTX at e;by_cases ht:zB0 tg=true
 ·rw[if_pos ht]at e;obtain⟨ts,kt,pt,rfl⟩:=zOi ht;obtain⟨cs,e1,e2⟩:=qA1.mp e;clear e ht;obtain⟨h1,h2⟩:=zCO hf e1
  match es,h1,h2,e2 with
  |[a,b],h1,h2,e2 =>
   cases e2;exact zUN (zSP g hm h1 (by rw[zAa (h2 a (by simp)),zAa (h2 b (by simp))];rfl) (by rw[zAa (h2 b (by simp))];rfl))
  |_::_::_::_,h1,h2,e2=>cases e2
  |[],h1,h2,e2=>cases e2
  |[_],h1,h2,e2=>cases e2
 ·rw[if_neg ht]at e;cases e
theorem zSq(hf:zC2 X f){tg:y4}{es:yE}{c:CI}{p pos:Pos}(g:Gl X "enumerate")(hm:X.mg "enumerate"=none)(e:zPd (zB0 tg) (zA2? f es) es=some c):PI X tg (.Call (.Name "enumerate" p) es [] pos) (tOfI X.K c):=by
 unfold zPd at e;by_cases ht:zB0 tg=true
 ·rw[if_pos ht]at e;obtain⟨ts,kt,pt,rfl⟩:=zOi ht;obtain⟨cs,e1,e2⟩:=qA1.mp e;clear e ht;obtain⟨h1,h2⟩:=zCO hf e1
  match es,h1,h2,e2 with
  |[a],h1,h2,e2 =>
   cases e2;exact zSe (zPT g hm h1 (by rw[zAa (h2 a (by simp))];rfl))
  |[],h1,h2,e2=>cases e2
  |_::_::_,h1,h2,e2=>cases e2
 ·rw[if_neg ht]at e;cases e
theorem zNb(h:XOk X sc ar cl k)(hf:zC2 X f){tg iter:y4}{c:CI}(e:zMs sc ar f tg iter=some c):PI X tg iter (tOfI X.K c)/\zKi iter=false:=by
 unfold zMs at e;split at e
 ·cases e
 rename_i hset;refine⟨?_,by simpa using hset⟩;have dflt:∀{c},(f iter).map iSeq=some c->PI X tg iter (tOfI X.K c):=λe=>by obtain⟨ca,e1,e⟩:=qA2.mp e;subst e;exact zUO (hf _ _ e1)
 split at e
 ·rename_i x p es pos;split at e
  ·rename_i hx;have g:=h.gl x hx.1;split at e
   ·rename_i q;subst q;exact zPH hf g (h.blt.b _ (by decide +kernel) hx.2) e
   split at e
   ·rename_i q;subst q;exact zV5 hf g (h.blt.b _ (by decide +kernel) hx.2) e
   split at e
   ·rename_i q;subst q;exact zSq hf g (h.blt.b _ (by decide +kernel) hx.2) e
   exact dflt e
  ·exact dflt e
 ·exact dflt e
noncomputable def zEt:yE->Option (yH)
 |[]=>some []
 |.Name x _::r=>(zEt r).map (x::·)
 |_::_=>none
noncomputable def zLR:y4->Option (Tgt×yH)
 |.Name x _=>some (.one,[x])
 |.Tuple es _ _=>(zEt es).map λxs=>(.many xs.length,xs)
 |_=>none
noncomputable def zAh(ns:List (Str×jT)):yH:=(ns.filter λy=>y.2 == .free).map (·.1)
noncomputable def slots(N:yH):yH->Option (List Nat)
 |[]=>some []
 |x::r=>(zEG N x 0).bind λj=>(slots N r).map (j::·)
noncomputable def zOY(xs:yH)(scope:jS):Sc:=⟨xs++zAh scope.names,scope.names,none⟩
noncomputable def compOk(sc:Sc)(xs:yH)(scope:jS):Bool :=
 decide (scope.kind=.function)&&scope.names.all (λy=>y.2 != .cell||scope.names.lookup y.1 == some .cell)&&scope.names.all (λy=>y.2 != .local||scope.names.lookup y.1 == some .local)
 && decide ((xs++zAh scope.names).Nodup)&&xs.all (λx=>scope.names.lookup x == some .local||scope.names.lookup x == some .cell)&&decide (1<=xs.length)
 && (zAh scope.names).all (λx=>(sc.names.lookup x == some .cell||sc.names.lookup x == some .free)&&scope.names.lookup x == some .free)
noncomputable def zG8(sc:Sc)(it:Option CI)(fe:Sc->y4->Option C)(ft:Sc->y4->Option CT)(tg elt:y4)(ifs:yE)(scope:jS):Option C :=
 (zLR tg).bind λp=>if compOk sc p.2 scope then(slots sc.N (zAh scope.names)).bind λjs=>it.bind λci=>(fe (zOY p.2 scope) elt).bind λce=>match ifs with
  |[]=>some (zCs ci p.2.length js p.1 (λ_=>ret true) ce)
  |[q]=>(ft (zOY p.2 scope) q).map λct=>zCs ci p.2.length js p.1 ct ce
  |_=>none
 else none
theorem zE4{N:yH}:∀{xs:yH}{js:List Nat},slots N xs=some js->js.length=xs.length/\∀(i j:Nat),js[i]?=some j->∃x,xs[i]?=some x/\N[j]?=some x
 |[],js,e=>by cases e;exact⟨rfl,λi j h=>by simp at h⟩
 |x::r,js,e=>by
  unfold slots at e;obtain⟨j0,e1,e⟩:=qA1.mp e;obtain⟨js',e2,e⟩:=qA2.mp e;subst e;obtain⟨h1,h2⟩:=zE4 e2;refine⟨by simp[h1],λi j h=>?_⟩;cases i with
  |zero=>simp at h;subst h;exact⟨x,rfl,(zDv e1).2⟩
  |succ i =>
   rw[qD6]at h;obtain⟨y,g1,g2⟩:=h2 i j h;exact⟨y,by rw[qD6];exact g1,g2⟩
theorem zCB{env:Env}:∀{names:List (Str×jT)}{x:Str}{k:jT},k≠.free->names.lookup x=some k ->
  (names.map fun(n,k)=>if(k == NameKind.free&&env.scope.kind == .function&&env.kindOf n == some .cell)then(n,NameKind.cell)else(n,k)).lookup x=some k
 |[],_,_,_,h=>by simp at h
 |(n,k')::r,x,k,nf,h=>by
  have ih:=@zCB env r x k nf;show List.lookup x ((if(k' == NameKind.free&&env.scope.kind == .function&&env.kindOf n == some .cell)=true then(n,NameKind.cell)else(n,k'))::_)=_;cases hx:x == n with
  |true =>
   simp only[qD1,hx]at h;cases h;have e:(k' == NameKind.free)=false:=by simpa using nf
   simp[qD1,hx,e]
  |false =>
   simp only[qD1,hx]at h;by_cases hc:(k' == NameKind.free&&env.scope.kind == .function&&env.kindOf n == some .cell)=true
   ·rw[if_pos hc];simp only[qD1,hx];exact ih h
   ·rw[if_neg hc];simp only[qD1,hx];exact ih h
theorem zQe{ns:List (Str×jT)}{x:Str}{k:jT}(h:ns.lookup x=some k):(x,k)∈ns:=zBI h
theorem XOk.comp(h:XOk X sc ar cl k){xs:yH}{scope:jS}(hc:compOk sc xs scope=true)(cl':List (Str×yR))(s:yS)(H:Hp)(C:yR)(ex:yC):XOk (zBG X scope (xs++zAh scope.names) cl' s H C ex) (zOY xs scope) ar cl k:=by
 unfold compOk at hc;simp only[qC5,decide_eq_true_eq]at hc;obtain⟨⟨⟨⟨⟨⟨c1,c2⟩,c3⟩,c4⟩,c5⟩,c6⟩,c7⟩:=hc;exact{
  calm:=h.calm
  N:=rfl
  nd:=c4
  gl:=λx hx=>zCB (by decide) hx
  loc:=λx hx=>zCB (by decide) hx
  cel:=λx hx=>zCB (by decide) hx
  fre:=λx hx=>zEH hx
  fnn:=λz=>by cases z
  room:=h.room
  roomT:=λz=>by cases z
  lam:=λz=>by cases z
  tk:=λz=>by cases z
  rf:=λz=>by cases z
  xk:=h.xk
  xm:=h.xm
  xv:=h.xv
  own:=PassesOwn.never
  exc:=h.exc
  blt:=h.blt
  fns:=h.fns }
theorem zFu:∀{es:yE}{xs:yH},zEt es=some xs->es.length=xs.length/\∀(i:Nat) (e:y4),es[i]?=some e->∃x pos,e=.Name x pos/\xs[i]?=some x
 |[],xs,h=>by cases h;exact⟨rfl,λi e h=>by simp at h⟩
 |a::r,xs,h=>by
  cases a with
  |Name x pos =>
   unfold zEt at h;obtain⟨ys,e1,e⟩:=qA2.mp h;subst e;obtain⟨h1,h2⟩:=zFu e1;refine⟨by simp[h1],λi e he=>?_⟩;cases i with
   |zero=>simp at he;subst he;exact⟨x,pos,rfl,rfl⟩
   |succ i =>
    rw[qD6]at he;obtain⟨y,p,g1,g2⟩:=h2 i e he;exact⟨y,p,g1,by rw[qD6];exact g2⟩
  |_=>cases h
theorem zGf{x:Str}{pos:Pos}{es:yE}{env:Env}:jQ (.Name x pos::es) env=(false,fA (.Name x pos) env)::jQ es env:=rfl
theorem zIT:∀{es:yE}{s:Nat},(∀(i:Nat) (e:y4),es[i]?=some e->∃x pos,e=.Name x pos/\X.N[s+i]?=some x/\Loc X.env.scope x/\(X.fn x=true∨X.env.scope.names.lookup x=some .local))->X.N.Nodup->PGs X es (zLv s es.length)
 |[],s,h,nd=>zNs
 |a::r,s,h,nd=>by obtain⟨x,pos,rfl,g1,g2,g3⟩:=h 0 a rfl;refine zL2 (zDg nd (by simpa using g1) g2 g3) (zIT (s:=s+1) (λi e he=>?_) nd) rfl;obtain⟨y,p,q1,q2,q3⟩:=h (i+1) e (by rw[qD6];exact he);exact⟨y,p,q1,by rw[show s+1+i=s+(i+1) by omega];exact q2,q3⟩
theorem zDa{env:Env}:∀{es:yE}{xs:yH},zEt es=some xs->(jQ es env).length=xs.length/\(jQ es env).findIdx? (·.1)=none
 |[],xs,h=>by cases h;exact⟨rfl,rfl⟩
 |a::r,xs,h=>by
  cases a with
  |Name x pos =>
   unfold zEt at h;obtain⟨ys,e1,e⟩:=qA2.mp h;subst e;obtain⟨h1,h2⟩:=zDa (env:=env) e1;rw[zGf];exact⟨by simp[h1],by rw[qP7];simp[h2]⟩
  |_=>cases h
theorem zRS{tg:y4}{t:Tgt}{xs:yH}(e:zLR tg=some (t,xs)):tgtK t=xs.length:=by
 cases tg with
 |Name x pos=>cases e;rfl
 |Tuple es n pos =>
  unfold zLR at e;obtain⟨ys,e1,e⟩:=qA2.mp e;cases e;rfl
 |_=>cases e
theorem zKW{X':Cx}{sc':Sc}(h:XOk X' sc' ar cl k){x:Str}(g:sc'.names.lookup x=some .local∨sc'.names.lookup x=some .cell/\X'.fn x=true):Loc X'.env.scope x/\(X'.fn x=true∨X'.env.scope.names.lookup x=some .local):=by
 rcases g with g|⟨g,f⟩
 ·exact⟨.inl (h.loc x g),.inr (h.loc x g)⟩
 ·exact⟨.inr (h.cel x g),.inl f⟩
theorem zYm{X':Cx}{sc':Sc}(h:XOk X' sc' ar cl k){tg:y4}{t:Tgt}{xs:yH}(e:zLR tg=some (t,xs))(hN:∀(i:Nat) (x:Str),xs[i]?=some x->sc'.N[i]?=some x/\(sc'.names.lookup x=some .local∨sc'.names.lookup x=some .cell/\X'.fn x=true)):PG X' tg (tOfT' X'.K t)/\tgtK t=xs.length:=by
 have nd:X'.N.Nodup:=by rw[h.N];exact h.nd
 cases tg with
 |Name x pos =>
  cases e;obtain⟨g1,g2⟩:=hN 0 x rfl;obtain⟨l1,l2⟩:=zKW h g2;exact⟨zDg nd (by rw[h.N];exact g1) l1 l2,rfl⟩
 |Tuple es n pos =>
  unfold zLR at e;obtain⟨ys,e1,e⟩:=qA2.mp e;cases e;obtain⟨a1,a2⟩:=zDa (env:=X'.env) e1;obtain⟨n1,n2⟩:=zFu e1;refine⟨?_,rfl⟩;have:=zIT (X:=X') (es:=es) (s:=0) (λi e he=>by
   obtain⟨x,pos,rfl,g⟩:=n2 i e he;obtain⟨g1,g2⟩:=hN i x g;obtain⟨l1,l2⟩:=zKW h g2;exact⟨x,pos,rfl,by rw[h.N,qL9];exact g1,l1,l2⟩) nd
  rw[n1]at this;exact zRh h.calm this a1 a2
 |_=>cases e
theorem zRC(h:XOk X sc ar cl k){xs:yH}{scope:jS}{js:List Nat}(hc:compOk sc xs scope=true)(e1:slots sc.N (zAh scope.names)=some js):zMy X scope (xs++zAh scope.names) xs.length js:=by
 obtain⟨l1,l2⟩:=zE4 e1;unfold compOk at hc;simp only[qC5,decide_eq_true_eq]at hc;obtain⟨⟨⟨⟨⟨⟨c1,c2⟩,c3⟩,c4⟩,c5⟩,c6⟩,c7⟩:=hc;have hf7:∀x,(x,NameKind.free)∈scope.names->(sc.names.lookup x=some .cell∨sc.names.lookup x=some .free)/\scope.names.lookup x=some .free:=λx hx=>by
  have hm:x∈zAh scope.names:=by unfold zAh;rw[qD8];exact⟨(x,.free),by rw[qF3];exact⟨hx,by simp⟩,rfl⟩
  have:=qD5.mp c7 x hm;simpa using this
 refine⟨h.calm,c1,λx hx=>?_,λx hx=>?_,λx hx hxl=>?_,?_,λi j hj=>?_⟩
 ·have:=qD5.mp c2 _ hx;simpa using this
 ·rcases(hf7 x hx).1 with q|q
  ·exact .inl (h.cel x q)
  ·exact h.fre x q
 ·have:=qD5.mp c3 x hx;simp only[qH8,bne_iff_ne,ne_eq,beq_iff_eq]at this;rcases this with z|z
  ·exact absurd hxl z
  ·exact z
 ·rw[qC3,l1]
 ·obtain⟨x,g1,g2⟩:=l2 i j hj;have hm:(x,NameKind.free)∈scope.names:=by
   have:=qB5 g1;unfold zAh at this;rw[qD8]at this;obtain⟨⟨y,ky⟩,m1,m2⟩:=this;rw[qF3]at m1;dsimp only at m2;subst m2;have:ky=.free:=by simpa using m1.2
   subst this;exact m1.1
  obtain⟨v1,v2⟩:=hf7 x hm;refine⟨x,?_,by rw[h.N];exact g2,v2,h.vis (.inr v1)⟩;rw[qA0 (by omega),qK6];exact g1
theorem zRB(h:XOk X sc ar cl k){xs:yH}{scope:jS}{tg:y4}{t:Tgt}(hc:compOk sc xs scope=true)(e0:zLR tg=some (t,xs))(cl':List (Str×yR))(s:yS)(H:Hp)(C:yR)(ex:yC):PG (zBG X scope (xs++zAh scope.names) cl' s H C ex) tg (tOfT' X.K t) :=
 (zYm (h.comp hc cl' s H C ex) e0 λi x hx=>by
  unfold compOk at hc;simp only[qC5,decide_eq_true_eq]at hc;have c5:=hc.1.1.2;have hl:=(qA3.mp hx).1;refine⟨?_,?_⟩
  ·show(xs++zAh scope.names)[i]?=some x;rw[qA7 hl];exact hx
  ·have:=qD5.mp c5 x (qB5 hx);rw[qH8,beq_iff_eq,beq_iff_eq]at this;rcases this with z|z
   ·exact .inl z
   ·exact .inr ⟨z,decide_eq_true (zQe z)⟩).1
inductive zXl(X:Cx)(sc:Sc)(tg iter elt:y4)(ifs:yE)(scope:jS)(c:C):Prop
 |mk (t:Tgt) (xs:yH) (js:List Nat) (ci:CI) (ct:CT) (ce:C) (BB:zMy X scope (xs++zAh scope.names) xs.length js) (hi:PI X tg iter (tOfI X.K ci)) (hs:zKi iter=false)
  (hg:∀cl' s H C ex,PG (zBG X scope (xs++zAh scope.names) cl' s H C ex) tg (tOfT' X.K t)) (hT:∀cl' s H C ex,PTs (zBG X scope (xs++zAh scope.names) cl' s H C ex) ifs (tOfT X.K ct))
  (hE:∀cl' s H C ex,PE (zBG X scope (xs++zAh scope.names) cl' s H C ex) elt (tOf X.K ce)) (ht:tgtK t<=xs.length) (h1:1<=xs.length) (hc:c=zCs ci xs.length js t ct ce)
theorem zOV(h:XOk X sc ar cl k){it:Option CI}{fe:Sc->y4->Option C}{ft:Sc->y4->Option CT}{tg iter elt:y4}{ifs:yE}{scope:jS}{c:C}(e:zG8 sc it fe ft tg elt ifs scope=some c)
  (hi:∀ci,it=some ci->PI X tg iter (tOfI X.K ci)/\zKi iter=false) (hfe:∀X' sc',XOk X' sc' ar cl k->zC2 X' (fe sc')) (hft:∀X' sc',XOk X' sc' ar cl k->zHk X' (ft sc')):zXl X sc tg iter elt ifs scope c:=by
 unfold zG8 at e;obtain⟨⟨t,xs⟩,e0,e⟩:=qA1.mp e;dsimp only at e;by_cases hc:compOk sc xs scope=true
 ·rw[if_pos hc]at e;obtain⟨js,e1,u1⟩:=qA1.mp e;obtain⟨ci,e2,u2⟩:=qA1.mp u1;obtain⟨ce,e3,u3⟩:=qA1.mp u2;clear e u1 u2;obtain⟨i1,i2⟩:=hi ci e2;have c6:1<=xs.length:=by have hc':=hc;unfold compOk at hc';simp only[qC5,decide_eq_true_eq]at hc';exact hc'.1.2
  have hE:=λcl' s H C ex=>hfe _ _ (h.comp hc cl' s H C ex) elt ce e3;have ht:tgtK t<=xs.length:=by rw[zRS e0];exact qA6 _
  cases ifs with
  |nil =>
   cases u3;exact⟨t,xs,js,ci,_,ce,zRC h hc e1,i1,i2,zRB h hc e0,λcl' s H C ex pins s' Z H' Q I ⟨J,B,S,d,S',sr,re,e,y⟩=>zSG pins s' Z H' Q I (by obtain⟨rfl,rfl⟩:=zAq e;exact y H' J sr (Step.refl _ _ _)),hE,ht,c6,rfl⟩
  |cons q r =>
   cases r with
   |nil =>
    obtain⟨ct,e4,u4⟩:=qA2.mp u3;exact⟨t,xs,js,ci,ct,ce,zRC h hc e1,i1,i2,zRB h hc e0,λcl' s H C ex=>zSF (hft _ _ (h.comp hc cl' s H C ex) q ct e4),hE,ht,c6,u4.symm⟩
   |cons _ _=>cases u3
 ·rw[if_neg hc]at e;cases e
theorem zSs(h:XOk X sc ar cl k){it:Option CI}{fe:Sc->y4->Option C}{ft:Sc->y4->Option CT}{tg iter elt:y4}{ifs:yE}{scope:jS}{pos:Pos}{c:C}(e:zG8 sc it fe ft tg elt ifs scope=some c)
  (hi:∀ci,it=some ci->PI X tg iter (tOfI X.K ci)/\zKi iter=false) (hfe:∀X' sc',XOk X' sc' ar cl k->zC2 X' (fe sc')) (hft:∀X' sc',XOk X' sc' ar cl k->zHk X' (ft sc')):PE X (.ListComp elt [⟨tg,iter,ifs,0⟩] scope pos) (tOf X.K c):=by obtain⟨t,xs,js,ci,ct,ce,BB,i1,i2,hg,hT,hE,ht,h1,rfl⟩:=zOV h e hi hfe hft;exact(zSS BB i1 hg hT hE (zFS i2)).weak fun Z H Q q=>zNF ht h1 q
theorem zPJ(h:XOk X sc ar cl k){it:Option CI}{fe:Sc->y4->Option C}{ft:Sc->y4->Option CT}{tg iter elt:y4}{ifs:yE}{scope:jS}{pos pos' spos:Pos}{y0:Str}{go:TG}(hgo:PG X (.Name y0 pos') go)(hsw:wQ (.ListComp elt [⟨tg,iter,ifs,0⟩] scope pos) (some (.Name y0 pos')) spos.line X.env=pure true){c:C}(e:zG8 sc it fe ft tg elt ifs scope=some c)
  (hi:∀ci,it=some ci->PI X tg iter (tOfI X.K ci)/\zKi iter=false) (hfe:∀X' sc',XOk X' sc' ar cl k->zC2 X' (fe sc')) (hft:∀X' sc',XOk X' sc' ar cl k->zHk X' (ft sc')):PS X (.Assign [.Name y0 pos'] (.ListComp elt [⟨tg,iter,ifs,0⟩] scope pos) spos) (tAsg (tOf X.K c) go):=by obtain⟨t,xs,js,ci,ct,ce,BB,i1,i2,hg,hT,hE,ht,h1,rfl⟩:=zOV h e hi hfe hft;exact(zM2 hgo hsw BB i1 hg hT hE (zFS i2)).weak λD Z H q=>zNF ht h1 q
end
noncomputable def zJ4(scope:jS):Sc:=⟨zAh scope.names,scope.names,none⟩
noncomputable def zNM(p:vQ):Bool:=p.posonlyargs.isEmpty&&p.args.isEmpty&&p.vararg.isNone&&p.kwonlyargs.isEmpty&&p.kw_defaults.isEmpty&&p.kwarg.isNone&&p.defaults.isEmpty
theorem zIZ{p:vQ}(h:zNM p=true):p={ posonlyargs:=[],args:=[],vararg:=none,kwonlyargs:=[],kw_defaults:=[],kwarg:=none,defaults:=[] }:=by obtain⟨a,b,c,d,e,f,g⟩:=p;unfold zNM at h;simp only[qC5,List.isEmpty_iff,qM3]at h;obtain⟨⟨⟨⟨⟨⟨rfl,rfl⟩,rfl⟩,rfl⟩,rfl⟩,rfl⟩,rfl⟩:=h;rfl
noncomputable def zQj(sc:Sc)(params:vQ)(scope:jS):Bool :=
 zNM params&&decide (scope.kind=.function)&&!scope.isCoroutine&&!scope.isGenerator&&scope.names.all (λy=>y.2 != .cell)&&decide (zAh scope.names).Nodup
 && (zAh scope.names).all (λx=>sc.names.lookup x == some .cell&&scope.names.lookup x == some .free)
noncomputable def zQk(sc:Sc)(ar:Str->yK)(t:Str):yE->Option (List (Str×Str)×List Nat×jS×Str×yE)
 |[.Lambda params (.Call (.Name g _) args [] _) scope _] =>
  if sc.fn=some lamD/\zQj sc params scope=true/\sc.names.lookup t=some .globalImplicit/\nDb t/\scope.names.lookup g=some .globalImplicit/\ar g=some args.length/\args≠[]/\nDb g then
   (tkL.lookup t).bind λws=>(slots sc.N (zAh scope.names)).map λjs=>(ws,js,scope,g,args)
  else none
 |_=>none
section
variable {X:Cx}{sc:Sc}{ar:Str->yK}{cl:Str->List D->M D}{k:Nat}
theorem zJi{ns:List (Str×jT)}{x:Str}(h:(x,NameKind.free)∈ns):x∈zAh ns:=qD8.mpr ⟨(x,.free),qF3.mpr ⟨h,by simp⟩,rfl⟩
theorem zV6(h:XOk X sc ar cl k){t g:Str}{es args:yE}{ws:List (Str×Str)}{js:List Nat}{scope:jS}{f:y4->Option C}{cs:List C}{p pos:Pos}(e:zQk sc ar t es=some (ws,js,scope,g,args))(hf:∀X',XOk X' (zJ4 scope) ar cl k->zC2 X' f)(e1:zA2? f args=some cs):
  PE X (.Call (.Name t p) es [] pos) (tOf X.K (zPb lamD ws js (zB1 (cl g) (zA2 cs)))):=by
 unfold zQk at e;split at e
 ·rename_i params g' p1 args' p2 scope' p3;split at e
  ·rename_i hc;obtain⟨c1,c2,c3,c4,c5,c6,c7,c8⟩:=hc;obtain⟨ws',w1,e⟩:=qA1.mp e;obtain⟨js',w2,e⟩:=qA2.mp e;cases e;unfold zQj at c2;simp only[qC5,decide_eq_true_eq,qG8,qD5,beq_iff_eq,bne_iff_ne]at c2;obtain⟨⟨⟨⟨⟨⟨d1,d2⟩,d3⟩,d4⟩,d5⟩,d6⟩,d7⟩:=c2;obtain⟨s1,s2⟩:=zE4 w2;have rT:=h.roomT c1;refine zSj (N:=zAh scope.names) (h.tk c1 _ _ w1) (h.lam c1) (h.gl _ c3) c4 (rT.mono (by omega)) ⟨d2,d3,d4,d5,zIZ d1,λx hx=>h.cel x (d7 x (zJi hx)).1,s1,λi j hj=>?_⟩ λfa cd clo e1' outer s H E=>?_
   ·obtain⟨x,n1,n2⟩:=s2 i j hj;exact⟨x,n1,by rw[h.N];exact n2,(d7 x (qB5 n1)).2⟩
   ·have hX:XOk (zI7 X.prog X.w X.K X.mg X.base (zAh scope.names) (zDT lamD) scope fa cd clo (X.A.deeper e1') outer s H E) (zJ4 scope) ar cl k:={
     calm:=rfl
     N:=rfl
     nd:=d6
     gl:=λx hx=>hx
     loc:=λx hx=>hx
     cel:=λx hx=>hx
     fre:=λx hx=>.inr hx
     fnn:=λz=>by cases z
     room:=(rT.deeper e1').deeper _
     roomT:=λz=>by cases z
     lam:=λz=>by cases z
     tk:=λz=>by cases z
     rf:=λz=>by cases z
     xk:=h.xk
     xm:=h.xm
     xv:=h.xv
     own:=PassesOwn.leaving
     exc:=h.exc
     blt:=h.blt
     fns:=h.fns }
    obtain⟨h1,h2⟩:=zCO (hf _ hX) e1;obtain⟨⟨ps,Ca⟩,hlen⟩:=hX.fns g _ c6;cases args with
    |nil=>exact absurd rfl c7
    |cons a es=>exact(zFc (p:=p1) (pos:=p2) Ca hX.room (hX.gl g c5) zFY h1 (qA6 _) c8 (zAa (h2 a (by simp))) (zCe λb hb=>h2 b (by simp[hb]))).weak (zFs hlen)
  ·cases e
 ·cases e
noncomputable def rfC(sc:Sc)(t:Str)(params:vQ)(scope:jS):Bool:=decide (sc.fn=some lamD)&&zQj sc params scope&&decide (sc.names.lookup t=some .globalImplicit)&&!(t == ("__debug__":Str))&&decide (t∈rfN)
theorem zNa(h:XOk X sc ar cl k){t:Str}{params:vQ}{body:y4}{scope:jS}{js:List Nat}{cb:C}{p lpos pos:Pos}(hc:rfC sc t params scope=true)(w2:slots sc.N (zAh scope.names)=some js)(hb:∀X',XOk X' (zJ4 scope) ar cl k->PE X' body (tOfX X' cb)):
  PE X (.Call (.Name t p) [.Lambda params body scope lpos] [] pos) (tOf X.K (zBK lamD 4 rfB js cb)):=by
 unfold rfC at hc;simp only[qC5,decide_eq_true_eq,qG8]at hc;obtain⟨⟨⟨⟨c1,c2⟩,c3⟩,c4⟩,c9⟩:=hc;unfold zQj at c2;simp only[qC5,decide_eq_true_eq,qG8,qD5,beq_iff_eq,bne_iff_ne]at c2;obtain⟨⟨⟨⟨⟨⟨d1,d2⟩,d3⟩,d4⟩,d5⟩,d6⟩,d7⟩:=c2;obtain⟨s1,s2⟩:=zE4 w2;have rT:=h.roomT c1;refine zN7 (N:=zAh scope.names) (h.rf c1 _ c9) (λc hc C hm=>?_) (h.lam c1) (h.gl _ c3) c4 (rT.mono (by omega)) ⟨d2,d3,d4,d5,zIZ d1,λx hx=>h.cel x (d7 x (zJi hx)).1,s1,λi j hj=>?_⟩ λfa cd clo e1' outer s H E=>hb _ {
   calm:=rfl
   N:=rfl
   nd:=d6
   gl:=λx hx=>hx
   loc:=λx hx=>hx
   cel:=λx hx=>hx
   fre:=λx hx=>.inr hx
   fnn:=λz=>by cases z
   room:=(rT.deeper e1').deeper _
   roomT:=λz=>by cases z
   lam:=λz=>by cases z
   tk:=λz=>by cases z
   rf:=λz=>by cases z
   xk:=h.xk
   xm:=h.xm
   xv:=h.xv
   own:=PassesOwn.leaving
   exc:=h.exc
   blt:=h.blt
   fns:=h.fns }
 ·obtain⟨C',q1,q2⟩:=h.xm c hc;rw[hm]at q1;cases q1;exact q2
 ·obtain⟨x,n1,n2⟩:=s2 i j hj;exact⟨x,n1,by rw[h.N];exact n2,(d7 x (qB5 n1)).2⟩
noncomputable def rfOf(sc:Sc)(ar:Str->yK)(t:Str):yE->Option (List Nat×jS×Str×yE)
 |[.Lambda params (.Call (.Name g _) args [] _) scope _] =>
  if rfC sc t params scope=true/\scope.names.lookup g=some .globalImplicit/\ar g=some args.length/\args≠[]/\nDb g then
   (slots sc.N (zAh scope.names)).map λjs=>(js,scope,g,args)
  else none
 |_=>none
theorem zPG(h:XOk X sc ar cl k){t g:Str}{es args:yE}{js:List Nat}{scope:jS}{f:y4->Option C}{cs:List C}{p pos:Pos}(e:rfOf sc ar t es=some (js,scope,g,args))(hf:∀X',XOk X' (zJ4 scope) ar cl k->zC2 X' f)(e1:zA2? f args=some cs):
  PE X (.Call (.Name t p) es [] pos) (tOf X.K (zBK lamD 4 rfB js (zB1 (cl g) (zA2 cs)))):=by
 unfold rfOf at e;split at e
 ·rename_i params g' p1 args' p2 scope' p3;split at e
  ·rename_i hc;obtain⟨c1,c5,c6,c7,c8⟩:=hc;obtain⟨js',w2,e⟩:=qA2.mp e;cases e;refine zNa h c1 w2 λX' hX=>?_;obtain⟨h1,h2⟩:=zCO (hf _ hX) e1;obtain⟨⟨ps,Ca⟩,hlen⟩:=hX.fns g _ c6;cases args with
   |nil=>exact absurd rfl c7
   |cons a es=>exact(zFc (p:=p1) (pos:=p2) Ca hX.room (hX.gl g c5) zFY h1 (qA6 _) c8 (zAa (h2 a (by simp))) (zCe λb hb=>h2 b (by simp[hb]))).weak (zFs hlen)
  ·cases e
 ·cases e
noncomputable def zQt(sc:Sc)(ar:Str->yK)(x:Str):yE->Option (y4×Str)
 |[a,.Name g _]=>if x = "isinstance"/\sc.names.lookup x=some .globalImplicit/\ar x=none/\sc.names.lookup g=some .globalImplicit/\(g = "ValueError"∨g∈xoL)/\zAz a=true then some (a,g)else none
 |_=>none
theorem zYo(h:XOk X sc ar cl k){x g:Str}{es:yE}{a:y4}{f:y4->Option C}(hf:zC2 X f){c:C}{p pos:Pos}(e:zQt sc ar x es=some (a,g))(e1:f a=some c):PE X (.Call (.Name x p) es [] pos) (tOf X.K (cUn (oIsX g) c)):=by
 unfold zQt at e;split at e
 ·rename_i a' g' p2;split at e
  ·rename_i hc;obtain⟨rfl,c2,c3,c4,c5,c6⟩:=hc;cases e;refine zUZ (hf _ _ e1) (h.gl _ c2) (h.blt.b _ (by decide +kernel) c3) h.xk ?_ (zAa c6);rcases c5 with rfl|c5
   ·exact .inl ⟨rfl,h.gl _ c4,h.xv⟩
   ·refine .inr ⟨c5,h.gl _ c4,h.xm _ c5,?_⟩;simp only[xoL,qB0,qD3,or_false]at c5;rcases c5 with rfl|rfl|rfl|rfl|rfl|rfl|rfl<;>decide +kernel
  ·cases e
 ·cases e
end
section
variable (ar:Str->yK) (cl:Str->List D->M D)
mutual
noncomputable def cE:Nat->Sc->y4->Option C
 |0,_,_=>none
 |n+1,sc,e=>match e with
  |.Constant v _ _=>zRE v
  |.Name x _=>zTY sc ar x
  |.BinOp a op b _=>(zVZ op).bind λo=>(cE n sc a).bind λca=>(cE n sc b).map λcb=>cBin o ca cb
  |.UnaryOp op a _=>match op with
   |.USub=>(cE n sc a).map λca=>cUn oNeg ca
   |.Not=>(cE n sc a).map λca=>zR0 ca
   |_=>none
  |.BoolOp op vs _=>zLG op (cE n sc) vs
  |.IfExp t a b _=>(cT n sc t).bind λct=>(cE n sc a).bind λca=>(cE n sc b).map λcb=>cIf ct ca cb
  |.Compare a ops bs _=>zEh (cE n sc) a ops bs
  |.Tuple es _ _=>(zA2? (cE n sc) es).bind λcs=>if cs.length<=1000 then some (cTup (zA2 cs))else none
  |.List es _=>(zA2? (cE n sc) es).bind λcs=>if cs.length<=1000 then some (cLst (zA2 cs))else none
  |.Subscript a b _=>cSub (cE n sc) a b
  |.Dict ks vs _=>zU0 (cE n sc) ks vs
  |.Call fn es kw cpos=>match kw with
   |[]=>match fn with
    |.Name x _=>match zQk sc ar x es with
     |some (ws,js,scope,g,args)=>(zA2? (cE n (zJ4 scope)) args).map λcs=>zPb lamD ws js (zB1 (cl g) (zA2 cs))
     |none=>match rfOf sc ar x es with
      |some (js,scope,g,args)=>(zA2? (cE n (zJ4 scope)) args).map λcs=>zBK lamD 4 rfB js (zB1 (cl g) (zA2 cs))
      |none=>match zQt sc ar x es with
       |some (a,g)=>(cE n sc a).map λca=>cUn (oIsX g) ca
       |none=>zLF sc ar cl (cE n sc) x es
    |.Attribute o m apos=>zKJ (cE n sc) o m es apos cpos
    |_=>none
   |_::_=>none
  |.ListComp elt gens scope _=>match gens with
   |[⟨tg,iter,ifs,ia⟩]=>if ia=0 then zG8 sc (zMs sc ar (cE n sc) tg iter) (cE n) (cT n) tg elt ifs scope else none
   |_=>none
  |_=>none
noncomputable def cT:Nat->Sc->y4->Option CT
 |0,_,_=>none
 |n+1,sc,e=>match e with
  |.UnaryOp op a _=>match op with
   |.Not=>(cT n sc a).map λca=>zKI ca
   |_=>(cE n sc e).map cTru
  |.BoolOp op vs _=>zLH op (cT n sc) vs
  |.IfExp _ _ _ _=>none
  |.Compare a ops bs _=>zHo (cE n sc) a ops bs
  |_=>(cE n sc e).map cTru
end
end
section
variable {X:Cx}{sc:Sc}{ar:Str->yK}{cl:Str->List D->M D}{k:Nat}
theorem zLY:∀n:Nat,(∀X sc,XOk X sc ar cl k->zC2 X (cE ar cl n sc))/\(∀X sc,XOk X sc ar cl k->zHk X (cT ar cl n sc))
 |0=>⟨λX sc h e c q=>(by cases q),λX sc h e c q=>(by cases q)⟩
 |n+1=>by
  obtain⟨ihE,ihT⟩:=zLY n;refine⟨λX sc h e c q=>?_,λX sc h e c q=>?_⟩
  ·have hf:=ihE X sc h;have ht:=ihT X sc h;cases e with
   |Constant v j pos=>exact zSr q
   |Name x pos=>exact zV7 h q
   |BinOp a op b pos =>
    obtain⟨o,e0,q1⟩:=qA1.mp q;obtain⟨ca,e1,q2⟩:=qA1.mp q1;obtain⟨cb,e2,q3⟩:=qA2.mp q2;subst q3;exact zV2 (s_op e0) (hf _ _ e1) (hf _ _ e2)
   |UnaryOp op a pos =>
    cases op with
    |USub =>
     obtain⟨ca,e1,q2⟩:=qA2.mp q;subst q2;exact zYj zUl (hf _ _ e1)
    |Not =>
     obtain⟨ca,e1,q2⟩:=qA2.mp q;subst q2;exact zUW (hf _ _ e1)
    |_=>cases q
   |BoolOp op vs pos=>exact zK1 hf q
   |IfExp t a b pos =>
    obtain⟨ct,e0,q1⟩:=qA1.mp q;obtain⟨ca,e1,q2⟩:=qA1.mp q1;obtain⟨cb,e2,q3⟩:=qA2.mp q2;subst q3;exact zPE (ht _ _ e0) (hf _ _ e1) (hf _ _ e2)
   |Compare a ops bs pos=>exact zNc h.room hf q
   |Tuple es j pos =>
    obtain⟨cs,e1,q1⟩:=qA1.mp q;split at q1
    ·rename_i hl;cases q1;exact zUV (zCO hf e1).1 hl
    ·cases q1
   |List es pos =>
    obtain⟨cs,e1,q1⟩:=qA1.mp q;split at q1
    ·rename_i hl;cases q1;exact zUX (zCO hf e1).1 hl
    ·cases q1
   |Subscript a b pos=>exact zYn h.room hf q
   |Dict ks vs pos=>exact zV8 hf q
   |Call fn es kw cpos =>
    cases kw with
    |cons _ _=>cases q
    |nil =>
     cases fn with
     |Name x p =>
      change (match zQk sc ar x es with|some (ws,js,scope,g,args)=>(zA2? (cE ar cl n (zJ4 scope)) args).map λcs=>zPb lamD ws js (zB1 (cl g) (zA2 cs))| none=>match rfOf sc ar x es with|some (js,scope,g,args)=>(zA2? (cE ar cl n (zJ4 scope)) args).map λcs=>zBK lamD 4 rfB js (zB1 (cl g) (zA2 cs))| none=>match zQt sc ar x es with|some (a,g)=>(cE ar cl n sc a).map λca=>cUn (oIsX g) ca|none=>zLF sc ar cl (cE ar cl n sc) x es)=some c at q;split at q
      ·rename_i ws js scope g args hl;obtain⟨cs,e1,q1⟩:=qA2.mp q;subst q1;exact zV6 h hl (λX' h'=>ihE X' _ h') e1
      ·split at q
       ·rename_i js scope g args hl;obtain⟨cs,e1,q1⟩:=qA2.mp q;subst q1;exact zPG h hl (λX' h'=>ihE X' _ h') e1
       ·split at q
        ·rename_i a g hl;obtain⟨ca,e1,q1⟩:=qA2.mp q;subst q1;exact zYo h hf hl e1
        ·exact zSt h hf q
     |Attribute o m apos=>exact zPI h.room hf q
     |_=>cases q
   |ListComp elt gens scope pos =>
    cases gens with
    |nil=>cases q
    |cons g gs =>
     obtain⟨tg,iter,ifs,ia⟩:=g;cases gs with
     |cons _ _=>cases q
     |nil =>
      change (if ia=0 then zG8 sc (zMs sc ar (cE ar cl n sc) tg iter) (cE ar cl n) (cT ar cl n) tg elt ifs scope else none)=some c at q;split at q
      ·rename_i hz;subst hz;exact zSs h q (λci e=>zNb h hf e) (λX' sc' h'=>ihE X' sc' h') (λX' sc' h'=>ihT X' sc' h')
      ·cases q
   |_=>cases q
  ·have hf:=ihE X sc h;have ht:=ihT X sc h;have dflt:∀{c:CT},(cE ar cl n sc e).map cTru=some c->(∀whole,dJ e X.env whole=(do let v <- whole;m5 e.pos;wI [v] (truthy v)))->PT X e (tOfT X.K c):=λ{c} q he=>by obtain⟨ca,e1,q2⟩:=qA2.mp q;subst q2;exact zUB (hf _ _ e1) he
   cases e with
   |UnaryOp op a pos =>
    cases op with
    |Not =>
     obtain⟨ca,e1,q2⟩:=qA2.mp q;subst q2;exact zUC (ht _ _ e1)
    |USub=>exact dflt q λ_=>rfl
    |UAdd=>exact dflt q λ_=>rfl
    |Invert=>exact dflt q λ_=>rfl
   |BoolOp op vs pos=>exact(zK2 ht q).pt
   |IfExp t a b pos=>cases q
   |Compare a ops bs pos=>exact zLW h.room hf q
   |_=>exact dflt q λ_=>rfl
section
variable (ar:Str->yK) (cl:Str->List D->M D)
noncomputable def cTg(sc:Sc)(x:Str):Option G:=(zEG sc.N x 0).bind λi=>if sc.names.lookup x=some .local∨(sc.fn.isSome=true/\sc.names.lookup x=some .cell)then some (gN i)else none
mutual
noncomputable def cG:Nat->Sc->y4->Option G
 |0,_,_=>none
 |n+1,sc,e=>match e with
  |.Name x _=>cTg sc x
  |.Subscript a b _=>match b with
   |_=>if zEx b then none else(cE ar cl n sc a).bind λca=>(cE ar cl n sc b).map λcb=>gS ca cb
  |.Tuple es _ _=>(cGs n sc es).map λgs=>gT gs
  |_=>none
noncomputable def cGs:Nat->Sc->yE->Option (List G)
 |0,_,_=>none
 |n+1,sc,es=>match es with
  |[]=>some []
  |e::r=>if zAz e then(cG n sc e).bind λg=>(cGs n sc r).map λgs=>g::gs else none
end
end
theorem XOk.nd'(h:XOk X sc ar cl k):X.N.Nodup:=by rw[h.N];exact h.nd
theorem s_tg(h:XOk X sc ar cl k){x:Str}{g:G}(e:cTg sc x=some g):∃i,g=gN i/\X.N[i]?=some x/\Loc X.env.scope x/\(X.fn x=true∨X.env.scope.names.lookup x=some .local):=by
 unfold cTg at e;obtain⟨i,e1,e2⟩:=qA1.mp e;split at e2
 ·rename_i hc;cases e2;refine⟨i,rfl,by rw[h.N];exact(zDv e1).2,?_⟩;rcases hc with q|⟨q1,q2⟩
  ·exact⟨.inl (h.loc x q),.inr (h.loc x q)⟩
  ·exact⟨.inr (h.cel x q2),.inl (h.fnn q1 x)⟩
 ·cases e2
theorem zMw{a b:y4}{pos:Pos}{env:Env}(h:zEx b=false):∀v,fA (.Subscript a b pos) env v=(do
   let ov <- wI [v] (vL a env)
   let iv <- wI [v,ov] (vL b env)
   m5 pos
   wI [v,ov,iv] (dU ov iv v)
   release [v,ov,iv] []):=by cases b<;>first|(intro v;rfl)| cases h
theorem zBD{e:y4}{es:yE}{env:Env}(h:zAz e=true):jQ (e::es) env=(false,fA e env)::jQ es env:=by cases e<;>first|rfl|cases h
theorem s_G:∀n:Nat,(∀X sc,XOk X sc ar cl k->∀e g,cG ar cl n sc e=some g->PG X e (tOfG X.K g))/\(∀X sc,XOk X sc ar cl k->∀es gs,cGs ar cl n sc es=some gs->PGs X es (zMU X.K gs)/\(jQ es X.env).length=gs.length/\(jQ es X.env).findIdx? (·.1)=none)
 |0=>⟨λX sc h e c q=>(by cases q),λX sc h e c q=>(by cases q)⟩
 |n+1=>by
  obtain⟨ih,ihs⟩:=s_G n;refine⟨λX sc h e g q=>?_,λX sc h es gs q=>?_⟩
  ·cases e with
   |Name x pos =>
    obtain⟨i,rfl,h1,h2,h3⟩:=s_tg h q;exact zSi (zDg h.nd' h1 h2 h3)
   |Subscript a b pos =>
    change (if zEx b then none else(cE ar cl n sc a).bind λca=>(cE ar cl n sc b).map λcb=>gS ca cb)=_ at q;split at q
    ·cases q
    ·rename_i hs;obtain⟨ca,e1,q1⟩:=qA1.mp q;obtain⟨cb,e2,q2⟩:=qA2.mp q1;subst q2;exact zUR (zQD h.room) ((zLY n).1 X sc h _ _ e1) ((zLY n).1 X sc h _ _ e2) (zMw (by simpa using hs))
   |Tuple es j pos =>
    obtain⟨gs,e1,q1⟩:=qA2.mp q;subst q1;obtain⟨h1,h2,h3⟩:=ihs X sc h es gs e1;exact zUQ h.calm h1 h2 h3
   |_=>cases q
  ·cases es with
   |nil=>cases q;exact⟨zSh,rfl,rfl⟩
   |cons e r =>
    change (if zAz e=true then(cG ar cl n sc e).bind λg=>(cGs ar cl n sc r).map λgs=>g::gs else none)=_ at q;split at q
    ·rename_i hs;obtain⟨g,e1,q1⟩:=qA1.mp q;obtain⟨gs',e2,q2⟩:=qA2.mp q1;subst q2;obtain⟨h1,h2,h3⟩:=ihs X sc h r gs' e2;have ha:=zBD (es:=r) (env:=X.env) hs;refine⟨zPz (ih X sc h e g e1) h1 (by rw[ha];rfl),by rw[ha];simp[h2],by rw[ha,qP7];simp[h3]⟩
    ·cases q
noncomputable def zEK:y4->Bool
 |.ListComp _ _ _ _=>true
 |.SetComp _ _ _ _=>true
 |.DictComp _ _ _ _ _=>true
 |_=>false
theorem zHp{e:y4}{t:Option y4}{n:Nat}{env:Env}(h:zEK e=false):wQ e t n env=pure false:=by cases e<;>first|rfl|cases h
noncomputable def zKA:y4->y4->Bool
 |.Name _ _,.ListComp _ _ _ _=>false
 |.Tuple _ _ _,.ListComp _ _ _ _=>false
 |_,e=>zEK e
theorem zNd(h:XOk X sc ar cl k):∀{n:Nat}{elt:y4}{gens:List mT}{scope:jS}{pos pos' spos:Pos}{x:Str}{c:C}{i:Nat} (q:cE ar cl n sc (.ListComp elt gens scope pos)=some c) (hgo:PG X (.Name x pos') (zHU i))
  (hsw:wQ (.ListComp elt gens scope pos) (some (.Name x pos')) spos.line X.env=pure true),PS X (.Assign [.Name x pos'] (.ListComp elt gens scope pos) spos) (tAsg (tOf X.K c) (zHU i))
 |0,_,_,_,_,_,_,_,_,_,q,_,_=>by cases q
 |n+1,elt,gens,scope,pos,pos',spos,x,c,i,q,hgo,hsw=>by
  obtain⟨ihE,ihT⟩:=zLY (ar:=ar) (cl:=cl) (k:=k) n;cases gens with
  |nil=>cases q
  |cons g gs =>
   obtain⟨tg,iter,ifs,ia⟩:=g;cases gs with
   |cons _ _=>cases q
   |nil =>
    change (if ia=0 then zG8 sc (zMs sc ar (cE ar cl n sc) tg iter) (cE ar cl n) (cT ar cl n) tg elt ifs scope else none)=some c at q;split at q
    ·rename_i hz;subst hz;exact zPJ h hgo hsw q (λci e=>zNb h (ihE X sc h) e) (λX' sc' h'=>ihE X' sc' h') (λX' sc' h'=>ihT X' sc' h')
    ·cases q
theorem zLS{elt:y4}{gens:List mT}{scope:jS}{pos pos':Pos}{x:Str}{line:Nat}{env:Env}:∃b:Bool,wQ (.ListComp elt gens scope pos) (some (.Name x pos')) line env=pure b:=⟨_,rfl⟩
inductive CB(tg e:y4):Prop
 |no (h:∀n env,wQ e (some tg) n env=pure false)
 |yes (x:Str) (pos':Pos) (elt:y4) (gens:List mT) (scope:jS) (pos:Pos) (h1:tg=.Name x pos') (h2:e=.ListComp elt gens scope pos)
theorem CB.of{tg e:y4}(h:zEK e=false):CB tg e:=.no λ_ _=>zHp h
theorem zHg{tg e:y4}(h:zKA tg e=false):CB tg e:=by
 cases tg with
 |Name x pos' =>
  cases e with
  |ListComp elt gens scope pos=>exact .yes x pos' elt gens scope pos rfl rfl
  |_=>exact .of h
 |Tuple es k pos =>
  cases e with
  |ListComp elt gens scope pos=>exact .no λ_ _=>rfl
  |_=>exact .of h
 |_=>exact .of h
noncomputable def zQv:y4->Bool
 |.List _ _=>true
 |_=>false
theorem zH1{tg e:y4}{env:Env}(h:(zB0 tg&&zB0 e)=false)(hl:zQv tg=false):v9 [tg] e env=pure none:=by
 cases tg with
 |Tuple es n pos=>cases e<;>first|rfl|cases h
 |List es pos=>cases hl
 |_=>rfl
noncomputable def zEo(sc:Sc):y4->Bool
 |.Tuple [.Name x _,.Name y _] _ _=>sc.names.lookup x == some .cell||sc.names.lookup y == some .cell
 |_=>false
theorem zJX{tg:y4}(h:zEo sc tg=true):∃x px y py k pos,tg=.Tuple [.Name x px,.Name y py] k pos/\(sc.names.lookup x=some .cell∨sc.names.lookup y=some .cell):=by
 unfold zEo at h;split at h
 ·rename_i x px y py k pos;simp only[qH8,beq_iff_eq]at h;exact⟨x,px,y,py,k,pos,rfl,h⟩
 ·cases h
theorem zIE{x y:Str}{px py pos pos2:Pos}{k k2:Nat}{vs:yE}{env:Env}(h:env.scope.names.lookup x=some .cell∨env.scope.names.lookup y=some .cell):v9 [.Tuple [.Name x px,.Name y py] k pos] (.Tuple vs k2 pos2) env=pure none:=by
 have hn:(([Expr.Name x px,Expr.Name y py].filterMap λe=>match e with
  |.Name id p=>if(env.kindOf id == some NameKind.local&&p.line == (([Expr.Name x px,Expr.Name y py].head?.map (·.pos.line)).getD 0))=true then some id else none
  | _=>none).length != 2)=true:=by
  have kx:env.kindOf x=env.scope.names.lookup x:=rfl;have ky:env.kindOf y=env.scope.names.lookup y:=rfl;have hc:(some NameKind.cell == some NameKind.local)=false:=by decide
  rcases h with h|h
  ·simp only[qG9,qP8,kx,h,hc,qO5,qE3,if_false];split<;>rfl
  ·simp only[qG9,qP8,ky,h,hc,qO5,qE3,if_false];split<;>rfl
 unfold v9;simp only[pure_bind];split
 ·rfl
 ·split
  ·rfl
  ·rw[if_pos];show(_||_)=true;rw[qH8];exact .inl hn
theorem zDL(h:XOk X sc ar cl k){tg e:y4}(c2:(zB0 tg&&zB0 e&&!zEo sc tg)=false)(c3:zQv tg=false):v9 [tg] e X.env=pure none:=by
 cases hc:zEo sc tg with
 |false =>
  rw[hc]at c2;exact zH1 (by simpa using c2) c3
 |true =>
  cases he:zB0 e with
  |false=>exact zH1 (by rw[he];simp) c3
  |true =>
   obtain⟨vs,k2,pt2,rfl⟩:=zOi he;obtain⟨x,px,y,py,kk,pos,rfl,hxy⟩:=zJX hc;exact zIE (hxy.imp (h.cel x) (h.cel y))
noncomputable def zYG(sc:Sc)(t v:y4×y4)(n:Str×Str):Option (Nat×Nat×y4×y4) :=
 if n.1≠n.2/\sc.names.lookup n.1=some .local/\sc.names.lookup n.2=some .local/\t.1.pos.line=t.2.pos.line/\zAz v.1=true/\zAz v.2=true/\([v.1,v.2].all (foldedForSure 8))=false/\([v.1,v.2].all (constantsAlone 8))=false then
  (zEG sc.N n.1 0).bind λi=>(zEG sc.N n.2 0).map λj=>(i,j,v.1,v.2)
 else none
noncomputable def zHx(sc:Sc):Option y4->Option y4->Option Str
 |some (.Call (.Name x _) [.Constant (.str _) _ _] [] _),none=>if sc.names.lookup x=some .globalImplicit/\x∈excL/\nDb x then some x else none
 |_,_=>none
theorem zSo(h:XOk X sc ar cl k){a b:Option y4}{x:Str}{pos:Pos}(e:zHx sc a b=some x):PS X (.Raise a b pos) (tOfS X (zH3 x)):=by
 unfold zHx at e;split at e
 ·split at e
  ·rename_i hc;cases e;exact zPx h.calm (h.gl _ hc.1) (h.exc _ hc.2.1) hc.2.2
  ·cases e
 ·cases e
noncomputable def rzOf(sc:Sc)(ar:Str->yK):y4->Option (Str×yE)
 |.Call (.Name g _) args [] _=>if g∈rzL/\sc.names.lookup g=some .globalImplicit/\ar g=some args.length/\args≠[]/\nDb g then some (g,args)else none
 |_=>none
theorem s_rz(h:XOk X sc ar cl k){f:y4->Option C}(hf:zC2 X f){e:y4}{g:Str}{args:yE}{cs:List C}(hz:rzOf sc ar e=some (g,args))(e1:zA2? f args=some cs):PE X e (tOfX X (zB1 (cl g) (zA2 cs))):=by
 unfold rzOf at hz;split at hz
 ·split at hz
  ·rename_i hc;obtain⟨_,c5,c6,c7,c8⟩:=hc;cases hz;obtain⟨h1,h2⟩:=zCO hf e1;obtain⟨⟨ps,Ca⟩,hlen⟩:=h.fns g _ c6;cases args with
   |nil=>exact absurd rfl c7
   |cons a es=>exact(zFc Ca h.room (h.gl g c5) zFY h1 (qA6 _) c8 (zAa (h2 a (by simp))) (zCe λb hb=>h2 b (by simp[hb]))).weak (zFs hlen)
  ·cases hz
 ·cases hz
noncomputable def cIfX(t:CT)(a b:C):C:=fun B S=>match t B S with
 |.ok k S1=>if k then a B S1 else b B S1
 |_=>.bad
theorem zV0{t a b:y4}{pos:Pos}{ct:CT}{ca cb:C}(ht:PT X t (tOfT X.K ct))(ha:PE X a (tOfX X ca))(hb:PE X b (tOfX X cb)):PE X (.IfExp t a b pos) (tOfX X (cIfX ct ca cb)):=(zL3 ht ha hb).weak (by
 rintro Z H Q ⟨J,B,S,sr,re,y⟩;unfold cIfX at y;cases h:ct B S with
 |bad=>rw[h]at y;exact y.elim
 |er _ _=>rw[h]at y;exact y.elim
 |ok k S1 =>
  rw[h]at y;refine⟨J,B,S,k,S1,sr,re,h,λH1 J1 sr1 st1=>?_⟩;dsimp only at y;cases k with
  |true =>
   rw[if_pos rfl]at y ⊢;refine⟨J1,B,S1,sr1,re.up st1,?_⟩;revert y;cases ca B S1 with
   |ok d S'=>exact λy=>Yld.shift y st1
   |bad=>exact λy=>y
   |er c S'=>exact λy=>YldE.shift y st1
  |false =>
   rw[if_neg qA9]at y ⊢;refine⟨J1,B,S1,sr1,re.up st1,?_⟩;revert y;cases cb B S1 with
   |ok d S'=>exact λy=>Yld.shift y st1
   |bad=>exact λy=>y
   | er c S'=>exact λy=>YldE.shift y st1)
noncomputable def zLZ(c:C)(g:G):CS:=fun B S=>match c B S with
 |.ok d S'=>match g d B S' with
  |.ok B' S2=>.nx B' S2
  |_=>.bad
 |.bad=>.bad
 |.er k S'=>.er k S'
theorem zS7{tg e:y4}{pos:Pos}{ce:C}{g:G}(he:PE X e (tOfX X ce))(hg:PG X tg (tOfG X.K g))(hs:mL [tg] e pos.line X.env=pure false)(hw:v9 [tg] e X.env=pure none)(h1:(jQ [tg] X.env).map (·.2)=[fA tg X.env]):PS X (.Assign [tg] e pos) (tOfS X (zLZ ce g)):=(zH5 he hg hs hw h1).weak (by
 rintro E Z H ⟨J,B,S,sr,re,p⟩;refine⟨J,B,S,sr,re,?_⟩;unfold zLZ at p;revert p;cases ce B S with
 |bad=>exact λp=>p
 |er k S'=>exact λp=>p
 |ok d S' =>
  dsimp only;cases h2:g d B S' with
  |bad=>exact λp=>False.elim p
  |er _ _=>exact λp=>False.elim p
  | ok B' S2=>exact λp v H1 J1 sr1 st1 r1=>⟨J1,B,S',d,B',S2,sr1,re.up st1,r1,h2,fun Z2 H2 J2 sr2 st2 re2=>p Z2 H2 J2 sr2 (st1.trans st2 sr2.nd) re2⟩)
noncomputable def cIxX(a b:C):C:=fun B S=>match a B S with
 |.ok x S1=>match b B S1 with
  |.ok y S2=>match oIx x y S2 with
   |.ok d S3=>.ok d S3
   |_=>.bad
  |_=>.bad
 |.bad=>.bad
 |.er c S1=>.er c S1
noncomputable def cBlX(o:List D->M D)(a:C):C:=fun B S=>match a B S with
 |.ok x S1=>match o [x] S1 with
  |.ok d S2=>.ok d S2
  |_=>.bad
 |.bad=>.bad
 |.er c S1=>.er c S1
theorem zUY{a b:y4}{ca cb:C}{pos:Pos}(hu:X.A.units+1<wR)(ha:PE X a (tOfX X ca))(hb:PE X b (tOf X.K cb))(hs:zIu b):PE X (.Subscript a b pos) (tOfX X (cIxX ca cb)):=(zVw zWx ha hb hs).weak (by
 rintro Z H Q ⟨J,B,S,sr,re,y⟩;unfold cIxX at y;refine⟨J,B,S,sr,re,?_⟩;revert y;cases ca B S with
 |bad=>exact λy=>y
 |er c S'=>exact λy=>y
 |ok x S1 =>
  dsimp only;intro y v H1 J1 sr1 st1 r1;cases h2:cb B S1 with
  |bad=>rw[h2]at y;exact y.elim
  |er c S'=>rw[h2]at y;exact y.elim
  |ok z S2 =>
   rw[h2]at y;dsimp only at y;refine⟨J1,B,S1,z,S2,sr1,re.up st1,h2,λu H2 J2 sr2 st2 r2=>?_⟩;cases h3:oIx x z S2 with
   |bad=>rw[h3]at y;exact y.elim
   |er c S'=>rw[h3]at y;exact y.elim
   |ok d S3 =>
    rw[h3]at y;exact zVH hu x z S2 d S3 H2 J2 v u Q h3 sr2 (RV.up st2.tk st2.ext _ _ r1) r2 (Yld.shift y (st1.trans st2 sr2.nd)))
theorem zSk{a:y4}{ca:C}{p pos:Pos}(hg:Gl X "len")(hm:X.mg "len"=none)(ha:PE X a (tOfX X ca))(hs:zAz a=true):PE X (.Call (.Name "len" p) [a] [] pos) (tOfX X (cBlX fLen ca)):=(zHz zG7 hg hm zRF (zFr ha zL4 (zAa hs)) (by decide +kernel) (by decide +kernel) (zAa hs) rfl).weak (by
 rintro Z H Q ⟨J,B,S,sr,re,y⟩;unfold cBlX at y;refine⟨J,B,S,sr,re,?_⟩;revert y;cases ca B S with
 |bad=>exact λy=>y
 |er c S'=>exact λy=>y
 |ok x S1 =>
  dsimp only;intro y v H1 J1 sr1 st1 r1;cases h3:fLen [x] S1 with
  |bad=>rw[h3]at y;exact y.elim
  |er c S'=>rw[h3]at y;exact y.elim
  |ok d S3 =>
   rw[h3]at y;exact zRA [x] S1 d S3 H1 J1 [v] Q h3 sr1 (.cons r1 .nil) (Yld.shift y st1))
noncomputable def cY(ar:Str->yK)(cl:Str->List D->M D)(f:y4->Option C)(sc:Sc)(e:y4):Option C:=match rzOf sc ar e with
 |some (g,args)=>(zA2? f args).map λcs=>zB1 (cl g) (zA2 cs)
 |none=>none
noncomputable def xIx(f:y4->Option C)(a:Option C)(b:y4):Option C:=if zEx b then none else a.bind λca=>(f b).map λcb=>cIxX ca cb
theorem s_y(h:XOk X sc ar cl k){f:y4->Option C}(hf:zC2 X f){e:y4}{c:C}(q:cY ar cl f sc e=some c):PE X e (tOfX X c):=by
 unfold cY at q;split at q
 ·rename_i g args hz;obtain⟨cs,e1,q1⟩:=qA2.mp q;subst q1;exact s_rz h hf hz e1
 ·cases q
theorem zSn(h:XOk X sc ar cl k){f:y4->Option C}(hf:zC2 X f){a b:y4}{pos:Pos}{o:Option C}(ho:∀c,o=some c->PE X a (tOfX X c)){c:C}(q:xIx f o b=some c):PE X (.Subscript a b pos) (tOfX X c):=by
 unfold xIx at q;split at q
 ·cases q
 ·rename_i hs;obtain⟨ca,e1,q⟩:=qA1.mp q;obtain⟨cb,e2,q⟩:=qA2.mp q;subst q;exact zUY (zQD h.room) (ho _ e1) (hf _ _ e2) (zNo (by simpa using hs))
noncomputable def cY2(ar:Str->yK)(cl:Str->List D->M D)(f:y4->Option C)(sc:Sc)(e:y4):Option C:=match e with
 |.Subscript a b _=>xIx f (cY ar cl f sc a) b
 |_=>none
noncomputable def cY3(ar:Str->yK)(cl:Str->List D->M D)(f:y4->Option C)(sc:Sc)(e:y4):Option C:=match e with
 |.Subscript a b _=>match cY ar cl f sc a with
  |some ca=>xIx f (some ca) b
  |none=>xIx f (cY2 ar cl f sc a) b
 |.Call (.Name x _) [a] [] _=>if x=("len":Str)/\sc.names.lookup ("len":Str)=some .globalImplicit/\ar "len"=none/\zAz a=true then(cY ar cl f sc a).map λca=>cBlX fLen ca else none
 |_=>none
theorem s_y2(h:XOk X sc ar cl k){f:y4->Option C}(hf:zC2 X f){e:y4}{c:C}(q:cY2 ar cl f sc e=some c):PE X e (tOfX X c):=by
 unfold cY2 at q;split at q
 ·exact zSn h hf (λc hc=>s_y h hf hc) q
 ·cases q
theorem s_y3(h:XOk X sc ar cl k){f:y4->Option C}(hf:zC2 X f){e:y4}{c:C}(q:cY3 ar cl f sc e=some c):PE X e (tOfX X c)/\zEK e=false:=by
 unfold cY3 at q;split at q
 ·split at q
  ·rename_i ca hc;exact⟨zSn h hf (λc e=>by cases e;exact s_y h hf hc) q,rfl⟩
  ·exact⟨zSn h hf (λc hc=>s_y2 h hf hc) q,rfl⟩
 ·split at q
  ·rename_i hc;obtain⟨rfl,c1,c2,c3⟩:=hc;obtain⟨ca,e1,q⟩:=qA2.mp q;subst q;exact⟨zSk (h.gl _ c1) (h.blt.b _ (by decide +kernel) c2) (s_y h hf e1) c3,rfl⟩
  ·cases q
 ·cases q
noncomputable def cX(ar:Str->yK)(cl:Str->List D->M D)(n:Nat)(sc:Sc)(e:y4):Option C:=match rzOf sc ar e with
 |some (g,args)=>(zA2? (cE ar cl n sc) args).map λcs=>zB1 (cl g) (zA2 cs)
 |none=>match e with
  |.IfExp t a b _=>(rzOf sc ar a).bind λp=>(rzOf sc ar b).bind λq=>(cT ar cl n sc t).bind λct=>(zA2? (cE ar cl n sc) p.2).bind λca=>(zA2? (cE ar cl n sc) q.2).map λcb=>cIfX ct (zB1 (cl p.1) (zA2 ca)) (zB1 (cl q.1) (zA2 cb))
  |e=>cY3 ar cl (cE ar cl n sc) sc e
theorem zSx{e:y4}{p:Str×yE}(h:rzOf sc ar e=some p):zEK e=false:=by
 unfold rzOf at h;split at h
 ·rfl
 ·cases h
theorem s_cX(h:XOk X sc ar cl k){n:Nat}(hf:zC2 X (cE ar cl n sc))(ht:zHk X (cT ar cl n sc)){e:y4}{c:C}(q:cX ar cl n sc e=some c):PE X e (tOfX X c)/\zEK e=false:=by
 unfold cX at q;split at q
 ·rename_i g args hz;obtain⟨cs,e1,q1⟩:=qA2.mp q;subst q1;exact⟨s_rz h hf hz e1,zSx hz⟩
 ·split at q
  ·obtain⟨p,z1,q⟩:=qA1.mp q;obtain⟨p',z2,q⟩:=qA1.mp q;obtain⟨ct,z3,q⟩:=qA1.mp q;obtain⟨ca,z4,q⟩:=qA1.mp q;obtain⟨cb,z5,q⟩:=qA2.mp q;subst q;obtain⟨g,as⟩:=p;obtain⟨g',bs⟩:=p';exact⟨zV0 (ht _ _ z3) (s_rz h hf z1 z4) (s_rz h hf z2 z5),rfl⟩
  ·exact s_y3 h hf q
noncomputable def zGj:Nat:=100000
section
variable (ar:Str->yK) (cl:Str->List D->M D)
mutual
noncomputable def cSt:Nat->Sc->vI->Option CS
 |0,_,_=>none
 |n+1,sc,s=>match s with
  |.Return v _=>match v with
   |none=>some zSv
   |some e=>match cX ar cl n sc e with
    |some c=>some (zEM c)
    |none=>(cE ar cl n sc e).map λc=>sRet c
  |.Expr e _=>if zEK e then none else match cX ar cl n sc e with
   |some c=>some (zH4 c)
   |none=>(cE ar cl n sc e).map λc=>zE8 c
  |.Assign tgs e _=>match tgs with
   |[tg] =>
    if zKA tg e||(zB0 tg&&zB0 e&&!zEo sc tg)||zQv tg||!zAz tg then none else match cX ar cl n sc e with
     |some c=>(cG ar cl n sc tg).map λg=>zLZ c g
     |none=>(cE ar cl n sc e).bind λc=>(cG ar cl n sc tg).map λg=>sAsg c g
   |_=>none
  |.If t a b _=>(cT ar cl n sc t).bind λct=>(cSts n sc a).bind λca=>(cSts n sc b).map λcb=>sIf ct ca cb
  |.For tg it body els _=>match els with
   |[]=>(zMs sc ar (cE ar cl n sc) tg it).bind λci=>(cG ar cl n sc tg).bind λg=>(cSts n sc body).map λcb=>sFor ci g cb
   |_::_=>none
  |.While t body els _=>match els with
   |[]=>(cT ar cl n sc t).bind λct=>(cSts n sc body).map λcb=>zCA zGj ct cb
   |_::_=>none
  |.Pass _=>some zA4
  |.Break _=>some sBrk
  |.Continue _=>some sCnt
  |.Raise a b _=>match zHx sc a b with
   |some x=>some (zH3 x)
   |none=>some sBad
  |_=>none
noncomputable def cSts:Nat->Sc->List vI->Option CS
 |0,_,_=>none
 |n+1,sc,ss=>match ss with
  |[]=>some zA4
  |s::r=>(cSt n sc s).bind λc=>(cSts n sc r).map λd=>sSeq c d
end
end
inductive ParE(sc:Sc)(tg e:y4)(r:Nat×Nat×y4×y4):Prop
 |mk (x y:Str) (px py pt pt2:Pos) (kt k2:Nat) (v1 v2:y4) (h1:tg=.Tuple [.Name x px,.Name y py] kt pt) (h2:e=.Tuple [v1,v2] k2 pt2) (hp:zYG sc (.Name x px,.Name y py) (v1,v2) (x,y)=some r)
theorem zNv(h:XOk X sc ar cl k):gQ (yW X.prog X.w) X.A X.env X.xe:=h.own
theorem s_St:∀n:Nat,(∀X sc,XOk X sc ar cl k->∀s c,cSt ar cl n sc s=some c->PS X s (tOfS X c))/\(∀X sc,XOk X sc ar cl k->∀s c,cSts ar cl n sc s=some c->PSs X s (tOfS X c))
 |0=>⟨λX sc h e c q=>(by cases q),λX sc h e c q=>(by cases q)⟩
 |n+1=>by
  obtain⟨ih,ihs⟩:=s_St n;refine⟨λX sc h s c q=>?_,λX sc h ss c q=>?_⟩
  ·have hf:=(zLY (ar:=ar) (cl:=cl) (k:=k) n).1 X sc h;have ht:=(zLY (ar:=ar) (cl:=cl) (k:=k) n).2 X sc h;have hg:=(s_G (ar:=ar) (cl:=cl) (k:=k) n).1 X sc h;cases s with
   |Return v pos =>
    cases v with
    |none=>cases q;exact zS4
    |some e =>
     change (match cX ar cl n sc e with|some c=>some (zEM c)| none=>(cE ar cl n sc e).map λc=>sRet c)=some c at q;split at q
     ·rename_i c' hz;cases q;exact zS3 (s_cX h hf ht hz).1
     obtain⟨ce,e1,q1⟩:=qA2.mp q;subst q1;exact zUF (hf _ _ e1)
   |Expr e pos =>
    change (if zEK e=true then none else match cX ar cl n sc e with|some c=>some (zH4 c)| none=>(cE ar cl n sc e).map λc=>zE8 c)=some c at q;split at q
    ·cases q
    ·rename_i hc;split at q
     ·rename_i c' hz;cases q;exact zPy (s_cX h hf ht hz).1 (zHp (by simpa using hc))
     obtain⟨ce,e1,q1⟩:=qA2.mp q;subst q1;exact zS6 (hf _ _ e1) (zHp (by simpa using hc))
   |Assign tgs e pos =>
    cases tgs with
    |nil=>cases q
    |cons tg r =>
     cases r with
     |cons _ _=>cases q
     |nil =>
      change (if zKA tg e||(zB0 tg&&zB0 e&&!zEo sc tg)||zQv tg||!zAz tg then none else match cX ar cl n sc e with|some c=>(cG ar cl n sc tg).map λg=>zLZ c g|none=>(cE ar cl n sc e).bind λc=>(cG ar cl n sc tg).map λg=>sAsg c g)=some c at q;split at q
      ·cases q
      ·rename_i hc;simp only[qH8,not_or,Bool.not_eq_true,qG8,Bool.not_eq_false]at hc;obtain⟨⟨⟨c1,c2⟩,c3⟩,c4⟩:=hc;split at q
       ·rename_i c' hz;obtain⟨g,e2,q2⟩:=qA2.mp q;subst q2;obtain⟨z1,z2⟩:=s_cX h hf ht hz;rcases zHg c1 with c1|⟨x,px,elt,gens,scope,pc,rfl,rfl⟩
        ·exact zS7 z1 (hg _ _ e2) (c1 _ _) (zDL h c2 c3) (by rw[zBD (by simpa using c4)];rfl)
        ·cases z2
       obtain⟨ce,e1,q1⟩:=qA1.mp q;obtain⟨g,e2,q2⟩:=qA2.mp q1;subst q2;rcases zHg c1 with c1|⟨x,px,elt,gens,scope,pc,rfl,rfl⟩
       ·refine zRa (hf _ _ e1) (hg _ _ e2) (c1 _ _) (zDL h c2 c3) ?_;rw[zBD (by simpa using c4)];rfl
       ·obtain⟨b,hb⟩:=zLS (elt:=elt) (gens:=gens) (scope:=scope) (pos:=pc) (pos':=px) (x:=x) (line:=pos.line) (env:=X.env);cases b with
        |false=>exact zRa (hf _ _ e1) (hg _ _ e2) hb (zDL h c2 c3) (by rw[zBD (by simpa using c4)];rfl)
        |true =>
         cases n with
         |zero=>cases e2
         |succ n =>
          obtain⟨i,rfl,h1,h2,h3⟩:=s_tg h e2;exact zUE (zNd h e1 (zDg h.nd' h1 h2 h3) hb)
   |If t a b pos =>
    obtain⟨ct,e0,q1⟩:=qA1.mp q;obtain⟨ca,e1,q2⟩:=qA1.mp q1;obtain⟨cb,e2,q3⟩:=qA2.mp q2;subst q3;exact zYf (ht _ _ e0) (ihs X sc h _ _ e1) (ihs X sc h _ _ e2)
   |For tg it body els pos =>
    cases els with
    |cons _ _=>cases q
    |nil =>
     obtain⟨ci,e0,q1⟩:=qA1.mp q;obtain⟨g,e1,q2⟩:=qA1.mp q1;obtain⟨cb,e2,q3⟩:=qA2.mp q2;subst q3;obtain⟨i1,i2⟩:=zNb h hf e0;exact zUG (zNv h) h.calm i1 (hg _ _ e1) (ihs X sc h _ _ e2) (zFS i2)
   |While t body els pos =>
    cases els with
    |cons _ _=>cases q
    |nil =>
     obtain⟨ct,e0,q1⟩:=qA1.mp q;obtain⟨cb,e2,q3⟩:=qA2.mp q1;subst q3;exact zPw zGj (zNv h) (ht _ _ e0) (ihs X sc h _ _ e2)
   |Pass pos=>cases q;exact zS5
   |Break pos=>cases q;exact zUI
   |Continue pos=>cases q;exact zUH
   |Raise a b pos =>
    change (match zHx sc a b with|some x=>some (zH3 x)| none=>some sBad)=some c at q;split at q
    ·rename_i x hx;cases q;exact zSo h hx
    ·cases q;exact zUJ
   |_=>cases q
  ·cases ss with
   |nil=>cases q;exact zS2
   |cons s r =>
    obtain⟨c1,e1,q1⟩:=qA1.mp q;obtain⟨c2,e2,q2⟩:=qA2.mp q1;subst q2;exact zPv (ih X sc h _ _ e1) (ihs X sc h _ _ e2)
noncomputable def zAC(n:Nat)(ds:List D):Env1:=ds.map some++qE6 (n - ds.length) none
noncomputable def runF(np nN:Nat)(b:CS):List D->M D:=λds S=>if ds.length=np then(match b (zAC nN ds) S with
 |.nx _ S'=>.ok .non S'
 |.rt d S'=>.ok d S'
 |.er c S'=>.er c S'
 | _=>.bad)else .bad
theorem RVs.begins{K:yQ}{H:Hp}{J:yC}{N:yH}{ds:List D}{vs:List V}(r:RVs K H J ds vs):RE K H J (zAC N.length ds) (start N vs):=by
 unfold zAC start;refine⟨by simp[r.len],λi d e=>?_⟩;by_cases hi:i<ds.length
 ·rw[qA7 (by simpa using hi),qC0]at e;rw[qA7 (by rw[qA8,<- r.len];exact hi),qC0];cases q:ds[i]? with
  |none=>rw[q]at e;cases e
  |some d' =>
   rw[q]at e;cases e;obtain⟨v,e1,e2⟩:=r.get q;exact⟨v,by rw[e1];rfl,e2⟩
 ·rw[qA0 (by simpa using hi),qG6]at e;split at e<;>cases e
noncomputable def fnOk(N ps:yH)(scope:jS):Bool :=
 decide (scope.kind=.function)&&!scope.isCoroutine&&!scope.isGenerator&&decide N.Nodup&&decide (N.take ps.length=ps)&&ps.all (λx=>scope.names.lookup x == some .local||scope.names.lookup x == some .cell)&&scope.names.all (λy=>y.2 != .free)
theorem zHd{N ps:yH}{scope:jS}(h:fnOk N ps scope=true):zE0 N ps scope:=by
 unfold fnOk at h;simp only[qC5,decide_eq_true_eq,qG8]at h;obtain⟨⟨⟨⟨⟨⟨c1,c2⟩,c3⟩,c4⟩,c5⟩,c6⟩,c7⟩:=h;refine⟨c1,c2,c3,c4,c5,λx hx=>?_,λy hy=>?_⟩
 ·have:=qD5.mp c6 x hx;simpa using this
 ·have:=qD5.mp c7 y hy;simpa using this
inductive LamF(K:yQ)(mg:Str->yF)(base:jC)(fd:jX)(x:Str):Prop
 |mk (c T:yR) (tab:fH K x=some (c,T)) (code:fd.code=.ref c) (hd:fL base c T) (blt:base.BuiltinsAt mg T) (ne:y8≠T)
def RefH(P:y7)(w:jD)(K:yQ)(mg:Str->yF)(base:jC):Prop:=(∀t∈rfN,zU8 P w K mg base t 4 rfB)/\zI1 K=true/\(∀c∈xoL,∃C,mg c=some (.ref C)/\exG K c=some C)/\mg "ValueError"=none
theorem Fun.okX{CX:CXT}{P:y7}{w:jD}{K:yQ}{mg:Str->yF}{base:jC}{x qual:Str}{st:vI}{f:yR}{fd:jX}{N ps:yH}{k:Nat}{sp:Sp}(F:Fun K x qual st f fd)(S:zE0 N ps (zA1 st))(len:∀vs H Q E,sp vs H Q E->vs.length=ps.length)
  (hbody:∀(cdv:yU) (A:jE) (outer:List Env) (s:yS) (H:Hp) (vs:List V) (Q:VK) (E:XK),fd.code=cdv->Room k (A.deeper (lU qual (zA1 st) s.heap.objs.size f cdv))->sp vs H Q E ->
   ∃t,PSs (cxOf CX P w K mg base N qual (zA1 st) f cdv A outer s H E) (zAr st) t/\t { nx:=λ_ H'=>Q .non H',rt:=Q } (start N vs) H):FnOk P w K mg base CX (k+1) f fd ps sp:=by obtain⟨oc,od,kV,doc,pm,an,cdv,ct,osl,rfl,lk,hcd⟩:=F.ex;exact zZq lk hcd S len λA outer s H vs Q E hr hsp=>hbody cdv A outer s H vs Q E rfl hr hsp
theorem s_fn{P:y7}{w:jD}{K:yQ}{mg:Str->yF}{base:jC}{x:Str}{st:vI}{fa:yR}{fd:jX}{N ps:yH}{fuel:Nat}{b:CS}(F:Fun K x x st fa fd)
  (hs:fnOk N ps (zA1 st)=true) (hc:cSts ar cl fuel ⟨N,(zA1 st).names,some x⟩ (zAr st)=some b)
  (hB:MgOk ar mg) (hX:∀x∈excL,∃C,mg x=some (.ref C)/\ExcK K C)
  (hL:x=lamD->LamF K mg base fd x) (hT:∀t ws,tkL.lookup t=some ws->zEC K mg t ws)
  (hR:RefH P w K mg base)
  (ih:∀y n,ar y=some n->(∃ps,zEE P w K mg base y ps (3*k) (zHq K mg (cl y) n))/\∀ds S,cl y ds S≠.bad->ds.length=n):FnOk P w K mg base (CX1 P w) (3*k+2+1) fa fd ps (zHq K mg (runF ps.length N.length b) ps.length):=by
 have S:=zHd hs;refine F.okX (k:=3*k+2) S (λvs H Q E h=>h.1) (λcdv A outer s H vs Q E hcd hr h=>?_);obtain⟨hl,J,ds,S0,sr,rv,y⟩:=h;have o:Own1 (cxOf (CX1 P w) P w K mg base N x (zA1 st) fa cdv A outer s H E) E:=⟨rfl,rfl,rfl,rfl⟩
 have hX:XOk (cxOf (CX1 P w) P w K mg base N x (zA1 st) fa cdv A outer s H E) ⟨N,(zA1 st).names,some x⟩ ar cl k:={
  calm:=rfl
  N:=rfl
  nd:=S.nd
  gl:=λx hx=>hx
  loc:=λx hx=>hx
  cel:=λx hx=>hx
  fre:=λx hx=>.inr hx
  fnn:=λ_ x=>rfl
  room:=hr.mono (by omega)
  roomT:=λ_=>hr
  lam:=λz=>by have z':x=lamD:=Option.some.inj z;obtain⟨c,T,t1,t2,t3,t4,t5⟩:=hL z';rw[<- z'];exact⟨c,T,t1,hcd.symm.trans t2,rfl,t3,t4,t5⟩
  tk:=λ_=>hT
  rf:=λ_=>hR.1
  xk:=hR.2.1
  xm:=hR.2.2.1
  xv:=hR.2.2.2
  own:=PassesOwn.leaving
  exc:=hX
  blt:=hB
  fns:=ih }
 refine⟨_,(s_St fuel).2 _ _ hX _ _ hc,J,zAC N.length ds,S0,sr,rv.begins,?_⟩;unfold runF at y;rw[if_pos (rv.len.trans hl)]at y;revert y;cases b (zAC N.length ds) S0 with
 |nx B S2=>exact λy Z' H' J' sr' st' re'=>y _ H' J' sr' st' zE9
 |rt d' S2=>exact λy=>y
 |er c S2=>exact λy H' J' sr' st' C hm=>zOH o (y H' J' sr' st' C hm)
 |bad=>exact λy=>y
 |bk _ _=>exact λy=>False.elim y
 |ct _ _=>exact λy=>False.elim y
theorem zYp{P:y7}{w:jD}{K:yQ}{mg:Str->yF}{base:jC}{x:Str}{st:vI}{fa:yR}{fd:jX}{N ps:yH}{fuel:Nat}{b:CS}(F:Fun K x x st fa fd)(m:mg x=some (.ref fa))(hb:zEm K fd ps [])
  (hs:fnOk N ps (zA1 st)=true) (hc:cSts ar cl fuel ⟨N,(zA1 st).names,some x⟩ (zAr st)=some b)
  (hB:MgOk ar mg) (hX:∀x∈excL,∃C,mg x=some (.ref C)/\ExcK K C)
  (hL:x=lamD->LamF K mg base fd x) (hT:∀t ws,tkL.lookup t=some ws->zEC K mg t ws)
  (hR:RefH P w K mg base)
  (ih:∀y n,ar y=some n->(∃ps,zEE P w K mg base y ps (3*k) (zHq K mg (cl y) n))/\∀ds S,cl y ds S≠.bad->ds.length=n):zEE P w K mg base x ps (3*(k+1)) (zHq K mg (runF ps.length N.length b) ps.length) :=
 ⟨fa,fd,s_fn F hs hc hB hX hL hT hR ih,hb,F.kp,m⟩
end
abbrev CLL:=Str->List D->M D
abbrev Tbl:=List (Str×(Nat×Nat×(CLL->CS)))
noncomputable def arT(tbl:Tbl)(x:Str):yK:=(tbl.lookup x).map (·.1)
noncomputable def zAl(tbl:Tbl):Nat->CLL
 |0,_=>λ_ _=>.bad
 |n+1,x=>match tbl.lookup x with
  |some p=>runF p.1 p.2.1 (p.2.2 (zAl tbl n))
  |none=>λ_ _=>.bad
structure zKR(K:yQ)(mg:Str->yF)(ar:Str->yK)(x:Str)(p:Nat×Nat×(CLL->CS)):Prop where
 ex:∃(st:vI) (fa:yR) (fd:jX) (N ps:yH) (fuel:Nat),Fun K x x st fa fd/\mg x=some (.ref fa)/\zEm K fd ps []/\fnOk N ps (zA1 st)=true/\ps.length=p.1/\N.length=p.2.1 /\
  ∀cl:CLL,cSts ar cl fuel ⟨N,(zA1 st).names,some x⟩ (zAr st)=some (p.2.2 cl)
theorem zM9{α:Type}{tbl:List (Str×α)}{x:Str}{p:α}(h:tbl.lookup x=some p):(x,p)∈tbl:=by
 induction tbl with
 |nil=>cases h
 |cons y r ih =>
  obtain⟨y1,y2⟩:=y;rw[qD1]at h;split at h
  ·rename_i e;cases h;have:x=y1:=by simpa using e
   subst this;simp
  ·exact qC1 _ (ih h)
theorem zNg{np nN:Nat}{b:CS}{ds:List D}{S:zA0}(h:runF np nN b ds S≠.bad):ds.length=np:=by
 unfold runF at h;split at h
 ·assumption
 ·exact absurd rfl h
theorem zR9{P:y7}{w:jD}{K:yQ}{mg:Str->yF}{base:jC}{tbl:Tbl}(hd:∀x p,tbl.lookup x=some p->zKR K mg (arT tbl) x p)(hB:MgOk (arT tbl) mg)(hX:∀x∈excL,∃C,mg x=some (.ref C)/\ExcK K C)
  (hL:∀x st fa fd,Fun K x x st fa fd->mg x=some (.ref fa)->x=lamD->LamF K mg base fd x) (hT:∀t ws,tkL.lookup t=some ws->zEC K mg t ws)
  (hR:RefH P w K mg base)
  :
  ∀(k:Nat) (x:Str) (n:Nat),arT tbl x=some n->(∃ps,zEE P w K mg base x ps (3*k) (zHq K mg (zAl tbl k x) n))/\∀ds S,zAl tbl k x ds S≠.bad->ds.length=n
 |0,x,n,h=>by
  obtain⟨p,hp,rfl⟩:=qA2.mp h;obtain⟨st,fa,fd,N,ps,fuel,F,m,hb,_⟩:=(hd x p hp).ex;have no:∀vs H Q E,¬zHq K mg (zAl tbl 0 x) p.1 vs H Q E:=λvs H Q E h=>by obtain⟨_,J,ds,S,_,_,y⟩:=h;exact y
  exact⟨⟨ps,fa,fd,⟨λvs H Q E h=>(no _ _ _ _ h).elim,λA outer s H args us vs Q E _ _ _ _ h=>(no _ _ _ _ h).elim⟩,hb,F.kp,m⟩,λds S e=>absurd rfl e⟩
 |k+1,x,n,h=>by
  obtain⟨p,hp,rfl⟩:=qA2.mp h;obtain⟨st,fa,fd,N,ps,fuel,F,m,hb,hs,e1,e2,hc⟩:=(hd x p hp).ex;have ih:=zR9 (P:=P) (w:=w) (base:=base) hd hB hX hL hT hR k;have q:=zYp (P:=P) (w:=w) (base:=base) (k:=k) F m hb hs (hc (zAl tbl k)) hB hX (hL x st fa fd F m) hT hR ih;have e3:zAl tbl (k+1) x=runF p.1 p.2.1 (p.2.2 (zAl tbl k)):=by show(match tbl.lookup x with|some p=>runF p.1 p.2.1 (p.2.2 (zAl tbl k))| none=>λ_ _=>.bad)=_;rw[hp]
  rw[e1,e2]at q;rw[e3];exact⟨⟨ps,q⟩,λds S e=>zNg e⟩
noncomputable def spL(K:yQ):Sp:=λvs H Q _=>∃(a:yR) (ns:yA) (T c:yR),vs=[.ref a]/\SqF K H a (ns.map V.int)/\ns.length<=63/\H T=some (.tbl #[])/\fH K lamD=some (c,T)/\∀H',Q (.bl true) H'
theorem zWj{P:y7}{w:jD}{K:yQ}{mg:Str->yF}{base:jC}{tbl:Tbl}{fa:yR}{fd:jX}{st:vI}{L nN fuel:Nat}{N:yH}{b:CLL->CS}(hd:∀x p,tbl.lookup x=some p->zKR K mg (arT tbl) x p)(hB:MgOk (arT tbl) mg)(hX:∀x∈excL,∃C,mg x=some (.ref C)/\ExcK K C)
  (hL:∀x st fa fd,Fun K x x st fa fd->mg x=some (.ref fa)->x=lamD->LamF K mg base fd x) (hT:∀t ws,tkL.lookup t=some ws->zEC K mg t ws) (hm:mg "law"=some (.ref fa))
  (hR:RefH P w K mg base)
  (hl:tbl.lookup ("law":Str)=some (1,nN,b)) (F:Fun K "law" "law" st fa fd) (hs:fnOk N ["_law_script"] (zA1 st)=true) (hN:N.length=nN) (hc:∀cl:CLL,cSts (arT tbl) cl fuel ⟨N,(zA1 st).names,some "law"⟩ (zAr st)=some (b cl))
  (hlaw:∀ns:yA,ns.length<=63->∃S',zAl tbl (L+1) "law" [.rol (ns.map D.int)] [.tb lamD]=.ok (.bl true) S') :
  FnOk P w K mg base (CX1 P w) (3*(L+1)) fa fd ["_law_script"] (spL K):=by
 have q:=s_fn (P:=P) (w:=w) (base:=base) (k:=L) F hs (hc (zAl tbl L)) hB hX (hL "law" st fa fd F hm) hT hR (zR9 (P:=P) (w:=w) (base:=base) hd hB hX hL hT hR L);refine q.imp λvs H Q E h=>?_;obtain⟨a,ns,T,c,rfl,hS,hn,hT1,hT2,hQ⟩:=h;obtain⟨S',e⟩:=hlaw ns hn;have e3:zAl tbl (L+1) "law"=runF 1 nN (b (zAl tbl L)):=by show(match tbl.lookup ("law":Str)with|some p=>runF p.1 p.2.1 (p.2.2 (zAl tbl L))| none=>λ_ _=>.bad)=_;rw[hl]
 rw[e3]at e;refine⟨rfl,[T],[.rol (ns.map D.int)],[.tb lamD],⟨rfl,by simp,λn a o h1 h2=>?_⟩,.cons (by unfold RV;exact⟨a,_,rfl,hS,RVs.ints⟩) .nil,?_⟩
 ·cases n with
  |succ n=>simp at h1
  |zero =>
   simp at h1 h2;subst h1 h2;exact⟨#[],hT1,⟨c,hT2⟩,trivial,λpos cv z=>by cases z⟩
 rw[hN,show runF (["_law_script"]:yH).length nN (b (zAl tbl L)) [.rol (ns.map D.int)] [.tb lamD]=.ok (.bl true) S' from e];refine λv H' J' _ _ r=>?_;unfold RV at r;subst r;exact hQ H'
theorem zTl{K:yQ}{mg:Str->yF}{base:jC}{c T:yR}(kb:K.In base)(nb:base.Ns y8 mg)(tab:fH K lamD=some (c,T))(hd:fL base c T)(blt:base.BuiltinsAt mg T)(ne:y8≠T):
  ∀x st fa fd,Fun K x x st fa fd->mg x=some (.ref fa)->x=lamD->LamF K mg base fd x:=λx st fa fd F m e=>by subst e;obtain⟨oc,od,kV,doc,pm,an,cdv,ct,osl,e,lk,_⟩:=F.ex;exact⟨c,T,tab,W.law_code kb nb tab m (kb _ _ lk) rfl,hd,blt,ne⟩
noncomputable def hH(K:yQ)(T a:yR)(o:Obj)(xs:List V):Hp:=λb=>if b=T then some (.tbl #[])else if b=a then(if K.lookup a=none then some (.frz o (.lst xs))else none)else none
theorem zO3{P:y7}{w:jD}{K:yQ}{mg mb:Str->yF}{k:Nat}{fa a c T:yR}{fd:jX}{x:Str}{sp:Sp}{s₁:yS}{vs:yB}{ns:yA}
  (KX:K.In s₁.heap) (hns:s₁.heap.Ns y8 mg) (hb:s₁.heap.Ns mU mb) (hbb:∀x:Str,x ≠ "__name__"->mb x=jH x) (hlim:s₁.heap.NoLimit) (hg:s₁.gens=#[])
  (ha:s₁.heap.get? a=some { cls:=.type "list",data:=.seq vs.toArray }) (hi:wL vs ns) (hl:ns.length<=jA) (hr:Room k mF)
  (C:fL s₁.heap c T) (hT:s₁.heap.get? T=some (W.tabObj #[])) (BB:s₁.heap.BuiltinsAt mg T) (nK:K.lookup T=none)
  (F:∀base:jC,K.In base->base.Ns y8 mg->fL base c T->base.BuiltinsAt mg T->FnOk P w K mg base (CX1 P w) k fa fd [x] sp) (hbind:∀(s:yS) (u:yU),m7 s fd ⟨[u],[]⟩ [(x,u)])
  (hsp:∀H:Hp,SqF K H a (ns.map V.int)->H T=some (.tbl #[])->sp [.ref a] H (λv _=>v=.bl true) λ_ _ _=>False) :
  vU (yW P w) mF (.call (.ref fa) ⟨[.ref a],[]⟩) (λr s'=>r=.ok (.ret (.bool true))/\OldK s₁.heap s'.heap/\s'.os=s₁.os/\fT s'.gens) s₁:=by
 have rv:=zIz hi;have lenV:=hi.length;have aT:a≠T:=λz=>by rw[z,hT]at ha;cases ha
 obtain⟨H,hH'⟩:∃H,hH K T a { cls:=.type "list",data:=.seq vs.toArray } (ns.map V.int)=H:=⟨_,rfl⟩
 have H_T:H T=some (.tbl #[]):=by rw[<- hH'];unfold hH;rw[if_pos rfl]
 have H_a:H a=if K.lookup a=none then some (.frz { cls:=.type "list",data:=.seq vs.toArray } (.lst (ns.map V.int)))else none:=by rw[<- hH'];unfold hH;rw[if_neg aT,if_pos rfl]
 have H_o:∀b,b≠T->b≠a->H b=none:=λb n1 n2=>by rw[<- hH'];unfold hH;rw[if_neg n1,if_neg n2]
 have sq:SqF K H a (ns.map V.int):=by
  cases hk:K.lookup a with
  |none=>exact .inl ⟨_,by rw[H_a,if_pos hk]⟩
  |some o =>
   have e:=KX a o hk;rw[ha]at e;cases e;exact .inr ⟨_,vs.toArray,_,hk,rfl,rfl,rfl,by rw[qB1,lenV];exact hl,by simpa using rv⟩
 have hok:HOk P w H s₁.heap:=λb u e=>by
  by_cases n1:b=T
  ·subst n1;rw[H_T]at e;cases e;exact hT
  ·by_cases n2:b=a
   ·subst n2;rw[H_a]at e;split at e
    ·cases e;exact⟨ha,by rw[qA8];exact hl,vs,_,rv,ha⟩
    ·cases e
   ·rw[H_o b n1 n2]at e;cases e
 have base_of:∀{b:yR}{o:Obj},s₁.heap.get? b=some o->H b=none->(hidT s₁.heap H).get? b=some o:=λe n=>zQG e n;have noA:∀{b:yR}{o:Obj},s₁.heap.get? b=some o->b≠T->o.cls≠.type "list"->H b=none:=λ{b o} e n1 n2=>H_o b n1 λz=>by rw[z,ha]at e;cases e;exact n2 rfl
 have nsK:∀{b:yR}{m:Str->yF},s₁.heap.Ns b m->(hidT s₁.heap H).Ns b m:=λ{b m} ⟨o,es,ep,e,d,r⟩=>⟨o,es,ep,base_of e (H_o b (λz=>by rw[z,hT]at e;cases e;cases d) λz=>by rw[z,ha]at e;cases e;cases d),d,r⟩
 have hKb:K.In (hidT s₁.heap H):=λb o e=>base_of (KX b o e) (by
  by_cases n1:b=T
  ·rw[n1,nK]at e;cases e
  ·by_cases n2:b=a
   ·subst n2;rw[H_a,if_neg (by rw[e];exact λz=>by cases z)]
   ·exact H_o b n1 n2)
 have hM:Mod K mg (hidT s₁.heap H):=⟨hKb,nsK hns,⟨mb,nsK hb,hbb⟩,let ⟨mc,h1,h2⟩:=hlim;⟨mc,nsK h1,h2⟩⟩
 have e0:Env0 P w K mg (hidT s₁.heap H) mF [] s₁ H:=⟨rfl,hM,λb o e=>zSZ e,Nat.le_of_eq (zOq _ _),trivial,λb hb=>absurd (show b∈([]:yC)from hb) (by simp),hok,.of_eq hg⟩
 have C':fL (hidT s₁.heap H) c T:=by obtain⟨o,vs',file,tf,flags,tg,inF,text,tt,e1,e2,e3,e4,f3,f4,f5,f6,f7,f11⟩:=C;exact⟨o,vs',file,tf,flags,tg,inF,text,tt,base_of e1 (noA e1 f11 (by rw[e2];exact λz=>absurd (Value.type.inj z) (by decide))),e2,e3,e4,f3,f4,f5,f6,f7,f11⟩
 have BB':(hidT s₁.heap H).BuiltinsAt mg T:=by obtain⟨bm,o,b1,b2,b3,b4,b5,b6,b7,b8⟩:=BB;exact⟨bm,o,b1,b2,b3,b4,base_of b5 (noA b5 b4 (by rw[b6];exact λz=>absurd (Value.type.inj z) (by decide))),b6,b7,b8⟩
 refine vR ((F _ hKb (nsK hns) C' BB').run mF [] s₁ H ⟨[.ref a],[]⟩ [.ref a] [.ref a] _ _ hr e0 (hbind s₁ (.ref a)) (.cons rfl .nil) (hsp H sq H_T)) λr s' h=>?_;cases r with
 |error e =>
  obtain⟨_,_,_,_,_,_,_,_,_,_,_,_,_,_,z⟩:=h;exact z.elim
 |ok fl =>
  cases fl with
  |next=>exact False.elim h
  |brk=>exact False.elim h
  |cont=>exact False.elim h
  |ret u =>
   obtain⟨v,H',os,bare,un,hok',r',q⟩:=h;have q':v=.bl true:=q;subst q';obtain rfl:u=Value.bool true:=r';have fin:∀b o,b≠T->s₁.heap.get? b=some o->s'.heap.get? b=some o:=λb o nb e=>by
    cases q:H b with
    |none=>exact un.keep b o e q (by intro z;exact absurd (show b∈([]:yC)from z) (by simp)) (by simp)
    |some u =>
     have nba:b=a:=Classical.byContradiction λz=>by rw[H_o b nb z]at q;cases q
     subst nba;rw[H_a]at q;split at q
     ·rename_i hk;have z:H b=some (.frz { cls:=.type "list",data:=.seq vs.toArray } (.lst (ns.map V.int))):=by rw[H_a,if_pos hk]
      obtain⟨e2,_⟩:=hok' b _ (un.frzs b _ _ z);rw[ha]at e;cases e;exact e2
     ·cases q
   obtain⟨more,hm⟩:=un.tbls T _ H_T;have hT':s'.heap.get? T=some (W.tabObj (#[]++more)):=hok' T _ hm;refine⟨rfl,⟨λb o e=>?_,λb o e=>?_⟩,os,bare⟩
   ·by_cases nb:b=T
    ·subst nb;rw[hT]at e;cases e;exact .inr (.inl ⟨(C.tab hT).isCodeTable,rfl,#[],more,rfl,hT'⟩)
    ·exact .inl (fin b o nb e)
   ·by_cases nb:b=T
    ·subst nb;exact⟨_,hT'⟩
    ·exact⟨o,fin b o nb e⟩
theorem zRP{l:W.OpenLaw}{q:y7}{loose:yH}{XP:(Str->yF)->jC->Prop}{YP:jD->jC->Prop}{d dl:DefRec}{K:Params->yQ}{L:Nat}(hn:l.most=some 63)(hdf:d.params.defaults=[])(hr:Room L mF)
  (hY:∀(w:jD) (h:jC),YP w h->(K w.params).In h) (hrec:(mJ q).find? (λe=>e.name == lamD)=some dl) (hTb:∀w:jD,∃c T,fH (K w.params) lamD=some (c,T)/\(K w.params).lookup T=none)
  (F:∀(w:jD) (mg:Str->yF) (fa c T:yR) (h:jC),(K w.params).In h->h.Ns y8 mg->mg d.name=some (.ref fa)->fH (K w.params) lamD=some (c,T) ->
   ∃fd:jX,(∀(s:yS) (u:yU),m7 s fd ⟨[u],[]⟩ [("_law_script",u)])/\∀base:jC,(K w.params).In base->base.Ns y8 mg->fL base c T->base.BuiltinsAt mg T->y8≠T->FnOk l.prog w (K w.params) mg base (CX1 l.prog w) L fa fd ["_law_script"] (spL (K w.params))) :
  W.WalkO q loose XP YP l.row.toRowW d [] (λf vs=>PySem.call f vs):=by
 refine Att.attach_call hn hdf λw s₀ s₁ mg mb fa o pm cd doc a vs ns G Y ho hd hcd hmg hobj hints hlen hg=>?_;have KX:=hY w _ Y;obtain⟨c,T,tab,nK⟩:=hTb w;obtain⟨C,hT⟩:=W.tab_of G.T KX hrec tab;obtain⟨bm,ob,b1,b2,b3,b4,b5,b6⟩:=G.T.bmain;have hgT:y8≠T:=λq=>by obtain⟨o,es,ep,e,hd,_⟩:=G.T.g;rw[q,hT]at e;cases e;cases hd
 have hbT:bm≠T:=λq=>by rw[q,hT]at b3;cases b3;cases b4
 have hbG:bm≠mainGlobals:=λq=>by obtain⟨o,es,ep,e,hd,_⟩:=G.T.g;rw[q,e]at b3;cases b3;rw[hd]at b6;cases b6
 obtain⟨fd,hb,hF⟩:=F w mg fa c T _ KX G.T.g hmg tab;exact zO3 KX G.T.g G.T.b G.T.builtins G.T.nolimit hg hobj hints (qD0 hlen (by decide)) hr C hT ⟨bm,ob,b1,b2,hbG,hbT,b3,b4,b5,b6⟩ nK (λbase kb nb C' BB'=>hF base kb nb C' BB' hgT) hb λH hS h1=>⟨a,ns,T,c,rfl,hS,hlen,h1,tab,λ_=>rfl⟩
open PySem
def zMz(K:yQ)(mg:Str->yF)(ar:Str->yK):Tbl->Prop
 |[]=>True
 |e::r=>zKR K mg ar e.1 e.2/\zMz K mg ar r
theorem zMz.mem{K:yQ}{mg:Str->yF}{ar:Str->yK}:∀{t:Tbl},zMz K mg ar t->∀x p,(x,p)∈t->zKR K mg ar x p
 |[],_,x,p,h=>by cases h
 |e::r,⟨a,b⟩,x,p,h=>by
  rcases qB0.mp h with q|q
  ·subst q;exact a
  ·exact b.mem x p q
theorem zMz.look{K:yQ}{mg:Str->yF}{ar:Str->yK}{t:Tbl}(h:zMz K mg ar t)(x:Str)(p:Nat×Nat×(CLL->CS))(e:t.lookup x=some p):zKR K mg ar x p:=h.mem x p (zM9 e)
theorem zX2{K:yQ}{mg:Str->yF}{ar:Str->yK}{x:Str}{st:vI}{fa:yR}{fd:jX}{N ps:yH}{fuel np nN:Nat}{b:CLL->CS}(F:Fun K x x st fa fd)(m:mg x=some (.ref fa))(hb:zEm K fd ps [])(hs:fnOk N ps (zA1 st)=true)
  (hc:(λcl:CLL=>cSts ar cl fuel ⟨N,(zA1 st).names,some x⟩ (zAr st))=λcl=>some (b cl)) (h1:ps.length=np:=by rfl) (h2:N.length=nN:=by rfl):zKR K mg ar x (np,nN,b) :=
 ⟨st,fa,fd,N,ps,fuel,F,m,hb,hs,h1,h2,λcl=>congrFun hc cl⟩
def zIx(mg:Str->yF):yH->Prop
 |[]=>True
 |x::r=>mg x=none/\zIx mg r
theorem zIx.mem{mg:Str->yF}:∀{l:yH},zIx mg l->∀x∈l,mg x=none
 |[],_,x,h=>by cases h
 |e::r,⟨a,b⟩,x,h=>by
  rcases qB0.mp h with q|q
  ·subst q;exact a
  ·exact b.mem x q
inductive Tg{γ:Type}(f:γ):Type where
 |mk
noncomputable def rbnd{α β:Type}(r:R α)(f:α->zA0->R β)(_:Tg f):R β:=match r with
 |.bad=>.bad
 |.er c S=>.er c S
 |.ok a S=>f a S
@[simp]theorem zAj{α β:Type}(a:α)(S:zA0)(f:α->zA0->R β):rbnd (.ok a S) f .mk=f a S:=rfl
@[simp]theorem zXv{α β:Type}(f:α->zA0->R β):rbnd .bad f .mk=.bad:=rfl
@[simp]theorem zBZ{α β:Type}(m:M α)(f:α->M β)(S:zA0):bnd m f S=rbnd (m S) f .mk:=rfl
@[simp]theorem zVh{α:Type}(a:α)(S:zA0):ret a S=.ok a S:=rfl
@[simp]theorem za0{α:Type}(S:zA0):(bad:M α) S=.bad:=rfl
noncomputable def rs{α:Type}(r:R α)(f:α->zA0->RS)(_:Tg f):RS:=match r with
 |.bad=>.bad
 |.er _ _=>.bad
 |.ok a S=>f a S
@[simp]theorem zVf{α:Type}(a:α)(S:zA0)(f:α->zA0->RS):rs (.ok a S) f .mk=f a S:=rfl
@[simp]theorem zZQ{α:Type}(f:α->zA0->RS):rs .bad f .mk=.bad:=rfl
noncomputable def sb(r:RS)(f:CS)(_:Tg f):RS:=match r with
 |.nx B S=>f B S
 |r=>r
@[simp]theorem zV4(B:Env1)(S:zA0)(f:CS):sb (.nx B S) f .mk=f B S:=rfl
@[simp]theorem za1(d:D)(S:zA0)(f:CS):sb (.rt d S) f .mk=.rt d S:=rfl
@[simp]theorem za4(B:Env1)(S:zA0)(f:CS):sb (.bk B S) f .mk=.bk B S:=rfl
@[simp]theorem za3(B:Env1)(S:zA0)(f:CS):sb (.ct B S) f .mk=.ct B S:=rfl
@[simp]theorem zCW(a b:CS)(B:Env1)(S:zA0):sSeq a b B S=sb (a B S) b .mk:=by unfold sSeq sb;cases a B S<;>rfl
@[simp]theorem za2(c:Str)(S:zA0)(f:CS):sb (.er c S) f .mk=.er c S:=rfl
noncomputable def rsX{α:Type}(r:R α)(f:α->zA0->RS)(_:Tg f):RS:=match r with
 |.bad=>.bad
 |.er k S=>.er k S
 |.ok a S=>f a S
@[simp]theorem zZR{α:Type}(a:α)(S:zA0)(f:α->zA0->RS):rsX (.ok a S) f .mk=f a S:=rfl
@[simp]theorem zZS{α:Type}(k:Str)(S:zA0)(f:α->zA0->RS):rsX (.er k S) f .mk=.er k S:=rfl
noncomputable def rbX{α β:Type}(r:R α)(f:α->zA0->R β)(_:Tg f):R β:=match r with
 |.ok a S=>f a S
 |_=>.bad
@[simp]theorem zZT{α β:Type}(a:α)(S:zA0)(f:α->zA0->R β):rbX (.ok a S) f .mk=f a S:=rfl
@[simp]theorem zXW(φ:List D->M D)(ca:CA)(B:Env1)(S:zA0):zB1 φ ca B S=rbX (ca B S) φ .mk:=by unfold zB1 rbX;cases ca B S<;>rfl
@[simp]theorem zZF(t:CT)(a b:C)(B:Env1)(S:zA0):cIfX t a b B S=rbX (t B S) (λk S1=>if k then a B S1 else b B S1) .mk:=by unfold cIfX rbX;cases t B S<;>rfl
@[simp]theorem zXq(c:C)(B:Env1)(S:zA0):zEM c B S=rsX (c B S) (λd S'=>.rt d S') .mk:=by unfold zEM rsX;cases c B S<;>rfl
@[simp]theorem zVc(c:C)(B:Env1)(S:zA0):zH4 c B S=rsX (c B S) (λ_ S'=>.nx B S') .mk:=by unfold zH4 rsX;cases c B S<;>rfl
@[simp]theorem zXu(c:C)(g:G)(B:Env1)(S:zA0):zLZ c g B S=rsX (c B S) (λd S1=>rs (g d B S1) (fun B' S2=>.nx B' S2) .mk) .mk:=by
 unfold zLZ rsX rs;cases c B S with
 |ok d S1=>dsimp only;cases g d B S1<;>rfl
 |_=>rfl
@[simp]theorem zVa(c:Str)(B:Env1)(S:zA0):zH3 c B S=.er c S:=rfl
@[simp]theorem zXs(B:Env1)(S:zA0):zA4 B S=.nx B S:=rfl
@[simp]theorem zYr(B:Env1)(S:zA0):sBrk B S=.bk B S:=rfl
@[simp]theorem zYq(B:Env1)(S:zA0):sCnt B S=.ct B S:=rfl
@[simp]theorem zXr(B:Env1)(S:zA0):zSv B S=.rt .non S:=rfl
@[simp]theorem zSu(c:C)(B:Env1)(S:zA0):sRet c B S=rs (c B S) (λd S'=>.rt d S') .mk:=by unfold sRet rs;cases c B S<;>rfl
@[simp]theorem zXt(c:C)(B:Env1)(S:zA0):zE8 c B S=rs (c B S) (λ_ S'=>.nx B S') .mk:=by unfold zE8 rs;cases c B S<;>rfl
@[simp]theorem zSw(c:C)(g:G)(B:Env1)(S:zA0):sAsg c g B S=rs (c B S) (λd S1=>rs (g d B S1) (fun B' S2=>.nx B' S2) .mk) .mk:=by
 unfold sAsg rs;cases c B S with
 |ok d S1=>dsimp only;cases g d B S1<;>rfl
 |_=>rfl
@[simp]theorem zZP(t:CT)(a b:CS)(B:Env1)(S:zA0):sIf t a b B S=rs (t B S) (λk S'=>if k then a B S' else b B S') .mk:=by unfold sIf rs;cases t B S<;>rfl
@[simp]theorem zHw(it:CI)(g:G)(b:CS)(B:Env1)(S:zA0):sFor it g b B S=rs (it B S) (λp S1=>zAx p.2 g b p.1 B S1) .mk:=by
 unfold sFor rs;cases it B S with
 |ok p S1=>obtain⟨a,b⟩:=p;rfl
 |_=>rfl
@[simp]theorem zZo(i:Nat)(d:D)(B:Env1)(S:zA0):gN i d B S=.ok (B.set i (some d)) S:=rfl
noncomputable def mo{α:Type}(o:Option α)(S':α->zA0)(B:Env1):R Env1:=match o with
 |some x=>.ok B (S' x)
 |none=>.bad
@[simp]theorem za6(co ci:C)(d:D)(B:Env1)(S:zA0):gS co ci d B S=rbnd (co B S) (λo S1=>rbnd (ci B S1) (λi S2=>mo (oSet o i d S2) (λx=>x) B) .mk) .mk:=by
 unfold gS;rw[zBZ];cases co B S with
 |bad=>rfl
 |er _ _=>rfl
 |ok o S1 =>
  rw[zAj,zAj,zBZ];cases ci B S1 with
  |bad=>rfl
  |er _ _=>rfl
  |ok i S2 =>
   rw[zAj,zAj];cases h:oSet o i d S2<;>rfl
@[simp]theorem zZ6{α:Type}(x:α)(f:α->zA0)(B:Env1):mo (some x) f B=.ok B (f x):=rfl
@[simp]theorem za5(gs:List G)(xs:List D)(B:Env1)(S:zA0):gT gs (.tup xs) B S=gTs gs xs B S:=rfl
@[simp]theorem zZn(B:Env1)(S:zA0):gTs [] [] B S=.ok B S:=rfl
@[simp]theorem zXI(g:G)(gs:List G)(x:D)(xs:List D)(B:Env1)(S:zA0):gTs (g::gs) (x::xs) B S=rbnd (g x B S) (fun B1 S1=>gTs gs xs B1 S1) .mk:=rfl
@[simp]theorem zPa(i:Nat)(B:Env1)(S:zA0):cVar i B S=match B[i]? with|some (some d)=>.ok d S|_=>.bad:=rfl
@[simp]theorem zU1(d:D)(B:Env1)(S:zA0):cCon d B S=.ok d S:=rfl
@[simp]theorem zU2(o:D->D->M D)(a b:C)(B:Env1)(S:zA0):cBin o a b B S=rbnd (a B S) (λx S1=>rbnd (b B S1) (λy S2=>o x y S2) .mk) .mk:=rfl
@[simp]theorem zZX(o:D->M D)(a:C)(B:Env1)(S:zA0):cUn o a B S=rbnd (a B S) o .mk:=rfl
@[simp]theorem zJH(B:Env1)(S:zA0):zA2 [] B S=.ok [] S:=rfl
@[simp]theorem zMt(c:C)(cs:List C)(B:Env1)(S:zA0):zA2 (c::cs) B S=rbnd (c B S) (λx S1=>rbnd (zA2 cs B S1) (λxs S2=>.ok (x::xs) S2) .mk) .mk:=rfl
@[simp]theorem zZG(o:List D->M D)(a:CA)(B:Env1)(S:zA0):cApp o a B S=rbnd (a B S) o .mk:=rfl
@[simp]theorem zZB(a:CA)(B:Env1)(S:zA0):cTup a B S=rbnd (a B S) (λxs S1=>.ok (.tup xs) S1) .mk:=rfl
@[simp]theorem zTZ(a:CA)(B:Env1)(S:zA0):cLst a B S=rbnd (a B S) (λxs S1=>.ok (.lst S1.length) (S1++[.lst xs])) .mk:=rfl
@[simp]theorem zZZ(t:CT)(a b:C)(B:Env1)(S:zA0):cIf t a b B S=rbnd (t B S) (λk S1=>if k then a B S1 else b B S1) .mk:=by
 unfold cIf;rw[zBZ];cases t B S with
 |ok k S1=>cases k<;>rfl
 |bad=>rfl
 |er _ _=>rfl
@[simp]theorem zXV(a:C)(B:Env1)(S:zA0):zAs a B S=rbnd (a B S) (λx S1=>dB x S1) .mk:=rfl
@[simp]theorem za7(b:Bool)(S:zA0):dB (.bl b) S=.ok b S:=rfl
@[simp]theorem zXX(a b:C)(B:Env1)(S:zA0):zIh a b B S=rbnd (zAs a B S) (λk S1=>if k then b B S1 else .ok (.bl false) S1) .mk:=by
 unfold zIh;rw[zBZ];cases zAs a B S with
 |ok k S1=>cases k<;>rfl
 |bad=>rfl
 |er _ _=>rfl
@[simp]theorem zZD(a b:C)(B:Env1)(S:zA0):cOrV a b B S=rbnd (zAs a B S) (λk S1=>if k then .ok (.bl true) S1 else b B S1) .mk:=by
 unfold cOrV;rw[zBZ];cases zAs a B S with
 |ok k S1=>cases k<;>rfl
 |bad=>rfl
 |er _ _=>rfl
@[simp]theorem zXP(a:C)(B:Env1)(S:zA0):zR0 a B S=rbnd (zAs a B S) (λk S1=>.ok (.bl (!k)) S1) .mk:=rfl
@[simp]theorem zXY(a b:CT)(B:Env1)(S:zA0):zPe a b B S=rbnd (a B S) (λk S1=>if k then b B S1 else .ok false S1) .mk:=by
 unfold zPe;rw[zBZ];cases a B S with
 |ok k S1=>cases k<;>rfl
 |bad=>rfl
 |er _ _=>rfl
@[simp]theorem zZE(a b:CT)(B:Env1)(S:zA0):cOrT a b B S=rbnd (a B S) (λk S1=>if k then .ok true S1 else b B S1) .mk:=by
 unfold cOrT;rw[zBZ];cases a B S with
 |ok k S1=>cases k<;>rfl
 |bad=>rfl
 |er _ _=>rfl
@[simp]theorem zXQ(a:CT)(B:Env1)(S:zA0):zKI a B S=rbnd (a B S) (λk S1=>.ok (!k) S1) .mk:=rfl
@[simp]theorem zX9(o o':D->D->M D)(a b c:C)(B:Env1)(S:zA0):zG9 o o' a b c B S=rbnd (a B S) (λx S1=>rbnd (b B S1) (λy S2=>rbnd (o x y S2) (λz S3=>rbnd (dB z S3) (λk S4=>if k then rbnd (c B S4) (λw S5=>o' y w S5) .mk else .ok (.bl false) S4) .mk) .mk) .mk) .mk:=by
 unfold zG9;rw[zBZ];cases a B S with
 |bad=>rfl
 |er _ _=>rfl
 |ok x S1 =>
  rw[zAj,zAj,zBZ];cases b B S1 with
  |bad=>rfl
  |er _ _=>rfl
  |ok y S2 =>
   rw[zAj,zAj,zBZ];cases o x y S2 with
   |bad=>rfl
   |er _ _=>rfl
   |ok z S3 =>
    rw[zAj,zAj,zBZ];cases dB z S3 with
    |bad=>rfl
    |er _ _=>rfl
    |ok k S4=>cases k<;>rfl
@[simp]theorem zZC(a:C)(B:Env1)(S:zA0):cTru a B S=rbnd (a B S) (λx S1=>dTru x S1) .mk:=rfl
@[simp]theorem zZz(b:Bool)(S:zA0):dTru (.bl b) S=.ok b S:=rfl
@[simp]theorem zXM(i:Int)(S:zA0):dTru (.int i) S=.ok (i != 0) S:=rfl
@[simp]theorem zXL(xs:List D)(S:zA0):dTru (.tup xs) S=.ok (!xs.isEmpty) S:=rfl
@[simp]theorem zUi(B:Env1)(S:zA0):zIg B S=.ok none S:=rfl
@[simp]theorem zXO(a:C)(B:Env1)(S:zA0):zJF a B S=rbnd (a B S) (λx S1=>rbnd (dInt x S1) (λi S2=>.ok (some i) S2) .mk) .mk:=rfl
@[simp]theorem zZA(i:Int)(S:zA0):dInt (.int i) S=.ok i S:=rfl
@[simp]theorem zZY(o:D->yG->yG->M D)(a:C)(lo hi:CO)(B:Env1)(S:zA0):cSl o a lo hi B S=rbnd (a B S) (λx S1=>rbnd (lo B S1) (λl S2=>rbnd (hi B S2) (λh S3=>o x l h S3) .mk) .mk) .mk:=rfl
@[simp]theorem zXR(T:String)(o:D->List D->M D)(a:C)(as:CA)(B:Env1)(S:zA0):zF3 T o a as B S=rbnd (a B S) (λx S1=>if tyOk T x S1 then rbnd (as B S1) (λxs S2=>o x xs S2) .mk else .bad) .mk:=rfl
@[simp]theorem zX8(T:String)(o:D->List D->M D)(a:C)(B:Env1)(S:zA0):zLE T o a B S=rbnd (a B S) (λx S1=>if tyOk T x S1 then o x [] S1 else .bad) .mk:=rfl
@[simp]theorem zTw(c:C)(B:Env1)(S:zA0):iSeq c B S=rbnd (c B S) (λx S1=>match x with
 |.tup xs=>.ok (xs,[]) S1
 |.lst n=>match zA3 S1 n with
  |some xs=>.ok (xs,[(n,xs)]) S1
  |none=>.bad
 |.dct n=>match S1[n]? with
  |some (.dk kvs)=>.ok (kvs.map λp=>kD p.1,[]) (S1.set n (.fk kvs))
  |some (.fk kvs)=>.ok (kvs.map λp=>kD p.1,[]) S1
  |_=>.bad
 | _=>.bad) .mk:=rfl
@[simp]theorem zMf(a:CA)(B:Env1)(S:zA0):zBw a B S=rbnd (a B S) (λxs S1=>match xs with
 |[.int j]=>if -4611686018427387904<=j/\j<4611686018427387904 then .ok (upD 0 j.toNat,[]) S1 else .bad
 | _=>.bad) .mk:=rfl
@[simp]theorem zUe(a:CA)(B:Env1)(S:zA0):zHP a B S=rbnd (a B S) (λxs S1=>match xs with
 |[.int i,.int j]=>if -4611686018427387904<=i/\i<4611686018427387904/\-4611686018427387904<=j/\j<4611686018427387904 then .ok (upD i (j - i).toNat,[]) S1 else .bad
 | _=>.bad) .mk:=rfl
@[simp]theorem zXH(a:CA)(B:Env1)(S:zA0):zKl a B S=rbnd (a B S) (λxs S1=>match xs with
 |[x,y]=>match zsAt S1 x,zsAt S1 y with
  |some ys,some zs=>.ok (zipD ys zs,zDc x ys++zDc y zs) S1
  |_,_=>.bad
 | _=>.bad) .mk:=rfl
@[simp]theorem zRO(n:Nat)(xs:List D):zDc (.lst n) xs=[(n,xs)]:=rfl
@[simp]theorem zRN(ys:List D)(xs:List D):zDc (.tup ys) xs=[]:=rfl
@[simp]theorem zXo(S:zA0)(n:Nat):zsAt S (.lst n)=zA3 S n:=rfl
@[simp]theorem zXn(S:zA0)(xs:List D):zsAt S (.tup xs)=some xs:=rfl
@[simp]theorem zWE(a:CA)(B:Env1)(S:zA0):zLs a B S=rbnd (a B S) (λxs S1=>match xs with
 |[.tup ys]=>.ok (zEY ys,[]) S1
 |[.lst n]=>match zA3 S1 n with
  |some ys=>.ok (zEY ys,[(n,ys)]) S1
  |none=>.bad
 | _=>.bad) .mk:=rfl
@[simp]theorem zXU(it:CI)(k:Nat)(js:List Nat)(t:Tgt)(tc:CT)(c:C)(B:Env1)(S:zA0):zCs it k js t tc c B S=rbnd (it B S) (λp S1=>if p.1.length<lim then rbnd (zAW p.2 t tc c (stE k js B) p.1 S1) (λys S'=>.ok (.lst S'.length) (S'++[.lst ys])) .mk else .bad) .mk:=rfl
@[simp]theorem zXT(B:Env1)(S:zA0):zJG B S=.ok (.dct S.length) (S++[.dk []]):=rfl
@[simp]theorem zXS(a b:C)(B:Env1)(S:zA0):zR1 a b B S=rbnd (a B S) (λx S1=>rbnd (b B S1) (λy S2=>match zFF x with
 |some k=>.ok (.dct S2.length) (S2++[.dk [(k,y)]])
 | none=>.bad) .mk) .mk:=rfl
@[simp]theorem zXE(i j:Int)(S:zA0):oAdd (.int i) (.int j) S=.ok (.int (i+j)) S:=rfl
@[simp]theorem zXD(xs ys:List D)(S:zA0):oAdd (.tup xs) (.tup ys) S=if xs.length+ys.length<=lim then .ok (.tup (xs++ys)) S else .bad:=rfl
@[simp]theorem zZ2(g:Int->Int->Int)(i j:Int)(S:zA0):oInt g (.int i) (.int j) S=.ok (.int (g i j)) S:=rfl
@[simp]theorem zXz(i j:Int)(S:zA0):oMul (.int i) (.int j) S=if zDQ i j then .ok (.int (i*j)) S else .bad:=rfl
@[simp]theorem zXA(i j:Int)(S:zA0):oMod (.int i) (.int j) S=if 0<j then .ok (.int (i % j)) S else .bad:=rfl
@[simp]theorem zXB(i j:Int)(S:zA0):oDiv (.int i) (.int j) S=if 0<j/\j<1073741824 then .ok (.int (i / j)) S else .bad:=rfl
@[simp]theorem zXx(i j:Int)(S:zA0):oPow (.int i) (.int j) S=if 0<=j/\j<=1000000/\i.natAbs<18446744073709551616 then .ok (.int (i ^ j.toNat)) S else .bad:=rfl
@[simp]theorem zQ6(i j:Int)(S:zA0):oShl (.int i) (.int j) S=if 0<=j/\j<=1000000/\i.natAbs<18446744073709551616 then .ok (.int (i*2 ^ j.toNat)) S else .bad:=rfl
@[simp]theorem zXw(i j:Int)(S:zA0):oShr (.int i) (.int j) S=if 0<=j then .ok (.int (i / 2 ^ j.toNat)) S else .bad:=rfl
@[simp]theorem zXy(i:Int)(S:zA0):oNeg (.int i) S=.ok (.int (-i)) S:=rfl
@[simp]theorem zXC(g:Int->Int->Bool)(i j:Int)(S:zA0):oCmp g (.int i) (.int j) S=.ok (.bl (g i j)) S:=rfl
@[simp]theorem zYZ(i j:Int)(S:zA0):oLt (.int i) (.int j) S=.ok (.bl (decide (i<j))) S:=rfl
theorem zOK(i j:Int):PyData.eqv (.int i) (.int j)=decide (i=j):=by show(i == j)=decide (i=j);rfl
@[simp]theorem zZ4(i j:Int)(S:zA0):oEq (.int i) (.int j) S=.ok (.bl (decide (i=j))) S:=by show R.ok (D.bl (PyData.eqv (.int i) (.int j))) S=_;rw[zOK]
@[simp]theorem zYY(i j:Int)(S:zA0):oNe (.int i) (.int j) S=.ok (.bl (!decide (i=j))) S:=by show R.ok (D.bl (!PyData.eqv (.int i) (.int j))) S=_;rw[zOK]
@[simp]theorem zZW(i j:Bool)(S:zA0):oEq (.bl i) (.bl j) S=.ok (.bl (i == j)) S:=by show R.ok (D.bl (PyData.eqv (.bool i) (.bool j))) S=_;cases i<;>cases j<;>rfl
@[simp]theorem zZU(i j:Bool)(S:zA0):oNe (.bl i) (.bl j) S=.ok (.bl (i != j)) S:=by show R.ok (D.bl (!PyData.eqv (.bool i) (.bool j))) S=_;cases i<;>cases j<;>rfl
@[simp]theorem zZ1(x:D)(S:zA0):oIs x .non S=.ok (.bl x.isNon) S:=by cases x<;>rfl
@[simp]theorem zUd(x:D)(S:zA0):zIX x .non S=.ok (.bl (!x.isNon)) S:=by cases x<;>rfl
@[simp]theorem zZV(a b:Bool)(S:zA0):oIs (.bl a) (.bl b) S=.ok (.bl (a == b)) S:=rfl
@[simp]theorem zW2(a b:Bool)(S:zA0):zIX (.bl a) (.bl b) S=.ok (.bl (a != b)) S:=rfl
@[simp]theorem zZt(i j:Int)(S:zA0):fMin [.int i,.int j] S=.ok (.int (if j<i then j else i)) S:=rfl
@[simp]theorem zZu(i j:Int)(S:zA0):fMax [.int i,.int j] S=.ok (.int (if j>i then j else i)) S:=rfl
@[simp]theorem zXK(i:Int)(S:zA0):fInt [.int i] S=.ok (.int i) S:=rfl
@[simp]theorem zZv(b:Bool)(S:zA0):fInt [.bl b] S=.ok (.int (if b then 1 else 0)) S:=rfl
@[simp]theorem zUg(xs:List D)(S:zA0):zBx [.tup xs] S=.ok (.tup xs) S:=rfl
theorem zCg{n:Nat}{xs:List D}{S:zA0}(h:zA3 S n=some xs):zBx [.lst n] S=.ok (.tup xs) S:=by show(match zA3 S n with|some ys=>R.ok (D.tup ys) S|none=>.bad)=_;rw[h]
@[simp]theorem zXJ(xs:List D)(S:zA0):fLen [.tup xs] S=.ok (.int xs.length) S:=rfl
@[simp]theorem zQR(xs:List D)(S:zA0):fLen [.rol xs] S=.ok (.int xs.length) S:=rfl
theorem zHZ{n:Nat}{xs:List D}{S:zA0}(h:zA3 S n=some xs):fLen [.lst n] S=.ok (.int xs.length) S:=by show(match zIL S (.lst n)with|some ys=>R.ok (D.int ys.length) S|none=>.bad)=_;show(match zA3 S n with|some ys=>R.ok (D.int ys.length) S|none=>.bad)=_;rw[h]
@[simp]theorem zWR(xs:List D)(S:zA0):zQQ [.tup xs] S=.ok (.lst S.length) (S++[.lst xs]):=rfl
@[simp]theorem zT1(xs:List D)(j:Int)(S:zA0):oIx (.tup xs) (.int j) S=match atI xs j with|some d=>.ok d S|none=>.bad:=rfl
@[simp]theorem zZ0(xs:List D)(j:Int)(S:zA0):oIx (.rol xs) (.int j) S=match atI xs j with|some d=>.ok d S|none=>.bad:=rfl
theorem zBH{n:Nat}{xs:List D}{S:zA0}(h:zA3 S n=some xs)(j:Int):oIx (.lst n) (.int j) S=match atI xs j with|some d=>.ok d S|none=>.bad:=by show(match zA3 S n,D.int j with|some xs,.int j=>(match atI xs j with|some d=>R.ok d S|none=>.bad)| _,_=>.bad)=_;rw[h]
@[simp]theorem zYX(xs:List D)(lo hi:yG)(S:zA0):oSl (.tup xs) lo hi S=.ok (.tup (cutD xs lo hi)) S:=rfl
@[simp]theorem zab{α:Type}(x:α)(xs:List α):atI (x::xs) 0=some x:=zCw (j:=0) rfl
@[simp]theorem zaa{α:Type}(x y:α)(xs:List α):atI (x::y::xs) 1=some y:=zCw (j:=1) rfl
@[simp]theorem za9{α:Type}(x y z:α)(xs:List α):atI (x::y::z::xs) 2=some z:=zCw (j:=2) rfl
@[simp]theorem za8{α:Type}(x y z w:α)(xs:List α):atI (x::y::z::w::xs) 3=some w:=zCw (j:=3) rfl
structure Kp(P:Nat->Prop)(S S':zA0):Prop where
 le:S.length<=S'.length
 eq:∀j,j<S.length->¬P j->S'[j]?=S[j]?
noncomputable abbrev Ex:zA0->zA0->Prop:=Kp λ_=>False
inductive Spc{α:Type}(m:R α)(r:α)(S:zA0):Prop
 |mk (S1:zA0) (e:m=.ok r S1) (x:Ex S S1)
theorem Kp.refl(P:Nat->Prop)(S:zA0):Kp P S S:=⟨qA6 _,λ_ _ _=>rfl⟩
theorem Kp.trans{P:Nat->Prop}{S S1 S2:zA0}(a:Kp P S S1)(b:Kp P S1 S2):Kp P S S2:=⟨qD0 a.le b.le,λj h n=>(b.eq j (qB2 h a.le) n).trans (a.eq j h n)⟩
theorem Ex.kp{P:Nat->Prop}{S S':zA0}(h:Ex S S'):Kp P S S':=⟨h.le,λj hj _=>h.eq j hj (λz=>z)⟩
theorem Kp.mono{P Q:Nat->Prop}{S S':zA0}(h:Kp P S S')(m:∀j,j<S.length->P j->Q j):Kp Q S S':=⟨h.le,λj hj n=>h.eq j hj λz=>n (m j hj z)⟩
theorem zAe(S T:zA0):Ex S (S++T):=⟨by simp,λj h _=>qA7 h⟩
theorem zCr{i:Nat}(S:zA0)(o:O):Kp (·=i) S (S.set i o):=⟨by simp,λj h n=>qD9 λz=>n z.symm⟩
theorem Kp.at{P:Nat->Prop}{S S':zA0}(h:Kp P S S'){j:Nat}{o:O}(e:S[j]?=some o)(n:¬P j):S'[j]?=some o:=by rw[h.eq j (qA3.mp e).1 n];exact e
theorem zAI{S:zA0}{n:Nat}{xs:List D}(h:zA3 S n=some xs):S[n]?=some (.lst xs):=by
 unfold zA3 at h;split at h
 ·rename_i ys e;cases h;exact e
 ·cases h
theorem zHE{S:zA0}{n:Nat}{xs:List D}(h:S[n]?=some (.lst xs)):zA3 S n=some xs:=by unfold zA3;rw[h]
theorem Kp.lst{P:Nat->Prop}{S S':zA0}(h:Kp P S S'){j:Nat}{xs:List D}(e:zA3 S j=some xs)(n:¬P j):zA3 S' j=some xs:=zHE (h.at (zAI e) n)
theorem zCZ{S:zA0}{n:Nat}{xs:List D}(h:zA3 S n=some xs):n<S.length:=(qA3.mp (zAI h)).1
@[simp]theorem zA5(S:zA0)(xs:List D):zA3 (S++[.lst xs]) S.length=some xs:=zHE (by rw[qA0 (qA6 _),qI8];rfl)
theorem zCR{S T:zA0}{n:Nat}{xs:List D}(h:zA3 S n=some xs):zA3 (S++T) n=some xs:=(zAe S T).lst h λz=>z
theorem zBY{S:zA0}{n:Nat}{xs ys:List D}(h:zA3 S n=some xs):zA3 (S.set n (.lst ys)) n=some ys:=zHE (qC8 (zCZ h))
theorem zE1{S:zA0}{n:Nat}{xs:List D}(h:zA3 S n=some xs):tyOk "list" (.lst n) S=true:=by show(decide ("list" = "list")&&(zA3 S n).isSome)=true;rw[h];rfl
theorem zEc{S:zA0}{n:Nat}{ys:List D}(h:zA3 S n=some ys)(g:List D->List D->Option (List D×D))(xs:List D):zCY g (.lst n) xs S=match g ys xs with|some p=>.ok p.2 (S.set n (.lst p.1))| none=>.bad:=by
 unfold zCY;dsimp only;rw[zAI h];dsimp only;cases g ys xs with
 |none=>rfl
 |some p=>rfl
@[simp]theorem zDx(ys:List D)(x:D):zAR ys [x]=if ys.length<lim then some (ys++[x],.non)else none:=rfl
@[simp]theorem zUf(ys:List D)(i:Int)(x:D):zHV ys [.int i,x]=if ys.length<1000/\0<=i/\i.toNat<=ys.length then some (ys.take i.toNat++x::ys.drop i.toNat,.non)else none:=rfl
theorem zL9{S:zA0}{n:Nat}{ys:List D}(h:zA3 S n=some ys)(k:Int)(v:D):oSet (.lst n) (.int k) v S=match ixN ys.length k with|some j=>some (S.set n (.lst (ys.set j v)))| none=>none:=by
 unfold oSet;dsimp only;rw[zAI h]
 all_goals (dsimp only;cases ixN ys.length k<;>rfl)
theorem zAg(S:zA0):okW [] S:=λp h=>by cases h
theorem zCo{S:zA0}{n:Nat}{xs:List D}(h:zA3 S n=some xs):okW [(n,xs)] S:=λp hp=>by simp at hp;subst hp;exact h
theorem zNW{w:zD5}{g:G}{b:CS}:∀(items:List D) (P:Nat->Env1->zA0->Prop) {B:Env1}{S:zA0} (k:Nat),(∀i B S,P i B S->okW w S)->P k B S ->
  (∀i d B S,items[i]?=some d->P (k+i) B S->∃B1 S1,g d B S=.ok B1 S1/\∃B2 S2,(b B1 S1=.nx B2 S2∨b B1 S1=.ct B2 S2)/\P (k+i+1) B2 S2)->∃B' S',zAx w g b items B S=.nx B' S'/\P (k+items.length) B' S'
 |[],P,B,S,k,hw,h0,hs=>⟨B,S,by unfold zAx;rw[if_pos (hw k B S h0)],by simpa using h0⟩
 |d::ds,P,B,S,k,hw,h0,hs=>by
  obtain⟨B1,S1,e1,B2,S2,e2,p2⟩:=hs 0 d B S rfl (by simpa using h0);obtain⟨B',S',e3,p3⟩:=zNW ds P (k+1) hw (by simpa using p2) (λi d' B S hi hp=>by
   obtain⟨B1,S1,q1,B2,S2,q2,q3⟩:=hs (i+1) d' B S (by rw[qD6];exact hi) (by rw[show k+(i+1)=k+1+i by omega];exact hp);exact⟨B1,S1,q1,B2,S2,q2,by rw[show k+1+i+1=k+(i+1)+1 by omega];exact q3⟩)
  refine⟨B',S',?_,by rw[qD4,show k+(ds.length+1)=k+1+ds.length by omega];exact p3⟩;unfold zAx;rw[if_pos (hw k B S h0),e1];dsimp only;rcases e2 with e2|e2
  ·rw[e2];exact e3
  ·rw[e2];exact e3
inductive zZJ(r:RS)(P:Env1->zA0->Prop):Prop
 |mk (B2:Env1) (S2:zA0) (h:r=.nx B2 S2∨r=.ct B2 S2) (p:P B2 S2)
inductive zIs(g:G)(b:CS)(d:D)(B:Env1)(S:zA0)(P:Env1->zA0->Prop):Prop
 |mk (B1:Env1) (S1:zA0) (e:g d B S=.ok B1 S1) (t:zZJ (b B1 S1) P)
inductive zKQ(r:RS)(P:Env1->zA0->Prop):Prop
 |mk (B':Env1) (S':zA0) (e:r=.nx B' S') (p:P B' S')
theorem zBQ{w:zD5}{g:G}{b:CS}{items:List D}(P:Nat->Env1->zA0->Prop){B:Env1}{S:zA0}(hw:∀i B S,P i B S->okW w S)(h0:P 0 B S)
  (hs:∀i d B S,items[i]?=some d->P i B S->zIs g b d B S (P (i+1))):zKQ (zAx w g b items B S) (P items.length):=by
 obtain⟨B',S',e,p⟩:=zNW items P 0 hw h0 (λi d B S hi hp=>by
  obtain⟨B1,S1,q1,B2,S2,q2,q3⟩:=hs i d B S hi (by simpa using hp);exact⟨B1,S1,q1,B2,S2,q2,by simpa using q3⟩)
 exact⟨B',S',e,by simpa using p⟩
inductive zXm(m:R (List D))(r:List D)(P:zA0->Prop):Prop
 |mk (S':zA0) (e:m=.ok r S') (p:P S')
theorem zFf{α:Type}(e:α->D){w:zD5}{t:Tgt}{tc:CT}{c:C}{B0:Env1}(P:zA0->Prop)(hw:∀S,P S->okW w S)(p:α->Bool)(f:α->D):∀(l:List α) {S:zA0},P S ->
  (∀a∈l,∀S,P S->∃B1,zGN t (e a) B0=some B1/\∃S1,tc B1 S=.ok (p a) S1/\(p a=false->P S1)/\(p a=true->∃S2,c B1 S1=.ok (f a) S2/\P S2))->zXm (zAW w t tc c B0 (l.map e) S) ((l.filter p).map f) P
 |[],S,h0,hs=>⟨S,by rw[qJ7];unfold zAW;rw[if_pos (hw S h0)];rfl,h0⟩
 |d::ds,S,h0,hs=>by
  obtain⟨B1,e1,S1,e2,hf,ht⟩:=hs d (by simp) S h0;rw[qB8];unfold zAW;rw[if_pos (hw S h0),e1];dsimp only;rw[zBZ,e2,zAj];cases hp:p d with
  |false =>
   obtain⟨S',e3,h3⟩:=zFf e P hw p f ds (hf hp) λd' hd=>hs d' (by simp[hd]);exact⟨S',by rw[if_neg qA9,e3,qI6,hp];rfl,h3⟩
  |true =>
   obtain⟨S2,e4,h4⟩:=ht hp;obtain⟨S',e3,h3⟩:=zFf e P hw p f ds h4 λd' hd=>hs d' (by simp[hd]);exact⟨S',by rw[if_pos rfl,zBZ,e4,zAj,zBZ,e3,zAj,qI6,hp];rfl,h3⟩
theorem zEf{α:Type}(e:α->D){w:zD5}{t:Tgt}{c:C}{B0:Env1}(P:zA0->Prop)(hw:∀S,P S->okW w S)(f:α->D)(l:List α){S:zA0}(h0:P S)
  (hs:∀a∈l,∀S,P S->∃B1,zGN t (e a) B0=some B1/\∃S2,c B1 S=.ok (f a) S2/\P S2):zXm (zAW w t (λ_=>ret true) c B0 (l.map e) S) (l.map f) P:=by
 obtain⟨S',e,h⟩:=zFf e (w:=w) (t:=t) (tc:=λ_=>ret true) (c:=c) (B0:=B0) P hw (λ_=>true) f l h0 (λd hd S h=>by
  obtain⟨B1,e1,S2,e2,h2⟩:=hs d hd S h;exact⟨B1,e1,S,rfl,(λz=>by cases z),λ_=>⟨S2,e2,h2⟩⟩)
 exact⟨S',by rw[e,qP3.mpr (by simp)],h⟩
theorem zEe{α:Type}(e:α->D){w:zD5}{t:Tgt}{tc:CT}{c:C}{B0:Env1}{S:zA0}(hw:okW w S)(p:α->Bool)(f:α->D)(l:List α)
  (hs:∀a∈l,∃B1,zGN t (e a) B0=some B1/\tc B1 S=.ok (p a) S/\(p a=true->c B1 S=.ok (f a) S)):zAW w t tc c B0 (l.map e) S=.ok ((l.filter p).map f) S:=by
 obtain⟨S',e1,h⟩:=zFf e (w:=w) (t:=t) (tc:=tc) (c:=c) (B0:=B0) (λS'=>S'=S) (λS' z=>z▸hw) p f l rfl (λa ha S' z=>by
  subst z;obtain⟨B1,q1,q2,q3⟩:=hs a ha;exact⟨B1,q1,S',q2,λ_=>rfl,λz=>⟨S',q3 z,rfl⟩⟩)
 rw[e1,h]
theorem zCh{α:Type}(e:α->D){w:zD5}{t:Tgt}{c:C}{B0:Env1}{S:zA0}(hw:okW w S)(f:α->D)(l:List α)
  (hs:∀a∈l,∃B1,zGN t (e a) B0=some B1/\c B1 S=.ok (f a) S):zAW w t (λ_=>ret true) c B0 (l.map e) S=.ok (l.map f) S:=by
 have:=zEe e (tc:=λ_=>ret true) (c:=c) hw (λ_=>true) f l (λa ha=>by
  obtain⟨B1,q1,q2⟩:=hs a ha;exact⟨B1,q1,rfl,λ_=>q2⟩)
 rw[this,qP3.mpr (by simp)]
theorem zF8{t:CT}{b:CS}(P:Nat->Env1->zA0->Prop)(Q:Env1->zA0->Prop)(hs:∀m B S,P m B S->(∃S1,t B S=.ok false S1/\Q B S1)∨∃S1,t B S=.ok true S1/\∃B2 S2,(b B S1=.nx B2 S2∨b B S1=.ct B2 S2)/\∃m',m'<m/\P m' B2 S2):
  ∀(k m:Nat) (B:Env1) (S:zA0),m<k->P m B S->∃B' S',zCA k t b B S=.nx B' S'/\Q B' S'
 |0,m,B,S,hk,h=>absurd hk (qO0 _)
 |k+1,m,B,S,hk,h=>by
  unfold zCA;rcases hs m B S h with⟨S1,e,q⟩| ⟨S1,e,B2,S2,e2,m',hm,p2⟩
  ·rw[e];exact⟨B,S1,rfl,q⟩
  ·obtain⟨B',S',e3,q⟩:=zF8 P Q hs k m' B2 S2 (by omega) p2;rw[e];dsimp only;rcases e2 with e2|e2
   ·rw[e2];exact⟨B',S',e3,q⟩
   ·rw[e2];exact⟨B',S',e3,q⟩
noncomputable def dkOf(fs:yA):List (Key×D):=fs.map λx=>((Sum.inl x:Key),D.bl true)
noncomputable def addK(fs:yA)(a:Int):yA:=if a∈fs then fs else fs++[a]
theorem zX1(fs:yA)(a:Int):((dkOf fs).any λkv=>decide (kv.1=(Sum.inl a:Key)))=decide (a∈fs):=by
 induction fs with
 |nil=>rfl
 |cons x r ih =>
  show(decide ((Sum.inl x:Key)=Sum.inl a)||(dkOf r).any _)=_;rw[ih];by_cases h:x=a
  ·subst h;simp
  ·have:(Sum.inl x:Key)≠Sum.inl a:=λz=>h (Sum.inl.inj z);simp[this,Ne.symm h]
theorem zX0(fs:yA)(a:Int):putD (dkOf fs) (.inl a) (.bl true)=dkOf (addK fs a):=by
 unfold putD addK;rw[zX1];by_cases h:a∈fs
 ·rw[if_pos (by simpa using h),if_pos h];unfold dkOf;rw[qD2];refine qF0 λx _=>?_;show(if(Sum.inl x:Key)=Sum.inl a then((Sum.inl x:Key),D.bl true)else(Sum.inl x,D.bl true))=_;split<;>rfl
 ·rw[if_neg (by simpa using h),if_neg h];unfold dkOf;simp
theorem zWZ(fs:yA)(a:Int):valD (dkOf fs) (.inl a)=if a∈fs then some (.bl true)else none:=by
 unfold valD
 induction fs with
 |nil=>rfl
 |cons x r ih =>
  show Option.map _ (List.find? _ (((Sum.inl x:Key),D.bl true)::dkOf r))=_;rw[qF4];by_cases h:x=a
  ·subst h;simp
  ·have:(Sum.inl x:Key)≠Sum.inl a:=λz=>h (Sum.inl.inj z);simp only[this,decide_false];rw[ih];simp[Ne.symm h]
theorem zNI{S:zA0}{m:Nat}{fs:yA}(h:S[m]?=some (.dk (dkOf fs)))(neg:Bool)(a:Int):oIn neg (.int a) (.dct m) S=.ok (.bl (if neg then !decide (a∈fs)else decide (a∈fs))) S:=by
 have e:dictAt S m (.int a)=some (if a∈fs then some (.bl true)else none):=by unfold dictAt;rw[h];show some (valD (dkOf fs) (.inl a))=_;rw[zWZ]
 show(match dictAt S m (.int a)with|some o=>R.ok (D.bl (if neg then !o.isSome else o.isSome)) S|none=>.bad)=_;rw[e];by_cases hm:a∈fs
 ·simp[hm]
 ·simp[hm]
theorem zNG{S:zA0}{m:Nat}{fs:yA}(h:S[m]?=some (.dk (dkOf fs)))(hl:fs.length<lim)(a:Int):oSet (.dct m) (.int a) (.bl true) S=some (S.set m (.dk (dkOf (addK fs a)))):=by unfold oSet;dsimp only;rw[h];show(if(dkOf fs).length<lim then some (S.set m (.dk (putD (dkOf fs) (.inl a) (.bl true))))else none)=_;rw[if_pos (by unfold dkOf;rw[qA8];exact hl),zX0]
theorem zLh{fs:yA}{a x:Int}:x∈addK fs a↔x∈fs∨x=a:=by
 unfold addK;split
 ·rename_i h;exact⟨.inl,λz=>z.elim id λe=>e▸h⟩
 ·simp
@[simp]theorem zXg(d:D)(B:Env1):zGN .one d B=some (B.set 0 (some d)):=rfl
@[simp]theorem zXf(x y:D)(B:Env1):zGN (.many 2) (.tup [x,y]) B=some ((B.set 0 (some x)).set 1 (some y)):=rfl
@[simp]theorem zZO(k:Nat)(js:List Nat)(B:Env1):stE k js B=qE6 k none++js.map λj=>(B[j]?).getD none:=rfl
theorem zK3{np nN:Nat}{b:CS}{ds:List D}{S:zA0}(h:ds.length=np):runF np nN b ds S=match b (zAC nN ds) S with
 |.nx _ S'=>.ok .non S'
 |.rt d S'=>.ok d S'
 |.er c S'=>.er c S'
 |_=>.bad:=by
 unfold runF;rw[if_pos h]
 all_goals (cases b (zAC nN ds) S<;>rfl)
theorem zAd{np nN:Nat}{b:CS}{ds:List D}{S S':zA0}{d:D}(h:ds.length=np)(e:b (zAC nN ds) S=.rt d S'):runF np nN b ds S=.ok d S':=by rw[zK3 h,e]
theorem zNf{np nN:Nat}{b:CS}{ds:List D}{S S':zA0}{c:Str}(h:ds.length=np)(e:b (zAC nN ds) S=.er c S'):runF np nN b ds S=.er c S':=by rw[zK3 h,e]
theorem zVd{np nN:Nat}{b:CS}{ds:List D}{S S':zA0}{B:Env1}(h:ds.length=np)(e:b (zAC nN ds) S=.nx B S'):runF np nN b ds S=.ok .non S':=by rw[zK3 h,e]
noncomputable def plain:Nat->D->Bool
 |0,_=>false
 |n+1,d=>match d with
  |.int _=>true
  |.non=>true
  |.str x=>PyData.strOk x
  |.tup xs=>xs.all (plain n)
  |_=>false
noncomputable def pdat:Nat->D->wP
 |0,_=>.none
 |n+1,d=>match d with
  |.int i=>.int i
  |.str x=>.str x
  |.tup xs=>.tuple (xs.map (pdat n))
  |_=>.none
theorem zJ1{α β:Type}{f:α->Option β}{g:α->β}{l:List α}(h:∀x∈l,f x=some (g x)):l.mapM f=some (l.map g):=by
 induction l with
 |nil=>rfl
 |cons a r ih =>
  rw[qL0,h a (by simp),ih λx hx=>h x (by simp[hx])];rfl
theorem zDu:∀{n:Nat}{d:D} (S:zA0),plain n d=true->snap n S d=some (pdat n d)
 |0,d,S,h=>by cases h
 |n+1,d,S,h=>by
  unfold plain at h;unfold snap pdat;cases d with
  |int i=>rfl
  |non=>rfl
  |str x=>dsimp only at h ⊢;rw[if_pos h]
  |tup xs =>
   dsimp only at h ⊢;rw[zJ1 (g:=pdat n) λx hx=>zDu S (qD5.mp h x hx)];rfl
  |_=>cases h
theorem zEz{n:Nat}(ih:∀d e,plain n d=true->plain n e=true->(PyData.eqv (pdat n d) (pdat n e)=true↔d=e)):∀(xs ys:List D),xs.all (plain n)=true->ys.all (plain n)=true->(PyData.eqvAll (xs.map (pdat n)) (ys.map (pdat n))=true↔xs=ys)
 |[],[],_,_=>by simp[PyData.eqvAll]
 |[],y::ys,_,_=>by simp[PyData.eqvAll]
 |x::xs,[],_,_=>by simp[PyData.eqvAll]
 |x::xs,y::ys,h1,h2=>by rw[qM8,qC5]at h1 h2;rw[qB8,qB8];show(PyData.eqv (pdat n x) (pdat n y)&&PyData.eqvAll (xs.map (pdat n)) (ys.map (pdat n)))=true↔_;rw[qC5,ih x y h1.1 h2.1,zEz ih xs ys h1.2 h2.2,qM0.injEq]
theorem zFZ:∀(n:Nat) (d e:D),plain n d=true->plain n e=true->(PyData.eqv (pdat n d) (pdat n e)=true↔d=e)
 |0,d,e,h,_=>by cases h
 |n+1,d,e,h1,h2=>by
  unfold plain at h1 h2;unfold pdat;cases d with
  |int i =>
   cases e with
   |int j=>simp[PyData.eqv]
   |non=>simp[PyData.eqv]
   |str y=>simp[PyData.eqv]
   |tup ys=>simp[PyData.eqv]
   |_=>cases h2
  |non =>
   cases e with
   |int j=>simp[PyData.eqv]
   |non=>simp[PyData.eqv]
   |str y=>simp[PyData.eqv]
   |tup ys=>simp[PyData.eqv]
   |_=>cases h2
  |str x =>
   cases e with
   |int j=>simp[PyData.eqv]
   |non=>simp[PyData.eqv]
   |str y=>simp[PyData.eqv]
   |tup ys=>simp[PyData.eqv]
   |_=>cases h2
  |tup xs =>
   cases e with
   |int j=>simp[PyData.eqv]
   |non=>simp[PyData.eqv]
   |str y=>simp[PyData.eqv]
   |tup ys =>
    show PyData.eqvAll (xs.map (pdat n)) (ys.map (pdat n))=true↔_;rw[zEz (zFZ n) xs ys h1 h2];simp
   |_=>cases h2
  |_=>cases h1
noncomputable def eqB{α:Type}(x y:α):Bool:=@decide (x=y) (Classical.propDecidable _)
theorem zI2{α:Type}{x y:α}:eqB x y=true↔x=y:=@decide_eq_true_iff _ (Classical.propDecidable _)
@[simp]theorem zLy{α:Type}(x:α):eqB x x=true:=zI2.mpr rfl
theorem zIj{a b:Bool}(h:a=true↔b=true):a=b:=by cases a<;>cases b<;>simp at h ⊢
theorem zNJ{x y:D}(S:zA0)(h1:plain 40 x=true)(h2:plain 40 y=true):oEq x y S=.ok (.bl (eqB x y)) S:=by
 unfold oEq;split
 ·rename_i a b;rw[zIj (a:=decide (a=b)) (b:=eqB (D.str a) (D.str b)) (by rw[zI2,decide_eq_true_iff];exact⟨λq=>by rw[q],λq=>by injection q⟩)]
 ·rw[zDu S h1,zDu S h2];dsimp only;rw[zIj ((zFZ 40 x y h1 h2).trans zI2.symm)]
theorem zKZ{S:zA0}{k:Nat}{xs:List D}(h:zA3 S k=some xs)(hp:xs.all (plain 39)=true):snap 40 S (.lst k)=some (.list (xs.map (pdat 39))):=by show(match zA3 S k with|some xs=>(xs.mapM (snap 39 S)).map PyData.list|none=>none)=_;rw[h];dsimp only;rw[zJ1 (g:=pdat 39) λx hx=>zDu S (qD5.mp hp x hx)];rfl
theorem zT0{S:zA0}{a b:Nat}{xs ys:List D}(h1:zA3 S a=some xs)(h2:zA3 S b=some ys)(p1:xs.all (plain 39)=true)(p2:ys.all (plain 39)=true):oNe (.lst a) (.lst b) S=.ok (.bl (!eqB xs ys)) S:=by unfold oNe;dsimp only;rw[zKZ h1 p1,zKZ h2 p2];dsimp only;rw[zIj ((show PyData.eqv (.list (xs.map (pdat 39))) (.list (ys.map (pdat 39)))=true↔xs=ys from zEz (zFZ 39) xs ys p1 p2).trans zI2.symm)]
theorem zNn{n:Nat}{xs:List D}(h:∀x∈xs,plain n x=true):plain (n+1) (.tup xs)=true:=qD5.mpr h
@[simp]theorem zQA(i:Int)(S:zA0):zBE [.int i,.ty "bool"] S=.ok (.bl false) S:=rfl
@[simp]theorem zRr(i:Int)(S:zA0):zBE [.int i,.ty "int"] S=.ok (.bl true) S:=rfl
@[simp]theorem zPm(i:Int)(S:zA0):zBE [.int i,.ty "tuple"] S=.ok (.bl false) S:=rfl
@[simp]theorem zQz(i:Int)(S:zA0):zBE [.int i,.ty "list"] S=.ok (.bl false) S:=rfl
@[simp]theorem zPo(b:Bool)(S:zA0):zBE [.bl b,.ty "bool"] S=.ok (.bl true) S:=rfl
@[simp]theorem zQB(b:Bool)(S:zA0):zBE [.bl b,.ty "int"] S=.ok (.bl true) S:=rfl
@[simp]theorem zOm(b:Bool)(S:zA0):zBE [.bl b,.ty "tuple"] S=.ok (.bl false) S:=rfl
@[simp]theorem zPn(b:Bool)(S:zA0):zBE [.bl b,.ty "list"] S=.ok (.bl false) S:=rfl
@[simp]theorem zLr  (S:zA0):zBE [.non,.ty "bool"] S=.ok (.bl false) S:=rfl
@[simp]theorem zMe  (S:zA0):zBE [.non,.ty "int"] S=.ok (.bl false) S:=rfl
@[simp]theorem zKk  (S:zA0):zBE [.non,.ty "tuple"] S=.ok (.bl false) S:=rfl
@[simp]theorem zLq  (S:zA0):zBE [.non,.ty "list"] S=.ok (.bl false) S:=rfl
@[simp]theorem zQy(x:Str)(S:zA0):zBE [.str x,.ty "bool"] S=.ok (.bl false) S:=rfl
@[simp]theorem zRq(x:Str)(S:zA0):zBE [.str x,.ty "int"] S=.ok (.bl false) S:=rfl
@[simp]theorem zPl(x:Str)(S:zA0):zBE [.str x,.ty "tuple"] S=.ok (.bl false) S:=rfl
@[simp]theorem zQx(x:Str)(S:zA0):zBE [.str x,.ty "list"] S=.ok (.bl false) S:=rfl
@[simp]theorem zOl(xs:List D)(S:zA0):zBE [.tup xs,.ty "bool"] S=.ok (.bl false) S:=rfl
@[simp]theorem zPk(xs:List D)(S:zA0):zBE [.tup xs,.ty "int"] S=.ok (.bl false) S:=rfl
@[simp]theorem zMA(xs:List D)(S:zA0):zBE [.tup xs,.ty "tuple"] S=.ok (.bl true) S:=rfl
@[simp]theorem zOk(xs:List D)(S:zA0):zBE [.tup xs,.ty "list"] S=.ok (.bl false) S:=rfl
theorem zEy(ns:yA):zDm (ns.map D.int)=some ns:=by
 induction ns with
 |nil=>rfl
 |cons a r ih=>show(zDm (r.map D.int)).map (a::·)=_;rw[ih];rfl
theorem zKv{n:Nat}{ns:yA}{S:zA0}(h:zA3 S n=some (ns.map D.int))(hl:ns.length<64):zC5 [.lst n] S=.ok (.lst S.length) (S++[.lst ((zEN ns).map D.int)]):=by unfold zC5;simp only[h,qN3,zEy,if_pos hl]
theorem zQO{n:Nat}{ns:yA}{S:zA0}(h:zA3 S n=some (ns.map D.int))(h1:∀i∈ns,0<=i/\i<=1000000)(hl:ns.length<=1000000):fSum [.lst n] S=.ok (.int ns.sum) S:=by
 unfold fSum;have:(ns.all λi=>decide (0<=i)&&decide (i<=1000000))=true:=qD5.mpr λi hi=>by simpa using h1 i hi
 simp only[h,qN3,zEy,this,hl,and_self,if_true]
@[simp]theorem zXF(i:Int)(S:zA0):zNV (.int i) [] S=.ok (.int ((Builtin.Int.intBits i:Nat):Int)) S:=rfl
@[simp]theorem zXp(i:Int)(S:zA0):tyOk "int" (.int i) S=true:=rfl
theorem zOS(xs:List D){k:Int}(h0:0<=k):cutD xs (some k) none=xs.drop k.toNat:=by
 unfold cutD;rw[show k=((k.toNat:Nat):Int) by omega,HT.sIx_nat,HT.sIx_none,qE0];by_cases h:k.toNat<=xs.length
 ·rw[qN6 h,qH1 (by simp)]
 ·rw[Nat.min_eq_right (by omega),qI8,List.take_zero,qK8 (by omega)]
theorem zR2{φ:List D->M D}{ca:CA}{B:Env1}{S S1:zA0}{xs:List D}(e:ca B S=.ok xs S1):zB1 φ ca B S=φ xs S1:=by unfold zB1;rw[e]
noncomputable def zRX(K:yQ):Bool:=match fH K lamD with
 |some (_,T)=>(K.lookup T).isNone
 |none=>false
theorem zPr{K:yQ}(h:zRX K=true):∃c T,fH K lamD=some (c,T)/\K.lookup T=none:=by
 unfold zRX at h;split at h
 ·rename_i c T e;exact⟨c,T,e,qM3.mp h⟩
 ·cases h
theorem walk_evS{l:W.OpenLaw}{q:y7}{loose:yH}{XP:(Str->yF)->jC->Prop}{YP:jD->jC->Prop}{d:DefRec}{K:Params->yQ}{L:Nat}(hn:l.most=some 63)(hdf:d.params.defaults=[])(hr:Room L mF)
  (hY:∀(w:jD) (h:jC),YP w h->(K w.params).In h) (hrec:((mJ q).find? (λe=>e.name == lamD)).isSome=true) (hTb:∀w:jD,zRX (K w.params)=true)
  (F:∀(w:jD) (mg:Str->yF) (fa c T:yR) (h:jC),(K w.params).In h->h.Ns y8 mg->mg d.name=some (.ref fa)->fH (K w.params) lamD=some (c,T) ->
   ∃fd:jX,(∀(s:yS) (u:yU),m7 s fd ⟨[u],[]⟩ [("_law_script",u)])/\∀base:jC,(K w.params).In base->base.Ns y8 mg->fL base c T->base.BuiltinsAt mg T->y8≠T->FnOk l.prog w (K w.params) mg base (CX1 l.prog w) L fa fd ["_law_script"] (spL (K w.params))) :
  W.WalkO q loose XP YP l.row.toRowW d [] (λf vs=>PySem.call f vs):=by obtain⟨dl,hdl⟩:=qI2.mp hrec;exact zRP hn hdf hr hY hdl (λw=>zPr (hTb w)) F
noncomputable def exKs(K:yQ):Bool:=xoL.all λx=>match exG K x with
 |some C=>W.excIn K C VEs "ValueError.__new__"
 |none=>false
noncomputable def zTK(K:yQ)(C:yR):Bool:=xoL.all λx=>match exG K x with
 |some D=>gD K (.ref D) (.ref C) == some true
 |none=>false
theorem zTJ{K:yQ}{h:jC}{mg:Str->yF}(X:K.In h)(G:h.Ns y8 mg){x:Str}{D:yR}(e:exG K x=some D):mg x=some (.ref D):=W.mg_of X G (zRw e)
theorem zOI{K:yQ}{h:jC}{mg:Str->yF}(X:K.In h)(G:h.Ns y8 mg)(hk:exKs K=true):∀x∈excL,∃C,mg x=some (.ref C)/\ExcK K C:=λx hx=>by
 have q:=qD5.mp hk x hx;split at q
 ·rename_i C e;exact⟨C,zTJ X G e,q⟩
 ·cases q
theorem zQU{K:yQ}{h:jC}{mg:Str->yF}{C:yR}(X:K.In h)(G:h.Ns y8 mg)(hk:zTK K C=true):∀x∈xoL,∀D,exG K x=some D->mg x=some (.ref D)/\gD K (.ref D) (.ref C)=some true:=λx hx D e=>by have q:=qD5.mp hk x hx;rw[e]at q;exact⟨zTJ X G e,beq_iff_eq.mp q⟩
theorem zWS{K:yQ}{h:jC}{mg:Str->yF}(X:K.In h)(G:h.Ns y8 mg)(xk:zI1 K=true):∀c∈xoL,∃C,mg c=some (.ref C)/\exG K c=some C:=λc hc=>by obtain⟨C,e,_⟩:=zDn xk hc;exact⟨C,zTJ X G e,e⟩
theorem zSB{P:y7}{w:jD}{K:yQ}{mg:Str->yF}{base h:jC}{c y en g:Str}{st:vI}{fa C:yR}{fd:jX}{more:yH}{rest:List vI}{p1 p2 p3 p4 p5 p6 p7 q1 q2 q3 q4 q5:Pos}{j:Nat}(X:K.In h)(G:h.Ns y8 mg)(F:Fun K "_law_refused" "_law_refused" st fa fd)(m:mg "_law_refused"=some (.ref fa))(bi:zEm K fd [c] [])
  (body:zAr st=zRg c y en g p1 p2 p3 p4 p5 p6 p7 q1 q2 q3 q4 q5 j rest) (hs:fnOk (c::y::en::more) [c] (zA1 st)=true) (hl:more.length=1) (hn:(zA1 st).names.lookup y=some .local/\(zA1 st).names.lookup en=some .local/\(zA1 st).names.lookup g=some .globalImplicit)
  (hd:nDb c/\(c == ("__classdict__":Str))=false/\nDb en/\(en == ("__classdict__":Str))=false/\nDb g) (hm:gC K y8 g=some (some (.ref C))) (hne:("_law_refused":Str)≠lamD)
  (xk:zI1 K=true) (xs:exKs K=true) (xn:zTK K C=true) (xv:gC K y8 "ValueError"=some none) (hB:MgOk (λ_=>none) mg)
  (hc:cSts (λ_=>none) (λ_ _ _=>.bad) 60 ⟨c::y::en::more,(zA1 st).names,some "_law_refused"⟩ rest=some rfB):RefH P w K mg base:=by
 have S:=zHd hs;have xm:=zWS X G xk;have v:=W.mg_none_of X G xv;refine⟨λt ht=>?_,xk,xm,v⟩;have e:t = "_law_refused":=by simpa[rfN]using ht
 subst e;obtain⟨a1,a2,a3⟩:=hn;obtain⟨b1,b2,b3,b4,b5⟩:=hd;refine⟨st,fa,fd,c,y,en,g,_,rest,C,F,m,bi,⟨⟨p1,p2,p3,p4,p5,p6,p7,q1,q2,q3,q4,q5,j,body⟩,S,⟨more,rfl⟩,a1,a2,a3,b1,b2,b3,b4,b5⟩,by simp[hl],W.mg_of X G hm,zQU X G xn,λcdv A outer s H hr=>?_⟩;have hX:XOk (cxOf CX0 P w K mg base (c::y::en::more) "_law_refused" (zA1 st) fa cdv A outer s H E0) ⟨c::y::en::more,(zA1 st).names,some "_law_refused"⟩ (λ_=>none) (λ_ _ _=>.bad) 0:={
  calm:=rfl
  N:=rfl
  nd:=S.nd
  gl:=λx hx=>hx
  loc:=λx hx=>hx
  cel:=λx hx=>hx
  fre:=λx hx=>.inr hx
  fnn:=λ_ x=>rfl
  room:=(hr.deeper _).mono (by omega)
  roomT:=λz=>absurd (Option.some.inj z) hne
  lam:=λz=>absurd (Option.some.inj z) hne
  tk:=λz=>absurd (Option.some.inj z) hne
  rf:=λz=>absurd (Option.some.inj z) hne
  xk:=xk
  xm:=xm
  xv:=v
  own:=PassesOwn.leaving
  exc:=zOI X G xs
  blt:=hB
  fns:=λ_ _ z=>by cases z }
 exact(s_St 60).2 _ _ hX _ _ hc
end L2
namespace My
open PySem L2
noncomputable def zDO(cl:CLL):C :=
 (cBin oAdd (cTup (zA2 [(cCon (.int 0))])) (cVar 0))
noncomputable def zDN(cl:CLL):C :=
 (cBin oAdd (cTup (zA2 [(cCon (.int 1))])) (cVar 0))
noncomputable def zDM(cl:CLL):CS :=
 (sSeq (sAsg (cBin oAdd (zCs (iSeq (cVar 1)) 1 [] .one (λ_=>ret true) (zDO cl)) (zCs (iSeq (cVar 1)) 1 [] .one (λ_=>ret true) (zDN cl))) (gN 1))
  zA4)
noncomputable def zDA(cl:CLL):CS :=
 (sSeq (sAsg (cLst (zA2 [(cTup (zA2 []))])) (gN 1))
  (sSeq (sFor (zBw (zA2 [(cVar 0)])) (gN 2) (zDM cl))
  (sSeq (sRet (cVar 1))
  zA4)))
def zD7(cl:Nat->CLL):Prop:=∀n,cl (n+1) "settings"=runF 1 3 (zDA (cl n))
noncomputable def zEi(cl:CLL):CS :=
 (sSeq (sRet (cBin oEq (cBin oIx (cVar 1) (cBin oIx (cVar 0) (cCon (.int 2)))) (cBin oIx (cVar 0) (cCon (.int 3)))))
  zA4)
def zCi(cl:Nat->CLL):Prop:=∀n,cl (n+1) "is_shut"=runF 2 2 (zEi (cl n))
noncomputable def zBO(cl:CLL):CS :=
 (sSeq (sIf (zAs (cBin oNe (cBin (oIn false) (cBin oIx (cVar 4) (cCon (.int 0))) (cVar 2)) (cBin (oIn false) (cBin oIx (cVar 4) (cCon (.int 1))) (cVar 2)))) (sSeq (sAsg (cCon (.bl true)) (gS (cVar 2) (cBin oIx (cVar 4) (cCon (.int 0)))))
  (sSeq (sAsg (cCon (.bl true)) (gS (cVar 2) (cBin oIx (cVar 4) (cCon (.int 1)))))
  (sSeq (sAsg (cCon (.bl true)) (gN 3))
  zA4))) zA4)
  zA4)
noncomputable def zBP(cl:CLL):CS :=
 (sSeq (sAsg (cCon (.bl false)) (gN 3))
  (sSeq (sFor (iSeq (cVar 1)) (gN 4) (zBO cl))
  zA4))
noncomputable def zCc(cl:CLL):CS :=
 (sSeq (sAsg (zR1 (cVar 0) (cCon (.bl true))) (gN 2))
  (sSeq (sAsg (cCon (.bl true)) (gN 3))
  (sSeq (zCA zGj (cTru (cVar 3)) (zBP cl))
  (sSeq (sRet (cVar 2))
  zA4))))
def zAw(cl:Nat->CLL):Prop:=∀n,cl (n+1) "places_from"=runF 2 5 (zCc (cl n))
noncomputable def zIn(cl:CLL):CS :=
 (sSeq (sRet (cBin (oIn false) (cCon (.int 1)) (cApp (cl "places_from") (zA2 [(cCon (.int 0)),(cVar 0)]))))
  zA4)
def zEl(cl:Nat->CLL):Prop:=∀n,cl (n+1) "joins"=runF 1 1 (zIn (cl n))
noncomputable def zC3(cl:CLL):CT :=
 (cTru (cApp (cl "is_shut") (zA2 [(cVar 0),(cVar 1)])))
noncomputable def zC4(cl:CLL):C :=
 (cVar 0)
noncomputable def zBz(cl:CLL):CS :=
 (sSeq (sRet (zCs (iSeq (cBin oIx (cVar 0) (cCon (.int 2)))) 1 [1] .one (zC3 cl) (zC4 cl)))
  zA4)
def zAG(cl:Nat->CLL):Prop:=∀n,cl (n+1) "shut_contacts"=runF 2 2 (zBz (cl n))
noncomputable def zLJ(cl:CLL):CS :=
 (sSeq (sRet (cApp (cl "joins") (zA2 [(cApp (cl "shut_contacts") (zA2 [(cVar 0),(cVar 1)]))])))
  zA4)
def zIw(cl:Nat->CLL):Prop:=∀n,cl (n+1) "lets"=runF 2 2 (zLJ (cl n))
noncomputable def zCF(cl:CLL):C :=
 (cIf (cTru (cApp (cl "lets") (zA2 [(cVar 1),(cVar 0)]))) (cCon (.int 1)) (cCon (.int 0)))
noncomputable def zCd(cl:CLL):CS :=
 (sSeq (sRet (cApp zBx (zA2 [(zCs (iSeq (cApp (cl "settings") (zA2 [(cBin oIx (cVar 0) (cCon (.int 0)))]))) 1 [0] .one (λ_=>ret true) (zCF cl))])))
  zA4)
def zCJ(cl:Nat->CLL):Prop:=∀n,cl (n+1) "function_of"=runF 1 1 (zCd (cl n))
noncomputable def zBy(cl:CLL):CS :=
 (sSeq (sRet (cBin (oInt λi j=>i - j) (zLE "int" zNV (cApp fLen (zA2 [(cVar 0)]))) (cCon (.int 1))))
  zA4)
def zCH(cl:Nat->CLL):Prop:=∀n,cl (n+1) "switches_of"=runF 1 1 (zBy (cl n))
noncomputable def zC6(cl:CLL):C :=
 (cBin (oInt jL) (cVar 0) (cVar 1))
noncomputable def zDp(cl:CLL):CS :=
 (sSeq (sRet (cApp zBx (zA2 [(zCs (zKl (zA2 [(cVar 0),(cVar 1)])) 2 [] (.many 2) (λ_=>ret true) (zC6 cl))])))
  zA4)
def zD6(cl:Nat->CLL):Prop:=∀n,cl (n+1) "where_both"=runF 2 2 (zDp (cl n))
noncomputable def zBj(cl:CLL):C :=
 (cBin (oInt vJ) (cVar 0) (cVar 1))
noncomputable def zCG(cl:CLL):CS :=
 (sSeq (sRet (cApp zBx (zA2 [(zCs (zKl (zA2 [(cVar 0),(cVar 1)])) 2 [] (.many 2) (λ_=>ret true) (zBj cl))])))
  zA4)
def zCx(cl:Nat->CLL):Prop:=∀n,cl (n+1) "where_either"=runF 2 2 (zCG (cl n))
noncomputable def zDB(cl:CLL):CS :=
 (sSeq (sRet (cTup (zA2 [(cVar 0),(cCon (.int 2)),(cTup (zA2 [(cTup (zA2 [(cCon (.int 0)),(cCon (.int 1)),(cBin oIx (cVar 1) (cCon (.int 1))),(cBin oIx (cVar 1) (cCon (.int 2)))]))]))])))
  zA4)
def zDZ(cl:Nat->CLL):Prop:=∀n,cl (n+1) "lone_net"=runF 2 2 (zDB (cl n))
noncomputable def zAt(cl:CLL):CS :=
 (sSeq (sAsg (cApp (cl "tree_function") (zA2 [(cVar 0),(cVar 3)])) (gN 4))
  (sSeq (sAsg (cIf (zAs (cBin oEq (cBin oIx (cVar 1) (cCon (.int 0))) (cCon (.str (Str.ofString "row"))))) (cApp (cl "where_both") (zA2 [(cVar 2),(cVar 4)])) (cApp (cl "where_either") (zA2 [(cVar 2),(cVar 4)]))) (gN 2))
  zA4))
noncomputable def zAo(cl:CLL):CS :=
 (sSeq (sIf (zAs (cBin oEq (cBin oIx (cVar 1) (cCon (.int 0))) (cCon (.str (Str.ofString "at"))))) (sSeq (sRet (cApp (cl "function_of") (zA2 [(cApp (cl "lone_net") (zA2 [(cVar 0),(cVar 1)]))])))
  zA4) zA4)
  (sSeq (sAsg (cApp (cl "tree_function") (zA2 [(cVar 0),(cBin oIx (cBin oIx (cVar 1) (cCon (.int 1))) (cCon (.int 0)))])) (gN 2))
  (sSeq (sFor (iSeq (cSl oSl (cBin oIx (cVar 1) (cCon (.int 1))) (zJF (cCon (.int 1))) zIg)) (gN 3) (zAt cl))
  (sSeq (sRet (cVar 2))
  zA4))))
def zDb(cl:Nat->CLL):Prop:=∀n,cl (n+1) "tree_function"=runF 2 5 (zAo (cl n))
noncomputable def zBX(cl:CLL):CS :=
 (sSeq (sAsg (cBin oAdd (cBin oMul (cVar 1) (cCon (.int 2))) (cVar 2)) (gN 1))
  zA4)
noncomputable def zCt(cl:CLL):CS :=
 (sSeq (sAsg (cCon (.int 0)) (gN 1))
  (sSeq (sFor (iSeq (cVar 0)) (gN 2) (zBX cl))
  (sSeq (sRet (cVar 1))
  zA4)))
def zBi(cl:Nat->CLL):Prop:=∀n,cl (n+1) "number_of"=runF 1 3 (zCt (cl n))
noncomputable def zAJ(cl:CLL):CS :=
 (sSeq (sAsg (cTup (zA2 [(cCon (.str (Str.ofString "at"))),(cVar 2),(cVar 3)])) (gN 4))
  (sSeq (sAsg (cVar 4) (gS (cVar 1) (cApp (cl "number_of") (zA2 [(cApp (cl "tree_function") (zA2 [(cVar 0),(cVar 4)]))]))))
  zA4))
noncomputable def zBb(cl:CLL):CS :=
 (sSeq (sFor (iSeq (cTup (zA2 [(cCon (.int 0)),(cCon (.int 1))]))) (gN 3) (zAJ cl))
  zA4)
noncomputable def zBC(cl:CLL):CS :=
 (sSeq (sAsg zJG (gN 1))
  (sSeq (sFor (zBw (zA2 [(cVar 0)])) (gN 2) (zBb cl))
  (sSeq (sRet (cVar 1))
  zA4)))
def zCK(cl:Nat->CLL):Prop:=∀n,cl (n+1) "first_level"=runF 1 5 (zBC (cl n))
noncomputable def zBg(cl:CLL):CS :=
 (sSeq (sIf (zPe (zAs (cBin (oIn true) (cVar 7) (cVar 3))) (zAs (cBin (oIn true) (cVar 7) (cVar 0)))) (sSeq (sAsg (cTup (zA2 [(cVar 6),(cTup (zA2 [(cBin oIx (cVar 1) (cVar 4)),(cBin oIx (cVar 2) (cVar 5))]))])) (gS (cVar 0) (cVar 7)))
  zA4) zA4)
  zA4)
noncomputable def zD3(cl:CLL):CS :=
 (sSeq (sFor (iSeq (cTup (zA2 [(cTup (zA2 [(cCon (.str (Str.ofString "row"))),(cBin (oInt jL) (cVar 4) (cVar 5))])),(cTup (zA2 [(cCon (.str (Str.ofString "side"))),(cBin (oInt vJ) (cVar 4) (cVar 5))]))]))) (gT [(gN 6),(gN 7)]) (zBg cl))
  zA4)
noncomputable def zD4(cl:CLL):CS :=
 (sSeq (sFor (iSeq (cVar 2)) (gN 5) (zD3 cl))
  zA4)
noncomputable def zCV(cl:CLL):CS :=
 (sSeq (sFor (iSeq (cVar 1)) (gN 4) (zD4 cl))
  zA4)
def zBM(cl:Nat->CLL):Prop:=∀n,cl (n+1) "add_made"=runF 4 8 (zCV (cl n))
noncomputable def zAF(cl:CLL):CS :=
 (sSeq (zE8 (cApp (cl "add_made") (zA2 [(cVar 3),(cBin oIx (cVar 0) (cVar 4)),(cBin oIx (cVar 0) (cBin (oInt λi j=>i - j) (cBin (oInt λi j=>i - j) (cApp fLen (zA2 [(cVar 0)])) (cCon (.int 1))) (cVar 4))),(cVar 1)])))
  zA4)
noncomputable def zAE(cl:CLL):CS :=
 (sSeq (zE8 (zF3 "dict" mUpd (cVar 1) (zA2 [(cVar 2)])))
  zA4)
noncomputable def zAT(cl:CLL):CS :=
 (sSeq (sAsg zJG (gN 1))
  (sSeq (sFor (iSeq (cVar 0)) (gN 2) (zAE cl))
  (sSeq (sAsg zJG (gN 3))
  (sSeq (sFor (zBw (zA2 [(cBin oDiv (cBin oAdd (cApp fLen (zA2 [(cVar 0)])) (cCon (.int 1))) (cCon (.int 2)))])) (gN 4) (zAF cl))
  (sSeq (sRet (cVar 3))
  zA4)))))
def zBe(cl:Nat->CLL):Prop:=∀n,cl (n+1) "further_level"=runF 1 5 (zAT (cl n))
noncomputable def zBh(cl:CLL):CS :=
 (sSeq (zE8 (zF3 "list" (zCY zAR) (cVar 2) (zA2 [(cApp (cl "further_level") (zA2 [(cVar 2)]))])))
  zA4)
noncomputable def zBf(cl:CLL):CS :=
 (sSeq (sAsg (cApp (cl "switches_of") (zA2 [(cVar 0)])) (gN 1))
  (sSeq (sIf (zAs (cBin (oCmp λi j=>decide (j<i)) (cVar 1) (cCon (.int 3)))) (sSeq (zH3 "TooMany")
  zA4) zA4)
  (sSeq (sAsg (cLst (zA2 [(cApp (cl "first_level") (zA2 [(cVar 1)]))])) (gN 2))
  (sSeq (zCA zGj (zAs (cBin (oIn true) (cApp (cl "number_of") (zA2 [(cVar 0)])) (cBin oIx (cVar 2) (cUn oNeg (cCon (.int 1)))))) (zBh cl))
  (sSeq (sRet (cVar 2))
  zA4)))))
def zEL(cl:Nat->CLL):Prop:=∀n,cl (n+1) "levels_to"=runF 1 3 (zBf (cl n))
noncomputable def zD2(cl:CLL):CS :=
 (sSeq (zEM (cBlX fLen (zB1 (cl "levels_to") (zA2 [(cVar 0)]))))
  zA4)
def zJV(cl:Nat->CLL):Prop:=∀n,cl (n+1) "fewest"=runF 1 1 (zD2 (cl n))
noncomputable def zAB(cl:CLL):CS :=
 (sSeq (zEM (cIxX (cIxX (zB1 (cl "levels_to") (zA2 [(cVar 0)])) (cUn oNeg (cCon (.int 1)))) (cApp (cl "number_of") (zA2 [(cVar 0)]))))
  zA4)
def zDK(cl:Nat->CLL):Prop:=∀n,cl (n+1) "fewest_tree"=runF 1 1 (zAB (cl n))
noncomputable def zBB(cl:CLL):CS :=
 (sSeq (sIf (zAs (cBin oLt (cVar 1) (cApp fLen (zA2 [(cVar 0)])))) (sSeq (sRet (cBin oIx (cVar 0) (cVar 1)))
  zA4) zA4)
  (sSeq (sRet (cCon (.int 0)))
  zA4))
def zBT(cl:Nat->CLL):Prop:=∀n,cl (n+1) "_law_cell_at"=runF 2 2 (zBB (cl n))
noncomputable def zCv(cl:CLL):CS :=
 (sSeq (sAsg (cApp (cl "_law_cell_at") (zA2 [(cVar 0),(cVar 1)])) (gN 2))
  (sSeq (sIf (zAs (cBin (oCmp λi j=>decide (j<=i)) (cVar 2) (cBin oPow (cCon (.int 10)) (cCon (.int 18))))) (sSeq (sRet (cLst (zA2 [(cBin (oInt λi j=>i - j) (cVar 2) (cBin oPow (cCon (.int 10)) (cCon (.int 18)))),(cCon (.bl true))])))
  zA4) zA4)
  (sSeq (sRet (cLst (zA2 [(cBin oMod (cVar 2) (cCon (.int 2147483647))),(cCon (.bl false))])))
  zA4)))
def zDs(cl:Nat->CLL):Prop:=∀n,cl (n+1) "_law_state"=runF 2 3 (zCv (cl n))
noncomputable def zCU(cl:CLL):CS :=
 (sSeq (sIf (cTru (cBin oIx (cVar 0) (cCon (.int 1)))) (sSeq (sAsg (cBin oMod (cBin oIx (cVar 0) (cCon (.int 0))) (cVar 1)) (gN 2))
  (sSeq (sAsg (cBin oDiv (cBin oIx (cVar 0) (cCon (.int 0))) (cVar 1)) (gS (cVar 0) (cCon (.int 0))))
  (sSeq (sRet (cVar 2))
  zA4))) zA4)
  (sSeq (sAsg (cBin oMod (cBin oAdd (cBin oMul (cBin oIx (cVar 0) (cCon (.int 0))) (cCon (.int 48271))) (cCon (.int 29))) (cCon (.int 2147483647))) (gS (cVar 0) (cCon (.int 0))))
  (sSeq (sAsg (cBin oMod (cBin oAdd (cBin oAdd (cBin oMul (cBin oIx (cVar 0) (cCon (.int 0))) (cBin oIx (cVar 0) (cCon (.int 0)))) (cBin oMul (cCon (.int 39373)) (cBin oIx (cVar 0) (cCon (.int 0))))) (cCon (.int 7))) (cCon (.int 2147483629))) (gN 3))
  (sSeq (sAsg (cBin oMod (cBin oAdd (cBin oMul (cVar 3) (cVar 3)) (cBin oMul (cCon (.int 16807)) (cVar 3))) (cCon (.int 2147483587))) (gN 3))
  (sSeq (sRet (cBin oMod (cBin oDiv (cVar 3) (cCon (.int 8))) (cVar 1)))
  zA4)))))
def zD8(cl:Nat->CLL):Prop:=∀n,cl (n+1) "_law_take"=runF 2 4 (zCU (cl n))
noncomputable def zCq(cl:CLL):C :=
 (cBin (oInt jL) (cBin oShr (cVar 1) (cBin (oInt λi j=>i - j) (cBin (oInt λi j=>i - j) (cVar 2) (cCon (.int 1))) (cVar 0))) (cCon (.int 1)))
noncomputable def zCp(cl:CLL):CS :=
 (sSeq (zE8 (zF3 "list" (zCY zAR) (cVar 1) (zA2 [(cApp zBx (zA2 [(zCs (zBw (zA2 [(cVar 0)])) 1 [2,0] .one (λ_=>ret true) (zCq cl))]))])))
  zA4)
noncomputable def zBS(cl:CLL):CS :=
 (sSeq (sAsg (cLst (zA2 [])) (gN 1))
  (sSeq (sFor (zBw (zA2 [(cBin oShl (cCon (.int 1)) (cVar 0))])) (gN 2) (zCp cl))
  (sSeq (sRet (cVar 1))
  zA4)))
def zAU(cl:Nat->CLL):Prop:=∀n,cl (n+1) "_law_settings"=runF 1 3 (zBS (cl n))
noncomputable def zBa(cl:CLL):C :=
 (cApp fInt (zA2 [(cBin oEq (cBin oIx (cVar 0) (cVar 1)) (cVar 2))]))
noncomputable def zB8(cl:CLL):CS :=
 (sSeq (zE8 (zF3 "list" (zCY zAR) (cVar 1) (zA2 [(cApp zBx (zA2 [(zCs (iSeq (cApp (cl "_law_settings") (zA2 [(cVar 0)]))) 1 [2,3] .one (λ_=>ret true) (zBa cl))]))])))
  zA4)
noncomputable def zB9(cl:CLL):CS :=
 (sSeq (sFor (iSeq (cTup (zA2 [(cCon (.int 0)),(cCon (.int 1))]))) (gN 3) (zB8 cl))
  zA4)
noncomputable def zBA(cl:CLL):CS :=
 (sSeq (sAsg (cLst (zA2 [])) (gN 1))
  (sSeq (sFor (zBw (zA2 [(cVar 0)])) (gN 2) (zB9 cl))
  (sSeq (sRet (cVar 1))
  zA4)))
def zCI(cl:Nat->CLL):Prop:=∀n,cl (n+1) "_law_singles"=runF 1 4 (zBA (cl n))
noncomputable def zAD(cl:CLL):CS :=
 (sSeq (sAsg (cBin oAdd (cBin oMul (cCon (.int 2)) (cVar 1)) (cVar 2)) (gN 1))
  zA4)
noncomputable def zAS(cl:CLL):CS :=
 (sSeq (sAsg (cCon (.int 0)) (gN 1))
  (sSeq (sFor (iSeq (cVar 0)) (gN 2) (zAD cl))
  (sSeq (sRet (cVar 1))
  zA4)))
def zBd(cl:Nat->CLL):Prop:=∀n,cl (n+1) "_law_number_of"=runF 1 3 (zAS (cl n))
noncomputable def zAA(cl:CLL):CS :=
 (sSeq (sIf (zAs (cBin (oIn true) (cVar 8) (cVar 2))) (sSeq (sAsg (cVar 3) (gS (cVar 4) (cVar 8)))
  zA4) zA4)
  zA4)
noncomputable def zAX(cl:CLL):CS :=
 (sSeq (sFor (iSeq (cTup (zA2 [(cBin (oInt jL) (cVar 6) (cVar 7)),(cBin (oInt vJ) (cVar 6) (cVar 7))]))) (gN 8) (zAA cl))
  zA4)
noncomputable def zBt(cl:CLL):CS :=
 (sSeq (sFor (iSeq (cBin oIx (cVar 1) (cBin (oInt λi j=>i - j) (cBin (oInt λi j=>i - j) (cVar 3) (cVar 5)) (cCon (.int 1))))) (gN 7) (zAX cl))
  zA4)
noncomputable def zAY(cl:CLL):CS :=
 (sSeq (sFor (iSeq (cBin oIx (cVar 1) (cBin (oInt λi j=>i - j) (cVar 5) (cCon (.int 1))))) (gN 6) (zBt cl))
  zA4)
noncomputable def zAZ(cl:CLL):CS :=
 (sSeq (sAsg (cBin oAdd (cApp fLen (zA2 [(cVar 1)])) (cCon (.int 1))) (gN 3))
  (sSeq (sAsg zJG (gN 4))
  (sSeq (sFor (zHP (zA2 [(cCon (.int 1)),(cBin oAdd (cBin oDiv (cVar 3) (cCon (.int 2))) (cCon (.int 1)))])) (gN 5) (zAY cl))
  (sSeq (zE8 (zF3 "dict" mUpd (cVar 2) (zA2 [(cVar 4)])))
  (sSeq (zE8 (zF3 "list" (zCY zAR) (cVar 1) (zA2 [(cApp zC5 (zA2 [(cVar 4)]))])))
  zA4)))))
noncomputable def zCa(cl:CLL):C :=
 (cTup (zA2 [(cVar 0),(cCon (.int 1))]))
noncomputable def zC9(cl:CLL):C :=
 (cApp (cl "_law_number_of") (zA2 [(cVar 0)]))
noncomputable def zC0(cl:CLL):CS :=
 (sSeq (sAsg (cLst (zA2 [(cApp zC5 (zA2 [(zCs (iSeq (cApp (cl "_law_singles") (zA2 [(cVar 0)]))) 1 [] .one (λ_=>ret true) (zC9 cl))]))])) (gN 1))
  (sSeq (sAsg (cApp zKw (zA2 [(zCs (iSeq (cBin oIx (cVar 1) (cCon (.int 0)))) 1 [] .one (λ_=>ret true) (zCa cl))])) (gN 2))
  (sSeq (zCA zGj (zAs (cBin oLt (cApp fLen (zA2 [(cVar 2)])) (cBin oShl (cCon (.int 1)) (cBin oShl (cCon (.int 1)) (cVar 0))))) (zAZ cl))
  (sSeq (sRet (cVar 1))
  zA4))))
def zEk(cl:Nat->CLL):Prop:=∀n,cl (n+1) "_law_levels"=runF 1 9 (zC0 (cl n))
noncomputable def zBu(cl:CLL):CT :=
 (zAs (cBin (oIn false) (cVar 2) (cVar 1)))
noncomputable def zBv(cl:CLL):C :=
 (cVar 0)
noncomputable def zC1(cl:CLL):CS :=
 (sSeq (sAsg (cApp (cl "_law_number_of") (zA2 [(cVar 1)])) (gN 2))
  (sSeq (sRet (cBin oAdd (cBin oIx (zCs (zLs (zA2 [(cVar 0)])) 2 [2] (.many 2) (zBu cl) (zBv cl)) (cCon (.int 0))) (cCon (.int 1))))
  zA4))
def zD9(cl:Nat->CLL):Prop:=∀n,cl (n+1) "_law_fewest"=runF 2 3 (zC1 (cl n))
noncomputable def zAi(cl:CLL):C :=
 (cApp (cl "_law_take") (zA2 [(cVar 1),(cCon (.int 2))]))
noncomputable def zAp(cl:CLL):CS :=
 (sSeq (sRet (cApp zBx (zA2 [(zCs (zBw (zA2 [(cBin oShl (cCon (.int 1)) (cVar 1))])) 1 [0] .one (λ_=>ret true) (zAi cl))])))
  zA4)
def zB2(cl:Nat->CLL):Prop:=∀n,cl (n+1) "_law_some_function"=runF 2 2 (zAp (cl n))
noncomputable def zCu(cl:CLL):CS :=
 (sSeq (sRet (zIh (cApp zBE (zA2 [(cVar 0),(cCon (.ty "int"))])) (zIh (zR0 (cApp zBE (zA2 [(cVar 0),(cCon (.ty "bool"))]))) (zG9 (oCmp λi j=>decide (i<=j)) oLt (cVar 1) (cVar 0) (cVar 2)))))
  zA4)
def zDr(cl:Nat->CLL):Prop:=∀n,cl (n+1) "_law_whole"=runF 3 3 (zCu (cl n))
noncomputable def zAQ(cl:CLL):C :=
 (cApp (cl "_law_contacts") (zA2 [(cVar 1),(cVar 0)]))
noncomputable def zAv(cl:CLL):CS :=
 (sSeq (sIf (cOrT (zKI (cTru (cApp zBE (zA2 [(cVar 1),(cCon (.ty "tuple"))])))) (cOrT (zAs (cBin oLt (cApp fLen (zA2 [(cVar 1)])) (cCon (.int 2)))) (zAs (cBin (oIn true) (cBin oIx (cVar 1) (cCon (.int 0))) (cTup (zA2 [(cCon (.str (Str.ofString "at"))),(cCon (.str (Str.ofString "row"))),(cCon (.str (Str.ofString "side")))])))))) (sSeq (sRet (cCon (.int 0)))
  zA4) zA4)
  (sSeq (sIf (zAs (cBin oEq (cBin oIx (cVar 1) (cCon (.int 0))) (cCon (.str (Str.ofString "at"))))) (sSeq (sRet (cApp fInt (zA2 [(zIh (cBin oEq (cApp fLen (zA2 [(cVar 1)])) (cCon (.int 3))) (zIh (cApp (cl "_law_whole") (zA2 [(cBin oIx (cVar 1) (cCon (.int 1))),(cCon (.int 0)),(cVar 0)])) (cApp (cl "_law_whole") (zA2 [(cBin oIx (cVar 1) (cCon (.int 2))),(cCon (.int 0)),(cCon (.int 2))]))))])))
  zA4) zA4)
  (sSeq (sIf (cOrT (zAs (cBin oNe (cApp fLen (zA2 [(cVar 1)])) (cCon (.int 2)))) (cOrT (zKI (cTru (cApp zBE (zA2 [(cBin oIx (cVar 1) (cCon (.int 1))),(cCon (.ty "tuple"))])))) (zAs (cBin oLt (cApp fLen (zA2 [(cBin oIx (cVar 1) (cCon (.int 1)))])) (cCon (.int 2)))))) (sSeq (sRet (cCon (.int 0)))
  zA4) zA4)
  (sSeq (sAsg (zCs (iSeq (cBin oIx (cVar 1) (cCon (.int 1)))) 1 [0] .one (λ_=>ret true) (zAQ cl)) (gN 2))
  (sSeq (sRet (cIf (zAs (cBin (oIn false) (cCon (.int 0)) (cVar 2))) (cCon (.int 0)) (cApp fSum (zA2 [(cVar 2)]))))
  zA4)))))
def zCz(cl:Nat->CLL):Prop:=∀n,cl (n+1) "_law_contacts"=runF 2 3 (zAv (cl n))
noncomputable def zAO(cl:CLL):C :=
 (cApp (cl "_law_tree_bit") (zA2 [(cVar 0),(cVar 1)]))
noncomputable def zAf(cl:CLL):CS :=
 (sSeq (sIf (zAs (cBin oEq (cBin oIx (cVar 0) (cCon (.int 0))) (cCon (.str (Str.ofString "at"))))) (sSeq (sRet (cApp fInt (zA2 [(cBin oEq (cBin oIx (cVar 1) (cBin oIx (cVar 0) (cCon (.int 1)))) (cBin oIx (cVar 0) (cCon (.int 2))))])))
  zA4) zA4)
  (sSeq (sAsg (zCs (iSeq (cBin oIx (cVar 0) (cCon (.int 1)))) 1 [1] .one (λ_=>ret true) (zAO cl)) (gN 2))
  (sSeq (sRet (cIf (zAs (cBin oEq (cBin oIx (cVar 0) (cCon (.int 0))) (cCon (.str (Str.ofString "row"))))) (cApp fMin (zA2 [(cVar 2)])) (cApp fMax (zA2 [(cVar 2)]))))
  zA4)))
def zCy(cl:Nat->CLL):Prop:=∀n,cl (n+1) "_law_tree_bit"=runF 2 3 (zAf (cl n))
noncomputable def zAP(cl:CLL):C :=
 (cApp (cl "_law_tree_bit") (zA2 [(cVar 1),(cVar 0)]))
noncomputable def zBc(cl:CLL):CS :=
 (sSeq (sAsg (cApp (cl "_law_fewest") (zA2 [(cVar 2),(cVar 1)])) (gN 3))
  (sSeq (sAsg (cApp (cl "fewest") (zA2 [(cVar 1)])) (gN 4))
  (sSeq (sIf (cOrT (cTru (cApp zBE (zA2 [(cVar 4),(cCon (.ty "bool"))]))) (zAs (cBin oNe (cVar 4) (cVar 3)))) (sSeq (sRet (cCon (.bl false)))
  zA4) zA4)
  (sSeq (sAsg (cApp (cl "fewest_tree") (zA2 [(cVar 1)])) (gN 5))
  (sSeq (sIf (zAs (cBin oNe (cApp (cl "_law_contacts") (zA2 [(cVar 0),(cVar 5)])) (cVar 3))) (sSeq (sRet (cCon (.bl false)))
  zA4) zA4)
  (sSeq (sRet (cBin oEq (cApp zBx (zA2 [(zCs (iSeq (cApp (cl "_law_settings") (zA2 [(cVar 0)]))) 1 [5] .one (λ_=>ret true) (zAP cl))])) (cVar 1)))
  zA4))))))
def zDt(cl:Nat->CLL):Prop:=∀n,cl (n+1) "_law_right"=runF 3 6 (zBc (cl n))
noncomputable def zCS(cl:CLL):CS :=
 (sSeq (sIf (zKI (cTru (cApp (cl "_law_right") (zA2 [(cVar 3),(cApp (cl "_law_some_function") (zA2 [(cVar 2),(cVar 3)])),(cVar 4)])))) (sSeq (sRet (cCon (.bl false)))
  zA4) zA4)
  zA4)
noncomputable def zCf(cl:CLL):CS :=
 (sSeq (sAsg (cApp (cl "_law_state") (zA2 [(cVar 0),(cVar 1)])) (gN 2))
  (sSeq (sAsg (cApp fMin (zA2 [(cBin oIx (cLst (zA2 [(cCon (.int 1)),(cCon (.int 2)),(cCon (.int 3)),(cCon (.int 3))])) (cApp (cl "_law_take") (zA2 [(cVar 2),(cCon (.int 4))]))),(cBin (oInt λi j=>i - j) (cCon (.int 3)) (cApp fMin (zA2 [(cVar 1),(cCon (.int 1))])))])) (gN 3))
  (sSeq (sAsg (cApp (cl "_law_levels") (zA2 [(cVar 3)])) (gN 4))
  (sSeq (sFor (zBw (zA2 [(cBin oIx (cLst (zA2 [(cCon (.int 0)),(cCon (.int 2)),(cCon (.int 2)),(cCon (.int 1))])) (cVar 3))])) (gN 5) (zCS cl))
  (sSeq (sAsg (cApp (cl "_law_some_function") (zA2 [(cVar 2),(cCon (.int 4))])) (gN 6))
  (sSeq (sIf (zAs (cBin oNe (zBK lamD 4 rfB [6] (zB1 (cl "fewest") (zA2 [(cVar 0)]))) (cLst (zA2 [(cCon (.int 0))])))) (sSeq (sRet (cCon (.bl false)))
  zA4) zA4)
  (sSeq (sIf (zAs (cBin oNe (zBK lamD 4 rfB [6] (zB1 (cl "fewest_tree") (zA2 [(cVar 0)]))) (cLst (zA2 [(cCon (.int 0))])))) (sSeq (sRet (cCon (.bl false)))
  zA4) zA4)
  zA4)))))))
noncomputable def zDq(cl:CLL):CS :=
 (sSeq (sFor (zBw (zA2 [(cApp fMax (zA2 [(cCon (.int 1)),(cApp fMin (zA2 [(cApp fLen (zA2 [(cVar 0)])),(cCon (.int 2))]))]))])) (gN 1) (zCf cl))
  (sSeq (sRet (zIh (cBin oEq (cApp (cl "fewest") (zA2 [(cTup (zA2 [(cCon (.int 0)),(cCon (.int 1))]))])) (cCon (.int 1))) (cBin oEq (cApp (cl "fewest") (zA2 [(cTup (zA2 [(cCon (.int 0)),(cCon (.int 0))]))])) (cCon (.int 2)))))
  zA4))
def zHl(cl:Nat->CLL):Prop:=∀n,cl (n+1) "law"=runF 1 7 (zDq (cl n))
variable {cl:Nat->CLL}
theorem zP2(h:zBT cl)(n:Nat)(ns:yA)(k:Int)(hk:0<=k)(S:zA0):∃c,cl (n+1) "_law_cell_at" [.rol (ns.map D.int),.int k] S=.ok (.int c) S:=by
 by_cases hl:k<ns.length
 ·refine⟨ns[k.toNat]'(by omega),?_⟩;have e:atI (ns.map D.int) k=some (.int (ns[k.toNat]'(by omega))):=by have q:=zCw (xs:=ns.map D.int) (j:=k.toNat) (v:=.int (ns[k.toNat]'(by omega))) (by rw[qC0,qA4 (by omega)];rfl);rw[show((k.toNat:Nat):Int)=k by omega]at q;exact q
  rw[h];refine zAd rfl ?_;simp[zBB,zAC,hl,e]
 ·refine⟨0,?_⟩;rw[h];refine zAd rfl ?_;simp[zBB,zAC,hl]
def StOk(S:zA0)(i:Nat):Prop:=∃s b,zA3 S i=some [.int s,.bl b]/\(b=false->0<=s/\s<2147483647)
theorem StOk.lt{S:zA0}{i:Nat}(h:StOk S i):i<S.length:=by obtain⟨s,b,e,_⟩:=h;exact zCZ e
theorem StOk.ex{S S':zA0}{i:Nat}(h:StOk S i)(e:Ex S S'):StOk S' i:=by obtain⟨s,b,q,r⟩:=h;exact⟨s,b,e.lst q (λz=>z),r⟩
theorem zLT(h:zDs cl)(hc:zBT cl)(n:Nat)(ns:yA)(k:Int)(hk:0<=k)(S:zA0):∃S1,cl (n+2) "_law_state" [.rol (ns.map D.int),.int k] S=.ok (.lst S.length) S1/\Ex S S1/\StOk S1 S.length:=by
 obtain⟨c,ec⟩:=zP2 hc n ns k hk S;rw[show n+2=(n+1)+1 from rfl,h];by_cases hb:(1000000000000000000:Int)<=c
 ·refine⟨S++[.lst [.int (c - 1000000000000000000),.bl true]],zAd rfl ?_,zAe _ _,_,_,zA5 _ _,λz=>by cases z⟩;simp[zCv,zAC,ec,hb]
 ·refine⟨S++[.lst [.int (c % 2147483647),.bl false]],zAd rfl ?_,zAe _ _,_,_,zA5 _ _,λ_=>⟨qK3 _ (by decide),qI9 _ (by decide)⟩⟩;simp[zCv,zAC,ec,hb]
theorem zFv{i j:Int}(h1:-18446744073709551616<j)(h2:j<18446744073709551616):zDQ i j=true:=by unfold zDQ;simp[h1,h2]
@[simp]theorem zXG:ixN 2 0=some 0:=rfl
inductive zZK(c:CLL)(S:zA0)(i:Nat)(m:Int):Prop
 |mk (r:Int) (S1:zA0) (e:c "_law_take" [.lst i,.int m] S=.ok (.int r) S1) (a:0<=r) (b:r<m) (k:Kp (·=i) S S1) (l:S1.length=S.length) (st:StOk S1 i)
theorem zID(h:zD8 cl)(n:Nat){S:zA0}{i:Nat}(hS:StOk S i){m:Int}(m0:0<m)(m1:m<1073741824):zZK (cl (n+1)) S i m:=by
 obtain⟨s,b,hs,hb⟩:=hS;have e0:=zBH hs;cases b with
 |true =>
  refine⟨s % m,S.set i (.lst [.int (s / m),.bl true]),?_,qK3 _ (by omega),qI9 _ m0,zCr _ _,by simp,⟨_,_,zBY hs,λz=>by cases z⟩⟩;rw[h];refine zAd rfl ?_;simp[zCU,zAC,e0,m0,m1,zL9 hs]
 |false =>
  obtain⟨s0,s1⟩:=hb rfl;generalize hz:(s*48271+29) % 2147483647=z;have z0:0<=z:=by rw[<- hz];exact qK3 _ (by decide)
  have z1:z<2147483647:=by rw[<- hz];exact qI9 _ (by decide)
  generalize hy:(z*z+39373*z+7) % 2147483629=y;have y0:0<=y:=by rw[<- hy];exact qK3 _ (by decide)
  have y1:y<2147483629:=by rw[<- hy];exact qI9 _ (by decide)
  generalize hx:(y*y+16807*y) % 2147483587=x;refine⟨x / 8 % m,S.set i (.lst [.int z,.bl false]),?_,qK3 _ (by omega),qI9 _ m0,zCr _ _,by simp,⟨_,_,zBY hs,λ_=>⟨z0,z1⟩⟩⟩;rw[h];refine zAd rfl ?_;have e1:=zBH (zBY (ys:=[.int z,.bl false]) hs);have k1:zDQ s 48271=true:=zFv (by decide) (by decide);have k2:zDQ z z=true:=zFv (by omega) (by omega);have k3:zDQ 39373 z=true:=zFv (by omega) (by omega);have k4:zDQ y y=true:=zFv (by omega) (by omega);have k5:zDQ 16807 y=true:=zFv (by omega) (by omega);simp[zCU,zAC,e0,zL9 hs,k1,hz,e1,k2,k3,hy,k4,k5,hx,m0]
structure Ct where
 a:Int
 b:Int
 k:Int
 o:Int
 deriving DecidableEq
abbrev yN:=List Ct
noncomputable def Ct.d(c:Ct):D:=.tup [.int c.a,.int c.b,.int c.k,.int c.o]
def Ct.ok(sw pl:Int)(c:Ct):Prop:=0<=c.a/\c.a<c.b/\c.b<pl/\0<=c.k/\c.k<sw/\0<=c.o/\c.o<2
structure Net where
 sw:Int
 pl:Int
 cs:yN
noncomputable def Net.d(n:Net):D:=.tup [.int n.sw,.int n.pl,.tup (n.cs.map Ct.d)]
structure Net.ok(ms mp mc:Int)(n:Net):Prop where
 s1:1<=n.sw
 s2:n.sw<=ms
 p1:2<=n.pl
 p2:n.pl<=mp
 c1:(n.cs.length:Int)<=mc
 c2:∀c∈n.cs,c.ok n.sw n.pl
theorem zLb{S:zA0}{n m:Nat}{xs ys:List D}(h1:zA3 S n=some xs)(h2:zA3 S m=some ys)(h:xs.length+ys.length<=lim):oAdd (.lst n) (.lst m) S=.ok (.lst S.length) (S++[.lst (xs++ys)]):=by show(match S[n]?,S[m]? with|some (O.lst xs),some (O.lst ys)=>(if xs.length+ys.length<=lim then R.ok (D.lst S.length) (S++[O.lst (xs++ys)])else .bad)| _,_=>.bad)=_;rw[zAI h1,zAI h2];dsimp only;rw[if_pos h]
theorem zMH(lo:Int)(n:Nat):(upD lo n).length=n:=by unfold upD;simp
theorem zB7:lim=1048576:=rfl
theorem _root_.L2.Kp.setNew{P:Nat->Prop}{S0 S:zA0}{l:Nat}{o:O}(h:Kp P S0 S)(hl:S0.length<=l):Kp P S0 (S.set l o) :=
 ⟨by rw[qJ1];exact h.le,λj hj n=>by rw[qD9 (by omega)];exact h.eq j hj n⟩
@[simp]theorem zFj{lo:Int}{n i:Nat}{d:D}:(upD lo n)[i]?=some d↔i<n/\d=.int (lo+i):=by
 unfold upD;rw[qC0];by_cases h:i<n
 ·rw[qK1 h];simp[h,eq_comm]
 ·rw[qJ3 (by simpa using h)];simp[h]
noncomputable def nE(i:Nat)(ms mp mc sw pl:Int)(l:Nat)(a b c d e f:Option D):Env1:=[some (.lst i),some (.int ms),some (.int mp),some (.int mc),some (.int sw),some (.int pl),some (.lst l),a,b,c,d,e,f]
end My
namespace Mt
def zJU(es:List (Int×Int)):Prop:=∀C:Int->Prop,C 0->(∀e∈es,(C e.1↔C e.2))->C 1
structure zIt(es:List (Int×Int))(s:Int)(F:Int->Prop):Prop where
 start:F s
 closed:∀e∈es,(F e.1↔F e.2)
 least:∀C:Int->Prop,C s->(∀e∈es,(C e.1↔C e.2))->∀x,F x->C x
theorem zIt.joined{es:List (Int×Int)}{F:Int->Prop}(h:zIt es 0 F):F 1↔zJU es:=⟨λf C c0 cc=>h.least C c0 cc 1 f,λj=>j F h.start h.closed⟩
theorem zOA{α:Type}{p q:α->Bool}{l:List α}(h:∀x,p x=true->q x=true){a:α}(ha:a∈l)(h1:q a=true)(h2:p a=false):(l.filter p).length<(l.filter q).length:=by
 induction l with
 |nil=>cases ha
 |cons x r ih =>
  have le:(r.filter p).length<=(r.filter q).length:=by
   clear ih ha
   induction r with
   |nil=>simp
   |cons y r ih =>
    rw[qI6,qI6];cases hp:p y with
    |true=>rw[h y hp];simpa using ih
    |false =>
     cases q y with
     |true=>simp;omega
     |false=>simpa using ih
  rw[qI6,qI6];rcases qB0.mp ha with e|e
  ·subst e;rw[h1,h2];simp;omega
  ·have:=ih e;cases hp:p x with
   |true=>rw[h x hp];simpa using this
   |false =>
    cases q x with
    |true=>simp;omega
    |false=>simpa using this
def ZZ(ms:yA)(x:Int):Prop:=0<=x/\ms[x.toNat]?=some 0
end Mt
namespace My
open PySem L2 Mt
variable {cl:Nat->CLL}
noncomputable def zAb(st:yA):D:=.tup (st.map D.int)
noncomputable def zGk(c:Ct)(st:yA):Bool:=decide (st.getD c.k.toNat 0=c.o)
theorem zIp{l:yA}{k:Int}(h0:0<=k)(h1:k<l.length):atI (l.map D.int) k=some (.int (l.getD k.toNat 0)):=by
 have e:l[k.toNat]?=some (l.getD k.toNat 0):=by rw[qK0,qA4 (by omega)];rfl
 have q:=zCw (xs:=l.map D.int) (j:=k.toNat) (v:=.int (l.getD k.toNat 0)) (by rw[qC0,e];rfl);rw[show((k.toNat:Nat):Int)=k by omega]at q;exact q
theorem zJ9(h:zCi cl)(n:Nat)(c:Ct)(st:yA)(h0:0<=c.k)(h1:c.k<st.length)(S:zA0):cl (n+1) "is_shut" [c.d,zAb st] S=.ok (.bl (zGk c st)) S:=by rw[h];refine zAd rfl ?_;simp[zEi,zAC,Ct.d,zAb,zIp h0 h1,zGk]
theorem zO1:(1000:Nat)<lim:=by decide
noncomputable def ends(cs:yN):List (Int×Int):=cs.map λc=>(c.a,c.b)
noncomputable def cntF(BB:Nat)(fs:yA):Nat:=((List.range BB).filter fun(v:Nat)=>decide ((v:Int)∈fs)).length
theorem zKB(BB:Nat)(fs:yA):cntF BB fs<=BB:=by unfold cntF;have:=qO4 (fun(v:Nat)=>decide ((v:Int)∈fs)) (List.range BB);simpa using this
theorem zOZ{BB:Nat}{fs gs:yA}(h:∀x,x∈fs->x∈gs){x:Int}(hx:x∈gs)(hn:x∉fs)(h0:0<=x)(hB:x<BB):cntF BB fs<cntF BB gs:=by
 unfold cntF;refine zOA (a:=x.toNat) (λv hv=>?_) ?_ ?_ ?_
 ·simp only[decide_eq_true_eq]at hv ⊢;exact h _ hv
 ·rw[qF7];omega
 ·simp only[decide_eq_true_eq];rw[show((x.toNat:Nat):Int)=x by omega];exact hx
 ·simp only[decide_eq_false_iff_not];rw[show((x.toNat:Nat):Int)=x by omega];exact hn
theorem zIr(fs:yA)(a:Int):(addK fs a).length<=fs.length+1:=by unfold addK;split<;>simp
noncomputable def pE(s:Int)(k l:Nat)(g:Bool)(v:Option D):Env1:=[some (.int s),some (.lst k),some (.dct l),some (.bl g),v]
def Clo(cs:yN)(s:Int)(fs:yA):Prop:=∀C:Int->Prop,C s->(∀e∈ends cs,(C e.1↔C e.2))->∀x∈fs,C x
inductive PlW(cs:yN)(s:Int)(k:Nat)(S:zA0)(m:Nat)(B:Env1)(S':zA0):Prop
 |mk (fs:yA) (g:Bool) (v4:Option D) (e:B=pE s k S.length g v4) (kp:Kp (·=S.length) (S++[.dk (dkOf [s])]) S') (hf:S'[S.length]?=some (.dk (dkOf fs))) (r1:s∈fs) (r2:Clo cs s fs) (r3:g=false->∀e∈ends cs,(e.1∈fs↔e.2∈fs)) (r4:g=true->m+cntF 7 fs=9) (r5:fs.length+200*m<=2000) (nd:fs.Nodup)
inductive PlQ(cs:yN)(s:Int)(k:Nat)(S:zA0)(B:Env1)(S':zA0):Prop
 |mk (fs:yA) (v4:Option D) (e:B=pE s k S.length false v4) (kp:Kp (·=S.length) (S++[.dk (dkOf [s])]) S') (hf:S'[S.length]?=some (.dk (dkOf fs))) (r1:s∈fs) (r2:Clo cs s fs) (r3:∀e∈ends cs,(e.1∈fs↔e.2∈fs)) (nd:fs.Nodup)
inductive PlL(cs:yN)(s:Int)(k:Nat)(S:zA0)(fs:yA)(j:Nat)(B:Env1)(S2:zA0):Prop
 |mk (fs2:yA) (g2:Bool) (v4:Option D) (e:B=pE s k S.length g2 v4) (kp:Kp (·=S.length) (S++[.dk (dkOf [s])]) S2) (hf:S2[S.length]?=some (.dk (dkOf fs2))) (q1:∀x∈fs,x∈fs2) (q2:Clo cs s fs2)
  (q3:g2=false->fs2=fs/\∀i c,i<j->cs[i]?=some c->(c.a∈fs↔c.b∈fs)) (q4:g2=true->cntF 7 fs<cntF 7 fs2) (q5:fs2.length<=fs.length+2*j) (nd:fs2.Nodup)
theorem zPj{fs:yA}(h:fs.Nodup)(a:Int):(addK fs a).Nodup:=by
 unfold addK;split
 ·exact h
 ·rename_i ha;exact qI1.mpr ⟨h,by simp,λx hx y hy e=>ha (by rw[qB7]at hy;subst hy;subst e;exact hx)⟩
theorem zNp(h:zAw cl)(n:Nat)(cs:yN)(s:Int)(hs:0<=s/\s<7)(hc:cs.length<=100)(hb:∀c∈cs,(0<=c.a/\c.a<7)/\0<=c.b/\c.b<7){S:zA0}{k:Nat}(hk:zA3 S k=some (cs.map Ct.d)):
  ∃m S1 fs,cl (n+1) "places_from" [.int s,.lst k] S=.ok (.dct m) S1/\Ex S S1/\S1[m]?=some (.dk (dkOf fs))/\zIt (ends cs) s (·∈fs)/\fs.Nodup:=by
 have km:k≠S.length:=by have:=zCZ hk;omega
 obtain⟨B',S',e,fs,v4,rfl,kp,hfs,r1,r2,r3,nd⟩:=zF8 (t:=cTru (cVar 3)) (b:=zBP (cl n)) (PlW cs s k S) (PlQ cs s k S)
  (λm B S' hp=>by
   obtain⟨fs,g,v4,rfl,kp,hfs,r1,r2,r3,r4,r5,nd⟩:=hp;cases g with
   |false=>exact .inl ⟨S',by simp[pE],⟨fs,v4,rfl,kp,hfs,r1,r2,r3 rfl,nd⟩⟩
   |true =>
    refine .inr ⟨S',by simp[pE],?_⟩;have hl:zA3 S' k=some (cs.map Ct.d):=kp.lst (zCR hk) km;obtain⟨B2,S2,e2,fs2,g2,v4',rfl,kp2,hfs2,q1,q2,q3,q4,q5,nd2⟩:=zBQ (w:=[(k,cs.map Ct.d)]) (g:=gN 4) (b:=zBO (cl n)) (items:=cs.map Ct.d)
     (PlL cs s k S fs) (B:=pE s k S.length false v4) (S:=S')
     (λj B S2 hp=>by
      obtain⟨_,_,_,_,kp⟩:=hp;exact zCo (kp.lst (zCR hk) km))
     ⟨fs,false,v4,rfl,kp,hfs,λx hx=>hx,r2,λ_=>⟨rfl,λi c hi=>by omega⟩,(λz=>by cases z),by omega,nd⟩
     (λj d B S2 hd hp=>by
      obtain⟨fs2,g2,v4,rfl,kp2,hf2,q1,q2,q3,q4,q5,nd2⟩:=hp;rw[qC0]at hd;obtain⟨c,hcj,rfl⟩:=qA2.mp hd;have hm:c∈cs:=qB5 hcj;have hj:j<cs.length:=(qA3.mp hcj).1;obtain⟨ba,bb⟩:=hb c hm;have he:(c.a,c.b)∈ends cs:=qD8.mpr ⟨c,hm,rfl⟩;refine⟨_,_,rfl,?_⟩;have i1:=zNI hf2 false c.a;have i2:=zNI hf2 false c.b;have hlim:fs2.length+2<lim:=by have:=zO1;rw[zB7];omega
      by_cases hne:(c.a∈fs2↔c.b∈fs2)
      ·refine⟨_,S2,.inl ?_,⟨fs2,g2,some c.d,rfl,kp2,hf2,q1,q2,λhg=>⟨(q3 hg).1,λi c' hi hc'=>?_⟩,q4,by omega,nd2⟩⟩
       ·have:(decide (c.a∈fs2) != decide (c.b∈fs2))=false:=by simp[hne]
        simp[pE,zBO,Ct.d,i1,i2,this]
       ·by_cases hij:i=j
        ·subst hij;rw[hcj]at hc';cases hc';rw[(q3 hg).1]at hne;exact hne
        ·exact(q3 hg).2 i c' (by omega) hc'
      ·have s1:=zNG hf2 (by omega) c.a;have f3:(S2.set S.length (.dk (dkOf (addK fs2 c.a))))[S.length]?=some (.dk (dkOf (addK fs2 c.a))):=qC8 (qA3.mp hf2).1;have s2:=zNG f3 (by have:=zIr fs2 c.a;omega) c.b;have f4:((S2.set S.length (.dk (dkOf (addK fs2 c.a)))).set S.length (.dk (dkOf (addK (addK fs2 c.a) c.b))))[S.length]?=some (.dk (dkOf (addK (addK fs2 c.a) c.b))):=qC8 (qA3.mp f3).1;have mem:∀x,x∈addK (addK fs2 c.a) c.b↔x∈fs2∨x=c.a∨x=c.b:=λx=>by rw[zLh,zLh,or_assoc]
       refine⟨_,_,.inl ?_,⟨addK (addK fs2 c.a) c.b,true,some c.d,rfl,(kp2.trans (zCr _ _)).trans (zCr _ _),f4,λx hx=>(mem x).mpr (.inl (q1 x hx)),λC c0 cc x hx=>?_,(λz=>by cases z),λ_=>?_,by have:=zIr fs2 c.a;have:=zIr (addK fs2 c.a) c.b;omega,zPj (zPj nd2 _) _⟩⟩
       ·have:(decide (c.a∈fs2) != decide (c.b∈fs2))=true:=by by_cases h1:c.a∈fs2<;>by_cases h2:c.b∈fs2<;>simp[h1,h2]at hne ⊢
        simp[pE,zBO,Ct.d,i1,i2,this,s1,s2]
       ·have ca:=q2 C c0 cc;have hcc:=cc _ he;dsimp only at hcc;have one:C c.a/\C c.b:=by
         by_cases h1:c.a∈fs2
         ·exact⟨ca _ h1,hcc.mp (ca _ h1)⟩
         ·by_cases h2:c.b∈fs2
          ·exact⟨hcc.mpr (ca _ h2),ca _ h2⟩
          ·exact absurd (iff_of_false h1 h2) hne
        rcases(mem x).mp hx with z|z|z
        ·exact ca x z
        ·subst z;exact one.1
        ·subst z;exact one.2
       ·have lt:cntF 7 fs2<cntF 7 (addK (addK fs2 c.a) c.b):=by
         by_cases h1:c.a∈fs2
         ·have h2:c.b∉fs2:=λz=>hne (iff_of_true h1 z);exact zOZ (λx hx=>(mem x).mpr (.inl hx)) ((mem c.b).mpr (.inr (.inr rfl))) h2 bb.1 bb.2
         ·exact zOZ (λx hx=>(mem x).mpr (.inl hx)) ((mem c.a).mpr (.inr (.inl rfl))) h1 ba.1 ba.2
        cases g2 with
        |true=>have:=q4 rfl;omega
        | false=>rw[(q3 rfl).1]at lt ⊢;exact lt)
    have c0:=zKB 7 fs;have c1:=r4 rfl;rw[qA8]at q5;have step:zBP (cl n) (pE s k S.length true v4) S'=.nx (pE s k S.length g2 v4') S2:=by unfold pE at e2 ⊢;simp[zBP,hl,e2]
    cases g2 with
    |true =>
     have c2:=zKB 7 fs2;have c3:=q4 rfl;exact⟨_,S2,.inl step,9 - cntF 7 fs2,by omega,⟨fs2,true,v4',rfl,kp2,hfs2,q1 s r1,q2,(λz=>by cases z),λ_=>by omega,by omega,nd2⟩⟩
    |false =>
     refine⟨_,S2,.inl step,0,by omega,⟨fs2,false,v4',rfl,kp2,hfs2,q1 s r1,q2,λhg e he=>?_,(λz=>by cases z),by omega,nd2⟩⟩;obtain⟨c,hc1,rfl⟩:=qD8.mp he;obtain⟨i,hi⟩:=qF6 hc1;rw[(q3 hg).1];exact(q3 hg).2 i c (by rw[qA8];exact(qA3.mp hi).1) hi)
  zGj (9 - cntF 7 [s]) (pE s k S.length true none) (S++[.dk (dkOf [s])]) (qG2 (Nat.sub_le _ _) (by decide))
   ⟨[s],true,none,rfl,Kp.refl _ _,by rw[qA0 (qA6 _),qI8];rfl,by simp,λC c0 _ x hx=>(by simp at hx;subst hx;exact c0),(λz=>by cases z),λ_=>(by have:=zKB 7 [s];omega),by simp;omega,by simp⟩
 refine⟨S.length,S',fs,?_,⟨?_,λj hj _=>?_⟩,hfs,⟨r1,r3,λC c0 cc x hx=>r2 C c0 cc x hx⟩,nd⟩
 ·rw[h];refine zAd rfl ?_;have e0:(S++[O.dk [((Sum.inl s:Key),D.bl true)]])=S++[O.dk (dkOf [s])]:=rfl;unfold pE at e;simp[zCc,zAC,zFF,e0,e]
 ·have:=kp.le;simp at this;omega
 ·rw[kp.eq j (by simp;omega) (by omega),qA7 hj]
theorem zK5(h:zAw cl)(n:Nat)(cs:yN)(s:Int)(hs:0<=s/\s<7)(hc:cs.length<=100)(hb:∀c∈cs,(0<=c.a/\c.a<7)/\0<=c.b/\c.b<7){S:zA0}{k:Nat}(hk:zA3 S k=some (cs.map Ct.d)):
  ∃m S1 fs,cl (n+1) "places_from" [.int s,.lst k] S=.ok (.dct m) S1/\Ex S S1/\S1[m]?=some (.dk (dkOf fs))/\zIt (ends cs) s (·∈fs):=by obtain⟨m,S1,fs,a,b,c,d,_⟩:=zNp h n cs s hs hc hb hk;exact⟨m,S1,fs,a,b,c,d⟩
noncomputable def jB(es:List (Int×Int)):Bool:=@decide (zJU es) (Classical.propDecidable _)
theorem zOe{es:List (Int×Int)}:jB es=true↔zJU es:=by exact @decide_eq_true_iff _ (Classical.propDecidable _)
theorem zZk{es:List (Int×Int)}{b:Bool}(h:b=true↔zJU es):b=jB es:=by
 cases b with
 |true=>exact(zOe.mpr (h.mp rfl)).symm
 |false =>
  cases q:jB es with
  |false=>rfl
  |true=>exact absurd (h.mpr (zOe.mp q)) qA9
def In7(cs:yN):Prop:=∀c∈cs,(0<=c.a/\c.a<7)/\0<=c.b/\c.b<7
theorem zMa(h:zEl cl)(hp:zAw cl)(n:Nat)(cs:yN)(hc:cs.length<=100)(hb:In7 cs){S:zA0}{k:Nat}(hk:zA3 S k=some (cs.map Ct.d)):Spc (cl (n+2) "joins" [.lst k] S) ((.bl (jB (ends cs)))) S:=by obtain⟨m,S1,fs,e,x,hf,r⟩:=zK5 hp n cs 0 (by decide) hc hb hk;refine⟨S1,?_,x⟩;rw[show n+2=(n+1)+1 from rfl,h];refine zAd rfl ?_;have q:=zNI hf false 1;have e2:decide ((1:Int)∈fs)=jB (ends cs):=zZk (by rw[decide_eq_true_eq];exact r.joined);simp[zIn,zAC,e,q,e2]
noncomputable def zGl(N:Net)(st:yA):Bool:=jB (ends (N.cs.filter λc=>zGk c st))
theorem Net.ok.in7{ms mp mc:Int}{N:Net}(h:N.ok ms mp mc)(hm:mp<=7):In7 N.cs:=λc hc=>by obtain⟨h1,h2,h3,_⟩:=h.c2 c hc;have:=h.p2;omega
theorem In7.filter{cs:yN}(h:In7 cs)(p:Ct->Bool):In7 (cs.filter p):=λc hc=>h c (qF3.mp hc).1
theorem Net.ok.len{ms mp mc:Int}{N:Net}(h:N.ok ms mp mc)(hm:mc<=16):N.cs.length<=100:=by have:=h.c1;omega
theorem zE5(h:zAG cl)(hi:zCi cl)(n:Nat)(N:Net)(st:yA)(hc:N.cs.length<=100)(hk:∀c∈N.cs,0<=c.k/\c.k<st.length)(S:zA0):cl (n+2) "shut_contacts" [N.d,zAb st] S=.ok (.lst S.length) (S++[.lst ((N.cs.filter λc=>zGk c st).map Ct.d)]):=by
 have e1:zAW [] .one (zC3 (cl (n+1))) (zC4 (cl (n+1))) [none,some (zAb st)] (N.cs.map Ct.d) S=.ok ((N.cs.filter λc=>zGk c st).map Ct.d) S:=by
  refine zEe Ct.d (zAg S) _ _ _ λc hm=>⟨_,rfl,?_,λ_=>?_⟩
  ·have:=zJ9 hi n c st (hk _ hm).1 (hk _ hm).2 S;simp[zC3,this]
  ·simp[zC4]
 rw[show n+2=(n+1)+1 from rfl,h];refine zAd rfl ?_;have e4:N.cs.length<lim:=by have:=zO1;omega
 generalize (N.cs.filter λc=>zGk c st).map Ct.d=F at e1;simp[zBz,zAC,Net.d,e1,e4]
theorem zO2(h:zIw cl)(hj:zEl cl)(hp:zAw cl)(hs:zAG cl)(hi:zCi cl)(n:Nat){N:Net}{st:yA}(hc:N.cs.length<=100)(h7:In7 N.cs)(hk:∀c∈N.cs,0<=c.k/\c.k<st.length)(S:zA0):Spc (cl (n+3) "lets" [N.d,zAb st] S) ((.bl (zGl N st))) S:=by have e1:=zE5 hs hi n N st hc hk S;have fl:(N.cs.filter λc=>zGk c st).length<=100:=qD0 (qO4 _ _) hc;obtain⟨S2,e4,x2⟩:=zMa hj hp n _ fl (h7.filter _) (zA5 S ((N.cs.filter λc=>zGk c st).map Ct.d));refine⟨S2,?_,(zAe _ _).trans x2⟩;rw[show n+3=(n+2)+1 from rfl,h];refine zAd rfl ?_;simp[zLJ,zAC,e1,e4,zGl]
@[simp]theorem zXN(w x y z:D):cutD [w,x,y,z] none (some 2)=[w,x]:=rfl
noncomputable def sett:Nat->List (yA)
 |0=>[[]]
 |n+1=>(sett n).map (0::·)++(sett n).map (1::·)
theorem zC7:∀n,(sett n).length=2 ^ n
 |0=>rfl
 |n+1=>by unfold sett;rw[qC3,qA8,qA8,zC7 n,Nat.pow_succ];omega
theorem zE6:∀n,∀st∈sett n,st.length=n/\∀b∈st,b=0∨b=1
 |0,st,h=>by simp[sett]at h;subst h;simp
 |n+1,st,h=>by
  unfold sett at h;rcases qB9.mp h with q|q
  ·obtain⟨t,ht,rfl⟩:=qD8.mp q;obtain⟨h1,h2⟩:=zE6 n t ht;exact⟨by simp[h1],λb hb=>by rcases qB0.mp hb with z|z;exact .inl z;exact h2 b z⟩
  ·obtain⟨t,ht,rfl⟩:=qD8.mp q;obtain⟨h1,h2⟩:=zE6 n t ht;exact⟨by simp[h1],λb hb=>by rcases qB0.mp hb with z|z;exact .inr z;exact h2 b z⟩
theorem zFn{j:Nat}(h:j<=4):2 ^ j<=16:=qD0 (qJ5 (by decide) h) (by decide)
theorem zHt(h:zD7 cl)(n:Nat){sw:Int}(h0:0<=sw)(h4:sw<=4)(S:zA0):∃k S1,cl (n+1) "settings" [.int sw] S=.ok (.lst k) S1/\Ex S S1/\S.length<=k/\zA3 S1 k=some ((sett sw.toNat).map zAb):=by
 obtain⟨B',S1,e1,k,v2,rfl,x1,hk,l1⟩:=zBQ (w:=[]) (g:=gN 2) (b:=zDM (cl n)) (items:=upD 0 sw.toNat)
  (λj B S'=>∃k v2,B=[some (.int sw),some (.lst k),v2]/\Ex S S'/\S.length<=k/\zA3 S' k=some ((sett j).map zAb))
  (B:=[some (.int sw),some (.lst S.length),none]) (S:=S++[.lst [.tup []]])
  (λj B S' hp=>zAg _) ⟨S.length,none,rfl,zAe _ _,qA6 _,by rw[zA5];rfl⟩
  (λj d B S' hd hp=>by
   obtain⟨k,v2,rfl,x1,hk,l1⟩:=hp;rw[zFj]at hd;have hj:j<sw.toNat:=hd.1;have lj:(sett j).length<=16:=by rw[zC7];exact zFn (by omega)
   have comp:∀(b:Int) (e:C) (he:∀xs B S,e (some (.tup xs)::B) S=if 1+xs.length<=lim then .ok (.tup (.int b::xs)) S else .bad) (S2:zA0),zA3 S2 k=some ((sett j).map zAb)->zAW [(k,(sett j).map zAb)] .one (λ_=>ret true) e [none] ((sett j).map zAb) S2=.ok (((sett j).map (b::·)).map zAb) S2:=by
    intro b e he S2 l2;rw[qD2];refine zCh zAb (zCo l2) _ _ λst hst=>⟨_,rfl,?_⟩
    have:=(zE6 j st hst).1;show e [some (zAb st)] S2=_;unfold zAb;rw[he,if_pos (by rw[qA8,zB7];omega)];rfl
   have c1:=comp 0 (zDO (cl n)) (λxs B S=>by simp[zDO]) S' l1;have l2:=(zAe S' [.lst (((sett j).map (0::·)).map zAb)]).lst l1 (λz=>z);have c2:=comp 1 (zDN (cl n)) (λxs B S=>by simp[zDN]) (S'++[.lst (((sett j).map (0::·)).map zAb)]) l2;generalize hA:S'++[O.lst (((sett j).map (0::·)).map zAb)]=A at c2 l2;generalize hX0:((sett j).map (0::·)).map zAb=X0 at c1 hA;generalize hX1:((sett j).map (1::·)).map zAb=X1 at c2;have a1:zA3 (A++[.lst X1]) S'.length=some X0:=by rw[<- hA];exact zCR (zA5 _ _)
   have n0:X0.length<=16:=by rw[<- hX0];simpa using lj
   have n1:X1.length<=16:=by rw[<- hX1];simpa using lj
   have ad:=zLb a1 (zA5 A X1) (by rw[zB7];omega);refine⟨_,_,rfl,_,A++[.lst X1]++[.lst (X0++X1)],.inl ?_,(A++[O.lst X1]).length,some d,rfl,?_,?_,?_⟩
   ·have ll:((sett j).map zAb).length<lim:=by rw[qA8,zB7];omega
    generalize hB:(sett j).map zAb=BB at l1 l2 c1 c2 ll;simp[zDM,l1,c1,hA,l2,c2,ll,ad]
   ·rw[<- hA];exact((x1.trans (zAe _ _)).trans (zAe _ _)).trans (zAe _ _)
   ·rw[<- hA];have:=x1.le;simp;omega
   ·rw[zA5,<- hX0,<- hX1,show sett (j+1)=(sett j).map (0::·)++(sett j).map (1::·)from rfl,qE1])
 rw[zMH]at l1;refine⟨k,S1,?_,x1,hk,l1⟩;rw[h];refine zAd rfl ?_;have f2:-4611686018427387904<=sw/\sw<4611686018427387904:=by omega
 simp[zDA,zAC,f2,e1]
noncomputable def zZ9(sw:Int):List (yA):=(List.range (1*2 ^ sw.toNat:Int).toNat).map fun(m:Nat)=>(List.range sw.toNat).map fun(k:Nat)=>jL ((0+(m:Int)) / 2 ^ (sw - 1 - (0+(k:Int))).toNat) 1
theorem zQc{sw:Int}(h1:1<=sw)(h4:sw<=4):zZ9 sw=sett sw.toNat:=by
 have:sw=1∨sw=2∨sw=3∨sw=4:=by omega
 rcases this with rfl|rfl|rfl|rfl<;>decide +kernel
theorem zCT(h:zAU cl)(n:Nat){sw:Int}(h1:1<=sw)(h4:sw<=4)(S:zA0):∃k S1,cl (n+1) "_law_settings" [.int sw] S=.ok (.lst k) S1/\Ex S S1/\S.length<=k/\zA3 S1 k=some ((sett sw.toNat).map zAb):=by
 rw[<- zQc h1 h4];have hp:(1*2 ^ sw.toNat:Int)<=16:=by
  have:sw=1∨sw=2∨sw=3∨sw=4:=by omega
  rcases this with rfl|rfl|rfl|rfl<;>decide
 have hp0:(0:Int)<=1*2 ^ sw.toNat:=by
  have:sw=1∨sw=2∨sw=3∨sw=4:=by omega
  rcases this with rfl|rfl|rfl|rfl<;>decide
 let f:Nat->yA:=fun(m:Nat)=>(List.range sw.toNat).map fun(k:Nat)=>jL ((0+(m:Int)) / 2 ^ (sw - 1 - (0+(k:Int))).toNat) 1
 obtain⟨B',S1,e1,v2,rfl,x1,l1⟩:=zBQ (w:=[]) (g:=gN 2) (b:=zCp (cl n)) (items:=upD 0 (1*2 ^ sw.toNat:Int).toNat)
  (λj B S'=>∃v2,B=[some (.int sw),some (.lst S.length),v2]/\Ex S S'/\zA3 S' S.length=some (((List.range j).map f).map zAb))
  (B:=[some (.int sw),some (.lst S.length),none]) (S:=S++[.lst []])
  (λj B S' hp=>zAg _) ⟨none,rfl,zAe _ _,by rw[zA5];rfl⟩
  (λj d B S' hd hp=>by
   obtain⟨v2,rfl,x1,l1⟩:=hp;rw[zFj]at hd;obtain⟨hj,rfl⟩:=hd;have c1:zAW [] .one (λ_=>ret true) (zCq (cl n)) [none,some (.int (0+(j:Int))),some (.int sw)] ((List.range sw.toNat).map fun(k:Nat)=>D.int (0+(k:Nat))) S'=.ok ((List.range sw.toNat).map fun(k:Nat)=>D.int (jL ((0+(j:Int)) / 2 ^ (sw - 1 - (0+(k:Int))).toNat) 1)) S':=by
    refine zCh (fun(k:Nat)=>D.int (0+(k:Nat))) (zAg S') _ _ λk hk=>⟨_,rfl,?_⟩
    rw[qF7]at hk;have q:(0:Int)<=sw - 1 - (0+(k:Int)):=by omega
    generalize (0+(k:Int))=kk at q ⊢;generalize (0+(j:Int))=jj;have q':kk<=sw - 1:=by omega
    simp[zCq,q']
   have hf:(List.range sw.toNat).map (fun(k:Nat)=>D.int (jL ((0+(j:Int)) / 2 ^ (sw - 1 - (0+(k:Int))).toNat) 1))=(f j).map D.int:=by rw[qD2];rfl
   rw[hf]at c1;have x2:=zAe S' [.lst ((f j).map D.int)];have l2:=x2.lst l1 (λz=>z);have t1:=zCg (zA5 S' ((f j).map D.int));have a1:=zEc l2 zAR [.tup ((f j).map D.int)];have q1:=zE1 l1;have n1:(((List.range j).map f).map zAb).length<lim:=by rw[qA8,qA8,qF2,zB7];omega
   refine⟨_,_,rfl,_,_,.inl ?_,some (.int (0+(j:Int))),rfl,((x1.trans x2).setNew (l:=S.length) (o:=.lst (((List.range j).map f).map zAb++[.tup ((f j).map D.int)])) (qA6 _)),?_⟩
   ·have f2:-4611686018427387904<=sw/\sw<4611686018427387904:=by omega
    have f3:sw.toNat<lim:=by rw[zB7];omega
    generalize hB:((List.range j).map f).map zAb=BB at a1 n1;generalize (f j).map D.int=F at *;rw[zDx,if_pos n1]at a1;dsimp only at a1;unfold upD at *;simp only[List.set_cons_succ,List.set_cons_zero];generalize (0+(j:Int))=jj at *;simp[zCp,q1,f2,upD,f3,-Int.zero_add,c1,t1,a1]
   ·rw[zBY l2,qO1,qE1,qE1];rfl)
 rw[zMH]at l1;refine⟨S.length,S1,?_,x1,qA6 _,l1⟩;rw[h];refine zAd rfl ?_;have f2:-4611686018427387904<=(1*2 ^ sw.toNat:Int)/\(1*2 ^ sw.toNat:Int)<4611686018427387904:=by omega
 have f3:0<=sw/\sw<=1000000/\(1:Int).natAbs<18446744073709551616:=⟨by omega,by omega,by decide⟩
 generalize hpw:(1*2 ^ sw.toNat:Int)=pw at *;have o1:oShl (.int 1) (.int sw) (S++[.lst []])=.ok (.int pw) (S++[.lst []]):=by rw[zQ6,if_pos f3,hpw]
 have o2:zBw (zA2 [cBin oShl (cCon (.int 1)) (cVar 0)]) [some (.int sw),some (.lst S.length),none] (S++[.lst []])=.ok (upD 0 pw.toNat,[]) (S++[.lst []]):=by rw[zMf,zMt,zU2,zU1,zAj,zPa];dsimp only[List.getElem?_cons_zero];rw[zAj,o1,zAj,zJH,zAj,zAj];dsimp only;rw[if_pos f2]
 clear o1 f3 f2;simp only[zBS,zAC,qB8,qJ7,zCW,zSw,zTZ,zJH,zAj,zVf,zZo,zV4,zHw];rw[show(List.set ([some (D.int sw)]++qE6 (3 - [D.int sw].length) none) 1 (some (D.lst (qK5 S))))=[some (.int sw),some (.lst S.length),none]from rfl,o2,zVf];dsimp only;rw[e1,zV4,zCW,zSu,zPa];rfl
noncomputable def funP(N:Net):yA:=(sett N.sw.toNat).map λst=>if zGl N st then 1 else 0
theorem zLV{sw:Int}(h4:sw<=4):((sett sw.toNat).map zAb).length<lim:=by rw[qA8,zC7,zB7];have:=zFn (j:=sw.toNat) (by omega);omega
theorem zES(h:zCJ cl)(hle:zIw cl)(hj:zEl cl)(hp:zAw cl)(hs:zAG cl)(hi:zCi cl)(hse:zD7 cl)(n:Nat){N:Net}(w1:0<=N.sw)(w2:N.sw<=4)(hc:N.cs.length<=100)(h7:In7 N.cs)(hk:∀c∈N.cs,0<=c.k/\c.k<N.sw)(S:zA0):
  Spc (cl (n+4) "function_of" [N.d] S) ((zAb (funP N))) S:=by
 obtain⟨k,S1,e1,x1,_,l1⟩:=zHt hse (n+2) (sw:=N.sw) w1 w2 S;obtain⟨S2,e2,x2⟩:=zEf zAb (w:=[(k,(sett N.sw.toNat).map zAb)]) (t:=.one) (c:=zCF (cl (n+3))) (B0:=[none,some N.d]) (λS'=>Ex S1 S') (λS' x=>zCo (x.lst l1 λz=>z)) (λst=>.int (if zGl N st then 1 else 0)) (sett N.sw.toNat) (Kp.refl _ _)
  (λst hst S' x=>by
   have hl:=(zE6 _ st hst).1;obtain⟨S3,e3,x3⟩:=zO2 hle hj hp hs hi n hc h7 (st:=st) (λc hc=>by have:=hk c hc;rw[hl];omega) S';refine⟨_,rfl,S3,?_,x.trans x3⟩;cases hb:zGl N st<;>simp[zCF,e3,hb])
 have e4:(sett N.sw.toNat).map (λst=>D.int (if zGl N st then 1 else 0))=(funP N).map D.int:=by unfold funP;rw[qD2];rfl
 rw[e4]at e2;refine⟨_,?_,(x1.trans x2).trans (zAe S2 [.lst ((funP N).map D.int)])⟩;rw[show n+4=(n+3)+1 from rfl,h];refine zAd rfl ?_;have ll:=zLV w2;have t1:=zCg (zA5 S2 ((funP N).map D.int));have o0:oIx N.d (.int 0) S=.ok (.int N.sw) S:=by simp[Net.d]
 generalize (sett N.sw.toNat).map zAb=BB at *;simp[zCd,zAC,o0,e1,l1,ll,e2,t1,zAb]
theorem zQC(a:Int)(l:yA):inV (.int a) (l.map V.int)=decide (a∈l):=by
 unfold inV
 induction l with
 |nil=>rfl
 |cons x r ih =>
  rw[qB8,qH3,ih];by_cases h:x=a
  ·subst h;simp[eqV]
  ·have h2:¬a=x:=λz=>h z.symm;simp[eqV,h,h2]
theorem zMh(l:yA):(l.map D.int).mapM flat=some (l.map V.int):=by
 induction l with
 |nil=>rfl
 |cons x r ih=>rw[qB8,qL0,ih];rfl
@[simp]theorem zUh(w x y z:D):cutD [w,x,y,z] none (some 3)=[w,x,y]:=rfl
structure HF(cl:Nat->CLL):Prop where
 se:zD7 cl
 is:zCi cl
 pf:zAw cl
 jo:zEl cl
 sc:zAG cl
 le:zIw cl
 fo:zCJ cl
abbrev yM:=List D
abbrev Net.g(N:Net):Prop:=N.ok 4 7 16
theorem Net.ok.k2{ms mp mc:Int}{N:Net}(h:N.ok ms mp mc):∀c∈N.cs,0<=c.k/\c.k<N.sw:=λc hc=>by obtain⟨_,_,_,a,b,_⟩:=h.c2 c hc;exact⟨a,b⟩
theorem HF.fun(F:HF cl)(n:Nat){N:Net}(ok:N.g)(S:zA0):Spc (cl (n+4) "function_of" [N.d] S) ((zAb (funP N))) S :=
 zES F.fo F.le F.jo F.pf F.sc F.is F.se n (by have:=ok.s1;omega) ok.s2 (ok.len (by decide)) (ok.in7 (by decide)) ok.k2 S
noncomputable def b1(b:Bool):Int:=if b then 1 else 0
noncomputable def Ct.mv(f:Int->Int)(c:Ct):Ct:=⟨if f c.b<f c.a then f c.b else f c.a,if f c.b>f c.a then f c.b else f c.a,c.k,c.o⟩
theorem zQh{N:Net}{st:yA}:zGl N st=true↔∀C:Int->Prop,C 0->(∀c∈N.cs,zGk c st=true->(C c.a↔C c.b))->C 1:=by
 unfold zGl;rw[zOe];unfold zJU ends;constructor
 ·intro h C c0 cc;refine h C c0 λe he=>?_;obtain⟨c,hc,rfl⟩:=qD8.mp he;rw[qF3]at hc;exact cc c hc.1 hc.2
 ·intro h C c0 cc;refine h C c0 λc hc hs=>?_;exact cc (c.a,c.b) (qD8.mpr ⟨c,qF3.mpr ⟨hc,hs⟩,rfl⟩)
noncomputable def zYt(mid:Int)(p:Int):Int:=if p=1 then mid else p
noncomputable def zYs(p1 mid:Int)(k:Int):Int:=if k=0 then mid else if k=1 then 1 else k+p1 - 2
noncomputable def Net.row(N M:Net):Net:=⟨N.sw,N.pl+M.pl - 2+1,N.cs.map (Ct.mv (zYt (N.pl+M.pl - 2)))++M.cs.map (Ct.mv (zYs N.pl (N.pl+M.pl - 2)))⟩
theorem zTB(N:Net):funP N=(sett N.sw.toNat).map λst=>b1 (zGl N st):=rfl
open PySem L2
inductive Tr where
 |lf (k o:Int)
 |nd (r:Bool) (ps:List Tr)
noncomputable def kw(r:Bool):Str:=if r then Str.ofString "row" else Str.ofString "side"
mutual
noncomputable def Tr.d:Tr->D
 |.lf k o=>.tup [.str (Str.ofString "at"),.int k,.int o]
 |.nd r ps=>.tup [.str (kw r),.tup (Tr.ds ps)]
noncomputable def Tr.ds:List Tr->yM
 |[]=>[]
 |t::r=>t.d::Tr.ds r
end
mutual
noncomputable def Tr.ht:Tr->Nat
 |.lf _ _=>0
 |.nd _ ps=>Tr.hts ps+1
noncomputable def Tr.hts:List Tr->Nat
 |[]=>0
 |t::r=>max t.ht (Tr.hts r)
end
mutual
noncomputable def Tr.sz:Tr->Nat
 |.lf _ _=>1
 |.nd _ ps=>Tr.szs ps+1
noncomputable def Tr.szs:List Tr->Nat
 |[]=>0
 |t::r=>t.sz+Tr.szs r
end
theorem zLA:∀ps,Tr.ds ps=ps.map Tr.d
 |[]=>rfl
 |t::r=>by show t.d::Tr.ds r=_;rw[zLA r];rfl
theorem zHQ:∀{ps:List Tr}{t:Tr},t∈ps->t.ht<=Tr.hts ps
 |p::r,t,h=>by
  show t.ht<=max p.ht (Tr.hts r);rcases qB0.mp h with rfl|h
  ·omega
  ·have:=zHQ h;omega
theorem zUy:∀t:Tr,1<=t.sz
 |.lf _ _=>qA6 _
 |.nd _ ps=>by show 1<=Tr.szs ps+1;omega
theorem zMW:∀{ps:List Tr}{t:Tr},t∈ps->t.sz<=Tr.szs ps
 |p::r,t,h=>by
  show t.sz<=p.sz+Tr.szs r;rcases qB0.mp h with rfl|h
  ·omega
  ·have:=zMW h;omega
theorem zMX:∀ps:List Tr,ps.length<=Tr.szs ps
 |[]=>qA6 _
 |p::r=>by show r.length+1<=p.sz+Tr.szs r;have:=zMX r;have:=zUy p;omega
theorem zQl(r:Bool):(kw r=Str.ofString "at")=False:=by cases r<;>simp only[eq_iff_iff,iff_false]<;>decide +kernel
theorem zLn(r:Bool):(kw r=Str.ofString "row")=(r=true):=by
 cases r
 ·simp only[eq_iff_iff];constructor<;>intro h<;>revert h<;>decide +kernel
 ·simp only[eq_iff_iff];constructor<;>intro h<;>first|rfl|trivial
@[simp]theorem zZ3(a b:Str)(S:zA0):oEq (.str a) (.str b) S=.ok (.bl (decide (a=b))) S:=rfl
noncomputable def Tr.un(r:Bool):Tr->List Tr
 |.nd r' qs=>if r'=r then qs else[.nd r' qs]
 |.lf k o=>[.lf k o]
mutual
noncomputable def Tr.lv:Tr->Nat
 |.lf _ _=>1
 |.nd _ ps=>Tr.lvs ps
noncomputable def Tr.lvs:List Tr->Nat
 |[]=>0
 |t::r=>t.lv+Tr.lvs r
end
mutual
def Tr.wf(sw:Int):Tr->Prop
 |.lf k o=>0<=k/\k<sw/\0<=o/\o<2
 |.nd _ ps=>2<=ps.length/\Tr.wfs sw ps
def Tr.wfs(sw:Int):List Tr->Prop
 |[]=>True
 |t::r=>t.wf sw/\Tr.wfs sw r
end
theorem zFi{sw:Int}:∀{ps:List Tr},Tr.wfs sw ps->∀t∈ps,t.wf sw
 |p::r,h,t,ht=>by
  rcases qB0.mp ht with rfl|ht
  ·exact h.1
  ·exact zFi h.2 t ht
mutual
theorem zRn{sw:Int}:∀t:Tr,t.wf sw->1<=t.lv
 |.lf _ _,_=>qA6 _
 |.nd r ps,h=>by have:=lvs_len ps h.2;have:=h.1;show 1<=Tr.lvs ps;omega
theorem lvs_len{sw:Int}:∀ps:List Tr,Tr.wfs sw ps->ps.length<=Tr.lvs ps
 |[],_=>qA6 _
 |t::r,h=>by have:=zRn t h.1;have:=lvs_len r h.2;show r.length+1<=t.lv+Tr.lvs r;omega
end
noncomputable def isS:D->Bool|.str _=>true|_=>false
theorem zOX{w:zD5}{t:Tgt}{c:C}{B0:Env1}(P:yM->zA0->Prop)(hw:∀l S,P l S->okW w S):∀(items:yM) (acc:yM) {S:zA0},P acc S ->
  (∀d∈items,∀acc S,P acc S->∃B1,zGN t d B0=some B1/\∃y S1,c B1 S=.ok y S1/\P (acc++[y]) S1)->∃ds S',zAW w t (λ_=>ret true) c B0 items S=.ok ds S'/\ds.length=items.length/\P (acc++ds) S'
 |[],acc,S,h0,hs=>⟨[],S,by unfold zAW;rw[if_pos (hw _ S h0)],rfl,by rw[qG1];exact h0⟩
 |d::ds,acc,S,h0,hs=>by obtain⟨B1,e1,y,S1,e2,p1⟩:=hs d (by simp) acc S h0;obtain⟨ys,S',e3,l3,h3⟩:=zOX P hw ds (acc++[y]) p1 λd' hd=>hs d' (by simp[hd]);unfold zAW;rw[if_pos (hw _ S h0),e1];dsimp only;rw[zBZ,zVh,zAj,if_pos rfl,zBZ,e2,zAj,zBZ,e3,zAj];exact⟨y::ys,S',rfl,by rw[qD4,qD4,l3],by rw[qB6]at h3;exact h3⟩
noncomputable def orL(l m:yA):yA:=(l.zip m).map λp=>if 0<p.1+p.2 then 1 else 0
noncomputable def sE(x:Str):D->Bool
 |.str y=>decide (y=x)
 |_=>false
def Sn(d:D):Prop:=∃p,(∀S,snap 40 S d=some p)/\(∀x,p=.str x->d=.str x)/\(isS d=false->flat d=none->∃xs,d=.tup xs)
theorem zMm{p:wP}{x:Str}(h:∀y,p≠.str y):PyData.eqv p (.str x)=false/\PyData.eqv (.str x) p=false:=by
 cases p with
 |str y=>exact absurd rfl (h y)
 |_=>exact⟨rfl,rfl⟩
theorem ne_str{d:D}{x:Str}(h:Sn d)(hx:PyData.strOk x=true)(S:zA0):oEq d (.str x) S=.ok (.bl (sE x d)) S/\oNe d (.str x) S=.ok (.bl (!sE x d)) S:=by
 obtain⟨p,h1,h2,_⟩:=h;cases d with
 |str y=>exact⟨rfl,rfl⟩
 |_ =>
  have hp:∀y,p≠.str y:=λy e=>by have:=h2 y e;cases this
  have hs:snap 40 S (.str x)=some (.str x):=by unfold snap;dsimp only;rw[if_pos hx]
  have:=(zMm (x:=x) hp).1;unfold oEq oNe;dsimp only;rw[h1 S,hs];dsimp only;rw[this];exact⟨rfl,rfl⟩
noncomputable def andL(l m:yA):yA:=(l.zip m).map λp=>p.1*p.2
theorem zRH{x:Int}(h:0<=x/\x<2):x=0∨x=1:=by omega
theorem zZI(c:CLL){x y:Int}(hx:x=0∨x=1)(hy:y=0∨y=1)(S:zA0):zC6 c [some (.int x),some (.int y)] S=.ok (.int (x*y)) S:=by rcases hx with rfl|rfl<;>rcases hy with rfl|rfl<;>simp[zC6]<;>rfl
theorem or_e(c:CLL){x y:Int}(hx:x=0∨x=1)(hy:y=0∨y=1)(S:zA0):zBj c [some (.int x),some (.int y)] S=.ok (.int (if 0<x+y then 1 else 0)) S:=by rcases hx with rfl|rfl<;>rcases hy with rfl|rfl<;>simp[zBj]<;>rfl
theorem zUj{e:C}{X Y R:yM}{S S1:zA0}(hl:(zipD X Y).length<lim)(e1:zAW [] (.many 2) (λ_=>ret true) e [none,none] (zipD X Y) S=.ok R S)(h1:S++[.lst R]=S1)(t:zBx [.lst S.length] S1=.ok (.tup R) S1):
  (sSeq (sRet (cApp zBx (zA2 [(zCs (zKl (zA2 [(cVar 0),(cVar 1)])) 2 [] (.many 2) (λ_=>ret true) e)]))) zA4) [some (.tup X),some (.tup Y)] S=.rt (.tup R) S1:=by simp[hl,e1,h1,t]
theorem zMB{e:C}(f:Int->Int->Int)(l m:yA)(hl:l.length<=16)(S:zA0)(he:∀p∈l.zip m,e [some (.int p.1),some (.int p.2)] S=.ok (.int (f p.1 p.2)) S):
  ∃S1,(sSeq (sRet (cApp zBx (zA2 [(zCs (zKl (zA2 [(cVar 0),(cVar 1)])) 2 [] (.many 2) (λ_=>ret true) e)]))) zA4) [some (zAb l),some (zAb m)] S=.rt (zAb ((l.zip m).map λp=>f p.1 p.2)) S1/\Ex S S1:=by
 have z:zipD (l.map D.int) (m.map D.int)=(l.zip m).map λp=>.tup [.int p.1,.int p.2]:=by unfold zipD;rw[List.zip_map,qD2];rfl
 have e1:zAW [] (.many 2) (λ_=>ret true) e [none,none] (zipD (l.map D.int) (m.map D.int)) S=.ok (((l.zip m).map λp=>f p.1 p.2).map D.int) S:=by rw[z,qD2];exact zCh (fun(p:Int×Int)=>D.tup [.int p.1,.int p.2]) (zAg _) _ _ λp hp=>⟨[some (.int p.1),some (.int p.2)],rfl,he p hp⟩
 obtain⟨S1,h1⟩:∃S1,S++[O.lst (((l.zip m).map λp=>f p.1 p.2).map D.int)]=S1:=⟨_,rfl⟩
 refine⟨S1,zUj ?_ e1 h1 (by rw[<- h1];exact zCg (zA5 _ _)),by rw[<- h1];exact zAe _ _⟩;rw[z,qA8,qN8,zB7];omega
def bts(l:yA):Prop:=∀i∈l,0<=i/\i<2
theorem zHm{l m:yA}(hl:bts l)(hm:bts m){p:Int×Int}(hp:p∈l.zip m):(p.1=0∨p.1=1)/\(p.2=0∨p.2=1):=by have:=qL6 (a:=p.1) (b:=p.2) hp;exact⟨zRH (hl _ this.1),zRH (hm _ this.2)⟩
theorem zFh(h:zD6 cl)(n:Nat){l m:yA}(hl:l.length<=16)(bl:bts l)(bm:bts m)(S:zA0):Spc (cl (n+1) "where_both" [zAb l,zAb m] S) (zAb (andL l m)) S:=by obtain⟨S1,e,x⟩:=zMB (e:=zC6 (cl n)) (λx y=>x*y) l m hl S λp hp=>zZI _ (zHm bl bm hp).1 (zHm bl bm hp).2 S;exact⟨S1,by rw[h];exact zAd rfl e,x⟩
theorem zEn(h:zCx cl)(n:Nat){l m:yA}(hl:l.length<=16)(bl:bts l)(bm:bts m)(S:zA0):Spc (cl (n+1) "where_either" [zAb l,zAb m] S) (zAb (orL l m)) S:=by obtain⟨S1,e,x⟩:=zMB (e:=zBj (cl n)) (λx y=>if 0<x+y then 1 else 0) l m hl S λp hp=>or_e _ (zHm bl bm hp).1 (zHm bl bm hp).2 S;exact⟨S1,by rw[h];exact zAd rfl e,x⟩
mutual
noncomputable def Tr.on(st:yA):Tr->Bool
 |.lf k o=>decide (st.getD k.toNat 0=o)
 |.nd r ps=>if r then Tr.onA st ps else Tr.onO st ps
noncomputable def Tr.onA(st:yA):List Tr->Bool
 |[]=>true
 |t::r=>t.on st&&Tr.onA st r
noncomputable def Tr.onO(st:yA):List Tr->Bool
 |[]=>false
 |t::r=>t.on st||Tr.onO st r
end
noncomputable def zGM(sw:Int)(t:Tr):yA:=(sett sw.toNat).map λst=>b1 (t.on st)
noncomputable def cmb(r:Bool)(a b:Bool):Bool:=if r then a&&b else a||b
noncomputable def onF(r:Bool)(st:yA):Bool->List Tr->Bool
 |a,[]=>a
 |a,t::ps=>onF r st (cmb r a (t.on st)) ps
theorem zRj(r:Bool)(st:yA):∀(ps:List Tr) (a:Bool),onF r st a ps=cmb r a (if r then Tr.onA st ps else Tr.onO st ps)
 |[],a=>by cases r<;>cases a<;>rfl
 |t::ps,a=>by show onF r st (cmb r a (t.on st)) ps=_;rw[zRj r st ps];cases r<;>simp[cmb,Tr.onA,Tr.onO,Bool.and_assoc,Bool.or_assoc]
theorem zW1(r:Bool)(st:yA)(t:Tr)(ps:List Tr):(Tr.nd r (t::ps)).on st=onF r st (t.on st) ps:=by rw[zRj];cases r<;>simp[Tr.on,Tr.onA,Tr.onO,cmb]
theorem zXi(l:List (yA))(f g:yA->Bool):andL (l.map λst=>b1 (f st)) (l.map λst=>b1 (g st))=l.map λst=>b1 (f st&&g st):=by
 unfold andL
 induction l with
 |nil=>rfl
 |cons a l ih =>
  simp only[qB8,qP9]at ih ⊢;rw[ih];cases f a<;>cases g a<;>rfl
theorem zYQ(l:List (yA))(f g:yA->Bool):orL (l.map λst=>b1 (f st)) (l.map λst=>b1 (g st))=l.map λst=>b1 (f st||g st):=by
 unfold orL
 induction l with
 |nil=>rfl
 |cons a l ih =>
  simp only[qB8,qP9]at ih ⊢;rw[ih];cases f a<;>cases g a<;>rfl
theorem zX7(r:Bool)(l:List (yA))(f g:yA->Bool):(if r then andL (l.map λst=>b1 (f st)) (l.map λst=>b1 (g st))else orL (l.map λst=>b1 (f st)) (l.map λst=>b1 (g st)))=l.map λst=>b1 (cmb r (f st) (g st)):=by
 cases r
 ·rw[if_neg qA9,zYQ];rfl
 ·rw[if_pos rfl,zXi];rfl
noncomputable def lone(sw k o:Int):Net:=⟨sw,2,[⟨0,1,k,o⟩]⟩
theorem zTd{sw k o:Int}(s1:1<=sw)(s4:sw<=4)(h:(Tr.lf k o).wf sw):(lone sw k o).g:=by obtain⟨h1,h2,h3,h4⟩:=h;refine⟨s1,s4,by show(2:Int)<=2;decide,by show(2:Int)<=7;decide,by simp[lone],λc hc=>?_⟩;simp only[lone,qB0,qD3,or_false]at hc;subst hc;exact⟨by show(0:Int)<=0;decide,by show(0:Int)<1;decide,by show(1:Int)<2;decide,h1,h2,h3,h4⟩
theorem zNY(sw k o:Int)(st:yA):zGl (lone sw k o) st=(Tr.lf k o).on st:=by
 have e:(Tr.lf k o).on st=zGk ⟨0,1,k,o⟩ st:=rfl;rw[e,qK2,zQh];constructor
 ·intro h;refine Classical.byContradiction λn=>?_;have:=h (λx=>x=0) rfl λc hc hs=>by simp only[lone,qB0,qD3,or_false]at hc;subst hc;exact absurd hs n
  cases this
 ·intro h C c0 cc;exact(cc ⟨0,1,k,o⟩ (by simp[lone]) h).mp c0
theorem zQf(sw k o:Int):funP (lone sw k o)=zGM sw (.lf k o):=by rw[zTB];unfold zGM;exact qF0 λst _=>by rw[zNY]
theorem zLK(l:List (yA))(f:yA->Bool):bts (l.map λst=>b1 (f st)):=λi hi=>by obtain⟨st,_,rfl⟩:=qD8.mp hi;unfold b1;split<;>decide
structure HTf(cl:Nat->CLL):Prop where
 f:HF cl
 ln:zDZ cl
 tf:zDb cl
 wb:zD6 cl
 we:zCx cl
theorem zRU(c:CLL){sw k o:Int}{nd fd:D}{S S1:zA0}(e1:c "lone_net" [.int sw,.tup [.str (Str.ofString "at"),.int k,.int o]] S=.ok nd S)(e2:c "function_of" [nd] S=.ok fd S1):zAo c [some (.int sw),some (.tup [.str (Str.ofString "at"),.int k,.int o]),none,none,none] S=.rt fd S1:=by simp[zAo,e1,e2]
theorem zNX(h:zDZ cl)(n:Nat)(sw k o:Int)(S:zA0):cl (n+1) "lone_net" [.int sw,(Tr.lf k o).d] S=.ok (lone sw k o).d S:=by rw[h];exact zAd rfl (by simp[zDB,zAC,Tr.d,lone,Net.d,Ct.d])
theorem tf_l(c:CLL){r:Bool}{sw:D}{X:yM}{a p b d:D}{w4:Option D}{S S1 S2:zA0}(e1:c "tree_function" [sw,p] S=.ok b S1)(e2:c (if r then "where_both" else "where_either") [a,b] S1=.ok d S2):zAt c [some sw,some (.tup [.str (kw r),.tup X]),some a,some p,w4] S=.nx [some sw,some (.tup [.str (kw r),.tup X]),some d,some p,some b] S2:=by
 cases r
 ·rw[if_neg qA9]at e2;simp[zAt,e1,zLn,e2]
 ·rw[if_pos rfl]at e2;simp[zAt,e1,zLn,e2]
theorem zRT(c:CLL){r:Bool}{sw p0 a d:D}{ps:yM}{w3 w4:Option D}{S S1 S2:zA0}(cd:cutD (p0::ps) (some 1) none=ps)(hl:ps.length<lim)(e0:c "tree_function" [sw,p0] S=.ok a S1)(e:zAx [] (gN 3) (zAt c) ps [some sw,some (.tup [.str (kw r),.tup (p0::ps)]),some a,none,none] S1=.nx [some sw,some (.tup [.str (kw r),.tup (p0::ps)]),some d,w3,w4] S2):
  zAo c [some sw,some (.tup [.str (kw r),.tup (p0::ps)]),none,none,none] S=.rt d S2:=by have i0:atI (p0::ps) 0=some p0:=zCw (j:=0) rfl;simp[zAo,zQl,i0,e0,cd,hl,e]
inductive TfI(sw:Int)(r:Bool)(X:yM)(t0:Tr)(ps:List Tr)(S0:zA0)(j:Nat)(B:Env1)(S:zA0):Prop
 |mk (w3 w4:Option D) (e:B=[some (.int sw),some (.tup [.str (kw r),.tup X]),some (zAb ((sett sw.toNat).map λst=>b1 (onF r st (t0.on st) (ps.take j)))),w3,w4]) (x:Ex S0 S)
theorem zL6(r:Bool)(st:yA):∀(ps:List Tr) (a:Bool) (t:Tr),onF r st a (ps++[t])=cmb r (onF r st a ps) (t.on st)
 |[],_,_=>rfl
 |p::ps,a,t=>zL6 r st ps (cmb r a (p.on st)) t
theorem zE2(H:HTf cl){sw:Int}(s1:1<=sw)(s4:sw<=4):∀(K:Nat) (t:Tr),t.ht<=K->t.wf sw->t.sz<=1000->∀(n:Nat) (S:zA0),Spc (cl (n+K+5) "tree_function" [.int sw,t.d] S) (zAb (zGM sw t)) S:=by
 have leaf:∀(k o:Int),(Tr.lf k o).wf sw->∀(n:Nat) (S:zA0),Spc (cl (n+5) "tree_function" [.int sw,(Tr.lf k o).d] S) (zAb (zGM sw (.lf k o))) S:=λk o hw n S=>by obtain⟨S1,e1,x1⟩:=H.f.fun n (zTd s1 s4 hw) S;rw[zQf]at e1;refine⟨S1,?_,x1⟩;rw[show n+5=(n+4)+1 from rfl,H.tf];exact zAd rfl (zRU _ (zNX H.ln (n+3) sw k o S) e1)
 intro K
 induction K with
 |zero =>
  intro t ht hw hs n S;cases t with
  |lf k o=>exact leaf k o hw n S
  |nd r ps=>simp[Tr.ht]at ht
 |succ K ih =>
  intro t ht hw hs n S;cases t with
  |lf k o=>exact leaf k o hw (n+(K+1)) S
  |nd r ps =>
   have ht':Tr.hts ps+1<=K+1:=ht;have hs':Tr.szs ps+1<=1000:=hs;have hw':2<=ps.length/\Tr.wfs sw ps:=hw;cases ps with
   |nil=>simp at hw'
   |cons t0 ps =>
    have each:∀t∈t0::ps,∀S,Spc (cl (n+K+5) "tree_function" [.int sw,t.d] S) (zAb (zGM sw t)) S:=λt hm S=>ih t (by have:=zHQ hm;omega) (zFi hw'.2 t hm) (by have:=zMW hm;omega) n S;obtain⟨S1,e1,x1⟩:=each t0 (by simp) S;obtain⟨B',S2,e2,w3,w4,hB,x2⟩:=zBQ (w:=[]) (g:=gN 3) (b:=zAt (cl (n+K+5))) (items:=ps.map Tr.d) (TfI sw r (t0.d::ps.map Tr.d) t0 ps S1) (B:=[some (.int sw),some (.tup [.str (kw r),.tup (t0.d::ps.map Tr.d)]),some (zAb (zGM sw t0)),none,none]) (S:=S1)
     (λ_ _ _ _=>zAg _) ⟨_,_,rfl,Kp.refl _ _⟩
     (λj d B S' hd hp=>by
      obtain⟨w3,w4,rfl,x⟩:=hp;rw[qC0]at hd;obtain⟨t,hj,rfl⟩:=qA2.mp hd;obtain⟨S3,e3,x3⟩:=each t (qC1 _ (qB5 hj)) S';have tj:ps.take (j+1)=ps.take j++[t]:=by rw[qQ0,hj];rfl
      have la:((sett sw.toNat).map λst=>b1 (onF r st (t0.on st) (ps.take j))).length<=16:=by rw[qA8,zC7];have:=zFn (j:=sw.toNat) (by omega);omega
      have ew:∃S4,cl (n+K+5) (if r then "where_both" else "where_either") [zAb ((sett sw.toNat).map λst=>b1 (onF r st (t0.on st) (ps.take j))),zAb (zGM sw t)] S3=.ok (zAb ((sett sw.toNat).map λst=>b1 (onF r st (t0.on st) (ps.take (j+1))))) S4/\Ex S3 S4:=by
       have q:=zX7 r (sett sw.toNat) (λst=>onF r st (t0.on st) (ps.take j)) (λst=>t.on st);have q2:((sett sw.toNat).map λst=>b1 (onF r st (t0.on st) (ps.take (j+1))))=(sett sw.toNat).map λst=>b1 (cmb r (onF r st (t0.on st) (ps.take j)) (t.on st)):=qF0 λst _=>by rw[tj,zL6]
       rw[q2,<- q];cases r
       ·obtain⟨S4,e4,x4⟩:=zEn H.we (n+K+4) la (zLK _ _) (zLK (sett sw.toNat) λst=>t.on st) S3;exact⟨S4,e4,x4⟩
       ·obtain⟨S4,e4,x4⟩:=zFh H.wb (n+K+4) la (zLK _ _) (zLK (sett sw.toNat) λst=>t.on st) S3;exact⟨S4,e4,x4⟩
      obtain⟨S4,e4,x4⟩:=ew;exact⟨_,_,rfl,_,S4,.inl (tf_l _ e3 e4),⟨_,_,rfl,(x.trans x3).trans x4⟩⟩)
    rw[qA8,qH5]at hB;subst hB;have hd:(Tr.nd r (t0::ps)).d=.tup [.str (kw r),.tup (t0.d::ps.map Tr.d)]:=by simp[Tr.d,Tr.ds,zLA]
    have hb:zGM sw (.nd r (t0::ps))=(sett sw.toNat).map λst=>b1 (onF r st (t0.on st) ps):=by unfold zGM;exact qF0 λst _=>by rw[zW1]
    have cd:cutD (t0.d::ps.map Tr.d) (some 1) none=ps.map Tr.d:=by rw[zOS _ (by decide)];rfl
    refine⟨S2,?_,x1.trans x2⟩;rw[show n+(K+1)+5=(n+K+5)+1 by omega,H.tf,hd,hb];exact zAd rfl (zRT _ cd (by rw[qA8,zB7];have:=zMX (t0::ps);simp at this;omega) e1 e2)
noncomputable def numA(a:Nat)(bs:List Bool):Nat:=bs.foldl (λn b=>2*n+b.toNat) a
theorem half(a:Nat)(x:Bool):(2*a+x.toNat) / 2=a:=by cases x<;>simp<;>omega
theorem zO6(a b:Nat)(x y:Bool):(2*a+x.toNat) &&& (2*b+y.toNat)=2*(a &&& b)+(x&&y).toNat:=by
 apply qO9;intro i;cases i with
 |zero=>cases x<;>cases y<;>simp[qR1,qO2,Nat.add_mod,qQ4]
 |succ i=>rw[qO2,qI7,qI7,qI7,half,half,half,qO2]
theorem zQd(a b:Nat)(x y:Bool):(2*a+x.toNat)||| (2*b+y.toNat)=2*(a ||| b)+(x||y).toNat:=by
 apply qO9;intro i;cases i with
 |zero=>cases x<;>cases y<;>simp[qR1,qP0,Nat.add_mod,qQ4]
 |succ i=>rw[qP0,qI7,qI7,qI7,half,half,half,qP0]
section
variable {α:Type}
theorem zNL(f g:α->Bool):∀(l:List α) (a b:Nat),numA a (l.map f) &&& numA b (l.map g)=numA (a &&& b) (l.map λs=>f s&&g s)
 |[],a,b=>rfl
 |s::l,a,b=>by show numA (2*a+(f s).toNat) (l.map f) &&& numA (2*b+(g s).toNat) (l.map g)=numA (2*(a &&& b)+(f s&&g s).toNat) _;rw[zNL f g l,zO6]
theorem zRl(f g:α->Bool):∀(l:List α) (a b:Nat),numA a (l.map f)||| numA b (l.map g)=numA (a ||| b) (l.map λs=>f s||g s)
 |[],a,b=>rfl
 |s::l,a,b=>by show numA (2*a+(f s).toNat) (l.map f)||| numA (2*b+(g s).toNat) (l.map g)=numA (2*(a ||| b)+(f s||g s).toNat) _;rw[zRl f g l,zQd]
end
theorem zNK:∀(bs cs:List Bool) (a b:Nat),bs.length=cs.length->numA a bs=numA b cs->a=b/\bs=cs
 |[],[],a,b,_,h=>⟨h,rfl⟩
 |[],c::cs,a,b,h,_=>by simp at h
 |b::bs,[],_,_,h,_=>by simp at h
 |x::bs,y::cs,a,b,hl,h=>by obtain⟨h1,h2⟩:=zNK bs cs (2*a+x.toNat) (2*b+y.toNat) (by simpa using hl) h;cases x<;>cases y<;>simp at h1 ⊢<;>first|exact⟨by omega,h2⟩| omega
theorem zLc:∀(bs:List Bool) (a:Nat),numA a bs<(a+1)*2 ^ bs.length
 |[],a=>by simp[numA]
 |x::bs,a=>by have h:=zLc bs (2*a+x.toNat);show numA (2*a+x.toNat) bs<_;refine qB2 h ?_;rw[qD4,Nat.pow_succ,Nat.mul_comm (2 ^ bs.length) 2,<- Nat.mul_assoc];exact Nat.mul_le_mul_right _ (by cases x<;>simp<;>omega)
noncomputable def litN(sw:Nat)(k o:Int):Nat:=numA 0 ((sett sw).map λst=>decide (st.getD k.toNat 0=o))
noncomputable def lits(sw:Nat):List Nat:=(List.range sw).flatMap fun(k:Nat)=>[litN sw k 0,litN sw k 1]
noncomputable def NN(sw:Nat):Nat:=2 ^ 2 ^ sw
open Classical in
noncomputable def nxt(sw:Nat)(T:List (List Nat)):List Nat:=(List.range (NN sw)).filter λz=>decide ((∀x∈T,z∉x)/\∃l,l<(T.length+1) / 2/\∃a∈T.getD l [],∃b∈T.getD (T.length - 1 - l) [],z=a &&& b∨z=a ||| b)
noncomputable def lvT(sw:Nat):Nat->List (List Nat)
 |0=>[lits sw]
 |m+1=>lvT sw m++[nxt sw (lvT sw m)]
noncomputable def lv(sw m:Nat):List Nat:=(lvT sw m).getD m []
theorem zFz(sw:Nat):∀m,(lvT sw m).length=m+1
 |0=>rfl
 |m+1=>by simp[lvT,zFz sw m]
theorem zFA(sw:Nat):∀(m i:Nat),i<=m->(lvT sw m).getD i []=lv sw i
 |0,i,h=>by
  have:i=0:=by omega
  subst this;rfl
 |m+1,i,h=>by
  by_cases hi:i=m+1
  ·subst hi;rfl
  ·have hl:=zFz sw m;show(lvT sw m++[nxt sw (lvT sw m)]).getD i []=_;rw[qG0,qA7 (by omega),<- qG0];exact zFA sw m i (by omega)
theorem zT7(sw:Nat){m:Nat}{x:List Nat}(h:x∈lvT sw m):∃i,i<=m/\x=lv sw i:=by obtain⟨i,hi,rfl⟩:=qL8 h;have hl:=zFz sw m;refine⟨i,by omega,?_⟩;rw[<- zFA sw m i (by omega),qG0,qA4 hi];rfl
theorem zZ7(sw:Nat){m i:Nat}(h:i<=m):lv sw i∈lvT sw m:=by have hl:=zFz sw m;rw[<- zFA sw m i h,qG0,qA4 (by omega)];exact qD7 _
theorem zEv(sw z:Nat):z∈lv sw 0↔z∈lits sw:=Iff.rfl
def Mde(T:Nat->List Nat)(m z:Nat):Prop:=∃l,l<(m+1) / 2/\∃a∈T l,∃b∈T (m - 1 - l),z=a &&& b∨z=a ||| b
theorem zFx(sw m z:Nat):z∈lv sw (m+1)↔z<NN sw/\(∀i,i<=m->z∉lv sw i)/\Mde (lv sw) (m+1) z:=by
 have hl:=zFz sw m;have e:lv sw (m+1)=nxt sw (lvT sw m):=by show(lvT sw m++[nxt sw (lvT sw m)]).getD (m+1) []=_;rw[qG0,qA0 (by omega),hl,qI8];rfl
 rw[e];unfold nxt Mde;rw[qF3,qF7];simp only[decide_eq_true_eq,hl];refine and_congr_right λ_=>and_congr ⟨λh i hi=>h _ (zZ7 sw hi),λh x hx=>?_⟩ ?_
 ·obtain⟨i,hi,rfl⟩:=zT7 sw hx;exact h i hi
 ·refine⟨λ⟨l,h1,h2⟩=>⟨l,h1,?_⟩,λ⟨l,h1,h2⟩=>⟨l,h1,?_⟩⟩
  ·rw[zFA sw m l (by omega),zFA sw m _ (by omega)]at h2;exact h2
  ·rw[zFA sw m l (by omega),zFA sw m _ (by omega)];exact h2
theorem zTg(sw:Nat){z:Nat}(h:z∈lits sw):z<NN sw:=by
 unfold lits at h;obtain⟨k,_,h⟩:=qN4.mp h;have g:∀o:Int,litN sw k o<NN sw:=λo=>by have:=zLc ((sett sw).map λst=>decide (st.getD (k:Int).toNat 0=o)) 0;rw[qA8,zC7]at this;simpa[litN,NN]using this
 simp at h;rcases h with rfl|rfl<;>exact g _
theorem zHD(sw:Nat):∀(m:Nat) {z:Nat},z∈lv sw m->z<NN sw
 |0,z,h=>zTg sw h
 |m+1,z,h=>((zFx sw m z).mp h).1
theorem zKf(sw:Nat){i j z:Nat}(h1:z∈lv sw i)(h2:z∈lv sw j):i=j:=by
 rcases Nat.lt_trichotomy i j with h|h|h
 ·cases j with
  |zero=>omega
  |succ j=>exact absurd h1 (((zFx sw j z).mp h2).2.1 i (by omega))
 ·exact h
 ·cases i with
  |zero=>omega
  |succ i=>exact absurd h2 (((zFx sw i z).mp h1).2.1 j (by omega))
theorem zIW{sw a b z:Nat}(ha:a<NN sw)(hb:b<NN sw)(h:z=a &&& b∨z=a ||| b):z<NN sw:=by
 rcases h with rfl|rfl
 ·exact qG2 Nat.and_le_left ha
 ·exact Nat.or_lt_two_pow ha hb
def Kn(sw m z:Nat):Prop:=∃i,i<=m/\z∈lv sw i
theorem zWq{sw m k z:Nat}(h:Kn sw m z)(hk:m<=k):Kn sw k z:=let ⟨i,hi,h⟩:=h;⟨i,by omega,h⟩
theorem zQm{sw i j a b z:Nat}(ha:Kn sw i a)(hb:Kn sw j b)(h:z=a &&& b∨z=a ||| b):Kn sw (i+j+1) z:=by
 obtain⟨i',hi,ha⟩:=ha;obtain⟨j',hj,hb⟩:=hb;refine Classical.byContradiction λhn=>?_;have hz:z<NN sw:=zIW (zHD sw _ ha) (zHD sw _ hb) h;refine hn ⟨i'+j'+1,by omega,(zFx sw _ z).mpr ⟨hz,λk hk hm=>hn ⟨k,by omega,hm⟩,?_⟩⟩;by_cases hij:i'<=j'
 ·refine⟨i',by omega,a,ha,b,?_,h⟩;rw[show i'+j'+1 - 1 - i'=j' by omega];exact hb
 ·refine⟨j',by omega,b,hb,a,?_,?_⟩
  ·rw[show i'+j'+1 - 1 - j'=i' by omega];exact ha
  ·rw[Nat.and_comm,Nat.or_comm b a];exact h
theorem zJ5{sw z:Nat}(h:z∈lits sw):Kn sw 0 z:=⟨0,qA6 _,h⟩
theorem zTp{sw a b c:Nat}(ha:a∈lits sw)(hb:b∈lits sw)(hc:c∈lits sw):Kn sw 2 (a &&& b &&& c):=zQm (zQm (zJ5 ha) (zJ5 hb) (.inl rfl)) (zJ5 hc) (.inl rfl)
noncomputable def zDJ(n x:Nat):List Nat:=(List.range n).filter λj=>x.testBit j
noncomputable def zNy(js:List Nat)(a:Nat):Nat:=js.foldl (λn j=>n ||| 2 ^ j) a
theorem zLo{sw:Nat}(hj:∀j,j<2 ^ sw->Kn sw 2 (2 ^ j)):∀(js:List Nat) (a m:Nat),(∀j∈js,j<2 ^ sw)->Kn sw m a->Kn sw (m+3*js.length) (zNy js a)
 |[],a,m,_,h=>h
 |j::js,a,m,hs,h=>by have h1:=zQm h (hj j (hs j (by simp))) (.inr rfl);have h2:=zLo hj js (a ||| 2 ^ j) (m+2+1) (λi hi=>hs i (by simp[hi])) h1;exact zWq h2 (by simp;omega)
theorem low1:∀j,j<2 ^ 1->∃a∈lits 1,∃b∈lits 1,∃c∈lits 1,2 ^ j=a &&& b &&& c:=by decide +kernel
theorem low2:∀j,j<2 ^ 2->∃a∈lits 2,∃b∈lits 2,∃c∈lits 2,2 ^ j=a &&& b &&& c:=by decide +kernel
theorem low3:∀j,j<2 ^ 3->∃a∈lits 3,∃b∈lits 3,∃c∈lits 3,2 ^ j=a &&& b &&& c:=by decide +kernel
theorem zY1:∃a∈lits 1,∃b∈lits 1,0=a &&& b:=by decide +kernel
theorem zY0:∃a∈lits 2,∃b∈lits 2,0=a &&& b:=by decide +kernel
theorem zXZ:∃a∈lits 3,∃b∈lits 3,0=a &&& b:=by decide +kernel
theorem zUK:∀x,x<256->x=zNy (zDJ 8 x) 0/\(zDJ 8 x).length<=8:=by decide +kernel
theorem zRc:∀x,x<16->x=zNy (zDJ 4 x) 0/\(zDJ 4 x).length<=4:=by decide +kernel
theorem zRd:∀x,x<4->x=zNy (zDJ 2 x) 0/\(zDJ 2 x).length<=2:=by decide +kernel
theorem zOU{sw:Nat}(hl:∀j,j<2 ^ sw->∃a∈lits sw,∃b∈lits sw,∃c∈lits sw,2 ^ j=a &&& b &&& c)(hz:∃a∈lits sw,∃b∈lits sw,0=a &&& b){x:Nat}(h:x=zNy (zDJ (2 ^ sw) x) 0/\(zDJ (2 ^ sw) x).length<=8):Kn sw 25 x:=by
 obtain⟨a,ha,b,hb,e⟩:=hz;have h0:Kn sw 1 0:=zQm (zJ5 ha) (zJ5 hb) (.inl e);have:=zLo (sw:=sw) (λj hj=>by
  obtain⟨a,ha,b,hb,c,hc,e⟩:=hl j hj;rw[e];exact zTp ha hb hc) (zDJ (2 ^ sw) x) 0 1 (λj hj=>by unfold zDJ at hj;exact qF7.mp (qF3.mp hj).1) h0
 rw[h.1];exact zWq this (by have:=h.2;omega)
theorem cov{sw x:Nat}(h1:1<=sw)(h3:sw<=3)(hx:x<NN sw):Kn sw 25 x:=by
 have:sw=1∨sw=2∨sw=3:=by omega
 rcases this with rfl|rfl|rfl
 ·exact zOU low1 zY1 ⟨(zRd x hx).1,by have:=(zRd x hx).2;exact qD0 this (by decide)⟩
 ·exact zOU low2 zY0 ⟨(zRc x hx).1,by have:=(zRc x hx).2;exact qD0 this (by decide)⟩
 ·exact zOU low3 zXZ (zUK x hx)
noncomputable def inN(z:Nat):Key:=.inl (z:Int)
def Kys(kvs:List (Key×D))(xs:List Nat):Prop:=kvs.map (·.1)=xs.map inN
theorem zHO{a b:Nat}(h:inN a=inN b):a=b:=by have:=Sum.inl.inj h;omega
theorem zOb:∀{kvs:List (Key×D)}{xs:List Nat},Kys kvs xs->∀z:Nat,(kvs.any λkv=>decide (kv.1=inN z))=decide (z∈xs)
 |[],[],_,z=>rfl
 |[],x::xs,h,z=>by simp[Kys]at h
 |p::kvs,[],h,z=>by simp[Kys]at h
 |p::kvs,x::xs,h,z=>by
  simp only[Kys,qB8,qM0.injEq]at h;rw[qH3,zOb h.2,h.1];by_cases e:x=z
  ·subst e;simp
  ·have:inN x≠inN z:=λq=>e (zHO q);simp[this,Ne.symm e]
theorem zHI:∀{kvs:List (Key×D)}{xs:List Nat},Kys kvs xs->∀z:Nat,(z∉xs->valD kvs (inN z)=none)/\(z∈xs->∃d,valD kvs (inN z)=some d/\(inN z,d)∈kvs)
 |[],[],_,z=>⟨λ_=>rfl,λh=>by cases h⟩
 |[],x::xs,h,z=>by simp[Kys]at h
 |p::kvs,[],h,z=>by simp[Kys]at h
 |p::kvs,x::xs,h,z=>by
  simp only[Kys,qB8,qM0.injEq]at h;obtain⟨h1,h2⟩:=zHI h.2 z;obtain⟨k,v⟩:=p;dsimp only at h;have e:valD ((k,v)::kvs) (inN z)=if k=inN z then some v else valD kvs (inN z):=by
   unfold valD;rw[qF4];by_cases q:k=inN z
   ·simp[q]
   ·simp[q]
  rw[e,h.1];by_cases q:x=z
  ·subst q;exact⟨λhn=>absurd (qE8 ..) hn,λ_=>⟨v,by simp,by simp⟩⟩
  ·have:inN x≠inN z:=λw=>q (zHO w);rw[if_neg this];refine⟨λhn=>h1 λhm=>hn (qC1 _ hm),λhm=>?_⟩;rcases qB0.mp hm with rfl|hm
   ·exact absurd rfl q
   ·obtain⟨d,a,b⟩:=h2 hm;exact⟨d,a,qC1 _ b⟩
noncomputable def addZ(xs:List Nat)(z:Nat):List Nat:=if z∈xs then xs else xs++[z]
theorem zCX{xs:List Nat}{z x:Nat}:x∈addZ xs z↔x∈xs∨x=z:=by
 unfold addZ;split
 ·rename_i h;exact⟨.inl,λq=>q.elim id λe=>e▸h⟩
 ·simp
theorem zHC{xs:List Nat}{z:Nat}(h:xs.Nodup):(addZ xs z).Nodup:=by
 unfold addZ;split
 ·exact h
 ·rename_i hz;rw[qI1];refine⟨h,by simp,λa ha b hb=>?_⟩;simp at hb;subst hb;exact λe=>hz (e▸ha)
theorem zHJ{kvs:List (Key×D)}{xs:List Nat}(h:Kys kvs xs)(z:Nat)(d:D):Kys (putD kvs (inN z) d) (addZ xs z)/\∀p∈putD kvs (inN z) d,p∈kvs∨p=(inN z,d):=by
 unfold putD addZ;rw[zOb h];by_cases hz:z∈xs
 ·rw[if_pos (by simpa using hz),if_pos hz];refine⟨?_,λp hp=>?_⟩
  ·unfold Kys at h ⊢;rw[<- h,qD2];refine qF0 λq _=>?_;show(if q.1=inN z then(q.1,d)else q).1=q.1;split<;>rfl
  ·obtain⟨q,hq,rfl⟩:=qD8.mp hp;by_cases e:q.1=inN z
   ·rw[if_pos e,e];exact .inr rfl
   ·rw[if_neg e];exact .inl hq
 ·rw[if_neg (by simpa using hz),if_neg hz];refine⟨by unfold Kys at h ⊢;rw[qE1,qE1,h];rfl,λp hp=>?_⟩;rcases qB9.mp hp with q|q
  ·exact .inl q
  ·simp at q;exact .inr q
theorem zDk{kvs:List (Key×D)}{xs:List Nat}(h:Kys kvs xs):kvs.length=xs.length:=by have:=congrArg qK5 h;simpa using this
theorem zHK:∀{more kvs:List (Key×D)}{ms xs:List Nat},Kys more ms->Kys kvs xs->∃ys,Kys (mrgD kvs more) ys/\(∀z,z∈ys↔z∈xs∨z∈ms)/\(xs.Nodup->ys.Nodup)
 |[],kvs,ms,xs,h,g=>by
  have:ms=[]:=by cases ms with|nil=>rfl|cons a b=>simp[Kys]at h
  subst this;exact⟨xs,g,by simp,id⟩
 |p::more,kvs,[],xs,h,g=>by simp[Kys]at h
 |p::more,kvs,m::ms,xs,h,g=>by
  simp only[Kys,qB8,qM0.injEq]at h;obtain⟨ys,y1,y2,y3⟩:=zHK (more:=more) (kvs:=putD kvs (inN m) p.2) h.2 (zHJ g m p.2).1;refine⟨ys,?_,λz=>?_,λhn=>y3 (zHC hn)⟩
  ·show Kys (mrgD (putD kvs p.1 p.2) more) ys;rw[h.1];exact y1
  ·rw[y2,zCX,qB0];constructor
   ·rintro((h|h)| h)
    ·exact .inl h
    ·exact .inr (.inl h)
    ·exact .inr (.inr h)
   ·rintro(h|h|h)
    ·exact .inl (.inl h)
    ·exact .inl (.inr h)
    ·exact .inr h
theorem zOa:∀{kvs:List (Key×D)}{xs:List Nat},Kys kvs xs->(kvs.map λp=>kD p.1)=xs.map λz=>D.int ((z:Nat):Int)
 |kvs,xs,h=>by
  have:(kvs.map λp=>kD p.1)=(kvs.map (·.1)).map kD:=by rw[qD2];rfl
  rw[this,h,qD2];rfl
theorem zJp{S:zA0}{m:Nat}{kvs:List (Key×D)}(h:dkAt S m=some kvs)(z:Nat):dictAt S m (.int z)=some (valD kvs (inN z)):=by
 unfold dkAt at h;unfold dictAt;split at h
 ·rename_i e;cases h;first|rfl|(rw[e];rfl)
 ·rename_i e;cases h;first|rfl|(rw[e];rfl)
 ·cases h
theorem zLa{S:zA0}{m:Nat}{kvs:List (Key×D)}{xs:List Nat}(h:dkAt S m=some kvs)(hk:Kys kvs xs)(neg:Bool)(z:Nat):oIn neg (.int z) (.dct m) S=.ok (.bl (if neg then !decide (z∈xs)else decide (z∈xs))) S:=by
 show(match dictAt S m (.int z)with|some o=>R.ok (D.bl (if neg then !o.isSome else o.isSome)) S|none=>.bad)=_;rw[zJp h];dsimp only;by_cases hz:z∈xs
 ·obtain⟨d,e,_⟩:=(zHI hk z).2 hz;rw[e];simp[hz]
 ·rw[(zHI hk z).1 hz];simp[hz]
theorem zNH{S:zA0}{m:Nat}{kvs:List (Key×D)}{xs:List Nat}(h:dkAt S m=some kvs)(hk:Kys kvs xs){z:Nat}(hz:z∈xs):∃d,oIx (.dct m) (.int z) S=.ok d S/\(inN z,d)∈kvs:=by obtain⟨d,e,q⟩:=(zHI hk z).2 hz;refine⟨d,?_,q⟩;show(match dictAt S m (.int z)with|some (some d)=>R.ok d S|_=>.bad)=_;rw[zJp h,e]
theorem zK9{S:zA0}{m:Nat}{kvs:List (Key×D)}(h:S[m]?=some (.dk kvs))(hl:kvs.length<lim)(z:Nat)(d:D):oSet (.dct m) (.int z) d S=some (S.set m (.dk (putD kvs (inN z) d))):=by unfold oSet;dsimp only;rw[h];show(if kvs.length<lim then some (S.set m (.dk (putD kvs (.inl (z:Int)) d)))else none)=_;rw[if_pos hl];rfl
theorem zEA{S:zA0}{m:Nat}{kvs:List (Key×D)}(h:S[m]?=some (.dk kvs)):dkAt S m=some kvs:=by unfold dkAt;rw[h]
theorem zOz{S:zA0}{m:Nat}{kvs:List (Key×D)}(h:S[m]?=some (.fk kvs)):dkAt S m=some kvs:=by unfold dkAt;rw[h]
theorem zDo{P:Nat->Prop}{S S':zA0}(h:Kp P S S'){m:Nat}{kvs:List (Key×D)}(e:dkAt S m=some kvs)(n:¬P m):dkAt S' m=some kvs:=by
 unfold dkAt at e ⊢;split at e
 ·rename_i q;rw[h.at q n];exact e
 ·rename_i q;rw[h.at q n];exact e
 ·cases e
theorem zTN{S:zA0}{m:Nat}{kvs:List (Key×D)}(e:dkAt S m=some kvs):m<S.length:=by
 unfold dkAt at e;split at e
 ·rename_i q;exact(qA3.mp q).1
 ·rename_i q;exact(qA3.mp q).1
 ·cases e
theorem zOo{c:C}{B:Env1}{S:zA0}{m:Nat}{kvs:List (Key×D)}{xs:List Nat}(hc:c B S=.ok (.dct m) S)(h:dkAt S m=some kvs)(hk:Kys kvs xs):∃S1,iSeq c B S=.ok (xs.map λz=>D.int ((z:Nat):Int),[]) S1/\Kp (·=m) S S1/\dkAt S1 m=some kvs/\S1.length=S.length:=by
 unfold dkAt at h;rw[zTw,hc];split at h
 ·rename_i e;cases h;refine⟨S.set m (.fk kvs),?_,zCr S _,zOz (qC8 (qA3.mp e).1),by simp⟩;simp only[zAj,e,zOa hk]
 ·rename_i e;cases h;refine⟨S,?_,Kp.refl _ _,zOz e,rfl⟩;simp only[zAj,e,zOa hk]
 ·cases h
theorem zBR{α Z:Type}(e:α->D)(f:Z->α->Z)(P:Z->Env1->zA0->Prop){w:zD5}{g:G}{b:CS}(hw:∀s B S,P s B S->okW w S):∀(l:List α) {s:Z}{B:Env1}{S:zA0},P s B S->(∀s a B S,a∈l->P s B S->zIs g b (e a) B S (P (f s a)))->zKQ (zAx w g b (l.map e) B S) (P (l.foldl f s))
 |[],s,B,S,h0,hs=>⟨B,S,by rw[qJ7];unfold zAx;rw[if_pos (hw s B S h0)],h0⟩
 |a::l,s,B,S,h0,hs=>by
  obtain⟨B1,S1,e1,B2,S2,e2,p2⟩:=hs s a B S (by simp) h0;obtain⟨B',S',e3,p3⟩:=zBR e f P hw l p2 λs a B S ha=>hs s a B S (by simp[ha]);refine⟨B',S',?_,p3⟩;rw[qB8];unfold zAx;rw[if_pos (hw s B S h0),e1];dsimp only;rcases e2 with e2|e2
  ·rw[e2];exact e3
  ·rw[e2];exact e3
theorem zHi(a b:Nat):jL a b=((a &&& b:Nat):Int):=rfl
theorem zJJ(a b:Nat):vJ a b=((a ||| b:Nat):Int):=by
 have n1:∀x:Int,wX (wX x)=x:=λx=>by unfold wX;omega
 have n2:∀x:Nat,decide (0<=wX (x:Int))=false:=λx=>by rw[decide_eq_false_iff_not];unfold wX;omega
 unfold vJ jL;rw[n2,n2];dsimp only;rw[n1,n1,n1];rfl
theorem zDH:∀(n:Nat) {l:List Nat},l.Nodup->(∀z∈l,z<n)->l.length<=n
 |0,l,_,h=>by
  cases l with
  |nil=>simp
  |cons a r=>exact absurd (h a (by simp)) (qO0 _)
 |n+1,l,nd,h=>by
  by_cases hn:n∈l
  ·have h1:(l.erase n).length<=n:=zDH n (nd.erase n) λz hz=>by
    have h2:=h z (List.mem_of_mem_erase hz);have h3:z≠n:=λe=>by subst e;exact(List.Nodup.not_mem_erase nd) hz
    omega
   rw[qM9 hn]at h1;omega
  ·have h1:l.length<=n:=zDH n nd λz hz=>by have h2:=h z hz;have h3:z≠n:=λe=>hn (e▸hz);omega
   omega
noncomputable def addN(xk acc:List Nat)(z:Nat):List Nat:=if z∈xk then acc else addZ acc z
theorem zLg{xk acc:List Nat}{z x:Nat}:x∈addN xk acc z↔x∈acc∨(x=z/\z∉xk):=by
 unfold addN;split
 ·rename_i h;exact⟨.inl,λq=>q.elim id λe=>absurd h e.2⟩
 ·rename_i h;rw[zCX];simp[h]
noncomputable def twoN(xk:List Nat)(a:Nat)(acc:List Nat)(b:Nat):List Nat:=addN xk (addN xk acc (a &&& b)) (a ||| b)
noncomputable def allN(xk x1 x2 acc:List Nat):List Nat:=x1.foldl (λs a=>x2.foldl (twoN xk a) s) acc
theorem zNT{xk:List Nat}{a:Nat}:∀{x2 acc:List Nat}{x:Nat},x∈x2.foldl (twoN xk a) acc↔x∈acc∨(x∉xk/\∃b∈x2,x=a &&& b∨x=a ||| b)
 |[],acc,x=>by simp
 |b::x2,acc,x=>by
  rw[qL7,zNT,twoN,zLg,zLg];constructor
  ·rintro(((h|⟨rfl,h⟩)| ⟨rfl,h⟩)| ⟨h,c,hc,q⟩)
   ·exact .inl h
   ·exact .inr ⟨h,b,by simp,.inl rfl⟩
   ·exact .inr ⟨h,b,by simp,.inr rfl⟩
   ·exact .inr ⟨h,c,by simp[hc],q⟩
  ·rintro(h|⟨h,c,hc,q⟩)
   ·exact .inl (.inl (.inl h))
   ·rcases qB0.mp hc with rfl|hc
    ·rcases q with rfl|rfl
     ·exact .inl (.inl (.inr ⟨rfl,h⟩))
     ·exact .inl (.inr ⟨rfl,h⟩)
    ·exact .inr ⟨h,c,hc,q⟩
theorem zKe{xk x2:List Nat}:∀{x1 acc:List Nat}{x:Nat},x∈allN xk x1 x2 acc↔x∈acc∨(x∉xk/\∃a∈x1,∃b∈x2,x=a &&& b∨x=a ||| b)
 |[],acc,x=>by simp[allN]
 |a::x1,acc,x=>by
  have ih:=zKe (xk:=xk) (x2:=x2) (x1:=x1) (acc:=x2.foldl (twoN xk a) acc) (x:=x);unfold allN at ih ⊢;rw[qL7,ih,zNT];constructor
  ·rintro((h|⟨h,q⟩)| ⟨h,c,hc,q⟩)
   ·exact .inl h
   ·exact .inr ⟨h,a,by simp,q⟩
   ·exact .inr ⟨h,c,by simp[hc],q⟩
  ·rintro(h|⟨h,c,hc,q⟩)
   ·exact .inl (.inl h)
   ·rcases qB0.mp hc with rfl|hc
    ·exact .inl (.inr ⟨h,q⟩)
    ·exact .inr ⟨h,c,hc,q⟩
inductive AM(S0:zA0)(L n1 n2 nk:Nat)(k1 k2 kk:List (Key×D))(V:Nat->D->Prop)(acc:List Nat)(S:zA0):Prop
 |mk (kl:List (Key×D)) (hL:S[L]?=some (.dk kl)) (ky:Kys kl acc) (v:∀z d,(inN z,d)∈kl->V z d) (nd:acc.Nodup) (bd:∀z∈acc,z<256) (h1:dkAt S n1=some k1) (h2:dkAt S n2=some k2) (hk:dkAt S nk=some kk) (kp:Kp (λj=>j=L∨j=n1∨j=n2) S0 S)
structure AH(L n1 n2 nk:Nat)(k1 k2 kk:List (Key×D))(x1 x2 xk:List Nat)(V1 V2 V:Nat->D->Prop):Prop where
 l1:n1≠L
 l2:n2≠L
 lk:nk≠L
 ky1:Kys k1 x1
 ky2:Kys k2 x2
 kyk:Kys kk xk
 b1:∀z∈x1,z<256
 b2:∀z∈x2,z<256
 v1:∀z d,(inN z,d)∈k1->V1 z d
 v2:∀z d,(inN z,d)∈k2->V2 z d
 va:∀a b d e,V1 a d->V2 b e->V (a &&& b) (.tup [.str (Str.ofString "row"),.tup [d,e]])
 vo:∀a b d e,V1 a d->V2 b e->V (a ||| b) (.tup [.str (Str.ofString "side"),.tup [d,e]])
section
variable {S0:zA0}{L n1 n2 nk:Nat}{k1 k2 kk:List (Key×D)}{x1 x2 xk:List Nat}{V1 V2 V:Nat->D->Prop}
theorem AM.put{acc:List Nat}{S:zA0}(h:AM S0 L n1 n2 nk k1 k2 kk V acc S)(H:AH L n1 n2 nk k1 k2 kk x1 x2 xk V1 V2 V){z:Nat}(hz:z<256){d:D}(hv:V z d)(hk:z∉xk):∃S1,oSet (.dct L) (.int z) d S=some S1/\AM S0 L n1 n2 nk k1 k2 kk V (addN xk acc z) S1:=by
 obtain⟨kl,hL,ky,v,nd,bd,h1,h2,hkk,kp⟩:=h;have hl:kl.length<lim:=by rw[zDk ky];exact qG2 (zDH 256 nd bd) (by decide)
 have hlt:L<S.length:=(qA3.mp hL).1;have ks:=zCr (i:=L) S (.dk (putD kl (inN z) d));obtain⟨p1,p2⟩:=zHJ ky z d;have ea:addN xk acc z=addZ acc z:=by unfold addN;rw[if_neg hk]
 rw[ea];refine⟨_,zK9 hL hl z d,putD kl (inN z) d,qC8 hlt,p1,λy e hm=>?_,zHC nd,λy hy=>?_,zDo ks h1 H.l1,zDo ks h2 H.l2,zDo ks hkk H.lk,kp.trans (ks.mono λj _ e=>.inl e)⟩
 ·rcases p2 _ hm with q|q
  ·exact v y e q
  ·have q1:=zHO (congrArg Prod.fst q);have q2:e=d:=congrArg Prod.snd q;rw[q1,q2];exact hv
 ·rcases zCX.mp hy with q|rfl
  ·exact bd y q
  ·exact hz
noncomputable def amE(L n1 n2 nk:Nat)(w4 w5 w6 w7:Option D):Env1:=[some (.dct L),some (.dct n1),some (.dct n2),some (.dct nk),w4,w5,w6,w7]
theorem zWo(c:CLL){w4 w5 w6:Option D}{z:Int}{S:zA0}{p q:Bool}(e1:oIn true (.int z) (.dct nk) S=.ok (.bl p) S)(e2:oIn true (.int z) (.dct L) S=.ok (.bl q) S)(h:(p&&q)=false):zBg c (amE L n1 n2 nk w4 w5 w6 (some (.int z))) S=.nx (amE L n1 n2 nk w4 w5 w6 (some (.int z))) S:=by cases p<;>cases q<;>simp[amE]at h ⊢<;>simp[zBg,e1,e2]
theorem zWm(c:CLL){x y z:Int}{κ:Str}{d e:D}{S S1:zA0}(e1:oIn true (.int z) (.dct nk) S=.ok (.bl true) S)(e2:oIn true (.int z) (.dct L) S=.ok (.bl true) S)(e3:oIx (.dct n1) (.int x) S=.ok d S)(e4:oIx (.dct n2) (.int y) S=.ok e S)(e5:oSet (.dct L) (.int z) (.tup [.str κ,.tup [d,e]]) S=some S1):zBg c (amE L n1 n2 nk (some (.int x)) (some (.int y)) (some (.str κ)) (some (.int z))) S=.nx (amE L n1 n2 nk (some (.int x)) (some (.int y)) (some (.str κ)) (some (.int z))) S1:=by simp[amE,zBg,e1,e2,e3,e4,e5]
theorem zJ2(c:CLL)(H:AH L n1 n2 nk k1 k2 kk x1 x2 xk V1 V2 V){acc:List Nat}{S:zA0}(h:AM S0 L n1 n2 nk k1 k2 kk V acc S){a b z:Nat}(ha:a∈x1)(hb:b∈x2){κ:Str}(hz:z<256)(hv:∀d e,V1 a d->V2 b e->V z (.tup [.str κ,.tup [d,e]]))(w6 w7:Option D):
  zIs (gT [(gN 6),(gN 7)]) (zBg c) (.tup [.str κ,.int (z:Nat)]) (amE L n1 n2 nk (some (.int (a:Nat))) (some (.int (b:Nat))) w6 w7) S (fun B S1=>∃w6 w7,B=amE L n1 n2 nk (some (.int (a:Nat))) (some (.int (b:Nat))) w6 w7/\AM S0 L n1 n2 nk k1 k2 kk V (addN xk acc z) S1):=by
 have h':=h;obtain⟨kl,hL,ky,v,nd,bd,h1,h2,hkk,kp⟩:=h';have e1:=zLa hkk H.kyk true z;have e2:=zLa (zEA hL) ky true z;refine⟨amE L n1 n2 nk (some (.int (a:Nat))) (some (.int (b:Nat))) (some (.str κ)) (some (.int (z:Nat))),S,by simp[amE],?_⟩;by_cases hk:z∈xk
 ·refine⟨_,_,.inl (zWo c e1 e2 (by simp[hk])),_,_,rfl,?_⟩;unfold addN;rw[if_pos hk];exact h
 by_cases ha':z∈acc
 ·refine⟨_,_,.inl (zWo c e1 e2 (by simp[ha'])),_,_,rfl,?_⟩;unfold addN addZ;rw[if_neg hk,if_pos ha'];exact h
 ·obtain⟨d,q3,m3⟩:=zNH h1 H.ky1 ha;obtain⟨e,q4,m4⟩:=zNH h2 H.ky2 hb;obtain⟨S1,q5,h5⟩:=h.put H hz (hv d e (H.v1 _ _ m3) (H.v2 _ _ m4)) hk;exact⟨_,S1,.inl (zWm c (by simpa[hk]using e1) (by simpa[ha']using e2) q3 q4 q5),_,_,rfl,h5⟩
theorem zQa(c:CLL)(H:AH L n1 n2 nk k1 k2 kk x1 x2 xk V1 V2 V){acc:List Nat}{S:zA0}(h:AM S0 L n1 n2 nk k1 k2 kk V acc S){a b:Nat}(ha:a∈x1)(hb:b∈x2)(w6 w7:Option D):
  zKQ (zD3 c (amE L n1 n2 nk (some (.int (a:Nat))) (some (.int (b:Nat))) w6 w7) S) (fun B S1=>∃w6 w7,B=amE L n1 n2 nk (some (.int (a:Nat))) (some (.int (b:Nat))) w6 w7/\AM S0 L n1 n2 nk k1 k2 kk V (twoN xk a acc b) S1):=by
 have A:=H.b1 a ha;have BB:=H.b2 b hb;have lt:∀z,z=a &&& b∨z=a ||| b->z<256:=λz h=>zIW (sw:=3) A BB h;obtain⟨B',S',e,p⟩:=zBR (λp:Str×Nat=>D.tup [.str p.1,.int (p.2:Nat)]) (λs p=>addN xk s p.2) (λs B S1=>∃w6 w7,B=amE L n1 n2 nk (some (.int (a:Nat))) (some (.int (b:Nat))) w6 w7/\AM S0 L n1 n2 nk k1 k2 kk V s S1) (w:=[]) (g:=gT [(gN 6),(gN 7)]) (b:=zBg c) (λ_ _ S _=>zAg S) [(Str.ofString "row",a &&& b),(Str.ofString "side",a ||| b)] (s:=acc) ⟨w6,w7,rfl,h⟩ (λs p B S hp hs=>by
  obtain⟨w6,w7,rfl,hs⟩:=hs;simp at hp;rcases hp with rfl|rfl
  ·exact zJ2 c H hs ha hb (lt _ (.inl rfl)) (λd e=>H.va a b d e) w6 w7
  ·exact zJ2 c H hs ha hb (lt _ (.inr rfl)) (λd e=>H.vo a b d e) w6 w7)
 refine⟨B',S',?_,p⟩;have i1:iSeq (cTup (zA2 [(cTup (zA2 [(cCon (.str (Str.ofString "row"))),(cBin (oInt jL) (cVar 4) (cVar 5))])),(cTup (zA2 [(cCon (.str (Str.ofString "side"))),(cBin (oInt vJ) (cVar 4) (cVar 5))]))])) (amE L n1 n2 nk (some (.int (a:Nat))) (some (.int (b:Nat))) w6 w7) S=.ok ([(Str.ofString "row",a &&& b),(Str.ofString "side",a ||| b)].map (λp:Str×Nat=>D.tup [.str p.1,.int (p.2:Nat)]),[]) S:=by simp[amE,zJJ,zHi]
 unfold zD3;rw[zCW,zHw,i1];show sb (zAx [] _ _ _ _ S) zA4 .mk=_;rw[e];rfl
theorem AM.froze{acc:List Nat}{S S1:zA0}(h:AM S0 L n1 n2 nk k1 k2 kk V acc S)(H:AH L n1 n2 nk k1 k2 kk x1 x2 xk V1 V2 V){m:Nat}(hm:m=n1∨m=n2)(kp:Kp (·=m) S S1){ks:List (Key×D)}(hs:dkAt S m=some ks)(hs1:dkAt S1 m=some ks):AM S0 L n1 n2 nk k1 k2 kk V acc S1:=by
 obtain⟨kl,hL,ky,v,nd,bd,h1,h2,hkk,kp0⟩:=h;have go:∀{j:Nat}{ks':List (Key×D)},dkAt S j=some ks'->dkAt S1 j=some ks':=λ{j ks'} hj=>by
  by_cases e:j=m
  ·subst e;rw[hs]at hj;cases hj;exact hs1
  ·exact zDo kp hj e
 refine⟨kl,kp.at hL (λe=>?_),ky,v,nd,bd,go h1,go h2,go hkk,kp0.trans (kp.mono λj _ e=>?_)⟩
 ·rcases hm with q|q
  ·exact H.l1 (q▸e.symm)
  ·exact H.l2 (q▸e.symm)
 ·rcases hm with q|q
  ·exact .inr (.inl (e.trans q))
  ·exact .inr (.inr (e.trans q))
theorem zQb(c:CLL)(H:AH L n1 n2 nk k1 k2 kk x1 x2 xk V1 V2 V){acc:List Nat}{S:zA0}(h:AM S0 L n1 n2 nk k1 k2 kk V acc S){a:Nat}(ha:a∈x1)(w5 w6 w7:Option D):
  zKQ (zD4 c (amE L n1 n2 nk (some (.int (a:Nat))) w5 w6 w7) S) (fun B S1=>∃w5 w6 w7,B=amE L n1 n2 nk (some (.int (a:Nat))) w5 w6 w7/\AM S0 L n1 n2 nk k1 k2 kk V (x2.foldl (twoN xk a) acc) S1):=by
 have h2:dkAt S n2=some k2:=by obtain⟨_,_,_,_,_,_,_,h2,_,_⟩:=h;exact h2
 obtain⟨S1,i1,kp,d1,_⟩:=zOo (c:=cVar 2) (B:=amE L n1 n2 nk (some (.int (a:Nat))) w5 w6 w7) (by simp[amE]) h2 H.ky2;have g1:=h.froze H (.inr rfl) kp h2 d1;obtain⟨B',S',e,p⟩:=zBR (λz:Nat=>D.int (z:Nat)) (twoN xk a) (λs B S1=>∃w5 w6 w7,B=amE L n1 n2 nk (some (.int (a:Nat))) w5 w6 w7/\AM S0 L n1 n2 nk k1 k2 kk V s S1) (w:=[]) (g:=gN 5) (b:=zD3 c) (λ_ _ S _=>zAg S) x2 (s:=acc) ⟨w5,w6,w7,rfl,g1⟩ (λs b B S hb hs=>by
  obtain⟨w5,w6,w7,rfl,hs⟩:=hs;obtain⟨B1,S1,e1,w6',w7',rfl,p1⟩:=zQa c H hs ha hb w6 w7;exact⟨amE L n1 n2 nk (some (.int (a:Nat))) (some (.int (b:Nat))) w6 w7,S,by simp[amE],_,S1,.inl e1,_,_,_,rfl,p1⟩)
 refine⟨B',S',?_,p⟩;unfold zD4;rw[zCW,zHw,i1];show sb (zAx [] _ _ _ _ S1) zA4 .mk=_;rw[e];rfl
theorem zIq(hm:zBM cl)(n:Nat)(H:AH L n1 n2 nk k1 k2 kk x1 x2 xk V1 V2 V){acc:List Nat}{S:zA0}(h:AM S0 L n1 n2 nk k1 k2 kk V acc S):∃S1,cl (n+1) "add_made" [.dct L,.dct n1,.dct n2,.dct nk] S=.ok .non S1/\AM S0 L n1 n2 nk k1 k2 kk V (allN xk x1 x2 acc) S1:=by
 have h1:dkAt S n1=some k1:=by obtain⟨_,_,_,_,_,_,h1,_,_,_⟩:=h;exact h1
 obtain⟨S1,i1,kp,d1,_⟩:=zOo (c:=cVar 1) (B:=amE L n1 n2 nk none none none none) (by simp[amE]) h1 H.ky1;have g1:=h.froze H (.inl rfl) kp h1 d1;obtain⟨B',S',e,w4,w5,w6,w7,rfl,p⟩:=zBR (λz:Nat=>D.int (z:Nat)) (λs a=>x2.foldl (twoN xk a) s) (λs B S1=>∃w4 w5 w6 w7,B=amE L n1 n2 nk w4 w5 w6 w7/\AM S0 L n1 n2 nk k1 k2 kk V s S1) (w:=[]) (g:=gN 4) (b:=zD4 (cl n)) (λ_ _ S _=>zAg S) x1 (s:=acc) ⟨none,none,none,none,rfl,g1⟩ (λs a B S ha hs=>by
  obtain⟨w4,w5,w6,w7,rfl,hs⟩:=hs;obtain⟨B1,S1,e1,w5',w6',w7',rfl,p1⟩:=zQb (cl n) H hs ha w5 w6 w7;exact⟨amE L n1 n2 nk (some (.int (a:Nat))) w5 w6 w7,S,by simp[amE],_,S1,.inl e1,_,_,_,_,rfl,p1⟩)
 refine⟨S',?_,p⟩;rw[hm];refine zVd (B:=amE L n1 n2 nk w4 w5 w6 w7) rfl ?_;show zCV (cl n) (amE L n1 n2 nk none none none none) S=_;unfold zCV;rw[zCW,zHw,i1];show sb (zAx [] _ _ _ _ S1) zA4 .mk=_;rw[e];rfl
end
theorem zKV{S:zA0}{n:Nat}{o:O}(h:S[n]?=some o)(ho:(match o with|.dk _=>true|.dt _=>true|_=>false)=true):tyOk "dict" (.dct n) S=true:=by show(decide ("dict" = "dict")&&(match S[n]? with|some (.dk _)=>true|some (.dt _)=>true|_=>false))=true;rw[h];cases o<;>first|rfl|cases ho
def VT(sw i z:Nat)(d:D):Prop:=∃t:Tr,d=t.d/\t.wf (sw:Int)/\t.lv=i+1/\t.ht<=i/\z=numA 0 ((sett sw).map t.on)
theorem zUk(r:Bool){sw i j a b m:Nat}{d e:D}(hm:i+j+1=m)(h1:VT sw i a d)(h2:VT sw j b e):VT sw m (if r then a &&& b else a ||| b) (.tup [.str (kw r),.tup [d,e]]):=by
 obtain⟨t,rfl,w1,l1,t1,rfl⟩:=h1;obtain⟨u,rfl,w2,l2,t2,rfl⟩:=h2;refine⟨.nd r [t,u],rfl,⟨by simp,w1,w2,trivial⟩,?_,?_,?_⟩
 ·show t.lv+(u.lv+0)=m+1;omega
 ·show max t.ht (max u.ht 0)+1<=m;omega
 ·cases r
  ·rw[if_neg qA9,zRl];show numA 0 _=_;congr 1;refine qF0 λst _=>?_;simp[Tr.on,Tr.onO]
  ·rw[if_pos rfl,zNL];show numA 0 _=_;congr 1;refine qF0 λst _=>?_;simp[Tr.on,Tr.onA]
inductive LvA(sw i:Nat)(S:zA0)(id:Nat):Prop
 |mk (ks:List (Key×D)) (xs:List Nat) (h:dkAt S id=some ks) (ky:Kys ks xs) (s:∀z,z∈xs↔z∈lv sw i) (nd:xs.Nodup) (v:∀z d,(inN z,d)∈ks->VT sw i z d)
def LvS(sw:Nat)(S:zA0)(ids:List Nat):Prop:=∀i id,ids[i]?=some id->LvA sw i S id
theorem LvA.kp{sw i:Nat}{S S1:zA0}{id:Nat}(h:LvA sw i S id){P:Nat->Prop}(kp:Kp P S S1)(n:¬P id):LvA sw i S1 id:=by obtain⟨ks,xs,h,a,b,c,d⟩:=h;exact⟨ks,xs,zDo kp h n,a,b,c,d⟩
theorem LvA.lt{sw i:Nat}{S:zA0}{id:Nat}(h:LvA sw i S id):id<S.length:=by obtain⟨ks,xs,h,_⟩:=h;exact zTN h
theorem zW5{sw:Nat}(h:sw<=3):NN sw<=256:=by
 have:sw=0∨sw=1∨sw=2∨sw=3:=by omega
 rcases this with rfl|rfl|rfl|rfl<;>decide
theorem zFy{sw i z:Nat}(h3:sw<=3)(h:z∈lv sw i):z<256:=qB2 (zHD sw i h) (zW5 h3)
noncomputable def flE(k:Nat)(w1 w2 w3 w4:Option D):Env1:=[some (.lst k),w1,w2,w3,w4]
inductive KnS(sw j nk:Nat)(S1 S:zA0):Prop
 |mk (kk:List (Key×D)) (yk:List Nat) (h:S[nk]?=some (.dk kk)) (ky:Kys kk yk) (s:∀z,z∈yk↔∃i,i<j/\z∈lv sw i) (nd:yk.Nodup) (kp:Kp (·=nk) S1 S)
theorem zTo(c:CLL){sw j nk k id:Nat}{S1 S:zA0}(h3:sw<=3)(h:KnS sw j nk S1 S)(hv:LvA sw j S1 id)(hn:id≠nk)(w2:Option D):zIs (gN 2) (zAE c) (.dct id) (flE k (some (.dct nk)) w2 none none) S (fun B S'=>(∃w2,B=flE k (some (.dct nk)) w2 none none)/\KnS sw (j+1) nk S1 S'):=by
 obtain⟨kk,yk,hk,ky,s,nd,kp⟩:=h;obtain⟨ks,xs,q1,q2,q3,q4,q5⟩:=hv.kp kp hn;obtain⟨ys,y1,y2,y3⟩:=zHK q2 ky;have l1:kk.length<=256:=by rw[zDk ky];refine zDH 256 nd λz hz=>?_;obtain⟨i,_,hi⟩:=(s z).mp hz;exact zFy h3 hi
 have l2:ks.length<=256:=by rw[zDk q2];exact zDH 256 q4 λz hz=>zFy h3 ((q3 z).mp hz)
 have e:mUpd (.dct nk) [.dct id] S=.ok .non (S.set nk (.dk (mrgD kk ks))):=by unfold mUpd;dsimp only;rw[hk,q1];dsimp only;rw[if_pos ⟨λz=>hn z.symm,qD0 (qS0 l1 l2) (by decide)⟩]
 have ty:=zKV hk rfl;refine⟨flE k (some (.dct nk)) (some (.dct id)) none none,S,by simp[flE],flE k (some (.dct nk)) (some (.dct id)) none none,S.set nk (.dk (mrgD kk ks)),.inl ?_,⟨_,rfl⟩,mrgD kk ks,ys,qC8 (qA3.mp hk).1,y1,λz=>?_,y3 nd,kp.trans (zCr S _)⟩
 ·simp[zAE,flE,ty,e]
 ·rw[y2,s,q3];constructor
  ·rintro(⟨i,hi,h⟩| h)
   ·exact⟨i,by omega,h⟩
   ·exact⟨j,by omega,h⟩
  ·rintro⟨i,hi,h⟩;by_cases e:i=j
   ·subst e;exact .inr h
   ·exact .inl ⟨i,by omega,h⟩
inductive GrS(sw m j L nk:Nat)(kk:List (Key×D))(yk:List Nat)(ids:List Nat)(S3 S:zA0):Prop
 |mk (kl:List (Key×D)) (acc:List Nat) (hL:S[L]?=some (.dk kl)) (ky:Kys kl acc) (v:∀z d,(inN z,d)∈kl->VT sw m z d) (nd:acc.Nodup) (bd:∀z∈acc,z<256) (s:∀z,z∈acc↔z∉yk/\∃l,l<j/\∃a∈lv sw l,∃b∈lv sw (m - 1 - l),z=a &&& b∨z=a ||| b) (hk:dkAt S nk=some kk) (lvs:LvS sw S ids) (kp:Kp (λi=>i=L∨i∈ids) S3 S)
theorem zTz(hm:zBM cl)(n:Nat){sw m j L nk:Nat}{kk:List (Key×D)}{yk ids:List Nat}{S3 S:zA0}(h3:sw<=3)(hyk:Kys kk yk)(hl:ids.length=m)(hL:L∉ids)(hnk:nk≠L)(hj:j<(m+1) / 2)(h:GrS sw m j L nk kk yk ids S3 S){n1 n2:Nat}(i1:ids[j]?=some n1)(i2:ids[m - 1 - j]?=some n2):∃S1,cl (n+1) "add_made" [.dct L,.dct n1,.dct n2,.dct nk] S=.ok .non S1/\GrS sw m (j+1) L nk kk yk ids S3 S1:=by
 obtain⟨kl,acc,hLs,ky,v,nd,bd,s,hk,lvs,kp⟩:=h;obtain⟨k1,x1,a1,a2,a3,a4,a5⟩:=lvs _ _ i1;obtain⟨k2,x2,b1,b2,b3,b4,b5⟩:=lvs _ _ i2;have m1:=qB5 i1;have m2:=qB5 i2;have H:AH L n1 n2 nk k1 k2 kk x1 x2 yk (VT sw j) (VT sw (m - 1 - j)) (VT sw m):=⟨λe=>hL (e▸m1),λe=>hL (e▸m2),hnk,a2,b2,hyk,λz hz=>zFy h3 ((a3 z).mp hz),λz hz=>zFy h3 ((b3 z).mp hz),a5,b5,λa b d e h1 h2=>zUk true (by omega) h1 h2,λa b d e h1 h2=>zUk false (by omega) h1 h2⟩
 obtain⟨S1,e1,kl',c1,c2,c3,c4,c5,c6,c7,c8,c9⟩:=zIq hm n H ⟨kl,hLs,ky,v,nd,bd,a1,b1,hk,Kp.refl _ _⟩;refine⟨S1,e1,kl',_,c1,c2,c3,c4,c5,λz=>?_,c8,λi id hi=>?_,kp.trans (c9.mono λi _ q=>?_)⟩
 ·rw[zKe,s];constructor
  ·rintro(⟨h1,l,hl,q⟩| ⟨h1,a,ha,b,hb,q⟩)
   ·exact⟨h1,l,by omega,q⟩
   ·exact⟨h1,j,by omega,a,(a3 a).mp ha,b,(b3 b).mp hb,q⟩
  ·rintro⟨h1,l,hl,a,ha,b,hb,q⟩;by_cases e:l=j
   ·subst e;exact .inr ⟨h1,a,(a3 a).mpr ha,b,(b3 b).mpr hb,q⟩
   ·exact .inl ⟨h1,l,by omega,a,ha,b,hb,q⟩
 ·obtain⟨ks,xs,d1,d2,d3,d4,d5⟩:=lvs i id hi;refine⟨ks,xs,?_,d2,d3,d4,d5⟩;by_cases q1:id=n1
  ·subst q1;rw[a1]at d1;cases d1;exact c6
  by_cases q2:id=n2
  ·subst q2;rw[b1]at d1;cases d1;exact c7
  ·exact zDo c9 d1 λq=>by
    rcases q with q|q|q
    ·exact hL (q▸qB5 hi)
    ·exact q1 q
    ·exact q2 q
 ·rcases q with q|q|q
  ·exact .inl q
  ·exact .inr (q▸m1)
  ·exact .inr (q▸m2)
theorem zTD(c:CLL){k nk L n1 n2:Nat}{w2:Option D}{j len:Int}{S S1:zA0}(el:fLen [.lst k] S=.ok (.int len) S)(i1:oIx (.lst k) (.int j) S=.ok (.dct n1) S)(i2:oIx (.lst k) (.int (len - 1 - j)) S=.ok (.dct n2) S)(e:c "add_made" [.dct L,.dct n1,.dct n2,.dct nk] S=.ok .non S1):zAF c (flE k (some (.dct nk)) w2 (some (.dct L)) (some (.int j))) S=.nx (flE k (some (.dct nk)) w2 (some (.dct L)) (some (.int j))) S1:=by simp[zAF,flE,el,i1,i2,e]
theorem zWO(c:CLL){k nk L:Nat}{w2 w4:Option D}{len:Int}{X:yM}{S S1 S2 S3 S4:zA0}(l0:zA3 S1 k=some X)(hnk:S.length=nk)(h1:S++[.dk []]=S1)(e1:zAx [(k,X)] (gN 2) (zAE c) X (flE k (some (.dct nk)) none none none) S1=.nx (flE k (some (.dct nk)) w2 none none) S2)(hL:S2.length=L)(h3:S2++[.dk []]=S3)(el:fLen [.lst k] S3=.ok (.int len) S3)(b0:-4611686018427387904<=(len+1) / 2/\(len+1) / 2<4611686018427387904)
  (e2:zAx [] (gN 4) (zAF c) (upD 0 ((len+1) / 2).toNat) (flE k (some (.dct nk)) w2 (some (.dct L)) none) S3=.nx (flE k (some (.dct nk)) w2 (some (.dct L)) w4) S4):zAT c [some (.lst k),none,none,none,none] S=.rt (.dct L) S4:=by simp only[flE]at e1 e2;simp[zAT,hnk,h1,l0,e1,hL,h3,el,b0,e2]
theorem zJh(hf:zBe cl)(hm:zBM cl)(n:Nat){sw m k:Nat}{ids:List Nat}{S:zA0}(h3:sw<=3)(m1:1<=m)(m2:m<=1000)(hl:ids.length=m)(hk:zA3 S k=some (ids.map D.dct))(lvs:LvS sw S ids):∃L S1,cl (n+2) "further_level" [.lst k] S=.ok (.dct L) S1/\S.length<=L/\Kp (·∈ids) S S1/\LvS sw S1 (ids++[L])/\S1[L]?.isSome:=by
 obtain⟨nk,hnk⟩:∃nk,S.length=nk:=⟨_,rfl⟩
 obtain⟨S1,h1⟩:∃S1,S++[O.dk []]=S1:=⟨_,rfl⟩
 have x1:Ex S S1:=h1▸zAe S _;have idlt:∀id∈ids,id<nk:=λid h=>by obtain⟨i,hi⟩:=qF6 h;rw[<- hnk];exact(lvs i id hi).lt
 have n1:S1[nk]?=some (.dk []):=by rw[<- h1,<- hnk,qA0 (qA6 _)];simp
 have klt:k<nk:=by rw[<- hnk];exact zCZ hk
 have lv1:LvS sw S1 ids:=λi id hi=>(lvs i id hi).kp x1 (λz=>z);have k1:zA3 S1 k=some (ids.map D.dct):=x1.lst hk λz=>z;obtain⟨B2,S2,e1,⟨w2,rfl⟩,kk,yk,q1,q2,q3,q4,q5⟩:=zBQ (w:=[(k,ids.map D.dct)]) (g:=gN 2) (b:=zAE (cl (n+1))) (items:=ids.map D.dct) (P:=λj B S'=>(∃w2,B=flE k (some (.dct nk)) w2 none none)/\KnS sw j nk S1 S') (B:=flE k (some (.dct nk)) none none none) (S:=S1) (λj B S' h=>by
   obtain⟨_,_,_,_,_,_,_,kp⟩:=h;exact zCo (kp.lst k1 (by omega))) ⟨⟨none,rfl⟩,[],[],n1,rfl,λz=>by simp,.nil,Kp.refl _ _⟩ (λj d B S' hd hP=>by
   obtain⟨⟨w2,rfl⟩,hP⟩:=hP;rw[qC0]at hd;obtain⟨id,hi,rfl⟩:=qA2.mp hd;have:=idlt id (qB5 hi);exact zTo _ h3 hP (lv1 _ _ hi) (by omega) w2)
 rw[qA8,hl]at q3;obtain⟨L,hL⟩:∃L,S2.length=L:=⟨_,rfl⟩
 obtain⟨S3,h3'⟩:∃S3,S2++[O.dk []]=S3:=⟨_,rfl⟩
 have x3:Ex S2 S3:=h3'▸zAe S2 _;have l1:S1.length=nk+1:=by rw[<- h1,<- hnk];simp
 have lL:nk+1<=L:=by have:=q5.le;omega
 have k2:zA3 S2 k=some (ids.map D.dct):=q5.lst k1 (by omega);have k3:zA3 S3 k=some (ids.map D.dct):=x3.lst k2 λz=>z;have LN:L∉ids:=λh=>by have:=idlt L h;omega
 have el:∀{S':zA0},zA3 S' k=some (ids.map D.dct)->fLen [.lst k] S'=.ok (.int m) S':=λh=>by rw[zHZ h,qA8,hl]
 have kL:∀{S':zA0},Kp (λi=>i=L∨i∈ids) S3 S'->zA3 S' k=some (ids.map D.dct):=λkp=>kp.lst k3 λq=>by
  rcases q with q|q
  ·omega
  ·obtain⟨i,hi⟩:=qF6 q;obtain⟨ks,xs,d1,_⟩:=lvs i k hi;rw[dkAt,zAI hk]at d1;cases d1
 have start:GrS sw m 0 L nk kk yk ids S3 S3:=by
  refine⟨[],[],?_,rfl,λz d h=>(by cases h),.nil,λz h=>(by cases h),λz=>by simp,zDo x3 (zEA q1) (λz=>z),λi id hi=>((lv1 i id hi).kp q5 ?_).kp x3 (λz=>z),Kp.refl _ _⟩
  ·rw[<- h3',<- hL,qA0 (qA6 _)];simp
  ·have:=idlt id (qB5 hi);omega
 have hdiv:(((m:Int)+1) / 2).toNat=(m+1) / 2:=by omega
 obtain⟨B4,S4,e2,⟨w4,rfl⟩,gr⟩:=zBQ (w:=[]) (g:=gN 4) (b:=zAF (cl (n+1))) (items:=upD 0 (((m:Int)+1) / 2).toNat) (P:=λj B S'=>(∃w4,B=flE k (some (.dct nk)) w2 (some (.dct L)) w4)/\GrS sw m j L nk kk yk ids S3 S') (B:=flE k (some (.dct nk)) w2 (some (.dct L)) none) (S:=S3) (λ_ _ S' _=>zAg S') ⟨⟨none,rfl⟩,start⟩ (λj d B S' hd hP=>by
   obtain⟨⟨w4,rfl⟩,hP⟩:=hP;unfold upD at hd;rw[qC0]at hd;obtain⟨j',hj,rfl⟩:=qA2.mp hd;obtain⟨hj1,hj2⟩:=qA3.mp hj;rw[qF2,hdiv]at hj1;have e':j'=j:=by rw[<- hj2];simp
   subst e';have hP':=hP;obtain⟨_,_,_,_,_,_,_,_,_,_,kp⟩:=hP';have kS:=kL kp;have i1:ids[j']?=some (ids[j']'(by omega)):=qA4 _;have i2:ids[m - 1 - j']?=some (ids[m - 1 - j']'(by omega)):=qA4 _;obtain⟨S5,e5,g5⟩:=zTz hm n h3 q2 hl LN (by omega) hj1 hP i1 i2;have o1:oIx (.lst k) (.int (0+(j':Int))) S'=.ok (.dct (ids[j']'(by omega))) S':=by rw[zBH kS,show(0+(j':Int))=((j':Nat):Int) by omega,zCw (by rw[qC0,i1];rfl)]
   have o2:oIx (.lst k) (.int ((m:Int) - 1 - (0+(j':Int)))) S'=.ok (.dct (ids[m - 1 - j']'(by omega))) S':=by rw[zBH kS,show((m:Int) - 1 - (0+(j':Int)))=((m - 1 - j':Nat):Int) by omega,zCw (by rw[qC0,i2];rfl)]
   exact⟨flE k (some (.dct nk)) w2 (some (.dct L)) (some (.int (0+(j':Int)))),S',by simp[flE],_,S5,.inl (zTD _ (el kS) o1 o2 e5),⟨_,rfl⟩,g5⟩)
 have hlen:(upD 0 (((m:Int)+1) / 2).toNat).length=(m+1) / 2:=by unfold upD;rw[qA8,qF2,hdiv]
 rw[hlen]at gr;obtain⟨kl,acc,g1,g2,g3,g4,g5,g6,g7,g8,g9⟩:=gr;refine⟨L,S4,?_,by omega,?_,λi id hi=>?_,by rw[g1];rfl⟩
 ·rw[hf];exact zAd rfl (zWO _ k1 hnk h1 e1 hL h3' (el k3) ⟨by omega,by omega⟩ e2)
 ·refine⟨by have:=g9.le;have:=x3.le;have:=q5.le;omega,λi hi hn=>?_⟩;rw[g9.eq i (by have:=x3.le;have:=q5.le;omega) (λq=>q.elim (λe=>by omega) hn),x3.eq i (by have:=q5.le;omega) (λz=>z),q5.eq i (by omega) (by omega),x1.eq i (by omega) (λz=>z)]
 ·by_cases q:i<ids.length
  ·rw[qA7 q]at hi;exact g8 i id hi
  ·rw[qA0 (by omega)]at hi;have:i - ids.length=0:=by have:=(qA3.mp hi).1;simp at this;omega
   rw[this]at hi;simp at hi;subst hi;have im:i=m:=by omega
   subst im;refine⟨kl,acc,zEA g1,g2,λz=>?_,g4,g3⟩;obtain⟨p,rfl⟩:∃p,i=p+1:=⟨i - 1,by omega⟩
   rw[g6,zFx];constructor
   ·rintro⟨h,l,hl,a,ha,b,hb,q⟩;refine⟨zIW (zHD sw _ ha) (zHD sw _ hb) q,λi hi hz=>h ((q3 z).mpr ⟨i,by omega,hz⟩),l,hl,a,ha,b,hb,q⟩
   ·rintro⟨_,h,l,hl,a,ha,b,hb,q⟩;refine⟨λhz=>?_,l,hl,a,ha,b,hb,q⟩;obtain⟨i,hi,hz⟩:=(q3 z).mp hz;exact h i (by omega) hz
noncomputable def fnX(bs:List Bool):yM:=bs.map λb=>D.int (b1 b)
noncomputable def fnD(bs:List Bool):D:=.tup (fnX bs)
theorem zQM(bs:List Bool):zAb (bs.map b1)=fnD bs:=by unfold zAb fnD fnX;rw[qD2];rfl
theorem zRI(b:Bool):b1 b=((b.toNat:Nat):Int):=by cases b<;>simp[b1]
theorem zW6(c:CLL){fd:D}{s:Int}{b:Int}{S:zA0}:zBX c [some fd,some (.int s),some (.int b)] S=.nx [some fd,some (.int (s*2+b)),some (.int b)] S:=by
 have:zDQ s 2=true:=by simp[zDQ]
 simp[zBX,this]
theorem zTf(c:CLL){fd:D}{s:Int}{b:Int}{S:zA0}:zAD c [some fd,some (.int s),some (.int b)] S=.nx [some fd,some (.int (2*s+b)),some (.int b)] S:=by
 have:zDQ 2 s=true:=by simp[zDQ]
 simp[zAD,this]
theorem zW4(c:CLL){X:yM}{z:Int}{w:Option D}{S:zA0}(e:zAx [] (gN 2) (zBX c) X [some (.tup X),some (.int 0),none] S=.nx [some (.tup X),some (.int z),w] S):zCt c [some (.tup X),none,none] S=.rt (.int z) S:=by simp[zCt,e]
theorem zCE(h:zBi cl)(n:Nat)(bs:List Bool)(S:zA0):cl (n+1) "number_of" [fnD bs] S=.ok (.int (numA 0 bs:Nat)) S:=by
 rw[h];obtain⟨B',S',e,⟨w,rfl⟩,rfl⟩:=zBR (λb:Bool=>D.int (b1 b)) (fun(s:Nat) b=>2*s+b.toNat) (λs B S1=>(∃w,B=[some (fnD bs),some (.int (s:Nat)),w])/\S1=S) (w:=[]) (g:=gN 2) (b:=zBX (cl n)) (λ_ _ S _=>zAg S) bs (s:=0) (B:=[some (fnD bs),some (.int (0:Nat)),none]) (S:=S) ⟨⟨_,rfl⟩,rfl⟩ (λs b B S1 _ hs=>by
  obtain⟨⟨w,rfl⟩,rfl⟩:=hs;refine⟨[some (fnD bs),some (.int (s:Nat)),some (.int (b1 b))],S1,by simp,_,S1,.inl (zW6 _),⟨some (.int (b1 b)),?_⟩,rfl⟩;rw[show((s:Nat):Int)*2+b1 b=((2*s+b.toNat:Nat):Int) by rw[zRI];omega])
 exact zAd rfl (zW4 _ e)
theorem zTe(c:CLL){X:yM}{z:Int}{w:Option D}{S:zA0}(e:zAx [] (gN 2) (zAD c) X [some (.tup X),some (.int 0),none] S=.nx [some (.tup X),some (.int z),w] S):zAS c [some (.tup X),none,none] S=.rt (.int z) S:=by simp[zAS,e]
theorem zCD(h:zBd cl)(n:Nat)(bs:List Bool)(S:zA0):cl (n+1) "_law_number_of" [fnD bs] S=.ok (.int (numA 0 bs:Nat)) S:=by
 rw[h];obtain⟨B',S',e,⟨w,rfl⟩,rfl⟩:=zBR (λb:Bool=>D.int (b1 b)) (fun(s:Nat) b=>2*s+b.toNat) (λs B S1=>(∃w,B=[some (fnD bs),some (.int (s:Nat)),w])/\S1=S) (w:=[]) (g:=gN 2) (b:=zAD (cl n)) (λ_ _ S _=>zAg S) bs (s:=0) (B:=[some (fnD bs),some (.int (0:Nat)),none]) (S:=S) ⟨⟨_,rfl⟩,rfl⟩ (λs b B S1 _ hs=>by
  obtain⟨⟨w,rfl⟩,rfl⟩:=hs;refine⟨[some (fnD bs),some (.int (s:Nat)),some (.int (b1 b))],S1,by simp,_,S1,.inl (zTf _),⟨some (.int (b1 b)),?_⟩,rfl⟩;rw[show 2*((s:Nat):Int)+b1 b=((2*s+b.toNat:Nat):Int) by rw[zRI];omega])
 exact zAd rfl (zTe _ e)
inductive FiS(sw Ld:Nat)(acc:List Nat)(S1 S:zA0):Prop
 |mk (kl:List (Key×D)) (h:S[Ld]?=some (.dk kl)) (ky:Kys kl acc) (v:∀z d,(inN z,d)∈kl->VT sw 0 z d) (nd:acc.Nodup) (bd:∀z∈acc,z<256) (kp:Kp (·=Ld) S1 S)
noncomputable def fiE(sw Ld:Nat)(w2 w3 w4:Option D):Env1:=[some (.int (sw:Nat)),some (.dct Ld),w2,w3,w4]
theorem zWP(c:CLL){sw Ld:Nat}{k o:Int}{fd:D}{z:Int}{w4:Option D}{S S1 S2:zA0}(e1:c "tree_function" [.int (sw:Nat),.tup [.str (Str.ofString "at"),.int k,.int o]] S=.ok fd S1)(e2:c "number_of" [fd] S1=.ok (.int z) S1)(e3:oSet (.dct Ld) (.int z) (.tup [.str (Str.ofString "at"),.int k,.int o]) S1=some S2):zAJ c (fiE sw Ld (some (.int k)) (some (.int o)) w4) S=.nx (fiE sw Ld (some (.int k)) (some (.int o)) (some (.tup [.str (Str.ofString "at"),.int k,.int o]))) S2:=by simp[zAJ,fiE,e1,e2,e3]
theorem zTF(H:HTf cl)(hn:zBi cl)(n:Nat){sw Ld:Nat}(s1:1<=sw)(s3:sw<=3){acc:List Nat}{S1 S:zA0}(h:FiS sw Ld acc S1 S){k:Nat}(hk:k<sw){o:Int}(ho:o=0∨o=1)(w3 w4:Option D):zIs (gN 3) (zAJ (cl (n+5))) (.int o) (fiE sw Ld (some (.int (k:Nat))) w3 w4) S (fun B S'=>(∃w3 w4,B=fiE sw Ld (some (.int (k:Nat))) w3 w4)/\FiS sw Ld (addZ acc (litN sw k o)) S1 S'):=by
 obtain⟨kl,hL,ky,v,nd,bd,kp⟩:=h;have wf:(Tr.lf (k:Int) o).wf (sw:Int):=⟨by omega,by omega,by omega,by omega⟩
 obtain⟨S2,e1,x1⟩:=zE2 H (sw:=(sw:Int)) (by omega) (by omega) 0 (.lf (k:Int) o) (qA6 _) wf (by simp[Tr.sz]) n S;have eb:zAb (zGM (sw:Int) (.lf (k:Int) o))=fnD ((sett sw).map (Tr.lf (k:Int) o).on):=by rw[<- zQM,qD2];rfl
 rw[eb]at e1;have e2:=zCE hn (n+4) ((sett sw).map (Tr.lf (k:Int) o).on) S2;have ez:numA 0 ((sett sw).map (Tr.lf (k:Int) o).on)=litN sw k o:=rfl;rw[ez]at e2;have hL2:=x1.at hL λz=>z;have hl:kl.length<lim:=by rw[zDk ky];exact qG2 (zDH 256 nd bd) (by decide)
 have e3:=zK9 hL2 hl (litN sw k o) (.tup [.str (Str.ofString "at"),.int (k:Int),.int o]);obtain⟨p1,p2⟩:=zHJ ky (litN sw k o) (.tup [.str (Str.ofString "at"),.int (k:Int),.int o]);have lt:litN sw k o<256:=by have:=zLc ((sett sw).map (Tr.lf (k:Int) o).on) 0;rw[qA8,zC7]at this;have:=zW5 s3;unfold NN at this;rw[ez]at *;omega
 refine⟨fiE sw Ld (some (.int (k:Nat))) (some (.int o)) w4,S,by simp[fiE],_,_,.inl (zWP _ e1 e2 e3),⟨_,_,rfl⟩,_,qC8 (qA3.mp hL2).1,p1,λz d hm=>?_,zHC nd,λz hz=>?_,kp.trans ((x1.kp).trans (zCr S2 _))⟩
 ·rcases p2 _ hm with q|q
  ·exact v z d q
  ·have q1:=zHO (congrArg Prod.fst q);have q2:d=_:=congrArg Prod.snd q;rw[q1,q2];exact⟨.lf (k:Int) o,rfl,wf,rfl,qA6 _,rfl⟩
 ·rcases zCX.mp hz with q|rfl
  ·exact bd z q
  ·exact lt
noncomputable def fiF(sw:Nat)(s:List Nat)(k:Nat):List Nat:=[(0:Int),1].foldl (λs o=>addZ s (litN sw k o)) s
theorem zNU{sw:Nat}:∀{ks acc:List Nat}{z:Nat},z∈ks.foldl (fiF sw) acc↔z∈acc∨∃k∈ks,z=litN sw k 0∨z=litN sw k 1
 |[],acc,z=>by simp
 |k::ks,acc,z=>by
  rw[qL7,zNU];show z∈addZ (addZ acc (litN sw k 0)) (litN sw k 1)∨_↔_;rw[zCX,zCX];constructor
  ·rintro(((h|h)| h)| ⟨c,hc,h⟩)
   ·exact .inl h
   ·exact .inr ⟨k,by simp,.inl h⟩
   ·exact .inr ⟨k,by simp,.inr h⟩
   ·exact .inr ⟨c,by simp[hc],h⟩
  ·rintro(h|⟨c,hc,h⟩)
   ·exact .inl (.inl (.inl h))
   ·rcases qB0.mp hc with rfl|hc
    ·rcases h with h|h
     ·exact .inl (.inl (.inr h))
     ·exact .inl (.inr h)
    ·exact .inr ⟨c,hc,h⟩
theorem zTG(c:CLL){sw Ld:Nat}{k:D}{w3 w4:Option D}{B':Env1}{S S':zA0}(e:zAx [] (gN 3) (zAJ c) [.int 0,.int 1] (fiE sw Ld (some k) w3 w4) S=.nx B' S'):zBb c (fiE sw Ld (some k) w3 w4) S=.nx B' S':=by unfold fiE at e ⊢;simp[zBb,e]
theorem zTH(c:CLL){s:Int}{L:Nat}{w2 w3 w4:Option D}{S S1 S2:zA0}(b:-4611686018427387904<=s/\s<4611686018427387904)(hL:S.length=L)(h1:S++[.dk []]=S1)(e:zAx [] (gN 2) (zBb c) (upD 0 s.toNat) [some (.int s),some (.dct L),none,none,none] S1=.nx [some (.int s),some (.dct L),w2,w3,w4] S2):zBC c [some (.int s),none,none,none,none] S=.rt (.dct L) S2:=by simp[zBC,hL,h1,b,e]
theorem zMj(hf:zCK cl)(H:HTf cl)(hn:zBi cl)(n:Nat){sw:Nat}(s1:1<=sw)(s3:sw<=3)(S:zA0):∃L S1,cl (n+6) "first_level" [.int (sw:Nat)] S=.ok (.dct L) S1/\S.length=L/\Ex S S1/\LvA sw 0 S1 L:=by
 obtain⟨L,hL⟩:∃L,S.length=L:=⟨_,rfl⟩
 obtain⟨S1,h1⟩:∃S1,S++[O.dk []]=S1:=⟨_,rfl⟩
 have n1:S1[L]?=some (.dk []):=by rw[<- h1,<- hL,qA0 (qA6 _)];simp
 obtain⟨B2,S2,e,⟨w2,w3,w4,rfl⟩,kl,q1,q2,q3,q4,q5,q6⟩:=zBR (λk:Nat=>D.int (0+(k:Nat))) (fiF sw) (λs B S'=>(∃w2 w3 w4,B=fiE sw L w2 w3 w4)/\FiS sw L s S1 S') (w:=[]) (g:=gN 2) (b:=zBb (cl (n+5))) (λ_ _ S _=>zAg S) (List.range sw) (s:=[]) (B:=fiE sw L none none none) (S:=S1) ⟨⟨_,_,_,rfl⟩,[],n1,rfl,λz d h=>(by cases h),.nil,λz h=>(by cases h),Kp.refl _ _⟩ (λs k B S' hk hs=>by
  obtain⟨⟨w2,w3,w4,rfl⟩,hs⟩:=hs;obtain⟨B3,S3,e3,⟨w3',w4',rfl⟩,p3⟩:=zBR (λo:Int=>D.int o) (λs o=>addZ s (litN sw k o)) (λs B S'=>(∃w3 w4,B=fiE sw L (some (.int (k:Nat))) w3 w4)/\FiS sw L s S1 S') (w:=[]) (g:=gN 3) (b:=zAJ (cl (n+5))) (λ_ _ S _=>zAg S) [0,1] (s:=s) (B:=fiE sw L (some (.int (k:Nat))) w3 w4) (S:=S') ⟨⟨_,_,rfl⟩,hs⟩ (λs o B S' ho hs=>by
   obtain⟨⟨w3,w4,rfl⟩,hs⟩:=hs;exact zTF H hn n s1 s3 hs (qF7.mp hk) (by simpa using ho) w3 w4)
  refine⟨fiE sw L (some (.int (k:Nat))) w3 w4,S',by simp[fiE],_,S3,.inl (zTG _ e3),⟨_,_,_,rfl⟩,p3⟩)
 refine⟨L,S2,?_,hL,?_,kl,_,zEA q1,q2,λz=>?_,q4,q3⟩
 ·rw[hf];exact zAd rfl (zTH _ ⟨by omega,by omega⟩ hL h1 (by rw[qE0];exact e))
 ·have l1:S1.length=L+1:=by rw[<- h1,<- hL];simp
  refine⟨by have:=q6.le;omega,λj hj _=>?_⟩;rw[q6.eq j (by omega) (by omega),<- h1,qA7 hj]
 ·rw[zNU,zEv];unfold lits;rw[qN4];simp
theorem zIo{α:Type}(l:List α)(d:α):atI (l++[d]) (-1)=some d:=by
 unfold atI ixN;rw[if_neg (by omega),if_pos (by simp;omega),qN3];have:((-1:Int)+((l++[d]).length:Nat)).toNat=l.length:=by simp;omega
 rw[this];simp
theorem zUz(c:CLL){X:yM}{z:Int}{S:zA0}(h:((Builtin.Int.intBits (X.length:Int):Nat):Int) - 1=z):zBy c [some (.tup X)] S=.rt (.int z) S:=by simp[zBy,h]
theorem zE3(h:zCH cl)(n:Nat){sw:Nat}(s4:sw<=4){bs:List Bool}(hl:bs.length=2 ^ sw)(S:zA0):cl (n+1) "switches_of" [fnD bs] S=.ok (.int (sw:Nat)) S:=by
 rw[h];refine zAd rfl (zUz _ ?_);have:(fnX bs).length=2 ^ sw:=by unfold fnX;rw[qA8,hl]
 rw[this];have:sw=0∨sw=1∨sw=2∨sw=3∨sw=4:=by omega
 rcases this with rfl|rfl|rfl|rfl|rfl<;>decide +kernel
noncomputable def ltE(bs:D)(sw:Nat)(k:Nat):Env1:=[some bs,some (.int (sw:Nat)),some (.lst k)]
theorem zT9(c:CLL){bd:D}{sw k id:Nat}{x:Int}{b:Bool}{S:zA0}(e1:c "number_of" [bd] S=.ok (.int x) S)(e2:oIx (.lst k) (.int (-1)) S=.ok (.dct id) S)(e3:oIn true (.int x) (.dct id) S=.ok (.bl b) S):(zAs (cBin (oIn true) (cApp (c "number_of") (zA2 [(cVar 0)])) (cBin oIx (cVar 2) (cUn oNeg (cCon (.int 1)))))) (ltE bd sw k) S=.ok b S:=by simp[ltE,e1,e2,e3]
theorem zTc(c:CLL){bd:D}{sw k L:Nat}{X:yM}{S S1:zA0}(ty:tyOk "list" (.lst k) S=true)(e1:c "further_level" [.lst k] S=.ok (.dct L) S1)(e2:zCY zAR (.lst k) [.dct L] S1=.ok .non (S1.set k (.lst X))):zBh c (ltE bd sw k) S=.nx (ltE bd sw k) (S1.set k (.lst X)):=by simp[zBh,ltE,ty,e1,e2]
inductive LtS(sw:Nat)(S0:zA0)(k j:Nat)(S:zA0):Prop
 |mk (ids:List Nat) (hl:ids.length=j+1) (hk:zA3 S k=some (ids.map D.dct)) (lvs:LvS sw S ids) (hi:∀i∈ids,S0.length<=i) (kn:S0.length<=k) (x:Ex S0 S)
theorem zTa(hf:zBe cl)(hm:zBM cl)(n:Nat){sw k j:Nat}{S0 S:zA0}(s3:sw<=3)(hj:j<=900)(h:LtS sw S0 k j S)(bd:D):∃S1,zBh (cl (n+2)) (ltE bd sw k) S=.nx (ltE bd sw k) S1/\LtS sw S0 k (j+1) S1:=by
 obtain⟨ids,hl,hk,lvs,hi,kn,x⟩:=h;obtain⟨L,S1,e1,lL,kp,lv1,_⟩:=zJh hf hm n s3 (by omega) (by omega) hl hk lvs;have kni:k∉ids:=λq=>by obtain⟨i,hi⟩:=qF6 q;obtain⟨ks,xs,d1,_⟩:=lvs i k hi;rw[dkAt,zAI hk]at d1;cases d1
 have k1:=kp.lst hk kni;have klt:=zCZ hk;have e2:zCY zAR (.lst k) [.dct L] S1=.ok .non (S1.set k (.lst (ids.map D.dct++[.dct L]))):=by rw[zEc k1,zDx,if_pos (by rw[qA8,hl,zB7];omega)]
 refine⟨_,zTc _ (zE1 hk) e1 e2,ids++[L],by simp[hl],?_,λi id hid=>(lv1 i id hid).kp (zCr S1 _) (λe=>?_),λi hi'=>?_,kn,⟨?_,λi hlt _=>?_⟩⟩
 ·rw[zBY k1,qE1];rfl
 ·subst e;rcases qB9.mp (qB5 hid)with q|q
  ·exact kni q
  ·simp at q;omega
 ·rcases qB9.mp hi' with q|q
  ·exact hi i q
  ·simp at q;have:=x.le;omega
 ·rw[qJ1];have:=kp.le;have:=x.le;omega
 ·rw[qD9 (by omega),kp.eq i (by have:=x.le;omega) (λq=>by have:=hi i q;omega),x.eq i hlt (λz=>z)]
structure HLv(cl:Nat->CLL):Prop where
 tf:HTf cl
 so:zCH cl
 no:zBi cl
 fl:zCK cl
 am:zBM cl
 fu:zBe cl
 lt:zEL cl
structure HFe(cl:Nat->CLL):Prop extends HLv cl where
 fe:zJV cl
 ft:zDK cl
theorem zTb(no:zBi cl)(n:Nat){sw k j ix:Nat}{S0 S:zA0}(h:LtS sw S0 k j S){bs:List Bool}(hx:numA 0 bs∈lv sw ix):(zAs (cBin (oIn true) (cApp (cl (n+1) "number_of") (zA2 [(cVar 0)])) (cBin oIx (cVar 2) (cUn oNeg (cCon (.int 1)))))) (ltE (fnD bs) sw k) S=.ok (!decide (j=ix)) S:=by
 obtain⟨ids,hl,hk,lvs,hi,kn,x⟩:=h;have hj:j<ids.length:=by omega
 obtain⟨ks,xs,d1,d2,d3,d4,d5⟩:=lvs j ids[j] (qA4 hj);have e0:ids=ids.take j++[ids[j]]:=by rw[qN0 hj,show j+1=ids.length by omega,qH5]
 have e2:oIx (.lst k) (.int (-1)) S=.ok (.dct ids[j]) S:=by rw[zBH hk,(congrArg (List.map D.dct) e0).trans (qE1 (l₁:=ids.take j) (l₂:=[ids[j]]))];show(match atI (_++[D.dct _]) (-1)with|some d=>R.ok d S|none=>.bad)=_;rw[zIo]
 have e3:=zLa d1 d2 true (numA 0 bs);have e4:decide (numA 0 bs∈xs)=decide (j=ix):=by rw[decide_eq_decide,d3];exact⟨λh=>zKf sw h hx,λe=>e▸hx⟩
 rw[if_pos rfl,e4]at e3;exact zT9 _ (zCE no n bs S) e2 e3
theorem zWc(c:CLL){bd:D}{s:Int}{sw L k:Nat}{S S1 S2 S3:zA0}(hs:((sw:Nat):Int)=s)(e1:c "switches_of" [bd] S=.ok (.int s) S)(h3:¬3<s)(e2:c "first_level" [.int s] S=.ok (.dct L) S1)(hk:S1.length=k)(h2:S1++[.lst [.dct L]]=S2)(e3:zCA zGj (zAs (cBin (oIn true) (cApp (c "number_of") (zA2 [(cVar 0)])) (cBin oIx (cVar 2) (cUn oNeg (cCon (.int 1)))))) (zBh c) (ltE bd sw k) S2=.nx (ltE bd sw k) S3):zBf c [some bd,none,none] S=.rt (.lst k) S3:=by subst hs;simp only[ltE]at e3;simp[zBf,e1,h3,e2,hk,h2,e3]
theorem zZ8(c:CLL){bd:D}{S:zA0}(e1:c "switches_of" [bd] S=.ok (.int 4) S):zBf c [some bd,none,none] S=.er "TooMany" S:=by simp[zBf,e1]
theorem zDI(H:HLv cl)(n:Nat){sw ix:Nat}(s1:1<=sw)(s3:sw<=3){bs:List Bool}(hl:bs.length=2 ^ sw)(hx:numA 0 bs∈lv sw ix)(hi:ix<=800)(S:zA0):∃k S1,cl (n+7) "levels_to" [fnD bs] S=.ok (.lst k) S1/\LtS sw S k ix S1:=by
 obtain⟨L,S1,e1,hL,x1,la⟩:=zMj H.fl H.tf H.no n s1 s3 S;obtain⟨k,hk⟩:∃k,S1.length=k:=⟨_,rfl⟩
 obtain⟨S2,h2⟩:∃S2,S1++[O.lst [.dct L]]=S2:=⟨_,rfl⟩
 have x2:Ex S1 S2:=h2▸zAe S1 _;have k2:zA3 S2 k=some ([L].map D.dct):=by rw[<- h2,<- hk];exact zA5 _ _
 have st:LtS sw S k 0 S2:=by
  refine⟨[L],rfl,k2,λi id h=>?_,λi h=>?_,by have:=x1.le;omega,x1.trans x2⟩
  ·have:i=0:=by have:=(qA3.mp h).1;simp at this;omega
   subst this;simp at h;subst h;exact la.kp x2 λz=>z
  ·simp at h;omega
 obtain⟨B',S3,e3,rfl,q⟩:=zF8 (t:=zAs (cBin (oIn true) (cApp (cl (n+6) "number_of") (zA2 [(cVar 0)])) (cBin oIx (cVar 2) (cUn oNeg (cCon (.int 1)))))) (b:=zBh (cl (n+6))) (P:=λm B S'=>B=ltE (fnD bs) sw k/\∃j,LtS sw S k j S'/\j<=ix/\m=ix - j) (Q:=fun B S'=>B=ltE (fnD bs) sw k/\LtS sw S k ix S') (λm B S' h=>by
  obtain⟨rfl,j,h1,h2,rfl⟩:=h;have c1:=zTb H.no (n+5) h1 hx;by_cases e:j=ix
  ·subst e;exact .inl ⟨S',by simpa using c1,rfl,h1⟩
  ·obtain⟨S4,b1,b2⟩:=zTa H.fu H.am (n+4) s3 (by omega) h1 (fnD bs);exact .inr ⟨S',by simpa[e]using c1,_,S4,.inl b1,ix - (j+1),by omega,rfl,j+1,b2,by omega,rfl⟩) zGj ix (ltE (fnD bs) sw k) S2 (by show ix<100000;omega) ⟨rfl,0,st,by omega,by omega⟩
 refine⟨k,S3,?_,q⟩;rw[H.lt];exact zAd rfl (zWc _ rfl (zE3 H.so (n+5) (by omega) hl S) (by omega) e1 hk h2 e3)
theorem zEI(H:HLv cl)(n:Nat){bs:List Bool}(hl:bs.length=2 ^ 4)(S:zA0):cl (n+2) "levels_to" [fnD bs] S=.er "TooMany" S:=by rw[H.lt];exact zNf rfl (zZ8 _ (zE3 H.so n (qA6 4) hl S))
theorem zWQ(c:CLL){bd d:D}{k:Nat}{S S1:zA0}(e1:c "levels_to" [bd] S=.ok (.lst k) S1)(e2:fLen [.lst k] S1=.ok d S1):zD2 c [some bd] S=.rt d S1:=by
 have:cBlX fLen (zB1 (c "levels_to") (zA2 [(cVar 0)])) [some bd] S=.ok d S1:=by unfold cBlX zB1;simp[e1,e2]
 unfold zD2;rw[zCW];unfold zEM;rw[this];rfl
theorem zZs(c:CLL){bd:D}{x:Str}{S S1:zA0}(e1:c "levels_to" [bd] S=.er x S1):zD2 c [some bd] S=.er x S1:=by
 have:cBlX fLen (zB1 (c "levels_to") (zA2 [(cVar 0)])) [some bd] S=.er x S1:=by unfold cBlX zB1;simp[e1]
 unfold zD2;rw[zCW];unfold zEM;rw[this];rfl
theorem zWM(c:CLL){bd d:D}{k id:Nat}{x:Int}{S S1:zA0}(e1:c "levels_to" [bd] S=.ok (.lst k) S1)(e2:oIx (.lst k) (.int (-1)) S1=.ok (.dct id) S1)(e3:c "number_of" [bd] S1=.ok (.int x) S1)(e4:oIx (.dct id) (.int x) S1=.ok d S1):zAB c [some bd] S=.rt d S1:=by
 have:cIxX (cIxX (zB1 (c "levels_to") (zA2 [(cVar 0)])) (cUn oNeg (cCon (.int 1)))) (cApp (c "number_of") (zA2 [(cVar 0)])) [some bd] S=.ok d S1:=by unfold cIxX zB1;simp[e1,e2,e3,e4]
 unfold zAB;rw[zCW];unfold zEM;rw[this];rfl
theorem zZp(c:CLL){bd:D}{x:Str}{S S1:zA0}(e1:c "levels_to" [bd] S=.er x S1):zAB c [some bd] S=.er x S1:=by
 have:cIxX (cIxX (zB1 (c "levels_to") (zA2 [(cVar 0)])) (cUn oNeg (cCon (.int 1)))) (cApp (c "number_of") (zA2 [(cVar 0)])) [some bd] S=.er x S1:=by unfold cIxX zB1;simp[e1]
 unfold zAB;rw[zCW];unfold zEM;rw[this];rfl
theorem zDX(H:HFe cl)(n:Nat){sw ix:Nat}(s1:1<=sw)(s3:sw<=3){bs:List Bool}(hl:bs.length=2 ^ sw)(hx:numA 0 bs∈lv sw ix)(hi:ix<=800)(S:zA0):Spc (cl (n+8) "fewest" [fnD bs] S) (.int ((ix+1:Nat):Int)) S:=by obtain⟨k,S1,e1,ids,q1,q2,q3,q4,q5,q6⟩:=zDI H.toHLv n s1 s3 hl hx hi S;refine⟨S1,?_,q6⟩;rw[H.fe];exact zAd rfl (zWQ _ e1 (by rw[zHZ q2,qA8,q1]))
theorem zEX(H:HFe cl)(n:Nat){sw ix:Nat}(s1:1<=sw)(s3:sw<=3){bs:List Bool}(hl:bs.length=2 ^ sw)(hx:numA 0 bs∈lv sw ix)(hi:ix<=800)(S:zA0):∃t:Tr,t.wf (sw:Int)/\t.lv=ix+1/\t.ht<=ix/\(sett sw).map t.on=bs/\Spc (cl (n+8) "fewest_tree" [fnD bs] S) t.d S:=by
 obtain⟨k,S1,e1,ids,q1,q2,q3,q4,q5,q6⟩:=zDI H.toHLv n s1 s3 hl hx hi S;have hj:ix<ids.length:=by omega
 obtain⟨ks,xs,d1,d2,d3,d4,d5⟩:=q3 ix ids[ix] (qA4 hj);have e0:ids=ids.take ix++[ids[ix]]:=by rw[qN0 hj,show ix+1=ids.length by omega,qH5]
 have e2:oIx (.lst k) (.int (-1)) S1=.ok (.dct ids[ix]) S1:=by rw[zBH q2,(congrArg (List.map D.dct) e0).trans (qE1 (l₁:=ids.take ix) (l₂:=[ids[ix]]))];show(match atI (_++[D.dct _]) (-1)with|some d=>R.ok d S1|none=>.bad)=_;rw[zIo]
 obtain⟨d,e4,hm⟩:=zNH d1 d2 ((d3 _).mpr hx);obtain⟨t,rfl,t1,t2,t3,t4⟩:=d5 _ _ hm;refine⟨t,t1,t2,t3,?_,S1,?_,q6⟩
 ·exact(zNK _ _ _ _ (by rw[qA8,zC7,hl]) t4.symm).2
 ·rw[H.ft];exact zAd rfl (zWM _ e1 e2 (zCE H.no (n+6) bs S1) e4)
theorem zOC(H:HFe cl)(n:Nat){bs:List Bool}(hl:bs.length=2 ^ 4)(S:zA0):cl (n+3) "fewest" [fnD bs] S=.er "TooMany" S:=by rw[H.fe];exact zNf rfl (zZs _ (zEI H.toHLv n hl S))
theorem zGD(H:HFe cl)(n:Nat){bs:List Bool}(hl:bs.length=2 ^ 4)(S:zA0):cl (n+3) "fewest_tree" [fnD bs] S=.er "TooMany" S:=by rw[H.ft];exact zNf rfl (zZp _ (zEI H.toHLv n hl S))
noncomputable def litB(sw:Nat)(k:Nat)(o:Int):List Bool:=(sett sw).map λst=>decide (st.getD k 0=o)
theorem zLl(sw k:Nat)(o:Int):numA 0 (litB sw k o)=litN sw k o:=rfl
theorem zFb:∀(n:Nat) {st:yA},st∈sett n->st.length=n
 |0,st,h=>by simp[sett]at h;subst h;rfl
 |n+1,st,h=>by
  unfold sett at h;rcases qB9.mp h with h|h
  ·obtain⟨x,hx,rfl⟩:=qD8.mp h;simp[zFb n hx]
  ·obtain⟨x,hx,rfl⟩:=qD8.mp h;simp[zFb n hx]
noncomputable def siE(sw:Nat)(f:Nat)(w2 w3:Option D):Env1:=[some (.int (sw:Nat)),some (.lst f),w2,w3]
theorem zYh(c:CLL){X:yM}{k o v:Int}{S:zA0}(h:atI X k=some (.int v)):zBa c [some (.tup X),some (.int k),some (.int o)] S=.ok (.int (b1 (decide (v=o)))) S:=by by_cases e:v=o<;>simp[zBa,h,e,b1]
theorem zUP(c:CLL){sw f m:Nat}{k o:D}{X R:yM}{S S1 S2 S3:zA0}(ty:tyOk "list" (.lst f) S=true)(e1:c "_law_settings" [.int (sw:Nat)] S=.ok (.lst m) S1)(l1:zA3 S1 m=some X)(hl:X.length<lim)(e2:zAW [(m,X)] .one (λ_=>ret true) (zBa c) [none,some k,some o] X S1=.ok R S1)(h2:S1++[.lst R]=S2)(t:zBx [.lst S1.length] S2=.ok (.tup R) S2)(a:zCY zAR (.lst f) [.tup R] S2=.ok .non S3):zB8 c (siE sw f (some k) (some o)) S=.nx (siE sw f (some k) (some o)) S3:=by simp[zB8,siE,ty,e1,l1,hl,e2,h2,t,a]
inductive SiS(S0:zA0)(f:Nat)(acc:List (List Bool))(S:zA0):Prop
 |mk (h:zA3 S f=some (acc.map fnD)) (l:acc.length<=1000) (x:Ex S0 S)
theorem zN2(hs:zAU cl)(n:Nat){sw f:Nat}(s1:1<=sw)(s3:sw<=3){S0 S:zA0}(hf:S0.length<=f){acc:List (List Bool)}(h:SiS S0 f acc S)(ha:acc.length<1000){k:Nat}(hk:k<sw)(o:Int)(w3:Option D):zIs (gN 3) (zB8 (cl (n+1))) (.int o) (siE sw f (some (.int (k:Nat))) w3) S (fun B S'=>(∃w3,B=siE sw f (some (.int (k:Nat))) w3)/\SiS S0 f (acc++[litB sw k o]) S'):=by
 obtain⟨hl,_,x⟩:=h;obtain⟨m,S1,e1,x1,_,l1⟩:=zCT hs n (sw:=(sw:Int)) (by omega) (by omega) S;rw[qE0]at l1;have e2:zAW [(m,(sett sw).map zAb)] .one (λ_=>ret true) (zBa (cl (n+1))) [none,some (.int (k:Nat)),some (.int o)] ((sett sw).map zAb) S1=.ok ((sett sw).map λst=>D.int (b1 (decide (st.getD k 0=o)))) S1:=by
  refine zCh zAb (zCo l1) _ _ λst hst=>⟨_,rfl,?_⟩
  have len:=zFb sw hst;exact zYh _ (by rw[zIp (by omega) (by rw[len];omega),qE0])
 have eR:((sett sw).map λst=>D.int (b1 (decide (st.getD k 0=o))))=fnX (litB sw k o):=by unfold fnX litB;rw[qD2];rfl
 rw[eR]at e2;obtain⟨S2,h2⟩:∃S2,S1++[O.lst (fnX (litB sw k o))]=S2:=⟨_,rfl⟩
 have x2:Ex S1 S2:=h2▸zAe S1 _;have t:zBx [.lst S1.length] S2=.ok (.tup (fnX (litB sw k o))) S2:=by rw[<- h2];exact zCg (zA5 _ _)
 have hl2:=x2.lst (x1.lst hl λz=>z) λz=>z;have a:zCY zAR (.lst f) [.tup (fnX (litB sw k o))] S2=.ok .non (S2.set f (.lst (acc.map fnD++[.tup (fnX (litB sw k o))]))):=by rw[zEc hl2,zDx,if_pos (by rw[qA8,zB7];omega)]
 have len:((sett sw).map zAb).length<lim:=by rw[qA8,zC7,zB7];have:2 ^ sw<=2 ^ 3:=qJ5 (by decide) s3;omega
 refine⟨siE sw f (some (.int (k:Nat))) (some (.int o)),S,by simp[siE],_,_,.inl (zUP _ (zE1 hl) e1 l1 len e2 h2 t a),⟨_,rfl⟩,?_,by simp;omega,⟨?_,λj hj _=>?_⟩⟩
 ·rw[zBY hl2,qE1];rfl
 ·rw[qJ1];have:=x.le;have:=x1.le;have:=x2.le;omega
 ·rw[qD9 (by omega),x2.eq j (by have:=x.le;have:=x1.le;omega) (λz=>z),x1.eq j (by have:=x.le;omega) (λz=>z),x.eq j hj (λz=>z)]
noncomputable def sinJ(sw j:Nat):List (List Bool):=(List.range j).flatMap λk=>[litB sw k 0,litB sw k 1]
theorem zIK(sw j:Nat):sinJ sw (j+1)=sinJ sw j++[litB sw j 0]++[litB sw j 1]:=by unfold sinJ;rw[qO1,List.flatMap_append];simp
theorem zHs(sw:Nat):∀j,(sinJ sw j).length=2*j
 |0=>rfl
 |j+1=>by rw[zIK];simp[zHs sw j];omega
theorem zSf(c:CLL){sw f:Nat}{k:D}{w3:Option D}{B':Env1}{S S':zA0}(e:zAx [] (gN 3) (zB8 c) [.int 0,.int 1] (siE sw f (some k) w3) S=.nx B' S'):zB9 c (siE sw f (some k) w3) S=.nx B' S':=by unfold siE at e ⊢;simp[zB9,e]
theorem zSg(c:CLL){s:Int}{f:Nat}{w2 w3:Option D}{S S1 S2:zA0}(b:-4611686018427387904<=s/\s<4611686018427387904)(hL:S.length=f)(h1:S++[.lst []]=S1)(e:zAx [] (gN 2) (zB9 c) (upD 0 s.toNat) [some (.int s),some (.lst f),none,none] S1=.nx [some (.int s),some (.lst f),w2,w3] S2):zBA c [some (.int s),none,none,none] S=.rt (.lst f) S2:=by simp[zBA,hL,h1,b,e]
theorem zLi{g:G}{b:CS}{x y:D}{B:Env1}{S:zA0}{P Q:Env1->zA0->Prop}(h1:zIs g b x B S P)(h2:∀B S,P B S->zIs g b y B S Q):zKQ (zAx [] g b [x,y] B S) Q:=by
 obtain⟨B1,S1,e1,B2,S2,e2,p⟩:=h1;obtain⟨B3,S3,e3,B4,S4,e4,q⟩:=h2 _ _ p;refine⟨B4,S4,?_,q⟩;unfold zAx;rw[if_pos (zAg _),e1];dsimp only;have t:zAx [] g b [y] B2 S2=.nx B4 S4:=by
  unfold zAx;rw[if_pos (zAg _),e3];dsimp only;rcases e4 with e4|e4
  ·rw[e4];unfold zAx;dsimp only;rw[if_pos (zAg _)]
  ·rw[e4];unfold zAx;dsimp only;rw[if_pos (zAg _)]
 rcases e2 with e2|e2
 ·rw[e2];exact t
 ·rw[e2];exact t
theorem zIJ(h:zCI cl)(hs:zAU cl)(n:Nat){sw:Nat}(s1:1<=sw)(s3:sw<=3)(S:zA0):∃f S1,cl (n+2) "_law_singles" [.int (sw:Nat)] S=.ok (.lst f) S1/\S.length<=f/\Ex S S1/\zA3 S1 f=some ((sinJ sw sw).map fnD):=by
 obtain⟨f,hL⟩:∃f,S.length=f:=⟨_,rfl⟩
 obtain⟨S1,h1⟩:∃S1,S++[O.lst []]=S1:=⟨_,rfl⟩
 have n1:zA3 S1 f=some []:=by rw[<- h1,<- hL];exact zA5 _ _
 have x0:Ex S S1:=h1▸zAe S _;have ul:(upD 0 sw).length=sw:=by unfold upD;simp
 obtain⟨B2,S2,e,⟨w2,w3,rfl⟩,q1,q2,q3⟩:=zBQ (items:=upD 0 sw) (P:=λj B S'=>(∃w2 w3,B=siE sw f w2 w3)/\SiS S f (sinJ sw j) S') (w:=[]) (g:=gN 2) (b:=zB9 (cl (n+1))) (B:=siE sw f none none) (S:=S1) (λ_ _ S _=>zAg S) ⟨⟨_,_,rfl⟩,⟨n1,by simp[sinJ],x0⟩⟩ (λj d B S' hd hP=>by
  obtain⟨⟨w2,w3,rfl⟩,hP⟩:=hP;rw[zFj]at hd;obtain⟨hj,rfl⟩:=hd;have lj:=zHs sw j;obtain⟨B3,S3,e3,⟨w3',rfl⟩,p3⟩:=zLi (zN2 hs n s1 s3 (by omega) hP (by omega) hj 0 w3) (fun B S hp=>by
   obtain⟨⟨w3,rfl⟩,hp⟩:=hp;exact zN2 hs n s1 s3 (by omega) hp (by simp;omega) hj 1 w3)
  rw[<- zIK]at p3;exact⟨siE sw f (some (.int (j:Nat))) w3,S',by simp[siE],_,S3,.inl (zSf _ e3),⟨_,_,rfl⟩,p3⟩)
 rw[ul]at q1;refine⟨f,S2,?_,by omega,q3,q1⟩;rw[h];exact zAd rfl (zSg _ ⟨by omega,by omega⟩ hL h1 (by rw[qE0];exact e))
noncomputable def inD(z:Nat):D:=.int (z:Nat)
inductive RwA(sw i:Nat)(S:zA0)(id:Nat):Prop
 |mk (xs:List Nat) (h:zA3 S id=some (xs.map inD)) (s:∀z,z∈xs↔z∈lv sw i) (nd:xs.Nodup)
def RwS(sw:Nat)(S:zA0)(ids:List Nat):Prop:=∀i id,ids[i]?=some id->RwA sw i S id
theorem RwA.kp{sw i:Nat}{S S1:zA0}{id:Nat}(h:RwA sw i S id){P:Nat->Prop}(kp:Kp P S S1)(n:¬P id):RwA sw i S1 id:=by obtain⟨xs,h,a,d⟩:=h;exact⟨xs,kp.lst h n,a,d⟩
noncomputable def leE(sw kr nk:Nat)(w3 w4 w5 w6 w7 w8:Option D):Env1:=[some (.int (sw:Nat)),some (.lst kr),some (.dct nk),w3,w4,w5,w6,w7,w8]
inductive LA(S0:zA0)(L nk:Nat)(kk:List (Key×D))(acc:List Nat)(S:zA0):Prop
 |mk (kl:List (Key×D)) (hL:S[L]?=some (.dk kl)) (ky:Kys kl acc) (nd:acc.Nodup) (bd:∀z∈acc,z<256) (hk:dkAt S nk=some kk) (kp:Kp (·=L) S0 S)
section
variable {S0:zA0}{L nk sw kr:Nat}{kk:List (Key×D)}{xk:List Nat}
theorem zZe(c:CLL){w3 w5 w6 w7:Option D}{z:Int}{S:zA0}(e1:oIn true (.int z) (.dct nk) S=.ok (.bl false) S):zAA c (leE sw kr nk w3 (some (.dct L)) w5 w6 w7 (some (.int z))) S=.nx (leE sw kr nk w3 (some (.dct L)) w5 w6 w7 (some (.int z))) S:=by simp[leE,zAA,e1]
theorem zWk(c:CLL){d:D}{w5 w6 w7:Option D}{z:Int}{S S1:zA0}(e1:oIn true (.int z) (.dct nk) S=.ok (.bl true) S)(e2:oSet (.dct L) (.int z) d S=some S1):zAA c (leE sw kr nk (some d) (some (.dct L)) w5 w6 w7 (some (.int z))) S=.nx (leE sw kr nk (some d) (some (.dct L)) w5 w6 w7 (some (.int z))) S1:=by simp[leE,zAA,e1,e2]
theorem zO9(c:CLL)(hky:Kys kk xk)(hn:nk≠L){acc:List Nat}{S:zA0}(h:LA S0 L nk kk acc S){z:Nat}(hz:z<256)(d:D)(w5 w6 w7 w8:Option D):
  zIs (gN 8) (zAA c) (inD z) (leE sw kr nk (some d) (some (.dct L)) w5 w6 w7 w8) S (fun B S1=>(∃w8,B=leE sw kr nk (some d) (some (.dct L)) w5 w6 w7 w8)/\LA S0 L nk kk (addN xk acc z) S1):=by
 have h':=h;obtain⟨kl,hL,ky,nd,bd,hk,kp⟩:=h';have e1:=zLa hk hky true z;refine⟨leE sw kr nk (some d) (some (.dct L)) w5 w6 w7 (some (inD z)),S,by simp[leE],?_⟩;by_cases hz':z∈xk
 ·refine⟨_,_,.inl (zZe c (by simpa[hz']using e1)),⟨_,rfl⟩,?_⟩;unfold addN;rw[if_pos hz'];exact h
 ·have hl:kl.length<lim:=by rw[zDk ky];exact qG2 (zDH 256 nd bd) (by decide)
  have e2:=zK9 hL hl z d;obtain⟨p1,_⟩:=zHJ ky z d;have ks:=zCr (i:=L) S (.dk (putD kl (inN z) d));refine⟨_,_,.inl (zWk c (by simpa[hz']using e1) e2),⟨_,rfl⟩,?_⟩;have ea:addN xk acc z=addZ acc z:=by unfold addN;rw[if_neg hz']
  rw[ea];refine⟨_,qC8 (qA3.mp hL).1,p1,zHC nd,λy hy=>?_,zDo ks hk hn,kp.trans ks⟩;rcases zCX.mp hy with q|rfl
  ·exact bd y q
  ·exact hz
theorem zWl(c:CLL){d:D}{a b:Nat}{w5 w8:Option D}{B':Env1}{S S':zA0}(e:zAx [] (gN 8) (zAA c) [inD (a &&& b),inD (a ||| b)] (leE sw kr nk (some d) (some (.dct L)) w5 (some (inD a)) (some (inD b)) w8) S=.nx B' S'):zAX c (leE sw kr nk (some d) (some (.dct L)) w5 (some (inD a)) (some (inD b)) w8) S=.nx B' S':=by unfold leE inD at e ⊢;simp[zAX,zHi,zJJ,e]
theorem zTm(c:CLL)(hky:Kys kk xk)(hn:nk≠L){acc:List Nat}{S:zA0}(h:LA S0 L nk kk acc S){a b:Nat}(ha:a<256)(hb:b<256)(d:D)(w5 w8:Option D):
  zKQ (zAX c (leE sw kr nk (some d) (some (.dct L)) w5 (some (inD a)) (some (inD b)) w8) S) (fun B S1=>(∃w8,B=leE sw kr nk (some d) (some (.dct L)) w5 (some (inD a)) (some (inD b)) w8)/\LA S0 L nk kk (twoN xk a acc b) S1):=by
 obtain⟨B',S',e,p⟩:=zLi (zO9 (sw:=sw) (kr:=kr) c hky hn h (zIW (sw:=3) ha hb (.inl rfl)) d w5 (some (inD a)) (some (inD b)) w8) (fun B S hp=>by
  obtain⟨⟨w8,rfl⟩,hp⟩:=hp;exact zO9 (sw:=sw) (kr:=kr) c hky hn hp (zIW (sw:=3) ha hb (.inr rfl)) d w5 (some (inD a)) (some (inD b)) w8)
 exact⟨B',S',zWl c e,p⟩
theorem zWn(c:CLL){d:D}{few many:Int}{r2:Nat}{X:yM}{w6 w7 w8:Option D}{B':Env1}{S S':zA0}(i:oIx (.lst kr) (.int (many - few - 1)) S=.ok (.lst r2) S)(l:zA3 S r2=some X)(e:zAx [(r2,X)] (gN 7) (zAX c) X (leE sw kr nk (some (.int many)) (some (.dct L)) (some (.int few)) w6 w7 w8) S=.nx B' S'):zBt c (leE sw kr nk (some (.int many)) (some (.dct L)) (some (.int few)) w6 w7 w8) S=.nx B' S':=by unfold leE at e ⊢;simp[zBt,i,l,e]
theorem zWp(c:CLL){few:Int}{r1:Nat}{X:yM}{w3 w6 w7 w8:Option D}{B':Env1}{S S':zA0}(i:oIx (.lst kr) (.int (few - 1)) S=.ok (.lst r1) S)(l:zA3 S r1=some X)(e:zAx [(r1,X)] (gN 6) (zBt c) X (leE sw kr nk w3 (some (.dct L)) (some (.int few)) w6 w7 w8) S=.nx B' S'):zAY c (leE sw kr nk w3 (some (.dct L)) (some (.int few)) w6 w7 w8) S=.nx B' S':=by unfold leE at e ⊢;simp[zAY,i,l,e]
theorem zTn(c:CLL)(hky:Kys kk xk)(hn:nk≠L){acc:List Nat}{S:zA0}(h:LA S0 L nk kk acc S){few many:Int}{r1 r2:Nat}{R:yM}{x1 x2:List Nat}(hr:zA3 S0 kr=some R)(i1:atI R (few - 1)=some (.lst r1))(i2:atI R (many - few - 1)=some (.lst r2))(l1:zA3 S0 r1=some (x1.map inD))(l2:zA3 S0 r2=some (x2.map inD))(n0:kr≠L)(n1:r1≠L)(n2:r2≠L)(b1:∀z∈x1,z<256)(b2:∀z∈x2,z<256)(w6 w7 w8:Option D):
  zKQ (zAY c (leE sw kr nk (some (.int many)) (some (.dct L)) (some (.int few)) w6 w7 w8) S) (fun B S1=>(∃w6 w7 w8,B=leE sw kr nk (some (.int many)) (some (.dct L)) (some (.int few)) w6 w7 w8)/\LA S0 L nk kk (allN xk x1 x2 acc) S1):=by
 have kpo:∀{acc:List Nat}{S:zA0},LA S0 L nk kk acc S->Kp (·=L) S0 S:=λh=>by obtain⟨_,_,_,_,_,_,kp⟩:=h;exact kp
 have kp:=kpo h;obtain⟨B',S',e,p⟩:=zBR inD (λs a=>x2.foldl (twoN xk a) s) (λs B S1=>(∃w6 w7 w8,B=leE sw kr nk (some (.int many)) (some (.dct L)) (some (.int few)) w6 w7 w8)/\LA S0 L nk kk s S1) (w:=[(r1,x1.map inD)]) (g:=gN 6) (b:=zBt c) (λs B S1 hs=>zCo ((kpo hs.2).lst l1 n1)) x1 (s:=acc) (B:=leE sw kr nk (some (.int many)) (some (.dct L)) (some (.int few)) w6 w7 w8) (S:=S) ⟨⟨_,_,_,rfl⟩,h⟩ (λs a B S1 ha hs=>by
  obtain⟨⟨w6,w7,w8,rfl⟩,hs⟩:=hs;have kp1:=kpo hs;obtain⟨B3,S3,e3,⟨w7',w8',rfl⟩,p3⟩:=zBR inD (twoN xk a) (λs B S1=>(∃w7 w8,B=leE sw kr nk (some (.int many)) (some (.dct L)) (some (.int few)) (some (inD a)) w7 w8)/\LA S0 L nk kk s S1) (w:=[(r2,x2.map inD)]) (g:=gN 7) (b:=zAX c) (λs B S1 hs=>zCo ((kpo hs.2).lst l2 n2)) x2 (s:=s) (B:=leE sw kr nk (some (.int many)) (some (.dct L)) (some (.int few)) (some (inD a)) w7 w8) (S:=S1) ⟨⟨_,_,rfl⟩,hs⟩ (λs b B S2 hb hs=>by
   obtain⟨⟨w7,w8,rfl⟩,hs⟩:=hs;obtain⟨B4,S4,e4,⟨w8',rfl⟩,p4⟩:=zTm (sw:=sw) (kr:=kr) c hky hn hs (b1 a ha) (b2 b hb) (.int many) (some (.int few)) w8;exact⟨leE sw kr nk (some (.int many)) (some (.dct L)) (some (.int few)) (some (inD a)) (some (inD b)) w8,S2,by simp[leE],_,S4,.inl e4,⟨_,_,rfl⟩,p4⟩)
  refine⟨leE sw kr nk (some (.int many)) (some (.dct L)) (some (.int few)) (some (inD a)) w7 w8,S1,by simp[leE],_,S3,.inl (zWn (d:=.non) c ?_ (kp1.lst l2 n2) e3),⟨_,_,_,rfl⟩,p3⟩;rw[zBH (kp1.lst hr n0),i2])
 refine⟨B',S',zWp c ?_ (kp.lst l1 n1) e,p⟩;rw[zBH (kp.lst hr n0),i1]
end
theorem zJa:∀{kvs:List (Key×D)}{xs:List Nat},Kys kvs xs->zOn kvs=some (xs.map λz=>((z:Nat):Int))
 |[],[],_=>rfl
 |[],x::xs,h=>by simp[Kys]at h
 |p::kvs,[],h=>by simp[Kys]at h
 |(k,v)::kvs,x::xs,h=>by simp only[Kys,qB8,qM0.injEq]at h;have:=zJa h.2;rw[h.1];show(zOn kvs).map _=_;rw[this];rfl
theorem zJ8(xs:List Nat):∃ys:List Nat,ys.Perm xs/\zEN (xs.map λz=>((z:Nat):Int))=ys.map λz=>((z:Nat):Int):=by
 have hp:=zEw (xs.map λz=>((z:Nat):Int));refine⟨(zEN (xs.map λz=>((z:Nat):Int))).map qR2,?_,?_⟩
 ·have:=hp.map qR2;rw[qD2]at this;have e:xs.map (qR2∘λz:Nat=>(z:Int))=xs:=by rw[show(qR2∘λz:Nat=>(z:Int))=id from funext λz=>by simp];simp
  rw[e]at this;exact this
 ·rw[qD2]
  conv=>lhs;rw[<- List.map_id (zEN (xs.map λz=>((z:Nat):Int)))]
  refine qF0 λx hx=>?_;obtain⟨z,_,rfl⟩:=qD8.mp (hp.mem_iff.mp hx);simp
theorem zMk{S:zA0}{L:Nat}{kl:List (Key×D)}{acc:List Nat}(h:S[L]?=some (.dk kl))(ky:Kys kl acc)(hl:acc.length<=256):∃ys:List Nat,ys.Perm acc/\zC5 [.dct L] S=.ok (.lst S.length) (S++[.lst (ys.map inD)]):=by
 obtain⟨ys,h1,h2⟩:=zJ8 acc;refine⟨ys,h1,?_⟩;have e:(zEN (acc.map λz=>((z:Nat):Int))).map D.int=ys.map inD:=by rw[h2,qD2];rfl
 have hlen:(acc.map λz=>((z:Nat):Int)).length<=5000:=by rw[qA8];omega
 unfold zC5;dsimp only;rw[h];dsimp only;rw[zJa ky];dsimp only;rw[e];by_cases q:(acc.map λz=>((z:Nat):Int)).length<64
 ·rw[if_pos q]
 ·rw[if_neg q,if_pos hlen]
inductive WS(sw:Nat)(S0:zA0)(kr nk m:Nat)(S:zA0):Prop
 |mk (ids:List Nat) (kk:List (Key×D)) (yk:List Nat) (hl:ids.length=m) (hr:zA3 S kr=some (ids.map D.lst)) (rw':RwS sw S ids) (hk:S[nk]?=some (.dk kk)) (ky:Kys kk yk) (s:∀z,z∈yk↔∃i,i<m/\z∈lv sw i) (nd:yk.Nodup) (hi:∀i∈ids,S0.length<=i/\i≠kr) (n1:S0.length<=kr) (n2:S0.length<=nk) (x:Ex S0 S)
theorem zTj(c:CLL){sw kr nk L r:Nat}{len:Int}{w3 w4 w5 w6 w7 w8 v5 v6 v7 v8:Option D}{S S1 S2 S3 S4 S5:zA0}(el:fLen [.lst kr] S=.ok (.int len) S)(hL:S.length=L)(h1:S++[.dk []]=S1)(b0:-4611686018427387904<=(len+1) / 2+1/\(len+1) / 2+1<4611686018427387904)
  (e1:zAx [] (gN 5) (zAY c) (upD 1 ((len+1) / 2+1 - 1).toNat) (leE sw kr nk (some (.int (len+1))) (some (.dct L)) w5 w6 w7 w8) S1=.nx (leE sw kr nk (some (.int (len+1))) (some (.dct L)) v5 v6 v7 v8) S2) (tk:tyOk "dict" (.dct nk) S2=true) (e2:mUpd (.dct nk) [.dct L] S2=.ok .non S3) (ty:tyOk "list" (.lst kr) S3=true) (e3:zC5 [.dct L] S3=.ok (.lst r) S4) (e4:zCY zAR (.lst kr) [.lst r] S4=.ok .non S5) :
  zAZ c (leE sw kr nk w3 w4 w5 w6 w7 w8) S=.nx (leE sw kr nk (some (.int (len+1))) (some (.dct L)) v5 v6 v7 v8) S5:=by rw[Int.add_sub_cancel]at e1;unfold leE at e1 ⊢;simp[zAZ,el,hL,h1,b0,e1,tk,e2,ty,e3,e4]
theorem zTi(n:Nat){sw kr nk m:Nat}{S0 S:zA0}(s3:sw<=3)(m1:1<=m)(m2:m<=900)(h:WS sw S0 kr nk m S)(c:CLL)(w3 w4 w5 w6 w7 w8:Option D):∃S1 v3 v4 v5 v6 v7 v8,zAZ c (leE sw kr nk w3 w4 w5 w6 w7 w8) S=.nx (leE sw kr nk v3 v4 v5 v6 v7 v8) S1/\WS sw S0 kr nk (m+1) S1:=by
 obtain⟨ids,kk,yk,hl,hr,rws,hk,ky,s,nd,hi,n1,n2,x⟩:=h;obtain⟨L,hL⟩:∃L,S.length=L:=⟨_,rfl⟩
 obtain⟨S1,h1⟩:∃S1,S++[O.dk []]=S1:=⟨_,rfl⟩
 have x1:Ex S S1:=h1▸zAe S _;have krl:kr<L:=by rw[<- hL];exact zCZ hr
 have nkl:nk<L:=by rw[<- hL];exact(qA3.mp hk).1
 have idl:∀i∈ids,i<L:=λi h=>by obtain⟨j,hj⟩:=qF6 h;obtain⟨xs,q,_⟩:=rws j i hj;rw[<- hL];exact zCZ q
 have hr1:=x1.lst hr λz=>z;have l1:S1.length=L+1:=by rw[<- h1,<- hL];simp
 have hd:(((m:Int)+1) / 2+1 - 1).toNat=(m+1) / 2:=by omega
 have bdk:∀z∈yk,z<256:=λz hz=>by obtain⟨i,_,hi⟩:=(s z).mp hz;exact zFy s3 hi
 obtain⟨B2,S2,e1,⟨v5,v6,v7,v8,rfl⟩,acc,la,sa⟩:=zBQ (w:=[]) (g:=gN 5) (b:=zAY c) (items:=upD 1 (((m:Int)+1) / 2+1 - 1).toNat) (P:=λj B S'=>(∃w5 w6 w7 w8,B=leE sw kr nk (some (.int ((m:Int)+1))) (some (.dct L)) w5 w6 w7 w8)/\∃acc,LA S1 L nk kk acc S'/\∀z,z∈acc↔z∉yk/\∃l,l<j/\∃a∈lv sw l,∃b∈lv sw (m - 1 - l),z=a &&& b∨z=a ||| b) (B:=leE sw kr nk (some (.int ((m:Int)+1))) (some (.dct L)) w5 w6 w7 w8) (S:=S1) (λ_ _ S' _=>zAg S') ⟨⟨_,_,_,_,rfl⟩,[],⟨[],by rw[<- h1,<- hL,qA0 (qA6 _)];simp,rfl,.nil,λz h=>(by cases h),zEA (x1.at hk λz=>z),Kp.refl _ _⟩,λz=>by simp⟩ (λj d B S' hdj hP=>by
  obtain⟨⟨w5,w6,w7,w8,rfl⟩,acc,la,sa⟩:=hP;rw[zFj,hd]at hdj;obtain⟨hj,rfl⟩:=hdj;have i1:ids[j]?=some (ids[j]'(by omega)):=qA4 _;have i2:ids[m - 1 - j]?=some (ids[m - 1 - j]'(by omega)):=qA4 _;obtain⟨x1',a1,a2⟩:=rws _ _ i1;obtain⟨x2',b1,b2⟩:=rws _ _ i2;have d1:=idl _ (qB5 i1);have d2:=idl _ (qB5 i2);obtain⟨B3,S3,e3,⟨u6,u7,u8,rfl⟩,p3⟩:=zTn (sw:=sw) (few:=1+(j:Int)) (many:=(m:Int)+1) c ky (by omega) la hr1 (by rw[show(1+(j:Int) - 1)=((j:Nat):Int) by omega];exact zCw (by rw[qC0,i1];rfl)) (by rw[show((m:Int)+1 - (1+(j:Int)) - 1)=((m - 1 - j:Nat):Int) by omega];exact zCw (by rw[qC0,i2];rfl)) (x1.lst a1 λz=>z) (x1.lst b1 λz=>z) (by omega) (by omega) (by omega) (λz hz=>zFy s3 ((a2 z).mp hz)) (λz hz=>zFy s3 ((b2 z).mp hz)) w6 w7 w8;refine⟨leE sw kr nk (some (.int ((m:Int)+1))) (some (.dct L)) (some (.int (1+(j:Int)))) w6 w7 w8,S',by simp[leE],_,S3,.inl e3,⟨_,_,_,_,rfl⟩,_,p3,λz=>?_⟩;rw[zKe,sa];constructor
  ·rintro(⟨h1,l,hl,q⟩| ⟨h1,a,ha,b,hb,q⟩)
   ·exact⟨h1,l,by omega,q⟩
   ·exact⟨h1,j,by omega,a,(a2 a).mp ha,b,(b2 b).mp hb,q⟩
  ·rintro⟨h1,l,hl,a,ha,b,hb,q⟩;by_cases e:l=j
   ·subst e;exact .inr ⟨h1,a,(a2 a).mpr ha,b,(b2 b).mpr hb,q⟩
   ·exact .inl ⟨h1,l,by omega,a,ha,b,hb,q⟩)
 have ul:(upD 1 (((m:Int)+1) / 2+1 - 1).toNat).length=(m+1) / 2:=by unfold upD;rw[qA8,qF2,hd]
 rw[ul]at sa;obtain⟨kl,q1,q2,q3,q4,q5,q6⟩:=la;have sacc:∀z,z∈acc↔z∈lv sw m:=λz=>by
  obtain⟨p,rfl⟩:∃p,m=p+1:=⟨m - 1,by omega⟩
  rw[sa,zFx];constructor
  ·rintro⟨h,l,hl,a,ha,b,hb,q⟩;exact⟨zIW (zHD sw _ ha) (zHD sw _ hb) q,λi hi hz=>h ((s z).mpr ⟨i,by omega,hz⟩),l,hl,a,ha,b,hb,q⟩
  ·rintro⟨_,h,l,hl,a,ha,b,hb,q⟩;refine⟨λhz=>?_,l,hl,a,ha,b,hb,q⟩;obtain⟨i,hi,hz⟩:=(s z).mp hz;exact h i (by omega) hz
 have hk2:S2[nk]?=some (.dk kk):=q6.at (x1.at hk λz=>z) (by omega);have lk:kk.length<=256:=by rw[zDk ky];exact zDH 256 nd bdk
 have ll:acc.length<=256:=zDH 256 q3 q4;have e2:mUpd (.dct nk) [.dct L] S2=.ok .non (S2.set nk (.dk (mrgD kk kl))):=by unfold mUpd;dsimp only;rw[hk2,zEA q1];dsimp only;rw[if_pos ⟨by omega,qD0 (qS0 lk (by rw[zDk q2];exact ll)) (by decide)⟩]
 obtain⟨S3,h3⟩:∃S3,S2.set nk (O.dk (mrgD kk kl))=S3:=⟨_,rfl⟩
 rw[h3]at e2;have k3:Kp (·=nk) S2 S3:=h3▸zCr S2 _;obtain⟨ys,y1,y2,y3⟩:=zHK q2 ky;have hk3:S3[nk]?=some (.dk (mrgD kk kl)):=by rw[<- h3];exact qC8 (qA3.mp hk2).1
 have nekr:kr≠nk:=λe=>by subst e;rw[zAI hr]at hk;cases hk
 have neid:∀i∈ids,i≠nk:=λi hi e=>by obtain⟨j,hj⟩:=qF6 hi;obtain⟨xs,q,_⟩:=rws j i hj;rw[e,zA3,hk]at q;cases q
 have hr3:zA3 S3 kr=some (ids.map D.lst):=k3.lst (q6.lst hr1 (by omega)) nekr;obtain⟨zs,z1,z2⟩:=zMk (k3.at q1 (by omega)) q2 ll;obtain⟨r,hrr⟩:∃r,S3.length=r:=⟨_,rfl⟩
 obtain⟨S4,h4⟩:∃S4,S3++[O.lst (zs.map inD)]=S4:=⟨_,rfl⟩
 rw[hrr,h4]at z2;have x4:Ex S3 S4:=h4▸zAe S3 _;have hr4:=x4.lst hr3 λz=>z;have e4:zCY zAR (.lst kr) [.lst r] S4=.ok .non (S4.set kr (.lst (ids.map D.lst++[.lst r]))):=by rw[zEc hr4,zDx,if_pos (by rw[qA8,hl,zB7];omega)]
 have lr:L<r:=by have:=q6.le;have:=k3.le;omega
 refine⟨_,_,_,_,_,_,_,zTj c (by rw[zHZ hr,qA8,hl]) hL h1 ⟨by omega,by omega⟩ e1 (zKV hk2 rfl) e2 (zE1 hr3) z2 e4,ids++[r],mrgD kk kl,ys,by simp[hl],?_,λi id hid=>?_,?_,y1,λz=>?_,y3 nd,λi hi'=>?_,n1,n2,⟨?_,λi hlt _=>?_⟩⟩
 ·rw[zBY hr4,qE1];rfl
 ·by_cases q:i<ids.length
  ·rw[qA7 q]at hid;have mem:=qB5 hid;exact(((((rws i id hid).kp x1 (λz=>z)).kp q6 (by have:=idl id mem;omega)).kp k3 (neid id mem)).kp x4 (λz=>z)).kp (zCr S4 _) (hi id mem).2
  ·rw[qA0 (by omega)]at hid;have:i - ids.length=0:=by have:=(qA3.mp hid).1;simp at this;omega
   rw[this]at hid;simp at hid;subst hid;have im:i=m:=by omega
   subst im;refine⟨zs,?_,λz=>by rw[z1.mem_iff];exact sacc z,z1.nodup_iff.mpr q3⟩;refine(zCr S4 (i:=kr) _).lst ?_ (by omega);rw[<- h4,<- hrr];exact zA5 _ _
 ·exact(zCr S4 (i:=kr) _).at (x4.at hk3 λz=>z) (λe=>nekr e.symm)
 ·rw[y2,s,sacc];constructor
  ·rintro(⟨i,hi,h⟩| h)
   ·exact⟨i,by omega,h⟩
   ·exact⟨m,by omega,h⟩
  ·rintro⟨i,hi,h⟩;by_cases e:i=m
   ·subst e;exact .inr h
   ·exact .inl ⟨i,by omega,h⟩
 ·rcases qB9.mp hi' with q|q
  ·exact hi i q
  ·simp at q;have:=x.le;omega
 ·rw[qJ1];have:=x.le;have:=x1.le;have:=q6.le;have:=k3.le;have:=x4.le;omega
 ·have:=x.le;have:=q6.le;have:=k3.le;rw[qD9 (by omega),x4.eq i (by omega) (λz=>z),k3.eq i (by omega) (by omega),q6.eq i (by omega) (by omega),x1.eq i (by omega) (λz=>z),x.eq i hlt (λz=>z)]
theorem zJY:∀{l m:List Nat},l.Nodup->(∀x∈l,x∈m)->l.length<=m.length
 |[],m,_,_=>by simp
 |a::l,m,nd,h=>by have nd':=qJ0.mp nd;have ha:=h a (by simp);have h1:=zJY (l:=l) (m:=m.erase a) nd'.2 (λx hx=>(List.mem_erase_of_ne (λe:x=a=>nd'.1 (e▸hx))).mpr (h x (by simp[hx])));rw[qM9 ha]at h1;have:=List.length_pos_of_mem ha;simp;omega
theorem zTC{N:Nat}{yk:List Nat}(nd:yk.Nodup)(bd:∀z∈yk,z<N)(h:¬yk.length<N){x:Nat}(hx:x<N):x∈yk:=by
 refine Classical.byContradiction λhn=>?_;have:=zDH N (l:=x::yk) (qJ0.mpr ⟨hn,nd⟩) (λz hz=>by
  rcases qB0.mp hz with rfl|hz
  ·exact hx
  ·exact bd z hz)
 simp at this;omega
theorem zT6{sw kr nk:Nat}{w3 w4 w5 w6 w7 w8:Option D}{len:Nat}{S:zA0}(s1:1<=sw)(s3:sw<=3)(el:fLen [.dct nk] S=.ok (.int (len:Nat)) S):(zAs (cBin oLt (cApp fLen (zA2 [(cVar 2)])) (cBin oShl (cCon (.int 1)) (cBin oShl (cCon (.int 1)) (cVar 0))))) (leE sw kr nk w3 w4 w5 w6 w7 w8) S=.ok (decide (len<NN sw)) S:=by
 have:sw=1∨sw=2∨sw=3:=by omega
 rcases this with rfl|rfl|rfl
 ·have q:decide (len<NN 1)=decide ((len:Int)<4):=by rw[decide_eq_decide];show len<4↔_;omega
  rw[q];simp[leE,el]
 ·have q:decide (len<NN 2)=decide ((len:Int)<16):=by rw[decide_eq_decide];show len<16↔_;omega
  rw[q];simp[leE,el]
 ·have q:decide (len<NN 3)=decide ((len:Int)<256):=by rw[decide_eq_decide];show len<256↔_;omega
  rw[q];simp[leE,el]
theorem zTI{S:zA0}{m:Nat}{kvs:List (Key×D)}(h:S[m]?=some (.dk kvs)):fLen [.dct m] S=.ok (.int (kvs.length:Nat)) S:=by unfold fLen;dsimp only;rw[h]
theorem zL1:∀ys:List Nat,prsD (ys.map λz=>D.tup [inD z,.int 1])=some (ys.map λz=>(inN z,D.int 1))
 |[]=>rfl
 |y::ys=>by rw[qB8,qB8];show(match zFF (inD y),prsD (ys.map λz=>D.tup [inD z,.int 1])with|some q,some ps=>some ((q,D.int 1)::ps)| _,_=>none)=_;rw[zL1 ys];rfl
theorem zMl{S:zA0}{n:Nat}{ys:List Nat}(h:S[n]?=some (.lst (ys.map λz=>D.tup [inD z,.int 1])))(hl:ys.length<=lim):zKw [.lst n] S=.ok (.dct S.length) (S++[.dk (mrgD [] (ys.map λz=>(inN z,D.int 1)))]):=by unfold zKw;dsimp only;rw[h];dsimp only;rw[zL1];dsimp only;rw[if_pos (by rw[qA8];exact hl)]
theorem zWh(c:CLL){s:Int}{f0 n0 r0 kr n5 nk:Nat}{X R Y:yM}{w3 w4 w5 w6 w7 w8:Option D}{S S1 S2 S3 S4 S5 S6 S7:zA0}(e1:c "_law_singles" [.int s] S=.ok (.lst f0) S1)(l1:zA3 S1 f0=some X)(hX:X.length<lim)(c1:zAW [(f0,X)] .one (λ_=>ret true) (zC9 c) [none] X S1=.ok R S1)(h0:S1.length=n0)(h2:S1++[.lst R]=S2)(e2:zC5 [.lst n0] S2=.ok (.lst r0) S3)(h3:S3.length=kr)(h4:S3++[.lst [.lst r0]]=S4)
  (i0:oIx (.lst kr) (.int 0) S4=.ok (.lst r0) S4) (l4:zA3 S4 r0=some Y) (hY:Y.length<lim) {P:yM} (c2:zAW [(r0,Y)] .one (λ_=>ret true) (zCa c) [none] Y S4=.ok P S4) (h5:S4.length=n5) (h6:S4++[.lst P]=S5) (e3:zKw [.lst n5] S5=.ok (.dct nk) S6)
  (e4:zCA zGj (zAs (cBin oLt (cApp fLen (zA2 [(cVar 2)])) (cBin oShl (cCon (.int 1)) (cBin oShl (cCon (.int 1)) (cVar 0))))) (zAZ c) [some (.int s),some (.lst kr),some (.dct nk),none,none,none,none,none,none] S6=.nx [some (.int s),some (.lst kr),some (.dct nk),w3,w4,w5,w6,w7,w8] S7) :
  zC0 c [some (.int s),none,none,none,none,none,none,none,none] S=.rt (.lst kr) S7:=by simp[zC0,e1,l1,hX,c1,h0,h2,e2,h3,h4,i0,l4,hY,c2,h5,h6,e3,e4]
theorem zUM{sw:Nat}(s1:1<=sw)(s3:sw<=3):((sinJ sw sw).map (numA 0)).Nodup:=by
 have:sw=1∨sw=2∨sw=3:=by omega
 rcases this with rfl|rfl|rfl<;>decide +kernel
def Full(sw j:Nat):Prop:=∀x,x<NN sw->∃i,i<j/\x∈lv sw i
structure HLe(cl:Nat->CLL):Prop where
 st:zAU cl
 si:zCI cl
 nu:zBd cl
 le:zEk cl
inductive zGW(sw:Nat)(S0:zA0)(kr:Nat)(S:zA0):Prop
 |mk (ids:List Nat) (m:Nat) (hl:ids.length=m) (m2:m<=900) (hr:zA3 S kr=some (ids.map D.lst)) (rw':RwS sw S ids) (full:Full sw m) (ls:∀j,1<=j->j<m->¬Full sw j)
theorem zKg(H:HLe cl)(n:Nat){sw:Nat}(s1:1<=sw)(s3:sw<=3)(S:zA0):∃kr S1,cl (n+3) "_law_levels" [.int (sw:Nat)] S=.ok (.lst kr) S1/\S.length<=kr/\Ex S S1/\zGW sw S kr S1:=by
 obtain⟨f0,S1,e1,g1,x1,l1⟩:=zIJ H.si H.st n s1 s3 S;have c1:zAW [(f0,(sinJ sw sw).map fnD)] .one (λ_=>ret true) (zC9 (cl (n+2))) [none] ((sinJ sw sw).map fnD) S1=.ok ((sinJ sw sw).map λb=>inD (numA 0 b)) S1:=by
  refine zCh fnD (zCo l1) _ _ λb _=>⟨_,rfl,?_⟩
  have:=zCD H.nu (n+1) b S1;simp[zC9,this,inD]
 have lsin:=zHs sw sw;obtain⟨ns,hns⟩:∃ns:List Nat,(sinJ sw sw).map (numA 0)=ns:=⟨_,rfl⟩
 have nsl:ns.length=2*sw:=by rw[<- hns,qA8,lsin]
 have nsm:∀z,z∈ns↔z∈lv sw 0:=λz=>by
  rw[zEv,<- hns];unfold sinJ lits;simp only[qD8,qN4];constructor
  ·rintro⟨b,⟨k,hk,hb⟩,rfl⟩;refine⟨k,hk,?_⟩;simp at hb;rcases hb with rfl|rfl
   ·simp[zLl]
   ·simp[zLl]
  ·rintro⟨k,hk,hz⟩;simp at hz;rcases hz with rfl|rfl
   ·exact⟨_,⟨k,hk,by simp⟩,zLl sw k 0⟩
   ·exact⟨_,⟨k,hk,by simp⟩,zLl sw k 1⟩
 have eR:((sinJ sw sw).map λb=>inD (numA 0 b))=(ns.map λz=>((z:Nat):Int)).map D.int:=by rw[<- hns,qD2,qD2];rfl
 rw[eR]at c1;obtain⟨n0,h0⟩:∃n0,S1.length=n0:=⟨_,rfl⟩
 obtain⟨S2,h2⟩:∃S2,S1++[O.lst ((ns.map λz=>((z:Nat):Int)).map D.int)]=S2:=⟨_,rfl⟩
 obtain⟨ys,y1,y2⟩:=zJ8 ns;have e2:zC5 [.lst n0] S2=.ok (.lst S2.length) (S2++[.lst (ys.map inD)]):=by rw[zKv (ns:=ns.map λz=>((z:Nat):Int)) (by rw[<- h2,<- h0];exact zA5 _ _) (by rw[qA8];omega),y2,qD2];rfl
 obtain⟨r0,hr0⟩:∃r0,S2.length=r0:=⟨_,rfl⟩
 obtain⟨S3,h3⟩:∃S3,S2++[O.lst (ys.map inD)]=S3:=⟨_,rfl⟩
 rw[hr0,h3]at e2;obtain⟨kr,hkr⟩:∃kr,S3.length=kr:=⟨_,rfl⟩
 obtain⟨S4,h4⟩:∃S4,S3++[O.lst [.lst r0]]=S4:=⟨_,rfl⟩
 have x12:Ex S1 S2:=h2▸zAe S1 _;have x23:Ex S2 S3:=h3▸zAe S2 _;have x34:Ex S3 S4:=h4▸zAe S3 _;have lr3:zA3 S3 r0=some (ys.map inD):=by rw[<- h3,<- hr0];exact zA5 _ _
 have lr4:=x34.lst lr3 λz=>z;have lk4:zA3 S4 kr=some ([r0].map D.lst):=by rw[<- h4,<- hkr];exact zA5 _ _
 have c2:zAW [(r0,ys.map inD)] .one (λ_=>ret true) (zCa (cl (n+2))) [none] (ys.map inD) S4=.ok (ys.map λz=>D.tup [inD z,.int 1]) S4:=by
  refine zCh inD (zCo lr4) _ _ λz _=>⟨_,rfl,?_⟩
  simp[zCa]
 obtain⟨n5,h5⟩:∃n5,S4.length=n5:=⟨_,rfl⟩
 obtain⟨S5,h6⟩:∃S5,S4++[O.lst (ys.map λz=>D.tup [inD z,.int 1])]=S5:=⟨_,rfl⟩
 have ysl:ys.length=2*sw:=by rw[y1.length_eq,nsl]
 have e3:=zMl (S:=S5) (n:=n5) (ys:=ys) (by rw[<- h6,<- h5,qA0 (qA6 _)];simp) (by rw[zB7];omega);obtain⟨nk,hnk⟩:∃nk,S5.length=nk:=⟨_,rfl⟩
 obtain⟨S6,h7⟩:∃S6,S5++[O.dk (mrgD [] (ys.map λz=>(inN z,D.int 1)))]=S6:=⟨_,rfl⟩
 rw[hnk,h7]at e3;have x45:Ex S4 S5:=h6▸zAe S4 _;have x56:Ex S5 S6:=h7▸zAe S5 _;have hk6:S6[nk]?=some (.dk (mrgD [] (ys.map λz=>(inN z,D.int 1)))):=by rw[<- h7,<- hnk,qA0 (qA6 _)];simp
 obtain⟨zs,z1,z2,z3⟩:=zHK (more:=ys.map λz=>(inN z,D.int 1)) (kvs:=[]) (ms:=ys) (xs:=[]) (by unfold Kys;rw[qD2];rfl) rfl;have st:WS sw S kr nk 1 S6:=by
  have:=x1.le;have:=x12.le;have:=x23.le;have:=x34.le;have:=x45.le;have sl2:S2.length=n0+1:=by rw[<- h2,<- h0];simp
  have sl3:S3.length=r0+1:=by rw[<- h3,<- hr0];simp
  refine⟨[r0],_,zs,rfl,x56.lst (x45.lst lk4 λz=>z) λz=>z,λi id hid=>?_,hk6,z1,λz=>?_,z3 .nil,λi hi=>?_,by omega,by omega,((((x1.trans x12).trans x23).trans x34).trans x45).trans x56⟩
  ·have:i=0:=by have:=(qA3.mp hid).1;simp at this;omega
   subst this;simp at hid;subst hid;exact⟨ys,x56.lst (x45.lst lr4 λz=>z) λz=>z,λz=>by rw[y1.mem_iff,nsm],y1.nodup_iff.mpr (hns▸zUM s1 s3)⟩
  ·rw[z2,y1.mem_iff,nsm];constructor
   ·rintro(h|h)
    ·cases h
    ·exact⟨0,by omega,h⟩
   ·rintro⟨i,hi,h⟩;have:i=0:=by omega
    subst this;exact .inr h
  ·simp at hi;omega
 obtain⟨B',S7,e4,⟨w3,w4,w5,w6,w7,w8,rfl⟩,⟨m,q,mle,full,ls⟩⟩:=zF8 (t:=zAs (cBin oLt (cApp fLen (zA2 [(cVar 2)])) (cBin oShl (cCon (.int 1)) (cBin oShl (cCon (.int 1)) (cVar 0))))) (b:=zAZ (cl (n+2))) (P:=λk B S'=>(∃w3 w4 w5 w6 w7 w8,B=leE sw kr nk w3 w4 w5 w6 w7 w8)/\∃m,WS sw S kr nk m S'/\1<=m/\m<=26/\(∀j,1<=j->j<m->¬Full sw j)/\k=26 - m) (Q:=fun B S'=>(∃w3 w4 w5 w6 w7 w8,B=leE sw kr nk w3 w4 w5 w6 w7 w8)/\∃m,WS sw S kr nk m S'/\m<=26/\Full sw m/\∀j,1<=j->j<m->¬Full sw j) (λk B S' h=>by
  obtain⟨⟨w3,w4,w5,w6,w7,w8,rfl⟩,m,ws,m1,m26,nf,rfl⟩:=h;have ws':=ws;obtain⟨ids,kk,yk,a1,a2,a3,a4,a5,a6,a7,a8,a9,a10,a11⟩:=ws';have tt:=zT6 (sw:=sw) (kr:=kr) (w3:=w3) (w4:=w4) (w5:=w5) (w6:=w6) (w7:=w7) (w8:=w8) s1 s3 (zTI a4);have kl:=zDk a5;have bd:∀z∈yk,z<NN sw:=λz hz=>by obtain⟨i,_,hi⟩:=(a6 z).mp hz;exact zHD sw i hi
  by_cases hlt:kk.length<NN sw
  ·have m25:m<26:=by
    refine Classical.byContradiction λhm=>?_;have:(List.range (NN sw)).length<=yk.length:=zJY qR3 λx hx=>by obtain⟨i,hi,h⟩:=cov s1 s3 (qF7.mp hx);exact(a6 x).mpr ⟨i,by omega,h⟩
    rw[qF2]at this;omega
   obtain⟨S8,v3,v4,v5,v6,v7,v8,b1,b2⟩:=zTi n s3 m1 (by omega) ws (cl (n+2)) w3 w4 w5 w6 w7 w8;refine .inr ⟨S',by simpa[hlt]using tt,_,S8,.inl b1,26 - (m+1),by omega,⟨_,_,_,_,_,_,rfl⟩,m+1,b2,by omega,by omega,λj j1 j2 hf=>?_,rfl⟩;by_cases e:j=m
   ·subst e;have:(List.range (NN sw)).length<=yk.length:=zJY qR3 λx hx=>(a6 x).mpr (hf x (qF7.mp hx));rw[qF2]at this;omega
   ·exact nf j j1 (by omega) hf
  ·exact .inl ⟨S',by simpa[hlt]using tt,⟨_,_,_,_,_,_,rfl⟩,m,ws,m26,λx hx=>(a6 x).mp (zTC a7 bd (by omega) hx),nf⟩) zGj 25 (leE sw kr nk none none none none none none) S6 (by show 25<100000;omega) ⟨⟨_,_,_,_,_,_,rfl⟩,1,st,by omega,by omega,λj j1 j2=>by omega,rfl⟩
 obtain⟨ids,kk,yk,a1,a2,a3,a4,a5,a6,a7,a8,a9,a10,a11⟩:=q;refine⟨kr,S7,?_,a9,a11,ids,m,a1,by omega,a2,a3,full,ls⟩;rw[H.le];exact zAd rfl (zWh _ e1 l1 (by rw[qA8,lsin,zB7];omega) c1 h0 h2 e2 hkr h4 (by rw[zBH lk4];rfl) lr4 (by rw[qA8,ysl,zB7];omega) c2 h5 h6 e3 e4)
theorem zIY{S:zA0}{q:Nat}{l:yA}(h:zA3 S q=some (l.map D.int))(neg:Bool)(a:Int):oIn neg (.int a) (.lst q) S=.ok (.bl (if neg then !decide (a∈l)else decide (a∈l))) S:=by have e:zIL S (.lst q)=some (l.map D.int):=h;unfold oIn;dsimp only;rw[e];show(match (l.map D.int).mapM flat with|some vs=>R.ok (D.bl (if neg then !inV (.int a) vs else inV (.int a) vs)) S|none=>.bad)=_;rw[zMh];dsimp only;rw[zQC]
theorem zOB{ix:Nat}:∀(m:Nat),ix<m->(List.range m).filter (λi=>decide (i=ix))=[ix]
 |0,h=>absurd h (qO0 _)
 |m+1,h=>by
  rw[qO1,List.filter_append];by_cases e:ix=m
  ·subst e;have:(List.range ix).filter (λi=>decide (i=ix))=[]:=List.filter_eq_nil_iff.mpr λa ha=>by have:=qF7.mp ha;simp;omega
   rw[this];simp
  ·rw[zOB m (by omega)];simp[Ne.symm e]
theorem zQV(ids:List Nat):zEY (ids.map D.lst)=(List.range ids.length).map λi=>.tup [.int (i:Nat),.lst (ids.getD i 0)]:=by
 refine List.ext_getElem? λi=>?_;by_cases h:i<ids.length
 ·rw[zI3 (by simpa using h),qC0,qK1 h];simp[qK0,h]
 ·rw[qJ3 (by rw[zD0];simp;omega),qJ3 (by simp;omega)]
theorem zZc(c:CLL){i:Int}{r:Nat}{x:Int}{b:Bool}{S:zA0}(e:oIn false (.int x) (.lst r) S=.ok (.bl b) S):zBu c [some (.int i),some (.lst r),some (.int x)] S=.ok b S/\zBv c [some (.int i),some (.lst r),some (.int x)] S=.ok (.int i) S:=by
 constructor
 ·simp[zBu,e]
 ·simp[zBv]
theorem zWi(c:CLL){kr:Nat}{bd:D}{x ix:Int}{X E:yM}{S S1:zA0}(e1:c "_law_number_of" [bd] S=.ok (.int x) S)(l:zA3 S kr=some X)(hE:zEY X=E)(hl:E.length<lim)(c1:zAW [(kr,X)] (.many 2) (zBu c) (zBv c) [none,none,some (.int x)] E S=.ok [.int ix] S)(h1:S++[.lst [.int ix]]=S1)(i0:oIx (.lst S.length) (.int 0) S1=.ok (.int ix) S1):zC1 c [some (.lst kr),some bd,none] S=.rt (.int (ix+1)) S1:=by simp[zC1,e1,l,hE,hl,c1,h1,i0]
theorem zFD(h:zD9 cl)(hn:zBd cl)(n:Nat){sw kr ix:Nat}{S0 S:zA0}(R:zGW sw S0 kr S){bs:List Bool}(hx:numA 0 bs∈lv sw ix):Spc (cl (n+2) "_law_fewest" [.lst kr,fnD bs] S) (.int ((ix+1:Nat):Int)) S:=by
 obtain⟨ids,m,hl,m2,hr,rws,full⟩:=R;have hix:ix<m:=by obtain⟨i,hi,h⟩:=full _ (zHD sw ix hx);have:=zKf sw h hx;omega
 have c1:zAW [(kr,ids.map D.lst)] (.many 2) (zBu (cl (n+1))) (zBv (cl (n+1))) [none,none,some (.int (numA 0 bs:Nat))] ((List.range ids.length).map λi=>D.tup [.int (i:Nat),.lst (ids.getD i 0)]) S=.ok (((List.range ids.length).filter λi=>decide (i=ix)).map λi=>D.int (i:Nat)) S:=by
  refine zEe (λi:Nat=>D.tup [.int (i:Nat),.lst (ids.getD i 0)]) (zCo hr) _ _ _ λi hi=>⟨_,rfl,?_⟩
  have hi':=qF7.mp hi;have gi:ids[i]?=some (ids.getD i 0):=by simp[qK0,hi']
  obtain⟨xs,a1,a2⟩:=rws _ _ gi;have e:=zIY (l:=xs.map λz=>((z:Nat):Int)) (by rw[qD2];exact a1) false (numA 0 bs:Nat);have eb:decide (((numA 0 bs:Nat):Int)∈xs.map λz=>((z:Nat):Int))=decide (i=ix):=by
   rw[decide_eq_decide];constructor
   ·intro q;obtain⟨z,hz,ez⟩:=qD8.mp q;have:z=numA 0 bs:=by omega
    exact zKf sw ((a2 z).mp hz) (this▸hx)
   ·rintro rfl;exact qD8.mpr ⟨_,(a2 _).mpr hx,rfl⟩
  rw[if_neg qA9,eb]at e;have:=zZc (cl (n+1)) (i:=(i:Nat)) e;exact⟨this.1,λ_=>this.2⟩
 rw[hl,zOB m hix]at c1;refine⟨S++[O.lst [.int (ix:Nat)]],?_,zAe _ _⟩;rw[h,show((ix+1:Nat):Int)=(ix:Int)+1 by omega];exact zAd rfl (zWi (ix:=(ix:Int)) _ (zCD hn n bs S) hr (zQV ids) (by rw[qA8,qF2,zB7];omega) (by rw[hl];exact c1) rfl (by rw[zBH (zA5 _ _)];rfl))
theorem zDw{t:Tr}:∀{ps:List Tr},t∈ps->t.lv<=Tr.lvs ps
 |p::ps,h=>by
  show t.lv<=p.lv+Tr.lvs ps;rcases qB0.mp h with rfl|h
  ·omega
  ·have:=zDw h;omega
theorem zMQ(c:CLL){k o x:Int}{sd:D}{S:zA0}(ix:oIx sd (.int k) S=.ok (.int x) S):zAf c [some (Tr.lf k o).d,some sd,none] S=.rt (.int (b1 (decide (x=o)))) S:=by
 by_cases h:x=o
 ·simp[zAf,Tr.d,ix,h,b1]
 ·simp[zAf,Tr.d,ix,h,b1]
theorem zUr(c:CLL){p sd d:D}{S S1:zA0}(e:c "_law_tree_bit" [p,sd] S=.ok d S1):zAO c [some p,some sd] S=.ok d S1:=by simp[zAO,e]
theorem zMP(c:CLL){r:Bool}{k:Int}{sd:D}{X R:yM}{S S1 S2:zA0}(hl:X.length<lim)(e:zAW [] .one (λ_=>ret true) (zAO c) [none,some sd] X S=.ok R S1)(h2:S1++[.lst R]=S2)(o:(if r then fMin [.lst S1.length] S2 else fMax [.lst S1.length] S2)=.ok (.int k) S2):zAf c [some (.tup [.str (kw r),.tup X]),some sd,none] S=.rt (.int k) S2:=by
 cases r
 ·rw[if_neg qA9]at o;simp[zAf,zQl,zLn,hl,e,h2,o]
 ·rw[if_pos rfl]at o;simp[zAf,zQl,zLn,hl,e,h2,o]
theorem zHG(a:Bool):∀bs:List Bool,zDi (b1 a) (bs.map b1)=b1 (a&&bs.all id)
 |[]=>by simp[zDi]
 |b::bs=>by rw[qB8];unfold zDi;rw[zHG b bs,zHG a bs];cases a<;>cases b<;>simp[b1]
theorem zKb(a:Bool):∀bs:List Bool,zFw (b1 a) (bs.map b1)=b1 (a||bs.any id)
 |[]=>by simp[zFw]
 |b::bs=>by rw[qB8];unfold zFw;rw[zKb b bs,zKb a bs];cases a<;>cases b<;>simp[b1]
theorem zNC(st:yA):∀ps:List Tr,Tr.onA st ps=(ps.map λt=>t.on st).all id
 |[]=>rfl
 |t::ps=>by show(t.on st&&Tr.onA st ps)=_;rw[zNC st ps];rfl
theorem zNB(st:yA):∀ps:List Tr,Tr.onO st ps=(ps.map λt=>t.on st).any id
 |[]=>rfl
 |t::ps=>by show(t.on st||Tr.onO st ps)=_;rw[zNB st ps];rfl
theorem zQP{S:zA0}{q:Nat}{a:Int}{r:yA}(h:zA3 S q=some ((a::r).map D.int)):fMin [.lst q] S=.ok (.int (zDi a r)) S/\fMax [.lst q] S=.ok (.int (zFw a r)) S:=by
 have e:(zA3 S q).bind zDm=some (a::r):=by rw[h];exact zEy _
 constructor
 ·unfold fMin;dsimp only;rw[e]
 ·unfold fMax;dsimp only;rw[e]
theorem zHn(h:zCy cl){sw:Int}{st:yA}(hst:(st.length:Int)=sw):∀(K:Nat) (t:Tr),t.ht<=K->t.wf sw->t.lv<=1000->∀(n:Nat) (S:zA0),Spc (cl (n+K+1) "_law_tree_bit" [t.d,zAb st] S) (.int (b1 (t.on st))) S:=by
 have leaf:∀(k o:Int),(Tr.lf k o).wf sw->∀(n:Nat) (S:zA0),Spc (cl (n+1) "_law_tree_bit" [(Tr.lf k o).d,zAb st] S) (.int (b1 ((Tr.lf k o).on st))) S:=λk o hw n S=>by
  obtain⟨h1,h2,_,_⟩:=hw;have ix:oIx (zAb st) (.int k) S=.ok (.int (st.getD k.toNat 0)) S:=by show oIx (.tup (st.map D.int)) (.int k) S=_;rw[zT1,zIp h1 (by omega)]
  refine⟨S,?_,Kp.refl _ _⟩;rw[h];exact zAd rfl (zMQ _ ix)
 intro K
 induction K with
 |zero =>
  intro t ht hw hs n S;cases t with
  |lf k o=>exact leaf k o hw n S
  |nd r ps=>simp[Tr.ht]at ht
 |succ K ih =>
  intro t ht hw hs n S;cases t with
  |lf k o=>exact leaf k o hw (n+(K+1)) S
  |nd r ps =>
   have ht':Tr.hts ps+1<=K+1:=ht;have hs':Tr.lvs ps<=1000:=hs;have hw':2<=ps.length/\Tr.wfs sw ps:=hw;have hpl:=lvs_len ps hw'.2;obtain⟨S1,e1,x1⟩:=zEf Tr.d (w:=[]) (t:=.one) (c:=zAO (cl (n+K+1))) (B0:=[none,some (zAb st)]) (λS'=>Ex S S') (λS' _=>zAg _) (λt=>D.int (b1 (t.on st))) ps (Kp.refl _ _)
    (λt hm S' x=>by
     obtain⟨S3,e3,x3⟩:=ih t (by have:=zHQ hm;omega) (zFi hw'.2 t hm) (by have:=zDw hm;omega) n S';exact⟨_,rfl,S3,zUr _ e3,x.trans x3⟩)
   obtain⟨S2,h2⟩:∃S2,S1++[O.lst (ps.map λt=>D.int (b1 (t.on st)))]=S2:=⟨_,rfl⟩
   have o:(if r then fMin [.lst S1.length] S2 else fMax [.lst S1.length] S2)=.ok (.int (b1 ((Tr.nd r ps).on st))) S2:=by
    cases ps with
    |nil=>simp at hw'
    |cons t0 qs =>
     have l2:zA3 S2 S1.length=some ((b1 (t0.on st)::((qs.map λt=>t.on st).map b1)).map D.int):=by rw[<- h2,zA5,qD2,qB8,qB8,qD2];rfl
     obtain⟨m1,m2⟩:=zQP l2;cases r
     ·rw[if_neg qA9,m2,zKb,<- zNB];rfl
     ·rw[if_pos rfl,m1,zHG,<- zNC];rfl
   refine⟨S2,?_,x1.trans (h2▸zAe _ _)⟩;rw[show n+(K+1)+1=(n+K+1)+1 by omega,h,show(Tr.nd r ps).d=.tup [.str (kw r),.tup (ps.map Tr.d)] by simp[Tr.d,zLA]];exact zAd rfl (zMP _ (by rw[qA8,zB7];omega) e1 h2 o)
theorem zRm(c:CLL){k lo hi:Int}(h:lo<=k/\k<hi)(S:zA0):zCu c [some (.int k),some (.int lo),some (.int hi)] S=.rt (.bl true) S:=by simp[zCu,h]
theorem zZh(r:Bool)(S:zA0):oIn true (.str (kw r)) (.tup [.str (Str.ofString "at"),.str (Str.ofString "row"),.str (Str.ofString "side")]) S=.ok (.bl false) S:=by cases r<;>rfl
theorem zZH(S:zA0):oIn true (.str (Str.ofString "at")) (.tup [.str (Str.ofString "at"),.str (Str.ofString "row"),.str (Str.ofString "side")]) S=.ok (.bl false) S:=rfl
theorem zTV(c:CLL){sd k o:D}{S:zA0}(e1:c "_law_whole" [k,.int 0,sd] S=.ok (.bl true) S)(e2:c "_law_whole" [o,.int 0,.int 2] S=.ok (.bl true) S):zAv c [some sd,some (.tup [.str (Str.ofString "at"),k,o]),none] S=.rt (.int 1) S:=by simp[zAv,zZH,e1,e2]
theorem co_e(c:CLL){p sd d:D}{S S1:zA0}(e:c "_law_contacts" [sd,p] S=.ok d S1):zAQ c [some p,some sd] S=.ok d S1:=by simp[zAQ,e]
theorem zTU(c:CLL){r:Bool}{z:Int}{sd:D}{X R:yM}{S S1 S2:zA0}(h2':¬(X.length:Int)<2)(hl:X.length<lim)(e:zAW [] .one (λ_=>ret true) (zAQ c) [none,some sd] X S=.ok R S1)(h2:S1++[.lst R]=S2)(o1:oIn false (.int 0) (.lst S1.length) S2=.ok (.bl false) S2)(o2:fSum [.lst S1.length] S2=.ok (.int z) S2):zAv c [some sd,some (.tup [.str (kw r),.tup X]),none] S=.rt (.int z) S2:=by simp[zAv,zZh,zQl,hl,h2',e,h2,o1,o2]
theorem zI8(h:zCz cl)(hw:zDr cl){sw:Int}:∀(K:Nat) (t:Tr),t.ht<=K->t.wf sw->t.lv<=1000->∀(n:Nat) (S:zA0),Spc (cl (n+K+2) "_law_contacts" [.int sw,t.d] S) (.int (t.lv:Nat)) S:=by
 have leaf:∀(k o:Int),(Tr.lf k o).wf sw->∀(n:Nat) (S:zA0),Spc (cl (n+2) "_law_contacts" [.int sw,(Tr.lf k o).d] S) (.int ((Tr.lf k o).lv:Nat)) S:=λk o hwf n S=>by
  obtain⟨h1,h2,h3,h4⟩:=hwf;have e1:cl (n+1) "_law_whole" [.int k,.int 0,.int sw] S=.ok (.bl true) S:=by rw[hw];exact zAd rfl (zRm _ ⟨h1,h2⟩ S)
  have e2:cl (n+1) "_law_whole" [.int o,.int 0,.int 2] S=.ok (.bl true) S:=by rw[hw];exact zAd rfl (zRm _ ⟨h3,h4⟩ S)
  refine⟨S,?_,Kp.refl _ _⟩;rw[h];exact zAd rfl (zTV _ e1 e2)
 intro K
 induction K with
 |zero =>
  intro t ht hwf hs n S;cases t with
  |lf k o=>exact leaf k o hwf n S
  |nd r ps=>simp[Tr.ht]at ht
 |succ K ih =>
  intro t ht hwf hs n S;cases t with
  |lf k o=>exact leaf k o hwf (n+(K+1)) S
  |nd r ps =>
   have ht':Tr.hts ps+1<=K+1:=ht;have hs':Tr.lvs ps<=1000:=hs;have hw':2<=ps.length/\Tr.wfs sw ps:=hwf;have hpl:=lvs_len ps hw'.2;obtain⟨S1,e1,x1⟩:=zEf Tr.d (w:=[]) (t:=.one) (c:=zAQ (cl (n+K+2))) (B0:=[none,some (.int sw)]) (λS'=>Ex S S') (λS' _=>zAg _) (λt=>D.int (t.lv:Nat)) ps (Kp.refl _ _)
    (λt hm S' x=>by
     obtain⟨S3,e3,x3⟩:=ih t (by have:=zHQ hm;omega) (zFi hw'.2 t hm) (by have:=zDw hm;omega) n S';exact⟨_,rfl,S3,co_e _ e3,x.trans x3⟩)
   obtain⟨S2,h2⟩:∃S2,S1++[O.lst (ps.map λt=>D.int (t.lv:Nat))]=S2:=⟨_,rfl⟩
   have l2:zA3 S2 S1.length=some ((ps.map λt=>((t.lv:Nat):Int)).map D.int):=by rw[<- h2,qD2];exact zA5 _ _
   have o1:=zIY l2 false 0;have z0:(0:Int)∉ps.map λt=>((t.lv:Nat):Int):=λq=>by obtain⟨t,ht,e⟩:=qD8.mp q;have:=zRn t (zFi hw'.2 t ht);omega
   rw[if_neg qA9,decide_eq_false z0]at o1;have o2:=zQO l2 (λi hi=>by
    obtain⟨t,ht,e⟩:=qD8.mp hi;have:=zDw ht;omega) (by rw[qA8];omega)
   have sm:∀ps:List Tr,(ps.map λt=>((t.lv:Nat):Int)).sum=((Tr.lvs ps:Nat):Int):=λps=>by
    induction ps with
    |nil=>rfl
    |cons t ps ih=>rw[qB8,List.sum_cons,ih];show _=((t.lv+Tr.lvs ps:Nat):Int);omega
   rw[sm]at o2;refine⟨S2,?_,x1.trans (h2▸zAe _ _)⟩;rw[show n+(K+1)+2=(n+K+2)+1 by omega,h,show(Tr.nd r ps).d=.tup [.str (kw r),.tup (ps.map Tr.d)] by simp[Tr.d,zLA]];exact zAd rfl (zTU _ (by rw[qA8];omega) (by rw[qA8,zB7];omega) e1 h2 o1 o2)
theorem zZa(c:CLL){td st d:D}{S S1:zA0}(e:c "_law_tree_bit" [td,st] S=.ok d S1):zAP c [some st,some td] S=.ok d S1:=by simp[zAP,e]
theorem zWe(c:CLL){sd fd td:D}{kr m:Nat}{z:Int}{X R:yM}{S S1 S2 S3 S4 S5 S6 S7:zA0}(e1:c "_law_fewest" [.lst kr,fd] S=.ok (.int z) S1)(e2:c "fewest" [fd] S1=.ok (.int z) S2)(e3:c "fewest_tree" [fd] S2=.ok td S3)(e4:c "_law_contacts" [sd,td] S3=.ok (.int z) S4)(e5:c "_law_settings" [sd] S4=.ok (.lst m) S5)(l5:zA3 S5 m=some X)(hX:X.length<lim)(c1:zAW [(m,X)] .one (λ_=>ret true) (zAP c) [none,some td] X S5=.ok R S6)(h7:S6++[.lst R]=S7)(t:zBx [.lst S6.length] S7=.ok (.tup R) S7)(q:oEq (.tup R) fd S7=.ok (.bl true) S7):zBc c [some sd,some fd,some (.lst kr),none,none,none] S=.rt (.bl true) S7:=by simp[zBc,e1,e2,e3,e4,e5,l5,hX,c1,h7,t,q]
structure HRi(cl:Nat->CLL):Prop where
 fe:HFe cl
 le:HLe cl
 lf:zD9 cl
 co:zCz cl
 wh:zDr cl
 tb:zCy cl
 ri:zDt cl
theorem zM0(H:HRi cl)(n:Nat){sw kr:Nat}(s1:1<=sw)(s3:sw<=3){S0 S:zA0}(R:zGW sw S0 kr S){bs:List Bool}(hl:bs.length=2 ^ sw)(hq:∀S:zA0,oEq (fnD bs) (fnD bs) S=.ok (.bl true) S):Spc (cl (n+29) "_law_right" [.int (sw:Nat),fnD bs,.lst kr] S) (.bl true) S:=by
 have hlt:numA 0 bs<NN sw:=by have:=zLc bs 0;rw[hl]at this;simpa[NN]using this
 obtain⟨ix,hi,hx⟩:=cov s1 s3 hlt;obtain⟨S1,e1,x1⟩:=zFD H.lf H.le.nu (n+26) R hx;obtain⟨S2,e2,x2⟩:=zDX H.fe (n+20) s1 s3 hl hx (by omega) S1;obtain⟨t,t1,t2,t3,t4,S3,e3,x3⟩:=zEX H.fe (n+20) s1 s3 hl hx (by omega) S2;obtain⟨S4,e4,x4⟩:=zI8 H.co H.wh (sw:=(sw:Int)) 25 t (by omega) t1 (by omega) (n+1) S3;rw[t2]at e4;obtain⟨m,S5,e5,x5,_,l5⟩:=zCT H.le.st (n+27) (sw:=(sw:Int)) (by omega) (by omega) S4;rw[qE0]at l5;obtain⟨S6,c1,x6⟩:=zEf zAb (w:=[(m,(sett sw).map zAb)]) (t:=.one) (c:=zAP (cl (n+28))) (B0:=[none,some t.d]) (λS'=>Ex S5 S') (λS' x=>zCo (x.lst l5 λz=>z)) (λst=>D.int (b1 (t.on st))) (sett sw) (Kp.refl _ _) (λst hst S' x=>by
  obtain⟨S8,e8,x8⟩:=zHn H.tb (sw:=(sw:Int)) (st:=st) (by rw[zFb sw hst]) 25 t (by omega) t1 (by omega) (n+2) S';exact⟨_,rfl,S8,zZa _ e8,x.trans x8⟩)
 have eR:((sett sw).map λst=>D.int (b1 (t.on st)))=fnX bs:=by rw[<- t4];unfold fnX;rw[qD2];rfl
 rw[eR]at c1;refine⟨S6++[O.lst (fnX bs)],?_,((((((x1.trans x2).trans x3).trans x4).trans x5).trans x6).trans (zAe _ _))⟩;rw[H.ri];exact zAd rfl (zWe _ e1 e2 e3 e4 e5 l5 (by
  rw[qA8,zC7,zB7];have:2 ^ sw<=2 ^ 3:=qJ5 (by decide) s3;omega) c1 rfl (zCg (zA5 _ _)) (hq _))
theorem zYi(c:CLL){w0:Option D}{i:Nat}{r:Int}{S S1:zA0}(e:c "_law_take" [.lst i,.int 2] S=.ok (.int r) S1):zAi c [w0,some (.lst i)] S=.ok (.int r) S1:=by simp[zAi,e]
theorem zUS(c:CLL){i:Nat}{s p:Int}{R:yM}{S S1 S2:zA0}(hs:0<=s/\s<=4)(hp:1*2 ^ s.toNat=p)(hp2:-4611686018427387904<=p/\p<4611686018427387904)(hl:(upD 0 p.toNat).length<lim)(e:zAW [] .one (λ_=>ret true) (zAi c) [none,some (.lst i)] (upD 0 p.toNat) S=.ok R S1)(h2:S1++[.lst R]=S2)(t:zBx [.lst S1.length] S2=.ok (.tup R) S2):zAp c [some (.lst i),some (.int s)] S=.rt (.tup R) S2:=by
 have h4:s<=1000000:=by omega
 simp only[Int.one_mul]at hp;simp[zAp,hs.1,h4,hp,hp2,hl,e,h2,t]
theorem zIG(h:zB2 cl)(ht:zD8 cl)(n:Nat){sw i:Nat}(s4:sw<=4){S:zA0}(hS:StOk S i):∃bs S1,cl (n+2) "_law_some_function" [.lst i,.int (sw:Nat)] S=.ok (fnD bs) S1/\bs.length=2 ^ sw/\Kp (·=i) S S1/\StOk S1 i:=by
 have hp:(1*2 ^ ((sw:Nat):Int).toNat:Int)=((2 ^ sw:Nat):Int):=by rw[qE0];simp
 have hp16:2 ^ sw<=2 ^ 4:=qJ5 (by decide) s4;obtain⟨ds,S1,e,l,⟨bs,hb,kp,st⟩⟩:=zOX (w:=[]) (t:=.one) (c:=zAi (cl (n+1))) (B0:=[none,some (.lst i)]) (P:=λacc S'=>∃bs,acc=fnX bs/\Kp (·=i) S S'/\StOk S' i) (λ_ S _=>zAg S) (upD 0 ((2 ^ sw:Nat):Int).toNat) [] (S:=S) ⟨[],rfl,Kp.refl _ _,hS⟩ (λd _ acc S' hP=>by
  obtain⟨bs,rfl,kp,st⟩:=hP;obtain⟨r,S2,e2,a,b,k2,_,st2⟩:=zID ht n st (m:=2) (by decide) (by decide);refine⟨_,rfl,.int r,S2,zYi _ e2,bs++[decide (r=1)],?_,kp.trans k2,st2⟩;have:r=0∨r=1:=by omega
  unfold fnX;rw[qE1];rcases this with rfl|rfl<;>simp[b1])
 rw[qN9]at hb;subst hb;have ul:(upD 0 ((2 ^ sw:Nat):Int).toNat).length=2 ^ sw:=by unfold upD;rw[qA8,qF2,qE0]
 refine⟨bs,S1++[O.lst (fnX bs)],?_,?_,kp.trans (zAe _ _).kp,?_⟩
 ·rw[h];refine zAd rfl (zUS _ ⟨by omega,by omega⟩ hp ⟨by omega,by omega⟩ (by rw[ul,zB7];omega) e rfl (zCg (zA5 _ _)))
 ·rw[ul]at l;unfold fnX at l;rw[qA8]at l;exact l
 ·obtain⟨s,b,q1,q2⟩:=st;exact⟨s,b,zCR q1,q2⟩
theorem zDh{c g:Str}(hc:c∈xoL)(S:zA0):oIsX g (.xc c) S=.ok (.bl (c == g||g == ("ValueError":Str))) S:=by unfold oIsX;dsimp only;rw[if_pos hc]
noncomputable def xoN:List (Str×Int):=[("TooMany",0),("NoContact",1),("NoBridge",2),("NoName",3),("BadNote",4),("NoPlace",5),("NoTable",6)]
noncomputable abbrev flg(b0 b1 b2 b3 b4 b5 b6:Bool):List (Int×Bool):=[(0,b0),(1,b1),(2,b2),(3,b3),(4,b4),(5,b5),(6,b6)]
theorem zSy{S:zA0}{n:Nat}{b0 b1 b2 b3 b4 b5 b6:Bool}{B:Env1}(h:zA3 S n=some [.bl b0,.bl b1,.bl b2,.bl b3,.bl b4,.bl b5,.bl b6])(hB:B[3]?=some (some (.lst n))):
  zAW [] .one (cTru (cBin oIx (cVar 1) (cVar 0))) (cVar 0) (stE 1 [3] B) (upD 0 7) S=.ok ((((flg b0 b1 b2 b3 b4 b5 b6).filter (·.2)).map (·.1)).map D.int) S:=by
 have e:upD 0 7=(flg b0 b1 b2 b3 b4 b5 b6).map λp=>D.int p.1:=rfl;rw[e,qD2];refine zEe (λp:Int×Bool=>D.int p.1) (zAg _) (·.2) (λp=>D.int p.1) _ λp hp=>?_;have es:stE 1 [3] B=[none,some (.lst n)]:=by unfold stE;simp[hB]
 rw[es];refine⟨[some (.int p.1),some (.lst n)],rfl,?_,λ_=>rfl⟩;have ex:oIx (.lst n) (.int p.1) S=.ok (.bl p.2) S:=by rw[zBH h];simp only[qB0,qD3,or_false]at hp;rcases hp with rfl|rfl|rfl|rfl|rfl|rfl|rfl<;>rfl
 simp[ex]
theorem zDP{c:Str}{S:zA0}{b0 b1 b2 b3 b4 b5 b6:Bool}(hc:c∈xoL)(h0:(c == ("TooMany":Str)||("TooMany":Str) == "ValueError")=b0)(h1:(c == ("NoContact":Str)||("NoContact":Str) == "ValueError")=b1)(h2:(c == ("NoBridge":Str)||("NoBridge":Str) == "ValueError")=b2)(h3:(c == ("NoName":Str)||("NoName":Str) == "ValueError")=b3)
  (h4:(c == ("BadNote":Str)||("BadNote":Str) == "ValueError")=b4) (h5:(c == ("NoPlace":Str)||("NoPlace":Str) == "ValueError")=b5) (h6:(c == ("NoTable":Str)||("NoTable":Str) == "ValueError")=b6) :
  ∃n S',endR (rfB (rfE 4 (.xc c)) S)=.ok (.lst n) S'/\zA3 S' n=some ((((flg b0 b1 b2 b3 b4 b5 b6).filter (·.2)).map (·.1)).map D.int)/\Ex S S':=by
 obtain⟨S1,hS1⟩:∃S1,S++[O.lst [.bl b0,.bl b1,.bl b2]]=S1:=⟨_,rfl⟩
 obtain⟨S2,hS2⟩:∃S2,S1++[O.lst [.bl b3,.bl b4,.bl b5]]=S2:=⟨_,rfl⟩
 obtain⟨S3,hS3⟩:∃S3,S2++[O.lst [.bl b0,.bl b1,.bl b2,.bl b3,.bl b4,.bl b5]]=S3:=⟨_,rfl⟩
 obtain⟨S4,hS4⟩:∃S4,S3.set S2.length (O.lst [.bl b0,.bl b1,.bl b2,.bl b3,.bl b4,.bl b5,.bl b6])=S4:=⟨_,rfl⟩
 have l1:zA3 S1 S.length=some [.bl b0,.bl b1,.bl b2]:=by rw[<- hS1];exact zA5 _ _
 have l1':zA3 S2 S.length=some [.bl b0,.bl b1,.bl b2]:=by rw[<- hS2];exact zCR l1
 have l2:zA3 S2 S1.length=some [.bl b3,.bl b4,.bl b5]:=by rw[<- hS2];exact zA5 _ _
 have l3:zA3 S3 S2.length=some [.bl b0,.bl b1,.bl b2,.bl b3,.bl b4,.bl b5]:=by rw[<- hS3];exact zA5 _ _
 have l4:zA3 S4 S2.length=some [.bl b0,.bl b1,.bl b2,.bl b3,.bl b4,.bl b5,.bl b6]:=by rw[<- hS4];exact zBY l3
 have lm6:(6:Nat)<lim:=by decide
 have lm7:(upD 0 7).length<lim:=by decide
 have ea:=zLb l1' l2 (show 3+3<=lim by decide);simp only[qF5,qN9]at ea;rw[hS3]at ea;have em:=zEc l3 zAR [.bl b6];have et:=zE1 l3;obtain⟨W,hW⟩:∃W,(((flg b0 b1 b2 b3 b4 b5 b6).filter (·.2)).map (·.1)).map D.int=W:=⟨_,rfl⟩
 have ec:=zSy (B:=[none,some (.xc c),none,some (.lst S2.length)]) l4 rfl;rw[hW,show stE 1 [3] [none,some (D.xc c),none,some (.lst S2.length)]=[none,some (.lst S2.length)]from rfl]at ec;rw[hW];have x4:Ex S S4:=by
  have k:Kp (·=S2.length) S3 S4:=by rw[<- hS4];exact zCr _ _
  have x3:Ex S S3:=((hS1▸zAe _ _:Ex S S1).trans (hS2▸zAe _ _:Ex S1 S2)).trans (hS3▸zAe _ _:Ex S2 S3);refine⟨qD0 x3.le k.le,λj hj hn=>(k.eq j (qB2 hj x3.le) ?_).trans (x3.eq j hj hn)⟩;intro z;have:S.length<=S2.length:=((hS1▸zAe _ _:Ex S S1).trans (hS2▸zAe _ _:Ex S1 S2)).le;omega
 have hv:oIsX "ValueError" (.xc c)=λS=>.ok (.bl true) S:=by funext S;rw[zDh hc,beq_self_eq_true,Bool.or_true]
 have g0:oIsX "TooMany" (.xc c)=λS=>.ok (.bl b0) S:=by funext S;rw[zDh hc,h0]
 have g1:oIsX "NoContact" (.xc c)=λS=>.ok (.bl b1) S:=by funext S;rw[zDh hc,h1]
 have g2:oIsX "NoBridge" (.xc c)=λS=>.ok (.bl b2) S:=by funext S;rw[zDh hc,h2]
 have g3:oIsX "NoName" (.xc c)=λS=>.ok (.bl b3) S:=by funext S;rw[zDh hc,h3]
 have g4:oIsX "BadNote" (.xc c)=λS=>.ok (.bl b4) S:=by funext S;rw[zDh hc,h4]
 have g5:oIsX "NoPlace" (.xc c)=λS=>.ok (.bl b5) S:=by funext S;rw[zDh hc,h5]
 have g6:oIsX "NoTable" (.xc c)=λS=>.ok (.bl b6) S:=by funext S;rw[zDh hc,h6]
 refine⟨S4.length,S4++[.lst W],?_,zA5 _ _,x4.trans (zAe _ _)⟩;have er:rfE 4 (.xc c)=[none,some (.xc c),none,none]:=rfl;rw[er];simp[rfB,g0,g1,g2,g3,g4,g5,g6,hv,hS1,hS2,ea,em,et,hS4,ec,endR,lm6,lm7]
theorem zSz{c:Str}{k:Int}(hc:(c,k)∈xoN)(S:zA0):∃n S',endR (rfB (rfE 4 (.xc c)) S)=.ok (.lst n) S'/\zA3 S' n=some [.int k]/\Ex S S':=by
 simp only[xoN,qB0,qD3,or_false,Prod.mk.injEq]at hc;rcases hc with⟨rfl,rfl⟩| ⟨rfl,rfl⟩| ⟨rfl,rfl⟩| ⟨rfl,rfl⟩| ⟨rfl,rfl⟩| ⟨rfl,rfl⟩| ⟨rfl,rfl⟩
 ·exact zDP (b0:=true) (b1:=false) (b2:=false) (b3:=false) (b4:=false) (b5:=false) (b6:=false) (by decide +kernel) (by decide +kernel) (by decide +kernel) (by decide +kernel) (by decide +kernel) (by decide +kernel) (by decide +kernel) (by decide +kernel)
 ·exact zDP (b0:=false) (b1:=true) (b2:=false) (b3:=false) (b4:=false) (b5:=false) (b6:=false) (by decide +kernel) (by decide +kernel) (by decide +kernel) (by decide +kernel) (by decide +kernel) (by decide +kernel) (by decide +kernel) (by decide +kernel)
 ·exact zDP (b0:=false) (b1:=false) (b2:=true) (b3:=false) (b4:=false) (b5:=false) (b6:=false) (by decide +kernel) (by decide +kernel) (by decide +kernel) (by decide +kernel) (by decide +kernel) (by decide +kernel) (by decide +kernel) (by decide +kernel)
 ·exact zDP (b0:=false) (b1:=false) (b2:=false) (b3:=true) (b4:=false) (b5:=false) (b6:=false) (by decide +kernel) (by decide +kernel) (by decide +kernel) (by decide +kernel) (by decide +kernel) (by decide +kernel) (by decide +kernel) (by decide +kernel)
 ·exact zDP (b0:=false) (b1:=false) (b2:=false) (b3:=false) (b4:=true) (b5:=false) (b6:=false) (by decide +kernel) (by decide +kernel) (by decide +kernel) (by decide +kernel) (by decide +kernel) (by decide +kernel) (by decide +kernel) (by decide +kernel)
 ·exact zDP (b0:=false) (b1:=false) (b2:=false) (b3:=false) (b4:=false) (b5:=true) (b6:=false) (by decide +kernel) (by decide +kernel) (by decide +kernel) (by decide +kernel) (by decide +kernel) (by decide +kernel) (by decide +kernel) (by decide +kernel)
 ·exact zDP (b0:=false) (b1:=false) (b2:=false) (b3:=false) (b4:=false) (b5:=false) (b6:=true) (by decide +kernel) (by decide +kernel) (by decide +kernel) (by decide +kernel) (by decide +kernel) (by decide +kernel) (by decide +kernel) (by decide +kernel)
inductive RfRt(r:R D)(k:Int)(S:zA0):Prop
 |mk (n:Nat) (S1:zA0) (e:r=.ok (.lst n) S1) (l:zA3 S1 n=some [.int k]) (x:Ex S S1)
theorem zVg{c:Str}{k:Int}{js:List Nat}{cb:C}{B:Env1}{S S1:zA0}(hc:(c,k)∈xoN)(h:S[0]?=some (.tb lamD))(e:cb (stE 0 js B) S=.er c S1):RfRt (zBK lamD 4 rfB js cb B S) k S1:=by
 have hm:c∈xoL:=by simp only[xoN,qB0,qD3,or_false,Prod.mk.injEq]at hc;rcases hc with⟨rfl,_⟩| ⟨rfl,_⟩| ⟨rfl,_⟩| ⟨rfl,_⟩| ⟨rfl,_⟩| ⟨rfl,_⟩| ⟨rfl,_⟩<;>decide +kernel
 obtain⟨n,S',q1,q2,q3⟩:=zSz hc S1;refine⟨n,S',?_,q2,q3⟩;unfold zBK;rw[if_pos (zRV h),e];show(if c∈xoL then endR (rfB (rfE 4 (.xc c)) S1)else .bad)=_;rw[if_pos hm,q1]
abbrev TB5(S:zA0):Prop:=S[0]?=some (.tb lamD)
theorem TB5.ex{S S':zA0}(h:TB5 S)(x:Ex S S'):TB5 S':=x.at h λz=>z
theorem TB5.kp{S S':zA0}{i:Nat}(h:TB5 S)(st:StOk S i)(k:Kp (·=i) S S'):TB5 S':=k.at h λz=>by obtain⟨s,b,e,_⟩:=st;have q:=zAI e;rw[<- z]at q;rw[show S[0]?=_ from h]at q;cases q
theorem zGW.ex{sw kr:Nat}{S0 S S1:zA0}(h:zGW sw S0 kr S)(x:Ex S S1):zGW sw S0 kr S1:=by obtain⟨ids,m,a,b,c,d,f,g⟩:=h;exact⟨ids,m,a,b,x.lst c λz=>z,λi id hi=>(d i id hi).kp x λz=>z,f,g⟩
theorem zGW.st{sw kr i:Nat}{S0 S S1:zA0}(h:zGW sw S0 kr S)(st:StOk S i)(k:Kp (·=i) S S1):zGW sw S0 kr S1:=by
 obtain⟨ids,m,a,b,c,d,f,g⟩:=h;obtain⟨s,t,e,_⟩:=st;refine⟨ids,m,a,b,k.lst c λz=>?_,λj id hi=>(d j id hi).kp k λz=>?_,f,g⟩
 ·subst z;rw[c]at e;cases ids with
  |nil=>cases e
  |cons x r=>cases e
 ·subst z;obtain⟨xs,q,_⟩:=d j id hi;rw[q]at e
  match xs,e with
  |[],e=>cases e
  |[x],e=>cases e
  |x::y::r,e=>cases e
theorem zLw(bs:List Bool):plain 40 (fnD bs)=true:=zNn (n:=39) λx hx=>by unfold fnX at hx;obtain⟨b,_,rfl⟩:=qD8.mp hx;rfl
theorem zZr(bs:List Bool)(S:zA0):oEq (fnD bs) (fnD bs) S=.ok (.bl true) S:=by rw[zNJ S (zLw bs) (zLw bs),zLy]
structure H51(cl:Nat->CLL):Prop where
 st:zDs cl
 ce:zBT cl
 ta:zD8 cl
 so:zB2 cl
 r:HRi cl
theorem zZf(c:CLL){sc jd gd:D}{i kr:Nat}{s:Int}{w5 w6:Option D}{S S1 S2:zA0}(e1:c "_law_some_function" [.lst i,.int s] S=.ok gd S1)(e2:c "_law_right" [.int s,gd,.lst kr] S1=.ok (.bl true) S2):zCS c [some sc,some jd,some (.lst i),some (.int s),some (.lst kr),w5,w6] S=.nx [some sc,some jd,some (.lst i),some (.int s),some (.lst kr),w5,w6] S2:=by simp[zCS,e1,e2]
theorem zZg(c:CLL){sc gd:D}{jj r mo s cc:Int}{i kr m1 m2 n1 n4:Nat}{w2 w3 w4 w5 w6 v5:Option D}{S S1 S2 S3 S4 S5 S6 S7 S8 S9 S10 S11:zA0}(e1:c "_law_state" [sc,.int jj] S=.ok (.lst i) S1)(hn1:S1.length=n1)(h2:S1++[.lst [.int 1,.int 2,.int 3,.int 3]]=S2)(e3:c "_law_take" [.lst i,.int 4] S2=.ok (.int r) S3)(em:oIx (.lst n1) (.int r) S3=.ok (.int mo) S3)(hs:(if 3 - (if 1<jj then 1 else jj)<mo then 3 - (if 1<jj then 1 else jj)else mo)=s)(e4:c "_law_levels" [.int s] S3=.ok (.lst kr) S4)(hn4:S4.length=n4)(h5:S4++[.lst [.int 0,.int 2,.int 2,.int 1]]=S5)(ec:oIx (.lst n4) (.int s) S5=.ok (.int cc) S5)(b0:-4611686018427387904<=cc/\cc<4611686018427387904)
  (e6:zAx [] (gN 5) (zCS c) (upD 0 cc.toNat) [some sc,some (.int jj),some (.lst i),some (.int s),some (.lst kr),w5,w6] S5=.nx [some sc,some (.int jj),some (.lst i),some (.int s),some (.lst kr),v5,w6] S6) (e7:c "_law_some_function" [.lst i,.int 4] S6=.ok gd S7)
  (e8:zBK lamD 4 rfB [6] (zB1 (c "fewest") (zA2 [(cVar 0)])) [some sc,some (.int jj),some (.lst i),some (.int s),some (.lst kr),v5,some gd] S7=.ok (.lst m1) S8) (h9:S8++[.lst [.int 0]]=S9) (q9:oNe (.lst m1) (.lst S8.length) S9=.ok (.bl false) S9)
  (e10:zBK lamD 4 rfB [6] (zB1 (c "fewest_tree") (zA2 [(cVar 0)])) [some sc,some (.int jj),some (.lst i),some (.int s),some (.lst kr),v5,some gd] S9=.ok (.lst m2) S10) (h11:S10++[.lst [.int 0]]=S11) (q11:oNe (.lst m2) (.lst S10.length) S11=.ok (.bl false) S11) :
  zCf c [some sc,some (.int jj),w2,w3,w4,w5,w6] S=.nx [some sc,some (.int jj),some (.lst i),some (.int s),some (.lst kr),v5,some gd] S11:=by simp[zCf,e1,hn1,h2,e3,em,hs,e4,hn4,h5,ec,b0,e6,e7,e8,h9,q9,e10,h11,q11]
theorem zVi(g:Str)(c:CLL){bs:List Bool}{B:Env1}{S:zA0}(hj:stE 0 [6] B=[some (fnD bs)])(tb:TB5 S)(e:c g [fnD bs] S=.er "TooMany" S):∃m S1 S2,zBK lamD 4 rfB [6] (zB1 (c g) (zA2 [(cVar 0)])) B S=.ok (.lst m) S1/\S1++[.lst [.int 0]]=S2/\oNe (.lst m) (.lst S1.length) S2=.ok (.bl false) S2/\Ex S S2:=by
 obtain⟨m,S1,e1,l1,x1⟩:=zVg (c := "TooMany") (k:=0) (js:=[6]) (B:=B) (cb:=zB1 (c g) (zA2 [(cVar 0)])) (S:=S) (S1:=S) (by decide +kernel) tb (by
  rw[hj];exact(zR2 (xs:=[fnD bs]) (S1:=S) (by simp)).trans e)
 have q:=zT0 (S:=S1++[O.lst [.int 0]]) (zCR l1) (zA5 S1 [.int 0]) rfl rfl;rw[zLy]at q;exact⟨m,S1,_,e1,rfl,q,x1.trans (zAe _ _)⟩
inductive E51(sc:D)(B:Env1)(S:zA0):Prop
 |mk (w1 w2 w3 w4 w5 w6:Option D) (e:B=[some sc,w1,w2,w3,w4,w5,w6]) (tb:TB5 S)
theorem zYu(H:H51 cl)(n:Nat)(ns:yA){sc:D}(hsc:D.rol (ns.map D.int)=sc)(jj:Int)(hj:0<=jj){S:zA0}(tb:TB5 S)(w2 w3 w4 w5 w6:Option D):∃B S',zCf (cl (n+29)) [some sc,some (.int jj),w2,w3,w4,w5,w6] S=.nx B S'/\E51 sc B S':=by
 obtain⟨S1,e1,x1,st1⟩:=zLT H.st H.ce (n+27) ns jj hj S;rw[hsc]at e1;obtain⟨i,hi⟩:∃i,S.length=i:=⟨_,rfl⟩
 rw[hi]at e1 st1;obtain⟨n1,hn1⟩:∃n1,S1.length=n1:=⟨_,rfl⟩
 obtain⟨S2,h2⟩:∃S2,S1++[O.lst [.int 1,.int 2,.int 3,.int 3]]=S2:=⟨_,rfl⟩
 have x2:Ex S1 S2:=h2▸zAe _ _;have tb2:=(tb.ex x1).ex x2;have st2:=st1.ex x2;obtain⟨r,S3,e3,b1,b2,k3,_,st3⟩:=zID H.ta (n+28) st2 (m:=4) (by decide) (by decide);have tb3:=tb2.kp st2 k3;have l3:zA3 S3 n1=some [.int 1,.int 2,.int 3,.int 3]:=k3.lst (by rw[<- h2,<- hn1];exact zA5 _ _) (by have:=st1.lt;omega);obtain⟨mo,em,mo1,mo2⟩:∃mo:Int,oIx (.lst n1) (.int r) S3=.ok (.int mo) S3/\1<=mo/\mo<=3:=by
  have e:=zBH l3 r;have:r=0∨r=1∨r=2∨r=3:=by omega
  rcases this with rfl|rfl|rfl|rfl
  ·exact⟨1,by rw[e];rfl,by decide,by decide⟩
  ·exact⟨2,by rw[e];rfl,by decide,by decide⟩
  ·exact⟨3,by rw[e];rfl,by decide,by decide⟩
  ·exact⟨3,by rw[e];rfl,by decide,by decide⟩
 obtain⟨sw,hs,s1,s3⟩:∃sw:Nat,(if 3 - (if 1<jj then 1 else jj)<mo then 3 - (if 1<jj then 1 else jj)else mo)=(sw:Int)/\1<=sw/\sw<=3:=by
  have h:∃z:Int,(if 3 - (if 1<jj then 1 else jj)<mo then 3 - (if 1<jj then 1 else jj)else mo)=z/\1<=z/\z<=3:=⟨_,rfl,by split<;>(try split)<;>omega,by split<;>(try split)<;>omega⟩
  obtain⟨z,hz,z1,z3⟩:=h;exact⟨z.toNat,by rw[hz];omega,by omega,by omega⟩
 obtain⟨kr,S4,e4,_,x4,rows⟩:=zKg H.r.le (n+26) s1 s3 S3;have tb4:=tb3.ex x4;have st4:=st3.ex x4;obtain⟨n4,hn4⟩:∃n4,S4.length=n4:=⟨_,rfl⟩
 obtain⟨S5,h5⟩:∃S5,S4++[O.lst [.int 0,.int 2,.int 2,.int 1]]=S5:=⟨_,rfl⟩
 have x5:Ex S4 S5:=h5▸zAe _ _;have l5:zA3 S5 n4=some [.int 0,.int 2,.int 2,.int 1]:=by rw[<- h5,<- hn4];exact zA5 _ _
 obtain⟨cc,ec,c1,c2⟩:∃cc:Int,oIx (.lst n4) (.int (sw:Int)) S5=.ok (.int cc) S5/\0<=cc/\cc<=2:=by
  have e:=zBH l5 (sw:Int);have:sw=1∨sw=2∨sw=3:=by omega
  rcases this with rfl|rfl|rfl
  ·exact⟨2,by rw[e];rfl,by decide,by decide⟩
  ·exact⟨2,by rw[e];rfl,by decide,by decide⟩
  ·exact⟨1,by rw[e];rfl,by decide,by decide⟩
 obtain⟨B6,S6,e6,⟨v5,rfl⟩,st6,tb6,_⟩:=zBQ (w:=[]) (g:=gN 5) (b:=zCS (cl (n+29))) (items:=upD 0 cc.toNat) (P:=λj B S'=>(∃v5,B=[some sc,some (.int jj),some (.lst i),some (.int (sw:Nat)),some (.lst kr),v5,w6])/\StOk S' i/\TB5 S'/\zGW sw S3 kr S') (B:=[some sc,some (.int jj),some (.lst i),some (.int (sw:Nat)),some (.lst kr),w5,w6]) (S:=S5) (λ_ _ S _=>zAg S) ⟨⟨_,rfl⟩,st4.ex x5,tb4.ex x5,rows.ex x5⟩ (λj d B S' hd hP=>by
  obtain⟨⟨v5,rfl⟩,st,tb',rw'⟩:=hP;obtain⟨bs,T1,g1,hl,k1,st1'⟩:=zIG H.so H.ta (n+27) (sw:=sw) (by omega) st;have rw1:=rw'.st st k1;obtain⟨T2,g2,y2⟩:=zM0 H.r n s1 s3 rw1 hl (zZr bs);exact⟨[some sc,some (.int jj),some (.lst i),some (.int (sw:Nat)),some (.lst kr),some d,w6],S',by simp,_,T2,.inl (zZf _ g1 g2),⟨_,rfl⟩,st1'.ex y2,(tb'.kp st k1).ex y2,rw1.ex y2⟩)
 obtain⟨gs,S7,e7,hl7,k7,st7⟩:=zIG H.so H.ta (n+27) (sw:=4) (qA6 _) st6;have tb7:=tb6.kp st6 k7;obtain⟨m1,S8,S9,e8,h9,q9,x9⟩:=zVi "fewest" (cl (n+29)) (B:=[some sc,some (.int jj),some (.lst i),some (.int (sw:Nat)),some (.lst kr),v5,some (fnD gs)]) rfl tb7 (zOC H.r.fe (n+26) hl7 S7);have tb9:=tb7.ex x9;obtain⟨m2,S10,S11,e10,h11,q11,x11⟩:=zVi "fewest_tree" (cl (n+29)) (B:=[some sc,some (.int jj),some (.lst i),some (.int (sw:Nat)),some (.lst kr),v5,some (fnD gs)]) rfl tb9 (zGD H.r.fe (n+26) hl7 S9);exact⟨_,S11,zZg _ e1 hn1 h2 e3 em hs e4 hn4 h5 ec ⟨by omega,by omega⟩ e6 e7 e8 h9 q9 e10 h11 q11,⟨_,_,_,_,_,_,rfl,tb9.ex x11⟩⟩
theorem zW0:numA 0 [false,true]∈lv 1 0:=(zEv 1 _).mpr (by decide +kernel)
theorem zRK:numA 0 [false,false]∈lv 1 1:=by
 refine(zFx 1 0 _).mpr ⟨by decide +kernel,λi hi=>?_,0,by decide,1,?_,2,?_,.inl (by decide +kernel)⟩
 ·have:i=0:=by omega
  subst this;rw[zEv];decide +kernel
 ·exact(zEv 1 _).mpr (by decide +kernel)
 ·exact(zEv 1 _).mpr (by decide +kernel)
theorem zO4(c:CLL){sc:D}{S S3 S4 S5:zA0}{q:Int}{len:Nat}{w1 w2 w3 w4 w5 w6:Option D}(hsc:fLen [sc] S=.ok (.int len) S)(hq:(if(if(2:Int)<(len:Int)then 2 else(len:Int))>1 then(if(2:Int)<(len:Int)then 2 else(len:Int))else 1)=q)(f2:-4611686018427387904<=q/\q<4611686018427387904)(e2:zAx [] (gN 1) (zCf c) (upD 0 q.toNat) [some sc,none,none,none,none,none,none] S=.nx [some sc,w1,w2,w3,w4,w5,w6] S3)(e4:c "fewest" [.tup [.int 0,.int 1]] S3=.ok (.int 1) S4)(e5:c "fewest" [.tup [.int 0,.int 0]] S4=.ok (.int 2) S5):
  zDq c [some sc,none,none,none,none,none,none] S=.rt (.bl true) S5:=by simp[zDq,hsc,hq,f2,e2,e4,e5]
theorem zZd(h:zHl cl)(H:H51 cl)(n:Nat)(ns:yA):∃S',cl (n+30) "law" [.rol (ns.map D.int)] [.tb lamD]=.ok (.bl true) S':=by
 rw[show n+30=(n+29)+1 from rfl,h];generalize hsc:D.rol (ns.map D.int)=sc;have hm:∃q:Int,(if(if(2:Int)<(ns.length:Int)then 2 else(ns.length:Int))>1 then(if(2:Int)<(ns.length:Int)then 2 else(ns.length:Int))else 1)=q/\0<=q/\q<=2:=⟨_,rfl,by split<;>(try split)<;>omega,by split<;>(try split)<;>omega⟩
 obtain⟨q,hq,q0,q6⟩:=hm;obtain⟨B',S3,e3,w1,w2,w3,w4,w5,w6,rfl,_⟩:=zBQ (w:=[]) (g:=gN 1) (b:=zCf (cl (n+29))) (items:=upD 0 q.toNat) (λj B S=>E51 sc B S) (B:=[some sc,none,none,none,none,none,none]) (S:=[.tb lamD])
  (λj B S hp=>zAg _) ⟨_,_,_,_,_,_,rfl,rfl⟩
  (λj d B S hd hp=>by
   obtain⟨w1,w2,w3,w4,w5,w6,rfl,tb⟩:=hp;rw[zFj]at hd;obtain⟨hj,rfl⟩:=hd;obtain⟨B2,S',e,p⟩:=zYu H n ns hsc (0+(j:Int)) (by omega) tb w2 w3 w4 w5 w6;exact⟨_,_,rfl,_,S',.inl e,p⟩)
 obtain⟨S4,e4,_⟩:=zDX H.r.fe (n+21) (sw:=1) (ix:=0) (qA6 _) (by decide) (bs:=[false,true]) rfl zW0 (by decide) S3;obtain⟨S5,e5,_⟩:=zDX H.r.fe (n+21) (sw:=1) (ix:=1) (qA6 _) (by decide) (bs:=[false,false]) rfl zRK (by decide) S4;have d1:fnD [false,true]=.tup [.int 0,.int 1]:=by simp[fnD,fnX,b1]
 have d2:fnD [false,false]=.tup [.int 0,.int 0]:=by simp[fnD,fnX,b1]
 rw[d1]at e4;rw[d2]at e5;exact⟨S5,zAd rfl (zO4 _ (by rw[<- hsc,zQR,qA8]) hq (by omega) e3 e4 e5)⟩
end My
set_option maxHeartbeats 4000000
namespace My
open PySem L2
noncomputable def tbl:Tbl:=[(("settings":Str),(1,3,zDA)),
 (("is_shut":Str),(2,2,zEi)),
 (("places_from":Str),(2,5,zCc)),
 (("joins":Str),(1,1,zIn)),
 (("shut_contacts":Str),(2,2,zBz)),
 (("lets":Str),(2,2,zLJ)),
 (("function_of":Str),(1,1,zCd)),
 (("switches_of":Str),(1,1,zBy)),
 (("where_both":Str),(2,2,zDp)),
 (("where_either":Str),(2,2,zCG)),
 (("lone_net":Str),(2,2,zDB)),
 (("tree_function":Str),(2,5,zAo)),
 (("number_of":Str),(1,3,zCt)),
 (("first_level":Str),(1,5,zBC)),
 (("add_made":Str),(4,8,zCV)),
 (("further_level":Str),(1,5,zAT)),
 (("levels_to":Str),(1,3,zBf)),
 (("fewest":Str),(1,1,zD2)),
 (("fewest_tree":Str),(1,1,zAB)),
 (("_law_cell_at":Str),(2,2,zBB)),
 (("_law_state":Str),(2,3,zCv)),
 (("_law_take":Str),(2,4,zCU)),
 (("_law_settings":Str),(1,3,zBS)),
 (("_law_singles":Str),(1,4,zBA)),
 (("_law_number_of":Str),(1,3,zAS)),
 (("_law_levels":Str),(1,9,zC0)),
 (("_law_fewest":Str),(2,3,zC1)),
 (("_law_some_function":Str),(2,2,zAp)),
 (("_law_whole":Str),(3,3,zCu)),
 (("_law_contacts":Str),(2,3,zAv)),
 (("_law_tree_bit":Str),(2,3,zAf)),
 (("_law_right":Str),(3,6,zBc)),
 (("law":Str),(1,7,zDq))]
noncomputable def top(i:Nat):Stmt:=PySem.Challenge.pw_contactnets_k51_fewest_contacts.main.body.getD i (.Pass ⟨0,0,0,0⟩)
theorem hk{f g:Nat->yM->M D}(h:f=g)(n:Nat):f n=g n:=congrFun h n
noncomputable abbrev zCL:Stmt:=top 10
noncomputable abbrev zDe:Stmt:=top 11
noncomputable abbrev zBl:Stmt:=top 12
noncomputable abbrev zFk:Stmt:=top 13
noncomputable abbrev zAL:Stmt:=top 14
noncomputable abbrev zIN:Stmt:=top 15
noncomputable abbrev zBo:Stmt:=top 16
noncomputable abbrev zBk:Stmt:=top 17
noncomputable abbrev zBU:Stmt:=top 18
noncomputable abbrev zB3:Stmt:=top 19
noncomputable abbrev zCM:Stmt:=top 21
noncomputable abbrev zAK:Stmt:=top 22
noncomputable abbrev zCj:Stmt:=top 24
noncomputable abbrev zBp:Stmt:=top 25
noncomputable abbrev zCP:Stmt:=top 26
noncomputable abbrev zAN:Stmt:=top 27
noncomputable abbrev zCk:Stmt:=top 28
noncomputable abbrev zE7:Stmt:=top 29
noncomputable abbrev zBq:Stmt:=top 30
noncomputable abbrev zBn:Stmt:=top 32
noncomputable abbrev zCm:Stmt:=top 33
noncomputable abbrev zCN:Stmt:=top 34
noncomputable abbrev zB5:Stmt:=top 35
noncomputable abbrev zBm:Stmt:=top 36
noncomputable abbrev zAM:Stmt:=top 37
noncomputable abbrev zBV:Stmt:=top 38
noncomputable abbrev zBW:Stmt:=top 39
noncomputable abbrev zAn:Stmt:=top 40
noncomputable abbrev zCl:Stmt:=top 42
noncomputable abbrev zB6:Stmt:=top 43
noncomputable abbrev zB4:Stmt:=top 44
noncomputable abbrev zCn:Stmt:=top 45
noncomputable abbrev zIO:Stmt:=top 46
noncomputable abbrev zAV:Stmt:=top 41
abbrev CKp(x:Str)(N:yH)(st:vI)(b:CLL->CS):Prop:=(λcl:CLL=>cSts (arT tbl) cl 60 ⟨N,(zA1 st).names,some x⟩ (zAr st))=λcl=>some (b cl)
theorem zKC:CKp "settings" ["switches","told","switch"] zCL zDA:=by kernel_rfl
theorem zMq:CKp "is_shut" ["contact","setting"] zDe zEi:=by kernel_rfl
theorem zGF:CKp "places_from" ["start","contacts","found","grown","contact"] zBl zCc:=by kernel_rfl
theorem zQZ:CKp "joins" ["contacts"] zFk zIn:=by kernel_rfl
theorem zF0:CKp "shut_contacts" ["net","setting"] zAL zBz:=by kernel_rfl
theorem zTW:CKp "lets" ["net","setting"] zIN zLJ:=by kernel_rfl
theorem zGJ:CKp "function_of" ["net"] zBo zCd:=by kernel_rfl
theorem zGE:CKp "switches_of" ["function"] zBk zBy:=by kernel_rfl
theorem zIa:CKp "where_both" ["one","other"] zBU zDp:=by kernel_rfl
theorem zG2:CKp "where_either" ["one","other"] zB3 zCG:=by kernel_rfl
theorem zKD:CKp "lone_net" ["switches","tree"] zCM zDB:=by kernel_rfl
theorem zEZ:CKp "tree_function" ["switches","tree","told","part","bits"] zAK zAo:=by kernel_rfl
theorem zJr:CKp "number_of" ["function","number","bit"] zCj zCt:=by kernel_rfl
theorem zGK:CKp "first_level" ["switches","level","switch","on","tree"] zBp zBC:=by kernel_rfl
theorem zKF:CKp "add_made" ["level","one","other","known","first","second","kind","made"] zCP zCV:=by kernel_rfl
theorem zF2:CKp "further_level" ["levels","known","level","told","less"] zAN zAT:=by kernel_rfl
theorem zJs:CKp "levels_to" ["function","switches","levels"] zCk zBf:=by kernel_rfl
theorem zP1:CKp "fewest" ["function"] zE7 zD2:=by kernel_rfl
theorem zGL:CKp "fewest_tree" ["function"] zBq zAB:=by kernel_rfl
theorem zGI:CKp "_law_cell_at" ["_law_script","_law_k"] zBn zBB:=by kernel_rfl
theorem zJu:CKp "_law_state" ["_law_script","_law_k","_law_cell"] zCm zCv:=by kernel_rfl
theorem zKE:CKp "_law_take" ["_law_state_here","_law_many","_law_found","_law_mixed"] zCN zCU:=by kernel_rfl
theorem zG4:CKp "_law_settings" ["_law_switches","_law_found","_law_number"] zB5 zBS:=by kernel_rfl
theorem zGG:CKp "_law_singles" ["_law_switches","_law_found","_law_switch","_law_on"] zBm zBA:=by kernel_rfl
theorem zF1:CKp "_law_number_of" ["_law_function","_law_found","_law_bit"] zAM zAS:=by kernel_rfl
theorem zIb:CKp "_law_levels" ["_law_switches","_law_rows","_law_known","_law_many","_law_fresh","_law_few","_law_one","_law_other","_law_found"] zBV zC0:=by kernel_rfl
theorem zIc:CKp "_law_fewest" ["_law_rows","_law_function","_law_number"] zBW zC1:=by kernel_rfl
theorem zDF:CKp "_law_some_function" ["_law_state_here","_law_switches"] zAn zAp:=by kernel_rfl
theorem zJt:CKp "_law_whole" ["_law_thing","_law_least","_law_below"] zCl zCu:=by kernel_rfl
theorem zG5:CKp "_law_contacts" ["_law_switches","_law_tree","_law_numbers"] zB6 zAv:=by kernel_rfl
theorem zG3:CKp "_law_tree_bit" ["_law_tree","_law_setting","_law_bits"] zB4 zAf:=by kernel_rfl
theorem zJv:CKp "_law_right" ["_law_switches","_law_function","_law_rows","_law_due","_law_found","_law_tree"] zCn zBc:=by kernel_rfl
theorem zRv:fnOk ["_law_script","_law_k","_law_state_here","_law_switches","_law_rows","_law_turn","_law_great"] ["_law_script"] (zA1 zIO)=true:=by decide +kernel
theorem zRD:CKp "law" ["_law_script","_law_k","_law_state_here","_law_switches","_law_rows","_law_turn","_law_great"] zIO zDq:=by kernel_rfl
theorem zQi(ns:yA)(h:ns.length<=63):∃S',zAl tbl 40 "law" [.rol (ns.map D.int)] [.tb lamD]=.ok (.bl true) S':=zZd (hk (by kernel_rfl)) ⟨hk (by kernel_rfl),hk (by kernel_rfl),hk (by kernel_rfl),hk (by kernel_rfl),⟨⟨⟨⟨⟨hk (by kernel_rfl),hk (by kernel_rfl),hk (by kernel_rfl),hk (by kernel_rfl),hk (by kernel_rfl),hk (by kernel_rfl),hk (by kernel_rfl)⟩,hk (by kernel_rfl),hk (by kernel_rfl),hk (by kernel_rfl),hk (by kernel_rfl)⟩,hk (by kernel_rfl),hk (by kernel_rfl),hk (by kernel_rfl),hk (by kernel_rfl),hk (by kernel_rfl),hk (by kernel_rfl)⟩,hk (by kernel_rfl),hk (by kernel_rfl)⟩,⟨hk (by kernel_rfl),hk (by kernel_rfl),hk (by kernel_rfl),hk (by kernel_rfl)⟩,hk (by kernel_rfl),hk (by kernel_rfl),hk (by kernel_rfl),hk (by kernel_rfl),hk (by kernel_rfl)⟩⟩ 10 ns
def DF(K:yQ)(n:Str)(st:vI):Prop:=∃(f:yR) (od an:Option yR) (sl:Array (yF)) (oc kV dc pm cd ct:yU),gC K y8 n=some (some (.ref f))/\K.lookup f=some ⟨oc,od,.func (gK n n (zD1 st) (zAr st) (zA1 st) .none kV dc pm an cd ct),sl⟩/\m9 K cd n=true/\lT K (.ref f)=true
theorem mkDF{K:yQ}{n:Str}{st:vI}{f:yR}{od an:Option yR}{sl:Array (yF)}{oc kV dc pm cd ct:yU}(a:gC K y8 n=some (some (.ref f)))(l:K.lookup f=some ⟨oc,od,.func (gK n n (zD1 st) (zAr st) (zA1 st) .none kV dc pm an cd ct),sl⟩)(c:m9 K cd n=true)(k:lT K (.ref f)=true):DF K n st:=⟨f,od,an,sl,oc,kV,dc,pm,cd,ct,a,l,c,k⟩
theorem DF.in{K:yQ}{h:jC}{mg:Str->yF}{n:Str}{st:vI}(d:DF K n st)(X:K.In h)(G:h.Ns y8 mg):∃(f:yR) (kV dc pm:yU) (an:Option yR) (cd ct:yU),mg n=some (.ref f)/\Fun K n n st f (gK n n (zD1 st) (zAr st) (zA1 st) .none kV dc pm an cd ct):=by obtain⟨f,od,an,sl,oc,kV,dc,pm,cd,ct,a,l,c,k⟩:=d;exact⟨f,kV,dc,pm,an,cd,ct,W.mg_of X G a,zWL l c k⟩
def ZN(K:yQ):yH->Prop
 |[]=>True
 |x::r=>gC K y8 x=some none/\ZN K r
theorem ZN.none{K:yQ}{h:jC}{mg:Str->yF}(X:K.In h)(G:h.Ns y8 mg):∀{l:yH},ZN K l->zIx mg l
 |[],_=>True.intro
 |_::_,z=>⟨W.mg_none_of X G z.1,z.2.none X G⟩
def BP(st:vI)(n:Str)(ps:yH)(kV doc pm:yU)(an:Option yR)(cdv ct:yU)(us:yB):Prop:=bindArgs (gK n n (zD1 st) (zAr st) (zA1 st) .none kV doc pm an cdv ct) ⟨us,[]⟩=pure (ps.zip us)
def BF(st:vI)(n:Str)(ps:yH):Prop:=∀(kV doc pm:yU) (an:Option yR) (cdv ct:yU) (us:yB),us.length=ps.length->BP st n ps kV doc pm an cdv ct us
theorem dIn{K:yQ}{h:jC}{mg:Str->yF}{ar:Str->yK}{x:Str}{st:vI}{N ps:yH}{fuel np nN:Nat}{b:CLL->CS}(d:DF K x st)(X:K.In h)(G:h.Ns y8 mg)(hb:BF st x ps)(hs:fnOk N ps (zA1 st)=true)
  (hc:(λcl:CLL=>cSts ar cl fuel ⟨N,(zA1 st).names,some x⟩ (zAr st))=λcl=>some (b cl)) (h1:ps.length=np:=by rfl) (h2:N.length=nN:=by rfl):zKR K mg ar x (np,nN,b):=by obtain⟨_,_,_,_,_,_,_,m,F⟩:=d.in X G;exact zX2 F m (F.binds (ps:=ps) hb) hs hc h1 h2
theorem usC{n:Nat}:∀us:yB,us.length=n+1->∃a r,us=a::r/\r.length=n
 |a::r,h=>⟨a,r,rfl,Nat.succ.inj h⟩
theorem us0{P:yB->Prop}(h:P [])(us:yB)(hl:us.length=0):P us:=by rw[List.eq_nil_of_length_eq_zero hl];exact h
theorem us1{P:yB->Prop}(h:∀a0:yU,P [a0])(us:yB)(hl:us.length=1):P us:=by obtain⟨a,r,rfl,hq⟩:=usC us hl;exact us0 (P:=λr=>P (a::r)) (h a) r hq
theorem us2{P:yB->Prop}(h:∀a0 a1:yU,P [a0,a1])(us:yB)(hl:us.length=2):P us:=by obtain⟨a,r,rfl,hq⟩:=usC us hl;exact us1 (P:=λr=>P (a::r)) (h a) r hq
theorem us3{P:yB->Prop}(h:∀a0 a1 a2:yU,P [a0,a1,a2])(us:yB)(hl:us.length=3):P us:=by obtain⟨a,r,rfl,hq⟩:=usC us hl;exact us2 (P:=λr=>P (a::r)) (h a) r hq
theorem us4{P:yB->Prop}(h:∀a0 a1 a2 a3:yU,P [a0,a1,a2,a3])(us:yB)(hl:us.length=4):P us:=by obtain⟨a,r,rfl,hq⟩:=usC us hl;exact us3 (P:=λr=>P (a::r)) (h a) r hq
theorem bf1 {st n a0}(h:∀c d p e f g u0,BP st n [a0] c d p e f g [u0]):BF st n [a0]:=λc d p e f g=>us1 (P:=BP st n [a0] c d p e f g) (h c d p e f g)
theorem bf2 {st n a0 a1}(h:∀c d p e f g u0 u1,BP st n [a0,a1] c d p e f g [u0,u1]):BF st n [a0,a1]:=λc d p e f g=>us2 (P:=BP st n [a0,a1] c d p e f g) (h c d p e f g)
theorem bf3 {st n a0 a1 a2}(h:∀c d p e f g u0 u1 u2,BP st n [a0,a1,a2] c d p e f g [u0,u1,u2]):BF st n [a0,a1,a2]:=λc d p e f g=>us3 (P:=BP st n [a0,a1,a2] c d p e f g) (h c d p e f g)
theorem bf4 {st n a0 a1 a2 a3}(h:∀c d p e f g u0 u1 u2 u3,BP st n [a0,a1,a2,a3] c d p e f g [u0,u1,u2,u3]):BF st n [a0,a1,a2,a3]:=λc d p e f g=>us4 (P:=BP st n [a0,a1,a2,a3] c d p e f g) (h c d p e f g)
theorem zKL:BF zCL "settings" ["switches"]:=bf1 λ_ _ _ _ _ _ _=>rfl
theorem zMv:BF zDe "is_shut" ["contact","setting"]:=bf2 λ_ _ _ _ _ _ _ _=>rfl
theorem zGP:BF zBl "places_from" ["start","contacts"]:=bf2 λ_ _ _ _ _ _ _ _=>rfl
theorem zR6:BF zFk "joins" ["contacts"]:=bf1 λ_ _ _ _ _ _ _=>rfl
theorem zF5:BF zAL "shut_contacts" ["net","setting"]:=bf2 λ_ _ _ _ _ _ _ _=>rfl
theorem zU5:BF zIN "lets" ["net","setting"]:=bf2 λ_ _ _ _ _ _ _ _=>rfl
theorem zGT:BF zBo "function_of" ["net"]:=bf1 λ_ _ _ _ _ _ _=>rfl
theorem zGO:BF zBk "switches_of" ["function"]:=bf1 λ_ _ _ _ _ _ _=>rfl
theorem zIk:BF zBU "where_both" ["one","other"]:=bf2 λ_ _ _ _ _ _ _ _=>rfl
theorem zGb:BF zB3 "where_either" ["one","other"]:=bf2 λ_ _ _ _ _ _ _ _=>rfl
theorem zKM:BF zCM "lone_net" ["switches","tree"]:=bf2 λ_ _ _ _ _ _ _ _=>rfl
theorem zF4:BF zAK "tree_function" ["switches","tree"]:=bf2 λ_ _ _ _ _ _ _ _=>rfl
theorem zJO:BF zCj "number_of" ["function"]:=bf1 λ_ _ _ _ _ _ _=>rfl
theorem zGU:BF zBp "first_level" ["switches"]:=bf1 λ_ _ _ _ _ _ _=>rfl
theorem zKO:BF zCP "add_made" ["level","one","other","known"]:=bf4 λ_ _ _ _ _ _ _ _ _ _=>rfl
theorem zF7:BF zAN "further_level" ["levels"]:=bf1 λ_ _ _ _ _ _ _=>rfl
theorem zJP:BF zCk "levels_to" ["function"]:=bf1 λ_ _ _ _ _ _ _=>rfl
theorem zPf:BF zE7 "fewest" ["function"]:=bf1 λ_ _ _ _ _ _ _=>rfl
theorem zGV:BF zBq "fewest_tree" ["function"]:=bf1 λ_ _ _ _ _ _ _=>rfl
theorem zGS:BF zBn "_law_cell_at" ["_law_script","_law_k"]:=bf2 λ_ _ _ _ _ _ _ _=>rfl
theorem zJR:BF zCm "_law_state" ["_law_script","_law_k"]:=bf2 λ_ _ _ _ _ _ _ _=>rfl
theorem zKN:BF zCN "_law_take" ["_law_state_here","_law_many"]:=bf2 λ_ _ _ _ _ _ _ _=>rfl
theorem zGd:BF zB5 "_law_settings" ["_law_switches"]:=bf1 λ_ _ _ _ _ _ _=>rfl
theorem zGQ:BF zBm "_law_singles" ["_law_switches"]:=bf1 λ_ _ _ _ _ _ _=>rfl
theorem zF6:BF zAM "_law_number_of" ["_law_function"]:=bf1 λ_ _ _ _ _ _ _=>rfl
theorem zIl:BF zBV "_law_levels" ["_law_switches"]:=bf1 λ_ _ _ _ _ _ _=>rfl
theorem zIm:BF zBW "_law_fewest" ["_law_rows","_law_function"]:=bf2 λ_ _ _ _ _ _ _ _=>rfl
theorem zDG:BF zAn "_law_some_function" ["_law_state_here","_law_switches"]:=bf2 λ_ _ _ _ _ _ _ _=>rfl
theorem zJQ:BF zCl "_law_whole" ["_law_thing","_law_least","_law_below"]:=bf3 λ_ _ _ _ _ _ _ _ _=>rfl
theorem zGe:BF zB6 "_law_contacts" ["_law_switches","_law_tree"]:=bf2 λ_ _ _ _ _ _ _ _=>rfl
theorem zGc:BF zB4 "_law_tree_bit" ["_law_tree","_law_setting"]:=bf2 λ_ _ _ _ _ _ _ _=>rfl
theorem zJS:BF zCn "_law_right" ["_law_switches","_law_function","_law_rows"]:=bf3 λ_ _ _ _ _ _ _ _ _=>rfl
theorem zXh:BF zIO "law" ["_law_script"]:=bf1 λ_ _ _ _ _ _ _=>rfl
theorem zGR:BF zAV "_law_refused" ["_law_call"]:=bf1 λ_ _ _ _ _ _ _=>rfl
theorem zGy:fnOk ["_law_call","_law_error","e","_law_sorts"] ["_law_call"] (zA1 zAV)=true:=by decide +kernel
theorem zGH:cSts (λ_=>none) (λ_ _ _=>.bad) 60 ⟨["_law_call","_law_error","e","_law_sorts"],(zA1 zAV).names,some "_law_refused"⟩ ((zAr zAV).drop 2)=some rfB:=by kernel_rfl
theorem all_mk{l:W.OpenLaw}{w:jD}{K:yQ}{h:jC}{mg:Str->yF}{fa c T C:yR}(X:K.In h)(G:h.Ns y8 mg)(hfa:mg "law"=some (.ref fa))(tab:fH K lamD=some (c,T))
  (d1:DF K "settings" zCL) (d2:DF K "is_shut" zDe) (d3:DF K "places_from" zBl) (d4:DF K "joins" zFk) (d5:DF K "shut_contacts" zAL) (d6:DF K "lets" zIN) (d7:DF K "function_of" zBo) (d8:DF K "switches_of" zBk) (d9:DF K "where_both" zBU) (d10:DF K "where_either" zB3) (d11:DF K "lone_net" zCM) (d12:DF K "tree_function" zAK) (d13:DF K "number_of" zCj) (d14:DF K "first_level" zBp) (d15:DF K "add_made" zCP) (d16:DF K "further_level" zAN) (d17:DF K "levels_to" zCk) (d18:DF K "fewest" zE7) (d19:DF K "fewest_tree" zBq) (d20:DF K "_law_cell_at" zBn) (d21:DF K "_law_state" zCm) (d22:DF K "_law_take" zCN) (d23:DF K "_law_settings" zB5) (d24:DF K "_law_singles" zBm) (d25:DF K "_law_number_of" zAM) (d26:DF K "_law_levels" zBV) (d27:DF K "_law_fewest" zBW) (d28:DF K "_law_some_function" zAn) (d29:DF K "_law_whole" zCl) (d30:DF K "_law_contacts" zB6) (d31:DF K "_law_tree_bit" zB4) (d32:DF K "_law_right" zCn) (d33:DF K "law" zIO) (dt:DF K "_law_refused" zAV) (z:ZN K bltL) (xk:zI1 K=true) (xs:exKs K=true) (xg:gC K y8 "NetError"=some (some (.ref C))) (xn:zTK K C=true) (xv:gC K y8 "ValueError"=some none)
  : ∃fd:jX,(∀(s:yS) (v:yU),m7 s fd ⟨[v],[]⟩ [("_law_script",v)])/\∀base:jC,K.In base->base.Ns y8 mg->fL base c T->base.BuiltinsAt mg T->y8≠T->FnOk l.prog w K mg base (CX1 l.prog w) (3*40) fa fd ["_law_script"] (spL K):=by obtain⟨_,kV,dc,pm,an,cd,ct,m,F⟩:=d33.in X G;have e:=hfa.symm.trans m;cases e;have A:zMz K mg (arT tbl) tbl:=And.intro (dIn d1 X G zKL (by decide +kernel) zKC) (And.intro (dIn d2 X G zMv (by decide +kernel) zMq) (And.intro (dIn d3 X G zGP (by decide +kernel) zGF) (And.intro (dIn d4 X G zR6 (by decide +kernel) zQZ) (And.intro (dIn d5 X G zF5 (by decide +kernel) zF0) (And.intro (dIn d6 X G zU5 (by decide +kernel) zTW) (And.intro (dIn d7 X G zGT (by decide +kernel) zGJ) (And.intro (dIn d8 X G zGO (by decide +kernel) zGE) (And.intro (dIn d9 X G zIk (by decide +kernel) zIa) (And.intro (dIn d10 X G zGb (by decide +kernel) zG2) (And.intro (dIn d11 X G zKM (by decide +kernel) zKD) (And.intro (dIn d12 X G zF4 (by decide +kernel) zEZ) (And.intro (dIn d13 X G zJO (by decide +kernel) zJr) (And.intro (dIn d14 X G zGU (by decide +kernel) zGK) (And.intro (dIn d15 X G zKO (by decide +kernel) zKF) (And.intro (dIn d16 X G zF7 (by decide +kernel) zF2) (And.intro (dIn d17 X G zJP (by decide +kernel) zJs) (And.intro (dIn d18 X G zPf (by decide +kernel) zP1) (And.intro (dIn d19 X G zGV (by decide +kernel) zGL) (And.intro (dIn d20 X G zGS (by decide +kernel) zGI) (And.intro (dIn d21 X G zJR (by decide +kernel) zJu) (And.intro (dIn d22 X G zKN (by decide +kernel) zKE) (And.intro (dIn d23 X G zGd (by decide +kernel) zG4) (And.intro (dIn d24 X G zGQ (by decide +kernel) zGG) (And.intro (dIn d25 X G zF6 (by decide +kernel) zF1) (And.intro (dIn d26 X G zIl (by decide +kernel) zIb) (And.intro (dIn d27 X G zIm (by decide +kernel) zIc) (And.intro (dIn d28 X G zDG (by decide +kernel) zDF) (And.intro (dIn d29 X G zJQ (by decide +kernel) zJt) (And.intro (dIn d30 X G zGe (by decide +kernel) zG5) (And.intro (dIn d31 X G zGc (by decide +kernel) zG3) (And.intro (dIn d32 X G zJS (by decide +kernel) zJv) (And.intro (dIn d33 X G zXh zRv zRD) (True.intro)))))))))))))))))))))))))))))))));obtain⟨_,_,_,_,_,_,_,mt,Ft⟩:=dt.in X G;have hR:∀base,RefH l.prog w K mg base:=λbase=>zSB (c := "_law_call") (y := "_law_error") (en := "e") (g := "NetError") (more:=["_law_sorts"]) X G Ft mt (Ft.binds (ps:=["_law_call"]) zGR) rfl zGy rfl (by decide +kernel) (by decide +kernel) xg (by decide +kernel) xk xs xn xv ⟨λy hy _=>(z.none X G).mem y hy⟩ zGH;refine⟨gK "law" "law" (zD1 zIO) (zAr zIO) (zA1 zIO) .none kV dc pm an cd ct,λs v=>.of_eq rfl,λbase kb nb hc hb hne=>?_⟩;exact zWj (L:=39) (λx p e=>A.look x p e) ⟨λy hy _=>(z.none X G).mem y hy⟩ (zOI X G xs) (zTl kb nb tab hc hb hne) (λt ws ht=>by unfold tkL at ht;cases ht) m (hR base) (by kernel_rfl) F zRv rfl (λcl=>congrFun zRD cl) (λns h=>zQi ns h)
end My
open PySem PySem.W PyProof.Rows
namespace PySem.W.Fast
theorem tw15658965769407979054:True:=trivial
theorem tw6189521280294403200:True:=trivial
theorem tw10722676271329486037:True:=trivial
theorem tw3227688105784322791:True:=trivial
theorem tw1325404701408858373:True:=trivial
theorem tw10731194990791844317:True:=trivial
theorem tw4472743632402368369:True:=trivial
theorem tw8147822264311167055:True:=trivial
theorem tw2730670348578076278:True:=trivial
theorem tw2085039618485561500:True:=trivial
theorem tw13272401582907731934:True:=trivial
theorem tw9259873072318344654:True:=trivial
theorem tw7126562609650942867:True:=trivial
theorem tw6091774157735470638:True:=trivial
theorem tw314699283761354089:True:=trivial
theorem tw6885234983676601324:True:=trivial
theorem tw7679889018640364318:True:=trivial
theorem tw14171470816596095303:True:=trivial
theorem tw10387507128055705443:True:=trivial
theorem tw6433893511943320239:True:=trivial
theorem tw14258575565880902964:True:=trivial
theorem tw6451181933701152248:True:=trivial
theorem tw455685612192834752:True:=trivial
theorem tw2999817045589988952:True:=trivial
theorem tw6922874694659751627:True:=trivial
theorem tw17855603308594162071:True:=trivial
theorem tw514704879055219971:True:=trivial
theorem tw7207932119585136035:True:=trivial
theorem tw2625124095141881082:True:=trivial
theorem tw6237223989177722966:True:=trivial
theorem tw5201258150927180693:True:=trivial
theorem tw6528300200201705452:True:=trivial
theorem tw16092024901784036451:True:=trivial
theorem tw5237826805524590738:True:=trivial
theorem tw11025033531721752055:True:=trivial
theorem tw15318838724154692074:True:=trivial
theorem tw4569429330318605060:True:=trivial
theorem tw889228899654657226:True:=trivial
theorem tw461271285768000533:True:=trivial
theorem tw10185957436168265079:True:=trivial
theorem tw7380624143615787764:True:=trivial
theorem tw13589678749349858412:True:=trivial
theorem tw14923113294015579049:True:=trivial
theorem tw1852833322748290331:True:=trivial
theorem tw11170089018865140139:True:=trivial
theorem tw18370058277749555284:True:=trivial
theorem tw6606049643849788772:True:=trivial
theorem tw9109748874186585138:True:=trivial
theorem tw4837950772560193475:True:=trivial
theorem tw5098860427093268724:True:=trivial
theorem tw9161498671875672868:True:=trivial
theorem tw13911798244734845203:True:=trivial
theorem tw3911513077512308803:True:=trivial
theorem tw1748285408856504206:True:=trivial
theorem tw17306754761652859661:True:=trivial
theorem tw8844194588814908341:True:=trivial
theorem tw2613063042280127084:True:=trivial
theorem tw17870379487462183712:True:=trivial
theorem tw11210265697983759856:True:=trivial
theorem tw10743898783727271479:True:=trivial
end PySem.W.Fast
set_option maxRecDepth 100000 in
set_option maxHeartbeats 0 in
theorem PySem.Challenge.cw_contactnets_k51_fewest_contacts_holds : PySem.Challenge.rw_contactnets_k51_fewest_contacts.Holds := by
 w_on; o_law; k_head; (case hw=>w_witness2)
 k_fill
 refine L2.walk_evS (L:=3*40) (l:=PySem.Challenge.rw_contactnets_k51_fewest_contacts) rfl rfl ⟨rfl,by decide,by decide,rfl⟩ (fun w h Y=>PySem.W.km_in_of Y) ?R ?T ?F
 case R=>decide +kernel
 case T =>
  intro w
  kernel_rfl
 case F =>
  intro w mg fa c T h KX G hmg tab
  refine' My.all_mk KX G hmg tab (My.mkDF ?a1 ?l1 ?c1 ?k1) (My.mkDF ?a2 ?l2 ?c2 ?k2) (My.mkDF ?a3 ?l3 ?c3 ?k3) (My.mkDF ?a4 ?l4 ?c4 ?k4) (My.mkDF ?a5 ?l5 ?c5 ?k5) (My.mkDF ?a6 ?l6 ?c6 ?k6) (My.mkDF ?a7 ?l7 ?c7 ?k7) (My.mkDF ?a8 ?l8 ?c8 ?k8) (My.mkDF ?a9 ?l9 ?c9 ?k9) (My.mkDF ?a10 ?l10 ?c10 ?k10) (My.mkDF ?a11 ?l11 ?c11 ?k11) (My.mkDF ?a12 ?l12 ?c12 ?k12) (My.mkDF ?a13 ?l13 ?c13 ?k13) (My.mkDF ?a14 ?l14 ?c14 ?k14) (My.mkDF ?a15 ?l15 ?c15 ?k15) (My.mkDF ?a16 ?l16 ?c16 ?k16) (My.mkDF ?a17 ?l17 ?c17 ?k17) (My.mkDF ?a18 ?l18 ?c18 ?k18) (My.mkDF ?a19 ?l19 ?c19 ?k19) (My.mkDF ?a20 ?l20 ?c20 ?k20) (My.mkDF ?a21 ?l21 ?c21 ?k21) (My.mkDF ?a22 ?l22 ?c22 ?k22) (My.mkDF ?a23 ?l23 ?c23 ?k23) (My.mkDF ?a24 ?l24 ?c24 ?k24) (My.mkDF ?a25 ?l25 ?c25 ?k25) (My.mkDF ?a26 ?l26 ?c26 ?k26) (My.mkDF ?a27 ?l27 ?c27 ?k27) (My.mkDF ?a28 ?l28 ?c28 ?k28) (My.mkDF ?a29 ?l29 ?c29 ?k29) (My.mkDF ?a30 ?l30 ?c30 ?k30) (My.mkDF ?a31 ?l31 ?c31 ?k31) (My.mkDF ?a32 ?l32 ?c32 ?k32) (My.mkDF ?a33 ?l33 ?c33 ?k33) (My.mkDF ?ta ?tl ?tc ?tk) ⟨?z1,?z2,?z3,?z4,?z5,?z6,?z7,?z8,?z9,?z10,?z11,?z12,?z13,?z14,?z15,?z16,?z17,?z18,?z19,?z20,True.intro⟩ ?xk ?xs ?xg ?xn ?xv
  case a1=>k_is
  case l1=>k_is
  case c1=>k_is
  case k1=>k_is
  case a2=>k_is
  case l2=>k_is
  case c2=>k_is
  case k2=>k_is
  case a3=>k_is
  case l3=>k_is
  case c3=>k_is
  case k3=>k_is
  case a4=>k_is
  case l4=>k_is
  case c4=>k_is
  case k4=>k_is
  case a5=>k_is
  case l5=>k_is
  case c5=>k_is
  case k5=>k_is
  case a6=>k_is
  case l6=>k_is
  case c6=>k_is
  case k6=>k_is
  case a7=>k_is
  case l7=>k_is
  case c7=>k_is
  case k7=>k_is
  case a8=>k_is
  case l8=>k_is
  case c8=>k_is
  case k8=>k_is
  case a9=>k_is
  case l9=>k_is
  case c9=>k_is
  case k9=>k_is
  case a10=>k_is
  case l10=>k_is
  case c10=>k_is
  case k10=>k_is
  case a11=>k_is
  case l11=>k_is
  case c11=>k_is
  case k11=>k_is
  case a12=>k_is
  case l12=>k_is
  case c12=>k_is
  case k12=>k_is
  case a13=>k_is
  case l13=>k_is
  case c13=>k_is
  case k13=>k_is
  case a14=>k_is
  case l14=>k_is
  case c14=>k_is
  case k14=>k_is
  case a15=>k_is
  case l15=>k_is
  case c15=>k_is
  case k15=>k_is
  case a16=>k_is
  case l16=>k_is
  case c16=>k_is
  case k16=>k_is
  case a17=>k_is
  case l17=>k_is
  case c17=>k_is
  case k17=>k_is
  case a18=>k_is
  case l18=>k_is
  case c18=>k_is
  case k18=>k_is
  case a19=>k_is
  case l19=>k_is
  case c19=>k_is
  case k19=>k_is
  case a20=>k_is
  case l20=>k_is
  case c20=>k_is
  case k20=>k_is
  case a21=>k_is
  case l21=>k_is
  case c21=>k_is
  case k21=>k_is
  case a22=>k_is
  case l22=>k_is
  case c22=>k_is
  case k22=>k_is
  case a23=>k_is
  case l23=>k_is
  case c23=>k_is
  case k23=>k_is
  case a24=>k_is
  case l24=>k_is
  case c24=>k_is
  case k24=>k_is
  case a25=>k_is
  case l25=>k_is
  case c25=>k_is
  case k25=>k_is
  case a26=>k_is
  case l26=>k_is
  case c26=>k_is
  case k26=>k_is
  case a27=>k_is
  case l27=>k_is
  case c27=>k_is
  case k27=>k_is
  case a28=>k_is
  case l28=>k_is
  case c28=>k_is
  case k28=>k_is
  case a29=>k_is
  case l29=>k_is
  case c29=>k_is
  case k29=>k_is
  case a30=>k_is
  case l30=>k_is
  case c30=>k_is
  case k30=>k_is
  case a31=>k_is
  case l31=>k_is
  case c31=>k_is
  case k31=>k_is
  case a32=>k_is
  case l32=>k_is
  case c32=>k_is
  case k32=>k_is
  case a33=>k_is
  case l33=>k_is
  case c33=>k_is
  case k33=>k_is
  case ta=>k_is
  case tl=>k_is
  case tc=>k_is
  case tk=>k_is
  case z1=>k_is
  case z2=>k_is
  case z3=>k_is
  case z4=>k_is
  case z5=>k_is
  case z6=>k_is
  case z7=>k_is
  case z8=>k_is
  case z9=>k_is
  case z10=>k_is
  case z11=>k_is
  case z12=>k_is
  case z13=>k_is
  case z14=>k_is
  case z15=>k_is
  case z16=>k_is
  case z17=>k_is
  case z18=>k_is
  case z19=>k_is
  case z20=>k_is
  case xg=>k_is
  case xv=>k_is
  case xk=>kernel_rfl
  case xs=>kernel_rfl
  case xn=>kernel_rfl
