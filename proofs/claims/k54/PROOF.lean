import PyProof.Rows.All
import Wide.All
import OpenK.AllK
import Lean
import PySem.Challenge.RW_contactnets_k54_whole_fewest_contacts
set_option Elab.async false
set_option linter.all false
set_option autoImplicit true
set_option relaxedAutoImplicit true
set_option genSizeOf false
set_option compiler.extract_closed false
set_option bootstrap.genMatcherCode false
set_option maxRecDepth 100000
set_option maxHeartbeats 1000000
local macro_rules|`(def $i$s:optDeclSig$v:declVal)=>`(noncomputable def $i$s:optDeclSig$v:declVal)|`(abbrev $i$s:optDeclSig$v:declVal)=>`(noncomputable abbrev $i$s:optDeclSig$v:declVal)
local macro_rules|`(tactic|decide)=>`(tactic|decide +kernel)
open List renaming length_map→qA0,getElem?_append_right→qA1,getElem?_eq_getElem→qA2,getElem?_eq_some_iff→qA4,getElem?_append_left→qA8,mem_cons→qB0,getElem?_map→qB1,size_toArray→qB2,mem_of_getElem?→qB5,mem_singleton→qB6,map_cons→qB8,mem_map→qB9,mem_append→qC0,length_append→qC2,append_assoc→qC3,pairwise_append→qC4,mem_cons_of_mem→qC5,getD_eq_getElem?_getD→qC6,map_map→qC7,mem_range→qC9,mem_append_right→qD0,take_append_drop→qD1,length_range→qD2,length_cons→qD3,all_eq_true→qD5,getElem_mem→qD6,map_append→qD7,getElem?_toArray→qD8,map_congr_left→qE0,lookup_cons→qE1,getElem?_set_self→qE2,mem_cons_self→qE3,getElem?_set_ne→qE5,pairwise_singleton→qE7,getElem?_of_mem→qE8,length_eq_zero_iff→qF0,mem_filter→qF1,mem_append_left→qF2,getD→qF4,drop_eq_getElem_cons→qF5,pairwise_cons→qF6,length_take→qF7,not_mem_nil→qF8,nodup_append→qG0,take_length→qG2,mem_of_mem_drop→qG7,any_cons→qG8,take_sublist→qG9,pairwise_map→qH0,getElem_of_mem→qH1,nodup_cons→qH2,filter_cons→qH4,mem_iff_getElem→qH8,mem_of_mem_take→qH9,drop_sublist→qI0,append_nil→qI1,getElem?_range→qI2,mem_map_of_mem→qI3,take_of_length_le→qI4,length_drop→qI5,mapM_cons→qI7,perm_ext_iff_of_nodup→qI8,length_replicate→qI9,perm_append_comm→qJ0,length_filter_le→qJ1,length_set→qJ2,length→qJ3,reverse_cons→qJ4,filterMap_cons→qJ6,getElem?_replicate→qJ7,mem_singleton_self→qJ9,mem_reverse→qK0,getElem?_cons_succ→qK1,cons_append→qK2,cons→qK3,eq_nil_of_length_eq_zero→qK6,foldl_cons→qK8,all_cons→qK9,nodup_range→qL2,mem_flatMap→qL5,mem_of_find?_eq_some→qL6,length_erase_of_mem→qL7,take_append_getElem→qL8,mem_filterMap→qL9,findIdx?_eq_some_iff_getElem→qM3,replicate→qM4,range_succ_eq_map→qM5,getElem_drop→qM7,pairwise_lt_range→qM8,drop_of_length_le→qM9,pairwise_of_forall_mem_list→qN0,take_succ_eq_append_getElem→qN1,pairwise_reverse→qN2,drop_length→qN3,map_snd_zip→qN5,take_append_of_le_length→qN7,of_mem_zip→qN8,length_nil→qN9,find?_cons→qO0,filter_eq_self→qO2,all_map→qO3,length_eraseIdx_of_lt→qO8,drop_drop→qO9,map_inj_right→qP0,find?_eq_none→qP1,pairwise_iff_getElem→qP3,mapM_toArray→qP5,foldl_append→qP6,getElem?_take_of_lt→qP8,filterMap_cons_some→qP9,perm_middle→qQ1,length_pos_of_mem→qQ4,map_nil→qQ5,range_succ→qR1,find?_some→qR3,length_singleton→qR4,getElem?_eq_none→qR5,dropLast_eq_take→qR6,nodup_nil→qS0,map→qS1,mem_erase_of_ne→qS2,map_id→qS3,toList_toArray→qS6,findIdx?_cons→qT0,filterMap_nil→qT1,any_map→qT4,ext_getElem?→qT5,getElem?_inj→qT7,zipIdx_cons→qU0,ext_getElem→qU1,all_toArray→qU2,isEmpty_map→qU3,getElem_map→qU5,forIn_cons→qU9,sum_append→qV0,drop_left'→qV1,length_zip→qV2,nil_append→qV3,sum_cons→qV5
open Option renaming bind_eq_some_iff→qA5,map_eq_some_iff→qA6,isSome_iff_exists→qH6,bind_some→qL4,isSome_map→qP4,map_some→qQ6,getD_none→qT9
open Nat renaming le_refl→qA7,ne_of_lt→qB7,lt_of_lt_of_le→qC1,le_trans→qD4,zero_le→qE6,lt_succ_of_lt→qE9,pow_le_pow_right→qG1,lt_irrefl→qG3,not_lt_zero→qG5,lt_of_le_of_lt→qH3,le_of_lt→qH5,sub_self→qH7,lt_succ_self→qI6,le_add_right→qJ8,testBit_succ→qK4,testBit_or→qK5,lt_or_ge→qK7,ne_of_gt→qL1,add_sub_cancel_left→qM2,lt_trichotomy→qM6,zero_add→qO4,pow_succ→qO5,lt_or_eq_of_le→qO7,le_of_not_lt→qQ0,mod_lt→qQ3,le_antisymm→qQ7,min_eq_left→qQ8,strongRecOn→qQ9,testBit_and→qR2,eq_of_beq_eq_true→qR7,eq_of_testBit_eq→qS4,mul_le_mul_right→qS5,testBit_two_pow→qS7,lt_of_lt_of_eq→qS8,add_sub_cancel→qS9,and_one_is_mod→qT2,lt_trans→qT3,succ_le_succ→qU4,le_succ→qU7
open Bool renaming false_ne_true→qB4,and_eq_true→qC8,or_eq_true→qG6,not_eq_true'→qJ5,not_eq_true→qL3,false_eq_true→qM0,not_eq_false'→qP2,eq_false_iff→qP7,false_and→qR8,eq_iff_iff→qU8,and_false→qV4
open Int renaming toNat_natCast→qD9,emod_lt_of_pos→qM1,emod_nonneg→qO1,fdiv_eq_ediv_of_nonneg→qO6,le_antisymm→qR0,le_trans→qT6,zero_add→qT8,toNat→qU6
open PySem.Heap renaming get?_push_of_some→qA3,get?_push_size→qA9,lt_size→qB3,SameBut→qE4,get?_update_other→qF3,get?_update_self→qF9,size_push→qG4,get?_push_ne→qL0,size_update→qN4,IsList→qN6,IsTuple→qQ2,ExtBut→qR9
abbrev yA:=List Int
abbrev yB:=List PySem.Value
abbrev yC:=List PySem.Addr
abbrev yD:=List (PySem.Addr × PySem.Obj)
abbrev yE:=List PySem.Expr
abbrev yF:=Option PySem.Value
abbrev yG:=Option Int
abbrev yH:=List PySem.Str
abbrev yI:=List PyProof.Rows.Keyed
abbrev yJ:=Array PySem.Value
abbrev yK:=Option Nat
abbrev yL:=PySem.Value→PySem.Shared→Prop
open PySem renaming wpAny_bind→yO,wpAny_pure→yP,Shared→yQ,Addr→yR,Value→yT,model→yV,Spec→yX,Program→yZ,wpAny→y7,sizeLine→jC,compareOp→jD,Expr→jE,Around→jF,World→jG,Heap→jH,wpAny_call_entry→jI,wpAny_callSpecial?_slot→jK,starEach→jL,wpAny_holding→jM,wpAny_setState_of→jN,bootBuiltins→jO,binaryOp→jP,tupleKeyHash→jR,wpAny_mono→jS,assignEach→jT,wpAny_truthy_bool→jU,wpAny_newObj_type→jV,wpAny_pyIter_list→jW,SetTable→jX,mainGlobals→jZ,NameKind→j7,wpAny_typeOf→j9,wpAny_seqItems→vB,codeAny_builtin→vC,wpAny_pyIter_tuple→vE,sizeLine_eq→vF,wpAny_attempt→vH,wpAny_setField→vJ,intKind→vL,wpAny_rule→vM,cLine→vN,wpAny_typeNameOfWhole_keyiter→vO,Scope→vT,FuncData→vU,wpAny_field→vW,wpAny_isInstance→vX,sysModules→vY,eval→v7,PyData→v8,wpAny_passesOwn→wA,cellsFrom→wB,mem_of_lookup→wC,codeAny→wD,wpAny_setField_rec→wE,Stmt→wG,wpAny_ite_split→wH,wpAny_newList→wI,preSum→wL,foldedSetIterable→wM,wpAny_fieldsOf→wN,swappedStores→wQ,attributeBase→wS,wpAny_loadPart'→wU,backTo→wV,wpAny_Call_Name_kw→wW,tupleKind_room_in1→wX,sliceBounds→fA,holding→fB,codeAny_mono→fE,swapsWith→fL,wpAny_forIn_list→fN,call_meets→fO,DictEntry→fP,IsPair→fQ,behindInMarks→fS,wpAny_execs_nil→fW,pushCells_keeps→fX,wpAny_raiseNew_none→f7,rawInt→gD,CmpOp→gE,wpAny_newTuple→gF,isSubtype_stop→gG,getItem→gP,wpAny_dictEntries→gQ,wpAny_pyIter_slot→gR,ofAClassStatement→gV,assign→gZ,wpAny_comprehension_free→lB,plainId_quiet→lF,tupleKind→lI,noFill_tuple_add→lK,pushCells→lM,wpAny_pyIter_zip→lP,wpAny_askSetting→lQ,wpAny_load→lS,wpAny_pyNext_list_item→lT,IsPart→lV,Keyword→lY,callerA→lZ,letOwnedTupleGo→mE,wpAny_updateSeq→mF,wpAny_dictEpoch→mG,wpAny_specialOf→mH,wpAny_pyNext_list_end→mJ,wpAny_isOneOf_keyiter→mK,wpAny_notOrdered_dict→mL,builtinLookup_eq_fast→mN,wpAny_eqIsQuiet_tuple→mP,Paired→mQ,Drawn→mR,pyNext→mS,pyIter→mT,keywordEach→mW,newFunctionEnv→mX,wpAny_updateSeq_pair→mY,wpAny_runValue→m5,intItems→m7,PassesOwn→m8,lastMarks→dA,pickOrder→dC,wpAny_standAt→dF,seq_tuple_add→dG,IsZip→dH,Comprehension→dL,builtinsNs→dM,Result→dN,PlainAttrs→dO,standAt→dS,Operator→dU,BindsTo→dW,concat_meets→uA,seqIndex_neg→uB,valueAt→uC,relabel→uD,notedBy→uE,collect→uF,isTrue→uI,stored→uJ,seqIndex_of→uK,subscripted→uL,setItem→uN
open PySem.W renaming Frag→yS,kia_one→gB,fnOf→lA,keepIn→mU,codeIn→dZ
open PyProof.Rows renaming wpS_bind→yU,Keyed→yW,wpS_pure→y4,SortSt→jJ,wpS_forRange→jY,seqObj→j8,callWith_type1→vG,IntsAre→vI,slot_tuple_getitem→vK,wpS_mono→vP,pendingOf→vQ,SortKind→v6,listUpdate_at→wJ,wpS_modify→wO,size_push'→wY,mem_zip_self→fI,callWith_builtin1→fM,seqEpoch_at→fV,entry_list_sort→f6,wpS_get→f9,listItems_at→gA,slot_list_sort→gH,args_list_sort→gJ,sortedHeap_old→gK,wpS_lift→gL,setPending→gM,AllBare→gO,sortedHeap_at→lG,subscriptTail_builtinR→lW,plain_sorted→mB,entry_sorted→mC,args_sorted1→mD,get?_update_seq→mI,envOfC→mV,kind_sorted→mZ,entry_proto_collect'→m6,lt_int→dD,entry_tuple_getitem→dE,elem'→dI,reverseSlice'→dJ,IsTup→dR,failedOf→uG,numOf→uH,arrOf→uM
open Array renaming length_toList→yY,getElem?_toList→y8,getElem?_eq_getElem→jA,toList_append→jQ,getElem?_eq_none→wF,getElem?_replicate→wT,size_append→fH,toList_reverse→fU,toList_push→gU,ext'→dP
open PySem.Builtin renaming bitAnd→j6,bitOr→vV,bitXor→fD,bitNot→fJ
open PySem.Obj renaming mapSeq→vA,data_mapFields→vD,isFreed_of_fields→wK,cls_mapFields→fG,mapFields→lE,putSet→dQ
open PySem.F renaming plainAttrs_list→vR,slot_dict_keyiterator_next→vS,slot_tuple_iterator_next→vZ,args_tuple_add_2→wR,entry_tuple_add→wZ,slot_tuple_add→fF,slot_tuple_lt→fK,args_dict_keyiterator_next_1→fR,entry_dict_keyiterator_next→fT,args_tuple_iterator_next_1→fY,slot_zip_next→fZ,entry_tuple_iterator_next→f8,slot_list_extend→lC,slot_dict_update→lH,args_tuple_lt_2→lJ,slot_list_index→lO,entry_tuple_lt→lU,plain_set_new→mM,slot_set_iter→mO
open PySem.Calls renaming call_function_entry→v9,Name_function_global→gC,callWith_builtin→lX
open PyProof.Rows.F renaming entry_set_update_loop→wP
open Option renaming some→Z9,none→Z8
open Bool renaming true→Z7,false→Z5
namespace L2
open PySem PySem.Spec PyProof.Rows
abbrev VB(x:Str):Prop:=(x == ("__debug__":Str))=Z5
abbrev ZF:=Sum Int Str
def U1:ZF->yT->Bool
 |.inl k,v=>Value.isInt k v
 |.inr x,v=>Value.isStrOf x v
def MA(w:jG):ZF->Int
 |.inl k=>hashInt k
 |.inr x=>hashStr w x
theorem U0:∀{k:ZF}{v:yT},U1 k v=Z7->(∃i t,k=Sum.inl i/\v=Value.int i t)∨(∃x t,k=Sum.inr x/\v=Value.str x t)
 |.inl i,v,h=>by obtain⟨t,e⟩:=Value.isInt_shape h;exact .inl ⟨i,t,rfl,e⟩
 |.inr x,v,h=>by obtain⟨t,e⟩:=Value.isStrOf_shape h;exact .inr ⟨x,t,rfl,e⟩
theorem Bk(i:Int)(t:Tok):U1 (.inl i) (.int i t)=Z7:=by simp[U1,Value.isInt]
theorem Bj(x:Str)(t:Tok):U1 (.inr x) (.str x t)=Z7:=by simp[U1,Value.isStrOf]
theorem Bi(a b:Int):decide ((Sum.inl a:ZF)=Sum.inl b)=(a == b):=by grind
theorem Bh(a b:Str):decide ((Sum.inr a:ZF)=Sum.inr b)=decide (a=b):=by simp_all
theorem Bg(a:Int)(b:Str):decide ((Sum.inl a:ZF)=Sum.inr b)=Z5:=rfl
theorem Bf(a:Str)(b:Int):decide ((Sum.inr a:ZF)=Sum.inl b)=Z5:=rfl
def Yt(prog:yZ)(w:jG):PySem.KeyKind prog w ZF where
 is:=U1
 hash:=MA w
 inj:=λv a b f d=>by
  rcases U0 f with⟨i,t,rfl,rfl⟩| ⟨x,t,rfl,rfl⟩
  .rcases U0 d with⟨j,u,rfl,e⟩| ⟨y,u,rfl,e⟩
   .injection e with e1 _;rw[e1]
   .exact nomatch e
  .rcases U0 d with⟨j,u,rfl,e⟩| ⟨y,u,rfl,e⟩
   .exact nomatch e
   .injection e with e1 _;rw[e1]
 byValue:=λk v h=>by rcases U0 h with⟨i,t,rfl,rfl⟩| ⟨x,t,rfl,rfl⟩<;>rfl
 pyHash:=λc h=>by
  rcases U0 c with⟨i,t,rfl,rfl⟩| ⟨x,t,rfl,rfl⟩
  .exact wpAny_pyHash_int h
  .exact wpAny_pyHash_str h
 eqBool:=λg c h=>by
  rcases U0 g with⟨i,t,rfl,rfl⟩| ⟨x,t,rfl,rfl⟩
  .rcases U0 c with⟨j,u,rfl,rfl⟩| ⟨y,u,rfl,rfl⟩
   .rw[Bi]at h;exact wpAny_eqBool_int h
   .rw[Bg]at h;exact SeqAt.EqAt.int_str i t y u _ _ _ _ h
  .rcases U0 c with⟨j,u,rfl,rfl⟩| ⟨y,u,rfl,rfl⟩
   .rw[Bf]at h;exact SeqAt.EqAt.str_int x t j u _ _ _ _ h
   .rw[Bh]at h;exact wpAny_eqBool_str h
 «strs»:=λk x t v h=>by
  rcases U0 h with⟨i,u,rfl,e⟩| ⟨y,u,rfl,e⟩
  .exact nomatch e
  .injection e with e1 _;subst e1;cases v<;>rfl
theorem Be(prog:yZ)(w:jG)(i:Int)(t:Tok):(Yt prog w).is (.inl i) (.int i t)=Z7:=Bk i t
theorem Bd(prog:yZ)(w:jG)(x:Str)(t:Tok):(Yt prog w).is (.inr x) (.str x t)=Z7:=Bj x t
inductive V where
 |non|bl (b:Bool)| int (i:Int)| str (x:Str)| byt (b:Array UInt8)| flt (b:UInt64)| ref (a:yR)| ty (n:String)
 deriving DecidableEq
def ZG:V->yT->Prop
 |.non,u=>u=Value.none
 |.bl b,u=>u=Value.bool b
 |.int i,u=>∃t,u=Value.int i t
 |.str x,u=>∃t,u=Value.str x t
 |.byt b,u=>∃t,u=Value.bytes b t
 |.flt b,u=>∃t,u=Value.float b t
 |.ref a,u=>u=Value.ref a
 |.ty n,u=>u=Value.type n
abbrev ZO:List V->yB->Prop:=mQ ZG
theorem ZO.length(r:ZO xs a):xs.length=a.length:=Paired.length r
theorem ZO.get:∀{xs:List V}{a:yB}{i:Nat}{x:V},ZO xs a->xs[i]?=Z9 x->∃u,a[i]?=Z9 u/\ZG x u
 |_,_,_,_,.nil,e=>by simp at e
 |_,_,0,_,.cons r _,e=>by simp at e;subst e;exact⟨_,rfl,r⟩
 |_,_,i+1,x,.cons _ t,e=>by obtain⟨u,b,c⟩:=ZO.get t (by simpa using e);exact⟨u,by simpa using b,c⟩
theorem ZO.set(r:ZG x u):∀{xs:List V}{a:yB} (i:Nat),ZO xs a->ZO (xs.set i x) (a.set i u)
 |_,_,_,.nil=>.nil
 |_,_,0,.cons _ t=>.cons r t
 |_,_,i+1,.cons q t=>.cons q (ZO.set r i t)
theorem ZO.append:∀{xs ys:List V}{b a:yB},ZO xs b->ZO ys a->ZO (xs++ys) (b++a)
 |_,_,_,_,.nil,s=>s
 |_,_,_,_,.cons r t,s=>.cons r (ZO.append t s)
theorem ZO.take:∀{xs:List V}{a:yB} (n:Nat),ZO xs a->ZO (xs.take n) (a.take n)
 |_,_,0,_=>.nil
 |_,_,_+1,.nil=>.nil
 |_,_,n+1,.cons r t=>.cons r (ZO.take n t)
theorem ZO.drop:∀{xs:List V}{a:yB} (n:Nat),ZO xs a->ZO (xs.drop n) (a.drop n)
 |_,_,0,r=>r
 |_,_,_+1,.nil=>.nil
 |_,_,n+1,.cons _ t=>ZO.drop n t
def Xj:Option V->yF->Prop
 |some v,Z9 u=>ZG v u
 |none,Z8=>True
 |_,_=>False
def KV{a:Type}:List (a×V)->List (a×yT)->Prop:=mQ fun(p:a×V) (q:a×yT)=>p.1=q.1/\ZG p.2 q.2
def kV:ZF->V
 |.inl i=>.int i
 |.inr x=>.str x
inductive HO where
 /-- a list -/
 |lst (xs:List V)
 /-- a tuple (never changes) -/
 |tup (xs:List V)
 /-- a dict whose keys are ints and texts;one whose keys are tuples of ints and texts (the empty one is both) -/
 |dK (kvs:List (ZF×V))| dT (kvs:List (List ZF×V))
 /-- a set of ints: its members,its size -/
 |set (S:Int->Bool) (n:Nat)
 /-- an instance of the class at C,its dict at dx,its attributes -/
 |ins (C dx:yR) (fs:List (Str×V))
 /-- the dict of the instance at x -/
 |own (x:yR)
 /-- the dict of an exception -/
 |xd (fs:List (Str×V))
 /-- a bound method,f of x -/
 |met (f x:yR)
 /-- a range object lo,lo+1,.. below hi -/
 |rng (lo hi:Int)
 /-- a thing that is known to the object (the script;a dict while a loop walks it): read,never written while it is so -/
 |frz (o:Obj) (u:HO)
 /-- a code object's table -/
 |tbl (ps:yJ)
 /-- any other thing,by what is Z7 of its one object (a def of one's own: SetO a S n:=HO.ext λh=>..) -/
 |ext (φ:jH->Prop)
abbrev Hp:=yR->Option HO
def ZC(H:Hp)(a:yR)(o:HO):Hp:=λb=>if b=a then Z9 o else H b
theorem Xx:ZC H a o a=Z9 o:=by unfold ZC;rw[if_pos rfl]
theorem YI(h:b≠a):ZC H a o b=H b:=by unfold ZC;rw[if_neg h]
theorem Bc:ZC (ZC H a o) a u=ZC H a u:=by funext b;unfold ZC;split<;>rfl
theorem Bb{H:Hp}(h:H a=Z9 o)(h':H b=Z9 u)(d:o≠u):a≠b:=by grind
theorem UZ{H:Hp}(h:H a=Z9 o)(h':H b=Z8):a≠b:=by grind
section
variable (P:yZ) (w:jG)
def W8(H:Hp)(h:jH)(a:yR):HO->Prop
 |.lst d=>d.length<=jC/\∃(b:yB) (n:Nat),ZO d b/\h.get? a=Z9 { cls:=.type "list",data:=.seq b.toArray n }
 |.tup d=>d.length<=jC/\∃b:yB,ZO d b/\dR h a b.toArray
 |.dK c=>c.length<=jC/\(a == vY)=Z5/\∃m,KV c m/\h.DictOf (Yt P w) a m
 |.dT c=>c.length<=jC/\(a == vY)=Z5/\∃d:List (List ZF×yR×yT),
   mQ (fun(p:List ZF×V) (q:List ZF×yR×yT)=>p.1=q.1/\H q.2.1=Z9 (.tup (p.1.map kV))/\ZG p.2 q.2.2) c d /\
   ∃o k z,h.get? a=Z9 o/\o.ExactDict/\o.data=.dict k z/\k.toList=d.map (entryOfKey (lI (Yt P w)))/\(d.map (·.1)).Nodup
 |.set S n=>h.SetOf (vL P w) a S n
 |.ins C g fs=>H g=Z9 (.own a)/\fs.length<=1000/\g≠a/\h.get? a=Z9 (W.instObj C g) /\
   ∃e,h.Ns1 g e/\(∀f,Xj (fs.lookup f) (e f))/\PySem.Within e (fs.map (·.1))
 |.own _=>∃o,h.get? a=Z9 o
 |.xd fs=>∃e,h.Ns1 a e/\∀f,Xj (fs.lookup f) (e f)
 |.rng y r=>∃t u v,h.get? a=Z9 { cls:=.type "range",data:=.fields #[.int y t,.int r u,.int 1 v] }
 |.frz o u=>h.get? a=Z9 o/\W8 H h a u
 |.tbl s=>h.get? a=Z9 { cls:=.none,data:=.fields s }
 |.met f x=>h.get? a=Z9 (W.methodObj (.ref f) (.ref x))
 |.ext i=>i h/\(∃o,h.get? a=Z9 o)/\∀j l:jH,i j->(∀o,j.get? a=Z9 o->l.get? a=Z9 o)->i l
def Yc(H:Hp)(h:jH):Prop:=∀a o,H a=Z9 o->W8 P w H h a o
end
section
variable {P:yZ}{w:jG}{H H':Hp}{h h':jH}{a:yR}{o:HO}
theorem W8.lt(x:W8 P w H h a o):a<h.objs.size:=by
 cases o with
 |lst c=>obtain⟨_,_,_,_,e⟩:=x;exact qB3 e
 |tup c=>obtain⟨_,_,_,p⟩:=x;exact p.lt
 |dK b=>obtain⟨_,_,_,_,o,_,_,e,_⟩:=x;exact qB3 e
 |dT b=>obtain⟨_,_,_,_,o,_,_,e,_⟩:=x;exact qB3 e
 |set S n=>obtain⟨o,_,_,_,e,_⟩:=x;exact qB3 e
 |ins C g fs=>obtain⟨_,_,_,e,_⟩:=x;exact qB3 e
 |own y=>obtain⟨_,e⟩:=x;exact qB3 e
 |xd fs=>obtain⟨_,⟨_,_,_,e,_⟩,_⟩:=x;exact qB3 e
 |rng j k=>obtain⟨_,_,_,e⟩:=x;exact qB3 e
 |frz i u=>obtain⟨e,_⟩:=x;exact qB3 e
 |tbl l=>exact qB3 (x)
 |met f y=>exact qB3 (x)
 |ext d=>obtain⟨_,⟨_,e⟩,_⟩:=x;exact qB3 e
theorem Paired.mapP{α c:Type}{F G:α->c->Prop}:∀{l₁:List α}{l₂:List c},mQ F l₁ l₂->(∀a b,F a b->G a b)->mQ G l₁ l₂
 |_,_,.nil,_=>.nil
 |_,_,.cons r t,f=>.cons (f _ _ r) (Paired.mapP t f)
theorem W8.stay(x:W8 P w H h a o)(k:∀b u,(b=a∨H b=Z9 (.own a))->h.get? b=Z9 u->h'.get? b=Z9 u)
  (D:∀b,H b=Z9 (.own a)->H' b=Z9 (.own a)) (ht:∀b xs,H b=Z9 (.tup xs)->H' b=Z9 (.tup xs)):W8 P w H' h' a o:=by
 induction o with
 |lst xs=>obtain⟨z,l,n,r,e⟩:=x;exact⟨z,l,n,r,k _ _ (.inl rfl) e⟩
 |tup xs=>obtain⟨z,l,r,g,e,c⟩:=x;exact⟨z,l,r,g,k _ _ (.inl rfl) e,c⟩
 |dK A=>obtain⟨z,y,G,r,g,i,j,e,c⟩:=x;exact⟨z,y,G,r,g,i,j,k _ _ (.inl rfl) e,c⟩
 |dT A =>
  obtain⟨z,y,xs,r,g,i,j,e,c⟩:=x;exact⟨z,y,xs,Paired.mapP r λp q z=>⟨z.1,ht _ _ z.2.1,z.2.2⟩,g,i,j,k _ _ (.inl rfl) e,c⟩
 |set S n=>obtain⟨g,i,j,t,e,c⟩:=x;exact⟨g,i,j,t,k _ _ (.inl rfl) e,c⟩
 |ins C I fs =>
  obtain⟨d,z,ne,e,m,⟨s,i,j,F,c⟩,r⟩:=x;exact⟨D _ d,z,ne,k _ _ (.inl rfl) e,m,⟨s,i,j,k _ _ (.inr d) F,c⟩,r⟩
 |own y=>obtain⟨g,e⟩:=x;exact⟨g,k _ _ (.inl rfl) e⟩
 |xd fs=>obtain⟨m,⟨s,i,j,e,c⟩,r⟩:=x;exact⟨m,⟨s,i,j,k _ _ (.inl rfl) e,c⟩,r⟩
 |rng L J=>obtain⟨t,u,v,e⟩:=x;exact⟨t,u,v,k _ _ (.inl rfl) e⟩
 |frz g u E=>obtain⟨e,q⟩:=x;exact⟨k _ _ (.inl rfl) e,E q⟩
 |tbl K =>
  have e:=x;exact k a _ (.inl rfl) e
 |met f y =>
  have e:=x;exact k a _ (.inl rfl) e
 |ext M=>obtain⟨p,⟨o,e⟩,B⟩:=x;exact⟨B _ _ p λo q=>k _ _ (.inl rfl) q,⟨o,k _ _ (.inl rfl) e⟩,B⟩
theorem Yc.lt(x:Yc P w H h)(e:H a=Z9 o):a<h.objs.size:=(x a o e).lt
theorem Yc.fresh(x:Yc P w H h)(e:h.objs.size<=a):H a=Z8:=by
 cases q:H a with
 |none=>rfl
 |some u=>exact absurd (qC1 (x.lt q) e) (qG3 _)
theorem Yc.kept(x:Yc P w H h)(k:∀b u,h.get? b=Z9 u->h'.get? b=Z9 u):Yc P w H h':=λa o e =>
 (x a o e).stay (λb u _ q=>k b u q) (λ_ q=>q) λ_ _ q=>q
theorem Yc.laid(x:Yc P w H h)(k:∀b u,h.get? b=Z9 u->h'.get? b=Z9 u)(i:h.objs.size<=a)(d:W8 P w (ZC H a o) h' a o):Yc P w (ZC H a o) h':=λb u e=>by
 have f:=x.fresh i;by_cases g:b=a
 .subst g;rw[Xx]at e;cases e;exact d
 .rw[YI g]at e;exact(x b u e).stay (λc v _ q=>k c v q) (λc q=>by rw[YI (UZ q f)];exact q) λc j q=>by rw[YI (UZ q f)];exact q
end
def Rd(H:Hp)(a:yR)(u:HO):Prop:=H a=Z9 u∨∃o,H a=Z9 (.frz o u)
theorem Rd.ok(r:Rd H a u)(x:Yc P w H h):W8 P w H h a u:=by
 rcases r with r|⟨o,r⟩
 .exact x a u r
 .obtain⟨_,q⟩:=x a _ r;exact q
def R1:Option HO->Prop
 |some (.lst _)=>True
 |some (.dK _)=>True
 |some (.dT _)=>True
 |some (.set _ _)=>True
 |some (.ins _ _ _)=>True
 |some (.ext _)=>True
 |_=>False
section
variable {P:yZ}{w:jG}{H:Hp}{h h':jH}{x e:yR}{o':HO}
theorem Yc.write(ok:Yc P w H h)(g:R1 (H x))(he:e=x∨H e=Z9 (.own x))(k:∀b u,b≠e->h.get? b=Z9 u->h'.get? b=Z9 u)(m:∃u,h'.get? e=Z9 u)
  (n:W8 P w (ZC H x o') h' x o'):Yc P w (ZC H x o') h':=λb u q=>by
 have d:∀c y,H c=Z9 (.own y)->c≠x:=λc y r z=>by subst z;rw[r]at g;exact g
 have f:∀c i,H c=Z9 (.tup i)->c≠x:=λc i r z=>by subst z;rw[r]at g;exact g
 by_cases l:b=x
 .subst l;rw[Xx]at q;cases q;exact n
 .rw[YI l]at q;by_cases a:b=e
  .have o:H b=Z9 (.own x):=by
    rcases he with z|z
    .exact absurd (a.trans z) l
    .rw[a];exact z
   rw[q]at o;cases o;obtain⟨v,p⟩:=m;exact⟨v,by rw[a];exact p⟩
  .refine(ok b u q).stay (λc v j r=>k c v ?_ r) (λc r=>by rw[YI (d c b r)];exact r) λc i r=>by rw[YI (f c i r)];exact r
   rcases j with rfl|j
   .exact a
   .rintro rfl;rcases he with z|z
    .exact d c b j z
    .simp_all
end
structure Un(fs ex:yC)(H H':Hp)(h h':jH):Prop where
 keep:∀b o,h.get? b=Z9 o->H b=Z8->b∉fs->b∉ex->h'.get? b=Z9 o
 slot:∀b o,h.get? b=Z9 o->H b=Z8->b∈fs->b∉ex->∃sl,h'.get? b=Z9 { o with slots:=sl }
 free:∀b o,h.get? b=Z9 o->H b=Z8->b∉ex->H' b=Z8
 there:∀b o,h.get? b=Z9 o->b∉ex->∃o',h'.get? b=Z9 o'
 tups:∀b xs,H b=Z9 (.tup xs)->H' b=Z9 (.tup xs)
 frzs:∀b o u,H b=Z9 (.frz o u)->H' b=Z9 (.frz o u)
 tbls:∀b ps,H b=Z9 (.tbl ps)->∃more,H' b=Z9 (.tbl (ps++more))
section
variable {fs fs' ex ex':yC}{H H1 H2:Hp}{h h1 h2 h':jH}{a x e:yR}{o:HO}
theorem Un.any(u:Un fs ex H H1 h h1)(q:h.get? b=Z9 c)(n:H b=Z8)(f:b∉ex):∃sl,h1.get? b=Z9 { c with slots:=sl }:=by
 by_cases d:b∈fs
 .exact u.slot b c q n d f
 .exact⟨c.slots,u.keep b c q n d f⟩
theorem Un.kept(k:∀b u,h.get? b=Z9 u->h'.get? b=Z9 u):Un fs ex H H h h' :=
 ⟨λb c q _ _ _=>k b c q,λb c q _ _ _=>⟨c.slots,k b c q⟩,λ_ _ _ n _=>n,λb c q _=>⟨c,k b c q⟩,λ_ _ q=>q,λ_ _ _ q=>q,λ_ d q=>⟨#[],by rw[q];simp⟩⟩
theorem Un.refl:Un fs ex H H h h:=Un.kept λ_ _ q=>q
theorem Un.laid(k:∀b u,h.get? b=Z9 u->h'.get? b=Z9 u)(d:h.objs.size<=a)(c:H a=Z8):Un fs ex H (ZC H a o) h h' where
 keep:=λb u q _ _ _=>k b u q
 slot:=λb u q _ _ _=>⟨u.slots,k b u q⟩
 free:=λb u q n _=>by rw[YI (qB7 (qC1 (qB3 q) d))];exact n
 there:=λb u q _=>⟨u,k b u q⟩
 tups:=λb f q=>by rw[YI (UZ q c)];exact q
 frzs:=λb u f q=>by rw[YI (UZ q c)];exact q
 tbls:=λb g q=>⟨#[],by rw[YI (UZ q c),q];simp⟩
theorem Un.write(d:R1 (H x))(he:e=x∨H e=Z9 (.own x))(k:∀b u,b≠e->h.get? b=Z9 u->h'.get? b=Z9 u)(f:∃u,h'.get? e=Z9 u):Un fs ex H (ZC H x o) h h':=by
 have j:∀b,H b=Z8->b≠x:=λb n z=>by subst z;rw[n]at d;exact d
 have i:∀b,H b=Z8->b≠e:=λb n z=>by
  subst z;rcases he with r|r
  .exact j b n r
  .rw[n]at r;cases r
 have g:∀b u,H b=Z9 u->¬R1 (Z9 u)->b≠x:=λb u q l z=>by subst z;rw[q]at d;exact l d
 refine⟨λb u q n _ _=>k b u (i b n) q,λb u q n _ _=>⟨u.slots,k b u (i b n) q⟩,λb u q n _=>by rw[YI (j b n)];exact n,λb u q _=>?_,
  λb m q=>by rw[YI (g b _ q λz=>z)];exact q,λb u m q=>by rw[YI (g b _ q λz=>z)];exact q,λb p q=>⟨#[],by rw[YI (g b _ q λz=>z),q];simp⟩⟩
 by_cases c:b=e
 .subst c;exact f
 .exact⟨u,k b u c q⟩
end
def OQ(h:jH)(H:Hp):yC:=(List.range h.objs.size).filter λa=>(H a).isSome
def W7(h:jH)(H:Hp):Heap:=W.hideAll h (OQ h H)
theorem Ba(h:jH)(H:Hp):(W7 h H).objs.size=h.objs.size:=W.hideAll_size _ _
theorem A9(e:h.get? b=Z9 o)(n:H b=Z8):(W7 h H).get? b=Z9 o :=
 W.hideAll_get _ e λa=>by have q:=(qF1.mp a).2;rw[n]at q;simp at q
theorem A8(e:(W7 h H).get? b=Z9 o):h.get? b=Z9 o/\H b=Z8:=by
 have a:=W.of_hideAll (OQ h H) e;refine⟨a,?_⟩;cases q:H b with
 |none=>rfl
 |some x =>
  have c:b∈OQ h H:=qF1.mpr ⟨qC9.mpr (qB3 a),by simp[q]⟩;have z:(W7 h H).get? b=Z8:=W.hideAll_none (OQ h H) c;rw[z]at e;cases e
def A7(g h:jH)(L:yR):yD:=(List.range h.objs.size).filterMap λa=>if a=L∨(g.get? a).isSome=Z7 then Z8 else(h.get? a).map λo=>(a,o)
def ZJ(g h:jH)(L d:yR):yD:=(A7 g h L).filter λp=>decide (p.1≠d)
structure Mod(K:yS)(mg:Str->yF)(base:jH):Prop where
 kin:K.In base
 glob:base.Ns jZ mg
 blt:∃mb,base.Ns dM mb/\∀x:Str,x ≠ "__name__"->mb x=jO x
 nolimit:base.NoLimit
structure Cx where
 prog:yZ
 w:jG
 K:yS
 mg:Str->yF
 base:jH
 A:jF
 N:yH
 s₀:yQ
 H₀:Hp
 env:Env
 outer:List Env
 stack:List Env
 ex:yC
 fn:Str->Bool
 calm:Bool
 pn:yD
 xe:yL
def Vt(l:List Env):yC:=l.filterMap (·.frame)
abbrev Cx.fs(X:Cx):yC:=Vt X.outer
def VA(a:vT)(x:Str):Prop:=a.names.lookup x=Z9 .local∨a.names.lookup x=Z9 .cell∨a.names.lookup x=Z9 .free
def R0(a:vT)(x:Str):Prop:=a.names.lookup x=Z9 .local∨a.names.lookup x=Z9 .cell
def Mz(env:Env)(h:jH)(m:Str->yF)(x:Str)(u:yT):Prop :=
 (env.kindOf x=Z9 .local/\m x=Z9 u)∨((env.kindOf x=Z9 .cell∨env.kindOf x=Z9 .free)/\∃c,env.cells.lookup x=Z9 c/\h.IsCell c (Z9 u))
structure Cx.Ok(X:Cx):Prop where
 mod:Mod X.K X.mg X.base
 kind:X.env.scope.kind=.function
 glob:X.env.globals=jZ
 blt:X.env.builtins=dM
 above:X.s₀.heap.objs.size<=X.env.locals
 inj:∀x y c,X.env.cells.lookup x=Z9 c->X.env.cells.lookup y=Z9 c->x=y
 has:∀x,(X.env.kindOf x=Z9 .cell∨X.env.kindOf x=Z9 .free)->∃c,X.env.cells.lookup x=Z9 c
 cab:∀x c,X.fn x=Z7->X.env.cells.lookup x=Z9 c->X.s₀.heap.objs.size<=c
 hd:X.calm=Z7->X.A.handled=Z8
 frames:X.A.frames=Z9 X.stack
 stk:X.stack=X.outer∨(X.stack=X.env::X.outer/\X.env.frame=Z9 X.env.locals)
 exf:∀b∈X.ex,b≠X.env.locals/\∀x c,X.env.cells.lookup x=Z9 c->c≠b
 bs:∀b o,X.base.get? b=Z9 o->X.s₀.heap.get? b=Z9 o/\X.H₀ b=Z8
 bsz:X.base.objs.size<=X.s₀.heap.objs.size
 noex:∀b o,X.base.get? b=Z9 o->b∉X.ex
 exfs:∀b∈X.ex,b∉X.fs
 funs:X.s₀.heap.FunFrames X.base X.outer
 frf:∀b∈X.fs,X.H₀ b=Z8
structure ZP(X:Cx)(pins:yD)(Z:List (Option V))(H:Hp)(s:yQ):Prop where
 ok:X.Ok
 os:s.os=X.s₀.os
 bare:gO s.gens
 base:Un X.fs X.ex X.H₀ H X.s₀.heap s.heap
 loc:∃m,s.heap.Ns X.env.locals m/\∀(i:Nat) (x:Str) (v:V),X.N[i]?=Z9 x->Z[i]?=Z9 (Z9 v)->VA X.env.scope x->∃u,ZG v u/\Mz X.env s.heap m x u
 cell:∀x c,X.env.cells.lookup x=Z9 c->∃v,s.heap.IsCell c v
 free:H X.env.locals=Z8
 freeC:∀x c,X.env.cells.lookup x=Z9 c->H c=Z8
 pin:∀p∈X.pn++pins,s.heap.get? p.1=Z9 p.2/\H p.1=Z8/\p.1≠X.env.locals/\p.1∉X.fs/\∀v,p.2.data≠.cell v
 hok:Yc X.prog X.w H s.heap
 len:Z.length=X.N.length
section
variable {X:Cx}{pins:yD}{Z:List (Option V)}{H H':Hp}{s:yQ}{h':jH}
theorem Cx.Ok.nofr(ok:X.Ok)(e:X.base.get? b=Z9 o):b∉X.fs:=λa=>by have:=(ok.funs.mem a).1;rw[e]at this;cases this
theorem ZP.bs(I:ZP X pins Z H s):∀b o,X.base.get? b=Z9 o->s.heap.get? b=Z9 o/\H b=Z8:=λb o e =>
 ⟨I.base.keep b o (I.ok.bs b o e).1 (I.ok.bs b o e).2 (I.ok.nofr e) (I.ok.noex b o e),I.base.free b o (I.ok.bs b o e).1 (I.ok.bs b o e).2 (I.ok.noex b o e)⟩
theorem ZP.bk(I:ZP X pins Z H s):∀b o,X.base.get? b=Z9 o->s.heap.get? b=Z9 o:=λb o e=>(I.bs b o e).1
theorem ZP.mod(I:ZP X pins Z H s):Mod X.K X.mg X.base:=I.ok.mod
theorem ZP.kIn(I:ZP X pins Z H s):X.K.In s.heap:=I.ok.mod.kin.keeps I.bk
theorem ZP.lt(I:ZP X pins Z H s):X.env.locals<s.heap.objs.size:=let ⟨_,hn,_⟩:=I.loc;hn.lt
theorem ZP.sz(I:ZP X pins Z H s):X.s₀.heap.objs.size<=s.heap.objs.size:=qD4 I.ok.above (qH5 I.lt)
theorem ZP.nofs(I:ZP X pins Z H s){a:yR}(h:s.heap.objs.size<=a):a∉X.fs:=λc=>by obtain⟨_,o,b,_⟩:=I.ok.funs.mem c;exact absurd (qC1 (qB3 b) (qD4 I.sz h)) (qG3 _)
theorem ZP.cne(I:ZP X pins Z H s):∀x c,X.env.cells.lookup x=Z9 c->c≠X.env.locals:=λx c e z=>by obtain⟨v,o,d,f⟩:=I.cell x c e;obtain⟨m,⟨g,h,i,a,b,_⟩,_⟩:=I.loc;rw[z,a]at d;cases d;rw[b]at f;cases f
theorem ZP.funs(I:ZP X pins Z H s):s.heap.FunFrames X.base X.outer:=by
 have all:∀l,(∀b∈Vt l,b∈X.fs)->X.s₀.heap.FunFrames X.base l->s.heap.FunFrames X.base l:=by
  intro l
  induction l with
  |nil=>intro _ _;trivial
  |cons m r h =>
   intro f i;obtain⟨hk,⟨L,o,c,n,g,j⟩,k⟩:=i;have a:=f L (by unfold Vt;rw[qJ6,c];exact qE3);obtain⟨p,e⟩:=I.base.slot L o g (I.ok.frf L a) a λz=>I.ok.exfs L z a;exact⟨hk,⟨L,_,c,n,e,j⟩,h (λb d=>f b (by unfold Vt;rw[qJ6,c];exact qC5 _ d)) k⟩
 exact all X.outer (λ_ d=>d) I.ok.funs
theorem ZP.stack(I:ZP X pins Z H s):s.heap.FunFrames X.base X.stack:=by
 rcases I.ok.stk with e|⟨e,b⟩
 .rw[e];exact I.funs
 .rw[e];obtain⟨m,a,_⟩:=I.loc;refine .cons (by rw[I.ok.kind];decide) b a ?_ I.funs;exact Heap.get?_none_of_le (qD4 I.ok.bsz I.ok.above)
theorem ZP.stkSub(I:ZP X pins Z H s):∀b∈Vt X.stack,b∈X.env.locals::X.fs:=λb a=>by
 rcases I.ok.stk with e|⟨e,c⟩
 .rw[e]at a;exact qC5 _ a
 .rw[e]at a;unfold Vt at a;rw[qJ6,c]at a;exact a
theorem ZP.stkFree(I:ZP X pins Z H s):∀b∈Vt X.stack,H b=Z8:=λb a=>by
 rcases qB0.mp (I.stkSub b a)with e|a
 .rw[e];exact I.free
 .obtain⟨_,o,c,_⟩:=I.ok.funs.mem a;exact I.base.free b o c (I.ok.frf b a) λz=>I.ok.exfs b z a
theorem ZP.step{ch:yC}(I:ZP X pins Z H s)
  (j:∀b∈ch,(b∈X.ex∨X.s₀.heap.objs.size<=b)/\b≠X.env.locals/\(∀x c,X.env.cells.lookup x=Z9 c->c≠b)/\∀p∈X.pn++pins,p.1≠b)
  (keep:∀b o,b≠X.env.locals->b∉X.fs->b∉ch->s.heap.get? b=Z9 o->H b=Z8->h'.get? b=Z9 o)
  (y:∀b o,b≠X.env.locals->b∈X.fs->b∉ch->s.heap.get? b=Z9 o->H b=Z8->∃sl,h'.get? b=Z9 { o with slots:=sl }) (f:∀b o,b∉ch->s.heap.get? b=Z9 o->H b=Z8->H' b=Z8)
  (A:∀b o,b∉ch->s.heap.get? b=Z9 o->∃o',h'.get? b=Z9 o')
  (E:∀b xs,H b=Z9 (.tup xs)->H' b=Z9 (.tup xs)) (D:∀b o u,H b=Z9 (.frz o u)->H' b=Z9 (.frz o u)) (G:∀b ps,H b=Z9 (.tbl ps)->∃more,H' b=Z9 (.tbl (ps++more)))
  (Q:∀m,s.heap.Ns X.env.locals m->h'.Ns X.env.locals m) (L:Yc X.prog X.w H' h') (S:gO g') :
  ZP X pins Z H' { s with heap:=h',gens:=g',drawn:=d',toks:=t' }:=by
 have F:∀b o,X.s₀.heap.get? b=Z9 o->b≠X.env.locals:=λb o e=>qB7 (qC1 (qB3 e) I.ok.above);have w:∀b o,X.s₀.heap.get? b=Z9 o->b∉X.ex->b∉ch:=λb o e a B=>by
  rcases(j b B).1 with z|z
  .exact a z
  .exact absurd (qC1 (qB3 e) z) (qG3 _)
 have h:∀x c,X.env.cells.lookup x=Z9 c->∀v,s.heap.IsCell c v->h'.IsCell c v:=λx c e v ⟨o,C,M⟩=>by
  have g:=λz=>(j c z).2.2.1 x c e rfl;by_cases N:c∈X.fs
  .obtain⟨sl,q⟩:=y c o (I.cne x c e) N g C (I.freeC x c e);exact⟨_,q,M⟩
  .exact⟨o,keep c o (I.cne x c e) N g C (I.freeC x c e),M⟩
 refine⟨I.ok,I.os,S,⟨λb o e n B a=>?_,λb o e n B a=>?_,λb o e n a=>?_,λb o e a=>?_,λb xs e=>E b xs (I.base.tups b xs e),λb o xs e=>D b o xs (I.base.frzs b o xs e),λb ps e=>?_⟩,?_,λx c e=>?_,?_,λx c e=>?_,λp P=>?_,L,I.len⟩
 .exact keep b o (F b o e) B (w b o e a) (I.base.keep b o e n B a) (I.base.free b o e n a)
 .obtain⟨sl,t⟩:=I.base.slot b o e n B a;obtain⟨K,J⟩:=y b _ (F b o e) B (w b o e a) t (I.base.free b o e n a);exact⟨K,J⟩
 .obtain⟨o',t⟩:=I.base.there b o e a;exact f b o' (w b o e a) t (I.base.free b o e n a)
 .obtain⟨o',t⟩:=I.base.there b o e a;exact A b o' (w b o e a) t
 .obtain⟨R,t⟩:=I.base.tbls b ps e;obtain⟨T,J⟩:=G b _ t;exact⟨R++T,by rw[J,Array.append_assoc]⟩
 .obtain⟨m,Y,U⟩:=I.loc;refine⟨m,Q m Y,λi x v t J W=>?_⟩;obtain⟨u,r,l⟩:=U i x v t J W;refine⟨u,r,?_⟩;rcases l with l|⟨k,c,e,z⟩
  .exact .inl l
  .exact .inr ⟨k,c,e,h x c e _ z⟩
 .obtain⟨v,z⟩:=I.cell x c e;exact⟨v,h x c e v z⟩
 .obtain⟨m,⟨o,_,_,C,_⟩,_⟩:=I.loc;exact f _ o (λz=>(j _ z).2.1 rfl) C I.free
 .obtain⟨v,o,C,M⟩:=I.cell x c e;exact f c o (λz=>(j c z).2.2.1 x c e rfl) C (I.freeC x c e)
 .obtain⟨e,n,ne,O,d⟩:=I.pin p P;have g:=λz=>(j p.1 z).2.2.2 p P rfl;exact⟨keep p.1 p.2 ne O g e n,f p.1 p.2 g e n,ne,O,d⟩
theorem ZP.un(I:ZP X pins Z H s)(u:Un X.fs [] H H' s.heap h')(c:Yc X.prog X.w H' h'):ZP X pins Z H' { s with heap:=h',toks:=t' }:=by
 obtain⟨m,⟨o,p,v,h,r⟩,_⟩:=id I.loc;obtain⟨t,i⟩:=u.any h I.free (by simp);exact I.step (g':=s.gens) (d':=s.drawn) (ch:=[]) (λ_ z=>nomatch z) (λb o _ f _ e n=>u.keep b o e n f (by simp)) (λb o _ f _ e n=>u.slot b o e n f (by simp)) (λb o _ e n=>u.free b o e n (by simp)) (λb o _ e=>u.there b o e (by simp)) u.tups u.frzs u.tbls (λl k=>by
  obtain⟨q,d,g,a,j⟩:=k;rw[h]at a;cases a;exact⟨_,d,g,i,j⟩) c I.bare
theorem ZP.call(I:ZP X pins Z H s)(u:Un (Vt X.stack) ch H H' s.heap h')(h:Yc X.prog X.w H' h')(t:gO g')
  (f:∀b∈ch,(b∈X.ex∨X.s₀.heap.objs.size<=b)/\b≠X.env.locals/\(∀x c,X.env.cells.lookup x=Z9 c->c≠b)/\∀p∈X.pn++pins,p.1≠b) :
  ZP X pins Z H' { s with heap:=h',gens:=g',drawn:=d',toks:=t' }:=by
 obtain⟨m,⟨o,y,C,k,r⟩,_⟩:=id I.loc;obtain⟨B,g⟩:=u.any k I.free λz=>(f _ z).2.1 rfl;exact I.step f (λb o g v a e n=>u.keep b o e n (λz=>(qB0.mp (I.stkSub b z)).elim g v) a) (λb o _ _ a e n=>u.any e n a) (λb o a e n=>u.free b o e n a) (λb o a e=>u.there b o e a) u.tups u.frzs u.tbls (λw q=>by
  obtain⟨A,i,j,d,l⟩:=q;rw[k]at d;cases d;exact⟨_,i,j,g,l⟩) h t
theorem ZP.turned(I:ZP X pins Z H s)(k:∀b o,b≠it->s.heap.get? b=Z9 o->h'.get? b=Z9 o)(A:H it=Z8)(f:it≠X.env.locals)
  (g:it∈X.ex∨X.s₀.heap.objs.size<=it) (j:∀x c,X.env.cells.lookup x=Z9 c->c≠it) (y:∀p∈X.pn++pins,p.1≠it):ZP X pins Z H { s with heap:=h',toks:=t' }:=by
 have d:∀b u,H b=Z9 u->b≠it:=λb u e z=>by rw[z,A]at e;cases e
 refine I.step (g':=s.gens) (d':=s.drawn) (ch:=[it]) (λb t=>?_) (λb o _ _ a e _=>k b o (λz=>a (by simp[z])) e) (λb o _ _ a e _=>⟨o.slots,k b o (λz=>a (by simp[z])) e⟩) (λ_ _ _ _ n=>n)
  (λb o a e=>⟨o,k b o (λz=>a (by simp[z])) e⟩) (λ_ _ e=>e) (λ_ _ _ e=>e) (λb B e=>⟨#[],by rw[e];simp⟩) (λm l=>?_) (λb u e=>?_) I.bare
 .have e:=by simpa using t
  subst e;exact⟨g,f,j,y⟩
 .obtain⟨o,i,w,h,r⟩:=l;exact⟨o,i,w,k _ o (Ne.symm f) h,r⟩
 .refine(I.hok b u e).stay (λc v a q=>k c v ?_ q) (λ_ q=>q) λ_ _ q=>q;rcases a with z|z
  .rw[z];exact d b u e
  .exact d c _ z
theorem ZP.tok(I:ZP X pins Z H s)(t:Nat):ZP X pins Z H { s with toks:=t }:=I.un (h':=s.heap) (t':=t) Un.refl I.hok
theorem ZP.kept(I:ZP X pins Z H s)(k:∀b u,s.heap.get? b=Z9 u->h'.get? b=Z9 u):ZP X pins Z H { s with heap:=h',toks:=t' }:=I.un (Un.kept k) (I.hok.kept k)
theorem ZP.laid{a:yR}(I:ZP X pins Z H s)(k:∀b u,s.heap.get? b=Z9 u->h'.get? b=Z9 u)(c:s.heap.objs.size<=a)(d:W8 X.prog X.w (ZC H a o) h' a o):
  ZP X pins Z (ZC H a o) { s with heap:=h',toks:=t' }:=I.un (Un.laid k c (I.hok.fresh c)) (I.hok.laid k c d)
theorem ZP.write(I:ZP X pins Z H s)(d:R1 (H x))(he:e=x∨H e=Z9 (.own x))(k:∀b u,b≠e->s.heap.get? b=Z9 u->h'.get? b=Z9 u)(a:∃u,h'.get? e=Z9 u)
  (c:W8 X.prog X.w (ZC H x o) h' x o):ZP X pins Z (ZC H x o) { s with heap:=h',toks:=t' }:=I.un (Un.write d he k a) (I.hok.write d he k a c)
theorem ZP.weak(I:ZP X pins Z H s)(e:a.length=Z.length)(w:∀(i:Nat) v,a[i]?=Z9 (Z9 v)->Z[i]?=Z9 (Z9 v)):ZP X pins a H s :=
 ⟨I.ok,I.os,I.bare,I.base,let ⟨m,hn,hl'⟩:=I.loc;⟨m,hn,λi x v b d c=>hl' i x v b (w i v d) c⟩,I.cell,I.free,I.freeC,I.pin,I.hok,e.trans I.len⟩
theorem ZP.pins_of(I:ZP X pins Z H s)(h:∀p∈a,s.heap.get? p.1=Z9 p.2/\H p.1=Z8/\p.1≠X.env.locals/\p.1∉X.fs/\∀v,p.2.data≠.cell v):ZP X a Z H s :=
 ⟨I.ok,I.os,I.bare,I.base,I.loc,I.cell,I.free,I.freeC,λp b=>(qC0.mp b).elim (λz=>I.pin p (qF2 _ z)) (h p),I.hok,I.len⟩
theorem G2{N:yH}(e:N.Nodup){i j:Nat}(a:N[i]?=Z9 x)(b:N[j]?=Z9 x):i=j:=by obtain⟨f,c⟩:=qA4.mp a;obtain⟨g,d⟩:=qA4.mp b;exact(List.getElem_inj e).mp (c.trans d.symm)
theorem A6{E:yL}(I:ZP X pins Z H s)(hN:X.N.Nodup)(hi:X.N[i]?=Z9 x)(w:R0 X.env.scope x)(r:ZG v u)
  (h:∀s',ZP X pins (Z.set i (Z9 v)) H s'->(∃a,qE4 a s.heap s'.heap/\(a=X.env.locals∨X.env.cells.lookup x=Z9 a))->Q () s') (hf:X.fn x=Z7∨X.env.scope.names.lookup x=Z9 .local:=by first|exact .inl rfl|exact .inr rfl|assumption):y7 M A (storeName X.env x u) Q E s:=by
 obtain⟨m,hn,hl⟩:=id I.loc;have J:(X.env.scope.kind == .class||(X.env.scope.kind == .module&&X.env.locals != X.env.globals))=Z5:=by rw[I.ok.kind];rfl
 have P:i<Z.length:=by rw[I.len];exact(qA4.mp hi).1
 have cne:=I.cne;have l:∀{a:yR}{h':jH},(∃o,s.heap.get? a=Z9 o/\H a=Z8)->qE4 a s.heap h'->Yc X.prog X.w H h':=λ{a h'} ha f b ob e=>by
  obtain⟨_,_,B⟩:=ha;refine(I.hok b ob e).stay (λc R t q=>(f.2 c ?_).trans q) (λ_ q=>q) λ_ _ q=>q;rintro rfl;rcases t with rfl|t
  .rw[B]at e;cases e
  .rw[B]at t;cases t
 rcases w with hk|hk
 .refine wpAny_storeName_local hk hn (λh' T f=>?_) J;obtain⟨oL,_,_,hoL,_⟩:=id hn;refine h _ ⟨I.ok,I.os,I.bare,⟨λb o e n G w=>?_,λb o e n G w=>?_,I.base.free,λb o e w=>?_,I.base.tups,I.base.frzs,I.base.tbls⟩,⟨_,T,λj y v' g C e3=>?_⟩,λy c e=>?_,I.free,I.freeC,λp hp=>?_,l ⟨oL,hoL,I.free⟩ f,by simpa using I.len⟩ ⟨_,f,.inl rfl⟩
  .exact(f.2 b (qB7 (qC1 (qB3 e) I.ok.above))).trans (I.base.keep b o e n G w)
  .obtain⟨sl,g⟩:=I.base.slot b o e n G w;exact⟨sl,(f.2 b (qB7 (qC1 (qB3 e) I.ok.above))).trans g⟩
  .obtain⟨U,g⟩:=I.base.there b o e w;exact⟨U,(f.2 b (qB7 (qC1 (qB3 e) I.ok.above))).trans g⟩
  .by_cases F:j=i
   .subst F;rw[hi]at g;cases g;rw[qE2 P]at C;cases C;exact⟨u,r,.inl ⟨hk,by simp⟩⟩
   .rw[qE5 (Ne.symm F)]at C;obtain⟨u',W,q⟩:=hl j y v' g C e3;refine⟨u',W,?_⟩;rcases q with⟨k,e⟩| ⟨k,c,e,z⟩
    .refine .inl ⟨k,?_⟩;have:y≠x:=λe=>F (G2 hN g (e▸hi));simp[this,e]
    .exact .inr ⟨k,c,e,z.sameBut f (cne y c e)⟩
  .obtain⟨R,z⟩:=I.cell y c e;exact⟨R,z.sameBut f (cne y c e)⟩
  .obtain⟨e,n,ne,Y,d⟩:=I.pin p hp;exact⟨(f.2 p.1 ne).trans e,n,ne,Y,d⟩
 .have D:X.fn x=Z7:=by
   rcases hf with z|z
   .exact z
   .rw[z]at hk;cases hk
  obtain⟨c,t⟩:=I.ok.has x (.inl hk);obtain⟨R,z⟩:=I.cell x c t;refine wpAny_storeName_cell I.ok.kind hk t z (λh' O f=>?_);obtain⟨oc,N,K⟩:=id z;refine h { s with heap:=h' } ⟨I.ok,I.os,I.bare,⟨λb o e n G w=>?_,λb o e n G w=>?_,I.base.free,λb o e w=>?_,I.base.tups,I.base.frzs,I.base.tbls⟩,⟨m,hn.sameBut f (Ne.symm (cne x c t)),λj y v' g C e3=>?_⟩,λy S e=>?_,I.free,I.freeC,λp hp=>?_,l ⟨oc,N,I.freeC x c t⟩ f,by simpa using I.len⟩ ⟨c,f,.inr t⟩
  .exact(f.2 b (qB7 (qC1 (qB3 e) (I.ok.cab x c D t)))).trans (I.base.keep b o e n G w)
  .obtain⟨sl,g⟩:=I.base.slot b o e n G w;exact⟨sl,(f.2 b (qB7 (qC1 (qB3 e) (I.ok.cab x c D t)))).trans g⟩
  .obtain⟨U,g⟩:=I.base.there b o e w;exact⟨U,(f.2 b (qB7 (qC1 (qB3 e) (I.ok.cab x c D t)))).trans g⟩
  .by_cases F:j=i
   .subst F;rw[hi]at g;cases g;rw[qE2 P]at C;cases C;exact⟨u,r,.inr ⟨.inl hk,c,t,O⟩⟩
   .rw[qE5 (Ne.symm F)]at C;obtain⟨u',W,q⟩:=hl j y v' g C e3;refine⟨u',W,?_⟩;rcases q with q|⟨k,S,e,z'⟩
    .exact .inl q
    .refine .inr ⟨k,S,e,z'.sameBut f ?_⟩;rintro rfl;exact F (G2 hN g (I.ok.inj _ _ _ e t▸hi))
  .by_cases L:S=c
   .subst L;exact⟨_,O⟩
   .obtain⟨w2,z2⟩:=I.cell y S e;exact⟨w2,z2.sameBut f L⟩
  .obtain⟨e,n,ne,Y,d⟩:=I.pin p hp;refine⟨(f.2 p.1 ?_).trans e,n,ne,Y,d⟩;intro q;rw[q,N]at e;have q':=Option.some.inj e;exact d R (by rw[<- q'];exact K)
theorem A5{E:yL}(I:ZP X pins Z H s)(a:X.N.Nodup)(hi:X.N[i]?=Z9 x)(c:R0 X.env.scope x)(r:ZG v u)
  (h:∀s',ZP X pins (Z.set i (Z9 v)) H s'->Q () s') (d:X.fn x=Z7∨X.env.scope.names.lookup x=Z9 .local:=by first|exact .inl rfl|exact .inr rfl|assumption):y7 M A (storeName X.env x u) Q E s :=
 A6 I a hi c r (λs' b _=>h s' b) d
theorem ZP.call'(I:ZP X pins Z H s)(g:s'.os=s.os)(u:Un (Vt X.stack) ch H H' s.heap s'.heap)(d:Yc X.prog X.w H' s'.heap)(h:gO s'.gens)
  (a:∀b∈ch,(b∈X.ex∨X.s₀.heap.objs.size<=b)/\b≠X.env.locals/\(∀x c,X.env.cells.lookup x=Z9 c->c≠b)/\∀p∈X.pn++pins,p.1≠b):ZP X pins Z H' s':=by obtain⟨i,g',d',t',f⟩:=s';have e:f=s.os:=g;subst e;exact I.call (g':=g') (t':=t') (d':=d') u d h a
end
abbrev XK:=yT->Option yR->Hp->Prop
abbrev St:=List (Option V)
abbrev VK:=V->Hp->Prop
abbrev TE:=St->Hp->VK->Prop
abbrev TT:=St->Hp->(Bool->Hp->Prop)->Prop
abbrev TA:=St->Hp->(List V->Hp->Prop)->Prop
structure W6 where
 nx:St->Hp->Prop
 rt:VK
 bk:St->Hp->Prop:=λ_ _=>False
 ct:St->Hp->Prop:=λ_ _=>False
abbrev TS:=W6->St->Hp->Prop
inductive EP(X:Cx)(pins:yD)(Z:St)(Q:VK)(u:yT)(s':yQ):Prop
 |mk (v:V) (H':Hp) (I:ZP X pins Z H' s') (r:ZG v u) (q:Q v H')
inductive TP(X:Cx)(pins:yD)(Z:St)(Q:Bool->Hp->Prop)(b:Bool)(s':yQ):Prop
 |mk (H':Hp) (I:ZP X pins Z H' s') (q:Q b H')
inductive AP(X:Cx)(pins:yD)(Z:St)(Q:List V->Hp->Prop)(us:yB)(s':yQ):Prop
 |mk (vs:List V) (H':Hp) (I:ZP X pins Z H' s') (r:ZO vs us) (q:Q vs H')
def SP(X:Cx)(a:yD)(D:W6)(f:Flow)(s':yQ):Prop :=
 match f with
 |.next=>∃c b,ZP X a c b s'/\D.nx c b
 |.brk=>∃c b,ZP X a c b s'/\D.bk c b
 |.cont=>∃c b,ZP X a c b s'/\D.ct c b
 |.ret u=>∃v c b,ZP X a c b s'/\ZG v u/\D.rt v b
def PE(X:Cx)(e:jE)(t:TE):Prop :=
 ∀(a:yD) (s:yQ) (Z:St) (H:Hp) (Q:VK),ZP X a Z H s->t Z H Q->y7 (yV X.prog X.w) X.A (v7 e X.env) (EP X a Z Q) X.xe s
def PT(X:Cx)(e:jE)(t:TT):Prop :=
 ∀(a:yD) (s:yQ) (Z:St) (H:Hp) (Q:Bool->Hp->Prop),ZP X a Z H s->t Z H Q->y7 (yV X.prog X.w) X.A (uI e X.env (v7 e X.env)) (TP X a Z Q) X.xe s
def PW(X:Cx)(e:jE)(t:TT):Prop :=
 ∀(b:Sem yT) (a:yD) (s:yQ) (Z:St) (H:Hp) (Q:Bool->Hp->Prop),ZP X a Z H s->t Z H Q->y7 (yV X.prog X.w) X.A (uI e X.env b) (TP X a Z Q) X.xe s
theorem PW.pt(h:PW X e t):PT X e t:=h _
def PA(X:Cx)(es:yE)(t:TA):Prop :=
 ∀(b:Pos) (a:yD) (s:yQ) (Z:St) (H:Hp) (Q:List V->Hp->Prop),ZP X a Z H s->t Z H Q->y7 (yV X.prog X.w) X.A (spliced (wV b (jL es X.env))) (AP X a Z Q) X.xe s
def PS(X:Cx)(st:wG)(t:TS):Prop :=
 ∀(a:yD) (s:yQ) (Z:St) (H:Hp) (D:W6),ZP X a Z H s->t D Z H->y7 (yV X.prog X.w) X.A (exec st X.env) (SP X a D) X.xe s
def XB(X:Cx)(st:List wG)(t:TS):Prop :=
 ∀(a:yD) (s:yQ) (Z:St) (H:Hp) (D:W6),ZP X a Z H s->t D Z H->y7 (yV X.prog X.w) X.A (execs st X.env) (SP X a D) X.xe s
theorem Zq{Q b:α->yQ->Prop}{E:yL}(h:y7 M A t Q E s)(c:∀a s,Q a s->b a s):y7 M A t b E s:=jS h c λ_ _ x=>x
section
variable {X:Cx}
def Tc(i:Nat):TE:=fun Z H Q=>∃v,Z[i]?=Z9 (Z9 v)/\Q v H
def tC(v:V):TE:=λ_ H Q=>Q v H
theorem G1{pos:Pos}(o:X.N[i]?=Z9 x)(j:VA X.env.scope x)(f:VB x:=by decide)(d:(x == ("__classdict__":Str))=Z5:=by decide):PE X (.Name x pos) (Tc i):=by
 intro b s Z H Q I h;obtain⟨v,e,h⟩:=h;obtain⟨m,p,n⟩:=I.loc;obtain⟨u,r,l⟩:=n i x v o e j;have fin:EP X b Z Q u s:=⟨v,H,I,r,h⟩
 rcases l with⟨hk,k⟩| ⟨hk,c,g,a⟩
 .exact wpAny_Name (wpAny_loadName_local I.ok.kind hk p k fin) f
 .rcases hk with hk|hk
  .exact wpAny_Name (wpAny_loadName_cell I.ok.kind hk g a fin) f
  .exact wpAny_Name (wpAny_loadName_free I.ok.kind hk g a fin d) f
theorem A4{i j pos}:PE X (.Constant (.int i) j pos) (tC (.int i)):=λ_ _ _ H _ I h=>wpAny_Constant_int ⟨.int i,H,I.tok _,⟨_,rfl⟩,h⟩
theorem A3{b j pos}:PE X (.Constant (.bool b) j pos) (tC (.bl b)):=λ_ _ _ H _ I h=>Constant_bool ⟨.bl b,H,I,rfl,h⟩
theorem A2{j pos}:PE X (.Constant .none j pos) (tC .non):=λ_ _ _ H _ I h=>Constant_none ⟨.non,H,I,rfl,h⟩
theorem A1{x j pos}:PE X (.Constant (.str x) j pos) (tC (.str x)):=λ_ _ _ H _ I h=>Calls.Constant_str ⟨.str x,H,I.tok _,⟨_,rfl⟩,h⟩
def Gl(X:Cx)(x:Str):Prop:=X.env.kindOf x=Z9 .globalImplicit
theorem A0{E:yL}{Z:St}{Q:yL}(I:ZP X a Z H s)(b:Gl X x)(hm:X.mg x=Z9 u)(h:Q u s)
  (c:VB x:=by decide):y7 (yV X.prog X.w) X.A (v7 (.Name x pos) X.env) Q E s :=
 gC I.ok.kind b (Calls.loadGlobal_global (by rw[I.ok.glob];exact I.mod.glob.keeps I.bk) hm h) c
theorem T3{E:yL}{Z:St}{pos:Pos}{Q:yL}(I:ZP X a Z H s)(e:Gl X x)(hm:X.mg x=Z8)(c:jO x=Z9 u)(h:Q u s)
  (g:x ≠ "__name__":=by decide) (f:VB x:=by decide):y7 (yV X.prog X.w) X.A (v7 (.Name x pos) X.env) Q E s:=by obtain⟨i,b,d⟩:=I.mod.blt;exact gC I.ok.kind e (Calls.loadGlobal_builtin (by rw[I.ok.glob];exact I.mod.glob.keeps I.bk) hm (by rw[I.ok.blt];exact b.keeps I.bk) ((d x g).trans c) h) f
theorem AZ{pos:Pos}(c:Gl X x)(hm:X.mg x=Z8)(a:jO x=Z9 u)(r:ZG v u)(b:x ≠ "__name__":=by decide)(d:VB x:=by decide):PE X (.Name x pos) (tC v) :=
 λ_ _ _ H _ I h=>T3 I c hm a ⟨v,H,I,r,h⟩ b d
variable {a b:jE}{ta tb:TE}{pos:Pos}
variable {tA tB':TT}{ZJ:yE}
def Mx(t u:TT):TT:=fun Z H Q=>t Z H λc d=>if c=Z7 then u Z d Q else Q Z5 d
def AY(t u:TT):TT:=fun Z H Q=>t Z H λc d=>if c=Z7 then Q Z7 d else u Z d Q
def Mw(t:TT):TT:=fun Z H Q=>t Z H λc d=>Q (!c) d
theorem AX(f:PT X a tA):PW X (.BoolOp .And [a] pos) tA:=by
 intro g d s Z H Q I h;refine isTrue_and (Zq (f d s Z H Q I h) λc i e=>?_);cases c with
 |true=>exact isTrue_and_nil e
 |false=>exact e
theorem AW(f:PT X a tA):PW X (.BoolOp .Or [a] pos) tA:=by
 intro g d s Z H Q I h;refine isTrue_or (Zq (f d s Z H Q I h) λc i e=>?_);cases c with
 |false=>exact isTrue_or_nil e
 |true=>exact e
theorem AV(j:PT X a tA)(k:PW X (.BoolOp .And (b::ZJ) pos) tB'):PW X (.BoolOp .And (a::b::ZJ) pos) (Mx tA tB'):=by
 intro i d s Z H Q I h;refine isTrue_and (Zq (j d s Z H _ I h) λc l ⟨f,e,g⟩=>?_);cases c with
 |true=>exact k i d l Z f Q e g
 |false=>exact⟨f,e,g⟩
theorem AU(j:PT X a tA)(k:PW X (.BoolOp .Or (b::ZJ) pos) tB'):PW X (.BoolOp .Or (a::b::ZJ) pos) (AY tA tB'):=by
 intro i d s Z H Q I h;refine isTrue_or (Zq (j d s Z H _ I h) λc l ⟨f,e,g⟩=>?_);cases c with
 |true=>exact⟨f,e,g⟩
 |false=>exact k i d l Z f Q e g
theorem AS(f:PT X a tA):PT X (.UnaryOp .Not a pos) (Mw tA):=by intro d s Z H Q I h;exact isTrue_not (Zq (f d s Z H (λc g=>Q (!c) g) I h) λc j ⟨e,i,q⟩=>⟨e,i,q⟩)
def AR(f e:TE):TE:=fun Z H Q=>f Z H λx d=>∃c,x=.bl c/\if c=Z7 then e Z d Q else Q (.bl Z5) d
def Mv(f e:TE):TE:=fun Z H Q=>f Z H λx d=>∃c,x=.bl c/\if c=Z7 then Q (.bl Z7) d else e Z d Q
def AQ(d:TE):TE:=fun Z H Q=>d Z H λx e=>∃c,x=.bl c/\Q (.bl (!c)) e
theorem AO{op}(h:PE X a t):PE X (.BoolOp op [a] pos) t:=λc s Z H Q I d=>BoolOp_one (h c s Z H Q I d)
theorem AN(i:PE X a ta)(j:PE X (.BoolOp .And (b::ZJ) pos) tb):PE X (.BoolOp .And (a::b::ZJ) pos) (AR ta tb):=by
 intro d s Z H Q I h;refine BoolOp_and (Zq (i d s Z H _ I h) λv l ⟨x,g,f,k,e⟩=>?_);obtain⟨c,rfl,e⟩:=e;cases k;refine jU ?_;cases c with
 |true=>exact j d l Z g Q f e
 |false=>exact⟨.bl Z5,g,f,rfl,e⟩
theorem AL(i:PE X a ta)(j:PE X (.BoolOp .Or (b::ZJ) pos) tb):PE X (.BoolOp .Or (a::b::ZJ) pos) (Mv ta tb):=by
 intro d s Z H Q I h;refine BoolOp_or (Zq (i d s Z H _ I h) λv l ⟨x,g,f,k,e⟩=>?_);obtain⟨c,rfl,e⟩:=e;cases k;refine jU ?_;cases c with
 |false=>exact j d l Z g Q f e
 |true=>exact⟨.bl Z7,g,f,rfl,e⟩
theorem AK(g:PE X a ta):PE X (.UnaryOp .Not a pos) (AQ ta):=by intro d s Z H Q I h;refine UnaryOp_ (Zq (g d s Z H _ I h) λv k ⟨x,i,f,j,e⟩=>?_);obtain⟨c,rfl,e⟩:=e;cases j;exact not_of (jU ⟨.bl (!c),i,f,rfl,e⟩)
def AJ(t:TT)(f e:TE):TE:=fun Z H Q=>t Z H λc d=>if c=Z7 then f Z d Q else e Z d Q
theorem AI(k:PT X c tA)(l:PE X a ta)(m:PE X b tb):PE X (.IfExp c a b pos) (AJ tA ta tb):=by
 intro e s Z H Q I h;refine wpAny_IfExp (Zq (k e s Z H _ I h) λd j ⟨g,f,i⟩=>?_);cases d with
 |true=>exact l e j Z g Q f i
 |false=>exact m e j Z g Q f i
end
def YK(K:yS)(H:Hp)(a:yR)(xs:List V):Prop :=
 Rd H a (.lst xs) ∨
  ∃(o:Obj) (b:yJ) (n:Nat),K.lookup a=Z9 o/\o.cls=.type "list"/\o.dict=Z8/\o.data=.seq b n/\b.size<=jC/\ZO xs b.toList
def Zp(K:yS)(H:Hp)(a:yR)(xs:List V):Prop :=
 Rd H a (.tup xs) ∨
  ∃(o:Obj) (b:yJ) (n:Nat),K.lookup a=Z9 o/\o.cls=.type "tuple"/\o.data=.seq b n/\b.size<=jC/\ZO xs b.toList
def Mu:yT->Option V
 |.none=>Z9 .non
 |.bool b=>Z9 (.bl b)
 |.int i _=>Z9 (.int i)
 |.str x _=>Z9 (.str x)
 |.bytes b _=>Z9 (.byt b)
 |.float b _=>Z9 (.flt b)
 |.ref a=>Z9 (.ref a)
 |.type n=>Z9 (.ty n)
 |_=>Z8
theorem ZG.abs(r:ZG x u):Mu u=Z9 x:=by
 cases x with
 |non=>cases r;rfl
 |bl _=>cases r;rfl
 |int _=>obtain⟨t,rfl⟩:=r;rfl
 |str _=>obtain⟨t,rfl⟩:=r;rfl
 |byt _=>obtain⟨t,rfl⟩:=r;rfl
 |flt _=>obtain⟨t,rfl⟩:=r;rfl
 |ref _=>cases r;rfl
 |ty _=>cases r;rfl
theorem ZG.inj(r:ZG x u)(q:ZG y u):x=y:=Option.some.inj (r.abs.symm.trans q.abs)
theorem ZO.inj:∀{xs ys:List V}{a:yB},ZO xs a->ZO ys a->xs=ys
 |_,_,_,.nil,.nil=>rfl
 |_,_,_,.cons r t,.cons b c=>by rw[r.inj b,ZO.inj t c]
section
variable {X:Cx}{pins:yD}{Z:St}{H:Hp}{s:yQ}{a:yR}{xs ys:List V}
theorem YK.of{K:yS}(h:H a=Z9 (.lst xs)):YK K H a xs:=.inl (.inl h)
theorem Zp.of{K:yS}(h:H a=Z9 (.tup xs)):Zp K H a xs:=.inl (.inl h)
theorem ZP.list(I:ZP X pins Z H s)(h:YK X.K H a xs):∃b:yB,ZO xs b/\PlainL s.heap a b.toArray/\xs.length<=sizeLine:=by
 rcases h with h|⟨o,b,n,hk,c,f,d,g,r⟩
 .obtain⟨z,b,n,r,e⟩:=h.ok I.hok;exact⟨b,r,⟨_,n,e,rfl,rfl,rfl⟩,z⟩
 .refine⟨b.toList,r,⟨o,n,I.kIn a o hk,c,f,by simpa using d⟩,?_⟩;have e:=r.length;simp only[yY]at e
  lia
theorem ZP.tuple(I:ZP X pins Z H s)(h:Zp X.K H a xs):∃b:yB,ZO xs b/\dR s.heap a b.toArray/\xs.length<=sizeLine:=by
 rcases h with h|⟨o,b,n,hk,c,d,f,r⟩
 .obtain⟨z,b,r,p⟩:=h.ok I.hok;exact⟨b,r,p,z⟩
 .refine⟨b.toList,r,⟨o,I.kIn a o hk,c,n,by simpa using d⟩,?_⟩;have e:=r.length;simp only[yY]at e
  lia
theorem ZP.list_inj(I:ZP X pins Z H s)(h:YK X.K H a xs)(h':YK X.K H a ys):xs=ys:=by
 obtain⟨i,r,⟨o,n,e,_,_,d⟩,_⟩:=I.list h;obtain⟨c,g,⟨k,j,b,_,_,f⟩,_⟩:=I.list h';rw[e]at b;cases b;rw[d]at f;injection f with d1 _;have:=by simpa using congrArg Array.toList d1
 subst this;exact r.inj g
theorem ZP.tuple_inj(I:ZP X pins Z H s)(h:Zp X.K H a xs)(h':Zp X.K H a ys):xs=ys:=by
 obtain⟨i,r,⟨o,e,_,n,d⟩,_⟩:=I.tuple h;obtain⟨c,g,⟨k,b,_,j,f⟩,_⟩:=I.tuple h';rw[e]at b;cases b;rw[d]at f;injection f with d1 _;have:=by simpa using congrArg Array.toList d1
 subst this;exact r.inj g
end
abbrev Cx.wish(X:Cx)(E:yL):Cx:={ X with xe:=E }
abbrev Cx.nox(X:Cx):Cx:=X.wish λ_ _=>False
theorem Cx.Ok.wish{X:Cx}(ok:X.Ok)(E:yL):(X.wish E).Ok :=
 ⟨ok.mod,ok.kind,ok.glob,ok.blt,ok.above,ok.inj,ok.has,ok.cab,ok.hd,ok.frames,ok.stk,ok.exf,ok.bs,ok.bsz,ok.noex,ok.exfs,ok.funs,ok.frf⟩
theorem Cx.Ok.unwish{X:Cx}(ok:(X.wish E).Ok):X.Ok :=
 ⟨ok.mod,ok.kind,ok.glob,ok.blt,ok.above,ok.inj,ok.has,ok.cab,ok.hd,ok.frames,ok.stk,ok.exf,ok.bs,ok.bsz,ok.noex,ok.exfs,ok.funs,ok.frf⟩
section
variable {X:Cx}{pins:yD}{Z:St}{H:Hp}{s:yQ}{E:yL}
theorem ZP.wish(I:ZP X pins Z H s)(E:yL):ZP (X.wish E) pins Z H s:=⟨I.ok.wish E,I.os,I.bare,I.base,I.loc,I.cell,I.free,I.freeC,I.pin,I.hok,I.len⟩
theorem ZP.unwish(I:ZP (X.wish E) pins Z H s):ZP X pins Z H s:=⟨I.ok.unwish,I.os,I.bare,I.base,I.loc,I.cell,I.free,I.freeC,I.pin,I.hok,I.len⟩
theorem SP.unwish(h:SP (X.wish E) pins D f s'):SP X pins D f s':=by
 cases f with
 |next=>obtain⟨b,a,I,q⟩:=h;exact⟨b,a,I.unwish,q⟩
 |brk=>obtain⟨b,a,I,q⟩:=h;exact⟨b,a,I.unwish,q⟩
 |cont=>obtain⟨b,a,I,q⟩:=h;exact⟨b,a,I.unwish,q⟩
 |ret u=>obtain⟨v,b,a,I,r,q⟩:=h;exact⟨v,b,a,I.unwish,r,q⟩
theorem XB.nox{st:List wG}(h:XB X.nox st t):XB X st t:=λa s Z H D I b =>
 jS (h a s Z H D (I.wish _) b) (λ_ _ q=>q.unwish) λ_ _ z=>False.elim z
end
section
variable {X:Cx}{st:wG}{ZJ:List wG}{t u:TS}{e:jE}{te:TE}{pos:Pos}
def G0:TS:=λD Z H=>D.nx Z H
def Ms(t u:TS):TS:=λD Z H=>t { D with nx:=u D } Z H
theorem AG:XB X [] G0:=λ_ _ Z H _ I h=>fW ⟨Z,H,I,h⟩
theorem AF(b:PS X st t)(d:XB X ZJ u):XB X (st::ZJ) (Ms t u):=by
 intro a s Z H D I h;refine wpAny_execs_cons (Zq (b a s Z H { D with nx:=u D } I h) λf j q=>?_);cases f with
 |next =>
  obtain⟨g,c,i,q⟩:=q;exact d a j g c D i q
 |ret v=>exact q
 |brk=>exact q
 |cont=>exact q
def AE:TS:=λD Z H=>D.bk Z H
def AD:TS:=λD Z H=>D.ct Z H
theorem AC:PS X (.Pass pos) G0:=λ_ _ Z H _ I h=>wpAny_Pass ⟨Z,H,I,h⟩
theorem AB:PS X (.Break pos) AE:=λ_ _ Z H _ I h=>wpAny_Break ⟨Z,H,I,h⟩
theorem AA:PS X (.Continue pos) AD:=λ_ _ Z H _ I h=>wpAny_Continue ⟨Z,H,I,h⟩
theorem ZP.quiet{Z:St}(I:ZP X a Z H s):interactive X.env=Z5:=by simp[interactive,I.ok.kind]
def Az(b:TE):TS:=λD Z H=>b Z H λ_ a=>D.nx Z a
theorem Ay(he:PE X e te)(hs:fL e Z8 pos.line X.env=pure Z5:=by rfl):PS X (.Expr e pos) (Az te):=by intro a s Z H D I h;exact wpAny_Expr_any (Zq (he a s Z H _ I h) λv g ⟨x,c,b,f,d⟩=>⟨Z,c,b,d⟩) I.quiet hs
def Mr(a:TE):TS:=λD Z H=>a Z H D.rt
theorem Ax(he:PE X e te):PS X (.Return (Z9 e) pos) (Mr te):=by intro a s Z H D I h;exact wpAny_Return_some (Zq (he a s Z H _ I h) λv g ⟨x,c,b,f,d⟩=>⟨x,Z,c,b,f,d⟩)
def Aw:TS:=λD _ H=>D.rt .non H
theorem Av:PS X (.Return Z8 pos) Aw:=λ_ _ Z H _ I h=>wpAny_Return_none ⟨.non,Z,H,I,rfl,h⟩
def Mq(c:TT)(t u:TS):TS:=λD Z H=>c Z H λb a=>if b=Z7 then t D Z a else u D Z a
theorem Au(l:PT X c tc)(m:XB X a t)(n:XB X b u):PS X (.If c a b pos) (Mq tc t u):=by
 intro f s Z H D I h;refine wpAny_If (Zq (l f s Z H _ I h) λd k ⟨i,g,j⟩=>?_);cases d with
 |true=>exact m f k Z i D g j
 |false=>exact n f k Z i D g j
def As:TS:=λ_ _ _=>False
theorem Ar:PS X st As:=λ_ _ _ _ _ _ h=>h.elim
end
abbrev TG:=V->St->Hp->(St->Hp->Prop)->Prop
abbrev UI:=List V->St->Hp->(St->Hp->Prop)->Prop
def PG(X:Cx)(a:jE)(t:TG):Prop :=
 ∀(b:yD) (s:yQ) (Z:St) (H:Hp) (v:V) (u:yT) (Q:St->Hp->Prop),ZP X b Z H s->ZG v u->t v Z H Q ->
  y7 (yV X.prog X.w) X.A (gZ a X.env u) (λ_ e=>∃d c,ZP X b d c e/\Q d c) X.xe s
def V3(X:Cx)(f:yE)(t:UI):Prop :=
 ∀(a:yD) (s:yQ) (Z:St) (H:Hp) (e:List V) (c:yB) (Q:St->Hp->Prop),ZP X a Z H s->ZO e c->t e Z H Q ->
  y7 (yV X.prog X.w) X.A (assignInOrder ((jT f X.env).map (·.2)) c) (λ_ g=>∃d b,ZP X a d b g/\Q d b) X.xe s
abbrev UH:=V->V->V->Hp->(Hp->Prop)->Prop
def V2(X:Cx)(t:UH):Prop :=
 ∀(a:yD) (s:yQ) (Z:St) (H:Hp) (o i v:V) (b d u:yT) (Q:Hp->Prop),ZP X a Z H s->ZG o b->ZG i d->ZG v u->t o i v H Q ->
  y7 (yV X.prog X.w) X.A (uN b d u) (λ_ e=>∃c,ZP X a Z c e/\Q c) X.xe s
section
variable {X:Cx}{pos:Pos}
def Ta(i:Nat):TG:=λv Z H Q=>Q (Z.set i (Z9 v)) H
theorem OP(b:X.N.Nodup)(hi:X.N[i]?=Z9 x)(e:R0 X.env.scope x)(d:X.fn x=Z7∨X.env.scope.names.lookup x=Z9 .local:=by first|exact .inl rfl|exact .inr rfl|assumption):PG X (.Name x pos) (Ta i):=by intro a s Z H v u Q I r h;exact wpAny_assign_Name (A5 I b hi e r (λf c=>⟨_,H,c,h⟩) d)
def Q1:UI:=λa Z H Q=>a=[]/\Q Z H
def GZ(t:TG)(u:UI):UI:=λc Z H Q=>∃v r,c=v::r/\t v Z H fun b a=>u r b a Q
theorem GY:V3 X [] Q1:=by intro a s Z H c b Q I r h;obtain⟨e,h⟩:=h;subst e;cases r;exact assignInOrder_nil ⟨Z,H,I,h⟩
theorem GX(b:PG X e t)(i:V3 X es u)
  (hs:(jT (e::es) X.env).map (·.2)=gZ e X.env::(jT es X.env).map (·.2):=by rfl):V3 X (e::es) (GZ t u):=by
 intro a s Z H o n Q I r h;obtain⟨v,m,c,h⟩:=h;subst c;cases r with
 |cons r g =>
  rw[hs];refine assignInOrder_cons (Zq (b a s Z H _ _ _ I r h) λ_ k ⟨d,j,l,f⟩=>?_);exact i a k d j _ _ Q l g f
def Q0(K:yS)(n:Nat)(t:UI):TG:=λv Z H Q=>∃a b,v=.ref a/\Zp K H a b/\b.length=n/\t b Z H Q
theorem GW{k:Nat}(l:X.calm=Z7)(h:V3 X es t)
  (w:(jT es X.env).length=n:=by rfl) (d:(jT es X.env).findIdx? (·.1)=Z8:=by rfl):PG X (.Tuple es k pos) (Q0 X.K n t):=by intro c s Z H v u Q I r f;obtain⟨a,p,i,x,m,f⟩:=f;subst i;cases r;obtain⟨y,g,ht,z⟩:=I.tuple x;refine assign_Tuple_tuple (I.ok.hd l) ht (by simp[w,<- m,g.length]) d λA j=>?_;have q:=I.kept (t':=s.toks) λb o e=>j b o (qB7 (qB3 e)) e;exact h c _ Z H p _ Q q (by simpa using g) f
def Mp(b a:TE)(t:UH):TG:=λv Z H Q=>b Z H λo c=>a Z c λi d=>t o i v d λe=>Q Z e
theorem Aq(g:PE X o e)(hi:PE X i d)(hs:V2 X t)
  (q:∀v,gZ (.Subscript o i pos) X.env v=(do
   let b <- fB [v] (v7 o X.env)
   let c <- fB [v,b] (v7 i X.env)
   dS pos
   fB [v,b,c] (uN b c v)
   release [v,b,c] []):=by intro _;rfl):PG X (.Subscript o i pos) (Mp e d t):=by intro a s Z H v u Q I r h;rw[q];refine yO (jM (Zq (g a s Z H _ I h) λb n ⟨x,l,C,D,j⟩=>?_));refine yO (jM (Zq (hi a n Z l _ C j) λc p ⟨y,A,m,f,w⟩=>?_));refine yO (dF (yO (jM (Zq (hs a p Z A x y v b c u _ m D f r w) λ_ E ⟨z,B,k⟩=>?_))));exact wpAny_release ⟨Z,z,B,k⟩
def Vs(b:TE)(g:TG):TS:=λD Z H=>b Z H λx a=>g x Z a D.nx
theorem Ap(he:PE X e c)(k:PG X b g)(hs:swapsWithSole [b] e pos.line X.env=pure Z5:=by rfl)(l:wQ [b] e X.env=pure Z8:=by rfl)
  (d:(jT [b] X.env).map (·.2)=[gZ b X.env]:=by rfl):PS X (.Assign [b] e pos) (Vs c g):=by intro a s Z H D I h;refine wpAny_Assign_stores (Zq (he a s Z H _ I h) λv j ⟨x,i,m,n,f⟩=>?_) hs l;rw[d];exact Zq (k a j Z i x v _ m n f) λ_ o q=>q
end
section
variable {X:Cx}{pos:Pos}
def Ao(c:TT)(g:TS):TS:=λD Z H=>∃W:Nat->St->Hp->Prop,(∃m,W m Z H)/\∀m Z H,W m Z H ->
 c Z H λb e=>if b=Z7 then ∃N:St->Hp->Prop,(∀f a,N f a->∃d,d<m/\W d f a)/\g { D with nx:=N,ct:=N,bk:=D.nx } Z e else D.nx Z e
theorem An(x:m8 (yV X.prog X.w) X.A X.env X.xe)(E:PT X c tc)(J:XB X d A):PS X (.While c d [] pos) (Ao tc A):=by
 intro a s Z H D I h;obtain⟨W,⟨C,M⟩,g⟩:=h;refine wpAny_While (codeAny_whileLoop (λn O=>∃B t,ZP X a B t O/\W n B t) ?_ C ⟨Z,H,I,M⟩);rintro n F ⟨j,u,L,K⟩;refine wA x (Zq (E a F j u _ L (g n j u K)) λb G ⟨y,w,l⟩=>?_);cases b with
 |true =>
  obtain⟨N,z,l⟩:=l;refine wA x (Zq (J a G j y _ w l) λf P k=>?_);cases f with
  |next =>
   obtain⟨e,i,r,m⟩:=k;obtain⟨p,q,o⟩:=z e i m;exact⟨p,q,e,i,r,o⟩
  |cont =>
   obtain⟨e,i,r,m⟩:=k;obtain⟨p,q,o⟩:=z e i m;exact⟨p,q,e,i,r,o⟩
  |brk=>exact k
  |ret v=>exact k
 |false =>
  exact fW ⟨j,y,w,l⟩
end
structure It where
 go:Nat->Hp->Prop
 yld:Nat->Hp->V->Hp->Prop
 stop:Nat->Hp->Prop
def Yj(X:Cx)(a:yD)(H:Hp)(b:yR):Prop :=
 H b=Z8/\b≠X.env.locals/\b∉X.fs/\(b∈X.ex∨X.s₀.heap.objs.size<=b)/\(∀x c,X.env.cells.lookup x=Z9 c->c≠b)/\∀p∈X.pn++a,p.1≠b
theorem ZP.fpOk{Z:St}{b:yR}(I:ZP X a Z H s)(d:s.heap.objs.size<=b)(h:f b=Z8):Yj X a f b:=by
 refine⟨h,qL1 (qC1 I.lt d),I.nofs d,.inr (qD4 I.sz d),λx c e z=>?_,λp g z=>?_⟩
 .obtain⟨v,q⟩:=I.cell x c e;exact absurd (qC1 q.lt (by rw[z];exact d)) (qG3 _)
 .exact absurd (qC1 (qB3 (I.pin p g).1) (by rw[z];exact d)) (qG3 _)
structure W5(P:yZ)(w:jG)(K:yS)(tg:jE)(JJ:It)(fp:yC)(it:yR)(tn:Nat->jH->Prop):Prop where
 mem:it∈fp
 obj:∀i h,tn i h->∀b∈fp,∃o,h.get? b=Z9 o/\∀v,o.data≠.cell v
 keep:∀i h h',tn i h->(∀b∈fp,∀o,h.get? b=Z9 o->h'.get? b=Z9 o)->tn i h'
 item:∀(X:Cx),X.prog=P->X.w=w->X.K=K->X.calm=Z7->∀(i:Nat) (pins:yD) (s:yQ) (Z:St) (H:Hp) (E:yL),ZP X pins Z H s->(∀b∈fp,Yj X pins H b)->tn i s.heap->JJ.go i H ->
  y7 (yV P w) X.A (mS (.ref it)) (λr s1=>∃u,r=Z9 u /\
   y7 (yV P w) X.A (mE tg (.ref it) u) (λ_ s2=>∃x H',ZP X pins Z H' s2/\ZG x u/\JJ.yld i H x H'/\tn (i+1) s2.heap/\∀b∈fp,H' b=Z8) E s1) E s
 done:∀(X:Cx),X.prog=P->X.w=w->X.K=K->X.calm=Z7->∀(i:Nat) (pins:yD) (s:yQ) (Z:St) (H:Hp) (E:yL),ZP X pins Z H s->(∀b∈fp,Yj X pins H b)->tn i s.heap->JJ.stop i H ->
  y7 (yV P w) X.A (mS (.ref it)) (λr s1=>r=Z8/\ZP X pins Z H s1) E s
 self:∀(A:jF) (i:Nat) (s:yQ) (Q:yL) (E:yL),tn i s.heap->Q (.ref it) s->y7 (yV P w) A (mT (.ref it)) Q E s
abbrev TI:=St->Hp->(It->Hp->Prop)->Prop
inductive OO(X:Cx)(pins:yD)(Z:St)(tg:jE)(R:It->Hp->Prop)(itv:yT)(s2:yQ):Prop
 |mk (it:yR) (fp:yC) (tn:Nat->jH->Prop) (JJ:It) (H':Hp) (e:itv=.ref it) (I:ZP X pins Z H' s2) (T:W5 X.prog X.w X.K tg JJ fp it tn) (t0:tn 0 s2.heap) (f:∀b∈fp,Yj X pins H' b) (r:R JJ H')
def PI(X:Cx)(c iter:jE)(b:TI):Prop :=
 ∀(a:yD) (s:yQ) (Z:St) (H:Hp) (R:It->Hp->Prop),ZP X a Z H s->b Z H R ->
  y7 (yV X.prog X.w) X.A (v7 iter X.env) (λv d=>y7 (yV X.prog X.w) X.A (mT v) (OO X a Z c R) X.xe d) X.xe s
theorem ON{E:yL}{d:yJ}(e:s.heap.get? b=Z9 o)(g:o.cls=.type n)(i:o.data=.fields d)
    (f:["enumerate","zip","dict_itemiterator","dict_reverseitemiterator","odict_iterator","itertools.zip_longest","itertools.pairwise"].contains n=Z5) (a:Q () s):y7 M A (mE c (.ref b) u) Q E s:=by
  cases c<;>first
    |exact yP a
    | (cases u<;>first
        |exact yP a
        | (refine yO (lS e ?_)
           rw[g,i];show y7 M A (if(["enumerate","zip","dict_itemiterator","dict_reverseitemiterator","odict_iterator","itertools.zip_longest","itertools.pairwise"].contains n&&d[0]? == Z9 (gD _))=Z7 then _ else _) Q E s;rw[if_neg (by intro h;rw[f,qR8]at h;cases h)];exact yP a))
def Mo(K:yS)(a:yR):It :=
 ⟨λi H=>∃b x,YK K H a b/\b[i]?=Z9 x,λi H x c=>c=H/\∀b,YK K H a b->b[i]?=Z9 x,λi H=>∃b,YK K H a b/\b.length<=i⟩
def Mn(K:yS)(a:yR):It :=
 ⟨λi H=>∃b x,Zp K H a b/\b[i]?=Z9 x,λi H x c=>c=H/\∀b,Zp K H a b->b[i]?=Z9 x,λi H=>∃b,Zp K H a b/\b.length<=i⟩
def QZ(lo:Int)(n:Nat):It:=⟨λi _=>i<n,λi H x a=>a=H/\x=.int (lo+i),λi _=>n<=i⟩
theorem Am{P:yZ}{w:jG}{K:yS}{T:jE}(a j:yR):W5 P w K T (Mo K a) [j] j (λi h=>h.IsListIter j a i) where
 mem:=by simp
 obj:=λi h f b g=>by
  have e:=by simpa using g
  subst e;obtain⟨o,e,c,d⟩:=f;exact⟨o,e,λv z=>by rw[d]at z;cases z⟩
 keep:=λi h O f k=>f.at λo e=>k j (by simp) o e
 item:=by intro X C F y N i l s Z H E I n f D;subst C F y;obtain⟨W,x,q,t⟩:=D;obtain⟨M,B,p,R⟩:=I.list q;obtain⟨u,S,U⟩:=B.get t;obtain⟨G,L,f2,r,A,J⟩:=n j (by simp);refine lT f p.isList (by simpa using S) λO m sb=>?_;have Y:=I.turned (t':=s.toks) (λb o g e=>(sb.2 b g).trans e) G L r A J;obtain⟨o,e,c,d⟩:=id m;exact⟨u,rfl,ON e c d (by decide) ⟨x,H,Y,U,⟨rfl,λys Q=>by rw[I.list_inj Q q];exact t⟩,m,λb g=>(n b g).1⟩⟩
 done:=by intro X C F y N i l s Z H E I n f D;subst C F y;obtain⟨W,q,t⟩:=D;obtain⟨M,B,p,R⟩:=I.list q;obtain⟨G,L,f2,r,A,J⟩:=n j (by simp);have hl:=B.length;exact mJ (I.ok.hd N) f p.isList (by simp;lia) λO V=>⟨rfl,I.turned (t':=s.toks) (λb o g e=>V b o g e) G L r A J⟩
 self:=λ_ _ _ _ _ f h=>wpAny_pyIter_listiter f h
theorem Al{P:yZ}{w:jG}{K:yS}{T:jE}(a j:yR):W5 P w K T (Mn K a) [j] j (λi h=>h.IsTupleIter j a i) where
 mem:=by simp
 obj:=λi h f b g=>by
  have e:=by simpa using g
  subst e;obtain⟨o,e,c,d⟩:=f;exact⟨o,e,λv z=>by rw[d]at z;cases z⟩
 keep:=λi h O f k=>f.at λo e=>k j (by simp) o e
 item:=by intro X C F y N i l s Z H E I n f D;subst C F y;obtain⟨W,x,q,t⟩:=D;obtain⟨M,B,p,R⟩:=I.tuple q;obtain⟨u,S,U⟩:=B.get t;obtain⟨G,L,f2,r,A,J⟩:=n j (by simp);refine wpAny_pyNext_tuple_item f (p) (by simpa using S) λO m sb=>?_;have Y:=I.turned (t':=s.toks) (λb o g e=>(sb.2 b g).trans e) G L r A J;obtain⟨o,e,c,d⟩:=id m;exact⟨u,rfl,ON e c d (by decide) ⟨x,H,Y,U,⟨rfl,λys Q=>by rw[I.tuple_inj Q q];exact t⟩,m,λb g=>(n b g).1⟩⟩
 done:=by intro X C F y N i l s Z H E I n f D;subst C F y;obtain⟨W,q,t⟩:=D;obtain⟨M,B,p,R⟩:=I.tuple q;obtain⟨G,L,f2,r,A,J⟩:=n j (by simp);have hl:=B.length;exact wpAny_pyNext_tuple_end (I.ok.hd N) f (p) (by simp;lia) λO V=>⟨rfl,I.turned (t':=s.toks) (λb o g e=>V b o g e) G L r A J⟩
 self:=λ_ _ _ _ _ f h=>wpAny_pyIter_tupleiter f h
theorem Ak{P:yZ}{w:jG}{K:PySem.W.Frag}{J:jE}(f:yR)(lo:Int)(n:Nat):W5 P w K J (QZ lo n) [f] f (λi h=>IsRangeIter h f (lo+(i:Nat)*1) ((n:Int) - (i:Nat)) 1) where
 mem:=by simp
 obj:=λi h a b d=>by
  have e:=by simpa using d
  subst e;exact⟨_,a,λv z=>by
   have F:Data.fields _=Data.cell v:=z;cases F⟩
 keep:=λi h C a k=>k f (by simp) _ a
 item:=by intro X r x m p i c s Z H E I j a u;subst r x m;obtain⟨y,B,O,l,q,A⟩:=j f (by simp);have W:=Walks.range (prog:=X.prog) (w:=X.w) (I.ok.hd p) f lo 1 n;refine W.item i s _ _ u a λv C G D g L=>?_;obtain⟨t,rfl⟩:=D;have N:ZP X c Z H { s with heap:=C,toks:=G }:=I.turned (λb o d e=>L b o (by simpa using d) e) y B l q A;refine⟨_,rfl,ON g rfl rfl (by decide) ⟨.int (lo+i),H,N,⟨t,?_⟩,⟨rfl,rfl⟩,g,λb d=>(j b d).1⟩⟩;rw[Int.mul_one]
 done:=by intro X r x m p i c s Z H E I j a u;subst r x m;obtain⟨y,B,O,l,q,A⟩:=j f (by simp);exact wpAny_pyNext_range_end (I.ok.hd p) a (by have:n<=i:=u;lia) λC M=>⟨rfl,I.turned (t':=s.toks) (λb o d e=>M b o d e) y B l q A⟩
 self:=λ_ _ _ _ _ a h=>wpAny_pyIter_rangeiter a h
section
variable {X:Cx}{tg:jE}
theorem GV{Z:St}{E:yL}{lo hi:Int}(I:ZP X a Z H s)(d:-(2 ^ 62)<=lo)(h:lo<2 ^ 62)(j:-(2 ^ 62)<=hi)(g:hi<2 ^ 62)
  (q:R (QZ lo (hi - lo).toNat) H):y7 (yV X.prog X.w) X.A (mT (.ref s.heap.objs.size)) (OO X a Z tg R) E { s with heap:=s.heap.push { cls:=.type "range",data:=.fields #[.int lo t,.int hi u,.int 1 v] },toks:=tk }:=by
 refine wpAny_pyIter_range (IsRange.new ..) (small_one d h j g) ?_;have c:ZP X a Z H { s with heap:=s.heap.push { cls:=.type "range",data:=.fields #[.int lo t,.int hi u,.int 1 v] },toks:=tk }:=I.kept λb o e=>qA3 _ e;refine⟨(s.heap.push { cls:=.type "range",data:=.fields #[.int lo t,.int hi u,.int 1 v] }).objs.size,[(s.heap.push { cls:=.type "range",data:=.fields #[.int lo t,.int hi u,.int 1 v] }).objs.size],_,_,H,rfl,
  c.kept (t':=tk) λb o e=>qA3 _ e,Ak _ lo (hi - lo).toNat,?_,λb i=>?_,q⟩
 .have f:lo+((0:Nat):Int)*1=lo:=by simp
  have k:(((hi - lo).toNat:Nat):Int) - ((0:Nat):Int)=Builtin.Range.rangeSize lo hi 1:=by rw[rangeSize_one];split<;>lia
  rw[f,k];exact qA9 _ rfl
 .have e:b=(s.heap.push { cls:=.type "range",data:=.fields #[.int lo t,.int hi u,.int 1 v] }).objs.size:=by simpa using i
  subst e;exact c.fpOk (qA7 _) (c.hok.fresh (qA7 _))
def GU(a:TA):TI:=fun Z H R=>a Z H λc b=>∃j:Int,c=[.int j]/\-(2 ^ 62)<=j/\j<2 ^ 62/\R (QZ 0 j.toNat) b
def GT(a:TA):TI:=fun Z H R=>a Z H λc b=>∃i j:Int,c=[.int i,.int j]/\(-(2 ^ 62)<=i/\i<2 ^ 62/\-(2 ^ 62)<=j/\j<2 ^ 62)/\R (QZ i (j - i).toNat) b
theorem Aj(g:Gl X "range")(hm:X.mg "range"=Z8)(k:PA X [a] d)(hs:jL [a] X.env=[(Z5,v7 a X.env)]:=by rfl):PI X tg (.Call (.Name "range" p) [a] [] pos) (GU d):=by
 intro b s Z H R I h;refine Call_ (T3 I g hm boot_range (vG (Zq (k pos b s Z H _ I h) λo u ⟨v,n,l,m,c⟩=>?_) hs rfl));obtain⟨j,e,c,i,q⟩:=c;subst e;cases m with
 |cons r f =>
  cases f;obtain⟨t,rfl⟩:=r;exact call_range_1 (GV l (by lia) (by lia) c i (by simpa using q))
theorem Ai{p pos:Pos}(o:Gl X "range")(hm:X.mg "range"=Z8)(v:PA X [a,b] k)(hs:jL [a,b] X.env=[(Z5,v7 a X.env),(Z5,v7 b X.env)]:=by rfl)(d:jL [b] X.env=[(Z5,v7 b X.env)]:=by rfl):
  PI X tg (.Call (.Name "range" p) [a,b] [] pos) (GT k):=by
 intro c s Z H R I h;refine Call_ (T3 I o hm boot_range (vG (Zq (v pos c s Z H _ I h) λA B ⟨C,z,w,x,f⟩=>?_) (by rw[hs,d]) (by rw[d];rfl)));obtain⟨i,j,e,⟨f,u,m,n⟩,q⟩:=f;subst e;cases x with
 |cons r g =>
  cases g with
  |cons l g =>
   cases g;obtain⟨t,rfl⟩:=r;obtain⟨y,rfl⟩:=l;exact call_range_2 (GV w f u m n q)
def Mm(h:TI)(g:TG)(e:TS):TS:=λD Z H=>h Z H λb j=>∃W:Nat->Nat->St->Hp->Prop,(∃m,W 0 m Z j)/\∀i m Z H,W i m Z H ->
 (b.stop i H/\D.nx Z H)∨(b.go i H/\∃N:St->Hp->Prop,(∀d a,N d a->∃c,c<m/\W (i+1) c d a)/\∀x a,b.yld i H x a->g x Z a fun f k=>e { D with nx:=N,ct:=N,bk:=D.nx } f k)
def QY(a:yC)(h:jH):yD:=a.filterMap λb=>(h.get? b).map λo=>(b,o)
theorem QX(c:b∈a)(e:h.get? b=Z9 o):(b,o)∈QY a h:=qL9.mpr ⟨b,c,by rw[e];rfl⟩
theorem Ah(c:p∈QY a h):p.1∈a/\h.get? p.1=Z9 p.2:=by
 obtain⟨b,f,e⟩:=qL9.mp c;cases q:h.get? b with
 |none=>rw[q]at e;cases e
 |some o =>
  rw[q]at e;have d:=Option.some.inj e;subst d;exact⟨f,q⟩
theorem ZP.pinned{Z:St}(I:ZP X a Z H s)(i:∀b∈c,Yj X a H b)(h:∀b∈c,∃o,s.heap.get? b=Z9 o/\∀v,o.data≠.cell v):ZP X (a++QY c s.heap) Z H s :=
 I.pins_of λp j=>(qC0.mp j).elim (λz=>I.pin p (qD0 _ z)) λz=>by obtain⟨g,e⟩:=Ah z;obtain⟨k,m,l,_⟩:=i p.1 g;obtain⟨o,f,d⟩:=h p.1 g;rw[e]at f;cases f;exact⟨e,k,m,l,d⟩
theorem ZP.unpinned{Z:St}(I:ZP X (a++pl) Z H s):ZP X a Z H s:=I.pins_of λp b=>I.pin p (qD0 _ (qF2 _ b))
theorem Ag(J:m8 (yV X.prog X.w) X.A X.env X.xe)(Y:X.calm=Z7)(hi:PI X tg iter R)(hg:PG X tg g)(k:XB X t S)
  (hs:∀x,wM iter X.env x=pure x:=by intro _;rfl):PS X (.For tg iter t [] pos) (Mm R g S):=by
 intro a s Z H D I h;refine wpAny_For (Zq (hi a s Z H _ I h) λv s1 h1=>Zq h1 λitv s2 h2=>?_) hs;obtain⟨it,A,tn,JJ,H2,e,I2,T,P,U,W,⟨m0,w0⟩,E⟩:=h2;subst e;have l:∀{H':Hp},(∀b∈A,H' b=Z8)->∀b∈A,Yj X a H' b:=λhn b k=>⟨hn b k,(U b k).2⟩
 refine codeAny_forLoop_any (λn V=>∃i G H',ZP X a G H' V/\tn i V.heap/\(∀b∈A,H' b=Z8)/\W i n G H') ?_ m0 ⟨0,Z,H2,I2,P,λb k=>(U b k).1,w0⟩;rintro n s3 ⟨i,y,K,I3,B,z,w3⟩;rcases E i n y K w3 with⟨C,qn⟩| ⟨go,N,hN,step⟩
 .refine wA J (Zq (T.done X rfl rfl rfl Y i a s3 y K X.xe I3 (l z) B C) λr s4 ⟨O,I4⟩=>?_);subst O;exact fW ⟨y,K,I4,qn⟩
 .refine wA J (Zq (T.item X rfl rfl rfl Y i a s3 y K X.xe I3 (l z) B go) λr s4 ⟨u,O,h4⟩=>?_);subst O;refine wA J (Zq h4 λ_ s5 ⟨x,H5,I5,r5,y5,w,M⟩=>?_);have Q:=I5.pinned (l M) (T.obj _ _ w);refine wA J (Zq (hg _ s5 y H5 x u _ Q r5 (step x H5 y5)) λ_ s6 ⟨Z6,H6,I6,q6⟩=>?_);refine wA J (Zq (k _ s6 Z6 H6 _ I6 q6) λf L q=>?_);have again:∀{c:St}{p:Hp},ZP X (a++QY A s5.heap) c p L->N c p->∃m,m<n/\∃i G H',ZP X a G H' L/\tn i L.heap/\(∀b∈A,H' b=Z8)/\W i m G H':=λ{c p} j F=>by obtain⟨m',hm,w7⟩:=hN c p F;refine⟨m',hm,i+1,c,p,j.unpinned,T.keep _ _ _ w λb k o e=>(j.pin (b,o) (qD0 _ (qD0 _ (QX k e)))).1,λb k=>?_,w7⟩;obtain⟨o,e,d⟩:=T.obj _ _ w b k;exact(j.pin (b,o) (qD0 _ (qD0 _ (QX k e)))).2.1
  cases f with
  |next=>obtain⟨c,p,j,F⟩:=q;exact again j F
  |cont=>obtain⟨c,p,j,F⟩:=q;exact again j F
  |brk=>obtain⟨c,p,j,q⟩:=q;exact⟨c,p,j.unpinned,q⟩
  |ret v=>obtain⟨x7,c,p,j,r7,q⟩:=q;exact⟨x7,c,p,j.unpinned,r7,q⟩
end
abbrev R2:=V->V->Hp->VK->Prop
def YY(X:Cx)(f:yT->yT->Sem yT)(r:R2):Prop :=
 ∀(a:yD) (s:yQ) (Z:St) (H:Hp) (x y:V) (v u:yT) (Q:VK),ZP X a Z H s->ZG x v->ZG y u->r x y H Q ->
  y7 (yV X.prog X.w) X.A (f v u) (EP X a Z Q) X.xe s
def QW(X:Cx)(f:yT->Sem yT)(r:V->Hp->VK->Prop):Prop :=
 ∀(a:yD) (s:yQ) (Z:St) (H:Hp) (x:V) (v:yT) (Q:VK),ZP X a Z H s->ZG x v->r x H Q ->
  y7 (yV X.prog X.w) X.A (f v) (EP X a Z Q) X.xe s
def YB(X:Cx)(f:yT)(r:List V->Hp->VK->Prop):Prop :=
 ∀(a:yD) (s:yQ) (Z:St) (H:Hp) (c:List V) (b:yB) (Q:VK),ZP X a Z H s->ZO c b->r c H Q ->
  y7 (yV X.prog X.w) X.A (call f b) (EP X a Z Q) X.xe s
def Ml(X:Cx)(r:V->Hp->(Bool->Hp->Prop)->Prop):Prop :=
 ∀(a:yD) (s:yQ) (Z:St) (H:Hp) (x:V) (v:yT) (Q:Bool->Hp->Prop),ZP X a Z H s->ZG x v->r x H Q ->
  y7 (yV X.prog X.w) X.A (truthy v) (TP X a Z Q) X.xe s
def QV(r:R2)(b a:TE):TE:=fun Z H Q=>b Z H λx c=>a Z c λy d=>r x y d Q
def Af(r:V->Hp->VK->Prop)(a:TE):TE:=fun Z H Q=>a Z H λx b=>r x b Q
def rI(C:Int->Int->Prop)(g:Int->Int->V):R2:=λx y H Q=>∃i j,x=.int i/\y=.int j/\C i j/\Q (g i j) H
def V1(g:Int->Int->V):R2:=λx y H Q=>∃i j,x=.int i/\y=.int j/\Q (g i j) H
def rU(g:Int->V):V->Hp->VK->Prop:=λx H Q=>∃i,x=.int i/\Q (g i) H
section
variable {X:Cx}{a b c:jE}{ta tb tc:TE}{pos:Pos}
theorem SZ(r:PE X a ta)(t:PE X b tb){Z:St}{R:V->V->Hp->Prop}(I:ZP X d Z H s)
  (h:ta Z H λx k=>tb Z k λy e=>R x y e) {Q:yL}{f:yT->yT->Sem yT}
  (m:∀v u j x y e,ZP X d Z e j->ZG x v->ZG y u->R x y e->y7 (yV X.prog X.w) X.A (f v u) Q X.xe j) :
  y7 (yV X.prog X.w) X.A (v7 a X.env) (λv i=>y7 (yV X.prog X.w) X.A (v7 b X.env) (λu g=>y7 (yV X.prog X.w) X.A (f v u) Q X.xe g) X.xe i) X.xe s:=by refine Zq (r d s Z H _ I h) λv p ⟨x,k,w,z,n⟩=>?_;refine Zq (t d p Z k _ w n) λu j ⟨y,e,o,l,q⟩=>?_;exact m v u j x y e o z l q
theorem Ae(e:YY X (jP op) r)(j:PE X a ta)(k:PE X b tb):PE X (.BinOp a op b pos) (QV r ta tb):=by intro d s Z H Q I h;exact wpAny_BinOp (SZ j k I h λv u i x y l g f m q=>e d i Z l x y v u Q g f m q)
theorem Ad(f:QW X (unaryOp op) r)(g:PE X a ta):PE X (.UnaryOp op a pos) (Af r ta):=by intro d s Z H Q I h;exact UnaryOp_ (Zq (g d s Z H _ I h) λv l ⟨x,i,e,j,k⟩=>f d l Z i x v Q e j k)
theorem RZ{g:Int->Int->Int}
  (rule:∀(i j:Int) (t u:Tok) (s:yQ) (Q:yL) (E:yL),C i j->Q (.int (g i j) s.toks) { s with toks:=s.toks+1 }->y7 (yV X.prog X.w) X.A (f (.int i t) (.int j u)) Q E s) :
  YY X f (rI C λi j=>.int (g i j)):=by intro d s Z H x y v u Q I k m h;obtain⟨i,j,rfl,rfl,l,q⟩:=h;obtain⟨t,rfl⟩:=k;obtain⟨e,rfl⟩:=m;exact rule i j t e s _ _ l ⟨.int (g i j),H,I.tok _,⟨_,rfl⟩,q⟩
theorem Vr{g:Int->Int->Int}
  (rule:∀(i j:Int) (t u:Tok) (s:yQ) (Q:yL) (E:yL),Q (.int (g i j) s.toks) { s with toks:=s.toks+1 }->y7 (yV X.prog X.w) X.A (f (.int i t) (.int j u)) Q E s) :
  YY X f (V1 λi j=>.int (g i j)):=by intro d s Z H x y v u Q I k l h;obtain⟨i,j,rfl,rfl,q⟩:=h;obtain⟨t,rfl⟩:=k;obtain⟨e,rfl⟩:=l;exact rule i j t e s _ _ ⟨.int (g i j),H,I.tok _,⟨_,rfl⟩,q⟩
theorem UG{g:Int->Int->Bool}
  (rule:∀(i j:Int) (t u:Tok) (s:yQ) (Q:yL) (E:yL),Q (.bool (g i j)) s->y7 (yV X.prog X.w) X.A (f (.int i t) (.int j u)) Q E s) :
  YY X f (V1 λi j=>.bl (g i j)):=by intro d s Z H x y v u Q I k l h;obtain⟨i,j,rfl,rfl,q⟩:=h;obtain⟨t,rfl⟩:=k;obtain⟨e,rfl⟩:=l;exact rule i j t e s _ _ ⟨.bl (g i j),H,I,rfl,q⟩
def Mk(i j:Int):Prop:=0<j/\j<1073741824
def QU(i j:Int):Prop:=0<=j/\j<=1000000/\i.natAbs<2 ^ 64
def UF(i j:Int):Prop:=(-(2 ^ 64)<i/\i<2 ^ 64)∨(-(2 ^ 64)<j/\j<2 ^ 64)
theorem UF.ok(h:UF i j):IntMulOk i j:=by
 rcases h with⟨d,e⟩| ⟨d,e⟩
 .exact .of_left (intBits_le_64 d e)
 .exact .of_right (intBits_le_64 d e)
theorem Ac(k:Nat):(0:Int)<=2 ^ k:=by grind
theorem Ab:YY X (jP .Add) (V1 λi j=>.int (i+j)):=Vr λ_ _ _ _ _ _ _ q=>add_int q
theorem Aa:YY X (jP .Sub) (V1 λi j=>.int (i - j)):=Vr λ_ _ _ _ _ _ _ q=>sub_int q
theorem z0:YY X (jP .Mult) (rI UF λi j=>.int (i*j)):=RZ λ_ _ _ _ _ _ _ d q=>mul_int q d.ok
theorem zZ:YY X (jP .FloorDiv) (rI Mk λi j=>.int (i / j)):=RZ λi j _ _ _ _ _ d q=>by have e:=d.1;have f:=d.2;exact floordiv_int (by omega) (by rw[qO6 i (by omega)];exact q) (.inl (PyProof.noPylong_small (by omega)))
theorem zY:YY X (jP .Mod) (rI (λ_ j=>0<j) λi j=>.int (i % j)):=RZ λi j _ _ _ _ _ d q=>by exact mod_int' (by lia) (by rw[Int.fmod_eq_emod_of_nonneg i (by lia)];exact q)
theorem zX:YY X (jP .Pow) (rI QU λi j=>.int (i ^ j.toNat)):=RZ λ_ _ _ _ _ _ _ d q=>pow_int_small d.1 d.2.1 d.2.2 q
theorem zW:YY X (jP .LShift) (rI QU λi j=>.int (i*2 ^ j.toNat)):=RZ λ_ _ _ _ _ _ _ d q=>lshift_int_small d.1 d.2.1 d.2.2 q
theorem zV:YY X (jP .RShift) (rI (λ_ j=>0<=j) λi j=>.int (i / 2 ^ j.toNat)):=RZ λi j _ _ _ _ _ d q =>
 rshift_int d (by rw[qO6 i (Ac _)];exact q)
theorem zU:YY X (jP .BitAnd) (V1 λi j=>.int (j6 i j)):=Vr λ_ _ _ _ _ _ _ q=>and_int q
theorem zT:YY X (jP .BitOr) (V1 λi j=>.int (vV i j)):=Vr λ_ _ _ _ _ _ _ q=>or_int q
theorem zS:YY X (jP .BitXor) (V1 λi j=>.int (fD i j)):=Vr λ_ _ _ _ _ _ _ q=>xor_int q
theorem zR{g:Int->Int}
  (rule:∀(i:Int) (t:Tok) (s:yQ) (Q:yL) (E:yL),Q (.int (g i) s.toks) { s with toks:=s.toks+1 }->y7 (yV X.prog X.w) X.A (f (.int i t)) Q E s) :
  QW X f (rU λi=>.int (g i)):=by intro d s Z H x v Q I e h;obtain⟨i,rfl,q⟩:=h;obtain⟨t,rfl⟩:=e;exact rule i t s _ _ ⟨.int (g i),H,I.tok _,⟨_,rfl⟩,q⟩
theorem zQ:QW X (unaryOp .USub) (rU λi=>.int (-i)):=zR λ_ _ _ _ _ q=>neg_int q
end
def QT:V->V->Bool
 |.non,.non=>Z7|.non,.int _=>Z7|.int _,.non=>Z7|.non,.bl _=>Z7|.bl _,.non=>Z7|.non,.str _=>Z7|.str _,.non=>Z7
 |.int _,.int _=>Z7|.bl _,.bl _=>Z7|.str _,.str _=>Z7|.byt _,.byt _=>Z7
 |.int _,.str _=>Z7|.str _,.int _=>Z7|.bl _,.str _=>Z7|.str _,.bl _=>Z7
 |_,_=>Z5
def zP:R2:=λx y H Q=>QT x y=Z7/\Q (.bl (decide (x=y))) H
def zO:R2:=λx y H Q=>QT x y=Z7/\Q (.bl (!decide (x=y))) H
theorem GS:decide (V.int i=V.int j)=(i == j):=by grind
theorem GR:decide (V.bl i=V.bl j)=(i == j):=by grind
theorem GQ:decide (V.str i=V.str j)=(i == j):=by grind
theorem GP:decide (V.byt i=V.byt j)=(i.toList == j.toList):=by rw[qU8];cases i;cases j;simp
section
variable {X:Cx}{a b c:jE}{ta tb tc:TE}{pos:Pos}
theorem Yl{Z:St}(I:ZP X d Z H s)(q:Q (.bl k) H)(e:k=f):EP X d Z Q (.bool f) s:=by subst e;exact⟨.bl k,H,I,rfl,q⟩
theorem zN:YY X (jD .Eq) zP:=by
 intro k s Z H x y v u Q I g d h;obtain⟨f,q⟩:=h;cases x with
 |non =>
  cases g;cases y with
  |non=>cases d;exact PySem.EqNone.eq_none_none (Yl I q (by simp))
  |bl j=>cases d;exact PySem.EqNone.eq_none_bool (Yl I q (by simp))
  |int j=>obtain⟨e,rfl⟩:=d;exact PySem.EqNone.eq_none_int (Yl I q (by simp))
  |str j=>obtain⟨e,rfl⟩:=d;exact PySem.EqNone.eq_none_str (Yl I q (by simp))
  |_=>exact absurd (show Z5=Z7 from f) qB4
 |bl i =>
  cases g;cases y with
  |non=>cases d;exact PySem.EqNone.eq_bool_none (Yl I q (by simp))
  |bl j=>cases d;exact eq_bool (Yl I q GR)
  |str j=>obtain⟨e,rfl⟩:=d;exact PySem.EqMixed.eq_bool_str (Yl I q (by simp))
  |_=>exact absurd (show Z5=Z7 from f) qB4
 |int i =>
  obtain⟨t,rfl⟩:=g;cases y with
  |non=>cases d;exact PySem.EqNone.eq_int_none (Yl I q (by simp))
  |int j=>obtain⟨e,rfl⟩:=d;exact eq_int (Yl I q GS)
  |str j=>obtain⟨e,rfl⟩:=d;exact PySem.EqMixed.eq_int_str (Yl I q (by simp))
  |_=>exact absurd (show Z5=Z7 from f) qB4
 |str i =>
  obtain⟨t,rfl⟩:=g;cases y with
  |non=>cases d;exact PySem.EqNone.eq_str_none (Yl I q (by simp))
  |bl j=>cases d;exact PySem.EqMixed.eq_str_bool (Yl I q (by simp))
  |int j=>obtain⟨e,rfl⟩:=d;exact PySem.EqMixed.eq_str_int (Yl I q (by simp))
  |str j=>obtain⟨e,rfl⟩:=d;exact eq_str (Yl I q GQ)
  |_=>exact absurd (show Z5=Z7 from f) qB4
 |byt i =>
  obtain⟨t,rfl⟩:=g;cases y with
  |byt j=>obtain⟨e,rfl⟩:=d;exact W.eq_bytes (Yl I q GP)
  |_=>exact absurd (show Z5=Z7 from f) qB4
 |_=>cases y<;>exact absurd (show Z5=Z7 from f) qB4
theorem zM:YY X (jD .NotEq) zO:=by
 intro k s Z H x y v u Q I g d h;obtain⟨f,q⟩:=h;cases x with
 |non =>
  cases g;cases y with
  |non=>cases d;exact PySem.EqNone.ne_none_none (Yl I q (by simp))
  |bl j=>cases d;exact PySem.EqNone.ne_none_bool (Yl I q (by simp))
  |int j=>obtain⟨e,rfl⟩:=d;exact PySem.EqNone.ne_none_int (Yl I q (by simp))
  |str j=>obtain⟨e,rfl⟩:=d;exact PySem.EqNone.ne_none_str (Yl I q (by simp))
  |_=>exact absurd (show Z5=Z7 from f) qB4
 |bl i =>
  cases g;cases y with
  |non=>cases d;exact PySem.EqNone.ne_bool_none (Yl I q (by simp))
  |bl j=>cases d;exact ne_bool (Yl I q (congrArg not GR))
  |str j=>obtain⟨e,rfl⟩:=d;exact PySem.EqMixed.ne_bool_str (Yl I q (by simp))
  |_=>exact absurd (show Z5=Z7 from f) qB4
 |int i =>
  obtain⟨t,rfl⟩:=g;cases y with
  |non=>cases d;exact PySem.EqNone.ne_int_none (Yl I q (by simp))
  |int j=>obtain⟨e,rfl⟩:=d;exact ne_int (Yl I q (congrArg not GS))
  |str j=>obtain⟨e,rfl⟩:=d;exact PySem.EqMixed.ne_int_str (Yl I q (by simp))
  |_=>exact absurd (show Z5=Z7 from f) qB4
 |str i =>
  obtain⟨t,rfl⟩:=g;cases y with
  |non=>cases d;exact PySem.EqNone.ne_str_none (Yl I q (by simp))
  |bl j=>cases d;exact PySem.EqMixed.ne_str_bool (Yl I q (by simp))
  |int j=>obtain⟨e,rfl⟩:=d;exact PySem.EqMixed.ne_str_int (Yl I q (by simp))
  |str j=>obtain⟨e,rfl⟩:=d;exact ne_str (Yl I q (congrArg not GQ))
  |_=>exact absurd (show Z5=Z7 from f) qB4
 |byt i =>
  obtain⟨t,rfl⟩:=g;cases y with
  |byt j=>obtain⟨e,rfl⟩:=d;exact W.ne_bytes (Yl I q (congrArg not GP))
  |_=>exact absurd (show Z5=Z7 from f) qB4
 |_=>cases y<;>exact absurd (show Z5=Z7 from f) qB4
theorem zO5:YY X (jD .Lt) (V1 λi j=>.bl (decide (i<j))):=UG λ_ _ _ _ _ _ _ q=>lt_int q
theorem zL:YY X (jD .LtE) (V1 λi j=>.bl (decide (i<=j))):=UG λ_ _ _ _ _ _ _ q=>le_int q
theorem zK:YY X (jD .Gt) (V1 λi j=>.bl (decide (j<i))):=UG λ_ _ _ _ _ _ _ q=>gt_int q
theorem zJ:YY X (jD .GtE) (V1 λi j=>.bl (decide (j<=i))):=UG λ_ _ _ _ _ _ _ q=>ge_int q
theorem zI:YY X (jD .Is) (λx y H Q=>y=.non/\Q (.bl (decide (x=.non))) H):=by
 intro d s Z H x y v u Q I e f h;obtain⟨rfl,q⟩:=h;cases f;refine is_none_gen (Yl I q ?_);cases x<;>first
  |(cases e;rfl)
  |(obtain⟨t,rfl⟩:=e;rfl)
theorem zH:YY X (jD .IsNot) (λx y H Q=>y=.non/\Q (.bl (!decide (x=.non))) H):=by
 intro d s Z H x y v u Q I e f h;obtain⟨rfl,q⟩:=h;cases f;refine isnot_none_gen (Yl I q ?_);cases x<;>first
  |(cases e;rfl)
  |(obtain⟨t,rfl⟩:=e;rfl)
theorem zG(e:YY X (jD op) r)(j:PE X a ta)(k:PE X b tb)(hm:fS op b=Z5):PE X (.Compare a [op] [b] pos) (QV r ta tb):=by intro d s Z H Q I h;exact wpAny_Compare1 (SZ j k I h λv u i x y l g f m q=>e d i Z l x y v u Q g f m q) hm
def Mj(t:TE):TT:=fun Z H Q=>t Z H λx d=>∃k,x=.bl k/\Q k d
theorem zF(g:YY X (jD op) r)(q:PE X a ta)(t:PE X b tb)(hm:fS op b=Z5):PT X (.Compare a [op] [b] pos) (Mj (QV r ta tb)):=by
 intro d s Z H Q I h;refine wpAny_isTrue_Compare1 (Zq (q d s Z H _ I h) λv n ⟨x,l,C,E,i⟩=>Zq (t d n Z l _ C i) λu o ⟨y,A,m,f,p⟩ =>
  Zq (g d o Z A x y v u _ m E f p) λc F ⟨z,w,B,D,k,e,j⟩=>?_) hm
 subst e;cases D;exact jU ⟨w,B,j⟩
def Mi(r g:R2)(f e tc:TE):TE:=fun Z H Q=>f Z H λx i=>e Z i λy j=>r x y j λz d=>∃k,z=.bl k /\
 (if k=Z7 then tc Z d λh l=>g y h l Q else Q (.bl Z5) d)
theorem zE(p:YY X (jD op) r)(i:YY X (jD g) l)(L:PE X a ta)(M:PE X b tb)(A:PE X c tc)
  (hm:dA [op,g] [b,c]=Z5:=by with_unfolding_all rfl):PE X (.Compare a [op,g] [b,c] pos) (Mi r l ta tb tc):=by
 intro f s Z H Q I h;refine Compare_chain (Zq (L f s Z H _ I h) λv E ⟨x,C,O,T,w⟩=>chain_link (Zq (M f E Z C _ O w) λu J ⟨y,N,D,j,K⟩ =>
  Zq (p f J Z N x y v u _ D T j K) λd P ⟨z,n,o,R,k,e,m⟩=>?_)) hm
 subst e;cases R;refine jU ?_;cases k with
 |false=>exact ite_ff ⟨.bl Z5,n,o,rfl,m⟩
 |true=>exact ite_tt (chain_last (Zq (A f P Z n _ o m) λB F ⟨q,t,S,U,G⟩=>i f F Z t y q u B Q S j U G))
theorem zD(q:YY X (jD op) r)(i:YY X (jD g) l)(P:PE X a ta)(S:PE X b tb)(C:PE X c tc)
  (hm:dA [op,g] [b,c]=Z5:=by with_unfolding_all rfl):PT X (.Compare a [op,g] [b,c] pos) (Mj (Mi r l ta tb tc)):=by
 intro f s Z H Q I h;refine isTrue_chain (Zq (P f s Z H _ I h) λv J ⟨x,E,U,r1,A⟩=>test_link (Zq (S f J Z E _ U A) λu N ⟨y,T,G,j,O⟩ =>
  Zq (q f N Z T x y v u _ G r1 j O) λd V ⟨z,n,o,Y,k,e,m⟩=>?_)) hm
 subst e;cases Y;refine jU ?_;cases k with
 |false =>
  obtain⟨k',B,p⟩:=m;cases B;exact ite_ff ⟨n,o,p⟩
 |true =>
  refine ite_tt (test_last (Zq (C f V Z n _ o m) λD K ⟨t,w,I4,r4,M⟩=>Zq (i f K Z w y t u D _ I4 j r4 M) λd' s5 ⟨z2,L,R,F,k2,W,q5⟩=>?_));subst W;cases F;exact jU ⟨L,R,q5⟩
def SY(K:yS)(x:V)(H:Hp)(k:Bool):Prop :=
 match x with
 |.non=>k=Z5
 |.bl b=>k=b
 |.int i=>k=(i != 0)
 |.str y=>y.length<=jC/\k=((y.length:Int) != 0)
 |.byt y=>y.size<=jC/\k=((y.size:Int) != 0)
 |.ref p=>(∃e,YK K H p e/\k=!e.isEmpty)∨(∃e,Zp K H p e/\k=!e.isEmpty)∨∃d,H p=Z9 (.dK d)/\k=!d.isEmpty
 |_=>False
theorem zC{e:List (d×yT)}(r:KV kvs e):(!e.isEmpty)=!kvs.isEmpty:=by cases r<;>rfl
theorem GO(r:ZO xs d):(!d.toArray.isEmpty)=!xs.isEmpty:=by cases r<;>simp
theorem QS:(jC:Nat)<2 ^ 63:=by decide
theorem zB:Ml X (λx H Q=>∃k,SY X.K x H k/\Q k H):=by
 intro u s Z H x v Q I g h;obtain⟨k,e,q⟩:=h;have B:=vF;cases x with
 |non =>
  cases g;have d:k=Z5:=e;subst d;exact truthy_none ⟨H,I,q⟩
 |bl b =>
  cases g;have d:k=b:=e;subst d;exact jU ⟨H,I,q⟩
 |int i =>
  obtain⟨t,rfl⟩:=g;have d:=e;subst d;exact PySem.P.truthy_int ⟨H,I,q⟩
 |str y =>
  obtain⟨t,rfl⟩:=g;obtain⟨w,d⟩:y.length<=jC/\k=((y.length:Int) != 0):=e;subst d;exact PySem.P.truthy_str (by lia) ⟨H,I.tok _,q⟩
 |byt y =>
  obtain⟨t,rfl⟩:=g;obtain⟨w,d⟩:y.size<=jC/\k=((y.size:Int) != 0):=e;subst d;exact W.truthy_bytes (by lia) ⟨H,I.tok _,q⟩
 |ref p =>
  cases g;have d:=e;rcases d with⟨z,j,d⟩| ⟨z,j,d⟩| ⟨l,j,d⟩
  .subst d;obtain⟨n,r,pl,o⟩:=I.list j;have f:=r.length;exact wpAny_truthy_list pl.isList (by simp only[qB2];lia) ⟨H,I.tok _,by rw[GO r];exact q⟩
  .subst d;obtain⟨n,r,pl,o⟩:=I.tuple j;have f:=r.length;exact truthy_tuple pl (by simp only[qB2];lia) ⟨H,I.tok _,by rw[GO r];exact q⟩
  .subst d;obtain⟨o,A,vs,r,m⟩:l.length<=jC/\(p == vY)=Z5/\∃vs,KV l vs/\s.heap.DictOf (Yt X.prog X.w) p vs:=I.hok p _ j;have f:=Paired.length r;exact wpAny_truthy_dict A m (by lia) ⟨H,I.tok _,by rw[zC r];exact q⟩
 |_=>exact(e).elim
theorem zA(i:PE X a ta)(he:∀d,uI a X.env d=(do let v <- d;dS a.pos;fB [v] (truthy v))):
  PT X a (fun Z H Q=>ta Z H λx f=>∃k,SY X.K x f k/\Q k f):=by intro e s Z H Q I h;exact isTrue_plain (Zq (i e s Z H _ I h) λv n ⟨x,j,g,m,l⟩=>zB e n Z j x v Q g m l) (he _)
theorem zy:YY X (jP .Add) (λx y H Q=>∃i j,x=.str i/\y=.str j/\i.length+j.length<=jC/\Q (.str (i++j)) H):=by intro d s Z H x y v u Q I f k h;obtain⟨i,j,rfl,rfl,g,q⟩:=h;obtain⟨t,rfl⟩:=f;obtain⟨e,rfl⟩:=k;exact add_str (λe l=>⟨.str (i++j),H,I.tok _,⟨_,rfl⟩,q⟩) g
theorem XS(r:ZO [x] d):∃u,d=[u]/\ZG x u:=by
 cases r with
 |cons f e=>cases e;exact⟨_,rfl,f⟩
theorem QR(r:ZO [x,y] d):∃u w',d=[u,w']/\ZG x u/\ZG y w':=by
 cases r with
 |cons g e =>
  cases e with
  |cons f h=>cases h;exact⟨_,_,rfl,g,f⟩
theorem zx(f:X.calm=Z7):YB X (.builtin "max") (λxs H Q=>∃i j,xs=[.int i,.int j]/\Q (.int (if j>i then j else i)) H):=by
 intro e s Z H xs m Q I r h;obtain⟨i,j,rfl,q⟩:=h;obtain⟨u,l,rfl,⟨t,rfl⟩,⟨g,rfl⟩⟩:=QR r;refine max_two_ints (I.ok.hd f) λo n k=>⟨_,H,I.kept k,?_,q⟩
 by_cases d:j>i
 .rw[if_pos d,if_pos d];exact⟨_,rfl⟩
 .rw[if_neg d,if_neg d];exact⟨_,rfl⟩
theorem zw(f:X.calm=Z7):YB X (.builtin "min") (λxs H Q=>∃i j,xs=[.int i,.int j]/\Q (.int (if j<i then j else i)) H):=by
 intro e s Z H xs m Q I r h;obtain⟨i,j,rfl,q⟩:=h;obtain⟨u,l,rfl,⟨t,rfl⟩,⟨g,rfl⟩⟩:=QR r;refine min_two_ints (I.ok.hd f) λo n k=>⟨_,H,I.kept k,?_,q⟩
 by_cases d:j<i
 .rw[if_pos d,if_pos d];exact⟨_,rfl⟩
 .rw[if_neg d,if_neg d];exact⟨_,rfl⟩
theorem GN:YB X (.type "int") (λxs H Q=>(∃i,xs=[.int i]/\Q (.int i) H)∨∃k,xs=[.bl k]/\Q (.int (if k then 1 else 0)) H):=by
 intro d s Z H xs f Q I r h;rcases h with⟨i,rfl,q⟩| ⟨k,rfl,q⟩
 .obtain⟨u,rfl,t,rfl⟩:=XS r;exact call_int_int ⟨.int i,H,I,⟨_,rfl⟩,q⟩
 .obtain⟨u,rfl,e⟩:=XS r;cases e;exact call_int_bool ⟨.int (if k then 1 else 0),H,I.tok _,⟨_,rfl⟩,q⟩
end
theorem Xj.some_of(r:Xj (Z9 v) o):∃u,o=Z9 u/\ZG v u:=by
 cases o with
 |none=>exact(r).elim
 |some u=>exact⟨u,rfl,r⟩
structure Zf(k:Nat)(A:jF):Prop where
 hd:A.handled=Z8
 dp:A.depth+3*k+5<recursionLimit
 un:A.units+16*k+200<vN
 gd:A.guards=Z9 []
theorem Zf.mono(r:Zf k A)(h:j<=k):Zf j A:=⟨r.hd,by have:=r.dp;lia,by have:=r.un;lia,r.gd⟩
theorem Zf.deeper(r:Zf (k+1) A)(env:Env):Zf k (A.deeper env) :=
 ⟨r.hd,by have:=r.dp;show A.depth+1+3*k+5<_;lia,by have:=r.un;show A.units+3+16*k+200<_;lia,r.gd⟩
theorem Zf.depth(r:Zf k A):A.depth<recursionLimit:=by have:=r.dp;lia
theorem Zf.units(r:Zf k A):A.units+64<cLine:=by have:=r.un;lia
theorem Zf.units0(r:Zf k A):A.units<cLine:=by have:=r.un;lia
def Mh:TA:=λ_ H Q=>Q [] H
def zv(a:TE)(b:TA):TA:=fun Z H Q=>a Z H λx c=>b Z c λe d=>Q (x::e) d
section
variable {X:Cx}{e:jE}{es:yE}{te:TE}{t:TA}{pos:Pos}
theorem GM:PA X [] Mh:=λ_ _ _ _ H Q I h=>Calls.spliced_nil ⟨[],H,I,.nil,h⟩
theorem GL(k:PE X e te)(m:PA X es t)(hs:jL (e::es) X.env=(Z5,v7 e X.env)::jL es X.env:=by rfl):PA X (e::es) (zv te t):=by intro b a s Z H Q I h;rw[hs];show y7 _ _ (spliced ((Z5,v7 e X.env)::wV b (jL es X.env))) _ _ s;refine Calls.spliced_cons (Zq (k a s Z H _ I h) λu i ⟨x,f,o,p,d⟩=>?_);exact Zq (m b a i Z f _ o d) λq r ⟨n,l,g,c,j⟩=>⟨x::n,l,g,.cons p c,j⟩
def Mf(t:TA):TE:=fun Z H Q=>t Z H λb a=>b.length<=jC/\∀p,a p=Z8->Q (.ref p) (ZC a p (.tup b))
def Me(t:TA):TE:=fun Z H Q=>t Z H λb a=>b.length<=jC/\∀p,a p=Z8->Q (.ref p) (ZC a p (.lst b))
theorem zu{x1}(h:PA X es t):PE X (.Tuple es x1 pos) (Mf t):=by intro a s Z H Q I k;refine wpAny_Tuple_spliced (Zq (h pos a s Z H _ I k) λi c ⟨j,g,d,r,z,q⟩=>⟨by rw[<- r.length];exact z,?_⟩);have f:=d.hok.fresh (qA7 _);refine⟨.ref c.heap.objs.size,ZC g c.heap.objs.size (.tup j),d.laid (t':=c.toks) (λb u e=>qA3 _ e) (qA7 _) ?_,rfl,q _ f⟩;exact⟨z,i,r,⟨_,qA9 _ rfl,rfl,_,rfl⟩⟩
theorem zt(h:PA X es t):PE X (.List es pos) (Me t):=by intro a s Z H Q I k;refine wpAny_List_spliced (Zq (h pos a s Z H _ I k) λi c ⟨j,g,d,r,z,q⟩=>⟨by rw[<- r.length];exact z,?_⟩);have f:=d.hok.fresh (qA7 _);refine⟨.ref c.heap.objs.size,ZC g c.heap.objs.size (.lst j),d.laid (t':=c.toks) (λb u e=>qA3 _ e) (qA7 _) ?_,rfl,q _ f⟩;exact⟨z,i,0,r,qA9 _ rfl⟩
end
abbrev Sp:=List V->Hp->VK->XK->Prop
abbrev Vq:=List Env->Hp->yQ->XK->yL
structure UE(P:yZ)(w:jG)(K:yS)(mg:Str->yF)(base:jH)(A:jF)(outer:List Env)(s:yQ)(H:Hp):Prop where
 frames:A.frames=Z9 outer
 mod:Mod K mg base
 bs:∀b o,base.get? b=Z9 o->s.heap.get? b=Z9 o/\H b=Z8
 bsz:base.objs.size<=s.heap.objs.size
 funs:s.heap.FunFrames base outer
 frf:∀b∈Vt outer,H b=Z8
 hok:Yc P w H s.heap
 bare:gO s.gens
def CE(a:List Env)(P:yZ)(w:jG)(H:Hp)(s:yQ)(Q:VK)(u:yT)(s':yQ):Prop :=
 ∃v b,s'.os=s.os/\gO s'.gens/\Un (Vt a) [] H b s.heap s'.heap/\Yc P w b s'.heap/\ZG v u/\Q v b
def CR(CX:Vq)(a:List Env)(P:yZ)(w:jG)(H:Hp)(s:yQ)(Q:VK)(E:XK)(r:dN)(s':yQ):Prop :=
 match r with
 |.ok (.ret u)=>CE a P w H s Q u s'
 |.ok _=>False
 |.error e=>CX a H s E e s'
structure X7(P:yZ)(w:jG)(K:yS)(mg:Str->yF)(base:jH)(CX:Vq)(k:Nat)(f:yR)(fd:vU)(ps:yH)(sp:Sp):Prop where
 len:∀vs H Q E,sp vs H Q E->vs.length=ps.length
 run:∀(A:jF) (outer:List Env) (s:yQ) (H:Hp) (args:Args) (us:yB) (vs:List V) (Q:VK) (E:XK),Zf k A->UE P w K mg base A outer s H->dW s fd args (ps.zip us)->ZO vs us->sp vs H Q E ->
  wD (yV P w) A (.call (.ref f) args) (CR CX outer P w H s Q E) s
theorem X7.imp{K:yS}(F:X7 P w K d base CX k f e ps sp)
  (h:∀b H Q E,sp' b H Q E->sp b H Q E):X7 P w K d base CX k f e ps sp' :=
 ⟨λb H Q E q=>F.len b H Q E (h _ _ _ _ q),λA a s H c j b Q E m n l g i=>F.run A a s H c j b Q E m n l g (h _ _ _ _ i)⟩
section
variable {X:Cx}{pins:yD}{Z:St}{H:Hp}{s s':yQ}
theorem ZP.env0(I:ZP X pins Z H s):UE X.prog X.w X.K X.mg X.base X.A X.stack s H :=
 ⟨I.ok.frames,I.ok.mod,I.bs,qD4 I.ok.bsz I.sz,I.stack,I.stkFree,I.hok,I.bare⟩
theorem ZP.after(I:ZP X pins Z H s)(h:CE X.stack X.prog X.w H s Q u s'):EP X pins Z Q u s':=by obtain⟨v,f,i,a,un,c,r,q⟩:=h;obtain⟨j,g,d,t,e⟩:=s';obtain rfl:e=s.os:=i;exact⟨v,f,I.call (h':=j) (g':=g) (d':=d) (t':=t) un c a (λb z=>absurd z (by simp)),r,q⟩
end
def Md(sp:Sp)(a:List V)(E:XK)(t:TA):TE:=fun Z H Q=>t Z H λc b=>sp (c++a) b Q E
def UD(K:yS)(b:vU)(ps:yH)(ds:yB):Prop :=
 ∀(s:yQ) (a:yB),K.In s.heap->(a++ds).length=ps.length->dW s b ⟨a,[]⟩ (ps.zip (a++ds))
theorem UD.all{K:yS}(h:∀a:yB,a.length=ps.length->bindArgs b ⟨a,[]⟩=pure (ps.zip a)):UD K b ps []:=λs a _ c=>by rw[qI1]at c ⊢;exact .of_eq (h a c)
def Mc(CX:Vq)(X:Cx)(E:XK):Prop:=∀(a:yD) (Z:St) (H:Hp) (s:yQ) (e:yT) (b:yQ),ZP X a Z H s->CX X.stack H s E e b->X.xe e b
section
variable {X:Cx}{CX:Vq}{k:Nat}{f C:yR}{fd:vU}{ps:yH}{sp:Sp}{dvs:List V}{ds:yB}{E:XK}{x m:Str}{p pos apos:Pos}{e o:jE}{es:yE}{ta:TE}{t:TA}
theorem zr{Z:St}(F:X7 X.prog X.w X.K X.mg X.base CX k f fd ps sp)(v:Zf k X.A)(l:UD X.K fd ps ds)(q:ZO dvs ds)(i:Mc CX X E)
  (I:ZP X a Z H s) (r:ZO d b) (h:sp (d++dvs) H Q E):y7 (yV X.prog X.w) X.A (call (.ref f) b) (EP X a Z Q) X.xe s:=by
 have g:=r.append q;have n:(b++ds).length=ps.length:=by rw[<- g.length];exact F.len _ _ _ _ h
 refine wpAny_call (fE (F.run X.A X.stack s H ⟨b,[]⟩ (b++ds) (d++dvs) Q E v I.env0 (l s b I.kIn n) g h) λr w c=>?_);cases r with
 |error e=>exact i a Z H s e w I c
 |ok j =>
  cases j with
  |ret u=>exact I.after c
  |next=>exact False.elim c
  |brk=>exact False.elim c
  |cont=>exact False.elim c
theorem zq(F:X7 X.prog X.w X.K X.mg X.base CX k f fd ps sp)(l:Zf k X.A)(d:Gl X x)(hm:X.mg x=Z9 (.ref f))(hk:mU X.K (.ref f)=Z7)(i:UD X.K fd ps ds)(j:ZO dvs ds)(c:Mc CX X E)
  (g:PA X (e::es) t) (hdb:VB x:=by decide) (he:jL (e::es) X.env=(Z5,v7 e X.env)::jL es X.env:=by rfl) (hpl:(wV pos (jL es X.env)).any (·.1)=Z5:=by rfl) :
  PE X (.Call (.Name x p) (e::es) [] pos) (Md sp dvs E t):=by intro a s Z H Q I h;refine wW (A0 I d hm ?_ hdb);refine W.callWith_K I.ok.mod.kin hk (Zq (g pos a s Z H _ I h) λu v ⟨w,n,b,r,q⟩=>⟨b.kIn,?_⟩) he hpl;exact zr F l i j c b r q
end
structure OM(N P:yH)(sc:vT):Prop where
 kind:sc.kind=.function
 co:sc.isCoroutine=Z5
 gen:sc.isGenerator=Z5
 nd:N.Nodup
 pre:N.take P.length=P
 par:∀x∈P,sc.names.lookup x=Z9 .local∨sc.names.lookup x=Z9 .cell
 nofree:∀y∈sc.names,y.2≠.free
theorem GK{kindOf:Str->Option j7}:∀{binds:List (Str×yT)}{m:Str->yF},(∀v,(x,v)∉binds)->bindL kindOf binds m x=m x
 |[],_,_=>rfl
 |(n,v)::r,m,h=>by
  unfold bindL;rw[GK λw a=>h w (qC5 _ a)];split
  .have:x≠n:=by rintro rfl;exact h v qE3
   simp[this]
  .rfl
theorem GJ{kindOf:Str->Option j7}:∀{binds:List (Str×yT)}{m:Str->yF},(∀v,(x,v)∉binds)->bindC kindOf binds m x=m x
 |[],_,_=>rfl
 |(n,v)::r,m,h=>by
  unfold bindC;rw[GJ λw a=>h w (qC5 _ a)];split
  .rfl
  .have:x≠n:=by rintro rfl;exact h v qE3
   simp[this]
theorem GI{kindOf:Str->Option j7}{x:Str}{v:yT}:∀{P:yH}{a:yB}{i:Nat}{m:Str->yF},P.Nodup->P[i]?=Z9 x->a[i]?=Z9 v->kindOf x=Z9 .local ->
  bindL kindOf (P.zip a) m x=Z9 v
 |[],_,_,_,_,h,_,_=>by simp at h
 |_::_,[],_,_,_,_,h,_=>by simp at h
 |p::P,w::a,0,m,nd,h1,h2,hk=>by simp at h1 h2;subst h1;subst h2;show bindL kindOf ((p,w)::P.zip a) m p=_;unfold bindL;rw[GK λv b=>(qH2.mp nd).1 (qN8 b).1,if_pos hk];simp
 |p::P,w::a,i+1,m,nd,h1,h2,hk=>by show bindL kindOf ((p,w)::P.zip a) m x=_;exact GI (qH2.mp nd).2 (by simpa using h1) (by simpa using h2) hk
theorem GH{kindOf:Str->Option j7}{x:Str}{v:yT}:∀{P:yH}{a:yB}{i:Nat}{m:Str->yF},P.Nodup->P[i]?=Z9 x->a[i]?=Z9 v->kindOf x≠Z9 .local ->
  bindC kindOf (P.zip a) m x=Z9 v
 |[],_,_,_,_,h,_,_=>by simp at h
 |_::_,[],_,_,_,_,h,_=>by simp at h
 |p::P,w::a,0,m,nd,h1,h2,hk=>by simp at h1 h2;subst h1;subst h2;show bindC kindOf ((p,w)::P.zip a) m p=_;unfold bindC;rw[GJ λv b=>(qH2.mp nd).1 (qN8 b).1,if_neg hk];simp
 |p::P,w::a,i+1,m,nd,h1,h2,hk=>by show bindC kindOf ((p,w)::P.zip a) m x=_;exact GH (qH2.mp nd).2 (by simpa using h1) (by simpa using h2) hk
def start(N:yH)(a:List V):St:=a.map Z9++qM4 (N.length - a.length) Z8
def Wv(CX:Vq)(P:yZ)(w:jG)(K:yS)(mg:Str->yF)(base:jH)(N:yH)(a:Str)(scope:vT)(f:yR)(c:yT)(A:jF)(outer:List Env)(s:yQ)(H:Hp)(E:XK):Cx where
 prog:=P
 w:=w
 K:=K
 mg:=mg
 base:=base
 A:=A.deeper (mV a scope s.heap.objs.size f c)
 N:=N
 s₀:=s
 H₀:=H
 env:=mV a scope s.heap.objs.size f c
 outer:=outer
 stack:=mV a scope s.heap.objs.size f c::outer
 ex:=[]
 calm:=Z7
 fn:=λ_=>Z7
 pn:=[]
 xe:=λe g=>y7 (yV P w) (A.deeper (mV a scope s.heap.objs.size f c)) (leaving (mV a scope s.heap.objs.size f c) e) (λ_ b=>CX outer H s E e b) (λd b=>CX outer H s E d b) g
theorem GG{a:vT}(h:a.names.lookup x=Z9 .cell):∃c,(wB n a.names []).lookup x=Z9 c:=by have q:=W.cellsFrom_some a.names n [] (.inl h);exact qH6.mp q
theorem zp{K:yS}
  (S:OM N ps scope) (Q:A.handled=Z8) (l:UE P w K G base A d s H) (T:o.length=ps.length) (r:ZO o I)
  (x:InCallC s s.heap.objs.size (bindL (mV g scope s.heap.objs.size f F).kindOf (ps.zip I) λ_=>Z8) (wB (s.heap.objs.size+1) scope.names []) (bindC (mV g scope s.heap.objs.size f F).kindOf (ps.zip I) λ_=>Z8) s1) :
  ZP (Wv CX P w K G base N g scope f F A d s H E) [] (start N o) H s1:=by
 have L:=by have:=congrArg qJ3 S.pre;rw[qF7]at this;omega
 obtain⟨C,R,rfl,hk⟩:=x.done;have n:∀b:yR,b∉(Wv CX P w K G base N g scope f F A d s H E).ex:=λb z=>absurd (show b∈([])from z) (by simp);refine⟨⟨l.mod,S.kind,rfl,rfl,qA7 _,λy z c C j=>?_,λy m=>?_,λy c _ h=>?_,λ_=>Q,Around.frames_deeper l.frames,.inr ⟨rfl,rfl⟩,λb z=>absurd z (n b),l.bs,l.bsz,λb _ _=>n b,λb z=>absurd z (n b),l.funs,l.frf⟩,
  rfl,l.bare,Un.kept hk,⟨_,x.toInCall.ns,λi y v C j U=>?_⟩,λy c h=>⟨_,x.cell y c h⟩,l.hok.fresh (qA7 _),λy c h=>?_,λp t=>absurd (show p∈([])from t) (by simp),l.hok.kept hk,?_⟩
 .exact name_of_addr x.apart (wC C) (wC j)
 .have m:=m;rcases m with m|m
  .exact GG m
  .exact absurd rfl (S.nofree _ (wC m))
 .exact qH5 (x.above y c (wC h))
 .have D:i<o.length:=by
   unfold start at j;by_cases D:i<o.length
   .exact D
   .rw[qA1 (by simpa using D)]at j;rw[qJ7]at j;split at j<;>cases j
  have O:o[i]?=Z9 v:=by
   unfold start at j;rw[qA8 (by simpa using D),qB1]at j;cases e:o[i]? with
   |none=>rw[e]at j;cases j
   |some a=>rw[e]at j;cases j;rfl
  obtain⟨u,J,M⟩:=r.get O;have t:ps[i]?=Z9 y:=by rw[<- S.pre,qP8 (by lia)];exact C
  have B:ps.Nodup:=by rw[<- S.pre];exact S.nd.sublist (qG9 _ _)
  refine⟨u,M,?_⟩;rcases S.par y (qB5 t)with k|k
  .exact .inl ⟨k,GI B t J k⟩
  .obtain⟨c,e⟩:=GG k;refine .inr ⟨.inl k,c,e,?_⟩;have q:=x.cell y c e;rw[GH B t J (by show scope.names.lookup y≠_;rw[k];decide)]at q;exact q
 .exact l.hok.fresh (qH5 (x.above y c (wC h)))
 .unfold start;show _=N.length;rw[qC2,qA0,qI9];omega
theorem zo{K:yS}{T kV C Z d X oc:yT}
  {M:Array (yF)} (lk:K.lookup f=Z9 ⟨oc,od,.func (lA l c g h scope T kV C Z U d X),M⟩) (L:dZ K d c=Z7) (S:OM N ps scope)
  (len:∀i H Q E,sp i H Q E->i.length=ps.length)
  (z:∀(A:jF) (a:List Env) (s:yQ) (H:Hp) (i:List V) (Q:VK) (E:XK),Zf k (A.deeper (mV c scope s.heap.objs.size f d))->sp i H Q E ->
   ∃t,XB (Wv CX P w K G base N c scope f d A a s H E) h t/\t { nx:=λ_ j=>Q .non j,rt:=Q } (start N i) H) :
  X7 P w K G base CX (k+1) f (lA l c g h scope T kV C Z U d X) ps sp:=by
 refine⟨len,λA a s H Y us i Q E R F hb r D=>?_⟩;have hl:=len _ _ _ _ D;have KX:=F.mod.kin.keeps λb o e=>(F.bs b o e).1;have lim:=F.mod.nolimit.keeps λb o e=>(F.bs b o e).1;have p:∀y∈ps.zip us,scope.names.lookup y.1=Z9 .local∨(scope.names.lookup y.1=Z9 .cell/\((wB (s.heap.objs.size+1) scope.names []).lookup y.1).isSome=Z7):=λ⟨n,v⟩ hy=>by
  rcases S.par n (qN8 hy).1 with q|q
  .exact .inl q
  .exact .inr ⟨q,W.cellsFrom_some _ _ _ (.inl q)⟩
 refine codeAny_call_function R.depth (KX _ _ lk) rfl S.co S.gen rfl (W.codeRec_of KX L) (hb _ _ _ _ ?_);refine wpAny_newFunctionEnv_cells S.kind p λenv he s1 x=>?_;subst he;refine⟨lim.keeps x.toInCall.keep,codeAny_func ?_⟩;obtain⟨t,ht,hq⟩:=z A a s H i Q E (R.deeper _) D;have I:ZP (Wv CX P w K G base N c scope f d A a s H E) [] (start N i) H s1:=zp S R.hd F hl r x;refine jS (ht [] s1 (start N i) H _ I hq) (λfl s' B=>?_) λe s' B=>B;have fin:∀{J:St}{j:Hp}{v:V}{u:yT},ZP (Wv CX P w K G base N c scope f d A a s H E) [] J j s'->ZG v u->Q v j->CE a P w H s Q u s' :=
  λ{J j v u} m O q=>⟨v,j,m.os,m.bare,m.base,m.hok,O,q⟩
 cases fl with
 |ret u =>
  obtain⟨v,J,j,m,O,q⟩:=B;exact fin m O q
 |next =>
  obtain⟨J,j,m,q⟩:=B;exact fin (v:=V.non) m rfl q
 |brk =>
  obtain⟨_,_,_,q⟩:=B;exact False.elim q
 |cont =>
  obtain⟨_,_,_,q⟩:=B;exact False.elim q
section
variable {X:Cx}{x:Str}{p pos:Pos}{e:jE}{es:yE}{t:TA}{id T:String}{r:List V->Hp->VK->Prop}
def OL(r:List V->Hp->VK->Prop)(t:TA):TE:=fun Z H Q=>t Z H λb a=>r b a Q
theorem zk(d:YB X (.builtin id) r)(j:Gl X x)(hm:X.mg x=Z8)(b:jO x=Z9 (.builtin id))(k:PA X (e::es) t)(m:x ≠ "__name__":=by decide)(hdb:VB x:=by decide)
  (he:jL (e::es) X.env=(Z5,v7 e X.env)::jL es X.env:=by rfl) (hpl:(wV pos (jL es X.env)).any (·.1)=Z5:=by rfl):PE X (.Call (.Name x p) (e::es) [] pos) (OL r t):=by intro a s Z H Q I h;refine wW (T3 I j hm b ?_ m hdb);exact fM (Zq (k pos a s Z H _ I h) λg i ⟨o,f,l,n,c⟩=>d a i Z f o g Q l n c) he hpl
theorem Mb(d:YB X (.type T) r)(j:Gl X x)(hm:X.mg x=Z8)(b:jO x=Z9 (.type T))(k:PA X (e::es) t)(m:x ≠ "__name__":=by decide)(hdb:VB x:=by decide)
  (he:jL (e::es) X.env=(Z5,v7 e X.env)::jL es X.env:=by rfl) (hpl:(wV pos (jL es X.env)).any (·.1)=Z5:=by rfl):PE X (.Call (.Name x p) (e::es) [] pos) (OL r t):=by intro a s Z H Q I h;refine wW (T3 I j hm b ?_ m hdb);exact vG (Zq (k pos a s Z H _ I h) λg i ⟨o,f,l,n,c⟩=>d a i Z f o g Q l n c) he hpl
end
end L2
namespace HT
open PySem PyProof.Rows
def lexLt:yA->yA->Bool
 |[],[]=>Z5
 |[],_::_=>Z7
 |_::_,[]=>Z5
 |x::a,y::b=>if x=y then lexLt a b else decide (x<y)
theorem lexLt_cons(x y:Int)(xs ys:yA):lexLt (x::xs) (y::ys)=if x=y then lexLt xs ys else decide (x<y):=rfl
theorem zj(A:jF)(s:yQ)(a:Int)(t:Tok)(c:Int)(u:Tok):∃e,SeqAt.EqAt A s (.int a t) (.int c u) e/\(e=Z7↔a=c) :=
 ⟨(a == c),SeqAt.EqAt.int_int a t c u,by simp⟩
theorem zi(A:jF)(s:yQ)(a:Int)(t:Tok)(c:Int)(u:Tok)(prog:yZ)(w:jG)(E:yL)(Q:yL)(h:Q (.bool (decide (a<c))) s):
  y7 (yV prog w) A (richCompare .Lt (.int a t) (.int c u)) Q E s :=
 (dD h)
section
open PySem.SeqAt
open PySem.AutoSeq1 (wpAny_loadPart')
open PySem.MeetsSeq PySem.MeetsSeq2 PySem.MeetsSeq3
theorem tuple_lt_ints(l b:yR)(items f:yJ)(n W:Nat)(S M:Option yR)(sl L:Array (yF))(E J:yA)(hi:vI items.toList E)(Q:vI f.toList J):
  Meets (Builtin.«tuple.__lt__» ⟨[.ref l,.ref b],[]⟩)
   (λ_ R s=>s.heap.get? l=Z9 { cls:=.type "tuple",dict:=S,data:=.seq items n,slots:=sl }/\s.heap.get? b=Z9 { cls:=.type "tuple",dict:=M,data:=.seq f W,slots:=L } /\
    R (.ok (.ret (.bool (lexLt E J)))) s) :=
 .of_wp λr w A R s h=>by
  obtain⟨I,g,d,G,H⟩:=s;obtain⟨V,U,h⟩:=h;have Z:=AutoSeq1.sub_tuple_tuple;have z1:items.size=E.length:=by rw[<- hi.length];simp
  have z2:f.size=J.length:=by rw[<- Q.length];simp
  wp_walk using wU V,wU U,fN _ (λZJ b O=>b.1=Z8/\O=⟨I,g,d,G,H⟩/\∃(K F:yB) (k j:yA),ZJ=K.zip F /\
   vI K k/\vI F j/\k.length+f.size=j.length+items.size/\R (.ok (.ret (.bool (lexLt k j)))) ⟨I,g,d,G,H⟩) _
  case turn =>
   rintro⟨y,x⟩ ZJ b O ⟨D,rfl,K,F,k,j,v,z,m,i,o⟩;cases z with
   |nil=>rw[List.zip_nil_left]at v;cases v
   |cons a t C =>
    cases m with
    |nil=>rw[List.zip_nil_right]at v;cases v
    |cons c u B =>
     injection v with hyx hrest;injection hyx with hy hx;subst hy hx;rw[lexLt_cons]at o;simp only[qD3]at i;obtain⟨e,X,p⟩:=zj A.in1 ⟨I,g,d,G,H⟩ a t c u;refine yO (X r w _ _ ?_);cases e with
     |true =>
      rw[if_pos (p.mp rfl)]at o
      wp_walk
      exact⟨rfl,rfl,_,_,_,_,hrest,C,B,by lia,o⟩
     |false =>
      rw[if_neg (λq=>absurd (p.mpr q) qB4)]at o;have N:=zi A.in1 ⟨I,g,d,G,H⟩ a t c u r w
      wp_walk using N
      exact⟨_,rfl,by simpa using o⟩
  case fin =>
   rintro⟨b1,Y⟩ O ⟨D,rfl,K,F,k,j,v,z,m,i,o⟩;subst D;have P:lexLt k j=decide (items.size<f.size):=by
    cases z with
    |nil =>
     cases m with
     |nil =>
      exact(decide_eq_false (by lia)).symm
     |cons c u T =>
      simp only[qN9,qD3]at i;exact(decide_eq_true (by lia)).symm
    |cons a t P =>
     cases m with
     |nil =>
      simp only[qN9]at i;exact(decide_eq_false (by lia)).symm
     |cons c u T =>
      cases v
   rw[P]at o
   wp_walk
   exact⟨_,rfl,by simpa[Builtin.Tuple.tupleCompareSizes]using o⟩
  case h =>
   exact⟨rfl,rfl,items.toList,f.toList,E,J,rfl,hi,Q,by lia,h⟩
end
section
variable {prog:yZ}{w:jG}{A:jF}{E:yL}{s:yQ}
theorem lt_tupInts{items a:yJ}{c g:yA}{Q:yL}(z:dR s.heap l items)(y:dR s.heap b a)(hi:vI items.toList c)(u:vI a.toList g)
  (t:A.units<vN) (h:Q (.bool (lexLt c g)) s):y7 (yV prog w) A (jD .Lt (.ref l) (.ref b)) Q E s:=by
 obtain⟨⟨C,r,o,v⟩,k,m,n,p⟩:=id z;obtain⟨⟨q,j,data2,i⟩,e,d,B,f⟩:=id y;simp only at m p d f;subst m p d f;exact richCompare_meets_room (op:=.Lt) ⟨_,k,rfl⟩ ⟨_,e,rfl⟩ fK lU (lJ _ _) (tuple_lt_ints l b items a n B r j v i c g hi u)
  ⟨k,e,show Value.bool (lexLt c g)≠Value.notImplemented/\Q (.bool (lexLt c g)) s from⟨(λx=>nomatch x),h⟩⟩ t
theorem cat_tup{d a:yB}{Q:yL}(ht:dR s.heap t d.toArray)(z:dR s.heap b a.toArray)(o:d≠[])
  (x:a=[]->Q (.ref t) s) (y:a≠[]->Q (.ref s.heap.objs.size) { s with heap:=s.heap.push { cls:=.type "tuple",data:=.seq (d++a).toArray } })
  (l:d.length+a.length<=jC):y7 (yV prog w) A (jP .Add (.ref t) (.ref b)) Q E s:=by
 obtain⟨⟨cls,m,data,q⟩,j,p,n,r⟩:=id ht;obtain⟨⟨v,g,data2,f⟩,c,h,u,i⟩:=id z;simp only at p r h i;subst p r h i;have e:d.toArray++a.toArray=(d++a).toArray:=by simp
 by_cases k:a=[]
 .exact uA ⟨_,j,rfl⟩ ⟨_,c,rfl⟩ lK dG fF wZ (wR _ _)
   (tuple_addW1 t b d.toArray a.toArray n u m g q f (by simpa using o) (by simp[k])) ⟨j,c,x k⟩
 .refine uA ⟨_,j,rfl⟩ ⟨_,c,rfl⟩ lK dG fF wZ (wR _ _)
   (tuple_addW2 t b d.toArray a.toArray n u m g q f (by simpa using o) (by simpa using k) (by exact l)) ⟨j,c,?_⟩
  rw[e];exact y k
def sIx(n d:Nat):yG->Nat
 |none=>d
 |some v=>if v<0 then(v+(n:Int)).toNat else min v.toNat n
theorem sIx_none(n d:Nat):sIx n d Z8=d:=rfl
theorem sIx_nat(n d k:Nat):sIx n d (Z9 (k:Int))=min k n:=rfl
theorem GF(v:Int)(n d:Nat):(if v<0 then max (v+(n:Int)) 0 else min v (n:Int))=((sIx n d (Z9 v):Nat):Int):=by
 show(if v<0 then max (v+n) 0 else min v n)=(((if v<0 then(v+n).toNat else min v.toNat n):Nat):Int)
 by_cases a:v<0
 .simp only[if_pos a];lia
 .simp only[if_neg a];lia
theorem zh(lo hi:yG)(n:Nat):Builtin.Slice.sliceAdjust lo hi 1 (n:Int)=(((sIx n 0 lo:Nat):Int),((sIx n n hi:Nat):Int)):=by
 refine Prod.ext ?_ ?_
 .cases lo with
  |none=>rfl
  |some v=>exact GF v n 0
 .cases hi with
  |none=>rfl
  |some v=>exact GF v n n
theorem zd(i j:Nat):Builtin.Slice.slicePlaces (i:Int) (j:Int) 1=j - i:=by unfold Builtin.Slice.slicePlaces;split<;>lia
theorem GE{o:yG}{Q:yG->yQ->Prop}(p:lV v o)(h:Q o s):y7 (yV prog w) A (Builtin.Slice.slicePartIndex v) Q E s:=by
 cases p with
 |none=>exact slicePart_none h
 |int i t=>exact slicePart_int h
theorem sliceApplied_gen{lo hi:yG}{Q:Int×Int×Nat->yQ->Prop}(hs:s.heap.IsSliceOf sl d c .none)(pl:lV d lo)(e:lV c hi)
  (h:Q (((sIx n 0 lo:Nat):Int),1,sIx n n hi - sIx n 0 lo) s):y7 (yV prog w) A (Builtin.Slice.sliceApplied (.ref sl) (pure (n:Int))) Q E s:=by obtain⟨g,a,f,b⟩:=id hs;refine yO (yO (vW a b (x:=d) rfl (yO (vW a b (x:=c) rfl (yO (vW a b (x:=.none) rfl (yP ?_)))))));refine yO (slicePart_none ?_);refine yO (GE pl (yO (GE e (yO (yP ?_)))));show y7 _ _ (match Builtin.Slice.sliceAdjust lo hi 1 n with|(lo,hi)=>pure (lo,(1:Int),Builtin.Slice.slicePlaces lo hi 1)) _ _ s;rw[zh lo hi n];show y7 _ _ (pure (((sIx n 0 lo):Int),1,Builtin.Slice.slicePlaces ((sIx n 0 lo):Int) ((sIx n n hi):Int) 1)) _ _ s;rw[zd];exact yP h
theorem za(xs:yJ)(i k:Nat):((List.range k).filterMap fun(m:Nat)=>xs[((i:Int)+(m:Int)*1).toNat]?).toArray=((xs.toList.drop i).take k).toArray:=by
 have e:(fun(m:Nat)=>xs[(i+(m:Int)*1).toNat]?)=λm=>xs[i+m]?:=by
  funext m;have:(i+(m:Int)*1).toNat=i+m:=by lia
  rw[this]
 rw[e];have:=pick_run xs i k;rw[List.filterMap_map]at this;have a:((λx=>xs[x]?)∘λx=>i+x)=λm=>xs[i+m]?:=rfl;rw[a]at this;rw[this]
theorem getItem_tuple_cut{items:yJ}{lo hi:yG}{Q:yL}(ht:dR s.heap t items)(hs:s.heap.IsSliceOf sl g f .none)(pl:lV g lo)(l:lV f hi)
  (m:¬(sIx items.size 0 lo=0/\sIx items.size items.size hi=items.size))
  (h:Q (.ref s.heap.objs.size) { s with heap:=s.heap.push { cls:=.type "tuple",data:=.seq ((items.toList.drop (sIx items.size 0 lo)).take (sIx items.size items.size hi - sIx items.size 0 lo)).toArray } })
  (k:items.size<=jC):y7 (yV prog w) A (gP (.ref t) (.ref sl)) Q E s:=by
 have a:=by show((items.toList.drop (sIx items.size 0 lo)).take (sIx items.size items.size hi - sIx items.size 0 lo)).toArray.size<=jC;rw[qB2,qF7,qI5,yY];omega
 obtain⟨j,e,d,i⟩:=id hs;have b:s.TypeIs (.ref sl) "slice":=⟨j,e,d⟩
 unfold gP
 try with_reducible refine jM ?_
 refine yO (wpAny_sequenceKey ht.typeIs (by decide) ?_);refine yO (jK ht.typeIs vK
  (jI vK ht.typeIs dE ?_ (args_tuple_getitem _ _)))
 show y7 _ _ (Builtin.Tuple.tupleItemsOf (.ref t) >>= _) _ _ s;refine yO (tupleItemsOf_ ht ?_);refine yO (j9 b ?_);refine yO (sliceApplied_gen hs pl l ?_);have c:¬((((sIx items.size 0 lo):Int) == 0&&(1:Int) == 1&&(sIx items.size items.size hi - sIx items.size 0 lo) == items.size)=Z7):=by intro q;rw[qC8,qC8]at q;have n:=eq_of_beq q.1.1;have o:=eq_of_beq q.2;exact m ⟨by omega,by omega⟩
 show y7 _ _ (if(((sIx items.size 0 lo):Int) == 0&&1 == 1&&(sIx items.size items.size hi - sIx items.size 0 lo) == items.size)=Z7 then _ else _) _ _ s;rw[if_neg c,za]
 first
  |exact yO (jV (yP ⟨_,rfl,yP h⟩) a)
  |exact yO (jV (yO (yP (yP ⟨_,rfl,yP h⟩))) a)
  |exact yO (yO (jV (yP (yP ⟨_,rfl,yP h⟩)) a))
  |exact yO (yO (jV (yP ⟨_,rfl,yP h⟩) a))
end
end HT
namespace L2
open PySem PySem.Spec PyProof.Rows
abbrev TO:=St->Hp->(yG->Hp->Prop)->Prop
def PO(X:Cx)(e:Option jE)(t:TO):Prop :=
 ∀(a:yD) (s:yQ) (Z:St) (H:Hp) (Q:yG->Hp->Prop),ZP X a Z H s->t Z H Q ->
  y7 (yV X.prog X.w) X.A (evalPart e X.env) (λu c=>∃o b,ZP X a Z b c/\lV u o/\Q o b) X.xe s
def y3:TO:=λ_ H Q=>Q Z8 H
def y2(t:TE):TO:=fun Z H Q=>t Z H λx a=>∃i,x=.int i/\Q (Z9 i) a
theorem SX{ns:yA}:∀{a:yB},ZO (ns.map V.int) a->vI a ns:=by
 induction ns with
 |nil=>intro a r;cases r;exact .nil
 |cons n ns c =>
  intro a r;cases r with
  |cons d b =>
   obtain⟨t,e⟩:=d;subst e;exact .cons n t (c b)
section
variable {X:Cx}{e:jE}{te:TE}{lo hi:Option jE}{tl th:TO}{pos p2:Pos}
theorem y0:PO X Z8 y3:=by intro a s Z H Q I h;exact yP ⟨Z8,H,I,.none,h⟩
theorem yz(h:PE X e te):PO X (Z9 e) (y2 te):=by intro a s Z H Q I c;refine Zq (h a s Z H _ I c) λu j ⟨x,d,b,g,f⟩=>?_;obtain⟨i,rfl,q⟩:=f;obtain⟨t,rfl⟩:=g;exact⟨Z9 i,d,b,.int i t,q⟩
def RY(X:Cx)(r:V->yG->yG->Hp->VK->Prop):Prop :=
 ∀(a:yD) (s:yQ) (Z:St) (H:Hp) (x:V) (v g f:yT) (b c:yG) (d:yR) (Q:VK),ZP X a Z H s->ZG x v->s.heap.IsSliceOf d g f .none->lV g b->lV f c->r x b c H Q ->
  ∃T id,typeLookup (.type T) "__getitem__"=pure (Z9 (.builtin id))/\s.TypeIs v T/\y7 (yV X.prog X.w) X.A (gP v (.ref d)) (EP X a Z Q) X.xe s
def yy(r:V->yG->yG->Hp->VK->Prop)(g:TE)(f a:TO):TE:=fun Z H Q=>g Z H λx b=>f Z b λl d=>a Z d λu c=>r x l u c Q
theorem yx(C:RY X r)(he:PE X e te)(A:PO X lo tl)(k:PO X hi th):PE X (.Subscript e (.Slice lo hi Z8 p2) pos) (yy r te tl th):=by intro a s Z H Q I h;refine Subscript_ (Zq (he a s Z H _ I h) λv p ⟨x,m,E,G,i⟩=>?_);refine wpAny_Slice (Zq (A a p Z m _ E i) λf w ⟨l,B,o,pl,y⟩=>Zq (k a w Z B _ o y) λd c ⟨u,g,D,z,j⟩=>?_);refine yP ?_;have F:ZP X a Z g { c with heap:=c.heap.push { cls:=.type "slice",data:=.fields #[f,d,.none] } }:=D.kept (t':=c.toks) λb J q=>qA3 _ q;obtain⟨T,id,n,ht,t⟩:=C a { c with heap:=c.heap.push { cls:=.type "slice",data:=.fields #[f,d,.none] } } Z g x v f d l u c.heap.objs.size Q F G (Heap.IsSliceOf.new ..) pl z j;exact tail_any ht n t (by with_unfolding_all rfl)
def W4(xs:List V)(lo hi:yG):List V:=(xs.drop (HT.sIx xs.length 0 lo)).take (HT.sIx xs.length xs.length hi - HT.sIx xs.length 0 lo)
theorem GD(xs:List V)(lo hi:yG):(W4 xs lo hi).length<=xs.length:=by
 unfold W4;rw[qF7,qI5]
 lia
def Ma(K:yS):V->yG->yG->Hp->VK->Prop:=λx c d H Q=>∃a b,x=.ref a/\Zp K H a b /\
 ¬(HT.sIx b.length 0 c=0/\HT.sIx b.length b.length d=b.length)/\∀p,H p=Z8->Q (.ref p) (ZC H p (.tup (W4 b c d)))
theorem yw:RY X (Ma X.K):=by
 intro k s Z H x v y w f i u Q I m l pl o h;obtain⟨a,d,rfl,n,p,q⟩:=h;cases m;obtain⟨g,r,ht,j⟩:=I.tuple n;have c:g.toArray.size=d.length:=by exact r.length.symm
 refine⟨"tuple",_,PyProof.Rows.slot_tuple_getitem.lookup,ht.typeIs,?_⟩;refine HT.getItem_tuple_cut ht l pl o (by rw[c];exact p) ?_ (by rw[c];exact j);rw[c];refine⟨.ref s.heap.objs.size,_,I.laid (t':=s.toks) (λb t q=>qA3 _ q) (qA7 _) ?_,rfl,q _ (I.hok.fresh (qA7 _))⟩;exact⟨qD4 (GD d f i) j,_,(r.drop (HT.sIx d.length 0 f)).take (HT.sIx d.length d.length i - HT.sIx d.length 0 f),IsTup.new _ _⟩
def L9(K:yS):R2:=λx y H Q=>∃a b c d,x=.ref a/\y=.ref b/\Zp K H a (c.map V.int)/\Zp K H b (d.map V.int)/\Q (.bl (HT.lexLt c d)) H
theorem yv(j:X.A.units<vN):YY X (jD .Lt) (L9 X.K):=by intro c s Z H x y v u Q I g t h;obtain⟨a,b,i,o,rfl,rfl,l,m,q⟩:=h;cases g;cases t;obtain⟨w,r,n,_⟩:=I.tuple l;obtain⟨d,f,p,_⟩:=I.tuple m;have z:=SX r;have k:=SX f;exact HT.lt_tupInts n p z k j ⟨.bl (HT.lexLt i o),H,I,rfl,q⟩
def yu(K:yS):R2:=λx y H Q=>∃a b d c,x=.ref a/\y=.ref b/\Zp K H a d/\Zp K H b c/\d≠[]/\d.length+c.length<=jC /\
 (c=[]->Q (.ref a) H)/\(c≠[]->∀p,H p=Z8->Q (.ref p) (ZC H p (.tup (d++c))))
theorem ZO.nil_iff(r:ZO xs a):a=[]↔xs=[]:=by
 cases r with
 |nil=>simp
 |cons _ _=>simp
theorem yt:YY X (jP .Add) (yu X.K):=by intro g s Z H x y v u Q I j t h;obtain⟨a,b,D,C,rfl,rfl,n,o,l,f,k,m⟩:=h;cases j;cases t;obtain⟨A,d,p,_⟩:=I.tuple n;obtain⟨i,c,r,_⟩:=I.tuple o;refine HT.cat_tup p r (λz=>l (d.nil_iff.mp z)) (λz=>⟨.ref a,H,I,rfl,k (c.nil_iff.mp z)⟩) (λz=>?_) (by rw[<- d.length,<- c.length];exact f);refine⟨.ref s.heap.objs.size,_,I.laid (t':=s.toks) (λb B q=>qA3 _ q) (qA7 _) ?_,rfl,m (λw=>z (c.nil_iff.mpr w)) _ (I.hok.fresh (qA7 _))⟩;exact⟨by rw[qC2];exact f,_,d.append c,IsTup.new _ _⟩
end
def Wu(n:Nat)(i:Int):yK:=if 0<=i then(if i<n then Z9 i.toNat else Z8)else if -(n:Int)<=i then Z9 (i+n).toNat else Z8
def Yk{α:Type}(xs:List α)(i:Int):Option α:=(Wu xs.length i).bind λj=>xs[j]?
theorem GC(h:Wu n i=Z9 j):seqIndex? i n=Z9 j/\j<n/\-(n:Int)<=i/\i<n:=by
 unfold Wu at h;by_cases b:0<=i
 .rw[if_pos b]at h;by_cases a:i<n
  .rw[if_pos a]at h;have e:=Option.some.inj h;exact⟨by rw[uK b a,e],by lia,by lia,a⟩
  .rw[if_neg a]at h;cases h
 .rw[if_neg b]at h;by_cases a:-n<=i
  .rw[if_pos a]at h;have e:=Option.some.inj h;exact⟨by rw[uB (by lia) a,e],by lia,a,by lia⟩
  .rw[if_neg a]at h;cases h
theorem GB{v:α}(h:Yk xs i=Z9 v):∃j,seqIndex? i xs.length=Z9 j/\xs[j]?=Z9 v/\j<xs.length/\-(xs.length:Int)<=i/\i<xs.length:=by
 unfold Yk at h;cases e:Wu xs.length i with
 |none=>rw[e]at h;cases h
 |some j =>
  rw[e]at h;obtain⟨b,d,c,a⟩:=GC e;exact⟨j,b,h,d,c,a⟩
theorem Vz{j:Nat}{v:α}(h:xs[j]?=Z9 v):Yk xs (j:Int)=Z9 v:=by
 have a:=(qA4.mp h).1;have e:Wu xs.length j=Z9 j:=by unfold Wu;rw[if_pos (by lia),if_pos (by lia)];simp
 unfold Yk;rw[e];exact h
theorem zGr(xs:List α)(v:α):Yk (xs++[v]) (-1)=Z9 v:=by
 have a:(xs++[v]).length=xs.length+1:=by simp
 have e:Wu (xs++[v]).length (-1)=Z9 xs.length:=by
  unfold Wu;rw[a,if_neg (by decide),if_pos (by lia)];congr 1
  lia
 unfold Yk;rw[e];simp
def L8(b:jE):Prop:=∀o i,uL b Z5 o i=operate [o,i] (gP o i)
def RX(X:Cx)(r:R2):Prop :=
 ∀(c a:jE) (b:yD) (s:yQ) (Z:St) (H:Hp) (x y:V) (v u:yT) (Q:VK),ZP X b Z H s->ZG x v->ZG y u->r x y H Q ->
  uL a Z5 v u=operate [v,u] (gP v u)->y7 (yV X.prog X.w) X.A (subscriptTail c a v u) (EP X b Z Q) X.xe s
def RW(X:Cx)(id:String)(r:V->List V->Hp->VK->Prop):Prop :=
 ∀(a:yD) (s:yQ) (Z:St) (H:Hp) (x:V) (c:List V) (v:yT) (b:yB) (Q:VK),ZP X a Z H s->ZG x v->ZO c b->r x c H Q ->
  y7 (yV X.prog X.w) X.A (call (.builtin id) (v::b)) (EP X a Z Q) X.xe s
section
variable {X:Cx}{a b:jE}{ta tb:TE}{pos:Pos}
theorem yr(k:RX X r)(g:PE X a ta)(i:PE X b tb)(hs:L8 b):PE X (.Subscript a b pos) (QV r ta tb):=by intro c s Z H Q I h;exact Subscript_ (SZ g i I h λv u f x y j e d l q=>k a b c f Z j x y v u Q e d l q (hs _ _))
def L7(K:yS):R2:=λx y H Q=>∃p c i v,x=.ref p/\y=.int i/\YK K H p c/\Yk c i=Z9 v/\Q v H
def L6(K:yS):R2:=λx y H Q=>∃p c i v,x=.ref p/\y=.int i/\Zp K H p c/\Yk c i=Z9 v/\Q v H
theorem yq:RX X (L7 X.K):=by
 intro f g c s Z H x y v u Q I B J h m;obtain⟨p,L,i,z,rfl,rfl,C,G,q⟩:=h;cases B;obtain⟨t,rfl⟩:=J;obtain⟨l,r,pl,K⟩:=I.list C;obtain⟨j,d,E,M,D,A⟩:=GB G;obtain⟨w,n,e⟩:=r.get E;have F:=r.length;have N:=QS;have fin:EP X c Z Q w s:=⟨z,H,I,e,q⟩
 by_cases o:0<=i
 .have k:=by rw[uK o A]at d;exact Option.some.inj d
  exact item_listR pl.isList o (by lia) (by rw[k];simpa using n) fin m
 .have k:(i+l.toArray.size).toNat=j:=by rw[uB (by lia) D]at d;rw[qB2,<- F];exact Option.some.inj d
  exact lW pl.isList.typeIs slot_list_getitem.lookup
   (wpAny_getItem_list_neg pl.isList (by lia) (by rw[qB2]<;>lia) (by lia) (by rw[k];simpa using n) ⟨rfl,fin⟩) m
theorem yp:RX X (L6 X.K):=by
 intro e f c s Z H x y v u Q I m C h k;obtain⟨p,J,i,z,rfl,rfl,n,B,q⟩:=h;cases m;obtain⟨t,rfl⟩:=C;obtain⟨D,r,pl,G⟩:=I.tuple n;obtain⟨j,g,o,K,F,E⟩:=GB B;obtain⟨w,l,d⟩:=r.get o;have A:=r.length;have L:=QS;have fin:EP X c Z Q w s:=⟨z,H,I,d,q⟩
 exact lW pl.typeIs slot_tuple_getitem.lookup
  (getItem_tuple pl (by lia) (by lia) (by rw[qB2,<- A];exact g) (by simpa using l) ⟨rfl,fin⟩) k
theorem yo(c:yB)(n j:Nat)(u:yT):vA (·.setIfInBounds j u) { cls:=.type "list",data:=.seq c.toArray n }={ cls:=.type "list",data:=.seq (c.set j u).toArray n }:=by simp[vA]
theorem ZP.lst{Z:St}(I:ZP X d Z H s)(h:H p=Z9 (.lst xs)):
  ∃(c:yB) (n:Nat),ZO xs c/\s.heap.get? p=Z9 { cls:=.type "list",data:=.seq c.toArray n }/\xs.length<=sizeLine:=by obtain⟨z,c,n,r,e⟩:=I.hok p _ h;exact⟨c,n,r,e,z⟩
theorem ZP.lstUpd{Z:St}{d its':yB}(I:ZP X c Z H s)(h:H p=Z9 (.lst xs))
  (j:s.heap.get? p=Z9 { cls:=.type "list",data:=.seq d.toArray n }) (i:f { cls:=.type "list",data:=.seq d.toArray n }={ cls:=.type "list",data:=.seq its'.toArray g }) (r:ZO ys its') (hz:ys.length<=jC) (t:Nat) :
  ZP X c Z (ZC H p (.lst ys)) { s with heap:=s.heap.update p f,toks:=t }:=by
 have e:(s.heap.update p f).get? p=Z9 { cls:=.type "list",data:=.seq its'.toArray g }:=by rw[qF9 f j (by rw[i]<;>rfl),i]
 refine I.write (by rw[h];trivial) (.inl rfl) (λb u k q=>(qF3 _ _ (Ne.symm k)).trans q) ⟨_,e⟩ ?_;exact⟨hz,its',g,r,e⟩
def yn:V->V->V->Hp->(Hp->Prop)->Prop:=λo i v H Q=>∃p c k j,o=.ref p/\i=.int k/\H p=Z9 (.lst c)/\Wu c.length k=Z9 j/\Q (ZC H p (.lst (c.set j v)))
theorem ym:V2 X yn:=by
 intro l s Z H o i v E G u Q I D z B h;obtain⟨p,J,k,j,rfl,rfl,x,C,q⟩:=h;cases D;obtain⟨t,rfl⟩:=z;obtain⟨c,n,r,e,A⟩:=I.lst x;obtain⟨d,F,y,g⟩:=GC C;have f:=r.length;have K:=QS;have w :=
  I.lstUpd x e (yo c n j u) (r.set B j) (by rw[qJ2];exact A) s.toks
 by_cases m:0<=k
 .have hk:=by rw[uK m g]at d;exact Option.some.inj d
  exact W.ki_setAt e m (by lia) (by rw[qB2,<- f];exact g) (by rw[hk];exact⟨_,w,q⟩)
 .have hk:(k+c.toArray.size).toNat=j:=by rw[uB (by lia) y]at d;rw[qB2,<- f];exact Option.some.inj d
  exact W.ki_setBack e (by lia) (by rw[qB2,<- f];exact y) (by lia) (by rw[hk];exact⟨_,w,q⟩)
theorem yj(lo hi:yG)(n:Nat):(fA lo hi Z8 n).1=((HT.sIx n 0 lo:Nat):Int)/\(fA lo hi Z8 n).2.1=((HT.sIx n n hi:Nat):Int)/\(fA lo hi Z8 n).2.2=1:=by
 refine⟨?_,?_,rfl⟩
 .cases lo with
  |none=>simp[fA,HT.sIx]
  |some i =>
   simp only[fA,HT.sIx,qT9,show(1:Int)>0 by decide,if_true];by_cases h:i<0
   .simp only[h,if_true]<;>lia
   .simp only[h,if_false]<;>lia
 .cases hi with
  |none=>simp[fA,HT.sIx]
  |some i =>
   simp only[fA,HT.sIx,qT9,show(1:Int)>0 by decide,if_true];by_cases h:i<0
   .simp only[h,if_true]<;>lia
   .simp only[h,if_false]<;>lia
theorem yi(c:yB)(lo hi:yG):slicePick c.toArray lo hi Z8=((c.drop (HT.sIx c.length 0 lo)).take (HT.sIx c.length c.length hi - HT.sIx c.length 0 lo)).toArray:=by obtain⟨d,f,e⟩:=yj lo hi c.toArray.size;unfold slicePick;rw[d,f,e];simp only[sliceRange_one,pick_run]<;>rfl
def L5(K:yS):V->yG->yG->Hp->VK->Prop:=λx d e H Q=>∃a c,x=.ref a/\YK K H a c/\∀p,H p=Z8->Q (.ref p) (ZC H p (.lst (W4 c d e)))
theorem yh:RY X (L5 X.K):=by intro g s Z H x v u t e f p Q I j i pl m h;obtain⟨a,d,rfl,k,q⟩:=h;cases j;obtain⟨n,r,ht,l⟩:=I.list k;have c:=r.length;refine⟨"list",_,slot_list_getitem.lookup,ht.isList.typeIs,?_⟩;refine wpAny_getItem_list_slice ht.isList i pl m .none (by simp) ?_ (by rw[qB2]<;>lia);rw[yi,<- c];refine⟨.ref s.heap.objs.size,_,I.laid (t':=s.toks) (λb o q=>qA3 _ q) (qA7 _) ?_,rfl,q _ (I.hok.fresh (qA7 _))⟩;exact⟨qD4 (GD d e f) l,_,0,(r.drop (HT.sIx d.length 0 e)).take (HT.sIx d.length d.length f - HT.sIx d.length 0 e),qA9 _ rfl⟩
def UY:V->Bool
 |.non=>Z7
 |.bl _=>Z7
 |.int _=>Z7
 |.str _=>Z7
 |_=>Z5
def UX:V->V->Bool
 |.non,.non=>Z7
 |.bl a,.bl b=>a == b
 |.bl a,.int b=>(if a then 1 else 0) == b
 |.int a,.bl b=>a == (if b then 1 else 0)
 |.int a,.int b=>a == b
 |.str a,.str b=>a == b
 |_,_=>Z5
theorem yg(f:ZG y u)(c:ZG x v)(g:UY y=Z7)(e:UY x=Z7):SeqAt.EqAt A s u v (UX y x):=by
 cases y with
 |non =>
  cases f;cases x with
  |non=>cases c;exact SeqAt.EqAt.same _
  |bl b=>cases c;exact SeqAt.EqAt.none_bool b
  |int b=>obtain⟨t,rfl⟩:=c;exact SeqAt.EqAt.none_int b t
  |str b=>obtain⟨t,rfl⟩:=c;exact SeqAt.EqAt.none_str b t
  |_=>exact absurd (show Z5=Z7 from e) qB4
 |bl a =>
  cases f;cases x with
  |non=>cases c;exact SeqAt.EqAt.bool_none a
  |bl b=>cases c;exact SeqAt.EqAt.bool_bool a b
  |int b=>obtain⟨t,rfl⟩:=c;exact SeqAt.EqAt.bool_int a b t
  |str b=>obtain⟨t,rfl⟩:=c;exact SeqAt.EqAt.bool_str a b t
  |_=>exact absurd (show Z5=Z7 from e) qB4
 |int a =>
  obtain⟨d,rfl⟩:=f;cases x with
  |non=>cases c;exact SeqAt.EqAt.int_none a d
  |bl b=>cases c;exact SeqAt.EqAt.int_bool a d b
  |int b=>obtain⟨t,rfl⟩:=c;exact SeqAt.EqAt.int_int a d b t
  |str b=>obtain⟨t,rfl⟩:=c;exact SeqAt.EqAt.int_str a d b t
  |_=>exact absurd (show Z5=Z7 from e) qB4
 |str a =>
  obtain⟨d,rfl⟩:=f;cases x with
  |non=>cases c;exact SeqAt.EqAt.str_none a d
  |bl b=>cases c;exact SeqAt.EqAt.str_bool a d b
  |int b=>obtain⟨t,rfl⟩:=c;exact SeqAt.EqAt.str_int a d b t
  |str b=>obtain⟨t,rfl⟩:=c;exact SeqAt.EqAt.str_str a d b t
  |_=>exact absurd (show Z5=Z7 from e) qB4
 |_=>exact absurd (show Z5=Z7 from g) qB4
def Wt(x:V)(u:yT):Bool:=match u with
 |.none=>UX .non x
 |.bool b=>UX (.bl b) x
 |.int i _=>UX (.int i) x
 |.str z _=>UX (.str z) x
 |_=>Z5
theorem GA(r:ZG y u)(f:UY y=Z7):Wt x u=UX y x:=by
 cases y with
 |non=>cases r;rfl
 |bl b=>cases r;rfl
 |int i=>obtain⟨t,rfl⟩:=r;rfl
 |str z=>obtain⟨t,rfl⟩:=r;rfl
 |_=>exact absurd (show Z5=Z7 from f) qB4
theorem QQ{x:V}:∀{xs:List V}{c:yB},ZO xs c->xs.all UY=Z7->c.any (Wt x)=xs.any λy=>UX y x
 |_,_,.nil,_=>rfl
 |y::xs,u::c,.cons r t,f=>by rw[qK9,qC8]at f;rw[qG8,qG8,GA r f.1,QQ t f.2]
theorem QP{A:jF}{s:yQ}{x:V}{v:yT}(g:ZG x v)(e:UY x=Z7):∀{xs:List V}{d:yB},ZO xs d->xs.all UY=Z7->∀u∈d,SeqAt.EqAt A s u v (Wt x u)
 |_,_,.nil,_=>λu c=>by cases c
 |y::xs,u::d,.cons r t,f=>λh c=>by
  rw[qK9,qC8]at f;rcases qB0.mp c with rfl|c
  .rw[GA r f.1];exact yg r g f.1 e
  .exact QP g e t f.2 h c
def T2(x:V)(xs:List V):Bool:=xs.any λy=>UX y x
def L4(K:yS)(neg:Bool):R2:=λx y H Q=>∃p c,y=.ref p/\(YK K H p c∨Zp K H p c)/\UY x=Z7/\c.all UY=Z7/\Q (.bl (if neg then !T2 x c else T2 x c)) H
theorem yf:YY X (jD .In) (L4 X.K Z5):=by
 intro i s Z H x y v u Q I g k h;obtain⟨p,l,rfl,d,f,fs,q⟩:=h;cases k;rcases d with d|d
 .obtain⟨c,r,pl,j⟩:=I.list d;refine SeqAt.in_listAt (Wt x) pl.isList (λw e=>QP g f r fs w (by simpa using e)) ⟨.bl _,H,I,rfl,?_⟩;rw[show c.toArray.any (Wt x)=c.any (Wt x) by simp,QQ r fs];exact q
 .obtain⟨c,r,pl,j⟩:=I.tuple d;refine SeqAt.in_tupleAt (Wt x) pl (λw e=>QP g f r fs w (by simpa using e)) ⟨.bl _,H,I,rfl,?_⟩;rw[show c.toArray.any (Wt x)=c.any (Wt x) by simp,QQ r fs];exact q
theorem ye:YY X (jD .NotIn) (L4 X.K Z7):=by
 intro i s Z H x y v u Q I g k h;obtain⟨p,l,rfl,d,f,fs,q⟩:=h;cases k;rcases d with d|d
 .obtain⟨c,r,pl,j⟩:=I.list d;refine SeqAt.notIn_listAt (Wt x) pl.isList (λw e=>QP g f r fs w (by simpa using e)) ⟨.bl _,H,I,rfl,?_⟩;rw[show c.toArray.any (Wt x)=c.any (Wt x) by simp,QQ r fs];exact q
 .obtain⟨c,r,pl,j⟩:=I.tuple d;refine SeqAt.notIn_tupleAt (Wt x) pl (λw e=>QP g f r fs w (by simpa using e)) ⟨.bl _,H,I,rfl,?_⟩;rw[show c.toArray.any (Wt x)=c.any (Wt x) by simp,QQ r fs];exact q
theorem yd:YB X (.builtin "len") (λxs H Q=>∃p ys,xs=[.ref p]/\(YK X.K H p ys∨Zp X.K H p ys)/\Q (.int ys.length) H):=by
 intro g s Z H xs k Q I r h;obtain⟨p,ys,rfl,d,q⟩:=h;obtain⟨u,rfl,i⟩:=XS r;cases i;have l:=QS;rcases d with d|d
 .obtain⟨f,e,pl,j⟩:=I.list d;have c:=e.length;exact Calls.call_len_list pl.isList (by simp only[qB2]<;>lia) ⟨.int ys.length,H,I.tok _,⟨s.toks+1,by rw[qB2,c]⟩,q⟩
 .obtain⟨f,e,pl,j⟩:=I.tuple d;have c:=e.length;exact len_tuple pl (by simp only[qB2]<;>lia) ⟨.int ys.length,H,I.tok _,⟨s.toks+1,by rw[qB2,c]⟩,q⟩
theorem yc:YB X (.builtin "len") (λxs H Q=>∃z,xs=[.str z]/\z.length<=jC/\Q (.int z.length) H):=by intro c s Z H xs f Q I r h;obtain⟨z,rfl,d,q⟩:=h;obtain⟨u,rfl,t,rfl⟩:=XS r;have e:=QS;exact len_str (by lia) ⟨.int z.length,H,I.tok _,⟨_,rfl⟩,q⟩
theorem yb:YB X (.type "list") (λxs H Q=>∃p ys,xs=[.ref p]/\(YK X.K H p ys∨Zp X.K H p ys)/\∀l,H l=Z8->Q (.ref l) (ZC H l (.lst ys))):=by
 intro k s Z H xs z Q I r h;obtain⟨p,ys,rfl,m,q⟩:=h;obtain⟨u,rfl,y⟩:=XS r;cases y;have fin:∀c,ZO ys c->ys.length<=jC->∀d g,(∀b x,s.heap.get? b=Z9 x->d.get? b=Z9 x) ->
   d.get? s.heap.objs.size=Z9 { cls:=.type "list",dict:=Z8,data:=.seq c.toArray g,slots:=#[] }->EP X k Z Q (.ref s.heap.objs.size) { s with heap:=d }:=λc f j d g kp e =>
  ⟨.ref s.heap.objs.size,_,I.laid (t':=s.toks) kp (qA7 _) (show W8 X.prog X.w _ d _ (.lst ys)from⟨j,c,g,f,e⟩),rfl,q _ (I.hok.fresh (qA7 _))⟩
 rcases m with m|m
 .obtain⟨c,f,pl,j⟩:=I.list m;have i:=f.length;obtain⟨o,t,v,n,w⟩:=pl.isList;exact call_list_seq p (.inl rfl) t v w (λd g kp e=>fin c f j d g kp e) (by simp only[qB2]<;>lia)
 .obtain⟨c,f,pl,j⟩:=I.tuple m;have i:=f.length;obtain⟨o,t,v,n,w⟩:=pl;exact call_list_seq p (.inr rfl) t v w (λd g kp e=>fin c f j d g kp e) (by simp only[qB2]<;>lia)
theorem Gz:YB X (.type "tuple") (λxs H Q=>∃p ys,xs=[.ref p]/\((YK X.K H p ys/\∀l,H l=Z8->Q (.ref l) (ZC H l (.tup ys)))∨(Zp X.K H p ys/\Q (.ref p) H))):=by
 intro j s Z H xs v Q I r h;obtain⟨p,ys,rfl,h⟩:=h;obtain⟨u,rfl,m⟩:=XS r;cases m;rcases h with⟨f,q⟩| ⟨f,q⟩
 .obtain⟨c,d,pl,i⟩:=I.list f;have g:=d.length;refine call_tuple_list pl.isList (λt kp=>?_) (by simp only[qB2]<;>lia);have k:=I.kept (t':=s.toks) kp;have n :=
   k.laid (t':=s.toks) (λb o e=>qA3 _ e) (qA7 _) (show W8 X.prog X.w _ _ _ (.tup ys)from⟨i,c,d,IsTup.new _ _⟩)
  exact⟨.ref t.objs.size,_,n,rfl,q _ (k.hok.fresh (qA7 _))⟩
 .obtain⟨c,d,pl,i⟩:=I.tuple f;exact call_tuple_same pl ⟨.ref p,H,I,rfl,q⟩
def OK(K:yS)(T:String)(x:V)(H:Hp):Prop:=match x with
 |.str _=>T = "str"
 |.int _=>T = "int"
 |.ref p=>(T = "list"/\∃d,YK K H p d)∨(T = "tuple"/\∃o,K.lookup p=Z9 o/\o.cls=.type "tuple"/\o.dict=Z8) ∨
   (T = "dict"/\((∃c,H p=Z9 (.dK c))∨∃c,H p=Z9 (.dT c)))∨(T = "set"/\∃S n,H p=Z9 (.set S n))
 |_=>False
theorem Gy{Z:St}(I:ZP X d Z H s)(r:ZG x v)(ty:OK X.K T x H):
  s.TypeIs v T/\∀a,v=.ref a->∃j,s.heap.get? a=Z9 j/\j.dict=Z8:=by
 cases x with
 |str z =>
  obtain⟨t,rfl⟩:=r;cases (show T = "str" from ty);exact⟨typeIs_str s z t,λ_ e=>nomatch e⟩
 |int i =>
  obtain⟨t,rfl⟩:=r;cases (show T = "int" from ty);exact⟨typeIs_int s i t,λ_ e=>nomatch e⟩
 |ref p =>
  cases r;rcases ty with⟨rfl,q,l⟩| ⟨rfl,o,hk,k,f⟩| ⟨rfl,hk⟩| ⟨rfl,S,n,hk⟩
  .obtain⟨m,_,pl,_⟩:=I.list l;refine⟨pl.isList.typeIs,λa e=>?_⟩;cases e;obtain⟨o,n,e,c,f,_⟩:=pl;exact⟨o,e,f⟩
  .refine⟨⟨o,I.kIn p o hk,k⟩,λa e=>?_⟩;cases e;exact⟨o,I.kIn _ o hk,f⟩
  .have z:∃o,s.heap.get? p=Z9 o/\o.ExactDict:=by
    rcases hk with⟨h,hk⟩| ⟨h,hk⟩
    .obtain⟨_,_,_,_,o,_,_,e,ex,_⟩:=I.hok p _ hk;exact⟨o,e,ex⟩
    .obtain⟨_,_,_,_,o,_,_,e,ex,_⟩:=I.hok p _ hk;exact⟨o,e,ex⟩
   obtain⟨o,e,ex⟩:=z;refine⟨⟨o,e,ex.1⟩,λa g=>?_⟩;cases g;exact⟨o,e,ex.2.1⟩
  .obtain⟨o,_,_,_,e,ex,_⟩:=I.hok p _ hk;refine⟨⟨o,e,ex.1⟩,λa g=>?_⟩;cases g;exact⟨o,e,ex.2.1⟩
 |_=>exact False.elim ty
def L3(K:yS)(T:String)(r:V->List V->Hp->VK->Prop)(d:TE):TE:=fun Z H Q=>d Z H λx c=>OK K T x c/\r x [] c Q
def ya(K:yS)(T:String)(r:V->List V->Hp->VK->Prop)(d:TE)(t:TA):TE:=fun Z H Q=>d Z H λx c=>OK K T x c/\t Z c λf e=>r x f e Q
variable {o e:jE}{es:yE}{to:TE}{t:TA}{name:Str}{apos cpos:Pos}{T id:String}{r:V->List V->Hp->VK->Prop}
theorem x8(w:dO T)(g:Slot T name id)(i:typeOf (.builtin id)=pure (.type "method_descriptor"))(hm:RW X id r)(m:PE X o to)
  (d:wS o name X.env (v7 o X.env)=v7 o X.env:=by rfl) (f:(apos.endLine == cpos.line)=Z7:=by rfl):PE X (.Call (.Attribute o name apos) [] [] cpos) (L3 X.K T r to):=by intro c s Z H Q I h;refine wpAny_Call_method0_late d f (Zq (m c s Z H _ I h) λv u ⟨x,q,j,k,ty,n⟩=>?_);obtain⟨l,p⟩:=Gy j k ty;exact⟨T,id,w,g,i,l,p,lX rfl (PySem.evalArgs_none (hm c u Z q x [] v [] Q j k .nil n))⟩
theorem xZ(D:dO T)(i:Slot T name id)(k:typeOf (.builtin id)=pure (.type "method_descriptor"))(hm:RW X id r)(q:PE X o to)(G:PA X (e::es) t)
  (f:wS o name X.env (v7 o X.env)=v7 o X.env:=by rfl)
  (j:((wV cpos (jL (e::es) X.env)).all (λx=>!x.1)&&(backToKw cpos (mW [] X.env)).all (λx=>x.1.isSome)
   && decide ((e::es).length+([]:List lY).length+(if([]:List lY).isEmpty then 0 else 1)<30))=Z7:=by rfl)
  (g:(apos.endLine == cpos.line)=Z7:=by rfl) (hs:jL (e::es) X.env=(Z5,v7 e X.env)::jL es X.env:=by rfl) (d:(wV cpos (jL es X.env)).any (·.1)=Z5:=by rfl) :
  PE X (.Call (.Attribute o name apos) (e::es) [] cpos) (ya X.K T r to t):=by intro c s Z H Q I h;refine wpAny_Call_method_late f j g rfl (Zq (q c s Z H _ I h) λv C ⟨x,z,m,n,ty,w⟩=>?_);obtain⟨p,y⟩:=Gy m n ty;refine⟨T,id,D,i,k,p,y,?_⟩;have l:=G cpos c C Z z _ m w;rw[hs]at l ⊢;refine lX (by show(Z5||(wV cpos (jL es X.env)).any (·.1))=Z5;rw[d]<;>rfl) (Calls.evalArgs_plain ?_);exact Zq l λA E ⟨K,J,B,u,F⟩=>hm c E Z J x K v A Q B n u F
end
def RU(X:Cx)(id:String)(r:V->List V->Hp->VK->Prop):Prop :=
 ∀(a:yD) (s:yQ) (Z:St) (H:Hp) (x:V) (c:List V) (v:yT) (b:yB) (Q:VK),ZP X a Z H s->ZG x v->ZO c b->r x c H Q ->
  y7 (yV X.prog X.w) X.A (call (.builtin id) (v::b)) (EP X a Z Q) X.xe s
theorem ZO.cinv:∀{a:yB},ZO (x::xs) a->∃u r,a=u::r/\ZG x u/\ZO xs r
 |_,.cons r t=>⟨_,_,rfl,r,t⟩
theorem ZO.ninv:∀{a:yB},ZO [] a->a=[]
 |_,.nil=>rfl
theorem ZO.one(h:ZO [x] b):∃u,b=[u]/\ZG x u:=by obtain⟨u,r,rfl,a,t⟩:=h.cinv;rw[t.ninv];exact⟨u,rfl,a⟩
theorem ZO.two(h:ZO [x,y] c):∃u v,c=[u,v]/\ZG x u/\ZG y v:=by obtain⟨u,r,rfl,a,t⟩:=h.cinv;obtain⟨v,rfl,b⟩:=t.one;exact⟨u,v,rfl,a,b⟩
theorem ZO.zero:∀{a:yB},ZO [] a->a=[]
 |_,.nil=>rfl
theorem ZO.dropLast(h:ZO xs a):ZO xs.dropLast a.dropLast:=by
 induction h with
 |nil=>exact .nil
 |cons r t b =>
  cases t with
  |nil=>exact .nil
  |cons q c=>exact .cons r b
section
variable {X:Cx}{pins:yD}{Z:St}{H:Hp}{s:yQ}{l b:yR}{xs ys zs:List V}
theorem ZP.lset{a its':yB}{f:yJ->yJ}(I:ZP X pins Z H s)(c:H l=Z9 (.lst xs))
  (e:s.heap.get? l=Z9 { cls:=.type "list",data:=.seq a.toArray n }) (i:f a.toArray=its'.toArray) (d:ZO ys its') (hz:ys.length<=jC) :
  ZP X pins Z (ZC H l (.lst ys)) { s with heap:=s.heap.update l (vA f),toks:=t' }:=by have q:=PySem.IsL.update e f;rw[i]at q;refine I.write (by rw[c];exact trivial) (.inl rfl) (λj u h g=>(qF3 s.heap (vA f) (Ne.symm h)).trans g) ⟨_,q⟩ ?_;exact⟨hz,its',_,d,q⟩
theorem ZP.lnew(I:ZP X pins Z H s)(c:ZO ys a)(hz:ys.length<=jC):
  ZP X pins Z (ZC H s.heap.objs.size (.lst ys)) { s with heap:=s.heap.push { cls:=.type "list",data:=.seq a.toArray },toks:=t' } :=
 I.laid (λ_ _ q=>qA3 _ q) (qA7 _) ⟨hz,a,0,c,qA9 _ rfl⟩
theorem ZP.fresh(I:ZP X pins Z H s):H s.heap.objs.size=Z8:=I.hok.fresh (qA7 _)
theorem ZP.lstM(I:ZP X pins Z H s)(c:H l=Z9 (.lst xs)):xs.length<=jC/\∃(a:yB) (n:Nat),ZO xs a/\xs.length=a.length/\s.heap.get? l=Z9 { cls:=.type "list",data:=.seq a.toArray n }:=by obtain⟨z,a,n,r,e⟩:=I.hok l _ c;exact⟨z,a,n,r,r.length,e⟩
theorem Gx(h:n<=jC):Builtin.List.listTooLong n=Z5:=by exact decide_eq_false (by lia)
end
section
variable {X:Cx}
def xY:V->List V->Hp->VK->Prop:=λx b H Q=>∃l a y,x=.ref l/\b=[y]/\H l=Z9 (.lst a)/\a.length<jC/\Q .non (ZC H l (.lst (a++[y])))
theorem Gw:RU X "list.append" xY:=by
 intro c s Z H x o v j Q I d f h;obtain⟨l,m,y,rfl,rfl,b,i,q⟩:=h;cases d;obtain⟨u,rfl,g⟩:=f.one;obtain⟨z,a,n,r,k,e⟩:=I.lstM b;refine fO F.slot_list_append ⟨_,e,rfl⟩ F.entry_list_append (F.args_list_append_2 _ _) (PySem.list_append l a.toArray n u (by rw[qB2];lia)) ⟨e,?_⟩;refine⟨.non,_,I.lset (its':=a++[u]) b e (by simp) (r.append (.cons g .nil)) ?_,rfl,q⟩;rw[qC2,qR4]
 lia
def xX:V->List V->Hp->VK->Prop:=λx d H Q=>∃l b c a,x=.ref l/\d=[.ref b]/\H l=Z9 (.lst c)/\H b=Z9 (.lst a)/\c.length+a.length<=jC/\Q .non (ZC H l (.lst (c++a)))
theorem xW:RU X "list.extend" xX:=by
 intro i s Z H x J v B Q I m p h;obtain⟨l,b,D,G,rfl,rfl,g,o,A,q⟩:=h;cases m;obtain⟨u,rfl,t⟩:=p.one;cases t;obtain⟨z,c,n,r,C,e⟩:=I.lstM g;obtain⟨E,a,w,k,j,y⟩:=I.lstM o;have f:c.toArray.size+a.toArray.size<=sizeLine:=by rw[qB2,qB2];lia
 have d:¬(!c.toArray.isEmpty&&Builtin.List.listTooLong (c.toArray.size+a.toArray.size))=Z7:=by rw[Gx f,qV4];exact qB4
 refine fO F.slot_list_extend ⟨_,e,rfl⟩ F.entry_list_extend (F.args_list_extend_2 _ _)
  (AutoSeq1.list_extend_list_list_0 l c.toArray n b a.toArray w d (by lia) (by lia)) ⟨e,y,?_⟩
 refine⟨.non,_,I.lset (its':=c++a) g e (by simp) (r.append k) ?_,rfl,q⟩;rw[qC2]
 lia
def L1:V->List V->Hp->VK->Prop:=λx b H Q=>∃l a y,x=.ref l/\b=[]/\H l=Z9 (.lst a)/\a[a.length - 1]?=Z9 y/\Q y (ZC H l (.lst a.dropLast))
theorem xV:RU X "list.pop" L1:=by
 intro f s Z H x w v p Q I i k h;obtain⟨l,t,y,rfl,rfl,d,g,q⟩:=h;cases i;have b:=k.zero;subst b;obtain⟨z,a,n,r,o,e⟩:=I.lstM d;obtain⟨u,j,m⟩:=r.get g;have c:=by show a.toArray[a.length - 1]?=Z9 u;rw[<- y8,<- o];exact j
 refine fO F.slot_list_pop ⟨_,e,rfl⟩ F.entry_list_pop (F.args_list_pop_1 _) (MeetsSeq.list_pop_last l a.toArray n u c (by rw[qB2];lia)) ⟨e,?_⟩;refine⟨y,_,I.lset (its':=a.dropLast) d e ?_ r.dropLast ?_,m,q⟩
 .simp_all
 .rw[List.length_dropLast]
  lia
def L0:R2:=λx y H Q=>∃l b c a,x=.ref l/\y=.ref b/\H l=Z9 (.lst c)/\H b=Z9 (.lst a)/\c.length+a.length<=jC/\∀p,H p=Z8->Q (.ref p) (ZC H p (.lst (c++a)))
theorem xU:YY X (jP .Add) L0:=by
 intro d s Z H x y v u Q I j p h;obtain⟨l,b,A,D,rfl,rfl,k,m,t,q⟩:=h;cases j;cases p;obtain⟨z,c,n,r,w,e⟩:=I.lstM k;obtain⟨C,a,B,g,f,o⟩:=I.lstM m;refine PySem.P.add_list e o ?_ (by rw[qB2,qB2];lia);have i:c.toArray++a.toArray=(c++a).toArray:=by simp
 rw[i];exact⟨.ref _,_,I.lnew (t':=s.toks) (r.append g) (by rw[qC2];lia),rfl,q _ I.fresh⟩
end
end L2
namespace Att
open PySem PySem.W PySem.Calls PyProof.Rows
theorem xT:∀(ns:yA) (c:yB),WellAll P h c (ns.map WData.int)->vI c ns:=by
 intro ns
 induction ns with
 |nil =>
  intro c w;cases w;exact .nil
 |cons n ns d =>
  intro c w;cases w with
  |cons a b =>
   cases a;exact .cons _ _ (d _ b)
theorem xS{l:OpenLaw}(z:l.most=Z9 n){e:yB}
  (c:l.row.toRowW.claim.pre args=Z7) (m:WellAll P h e args) :
  ∃a o b,e=[Value.ref a]/\args=[WData.list (b.map WData.int)]/\h.get? a=Z9 { cls:=.type "list",data:=.seq o.toArray }/\vI o b/\b.length<=n:=by
 have k:WShape.hasAll [] args [.list .int]=Z7:=(pre_splitW c).1;have w:l.pre.holds [] { args:=args }=Z7:=(pre_splitW c).2;obtain⟨d,r,rfl,s,v⟩:=hasAllW_cons k;obtain rfl:=hasAllW_nil v;obtain⟨A,rfl,y⟩:=hasW_list s;obtain⟨b,rfl⟩:=items_int y;have f:b.length<=n:=by
  have j:=by have j:=(holds_andW w).1;rw[z]at j;exact j
  have i:=condW_of j (w_not (w_lt w_lit (w_len_list (w_arg rfl))));rw[qA0]at i;refine qQ0 λq=>?_;have t:n<(b.length:Int):=by omega
  first
   |(rw[decide_eq_true t]at i;exact absurd i (by decide))
   |(simp at i)
 cases m with
 |cons x p =>
  cases p;cases x with
  |list u g=>exact⟨_,_,b,rfl,rfl,u,xT b _ g,f⟩
theorem xR(l:OpenLaw)(a:List WData):l.row.toRowW.claim.post a (.bool Z7) a=Z7 :=
 postW_of
  (by first|rfl|decide|simp[WShape.arms])
  (w_eq_bool (w_res rfl) w_lit) rfl
theorem attach_call{l:OpenLaw}{c:yH}{E:(Str->yF)->jH->Prop}
  (U:l.most=Z9 n) (x:d.params.defaults=[])
  (call:∀(w:jG) (e b:yQ) (t z:Str->yF) (m:yR) (o:Obj) (A u g:yT) (a:yR) (i:yB) (s:yA),
   Ground q c [] E w e t z b.heap->C w b.heap ->
   b.heap.get? m=Z9 o->o.data=.func (docDef d.name d.params d.body d.scope A u g)->b.heap.CodeRec u d.name->t d.name=Z9 (.ref m) ->
   b.heap.get? a=Z9 { cls:=.type "list",data:=.seq i.toArray }->vI i s->s.length<=n->b.gens=#[] ->
   wD (yV l.prog w) lZ (.call (.ref m) ⟨[.ref a],[]⟩) (λr s'=>r=.ok (.ret (.bool Z7))/\OldK b.heap s'.heap/\s'.os=b.os/\gO s'.gens) b) :
  WalkO q c E C l.row.toRowW d [] (λf i=>PySem.call f i):=by intro w e b t z G Y m o A u g K kV J S v F y R H I V p D Q B P;obtain rfl:K=.none:=Dflts.none F x;obtain rfl:kV=.none:=Dflts.noKw F;obtain⟨a,i,s,rfl,rfl,j,h,k⟩:=xS U p B;refine enter_call (fE (call w e b t z m o A u g a i s G Y J (fd_plain S) v y j h k R) λr s' L=>?_);obtain⟨rfl,N,T,M⟩:=L;exact⟨.inl ⟨.bool Z7,.bool Z7,[],rfl,λ_=>rfl,.bool Z7,xR l _,λ_=>⟨List.Pairwise.nil,λ_ O=>(nomatch O)⟩⟩,N,T,M⟩
end Att
namespace L2
open PySem PySem.Spec PyProof.Rows
theorem Gv:∀{b:yB}{a:yA},vI b a->ZO (a.map V.int) b
 |_,_,.nil=>.nil
 |_,_,.cons n t h=>.cons ⟨t,rfl⟩ (Gv h)
def UC(H:Hp):Prop:=∀b,H b=Z8∨∃o a,H b=Z9 (.frz o (.lst a))
theorem xQ{K:yS}{B S:Str->yF}{j:yB}{y:yA}
  (KX:K.In s₁.heap) (I:s₁.heap.Ns jZ B) (f:s₁.heap.Ns dM S) (T:∀x:Str,x ≠ "__name__"->S x=jO x) (D:s₁.heap.NoLimit) (hg:s₁.gens=#[])
  (L:s₁.heap.get? a=Z9 { cls:=.type "list",data:=.seq j.toArray }) (hi:vI j y) (Z:y.length<=jC) (hr:Zf k lZ)
  (F:∀base:jH,K.In base->base.Ns jZ B->X7 P w K B base CX k O Y [x] sp) (l:∀(s:yQ) (u:yT),dW s Y ⟨[u],[]⟩ [(x,u)])
  (R:∀H:Hp,UC H->YK K H a (y.map V.int)->sp [.ref a] H (λv _=>v=.bl Z7) λ_ _ _=>False)
  (Q:∀H e s',CX [] H s₁ (λ_ _ _=>False) e s'->False) :
  wD (yV P w) lZ (.call (.ref O) ⟨[.ref a],[]⟩) (λr s'=>r=.ok (.ret (.bool Z7))/\OldK s₁.heap s'.heap/\s'.os=s₁.os/\gO s'.gens) s₁:=by
 have X:=Gv hi;have E:=hi.length;have i:∀H:Hp,UC H->YK K H a (y.map V.int)->Yc P w H s₁.heap->(∀b,H b≠Z8->b=a)->(H a≠Z8->K.lookup a=Z8) ->
   wD (yV P w) lZ (.call (.ref O) ⟨[.ref a],[]⟩) (λr s'=>r=.ok (.ret (.bool Z7))/\OldK s₁.heap s'.heap/\s'.os=s₁.os/\gO s'.gens) s₁:=by
  intro H hO hS A W hK;have c:∀{b:yR}{o:Obj},s₁.heap.get? b=Z9 o->H b=Z8->(W7 s₁.heap H).get? b=Z9 o:=λe n=>A9 e n;have M:∀{b:yR}{o:Obj}{t:Array fP}{ep:Nat},s₁.heap.get? b=Z9 o->o.data=.dict t ep->H b=Z8:=λ{b o t ep} e d=>by
   cases q:H b with
   |none=>rfl
   |some u =>
    have N:b=a:=W b (by rw[q];simp);subst N;rw[L]at e;cases e;have d':Data.seq j.toArray _=Data.dict t ep:=d;cases d'
  have g:∀{b:yR}{m:Str->yF},s₁.heap.Ns b m->(W7 s₁.heap H).Ns b m:=λ{b m} ⟨o,t,ep,e,d,r⟩=>⟨o,t,ep,c e (M e d),d,r⟩
  have J:K.In (W7 s₁.heap H):=λb o e=>c (KX b o e) (by
   cases q:H b with
   |none=>rfl
   |some u =>
    have N:b=a:=W b (by rw[q];simp);subst N;rw[hK (by rw[q];simp)]at e;cases e)
  have hM:Mod K B (W7 s₁.heap H):=⟨J,g I,⟨S,g f,T⟩,let ⟨mc,h1,h2⟩:=D;⟨mc,g h1,h2⟩⟩
  have e0:UE P w K B (W7 s₁.heap H) lZ [] s₁ H:=⟨rfl,hM,λb o e=>A8 e,Nat.le_of_eq (Ba _ _),trivial,λb f=>absurd (show b∈([]:yC)from f) (by simp),A,.of_eq hg⟩
  refine fE ((F _ J (g I)).run lZ [] s₁ H ⟨[.ref a],[]⟩ [.ref a] [.ref a] _ _ hr e0 (l s₁ (.ref a)) (.cons rfl .nil) (R H hO hS)) λr s' h=>?_;cases r with
  |error e=>exact(Q H e s' h).elim
  |ok fl =>
   cases fl with
   |next=>exact False.elim h
   |brk=>exact False.elim h
   |cont=>exact False.elim h
   |ret u =>
    obtain⟨v,H',os,C,un,G,r',q⟩:=h;have q':v=.bl Z7:=q;subst q';obtain rfl:u=Value.bool Z7:=r';refine⟨rfl,OldK.of_keep λb o e=>?_,os,C⟩;cases q:H b with
    |none=>exact un.keep b o e q (by intro z;exact absurd (show b∈([]:yC)from z) (by simp)) (by simp)
    |some u =>
     rcases hO b with z|⟨ob,xs,z⟩
     .rw[q]at z;cases z
     .have z2:=un.frzs b ob _ z;obtain⟨U,_⟩:=A b _ z;obtain⟨e2,_⟩:=G b _ z2;rw[e]at U;cases U;exact e2
 cases hk:K.lookup a with
 |some o =>
  have e:=KX a o hk;rw[L]at e;cases e;refine i (λ_=>Z8) (λ_=>.inl rfl) (.inr ⟨_,j.toArray,_,hk,rfl,rfl,rfl,by rw[qB2,E];exact Z,by simpa using X⟩) (λb u z=>by have p:(Z8:Option HO)=Z9 u:=z;cases p) (λb z=>absurd rfl z) λz=>absurd rfl z
 |none =>
  refine i (λb=>if b=a then Z9 (.frz { cls:=.type "list",data:=.seq j.toArray } (.lst (y.map V.int)))else Z8) (λb=>?_) (.inl (.inr ⟨{ cls:=.type "list",data:=.seq j.toArray },if_pos rfl⟩)) (λb u z=>?_) (λb z=>?_) λ_=>hk
  .by_cases f:b=a
   .exact .inr ⟨_,_,if_pos f⟩
   .exact .inl (if_neg f)
  .by_cases f:b=a
   .have p:=(if_pos f).symm.trans z;cases p;subst f;exact⟨L,by rw[qA0];exact Z,j,_,X,L⟩
   .have p:=(if_neg f).symm.trans z;cases p
  .by_cases f:b=a
   .exact f
   .exact absurd (if_neg f) z
theorem walk_of{l:W.OpenLaw}{c:yH}{O:(Str->yF)->jH->Prop}{K:Params->yS}{CX:jG->Vq}{sp:jG->Sp}
  (T:l.most=Z9 n) (A:n<=jC) (y:d.params.defaults=[]) (S:Zf k lZ)
  (N:∀(w:jG) (h:jH),D w h->(K w.params).In h)
  (F:∀(w:jG) (i:Str->yF) (r:yR) (h:jH),(K w.params).In h->h.Ns jZ i->i d.name=Z9 (.ref r) ->
   ∃C:vU,(∀(s:yQ) (u:yT),dW s C ⟨[u],[]⟩ [(x,u)]) /\
    ∀base:jH,(K w.params).In base->base.Ns jZ i->X7 l.prog w (K w.params) i base (CX w) k r C [x] (sp w))
  (z:∀(w:jG) (H:Hp) (a:yR) (p:yA),p.length<=n->UC H->YK (K w.params) H a (p.map V.int)->sp w [.ref a] H (λv _=>v=.bl Z7) λ_ _ _=>False)
  (t:∀(w:jG) (H:Hp) (s:yQ) (e:yT) (s':yQ),CX w [] H s (λ_ _ _=>False) e s'->False) :
  W.WalkO q c O D l.row.toRowW d [] (λf E=>PySem.call f E):=by refine Att.attach_call T y λw J m i mb r o pm cd P a E p G Y Z hd L B j g b Q=>?_;have I:=N w _ Y;obtain⟨C,R,M⟩:=F w i r _ I G.T.g B;exact xQ I G.T.g G.T.b G.T.builtins G.T.nolimit Q j g (qD4 b A) S M R (λH U X=>z w H a p b U X) λH e s'=>t w H m e s'
def UB(s:wG):Arguments:=match s with
 |.FunctionDef _ a _ _ _ _ _ _ _ _=>a
 |_=>{ posonlyargs:=[],args:=[],vararg:=Z8,kwonlyargs:=[],kw_defaults:=[],kwarg:=Z8,defaults:=[] }
def WQ(s:wG):List Stmt:=match s with
 |.FunctionDef _ _ b _ _ _ _ _ _ _=>b
 |_=>[]
def XT(s:wG):Scope:=match s with
 |.FunctionDef _ _ _ _ _ _ a _ _ _=>a
 |_=>{ kind:=.function,names:=[],isGenerator:=Z5,isCoroutine:=Z5 }
abbrev UW:Vq:=λ_ _ _ _ _ _=>False
abbrev E0:XK:=λ_ _ _=>False
theorem xP:Mc UW X E0:=λ_ _ _ _ _ _ _ h=>h.elim
structure Vp(K:yS)(x qual:Str)(st:wG)(f:yR)(fd:vU):Prop where
 ex:∃(oc:yT) (od:Option yR) (kV doc pm:yT) (an:Option yR) (cdv ct:yT) (osl:Array (yF)),
  fd=lA x qual (UB st) (WQ st) (XT st) .none kV doc pm an cdv ct/\K.lookup f=Z9 ⟨oc,od,.func fd,osl⟩/\dZ K cdv qual=Z7
 kp:mU K (.ref f)=Z7
section
variable {P:yZ}{w:jG}{K:yS}{mg:Str->yF}{base:jH}
theorem Vp.ok{st:wG}(F:Vp K x b st f j)(S:OM N ps (XT st))(len:∀e H Q E,sp e H Q E->e.length=ps.length)
  (d:∀(c:yT) (A:jF) (a:List Env) (s:yQ) (H:Hp) (e:List V) (Q:VK) (E:XK),Zf k (A.deeper (mV b (XT st) s.heap.objs.size f c))->sp e H Q E ->
   ∃t,XB (Wv UW P w K mg base N b (XT st) f c A a s H E).nox (WQ st) t/\t { nx:=λ_ m=>Q .non m,rt:=Q } (start N e) H):X7 P w K mg base UW (k+1) f j ps sp:=by obtain⟨v,u,kV,n,z,r,c,y,l,rfl,o,g⟩:=F.ex;refine zo o g S len λA a s H e Q E p i=>?_;obtain⟨t,h,q⟩:=d c A a s H e Q E p i;exact⟨t,h.nox,q⟩
theorem Vp.binds{st:wG}(F:Vp K x a st f j)
  (h:∀(kV b i:yT) (d:Option yR) (c e:yT) (g:yB),g.length=ps.length->bindArgs (lA x a (UB st) (WQ st) (XT st) .none kV b i d c e) ⟨g,[]⟩=pure (ps.zip g)):UD K j ps []:=by obtain⟨n,m,kV,b,i,d,c,e,l,rfl,o,k⟩:=F.ex;exact .all (h kV b i d c e)
theorem xO{st:wG}{e:Array (yF)}{kV d g b i:yT}(l:K.lookup f=Z9 ⟨m,j,.func (lA x a (UB st) (WQ st) (XT st) .none kV d g h b i),e⟩)
  (c:dZ K b a=Z7) (k:mU K (.ref f)=Z7):Vp K x a st f (lA x a (UB st) (WQ st) (XT st) .none kV d g h b i):=⟨⟨m,j,kV,d,g,h,b,i,e,rfl,l,c⟩,k⟩
end
theorem Gu(a:Zf k A):A.units+1<cLine:=qH3 (Nat.add_le_add_left (by decide:1<=64) _) a.units
theorem Gs(h:n<=1000):n<sizeLine:=qH3 h (by decide)
section
variable {X:Cx}
theorem pv(i:Nat){pos:Pos}(c:X.N[i]?=Z9 x:=by rfl)(b:VA X.env.scope x:=by first|exact Or.inl rfl|exact Or.inr (Or.inl rfl)| exact Or.inr (Or.inr rfl))(d:VB x:=by decide)
  (a:(x == ("__classdict__":Str))=Z5:=by decide):PE X (.Name x pos) (Tc i):=G1 c b d a
end
def XR(H a:Hp):Prop:=∀b o,H b=Z9 o->a b=Z9 o
theorem XR.refl(H:Hp):XR H H:=λ_ _ h=>h
section
variable {κ:Type} [DecidableEq κ]
def Yr(kvs:List (κ×V))(k:κ):Option V:=(kvs.find? λa=>decide (a.1=k)).map (·.2)
def Y2(kvs:List (κ×V))(k:κ)(v:V):List (κ×V) :=
 if(kvs.any λa=>decide (a.1=k))=Z7 then kvs.map (λa=>if a.1=k then(a.1,v)else a)else kvs++[(k,v)]
theorem OJ{k:κ}(e:p.1=k):Yr (p::r) k=Z9 p.2:=by simp[Yr,e]
theorem OI{k:κ}(e:¬p.1=k):Yr (p::r) k=Yr r k:=by simp[Yr,e]
theorem Gr(k:κ):∀kvs:List (κ×V),(kvs.any λa=>decide (a.1=k))=(Yr kvs k).isSome
 |[]=>rfl
 |p::r=>by
  rw[qG8];by_cases e:p.1=k
  .simp only[OJ e,decide_eq_true e,Bool.true_or,Option.isSome_some]
  .rw[OI e,decide_eq_false e,Bool.false_or];exact Gr k r
theorem LZ(kvs:List (κ×V))(k:κ)(v:V):(Y2 kvs k v).length<=kvs.length+1:=by
 unfold Y2;split
 .rw[qA0];lia
 .simp_all
theorem Xj.isSome_eq(r:Xj o u):o.isSome=u.isSome:=by
 cases o with
 |none=>cases u with
  |none=>rfl
  |some _=>exact(r).elim
 |some _=>cases u with
  |none=>exact(r).elim
  |some _=>rfl
theorem KV.val(r:KV kvs f)(k:κ):Xj (Yr kvs k) (uC f k):=by
 induction r with
 |nil=>exact True.intro
 |@cons p q j c h t i =>
  obtain⟨d,g⟩:=h;by_cases e:p.1=k
  .have a:=d.symm.trans e;have b:uC (q::c) k=Z9 q.2:=by simp[uC,a]
   rw[OJ e,b];exact g
  .have a:¬q.1=k:=λz=>e (d.trans z);have b:uC (q::c) k=uC c k:=by simp[uC,a]
   rw[OI e,b];exact i
theorem KV.any(r:KV kvs b)(k:κ):(kvs.any λa=>decide (a.1=k))=b.any λa=>decide (a.1=k):=by
 induction r with
 |nil=>rfl
 |cons h t c=>rw[qG8,qG8,c,h.1]
theorem KV.repl(r:KV kvs c)(k:κ)(g:ZG y u):
  KV (kvs.map λa=>if a.1=k then(a.1,y)else a) (c.map λa=>if a.1=k then(a.1,u)else a):=by
 induction r with
 |nil=>exact .nil
 |@cons p q i j h t f =>
  rw[qB8,qB8];refine .cons ?_ f;obtain⟨b,d⟩:=h;by_cases e:p.1=k
  .rw[if_pos e,if_pos (b.symm.trans e)];exact⟨b,g⟩
  .rw[if_neg e,if_neg (λz=>e (b.trans z))];exact⟨b,d⟩
theorem KV.put(r:KV kvs a)(k:κ)(b:ZG y u):KV (Y2 kvs k y) (uJ a k u):=by
 unfold Y2 uJ;rw[r.any k];by_cases e:(a.any λc=>decide (c.1=k))=Z7
 .rw[if_pos e,if_pos e];exact r.repl k b
 .rw[if_neg e,if_neg e];exact Paired.snoc r ⟨rfl,b⟩
theorem KV.length{a:List (κ×yT)}(r:KV kvs a):kvs.length=a.length:=Paired.length r
end
theorem SW(r:ZG (kV k) u):(Yt P w).is k u=Z7:=by
 cases k with
 |inl i=>obtain⟨t,e⟩:=(r);subst e;exact Be P w i t
 |inr x=>obtain⟨t,e⟩:=(r);subst e;exact Bd P w x t
theorem Gq:∀{a:List ZF}{b:yB},ZO (a.map kV) b->ItemsAre (Yt P w) a b
 |[],_,r=>by cases r;exact .nil
 |k::a,_,r=>by
  cases r with
  |cons h t=>exact .cons (SW h) (Gq t)
abbrev KT(H:Hp):List (List ZF×V)->List (List ZF×yR×yT)->Prop:=mQ λp q=>p.1=q.1/\H q.2.1=Z9 (.tup (p.1.map kV))/\ZG p.2 q.2.2
theorem KT.val(r:KT H kvs xs)(k:List ZF):Xj (Yr kvs k) ((atKey xs k).map (·.2)):=by
 induction r with
 |nil=>exact True.intro
 |@cons p q i c h t g =>
  obtain⟨d,_,f⟩:=h;by_cases e:p.1=k
  .have a:=d.symm.trans e;have b:atKey (q::c) k=Z9 q.2:=by simp[atKey,a]
   rw[OJ e,b];exact f
  .have a:¬q.1=k:=λz=>e (d.trans z);have b:atKey (q::c) k=atKey c k:=by simp[atKey,a]
   rw[OI e,b];exact g
theorem KT.repl(r:KT H kvs xs)(k:List ZF)(g:ZG y u):
  KT H (kvs.map λb=>if b.1=k then(b.1,y)else b) (xs.map (putAt k u)):=by
 induction r with
 |nil=>exact .nil
 |@cons p q i j h t d =>
  rw[qB8,qB8];refine .cons ?_ d;obtain⟨a,c,f⟩:=h;unfold putAt;by_cases e:p.1=k
  .rw[if_pos e,if_pos (a.symm.trans e)];exact⟨a,c,g⟩
  .rw[if_neg e,if_neg (λz=>e (a.trans z))];exact⟨a,c,f⟩
theorem KT.put(r:KT H kvs xs)(k:List ZF)(c:H b=Z9 (.tup (k.map kV)))(a:ZG y u):
  KT H (Y2 kvs k y) (storedH xs k b u):=by
 have e:(kvs.any λd=>decide (d.1=k))=(atKey xs k).isSome:=by rw[Gr,(r.val k).isSome_eq,qP4]
 unfold Y2 storedH;rw[e];by_cases q:(atKey xs k).isSome=Z7
 .rw[if_pos q,if_pos q];exact r.repl k a
 .rw[if_neg q,if_neg q];exact Paired.snoc r ⟨rfl,c,a⟩
theorem KT.keeps(r:KT H kvs xs)(ht:∀b ys,H b=Z9 (.tup ys)->a b=Z9 (.tup ys)):KT a kvs xs :=
 Paired.mapP r λ_ _ z=>⟨z.1,ht _ _ z.2.1,z.2.2⟩
section
variable {P:yZ}{w:jG}{H:Hp}{h:jH}{a:yR}
theorem Gp(ok:Yc P w H h)(e:Rd H a u):W8 P w H h a u:=e.ok ok
theorem T1(ok:Yc P w H h)(e:Rd H a (.dK kvs)):kvs.length<=jC/\(a == vY)=Z5/\∃vs,KV kvs vs/\h.DictOf (Yt P w) a vs :=
 show W8 P w H h a (.dK kvs)from Gp ok e
theorem RT(ok:Yc P w H h)(e:H a=Z9 (.dK kvs)):kvs.length<=jC/\(a == vY)=Z5/\∃vs,KV kvs vs/\h.DictOf (Yt P w) a vs:=T1 ok (.inl e)
theorem QO(ok:Yc P w H h)(e:H a=Z9 (.tup (c.map kV))):(lI (Yt P w)).is h c a:=by
 obtain⟨_,b,r,o,d,g,n,f⟩:=(ok a _ e)
 exact⟨o,b.toArray,n,d,g,f,by simpa using Gq r⟩
theorem QN(ok:Yc P w H h)(e:Rd H a (.dT kvs)):kvs.length<=jC/\(a == vY)=Z5 /\
  ∃xs,KT H kvs xs/\h.DictOfH (lI (Yt P w)) a xs:=by
 obtain⟨z,y,xs,r,o,g,n,d,k,s,j,i⟩:=(Gp ok e)
 refine⟨z,y,xs,r,o,g,n,d,k,s,j,λx b=>?_,i⟩;have all:∀{l:List (List ZF×V)}{m:List (List ZF×yR×yT)},KT H l m->∀x∈m,(lI (Yt P w)).is h x.1 x.2.1:=by
  intro l m q
  induction q with
  |nil=>intro x b;exact nomatch b
  |@cons p q u v c t f =>
   intro x b;rcases qB0.mp b with e|b
   .subst e;exact QO ok (by rw[<- c.1];exact c.2.1)
   .exact f x b
 exact all r x b
theorem xN(ok:Yc P w H h)(e:H a=Z9 (.dT kvs)):kvs.length<=jC/\(a == vY)=Z5 /\
  ∃xs,KT H kvs xs/\h.DictOfH (lI (Yt P w)) a xs:=QN ok (.inl e)
end
def Yi(H:Hp)(a:yR)(y:V)(r:Option V):Prop :=
 (∃c k,Rd H a (.dK c)/\y=kV k/\r=Yr c k)∨∃c k b,Rd H a (.dT c)/\y=.ref b/\H b=Z9 (.tup (k.map kV))/\r=Yr c k
def W3(H:Hp)(a:yR)(y v:V)(d:Hp):Prop :=
 (∃c k,H a=Z9 (.dK c)/\y=kV k/\c.length<jC/\d=ZC H a (.dK (Y2 c k v))) ∨
 ∃c k b,H a=Z9 (.dT c)/\y=.ref b/\H b=Z9 (.tup (k.map kV))/\c.length<jC/\d=ZC H a (.dT (Y2 c k v))
theorem Yi.k{k:ZF}(e:H a=Z9 (.dK kvs)):Yi H a (kV k) (Yr kvs k):=.inl ⟨kvs,k,.inl e,rfl,rfl⟩
theorem Yi.t{k:List ZF}(e:H a=Z9 (.dT kvs))(c:H b=Z9 (.tup (k.map kV))):Yi H a (.ref b) (Yr kvs k):=.inr ⟨kvs,k,b,.inl e,rfl,c,rfl⟩
theorem W3.k{k:ZF}(e:H a=Z9 (.dK kvs))(b:kvs.length<jC):W3 H a (kV k) v (ZC H a (.dK (Y2 kvs k v))):=.inl ⟨kvs,k,e,rfl,b,rfl⟩
theorem W3.t{k:List ZF}(e:H a=Z9 (.dT kvs))(c:H b=Z9 (.tup (k.map kV)))(d:kvs.length<jC):
  W3 H a (.ref b) v (ZC H a (.dT (Y2 kvs k v))):=.inr ⟨kvs,k,b,e,rfl,c,d,rfl⟩
section
variable {X:Cx}{pins:yD}{Z:St}{H:Hp}{s:yQ}{a:yR}{y v:V}{u r:yT}{o:Option V}{A:jF}{E:yL}
theorem ZP.big(I:ZP X pins Z H s):vY<s.heap.objs.size:=by have h:=(I.mod.glob.keeps I.bk).lt;exact qT3 (by decide) h
theorem xM{Q:yL}(w:A.units+1<vN)(I:ZP X pins Z H s)(g:Yi H a y (Z9 v))(t:ZG y u)(h:∀f s',ZP X pins Z H s'->ZG v f->Q f s'):
  y7 (yV X.prog X.w) A (gP (.ref a) u) Q E s:=by
 rcases g with⟨q,k,e,j,l⟩| ⟨q,k,b,e,j,B,l⟩
 .subst j;obtain⟨z,C,F,d,i⟩:=T1 I.hok e;obtain⟨f,m,c⟩:=Xj.some_of (by rw[l];exact d.val k);exact wpAny_getItem_of (SW t) i.mapOf m (h f _ (I.tok _) c)
 .subst j;cases (t);obtain⟨z,C,D,d,i⟩:=QN I.hok e;obtain⟨f,m,c⟩:=Xj.some_of (by rw[l];exact d.val k);obtain⟨p,x,n⟩:=qA6.mp m;refine wpAny_getItem_heap (wX w) (QO I.hok B) i x ?_;rw[n];exact h f _ (I.tok _) c
theorem LY{Q:yL}(n:A.units+1<vN)(I:ZP X pins Z H s)(g:Yi H a y o)(m:ZG y u)(h:∀s',ZP X pins Z H s'->Q (.bool o.isSome) s'):
  y7 (yV X.prog X.w) A (jD .In u (.ref a)) Q E s:=by
 rcases g with⟨f,k,e,i,l⟩| ⟨f,k,b,e,i,p,l⟩
 .subst i;obtain⟨z,j,w,c,d⟩:=T1 I.hok e;refine wpAny_in_of (SW m) j d.mapOf ?_;rw[<- (c.val k).isSome_eq,<- l];exact h _ (I.tok _)
 .subst i;cases (m);obtain⟨z,j,t,c,d⟩:=QN I.hok e;refine wpAny_in_heap (wX n) (QO I.hok p) j d ?_;have q:=(c.val k).isSome_eq;rw[qP4]at q;rw[<- q,<- l];exact h _ (I.tok _)
theorem xK{Q:yL}(n:A.units+1<vN)(I:ZP X pins Z H s)(g:Yi H a y o)(m:ZG y u)(h:∀s',ZP X pins Z H s'->Q (.bool (!o.isSome)) s'):
  y7 (yV X.prog X.w) A (jD .NotIn u (.ref a)) Q E s:=by
 rcases g with⟨f,k,e,i,l⟩| ⟨f,k,b,e,i,p,l⟩
 .subst i;obtain⟨z,j,w,c,d⟩:=T1 I.hok e;refine wpAny_notIn_of (SW m) j d.mapOf ?_;rw[<- (c.val k).isSome_eq,<- l];exact h _ (I.tok _)
 .subst i;cases (m);obtain⟨z,j,t,c,d⟩:=QN I.hok e;refine wpAny_notIn_heap (wX n) (QO I.hok p) j d ?_;have q:=(c.val k).isSome_eq;rw[qP4]at q;rw[<- q,<- l];exact h _ (I.tok _)
theorem OH(I:ZP X pins Z H s)(e:R1 (H a))(hs:qE4 a s.heap h')(he:∃q,h'.get? a=Z9 q)(d:W8 X.prog X.w (ZC H a c) h' a c):
  ZP X pins Z (ZC H a c) { s with heap:=h',toks:=t' } :=
 I.write e (.inl rfl) (λb q f z=>(hs.2 b f).trans z) he d
theorem OG(z:kvs.length<=jC)(f:(a == vY)=Z5)(b:KV kvs c)(d:h'.DictOf (Yt P w) a c):
  W8 P w e h' a (.dK kvs):=⟨z,f,c,b,d⟩
theorem LW(P:A.units+1<vN)(I:ZP X pins Z H s)(g:W3 H a y v B)(G:ZG y u)(C:ZG v r)(h:∀s',ZP X pins Z B s'->Q () s'):
  y7 (yV X.prog X.w) A (uN (.ref a) u r) Q E s:=by
 rcases g with⟨d,k,e,t,l,p⟩| ⟨d,k,b,e,t,D,l,p⟩
 .subst t p;obtain⟨z,x,W,f,m⟩:=RT I.hok e;have N:W.length<=sizeLine:=by rw[<- f.length];exact z
  have w:(Y2 d k v).length<=sizeLine:=by have:=LZ d k v;lia
  refine wpAny_setItem_pairs (SW G) m λJ i n=>h _ ?_;have U:∃q,J.get? a=Z9 q:=let ⟨q,_,_,j,_⟩:=i;⟨q,j⟩
  exact OH I (by rw[e];exact True.intro) n U (OG w x (f.put k C) i)
 .subst t p;cases (G);obtain⟨z,x,S,f,m⟩:=xN I.hok e;have N:S.length<=sizeLine:=by rw[<- Paired.length f];exact z
  have w:(Y2 d k v).length<=sizeLine:=by have:=LZ d k v;lia
  refine wpAny_setItem_heap (wX P) (QO I.hok D) m λJ i n=>h _ ?_;obtain⟨q,K,R,j,O,T,M,_,L⟩:=i;refine OH I (by rw[e];exact True.intro) n ⟨q,j⟩ ⟨w,x,_,(f.put k D C).keeps λc Y F=>?_,q,K,R,j,O,T,M,L⟩;rw[YI (Bb F e (λz=>nomatch z))];exact F
end
section
variable {X:Cx}{pins:yD}{Z:St}{H:Hp}{s:yQ}{a:yR}{kvs:List (ZF×V)}{k:ZF}{u:yT}{A:jF}{E:yL}
theorem xJ{Q:yL}(I:ZP X pins Z H s)(e:Rd H a (.dK kvs))(h:∀t s',ZP X pins Z H s'->Q (.int kvs.length t) s'):y7 (yV X.prog X.w) A (call (.builtin "len") [.ref a]) Q E s:=by obtain⟨z,d,f,b,c⟩:=T1 I.hok e;refine call_len_dict d c (by rw[<- b.length];rw[vF]at z;lia) ?_;rw[<- b.length];exact h _ _ (I.tok _)
end
theorem xI{Z:St}(I:ZP X c Z H s)(g:Yi H a y o):s.TypeIs (.ref a) "dict":=by
 rcases g with⟨f,k,e,_,_⟩| ⟨f,k,b,e,_,_,_⟩
 .obtain⟨_,_,i,_,d⟩:=T1 I.hok e;exact d.typeIs
 .obtain⟨_,_,h,_,d⟩:=QN I.hok e;exact d.typeIs
theorem LV(h:jH)(a:vY<h.objs.size):W8 P w H (h.push { cls:=.type "dict",data:=.dict #[] }) h.objs.size (.dK []) :=
 ⟨qE6 _,beq_eq_false_iff_ne.mpr (Ne.symm (qB7 a)),[],.nil,Heap.DictOf.new h⟩
def xH:TE:=λ_ H Q=>∀p,H p=Z8->Q (.ref p) (ZC H p (.dK []))
section
variable {X:Cx}{pos:Pos}
theorem xG:PE X (.Dict [] [] pos) xH:=λa s Z H Q I h =>
 wpAny_Dict_empty ⟨.ref s.heap.objs.size,_,I.laid (t':=s.toks) (λ_ _ q=>qA3 _ q) (qA7 _) (LV s.heap I.big),rfl,h _ (I.hok.fresh (qA7 _))⟩
end
def LU:List (TE×TE)->St->Hp->(List (V×V)->Hp->Prop)->Prop
 |[],_,H,Q=>Q [] H
 |(c,tv)::r,Z,H,Q=>c Z H λx b=>tv Z b λy a=>LU r Z a λd e=>Q ((x,y)::d) e
abbrev VV:List (V×V)->List (yT×yT)->Prop:=mQ λp q=>ZG p.1 q.1/\ZG p.2 q.2
def OF(X:Cx)(pos:Pos)(c:List (Option jE))(a:yE)(d:List (TE×TE)):Prop :=
 ∀(b:yD) (s:yQ) (Z:St) (H:Hp) (Q:List (V×V)->Hp->Prop),ZP X b Z H s->LU d Z H Q ->
  y7 (yV X.prog X.w) X.A (evalPairs (pairTrees c a X.env pos)) (λh g=>∃f e,ZP X b Z e g/\VV f h/\Q f e) X.xe s
theorem xF:OF X pos [] [] []:=λa s Z H Q I h=>pairTrees_nil_walk ⟨[],H,I,.nil,h⟩
theorem xE(hk:PE X k tk)(g:PE X v d)(z:OF X pos e f b):
  OF X pos (Z9 k::e) (v::f) ((tk,d)::b):=λa s Z H Q I h =>
 pairTrees_cons_walk (Zq (hk a s Z H _ I h) λu p ⟨x,m,B,i,j⟩=>Zq (g a p Z m _ B j) λD q ⟨y,t,o,C,r⟩ =>
  Zq (z a q Z t _ o r) λE F ⟨n,w,A,c,l⟩=>⟨(x,y)::n,w,A,.cons ⟨i,C⟩ c,l⟩)
def Wa(kvs more:List (ZF×V)):List (ZF×V):=more.foldl (λacc a=>Y2 acc a.1 a.2) kvs
theorem KV.merge:∀{more:List (ZF×V)}{rs:List (ZF×yT)}{kvs:List (ZF×V)}{a:List (ZF×yT)},KV more rs->KV kvs a->KV (Wa kvs more) (merged a rs):=by
 intro more rs kvs a r
 induction r generalizing kvs a with
 |nil=>intro q;exact q
 |@cons p q f d h t c =>
  intro b;have e:KV (Y2 kvs p.1 p.2) (uJ a q.1 q.2):=by have:=b.put p.1 h.2;rw[<- h.1];exact this
  exact c e
theorem OE:∀(more kvs:List (ZF×V)),(Wa kvs more).length<=kvs.length+more.length
 |[],kvs=>by show kvs.length<=kvs.length+0;lia
 |p::r,kvs=>by have b:=OE r (Y2 kvs p.1 p.2);have a:=LZ kvs p.1 p.2;show(Wa (Y2 kvs p.1 p.2) r).length<=_;rw[qD3];lia
theorem Gn:∀{kvs:List (ZF×V)}{d:List (yT×yT)},VV (kvs.map λe=>(kV e.1,e.2)) d->∃rs,Carries (Yt P w) d rs/\KV kvs rs
 |[],_,r=>by cases r;exact⟨[],True.intro,.nil⟩
 |p::kvs,_,r=>by
  cases r with
  |@cons a b g bs h t =>
   obtain⟨rs,c,q⟩:=Gn t;obtain⟨b1,f⟩:=b;exact⟨(p.1,f)::rs,⟨SW h.1,rfl,c⟩,.cons ⟨rfl,h.2⟩ q⟩
def xD(b:List (TE×TE)):TE:=fun Z H Q=>∀p,H p=Z8->LU b Z (ZC H p (.dK [])) λe c=>c p=Z9 (.dK [])/\∃a:List (ZF×V),e=a.map (λd=>(kV d.1,d.2))/\a.length<=15/\Q (.ref p) (ZC c p (.dK (Wa [] a)))
theorem xC(h:OF X pos a b g)(i:a.all (·.isSome)=Z7)(y:a.length=b.length)(v:a≠[])
  (k:a.length<=15):PE X (.Dict a b pos) (xD g):=by
 intro f s Z H Q I q;have D:=I.hok.fresh (qA7 s.heap.objs.size);have C:=I.laid (h':=s.heap.push { cls:=.type "dict",data:=.dict #[] }) (t':=s.toks) (λ_ _ q=>qA3 _ q) (qA7 _) (LV s.heap I.big);refine wpAny_Dict_walk (knd:=Yt X.prog X.w) i y v k (Zq (h f _ Z _ _ C (q _ D)) λF J ⟨G,L,m,l,e,j,A,K,w⟩=>?_);subst A;obtain⟨rs,c,t⟩:=Gn l;obtain⟨z,B,x,r,o⟩:=RT m.hok e;cases r;refine⟨rs,c,o,λh' d p=>⟨.ref s.heap.objs.size,_,?_,rfl,w⟩⟩;have u:(Wa [] j).length<=sizeLine:=by have n:=OE j [];rw[qN9]at n;rw[vF];lia
 have E:∃q,h'.get? s.heap.objs.size=Z9 q:=let ⟨q,_,_,hq,_⟩:=d;⟨q,hq⟩
 exact OH m (by rw[e];exact True.intro) p E (OG u B (t.merge .nil) d)
def TZ(st a:St):Prop:=st.length=a.length/\∀(i:Nat) v,st[i]?=Z9 (Z9 v)->a[i]?=Z9 (Z9 v)
def WW(X:Cx)(scope:vT)(N:yH)(cl:List (Str×yR))(s:yQ)(H:Hp)(C:yR)(ex:yC):Cx where
 prog:=X.prog
 w:=X.w
 K:=X.K
 mg:=X.mg
 base:=X.base
 A:=X.A
 N:=N
 s₀:=s
 H₀:=H
 env:=compEnvC scope cl C X.env
 outer:=X.stack
 stack:=X.stack
 ex:=ex
 fn:=λx=>decide ((x,NameKind.cell)∈scope.names)
 calm:=X.calm
 pn:=[]
 xe:=λ_ _=>False
def Yh(env:Env):List (Str×j7)->List (Str×yR)->List (Str×yR)
 |[],acc=>acc
 |(n,k)::r,acc=>if k == .free then(match env.cells.lookup n with|some c=>Yh env r ((n,c)::acc)| none=>Yh env r acc)else Yh env r acc
theorem OD{env:Env}:∀(a:List (Str×j7)) (acc:List (Str×yR)),(∀x c,acc.lookup x=Z9 c->env.cells.lookup x=Z9 c)->∀x c,(Yh env a acc).lookup x=Z9 c->env.cells.lookup x=Z9 c
 |[],_,h=>h
 |(n,k)::r,acc,h=>by
  unfold Yh;split
  .split
   .rename_i c b;refine OD r _ λx d e=>?_;rw[qE1]at e;cases f:x == n with
    |true =>
     simp_all
    |false =>
     simp_all
   .exact OD r _ h
  .exact OD r _ h
theorem QM:∀(b:List (Str×j7)) (acc:List (Str×yR)) (x:Str),((∃c,acc.lookup x=Z9 c)∨((x,NameKind.free)∈b/\∃c,env.cells.lookup x=Z9 c))->∃c,(Yh env b acc).lookup x=Z9 c
 |[],acc,x,h=>by
  rcases h with h|⟨h,_⟩
  .exact h
  .cases h
 |(n,k)::r,acc,x,h=>by
  unfold Yh;split
  .rename_i hk;split
   .rename_i c e;refine QM r _ x ?_;by_cases g:x=n
    .simp_all
    .have f:(x == n)=Z5:=by simpa using g
     rcases h with⟨d,h⟩| ⟨h,d⟩
     .exact .inl ⟨d,by rw[qE1,f];exact h⟩
     .simp_all
   .rename_i e;refine QM r _ x ?_;rcases h with h|⟨h,d,a⟩
    .exact .inl h
    .rcases qB0.mp h with h|h
     .cases h;rw[e]at a;cases a
     .exact .inr ⟨h,d,a⟩
  .rename_i hk;refine QM r _ x ?_;rcases h with h|⟨h,d⟩
   .exact .inl h
   .rcases qB0.mp h with h|h
    .simp_all
    .exact .inr ⟨h,d⟩
theorem xB(h:env.cells.lookup x=Z9 c):cellOf env x=pure c:=by unfold cellOf;rw[h]
theorem LS:∀(b:List (Str×j7)) (acc:List (Str×yR)),(∀x,(x,NameKind.free)∈b->∃c,env.cells.lookup x=Z9 c) ->
  (forIn b acc fun(x:Str×j7) (r:List (Str×yR))=>(match x with
   | (a,kind)=>if kind == NameKind.free then(do let c <- cellOf env a;pure (ForInStep.yield ((a,c)::r)))else pure (ForInStep.yield r):Sem (ForInStep (List (Str×yR)))))=pure (Yh env b acc)
 |[],acc,_=>rfl
 |(n,k)::r,acc,h=>by
  rw[qU9];unfold Yh;have d:=λx g=>h x (qC5 _ g);by_cases hk:k=.free
  .subst hk;obtain⟨c,e⟩:=h n (qE3 ..);dsimp only;rw[e,xB e];exact LS r _ d
  .have f:(k == NameKind.free)=Z5:=by simpa using hk
   simp only[f];exact LS r _ d
theorem Gm(h:∀x,(x,NameKind.free)∈scope.names->∃c,env.cells.lookup x=Z9 c):closureFor scope env=pure (Yh env scope.names []):=by unfold closureFor;have q:=LS scope.names [] h;simp only[bind_pure];congr 1
theorem LR{ns:List (Str×j7)}(h:ns.lookup x=Z9 k):(x,k)∈ns:=by
 induction ns with
 |nil=>cases h
 |cons a r c =>
  obtain⟨n,d⟩:=a;rw[qE1]at h;cases b:x == n with
  |true =>
   rw[b]at h;have e:=by simpa using b
   subst e;cases h;exact qE3 ..
  |false =>
   rw[b]at h;exact qC5 _ (c h)
theorem Gk(h:(uD scope env).names.lookup x=Z9 k)(b:k=.cell∨k=.free):(x,NameKind.free)∈scope.names∨(x,NameKind.cell)∈scope.names:=by
 have m:=LR h;obtain⟨⟨n,a⟩,c,e⟩:=qB9.mp m;dsimp only at e;split at e
 .simp_all
 .lia
theorem SV:∀(b:List (Str×j7)) (h:jH) (acc:List (Str×yR)) {x:Str}{c:yR},(wB h.objs.size b acc).lookup x=Z9 c ->
  ((x,NameKind.cell)∈b/\h.objs.size<=c/\(lM h b).IsCell c Z8)∨((x,NameKind.cell)∉b/\acc.lookup x=Z9 c)
 |[],h,acc,x,c,e=>.inr ⟨by simp,e⟩
 |(n,k)::r,h,acc,x,c,e=>by
  unfold wB at e;unfold lM;by_cases hk:(k == NameKind.cell)=Z7
  .rw[if_pos hk]at e ⊢;have f:=by simpa using hk
   rw[<- qG4 h { cls:=.type "cell",data:=.cell Z8 }]at e;rcases SV r _ _ e with⟨d,a,g⟩| ⟨d,a⟩
   .exact .inl ⟨qC5 _ d,by rw[qG4]at a;lia,g⟩
   .rw[qE1]at a;cases i:x == n with
    |true =>
     rw[i]at a;cases a;have:=by simpa using i
     subst this;subst f;exact .inl ⟨qE3 ..,qA7 _,_,fX _ _ _ _ (qA9 _ rfl),rfl⟩
    |false =>
     simp_all
  .rw[if_neg hk]at e ⊢;rcases SV r h acc e with⟨d,a,g⟩| ⟨d,a⟩
   .simp_all
   .grind
theorem LQ:∀(g:List (Str×j7)) (n:Nat) (acc:List (Str×yR)),(∀x c,acc.lookup x=Z9 c->c<n)->(∀x y c,acc.lookup x=Z9 c->acc.lookup y=Z9 c->x=y) ->
  ∀x y c,(wB n g acc).lookup x=Z9 c->(wB n g acc).lookup y=Z9 c->x=y
 |[],n,acc,hb,hi=>hi
 |(m,k)::r,n,acc,hb,hi=>by
  unfold wB;split
  .refine LQ r (n+1) _ (λx c e=>?_) λx y c b a=>?_
   .rw[qE1]at e;cases d:x == m with
    |true=>rw[d]at e;cases e;exact qI6 _
    |false=>rw[d]at e;exact qE9 (hb x c e)
   .rw[qE1]at b a;cases d:x == m with
    |true =>
     rw[d]at b;cases b;cases f:y == m with
     |true=>rw[show x=m by simpa using d,show y=m by simpa using f]
     |false=>rw[f]at a;exact absurd (hb y _ a) (qG3 _)
    |false =>
     rw[d]at b;cases f:y == m with
     |true=>rw[f]at a;cases a;exact absurd (hb x _ b) (qG3 _)
     |false=>rw[f]at a;exact hi x y c b a
  .exact LQ r n acc hb hi
theorem OC:∀(a:List (Str×j7)) (n:Nat) (acc:List (Str×yR)) {x:Str},((x,NameKind.cell)∈a∨∃c,acc.lookup x=Z9 c)->∃c,(wB n a acc).lookup x=Z9 c
 |[],n,acc,x,h=>by
  rcases h with h|h
  .cases h
  .exact h
 |(m,k)::r,n,acc,x,h=>by
  unfold wB;split
  .refine OC r _ _ ?_;by_cases d:x=m
   .simp_all
   .have b:(x == m)=Z5:=by simpa using d
    rcases h with h|⟨c,h⟩
    .simp_all
    .exact .inr ⟨c,by rw[qE1,b];exact h⟩
  .rename_i hk;refine OC r _ _ ?_;rcases h with h|h
   .rcases qB0.mp h with h|h
    .cases h;exact absurd rfl hk
    .exact .inl h
   .exact .inr h
theorem xA{E:yL}
  (i:Q (newEnv scope s.heap.objs.size b (wB (s.heap.push { cls:=.type "dict",data:=.dict #[] }).objs.size scope.names a) d Z8 .none (Z9 c) dM) { s with heap:=lM (s.heap.push { cls:=.type "dict",data:=.dict #[] }) scope.names }) :
  y7 M A (mX scope b a [] d Z8 .none (Z9 c)) Q E s:=by refine yO (wpAny_alloc ?_);refine yO (wpAny_layCells _ (λh e f=>by cases g:e == NameKind.cell<;>simp[g]) _ _ _ _ ?_);exact yO (yP (yP i))
section
variable {X:Cx}{pins:yD}{Z:St}{H:Hp}{s:yQ}{scope:vT}{N:yH}{C:yR}{ex:yC}
structure RQ(X:Cx)(scope:vT)(N:yH)(k:Nat)(js:List Nat):Prop where
 calm:X.calm=Z7
 kind:scope.kind=.function
 cell:∀x,(x,NameKind.cell)∈scope.names->scope.names.lookup x=Z9 .cell
 free:∀x,(x,NameKind.free)∈scope.names->(X.env.kindOf x=Z9 .cell∨X.env.kindOf x=Z9 .free)
 names:∀x∈scope.names,x.2=.local->scope.names.lookup x.1=Z9 .local
 len:N.length=k+js.length
 js:∀i j,js[i]?=Z9 j->∃x,N[k+i]?=Z9 x/\X.N[j]?=Z9 x/\scope.names.lookup x=Z9 .free/\VA X.env.scope x
theorem TY(h:(Yh env a []).lookup x=Z9 c):env.cells.lookup x=Z9 c:=OD _ _ (λ_ _ z=>by cases z) x c h
theorem ZP.compOk(I:ZP X pins Z H s)(hk:scope.kind=.function)(n:∀x,(x,NameKind.free)∈scope.names->∃c,X.env.cells.lookup x=Z9 c){h:jH}(i:h.objs.size=C+1)(g:s.heap.objs.size<=C)(a:∀b∈ex,Yj X pins H b)(f:∀b∈ex,b<s.heap.objs.size):
  (WW X scope N (wB h.objs.size scope.names (Yh X.env scope.names [])) s H C ex).Ok where
 mod:=I.ok.mod
 kind:=hk
 glob:=I.ok.glob
 blt:=I.ok.blt
 above:=g
 inj:=LQ _ _ _ (λx c e=>by
  obtain⟨v,q⟩:=I.cell x c (TY e);rw[i];exact qE9 (qC1 q.lt g)) λx y c j r=>I.ok.inj x y c (TY j) (TY r)
 has:=λx h=>by
  have m:=Gk (scope:=scope) (env:=X.env) (x:=x) (k:=.cell);have p:=Gk (scope:=scope) (env:=X.env) (x:=x) (k:=.free);have q:(x,NameKind.free)∈scope.names∨(x,NameKind.cell)∈scope.names:=by
   rcases h with h|h
   .exact m h (.inl rfl)
   .exact p h (.inr rfl)
  refine OC _ _ _ ?_;rcases q with q|q
  .exact .inr (QM _ _ x (.inr ⟨q,n x q⟩))
  .exact .inl q
 cab:=λx c h e=>by
  rcases SV _ _ _ e with⟨_,q,_⟩| ⟨q,_⟩
  .show s.heap.objs.size<=c;lia
  .exact absurd (of_decide_eq_true h) q
 hd:=I.ok.hd
 frames:=I.ok.frames
 stk:=.inl rfl
 exf:=λb d=>⟨λz=>by
   have l:=z;exact qG3 _ (qC1 (f b d) (by rw[l];exact g)),λx c e=>by
   rcases SV _ _ _ e with⟨_,q,_⟩| ⟨_,q⟩
   .exact qL1 (qC1 (f b d) (qD4 g (qH5 (qC1 (by rw[i];exact qI6 C) q))))
   .exact(a b d).2.2.2.2.1 x c (TY q)⟩
 bs:=I.bs
 bsz:=qD4 I.ok.bsz I.sz
 noex:=λb o e d=>by
  rcases(a b d).2.2.2.1 with z|z
  .exact I.ok.noex b o e z
  .exact qG3 _ (qC1 (qB3 e) (qD4 I.ok.bsz z))
 exfs:=λb d z=>by
  rcases qB0.mp (I.stkSub b z)with q|q
  .exact(a b d).2.1 q
  .exact(a b d).2.2.1 q
 funs:=I.stack
 frf:=I.stkFree
theorem xy{d:yE}(i:Nat->yQ->Prop)
  (g:∀n s,i n s->y7 (yV prog w) A (mS j) (λr l=>match r with
   |none=>R (.ok .next) l
   | some v=>y7 (yV prog w) A (mE a j v) (λ_ f=>y7 (yV prog w) A (gZ a env v) (λ_ t =>
     y7 (yV prog w) A (forIn d Z7 λc r=>if r=Z7 then do let ok <- uI c env (v7 c env);pure (ForInStep.yield ok)else pure (ForInStep.yield r)) (λok o =>
      if ok=Z7 then y7 (yV prog w) A (v7 elt env) (λx q =>
       y7 (yV prog w) A (call (.builtin "list.append") [acc,x]) (λ_ y=>∃m,m<n/\i m y) (uE (yV prog w) A env λe s'=>R (.error e) s') q) (uE (yV prog w) A env λe s'=>R (.error e) s') o
      else ∃m,m<n/\i m o) (uE (yV prog w) A env λe s'=>R (.error e) s') t) (uE (yV prog w) A env λe s'=>R (.error e) s') f) (uE (yV prog w) A env λe s'=>R (.error e) s') l) (uE (yV prog w) A env λe s'=>R (.error e) s') s)
  (n:Nat) (h:i n s) :
  wD (yV prog w) A (.compLoop (.ListComp elt [⟨a,iter,d,0⟩] scope pos) 0 j acc env) R s:=by
 refine codeAny_loop rfl i (λn s E=>?_) n h;show y7 _ A ((compTurn (.ListComp elt [⟨a,iter,d,0⟩] scope pos) 0 j acc env).onRaise (λx=>do noteFrame x env;theTreesLotGoes x)) _ _ s;refine wpAny_noted ?_;rw[compTurn_list];refine yO (dF (yO (jS (g n s E) (λr l p=>?_) λ_ _ b=>b)));cases r with
 |none=>exact yP p
 |some v =>
  refine yO (jS p (λ_ f k=>?_) λ_ _ b=>b);refine yO (jS k (λ_ t D=>yO (jS D (λok o u=>?_) λ_ _ b=>b)) λ_ _ b=>b);cases ok with
  |false=>exact yP ⟨rfl,u⟩
  |true =>
   exact yO (yO (jS u (λx q B=>yO (jS B (λ_ y z=>yP (yP ⟨rfl,z⟩)) λ_ _ b=>b)) λ_ _ b=>b))
def SU(X:Cx)(b:yE)(t:TT):Prop :=
 ∀(a:yD) (s:yQ) (Z:St) (H:Hp) (Q:Bool->Hp->Prop),ZP X a Z H s->t Z H Q ->
  y7 (yV X.prog X.w) X.A (forIn b Z7 λc r=>if r=Z7 then do let ok <- uI c X.env (v7 c X.env);pure (ForInStep.yield ok)else pure (ForInStep.yield r)) (TP X a Z Q) X.xe s
def LP:TT:=λ_ H Q=>Q Z7 H
theorem xw:SU X [] LP:=λa s Z H Q I h=>wpAny_tests_nil ⟨H,I,h⟩
theorem xv(h:PT X c t):SU X [c] t:=λa s Z H Q I b=>wpAny_tests_one (h a s Z H Q I b)
def LO(e:It)(D:yR)(W:Nat->Nat->List V->Hp->Prop)(Q:Hp->Prop)(g:TG)(tc:TT)(n:TE)(k:St)(i m:Nat)(ys:List V)(c:Hp):Prop :=
 c D=Z9 (.lst ys)/\((e.stop i c/\Q c)∨(e.go i c/\ys.length<jC/\∀x j,e.yld i c x j->g x k j fun d l=>TZ k d/\tc d l λb h =>
   if b=Z7 then n d h λy f=>f D=Z9 (.lst ys)/\∃a,a<m/\W (i+1) a (ys++[y]) (ZC f D (.lst (ys++[y])))else ∃a,a<m/\W (i+1) a ys h))
def WO(k:Nat)(a:List Nat)(Z:St):St:=qM4 k Option.none++a.map λj=>(Z[j]?).getD Option.none
def LM(f:TI)(k:Nat)(d:List Nat)(g:TG)(tc:TT)(h:TE):TE:=fun Z H Q =>
 f Z H λe b=>∀D,b D=Z8->∃W:Nat->Nat->List V->Hp->Prop,(∃m,W 0 m [] (ZC b D (.lst [])))/\∀i m a c,W i m a c->LO e D W (Q (.ref D)) g tc h (WO k d Z) i m a c
theorem Gj(h:(WO k a Z)[i]?=Z9 (Z9 v)):∃j,k<=i/\a[i - k]?=Z9 j/\Z[j]?=Z9 (Z9 v):=by
 unfold WO at h;by_cases b:i<k
 .rw[qA8 (by simpa using b),qJ7]at h;simp at h
 .rw[qA1 (by simpa using b),qI9,qB1]at h;cases e:a[i - k]? with
  |none=>rw[e]at h;simp at h
  |some j =>
   rw[e]at h;simp only[qQ6,Option.some.injEq]at h;refine⟨j,by lia,rfl,?_⟩;cases q:Z[j]? with
   |none=>rw[q]at h;simp at h
   |some z =>
    rw[q]at h;simp at h;rw[h]
theorem Gi(h:scope.names.lookup x=Z9 .free):(uD scope env).names.lookup x=Z9 .cell∨(uD scope env).names.lookup x=Z9 .free:=by
 unfold uD;dsimp only;generalize scope.names=ns at h
 induction ns with
 |nil=>cases h
 |cons a r c =>
  obtain⟨n,k⟩:=a;rw[qE1]at h;rw[qB8];cases b:x == n with
  |true =>
   rw[b]at h;cases h;split
   .exact .inl (by rw[qE1,b])
   .exact .inr (by rw[qE1,b])
  |false =>
   rw[b]at h;split
   .rw[qE1,b];exact c h
   .rw[qE1,b];exact c h
inductive SQ(Y:Cx)(Z0:St)(tn:Nat->jH->Prop)(fp:yC)(W:Nat->Nat->List V->Hp->Prop)(n:Nat)(s:yQ):Prop
 |mk (i:Nat) (ys:List V) (H:Hp) (I:ZP Y [] Z0 H s) (st:tn i s.heap) (fr:∀b∈fp,H b=Z8) (w:W i n ys H)
theorem xu{Y:Cx}
  (hc:Y.calm=Z7) (hx:Y.xe=λ_ _=>False) (T:W5 Y.prog Y.w Y.K P JJ j it J) (a:∀O,(∀b∈j,O b=Z8)->∀b∈j,Yj Y [] O b)
  (hg:PG Y P g) (U:SU Y l tc) (hte:PE Y elt te) (F:∀i m ys H2,W i m ys H2->LO JJ D W Q g tc te t i m ys H2) (fin:∀h G,ZP Y [] t h G->Q h->R (.ok .next) G)
   (h0:SQ Y t J j W n s) (st3:J 0 s.heap):wD (yV Y.prog Y.w) Y.A (.compStart (.ListComp elt [⟨P,iter,l,0⟩] scope pos) 0 (.ref it) (.ref D) Y.env) R s:=by
 have c:wD (yV Y.prog Y.w) Y.A (.compLoop (.ListComp elt [⟨P,iter,l,0⟩] scope pos) 0 (.ref it) (.ref D) Y.env) R s:=by
  refine xy (SQ Y t J j W) ?_ n h0;rintro n s4 ⟨i,ys,h,I4,w,v,w4⟩;obtain⟨hD4,hd⟩:=F i n ys h w4;rcases hd with⟨B,q⟩| ⟨go,hz,step⟩
  .refine Zq (T.done Y rfl rfl rfl hc i [] s4 _ h _ I4 (a _ v) w B) λr G ⟨hr,I5⟩=>?_;subst hr;exact fin h G I5 q
  .refine Zq (T.item Y rfl rfl rfl hc i [] s4 _ h _ I4 (a _ v) w go) λr G ⟨u,hr,h5⟩=>?_;subst hr;refine Zq h5 λ_ s6 ⟨x,H6,I6,r6,y6,k,fr6⟩=>?_;have I6':=I6.pinned (a _ fr6) (T.obj _ _ k);have back:∀{f:St}{p:Hp}{s7:yQ}{m:Nat}{zs:List V},ZP Y ([]++QY j s6.heap) f p s7->TZ t f->W (i+1) m zs p->SQ Y t J j W m s7:=λ{f p s7 m zs} A hw w7=>by refine⟨i+1,zs,p,A.unpinned.weak hw.1 hw.2,T.keep _ _ _ k λb K o e=>(A.pin (b,o) (qD0 _ (qD0 _ (QX K e)))).1,λb K=>?_,w7⟩;obtain⟨o,e,d⟩:=T.obj _ _ k b K;exact(A.pin (b,o) (qD0 _ (qD0 _ (QX K e)))).2.1
   have L:∀{E:yL} e s',Y.xe e s'->E e s':=λe s' z=>by rw[hx]at z;exact z.elim
   refine jS (hg _ s6 _ H6 x u _ I6' r6 (step x H6 y6)) (λ_ s7 ⟨f,p,A,I,q7⟩=>?_) L;refine jS (U _ s7 f p _ A q7) (λb s8 ⟨H8,I8,q8⟩=>?_) L;cases b with
   |false =>
    obtain⟨M,S,w8⟩:=(by simpa using q8)
    exact⟨M,S,back I8 I w8⟩
   |true =>
    refine jS (hte _ s8 f H8 _ I8 q8) (λy s9 ⟨vy,H9,I9,r9,q9⟩=>?_) L;obtain⟨hD9,M,S,w9⟩:=q9;refine jS (Gw _ s9 f H9 (.ref D) [vy] (.ref D) [y] (λ_ O=>W (i+1) M (ys++[vy]) O) I9 rfl (.cons r9 .nil) ⟨_,ys,vy,rfl,rfl,hD9,hz,w9⟩) (λz s10 ⟨_,H10,I10,_,q10⟩=>?_) L;exact⟨M,S,back I10 I q10⟩
 exact codeAny_compStart_list c (T.self _ 0 _ _ _ st3 c)
theorem xt{L:yE}{RR:yT->yR->dN->yQ->Prop}
  (n:RQ X scope N k js) (d:ZP X pins Z I s2) (T:W5 X.prog X.w X.K U JJ Q it Y) (F:Y 0 s2.heap) (f2:∀b∈Q,Yj X pins I b)
  (h:∀(cl:List (Str×yR)) (C:yR) (E:yQ),s2.heap.objs.size<=C->s2.heap.objs.size≠C->ZP (WW X scope N cl s2 I C Q) [] (WO k js Z) (ZC I s2.heap.objs.size (.lst [])) E->Y 0 E.heap ->
   wD (yV X.prog X.w) X.A (.compStart (.ListComp elt [⟨U,iter,L,0⟩] scope pos) 0 (.ref it) (.ref s2.heap.objs.size) (compEnvC scope cl C X.env)) (RR (.ref s2.heap.objs.size) C) E) :
  y7 (yV X.prog X.w) X.A (newList []) (λacc s3=>y7 (yV X.prog X.w) X.A (mX scope X.env.globals (Yh X.env scope.names []) [] X.env.qual Z8 .none (Z9 X.env)) (λg E =>
   wD (yV X.prog X.w) X.A (.compStart (.ListComp elt [⟨U,iter,L,0⟩] scope pos) 0 (.ref it) acc { g with scope:=uD scope X.env }) (RR acc g.locals) E) X.xe s3) X.xe s2:=by
 have l:=λx hx=>d.ok.has x (n.free x hx);refine jV (xA ?_);dsimp only;generalize hP:s2.heap.push { cls:=.type "list",dict:=Z8,data:=.seq ([]).toArray }=P;have K:P.objs.size=s2.heap.objs.size+1:=by rw[<- hP,qG4]
 have w:s2.heap.objs.size≠P.objs.size:=by rw[K];exact qB7 (qI6 _)
 have a:s2.heap.objs.size<=P.objs.size:=by rw[K];exact qU7 _
 generalize hP2:P.push { cls:=.type "dict",data:=.dict #[] }=P2;have B:P2.objs.size=P.objs.size+1:=by rw[<- hP2,qG4]
 have G:(lM P2 scope.names).Ns P.objs.size (λ_=>Z8):=(hP2▸Heap.Ns.new P (.type "dict")).keeps (fX _ _);have f:∀b o,s2.heap.get? b=Z9 o->(lM P2 scope.names).get? b=Z9 o:=λb o e=>fX _ _ _ _ (hP2▸qA3 _ (hP▸qA3 _ e));have D:(lM P2 scope.names).get? s2.heap.objs.size=Z9 { cls:=.type "list",dict:=Z8,data:=.seq ([]).toArray }:=fX _ _ _ _ (hP2▸qA3 _ (hP▸qA9 _ rfl));have S:∀b∈Q,b<s2.heap.objs.size:=λb hb=>by obtain⟨o,e,_⟩:=T.obj _ _ F b hb;exact qB3 e
 have ok:=d.compOk (N:=N) n.kind l B a f2 S;refine h (wB P2.objs.size scope.names (Yh X.env scope.names [])) P.objs.size _ a w ?_ (T.keep _ _ _ F λb _ o e=>f b o e);refine⟨ok,rfl,d.bare,Un.laid f (qA7 _) (d.hok.fresh (qA7 _)),⟨_,G,λi x v e1 e2 e3=>?_⟩,λx c e=>?_,?_,λx c e=>?_,λp hp=>(by cases hp),d.hok.laid f (qA7 _) ?_,?_⟩
 .obtain⟨j,hki,hj,hv⟩:=Gj e2;obtain⟨y,n1,n2,R,n4⟩:=n.js _ j hj;have ei:k+(i - k)=i:=by lia
  rw[ei]at n1;have A:N[i]?=Z9 x:=e1;rw[n1]at A;cases A;obtain⟨m,hn,hl⟩:=d.loc;obtain⟨u,r,lk⟩:=hl j x v n2 hv n4;refine⟨u,r,?_⟩;have mem:=LR R;rcases lk with⟨V,_⟩| ⟨V,c,ec,ce⟩
  .rcases n.free x mem with z|z
   .rw[z]at V;cases V
   .simp_all
  .obtain⟨c0,J⟩:=OC scope.names P2.objs.size _ (.inr (QM scope.names [] x (.inr ⟨mem,c,ec⟩)));have W:c0=c:=by
    rcases SV _ _ _ J with⟨q,_⟩| ⟨_,q⟩
    .have:=n.cell x q;rw[R]at this;cases this
    .have:=TY q;rw[ec]at this;cases this;rfl
   subst W;refine .inr ⟨Gi R,c0,J,?_⟩;obtain⟨o,t,O⟩:=ce;exact⟨o,f _ _ t,O⟩
 .rcases SV _ _ _ e with⟨_,_,q⟩| ⟨_,q⟩
  .exact⟨_,q⟩
  .obtain⟨v,o,t,O⟩:=d.cell x c (TY q);exact⟨v,o,f _ _ t,O⟩
 .show ZC I s2.heap.objs.size (.lst []) P.objs.size=Z8;rw[YI (Ne.symm w)];exact d.hok.fresh a
 .rcases SV _ _ _ e with⟨_,q,_⟩| ⟨_,q⟩
  .have M:s2.heap.objs.size<c:=qC1 (by lia) q;rw[YI (qL1 M)];exact d.hok.fresh (qH5 M)
  .obtain⟨v,o,t,O⟩:=d.cell x c (TY q);rw[YI (qB7 (qB3 t))];exact d.freeC x c (TY q)
 .exact⟨qE6 _,[],_,.nil,D⟩
 .unfold WO;rw[qC2,qI9,qA0];exact n.len.symm
theorem Gh{K:yR}{A:yT->yR->dN->yQ->Prop}{Q:V->Hp->Prop}
  (z:RQ X scope N k x) (E:ZP X pins Z a s2) (T:W5 X.prog X.w X.K w G r K I) (h:I 0 s2.heap) (J:∀b∈r,Yj X pins a b)
  (R:∀cl s H C ex,PG (WW X scope N cl s H C ex) w g) (y:∀cl s H C ex,SU (WW X scope N cl s H C ex) l tc) (v:∀cl s H C ex,PE (WW X scope N cl s H C ex) elt B)
  (O:∀D,a D=Z8->∃W:Nat->Nat->List V->Hp->Prop,(∃m,W 0 m [] (ZC a D (.lst [])))/\∀i m ys a,W i m ys a->LO G D W (Q (.ref D)) g tc B (WO k x Z) i m ys a)
  (fin:∀cl C n u,s2.heap.objs.size<=C->s2.heap.objs.size≠C->ZP (WW X scope N cl s2 a C r) [] (WO k x Z) n u->Q (.ref s2.heap.objs.size) n->A (.ref s2.heap.objs.size) C (.ok .next) u) :
  y7 (yV X.prog X.w) X.A (newList []) (λacc U=>y7 (yV X.prog X.w) X.A (mX scope X.env.globals (Yh X.env scope.names []) [] X.env.qual Z8 .none (Z9 X.env)) (λc F =>
   wD (yV X.prog X.w) X.A (.compStart (.ListComp elt [⟨w,iter,l,0⟩] scope pos) 0 (.ref K) acc { c with scope:=uD scope X.env }) (A acc c.locals) F) X.xe U) X.xe s2:=by obtain⟨W,⟨m0,w0⟩,f⟩:=O s2.heap.objs.size (E.hok.fresh (qA7 _));refine xt z E T h J λcl C F L M t j=>?_;refine xu (Y:=WW X scope N cl s2 a C r) z.calm rfl T (λH' hn b d=>⟨hn b d,(t.ok.exf b d).1,t.ok.exfs b d,.inl d,(t.ok.exf b d).2,λp P=>by cases P⟩) (R _ _ _ _ _) (y _ _ _ _ _) (v _ _ _ _ _) f (λn u S q=>fin cl C n u L M S q) ⟨0,[],_,t,j,λb d=>?_,w0⟩ j;obtain⟨o,e,_⟩:=T.obj _ _ h b d;rw[YI (qB7 (qB3 e))];exact(J b d).1
theorem xr{K:List Nat}(w:RQ X scope N k K)(hi:PI X B iter M)
  (hg:∀cl s H C ex,PG (WW X scope N cl s H C ex) B g) (E:∀cl s H C ex,SU (WW X scope N cl s H C ex) t tc) (y:∀cl s H C ex,PE (WW X scope N cl s H C ex) elt G)
  (hs:∀x,wM iter X.env x=pure x:=by intro _;rfl):PE X (.ListComp elt [⟨B,iter,t,0⟩] scope pos) (LM M k K g tc G):=by
 intro p s Z H Q I h;refine lB rfl hs (Gm λx f=>I.ok.has x (w.free x f)) w.kind w.names (Zq (hi p s Z H _ I h) λv s1 O=>Zq O λitv L V=>?_);obtain⟨it,fp,tn,JJ,H2,e,J,T,D,r,W⟩:=V;subst e;refine Gh w J T D r hg E y W λcl C F s5 j P i q=>?_;obtain⟨m,hn,_⟩:=id i.loc;have R:F C=Z8:=i.free;refine⟨m,hn,λh' a=>⟨.ref L.heap.objs.size,F,?_,rfl,q⟩⟩;have A:∀b o,L.heap.get? b=Z9 o->b≠C:=λb o e=>qB7 (qC1 (qB3 e) j);refine J.call' (s':={ s5 with heap:=h' }) i.os ?_ (λb u e=>?_) i.bare (λb d=>⟨(r b d).2.2.2.1,(r b d).2.1,(r b d).2.2.2.2.1,(r b d).2.2.2.2.2⟩)
 .have U:=i.base;exact⟨λb o e n d f=>(a.2 b (A b o e)).trans (U.keep b o e n d f),λb o e n d f=>by
    obtain⟨sl,z⟩:=U.slot b o e n d f;exact⟨sl,(a.2 b (A b o e)).trans z⟩,U.free,λb o e f=>by
    obtain⟨S,z⟩:=U.there b o e f;exact⟨S,(a.2 b (A b o e)).trans z⟩,U.tups,U.frzs,U.tbls⟩
 .refine(i.hok b u e).stay (λc w' Y l=>(a.2 c ?_).trans l) (λ_ l=>l) λ_ _ l=>l
  grind
end
theorem LL(h:H p=Z8)(o:HO):XR H (ZC H p o):=λb u q=>by rw[YI (UZ q h)];exact q
theorem XR.tup{K:yS}(e:XR H b)(h:Zp K H a xs):Zp K b a xs:=by
 rcases h with(h|⟨o,h⟩)| h
 .exact .inl (.inl (e _ _ h))
 .exact .inl (.inr ⟨o,e _ _ h⟩)
 .exact .inr h
section
variable {X:Cx}{pins:yD}{Z:St}{H:Hp}{s:yQ}
theorem ZP.yields{wr:yC}{T:yR}(I:ZP X pins Z H s)(f:∀b∈wr,Yj X pins H b)(k:∀b o,b∉wr->s.heap.get? b=Z9 o->h'.get? b=Z9 o)
  (j:s.heap.objs.size<=T) (r:ZO xs d) (hz:xs.length<=jC) (ht:dR h' T d.toArray):ZP X pins Z (ZC H T (.tup xs)) { s with heap:=h',toks:=tk }:=by
 have p:∀b o,s.heap.get? b=Z9 o->b≠T:=λb o e=>qB7 (qC1 (qB3 e) j);have h:∀b u,H b=Z9 u->b≠T:=λb u e=>qB7 (qC1 (I.hok.lt e) j);have l:∀b u,H b=Z9 u->b∉wr:=λb u e a=>by rw[(f b a).1]at e;cases e
 refine I.call' (s':={ s with heap:=h',toks:=tk }) rfl ⟨λb o e n _ g=>k b o g e,λb o e n _ g=>⟨o.slots,k b o g e⟩,λb o e n _=>?_,λb o e g=>⟨o,k b o g e⟩,λb m e=>?_,λb o u e=>?_,λb t e=>⟨#[],?_⟩⟩ (λb u e=>?_) I.bare
  (λb a=>⟨(f b a).2.2.2.1,(f b a).2.1,(f b a).2.2.2.2.1,(f b a).2.2.2.2.2⟩)
 .rw[YI (p b o e)];exact n
 .rw[YI (h b _ e)];exact e
 .rw[YI (h b _ e)];exact e
 .rw[YI (h b _ e),e];simp
 .by_cases a:b=T
  .subst a;rw[Xx]at e;cases e;exact⟨hz,d,r,ht⟩
  .rw[YI a]at e;refine(I.hok b u e).stay (λc v i q=>k c v ?_ q) (λc q=>?_) λc m q=>?_
   .rcases i with rfl|i
    .exact l _ _ e
    .exact l _ _ i
   .rw[YI (h c _ q)];exact q
   .rw[YI (h c _ q)];exact q
theorem ZP.turnedL{wr:yC}(I:ZP X pins Z H s)(d:∀b∈wr,Yj X pins H b)(k:∀b o,b∉wr->s.heap.get? b=Z9 o->h'.get? b=Z9 o):ZP X pins Z H { s with heap:=h',toks:=tk }:=by
 have h:∀b u,H b=Z9 u->b∉wr:=λb u e a=>by rw[(d b a).1]at e;cases e
 refine I.call' (s':={ s with heap:=h',toks:=tk }) rfl ⟨λb o e n _ f=>k b o f e,λb o e n _ f=>⟨o.slots,k b o f e⟩,λb o e n _=>n,λb o e f=>⟨o,k b o f e⟩,λb i e=>e,λb o u e=>e,λb j e=>⟨#[],by rw[e];simp⟩⟩ (λb u e=>?_) I.bare
  (λb a=>⟨(d b a).2.2.2.1,(d b a).2.1,(d b a).2.2.2.2.1,(d b a).2.2.2.2.2⟩)
 refine(I.hok b u e).stay (λc v g q=>k c v ?_ q) (λc q=>q) λc i q=>q;rcases g with rfl|g
 .exact h _ _ e
 .exact h _ _ g
end
section
variable {X:Cx}
theorem xq:YB X (.type "range") (λf H Q=>∃i j:Int,f=[.int i,.int j]/\∀p,H p=Z8->Q (.ref p) (ZC H p (.rng i j))):=by intro a s Z H l k Q I r h;obtain⟨i,j,rfl,q⟩:=h;obtain⟨u,v,rfl,d,c⟩:=QR r;obtain⟨t,rfl⟩:=d;obtain⟨g,rfl⟩:=c;refine call_range_2 ⟨.ref s.heap.objs.size,_,I.laid (λb o e=>qA3 _ e) (qA7 _) ?_,rfl,q _ (I.hok.fresh (qA7 _))⟩;exact⟨_,_,_,qA9 _ rfl⟩
theorem xp:YB X (.type "range") (λd H Q=>∃j:Int,d=[.int j]/\∀p,H p=Z8->Q (.ref p) (ZC H p (.rng 0 j))):=by intro a s Z H g f Q I r h;obtain⟨j,rfl,q⟩:=h;obtain⟨u,rfl,c⟩:=XS r;obtain⟨t,rfl⟩:=c;refine call_range_1 ⟨.ref s.heap.objs.size,_,I.laid (λb o e=>qA3 _ e) (qA7 _) ?_,rfl,q _ (I.hok.fresh (qA7 _))⟩;exact⟨_,_,_,qA9 _ rfl⟩
def RP(lo:Int)(n:Nat):List V:=(List.range n).map λk=>V.int (lo+(k:Nat))
theorem xo{lo:Int}{acc:yJ}(h:ItemsOf (λi v=>∃t,v=.int (lo+i*1) t) acc n):ZO (RP lo n) acc.toList:=by
 obtain⟨f,h⟩:=h;have c:∀k us lo,us.length=k->(∀i v,us[i]?=Z9 v->∃t,v=Value.int (lo+(i:Nat)) t)->ZO ((List.range k).map λj=>V.int (lo+(j:Nat))) us:=by
  intro k
  induction k with
  |zero=>intro us lo b _;cases us with
   |nil=>exact .nil
   |cons a r=>simp at b
  |succ k g =>
   intro us lo b d;cases us with
   |nil=>simp at b
   |cons a r =>
    rw[qM5,qB8,qC7];refine .cons ?_ ?_
    .obtain⟨t,e⟩:=d 0 a rfl;exact⟨t,e⟩
    .have:=g r (lo+1) (by simpa using b) λi v e=>by obtain⟨t,q⟩:=d (i+1) v (by simpa using e);exact⟨t,by rw[q];congr 1;lia⟩
     have e:((λj=>V.int (lo+(j:Nat)))∘Nat.succ)=λj=>V.int (lo+1+(j:Nat)):=by
      funext j;simp only[Function.comp];congr 1
      lia
     rw[e];exact this
 exact c n acc.toList lo (by simpa using f) λi v e=>by obtain⟨t,q⟩:=h i v (by simpa using e);exact⟨t,by rw[q,Int.mul_one]⟩
theorem xn(g:X.calm=Z7):YB X (.type "list") (λA H Q=>∃p i j,A=[.ref p]/\H p=Z9 (.rng i j)/\-(2 ^ 62)<=i/\i<2 ^ 62/\-(2 ^ 62)<=j/\j<2 ^ 62/\(j - i).toNat<=1000/\∀l,H l=Z8->Q (.ref l) (ZC H l (.lst (RP i (j - i).toNat)))):=by
 intro b s Z H D B Q I r h;obtain⟨p,i,j,rfl,m,b1,x,k,y,c,q⟩:=h;obtain⟨u,rfl,w⟩:=XS r;cases w;obtain⟨t,u,v,e⟩:=(I.hok _ _ m)
 refine call_list_range (I.ok.hd g) (e) (small_one b1 x k y) (by rw[rangeSize_one];split<;>lia) (qD4 c (by decide)) λE C a n hk z f=>?_;have d:=xo f;refine⟨.ref s.heap.objs.size,_,I.laid (o:=.lst (RP i (j - i).toNat)) hk (qA7 _) ⟨?_,a.toList,n,d,by simpa using z⟩,rfl,q _ (I.hok.fresh (qA7 _))⟩;unfold RP;rw[qA0,qD2];exact qD4 c (by decide)
def xm:V->List V->Hp->VK->Prop:=λx b H Q=>∃(l:yR) (a:List V) (i:Nat) (y:V),x=.ref l/\b=[.int i,y]/\H l=Z9 (.lst a)/\a.length<1000/\i<=a.length/\Q .non (ZC H l (.lst (a.take i++y::a.drop i)))
theorem xl:RU X "list.insert" xm:=by
 intro g s Z H x D v A Q I k m h;obtain⟨l,B,i,y,rfl,rfl,f,w,u,q⟩:=h;cases k;obtain⟨C,d,rfl,p,j⟩:=m.two;obtain⟨t,rfl⟩:=p;obtain⟨z,a,n,r,o,e⟩:=I.lstM f;generalize hx:(i:Int)=x;have b:¬(!Builtin.List.listFitsIndex x)=Z7:=by rw[fitsIndex_both (by lia) (by lia)];exact qB4
 have c:a.toArray.size<=sizeLine:=by rw[qB2,<- o];exact z
 refine fO F.slot_list_insert ⟨_,e,rfl⟩ F.entry_list_insert (F.args_list_insert_3 _ _ _) (PySem.AutoSeq1.list_insert_list_int_val_1 l _ n x t d b c) ⟨e,?_⟩;refine⟨.non,_,I.lset (its':=a.take i++d::a.drop i) f e ?_ ((r.take i).append (.cons j (r.drop i))) ?_,rfl,q⟩
 .have hk:(if x<0 then(x+(a.toArray.size:Int)).toNat else min x.toNat a.toArray.size)=i:=by
   rw[if_neg (by lia),qB2]
   lia
  rw[hk];simp;exact qI4 (by rw[qI5];exact qA7 _)
 .rw[qC2,qD3,qF7,qI5];have:1000<=sizeLine:=by decide
  lia
theorem Gg{bs:List Bool}(r:ZO (bs.map V.bl) c):TruthOf prog w A (λi v=>c.toArray[i]?=Z9 v) (λi=>bs.getD i Z5):=by
 intro i v s Q E g l;have a:=by simpa using g
 have f:i<bs.length:=by
  have m:=(qA4.mp a).1;have h:=r.length;rw[qA0]at h
  lia
 obtain⟨u,e,j⟩:=ZO.get r (by rw[qB1,qA2 f];rfl);rw[e]at a;cases a;have d:=j;subst d;have k:bs.getD i Z5=bs[i]:=by simp[qF4,f]
 have b:Q (bs.getD i Z5) s:=l;rw[k]at b;exact jU b
theorem Gf(bs:List Bool):(List.range bs.length).all (λi=>bs.getD i Z5)=bs.all id:=by
 induction bs with
 |nil=>rfl
 |cons b r a =>
  rw[qD3,qM5,qK9,qO3,qK9];rw[<- a];rfl
theorem Ge(bs:List Bool):(List.range bs.length).any (λi=>bs.getD i Z5)=bs.any id:=by
 induction bs with
 |nil=>rfl
 |cons b r a =>
  rw[qD3,qM5,qG8,qT4,qG8];rw[<- a];rfl
theorem xj(k:X.calm=Z7):YB X (.builtin "all") (λv H Q=>∃(p:yR) (bs:List Bool),v=[.ref p]/\YK X.K H p (bs.map V.bl)/\Q (.bl (bs.all id)) H):=by
 intro f s Z H y x Q I r h;obtain⟨p,bs,rfl,t,q⟩:=h;obtain⟨u,rfl,m⟩:=XS r;cases m;obtain⟨c,g,pl,w⟩:=I.list t;have d:p<s.heap.objs.size:=by obtain⟨_,e,_⟩:=pl.isList;exact qB3 e
 have a:=g.length;rw[qA0]at a;refine call_all_walk (jW pl.isList ?_);refine⟨s.heap.objs.size,_,[s.heap.objs.size],_,_,_,_,rfl,Walks.list (A:=X.A.in1) (I.ok.hd k) s.heap.objs.size p (qB7 d) c.toArray,⟨⟨_,qA9 _ rfl,rfl,rfl⟩,pl.isList.push _⟩,Gg g,λz l n=>?_⟩;have e:(List.range c.toArray.size).all (λi=>bs.getD i Z5)=bs.all id:=by rw[qB2,<- a];exact Gf bs
 rw[e];refine⟨.bl (bs.all id),H,?_,rfl,q⟩;exact I.kept (t':=l) λb o j=>n b o (by simp only[qB6];exact qB7 (qB3 j)) (qA3 _ j)
theorem xi(k:X.calm=Z7):YB X (.builtin "any") (λv H Q=>∃(p:yR) (bs:List Bool),v=[.ref p]/\YK X.K H p (bs.map V.bl)/\Q (.bl (bs.any id)) H):=by
 intro f s Z H y x Q I r h;obtain⟨p,bs,rfl,t,q⟩:=h;obtain⟨u,rfl,m⟩:=XS r;cases m;obtain⟨c,g,pl,w⟩:=I.list t;have d:p<s.heap.objs.size:=by obtain⟨_,e,_⟩:=pl.isList;exact qB3 e
 have a:=g.length;rw[qA0]at a;refine call_any_walk (jW pl.isList ?_);refine⟨s.heap.objs.size,_,[s.heap.objs.size],_,_,_,_,rfl,Walks.list (A:=X.A.in1) (I.ok.hd k) s.heap.objs.size p (qB7 d) c.toArray,⟨⟨_,qA9 _ rfl,rfl,rfl⟩,pl.isList.push _⟩,Gg g,λz l n=>?_⟩;have e:(List.range c.toArray.size).any (λi=>bs.getD i Z5)=bs.any id:=by rw[qB2,<- a];exact Ge bs
 rw[e];refine⟨.bl (bs.any id),H,?_,rfl,q⟩;exact I.kept (t':=l) λb o j=>n b o (by simp only[qB6];exact qB7 (qB3 j)) (qA3 _ j)
theorem xh:YY X (jD .Is) (λx y H Q=>∃a b,x=.bl a/\y=.bl b/\Q (.bl (a == b)) H):=by intro c s Z H x y v u Q I d e h;obtain⟨a,b,rfl,rfl,q⟩:=h;cases d;cases e;exact is_bool ⟨.bl (a == b),H,I,rfl,q⟩
theorem xg:YY X (jD .IsNot) (λx y H Q=>∃a b,x=.bl a/\y=.bl b/\Q (.bl (a != b)) H):=by intro c s Z H x y v u Q I d e h;obtain⟨a,b,rfl,rfl,q⟩:=h;cases d;cases e;exact isnot_bool ⟨.bl (a != b),H,I,rfl,q⟩
end
section
variable {X:Cx}
def xf(K:yS):R2:=λx y H Q=>∃a b e c,x=.ref a/\y=.ref b/\H a=Z9 (.tup e)/\H b=Z9 (.tup c)/\e.length+c.length<=jC/\∀p d,XR H d->d p=Z9 (.tup (e++c))->Q (.ref p) d
theorem xc:YY X (jP .Add) (xf X.K):=by
 intro d s Z H x y v u Q I r D h;obtain⟨a,b,B,K,rfl,rfl,l,m,F,q⟩:=h;by_cases t:B=[]
 .subst t;cases r;cases D;obtain⟨R,P,L,_⟩:=I.tuple (Zp.of l);obtain⟨g,S,O,_⟩:=I.tuple (Zp.of m);have e:=(P.nil_iff).mpr rfl;subst e;obtain⟨⟨N,E,z,J⟩,o,w,n,A⟩:=id L;obtain⟨⟨C,k,data2,j⟩,f,c,M,i⟩:=id O;simp only at w A c i;subst w A c i;exact uA ⟨_,o,rfl⟩ ⟨_,f,rfl⟩ lK dG fF wZ (wR _ _)
   (tuple_addW0 a b ([]).toArray g.toArray n M E k J j (by simp)) ⟨o,f,⟨.ref b,H,I,rfl,q b H (XR.refl H) m⟩⟩
 .refine yt d s Z H (.ref a) (.ref b) v u Q I r D ⟨a,b,B,K,rfl,rfl,Zp.of l,Zp.of m,t,F,λe=>?_,λ_ p G=>q p _ (LL G _) Xx⟩;subst e;exact q a H (XR.refl H) (by rw[qI1];exact l)
theorem xb(xs:List V)(lo hi:yG)(h:HT.sIx xs.length 0 lo=0/\HT.sIx xs.length xs.length hi=xs.length):W4 xs lo hi=xs:=by unfold W4;rw[h.1,h.2,List.drop_zero,Nat.sub_zero,qG2]
theorem xa{E:yL}{items:yJ}{lo hi:yG}{Q:yL}(ht:dR s.heap t items)(hs:s.heap.IsSliceOf sl g f .none)(pl:lV g lo)(k:lV f hi)
  (e:HT.sIx items.size 0 lo=0/\HT.sIx items.size items.size hi=items.size)
  (h:Q (.ref t) s):y7 (yV prog w) A (gP (.ref t) (.ref sl)) Q E s:=by
 obtain⟨j,d,c,i⟩:=id hs;have b:s.TypeIs (.ref sl) "slice":=⟨j,d,c⟩
 unfold gP
 try with_reducible refine jM ?_
 refine yO (wpAny_sequenceKey ht.typeIs (by decide) ?_);refine yO (jK ht.typeIs vK
  (jI vK ht.typeIs dE ?_ (args_tuple_getitem _ _)))
 show y7 _ _ (Builtin.Tuple.tupleItemsOf (.ref t) >>= _) _ _ s;refine yO (tupleItemsOf_ ht ?_);refine yO (j9 b ?_);refine yO (HT.sliceApplied_gen hs pl k ?_);have a:(((HT.sIx items.size 0 lo):Int) == 0&&(1:Int) == 1&&(HT.sIx items.size items.size hi - HT.sIx items.size 0 lo) == items.size)=Z7:=by rw[e.1,e.2];simp
 show y7 _ _ (if(((HT.sIx items.size 0 lo):Int) == 0&&1 == 1&&(HT.sIx items.size items.size hi - HT.sIx items.size 0 lo) == items.size)=Z7 then _ else _) _ _ s;rw[if_pos a];refine yO (yO (j9 ht.typeIs (yP ?_)));exact yO (vM (yP ⟨_,rfl,yP h⟩))
def wz(K:yS):V->yG->yG->Hp->VK->Prop:=λx d e H Q=>∃a c,x=.ref a/\H a=Z9 (.tup c)/\∀p b,XR H b->b p=Z9 (.tup (W4 c d e))->Q (.ref p) b
theorem wy:RY X (wz X.K):=by
 intro d s Z H x v u t g e o Q I l k pl m h;obtain⟨a,b,rfl,f,q⟩:=h;by_cases i:HT.sIx b.length 0 g=0/\HT.sIx b.length b.length e=b.length
 .cases l;obtain⟨j,r,ht,w⟩:=I.tuple (Zp.of f);have c:j.toArray.size=b.length:=by exact r.length.symm
  refine⟨"tuple",_,PyProof.Rows.slot_tuple_getitem.lookup,ht.typeIs,?_⟩;exact xa ht k pl m (by rw[c];exact i) ⟨.ref a,H,I,rfl,q a H (XR.refl H) (by rw[xb b g e i];exact f)⟩
 .exact yw d s Z H (.ref a) v u t g e o Q I l k pl m ⟨a,b,rfl,Zp.of f,i,λp n=>q p _ (LL n _) Xx⟩
end
structure RO(P:yZ)(w:jG)(K:yS)(mg:Str->yF)(base:jH)(x:Str)(ps:yH)(k:Nat)(sp:Sp):Prop where
 ex:∃f fd,X7 P w K mg base UW k f fd ps sp/\UD K fd ps []/\mU K (.ref f)=Z7/\mg x=Z9 (.ref f)
section
variable {X:Cx}{a b c d:jE}{ta tb tc td:TE}{pos:Pos}
theorem wx{es:yE}{p:Pos}(C:RO X.prog X.w X.K X.mg X.base x ps k sp)(o:Zf k' X.A)(l:Gl X x)(m:PA X (e::es) t)(hk:k<=k':=by decide)(hdb:VB x:=by decide)
  (h:jL (e::es) X.env=(Z5,v7 e X.env)::jL es X.env:=by rfl) (i:(wV pos (jL es X.env)).any (·.1)=Z5:=by rfl) :
  PE X (.Call (.Name x p) (e::es) [] pos) (Md sp [] E0 t):=by obtain⟨f,q,F,n,g,j⟩:=C.ex;exact zq (hdb:=hdb) (he:=h) (hpl:=i) F (o.mono hk) l j g n .nil xP m
end
def TK(K:yS)(H b:Hp):Prop:=∀p a,Zp K H p a->Zp K b p a
theorem TK.refl(K:yS)(H:Hp):TK K H H:=λ_ _ h=>h
theorem TK.trans{K:yS}(a:TK K H c)(b:TK K c H2):TK K H H2:=λp d h=>b p d (a p d h)
theorem dT{p:Prop}[Decidable p](h:p):decide p=Z7:=decide_eq_true h
theorem wu:jO "len"=Z9 (.builtin "len"):=by decide
theorem wt:jO "range"=Z9 (.type "range"):=by decide
theorem LK:jO "list"=Z9 (.type "list"):=by decide
theorem Gd:jO "tuple"=Z9 (.type "tuple"):=by decide
theorem wq:jO "min"=Z9 (.builtin "min"):=by decide
theorem wo:jO "max"=Z9 (.builtin "max"):=by decide
theorem wm:jO "zip"=Z9 (.type "zip"):=by decide
theorem wj:jO "isinstance"=Z9 (.builtin "isinstance"):=by decide
theorem wi:jO "all"=Z9 (.builtin "all"):=by decide
theorem wg:jO "any"=Z9 (.builtin "any"):=by decide
theorem Gc:jO "int"=Z9 (.type "int"):=by decide
theorem we:jO "bool"=Z9 (.type "bool"):=by decide
theorem wd:jO "str"=Z9 (.type "str"):=by decide
section
variable {X:Cx}{scope:vT}{N:yH}{k:Nat}
def HJ(X:Cx)(scope:vT)(N:yH)(k:Nat)(a:List Nat):Prop:=∀i j,a[i]?=Z9 j->∃x,N[k+i]?=Z9 x/\X.N[j]?=Z9 x/\scope.names.lookup x=Z9 .free/\VA X.env.scope x
theorem QL(c:N[k]?=Z9 a)(d:X.N[b]?=Z9 a)(f:scope.names.lookup a=Z9 .free)(e:VA X.env.scope a):HJ X scope N k [b]:=λi j h=>by
 match i,h with
 |0,h=>cases h;exact⟨a,c,d,f,e⟩
 |i+1,h=>simp at h
theorem OB(f:N[k]?=Z9 a)(e:X.N[b]?=Z9 a)(l:scope.names.lookup a=Z9 .free)(g:VA X.env.scope a)
  (m:N[k+1]?=Z9 x1) (b1:X.N[c]?=Z9 x1) (n:scope.names.lookup x1=Z9 .free) (d:VA X.env.scope x1):HJ X scope N k [b,c]:=λi j h=>by
 match i,h with
 |0,h=>cases h;exact⟨a,f,e,l,g⟩
 |1,h=>cases h;exact⟨x1,m,b1,n,d⟩
 |i+2,h=>simp at h
theorem Gb(p:N[k]?=Z9 a)(e:X.N[c]?=Z9 a)(l:scope.names.lookup a=Z9 .free)(g:VA X.env.scope a)
  (q:N[k+1]?=Z9 x1) (b1:X.N[d]?=Z9 x1) (n:scope.names.lookup x1=Z9 .free) (o:VA X.env.scope x1)
  (f:N[k+2]?=Z9 x2) (m:X.N[b]?=Z9 x2) (s:scope.names.lookup x2=Z9 .free) (r:VA X.env.scope x2):HJ X scope N k [c,d,b]:=λi j h=>by
 match i,h with
 |0,h=>cases h;exact⟨a,p,e,l,g⟩
 |1,h=>cases h;exact⟨x1,q,b1,n,o⟩
 |2,h=>cases h;exact⟨x2,f,m,s,r⟩
 |i+3,h=>simp at h
end
structure C4 where
 a:Int
 b:Int
 k:Int
 o:Int
def C4.ok(sw pl:Int)(c:C4):Prop:=0<=c.a/\c.a<c.b/\c.b<pl/\0<=c.k/\c.k<sw/\0<=c.o/\c.o<2
inductive UV(K:yS)(H:Hp):V->String->Prop where
 |non:UV K H .non "NoneType"
 |bl (x:Bool):UV K H (.bl x) "bool"
 |int (i:Int):UV K H (.int i) "int"
 |str (x:Str):UV K H (.str x) "str"
 |tup {a:yR}{xs:List V} (e:Zp K H a xs):UV K H (.ref a) "tuple"
 |lst {a:yR}{xs:List V} (e:YK K H a xs):UV K H (.ref a) "list"
 |dk {a:yR}{kvs:List (ZF×V)} (e:H a=Z9 (.dK kvs)):UV K H (.ref a) "dict"
def OA(t T:String):Bool:=t == T||(t == "bool"&&T == "int")
section
variable {X:Cx}
theorem wc{E:yL}{Z:St}{Q:yL}(I:ZP X k Z H s)(d:ZG x u)(ty:UV X.K H x t)(e:W.kitOne X.K (.type t) c=Z9 b)(h:∀tk,Q (.bool b) { s with toks:=tk }):
  y7 (yV X.prog X.w) A (call (.builtin "isinstance") [u,c]) Q E s:=by
 cases ty with
 |non=>cases (d);exact gB W.kitx_none I.kIn True.intro e (λz=>nomatch z) h
 |bl y=>cases (d);exact gB W.kitx_bool I.kIn True.intro e (λz=>nomatch z) h
 |int i=>obtain⟨t,q⟩:=(d);cases q;exact gB W.kitx_int I.kIn True.intro e (λz=>nomatch z) h
 |str y=>obtain⟨t,q⟩:=(d);cases q;exact gB W.kitx_str I.kIn True.intro e (λz=>nomatch z) h
 |@lst a m g =>
  cases (show u=Value.ref a from d);obtain⟨l,_,pl,_⟩:=I.list g;obtain⟨o,f,j,_⟩:=pl.isList;exact gB W.kitx_list I.kIn ⟨o,f,j⟩ e (λz=>nomatch z) h
 |@tup a m g =>
  cases (show u=Value.ref a from d);obtain⟨l,_,pl,_⟩:=I.tuple g;obtain⟨o,f,j,_⟩:=pl;exact gB W.kitx_tuple I.kIn ⟨o,f,j⟩ e (λz=>nomatch z) h
 |@dk a n g =>
  cases (show u=Value.ref a from d);obtain⟨_,_,w,_,p⟩:=(I.hok a _ g)
  obtain⟨o,r,v,f,j,_⟩:=p;exact gB W.kitx_dict I.kIn ⟨o,f,j.1⟩ e (λz=>nomatch z) h
theorem wb:YB X (.builtin "isinstance") (λg H Q=>∃x t T b,g=[x,.ty T]/\UV X.K H x t/\W.kitOne X.K (.type t) (.type T)=Z9 b/\Q (.bl b) H):=by intro a s Z H j i Q I r h;obtain⟨x,t,T,b,rfl,ty,e,q⟩:=h;obtain⟨u,v,rfl,f,d⟩:=QR r;cases d;exact wc I f ty e λc=>⟨.bl b,H,I.tok c,rfl,q⟩
end
theorem wa(K:yS):(∀t∈["NoneType","bool","int","str","tuple","list","dict"],∀T∈["bool","int","tuple","list","str","dict"],W.kitOne K (.type t) (.type T)=Z9 (OA t T)):=by intro t ht T a;simp only[qB0,qF8,or_false]at ht a;rcases ht with rfl|rfl|rfl|rfl|rfl|rfl|rfl<;>rcases a with rfl|rfl|rfl|rfl|rfl|rfl<;>rfl
mutual
inductive Rp(K:yS)(H:Hp)(a0:yR->Prop):V->v8->Prop where
 |non:Rp K H a0 .non .none
 |bl (b:Bool):Rp K H a0 (.bl b) (.bool b)
 |int (i:Int):Rp K H a0 (.int i) (.int i)
 |str (x:Str):Rp K H a0 (.str x) (.str x)
 |tup {p:yR}{xs:List V}{ds:List v8} (h:Zp K H p xs) (r:RpL K H a0 xs ds):Rp K H a0 (.ref p) (.tuple ds)
 |lst {p:yR}{xs:List V}{ds:List v8} (n:a0 p) (h:YK K H p xs) (r:RpL K H a0 xs ds):Rp K H a0 (.ref p) (.list ds)
inductive RpL(K:yS)(H:Hp)(a0:yR->Prop):List V->List v8->Prop where
 |nil:RpL K H a0 [] []
 |cons {x:V}{xs:List V}{d:v8}{ds:List v8} (h:Rp K H a0 x d) (t:RpL K H a0 xs ds):RpL K H a0 (x::xs) (d::ds)
end
def C4.d(c:C4):PyData:=.tuple [.int c.a,.int c.b,.int c.k,.int c.o]
section
variable {prog:yZ}{w:jG}{A:jF}{E:yL}{s:yQ}
theorem v5{d:yJ}{Q:yL}(c:s.heap.IsTupleIter j t n)(ht:s.heap.IsTuple t d)(e:d[n]?=Z9 v)
  (q:∀h',h'.IsTupleIter j t (n+1)->qE4 j s.heap h'->Q v { s with heap:=h' }):y7 (yV prog w) A (Builtin.SmallTypes.nextOf (.ref j)) Q E s:=by obtain⟨k,b,g,a⟩:=id c;obtain⟨i,f,_,m,h⟩:=ht;refine yO (jK c.typeIs vZ (jI vZ c.typeIs f8 ?_ (fY _)));show y7 _ _ (field (.ref j) 0 >>= _) _ _ s;refine yO (vW b a (x:=.ref t) rfl ?_);refine yO (vW b a (x:=.int n 0) rfl ?_);refine yO (vB f h ?_);simp only[e,qD9];refine yO (vJ b a (by simp) (yP ⟨v,rfl,yP (q _ ?_ (qE4.update ..))⟩));refine⟨_,qF9 _ b (wK (vD a _)),(fG ..).trans g,?_⟩;rw[vD a];simp[gD]
theorem vz{g:yJ}{Q:yL}(f:A.handled=Z8)(c:s.heap.IsTupleIter j t n)(ht:s.heap.IsTuple t g)(h:g[n]?=Z8)
  (q:∀h' e,qR9 j s.heap h'->(∃o,h'.get? e=Z9 o/\o.cls=.type "StopIteration")->E (.ref e) { s with heap:=h' }):y7 (yV prog w) A (Builtin.SmallTypes.nextOf (.ref j)) Q E s:=by
 obtain⟨p,b,r,d⟩:=id c;obtain⟨l,k,_,m,i⟩:=ht;refine yO (jK c.typeIs vZ (jI vZ c.typeIs f8 ?_ (fY _)));show y7 _ _ (field (.ref j) 0 >>= _) _ _ s;refine yO (vW b d (x:=.ref t) rfl ?_);refine yO (vW b d (x:=.int n 0) rfl ?_);refine yO (vB k i ?_);simp only[h,qD9];refine yO (vM (yO (vJ b d (by simp) ?_)));refine yO ?_;refine yO (m:=firstArgMember _ _) (wpAny_of_eq (a:=Value.none) (by first|(simp only[firstArgMember];rfl)| rfl) ?_);refine jV ?_ (by size_fits);refine yO (wpAny_handled ?_)
 first|rw[f]| rw[show A.in1.handled=Z8 from f]
 refine yO (yP (wpAny_throw ?_));exact q _ _ (((qE4.update ..).extBut.push _).push _) ⟨_,qA9 _ rfl,rfl⟩
end
theorem vx{prog:yZ}{w:jG}{A:jF}(k:A.handled=Z8)(j t:yR)(c:t≠j)(b:yJ):
  Draws prog w A j [j,t] b.size (λi v=>b[i]?=Z9 v) (λi h=>h.IsTupleIter j t i/\h.IsTuple t b) where
 live:=λ_ _ a=>let ⟨o,ho,_⟩:=a.1;⟨o,ho⟩
 frame:=λ_ _ _ a f=>⟨a.1.at λo e=>f j (by simp) o e,let ⟨o,ho,r⟩:=a.2;⟨o,f t (by simp) o ho,r⟩⟩
 item:=λi s Q E p a m=>v5 a.1 a.2 (v:=b[i]) (by simp) λn g d=>m _ n s.toks (by simp) ⟨g,a.2.extBut d.extBut c⟩ d
 done:=λs Q E a l=>vz k a.1 a.2 (by simp) l
section
variable {X:Cx}{pins:yD}{Z:St}{H:Hp}{s:yQ}
mutual
theorem ZP.reads(I:ZP X pins Z H s){m:yR->Prop}:∀{x:V}{d:v8}{u:yT},Rp X.K H m x d->ZG x u->∃c,Reads s.heap u d c
 |_,_,u,.non,r=>by cases (r);exact⟨_,.none⟩
 |_,_,u,.bl b,r=>by cases (r);exact⟨_,.bool b⟩
 |_,_,u,.int i,r=>by obtain⟨t,q⟩:=(r);cases q;exact⟨_,.int i t⟩
 |_,_,u,.str y,r=>by obtain⟨t,q⟩:=(r);cases q;exact⟨_,.str y t⟩
 |_,_,u,.tup h e,r=>by cases (r);obtain⟨k,l,⟨o,a,g,n,f⟩,_⟩:=I.tuple h;obtain⟨c,j⟩:=I.readsL e l;exact⟨_,.tuple a g f (by simpa using j)⟩
 |_,_,u,.lst _ h e,r=>by cases (r);obtain⟨k,l,pl,_⟩:=I.list h;obtain⟨o,a,g,n,f⟩:=pl.isList;obtain⟨c,j⟩:=I.readsL e l;exact⟨_,.list a g f (by simpa using j)⟩
theorem ZP.readsL(I:ZP X pins Z H s){d:yR->Prop}:∀{xs:List V}{ds:List v8}{a:yB},RpL X.K H d xs ds->ZO xs a->∃b,ReadsAll s.heap a ds b
 |_,_,_,.nil,.nil=>⟨_,.nil⟩
 |_,_,_,.cons h t,.cons r c=>by obtain⟨i,f⟩:=I.reads h r;obtain⟨g,e⟩:=I.readsL t c;exact⟨_,.cons f e⟩
end
def RN(d:v8):Prop:=d.canLay0=Z7/\d.depth<=60
theorem vw(o:X.A.units+64<vN):YY X (jD .Eq) (λx y H Q=>∃(N c:yR->Prop) (b a:v8),Rp X.K H N x b/\Rp X.K H c y a/\RN b/\RN a/\Q (.bl (PyData.eqv b a)) H):=by intro d s Z H x y v u Q I g m h;obtain⟨N,c,b,a,i,f,e,k,q⟩:=h;obtain⟨n,j⟩:=I.reads i g;obtain⟨bs,l⟩:=I.reads f m;exact SeqAt.compareEq_reads j l e.1 k.1 (by have:=e.2;lia) ⟨.bl _,H,I,rfl,q⟩
theorem vv(o:X.A.units+64<vN):YY X (jD .NotEq) (λx y H Q=>∃(N c:yR->Prop) (b a:v8),Rp X.K H N x b/\Rp X.K H c y a/\RN b/\RN a/\Q (.bl (!PyData.eqv b a)) H):=by intro d s Z H x y v u Q I g m h;obtain⟨N,c,b,a,i,f,e,k,q⟩:=h;obtain⟨n,j⟩:=I.reads i g;obtain⟨bs,l⟩:=I.reads f m;exact SeqAt.compareNe_reads j l e.1 k.1 (by have:=e.2;lia) ⟨.bl _,H,I,rfl,q⟩
end
def Xi(b:Bool)(K:yS)(H:Hp)(a:yR)(xs:List V):Prop:=match b with
 |true=>Zp K H a xs
 |false=>YK K H a xs
def V0(b:Bool)(h:jH)(a:yR)(c:yJ):Prop:=match b with
 |true=>h.IsTuple a c
 |false=>h.IsList a c
def Ws(b:Bool)(h:jH)(j a:yR)(i:Nat):Prop:=match b with
 |true=>h.IsTupleIter j a i
 |false=>h.IsListIter j a i
theorem Ws.obj(x:Ws b h j a i):∃o,h.get? j=Z9 o/\∀v,o.data≠.cell v:=by
 cases b with
 |true=>obtain⟨o,c,_,d⟩:=x;exact⟨o,c,λv q=>by rw[d]at q;cases q⟩
 |false=>obtain⟨o,c,_,d⟩:=x;exact⟨o,c,λv q=>by rw[d]at q;cases q⟩
theorem Ws.keep(x:Ws b h j a i)(e:∀o,h.get? j=Z9 o->h'.get? j=Z9 o):Ws b h' j a i:=by
 cases b with
 |true=>exact Heap.IsTupleIter.at x e
 |false=>exact Heap.IsListIter.at x e
theorem V0.lt(x:V0 b h a c):a<h.objs.size:=by
 cases b with
 |true=>obtain⟨_,e,_⟩:=x;exact qB3 e
 |false=>obtain⟨_,e,_⟩:=x;exact qB3 e
theorem Oz(b:Bool)(d:A.handled=Z8)(j t:yR)(a:t≠j)(c:yJ):
  Draws prog w A j [j,t] c.size (λi v=>c[i]?=Z9 v) (λi h=>Ws b h j t i/\V0 b h t c):=by
 cases b with
 |true=>exact vx d j t a c
 |false=>exact Draws.list d j t a c
section
variable {X:Cx}{pins:yD}{Z:St}{H:Hp}{s:yQ}
theorem ZP.sqX(I:ZP X pins Z H s)(h:Xi b X.K H a xs):∃c,ZO xs c/\V0 b s.heap a c.toArray:=by
 cases b with
 |true=>obtain⟨c,r,p,_⟩:=I.tuple h;exact⟨c,r,p⟩
 |false=>obtain⟨c,r,p,_⟩:=I.list h;exact⟨c,r,p.isList⟩
theorem ZP.sqX_inj(I:ZP X pins Z H s)(h:Xi b X.K H a xs)(h':Xi b X.K H a ys):xs=ys:=by
 cases b with
 |true=>exact I.tuple_inj h h'
 |false=>exact I.list_inj h h'
end
theorem allN{P:yR->Prop}:∀x∈([]:yC),P x:=λ_ h=>by cases h
theorem XQ{P:yR->Prop}{l:yC}(h:P a)(t:∀x∈l,P x):∀x∈a::l,P x:=by grind
theorem vu{c:yC}(h:∀b∈c,Yj X a H b)(n:∀b∈c,b≠T):∀b∈c,Yj X a (ZC H T o) b:=λb d=>⟨by rw[YI (n b d)];exact(h b d).1,(h b d).2⟩
structure Oy(b:Bool)(e it a:yR)(i:Nat)(h:jH):Prop where
 a1:∃old,IsEnum h e it (i:Nat) old
 a2:Ws b h it a i
theorem Oy.obj(st:Oy b e d a i h):∀c∈[e,d],∃o,h.get? c=Z9 o/\∀v,o.data≠.cell v:=by obtain⟨_,f⟩:=st.a1;exact XQ ⟨_,f,λv q=>by cases q⟩ (XQ st.a2.obj allN)
theorem Oy.ne(st:Oy b e d a i h){T:yR}(g:h.objs.size<=T):∀c∈[e,d],c≠T:=λc f=>by obtain⟨o,z,_⟩:=st.obj c f;exact qB7 (qC1 (qB3 z) g)
section
variable {X:Cx}
def vt(K:yS):V->List V->Hp->VK->Prop:=λx e H Q=>∃(l:yR) (b:List V) (y:V) (N c:yR->Prop) (a:v8) (ds:List v8) (j:Nat),
 x=.ref l/\e=[y]/\H l=Z9 (.lst b)/\Rp K H N y a/\RN a/\RpL K H c b ds/\(∀d∈ds,RN d)/\b.length<1000000/\(∃d,ds[j]?=Z9 d/\PyData.eqv d a=Z7)/\(∀m d,m<j->ds[m]?=Z9 d->PyData.eqv d a=Z5)/\Q (.int j) H
theorem LJ{h:jH}:∀{ds:List v8}{b:yB}{f:yC}{i:Nat}{u:yT},ReadsAll h b ds f->b[i]?=Z9 u->∃d bs,ds[i]?=Z9 d/\Reads h u d bs
 |_,_,_,i,u,.nil,e=>by simp at e
 |_,_,_,0,u,.cons r a,e=>by simp at e;subst e;exact⟨_,_,rfl,r⟩
 |_,_,_,i+1,u,.cons r a,e=>by obtain⟨d,bs,c,g⟩:=LJ a e;exact⟨d,bs,by exact c,g⟩
open Classical in
def LI(h:jH)(b:v8)(y:yT):Bool:=decide (∃d a,Reads h y d a/\d.canLay0=Z7/\PyData.eqv d b=Z7)
theorem Ga{a:yC}(r:Reads h y d a)(c:d.canLay0=Z7):LI h dx y=PyData.eqv d dx:=by
 classical
 cases q:PyData.eqv d dx with
 |true=>exact decide_eq_true ⟨d,a,r,c,q⟩
 |false =>
  refine decide_eq_false ?_;rintro⟨g,b,f,i,e⟩;have:=SeqAt.Reads.unique d g y a b c r f;subst this;rw[q]at e;cases e
theorem vr(Y:X.A.units+64<vN):RU X "list.index" (vt X.K):=by
 intro G s Z H x vs v us Q I L P h;obtain⟨l,xs,y,N,W,dx,ds,j,rfl,rfl,O,K,M,t,p,F,⟨d0,i,E⟩,C,q⟩:=h;cases L;obtain⟨u,rfl,S⟩:=P.one;obtain⟨z,a,n,r,hl,e⟩:=I.lstM O;obtain⟨bs,U⟩:=I.reads K S;obtain⟨V,B⟩:=I.readsL t r;have ln:=SeqAt.ReadsAll.length _ _ _ B;have J:j<a.length:=by rw[ln];exact(qA4.mp i).1
 have k:∀m (g:m<a.length),∃d,ds[m]?=Z9 d/\LI s.heap dx a[m]=PyData.eqv d dx:=λm g=>by obtain⟨d,R,c,f⟩:=LJ B (qA2 g);exact⟨d,c,Ga f (p d (qB5 c)).1⟩
 refine fO lO ⟨_,e,rfl⟩ PySem.F.entry_list_index (PySem.F.args_list_index_2 _ _)
  (SeqAt.list_indexAt l a.toArray n _ _ u (LI s.heap dx) j (by simpa using J) (by lia) ?_ ?_) ⟨e,λw T=>?_,?_⟩
 .obtain⟨d,c,f⟩:=k j J;rw[i]at c;cases c;rw[<- E,<- f];simp
 .intro m g D;obtain⟨d,c,f⟩:=k m (by simpa using g);rw[<- C m d D c,<- f];simp
 .obtain⟨m,g,rfl⟩:=qH1 (by simpa using T:w∈a);obtain⟨d,R,c,f⟩:=LJ B (qA2 g);have A:=p d (qB5 c);rw[Ga f A.1];refine SeqAt.eqAt_reads d dx _ s _ _ _ _ f U A.1 M.1 ?_;have:=A.2;show X.A.units+1+min d.depth dx.depth<vN
  lia
 .exact⟨.int j,H,I.kept (t':=s.toks+1) λb o q=>q,⟨_,rfl⟩,q⟩
end
structure Ox(z TI TO i1 i2:yR)(f1 f2:yC):Prop where
 TIz:TI≠z
 TOz:TO≠z
 i1z:i1≠z
 i2z:i2≠z
 TITO:TI≠TO
 TIi1:TI≠i1
 TIi2:TI≠i2
 TOi1:TO≠i1
 TOi2:TO≠i2
 i12:i1≠i2
 z1:z∉f1
 z2:z∉f2
 O1:TO∉f1
 O2:TO∉f2
 j1:i2∉f1
 j2:i1∉f2
section
variable {prog:yZ}{w:jG}{A:jF}{E:yL}{s:yQ}
variable {z TI TO i1 i2:yR}{f1 f2:yC}{n1 n2 k:Nat}{P1 P2:Nat->yT->Prop}{S1 S2:Nat->jH->Prop}
theorem Draws.sb{a:yC}{St:Nat->jH->Prop}(D:Draws prog w A j a n P St)(st:St i h)(sb:qE4 c h h')(d:c∉a):St i h' :=
 D.frame _ _ _ st λb f o e=>sb.extBut b o (λq=>d (q▸f)) e
theorem F9(hz:dH s.heap z TI TO .none)(W:fQ s.heap TI (.ref i1) (.ref i2))(hTO:fQ s.heap TO a b)(g:A.handled=Z8)
  (u:∀A:jF,A.handled=Z8->Draws prog w A i1 f1 n1 P1 S1) (r:∀A:jF,A.handled=Z8->Draws prog w A i2 f2 n2 P2 S2) (d:Ox z TI TO i1 i2 f1 f2) (h1:S1 k s.heap) (h2:S2 k s.heap)
  (hQ:k<n1->k<n2->∀x y h' tk,P1 k x->P2 k y->dH h' z TI TO (gD s.heap.objs.size)->fQ h' TO x y->S1 (k+1) h'->S2 (k+1) h'->fQ h' s.heap.objs.size x y->h'.objs.size=s.heap.objs.size+1 ->
   (∀c o,c≠z->c≠TO->c≠i1->c≠i2->s.heap.get? c=Z9 o->h'.get? c=Z9 o)->Q (.done (.ret (.ref s.heap.objs.size))) { s with heap:=h',toks:=tk })
  (hE:(k=n1∨k=n2)->∀h' e tk,(∀c o,c≠z->c≠TO->c≠i1->c≠i2->s.heap.get? c=Z9 o->h'.get? c=Z9 o)->(∃o,h'.get? e=Z9 o/\o.cls=.type "StopIteration")->E (.ref e) { s with heap:=h',toks:=tk })
  (T:k<=n1) (hk2:k<=n2):y7 (yV prog w) A (Builtin.«zip.__next__» ⟨[.ref z],[]⟩) Q E s:=by
 show y7 _ _ (field (.ref z) 2 >>= _) _ _ _;refine yO (vW hz rfl (x:=.bool Z5) rfl ?_);refine yO (vW hz rfl (x:=.ref TI) rfl ?_);refine yO (vB W rfl ?_);refine yO ?_;refine yO (vW hz rfl (x:=.none) rfl (yP ?_));refine yO (vM ?_);refine yO (vW hz rfl (x:=.ref TO) rfl ?_);refine yO (wE hz (by simp) λha L p=>?_)
 replace L:dH ha z TI TO .ellipsis:=L
 have K:=Draws.sb (u A g) h1 p d.z1;have s2a:=Draws.sb (r A g) h2 p d.z2;have oa:=p.extBut _ _ d.TOz hTO;refine yO ?_;simp only[qU0,List.zipIdx_nil,qU9,List.forIn_nil];refine yO (yO (wpAny_onRaise ?_));by_cases Y:k<n1
 .refine yO ((u _ g).item k _ _ _ Y K λx M tb px s1b sb=>yP ?_);have ob:=sb.extBut _ _ d.TOi1 oa;have s2b:=Draws.sb (r A g) s2a sb d.j2;have zb:=sb.extBut _ _ d.i1z.symm L;refine yO (vB ob rfl ?_);refine yO (mY ob λhc oc B=>?_);have V:=Draws.sb (u A g) s1b B d.O1;have I:=Draws.sb (r A g) s2b B d.O2;have zc:=B.extBut _ _ d.TOz.symm zb;refine yO (wpAny_letGo (yP ?_));refine yO (yO (wpAny_onRaise ?_));by_cases l2:k<n2
  .refine yO ((r _ g).item k _ _ _ l2 I λy X td py s2d j=>yP ?_);have od:fQ X TO x b:=j.extBut _ _ d.TOi2 oc;have U:=Draws.sb (u A g) V j d.j1;have n:=j.extBut _ _ d.i2z.symm zc;refine yO (vB od rfl ?_);refine yO (mY od λi m J=>?_)
   replace m:fQ i TO x y:=m
   have Z:=Draws.sb (u A g) U J d.O1;have s2e:=Draws.sb (r A g) s2d J d.O2;have ze:=J.extBut _ _ d.TOz.symm n;refine yO (wpAny_letGo (yP (yP ?_)));refine yO (vB m rfl ?_);refine yO (gF ?_);have G:i.objs.size=s.heap.objs.size:=by rw[J.1,j.1,B.1,sb.1,p.1]
   have kp:∀c o,c≠z->c≠TO->c≠i1->c≠i2->s.heap.get? c=Z9 o->i.get? c=Z9 o:=λc o h C t F e =>
    J.extBut _ _ C (j.extBut _ _ F (B.extBut _ _ C (sb.extBut _ _ t (p.extBut _ _ h e))))
   have H:=qB3 ze;refine yO ?_;have zf:dH (i.push { cls:=.type "tuple",data:=.seq #[x,y] }) z TI TO .ellipsis:=qA3 _ ze;refine yO (wE zf (by simp) λhg zg sg=>?_)
   replace zg:dH hg z TI TO (gD i.objs.size):=zg
   refine wE zg (by simp) λN O S=>?_
   replace O:dH N z TI TO (gD i.objs.size):=O
   have up:∀c o,c≠z->i.get? c=Z9 o->N.get? c=Z9 o:=λc o h e=>S.extBut _ _ h (sg.extBut _ _ h (qA3 _ e));have tz:=S.extBut _ _ (qL1 H) (sg.extBut _ _ (qL1 H) (qA9 _ rfl));have zz:N.objs.size=i.objs.size+1:=by rw[S.1,sg.1,qG4]
   have P:=(u A g).frame _ _ _ Z λb M o e=>up b o (λq=>d.z1 (q▸M)) e;have R:=(r A g).frame _ _ _ s2e λb M o e=>up b o (λq=>d.z2 (q▸M)) e;rw[G]at O tz zz;refine yP ?_;rw[G];exact hQ Y l2 x y N td px py O (up _ _ d.TOz m) P R tz zz λc o h C t F e=>up c o h (kp c o h C t F e)
  .have e2:=qQ7 hk2 (qQ0 l2);refine yO ((r _ g).done _ _ _ (e2▸I) λX e j i=>?_);obtain⟨m,f,l⟩:=i;have n:=j _ _ d.i2z.symm zc;have v:e≠z:=λq=>by subst q;rw[n]at f;cases f;simp at l
   refine wE n (by simp) λhf _ D=>hE (.inr e2) hf e tb (λc o h C t F q=>D.extBut _ _ h (j _ _ F (B.extBut _ _ C (sb.extBut _ _ t (p.extBut _ _ h q))))) ⟨m,D.extBut _ _ v f,l⟩
 .have e1:=qQ7 T (qQ0 Y);refine yO ((u _ g).done _ _ _ (e1▸K) λX e j i=>?_);obtain⟨m,f,l⟩:=i;have n:=j _ _ d.i1z.symm L;have v:e≠z:=λq=>by subst q;rw[n]at f;cases f;simp at l
  exact wE n (by simp) λhf _ D=>hE (.inl e1) hf e s.toks (λc o h _ t _ q=>D.extBut _ _ h (j _ _ t (p.extBut _ _ h q))) ⟨m,D.extBut _ _ v f,l⟩
theorem WalksT.zipD(r:A.handled=Z8)(D:∀A:jF,A.handled=Z8->Draws prog w A i1 f1 n1 P1 S1)(B:∀A:jF,A.handled=Z8->Draws prog w A i2 f2 n2 P2 S2)(m:Ox z TI TO i1 i2 f1 f2)(P:i1∈f1)(Y:i2∈f2):
  WalksT prog w A z (z::TI::TO::f1++f2) [z,TO,i1,i2] (min n1 n2) (λi C=>∃x y,P1 i x/\P2 i y/\C=#[x,y])
   (λi h=>dH h z TI TO .none/\fQ h TI (.ref i1) (.ref i2)/\(∃a b,fQ h TO a b)/\S1 i h/\S2 i h)
   (λi T h=>dH h z TI TO (gD T)/\fQ h TI (.ref i1) (.ref i2)/\(∃a b,fQ h TO a b)/\S1 (i+1) h/\S2 (i+1) h/\T≠z/\T≠TO/\T≠i1/\T≠i2) where
 sub:=λc g=>by simp at g ⊢;rcases g with rfl|rfl|rfl|rfl<;>simp[P,Y]
 frame:=λi h G j hk=>by obtain⟨n,d,⟨a,b,f⟩,p,t⟩:=j;exact⟨hk z (by simp) _ n,hk TI (by simp) _ d,⟨a,b,hk TO (by simp) _ f⟩,(D A r).frame _ _ _ p λb I o e=>hk b (by simp[I]) o e,(B A r).frame _ _ _ t λb I o e=>hk b (by simp[I]) o e⟩
 item:=λi s Q E hi j v=>by
  obtain⟨n,d,⟨a,b,f⟩,p,t⟩:=j;have u:s.TypeIs (.ref z) "zip":=⟨_,n,rfl⟩
  have lt:∀{c o},s.heap.get? c=Z9 o->s.heap.objs.size≠c:=λe=>qL1 (qB3 e);refine yO (vH (jK u fZ
   (jI fZ u F.entry_zip_next (F9 n d f r D B m p t (λ_ _ x y G L S V a1 W N a4 Z a6 hk=>⟨_,rfl,yP ?_⟩) (λq=>by lia) (by lia) (by lia)) (F.args_zip_next_1 _))))
  refine v s.heap.objs.size #[x,y] G L ⟨x,y,S,V,rfl⟩ (qA7 _) ⟨_,Z,rfl,_,rfl⟩ ⟨a1,hk _ _ m.TIz m.TITO m.TIi1 m.TIi2 d,⟨_,_,W⟩,N,a4,lt n,lt f,?_,?_⟩
   λc o g e=>hk c o (λx=>g (by simp[x])) (λx=>g (by simp[x])) (λx=>g (by simp[x])) (λx=>g (by simp[x])) e
  .obtain⟨_,e⟩:=(D A r).live _ _ p;exact lt e
  .obtain⟨_,e⟩:=(B A r).live _ _ t;exact lt e
 go:=λK k M i T s Q E H v=>by obtain⟨n,d,⟨a,b,f⟩,p,t,_⟩:=H;refine wpAny_letOwnedTupleGo_zip n λG J l=>v G ⟨J,l.extBut _ _ m.TIz d,⟨a,b,l.extBut _ _ m.TOz f⟩,Draws.sb (D A r) p l m.z1,Draws.sb (B A r) t l m.z2⟩ λc o g e=>l.extBut _ _ (λx=>g (by simp[x])) e
 apart:=λi T h H u=>by
  obtain⟨_,_,_,_,_,U,t2,X,R⟩:=H;simp at u;rcases u with rfl|rfl|rfl|rfl
  .exact U rfl
  .exact t2 rfl
  .exact X rfl
  .exact R rfl
 done:=λs Q E j v=>by
  obtain⟨n,d,⟨a,b,f⟩,p,t⟩:=j;have u:s.TypeIs (.ref z) "zip":=⟨_,n,rfl⟩
  refine yO (vH (jK u fZ
   (jI fZ u F.entry_zip_next (F9 n d f r D B m p t (λq1 q2=>by lia) (λ_ G e L hk he=>?_) (by lia) (by lia)) (F.args_zip_next_1 _))))
  obtain⟨o,O,g⟩:=he;refine yO (vX ⟨o,O,g⟩ gG ?_);exact yP (v _ _ λc o g e=>hk c o (λx=>g (by simp[x])) (λx=>g (by simp[x])) (λx=>g (by simp[x])) (λx=>g (by simp[x])) e)
 self:=λi s Q E j v=>lP j.1 v
end
def UA(b:Bool)(l:yR):Obj:={ cls:=.type (if b then "tuple_iterator" else "list_iterator"),data:=.fields #[.ref l,.int 0 0] }
abbrev Ov(h:jH)(b1 b:Bool)(c a:yR):Heap:=(h.push (UA b1 c)).push (UA b a)
abbrev Ou(h:jH)(b1 c:Bool)(a b:yR):Heap:=(Ov h b1 c a b).push { cls:=.type "tuple",data:=.seq #[.ref h.objs.size,.ref (h.push (UA b1 a)).objs.size] }
abbrev TV(h:jH)(b1 b:Bool)(c a:yR):Heap:=(Ou h b1 b c a).push { cls:=.type "tuple",data:=.seq #[.none,.none] }
abbrev UU(h:jH)(b1 b:Bool)(c a:yR):Heap:=(TV h b1 b c a).push { cls:=.type "zip",data:=.fields #[.none,.bool Z5,.bool Z5,.ref (Ov h b1 b c a).objs.size,.ref (Ou h b1 b c a).objs.size] }
theorem vq(a b:yR)(xs ys:yJ):
  Meets (Builtin.«zip.__new__» ⟨[.type "zip",.ref a,.ref b],[]⟩) (λ_ R s=>s.heap.IsTuple a xs/\s.heap.IsTuple b ys /\
   R (.ok (.ret (.ref (TV s.heap Z7 Z7 a b).objs.size))) { s with heap:=UU s.heap Z7 Z7 a b }) :=
 .of_wp λk w A R s h=>by
  obtain⟨l,g,d,m,n⟩:=s;obtain⟨f,c,h⟩:=h;have j:=sub_zip;have e:=f;have i:qQ2 (Shared.heap ⟨l.push { cls:=.type "tuple_iterator",data:=.fields #[.ref a,.int 0 0] },g,d,m,n⟩) b ys:=qQ2.push c _
  wp_walk using vE e,vE i
  exact⟨_,rfl,h⟩
theorem vp(a b:yR)(xs ys:yJ):
  Meets (Builtin.«zip.__new__» ⟨[.type "zip",.ref a,.ref b],[]⟩) (λ_ R s=>s.heap.IsTuple a xs/\s.heap.IsList b ys /\
   R (.ok (.ret (.ref (TV s.heap Z7 Z5 a b).objs.size))) { s with heap:=UU s.heap Z7 Z5 a b }) :=
 .of_wp λk w A R s h=>by
  obtain⟨l,g,d,m,n⟩:=s;obtain⟨f,c,h⟩:=h;have j:=sub_zip;have e:=f;have i:qN6 (Shared.heap ⟨l.push { cls:=.type "tuple_iterator",data:=.fields #[.ref a,.int 0 0] },g,d,m,n⟩) b ys:=qN6.push c _
  wp_walk using vE e,jW i
  exact⟨_,rfl,h⟩
theorem vo(a b:yR)(xs ys:yJ):
  Meets (Builtin.«zip.__new__» ⟨[.type "zip",.ref a,.ref b],[]⟩) (λ_ R s=>s.heap.IsList a xs/\s.heap.IsTuple b ys /\
   R (.ok (.ret (.ref (TV s.heap Z5 Z7 a b).objs.size))) { s with heap:=UU s.heap Z5 Z7 a b }) :=
 .of_wp λk w A R s h=>by
  obtain⟨l,g,d,m,n⟩:=s;obtain⟨f,c,h⟩:=h;have j:=sub_zip;have e:=f;have i:qQ2 (Shared.heap ⟨l.push { cls:=.type "list_iterator",data:=.fields #[.ref a,.int 0 0] },g,d,m,n⟩) b ys:=qQ2.push c _
  wp_walk using jW e,vE i
  exact⟨_,rfl,h⟩
theorem vn(a b:yR)(xs ys:yJ):
  Meets (Builtin.«zip.__new__» ⟨[.type "zip",.ref a,.ref b],[]⟩) (λ_ R s=>s.heap.IsList a xs/\s.heap.IsList b ys /\
   R (.ok (.ret (.ref (TV s.heap Z5 Z5 a b).objs.size))) { s with heap:=UU s.heap Z5 Z5 a b }) :=
 .of_wp λk w A R s h=>by
  obtain⟨l,g,d,m,n⟩:=s;obtain⟨f,c,h⟩:=h;have j:=sub_zip;have e:=f;have i:qN6 (Shared.heap ⟨l.push { cls:=.type "list_iterator",data:=.fields #[.ref a,.int 0 0] },g,d,m,n⟩) b ys:=qN6.push c _
  wp_walk using jW e,jW i
  exact⟨_,rfl,h⟩
theorem vm(b1 c:Bool)(a b:yR)(xs ys:yJ):
  Meets (Builtin.«zip.__new__» ⟨[.type "zip",.ref a,.ref b],[]⟩) (λ_ R s=>V0 b1 s.heap a xs/\V0 c s.heap b ys /\
   R (.ok (.ret (.ref (TV s.heap b1 c a b).objs.size))) { s with heap:=UU s.heap b1 c a b }):=by
 cases b1 with
 |true=>cases c with
  |true=>exact vq a b xs ys
  |false=>exact vp a b xs ys
 |false=>cases c with
  |true=>exact vo a b xs ys
  |false=>exact vn a b xs ys
theorem F8(e:h.get? j=Z9 (UA b l)):Ws b h j l 0:=by
 cases b with
 |true=>exact⟨_,e,rfl,rfl⟩
 |false=>exact⟨_,e,rfl,rfl⟩
theorem F7(b:Bool)(l:yR):(UA b l).isFreed=Z5:=by cases b<;>rfl
section
variable {prog:yZ}{w:jG}{A:jF}{E:yL}{s:yQ}
theorem vl{Q:yL}(f:V0 b1 s.heap a xs)(e:V0 d s.heap b ys)
  (h:∀h',dH h' (s.heap.objs.size+4) (s.heap.objs.size+2) (s.heap.objs.size+3) .none->fQ h' (s.heap.objs.size+2) (.ref s.heap.objs.size) (.ref (s.heap.objs.size+1)) ->
   fQ h' (s.heap.objs.size+3) .none .none->Ws b1 h' s.heap.objs.size a 0->Ws d h' (s.heap.objs.size+1) b 0 ->
   (∀c o,s.heap.get? c=Z9 o->h'.get? c=Z9 o)->Q (.ref (s.heap.objs.size+4)) { s with heap:=h' }) :
  y7 (yV prog w) A (call (.type "zip") [.ref a,.ref b]) Q E s:=by
 refine callType_new F.called_zip (by decide) (F.typeCall_zip_2 _ _) (F.newCall_zip_2 _ _) (λobj=>F.args_object_init_3 obj _ _) F.entry_zip_new (vm b1 d a b xs ys) ⟨f,e,?_⟩;have k:(s.heap.push (UA b1 a)).objs.size=s.heap.objs.size+1:=qG4 ..;have i:(Ov s.heap b1 d a b).objs.size=s.heap.objs.size+2:=by rw[qG4,k]
 have g:(Ou s.heap b1 d a b).objs.size=s.heap.objs.size+3:=by rw[qG4,i]
 have n:(TV s.heap b1 d a b).objs.size=s.heap.objs.size+4:=by rw[qG4,g]
 have j:(UU s.heap b1 d a b).get? (TV s.heap b1 d a b).objs.size=Z9 _:=qA9 _ rfl;have m:(UU s.heap b1 d a b).get? (Ou s.heap b1 d a b).objs.size=Z9 _:=qA3 _ (qA9 _ rfl);have p:(UU s.heap b1 d a b).get? (Ov s.heap b1 d a b).objs.size=Z9 _:=qA3 _ (qA3 _ (qA9 _ rfl));have l:(UU s.heap b1 d a b).get? (s.heap.push (UA b1 a)).objs.size=Z9 (UA d b):=qA3 _ (qA3 _ (qA3 _ (qA9 _ (F7 _ _))));have q:(UU s.heap b1 d a b).get? s.heap.objs.size=Z9 (UA b1 a):=qA3 _ (qA3 _ (qA3 _ (qA3 _ (qA9 _ (F7 _ _)))));rw[i,g,n]at j;rw[k,i]at p;rw[g]at m;rw[k]at l;rw[n];exact⟨⟨_,j,rfl⟩,h _ j p m (F8 q) (F8 l) λc o x =>
  qA3 _ (qA3 _ (qA3 _ (qA3 _ (qA3 _ x))))⟩
end
theorem vk(c:a<n)(d:b<n):Ox (n+4) (n+2) (n+3) n (n+1) [n,a] [n+1,b]:=by constructor<;>(try simp only[qB0,qF8,or_false,not_or])<;>(try refine⟨?_,?_⟩)<;>(show ¬(_=_))<;>(simp only[yR]at *;lia)
inductive QK(b1 b2:Bool)(K:yS)(H:Hp)(a b:yR)(i:Nat):Prop
 |mk (xs ys:List V) (x y:V) (q1:Xi b1 K H a xs) (q2:Xi b2 K H b ys) (ex:xs[i]?=Z9 x) (ey:ys[i]?=Z9 y)
inductive LH(b1 b2:Bool)(K:yS)(H:Hp)(a b:yR)(i:Nat):Prop
 |mk (xs ys:List V) (q1:Xi b1 K H a xs) (q2:Xi b2 K H b ys) (ei:i=min xs.length ys.length)
def SO(b1 c:Bool)(K:yS)(a b:yR):It :=
  ⟨λi H=>QK b1 c K H a b i,
   λi H v f=>∃T,H T=Z8/\v=.ref T/\∀e d x y,Xi b1 K H a e->Xi c K H b d->e[i]?=Z9 x->d[i]?=Z9 y->f=ZC H T (.tup [x,y]),
   λi H=>LH b1 c K H a b i⟩
structure QJ(b1 b2:Bool)(z TI TO i1 i2 l1 l2:yR)(i:Nat)(h:jH):Prop where
 a1:dH h z TI TO .none
 a2:fQ h TI (.ref i1) (.ref i2)
 a3:∃a b,fQ h TO a b
 a4:Ws b1 h i1 l1 i
 a5:Ws b2 h i2 l2 i
section
variable {b1 b2:Bool}{z TI TO i1 i2 l1 l2:yR}{i:Nat}{h:jH}
theorem QJ.obj(st:QJ b1 b2 z TI TO i1 i2 l1 l2 i h):∀b∈[z,TI,TO,i1,i2],∃o,h.get? b=Z9 o/\∀v,o.data≠.cell v:=by obtain⟨_,_,a⟩:=st.a3;exact XQ ⟨_,st.a1,λv q=>by cases q⟩ (XQ ⟨_,st.a2,λv q=>by cases q⟩ (XQ ⟨_,a,λv q=>by cases q⟩ (XQ st.a4.obj (XQ st.a5.obj allN))))
theorem QJ.ne(st:QJ b1 b2 z TI TO i1 i2 l1 l2 i h){T:yR}(a:h.objs.size<=T):∀b∈[z,TI,TO,i1,i2],b≠T:=λb c=>by obtain⟨o,e,_⟩:=st.obj b c;exact qB7 (qC1 (qB3 e) a)
theorem SN:∀b∈[z,TO,i1,i2],b∈[z,TI,TO,i1,i2]:=by simp_all
inductive vj(b1 b2:Bool)(X:Cx)(s:yQ)(H:Hp)(l1 l2:yR)(i:Nat):Prop
 |mk (xs ys:List V) (x y:V) (t1 t2:yB) (u1 u2:yT) (q1:Xi b1 X.K H l1 xs) (q2:Xi b2 X.K H l2 ys) (ex:xs[i]?=Z9 x) (ey:ys[i]?=Z9 y) (p1:V0 b1 s.heap l1 t1.toArray) (p2:V0 b2 s.heap l2 t2.toArray)
  (e1:t1[i]?=Z9 u1) (e2:t2[i]?=Z9 u2) (r1:ZG x u1) (r2:ZG y u2)
variable {X:Cx}{pins:yD}{Z:St}{H:Hp}{s:yQ}
theorem vi(I:ZP X pins Z H s)(m:QK b1 b2 X.K H l1 l2 i):vj b1 b2 X s H l1 l2 i:=by obtain⟨p,n,x,y,e,g,ex,f⟩:=m;obtain⟨b,t,o⟩:=I.sqX e;obtain⟨a,l,q⟩:=I.sqX g;obtain⟨u,k,c⟩:=t.get ex;obtain⟨j,r,d⟩:=l.get f;exact⟨p,n,x,y,b,a,u,j,e,g,ex,f,o,q,k,r,c,d⟩
theorem vh{f b:yB}{a:yJ}(j:f[i]?=Z9 g)(l:b[i]?=Z9 e)(k:∃c d,f.toArray[i]?=Z9 c/\b.toArray[i]?=Z9 d/\a=#[c,d]):a=#[g,e]:=by simp_all
theorem vg(I:ZP X pins Z H s)(e:Xi b1 X.K H l1 xs)(j:Xi b2 X.K H l2 ys)(ex:xs[i]?=Z9 x)(m:ys[i]?=Z9 y)(b a:List V)(c d:V)(f:Xi b1 X.K H l1 b)(g:Xi b2 X.K H l2 a)(n:b[i]?=Z9 c)(o:a[i]?=Z9 d):ZC H T (.tup [x,y])=ZC H T (.tup [c,d]):=by
 have k:=I.sqX_inj e f;have l:=I.sqX_inj j g
 simp_all
end
theorem vf{P:yZ}{w:jG}{K:PySem.W.Frag}{t:yE}{k:Nat}{pos:Pos}(b1 B:Bool)(z TI TO j m q r:yR)(D:Ox z TI TO j m [j,q] [m,r])(d1:q≠j)(d2:r≠m):
  W5 P w K (.Tuple t k pos) (SO b1 B K q r) [z,TI,TO,j,m] z (QJ b1 B z TI TO j m q r) where
 mem:=by simp
 obj:=λi h a=>a.obj
 keep:=λi h C ⟨a1,a2,⟨x,y,a3⟩,a4,a5⟩ g =>
  ⟨g z (by simp) _ a1,g TI (by simp) _ a2,⟨x,y,g TO (by simp) _ a3⟩,a4.keep λo e=>g j (by simp) o e,a5.keep λo e=>g m (by simp) o e⟩
 item:=by intro X J L N O i n s Z H E I v a hg;subst J L N;obtain⟨xs,ys,x,y,d,c,u1,u2,M,Q,ex,ey,R,S,e1,e2,Y,U⟩:=vi I hg;have W:=WalksT.zipD (prog:=X.prog) (w:=X.w) (I.ok.hd O) (λA p=>Oz b1 p j q d1 d.toArray) (λA p=>Oz B p m r d2 c.toArray) D (by simp) (by simp);have hl1:=(qA4.mp e1).1;have hl2:=(qA4.mp e2).1;have u:=λb l=>v b (SN b l);refine W.item i s _ _ (by simp only[qB2];lia) ⟨a.a1,a.a2,a.a3,⟨a.a4,R⟩,a.a5,S⟩ λT vals C tk hv F G hM g=>?_;have V:=vh e1 e2 hv;subst V;have nT:=a.ne F;refine⟨_,rfl,W.go _ _ _ i T { s with heap:=C,toks:=tk } _ _ hM λh2 f kk2=>?_⟩;have I1:ZP X n Z (ZC H T (.tup [x,y])) { s with heap:=C,toks:=tk }:=I.yields u g F (.cons Y (.cons U .nil)) (by show 2<=jC;decide) G;have I2:=I1.turnedL (tk:=tk) (vu u λb l=>nT b (SN b l)) kk2;exact⟨.ref T,_,I2,rfl,⟨T,I.hok.fresh F,rfl,vg I M Q ex ey⟩,⟨f.1,f.2.1,f.2.2.1,f.2.2.2.1.1,f.2.2.2.2.1⟩,λb l=>by rw[YI (nT b l)];exact(v b l).1⟩
 done:=by
  intro X J L N O i n s Z H E I v a hg;subst J L N;obtain⟨xs,ys,M,Q,ei⟩:=hg;obtain⟨d,r1,R⟩:=I.sqX M;obtain⟨c,r2,S⟩:=I.sqX Q;have W:=WalksT.zipD (prog:=X.prog) (w:=X.w) (I.ok.hd O) (λA p=>Oz b1 p j q d1 d.toArray) (λA p=>Oz B p m r d2 c.toArray) D (by simp) (by simp);have en:i=min d.toArray.size c.toArray.size:=by simp only[qB2,<- r1.length,<- r2.length];exact ei
  refine W.done s _ _ (by rw[<- en];exact⟨a.a1,a.a2,a.a3,⟨a.a4,R⟩,a.a5,S⟩) λC tk g=>?_;exact⟨rfl,I.turnedL (λb l=>v b (SN b l)) g⟩
 self:=λ_ _ _ _ _ a h=>lP a.a1 h
section
variable {X:Cx}
def F6(K:yS)(e:TA):TI:=fun Z H R=>e Z H λh c=>∃a b b1 d,h=[.ref a,.ref b]/\(∃g,Xi b1 K c a g)/\(∃f,Xi d K c b f)/\R (SO b1 d K a b) c
theorem ve{g:yE}{k:Nat}{d:Pos}{p pos:Pos}(G:Gl X "zip")(hm:X.mg "zip"=Z8)(J:PA X [a,b] u)(hs:jL [a,b] X.env=[(Z5,v7 a X.env),(Z5,v7 b X.env)]:=by rfl)(j:jL [b] X.env=[(Z5,v7 b X.env)]:=by rfl):
  PI X (.Tuple g k d) (.Call (.Name "zip" p) [a,b] [] pos) (F6 X.K u):=by
 intro f s Z H R I h;refine Call_ (T3 I G hm wm (vG (Zq (J pos f s Z H _ I h) λP w ⟨V,E,i,M,B⟩=>?_) (by rw[hs,j]) (by rw[j];rfl)));obtain⟨L,N,b1,K,e,⟨T,A⟩,⟨S,D⟩,q⟩:=B;subst e;cases M with
 |cons r l =>
  cases l with
  |cons C l =>
   cases l;cases r;cases C;obtain⟨y,O,o⟩:=i.sqX A;obtain⟨x,Q,t⟩:=i.sqX D;refine vl o t λU v m n hi1 hi2 hk=>?_;refine lP v ?_;have F:=i.kept (t':=w.toks) hk;refine⟨_,_,_,_,E,rfl,F,vf b1 K _ _ _ _ _ L N (vk o.lt t.lt) (qB7 o.lt) (qB7 (qE9 t.lt)),⟨v,m,⟨_,_,n⟩,hi1,hi2⟩,λb z=>?_,q⟩;have c:w.heap.objs.size<=b:=by
    simp only[qB0,qF8,or_false]at z;rcases z with rfl|rfl|rfl|rfl|rfl
    .exact qJ8 _ _
    .exact qJ8 _ _
    .exact qJ8 _ _
    .exact qA7 _
    .exact qJ8 _ _
   exact i.fpOk c (i.hok.fresh c)
end
section
variable {X:Cx}{pins:yD}{Z:St}{H:Hp}{s:yQ}{scope:vT}{N:yH}{C:yR}{ex:yC}
theorem vd{f:yE}(L:PG X (.Name F pos') B)(E:fL (.ListComp elt [⟨w,iter,f,0⟩] scope pos) (Z9 (.Name F pos')) a.line X.env=pure Z7){V:List Nat}
  (t:RQ X scope N k V) (hi:PI X w iter P)
  (hg:∀cl s H C ex,PG (WW X scope N cl s H C ex) w g) (D:∀cl s H C ex,SU (WW X scope N cl s H C ex) f tc) (G:∀cl s H C ex,PE (WW X scope N cl s H C ex) elt S)
  (hs:∀x,wM iter X.env x=pure x:=by intro _;rfl):PS X (.Assign [.Name F pos'] (.ListComp elt [⟨w,iter,f,0⟩] scope pos) a) (Vs (LM P k V g tc S) B):=by
 intro d s Z H D0 I h;rw[exec_Assign_Name_used _ _ _ _ E];refine yO (dF (yO ?_));refine yO (jS (lB rfl hs (Gm λx hx=>I.ok.has x (t.free x hx)) t.kind t.names (Zq (hi d s Z H _ I h) λv s1 h1=>Zq h1 λitv W h2=>?_)) (λ_ s' hq=>yP (yP hq)) λ_ _ e=>e);obtain⟨it,fp,tn,JJ,H2,e,A,T,J,j,hW⟩:=h2;subst e;refine Gh (Q:=λx H1=>B x Z H1 D0.nx) t A T J j hg D G hW λcl C M u n hDC i q=>?_;obtain⟨m,r,_⟩:=id i.loc;have K:M C=Z8:=i.free;have IA:=A.call' (s':=u) i.os i.base i.hok i.bare (λb c=>⟨(j b c).2.2.2.1,(j b c).2.1,(j b c).2.2.2.2.1,(j b c).2.2.2.2.2⟩);have R:∀{Y:Hp},Y C=Z8->∀b∈[C],Yj X d Y b:=λr b c=>by
  have:=by simpa using c
  subst this;exact A.fpOk n r
 have oC:∀b∈[C],∃o,u.heap.get? b=Z9 o/\∀v,o.data≠.cell v:=λb c=>by
  have:=by simpa using c
  subst this;obtain⟨o,_,_,ho,hd,_⟩:=id r;exact⟨o,ho,λv z=>by rw[hd]at z;cases z⟩
 have IB:=IA.pinned (R K) oC;refine Zq (L _ u Z M (.ref W.heap.objs.size) (.ref W.heap.objs.size) _ IB rfl q) λ_ s6 ⟨Z6,H6,O,q6⟩=>?_;obtain⟨oc,l,_⟩:=oC C (by simp);have p:=O.pin (C,oc) (qD0 _ (qD0 _ (QX (by simp) l)));refine⟨m,r.at' λo e=>?_,λh' y=>⟨Z6,H6,?_,q6⟩⟩
 .have U:u.heap.get? C=Z9 o:=e;rw[l]at U;cases U;exact p.1
 .exact O.unpinned.turnedL (R p.2.1) λb o nb e=>y.extBut b o (by simpa using nb) e
end
section
variable {X:Cx}
open AutoSeq1 in
theorem vc(l:yR)(items:yJ)(n:Nat)(b:yR)(a:yJ)(j:Nat)(c:Option yR)(sl:Array (yF))(k:¬(!items.isEmpty&&Builtin.List.listTooLong (items.size+a.size))=Z7)(f:items.size<=jC)(g:items.size+a.size<=jC+1):
  Meets (Builtin.«list.extend» ⟨[.ref l,.ref b],[]⟩) (λ_ R s=>s.heap.get? l=Z9 { cls:=.type "list",dict:=Z8,data:=.seq items n,slots:=#[] }/\s.heap.get? b=Z9 { cls:=.type "tuple",dict:=c,data:=.seq a j,slots:=sl } /\
   R (.ok (.ret Value.none)) { s with heap:=s.heap.update l (vA λx=>x++a),toks:=s.toks }) :=
 .of_wp λe w A R s h=>by
  obtain⟨d,i,h⟩:=h;have hz:(items++a).size<=jC+1:=by rw[fH];exact g
  wp_walk using(mF d rfl (hz:=f) (_hz':=hz)),wU d,wU i
  exact⟨_,rfl,h⟩
def vb(K:yS):V->List V->Hp->VK->Prop:=λx d H Q=>∃l b c a,x=.ref l/\d=[.ref b]/\H l=Z9 (.lst c)/\Zp K H b a/\c.length+a.length<=jC/\Q .non (ZC H l (.lst (c++a)))
theorem va:RU X "list.extend" (vb X.K):=by
 intro o s Z H x M v F Q I p A h;obtain⟨l,b,J,K,rfl,rfl,m,w,E,q⟩:=h;cases p;obtain⟨u,rfl,B⟩:=A.one;cases B;obtain⟨z,d,n,r,G,e⟩:=I.lstM m;obtain⟨a,k,⟨⟨c,g,y,C⟩,D,t,n2,j⟩,_⟩:=I.tuple w
 replace j:y=.seq a.toArray n2:=j
 subst t j;have L:=k.length;have i:d.toArray.size+a.toArray.size<=sizeLine:=by rw[qB2,qB2];lia
 have f:¬(!d.toArray.isEmpty&&Builtin.List.listTooLong (d.toArray.size+a.toArray.size))=Z7:=by rw[Gx i,qV4];exact qB4
 refine fO lC ⟨_,e,rfl⟩ PySem.F.entry_list_extend (PySem.F.args_list_extend_2 _ _)
  (vc l d.toArray n b a.toArray n2 g C f (by lia) (by lia)) ⟨e,D,?_⟩
 refine⟨.non,_,I.lset (its':=d++a) m e (by simp) (r.append k) ?_,rfl,q⟩;rw[qC2]
 lia
end
abbrev F5(h:jH)(T:yR)(a b c:yT):Prop:=h.get? T=Z9 { cls:=.type "tuple",data:=.seq #[a,b,c] }
structure u9(z TI TO i1 i2 i3:yR)(f1 f2 f3:yC):Prop where
 TIz:TI≠z
 TOz:TO≠z
 i1z:i1≠z
 i2z:i2≠z
 i3z:i3≠z
 TITO:TI≠TO
 TIi1:TI≠i1
 TIi2:TI≠i2
 TIi3:TI≠i3
 TOi1:TO≠i1
 TOi2:TO≠i2
 TOi3:TO≠i3
 z1:z∉f1
 z2:z∉f2
 z3:z∉f3
 O1:TO∉f1
 O2:TO∉f2
 O3:TO∉f3
 a12:i1∉f2
 a13:i1∉f3
 a21:i2∉f1
 a23:i2∉f3
 a31:i3∉f1
 a32:i3∉f2
inductive u7(K:yS)(H:Hp)(a b c:yR)(i:Nat):Prop
 |mk (xs ys us:List V) (x y u:V) (q1:YK K H a xs) (q2:Zp K H b ys) (q3:Zp K H c us) (ex:xs[i]?=Z9 x) (ey:ys[i]?=Z9 y) (eu:us[i]?=Z9 u)
inductive u6(K:yS)(H:Hp)(a b c:yR)(i:Nat):Prop
 |mk (xs ys us:List V) (q1:YK K H a xs) (q2:Zp K H b ys) (q3:Zp K H c us) (ei:i=min xs.length (min ys.length us.length))
structure Ot(z TI TO i1 i2 i3 l1 l2 l3:yR)(i:Nat)(h:jH):Prop where
 a1:dH h z TI TO .none
 a2:F5 h TI (.ref i1) (.ref i2) (.ref i3)
 a3:∃a b c,F5 h TO a b c
 a4:Ws Z5 h i1 l1 i
 a5:Ws Z7 h i2 l2 i
 a6:Ws Z7 h i3 l3 i
section
variable {z TI TO i1 i2 i3 l1 l2 l3:yR}{i:Nat}{h:jH}
theorem Ot.obj(st:Ot z TI TO i1 i2 i3 l1 l2 l3 i h):∀b∈[z,TI,TO,i1,i2,i3],∃o,h.get? b=Z9 o/\∀v,o.data≠.cell v:=by obtain⟨_,_,_,a⟩:=st.a3;exact XQ ⟨_,st.a1,λv q=>by cases q⟩ (XQ ⟨_,st.a2,λv q=>by cases q⟩ (XQ ⟨_,a,λv q=>by cases q⟩ (XQ st.a4.obj (XQ st.a5.obj (XQ st.a6.obj allN)))))
theorem Ot.ne(st:Ot z TI TO i1 i2 i3 l1 l2 l3 i h){T:yR}(a:h.objs.size<=T):∀b∈[z,TI,TO,i1,i2,i3],b≠T:=λb c=>by obtain⟨o,e,_⟩:=st.obj b c;exact qB7 (qC1 (qB3 e) a)
inductive bD(X:Cx)(s:yQ)(H:Hp)(l1 l2 l3:yR)(i:Nat):Prop
 |mk (xs ys us:List V) (x y u:V) (t1 t2 t3:yB) (u1 u2 u3:yT) (q1:YK X.K H l1 xs) (q2:Zp X.K H l2 ys) (q3:Zp X.K H l3 us) (ex:xs[i]?=Z9 x) (ey:ys[i]?=Z9 y) (eu:us[i]?=Z9 u)
  (p1:V0 Z5 s.heap l1 t1.toArray) (p2:V0 Z7 s.heap l2 t2.toArray) (p3:V0 Z7 s.heap l3 t3.toArray) (e1:t1[i]?=Z9 u1) (e2:t2[i]?=Z9 u2) (e3:t3[i]?=Z9 u3) (r1:ZG x u1) (r2:ZG y u2) (r3:ZG u u3)
variable {X:Cx}{pins:yD}{Z:St}{H:Hp}{s:yQ}
end
section
variable {X:Cx}
theorem ZO.rev(r:ZO xs a):ZO xs.reverse a.reverse:=by
 induction r with
 |nil=>exact .nil
 |cons r t b=>rw[qJ4,qJ4];exact b.append (.cons r .nil)
theorem RM:∀{b:yB}{a:yA},vI b a->ZO (a.map V.int) b
 |_,_,h=>by
  induction h with
  |nil=>exact .nil
  |cons _ _ _ c=>exact .cons ⟨_,rfl⟩ c
theorem u5:YB X (.builtin "sorted") (λz H Q=>∃(p:yR) (c:yA),z=[.ref p]/\YK X.K H p (c.map V.int)/\c.length<64/\∀(l:yR) (d:yA),H l=Z8->d.Perm c->d.Pairwise (·<=·)->Q (.ref l) (ZC H l (.lst (d.map V.int)))):=by intro i s Z H C B Q I r h;obtain⟨p,c,rfl,y,w,q⟩:=h;obtain⟨u,rfl,m⟩:=XS r;cases m;obtain⟨f,j,pl,A⟩:=I.list y;have a:=j.length;rw[qA0]at a;refine sorted_ints pl.isList (SX j) (by lia) λout t k g v=>?_;obtain⟨e,x⟩:=sortedAll_at s.heap f out;have n:=g.length_eq;refine⟨.ref (s.heap.objs.size+1),_,I.laid (t':=s.toks) (λb o e=>sortedAll_old e) (qU7 _) ?_,rfl,q _ _ (I.hok.fresh (qU7 _)) g v⟩;exact⟨by rw[qA0,n];exact qD4 (qH5 w) (by decide),out.toList,e,RM k,by simpa using x⟩
theorem LG(a:yA):∀k,k<=a.length->wL (λi=>a.getD i 0) k=(a.take k).sum
 |0,_=>by simp[wL]
 |k+1,h=>by
  rw[List.take_add_one,qA2 (by lia),qV0];show wL (λi=>a.getD i 0) k+a.getD k 0=_;rw[LG a k (by lia)];have:k<a.length:=by lia
  simp[this]
theorem u4(L:X.calm=Z7):YB X (.builtin "sum") (λT H Q=>∃(p:yR) (a:yA),T=[.ref p]/\YK X.K H p (a.map V.int)/\(∀n∈a,0<=n/\n<=1000000)/\a.length<=1000000/\Q (.int a.sum) H):=by
 intro y s Z H xs Y Q I r h;obtain⟨p,a,rfl,S,D,hl,q⟩:=h;obtain⟨u,rfl,l⟩:=XS r;cases l;obtain⟨f,z,pl,W⟩:=I.list S;have g:p<s.heap.objs.size:=by obtain⟨_,e,_⟩:=pl.isList;exact qB3 e
 have c:=z.length;rw[qA0]at c;have O:∀k,k<=a.length->0<=wL (λi=>a.getD i 0) k/\wL (λi=>a.getD i 0) k<=1000000*(k:Int):=by
  intro k
  induction k with
  |zero=>intro _;simp[wL]
  |succ k J =>
   intro hk;have E:=J (by lia);have K:=D (a.getD k 0) (by simp only[qF4];rw[qA2 (by lia)];exact qD6 _);show 0<=wL _ k+a.getD k 0/\wL _ k+a.getD k 0<=_
   lia
 refine call_sum_walk (jW pl.isList ?_);refine⟨s.heap.objs.size,_,[s.heap.objs.size],_,_,_,λi=>a.getD i 0,rfl,Walks.list (A:=X.A.in1) (show X.A.in1.handled=Z8 from I.ok.hd L) s.heap.objs.size p (qB7 g) f.toArray,⟨⟨_,qA9 _ rfl,rfl,rfl⟩,pl.isList.push _⟩,λb C=>?_,λi v F=>?_,λj N=>?_,λh' M t' R=>?_⟩
 .rw[wY];simp only[qB0,qF8,or_false]at C;rcases C with rfl|rfl
  .exact qI6 _
  .exact qE9 g
 .have d:f[i]?=Z9 v:=by simpa using F
  have w:i<a.length:=by have:=(qA4.mp d).1;lia
  obtain⟨u,e,l⟩:=ZO.get z (i:=i) (x:=.int a[i]) (by rw[qB1,qA2 w];rfl);rw[e]at d;cases d;obtain⟨t,rfl⟩:=l;exact⟨t,by simp[qF4,w]⟩
 .have m:j<a.length:=by rw[qB2]at N;lia
  have E:=O (j+1) (by lia);have K:=D (a.getD j 0) (by simp only[qF4];rw[qA2 m];exact qD6 _);have h3:((j+1:Nat):Int)<=1000000:=by lia
  have U:wL (λi=>a.getD i 0) (j+1)<=1000000000000:=by lia
  dsimp only;generalize wL (λi=>a.getD i 0) (j+1)=P at *;generalize a.getD j 0=G at *;refine⟨?_,?_⟩<;>(unfold InLong;lia)
 .have e:wL (λi=>a.getD i 0) f.toArray.size=a.sum:=by rw[qB2,<- c,LG a _ (qA7 _),qG2]
  rw[e];refine⟨.int a.sum,H,?_,⟨_,rfl⟩,q⟩;exact I.kept (t':=M) λb o B=>R b o (by simp only[qB6];exact qB7 (qB3 B)) (qA3 _ B)
theorem u0(M:X.calm=Z7):YB X (.builtin "sum") (λU H Q=>∃(p:yR) (a:yA),U=[.ref p]/\Zp X.K H p (a.map V.int)/\(∀n∈a,0<=n/\n<=1000000)/\a.length<=1000000/\Q (.int a.sum) H):=by
 intro z s Z H xs us Q I r h;obtain⟨p,a,rfl,T,E,hl,q⟩:=h;obtain⟨u,rfl,m⟩:=XS r;cases m;obtain⟨c,B,pl,Y⟩:=I.tuple T;have f:s.heap.IsTuple p c.toArray:=pl;have l:p<s.heap.objs.size:=by obtain⟨_,e,_⟩:=f;exact qB3 e
 have d:=B.length;rw[qA0]at d;have R:∀k,k<=a.length->0<=wL (λi=>a.getD i 0) k/\wL (λi=>a.getD i 0) k<=1000000*(k:Int):=by
  intro k
  induction k with
  |zero=>intro _;simp[wL]
  |succ k K =>
   intro hk;have F:=K (by lia);have L:=E (a.getD k 0) (by simp only[qF4];rw[qA2 (by lia)];exact qD6 _);show 0<=wL _ k+a.getD k 0/\wL _ k+a.getD k 0<=_
   lia
 refine call_sum_walk (vE f ?_);refine⟨s.heap.objs.size,_,[s.heap.objs.size],_,_,_,λi=>a.getD i 0,rfl,Walks.tuple (A:=X.A.in1) (show X.A.in1.handled=Z8 from I.ok.hd M) s.heap.objs.size p (qB7 l) c.toArray,⟨⟨_,qA9 _ rfl,rfl,rfl⟩,f.push _⟩,λb D=>?_,λi v J=>?_,λj O=>?_,λh' N t' S=>?_⟩
 .rw[wY];simp only[qB0,qF8,or_false]at D;rcases D with rfl|rfl
  .exact qI6 _
  .exact qE9 l
 .have g:c[i]?=Z9 v:=by simpa using J
  have y:i<a.length:=by have:=(qA4.mp g).1;lia
  obtain⟨u,e,m⟩:=ZO.get B (i:=i) (x:=.int a[i]) (by rw[qB1,qA2 y];rfl);rw[e]at g;cases g;obtain⟨t,rfl⟩:=m;exact⟨t,by simp[qF4,y]⟩
 .have w:j<a.length:=by rw[qB2]at O;lia
  have F:=R (j+1) (by lia);have L:=E (a.getD j 0) (by simp only[qF4];rw[qA2 w];exact qD6 _);have h3:((j+1:Nat):Int)<=1000000:=by lia
  have W:wL (λi=>a.getD i 0) (j+1)<=1000000000000:=by lia
  dsimp only;generalize wL (λi=>a.getD i 0) (j+1)=P at *;generalize a.getD j 0=G at *;refine⟨?_,?_⟩<;>(unfold InLong;lia)
 .have e:wL (λi=>a.getD i 0) c.toArray.size=a.sum:=by rw[qB2,<- d,LG a _ (qA7 _),qG2]
  rw[e];refine⟨.int a.sum,H,?_,⟨_,rfl⟩,q⟩;exact I.kept (t':=N) λb o C=>S b o (by simp only[qB6];exact qB7 (qB3 C)) (qA3 _ C)
theorem F4{b:yA}(r:ZO (b.map V.int) d):TruthOf prog w A (λi v=>d.toArray[i]?=Z9 v) (λi=>(b.map (· != 0)).getD i Z5):=by
 intro i v s Q E g k;have a:=by simpa using g
 have f:i<b.length:=by
  have l:=(qA4.mp a).1;have m:=r.length
  simp_all
 obtain⟨u,e,h⟩:=ZO.get r (by rw[qB1,qA2 f];rfl);rw[e]at a;cases a;obtain⟨t,rfl⟩:=h;have j:(b.map (· != 0)).getD i Z5=(b[i] != 0):=by simp[qF4,f]
 have c:Q ((b.map (· != 0)).getD i Z5) s:=k;rw[j]at c;exact PyProof.Rows.truthy_int c
theorem uZ(m:X.calm=Z7):YB X (.builtin "all") (λx H Q=>∃(p:yR) (c:yA),x=[.ref p]/\Zp X.K H p (c.map V.int)/\Q (.bl (c.all (· != 0))) H):=by
 intro j s Z H B z Q I r h;obtain⟨p,c,rfl,w,q⟩:=h;obtain⟨u,rfl,t⟩:=XS r;cases t;obtain⟨f,k,pl,y⟩:=I.tuple w;have d:=pl;have g:p<s.heap.objs.size:=by obtain⟨_,e,_⟩:=d;exact qB3 e
 have a:=k.length;rw[qA0]at a;refine call_all_walk (vE d ?_);refine⟨s.heap.objs.size,_,[s.heap.objs.size],_,_,_,_,rfl,Walks.tuple (A:=X.A.in1) (I.ok.hd m) s.heap.objs.size p (qB7 g) f.toArray,⟨⟨_,qA9 _ rfl,rfl,rfl⟩,d.push _⟩,F4 k,λC n v=>?_⟩;have e:(List.range f.toArray.size).all (λi=>(c.map (· != 0)).getD i Z5)=c.all (· != 0):=by rw[qB2,<- a,show c.length=(c.map (· != 0)).length by simp,Gf,qO3];rfl
 rw[e];refine⟨.bl (c.all (· != 0)),H,?_,rfl,q⟩;exact I.kept (t':=n) λb o l=>v b o (by simp only[qB6];exact qB7 (qB3 l)) (qA3 _ l)
theorem uY(m:X.calm=Z7):YB X (.builtin "any") (λx H Q=>∃(p:yR) (c:yA),x=[.ref p]/\Zp X.K H p (c.map V.int)/\Q (.bl (c.any (· != 0))) H):=by
 intro j s Z H B z Q I r h;obtain⟨p,c,rfl,w,q⟩:=h;obtain⟨u,rfl,t⟩:=XS r;cases t;obtain⟨f,k,pl,y⟩:=I.tuple w;have d:=pl;have g:p<s.heap.objs.size:=by obtain⟨_,e,_⟩:=d;exact qB3 e
 have a:=k.length;rw[qA0]at a;refine call_any_walk (vE d ?_);refine⟨s.heap.objs.size,_,[s.heap.objs.size],_,_,_,_,rfl,Walks.tuple (A:=X.A.in1) (I.ok.hd m) s.heap.objs.size p (qB7 g) f.toArray,⟨⟨_,qA9 _ rfl,rfl,rfl⟩,d.push _⟩,F4 k,λC n v=>?_⟩;have e:(List.range f.toArray.size).any (λi=>(c.map (· != 0)).getD i Z5)=c.any (· != 0):=by rw[qB2,<- a,show c.length=(c.map (· != 0)).length by simp,Ge,qT4];rfl
 rw[e];refine⟨.bl (c.any (· != 0)),H,?_,rfl,q⟩;exact I.kept (t':=n) λb o l=>v b o (by simp only[qB6];exact qB7 (qB3 l)) (qA3 _ l)
theorem uX:RW X "int.bit_length" (λx c H Q=>∃i:Int,x=.int i/\c=[]/\Q (.int ((Builtin.Int.intBits i:Nat):Int)) H):=by intro a s Z H x e v d Q I b rs h;obtain⟨i,rfl,rfl,q⟩:=h;obtain⟨t,rfl⟩:=b;have:=rs.zero;subst this;exact call_int_bit_length ⟨.int _,H,I.tok _,⟨_,rfl⟩,q⟩
end
section
variable {X:Cx}{pins:yD}{Z:St}{H:Hp}{s:yQ}
theorem ZP.dTnil(I:ZP X pins Z H s)(e:H a=Z9 (.dK [])):ZP X pins Z (ZC H a (.dT [])) s:=by
 obtain⟨z,j,m,r,o,d,i,c,h,k,n,g,p⟩:=RT I.hok e;have f:m=[]:=by cases r;rfl
 subst f;have l:d.toList=[]:=by have:=g.length;exact qF0.mp (by simpa using this)
 refine I.write (x:=a) (e:=a) (h':=s.heap) (t':=s.toks) (by rw[e];exact True.intro) (.inl rfl) (λb u _ q=>q) ⟨o,c⟩ ?_;exact⟨qE6 _,j,[],.nil,o,d,i,c,h,k,by simpa using l,qS0⟩
end
def LF(h:jH)(d:yR)(es:Array fP)(a:Nat):Prop:=∃o,h.get? d=Z9 o/\o.cls=.type "dict"/\o.data=.dict es a
section
variable {prog:yZ}{w:jG}{A:jF}{E:yL}{s:yQ}{z TI TO:yR}{f0:yT}
theorem F3:isSubtype (.type "AttributeError") (.type "AttributeError")=pure Z7:=by kernel_rfl
end
section
variable {prog:yZ}{w:jG}{A:jF}{z TI TO i1 i2 d:yR}{f1 f2:yC}{n1 n2:Nat}{P1 P2:Nat->yT->Prop}{S1 S2:Nat->jH->Prop}
theorem F2:entryFor table "dict.update.loop"=Z9 Builtin.«dict.update.loop»:=by kernel_rfl
theorem F1(a:Args):(Code.builtin "dict.update.loop" a).quiet=Z7:=by kernel_rfl
end
section
variable {prog:yZ}{w:jG}{A:jF}{E:yL}{s:yQ}{it d:yR}{i ep:Nat}{es:Array fP}
theorem uW{Q:yF->yQ->Prop}(a:s.heap.IsKeyIter it d i es.size ep)(k:LF s.heap d es ep)(p:es[i]?=Z9 e)
  (n:∀h',h'.IsKeyIter it d (i+1) es.size ep->qE4 it s.heap h'->Q (Z9 e.key) { s with heap:=h' }):y7 (yV prog w) A (mS (.ref it)) Q E s:=by
 have ty:=a.typeIs;obtain⟨o,h,m,g⟩:=id a;obtain⟨q,c,_,b⟩:=k;refine yO (vH (jK ty vS (jI vS ty fT ?_ (fR _))));refine yO (yP (yO (yO (yO (vO ty (yP (yO (wN h g ?_))))))));refine yO (yP (yO (gQ c b ?_)));rw[if_neg (by simp)];refine yO (yP (yO (mG c b ?_)));rw[if_neg (by simp)];refine yP ?_;have l:¬((i:Int)<0):=by lia
 simp only[l,if_false,qD9,p];refine yO (yO (vO ty (yP (yO (mK ty ?_)))));show y7 _ _ (setField (.ref it) 1 (gD (i+1)) >>= _) _ _ s;refine yO (vJ h g (by simp) ?_);have f:(s.heap.update it (lE (·.setIfInBounds 1 (gD (i+1))))).IsKeyIter it d (i+1) es.size ep :=
  ⟨_,qF9 _ h (wK (vD g _)),(fG ..).trans m,by rw[vD g];simp[gD]⟩
 have j:Shared.TypeIs { s with heap:=s.heap.update it (lE (·.setIfInBounds 1 (gD (i+1)))) } (.ref it) "dict_keyiterator":=f.typeIs;refine yO (jM (yO (mK j ?_)));exact yP (yP ⟨_,rfl,yP (n _ f (qE4.update ..))⟩)
theorem LD{Q:yF->yQ->Prop}(l:A.handled=Z8)(a:s.heap.IsKeyIter it d i es.size ep)(j:LF s.heap d es ep)(k:es[i]?=Z8)
  (h:∀h',qR9 it s.heap h'->Q Z8 { s with heap:=h' }):y7 (yV prog w) A (mS (.ref it)) Q E s:=by
 have ty:=a.typeIs;obtain⟨o,e,m,f⟩:=id a;obtain⟨n,c,_,b⟩:=j;refine yO (vH (jK ty vS (jI vS ty fT ?_ (fR _))));refine yO (yP (yO (yO (yO (vO ty (yP (yO (wN e f ?_))))))));refine yO (yP (yO (gQ c b ?_)));rw[if_neg (by simp)];refine yO (yP (yO (mG c b ?_)));rw[if_neg (by simp)];refine yP ?_;have g:¬((i:Int)<0):=by lia
 simp only[g,if_false,qD9,k];refine yO (yO (vO ty (yP ?_)));refine yO (vJ (i:=0) e f (by simp) ?_);refine f7 l ?_;refine yO (vX ⟨_,qA9 _ rfl,rfl⟩ gG ?_);exact yP (h _ (((qE4.update ..).extBut.push _).push _))
theorem uV{Q:yL}(lo:(d == vY)=Z5)(f:LF s.heap d es ep)
  (e:Q (.ref s.heap.objs.size) { s with heap:=s.heap.push { cls:=.type "dict_keyiterator",data:=.fields #[.ref d,.int 0 0,.int es.size 0,.int ep 0] } }):y7 (yV prog w) A (mT (.ref d)) Q E s:=by
 obtain⟨o,b,c,a⟩:=f;have ty:s.TypeIs (.ref d) "dict":=⟨o,b,c⟩
 refine gR ty F.slot_dict_iter (jI F.slot_dict_iter ty F.entry_dict_iter ?_ (F.args_dict_iter_1 _));refine yO (yO (mL ty (yO (yP (yP ?_)))));refine yO (yP ?_);unfold Builtin.Dict.showsAll;rw[if_neg (by rw[lo];exact qB4)];refine yO (yP (yO (gQ b a (yO (mG b a ?_)))));refine yO (jV (yP ⟨_,rfl,"dict_keyiterator",_,⟨_,qA9 _ rfl,rfl⟩,F.slot_dict_keyiterator_next.lookup,?_⟩));simpa[gD]using e
end
theorem Os{xs:List α}{ys:List a}(r:mQ R xs ys):∀{i:Nat}{y:a},ys[i]?=Z9 y->∃x,xs[i]?=Z9 x/\R x y:=by
 induction r with
 |nil=>intro i y e;simp at e
 |cons h t b =>
  intro i y e;cases i with
  |zero=>simp at e;subst e;exact⟨_,rfl,h⟩
  |succ i=>exact b (by simpa using e)
def Rs(xs:Array Nat):Prop:=xs.toList.Pairwise (·<·)
theorem Rs.get(h:Rs xs){i j a b:Nat}(c:xs[i]?=Z9 a)(d:xs[j]?=Z9 b)(l:i<j):a<b:=by rw[<- y8]at c d;obtain⟨f,rfl⟩:=qA4.mp c;obtain⟨e,rfl⟩:=qA4.mp d;exact qP3.mp h i j f e l
def Bl(xs:Array Nat)(j r:Nat):Prop:=r<=xs.size/\(∀i a,xs[i]?=Z9 a->i<r->a<j)/\∀i a,xs[i]?=Z9 a->r<=i->j<=a
theorem LC{xs:Array Nat}(h:Rs xs)(j:Nat):∀(n lo hi:Nat),hi - lo<=n->lo<=hi->hi<=xs.size->(∀i a,xs[i]?=Z9 a->i<lo->a<j)->(∀i a,xs[i]?=Z9 a->hi<=i->j<=a)->Bl xs j (SetTable.below.go xs j n lo hi)
 |0,lo,hi,h1,h2,h3,h4,h5=>by
  have e:lo=hi:=by omega
  subst e;exact⟨h3,h4,h5⟩
 |n+1,lo,hi,h1,h2,h3,h4,h5=>by
  unfold SetTable.below.go;split
  .rename_i k;have d:(lo+hi) / 2<xs.size:=by omega
   have f:=jA d;have g:xs.getD ((lo+hi) / 2) j=xs[(lo+hi) / 2]:=by simp[d]
   simp only[g];split
   .rename_i c;refine LC h j n _ hi (by omega) (by omega) h3 (λi a b hi2=>?_) h5;by_cases e:i=(lo+hi) / 2
    .simp_all
    .exact qT3 (h.get b f (by omega)) c
   .rename_i c;refine LC h j n lo _ (by omega) (by omega) (by omega) h4 (λi a b hi2=>?_);by_cases e:i=(lo+hi) / 2
    .simp_all
    .have:=h.get f b (by omega);omega
  .have e:lo=hi:=by omega
   subst e;exact⟨h3,h4,h5⟩
theorem QI(h:Rs xs)(j:Nat):Bl xs j (SetTable.below xs j):=by
 refine LC h j _ 0 xs.size (by lia) (by lia) (qA7 _) (λi a _ l=>absurd l (qG5 _)) λi a b l=>?_;have:i<xs.size:=by
  rcases qK7 i xs.size with g|g
  .exact g
  .simp_all
 lia
theorem Bl.uniq(a:Bl xs j r)(b:Bl xs j r'):r=r':=by
 obtain⟨g,d,c⟩:=a;obtain⟨b1,e,f⟩:=b;rcases qM6 r r' with l|l|l
 .have:=e r _ (jA (by lia)) l;have:=c r _ (jA (by lia)) (qA7 _)
  lia
 .exact l
 .have:=d r' _ (jA (by lia)) l;have:=f r' _ (jA (by lia)) (qA7 _)
  lia
theorem Rs.insert(h:Rs xs)(t:xs[SetTable.below xs j]?≠Z9 j):Rs (SetTable.insertAt xs (SetTable.below xs j) j):=by
 obtain⟨b1,r,n⟩:=QI h j;unfold Rs;rw[SetTable.toList_insertAt];have e:xs.toList=xs.toList.take (SetTable.below xs j)++xs.toList.drop (SetTable.below xs j):=(qD1 _ _).symm;have m:=h;unfold Rs at m;rw[e,qC4]at m;obtain⟨s,v,w⟩:=m;have p:∀a∈xs.toList.take (SetTable.below xs j),a<j:=λa c=>by obtain⟨i,d,rfl⟩:=qH1 c;rw[qF7]at d;refine r i _ ?_ (by lia);rw[<- y8,List.getElem_take];exact qA2 _
 have q:∀a∈xs.toList.drop (SetTable.below xs j),j<a:=λa c=>by
  obtain⟨i,d,rfl⟩:=qH1 c;rw[qI5]at d;have g:xs[SetTable.below xs j+i]?=Z9 ((xs.toList.drop (SetTable.below xs j))[i]):=by rw[<- y8,qM7];exact qA2 _
  have l:=n _ _ g (by lia);rcases qO7 l with l|l
  .exact l
  .exfalso;by_cases u:i=0
   .subst u;rw[<- l]at g;exact t g
   .have k:SetTable.below xs j<xs.size:=by rw[yY]at d;lia
    have o:=jA k;have:=h.get o g (by lia);have:=n _ _ o (qA7 _)
    lia
 rw[qC4,qF6];refine⟨s,⟨q,v⟩,λa c b f=>?_⟩;rcases qB0.mp f with rfl|f
 .exact p a c
 .exact w a c b f
structure TOk(bt:Bool)(t:jX):Prop where
 led:t.led=!bt
 up:t.plain=Z7->Rs t.place
theorem TOk.fresh(bt:Bool):TOk bt (.fresh 0 0 (!bt)):=⟨rfl,λ_=>by simp[SetTable.fresh,Rs]⟩
theorem uU(e:SetTable.laid m f v l p hs=Z9 (t,o)):t.led=l/\t.plain=p/\Rs t.place:=by
 obtain⟨d,_,e⟩:=qA5.mp e;cases e;refine⟨rfl,rfl,?_⟩;have i:∀c:List Nat,(c.filterMap λj=>(d.getD j Z8).map (j,·)).map (·.1)=c.filter λj=>(d.getD j Z8).isSome:=by
  intro c
  induction c with
  |nil=>rfl
  |cons a c g =>
   cases h:d.getD a Z8 with
   |none=>rw[List.filterMap_cons_none (by rw[h];rfl),List.filter_cons_of_neg (by rw[h];exact qB4),g]
   |some b=>rw[qP9 (by rw[h];rfl),List.filter_cons_of_pos (by rw[h];rfl),qB8,g]
 rw[i];exact List.Pairwise.filter _ qM8
def one(zs:yA)(z:Int):yA:=if z∈zs then zs else z::zs
def Wr(w:jG):Bool:=w.params.followText "set-order"
def TU(w:jG):Obj:={ cls:=.type "set",dict:=Z8,data:=.set #[] 0 (.fresh 0 0 (!Wr w)) }
section
variable {prog:yZ}{w:jG}{A:jF}{E:yL}{s:yQ}
theorem uT(a:yT){Q:yL}(h:Q (.ref s.heap.objs.size) { s with heap:=s.heap.push (TU w) }):
  wD (yV prog w) A (.call (.builtin "set.__new__") ⟨[.type "set",a],[]⟩) (wants Q E) s:=by
 refine codeAny_of_tree ?_;show y7 _ A.in1 (do checkBuiltinCall "set.__new__" ⟨[.type "set",a],[]⟩;again (.builtin "set.__new__" ⟨[.type "set",a],[]⟩)) _ _ s;refine yO (wpAny_of_eq (PySem.F.newCall_set_1 a) (yP ⟨lF mM _,vC PySem.F.entry_set_new ?_⟩));rw[Around.under_plainId mM _];unfold Builtin.«set.__new__» Builtin.Frozenset.newClass;have b:=sub_set_self;obtain⟨c,g,d,e,f⟩:=s;dsimp only
 wp_walk
 refine lQ (yP ?_);dsimp only;simp only[newObj];refine yO (wpAny_alloc (yP ?_));exact yP h
end
theorem F0:Manifest.owners.lookup (String.ofList ['r','o','t','a','r','e','t','i','_','t','e','s'].reverse)=Z9 Manifest.sig_set_iterator:=by kernel_rfl
theorem Vo:Slot "set_iterator" "__next__" "set_iterator.__next__" :=
 .of (owner := "set_iterator") (n := "__next__") (by rw[typeLookup_type,mN];kernel_rfl) (by decide) (by decide) (by decide)
  (by first|exact .inl (by decide)| exact .inr (by decide)) (by rw[isSubtype_type];kernel_rfl)
theorem FZ:Slot "set_iterator" "__iter__" "set_iterator.__iter__" :=
 .of (owner := "set_iterator") (n := "__iter__") (by rw[typeLookup_type,mN];kernel_rfl) (by decide) (by decide) (by decide)
  (by first|exact .inl (by decide)| exact .inr (by decide)) (by rw[isSubtype_type];kernel_rfl)
theorem Oq:entryFor table "set_iterator.__next__"=Z9 Builtin.«set_iterator.__next__»:=entryFor_of_tree (by kernel_rfl)
theorem uS:entryFor table "set_iterator.__iter__"=Z9 Builtin.«dict_keyiterator.__iter__»:=entryFor_alias (id' := "dict_keyiterator.__iter__") (by kernel_rfl) rfl (by decide) (by kernel_rfl)
theorem uR:entryFor table "set.__iter__"=Z9 Builtin.«frozenset.__iter__»:=entryFor_alias (id' := "frozenset.__iter__") (by kernel_rfl) rfl (by decide) (by kernel_rfl)
theorem Oo(a:yT):argsOk "set_iterator.__next__" ⟨[a],[]⟩:=by unfold argsOk;rw[signature?_of (id := "set_iterator.__next__") (n:=['_','_','t','x','e','n','_','_']) (o:=['r','o','t','a','r','e','t','i','_','t','e','s']) (by kernel_rfl) F0];kernel_rfl
theorem uQ(a:yT):argsOk "set_iterator.__iter__" ⟨[a],[]⟩:=by unfold argsOk;rw[signature?_of (id := "set_iterator.__iter__") (n:=['_','_','r','e','t','i','_','_']) (o:=['r','o','t','a','r','e','t','i','_','t','e','s']) (by kernel_rfl) F0];kernel_rfl
def YO(h:jH)(a S:yR)(f:yT)(i n b:Nat):Prop:=∃o,h.get? a=Z9 o/\o.cls=.type "set_iterator"/\o.data=.fields #[f,.int (i:Int) 0,.ref S,.int (n:Int) 0,.int (b:Int) 0]
section
variable {prog:yZ}{w:jG}{A:jF}{E:yL}{s:yQ}{it S:yR}{f:yT}{i n ep:Nat}
theorem YO.ty(h:YO s.heap it S f i n ep):s.TypeIs (.ref it) "set_iterator":=let ⟨o,g,c,_⟩:=h;⟨o,g,c⟩
theorem YO.at(x:YO h it S f i n ep)(e:∀o,h.get? it=Z9 o->h'.get? it=Z9 o):YO h' it S f i n ep:=let ⟨o,g,r⟩:=x;⟨o,e _ g,r⟩
theorem YO.set0(x:YO h it S f i n ep)(f':yT):YO (h.update it (lE (·.setIfInBounds 0 f'))) it S f' i n ep:=by obtain⟨o,g,c,d⟩:=x;exact⟨_,qF9 _ g (wK (vD d _)),(fG ..).trans c,by rw[vD d];simp⟩
theorem YO.set1(x:YO h it S f i n ep)(j:Nat):YO (h.update it (lE (·.setIfInBounds 1 (.int (j:Int) 0)))) it S f j n ep:=by obtain⟨o,g,c,d⟩:=x;exact⟨_,qF9 _ g (wK (vD d _)),(fG ..).trans c,by rw[vD d];simp⟩
theorem LB{Q:yL}(a:YO s.heap it S f i n ep)(h:Q (.ref it) s):y7 (yV prog w) A (mT (.ref it)) Q E s:=by refine gR a.ty FZ (jI FZ a.ty uS ?_ (uQ _));exact yP ⟨_,rfl,"set_iterator",_,a.ty,Vo.lookup,h⟩
theorem FY{sl b:Nat}{Q:yF->yQ->Prop}(a:YO s.heap it S (.int (sl:Int) 0) i es.size ep)(g:s.heap.get? S=Z9 o)(d:o.data=.set es ep t)(j:t.fits es.size=Z7)
  (p:∀(A:jF) (E:yL) (R:Option (yT×Nat)->yQ->Prop),R (Z9 (x,b)) s->y7 (yV prog w) A (setNext S sl i ep) R E s)
  (m:∀h',YO h' it S (.int (b:Int) 0) (i+1) es.size ep->qE4 it s.heap h'->Q (Z9 x) { s with heap:=h' }):y7 (yV prog w) A (mS (.ref it)) Q E s:=by have ty:=a.ty;obtain⟨r,h,u,e⟩:=id a;refine yO (vH (jK ty Vo (jI Vo ty Oq ?_ (Oo _))));refine yO (yP (yO (wN h e ?_)));dsimp only;refine yO (yO (jN g d j (yP ?_)));rw[if_neg (by simp)];refine yO (p _ _ _ ?_);refine yO (vJ h e (by simp) ?_);have c:=a.set0 (.int b 0);obtain⟨v,l,y,q⟩:=id c;refine yO (vJ l q (by simp) ?_);have k:=c.set1 (i+1);exact yP ⟨_,rfl,yP (m _ k ((qE4.update ..).trans (qE4.update ..)))⟩
theorem FX{sl:Nat}{Q:yF->yQ->Prop}(k:A.handled=Z8)(a:YO s.heap it S (.int (sl:Int) 0) i es.size ep)(g:s.heap.get? S=Z9 o)(d:o.data=.set es ep t)(e:t.fits es.size=Z7)
  (j:∀(A:jF) (E:yL) (R:Option (yT×Nat)->yQ->Prop),R Z8 s->y7 (yV prog w) A (setNext S sl i ep) R E s)
  (h:∀h',qR9 it s.heap h'->Q Z8 { s with heap:=h' }):y7 (yV prog w) A (mS (.ref it)) Q E s:=by have ty:=a.ty;obtain⟨l,c,m,b⟩:=id a;refine yO (vH (jK ty Vo (jI Vo ty Oq ?_ (Oo _))));refine yO (yP (yO (wN c b ?_)));dsimp only;refine yO (yO (jN g d e (yP ?_)));rw[if_neg (by simp)];refine yO (j _ _ _ ?_);refine yO (vJ c b (by simp) ?_);refine f7 k ?_;refine yO (vX ⟨_,qA9 _ rfl,rfl⟩ gG ?_);exact yP (h _ (((qE4.update ..).extBut.push _).push _))
theorem uP{pl:yJ}{p:Nat}{Q:yF->yQ->Prop}(a:YO s.heap it S (.ref T) i es.size ep)(k:s.heap.IsTuple T pl)(g:s.heap.get? S=Z9 o)(d:o.data=.set es ep t)(b:t.fits es.size=Z7)
  (l:pl[i]?=Z9 (.int (p:Int) 0)) (h:es[p]?=Z9 (z,x))
  (m:∀h',YO h' it S (.ref T) (i+1) es.size ep->qE4 it s.heap h'->Q (Z9 x) { s with heap:=h' }):y7 (yV prog w) A (mS (.ref it)) Q E s:=by have ty:=a.ty;obtain⟨q,e,r,c⟩:=id a;refine yO (vH (jK ty Vo (jI Vo ty Oq ?_ (Oo _))));refine yO (yP (yO (wN e c ?_)));dsimp only;refine yO (yO (jN g d b (yP ?_)));rw[if_neg (by simp)];obtain⟨u,gT,cT,v,dT⟩:=id k;refine yO (vB gT dT ?_);simp only[qD9,l];refine yO (yO (jN g d b ?_));dsimp only;rw[if_neg (by simp)];simp only[h];refine yP ?_;refine yO (vJ e c (by simp) ?_);have j:=a.set1 (i+1);exact yP ⟨_,rfl,yP (m _ j (qE4.update ..))⟩
theorem uO{pl:yJ}{Q:yF->yQ->Prop}(h:A.handled=Z8)(a:YO s.heap it S (.ref T) i es.size ep)(j:s.heap.IsTuple T pl)(g:s.heap.get? S=Z9 o)(d:o.data=.set es ep t)(e:t.fits es.size=Z7)
  (k:pl[i]?=Z8) (m:∀h',qR9 it s.heap h'->Q Z8 { s with heap:=h' }):y7 (yV prog w) A (mS (.ref it)) Q E s:=by have ty:=a.ty;obtain⟨q,c,r,b⟩:=id a;refine yO (vH (jK ty Vo (jI Vo ty Oq ?_ (Oo _))));refine yO (yP (yO (wN c b ?_)));dsimp only;refine yO (yO (jN g d e (yP ?_)));rw[if_neg (by simp)];obtain⟨v,gT,cT,y,dT⟩:=id j;refine yO (vB gT dT ?_);simp only[qD9,k];refine yO (vJ c b (by simp) ?_);obtain⟨u,l,x,p⟩:=a.set0 (.int 0 0);refine yO (vJ l p (by simp) ?_);refine f7 h ?_;refine yO (vX ⟨_,qA9 _ rfl,rfl⟩ gG ?_);exact yP (m _ ((((qE4.update ..).trans (qE4.update ..)).extBut.push _).push _))
end
theorem LA{α:Type}:∀{l:List α}{i:Nat} (h:i<l.length),(l[i]::l.eraseIdx i).Perm l
 |a::l,0,h=>.refl _
 |a::l,i+1,h=>by
  have b:=by simpa using h
  exact(List.Perm.swap _ _ _).trans ((LA b).cons a)
theorem FW(next:Nat->Nat):∀(n k:Nat) (l:List α) (out:Array α),l.length=n->(pickOrder.go next n k l out).toList.Perm (out.toList++l)
 |0,k,l,out,h=>by rw[qF0.mp h];unfold pickOrder.go;simp
 |n+1,k,l,out,h=>by
  unfold pickOrder.go;have a:next k % l.length<l.length:=qQ3 _ (by lia)
  rw[qA2 a];refine(FW next n (k+1) _ _ (by rw[qO8 a];lia)).trans ?_;rw[gU,qC3];refine List.Perm.append_left _ ?_;exact LA a
theorem Lz(next:Nat->Nat)(xs:Array α):(dC next xs).toList.Perm xs.toList:=by
 have:=FW next xs.size 0 xs.toList #[] (by rw[yY])
 simpa[dC]using this
section
variable {prog:yZ}{w:jG}{A:jF}{E:yL}{s:yQ}{S:yR}{i sl ep:Nat}{es:Array (Int×yT)}{t:jX}{o:Obj}
theorem On(a:Wr w=b)(h:Q b s):y7 (yV prog w) A setsByText Q E s:=by refine yO (lQ (yP ?_));subst a;exact h
theorem FV(b:Wr w=Z7)(g:s.heap.get? S=Z9 o)(d:o.data=.set es ep t)(a:t.fits es.size=Z7)
  (h:R (((dC (w.params.setOrder S ep) es)[i]?).map λe=>(e.2,sl)) s):y7 (yV prog w) A (setNext S sl i ep) R E s:=by refine yO (jN g d a (yO (On b ?_)));rw[if_pos rfl];rw[if_neg (by simp)];refine yO (yO (jN g d a (yO (On b ?_))));refine yO (lQ (yP (yP h)))
theorem FU(e:Wr w=Z5)(g:s.heap.get? S=Z9 o)(d:o.data=.set es ep t)(c:t.fits es.size=Z7)(f:t.led=Z7)(b:(!t.plain&&decide (es.size>1))=Z5)
  (h:R (match es[SetTable.below t.place sl]?,t.place[SetTable.below t.place sl]? with|some (_,x),Z9 j=>Z9 (x,j+1)| _,_=>Z8) s):y7 (yV prog w) A (setNext S sl i ep) R E s:=by refine yO (jN g d c (yO (On e ?_)));rw[if_neg (by simp)];refine wH (λa=>absurd a (by show ¬((!t.plain&&decide (es.size>1))=Z7);rw[b];exact qB4)) λ_=>?_;refine yO ?_;show y7 _ _ (if(!t.led&&!es.isEmpty)=Z7 then unsupported _ else pure ()) _ _ _;rw[f,if_neg (by simp)];exact yP (yP h)
theorem FT{α:Type}:∀(n:Nat) (xs:List α) {s:yQ}{Q:List α->yQ->Prop},xs.length=n->(∀ys d,ys.Perm xs->Q ys { s with drawn:=d })->y7 (yV prog w) A (drawOrder n xs) Q E s
 |0,xs,s,Q,hl,h=>by rw[qF0.mp hl]at h;exact yP (h [] s.drawn .nil)
 |n+1,[],s,Q,hl,h=>by cases hl
 |n+1,x::xs,s,Q,hl,h=>by
  refine yO ?_;have b:∀k R,k≠0->(∀i d,i<k->R i { s with drawn:=d })->y7 (yV prog w) A (choose .order k) R E s:=by intro k R hk e f p g;exact⟨hk,by exact e _ _ (qQ3 _ (by lia))⟩
  refine b _ _ (by simp) λi d a=>?_;rw[qA2 a];refine yO (FT n _ (by rw[qO8 a];lia) λys j c=>yP (h _ _ ?_));exact(List.Perm.cons _ c).trans (LA a)
end
section
variable {prog:yZ}{w:jG}{A:jF}{E:yL}{s:yQ}{S I T:yR}{ep:Nat}{es:Array (Int×yT)}{t:jX}{o:Obj}{vs:yB}
theorem uz(p:A.handled=Z8)(k:S≠I)(c:Wr w=Z7)(d:o.data=.set es ep t)(g:t.fits es.size=Z7):
  Walks prog w A I [I,S] [I] es.size (λi v=>((dC (w.params.setOrder S ep) es).toList.map (·.2))[i]?=Z9 v) (λi h=>YO h I S (.int 0 0) i es.size ep/\h.get? S=Z9 o) where
 sub:=λb c=>by simp at c;simp[c]
 frame:=λ_ _ _ a hk=>⟨a.1.at λo e=>hk I (by simp) o e,hk S (by simp) _ a.2⟩
 item:=λi s Q E n a f=>by
  have m:i<(dC (w.params.setOrder S ep) es).size:=by rw[<- yY,(Lz _ es).length_eq,yY];exact n
  refine FY (sl:=0) a.1 a.2 d g (λA E R j=>FV c a.2 d g (by rw[jA m];exact j)) λl hi2 sb=>?_;refine f _ l s.toks ?_ ⟨hi2,(sb.2 S k).trans a.2⟩ λb o c e=>(sb.2 b (λh=>c (by simp[h]))).trans e;rw[qB1,y8,jA m];rfl
 done:=λs Q E a f=>by refine FX (sl:=0) p a.1 a.2 d g (λA E R j=>FV c a.2 d g (by rw[wF (by rw[<- yY,(Lz _ es).length_eq,yY];exact qA7 _)];exact j)) λl q=>?_;exact f l s.toks λb o c e=>q b o (λh=>c (by simp[h])) e
 self:=λ_ _ _ _ a f=>LB a.1 f
theorem uy(h:Rs xs):SetTable.below xs 0=0:=(QI h 0).uniq ⟨qE6 _,λi a _ l=>absurd l (qG5 _),λ_ _ _ _=>qE6 _⟩
theorem ux(h:Rs xs)(hi:i<xs.size):SetTable.below xs (xs[i]+1)=i+1:=by
 refine(QI h _).uniq ⟨hi,λj a b l=>?_,λj a b l=>?_⟩
 .rcases qO7 (Nat.le_of_lt_succ l)with l|l
  .exact qE9 (h.get b (jA hi) l)
  .simp_all
 .exact h.get (jA hi) b l
theorem uw(y:A.handled=Z8)(l:S≠I)(a:Wr w=Z5)(d:o.data=.set es ep t)(f:t.fits es.size=Z7)(u:t.led=Z7)(r:(!t.plain&&decide (es.size>1))=Z5)(B:Rs t.place):
  Walks prog w A I [I,S] [I] es.size (λi v=>(es.toList.map (·.2))[i]?=Z9 v) (λi h=>(∃sl:Nat,SetTable.below t.place sl=i/\YO h I S (.int (sl:Int) 0) i es.size ep)/\h.get? S=Z9 o) where
 sub:=λb a=>by simp at a;simp[a]
 frame:=λ_ _ _ c hk=>⟨let ⟨sl,e,q⟩:=c.1;⟨sl,e,q.at λo e=>hk I (by simp) o e⟩,hk S (by simp) _ c.2⟩
 item:=λi s Q E n c j=>by
  obtain⟨⟨sl,e,q⟩,g⟩:=c;have C:=by simp only[SetTable.fits,qC8,beq_iff_eq]at f;exact f.1
  have p:i<t.place.size:=by lia
  refine FY (x:=es[i].2) q g d f (λA E R k=>FU a g d f u r (by rw[e,jA n,jA p];exact k)) λm hi2 sb=>?_;refine j _ m s.toks ?_ ⟨⟨_,ux B p,hi2⟩,(sb.2 S l).trans g⟩ λb o a e=>(sb.2 b (λh=>a (by simp[h]))).trans e;rw[qB1,y8,jA n];rfl
 done:=λs Q E c j=>by obtain⟨⟨sl,e,q⟩,g⟩:=c;refine FX y q g d f (λA E R k=>FU a g d f u r (by rw[e,wF (qA7 _)];exact k)) λm z=>?_;exact j m s.toks λb o a e=>z b o (λh=>a (by simp[h])) e
 self:=λ_ _ _ _ c j=>let ⟨_,_,q⟩:=c.1;LB q j
theorem uv(y:A.handled=Z8)(j:S≠I)(B:T≠I)(d:o.data=.set es ep t)(n:t.fits es.size=Z7){ps:List Nat}(k:ps.Perm (List.range es.size)):
  Walks prog w A I [I,S,T] [I] es.size (λi v=>(ps.map λp=>((es[p]?).map (·.2)).getD .none)[i]?=Z9 v) (λi h=>YO h I S (.ref T) i es.size ep/\h.IsTuple T (ps.map fun(p:Nat)=>Value.int (p:Int) 0).toArray/\h.get? S=Z9 o) where
 sub:=λb c=>by simp at c;simp[c]
 frame:=λ_ _ _ a hk=>⟨a.1.at λo e=>hk I (by simp) o e,let ⟨o,g,r⟩:=a.2.1;⟨o,hk T (by simp) _ g,r⟩,hk S (by simp) _ a.2.2⟩
 item:=λi s Q E u a f=>by
  have l:i<ps.length:=by rw[k.length_eq,qD2];exact u
  have q:=qC9.mp (k.mem_iff.mp (qD6 l));refine uP (z:=es[ps[i]].1) (x:=es[ps[i]].2) a.1 a.2.1 a.2.2 d n ?_ (jA q) λm hi2 sb=>?_
  .rw[qD8,qB1,qA2 l];rfl
  refine f _ m s.toks ?_ ⟨hi2,a.2.1.extBut sb.extBut B,(sb.2 S j).trans a.2.2⟩ λb o c e=>(sb.2 b (λh=>c (by simp[h]))).trans e;rw[qB1,qA2 l,qQ6,jA q];rfl
 done:=λs Q E a f=>by
  refine uO y a.1 a.2.1 a.2.2 d n ?_ λm C=>?_
  .rw[qD8,qB1,qR5 (by rw[k.length_eq,qD2];exact qA7 _)];rfl
  exact f m s.toks λb o c e=>C b o (λh=>c (by simp[h])) e
 self:=λ_ _ _ _ a f=>LB a.1 f
theorem uu(es:Array (Int×yT)):(List.range es.size).map (λp=>((es[p]?).map (·.2)).getD .none)=es.toList.map (·.2):=by
 refine qU1 (by simp) λj a c=>?_;have b:=by simpa using a
 simp[b]
inductive ur(prog:yZ)(w:jG)(A:jF)(h0:jH)(S I:yR)(h':jH)(n:Nat)(vs:yB):Prop
 |mk (fp:yC) (St:Nat->jH->Prop) (vals:yB) (p:vals.Perm vs) (W:Walks prog w A I fp [I] n (λi v=>vals[i]?=Z9 v) St) (st:St 0 h') (f:∀b∈fp,b=S∨h0.objs.size<=b) (i:h0.objs.size<=I)
theorem uq{Q:yL}(g:s.heap.get? S=Z9 o)(x:o.ExactSet)(d:o.data=.set es ep t)(c:t.fits es.size=Z7)(k:TOk (Wr w) t)(r:es.size<scanBound)
  (v:∀(I:yR) (h':jH) dr,(∀b o,s.heap.get? b=Z9 o->h'.get? b=Z9 o)->(∀p:jF,p.handled=Z8->ur prog w p s.heap S I h' es.size (es.toList.map (·.2)))->Q (.ref I) { s with heap:=h',drawn:=dr }) :
  y7 (yV prog w) A (mT (.ref S)) Q E s:=by
 have ty:s.TypeIs (.ref S) "set":=⟨o,g,x.1⟩
 have lt:=qB3 g;refine gR ty mO (jI mO ty uR ?_ (PySem.F.args_set_iter_1 _));refine yO (yO (yP (yP ?_)));refine yO (yO (yO (jN g d c (yP (yP ?_)))));refine yO (yO (jN g d c (yO (On rfl (yP ?_)))));refine wH (λn=>?_) λn=>?_
 .refine yO (FT es.size (List.range es.size) (by rw[qD2]) λB dr h=>?_);have m:B.length=es.size:=by rw[h.length_eq,qD2]
  refine yO (gF ?_ (by rw[qA0,m];exact fits_of_scanBound r));refine yO (wpAny_setEpoch_of (qA3 _ g) d c ?_);refine yO (jV (yP ⟨_,rfl,"set_iterator",_,⟨_,qA9 _ rfl,rfl⟩,Vo.lookup,?_⟩));refine v _ _ dr (λb o e=>qA3 _ (qA3 _ e)) λp q=>?_;refine⟨[_,S,s.heap.objs.size],_,_,?_,uv q ?_ ?_ d c h,⟨⟨_,qA9 _ rfl,rfl,rfl⟩,⟨_,qA3 _ (qA9 _ rfl),rfl,0,rfl⟩,qA3 _ (qA3 _ g)⟩,?_,?_⟩
  .refine(h.map _).trans (.of_eq ?_);exact uu es
  .exact qB7 (qS8 (qE9 lt) (qG4 _ _).symm)
  .exact qB7 (qS8 (qI6 _) (qG4 _ _).symm)
  .simp_all
  .simp_all
 .have y:¬(!Wr w&&(!t.plain&&decide (es.size>1)))=Z7:=n;refine yO (yP (yO (wpAny_setEpoch_of g d c ?_)));refine yO (jV (yP ⟨_,rfl,"set_iterator",_,⟨_,qA9 _ rfl,rfl⟩,Vo.lookup,?_⟩));refine v _ _ s.drawn (λb o e=>qA3 _ e) λp q=>?_;have i:∀b∈[s.heap.objs.size,S],b=S∨s.heap.objs.size<=b:=λb r=>by
   simp only[qB0,qF8,or_false]at r;rcases r with rfl|rfl
   .exact .inr (qA7 _)
   .exact .inl rfl
  cases f:Wr w with
  |true=>exact⟨_,_,_,(Lz _ es).map _,uz q (qB7 lt) f d c,⟨⟨_,qA9 _ rfl,rfl,rfl⟩,qA3 _ g⟩,i,qA7 _⟩
  |false =>
   rw[f]at y k;have h:(!t.plain&&decide (es.size>1))=Z5:=by simpa using y
   have z:=by
    cases j:t.plain with
    |true=>exact k.up j
    |false =>
     rw[j]at h;have F:=by simp only[SetTable.fits,qC8,beq_iff_eq]at c;exact c.1
     have D:=by simpa using h
     unfold Rs;have u:t.place.toList.length<=1:=by rw[yY];lia
     cases C:t.place.toList with
     |nil=>exact .nil
     |cons a l =>
      rw[C]at u;cases l with
      |nil=>exact qE7 _ _
      |cons b l=>simp at u
   exact⟨_,_,_,.refl _,uw q (qB7 lt) f d c k.led h z,⟨⟨0,uy z,⟨_,qA9 _ rfl,rfl,rfl⟩⟩,qA3 _ g⟩,i,qA7 _⟩
end
section
variable {prog:yZ}{w:jG}{A:jF}{E:yL}{s:yQ}{S:yR}{zs:yA}
theorem uo(c:s.TypeIs (.ref S) "set")(h:Q Z5 s):y7 (yV prog w) A (Builtin.List.listLengthHint (.ref S)) Q E s:=by
 unfold Builtin.List.listLengthHint;refine yO (mH c PySem.F.slot_set_len.lookup ?_);generalize hid:("set.__len__":String)=id0
 wp_delta
 rw[show splitId id0=Z9 ("set","__len__")from by subst hid;decide];subst hid;refine yO (vX (T := "set") (b:=Z7) c sub_set_self ?_);refine wH (λa=>absurd a (by decide)) (λ_=>?_);refine wH (λ_=>?_) (λa=>absurd (by decide) a);refine yO (j9 c ?_);exact yP h
end
theorem ZP.dr{Z:St}(I:ZP X a Z H s)(d:mR):ZP X a Z H { s with drawn:=d } :=
 ⟨I.ok,I.os,I.bare,I.base,I.loc,I.cell,I.free,I.freeC,I.pin,I.hok,I.len⟩
section
variable {prog:yZ}{w:jG}{A:jF}{E:yL}{s:yQ}{r:yR}
theorem FS{Q:yL}{i:yA}(B:i.length<64)
  (v:∀(A:jF) (E:yL) (R:yB->yQ->Prop),A.handled=Z8->(∀(h':jH) (tk:Nat) (dr:mR) (a:yB) (d:yA),(∀b o,s.heap.get? b=Z9 o->h'.get? b=Z9 o)->vI a d->d.Perm i->R a { s with heap:=h',toks:=tk,drawn:=dr })->y7 (yV prog w) A (uF (.ref r)) R E s)
  (u:A.handled=Z8)
  (h:∀(j:jH) (l:yR) (h':jH) (tk:Nat) (dr:mR) (e:Nat) (a:yB) (d:yA),(∀b o,s.heap.get? b=Z9 o->j.get? b=Z9 o)->(∀b o,j.get? b=Z9 o->h'.get? b=Z9 o)->j.objs.size<=l->h'.get? l=Z9 (j8 "list" a.toArray e)->vI a d->d.Perm i->d.Pairwise (·<=·)->Q (.ref l) { s with heap:=h',toks:=tk,drawn:=dr }) :
  y7 (yV prog w) A (call (.builtin "sorted") [.ref r]) Q E s:=by
 refine v9 mZ mB mC (mD _) ?_;unfold Builtin.«sorted»;refine yO (m:=checkCount "sorted" 1 1 _) (yP ?_);refine yO (v _ _ _ u λh' tk dr a d hk p k=>?_);have f:a.length=i.length:=by
  rw[<- k.length_eq];clear hk k
  induction p with
  |nil=>rfl
  |cons _ _ _ t=>simp[t]
 refine yO (wI ?_ (by rw[f,vF];lia));have c:(h'.push (j8 "list" a.toArray 0)).get? h'.objs.size=Z9 (j8 "list" a.toArray 0):=qA9 _ rfl;show y7 _ _ _ _ _ { s with heap:=h'.push (j8 "list" a.toArray 0),toks:=tk,drawn:=dr };refine yO (jM (jI gH ⟨_,c,rfl⟩ f6 (list_sort_tree c p (by lia) λout n y x q=>⟨_,rfl,?_⟩) (gJ _)));obtain⟨e,z⟩:=lG (out:=out) c;refine yP ⟨_,rfl,h h' h'.objs.size _ tk dr e out.toList n hk (λb o g=>?_) (qA7 _) (by simpa using z) y (x.trans k) q⟩;have lt:b<h'.objs.size:=qB3 g;rw[gK (qB7 lt) (by rw[wY];exact qE9 lt)];exact qA3 _ g
end
theorem Om:∀(b:yB) (a:yA),b.length=a.length->(∀(j:Nat) (v:yT) (n:Int),b[j]?=Z9 v->a[j]?=Z9 n->∃t,v=.int n t)->vI b a
 |[],[],_,_=>.nil
 |[],_::_,h,_=>by cases h
 |_::_,[],h,_=>by cases h
 |u::b,n::a,h,k=>by obtain⟨t,rfl⟩:=k 0 u n rfl rfl;exact .cons n t (Om b a (by simpa using h) λj v m c d=>k (j+1) v m (by simpa using c) (by simpa using d))
theorem um(U:X.calm=Z7):YB X (.builtin "sorted") (λw H Q=>∃(p:yR) (kvs:List (ZF×V)) (d:yA),w=[.ref p]/\H p=Z9 (.dK kvs)/\kvs.map (·.1)=d.map Sum.inl/\d.length<64/\∀(l:yR) (m:yA),H l=Z8->m.Perm d->m.Pairwise (·<=·)->Q (.ref l) (ZC H l (.lst (m.map V.int)))):=by
 intro f s Z H xs C Q I r h;obtain⟨p,kvs,d,rfl,hp,hk,L,q⟩:=h;obtain⟨u,rfl,ru⟩:=XS r;cases ru;obtain⟨hz,lo,w,J,N⟩:=RT I.hok hp;obtain⟨ep,B⟩:=N.dictAt;have F:w.length=d.length:=by rw[<- Paired.length J,<- qA0,hk,qA0]
 refine FS L (λA E R hA hR=>W.kdu_collect (W.kdl_dict lo) hA B (by rw[F,vF];lia) λh' Y acc z a=>hR h' Y s.drawn _ d z ?_ (.refl _)) (I.ok.hd U) λT l2 h3 c dr e C m k2 S G g3 P g hw=>?_
 .refine Om _ _ (by rw[yY,a.1,F]) λj v n O e2=>?_;obtain⟨k,x,e3,M⟩:∃k x,w[j]?=Z9 (k,x)/\(Yt X.prog X.w).is k v=Z7:=a.2 j v (by rw[<- y8];exact O);obtain⟨q1,e5,e6,_⟩:=Os J e3;have K:(kvs.map (·.1))[j]?=Z9 k:=by rw[qB1,e5];exact congrArg Z9 e6
  rw[hk,qB1,e2]at K;cases K;cases v<;>first|exact absurd M qB4|skip
  rename_i i t;have:=by simpa[Yt,U1,Value.isInt]using M
  subst this;exact⟨t,rfl⟩
 .have D:ZP X f Z H { s with heap:=T,toks:=c,drawn:=dr }:=(I.kept (t':=c) λb o e=>k2 b o e).dr dr;refine⟨.ref l2,_,D.laid (t':=c) S G ?_,rfl,q _ _ (D.hok.fresh G) g hw⟩;have y:m.length<64:=by rw[g.length_eq];exact L
  exact⟨by rw[qA0];exact qD4 (qH5 y) (by decide),C,e,RM P,by simpa using g3⟩
structure Yp(lt:yW->yW->Bool):Prop where
 as:∀x y,lt x y=Z7->lt y x=Z5
 tr:∀x y z,lt y x=Z5->lt z y=Z5->lt z x=Z5
theorem Yp.flip(h:Yp lt):Yp λx y=>lt y x :=
 ⟨λx y e=>h.as y x e,λx y z a b=>h.tr z y x b a⟩
theorem Yp.rf(h:Yp lt)(x:yW):lt x x=Z5:=by
 cases e:lt x x with
 |false=>rfl
 |true=>exact e.symm.trans (h.as x x e)
abbrev Zc(lt:yW->yW->Bool)(l:yI):Prop:=l.Pairwise λx y=>lt y x=Z5
structure Zo(lt:yW->yW->Bool)(a b ra rb out:yI):Prop where
 pm:(out++(ra++rb)).Perm (a++b)
 so:Zc lt out
 sa:Zc lt ra
 sb:Zc lt rb
 la:∀x∈out,∀y∈ra,lt y x=Z5
 lb:∀x∈out,∀y∈rb,lt y x=Z5
section
variable {lt:yW->yW->Bool}{a b ra rb out xs:yI}{x:yW}
theorem Zo.swap(h:Zo lt a b ra rb out):Zo lt b a rb ra out :=
 ⟨((List.Perm.refl out).append qJ0).trans (h.pm.trans qJ0),h.so,h.sb,h.sa,h.lb,h.la⟩
theorem Zo.push(h:Zo lt a b (xs++ra) rb out)(k:∀x∈xs,∀y∈rb,lt y x=Z5):Zo lt a b ra rb (out++xs):=by
 obtain⟨n,f,l,sb,e,g⟩:=h;obtain⟨m,j,i⟩:=qC4.mp l;refine⟨?_,qC4.mpr ⟨f,m,λx c y d=>e x c y (qF2 _ d)⟩,j,sb,λx c y d=>?_,λx c y d=>?_⟩
 .simp_all
 .rcases qC0.mp c with c|c
  .exact e x c y (qD0 _ d)
  .exact i x c y d
 .rcases qC0.mp c with c|c
  .exact g x c y d
  .exact k x c y d
structure Mg(lt:yW->yW->Bool)(a b out:yI):Prop where
 pm:out.Perm (a++b)
 so:Zc lt out
theorem Zo.fin(h:Zo lt a b ra [] out):Mg lt a b (out++ra) :=
 ⟨by simpa using h.pm,qC4.mpr ⟨h.so,h.sa,h.la⟩⟩
theorem Zo.last(h:Zo lt a b [x] rb out)(k:∀y∈rb,lt x y=Z5):Mg lt a b (out++rb++[x]):=by
 refine⟨?_,qC4.mpr ⟨qC4.mpr ⟨h.so,h.sb,h.lb⟩,qE7 ..,λu c v d=>?_⟩⟩
 .rw[qC3];exact((List.Perm.refl out).append qJ0).trans h.pm
 .have e:=qB6.mp d;subst e;rcases qC0.mp c with c|c
  .exact h.la u c v (qJ9 _)
  .exact k u c
theorem Zc.rev(h:Zc (λx y=>lt y x) out):Zc lt out.reverse:=by grind
end
def gallop':Bool->yW->Array yW->Nat->Nat->Nat->StateT jJ Sem (yK):=sortPriv% PySem.Builtin.gallop
def mergeLo':Array yW->Array yW->StateT jJ Sem (Array yW):=sortPriv% PySem.Builtin.mergeLo
def mergeHi':Array yW->Array yW->StateT jJ Sem (Array yW):=sortPriv% PySem.Builtin.mergeHi
def bq(lt:yW->yW->Bool)(left:Bool)(a x:yW):Bool:=if left then lt x a else !lt a x
def YU(prog:yZ)(w:jG)(A:jF)(s:yQ)(a:v6)(lt:yW->yW->Bool)(G:yW->Prop):Prop :=
 ∀x y,G x->G y->∀Q:Bool->yQ->Prop,Q (lt x y) s->y7 (yV prog w) A (keyLt' a x.1 y.1) Q (λ_ _=>False) s
section
variable {prog:yZ}{w:jG}{A:jF}{E:yL}{s:yQ}{κ:v6}{lt:yW->yW->Bool}{G:yW->Prop}{st:jJ}
theorem QH(c:YU prog w A s κ lt G)(hk:kindOf st=κ)(f:G x)(d:G y)(h:Q (Z9 (lt x y)) st):wpS (yV prog w) A E s (lt' x y) Q st:=by rw[lt'_eq];refine yU (f9 ?_);rw[hk];refine yU (gL (vH (jS (c x y f d (λb a=>a=s/\b=lt x y) ⟨rfl,rfl⟩) (λb a e=>?_) λ_ _ x=>x.elim)));obtain⟨rfl,rfl⟩:=e;exact⟨rfl,y4 h⟩
theorem Xw(b:a[i]?=Z9 x)(h:Q x st):wpS (yV prog w) A E s (dI a i) Q st:=by rw[elem'_eq,b];exact y4 h
theorem uk{Q:Option Bool->jJ->Prop}(d:YU prog w A s κ lt G)(hk:kindOf st=κ)(f:b[i]?=Z9 x)(c:G x)(e:G a)(h:Q (Z9 (bq lt left a x)) st):
  wpS (yV prog w) A E s (do let x <- dI b i;if left then lt' x a else return (<- lt' a x).map (!·)) Q st:=by
 refine yU (Xw f ?_);cases left with
 |true=>exact QH d hk c e h
 |false=>exact yU (QH d hk e c (y4 h))
def SM(P:Nat->Bool)(n x:Nat)(c:Option (yK)×Nat×Nat)(d st:jJ):Prop:=d=st/\∃b a,c=(Z8,b,a)/\b<=a/\a<=n/\a - b<=n - x/\(∀i,i<b->P i=Z7)/\(∀i,a<=i->i<n->P i=Z5)
theorem FR{m:Nat->StateT jJ Sem (Option Bool)}(bey:∀{i:Nat}{R:Option Bool->jJ->Prop},i<n->R (Z9 (P i)) st->wpS (yV prog w) A E s (m i) R st)
   (h:SM P n 0 c st st) (hm:∀i j,i<=j->j<n->P j=Z7->P i=Z7) :
  wpS (yV prog w) A E s (forIn [:n] c λ_ c=>if c.2.1≥c.2.2 then pure (ForInStep.done (Z8,c.2.1,c.2.2))else m (c.2.1+(c.2.2 - c.2.1) / 2) >>= λr=>match r with
   |some more=>if more=Z7 then pure (ForInStep.yield (Z8,c.2.1+(c.2.2 - c.2.1) / 2+1,c.2.2))else pure (ForInStep.yield (Z8,c.2.1,c.2.1+(c.2.2 - c.2.1) / 2))
   | _=>pure (ForInStep.done (Z9 Z8,c.2.1,c.2.2)))
   (λc a=>a=st/\∃k,c=(Z8,k,k)/\k<=n/\(∀i,i<k->P i=Z7)/\(∀i,k<=i->i<n->P i=Z5)) st:=by
 refine jY (I:=λx c a=>SM P n x c a st) ?_ ?_ h
 .rintro x c a _ y ⟨rfl,b,hi,rfl,o,l,u,g,f⟩;dsimp only;by_cases d:b≥hi
  .rw[if_pos d];have e:b=hi:=by lia
   subst e;exact y4 ⟨rfl,b,rfl,l,g,f⟩
  .rw[if_neg d];refine yU (bey (by lia) ?_);cases e:P (b+(hi - b) / 2)with
   |true=>exact y4 ⟨rfl,_,_,rfl,by lia,l,by lia,λi t=>hm i _ (by lia) (by lia) e,f⟩
   |false =>
    refine y4 ⟨rfl,_,_,rfl,by lia,by lia,by lia,g,λi q p=>?_⟩;cases v:P i with
    |false=>rfl
    |true=>rw[hm _ i q p v]at e;cases e
 .rintro c a ⟨rfl,b,hi,rfl,o,l,u,g,f⟩;have e:b=hi:=by lia
  subst e;exact⟨rfl,b,rfl,l,g,f⟩
theorem uj(P:Nat->Bool)(T:YU prog w A s κ lt G)(hk:kindOf st=κ)(M:G t)(N:f<n)
  (V:∀i,i<n->∃x,u[base+i]?=Z9 x/\G x/\bq lt left t x=P i) (hm:∀i j,i<=j->j<n->P j=Z7->P i=Z7)
  (h:∀k,k<=n->(∀i,i<k->P i=Z7)->(∀i,k<=i->i<n->P i=Z5)->Q (Z9 k) st) :
  wpS (yV prog w) A E s (gallop' left t u base n f) Q st:=by
 have bey:∀{i:Nat}{R:Option Bool->jJ->Prop},i<n->R (Z9 (P i)) st->wpS (yV prog w) A E s (do let x <- dI u (base+i);if left then lt' x t else return (<- lt' t x).map (!·)) R st:=by intro i R hi U;obtain⟨x,B,S,e⟩:=V i hi;exact uk T hk B S M (by rw[e];exact U)
 refine yU (bey N ?_);have J:∀{lo hi:Nat},lo<=hi->hi<=n->(∀i,i<lo->P i=Z7)->(∀i,hi<=i->i<n->P i=Z5)->SM P n 0 (Z8,lo,hi) st st:=λa b c d=>⟨rfl,_,_,rfl,a,b,by omega,c,d⟩
 cases K:P f with
 |true =>
  refine yU (vP (jY (I:=λx c g=>g=st/\∃l o,c=(Z8,l,o)/\l<o/\f+l<n/\x+1<=o/\P (f+l)=Z7)
   (Q:=λc g=>g=st/\∃l o,c=(Z8,l,o)/\l<o/\f+l<n/\P (f+l)=Z7/\(n - f<=o∨f+o<n/\P (f+o)=Z5)) ?_ ?_ ⟨rfl,0,1,rfl,by omega,by omega,by omega,K⟩) ?_)
  .rintro x c g _ B ⟨rfl,l,o,rfl,r,q,F,p⟩;dsimp only;by_cases m:o≥n - f
   .rw[if_pos m];exact y4 ⟨rfl,l,o,rfl,r,q,p,.inl m⟩
   .rw[if_neg m];refine yU (bey (by omega) ?_);cases e:P (f+o)with
    |true=>exact y4 ⟨rfl,o,2*o+1,rfl,by omega,by omega,by omega,e⟩
    |false=>exact y4 ⟨rfl,l,o,rfl,r,q,p,.inr ⟨by omega,e⟩⟩
  .rintro c g ⟨rfl,l,o,rfl,r,q,F,p⟩;exact⟨rfl,l,o,rfl,r,q,p,.inl (by omega)⟩
  .rintro c g ⟨rfl,l,o,rfl,r,q,p,v⟩;refine yU (vP (FR (bey:=bey) (hm:=hm) (J (lo:=f+l+1) (hi:=f+min o (n - f)) (by omega) (by omega) (λi hi=>hm i (f+l) (by omega) q p) λi O C=>?_)) ?_)
   .rcases v with v|⟨L,y⟩
    .omega
    .cases e:P i with
     |false=>rfl
     |true=>rw[hm (f+o) i (by omega) C e]at y;cases y
   .rintro c g ⟨rfl,k,rfl,H,D,z⟩;exact y4 (h k H D z)
 |false =>
  refine yU (vP (jY (I:=λx c g=>g=st/\∃l o,c=(Z8,l,o)/\l<o/\l<=f/\x+1<=o/\P (f - l)=Z5)
   (Q:=λc g=>g=st/\∃l o,c=(Z8,l,o)/\l<o/\l<=f/\P (f - l)=Z5/\(f+1<=o∨o<=f/\P (f - o)=Z7)) ?_ ?_ ⟨rfl,0,1,rfl,by omega,by omega,by omega,K⟩) ?_)
  .rintro x c g _ B ⟨rfl,l,o,rfl,r,q,F,p⟩;dsimp only;by_cases m:o≥f+1
   .rw[if_pos m];exact y4 ⟨rfl,l,o,rfl,r,q,p,.inl m⟩
   .rw[if_neg m];refine yU (bey (by omega) ?_);cases e:P (f - o)with
    |false=>exact y4 ⟨rfl,o,2*o+1,rfl,by omega,by omega,by omega,e⟩
    |true=>exact y4 ⟨rfl,l,o,rfl,r,q,p,.inr ⟨by omega,e⟩⟩
  .rintro c g ⟨rfl,l,o,rfl,r,q,F,p⟩;exact⟨rfl,l,o,rfl,r,q,p,.inl (by omega)⟩
  .rintro c g ⟨rfl,l,o,rfl,r,q,p,v⟩;refine yU (vP (FR (bey:=bey) (hm:=hm) (J (lo:=f+1 - min o (f+1)) (hi:=f - l) (by omega) (by omega) (λi hi=>?_) λi O C=>?_)) ?_)
   .rcases v with v|⟨L,y⟩
    .omega
    .exact hm i (f - o) (by omega) (by omega) y
   .cases e:P i with
    |false=>rfl
    |true=>rw[hm (f - l) i (by omega) C e]at p;cases p
   .rintro c g ⟨rfl,k,rfl,H,D,z⟩;exact y4 (h k H D z)
end
structure Sg(st st':jJ):Prop where
 k:kindOf st'=kindOf st
 a:uM st'=uM st
 p:vQ st'=vQ st
 f:uG st'=uG st
theorem Sg.rfl(st:jJ):Sg st st:=⟨Eq.refl _,Eq.refl _,Eq.refl _,Eq.refl _⟩
section
variable {lt:yW->yW->Bool}{a b ra rb out xs:yI}{x:yW}
theorem Ol(a:yI)(i:Nat):(a.toArray.extract i a.toArray.size).toList=a.drop i:=by simp only[List.extract_toArray];exact qI4 (by simp)
theorem Oj(a:yI)(i j:Nat):(a.toArray.extract i j).toList=(a.drop i).take (j - i):=by simp
theorem Oi(h:i<a.length):a.drop i=[a[i]]++a.drop (i+1):=qF5 h
theorem ui(h:i<=j):a.drop i=(a.drop i).take (j - i)++a.drop j:=by
 conv=>lhs;rw[<- qD1 (j - i) (a.drop i)]
 simp_all
end
theorem Uz(c:Yp lt)(sb:Zc lt b)(hi:i<b.length)(h:lt b[i] x=Z5):∀y∈b.drop i,lt y x=Z5:=by
 intro y a;rw[Oi hi]at a;rcases qC0.mp a with a|a
 .rw[qB6.mp a];exact h
 .have d:Zc lt ([b[i]]++b.drop (i+1)):=by rw[<- Oi hi];exact sb.sublist (qI0 ..)
  exact c.tr x b[i] y h ((qC4.mp d).2.2 _ (qJ9 _) y a)
section
variable {lt:yW->yW->Bool}{a b:yI}{ia ib k:Nat}{out:Array yW}
theorem uh(h:Zo lt a b (a.drop ia) (b.drop ib) out.toList)(d:ia<=a.length)(c:ib<=b.length):out.size=ia+ib:=by have e:=h.pm.length_eq;simp at e;lia
theorem QG(h:Zo lt a b (a.drop ia) (b.drop ib) out.toList)(e:ib=b.length∨ia=a.length):Mg lt a b (out++a.toArray.extract ia a.toArray.size++b.toArray.extract ib b.toArray.size).toList:=by
 rw[jQ,jQ,Ol,Ol];rcases e with rfl|rfl
 .rw[qN3]at h ⊢;simpa using h.fin
 .rw[qN3]at h ⊢;have:=h.swap.fin;exact⟨by simpa using this.pm.trans qJ0,by simpa using this.so⟩
theorem Oh(h:Zo lt a b (a.drop ia) (b.drop ib) out.toList)(e:ia+1=a.length)(f:∀y∈b,lt (a[a.length - 1]'(by omega)) y=Z5):Mg lt a b (out++b.toArray.extract ib b.toArray.size++a.toArray.extract ia a.toArray.size).toList:=by
 rw[jQ,jQ,Ol,Ol];have c:a.drop ia=[a[a.length - 1]'(by omega)]:=by rw[Oi (by omega),qM9 (by omega),qI1];congr 2;omega
 rw[c]at h ⊢;exact h.last λy d=>f y (qG7 d)
theorem Uy(h:Zo lt a b (a.drop ia) (b.drop ib) out.toList)(d:ia<a.length)(k:∀y∈b.drop ib,lt y a[ia]=Z5):Zo lt a b (a.drop (ia+1)) (b.drop ib) (out.push a[ia]).toList:=by rw[Oi d]at h;rw[gU];exact h.push λx c=>by rw[qB6.mp c];exact k
theorem FQ(h:Zo lt a b (a.drop ia) (b.drop ib) out.toList)(hk:ia+k<=a.length)(q:∀i,(hi:i<k)->∀y∈b.drop ib,lt y (a[ia+i]'(by lia))=Z5):Zo lt a b (a.drop (ia+k)) (b.drop ib) (out++a.toArray.extract ia (ia+k)).toList:=by
 rw[ui (show ia<=ia+k by lia)]at h;rw[jQ,Oj];refine h.push λx d=>?_;obtain⟨i,hi,e⟩:=qH8.mp d;have c:i<k:=by simp at hi;lia
 rw[<- e];simpa using q i c
end
section
variable {lt:yW->yW->Bool}{a b:yI}{ia ib k:Nat}{out:Array yW}
theorem SL(h:Zo lt a b (a.drop ia) (b.drop ib) out.toList)(c:ib<b.length)(k:∀y∈a.drop ia,lt y b[ib]=Z5):Zo lt a b (a.drop ia) (b.drop (ib+1)) (out.push b[ib]).toList :=
 (Uy h.swap c k).swap
theorem ug(h:Zo lt a b (a.drop ia) (b.drop ib) out.toList)(hk:ib+k<=b.length)(q:∀i,(hi:i<k)->∀y∈a.drop ia,lt y (b[ib+i]'(by lia))=Z5):Zo lt a b (a.drop ia) (b.drop (ib+k)) (out++b.toArray.extract ib (ib+k)).toList :=
 (FQ h.swap hk q).swap
structure Wl(lt:yW->yW->Bool)(a b:yI)(ia ib:Nat)(out:Array yW):Prop where
 m:Zo lt a b (a.drop ia) (b.drop ib) out.toList
 i:ia+1<a.length
 j:ib<b.length
theorem uf(g:Yp lt)(n:Zc lt a)(left:Bool)(c:yW)(f:i<=j)(l:j<a.length)(h:bq lt left c a[j]=Z7):bq lt left c (a[i]'(by omega))=Z7:=by
 rcases qO7 f with d|rfl
 .have e:=qP3.mp n i j (by omega) l d;cases left with
  |true =>
   show lt a[i] c=Z7;cases m:lt a[i] c with
   |true=>rfl
   |false=>exact(g.tr c a[i] a[j] m e).symm.trans h
  |false =>
   have o:=by simpa[bq]using h
   show(!lt c a[i])=Z7;rw[g.tr a[i] a[j] c e o];rfl
 .exact h
end
section
variable {prog:yZ}{w:jG}{A:jF}{E:yL}{s:yQ}{κ:v6}{lt:yW->yW->Bool}{G:yW->Prop}{st:jJ}
def setG':Nat->StateT jJ Sem Unit:=sortPriv% PySem.Builtin.setMinGallop
theorem FP(h:∀a,Sg st a->Q () a):wpS (yV prog w) A E s (setG' g) Q st :=
 wO (h _ ⟨rfl,rfl,rfl,rfl⟩)
theorem WV{b:Decidable c}{Q:a->jJ->Prop}(h:c->wpS (yV prog w) A E s m Q st)(h':¬c->wpS (yV prog w) A E s m' Q st):wpS (yV prog w) A E s (if c then m else m') Q st:=by grind
theorem FO{lo hi:Nat}{f f':Nat->b->StateT jJ Sem (ForInStep b)}(j:f'=f)(I:Nat->b->jJ->Prop)(a:∀i c st,lo<=i->i<hi->I i c st->wpS (yV prog w) A E s (f' i c) (λr d=>match r with|.done g=>Q g d|.yield g=>I (i+1) g d) st)
  (e:∀c st,I (max lo hi) c st->Q c st)  (h:I lo c st):wpS (yV prog w) A E s (forIn [lo:hi] c f) Q st:=by subst j;exact jY I a e h
theorem Sg.trans{st a st'':jJ}(h:Sg st a)(k:Sg a st''):Sg st st'':=⟨k.k.trans h.k,k.a.trans h.a,k.p.trans h.p,k.f.trans h.f⟩
theorem RL{a:yI}{base n d:Nat}(y:Yp lt)(u:YU prog w A s κ lt G)(hk:kindOf st=κ)(q:G b)(v:∀x∈a,G x)(t:Zc lt ((a.drop base).take n))(z:base+n<=a.length)(r:d<n)
  (h:∀k,k<=n->(∀i,(hi:i<k)->(c:i<n)->bq lt left b (a[base+i]'(by lia))=Z7)->(∀i,k<=i->(hi:i<n)->bq lt left b (a[base+i]'(by lia))=Z5)->Q (Z9 k) st) :
  wpS (yV prog w) A E s (gallop' left b a.toArray base n d) Q st:=by
 have o:∀i,(hi:i<n)->((a.drop base).take n)[i]'(by simp;lia)=a[base+i]'(by lia):=λi hi=>by simp
 refine uj (P:=λi=>if hi:i<n then bq lt left b (a[base+i]'(by lia))else Z5) u hk q r (λi hi=>⟨a[base+i]'(by lia),by rw[qD8];exact qA2 (by lia),v _ (qD6 _),by simp[hi]⟩) (λi j f p g=>?_) λk e l m=>h k e (λi hi c=>?_) λi hi c=>?_
 .have hi:i<n:=by lia
  simp only[hi,p,dif_pos]at g ⊢;rw[<- o j p]at g;rw[<- o i hi];exact uf y t left b f (by simp;lia) g
 .have:=l i hi;simpa[c]using this
 .have:=m i hi c;simpa[c]using this
abbrev QF:=Option (Array yW)×Array yW×Nat×Nat×Nat×Nat×Nat
abbrev SK:=StateT jJ Sem (ForInStep QF)
abbrev QE(a b out:Array yW)(d c:Nat):Array Keyed:=out++a.extract d a.size++b.extract c b.size
abbrev FN(a b out:Array yW)(d c:Nat):Array Keyed:=out++b.extract c b.size++a.extract d a.size
abbrev TR(r out:Array yW)(b a g p q:Nat):SK:=pure (.done (Z9 r,out,b,a,g,p,q))
def Ly(a b:Array yW)(g p q:Nat)(out:Array yW)(c d:Nat):SK:=dI a c >>= λv =>
 if(c+1+1 == a.size)=Z7 then TR (FN a b (out.push v) (c+1) d) (out.push v) (c+1) d g p q
 else if(decide (p<7)&&decide (q<7))=Z7 then pure (.done (Z8,out.push v,c+1,d,g,p,q))else pure (.yield (Z8,out.push v,c+1,d,g,p,q))
def Lx(a b:Array yW)(g p q:Nat)(out:Array yW)(d c:Nat):yK->SK
 |some k=>if k>0 then(if(c+k == b.size)=Z7 then TR (QE a b (out++b.extract c (c+k)) d (c+k)) (out++b.extract c (c+k)) d (c+k) g p k else Ly a b g p k (out++b.extract c (c+k)) d (c+k))else Ly a b g p k out d c
 |_=>TR (QE a b out d c) out d c g p q
def QD(a b:Array yW)(g p q:Nat)(out:Array yW)(d c:Nat):SK:=dI b c >>= λv =>
 if(c+1 == b.size)=Z7 then TR (QE a b (out.push v) d (c+1)) (out.push v) d (c+1) g p q
 else dI a d >>= λu=>gallop' Z7 u b (c+1) (b.size - (c+1)) 0 >>= Lx a b g p q (out.push v) d (c+1)
def Lw(a b:Array yW)(g p q:Nat)(out:Array yW)(c d:Nat):yK->SK
 | some k=>if k>0 then(if(c+k+1 == a.size)=Z7 then TR (FN a b (out++a.extract c (c+k)) (c+k) d) (out++a.extract c (c+k)) (c+k) d g k q
   else if(c+k == a.size)=Z7 then TR (QE a b (out++a.extract c (c+k)) (c+k) d) (out++a.extract c (c+k)) (c+k) d g k q else QD a b g k q (out++a.extract c (c+k)) (c+k) d)else QD a b g k q out c d
 |_=>TR (QE a b out c d) out c d g p q
def RK(a b:Array yW)(g p q:Nat)(out:Array yW)(c d:Nat):SK:=setG' g >>= λ_=>dI b d >>= λv=>gallop' Z5 v a c (a.size - c) 0 >>= Lw a b g p q out c d
def ue(a b:Array yW)(c:QF):SK:=if c.2.2.2.2.1>1 then RK a b (c.2.2.2.2.1 - 1) c.2.2.2.2.2.1 c.2.2.2.2.2.2 c.2.1 c.2.2.1 c.2.2.2.1 else RK a b c.2.2.2.2.1 c.2.2.2.2.2.1 c.2.2.2.2.2.2 c.2.1 c.2.2.1 c.2.2.2.1
def FM(lt:yW->yW->Bool)(a b:yI)(st:jJ)(x:Nat)(c:QF)(d:jJ):Prop:=Sg st d/\((∃r o,c=(Z9 r,o)/\Mg lt a b r.toList)∨∃out f e g p q,c=(Z8,out,f,e,g,p,q)/\Wl lt a b f e out/\x+2<=out.size)
def FL(lt:yW->yW->Bool)(a b:yI)(st:jJ)(x:Nat)(c:QF)(d:jJ):Prop:=∃out f e g p q,c=(Z8,out,f,e,g,p,q)/\Sg st d/\Wl lt a b f e out/\x+2<=out.size
abbrev QC(lt:yW->yW->Bool)(a b:yI)(st:jJ)(x:Nat):ForInStep QF->jJ->Prop:=λr c=>match r with|.done d=>FM lt a b st x d c|.yield d=>FL lt a b st x d c
section
variable {st0:jJ}{a b:yI}{x g p q ia ib:Nat}{out:Array yW}
theorem QB(hs:Sg st0 st)(h:Mg lt a b r.toList):wpS (yV prog w) A E s (TR r out ia ib g p q) (QC lt a b st0 x) st:=y4 ⟨hs,.inl ⟨_,_,rfl,h⟩⟩
theorem FK(hs:Sg st0 st)(j:0<a.length)(h:∀y∈b,lt (a[a.length - 1]'(by lia)) y=Z5)(i:ia+1<a.length)(f:ib<b.length)(hz:x+2<=out.size)(d:Zo lt a b (a.drop (ia+1)) (b.drop ib) (out.push a[ia]).toList):wpS (yV prog w) A E s (Ly a.toArray b.toArray g p q out ia ib) (QC lt a b st0 x) st:=by
 refine yU (Xw (by rw[qD8];exact qA2 (by lia)) (WV (λc=>QB hs (Oh d (by simpa using c) h)) λc=>?_));have e:Wl lt a b (ia+1) ib (out.push a[ia]):=⟨d,by simp at c;lia,f⟩
 exact WV (λ_=>y4 ⟨hs,.inr ⟨_,_,_,_,_,_,rfl,e,by simp;lia⟩⟩) λ_=>y4 ⟨_,_,_,_,_,_,rfl,hs,e,by simp;lia⟩
theorem FJ(f:Yp lt)(B:YU prog w A s κ lt G)(hk:kindOf st0=κ)(F:∀x∈a,G x)(C:∀x∈b,G x)(z:Zc lt a)(sb:Zc lt b)(hs:Sg st0 st)(u:0<a.length)(e:∀y∈b,lt (a[a.length - 1]'(by lia)) y=Z5)(t:ia+1<a.length)(K:ib<b.length)(hz:x+2<=out.size)(D:Zo lt a b (a.drop ia) (b.drop ib) out.toList)(H:∀y∈a.drop ia,lt y b[ib]=Z5):wpS (yV prog w) A E s (QD a.toArray b.toArray g p q out ia ib) (QC lt a b st0 x) st:=by
 have j:=SL D K H;refine yU (Xw (by simp) (WV (λm=>QB hs (QG j (.inl (by simpa using m)))) λm=>?_));have n:ib+1<b.length:=by simp at m;lia
 refine yU (Xw (by rw[qD8];exact qA2 (by lia)) (yU (RL f B (hs.k.trans hk) (F _ (qD6 _)) C (sb.sublist ((qG9 ..).trans (qI0 ..))) (by simp;lia) (by simp;lia) λk J k2 o=>?_)));simp only[qB2]at J k2 o;have d:Zo lt a b (a.drop ia) (b.drop (ib+1+k)) ((out.push b[ib])++b.toArray.extract (ib+1) (ib+1+k)).toList :=
  ug j (by lia) λi v=>Uz f z (by lia) (f.as _ _ (by simpa[bq]using k2 i v (by lia)))
 have c:=λe=>Uz f sb e (by simpa[bq]using o k (qA7 _) (by lia));refine WV (λh=>WV (λl=>QB hs (QG d (.inl (by simpa using l)))) λl=>?_) λh=>?_
 .have r:ib+1+k<b.length:=by simp at l;lia
  exact FK hs u e t r (by simp;lia) (Uy d (by lia) (c r))
 .have I:k=0:=by lia
  subst I;exact FK hs u e t n (by simp;lia) (Uy j (by lia) (c n))
theorem ud(d:Yp lt)(j:YU prog w A s κ lt G)(hk:kindOf st0=κ)(o:∀x∈a,G x)(m:∀x∈b,G x)(f:Zc lt a)(sb:Zc lt b)(hs:Sg st0 st)(z:0<a.length)(e:∀y∈b,lt (a[a.length - 1]'(by lia)) y=Z5)(W:Wl lt a b ia ib out)(l:x+2<=out.size):wpS (yV prog w) A E s (RK a.toArray b.toArray g p q out ia ib) (QC lt a b st0 x) st:=by
 have K:=W.i;have u:=W.j;refine yU (FP λH D=>?_);have c:=hs.trans D;refine yU (Xw (x:=b[ib]) (by simp) (yU (RL d j (c.k.trans hk) (m _ (qD6 _)) o (f.sublist ((qG9 ..).trans (qI0 ..))) (by simp;lia) (by simp;lia) λk J k2 v=>?_)));simp only[qB2]at J k2 v;have n:Zo lt a b (a.drop (ia+k)) (b.drop ib) (out++a.toArray.extract ia (ia+k)).toList :=
  FQ W.m (by lia) λi C=>Uz d sb u (by simpa[bq]using k2 i C (by lia))
 have B:=λe=>Uz d f e (d.as _ _ (by simpa[bq]using v k (qA7 _) (by lia)));refine WV (λh=>WV (λr=>QB c (Oh n (by simpa using r) e)) λr=>WV (λt=>QB c (QG n (.inr (by simpa using t)))) λt=>?_) λh=>?_
 .have F:ia+k+1<a.length:=by simp at r t;lia
  exact FJ d j hk o m f sb c z e F u (by rw[fH];lia) n (B (by lia))
 .have I:k=0:=by lia
  subst I;exact FJ d j hk o m f sb c z e K u l W.m (B (by lia))
end
theorem uc(F:Yp lt)(P:YU prog w A s κ lt G)(hk:kindOf st=κ)(S:∀x∈a,G x)(R:∀x∈b,G x)(K:Zc lt a)(sb:Zc lt b)
  (V:0<a.length) (X:0<b.length) (U:∀x∈a,lt x b[0]=Z5) (L:∀y∈b,lt (a[a.length - 1]'(by lia)) y=Z5)
  (h:∀out f,Sg st f->Mg lt a b out.toList->Q out f):wpS (yV prog w) A E s (mergeLo' a.toArray b.toArray) Q st:=by
 refine yU (gL (vM ⟨rfl,?_⟩));refine yU (Xw (x:=b[0]) (by simp) ?_);have T:Zo lt a b (a.drop 0) (b.drop 0) (#[]).toList:=⟨by simp,.nil,by simpa using K,by simpa using sb,λx C=>(by simp at C),λx C=>(by simp at C)⟩
 have J:=SL T X λy O=>U y (by simpa using O);by_cases B:(1 == b.toArray.size)=Z7
 .rw[if_pos B];exact y4 (h _ _ (.rfl _) (QG J (.inl (by simpa using B))))
 rw[if_neg B];by_cases D:(0+1 == a.toArray.size)=Z7
 .rw[if_pos D];exact y4 (h _ _ (.rfl _) (Oh J (by simpa using D) L))
 rw[if_neg D];have Y:Wl lt a b 0 1 #[b[0]]:=⟨J,by simp at D;lia,by simp at B;lia⟩
 refine yU (f9 ?_);refine yU (vP (jY (I:=λx c f=>∃out i d g,c=(Z8,out,i,d,g)/\Sg st f/\Wl lt a b i d out/\x+1<=out.size)
  (Q:=λc f=>∃r o,c=(Z9 r,o)/\Sg st f/\Mg lt a b r.toList) ?_ ?_ ⟨_,_,_,_,rfl,.rfl _,Y,by simp⟩) ?_)
 .rintro x c l _ C ⟨out,i,d,g,rfl,t,W,j⟩;have H:=t.k.trans hk;refine yU (vP (jY (I:=λy c f=>∃out i d p q,c=(Z8,out,i,d,p,q)/\f=l/\Wl lt a b i d out/\x+1+y<=out.size)
   (Q:=λc f=>f=l/\((∃r o,c=(Z9 r,o)/\Mg lt a b r.toList)∨∃out i d p q,c=(Z8,out,i,d,p,q)/\Wl lt a b i d out/\x+2<=out.size)) ?_ ?_ ⟨_,_,_,_,_,rfl,rfl,W,by lia⟩) ?_)
  .rintro y c n _ O ⟨out,i,d,p,q,rfl,rfl,W,j⟩;have Z:=W.i;have M:=W.j;refine yU (Xw (x:=b[d]) (by simp) (yU (Xw (by rw[qD8];exact qA2 (by lia)) (yU (QH P H (R _ (qD6 _)) (S _ (qD6 _)) ?_)))));cases e:lt b[d] a[i]with
   |true =>
    refine yU (Xw (x:=b[d]) (by simp) ?_);have v:=SL W.m M (Uz F K (by lia) (F.as _ _ e));by_cases m:(d+1 == b.toArray.size)=Z7
    .rw[if_pos m];exact y4 ⟨rfl,.inl ⟨_,_,rfl,QG v (.inl (by simpa using m))⟩⟩
    rw[if_neg m];have u:Wl lt a b i (d+1) (out.push b[d]):=⟨v,Z,by simp at m;lia⟩
    split
    .exact y4 ⟨rfl,.inr ⟨_,_,_,_,_,rfl,u,by simp;lia⟩⟩
    .exact y4 ⟨_,_,_,_,_,rfl,rfl,u,by simp;lia⟩
   |false =>
    refine yU (Xw (by rw[qD8];exact qA2 (by lia)) ?_);have v:=Uy W.m (by lia) (Uz F sb M e);by_cases m:(i+1+1 == a.toArray.size)=Z7
    .rw[if_pos m];exact y4 ⟨rfl,.inl ⟨_,_,rfl,Oh v (by simpa using m) L⟩⟩
    rw[if_neg m];have u:Wl lt a b (i+1) d (out.push a[i]):=⟨v,by simp at m;lia,M⟩
    split
    .exact y4 ⟨rfl,.inr ⟨_,_,_,_,_,rfl,u,by simp;lia⟩⟩
    .exact y4 ⟨_,_,_,_,_,rfl,rfl,u,by simp;lia⟩
  .rintro c n ⟨out,i,d,p,q,rfl,rfl,W,j⟩
   grind
  rintro c n ⟨rfl,⟨r,o,rfl,z⟩| ⟨out,i,d,p,q,rfl,W,j⟩⟩
  .exact y4 ⟨r,_,rfl,t,z⟩
  refine yU (gL (vM ⟨rfl,?_⟩));refine yU (vP (FO (f':=λ_ c=>ue a.toArray b.toArray c) (by kernel_rfl) (λ_=>FL lt a b st x) (Q:=FM lt a b st x) ?_ ?_ ⟨_,_,_,_,_,_,rfl,t,W,j⟩) ?_)
  .rintro y c st3 _ _ ⟨out,i,d,g,p,q,rfl,k,W,j⟩;have N:∀g,wpS (yV prog w) A E s (RK a.toArray b.toArray g p q out i d) (QC lt a b st x) st3:=λg=>ud F P hk S R K sb k V L W j;exact vP (WV (λ_=>N _) λ_=>N _) λr f h=>by cases r<;>exact h
  .rintro c n ⟨out,i,d,g,p,q,rfl,k,W,j⟩;exact⟨k,.inr ⟨_,_,_,_,_,_,rfl,W,j⟩⟩
  rintro c st3 ⟨k,⟨r,o,rfl,z⟩| ⟨out,i,d,g,p,q,rfl,W,j⟩⟩
  .exact y4 ⟨r,_,rfl,k,z⟩
  exact yU (wO (y4 ⟨_,_,_,_,rfl,⟨k.k,k.a,k.p,k.f⟩,W,by lia⟩))
 .rintro c l ⟨out,i,d,g,rfl,t,W,j⟩;have:=uh W.m (by have:=W.i;lia) (by have:=W.j;lia);have:=W.i;have:=W.j
  grind
 .rintro c l ⟨r,o,rfl,t,z⟩;exact y4 (h r l t z)
end
section
variable {lt:yW->yW->Bool}{a b:yI}{na nb t:Nat}{out:Array yW}
theorem FI(h:na - 1<a.length)(c:0<na):(a.take na).reverse=[a[na - 1]]++(a.take (na - 1)).reverse:=by
 obtain⟨m,rfl⟩:∃m,na=m+1:=⟨na - 1,by lia⟩
 simp_all
theorem ub(h:t<=na):(a.take na).reverse=((a.drop t).take (na - t)).reverse++(a.take t).reverse:=by
 rw[<- List.reverse_append];rw[<- List.drop_take]
 conv=>lhs;rw[<- qD1 t (a.take na)]
 rw[List.take_take,qQ8 h]
abbrev MH(lt:yW->yW->Bool)(a b:yI)(c d:Nat)(out:Array yW):Prop:=Zo (λx y=>lt y x) a b (a.take c).reverse (b.take d).reverse out.toList
theorem SJ(f:Yp lt)(sb:Zc lt b)(hi:nb - 1<b.length)(h:lt x b[nb - 1]=Z5):∀y∈(b.take nb).reverse,lt x y=Z5:=by
 intro y c;rcases Nat.eq_zero_or_pos nb with rfl|e
 .simp at c
 .have g:Zc lt (b.take nb):=sb.sublist (qG9 ..);have d:=qN2.mpr g;rw[FI hi e]at c d;rcases qC0.mp c with c|c
  .rw[qB6.mp c];exact h
  .exact f.tr y b[nb - 1] x ((qC4.mp d).2.2 _ (qJ9 _) y c) h
theorem Og(a:yI)(j:Nat):(a.toArray.extract 0 j).toList=a.take j:=by simp
theorem ua(h:MH lt a b na nb out)(d:na<=a.length)(c:nb<=b.length):out.size+na+nb=a.length+b.length:=by have e:=h.pm.length_eq;simp at e;lia
theorem Mg.rev(h:Mg (λx y=>lt y x) a b o):Mg lt a b o.reverse:=⟨o.reverse_perm.trans h.pm,h.so.rev⟩
theorem Mg.comm(h:Mg lt b a o):Mg lt a b o:=⟨h.pm.trans qJ0,h.so⟩
theorem QA(h:MH lt a b na nb out)(e:na=0∨nb=0):Mg lt a b (a.toArray.extract 0 na++b.toArray.extract 0 nb++out.reverse).toList:=by
 rw[jQ,jQ,Og,Og,fU];rcases e with rfl|rfl
 .have:=(Zo.fin (by simpa using h.swap)).rev.comm;simpa using this
 .unfold MH at h;have:=(Zo.fin (by simpa using h)).rev;simpa using this
theorem Of(h:MH lt a b na nb out)(e:nb=1)(g:0<b.length)(f:∀x∈a,lt x b[0]=Z5):Mg lt a b (b.toArray.extract 0 nb++a.toArray.extract 0 na++out.reverse).toList:=by
 rw[jQ,jQ,Og,Og,fU];subst e;have d:b.take 1=[b[0]]:=by
  cases b with
  |nil=>simp at g
  |cons x b=>simp
 have c:=h.swap;rw[d]at c ⊢;have:=(Zo.last c λy i=>f y (qH9 (qK0.mp i))).rev.comm
 simp_all
theorem Vn(h:MH lt a b na nb out)(e:na - 1<a.length)(d:0<na)(k:∀y∈(b.take nb).reverse,lt a[na - 1] y=Z5):MH lt a b (na - 1) nb (out.push a[na - 1]):=by unfold MH at h ⊢;rw[FI e d]at h;rw[gU];exact h.push λx c=>by rw[qB6.mp c];exact k
theorem FH(h:MH lt a b na nb out)(ht:t<=na)(f:na<=a.length)(q:∀i,t<=i->(hi:i<na)->∀y∈(b.take nb).reverse,lt (a[i]'(by lia)) y=Z5):MH lt a b t nb (out++(a.toArray.extract t na).reverse):=by
 unfold MH at h ⊢;rw[ub ht]at h;rw[jQ,fU,Oj];refine h.push λx d=>?_;obtain⟨i,hi,e⟩:=qH8.mp (qK0.mp d);have c:t+i<na:=by simp at hi;lia
 rw[<- e];simpa using q (t+i) (by lia) c
end
section
variable {lt:yW->yW->Bool}{a b:yI}{na nb t:Nat}{out:Array yW}
theorem Qz(h:MH lt a b na nb out)(d:nb - 1<b.length)(c:0<nb)(k:∀y∈(a.take na).reverse,lt b[nb - 1] y=Z5):MH lt a b na (nb - 1) (out.push b[nb - 1]) :=
 Zo.swap (Vn (Zo.swap h) d c k)
theorem t8(h:MH lt a b na nb out)(ht:t<=nb)(c:nb<=b.length)(q:∀i,t<=i->(hi:i<nb)->∀y∈(a.take na).reverse,lt (b[i]'(by lia)) y=Z5):MH lt a b na t (out++(b.toArray.extract t nb).reverse) :=
 Zo.swap (FH (Zo.swap h) ht c q)
structure Wh(lt:yW->yW->Bool)(a b:yI)(na nb:Nat)(out:Array yW):Prop where
 m:MH lt a b na nb out
 i:0<na
 j:1<nb
 i':na<a.length
 j':nb<=b.length
end
section
variable {prog:yZ}{w:jG}{A:jF}{E:yL}{s:yQ}{κ:v6}{lt:yW->yW->Bool}{G:yW->Prop}{st:jJ}
abbrev Qy:=Option (Array yW)×Nat×Nat×Array yW×Nat×Nat×Nat
abbrev SI:=StateT jJ Sem (ForInStep Qy)
abbrev Qx(a b out:Array yW)(d c:Nat):Array Keyed:=a.extract 0 d++b.extract 0 c++out.reverse
abbrev FG(a b out:Array yW)(d c:Nat):Array Keyed:=b.extract 0 c++a.extract 0 d++out.reverse
abbrev TQ(r out:Array yW)(a b g p q:Nat):SI:=pure (.done (Z9 r,a,b,out,g,p,q))
def Lv(a b:Array yW)(g p q:Nat)(out:Array yW)(c d:Nat):SI:=dI a (c - 1) >>= λv =>
 if(c - 1 == 0)=Z7 then TQ (Qx a b (out.push v) (c - 1) d) (out.push v) (c - 1) d g p q
 else if(decide (p<7)&&decide (q<7))=Z7 then pure (.done (Z8,c - 1,d,out.push v,g,p,q))else pure (.yield (Z8,c - 1,d,out.push v,g,p,q))
def Lu(a b:Array yW)(g p q:Nat)(out:Array yW)(d c:Nat):yK->SI
 | some k=>if c - k>0 then(if(k == 1)=Z7 then TQ (FG a b (out++(b.extract k c).reverse) d k) (out++(b.extract k c).reverse) d k g p (c - k)
   else if(k == 0)=Z7 then TQ (Qx a b (out++(b.extract k c).reverse) d k) (out++(b.extract k c).reverse) d k g p (c - k)else Lv a b g p (c - k) (out++(b.extract k c).reverse) d k)else Lv a b g p (c - k) out d c
 |_=>TQ (Qx a b out d c) out d c g p q
def hi2(a b:Array yW)(g p q:Nat)(out:Array yW)(d c:Nat):SI:=dI b (c - 1) >>= λv =>
 if(c - 1 == 1)=Z7 then TQ (FG a b (out.push v) d (c - 1)) (out.push v) d (c - 1) g p q
 else dI a (d - 1) >>= λu=>gallop' Z7 u b 0 (c - 1) (c - 1 - 1) >>= Lu a b g p q (out.push v) d (c - 1)
def Ls(a b:Array yW)(g p q:Nat)(out:Array yW)(c d:Nat):yK->SI
 |some k=>if c - k>0 then(if(k == 0)=Z7 then TQ (Qx a b (out++(a.extract k c).reverse) k d) (out++(a.extract k c).reverse) k d g (c - k) q else hi2 a b g (c - k) q (out++(a.extract k c).reverse) k d)else hi2 a b g (c - k) q out c d
 |_=>TQ (Qx a b out c d) out c d g p q
def hi1(a b:Array yW)(g p q:Nat)(out:Array yW)(c d:Nat):SI:=setG' g >>= λ_=>dI b (d - 1) >>= λv=>gallop' Z5 v a 0 c (c - 1) >>= Ls a b g p q out c d
def t7(a b:Array yW)(c:Qy):SI:=if c.2.2.2.2.1>1 then hi1 a b (c.2.2.2.2.1 - 1) c.2.2.2.2.2.1 c.2.2.2.2.2.2 c.2.2.2.1 c.2.1 c.2.2.1 else hi1 a b c.2.2.2.2.1 c.2.2.2.2.2.1 c.2.2.2.2.2.2 c.2.2.2.1 c.2.1 c.2.2.1
def FF(lt:yW->yW->Bool)(a b:yI)(st:jJ)(x:Nat)(c:Qy)(d:jJ):Prop:=Sg st d/\((∃r o,c=(Z9 r,o)/\Mg lt a b r.toList)∨∃e f out g p q,c=(Z8,e,f,out,g,p,q)/\Wh lt a b e f out/\x+2<=out.size)
def FE(lt:yW->yW->Bool)(a b:yI)(st:jJ)(x:Nat)(c:Qy)(d:jJ):Prop:=∃e f out g p q,c=(Z8,e,f,out,g,p,q)/\Sg st d/\Wh lt a b e f out/\x+2<=out.size
abbrev Qw(lt:yW->yW->Bool)(a b:yI)(st:jJ)(x:Nat):ForInStep Qy->jJ->Prop:=λr c=>match r with|.done d=>FF lt a b st x d c|.yield d=>FE lt a b st x d c
section
variable {st0:jJ}{a b:yI}{x g p q na nb:Nat}{out:Array yW}
theorem Oe{l:yI}(hi:i<l.length):l.toArray[i]?=Z9 l[i]:=by grind
theorem Qv(hs:Sg st0 st)(h:Mg lt a b r.toList):wpS (yV prog w) A E s (TQ r out na nb g p q) (Qw lt a b st0 x) st:=y4 ⟨hs,.inl ⟨_,_,rfl,h⟩⟩
theorem FD(hs:Sg st0 st)(j:0<na)(i:na<a.length)(f:1<nb)(h:nb<=b.length)(hz:x+2<=out.size)(d:MH lt a b (na - 1) nb (out.push (a[na - 1]'(by lia)))):wpS (yV prog w) A E s (Lv a.toArray b.toArray g p q out na nb) (Qw lt a b st0 x) st:=by
 refine yU (Xw (Oe (by lia)) (WV (λc=>Qv hs (QA d (.inl (by simpa using c)))) λc=>?_));have e:Wh lt a b (na - 1) nb _:=⟨d,by simp at c;lia,f,by lia,h⟩
 exact WV (λ_=>y4 ⟨hs,.inr ⟨_,_,_,_,_,_,rfl,e,by simp;lia⟩⟩) λ_=>y4 ⟨_,_,_,_,_,_,rfl,hs,e,by simp;lia⟩
theorem FC(f:Yp lt)(B:YU prog w A s κ lt G)(hk:kindOf st0=κ)(H:∀x∈a,G x)(C:∀x∈b,G x)(z:Zc lt a)(sb:Zc lt b)(n:0<b.length)(l:∀x∈a,lt x b[0]=Z5)(hs:Sg st0 st)(e:0<na)(t:na<a.length)(N:1<nb)(L:nb<=b.length)(hz:x+2<=out.size)(F:MH lt a b na nb out)(I:∀y∈(a.take na).reverse,lt (b[nb - 1]'(by lia)) y=Z5):wpS (yV prog w) A E s (hi2 a.toArray b.toArray g p q out na nb) (Qw lt a b st0 x) st:=by
 have j:=Qz F (by lia) (by lia) I;refine yU (Xw (Oe (by lia)) (WV (λr=>Qv hs (Of j (by simpa using r) n l)) λr=>?_));have D:1<nb - 1:=by lia
 refine yU (Xw (Oe (by lia)) (yU (RL f B (hs.k.trans hk) (H _ (qD6 _)) C (sb.sublist ((qG9 ..).trans (qI0 ..))) (by lia) (by lia) λk K k2 v=>?_)));have c :=
  t8 j K (by lia) λi hi1 u=>SJ f z (by lia) (by simpa[bq]using v i hi1 u)
 have d:0<k->∀y∈(b.take k).reverse,lt (a[na - 1]'(by omega)) y=Z5:=λM=>SJ f sb (by omega) (f.as _ _ (by simpa[bq]using k2 (k - 1) (by omega) (by omega)));refine WV (λh=>WV (λo=>Qv hs (Of c (by simpa using o) n l)) λo=>WV (λm=>Qv hs (QA c (.inr (by simpa using m)))) λm=>?_) λh=>?_
 .exact FD hs e t (by lia) (by lia) (by simp;lia) (Vn c (by lia) e (d (by lia)))
 .have J:k=nb - 1:=by lia
  subst J;exact FD hs e t D (by lia) (by simp;lia) (Vn j (by lia) e (d (by lia)))
theorem t6(d:Yp lt)(j:YU prog w A s κ lt G)(hk:kindOf st0=κ)(o:∀x∈a,G x)(n:∀x∈b,G x)(e:Zc lt a)(sb:Zc lt b)(v:0<b.length)(t:∀x∈a,lt x b[0]=Z5)(hs:Sg st0 st)(W:Wh lt a b na nb out)(l:x+2<=out.size):wpS (yV prog w) A E s (hi1 a.toArray b.toArray g p q out na nb) (Qw lt a b st0 x) st:=by
 obtain⟨m,C,B,I,r⟩:=W;refine yU (FP λJ H=>?_);have c:=hs.trans H;refine yU (Xw (Oe (by lia)) (yU (RL d j (c.k.trans hk) (n _ (qD6 _)) o (e.sublist ((qG9 ..).trans (qI0 ..))) (by lia) (by lia) λk L k2 F=>?_)));have u:=FH m L (by lia) λi hi1 D=>SJ d sb (by lia) (d.as _ _ (by simpa[bq]using F i hi1 D));have z:0<k->∀y∈(a.take k).reverse,lt (b[nb - 1]'(by omega)) y=Z5:=λM=>SJ d e (by omega) (by simpa[bq]using k2 (k - 1) (by omega) (by omega));refine WV (λh=>WV (λf=>Qv c (QA u (.inl (by simpa using f)))) λf=>?_) λh=>?_
 .exact FC d j hk o n e sb v t c (by simp at f;lia) (by lia) B r (by rw[fH];lia) u (z (by simp at f;lia))
 .have K:k=na:=by lia
  subst K;exact FC d j hk o n e sb v t c C I B r l m (z C)
end
theorem t4(M:Yp lt)(V:YU prog w A s κ lt G)(hk:kindOf st=κ)(Y:∀x∈a,G x)(X:∀x∈b,G x)(R:Zc lt a)(sb:Zc lt b)
  (ha:0<a.length) (S:0<b.length) (P:∀x∈a,lt x b[0]=Z5) (hl:∀y∈b,lt (a[a.length - 1]'(by lia)) y=Z5)
  (h:∀out j,Sg st j->Mg lt a b out.toList->Q out j):wpS (yV prog w) A E s (mergeHi' a.toArray b.toArray) Q st:=by
 have v:∀i,(C:i<a.length)->a.toArray[i]?=Z9 a[i]:=λi C=>by rw[qD8];exact qA2 C
 have D:∀i,(C:i<b.length)->b.toArray[i]?=Z9 b[i]:=λi C=>by rw[qD8];exact qA2 C
 refine yU (gL (vM ⟨rfl,?_⟩));rw[show a.toArray.size=a.length from rfl,show b.toArray.size=b.length from rfl];refine yU (Xw (v (a.length - 1) (by lia)) ?_);have m0:MH lt a b a.length b.length #[]:=by
  refine⟨?_,.nil,?_,?_,λx K=>(by simp at K),λx K=>(by simp at K)⟩
  .simpa using(a.reverse_perm.append b.reverse_perm)
  .rw[qG2];exact qN2.mpr R
  .rw[qG2];exact qN2.mpr sb
 have O:=Vn m0 (by lia) ha λy U=>hl y (qH9 (qK0.mp U));by_cases J:(a.length - 1 == 0)=Z7
 .rw[if_pos J];exact y4 (h _ _ (.rfl _) (QA O (.inl (by simpa using J))))
 rw[if_neg J];by_cases L:(b.length == 1)=Z7
 .rw[if_pos L];exact y4 (h _ _ (.rfl _) (Of O (by simpa using L) S P))
 rw[if_neg L];have w1:Wh lt a b (a.length - 1) b.length #[a[a.length - 1]]:=⟨O,by simp at J;lia,by simp at L;lia,by lia,by lia⟩
 refine yU (f9 ?_);refine yU (vP (jY (I:=λx c j=>∃d f out g,c=(Z8,d,f,out,g)/\Sg st j/\Wh lt a b d f out/\x+1<=out.size)
  (Q:=λc j=>∃r o,c=(Z9 r,o)/\Sg st j/\Mg lt a b r.toList) ?_ ?_ ⟨_,_,_,_,rfl,.rfl _,w1,by simp⟩) ?_)
 .rintro x c n _ K ⟨d,f,out,g,rfl,z,W,k⟩;have N:=z.k.trans hk;refine yU (vP (jY (I:=λy c j=>∃d f out p q,c=(Z8,d,f,out,p,q)/\j=n/\Wh lt a b d f out/\x+1+y<=out.size)
   (Q:=λc j=>j=n/\((∃r o,c=(Z9 r,o)/\Mg lt a b r.toList)∨∃d f out p q,c=(Z8,d,f,out,p,q)/\Wh lt a b d f out/\x+2<=out.size)) ?_ ?_ ⟨_,_,_,_,_,rfl,rfl,W,by lia⟩) ?_)
  .rintro y c u _ U ⟨d,f,out,p,q,rfl,rfl,⟨m,Z,j1,i2,j2⟩,k⟩;dsimp only;refine yU (Xw (D (f - 1) (by lia)) (yU (Xw (v (d - 1) (by lia)) (yU (QH V N (X _ (qD6 _)) (Y _ (qD6 _)) ?_)))));cases e:lt b[f - 1] a[d - 1]with
   |true =>
    refine yU (Xw (v (d - 1) (by lia)) ?_);have F:=Vn m (by lia) Z (SJ M sb (by lia) (M.as _ _ e));by_cases t:(d - 1 == 0)=Z7
    .rw[if_pos t];exact y4 ⟨rfl,.inl ⟨_,_,rfl,QA F (.inl (by simpa using t))⟩⟩
    rw[if_neg t];have B:Wh lt a b (d - 1) f (out.push a[d - 1]):=⟨F,by simp at t;lia,j1,by lia,j2⟩
    split
    .exact y4 ⟨rfl,.inr ⟨_,_,_,_,_,rfl,B,by simp;lia⟩⟩
    .exact y4 ⟨_,_,_,_,_,rfl,rfl,B,by simp;lia⟩
   |false =>
    refine yU (Xw (D (f - 1) (by lia)) ?_);have F:=Qz m (by lia) (by lia) (SJ M R (by lia) e);by_cases t:(f - 1 == 1)=Z7
    .rw[if_pos t];exact y4 ⟨rfl,.inl ⟨_,_,rfl,Of F (by simpa using t) S P⟩⟩
    rw[if_neg t];have B:Wh lt a b d (f - 1) (out.push b[f - 1]):=⟨F,Z,by simp at t;lia,i2,by lia⟩
    split
    .exact y4 ⟨rfl,.inr ⟨_,_,_,_,_,rfl,B,by simp;lia⟩⟩
    .exact y4 ⟨_,_,_,_,_,rfl,rfl,B,by simp;lia⟩
  .rintro c u ⟨d,f,out,p,q,rfl,rfl,W,k⟩;exact⟨rfl,.inr ⟨_,_,_,_,_,rfl,W,by lia⟩⟩
  rintro c u ⟨rfl,⟨r,o,rfl,H⟩| ⟨d,f,out,p,q,rfl,W,k⟩⟩
  .exact y4 ⟨r,_,rfl,z,H⟩
  refine yU (gL (vM ⟨rfl,?_⟩));refine yU (vP (FO (f':=λ_ c=>t7 a.toArray b.toArray c) (by kernel_rfl) (λ_=>FE lt a b st x) (Q:=FF lt a b st x) ?_ ?_ ⟨_,_,_,_,_,_,rfl,z,W,k⟩) ?_)
  .rintro y c st3 _ _ ⟨d,f,out,g,p,q,rfl,l,W,k⟩;have T:∀g,wpS (yV prog w) A E s (hi1 a.toArray b.toArray g p q out d f) (Qw lt a b st x) st3:=λg=>t6 M V hk Y X R sb S P l W k;exact vP (WV (λ_=>T _) λ_=>T _) λr j h=>by cases r<;>exact h
  .rintro c u ⟨d,f,out,g,p,q,rfl,l,W,k⟩;exact⟨l,.inr ⟨_,_,_,_,_,_,rfl,W,k⟩⟩
  rintro c st3 ⟨l,⟨r,o,rfl,H⟩| ⟨d,f,out,g,p,q,rfl,W,k⟩⟩
  .exact y4 ⟨r,_,rfl,l,H⟩
  exact yU (wO (y4 ⟨_,_,_,_,rfl,⟨l.k,l.a,l.p,l.f⟩,W,by lia⟩))
 .rintro c n ⟨d,f,out,g,rfl,z,W,k⟩;have:=ua W.m (by have:=W.i';lia) W.j'
  lia
 .rintro c n ⟨r,o,rfl,z,H⟩;exact y4 (h r n z H)
end
abbrev X6:=Nat×Nat×Nat
abbrev SS(a:v6)(l:yI)(p:List X6)(g:Nat):SortSt:=SortSt.mk' a l.toArray p.toArray g Z8
theorem Sg.ss{p:List X6}(h:Sg (SS e l p g) d):∃g',d=SS e l p g':=by obtain⟨k,a,b,c⟩:=h;cases d;cases k;cases a;cases b;cases c;exact⟨_,Eq.refl _⟩
theorem tZ{E:yL}{st a:Z}(h:Q ⟨⟩ a):wpS M A E s (set a:StateT Z Sem PUnit) Q st:=by unfold wpS;exact yP ⟨rfl,h⟩
theorem tY(a b:List X6)(u v z:X6):((a++u::v::b).toArray.setIfInBounds a.length z).eraseIdxIfInBounds (a.length+1)=(a++z::b).toArray:=by simp[List.eraseIdx_append_of_length_le]
theorem tX(c M b:yI):∀(N:yI) (i:Nat) (pr:yI),pr.length=c.length+i->N.length=M.length ->
  (M.zipIdx i).foldl (fun(a:Array yW) (q:yW×Nat)=>a.setIfInBounds (c.length+q.2) q.1) (pr++(N++b)).toArray=(pr++(M++b)).toArray:=by
 induction M with
 |nil=>intro N i pr f d;have:=qF0.mp d;subst this;rfl
 |cons m M g =>
  intro N i pr f d;cases N with
  |nil=>simp at d
  |cons n N =>
   rw[qU0,qK8];have e:((pr++(n::N++b)).toArray.setIfInBounds (c.length+i) m)=((pr++[m])++(N++b)).toArray:=by rw[<- f];simp
   rw[e,g N (i+1) (pr++[m]) (by simp;lia) (by simpa using d)];simp
theorem tW(h:Yp lt)(w:Zc lt X)(t:Zc lt Y)(l:∀y∈Y,lt y f=Z5)(r:∀x∈X,lt d x=Z5)
  (p:∀x∈X.take k,lt f x=Z5) (z:∀y∈Y.drop n,lt y d=Z5) (c:Mg lt (X.drop k) (Y.take n) M):Mg lt X Y (X.take k++(M++Y.drop n)):=by
 have s:Zc lt (X.take k++X.drop k):=by rw[qD1];exact w
 have i:Zc lt (Y.take n++Y.drop n):=by rw[qD1];exact t
 obtain⟨v,B,u⟩:=qC4.mp s;obtain⟨A,j,o⟩:=qC4.mp i;refine⟨?_,qC4.mpr ⟨v,qC4.mpr ⟨c.so,j,λm a y b=>?_⟩,λx g m a=>?_⟩⟩
 .have e:X++Y=X.take k++(X.drop k++Y.take n++Y.drop n):=by rw[qC3,qD1,<- qC3,qD1]
  rw[e];exact(List.Perm.refl _).append (c.pm.append (List.Perm.refl _))
 .rcases qC0.mp (c.pm.mem_iff.mp a)with a|a
  .exact h.tr m d y (r m (qG7 a)) (z y b)
  .exact o m a y b
 .have q:=λy b=>h.tr x f y (p x g) (l y b);rcases qC0.mp a with a|a
  .rcases qC0.mp (c.pm.mem_iff.mp a)with a|a
   .exact u x g m a
   .exact q m (qH9 a)
  .exact q m (qG7 a)
theorem Lr{l:yI}(h:x∈l.take n):∃i,∃hi:i<l.length,i<n/\l[i]=x:=by obtain⟨i,hi,e⟩:=qH8.mp h;refine⟨i,by simp at hi;lia,by simp at hi;lia,by simpa using e⟩
theorem Lq{l:yI}(h:x∈l.drop n):∃i,∃hi:i<l.length,n<=i/\l[i]=x:=by obtain⟨i,hi,e⟩:=qH8.mp h;refine⟨n+i,by simp at hi;lia,by lia,by simpa using e⟩
theorem FB(a:Yp lt)(sl:Zc lt l)(h:0<l.length):∀y∈l,lt y l[0]=Z5:=λy b=>Uz a sl h (a.rf _) y (by simpa using b)
theorem Od(a:Yp lt)(sl:Zc lt l)(h:0<l.length):∀y∈l,lt (l[l.length - 1]'(by omega)) y=Z5:=λy b=>SJ a sl (by omega) (a.rf _) y (by simpa using b)
section
variable {prog:yZ}{w:jG}{A:jF}{E:yL}{s:yQ}{κ:v6}{lt:yW->yW->Bool}{G:yW->Prop}{st:jJ}
theorem tV{t H:List X6}(m:Yp lt)(J:YU prog w A s κ lt G)(I:∀x∈b++(X++(Y++c)),G x)(z:Zc lt X)(v:Zc lt Y)(r:0<X.length)(R:0<Y.length)(M:sb=b.length+X.length)(hi:i=t.length)
  (h:∀ZZ g',Mg lt X Y ZZ->Q Z7 (SS κ (b++(ZZ++c)) (t++(b.length,X.length+Y.length,C)::H) g')) :
  wpS (yV prog w) A E s (mergeAt' i) Q (SS κ (b++(X++(Y++c))) (t++(b.length,X.length,C)::(sb,Y.length,q)::H) g):=by
 subst hi M;have ga:∀j x,(b++(X++(Y++c)))[j]?=Z9 x->(b++(X++(Y++c))).toArray[j]?=Z9 x:=λj x e=>by rw[qD8];exact e
 refine yU (f9 ?_);have e1:(t++(b.length,X.length,C)::(b.length+X.length,Y.length,q)::H).toArray[t.length]?=Z9 (b.length,X.length,C):=by simp
 have e2:(t++(b.length,X.length,C)::(b.length+X.length,Y.length,q)::H).toArray[t.length+1]?=Z9 (b.length+X.length,Y.length,q):=by simp
 rw[e1,e2];dsimp only;rw[tY];refine yU (tZ ?_);have O:∀j,(p:j<Y.length)->(b++(X++(Y++c)))[b.length+X.length+j]?=Z9 Y[j]:=λj p=>by rw[qA1 (by lia),qA1 (by lia),qA8 (by lia),<- qA2 p];congr 1;lia
 have gX:∀j,(p:j<X.length)->(b++(X++(Y++c)))[b.length+j]?=Z9 X[j]:=λj p=>by rw[qA1 (by lia),qA8 (by lia),<- qA2 p];congr 1;lia
 have S:(b++(X++(Y++c))).length=b.length+X.length+Y.length+c.length:=by simp;lia
 have F:=λj p=>(qA4.mp (O j p)).2;have D:=λj p=>(qA4.mp (gX j p)).2;have dX:((b++(X++(Y++c))).drop b.length).take X.length=X:=by simp
 have dY:((b++(X++(Y++c))).drop (b.length+X.length)).take Y.length=Y:=by simp
 have B:∀x∈X,G x:=λx r=>I x (by simp[r]);have u:∀x∈Y,G x:=λx r=>I x (by simp[r]);have fin:=λg' o=>by have:=h (X++Y) g' o;rwa[qC3]at this
 refine yU (Xw (ga (b.length+X.length) Y[0] (O 0 R)) ?_);refine yU (RL m J rfl (u _ (qD6 _)) I (by rw[dX];exact z) (by lia) r λk k1 k2 k3=>?_);dsimp only;have c1:∀x∈X.take k,lt Y[0] x=Z5:=λx r=>by obtain⟨i,hi,f,rfl⟩:=Lr r;have:=k2 i f hi;rw[D i hi]at this;simpa[bq]using this
 have U:=FB m v R;have Z:=Od m z r;by_cases K:(X.length - k == 0)=Z7
 .rw[if_pos K];have hk:X.length<=k:=by simp at K;lia
  refine y4 (fin _ ⟨.refl _,qC4.mpr ⟨z,v,λx d y l=>m.tr x Y[0] y (c1 x ?_) (U y l)⟩⟩);rw[qI4 hk];exact d
 rw[if_neg K];have hk:=by simp at K;omega
 rw[show b.length+k+(X.length - k) - 1=b.length+(X.length - 1) by lia];refine yU (Xw (ga _ (X[X.length - 1]) (gX (X.length - 1) (by lia))) ?_);refine yU (RL m J rfl (B _ (qD6 _)) I (by rw[dY];exact v) (by lia) (by lia) λn n1 n2 n3=>?_);dsimp only;have c2:∀y∈Y.drop n,lt y X[X.length - 1]=Z5:=λy l=>by obtain⟨i,hi,f,rfl⟩:=Lq l;have:=n3 i f hi;rw[F i hi]at this;simpa[bq]using this
 by_cases L:(n == 0)=Z7
 .rw[if_pos L];have hn:=by simpa using L
  subst hn;exact y4 (fin _ ⟨.refl _,qC4.mpr ⟨z,v,λx d y l=>m.tr x _ y (Z x d) (c2 y (by simpa using l))⟩⟩)
 rw[if_neg L];have hn:=by simp at L;omega
 have x2:(b++(X++(Y++c))).toArray.extract (b.length+k) (b.length+X.length)=(X.drop k).toArray:=by apply dP;rw[Oj,<- qO9];simp only[qV1];rw[List.drop_append_of_le_length (by lia),qN7 (by simp;lia)];exact qI4 (by simp;lia)
 have y1:(b++(X++(Y++c))).toArray.extract (b.length+X.length) (b.length+X.length+n)=(Y.take n).toArray:=by apply dP;rw[Oj,<- qO9];simp only[qV1];rw[show b.length+X.length+n - (b.length+X.length)=n by lia,qN7 n1]
 rw[x2,y1];have W:∀x∈X.drop k,lt x ((Y.take n)[0]'(by simp;lia))=Z5:=λx d=>by
  obtain⟨i,hi,f,rfl⟩:=Lq d;have:=k3 i f hi;rw[D i hi]at this;have e:(Y.take n)[0]'(by simp;lia)=Y[0]:=by simp
  rw[e];exact m.as _ _ (by simpa[bq]using this)
 have V:∀y∈Y.take n,lt ((X.drop k)[(X.drop k).length - 1]'(by simp;lia)) y=Z5:=λy l=>by
  obtain⟨i,hi,f,rfl⟩:=Lr l;have:=n2 i f hi;rw[F i hi]at this;have e:(X.drop k)[(X.drop k).length - 1]'(by simp;lia)=X[X.length - 1]:=by simp only[qM7];congr 1;simp;lia
  rw[e];exact m.as _ _ (by simpa[bq]using this)
 have after:∀(out:Array yW) g',Mg lt (X.drop k) (Y.take n) out.toList->Q Z7 (SS κ (b++((X.take k++(out.toList++Y.drop n))++c)) (t++(b.length,X.length+Y.length,C)::H) g'):=λout g' o=>h _ g' (tW m z v U Z c1 c2 o);have fo:∀(out:Array yW),Mg lt (X.drop k) (Y.take n) out.toList->out.toList.zipIdx.foldl (λa x=>a.setIfInBounds (b.length+k+x.2) x.1) (b++(X++(Y++c))).toArray=(b++((X.take k++(out.toList++Y.drop n))++c)).toArray:=λout o=>by
  have e:=tX (b++X.take k) out.toList (Y.drop n++c) (X.drop k++Y.take n) 0 (b++X.take k) (by simp) o.pm.length_eq.symm;have e5:(b++X.take k).length=b.length+k:=by simp;lia
  have e6:b++X.take k++(X.drop k++Y.take n++(Y.drop n++c))=b++(X++(Y++c)):=by
   conv=>rhs;rw[<- qD1 k X,<- qD1 n Y]
   simp only[qC3]
  have e7:b++X.take k++(out.toList++(Y.drop n++c))=b++((X.take k++(out.toList++Y.drop n))++c):=by simp only[qC3]
  rw[e5,e6,e7]at e;exact e
 by_cases T:X.length - k<=n
 case' pos =>
  rw[if_pos T];refine yU (uc m J rfl (λx d=>B x (qG7 d)) (λx d=>u x (qH9 d)) (z.sublist (qI0 ..)) (v.sublist (qG9 ..)) (by simp;lia) (by simp;lia) W V λout N P o=>?_)
 case' neg =>
  rw[if_neg T];refine yU (t4 m J rfl (λx d=>B x (qG7 d)) (λx d=>u x (qH9 d)) (z.sublist (qI0 ..)) (v.sublist (qG9 ..)) (by simp;lia) (by simp;lia) W V λout N P o=>?_)
 all_goals
  obtain⟨g',rfl⟩:=P.ss;refine yU (wO (yU (f9 (y4 ?_))));have:=after out g' o;rw[SS,<- fo out o]at this;exact this
end
theorem tU(P T U:yI):mirror (P++(T++U)).toArray P.length (P.length+T.length) ((P.length+T.length - P.length) / 2)=(P++(T.reverse++U)).toArray:=by
 apply Array.ext_getElem?;intro k;rw[getElem?_mirror_all (by simp)];simp only[qD8];by_cases h:P.length<=k/\k<P.length+T.length
 .rw[if_pos h,qA1 (by omega),qA8 (by omega),qA1 (by omega),qA8 (by simp;omega),List.getElem?_reverse (by omega)];congr 1;omega
 .rw[if_neg h];by_cases a:k<P.length
  .rw[qA8 a,qA8 a]
  .rw[qA1 (by omega),qA1 (by omega),qA1 (by omega),qA1 (by simp;omega)];simp
theorem tT(P T U:yI)(e:yW):bubble (P++(T++(e::U))).toArray (P.length+T.length) T.length=(P++(e::(T++U))).toArray:=by
 apply Array.ext_getElem?;intro k;rw[getElem?_bubble (by simp) _ (by lia)];simp only[qD8,qS9];by_cases h:k=P.length
 .rw[if_pos h,qA1 (by lia),qA1 (by lia),qA1 (by lia),h];simp
 .rw[if_neg h];by_cases a:P.length<k/\k<=P.length+T.length
  .rw[if_pos a,qA1 (by lia),qA8 (by lia),qA1 (by lia)];obtain⟨m,rfl⟩:∃m,k=P.length+m+1:=⟨k - P.length - 1,by lia⟩
   rw[show P.length+m+1 - P.length=m+1 by lia,qK1,qA8 (by lia)];congr 1;lia
  .rw[if_neg a];by_cases b:k<P.length
   .rw[qA8 b,qA8 b]
   .obtain⟨m,rfl⟩:∃m,k=P.length+T.length+m+1:=⟨k - P.length - T.length - 1,by lia⟩
    rw[qA1 (by lia),qA1 (by lia),qA1 (by lia),show P.length+T.length+m+1 - P.length - T.length=m+1 by lia,show P.length+T.length+m+1 - P.length=T.length+m+1 by lia,qK1,qK1,qA1 (by lia)];congr 1;lia
section
variable {prog:yZ}{w:jG}{A:jF}{E:yL}{s:yQ}{κ:v6}{lt:yW->yW->Bool}{G:yW->Prop}{p:List X6}{g:Nat}
theorem Qu(d:YU prog w A s κ lt G)(a:∀x∈l,G x)(c:l[i]?=Z9 x)(b:l[j]?=Z9 y)(h:Q (Z9 (lt x y)) (SS κ l p g)):wpS (yV prog w) A E s (ltAt' i j) Q (SS κ l p g):=by refine yU (f9 ?_);refine yU (Xw (by rw[qD8];exact c) (yU (Xw (by rw[qD8];exact b) ?_)));exact QH d rfl (a x (qB5 c)) (a y (qB5 b)) h
theorem Qt{P T U:yI}(hi:i=P.length)(a:j=P.length+T.length)(h:Q () (SS κ (P++(T.reverse++U)) p g)):wpS (yV prog w) A E s (dJ i j) Q (SS κ (P++(T++U)) p g):=by
 subst hi a;rw[reverseSlice'_eq];refine wO ?_;have e:setArr (SS κ (P++(T++U)) p g) (mirror (uM (SS κ (P++(T++U)) p g)) P.length (P.length+T.length) ((P.length+T.length - P.length) / 2))=SS κ (P++(T.reverse++U)) p g:=by rw[tU]
 rw[e];exact h
theorem tS{P T U:yI}(hi:i=P.length+T.length)(a:j=P.length)(h:Q () (SS κ (P++(e::(T++U))) p g)):wpS (yV prog w) A E s (moveDown' i j) Q (SS κ (P++(T++(e::U))) p g):=by
 subst hi a;rw[moveDown'_eq];refine wO ?_;have b:setArr (SS κ (P++(T++(e::U))) p g) (bubble (uM (SS κ (P++(T++(e::U))) p g)) (P.length+T.length) (P.length+T.length - P.length))=SS κ (P++(e::(T++U))) p g:=by rw[qM2,tT]
 rw[b];exact h
theorem FA{a D U:yI}{lo n:Nat}(o:Yp lt)(H:YU prog w A s κ lt G)(C:∀x∈a++(D++U),G x)(l:lo=a.length)(L:n=D.length+U.length)(M:0<D.length)(J:Zc lt D)
  (h:∀V W,U=V++W->Zc lt (D++V)->(W=[]∨∃e K,W=e::K/\∃z,(D++V)[(D++V).length - 1]?=Z9 z/\lt e z=Z7)->Q (Z8,D.length+V.length) (SS κ (a++(D++U)) p g)) :
  wpS (yV prog w) A E s (forIn [D.length:n] (Z8,D.length) λ_ (c:Option (yK)×Nat)=>ltAt' (lo+c.2) (lo+c.2 - 1) >>= λr=>match r with
   |some b=>if b=Z7 then pure (ForInStep.done (Z8,c.2))else pure (ForInStep.yield (Z8,c.2+1))
   | _=>pure (ForInStep.done (Z9 Z8,c.2))) Q (SS κ (a++(D++U)) p g):=by
 subst l L;refine jY (I:=λx c d=>d=SS κ (a++(D++U)) p g/\c=(Z8,x)/\∃V W,U=V++W/\x=D.length+V.length/\Zc lt (D++V)) ?_ ?_ ⟨rfl,rfl,[],U,rfl,rfl,by simpa using J⟩
 .rintro x c d _ j ⟨rfl,rfl,V,W,rfl,rfl,f⟩;cases W with
  |nil=>simp at j
  |cons e W =>
   have B:(D++V).length - 1<(D++V).length:=by simp;lia
   obtain⟨z,m⟩:∃z,(D++V)[(D++V).length - 1]?=Z9 z:=⟨_,qA2 B⟩
   have i:=m;rw[qC2]at i;refine yU (Qu H C (x:=e) (y:=z) ?_ ?_ ?_)
   .rw[qA1 (by lia),qA1 (by lia),qA1 (by lia)];rw[show a.length+(D.length+V.length) - a.length - D.length - V.length=0 by lia];rfl
   .rw[<- qC3 D,qA1 (by lia),qA8 (by simp;lia),<- i];congr 1;lia
   .cases k:lt e z with
    |true=>exact y4 (h V (e::W) rfl f (.inr ⟨e,W,rfl,z,m,k⟩))
    |false =>
     refine y4 ⟨rfl,rfl,V++[e],W,by simp,by simp;lia,?_⟩;rw[<- qC3];refine qC4.mpr ⟨f,qE7 ..,λu F v t=>?_⟩;have:=qB6.mp t;subst this;have q:=Od o f (by lia) u F;rw[<- (qA4.mp m).2]at k;exact o.tr _ _ _ q k
 .rintro c d ⟨rfl,rfl,V,W,rfl,j,f⟩;have:W=[]:=by
   cases W with
   |nil=>rfl
   |cons e W=>simp at j
  subst this;rw[j];exact h V [] rfl f (.inl rfl)
end
structure WU(lt:yW->yW->Bool)(R D1 T U:yI):Prop where
 pm:(D1++(T++U)).Perm R
 ds:Zc (λx y=>lt y x) (D1++T)
 t0:0<T.length
 eq:∀u∈T,∀v∈T,lt u v=Z5
section
variable {lt:yW->yW->Bool}{R D1 T U:yI}{e t:yW}
theorem WU.last(h:WU lt R D1 T (e::U))(a:Yp lt)(ht:(D1++T)[(D1++T).length - 1]?=Z9 t)(k:lt t e=Z5):∀d∈D1++T,lt d e=Z5:=by intro d b;have q:=Od a.flip h.ds (by have:=h.t0;simp;lia) d b;rw[(qA4.mp ht).2]at q;exact a.tr e t d k q
theorem WU.rev(h:WU lt R D1 T U):Zc (λx y=>lt y x) (D1++T.reverse):=by obtain⟨a,b,c⟩:=qC4.mp h.ds;refine qC4.mpr ⟨a,qN0 λu f v d=>h.eq u (by simpa using f) v (by simpa using d),λx i y g=>c x i y (by simpa using g)⟩
theorem WU.one(h:WU lt R D1 T (e::U))(q:∀d∈D1++T,lt d e=Z5)(c:Yp lt):WU lt R (D1++T) [e] U:=by
 refine⟨by simpa using h.pm,qC4.mpr ⟨h.ds,qE7 ..,λx g y f=>?_⟩,by simp,λu b v a=>?_⟩
 .rw[qB6.mp f];exact q x g
 .rw[qB6.mp b,qB6.mp a];exact c.rf _
theorem WU.oneR(h:WU lt R D1 T (e::U))(q:∀d∈D1++T,lt d e=Z5)(f:Yp lt):WU lt R (D1++T.reverse) [e] U:=by
 refine⟨?_,qC4.mpr ⟨h.rev,qE7 ..,λx a y g=>?_⟩,by simp,λu c v b=>?_⟩
 .rw[qC3];exact((List.Perm.refl D1).append (T.reverse_perm.append (List.Perm.refl _))).trans h.pm
 .rw[qB6.mp g];refine q x ?_;rcases qC0.mp a with a|a
  .exact qF2 _ a
  .exact qD0 _ (by simpa using a)
 .rw[qB6.mp c,qB6.mp b];exact f.rf _
theorem WU.more(h:WU lt R D1 T (e::U))(q:∀d∈D1++T,lt d e=Z5)(c:Yp lt)(ht:(D1++T)[(D1++T).length - 1]?=Z9 t)(k:lt e t=Z5):WU lt R D1 (T++[e]) U:=by
 have f:=by rw[qA1 (by have:=h.t0;simp;omega)]at ht;exact qB5 ht
 refine⟨by simpa using h.pm,?_,by simp,?_⟩
 .rw[<- qC3];exact qC4.mpr ⟨h.ds,qE7 ..,λx i y g=>by rw[qB6.mp g];exact q x i⟩
 .intro u b v a;rcases qC0.mp b with b|b<;>rcases qC0.mp a with a|a
  .exact h.eq u b v a
  .rw[qB6.mp a];exact q u (qD0 _ b)
  .rw[qB6.mp b];exact c.tr v t e (h.eq t f v a) k
  .rw[qB6.mp b,qB6.mp a];exact c.rf _
end
section
variable {prog:yZ}{w:jG}{A:jF}{E:yL}{s:yQ}{κ:v6}{lt:yW->yW->Bool}{G:yW->Prop}{p:List X6}{g:Nat}
def Fz(b:v6)(lt:yW->yW->Bool)(a R:yI)(p:List X6)(g:Nat)(Q:yK->jJ->Prop):Prop :=
 ∀N W,(N++W).Perm R->0<N.length->Zc lt N->Q (Z9 N.length) (SS b (a++(N++W)) p g)
theorem Fy{a R b:yI}(c:∀x∈a++R,G x)(h:b.Perm R):∀x∈a++b,G x:=by grind
def Lo(lo a n:Nat):StateT jJ Sem (Option (yK)×Nat):=forIn [a:n] (Z8,a) λ_ (c:Option (yK)×Nat)=>ltAt' (lo+c.2) (lo+c.2 - 1) >>= λr=>match r with
 |some b=>if b=Z7 then pure (ForInStep.done (Z8,c.2))else pure (ForInStep.yield (Z8,c.2+1))
 |_=>pure (ForInStep.done (Z9 Z8,c.2))
def Ln(lo m n:Nat):StateT jJ Sem (Option (yK)×Nat×Nat):=forIn [m:n] (Z8,m,0) λ_ (c:Option (yK)×Nat×Nat)=>ltAt' (lo+c.2.1) (lo+c.2.1 - 1) >>= λr=>match r with
 |some a=>if a=Z7 then ite (c.2.2>0) (dJ (lo+c.2.1 - (c.2.2+1)) (lo+c.2.1) >>= λ_=>pure (ForInStep.yield (Z8,c.2.1+1,0))) (pure (ForInStep.yield (Z8,c.2.1+1,0)))
  else ltAt' (lo+c.2.1 - 1) (lo+c.2.1) >>= λr=>match r with
   |some b=>if b=Z7 then pure (ForInStep.done (Z8,c.2.1,c.2.2))else pure (ForInStep.yield (Z8,c.2.1+1,c.2.2+1))
   |_=>pure (ForInStep.done (Z9 Z8,c.2.1,c.2.2))
 |_=>pure (ForInStep.done (Z9 Z8,c.2.1,c.2.2))
theorem Fx{lo n:Nat}(j:Yp lt)(z:YU prog w A s κ lt G)(H:∀x∈b++R,G x)(r:lo=b.length)(K:n=R.length)(d:WU lt R a T U)(i:T.length=1)
   (hm:m=(a++T).length) (h:∀a T U q,WU lt R a T U->T.length=q+1->Q (Z8,(a++T).length,q) (SS κ (b++(a++(T++U))) p g)):wpS (yV prog w) A E s (Ln lo m n) Q (SS κ (b++(a++(T++U))) p g):=by
 subst r K hm;refine vP (jY (I:=λx c f=>∃a T U q,c=(Z8,x,q)/\f=SS κ (b++(a++(T++U))) p g/\WU lt R a T U/\(a++T).length=x/\T.length=q+1)
  (Q:=λc f=>∃a T U q,c=(Z8,(a++T).length,q)/\f=SS κ (b++(a++(T++U))) p g/\WU lt R a T U/\T.length=q+1) ?_ ?_ ⟨a,T,U,0,rfl,rfl,d,rfl,i⟩) ?_
 .rintro x c f _ o ⟨a,T,U,q,rfl,rfl,d,rfl,i⟩;dsimp only;have J:=d.pm.length_eq;cases U with
  |nil=>simp at J o;lia
  |cons e U =>
   have F:(a++T).length - 1<(a++T).length:=by simp;lia
   obtain⟨t,l⟩:∃t,(a++T)[(a++T).length - 1]?=Z9 t:=⟨_,qA2 F⟩
   have B:(b++(a++(T++e::U)))[b.length+(a++T).length]?=Z9 e:=by rw[<- qC3 a,qA1 (by lia),qA1 (by lia),show b.length+(a++T).length - b.length - (a++T).length=0 by lia];rfl
   have v:(b++(a++(T++e::U)))[b.length+(a++T).length - 1]?=Z9 t:=by rw[<- qC3 a,qA1 (by lia),qA8 (by lia),<- l];congr 1;lia
   have k:=Fy H d.pm;refine yU (Qu z k B v ?_);cases u:lt e t with
   |true =>
    have y:=d.last j l (j.as _ _ u);simp only[if_true];by_cases C:q>0
    .rw[if_pos C];have D:b++(a++(T++e::U))=(b++a)++(T++e::U):=by simp
     rw[D];refine yU (Qt (by simp;lia) (by simp;lia) (y4 ⟨a++T.reverse,[e],U,0,rfl,by simp,d.oneR y j,by simp;lia,rfl⟩))
    .rw[if_neg C];exact y4 ⟨a++T,[e],U,0,rfl,by simp,d.one y j,by simp;lia,rfl⟩
   |false =>
    refine yU (Qu z k v B ?_);cases L:lt t e with
    |true=>exact y4 ⟨a,T,e::U,q,rfl,rfl,d,i⟩
    |false=>exact y4 ⟨a,T++[e],U,q+1,rfl,by simp,d.more (d.last j l L) j l u,by simp;lia,by simp[i]⟩
 .rintro c f ⟨a,T,U,q,rfl,rfl,d,o,i⟩;exact⟨a,T,U,q,by rw[o],rfl,d,i⟩
 rintro c f ⟨a,T,U,q,rfl,rfl,d,i⟩;exact h a T U q d i
theorem Oc{lo n a:Nat}{K:Option (yK)×Nat->StateT jJ Sem (yK)}(i:∀m st,Q (Z9 m) st->wpS (yV prog w) A E s (K (Z8,m)) Q st)(v:Yp lt)(l:YU prog w A s κ lt G)(j:∀x∈b++R,G x)(d:lo=b.length)(u:n=R.length)(h:Fz κ lt b R p g Q)
  (o:Zc (λx y=>lt y x) D) (t:a=D.length) (k:0<D.length) (r:(D++U).Perm R):wpS (yV prog w) A E s (dJ lo (lo+a) >>= λ_=>Lo lo a n >>= K) Q (SS κ (b++(D++U)) p g):=by
 subst t d u;refine yU (Qt rfl rfl ?_);have c:=(D.reverse_perm.append (List.Perm.refl U)).trans r;have q:D.length=D.reverse.length:=by simp
 rw[q];refine yU (FA v l (Fy j c) rfl (by rw[<- c.length_eq];simp) (by simp[k]) o.rev λV W e f _=>?_);subst e;have:=h (D.reverse++V) W (by simpa using c) (by simp;lia) f;simp only[qC3,qC2]at this;exact i _ _ this
theorem tR{lo n:Nat}(j:Yp lt)(B:YU prog w A s κ lt G)(t:∀x∈f++R,G x)(i:lo=f.length)(C:n=R.length)(hR:0<R.length)(h:Fz κ lt f R p g Q):
  wpS (yV prog w) A E s (countRun' lo n) Q (SS κ (f++R) p g):=by
 obtain⟨r,R',rfl⟩:∃r R',R=r::R':=by cases R with
  |nil=>simp at hR
  |cons r R=>exact⟨r,R,rfl⟩
 refine yU (FA j B t i (by rw[C];simp;lia) (by simp) (qE7 ..) λV W e J ho=>?_);subst e;dsimp only;by_cases M:([r].length+V.length == n)=Z7
 .rw[if_pos M];have:=h ([r]++V) W (by simp) (by simp) J;simp only[qC2]at this;exact y4 this
 rw[if_neg M];rcases ho with rfl|⟨e,W',rfl,z,K,Z⟩
 .exfalso;apply M;rw[C];simp;lia
 have N:∀x∈f++(([r]++V)++e::W'),G x:=by simpa using t
 rw[show f++([r]++(V++e::W'))=f++(([r]++V)++e::W') by simp];have Y:∀H,(H++e::W').Perm (r::(V++e::W'))->(∀u∈H,∀v∈H,lt u v=Z5)->(∀d∈H,lt d e=Z5)->WU lt (r::(V++e::W')) H [e] W':=λH a b c =>
  ⟨by simpa using a,qC4.mpr ⟨qN0 b,qE7 ..,λx hx y hy=>by rw[qB6.mp hy];exact c x hx⟩,by simp,λu o v D=>by rw[qB6.mp o,qB6.mp D];exact j.rf _⟩
 by_cases L:[r].length+V.length>1
 .rw[if_pos L];refine yU (Qu B N (x:=r) (by rw[i,qA1 (by lia)];simp) (by
   rw[i,qA1 (by lia),qA8 (by simp at L ⊢;lia),<- K];congr 1;simp;lia) ?_)
  cases e3:lt r z with
  |true =>
   have:=h ([r]++V) (e::W') (by simp) (by simp) J;simp only[qC2]at this ⊢;exact y4 this
  |false =>
   have z1:=λu o=>by have:=Od j J (by simp) u o;rwa[(qA4.mp K).2]at this
   have z2:=λu o=>FB j J (by simp) u o;have X:=λu o v D=>j.tr v r u (j.tr v z r (z1 v D) e3) (z2 u o);have zm:=qB5 K;refine yU (Qt i (by simp;lia) ?_);have S:=Y ([r]++V).reverse (by
    have:=((([r]++V).reverse_perm).append (List.Perm.refl (e::W')))
    simpa using this) (λu o v D=>X u (qK0.mp o) v (qK0.mp D)) (λd O=>j.tr e z d (j.as _ _ Z) (X d (qK0.mp O) z zm))
   refine yU (gL (vM ⟨rfl,?_⟩));refine yU (Fx j B (by simpa using t) i C S rfl (by simp;lia) λk T U q l hT=>?_);dsimp only;by_cases I:q>0
   .rw[if_pos I,show f++(k++(T++U))=(f++k)++(T++U) by simp];refine yU (Qt (by simp;lia) (by simp;lia) ?_);rw[show(f++k)++(T.reverse++U)=f++((k++T.reverse)++U) by simp];exact Oc (λm P F=>y4 F) j B (by simpa using t) i C h l.rev (by simp) (by have:=l.t0;simp;lia) (by rw[qC3];exact((List.Perm.refl k).append (T.reverse_perm.append (List.Perm.refl _))).trans l.pm)
   .rw[if_neg I,show f++(k++(T++U))=f++((k++T)++U) by simp];exact Oc (λm P F=>y4 F) j B (by simpa using t) i C h l.ds rfl (by have:=l.t0;simp;lia) (by simpa using l.pm)
 .rw[if_neg L];have hV:V=[]:=by cases V with
   |nil=>rfl
   |cons v V=>simp at L
  subst hV;have S:=Y [r] (by simp) (λu o v D=>by rw[qB6.mp o,qB6.mp D];exact j.rf _) (λd O=>by
   rw[qB6.mp O];have:=by simpa using K.symm
   rw[<- this];exact j.as _ _ Z)
  refine yU (gL (vM ⟨rfl,?_⟩));refine yU (Fx j B (by simpa using t) i C S rfl (by simp) λk T U q l hT=>?_);dsimp only;by_cases I:q>0
  .rw[if_pos I,show f++(k++(T++U))=(f++k)++(T++U) by simp];refine yU (Qt (by simp;lia) (by simp;lia) ?_);rw[show(f++k)++(T.reverse++U)=f++((k++T.reverse)++U) by simp];exact Oc (λm P F=>y4 F) j B (by simpa using t) i C h l.rev (by simp) (by have:=l.t0;simp;lia) (by rw[qC3];exact((List.Perm.refl k).append (T.reverse_perm.append (List.Perm.refl _))).trans l.pm)
  .rw[if_neg I,show f++(k++(T++U))=f++((k++T)++U) by simp];exact Oc (λm P F=>y4 F) j B (by simpa using t) i C h l.ds rfl (by have:=l.t0;simp;lia) (by simpa using l.pm)
end
section
variable {prog:yZ}{w:jG}{A:jF}{E:yL}{s:yQ}{κ:v6}{lt:yW->yW->Bool}{G:yW->Prop}{p:List X6}{g:Nat}
theorem tQ(i:Yp lt)(m:Zc lt S)(d:∀x∈S.take l,lt e x=Z5)(h:∀x∈S.drop l,lt e x=Z7):Zc lt (S.take l++(e::S.drop l)):=by
 have j:Zc lt (S.take l++S.drop l):=by rw[qD1];exact m
 obtain⟨f,k,c⟩:=qC4.mp j;refine qC4.mpr ⟨f,qF6.mpr ⟨λy a=>i.as _ _ (h y a),k⟩,λx b y a=>?_⟩;rcases qB0.mp a with rfl|a
 .exact d x b
 .exact c x b y a
theorem tP{d S U b:yI}{lo n ok:Nat}(B:Yp lt)(X:YU prog w A s κ lt G)(W:∀x∈d++(S++(U++b)),G x)(M:lo=d.length)(hn:n=S.length+U.length)(J:ok=S.length)(h0:0<S.length)(V:Zc lt S)
  (h:∀N,N.Perm (S++U)->Zc lt N->Q Z7 (SS κ (d++(N++b)) p g)):wpS (yV prog w) A E s (binarySort' lo n ok) Q (SS κ (d++(S++(U++b))) p g):=by
 subst M hn J;rw[binarySort'_eq];rw[show max S.length 1=S.length by lia];refine yU (vP (jY (I:=λk c o=>c=(Z8,())/\∃a j,k=a.length/\(a++j).Perm (S++U)/\Zc lt a/\o=SS κ (d++(a++(j++b))) p g)
  (Q:=λc o=>c=(Z8,())/\∃N,N.Perm (S++U)/\Zc lt N/\o=SS κ (d++(N++b)) p g) ?_ ?_ ⟨rfl,S,U,rfl,.refl _,V,rfl⟩) ?_)
 .rintro k c o T Z ⟨rfl,a,j,rfl,u,t,rfl⟩;have L:=u.length_eq;cases j with
  |nil=>simp at L;lia
  |cons e j =>
  have K:∀x∈d++(a++(e::j++b)),G x:=λx m=>W x (by
   rcases qC0.mp m with m|m
   .exact qF2 _ m
   .refine qD0 _ ?_;rw[<- qC3]at m ⊢;rcases qC0.mp m with m|m
    .exact qF2 _ (u.mem_iff.mp m)
    .exact qD0 _ m)
  refine yU (vP (jY (I:=λx c f=>f=SS κ (d++(a++(e::j++b))) p g/\∃l r,c=(Z8,l,r)/\l<=r/\r<=a.length/\r - l<=a.length - x /\
    (∀i,(q:i<a.length)->i<l->lt e a[i]=Z5)/\(∀i,(q:i<a.length)->r<=i->lt e a[i]=Z7))
   (Q:=λc f=>f=SS κ (d++(a++(e::j++b))) p g/\∃l r,c=(Z8,l,r)/\l<=a.length /\
    (∀i,(q:i<a.length)->i<l->lt e a[i]=Z5)/\(∀i,(q:i<a.length)->l<=i->lt e a[i]=Z7)) ?_ ?_ ⟨rfl,0,a.length,rfl,by lia,by lia,by lia,λi q h=>(by lia),λi q h=>(by lia)⟩) ?_)
  .rintro x c f _ m ⟨rfl,l,r,rfl,O,z,Y,C,D⟩;dsimp only;by_cases F:l≥r
   .rw[if_pos F];have:l=r:=by lia
    subst this;exact y4 ⟨rfl,l,l,rfl,z,C,D⟩
   .rw[if_neg F];refine yU (Qu X K (x:=e) (y:=a[(l+r) / 2]'(by lia)) ?_ ?_ ?_)
    .rw[qA1 (by lia),qA1 (by lia),show d.length+a.length - d.length - a.length=0 by lia];rfl
    .rw[qA1 (by lia),qA8 (by lia),qM2];exact qA2 (by lia)
    .cases H:lt e (a[(l+r) / 2]'(by lia))with
     |true =>
      refine y4 ⟨rfl,l,(l+r) / 2,rfl,by lia,by lia,by lia,C,λi q P=>?_⟩;cases e2:lt e a[i]with
      |true=>rfl
      |false =>
       have:=Uz B t (i:=(l+r) / 2) (by lia) (B.rf _) a[i] (by
        rw[qH8];exact⟨i - (l+r) / 2,by simp;lia,by simp only[qM7];congr 1;lia⟩)
       rw[B.tr _ _ _ this e2]at H;cases H
     |false =>
      refine y4 ⟨rfl,(l+r) / 2+1,r,rfl,by lia,by lia,by lia,λi q P=>?_,D⟩;have:=Uz B t q (B.rf _) (a[(l+r) / 2]'(by lia)) (by
        rw[qH8];exact⟨(l+r) / 2 - i,by simp;lia,by simp only[qM7];congr 1;lia⟩)
      exact B.tr _ _ _ this H
  .rintro c f ⟨rfl,l,r,rfl,O,z,Y,C,D⟩;have:l=r:=by lia
   subst this;exact⟨rfl,l,l,rfl,z,C,D⟩
  .rintro c f ⟨rfl,l,r,rfl,hl,C,D⟩;have e0:d++(a++(e::j++b))=(d++a.take l)++(a.drop l++(e::(j++b))):=by
    conv=>lhs;rw[<- qD1 l a]
    simp only[qC3,qK2]
   rw[e0];refine yU (tS (by simp;lia) (by simp;lia) (y4 ⟨rfl,a.take l++(e::a.drop l),j,by simp;lia,?_,tQ B t (λx m=>?_) (λx m=>?_),by simp⟩))
   .refine List.Perm.trans ?_ u;have:(a++e::j)=a.take l++(a.drop l++(e::j)):=by rw[<- qC3,qD1]
    rw[this,qC3];refine(List.Perm.refl _).append ?_;exact qQ1.symm
   .obtain⟨i,q,v,rfl⟩:=Lr m;exact C i q v
   .obtain⟨i,q,v,rfl⟩:=Lq m;exact D i q v
 .rintro c o ⟨rfl,a,j,hk,u,t,rfl⟩;have L:=u.length_eq;have:j=[]:=by
   cases j with
   |nil=>rfl
   |cons e j=>simp at L;lia
  subst this;exact⟨rfl,a,by simpa using u,t,by simp⟩
 .rintro c o ⟨rfl,N,u,R,rfl⟩;exact y4 (h N u R)
end
abbrev Rn:=List (yI×Nat)
def Zt:Rn->yI
 |[]=>[]
 |r::rs=>r.1++Zt rs
def YN:Nat->Rn->List X6
 |_,[]=>[]
 |o,r::rs=>(o,r.1.length,r.2)::YN (o+r.1.length) rs
theorem Ux:∀(a b:Rn),Zt (a++b)=Zt a++Zt b
 |[],_=>rfl
 |r::a,b=>by rw[qK2,Zt,Ux a b,Zt,qC3]
theorem TN:∀(o:Nat) (a b:Rn),YN o (a++b)=YN o a++YN (o+(Zt a).length) b
 |o,[],b=>by simp[YN,Zt]
 |o,r::a,b=>by rw[qK2,YN,TN (o+r.1.length) a b,YN,Zt,qC2,qK2,Nat.add_assoc]
theorem RJ:∀(o:Nat) (a:Rn),(YN o a).length=a.length
 |_,[]=>rfl
 |o,r::a=>by rw[YN,qD3,RJ,qD3]
structure Yg(lt:yW->yW->Bool)(rs:Rn):Prop where
 s:∀r∈rs,Zc lt r.1
 p:∀r∈rs,0<r.1.length
theorem Yg.len:∀{rs:Rn},Yg lt rs->rs.length<=(Zt rs).length
 |[],_=>qA7 _
 |r::rs,h=>by have:=Yg.len (rs:=rs) ⟨λx a=>h.s x (qC5 _ a),λx a=>h.p x (qC5 _ a)⟩;have:=h.p r (qE3 ..);rw[Zt,qC2,qD3];lia
theorem tO{rs:Rn}(h:i+1<rs.length):∃a x y b,rs=a++x::y::b/\a.length=i:=by refine⟨rs.take i,rs[i],rs[i+1],rs.drop (i+2),?_,by simp;lia⟩;rw[<- qF5,<- qF5,qD1]
theorem Fw{rs:Rn}(h:rs≠[]):∃a x,rs=a++[x]:=⟨rs.dropLast,rs.getLast h,(List.dropLast_concat_getLast h).symm⟩
theorem Fv:∀(l:List X6) (u:X6) (f:X6->X6),(l++[u]).modify l.length f=l++[f u]
 |[],u,f=>by simp
 |v::l,u,f=>by rw[qK2,qD3,List.modify_succ_cons,Fv l u f,qK2]
theorem tN{c:Prop}[Decidable c]{n:Nat}(h:1<n):(if c then n - 2 - 1 else n - 2)+1<n:=by split<;>omega
section
variable {prog:yZ}{w:jG}{A:jF}{E:yL}{s:yQ}{κ:v6}{lt:yW->yW->Bool}{G:yW->Prop}
abbrev Xh(a:v6)(rs:Rn)(ZJ:yI)(g:Nat):SortSt:=SS a (Zt rs++ZJ) (YN 0 rs) g
end
section
variable {prog:yZ}{w:jG}{A:jF}{E:yL}{s:yQ}{κ:v6}{lt:yW->yW->Bool}{G:yW->Prop}
theorem Fu{ZJ:yI}(y:Yp lt)(u:YU prog w A s κ lt G)(p:∀x∈Zt rs++ZJ,G x)(e:Yg lt rs)(hi:i+1<rs.length)
  (h:∀d g',Yg lt d->(Zt d).Perm (Zt rs)->d.length+1=rs.length->Q Z7 (Xh κ d ZJ g')):wpS (yV prog w) A E s (mergeAt' i) Q (Xh κ rs ZJ g):=by
 obtain⟨a,⟨X,c⟩,⟨Y,q⟩,r2,rfl,rfl⟩:=tO hi;have f:(X,c)∈a++(X,c)::(Y,q)::r2:=by simp
 have o:(Y,q)∈a++(X,c)::(Y,q)::r2:=by simp
 have n:Zt (a++(X,c)::(Y,q)::r2)++ZJ=Zt a++(X++(Y++(Zt r2++ZJ))):=by rw[Ux,Zt,Zt];simp
 have v:YN 0 (a++(X,c)::(Y,q)::r2)=YN 0 a++((Zt a).length,X.length,c)::((Zt a).length+X.length,Y.length,q)::YN ((Zt a).length+X.length+Y.length) r2:=by rw[TN,YN,YN];simp
 have k:Xh κ (a++(X,c)::(Y,q)::r2) ZJ g=SS κ (Zt a++(X++(Y++(Zt r2++ZJ)))) (YN 0 a++((Zt a).length,X.length,c)::((Zt a).length+X.length,Y.length,q)::YN ((Zt a).length+X.length+Y.length) r2) g:=by unfold Xh;rw[n,v]
 rw[k];rw[n]at p;refine tV y u p (e.s _ f) (e.s _ o) (e.p _ f) (e.p _ o) rfl (RJ ..).symm λZZ g' j=>?_;have t:=j.pm.length_eq;rw[qC2]at t;have b:=h (a++(ZZ,c)::r2) g' ⟨λr b=>?_,λr b=>?_⟩ ?_ (by simp;lia)
 .have l:Zt (a++(ZZ,c)::r2)++ZJ=Zt a++(ZZ++(Zt r2++ZJ)):=by rw[Ux,Zt];simp
  have m:YN 0 (a++(ZZ,c)::r2)=YN 0 a++((Zt a).length,X.length+Y.length,c)::YN ((Zt a).length+X.length+Y.length) r2:=by rw[TN,YN];simp only[qO4];rw[t,Nat.add_assoc]
  unfold Xh at b;rw[l,m]at b;exact b
 .rcases qC0.mp b with b|b
  .exact e.s r (by simp[b])
  .rcases qB0.mp b with rfl|b
   .exact j.so
   .exact e.s r (by simp[b])
 .rcases qC0.mp b with b|b
  .exact e.p r (by simp[b])
  .rcases qB0.mp b with rfl|b
   .have:=e.p _ f;show 0<ZZ.length;simp at this;lia
   .exact e.p r (by simp[b])
 .rw[Ux,Ux,Zt,Zt,Zt];refine(List.Perm.refl _).append ?_;rw[<- qC3];exact j.pm.append (List.Perm.refl _)
theorem tM{i:Nat}(h:i<rs.length):∃o,(YN 0 rs).toArray[i]?=Z9 (o,rs[i].1.length,rs[i].2):=by
 have e:rs=rs.take i++rs[i]::rs.drop (i+1):=by rw[<- qF5,qD1]
 refine⟨(Zt (rs.take i)).length,?_⟩;rw[qD8]
 conv=>lhs;rw[e]
 rw[TN,qA1 (by rw[RJ,qF7];exact Nat.min_le_left ..),RJ,YN];simp[qQ8 (qH5 h)]
def Ob(n lo k:Nat):StateT jJ Sem (ForInStep (Option Unit×Nat)):=get >>= λa=>match (vQ a).back? with
 | some (d,n1,_)=>(forIn [:n] ((Z8,()):Option Unit×Unit) λ_ _=>get >>= λa=>match (if(vQ a).size>1 then(vQ a)[(vQ a).size - 2]? else Z8)with
   |some (_,_,older)=>if older<=power' n (2*d+n1) (2*d+n1+n1+k) n then pure (ForInStep.done (Z8,()))else mergeAt' ((vQ a).size - 2) >>= λb=>if(!b)=Z7 then pure (ForInStep.done (Z9 (),()))else pure (ForInStep.yield (Z8,()))
   | _=>pure (ForInStep.done (Z8,()))) >>= λc=>match c.1 with
   |some r=>pure (ForInStep.done (Z9 r,lo))
   |none=>(modify λs=>gM s ((vQ s).modify ((vQ s).size - 1) λx=>(x.1,x.2.1,power' n (2*d+n1) (2*d+n1+n1+k) n))) >>= λ_=>(modify λs=>gM s ((vQ s).push (lo,k,0))) >>= λ_=>pure (ForInStep.yield (Z8,lo+k))
 |_=>(modify λs=>gM s ((vQ s).push (lo,k,0))) >>= λ_=>pure (ForInStep.yield (Z8,lo+k))
theorem Ft{Q:α->jJ->Prop}{st:jJ}(e:m=m')(h:wpS (yV prog w) A E s m' Q st):wpS (yV prog w) A E s m Q st:=e▸h
theorem Fs{M V:yI}(S:Yp lt)(L:YU prog w A s κ lt G)(K:∀x∈Zt rs++(M++V),G x)(B:Yg lt rs)
  (h:∀a g',Yg lt a->(Zt a).Perm (Zt rs)->P (.yield (Z8,(Zt rs).length+M.length)) (SS κ (Zt a++(M++V)) (YN 0 a++[((Zt rs).length,M.length,0)]) g')):wpS (yV prog w) A E s (Ob n (Zt rs).length M.length) P (Xh κ rs (M++V) g):=by
 unfold Ob;refine yU (f9 ?_);by_cases m:rs=[]
 .subst m;exact yU (wO (y4 (h [] g B (.refl _))))
 obtain⟨T,y,e⟩:=Fw m;have N:(vQ (Xh κ rs (M++V) g)).back?=Z9 ((Zt T).length,y.1.length,y.2):=by show(YN 0 rs).toArray.back?=_;rw[e,TN,YN,YN];simp
 rw[N];refine yU (vP (jY (I:=λ_ c f=>c=(Z8,())/\∃a g',f=Xh κ a (M++V) g'/\Yg lt a/\(Zt a).Perm (Zt rs)/\a≠[])
  (Q:=λc f=>c=(Z8,())/\∃a g',f=Xh κ a (M++V) g'/\Yg lt a/\(Zt a).Perm (Zt rs)/\a≠[]) ?_ (λc f h=>h) ⟨rfl,rs,g,rfl,B,.refl _,m⟩) ?_)
 .rintro i c f _ _ ⟨rfl,a,g',rfl,b,d,l⟩;refine yU (f9 ?_);have H:(vQ (Xh κ a (M++V) g')).size=a.length:=qB2.trans (RJ ..);rw[H];by_cases z:a.length>1
  .rw[if_pos z];obtain⟨o,F⟩:=tM (rs:=a) (i:=a.length - 2) (by lia);rw[show(vQ (Xh κ a (M++V) g'))[a.length - 2]?=_ from F];dsimp only;split
   .exact y4 ⟨rfl,a,g',rfl,b,d,l⟩
   .refine yU (Fu S L (λx J=>K x (((d.append (List.Perm.refl _)).mem_iff).mp J)) b (by lia) λt D u v p=>?_);exact y4 ⟨rfl,t,D,rfl,u,v.trans d,λe=>by subst e;simp at p;lia⟩
  .rw[if_neg z];exact y4 ⟨rfl,a,g',rfl,b,d,l⟩
 .rintro c f ⟨rfl,a,g',rfl,b,d,l⟩;obtain⟨j,⟨Y,q⟩,rfl⟩:=Fw l;refine yU (wO (yU (wO (y4 ?_))));generalize power' n _ _ n=pw;have O:(YN 0 (j++[(Y,q)])).toArray.modify ((YN 0 (j++[(Y,q)])).toArray.size - 1) (λx=>(x.1,x.2.1,pw))=(YN 0 (j++[(Y,pw)])).toArray:=by apply dP;rw[TN,TN,YN,YN,YN,YN];simp[Fv]
  have R:gM (Xh κ (j++[(Y,q)]) (M++V) g') ((YN 0 (j++[(Y,q)])).toArray.modify ((YN 0 (j++[(Y,q)])).toArray.size - 1) (λx=>(x.1,x.2.1,pw)))=Xh κ (j++[(Y,pw)]) (M++V) g':=by rw[O];unfold Xh;rw[Ux,Ux];rfl
  have:=h (j++[(Y,pw)]) g' ⟨λr k=>?_,λr k=>?_⟩ (by rw[Ux]at d ⊢;exact d)
  .show P _ ((λC=>gM C ((vQ C).push ((Zt rs).length,M.length,0))) (gM (Xh κ (j++[(Y,q)]) (M++V) g') ((YN 0 (j++[(Y,q)])).toArray.modify ((YN 0 (j++[(Y,q)])).toArray.size - 1) (λx=>(x.1,x.2.1,pw)))));rw[R];show P _ (SortSt.mk' κ _ ((YN 0 (j++[(Y,pw)])).toArray.push _) _ _);rw[List.push_toArray];exact this
  .rcases qC0.mp k with k|k
   .exact b.s r (by simp[k])
   .rw[qB6.mp k];exact b.s (Y,q) (by simp)
  .rcases qC0.mp k with k|k
   .exact b.p r (by simp[k])
   .rw[qB6.mp k];exact b.p (Y,q) (by simp)
theorem Fq(K:Yp lt)(F:YU prog w A s κ lt G)(gl:∀x∈l,G x)(h0:0<l.length)
  (h:∀C f,uM f=C.toArray->uG f=Z8->C.Perm l->Zc lt C->Q () f):wpS (yV prog w) A E s sortRuns' Q (SS κ l [] 7):=by
 rw[sortRuns'_eq];refine yU (f9 ?_);dsimp only;rw[show l.toArray.size=l.length from rfl];generalize minRun' l.length l.length 0=mr;have H:∀{C:yI},C.Perm l->∀x∈C,G x:=λZ x U=>gl x (Z.mem_iff.mp U);refine yU (vP (jY
  (I:=λx c f=>∃rs post g,c=(Z8,(Zt rs).length)/\f=Xh κ rs post g/\(Zt rs++post).Perm l/\Yg lt rs/\(x<=(Zt rs).length))
  (Q:=λc f=>∃rs g,c=(Z8,l.length)/\f=Xh κ rs [] g/\(Zt rs).Perm l/\Yg lt rs) ?_ ?_ ⟨[],l,7,rfl,rfl,.refl _,⟨λr m=>(by cases m),λr m=>(by cases m)⟩,qE6 _⟩) ?_)
 .rintro x c f _ U ⟨rs,post,g,rfl,rfl,o,t,Z⟩;have X:=o.length_eq;rw[qC2]at X;by_cases D:(Zt rs).length≥l.length
  .rw[if_pos D];have e:post=[]:=qF0.mp (by lia);subst e;refine y4 ⟨rs,g,by rw[show(Zt rs).length=l.length by lia],rfl,by simpa using o,t⟩
  rw[if_neg D];refine yU (tR K F (H o) rfl (by lia) (by lia) λN W v P M=>?_);dsimp only;have lN:=v.length_eq;rw[qC2]at lN;have u:∀{N W:yI}{d:Rn}{n:Nat},(N++W).Perm post->0<N.length->Zc lt N->Yg lt d->(Zt d).Perm (Zt rs)->∃k p T,((Z8,(Zt rs).length+N.length):Option Unit×Nat)=(Z8,(Zt k).length)/\SS κ (Zt d++(N++W)) (YN 0 d++[((Zt rs).length,N.length,0)]) n=Xh κ k p T/\(Zt k++p).Perm l/\Yg lt k/\x+1<=(Zt k).length:=by
   intro N W d n v P M j i;have L:Zt (d++[(N,0)])=Zt d++N:=by rw[Ux,Zt,Zt,qI1]
   refine⟨d++[(N,0)],W,n,?_,?_,?_,⟨λr m=>?_,λr m=>?_⟩,?_⟩
   .rw[L,qC2,i.length_eq]
   .unfold Xh;rw[L,TN,YN,YN,qC3,qO4,i.length_eq]
   .rw[L,qC3];exact(i.append v).trans o
   .rcases qC0.mp m with m|m
    .exact j.s r m
    .rw[qB6.mp m];exact M
   .rcases qC0.mp m with m|m
    .exact j.p r m
    .rw[qB6.mp m];exact P
   .rw[L,qC2,i.length_eq];lia
  by_cases J:N.length<mr
  .rw[if_pos J];refine yU (gL (vM ⟨rfl,?_⟩));have eW:Zt rs++(N++W)=Zt rs++(N++(W.take (min (l.length - (Zt rs).length) mr - N.length)++W.drop (min (l.length - (Zt rs).length) mr - N.length))):=by rw[qD1]
   have gW:=H (((List.Perm.refl _).append v).trans o);rw[eW]at gW ⊢;refine yU (tP K F gW rfl (by simp;lia) rfl P M λO z Y=>?_);have V:min (l.length - (Zt rs).length) mr=O.length:=by rw[z.length_eq];simp;lia
   have y:(O++W.drop (min (l.length - (Zt rs).length) mr - N.length)).Perm post:=by refine List.Perm.trans (z.append (List.Perm.refl _)) ?_;rw[qC3,qD1];exact v
   have hN2:0<O.length:=by rw[z.length_eq];simp;lia
   rw[V]at y ⊢;exact Ft (m':=Ob l.length (Zt rs).length O.length) (by kernel_rfl) (Fs K F (H (((List.Perm.refl _).append y).trans o)) t λd n a b=>u y hN2 Y a b)
  .rw[if_neg J];exact Ft (m':=Ob l.length (Zt rs).length N.length) (by kernel_rfl) (Fs K F (H (((List.Perm.refl _).append v).trans o)) t λd n a b=>u v P M a b)
 .rintro c f ⟨rs,post,g,rfl,rfl,o,t,Z⟩;have X:=o.length_eq;rw[qC2]at X;have e:post=[]:=qF0.mp (by lia);subst e;exact⟨rs,g,by rw[show(Zt rs).length=l.length by lia],rfl,by simpa using o,t⟩
 rintro c f ⟨rs,g,rfl,rfl,o,t⟩;have l1:=t.len;rw[o.length_eq]at l1;refine yU (vP (jY (I:=λx c f=>c=(Z8,())/\∃d n,f=Xh κ d [] n/\Yg lt d/\(Zt d).Perm l/\d.length+x<=l.length+1)
  (Q:=λc f=>c=(Z8,())/\∃d n,f=Xh κ d [] n/\Yg lt d/\(Zt d).Perm l/\d.length<=1) ?_ ?_ ⟨rfl,rs,g,rfl,t,o,by lia⟩) ?_)
 .rintro x c f _ U ⟨rfl,d,n,rfl,j,i,B⟩;refine yU (f9 ?_);have es:(YN 0 d).toArray.size=d.length:=qB2.trans (RJ ..);rw[es];by_cases S:d.length<=1
  .rw[if_pos S];exact y4 ⟨rfl,d,n,rfl,j,i,S⟩
  .rw[if_neg S];refine yU (Fu K F (H (by simpa using i)) j (tN (by lia)) λk T hg2 hp2 hl2=>?_);exact y4 ⟨rfl,k,T,rfl,hg2,hp2.trans i,by lia⟩
 .rintro c f ⟨rfl,d,n,rfl,j,i,B⟩;exact⟨rfl,d,n,rfl,j,i,by lia⟩
 .rintro c f ⟨rfl,d,n,rfl,j,i,B⟩
  match d,B with
  |[],_ =>
   have:=i.length_eq;simp[Zt]at this
   lia
  |[(R,q)],_ =>
   have hf:Zt [(R,q)]=R:=by simp[Zt]
   refine y4 (h R _ ?_ rfl (by rw[hf]at i;exact i) (j.s (R,q) (qJ9 _)));show(Zt [(R,q)]++[]).toArray=_;rw[hf,qI1]
end
theorem Lm:∀(x y:yA),HT.lexLt x y=Z7->HT.lexLt y x=Z5
 |[],[],h=>by cases h
 |[],_::_,_=>rfl
 |_::_,[],h=>by cases h
 |a::x,b::y,h=>by
  rw[HT.lexLt_cons]at h ⊢;by_cases e:a=b
  .subst e;rw[if_pos rfl]at h ⊢;exact Lm x y h
  .rw[if_neg e]at h;rw[if_neg (λq=>e q.symm)];have:=of_decide_eq_true h;exact decide_eq_false (by lia)
theorem Ll:∀(x y z:yA),HT.lexLt y x=Z5->HT.lexLt z y=Z5->HT.lexLt z x=Z5
 |[],y,z,h,k=>by
  cases z with
  |nil=>rfl
  |cons c z=>rfl
 |a::x,[],z,h,k=>by cases h
 |a::x,b::y,[],h,k=>by cases k
 |a::x,b::y,c::z,h,k=>by
  rw[HT.lexLt_cons]at h k ⊢;by_cases e:b=a
  .subst e;rw[if_pos rfl]at h;by_cases d:c=b
   .subst d;rw[if_pos rfl]at k ⊢;exact Ll x y z h k
   .rw[if_neg d]at k ⊢;exact k
  .rw[if_neg e]at h;have g:=of_decide_eq_false h;by_cases d:c=b
   .subst d;rw[if_neg e];exact h
   .rw[if_neg d]at k;have f:=of_decide_eq_false k;rw[if_neg (by omega)];exact decide_eq_false (by omega)
theorem Fp:∀(x y:yA),HT.lexLt y x=Z5->HT.lexLt x y=Z5->x=y
 |[],[],_,_=>rfl
 |[],_::_,_,k=>by cases k
 |_::_,[],h,_=>by cases h
 |a::x,b::y,h,k=>by
  rw[HT.lexLt_cons]at h k;by_cases e:a=b
  .subst e;rw[if_pos rfl]at h k;rw[Fp x y h k]
  .rw[if_neg e]at k;rw[if_neg (λq=>e q.symm)]at h;have:=of_decide_eq_false h;have:=of_decide_eq_false k
   lia
def Uw(h:jH):yT->yA
 |.ref a=>match h.get? a with
  |some o=>match o.data with
   |.seq b _=>b.toList.map uH
   |_=>[]
  |none=>[]
 |_=>[]
def Yf(h:jH)(v:yT)(c:yA):Prop:=∃a b,v=.ref a/\dR h a b/\vI b.toList c
theorem Yf.kd(x:Yf h v ns):Uw h v=ns:=by obtain⟨a,d,rfl,⟨o,b,f,n,e⟩,c⟩:=x;show(match h.get? a with|some o=>_|none=>_)=_;rw[b];show(match o.data with|.seq g _=>_|_=>_)=_;rw[e];exact c.nums
theorem Yf.mono(x:Yf h v ns)(k:∀b o,o.cls=.type "tuple"->h.get? b=Z9 o->h'.get? b=Z9 o):Yf h' v ns:=by obtain⟨a,c,rfl,⟨o,e,d,n,g⟩,f⟩:=x;exact⟨a,c,rfl,⟨o,k a o d e,d,n,g⟩,f⟩
def Qs(h:jH)(x y:yW):Bool:=HT.lexLt (Uw h x.1) (Uw h y.1)
theorem tL(h:jH):Yp (Qs h):=⟨λx y=>Lm _ _,λx y z=>Ll _ _ _⟩
section
variable {prog:yZ}{w:jG}{A:jF}{E:yL}{s:yQ}
theorem tK{b:Bool}{d c:Nat}{Q:Bool->yQ->Prop}{l:yB}{k:yA}(o:vI l k):∀{j:yB}{f:yA} (i:Nat),vI j f->k.length+c=f.length+d ->
  Q (HT.lexLt k f) s->W.KatLex prog w A b (decide (d<c)) Q (l.zip j) i s:=by
 induction o with
 |nil =>
  intro j f i a g h;refine W.kat_nil ?_;cases a with
  |nil=>rw[show decide (d<c)=Z5 from decide_eq_false (by lia)];exact h
  |cons m u a=>rw[show decide (d<c)=Z7 from decide_eq_true (by simp at g;lia)];exact h
 |cons n t o p =>
  intro j f i a g h;cases a with
  |nil =>
   rw[show decide (d<c)=Z5 from decide_eq_false (by simp at g;lia)];exact h
  |cons m u a =>
   refine W.kat_cons (wpAny_eqBool_int ?_);rw[HT.lexLt_cons]at h;by_cases e:n=m
   .subst e;rw[if_pos rfl]at h;rw[show(n == n)=Z7 by simp];exact W.kat_yes (p (i+1) a (by simp at g;lia) h)
   .rw[if_neg e]at h;rw[show(n == m)=Z5 by simpa using e];refine W.kat_no ?_;cases q:(b&&i == 0)with
    |true=>exact oneLt_int h
    |false=>exact W.kat_one _ _ (dD h)
theorem tJ(hk:k=tuples' Z7∨k=general'∨k=oneType')(B:A.units<vN):YU prog w A s k (Qs s.heap) (λx=>∃p,Yf s.heap x.1 p):=by
 rintro⟨x,M⟩ ⟨y,N⟩ ⟨p,z⟩ ⟨L,v⟩ Q f;unfold Qs at f;rw[z.kd,v.kd]at f;obtain⟨a,t,u,⟨o,g,r,n,j⟩,h⟩:=z;obtain⟨b,m,G,⟨D,e,d,F,c⟩,i⟩:=v;dsimp only at u G f ⊢;subst u G;rcases hk with rfl|rfl|rfl
 .refine W.kat_lt g j e c (tK h 0 i ?_ f);rw[<- h.length,<- i.length];simp;lia
 .exact W.kat_one _ _ (HT.lt_tupInts ⟨o,g,r,n,j⟩ ⟨D,e,d,F,c⟩ h i B f)
 .rw[keyLt'_oneType,oneLt'_eq];refine yO (wpAny_cRoomFor B ?_);obtain⟨K,I,C,J⟩:=o;obtain⟨H,q,data2,l⟩:=D;simp only at r j d c;subst r j d c;refine yO (wpAny_callSpecialIfBound?_slot ⟨_,g,rfl⟩ fK (fO fK ⟨_,g,rfl⟩ lU (lJ _ _) (HT.tuple_lt_ints a b t m n F I q J l p L h i) ⟨g,e,?_⟩));exact jU f
theorem Fo:∀(d:yB),(∀v∈d,∃i,Yf s.heap v i)->∃fs:List (yF),fs.length=d.length/\(∀f∈fs,∀v,f=Z9 v->∃n t,v=.int n t)/\∀{M:Model}{A:jF}{E:yL}{Q:List (yF)->yQ->Prop},Q fs s->y7 M A (d.mapM firstOfTuple') Q E s
 |[],_=>⟨[],rfl,λf b=>(by cases b),λh=>by rw[List.mapM_nil];exact yP h⟩
 |v::d,hv=>by
  obtain⟨fs,j,l,r⟩:=Fo d λu p=>hv u (qC5 _ p);obtain⟨i,a,c,rfl,⟨o,g,m,n,q⟩,k⟩:=hv v (qE3 ..);refine⟨c[0]?::fs,by simp[j],λf b v e=>?_,λ{M A E Q} h=>?_⟩
  .rcases qB0.mp b with rfl|b
   .have:v∈c.toList:=by rw[<- y8]at e;exact qB5 e
    exact k.all v this
   .exact l f b v e
  .rw[qI7];refine yO ?_;rw[W.kas_first_eq];refine yO (j9 (T := "tuple") ⟨o,g,m⟩ ?_);rw[if_neg (by first|decide|simp)];refine yO (gA g q (yP ?_));exact yO (r (yP h))
theorem tI{j:yB}(i:∀v∈j,∃u,Yf s.heap v u)(k:0<j.length)(h:∀m,(m=tuples' Z7∨m=general'∨m=oneType')->Q m s):
  y7 (yV prog w) A (keyKind' j.toArray) Q E s:=by
 obtain⟨fs,z,F,I⟩:=Fo (s:=s) j i;rw[PyProof.Rows.kat_kind_eq,qP5,map_eq_pure_bind];refine yO (yO (I (yP ?_)));by_cases g:(fs.toArray.all λx=>x.isSome)=Z7
 .rw[if_pos g];refine yO (vM ?_);have H:∀v∈fs.filterMap id,∃n t,v=.int n t:=λv i=>by obtain⟨f,C,e⟩:=qL9.mp i;exact F f C v e
  have y:0<(fs.filterMap id).length:=by
   cases fs with
   |nil=>simp at z;lia
   |cons f fs =>
    cases f with
    |none=>simp at g
    |some v=>simp
  have p:fs.toArray.filterMap id=(fs.filterMap id).toArray:=by simp
  rw[p,oneTypeOnly'_eq,qP5,map_eq_pure_bind];refine yO (yO (yO (W.kas_mapM (r:=Value.type "int") _ (λv i D l=>?_) (yP ?_))))
  .obtain⟨n,t,rfl⟩:=H v i;exact yP l
  .obtain⟨c,fr,e⟩:∃c fr,fs.filterMap id=c::fr:=by
    cases l:fs.filterMap id with
    |nil=>rw[l]at y;simp at y
    |cons a b=>exact⟨a,b,rfl⟩
   rw[e];have k:(qS1 (λ_=>Value.type "int") (c::fr)).toArray[0]?=Z9 (Value.type "int"):=by simp
   have d:((qS1 (λ_=>Value.type "int") (c::fr)).toArray.all λx=>x == Value.type "int")=Z7:=by simp only[qU2,qO3,qD5];intro _ _;rfl
   rw[k];simp only[d,if_true];exact yP (yP (h _ (.inl rfl)))
 .rw[if_neg g];split
  .exact yP (h _ (.inr (.inl rfl)))
  .rw[oneTypeOnly'_eq,qP5,map_eq_pure_bind];refine yO (yO (yO (W.kas_mapM (r:=Value.type "tuple") _ (λv q D l=>?_) (yP ?_))))
   .obtain⟨u,a,J,rfl,⟨o,B,G,n,L⟩,K⟩:=i v q;exact j9 (T := "tuple") ⟨o,B,G⟩ l
   .obtain⟨c,fr,rfl⟩:∃c fr,j=c::fr:=by
     cases j with
     |nil=>simp at k
     |cons a b=>exact⟨a,b,rfl⟩
    have k:(qS1 (λ_=>Value.type "tuple") (c::fr)).toArray[0]?=Z9 (Value.type "tuple"):=by simp
    have d:((qS1 (λ_=>Value.type "tuple") (c::fr)).toArray.all λx=>x == Value.type "tuple")=Z7:=by simp only[qU2,qO3,qD5];intro _ _;rfl
    rw[k];simp only[d,if_true];exact yP (yP (h _ (.inr (.inr rfl))))
abbrev Vm(_:Nat):Prop:=True
theorem Fn{vs:yB}(i:s.heap.get? a=Z9 (j8 "list" vs.toArray n))(J:∀v∈vs,∃ns,Yf s.heap v ns)(hz:vs.length<=jC)(N:Vm vs.length)(U:A.units<vN)
  (h:∀out:yB,out.Perm vs->out.Pairwise (λx y=>HT.lexLt (Uw s.heap y) (Uw s.heap x)=Z5)->P (.done (.ret .none)) { s with heap:=sortedHeap s.heap a vs out.toArray }) :
  y7 (yV prog w) A (Builtin.«list.sort» ⟨[.ref a],[]⟩) P E s:=by
 rw[list_sort_plain];have M:a<s.heap.objs.size:=qB3 i;refine yO (gA i rfl ?_);refine yO (wJ i rfl ?_ (by rw[qB2];exact hz) (qE6 _));obtain⟨r,j⟩:∃r,(s.heap.update a (vA λ_=>#[])).get? a=Z9 (j8 "list" #[] r):=⟨_,mI i (λ_=>#[])⟩
 refine yO (fV j rfl ?_);refine yO (gF ?_ hz);refine yO (wI ?_ (qE6 _));refine jM ?_;obtain⟨h6,p⟩:∃h6,((s.heap.update a (vA λ_=>#[])).push (j8 "tuple" vs.toArray 0)).push (j8 "list" #[] 0)=h6:=⟨_,rfl⟩
 have d:h6.get? a=Z9 (j8 "list" #[] r):=by rw[<- p,qL0 _ _ _ (by rw[wY,qN4];exact qB7 (qE9 M)),qL0 _ _ _ (by rw[qN4];exact qB7 M)];exact j
 have kp:∀b o,o.cls=.type "tuple"->s.heap.get? b=Z9 o->h6.get? b=Z9 o:=λb o T q=>by
  have N:b≠a:=λe=>by subst e;rw[i]at q;cases q;exact absurd (Value.type.inj T) (by decide)
  rw[<- p];exact qA3 _ (qA3 _ ((qF3 _ _ (Ne.symm N)).trans q))
 show y7 (yV prog w) A _ P E { s with heap:=((s.heap.update a (vA λ_=>#[])).push (j8 "tuple" vs.toArray 0)).push (j8 "list" #[] 0) };rw[p];dsimp only;have m:∀v∈vs,∃ns,Yf h6 v ns:=λv D=>let ⟨ns,x⟩:=J v D;⟨ns,x.mono kp⟩
 have k:∀v∈vs,Uw h6 v=Uw s.heap v:=λv D=>by obtain⟨ns,x⟩:=J v D;rw[x.kd,(x.mono kp).kd]
 have fin:∀out:yB,out.Perm vs->out.Pairwise (λx y=>HT.lexLt (Uw s.heap y) (Uw s.heap x)=Z5)->P (.done (.ret .none)) { s with heap:=h6.update a (vA λ_=>out.toArray) }:=λout H G=>by rw[<- p];exact h out H G
 have C:vs.toArray.size=vs.length:=by simp
 by_cases h2:vs.toArray.size<2
 .rw[if_pos h2,if_pos h2];refine yO (yP ?_);rw[StateT.run_pure];refine yO (yP ?_);dsimp only;refine yO (fV d rfl ?_);have t:((vs.toArray.zip vs.toArray).map (·.2))=vs.toArray:=by apply dP;simp;exact qN5 (qA7 _)
  rw[t];refine yO (wJ d rfl ?_ (hsz2:=by rw[qB2];lia));simp only[bne_self_eq_false,qM0,if_false];refine yP (fin vs (.refl _) ?_)
  match vs,C,h2 with
  |[],_,_=>exact .nil
  |[v],_,_=>exact qE7 ..
  |_::_::_,hs,h2=>exact absurd h2 (by simp)
 .rw[if_neg h2,if_neg h2];refine yO (tI (s:={ s with heap:=h6 }) m (by lia) fun X B=>?_);have V:vs.toArray.zip vs.toArray=(vs.zip vs).toArray:=by simp
  rw[V];refine yO (jS (Fq (l:=vs.zip vs) (s:={ s with heap:=h6 }) (Q:=λ_ c=>∃f,uM c=f.toArray/\uG c=Z8/\f.Perm (vs.zip vs)/\Zc (Qs h6) f) (tL h6) (tJ (s:={ s with heap:=h6 }) B U) (λx z=>m _ (fI z).2) (by simp;lia)
   λf c H G O W=>⟨f,H,G,O,W⟩) ?_ λ_ _ e=>e)
  rintro⟨⟨⟩,c⟩ Y ⟨rfl,f,u,S,F,hs⟩;dsimp only;refine yO (fV d rfl ?_);have t:(uM c).map (·.2)=(f.map (·.2)).toArray:=by rw[u];simp
  have I:(f.map (·.2)).Perm vs:=by have:=F.map (·.2);rwa[qN5 (qA7 _)]at this
  rw[t];refine yO (wJ d rfl ?_ (hsz2:=by rw[qB2,I.length_eq];lia));rw[S];simp only[bne_self_eq_false,qM0,if_false];refine yP (fin _ I ?_);rw[qH0];refine hs.imp_of_mem λ{x y} z R g=>?_;have K:=fI (F.mem_iff.mp z);have L:=fI (F.mem_iff.mp R);unfold Qs at g;rw[k _ K.2,k _ L.2]at g;rw[<- K.1,<- L.1];exact g
end
section
variable {prog:yZ}{w:jG}{A:jF}{E:yL}{s:yQ}{r:yR}
theorem Lk{Q:yB->yQ->Prop}(c:s.heap.get? l=Z9 o)(d:o.cls=.type T)(g:o.data=.seq a.toArray n)(e:T = "list"∨T = "tuple")
  (h:Q a { s with heap:=(s.heap.push (j8 "list" #[] 0)).update s.heap.objs.size (vA (·++a.toArray)) }) (f:a.length<=jC) :
  y7 (yV prog w) A (uF (.ref l)) Q E s:=by
 refine yO (m5 (vC m6 ?_));refine yO (wI (yP ⟨Code.quiet_builtin _ (by decide),vC entry_list_iadd' ?_⟩) (qE6 _));show y7 _ _ (Builtin.List.listExtendWith (.ref s.heap.objs.size) (.ref l) (.ref s.heap.objs.size)) _ _ { s with heap:=s.heap.push (j8 "list" #[] 0) };have b:(s.heap.push (j8 "list" #[] 0)).get? l=Z9 o:=qA3 _ c;refine yO (j9 ⟨o,b,d⟩ ?_);have ht:(Builtin.List.listSameRef (.ref s.heap.objs.size) (.ref l)||Value.type T == Value.type "list"||Value.type T == Value.type "tuple")=Z7:=by
  rcases e with rfl|rfl
  .simp_all
  .simp_all
 rw[if_pos ht];refine yO (gA b g ?_);refine yO (gA (qA9 _ rfl) rfl ?_);refine yO (wJ (qA9 _ rfl) rfl ?_ (qE6 _) (by simp only[fH,qB2,qN9];lia));refine yP ?_;refine yO (lS (mI (qA9 _ rfl) _) ?_);show y7 _ _ (pure ((#[])++a.toArray).toList) Q E _;rw[show((#[]:yJ)++a.toArray).toList=a by simp];exact yP h
theorem Lj(h:jH)(a:yB):∀b o,h.get? b=Z9 o->((h.push (j8 "list" #[] 0)).update h.objs.size (vA (·++a.toArray))).get? b=Z9 o:=λb o g=>by rw[Heap.get?_update_ne _ _ _ _ (qB7 (qB3 g))];exact qA3 _ g
theorem Fm{α k:Type}(f:α->k){m n:List k}(h:m.Perm n):∀l:List α,n=l.map f->∃g:List α,g.Perm l/\m=g.map f:=by
 induction h with
 |nil=>intro l e;exact⟨[],by cases l with|nil=>exact .refl _|cons _ _=>simp at e,rfl⟩
 |cons x p o =>
  intro l e;cases l with
  |nil=>simp at e
  |cons a l =>
   injection e with d c;obtain⟨g,u,q⟩:=o l c;exact⟨a::g,u.cons a,by rw[qB8,d,q]⟩
 |swap x y l =>
  intro l e
  match l,e with
  |[],e=>simp at e
  |[_],e=>simp at e
  |a::b::l,e =>
   injection e with d c;injection c with c e3;exact⟨b::a::l,.swap a b l,by simp[d,c,e3]⟩
 |trans p q i j =>
  intro l e;obtain⟨v,t,d⟩:=j l e;obtain⟨B,z,c⟩:=i v d;exact⟨B,z.trans t,c⟩
abbrev Vl(a:List (yR×yA)):Prop:=a.Pairwise λx y=>HT.lexLt y.2 x.2=Z5
theorem tH{Q:yL}(p:a.length<=jC)(F:Vm a.length)(D:∀t∈a,Yf s.heap (.ref t.1) t.2)(I:A.units+2<vN)
  (C:∀(A:jF) (E:yL) (R:yB->yQ->Prop),A.handled=Z8->(∀(h':jH) (tk:Nat) (dr:mR),(∀b o,s.heap.get? b=Z9 o->h'.get? b=Z9 o)->R (a.map λt=>.ref t.1) { s with heap:=h',toks:=tk,drawn:=dr })->y7 (yV prog w) A (uF (.ref r)) R E s)
  (B:A.handled=Z8)
  (h:∀(i:jH) (l:yR) (h':jH) (tk:Nat) (dr:mR) (e:Nat) (d:List (yR×yA)),(∀b o,s.heap.get? b=Z9 o->i.get? b=Z9 o)->(∀b o,i.get? b=Z9 o->h'.get? b=Z9 o)->i.objs.size<=l->h'.get? l=Z9 (j8 "list" (d.map λt=>Value.ref t.1).toArray e)->d.Perm a->Vl d->Q (.ref l) { s with heap:=h',toks:=tk,drawn:=dr }) :
  y7 (yV prog w) A (call (.builtin "sorted") [.ref r]) Q E s:=by
 refine v9 mZ mB mC (mD _) ?_;refine yO (yP ?_);refine yO (C _ _ _ B λh' tk dr hk=>?_);have c:(a.map λt=>Value.ref t.1).length=a.length:=by simp
 refine yO (wI ?_ (by rw[c];exact p));have f:(h'.push (j8 "list" (a.map λt=>Value.ref t.1).toArray 0)).get? h'.objs.size=Z9 (j8 "list" (a.map λt=>Value.ref t.1).toArray 0):=qA9 _ rfl;have m:∀t∈a,Yf (h'.push (j8 "list" (a.map λt=>Value.ref t.1).toArray 0)) (.ref t.1) t.2:=λt ht=>(D t ht).mono λb o _ g=>qA3 _ (hk b o g);refine yO (jM (jI gH ⟨_,f,rfl⟩ f6 (Fn f (λv q=>?_) (by rw[c];exact p) (by rw[c];exact F) (by omega) λout G n=>⟨_,rfl,?_⟩) (gJ _)))
 .obtain⟨t,ht,rfl⟩:=qB9.mp q
  grind
 obtain⟨d,k,rfl⟩:=Fm _ G a rfl;obtain⟨e,H⟩:=lG f;refine yP ⟨_,rfl,h h' h'.objs.size _ tk dr e d hk (λb o g=>?_) (qA7 _) H k ?_⟩
 .have lt:=qB3 g;rw[gK (qB7 lt) (by rw[wY];exact qE9 lt)];exact qA3 _ g
 .rw[qH0]at n;refine n.imp_of_mem λ{x y} z u j=>?_;rwa[(m x (k.mem_iff.mp z)).kd,(m y (k.mem_iff.mp u)).kd]at j
end
section
variable {X:Cx}
theorem tG{Z:St}(I:ZP X b Z H s)(h:Zp X.K H a (ns.map V.int)):Yf s.heap (.ref a) ns:=by obtain⟨c,r,p,_⟩:=I.tuple h;exact⟨a,c.toArray,rfl,p,by simpa using SX r⟩
theorem Li:∀{a:List (yR×yA)}{us:yB},ZO (a.map λt=>V.ref t.1) us->us=a.map λt=>Value.ref t.1
 |[],us,r=>by cases r;rfl
 |t::a,us,r=>by
  cases r with
  |cons h r =>
   rw[Li r];cases h;rfl
theorem Lh:∀(a:List (yR×yA)),ZO (a.map λt=>V.ref t.1) (a.map λt=>Value.ref t.1)
 |[]=>.nil
 |t::a=>.cons rfl (Lh a)
theorem tF(F:X.calm=Z7):YB X (.builtin "sorted") (λP H Q=>∃(p:yR) (f:yA),P=[.ref p]/\Zp X.K H p (f.map V.int)/\f.length<64/\∀(l:yR) (d:yA),H l=Z8->d.Perm f->d.Pairwise (·<=·)->Q (.ref l) (ZC H l (.lst (d.map V.int)))):=by
 intro g s Z H U t Q I r h;obtain⟨p,f,rfl,N,y,q⟩:=h;obtain⟨u,rfl,J⟩:=XS r;cases J;obtain⟨m,w,⟨o,z,k,n,L⟩,S⟩:=I.tuple N;have a:=w.length;rw[qA0]at a;refine FS y (λA E R T G=>Lk z k L (.inr rfl) (G _ s.toks s.drawn m f (Lj _ _) (SX w) (.refl _)) (by rw[<- a,vF];lia)) (I.ok.hd F) λD O W c dr e t d k2 C x M B i K=>?_;have v:ZP X g Z H { s with heap:=D,toks:=c,drawn:=dr }:=(I.kept (t':=c) λb o e=>k2 b o e).dr dr;refine⟨.ref O,_,v.laid (t':=c) (o:=.lst (d.map V.int)) C x ?_,rfl,q _ _ (v.hok.fresh x) i K⟩;have j:d.length<64:=by rw[i.length_eq];exact y
 exact⟨by rw[qA0];exact qD4 (qH5 j) (by decide),t,e,RM B,by simpa[j8]using M⟩
theorem tE(z:X.calm=Z7)(B:X.A.units+2<vN):YB X (.builtin "sorted") (λS H Q=>∃(p:yR) (f:List (yR×yA)),S=[.ref p]/\YK X.K H p (f.map λt=>V.ref t.1)/\(∀t∈f,Zp X.K H t.1 (t.2.map V.int))/\Vm f.length /\
  ∀(l:yR) (a:List (yR×yA)),H l=Z8->a.Perm f->Vl a->Q (.ref l) (ZC H l (.lst (a.map λt=>V.ref t.1)))):=by intro d s Z H W T Q I r h;obtain⟨p,f,rfl,N,ht,J,q⟩:=h;obtain⟨u,rfl,F⟩:=XS r;cases F;obtain⟨P,D,⟨o,n,v,i,G,L⟩,g⟩:=I.list N;have K:=Li D;subst K;rw[qA0]at g;refine tH g J (λt h=>tG I (ht t h)) B (λA E R U C=>Lk v i L (.inl rfl) (C _ s.toks s.drawn (Lj _ _)) (by rw[qA0];exact g)) (I.ok.hd z) λy O Y c dr e a k2 x m M k w=>?_;have j:ZP X d Z H { s with heap:=y,toks:=c,drawn:=dr }:=(I.kept (t':=c) λb o e=>k2 b o e).dr dr;refine⟨.ref O,_,j.laid (t':=c) (o:=.lst (a.map λt=>V.ref t.1)) x m ?_,rfl,q _ _ (j.hok.fresh m) k w⟩;exact⟨by rw[qA0,k.length_eq];exact g,_,e,Lh a,by simpa[j8]using M⟩
end
def V9(m:Nat)(p:SetTable.Probe):SetTable.Probe:=(⟨m,#[],#[],0,Z5,0,Z5⟩:jX).advance p
theorem Fl(t:jX)(p:SetTable.Probe):t.advance p=V9 t.mask p:=rfl
def Yo(m:Nat)(h:Int):Nat->Nat×Nat
 |0=>(SetTable.bits h % (m+1),SetTable.bits h)
 |k+1=>SetTable.leap m (Yo m h k).1 (Yo m h k).2
def TM(m:Nat)(x:Nat×Nat):SetTable.Probe:=⟨x.1,SetTable.runEnd m x.1 - x.1,x.1,x.2,Z8⟩
def pr(m:Nat)(h:Int):Nat->SetTable.Probe
 |0=>TM m (Yo m h 0)
 |n+1=>V9 m (pr m h n)
theorem Fk(m:Nat)(h:0<p.more):V9 m p={ p with j:=p.j+1,more:=p.more - 1 }:=by unfold V9 SetTable.advance;rw[if_pos h]
theorem Lg(m:Nat)(h:p.more=0)(a:p.dummy=Z8):V9 m p=TM m (SetTable.leap m p.i p.perturb):=by unfold V9 SetTable.advance TM;rw[if_neg (by lia),a]
theorem Lf(m:Nat)(h:Int)(e:pr m h n=TM m x):∀r,r<=SetTable.runEnd m x.1 - x.1->pr m h (n+r)=⟨x.1+r,SetTable.runEnd m x.1 - x.1 - r,x.1,x.2,Z8⟩
 |0,_=>e
 |r+1,hr=>by
  show V9 m (pr m h (n+r))=_;rw[Lf m h e r (by lia),Fk m (by show 0<_ - r;lia)];have a:x.1+r+1=x.1+(r+1):=by lia
  have b:SetTable.runEnd m x.1 - x.1 - r - 1=SetTable.runEnd m x.1 - x.1 - (r+1):=by lia
  rw[a,b]
theorem tB(m i:Nat):SetTable.runEnd m i - i<=9:=by unfold SetTable.runEnd;split<;>lia
theorem Fj(m:Nat)(h:Int):∀k,∃n,n<=10*k/\pr m h n=TM m (Yo m h k)
 |0=>⟨0,qA7 _,rfl⟩
 |k+1=>by obtain⟨n,a,e⟩:=Fj m h k;have l:=tB m (Yo m h k).1;refine⟨n+(SetTable.runEnd m (Yo m h k).1 - (Yo m h k).1)+1,by lia,?_⟩;show V9 m (pr m h (n+_))=_;rw[Lf m h e _ (qA7 _),Lg m (qH7 _) rfl];rfl
theorem tx(h:Int):SetTable.bits h<18446744073709551616:=by
 unfold SetTable.bits
 lia
theorem Fi(m:Nat)(h:Int):∀k,(Yo m h k).2=SetTable.bits h / 32 ^ k
 |0=>by simp[Yo]
 |k+1=>by show(Yo m h k).2 / 32=_;rw[Fi m h k,Nat.div_div_eq_div_mul,qO5]
theorem tw(m:Nat)(h:Int)(hk:13<=k):(Yo m h k).2=0:=by rw[Fi];refine Nat.div_eq_of_lt (qC1 (tx h) ?_);exact qD4 (by decide) (qG1 (by decide) hk)
def gI(m:Nat):Nat->Nat->Nat
 |0,i=>i
 |r+1,i=>(gI m r i*5+1) % (m+1)
theorem Fh(m:Nat)(h:Int):∀r,(Yo m h (13+r)).1=gI m r (Yo m h 13).1
 |0=>rfl
 |r+1=>by show((Yo m h (13+r)).1*5+1+(Yo m h (13+r)).2 / 32) % (m+1)=_;rw[tw m h (by lia),Fh m h r];rfl
theorem Oa(m r i:Nat):∀q,gI m (q+r) i=gI m q (gI m r i)
 |0=>by rw[qO4];rfl
 |q+1=>by rw[Nat.succ_add];show(gI m (q+r) i*5+1) % (m+1)=(gI m q (gI m r i)*5+1) % (m+1);rw[Oa m r i q]
def Le(m:Nat):Nat->Nat->List Nat
 |0,_=>[]
 |n+1,i=>i::Le m n ((i*5+1) % (m+1))
theorem Fg(m c:Nat):∀(n r:Nat) {s:Nat},s∈Le m n (gI m r c)->∃q,q<n/\gI m (q+r) c=s
 |0,r,s,h=>by cases h
 |n+1,r,s,h=>by
  rcases qB0.mp h with rfl|h
  .exact⟨0,by lia,by rw[qO4]⟩
  .obtain⟨q,a,b⟩:=Fg m c n (r+1) h;exact⟨q+1,by lia,by rw[<- b];congr 1;lia⟩
def Uv(m:Nat):Prop:=gI m (m+1) 0=0/\(List.range (m+1)).all (λs=>(Le m (m+1) 0).contains s)=Z7
theorem Lc:Uv 7:=by unfold Uv;decide
theorem tu:Uv 31:=by unfold Uv;decide
theorem ts:Uv 127:=by unfold Uv;decide
theorem tq:Uv 511:=by unfold Uv;decide
theorem tp(h:Uv m)(hi:i<m+1)(hs:s<m+1):∃r,r<m+1/\gI m r i=s:=by
 have get:∀s,s<m+1->∃q,q<m+1/\gI m q 0=s:=λs hs=>by have:=qD5.mp h.2 s (qC9.mpr hs);obtain⟨q,a,b⟩:=Fg m 0 (m+1) 0 (List.contains_iff_mem.mp this);exact⟨q,a,b⟩
 obtain⟨a,e,c⟩:=get i hi;obtain⟨b,b1,d⟩:=get s hs;by_cases g:a<=b
 .refine⟨b - a,by omega,?_⟩;rw[<- c,<- Oa,show b - a+a=b by omega,d]
 .refine⟨b+(m+1) - a,by omega,?_⟩;rw[<- c,<- Oa,show b+(m+1) - a+a=b+(m+1) by omega,Oa,h.1,d]
theorem Lb(m:Nat)(h:Int):∀k,(Yo m h k).1<m+1
 |0=>qQ3 _ (by lia)
 |k+1=>qQ3 _ (by lia)
def WN(m:Nat):Prop:=m=7∨m=31∨m=127∨m=511
theorem Ff(hm:WN m)(h:Int)(hs:s<=m):∃k,k<=13+m/\(Yo m h k).1=s:=by
 have a:∃r,r<m+1/\gI m r (Yo m h 13).1=s:=by
  have:=Lb m h 13;refine tp ?_ this (by lia);rcases hm with rfl|rfl|rfl|rfl
  .exact Lc
  .exact tu
  .exact ts
  .exact tq
 obtain⟨r,b,e⟩:=a;exact⟨13+r,by lia,by rw[Fh];exact e⟩
theorem tm(hm:WN m)(h:Int)(hs:s<=m):∃n,n<10*(m+15)/\(pr m h n).j=s:=by obtain⟨k,hk,e⟩:=Ff hm h hs;obtain⟨n,b,a⟩:=Fj m h k;exact⟨n,by lia,by rw[a];exact e⟩
theorem tj(m:Nat)(p:SetTable.Probe):(V9 m p).dummy=p.dummy:=by unfold V9 SetTable.advance;split<;>rfl
theorem La(m:Nat)(h:Int):∀n,(pr m h n).dummy=Z8
 |0=>rfl
 |n+1=>by show(V9 m (pr m h n)).dummy=Z8;rw[tj,La m h n]
theorem least{P:Nat->Prop}(n:Nat)(h:P n):∃k,k<=n/\P k/\∀i,i<k->¬P i:=by
 induction n using qQ9 with
 |ind n f =>
  by_cases q:∃i,i<n/\P i
  .obtain⟨i,e,d⟩:=q;obtain⟨k,a,b,c⟩:=f i e d;exact⟨k,by lia,b,c⟩
  .exact⟨n,qA7 _,h,λi e d=>q ⟨i,e,d⟩⟩
section
variable {t:jX}
theorem ti(up:Rs t.place)(h:t.place[i]?=Z9 j):t.slot j=.live i:=by
 have b:=QI up j;obtain⟨b1,a,c⟩:=b;have e:SetTable.below t.place j=i:=by
  rcases qM6 (SetTable.below t.place j) i with l|l|l
  .have d:i<t.place.size:=by
    rcases qK7 i t.place.size with g|g
    .exact g
    .simp_all
   have g:t.place[SetTable.below t.place j]?=Z9 t.place[SetTable.below t.place j]:=jA (by omega);have:=c _ _ g (qA7 _);have:=up.get g h l;omega
  .exact l
  .have:=a _ _ h l;omega
 unfold SetTable.slot;simp only[e,h,beq_self_eq_true,if_true]
theorem sZ(c:t.dummies=#[])(h:∀i:Nat,t.place[i]?≠Z9 j):t.slot j=.empty:=by
 unfold SetTable.slot SetTable.has;rw[c];have b:(t.place[SetTable.below t.place j]? == Z9 j)=Z5:=by
  cases q:t.place[SetTable.below t.place j]? with
  |none=>rfl
  |some a =>
   have:a≠j:=λe=>h _ (by rw[q,e]);simpa using this
 simp[b]
theorem N9{a:Array Nat}:j∈a.toList↔∃i:Nat,a[i]?=Z9 j:=by
 constructor
 .intro h;obtain⟨i,b⟩:=qE8 h;exact⟨i,by rw[<- y8];exact b⟩
 .rintro⟨i,b⟩;rw[<- y8]at b;exact qB5 b
theorem K9:∀{l m:List Nat},l.Nodup->(∀x∈l,x∈m)->l.length<=m.length
 |[],m,_,_=>by simp
 |a::l,m,nd,h=>by have nd':=qH2.mp nd;have b:=h a (by simp);have d:=K9 nd'.2 (λx c=>(qS2 (λe:x=a=>nd'.1 (e▸c))).mpr (h x (by simp[c])));rw[qL7 b]at d;have:=qQ4 b;simp;lia
theorem sY{l:List Nat}(h:l.length<=m):∃s,s<=m/\s∉l:=by
 refine Classical.byContradiction λa=>?_;have:=K9 (l:=List.range (m+1)) qL2 λx b=>Classical.byContradiction λq=>a ⟨x,by have:=qC9.mp b;lia,q⟩;rw[qD2]at this
 lia
theorem sX(hm:WN m)(h:Int){l:List Nat}(g:l.length<=m):∃n,n<10*(m+15)/\(pr m h n).j∉l/\∀k,k<n->(pr m h k).j∈l:=by obtain⟨s,f,j⟩:=sY g;obtain⟨n,o,e⟩:=tm hm h f;obtain⟨k,a,b,c⟩:=least (P:=λn=>(pr m h n).j∉l) n (by rw[e];exact j);exact⟨k,by lia,b,λi d=>Classical.byContradiction λq=>c i d q⟩
inductive N8(t:jX)(f:Nat->Int)(h:Int)(n0 n:Nat):Option SetTable.Met->Prop
 |cand (n1 i:Nat) (h1:n<=n1) (h2:n1<n0) (hs:t.slot (pr t.mask h n1).j=.live i) (hf:f i=h) (hb:∀k,n<=k->k<n1->∃i,t.slot (pr t.mask h k).j=.live i/\f i≠h):N8 t f h n0 n (Z9 (.candidate (pr t.mask h n1).j i (pr t.mask h (n1+1))))
 |free (hb:∀k,n<=k->k<n0->∃i,t.slot (pr t.mask h k).j=.live i/\f i≠h):N8 t f h n0 n (Z9 (.empty (pr t.mask h n0).j Z8))
theorem Fe{f:Nat->Int}{h:Int}{a:Nat}(he:t.slot (pr t.mask h a).j=.empty)(p:∀k,k<a->∃i,t.slot (pr t.mask h k).j=.live i):∀(F n:Nat),n<=a->a - n<F->N8 t f h a n (SetTable.probe.go t f h F (pr t.mask h n))
 |0,n,_,hF=>absurd hF (qG5 _)
 |F+1,n,hn,hF=>by
  unfold SetTable.probe.go;by_cases e:n=a
  .subst e;rw[he];rw[La];exact .free λk g b=>by lia
  .obtain⟨i,j⟩:=p n (by lia);rw[j];dsimp only;by_cases d:f i=h
   .rw[if_pos (by simpa using d),Fl];exact .cand n i (qA7 _) (by lia) j d λk g b=>by lia
   .rw[if_neg (by simpa using d),Fl];have l:=Fe (f:=f) he p F (n+1) (by lia) (by lia);show N8 t f h a n (SetTable.probe.go t f h F (pr t.mask h (n+1)));have ext:∀o,(∀k,n+1<=k->k<o->∃i,t.slot (pr t.mask h k).j=.live i/\f i≠h)->∀k,n<=k->k<o->∃i,t.slot (pr t.mask h k).j=.live i/\f i≠h:=λo c k g b=>by
     by_cases q:k=n
     .subst q;exact⟨i,j,d⟩
     .exact c k (by lia) b
    revert l;generalize SetTable.probe.go t f h F (pr t.mask h (n+1))=r;intro l;cases l with
    |cand s v g b u m c=>exact .cand s v (by lia) b u m (ext s c)
    |free c=>exact .free (ext a c)
end
structure VZ(t:jX)(es:Array (Int×yT)):Prop where
 m:WN t.mask
 up:Rs t.place
 nd:t.dummies=#[]
 sz:t.place.size=es.size
 bd:∀j∈t.place.toList,j<=t.mask
 few:es.size*5<t.mask*3
 rc:∀(i j:Nat) e,t.place[i]?=Z9 j->es[i]?=Z9 e->∃n,(pr t.mask e.1 n).j=j/\∀k,k<n->(pr t.mask e.1 k).j∈t.place.toList
theorem VZ.fresh(bt:Bool):VZ (.fresh 0 0 bt) #[]:=⟨.inl rfl,by simp[SetTable.fresh,Rs],rfl,rfl,λj h=>(by simp[SetTable.fresh]at h),by show 0*5<7*3;decide,λi j e h=>by simp[SetTable.fresh]at h⟩
theorem VZ.fits(h:VZ t es):t.fits es.size=Z7:=by
 unfold SetTable.fits SetTable.fill;rw[h.nd,h.sz];have:=h.few;simp
 lia
theorem VZ.way(T:VZ t es)(h:Int):∃n,n<10*(t.mask+15)/\t.slot (pr t.mask h n).j=.empty/\(∀i:Nat,t.place[i]?≠Z9 (pr t.mask h n).j)/\∀k,k<n->∃i:Nat,t.place[i]?=Z9 (pr t.mask h k).j/\t.slot (pr t.mask h k).j=.live i:=by
 have f:t.place.toList.length<=t.mask:=by rw[yY,T.sz];have:=T.few;lia
 obtain⟨n,a,b,c⟩:=sX T.m h f;have e:=λi q=>b (N9.mpr ⟨i,q⟩);refine⟨n,a,sZ T.nd e,e,λk hk=>?_⟩;obtain⟨i,d⟩:=N9.mp (c k hk);exact⟨i,d,ti T.up d⟩
section
variable {prog:yZ}{w:jG}{A:jF}{E:yL}{s:yQ}{a b:yR}
abbrev isT(prog:yZ)(w:jG)(h:jH)(k:yA)(a:yR):Prop:=IsTupleKey (vL prog w) h k a
theorem items_int{e:yA}{d:yB}(h:ItemsAre (vL prog w) e d):∀v∈d,∃i t,v=Value.int i t:=by
 induction h with
 |nil=>intro v c;cases c
 |cons hk _ f =>
  intro v c;rcases qB0.mp c with rfl|c
  .obtain⟨t,rfl⟩:=Value.isInt_shape hk;exact⟨_,t,rfl⟩
  .exact f v c
theorem Fd(hk:isT prog w s.heap k a)(h:Q Z5 s):y7 (yV prog w) A (gV (d+1) (.ref a)) Q E s:=by
 obtain⟨o,f,n,j,p,x,m⟩:=hk;have all:=items_int m;unfold gV;refine yO (j9 ⟨o,j,p⟩ ?_);refine yO (yP ?_);refine yO (vB j x ?_);refine yO ?_;rw[<- Array.forIn_toList];refine fN _ (λZJ r g=>r.1=Z8/\g=s/\∀v∈ZJ,∃i t,v=Value.int i t) _ ?_ ?_ _ _ ⟨rfl,rfl,all⟩
 .rintro v ZJ r g ⟨l,rfl,c⟩;obtain⟨i,t,rfl⟩:=c v qE3;refine yO ?_;have e:gV d (.int i t)=pure Z5:=by cases d<;>rfl
  rw[e];refine yP ?_;exact yP ⟨rfl,rfl,λu q=>c u (qC5 _ q)⟩
 .rintro⟨z,y⟩ g ⟨l,rfl,_⟩;subst l;exact yP h
theorem sW(hk:isT prog w s.heap k a)(h:Q Z7 s):y7 (yV prog w) A (hashByValue (d+1) (.ref a)) Q E s:=by
 obtain⟨o,f,n,j,p,x,m⟩:=hk;have all:=items_int m;have ty:s.TypeIs (.ref a) "tuple":=⟨o,j,p⟩
 refine yO (mH ty PySem.F.slot_tuple_hash.lookup ?_);refine yO (vB j x ?_);refine yO ?_;rw[<- Array.forIn_toList];refine fN _ (λZJ r g=>r.1=Z8/\g=s/\∀v∈ZJ,∃i t,v=Value.int i t) _ ?_ ?_ _ _ ⟨rfl,rfl,all⟩
 .rintro v ZJ r g ⟨l,rfl,c⟩;obtain⟨i,t,rfl⟩:=c v qE3;refine yO ?_;have e:hashByValue d (.int i t)=pure Z7:=by cases d<;>rfl
  rw[e];refine yP ?_;exact yP ⟨rfl,rfl,λu q=>c u (qC5 _ q)⟩
 .rintro⟨z,y⟩ g ⟨l,rfl,_⟩;subst l;exact yP h
theorem sV{ys:yB}(hk:isT prog w s.heap k a)(i:∀y∈ys,∃b l,y=Value.ref b/\isT prog w s.heap l b)(h:Q Z5 s):y7 (yV prog w) A (searchCouldBeSeen (.ref a) ys) Q E s:=by
 refine yO ?_;refine fN _ (λZJ r d=>r.1=Z8/\d=s/\∀y∈ZJ,∃b l,y=Value.ref b/\isT prog w s.heap l b) _ ?_ ?_ _ _ ⟨rfl,rfl,i⟩
 .rintro y ZJ r d ⟨f,rfl,c⟩;obtain⟨b,l,rfl,e⟩:=c y qE3;have nxt:=λu g=>c u (qC5 _ g);refine wH (λ_=>yP ⟨rfl,rfl,nxt⟩) λ_=>?_;refine yO (mP hk ?_);refine yO (mP e ?_);refine yO (Fd hk ?_);refine yO (Fd e ?_);exact yP ⟨rfl,rfl,nxt⟩
 .rintro⟨m,j⟩ d ⟨f,rfl,_⟩;subst f;exact yP h
theorem sU(h:Q Z7 s):y7 (yV prog w) A (isSame (.ref p) (.ref p)) Q E s:=by unfold isSame;simp;exact yP h
structure Vk(prog:yZ)(w:jG)(h:jH)(es:Array (Int×yT))(xs:List (yA×yR)):Prop where
 e:es.toList=xs.map λx=>(jR (vL prog w) x.1,Value.ref x.2)
 t:∀x∈xs,isT prog w h x.1 x.2
theorem Vk.at(X:Vk prog w h es xs)(hi:i<es.size):∃x,xs[i]?=Z9 x/\es[i]?=Z9 (jR (vL prog w) x.1,Value.ref x.2)/\isT prog w h x.1 x.2:=by
 have d:xs.length=es.size:=by rw[<- yY,X.e,qA0]
 have c:xs[i]?=Z9 xs[i]:=qA2 (by omega);refine⟨xs[i],c,?_,X.t _ (qD6 _)⟩;rw[<- y8,X.e,qB1,c];rfl
def VY(prog:yZ)(w:jG)(t:jX)(xs:List (yA×yR))(k:yA)(n:Nat):Prop:=∀j,j<n->∃(i:Nat) (x:yA×yR),t.place[i]?=Z9 (pr t.mask (jR (vL prog w) k) j).j/\xs[i]?=Z9 x/\x.1≠k
theorem Fc{es:Array (Int×yT)}{ep:Nat}{t:jX}{o:Obj}{xs:List (yA×yR)}{k:yA}(Z:A.units<vN)(T:VZ t es)(g:s.heap.get? a=Z9 o)(d:o.data=.set es ep t)(X:Vk prog w s.heap es xs)(hk:isT prog w s.heap k b){Q:SetFound->yQ->Prop}
  {m:Nat} (R:m<10*(t.mask+15)) (he:t.slot (pr t.mask (jR (vL prog w) k) m).j=.empty) (B:∀j,j<m->∃i:Nat,t.place[i]?=Z9 (pr t.mask (jR (vL prog w) k) j).j/\t.slot (pr t.mask (jR (vL prog w) k) j).j=.live i)
  (W:k∈xs.map (·.1)->Q (.there Z8) s) (C:VY prog w t xs k m->Q (.free (pr t.mask (jR (vL prog w) k) m).j Z5) s) :
  ∀(F n:Nat) (st:Option SetTable.Probe),n<=m->m - n<F->st.getD (t.probeStart (jR (vL prog w) k))=pr t.mask (jR (vL prog w) k) n->VY prog w t xs k n->y7 (yV prog w) A (setSearchFrom a (.ref b) (jR (vL prog w) k) Z7 F st) Q E s
 |0,n,st,_,hF,_,_=>absurd hF (qG5 _)
 |F+1,n,st,hn,hF,hst,hp=>by
  obtain⟨H,l⟩:∃H,jR (vL prog w) k=H:=⟨_,rfl⟩
  rw[l]at he B C hst ⊢;unfold VY at hp C;rw[l]at hp C;refine yO (jN g d T.fits ?_);dsimp only;rw[if_neg (by unfold SetTable.gaveWay;rcases T.m with e|e|e|e<;>rw[e]<;>decide),hst];have K:=Fe (f:=λi=>(es[i]?.map (·.1)).getD 0) he (λj U=>(B j U).imp λi h=>h.2) (10*(t.mask+15)) n hn (by lia);have other:∀j,n<=j->j<m->(∃i:Nat,t.slot (pr t.mask H j).j=.live i/\(es[i]?.map (·.1)).getD 0≠H)->∃(i:Nat) (x:yA×yR),t.place[i]?=Z9 (pr t.mask H j).j/\xs[i]?=Z9 x/\x.1≠k:=λj _ J ⟨i',Y,V⟩=>by
   obtain⟨i,v,N⟩:=B j J;rw[N]at Y;have ei:=SetTable.Slot.live.inj Y;subst ei;have u:i<es.size:=by
    rw[<- T.sz];rcases qK7 i t.place.size with g|g
    .exact g
    .simp_all
   obtain⟨x,M,O,_⟩:=X.at u;refine⟨i,x,v,M,λe=>V ?_⟩;rw[O,e,l];rfl
  split
  case h_2 =>
   rename_i c;exfalso;obtain⟨r,p⟩:∃r,SetTable.probe.go t (λi=>(es[i]?.map (·.1)).getD 0) H (10*(t.mask+15)) (pr t.mask H n)=r:=⟨_,rfl⟩
   rw[p]at K;cases K with
   |cand n1 i h1 J P S L=>exact c _ p
   |free L=>exact c _ p
  rename_i met c;have I:SetTable.probe.go t (λi=>(es[i]?.map (·.1)).getD 0) H (10*(t.mask+15)) (pr t.mask H n)=Z9 met:=c;rw[I]at K;cases K with
  |free L =>
   refine yP (C λj U=>?_);by_cases q:j<n
   .exact hp j q
   .simp_all
  |cand n1 i h1 J P S L =>
   obtain⟨i',v,N⟩:=B n1 J;rw[P]at N;cases N;have u:i<es.size:=by
    rw[<- T.sz];rcases qK7 i t.place.size with g|g
    .exact g
    .rw[wF g]at v;cases v
   obtain⟨x,M,O,x3⟩:=X.at u;refine wH (λ_=>yO (sV hk (λy hy=>?_) ?_)) λ_=>?_
   .obtain⟨e,G,rfl⟩:=qB9.mp hy;have D:=by rw[Array.toList_filter]at G;exact(qF1.mp G).1
    rw[X.e]at D;obtain⟨z,hz,rfl⟩:=qB9.mp D;exact⟨z.2,z.1,rfl,X.t z hz⟩
   case' refine_2=>rw[if_neg (by decide)]
   all_goals
    rw[O];refine yO (jM (wpAny_eqBool_tuple Z x3 hk (yO (jN g d T.fits ?_))));by_cases e:x.1=k
    .rw[decide_eq_true e,if_pos (by decide)];exact yP (W (qB9.mpr ⟨x,qB5 M,e⟩))
    .rw[decide_eq_false e,if_neg (by decide)];have sm:t.sameMemory t.moves t.mask=Z9 Z7:=by unfold SetTable.sameMemory;simp
     rw[sm];dsimp only;rw[if_pos rfl,P];dsimp only;rw[O];refine yO (sU ?_);rw[<- l];refine Fc Z T g d X hk R (by rw[l];exact he) (by rw[l];exact B) W (by unfold VY;rw[l];exact C) F (n1+1) _ (by lia) (by lia) (by rfl) ?_;unfold VY;rw[l];intro j U;by_cases q:j<n
     .exact hp j q
     by_cases V:j<n1
     .exact other j (by lia) (by lia) (L j (by lia) V)
     .have:j=n1:=by lia
      subst this;exact⟨i,x,v,M,e⟩
end
theorem K8(h:i<=m):SetTable.runEnd m i<=m/\i<=SetTable.runEnd m i:=by unfold SetTable.runEnd;split<;>lia
theorem SH{α:Type}{a:Array α}{d:α}(h:j<a.size):a[j]?=Z9 (a.getD j d):=by simp_all
theorem Fb{m:Nat}(h:Int){b:Array (yK)}(sz:b.size=m+1){K:Nat}(o:b[(Yo m h K).1]?=Z9 Z8):∀(F k n:Nat),k<=K->K - k<F->pr m h n=TM m (Yo m h k)->(∀i,i<n->∃c,b[(pr m h i).j]?=Z9 (Z9 c)) ->
  ∃j s,SetTable.layClean.free m b F (Yo m h k).1 (Yo m h k).2=Z9 j/\(pr m h s).j=j/\b[j]?=Z9 Z8/\∀i,i<s->∃c,b[(pr m h i).j]?=Z9 (Z9 c)
 |0,k,n,_,hF,_,_=>absurd hF (qG5 _)
 |F+1,k,n,hk,hF,e,ho=>by
  obtain⟨i,pt,a⟩:∃i pt,Yo m h k=(i,pt):=⟨_,_,rfl⟩
  have u:i<=m:=by have:=Lb m h k;rw[a]at this;lia
  obtain⟨G,C⟩:=K8 u;rw[a]at e ⊢;have l:∀r,r<=SetTable.runEnd m i - i->pr m h (n+r)=⟨i+r,SetTable.runEnd m i - i - r,i,pt,Z8⟩:=Lf m h e;unfold SetTable.layClean.free;cases t:(List.range (SetTable.runEnd m i+1 - i)).find? λq=>(b.getD (i+q) (Z9 0)).isNone with
  |some q =>
   obtain⟨v,x,p⟩:=List.find?_range_eq_some.mp t;have E:=qC9.mp x;refine⟨i+q,n+q,rfl,?_,?_,λj w=>?_⟩
   .rw[l q (by lia)]
   .rw[SH (by lia)];exact congrArg Z9 (Option.isNone_iff_eq_none.mp v)
   .by_cases g:j<n
    .exact ho j g
    .obtain⟨r,rfl⟩:∃r,j=n+r:=⟨j - n,by lia⟩
     rw[l r (by lia)];have:=p r (by lia);show ∃c,b[i+r]?=Z9 (Z9 c);rw[SH (by lia)];cases d:b.getD (i+r) (Z9 0)with
     |none=>rw[d]at this;simp at this
     |some c=>exact⟨c,rfl⟩
  |none =>
   have p:=List.find?_range_eq_none.mp t;have f:∀r,r<SetTable.runEnd m i+1 - i->∃c,b[i+r]?=Z9 (Z9 c):=λr y=>by
    have:=p r y;rw[SH (by lia)];cases d:b.getD (i+r) (Z9 0)with
    |none=>rw[d]at this;simp at this
    |some c=>exact⟨c,rfl⟩
   have D:k≠K:=λz=>by subst z;obtain⟨c,d⟩:=f 0 (by lia);rw[a]at o;rw[Nat.add_zero,o]at d;cases d
   have B:pr m h (n+(SetTable.runEnd m i - i)+1)=TM m (Yo m h (k+1)):=by show V9 m (pr m h (n+_))=_;rw[l _ (qA7 _),Lg m (qH7 _) rfl];show _=TM m (SetTable.leap m (Yo m h k).1 (Yo m h k).2);rw[a]
   have:=Fb h sz o F (k+1) _ (by lia) (by lia) B λj w=>by
    by_cases g:j<n
    .exact ho j g
    .obtain⟨r,rfl⟩:∃r,j=n+r:=⟨j - n,by lia⟩
     rw[l r (by lia)];exact f r (by lia)
   have A:Yo m h (k+1)=SetTable.leap m i pt:=by show SetTable.leap m (Yo m h k).1 (Yo m h k).2=_;rw[a]
   rw[A]at this;exact this
theorem sT{l:List Nat}(a:l.Nodup)(h:∀x∈l,x<N):l.length<=N:=by have:=K9 a λx b=>qC9.mpr (h x b);rwa[qD2]at this
structure Ow(m:Nat)(hs:yA)(k:Nat)(ow:Array (yK)):Prop where
 sz:ow.size=m+1
 lt:∀(j c:Nat),ow[j]?=Z9 (Z9 c)->c<k
 un:∀(j j' c:Nat),ow[j]?=Z9 (Z9 c)->ow[j']?=Z9 (Z9 c)->j=j'
 all:∀c,c<k->∃j:Nat,ow[j]?=Z9 (Z9 c)
 rc:∀(j c:Nat),ow[j]?=Z9 (Z9 c)->∃h n,hs[c]?=Z9 h/\(pr m h n).j=j/\∀i,i<n->∃c',ow[(pr m h i).j]?=Z9 (Z9 c')
theorem Ow.room(O:Ow m hs k f)(hk:k<=m):∃s,s<=m/\f[s]?=Z9 Z8:=by
 refine Classical.byContradiction λp=>?_;have t:∀j,j<=m->∃c,f[j]?=Z9 (Z9 c):=λj h=>by
  have:=SH (d:=Z8) (j:=j) (by rw[O.sz];lia);cases g:f.getD j Z8 with
  |none=>rw[g]at this;exact absurd ⟨j,h,this⟩ p
  |some c=>rw[g]at this;exact⟨c,this⟩
 have ex:∀n,n<=m+1->∃l:List Nat,l.length=n/\l.Nodup/\∀c∈l,∃j,j<n/\f[j]?=Z9 (Z9 c):=λn=>by
  induction n with
  |zero=>exact λ_=>⟨[],rfl,.nil,λc g=>by cases g⟩
  |succ n r =>
   intro p;obtain⟨l,a,b,c⟩:=r (by lia);obtain⟨d,o⟩:=t n (by lia);refine⟨d::l,by simp[a],qH2.mpr ⟨λv=>?_,b⟩,λe i=>?_⟩
   .obtain⟨j,h,q⟩:=c d v;have:=O.un j n d q o
    lia
   .rcases qB0.mp i with rfl|i
    .exact⟨n,by lia,o⟩
    .obtain⟨j,h,q⟩:=c e i;exact⟨j,by lia,q⟩
 obtain⟨l,a,b,c⟩:=ex (m+1) (qA7 _);have:=sT b λx u=>let ⟨j,_,q⟩:=c x u;O.lt j x q
 lia
theorem Ow.put{m k j n:Nat}(O:Ow m hs k f)(s:hs[k]?=Z9 h)(u:f[j]?=Z9 Z8)(e:(pr m h n).j=j)(r:∀i,i<n->∃c,f[(pr m h i).j]?=Z9 (Z9 c)):Ow m hs (k+1) (f.setIfInBounds j (Z9 k)):=by
 have t:j<f.size:=by
  rcases qK7 j f.size with g|g
  .exact g
  .simp_all
 have d:∀i:Nat,(f.setIfInBounds j (Z9 k))[i]?=if j=i then Z9 (Z9 k)else f[i]?:=λi=>by
  rw[Array.getElem?_setIfInBounds];by_cases q:j=i
  .simp[t]
  .simp[q]
 have keep:∀i c,f[i]?=Z9 (Z9 c)->(f.setIfInBounds j (Z9 k))[i]?=Z9 (Z9 c):=λi c q=>by rw[d,if_neg (λz=>by subst z;rw[u]at q;cases q)];exact q
 refine⟨by simp[O.sz],λi c q=>?_,λi p c q l=>?_,λc y=>?_,λi c q=>?_⟩
 .rw[d]at q;split at q
  .cases q;lia
  .have:=O.lt i c q;lia
 .rw[d]at q l;by_cases a:j=i
  .rw[if_pos a]at q;cases q;by_cases b:j=p
   .lia
   .rw[if_neg b]at l;have:=O.lt _ _ l
    lia
  .rw[if_neg a]at q;by_cases b:j=p
   .rw[if_pos b]at l;cases l;have:=O.lt _ _ q
    lia
   .rw[if_neg b]at l;exact O.un i p c q l
 .by_cases z:c=k
  .subst z;exact⟨j,by rw[d,if_pos rfl]⟩
  .obtain⟨i,q⟩:=O.all c (by lia);exact⟨i,keep i c q⟩
 .rw[d]at q;split at q
  .rename_i z;cases q;subst z;exact⟨h,n,s,e,λi o=>(r i o).imp λc q=>keep _ c q⟩
  .obtain⟨x,w,a,b,v⟩:=O.rc i c q;exact⟨x,w,a,b,λi o=>(v i o).imp λc q=>keep _ c q⟩
abbrev Qr(m:Nat):Option (Array (yK)×Nat)->Int->Option (Array (yK)×Nat):=λacc h=>do
 let (owner,k) <- acc
 let j <- SetTable.layClean.free m owner (SetTable.turns m) (SetTable.bits h % (m+1)) (SetTable.bits h)
 pure (owner.setIfInBounds j (Z9 k),k+1)
theorem E9{m:Nat}(hm:WN m){hs:yA}(u:hs.length<=m+1):∀(ZJ:yA) (k:Nat) (ow:Array (yK)),hs.drop k=ZJ->k<=hs.length->Ow m hs k ow->∃c,ZJ.foldl (Qr m) (Z9 (ow,k))=Z9 (c,hs.length)/\Ow m hs hs.length c
 |[],k,ow,e,hk,O=>by
  have:hs.length=k:=by have:=congrArg qJ3 e;simp at this;lia
  exact⟨ow,by rw[List.foldl_nil,this],this▸O⟩
 |h::ZJ,k,ow,e,hk,O=>by
  have r:k<hs.length:=by have:=congrArg qJ3 e;simp at this;lia
  have o:=by have:=congrArg (λl=>l[0]?) e;simpa using this
  obtain⟨s,q,t⟩:=O.room (by lia);obtain⟨K,y,k2⟩:=Ff hm h q;obtain⟨j,n,w,v,g,p⟩:=Fb h O.sz (by rw[k2];exact t) (m+15) 0 0 (qE6 _) (by lia) rfl (λi f=>absurd f (qG5 _));have x:=O.put o g v p;obtain⟨c,a,b⟩:=E9 hm u ZJ (k+1) _ (by rw[<- qO9,e];rfl) r x;refine⟨c,?_,b⟩;rw[qK8,<- a];congr 1;show(SetTable.layClean.free m ow (SetTable.turns m) (SetTable.bits h % (m+1)) (SetTable.bits h) >>= λj=>pure (ow.setIfInBounds j (Z9 k),k+1))=_;have d:SetTable.layClean.free m ow (SetTable.turns m) (SetTable.bits h % (m+1)) (SetTable.bits h)=Z9 j:=w;rw[d];rfl
theorem sS(hm:WN m)(e:hs.size<=m+1):∃ow,SetTable.layClean m hs=Z9 ow/\Ow m hs.toList hs.size ow:=by
 have d:Ow m hs.toList 0 (Array.replicate (m+1) Z8):=⟨by simp,λj c h=>(by simp[wT]at h),λj f c h=>(by simp[wT]at h),λc h=>absurd h (qG5 _),λj c h=>(by simp[wT]at h)⟩
 obtain⟨ow,a,b⟩:=E9 hm (by exact e) hs.toList 0 _ rfl (qE6 _) d;refine⟨ow,?_,b⟩;have:SetTable.layClean m hs=(hs.toList.foldl (Qr m) (Z9 (Array.replicate (m+1) Z8,0))).map (·.1):=by rw[Array.foldl_toList];rfl
 rw[this,a];rfl
def Vj(es:Array (Int×yT))(c:Nat):Int×Value:=es.getD c (0,.none)
theorem zNt(h:c<es.size):es[c]?=Z9 (Vj es c):=SH h
theorem E8:∀l:List Nat,(∀c∈l,c<es.size)->l.filterMap (es[·]?)=l.map (Vj es)
 |[],_=>rfl
 |c::l,h=>by rw[qP9 (zNt (h c (by simp))),E8 l λd a=>h d (by simp[a])];rfl
theorem sR(es:Array (Int×yT)):(List.range es.size).map (Vj es)=es.toList:=by
 refine qT5 λi=>?_;by_cases h:i<es.size
 .rw[qB1,qI2 h,y8,zNt h];rfl
 .simp_all
def Wq(m:Nat)(a:Array (yK)):List (Nat×Nat):=(List.range (m+1)).filterMap λj=>(a.getD j Z8).map (j,·)
theorem K7(sz:a.size=m+1):(j,c)∈Wq m a↔a[j]?=Z9 (Z9 c):=by
 unfold Wq;rw[qL9];constructor
 .rintro⟨i,k,e⟩;obtain⟨d,b,f⟩:=qA6.mp e;cases f;rw[SH (by have:=qC9.mp k;lia),b]
 .intro h;have l:j<a.size:=by
   rcases qK7 j a.size with g|g
   .exact g
   .rw[wF g]at h;cases h
  refine⟨j,qC9.mpr (by lia),?_⟩;rw[SH l]at h;rw[Option.some.inj h];rfl
theorem sQ(m:Nat)(e:Array (yK)):(Wq m e).Pairwise λx y=>x.1<y.1:=by refine List.Pairwise.filterMap _ (λa b c x f y d=>?_) qM8;obtain⟨_,_,rfl⟩:=qA6.mp f;obtain⟨_,_,rfl⟩:=qA6.mp d;exact c
inductive sP(m:Nat)(l p:Bool)(es:Array (Int×yT))(r:Option (jX×Array Nat)):Prop
 |mk (t:jX) (order:Array Nat) (e:r=Z9 (t,order)) (sz:(order.filterMap (es[·]?)).size=es.size) (pm:(order.filterMap (es[·]?)).toList.Perm es.toList) (T:VZ t (order.filterMap (es[·]?))) (hm:t.mask=m) (hl:t.led=l) (hp:t.plain=p)
theorem sO(hm:WN m)(z:es.size*5<m*3):sP m l p es (SetTable.laid m f v l p (es.map (·.1))):=by
 obtain⟨d,F,O⟩:=sS hm (hs:=es.map (·.1)) (by rw[Array.size_map];lia);rw[Array.size_map]at O;have B:SetTable.laid m f v l p (es.map (·.1))=Z9 ({ mask:=m,place:=((Wq m d).map (·.1)).toArray,dummies:=#[],finger:=f,led:=l,moves:=v,plain:=p },((Wq m d).map (·.2)).toArray):=by unfold SetTable.laid;rw[F];rfl
 have o:∀q∈Wq m d,d[q.1]?=Z9 (Z9 q.2):=λq r=>(K7 O.sz).mp r;have C:∀c∈(Wq m d).map (·.2),c<es.size:=λc I=>by obtain⟨q,r,rfl⟩:=qB9.mp I;exact O.lt _ _ (o q r)
 have A:((((Wq m d).map (·.2)).toArray).filterMap (es[·]?)).toList=(Wq m d).map λq=>Vj es q.2:=by rw[Array.toList_filterMap,E8 _ C,qC7];rfl
 have w:((Wq m d).map (·.2)).Perm (List.range es.size):=by
  refine(qI8 ?_ qL2).mpr λc=>?_
  .refine qH0.mpr ((sQ m d).imp_of_mem λ{x y} H G h=>λe=>?_);have:=O.un x.1 y.1 x.2 (o x H) (e▸o y G)
   lia
  .rw[qC9];refine⟨λh=>C c h,λh=>?_⟩;obtain⟨j,q⟩:=O.all c h;exact qB9.mpr ⟨(j,c),(K7 O.sz).mpr q,rfl⟩
 have D:((((Wq m d).map (·.2)).toArray).filterMap (es[·]?)).toList.Perm es.toList:=by rw[A,<- sR es];have:=w.map (Vj es);rw[qC7]at this;exact this
 have sz:((((Wq m d).map (·.2)).toArray).filterMap (es[·]?)).size=es.size:=by rw[<- yY,D.length_eq,yY]
 obtain⟨_,_,up⟩:=uU B;refine⟨_,_,B,sz,D,⟨hm,up,rfl,?_,λj K=>?_,by rw[sz];exact z,λi j e s u=>?_⟩,rfl,rfl,rfl⟩
 .rw[<- yY,<- yY,A];simp
 .obtain⟨q,r,rfl⟩:=qB9.mp K;have:=o q r;have:q.1<d.size:=by
   rcases qK7 q.1 d.size with g|g
   .exact g
   .simp_all
  rw[O.sz]at this;show q.1<=m
  lia
 .rw[<- y8]at s u;rw[A,qB1]at u;rw[show(((Wq m d).map (·.1)).toArray).toList=(Wq m d).map (·.1)from rfl,qB1]at s;cases r:(Wq m d)[i]? with
  |none=>rw[r]at s;cases s
  |some q =>
   rw[r]at s u;cases s;cases u;have t:=qB5 r;obtain⟨h,n,a,b,c⟩:=O.rc _ _ (o q t);have J:=by have:=O.lt _ _ (o q t);rw[y8,Array.getElem?_map,zNt this]at a;exact(Option.some.inj a).symm
   subst J;refine⟨n,b,λk hk=>?_⟩;obtain⟨L,E⟩:=c k hk;exact qB9.mpr ⟨(_,L),(K7 O.sz).mpr E,rfl⟩
theorem sN{α c:Type}{l:List α}{r:List c}{x:α}{y:c}(g:l.length=r.length)(d:p<=l.length){i:Nat}{a:α}{b:c}(e:(l.take p++x::l.drop p)[i]?=Z9 a)(f:(r.take p++y::r.drop p)[i]?=Z9 b):(a=x/\b=y)∨∃k:Nat,l[k]?=Z9 a/\r[k]?=Z9 b:=by grind
theorem sM(T:VZ t es)(r:∀i:Nat,t.place[i]?≠Z9 (pr t.mask h n).j)(z:(pr t.mask h n).j<=t.mask)(B:∀k,k<n->∃i:Nat,t.place[i]?=Z9 (pr t.mask h k).j):
  (t.put (pr t.mask h n).j).1.dummies=#[]/\(t.put (pr t.mask h n).j).1.mask=t.mask/\Rs (t.put (pr t.mask h n).j).1.place/\(t.put (pr t.mask h n).j).1.place.size=es.size+1/\(SetTable.insertAt es (t.put (pr t.mask h n).j).2 (h,v)).size=es.size+1/\(SetTable.insertAt es (t.put (pr t.mask h n).j).2 (h,v)).toList.Perm ((h,v)::es.toList) /\
  ((es.size+1)*5<t.mask*3->VZ (t.put (pr t.mask h n).j).1 (SetTable.insertAt es (t.put (pr t.mask h n).j).2 (h,v))):=by
 obtain⟨j,w⟩:∃j,(pr t.mask h n).j=j:=⟨_,rfl⟩
 rw[w]at r z ⊢;have A:t.put j=({ t with place:=SetTable.insertAt t.place (SetTable.below t.place j) j },SetTable.below t.place j):=by unfold SetTable.put SetTable.has;rw[T.nd];simp
 rw[A];obtain⟨b1,_,_⟩:=QI T.up j;have p:t.place.toList.length=es.toList.length:=by rw[yY,yY,T.sz]
 have pl:=SetTable.toList_insertAt t.place (SetTable.below t.place j) j;have g:=SetTable.toList_insertAt es (SetTable.below t.place j) (h,v);have up:=T.up.insert (r _);have u:(SetTable.insertAt t.place (SetTable.below t.place j) j).size=es.size+1:=by rw[<- yY,pl,qC2,qD3,qF7,qI5,yY,T.sz];lia
 have o:(SetTable.insertAt es (SetTable.below t.place j) (h,v)).size=es.size+1:=by rw[<- yY,g,qC2,qD3,qF7,qI5,yY];lia
 have D:(SetTable.insertAt es (SetTable.below t.place j) (h,v)).toList.Perm ((h,v)::es.toList):=by rw[g];exact qQ1.trans (by rw[qD1])
 have d:∀x,x∈t.place.toList->x∈(SetTable.insertAt t.place (SetTable.below t.place j) j).toList:=λx c=>by
  rw[pl];rw[<- qD1 (SetTable.below t.place j) t.place.toList]at c;rcases qC0.mp c with q|q
  .exact qF2 _ q
  .exact qD0 _ (qC5 _ q)
 refine⟨T.nd,rfl,up,u,o,D,λl=>⟨T.m,up,T.nd,by rw[o];exact u,λx c=>?_,by rw[o];exact l,λi x e f m=>?_⟩⟩
 .rw[show({ t with place:=SetTable.insertAt t.place (SetTable.below t.place j) j }:jX).place.toList=_ from pl]at c;rcases qC0.mp c with q|q
  .exact T.bd x (qH9 q)
  .rcases qB0.mp q with rfl|q
   .exact z
   .exact T.bd x (qG7 q)
 .rw[<- y8]at f m;rw[g]at m;rw[show({ t with place:=SetTable.insertAt t.place (SetTable.below t.place j) j }:jX).place.toList=_ from pl]at f;rcases sN p (by exact b1) f m with⟨rfl,rfl⟩| ⟨k,s,y⟩
  .exact⟨n,w,λk hk=>d _ (N9.mpr (B k hk))⟩
  .rw[y8]at s y;obtain⟨E,a,b⟩:=T.rc k x e s y;exact⟨E,a,λi C=>d _ (b i C)⟩
theorem K6{α g:Type}{f:α->g}{i l:List g}(h:i.Perm l):∀m:List α,l=m.map f->∃m':List α,m'.Perm m/\i=m'.map f:=by
 induction h with
 |nil=>intro m e;exact⟨m,.refl _,e⟩
 |cons x _ j =>
  intro m e;cases m with
  |nil=>cases e
  |cons a m =>
   rw[qB8,qK3.injEq]at e;obtain⟨m',p,q⟩:=j m e.2;exact⟨a::m',p.cons a,by rw[qB8,e.1,q]⟩
 |swap x y l =>
  intro m e
  match m,e with
  |a::b::m,e =>
   rw[qB8,qB8,qK3.injEq,qK3.injEq]at e;exact⟨b::a::m,.swap _ _ _,by rw[qB8,qB8,e.1,e.2.1,e.2.2]⟩
 |trans _ _ c d =>
  intro m e;obtain⟨n,s,k⟩:=d m e;obtain⟨r,t,o⟩:=c n k;exact⟨r,t.trans s,o⟩
theorem E7(m:Nat)(h:Int):∀n,(pr m h n).j+(pr m h n).more<=m
 |0=>by
  have:=Lb m h 0;have:=K8 (m:=m) (i:=(Yo m h 0).1) (by lia);show(Yo m h 0).1+(SetTable.runEnd m (Yo m h 0).1 - (Yo m h 0).1)<=m
  lia
 |n+1=>by
  have b:=E7 m h n;show(V9 m (pr m h n)).j+(V9 m (pr m h n)).more<=m;by_cases q:0<(pr m h n).more
  .rw[Fk m q];show(pr m h n).j+1+((pr m h n).more - 1)<=m
   lia
  .rw[Lg m (by lia) (La m h n)];generalize hx:SetTable.leap m (pr m h n).i (pr m h n).perturb=x;have a:x.1<=m:=by
    rw[<- hx];have:((pr m h n).i*5+1+(pr m h n).perturb / 32) % (m+1)<m+1:=qQ3 _ (by lia);show((pr m h n).i*5+1+(pr m h n).perturb / 32) % (m+1)<=m
    lia
   have:=K8 a;show x.1+(SetTable.runEnd m x.1 - x.1)<=m
   lia
section
variable {prog:yZ}{w:jG}{A:jF}{E:yL}{s:yQ}{bt:Bool}{a:yR}{ks:List (yA)}{L:yR->Prop}
inductive W2(prog:yZ)(w:jG)(bt:Bool)(L:yR->Prop)(h:jH)(a:yR)(ks:List (yA)):Prop
 |mk (o:Obj) (es:Array (Int×yT)) (ep:Nat) (t:jX) (xs:List (yA×yR)) (g:h.get? a=Z9 o) (x:o.ExactSet) (d:o.data=.set es ep t) (k:TOk bt t) (pl:t.plain=Z7) (T:VZ t es) (X:Vk prog w h es xs) (p:(xs.map (·.1)).Perm ks) (al:∀x∈xs,L x.2)
def YE(b:List (yA))(k:yA):List (yA):=if k∈b then b else k::b
theorem isT.keep(x:isT prog w h k b)(hk:∀o,h.get? b=Z9 o->h'.get? b=Z9 o):isT prog w h' k b:=by obtain⟨o,c,n,d,r⟩:=x;exact⟨o,c,n,hk o d,r⟩
theorem W2.at(S:W2 prog w bt L h a ks)(k:∀b o,b=a∨L b->h.get? b=Z9 o->h'.get? b=Z9 o):W2 prog w bt L h' a ks:=by obtain⟨o,i,j,t,l,g,x,d,f,pl,T,X,p,c⟩:=S;exact⟨o,i,j,t,l,k a o (.inl rfl) g,x,d,f,pl,T,⟨X.e,λx e=>(X.t x e).keep λo=>k _ o (.inr (c x e))⟩,p,c⟩
theorem isT.ne(x:isT prog w h k b)(g:h.get? a=Z9 o)(c:o.cls=.type "set"):b≠a:=λe=>by obtain⟨j,d,n,f,i,_⟩:=x;rw[e,g]at f;cases f;rw[c]at i;exact absurd i (by decide)
theorem W2.stored{h:jH}{xs:List (yA×yR)}(g:h.get? a=Z9 o)(x:o.ExactSet)(d:o.data=.set es b t):
  (h.update a (dQ es' t')).get? a=Z9 { o with data:=.set es' (b+1) t' }:=by have:=qF9 (dQ es' t') g (by rw[putSet_of es' t' d];rfl);rw[putSet_of es' t' d]at this;exact this
theorem sL{k:yA}(T:VZ t es)(X:Vk prog w h es xs)(v:∀i:Nat,t.place[i]?≠Z9 (pr t.mask (jR (vL prog w) k) n0).j)(C:VY prog w t xs k n0):k∉xs.map (·.1):=λB=>by
 obtain⟨x,z,rfl⟩:=qB9.mp B;obtain⟨i,f⟩:=qE8 z;have D:xs.length=es.size:=by rw[<- yY,X.e,qA0]
 have o:i<es.size:=by rw[<- D];exact(qA4.mp f).1
 have m:i<t.place.size:=by rw[T.sz];exact o
 have c:=jA m;obtain⟨y,p,u,_⟩:=X.at o;rw[f]at p;cases p;obtain⟨n,a,b⟩:=T.rc i _ _ c u;have j:∀k,k<=n->∃i:Nat,t.place[i]?=Z9 (pr t.mask (jR (vL prog w) x.1) k).j:=λk hk=>by
  by_cases e:k=n
  .subst e;exact⟨i,by rw[a];exact c⟩
  .exact N9.mp (b k (by lia))
 have lt:n<n0:=by
  rcases qK7 n n0 with g|g
  .exact g
  .obtain⟨d,q⟩:=j n0 g;exact absurd q (v d)
 obtain⟨d,G,l,r,F⟩:=C n lt;rw[a]at l;have:d=i:=by
  rcases qM6 d i with g|g|g
  .have:=T.up.get l c g;lia
  .exact g
  .have:=T.up.get c l g;lia
 subst this;rw[f]at r;cases r;exact F rfl
theorem K5(hu:A.units<vN)(S:W2 prog w bt L s.heap a ks)(hk:isT prog w s.heap k b)(hb:L b)(room:ks.length<=300)(h:∀(r:Bool) (h':jH),qE4 a s.heap h'->W2 prog w bt L h' a (YE ks k)->Q r { s with heap:=h' }):
  y7 (yV prog w) A (setAddHashed a (.ref b) (jR (vL prog w) k)) Q E s:=by
 obtain⟨o,y,ep,t,xs,g,x,d,k1,pl,T,X,p,al⟩:=S;have hl:y.size=ks.length:=by rw[<- p.length_eq,qA0,<- yY,X.e,qA0]
 obtain⟨H,hH⟩:∃H,jR (vL prog w) k=H:=⟨_,rfl⟩
 refine jM (yO (jN g d T.fits ?_));dsimp only;obtain⟨J,n1,n2,n3,n4⟩:=T.way (jR (vL prog w) k);refine yO ?_;refine Fc hu T g d X hk n1 n2 n4 (λhm=>?_) (λhp=>?_) 100000 0 Z8 (qE6 _) (by rcases T.m with e|e|e|e<;>rw[e]at n1<;>lia) rfl (λj hj=>absurd hj (qG5 _))
 .dsimp only;refine yP ?_;have:W2 prog w bt L s.heap a (YE ks k):=by unfold YE;rw[if_pos (p.mem_iff.mp hm)];exact⟨o,y,ep,t,xs,g,x,d,k1,pl,T,X,p,al⟩
  have:=h Z5 s.heap (qE4.refl ..) this;cases s;exact this
 .have hn:=sL T X n3 hp;rw[hH]at n2 n3 n4 ⊢;refine yO (jN g d T.fits ?_);have jb:(pr t.mask H J).j<=t.mask:=by have:=E7 t.mask H J;lia
  obtain⟨Z,R,u3,U,D,Y,W⟩:=sM T (v:=.ref b) n3 jb λk hk=>let ⟨i,q,_⟩:=n4 k hk;⟨i,q⟩
  have m:(t.put (pr t.mask H J).j).1.plain=Z7:=pl;have u:(t.put (pr t.mask H J).j).1.led=!bt:=k1.led;obtain⟨n,y1,G⟩:=K6 (f:=λx:yA×yR=>(jR (vL prog w) x.1,Value.ref x.2)) Y ((k,b)::xs) (by rw[qB8,X.e,hH]);have M:∀z∈n,L z.2:=λz C=>by
   rcases qB0.mp (y1.mem_iff.mp C)with rfl|q
   .exact hb
   .exact al z q
  have K:(n.map (·.1)).Perm (YE ks k):=by unfold YE;rw[if_neg (λhm=>hn (p.mem_iff.mpr hm))];exact(y1.map Prod.fst).trans (by exact p.cons k)
  generalize hput:t.put (pr t.mask H J).j=pt at Z R u3 U D Y W m u G ⊢;obtain⟨B,pp⟩:=pt;dsimp only at Z R u3 U D Y W m u G ⊢;rw[if_pos m];refine yO (sW hk ?_);rw[if_pos rfl];have c1:=x.1;generalize SetTable.insertAt y pp (H,Value.ref b)=es1 at D Y W G ⊢;refine yO (wpAny_storeSet_of g d ?_ (by rw[D,vF];lia));have P:=W2.stored (es':=es1) (t':=B) (xs:=xs) g x d;have X3:∀z∈n,isT prog w (s.heap.update a (dQ es1 B)) z.1 z.2:=λz C=>by
   have:isT prog w s.heap z.1 z.2:=by
    rcases qB0.mp (y1.mem_iff.mp C)with rfl|q
    .exact hk
    .exact X.t z q
   exact this.keep λo' e=>by rw[qF3 _ _ (Ne.symm (this.ne g c1))];exact e
  have sb:=qE4.update s.heap a (dQ es1 B);have few:=T.few;by_cases l:(!false&&B.tooFull)=Z7
  .rw[if_pos l];have V:=by simpa using l
   unfold SetTable.tooFull SetTable.fill at V;rw[Z,U,R]at V;simp at V;obtain⟨F,N,I,sa⟩:∃F,WN F/\(y.size+1)*5<F*3/\SetTable.sizeAbove (SetTable.grown (y.size+1))=F+1:=by
    rcases T.m with e|e|e|e<;>rw[e]at V few
    .rw[show y.size=4 by lia];exact⟨31,.inr (.inl rfl),by decide,by decide⟩
    .rw[show y.size=18 by lia];exact⟨127,.inr (.inr (.inl rfl)),by decide,by decide⟩
    .rw[show y.size=76 by lia];exact⟨511,.inr (.inr (.inr rfl)),by decide,by decide⟩
    .lia
   have m9:F<=511:=by rcases N with e|e|e|e<;>lia
   have O:B.fits es1.size=Z7:=by unfold SetTable.fits SetTable.fill;rw[Z,U,D,R];have:=T.few;rcases T.m with e|e|e|e<;>rw[e]at this ⊢<;>simp<;>lia
   refine yO (yO (jN P rfl O ?_));dsimp only;obtain⟨t',c,e,sz,pm,T',hm2,hl',hp'⟩:=sO (v:=B.movedTo F) N (by rw[D];exact I);rw[sa,if_neg (by rw[vF];lia)];refine yO ?_;have e':B.relaid (es1.map (·.1)) (SetTable.grown (y.size+1))=Z9 (t',c):=by unfold SetTable.relaid;rw[sa];exact e
   rw[e'];show y7 _ _ (if((c.filterMap (es1[·]?)).size != es1.size)=Z7 then _ else pure (c.filterMap (es1[·]?),t')) _ _ _;rw[if_neg (by simp[sz])];refine yP ?_;dsimp only;generalize c.filterMap (es1[·]?)=es2 at sz pm T' ⊢;refine wpAny_storeSet_of P rfl ?_ (by rw[sz,D,vF];lia);obtain⟨xs2,z1,z2⟩:=K6 pm n G;have g4:=W2.stored (es':=es2) (t':=t') (xs:=xs) P x rfl;refine yP (h Z7 _ (sb.trans (qE4.update _ a _)) ⟨_,es2,ep+1+1,t',xs2,g4,x,rfl,⟨by rw[hl'];exact u,λ_=>T'.up⟩,by rw[hp'];exact m,T',⟨z2,λz C=>?_⟩,(z1.map Prod.fst).trans K,λz C=>M z (z1.mem_iff.mp C)⟩);have:=X3 z (z1.mem_iff.mp C);exact this.keep λo' e=>by rw[qF3 _ _ (Ne.symm (this.ne P c1))];exact e
  .rw[if_neg l];refine yP (h Z7 _ sb ⟨_,es1,ep+1,B,n,P,x,rfl,⟨u,λ_=>u3⟩,m,W ?_,⟨G,X3⟩,K,M⟩);have:=by simpa using l
   unfold SetTable.tooFull SetTable.fill at this;simp at this
   lia
end
def Vi(val:Nat->yA):Nat->List (yA)
 |0=>[]
 |i+1=>YE (Vi val i) (val i)
theorem E6(val:Nat->yA):∀i,(Vi val i).length<=i
 |0=>qA7 _
 |i+1=>by
  have:=E6 val i;show(YE _ _).length<=_;unfold YE;split
  .lia
  .rw[qD3];lia
section
variable {prog:yZ}{w:jG}{A:jF}{R:dN->yQ->Prop}{I:yR}{fp wr:yC}{G:Array GenState->Array GenState->Prop}{n:Nat}{P:Nat->yT->Prop}{St:Nat->yQ->Prop}{bt:Bool}
theorem sJ(C:A.in1.units<vN)(W:WalksS prog w A.in1 I fp wr G n P St)(S:yR)(B:S∉fp)(val:Nat->yA)(l:Nat->yR)(m:∀i v,P i v->v=.ref (l i))(u:yR->Prop)(p:∀i,i<n->(l i≠S/\l i∉wr)/\u (l i))(j:n<=300):
  ∀(k i:Nat) (s:yQ),n - i=k->i<=n->St i s->(∀i,i<n->isT prog w s.heap (val i) (l i))->W2 prog w bt (λb=>(b≠S/\b∉wr)/\u b) s.heap S (Vi val i)->(∀s',Moved (S::wr) G s s'->W2 prog w bt (λb=>(b≠S/\b∉wr)/\u b) s'.heap S (Vi val n)->R (.ok (.ret .none)) s') ->
   wD (yV prog w) A (.builtin "set.update.loop" ⟨[.ref S,.ref I],[]⟩) R s:=by
 have E:=λh=>B (W.sub _ h);have sub:∀b∈wr,b∈S::wr:=λb j=>qC5 _ j;intro k
 induction k with
 |zero =>
  intro i s hk c y D z t;have e:i=n:=by lia
  subst e;refine vC wP ?_;refine yO (W.done s _ _ y λs' f=>?_);exact yP (t s' (f.mono sub) (z.at λb o q g=>f.heap b o (q.elim (λe=>e▸E) (·.1.2)) g))
 |succ k H =>
  intro i s hk c y D z t;have a:i<n:=by lia
  refine vC wP ?_;refine yO (W.item i s _ _ a y λv s' L x f=>?_);have N:=m i v L;subst N;have F:=z.at λb o q g=>f.heap b o (q.elim (λe=>e▸E) (·.1.2)) g;have d:=λi c=>(D i c).keep λo g=>f.heap _ o (p i c).1.2 g;refine yO (jM ?_);refine jM (yO (wpAny_pyHash_tuple C (d i a) ?_));refine K5 C F (d i a) (p i a) (by have:=E6 val i;lia) λb J sb O=>?_;refine yP ⟨lF PyProof.Rows.F.plain_set_update_loop _,H (i+1) _ (by lia) a (W.frame _ s' _ _ x (qJ8 _ _) λb j o e=>?_) (λi c=>(d i c).keep λo e=>?_) O λM r K=>?_⟩
  .rw[sb.2 b (λh:b=S=>B (by rw[<- h];exact j))];exact e
  .show J.get? _=_;rw[sb.2 _ (p i c).1.1];exact e
  .refine t M (Moved.trans W.gtrans ((f.mono sub).then_heap (qJ8 _ _) λb o j e=>?_) r) K;rw[sb.2 b (λh:b=S=>j (by rw[h];exact qE3))];exact e
end
theorem W2.weak(S:W2 prog w bt L h a ks)(e:∀b,L b->c b):W2 prog w bt c h a ks:=by obtain⟨o,i,k,t,l,g,x,d,m,pl,T,X,p,f⟩:=S;exact⟨o,i,k,t,l,g,x,d,m,pl,T,X,p,λx j=>e _ (f x j)⟩
section
variable {prog:yZ}{w:jG}{A:jF}{E:yL}{s:yQ}
theorem sI{items:yJ}{a:List (yR×yA)}(T:A.units+8<vN)(L:A.handled=Z8)(hs:s0.heap.get? S=Z9 (TU w))(x:l≠S)(B:s0.heap.IsList l items)(hi:items.toList=a.map λt=>Value.ref t.1)(ht:∀t∈a,isT prog w s0.heap t.2 t.1)(z:items.size<=300){Q:yL}
  (h:∀(h':jH) (tk:Nat),W2 prog w (Wr w) (λb=>∃t∈a,t.1=b) h' S (Vi (λi=>(a.getD i (0,[])).2) items.size)->(∀b o,b≠S->s0.heap.get? b=Z9 o->h'.get? b=Z9 o)->Q .none { s0 with heap:=h',toks:=tk }) :
  wD (yV prog w) A (.call (.builtin "set.__init__") ⟨[.ref S,.ref l],[]⟩) (wants Q E) s0:=by
 have ty:s0.TypeIs (.ref S) "set":=⟨_,hs,rfl⟩
 refine codeAny_call_builtin PySem.F.called_set.init.plain PySem.F.entry_set_init (PySem.check_set_init_1 ty ?_);have u:S<s0.heap.objs.size:=qB3 hs;obtain⟨y,g,d,M,U⟩:=s0;obtain⟨N,p,j,V,f⟩:=id B;obtain⟨I,r,C,m⟩:=N;simp only at j f;subst j f;have P:=PySem.F.sub_list_set;have R:=PySem.F.sub_list_frozenset;have X:(Value.type "list" == Value.type "dict")=Z5:=by decide
 unfold Builtin.«set.__init__» noKeywords Builtin.Frozenset.updateFrom;generalize hPI:mT=PI;unfold TU at hs
 wp_walk
 subst hPI;refine jW B ?_;refine yO (m5 ?_);have n:l<y.objs.size:=qB3 p;have W:a.length=items.size:=by rw[<- yY,hi,qA0]
 have H:∀i,i<items.size->a[i]?=Z9 (a.getD i (0,[])):=λi h=>by rw[qA2 (by lia)];simp[qF4,show i<a.length by lia]
 have D:∀i,i<items.size->isT prog w y (a.getD i (0,[])).2 (a.getD i (0,[])).1:=λi h=>ht _ (qB5 (H i h));refine sJ (bt:=Wr w) (by simp;lia) ((Walks.list (by simp[L]) _ l (qB7 n) items).toS) S ?_ (λi=>(a.getD i (0,[])).2) (λi=>(a.getD i (0,[])).1) (λi v J=>?_) (λb=>∃t∈a,t.1=b) (λi c=>⟨⟨(D i c).ne hs rfl,λk=>?_⟩,_,qB5 (H i c),rfl⟩) z (items.size - 0) 0 _ rfl (qE6 _)
  ⟨⟨_,qA9 _ rfl,rfl,rfl⟩,B.push _⟩ (λi c=>(D i c).keep λo e=>qA3 _ e) ⟨_,#[],0,_,[],qA3 _ hs,⟨rfl,rfl,rfl⟩,rfl,TOk.fresh _,rfl,VZ.fresh _,⟨rfl,λ_ F=>by cases F⟩,.nil,λ_ F=>by cases F⟩ λO k K=>?_
 rotate_left
 .have:items.toList[i]?=Z9 v:=by rw[y8];exact J
  rw[hi,qB1]at this;cases q:a[i]? with
  |none=>rw[q]at this;cases this
  |some t=>rw[q]at this;cases this;simp[qF4,q]
 .have e:(a.getD i (0,[])).1=y.objs.size:=by simpa using k
  obtain⟨o,_,_,G,_⟩:=D i c;rw[e]at G;exact absurd (qB3 G) (qG3 _)
 rotate_left
 .simp only[qB0,qB6,qF8,or_false,not_or];exact⟨qB7 u,λe=>x e.symm⟩
 .rw[Moved.eq_with k];refine yP ?_;refine yP (h _ _ (K.weak λ_ h=>h.2) λb o z e=>?_);refine k.heap b o (λq=>?_) (qA3 _ e);rcases qB0.mp q with q|q
  .exact z q
  .rw[qB6.mp q]at e;exact absurd (qB3 e) (qG3 _)
theorem sH{items:yJ}{d:List (yR×yA)}{Q:yL}(J:A.units+16<vN)(C:A.handled=Z8)(u:s.heap.IsList l items)(hi:items.toList=d.map λt=>Value.ref t.1)(ht:∀t∈d,isT prog w s.heap t.2 t.1)(G:items.size<=300)
  (h:∀(h':jH) (tk:Nat),W2 prog w (Wr w) (λb=>∃t∈d,t.1=b) h' s.heap.objs.size (Vi (λi=>(d.getD i (0,[])).2) items.size)->(∀b o,s.heap.get? b=Z9 o->h'.get? b=Z9 o)->Q (.ref s.heap.objs.size) { s with heap:=h',toks:=tk }) :
  y7 (yV prog w) A (call (.type "set") [.ref l]) Q E s:=by
 obtain⟨c,L,v⟩:=PySem.F.called_set.mro;have k:=PySem.F.called_set.made;have x:=PySem.F.called_set.sub;refine wpAny_call (codeAny_of_tree ?_);show y7 _ _ (callAny (.type "set") _) _ _ _;refine yP ⟨Code.quiet_builtin _ (by decide),vC PySem.F.entry_type_call ?_⟩;rw[Around.under_plain (weight_type_call_type "set" [.ref l] []) rfl];have H:=PySem.F.called_set.notType;have I:=PySem.F.called_set.canCreate;have M:=PySem.F.typeCall_set_1 (.ref l)
 repeat (any_goals (first|assumption|wp_step))
 refine fE (uT (w:=w) (.ref l) (E:=E) (Q:=λobj p=>obj=.ref s.heap.objs.size/\p={ s with heap:=s.heap.push (TU w) }) ⟨rfl,rfl⟩) λr p n=>?_;cases r with
 |error e=>exact n
 |ok F =>
  cases F with
  |ret obj =>
   obtain⟨rfl,rfl⟩:=n;have y:(s.heap.push (TU w)).get? s.heap.objs.size=Z9 (TU w):=qA9 _ rfl;have K:Shared.TypeIs { s with heap:=s.heap.push (TU w) } (.ref s.heap.objs.size) "set":=⟨_,y,rfl⟩
   have D:=PySem.F.called_set.init.lookup;have B:=PySem.F.called_set.init.bind (.ref s.heap.objs.size)
   repeat (any_goals (first|assumption|wp_step))
   have f:l<s.heap.objs.size:=by obtain⟨o,g,_⟩:=id u;exact qB3 g
   refine fE (sI (E:=E) (w:=w) (s0:={ s with heap:=s.heap.push (TU w) }) (Q:=λr q=>r=.none/\∃h' tk,q={ s with heap:=h',toks:=tk }/\W2 prog w (Wr w) (λb=>∃t∈d,t.1=b) h' s.heap.objs.size (Vi (λi=>(d.getD i (0,[])).2) items.size)/\∀b o,s.heap.get? b=Z9 o->h'.get? b=Z9 o) (by simp;lia) (by simp[C]) y (qB7 f) (u.push _) hi (λt h=>(ht t h).keep λo e=>qA3 _ e) G λh' tk j kp =>
    ⟨rfl,h',tk,rfl,j,λb o e=>kp b o (qB7 (qB3 e)) (qA3 _ e)⟩) λz q a=>?_
   cases z with
   |error e=>exact a
   |ok m =>
    cases m with
    |ret r =>
     obtain⟨rfl,h',tk,rfl,j,kp⟩:=a
     repeat (any_goals (first|assumption|wp_step))
     exact h _ _ j kp
    |_=>exact a.elim
  |_=>exact n.elim
end
section
variable {prog:yZ}{w:jG}{A:jF}{E:yL}{s:yQ}{S:yR}{zs:List (yA)}{Lp:yR->Prop}
theorem isT.unpush(x:isT prog w (h.push o) k b)(i:o.cls=.type "list")(d:o.isFreed=Z5:=by rfl):isT prog w h k b:=by
 obtain⟨f,a,n,g,c,r⟩:=x;have:b≠h.objs.size:=λe=>by subst e;rw[qA9 _ d]at g;cases g;rw[i]at c;exact absurd c (by decide)
 exact⟨f,a,n,by rw[<- qL0 _ _ _ this];exact g,c,r⟩
theorem sG(hS:W2 prog w (Wr w) Lp s.heap S zs)(hh:A.handled=Z8)(L:yR)(K:L≠S)(n:yT)(P:s.heap.get? L=Z9 { cls:=.type "list",data:=.seq #[] })
  (hR:∀h' tk dr acc c,(∀b o,b≠L->s.heap.get? b=Z9 o->h'.get? b=Z9 o)->h'.get? L=Z9 { cls:=.type "list",dict:=Z8,data:=.seq acc c,slots:=#[] }->(∃a:List (yR×yA),acc.toList=a.map (λt=>Value.ref t.1)/\(a.map (·.2)).Perm zs/\∀t∈a,Lp t.1/\isT prog w s.heap t.2 t.1)->R (.ok (.ret n)) { s with heap:=h',toks:=tk,drawn:=dr }) :
  y7 (yV prog w) A.in1 (Builtin.List.listExtendWith (.ref L) (.ref S) n)
   (λfin s'=>match fin with|.done f=>R (.ok f) s'|.again B=>B.quiet=Z7/\wD (yV prog w) A B R s') (λe s'=>R (.error e) s') s:=by
 obtain⟨o,F,ep,t,xs,g,x,d,k,pl,T,X,p,V⟩:=hS;have f:=T.fits;have b:F.size<scanBound:=by have:=T.few;rcases T.m with e|e|e|e<;>rw[e]at this<;>(show _<4096)<;>lia
 refine yO (j9 ⟨o,g,x.1⟩ ?_);have U:Builtin.List.listSameRef (.ref L) (.ref S)=Z5:=by simp[Builtin.List.listSameRef,K]
 have h2:(Value.type "set" == Value.type "list")=Z5:=by decide
 have h3:(Value.type "set" == Value.type "tuple")=Z5:=by decide
 simp only[U];refine yO (uq g x d f k b λI h' dr kp W=>?_);have gS:=kp _ _ g;refine yO (jM (uo ⟨o,gS,x.1⟩ ?_));obtain⟨fp,St,vals,pv,W,st,hf,Y⟩:=W A.in1 hh;have lL:=qB3 P;have N:L∉fp:=λy=>by
  rcases hf L y with z|z
  .exact K z
  .exact absurd lL (Nat.not_lt.mpr z)
 have fin:∀acc,ItemsOf (λi v=>vals[i]?=Z9 v) acc F.size->∃a:List (yR×yA),acc.toList=a.map (λt=>Value.ref t.1)/\(a.map (·.2)).Perm zs/\∀t∈a,Lp t.1/\isT prog w s.heap t.2 t.1:=λacc Q=>by
  have Z:acc.toList=vals:=by refine qU1 (by rw[yY,Q.1,pv.length_eq,qA0,yY]) λj j1 j2=>?_;have O:vals[j]?=Z9 acc.toList[j]:=Q.2 j acc.toList[j] (by rw[<- y8];exact qA2 j1);rw[qA2 j2]at O;exact(Option.some.inj O).symm
  rw[Z];obtain⟨D,G,q2⟩:=K6 (f:=λx:yA×yR=>Value.ref x.2) pv xs (by rw[X.e,qC7];rfl);refine⟨D.map λx=>(x.2,x.1),by rw[q2,qC7];rfl,?_,λt ht=>?_⟩
  .rw[qC7];exact(G.map Prod.fst).trans p
  .obtain⟨x,M,rfl⟩:=qB9.mp ht;exact⟨V x (G.mem_iff.mp M),X.t x (G.mem_iff.mp M)⟩
 have J:∀h (c tk),St 0 h->(∀b o,b≠L->s.heap.get? b=Z9 o->h.get? b=Z9 o)->h.get? L=Z9 { cls:=.type "list",data:=.seq #[] c } ->
   wD (yV prog w) A (.builtin "list.extend.loop" ⟨[.ref L,.ref I,n],[]⟩) R { s with heap:=h,toks:=tk,drawn:=dr }:=by
  intro h c tk H hk q;refine codeAny_extend_loopS W.toS (fits_of_scanBound b) L N n F.size 0 _ #[] c rfl (qE6 _) H q (ItemsOf.nil _) λs' acc B y m u=>?_;rw[Moved.eq_with y];refine hR s'.heap s'.toks dr acc B (λb o r e=>y.heap b o (λl=>?_) (hk b o r e)) m (fin acc u);rcases qB0.mp l with e'|l
  .exact r e'
  .exact absurd (qB3 e) (by rw[qB6.mp l];exact Nat.not_lt.mpr Y)
 have q:=kp _ _ P;refine yO (vM (yO ?_));refine yO (mF q rfl ?_);have m:=qF9 (vA (·.push Value.none)) q rfl;refine mF m rfl ?_;have C:=qF9 (vA (·.pop)) m rfl;refine yP ⟨lF PySem.F.plain_extend_loop _,J _ _ _ ?_ (λb o r e=>?_) C⟩
 .refine W.frame 0 _ _ st λb r o e=>?_;have ne:b≠L:=λh=>N (h▸r);exact(qF3 _ _ (Ne.symm ne)).trans ((qF3 _ _ (Ne.symm ne)).trans e)
 .exact(qF3 _ _ (Ne.symm r)).trans ((qF3 _ _ (Ne.symm r)).trans (kp b o e))
theorem sF{R:yB->yQ->Prop}(l:W2 prog w (Wr w) Lp s.heap S zs)(m:A.handled=Z8)
  (h:∀(h':jH) tk dr (acc:yJ),(∀b o,s.heap.get? b=Z9 o->h'.get? b=Z9 o)->(∃a:List (yR×yA),acc.toList=a.map (λt=>Value.ref t.1)/\(a.map (·.2)).Perm zs/\∀t∈a,Lp t.1/\isT prog w s.heap t.2 t.1)->R acc.toList { s with heap:=h',toks:=tk,drawn:=dr }) :
  y7 (yV prog w) A (uF (.ref S)) R E s:=by
 have lt:S<s.heap.objs.size:=by obtain⟨o,_,_,_,_,g,_⟩:=id l;exact qB3 g
 refine yO (m5 (vC m6 ?_));refine yO (jV ?_);refine yP ⟨lF PySem.F.plain_list_iadd _,vC entry_list_iadd' ?_⟩;have p:(s.heap.push { cls:=.type "list",data:=.seq ([]).toArray }).get? s.heap.objs.size=Z9 { cls:=.type "list",data:=.seq #[] }:=qA9 _ rfl;have k:=sG (s:={ s with heap:=s.heap.push { cls:=.type "list",data:=.seq ([]).toArray } })
  (R:=λq j=>∃(h':jH) (tk:Nat) (dr:mR) (acc:yJ) (c:Nat),q=.ok (.ret (.ref s.heap.objs.size))/\j={ s with heap:=h',toks:=tk,drawn:=dr } /\
   (∀b o,s.heap.get? b=Z9 o->h'.get? b=Z9 o)/\h'.get? s.heap.objs.size=Z9 { cls:=.type "list",dict:=Z8,data:=.seq acc c,slots:=#[] }/\∃a:List (yR×yA),acc.toList=a.map (λt=>Value.ref t.1)/\(a.map (·.2)).Perm zs/\∀t∈a,Lp t.1/\isT prog w s.heap t.2 t.1)
  (l.at λb o _ e=>qA3 _ e) m s.heap.objs.size (qL1 lt) (.ref s.heap.objs.size) p
  (λh' tk dr acc c hk i d=>⟨h',tk,dr,acc,c,rfl,rfl,λb o e=>hk b o (qB7 (qB3 e)) (qA3 _ e),i,d.imp λa q=>⟨q.1,q.2.1,λt ht=>⟨(q.2.2 t ht).1,(q.2.2 t ht).2.unpush rfl⟩⟩⟩)
 refine jS k (λfin j x=>?_) λe j x=>?_
 .cases fin with
  |done f =>
   obtain⟨h',tk,dr,acc,c,e,rfl,hk,i,d⟩:=x;cases e;refine yO (lS i ?_);exact yP (h h' tk dr acc hk d)
  |again u =>
   refine⟨x.1,fE x.2 λq r y=>?_⟩;obtain⟨h',tk,dr,acc,c,rfl,rfl,hk,i,d⟩:=y;refine yO (lS i ?_);exact yP (h h' tk dr acc hk d)
 .obtain⟨_,_,_,_,_,n,_⟩:=x;cases n
end
def X5(l:List (yA)):List (yA):=l.foldl YE []
theorem E5(l:List (yA))(val:Nat->yA)(a:∀i k,l[i]?=Z9 k->val i=k):∀i,i<=l.length->Vi val i=X5 (l.take i)
 |0,_=>by simp[Vi,X5]
 |i+1,h=>by have b:=h;show YE (Vi _ i) _=_;rw[E5 l val a i (by lia),qN1 b,X5,X5,qP6,a i _ (qA2 b)];rfl
theorem E4:∀(l z:List (yA)),(l.foldl YE z).length<=z.length+l.length
 |[],z=>qA7 _
 |a::l,z=>by
  refine qD4 (E4 l _) ?_;have:(YE z a).length<=z.length+1:=by unfold YE;split<;>simp
  simp;lia
theorem sD{ks:yA}{a:yB}(h:ItemsAre (vL prog w) ks a):vI a ks:=by
 induction h with
 |nil=>exact .nil
 |cons hk _ b =>
  obtain⟨t,rfl⟩:=Value.isInt_shape hk;exact .cons _ _ b
theorem sC{a:yA}{vs:yB}(h:vI vs a):ItemsAre (vL prog w) a vs:=by
 induction h with
 |nil=>exact .nil
 |cons i t _ b=>exact .cons (intKind_is _ _ _ _) b
section
variable {prog:yZ}{w:jG}{A:jF}{E:yL}{s:yQ}{r:yR}
theorem isT.tupI(x:isT prog w h k b):Yf h (.ref b) k:=by obtain⟨o,a,n,g,c,d,i⟩:=x;exact⟨b,a,rfl,⟨o,g,c,n,d⟩,sD i⟩
theorem sA{Q:yL}(P:yR×yA->Prop)(u:nss.length<=jC)(G:Vm nss.length)(J:A.units+2<vN)
  (F:∀(A:jF) (E:yL) (R:yB->yQ->Prop),A.handled=Z8->(∀(h':jH) (tk:Nat) (dr:mR) (c:List (yR×yA)),(∀b o,s.heap.get? b=Z9 o->h'.get? b=Z9 o)->(c.map (·.2)).Perm nss->(∀t∈c,P t/\isT prog w s.heap t.2 t.1)->R (c.map λt=>.ref t.1) { s with heap:=h',toks:=tk,drawn:=dr })->y7 (yV prog w) A (uF (.ref r)) R E s)
  (D:A.handled=Z8)
  (h:∀(j:jH) (l:yR) (h':jH) (tk:Nat) (dr:mR) (e:Nat) (a:List (yR×yA)),(∀b o,s.heap.get? b=Z9 o->j.get? b=Z9 o)->(∀b o,j.get? b=Z9 o->h'.get? b=Z9 o)->j.objs.size<=l->h'.get? l=Z9 (j8 "list" (a.map λt=>Value.ref t.1).toArray e)->(a.map (·.2)).Perm nss->(∀t∈a,P t)->Vl a->Q (.ref l) { s with heap:=h',toks:=tk,drawn:=dr }) :
  y7 (yV prog w) A (call (.builtin "sorted") [.ref r]) Q E s:=by
 refine v9 mZ mB mC (mD _) ?_;refine yO (yP ?_);refine yO (F _ _ _ D λh' tk dr c hk n q=>?_);have d:(c.map λt=>Value.ref t.1).length=nss.length:=by rw[qA0,<- n.length_eq,qA0]
 refine yO (wI ?_ (by rw[d];exact u));have f:(h'.push (j8 "list" (c.map λt=>Value.ref t.1).toArray 0)).get? h'.objs.size=Z9 (j8 "list" (c.map λt=>Value.ref t.1).toArray 0):=qA9 _ rfl;show y7 _ _ _ _ _ { s with heap:=h'.push (j8 "list" (c.map λt=>Value.ref t.1).toArray 0),toks:=tk,drawn:=dr };have k:∀t∈c,Yf (h'.push (j8 "list" (c.map λt=>Value.ref t.1).toArray 0)) (.ref t.1) t.2:=λt ht=>((q t ht).2.tupI).mono λb o _ g=>qA3 _ (hk b o g);refine yO (jM (jI gH ⟨_,f,rfl⟩ f6 (Fn f (λv z=>?_) (by rw[d];exact u) (by exact G) (by omega) λout H p=>⟨_,rfl,?_⟩) (gJ _)))
 .obtain⟨t,ht,rfl⟩:=qB9.mp z;exact⟨t.2,k t ht⟩
 obtain⟨a,i,rfl⟩:=Fm _ H c rfl;obtain⟨e,I⟩:=lG f;refine yP ⟨_,rfl,h h' h'.objs.size _ tk dr e a hk (λb o g=>?_) (qA7 _) I ((i.map (·.2)).trans n) (λt ht=>(q t (i.mem_iff.mp ht)).1) ?_⟩
 .have lt:=qB3 g;rw[gK (qB7 lt) (by rw[wY];exact qE9 lt)];exact qA3 _ g
 .rw[qH0]at p;refine p.imp_of_mem λ{x y} C B m=>?_;rwa[(k x (i.mem_iff.mp C)).kd,(k y (i.mem_iff.mp B)).kd]at m
end
section
variable {X:Cx}{a:jE}{ta:TA}{p p2 pos pos2:Pos}
theorem sy{Z:St}{a:yR}(I:ZP X b Z H s)(h:Zp X.K H a (f.map V.int)):isT X.prog X.w s.heap f a:=by obtain⟨e,r,⟨o,g,c,n,d⟩,_⟩:=I.tuple h;exact⟨o,e.toArray,n,g,c,d,by simpa using sC (SX r)⟩
def E3(K:yS)(e:TA):TE:=fun Z H Q=>e Z H λf c=>∃(l:yR) (d:List (yR×yA)),f=[.ref l]/\YK K c l (d.map λt=>V.ref t.1)/\(∀t∈d,c t.1=Z9 (.tup (t.2.map V.int)))/\d.length<=300/\∀(q:yR) (b:List (yR×yA)),c q=Z8->(∀t∈b,c t.1=Z9 (.tup (t.2.map V.int)))->(b.map (·.2)).Perm (X5 (d.map (·.2)))->Vl b->Q (.ref q) (ZC c q (.lst (b.map λt=>V.ref t.1)))
theorem sx(B:X.calm=Z7)(hu:X.A.units+64<vN)(W:Gl X "sorted")(hm:X.mg "sorted"=Z8)(w:Gl X "set")(v:X.mg "set"=Z8)(Y:PA X [a] ta)(hs:jL [a] X.env=[(Z5,v7 a X.env)]:=by rfl):
  PE X (.Call (.Name "sorted" p) [.Call (.Name "set" p2) [a] [] pos2] [] pos) (E3 X.K ta):=by
 intro d s Z H Q I h;refine wW (T3 I W hm PyProof.Rows.boot_sorted ?_);refine fM ?_ rfl rfl;refine Calls.spliced_cons (Call_ (T3 I w v PyProof.Rows.boot_set (vG (Zq (Y pos2 d s Z H _ I h) λus s1 ⟨vs,H1,g,r1,M⟩=>?_) (by rw[hs];rfl) rfl)));obtain⟨l,c,rfl,hq,ht,hn,q⟩:=M;obtain⟨u,rfl,T⟩:=XS r1;cases T;obtain⟨its,S,pl,hz⟩:=g.list hq;have ei:=Li S;subst ei;have C:=λt h=>sy g (Zp.of (ht t h));have hb:(c.map λt=>Value.ref t.1).toArray.size<=300:=by rw[qB2,qA0];exact hn
 refine sH (by lia) (g.ok.hd B) pl.isList (by simp) C hb λh1 D y kp=>Calls.spliced_nil ?_;have L:Vi (λi=>(c.getD i (0,[])).2) (c.map λt=>Value.ref t.1).toArray.size=X5 (c.map (·.2)):=by
  rw[qB2,qA0,E5 (c.map (·.2)) _ (λi k h=>by
   rw[qB1]at h;cases q:c[i]? with
   |none=>rw[q]at h;cases h
   | some t=>rw[q]at h;cases h;simp[qF4,q]) _ (by rw[qA0];exact qA7 _),<- qA0,qG2]
 rw[L]at y;have G:(X5 (c.map (·.2))).length<=300:=by
  have:=E4 (c.map (·.2)) [];unfold X5;simp at this
  lia
 refine sA (nss:=X5 (c.map (·.2))) (λt=>t∈c) (by rw[vF];lia) (by first|exact trivial|exact qH3 G (by decide)) (by lia) (λA E R O P=>sF y O λn D dr acc k2 ⟨r,e,m,x⟩=>?_) (g.ok.hd B) λh2 l2 h3 f dr e j k2 N J g3 m V hw=>?_
 .rw[e];refine P n D dr r k2 m λt h=>⟨?_,(x t h).2⟩
  obtain⟨⟨t',n,z⟩,U⟩:=x t h;have K:=(C t' n).keep λo e=>kp _ o e;rw[z]at K;have:=(lI (vL X.prog X.w)).inj K U;have:=Prod.ext z.symm this.symm;rw[this];exact n
 .have F:=(g.kept (t':=f) λb o e=>k2 b o (kp b o e)).dr dr;refine⟨.ref l2,_,F.laid (t':=f) N J ?_,rfl,q _ _ (F.hok.fresh J) (λt h=>ht t (V t h)) m hw⟩;have hl:j.length<=300:=by rw[<- qA0,m.length_eq];exact G
  exact⟨by rw[qA0,vF];lia,_,e,Lh j,by simpa using g3⟩
end
def Uu(a:yR)(o:Obj):It :=
 ⟨λi H=>∃b,H a=Z9 (.frz o (.dK b))/\i<b.length,λi H x c=>c=H/\∀b,H a=Z9 (.frz o (.dK b))->∃p,b[i]?=Z9 p/\x=kV p.1,λi H=>∃b,H a=Z9 (.frz o (.dK b))/\b.length<=i⟩
theorem sv{prog:yZ}{w:jG}:∀{es:List fP}{a:List (ZF×yT)},Pairs (Yt prog w) es a->∀{i:Nat}{q:ZF×yT},a[i]?=Z9 q->∃e,es[i]?=Z9 e/\(Yt prog w).is q.1 e.key=Z7:=by
 intro es a h
 induction h with
 |nil=>intro i q e;simp at e
 |cons b d _ c =>
  intro i q e;cases i with
  |zero=>simp at e;subst e;exact⟨_,rfl,b⟩
  |succ i=>exact c (by simpa using e)
theorem su:∀{es:List fP}{a:List (ZF×yT)},Pairs (Yt prog w) es a->es.length=a.length:=by
 intro es a h
 induction h with
 |nil=>rfl
 |cons _ _ _ b=>simp[b]
inductive sk(X:Cx)(H:Hp)(h:jH)(a:yR)(o:Obj)(kvs:List (ZF×V)):Prop
 |mk (es:Array fP) (ep:Nat) (vs:List (ZF×yT)) (g:h.get? a=Z9 o) (c:o.cls=.type "dict") (d:o.data=.dict es ep) (r:KV kvs vs) (p:Pairs (Yt X.prog X.w) es.toList vs) (lo:(a == vY)=Z5) (z:kvs.length<=jC)
theorem K4{Z:St}(I:ZP X b Z H s)(e:H a=Z9 (.frz o (.dK kvs))):sk X H s.heap a o kvs:=by
 obtain⟨g,z,h,l,r,m,f,i,c,d,k,n,j,p⟩:=(I.hok a _ e)
 rw[g]at c;cases c;exact⟨f,i,l,g,d.1,k,r,j,h,z⟩
theorem sj(h:U1 k v=Z7):ZG (kV k) v:=by
 rcases U0 h with⟨i,t,rfl,rfl⟩| ⟨x,t,rfl,rfl⟩
 .exact⟨t,rfl⟩
 .exact⟨t,rfl⟩
theorem si{P:yZ}{w:jG}{K:yS}{tg:jE}(a m:yR)(o:Obj)(es:Array fP)(ep:Nat)(x:o.data=.dict es ep):W5 P w K tg (Uu a o) [m] m (λi h=>h.IsKeyIter m a i es.size ep) where
 mem:=by simp
 obj:=λi h f b l=>by
  have e:=by simpa using l
  subst e;obtain⟨o,e,c,d⟩:=f;exact⟨o,e,λv z=>by rw[d]at z;cases z⟩
 keep:=λi h Y f k=>f.at λo e=>k m (by simp) o e
 item:=by
  intro X hP hw U W i n s Z H E I y f L;obtain⟨R,A,C⟩:=L;obtain⟨J,M,S,g,c,d,r,p,lo,z⟩:=K4 I A;rw[x]at d;cases d;obtain⟨N,Q,f2,D,G,O⟩:=y m (by simp);have B:i<S.length:=by rw[<- Paired.length r];exact C
  obtain⟨q,u⟩:∃q,S[i]?=Z9 q:=⟨_,qA2 B⟩
  obtain⟨e,he,hk⟩:=sv p u;have j:es[i]?=Z9 e:=by rw[<- y8];exact he
  refine uW f ⟨o,g,c,x⟩ j λY t sb=>?_;have I1:=I.turned (t':=s.toks) (λb o l e=>(sb.2 b l).trans e) N Q D G O;obtain⟨oi,ei,ci,di⟩:=id t;refine⟨_,rfl,ON ei ci di (by decide) ⟨kV q.1,H,I1,sj hk,⟨rfl,λT V=>?_⟩,t,λb l=>(y b l).1⟩⟩;rw[A]at V;cases V;obtain⟨p',F,hr⟩:=Os r u;exact⟨p',F,by rw[hr.1]⟩
 done:=by
  intro X hP hw U W i n s Z H E I y f L;subst hP hw U;obtain⟨R,A,C⟩:=L;obtain⟨J,M,S,g,c,d,r,p,lo,z⟩:=K4 I A;rw[x]at d;cases d;obtain⟨N,Q,f2,D,G,O⟩:=y m (by simp);have j:es[i]?=Z8:=by rw[<- y8,qR5];rw[su p,<- Paired.length r];exact C
  exact LD (I.ok.hd W) f ⟨o,g,c,x⟩ j λY eb=>⟨rfl,I.turned (t':=s.toks) (λb o l e=>eb b o l e) N Q D G O⟩
 self:=λ_ _ _ _ _ f h=>wpAny_pyIter_keyiter f h
theorem ZP.freeze{Z:St}(I:ZP X c Z H s)(e:H a=Z9 (.dK kvs)):∃o,ZP X c Z (ZC H a (.frz o (.dK kvs))) s:=by
 obtain⟨z,k,t,r,o,i,l,d,h,p,j,n,m⟩:=(I.hok a _ e)
 refine⟨o,?_⟩;have g:R1 (H a):=by rw[e];trivial
 have f:Yc X.prog X.w (ZC H a (.frz o (.dK kvs))) s.heap:=I.hok.write g (.inl rfl) (λb u _ q=>q) ⟨o,d⟩ ⟨d,z,k,t,r,o,i,l,d,h,p,j,n,m⟩;exact I.un (t':=s.toks) (Un.write g (.inl rfl) (λb u _ q=>q) ⟨o,d⟩) f
section
variable {X:Cx}{tg e:jE}
theorem sf{Z:St}(m:ZP X f Z i s1)(q:∃kvs,((i a=Z9 (.dK kvs)/\∀o,R (Uu a o) (ZC i a (.frz o (.dK kvs))))∨∃o,i a=Z9 (.frz o (.dK kvs))/\R (Uu a o) i)):y7 (yV X.prog X.w) X.A (mT (.ref a)) (OO X f Z tg R) X.xe s1:=by
 obtain⟨kvs,q⟩:=q;have l:∀{j:Hp}{o:Obj},ZP X f Z j s1->j a=Z9 (.frz o (.dK kvs))->R (Uu a o) j->y7 (yV X.prog X.w) X.A (mT (.ref a)) (OO X f Z tg R) X.xe s1:=by
  intro j o h k q;obtain⟨n,u,v,g,c,d,r,p,s,z⟩:=K4 h k;refine uV s ⟨o,g,c,d⟩ ?_;refine⟨s1.heap.objs.size,[s1.heap.objs.size],_,_,j,rfl,h.kept (t':=s1.toks) λb o e=>qA3 _ e,si a _ o n u d,⟨_,qA9 _ rfl,rfl,rfl⟩,λb t=>?_,q⟩;have e:=by simpa using t
  subst e;exact h.fpOk (qA7 _) (h.hok.fresh (qA7 _))
 rcases q with⟨k,q⟩| ⟨o,k,q⟩
 .obtain⟨o,h⟩:=m.freeze k;exact l h Xx (q o)
 .exact l m k q
end
section
variable {X:Cx}
theorem r8:RW X "dict.update" (λx c H Q=>∃a b kvs more,x=.ref a/\c=[.ref b]/\a≠b/\H a=Z9 (.dK kvs)/\Rd H b (.dK more)/\kvs.length+more.length<=jC/\Q .non (ZC H a (.dK (Wa kvs more)))):=by
 intro g s Z H x c v B Q I m p h;obtain⟨a,b,kvs,more,rfl,rfl,d,j,t,f,q⟩:=h;cases m;obtain⟨u,rfl,r⟩:=XS p;cases r;obtain⟨C,RK,c,l,k⟩:=RT I.hok j;obtain⟨D,QD,n,e,z⟩:=T1 I.hok t;refine call_meetsIn lH k.typeIs PySem.F.entry_dict_update (PySem.F.args_dict_update_2 _ _) (meets_dict_update (Yt X.prog X.w) a b d QD) ⟨c,n,k,z,by rw[<- Paired.length l,<- Paired.length e];exact f,λo i A sb=>?_⟩;have w:=qD4 (OE more kvs) f;have y:∃q,o.get? a=Z9 q:=let ⟨q,_,_,hq,_⟩:=i;⟨q,hq⟩
 exact⟨.non,ZC H a (.dK (Wa kvs more)),OH (t':=s.toks) I (by rw[j];exact True.intro) sb y (OG w RK (KV.merge e l) i),rfl,q⟩
theorem E2:YB X (.builtin "len") (λxs H Q=>∃a kvs,xs=[.ref a]/\Rd H a (.dK kvs)/\Q (.int (kvs.length:Int)) H):=by intro b s Z H xs g Q I r h;obtain⟨a,kvs,rfl,e,q⟩:=h;obtain⟨u,rfl,c⟩:=XS r;cases c;exact xJ I e λt f d=>⟨.int _,H,d,⟨t,rfl⟩,q⟩
end
section
variable {prog:yZ}{w:jG}{A:jF}{E:yL}{s:yQ}{z:yR}
theorem r0{Q:yF->yQ->Prop}{xs:yJ}{sl:Array (yF)}(hz:s.heap.get? z=Z9 { cls:=.type "list",dict:=Z8,data:=.seq xs n,slots:=sl })(c:A.handled=Z8)(a:∀h' tk,(∀b o,s.heap.get? b=Z9 o->h'.get? b=Z9 o)->Q Z8 { s with heap:=h',toks:=tk }):
  y7 (yV prog w) A (getAttr? (.ref z) (Str.ofString "keys")) Q E s:=by
 refine yO (wpAny_mkText ?_);refine yO (vH (jM (yO (j9 ⟨_,hz,rfl⟩ ?_))));refine yO (yP ?_);refine yO (yP ?_);refine yO (vH (jM ?_));refine jI F.slot_list_getattribute ⟨_,hz,rfl⟩ am_entry_list_getattribute ?_ (F.args_list_getattribute_2 _ _);refine yO (yP ?_);refine yO (yP ?_);refine yO (j9 ⟨_,hz,rfl⟩ ?_);refine yO (yO (yP (yO (yP (yO (yP ?_))))));refine yO (yO (yO (lS hz ?_)));refine yO (wpAny_loadPart hz ?_);refine yP ?_;refine yP ?_;refine yO (yP ?_);refine yO (vM (yP ?_));refine yO (yO (yO (j9 ⟨_,hz,rfl⟩ (yP ?_))));refine yP ?_;refine wpAny_raiseAttrError c (λh' tk e ne=>?_) (by size_fits);have ty:∀g d os,Shared.TypeIs { heap:=h',gens:=g,drawn:=d,toks:=tk,os:=os } (.ref e) "AttributeError":=λg d os=>let ⟨_,_,q⟩:=ne.there;⟨_,q,rfl⟩
 refine yO (vX (ty _ _ _) F3 ?_);refine yO (yP ?_);refine yO (wpAny_throw ?_);refine yO (vX (ty _ _ _) F3 ?_);exact yP (a h' tk ne.keeps)
structure VX where
 t:yR
 k:ZF
 key:yT
 v:yT
def VX.at(q:VX)(h:jH):Prop:=∃o n,h.get? q.t=Z9 o/\o.cls=.type "tuple"/\o.data=.seq #[q.key,q.v] n
structure DL(prog:yZ)(w:jG)(it l d:yR)(items:yJ)(qs:List VX)(h0:jH):Prop where
 n:items.size=qs.length
 e:∀(i:Nat) (q:VX),qs[i]?=Z9 q->items[i]?=Z9 (Value.ref q.t)
 k:∀q∈qs,(Yt prog w).is q.k q.key=Z7
 p:∀q∈qs,q.at h0
 l:h0.IsList l items
 fr:∀c o,h0.get? c=Z9 o->c≠it/\c≠d
 nd:it≠d
abbrev Ut(xs:List (ZF×yT))(b:List VX):List (ZF×yT):=b.foldl (λa q=>uJ a q.k q.v) xs
theorem rZ(xs:List (ZF×yT))(k:ZF)(v:yT):(uJ xs k v).length<=xs.length+1:=by
 unfold uJ;split
 .rw[qA0];lia
 .simp
theorem rY{g l d:yR}{items:yJ}{a:List VX}{t:jH}(ZZ:DL prog w g l d items a t)(K:A.handled=Z8){R:dN->yQ->Prop}:∀(m k:Nat) (s:yQ) (xs:List (ZF×yT)),k+m=a.length->xs.length+m<=jC->s.heap.IsListIter g l k->s.heap.DictOf (Yt prog w) d xs->(∀c o,t.get? c=Z9 o->s.heap.get? c=Z9 o) ->
  (∀h' tk,h'.DictOf (Yt prog w) d (Ut xs (a.drop k))->(∀c o,t.get? c=Z9 o->h'.get? c=Z9 o)->R (.ok (.ret .none)) { s with heap:=h',toks:=tk }) ->
  wD (yV prog w) A (.builtin "dict.update.loop" ⟨[.ref d,.ref g,gD (k:Int),.none],[]⟩) R s:=by
 intro m
 induction m with
 |zero =>
  intro k s xs hk M B dr e f;refine vC F2 ?_;have S:=ZZ.n;refine yO (mJ K B (qN6.at ZZ.l λo q=>e _ o q) (by simp;lia) λh' G=>?_);refine yP ?_;have O:a.drop k=[]:=qM9 (by lia);rw[O]at f;refine f h' s.toks ?_ λc o q=>G c o (ZZ.fr c o q).1 (e c o q);obtain⟨o,j,y,h,r⟩:=dr;exact⟨o,j,y,G _ _ (Ne.symm ZZ.nd) h,r⟩
 |succ m J =>
  intro k s xs hk M B dr e f;refine vC F2 ?_;have x:k<a.length:=by lia
  have P:=qA2 x;have F:=qD6 x;refine yO (lT B (qN6.at ZZ.l λo q=>e _ o q) (ZZ.e k _ P) λH p sb=>?_);have C:=λc o q=>(sb.2 c (ZZ.fr c o q).1).trans (e c o q);obtain⟨o,n,h,L,N⟩:=ZZ.p _ F;have b:=C _ _ h;have i:H.DictOf (Yt prog w) d xs:=by obtain⟨o,j,y,q,r⟩:=dr;exact⟨o,j,y,(sb.2 d (Ne.symm ZZ.nd)).trans q,r⟩
  refine yO (jM (yO (wpAny_tryCatch ?_)));refine yO (j9 ⟨_,b,L⟩ ?_);refine yO (vB b N (yP ?_));refine jM (wpAny_dictSet_pairs (ZZ.k _ F) i (λQ I D=>?_) (by lia));refine yP ⟨F1 _,?_⟩;refine J (k+1) _ _ (by lia) (by have:=rZ xs a[k].k a[k].v;lia) (p.at λo q=>(D.2 g ZZ.nd).trans q) I (λc o q=>(D.2 c (ZZ.fr c o q).2).trans (C c o q)) λh' u v ex=>f h' u ?_ ex;rw[qF5 x];exact v
theorem rX{items:yJ}{sl:Array (yF)}{Q:yL}(k:A.handled=Z8)(p:s.heap.get? l=Z9 { cls:=.type "list",dict:=Z8,data:=.seq items n,slots:=sl })(C:items.size=a.length)(he:∀(i:Nat) (q:VX),a[i]?=Z9 q->items[i]?=Z9 (Value.ref q.t))(hk:∀q∈a,(Yt prog w).is q.k q.key=Z7)(x:∀q∈a,q.at s.heap)(hz:a.length<=jC)
  (y:∀h' tk,h'.DictOf (Yt prog w) s.heap.objs.size (Ut [] a)->(∀c o,s.heap.get? c=Z9 o->h'.get? c=Z9 o)->Q (.ref s.heap.objs.size) { s with heap:=h',toks:=tk }) :
  y7 (yV prog w) A (call (.type "dict") [.ref l]) Q E s:=by
 refine callType_codes F.kt_called_dict (F.kt_typeCall_dict_1 _) F.entry_dict_init (kt_code_dict_new (Q₁:=λobj m=>obj=.ref s.heap.objs.size/\m={ s with heap:=s.heap.push { cls:=.type "dict",data:=.dict #[] } }) _ ⟨rfl,rfl⟩) λobj m D=>?_;obtain⟨rfl,rfl⟩:=D;have t:(s.heap.push { cls:=Value.type "dict",data:=Data.dict #[] }).get? s.heap.objs.size=Z9 { cls:=Value.type "dict",data:=Data.dict #[] }:=qA9 _ rfl;have ty:Shared.TypeIs { s with heap:=s.heap.push { cls:=Value.type "dict",data:=Data.dict #[] } } (.ref s.heap.objs.size) "dict":=⟨_,t,rfl⟩
 refine⟨ty,F.args_dict_init_2 _ _,?_⟩;refine yO (yO (mL ty ?_));refine yO (yP (yP ?_));have b:=qA3 { cls:=Value.type "dict",data:=Data.dict #[] } p;refine yO (j9 ⟨_,b,rfl⟩ ?_);refine yO (r0 b k λf tk k2=>?_);refine yO (vM ?_);have g:=k2 _ _ b;have v:f.IsList l items:=⟨_,g,rfl,n,rfl⟩
 refine yO (jW v ?_);refine yP ⟨F1 _,?_⟩;have d:∀c o,s.heap.get? c=Z9 o->c<s.heap.objs.size:=λc o e=>qB3 e;have le2:=qB3 (k2 _ _ t);have ex:∀c o,s.heap.get? c=Z9 o->(f.push { cls:=.type "list_iterator",data:=.fields #[.ref l,.int 0 0] }).get? c=Z9 o:=λc o q=>qA3 _ (k2 _ _ (qA3 _ q));have G:f.DictOf (Yt prog w) s.heap.objs.size []:=by
  obtain⟨o,u,B,q,r⟩:=(Heap.DictOf.new (knd:=Yt prog w) s.heap)
  exact⟨o,u,B,k2 _ _ q,r⟩
 have ZZ:DL prog w f.objs.size l s.heap.objs.size items a s.heap:=⟨C,he,hk,x,⟨_,p,rfl,n,rfl⟩,λc o e=>⟨by have:=d c o e;simp only[yR]at *;lia,by have:=d c o e;simp only[yR]at *;lia⟩,by simp only[yR]at *;lia⟩
 refine rY (A:=A.in1) ZZ k a.length 0 _ [] (by lia) (by simpa using hz) ⟨_,qA9 _ rfl,rfl,rfl⟩ (G.push _) ex λh' h dr j=>⟨rfl,y h' h (by simpa using dr) j⟩
end
section
variable {X:Cx}
theorem E1:∀(a:List VX) (ps:List (ZF×V)),a.map (·.k)=ps.map (·.1)->(∀(i:Nat) (q:VX) (p:ZF×V),a[i]?=Z9 q->ps[i]?=Z9 p->ZG p.2 q.v)->∀{kvs:List (ZF×V)}{vs:List (ZF×yT)},KV kvs vs->KV (Wa kvs ps) (Ut vs a)
 |[],[],_,_,kvs,vs,r=>r
 |[],_::_,h,_,_,_,_=>by cases h
 |_::_,[],h,_,_,_,_=>by cases h
 |q::a,p::ps,h,hr,kvs,vs,r=>by rw[qB8,qB8,qK3.injEq]at h;have:=E1 a ps h.2 (λi q p b c=>hr (i+1) q p (by simpa using b) (by simpa using c)) (r.put q.k (hr 0 q p rfl rfl));show KV (Wa (Y2 kvs p.1 p.2) ps) (Ut (uJ vs q.k q.v) a);rw[<- h.1];exact this
def K3(H:Hp):List V->List (ZF×V)->Prop:=mQ λv (p:ZF×V)=>∃t,v=.ref t/\H t=Z9 (.tup [kV p.1,p.2])
theorem rW{d:yD}{Z:St}{H:Hp}{s:yQ}(I:ZP X d Z H s):∀{xs:List V}{ps:List (ZF×V)}{c:yB},K3 H xs ps->ZO xs c->∃a:List VX,c.length=a.length/\(∀(i:Nat) (q:VX),a[i]?=Z9 q->c[i]?=Z9 (Value.ref q.t))/\(∀q∈a,(Yt X.prog X.w).is q.k q.key=Z7)/\(∀q∈a,q.at s.heap)/\a.map (·.k)=ps.map (·.1)/\∀(i:Nat) (q:VX) (p:ZF×V),a[i]?=Z9 q->ps[i]?=Z9 p->ZG p.2 q.v:=by
 intro xs ps c h
 induction h generalizing c with
 |nil=>intro r;cases r;exact⟨[],rfl,λi q e=>(by simp at e),λq h=>(by cases h),λq h=>(by cases h),rfl,λi q p e=>(by simp at e)⟩
 |@cons x p xs ps y _ m =>
  intro r;obtain⟨t,rfl,ht⟩:=y;cases r with
  |@cons _ u _ c E r =>
   cases (E);obtain⟨a,z,G,B,F,L,A⟩:=m r;obtain⟨M,D,⟨o,l,C,n,J⟩,_⟩:=I.tuple (Zp.of ht);obtain⟨k,v,rfl,w,g⟩:=QR D;refine⟨⟨t,p.1,k,v⟩::a,by simp[z],λi q e=>?_,λq b=>?_,λq b=>?_,by simp[L],λi q K f j=>?_⟩
   .cases i with
    |zero=>simp at e;subst e;rfl
    |succ i=>exact G i q (by simpa using e)
   .rcases qB0.mp b with rfl|b
    .exact SW w
    .exact B q b
   .rcases qB0.mp b with rfl|b
    .exact⟨o,n,l,C,J⟩
    .exact F q b
   .cases i with
    |zero=>simp at f j;subst f j;exact g
    |succ i=>exact A i q K (by simpa using f) (by simpa using j)
theorem rV(p:X.calm=Z7):YB X (.type "dict") (λk H Q=>∃(l:yR) (xs:List V) (ps:List (ZF×V)),k=[.ref l]/\H l=Z9 (.lst xs)/\K3 H xs ps/\xs.length<=jC/\∀q,H q=Z8->Q (.ref q) (ZC H q (.dK (Wa [] ps)))):=by
 intro d s Z H k E Q I r h;obtain⟨l,xs,ps,rfl,C,x,m,q⟩:=h;obtain⟨u,rfl,z⟩:=XS r;cases z;obtain⟨_,D,n,f,_,e⟩:=I.lstM C;obtain⟨g,c,B,t,A,j,o⟩:=rW I x f;have a:g.length<=sizeLine:=by rw[<- c,<- f.length];exact m
 refine rX (I.ok.hd p) e (by simpa using c) (λi q e=>by simpa using B i q e) t A a λF v dr ex=>?_;have y:=E1 g ps j o .nil;have b:=(LV (P:=X.prog) (w:=X.w) (H:=H) s.heap I.big).2.1;refine⟨.ref s.heap.objs.size,ZC H s.heap.objs.size (.dK (Wa [] ps)),I.laid (t':=v) ex (qA7 _) (OG ?_ b y dr),rfl,q _ (I.hok.fresh (qA7 _))⟩;refine qD4 (OE ps []) ?_;have:=congrArg qJ3 j;simp at this;simp;lia
end
def K2(x y:yW):Bool:=decide (uH x.1<uH y.1)
theorem rT:Yp K2:=⟨λx y h=>by
 have:=of_decide_eq_true h;exact decide_eq_false (by lia),λx y z h k=>by
 have:=of_decide_eq_false h;have:=of_decide_eq_false k;exact decide_eq_false (by lia)⟩
theorem K1:∀{a:yB},(∀v∈a,∃i t,v=Value.int i t)->vI a (a.map uH)
 |[],_=>.nil
 |v::a,h=>by obtain⟨i,t,rfl⟩:=h v (qE3 ..);exact .cons i t (K1 λu b=>h u (qC5 _ b))
section
variable {prog:yZ}{w:jG}{A:jF}{E:yL}{s:yQ}
theorem rS:YU prog w A s oneType' K2 (λx=>∃i t,x.1=Value.int i t):=by rintro⟨x,d⟩ ⟨y,e⟩ ⟨i,t,c⟩ ⟨j,u,a⟩ Q b;subst c a;exact oneLt_int b
theorem rR{b:yB}(j:s.heap.get? a=Z9 (j8 "list" b.toArray n))(hv:∀v∈b,∃i t,v=Value.int i t)(hz:b.length<=jC)
  (h:∀out:yB,out.Perm b->out.Pairwise (λx y=>decide (uH y<uH x)=Z5)->P (.done (.ret .none)) { s with heap:=sortedHeap s.heap a b out.toArray }) :
  y7 (yV prog w) A (Builtin.«list.sort» ⟨[.ref a],[]⟩) P E s:=by
 rw[list_sort_plain];have F:=qB3 j;refine yO (gA j rfl ?_);refine yO (wJ j rfl ?_ (by exact hz) (qE6 _));obtain⟨k,g⟩:∃k,(s.heap.update a (vA λ_=>#[])).get? a=Z9 (j8 "list" #[] k):=⟨_,mI j (λ_=>#[])⟩
 refine yO (fV g rfl ?_);refine yO (gF ?_ hz);refine yO (wI ?_ (qE6 _));refine jM ?_;obtain⟨h6,z⟩:∃h6,((s.heap.update a (vA λ_=>#[])).push (j8 "tuple" b.toArray 0)).push (j8 "list" #[] 0)=h6:=⟨_,rfl⟩
 have d:h6.get? a=Z9 (j8 "list" #[] k):=by rw[<- z,qL0 _ _ _ (by rw[wY,qN4];exact qB7 (qE9 F)),qL0 _ _ _ (by rw[qN4];exact qB7 F)];exact g
 show y7 (yV prog w) A _ P E { s with heap:=((s.heap.update a (vA λ_=>#[])).push (j8 "tuple" b.toArray 0)).push (j8 "list" #[] 0) };rw[z];have fin:∀out:yB,out.Perm b->out.Pairwise (λx y=>decide (uH y<uH x)=Z5)->P (.done (.ret .none)) { s with heap:=h6.update a (vA λ_=>out.toArray) }:=λout C u=>by rw[<- z];exact h out C u
 have q:b.toArray.size=b.length:=by simp
 by_cases h2:b.toArray.size<2
 .rw[if_pos h2,if_pos h2];refine yO (yP ?_);refine yO (yP ?_);dsimp only;refine yO (fV d rfl ?_);have l:((b.toArray.zip b.toArray).map (·.2))=b.toArray:=by simp;exact qN5 (qA7 _)
  rw[l];refine yO (wJ d rfl ?_ (hsz2:=by lia));simp only[bne_self_eq_false];refine yP (fin b (.refl _) ?_)
  match b,q,h2 with
  |[],_,_=>exact .nil
  |[v],_,_=>exact qE7 ..
  |_::_::_,hs,h2=>exact absurd h2 (by simp)
 .rw[if_neg h2,if_neg h2];have B:keyKind' b.toArray=pure oneType':=by
   match b,hv,h2 with
   |[],_,h2=>exact absurd (by simp) h2
   |[_],_,h2=>exact absurd (by simp) h2
   |v₁::G::ZJ,hv,_=>exact keyKind_ints (K1 hv)
  rw[B];refine yO (yP ?_);have M:b.toArray.zip b.toArray=(b.zip b).toArray:=by simp
  rw[M];refine yO (jS (Fq (Q:=λ_ c=>∃f,uM c=f.toArray/\uG c=Z8/\f.Perm (b.zip b)/\Zc K2 f) rT (rS) (λx o=>hv _ (fI o).2) (by simp;lia)
   λf c C u H N=>⟨f,C,u,H,N⟩) ?_ λ_ _ e=>e)
  rintro⟨⟨⟩,c⟩ O ⟨rfl,f,m,J,r,hs⟩;refine yO (fV d rfl ?_);have l:(uM c).map (·.2)=(f.map (·.2)).toArray:=by rw[m];simp
  have D:=by have:=r.map (·.2);rwa[qN5 (qA7 _)]at this
  rw[l];refine yO (wJ d rfl ?_ (hsz2:=by rw[qB2,D.length_eq];lia));rw[J];simp only[bne_self_eq_false];refine yP (fin _ D ?_);rw[qH0];refine hs.imp_of_mem λ{x y} o I p=>?_;have K:=fI (r.mem_iff.mp o);have L:=fI (r.mem_iff.mp I);rw[<- K.1,<- L.1];exact p
variable {r:yR}
theorem EZ{Q:yL}{j:yA}(z:j.length<=5000)
  (u:∀(A:jF) (E:yL) (R:yB->yQ->Prop),A.handled=Z8->(∀(h':jH) (tk:Nat) (dr:mR) (a:yB) (f:yA),(∀b o,s.heap.get? b=Z9 o->h'.get? b=Z9 o)->vI a f->f.Perm j->R a { s with heap:=h',toks:=tk,drawn:=dr })->y7 (yV prog w) A (uF (.ref r)) R E s)
  (t:A.handled=Z8)
  (h:∀(k:jH) (l:yR) (h':jH) (tk:Nat) (dr:mR) (e:Nat) (a:yB) (f:yA),(∀b o,s.heap.get? b=Z9 o->k.get? b=Z9 o)->(∀b o,k.get? b=Z9 o->h'.get? b=Z9 o)->k.objs.size<=l->h'.get? l=Z9 (j8 "list" a.toArray e)->vI a f->f.Perm j->f.Pairwise (·<=·)->Q (.ref l) { s with heap:=h',toks:=tk,drawn:=dr }) :
  y7 (yV prog w) A (call (.builtin "sorted") [.ref r]) Q E s:=by
 refine v9 mZ mB mC (mD _) ?_;refine yO (yP ?_);refine yO (u _ _ _ t λh' tk dr a f hk i n=>?_);have c:a.length=j.length:=by
  rw[<- n.length_eq];clear hk n
  induction i with
  |nil=>rfl
  |cons _ _ _ q=>simp[q]
 refine yO (wI ?_ (by rw[c,vF];lia));have d:(h'.push (j8 "list" a.toArray 0)).get? h'.objs.size=Z9 (j8 "list" a.toArray 0):=qA9 _ rfl;refine yO (jM (jI gH ⟨_,d,rfl⟩ f6 (rR d (λv m=>i.all v m) (by rw[c,vF];lia) λout p x=>⟨_,rfl,?_⟩) (gJ _)));obtain⟨e,y⟩:=lG d;refine yP ⟨_,rfl,h h' h'.objs.size _ tk dr e out (out.map uH) hk (λb o g=>?_) (qA7 _) (by simpa using y) (K1 λv m=>i.all v (p.mem_iff.mp m)) ((p.map uH).trans (by rw[i.nums];exact n)) (by rw[qH0];exact x.imp λh=>by have:=of_decide_eq_false h;lia)⟩;have lt:=qB3 g;rw[gK (qB7 lt) (by rw[wY];exact qE9 lt)];exact qA3 _ g
end
theorem rQ(U:X.calm=Z7):YB X (.builtin "sorted") (λw H Q=>∃(p:yR) (kvs:List (ZF×V)) (d:yA),w=[.ref p]/\H p=Z9 (.dK kvs)/\kvs.map (·.1)=d.map Sum.inl/\d.length<=5000/\∀(l:yR) (m:yA),H l=Z8->m.Perm d->m.Pairwise (·<=·)->Q (.ref l) (ZC H l (.lst (m.map V.int)))):=by
 intro f s Z H xs C Q I r h;obtain⟨p,kvs,d,rfl,hp,hk,L,q⟩:=h;obtain⟨u,rfl,ru⟩:=XS r;cases ru;obtain⟨hz,lo,w,J,N⟩:=RT I.hok hp;obtain⟨ep,B⟩:=N.dictAt;have F:w.length=d.length:=by rw[<- Paired.length J,<- qA0,hk,qA0]
 refine EZ L (λA E R hA hR=>W.kdu_collect (W.kdl_dict lo) hA B (by rw[F,vF];lia) λh' Y acc z a=>hR h' Y s.drawn _ d z ?_ (.refl _)) (I.ok.hd U) λT l2 h3 c dr e C m k2 S G g3 P g hw=>?_
 .refine Om _ _ (by rw[yY,a.1,F]) λj v n O e2=>?_;obtain⟨k,x,e3,M⟩:∃k x,w[j]?=Z9 (k,x)/\(Yt X.prog X.w).is k v=Z7:=a.2 j v (by rw[<- y8];exact O);obtain⟨q1,e5,e6,_⟩:=Os J e3;have K:(kvs.map (·.1))[j]?=Z9 k:=by rw[qB1,e5];exact congrArg Z9 e6
  rw[hk,qB1,e2]at K;cases K;cases v<;>first|exact absurd M qB4|skip
  rename_i i t;have:=by simpa[Yt,U1,Value.isInt]using M
  subst this;exact⟨t,rfl⟩
 .have D:ZP X f Z H { s with heap:=T,toks:=c,drawn:=dr }:=(I.kept (t':=c) λb o e=>k2 b o e).dr dr;refine⟨.ref l2,_,D.laid (t':=c) S G ?_,rfl,q _ _ (D.hok.fresh G) g hw⟩;have y:m.length<=5000:=by rw[g.length_eq];exact L
  exact⟨by rw[qA0];exact qD4 y (by decide),C,e,RM P,by simpa using g3⟩
theorem K0:∀{a:yA}{us:yB},ZO (a.map V.int) us->∃xs:List (Int×Tok),us=xs.map (λp=>Value.int p.1 p.2)/\xs.map (·.1)=a
 |[],us,h=>by cases h;exact⟨[],rfl,rfl⟩
 |n::a,us,h=>by
  cases h with
  |cons b c =>
   obtain⟨t,rfl⟩:=b;obtain⟨xs,rfl,e⟩:=K0 c;exact⟨(n,t)::xs,rfl,by simp[e]⟩
section
variable {X:Cx}
theorem EY{xs:List (Int×Tok)}{ns:yA}(e:xs.map (·.1)=ns)(h:(m7 xs.toArray)[j]?=Z9 v):∃M t,v=Value.int M t/\M=numAt xs.toArray j/\M∈ns:=by
 obtain⟨t,rfl⟩:=intItems_at h;refine⟨_,t,rfl,rfl,?_⟩;have a:=by have:=(Array.getElem?_eq_some_iff.mp h).1;simpa[m7]using this
 rw[numAt_eq];subst e;simp only[qF4];rw[qA2 (by simpa using a)];exact qD6 _
theorem rP(l:X.calm=Z7):YB X (.builtin "min") (λB H Q=>∃(p:yR) (b:yA),B=[.ref p]/\YK X.K H p (b.map V.int)/\0<b.length/\∀M,M∈b->(∀a∈b,M<=a)->Q (.int M) H):=by
 intro f s Z H G D Q I r h;obtain⟨p,b,rfl,z,F,q⟩:=h;obtain⟨u,rfl,x⟩:=XS r;cases x;obtain⟨A,o,pl,C⟩:=I.list z;obtain⟨c,rfl,e⟩:=K0 o;have d:c.length=b.length:=by rw[<- e];simp
 have i:s.heap.IsList p (m7 c.toArray):=by have:=pl.isList;simpa[m7]using this
 refine min_intList (I.ok.hd l) i (by simp;lia) λv J E g k=>?_;obtain⟨M,t,rfl,m,n⟩:=EY e g;refine⟨.int M,H,I.kept k,⟨t,rfl⟩,q M n λa y=>?_⟩;obtain⟨j,w,rfl⟩:=qH1 y;have:=(argBest_lt (numAt c.toArray) (c.toArray.size - 1)).2 j (by simp;lia);rw[m];refine qT6 this ?_;rw[numAt_eq,qS6,e];simp[qF4,w]
theorem rO(l:X.calm=Z7):YB X (.builtin "max") (λB H Q=>∃(p:yR) (b:yA),B=[.ref p]/\YK X.K H p (b.map V.int)/\0<b.length/\∀M,M∈b->(∀a∈b,a<=M)->Q (.int M) H):=by
 intro f s Z H G D Q I r h;obtain⟨p,b,rfl,z,F,q⟩:=h;obtain⟨u,rfl,x⟩:=XS r;cases x;obtain⟨A,o,pl,C⟩:=I.list z;obtain⟨c,rfl,e⟩:=K0 o;have d:c.length=b.length:=by rw[<- e];simp
 have i:s.heap.IsList p (m7 c.toArray):=by have:=pl.isList;simpa[m7]using this
 refine max_intList (I.ok.hd l) i (by simp;lia) λv J E g k=>?_;obtain⟨M,t,rfl,m,n⟩:=EY e g;refine⟨.int M,H,I.kept k,⟨t,rfl⟩,q M n λa y=>?_⟩;obtain⟨j,w,rfl⟩:=qH1 y;have:=(argBest_gt (numAt c.toArray) (c.toArray.size - 1)).2 j (by simp;lia);rw[m];refine qT6 ?_ this;rw[numAt_eq,qS6,e];simp[qF4,w]
end
section
variable {X:Cx}
theorem rN(D:X.calm=Z7):YB X (.builtin "sorted") (λP H Q=>∃(p:yR) (a:yA),P=[.ref p]/\YK X.K H p (a.map V.int)/\a.length<=5000/\∀(l:yR) (f:yA),H l=Z8->f.Perm a->f.Pairwise (·<=·)->Q (.ref l) (ZC H l (.lst (f.map V.int)))):=by
 intro m s Z H U t Q I r h;obtain⟨p,a,rfl,N,y,q⟩:=h;obtain⟨u,rfl,G⟩:=XS r;cases G;obtain⟨k,w,⟨o,n,z,j,J,L⟩,B⟩:=I.list N;have i:=SX w;refine EZ y (λA E R T F=>Lk z j L (.inl rfl) (F _ s.toks s.drawn k a (Lj _ _) i (.refl _)) (by rw[<- w.length];exact B)) (I.ok.hd D) λS O W c dr e t f k2 C x M i d K=>?_;have v:=(I.kept (t':=c) λb o e=>k2 b o e).dr dr;refine⟨.ref O,_,v.laid (t':=c) C x ?_,rfl,q _ _ (v.hok.fresh x) d K⟩;have g:f.length<=5000:=by rw[d.length_eq];exact y
 exact⟨by rw[qA0];exact qD4 g (by decide),t,e,RM i,by simpa using M⟩
theorem EX(F:X.calm=Z7):YB X (.type "list") (λd H Q=>∃(p:yR) (kvs:List (ZF×V)) (e:yA),d=[.ref p]/\Rd H p (.dK kvs)/\kvs.map (·.1)=e.map Sum.inl/\∀l,H l=Z8->Q (.ref l) (ZC H l (.lst (e.map V.int)))):=by
 intro o s Z H U S Q I r h;obtain⟨p,kvs,e,rfl,J,hk,q⟩:=h;obtain⟨u,rfl,K⟩:=XS r;cases K;obtain⟨D,L,d,g,A⟩:=T1 I.hok J;obtain⟨T,m⟩:=A.dictAt;have w:d.length=e.length:=by rw[<- Paired.length g,<- qA0,hk,qA0]
 have b:d.length<=sizeLine:=by rw[<- Paired.length g];exact D
 refine W.kdl_call (W.kdl_dict L) (I.ok.hd F) m b λY G acc c f E a=>?_;have C:=by
  refine Om _ _ (by rw[yY,a.1,w]) λj v n B P=>?_;obtain⟨k,x,O,z⟩:∃k x,d[j]?=Z9 (k,x)/\(Yt X.prog X.w).is k v=Z7:=a.2 j v (by rw[<- y8];exact B);obtain⟨R,N,M,_⟩:=Os g O;have y:(kvs.map (·.1))[j]?=Z9 k:=by rw[qB1,N];exact congrArg Z9 M
  rw[hk,qB1,P]at y;cases y;cases v<;>first|exact absurd z qB4|skip
  rename_i i t;have:=by simpa[Yt,U1,Value.isInt]using z
  subst this;exact⟨t,rfl⟩
 refine⟨.ref s.heap.objs.size,_,I.laid (t':=G) f (qA7 _) ?_,rfl,q _ (I.hok.fresh (qA7 _))⟩;exact⟨by rw[qA0,<- w];exact b,acc.toList,c,RM C,by exact E⟩
end
inductive D where
 |non|bl (b:Bool)| int (i:Int)| str (x:Str)| ty (n:String)| tup (xs:List D)| lst (n:Nat)| dct (n:Nat)| rol (xs:List D)
inductive O where
 |lst (xs:List D)| dk (kvs:List (ZF×D))| dt (kvs:List (List ZF×D))
 |fk (kvs:List (ZF×D))
abbrev ZX:=List O
abbrev ZS:=List (Option D)
def SG(K:yS)(H:Hp)(a:yR)(xs:List V):Prop:=(∃o,H a=Z9 (.frz o (.lst xs))) ∨
  ∃(o:Obj) (b:yJ) (n:Nat),K.lookup a=Z9 o/\o.cls=.type "list"/\o.dict=Z8/\o.data=.seq b n/\b.size<=jC/\ZO xs b.toList
theorem SG.sq{K:yS}(h:SG K H a xs):YK K H a xs:=by
 rcases h with⟨o,h⟩| h
 .exact .inl (.inr ⟨o,h⟩)
 .exact .inr h
structure TF(K:yS)(H H':Hp):Prop where
 t:TK K H H'
 f:∀a xs,SG K H a xs->SG K H' a xs
 u:∀a xs,H a=Z9 (.tup xs)->H' a=Z9 (.tup xs)
 z:∀a o u,H a=Z9 (.frz o u)->H' a=Z9 (.frz o u)
theorem TF.refl(K:yS)(H:Hp):TF K H H:=⟨TK.refl K H,λ_ _ h=>h,λ_ _ h=>h,λ_ _ _ h=>h⟩
theorem TF.trans{K:yS}(a:TF K H d)(b:TF K d H2):TF K H H2:=⟨a.t.trans b.t,λp c h=>b.f p c (a.f p c h),λp c h=>b.u p c (a.u p c h),λp o u h=>b.z p o u (a.z p o u h)⟩
theorem rM{K:yS}(h:∀q o,q≠p->H q=Z9 o->H' q=Z9 o)(b:∀xs,H p≠Z9 (.tup xs))(a:∀x y,H p≠Z9 (.frz x y)):TF K H H':=by
 refine⟨λq c e=>?_,λq c e=>?_,λq c e=>h _ _ (λz=>b _ (z▸e)) e,λq o u e=>h _ _ (λz=>a _ _ (z▸e)) e⟩
 .rcases e with(e|⟨w,e⟩)| e
  .exact .inl (.inl (h _ _ (λz=>b _ (z▸e)) e))
  .exact .inl (.inr ⟨w,h _ _ (λz=>a _ _ (z▸e)) e⟩)
  .exact .inr e
 .rcases e with⟨w,e⟩| e
  .exact .inl ⟨w,h _ _ (λz=>a _ _ (z▸e)) e⟩
  .exact .inr e
theorem TL{K:yS}(e:H p=Z9 u)(b:∀xs,u≠.tup xs)(a:∀x y,u≠.frz x y):TF K H (ZC H p o) :=
 rM (λq v c h=>by rw[YI c];exact h) (λxs h=>by rw[e]at h;exact b xs (Option.some.inj h)) (λx y h=>by rw[e]at h;exact a x y (Option.some.inj h))
theorem N7{K:yS}(e:H p=Z9 (.lst xs)):TF K H (ZC H p o):=TL e (λ_ z=>by cases z) (λ_ _ z=>by cases z)
theorem EW{K:yS}(h:XR H H'):TF K H H':=⟨λp b e=>h.tup e,λq a e=>by
 rcases e with⟨w,e⟩| e
 .exact .inl ⟨w,h _ _ e⟩
 .exact .inr e,λ_ _ e=>h _ _ e,λ_ _ _ e=>h _ _ e⟩
mutual
def RV(K:yS)(H:Hp)(J:yC):D->V->Prop
 |.non,v=>v=.non
 |.bl b,v=>v=.bl b
 |.int i,v=>v=.int i
 |.str x,v=>v=.str x
 |.ty n,v=>v=.ty n
 |.tup d,v=>∃p c,v=.ref p/\H p=Z9 (.tup c)/\RVs K H J d c
 |.lst n,v=>∃a,v=.ref a/\J[n]?=Z9 a
 |.dct n,v=>∃a,v=.ref a/\J[n]?=Z9 a
 |.rol d,v=>∃p c,v=.ref p/\SG K H p c/\RVs K H J d c
def RVs(K:yS)(H:Hp)(J:yC):List D->List V->Prop
 |[],vs=>vs=[]
 |d::ds,vs=>∃v a,vs=v::a/\RV K H J d v/\RVs K H J ds a
end
def Y4{b:Type}(K:yS)(H:Hp)(J:yC)(kvs:List (b×D))(a:List (b×V)):Prop:=kvs.map (·.1)=a.map (·.1)/\RVs K H J (kvs.map (·.2)) (a.map (·.2))
def OR(K:yS)(H:Hp)(J:yC)(a:yR):O->Prop
 |.lst e=>∃d,H a=Z9 (.lst d)/\RVs K H J e d
 |.dk b=>∃c,H a=Z9 (.dK c)/\Y4 K H J b c
 |.dt b=>∃c,H a=Z9 (.dT c)/\Y4 K H J b c
 |.fk b=>∃o c,H a=Z9 (.frz o (.dK c))/\Y4 K H J b c
structure SR(K:yS)(J:yC)(S:ZX)(H:Hp):Prop where
 len:J.length=S.length
 nd:J.Nodup
 obj:∀(n:Nat) (a:yR) (o:O),J[n]?=Z9 a->S[n]?=Z9 o->OR K H J a o
structure ZI(K:yS)(J J':yC)(H H':Hp):Prop where
 pre:∃ν,J'=J++ν/\∀b∈ν,H b=Z8
 fr:∀b o,b∉J->H b=Z9 o->H' b=Z9 o
 tk:TF K H H'
section
variable {K:yS}{H H' H1 H2:Hp}{J J' J1 J2:yC}{S S':ZX}
mutual
theorem RV.up(tk:TF K H H')(c:∃g,J'=J++g):∀(d:D) (v:V),RV K H J d v->RV K H' J' d v
 |.non,v,h=>by simpa[RV]using h
 |.bl b,v,h=>by simpa[RV]using h
 |.int i,v,h=>by simpa[RV]using h
 |.str x,v,h=>by simpa[RV]using h
 |.ty n,v,h=>by simpa[RV]using h
 |.tup j,v,h=>by obtain⟨p,f,e,q,r⟩:=h;exact⟨p,f,e,tk.u p f q,RVs.up tk c j f r⟩
 |.lst n,v,h=>by obtain⟨a,e,q⟩:=h;obtain⟨g,rfl⟩:=c;exact⟨a,e,by rw[qA8 (qA4.mp q).1];exact q⟩
 |.dct n,v,h=>by obtain⟨a,e,q⟩:=h;obtain⟨g,rfl⟩:=c;exact⟨a,e,by rw[qA8 (qA4.mp q).1];exact q⟩
 |.rol j,v,h=>by obtain⟨p,f,e,q,r⟩:=h;exact⟨p,f,e,tk.f p f q,RVs.up tk c j f r⟩
theorem RVs.up(tk:TF K H H')(a:∃c,J'=J++c):∀(ds:List D) (vs:List V),RVs K H J ds vs->RVs K H' J' ds vs
 |[],vs,h=>by simpa[RVs]using h
 |d::ds,vs,h=>by obtain⟨v,b,e,r,q⟩:=h;exact⟨v,b,e,RV.up tk a d v r,RVs.up tk a ds b q⟩
end
theorem RVs.len:∀{ds:List D}{vs:List V},RVs K H J ds vs->ds.length=vs.length
 |[],vs,h=>by subst h;rfl
 |d::ds,vs,h=>by obtain⟨v,a,rfl,_,q⟩:=h;rw[qD3,qD3,RVs.len q]
theorem RVs.nil:RVs K H J [] []:=by rfl
theorem RVs.cons(h:RV K H J d v)(t:RVs K H J ds a):RVs K H J (d::ds) (v::a):=⟨v,a,rfl,h,t⟩
theorem RVs.get:∀{ds:List D}{vs:List V}{i:Nat}{d:D},RVs K H J ds vs->ds[i]?=Z9 d->∃v,vs[i]?=Z9 v/\RV K H J d v
 |[],vs,i,d,h,e=>by simp at e
 |x::ds,vs,0,d,h,e=>by obtain⟨v,a,rfl,r,q⟩:=h;simp at e;subst e;exact⟨v,rfl,r⟩
 |x::ds,vs,i+1,d,h,e=>by obtain⟨v,a,rfl,r,q⟩:=h;obtain⟨u,b,c⟩:=RVs.get q (by simpa using e);exact⟨u,by simpa using b,c⟩
theorem RVs.append:∀{ds es:List D}{vs us:List V},RVs K H J ds vs->RVs K H J es us->RVs K H J (ds++es) (vs++us)
 |[],es,vs,us,h,g=>by subst h;exact g
 |d::ds,es,vs,us,h,g=>by obtain⟨v,a,rfl,r,q⟩:=h;exact .cons r (RVs.append q g)
theorem RVs.take:∀{ds:List D}{a:List V} (n:Nat),RVs K H J ds a->RVs K H J (ds.take n) (a.take n)
 |_,_,0,_=>.nil
 |[],a,n+1,h=>by subst h;exact .nil
 |d::ds,a,n+1,h=>by obtain⟨v,b,rfl,r,q⟩:=h;exact .cons r (RVs.take n q)
theorem RVs.drop:∀{ds:List D}{a:List V} (n:Nat),RVs K H J ds a->RVs K H J (ds.drop n) (a.drop n)
 |_,_,0,h=>by simpa using h
 |[],a,n+1,h=>by subst h;exact .nil
 |d::ds,a,n+1,h=>by obtain⟨v,b,rfl,r,q⟩:=h;exact RVs.drop n q
theorem RVs.set(g:RV K H J d v):∀{ds:List D}{vs:List V} (n:Nat),RVs K H J ds vs->RVs K H J (ds.set n d) (vs.set n v)
 |[],vs,n,h=>by subst h;exact .nil
 |x::ds,vs,0,h=>by obtain⟨u,a,rfl,r,q⟩:=h;exact .cons g q
 |x::ds,vs,n+1,h=>by obtain⟨u,a,rfl,r,q⟩:=h;exact .cons r (RVs.set g n q)
theorem RVs.ints{b:yA}:RVs K H J (b.map D.int) (b.map V.int):=by
 induction b with
 |nil=>exact .nil
 |cons a r c=>exact .cons (by rfl) c
theorem Y4.up(tk:TF K H H')(a:∃c,J'=J++c){ws:List (b×V)}(h:Y4 K H J kvs ws):Y4 K H' J' kvs ws:=⟨h.1,RVs.up tk a _ _ h.2⟩
theorem SR.isS(f:SR K J S H)(h:a∈J):∃o,H a=Z9 o:=by
 obtain⟨n,d⟩:=qE8 h;have g:n<S.length:=by rw[<- f.len];exact(qA4.mp d).1
 have q:=f.obj n a S[n] d (qA2 g);revert q;generalize S[n]=o;intro q;cases o with
 |lst i=>obtain⟨c,e,_⟩:=q;exact⟨_,e⟩
 |dk b=>obtain⟨c,e,_⟩:=q;exact⟨_,e⟩
 |dt b=>obtain⟨c,e,_⟩:=q;exact⟨_,e⟩
 |fk b=>obtain⟨o,c,e,_⟩:=q;exact⟨_,e⟩
theorem SR.out(b:SR K J S H)(h:H a=Z8):a∉J:=λm=>by
 obtain⟨o,e⟩:=b.isS m
 simp_all
theorem ZI.refl(K:yS)(J:yC)(H:Hp):ZI K J J H H:=⟨⟨[],by simp,by simp⟩,λ_ _ _ h=>h,TF.refl K H⟩
theorem ZI.mem(st:ZI K J J' H H')(h:a∈J):a∈J':=by obtain⟨b,rfl,_⟩:=st.pre;exact qF2 _ h
theorem ZI.ext(st:ZI K J J' H H'):∃ν,J'=J++ν:=let ⟨ν,e,_⟩:=st.pre;⟨ν,e⟩
theorem ZI.trans(a:ZI K J J1 H H1)(b:ZI K J1 J2 H1 H2)(n:J2.Nodup):ZI K J J2 H H2:=by
 obtain⟨i,e,m⟩:=a.pre;obtain⟨d,g,l⟩:=b.pre;have nd':(J++i++d).Nodup:=by rw[<- e,<- g];exact n
 refine⟨⟨i++d,by rw[g,e,qC3],λc f=>?_⟩,λc o f h=>?_,a.tk.trans b.tk⟩
 .rcases qC0.mp f with h|h
  .exact m c h
  .have j:=l c h;cases q:H c with
   |none=>rfl
   |some o =>
    have:=λk=>by have:=(qG0.mp nd').2.2 c (qF2 _ k) c h;exact this rfl
    rw[a.fr c o this q]at j;cases j
 .refine b.fr c o (λk=>?_) (a.fr c o f h)
  simp_all
theorem OR.up(tk:TF K H H')(b:∃d,J'=J++d)(e:H' a=H a):∀{o:O},OR K H J a o->OR K H' J' a o
 |.lst g,⟨f,h,r⟩=>⟨f,by rw[e];exact h,RVs.up tk b _ _ r⟩
 |.dk c,⟨ws,h,r⟩=>⟨ws,by rw[e];exact h,r.up tk b⟩
 |.dt c,⟨ws,h,r⟩=>⟨ws,by rw[e];exact h,r.up tk b⟩
 |.fk c,⟨o,ws,h,r⟩=>⟨o,ws,by rw[e];exact h,r.up tk b⟩
theorem RI(h:H p=Z8):TF K H (ZC H p o):=EW (LL h o)
theorem SR.other(c:SR K J S H)(h:H p=Z8):SR K J S (ZC H p o)/\ZI K J J H (ZC H p o):=by
 have f:=c.out h;refine⟨⟨c.len,c.nd,λn a g d i=>?_⟩,⟨⟨[],by simp,by simp⟩,λb u k e=>?_,RI h⟩⟩
 .have j:=qB5 d;have ne:a≠p:=λz=>f (z▸j);exact(c.obj n a g d i).up (RI h) ⟨[],by simp⟩ (YI ne)
 .rw[YI (UZ e h)];exact e
theorem SR.push(d:SR K J S H)(h:H p=Z8)(l:OR K (ZC H p o) (J++[p]) p o'):SR K (J++[p]) (S++[o']) (ZC H p o)/\ZI K J (J++[p]) H (ZC H p o):=by
 have j:=d.out h;refine⟨⟨by simp[d.len],?_,λn a u c f=>?_⟩,⟨⟨[p],rfl,λb g=>?_⟩,λb u g e=>?_,RI h⟩⟩
 .rw[qG0];refine⟨d.nd,by simp,λa q b g=>?_⟩;simp at g;subst g;exact λz=>j (z▸q)
 .by_cases k:n<J.length
  .rw[qA8 k]at c;rw[qA8 (by rw[<- d.len];exact k)]at f;have m:=qB5 c;have ne:a≠p:=λz=>j (z▸m);exact(d.obj n a u c f).up (RI h) ⟨[p],rfl⟩ (YI ne)
  .rw[qA1 (by lia)]at c;rw[qA1 (by rw[<- d.len];lia)]at f;have i:=by have:=(qA4.mp c).1;simp at this;omega
   rw[i]at c;rw[<- d.len,i]at f;simp at c f;subst c f;exact l
 .simp_all
 .rw[YI (UZ e h)];exact e
theorem SR.put(f:SR K J S H)(g:J[n]?=Z9 p)(q:H p=Z9 u)(t:∀xs,u≠.tup xs)(l:∀x y,u≠.frz x y)(k:OR K (ZC H p o) J p o'):SR K J (S.set n o') (ZC H p o)/\ZI K J J H (ZC H p o):=by
 have j:TF K H (ZC H p o):=TL q t l;have d:=qB5 g;refine⟨⟨by simp[f.len],f.nd,λm a w c h=>?_⟩,⟨⟨[],by simp,by simp⟩,λb w r e=>?_,j⟩⟩
 .by_cases i:m=n
  .subst i;rw[g]at c;cases c;have s:m<S.length:=by rw[<- f.len];exact(qA4.mp g).1
   rw[qE2 s]at h;cases h;exact k
  .rw[qE5 (λz=>i z.symm)]at h;have ne:a≠p:=λz=>by subst z;exact i ((qT7 (qA4.mp c).1 f.nd).mp (c.trans g.symm))
   exact(f.obj m a w c h).up j ⟨[],by simp⟩ (YI ne)
 .have ne:b≠p:=λz=>r (z▸d);rw[YI ne];exact e
end
inductive R(α:Type) where
 |bad|ok (a:α) (S:ZX)| er (c:Str) (S:ZX)
abbrev M(α:Type):=ZX->R α
def YW{α β:Type}(m:M α)(f:α->M β):M β:=λS=>match m S with
 |.bad=>.bad
 |.er c b=>.er c b
 |.ok a b=>f a b
def ret{α:Type}(a:α):M α:=λS=>.ok a S
def bad{α:Type}:M α:=λ_=>.bad
inductive rL{α β:Type}(m:M α)(f:α->M β)(S:ZX)(b:β)(S2:ZX):Prop
 |mk (a:α) (S1:ZX) (e:m S=.ok a S1) (g:f a S1=.ok b S2)
theorem Y8{f:α->M d}(h:YW m f S=.ok b S2):rL m f S b S2:=by
 unfold YW at h;cases e:m S with
 |bad=>rw[e]at h;cases h
 |er c g=>rw[e]at h;cases h
 |ok a g=>rw[e]at h;exact⟨a,g,e,h⟩
theorem Yb{a b:α}(h:ret a S=.ok b S'):b=a/\S'=S:=by unfold ret at h;cases h;exact⟨rfl,rfl⟩
abbrev C:=ZS->M D
abbrev CT:=ZS->M Bool
abbrev CA:=ZS->M (List D)
def RE(K:yS)(H:Hp)(J:yC)(B:ZS)(Z:St):Prop:=B.length=Z.length/\∀(i:Nat) (d:D),B[i]?=Z9 (Z9 d)->∃v,Z[i]?=Z9 (Z9 v)/\RV K H J d v
section
variable {K:yS}{H H':Hp}{J J':yC}{B:ZS}{Z:St}
theorem RE.up(h:RE K H J B Z)(st:ZI K J J' H H'):RE K H' J' B Z:=⟨h.1,λi d e=>let ⟨v,q,r⟩:=h.2 i d e;⟨v,q,RV.up st.tk st.ext d v r⟩⟩
theorem RE.set(h:RE K H J B Z)(r:RV K H J d v)(i:Nat):RE K H J (B.set i (Z9 d)) (Z.set i (Z9 v)):=by
 refine⟨by simp[h.1],λj c e=>?_⟩;by_cases a:i=j
 .subst a;have b:=by have:=(qA4.mp e).1;simpa using this
  rw[qE2 b]at e;cases e;exact⟨v,by rw[qE2 (by rw[<- h.1];exact b)],r⟩
 .rw[qE5 a]at e ⊢;exact h.2 j c e
end
def Xv(K:yS)(J:yC)(H:Hp)(d:D)(S':ZX)(Q:VK):Prop:=∀v a b,SR K b S' a->ZI K J b H a->RV K a b d v->Q v a
def KZ(K:yS)(J:yC)(H:Hp)(ds:List D)(S':ZX)(Q:List V->Hp->Prop):Prop:=∀c a b,SR K b S' a->ZI K J b H a->RVs K a b ds c->Q c a
def Us(K:yS)(J:yC)(H:Hp)(b:Bool)(S':ZX)(Q:Bool->Hp->Prop):Prop:=∀a c,SR K c S' a->ZI K J c H a->Q b a
inductive Zu(K:yS)(c:C)(Z:St)(H:Hp)(Q:VK):Prop
 |mk (J:yC) (B:ZS) (S:ZX) (d:D) (S':ZX) (sr:SR K J S H) (re:RE K H J B Z) (e:c B S=.ok d S') (y:Xv K J H d S' Q)
inductive YA(K:yS)(c:CA)(Z:St)(H:Hp)(Q:List V->Hp->Prop):Prop
 |mk (J:yC) (B:ZS) (S:ZX) (d:List D) (S':ZX) (sr:SR K J S H) (re:RE K H J B Z) (e:c B S=.ok d S') (y:KZ K J H d S' Q)
inductive YM(K:yS)(c:CT)(Z:St)(H:Hp)(Q:Bool->Hp->Prop):Prop
 |mk (J:yC) (B:ZS) (S:ZX) (d:Bool) (S':ZX) (sr:SR K J S H) (re:RE K H J B Z) (e:c B S=.ok d S') (y:Us K J H d S' Q)
theorem Xv.self{K:yS}(h:Xv K J H d S Q)(a:SR K J S H)(r:RV K H J d v):Q v H:=h v H J a (ZI.refl K J H) r
theorem Xv.shift{K:yS}(h:Xv K J H d S Q)(st:ZI K J b H a):Xv K b a d S Q:=λv e g c f r=>h v e g c (st.trans f c.nd) r
theorem Us.shift{K:yS}(h:Us K J H d S Q)(st:ZI K J b H a):Us K b a d S Q:=λe g c f=>h e g c (st.trans f c.nd)
theorem PE.weak(h:PE X e t)(w:∀Z H Q,t' Z H Q->t Z H Q):PE X e t':=λa s Z H Q I q=>h a s Z H Q I (w Z H Q q)
theorem PT.weak(h:PT X e t)(w:∀Z H Q,t' Z H Q->t Z H Q):PT X e t':=λa s Z H Q I q=>h a s Z H Q I (w Z H Q q)
theorem PW.weak(h:PW X e t)(w:∀Z H Q,t' Z H Q->t Z H Q):PW X e t':=λb a s Z H Q I q=>h b a s Z H Q I (w Z H Q q)
theorem PA.weak(h:PA X e t)(w:∀Z H Q,t' Z H Q->t Z H Q):PA X e t':=λb a s Z H Q I q=>h b a s Z H Q I (w Z H Q q)
theorem PS.weak(h:PS X e t)(w:∀D Z H,t' D Z H->t D Z H):PS X e t':=λa s Z H D I q=>h a s Z H D I (w D Z H q)
theorem XB.weak(h:XB X e t)(w:∀D Z H,t' D Z H->t D Z H):XB X e t':=λa s Z H D I q=>h a s Z H D I (w D Z H q)
def Zm(X:Cx)(f:yT->yT->Sem yT):R2:=λv u H Q=>∃r,YY X f r/\r v u H Q
theorem SF:YY X f (Zm X f):=λa s Z H x y v u Q I c d ⟨r,b,q⟩=>b a s Z H x y v u Q I c d q
def SE(X:Cx)(f:yT->Sem yT):V->Hp->VK->Prop:=λv H Q=>∃r,QW X f r/\r v H Q
theorem rK:QW X f (SE X f):=λa s Z H x v Q I c ⟨r,b,q⟩=>b a s Z H x v Q I c q
def Yz(X:Cx)(f:yT):List V->Hp->VK->Prop:=λa H Q=>∃r,YB X f r/\r a H Q
theorem callAny:YB X f (Yz X f):=λa s Z H x v Q I c ⟨r,b,q⟩=>b a s Z H x v Q I c q
def KY(X:Cx):R2:=λv u H Q=>∃r,RX X r/\r v u H Q
theorem rJ:RX X (KY X):=λe f a s Z H x y v u Q I d g ⟨r,b,q⟩ c=>b e f a s Z H x y v u Q I d g q c
def KW(X:Cx):V->yG->yG->Hp->VK->Prop:=λv a b H Q=>∃r,RY X r/\r v a b H Q
theorem rH:RY X (KW X):=λd s Z H x v k j h f i Q I g a b c ⟨r,e,q⟩=>e d s Z H x v k j h f i Q I g a b c q
def Vy(X:Cx)(id:String):V->List V->Hp->VK->Prop:=λv a H Q=>∃r,RW X id r/\r v a H Q
theorem EV{id:String}:RW X id (Vy X id):=λa s Z H x e v c Q I d rs ⟨r,b,q⟩=>b a s Z H x e v c Q I d rs q
def EU(X:Cx):UH:=λo i v H Q=>∃r,V2 X r/\r o i v H Q
theorem rG:V2 X (EU X):=λa s Z H o i v b e u Q I g c f ⟨r,d,q⟩=>d a s Z H o i v b e u Q I g c f q
def ZY(i:Nat):C:=fun B S=>match B[i]? with
 |some (Z9 d)=>.ok d S
 |_=>.bad
def ZW(d:D):C:=λ_ S=>.ok d S
def ZU(o:D->D->M D)(a b:C):C:=fun B=>YW (a B) λx=>YW (b B) λy=>o x y
def Vh(o:D->M D)(a:C):C:=fun B=>YW (a B) o
def ZR:List C->CA
 |[]=>λ_=>ret []
 |c::a=>fun B=>YW (c B) λx=>YW (ZR a B) λb=>ret (x::b)
def ZT(o:List D->M D)(a:CA):C:=fun B=>YW (a B) o
def Ze(a:CA):C:=ZT (λb=>ret (.tup b)) a
def YL(a:CA):C:=ZT (λb S=>.ok (.lst S.length) (S++[.lst b])) a
def TJ(t:CT)(a b:C):C:=fun B=>YW (t B) λk=>if k then a B else b B
def Zj(a:C):CT:=fun B=>YW (a B) λx=>match x with
 |.bl b=>ret b
 |_=>bad
def Ur(a b:C):C:=fun B=>YW (Zj a B) λk=>if k then b B else ret (.bl Z5)
def Vg(a b:C):C:=fun B=>YW (Zj a B) λk=>if k then ret (.bl Z7)else b B
def Qq(a:C):C:=fun B=>YW (Zj a B) λk=>ret (.bl (!k))
def SD(a b:CT):CT:=fun B=>YW (a B) λk=>if k then b B else ret Z5
def Yy(a b:CT):CT:=fun B=>YW (a B) λk=>if k then ret Z7 else b B
def Wp(a:CT):CT:=fun B=>YW (a B) λk=>ret (!k)
def dB(x:D):M Bool:=match x with
 |.bl b=>ret b
 |_=>bad
def TH(o o':D->D->M D)(a b c:C):C:=fun B=>YW (a B) λx=>YW (b B) λy=>YW (o x y) λz=>YW (dB z) λk=>if k then YW (c B) λw=>o' y w else ret (.bl Z5)
section
variable {X:Cx}{a b c d:jE}{ca cb cc cd:C}{pos:Pos}
theorem rF(h:PE X (.Name x pos) (Tc i)):PE X (.Name x pos) (Zu X.K (ZY i)):=h.weak fun Z H Q ⟨J,B,S,d,l,j,f,e,y⟩=>by
 unfold ZY at e;split at e
 .rename_i k g;cases e;obtain⟨v,q,r⟩:=f.2 i _ g;exact⟨v,q,y.self j r⟩
 .cases e
theorem Qp{d:D}(h:PE X e (tC v))(g:∀K H J,RV K H J d v):PE X e (Zu X.K (ZW d)):=h.weak fun Z H Q ⟨J,B,S,j,k,f,i,e,y⟩=>by unfold ZW at e;cases e;exact y.self f (g _ _ _)
def YD(K:yS)(r:R2)(o:D->D->M D):Prop:=∀x y S d e H J v u Q,o x y S=.ok d e->SR K J S H->RV K H J x v->RV K H J y u->Xv K J H d e Q->r v u H Q
theorem N6(n:YD X.K r o):∀Z H Q,Zu X.K (ZU o ca cb) Z H Q->QV r (Zu X.K ca) (Zu X.K cb) Z H Q:=by rintro Z H Q ⟨J,B,S,d,A,E,j,e,y⟩;obtain⟨x,k,m,e⟩:=Y8 e;obtain⟨z,l,t,e⟩:=Y8 e;refine⟨J,B,S,x,k,E,j,m,λv G q i g w=>⟨q,B,k,z,l,i,j.up g,t,λu s F h f p=>?_⟩⟩;exact n x z l d A s F v u Q e h (RV.up f.tk f.ext _ _ w) p (y.shift (g.trans f h.nd))
theorem rE(e:YD X.K (Zm X (jP op)) o)(f:PE X a (Zu X.K ca))(g:PE X b (Zu X.K cb)):PE X (.BinOp a op b pos) (Zu X.K (ZU o ca cb)):=(Ae SF f g).weak (N6 e)
theorem rD(e:YD X.K (Zm X (jD op)) o)(f:PE X a (Zu X.K ca))(g:PE X b (Zu X.K cb))(hm:fS op b=Z5):PE X (.Compare a [op] [b] pos) (Zu X.K (ZU o ca cb)):=(zG SF f g hm).weak (N6 e)
theorem ET{c:C}(h:∀Z H Q,Zu X.K c Z H Q->t Z H Q):∀Z H Q,YM X.K (Zj c) Z H Q->Mj t Z H Q:=by
 rintro Z H Q ⟨J,B,S,d,q,o,i,e,y⟩;obtain⟨x,l,j,e⟩:=Y8 e;refine h Z H _ ⟨J,B,S,x,l,o,i,j,λv n m g f p=>?_⟩;cases x with
 |bl k =>
  obtain⟨rfl,rfl⟩:=Yb e;exact⟨_,p,y n m g f⟩
 |_=>cases e
theorem rC(e:YD X.K (Zm X (jD op)) o)(f:PE X a (Zu X.K ca))(g:PE X b (Zu X.K cb))(hm:fS op b=Z5):PT X (.Compare a [op] [b] pos) (YM X.K (Zj (ZU o ca cb))):=(zF SF f g hm).weak (ET (N6 e))
theorem ES(R:YD X.K r o)(q:YD X.K G o'):∀Z H Q,Zu X.K (TH o o' ca cb cc) Z H Q->Mi r G (Zu X.K ca) (Zu X.K cb) (Zu X.K cc) Z H Q:=by
 rintro Z H Q ⟨J,B,S,d,S',sr,s,e,y⟩;obtain⟨x,F,P,f1⟩:=Y8 e;obtain⟨z,L,e2,f2⟩:=Y8 f1;obtain⟨t,S3,e3,U⟩:=Y8 f2;obtain⟨k,S4,N,I⟩:=Y8 U;refine⟨J,B,S,x,F,sr,s,P,λv H1 T A m r1=>⟨T,B,F,z,L,A,s.up m,e2,λu H2 J2 n h E=>?_⟩⟩;have p:=m.trans h n.nd;refine R x z L t S3 H2 J2 v u _ e3 n (RV.up h.tk h.ext _ _ r1) E λv3 H3 K i j r3=>?_;have f:=p.trans j i.nd;cases t with
 |bl k' =>
  obtain⟨rfl,rfl⟩:=Yb N;refine⟨_,r3,?_⟩;cases k with
  |true =>
   obtain⟨w,O,e5,f5⟩:=Y8 I;refine⟨K,B,_,w,O,i,s.up f,e5,λV H5 W l g Y=>?_⟩;exact q z w O d S' H5 W u V Q f5 l (RV.up g.tk g.ext _ _ (RV.up j.tk j.ext _ _ E)) Y (y.shift (f.trans g l.nd))
  |false =>
   obtain⟨rfl,rfl⟩:=Yb I;exact y _ H3 K i f (by rfl)
 |_=>cases N
theorem rB(g:YD X.K (Zm X (jD op)) o)(f:YD X.K (Zm X (jD e)) o')(i:PE X a (Zu X.K ca))(j:PE X b (Zu X.K cb))(h:PE X c (Zu X.K cc))(hm:dA [op,e] [b,c]=Z5):
  PE X (.Compare a [op,e] [b,c] pos) (Zu X.K (TH o o' ca cb cc)):=(zE SF SF i j h hm).weak (ES g f)
theorem rA(g:YD X.K (Zm X (jD op)) o)(f:YD X.K (Zm X (jD e)) o')(i:PE X a (Zu X.K ca))(j:PE X b (Zu X.K cb))(h:PE X c (Zu X.K cc))(hm:dA [op,e] [b,c]=Z5):
  PT X (.Compare a [op,e] [b,c] pos) (YM X.K (Zj (TH o o' ca cb cc))):=(zD SF SF i j h hm).weak (ET (ES g f))
def ER(K:yS)(r:V->Hp->VK->Prop)(o:D->M D):Prop:=∀x S d e H J v Q,o x S=.ok d e->SR K J S H->RV K H J x v->Xv K J H d e Q->r v H Q
theorem rz(k:ER X.K (SE X (unaryOp op)) o)(n:PE X a (Zu X.K ca)):PE X (.UnaryOp op a pos) (Zu X.K (Vh o ca)):=(Ad rK n).weak (by
 rintro Z H Q ⟨J,B,S,d,q,r,i,e,y⟩;obtain⟨x,h,j,e⟩:=Y8 e;exact⟨J,B,S,x,h,r,i,j,λv m l g f p=>k x h d q m l v Q e g p (y.shift f)⟩)
theorem KU(o:SR X.K J S H)(l:RE X.K H J B Z)(e:Zj ca B S=.ok k S')(h:∀f g,SR X.K g S' f->ZI X.K J g H f->Q (.bl k) f):Zu X.K ca Z H Q:=by
 obtain⟨x,n,m,e⟩:=Y8 e;refine⟨J,B,S,x,n,o,l,m,λv f g j i p=>?_⟩;cases x with
 |bl q =>
  obtain⟨rfl,rfl⟩:=Yb e;subst p;exact h f g j i
 |_=>cases e
theorem ry{ZJ:yE}(n:PE X a (Zu X.K ca))(o:PE X (.BoolOp .And (b::ZJ) pos) (Zu X.K cb)):PE X (.BoolOp .And (a::b::ZJ) pos) (Zu X.K (Ur ca cb)):=(AN n o).weak (by
 rintro Z H Q ⟨J,B,S,d,q,p,h,e,y⟩;obtain⟨k,l,j,e⟩:=Y8 e;refine KU p h j λm i g f=>⟨k,rfl,?_⟩
 cases k with
 |true=>rw[if_pos rfl]at e ⊢;exact⟨i,B,l,d,q,g,h.up f,e,y.shift f⟩
 | false=>rw[if_neg qB4]at e ⊢;obtain⟨rfl,rfl⟩:=Yb e;exact y _ m i g f (by rfl))
theorem rx{ZJ:yE}(n:PE X a (Zu X.K ca))(o:PE X (.BoolOp .Or (b::ZJ) pos) (Zu X.K cb)):PE X (.BoolOp .Or (a::b::ZJ) pos) (Zu X.K (Vg ca cb)):=(AL n o).weak (by
 rintro Z H Q ⟨J,B,S,d,q,p,h,e,y⟩;obtain⟨k,l,j,e⟩:=Y8 e;refine KU p h j λm i g f=>⟨k,rfl,?_⟩
 cases k with
 |false=>rw[if_neg qB4]at e ⊢;exact⟨i,B,l,d,q,g,h.up f,e,y.shift f⟩
 | true=>rw[if_pos rfl]at e ⊢;obtain⟨rfl,rfl⟩:=Yb e;exact y _ m i g f (by rfl))
theorem rr(j:PE X a (Zu X.K ca)):PE X (.UnaryOp .Not a pos) (Zu X.K (Qq ca)):=(AK j).weak (by
 rintro Z H Q ⟨J,B,S,d,o,n,h,e,y⟩;obtain⟨k,p,i,e⟩:=Y8 e;obtain⟨rfl,rfl⟩:=Yb e;exact KU n h i λm l f g=>⟨k,rfl,y _ m l f g (by rfl)⟩)
theorem rq(ht:PT X t (YM X.K l))(o:PE X a (Zu X.K ca))(p:PE X b (Zu X.K cb)):PE X (.IfExp t a b pos) (Zu X.K (TJ l ca cb)):=(AI ht o p).weak (by
 rintro Z H Q ⟨J,B,S,d,m,q,h,e,y⟩;obtain⟨k,i,n,e⟩:=Y8 e;refine⟨J,B,S,k,i,q,h,n,λr j g f=>?_⟩;cases k with
 |true=>rw[if_pos rfl]at e ⊢;exact⟨j,B,i,d,m,g,h.up f,e,y.shift f⟩
 | false=>rw[if_neg qB4]at e ⊢;exact⟨j,B,i,d,m,g,h.up f,e,y.shift f⟩)
variable {ta tb:CT}
theorem rp{ZJ:yE}(n:PT X a (YM X.K ta))(o:PW X (.BoolOp .And (b::ZJ) pos) (YM X.K tb)):PW X (.BoolOp .And (a::b::ZJ) pos) (YM X.K (SD ta tb)):=(AV n o).weak (by
 rintro Z H Q ⟨J,B,S,d,q,p,h,e,y⟩;obtain⟨k,i,l,e⟩:=Y8 e;refine⟨J,B,S,k,i,p,h,l,λm j g f=>?_⟩;cases k with
 |true=>rw[if_pos rfl]at e ⊢;exact⟨j,B,i,d,q,g,h.up f,e,y.shift f⟩
 | false=>rw[if_neg qB4]at e ⊢;obtain⟨rfl,rfl⟩:=Yb e;exact y m j g f)
theorem ro{ZJ:yE}(n:PT X a (YM X.K ta))(o:PW X (.BoolOp .Or (b::ZJ) pos) (YM X.K tb)):PW X (.BoolOp .Or (a::b::ZJ) pos) (YM X.K (Yy ta tb)):=(AU n o).weak (by
 rintro Z H Q ⟨J,B,S,d,q,p,h,e,y⟩;obtain⟨k,i,l,e⟩:=Y8 e;refine⟨J,B,S,k,i,p,h,l,λm j g f=>?_⟩;cases k with
 |false=>rw[if_neg qB4]at e ⊢;exact⟨j,B,i,d,q,g,h.up f,e,y.shift f⟩
 | true=>rw[if_pos rfl]at e ⊢;obtain⟨rfl,rfl⟩:=Yb e;exact y m j g f)
theorem rn(j:PT X a (YM X.K ta)):PT X (.UnaryOp .Not a pos) (YM X.K (Wp ta)):=(AS j).weak (by
 rintro Z H Q ⟨J,B,S,d,o,n,h,e,y⟩;obtain⟨k,p,i,e⟩:=Y8 e;obtain⟨rfl,rfl⟩:=Yb e;exact⟨J,B,S,k,_,n,h,i,λm l f g=>y m l f g⟩)
def Xu(x:D):M Bool:=λS=>match x with
 |.non=>.ok Z5 S
 |.bl b=>.ok b S
 |.int i=>.ok (i != 0) S
 |.str y=>if y.length<=jC then .ok ((y.length:Int) != 0) S else .bad
 |.tup e=>.ok (!e.isEmpty) S
 |.lst n=>match S[n]? with
  |some (.lst e)=>.ok (!e.isEmpty) S
  |_=>.bad
 |.dct n=>match S[n]? with
  |some (.dk f)=>.ok (!f.isEmpty) S
  |_=>.bad
 |.ty _=>.bad
 |.rol e=>.ok (!e.isEmpty) S
def Y7(a:C):CT:=fun B=>YW (a B) Xu
theorem N5{K:yS}(h:RVs K H J ds e):ds.isEmpty=e.isEmpty:=by
 cases ds with
 |nil=>unfold RVs at h;subst h;rfl
 |cons d ds=>unfold RVs at h;obtain⟨v,f,rfl,_⟩:=h;rfl
theorem SR.get{K:yS}(f:SR K J S H){n:Nat}{a:yR}(h:J[n]?=Z9 a)(e:S[n]?=Z9 o):OR K H J a o:=f.obj n a o h e
theorem rm{K:yS}(e:Xu x S=.ok k S')(o:SR K J S H)(r:RV K H J x v):S'=S/\SY K v H k:=by
 unfold Xu at e;cases x with
 |non=>cases e;subst r;exact⟨rfl,rfl⟩
 |bl b=>cases e;subst r;exact⟨rfl,rfl⟩
 |int i=>cases e;subst r;exact⟨rfl,rfl⟩
 |str y =>
  subst r;dsimp only at e;split at e
  .rename_i t;cases e;exact⟨rfl,t,rfl⟩
  .cases e
 |tup m =>
  cases e;obtain⟨p,g,rfl,q,f⟩:=r;exact⟨rfl,.inr (.inl ⟨g,Zp.of q,by rw[N5 f]⟩)⟩
 |lst n =>
  obtain⟨a,rfl,j⟩:=r;dsimp only at e;split at e
  .rename_i m h;cases e;obtain⟨g,l,f⟩:=o.get j h;exact⟨rfl,.inl ⟨g,YK.of l,by rw[N5 f]⟩⟩
  .cases e
 |dct n =>
  obtain⟨a,rfl,j⟩:=r;dsimp only at e;split at e
  .rename_i u h;cases e;obtain⟨s,l,f⟩:=o.get j h;refine⟨rfl,.inr (.inr ⟨s,l,?_⟩)⟩;have:=N5 f.2;rw[qU3,qU3]at this;rw[this]
  .cases e
 |ty _=>cases e
 |rol m =>
  cases e;obtain⟨p,g,rfl,q,f⟩:=r;exact⟨rfl,.inl ⟨g,q.sq,by rw[N5 f]⟩⟩
theorem rk(o:PE X a (Zu X.K ca))(he:∀f,uI a X.env f=(do let v <- f;dS a.pos;fB [v] (truthy v))):PT X a (YM X.K (Y7 ca)):=(zA o he).weak (by
 rintro Z H Q ⟨J,B,S,d,r,p,i,e,y⟩;obtain⟨x,k,j,e⟩:=Y8 e;refine⟨J,B,S,x,k,p,i,j,λv n l g h q=>?_⟩;obtain⟨rfl,m⟩:=rm e g q;exact⟨d,m,y n l g h⟩)
variable {es:yE}{cs:List C}
theorem KS:PA X [] (YA X.K (ZR [])):=GM.weak (by
 rintro Z H Q ⟨J,B,S,d,h,f,g,e,y⟩;obtain⟨rfl,rfl⟩:=Yb e;exact y [] H J f (ZI.refl _ _ _) RVs.nil)
theorem N4(o:PE X a (Zu X.K ca))(q:PA X es (YA X.K (ZR cs)))(hs:jL (a::es) X.env=(Z5,v7 a X.env)::jL es X.env):PA X (a::es) (YA X.K (ZR (ca::cs))):=(GL o q hs).weak (by
 rintro Z H Q ⟨J,B,S,d,w,t,j,e,y⟩;obtain⟨x,k,l,e⟩:=Y8 e;obtain⟨r,E,s,e⟩:=Y8 e;obtain⟨rfl,rfl⟩:=Yb e;exact⟨J,B,S,x,k,t,j,l,λv D n i g u=>⟨n,B,k,r,w,i,j.up g,s,λA p z h f m=>y (v::A) p z h (g.trans f h.nd) (.cons (RV.up f.tk f.ext _ _ u) m)⟩⟩)
theorem KR:∀{f:List C}{S S':ZX}{xs:List D},ZR f B S=.ok xs S'->xs.length=f.length
 |[],S,S',xs,e=>by obtain⟨rfl,rfl⟩:=Yb e;rfl
 |c::f,S,S',xs,e=>by obtain⟨x,k,h,e⟩:=Y8 e;obtain⟨i,j,g,e⟩:=Y8 e;obtain⟨rfl,rfl⟩:=Yb e;rw[qD3,qD3,KR g]
theorem EO{K:yS}(g:SR K J S H)(h:H p=Z8)(r:RVs K H J ds e):SR K J S (ZC H p (.tup e))/\ZI K J J H (ZC H p (.tup e))/\RV K (ZC H p (.tup e)) J (.tup ds) (.ref p):=by obtain⟨i,f⟩:=g.other h;exact⟨i,f,⟨p,e,rfl,Xx,RVs.up f.tk f.ext _ _ r⟩⟩
theorem rj{K:yS}(f:SR K J S H)(h:H p=Z8)(r:RVs K H J ds e):SR K (J++[p]) (S++[.lst ds]) (ZC H p (.lst e))/\ZI K J (J++[p]) H (ZC H p (.lst e))/\RV K (ZC H p (.lst e)) (J++[p]) (.lst S.length) (.ref p):=by obtain⟨i,g⟩:=f.push (o':=.lst ds) h ⟨e,Xx,RVs.up (RI h) ⟨[p],rfl⟩ _ _ r⟩;exact⟨i,g,⟨p,rfl,by rw[<- f.len,qA1 (qA7 _),qH7];rfl⟩⟩
theorem Xv.newL{K:yS}(y:Xv K J H (.lst S.length) (S++[.lst ds]) Q)(i:SR K J S H)(h:H p=Z8)(r:RVs K H J ds e):Q (.ref p) (ZC H p (.lst e)):=by obtain⟨j,g,f⟩:=rj i h r;exact y _ _ _ j g f
theorem Xv.newT{K:yS}(y:Xv K J H (.tup ds) S Q)(i:SR K J S H)(h:H p=Z8)(r:RVs K H J ds e):Q (.ref p) (ZC H p (.tup e)):=by obtain⟨j,g,f⟩:=EO i h r;exact y _ _ _ j g f
theorem ri{x1}(h:PA X es (YA X.K (ZR cs)))(v:cs.length<=1000):PE X (.Tuple es x1 pos) (Zu X.K (Ze (ZR cs))):=(zu h).weak (by
 rintro Z H Q ⟨J,B,S,d,o,n,k,e,y⟩;obtain⟨m,r,i,e⟩:=Y8 e;obtain⟨rfl,rfl⟩:=Yb e;refine⟨J,B,S,m,o,n,k,i,λw u s g f j=>⟨?_,λp l=>(y.shift f).newT g l j⟩⟩;have q:=KR i;have t:=j.len;exact qH5 (Gs (by lia)))
theorem rh(h:PA X es (YA X.K (ZR cs)))(u:cs.length<=1000):PE X (.List es pos) (Zu X.K (YL (ZR cs))):=(zt h).weak (by
 rintro Z H Q ⟨J,B,S,d,v,o,k,e,y⟩;obtain⟨n,l,i,e⟩:=Y8 e;cases e;refine⟨J,B,S,n,l,o,k,i,λw t r g f j=>⟨?_,λp m=>(y.shift f).newL g m j⟩⟩;have q:=KR i;have s:=j.len;exact qH5 (Gs (by lia)))
theorem rg(e:YD X.K (KY X) o)(f:PE X a (Zu X.K ca))(g:PE X b (Zu X.K cb))(hs:L8 b):PE X (.Subscript a b pos) (Zu X.K (ZU o ca cb)):=(yr rJ f g hs).weak (N6 e)
def CO:=ZS->M (yG)
def TC:CO:=λ_=>ret Z8
def SC(x:D):M Int:=match x with
 |.int i=>ret i
 |_=>bad
def TB(a:C):CO:=fun B=>YW (a B) λx=>YW (SC x) λi=>ret (Z9 i)
def KQ(K:yS)(J:yC)(H:Hp)(b:yG)(S':ZX)(Q:yG->Hp->Prop):Prop:=∀e f,SR K f S' e->ZI K J f H e->Q b e
inductive Vf(K:yS)(c:CO)(Z:St)(H:Hp)(Q:yG->Hp->Prop):Prop
 |mk (J:yC) (B:ZS) (S:ZX) (d:yG) (S':ZX) (sr:SR K J S H) (re:RE K H J B Z) (e:c B S=.ok d S') (y:KQ K J H d S' Q)
theorem PO.weak(h:PO X e t)(w:∀Z H Q,t' Z H Q->t Z H Q):PO X e t':=λf s Z H Q I q=>h f s Z H Q I (w Z H Q q)
theorem rd:PO X Z8 (Vf X.K TC):=y0.weak (by
 rintro Z H Q ⟨J,B,S,d,h,f,g,e,y⟩;obtain⟨rfl,rfl⟩:=Yb e;exact y H J f (ZI.refl _ _ _))
theorem q0(p:PE X a (Zu X.K ca)):PO X (Z9 a) (Vf X.K (TB ca)):=(yz p).weak (by
 rintro Z H Q ⟨J,B,S,d,t,q,k,e,y⟩;obtain⟨x,m,l,e⟩:=Y8 e;obtain⟨i,s,h,e⟩:=Y8 e;obtain⟨rfl,rfl⟩:=Yb e;refine⟨J,B,S,x,m,q,k,l,λv o n g f r=>?_⟩;cases x with
 |int j =>
  obtain⟨rfl,rfl⟩:=Yb h;exact⟨_,r,y o n g f⟩
 | _=>cases h)
def Tz(o:D->yG->yG->M D)(a:C)(lo hi:CO):C:=fun B=>YW (a B) λx=>YW (lo B) λl=>YW (hi B) λh=>o x l h
def EN(K:yS)(r:V->yG->yG->Hp->VK->Prop)(o:D->yG->yG->M D):Prop:=∀x l h S d e H J v Q,o x l h S=.ok d e->SR K J S H->RV K H J x v->Xv K J H d e Q->r v l h H Q
theorem qZ{lo hi:Option jE}{K:Pos}(u:EN X.K (KW X) o)(E:PE X a (Zu X.K ca))(G:PO X lo (Vf X.K cl))(z:PO X hi (Vf X.K ch)):PE X (.Subscript a (.Slice lo hi Z8 K) pos) (Zu X.K (Tz o ca cl ch)):=(yx rH E G z).weak (by
 rintro Z H Q ⟨J,B,S,d,O,P,n,e,y⟩;obtain⟨x,q,t,e⟩:=Y8 e;obtain⟨l,s,L,e⟩:=Y8 e;obtain⟨h,r,I,e⟩:=Y8 e;refine⟨J,B,S,x,q,P,n,t,λv T w p j N=>⟨w,B,q,l,s,p,n.up j,L,λU R k g=>?_⟩⟩;have f:=j.trans g k.nd;refine⟨R,B,s,h,r,k,n.up f,I,λF A m i=>?_⟩;exact u x l h r d O F A v Q e m (RV.up i.tk i.ext _ _ (RV.up g.tk g.ext _ _ N)) (y.shift (f.trans i m.nd)))
def WB(K:yS)(r:List V->Hp->VK->Prop)(o:List D->M D):Prop:=∀f S d e H J g Q,o f S=.ok d e->SR K J S H->RVs K H J f g->Xv K J H d e Q->r g H Q
variable {ca':CA}
theorem EM(l:WB X.K r o):∀Z H Q,Zu X.K (ZT o ca') Z H Q->OL r (YA X.K ca') Z H Q:=by rintro Z H Q ⟨J,B,S,d,q,s,j,e,y⟩;obtain⟨i,h,k,e⟩:=Y8 e;exact⟨J,B,S,i,h,s,j,k,λt n m g f p=>l i h d q n m t Q e g p (y.shift f)⟩
def Xt(K:yS)(g:List D->M D)(n:Nat):Sp:=λf H Q E=>f.length=n/\∃J ds S d e,SR K J S H/\RVs K H J ds f/\g ds S=.ok d e/\Xv K J H d e Q
theorem qY(p:∀ds S d S',h ds S=.ok d S'->ds.length=n):∀Z H Q,Zu X.K (ZT h ca') Z H Q->Md (Xt X.K h n) [] E0 (YA X.K ca') Z H Q:=by rintro Z H Q ⟨J,B,S,d,S',q,l,e,y⟩;obtain⟨j,i,m,e⟩:=Y8 e;refine⟨J,B,S,j,i,q,l,m,λs r o g f k=>?_⟩;rw[qI1];exact⟨by rw[<- k.len];exact p _ _ _ _ e,o,j,i,d,S',g,k,e,y.shift f⟩
end
def lim:Nat:=1048576
theorem Tx(h:n<=lim):n<=sizeLine:=qD4 h (by decide)
theorem N3(h:n<lim):n<sizeLine:=qC1 h (by decide)
section
variable {K:yS}{H H' H1:Hp}{J:yC}{S:ZX}
theorem SR.same(c:SR K J S H)(d:XR H H1):SR K J S H1/\ZI K J J H H1:=by have g:TF K H H1:=EW d;refine⟨⟨c.len,c.nd,λn a o e i=>?_⟩,⟨⟨[],by simp,by simp⟩,λb o _ h=>d b o h,g⟩⟩;obtain⟨u,f⟩:=c.isS (qB5 e);exact(c.obj n a o e i).up g ⟨[],by simp⟩ (by rw[f];exact d _ _ f)
theorem Xv.oldT(y:Xv K J H (.tup ds) S Q)(d:SR K J S H)(c:XR H H1)(h:H1 p=Z9 (.tup a))(r:RVs K H J ds a):Q (.ref p) H1:=by obtain⟨e,b⟩:=d.same c;exact y _ _ _ e b (⟨p,a,rfl,h,RVs.up b.tk b.ext _ _ r⟩)
theorem XJ:RV K H J (.int i) (.int i):=by rfl
theorem WM:RV K H J (.bl i) (.bl i):=by rfl
theorem Tw:RV K H J .non .non:=by rfl
theorem EL:RV K H J (.str i) (.str i):=by rfl
theorem SR.lst(c:SR K J S H){n:Nat}(h:J[n]?=Z9 a)(b:S[n]?=Z9 (.lst xs)):∃vs,H a=Z9 (.lst vs)/\RVs K H J xs vs:=c.obj n a _ h b
def ZH(S:ZX)(n:Nat):Option (List D):=match S[n]? with
 |some (.lst a)=>Z9 a
 |_=>Z8
theorem SR.sq(c:SR K J S H)(h:J[n]?=Z9 a)(b:ZH S n=Z9 xs):∃vs,YK K H a vs/\RVs K H J xs vs:=by
 unfold ZH at b;split at b
 .rename_i d e;cases b;obtain⟨vs,q,r⟩:=c.get h e;exact⟨vs,YK.of q,r⟩
 .cases b
def RH(S:ZX):D->Option (List D)
 |.tup a=>Z9 a
 |.lst n=>ZH S n
 |.rol a=>Z9 a
 |_=>Z8
theorem SR.seq(d:SR K J S H)(r:RV K H J x v)(b:RH S x=Z9 xs):∃a vs,v=.ref a/\(YK K H a vs∨Zp K H a vs)/\RVs K H J xs vs:=by
 unfold RH at b;split at b
 .cases b;obtain⟨p,vs,rfl,q,c⟩:=r;exact⟨p,vs,rfl,.inr (Zp.of q),c⟩
 .obtain⟨a,rfl,e⟩:=r;obtain⟨vs,q,c⟩:=d.sq e b;exact⟨a,vs,rfl,.inl q,c⟩
 .cases b;obtain⟨p,vs,rfl,q,c⟩:=r;exact⟨p,vs,rfl,.inl q.sq,c⟩
 .cases b
theorem RVs.cons_inv(h:RVs K H J (d::ds) a):∃v ws,a=v::ws/\RV K H J d v/\RVs K H J ds ws:=h
theorem RVs.nil_inv(h:RVs K H J [] a):a=[]:=h
end
def Zn(g:Int->Int->Int):D->D->M D
 |.int i,.int j=>ret (.int (g i j))
 |_,_=>bad
def Zk:D->D->M D
 |.int i,.int j=>ret (.int (i+j))
 |.tup b,.tup a=>λS=>if b.length+a.length<=lim then .ok (.tup (b++a)) S else .bad
 |.lst n,.lst m=>λS=>match S[n]?,S[m]? with
  |some (.lst b),Z9 (.lst a)=>if b.length+a.length<=lim then .ok (.lst S.length) (S++[.lst (b++a)])else .bad
  |_,_=>.bad
 |.str x,.str y=>λS=>if x.length+y.length<=lim then .ok (.str (x++y)) S else .bad
 |_,_=>bad
def Wo(i j:Int):Bool:=(decide (-18446744073709551616<i)&&decide (i<18446744073709551616))||(decide (-18446744073709551616<j)&&decide (j<18446744073709551616))
def Xs:D->D->M D
 |.int i,.int j=>λS=>if Wo i j then .ok (.int (i*j)) S else .bad
 |_,_=>bad
def Xg:D->D->M D
 |.int i,.int j=>λS=>if 0<j then .ok (.int (i % j)) S else .bad
 |_,_=>bad
def WL:D->D->M D
 |.int i,.int j=>λS=>if 0<j/\j<1073741824 then .ok (.int (i / j)) S else .bad
 |_,_=>bad
def VW:D->D->M D
 |.int i,.int j=>λS=>if 0<=j/\j<=1000000/\i.natAbs<18446744073709551616 then .ok (.int (i ^ j.toNat)) S else .bad
 |_,_=>bad
def Wn:D->D->M D
 |.int i,.int j=>λS=>if 0<=j/\j<=1000000/\i.natAbs<18446744073709551616 then .ok (.int (i*2 ^ j.toNat)) S else .bad
 |_,_=>bad
def Ve:D->D->M D
 |.int i,.int j=>λS=>if 0<=j then .ok (.int (i / 2 ^ j.toNat)) S else .bad
 |_,_=>bad
def XG:D->M D
 |.int i=>ret (.int (-i))
 |_=>bad
section
variable {X:Cx}
theorem N2(h:YY X (jP op) (V1 λi j=>.int (g i j))):YD X.K (Zm X (jP op)) (Zn g):=by
 intro x y S d k H J v u Q e f c a b;unfold Zn at e;split at e
 .obtain⟨rfl,rfl⟩:=Yb e;subst c a;exact⟨_,h,_,_,rfl,rfl,b.self f XJ⟩
 .cases e
theorem qX:YD X.K (Zm X (jP .Sub)) (Zn λi j=>i - j):=N2 Aa
theorem qW:YD X.K (Zm X (jP .BitAnd)) (Zn j6):=N2 zU
theorem qV:YD X.K (Zm X (jP .BitOr)) (Zn vV):=N2 zT
theorem qU:YD X.K (Zm X (jP .BitXor)) (Zn fD):=N2 zS
theorem qT:YD X.K (Zm X (jP .Add)) Zk:=by
 intro x y S d D H J v u Q e a g i h;unfold Zk at e;split at e
 .obtain⟨rfl,rfl⟩:=Yb e;subst g i;exact⟨_,Ab,_,_,rfl,rfl,h.self a XJ⟩
 .try dsimp only at e
  split at e
  .rename_i c;cases e;obtain⟨p,n,rfl,j,f⟩:=g;obtain⟨m,k,rfl,l,b⟩:=i;exact⟨_,xc,p,m,n,k,rfl,rfl,j,l,by rw[<- f.len,<- b.len];exact Tx c,λz A w sq=>h.oldT a w sq (f.append b)⟩
  .cases e
 .try dsimp only at e
  obtain⟨p,rfl,o⟩:=g;obtain⟨m,rfl,t⟩:=i;split at e
  .rename_i C B r s;split at e
   .rename_i c;cases e;obtain⟨n,j,f⟩:=a.lst o r;obtain⟨k,l,b⟩:=a.lst t s;exact⟨_,xU,p,m,n,k,rfl,rfl,j,l,by rw[<- f.len,<- b.len];exact Tx c,λz q=>h.newL a q (f.append b)⟩
   .cases e
  .cases e
 .try dsimp only at e
  split at e
  .rename_i c;cases e;subst g i;exact⟨_,zy,_,_,rfl,rfl,Tx c,h.self a EL⟩
  .cases e
 .cases e
theorem qS(h:Wo i j=Z7):UF i j:=by unfold Wo at h;simp only[qG6,qC8,decide_eq_true_eq]at h;exact h
theorem qR:YD X.K (Zm X (jP .Mult)) Xs:=by
 intro x y S d g H J v u Q e a c f h;unfold Xs at e;split at e
 .try dsimp only at e
  split at e
  .rename_i b;cases e;subst c f;exact⟨_,z0,_,_,rfl,rfl,qS b,h.self a XJ⟩
  .cases e
 .cases e
theorem qQ:YD X.K (Zm X (jP .Mod)) Xg:=by
 intro x y S d g H J v u Q e a c f h;unfold Xg at e;split at e
 .try dsimp only at e
  split at e
  .rename_i b;cases e;subst c f;exact⟨_,zY,_,_,rfl,rfl,b,h.self a XJ⟩
  .cases e
 .cases e
theorem qP:YD X.K (Zm X (jP .FloorDiv)) WL:=by
 intro x y S d g H J v u Q e a c f h;unfold WL at e;split at e
 .try dsimp only at e
  split at e
  .rename_i b;cases e;subst c f;exact⟨_,zZ,_,_,rfl,rfl,b,h.self a XJ⟩
  .cases e
 .cases e
theorem qO:YD X.K (Zm X (jP .Pow)) VW:=by
 intro x y S d g H J v u Q e a c f h;unfold VW at e;split at e
 .try dsimp only at e
  split at e
  .rename_i b;cases e;subst c f;exact⟨_,zX,_,_,rfl,rfl,b,h.self a XJ⟩
  .cases e
 .cases e
theorem qN:YD X.K (Zm X (jP .LShift)) Wn:=by
 intro x y S d g H J v u Q e a c f h;unfold Wn at e;split at e
 .try dsimp only at e
  split at e
  .rename_i b;cases e;subst c f;exact⟨_,zW,_,_,rfl,rfl,b,h.self a XJ⟩
  .cases e
 .cases e
theorem qM:YD X.K (Zm X (jP .RShift)) Ve:=by
 intro x y S d g H J v u Q e a c f h;unfold Ve at e;split at e
 .try dsimp only at e
  split at e
  .rename_i b;cases e;subst c f;exact⟨_,zV,_,_,rfl,rfl,b,h.self a XJ⟩
  .cases e
 .cases e
theorem qL:ER X.K (SE X (unaryOp .USub)) XG:=by
 intro x S d c H J v Q e a b h;unfold XG at e;split at e
 .obtain⟨rfl,rfl⟩:=Yb e;subst b;exact⟨_,zQ,_,rfl,h.self a XJ⟩
 .cases e
def Yx(g:Int->Int->Bool):D->D->M D
 |.int i,.int j=>ret (.bl (g i j))
 |_,_=>bad
theorem KP(h:YY X (jD op) (V1 λi j=>.bl (g i j))):YD X.K (Zm X (jD op)) (Yx g):=by
 intro x y S d k H J v u Q e f c a b;unfold Yx at e;split at e
 .obtain⟨rfl,rfl⟩:=Yb e;subst c a;exact⟨_,h,_,_,rfl,rfl,b.self f WM⟩
 .cases e
theorem qK:YD X.K (Zm X (jD .LtE)) (Yx λi j=>decide (i<=j)):=KP zL
theorem qJ:YD X.K (Zm X (jD .Gt)) (Yx λi j=>decide (j<i)):=KP zK
theorem qI:YD X.K (Zm X (jD .GtE)) (Yx λi j=>decide (j<=i)):=KP zJ
def Xb:List D->Option (yA)
 |[]=>Z9 []
 |.int i::r=>(Xb r).map (i::·)
 |_::_=>Z8
theorem Vx{K:yS}{H:Hp}{J:yC}:∀{ds:List D}{ns:yA}{vs:List V},Xb ds=Z9 ns->RVs K H J ds vs->vs=ns.map V.int
 |[],ns,vs,e,r=>by cases e;rw[r.nil_inv];rfl
 |.int i::ds,ns,vs,e,r=>by
  obtain⟨v,c,rfl,b,a⟩:=r.cons_inv;unfold Xb at e;cases q:Xb ds with
  |none=>rw[q]at e;cases e
  |some d =>
   rw[q]at e;cases e;subst b;rw[Vx q a];rfl
 |.non::ds,ns,vs,e,r=>by cases e
 |.bl _::ds,ns,vs,e,r=>by cases e
 |.str _::ds,ns,vs,e,r=>by cases e
 |.ty _::ds,ns,vs,e,r=>by cases e
 |.tup _::ds,ns,vs,e,r=>by cases e
 |.lst _::ds,ns,vs,e,r=>by cases e
 |.dct _::ds,ns,vs,e,r=>by cases e
 |.rol _::ds,ns,vs,e,r=>by cases e
def V8:D->D->M D
 |.int i,.int j=>ret (.bl (decide (i<j)))
 |.tup d,.tup c=>λS=>match Xb d,Xb c with
  |some a,Z9 b=>.ok (.bl (HT.lexLt a b)) S
  |_,_=>.bad
 |_,_=>bad
theorem qH(k:X.A.units<vN):YD X.K (Zm X (jD .Lt)) V8:=by
 intro x y S d w H J v u Q e c a b h;unfold V8 at e;split at e
 .obtain⟨rfl,rfl⟩:=Yb e;subst a b;exact⟨_,zO5,_,_,rfl,rfl,h.self c WM⟩
 .split at e
  .rename_i j o f q;cases e;unfold RV at a b;obtain⟨p,z,rfl,i,m⟩:=a;obtain⟨r,t,rfl,l,g⟩:=b;have s:=Vx f m;have n:=Vx q g;subst s n;exact⟨_,yv k,p,r,j,o,rfl,rfl,Zp.of i,Zp.of l,h.self c WM⟩
  .cases e
 .cases e
def Zg:Nat->ZX->D->Option v8
 |0,_,_=>Z8
 |n+1,S,d=>match d with
  |.non=>Z9 .none
  |.bl b=>Z9 (.bool b)
  |.int i=>Z9 (.int i)
  |.str x=>if PyData.strOk x then Z9 (.str x)else Z8
  |.tup a=>(a.mapM (Zg n S)).map .tuple
  |.lst k=>match ZH S k with
   |some a=>(a.mapM (Zg n S)).map .list
   |none=>Z8
  |_=>Z8
theorem N1{K:yS}{H:Hp}{J:yC}{S:ZX}{n:Nat}(c:∀d v p,Zg n S d=Z9 p->RV K H J d v->Rp K H (λ_=>True) v p/\p.canLay0=Z7/\p.depth<=n):∀(xs:List D) (vs:List V) (ps:List v8),xs.mapM (Zg n S)=Z9 ps->RVs K H J xs vs->RpL K H (λ_=>True) vs ps/\PyData.canLayAll0 ps=Z7/\PyData.depthAll ps<=n
 |[],vs,ps,e,r=>by simp at e;subst e;rw[r.nil_inv];exact⟨.nil,rfl,qE6 _⟩
 |d::ds,vs,ps,e,r=>by
  obtain⟨v,g,rfl,k,f⟩:=r.cons_inv;rw[qI7]at e;cases q:Zg n S d with
  |none=>rw[q]at e;cases e
  |some p =>
   cases b:ds.mapM (Zg n S)with
   |none=>rw[q,b]at e;cases e
   |some a =>
    rw[q,b]at e;cases e;obtain⟨j,h,l⟩:=c d v p q k;obtain⟨b1,i,m⟩:=N1 c ds g a b f;refine⟨.cons j b1,?_,?_⟩
    .show(PyData.canLay0 p&&PyData.canLayAll0 a)=Z7;rw[h,i];rfl
    .show max p.depth (PyData.depthAll a)<=n
     lia
theorem Tv{K:yS}{H:Hp}{J:yC}{S:ZX}(l:SR K J S H):∀(n:Nat) (d:D) (v:V) (p:v8),Zg n S d=Z9 p->RV K H J d v->Rp K H (λ_=>True) v p/\p.canLay0=Z7/\p.depth<=n
 |0,d,v,p,e,r=>by cases e
 |n+1,d,v,p,e,r=>by
  unfold Zg at e;cases d with
  |non=>cases e;subst r;exact⟨.non,rfl,qE6 _⟩
  |bl b=>cases e;subst r;exact⟨.bl b,rfl,qE6 _⟩
  |int i=>cases e;subst r;exact⟨.int i,rfl,qE6 _⟩
  |str x =>
   dsimp only at e;split at e
   .rename_i s;cases e;subst r;exact⟨.str x,s,qE6 _⟩
   .cases e
  |tup c =>
   dsimp only at e;cases q:c.mapM (Zg n S)with
   |none=>rw[q]at e;cases e
   |some g =>
    rw[q]at e;cases e;obtain⟨a,o,rfl,m,f⟩:=r;obtain⟨b1,j,h⟩:=N1 (λd v p e r=>Tv l n d v p e r) c o g q f;exact⟨.tup (Zp.of m) b1,j,qU4 h⟩
  |lst k =>
   dsimp only at e;split at e
   .rename_i c t;cases q:c.mapM (Zg n S)with
    |none=>rw[q]at e;cases e
    |some g =>
     rw[q]at e;cases e;obtain⟨a,rfl,u⟩:=r;obtain⟨o,m,f⟩:=l.sq u t;obtain⟨b1,j,h⟩:=N1 (λd v p e r=>Tv l n d v p e r) c o g q f;exact⟨.lst True.intro m b1,j,qU4 h⟩
   .cases e
  |dct k=>cases e
  |ty k=>cases e
  |rol k=>cases e
def XI:D->D->M D:=λx y S=>match x,y with
 |.str a,.str b=>.ok (.bl (decide (a=b))) S
 |_,_=>match Zg 40 S x,Zg 40 S y with
  |some p,Z9 q=>.ok (.bl (PyData.eqv p q)) S
  |_,_=>.bad
def Xf:D->D->M D:=λx y S=>match x,y with
 |.str a,.str b=>.ok (.bl (!decide (a=b))) S
 |_,_=>match Zg 40 S x,Zg 40 S y with
  |some p,Z9 q=>.ok (.bl (!PyData.eqv p q)) S
  |_,_=>.bad
theorem qG(j:X.A.units+64<vN):YD X.K (Zm X (jD .Eq)) XI:=by
 intro x y S d s H J v u Q e c f g h;unfold XI at e;split at e
 .rename_i a b;cases e;subst f g;refine⟨_,zN,rfl,?_⟩;have z:decide (V.str a=V.str b)=decide (a=b):=by simp
  rw[z];exact h.self c WM
 .split at e
  .rename_i p q i n;cases e;obtain⟨m,k,o⟩:=Tv c 40 x v p i f;obtain⟨b1,l,r⟩:=Tv c 40 y u q n g;exact⟨_,vw j,_,_,p,q,m,b1,⟨k,by lia⟩,⟨l,by lia⟩,h.self c WM⟩
  .cases e
theorem qF(j:X.A.units+64<vN):YD X.K (Zm X (jD .NotEq)) Xf:=by
 intro x y S d s H J v u Q e c f g h;unfold Xf at e;split at e
 .rename_i a b;cases e;unfold RV at f g;subst f g;refine⟨_,zM,rfl,?_⟩;have z:decide (V.str a=V.str b)=decide (a=b):=by simp
  rw[z];exact h.self c WM
 .split at e
  .rename_i p q i n;cases e;obtain⟨m,k,o⟩:=Tv c 40 x v p i f;obtain⟨b1,l,r⟩:=Tv c 40 y u q n g;exact⟨_,vv j,_,_,p,q,m,b1,⟨k,by lia⟩,⟨l,by lia⟩,h.self c WM⟩
  .cases e
def D.isNon:D->Bool
 |.non=>Z7
 |_=>Z5
theorem EK{K:yS}(r:RV K H J x v):decide (v=.non)=x.isNon:=by
 cases x with
 |non=>unfold RV at r;subst r;rfl
 |bl _=>unfold RV at r;subst r;rfl
 |int _=>unfold RV at r;subst r;rfl
 |str _=>unfold RV at r;subst r;rfl
 |ty _=>unfold RV at r;subst r;rfl
 |tup _=>unfold RV at r;obtain⟨_,_,rfl,_⟩:=r;rfl
 |lst _=>unfold RV at r;obtain⟨_,rfl,_⟩:=r;rfl
 |dct _=>unfold RV at r;obtain⟨_,rfl,_⟩:=r;rfl
 |rol _=>unfold RV at r;obtain⟨_,_,rfl,_⟩:=r;rfl
def Qo:D->D->M D
 |x,.non=>ret (.bl x.isNon)
 |.bl a,.bl b=>ret (.bl (a == b))
 |_,_=>bad
def Uq:D->D->M D
 |x,.non=>ret (.bl (!x.isNon))
 |.bl a,.bl b=>ret (.bl (a != b))
 |_,_=>bad
theorem qE:YD X.K (Zm X (jD .Is)) Qo:=by
 intro x y S d f H J v u Q e a b c h;unfold Qo at e;split at e
 .obtain⟨rfl,rfl⟩:=Yb e;exact⟨_,zI,c,by rw[EK b];exact h.self a WM⟩
 .obtain⟨rfl,rfl⟩:=Yb e;subst b c;exact⟨_,xh,_,_,rfl,rfl,h.self a WM⟩
 .cases e
theorem qD:YD X.K (Zm X (jD .IsNot)) Uq:=by
 intro x y S d f H J v u Q e a b c h;unfold Uq at e;split at e
 .obtain⟨rfl,rfl⟩:=Yb e;exact⟨_,zH,c,by rw[EK b];exact h.self a WM⟩
 .obtain⟨rfl,rfl⟩:=Yb e;subst b c;exact⟨_,xg,_,_,rfl,rfl,h.self a WM⟩
 .cases e
def XP:D->Option V
 |.non=>Z9 .non
 |.bl b=>Z9 (.bl b)
 |.int i=>Z9 (.int i)
 |.str x=>Z9 (.str x)
 |_=>Z8
theorem EJ{K:yS}(e:XP x=Z9 w)(r:RV K H J x v):v=w:=by
 cases x with
 |non=>cases e;exact r
 |bl _=>cases e;exact r
 |int _=>cases e;exact r
 |str _=>cases e;exact r
 |_=>cases e
theorem EI{K:yS}{H:Hp}{J:yC}:∀{ds:List D}{vs ws:List V},ds.mapM XP=Z9 ws->RVs K H J ds vs->vs=ws
 |[],vs,ws,e,r=>by simp at e;subst e;exact r.nil_inv
 |d::ds,vs,ws,e,r=>by
  obtain⟨v,g,rfl,c,b⟩:=r.cons_inv;rw[qI7]at e;cases q:XP d with
  |none=>rw[q]at e;cases e
  |some w =>
   cases a:ds.mapM XP with
   |none=>rw[q,a]at e;cases e
   |some f =>
    rw[q,a]at e;cases e;rw[EJ q c,EI a b]
def WT:D->Option ZF
 |.int i=>Z9 (.inl i)
 |.str x=>Z9 (.inr x)
 |_=>Z8
theorem RG{K:yS}(e:WT x=Z9 k)(r:RV K H J x v):v=kV k:=by
 cases x with
 |int _=>cases e;exact r
 |str _=>cases e;exact r
 |_=>cases e
def YT{a:Type}[DecidableEq a](kvs:List (a×D))(k:a):Option D:=(kvs.find? λb=>decide (b.1=k)).map (·.2)
def YS{b:Type}[DecidableEq b](kvs:List (b×D))(k:b)(v:D):List (b×D) :=
 if(kvs.any λa=>decide (a.1=k))=Z7 then kvs.map (λa=>if a.1=k then(a.1,v)else a)else kvs++[(k,v)]
section
variable {κ:Type} [DecidableEq κ] {K:yS}{H:Hp}{J:yC}
theorem Y4.cons_inv{b:List (κ×V)}(h:Y4 K H J (p::kvs) b):∃q us,b=q::us/\p.1=q.1/\RV K H J p.2 q.2/\Y4 K H J kvs us:=by
 obtain⟨a,c⟩:=h;rw[qB8]at a c;obtain⟨v,g,e,f,d⟩:=c.cons_inv;cases b with
 |nil=>simp at a
 |cons q us =>
  rw[qB8]at a e;cases e;rw[qK3.injEq]at a;exact⟨q,us,rfl,a.1,f,a.2,d⟩
theorem Y4.val:∀{kvs:List (κ×D)}{ws:List (κ×V)},Y4 K H J kvs ws->(∀d,YT kvs k=Z9 d->∃v,Yr ws k=Z9 v/\RV K H J d v)/\(YT kvs k=Z8->Yr ws k=Z8)
 |[],ws,h=>by
  have:ws=[]:=by have:=h.1;cases ws with|nil=>rfl|cons a b=>simp at this
  subst this;exact⟨λd e=>(by cases e),λ_=>rfl⟩
 |p::kvs,ws,h=>by
  obtain⟨q,l,rfl,f,m,i⟩:=h.cons_inv;obtain⟨j,g⟩:=Y4.val i;by_cases hk:p.1=k
  .have c:YT (p::kvs) k=Z9 p.2:=by simp[YT,hk]
   rw[c,OJ (f▸hk)]
   simp_all
  .have c:YT (p::kvs) k=YT kvs k:=by simp[YT,hk]
   rw[c,OI (f▸hk)];exact⟨j,g⟩
theorem Y4.nil:Y4 K H J ([]:List (κ×D)) []:=⟨rfl,RVs.nil⟩
theorem Y4.cons{a:List (κ×V)}(r:RV K H J d v)(h:Y4 K H J kvs a):Y4 K H J ((k,d)::kvs) ((k,v)::a):=⟨by rw[qB8,qB8,h.1],.cons r h.2⟩
theorem Y4.any:∀{kvs:List (κ×D)}{ws:List (κ×V)},Y4 K H J kvs ws->(kvs.any λc=>decide (c.1=k))=(ws.any λc=>decide (c.1=k))
 |[],ws,h=>by
  have:ws=[]:=by have:=h.1;cases ws with|nil=>rfl|cons a b=>simp at this
  subst this;rfl
 |p::kvs,ws,h=>by obtain⟨q,f,rfl,d,g,e⟩:=h.cons_inv;rw[qG8,qG8,Y4.any e,d]
theorem Y4.mapSet(e:RV K H J d v):∀{kvs:List (κ×D)}{ws:List (κ×V)},Y4 K H J kvs ws->Y4 K H J (kvs.map (λc=>if c.1=k then(c.1,d)else c)) (ws.map (λc=>if c.1=k then(c.1,v)else c))
 |[],ws,h=>by
  have:ws=[]:=by have:=h.1;cases ws with|nil=>rfl|cons a b=>simp at this
  subst this;exact .nil
 |p::kvs,ws,h=>by
  obtain⟨q,n,rfl,g,j,f⟩:=h.cons_inv;rw[qB8,qB8];obtain⟨i,m⟩:=p;obtain⟨o,l⟩:=q;subst g;by_cases hk:i=k
  .rw[if_pos hk,if_pos hk];exact .cons e (Y4.mapSet e f)
  .rw[if_neg hk,if_neg hk];exact .cons j (Y4.mapSet e f)
theorem Y4.append{ds:List (κ×V)}(h:Y4 K H J b bs)(g:Y4 K H J a ds):Y4 K H J (b++a) (bs++ds):=⟨by rw[qD7,qD7,h.1,g.1],by rw[qD7,qD7];exact h.2.append g.2⟩
theorem Y4.put(c:RV K H J d v){b:List (κ×V)}(h:Y4 K H J kvs b):Y4 K H J (YS kvs k d) (Y2 b k v):=by
 unfold YS Y2;rw[h.any];by_cases a:(b.any λe=>decide (e.1=k))=Z7
 .rw[if_pos a,if_pos a];exact h.mapSet c
 .rw[if_neg a,if_neg a];exact h.append (.cons c .nil)
def XF(kvs more:List (κ×D)):List (κ×D):=more.foldl (λacc a=>YS acc a.1 a.2) kvs
theorem Y4.len{a:List (κ×V)}(h:Y4 K H J kvs a):kvs.length=a.length:=by have:=congrArg qJ3 h.1;simpa using this
end
def dictAt(S:ZX)(n:Nat)(x:D):Option (Option D):=match S[n]? with
 |some (.dk a)=>(WT x).map λk=>YT a k
 |some (.dt a)=>match x with
  |.tup b=>(b.mapM WT).map λk=>YT a k
  |_=>Z8
 |some (.fk a)=>(WT x).map λk=>YT a k
 |_=>Z8
theorem N0{K:yS}{H:Hp}{J:yC}:∀{ds:List D}{ks:List ZF}{vs:List V},ds.mapM WT=Z9 ks->RVs K H J ds vs->vs=ks.map kV
 |[],ks,vs,e,r=>by simp at e;subst e;exact r.nil_inv
 |d::ds,ks,vs,e,r=>by
  obtain⟨u,g,rfl,f,c⟩:=r.cons_inv;rw[qI7]at e;cases q:WT d with
  |none=>rw[q]at e;cases e
  |some k =>
   cases a:ds.mapM WT with
   |none=>rw[q,a]at e;cases e
   |some b =>
    rw[q,a]at e;cases e;rw[qB8,RG q f,N0 a c]
theorem EH{K:yS}(j:SR K J S H)(e:dictAt S n x=Z9 r)(hm:J[n]?=Z9 a)(i:RV K H J x v):∃o,Yi H a v o/\(∀d,r=Z9 d->∃w,o=Z9 w/\RV K H J d w)/\(r=Z8->o=Z8):=by
 unfold dictAt at e;split at e
 .rename_i h c;cases q:WT x with
  |none=>rw[q]at e;cases e
  |some k =>
   rw[q]at e;cases e;obtain⟨f,g,b⟩:=j.get hm c;have:=RG q i;subst this;exact⟨Yr f k,Yi.k g,(b.val).1,(b.val).2⟩
 .rename_i h c;split at e
  .rename_i s;cases q:s.mapM WT with
   |none=>rw[q]at e;cases e
   |some k =>
    rw[q]at e;cases e;obtain⟨f,g,b⟩:=j.get hm c;unfold RV at i;obtain⟨p,t,rfl,l,m⟩:=i;have:=N0 q m;subst this;exact⟨Yr f k,Yi.t g l,(b.val (k:=k)).1,(b.val (k:=k)).2⟩
  .cases e
 .rename_i h c;cases q:WT x with
  |none=>rw[q]at e;cases e
  |some k =>
   rw[q]at e;cases e;obtain⟨o,f,g,b⟩:=j.get hm c;have:=RG q i;subst this;exact⟨Yr f k,.inl ⟨_,_,.inr ⟨o,g⟩,rfl,rfl⟩,(b.val (k:=k)).1,(b.val (k:=k)).2⟩
 .cases e
def YG(neg:Bool):D->D->M D:=λx y S=>match y with
 |.dct n=>match dictAt S n x with
  |some o=>.ok (.bl (if neg then !o.isSome else o.isSome)) S
  |none=>.bad
 |_=>match RH S y,XP x with
  |some b,Z9 v=>match b.mapM XP with
   |some a=>.ok (.bl (if neg then !T2 v a else T2 v a)) S
   |none=>.bad
  |_,_=>.bad
theorem EG(h:XP x=Z9 v):UY v=Z7:=by cases x<;>first|(cases h;rfl)| cases h
theorem EF:∀{ds:List D}{vs:List V},ds.mapM XP=Z9 vs->vs.all UY=Z7
 |[],vs,e=>by simp at e;subst e;rfl
 |d::ds,vs,e=>by
  rw[qI7]at e;cases q:XP d with
  |none=>rw[q]at e;cases e
  |some w =>
   cases a:ds.mapM XP with
   |none=>rw[q,a]at e;cases e
   |some b =>
    rw[q,a]at e;cases e;rw[qK9,EG q,EF a];rfl
theorem qC(d:X.A.units+1<vN):YY X (jD .In) (λy x H Q=>∃a o,x=.ref a/\Yi H a y o/\Q (.bl o.isSome) H):=by intro b s Z H y x v u Q I f c h;obtain⟨a,o,rfl,g,q⟩:=h;obtain rfl:u=Value.ref a:=c;exact LY d I g f λi e=>⟨.bl o.isSome,H,e,rfl,q⟩
theorem qB(d:X.A.units+1<vN):YY X (jD .NotIn) (λy x H Q=>∃a o,x=.ref a/\Yi H a y o/\Q (.bl (!o.isSome)) H):=by intro b s Z H y x v u Q I f c h;obtain⟨a,o,rfl,g,q⟩:=h;obtain rfl:u=Value.ref a:=c;exact xK d I g f λi e=>⟨.bl (!o.isSome),H,e,rfl,q⟩
theorem EE{n:Nat}:∀{ps:List v8},PyData.canLayAll0 ps=Z7->PyData.depthAll ps<=n->∀d∈ps,d.canLay0=Z7/\d.depth<=n
 |[],_,_,d,h=>by cases h
 |p::ps,h1,h2,d,h=>by
  replace h1:(PyData.canLay0 p&&PyData.canLayAll0 ps)=Z7:=h1
  replace h2:max p.depth (PyData.depthAll ps)<=n:=h2
  rw[qC8]at h1;rcases qB0.mp h with rfl|h
  .exact⟨h1.1,by lia⟩
  .exact EE h1.2 (by lia) d h
theorem ED(l:YY X (jD op) (L4 X.K neg))(s:YY X (jD op) (λy x H Q=>∃a o,x=.ref a/\Yi H a y o/\Q (.bl (if neg then !o.isSome else o.isSome)) H))
  : YD X.K (Zm X (jD op)) (YG neg):=by
 intro x y S d G H J v u Q e c i f h;unfold YG at e;split at e
 .rename_i n;split at e
  .rename_i o p;cases e;unfold RV at f;obtain⟨a,rfl,t⟩:=f;obtain⟨j,g,z,q⟩:=EH c p t i;have b:j.isSome=o.isSome:=by
    cases o with
    |none=>simp[q rfl]
    |some d=>obtain⟨w,rfl,_⟩:=z d rfl;rfl
   exact⟨_,s,a,j,rfl,g,by rw[b];exact h.self c WM⟩
  .cases e
 .split at e
  .rename_i F w m b;split at e
   .rename_i E k;cases e;obtain⟨a,D,rfl,C,r⟩:=c.seq f m;have B:=EJ b i;have A:=EI k r;subst B A;exact⟨_,l,a,D,rfl,C,EG b,EF k,h.self c WM⟩
   .cases e
  .cases e
theorem qA(a:X.A.units+64<vN):YD X.K (Zm X (jD .In)) (YG Z5):=ED yf (qC (by lia))
theorem qz(a:X.A.units+64<vN):YD X.K (Zm X (jD .NotIn)) (YG Z7):=ED ye (qB (by lia))
end
section
variable {X:Cx}
theorem qy(m:X.A.units+1<vN):RX X (λx y H Q=>∃a v,x=.ref a/\Yi H a y (Z9 v)/\Q v H):=by
 intro d e c s Z H x y v u Q I l p h k;obtain⟨a,z,rfl,g,q⟩:=h;obtain rfl:v=Value.ref a:=l;have n:=xI I g;have f:y7 (yV X.prog X.w) X.A (gP (.ref a) u) (EP X c Z Q) X.xe s:=xM m I g p λt w o j=>⟨z,H,o,j,q⟩
 refine yO ?_;refine yO (mH n PySem.F.slot_dict_getitem.lookup ?_);have fin:y7 (yV X.prog X.w) X.A (uL e Z5 (.ref a) u) (λr b=>y7 (yV X.prog X.w) X.A (letTemporaryGo d (.ref a) r >>= λ_=>pure r) (EP X c Z Q) X.xe b) X.xe s:=by rw[k];exact wpAny_operating (jS f (λr b i=>yO (wpAny_letTemporaryGo (yP i))) λ_ _ x=>x)
 exact yP (yO fin)
def ZA:D->D->M D:=λx i S=>match x with
 |.dct n=>match dictAt S n i with
  |some (Z9 d)=>.ok d S
  |_=>.bad
 |_=>match RH S x,i with
  |some a,.int j=>match Yk a j with
   |some d=>.ok d S
   |none=>.bad
  |_,_=>.bad
theorem RVs.at{K:yS}(r:RVs K H J ds a)(e:Yk ds i=Z9 d):∃v,Yk a i=Z9 v/\RV K H J d v:=by
 unfold Yk at e ⊢;rw[<- r.len];cases q:Wu ds.length i with
 |none=>rw[q]at e;cases e
 |some j =>
  rw[q]at e;obtain⟨v,b,c⟩:=r.get e;exact⟨v,b,c⟩
theorem qx(s:X.A.units+1<vN):YD X.K (KY X) ZA:=by
 intro x y S d D H J v u Q e f k i h;unfold ZA at e;split at e
 .rename_i n;split at e
  .rename_i A q;cases e;obtain⟨a,rfl,t⟩:=k;obtain⟨o,g,z,_⟩:=EH f q t i;obtain⟨w,rfl,b⟩:=z _ rfl;exact⟨_,qy s,a,w,rfl,g,h.self f b⟩
  .cases e
 .split at e
  .rename_i C j p;split at e
   .rename_i A B;cases e;obtain⟨a,m,rfl,c,r⟩:=f.seq k p;obtain⟨w,l,b⟩:=r.at B;unfold RV at i;subst i;rcases c with c|c
    .exact⟨_,yq,a,m,j,w,rfl,rfl,c,l,h.self f b⟩
    .exact⟨_,yp,a,m,j,w,rfl,rfl,c,l,h.self f b⟩
   .cases e
  .cases e
def XO(xs:List D)(lo hi:yG):List D:=(xs.drop (HT.sIx xs.length 0 lo)).take (HT.sIx xs.length xs.length hi - HT.sIx xs.length 0 lo)
def VU:D->yG->yG->M D:=λx b c S=>match x with
 |.tup a=>.ok (.tup (XO a b c)) S
 |.lst n=>match ZH S n with
  |some a=>.ok (.lst S.length) (S++[.lst (XO a b c)])
  |none=>.bad
 |_=>.bad
theorem RVs.cut{K:yS}(r:RVs K H J ds a)(lo hi:yG):RVs K H J (XO ds lo hi) (W4 a lo hi):=by unfold XO W4;rw[r.len];exact(r.drop _).take _
theorem qw:EN X.K (KW X) VU:=by
 intro x j g S d t H J v Q e c i h;unfold VU at e;split at e
 .cases e;obtain⟨p,f,rfl,q,b⟩:=i;exact⟨_,wy,p,f,rfl,q,λs o n sq=>h.oldT c n sq (b.cut j g)⟩
 .split at e
  .rename_i r k;cases e;obtain⟨a,rfl,l⟩:=i;obtain⟨f,q,b⟩:=c.sq l k;exact⟨_,yh,a,f,rfl,q,λp m=>h.newL c m (b.cut j g)⟩
  .cases e
 .cases e
theorem RVs.reverse{K:yS}:∀{ds:List D}{vs:List V},RVs K H J ds vs->RVs K H J ds.reverse vs.reverse
 |[],vs,r=>by rw[r.nil_inv];exact .nil
 |d::ds,vs,r=>by obtain⟨v,c,rfl,b,a⟩:=r.cons_inv;rw[qJ4,qJ4];exact a.reverse.append (.cons b .nil)
def Zw:List D->M D:=λb S=>match b with
 |[.str x]=>if x.length<=lim then .ok (.int x.length) S else .bad
 |[.dct n]=>match S[n]? with
  |some (.dk a)=>.ok (.int a.length) S
  |some (.fk a)=>.ok (.int a.length) S
  |_=>.bad
 |[x]=>match RH S x with
  |some c=>.ok (.int c.length) S
  |none=>.bad
 |_=>.bad
theorem RVs.one{K:yS}(h:RVs K H J [d] a):∃v,a=[v]/\RV K H J d v:=by obtain⟨v,e,rfl,c,b⟩:=h.cons_inv;rw[b.nil_inv];exact⟨v,rfl,c⟩
theorem RVs.two{K:yS}(h:RVs K H J [d,e] a):∃v u,a=[v,u]/\RV K H J d v/\RV K H J e u:=by obtain⟨v,g,rfl,f,b⟩:=h.cons_inv;obtain⟨u,rfl,c⟩:=b.one;exact⟨v,u,rfl,f,c⟩
theorem qv:WB X.K (Yz X (.builtin "len")) Zw:=by
 intro t S d u H J m Q e b g h;unfold Zw at e;split at e
 .split at e
  .rename_i p;cases e;obtain⟨v,rfl,r⟩:=g.one;subst r;exact⟨_,yc,_,rfl,Tx p,h.self b XJ⟩
  .cases e
 .obtain⟨v,rfl,r⟩:=g.one;unfold RV at r;obtain⟨a,rfl,l⟩:=r;split at e
  .rename_i k f;cases e;obtain⟨i,j,c⟩:=b.get l f;exact⟨_,E2,a,i,rfl,.inl j,by rw[<- c.len];exact h.self b XJ⟩
  .rename_i k f;cases e;obtain⟨o,i,j,c⟩:=b.get l f;exact⟨_,E2,a,i,rfl,.inr ⟨o,j⟩,by rw[<- c.len];exact h.self b XJ⟩
  .cases e
 .split at e
  .rename_i s n;cases e;obtain⟨v,rfl,r⟩:=g.one;obtain⟨a,m,rfl,q,c⟩:=b.seq r n;exact⟨_,yd,a,m,rfl,q,by rw[<- c.len];exact h.self b XJ⟩
  .cases e
 .cases e
def SB(a:Int):yA->Int
 |[]=>a
 |b::r=>if b<a then SB b r else SB a r
def SA(a:Int):yA->Int
 |[]=>a
 |b::r=>if a<b then SA b r else SA a r
theorem KO:∀(a:Int) (r:yA),SB a r∈a::r/\∀x∈a::r,SB a r<=x
 |a,[]=>by simp[SB]
 |a,b::r=>by
  unfold SB;split
  .have h:=KO b r;refine⟨qC5 _ h.1,λx c=>?_⟩;rcases qB0.mp c with rfl|c
   .have:=h.2 b (by simp);lia
   .exact h.2 x c
  .have h:=KO a r;refine⟨?_,λx c=>?_⟩
   .rcases qB0.mp h.1 with e|e
    .rw[e];simp
    .simp_all
   .have:=h.2 a (by simp);rcases qB0.mp c with rfl|c
    .lia
    rcases qB0.mp c with rfl|c
    .lia
    .simp_all
theorem KN:∀(a:Int) (r:yA),SA a r∈a::r/\∀x∈a::r,x<=SA a r
 |a,[]=>by simp[SA]
 |a,b::r=>by
  unfold SA;split
  .have h:=KN b r;refine⟨qC5 _ h.1,λx c=>?_⟩;rcases qB0.mp c with rfl|c
   .have:=h.2 b (by simp);lia
   .exact h.2 x c
  .have h:=KN a r;refine⟨?_,λx c=>?_⟩
   .rcases qB0.mp h.1 with e|e
    .rw[e];simp
    .simp_all
   .have:=h.2 a (by simp);rcases qB0.mp c with rfl|c
    .lia
    rcases qB0.mp c with rfl|c
    .lia
    .simp_all
def Wm:List D->M D:=λb S=>match b with
 |[.int i,.int j]=>.ok (.int (if j<i then j else i)) S
 |[.lst n]=>match (ZH S n).bind Xb with
  |some (a::r)=>.ok (.int (SB a r)) S
  |_=>.bad
 |_=>.bad
def Vd:List D->M D:=λb S=>match b with
 |[.int i,.int j]=>.ok (.int (if j>i then j else i)) S
 |[.lst n]=>match (ZH S n).bind Xb with
  |some (a::r)=>.ok (.int (SA a r)) S
  |_=>.bad
 |_=>.bad
theorem qu(i:X.calm=Z7):WB X.K (Yz X (.builtin "min")) Wm:=by
 intro y S d A H J B Q e f g h;unfold Wm at e;split at e
 .cases e;obtain⟨v,u,rfl,c,k⟩:=g.two;subst c k;exact⟨_,zw i,_,_,rfl,h.self f XJ⟩
 .split at e
  .rename_i b r j;cases e;obtain⟨x,t,p⟩:=qA5.mp j;obtain⟨v,rfl,c⟩:=g.one;unfold RV at c;obtain⟨a,rfl,n⟩:=c;obtain⟨w,q,m⟩:=f.sq n t;have z:=Vx p m;subst z;refine⟨_,rP i,a,b::r,rfl,q,by simp,λM l o=>?_⟩;have s:=KO b r;rw[qR0 (o _ s.1) (s.2 _ l)];exact h.self f XJ
  .cases e
 .cases e
theorem qt(i:X.calm=Z7):WB X.K (Yz X (.builtin "max")) Vd:=by
 intro y S d A H J B Q e f g h;unfold Vd at e;split at e
 .cases e;obtain⟨v,u,rfl,c,k⟩:=g.two;subst c k;exact⟨_,zx i,_,_,rfl,h.self f XJ⟩
 .split at e
  .rename_i b r j;cases e;obtain⟨x,t,p⟩:=qA5.mp j;obtain⟨v,rfl,c⟩:=g.one;unfold RV at c;obtain⟨a,rfl,n⟩:=c;obtain⟨w,q,m⟩:=f.sq n t;have z:=Vx p m;subst z;refine⟨_,rO i,a,b::r,rfl,q,by simp,λM l o=>?_⟩;have s:=KN b r;rw[qR0 (s.2 _ l) (o _ s.1)];exact h.self f XJ
  .cases e
 .cases e
def Ya:List D->M D:=λb S=>match b with
 |[.tup a]=>.ok (.tup a) S
 |[.lst n]=>match ZH S n with
  |some a=>.ok (.tup a) S
  |none=>.bad
 |_=>.bad
theorem qr:WB X.K (Yz X (.type "tuple")) Ya:=by
 intro o S d s H J t Q e c f h;unfold Ya at e;split at e
 .cases e;obtain⟨v,rfl,r⟩:=f.one;have j:=r;obtain⟨p,b,rfl,q,g⟩:=j;exact⟨_,Gz,p,b,rfl,.inr ⟨Zp.of q,h.self c r⟩⟩
 .split at e
  .rename_i n i;cases e;obtain⟨v,rfl,r⟩:=f.one;obtain⟨a,rfl,k⟩:=r;obtain⟨b,q,g⟩:=c.sq k i;exact⟨_,Gz,a,b,rfl,.inl ⟨q,λl m=>h.newT c m g⟩⟩
  .cases e
 .cases e
def VS:List D->M D:=λa S=>match a with
 |[.int i]=>.ok (.int i) S
 |[.bl b]=>.ok (.int (if b then 1 else 0)) S
 |_=>.bad
theorem qq:WB X.K (Yz X (.type "int")) VS:=by
 intro f S d c H J g Q e a b h;unfold VS at e;split at e
 .cases e;obtain⟨v,rfl,r⟩:=b.one;subst r;exact⟨_,GN,.inl ⟨_,rfl,h.self a XJ⟩⟩
 .cases e;obtain⟨v,rfl,r⟩:=b.one;subst r;exact⟨_,GN,.inr ⟨_,rfl,h.self a XJ⟩⟩
 .cases e
def Vc(S:ZX)(n:Nat):Option String:=match S[n]? with
 |some (.dk _)=>Z9 "dict"
 |_=>Z8
def RF(S:ZX):D->Option String
 |.non=>Z9 "NoneType"
 |.bl _=>Z9 "bool"
 |.int _=>Z9 "int"
 |.str _=>Z9 "str"
 |.tup _=>Z9 "tuple"
 |.lst n=>if(ZH S n).isSome then Z9 "list" else Z8
 |.dct n=>Vc S n
 |_=>Z8
def YJ:List D->M D:=λa S=>match a with
 |[x,.ty T]=>match RF S x with
  |some t=>if T∈["bool","int","tuple","list","str","dict"]then .ok (.bl (OA t T)) S else .bad
  |none=>.bad
 |_=>.bad
theorem qp{K:yS}(d:SR K J S H)(e:RF S x=Z9 t)(r:RV K H J x v):UV K H v t/\t∈["NoneType","bool","int","str","tuple","list","dict"]:=by
 cases x with
 |non=>cases e;subst r;exact⟨.non,by decide⟩
 |bl b=>cases e;subst r;exact⟨.bl b,by decide⟩
 |int i=>cases e;subst r;exact⟨.int i,by decide⟩
 |str i=>cases e;subst r;exact⟨.str i,by decide⟩
 |tup k=>cases e;obtain⟨p,m,rfl,q,_⟩:=r;exact⟨.tup (Zp.of q),by decide⟩
 |lst n =>
  have e:(if(ZH S n).isSome then Z9 "list" else Z8)=Z9 t:=e;split at e
  .rename_i g;cases e;obtain⟨k,h⟩:=qH6.mp g;obtain⟨a,rfl,c⟩:=r;obtain⟨m,q,_⟩:=d.sq c h;exact⟨.lst q,by decide⟩
  .cases e
 |dct n =>
  have e:Vc S n=Z9 t:=e;unfold Vc at e;split at e
  .rename_i l f;cases e;obtain⟨a,rfl,c⟩:=r;obtain⟨o,j,_⟩:=d.get c f;exact⟨.dk j,by decide⟩
  .cases e
 |ty n=>cases e
 |rol n=>cases e
theorem qo:WB X.K (Yz X (.builtin "isinstance")) YJ:=by
 intro k S d l H J m Q e a f h;unfold YJ at e;split at e
 .rename_i x T;split at e
  .rename_i t b;split at e
   .rename_i g;cases e;obtain⟨v,u,rfl,j,c⟩:=f.two;subst c;obtain⟨i,k2⟩:=qp a b j;exact⟨_,wb,v,t,T,_,rfl,i,wa X.K t k2 T g,h.self a WM⟩
   .cases e
  .cases e
 .cases e
def Vb:List D->Option (List Bool)
 |[]=>Z9 []
 |.bl b::r=>(Vb r).map (b::·)
 |_::_=>Z8
theorem EC{K:yS}{H:Hp}{J:yC}:∀{ds:List D}{ns:List Bool}{vs:List V},Vb ds=Z9 ns->RVs K H J ds vs->vs=ns.map V.bl
 |[],ns,vs,e,r=>by cases e;rw[r.nil_inv];rfl
 |.bl i::ds,ns,vs,e,r=>by
  obtain⟨v,c,rfl,b,a⟩:=r.cons_inv;unfold Vb at e;cases q:Vb ds with
  |none=>rw[q]at e;cases e
  |some d =>
   rw[q]at e;cases e;subst b;rw[EC q a];rfl
 |.non::ds,ns,vs,e,r=>by cases e
 |.int _::ds,ns,vs,e,r=>by cases e
 |.str _::ds,ns,vs,e,r=>by cases e
 |.ty _::ds,ns,vs,e,r=>by cases e
 |.tup _::ds,ns,vs,e,r=>by cases e
 |.lst _::ds,ns,vs,e,r=>by cases e
 |.dct _::ds,ns,vs,e,r=>by cases e
 |.rol _::ds,ns,vs,e,r=>by cases e
def W1(g:List Bool->Bool):List D->M D:=λb S=>match b with
 |[.tup ys]=>match Xb ys with
  |some a=>.ok (.bl (g (a.map (· != 0)))) S
  |none=>.bad
 |[.lst n]=>match (ZH S n).bind Vb with
  |some bs=>.ok (.bl (g bs)) S
  |none=>.bad
 |_=>.bad
theorem EB{id:String}(o:YB X (.builtin id) (λc H Q=>∃(p:yR) (bs:List Bool),c=[.ref p]/\YK X.K H p (bs.map V.bl)/\Q (.bl (g bs)) H))(i:YB X (.builtin id) (λc H Q=>∃(p:yR) (b:yA),c=[.ref p]/\Zp X.K H p (b.map V.int)/\Q (.bl (g (b.map (· != 0)))) H)):WB X.K (Yz X (.builtin id)) (W1 g):=by
 intro w S d x H J c Q e k l h;unfold W1 at e;split at e
 .split at e
  .rename_i b f;cases e;obtain⟨v,rfl,r⟩:=l.one;obtain⟨a,m,rfl,q,j⟩:=r;have z:=Vx f j;subst z;exact⟨_,i,a,b,rfl,Zp.of q,h.self k WM⟩
  .cases e
 .split at e
  .rename_i bs f;cases e;obtain⟨u,t,s⟩:=qA5.mp f;obtain⟨v,rfl,r⟩:=l.one;obtain⟨a,rfl,n⟩:=r;obtain⟨m,q,j⟩:=k.sq n t;have z:=EC s j;subst z;exact⟨_,o,a,bs,rfl,q,h.self k WM⟩
  .cases e
 .cases e
theorem YB.imp(h:YB X f r)(w:∀b H Q,r' b H Q->r b H Q):YB X f r':=λa s Z H d c Q I e q=>h a s Z H d c Q I e (w _ _ _ q)
theorem qm(b:X.calm=Z7):WB X.K (Yz X (.builtin "all")) (W1 λbs=>bs.all id):=EB (xj b) ((uZ b).imp λf H Q ⟨p,c,d,e,a⟩=>⟨p,c,d,e,by rw[qO3]at a;exact a⟩)
theorem ql(b:X.calm=Z7):WB X.K (Yz X (.builtin "any")) (W1 λbs=>bs.any id):=EB (xi b) ((uY b).imp λf H Q ⟨p,c,d,e,a⟩=>⟨p,c,d,e,by rw[qT4]at a;exact a⟩)
def Wk(a:Int):yA->yA
 |[]=>[a]
 |b::r=>if a<=b then a::b::r else b::Wk a r
def Wj:yA->yA
 |[]=>[]
 |a::r=>Wk a (Wj r)
theorem KM(a:Int):∀l,(Wk a l).Perm (a::l)
 |[]=>.refl _
 |b::r=>by
  unfold Wk;split
  .exact .refl _
  .exact((KM a r).cons b).trans (.swap _ _ _)
theorem KJ:∀l,(Wj l).Perm l
 |[]=>.refl _
 |a::r=>(KM a _).trans ((KJ r).cons a)
theorem EA(a:Int):∀l:yA,l.Pairwise (·<=·)->(Wk a l).Pairwise (·<=·)
 |[],_=>by simp[Wk]
 |b::r,h=>by
  have f:=qF6.mp h;unfold Wk;split
  .rename_i d;refine qF6.mpr ⟨λc e=>?_,h⟩;rcases qB0.mp e with rfl|e
   .exact d
   .exact qT6 d (f.1 c e)
  .rename_i d;refine qF6.mpr ⟨λc e=>?_,EA a r f.2⟩;rcases qB0.mp ((KM a r).mem_iff.mp e)with rfl|e
   .lia
   .exact f.1 c e
theorem KI:∀l:yA,(Wj l).Pairwise (·<=·)
 |[]=>.nil
 |a::r=>EA a _ (KI r)
theorem Qn(h:m.Perm l)(s:m.Pairwise (·<=·)):m=Wj l :=
 (h.trans (KJ l).symm).eq_of_pairwise (λa b _ _ c d=>qR0 c d) s (KI l)
def Sz:List (ZF×D)->Option (yA)
 |[]=>Z9 []
 |(.inl n,_)::r=>(Sz r).map (n::·)
 |_::_=>Z8
theorem Qm:∀{kvs:List (ZF×D)}{ns:yA},Sz kvs=Z9 ns->kvs.map (·.1)=ns.map Sum.inl
 |[],ns,e=>by cases e;rfl
 |(.inl n,d)::r,ns,e=>by obtain⟨c,a,b⟩:=qA6.mp e;subst b;simp[Qm a]
 |(.inr x,d)::r,ns,e=>by cases e
def Tu:List D->Option (List (yA))
 |[]=>Z9 []
 |.tup c::r=>match Xb c,Tu r with
  |some b,Z9 a=>Z9 (b::a)
  |_,_=>Z8
 |_=>Z8
def tD(a:yA):D:=.tup (a.map .int)
def Wi(a:yA):List (yA)->List (yA)
 |[]=>[a]
 |b::r=>if HT.lexLt b a=Z7 then b::Wi a r else a::b::r
def Up:List (yA)->List (yA)
 |[]=>[]
 |a::r=>Wi a (Up r)
abbrev yM:=List D
abbrev Uo(l:List (yA)):Prop:=l.Pairwise λx y=>HT.lexLt y x=Z5
theorem KH(a:yA):∀l,(Wi a l).Perm (a::l)
 |[]=>.refl _
 |b::r=>by
  unfold Wi;split
  .exact((KH a r).cons b).trans (.swap _ _ _)
  .exact .refl _
theorem NZ:∀l,(Up l).Perm l
 |[]=>.refl _
 |a::r=>(KH a _).trans ((NZ r).cons a)
theorem Ez(a:yA):∀l,Uo l->Uo (Wi a l)
 |[],_=>by simp[Wi]
 |b::r,h=>by
  have g:=qF6.mp h;unfold Wi;split
  .rename_i e;refine qF6.mpr ⟨λc f=>?_,Ez a r g.2⟩;rcases qB0.mp ((KH a r).mem_iff.mp f)with rfl|f
   .exact Lm _ _ e
   .exact g.1 c f
  .rename_i e;have d:=by simpa using e
   refine qF6.mpr ⟨λc f=>?_,h⟩;rcases qB0.mp f with rfl|f
   .exact d
   .exact Ll a b c d (g.1 c f)
theorem Ey:∀l,Uo (Up l)
 |[]=>.nil
 |a::r=>Ez a _ (Ey r)
theorem qk(h:m.Perm l)(s:Uo m):m=Up l :=
 (h.trans (NZ l).symm).eq_of_pairwise (λa b _ _ c d=>Fp a b c d) s (Ey l)
theorem KG{K:yS}{H:Hp}{J:yC}:∀{ds:yM}{nss:List (yA)}{vs:List V},Tu ds=Z9 nss->RVs K H J ds vs->∃f:List (yR×yA),f.map (·.2)=nss/\vs=f.map (λt=>V.ref t.1)/\∀t∈f,H t.1=Z9 (.tup (t.2.map V.int))
 |[],nss,vs,e,r=>by cases e;exact⟨[],rfl,r.nil_inv,λt h=>(by cases h)⟩
 |d::ds,nss,vs,e,r=>by
  unfold Tu at e;split at e
  .rename_i q;cases q
  .rename_i w s q;cases q;split at e
   .rename_i l x j n;cases e;obtain⟨v,o,rfl,i,k⟩:=r.cons_inv;obtain⟨f,a,b,c⟩:=KG n k;unfold RV at i;obtain⟨p,u,rfl,g,m⟩:=i;rw[Vx j m]at g;refine⟨(p,l)::f,by simp[a],by simp[b],λt ht=>?_⟩;rcases qB0.mp ht with rfl|ht
    .exact g
    .exact c t ht
   .cases e
  .cases e
theorem KF{K:yS}:∀{a:List (yR×yA)},(∀t∈a,H t.1=Z9 (.tup (t.2.map V.int)))->RVs K H J (a.map λt=>tD t.2) (a.map λt=>V.ref t.1)
 |[],_=>.nil
 |t::a,h=>.cons (by exact⟨t.1,_,rfl,h t (qE3 ..),RVs.ints⟩) (KF λu b=>h u (qC5 _ b))
theorem Ew(b:(a.map (·.2)).Perm nss)(hs:Vl a):(Up nss).map tD=a.map λt=>tD t.2:=by rw[<- qk b (qH0.mpr hs),qC7];rfl
def Tt:yM->M D:=λd S=>match d with
 |[.dct n]=>match S[n]? with
  |some (.dk a)=>match Sz a with
   |some b=>.ok (.lst S.length) (S++[.lst (b.map D.int)])
   |none=>.bad
  |some (.fk a)=>match Sz a with
   |some b=>.ok (.lst S.length) (S++[.lst (b.map D.int)])
   |none=>.bad
  |_=>.bad
 |[x]=>match RH S x with
  |some c=>.ok (.lst S.length) (S++[.lst c])
  |none=>.bad
 |_=>.bad
theorem qj(q:X.calm=Z7):WB X.K (Yz X (.type "list")) Tt:=by
 intro y S d z H J t Q e b p h;unfold Tt at e;split at e
 .obtain⟨v,rfl,r⟩:=p.one;unfold RV at r;obtain⟨a,rfl,s⟩:=r;split at e
  .rename_i n g;split at e
   .rename_i i m;cases e;obtain⟨j,k,c⟩:=b.get s g;exact⟨_,EX q,a,j,i,rfl,.inl k,by rw[<- c.1];exact Qm m,λl f=>h.newL b f RVs.ints⟩
   .cases e
  .rename_i n g;split at e
   .rename_i i m;cases e;obtain⟨o,j,k,c⟩:=b.get s g;exact⟨_,EX q,a,j,i,rfl,.inr ⟨o,k⟩,by rw[<- c.1];exact Qm m,λl f=>h.newL b f RVs.ints⟩
   .cases e
  .cases e
 .split at e
  .rename_i x u;cases e;obtain⟨v,rfl,r⟩:=p.one;obtain⟨a,t,rfl,w,c⟩:=b.seq r u;exact⟨_,yb,a,t,rfl,w,λl f=>h.newL b f c⟩
  .cases e
 .cases e
def Va:yM->M D:=λd S=>match d with
 |[.lst n]=>match (ZH S n).bind Xb with
  |some a=>if a.length<64 then .ok (.lst S.length) (S++[.lst ((Wj a).map D.int)])else if a.length<=5000 then .ok (.lst S.length) (S++[.lst ((Wj a).map D.int)])else .bad
  |none=>match (ZH S n).bind Tu with
   |some b=>if Vm b.length then .ok (.lst S.length) (S++[.lst ((Up b).map tD)])else .bad
   |none=>.bad
 |[.tup d]=>match Xb d with
  |some a=>if a.length<64 then .ok (.lst S.length) (S++[.lst ((Wj a).map D.int)])else .bad
  |none=>.bad
 |[.dct n]=>match S[n]? with
  |some (.dk c)=>match Sz c with
   |some a=>if a.length<64 then .ok (.lst S.length) (S++[.lst ((Wj a).map D.int)])else if a.length<=5000 then .ok (.lst S.length) (S++[.lst ((Wj a).map D.int)])else .bad
   |none=>.bad
  |_=>.bad
 |_=>.bad
theorem qi(s:X.calm=Z7)(K:X.A.units+64<vN):WB X.K (Yz X (.builtin "sorted")) Va:=by
 intro M S d N H J O Q e g o h;unfold Va at e;split at e
 .split at e
  .rename_i n i;split at e
   .rename_i b;cases e;obtain⟨A,m,u⟩:=qA5.mp i;obtain⟨v,rfl,r⟩:=o.one;obtain⟨a,rfl,k⟩:=r;obtain⟨p,q,j⟩:=g.sq k m;have z:=Vx u j;subst z;refine⟨_,u5,a,n,rfl,q,b,λl w b c f=>?_⟩;rw[Qn c f];exact h.newL g b RVs.ints
   .split at e
    .rename_i b;cases e;obtain⟨A,m,u⟩:=qA5.mp i;obtain⟨v,rfl,r⟩:=o.one;unfold RV at r;obtain⟨a,rfl,k⟩:=r;obtain⟨p,q,j⟩:=g.sq k m;have z:=Vx u j;subst z;refine⟨_,rN s,a,n,rfl,q,b,λl w b c f=>?_⟩;rw[Qn c f];exact h.newL g b RVs.ints
    .cases e
  .split at e
   .rename_i D i;split at e
    .rename_i C;cases e;obtain⟨A,m,u⟩:=qA5.mp i;obtain⟨v,rfl,r⟩:=o.one;unfold RV at r;obtain⟨a,rfl,k⟩:=r;obtain⟨p,q,j⟩:=g.sq k m;obtain⟨G,y,rfl,B⟩:=KG u j;refine⟨_,tE s (by lia),a,G,rfl,q,λt ht=>Zp.of (B t ht),by rw[<- y,qA0]at C;exact C,λl F b c f=>?_⟩;rw[Ew (by rw[<- y];exact c.map _) f]at h;exact h.newL g b (KF λt ht=>B t (c.mem_iff.mp ht))
    .cases e
   .cases e
 .split at e
  .rename_i n i;split at e
   .rename_i b;cases e;obtain⟨v,rfl,r⟩:=o.one;unfold RV at r;obtain⟨a,L,rfl,c,E⟩:=r;rw[Vx i E]at c;refine⟨_,tF s,a,n,rfl,Zp.of c,b,λl w b c f=>?_⟩;rw[Qn c f];exact h.newL g b RVs.ints
   .cases e
  .cases e
 .split at e
  .rename_i I i;split at e
   .rename_i n m;split at e
    .rename_i b;cases e;obtain⟨v,rfl,r⟩:=o.one;unfold RV at r;obtain⟨a,rfl,k⟩:=r;obtain⟨p,x,j⟩:=g.get k i;refine⟨_,um s,a,p,n,rfl,x,by rw[<- j.1];exact Qm m,b,λl w b c f=>?_⟩;rw[Qn c f];exact h.newL g b RVs.ints
    .split at e
     .rename_i b;cases e;obtain⟨v,rfl,r⟩:=o.one;unfold RV at r;obtain⟨a,rfl,k⟩:=r;obtain⟨p,x,j⟩:=g.get k i;refine⟨_,rQ s,a,p,n,rfl,x,by rw[<- j.1];exact Qm m,b,λl w b c f=>?_⟩;rw[Qn c f];exact h.newL g b RVs.ints
     .cases e
   .cases e
  .cases e
 .cases e
def X4:yM->M D:=λb S=>match b with
 |[.lst n]=>match (ZH S n).bind Xb with
  |some a=>if(a.all λi=>decide (0<=i)&&decide (i<=1000000))=Z7/\a.length<=1000000 then .ok (.int a.sum) S else .bad
  |none=>.bad
 |[.tup b]=>match Xb b with
  |some a=>if(a.all λi=>decide (0<=i)&&decide (i<=1000000))=Z7/\a.length<=1000000 then .ok (.int a.sum) S else .bad
  |none=>.bad
 |_=>.bad
theorem qh(l:X.calm=Z7):WB X.K (Yz X (.builtin "sum")) X4:=by
 intro u S d w H J x Q e j k h;unfold X4 at e;split at e
 .split at e
  .rename_i c m;split at e
   .rename_i b;cases e;obtain⟨t,s,g⟩:=qA5.mp m;obtain⟨v,rfl,r⟩:=k.one;unfold RV at r;obtain⟨a,rfl,p⟩:=r;obtain⟨o,q,f⟩:=j.sq p s;have z:=Vx g f;subst z;refine⟨_,u4 l,a,c,rfl,q,λn i=>?_,b.2,h.self j XJ⟩;have:=qD5.mp b.1 n i;simpa using this
   .cases e
  .cases e
 .split at e
  .rename_i c g;split at e
   .rename_i b;cases e;obtain⟨v,rfl,r⟩:=k.one;unfold RV at r;obtain⟨a,o,rfl,q,f⟩:=r;have z:=Vx g f;subst z;refine⟨_,u0 l,a,c,rfl,Zp.of q,λn i=>?_,b.2,h.self j XJ⟩;have:=qD5.mp b.1 n i;simpa using this
   .cases e
  .cases e
 .cases e
def UT(K:yS)(T:String)(r:V->List V->Hp->VK->Prop)(o:D->yM->M D):Prop:=∀x b S d a H J v c Q,o x b S=.ok d a->SR K J S H->RV K H J x v->RVs K H J b c->Xv K J H d a Q->r v c H Q
def Yq(T:String)(x:D)(S:ZX):Bool:=match x with
 |.lst n=>decide (T = "list")&&(ZH S n).isSome
 |.dct n=>decide (T = "dict")&&(match S[n]? with|some (.dk _)=>Z7|some (.dt _)=>Z7|_=>Z5)
 |.int _=>decide (T = "int")
 |.str _=>decide (T = "str")
 |_=>Z5
theorem Eu{K:yS}(g:SR K J S H)(h:Yq T x S=Z7)(r:RV K H J x v):OK K T v H:=by
 unfold Yq at h;split at h
 .simp only[qC8,decide_eq_true_eq]at h;obtain⟨b,c⟩:=h;obtain⟨l,j⟩:=qH6.mp c;obtain⟨a,rfl,d⟩:=r;obtain⟨k,q,_⟩:=g.sq d j;exact .inl ⟨b,k,q⟩
 .simp only[qC8,decide_eq_true_eq]at h;obtain⟨b,c⟩:=h;obtain⟨a,rfl,d⟩:=r;split at c
  .rename_i i e;obtain⟨f,q,_⟩:=g.get d e;exact .inr (.inr (.inl ⟨b,.inl ⟨f,q⟩⟩))
  .rename_i i e;obtain⟨f,q,_⟩:=g.get d e;exact .inr (.inr (.inl ⟨b,.inr ⟨f,q⟩⟩))
  .cases c
 .subst r;exact(of_decide_eq_true h:T = "int")
 .subst r;exact(of_decide_eq_true h:T = "str")
 .cases h
def WK(T:String)(o:D->yM->M D)(a:C)(b:CA):C:=fun B=>YW (a B) λx S=>if Yq T x S then YW (b B) (λc=>o x c) S else .bad
variable {o e:jE}{es:yE}{co:C}{ca:CA}{name:Str}{apos cpos:Pos}{T id:String}{m:D->yM->M D}
theorem Ql(A:dO T)(i:Slot T name id)(l:typeOf (.builtin id)=pure (.type "method_descriptor"))(hm:UT X.K T (Vy X id) m)(w:PE X o (Zu X.K co))(E:PA X (e::es) (YA X.K ca))
  (c:wS o name X.env (v7 o X.env)=v7 o X.env)
  (k:((wV cpos (jL (e::es) X.env)).all (λx=>!x.1)&&(backToKw cpos (mW [] X.env)).all (λx=>x.1.isSome)
   && decide ((e::es).length+([]:List lY).length+(if([]:List lY).isEmpty then 0 else 1)<30))=Z7)
  (f:(apos.endLine == cpos.line)=Z7) (hs:jL (e::es) X.env=(Z5,v7 e X.env)::jL es X.env) (a:(wV cpos (jL es X.env)).any (·.1)=Z5) :
  PE X (.Call (.Attribute o name apos) (e::es) [] cpos) (Zu X.K (WK T m co ca)):=(xZ A i l EV w E c k f hs a).weak (by
 rintro Z H Q ⟨J,B,S,d,K,I,n,e,y⟩;obtain⟨x,p,t,e⟩:=Y8 e;split at e
 .rename_i hk;obtain⟨q,r,G,e⟩:=Y8 e;refine⟨J,B,S,x,p,I,n,t,λv O z j g s=>⟨Eu j hk s,z,B,p,q,r,j,n.up g,G,λN F L h b u=>?_⟩⟩;exact hm x q r d K F L v N Q e h (RV.up b.tk b.ext _ _ s) u (y.shift (g.trans b h.nd))
 .cases e)
def RD(T:String)(o:D->yM->M D)(a:C):C:=fun B=>YW (a B) λx S=>if Yq T x S then o x [] S else .bad
theorem Et(r:dO T)(c:Slot T name id)(h:typeOf (.builtin id)=pure (.type "method_descriptor"))(hm:UT X.K T (Vy X id) m)(n:PE X o (Zu X.K co))
  (a:wS o name X.env (v7 o X.env)=v7 o X.env) (b:(apos.endLine == cpos.line)=Z7):PE X (.Call (.Attribute o name apos) [] [] cpos) (Zu X.K (RD T m co)):=(x8 r c h EV n a b).weak (by
 rintro Z H Q ⟨J,B,S,d,t,s,k,e,y⟩;obtain⟨x,i,l,e⟩:=Y8 e;split at e
 .rename_i hk;exact⟨J,B,S,x,i,s,k,l,λv q p f g j=>⟨Eu f hk j,hm x [] i d t q p v [] Q e f j RVs.nil (y.shift g)⟩⟩
 .cases e)
def Ye(g:yM->yM->Option (yM×D)):D->yM->M D:=λx c S=>match x with
 |.lst n=>match S[n]? with
  |some (.lst b)=>match g b c with
   |some (a,d)=>.ok d (S.set n (.lst a))
   |none=>.bad
  |_=>.bad
 |_=>.bad
theorem SR.putL{K:yS}{zs:yM}(d:SR K J S H)(c:J[n]?=Z9 p)(b:H p=Z9 (.lst f))(r:RVs K H J zs a):SR K J (S.set n (.lst zs)) (ZC H p (.lst a))/\ZI K J J H (ZC H p (.lst a)) :=
 d.put c b (λ_ z=>by cases z) (λ_ _ z=>by cases z) ⟨a,Xx,RVs.up (N7 b) ⟨[],by simp⟩ _ _ r⟩
theorem KE{g:yM->yM->Option (yM×D)}
  (h:∀(K:yS) H J ys xs zs d b a,g ys xs=Z9 (zs,d)->RVs K H J ys b->RVs K H J xs a->∃c w,RVs K H J zs c/\RV K H J d w/\∀(p:yR) (Q:VK),H p=Z9 (.lst b)->Q w (ZC H p (.lst c))->Vy X id (.ref p) a H Q):UT X.K "list" (Vy X id) (Ye g):=by
 intro x xs S d B H J v a Q e k r rs y;unfold Ye at e;split at e
 .rename_i n;split at e
  .rename_i ys l;split at e
   .rename_i zs A u;cases e;obtain⟨p,rfl,i⟩:=r;obtain⟨b,j,s⟩:=k.lst i l;obtain⟨c,w,z,q,fin⟩:=h X.K H J ys xs zs d b a u s rs;obtain⟨t,f⟩:=k.putL i j z;exact fin p Q j (y w _ J t f (RV.up f.tk f.ext _ _ q))
   .cases e
  .cases e
 .cases e
def Xr:yM->yM->Option (yM×D):=λa b=>match b with
 |[x]=>if a.length<lim then Z9 (a++[x],.non)else Z8
 |_=>Z8
theorem qg:UT X.K "list" (Vy X "list.append") (Ye Xr):=KE λK H J j l i d a k e b f=>by
 unfold Xr at e;split at e
 .split at e
  .rename_i h;cases e;obtain⟨v,rfl,g⟩:=f.one;exact⟨a++[v],.non,b.append (.cons g .nil),Tw,λp Q c q=>⟨_,Gw,p,a,v,rfl,rfl,c,by rw[<- b.len];exact N3 h,q⟩⟩
  .cases e
 .cases e
def RC:yM->yM->Option (yM×D):=λa b=>match b with
 |[.int i,x]=>if a.length<1000/\0<=i/\i.toNat<=a.length then Z9 (a.take i.toNat++x::a.drop i.toNat,.non)else Z8
 |_=>Z8
theorem qf:UT X.K "list" (Vy X "list.insert") (Ye RC):=KE λK H J t w y d b s e a f=>by
 unfold RC at e;split at e
 .rename_i i x;split at e
  .rename_i j;cases e;obtain⟨c,r,k⟩:=j;obtain⟨v,u,rfl,l,n⟩:=f.two;subst l;have h:i=i.toNat:=by lia
   exact⟨b.take i.toNat++u::b.drop i.toNat,.non,(a.take _).append (.cons n (a.drop _)),Tw,λp Q g q=>⟨_,xl,p,b,i.toNat,u,rfl,by rw[<- h],g,by rw[<- a.len];exact c,by rw[<- a.len];exact k,q⟩⟩
  .cases e
 .cases e
def Um:yM->yM->Option (yM×D):=λa b=>match b with
 |[]=>match a[a.length - 1]? with
  |some y=>Z9 (a.dropLast,y)
  |none=>Z8
 |_=>Z8
theorem RVs.dropLast{K:yS}{ds:yM}(r:RVs K H J ds a):RVs K H J ds.dropLast a.dropLast:=by rw[qR6,qR6,r.len];exact r.take _
theorem qe:UT X.K "list" (Vy X "list.pop") (Ye Um):=KE λK H J k l n d b j e a f=>by
 unfold Um at e;split at e
 .split at e
  .rename_i y g;cases e;have:=f.nil_inv;subst this;obtain⟨v,c,i⟩:=a.get g;exact⟨b.dropLast,v,a.dropLast,i,λp Q h q=>⟨_,xV,p,b,v,rfl,rfl,h,by rw[<- a.len];exact c,q⟩⟩
  .cases e
 .cases e
def Sy:D->yM->M D:=λx c S=>match x,c with
 |.lst n,[y]=>match S[n]?,Zg 40 S y with
  |some (.lst a),Z9 b=>match a.mapM (Zg 40 S)with
   |some ds=>match ds.findIdx? (λd=>PyData.eqv d b)with
    |some j=>if a.length<1000000 then .ok (.int (j:Nat)) S else .bad
    |none=>.bad
   |none=>.bad
  |_,_=>.bad
 |_,_=>.bad
theorem qd(w:X.A.units+64<vN):UT X.K "list" (Vy X "list.index") Sy:=by
 intro x R S d U H J v P Q e a s rs y;unfold Sy at e;split at e
 .rename_i n z;split at e
  .rename_i G g l q;split at e
   .rename_i ds b;split at e
    .rename_i j i;split at e
     .rename_i K;cases e;obtain⟨p,rfl,c⟩:=s;obtain⟨k,B,h⟩:=a.lst c l;obtain⟨u,rfl,F⟩:=rs.one;obtain⟨L,E,O⟩:=Tv a 40 z u g q F;obtain⟨b1,I,A⟩:=N1 (λd v p e r=>Tv a 40 d v p e r) G k ds b h;rw[qM3]at i;obtain⟨QL,OB,Gb⟩:=i;refine⟨_,vr w,p,k,u,_,_,g,ds,j,rfl,rfl,B,L,⟨E,by lia⟩,b1,λd f=>?_,by rw[<- h.len];exact K,⟨ds[j],qA2 QL,OB⟩,λm d c f=>?_,y.self a XJ⟩
      .have:=EE I A d f;exact⟨this.1,by lia⟩
      .obtain⟨N,t⟩:=qA4.mp f;have:=Gb m c;rw[t]at this;simpa using this
     .cases e
    .cases e
   .cases e
  .cases e
 .cases e
def Qk:D->yM->M D:=λx a S=>match x,a with
 |.int i,[]=>.ok (.int ((Builtin.Int.intBits i:Nat):Int)) S
 |_,_=>.bad
theorem qc:UT X.K "int" (Vy X "int.bit_length") Qk:=by
 intro x g S d f H J v c Q e a b rs y;unfold Qk at e;split at e
 .cases e;subst b;exact⟨_,uX,_,rfl,rs.nil_inv,y.self a XJ⟩
 .cases e
def NY:D->yM->M D:=λx c S=>match x,c with
 |.lst n,[.lst k]=>match S[n]?,S[k]? with
  |some (.lst b),Z9 (.lst a)=>if b.length+a.length<=lim then .ok .non (S.set n (.lst (b++a)))else .bad
  |_,_=>.bad
 |.lst n,[.tup a]=>match S[n]? with
  |some (.lst b)=>if b.length+a.length<=lim then .ok .non (S.set n (.lst (b++a)))else .bad
  |_=>.bad
 |_,_=>.bad
theorem qa:UT X.K "list" (Vy X "list.extend") NY:=by
 intro x E S d G H J v B Q e f t rs y;unfold NY at e;split at e
 .split at e
  .rename_i z F l w;split at e
   .rename_i q;cases e;obtain⟨p,rfl,b⟩:=t;obtain⟨u,rfl,h⟩:=rs.one;obtain⟨r,rfl,A⟩:=h;obtain⟨s,a,g⟩:=f.lst b l;obtain⟨i,j,c⟩:=f.lst A w;obtain⟨k,n⟩:=f.putL b a (g.append c);exact⟨_,xW,p,r,s,i,rfl,rfl,a,j,by rw[<- g.len,<- c.len];exact Tx q,y _ _ J k n Tw⟩
   .cases e
  .cases e
 .split at e
  .rename_i z l;split at e
   .rename_i q;cases e;obtain⟨p,rfl,b⟩:=t;obtain⟨u,rfl,h⟩:=rs.one;obtain⟨r,i,rfl,j,c⟩:=h;obtain⟨s,a,g⟩:=f.lst b l;obtain⟨k,n⟩:=f.putL b a (g.append c);exact⟨_,va,p,r,s,i,rfl,rfl,a,Zp.of j,by rw[<- g.len,<- c.len];exact Tx q,y _ _ J k n Tw⟩
   .cases e
  .cases e
 .cases e
theorem Y4.merge{K:yS}{H:Hp}{J:yC}:∀{more:List (ZF×D)}{ws:List (ZF×V)}{kvs:List (ZF×D)}{us:List (ZF×V)},Y4 K H J more ws->Y4 K H J kvs us->Y4 K H J (XF kvs more) (Wa us ws)
 |[],ws,kvs,us,h,g=>by
  have:ws=[]:=by have:=h.1;cases ws with|nil=>rfl|cons a b=>simp at this
  subst this;exact g
 |p::more,ws,kvs,us,h,g=>by obtain⟨q,i,rfl,c,f,d⟩:=h.cons_inv;show Y4 K H J (XF (YS kvs p.1 p.2) more) (Wa (Y2 us q.1 q.2) i);rw[<- c];exact Y4.merge d (g.put f)
def Zy(S:ZX)(n:Nat):Option (List (ZF×D)):=match S[n]? with
 |some (.dk a)=>Z9 a
 |some (.fk a)=>Z9 a
 |_=>Z8
theorem p9{K:yS}(f:SR K J S H)(e:Zy S n=Z9 kvs)(hm:J[n]?=Z9 a):∃ws,Rd H a (.dK ws)/\Y4 K H J kvs ws:=by
 unfold Zy at e;split at e
 .rename_i c;cases e;obtain⟨ws,d,b⟩:=f.get hm c;exact⟨ws,.inl d,b⟩
 .rename_i c;cases e;obtain⟨o,ws,d,b⟩:=f.get hm c;exact⟨ws,.inr ⟨o,d⟩,b⟩
 .cases e
def VR:D->yM->M D:=λx b S=>match x,b with
 |.dct n,[.dct m]=>match S[n]?,Zy S m with
  |some (.dk a),Z9 more=>if n≠m/\a.length+more.length<=lim then .ok .non (S.set n (.dk (XF a more)))else .bad
  |_,_=>.bad
 |_,_=>.bad
theorem p8:UT X.K "dict" (Vy X "dict.update") VR:=by
 intro x I S d K H J v G Q e g A rs y;unfold VR at e;split at e
 .rename_i n m;split at e
  .rename_i k more w hk;split at e
   .rename_i r;cases e;obtain⟨a,rfl,f⟩:=A;obtain⟨u,rfl,t⟩:=rs.one;obtain⟨b,rfl,q⟩:=t;obtain⟨l,j,p⟩:=g.get f w;obtain⟨s,h,c⟩:=p9 g hk q;have i:a≠b:=λz=>by subst z;exact r.1 ((qT7 (qA4.mp f).1 g.nd).mp (f.trans q.symm))
    have B:TF X.K H (ZC H a (.dK (Wa l s))):=TL j (λ_ z=>by cases z) (λ_ _ z=>by cases z);obtain⟨E,F⟩:=g.put (o':=.dk (XF k more)) f j (λ_ z=>by cases z) (λ_ _ z=>by cases z) ⟨_,Xx,(c.merge p).up B ⟨[],by simp⟩⟩;exact⟨_,r8,a,b,l,s,rfl,rfl,i,j,h,by rw[<- p.len,<- c.len];exact Tx r.2,y _ _ J E F Tw⟩
   .cases e
  .cases e
 .cases e
def VQ:yM->Option (List (ZF×D))
 |[]=>Z9 []
 |.tup [k,v]::r=>match WT k,VQ r with
  |some q,Z9 a=>Z9 ((q,v)::a)
  |_,_=>Z8
 |_=>Z8
theorem Es{K:yS}{H:Hp}{J:yC}:∀{ds:yM}{ps:List (ZF×D)}{vs:List V},VQ ds=Z9 ps->RVs K H J ds vs->∃c,K3 H vs c/\Y4 K H J ps c
 |[],ps,vs,e,r=>by cases e;rw[r.nil_inv];exact⟨[],.nil,.nil⟩
 |d::ds,ps,vs,e,r=>by
  obtain⟨v,w,rfl,u,i⟩:=r.cons_inv;unfold VQ at e;split at e
  .rename_i q;cases q
  .rename_i k x y q;cases q;split at e
   .rename_i q s h t;cases e;obtain⟨c,a,b⟩:=Es t i;obtain⟨p,z,rfl,f,l⟩:=u;obtain⟨A,g,rfl,j,n⟩:=l.two;rw[RG h j]at f;exact⟨(q,g)::c,.cons ⟨p,rfl,f⟩ a,Y4.cons n b⟩
   .cases e
  .cases e
def US:yM->M D:=λb S=>match b with
 |[.lst n]=>match S[n]? with
  |some (.lst a)=>match VQ a with
   |some c=>if a.length<=lim then .ok (.dct S.length) (S++[.dk (XF [] c)])else .bad
   |none=>.bad
  |_=>.bad
 |_=>.bad
theorem p7(k:X.calm=Z7):WB X.K (Yz X (.type "dict")) US:=by
 intro B S d E H J F Q e b j h;unfold US at e;split at e
 .split at e
  .rename_i A g;split at e
   .rename_i q y;split at e
    .rename_i w;cases e;obtain⟨v,rfl,r⟩:=j.one;obtain⟨a,rfl,s⟩:=r;obtain⟨n,l,f⟩:=b.get s g;obtain⟨x,z,i⟩:=Es y f;refine⟨_,rV k,a,n,x,rfl,l,z,by rw[<- f.len];exact Tx w,λp c=>?_⟩;obtain⟨t,u⟩:=b.push (o':=.dk (XF [] q)) c ⟨_,Xx,(i.merge Y4.nil).up (RI c) ⟨[p],rfl⟩⟩;exact h _ _ _ t u (⟨p,rfl,by rw[<- b.len,qA1 (qA7 _)];simp⟩)
    .cases e
   .cases e
  .cases e
 .cases e
def Er(n:Nat)(i v:D)(S:ZX):Option ZX:=match S[n]?,i with
 |some (.dt a),.tup b=>match b.mapM WT with
  |some k=>if a.length<lim then Z9 (S.set n (.dt (YS a k v)))else Z8
  |none=>Z8
 |some (.dk []),.tup b=>match b.mapM WT with
  |some k=>Z9 (S.set n (.dt [(k,v)]))
  |none=>Z8
 |_,_=>Z8
theorem Ep(p:X.A.units+1<vN):V2 X (λo i v H Q=>∃a b k,o=.ref a/\i=.ref b/\H b=Z9 (.tup (k.map kV))/\((∃kvs,H a=Z9 (.dT kvs)/\kvs.length<jC/\Q (ZC H a (.dT (Y2 kvs k v))))∨(H a=Z9 (.dK [])/\Q (ZC H a (.dT [(k,v)]))))):=by
 intro n s Z H o i v l y u Q I t j r h;obtain⟨a,b,k,rfl,rfl,d,⟨kvs,c,x,q⟩| ⟨c,q⟩⟩:=h
 .obtain rfl:l=Value.ref a:=t;exact LW p I (W3.t c d x) j r λw f=>⟨_,f,q⟩
 .obtain rfl:l=Value.ref a:=t;have g:ZC H a (.dT []) b=Z9 (.tup (k.map kV)):=by rw[YI (λz=>by rw[z,c]at d;cases d)];exact d
  refine LW p (I.dTnil c) (W3.t Xx g (by decide)) j r λw f=>⟨_,f,?_⟩
  rw[Bc];exact q
def X2:D->D->D->ZX->Option ZX:=λx i v S=>match x with
 |.lst n=>match S[n]?,i with
  |some (.lst b),.int k=>match Wu b.length k with
   |some j=>Z9 (S.set n (.lst (b.set j v)))
   |none=>Z8
  |_,_=>Z8
 |.dct n=>match S[n]?,WT i with
  |some (.dk a),Z9 k=>if a.length<lim then Z9 (S.set n (.dk (YS a k v)))else Z8
  |_,_=>Er n i v S
 |_=>Z8
theorem p6(j:X.A.units+1<vN):V2 X (λo i v H Q=>∃a b,o=.ref a/\W3 H a i v b/\Q b):=by intro c s Z H o i v f p u Q I l d k h;obtain⟨a,b,rfl,g,q⟩:=h;obtain rfl:f=Value.ref a:=l;exact LW j I g d k λr n=>⟨b,n,q⟩
theorem p5(B:X.A.units+1<vN)(e:X2 x i v S=Z9 S')(f:SR X.K J S H)(u:RV X.K H J x L)(s:RV X.K H J i N)(w:RV X.K H J v q)(y:∀A ,SR X.K J S' A->ZI X.K J J H A->Q A):EU X L N q H Q:=by
 unfold X2 at e;split at e
 .split at e
  .rename_i W k g;split at e
   .rename_i j O;cases e;obtain⟨p,rfl,c⟩:=u;subst s;obtain⟨U,d,a⟩:=f.lst c g;obtain⟨l,n⟩:=f.putL c d (a.set w j);exact⟨_,ym,p,U,k,j,rfl,rfl,d,by rw[<- a.len];exact O,y _ l n⟩
   .cases e
  .cases e
 .split at e
  .rename_i r k g hk;split at e
   .rename_i I;cases e;obtain⟨p,rfl,c⟩:=u;obtain⟨h,d,a⟩:=f.get c g;have z:=RG hk s;subst z;have t:TF X.K H (ZC H p (.dK (Y2 h k q))):=TL d (λ_ z=>by cases z) (λ_ _ z=>by cases z);obtain⟨l,n⟩:=f.put (o':=.dk (YS r k v)) c d (λ_ z=>by cases z) (λ_ _ z=>by cases z) ⟨_,Xx,(a.put w).up t ⟨[],by simp⟩⟩;exact⟨_,p6 B,p,_,rfl,W3.k d (by rw[<- a.len];exact N3 I),y _ l n⟩
   .cases e
  .rename_i E;clear E;unfold Er at e;unfold RV at u;obtain⟨p,rfl,c⟩:=u;split at e
   .rename_i r P g;unfold RV at s;obtain⟨b,bs,rfl,G,K⟩:=s;split at e
    .rename_i k hk;have:=N0 hk K;subst this;split at e
     .rename_i I;cases e;obtain⟨h,d,a⟩:=f.get c g;have t:TF X.K H (ZC H p (.dT (Y2 h k q))):=TL d (λ_ z=>by cases z) (λ_ _ z=>by cases z);obtain⟨l,n⟩:=f.put (o:=.dT (Y2 h k q)) (o':=.dt (YS r k v)) c d (λ_ z=>by cases z) (λ_ _ z=>by cases z) ⟨_,Xx,(a.put w).up t ⟨[],by simp⟩⟩;exact⟨_,Ep B,p,b,k,rfl,rfl,G,.inl ⟨h,d,by rw[<- a.len];exact N3 I,y _ l n⟩⟩
     .cases e
    .cases e
   .rename_i P g;unfold RV at s;obtain⟨b,bs,rfl,G,K⟩:=s;split at e
    .rename_i k hk;cases e;have:=N0 hk K;subst this;obtain⟨h,F,a⟩:=f.get c g;have R:h=[]:=qF0.mp a.len.symm;subst R;have t:TF X.K H (ZC H p (.dT [(k,q)])):=TL F (λ_ z=>by cases z) (λ_ _ z=>by cases z);obtain⟨l,n⟩:=f.put (o:=.dT [(k,q)]) (o':=.dt [(k,v)]) c F (λ_ z=>by cases z) (λ_ _ z=>by cases z) ⟨_,Xx,Y4.cons (RV.up t ⟨[],by simp⟩ _ _ w) .nil⟩;exact⟨_,Ep B,p,b,k,rfl,rfl,G,.inr ⟨F,y _ l n⟩⟩
    .cases e
   .cases e
 .cases e
end
inductive RS where
 |bad|nx (B:ZS) (S:ZX)| rt (d:D) (S:ZX)| bk (B:ZS) (S:ZX)| ct (B:ZS) (S:ZX)| er (c:Str) (S:ZX)
abbrev CS:=ZS->ZX->RS
def Ul(X:Cx)(J:yC)(H:Hp)(E:W6):RS->Prop
 |.bad=>False
 |.er _ _=>False
 |.nx f e=>∀c a b,SR X.K b e a->ZI X.K J b H a->RE X.K a b f c->E.nx c a
 |.bk f e=>∀c a b,SR X.K b e a->ZI X.K J b H a->RE X.K a b f c->E.bk c a
 |.ct f e=>∀c a b,SR X.K b e a->ZI X.K J b H a->RE X.K a b f c->E.ct c a
 |.rt d e=>Xv X.K J H d e E.rt
inductive Y6(X:Cx)(c:CS)(E:W6)(Z:St)(H:Hp):Prop
 |mk (J:yC) (B:ZS) (S:ZX) (sr:SR X.K J S H) (re:RE X.K H J B Z) (y:Ul X J H E (c B S))
theorem Ul.shift(h:Ul X J H E r)(st:ZI X.K J j H i):Ul X j i E r:=by
 cases r with
 |bad=>exact h
 |er _ _=>exact h
 |nx B S=>exact fun g c f a e b=>h g c f a (st.trans e a.nd) b
 |bk B S=>exact fun g c f a e b=>h g c f a (st.trans e a.nd) b
 |ct B S=>exact fun g c f a e b=>h g c f a (st.trans e a.nd) b
 |rt d S=>exact Xv.shift h st
def ZL:CS:=fun B S=>.nx B S
def Sx:CS:=fun B S=>.bk B S
def Sw:CS:=fun B S=>.ct B S
def U9:CS:=λ_ _=>.bad
def KD:CS:=λ_ S=>.rt .non S
def ZM(c:C):CS:=fun B S=>match c B S with
 |.ok d a=>.rt d a
 |.bad=>.bad
 |.er _ _=>.bad
def WA(c:C):CS:=fun B S=>match c B S with
 |.ok _ a=>.nx B a
 |.bad=>.bad
 |.er _ _=>.bad
def ZV(a b:CS):CS:=fun B S=>match a B S with
 |.nx c d=>b c d
 |r=>r
def YF(t:CT)(a b:CS):CS:=fun B S=>match t B S with
 |.ok k c=>if k then a B c else b B c
 |.bad=>.bad
 |.er _ _=>.bad
abbrev G:=D->ZS->M ZS
def ZE(c:C)(g:G):CS:=fun B S=>match c B S with
 |.ok d e=>match g d B e with
  |.ok b a=>.nx b a
  |.bad=>.bad
  |.er _ _=>.bad
 |.bad=>.bad
 |.er _ _=>.bad
section
variable {X:Cx}{e a b tg:jE}{ce ca cb:C}{pos:Pos}
theorem p4:PS X (.Pass pos) (Y6 X ZL):=AC.weak λE Z H ⟨J,B,S,d,c,p⟩=>p Z H J d (ZI.refl _ _ _) c
theorem pZ:PS X (.Break pos) (Y6 X Sx):=AB.weak λE Z H ⟨J,B,S,d,c,p⟩=>p Z H J d (ZI.refl _ _ _) c
theorem pY:PS X (.Continue pos) (Y6 X Sw):=AA.weak λE Z H ⟨J,B,S,d,c,p⟩=>p Z H J d (ZI.refl _ _ _) c
theorem pX{st:wG}:PS X st (Y6 X U9):=Ar.weak λE Z H ⟨J,B,S,d,c,p⟩=>p
theorem pW(j:X.xe=λ_ _=>False)(i:XB X d (Y6 X c)):PS X (.Try d (h::hs) [] [] pos) (Y6 X c):=λg s Z H D I q=>wpAny_Try_except (jS (i g s Z H D I q) (λf k z=>by cases f<;>first|exact fW z|exact z) λe k z=>by rw[j]at z;exact z.elim)
theorem pV:PS X (.Return Z8 pos) (Y6 X KD):=Av.weak λE Z H ⟨J,B,S,c,d,p⟩=>p _ H J c (ZI.refl _ _ _) Tw
theorem pU(he:PE X e (Zu X.K ce)):PS X (.Return (Z9 e) pos) (Y6 X (ZM ce)):=(Ax he).weak (by
 rintro E Z H ⟨J,B,S,f,c,p⟩;unfold ZM at p;split at p
 .rename_i d g h;exact⟨J,B,S,d,g,f,c,h,p⟩
 .exact False.elim p
 .exact False.elim p)
theorem pT(he:PE X e (Zu X.K ce))(hs:fL e Z8 pos.line X.env=pure Z5):PS X (.Expr e pos) (Y6 X (WA ce)):=(Ay he hs).weak (by
 rintro E Z H ⟨J,B,S,k,g,p⟩;unfold WA at p;split at p
 .rename_i d l h;exact⟨J,B,S,d,l,k,g,h,λv j i f c m=>p Z j i f c (g.up c)⟩
 .exact False.elim p
 .exact False.elim p)
theorem pS:XB X [] (Y6 X ZL):=AG.weak λE Z H ⟨J,B,S,d,c,p⟩=>p Z H J d (ZI.refl _ _ _) c
theorem pR{st:wG}{ZJ:List wG}(i:PS X st (Y6 X d))(l:XB X ZJ (Y6 X h)):XB X (st::ZJ) (Y6 X (ZV d h)):=(AF i l).weak (by
 rintro E Z H ⟨J,B,S,n,j,p⟩;refine⟨J,B,S,n,j,?_⟩;unfold ZV at p;revert p;cases d B S with
 |nx m o=>exact λp r q k c g f=>⟨k,m,o,c,f,p.shift g⟩
 |bad=>exact λp=>p
 |er _ _=>exact λp=>p
 |rt _ _=>exact λp=>p
 |bk _ _=>exact λp=>p
 | ct _ _=>exact λp=>p)
theorem pQ(ht:PT X t (YM X.K l))(o:XB X i (Y6 X m))(q:XB X bs (Y6 X n)):PS X (.If t i bs pos) (Y6 X (YF l m n)):=(Au ht o q).weak (by
 rintro E Z H ⟨J,B,S,r,f,p⟩;unfold YF at p;split at p
 .rename_i k g h;refine⟨J,B,S,k,g,r,f,h,λs j d c=>?_⟩;cases k with
  |true=>rw[if_pos rfl]at p ⊢;exact⟨j,B,g,d,f.up c,p.shift c⟩
  |false=>rw[if_neg qB4]at p ⊢;exact⟨j,B,g,d,f.up c,p.shift c⟩
 .exact False.elim p
 .exact False.elim p)
inductive WJ(K:yS)(g:G)(v:V)(Z:St)(H:Hp)(Q:St->Hp->Prop):Prop
 |mk (J:yC) (B:ZS) (S:ZX) (d:D) (B':ZS) (S':ZX) (sr:SR K J S H) (re:RE K H J B Z) (rv:RV K H J d v) (e:g d B S=.ok B' S') (y:∀Z' H' J',SR K J' S' H'->ZI K J J' H H'->RE K H' J' B' Z'->Q Z' H')
theorem PG.weak(h:PG X tg t)(w:∀v Z H Q,t' v Z H Q->t v Z H Q):PG X tg t':=λc s Z H v u Q I r q=>h c s Z H v u Q I r (w v Z H Q q)
def gN(i:Nat):G:=λd B S=>.ok (B.set i (Z9 d)) S
theorem pP(h:PG X (.Name x pos) (Ta i)):PG X (.Name x pos) (WJ X.K (gN i)):=h.weak (by
 rintro v Z H Q ⟨J,B,S,d,k,j,f,c,g,e,y⟩;unfold gN at e;cases e;exact y _ H J f (ZI.refl _ _ _) (c.set g i))
def gS(f g:C):G:=λd B=>YW (f B) λo=>YW (g B) λi S=>match X2 o i d S with
 |some c=>.ok B c
 |none=>.bad
theorem pO(t:X.A.units+1<vN)(q:PE X a (Zu X.K ca))(hi:PE X b (Zu X.K cb))(w:∀v,gZ (.Subscript a b pos) X.env v=(do
   let h <- fB [v] (v7 a X.env)
   let l <- fB [v,h] (v7 b X.env)
   dS pos
   fB [v,h,l] (uN h l v)
   release [v,h,l] [])):PG X (.Subscript a b pos) (WJ X.K (gS ca cb)):=(Aq q hi rG w).weak (by
 rintro v Z H Q ⟨J,B,S,d,M,P,G,m,u,e,y⟩;obtain⟨x,o,p,e⟩:=Y8 e;obtain⟨z,E,F,e⟩:=Y8 e;split at e
 .rename_i N D;cases e;refine⟨J,B,S,x,o,G,m,p,λh L s n i I=>⟨s,B,o,z,E,n,m.up i,F,λl O K j f r=>?_⟩⟩;have c:=i.trans f j.nd;refine p5 t D j (RV.up f.tk f.ext _ _ I) r (RV.up c.tk c.ext _ _ u) λA g k=>?_;exact y Z A K g (c.trans k g.nd) (m.up (c.trans k g.nd))
 .cases e)
def Ts:List G->yM->ZS->M ZS
 |[],[]=>fun B=>ret B
 |g::c,d::ds=>fun B=>YW (g d B) fun f=>Ts c ds f
 |_,_=>λ_=>bad
def gT(c:List G):G:=λd B=>match d with
 |.tup f=>Ts c f B
 |_=>bad
inductive Qj(K:yS)(gs:List G)(vs:List V)(Z:St)(H:Hp)(Q:St->Hp->Prop):Prop
 |mk (J:yC) (B:ZS) (S:ZX) (ds:yM) (B':ZS) (S':ZX) (sr:SR K J S H) (re:RE K H J B Z) (rv:RVs K H J ds vs) (e:Ts gs ds B S=.ok B' S') (y:∀Z' H' J',SR K J' S' H'->ZI K J J' H H'->RE K H' J' B' Z'->Q Z' H')
theorem V3.weak(h:V3 X es t)(w:∀v Z H Q,t' v Z H Q->t v Z H Q):V3 X es t':=λc s Z H v u Q I r q=>h c s Z H v u Q I r (w v Z H Q q)
theorem pN:V3 X [] (Qj X.K []):=GY.weak (by
 rintro v Z H Q ⟨J,B,S,ds,h,i,f,c,g,e,y⟩;cases ds with
 |nil =>
  obtain⟨rfl,rfl⟩:=Yb e;exact⟨g.nil_inv,y Z H J f (ZI.refl _ _ _) c⟩
 | cons d ds=>cases e)
theorem pM(o:PG X e (WJ X.K g))(w:V3 X es (Qj X.K m))(hs:(jT (e::es) X.env).map (·.2)=gZ e X.env::(jT es X.env).map (·.2)):V3 X (e::es) (Qj X.K (g::m)):=(GX o w hs).weak (by
 rintro v Z H Q ⟨J,B,S,ds,x,I,E,p,A,e,y⟩;cases ds with
 |nil=>cases e
 |cons d ds =>
  obtain⟨n,l,q,e⟩:=Y8 e;obtain⟨u,z,rfl,F,r⟩:=A.cons_inv;refine⟨u,z,rfl,J,B,S,d,n,l,E,p,F,q,fun L M s k c i=>?_⟩;exact⟨s,n,l,ds,x,I,k,i,RVs.up c.tk c.ext _ _ r,e,fun t D K f j h=>y t D K f (c.trans j f.nd) h⟩)
theorem pL:∀{ds:yM}{B f:ZS}{S S':ZX},Ts c ds B S=.ok f S'->ds.length=c.length:=by
 induction c with
 |nil=>intro ds B f S S' e;cases ds with|nil=>rfl|cons _ _=>cases e
 |cons g c h =>
  intro ds B f S S' e;cases ds with
  |nil=>cases e
  |cons d ds =>
   obtain⟨j,k,i,e⟩:=Y8 e;rw[qD3,qD3,h e]
theorem pK(l:X.calm=Z7)(h:V3 X es (Qj X.K c))(o:(jT es X.env).length=c.length)(f:(jT es X.env).findIdx? (·.1)=Z8):PG X (.Tuple es k pos) (WJ X.K (gT c)) :=
 (GW l h o f).weak (by
 rintro v Z H Q ⟨J,B,S,d,m,s,r,j,i,e,y⟩;unfold gT at e;split at e
 .rename_i n;unfold RV at i;obtain⟨p,t,rfl,q,g⟩:=i;exact⟨p,t,rfl,Zp.of q,by rw[<- g.len];exact pL e,J,B,S,n,m,s,r,j,g,e,y⟩
 .cases e)
theorem Eo(he:PE X e (Zu X.K ce))(t:PG X tg (WJ X.K g))(hs:swapsWithSole [tg] e pos.line X.env=pure Z5)(u:wQ [tg] e X.env=pure Z8)(n:(jT [tg] X.env).map (·.2)=[gZ tg X.env]):PS X (.Assign [tg] e pos) (Y6 X (ZE ce g)):=(Ap he t hs u n).weak (by
 rintro E Z H ⟨J,B,S,y,l,p⟩;unfold ZE at p;split at p
 .rename_i d m h;split at p
  .rename_i s x r;refine⟨J,B,S,d,m,y,l,h,λv D o k c z=>⟨o,B,m,d,s,x,k,l.up c,z,r,fun q w A f j i=>?_⟩⟩;exact p q w A f (c.trans j f.nd) i
  .exact False.elim p
  .exact False.elim p
 .exact False.elim p
 .exact False.elim p)
theorem pJ(h:PS X (.Assign [.Name x pos'] e pos) (Vs (Zu X.K ce) (Ta i))):PS X (.Assign [.Name x pos'] e pos) (Y6 X (ZE ce (gN i))):=h.weak (by
 rintro E Z H ⟨J,B,S,l,g,p⟩;unfold ZE at p;split at p
 .rename_i d n h;exact⟨J,B,S,d,n,l,g,h,λv k j f c m=>p _ k j f c ((g.up c).set m i)⟩
 .exact False.elim p
 .exact False.elim p)
def Wg:Nat->CT->CS->CS
 |0,_,_=>λ_ _=>.bad
 |k+1,t,b=>fun B S=>match t B S with
  |.ok Z7 f=>match b B f with
   |.nx c d=>Wg k t b c d
   |.ct c d=>Wg k t b c d
   |.bk c d=>.nx c d
   |r=>r
  |.ok Z5 f=>.nx B f
  |.bad=>.bad
  |.er _ _=>.bad
theorem pI(k:Nat)(P:m8 (yV X.prog X.w) X.A X.env X.xe)(ht:PT X t (YM X.K ct))(Q:XB X l (Y6 X r)):PS X (.While t l [] pos) (Y6 X (Wg k ct r)):=(An P ht Q).weak (by
 rintro E T I ⟨x,M,O,D,A,N⟩;refine⟨λm Z H=>∃J B S,SR X.K J S H/\ZI X.K x J I H/\RE X.K H J B Z/\Ul X J H E (Wg m ct r B S),⟨k,x,M,O,D,ZI.refl _ _ _,A,N⟩,?_⟩;rintro m Z H ⟨J,B,S,L,R,v,p⟩;cases m with
 |zero=>exact False.elim p
 |succ m =>
  unfold Wg at p;split at p
  .rename_i o h;refine⟨J,B,S,Z7,o,L,v,h,λG y j f=>?_⟩;refine⟨fun K q=>∃J B S,SR X.K J S q/\ZI X.K x J I q/\RE X.K q J B K/\Ul X J q E (Wg m ct r B S),fun K q h=>⟨m,qI6 m,h⟩,y,B,o,j,v.up f,?_⟩;have n:=R.trans f j.nd;revert p;cases r B o with
   |nx w s=>exact λp z F u c g i=>⟨u,w,s,c,n.trans g c.nd,i,p.shift (f.trans g c.nd)⟩
   |ct w s=>exact λp z F u c g i=>⟨u,w,s,c,n.trans g c.nd,i,p.shift (f.trans g c.nd)⟩
   |bk w s=>exact λp z F u c g i=>p z F u c (f.trans g c.nd) i
   |rt d s=>exact λp=>Xv.shift p f
   |bad=>exact λp=>p
   |er _ _=>exact λp=>p
  .rename_i o h;refine⟨J,B,S,Z5,o,L,v,h,λG y j f=>?_⟩;dsimp only;rw[if_neg qB4];exact p Z G y j f (v.up f)
  .exact False.elim p
  .exact False.elim p)
abbrev XA:=List (Nat×yM)
def X9(w:XA)(S:ZX):Prop:=∀p∈w,ZH S p.1=Z9 p.2
abbrev CI:=ZS->M (yM×XA)
structure Wf(K:yS)(JJ:It)(items:yM)(w:XA)(J0:yC)(H0:Hp):Prop where
 go:∀(i:Nat) H J S,SR K J S H->ZI K J0 J H0 H->X9 w S->i<items.length->JJ.go i H
 yld:∀(i:Nat) H J S x H',SR K J S H->ZI K J0 J H0 H->X9 w S->i<items.length->JJ.yld i H x H'->∃d,items[i]?=Z9 d/\SR K J S H'/\ZI K J J H H'/\RV K H' J d x
 stop:∀H J S,SR K J S H->ZI K J0 J H0 H->X9 w S->JJ.stop items.length H
inductive XZ(K:yS)(it:CI)(Z:St)(H:Hp)(R:It->Hp->Prop):Prop
 |mk (J:yC) (B:ZS) (S:ZX) (items:yM) (w:XA) (S':ZX) (sr:SR K J S H) (re:RE K H J B Z) (e:it B S=.ok (items,w) S') (y:∀JJ H' J',SR K J' S' H'->ZI K J J' H H'->Wf K JJ items w J' H'->R JJ H')
theorem PI.weak(h:PI X tg iter t)(w:∀Z H R,t' Z H R->t Z H R):PI X tg iter t':=λc s Z H R I q=>h c s Z H R I (w Z H R q)
theorem ZI.at{K:yS}(st:ZI K J c H d){n:Nat}{a:yR}(h:J[n]?=Z9 a):c[n]?=Z9 a:=by obtain⟨f,rfl⟩:=st.ext;rw[qA8 (qA4.mp h).1];exact h
mutual
noncomputable def WI:D->D->Bool
 |.non,.non=>Z7
 |.bl a,.bl b=>a == b
 |.int i,.int j=>i == j
 |.str x,.str y=>decide (x=y)
 |.ty a,.ty b=>a == b
 |.tup d,.tup c=>eqDs d c
 |.lst n,.lst m=>n == m
 |.dct n,.dct m=>n == m
 |.rol d,.rol c=>eqDs d c
 |_,_=>Z5
noncomputable def eqDs:yM->yM->Bool
 |[],[]=>Z7
 |x::c,y::d=>WI x y&&eqDs c d
 |_,_=>Z5
end
mutual
theorem KC(a b:D):WI a b=Z7↔a=b:=by
 cases a with
 |tup c=>cases b<;>first|(simp[WI];done)| (rename_i d;simp[WI,eqDs_iff c d])
 |rol c=>cases b<;>first|(simp[WI];done)| (rename_i d;simp[WI,eqDs_iff c d])
 |_=>cases b<;>simp[WI]
theorem eqDs_iff(a b:yM):eqDs a b=Z7↔a=b:=by
 cases a with
 |nil=>cases b<;>simp[eqDs]
 |cons x d=>cases b with
  |nil=>simp[eqDs]
  |cons y c=>simp[eqDs,KC x y,eqDs_iff d c]
end
noncomputable instance:DecidableEq D:=λa b=>decidable_of_iff _ (KC a b)
noncomputable instance (w:XA) (S:ZX):Decidable (X9 w S):=inferInstanceAs (Decidable (∀p∈w,ZH S p.1=Z9 p.2))
def YV(w:XA)(g:G)(b:CS):yM->CS
 |[]=>fun B S=>if X9 w S then .nx B S else .bad
 | d::ds=>fun B S=>if X9 w S then(match g d B S with
  |.ok e f=>match b e f with
   |.nx a c=>YV w g b ds a c
   |.ct a c=>YV w g b ds a c
   |.bk a c=>.nx a c
   |r=>r
  |.bad=>.bad
  | .er _ _=>.bad)else .bad
def Zd(c:CI)(g:G)(b:CS):CS:=fun B S=>match c B S with
 |.ok (a,w) d=>YV w g b a B d
 |.bad=>.bad
 |.er _ _=>.bad
theorem pH{K:It}(V:SR X.K o S0 r)(U:RE X.K r o B Z)(io:Wf X.K K items w o r)(p:Ul X o r E (YV w g y items B S0)):
  ∃W:Nat->Nat->St->Hp->Prop,(∃m,W 0 m Z r)/\∀i m Z H,W i m Z H->(K.stop i H/\E.nx Z H)∨(K.go i H/\∃N:St->Hp->Prop,(∀A h,N A h->∃m',m'<m/\W (i+1) m' A h)/\∀x h,K.yld i H x h->WJ X.K g x Z h fun Z2 H2=>Y6 X y { E with nx:=N,ct:=N,bk:=E.nx } Z2 H2):=by
 refine⟨λi m Z H=>i+m=items.length/\∃J B S,SR X.K J S H/\ZI X.K o J r H/\RE X.K H J B Z/\Ul X J H E (YV w g y (items.drop i) B S),⟨items.length,by simp,o,B,S0,V,ZI.refl _ _ _,U,by exact p⟩,?_⟩;rintro i m Z1 I ⟨him,s,B1,F,l,k,t,f⟩;by_cases D:i<items.length
 .rw[qF5 D]at f;unfold YV at f;split at f
  .rename_i L;refine .inr ⟨io.go i I s F l k L D,fun A h=>i+1+(m - 1)=items.length/\∃J B S,SR X.K J S h/\ZI X.K o J r h/\RE X.K h J B A/\Ul X J h E (YV w g y (items.drop (i+1)) B S),fun A h z=>⟨m - 1,by omega,z⟩,λx H2 hy=>?_⟩;obtain⟨d,hd,Q,v,rv⟩:=io.yld i I s F x H2 l k L D hy;have ed:=by rw[qA2 D]at hd;exact Option.some.inj hd
   rw[ed]at f;split at f
   .rename_i T Y h3;refine⟨s,B1,F,d,T,Y,Q,t.up v,rv,h3,fun Z3 H3 J3 q st3 R=>⟨J3,T,Y,q,R,?_⟩⟩;have b:=v.trans st3 q.nd;have n:=k.trans b q.nd;revert f;cases y T Y with
    |nx M C=>exact λp P O u a c j=>⟨by omega,u,M,C,a,n.trans c a.nd,j,p.shift (b.trans c a.nd)⟩
    |ct M C=>exact λp P O u a c j=>⟨by omega,u,M,C,a,n.trans c a.nd,j,p.shift (b.trans c a.nd)⟩
    |bk M C=>exact λp P O u a c j=>p P O u a (b.trans c a.nd) j
    |rt d C=>exact λp=>Xv.shift p b
    |bad=>exact λp=>p
    |er _ _=>exact λp=>p
   .exact False.elim f
   .exact False.elim f
  .exact False.elim f
 .have e:i=items.length:=by omega
  subst e;rw[qN3]at f;unfold YV at f;split at f
  .rename_i L;exact .inl ⟨io.stop I s F l k L,f Z1 I s l (ZI.refl _ _ _) t⟩
  .exact False.elim f
theorem pG{a:List wG}(l:m8 (yV X.prog X.w) X.A X.env X.xe)(i:X.calm=Z7)(hi:PI X tg iter (XZ X.K h))(m:PG X tg (WJ X.K g))(n:XB X a (Y6 X f))
  (hs:∀x,wM iter X.env x=pure x):PS X (.For tg iter a [] pos) (Y6 X (Zd h g f)):=(Ag l i hi m n hs).weak (by
 rintro E Z H ⟨J,B,S,q,e,p⟩;unfold Zd at p;split at p
 .rename_i b w j k;exact⟨J,B,S,b,w,j,q,e,k,λs t r d c o=>pH d (e.up c) o (p.shift c)⟩
 .exact False.elim p
 .exact False.elim p)
end
section
variable {X:Cx}{tg e:jE}{ce:C}{pos:Pos}
def kD:ZF->D
 |.inl i=>.int i
 |.inr x=>.str x
def Zv(c:C):CI:=fun B=>YW (c B) λx S=>match x with
 |.tup b=>.ok (b,[]) S
 |.lst n=>match ZH S n with
  |some b=>.ok (b,[(n,b)]) S
  |none=>.bad
 |.dct n=>match S[n]? with
  |some (.dk a)=>.ok (a.map λp=>kD p.1,[]) (S.set n (.fk a))
  |some (.fk a)=>.ok (a.map λp=>kD p.1,[]) S
  |_=>.bad
 |_=>.bad
theorem pF{K:yS}{f:Hp}{h:yC}{a:yR}{xs:yM}{c:List V}(q:Zp K f a c)(r:RVs K f h xs c):Wf K (Mn K a) xs [] h f where
 go:=λi H J S g b _ d=>by obtain⟨v,e,_⟩:=r.get (qA2 d);exact⟨c,v,b.tk.t _ _ q,e⟩
 yld:=λi H J S x k g b _ d y=>by obtain⟨rfl,y⟩:=y;obtain⟨v,e,j⟩:=r.get (qA2 d);have:=y c (b.tk.t _ _ q);rw[e]at this;cases this;exact⟨xs[i],qA2 d,g,ZI.refl _ _ _,RV.up b.tk b.ext _ _ j⟩
 stop:=λH J S g b _=>⟨c,b.tk.t _ _ q,by rw[r.len];exact qA7 _⟩
theorem pD{K:yS}{j:Hp}{g:yC}{a:yR}{n:Nat}{xs:yM}(hm:g[n]?=Z9 a):Wf K (Mo K a) xs [(n,xs)] g j where
 go:=λi H J S b c w f=>by obtain⟨d,q,r⟩:=b.sq (c.at hm) (w (n,xs) (by simp));obtain⟨v,e,_⟩:=r.get (qA2 f);exact⟨d,v,q,e⟩
 yld:=λi H J S x k b c w f y=>by obtain⟨rfl,y⟩:=y;obtain⟨d,q,r⟩:=b.sq (c.at hm) (w (n,xs) (by simp));obtain⟨v,e,h⟩:=r.get (qA2 f);have:=y d q;rw[e]at this;cases this;exact⟨xs[i],qA2 f,b,ZI.refl _ _ _,h⟩
 stop:=λH J S b c w=>by obtain⟨d,q,r⟩:=b.sq (c.at hm) (w (n,xs) (by simp));exact⟨d,q,by rw[r.len];exact qA7 _⟩
theorem En{K:yS}{g:Hp}{j:yC}{a:yR}{o:Obj}{b:List (ZF×V)}{kvs:List (ZF×D)}(q:g a=Z9 (.frz o (.dK b)))(e:kvs.map (·.1)=b.map (·.1)):Wf K (Uu a o) (kvs.map λp=>kD p.1) [] j g where
 go:=λi H J S d c _ f=>⟨b,c.tk.z _ _ _ q,by
  have:=congrArg qJ3 e;simp at this f;lia⟩
 yld:=λi H J S x m d c _ f y=>by
  obtain⟨rfl,y⟩:=y;obtain⟨p,l,rfl⟩:=y b (c.tk.z _ _ _ q);have h:(kvs.map (·.1))[i]?=Z9 p.1:=by rw[e,qB1,l];rfl
  have k:(kvs.map λp=>kD p.1)[i]?=Z9 (kD p.1):=by
   have:(kvs.map λp=>kD p.1)=(kvs.map (·.1)).map kD:=by rw[qC7];rfl
   rw[this,qB1,h];rfl
  refine⟨kD p.1,k,d,ZI.refl _ _ _,?_⟩;cases p.1<;>(unfold kD RV;rfl)
 stop:=λH J S d c _=>⟨b,c.tk.z _ _ _ q,by
  have:=congrArg qJ3 e;simp at this;simp;lia⟩
theorem pC(t:PE X e l):PI X tg e (fun Z H R=>l Z H λx c=>∃a,x=.ref a/\((∃xs,YK X.K c a xs)/\R (Mo X.K a) c∨(∃xs,Zp X.K c a xs)/\R (Mn X.K a) c
  ∨ (∃kvs,((c a=Z9 (.dK kvs)/\∀o,R (Uu a o) (ZC c a (.frz o (.dK kvs))))∨∃o,c a=Z9 (.frz o (.dK kvs))/\R (Uu a o) c))
  ∨ False)):=by
 intro g s Z H R I h;refine Zq (t g s Z H _ I h) λv d ⟨x,c,f,u,m⟩=>?_;obtain⟨a,e,q⟩:=m;subst e;cases u;rcases q with⟨⟨xs,k⟩,q⟩| ⟨⟨xs,k⟩,q⟩| q
 .obtain⟨i,r,p,n⟩:=f.list k;refine jW p.isList ?_;refine⟨d.heap.objs.size,[d.heap.objs.size],_,_,c,rfl,f.kept (t':=d.toks) λb o e=>qA3 _ e,Am a _,⟨_,qA9 _ rfl,rfl,rfl⟩,λb j=>?_,q⟩;have e:b=d.heap.objs.size:=by simpa using j
  subst e;exact f.fpOk (qA7 _) (f.hok.fresh (qA7 _))
 .obtain⟨i,r,p,n⟩:=f.tuple k;refine vE (show d.heap.IsTuple a i.toArray from p) ?_;refine⟨d.heap.objs.size,[d.heap.objs.size],_,_,c,rfl,f.kept (t':=d.toks) λb o e=>qA3 _ e,Al a _,⟨_,qA9 _ rfl,rfl,rfl⟩,λb j=>?_,q⟩;have e:b=d.heap.objs.size:=by simpa using j
  subst e;exact f.fpOk (qA7 _) (f.hok.fresh (qA7 _))
 .skip
  rcases q with q|q
  .exact sf f q
  exact q.elim
theorem pA(he:PE X e (Zu X.K ce)):PI X tg e (XZ X.K (Zv ce)):=(pC he).weak (by
 rintro Z H R ⟨J,B,S,p,w,L,K,u,e,y⟩;obtain⟨x,D,A,e⟩:=Y8 e;refine⟨J,B,S,x,D,K,u,A,λv f k b d l=>?_⟩;split at e
 .rename_i I;cases e;have r:=l;obtain⟨a,s,rfl,q,g⟩:=r;exact⟨a,rfl,.inr (.inl ⟨⟨s,Zp.of q⟩,y _ f k b d (pF (Zp.of q) g)⟩)⟩
 .rename_i n;split at e
  .rename_i I E;cases e;obtain⟨a,rfl,h⟩:=l;obtain⟨s,q,g⟩:=b.sq h E;exact⟨a,rfl,.inl ⟨⟨s,q⟩,y _ f k b d (pD h)⟩⟩
  .cases e
 .rename_i n;unfold RV at l;obtain⟨a,rfl,h⟩:=l;have fin:(∃c,((f a=Z9 (.dK c)/\∀o,R (Uu a o) (ZC f a (.frz o (.dK c))))∨∃o,f a=Z9 (.frz o (.dK c))/\R (Uu a o) f)):=by
   split at e
   .rename_i c m;cases e;obtain⟨j,i,g⟩:=b.get h m;refine⟨j,.inl ⟨i,λo=>?_⟩⟩;have F:TF X.K f (ZC f a (.frz o (.dK j))):=TL i (λ_ z=>by cases z) (λ_ _ z=>by cases z);obtain⟨t,G⟩:=b.put (o:=.frz o (.dK j)) (o':=.fk c) h i (λ_ z=>by cases z) (λ_ _ z=>by cases z) ⟨_,_,Xx,g.up F ⟨[],by simp⟩⟩;exact y _ _ k t (d.trans G t.nd) (En Xx g.1)
   .rename_i c m;cases e;obtain⟨o,j,i,g⟩:=b.get h m;exact⟨j,.inr ⟨o,i,y _ f k b d (En i g.1)⟩⟩
   .cases e
  first
  |exact⟨a,rfl,.inr (.inr (.inr (.inl fin)))⟩
  |exact⟨a,rfl,.inr (.inr (.inl fin))⟩
 .cases e)
def Y3(lo:Int)(n:Nat):yM:=(List.range n).map λk=>D.int (lo+(k:Nat))
theorem Em{K:yS}{g:Hp}{f:yC}{lo:Int}{n:Nat}:Wf K (QZ lo n) (Y3 lo n) [] f g where
 go:=λi H J S b d _ a=>by unfold Y3 at a;simp at a;exact a
 yld:=λi H J S x h b d _ a y=>by
  obtain⟨rfl,rfl⟩:=y;have c:=by unfold Y3 at a;simp at a;exact a
  exact⟨.int (lo+i),by unfold Y3;rw[qB1,qI2 c];rfl,b,ZI.refl _ _ _,XJ⟩
 stop:=λH J S b d _=>by show n<=(Y3 lo n).length;unfold Y3;simp
def VP(a:CA):CI:=fun B=>YW (a B) λb S=>match b with
 |[.int j]=>if -4611686018427387904<=j/\j<4611686018427387904 then .ok (Y3 0 j.toNat,[]) S else .bad
 |_=>.bad
def KB(a:CA):CI:=fun B=>YW (a B) λb S=>match b with
 |[.int i,.int j]=>if -4611686018427387904<=i/\i<4611686018427387904/\-4611686018427387904<=j/\j<4611686018427387904 then .ok (Y3 i (j - i).toNat,[]) S else .bad
 |_=>.bad
variable {a b:jE}{ca:CA}
theorem pz(h:PI X tg (.Call (.Name "range" p) [a] [] pos) (GU (YA X.K ca))):PI X tg (.Call (.Name "range" p) [a] [] pos) (XZ X.K (VP ca)):=h.weak (by
 rintro Z H R ⟨J,B,S,d,w,t,r,i,e,y⟩;obtain⟨q,m,k,e⟩:=Y8 e;refine⟨J,B,S,q,m,r,i,k,λu o n f c s=>?_⟩;split at e
 .rename_i j;split at e
  .rename_i g;cases e;obtain⟨v,rfl,l⟩:=s.one;subst l;exact⟨j,rfl,g.1,g.2,y _ o n f c Em⟩
  .cases e
 .cases e)
theorem pq(h:PI X tg (.Call (.Name "range" p) [a,b] [] pos) (GT (YA X.K ca))):PI X tg (.Call (.Name "range" p) [a,b] [] pos) (XZ X.K (KB ca)):=h.weak (by
 rintro Z H R ⟨J,B,S,d,w,z,t,g,e,y⟩;obtain⟨r,m,k,e⟩:=Y8 e;refine⟨J,B,S,r,m,t,g,k,λA o n f c x=>?_⟩;split at e
 .rename_i i j;split at e
  .rename_i q;cases e;obtain⟨v,u,rfl,l,s⟩:=x.two;subst l s;exact⟨i,j,rfl,q,y _ o n f c Em⟩
  .cases e
 .cases e)
theorem El{α c:Type}{xs:List α}{ys:List c}(h:i<(xs.zip ys).length):∃x y,xs[i]?=Z9 x/\ys[i]?=Z9 y/\(xs.zip ys)[i]?=Z9 (x,y):=by simp_all
def zipD(xs ys:yM):yM:=(xs.zip ys).map λp=>.tup [p.1,p.2]
def WH(S:ZX):D->Option (yM)
 |.tup c=>Z9 c
 |.lst n=>ZH S n
 |_=>Z8
def Tq(x:D)(xs:yM):XA:=match x with
 |.lst n=>[(n,xs)]
 |_=>[]
theorem Ek{K:yS}(l:SR K J S H)(r:RV K H J x v)(f:WH S x=Z9 xs):∃a b,v=.ref a/\(∃vs,Xi b K H a vs) /\
  ∀d g i,SR K g i d->ZI K J g H d->X9 (Tq x xs) i->∃vs,Xi b K d a vs/\RVs K d g xs vs:=by
 unfold WH at f;split at f
 .rename_i m;cases f;obtain⟨a,vs,rfl,q,j⟩:=r;exact⟨a,Z7,rfl,⟨vs,Zp.of q⟩,λd g i h c _=>⟨vs,c.tk.t _ _ (Zp.of q),RVs.up c.tk c.ext _ _ j⟩⟩
 .rename_i n;obtain⟨a,rfl,k⟩:=r;obtain⟨vs,q,j⟩:=l.sq k f;exact⟨a,Z5,rfl,⟨vs,q⟩,λd g i h c w=>h.sq (c.at k) (w (n,xs) (by simp[Tq]))⟩
 .cases f
theorem RB:X9 (f++d) S↔X9 f S/\X9 d S:=by unfold X9;simp only[qC0];exact⟨λh=>⟨λp c=>h p (.inl c),λp c=>h p (.inr c)⟩,λh p c=>c.elim (h.1 p) (h.2 p)⟩
theorem pk{K:yS}{z:Hp}{t:yC}{a b:yR}{b1 D:Bool}{E B:XA}{xs ys:yM}
  (k:∀d j n,SR K j n d->ZI K t j z d->X9 E n->∃c,Xi b1 K d a c/\RVs K d j xs c) (h:∀d j n,SR K j n d->ZI K t j z d->X9 B n->∃c,Xi D K d b c/\RVs K d j ys c) :
  Wf K (SO b1 D K a b) (zipD xs ys) (E++B) t z where
 go:=λi H J S f g w m=>by obtain⟨c,q,r⟩:=k H J S f g (RB.mp w).1;obtain⟨o,p,l⟩:=h H J S f g (RB.mp w).2;obtain⟨x,y,s,A,_⟩:=El (by unfold zipD at m;simpa using m);obtain⟨v,k,_⟩:=r.get s;obtain⟨u,h,_⟩:=l.get A;exact⟨c,o,v,u,q,p,k,h⟩
 yld:=λi H J S x Q f g w m y=>by obtain⟨T,F,rfl,y⟩:=y;obtain⟨c,q,r⟩:=k H J S f g (RB.mp w).1;obtain⟨o,p,l⟩:=h H J S f g (RB.mp w).2;obtain⟨x,P,s,A,O⟩:=El (by unfold zipD at m;simpa using m);obtain⟨v,k,G⟩:=r.get s;obtain⟨u,h,L⟩:=l.get A;have:=y c o v u q p k h;subst this;obtain⟨I,M,N⟩:=EO f F (.cons G (.cons L .nil));exact⟨.tup [x,P],by unfold zipD;rw[qB1,O];rfl,I,M,N⟩
 stop:=λH J S f g w=>by obtain⟨c,q,r⟩:=k H J S f g (RB.mp w).1;obtain⟨o,p,l⟩:=h H J S f g (RB.mp w).2;exact⟨c,o,q,p,by unfold zipD;rw[qA0,qV2,r.len,l.len]⟩
def RA(a:CA):CI:=fun B=>YW (a B) λf S=>match f with
 |[x,y]=>match WH S x,WH S y with
  |some d,Z9 c=>.ok (zipD d c,Tq x d++Tq y c) S
  |_,_=>.bad
 |_=>.bad
theorem pj{d:yE}(h:PI X (.Tuple d k c) (.Call (.Name "zip" p) [a,b] [] pos) (F6 X.K (YA X.K ca))):PI X (.Tuple d k c) (.Call (.Name "zip" p) [a,b] [] pos) (XZ X.K (RA ca)):=h.weak (by
 rintro Z H R ⟨J,B,S,i,w,O,G,l,e,y⟩;obtain⟨E,q,m,e⟩:=Y8 e;refine⟨J,B,S,E,q,G,l,m,λP x r f g I=>?_⟩;split at e
 .rename_i M K;split at e
  .rename_i L N j t;cases e;obtain⟨v,u,rfl,n,F⟩:=I.two;obtain⟨a,b1,rfl,s,z⟩:=Ek f n j;obtain⟨b,D,rfl,A,o⟩:=Ek f F t;exact⟨a,b,b1,D,rfl,s,A,y _ x r f g (pk z o)⟩
  .cases e
 .cases e)
def Uk(k:Nat)(c:List Nat)(B:ZS):ZS:=qM4 k Z8++c.map λj=>(B[j]?).getD Z8
theorem RE.comp{K:yS}(h:RE K H J B Z)(k:Nat)(c:List Nat):RE K H J (Uk k c B) (WO k c Z):=by
 refine⟨by unfold Uk WO;simp,λi d e=>?_⟩;unfold Uk at e;unfold WO;by_cases f:i<k
 .rw[qA8 (by simpa using f),qJ7]at e;simp at e
 .rw[qA1 (by simpa using f),qI9,qB1]at e;rw[qA1 (by simpa using f),qI9,qB1];cases q:c[i - k]? with
  |none=>rw[q]at e;simp at e
  |some j =>
   rw[q]at e;simp only[qQ6,Option.some.injEq]at e;cases g:B[j]? with
   |none=>rw[g]at e;simp at e
   |some z =>
    rw[g]at e;subst e;obtain⟨v,l,m⟩:=h.2 j d g;exact⟨v,by simp[l],m⟩
inductive Xk where
 |one|many (k:Nat)
def KA:ZS->Nat->yM->ZS
 |B,_,[]=>B
 |B,s,x::c=>KA (B.set s (Z9 x)) (s+1) c
def VO(t:Xk)(d:D)(B:ZS):Option ZS:=match t with
 |.one=>Z9 (B.set 0 (Z9 d))
 |.many k=>match d with
  |.tup c=>if c.length=k then Z9 (KA B 0 c)else Z8
  |_=>Z8
def NX:Nat->Nat->UI
 |_,0=>Q1
 |s,n+1=>GZ (Ta s) (NX (s+1) n)
def VN:Xk->Nat
 |.one=>1
 |.many k=>k
def tOfT'(K:yS):Xk->TG
 |.one=>Ta 0
 |.many k=>Q0 K k (NX 0 k)
theorem Ej(h:TZ (WO k d Z) f)(hi:i<k)(v:V):TZ (WO k d Z) (f.set i (Z9 v)):=by
 refine⟨by rw[qJ2];exact h.1,λj u e=>?_⟩;by_cases c:i=j
 .subst c;obtain⟨_,g,_⟩:=Gj e
  lia
 .rw[qE5 c];exact h.2 j u e
theorem Ei(Z:St):TZ Z Z:=⟨rfl,λ_ _ h=>h⟩
theorem Eh{K:yS}{H:Hp}{J:yC}{k:Nat}{d:List Nat}{Z:St}{Q:St->Hp->Prop}:∀{n s:Nat}{xs:yM}{vs:List V}{B1:ZS}{Z1:St},RVs K H J xs vs->xs.length=n->s+n<=k->RE K H J B1 Z1->TZ (WO k d Z) Z1->(∀c,RE K H J (KA B1 s xs) c->TZ (WO k d Z) c->Q c H)->NX s n vs Z1 H Q
 |0,s,xs,vs,B1,Z1,r,hl,hk,re,w,h=>by have:=qF0.mp hl;subst this;exact⟨r.nil_inv,h Z1 re w⟩
 |n+1,s,[],vs,B1,Z1,r,hl,hk,re,w,h=>by simp at hl
 |n+1,s,x::xs,vs,B1,Z1,r,hl,hk,re,w,h=>by obtain⟨v,g,rfl,i,f⟩:=r.cons_inv;exact⟨v,g,rfl,Eh f (by simpa using hl) (by lia) (re.set i s) (Ej w (by lia) v) h⟩
theorem ph{K:yS}(ht:VN t<=k)(g:RE K H J (Uk k c B) (WO k c Z))(j:RV K H J d x)(e:VO t d (Uk k c B)=Z9 m)(h:∀f,RE K H J m f->TZ (WO k c Z) f->Q f H)(o:1<=k):tOfT' K t x (WO k c Z) H Q:=by
 cases t with
 |one =>
  cases e;exact h _ (g.set j 0) (Ej (Ei _) o x)
 |many n =>
  unfold VO at e;dsimp only at e;split at e
  .rename_i s;split at e
   .rename_i l;cases e;obtain⟨p,r,rfl,q,i⟩:=j;exact⟨p,r,rfl,Zp.of q,by rw[<- i.len];exact l,Eh i l (by have:n<=k:=ht;lia) g (Ei _) h⟩
   .cases e
  .cases e
def Y1(w:XA)(t:Xk)(tc:CT)(c:C)(B0:ZS):yM->M (yM)
 |[]=>λS=>if X9 w S then .ok [] S else .bad
 | d::ds=>λS=>if X9 w S then(match VO t d B0 with
  |some f=>YW (tc f) (λk=>if k then YW (c f) λy=>YW (Y1 w t tc c B0 ds) λg=>ret (y::g)else Y1 w t tc c B0 ds) S
  | none=>.bad)else .bad
def XY(h:CI)(k:Nat)(f:List Nat)(t:Xk)(tc:CT)(c:C):C:=fun B=>YW (h B) λp S=>if p.1.length<lim then
  YW (Y1 p.2 t tc c (Uk k f B) p.1) (λg d=>.ok (.lst d.length) (d++[.lst g])) S
 else .bad
theorem SR.acc{K:yS}(c:SR K J S H)(j:A∉J)(h:H A=Z9 (.lst i)):SR K J S (ZC H A (.lst f)) :=
 ⟨c.len,c.nd,λn a o d g=>(c.obj n a o d g).up (N7 h) ⟨[],by simp⟩ (YI λz=>j (z▸qB5 d))⟩
theorem ZI.acc{K:yS}(st:ZI K d J c H)(i:c A=Z8)(h:H A=Z9 (.lst g)):ZI K d J c (ZC H A (.lst f)) :=
 ⟨st.pre,λb o j e=>by rw[YI (UZ e i)];exact st.fr b o j e,st.tk.trans (N7 h)⟩
theorem SR.adopt{K:yS}{acc:yM}(f:SR K J S H)(k:A∉J)(h:H A=Z9 (.lst g))(r:RVs K H J acc g):SR K (J++[A]) (S++[.lst acc]) H:=by
 refine⟨by simp[f.len],?_,λn a u c d=>?_⟩
 .rw[qG0];refine⟨f.nd,by simp,λa l b m=>?_⟩
  grind
 .by_cases j:n<J.length
  .rw[qA8 j]at c;rw[qA8 (by rw[<- f.len];exact j)]at d;exact(f.obj n a u c d).up (TF.refl _ _) ⟨[A],rfl⟩ rfl
  .rw[qA1 (by lia)]at c;rw[qA1 (by rw[<- f.len];lia)]at d;have i:=by have:=(qA4.mp c).1;simp at this;omega
   rw[i]at c;rw[<- f.len,i]at d;simp at c d;subst c d;exact⟨g,h,RVs.up (TF.refl _ _) ⟨[A],rfl⟩ _ _ r⟩
theorem ZI.adopt{K:yS}(st:ZI K d J c H)(g:c A=Z8):ZI K d (J++[A]) c H:=by
 obtain⟨f,e,n⟩:=st.pre;refine⟨⟨f++[A],by rw[e,qC3],λb h=>?_⟩,st.fr,st.tk⟩
 grind
theorem ZI.notIn{K:yS}(st:ZI K J J' H c)(f:A∉J)(h:H A=Z9 o):A∉J':=λz=>by
 obtain⟨d,rfl,n⟩:=st.pre
 simp_all
inductive pg(K:yS)(items:yM)(w:XA)(t:Xk)(tc:CT)(c:C)(B0:ZS)(J0:yC)(H0:Hp)(A:yR)(S1:ZX)(ys:yM)(i m:Nat)(us:List V)(H2:Hp):Prop
 |mk (him:i+m=items.length) (hus:us.length<=i) (J2:yC) (S2:ZX) (acc ZJ:yM) (sr:SR K J2 S2 H2) (st:ZI K J0 J2 H0 H2) (nA:A∉J2) (hA:H2 A=Z9 (.lst us)) (ra:RVs K H2 J2 acc us) (el:Y1 w t tc c B0 (items.drop i) S2=.ok ZJ S1) (eys:acc++ZJ=ys)
theorem Eg(ht:VN t<=k)(h1:1<=k)(h:Zu X.K (XY it k js t tc c) Z H Q):LM (XZ X.K it) k js (tOfT' X.K t) (YM X.K tc) (Zu X.K c) Z H Q:=by
 obtain⟨J,B,S,d,S',sr,re,e,y⟩:=h;obtain⟨⟨f,w⟩,S0,e0,f0⟩:=Y8 e;dsimp only at f0;split at f0
 .rename_i hlim;obtain⟨ys,S1,e1,f1⟩:=Y8 f0;cases f1;refine⟨J,B,S,f,w,S0,sr,re,e0,λJJ H0 J0 sr0 u io A U=>?_⟩;have reC:=(re.up u).comp k js;obtain⟨srA,stA⟩:=sr0.other U;have nA:=sr0.out U;refine⟨pg X.K f w t tc c (Uk k js B) J0 H0 A S1 ys,
   ⟨f.length,⟨by simp,qE6 _,J0,S0,[],ys,srA,stA,nA,Xx,RVs.nil,e1,rfl⟩⟩,?_⟩
  rintro i m us H2 ⟨him,hus,W,S2,acc,ZJ,g,n,s,T,l,j,I⟩;refine And.intro T ?_;by_cases hi:i<f.length
  .rw[qF5 hi]at j;unfold Y1 at j;split at j
   .rename_i hw;refine .inr ⟨io.go i H2 W S2 g n hw hi,N3 (by lia),λx H3 hy=>?_⟩;obtain⟨d,hd,G,N,rv⟩:=io.yld i H2 W S2 x H3 g n hw hi hy;have ed:=by rw[qA2 hi]at hd;exact Option.some.inj hd
    rw[ed]at j;have hA3:=N.fr A _ s T;have M:=n.trans N G.nd;split at j
    .rename_i B4 h4;refine ph ht (reC.up M) rv h4 (fun Z4 V wk=>⟨wk,?_⟩) h1;obtain⟨kb,S3,e3,f3⟩:=Y8 j;refine⟨W,B4,S2,kb,S3,G,V,e3,λH5 J5 E r=>?_⟩;have P:=r.fr A _ s hA3;have O:=r.notIn s hA3;have K:=M.trans r E.nd;have p:=N.trans r E.nd;cases kb with
     |true =>
      obtain⟨z,S4,e4,f4⟩:=Y8 f3;obtain⟨zs,S5,e5,f5⟩:=Y8 f4;obtain⟨rfl,rfl⟩:=Yb f5;refine⟨J5,B4,S3,z,S4,E,V.up r,e4,λv H6 J6 R D rv6=>?_⟩;have F:=D.fr A _ O P;have Y:=D.notIn O P;have L:=p.trans D R.nd;have tku:TF X.K H6 (ZC H6 A (.lst (us++[v]))):=N7 F;refine⟨F,m - 1,by lia,⟨by lia,by rw[qC2];show us.length+1<=i+1;lia,J6,S4,acc++[z],zs,R.acc Y F,(K.trans D R.nd).acc U F,Y,Xx,?_,e5,by rw[qC3];exact I⟩⟩;exact RVs.up tku ⟨[],by simp⟩ _ _ ((RVs.up L.tk L.ext _ _ l).append (.cons rv6 .nil))
     |false =>
      exact⟨m - 1,by lia,⟨by lia,by lia,J5,S3,acc,ZJ,E,K,O,P,RVs.up p.tk p.ext _ _ l,f3,I⟩⟩
    .cases j
   .cases j
  .have ei:i=f.length:=by lia
   subst ei;rw[qN3]at j;unfold Y1 at j;split at j
   .rename_i hw;cases j;rw[qI1]at I;subst I;refine .inl ⟨io.stop H2 W _ g n hw,?_⟩;have hA0:H A=Z8:=by
     cases q:H A with
     |none=>rfl
     |some o =>
      by_cases hm:A∈J
      .exact absurd (u.mem hm) nA
      .rw[u.fr A o hm q]at U;cases U
    have G:=g.adopt s T l;refine y (.ref A) H2 (W++[A]) G ((u.trans n g.nd).adopt hA0) ?_;exact⟨A,rfl,by rw[<- g.len,qA1 (qA7 _),qH7];rfl⟩
   .cases j
 .cases f0
end
def NW(a:CA):C:=fun B=>YW (a B) λc S=>match c with
 |[.lst n]=>match (ZH S n).bind Tu with
  |some b=>if b.length<=300 then .ok (.lst S.length) (S++[.lst ((Up (X5 b)).map tD)])else .bad
  |none=>.bad
 |_=>.bad
theorem pe(h:PE X (.Call (.Name "sorted" p) [.Call (.Name "set" m) [a] [] b] [] pos) (E3 X.K (YA X.K i))):PE X (.Call (.Name "sorted" p) [.Call (.Name "set" m) [a] [] b] [] pos) (Zu X.K (NW i)):=h.weak (by
 rintro Z H Q ⟨J,B,S,d,R,K,o,e,y⟩;obtain⟨D,u,s,e⟩:=Y8 e;refine⟨J,B,S,D,u,K,o,s,λT O M c g L=>?_⟩
 try dsimp only at e
 split at e
 .split at e
  .rename_i w n;split at e
   .rename_i f;cases e;obtain⟨P,G,E⟩:=qA5.mp n;obtain⟨v,rfl,r⟩:=L.one;unfold RV at r;obtain⟨a,rfl,z⟩:=r;obtain⟨N,q,x⟩:=c.sq z G;obtain⟨I,j,rfl,C⟩:=KG E x;refine⟨a,I,rfl,q,C,by rw[<- j,qA0]at f;exact f,λl F f A k t=>?_⟩;rw[j]at k;rw[Ew k t]at y;exact(y.shift g).newL c f (KF A)
   .cases e
  .cases e
 .cases e)
mutual
noncomputable def Sv:D->Bool
 |.lst _=>Z5
 |.dct _=>Z5
 |.tup a=>plDs a
 |.rol a=>plDs a
 |_=>Z7
noncomputable def plDs:yM->Bool
 |[]=>Z7
 |x::a=>Sv x&&plDs a
noncomputable def Uj(k:Nat):D->D
 |.lst n=>.lst (k+n)
 |.dct n=>.dct (k+n)
 |.tup a=>.tup (shDs k a)
 |.rol a=>.rol (shDs k a)
 |d=>d
noncomputable def shDs(k:Nat):yM->yM
 |[]=>[]
 |x::a=>Uj k x::shDs k a
end
def Ui{b:Type}(k:Nat):List (b×D)->List (b×D)
 |[]=>[]
 |(a,d)::r=>(a,Uj k d)::Ui k r
def Ef(k:Nat):O->O
 |.lst b=>.lst (shDs k b)
 |.dk a=>.dk (Ui k a)
 |.dt a=>.dt (Ui k a)
 |.fk a=>.fk (Ui k a)
section
variable {K:yS}{H H':Hp}{J J':yC}
mutual
theorem RV.pl:∀(d:D) (v:V),Sv d=Z7->RV K H J d v->RV K H J' d v:=λd v i r=>by
 cases d with
 |tup b=>unfold Sv at i;unfold RV at r ⊢;obtain⟨p,a,e,q,r⟩:=r;exact⟨p,a,e,q,RVs.pl b a i r⟩
 |rol b=>unfold Sv at i;unfold RV at r ⊢;obtain⟨p,a,e,q,r⟩:=r;exact⟨p,a,e,q,RVs.pl b a i r⟩
 |lst n=>cases i
 |dct n=>cases i
 |_=>unfold RV at r ⊢;exact r
theorem RVs.pl:∀(ds:yM) (vs:List V),plDs ds=Z7->RVs K H J ds vs->RVs K H J' ds vs:=λds vs i r=>by
 cases ds with
 |nil=>unfold RVs at r ⊢;exact r
 |cons d ds =>
  unfold plDs at i;rw[qC8]at i;unfold RVs at r ⊢;obtain⟨v,a,e,c,b⟩:=r;exact⟨v,a,e,RV.pl d v i.1 c,RVs.pl ds a i.2 b⟩
end
theorem Ee(h:J'[n]?=Z9 a):(J++J')[J.length+n]?=Z9 a:=by rw[qA1 (by omega)];simpa using h
mutual
theorem RV.sh:∀(d:D) (v:V),RV K H J' d v->RV K H (J++J') (Uj J.length d) v:=λd v r=>by
 cases d with
 |tup c=>unfold RV at r;unfold Uj RV;obtain⟨p,b,e,q,r⟩:=r;exact⟨p,b,e,q,RVs.sh c b r⟩
 |rol c=>unfold RV at r;unfold Uj RV;obtain⟨p,b,e,q,r⟩:=r;exact⟨p,b,e,q,RVs.sh c b r⟩
 |lst n=>unfold RV at r;unfold Uj RV;obtain⟨a,e,q⟩:=r;exact⟨a,e,Ee q⟩
 |dct n=>unfold RV at r;unfold Uj RV;obtain⟨a,e,q⟩:=r;exact⟨a,e,Ee q⟩
 |_=>unfold RV at r;unfold Uj RV;exact r
theorem RVs.sh:∀(ds:yM) (vs:List V),RVs K H J' ds vs->RVs K H (J++J') (shDs J.length ds) vs:=λds vs r=>by
 cases ds with
 |nil=>unfold RVs at r;unfold shDs RVs;exact r
 |cons d ds =>
  unfold RVs at r;unfold shDs RVs;obtain⟨v,a,e,c,b⟩:=r;exact⟨v,a,e,RV.sh d v c,RVs.sh ds a b⟩
end
theorem Ed:∀kvs:List (b×D),(Ui k kvs).map (·.1)=kvs.map (·.1)
 |[]=>rfl
 |(a,d)::r=>by unfold Ui;rw[qB8,qB8,Ed r]
theorem Ec:∀kvs:List (b×D),(Ui k kvs).map (·.2)=shDs k (kvs.map (·.2))
 |[]=>rfl
 |(a,d)::r=>by unfold Ui;rw[qB8,qB8,Ec r];rfl
theorem Y4.sh{ws:List (a×V)}(r:Y4 K H J' kvs ws):Y4 K H (J++J') (Ui J.length kvs) ws:=⟨(Ed kvs).trans r.1,by rw[Ec];exact RVs.sh _ _ r.2⟩
theorem OR.sh(r:OR K H J' a o):OR K H (J++J') a (Ef J.length o):=by
 cases o with
 |lst d=>obtain⟨b,e,r⟩:=r;exact⟨b,e,RVs.sh _ _ r⟩
 |dk c=>obtain⟨b,e,r⟩:=r;exact⟨b,e,r.sh⟩
 |dt c=>obtain⟨b,e,r⟩:=r;exact⟨b,e,r.sh⟩
 |fk c=>obtain⟨o,b,e,r⟩:=r;exact⟨o,b,e,r.sh⟩
def VM(a:yM->M D):yM->M D:=λds S=>match plDs ds,a ds []with
 |true,.ok d b=>if Sv d then .ok d S else .ok (Uj S.length d) (S++b.map (Ef S.length))
 |_,_=>a ds S
theorem Kz(b:plDs ds=Z7)(e:a ds []=.ok d f)(c:Sv d=Z7):VM a ds S=.ok d S:=by unfold VM;rw[b,e];dsimp only;rw[if_pos c]
theorem Eb:∀l:yA,plDs (l.map D.int)=Z7
 |[]=>rfl
 |a::r=>Eb r
theorem pd(a:∀ds S d S',b ds S=.ok d S'->ds.length=n):∀ds S d S',VM b ds S=.ok d S'->ds.length=n:=λds S d S' h=>by
 unfold VM at h;split at h
 .rename_i e;exact a _ _ _ _ e
 .exact a _ _ _ _ h
theorem pb(h:Xt K (VM A) n B H Q E):Xt K A n B H Q E:=by
 obtain⟨s,J,ds,S,d,T,f,r,e,y⟩:=h;unfold VM at e;split at e
 .rename_i R F G C;refine⟨s,[],ds,[],R,F,⟨rfl,qS0,λn a o h=>by simp at h⟩,RVs.pl _ _ G r,C,λv m p i c x=>?_⟩;have l:∀n a o,J[n]?=Z9 a->S[n]?=Z9 o->OR K m J a o:=λn a o g j=>by obtain⟨u,k⟩:=f.isS (qB5 g);exact(f.obj n a o g j).up c.tk ⟨[],by simp⟩ ((c.fr a u (by simp) k).trans k.symm)
  split at e
  .rename_i P;cases e;exact y v m J ⟨f.len,f.nd,l⟩ ⟨⟨[],by simp,by simp⟩,λb o _ h=>c.fr b o (by simp) h,c.tk⟩ (RV.pl _ _ P x)
  .cases e;obtain⟨U,w,fresh⟩:=c.pre;rw[qV3]at w;subst w;rw[<- f.len]at y;refine y v m (J++p) ⟨by simp[f.len,i.len],qG0.mpr ⟨f.nd,i.nd,λa N b O z=>?_⟩,λn a o g j=>?_⟩ ⟨⟨p,rfl,fresh⟩,λb o _ h=>c.fr b o (by simp) h,c.tk⟩ (RV.sh _ _ x)
   .subst z;obtain⟨u,k⟩:=f.isS N;rw[fresh a O]at k;cases k
   .by_cases t:n<J.length
    .rw[qA8 t]at g;rw[qA8 (by rw[<- f.len];exact t)]at j;exact(l n a o g j).up (TF.refl K m) ⟨p,rfl⟩ rfl
    .rw[qA1 (by omega)]at g;rw[qA1 (by rw[<- f.len];omega),qB1]at j;obtain⟨I,q,L⟩:=qA6.mp j;subst L;rw[<- f.len]at q;exact(i.obj _ a I g q).sh
 .exact⟨s,J,ds,S,d,T,f,r,e,y⟩
end
structure Sc where
 N:yH
 names:List (Str×j7)
 fn:Option Str
def Qi:yH:=["len","range","list","tuple","min","max","zip","isinstance","all","any","int","bool","enumerate","str","sorted","dict","sum","repr","set","abs"]
structure U8(ar:Str->yK)(mg:Str->yF):Prop where
 b:∀y:Str,y∈Qi->ar y=Z8->mg y=Z8
structure Ys(X:Cx)(sc:Sc)(ar:Str->yK)(cl:Str->yM->M D)(k:Nat):Prop where
 calm:X.calm=Z7
 N:X.N=sc.N
 nd:sc.N.Nodup
 gl:∀x,sc.names.lookup x=Z9 .globalImplicit->Gl X x
 loc:∀x,sc.names.lookup x=Z9 .local->X.env.scope.names.lookup x=Z9 .local
 cel:∀x,sc.names.lookup x=Z9 .cell->X.env.scope.names.lookup x=Z9 .cell
 fre:∀x,sc.names.lookup x=Z9 .free->X.env.scope.names.lookup x=Z9 .cell∨X.env.scope.names.lookup x=Z9 .free
 fnn:sc.fn.isSome=Z7->∀x,X.fn x=Z7
 room:Zf k X.A
 xe:X.xe=λ_ _=>False
 blt:U8 ar X.mg
 fns:∀x n,ar x=Z9 n->(∃ps,RO X.prog X.w X.K X.mg X.base x ps k (Xt X.K (cl x) n))/\∀ds S d S',cl x ds S=.ok d S'->ds.length=n
section
variable {X:Cx}{sc:Sc}{ar:Str->yK}{cl:Str->yM->M D}{k:Nat}
theorem Ys.vis(h:Ys X sc ar cl k)(a:sc.names.lookup x=Z9 .local∨sc.names.lookup x=Z9 .cell∨sc.names.lookup x=Z9 .free):VA X.env.scope x:=by
 rcases a with q|q|q
 .exact .inl (h.loc x q)
 .exact .inr (.inl (h.cel x q))
 .exact .inr (h.fre x q)
def Ky(o:Option j7):Bool:=o == Z9 .local||o == Z9 .cell||o == Z9 .free
theorem o9(h:Ky o=Z7):o=Z9 .local∨o=Z9 .cell∨o=Z9 .free:=by
 unfold Ky at h;simp only[qG6,beq_iff_eq]at h;rcases h with(h|h)| h
 .exact .inl h
 .exact .inr (.inl h)
 .exact .inr (.inr h)
def Tp:yH->Str->Nat->yK
 |[],_,_=>Z8
 |y::r,x,i=>if y=x then Z9 i else Tp r x (i+1)
theorem NV:∀{N:yH}{x:Str}{i j:Nat},Tp N x i=Z9 j->i<=j/\N[j - i]?=Z9 x
 |[],_,_,_,h=>by cases h
 |y::r,x,i,j,h=>by
  unfold Tp at h;split at h
  .simp_all
  .obtain⟨b,a⟩:=NV h;refine⟨by lia,?_⟩;have e:j - i=(j - (i+1))+1:=by lia
   rw[e,qK1];exact a
def Kx(a:Sc)(ar:Str->yK)(x:Str):Option C:=match Tp a.N x 0 with
 |some i=>if Ky (a.names.lookup x)&&!(x == ("__debug__":Str))&&!(x == ("__classdict__":Str))then Z9 (ZY i)else Z8
 |none=>if a.names.lookup x=Z9 .globalImplicit/\ar x=Z8 then
   (if x=("int":Str)then Z9 (ZW (.ty "int"))else if x=("bool":Str)then Z9 (ZW (.ty "bool"))else if x=("tuple":Str)then Z9 (ZW (.ty "tuple"))
    else if x=("list":Str)then Z9 (ZW (.ty "list"))else if x=("str":Str)then Z9 (ZW (.ty "str"))
    else Z8)
  else Z8
theorem o8(h:Ys X sc ar cl k)(e:Kx sc ar x=Z9 c):PE X (.Name x pos) (Zu X.K c):=by
 unfold Kx at e;split at e
 .rename_i i o;split at e
  .rename_i d;cases e;simp only[qC8,qJ5]at d;obtain⟨⟨m,p⟩,r⟩:=d;have:=(NV o).2;exact rF (G1 (by rw[h.N];exact this) (h.vis (o9 m)) p r)
  .cases e
 .split at e
  .rename_i a;have g:=h.gl x a.1;have ty:∀n b l j f,PE X (.Name x pos) (Zu X.K (ZW (.ty n))):=λn b l j f =>
    Qp (AZ (v:=.ty n) g f b rfl l j) λK H J=>by rfl
   split at e
   .rename_i q;subst q;cases e;exact ty "int" Gc (by decide) (by decide) (h.blt.b _ (by decide) a.2)
   .split at e
    .rename_i q;subst q;cases e;exact ty "bool" we (by decide) (by decide) (h.blt.b _ (by decide) a.2)
    .split at e
     .rename_i q;subst q;cases e;exact ty "tuple" Gd (by decide) (by decide) (h.blt.b _ (by decide) a.2)
     .split at e
      .rename_i q;subst q;cases e;exact ty "list" LK (by decide) (by decide) (h.blt.b _ (by decide) a.2)
      .split at e
       .rename_i q;subst q;cases e;exact ty "str" wd (by decide) (by decide) (h.blt.b _ (by decide) a.2)
       .cases e
  .cases e
def Ea:Const->Option C
 |.none=>Z9 (ZW .non)
 |.bool b=>Z9 (ZW (.bl b))
 |.int i=>Z9 (ZW (.int i))
 |.str x=>Z9 (ZW (.str x))
 |_=>Z8
theorem o7(e:Ea v=Z9 c):PE X (.Constant v j pos) (Zu X.K c):=by
 cases v with
 |none=>cases e;exact Qp A2 λ_ _ _=>Tw
 |bool b=>cases e;exact Qp A3 λ_ _ _=>WM
 |int i=>cases e;exact Qp A4 λ_ _ _=>XJ
 |str x=>cases e;exact Qp A1 λ_ _ _=>EL
 |_=>cases e
def D9:dU->Option (D->D->M D)
 |.Add=>Z9 Zk
 |.Sub=>Z9 (Zn λi j=>i - j)
 |.Mult=>Z9 Xs
 |.Mod=>Z9 Xg
 |.FloorDiv=>Z9 WL
 |.Pow=>Z9 VW
 |.LShift=>Z9 Wn
 |.RShift=>Z9 Ve
 |.BitAnd=>Z9 (Zn j6)
 |.BitOr=>Z9 (Zn vV)
 |.BitXor=>Z9 (Zn fD)
 |_=>Z8
theorem Kw(e:D9 op=Z9 o):YD X.K (Zm X (jP op)) o:=by
 cases op with
 |Add=>cases e;exact qT
 |Sub=>cases e;exact qX
 |Mult=>cases e;exact qR
 |Mod=>cases e;exact qQ
 |FloorDiv=>cases e;exact qP
 |Pow=>cases e;exact qO
 |LShift=>cases e;exact qN
 |RShift=>cases e;exact qM
 |BitAnd=>cases e;exact qW
 |BitOr=>cases e;exact qV
 |BitXor=>cases e;exact qU
 |_=>cases e
def NU:gE->Option (D->D->M D)
 |.Eq=>Z9 XI
 |.NotEq=>Z9 Xf
 |.Lt=>Z9 V8
 |.LtE=>Z9 (Yx λi j=>decide (i<=j))
 |.Gt=>Z9 (Yx λi j=>decide (j<i))
 |.GtE=>Z9 (Yx λi j=>decide (j<=i))
 |.Is=>Z9 Qo
 |.IsNot=>Z9 Uq
 |.In=>Z9 (YG Z5)
 |.NotIn=>Z9 (YG Z7)
theorem Rz(h:Zf k X.A)(e:NU op=Z9 o):YD X.K (Zm X (jD op)) o:=by
 have a:=h.units;have b:=h.units0;cases op with
 |Eq=>cases e;exact qG a
 |NotEq=>cases e;exact qF a
 |Lt=>cases e;exact qH b
 |LtE=>cases e;exact qK
 |Gt=>cases e;exact qJ
 |GtE=>cases e;exact qI
 |Is=>cases e;exact qE
 |IsNot=>cases e;exact qD
 |In=>cases e;exact qA a
 |NotIn=>cases e;exact qz a
def Wz:jE->Bool
 |.Starred _ _=>Z5
 |_=>Z7
theorem Wy{es:yE}(h:Wz a=Z7):jL (a::es) env=(Z5,v7 a env)::jL es env:=by cases a<;>first|rfl|cases h
def zA1?(f:jE->Option C):yE->Option (List C)
 |[]=>Z9 []
 |e::a=>if Wz e then(f e).bind λc=>(zA1? f a).map (c::·)else Z8
def Wx(X:Cx)(f:jE->Option C):Prop:=∀e c,f e=Z9 c->PE X e (Zu X.K c)
variable {f:jE->Option C}
theorem UR(g:Wx X f):∀{es:yE}{cs:List C},zA1? f es=Z9 cs->PA X es (YA X.K (ZR cs))/\(∀e∈es,Wz e=Z7)
 |[],cs,e=>by cases e;exact⟨KS,by simp⟩
 |a::es,cs,e=>by
  unfold zA1? at e;split at e
  .rename_i d;obtain⟨c,i,e⟩:=qA5.mp e;obtain⟨m,l,e⟩:=qA6.mp e;subst e;obtain⟨h,j⟩:=UR g l;exact⟨N4 (g a c i) h (Wy d),λe b=>by
    rcases qB0.mp b with rfl|b
    .exact d
    .exact j e b⟩
  .cases e
theorem Kv{es:yE}(h:∀e∈es,Wz e=Z7):(wV pos (jL es env)).any (·.1)=Z5:=by
 induction es with
 |nil=>rfl
 |cons a es c =>
  rw[Wy (h a (by simp))];show(Z5||(wV pos (jL es env)).any (·.1))=Z5;rw[c λe b=>h e (by simp[b])];rfl
def Qh:jE->Bool
 |.Slice _ _ _ _=>Z7
 |_=>Z5
theorem o6(h:Qh b=Z5):L8 b:=by cases b<;>first|(intro o i;rfl)| cases h
def zGa?(f:jE->Option C):Option jE->Option CO
 |none=>Z9 TC
 |some e=>(f e).map TB
theorem D8(i:Wx X f)(h:zGa? f e=Z9 c):PO X e (Vf X.K c):=by
 cases e with
 |none=>cases h;exact rd
 |some a =>
  obtain⟨g,b,d⟩:=qA6.mp h;subst d;exact q0 (i a g b)
def Su(f:jE->Option C)(a b:jE):Option C:=match b with
 |.Slice e g Z8 _=>(f a).bind λc=>(zGa? f e).bind λi=>(zGa? f g).map λd=>Tz VU c i d
 |_=>if Qh b then Z8 else(f a).bind λc=>(f b).map λh=>ZU ZA c h
theorem o5(h:Zf k X.A)(d:Wx X f)(e:Su f a b=Z9 c):PE X (.Subscript a b pos) (Zu X.K c):=by
 unfold Su at e;split at e
 .obtain⟨j,g,e⟩:=qA5.mp e;obtain⟨p,i,e⟩:=qA5.mp e;obtain⟨o,l,e⟩:=qA6.mp e;subst e;exact qZ qw (d a j g) (D8 d i) (D8 d l)
 .split at e
  .cases e
  .rename_i m;obtain⟨j,g,e⟩:=qA5.mp e;obtain⟨n,i,e⟩:=qA6.mp e;subst e;exact rg (qx (Gu h)) (d a j g) (d b n i) (o6 (by simpa using m))
def Qg(f:jE->Option C)(a:jE)(d:List gE)(bs:yE):Option C:=match d,bs with
 |[op],[b]=>if fS op b then Z8 else(NU op).bind λo=>(f a).bind λg=>(f b).map λe=>ZU o g e
 |[op,op'],[b,c]=>if dA [op,op'] [b,c]then Z8 else(NU op).bind λo=>(NU op').bind λh=>(f a).bind λg=>(f b).bind λe=>(f c).map λi=>TH o h g e i
 |_,_=>Z8
theorem o4(h:Zf k X.A)(d:Wx X f)(e:Qg f a g bs=Z9 c):PE X (.Compare a g bs pos) (Zu X.K c):=by
 unfold Qg at e;split at e
 .rename_i s b;split at e
  .cases e
  .rename_i m;obtain⟨o,p,e⟩:=qA5.mp e;obtain⟨l,j,e⟩:=qA5.mp e;obtain⟨n,q,e⟩:=qA6.mp e;subst e;exact rD (Rz h p) (d a l j) (d b n q) (by simpa using m)
 .rename_i s t b c;split at e
  .cases e
  .rename_i m;obtain⟨o,p,e⟩:=qA5.mp e;obtain⟨v,i,e⟩:=qA5.mp e;obtain⟨l,j,e⟩:=qA5.mp e;obtain⟨n,q,e⟩:=qA5.mp e;obtain⟨r,u,e⟩:=qA6.mp e;subst e;exact rB (Rz h p) (Rz h i) (d a l j) (d b n q) (d c r u) (by simpa using m)
 .cases e
def Ku(f:jE->Option C)(a:jE)(ops:List gE)(bs:yE):Option CT:=match ops,bs with
 |ops,bs=>(Qg f a ops bs).map Zj
theorem o3(h:Zf k X.A)(d:Wx X f)(e:Ku f a g bs=Z9 c):PT X (.Compare a g bs pos) (YM X.K c):=by
 unfold Ku at e;split at e
 .obtain⟨r,b,e⟩:=qA6.mp e;subst e;unfold Qg at b;split at b
  .split at b
   .cases b
   .rename_i l;obtain⟨o,p,e⟩:=qA5.mp b;obtain⟨j,m,e⟩:=qA5.mp e;obtain⟨n,q,e⟩:=qA6.mp e;subst e;exact rC (Rz h p) (d _ j m) (d _ n q) (by simpa using l)
  .split at b
   .cases b
   .rename_i l;obtain⟨o,p,e⟩:=qA5.mp b;obtain⟨t,i,e⟩:=qA5.mp e;obtain⟨j,m,e⟩:=qA5.mp e;obtain⟨n,q,e⟩:=qA5.mp e;obtain⟨r,s,e⟩:=qA6.mp e;subst e;exact rA (Rz h p) (Rz h i) (d _ j m) (d _ n q) (d _ r s) (by simpa using l)
  .cases b
def D7:jE->Bool
 |.Name _ _=>Z7
 |.Subscript _ _ _=>Z7
 |.Call _ (_::_) _ _=>Z7
 |_=>Z5
theorem oZ(h:D7 o=Z7):wS o c env (v7 o env)=v7 o env:=by
 cases o with
 |Call f b kw d =>
  cases b with
  |nil=>cases h
  |cons a r=>cases f<;>rfl
 |_=>first|rfl|cases h
def D6(x:Str):jE->Option jE
 |.Call (.Name y _) [a] [] _=>if x=("sorted":Str)/\y=("set":Str)then Z9 a else Z8
 |_=>Z8
def D5(x:Str):Option (yM->M D) :=
 if x=("dict":Str)then Z9 US else
 Z8
def NT(x:Str):Option (yM->M D) :=
 if x=("len":Str)then Z9 Zw else
 if x=("isinstance":Str)then Z9 YJ else
 if x=("tuple":Str)then Z9 Ya else
 if x=("list":Str)then Z9 Tt else
 if x=("min":Str)then Z9 Wm else
 if x=("max":Str)then Z9 Vd else
 if x=("all":Str)then Z9 (W1 λbs=>bs.all id)else
 if x=("any":Str)then Z9 (W1 λbs=>bs.any id)else
 if x=("int":Str)then Z9 VS else
 if x=("sorted":Str)then Z9 Va else
 if x=("sum":Str)then Z9 X4 else
 D5 x
def D4:jE->Option (yE)
 |.Call (.Name x _) as [] _=>if x=("range":Str)then Z9 as else Z8
 |_=>Z8
def Ry:yM->M D:=λa S=>match a with
 |[.int j]=>if -4611686018427387904<=j/\j<4611686018427387904/\j<=1000 then .ok (.lst S.length) (S++[.lst (Y3 0 j.toNat)])else .bad
 |[.int i,.int j]=>if -4611686018427387904<=i/\i<4611686018427387904/\-4611686018427387904<=j/\j<4611686018427387904/\j - i<=1000 then .ok (.lst S.length) (S++[.lst (Y3 i (j - i).toNat)])else .bad
 |_=>.bad
def Kt(d:Sc)(ar:Str->yK)(cl:Str->yM->M D)(f:jE->Option C)(x:Str)(es:yE):Option C :=
 if d.names.lookup x=Z9 .globalImplicit then
  match ar x with
  |some n=>if es.length=n/\es≠[]/\VB x then(zA1? f es).map λb=>ZT (cl x) (ZR b)else Z8
  |none=>match es with
   |[e] =>
    match D6 x e with
    |some a=>if ar "set"=Z8/\d.names.lookup ("set":Str)=Z9 .globalImplicit then(zA1? f [a]).map λb=>NW (ZR b)else Z8
    |none =>
    match D4 e with
    |some c=>if x=("list":Str)/\ar "range"=Z8/\d.names.lookup ("range":Str)=Z9 .globalImplicit/\(c.length=1∨c.length=2)then(zA1? f c).map λb=>ZT Ry (ZR b)else Z8
    |none=>(NT x).bind λo=>(zA1? f es).map λb=>ZT o (ZR b)
   |_::_=>(NT x).bind λo=>(zA1? f es).map λb=>ZT o (ZR b)
   |[]=>Z8
 else Z8
theorem oY{K:yS}(lo:Int)(n:Nat):RVs K H J (Y3 lo n) (RP lo n):=by
 unfold Y3 RP;generalize List.range n=l
 induction l with
 |nil=>exact .nil
 |cons a r b=>exact .cons XJ b
set_option maxHeartbeats 2000000 in
theorem D3(h:Ys X sc ar cl k)(v:sc.names.lookup x=Z9 .globalImplicit)(c:ar x=Z8)(b:NT x=Z9 o){es:yE}(r:PA X (e::es) (YA X.K (ZR n)))(hs:∀a∈e::es,Wz a=Z7):PE X (.Call (.Name x p) (e::es) [] pos) (Zu X.K (ZT o (ZR n))):=by
 have g:=h.gl x v;have t:=Wy (es:=es) (env:=X.env) (hs e (by simp));have u:(wV pos (jL es X.env)).any (·.1)=Z5:=Kv λa r=>hs a (by simp[r]);unfold NT at b;have i:∀(id:String) (l:jO x=Z9 (.builtin id)) (j:X.mg x=Z8) (d:x ≠ "__name__") (m:VB x) (o:yM->M D),WB X.K (Yz X (.builtin id)) o->PE X (.Call (.Name x p) (e::es) [] pos) (Zu X.K (ZT o (ZR n))):=λid l j d m o s =>
  (zk callAny g j l r d m t u).weak (EM s)
 have T:∀(id:String) (l:jO x=Z9 (.type id)) (j:X.mg x=Z8) (d:x ≠ "__name__") (m:VB x) (o:yM->M D),WB X.K (Yz X (.type id)) o->PE X (.Call (.Name x p) (e::es) [] pos) (Zu X.K (ZT o (ZR n))):=λid l j d m o s =>
  (Mb callAny g j l r d m t u).weak (EM s)
 split at b
 .rename_i q;subst q;cases b;exact i "len" wu (h.blt.b _ (by decide) c) (by decide) (by decide) _ qv
 split at b
 .rename_i q;subst q;cases b;exact i "isinstance" wj (h.blt.b _ (by decide) c) (by decide) (by decide) _ qo
 split at b
 .rename_i q;subst q;cases b;exact T "tuple" Gd (h.blt.b _ (by decide) c) (by decide) (by decide) _ qr
 split at b
 .rename_i q;subst q;cases b;exact T "list" LK (h.blt.b _ (by decide) c) (by decide) (by decide) _ (qj h.calm)
 split at b
 .rename_i q;subst q;cases b;exact i "min" wq (h.blt.b _ (by decide) c) (by decide) (by decide) _ (qu h.calm)
 split at b
 .rename_i q;subst q;cases b;exact i "max" wo (h.blt.b _ (by decide) c) (by decide) (by decide) _ (qt h.calm)
 split at b
 .rename_i q;subst q;cases b;exact i "all" wi (h.blt.b _ (by decide) c) (by decide) (by decide) _ (qm h.calm)
 split at b
 .rename_i q;subst q;cases b;exact i "any" wg (h.blt.b _ (by decide) c) (by decide) (by decide) _ (ql h.calm)
 split at b
 .rename_i q;subst q;cases b;exact T "int" Gc (h.blt.b _ (by decide) c) (by decide) (by decide) _ qq
 split at b
 .rename_i q;subst q;cases b;exact i "sorted" (by decide) (h.blt.b _ (by decide) c) (by decide) (by decide) _ (qi h.calm h.room.units)
 split at b
 .rename_i q;subst q;cases b;exact i "sum" (by decide) (h.blt.b _ (by decide) c) (by decide) (by decide) _ (qh h.calm)
 unfold D5 at b;split at b
 .rename_i q;subst q;cases b;exact T "dict" (by decide) (h.blt.b _ (by decide) c) (by decide) (by decide) _ (p7 h.calm)
 cases b
theorem oX(h:Ys X sc ar cl k)(U:sc.names.lookup ("list":Str)=Z9 .globalImplicit)(hn:ar "list"=Z8)(hr:sc.names.lookup ("range":Str)=Z9 .globalImplicit)(o:ar "range"=Z8)(F:PA X g (YA X.K (ZR z)))(hs:∀a∈g,Wz a=Z7)(G:g.length=1∨g.length=2):
  PE X (.Call (.Name "list" p) [.Call (.Name "range" I) g [] c] [] pos) (Zu X.K (ZT Ry (ZR z))):=by
 have Y:=h.gl _ U;have T:=h.gl _ hr;have R:PE X (.Call (.Name "range" I) g [] c) (OL (Yz X (.type "range")) (YA X.K (ZR z))):=by
  cases g with
  |nil=>simp at G
  |cons e es=>exact Mb callAny T (h.blt.b _ (by decide) o) wt F (by decide) (by decide) (Wy (hs e (by simp))) (Kv λa F=>hs a (by simp[F]))
 have L:=Mb (p:=p) (pos:=pos) (callAny) Y (h.blt.b _ (by decide) hn) LK (GL R GM rfl) (by decide) (by decide) rfl rfl;refine L.weak ?_;rintro Z H Q ⟨J,B,S,d,S',sr,N,e,y⟩;obtain⟨xs,s,O,e⟩:=Y8 e;refine⟨J,B,S,xs,s,sr,N,O,λvs x P E t K=>?_⟩;have n:=y.shift t;have fin:∀(i j),-4611686018427387904<=i->i<4611686018427387904->-4611686018427387904<=j->j<4611686018427387904->j - i<=1000->Xv X.K P x (.lst s.length) (s++[.lst (Y3 i (j - i).toNat)]) Q->∀q,x q=Z8->Yz X (.type "list") [.ref q] (ZC x q (.rng i j)) Q:=by intro i j b1 b2 W b4 b5 n q m;obtain⟨w,A⟩:=E.other m;exact⟨_,xn h.calm,q,i,j,rfl,Xx,b1,b2,W,b4,by lia,λl G=>(n.shift A).newL w G (oY _ _)⟩
 unfold Ry at e;split at e
 .rename_i j;split at e
  .rename_i b;cases e;obtain⟨v,rfl,r⟩:=K.one;subst r;refine⟨_,xp,j,rfl,λq m=>?_⟩;have:=fin 0 j (by decide) (by decide) b.1 b.2.1 (by lia) (by rw[Int.sub_zero];exact n) q m;exact this
  .cases e
 .rename_i i j;split at e
  .rename_i b;cases e;obtain⟨v,u,rfl,r,V⟩:=K.two;subst r V;exact⟨_,xq,i,j,rfl,λq m=>fin i j b.1 b.2.1 b.2.2.1 b.2.2.2.1 b.2.2.2.2 n q m⟩
  .cases e
 .cases e
theorem oW(h:Ys X sc ar cl k)(r:Wx X f)(e:Kt sc ar cl f x es=Z9 c):PE X (.Call (.Name x p) es [] pos) (Zu X.K c):=by
 unfold Kt at e;split at e
 .rename_i s;split at e
  .rename_i n l;split at e
   .rename_i t;obtain⟨A,w,I⟩:=t;obtain⟨u,j,e⟩:=qA6.mp e;subst e;obtain⟨i,g⟩:=UR r j;obtain⟨⟨L,G⟩,m⟩:=h.fns x n l;cases es with
    |nil=>exact absurd rfl w
    |cons a es =>
     exact(wx (p:=p) (pos:=pos) G h.room (h.gl x s) i (qA7 _) I (Wy (g a (by simp))) (Kv λb H=>g b (by simp[H]))).weak (qY m)
   .cases e
  .rename_i l;split at e
   .rename_i a;split at e
    .rename_i b d;split at e
     .rename_i t;obtain⟨z,E⟩:=t;obtain⟨u,j,e⟩:=qA6.mp e;subst e;unfold D6 at d;split at d
      .split at d
       .rename_i q;obtain⟨rfl,rfl⟩:=q;cases d;obtain⟨i,g⟩:=UR r j;exact pe (sx h.calm h.room.units (h.gl _ s) (h.blt.b _ (by decide) l) (h.gl _ E) (h.blt.b _ (by decide) z) i (by rw[Wy (g _ (by simp))];rfl))
       .cases d
      .cases d
     .cases e
    split at e
    .rename_i K d;split at e
     .rename_i t;obtain⟨rfl,v,J,A⟩:=t;obtain⟨u,j,e⟩:=qA6.mp e;subst e;obtain⟨i,g⟩:=UR r j;unfold D4 at d;split at d
      .rename_i O N F B;split at d
       .rename_i q;subst q;cases d;exact oX h s l J v i g A
       .cases d
      .cases d
     .cases e
    .obtain⟨o,y,e⟩:=qA5.mp e;obtain⟨u,j,e⟩:=qA6.mp e;subst e;obtain⟨i,g⟩:=UR r j;exact D3 h s l y i g
   .obtain⟨o,y,e⟩:=qA5.mp e;obtain⟨u,j,e⟩:=qA6.mp e;subst e;obtain⟨i,g⟩:=UR r j;exact D3 h s l y i g
   .cases e
 .cases e
end
section
variable {X:Cx}{sc:Sc}{ar:Str->yK}{cl:Str->yM->M D}{k:Nat}{f:jE->Option C}
def D2(m:Str)(a:C):Option C :=
 if m=("pop":Str)then Z9 (RD "list" (Ye Um) a)else
 if m=("bit_length":Str)then Z9 (RD "int" Qk a)else
 Z8
def DZ(m:Str)(b a:C):Option C :=
 if m=("append":Str)then Z9 (WK "list" (Ye Xr) b (ZR [a]))else
 if m=("extend":Str)then Z9 (WK "list" NY b (ZR [a]))else
 if m=("index":Str)then Z9 (WK "list" Sy b (ZR [a]))else
 if m=("update":Str)then Z9 (WK "dict" VR b (ZR [a]))else
 Z8
def DY(m:Str)(c b a:C):Option C :=
 if m=("insert":Str)then Z9 (WK "list" (Ye RC) c (ZR [b,a]))else
 Z8
def Ks(f:jE->Option C)(o:jE)(m:Str)(es:yE)(d c:Pos):Option C :=
 if D7 o&&(d.endLine == c.line)then(f o).bind λe=>match es with
  |[]=>D2 m e
  |[a]=>if Wz a then(f a).bind λg=>DZ m e g else Z8
  |[a,b]=>if Wz a&&Wz b then(f a).bind λg=>(f b).bind λh=>DY m e g h else Z8
  |_=>Z8
 else Z8
theorem oV(A:Zf k X.A)(j:Wx X f)(e:Ks f o m es p d=Z9 c):PE X (.Call (.Attribute o m p) es [] d) (Zu X.K c):=by
 unfold Ks at e;split at e
 .rename_i E;rw[qC8]at E;obtain⟨H,s⟩:=E;obtain⟨u,t,g⟩:=qA5.mp e;clear e;have r:∀n,wS o n X.env (v7 o X.env)=v7 o X.env:=λn=>oZ H;split at g
  .unfold D2 at g;split at g
   .rename_i q;subst q;cases g;exact Et vR PySem.F.slot_list_pop PySem.F.type_list_pop qe (j o u t) (r _) s
   split at g
   .rename_i q;subst q;cases g;exact Et PySem.F.plainAttrs_int PySem.F.slot_int_bit_length PySem.F.type_int_bit_length qc (j o u t) (r _) s
   cases g
  .rename_i a;split at g
   .rename_i w;obtain⟨y,z,i⟩:=qA5.mp g;clear g;have l:=Wy (es:=[]) (env:=X.env) w;have v:PA X [a] (YA X.K (ZR [y])):=N4 (j a y z) KS l;have h:((wV d (jL [a] X.env)).all (λx=>!x.1)&&(backToKw d (mW [] X.env)).all (λx=>x.1.isSome)
     && decide ([a].length+([]:List lY).length+(if([]:List lY).isEmpty then 0 else 1)<30))=Z7:=by rw[l];rfl
    unfold DZ at i;split at i
    .rename_i q;subst q;cases i;exact Ql vR PySem.F.slot_list_append PySem.F.type_list_append qg (j o u t) v (r _) h s l rfl
    split at i
    .rename_i q;subst q;cases i;exact Ql vR lC PySem.F.type_list_extend qa (j o u t) v (r _) h s l rfl
    split at i
    .rename_i q;subst q;cases i;exact Ql vR lO PySem.F.type_list_index (qd A.units) (j o u t) v (r _) h s l rfl
    split at i
    .rename_i q;subst q;cases i;exact Ql PySem.F.plainAttrs_dict lH PySem.F.type_dict_update p8 (j o u t) v (r _) h s l rfl
    cases i
   .cases g
  .rename_i a b;split at g
   .rename_i w;rw[qC8]at w;obtain⟨y,z,F⟩:=qA5.mp g;obtain⟨G,I,i⟩:=qA5.mp F;clear g F;have B:=Wy (es:=[]) (env:=X.env) w.2;have l:=Wy (es:=[b]) (env:=X.env) w.1;have v:PA X [a,b] (YA X.K (ZR [y,G])):=N4 (j a y z) (N4 (j b G I) KS B) l;have h:((wV d (jL [a,b] X.env)).all (λx=>!x.1)&&(backToKw d (mW [] X.env)).all (λx=>x.1.isSome)
     && decide ([a,b].length+([]:List lY).length+(if([]:List lY).isEmpty then 0 else 1)<30))=Z7:=by rw[l,B];rfl
    unfold DY at i;split at i
    .rename_i q;subst q;cases i;exact Ql vR PySem.F.slot_list_insert PySem.F.type_list_insert qf (j o u t) v (r _) h s l (by rw[B];rfl)
    cases i
   .cases g
  .cases g
 .cases e
def Rx:C:=λ_ S=>.ok (.dct S.length) (S++[.dk []])
theorem oU:PE X (.Dict [] [] pos) (Zu X.K Rx):=xG.weak (by
 rintro Z H Q ⟨J,B,S,d,i,a,h,e,y⟩;cases e;intro p b;obtain⟨g,c⟩:=a.push (o':=.dk []) b ⟨[],Xx,Y4.nil⟩;exact y _ _ _ g c (⟨p,rfl,by rw[<- a.len,qA1 (qA7 _),qH7];rfl⟩))
def NS(a b:C):C:=fun B=>YW (a B) λx=>YW (b B) λy S=>match WT x with
 |some k=>.ok (.dct S.length) (S++[.dk [(k,y)]])
 |none=>.bad
theorem oT(ha:PE X a (Zu X.K W))(s:PE X b (Zu X.K cb)):PE X (.Dict [Z9 a] [b] pos) (Zu X.K (NS W cb)):=(xC (xE ha s xF) rfl rfl (by simp) (by simp)).weak (by
 rintro Z H Q ⟨J,B,S,d,S',sr,P,e,y⟩;obtain⟨x,T,e1,f1⟩:=Y8 e;obtain⟨z,S2,e2,K⟩:=Y8 f1;split at K
 .rename_i g hk;cases K;intro p E;obtain⟨s1,G⟩:=sr.other E;refine⟨J,B,S,x,T,s1,P.up G,e1,λv H1 J1 F i r1=>⟨J1,B,T,z,S2,F,(P.up G).up i,e2,λu t N c l r2=>?_⟩⟩;have V:=sr.out E;have R:ZC H p (.dK []) p=Z9 (.dK []):=Xx;have U:=i.fr p _ V R;have n1:=i.notIn V R;have Y:=l.fr p _ n1 U;have n2:=l.notIn n1 U;have ev:=RG hk r1;subst ev;refine⟨Y,[(g,u)],rfl,by simp,?_⟩;have A:TF X.K t (ZC t p (.dK [(g,u)])):=TL Y (λ_ z=>by cases z) (λ_ _ z=>by cases z);have r:=i.trans l c.nd;have h:=G.trans r c.nd;have I:SR X.K (N++[p]) (S2++[.dk [(g,z)]]) (ZC t p (.dK [(g,u)])):=by
   refine⟨by simp[c.len],?_,λn a w j m=>?_⟩
   .rw[qG0];refine⟨c.nd,by simp,λa ha b s=>?_⟩
    grind
   .by_cases hn:n<N.length
    .rw[qA8 hn]at j;rw[qA8 (by rw[<- c.len];exact hn)]at m;exact(c.obj n a w j m).up A ⟨[p],rfl⟩ (YI λz=>n2 (z▸qB5 j))
    .rw[qA1 (by lia)]at j;rw[qA1 (by rw[<- c.len];lia)]at m;have O:=by have:=(qA4.mp j).1;simp at this;omega
     rw[O]at j;rw[<- c.len,O]at m;simp at j m;subst j m;exact⟨[(g,u)],Xx,Y4.cons (RV.up A ⟨[p],rfl⟩ _ _ r2) .nil⟩
  have L:ZI X.K J (N++[p]) H (ZC t p (.dK [(g,u)])):=by
   obtain⟨ν,e4,n⟩:=h.pre;refine⟨⟨ν++[p],by rw[e4,qC3],λb s=>?_⟩,λb o s q=>by rw[YI (UZ q E)];exact h.fr b o s q,h.tk.trans A⟩
   grind
  exact y _ _ _ I L (⟨p,rfl,by rw[<- c.len,qA1 (qA7 _),qH7];rfl⟩)
 .cases K)
def Kr(f:jE->Option C)(c:List (Option jE))(g:yE):Option C:=match c,g with
 |[],[]=>Z9 Rx
 |[Z9 a],[b]=>(f a).bind λe=>(f b).map λd=>NS e d
 |_,_=>Z8
theorem oS(b:Wx X f)(e:Kr f a d=Z9 c):PE X (.Dict a d pos) (Zu X.K c):=by
 unfold Kr at e;split at e
 .cases e;exact oU
 .obtain⟨j,g,e⟩:=qA5.mp e;obtain⟨i,h,e⟩:=qA6.mp e;subst e;exact oT (b _ _ g) (b _ _ h)
 .cases e
def Kq(op:BoolOp)(f:jE->Option C):yE->Option C
 |[]=>Z8
 |[a]=>f a
 |a::b::r=>(f a).bind λd=>(Kq op f (b::r)).map λc=>match op with
  |.And=>Ur d c
  |.Or=>Vg d c
theorem Ko(d:Wx X f):∀{j:yE}{c:C},Kq op f j=Z9 c->PE X (.BoolOp op j pos) (Zu X.K c)
 |[],c,e=>by cases e
 |[a],c,e=>AO (d a c e)
 |a::b::r,c,e=>by
  obtain⟨i,g,e⟩:=qA5.mp e;obtain⟨l,h,e⟩:=qA6.mp e;subst e;cases op with
  |And=>exact ry (d a i g) (Ko d h)
  |Or=>exact rx (d a i g) (Ko d h)
def Qf(X:Cx)(t:jE->Option CT):Prop:=∀e c,t e=Z9 c->PT X e (YM X.K c)
variable {t:jE->Option CT}
def Km(op:BoolOp)(t:jE->Option CT):yE->Option CT
 |[]=>Z8
 |[a]=>t a
 |a::b::r=>(t a).bind λd=>(Km op t (b::r)).map λc=>match op with
  |.And=>SD d c
  |.Or=>Yy d c
theorem Kl(ht:Qf X t):∀{i:yE}{c:CT},Km op t i=Z9 c->PW X (.BoolOp op i pos) (YM X.K c)
 |[],c,e=>by cases e
 |[a],c,e=>by
  cases op with
  |And=>exact AX (ht a c e)
  |Or=>exact AW (ht a c e)
 |a::b::r,c,e=>by
  obtain⟨h,d,e⟩:=qA5.mp e;obtain⟨j,g,e⟩:=qA6.mp e;subst e;cases op with
  |And=>exact rp (ht a h d) (Kl ht g)
  |Or=>exact ro (ht a h d) (Kl ht g)
def VL:jE->Bool
 |.Tuple _ _ _=>Z7
 |_=>Z5
def Ss:jE->Bool
 |.Set _ _ _=>Z7
 |_=>Z5
theorem Kk(h:Ss iter=Z5):∀x,wM iter env x=pure x:=by cases iter<;>first|(intro x;rfl)| cases h
def DX(o:Option (List C))(es:yE):Option CI:=o.bind λa=>match es with
 |[_]=>Z9 (VP (ZR a))
 |[_,_]=>Z9 (KB (ZR a))
 |_=>Z8
def Kj(t:Bool)(o:Option (List C))(es:yE):Option CI:=if t=Z7 then o.bind λa=>match es with
  |[_,_]=>Z9 (RA (ZR a))
  |_=>Z8
 else Z8
def Rw(a:Sc)(ar:Str->yK)(f:jE->Option C)(b iter:jE):Option CI:=if Ss iter then Z8 else match iter with
 |.Call (.Name x _) es [] _=>if a.names.lookup x=Z9 .globalImplicit/\ar x=Z8 then
   (if x=("range":Str)then DX (zA1? f es) es else
    if x=("zip":Str)then Kj (VL b) (zA1? f es) es else
    (f iter).map Zv)
  else(f iter).map Zv
 |_=>(f iter).map Zv
theorem oR(d:Wx X f)(g:Gl X "range")(hm:X.mg "range"=Z8)(e:DX (zA1? f es) es=Z9 c):PI X i (.Call (.Name "range" p) es [] pos) (XZ X.K c):=by
 obtain⟨j,h,e2⟩:=qA5.mp e;clear e;obtain⟨h1,h2⟩:=UR d h
 match es,h1,h2,e2 with
 |[a],h1,h2,e2 =>
  cases e2;exact pz (Aj g hm h1 (by rw[Wy (h2 a (by simp))];rfl))
 |[a,b],h1,h2,e2 =>
  cases e2;exact pq (Ai g hm h1 (by rw[Wy (h2 a (by simp)),Wy (h2 b (by simp))];rfl) (by rw[Wy (h2 b (by simp))];rfl))
 |[],h1,h2,e2=>cases e2
 |_::_::_::_,h1,h2,e2=>cases e2
theorem DW(h:VL a=Z7):∃es k pos,a=.Tuple es k pos:=by cases a<;>first|exact⟨_,_,_,rfl⟩| cases h
theorem oQ(i:Wx X f)(g:Gl X "zip")(hm:X.mg "zip"=Z8)(e:Kj (VL d) (zA1? f es) es=Z9 c):PI X d (.Call (.Name "zip" p) es [] pos) (XZ X.K c):=by
 unfold Kj at e;by_cases ht:VL d=Z7
 .rw[if_pos ht]at e;obtain⟨m,l,pt,rfl⟩:=DW ht;obtain⟨j,h,e2⟩:=qA5.mp e;clear e ht;obtain⟨h1,h2⟩:=UR i h
  match es,h1,h2,e2 with
  |[a,b],h1,h2,e2 =>
   cases e2;exact pj (ve g hm h1 (by rw[Wy (h2 a (by simp)),Wy (h2 b (by simp))];rfl) (by rw[Wy (h2 b (by simp))];rfl))
  |_::_::_::_,h1,h2,e2=>cases e2
  |[],h1,h2,e2=>cases e2
  |[_],h1,h2,e2=>cases e2
 .rw[if_neg ht]at e;cases e
theorem Ki(h:Ys X sc ar cl k)(d:Wx X f)(e:Rw sc ar f b iter=Z9 c):PI X b iter (XZ X.K c)/\Ss iter=Z5:=by
 unfold Rw at e;split at e
 .cases e
 rename_i a;refine⟨?_,by simpa using a⟩;have dflt:∀{c},(f iter).map Zv=Z9 c->PI X b iter (XZ X.K c):=λe=>by obtain⟨n,l,e⟩:=qA6.mp e;subst e;exact pA (d _ _ l)
 split at e
 .rename_i x p m j;split at e
  .rename_i i;have g:=h.gl x i.1;split at e
   .rename_i q;subst q;exact oR d g (h.blt.b _ (by decide) i.2) e
   split at e
   .rename_i q;subst q;exact oQ d g (h.blt.b _ (by decide) i.2) e
   exact dflt e
  .exact dflt e
 .exact dflt e
def NR:yE->Option (yH)
 |[]=>Z9 []
 |.Name x _::r=>(NR r).map (x::·)
 |_::_=>Z8
def NQ:jE->Option (Xk×yH)
 |.Name x _=>Z9 (.one,[x])
 |.Tuple b _ _=>(NR b).map λa=>(.many a.length,a)
 |_=>Z8
def Ww(a:List (Str×j7)):yH:=(a.filter λy=>y.2 == .free).map (·.1)
def slots(N:yH):yH->Option (List Nat)
 |[]=>Z9 []
 |x::r=>(Tp N x 0).bind λj=>(slots N r).map (j::·)
def Kh(xs:yH)(scope:vT):Sc:=⟨xs++Ww scope.names,scope.names,Z8⟩
def compOk(a:Sc)(xs:yH)(scope:vT):Bool :=
 decide (scope.kind=.function)&&scope.names.all (λy=>y.2 != .cell||scope.names.lookup y.1 == Z9 .cell)&&scope.names.all (λy=>y.2 != .local||scope.names.lookup y.1 == Z9 .local)
 && decide ((xs++Ww scope.names).Nodup)&&xs.all (λx=>scope.names.lookup x == Z9 .local||scope.names.lookup x == Z9 .cell)&&decide (1<=xs.length)
 && (Ww scope.names).all (λx=>(a.names.lookup x == Z9 .cell||a.names.lookup x == Z9 .free)&&scope.names.lookup x == Z9 .free)
def Rv(c:Sc)(h:Option CI)(g:Sc->jE->Option C)(i:Sc->jE->Option CT)(j elt:jE)(a:yE)(scope:vT):Option C :=
 (NQ j).bind λp=>if compOk c p.2 scope then(slots c.N (Ww scope.names)).bind λb=>h.bind λd=>(g (Kh p.2 scope) elt).bind λe=>match a with
  |[]=>Z9 (XY d p.2.length b p.1 (λ_=>ret Z7) e)
  |[q]=>(i (Kh p.2 scope) q).map λl=>XY d p.2.length b p.1 l e
  |_=>Z8
 else Z8
theorem DV:∀{xs:yH}{js:List Nat},slots N xs=Z9 js->js.length=xs.length/\∀(i j:Nat),js[i]?=Z9 j->∃x,xs[i]?=Z9 x/\N[j]?=Z9 x
 |[],js,e=>by cases e;exact⟨rfl,λi j h=>by simp at h⟩
 |x::r,js,e=>by
  obtain⟨l,c,e⟩:=qA5.mp e;obtain⟨b,d,e⟩:=qA6.mp e;subst e;obtain⟨a,g⟩:=DV d;refine⟨by simp[a],λi j h=>?_⟩;cases i with
  |zero=>simp at h;subst h;exact⟨x,rfl,(NV c).2⟩
  |succ i =>
   simp_all
theorem NP{env:Env}:∀{a:List (Str×j7)}{x:Str}{k:j7},k≠.free->a.lookup x=Z9 k ->
  (a.map fun(n,k)=>if(k == NameKind.free&&env.scope.kind == .function&&env.kindOf n == Z9 .cell)then(n,NameKind.cell)else(n,k)).lookup x=Z9 k
 |[],_,_,_,h=>by simp at h
 |(n,k')::r,x,k,nf,h=>by
  have d:=@NP env r x k nf;show List.lookup x ((if(k' == NameKind.free&&env.scope.kind == .function&&env.kindOf n == Z9 .cell)=Z7 then(n,NameKind.cell)else(n,k'))::_)=_;cases b:x == n with
  |true =>
   simp only[qE1,b]at h;cases h;have e:=by simpa using nf
   simp[qE1,b,e]
  |false =>
   simp only[qE1,b]at h;by_cases c:(k' == NameKind.free&&env.scope.kind == .function&&env.kindOf n == Z9 .cell)=Z7
   .rw[if_pos c];simp only[qE1,b];exact d h
   .rw[if_neg c];simp only[qE1,b];exact d h
theorem oP{ns:List (Str×j7)}{k:j7}(h:ns.lookup x=Z9 k):(x,k)∈ns:=LR h
theorem Ys.comp(h:Ys X sc ar cl k)(c:compOk sc xs scope=Z7)(b:List (Str×yR))(s:yQ)(H:Hp)(C:yR)(ex:yC):Ys (WW X scope (xs++Ww scope.names) b s H C ex) (Kh xs scope) ar cl k:=by
 unfold compOk at c;simp only[qC8,decide_eq_true_eq]at c;obtain⟨⟨⟨⟨⟨⟨j,m⟩,i⟩,d⟩,e⟩,g⟩,l⟩:=c;exact{
  calm:=h.calm
  N:=rfl
  nd:=d
  gl:=λx a=>NP (by decide) a
  loc:=λx a=>NP (by decide) a
  cel:=λx a=>NP (by decide) a
  fre:=λx a=>Gi a
  fnn:=λz=>by cases z
  room:=h.room
  xe:=rfl
  blt:=h.blt
  fns:=h.fns }
theorem DU:∀{es:yE}{xs:yH},NR es=Z9 xs->es.length=xs.length/\∀(i:Nat) (e:jE),es[i]?=Z9 e->∃x pos,e=.Name x pos/\xs[i]?=Z9 x
 |[],xs,h=>by cases h;exact⟨rfl,λi e h=>by simp at h⟩
 |a::r,xs,h=>by
  cases a with
  |Name x pos =>
   obtain⟨m,g,e⟩:=qA6.mp h;subst e;obtain⟨c,j⟩:=DU g;refine⟨by simp[c],λi e b=>?_⟩;cases i with
   |zero=>simp at b;subst b;exact⟨x,pos,rfl,rfl⟩
   |succ i =>
    obtain⟨y,p,d,l⟩:=j i e b;exact⟨y,p,d,by exact l⟩
  |_=>cases h
theorem oO{es:yE}:jT (.Name x pos::es) env=(Z5,gZ (.Name x pos) env)::jT es env:=rfl
theorem DT:∀{es:yE}{s:Nat},(∀(i:Nat) (e:jE),es[i]?=Z9 e->∃x pos,e=.Name x pos/\X.N[s+i]?=Z9 x/\R0 X.env.scope x/\(X.fn x=Z7∨X.env.scope.names.lookup x=Z9 .local))->X.N.Nodup->V3 X es (NX s es.length)
 |[],s,h,nd=>GY
 |a::r,s,h,nd=>by obtain⟨x,pos,rfl,b,d,j⟩:=h 0 a rfl;refine GX (OP nd (by simpa using b) d j) (DT (λi e l=>?_) nd) rfl;obtain⟨y,p,m,g,c⟩:=h (i+1) e (by exact l);exact⟨y,p,m,by rw[show s+1+i=s+(i+1) by lia];exact g,c⟩
theorem DS:∀{es:yE}{xs:yH},NR es=Z9 xs->(jT es env).length=xs.length/\(jT es env).findIdx? (·.1)=Z8
 |[],xs,h=>by cases h;exact⟨rfl,rfl⟩
 |a::r,xs,h=>by
  cases a with
  |Name x b =>
   obtain⟨i,d,e⟩:=qA6.mp h;subst e;obtain⟨c,g⟩:=DS (env:=env) d;rw[oO];exact⟨by simp[c],by rw[qT0];simp[g]⟩
  |_=>cases h
theorem oN{t:Xk}(e:NQ b=Z9 (t,xs)):VN t=xs.length:=by
 cases b with
 |Name x a=>cases e;rfl
 |Tuple g n a =>
  obtain⟨d,c,e⟩:=qA6.mp e;cases e;rfl
 |_=>cases e
theorem DR(h:Ys b a ar cl k)(g:a.names.lookup x=Z9 .local∨a.names.lookup x=Z9 .cell/\b.fn x=Z7):R0 b.env.scope x/\(b.fn x=Z7∨b.env.scope.names.lookup x=Z9 .local):=by
 rcases g with g|⟨g,f⟩
 .exact⟨.inl (h.loc x g),.inr (h.loc x g)⟩
 .exact⟨.inr (h.cel x g),.inl f⟩
theorem oM(h:Ys c a ar cl k){t:Xk}(e:NQ j=Z9 (t,xs))(q:∀(i:Nat) (x:Str),xs[i]?=Z9 x->a.N[i]?=Z9 x/\(a.names.lookup x=Z9 .local∨a.names.lookup x=Z9 .cell/\c.fn x=Z7)):PG c j (tOfT' c.K t)/\VN t=xs.length:=by
 have r:c.N.Nodup:=by rw[h.N];exact h.nd
 cases j with
 |Name x b =>
  cases e;obtain⟨l,d⟩:=q 0 x rfl;obtain⟨m,o⟩:=DR h d;exact⟨OP r (by rw[h.N];exact l) m o,rfl⟩
 |Tuple z n b =>
  obtain⟨A,p,e⟩:=qA6.mp e;cases e;obtain⟨w,s⟩:=DS p;obtain⟨v,u⟩:=DU p;refine⟨?_,rfl⟩;have:=DT (λi e y=>by
   obtain⟨x,b,rfl,g⟩:=u i e y;obtain⟨l,d⟩:=q i x g;obtain⟨m,o⟩:=DR h d;exact⟨x,b,rfl,by rw[h.N,qO4];exact l,m,o⟩) r
  rw[v]at this;exact GW h.calm this w s
 |_=>cases e
theorem DQ(h:Ys X sc ar cl k)(d:compOk sc xs scope=Z7)(n:slots sc.N (Ww scope.names)=Z9 js):RQ X scope (xs++Ww scope.names) xs.length js:=by
 obtain⟨w,B⟩:=DV n;unfold compOk at d;simp only[qC8,decide_eq_true_eq]at d;obtain⟨⟨⟨⟨⟨⟨v,E⟩,A⟩,H⟩,G⟩,I⟩,p⟩:=d;have b:=λx a=>by
  have e:x∈Ww scope.names:=by unfold Ww;rw[qB9];exact⟨(x,.free),by rw[qF1];exact⟨a,by simp⟩,rfl⟩
  have:=qD5.mp p x e;simpa using this
 refine⟨h.calm,v,λx a=>?_,λx a=>?_,λx a g=>?_,?_,λi j s=>?_⟩
 .have:=qD5.mp E _ a;simpa using this
 .rcases(b x a).1 with q|q
  .exact .inl (h.cel x q)
  .exact h.fre x q
 .have:=qD5.mp A x a;simp only[qG6,bne_iff_ne,beq_iff_eq]at this;rcases this with z|z
  .exact absurd g z
  .exact z
 .rw[qC2,w]
 .obtain⟨x,l,o⟩:=B i j s;have e:(x,NameKind.free)∈scope.names:=by
   have:=qB5 l;unfold Ww at this;rw[qB9]at this;obtain⟨⟨y,F⟩,c,m⟩:=this;rw[qF1]at c;dsimp only at m;subst m;have:=by simpa using c.2
   subst this;exact c.1
  obtain⟨r,u⟩:=b x e;refine⟨x,?_,by rw[h.N];exact o,u,h.vis (.inr r)⟩;rw[qA1 (by lia),qM2];exact l
theorem DP(h:Ys X sc ar cl k){t:Xk}(b:compOk sc xs scope=Z7)(g:NQ d=Z9 (t,xs))(a:List (Str×yR))(s:yQ)(H:Hp)(C:yR)(ex:yC):PG (WW X scope (xs++Ww scope.names) a s H C ex) d (tOfT' X.K t) :=
 (oM (h.comp b a s H C ex) g λi x c=>by
  unfold compOk at b;simp only[qC8]at b;have e:=b.1.1.2;have j:=(qA4.mp c).1;refine⟨?_,?_⟩
  .show(xs++Ww scope.names)[i]?=Z9 x;rw[qA8 j];exact c
  .have:=qD5.mp e x (qB5 c);rw[qG6,beq_iff_eq,beq_iff_eq]at this;rcases this with z|z
   .exact .inl z
   .exact .inr ⟨z,decide_eq_true (oP z)⟩).1
inductive oK(X:Cx)(sc:Sc)(tg iter elt:jE)(ifs:yE)(scope:vT)(c:C):Prop
 |mk (t:Xk) (xs:yH) (js:List Nat) (ci:CI) (ct:CT) (ce:C) (BB:RQ X scope (xs++Ww scope.names) xs.length js) (hi:PI X tg iter (XZ X.K ci)) (hs:Ss iter=Z5)
  (hg:∀cl' s H C ex,PG (WW X scope (xs++Ww scope.names) cl' s H C ex) tg (tOfT' X.K t)) (hT:∀cl' s H C ex,SU (WW X scope (xs++Ww scope.names) cl' s H C ex) ifs (YM X.K ct))
  (hE:∀cl' s H C ex,PE (WW X scope (xs++Ww scope.names) cl' s H C ex) elt (Zu X.K ce)) (ht:VN t<=xs.length) (h1:1<=xs.length) (hc:c=XY ci xs.length js t ct ce)
theorem DO(h:Ys X sc ar cl k){R:Option CI}(e:Rv sc R L F u elt j scope=Z9 c)
  (hi:∀l,R=Z9 l->PI X u iter (XZ X.K l)/\Ss iter=Z5) (x:∀n a,Ys n a ar cl k->Wx n (L a)) (w:∀n a,Ys n a ar cl k->Qf n (F a)):oK X sc u iter elt j scope c:=by
 obtain⟨⟨t,o⟩,z,e⟩:=qA5.mp e;dsimp only at e;by_cases g:compOk sc o scope=Z7
 .rw[if_pos g]at e;obtain⟨O,E,U⟩:=qA5.mp e;obtain⟨l,e2,A⟩:=qA5.mp U;obtain⟨v,Y,p⟩:=qA5.mp A;clear e U A;obtain⟨V,P⟩:=hi l e2;have T:=by have i:=g;unfold compOk at i;simp only[qC8,decide_eq_true_eq]at i;exact i.1.2
  have N:=λb s H C ex=>x _ _ (h.comp g b s H C ex) elt v Y;have ht:VN t<=o.length:=by rw[oN z];exact qA7 _
  cases j with
  |nil =>
   cases p;exact⟨t,o,O,l,_,v,DQ h g E,V,P,DP h g z,λb s H C ex m s' Z K Q I ⟨J,B,S,d,S',sr,re,e,y⟩=>xw m s' Z K Q I (by obtain⟨rfl,rfl⟩:=Yb e;exact y K J sr (ZI.refl _ _ _)),N,ht,T,rfl⟩
  |cons q r =>
   cases r with
   |nil =>
    obtain⟨G,e4,W⟩:=qA6.mp p;exact⟨t,o,O,l,G,v,DQ h g E,V,P,DP h g z,λb s H C ex=>xv (w _ _ (h.comp g b s H C ex) q G e4),N,ht,T,W.symm⟩
   |cons _ _=>cases p
 .simp_all
theorem oJ(h:Ys X sc ar cl k)(e:Rv sc o n m i elt b scope=Z9 c)
  (hi:∀g,o=Z9 g->PI X i iter (XZ X.K g)/\Ss iter=Z5) (j:∀d a,Ys d a ar cl k->Wx d (n a)) (l:∀d a,Ys d a ar cl k->Qf d (m a)):PE X (.ListComp elt [⟨i,iter,b,0⟩] scope pos) (Zu X.K c):=by obtain⟨t,B,A,g,y,z,r,x,v,w,s,u,ht,p,rfl⟩:=DO h e hi j l;exact(xr r x w s u (Kk v)).weak fun Z H Q q=>Eg ht p q
theorem oI(h:Ys X sc ar cl k){d:yE}(l:PG X (.Name p pos') u)(o:fL (.ListComp elt [⟨i,iter,d,0⟩] scope pos) (Z9 (.Name p pos')) b.line X.env=pure Z7)(e:Rv sc v s r i elt d scope=Z9 c)
  (hi:∀j,v=Z9 j->PI X i iter (XZ X.K j)/\Ss iter=Z5) (m:∀g a,Ys g a ar cl k->Wx g (s a)) (n:∀g a,Ys g a ar cl k->Qf g (r a)):PS X (.Assign [.Name p pos'] (.ListComp elt [⟨i,iter,d,0⟩] scope pos) b) (Vs (Zu X.K c) u):=by obtain⟨t,J,I,j,F,G,x,E,A,B,y,z,ht,w,rfl⟩:=DO h e hi m n;exact(vd l o x E B y z (Kk A)).weak λD Z H q=>Eg ht w q
end
section
variable (ar:Str->yK) (cl:Str->yM->M D)
mutual
noncomputable def cE:Nat->Sc->jE->Option C
 |0,_,_=>Z8
 |n+1,sc,e=>match e with
  |.Constant v _ _=>Ea v
  |.Name x _=>Kx sc ar x
  |.BinOp a h b _=>(D9 h).bind λo=>(cE n sc a).bind λc=>(cE n sc b).map λp=>ZU o c p
  |.UnaryOp h a _=>match h with
   |.USub=>(cE n sc a).map λc=>Vh XG c
   |.Not=>(cE n sc a).map λc=>Qq c
   |_=>Z8
  |.BoolOp h r _=>Kq h (cE n sc) r
  |.IfExp t a b _=>(cT n sc t).bind λu=>(cE n sc a).bind λc=>(cE n sc b).map λp=>TJ u c p
  |.Compare a q bs _=>Qg (cE n sc) a q bs
  |.Tuple f _ _=>(zA1? (cE n sc) f).bind λj=>if j.length<=1000 then Z9 (Ze (ZR j))else Z8
  |.List f _=>(zA1? (cE n sc) f).bind λj=>if j.length<=1000 then Z9 (YL (ZR j))else Z8
  |.Subscript a b _=>Su (cE n sc) a b
  |.Dict w r _=>Kr (cE n sc) w r
  |.Call s f kw i=>match kw with
   |[]=>match s with
    |.Name x _=>Kt sc ar cl (cE n sc) x f
    |.Attribute o m k=>Ks (cE n sc) o m f k i
    |_=>Z8
   |_::_=>Z8
  |.ListComp l g d _=>match g with
   |[⟨tg,iter,ifs,ia⟩]=>if ia=0 then Rv sc (Rw sc ar (cE n sc) tg iter) (cE n) (cT n) tg l ifs d else Z8
   |_=>Z8
  |_=>Z8
noncomputable def cT:Nat->Sc->jE->Option CT
 |0,_,_=>Z8
 |n+1,sc,e=>match e with
  |.UnaryOp c a _=>match c with
   |.Not=>(cT n sc a).map λd=>Wp d
   |_=>(cE n sc e).map Y7
  |.BoolOp c f _=>Km c (cT n sc) f
  |.IfExp _ _ _ _=>Z8
  |.Compare a b bs _=>Ku (cE n sc) a b bs
  |_=>(cE n sc e).map Y7
end
end
section
variable {X:Cx}{sc:Sc}{ar:Str->yK}{cl:Str->yM->M D}{k:Nat}
theorem Ru:∀n:Nat,(∀X i,Ys X i ar cl k->Wx X (cE ar cl n i))/\(∀X i,Ys X i ar cl k->Qf X (cT ar cl n i))
 |0=>⟨λX i h e c q=>(by cases q),λX i h e c q=>(by cases q)⟩
 |n+1=>by
  obtain⟨z,w⟩:=Ru n;refine⟨λX i h e c q=>?_,λX i h e c q=>?_⟩
  .have f:=z X i h;have ht:=w X i h;cases e with
   |Constant v j d=>exact o7 q
   |Name x d=>exact o8 h q
   |BinOp a B b d =>
    obtain⟨o,J,r⟩:=qA5.mp q;obtain⟨E,l,u⟩:=qA5.mp r;obtain⟨cb,K,G⟩:=qA6.mp u;subst G;exact rE (Kw J) (f _ _ l) (f _ _ K)
   |UnaryOp B a d =>
    cases B with
    |USub =>
     obtain⟨E,l,u⟩:=qA6.mp q;subst u;exact rz qL (f _ _ l)
    |Not =>
     obtain⟨E,l,u⟩:=qA6.mp q;subst u;exact rr (f _ _ l)
    |_=>cases q
   |BoolOp B T d=>exact Ko f q
   |IfExp t a b d =>
    obtain⟨ct,J,r⟩:=qA5.mp q;obtain⟨E,l,u⟩:=qA5.mp r;obtain⟨cb,K,G⟩:=qA6.mp u;subst G;exact rq (ht _ _ J) (f _ _ l) (f _ _ K)
   |Compare a I bs d=>exact o4 h.room f q
   |Tuple P j d =>
    obtain⟨Z,l,r⟩:=qA5.mp q;split at r
    .rename_i H;cases r;exact ri (UR f l).1 H
    .cases r
   |List P d =>
    obtain⟨Z,l,r⟩:=qA5.mp q;split at r
    .rename_i H;cases r;exact rh (UR f l).1 H
    .cases r
   |Subscript a b d=>exact o5 h.room f q
   |Dict ks T d=>exact oS f q
   |Call U P kw R =>
    cases kw with
    |cons _ _=>cases q
    |nil =>
     cases U with
     |Name x p=>exact oW h f q
     |Attribute o m S=>exact oV h.room f q
     |_=>cases q
   |ListComp F C A d =>
    cases C with
    |nil=>cases q
    |cons g V =>
     obtain⟨Q,iter,N,Y⟩:=g;cases V with
     |cons _ _=>cases q
     |nil =>
      change (if Y=0 then Rv i (Rw i ar (cE ar cl n i) Q iter) (cE ar cl n) (cT ar cl n) Q F N A else Z8)=Z9 c at q;split at q
      .rename_i W;subst W;exact oJ h q (λci e=>Ki h f e) (λL y O=>z L y O) (λL y O=>w L y O)
      .cases q
   |_=>cases q
  .have f:=z X i h;have ht:=w X i h;have dflt:∀{c:CT},(cE ar cl n i e).map Y7=Z9 c->(∀s,uI e X.env s=(do let v <- s;dS e.pos;fB [v] (truthy v)))->PT X e (YM X.K c):=λ{c} q he=>by obtain⟨E,l,u⟩:=qA6.mp q;subst u;exact rk (f _ _ l) he
   cases e with
   |UnaryOp B a d =>
    cases B with
    |Not =>
     obtain⟨E,l,u⟩:=qA6.mp q;subst u;exact rn (ht _ _ l)
    |USub=>exact dflt q λ_=>rfl
    |UAdd=>exact dflt q λ_=>rfl
    |Invert=>exact dflt q λ_=>rfl
   |BoolOp B T d=>exact(Kl ht q).pt
   |IfExp t a b d=>cases q
   |Compare a I bs d=>exact o3 h.room f q
   |_=>exact dflt q λ_=>rfl
section
variable (ar:Str->yK) (cl:Str->yM->M D)
def DN(a:Sc)(x:Str):Option G:=(Tp a.N x 0).bind λi=>if a.names.lookup x=Z9 .local∨(a.fn.isSome=Z7/\a.names.lookup x=Z9 .cell)then Z9 (gN i)else Z8
mutual
noncomputable def cG:Nat->Sc->jE->Option G
 |0,_,_=>Z8
 |n+1,sc,e=>match e with
  |.Name x _=>DN sc x
  |.Subscript a b _=>match b with
   |_=>if Qh b then Z8 else(cE ar cl n sc a).bind λf=>(cE ar cl n sc b).map λc=>gS f c
  |.Tuple g _ _=>(cGs n sc g).map λd=>gT d
  |_=>Z8
noncomputable def cGs:Nat->Sc->yE->Option (List G)
 |0,_,_=>Z8
 |n+1,sc,es=>match es with
  |[]=>Z9 []
  |e::r=>if Wz e then(cG n sc e).bind λg=>(cGs n sc r).map λa=>g::a else Z8
end
end
theorem Ys.nd'(h:Ys X sc ar cl k):X.N.Nodup:=by rw[h.N];exact h.nd
theorem Qe(h:Ys X sc ar cl k)(e:DN sc x=Z9 g):∃i,g=gN i/\X.N[i]?=Z9 x/\R0 X.env.scope x/\(X.fn x=Z7∨X.env.scope.names.lookup x=Z9 .local):=by
 obtain⟨i,b,a⟩:=qA5.mp e;split at a
 .rename_i c;cases a;refine⟨i,rfl,by rw[h.N];exact(NV b).2,?_⟩;rcases c with q|⟨f,d⟩
  .exact⟨.inl (h.loc x q),.inr (h.loc x q)⟩
  .exact⟨.inr (h.cel x d),.inl (h.fnn f x)⟩
 .cases a
theorem oH(h:Qh b=Z5):∀v,gZ (.Subscript a b pos) env v=(do
   let ov <- fB [v] (v7 a env)
   let iv <- fB [v,ov] (v7 b env)
   dS pos
   fB [v,ov,iv] (uN ov iv v)
   release [v,ov,iv] []):=by cases b<;>first|(intro v;rfl)| cases h
theorem Kg{es:yE}(h:Wz e=Z7):jT (e::es) env=(Z5,gZ e env)::jT es env:=by cases e<;>first|rfl|cases h
theorem DM:∀n:Nat,(∀X d,Ys X d ar cl k->∀e g,cG ar cl n d e=Z9 g->PG X e (WJ X.K g))/\(∀X d,Ys X d ar cl k->∀es f,cGs ar cl n d es=Z9 f->V3 X es (Qj X.K f)/\(jT es X.env).length=f.length/\(jT es X.env).findIdx? (·.1)=Z8)
 |0=>⟨λX d h e c q=>(by cases q),λX d h e c q=>(by cases q)⟩
 |n+1=>by
  obtain⟨D,t⟩:=DM n;refine⟨λX d h e g q=>?_,λX d h es f q=>?_⟩
  .cases e with
   |Name x l =>
    obtain⟨i,rfl,m,s,u⟩:=Qe h q;exact pP (OP h.nd' m s u)
   |Subscript a b l =>
    change (if Qh b then Z8 else(cE ar cl n d a).bind λB=>(cE ar cl n d b).map λC=>gS B C)=_ at q;split at q
    .cases q
    .rename_i v;obtain⟨B,o,p⟩:=qA5.mp q;obtain⟨C,z,w⟩:=qA6.mp p;subst w;exact pO (Gu h.room) ((Ru n).1 X d h _ _ o) ((Ru n).1 X d h _ _ z) (oH (by simpa using v))
   |Tuple es j l =>
    obtain⟨f,o,p⟩:=qA6.mp q;subst p;obtain⟨m,s,u⟩:=t X d h es f o;exact pK h.calm m s u
   |_=>cases q
  .cases es with
   |nil=>cases q;exact⟨pN,rfl,rfl⟩
   |cons e r =>
    change (if Wz e=Z7 then(cG ar cl n d e).bind λg=>(cGs ar cl n d r).map λf=>g::f else Z8)=_ at q;split at q
    .rename_i v;obtain⟨g,o,p⟩:=qA5.mp q;obtain⟨A,z,w⟩:=qA6.mp p;subst w;obtain⟨m,s,u⟩:=t X d h r A z;have y:=Kg (es:=r) (env:=X.env) v;refine⟨pM (D X d h e g o) m (by rw[y];rfl),by rw[y];simp[s],by rw[y,qT0];simp[u]⟩
    .cases q
def Qd:jE->Bool
 |.ListComp _ _ _ _=>Z7
 |.SetComp _ _ _ _=>Z7
 |.DictComp _ _ _ _ _=>Z7
 |_=>Z5
theorem DK(h:Qd e=Z5):fL e t n env=pure Z5:=by cases e<;>first|rfl|cases h
def Kf:jE->jE->Bool
 |.Name _ _,.ListComp _ _ _ _=>Z5
 |.Tuple _ _ _,.ListComp _ _ _ _=>Z5
 |_,e=>Qd e
theorem oG(h:Ys X sc ar cl k):∀{n:Nat}{elt:jE}{gens:List dL}{scope:vT}{pos pos' a:Pos}{x:Str}{c:C}{i:Nat} (q:cE ar cl n sc (.ListComp elt gens scope pos)=Z9 c) (f:PG X (.Name x pos') (Ta i))
  (j:fL (.ListComp elt gens scope pos) (Z9 (.Name x pos')) a.line X.env=pure Z7),PS X (.Assign [.Name x pos'] (.ListComp elt gens scope pos) a) (Vs (Zu X.K c) (Ta i))
 |0,_,_,_,_,_,_,_,_,_,q,_,_=>by cases q
 |n+1,elt,gens,scope,pos,pos',a,x,c,i,q,f,j=>by
  obtain⟨d,l⟩:=Ru (ar:=ar) (cl:=cl) (k:=k) n;cases gens with
  |nil=>cases q
  |cons g s =>
   obtain⟨r,iter,m,u⟩:=g;cases s with
   |cons _ _=>cases q
   |nil =>
    change (if u=0 then Rv sc (Rw sc ar (cE ar cl n sc) r iter) (cE ar cl n) (cT ar cl n) r elt m scope else Z8)=Z9 c at q;split at q
    .rename_i t;subst t;exact oI h f j q (λv e=>Ki h (d X sc h) e) (λo b p=>d o b p) (λo b p=>l o b p)
    .cases q
theorem oF:∃b:Bool,fL (.ListComp elt gens scope pos) (Z9 (.Name x pos')) line env=pure b:=⟨_,rfl⟩
inductive CB(tg e:jE):Prop
 |no (h:∀n env,fL e (Z9 tg) n env=pure Z5)
 |yes (x:Str) (pos':Pos) (elt:jE) (gens:List dL) (scope:vT) (pos:Pos) (h1:tg=.Name x pos') (h2:e=.ListComp elt gens scope pos)
theorem CB.of(h:Qd e=Z5):CB a e:=.no λ_ _=>DK h
theorem oE(h:Kf g e=Z5):CB g e:=by
 cases g with
 |Name x f =>
  cases e with
  |ListComp d b a c=>exact .yes x f d b a c rfl rfl
  |_=>exact .of h
 |Tuple i k c =>
  cases e with
  |ListComp d b a c=>exact .no λ_ _=>rfl
  |_=>exact .of h
 |_=>exact .of h
def NO:jE->Bool
 |.List _ _=>Z7
 |_=>Z5
theorem DJ(h:(VL a&&VL e)=Z5)(d:NO a=Z5):wQ [a] e env=pure Z8:=by
 cases a with
 |Tuple c n b=>cases e<;>first|rfl|cases h
 |List c b=>cases d
 |_=>rfl
def Rt(a:Sc):jE->Bool
 |.Tuple [.Name x _,.Name y _] _ _=>a.names.lookup x == Z9 .cell||a.names.lookup y == Z9 .cell
 |_=>Z5
theorem oD(h:Rt sc c=Z7):∃x a y b k pos,c=.Tuple [.Name x a,.Name y b] k pos/\(sc.names.lookup x=Z9 .cell∨sc.names.lookup y=Z9 .cell):=by
 unfold Rt at h;split at h
 .rename_i x a y b k pos;simp only[qG6,beq_iff_eq]at h;exact⟨x,a,y,b,k,pos,rfl,h⟩
 .cases h
theorem oB{f:yE}(h:env.scope.names.lookup x=Z9 .cell∨env.scope.names.lookup y=Z9 .cell):wQ [.Tuple [.Name x c,.Name y b] k pos] (.Tuple f k2 a) env=pure Z8:=by
 have g:(([Expr.Name x c,Expr.Name y b].filterMap λe=>match e with
  |.Name id p=>if(env.kindOf id == Z9 NameKind.local&&p.line == (([Expr.Name x c,Expr.Name y b].head?.map (·.pos.line)).getD 0))=Z7 then Z9 id else Z8
  | _=>Z8).length != 2)=Z7:=by
  have i:env.kindOf x=env.scope.names.lookup x:=rfl;have j:env.kindOf y=env.scope.names.lookup y:=rfl;have d:(Z9 NameKind.cell == Z9 NameKind.local)=Z5:=by decide
  rcases h with h|h
  .simp only[qJ6,qT1,i,h,d,qR8,qM0,if_false];split<;>rfl
  .simp only[qJ6,qT1,j,h,d,qR8,qM0,if_false];split<;>rfl
 unfold wQ;simp only[pure_bind];split
 .rfl
 .split
  .rfl
  .rw[if_pos];rw[qG6];exact .inl g
theorem DI(h:Ys X sc ar cl k)(d:(VL a&&VL e&&!Rt sc a)=Z5)(f:NO a=Z5):wQ [a] e X.env=pure Z8:=by
 cases c:Rt sc a with
 |false =>
  rw[c]at d;exact DJ (by simpa using d) f
 |true =>
  cases g:VL e with
  |false=>exact DJ (by rw[g];simp) f
  |true =>
   obtain⟨o,k2,j,rfl⟩:=DW g;obtain⟨x,m,y,n,l,i,rfl,b⟩:=oD c;exact oB (b.imp (h.cel x) (h.cel y))
def oA(a:Sc)(t v:jE×jE)(n:Str×Str):Option (Nat×Nat×jE×jE) :=
 if n.1≠n.2/\a.names.lookup n.1=Z9 .local/\a.names.lookup n.2=Z9 .local/\t.1.pos.line=t.2.pos.line/\Wz v.1=Z7/\Wz v.2=Z7/\([v.1,v.2].all (foldedForSure 8))=Z5/\([v.1,v.2].all (constantsAlone 8))=Z5 then
  (Tp a.N n.1 0).bind λi=>(Tp a.N n.2 0).map λj=>(i,j,v.1,v.2)
 else Z8
def U7:Nat:=100000
section
variable (ar:Str->yK) (cl:Str->yM->M D)
mutual
noncomputable def DH:Nat->Sc->wG->Option CS
 |0,_,_=>Z8
 |n+1,sc,s=>match s with
  |.Return v _=>match v with
   |none=>Z9 KD
   |some e=>(cE ar cl n sc e).map λc=>ZM c
  |.Expr e _=>if Qd e then Z8 else(cE ar cl n sc e).map λc=>WA c
  |.Assign j e _=>match j with
   |[h] =>
    if Kf h e||(VL h&&VL e&&!Rt sc h)||NO h||!Wz h then Z8 else(cE ar cl n sc e).bind λc=>(cG ar cl n sc h).map λg=>ZE c g
   |_=>Z8
  |.If t a b _=>(cT ar cl n sc t).bind λk=>(cSts n sc a).bind λo=>(cSts n sc b).map λi=>YF k o i
  |.For h m d f _=>match f with
   |[]=>(Rw sc ar (cE ar cl n sc) h m).bind λp=>(cG ar cl n sc h).bind λg=>(cSts n sc d).map λi=>Zd p g i
   |_::_=>Z8
  |.While t d f _=>match f with
   |[]=>(cT ar cl n sc t).bind λk=>(cSts n sc d).map λi=>Wg U7 k i
   |_::_=>Z8
  |.Pass _=>Z9 ZL
  |.Break _=>Z9 Sx
  |.Continue _=>Z9 Sw
  |.Raise _ _ _=>Z9 U9
  |.Try d l f fin _=>match l,f,fin with
   |_::_,[],[]=>cSts n sc d
   |_,_,_=>Z8
  |_=>Z8
noncomputable def cSts:Nat->Sc->List wG->Option CS
 |0,_,_=>Z8
 |n+1,sc,ss=>match ss with
  |[]=>Z9 ZL
  |s::r=>(DH n sc s).bind λc=>(cSts n sc r).map λd=>ZV c d
end
end
inductive oz(sc:Sc)(tg e:jE)(r:Nat×Nat×jE×jE):Prop
 |mk (x y:Str) (px py pt pt2:Pos) (kt k2:Nat) (v1 v2:jE) (h1:tg=.Tuple [.Name x px,.Name y py] kt pt) (h2:e=.Tuple [v1,v2] k2 pt2) (hp:oA sc (.Name x px,.Name y py) (v1,v2) (x,y)=Z9 r)
theorem DG(h:Ys X sc ar cl k):m8 (yV X.prog X.w) X.A X.env X.xe:=by rw[h.xe];exact PassesOwn.never
theorem Qc:∀n:Nat,(∀X d,Ys X d ar cl k->∀s c,DH ar cl n d s=Z9 c->PS X s (Y6 X c))/\(∀X d,Ys X d ar cl k->∀s c,cSts ar cl n d s=Z9 c->XB X s (Y6 X c))
 |0=>⟨λX d h e c q=>(by cases q),λX d h e c q=>(by cases q)⟩
 |n+1=>by
  obtain⟨O,l⟩:=Qc n;refine⟨λX d h s c q=>?_,λX d h ss c q=>?_⟩
  .have y:=(Ru n).1 X d h;have ht:=(Ru n).2 X d h;have F:=(DM n).1 X d h;cases s with
   |Return v pos =>
    cases v with
    |none=>cases q;exact pV
    |some e =>
     obtain⟨H,f,j⟩:=qA6.mp q;subst j;exact pU (y _ _ f)
   |Expr e pos =>
    change (if Qd e=Z7 then Z8 else(cE ar cl n d e).map λc=>WA c)=Z9 c at q;split at q
    .cases q
    .rename_i B;obtain⟨H,f,j⟩:=qA6.mp q;subst j;exact pT (y _ _ f) (DK (by simpa using B))
   |Assign D e pos =>
    cases D with
    |nil=>cases q
    |cons u r =>
     cases r with
     |cons _ _=>cases q
     |nil =>
      change (if Kf u e||(VL u&&VL e&&!Rt d u)||NO u||!Wz u then Z8 else(cE ar cl n d e).bind λc=>(cG ar cl n d u).map λg=>ZE c g)=Z9 c at q;split at q
      .cases q
      .rename_i B;simp only[qG6,not_or,qL3,qJ5,Bool.not_eq_false]at B;obtain⟨⟨⟨C,E⟩,L⟩,K⟩:=B;obtain⟨H,f,j⟩:=qA5.mp q;obtain⟨g,m,w⟩:=qA6.mp j;subst w;rcases oE C with C|⟨x,R,elt,gens,scope,N,rfl,rfl⟩
       .refine Eo (y _ _ f) (F _ _ m) (C _ _) (DI h E L) ?_;rw[Kg (by simpa using K)];rfl
       .obtain⟨b,J⟩:=oF (elt:=elt) (gens:=gens) (scope:=scope) (pos:=N) (pos':=R) (x:=x) (line:=pos.line) (env:=X.env);cases b with
        |false=>exact Eo (y _ _ f) (F _ _ m) J (DI h E L) (by rw[Kg (by simpa using K)];rfl)
        |true =>
         cases n with
         |zero=>cases m
         |succ n =>
          obtain⟨i,rfl,M,Q,T⟩:=Qe h m;exact pJ (oG h f (OP h.nd' M Q T) J)
   |If t a b pos =>
    obtain⟨P,A,j⟩:=qA5.mp q;obtain⟨W,f,w⟩:=qA5.mp j;obtain⟨I,m,z⟩:=qA6.mp w;subst z;exact pQ (ht _ _ A) (l X d h _ _ f) (l X d h _ _ m)
   |For u Z p o pos =>
    cases o with
    |cons _ _=>cases q
    |nil =>
     obtain⟨Y,A,j⟩:=qA5.mp q;obtain⟨g,f,w⟩:=qA5.mp j;obtain⟨I,m,z⟩:=qA6.mp w;subst z;obtain⟨U,S⟩:=Ki h y A;exact pG (DG h) h.calm U (F _ _ f) (l X d h _ _ m) (Kk S)
   |While t p o pos =>
    cases o with
    |cons _ _=>cases q
    |nil =>
     obtain⟨P,A,j⟩:=qA5.mp q;obtain⟨I,m,z⟩:=qA6.mp j;subst z;exact pI U7 (DG h) (ht _ _ A) (l X d h _ _ m)
   |Pass pos=>cases q;exact p4
   |Break pos=>cases q;exact pZ
   |Continue pos=>cases q;exact pY
   |Raise a b pos=>cases q;exact pX
   |Try p G o fin pos =>
    cases G with
    |nil=>cases q
    |cons V G=>cases o with
     |cons _ _=>cases q
     |nil=>cases fin with
      |cons _ _=>cases q
      |nil=>exact pW h.xe (l X d h _ _ q)
   |_=>cases q
  .cases ss with
   |nil=>cases q;exact pS
   |cons s r =>
    obtain⟨C,f,j⟩:=qA5.mp q;obtain⟨E,m,w⟩:=qA6.mp j;subst w;exact pR (O X d h _ _ f) (l X d h _ _ m)
def Yn(n:Nat)(ds:yM):ZS:=ds.map Z9++qM4 (n - ds.length) Z8
def Zz(f e:Nat)(b:CS):yM->M D:=λds S=>if ds.length=f then(match b (Yn e ds) S with
 |.nx _ a=>.ok .non a
 |.rt d a=>.ok d a
 |.er c a=>.er c a
 | _=>.bad)else .bad
theorem RVs.begins{K:yS}{ds:yM}(r:RVs K H J ds b):RE K H J (Yn N.length ds) (start N b):=by
 unfold Yn start;refine⟨by simp[r.len],λi d e=>?_⟩;by_cases a:i<ds.length
 .rw[qA8 (by simpa using a),qB1]at e;rw[qA8 (by rw[qA0,<- r.len];exact a),qB1];cases q:ds[i]? with
  |none=>rw[q]at e;cases e
  |some g =>
   rw[q]at e;cases e;obtain⟨v,c,f⟩:=r.get q;exact⟨v,by rw[c];rfl,f⟩
 .rw[qA1 (by simpa using a),qJ7]at e;split at e<;>cases e
def W0(N ps:yH)(scope:vT):Bool :=
 decide (scope.kind=.function)&&!scope.isCoroutine&&!scope.isGenerator&&decide N.Nodup&&decide (N.take ps.length=ps)&&ps.all (λx=>scope.names.lookup x == Z9 .local||scope.names.lookup x == Z9 .cell)&&scope.names.all (λy=>y.2 != .free)
theorem oy(h:W0 N ps scope=Z7):OM N ps scope:=by
 unfold W0 at h;simp only[qC8,decide_eq_true_eq,qJ5]at h;obtain⟨⟨⟨⟨⟨⟨e,j⟩,d⟩,g⟩,a⟩,c⟩,i⟩:=h;refine⟨e,j,d,g,a,λx b=>?_,λy f=>?_⟩
 .have:=qD5.mp c x b;simpa using this
 .have:=qD5.mp i y f;simpa using this
theorem Qb{K:yS}{st:wG}(F:Vp K x x st l p)
  (hs:W0 N ps (XT st)=Z7) (u:cSts ar cl a ⟨N,(XT st).names,Z9 x⟩ (WQ st)=Z9 b)
  (v:U8 ar g)
  (q:∀y n,ar y=Z9 n->(∃ps,RO P w K g base y ps k (Xt K (cl y) n))/\∀ds S d S',cl y ds S=.ok d S'->ds.length=n):X7 P w K g base UW (k+1) l p ps (Xt K (Zz ps.length N.length b) ps.length):=by
 have S:=oy hs;refine F.ok (k:=k) S (λO H Q E h=>h.1) (λj A f s H O Q E D h=>?_);obtain⟨R,J,ds,z,d,S',L,C,e,y⟩:=h;have M:Ys (Wv UW P w K g base N x (XT st) l j A f s H E).nox ⟨N,(XT st).names,Z9 x⟩ ar cl k:={
  calm:=rfl
  N:=rfl
  nd:=S.nd
  gl:=λx c=>c
  loc:=λx c=>c
  cel:=λx c=>c
  fre:=λx c=>.inr c
  fnn:=λ_ x=>rfl
  room:=D
  xe:=rfl
  blt:=v
  fns:=q }
 refine⟨_,(Qc a).2 _ _ M _ _ u,J,Yn N.length ds,z,L,C.begins,?_⟩;unfold Zz at e;split at e
 .split at e
  .rename_i B I o;cases e;rw[o];exact fun U t r i m G=>y _ t r i m Tw
  .rename_i T I o;cases e;rw[o];exact y
  .cases e
  .cases e
 .cases e
theorem ox{K:yS}{c:Str->yF}{st:wG}(F:Vp K x x st e f)(m:c x=Z9 (.ref e))(j:UD K f ps [])
  (hs:W0 N ps (XT st)=Z7) (h:cSts ar cl a ⟨N,(XT st).names,Z9 x⟩ (WQ st)=Z9 b)
  (i:U8 ar c)
  (g:∀y n,ar y=Z9 n->(∃ps,RO P w K c base y ps k (Xt K (cl y) n))/\∀ds S d S',cl y ds S=.ok d S'->ds.length=n):RO P w K c base x ps (k+1) (Xt K (Zz ps.length N.length b) ps.length) :=
 ⟨e,f,Qb F hs h i g,j,F.kp,m⟩
end
abbrev ZQ:=Str->yM->M D
abbrev Uh:=List (Str×(Nat×Nat×(ZQ->CS)))
def To(tbl:Uh)(x:Str):yK:=(tbl.lookup x).map (·.1)
def Ke:yH:=["_law_tree_right","fewest_tree","tree_function","net_of","contacts_of","is_tree","against","inside_out","other_ons","in_row","side_by_side","is_lone","has_parts"]
def Tn(x:Str)(a:yM->M D):yM->M D:=if Ke.contains x then VM a else a
theorem ou(a:∀ds S d S',b ds S=.ok d S'->ds.length=n):∀ds S d S',Tn x b ds S=.ok d S'->ds.length=n:=by
 unfold Tn;split
 .exact pd a
 .exact a
theorem ot{K:yS}:Xt K (Tn x a) n b H Q E->Xt K a n b H Q E:=by
 unfold Tn;split
 .exact pb
 .exact id
def Zl(tbl:Uh):Nat->ZQ
 |0,_=>λ_ _=>.bad
 |n+1,x=>match tbl.lookup x with
  |some p=>Tn x (Zz p.1 p.2.1 (p.2.2 (Zl tbl n)))
  |none=>λ_ _=>.bad
structure Sr(K:yS)(mg:Str->yF)(ar:Str->yK)(x:Str)(p:Nat×Nat×(ZQ->CS)):Prop where
 ex:∃(st:wG) (fa:yR) (fd:vU) (N ps:yH) (fuel:Nat),Vp K x x st fa fd/\mg x=Z9 (.ref fa)/\UD K fd ps []/\W0 N ps (XT st)=Z7/\ps.length=p.1/\N.length=p.2.1 /\
  ∀cl:ZQ,cSts ar cl fuel ⟨N,(XT st).names,Z9 x⟩ (WQ st)=Z9 (p.2.2 cl)
theorem oq(h:Zz np a b ds S=.ok d S'):ds.length=np:=by
 unfold Zz at h
 grind
theorem oo{α:Type}{tbl:List (Str×α)}{p:α}(h:tbl.lookup x=Z9 p):(x,p)∈tbl:=by
 induction tbl with
 |nil=>cases h
 |cons y r a =>
  obtain⟨c,b⟩:=y;rw[qE1]at h;split at h
  .simp_all
  .exact qC5 _ (a h)
theorem DE{K:yS}(o:∀x p,tbl.lookup x=Z9 p->Sr K j (To tbl) x p)(u:U8 (To tbl) j):
  ∀(k:Nat) (x:Str) (n:Nat),To tbl x=Z9 n->(∃ps,RO P w K j base x ps k (Xt K (Zl tbl k x) n))/\∀ds S d S',Zl tbl k x ds S=.ok d S'->ds.length=n
 |0,x,n,h=>by
  obtain⟨p,c,rfl⟩:=qA6.mp h;obtain⟨I,b,f,N,ps,a,F,m,l,_⟩:=(o x p c).ex;have i:∀ds S d S',Zl tbl 0 x ds S=.ok d S'->False:=λds S d S' e=>by unfold Zl at e;cases e
  refine⟨⟨ps,b,f,⟨λy H Q E h=>?_,λA t s H v M y Q E _ _ _ _ h=>?_⟩,l,F.kp,m⟩,λds S d S' e=>(i _ _ _ _ e).elim⟩
  .obtain⟨_,J,ds,S,d,S',_,_,e,_⟩:=h;exact(i _ _ _ _ e).elim
  .obtain⟨_,J,ds,S,d,S',_,_,e,_⟩:=h;exact(i _ _ _ _ e).elim
 |k+1,x,n,h=>by
  obtain⟨p,c,rfl⟩:=qA6.mp h;obtain⟨I,b,f,N,ps,a,F,m,l,B,z,L,D⟩:=(o x p c).ex;have C:=DE (P:=P) (w:=w) (base:=base) o u k;have q:=ox (P:=P) (w:=w) (base:=base) (k:=k) F m l B (D (Zl tbl k)) u C;have G:Zl tbl (k+1) x=Tn x (Zz p.1 p.2.1 (p.2.2 (Zl tbl k))):=by show(match tbl.lookup x with|some p=>Tn x (Zz p.1 p.2.1 (p.2.2 (Zl tbl k)))| none=>λ_ _=>.bad)=_;rw[c]
  rw[z,L]at q;rw[G];obtain⟨b,f,g,r⟩:=q;exact⟨⟨ps,b,f,g.imp λy H Q E h=>ot h,r⟩,ou λds S d S' e=>oq e⟩
def NM(K:yS):Sp:=λd H Q _=>∃(a:yR) (b:yA),d=[.ref a]/\SG K H a (b.map V.int)/\b.length<=63/\∀c,Q (.bl Z7) c
theorem om{K:yS}(o:UC H)(h:YK K H a xs):SG K H a xs:=by
 rcases h with(h|⟨w,h⟩)| h
 .rcases o a with q|⟨w,b,q⟩
  .rw[h]at q;cases q
  .simp_all
 .exact .inl ⟨w,h⟩
 .exact .inr h
theorem oj{K:yS}{st:wG}(A:∀x p,tbl.lookup x=Z9 p->Sr K g (To tbl) x p)(l:U8 (To tbl) g)
  (y:tbl.lookup ("law":Str)=Z9 (1,i,b)) (F:Vp K "law" "law" st j m) (hs:W0 N ["_law_script"] (XT st)=Z7) (z:N.length=i) (t:∀cl:ZQ,cSts (To tbl) cl d ⟨N,(XT st).names,Z9 "law"⟩ (WQ st)=Z9 (b cl))
  (f:∀c:yA,c.length<=63->∃S',Zl tbl (L+1) "law" [.rol (c.map D.int)] []=.ok (.bl Z7) S') :
  X7 P w K g base UW (L+1) j m ["_law_script"] (NM K):=by
 have q:=Qb (P:=P) (w:=w) (base:=base) (k:=L) F hs (t (Zl tbl L)) l (DE (P:=P) (w:=w) (base:=base) A l L);refine q.imp λJ H Q E h=>?_;obtain⟨a,c,rfl,G,C,u⟩:=h;obtain⟨S',e⟩:=f c C;have B:Zl tbl (L+1) "law"=Zz 1 i (b (Zl tbl L)):=by show(match tbl.lookup ("law":Str)with|some p=>Tn "law" (Zz p.1 p.2.1 (p.2.2 (Zl tbl L)))| none=>λ_ _=>.bad)=_;rw[y];exact if_neg (by decide)
 rw[B]at e;refine⟨rfl,[],[.rol (c.map D.int)],[],.bl Z7,S',⟨rfl,qS0,λn a o h=>by simp at h⟩,.cons (by unfold RV;exact⟨a,_,rfl,G,RVs.ints⟩) .nil,by rw[z];exact e,λv s I _ _ r=>?_⟩;unfold RV at r;subst r;exact u s
theorem walk_ev{l:W.OpenLaw}{b:yH}{p:(Str->yF)->jH->Prop}{K:Params->yS}(A:l.most=Z9 63)(e:d.params.defaults=[])(y:Zf L lZ)
  (m:∀(w:jG) (h:jH),g w h->(K w.params).In h)
  (F:∀(w:jG) (c:Str->yF) (i:yR) (h:jH),(K w.params).In h->h.Ns jZ c->c d.name=Z9 (.ref i) ->
   ∃j:vU,(∀(s:yQ) (u:yT),dW s j ⟨[u],[]⟩ [("_law_script",u)])/\∀base:jH,(K w.params).In base->base.Ns jZ c->X7 l.prog w (K w.params) c base UW L i j ["_law_script"] (NM (K w.params))) :
  W.WalkO q b p g l.row.toRowW d [] (λf t=>PySem.call f t) :=
 L2.walk_of (n:=63) (k:=L) (x := "_law_script") (CX:=λ_=>UW) (sp:=λw=>NM (K w.params)) A (by decide) e y m F (λ_ _ a r v o B=>⟨a,r,rfl,om o B,v,λ_=>rfl⟩) λ_ _ _ _ _ z=>z
open PySem
def Rr(K:yS)(a:Str->yF)(ar:Str->yK):Uh->Prop
 |[]=>True
 |e::r=>Sr K a ar e.1 e.2/\Rr K a ar r
theorem Rr.mem{K:yS}{c:Str->yF}{ar:Str->yK}:∀{t:Uh},Rr K c ar t->∀x p,(x,p)∈t->Sr K c ar x p
 |[],_,x,p,h=>by cases h
 |e::r,⟨a,b⟩,x,p,h=>by
  rcases qB0.mp h with q|q
  .subst q;exact a
  .exact b.mem x p q
theorem Rr.look{K:yS}(h:Rr K a ar t)(x:Str)(p:Nat×Nat×(ZQ->CS))(e:t.lookup x=Z9 p):Sr K a ar x p:=h.mem x p (oo e)
theorem oh{K:yS}{e:Str->yF}{st:wG}{a np nN:Nat}(F:Vp K x x st c d)(m:e x=Z9 (.ref c))(i:UD K d ps [])(hs:W0 N ps (XT st)=Z7)
  (h:(λcl:ZQ=>cSts ar cl a ⟨N,(XT st).names,Z9 x⟩ (WQ st))=λcl=>Z9 (b cl)) (f:ps.length=np:=by rfl) (g:N.length=nN:=by rfl):Sr K e ar x (np,nN,b) :=
 ⟨st,c,d,N,ps,a,F,m,i,hs,f,g,λcl=>congrFun h cl⟩
def NK(a:Str->yF):yH->Prop
 |[]=>True
 |x::r=>a x=Z8/\NK a r
theorem NK.mem{c:Str->yF}:∀{l:yH},NK c l->∀x∈l,c x=Z8
 |[],_,x,h=>by cases h
 |e::r,⟨a,b⟩,x,h=>by
  rcases qB0.mp h with q|q
  .subst q;exact a
  .exact b.mem x q
inductive Tg{γ:Type}(f:γ):Type where
 |mk
def Zx{α β:Type}(r:R α)(f:α->ZX->R β)(_:Tg f):R β:=match r with
 |.bad=>.bad
 |.er c S=>.er c S
 |.ok a S=>f a S
@[simp]theorem Xz(a:α)(S:ZX)(f:α->ZX->R b):Zx (.ok a S) f .mk=f a S:=rfl
@[simp]theorem bC(f:α->ZX->R a):Zx .bad f .mk=.bad:=rfl
@[simp]theorem Xq(m:M α)(f:α->M a)(S:ZX):YW m f S=Zx (m S) f .mk:=rfl
@[simp]theorem oe(a:α)(S:ZX):ret a S=.ok a S:=rfl
@[simp]theorem bB(S:ZX):(bad:M α) S=.bad:=rfl
def rs{α:Type}(r:R α)(f:α->ZX->RS)(_:Tg f):RS:=match r with
 |.bad=>.bad
 |.er _ _=>.bad
 |.ok a S=>f a S
@[simp]theorem bA(a:α)(S:ZX)(f:α->ZX->RS):rs (.ok a S) f .mk=f a S:=rfl
@[simp]theorem bz(f:α->ZX->RS):rs .bad f .mk=.bad:=rfl
def sb(r:RS)(f:CS)(_:Tg f):RS:=match r with
 |.nx B S=>f B S
 |r=>r
@[simp]theorem bx(B:ZS)(S:ZX)(f:CS):sb (.nx B S) f .mk=f B S:=rfl
@[simp]theorem bw(d:D)(S:ZX)(f:CS):sb (.rt d S) f .mk=.rt d S:=rfl
@[simp]theorem bu(B:ZS)(S:ZX)(f:CS):sb (.bk B S) f .mk=.bk B S:=rfl
@[simp]theorem br(B:ZS)(S:ZX)(f:CS):sb (.ct B S) f .mk=.ct B S:=rfl
@[simp]theorem Qa(a b:CS)(B:ZS)(S:ZX):ZV a b B S=sb (a B S) b .mk:=rfl
@[simp]theorem bp(B:ZS)(S:ZX):ZL B S=.nx B S:=rfl
@[simp]theorem bo(B:ZS)(S:ZX):Sx B S=.bk B S:=rfl
@[simp]theorem bj(B:ZS)(S:ZX):Sw B S=.ct B S:=rfl
@[simp]theorem bh(B:ZS)(S:ZX):KD B S=.rt .non S:=rfl
@[simp]theorem bg(c:C)(B:ZS)(S:ZX):ZM c B S=rs (c B S) (λd S'=>.rt d S') .mk:=by unfold ZM rs;cases c B S<;>rfl
@[simp]theorem bf(c:C)(B:ZS)(S:ZX):WA c B S=rs (c B S) (λ_ S'=>.nx B S') .mk:=by unfold WA rs;cases c B S<;>rfl
@[simp]theorem be(c:C)(g:G)(B:ZS)(S:ZX):ZE c g B S=rs (c B S) (λd a=>rs (g d B a) (fun e b=>.nx e b) .mk) .mk:=by
 unfold ZE rs;cases c B S with
 |ok d a=>dsimp only;cases g d B a<;>rfl
 |_=>rfl
@[simp]theorem bc(t:CT)(a b:CS)(B:ZS)(S:ZX):YF t a b B S=rs (t B S) (λk S'=>if k then a B S' else b B S') .mk:=by unfold YF rs;cases t B S<;>rfl
@[simp]theorem P9(c:CI)(g:G)(b:CS)(B:ZS)(S:ZX):Zd c g b B S=rs (c B S) (λp d=>YV p.2 g b p.1 B d) .mk:=by
 unfold Zd rs;cases c B S with
 |ok p d=>obtain⟨a,b⟩:=p;rfl
 |_=>rfl
@[simp]theorem aZ(i:Nat)(d:D)(B:ZS)(S:ZX):gN i d B S=.ok (B.set i (Z9 d)) S:=rfl
def mo{α:Type}(o:Option α)(S':α->ZX)(B:ZS):R ZS:=match o with
 |some x=>.ok B (S' x)
 |none=>.bad
@[simp]theorem aY(a e:C)(d:D)(B:ZS)(S:ZX):gS a e d B S=Zx (a B S) (λo c=>Zx (e B c) (λi b=>mo (X2 o i d b) (λx=>x) B) .mk) .mk:=by
 unfold gS;rw[Xq];cases a B S with
 |bad=>rfl
 |er _ _=>rfl
 |ok o c =>
  rw[Xz,Xz,Xq];cases e B c with
  |bad=>rfl
  |er _ _=>rfl
  |ok i b =>
   rw[Xz,Xz];cases h:X2 o i d b<;>rfl
@[simp]theorem aX(x:α)(f:α->ZX)(B:ZS):mo (Z9 x) f B=.ok B (f x):=rfl
@[simp]theorem aW(a:List G)(xs:yM)(B:ZS)(S:ZX):gT a (.tup xs) B S=Ts a xs B S:=rfl
@[simp]theorem aV(B:ZS)(S:ZX):Ts [] [] B S=.ok B S:=rfl
@[simp]theorem aU(g:G)(a:List G)(x:D)(xs:yM)(B:ZS)(S:ZX):Ts (g::a) (x::xs) B S=Zx (g x B S) (fun b c=>Ts a xs b c) .mk:=rfl
@[simp]theorem aT(i:Nat)(B:ZS)(S:ZX):ZY i B S=match B[i]? with|some (Z9 d)=>.ok d S|_=>.bad:=rfl
@[simp]theorem aS(d:D)(B:ZS)(S:ZX):ZW d B S=.ok d S:=rfl
@[simp]theorem aR(o:D->D->M D)(a b:C)(B:ZS)(S:ZX):ZU o a b B S=Zx (a B S) (λx d=>Zx (b B d) (λy c=>o x y c) .mk) .mk:=rfl
@[simp]theorem aQ(o:D->M D)(a:C)(B:ZS)(S:ZX):Vh o a B S=Zx (a B S) o .mk:=rfl
@[simp]theorem aP(B:ZS)(S:ZX):ZR [] B S=.ok [] S:=rfl
@[simp]theorem aO(c:C)(a:List C)(B:ZS)(S:ZX):ZR (c::a) B S=Zx (c B S) (λx d=>Zx (ZR a B d) (λxs b=>.ok (x::xs) b) .mk) .mk:=rfl
@[simp]theorem aN(o:yM->M D)(a:CA)(B:ZS)(S:ZX):ZT o a B S=Zx (a B S) o .mk:=rfl
@[simp]theorem aM(a:CA)(B:ZS)(S:ZX):Ze a B S=Zx (a B S) (λxs b=>.ok (.tup xs) b) .mk:=rfl
@[simp]theorem aL(a:CA)(B:ZS)(S:ZX):YL a B S=Zx (a B S) (λxs b=>.ok (.lst b.length) (b++[.lst xs])) .mk:=rfl
@[simp]theorem aK(t:CT)(a b:C)(B:ZS)(S:ZX):TJ t a b B S=Zx (t B S) (λk c=>if k then a B c else b B c) .mk:=by
 unfold TJ;rw[Xq];cases t B S with
 |ok k c=>cases k<;>rfl
 |bad=>rfl
 |er _ _=>rfl
@[simp]theorem aJ(a:C)(B:ZS)(S:ZX):Zj a B S=Zx (a B S) (λx b=>dB x b) .mk:=rfl
@[simp]theorem aI(b:Bool)(S:ZX):dB (.bl b) S=.ok b S:=rfl
@[simp]theorem aH(a b:C)(B:ZS)(S:ZX):Ur a b B S=Zx (Zj a B S) (λk c=>if k then b B c else .ok (.bl Z5) c) .mk:=by
 unfold Ur;rw[Xq];cases Zj a B S with
 |ok k c=>cases k<;>rfl
 |bad=>rfl
 |er _ _=>rfl
@[simp]theorem aG(a b:C)(B:ZS)(S:ZX):Vg a b B S=Zx (Zj a B S) (λk c=>if k then .ok (.bl Z7) c else b B c) .mk:=by
 unfold Vg;rw[Xq];cases Zj a B S with
 |ok k c=>cases k<;>rfl
 |bad=>rfl
 |er _ _=>rfl
@[simp]theorem aF(a:C)(B:ZS)(S:ZX):Qq a B S=Zx (Zj a B S) (λk b=>.ok (.bl (!k)) b) .mk:=rfl
@[simp]theorem aE(a b:CT)(B:ZS)(S:ZX):SD a b B S=Zx (a B S) (λk c=>if k then b B c else .ok Z5 c) .mk:=by
 unfold SD;rw[Xq];cases a B S with
 |ok k c=>cases k<;>rfl
 |bad=>rfl
 |er _ _=>rfl
@[simp]theorem aD(a b:CT)(B:ZS)(S:ZX):Yy a b B S=Zx (a B S) (λk c=>if k then .ok Z7 c else b B c) .mk:=by
 unfold Yy;rw[Xq];cases a B S with
 |ok k c=>cases k<;>rfl
 |bad=>rfl
 |er _ _=>rfl
@[simp]theorem aC(a:CT)(B:ZS)(S:ZX):Wp a B S=Zx (a B S) (λk b=>.ok (!k) b) .mk:=rfl
@[simp]theorem aB(o o':D->D->M D)(a b c:C)(B:ZS)(S:ZX):TH o o' a b c B S=Zx (a B S) (λx f=>Zx (b B f) (λy e=>Zx (o x y e) (λz d=>Zx (dB z d) (λk g=>if k then Zx (c B g) (λw h=>o' y w h) .mk else .ok (.bl Z5) g) .mk) .mk) .mk) .mk:=by
 unfold TH;rw[Xq];cases a B S with
 |bad=>rfl
 |er _ _=>rfl
 |ok x f =>
  rw[Xz,Xz,Xq];cases b B f with
  |bad=>rfl
  |er _ _=>rfl
  |ok y e =>
   rw[Xz,Xz,Xq];cases o x y e with
   |bad=>rfl
   |er _ _=>rfl
   |ok z d =>
    rw[Xz,Xz,Xq];cases dB z d with
    |bad=>rfl
    |er _ _=>rfl
    |ok k g=>cases k<;>rfl
@[simp]theorem aA(a:C)(B:ZS)(S:ZX):Y7 a B S=Zx (a B S) (λx b=>Xu x b) .mk:=rfl
@[simp]theorem az(b:Bool)(S:ZX):Xu (.bl b) S=.ok b S:=rfl
@[simp]theorem ay(i:Int)(S:ZX):Xu (.int i) S=.ok (i != 0) S:=rfl
@[simp]theorem aw(xs:yM)(S:ZX):Xu (.tup xs) S=.ok (!xs.isEmpty) S:=rfl
@[simp]theorem av(B:ZS)(S:ZX):TC B S=.ok Z8 S:=rfl
@[simp]theorem au(a:C)(B:ZS)(S:ZX):TB a B S=Zx (a B S) (λx c=>Zx (SC x c) (λi b=>.ok (Z9 i) b) .mk) .mk:=rfl
@[simp]theorem aq(i:Int)(S:ZX):SC (.int i) S=.ok i S:=rfl
@[simp]theorem ao(o:D->yG->yG->M D)(a:C)(lo hi:CO)(B:ZS)(S:ZX):Tz o a lo hi B S=Zx (a B S) (λx c=>Zx (lo B c) (λl b=>Zx (hi B b) (λh d=>o x l h d) .mk) .mk) .mk:=rfl
@[simp]theorem ak(T:String)(o:D->yM->M D)(a:C)(b:CA)(B:ZS)(S:ZX):WK T o a b B S=Zx (a B S) (λx c=>if Yq T x c then Zx (b B c) (λxs d=>o x xs d) .mk else .bad) .mk:=rfl
@[simp]theorem aj(T:String)(o:D->yM->M D)(a:C)(B:ZS)(S:ZX):RD T o a B S=Zx (a B S) (λx b=>if Yq T x b then o x [] b else .bad) .mk:=rfl
@[simp]theorem Kc(c:C)(B:ZS)(S:ZX):Zv c B S=Zx (c B S) (λx a=>match x with
 |.tup xs=>.ok (xs,[]) a
 |.lst n=>match ZH a n with
  |some xs=>.ok (xs,[(n,xs)]) a
  |none=>.bad
 |.dct n=>match a[n]? with
  |some (.dk kvs)=>.ok (kvs.map λp=>kD p.1,[]) (a.set n (.fk kvs))
  |some (.fk kvs)=>.ok (kvs.map λp=>kD p.1,[]) a
  |_=>.bad
 | _=>.bad) .mk:=rfl
@[simp]theorem ai(a:CA)(B:ZS)(S:ZX):VP a B S=Zx (a B S) (λxs b=>match xs with
 |[.int j]=>if -4611686018427387904<=j/\j<4611686018427387904 then .ok (Y3 0 j.toNat,[]) b else .bad
 | _=>.bad) .mk:=rfl
@[simp]theorem ah(a:CA)(B:ZS)(S:ZX):KB a B S=Zx (a B S) (λxs b=>match xs with
 |[.int i,.int j]=>if -4611686018427387904<=i/\i<4611686018427387904/\-4611686018427387904<=j/\j<4611686018427387904 then .ok (Y3 i (j - i).toNat,[]) b else .bad
 | _=>.bad) .mk:=rfl
@[simp]theorem ag(a:CA)(B:ZS)(S:ZX):RA a B S=Zx (a B S) (λxs b=>match xs with
 |[x,y]=>match WH b x,WH b y with
  |some ys,Z9 zs=>.ok (zipD ys zs,Tq x ys++Tq y zs) b
  |_,_=>.bad
 | _=>.bad) .mk:=rfl
@[simp]theorem af(n:Nat)(xs:yM):Tq (.lst n) xs=[(n,xs)]:=rfl
@[simp]theorem ae(ys:yM)(xs:yM):Tq (.tup ys) xs=[]:=rfl
@[simp]theorem ab(S:ZX)(n:Nat):WH S (.lst n)=ZH S n:=rfl
@[simp]theorem aa(S:ZX)(xs:yM):WH S (.tup xs)=Z9 xs:=rfl
@[simp]theorem zbg(b:CI)(k:Nat)(a:List Nat)(t:Xk)(tc:CT)(c:C)(B:ZS)(S:ZX):XY b k a t tc c B S=Zx (b B S) (λp d=>if p.1.length<lim then Zx (Y1 p.2 t tc c (Uk k a B) p.1 d) (λys S'=>.ok (.lst S'.length) (S'++[.lst ys])) .mk else .bad) .mk:=rfl
@[simp]theorem zbf(B:ZS)(S:ZX):Rx B S=.ok (.dct S.length) (S++[.dk []]):=rfl
@[simp]theorem zbe(a b:C)(B:ZS)(S:ZX):NS a b B S=Zx (a B S) (λx d=>Zx (b B d) (λy c=>match WT x with
 |some k=>.ok (.dct c.length) (c++[.dk [(k,y)]])
 | none=>.bad) .mk) .mk:=rfl
@[simp]theorem zb1(i j:Int)(S:ZX):Zk (.int i) (.int j) S=.ok (.int (i+j)) S:=rfl
@[simp]theorem zb0(xs ys:yM)(S:ZX):Zk (.tup xs) (.tup ys) S=if xs.length+ys.length<=lim then .ok (.tup (xs++ys)) S else .bad:=rfl
@[simp]theorem zct(g:Int->Int->Int)(i j:Int)(S:ZX):Zn g (.int i) (.int j) S=.ok (.int (g i j)) S:=rfl
@[simp]theorem zaW(i j:Int)(S:ZX):Xs (.int i) (.int j) S=if Wo i j then .ok (.int (i*j)) S else .bad:=rfl
@[simp]theorem zaX(i j:Int)(S:ZX):Xg (.int i) (.int j) S=if 0<j then .ok (.int (i % j)) S else .bad:=rfl
@[simp]theorem zaY(i j:Int)(S:ZX):WL (.int i) (.int j) S=if 0<j/\j<1073741824 then .ok (.int (i / j)) S else .bad:=rfl
@[simp]theorem zaU(i j:Int)(S:ZX):VW (.int i) (.int j) S=if 0<=j/\j<=1000000/\i.natAbs<18446744073709551616 then .ok (.int (i ^ j.toNat)) S else .bad:=rfl
@[simp]theorem zaT(i j:Int)(S:ZX):Wn (.int i) (.int j) S=if 0<=j/\j<=1000000/\i.natAbs<18446744073709551616 then .ok (.int (i*2 ^ j.toNat)) S else .bad:=rfl
@[simp]theorem zaS(i j:Int)(S:ZX):Ve (.int i) (.int j) S=if 0<=j then .ok (.int (i / 2 ^ j.toNat)) S else .bad:=rfl
@[simp]theorem zaV(i:Int)(S:ZX):XG (.int i) S=.ok (.int (-i)) S:=rfl
@[simp]theorem zaZ(g:Int->Int->Bool)(i j:Int)(S:ZX):Yx g (.int i) (.int j) S=.ok (.bl (g i j)) S:=rfl
@[simp]theorem zcp(i j:Int)(S:ZX):V8 (.int i) (.int j) S=.ok (.bl (decide (i<j))) S:=rfl
theorem DD(i j:Int):PyData.eqv (.int i) (.int j)=decide (i=j):=rfl
@[simp]theorem zcv(i j:Int)(S:ZX):XI (.int i) (.int j) S=.ok (.bl (decide (i=j))) S:=by show R.ok (D.bl (PyData.eqv (.int i) (.int j))) S=_;rw[DD]
@[simp]theorem zco(i j:Int)(S:ZX):Xf (.int i) (.int j) S=.ok (.bl (!decide (i=j))) S:=by show R.ok (D.bl (!PyData.eqv (.int i) (.int j))) S=_;rw[DD]
@[simp]theorem zdr(i j:Bool)(S:ZX):XI (.bl i) (.bl j) S=.ok (.bl (i == j)) S:=by show R.ok (D.bl (PyData.eqv (.bool i) (.bool j))) S=_;cases i<;>cases j<;>rfl
@[simp]theorem zdp(i j:Bool)(S:ZX):Xf (.bl i) (.bl j) S=.ok (.bl (i != j)) S:=rfl
@[simp]theorem zcs(x:D)(S:ZX):Qo x .non S=.ok (.bl x.isNon) S:=by cases x<;>rfl
@[simp]theorem zXe(x:D)(S:ZX):Uq x .non S=.ok (.bl (!x.isNon)) S:=by cases x<;>rfl
@[simp]theorem zdq(a b:Bool)(S:ZX):Qo (.bl a) (.bl b) S=.ok (.bl (a == b)) S:=rfl
@[simp]theorem zZ6(a b:Bool)(S:ZX):Uq (.bl a) (.bl b) S=.ok (.bl (a != b)) S:=rfl
@[simp]theorem zcT(i j:Int)(S:ZX):Wm [.int i,.int j] S=.ok (.int (if j<i then j else i)) S:=rfl
@[simp]theorem zcU(i j:Int)(S:ZX):Vd [.int i,.int j] S=.ok (.int (if j>i then j else i)) S:=rfl
@[simp]theorem zb6(i:Int)(S:ZX):VS [.int i] S=.ok (.int i) S:=rfl
@[simp]theorem zcV(b:Bool)(S:ZX):VS [.bl b] S=.ok (.int (if b then 1 else 0)) S:=rfl
@[simp]theorem zXh(xs:yM)(S:ZX):Ya [.tup xs] S=.ok (.tup xs) S:=rfl
theorem Ug{xs:yM}(h:ZH S n=Z9 xs):Ya [.lst n] S=.ok (.tup xs) S:=by show(match ZH S n with|some a=>R.ok (D.tup a) S|none=>.bad)=_;rw[h]
@[simp]theorem n8(xs:yM)(S:ZX):Zw [.tup xs] S=.ok (.int xs.length) S:=rfl
@[simp]theorem n7(xs:yM)(S:ZX):Zw [.rol xs] S=.ok (.int xs.length) S:=rfl
theorem NJ{xs:yM}(h:ZH S n=Z9 xs):Zw [.lst n] S=.ok (.int xs.length) S:=by show(match ZH S n with|some a=>R.ok (D.int a.length) S|none=>.bad)=_;rw[h]
@[simp]theorem za8(xs:yM)(S:ZX):Tt [.tup xs] S=.ok (.lst S.length) (S++[.lst xs]):=rfl
@[simp]theorem zcq(xs:yM)(j:Int)(S:ZX):ZA (.tup xs) (.int j) S=match Yk xs j with|some d=>.ok d S|none=>.bad:=rfl
@[simp]theorem zcr(xs:yM)(j:Int)(S:ZX):ZA (.rol xs) (.int j) S=match Yk xs j with|some d=>.ok d S|none=>.bad:=rfl
theorem Ue{xs:yM}(h:ZH S n=Z9 xs)(j:Int):ZA (.lst n) (.int j) S=match Yk xs j with|some d=>.ok d S|none=>.bad:=by show(match ZH S n,D.int j with|some xs,.int j=>(match Yk xs j with|some d=>R.ok d S|none=>.bad)| _,_=>.bad)=_;rw[h]
@[simp]theorem zcn(xs:yM)(lo hi:yG)(S:ZX):VU (.tup xs) lo hi S=.ok (.tup (XO xs lo hi)) S:=rfl
theorem DC{xs:yM}(h:ZH S n=Z9 xs)(lo hi:yG):VU (.lst n) lo hi S=.ok (.lst S.length) (S++[.lst (XO xs lo hi)]):=by show(match ZH S n with|some xs=>R.ok (D.lst S.length) (S++[O.lst (XO xs lo hi)])| none=>.bad)=_;rw[h]
@[simp]theorem zdI(x:α)(xs:List α):Yk (x::xs) 0=Z9 x:=Vz rfl
@[simp]theorem zdH(x y:α)(xs:List α):Yk (x::y::xs) 1=Z9 y:=Vz rfl
@[simp]theorem zdG(x y z:α)(xs:List α):Yk (x::y::z::xs) 2=Z9 z:=Vz rfl
@[simp]theorem zdF(x y z w:α)(xs:List α):Yk (x::y::z::w::xs) 3=Z9 w:=Vz rfl
structure Kp(P:Nat->Prop)(S S':ZX):Prop where
 le:S.length<=S'.length
 eq:∀j,j<S.length->¬P j->S'[j]?=S[j]?
abbrev Ex:ZX->ZX->Prop:=Kp λ_=>False
inductive VJ{α:Type}(m:R α)(r:α)(S:ZX):Prop
 |mk (S1:ZX) (e:m=.ok r S1) (x:Ex S S1)
theorem Kp.refl(P:Nat->Prop)(S:ZX):Kp P S S:=⟨qA7 _,λ_ _ _=>rfl⟩
theorem Kp.trans(a:Kp P S c)(b:Kp P c S2):Kp P S S2:=⟨qD4 a.le b.le,λj h n=>(b.eq j (qC1 h a.le) n).trans (a.eq j h n)⟩
theorem Ex.kp(h:Ex S S'):Kp P S S':=⟨h.le,λj a _=>h.eq j a (λz=>z)⟩
theorem Kp.kp(h:Kp (λ_=>False) S S'):Kp P S S':=⟨h.le,λj a _=>h.eq j a (λz=>z)⟩
theorem Kp.mono(h:Kp P S S')(m:∀j,j<S.length->P j->Q j):Kp Q S S':=⟨h.le,λj a n=>h.eq j a λz=>n (m j a z)⟩
theorem YQ(S T:ZX):Ex S (S++T):=⟨by simp,λj h _=>qA8 h⟩
theorem VI(S:ZX)(o:O):Kp (·=i) S (S.set i o):=⟨by simp,λj h n=>qE5 λz=>n z.symm⟩
theorem Kp.at(h:Kp P S S')(e:S[j]?=Z9 o)(n:¬P j):S'[j]?=Z9 o:=by rw[h.eq j (qA4.mp e).1 n];exact e
theorem V7{xs:yM}(h:ZH S n=Z9 xs):S[n]?=Z9 (.lst xs):=by
 unfold ZH at h;split at h
 .simp_all
 .cases h
theorem NI{xs:yM}(h:S[n]?=Z9 (.lst xs)):ZH S n=Z9 xs:=by unfold ZH;rw[h]
theorem Kp.lst(h:Kp P S S'){xs:yM}(e:ZH S j=Z9 xs)(n:¬P j):ZH S' j=Z9 xs:=NI (h.at (V7 e) n)
theorem Ud{xs:yM}(h:ZH S n=Z9 xs):n<S.length:=(qA4.mp (V7 h)).1
@[simp]theorem Yw(S:ZX)(xs:yM):ZH (S++[.lst xs]) S.length=Z9 xs:=NI (by rw[qA1 (qA7 _),qH7];rfl)
theorem NH{xs:yM}(h:ZH S n=Z9 xs):ZH (S++T) n=Z9 xs:=(YQ S T).lst h λz=>z
theorem UQ{xs ys:yM}(h:ZH S n=Z9 xs):ZH (S.set n (.lst ys)) n=Z9 ys:=NI (qE2 (Ud h))
theorem Tj{xs:yM}(h:ZH S n=Z9 xs):Yq "list" (.lst n) S=Z7:=by show(decide ("list" = "list")&&(ZH S n).isSome)=Z7;rw[h];rfl
theorem Sq{S:ZX}{n:Nat}{ys:yM}(h:ZH S n=Z9 ys)(g:yM->yM->Option (yM×D))(xs:yM):Ye g (.lst n) xs S=match g ys xs with|some p=>.ok p.2 (S.set n (.lst p.1))| none=>.bad:=by
 unfold Ye;dsimp only;rw[V7 h];dsimp only;cases g ys xs with
 |none=>rfl
 |some p=>rfl
@[simp]theorem Rq(ys:yM)(x:D):Xr ys [x]=if ys.length<lim then Z9 (ys++[x],.non)else Z8:=rfl
@[simp]theorem n6(ys:yM)(i:Int)(x:D):RC ys [.int i,x]=if ys.length<1000/\0<=i/\i.toNat<=ys.length then Z9 (ys.take i.toNat++x::ys.drop i.toNat,.non)else Z8:=rfl
theorem DB{S:ZX}{n:Nat}{ys:yM}(h:ZH S n=Z9 ys)(k:Int)(v:D):X2 (.lst n) (.int k) v S=match Wu ys.length k with|some j=>Z9 (S.set n (.lst (ys.set j v)))| none=>Z8:=by
 unfold X2;dsimp only;rw[V7 h]
 all_goals (dsimp only;cases Wu ys.length k<;>rfl)
theorem XH(S:ZX):X9 [] S:=λp h=>by cases h
theorem U6{xs:yM}(h:ZH S n=Z9 xs):X9 [(n,xs)] S:=λp a=>by simp at a;subst a;exact h
theorem n5{xs ys:yM}(h:ZH S n=Z9 xs)(b:ZH S m=Z9 ys):X9 [(n,xs),(m,ys)] S:=λp a=>by
 simp at a;rcases a with rfl|rfl
 .exact h
 .exact b
theorem DA{w:XA}{g:G}{b:CS}:∀(items:yM) (P:Nat->ZS->ZX->Prop) {B:ZS}{S:ZX} (k:Nat),(∀i B S,P i B S->X9 w S)->P k B S ->
  (∀i d B S,items[i]?=Z9 d->P (k+i) B S->∃c a,g d B S=.ok c a/\∃e f,(b c a=.nx e f∨b c a=.ct e f)/\P (k+i+1) e f)->∃j S',YV w g b items B S=.nx j S'/\P (k+items.length) j S'
 |[],P,B,S,k,hw,h0,hs=>⟨B,S,by unfold YV;rw[if_pos (hw k B S h0)],by simpa using h0⟩
 |d::ds,P,B,S,k,hw,h0,hs=>by
  obtain⟨c,a,m,e,f,h,t⟩:=hs 0 d B S rfl (by simpa using h0);obtain⟨j,S',l,u⟩:=DA ds P (k+1) hw (by simpa using t) (λi s B S n q=>by
   obtain⟨c,a,o,e,f,r,p⟩:=hs (i+1) s B S (by exact n) (by rw[show k+(i+1)=k+1+i by lia];exact q);exact⟨c,a,o,e,f,r,by rw[show k+1+i+1=k+(i+1)+1 by lia];exact p⟩)
  refine⟨j,S',?_,by rw[qD3,show k+(ds.length+1)=k+1+ds.length by lia];exact u⟩;unfold YV;rw[if_pos (hw k B S h0),m];dsimp only;rcases h with h|h
  .rw[h];exact l
  .rw[h];exact l
inductive nZ(r:RS)(P:ZS->ZX->Prop):Prop
 |mk (B2:ZS) (S2:ZX) (h:r=.nx B2 S2∨r=.ct B2 S2) (p:P B2 S2)
inductive Ro(g:G)(b:CS)(d:D)(B:ZS)(S:ZX)(P:ZS->ZX->Prop):Prop
 |mk (B1:ZS) (S1:ZX) (e:g d B S=.ok B1 S1) (t:nZ (b B1 S1) P)
inductive NG(r:RS)(P:ZS->ZX->Prop):Prop
 |mk (B':ZS) (S':ZX) (e:r=.nx B' S') (p:P B' S')
theorem Uc(P:Nat->ZS->ZX->Prop)(o:∀i B S,P i B S->X9 w S)(j:P 0 B S)
  (hs:∀i d B S,items[i]?=Z9 d->P i B S->Ro g b d B S (P (i+1))):NG (YV w g b items B S) (P items.length):=by
 obtain⟨k,s,e,p⟩:=DA items P 0 o j (λi d B S a l=>by
  obtain⟨m,c,f,q,r,n,h⟩:=hs i d B S a (by simpa using l);exact⟨m,c,f,q,r,n,by simpa using h⟩)
 exact⟨k,s,e,by simpa using p⟩
inductive NF(m:R (yM))(r:yM)(P:ZX->Prop):Prop
 |mk (S':ZX) (e:m=.ok r S') (p:P S')
theorem Kb{w:XA}{t:Xk}{tc:CT}{c:C}{B0:ZS}(P:ZX->Prop)(g:∀S,P S->X9 w S):∀(items:yM) (p:D->Bool) (f:D->D) {S:ZX},P S ->
  (∀d∈items,∀S,P S->∃e,VO t d B0=Z9 e/\∃a,tc e S=.ok (p d) a/\(p d=Z5->P a)/\(p d=Z7->∃l,c e a=.ok (f d) l/\P l))->NF (Y1 w t tc c B0 items S) ((items.filter p).map f) P
 |[],p,f,S,h0,hs=>⟨S,by unfold Y1;rw[if_pos (g S h0)];rfl,h0⟩
 |d::ds,p,f,S,h0,hs=>by
  obtain⟨e,n,a,s,o,ht⟩:=hs d (by simp) S h0;unfold Y1;rw[if_pos (g S h0),n];dsimp only;rw[Xq,s,Xz];cases b:p d with
  |false =>
   obtain⟨m,k,j⟩:=Kb P g ds p f (o b) λi h=>hs i (by simp[h]);exact⟨m,by rw[if_neg qB4,k,qH4,b];rfl,j⟩
  |true =>
   obtain⟨l,r,q⟩:=ht b;obtain⟨m,k,j⟩:=Kb P g ds p f q λi h=>hs i (by simp[h]);exact⟨m,by rw[if_pos rfl,Xq,r,Xz,Xq,k,Xz,qH4,b];rfl,j⟩
theorem nY(P:ZX->Prop)(k:∀S,P S->X9 w S)(items:yM)(f:D->D)(j:P S)
  (hs:∀d∈items,∀S,P S->∃a,VO t d B0=Z9 a/\∃b,c a S=.ok (f d) b/\P b):NF (Y1 w t (λ_=>ret Z7) c B0 items S) (items.map f) P:=by
 obtain⟨n,e,h⟩:=Kb (tc:=λ_=>ret Z7) P k items (λ_=>Z7) f j (λd l S h=>by
  obtain⟨a,g,b,m,i⟩:=hs d l S h;exact⟨a,g,S,rfl,(λz=>by cases z),λ_=>⟨b,m,i⟩⟩)
 exact⟨n,by rw[e,qO2.mpr (by simp)],h⟩
theorem ND{α:Type}(e:α->D){w:XA}{t:Xk}{tc:CT}{c:C}{B0:ZS}(P:ZX->Prop)(i:∀S,P S->X9 w S)(p:α->Bool)(f:α->D):∀(l:List α) {S:ZX},P S ->
  (∀a∈l,∀S,P S->∃h,VO t (e a) B0=Z9 h/\∃b,tc h S=.ok (p a) b/\(p a=Z5->P b)/\(p a=Z7->∃o,c h b=.ok (f a) o/\P o))->NF (Y1 w t tc c B0 (l.map e) S) ((l.filter p).map f) P
 |[],S,h0,hs=>⟨S,by rw[qQ5];unfold Y1;rw[if_pos (i S h0)];rfl,h0⟩
 |d::ds,S,h0,hs=>by
  obtain⟨h,r,b,x,s,ht⟩:=hs d (by simp) S h0;rw[qB8];unfold Y1;rw[if_pos (i S h0),r];dsimp only;rw[Xq,x,Xz];cases g:p d with
  |false =>
   obtain⟨q,n,m⟩:=ND e P i p f ds (s g) λk j=>hs k (by simp[j]);exact⟨q,by rw[if_neg qB4,n,qH4,g];rfl,m⟩
  |true =>
   obtain⟨o,v,u⟩:=ht g;obtain⟨q,n,m⟩:=ND e P i p f ds u λk j=>hs k (by simp[j]);exact⟨q,by rw[if_pos rfl,Xq,v,Xz,Xq,n,Xz,qH4,g];rfl,m⟩
theorem Dy{α:Type}(e:α->D)(P:ZX->Prop)(m:∀S,P S->X9 w S)(f:α->D)(l:List α)(k:P S)
  (hs:∀a∈l,∀S,P S->∃b,VO t (e a) B0=Z9 b/\∃g,c b S=.ok (f a) g/\P g):NF (Y1 w t (λ_=>ret Z7) c B0 (l.map e) S) (l.map f) P:=by
 obtain⟨p,e,h⟩:=ND e (tc:=λ_=>ret Z7) P m (λ_=>Z7) f l k (λd n S h=>by
  obtain⟨b,i,g,o,j⟩:=hs d n S h;exact⟨b,i,S,rfl,(λz=>by cases z),λ_=>⟨g,o,j⟩⟩)
 exact⟨p,by rw[e,qO2.mpr (by simp)],h⟩
theorem Dx{α:Type}(e:α->D)(n:X9 w S)(p:α->Bool)(f:α->D)(l:List α)
  (hs:∀a∈l,∃d,VO t (e a) B0=Z9 d/\tc d S=.ok (p a) S/\(p a=Z7->c d S=.ok (f a) S)):Y1 w t tc c B0 (l.map e) S=.ok ((l.filter p).map f) S:=by
 obtain⟨b,g,h⟩:=ND e (λb=>b=S) (λb z=>z▸n) p f l rfl (λa m b z=>by
  subst z;obtain⟨d,i,k,j⟩:=hs a m;exact⟨d,i,b,k,λ_=>rfl,λz=>⟨b,j z,rfl⟩⟩)
 rw[g,h]
theorem Ub{α:Type}(e:α->D)(h:X9 w S)(f:α->D)(l:List α)
  (hs:∀a∈l,∃b,VO t (e a) B0=Z9 b/\c b S=.ok (f a) S):Y1 w t (λ_=>ret Z7) c B0 (l.map e) S=.ok (l.map f) S:=by
 have:=Dx e (tc:=λ_=>ret Z7) h (λ_=>Z7) f l (λa g=>by
  obtain⟨b,i,d⟩:=hs a g;exact⟨b,i,rfl,λ_=>d⟩)
 rw[this,qO2.mpr (by simp)]
theorem NC{t:CT}{b:CS}(P:Nat->ZS->ZX->Prop)(Q:ZS->ZX->Prop)(hs:∀m B S,P m B S->(∃a,t B S=.ok Z5 a/\Q B a)∨∃a,t B S=.ok Z7 a/\∃c d,(b B a=.nx c d∨b B a=.ct c d)/\∃m',m'<m/\P m' c d):
  ∀(k m:Nat) (B:ZS) (S:ZX),m<k->P m B S->∃g S',Wg k t b B S=.nx g S'/\Q g S'
 |0,m,B,S,hk,h=>absurd hk (qG5 _)
 |k+1,m,B,S,hk,h=>by
  unfold Wg;rcases hs m B S h with⟨a,e,q⟩| ⟨a,e,c,d,f,m',l,j⟩
  .rw[e];exact⟨B,a,rfl,q⟩
  .obtain⟨g,S',i,q⟩:=NC P Q hs k m' c d (by lia) j;rw[e];dsimp only;rcases f with f|f
   .rw[f];exact⟨g,S',i,q⟩
   .rw[f];exact⟨g,S',i,q⟩
def Zh(fs:yA):List (ZF×D):=fs.map λx=>((Sum.inl x:ZF),D.bl Z7)
def YX(fs:yA)(a:Int):yA:=if a∈fs then fs else fs++[a]
theorem nX(fs:yA)(a:Int):((Zh fs).any λc=>decide (c.1=(Sum.inl a:ZF)))=decide (a∈fs):=by
 induction fs with
 |nil=>rfl
 |cons x r b =>
  show(decide ((Sum.inl x:ZF)=Sum.inl a)||(Zh r).any _)=_;rw[b];by_cases h:x=a
  .subst h;simp
  .have:(Sum.inl x:ZF)≠Sum.inl a:=λz=>h (Sum.inl.inj z);simp[this,Ne.symm h]
theorem nW(fs:yA)(a:Int):YS (Zh fs) (.inl a) (.bl Z7)=Zh (YX fs a):=by
 unfold YS YX;rw[nX];by_cases h:a∈fs
 .rw[if_pos (by simpa using h),if_pos h];unfold Zh;rw[qC7];refine qE0 λx _=>?_;show(if(Sum.inl x:ZF)=Sum.inl a then((Sum.inl x),D.bl Z7)else(Sum.inl x,D.bl Z7))=_;split<;>rfl
 .rw[if_neg (by simpa using h),if_neg h];unfold Zh;simp
theorem nV(fs:yA)(a:Int):YT (Zh fs) (.inl a)=if a∈fs then Z9 (.bl Z7)else Z8:=by
 unfold YT
 induction fs with
 |nil=>rfl
 |cons x r b =>
  show Option.map _ (List.find? _ (((Sum.inl x),D.bl Z7)::Zh r))=_;rw[qO0];by_cases h:x=a
  .subst h;simp
  .have:(Sum.inl x:ZF)≠Sum.inl a:=λz=>h (Sum.inl.inj z);simp only[this,decide_false];rw[b];simp[Ne.symm h]
theorem Ka(h:S[m]?=Z9 (.dk (Zh fs)))(neg:Bool)(a:Int):YG neg (.int a) (.dct m) S=.ok (.bl (if neg then !decide (a∈fs)else decide (a∈fs))) S:=by
 have e:dictAt S m (.int a)=Z9 (if a∈fs then Z9 (.bl Z7)else Z8):=by unfold dictAt;rw[h];show Z9 (YT (Zh fs) (.inl a))=_;rw[nV]
 show(match dictAt S m (.int a)with|some o=>R.ok (D.bl (if neg then !o.isSome else o.isSome)) S|none=>.bad)=_;rw[e];by_cases b:a∈fs
 .simp[b]
 .simp[b]
theorem Dw(h:S[m]?=Z9 (.dk (Zh fs)))(b:fs.length<lim)(a:Int):X2 (.dct m) (.int a) (.bl Z7) S=Z9 (S.set m (.dk (Zh (YX fs a)))):=by unfold X2;dsimp only;rw[h];show(if(Zh fs).length<lim then Z9 (S.set m (.dk (YS (Zh fs) (.inl a) (.bl Z7))))else Z8)=_;rw[if_pos (by unfold Zh;rw[qA0];exact b),nW]
theorem Dv:x∈YX fs a↔x∈fs∨x=a:=by
 unfold YX;split
 .simp_all
 .simp
@[simp]theorem zaD(d:D)(B:ZS):VO .one d B=Z9 (B.set 0 (Z9 d)):=rfl
@[simp]theorem zaC(x y:D)(B:ZS):VO (.many 2) (.tup [x,y]) B=Z9 ((B.set 0 (Z9 x)).set 1 (Z9 y)):=rfl
@[simp]theorem zdm(k:Nat)(a:List Nat)(B:ZS):Uk k a B=qM4 k Z8++a.map λj=>(B[j]?).getD Z8:=rfl
theorem Du{f e:Nat}{b:CS}{ds:yM}{S:ZX}(h:ds.length=f):Zz f e b ds S=match b (Yn e ds) S with
 |.nx _ a=>.ok .non a
 |.rt d a=>.ok d a
 |.er c a=>.er c a
 |_=>.bad:=by
 unfold Zz;rw[if_pos h]
 all_goals (cases b (Yn e ds) S<;>rfl)
theorem Y0{c a:Nat}{b:CS}{ds:yM}{S S':ZX}{d:D}(h:ds.length=c)(e:b (Yn a ds) S=.rt d S'):Zz c a b ds S=.ok d S':=by rw[Du h,e]
theorem nU(h:ds.length=c)(e:b (Yn a ds) S=.nx B S'):Zz c a b ds S=.ok .non S':=by rw[Du h,e]
def plain:Nat->D->Bool
 |0,_=>Z5
 |n+1,d=>match d with
  |.int _=>Z7
  |.non=>Z7
  |.str x=>PyData.strOk x
  |.tup a=>a.all (plain n)
  |_=>Z5
def Y5:Nat->D->v8
 |0,_=>.none
 |n+1,d=>match d with
  |.int i=>.int i
  |.str x=>.str x
  |.tup a=>.tuple (a.map (Y5 n))
  |_=>.none
theorem NB{α b:Type}{f:α->Option b}{g:α->b}{l:List α}(h:∀x∈l,f x=Z9 (g x)):l.mapM f=Z9 (l.map g):=by
 induction l with
 |nil=>rfl
 |cons a r c =>
  rw[qI7,h a (by simp),c λx d=>h x (by simp[d])];rfl
theorem NA:∀{n:Nat}{d:D} (S:ZX),plain n d=Z7->Zg n S d=Z9 (Y5 n d)
 |0,d,S,h=>by cases h
 |n+1,d,S,h=>by
  unfold plain at h;unfold Zg Y5;cases d with
  |int i=>rfl
  |non=>rfl
  |str x=>dsimp only at h ⊢;rw[if_pos h]
  |tup b =>
   dsimp only at h ⊢;rw[NB λx a=>NA S (qD5.mp h x a)];rfl
  |_=>cases h
theorem Dt{n:Nat}(a:∀d e,plain n d=Z7->plain n e=Z7->(PyData.eqv (Y5 n d) (Y5 n e)=Z7↔d=e)):∀(xs ys:yM),xs.all (plain n)=Z7->ys.all (plain n)=Z7->(PyData.eqvAll (xs.map (Y5 n)) (ys.map (Y5 n))=Z7↔xs=ys)
 |[],[],_,_=>by simp[PyData.eqvAll]
 |[],y::ys,_,_=>by simp[PyData.eqvAll]
 |x::xs,[],_,_=>by simp[PyData.eqvAll]
 |x::xs,y::ys,h1,h2=>by rw[qK9,qC8]at h1 h2;show(PyData.eqv (Y5 n x) (Y5 n y)&&PyData.eqvAll (xs.map (Y5 n)) (ys.map (Y5 n)))=Z7↔_;rw[qC8,a x y h1.1 h2.1,Dt a xs ys h1.2 h2.2,qK3.injEq]
theorem J9:∀(n:Nat) (d e:D),plain n d=Z7->plain n e=Z7->(PyData.eqv (Y5 n d) (Y5 n e)=Z7↔d=e)
 |0,d,e,h,_=>by cases h
 |n+1,d,e,h1,h2=>by
  unfold Y5;cases d with
  |int i =>
   cases e with
   |int j=>simp[PyData.eqv]
   |non=>simp[PyData.eqv]
   |str y=>simp[PyData.eqv]
   |tup a=>simp[PyData.eqv]
   |_=>cases h2
  |non =>
   cases e with
   |int j=>simp[PyData.eqv]
   |non=>simp[PyData.eqv]
   |str y=>simp[PyData.eqv]
   |tup a=>simp[PyData.eqv]
   |_=>cases h2
  |str x =>
   cases e with
   |int j=>simp[PyData.eqv]
   |non=>simp[PyData.eqv]
   |str y=>simp[PyData.eqv]
   |tup a=>simp[PyData.eqv]
   |_=>cases h2
  |tup b =>
   cases e with
   |int j=>simp[PyData.eqv]
   |non=>simp[PyData.eqv]
   |str y=>simp[PyData.eqv]
   |tup a =>
    show PyData.eqvAll (b.map (Y5 n)) (a.map (Y5 n))=Z7↔_;rw[Dt (J9 n) b a h1 h2];simp
   |_=>cases h2
  |_=>cases h1
theorem nS(h:a=Z7↔b=Z7):a=b:=by simp_all
theorem nR(h:0<n)(i:Int):plain n (.int i)=Z7:=by
 cases n with
 |zero=>cases h
 |succ n=>rfl
theorem nQ{xs:yM}(h:∀x∈xs,plain n x=Z7):plain (n+1) (.tup xs)=Z7:=qD5.mpr h
theorem nP(h:0<n)(l:yA):∀x∈l.map D.int,plain n x=Z7:=λx a=>by obtain⟨i,_,rfl⟩:=qB9.mp a;exact nR h i
theorem Ds{xs:yM}(h:ZH S k=Z9 xs):YJ [.lst k,.ty "list"] S=.ok (.bl Z7) S:=by show(match (if(ZH S k).isSome then Z9 "list" else Z8)with|some t=>(if "list"∈["bool","int","tuple","list"]then R.ok (D.bl (OA t "list")) S else .bad)| none=>.bad)=_;rw[h];rfl
@[simp]theorem zTs(i:Int)(S:ZX):YJ [.int i,.ty "bool"] S=.ok (.bl Z5) S:=rfl
@[simp]theorem zUt(i:Int)(S:ZX):YJ [.int i,.ty "int"] S=.ok (.bl Z7) S:=rfl
@[simp]theorem zS4(i:Int)(S:ZX):YJ [.int i,.ty "tuple"] S=.ok (.bl Z5) S:=rfl
@[simp]theorem zTr(i:Int)(S:ZX):YJ [.int i,.ty "list"] S=.ok (.bl Z5) S:=rfl
@[simp]theorem zS6(b:Bool)(S:ZX):YJ [.bl b,.ty "bool"] S=.ok (.bl Z7) S:=rfl
@[simp]theorem zTt(b:Bool)(S:ZX):YJ [.bl b,.ty "int"] S=.ok (.bl Z7) S:=rfl
@[simp]theorem zQL(b:Bool)(S:ZX):YJ [.bl b,.ty "tuple"] S=.ok (.bl Z5) S:=rfl
@[simp]theorem zS5(b:Bool)(S:ZX):YJ [.bl b,.ty "list"] S=.ok (.bl Z5) S:=rfl
@[simp]theorem zNk  (S:ZX):YJ [.non,.ty "bool"] S=.ok (.bl Z5) S:=rfl
@[simp]theorem zOi  (S:ZX):YJ [.non,.ty "int"] S=.ok (.bl Z5) S:=rfl
@[simp]theorem zM0  (S:ZX):YJ [.non,.ty "tuple"] S=.ok (.bl Z5) S:=rfl
@[simp]theorem zNj  (S:ZX):YJ [.non,.ty "list"] S=.ok (.bl Z5) S:=rfl
@[simp]theorem zTq(x:Str)(S:ZX):YJ [.str x,.ty "bool"] S=.ok (.bl Z5) S:=rfl
@[simp]theorem zUs(x:Str)(S:ZX):YJ [.str x,.ty "int"] S=.ok (.bl Z5) S:=rfl
@[simp]theorem zS3(x:Str)(S:ZX):YJ [.str x,.ty "tuple"] S=.ok (.bl Z5) S:=rfl
@[simp]theorem zTp(x:Str)(S:ZX):YJ [.str x,.ty "list"] S=.ok (.bl Z5) S:=rfl
@[simp]theorem zQK(xs:yM)(S:ZX):YJ [.tup xs,.ty "bool"] S=.ok (.bl Z5) S:=rfl
@[simp]theorem zS2(xs:yM)(S:ZX):YJ [.tup xs,.ty "int"] S=.ok (.bl Z5) S:=rfl
@[simp]theorem zOX(xs:yM)(S:ZX):YJ [.tup xs,.ty "tuple"] S=.ok (.bl Z7) S:=rfl
@[simp]theorem zQJ(xs:yM)(S:ZX):YJ [.tup xs,.ty "list"] S=.ok (.bl Z5) S:=rfl
theorem P8(ns:yA):Xb (ns.map D.int)=Z9 ns:=by
 induction ns with
 |nil=>rfl
 |cons a r b=>show(Xb (r.map D.int)).map (a::·)=_;rw[b];rfl
theorem nO(h:ZH S n=Z9 (a.map D.int))(b:a.length<64):Va [.lst n] S=.ok (.lst S.length) (S++[.lst ((Wj a).map D.int)]):=by unfold Va;simp only[h,qL4,P8,if_pos b]
theorem Dr{a:yA}(h:ZH S n=Z9 (a.map D.int))(b:∀i∈a,0<=i/\i<=1000000)(d:a.length<=1000000):X4 [.lst n] S=.ok (.int a.sum) S:=by
 unfold X4;have:(a.all λi=>decide (0<=i)&&decide (i<=1000000))=Z7:=qD5.mpr λi c=>by simpa using b i c
 simp only[h,qL4,P8,this,d,and_self,if_true]
@[simp]theorem zb2(i:Int)(S:ZX):Qk (.int i) [] S=.ok (.int ((Builtin.Int.intBits i:Nat):Int)) S:=rfl
@[simp]theorem zaN(i:Int)(S:ZX):Yq "int" (.int i) S=Z7:=rfl
theorem nM(xs:yM)(a:0<=k):XO xs (Z9 k) Z8=xs.drop k.toNat:=by
 unfold XO;rw[show k=(k.toNat:Int) by lia,HT.sIx_nat,HT.sIx_none,qD9];by_cases h:k.toNat<=xs.length
 .rw[qQ8 h,qI4 (by simp)]
 .rw[Nat.min_eq_right (by lia),qH7,List.take_zero,qM9 (by lia)]
theorem Nz{α:Type}(e:α->D){w:XA}{g:G}{b:CS}(P:ZS->ZX->Prop)(R:ZX->Prop)(n:∀B S,P B S->X9 w S)(p:α->Bool)(r:α->D):∀(l:List α) {B:ZS}{S:ZX},P B S ->
  (∀a∈l,∀B S,P B S->∃i f,g (e a) B S=.ok i f/\((p a=Z7/\∃d,b i f=.rt (r a) d/\R d)∨(p a=Z5/\∃m d,(b i f=.nx m d∨b i f=.ct m d)/\P m d))) ->
  (∃a S',l.find? p=Z9 a/\YV w g b (l.map e) B S=.rt (r a) S'/\R S')∨(∃j S',l.find? p=Z8/\YV w g b (l.map e) B S=.nx j S'/\P j S')
 |[],B,S,h0,hs=>.inr ⟨B,S,rfl,by rw[qQ5];unfold YV;rw[if_pos (n B S h0)],h0⟩
 |a::l,B,S,h0,hs=>by
  obtain⟨i,f,o,h⟩:=hs a (by simp) B S h0;rw[qB8];unfold YV;rw[if_pos (n B S h0),o];dsimp only;rcases h with⟨k,d,c,q⟩| ⟨k,m,d,c,t⟩
  .exact .inl ⟨a,d,by rw[qO0,k],by rw[c],q⟩
  .rcases Nz e P R n p r l t (λa s=>hs a (by simp[s]))with⟨a',S',f1,f2,f3⟩| ⟨j,S',f1,f2,f3⟩
   .exact .inl ⟨a',S',by rw[qO0,k];exact f1,by rcases c with c|c<;>rw[c]<;>exact f2,f3⟩
   .exact .inr ⟨j,S',by rw[qO0,k];exact f1,by rcases c with c|c<;>rw[c]<;>exact f2,f3⟩
theorem J8{xs ys:yM}(a:ZH S n=Z9 xs)(b:ZH S m=Z9 ys)(h:xs.length+ys.length<=lim):Zk (.lst n) (.lst m) S=.ok (.lst S.length) (S++[.lst (xs++ys)]):=by show(match S[n]?,S[m]? with|some (O.lst xs),Z9 (O.lst ys)=>(if xs.length+ys.length<=lim then R.ok (D.lst S.length) (S++[O.lst (xs++ys)])else .bad)| _,_=>.bad)=_;rw[V7 a,V7 b];dsimp only;rw[if_pos h]
end L2
namespace My
open PySem L2
def Ny(cl:ZQ):CS :=
 (ZV (ZM (Ur (ZT YJ (ZR [(ZY 0),(ZW (.ty "int"))])) (Qq (ZT YJ (ZR [(ZY 0),(ZW (.ty "bool"))])))))
  ZL)
def Nx(cl:Nat->ZQ):Prop:=∀n,cl (n+1) "is_whole"=Zz 1 1 (Ny (cl n))
def P7(cl:ZQ):CS :=
 (ZV (ZM (Ur (ZT (cl "is_whole") (ZR [(ZY 0)])) (TH (Yx λi j=>decide (i<=j)) (Yx λi j=>decide (i<=j)) (ZW (.int 0)) (ZY 0) (ZW (.int 1)))))
  ZL)
def J7(cl:Nat->ZQ):Prop:=∀n,cl (n+1) "is_bit"=Zz 1 1 (P7 (cl n))
def J4(cl:ZQ):C :=
 (ZU Zk (Ze (ZR [(ZW (.int 0))])) (ZY 0))
def JZ(cl:ZQ):C :=
 (ZU Zk (Ze (ZR [(ZW (.int 1))])) (ZY 0))
def JY(cl:ZQ):CS :=
 (ZV (ZE (ZU Zk (XY (Zv (ZY 1)) 1 [] .one (λ_=>ret Z7) (J4 cl)) (XY (Zv (ZY 1)) 1 [] .one (λ_=>ret Z7) (JZ cl))) (gN 1))
  ZL)
def Nw(cl:ZQ):CS :=
 (ZV (ZE (YL (ZR [(Ze (ZR []))])) (gN 1))
  (ZV (Zd (VP (ZR [(ZY 0)])) (gN 2) (JY cl))
  (ZV (ZM (ZY 1))
  ZL)))
def Rm(cl:Nat->ZQ):Prop:=∀n,cl (n+1) "settings"=Zz 1 3 (Nw (cl n))
def Nv(cl:ZQ):CS :=
 (ZV (ZM (ZU XI (ZU ZA (ZY 1) (ZU ZA (ZY 0) (ZW (.int 2)))) (ZU ZA (ZY 0) (ZW (.int 3)))))
  ZL)
def Rl(cl:Nat->ZQ):Prop:=∀n,cl (n+1) "is_shut"=Zz 2 2 (Nv (cl n))
def Nu(cl:ZQ):CS :=
 (ZV (YF (Zj (ZU Xf (ZU (YG Z5) (ZU ZA (ZY 4) (ZW (.int 0))) (ZY 2)) (ZU (YG Z5) (ZU ZA (ZY 4) (ZW (.int 1))) (ZY 2)))) (ZV (ZE (ZW (.bl Z7)) (gS (ZY 2) (ZU ZA (ZY 4) (ZW (.int 0)))))
  (ZV (ZE (ZW (.bl Z7)) (gS (ZY 2) (ZU ZA (ZY 4) (ZW (.int 1)))))
  (ZV (ZE (ZW (.bl Z7)) (gN 3))
  ZL))) ZL)
  ZL)
def Nt(cl:ZQ):CS :=
 (ZV (ZE (ZW (.bl Z5)) (gN 3))
  (ZV (Zd (Zv (ZY 1)) (gN 4) (Nu cl))
  ZL))
def Nr(cl:ZQ):CS :=
 (ZV (ZE (NS (ZY 0) (ZW (.bl Z7))) (gN 2))
  (ZV (ZE (ZW (.bl Z7)) (gN 3))
  (ZV (Wg U7 (Y7 (ZY 3)) (Nt cl))
  (ZV (ZM (ZY 2))
  ZL))))
def So(cl:Nat->ZQ):Prop:=∀n,cl (n+1) "places_from"=Zz 2 5 (Nr (cl n))
def Nq(cl:ZQ):CS :=
 (ZV (ZM (ZU (YG Z5) (ZW (.int 1)) (ZT (cl "places_from") (ZR [(ZW (.int 0)),(ZY 0)]))))
  ZL)
def P6(cl:Nat->ZQ):Prop:=∀n,cl (n+1) "joins"=Zz 1 1 (Nq (cl n))
def JX(cl:ZQ):CT :=
 (Y7 (ZT (cl "is_shut") (ZR [(ZY 0),(ZY 1)])))
def JW(cl:ZQ):C :=
 (ZY 0)
def Np(cl:ZQ):CS :=
 (ZV (ZM (XY (Zv (ZU ZA (ZY 0) (ZW (.int 2)))) 1 [1] .one (JX cl) (JW cl)))
  ZL)
def P5(cl:Nat->ZQ):Prop:=∀n,cl (n+1) "shut_contacts"=Zz 2 2 (Np (cl n))
def Nn(cl:ZQ):CS :=
 (ZV (ZM (ZT (cl "joins") (ZR [(ZT (cl "shut_contacts") (ZR [(ZY 0),(ZY 1)]))])))
  ZL)
def Nm(cl:Nat->ZQ):Prop:=∀n,cl (n+1) "lets"=Zz 2 2 (Nn (cl n))
def JV(cl:ZQ):C :=
 (ZT (cl "is_bit") (ZR [(ZY 0)]))
def Ti(cl:ZQ):CS :=
 (ZV (YF (Yy (Wp (Y7 (ZT YJ (ZR [(ZY 1),(ZW (.ty "tuple"))])))) (Zj (ZU Xf (ZT Zw (ZR [(ZY 1)])) (ZT Zw (ZR [(ZT (cl "settings") (ZR [(ZY 0)]))]))))) (ZV (ZM (ZW (.bl Z5)))
  ZL) ZL)
  (ZV (ZM (ZT (W1 λbs=>bs.all id) (ZR [(XY (Zv (ZY 1)) 1 [] .one (λ_=>ret Z7) (JV cl))])))
  ZL))
def Dq(cl:Nat->ZQ):Prop:=∀n,cl (n+1) "is_function"=Zz 2 2 (Ti (cl n))
def JU(cl:ZQ):C :=
 (TJ (Y7 (ZT (cl "lets") (ZR [(ZY 1),(ZY 0)]))) (ZW (.int 1)) (ZW (.int 0)))
def Nl(cl:ZQ):CS :=
 (ZV (ZM (ZT Ya (ZR [(XY (Zv (ZT (cl "settings") (ZR [(ZU ZA (ZY 0) (ZW (.int 0)))]))) 1 [0] .one (λ_=>ret Z7) (JU cl))])))
  ZL)
def JT(cl:Nat->ZQ):Prop:=∀n,cl (n+1) "function_of"=Zz 1 1 (Nl (cl n))
def P4(cl:ZQ):CS :=
 (ZV (ZM (ZU (Zn λi j=>i - j) (RD "int" Qk (ZT Zw (ZR [(ZY 0)]))) (ZW (.int 1))))
  ZL)
def Nj(cl:Nat->ZQ):Prop:=∀n,cl (n+1) "switches_of"=Zz 1 1 (P4 (cl n))
def nK(cl:ZQ):C :=
 (ZU (Zn j6) (ZY 0) (ZY 1))
def Dp(cl:ZQ):CS :=
 (ZV (ZM (ZT Ya (ZR [(XY (RA (ZR [(ZY 0),(ZY 1)])) 2 [] (.many 2) (λ_=>ret Z7) (nK cl))])))
  ZL)
def nJ(cl:ZQ):C :=
 (ZU (Zn vV) (ZY 0) (ZY 1))
def Do(cl:ZQ):CS :=
 (ZV (ZM (ZT Ya (ZR [(XY (RA (ZR [(ZY 0),(ZY 1)])) 2 [] (.many 2) (λ_=>ret Z7) (nJ cl))])))
  ZL)
def Dn(cl:ZQ):CS :=
 (ZV (ZM (ZU Zk (ZT Ya (ZR [(ZT Va (ZR [(YL (ZR [(ZU ZA (ZY 1) (ZU ZA (ZY 0) (ZW (.int 0)))),(ZU ZA (ZY 1) (ZU ZA (ZY 0) (ZW (.int 1))))]))]))])) (Tz VU (ZY 0) (TB (ZW (.int 2))) TC)))
  ZL)
def nI(cl:ZQ):C :=
 (ZT (cl "moved_contact") (ZR [(ZY 0),(ZY 1)]))
def Dm(cl:ZQ):CS :=
 (ZV (ZM (ZT Ya (ZR [(XY (Zv (ZY 0)) 1 [1] .one (λ_=>ret Z7) (nI cl))])))
  ZL)
def Dl(cl:ZQ):CS :=
 (ZV (YF (Zj (ZU (Yx λi j=>decide (j<i)) (ZY 1) (ZW (.int 7)))) (ZV U9
  ZL) ZL)
  (ZV (YF (Zj (ZU (Yx λi j=>decide (j<i)) (ZT Zw (ZR [(ZY 2)])) (ZW (.int 16)))) (ZV U9
  ZL) ZL)
  (ZV (ZM (Ze (ZR [(ZY 0),(ZY 1),(ZY 2)])))
  ZL)))
def Dk(cl:ZQ):CS :=
 (ZV (ZE (ZU (Zn λi j=>i - j) (ZU Zk (ZU ZA (ZY 0) (ZW (.int 1))) (ZU ZA (ZY 1) (ZW (.int 1)))) (ZW (.int 2))) (gN 2))
  (ZV (ZE (ZT (cl "moved") (ZR [(ZU ZA (ZY 0) (ZW (.int 2))),(ZU Zk (YL (ZR [(ZW (.int 0)),(ZY 2)])) (ZT Ry (ZR [(ZW (.int 2)),(ZU ZA (ZY 0) (ZW (.int 1)))])))])) (gN 3))
  (ZV (ZE (ZT (cl "moved") (ZR [(ZU ZA (ZY 1) (ZW (.int 2))),(ZU Zk (YL (ZR [(ZY 2),(ZW (.int 1))])) (ZT Ry (ZR [(ZU ZA (ZY 0) (ZW (.int 1))),(ZY 2)])))])) (gN 4))
  (ZV (ZM (ZT (cl "net_within") (ZR [(ZU ZA (ZY 0) (ZW (.int 0))),(ZU Zk (ZY 2) (ZW (.int 1))),(ZU Zk (ZY 3) (ZY 4))])))
  ZL))))
def Dj(cl:ZQ):CS :=
 (ZV (ZE (ZU (Zn λi j=>i - j) (ZU Zk (ZU ZA (ZY 0) (ZW (.int 1))) (ZU ZA (ZY 1) (ZW (.int 1)))) (ZW (.int 2))) (gN 2))
  (ZV (ZE (ZT (cl "moved") (ZR [(ZU ZA (ZY 1) (ZW (.int 2))),(ZU Zk (YL (ZR [(ZW (.int 0)),(ZW (.int 1))])) (ZT Ry (ZR [(ZU ZA (ZY 0) (ZW (.int 1))),(ZY 2)])))])) (gN 3))
  (ZV (ZM (ZT (cl "net_within") (ZR [(ZU ZA (ZY 0) (ZW (.int 0))),(ZY 2),(ZU Zk (ZU ZA (ZY 0) (ZW (.int 2))) (ZY 3))])))
  ZL)))
def Di(cl:ZQ):CS :=
 (ZV (YF (Yy (Wp (Y7 (ZT YJ (ZR [(ZY 1),(ZW (.ty "tuple"))])))) (Yy (Zj (ZU Xf (ZT Zw (ZR [(ZY 1)])) (ZW (.int 3)))) (Zj (ZU Xf (ZU ZA (ZY 1) (ZW (.int 0))) (ZW (.str (Str.ofString "at"))))))) (ZV (ZM (ZW (.bl Z5)))
  ZL) ZL)
  (ZV (ZM (Ur (ZT (cl "is_whole") (ZR [(ZU ZA (ZY 1) (ZW (.int 1)))])) (Ur (TH (Yx λi j=>decide (i<=j)) V8 (ZW (.int 0)) (ZU ZA (ZY 1) (ZW (.int 1))) (ZY 0)) (ZT (cl "is_bit") (ZR [(ZU ZA (ZY 1) (ZW (.int 2)))])))))
  ZL))
def Dh(cl:ZQ):CS :=
 (ZV (YF (Yy (Wp (Y7 (ZT YJ (ZR [(ZY 0),(ZW (.ty "tuple"))])))) (Yy (Zj (ZU Xf (ZT Zw (ZR [(ZY 0)])) (ZW (.int 2)))) (Zj (ZU (YG Z7) (ZU ZA (ZY 0) (ZW (.int 0))) (Ze (ZR [(ZW (.str (Str.ofString "row"))),(ZW (.str (Str.ofString "side")))])))))) (ZV (ZM (ZW (.bl Z5)))
  ZL) ZL)
  (ZV (ZM (Ur (ZT YJ (ZR [(ZU ZA (ZY 0) (ZW (.int 1))),(ZW (.ty "tuple"))])) (ZU (Yx λi j=>decide (j<=i)) (ZT Zw (ZR [(ZU ZA (ZY 0) (ZW (.int 1)))])) (ZW (.int 2)))))
  ZL))
def nH(cl:ZQ):CS :=
 (ZV (YF (Zj (ZU (Yx λi j=>decide (j<i)) (ZU Zk (ZY 3) (ZT Zw (ZR [(ZY 2)]))) (ZW (.int 16)))) (ZV (ZM (ZW (.bl Z5)))
  ZL) ZL)
  (ZV (ZE (RD "list" (Ye Um) (ZY 2)) (gN 4))
  (ZV (YF (Y7 (ZT (cl "is_lone") (ZR [(ZY 0),(ZY 4)]))) (ZV (ZE (ZU Zk (ZY 3) (ZW (.int 1))) (gN 3))
  ZL) (ZV (YF (Y7 (ZT (cl "has_parts") (ZR [(ZY 4)]))) (ZV (WA (WK "list" NY (ZY 2) (ZR [(ZU ZA (ZY 4) (ZW (.int 1)))])))
  ZL) (ZV (ZM (ZW (.bl Z5)))
  ZL))
  ZL))
  ZL)))
def Dg(cl:ZQ):CS :=
 (ZV (ZE (YL (ZR [(ZY 1)])) (gN 2))
  (ZV (ZE (ZW (.int 0)) (gN 3))
  (ZV (Wg U7 (Y7 (ZY 2)) (nH cl))
  (ZV (ZM (ZW (.bl Z7)))
  ZL))))
def nG(cl:ZQ):C :=
 (ZT (cl "contacts_of") (ZR [(ZY 0)]))
def Df(cl:ZQ):CS :=
 (ZV (YF (Zj (ZU XI (ZU ZA (ZY 0) (ZW (.int 0))) (ZW (.str (Str.ofString "at"))))) (ZV (ZM (ZW (.int 1)))
  ZL) ZL)
  (ZV (ZM (ZT X4 (ZR [(XY (Zv (ZU ZA (ZY 0) (ZW (.int 1)))) 1 [] .one (λ_=>ret Z7) (nG cl))])))
  ZL))
def Ni(cl:ZQ):CS :=
 (ZV (ZM (Ze (ZR [(ZY 0),(ZW (.int 2)),(Ze (ZR [(Ze (ZR [(ZW (.int 0)),(ZW (.int 1)),(ZU ZA (ZY 1) (ZW (.int 1))),(ZU ZA (ZY 1) (ZW (.int 2)))]))]))])))
  ZL)
def JS(cl:Nat->ZQ):Prop:=∀n,cl (n+1) "lone_net"=Zz 2 2 (Ni (cl n))
def nF(cl:ZQ):CS :=
 (ZV (ZE (ZT (cl "tree_function") (ZR [(ZY 0),(ZY 3)])) (gN 4))
  (ZV (ZE (TJ (Zj (ZU XI (ZU ZA (ZY 1) (ZW (.int 0))) (ZW (.str (Str.ofString "row"))))) (ZT (cl "where_both") (ZR [(ZY 2),(ZY 4)])) (ZT (cl "where_either") (ZR [(ZY 2),(ZY 4)]))) (gN 2))
  ZL))
def Sm(cl:ZQ):CS :=
 (ZV (YF (Zj (ZU XI (ZU ZA (ZY 1) (ZW (.int 0))) (ZW (.str (Str.ofString "at"))))) (ZV (ZM (ZT (cl "function_of") (ZR [(ZT (cl "lone_net") (ZR [(ZY 0),(ZY 1)]))])))
  ZL) ZL)
  (ZV (ZE (ZT (cl "tree_function") (ZR [(ZY 0),(ZU ZA (ZU ZA (ZY 1) (ZW (.int 1))) (ZW (.int 0)))])) (gN 2))
  (ZV (Zd (Zv (Tz VU (ZU ZA (ZY 1) (ZW (.int 1))) (TB (ZW (.int 1))) TC)) (gN 3) (nF cl))
  (ZV (ZM (ZY 2))
  ZL))))
def nE(cl:ZQ):CS :=
 (ZV (ZE (ZT (cl "net_of") (ZR [(ZY 0),(ZY 3)])) (gN 4))
  (ZV (ZE (TJ (Zj (ZU XI (ZU ZA (ZY 1) (ZW (.int 0))) (ZW (.str (Str.ofString "row"))))) (ZT (cl "in_row") (ZR [(ZY 2),(ZY 4)])) (ZT (cl "side_by_side") (ZR [(ZY 2),(ZY 4)]))) (gN 2))
  ZL))
def De(cl:ZQ):CS :=
 (ZV (YF (Zj (ZU XI (ZU ZA (ZY 1) (ZW (.int 0))) (ZW (.str (Str.ofString "at"))))) (ZV (ZM (ZT (cl "lone_net") (ZR [(ZY 0),(ZY 1)])))
  ZL) ZL)
  (ZV (ZE (ZT (cl "net_of") (ZR [(ZY 0),(ZU ZA (ZU ZA (ZY 1) (ZW (.int 1))) (ZW (.int 0)))])) (gN 2))
  (ZV (Zd (Zv (Tz VU (ZU ZA (ZY 1) (ZW (.int 1))) (TB (ZW (.int 1))) TC)) (gN 3) (nE cl))
  (ZV (ZM (ZY 2))
  ZL))))
def nD(cl:ZQ):C :=
 (ZT (cl "inside_out") (ZR [(ZY 0)]))
def Dd(cl:ZQ):CS :=
 (ZV (YF (Zj (ZU XI (ZU ZA (ZY 0) (ZW (.int 0))) (ZW (.str (Str.ofString "at"))))) (ZV (ZM (ZY 0))
  ZL) ZL)
  (ZV (ZE (TJ (Zj (ZU XI (ZU ZA (ZY 0) (ZW (.int 0))) (ZW (.str (Str.ofString "row"))))) (ZW (.str (Str.ofString "side"))) (ZW (.str (Str.ofString "row")))) (gN 1))
  (ZV (ZM (Ze (ZR [(ZY 1),(ZT Ya (ZR [(XY (Zv (ZU ZA (ZY 0) (ZW (.int 1)))) 1 [] .one (λ_=>ret Z7) (nD cl))]))])))
  ZL)))
def nC(cl:ZQ):C :=
 (ZT (cl "other_ons") (ZR [(ZY 0)]))
def Dc(cl:ZQ):CS :=
 (ZV (YF (Zj (ZU XI (ZU ZA (ZY 0) (ZW (.int 0))) (ZW (.str (Str.ofString "at"))))) (ZV (ZM (Ze (ZR [(ZW (.str (Str.ofString "at"))),(ZU ZA (ZY 0) (ZW (.int 1))),(ZU (Zn λi j=>i - j) (ZW (.int 1)) (ZU ZA (ZY 0) (ZW (.int 2))))])))
  ZL) ZL)
  (ZV (ZM (Ze (ZR [(ZU ZA (ZY 0) (ZW (.int 0))),(ZT Ya (ZR [(XY (Zv (ZU ZA (ZY 0) (ZW (.int 1)))) 1 [] .one (λ_=>ret Z7) (nC cl))]))])))
  ZL))
def Da(cl:ZQ):CS :=
 (ZV (ZM (ZT (cl "other_ons") (ZR [(ZT (cl "inside_out") (ZR [(ZY 0)]))])))
  ZL)
def P3(cl:ZQ):CS :=
 (ZV (ZE (ZU Zk (ZU Xs (ZY 1) (ZW (.int 2))) (ZY 2)) (gN 1))
  ZL)
def P0(cl:ZQ):CS :=
 (ZV (ZE (ZW (.int 0)) (gN 1))
  (ZV (Zd (Zv (ZY 0)) (gN 2) (P3 cl))
  (ZV (ZM (ZY 1))
  ZL)))
def Sl(cl:Nat->ZQ):Prop:=∀n,cl (n+1) "number_of"=Zz 1 3 (P0 (cl n))
def PZ(cl:ZQ):C :=
 (ZU (Zn j6) (ZU Ve (ZY 1) (ZU (Zn λi j=>i - j) (ZU (Zn λi j=>i - j) (ZY 2) (ZW (.int 1))) (ZY 0))) (ZW (.int 1)))
def PY(cl:ZQ):CS :=
 (ZV (ZM (ZT Ya (ZR [(XY (VP (ZR [(ZY 1)])) 1 [0,1] .one (λ_=>ret Z7) (PZ cl))])))
  ZL)
def JR(cl:Nat->ZQ):Prop:=∀n,cl (n+1) "function_with"=Zz 2 2 (PY (cl n))
def PX(cl:ZQ):CS :=
 (ZV (ZE (Ze (ZR [(ZW (.str (Str.ofString "at"))),(ZY 2),(ZY 3)])) (gN 4))
  (ZV (ZE (ZY 4) (gS (ZY 1) (ZT (cl "number_of") (ZR [(ZT (cl "tree_function") (ZR [(ZY 0),(ZY 4)]))]))))
  ZL))
def Nh(cl:ZQ):CS :=
 (ZV (Zd (Zv (Ze (ZR [(ZW (.int 0)),(ZW (.int 1))]))) (gN 3) (PX cl))
  ZL)
def PV(cl:ZQ):CS :=
 (ZV (ZE Rx (gN 1))
  (ZV (Zd (VP (ZR [(ZY 0)])) (gN 2) (Nh cl))
  (ZV (ZM (ZY 1))
  ZL)))
def Ng(cl:Nat->ZQ):Prop:=∀n,cl (n+1) "first_level"=Zz 1 5 (PV (cl n))
def Rk(cl:ZQ):CS :=
 (ZV (YF (SD (Zj (ZU (YG Z7) (ZY 7) (ZY 3))) (Zj (ZU (YG Z7) (ZY 7) (ZY 0)))) (ZV (ZE (Ze (ZR [(ZY 6),(Ze (ZR [(ZU ZA (ZY 1) (ZY 4)),(ZU ZA (ZY 2) (ZY 5))]))])) (gS (ZY 0) (ZY 7)))
  ZL) ZL)
  ZL)
def JQ(cl:ZQ):CS :=
 (ZV (Zd (Zv (Ze (ZR [(Ze (ZR [(ZW (.str (Str.ofString "row"))),(ZU (Zn j6) (ZY 4) (ZY 5))])),(Ze (ZR [(ZW (.str (Str.ofString "side"))),(ZU (Zn vV) (ZY 4) (ZY 5))]))]))) (gT [(gN 6),(gN 7)]) (Rk cl))
  ZL)
def JP(cl:ZQ):CS :=
 (ZV (Zd (Zv (ZY 2)) (gN 5) (JQ cl))
  ZL)
def PU(cl:ZQ):CS :=
 (ZV (Zd (Zv (ZY 1)) (gN 4) (JP cl))
  ZL)
def Sk(cl:Nat->ZQ):Prop:=∀n,cl (n+1) "add_made"=Zz 4 8 (PU (cl n))
def PR(cl:ZQ):CS :=
 (ZV (WA (ZT (cl "add_made") (ZR [(ZY 3),(ZU ZA (ZY 0) (ZY 4)),(ZU ZA (ZY 0) (ZU (Zn λi j=>i - j) (ZU (Zn λi j=>i - j) (ZT Zw (ZR [(ZY 0)])) (ZW (.int 1))) (ZY 4))),(ZY 1)])))
  ZL)
def PQ(cl:ZQ):CS :=
 (ZV (WA (WK "dict" VR (ZY 1) (ZR [(ZY 2)])))
  ZL)
def PP(cl:ZQ):CS :=
 (ZV (ZE Rx (gN 1))
  (ZV (Zd (Zv (ZY 0)) (gN 2) (PQ cl))
  (ZV (ZE Rx (gN 3))
  (ZV (Zd (VP (ZR [(ZU WL (ZU Zk (ZT Zw (ZR [(ZY 0)])) (ZW (.int 1))) (ZW (.int 2)))])) (gN 4) (PR cl))
  (ZV (ZM (ZY 3))
  ZL)))))
def PN(cl:Nat->ZQ):Prop:=∀n,cl (n+1) "further_level"=Zz 1 5 (PP (cl n))
def Rj(cl:ZQ):CS :=
 (ZV (WA (WK "list" (Ye Xr) (ZY 2) (ZR [(ZT (cl "further_level") (ZR [(ZY 2)]))])))
  ZL)
def PM(cl:ZQ):CS :=
 (ZV (ZE (ZT (cl "switches_of") (ZR [(ZY 0)])) (gN 1))
  (ZV (YF (Zj (ZU (Yx λi j=>decide (j<i)) (ZY 1) (ZW (.int 3)))) (ZV U9
  ZL) ZL)
  (ZV (ZE (YL (ZR [(ZT (cl "first_level") (ZR [(ZY 1)]))])) (gN 2))
  (ZV (Wg U7 (Zj (ZU (YG Z7) (ZT (cl "number_of") (ZR [(ZY 0)])) (ZU ZA (ZY 2) (Vh XG (ZW (.int 1)))))) (Rj cl))
  (ZV (ZM (ZY 2))
  ZL)))))
def C9(cl:Nat->ZQ):Prop:=∀n,cl (n+1) "levels_to"=Zz 1 3 (PM (cl n))
def PL(cl:ZQ):CS :=
 (ZV (ZM (ZT Zw (ZR [(ZT (cl "levels_to") (ZR [(ZY 0)]))])))
  ZL)
def nB(cl:Nat->ZQ):Prop:=∀n,cl (n+1) "fewest"=Zz 1 1 (PL (cl n))
def Sj(cl:ZQ):CS :=
 (ZV (ZM (ZU ZA (ZU ZA (ZT (cl "levels_to") (ZR [(ZY 0)])) (Vh XG (ZW (.int 1)))) (ZT (cl "number_of") (ZR [(ZY 0)]))))
  ZL)
def PK(cl:ZQ):C :=
 (ZU V8 (ZY 0) (ZY 1))
def PJ(cl:ZQ):C :=
 (ZT (cl "is_function") (ZR [(ZY 1),(ZY 0)]))
def Ua(cl:ZQ):CS :=
 (ZV (YF (Yy (Wp (Y7 (ZT YJ (ZR [(ZY 1),(ZW (.ty "list"))])))) (Wp (Y7 (ZT (W1 λbs=>bs.all id) (ZR [(XY (Zv (ZY 1)) 1 [0] .one (λ_=>ret Z7) (PJ cl))]))))) (ZV (ZM (ZW (.bl Z5)))
  ZL) ZL)
  (ZV (ZM (ZT (W1 λbs=>bs.all id) (ZR [(XY (RA (ZR [(ZY 1),(Tz VU (ZY 1) (TB (ZW (.int 1))) TC)])) 2 [] (.many 2) (λ_=>ret Z7) (PK cl))])))
  ZL))
def C8(cl:Nat->ZQ):Prop:=∀n,cl (n+1) "is_rising_list"=Zz 2 2 (Ua (cl n))
def Ri(cl:ZQ):CS :=
 (ZV (YF (Yy (Zj (ZU (YG Z7) (ZU (Zn j6) (ZY 3) (ZY 4)) (ZY 0))) (Zj (ZU (YG Z7) (ZU (Zn vV) (ZY 3) (ZY 4)) (ZY 0)))) (ZV (ZM (ZW (.bl Z5)))
  ZL) ZL)
  ZL)
def Rh(cl:ZQ):CS :=
 (ZV (Zd (Zv (ZY 2)) (gN 4) (Ri cl))
  ZL)
def PH(cl:ZQ):CS :=
 (ZV (Zd (Zv (ZY 1)) (gN 3) (Rh cl))
  (ZV (ZM (ZW (.bl Z7)))
  ZL))
def C7(cl:Nat->ZQ):Prop:=∀n,cl (n+1) "has_all_made"=Zz 3 5 (PH (cl n))
def Th(cl:ZQ):CS :=
 (ZV (YF (Wp (Y7 (ZT (cl "has_all_made") (ZR [(ZY 1),(ZU ZA (ZY 0) (ZY 3)),(ZU ZA (ZY 0) (ZU (Zn λi j=>i - j) (ZU (Zn λi j=>i - j) (ZT Zw (ZR [(ZY 0)])) (ZW (.int 1))) (ZY 3)))])))) (ZV (ZM (ZW (.bl Z5)))
  ZL) ZL)
  ZL)
def PF(cl:ZQ):C :=
 (ZU (YG Z5) (ZY 0) (ZY 1))
def Tf(cl:ZQ):CS :=
 (ZV (YF (Wp (Y7 (ZY 0))) (ZV (ZM (ZT (W1 λbs=>bs.all id) (ZR [(XY (Zv (ZT (cl "first_level") (ZR [(ZY 2)]))) 1 [1] .one (λ_=>ret Z7) (PF cl))])))
  ZL) ZL)
  (ZV (Zd (VP (ZR [(ZU WL (ZU Zk (ZT Zw (ZR [(ZY 0)])) (ZW (.int 1))) (ZW (.int 2)))])) (gN 3) (Th cl))
  (ZV (ZM (ZW (.bl Z7)))
  ZL)))
def nz(cl:Nat->ZQ):Prop:=∀n,cl (n+1) "goes_on"=Zz 3 4 (Tf (cl n))
def Rg(cl:ZQ):C :=
 (Ze (ZR [(ZT (cl "number_of") (ZR [(ZY 0)])),(ZW (.bl Z7))]))
def V6(cl:ZQ):CS :=
 (ZV (YF (Wp (Y7 (ZT (cl "is_rising_list") (ZR [(ZY 2),(ZY 4)])))) (ZV (ZM (ZW (.bl Z5)))
  ZL) ZL)
  (ZV (ZE (ZT US (ZR [(XY (Zv (ZY 4)) 1 [] .one (λ_=>ret Z7) (Rg cl))])) (gN 5))
  (ZV (YF (Yy (Zj (ZU (YG Z5) (ZT (cl "number_of") (ZR [(ZY 0)])) (ZY 5))) (Wp (Y7 (ZT (cl "goes_on") (ZR [(ZY 3),(ZY 5),(ZY 2)]))))) (ZV (ZM (ZW (.bl Z5)))
  ZL) ZL)
  (ZV (WA (WK "list" (Ye Xr) (ZY 3) (ZR [(ZY 5)])))
  ZL))))
def Si(cl:ZQ):CS :=
 (ZV (YF (Wp (Y7 (ZT YJ (ZR [(ZY 1),(ZW (.ty "tuple"))])))) (ZV (ZM (ZW (.bl Z5)))
  ZL) ZL)
  (ZV (ZE (ZT (cl "switches_of") (ZR [(ZY 0)])) (gN 2))
  (ZV (ZE (YL (ZR [])) (gN 3))
  (ZV (Zd (Zv (ZY 1)) (gN 4) (V6 cl))
  (ZV (ZM (ZW (.bl Z7)))
  ZL)))))
def ny(cl:Nat->ZQ):Prop:=∀n,cl (n+1) "is_paper"=Zz 2 6 (Si (cl n))
def Nf(cl:ZQ):C :=
 (ZT (cl "function_with") (ZR [(ZY 0),(ZT Zw (ZR [(ZY 1)]))]))
def Rf(cl:ZQ):CS :=
 (ZV (ZE (ZT Va (ZR [(ZU Zk (ZY 1) (ZT Tt (ZR [(ZY 3)])))])) (gN 1))
  (ZV (WA (WK "list" (Ye Xr) (ZY 2) (ZR [(XY (Zv (ZY 1)) 1 [0] .one (λ_=>ret Z7) (Nf cl))])))
  ZL))
def PD(cl:ZQ):CS :=
 (ZV (ZE (YL (ZR [])) (gN 1))
  (ZV (ZE (YL (ZR [])) (gN 2))
  (ZV (Zd (Zv (Tz VU (ZT (cl "levels_to") (ZR [(ZY 0)])) TC (TB (Vh XG (ZW (.int 1)))))) (gN 3) (Rf cl))
  (ZV (ZM (ZT Ya (ZR [(ZY 2)])))
  ZL))))
def nv(cl:Nat->ZQ):Prop:=∀n,cl (n+1) "paper_of"=Zz 1 4 (PD (cl n))
def PC(cl:ZQ):CS :=
 (ZV (ZE (ZU Xs (ZY 1) (ZW (.int 2))) (gN 1))
  ZL)
def PB(cl:ZQ):CS :=
 (ZV (ZE (ZW (.int 1)) (gN 1))
  (ZV (Zd (Zv (ZT (cl "settings") (ZR [(ZY 0)]))) (gN 2) (PC cl))
  (ZV (ZM (ZY 1))
  ZL)))
def C6(cl:Nat->ZQ):Prop:=∀n,cl (n+1) "how_many_functions"=Zz 1 3 (PB (cl n))
def Nd(cl:ZQ):C :=
 (ZT Zw (ZR [(ZY 0)]))
def Pz(cl:ZQ):C :=
 (ZT Zw (ZR [(ZY 0)]))
def Py(cl:ZQ):CS :=
 (ZV (WA (WK "list" (Ye Xr) (ZY 1) (ZR [(ZT (cl "further_level") (ZR [(ZY 1)]))])))
  ZL)
def Px(cl:ZQ):CS :=
 (ZV (ZE (YL (ZR [(ZT (cl "first_level") (ZR [(ZY 0)]))])) (gN 1))
  (ZV (Wg U7 (Zj (ZU V8 (ZT X4 (ZR [(XY (Zv (ZY 1)) 1 [] .one (λ_=>ret Z7) (Pz cl))])) (ZT (cl "how_many_functions") (ZR [(ZY 0)])))) (Py cl))
  (ZV (ZM (XY (Zv (ZY 1)) 1 [] .one (λ_=>ret Z7) (Nd cl)))
  ZL)))
def nu(cl:Nat->ZQ):Prop:=∀n,cl (n+1) "fewest_many"=Zz 1 2 (Px (cl n))
def Pw(cl:ZQ):CS :=
 (ZV (YF (Zj (ZU V8 (ZY 1) (ZT Zw (ZR [(ZY 0)])))) (ZV (ZM (ZU ZA (ZY 0) (ZY 1)))
  ZL) ZL)
  (ZV (ZM (ZW (.int 0)))
  ZL))
def JO(cl:Nat->ZQ):Prop:=∀n,cl (n+1) "_law_cell_at"=Zz 2 2 (Pw (cl n))
def Pv(cl:ZQ):CS :=
 (ZV (ZE (ZT (cl "_law_cell_at") (ZR [(ZY 0),(ZY 1)])) (gN 2))
  (ZV (YF (Zj (ZU (Yx λi j=>decide (j<=i)) (ZY 2) (ZU VW (ZW (.int 10)) (ZW (.int 18))))) (ZV (ZM (YL (ZR [(ZU (Zn λi j=>i - j) (ZY 2) (ZU VW (ZW (.int 10)) (ZW (.int 18)))),(ZW (.bl Z7))])))
  ZL) ZL)
  (ZV (ZM (YL (ZR [(ZU Xg (ZY 2) (ZW (.int 2147483647))),(ZW (.bl Z5))])))
  ZL)))
def C5(cl:Nat->ZQ):Prop:=∀n,cl (n+1) "_law_state"=Zz 2 3 (Pv (cl n))
def Pu(cl:ZQ):CS :=
 (ZV (YF (Y7 (ZU ZA (ZY 0) (ZW (.int 1)))) (ZV (ZE (ZU Xg (ZU ZA (ZY 0) (ZW (.int 0))) (ZY 1)) (gN 2))
  (ZV (ZE (ZU WL (ZU ZA (ZY 0) (ZW (.int 0))) (ZY 1)) (gS (ZY 0) (ZW (.int 0))))
  (ZV (ZM (ZY 2))
  ZL))) ZL)
  (ZV (ZE (ZU Xg (ZU Zk (ZU Xs (ZU ZA (ZY 0) (ZW (.int 0))) (ZW (.int 48271))) (ZW (.int 29))) (ZW (.int 2147483647))) (gS (ZY 0) (ZW (.int 0))))
  (ZV (ZE (ZU Xg (ZU Zk (ZU Zk (ZU Xs (ZU ZA (ZY 0) (ZW (.int 0))) (ZU ZA (ZY 0) (ZW (.int 0)))) (ZU Xs (ZW (.int 39373)) (ZU ZA (ZY 0) (ZW (.int 0))))) (ZW (.int 7))) (ZW (.int 2147483629))) (gN 3))
  (ZV (ZE (ZU Xg (ZU Zk (ZU Xs (ZY 3) (ZY 3)) (ZU Xs (ZW (.int 16807)) (ZY 3))) (ZW (.int 2147483587))) (gN 3))
  (ZV (ZM (ZU Xg (ZU WL (ZY 3) (ZW (.int 8))) (ZY 1)))
  ZL)))))
def Nc(cl:Nat->ZQ):Prop:=∀n,cl (n+1) "_law_take"=Zz 2 4 (Pu (cl n))
def Pt(cl:ZQ):C :=
 (ZT (cl "_law_take") (ZR [(ZY 1),(ZW (.int 2))]))
def Pr(cl:ZQ):CS :=
 (ZV (ZM (ZT Ya (ZR [(XY (VP (ZR [(ZU Wn (ZW (.int 1)) (ZY 1))])) 1 [0] .one (λ_=>ret Z7) (Pt cl))])))
  ZL)
def C3(cl:Nat->ZQ):Prop:=∀n,cl (n+1) "_law_some_function"=Zz 2 2 (Pr (cl n))
def JN(cl:ZQ):CS :=
 (ZV (WA (WK "list" (Ye RC) (ZY 2) (ZR [(ZT (cl "_law_take") (ZR [(ZY 0),(ZU Zk (ZY 3) (ZW (.int 1)))])),(ZY 3)])))
  ZL)
def Nb(cl:ZQ):CS :=
 (ZV (ZE (YL (ZR [])) (gN 2))
  (ZV (Zd (VP (ZR [(ZY 1)])) (gN 3) (JN cl))
  (ZV (ZM (ZT Ya (ZR [(ZY 2)])))
  ZL)))
def C2(cl:Nat->ZQ):Prop:=∀n,cl (n+1) "_law_order"=Zz 2 4 (Nb (cl n))
def Pq(cl:ZQ):C :=
 (ZU (Zn fD) (ZU ZA (ZY 1) (ZU ZA (ZY 2) (ZY 0))) (ZT VS (ZR [(ZU (YG Z5) (ZY 0) (ZY 3))])))
def Pp(cl:ZQ):CS :=
 (ZV (ZE (ZT Ya (ZR [(XY (VP (ZR [(ZT Zw (ZR [(ZY 3)]))])) 1 [5,3,2] .one (λ_=>ret Z7) (Pq cl))])) (gN 6))
  (ZV (WA (WK "list" (Ye Xr) (ZY 4) (ZR [(ZU ZA (ZY 0) (WK "list" Sy (ZY 1) (ZR [(ZY 6)])))])))
  ZL))
def Po(cl:ZQ):CS :=
 (ZV (ZE (YL (ZR [])) (gN 4))
  (ZV (Zd (Zv (ZY 1)) (gN 5) (Pp cl))
  (ZV (ZM (ZT Ya (ZR [(ZY 4)])))
  ZL)))
def C1(cl:Nat->ZQ):Prop:=∀n,cl (n+1) "_law_moved"=Zz 4 7 (Po (cl n))
def Pn(cl:ZQ):CS :=
 (ZV (ZE (ZT (cl "fewest_tree") (ZR [(ZY 1)])) (gN 3))
  (ZV (YF (Yy (Zj (ZU Uq (ZT (cl "is_tree") (ZR [(ZY 0),(ZY 3)])) (ZW (.bl Z7)))) (Zj (ZU Xf (ZT (cl "contacts_of") (ZR [(ZY 3)])) (ZY 2)))) (ZV (ZM (ZW (.bl Z5)))
  ZL) ZL)
  (ZV (YF (Yy (Zj (ZU Xf (ZT (cl "tree_function") (ZR [(ZY 0),(ZY 3)])) (ZY 1))) (Zj (ZU Xf (ZT (cl "contacts_of") (ZR [(ZT (cl "against") (ZR [(ZY 3)]))])) (ZY 2)))) (ZV (ZM (ZW (.bl Z5)))
  ZL) ZL)
  (ZV (ZV (ZM (ZU XI (ZT (cl "function_of") (ZR [(ZT (cl "net_of") (ZR [(ZY 0),(ZY 3)]))])) (ZY 1)))
  ZL)
  ZL))))
def Sh(cl:ZQ):CS :=
 (ZV (ZE (ZT (cl "paper_of") (ZR [(ZY 0)])) (gN 2))
  (ZV (YF (Yy (Zj (ZU Uq (ZT (cl "is_paper") (ZR [(ZY 0),(ZY 2)])) (ZW (.bl Z7)))) (Zj (ZU Xf (ZT Zw (ZR [(ZY 2)])) (ZU (Zn λi j=>i - j) (ZY 1) (ZW (.int 1)))))) (ZV (ZM (ZW (.bl Z5)))
  ZL) ZL)
  (ZV (ZM (Vg (ZU XI (ZY 2) (Ze (ZR []))) (Qq (ZT (cl "is_paper") (ZR [(ZY 0),(ZU Zk (ZY 2) (Ze (ZR [(NW (ZR [(ZU Zk (ZU ZA (ZY 2) (Vh XG (ZW (.int 1)))) (YL (ZR [(ZY 0)])))]))])))])))))
  ZL)))
def nt(cl:Nat->ZQ):Prop:=∀n,cl (n+1) "_law_paper_right"=Zz 2 3 (Sh (cl n))
def Na(cl:ZQ):C :=
 (ZU (Zn λi j=>i - j) (ZW (.int 1)) (ZY 0))
def Pm(cl:ZQ):CT :=
 (Zj (ZU XI (ZT (cl "_law_take") (ZR [(ZY 1),(ZW (.int 2))])) (ZW (.int 0))))
def Pl(cl:ZQ):C :=
 (ZY 0)
def T9(cl:ZQ):CS :=
 (ZV (ZE (ZT (cl "_law_state") (ZR [(ZY 0),(ZY 1)])) (gN 2))
  (ZV (ZE (ZT Wm (ZR [(ZU ZA (YL (ZR [(ZW (.int 1)),(ZW (.int 2)),(ZW (.int 2)),(ZW (.int 3))])) (ZT (cl "_law_take") (ZR [(ZY 2),(ZW (.int 4))]))),(ZU (Zn λi j=>i - j) (ZW (.int 3)) (ZT Wm (ZR [(ZY 1),(ZW (.int 1))])))])) (gN 3))
  (ZV (ZE (ZT (cl "_law_some_function") (ZR [(ZY 2),(ZY 3)])) (gN 4))
  (ZV (ZE (ZT (cl "fewest") (ZR [(ZY 4)])) (gN 5))
  (ZV (YF (Yy (Zj (ZU Uq (ZT (cl "is_function") (ZR [(ZY 3),(ZY 4)])) (ZW (.bl Z7)))) (Wp (Y7 (ZT (cl "_law_tree_right") (ZR [(ZY 3),(ZY 4),(ZY 5)]))))) (ZV (ZM (ZW (.bl Z5)))
  ZL) ZL)
  (ZV (YF (SD (Zj (ZU V8 (ZY 5) (ZW (.int 6)))) (Wp (Y7 (ZT (cl "_law_paper_right") (ZR [(ZY 4),(ZY 5)]))))) (ZV (ZM (ZW (.bl Z5)))
  ZL) ZL)
  (ZV (ZE (ZT Ya (ZR [(XY (VP (ZR [(ZY 3)])) 1 [2] .one (Pm cl) (Pl cl))])) (gN 6))
  (ZV (ZE (YL (ZR [(ZT (cl "_law_moved") (ZR [(ZY 4),(ZT (cl "settings") (ZR [(ZY 3)])),(ZY 6),(ZT (cl "_law_order") (ZR [(ZY 2),(ZY 3)]))]))])) (gN 7))
  (ZV (WA (WK "list" (Ye Xr) (ZY 7) (ZR [(ZT Ya (ZR [(XY (Zv (ZY 4)) 1 [] .one (λ_=>ret Z7) (Na cl))]))])))
  (ZV (YF (Zj (ZU Xf (ZT (cl "fewest") (ZR [(ZU ZA (ZY 7) (ZT (cl "_law_take") (ZR [(ZY 2),(ZW (.int 2))])))])) (ZY 5))) (ZV (ZM (ZW (.bl Z5)))
  ZL) ZL)
  (ZV (YF (SD (Zj (ZU V8 (ZY 3) (ZW (.int 3)))) (Zj (ZU Xf (ZT X4 (ZR [(ZT (cl "fewest_many") (ZR [(ZY 3)]))])) (ZU Wn (ZW (.int 1)) (ZU Wn (ZW (.int 1)) (ZY 3)))))) (ZV (ZM (ZW (.bl Z5)))
  ZL) ZL)
  ZL)))))))))))
def Pk(cl:ZQ):CS :=
 (ZV (Zd (VP (ZR [(ZT Vd (ZR [(ZW (.int 1)),(ZT Wm (ZR [(ZT Zw (ZR [(ZY 0)])),(ZW (.int 2))]))]))])) (gN 1) (T9 cl))
  (ZV (ZM (ZW (.bl Z7)))
  ZL))
def nr(cl:Nat->ZQ):Prop:=∀n,cl (n+1) "law"=Zz 1 8 (Pk (cl n))
variable {cl:Nat->ZQ}
theorem nq(h:JO cl)(n:Nat)(a:yA)(k:Int)(hk:0<=k)(S:ZX):∃c,cl (n+1) "_law_cell_at" [.rol (a.map D.int),.int k] S=.ok (.int c) S:=by
 by_cases b:k<a.length
 .refine⟨a[k.toNat]'(by lia),?_⟩;have e:=by have q:=Vz (xs:=a.map D.int) (j:=k.toNat) (by rw[qB1,qA2 (by lia)];rfl);rw[show(k.toNat:Int)=k by lia]at q;exact q
  rw[h];refine Y0 rfl ?_;simp[Pw,Yn,b,e]
 .refine⟨0,?_⟩;rw[h];refine Y0 rfl ?_;simp[Pw,Yn,b]
def YH(S:ZX)(i:Nat):Prop:=∃s b,ZH S i=Z9 [.int s,.bl b]/\(b=Z5->0<=s/\s<2147483647)
theorem YH.lt(h:YH S i):i<S.length:=by obtain⟨s,b,e,_⟩:=h;exact Ud e
theorem YH.ex(h:YH S i)(e:Ex S S'):YH S' i:=by obtain⟨s,b,q,r⟩:=h;exact⟨s,b,e.lst q (λz=>z),r⟩
theorem nj(h:C5 cl)(f:JO cl)(n:Nat)(b:yA)(k:Int)(hk:0<=k)(S:ZX):∃a,cl (n+2) "_law_state" [.rol (b.map D.int),.int k] S=.ok (.lst S.length) a/\Ex S a/\YH a S.length:=by
 obtain⟨c,d⟩:=nq f n b k hk S;rw[show n+2=(n+1)+1 from rfl,h];by_cases e:1000000000000000000<=c
 .refine⟨S++[.lst [.int (c - 1000000000000000000),.bl Z7]],Y0 rfl ?_,YQ _ _,_,_,Yw _ _,λz=>by cases z⟩;simp[Pv,Yn,d,e]
 .refine⟨S++[.lst [.int (c % 2147483647),.bl Z5]],Y0 rfl ?_,YQ _ _,_,_,Yw _ _,λ_=>⟨qO1 _ (by decide),qM1 _ (by decide)⟩⟩;simp[Pv,Yn,d,e]
theorem Pj(b:-18446744073709551616<j)(a:j<18446744073709551616):Wo i j=Z7:=by unfold Wo;simp[b,a]
@[simp]theorem zb3:Wu 2 0=Z9 0:=rfl
inductive ni(c:ZQ)(S:ZX)(i:Nat)(m:Int):Prop
 |mk (r:Int) (S1:ZX) (e:c "_law_take" [.lst i,.int m] S=.ok (.int r) S1) (a:0<=r) (b:r<m) (k:Kp (·=i) S S1) (l:S1.length=S.length) (st:YH S1 i)
theorem Pi(h:Nc cl)(n:Nat)(q:YH S i)(c:0<m)(f:m<1073741824):ni (cl (n+1)) S i m:=by
 obtain⟨s,b,a,r⟩:=q;have d:=Ue a;cases b with
 |true =>
  refine⟨s % m,S.set i (.lst [.int (s / m),.bl Z7]),?_,qO1 _ (by lia),qM1 _ c,VI _ _,by simp,⟨_,_,UQ a,λz=>by cases z⟩⟩;rw[h];refine Y0 rfl ?_;simp[Pu,Yn,d,c,f,DB a]
 |false =>
  generalize hz:(s*48271+29) % 2147483647=z;have j:0<=z:=by rw[<- hz];exact qO1 _ (by decide)
  have o:z<2147483647:=by rw[<- hz];exact qM1 _ (by decide)
  generalize hy:(z*z+39373*z+7) % 2147483629=y;generalize hx:(y*y+16807*y) % 2147483587=x;refine⟨x / 8 % m,S.set i (.lst [.int z,.bl Z5]),?_,qO1 _ (by lia),qM1 _ c,VI _ _,by simp,⟨_,_,UQ a,λ_=>⟨j,o⟩⟩⟩;rw[h];refine Y0 rfl ?_;have e:=Ue (UQ (ys:=[.int z,.bl Z5]) a);have p:Wo s 48271=Z7:=Pj (by decide) (by decide);have k2:Wo z z=Z7:=Pj (by lia) (by lia);have g:Wo 39373 z=Z7:=Pj (by lia) (by lia);have l:Wo y y=Z7:=Pj (by lia) (by lia);have k:Wo 16807 y=Z7:=Pj (by lia) (by lia);simp[Pu,Yn,d,DB a,p,hz,e,k2,g,hy,l,k,hx,c]
structure Ct where
 a:Int
 b:Int
 k:Int
 o:Int
 deriving DecidableEq
abbrev yN:=List Ct
def Ct.d(c:Ct):D:=.tup [.int c.a,.int c.b,.int c.k,.int c.o]
def Ct.ok(sw pl:Int)(c:Ct):Prop:=0<=c.a/\c.a<c.b/\c.b<pl/\0<=c.k/\c.k<sw/\0<=c.o/\c.o<2
structure XN where
 sw:Int
 pl:Int
 cs:yN
def XN.d(n:XN):D:=.tup [.int n.sw,.int n.pl,.tup (n.cs.map Ct.d)]
structure XN.ok(ms mp mc:Int)(n:XN):Prop where
 s1:1<=n.sw
 s2:n.sw<=ms
 p1:2<=n.pl
 p2:n.pl<=mp
 c1:(n.cs.length:Int)<=mc
 c2:∀c∈n.cs,c.ok n.sw n.pl
theorem C0(lo:Int)(n:Nat):(Y3 lo n).length=n:=by unfold Y3;simp
theorem XX:lim=1048576:=rfl
theorem _root_.L2.Kp.setNew{P:Nat->Prop}{S0 S:ZX}{l:Nat}{o:O}(h:Kp P S0 S)(b:S0.length<=l):Kp P S0 (S.set l o) :=
 ⟨by rw[qJ2];exact h.le,λj a n=>by rw[qE5 (by lia)];exact h.eq j a n⟩
theorem YH.setO(h:YH S i)(a:l≠i):YH (S.set l o) i:=by obtain⟨s,b,q,r⟩:=h;exact⟨s,b,NI (by rw[qE5 a];exact V7 q),r⟩
@[simp]theorem JM:(Y3 lo n)[i]?=Z9 d↔i<n/\d=.int (lo+i):=by
 unfold Y3;rw[qB1];by_cases h:i<n
 .rw[qI2 h];simp[h,eq_comm]
 .simp[h]
end My
namespace Mt
def Ph(es:List (Int×Int)):Prop:=∀C:Int->Prop,C 0->(∀e∈es,(C e.1↔C e.2))->C 1
structure M9(es:List (Int×Int))(s:Int)(F:Int->Prop):Prop where
 start:F s
 closed:∀e∈es,(F e.1↔F e.2)
 least:∀C:Int->Prop,C s->(∀e∈es,(C e.1↔C e.2))->∀x,F x->C x
theorem M9.joined(h:M9 es 0 F):F 1↔Ph es:=⟨λf C a b=>h.least C a b 1 f,λj=>j F h.start h.closed⟩
theorem nh{α:Type}{p q:α->Bool}{l:List α}(h:∀x,p x=Z7->q x=Z7){a:α}(d:a∈l)(f:q a=Z7)(g:p a=Z5):(l.filter p).length<(l.filter q).length:=by
 induction l with
 |nil=>cases d
 |cons x r b =>
  have i:(r.filter p).length<=(r.filter q).length:=by
   clear b d
   induction r with
   |nil=>simp
   |cons y r b =>
    rw[qH4,qH4];cases c:p y with
    |true=>rw[h y c];simpa using b
    |false =>
     cases q y with
     |true=>simp;lia
     |false=>simpa using b
  rw[qH4,qH4];rcases qB0.mp d with e|e
  .subst e;rw[f,g];simp;lia
  .have:=b e;cases c:p x with
   |true=>rw[h x c];simpa using this
   |false =>
    cases q x with
    |true=>simp;lia
    |false=>simpa using this
def ZZ(a:yA)(x:Int):Prop:=0<=x/\a[x.toNat]?=Z9 0
end Mt
namespace My
open PySem L2 Mt
variable {cl:Nat->ZQ}
def Zi(st:yA):D:=.tup (st.map D.int)
def T8(c:Ct)(st:yA):Bool:=decide (st.getD c.k.toNat 0=c.o)
theorem nc{l:yA}{k:Int}(b:0<=k)(a:k<l.length):Yk (l.map D.int) k=Z9 (.int (l.getD k.toNat 0)):=by
 have e:l[k.toNat]?=Z9 (l.getD k.toNat 0):=by rw[qF4,qA2 (by lia)];rfl
 have q:=Vz (xs:=l.map D.int) (by rw[qB1,e];rfl);rw[show(k.toNat:Int)=k by lia]at q;exact q
theorem m4(h:Rl cl)(n:Nat)(c:Ct)(st:yA)(b:0<=c.k)(a:c.k<st.length)(S:ZX):cl (n+1) "is_shut" [c.d,Zi st] S=.ok (.bl (T8 c st)) S:=by rw[h];refine Y0 rfl ?_;simp[Nv,Yn,Ct.d,Zi,nc b a,T8]
theorem CZ:(1000:Nat)<lim:=by decide
def Xe(a:yN):List (Int×Int):=a.map λc=>(c.a,c.b)
def Xp(a:Nat)(fs:yA):Nat:=((List.range a).filter fun(v:Nat)=>decide ((v:Int)∈fs)).length
theorem JL(BB:Nat)(fs:yA):Xp BB fs<=BB:=by unfold Xp;have:=qJ1 (fun(v:Nat)=>decide ((v:Int)∈fs)) (List.range BB);simpa using this
theorem CY{b:Nat}(h:∀x,x∈fs->x∈gs){x:Int}(e:x∈gs)(d:x∉fs)(f:0<=x)(g:x<b):Xp b fs<Xp b gs:=by
 refine nh (a:=x.toNat) (λv c=>?_) ?_ ?_ ?_
 .simp only[decide_eq_true_eq]at c ⊢;exact h _ c
 .rw[qC9];lia
 .simp only[decide_eq_true_eq];rw[show(x.toNat:Int)=x by lia];exact e
 .simp only[decide_eq_false_iff_not];rw[show(x.toNat:Int)=x by lia];exact d
theorem JK(fs:yA)(a:Int):(YX fs a).length<=fs.length+1:=by unfold YX;split<;>simp
def pE(s:Int)(k l:Nat)(g:Bool)(v:Option D):ZS:=[Z9 (.int s),Z9 (.lst k),Z9 (.dct l),Z9 (.bl g),v]
def JI(a:yN)(s:Int)(fs:yA):Prop:=∀C:Int->Prop,C s->(∀e∈Xe a,(C e.1↔C e.2))->∀x∈fs,C x
inductive mA(cs:yN)(s:Int)(k:Nat)(S:ZX)(m:Nat)(B:ZS)(S':ZX):Prop
 |mk (fs:yA) (g:Bool) (v4:Option D) (e:B=pE s k S.length g v4) (kp:Kp (·=S.length) (S++[.dk (Zh [s])]) S') (hf:S'[S.length]?=Z9 (.dk (Zh fs))) (r1:s∈fs) (r2:JI cs s fs) (r3:g=Z5->∀e∈Xe cs,(e.1∈fs↔e.2∈fs)) (r4:g=Z7->m+Xp 7 fs=9) (r5:fs.length+200*m<=2000) (nd:fs.Nodup)
inductive mz(cs:yN)(s:Int)(k:Nat)(S:ZX)(B:ZS)(S':ZX):Prop
 |mk (fs:yA) (v4:Option D) (e:B=pE s k S.length Z5 v4) (kp:Kp (·=S.length) (S++[.dk (Zh [s])]) S') (hf:S'[S.length]?=Z9 (.dk (Zh fs))) (r1:s∈fs) (r2:JI cs s fs) (r3:∀e∈Xe cs,(e.1∈fs↔e.2∈fs)) (nd:fs.Nodup)
inductive mx(cs:yN)(s:Int)(k:Nat)(S:ZX)(fs:yA)(j:Nat)(B:ZS)(S2:ZX):Prop
 |mk (fs2:yA) (g2:Bool) (v4:Option D) (e:B=pE s k S.length g2 v4) (kp:Kp (·=S.length) (S++[.dk (Zh [s])]) S2) (hf:S2[S.length]?=Z9 (.dk (Zh fs2))) (q1:∀x∈fs,x∈fs2) (q2:JI cs s fs2)
  (q3:g2=Z5->fs2=fs/\∀i c,i<j->cs[i]?=Z9 c->(c.a∈fs↔c.b∈fs)) (q4:g2=Z7->Xp 7 fs<Xp 7 fs2) (q5:fs2.length<=fs.length+2*j) (nd:fs2.Nodup)
theorem CW(h:fs.Nodup)(a:Int):(YX fs a).Nodup:=by
 unfold YX;split
 .exact h
 .rename_i c;exact qG0.mpr ⟨h,by simp,λx d y b e=>c (by rw[qB6]at b;subst b;subst e;exact d)⟩
theorem mw(h:So cl)(n:Nat)(cs:yN)(s:Int)(hs:0<=s/\s<7)(hc:cs.length<=100)(hb:∀c∈cs,(0<=c.a/\c.a<7)/\0<=c.b/\c.b<7)(hk:ZH S k=Z9 (cs.map Ct.d)):
  ∃m Y fs,cl (n+1) "places_from" [.int s,.lst k] S=.ok (.dct m) Y/\Ex S Y/\Y[m]?=Z9 (.dk (Zh fs))/\M9 (Xe cs) s (·∈fs)/\fs.Nodup:=by
 have km:k≠S.length:=by have:=Ud hk;lia
 obtain⟨B',H,e,fs,J,rfl,kp,q,P,T,r3,V⟩:=NC (t:=Y7 (ZY 3)) (b:=Nt (cl n)) (mA cs s k S) (mz cs s k S)
  (λm B H R=>by
   obtain⟨fs,g,J,rfl,kp,q,P,T,r3,r4,r5,V⟩:=R;cases g with
   |false=>exact .inl ⟨H,by simp[pE],⟨fs,J,rfl,kp,q,P,T,r3 rfl,V⟩⟩
   |true =>
    refine .inr ⟨H,by simp[pE],?_⟩;have hl:ZH H k=Z9 (cs.map Ct.d):=kp.lst (NH hk) km;obtain⟨B2,S2,e2,fs2,L,A,rfl,l,r,N,Q,v,U,q5,p⟩:=Uc (w:=[(k,cs.map Ct.d)]) (g:=gN 4) (b:=Nu (cl n)) (items:=cs.map Ct.d)
     (mx cs s k S fs) (B:=pE s k S.length Z5 J) (S:=H)
     (λj B S2 R=>by
      obtain⟨_,_,_,_,kp⟩:=R;exact U6 (kp.lst (NH hk) km))
     ⟨fs,Z5,J,rfl,kp,q,λx a=>a,T,λ_=>⟨rfl,λi c W=>by lia⟩,(λz=>by cases z),by lia,V⟩
     (λj d B S2 hd R=>by
      obtain⟨fs2,L,J,rfl,l,o,N,Q,v,U,q5,p⟩:=R;rw[qB1]at hd;obtain⟨c,y,rfl⟩:=qA6.mp hd;have hm:c∈cs:=qB5 y;have hj:j<cs.length:=(qA4.mp y).1;obtain⟨ba,bb⟩:=hb c hm;have he:(c.a,c.b)∈Xe cs:=qB9.mpr ⟨c,hm,rfl⟩;refine⟨_,_,rfl,?_⟩;have i1:=Ka o Z5 c.a;have i2:=Ka o Z5 c.b;have hlim:fs2.length+2<lim:=by have:=CZ;rw[XX];lia
      by_cases f:(c.a∈fs2↔c.b∈fs2)
      .refine⟨_,S2,.inl ?_,⟨fs2,L,Z9 c.d,rfl,l,o,N,Q,λK=>⟨(v K).1,λi c' W G=>?_⟩,U,by lia,p⟩⟩
       .have:(decide (c.a∈fs2) != decide (c.b∈fs2))=Z5:=by simp[f]
        simp[pE,Nu,Ct.d,i1,i2,this]
       .by_cases hij:i=j
        .subst hij;rw[y]at G;cases G;rw[(v K).1]at f;exact f
        .exact(v K).2 i c' (by lia) G
      .have s1:=Dw o (by lia) c.a;have f3:(S2.set S.length (.dk (Zh (YX fs2 c.a))))[S.length]?=Z9 (.dk (Zh (YX fs2 c.a))):=qE2 (qA4.mp o).1;have s2:=Dw f3 (by have:=JK fs2 c.a;lia) c.b;have f4:((S2.set S.length (.dk (Zh (YX fs2 c.a)))).set S.length (.dk (Zh (YX (YX fs2 c.a) c.b))))[S.length]?=Z9 (.dk (Zh (YX (YX fs2 c.a) c.b))):=qE2 (qA4.mp f3).1;have mem:∀x,x∈YX (YX fs2 c.a) c.b↔x∈fs2∨x=c.a∨x=c.b:=λx=>by rw[Dv,Dv,or_assoc]
       refine⟨_,_,.inl ?_,⟨YX (YX fs2 c.a) c.b,Z7,Z9 c.d,rfl,(l.trans (VI _ _)).trans (VI _ _),f4,λx a=>(mem x).mpr (.inl (N x a)),λC I X x a=>?_,(λz=>by cases z),λ_=>?_,by have:=JK fs2 c.a;have:=JK (YX fs2 c.a) c.b;lia,CW (CW p _) _⟩⟩
       .have:(decide (c.a∈fs2) != decide (c.b∈fs2))=Z7:=by by_cases u:c.a∈fs2<;>by_cases E:c.b∈fs2<;>simp[u,E]at f ⊢
        simp[pE,Nu,Ct.d,i1,i2,this,s1,s2]
       .have M:=Q C I X;have F:=X _ he;dsimp only at F;have one:C c.a/\C c.b:=by
         by_cases u:c.a∈fs2
         .exact⟨M _ u,F.mp (M _ u)⟩
         .by_cases E:c.b∈fs2
          .exact⟨F.mpr (M _ E),M _ E⟩
          .exact absurd (iff_of_false u E) f
        rcases(mem x).mp a with z|z|z
        .exact M x z
        .subst z;exact one.1
        .subst z;exact one.2
       .have lt:Xp 7 fs2<Xp 7 (YX (YX fs2 c.a) c.b):=by
         by_cases u:c.a∈fs2
         .have E:c.b∉fs2:=λz=>f (iff_of_true u z);exact CY (λx a=>(mem x).mpr (.inl a)) ((mem c.b).mpr (.inr (.inr rfl))) E bb.1 bb.2
         .exact CY (λx a=>(mem x).mpr (.inl a)) ((mem c.a).mpr (.inr (.inl rfl))) u ba.1 ba.2
        cases L with
        |true=>have:=U rfl;lia
        | false=>rw[(v rfl).1]at lt ⊢;exact lt)
    have I:=JL 7 fs;have c1:=r4 rfl;rw[qA0]at q5;have step:Nt (cl n) (pE s k S.length Z7 J) H=.nx (pE s k S.length L A) S2:=by unfold pE at e2 ⊢;simp[Nt,hl,e2]
    cases L with
    |true =>
     have c2:=JL 7 fs2;have c3:=U rfl;exact⟨_,S2,.inl step,9 - Xp 7 fs2,by lia,⟨fs2,Z7,A,rfl,l,r,N s P,Q,(λz=>by cases z),λ_=>by lia,by lia,p⟩⟩
    |false =>
     refine⟨_,S2,.inl step,0,by lia,⟨fs2,Z5,A,rfl,l,r,N s P,Q,λK e he=>?_,(λz=>by cases z),by lia,p⟩⟩;obtain⟨c,Z,rfl⟩:=qB9.mp he;obtain⟨i,W⟩:=qE8 Z;rw[(v K).1];exact(v K).2 i c (by rw[qA0];exact(qA4.mp W).1) W)
  U7 (9 - Xp 7 [s]) (pE s k S.length Z7 Z8) (S++[.dk (Zh [s])]) (qH3 (Nat.sub_le _ _) (by decide))
   ⟨[s],Z7,Z8,rfl,Kp.refl _ _,by rw[qA1 (qA7 _),qH7];rfl,by simp,λC I _ x a=>(by simp at a;subst a;exact I),(λz=>by cases z),λ_=>(by have:=JL 7 [s];lia),by simp;lia,by simp⟩
 refine⟨S.length,H,fs,?_,⟨?_,λj hj _=>?_⟩,q,⟨P,r3,λC I X x a=>T C I X x a⟩,V⟩
 .rw[h];refine Y0 rfl ?_;have e0:(S++[O.dk [((Sum.inl s:ZF),D.bl Z7)]])=S++[O.dk (Zh [s])]:=rfl;unfold pE at e;simp[Nr,Yn,WT,e0,e]
 .have:=kp.le;simp at this;lia
 .rw[kp.eq j (by simp;lia) (by lia),qA8 hj]
theorem mu(h:So cl)(n:Nat)(e:yN)(s:Int)(hs:0<=s/\s<7)(g:e.length<=100)(i:∀c∈e,(0<=c.a/\c.a<7)/\0<=c.b/\c.b<7)(hk:ZH S k=Z9 (e.map Ct.d)):
  ∃m f fs,cl (n+1) "places_from" [.int s,.lst k] S=.ok (.dct m) f/\Ex S f/\f[m]?=Z9 (.dk (Zh fs))/\M9 (Xe e) s (·∈fs):=by obtain⟨m,f,fs,a,b,c,d,_⟩:=mw h n e s hs g i hk;exact⟨m,f,fs,a,b,c,d⟩
def jB(es:List (Int×Int)):Bool:=@decide (Ph es) (Classical.propDecidable _)
theorem JH:jB es=Z7↔Ph es:=@decide_eq_true_iff _ (Classical.propDecidable _)
theorem mq(h:b=Z7↔Ph es):b=jB es:=by
 cases b with
 |true=>exact(JH.mpr (h.mp rfl)).symm
 |false =>
  cases q:jB es with
  |false=>rfl
  |true=>exact absurd (h.mpr (JH.mp q)) qB4
def Sf(a:yN):Prop:=∀c∈a,(0<=c.a/\c.a<7)/\0<=c.b/\c.b<7
theorem mn(h:P6 cl)(b:So cl)(n:Nat)(a:yN)(c:a.length<=100)(g:Sf a)(hk:ZH S k=Z9 (a.map Ct.d)):VJ (cl (n+2) "joins" [.lst k] S) ((.bl (jB (Xe a)))) S:=by obtain⟨m,d,fs,e,x,i,r⟩:=mu b n a 0 (by decide) c g hk;refine⟨d,?_,x⟩;rw[show n+2=(n+1)+1 from rfl,h];refine Y0 rfl ?_;have q:=Ka i Z5 1;have f:decide (1∈fs)=jB (Xe a):=mq (by rw[decide_eq_true_eq];exact r.joined);simp[Nq,Yn,e,q,f]
def UP(N:XN)(st:yA):Bool:=jB (Xe (N.cs.filter λc=>T8 c st))
theorem XN.ok.in7{N:XN}(h:N.ok b a e)(hm:a<=7):Sf N.cs:=λc d=>by obtain⟨f,i,g,_⟩:=h.c2 c d;have:=h.p2;omega
theorem Sf.filter(h:Sf a)(p:Ct->Bool):Sf (a.filter p):=λc b=>h c (qF1.mp b).1
theorem XN.ok.len{N:XN}(h:N.ok b c a)(hm:a<=16):N.cs.length<=100:=by have:=h.c1;lia
theorem mm(h:P5 cl)(hi:Rl cl)(n:Nat)(N:XN)(st:yA)(e:N.cs.length<=100)(hk:∀c∈N.cs,0<=c.k/\c.k<st.length)(S:ZX):cl (n+2) "shut_contacts" [N.d,Zi st] S=.ok (.lst S.length) (S++[.lst ((N.cs.filter λc=>T8 c st).map Ct.d)]):=by
 have b:Y1 [] .one (JX (cl (n+1))) (JW (cl (n+1))) [Z8,Z9 (Zi st)] (N.cs.map Ct.d) S=.ok ((N.cs.filter λc=>T8 c st).map Ct.d) S:=by
  refine Dx Ct.d (XH S) _ _ _ λc a=>⟨_,rfl,?_,λ_=>?_⟩
  .have:=m4 hi n c st (hk _ a).1 (hk _ a).2 S;simp[JX,this]
  .simp[JW]
 rw[show n+2=(n+1)+1 from rfl,h];refine Y0 rfl ?_;have d:N.cs.length<lim:=by have:=CZ;lia
 simp[Np,Yn,XN.d,b,d]
theorem ml(h:Nm cl)(b:P6 cl)(d:So cl)(hs:P5 cl)(hi:Rl cl)(n:Nat)(a:N.cs.length<=100)(k:Sf N.cs)(hk:∀c∈N.cs,0<=c.k/\c.k<st.length)(S:ZX):VJ (cl (n+3) "lets" [N.d,Zi st] S) ((.bl (UP N st))) S:=by have e:=mm hs hi n N st a hk S;have j:(N.cs.filter λc=>T8 c st).length<=100:=qD4 (qJ1 _ _) a;obtain⟨f,g,i⟩:=mn b d n _ j (k.filter _) (Yw S ((N.cs.filter λc=>T8 c st).map Ct.d));refine⟨f,?_,(YQ _ _).trans i⟩;rw[show n+3=(n+2)+1 from rfl,h];refine Y0 rfl ?_;simp[Nn,Yn,e,g,UP]
@[simp]theorem zb9(w x y z:D):XO [w,x,y,z] Z8 (Z9 2)=[w,x]:=rfl
def ZD:Nat->List (yA)
 |0=>[[]]
 |n+1=>(ZD n).map (0::·)++(ZD n).map (1::·)
theorem U5:∀n,(ZD n).length=2 ^ n
 |0=>rfl
 |n+1=>by unfold ZD;rw[qC2,qA0,qA0,U5 n,qO5];lia
theorem M8:∀n,∀st∈ZD n,st.length=n/\∀b∈st,b=0∨b=1
 |0,st,h=>by simp[ZD]at h;subst h;simp
 |n+1,st,h=>by
  rcases qC0.mp h with q|q
  .obtain⟨t,ht,rfl⟩:=qB9.mp q;obtain⟨a,c⟩:=M8 n t ht;exact⟨by simp[a],λb d=>by rcases qB0.mp d with z|z;exact .inl z;exact c b z⟩
  .obtain⟨t,ht,rfl⟩:=qB9.mp q;obtain⟨a,c⟩:=M8 n t ht;exact⟨by simp[a],λb d=>by rcases qB0.mp d with z|z;exact .inr z;exact c b z⟩
theorem CV(h:j<=4):2 ^ j<=16:=qD4 (qG1 (by decide) h) (by decide)
theorem M7(h:Rm cl)(n:Nat)(H:0<=sw)(F:sw<=4)(S:ZX):∃k i,cl (n+1) "settings" [.int sw] S=.ok (.lst k) i/\Ex S i/\S.length<=k/\ZH i k=Z9 ((ZD sw.toNat).map Zi):=by
 obtain⟨I,i,x,k,q,rfl,m,hk,c⟩:=Uc (g:=gN 2) (b:=JY (cl n)) (items:=Y3 0 sw.toNat)
  (λj B a=>∃k q,B=[Z9 (.int sw),Z9 (.lst k),q]/\Ex S a/\S.length<=k/\ZH a k=Z9 ((ZD j).map Zi))
  (S:=S++[.lst [.tup []]])
  (λj B a u=>XH _) ⟨S.length,Z8,rfl,YQ _ _,qA7 _,by rw[Yw];rfl⟩
  (λj d B a y u=>by
   obtain⟨k,q,rfl,m,hk,c⟩:=u;rw[JM]at y;have t:(ZD j).length<=16:=by rw[U5];exact CV (by lia)
   have comp:∀b e (w:∀l B S,e (Z9 (.tup l)::B) S=if 1+l.length<=lim then .ok (.tup (.int b::l)) S else .bad) S2,ZH S2 k=Z9 ((ZD j).map Zi)->Y1 [(k,(ZD j).map Zi)] .one (λ_=>ret Z7) e [Z8] ((ZD j).map Zi) S2=.ok (((ZD j).map (b::·)).map Zi) S2:=by
    intro b e w S2 f;rw[qC7];refine Ub Zi (U6 f) _ _ λv p=>⟨_,rfl,?_⟩
    have:=(M8 j v p).1;show e [Z9 (Zi v)] S2=_;unfold Zi;rw[w,if_pos (by rw[qA0,XX];lia)];rfl
   have r:=comp 0 (J4 (cl n)) (λl B S=>by simp[J4]) a c;have f:=(YQ a [.lst (((ZD j).map (0::·)).map Zi)]).lst c (λz=>z);have o:=comp 1 (JZ (cl n)) (λl B S=>by simp[JZ]) (a++[.lst (((ZD j).map (0::·)).map Zi)]) f;generalize hA:a++[O.lst (((ZD j).map (0::·)).map Zi)]=A at o f;generalize hX0:((ZD j).map (0::·)).map Zi=X0 at r hA;generalize hX1:((ZD j).map (1::·)).map Zi=X1 at o;have E:ZH (A++[.lst X1]) a.length=Z9 X0:=by rw[<- hA];exact NH (Yw _ _)
   have G:X0.length<=16:=by rw[<- hX0];simpa using t
   have J:X1.length<=16:=by rw[<- hX1];simpa using t
   have C:=J8 E (Yw A X1) (by rw[XX];lia);refine⟨_,_,rfl,_,A++[.lst X1]++[.lst (X0++X1)],.inl ?_,(A++[O.lst X1]).length,Z9 d,rfl,?_,?_,?_⟩
   .have s:((ZD j).map Zi).length<lim:=by rw[qA0,XX];lia
    generalize hB:(ZD j).map Zi=BB at c f r o s;simp[JY,c,r,hA,f,o,s,C]
   .rw[<- hA];exact((m.trans (YQ _ _)).trans (YQ _ _)).trans (YQ _ _)
   .rw[<- hA];have:=m.le;simp;lia
   .rw[Yw,<- hX0,<- hX1,show ZD (j+1)=(ZD j).map (0::·)++(ZD j).map (1::·)from rfl,qD7])
 rw[C0]at c;refine⟨k,i,?_,m,hk,c⟩;rw[h];refine Y0 rfl ?_;have D:-4611686018427387904<=sw/\sw<4611686018427387904:=by lia
 simp[Nw,Yn,D,x]
theorem mj(h:0<n)(st:yA):plain (n+1) (Zi st)=Z7:=nQ (nP h st)
def WG(N:XN):yA:=(ZD N.sw.toNat).map λa=>if UP N a then 1 else 0
theorem mi{sw:Int}(a:sw<=4):((ZD sw.toNat).map Zi).length<lim:=by rw[qA0,U5,XX];have:=CV (j:=sw.toNat) (by omega);omega
theorem mh(h:JT cl)(b:Nm cl)(v:P6 cl)(w:So cl)(hs:P5 cl)(hi:Rl cl)(f:Rm cl)(n:Nat)(A:0<=N.sw)(g:N.sw<=4)(d:N.cs.length<=100)(p:Sf N.cs)(hk:∀c∈N.cs,0<=c.k/\c.k<N.sw)(S:ZX):
  VJ (cl (n+4) "function_of" [N.d] S) ((Zi (WG N))) S:=by
 obtain⟨k,o,m,C,_,i⟩:=M7 f (n+2) A g S;obtain⟨j,l,G⟩:=Dy Zi (t:=.one) (c:=JU (cl (n+3))) (B0:=[Z8,Z9 N.d]) (λa=>Ex o a) (λa x=>U6 (x.lst i λz=>z)) (λst=>.int (if UP N st then 1 else 0)) (ZD N.sw.toNat) (Kp.refl _ _)
  (λst e a x=>by
   have H:=(M8 _ st e).1;obtain⟨u,E,B⟩:=ml b v w hs hi n d p (st:=st) (λc d=>by have:=hk c d;omega) a;refine⟨_,rfl,u,?_,x.trans B⟩;cases y:UP N st<;>simp[JU,E,y])
 have F:(ZD N.sw.toNat).map (λst=>D.int (if UP N st then 1 else 0))=(WG N).map D.int:=by unfold WG;rw[qC7];rfl
 rw[F]at l;refine⟨_,?_,(C.trans G).trans (YQ j [.lst ((WG N).map D.int)])⟩;rw[show n+4=(n+3)+1 from rfl,h];refine Y0 rfl ?_;have s:=mi g;have r:=Ug (Yw j ((WG N).map D.int));have q:ZA N.d (.int 0) S=.ok (.int N.sw) S:=by simp[XN.d]
 generalize (ZD N.sw.toNat).map Zi=BB at *;simp[Nl,Yn,q,m,i,s,l,r,Zi]
theorem mf(a:Int)(l:yA):T2 (.int a) (l.map V.int)=decide (a∈l):=by
 unfold T2
 induction l with
 |nil=>rfl
 |cons x r c =>
  rw[qB8,qG8,c];by_cases h:x=a
  .subst h;simp[UX]
  .have b:¬a=x:=λz=>h z.symm;simp[UX,h,b]
theorem me(l:yA):(l.map D.int).mapM XP=Z9 (l.map V.int):=by
 induction l with
 |nil=>rfl
 |cons x r a=>rw[qB8,qI7,a];rfl
theorem md(neg:Bool)(a:Int)(l:yA)(S:ZX):YG neg (.int a) (.tup (l.map D.int)) S=.ok (.bl (if neg then !decide (a∈l)else decide (a∈l))) S:=by show(match (l.map D.int).mapM XP with|some b=>R.ok (D.bl (if neg then !T2 (.int a) b else T2 (.int a) b)) S|none=>.bad)=_;rw[me];dsimp only;rw[mf]
@[simp]theorem zXi(w x y z:D):XO [w,x,y,z] Z8 (Z9 3)=[w,x,y]:=rfl
theorem JG{α:Type}(e:α->D){w:XA}{t:Xk}{tc:CT}{c:C}{B0:ZS}(P:ZX->Prop)(Q:D->Prop)(g:∀S,P S->X9 w S):∀(l:List α) {S:ZX},P S ->
  (∀a∈l,∀S,P S->∃f,VO t (e a) B0=Z9 f/\∃k b,tc f S=.ok k b/\(k=Z5->P b)/\(k=Z7->∃y p,c f b=.ok y p/\P p/\Q y))->∃ys S',Y1 w t tc c B0 (l.map e) S=.ok ys S'/\P S'/\(∀y∈ys,Q y)/\ys.length<=l.length
 |[],S,h0,hs=>⟨[],S,by rw[qQ5];unfold Y1;rw[if_pos (g S h0)],h0,by simp,by simp⟩
 |d::ds,S,h0,hs=>by
  obtain⟨f,s,k,b,A,u,ht⟩:=hs d (by simp) S h0;rw[qB8];unfold Y1;rw[if_pos (g S h0),s];dsimp only;rw[Xq,A,Xz];cases r:k with
  |false =>
   obtain⟨ys,S',o,n,h,q⟩:=JG e P Q g ds (u r) λm j=>hs m (by simp[j]);exact⟨ys,S',by rw[if_neg qB4,o],n,h,by simp;omega⟩
  |true =>
   obtain⟨y,p,x,h,v⟩:=ht r;obtain⟨ys,S',o,n,q,B⟩:=JG e P Q g ds h λm j=>hs m (by simp[j]);exact⟨y::ys,S',by rw[if_pos rfl,Xq,x,Xz,Xq,o,Xz];rfl,n,λz i=>by rcases qB0.mp i with rfl|i;exact v;exact q z i,by simp;omega⟩
theorem CU{R:Int->Prop}:∀{ys:yM},(∀y∈ys,∃i,y=.int i/\R i)->∃l:yA,ys=l.map D.int/\∀i∈l,R i
 |[],_=>⟨[],rfl,by simp⟩
 |y::ys,h=>by obtain⟨i,rfl,c⟩:=h y (by simp);obtain⟨l,rfl,d⟩:=CU (R:=R) (ys:=ys) λz b=>h z (qC5 _ b);exact⟨i::l,rfl,λj a=>by rcases qB0.mp a with rfl|a;exact c;exact d j a⟩
theorem ma(h:C2 cl)(ht:Nc cl)(n:Nat)(E:YH S i)(K:0<=m)(M:m<=100):∃(l:yA) (a:ZX),cl (n+2) "_law_order" [.lst i,.int m] S=.ok (Zi l) a/\(l.length:Int)=m/\l.Perm ((List.range m.toNat).map fun(k:Nat)=>(k:Int))/\Kp (·=i) S a/\YH a i:=by
 have A:S.length≠i:=by have:=E.lt;omega
 obtain⟨N,a,F,p,l,rfl,o,y,c,kp,v⟩:=Uc (w:=[]) (g:=gN 3) (b:=JN (cl (n+1))) (items:=Y3 0 m.toNat)
  (λj B e=>∃p l,B=[Z9 (.lst i),Z9 (.int m),Z9 (.lst S.length),p]/\ZH e S.length=Z9 (l.map D.int)/\l.length=j/\l.Perm ((List.range j).map fun(k:Nat)=>(k:Int))/\Kp (·=i) S e/\YH e i)
  (B:=[Z9 (.lst i),Z9 (.int m),Z9 (.lst S.length),Z8]) (S:=S++[.lst []])
  (λj B e c=>XH _) ⟨Z8,[],rfl,Yw _ _,rfl,List.Perm.refl _,(YQ _ _).kp,E.ex (YQ _ _)⟩
  (λj d B e z c=>by
   obtain⟨p,l,rfl,o,y,u,kp,v⟩:=c;rw[JM]at z;obtain⟨O,rfl⟩:=z;obtain⟨r,I,J,L,Q,k2,P,t⟩:=Pi ht n v (m:=(0+(j:Int))+1) (by omega) (by omega);have C:=k2.lst o A;have s:=Tj o;have f:=Sq C RC [.int r,.int (0+(j:Int))];have q:(l.map D.int).length<1000/\0<=r/\r.toNat<=(l.map D.int).length:=by rw[qA0];omega
   rw[n6,if_pos q]at f;dsimp only at f;have G:(l.map D.int).take r.toNat++D.int (0+(j:Int))::(l.map D.int).drop r.toNat=(l.take r.toNat++(0+(j:Int))::l.drop r.toNat).map D.int:=by simp
   rw[G]at f;refine⟨_,_,rfl,_,I.set S.length (.lst ((l.take r.toNat++(0+(j:Int))::l.drop r.toNat).map D.int)),.inl ?_,Z9 (.int (0+(j:Int))),l.take r.toNat++(0+(j:Int))::l.drop r.toNat,rfl,UQ C,by simp;omega,?_,(kp.trans k2).setNew (qA7 _),t.setO A⟩
   .generalize (l.take r.toNat++(0+(j:Int))::l.drop r.toNat).map D.int=BB at *;simp only[List.set_cons_succ,List.set_cons_zero];generalize (0+(j:Int))=jj at *;simp[JN,s,J,f]
   .rw[qR1,qD7,qT8];have x:(l.take r.toNat++(j:Int)::l.drop r.toNat).Perm ((j:Int)::(l.take r.toNat++l.drop r.toNat)):=qQ1;rw[qD1]at x;refine x.trans ((List.Perm.cons _ u).trans ?_);show List.Perm _ (_++[(j:Int)]);exact(List.perm_append_singleton _ _).symm)
 rw[C0]at y c;refine⟨l,a,?_,by omega,c,kp,v⟩;rw[show n+2=(n+1)+1 from rfl,h];refine Y0 rfl ?_;have H:-4611686018427387904<=m/\m<4611686018427387904:=by omega
 have s:=Ug o;simp[Nb,Yn,H,F,s,Zi]
structure HF(cl:Nat->ZQ):Prop where
 se:Rm cl
 is:Rl cl
 pf:So cl
 jo:P6 cl
 sc:P5 cl
 le:Nm cl
 fo:JT cl
abbrev XN.g(N:XN):Prop:=N.ok 4 7 16
theorem XN.ok.k2{e g f:Int}{N:XN}(h:N.ok e g f):∀c∈N.cs,0<=c.k/\c.k<N.sw:=λc d=>by obtain⟨_,_,_,a,b,_⟩:=h.c2 c d;exact⟨a,b⟩
theorem HF.fun(F:HF cl)(n:Nat)(ok:N.g)(S:ZX):VJ (cl (n+4) "function_of" [N.d] S) ((Zi (WG N))) S :=
 mh F.fo F.le F.jo F.pf F.sc F.is F.se n (by have:=ok.s1;lia) ok.s2 (ok.len (by decide)) (ok.in7 (by decide)) ok.k2 S
def b1(b:Bool):Int:=if b then 1 else 0
def Ct.mv(f:Int->Int)(c:Ct):Ct:=⟨if f c.b<f c.a then f c.b else f c.a,if f c.b>f c.a then f c.b else f c.a,c.k,c.o⟩
theorem l0:UP N st=Z7↔∀C:Int->Prop,C 0->(∀c∈N.cs,T8 c st=Z7->(C c.a↔C c.b))->C 1:=by
 unfold UP;rw[JH];unfold Ph Xe;constructor
 .intro h C b d;refine h C b λe g=>?_;obtain⟨c,a,rfl⟩:=qB9.mp g;rw[qF1]at a;exact d c a.1 a.2
 .intro h C b d;refine h C b λc a f=>?_;exact d (c.a,c.b) (qB9.mpr ⟨c,qF1.mpr ⟨a,f⟩,rfl⟩)
def lR(a:Int)(p:Int):Int:=if p=1 then a else p
def lD(b a:Int)(k:Int):Int:=if k=0 then a else if k=1 then 1 else k+b - 2
def XN.row(N M:XN):XN:=⟨N.sw,N.pl+M.pl - 2+1,N.cs.map (Ct.mv (lR (N.pl+M.pl - 2)))++M.cs.map (Ct.mv (lD N.pl (N.pl+M.pl - 2)))⟩
theorem CQ:∀(n:Nat) (st:yA),st.length=n->(∀b∈st,b=0∨b=1)->st∈ZD n
 |0,st,h,_=>by have:=qF0.mp h;subst this;simp[ZD]
 |n+1,[],h,_=>by simp at h
 |n+1,b::r,h,hb=>by
  have a:=CQ n r (by simpa using h) λx c=>hb x (by simp[c]);unfold ZD;rcases hb b (by simp)with rfl|rfl
  .exact qF2 _ (qB9.mpr ⟨r,a,rfl⟩)
  .exact qD0 _ (qB9.mpr ⟨r,a,rfl⟩)
theorem lz{l:List (yA)}(h:ZH S k=Z9 (l.map Zi))(hm:st∈l)(z:l.length<1000):∃j,l[j]?=Z9 st/\Sy (.lst k) [Zi st] S=.ok (.int (j:Nat)) S:=by
 have m:S[k]?=Z9 (.lst (l.map Zi)):=V7 h;have a:∀s:yA,plain 40 (Zi s)=Z7:=λs=>mj (n:=39) (by decide) s;have i:=NA S (a st);have w:(l.map Zi).mapM (Zg 40 S)=Z9 ((l.map Zi).map (Y5 40)):=NB λx o=>by obtain⟨s,_,rfl⟩:=qB9.mp o;exact NA S (a s)
 have r:∀s t,Zi s=Zi t->s=t:=λs t e=>by
  unfold Zi at e;have p:s.map D.int=t.map D.int:=by injection e
  exact(qP0 λx y q=>by injection q).mp p
 have c:∃j,((l.map Zi).map (Y5 40)).findIdx? (λd=>PyData.eqv d (Y5 40 (Zi st)))=Z9 j/\l[j]?=Z9 st:=by
  cases q:((l.map Zi).map (Y5 40)).findIdx? (λd=>PyData.eqv d (Y5 40 (Zi st)))with
  |none =>
   rw[List.findIdx?_eq_none_iff]at q;have:=q (Y5 40 (Zi st)) (qB9.mpr ⟨_,qB9.mpr ⟨st,hm,rfl⟩,rfl⟩);rw[(J9 40 _ _ (a st) (a st)).mpr rfl]at this;cases this
  |some j =>
   rw[qM3]at q;obtain⟨g,f,_⟩:=q;have u:j<l.length:=by simpa using g
   refine⟨j,rfl,?_⟩;rw[qU5,qU5]at f;have:=r _ _ ((J9 40 _ _ (a _) (a st)).mp f);rw[qA2 u,this]
 obtain⟨j,c,v⟩:=c;refine⟨j,v,?_⟩;unfold Sy;have b:(l.map Zi).length<1000000:=by rw[qA0];lia
 simp only[m,i,w,c,if_pos b]
theorem ly(N:XN):WG N=(ZD N.sw.toNat).map λst=>b1 (UP N st):=rfl
open PySem L2
inductive Tr where
 |lf (k o:Int)
 |nd (r:Bool) (ps:List Tr)
def kw(r:Bool):Str:=if r then Str.ofString "row" else Str.ofString "side"
mutual
noncomputable def Tr.d:Tr->D
 |.lf k o=>.tup [.str (Str.ofString "at"),.int k,.int o]
 |.nd r a=>.tup [.str (kw r),.tup (Tr.ds a)]
noncomputable def Tr.ds:List Tr->yM
 |[]=>[]
 |t::r=>t.d::Tr.ds r
end
mutual
noncomputable def Tr.ht:Tr->Nat
 |.lf _ _=>0
 |.nd _ a=>Tr.hts a+1
noncomputable def Tr.hts:List Tr->Nat
 |[]=>0
 |t::r=>max t.ht (Tr.hts r)
end
@[simp]theorem zcu(a b:Str)(S:ZX):XI (.str a) (.str b) S=.ok (.bl (decide (a=b))) S:=rfl
def Tr.un(r:Bool):Tr->List Tr
 |.nd a b=>if a=r then b else[.nd a b]
 |.lf k o=>[.lf k o]
mutual
noncomputable def Tr.lv:Tr->Nat
 |.lf _ _=>1
 |.nd _ a=>Tr.lvs a
noncomputable def Tr.lvs:List Tr->Nat
 |[]=>0
 |t::r=>t.lv+Tr.lvs r
end
mutual
def Tr.wf(sw:Int):Tr->Prop
 |.lf k o=>0<=k/\k<sw/\0<=o/\o<2
 |.nd _ a=>2<=a.length/\Tr.wfs sw a
def Tr.wfs(sw:Int):List Tr->Prop
 |[]=>True
 |t::r=>t.wf sw/\Tr.wfs sw r
end
def kd(S:ZX)(d:D):Prop:=∃t,RF S d=Z9 t
def isT:D->Bool|.tup _=>Z7|_=>Z5
def JF:D->Bool|.int _=>Z7|.bl _=>Z7|_=>Z5
def JE:D->Bool|.bl _=>Z7|_=>Z5
def isS:D->Bool|.str _=>Z7|_=>Z5
theorem JD(h:(ZH S k).isSome):kd S (.lst k):=⟨"list",by show(if(ZH S k).isSome then Z9 "list" else Z8)=_;rw[if_pos h]⟩
theorem M6(h:kd S (.lst k)):RF S (.lst k)=Z9 "list":=by
 obtain⟨t,h⟩:=h;have a:(if(ZH S k).isSome then Z9 "list" else Z8)=Z9 t:=h;show(if(ZH S k).isSome then Z9 "list" else Z8)=_;split at a
 .rename_i b;rw[if_pos b]
 .cases a
theorem M5(h:kd S (.dct k)):RF S (.dct k)=Z9 "dict":=by
 obtain⟨t,h⟩:=h;have a:Vc S k=Z9 t:=h;show Vc S k=_;unfold Vc at a;split at a
 .rename_i b e;unfold Vc;rw[e]
 .cases a
theorem Vw(h:RF S x=Z9 t)(a:T∈["bool","int","tuple","list","str","dict"]):YJ [x,.ty T] S=.ok (.bl (OA t T)) S:=by unfold YJ;dsimp only;rw[h];dsimp only;rw[if_pos a]
theorem CP(h:kd S x):YJ [x,.ty "tuple"] S=.ok (.bl (isT x)) S:=by
 cases x with
 |lst k=>rw[Vw (M6 h) (by decide)];rfl
 |dct k=>rw[Vw (M5 h) (by decide)];rfl
 |ty k=>obtain⟨t,h⟩:=h;cases h
 |rol k=>obtain⟨t,h⟩:=h;cases h
 |_=>rw[Vw rfl (by decide)];rfl
theorem lu(h:kd S x):YJ [x,.ty "int"] S=.ok (.bl (JF x)) S:=by
 cases x with
 |lst k=>rw[Vw (M6 h) (by decide)];rfl
 |dct k=>rw[Vw (M5 h) (by decide)];rfl
 |ty k=>obtain⟨t,h⟩:=h;cases h
 |rol k=>obtain⟨t,h⟩:=h;cases h
 |_=>rw[Vw rfl (by decide)];rfl
theorem lr(h:kd S x):YJ [x,.ty "bool"] S=.ok (.bl (JE x)) S:=by
 cases x with
 |lst k=>rw[Vw (M6 h) (by decide)];rfl
 |dct k=>rw[Vw (M5 h) (by decide)];rfl
 |ty k=>obtain⟨t,h⟩:=h;cases h
 |rol k=>obtain⟨t,h⟩:=h;cases h
 |_=>rw[Vw rfl (by decide)];rfl
def UO(lo hi:Int):D->Bool
 |.int i=>decide (lo<=i)&&decide (i<hi)
 |_=>Z5
def JC:D->Bool
 |.int _=>Z7
 |_=>Z5
theorem lq(h:Nx cl)(n:Nat)(hk:kd S x):cl (n+1) "is_whole" [x] S=.ok (.bl (JC x)) S:=by
 rw[h];refine Y0 rfl ?_;have a:=lu hk;have b:=lr hk;have z:JC x=(if JF x=Z7 then !JE x else Z5):=by cases x<;>rfl
 rw[z];cases d:JF x<;>cases c:JE x<;>rw[d]at a<;>rw[c]at b<;>simp[Ny,Yn,a,b]
theorem ll(h:J7 cl)(d:Nx cl)(n:Nat)(hk:kd S x):cl (n+2) "is_bit" [x] S=.ok (.bl (UO 0 2 x)) S:=by
 rw[show n+2=(n+1)+1 from rfl,h];refine Y0 rfl ?_;have b:=lq d n hk;cases x with
 |int i =>
  have a:cl (n+1) "is_whole" [.int i] S=.ok (.bl Z7) S:=b;have:UO 0 2 (.int i)=(decide (0<=i)&&decide (i<=1)):=by show(decide (0<=i)&&decide (i<2))=_;congr 1;exact decide_eq_decide.mpr (by lia)
  rw[this];by_cases c:0<=i<;>by_cases e:i<=1<;>simp[P7,Yn,a,c]
 |_=>simp[P7,Yn,b,JC,UO]
def Kd(S a:ZX):Prop:=∀d,kd S d->kd a d
theorem M4(h:Ex S S1):Kd S S1:=λd a=>by
 cases d with
 |lst k =>
  refine JD ?_;have hk:(ZH S k).isSome:=by
   obtain⟨t,e⟩:=a;have b:(if(ZH S k).isSome then Z9 "list" else Z8)=Z9 t:=e;split at b
   .assumption
   .cases b
  obtain⟨i,g⟩:=qH6.mp hk;rw[h.lst g λz=>z];rfl
 |dct k =>
  obtain⟨t,e⟩:=a;have e:Vc S k=Z9 t:=e;unfold Vc at e;split at e
  .rename_i f c;exact⟨"dict",by show Vc S1 k=_;unfold Vc;rw[h.at c λz=>z]⟩
  .cases e
 |ty k=>obtain⟨t,e⟩:=a;cases e
 |rol k=>obtain⟨t,e⟩:=a;cases e
 |_=>exact⟨_,rfl⟩
theorem CN{xs:yM}(h:ZH S k=Z9 xs):Xu (.lst k) S=.ok (!xs.isEmpty) S:=by unfold Xu;dsimp only;rw[V7 h]
theorem CM{w:XA}{t:Xk}{c:C}{B0:ZS}(P:yM->ZX->Prop)(e:∀l S,P l S->X9 w S):∀(items:yM) (acc:yM) {S:ZX},P acc S ->
  (∀d∈items,∀acc S,P acc S->∃b,VO t d B0=Z9 b/\∃y a,c b S=.ok y a/\P (acc++[y]) a)->∃ds S',Y1 w t (λ_=>ret Z7) c B0 items S=.ok ds S'/\ds.length=items.length/\P (acc++ds) S'
 |[],acc,S,h0,hs=>⟨[],S,by unfold Y1;rw[if_pos (e _ S h0)],rfl,by rw[qI1];exact h0⟩
 |d::ds,acc,S,h0,hs=>by obtain⟨b,g,y,a,o,j⟩:=hs d (by simp) acc S h0;obtain⟨i,S',n,h,f⟩:=CM P e ds (acc++[y]) j λm k=>hs m (by simp[k]);unfold Y1;rw[if_pos (e _ S h0),g];dsimp only;rw[Xq,oe,Xz,if_pos rfl,Xq,o,Xz,Xq,n,Xz];exact⟨y::i,S',rfl,by rw[qD3,qD3,h],by rw[qC3]at f;exact f⟩
def pB(p:Prop):Bool:=@decide p (Classical.propDecidable p)
theorem Re:pB p=Z7↔p:=@decide_eq_true_iff p (Classical.propDecidable p)
theorem WE(h:p):pB p=Z7:=Re.mpr h
theorem Xo(h:¬p):pB p=Z5:=by
 cases q:pB p with
 |false=>rfl
 |true=>exact absurd (Re.mp q) h
theorem Pg(h:b=Z7↔p):b=pB p:=nS (h.trans Re.symm)
def Nk(S:ZX):Nat->D->Prop
 |0,d=>kd S d
 |n+1,d=>kd S d/\∀a,d=.tup a->a.length<=1000/\∀x∈a,Nk S n x
theorem Nk.k(h:Nk S n d):kd S d:=by
 cases n with
 |zero=>exact h
 |succ n=>exact h.1
theorem CL(f:D->Bool):∀l:yM,Vb (l.map λd=>D.bl (f d))=Z9 (l.map f)
 |[]=>rfl
 |_::r=>by show(Vb (r.map λd=>D.bl (f d))).map (_::·)=_;rw[CL f r];rfl
theorem lj(g:List Bool->Bool)(f:D->Bool)(l:yM)(h:ZH S n=Z9 (l.map λd=>D.bl (f d))):W1 g [.lst n] S=.ok (.bl (g (l.map f))) S:=by unfold W1;dsimp only;rw[h];show(match Vb (l.map λd=>D.bl (f d))with|some bs=>R.ok (D.bl (g bs)) S|none=>.bad)=_;rw[CL]
theorem JB{α:Type}(e:α->D)(Q:α->Prop):∀xs:yM,((xs.map λd=>pB (∃l,d=e l/\Q l)).all id=Z7)↔∃r:List α,xs=r.map e/\∀l∈r,Q l
 |[]=>⟨λ_=>⟨[],rfl,λl c=>by cases c⟩,λ_=>rfl⟩
 |x::xs=>by
  rw[qB8,qK9,qC8,JB e Q xs];show pB _=Z7/\_↔_;rw[Re];constructor
  .rintro⟨⟨l,rfl,q⟩,r,rfl,f⟩;exact⟨l::r,rfl,λz a=>by rcases qB0.mp a with rfl|a;exact q;exact f z a⟩
  .rintro⟨r,b,q⟩;cases r with
   |nil=>cases b
   |cons l r =>
    injection b with b e2;exact⟨⟨l,b,q l (by simp)⟩,r,e2,λz a=>q z (by simp[a])⟩
def JA(sw:Int)(l:yA):Prop:=l.length=2 ^ sw.toNat/\∀i∈l,0<=i/\i<2
def U4(sw:Int)(d:D):Prop:=∃l,d=Zi l/\JA sw l
theorem lh(xs:yM):((xs.map (UO 0 2)).all id=Z7)↔∃l:yA,xs=l.map D.int/\∀i∈l,0<=i/\i<2:=by
 have:xs.map (UO 0 2)=xs.map λd=>pB (∃i,d=D.int i/\(0<=i/\i<2)):=qE0 λd _=>Pg (by
  cases d with
  |int i=>show(decide (0<=i)&&decide (i<2))=Z7↔_;rw[qC8,decide_eq_true_eq,decide_eq_true_eq];exact⟨λh=>⟨i,rfl,h⟩,λ⟨j,e,h⟩=>by cases e;exact h⟩
  | _=>exact⟨λh=>(by cases h),λ⟨j,e,_⟩=>(by cases e)⟩)
 rw[this];exact JB D.int _ xs
theorem lg{xs:yM}(h:xs.length=2 ^ sw.toNat):U4 sw (.tup xs)↔(xs.map (UO 0 2)).all id=Z7:=by
 rw[lh];constructor
 .rintro⟨l,e,o⟩;exact⟨l,by cases e;rfl,o.2⟩
 .rintro⟨l,rfl,o⟩;exact⟨l,rfl,by rw[qA0]at h;exact h,o⟩
theorem k0{xs:yM}(h:U4 sw (.tup xs)):xs.length=2 ^ sw.toNat:=by obtain⟨l,e,o⟩:=h;cases e;rw[qA0];exact o.1
theorem kZ(h:isT d=Z5):¬U4 sw d:=by rintro⟨l,rfl,_⟩;cases h
structure HB(cl:Nat->ZQ):Prop where
 se:Rm cl
 wh:Nx cl
 bi:J7 cl
 fn:Dq cl
theorem kY(c:ZQ)(j:(xs.length:Int)=len)(e:c "settings" [.int sw] S=.ok (.lst k) a)(i:Zw [.lst k] a=.ok (.int q) a)(l:len=q)(m:xs.length<lim)(g:Y1 [] .one (λ_=>ret Z7) (JV c) [Z8] xs a=.ok bs d)(f:d++[.lst bs]=S3)(h:W1 (λbs=>bs.all id) [.lst d.length] S3=.ok (.bl b) S3):
  Ti c [Z9 (.int sw),Z9 (.tup xs)] S=.rt (.bl b) S3:=by simp[Ti,j,e,i,l,m,g,f,h]
theorem kX(c:ZQ){xs:yM}(d:(xs.length:Int)=len)(a:c "settings" [.int sw] S=.ok (.lst k) S1)(b:Zw [.lst k] S1=.ok (.int q) S1)(e:¬len=q):
  Ti c [Z9 (.int sw),Z9 (.tup xs)] S=.rt (.bl Z5) S1:=by simp[Ti,d,a,b,e]
theorem CK(H:HB cl)(n:Nat)(p:1<=sw)(i:sw<=4)(hk:Nk S 1 d):VJ (cl (n+3) "is_function" [.int sw,d] S) ((.bl (pB (U4 sw d)))) S:=by
 rw[show n+3=(n+2)+1 from rfl,H.fn];have m:=CP hk.k;cases d with
 |tup a =>
  obtain⟨k,S1,f,c,_,j⟩:=M7 H.se (n+1) (by lia) i S;have e:=NJ j;rw[qA0,U5]at e;obtain⟨q,h⟩:=hk.2 a rfl;by_cases b:a.length=2 ^ sw.toNat
  .have g:Y1 [] .one (λ_=>ret Z7) (JV (cl (n+2))) [Z8] (a.map id) S1=.ok (a.map λd=>.bl (UO 0 2 d)) S1:=by
    refine Ub id (XH _) (λd=>.bl (UO 0 2 d)) a λd l=>⟨_,rfl,?_⟩
    have:=ll H.bi H.wh n (M4 c d (h d l));exact this
   rw[qS3]at g;have o:=lj (n:=S1.length) (λbs=>bs.all id) (UO 0 2) a (Yw _ _);refine⟨_,Y0 rfl ?_,c.trans (YQ S1 [.lst (a.map λd=>.bl (UO 0 2 d))])⟩;rw[<- Pg (lg b).symm];exact kY _ rfl f e (by rw[b]) (by rw[XX];lia) g rfl o
  .refine⟨S1,Y0 rfl ?_,c⟩;rw[Xo λz=>b (k0 z)];exact kX _ rfl f e (by intro z;exact b (by exact_mod_cast z))
 |_ =>
  refine⟨S,Y0 rfl ?_,Kp.refl _ _⟩;rw[Xo (kZ rfl)];simp[Ti,Yn,m,isT]
def Jz(r:List (yA)):D:=.tup (r.map Zi)
def CJ(sw:Int)(p:Nat)(r:List (yA)):Prop:=r.length=p/\∀l∈r,JA sw l
abbrev Tb:=List (List (yA))
def tD(T:Tb):D:=.tup (T.map Jz)
def Jy(sw:Int)(T:Tb):Prop:=2<=T.length/\T.length<=7/\∀r∈T,CJ sw T.length r
def Se(T:Tb)(a b:Nat):yA:=(T.getD a []).getD b []
def kW(T:Tb):Prop:=(∀a,a<T.length->0∉Se T a a)/\∀a,a<T.length->∀b,b<a->Se T a b=Se T b a
theorem kU(ok:Jy sw T)(b:a<T.length):T[a]?=Z9 (T.getD a [])/\CJ sw T.length (T.getD a []):=by
 have:T.getD a []=T[a]:=by rw[qC6,qA2 b];rfl
 rw[this];exact⟨qA2 b,ok.2.2 _ (qD6 b)⟩
theorem zNt(ok:Jy sw T)(d:a<T.length)(e:b<T.length):(T.getD a [])[b]?=Z9 (Se T a b)/\JA sw (Se T a b):=by
 obtain⟨_,l,o⟩:=kU ok d;have c:b<(T.getD a []).length:=by rw[l];exact e
 have:Se T a b=(T.getD a [])[b]:=by unfold Se;rw[qC6,qA2 c];rfl
 rw[this];exact⟨qA2 c,o _ (qD6 c)⟩
structure Jx(S:ZX)(k:Nat)(rs:List Nat)(T:Tb):Prop where
 out:ZH S k=Z9 (rs.map D.lst)
 len:rs.length=T.length
 nd:rs.Nodup
 nk:k∉rs
 row:∀(a r:Nat),rs[a]?=Z9 r->ZH S r=Z9 ((T.getD a []).map Zi)
def TOk(S0:ZX)(i k:Nat)(rs:List Nat)(sw:Int)(p:Nat)(S:ZX):Prop:=∃T,Jx S k rs T/\Jy sw T/\kW T/\T.length=p/\Kp (·=i) S0 S/\YH S i
def sE(x:Str):D->Bool
 |.str y=>decide (y=x)
 |_=>Z5
def Sn(d:D):Prop:=∃p,(∀S,Zg 40 S d=Z9 p)/\(∀x,p=.str x->d=.str x)/\(isS d=Z5->XP d=Z8->∃a,d=.tup a)
theorem kT(h:∀y,p≠.str y):PyData.eqv p (.str x)=Z5/\PyData.eqv (.str x) p=Z5:=by
 cases p with
 |str y=>exact absurd rfl (h y)
 |_=>exact⟨rfl,rfl⟩
theorem ne_str(h:Sn d)(g:PyData.strOk x=Z7)(S:ZX):XI d (.str x) S=.ok (.bl (sE x d)) S/\Xf d (.str x) S=.ok (.bl (!sE x d)) S:=by
 obtain⟨p,b,c,_⟩:=h;cases d with
 |str y=>exact⟨rfl,rfl⟩
 |_ =>
  have a:∀y,p≠.str y:=λy e=>by have:=c y e;cases this
  have f:Zg 40 S (.str x)=Z9 (.str x):=by unfold Zg;dsimp only;rw[if_pos g]
  have:=(kT (x:=x) a).1;unfold XI Xf;dsimp only;rw[b S,f];dsimp only;rw[this];exact⟨rfl,rfl⟩
def Jw(l:List Nat):Nat:=if 0∈l then 0 else l.sum
mutual
noncomputable def Tr.on(st:yA):Tr->Bool
 |.lf k o=>decide (st.getD k.toNat 0=o)
 |.nd r a=>if r then Tr.onA st a else Tr.onO st a
noncomputable def Tr.onA(st:yA):List Tr->Bool
 |[]=>Z7
 |t::r=>t.on st&&Tr.onA st r
noncomputable def Tr.onO(st:yA):List Tr->Bool
 |[]=>Z5
 |t::r=>t.on st||Tr.onO st r
end
def M3(sw:Int)(t:Tr):yA:=(ZD sw.toNat).map λa=>b1 (t.on a)
def WZ(sw k o:Int):XN:=⟨sw,2,[⟨0,1,k,o⟩]⟩
theorem kS(i:1<=sw)(b:sw<=4)(h:(Tr.lf k o).wf sw):(WZ sw k o).g:=by obtain⟨e,g,f,d⟩:=h;refine⟨i,b,by show 2<=2;decide,by show 2<=7;decide,by simp[WZ],λc a=>?_⟩;simp only[WZ,qB0,qF8,or_false]at a;subst a;exact⟨by show 0<=0;decide,by show 0<1;decide,by show 1<2;decide,e,g,f,d⟩
theorem kR(sw k o:Int)(st:yA):UP (WZ sw k o) st=(Tr.lf k o).on st:=by
 have e:(Tr.lf k o).on st=T8 ⟨0,1,k,o⟩ st:=rfl;rw[e,qU8,l0];constructor
 .intro h;refine Classical.byContradiction λn=>?_;have:=h (λx=>x=0) rfl λc a b=>by simp only[WZ,qB0,qF8,or_false]at a;subst a;exact absurd b n
  cases this
 .intro h C d f;exact(f ⟨0,1,k,o⟩ (by simp[WZ]) h).mp d
theorem kQ(sw k o:Int):WG (WZ sw k o)=M3 sw (.lf k o):=by rw[ly];exact qE0 λa _=>by rw[kR]
structure Pf(cl:Nat->ZQ):Prop where
 f:HF cl
 lf:∀{sw:Int},1<=sw->sw<=4->∀k o,(Tr.lf k o).wf sw->∀n S,VJ (cl (n+5) "tree_function" [.int sw,(Tr.lf k o).d] S) (Zi (M3 sw (.lf k o))) S
theorem kP(c:ZQ)(d:c "lone_net" [.int sw,.tup [.str (Str.ofString "at"),.int k,.int o]] S=.ok b S)(e:c "function_of" [b] S=.ok a S1):Sm c [Z9 (.int sw),Z9 (.tup [.str (Str.ofString "at"),.int k,.int o]),Z8,Z8,Z8] S=.rt a S1:=by simp[Sm,d,e]
theorem kO(h:JS cl)(n:Nat)(sw k o:Int)(S:ZX):cl (n+1) "lone_net" [.int sw,(Tr.lf k o).d] S=.ok (WZ sw k o).d S:=by rw[h];exact Y0 rfl (by simp[Ni,Yn,Tr.d,WZ,XN.d,Ct.d])
theorem M2(c:HF cl)(ln:JS cl)(g:∀n,cl (n+1) "tree_function"=VM (Zz 2 5 (Sm (cl n)))):Pf cl:=⟨c,λ{a} h d k o e n S=>by
 obtain⟨S1,b,i⟩:=c.fun n (kS h d e) [];rw[kQ]at b;have f:Zz 2 5 (Sm (cl (n+4))) [.int a,(Tr.lf k o).d] []=.ok (Zi (M3 a (.lf k o))) S1:=Y0 rfl (kP _ (kO ln (n+3) a k o []) b);refine⟨S,?_,Kp.refl _ S⟩;rw[show n+5=(n+4)+1 from rfl,g];exact Kz rfl f (Eb _)⟩
def ZK(a:Nat)(bs:List Bool):Nat:=bs.foldl (λn b=>2*n+b.toNat) a
theorem VH(a:Nat)(x:Bool):(2*a+x.toNat) / 2=a:=by cases x<;>simp<;>omega
theorem kN(a b:Nat)(x y:Bool):(2*a+x.toNat) &&& (2*b+y.toNat)=2*(a &&& b)+(x&&y).toNat:=by
 apply qS4;intro i;cases i with
 |zero=>cases x<;>cases y<;>simp[qR2]
 |succ i=>rw[qR2,qK4,qK4,qK4,VH,VH,VH,qR2]
theorem kM(a b:Nat)(x y:Bool):(2*a+x.toNat)||| (2*b+y.toNat)=2*(a ||| b)+(x||y).toNat:=by
 apply qS4;intro i;cases i with
 |zero=>cases x<;>cases y<;>simp[qK5]
 |succ i=>rw[qK5,qK4,qK4,qK4,VH,VH,VH,qK5]
section
variable {α:Type}
theorem CH(f g:α->Bool):∀(l:List α) (a b:Nat),ZK a (l.map f) &&& ZK b (l.map g)=ZK (a &&& b) (l.map λs=>f s&&g s)
 |[],a,b=>rfl
 |s::l,a,b=>by show ZK (2*a+(f s).toNat) (l.map f) &&& ZK (2*b+(g s).toNat) (l.map g)=ZK (2*(a &&& b)+(f s&&g s).toNat) _;rw[CH f g l,kN]
theorem CG(f g:α->Bool):∀(l:List α) (a b:Nat),ZK a (l.map f)||| ZK b (l.map g)=ZK (a ||| b) (l.map λs=>f s||g s)
 |[],a,b=>rfl
 |s::l,a,b=>by show ZK (2*a+(f s).toNat) (l.map f)||| ZK (2*b+(g s).toNat) (l.map g)=ZK (2*(a ||| b)+(f s||g s).toNat) _;rw[CG f g l,kM]
end
theorem CF:∀(bs d:List Bool) (a b:Nat),bs.length=d.length->ZK a bs=ZK b d->a=b/\bs=d
 |[],[],a,b,_,h=>⟨h,rfl⟩
 |[],c::d,a,b,h,_=>by simp at h
 |b::bs,[],_,_,h,_=>by simp at h
 |x::bs,y::d,a,b,hl,h=>by obtain⟨e,f⟩:=CF bs d (2*a+x.toNat) (2*b+y.toNat) (by simpa using hl) h;cases x<;>cases y<;>simp at e ⊢<;>first|exact⟨by omega,f⟩| omega
theorem Rc:∀(bs:List Bool) (a:Nat),ZK a bs<(a+1)*2 ^ bs.length
 |[],a=>by simp[ZK]
 |x::bs,a=>by have h:=Rc bs (2*a+x.toNat);refine qC1 h ?_;rw[qD3,qO5,Nat.mul_comm (2 ^ bs.length) 2,<- Nat.mul_assoc];exact qS5 _ (by cases x<;>simp<;>omega)
def Xn(sw:Nat)(k o:Int):Nat:=ZK 0 ((ZD sw).map λa=>decide (a.getD k.toNat 0=o))
def We(sw:Nat):List Nat:=(List.range sw).flatMap fun(k:Nat)=>[Xn sw k 0,Xn sw k 1]
def NN(sw:Nat):Nat:=2 ^ 2 ^ sw
open Classical in
def nxt(sw:Nat)(T:List (List Nat)):List Nat:=(List.range (NN sw)).filter λz=>decide ((∀x∈T,z∉x)/\∃l,l<(T.length+1) / 2/\∃a∈T.getD l [],∃b∈T.getD (T.length - 1 - l) [],z=a &&& b∨z=a ||| b)
def VG(sw:Nat):Nat->List (List Nat)
 |0=>[We sw]
 |m+1=>VG sw m++[nxt sw (VG sw m)]
def lv(sw m:Nat):List Nat:=(VG sw m).getD m []
theorem Pe(sw:Nat):∀m,(VG sw m).length=m+1
 |0=>rfl
 |m+1=>by simp[VG,Pe sw m]
theorem Sd(sw:Nat):∀(m i:Nat),i<=m->(VG sw m).getD i []=lv sw i
 |0,i,h=>by
  have:i=0:=by omega
  subst this;rfl
 |m+1,i,h=>by
  by_cases a:i=m+1
  .subst a;rfl
  .have b:=Pe sw m;show(VG sw m++[nxt sw (VG sw m)]).getD i []=_;rw[qC6,qA8 (by omega),<- qC6];exact Sd sw m i (by omega)
theorem kK(sw:Nat)(h:x∈VG sw m):∃i,i<=m/\x=lv sw i:=by obtain⟨i,a,rfl⟩:=qH1 h;have b:=Pe sw m;refine⟨i,by omega,?_⟩;rw[<- Sd sw m i (by omega),qC6,qA2 a];rfl
theorem kJ(sw:Nat)(h:i<=m):lv sw i∈VG sw m:=by have a:=Pe sw m;rw[<- Sd sw m i h,qC6,qA2 (by omega)];exact qD6 _
theorem M1(sw z:Nat):z∈lv sw 0↔z∈We sw:=Iff.rfl
def CD(T:Nat->List Nat)(m z:Nat):Prop:=∃l,l<(m+1) / 2/\∃a∈T l,∃b∈T (m - 1 - l),z=a &&& b∨z=a ||| b
theorem Rb(sw m z:Nat):z∈lv sw (m+1)↔z<NN sw/\(∀i,i<=m->z∉lv sw i)/\CD (lv sw) (m+1) z:=by
 have d:=Pe sw m;have e:lv sw (m+1)=nxt sw (VG sw m):=by show(VG sw m++[nxt sw (VG sw m)]).getD (m+1) []=_;rw[qC6,qA1 (by omega),d,qH7];rfl
 rw[e];unfold nxt CD;rw[qF1,qC9];simp only[decide_eq_true_eq,d];refine and_congr_right λ_=>and_congr ⟨λh i c=>h _ (kJ sw c),λh x f=>?_⟩ ?_
 .obtain⟨i,c,rfl⟩:=kK sw f;exact h i c
 .refine⟨λ⟨l,b,a⟩=>⟨l,b,?_⟩,λ⟨l,b,a⟩=>⟨l,b,?_⟩⟩
  .rw[Sd sw m l (by omega),Sd sw m _ (by omega)]at a;exact a
  .rw[Sd sw m l (by omega),Sd sw m _ (by omega)];exact a
theorem kI(sw:Nat)(h:z∈We sw):z<NN sw:=by
 obtain⟨k,_,h⟩:=qL5.mp h;have g:=λo=>by have:=Rc ((ZD sw).map λa=>decide (a.getD (k:Int).toNat 0=o)) 0;rw[qA0,U5]at this;simpa[NN]using this
 simp at h;rcases h with rfl|rfl<;>exact g _
theorem Vv(sw:Nat):∀(m:Nat) {z:Nat},z∈lv sw m->z<NN sw
 |0,z,h=>kI sw h
 |m+1,z,h=>((Rb sw m z).mp h).1
theorem Pd(sw:Nat)(a:z∈lv sw i)(b:z∈lv sw j):i=j:=by
 rcases qM6 i j with h|h|h
 .cases j with
  |zero=>omega
  |succ j=>exact absurd a (((Rb sw j z).mp b).2.1 i (by omega))
 .exact h
 .cases i with
  |zero=>omega
  |succ i=>exact absurd b (((Rb sw i z).mp a).2.1 j (by omega))
theorem zO5(c:a<NN sw)(d:b<NN sw)(h:z=a &&& b∨z=a ||| b):z<NN sw:=by
 rcases h with rfl|rfl
 .exact qH3 Nat.and_le_left c
 .exact Nat.or_lt_two_pow c d
def Kn(sw m z:Nat):Prop:=∃i,i<=m/\z∈lv sw i
theorem kH(h:Kn sw m z)(hk:m<=k):Kn sw k z:=let ⟨i,hi,h⟩:=h;⟨i,by omega,h⟩
theorem CC(f:Kn sw i a)(e:Kn sw j b)(h:z=a &&& b∨z=a ||| b):Kn sw (i+j+1) z:=by
 obtain⟨d,p,f⟩:=f;obtain⟨c,o,e⟩:=e;refine Classical.byContradiction λg=>?_;have l:=zO5 (Vv sw _ f) (Vv sw _ e) h;refine g ⟨d+c+1,by omega,(Rb sw _ z).mpr ⟨l,λk hk m=>g ⟨k,by omega,m⟩,?_⟩⟩;by_cases n:d<=c
 .refine⟨d,by omega,a,f,b,?_,h⟩;rw[show d+c+1 - 1 - d=c by omega];exact e
 .refine⟨c,by omega,b,e,a,?_,?_⟩
  .simp_all
  .rw[Nat.and_comm,Nat.or_comm b a];exact h
theorem kG(h:z∈We sw):Kn sw 0 z:=⟨0,qA7 _,h⟩
def Yv(z:Nat):ZF:=.inl (z:Int)
def YC(kvs:List (ZF×D))(xs:List Nat):Prop:=kvs.map (·.1)=xs.map Yv
theorem Ra(h:Yv a=Yv b):a=b:=by have:=Sum.inl.inj h;omega
theorem M0:∀{kvs:List (ZF×D)}{xs:List Nat},YC kvs xs->∀z:Nat,(kvs.any λa=>decide (a.1=Yv z))=decide (z∈xs)
 |[],[],_,z=>rfl
 |[],x::xs,h,z=>by simp[YC]at h
 |p::kvs,[],h,z=>by simp[YC]at h
 |p::kvs,x::xs,h,z=>by
  simp only[YC,qB8,qK3.injEq]at h;rw[qG8,M0 h.2,h.1];by_cases e:x=z
  .subst e;simp
  .have:Yv x≠Yv z:=λq=>e (Ra q);simp[this,Ne.symm e]
theorem MZ:∀{kvs:List (ZF×D)}{xs:List Nat},YC kvs xs->∀z:Nat,(z∉xs->YT kvs (Yv z)=Z8)/\(z∈xs->∃d,YT kvs (Yv z)=Z9 d/\(Yv z,d)∈kvs)
 |[],[],_,z=>⟨λ_=>rfl,λh=>by cases h⟩
 |[],x::xs,h,z=>by simp[YC]at h
 |p::kvs,[],h,z=>by simp[YC]at h
 |p::kvs,x::xs,h,z=>by
  simp only[YC,qB8,qK3.injEq]at h;obtain⟨f,g⟩:=MZ h.2 z;obtain⟨k,v⟩:=p;dsimp only at h;have e:YT ((k,v)::kvs) (Yv z)=if k=Yv z then Z9 v else YT kvs (Yv z):=by
   unfold YT;by_cases q:k=Yv z
   .simp[q]
   .simp[q]
  rw[e,h.1];by_cases q:x=z
  .simp_all
  .have:=λw=>q (Ra w);rw[if_neg this];refine⟨λi=>f λc=>i (qC5 _ c),λc=>?_⟩;rcases qB0.mp c with rfl|c
   .exact absurd rfl q
   .obtain⟨d,a,b⟩:=g c;exact⟨d,a,qC5 _ b⟩
def Xd(xs:List Nat)(z:Nat):List Nat:=if z∈xs then xs else xs++[z]
theorem Jv:x∈Xd xs z↔x∈xs∨x=z:=by
 unfold Xd;split
 .simp_all
 .simp
theorem Ju(h:xs.Nodup):(Xd xs z).Nodup:=by
 unfold Xd;split
 .exact h
 .rename_i d;rw[qG0];refine⟨h,by simp,λa f b c=>?_⟩;simp at c;subst c;exact λe=>d (e▸f)
theorem kF(h:YC kvs xs)(z:Nat)(d:D):YC (YS kvs (Yv z) d) (Xd xs z)/\∀p∈YS kvs (Yv z) d,p∈kvs∨p=(Yv z,d):=by
 unfold YS Xd;rw[M0 h];by_cases a:z∈xs
 .rw[if_pos (by simpa using a),if_pos a];refine⟨?_,λp b=>?_⟩
  .unfold YC at h ⊢;rw[<- h,qC7];refine qE0 λq _=>?_;show(if q.1=Yv z then(q.1,d)else q).1=q.1;split<;>rfl
  .obtain⟨q,c,rfl⟩:=qB9.mp b;by_cases e:q.1=Yv z
   .rw[if_pos e,e];exact .inr rfl
   .rw[if_neg e];exact .inl c
 .rw[if_neg (by simpa using a),if_neg a];refine⟨by unfold YC at h ⊢;rw[qD7,qD7,h];rfl,λp b=>?_⟩;rcases qC0.mp b with q|q
  .exact .inl q
  .simp at q;exact .inr q
theorem Pc(h:YC kvs xs):kvs.length=xs.length:=by have:=congrArg qJ3 h;simpa using this
theorem Jt:∀{more kvs:List (ZF×D)}{c xs:List Nat},YC more c->YC kvs xs->∃ys,YC (XF kvs more) ys/\(∀z,z∈ys↔z∈xs∨z∈c)/\(xs.Nodup->ys.Nodup)
 |[],kvs,c,xs,h,g=>by
  have:c=[]:=by cases c with|nil=>rfl|cons a b=>simp[YC]at h
  subst this;exact⟨xs,g,by simp,id⟩
 |p::more,kvs,[],xs,h,g=>by simp[YC]at h
 |p::more,kvs,m::c,xs,h,g=>by
  simp only[YC,qB8,qK3.injEq]at h;obtain⟨ys,i,d,f⟩:=Jt h.2 (kF g m p.2).1;refine⟨ys,?_,λz=>?_,λe=>f (Ju e)⟩
  .show YC (XF (YS kvs p.1 p.2) more) ys;rw[h.1];exact i
  .rw[d,Jv,qB0];constructor
   .rintro((h|h)| h)
    .exact .inl h
    .exact .inr (.inl h)
    .exact .inr (.inr h)
   .rintro(h|h|h)
    .exact .inl (.inl h)
    .exact .inl (.inr h)
    .exact .inr h
theorem Cz:∀{kvs:List (ZF×D)}{xs:List Nat},YC kvs xs->(kvs.map λp=>kD p.1)=xs.map λz=>D.int ((z:Nat):Int)
 |kvs,xs,h=>by
  have:(kvs.map λp=>kD p.1)=(kvs.map (·.1)).map kD:=by rw[qC7];rfl
  rw[this,h,qC7];rfl
theorem Cy(h:Zy S m=Z9 kvs)(z:Nat):dictAt S m (.int z)=Z9 (YT kvs (Yv z)):=by
 unfold Zy at h;unfold dictAt;split at h
 .rename_i e;cases h;first|rfl|(rw[e];rfl)
 .rename_i e;cases h;first|rfl|(rw[e];rfl)
 .cases h
theorem MY(h:Zy S m=Z9 kvs)(hk:YC kvs xs)(neg:Bool)(z:Nat):YG neg (.int z) (.dct m) S=.ok (.bl (if neg then !decide (z∈xs)else decide (z∈xs))) S:=by
 show(match dictAt S m (.int z)with|some o=>R.ok (D.bl (if neg then !o.isSome else o.isSome)) S|none=>.bad)=_;rw[Cy h];dsimp only;by_cases a:z∈xs
 .obtain⟨d,e,_⟩:=(MZ hk z).2 a;rw[e];simp[a]
 .rw[(MZ hk z).1 a];simp[a]
theorem Cw(h:Zy S m=Z9 kvs)(hk:YC kvs xs)(hz:z∈xs):∃d,ZA (.dct m) (.int z) S=.ok d S/\(Yv z,d)∈kvs:=by obtain⟨d,e,q⟩:=(MZ hk z).2 hz;refine⟨d,?_,q⟩;show(match dictAt S m (.int z)with|some (Z9 d)=>R.ok d S|_=>.bad)=_;rw[Cy h,e]
theorem Cv(h:S[m]?=Z9 (.dk kvs))(a:kvs.length<lim)(z:Nat)(d:D):X2 (.dct m) (.int z) d S=Z9 (S.set m (.dk (YS kvs (Yv z) d))):=by unfold X2;dsimp only;rw[h];show(if kvs.length<lim then Z9 (S.set m (.dk (YS kvs (.inl z) d)))else Z8)=_;rw[if_pos a];rfl
theorem Pb(h:S[m]?=Z9 (.dk kvs)):Zy S m=Z9 kvs:=by unfold Zy;rw[h]
theorem Cu(h:S[m]?=Z9 (.fk kvs)):Zy S m=Z9 kvs:=by unfold Zy;rw[h]
theorem UN(h:Kp P S S')(e:Zy S m=Z9 kvs)(n:¬P m):Zy S' m=Z9 kvs:=by
 unfold Zy at e ⊢;split at e
 .rename_i q;rw[h.at q n];exact e
 .rename_i q;rw[h.at q n];exact e
 .cases e
theorem Cs(e:Zy S m=Z9 kvs):m<S.length:=by
 unfold Zy at e;split at e
 .rename_i q;exact(qA4.mp q).1
 .rename_i q;exact(qA4.mp q).1
 .cases e
theorem Pa(b:c B S=.ok (.dct m) S)(h:Zy S m=Z9 kvs)(hk:YC kvs xs):∃a,Zv c B S=.ok (xs.map λz=>D.int ((z:Nat):Int),[]) a/\Kp (·=m) S a/\Zy a m=Z9 kvs/\a.length=S.length:=by
 unfold Zy at h;rw[Kc,b];split at h
 .rename_i e;cases h;refine⟨S.set m (.fk kvs),?_,VI S _,Cu (qE2 (qA4.mp e).1),by simp⟩;simp only[Xz,e,Cz hk]
 .rename_i e;cases h;refine⟨S,?_,Kp.refl _ _,Cu e,rfl⟩;simp only[Xz,e,Cz hk]
 .cases h
theorem Sb{α Z:Type}(e:α->D)(f:Z->α->Z)(P:Z->ZS->ZX->Prop){w:XA}{g:G}{b:CS}(d:∀s B S,P s B S->X9 w S):∀(l:List α) {s:Z}{B:ZS}{S:ZX},P s B S->(∀s a B S,a∈l->P s B S->Ro g b (e a) B S (P (f s a)))->NG (YV w g b (l.map e) B S) (P (l.foldl f s))
 |[],s,B,S,h0,hs=>⟨B,S,by rw[qQ5];unfold YV;rw[if_pos (d s B S h0)],h0⟩
 |a::l,s,B,S,h0,hs=>by
  obtain⟨q,p,i,r,t,c,m⟩:=hs s a B S (by simp) h0;obtain⟨j,o,h,n⟩:=Sb e f P d l m λs a B S k=>hs s a B S (by simp[k]);refine⟨j,o,?_,n⟩;rw[qB8];unfold YV;rw[if_pos (d s B S h0),i];dsimp only;rcases c with c|c
  .rw[c];exact h
  .rw[c];exact h
theorem MX(a b:Nat):j6 a b=((a &&& b:Nat):Int):=rfl
theorem Js(a b:Nat):vV a b=((a ||| b:Nat):Int):=by
 have c:∀x:Int,fJ (fJ x)=x:=λx=>by unfold fJ;omega
 have d:∀x:Nat,decide (0<=fJ x)=Z5:=λx=>by rw[decide_eq_false_iff_not];unfold fJ;omega
 unfold vV j6;rw[d,d];rw[c,c,c];rfl
abbrev NL:=List (Nat×D)
def X8(l:NL):List (ZF×D):=l.map λp=>(Yv p.1,p.2)
def Zs(l:NL):List Nat:=l.map (·.1)
theorem UM(l:NL):YC (X8 l) (Zs l):=by unfold YC X8 Zs;simp[Function.comp_def]
theorem Jr:∀{l:NL}{z:Nat}{d:D},(Zs l).Nodup->(z,d)∈l->YT (X8 l) (Yv z)=Z9 d
 |(y,e)::r,z,d,nd,h=>by
  unfold Zs at nd;rw[qB8,qH2]at nd;by_cases q:y=z
  .subst q;rcases qB0.mp h with h|h
   .cases h;simp[X8,YT]
   .exact absurd (qI3 (f:=(·.1)) h) nd.1
  .rcases qB0.mp h with h|h
   .cases h;exact absurd rfl q
   .have a:=Jr nd.2 h;unfold X8 YT at a ⊢;rw[qB8,List.find?_cons_of_neg (by simpa using λe=>q (Ra e))];exact a
theorem kE(h:z∉Zs l):YS (X8 l) (Yv z) d=X8 (l++[(z,d)]):=by unfold YS;rw[M0 (UM l),if_neg (by simpa using h)];simp[X8]
theorem Cr(h:Zy S m=Z9 (X8 l))(j:(Zs l).Nodup)(c:p∈l):ZA (.dct m) (.int (p.1:Nat)) S=.ok p.2 S:=by obtain⟨d,e,g⟩:=Cw h (UM l) (qI3 (f:=(·.1)) c);rw[e];unfold X8 at g;obtain⟨q,o,i⟩:=qB9.mp g;have k:=Ra (congrArg Prod.fst i);have n:q.2=d:=congrArg Prod.snd i;have a:=Jr j (z:=p.1) (d:=p.2) c;have b:=Jr j (z:=p.1) (d:=d) (by rw[<- k,<- n];exact o);rw[a]at b;cases b;rfl
def Jq(d e:D):D:=.tup [.str (Str.ofString "row"),.tup [d,e]]
def Jp(d e:D):D:=.tup [.str (Str.ofString "side"),.tup [d,e]]
def YZ(xk:List Nat)(a:NL)(z:Nat)(d:D):NL:=if z∈xk then a else if z∈Zs a then a else a++[(z,d)]
def XE(xk:List Nat)(p:Nat×D)(a:NL)(q:Nat×D):NL:=YZ xk (YZ xk a (p.1 &&& q.1) (Jq p.2 q.2)) (p.1 ||| q.1) (Jp p.2 q.2)
def Xm(xk:List Nat)(d c b:NL):NL:=d.foldl (λs a=>c.foldl (XE xk a) s) b
def Xl(xk:List Nat)(T:Nat->NL)(m:Nat):Nat->NL
 |0=>[]
 |j+1=>Xm xk (T j) (T (m - 1 - j)) (Xl xk T m j)
def WS(k o:Int):D:=.tup [.str (Str.ofString "at"),.int k,.int o]
def UL(sw:Nat):NL:=(List.range sw).flatMap fun(k:Nat)=>[(Xn sw k 0,WS k 0),(Xn sw k 1,WS k 1)]
def Q9(a:List NL):NL:=Xl (a.flatMap Zs) (λi=>a.getD i []) a.length ((a.length+1) / 2)
def Vu(sw:Nat):Nat->List NL
 |0=>[UL sw]
 |m+1=>Vu sw m++[Q9 (Vu sw m)]
def LX(sw i:Nat):NL:=(Vu sw i).getD i []
theorem Te(sw:Nat):∀m,(Vu sw m).length=m+1
 |0=>rfl
 |m+1=>by show(Vu sw m++[Q9 (Vu sw m)]).length=_;rw[qC2,Te sw m];rfl
theorem MW(sw:Nat):∀(m i:Nat),i<=m->(Vu sw m).getD i []=LX sw i
 |0,i,h=>by
  have:i=0:=by lia
  subst this;rfl
 |m+1,i,h=>by
  by_cases e:i=m+1
  .subst e;rfl
  .show(Vu sw m++[Q9 (Vu sw m)]).getD i []=_;rw[qC6,qA8 (by rw[Te];lia),<- qC6,MW sw m i (by lia)]
theorem kC(h:∀z,z∈xk↔z∈yk):YZ xk=YZ yk:=by funext ax z d;unfold YZ;simp only[h z]
theorem Jo(h:∀z,z∈xk↔z∈a)(b:∀i,i<m->T i=U i):∀j,j<=m->Xl xk T m j=Xl a U m j
 |0,_=>rfl
 |j+1,hj=>by show Xm xk (T j) (T (m - 1 - j)) (Xl xk T m j)=Xm a (U j) (U (m - 1 - j)) (Xl a U m j);rw[Jo h b j (by lia),b j (by lia),b (m - 1 - j) (by lia)];unfold Xm XE;rw[kC h]
theorem Jn(h:∀z,z∈xk↔∃i,i<=m/\z∈Zs (LX sw i)):LX sw (m+1)=Xl xk (LX sw) (m+1) ((m+2) / 2):=by
 show(Vu sw m++[Q9 (Vu sw m)]).getD (m+1) []=_;rw[qC6,qA1 (by rw[Te];exact qA7 _),Te,qH7];show Q9 (Vu sw m)=_;unfold Q9;rw[Te];refine Jo (λz=>?_) (λi b=>MW sw m i (by lia)) _ (by lia);rw[h,qL5];constructor
 .rintro⟨l,c,a⟩;obtain⟨i,b,rfl⟩:=qH1 c;rw[Te]at b;refine⟨i,by lia,?_⟩;rw[<- MW sw m i (by lia),qC6,qA2 (by rw[Te];lia)];exact a
 .rintro⟨i,b,a⟩;rw[<- MW sw m i (by lia),qC6,qA2 (by rw[Te];lia)]at a;exact⟨_,qD6 _,a⟩
theorem UK:∀(n:Nat) {l:List Nat},l.Nodup->(∀z∈l,z<n)->l.length<=n
 |0,l,_,h=>by
  cases l with
  |nil=>simp
  |cons a r=>exact absurd (h a (by simp)) (qG5 _)
 |n+1,l,nd,h=>by
  by_cases d:n∈l
  .have c:=UK n (nd.erase n) λz b=>by
    have g:=h z (List.mem_of_mem_erase b);have f:z≠n:=λe=>by subst e;exact(List.Nodup.not_mem_erase nd) b
    lia
   rw[qL7 d]at c
   lia
  .have c:=UK n nd λz b=>by
    have g:=h z b;have f:z≠n:=λe=>d (e▸b)
    lia
   lia
def Wd(xk acc:List Nat)(z:Nat):List Nat:=if z∈xk then acc else Xd acc z
theorem Jm:x∈Wd xk acc z↔x∈acc∨(x=z/\z∉xk):=by
 unfold Wd;split
 .simp_all
 .rename_i h;rw[Jv];simp[h]
def WY(xk:List Nat)(a:Nat)(acc:List Nat)(b:Nat):List Nat:=Wd xk (Wd xk acc (a &&& b)) (a ||| b)
def allN(xk x1 x2 acc:List Nat):List Nat:=x1.foldl (λs a=>x2.foldl (WY xk a) s) acc
theorem Cq:∀{x2 acc:List Nat}{x:Nat},x∈x2.foldl (WY xk a) acc↔x∈acc∨(x∉xk/\∃b∈x2,x=a &&& b∨x=a ||| b)
 |[],acc,x=>by simp
 |b::x2,acc,x=>by
  rw[qK8,Cq,WY,Jm,Jm];constructor
  .rintro(((h|⟨rfl,h⟩)| ⟨rfl,h⟩)| ⟨h,c,d,q⟩)
   .exact .inl h
   .simp_all
   .simp_all
   .exact .inr ⟨h,c,by simp[d],q⟩
  .rintro(h|⟨h,c,d,q⟩)
   .exact .inl (.inl (.inl h))
   .rcases qB0.mp d with rfl|d
    .rcases q with rfl|rfl
     .simp_all
     .exact .inl (.inr ⟨rfl,h⟩)
    .exact .inr ⟨h,c,d,q⟩
theorem Jl:∀{x1 acc:List Nat}{x:Nat},x∈allN xk x1 x2 acc↔x∈acc∨(x∉xk/\∃a∈x1,∃b∈x2,x=a &&& b∨x=a ||| b)
 |[],acc,x=>by simp[allN]
 |a::x1,acc,x=>by
  have e:=Jl (xk:=xk) (x2:=x2) (x1:=x1) (acc:=x2.foldl (WY xk a) acc) (x:=x);unfold allN at e ⊢;rw[qK8,e,Cq];constructor
  .rintro((h|⟨h,q⟩)| ⟨h,c,d,q⟩)
   .exact .inl h
   .simp_all
   .exact .inr ⟨h,c,by simp[d],q⟩
  .rintro(h|⟨h,c,d,q⟩)
   .exact .inl (.inl h)
   .rcases qB0.mp d with rfl|d
    .exact .inl (.inr ⟨h,q⟩)
    .exact .inr ⟨h,c,d,q⟩
theorem MV:Zs (YZ xk a z d)=Wd xk (Zs a) z:=by
 unfold YZ Wd Xd;split
 .rfl
 .split
  .rfl
  .simp[Zs]
theorem Cp(xk:List Nat)(p:Nat×D):∀(l ax:NL),Zs (l.foldl (XE xk p) ax)=(Zs l).foldl (WY xk p.1) (Zs ax)
 |[],_=>rfl
 |q::l,ax=>by show Zs (l.foldl (XE xk p) (XE xk p ax q))=(Zs l).foldl (WY xk p.1) (WY xk p.1 (Zs ax) q.1);rw[Cp xk p l];unfold XE WY;rw[MV,MV]
theorem Jk(xk:List Nat)(a:NL):∀(l ax:NL),Zs (Xm xk l a ax)=allN xk (Zs l) (Zs a) (Zs ax)
 |[],_=>rfl
 |p::l,ax=>by show Zs (Xm xk l a (a.foldl (XE xk p) ax))=allN xk (Zs l) (Zs a) ((Zs a).foldl (WY xk p.1) (Zs ax));rw[Jk xk a l,Cp]
theorem Jj{α Z:Type}(P:Z->Prop)(f:Z->α->Z):∀(l:List α) (s:Z),P s->(∀s a,a∈l->P s->P (f s a))->P (l.foldl f s)
 |[],_,h,_=>h
 |a::l,s,h,g=>Jj P f l _ (g s a (by simp) h) λs b c=>g s b (by simp[c])
theorem kB(P:NL->Prop)(h:P a)(g:∀a p q,p∈d->q∈b->P a->P (XE xk p a q)):P (Xm xk d b a) :=
 Jj P _ d a h λs p e c=>Jj P _ b s c λs q f c=>g s p q e f c
theorem kA(h:(Zs a).Nodup):(Zs (YZ xk a z d)).Nodup:=by
 rw[MV];unfold Wd;split
 .exact h
 .exact Ju h
theorem kz(h:∀y∈Zs a,y<256)(hz:z<256):∀y∈Zs (YZ xk a z d),y<256:=λy b=>by
 rw[MV,Jm]at b;rcases b with q|⟨rfl,_⟩
 .exact h y q
 .exact hz
theorem Co{V:Nat->D->Prop}(h:∀p∈b,V p.1 p.2)(hz:V z d):∀p∈YZ xk b z d,V p.1 p.2:=λp a=>by
 unfold YZ at a;split at a
 .exact h p a
 .split at a
  .exact h p a
  .rcases qC0.mp a with q|q
   .exact h p q
   .simp at q;subst q;exact hz
inductive AM(S0:ZX)(L n1 n2 nk:Nat)(p1 p2:NL)(kk:List (ZF×D))(ax:NL)(S:ZX):Prop
 |mk (hL:S[L]?=Z9 (.dk (X8 ax))) (nd:(Zs ax).Nodup) (bd:∀z∈Zs ax,z<256) (h1:Zy S n1=Z9 (X8 p1)) (h2:Zy S n2=Z9 (X8 p2)) (hk:Zy S nk=Z9 kk) (kp:Kp (λj=>j=L∨j=n1∨j=n2) S0 S)
structure AH(L n1 n2 nk:Nat)(p1 p2:NL)(kk:List (ZF×D))(xk:List Nat):Prop where
 l1:n1≠L
 l2:n2≠L
 lk:nk≠L
 kyk:YC kk xk
 b1:∀z∈Zs p1,z<256
 b2:∀z∈Zs p2,z<256
 d1:(Zs p1).Nodup
 d2:(Zs p2).Nodup
theorem Cn(h:p∈l):p.1∈Zs l:=qI3 h
section
variable {S0:ZX}{L n1 n2 nk:Nat}{p1 p2:NL}{kk:List (ZF×D)}{xk:List Nat}
theorem AM.put(h:AM S0 L n1 n2 nk p1 p2 kk a S)(H:AH L n1 n2 nk p1 p2 kk xk)(hz:z<256)(hk:z∉xk)(l:z∉Zs a):∃S1,X2 (.dct L) (.int z) d S=Z9 S1/\AM S0 L n1 n2 nk p1 p2 kk (YZ xk a z d) S1:=by
 obtain⟨g,m,k,n,p,c,kp⟩:=h;have q:(X8 a).length<lim:=by rw[Pc (UM a)];exact qH3 (UK 256 m k) (by decide)
 have f:=(qA4.mp g).1;have b:=VI (i:=L) S (.dk (YS (X8 a) (Yv z) d));have o:YZ xk a z d=a++[(z,d)]:=by unfold YZ;rw[if_neg hk,if_neg l]
 refine⟨_,Cv g q z d,?_,kA m,kz k hz,UN b n H.l1,UN b p H.l2,UN b c H.lk,kp.trans (b.mono λj _ e=>.inl e)⟩;rw[qE2 f,kE l,o]
def XW(L d c b:Nat)(e w5 f a:Option D):ZS:=[Z9 (.dct L),Z9 (.dct d),Z9 (.dct c),Z9 (.dct b),e,w5,f,a]
theorem Cm(c:ZQ)(d:YG Z7 (.int z) (.dct nk) S=.ok (.bl p) S)(e:YG Z7 (.int z) (.dct L) S=.ok (.bl q) S)(h:(p&&q)=Z5):Rk c (XW L n1 n2 nk a w5 b (Z9 (.int z))) S=.nx (XW L n1 n2 nk a w5 b (Z9 (.int z))) S:=by cases p<;>cases q<;>simp[XW]at h ⊢<;>simp[Rk,d,e]
theorem kx(c:ZQ)(b:YG Z7 (.int z) (.dct nk) S=.ok (.bl Z7) S)(h:YG Z7 (.int z) (.dct L) S=.ok (.bl Z7) S)(f:ZA (.dct n1) (.int x) S=.ok d S)(g:ZA (.dct n2) (.int y) S=.ok e S)(i:X2 (.dct L) (.int z) (.tup [.str a,.tup [d,e]]) S=Z9 S1):Rk c (XW L n1 n2 nk (Z9 (.int x)) (Z9 (.int y)) (Z9 (.str a)) (Z9 (.int z))) S=.nx (XW L n1 n2 nk (Z9 (.int x)) (Z9 (.int y)) (Z9 (.str a)) (Z9 (.int z))) S1:=by simp[XW,Rk,b,h,f,g,i]
theorem Ck(c:ZQ)(H:AH L n1 n2 nk p1 p2 kk xk)(h:AM S0 L n1 n2 nk p1 p2 kk e S)(s:p∈p1)(u:q∈p2)(hz:z<256)(i j:Option D):
  Ro (gT [(gN 6),(gN 7)]) (Rk c) (.tup [.str b,.int (z:Nat)]) (XW L n1 n2 nk (Z9 (.int (p.1:Nat))) (Z9 (.int (q.1:Nat))) i j) S (fun B g=>(∃i j,B=XW L n1 n2 nk (Z9 (.int (p.1:Nat))) (Z9 (.int (q.1:Nat))) i j)/\AM S0 L n1 n2 nk p1 p2 kk (YZ xk e z (.tup [.str b,.tup [p.2,q.2]])) g):=by
 have v:=h;obtain⟨n,x,w,m,r,k,kp⟩:=v;have f:=MY k H.kyk Z7 z;have l:=MY (Pb n) (UM e) Z7 z;refine⟨XW L n1 n2 nk (Z9 (.int p.1)) (Z9 (.int q.1)) (Z9 (.str b)) (Z9 (.int z)),S,by simp[XW],?_⟩;by_cases hk:z∈xk
 .refine⟨_,_,.inl (Cm c f l (by simp[hk])),⟨_,_,rfl⟩,?_⟩;unfold YZ;rw[if_pos hk];exact h
 by_cases a:z∈Zs e
 .refine⟨_,_,.inl (Cm c f l (by simp[a])),⟨_,_,rfl⟩,?_⟩;unfold YZ;rw[if_neg hk,if_pos a];exact h
 .obtain⟨g,t,o⟩:=h.put H hz (d:=.tup [.str b,.tup [p.2,q.2]]) hk a;exact⟨_,g,.inl (kx c (by simpa[hk]using f) (by simpa[a]using l) (Cr m H.d1 s) (Cr r H.d2 u) t),⟨_,_,rfl⟩,o⟩
theorem kv(c:ZQ)(H:AH L n1 n2 nk p1 p2 kk xk)(h:AM S0 L n1 n2 nk p1 p2 kk j S)(g:p∈p1)(i:q∈p2)(a b:Option D):
  NG (JQ c (XW L n1 n2 nk (Z9 (.int (p.1:Nat))) (Z9 (.int (q.1:Nat))) a b) S) (fun B f=>(∃a b,B=XW L n1 n2 nk (Z9 (.int (p.1:Nat))) (Z9 (.int (q.1:Nat))) a b)/\AM S0 L n1 n2 nk p1 p2 kk (XE xk p j q) f):=by
 have A:=H.b1 _ (Cn g);have k:=H.b2 _ (Cn i);have lt:∀z,z=p.1 &&& q.1∨z=p.1 ||| q.1->z<256:=λz h=>zO5 (sw:=3) A k h;obtain⟨l,n,e,m⟩:=Sb (λt:Str×Nat=>D.tup [.str t.1,.int t.2]) (λs t=>YZ xk s t.2 (.tup [.str t.1,.tup [p.2,q.2]])) (λs B f=>(∃a b,B=XW L n1 n2 nk (Z9 (.int p.1)) (Z9 (.int q.1)) a b)/\AM S0 L n1 n2 nk p1 p2 kk s f) (λ_ _ S _=>XH S) [(Str.ofString "row",p.1 &&& q.1),(Str.ofString "side",p.1 ||| q.1)] ⟨⟨a,b,rfl⟩,h⟩ (λs t B S ht d=>by
  obtain⟨⟨a,b,rfl⟩,d⟩:=d;simp at ht;rcases ht with rfl|rfl
  .exact Ck c H d g i (lt _ (.inl rfl)) a b
  .exact Ck c H d g i (lt _ (.inr rfl)) a b)
 refine⟨l,n,?_,m⟩;have o:Zv (Ze (ZR [(Ze (ZR [(ZW (.str (Str.ofString "row"))),(ZU (Zn j6) (ZY 4) (ZY 5))])),(Ze (ZR [(ZW (.str (Str.ofString "side"))),(ZU (Zn vV) (ZY 4) (ZY 5))]))])) (XW L n1 n2 nk (Z9 (.int p.1)) (Z9 (.int q.1)) a b) S=.ok ([(Str.ofString "row",p.1 &&& q.1),(Str.ofString "side",p.1 ||| q.1)].map (λt:Str×Nat=>D.tup [.str t.1,.int t.2]),[]) S:=by simp[XW,Js,MX]
 unfold JQ;rw[Qa,P9,o];show sb (YV [] _ _ _ _ S) ZL .mk=_;rw[e];rfl
theorem AM.froze(h:AM S0 L n1 n2 nk p1 p2 kk f S)(H:AH L n1 n2 nk p1 p2 kk xk)(hm:m=n1∨m=n2)(kp:Kp (·=m) S S1)(hs:Zy S m=Z9 d)(p:Zy S1 m=Z9 d):AM S0 L n1 n2 nk p1 p2 kk f S1:=by
 obtain⟨i,o,k,g,l,b,c⟩:=h;have a:∀{j:Nat}{ks':List (ZF×D)},Zy S j=Z9 ks'->Zy S1 j=Z9 ks':=λ{j ks'} n=>by
  by_cases e:j=m
  .simp_all
  .exact UN kp n e
 refine⟨kp.at i (λe=>?_),o,k,a g,a l,a b,c.trans (kp.mono λj _ e=>?_)⟩
 .rcases hm with q|q
  .exact H.l1 (q▸e.symm)
  .exact H.l2 (q▸e.symm)
 .lia
theorem ku(c:ZQ)(H:AH L n1 n2 nk f p2 kk xk)(h:AM S0 L n1 n2 nk f p2 kk k S)(r:p∈f)(w5 a b:Option D):
  NG (JP c (XW L n1 n2 nk (Z9 (.int (p.1:Nat))) w5 a b) S) (fun B d=>(∃w5 a b,B=XW L n1 n2 nk (Z9 (.int (p.1:Nat))) w5 a b)/\AM S0 L n1 n2 nk f p2 kk (p2.foldl (XE xk p) k) d):=by
 have i:Zy S n2=Z9 (X8 p2):=by obtain⟨_,_,_,_,i,_,_⟩:=h;exact i
 obtain⟨d,y,kp,u,_⟩:=Pa (c:=ZY 2) (B:=XW L n1 n2 nk (Z9 (.int p.1)) w5 a b) (by simp[XW]) i (UM p2);have t:=h.froze H (.inr rfl) kp i u;obtain⟨o,w,e,v⟩:=Sb (λq:Nat×D=>D.int q.1) (XE xk p) (λs B d=>(∃w5 a b,B=XW L n1 n2 nk (Z9 (.int p.1)) w5 a b)/\AM S0 L n1 n2 nk f p2 kk s d) (g:=gN 5) (λ_ _ S _=>XH S) p2 ⟨⟨w5,a,b,rfl⟩,t⟩ (λs q B S x j=>by
  obtain⟨⟨w5,a,b,rfl⟩,j⟩:=j;obtain⟨A,d,l,⟨n,m,rfl⟩,f⟩:=kv c H j r x a b;exact⟨XW L n1 n2 nk (Z9 (.int p.1)) (Z9 (.int q.1)) a b,S,by simp[XW],_,d,.inl l,⟨_,_,_,rfl⟩,f⟩)
 refine⟨o,w,?_,v⟩;unfold JP;rw[Qa,P9,y];show sb (YV [] _ _ _ _ d) ZL .mk=_;unfold Zs;rw[qC7,show((λz:Nat=>D.int z)∘λq:Nat×D=>q.1)=λq:Nat×D=>D.int q.1 from rfl,e];rfl
theorem kr(hm:Sk cl)(n:Nat)(H:AH L n1 n2 nk b p2 kk xk)(h:AM S0 L n1 n2 nk b p2 kk m S):∃S1,cl (n+1) "add_made" [.dct L,.dct n1,.dct n2,.dct nk] S=.ok .non S1/\AM S0 L n1 n2 nk b p2 kk (Xm xk b p2 m) S1:=by
 have j:Zy S n1=Z9 (X8 b):=by obtain⟨_,_,_,j,_,_,_⟩:=h;exact j
 obtain⟨S1,A,kp,w,_⟩:=Pa (c:=ZY 1) (B:=XW L n1 n2 nk Z8 Z8 Z8 Z8) (by simp[XW]) j (UM b);have u:=h.froze H (.inl rfl) kp j w;obtain⟨C,y,e,⟨k,i,d,f,rfl⟩,p⟩:=Sb (λp:Nat×D=>D.int p.1) (λs a=>p2.foldl (XE xk a) s) (λs B S1=>(∃k i d f,B=XW L n1 n2 nk k i d f)/\AM S0 L n1 n2 nk b p2 kk s S1) (g:=gN 4) (λ_ _ S _=>XH S) b ⟨⟨Z8,Z8,Z8,Z8,rfl⟩,u⟩ (λs a B S v l=>by
  obtain⟨⟨k,i,d,f,rfl⟩,l⟩:=l;obtain⟨E,S1,o,⟨x,t,r,rfl⟩,b⟩:=ku (cl n) H l v i d f;exact⟨XW L n1 n2 nk (Z9 (.int a.1)) i d f,S,by simp[XW],_,S1,.inl o,⟨_,_,_,_,rfl⟩,b⟩)
 refine⟨y,?_,p⟩;rw[hm];refine nU (B:=XW L n1 n2 nk k i d f) rfl ?_;show PU (cl n) (XW L n1 n2 nk Z8 Z8 Z8 Z8) S=_;unfold PU;rw[Qa,P9,A];show sb (YV [] _ _ _ _ S1) ZL .mk=_;unfold Zs;rw[qC7,show((λz:Nat=>D.int z)∘λq:Nat×D=>q.1)=λq:Nat×D=>D.int q.1 from rfl,e];rfl
end
theorem kq(h:S[n]?=Z9 o)(a:(match o with|.dk _=>Z7|.dt _=>Z7|_=>Z5)=Z7):Yq "dict" (.dct n) S=Z7:=by show(decide ("dict" = "dict")&&(match S[n]? with|some (.dk _)=>Z7|some (.dt _)=>Z7|_=>Z5))=Z7;rw[h];cases o<;>first|rfl|cases a
def VT(sw i z:Nat)(d:D):Prop:=∃t:Tr,d=t.d/\t.wf (sw:Int)/\t.lv=i+1/\t.ht<=i/\z=ZK 0 ((ZD sw).map t.on)
theorem Cj(r:Bool)(hm:i+j+1=m)(f:VT sw i a d)(g:VT sw j b e):VT sw m (if r then a &&& b else a ||| b) (.tup [.str (kw r),.tup [d,e]]):=by
 obtain⟨t,rfl,h,o,l,rfl⟩:=f;obtain⟨u,rfl,c,p,n,rfl⟩:=g;refine⟨.nd r [t,u],rfl,⟨by simp,h,c,trivial⟩,?_,?_,?_⟩
 .show t.lv+(u.lv+0)=m+1
  lia
 .show max t.ht (max u.ht 0)+1<=m
  lia
 .cases r
  .rw[if_neg qB4,CG];congr 1;refine qE0 λk _=>?_;simp[Tr.on,Tr.onO]
  .rw[if_pos rfl,CH];congr 1;refine qE0 λk _=>?_;simp[Tr.on,Tr.onA]
inductive T7(sw i:Nat)(S:ZX)(id:Nat):Prop
 |mk (ks:List (ZF×D)) (xs:List Nat) (h:Zy S id=Z9 ks) (ky:YC ks xs) (s:∀z,z∈xs↔z∈lv sw i) (nd:xs.Nodup) (v:(∀z d,(Yv z,d)∈ks->VT sw i z d)/\ks=X8 (LX sw i)/\xs=Zs (LX sw i))
def Q8(sw:Nat)(S:ZX)(a:List Nat):Prop:=∀i id,a[i]?=Z9 id->T7 sw i S id
theorem T7.kp{id:Nat}(h:T7 sw i S id)(kp:Kp P S e)(n:¬P id):T7 sw i e id:=by obtain⟨f,g,h,a,b,c,d⟩:=h;exact⟨f,g,UN kp h n,a,b,c,d⟩
theorem T7.lt{id:Nat}(h:T7 sw i S id):id<S.length:=by obtain⟨a,b,h,_⟩:=h;exact Cs h
theorem Q7(h:sw<=3):NN sw<=256:=by
 have:sw=0∨sw=1∨sw=2∨sw=3:=by lia
 rcases this with rfl|rfl|rfl|rfl<;>decide
theorem R9(a:sw<=3)(h:z∈lv sw i):z<256:=qC1 (Vv sw i h) (Q7 a)
def Xa(k:Nat)(b a c d:Option D):ZS:=[Z9 (.lst k),b,a,c,d]
inductive Ji(sw j nk:Nat)(S1 S:ZX):Prop
 |mk (kk:List (ZF×D)) (yk:List Nat) (h:S[nk]?=Z9 (.dk kk)) (ky:YC kk yk) (s:∀z,z∈yk↔∃i,i<j/\z∈lv sw i) (nd:yk.Nodup) (kp:Kp (·=nk) S1 S)
theorem ko(c:ZQ){sw j a k id:Nat}(r:sw<=3)(h:Ji sw j a l S)(v:T7 sw j l id)(t:id≠a)(f:Option D):Ro (gN 2) (PQ c) (.dct id) (Xa k (Z9 (.dct a)) f Z8 Z8) S (fun B S'=>(∃f,B=Xa k (Z9 (.dct a)) f Z8 Z8)/\Ji sw (j+1) a l S'):=by
 obtain⟨b,H,hk,n,s,q,kp⟩:=h;obtain⟨d,G,w,p,o,y,I⟩:=v.kp kp t;obtain⟨A,x,u,C⟩:=Jt p n;have E:b.length<=256:=by rw[Pc n];refine UK 256 q λz m=>?_;obtain⟨i,_,g⟩:=(s z).mp m;exact R9 r g
 have F:d.length<=256:=by rw[Pc p];exact UK 256 y λz m=>R9 r ((o z).mp m)
 have e:VR (.dct a) [.dct id] S=.ok .non (S.set a (.dk (XF b d))):=by unfold VR;dsimp only;rw[hk,w];dsimp only;rw[if_pos ⟨λz=>t z.symm,qD4 (Nat.add_le_add E F) (by decide)⟩]
 have ty:=kq hk rfl;refine⟨Xa k (Z9 (.dct a)) (Z9 (.dct id)) Z8 Z8,S,by simp[Xa],Xa k (Z9 (.dct a)) (Z9 (.dct id)) Z8 Z8,S.set a (.dk (XF b d)),.inl ?_,⟨_,rfl⟩,XF b d,A,qE2 (qA4.mp hk).1,x,λz=>?_,C q,kp.trans (VI S _)⟩
 .simp[PQ,Xa,ty,e]
 .rw[u,s,o];constructor
  .rintro(⟨i,g,h⟩| h)
   .exact⟨i,by lia,h⟩
   .exact⟨j,by lia,h⟩
  .rintro⟨i,g,h⟩;by_cases e:i=j
   .subst e;exact .inr h
   .exact .inl ⟨i,by lia,h⟩
theorem Jh{V:Nat->D->Prop}(h:∀p∈l,V p.1 p.2):∀z d,(Yv z,d)∈X8 l->V z d:=λz d a=>by unfold X8 at a;obtain⟨q,f,e⟩:=qB9.mp a;have b:=Ra (congrArg Prod.fst e);have c:q.2=d:=congrArg Prod.snd e;rw[<- b,<- c];exact h q f
theorem MU{V:Nat->D->Prop}(h:∀z d,(Yv z,d)∈X8 l->V z d):∀p∈l,V p.1 p.2:=λp a=>h _ _ (qI3 (f:=λp:Nat×D=>(Yv p.1,p.2)) a)
inductive MT(sw m j L nk:Nat)(kk:List (ZF×D))(yk:List Nat)(ids:List Nat)(S3 S:ZX):Prop
 |mk (hL:S[L]?=Z9 (.dk (X8 (Xl yk (LX sw) m j)))) (nd:(Zs (Xl yk (LX sw) m j)).Nodup) (bd:∀z∈Zs (Xl yk (LX sw) m j),z<256) (v:∀p∈Xl yk (LX sw) m j,VT sw m p.1 p.2) (s:∀z,z∈Zs (Xl yk (LX sw) m j)↔z∉yk/\∃l,l<j/\∃a∈lv sw l,∃b∈lv sw (m - 1 - l),z=a &&& b∨z=a ||| b) (hk:Zy S nk=Z9 kk) (lvs:Q8 sw S ids) (kp:Kp (λi=>i=L∨i∈ids) S3 S)
theorem kj(hm:Sk cl)(n:Nat){O S:ZX}(J:sw<=3)(C:YC o yk)(G:c.length=m)(B:L∉c)(E:f≠L)(hj:j<(m+1) / 2)(h:MT sw m j L f o yk c O S)(M:c[j]?=Z9 t)(P:c[m - 1 - j]?=Z9 r):∃S1,cl (n+1) "add_made" [.dct L,.dct t,.dct r,.dct f] S=.ok .non S1/\MT sw m (j+1) L f o yk c O S1:=by
 obtain⟨w,nd,Z,v,s,hk,lvs,kp⟩:=h;obtain⟨k1,x1,a1,a2,x,a4,F,rfl,rfl⟩:=lvs _ _ M;obtain⟨k2,x2,b1,b2,A,b4,R,rfl,rfl⟩:=lvs _ _ P;have T:=qB5 M;have V:=qB5 P;have H:AH L t r f (LX sw j) (LX sw (m - 1 - j)) o yk:=⟨λe=>B (e▸T),λe=>B (e▸V),E,C,λz y=>R9 J ((x z).mp y),λz y=>R9 J ((A z).mp y),a4,b4⟩
 obtain⟨S1,X,c1,c4,c5,c6,Y,c8,W⟩:=kr hm n H ⟨w,nd,Z,a1,b1,hk,Kp.refl _ _⟩;refine⟨S1,X,c1,c4,c5,?_,λz=>?_,c8,λi id N=>?_,kp.trans (W.mono λi _ q=>?_)⟩
 .exact kB (λI=>∀p∈I,VT sw m p.1 p.2) v λI p q U K h=>Co (Co h (Cj Z7 (by lia) (MU F p U) (MU R q K))) (Cj Z5 (by lia) (MU F p U) (MU R q K))
 .rw[show Zs (Xl yk (LX sw) m (j+1))=allN yk (Zs (LX sw j)) (Zs (LX sw (m - 1 - j))) (Zs (Xl yk (LX sw) m j))from Jk _ _ _ _,Jl,s];constructor
  .rintro(⟨d,l,G,q⟩| ⟨d,a,g,b,k,q⟩)
   .exact⟨d,l,by lia,q⟩
   .exact⟨d,j,by lia,a,(x a).mp g,b,(A b).mp k,q⟩
  .rintro⟨d,l,G,a,g,b,k,q⟩;by_cases e:l=j
   .subst e;exact .inr ⟨d,a,(x a).mpr g,b,(A b).mpr k,q⟩
   .exact .inl ⟨d,l,by lia,a,g,b,k,q⟩
 .obtain⟨ks,xs,u,d2,d3,d4,d5⟩:=lvs i id N;refine⟨ks,xs,?_,d2,d3,d4,d5⟩;by_cases q1:id=t
  .simp_all
  by_cases Q:id=r
  .subst Q;rw[b1]at u;cases u;exact Y
  .exact UN W u λq=>by
    rcases q with q|q|q
    .exact B (q▸qB5 N)
    .exact q1 q
    .exact Q q
 .rcases q with q|q|q
  .exact .inl q
  .exact .inr (q▸T)
  .exact .inr (q▸V)
theorem ki(c:ZQ)(h:Zw [.lst k] S=.ok (.int len) S)(i:ZA (.lst k) (.int j) S=.ok (.dct f) S)(g:ZA (.lst k) (.int (len - 1 - j)) S=.ok (.dct d) S)(e:c "add_made" [.dct L,.dct f,.dct d,.dct a] S=.ok .non S1):PR c (Xa k (Z9 (.dct a)) b (Z9 (.dct L)) (Z9 (.int j))) S=.nx (Xa k (Z9 (.dct a)) b (Z9 (.dct L)) (Z9 (.int j))) S1:=by simp[PR,Xa,h,i,g,e]
theorem kh(c:ZQ){X:yM}(n:ZH e k=Z9 X)(f:S.length=a)(j:S++[.dk []]=e)(h:YV [(k,X)] (gN 2) (PQ c) X (Xa k (Z9 (.dct a)) Z8 Z8 Z8) e=.nx (Xa k (Z9 (.dct a)) d Z8 Z8) g)(l:g.length=L)(q:g++[.dk []]=b)(m:Zw [.lst k] b=.ok (.int len) b)(o:-4611686018427387904<=(len+1) / 2/\(len+1) / 2<4611686018427387904)
  (i:YV [] (gN 4) (PR c) (Y3 0 ((len+1) / 2).toNat) (Xa k (Z9 (.dct a)) d (Z9 (.dct L)) Z8) b=.nx (Xa k (Z9 (.dct a)) d (Z9 (.dct L)) p) S4):PP c [Z9 (.lst k),Z8,Z8,Z8,Z8] S=.rt (.dct L) S4:=by simp only[Xa]at h i;simp[PP,f,j,n,h,l,q,m,o,i]
theorem Ci(hf:PN cl)(hm:Sk cl)(n:Nat)(Z:sw<=3)(m1:1<=m)(m2:m<=1000)(v:ids.length=m)(hk:ZH S k=Z9 (ids.map D.dct))(lvs:Q8 sw S ids):∃L S1,cl (n+2) "further_level" [.lst k] S=.ok (.dct L) S1/\S.length<=L/\Kp (·∈ids) S S1/\Q8 sw S1 (ids++[L])/\S1[L]?.isSome:=by
 obtain⟨nk,r⟩:∃nk,S.length=nk:=⟨_,rfl⟩
 obtain⟨S1,M⟩:∃S1,S++[O.dk []]=S1:=⟨_,rfl⟩
 have U:Ex S S1:=M▸YQ S _;have o:∀id∈ids,id<nk:=λid h=>by obtain⟨i,c⟩:=qE8 h;rw[<- r];exact(lvs i id c).lt
 have n1:S1[nk]?=Z9 (.dk []):=by rw[<- M,<- r,qA1 (qA7 _)];simp
 have klt:k<nk:=by rw[<- r];exact Ud hk
 have H:Q8 sw S1 ids:=λi id c=>(lvs i id c).kp U (λz=>z);have W:ZH S1 k=Z9 (ids.map D.dct):=U.lst hk λz=>z;obtain⟨B2,G,e1,⟨y,rfl⟩,kk,N,q1,q2,I,q4,x⟩:=Uc (w:=[(k,ids.map D.dct)]) (g:=gN 2) (b:=PQ (cl (n+1))) (items:=ids.map D.dct) (P:=λj B S'=>(∃y,B=Xa k (Z9 (.dct nk)) y Z8 Z8)/\Ji sw j nk S1 S') (B:=Xa k (Z9 (.dct nk)) Z8 Z8 Z8) (S:=S1) (λj B S' h=>by
   obtain⟨_,_,_,_,_,_,_,kp⟩:=h;exact U6 (kp.lst W (by lia))) ⟨⟨Z8,rfl⟩,[],[],n1,rfl,λz=>by simp,.nil,Kp.refl _ _⟩ (λj d B S' C t=>by
   obtain⟨⟨y,rfl⟩,t⟩:=t;rw[qB1]at C;obtain⟨id,c,rfl⟩:=qA6.mp C;have:=o id (qB5 c);exact ko _ Z t (H _ _ c) (by lia) y)
 rw[qA0,v]at I;obtain⟨L,hL⟩:∃L,G.length=L:=⟨_,rfl⟩
 obtain⟨S3,A⟩:∃S3,G++[O.dk []]=S3:=⟨_,rfl⟩
 have E:Ex G S3:=A▸YQ G _;have l1:S1.length=nk+1:=by rw[<- M,<- r];simp
 have lL:nk+1<=L:=by have:=x.le;lia
 have k2:ZH G k=Z9 (ids.map D.dct):=x.lst W (by lia);have k3:ZH S3 k=Z9 (ids.map D.dct):=E.lst k2 λz=>z;have LN:L∉ids:=λh=>by have:=o L h;lia
 have el:∀{S':ZX},ZH S' k=Z9 (ids.map D.dct)->Zw [.lst k] S'=.ok (.int m) S':=λh=>by rw[NJ h,qA0,v]
 have kL:∀{S':ZX},Kp (λi=>i=L∨i∈ids) S3 S'->ZH S' k=Z9 (ids.map D.dct):=λkp=>kp.lst k3 λq=>by
  rcases q with q|q
  .lia
  .obtain⟨i,c⟩:=qE8 q;obtain⟨ks,xs,X,_⟩:=lvs i k c;rw[Zy,V7 hk]at X;cases X
 have start:MT sw m 0 L nk kk N ids S3 S3:=by
  refine⟨?_,.nil,λz h=>(by cases h),λp h=>(by cases h),λz=>by simp[Xl,Zs],UN E (Pb q1) (λz=>z),λi id c=>((H i id c).kp x ?_).kp E (λz=>z),Kp.refl _ _⟩
  .rw[<- A,<- hL,qA1 (qA7 _)];simp[Xl,X8]
  .have:=o id (qB5 c);lia
 have u:(((m:Int)+1) / 2).toNat=(m+1) / 2:=by lia
 obtain⟨B4,S4,e2,⟨T,rfl⟩,Y⟩:=Uc (w:=[]) (g:=gN 4) (b:=PR (cl (n+1))) (items:=Y3 0 (((m:Int)+1) / 2).toNat) (P:=λj B S'=>(∃T,B=Xa k (Z9 (.dct nk)) y (Z9 (.dct L)) T)/\MT sw m j L nk kk N ids S3 S') (B:=Xa k (Z9 (.dct nk)) y (Z9 (.dct L)) Z8) (S:=S3) (λ_ _ S' _=>XH S') ⟨⟨Z8,rfl⟩,start⟩ (λj d B S' C t=>by
   obtain⟨⟨T,rfl⟩,t⟩:=t;unfold Y3 at C;rw[qB1]at C;obtain⟨f,hj,rfl⟩:=qA6.mp C;obtain⟨QL,OB⟩:=qA4.mp hj;rw[qD2,u]at QL;have e':f=j:=by rw[<- OB];simp
   subst e';have R:=t;obtain⟨_,_,_,_,_,_,_,kp⟩:=R;have Q:=kL kp;have i1:ids[f]?=Z9 (ids[f]'(by lia)):=qA2 _;have i2:ids[m - 1 - f]?=Z9 (ids[m - 1 - f]'(by lia)):=qA2 _;obtain⟨S5,e5,g5⟩:=kj hm n Z q2 v LN (by lia) QL t i1 i2;have o1:ZA (.lst k) (.int (0+(f:Int))) S'=.ok (.dct (ids[f]'(by lia))) S':=by rw[Ue Q,show(0+(f:Int))=((f:Nat):Int) by lia,Vz (by rw[qB1,i1];rfl)]
   have o2:ZA (.lst k) (.int ((m:Int) - 1 - (0+(f:Int)))) S'=.ok (.dct (ids[m - 1 - f]'(by lia))) S':=by rw[Ue Q,show((m:Int) - 1 - (0+(f:Int)))=((m - 1 - f:Nat):Int) by lia,Vz (by rw[qB1,i2];rfl)]
   exact⟨Xa k (Z9 (.dct nk)) y (Z9 (.dct L)) (Z9 (.int (0+(f:Int)))),S',by simp[Xa],_,S5,.inl (ki _ (el Q) o1 o2 e5),⟨_,rfl⟩,g5⟩)
 have F:(Y3 0 (((m:Int)+1) / 2).toNat).length=(m+1) / 2:=by unfold Y3;rw[qA0,qD2,u]
 rw[F]at Y;obtain⟨g1,g4,g5,g3,g6,g7,g8,g9⟩:=Y;refine⟨L,S4,?_,by lia,?_,λi id c=>?_,by rw[g1];rfl⟩
 .rw[hf];exact Y0 rfl (kh _ W r M e1 hL A (el k3) ⟨by lia,by lia⟩ e2)
 .refine⟨by have:=g9.le;have:=E.le;have:=x.le;lia,λi c hn=>?_⟩;rw[g9.eq i (by have:=E.le;have:=x.le;lia) (λq=>q.elim (λe=>by lia) hn),E.eq i (by have:=x.le;lia) (λz=>z),x.eq i (by lia) (by lia),U.eq i (by lia) (λz=>z)]
 .by_cases q:i<ids.length
  .rw[qA8 q]at c;exact g8 i id c
  .rw[qA1 (by lia)]at c;have:i - ids.length=0:=by have:=(qA4.mp c).1;simp at this;lia
   rw[this]at c;simp at c;subst c;have im:i=m:=by lia
   subst im;obtain⟨p,rfl⟩:∃p,i=p+1:=⟨i - 1,by lia⟩
   have ex:LX sw (p+1)=Xl N (LX sw) (p+1) ((p+2) / 2):=Jn λz=>by
    rw[I];constructor
    .rintro⟨i,c,s⟩;obtain⟨_,_,_,_,V,_,_,_,rfl⟩:=lvs i (ids[i]'(by lia)) (qA2 _);exact⟨i,by lia,(V z).mpr s⟩
    .rintro⟨i,c,s⟩;obtain⟨_,_,_,_,V,_,_,_,rfl⟩:=lvs i (ids[i]'(by lia)) (qA2 _);exact⟨i,by lia,(V z).mp s⟩
   refine⟨_,_,Pb g1,UM _,λz=>?_,g4,Jh g3,congrArg X8 ex.symm,congrArg Zs ex.symm⟩;rw[g6,Rb];constructor
   .rintro⟨h,l,v,a,J,b,K,q⟩;refine⟨zO5 (Vv sw _ J) (Vv sw _ K) q,λi c s=>h ((I z).mpr ⟨i,by lia,s⟩),l,v,a,J,b,K,q⟩
   .rintro⟨_,h,l,v,a,J,b,K,q⟩;refine⟨λs=>?_,l,v,a,J,b,K,q⟩;obtain⟨i,c,s⟩:=(I z).mp s;exact h i (by lia) s
def YR(bs:List Bool):yM:=bs.map λb=>D.int (b1 b)
def Zr(bs:List Bool):D:=.tup (YR bs)
theorem O9(bs:List Bool):Zi (bs.map b1)=Zr bs:=by unfold Zi Zr YR;rw[qC7];rfl
theorem kf(b:Bool):b1 b=((b.toNat:Nat):Int):=by cases b<;>simp[b1]
theorem ke(c:ZQ):P3 c [Z9 a,Z9 (.int s),Z9 (.int b)] S=.nx [Z9 a,Z9 (.int (s*2+b)),Z9 (.int b)] S:=by
 have:Wo s 2=Z7:=by simp[Wo]
 simp[P3,this]
theorem kc(c:ZQ)(e:YV [] (gN 2) (P3 c) X [Z9 (.tup X),Z9 (.int 0),Z8] S=.nx [Z9 (.tup X),Z9 (.int z),w] S):P0 c [Z9 (.tup X),Z8,Z8] S=.rt (.int z) S:=by simp[P0,e]
theorem O8(h:Sl cl)(n:Nat)(bs:List Bool)(S:ZX):cl (n+1) "number_of" [Zr bs] S=.ok (.int (ZK 0 bs:Nat)) S:=by
 rw[h];obtain⟨d,f,e,⟨w,rfl⟩,rfl⟩:=Sb (λb:Bool=>D.int (b1 b)) (λs b=>2*s+b.toNat) (λs B a=>(∃w,B=[Z9 (Zr bs),Z9 (.int s),w])/\a=S) (g:=gN 2) (b:=P3 (cl n)) (λ_ _ S _=>XH S) bs ⟨⟨_,rfl⟩,rfl⟩ (λs b B a _ c=>by
  obtain⟨⟨w,rfl⟩,rfl⟩:=c;refine⟨[Z9 (Zr bs),Z9 (.int s),Z9 (.int (b1 b))],a,by simp,_,a,.inl (ke _),⟨Z9 (.int (b1 b)),?_⟩,rfl⟩;rw[show(s:Int)*2+b1 b=((2*s+b.toNat:Nat):Int) by rw[kf];omega])
 exact Y0 rfl (kc _ e)
def T6(a:NL)(z:Nat)(d:D):NL:=if z∈Zs a then a.map λp=>if p.1=z then(p.1,d)else p else a++[(z,d)]
theorem j5(a:NL)(z:Nat)(d:D):YS (X8 a) (Yv z) d=X8 (T6 a z d):=by
 unfold YS T6;rw[M0 (UM a)];by_cases h:z∈Zs a
 .rw[if_pos (by simpa using h),if_pos h];unfold X8;rw[qC7,qC7];refine qE0 λp _=>?_;show(if Yv p.1=Yv z then(Yv p.1,d)else(Yv p.1,p.2))=_;by_cases q:p.1=z
  .rw[if_pos (by rw[q])];simp[q]
  .rw[if_neg λe=>q (Ra e)];simp[q]
 .rw[if_neg (by simpa using h),if_neg h];simp[X8]
theorem Cg(a:NL)(z:Nat)(d:D):Zs (T6 a z d)=Xd (Zs a) z:=by
 unfold T6 Xd;split
 .unfold Zs;rw[qC7];refine qE0 λp _=>?_;show(if p.1=z then(p.1,d)else p).1=p.1;split<;>rfl
 .simp[Zs]
theorem j4{V:Nat->D->Prop}(h:∀p∈b,V p.1 p.2)(hz:V z d):∀p∈T6 b z d,V p.1 p.2:=λp a=>by
 unfold T6 at a;split at a
 .obtain⟨q,f,e⟩:=qB9.mp a;split at e
  .rename_i c;subst e;show V q.1 d;rw[c];exact hz
  .subst e;exact h q f
 .rcases qC0.mp a with q|q
  .exact h p q
  .simp at q;subst q;exact hz
inductive MS(sw Ld:Nat)(ax:NL)(S1 S:ZX):Prop
 |mk (h:S[Ld]?=Z9 (.dk (X8 ax))) (v:∀p∈ax,VT sw 0 p.1 p.2) (nd:(Zs ax).Nodup) (bd:∀z∈Zs ax,z<256) (kp:Kp (·=Ld) S1 S)
def VF(sw d:Nat)(a b c:Option D):ZS:=[Z9 (.int (sw:Nat)),Z9 (.dct d),a,b,c]
theorem j3(c:ZQ)(e:c "tree_function" [.int (sw:Nat),.tup [.str (Str.ofString "at"),.int k,.int o]] S=.ok d a)(h:c "number_of" [d] a=.ok (.int z) a)(f:X2 (.dct b) (.int z) (.tup [.str (Str.ofString "at"),.int k,.int o]) a=Z9 S2):PX c (VF sw b (Z9 (.int k)) (Z9 (.int o)) g) S=.nx (VF sw b (Z9 (.int k)) (Z9 (.int o)) (Z9 (.tup [.str (Str.ofString "at"),.int k,.int o]))) S2:=by simp[PX,VF,e,h,f]
theorem j0(H:Pf cl)(x:Sl cl)(n:Nat)(C:1<=sw)(u:sw<=3)(h:MS sw c b g S)(hk:k<sw)(A:o=0∨o=1)(e d:Option D):Ro (gN 3) (PX (cl (n+5))) (.int o) (VF sw c (Z9 (.int (k:Nat))) e d) S (fun B S'=>(∃e d,B=VF sw c (Z9 (.int (k:Nat))) e d)/\MS sw c (T6 b (Xn sw k o) (WS k o)) g S'):=by
 obtain⟨r,v,l,i,kp⟩:=h;have wf:(Tr.lf k o).wf sw:=⟨by omega,by omega,by omega,by omega⟩
 obtain⟨p,f,m⟩:=H.lf (by omega) (by omega) k o wf n S;have s:Zi (M3 sw (.lf k o))=Zr ((ZD sw).map (Tr.lf k o).on):=by rw[<- O9,qC7];rfl
 rw[s]at f;have y:=O8 x (n+4) ((ZD sw).map (Tr.lf k o).on) p;have E:ZK 0 ((ZD sw).map (Tr.lf k o).on)=Xn sw k o:=rfl;have a:=m.at r λz=>z;have t:(X8 b).length<lim:=by rw[Pc (UM b)];exact qH3 (UK 256 l i) (by decide)
 have w:=Cv a t (Xn sw k o) (.tup [.str (Str.ofString "at"),.int k,.int o]);have lt:Xn sw k o<256:=by have:=Rc ((ZD sw).map (Tr.lf k o).on) 0;rw[qA0,U5]at this;have:=Q7 u;unfold NN at this;omega
 refine⟨VF sw c (Z9 (.int k)) (Z9 (.int o)) d,S,by simp[VF],_,_,.inl (j3 _ f y w),⟨_,_,rfl⟩,?_,j4 v ⟨.lf k o,rfl,wf,rfl,qA7 _,rfl⟩,by rw[Cg];exact Ju l,λz j=>?_,kp.trans ((m.kp).trans (VI p _))⟩
 .rw[qE2 (qA4.mp a).1];exact congrArg (λq=>Z9 (O.dk q)) (j5 b (Xn sw k o) (WS k o))
 .rw[Cg]at j;rcases Jv.mp j with q|rfl
  .exact i z q
  .exact lt
def Cf(sw:Nat)(s:NL)(k:Nat):NL:=[(0:Int),1].foldl (λs o=>T6 s (Xn sw k o) (WS k o)) s
theorem jz(b:1<=sw)(a:sw<=3):(List.range sw).foldl (Cf sw) []=UL sw:=by
 have:sw=1∨sw=2∨sw=3:=by lia
 rcases this with rfl|rfl|rfl<;>decide
theorem Ce(sw z:Nat):z∈Zs (UL sw)↔z∈We sw:=by unfold Zs UL We;rw[List.map_flatMap];simp
theorem jy(c:ZQ)(e:YV [] (gN 3) (PX c) [.int 0,.int 1] (VF sw f (Z9 k) a b) S=.nx d S'):Nh c (VF sw f (Z9 k) a b) S=.nx d S':=by simp[Nh,e]
theorem jx(c:ZQ){S a S2:ZX}(b:-4611686018427387904<=s/\s<4611686018427387904)(g:S.length=L)(h:S++[.dk []]=a)(e:YV [] (gN 2) (Nh c) (Y3 0 s.toNat) [Z9 (.int s),Z9 (.dct L),Z8,Z8,Z8] a=.nx [Z9 (.int s),Z9 (.dct L),d,f,i] S2):PV c [Z9 (.int s),Z8,Z8,Z8,Z8] S=.rt (.dct L) S2:=by simp[PV,g,h,b,e]
theorem Jg(x:Ng cl)(H:Pf cl)(G:Sl cl)(n:Nat)(t:1<=sw)(v:sw<=3)(S:ZX):∃L S1,cl (n+6) "first_level" [.int (sw:Nat)] S=.ok (.dct L) S1/\S.length=L/\Ex S S1/\T7 sw 0 S1 L:=by
 obtain⟨L,i⟩:∃L,S.length=L:=⟨_,rfl⟩
 obtain⟨S1,f⟩:∃S1,S++[O.dk []]=S1:=⟨_,rfl⟩
 have I:S1[L]?=Z9 (.dk []):=by rw[<- f,<- i,qA1 (qA7 _)];simp
 obtain⟨P,J,e,⟨l,a,b,rfl⟩,m,r,u,Q,q⟩:=Sb (λk:Nat=>D.int (0+k)) (Cf sw) (λs B d=>(∃l a b,B=VF sw L l a b)/\MS sw L s S1 d) (g:=gN 2) (λ_ _ S _=>XH S) (List.range sw) (s:=[]) ⟨⟨_,_,_,rfl⟩,I,λp h=>(by cases h),.nil,λz h=>(by cases h),Kp.refl _ _⟩ (λs k B d hk c=>by
  obtain⟨⟨l,a,b,rfl⟩,c⟩:=c;obtain⟨M,y,F,⟨C,E,rfl⟩,K⟩:=Sb (λo:Int=>D.int o) (λs o=>T6 s (Xn sw k o) (WS k o)) (λs B d=>(∃a b,B=VF sw L (Z9 (.int k)) a b)/\MS sw L s S1 d) (λ_ _ S _=>XH S) [0,1] ⟨⟨_,_,rfl⟩,c⟩ (λs o B d w c=>by
   obtain⟨⟨a,b,rfl⟩,c⟩:=c;exact j0 H G n t v c (qC9.mp hk) (by simpa using w) a b)
  refine⟨VF sw L (Z9 (.int k)) a b,d,by simp[VF],_,y,.inl (jy _ F),⟨_,_,_,rfl⟩,K⟩)
 rw[jz t v]at m r u;refine⟨L,J,?_,i,?_,_,_,Pb m,UM _,λz=>?_,u,Jh r,rfl,rfl⟩
 .rw[x];exact Y0 rfl (jx _ ⟨by lia,by lia⟩ i f (by exact e))
 .have N:S1.length=L+1:=by rw[<- f,<- i];simp
  refine⟨by have:=q.le;lia,λj A _=>?_⟩;rw[q.eq j (by lia) (by lia),<- f,qA8 A]
 .rw[M1];exact Ce sw z
theorem zGr(l:List α)(d:α):Yk (l++[d]) (-1)=Z9 d:=by
 unfold Yk Wu;rw[if_neg (by lia),if_pos (by simp;lia),qL4];have:((-1:Int)+((l++[d]).length:Nat)).toNat=l.length:=by simp;lia
 rw[this];simp
theorem jw(c:ZQ){X:yM}(h:((Builtin.Int.intBits (X.length:Int):Nat):Int) - 1=z):P4 c [Z9 (.tup X)] S=.rt (.int z) S:=by simp[P4,h]
theorem Cd(h:Nj cl)(n:Nat)(b:sw<=4)(a:bs.length=2 ^ sw)(S:ZX):cl (n+1) "switches_of" [Zr bs] S=.ok (.int (sw:Nat)) S:=by
 rw[h];refine Y0 rfl (jw _ ?_);have:(YR bs).length=2 ^ sw:=by unfold YR;rw[qA0,a]
 rw[this];have:sw=0∨sw=1∨sw=2∨sw=3∨sw=4:=by lia
 rcases this with rfl|rfl|rfl|rfl|rfl<;>decide
def V5(bs:D)(sw:Nat)(k:Nat):ZS:=[Z9 bs,Z9 (.int (sw:Nat)),Z9 (.lst k)]
theorem jv(c:ZQ){sw k id:Nat}(d:c "number_of" [a] S=.ok (.int x) S)(f:ZA (.lst k) (.int (-1)) S=.ok (.dct id) S)(e:YG Z7 (.int x) (.dct id) S=.ok (.bl b) S):(Zj (ZU (YG Z7) (ZT (c "number_of") (ZR [(ZY 0)])) (ZU ZA (ZY 2) (Vh XG (ZW (.int 1)))))) (V5 a sw k) S=.ok b S:=by simp[V5,d,f,e]
theorem ju(c:ZQ){X:yM}(ty:Yq "list" (.lst k) S=Z7)(d:c "further_level" [.lst k] S=.ok (.dct L) a)(e:Ye Xr (.lst k) [.dct L] a=.ok .non (a.set k (.lst X))):Rj c (V5 b sw k) S=.nx (V5 b sw k) (a.set k (.lst X)):=by simp[Rj,V5,ty,d,e]
inductive Wc(sw:Nat)(S0:ZX)(k j:Nat)(S:ZX):Prop
 |mk (ids:List Nat) (hl:ids.length=j+1) (hk:ZH S k=Z9 (ids.map D.dct)) (lvs:Q8 sw S ids) (hi:∀i∈ids,S0.length<=i) (kn:S0.length<=k) (x:Ex S0 S)
theorem jt(s:PN cl)(hm:Sk cl)(n:Nat)(u:sw<=3)(A:j<=900)(h:Wc sw S0 k j S)(m:D):∃S1,Rj (cl (n+2)) (V5 m sw k) S=.nx (V5 m sw k) S1/\Wc sw S0 k (j+1) S1:=by
 obtain⟨ids,g,hk,lvs,c,w,x⟩:=h;obtain⟨L,S1,r,y,kp,d,_⟩:=Ci s hm n u (by omega) (by omega) g hk lvs;have a:k∉ids:=λq=>by obtain⟨i,c⟩:=qE8 q;obtain⟨C,B,o,_⟩:=lvs i k c;rw[Zy,V7 hk]at o;cases o
 have p:=kp.lst hk a;have t:=Ud hk;have v:Ye Xr (.lst k) [.dct L] S1=.ok .non (S1.set k (.lst (ids.map D.dct++[.dct L]))):=by rw[Sq p,Rq,if_pos (by rw[qA0,g,XX];omega)]
 refine⟨_,ju _ (Tj hk) r v,ids++[L],by simp[g],?_,λi id b=>(d i id b).kp (VI S1 _) (λe=>?_),λi f=>?_,w,⟨?_,λi l _=>?_⟩⟩
 .rw[UQ p,qD7];rfl
 .subst e;rcases qC0.mp (qB5 b)with q|q
  .exact a q
  .simp at q;omega
 .rcases qC0.mp f with q|q
  .exact c i q
  .simp at q;have:=x.le;omega
 .rw[qJ2];have:=kp.le;have:=x.le;omega
 .rw[qE5 (by omega),kp.eq i (by have:=x.le;omega) (λq=>by have:=c i q;omega),x.eq i l (λz=>z)]
structure HLv(cl:Nat->ZQ):Prop where
 tf:Pf cl
 so:Nj cl
 no:Sl cl
 fl:Ng cl
 am:Sk cl
 fu:PN cl
 lt:C9 cl
structure Cc(cl:Nat->ZQ):Prop extends HLv cl where
 fe:nB cl
theorem jr(i:Sl cl)(n:Nat)(h:Wc sw S0 k j S)(c:ZK 0 bs∈lv sw b):(Zj (ZU (YG Z7) (ZT (cl (n+1) "number_of") (ZR [(ZY 0)])) (ZU ZA (ZY 2) (Vh XG (ZW (.int 1)))))) (V5 (Zr bs) sw k) S=.ok (!decide (j=b)) S:=by
 obtain⟨a,w,hk,lvs,t,z,x⟩:=h;have f:j<a.length:=by lia
 obtain⟨y,l,m,r,s,v,u⟩:=lvs j a[j] (qA2 f);have o:a=a.take j++[a[j]]:=by rw[qL8 f,show j+1=a.length by lia,qG2]
 have q:ZA (.lst k) (.int (-1)) S=.ok (.dct a[j]) S:=by rw[Ue hk,(congrArg (qS1 D.dct) o).trans (qD7 (l₁:=a.take j) (l₂:=[a[j]]))];show(match Yk (_++[D.dct _]) (-1)with|some d=>R.ok d S|none=>.bad)=_;rw[zGr]
 have g:=MY m r Z7 (ZK 0 bs);have p:decide (ZK 0 bs∈l)=decide (j=b):=by rw[decide_eq_decide,s];exact⟨λh=>Pd sw h c,λe=>e▸c⟩
 rw[if_pos rfl,p]at g;exact jv _ (O8 i n bs S) q g
theorem jq(c:ZQ)(hs:((sw:Nat):Int)=s)(f:c "switches_of" [a] S=.ok (.int s) S)(g:¬3<s)(i:c "first_level" [.int s] S=.ok (.dct L) b)(hk:b.length=k)(h:b++[.lst [.dct L]]=e)(d:Wg U7 (Zj (ZU (YG Z7) (ZT (c "number_of") (ZR [(ZY 0)])) (ZU ZA (ZY 2) (Vh XG (ZW (.int 1)))))) (Rj c) (V5 a sw k) e=.nx (V5 a sw k) S3):PM c [Z9 a,Z8,Z8] S=.rt (.lst k) S3:=by subst hs;simp only[V5]at d;simp[PM,f,g,i,hk,h,d]
theorem Jf(H:HLv cl)(n:Nat)(w:1<=sw)(o:sw<=3)(y:bs.length=2 ^ sw)(s:ZK 0 bs∈lv sw a)(hi:a<=800)(S:ZX):∃k S1,cl (n+7) "levels_to" [Zr bs] S=.ok (.lst k) S1/\Wc sw S k a S1:=by
 obtain⟨L,S1,r,F,l,u⟩:=Jg H.fl H.tf H.no n w o S;obtain⟨k,hk⟩:∃k,S1.length=k:=⟨_,rfl⟩
 obtain⟨S2,d⟩:∃S2,S1++[O.lst [.dct L]]=S2:=⟨_,rfl⟩
 have p:Ex S1 S2:=d▸YQ S1 _;have k2:ZH S2 k=Z9 ([L].map D.dct):=by rw[<- d,<- hk];exact Yw _ _
 have C:Wc sw S k 0 S2:=by
  refine⟨[L],rfl,k2,λi id h=>?_,λi h=>?_,by have:=l.le;lia,l.trans p⟩
  .have:i=0:=by have:=(qA4.mp h).1;simp at this;lia
   subst this;simp at h;subst h;exact u.kp p λz=>z
  .simp at h;lia
 obtain⟨G,v,A,rfl,q⟩:=NC (t:=Zj (ZU (YG Z7) (ZT (cl (n+6) "number_of") (ZR [(ZY 0)])) (ZU ZA (ZY 2) (Vh XG (ZW (.int 1)))))) (b:=Rj (cl (n+6))) (P:=λm B c=>B=V5 (Zr bs) sw k/\∃j,Wc sw S k j c/\j<=a/\m=a - j) (Q:=fun B c=>B=V5 (Zr bs) sw k/\Wc sw S k a c) (λm B c h=>by
  obtain⟨rfl,j,f,d,rfl⟩:=h;have g:=jr H.no (n+5) f s;by_cases e:j=a
  .subst e;exact .inl ⟨c,by simpa using g,rfl,f⟩
  .obtain⟨E,b1,x⟩:=jt H.fu H.am (n+4) o (by lia) f (Zr bs);exact .inr ⟨c,by simpa[e]using g,_,E,.inl b1,a - (j+1),by lia,rfl,j+1,x,by lia,rfl⟩) U7 a (V5 (Zr bs) sw k) S2 (by show a<100000;lia) ⟨rfl,0,C,by lia,by lia⟩
 refine⟨k,v,?_,q⟩;rw[H.lt];exact Y0 rfl (jq _ rfl (Cd H.so (n+5) (by lia) y S) (by lia) r hk d A)
theorem jm(c:ZQ)(b:c "levels_to" [a] S=.ok (.lst k) S1)(e:Zw [.lst k] S1=.ok d S1):PL c [Z9 a] S=.rt d S1:=by simp[PL,b,e]
theorem jk(c:ZQ){k id:Nat}(b:c "levels_to" [a] S=.ok (.lst k) S1)(g:ZA (.lst k) (.int (-1)) S1=.ok (.dct id) S1)(e:c "number_of" [a] S1=.ok (.int x) S1)(f:ZA (.dct id) (.int x) S1=.ok d S1):Sj c [Z9 a] S=.rt d S1:=by simp[Sj,b,g,e,f]
theorem Cb(H:Cc cl)(n:Nat)(h:1<=sw)(l:sw<=3)(j:bs.length=2 ^ sw)(e:ZK 0 bs∈lv sw a)(hi:a<=800)(S:ZX):VJ (cl (n+8) "fewest" [Zr bs] S) (.int ((a+1:Nat):Int)) S:=by obtain⟨k,c,b,g,d,i,m,o,p,f⟩:=Jf H.toHLv n h l j e hi S;refine⟨c,?_,f⟩;rw[H.fe];exact Y0 rfl (jm _ b (by rw[NJ i,qA0,d]))
theorem ji(H:HLv cl)(n:Nat)(h:1<=sw)(o:sw<=3)(l:bs.length=2 ^ sw)(b:ZK 0 bs∈lv sw ix)(hi:ix<=800)(S:ZX):∃d S1,Sj (cl (n+7)) [Z9 (Zr bs)] S=.rt d S1/\(ZK 0 bs,d)∈LX sw ix:=by
 obtain⟨k,S1,e,a,v,j,f,A,E,w⟩:=Jf H n h o l b hi S;have c:ix<a.length:=by lia
 obtain⟨C,B,m,t,u,y,x,rfl,rfl⟩:=f ix a[ix] (qA2 c);have q:a=a.take ix++[a[ix]]:=by rw[qL8 c,show ix+1=a.length by lia,qG2]
 have s:ZA (.lst k) (.int (-1)) S1=.ok (.dct a[ix]) S1:=by rw[Ue j,(congrArg (qS1 D.dct) q).trans (qD7 (l₁:=a.take ix) (l₂:=[a[ix]]))];show(match Yk (_++[D.dct _]) (-1)with|some d=>R.ok d S1|none=>.bad)=_;rw[zGr]
 obtain⟨d,r,g⟩:=Cw m t ((u _).mpr b);exact⟨d,S1,jk _ e s (O8 H.no (n+6) bs S1) r,Jh (V:=λz d=>(z,d)∈LX sw ix) (λp i=>i) _ _ g⟩
def MR(b a:NL):NL:=b.flatMap λp=>a.flatMap λq=>[(p.1 &&& q.1,Jq p.2 q.2),(p.1 ||| q.1,Jp p.2 q.2)]
def U3(xk:List Nat)(a:NL)(c:Nat×D):NL:=YZ xk a c.1 c.2
theorem Je{α b Z:Type}(f:Z->b->Z)(g:α->List b):∀(l:List α) (s:Z),(l.flatMap g).foldl f s=l.foldl (λs a=>(g a).foldl f s) s
 |[],_=>rfl
 |a::l,s=>by rw[List.flatMap_cons,qP6,Je f g l];rfl
theorem jh(xk:List Nat)(b a ax:NL):Xm xk b a ax=(MR b a).foldl (U3 xk) ax:=by unfold Xm MR;rw[Je];congr 1;funext s p;rw[Je];rfl
def O7(T:Nat->NL)(m:Nat):Nat->NL
 |0=>[]
 |j+1=>O7 T m j++MR (T j) (T (m - 1 - j))
theorem Ca(xk:List Nat)(T:Nat->NL)(m:Nat):∀j,Xl xk T m j=(O7 T m j).foldl (U3 xk) []
 |0=>rfl
 |j+1=>by show Xm xk (T j) (T (m - 1 - j)) (Xl xk T m j)=(O7 T m j++MR (T j) (T (m - 1 - j))).foldl (U3 xk) [];rw[qP6,jh,Ca xk T m j]
def R8(a:Nat):NL->Nat->NL->NL
 |[],_,r=>r
 |(z,d)::c,mk,r=>match (a ||| mk).testBit z with
  |true=>R8 a c mk r
  |false=>R8 a c (mk ||| 2 ^ z) ((z,d)::r)
theorem Jd(hk:∀z,a.testBit z=Z7↔z∈xk):∀(c:NL) (mk:Nat) (r:NL),(∀z,mk.testBit z=Z7↔z∈Zs r.reverse)->(R8 a c mk r).reverse=c.foldl (U3 xk) r.reverse
 |[],mk,r,_=>rfl
 |(z,d)::c,mk,r,h=>by
  show(match (a ||| mk).testBit z with|true=>R8 a c mk r|false=>R8 a c (mk ||| 2 ^ z) ((z,d)::r)).reverse=c.foldl (U3 xk) (YZ xk r.reverse z d);cases e:(a ||| mk).testBit z with
  |true =>
   rw[qK5,qG6,hk,h]at e;have:YZ xk r.reverse z d=r.reverse:=by
    unfold YZ;rcases e with e|e
    .rw[if_pos e]
    .rw[if_pos e];split<;>rfl
   rw[this];exact Jd hk c mk r h
  |false =>
   rw[qK5,Bool.or_eq_false_iff]at e;have b:z∉xk:=λq=>by rw[(hk z).mpr q]at e;cases e.1
   have f:z∉Zs r.reverse:=λq=>by rw[(h z).mpr q]at e;cases e.2
   have:YZ xk r.reverse z d=((z,d)::r).reverse:=by unfold YZ;rw[if_neg b,if_neg f,qJ4]
   rw[this];refine Jd hk c _ _ λy=>?_;rw[qK5,qG6,h,qS7,decide_eq_true_eq,qJ4];unfold Zs;rw[qD7,qC0];simp[eq_comm]
def O6(l:List Nat):Nat:=l.foldr (λz n=>n ||| 2 ^ z) 0
theorem jg(l:List Nat)(z:Nat):(O6 l).testBit z=Z7↔z∈l:=by
 induction l with
 |nil=>simp[O6]
 |cons a l b =>
  show(O6 l ||| 2 ^ a).testBit z=Z7↔_;rw[qK5,qG6,b,qS7,decide_eq_true_eq];simp[eq_comm,or_comm]
theorem jf(c:∀i,i<=m->LX sw i=T i):LX sw (m+1)=(R8 (O6 ((List.range (m+1)).flatMap λi=>Zs (T i))) (O7 T (m+1) ((m+2) / 2)) 0 []).reverse:=by
 rw[Jn (xk:=(List.range (m+1)).flatMap λi=>Zs (T i)) λz=>by
  rw[qL5];constructor
  .rintro⟨i,a,b⟩;have:=qC9.mp a;exact⟨i,by lia,by rw[c i (by lia)];exact b⟩
  .rintro⟨i,a,b⟩;exact⟨i,qC9.mpr (by lia),by rw[<- c i a];exact b⟩]
 rw[Jo (λz=>Iff.rfl) (λi a=>c i (by lia)) _ (by lia),Ca];exact(Jd (jg _) _ 0 [] λz=>by simp[Zs]).symm
abbrev LE:=List (Nat×Bool×Nat×Nat)
def je:List LE:=[[(0,Z7,2,1),(3,Z5,2,1)]]
def le2:List LE:=[[(0,Z7,12,3),(15,Z5,12,3),(8,Z7,12,10),(14,Z5,12,10),(4,Z7,12,5),(13,Z5,12,5),(2,Z7,3,10),(11,Z5,3,10),(1,Z7,3,5),(7,Z5,3,5)],
 [],
 [(9,Z5,8,1),(6,Z7,14,7)]]
def jd:List LE:=[[(0,Z7,240,15),(255,Z5,240,15),(192,Z7,240,204),(252,Z5,240,204),(48,Z7,240,51),(243,Z5,240,51),(160,Z7,240,170),(250,Z5,240,170),(80,Z7,240,85),(245,Z5,240,85),(12,Z7,15,204),(207,Z5,15,204),(3,Z7,15,51),(63,Z5,15,51),(10,Z7,15,170),(175,Z5,15,170),(5,Z7,15,85),(95,Z5,15,85),(136,Z7,204,170),(238,Z5,204,170),(68,Z7,204,85),(221,Z5,204,85),(34,Z7,51,170),(187,Z5,51,170),(17,Z7,51,85),(119,Z5,51,85)],
 [(128,Z7,240,136),(248,Z5,240,136),(224,Z7,240,238),(254,Z5,240,238),(64,Z7,240,68),(244,Z5,240,68),(208,Z7,240,221),(253,Z5,240,221),(32,Z7,240,34),(242,Z5,240,34),(176,Z7,240,187),(251,Z5,240,187),(16,Z7,240,17),(241,Z5,240,17),(112,Z7,240,119),(247,Z5,240,119),(8,Z7,15,136),(143,Z5,15,136),(14,Z7,15,238),(239,Z5,15,238),(4,Z7,15,68),(79,Z5,15,68),(13,Z7,15,221),(223,Z5,15,221),(2,Z7,15,34),(47,Z5,15,34),(11,Z7,15,187),(191,Z5,15,187),(1,Z7,15,17),(31,Z5,15,17),(7,Z7,15,119),(127,Z5,15,119),(236,Z5,204,160),(200,Z7,204,250),(220,Z5,204,80),(196,Z7,204,245),(206,Z5,204,10),(140,Z7,204,175),(205,Z5,204,5),(76,Z7,204,95),(179,Z5,51,160),(50,Z7,51,250),(115,Z5,51,80),(49,Z7,51,245),(59,Z5,51,10),(35,Z7,51,175),(55,Z5,51,5),(19,Z7,51,95),(234,Z5,170,192),(168,Z7,170,252),(186,Z5,170,48),(162,Z7,170,243),(174,Z5,170,12),(138,Z7,170,207),(171,Z5,170,3),(42,Z7,170,63),(213,Z5,85,192),(84,Z7,85,252),(117,Z5,85,48),(81,Z7,85,243),(93,Z5,85,12),(69,Z7,85,207),(87,Z5,85,3),(21,Z7,85,63)],
 [(195,Z5,192,3),(202,Z5,192,10),(197,Z5,192,5),(226,Z5,192,34),(209,Z5,192,17),(60,Z7,252,63),(172,Z7,252,175),(92,Z7,252,95),(184,Z7,252,187),(116,Z7,252,119),(58,Z5,48,10),(53,Z5,48,5),(163,Z7,243,175),(83,Z7,243,95),(165,Z5,160,5),(228,Z5,160,68),(177,Z5,160,17),(90,Z7,250,95),(216,Z7,250,221),(114,Z7,250,119),(46,Z5,12,34),(29,Z5,12,17),(139,Z7,207,187),(71,Z7,207,119),(78,Z5,10,68),(27,Z5,10,17),(141,Z7,175,221),(39,Z7,175,119),(153,Z5,136,17),(102,Z7,238,119)],
 [(144,Z7,240,153),(249,Z5,240,153),(96,Z7,240,102),(246,Z5,240,102),(9,Z7,15,153),(159,Z5,15,153),(6,Z7,15,102),(111,Z5,15,102),(132,Z7,204,165),(237,Z5,204,165),(72,Z7,204,90),(222,Z5,204,90),(33,Z7,51,165),(183,Z5,51,165),(18,Z7,51,90),(123,Z5,51,90),(130,Z7,170,195),(235,Z5,170,195),(40,Z7,170,60),(190,Z5,170,60),(65,Z7,85,195),(215,Z5,85,195),(20,Z7,85,60),(125,Z5,85,60),(194,Z5,192,2),(203,Z5,192,11),(193,Z5,192,1),(199,Z5,192,7),(227,Z5,192,35),(211,Z5,192,19),(232,Z5,192,168),(212,Z5,192,84),(44,Z7,252,47),(188,Z7,252,191),(28,Z7,252,31),(124,Z7,252,127),(56,Z7,252,59),(52,Z7,252,55),(62,Z5,48,14),(61,Z5,48,13),(178,Z5,48,162),(113,Z5,48,81),(131,Z7,243,143),(67,Z7,243,79),(164,Z5,160,4),(173,Z5,160,13),(161,Z5,160,1),(167,Z5,160,7),(229,Z5,160,69),(181,Z5,160,21),(74,Z7,250,79),(218,Z7,250,223),(26,Z7,250,31),(122,Z7,250,127),(88,Z7,250,93),(82,Z7,250,87),(94,Z5,80,14),(91,Z5,80,11),(133,Z7,245,143),(37,Z7,245,47),(142,Z5,12,138),(77,Z5,12,69),(43,Z5,3,42),(23,Z5,3,21),(152,Z5,136,16),(137,Z5,136,1),(185,Z5,136,49),(155,Z5,136,19),(217,Z5,136,81),(157,Z5,136,21),(230,Z7,238,247),(110,Z7,238,127),(98,Z7,238,115),(38,Z7,238,55),(100,Z7,238,117),(70,Z7,238,87),(118,Z5,68,50),(103,Z5,68,35),(145,Z7,221,179),(25,Z7,221,59)],
 [(219,Z5,192,27),(231,Z5,192,39),(24,Z7,252,27),(36,Z7,252,39),(126,Z5,48,78),(189,Z5,48,141),(66,Z7,243,78),(129,Z7,243,141),(135,Z5,128,7),(147,Z5,128,19),(149,Z5,128,21),(120,Z7,248,127),(225,Z5,224,1),(30,Z7,254,31),(54,Z7,254,55),(86,Z7,254,87),(75,Z5,64,11),(99,Z5,64,35),(106,Z5,64,42),(180,Z7,244,191),(210,Z5,208,2),(45,Z7,253,47),(57,Z7,253,59),(169,Z7,253,171),(108,Z5,32,76),(101,Z5,32,69),(201,Z7,251,205),(89,Z7,251,93),(156,Z5,16,140),(154,Z5,16,138),(198,Z7,247,206),(166,Z7,247,174)],
 [],
 [(214,Z5,192,86),(233,Z5,192,169),(148,Z7,252,149),(104,Z7,252,106),(121,Z5,48,89),(182,Z5,48,166),(97,Z7,243,101),(146,Z7,243,154),(109,Z5,12,101),(158,Z5,12,154),(73,Z7,207,89),(134,Z7,207,166),(151,Z5,3,149),(107,Z5,3,106),(22,Z7,63,86),(41,Z7,63,169)],
 [],
 [(150,Z5,144,6),(105,Z7,249,111)]]
def jc:Nat->List LE
 |1=>je
 |2=>le2
 |_=>jd
def Jc(a:Nat):NL->D
 |[]=>.non
 |(x,d)::r=>if x=a then d else Jc a r
def R7(c:NL):LE->NL
 |[]=>[]
 |(n,k,a,b)::r=>(n,(if k then Jq else Jp) (Jc a c) (Jc b c))::R7 c r
def O5(a:NL):List LE->List NL
 |[]=>[]
 |l::r=>R7 a l::O5 (a++R7 a l) r
def B9:Nat->NL
 |1=>[(2,WS 0 0),(1,WS 0 1)]
 |2=>[(12,WS 0 0),(3,WS 0 1),(10,WS 1 0),(5,WS 1 1)]
 |_=>[(240,WS 0 0),(15,WS 0 1),(204,WS 1 0),(51,WS 1 1),(170,WS 2 0),(85,WS 2 1)]
def ja(sw:Nat):List NL:=B9 sw::O5 (B9 sw) (jc sw)
def TX(sw i:Nat):NL:=(ja sw).getD i []
def Wb:NL->NL->Bool
 |[],[]=>Z7
 |(a,x)::r,(b,y)::t=>Nat.beq a b&&WI x y&&Wb r t
 |_,_=>Z5
theorem O4:∀{a b:NL},Wb a b=Z7->a=b
 |[],[],_=>rfl
 |(a,x)::r,(b,y)::t,h=>by unfold Wb at h;simp only[qC8]at h;rw[qR7 h.1.1,(KC x y).mp h.1.2,O4 h.2]
 |[],_::_,h=>by cases h
 |_::_,[],h=>by cases h
def MQ(sw m:Nat):Bool:=Wb (R8 (O6 ((List.range (m+1)).flatMap λi=>Zs (TX sw i))) (O7 (TX sw) (m+1) ((m+2) / 2)) 0 []).reverse (TX sw (m+1))
theorem Jb(a:LX sw 0=TX sw 0)(h:∀m,m<n->MQ sw m=Z7):∀i,i<=n->LX sw i=TX sw i:=by
 intro i
 induction i using qQ9 with
 |_ i b =>
  intro d;cases i with
  |zero=>exact a
  |succ m=>rw[jf (T:=TX sw) λj c=>b j (by lia) (by lia)];exact O4 (h m (by lia))
def YP(z:Nat):D:=.int (z:Nat)
theorem Ja:∀{kvs:List (ZF×D)}{xs:List Nat},YC kvs xs->Sz kvs=Z9 (xs.map λz=>((z:Nat):Int))
 |[],[],_=>rfl
 |[],x::xs,h=>by simp[YC]at h
 |p::kvs,[],h=>by simp[YC]at h
 |(k,v)::kvs,x::xs,h=>by simp only[YC,qB8,qK3.injEq]at h;have:=Ja h.2;rw[h.1];show(Sz kvs).map _=_;rw[this];rfl
theorem i8(xs:List Nat):∃ys:List Nat,ys.Perm xs/\Wj (xs.map λz=>((z:Nat):Int))=ys.map λz=>((z:Nat):Int):=by
 have a:=KJ (xs.map λz=>((z:Nat):Int));refine⟨(Wj (xs.map λz=>((z:Nat):Int))).map qU6,?_,?_⟩
 .have:=a.map qU6;rw[qC7]at this;have e:xs.map (qU6∘λz:Nat=>z)=xs:=by rw[show(qU6∘λz:Nat=>z)=id from funext λz=>by simp];simp
  rw[e]at this;exact this
 .rw[qC7]
  conv=>lhs;rw[<- qS3 (Wj (xs.map λz=>((z:Nat):Int)))]
  refine qE0 λx b=>?_;obtain⟨z,_,rfl⟩:=qB9.mp (a.mem_iff.mp b);simp
theorem I7:∀{l m:List Nat},l.Nodup->(∀x∈l,x∈m)->l.length<=m.length
 |[],m,_,_=>by simp
 |a::l,m,nd,h=>by have nd':=qH2.mp nd;have b:=h a (by simp);have d:=I7 nd'.2 (λx c=>(qS2 (λe:x=a=>nd'.1 (e▸c))).mpr (h x (by simp[c])));rw[qL7 b]at d;have:=qQ4 b;simp;lia
theorem i7{yk:List Nat}(c:yk.Nodup)(d:∀z∈yk,z<N)(h:¬yk.length<N)(e:x<N):x∈yk:=by
 refine Classical.byContradiction λb=>?_;have:=UK N (qH2.mpr ⟨b,c⟩) (λz a=>by
  rcases qB0.mp a with rfl|a
  .exact e
  .exact d z a)
 simp at this;lia
def VE(sw j:Nat):Prop:=∀x,x<NN sw->∃i,i<j/\x∈lv sw i
def XD(sw z:Nat):List Bool:=(List.range (2 ^ sw)).map λp=>z.testBit (2 ^ sw - 1 - p)
theorem Q6(sw z:Nat):(XD sw z).length=2 ^ sw:=by unfold XD;rw[qA0,qD2]
theorem i6:∀z,z<256->ZK 0 (XD 3 z)=z:=by decide
theorem i5:∀z,z<16->ZK 0 (XD 2 z)=z:=by decide
theorem i4:∀z,z<4->ZK 0 (XD 1 z)=z:=by decide
theorem R6(b:1<=sw)(a:sw<=3)(h:z<NN sw):ZK 0 (XD sw z)=z:=by
 have:sw=1∨sw=2∨sw=3:=by lia
 rcases this with rfl|rfl|rfl
 .exact i4 z h
 .exact i5 z h
 .exact i6 z h
theorem iZ(c:ZQ)(h:0<=L - 1 - p)(e:j6 (z / 2 ^ (L - 1 - p).toNat) 1=b1 b):PZ c [Z9 (.int p),Z9 (.int z),Z9 (.int L)] S=.ok (.int (b1 b)) S:=by
 have a:p<=L - 1:=by lia
 simp[PZ,a,e]
theorem iY(c:ZQ){R:yM}(b:-4611686018427387904<=L/\L<4611686018427387904)(d:(Y3 0 L.toNat).length<lim)(e:Y1 [] .one (λ_=>ret Z7) (PZ c) [Z8,Z9 (.int z),Z9 (.int L)] (Y3 0 L.toNat) S=.ok R S)(a:S++[.lst R]=S1)(t:Ya [.lst S.length] S1=.ok (.tup R) S1):PY c [Z9 (.int z),Z9 (.int L)] S=.rt (.tup R) S1:=by simp[PY,b,d,e,a,t]
theorem iX(z k:Nat):j6 ((z:Int) / 2 ^ k) 1=b1 (z.testBit k):=by
 have a:(z / 2 ^ k)=((z / 2 ^ k:Nat):Int):=by simp
 rw[a,show 1=((1:Nat):Int)from rfl,MX,qT2,Nat.testBit,Nat.shiftRight_eq_div_pow,Nat.and_comm,qT2];have:z / 2 ^ k % 2=0∨z / 2 ^ k % 2=1:=by lia
 rcases this with h|h<;>rw[h]<;>simp[b1]
theorem iW(h:JR cl)(n:Nat)(c:sw<=3)(z:Nat)(S:ZX):VJ (cl (n+1) "function_with" [.int (z:Nat),.int ((2 ^ sw:Nat):Int)] S) (Zr (XD sw z)) S:=by
 have d:2 ^ sw<=2 ^ 3:=qG1 (by decide) c;obtain⟨L,f⟩:∃L,2 ^ sw=L:=⟨_,rfl⟩
 have b:(Y3 0 ((2 ^ sw:Nat):Int).toNat)=(List.range (2 ^ sw)).map λp:Nat=>D.int (0+p):=by unfold Y3;rw[qD9]
 have e:Y1 [] .one (λ_=>ret Z7) (PZ (cl n)) [Z8,Z9 (.int z),Z9 (.int ((2 ^ sw:Nat):Int))] (Y3 0 ((2 ^ sw:Nat):Int).toNat) S=.ok (YR (XD sw z)) S:=by
  rw[b,show YR (XD sw z)=(List.range (2 ^ sw)).map λp=>D.int (b1 (z.testBit (2 ^ sw - 1 - p))) by unfold YR XD;rw[qC7];rfl];refine Ub (λp:Nat=>D.int (0+p)) (XH S) _ _ λp a=>⟨_,rfl,?_⟩
  have:=qC9.mp a;refine iZ _ (by lia) ?_;rw[show(((2 ^ sw:Nat):Int) - 1 - (0+p)).toNat=2 ^ sw - 1 - p by lia];exact iX z _
 refine⟨S++[O.lst (YR (XD sw z))],?_,YQ _ _⟩;rw[h];exact Y0 rfl (iY _ ⟨by lia,by lia⟩ (by rw[b,qA0,qD2,XX];lia) e rfl (Ug (Yw _ _)))
open Classical in
def KL(sw i:Nat):List Nat:=(List.range (NN sw)).filter λz=>decide (Kn sw i z)
open Classical in
theorem V4:z∈KL sw i↔Kn sw i z:=by unfold KL;rw[qF1,qC9,decide_eq_true_eq];exact⟨λh=>h.2,λh=>⟨let ⟨j,_,hj⟩:=h;Vv sw j hj,h⟩⟩
theorem R5(sw i:Nat):(KL sw i).Pairwise (·<·):=List.Pairwise.filter _ qM8
theorem B8(a:sw<=3):(KL sw i).length<=256:=qD4 (qJ1 ..) (by rw[qD2];exact Q7 a)
theorem iV:∀{l m:List Nat},l.Pairwise (·<·)->m.Pairwise (·<·)->(∀z,z∈l↔z∈m)->l=m:=λ{l m} c d h =>
 ((qI8 (c.imp λh=>qB7 h) (d.imp λh=>qB7 h)).mpr h).eq_of_pairwise (λa b _ _ e f=>absurd e (Nat.lt_asymm f)) c d
theorem iU{l:List Nat}(k:l.Nodup)(h:∀z,z∈l↔z∈KL sw i):(Wj (l.map λz=>((z:Nat):Int))).map D.int=(KL sw i).map YP:=by
 obtain⟨j,g,f⟩:=i8 l;have d:=KI (l.map λz=>((z:Nat):Int));rw[f,qH0]at d;have c:=g.nodup_iff.mpr k;have lt:j.Pairwise (·<·):=(d.and c).imp λ{a b} h=>by have:=h.1;lia
 have e:=iV lt (R5 sw i) λz=>by rw[g.mem_iff,h]
 rw[f,e,qC7];rfl
theorem iT(h:ZH S n=Z9 (ns.map D.int))(b:ns.length<=5000):Va [.lst n] S=.ok (.lst S.length) (S++[.lst ((Wj ns).map D.int)]):=by
 by_cases a:ns.length<64
 .exact nO h a
 .have e:(ZH S n).bind Xb=Z9 ns:=by rw[h,qL4,P8]
  unfold Va;dsimp only;rw[e];dsimp only;rw[if_neg a,if_pos b]
theorem iS(h:Zy S m=Z9 kvs)(hk:YC kvs xs):Tt [.dct m] S=.ok (.lst S.length) (S++[.lst (xs.map YP)]):=by
 have e:(xs.map λz=>((z:Nat):Int)).map D.int=xs.map YP:=by rw[qC7];rfl
 unfold Zy at h;unfold Tt;dsimp only;split at h
 .cases h;rw[Ja hk];dsimp only;rw[e]
 .cases h;rw[Ja hk];dsimp only;rw[e]
 .cases h
def T5(sw i:Nat):yM:=(KL sw i).map λz=>Zr (XD sw z)
def Td(a:D)(b c:Nat)(w:Option D):ZS:=[Z9 a,Z9 (.lst b),Z9 (.lst c),w]
inductive I0(sw:Nat)(S0:ZX)(kt j kk:Nat)(S:ZX):Prop
 |mk (ks:List Nat) (hk:ZH S kk=Z9 (ks.map YP)) (nd:ks.Nodup) (mem:∀z,z∈ks↔∃i,i<j/\z∈lv sw i) (rs:List Nat) (hl:rs.length=j) (ht:ZH S kt=Z9 (rs.map D.lst)) (hr:∀i r,rs[i]?=Z9 r->ZH S r=Z9 (T5 sw i)/\S0.length<=r) (rnd:rs.Nodup) (x:Ex S0 S)
theorem iR(c:ZQ){ZZ R:yM}(p:Tt [d] S=.ok (.lst l) i)(w:Zk (.lst j) (.lst l) i=.ok (.lst k) n)(v:Va [.lst k] n=.ok (.lst b) f)(ty:Yq "list" (.lst e) f=Z7)(s:ZH f b=Z9 ZZ)(q:ZZ.length<lim)(u:Y1 [(b,ZZ)] .one (λ_=>ret Z7) (Nf c) [Z8,Z9 g] ZZ f=.ok R h)(t:h.length=m)(r:h++[.lst R]=o)(a:Ye Xr (.lst e) [.lst m] o=.ok .non S6):
  Rf c (Td g j e (Z9 d)) S=.nx (Td g b e (Z9 d)) S6:=by simp[Rf,Td,p,w,v,ty,s,q,u,t,r,a]
theorem iQ(c:ZQ)(d:Zw [b] S=.ok (.int L) S)(e:c "function_with" [.int z,.int L] S=.ok a S1):Nf c [Z9 (.int z),Z9 b] S=.ok a S1:=by simp[Nf,d,e]
theorem iP(bs:List Bool)(S:ZX):Zw [Zr bs] S=.ok (.int (bs.length:Nat)) S:=by unfold Zr;rw[n8];unfold YR;rw[qA0]
theorem iO(h:JR cl)(n:Nat)(s1:1<=sw)(u:sw<=3)(C:bs.length=2 ^ sw){kt j R id:Nat}(hj:j<=900)(gt:S0.length<=kt)(hp:I0 sw S0 kt j R S)(U:T7 sw j S id)(w:Option D):
  Ro (gN 3) (Rf (cl (n+1))) (.dct id) (Td (Zr bs) R kt w) S (fun B S'=>∃o,B=Td (Zr bs) o kt (Z9 (.dct id))/\I0 sw S0 kt (j+1) o S'/\Kp (·=kt) S S'):=by
 obtain⟨ks,hk,nd,mem,rs,hl,ht,s,F,x⟩:=hp;obtain⟨kvs,W,d1,d2,L,d4,d5⟩:=U;have Y:=iS d1 d2;obtain⟨S1,M⟩:∃S1,S++[O.lst (W.map YP)]=S1:=⟨_,rfl⟩
 rw[M]at Y;have J:=M▸YQ _ _;have b1':=UK 256 nd λz v=>by obtain⟨i,_,c⟩:=(mem z).mp v;exact R9 u c
 have b2:=UK 256 d4 λz v=>R9 u ((L z).mp v);have K:=J8 (J.lst hk λz=>z) (by rw[<- M];exact Yw _ _) (by rw[qA0,qA0,XX];lia);rw[<- qD7]at K;obtain⟨S2,V⟩:∃S2,S1++[O.lst ((ks++W).map YP)]=S2:=⟨_,rfl⟩
 rw[V]at K;have x2:=V▸YQ _ _;have X:=qG0.mpr ⟨nd,d4,λa E b I e=>by
  subst e;obtain⟨i,c,hm⟩:=(mem a).mp E;have:=Pd sw hm ((L a).mp I)
  lia⟩
 have m:∀z,z∈ks++W↔z∈KL sw j:=λz=>by
  rw[qC0,mem,L,V4];constructor
  .rintro(⟨i,c,h⟩| h)
   .exact⟨i,by lia,h⟩
   .exact⟨j,by lia,h⟩
  .rintro⟨i,c,h⟩;by_cases e:i=j
   .subst e;exact .inr h
   .exact .inl ⟨i,by lia,h⟩
 have e3:Va [.lst S1.length] S2=.ok (.lst S2.length) (S2++[.lst ((KL sw j).map YP)]):=by rw[iT (by rw[<- V,qC7];exact Yw _ _) (by rw[qA0,qC2];lia),iU X m]
 obtain⟨S3,G⟩:∃S3,S2++[O.lst ((KL sw j).map YP)]=S3:=⟨_,rfl⟩
 rw[G]at e3;have x3:=G▸YQ _ _;have g:=(J.trans x2).trans x3;have Q:ZH S3 S2.length=Z9 ((KL sw j).map YP):=by rw[<- G];exact Yw _ _
 obtain⟨k,c1,T⟩:=Dy YP (t:=.one) (B0:=[Z8,Z9 (Zr bs)]) (λS'=>Ex S3 S') (λS' x=>U6 (x.lst Q λz=>z)) (λz=>Zr (XD sw z)) (KL sw j) (Kp.refl _ _) (λz v S' x=>by
  obtain⟨S5,Z,p⟩:=iW h n u z S';rw[<- C]at Z;exact⟨_,rfl,S5,iQ _ (iP bs S') Z,x.trans p⟩)
 obtain⟨S5,N⟩:∃S5,k++[O.lst (T5 sw j)]=S5:=⟨_,rfl⟩
 have p:=N▸YQ _ _;have d:=(g.trans T).trans p;have t5:=d.lst ht λz=>z;have a:Ye Xr (.lst kt) [.lst k.length] S5=.ok .non (S5.set kt (.lst (rs.map D.lst++[.lst k.length]))):=by rw[Sq t5,Rq,if_pos (by rw[qA0,XX];lia)]
 have ktl:=Ud ht;have g3:S.length<=S2.length:=by have:=J.le;have:=x2.le;lia
 have g4:S.length<=k.length:=by have:=g.le;have:=T.le;lia
 have f:=VI (i:=kt) S5 (.lst (rs.map D.lst++[.lst k.length]));have H:=λi r c=>Ud (s i r c).1;have A:∀i r,rs[i]?=Z9 r->r≠kt:=λi r c e=>by
  subst e;have:=(s i r c).1;rw[ht]at this;cases rs with
  |nil=>cases c
  |cons q rs =>
   replace this:=Option.some.inj this
   unfold T5 at this;generalize KL sw i=l at this;cases l with
   |nil=>cases this
   |cons y ys =>
    rw[qB8,qB8,qK3.injEq]at this;cases this.1
 refine⟨Td (Zr bs) R kt (Z9 (.dct id)),S,by simp[Td],_,_,.inl (iR _ Y K e3 (Tj (g.lst ht λz=>z)) Q (by rw[qA0,XX];have:=B8 (i:=j) u;lia) c1 rfl N a),S2.length,rfl,⟨KL sw j,?_,(R5 sw j).imp λh=>qB7 h,λz=>?_,rs++[k.length],by simp[hl],?_,λi r c=>?_,?_,⟨?_,λi c _=>?_⟩⟩,d.kp.trans f⟩
 .exact f.lst ((T.trans p).lst Q λz=>z) (by lia)
 .rw[V4];exact⟨λ⟨i,a,b⟩=>⟨i,by lia,b⟩,λ⟨i,a,b⟩=>⟨i,by lia,b⟩⟩
 .rw[UQ t5,qD7];rfl
 .by_cases P:i<rs.length
  .rw[qA8 P]at c;exact⟨f.lst (d.lst (s i r c).1 λz=>z) (A i r c),(s i r c).2⟩
  .rw[qA1 (by lia)]at c;have:=by have:=(qA4.mp c).1;simp at this;omega
   rw[this]at c;simp at c;subst c;have:i=j:=by lia
   subst this;refine⟨f.lst (by rw[<- N];exact Yw _ _) (by lia),by lia⟩
 .refine qG0.mpr ⟨F,by simp,λa E b I e=>?_⟩;simp at I;obtain⟨i,c⟩:=qE8 E;have:=H i _ c
  lia
 .rw[qJ2];have:=d.le;lia
 .rw[qE5 (by lia),d.eq i (by lia) (λz=>z),x.eq i c (λz=>z)]
theorem IZ:∀(l:List Bool) (m:Nat),m*2 ^ l.length<=ZK m l
 |[],m=>by simp[ZK]
 |z::l,m=>by refine qD4 ?_ (IZ l (2*m+z.toNat));rw[qD3,qO5,Nat.mul_comm (2 ^ l.length) 2,<- Nat.mul_assoc];exact qS5 _ (by lia)
theorem IY:∀(bs d:List Bool) (a:Nat),bs.length=d.length->HT.lexLt (bs.map b1) (d.map b1)=decide (ZK a bs<ZK a d)
 |[],[],a,_=>by rw[decide_eq_false (qG3 _)];rfl
 |[],c::d,a,h=>by simp at h
 |b::bs,[],_,h=>by simp at h
 |x::bs,y::d,a,hl=>by
  have e:=by simpa using hl
  rw[qB8,qB8,HT.lexLt_cons];show _=decide (ZK (2*a+x.toNat) bs<ZK (2*a+y.toNat) d);have i:=IZ d (2*a+1);have f:=Rc bs (2*a);have g:=IZ bs (2*a+1);have j:=Rc d (2*a);rw[e]at f g;cases x<;>cases y
  .exact IY bs d _ e
  .rw[decide_eq_true (p:=ZK (2*a+Z5.toNat) bs<ZK (2*a+Z7.toNat) d) (by show ZK (2*a) bs<ZK (2*a+1) d;lia)];simp[b1]
  .rw[decide_eq_false (p:=ZK (2*a+Z7.toNat) bs<ZK (2*a+Z5.toNat) d) (by show ¬ZK (2*a+1) bs<ZK (2*a) d;lia)];simp[b1]
  .exact IY bs d _ e
theorem Q5(a:bs.length=2 ^ sw):ZK 0 bs<NN sw:=by have:=Rc bs 0;rw[a]at this;unfold NN;lia
theorem O0(c:1<=sw)(b:sw<=3)(a:bs.length=2 ^ sw):XD sw (ZK 0 bs)=bs :=
 (CF _ _ 0 0 (by rw[Q6,a]) (R6 c b (Q5 a))).2
abbrev XU(sw z:Nat):D:=Zr (XD sw z)
theorem B7(h:Zr bs=Zr cs):bs=cs:=by injection h with h;refine qP0 (λx y e=>?_)|>.mp h;injection e with e;cases x<;>cases y<;>first|rfl|(simp[b1]at e)
theorem iN(d:1<=sw)(c:sw<=3)(e:a<NN sw)(f:b<NN sw)(h:XU sw a=XU sw b):a=b:=by rw[<- R6 d c e,<- R6 d c f,B7 h]
theorem B6(h:1<=sw)(f:sw<=3):U4 (sw:Nat) d↔∃z,d=XU sw z/\z<NN sw:=by
 constructor
 .rintro⟨l,rfl,c,g⟩;obtain⟨bs,rfl⟩:∃bs:List Bool,l=bs.map b1:=⟨l.map λi=>decide (i=1),by
   rw[qC7];refine(qS3 l).symm.trans (qE0 λi a=>?_);have:=g i a;by_cases e:i=1
   .simp[e,b1]
   .have:i=0:=by lia
    simp[this,b1]⟩
  rw[qA0]at c;exact⟨ZK 0 bs,by rw[O9,XU,O0 h f c],Q5 c⟩
 .rintro⟨z,rfl,_⟩;refine⟨(XD sw z).map b1,(O9 _).symm,by rw[qA0,Q6,qD9],λi a=>?_⟩;obtain⟨b,_,rfl⟩:=qB9.mp a;cases b<;>simp[b1]
theorem iM(d:1<=sw)(c:sw<=3)(e:a<NN sw)(f:b<NN sw)(S:ZX):V8 (XU sw a) (XU sw b) S=.ok (.bl (decide (a<b))) S:=by
 have i:∀bs:List Bool,Xb (YR bs)=Z9 (bs.map b1):=λbs=>by
  have:YR bs=(bs.map b1).map D.int:=by rw[qC7];rfl
  rw[this,P8]
 unfold XU Zr V8;dsimp only;rw[i,i];dsimp only;rw[IY _ _ 0 (by rw[Q6,Q6]),R6 d c e,R6 d c f]
def Yu(sw:Nat)(S:ZX)(d:D)(zs:List Nat):Prop:=∃r,d=.lst r/\ZH S r=Z9 (zs.map (XU sw))/\zs.Pairwise (·<·)/\∀z∈zs,z<NN sw
theorem Yu.ex(h:Yu sw S d zs)(x:Ex S S'):Yu sw S' d zs:=by obtain⟨r,rfl,l,p,b⟩:=h;exact⟨r,rfl,x.lst l λz=>z,p,b⟩
theorem IX{sw:Nat}(e:1<=sw)(d:sw<=3):∀{zs ys:List Nat},(∀z∈zs,z<NN sw)->(∀z∈ys,z<NN sw)->zs.map (XU sw)=ys.map (XU sw)->zs=ys
 |[],[],_,_,_=>rfl
 |[],_::_,_,_,h=>by cases h
 |_::_,[],_,_,h=>by cases h
 |z::zs,y::ys,a,b,h=>by rw[qB8,qB8,qK3.injEq]at h;rw[iN e d (a z (by simp)) (b y (by simp)) h.1,IX e d (λz c=>a z (by simp[c])) (λz c=>b z (by simp[c])) h.2]
theorem Yu.uniq(g:1<=sw)(c:sw<=3)(h:Yu sw S d zs)(k:Yu sw S d ys):zs=ys:=by obtain⟨r,rfl,l,_,b⟩:=h;obtain⟨q,e,a,_,f⟩:=k;cases e;rw[l]at a;exact IX g c b f (Option.some.inj a)
theorem B3:∀{N:Nat}{zs:List Nat},zs.Pairwise (·<·)->(∀z∈zs,z<N)->zs.length<=N:=λ{N zs} p b=>by have:=I7 (p.imp λh=>qB7 h) λx a=>qC9.mpr (b x a);rwa[qD2]at this
theorem BZ:∀zs:List Nat,((zs.zip (zs.drop 1)).map λp=>decide (p.1<p.2)).all id=Z7↔zs.Pairwise (·<·)
 |[]=>by simp
 |[a]=>by simp
 |a::b::zs=>by
  have e:=BZ (b::zs);change (((b::zs).zip zs).map λp:Nat×Nat=>decide (p.1<p.2)).all id=Z7↔_ at e;show(decide (a<b)&&(((b::zs).zip zs).map λp:Nat×Nat=>decide (p.1<p.2)).all id)=Z7↔_;rw[qC8,e,decide_eq_true_eq,qF6 (a:=a)];constructor
  .rintro⟨h,p⟩;refine⟨λc d=>?_,p⟩;rcases qB0.mp d with rfl|d
   .exact h
   .exact qT3 h ((qF6.mp p).1 c d)
  .simp_all
def UJ(S:ZX)(d:D):Prop:=kd S d/\∀r X,d=.lst r->ZH S r=Z9 X->X.length<=600/\∀x∈X,Nk S 1 x
theorem Nk.ex(x:Ex S S'):∀{n:Nat}{d:D},Nk S n d->Nk S' n d
 |0,d,h=>M4 x d h
 |n+1,d,h=>⟨M4 x d h.1,λa e=>⟨(h.2 a e).1,λy b=>Nk.ex x ((h.2 a e).2 y b)⟩⟩
theorem IW(h:kd S (.lst r)):∃X,ZH S r=Z9 X:=by
 obtain⟨t,e⟩:=h;have a:(if(ZH S r).isSome then Z9 "list" else Z8)=Z9 t:=e;split at a
 .rename_i q;exact qH6.mp q
 .cases a
theorem UJ.ex(x:Ex S S')(h:UJ S d):UJ S' d:=by refine⟨M4 x d h.1,λr X e l=>?_⟩;subst e;obtain⟨Y,c⟩:=IW h.1;have:=x.lst c λz=>z;rw[this]at l;cases l;obtain⟨a,b⟩:=h.2 r _ rfl c;exact⟨a,λy f=>Nk.ex x (b y f)⟩
theorem iL(c:sw<=3)(h:Yu sw S d zs):UJ S d:=by obtain⟨r,rfl,l,p,b⟩:=h;refine⟨JD (by rw[l];rfl),λq X e f=>?_⟩;cases e;rw[l]at f;cases f;have:=B3 p b;have:=Q7 c;refine⟨by rw[qA0];lia,λx g=>?_⟩;obtain⟨z,_,rfl⟩:=qB9.mp g;refine⟨⟨_,rfl⟩,λi e=>?_⟩;cases e;have:2 ^ sw<=2 ^ 3:=qG1 (by decide) c;refine⟨by unfold YR;rw[qA0,Q6];lia,λy a=>?_⟩;unfold YR at a;obtain⟨b,_,rfl⟩:=qB9.mp a;exact⟨_,rfl⟩
def OZ:D->Bool|.lst _=>Z7|_=>Z5
theorem iK(h:kd S x):YJ [x,.ty "list"] S=.ok (.bl (OZ x)) S:=by
 cases x with
 |lst k=>rw[Vw (M6 h) (by decide)];rfl
 |dct k=>rw[Vw (M5 h) (by decide)];rfl
 |ty k=>obtain⟨t,h⟩:=h;cases h
 |rol k=>obtain⟨t,h⟩:=h;cases h
 |_=>rw[Vw rfl (by decide)];rfl
theorem iJ(c:ZQ)(i:YJ [d,.ty "list"] S=.ok (.bl Z5) S):Ua c [Z9 a,Z9 d] S=.rt (.bl Z5) S:=by simp[Ua,i]
theorem iI(c:ZQ){X R:yM}(l:ZH S r=Z9 X)(i:YJ [.lst r,.ty "list"] S=.ok (.bl Z7) S)(f:X.length<lim)(e:Y1 [(r,X)] .one (λ_=>ret Z7) (PJ c) [Z8,Z9 b] X S=.ok R a)(d:a++[.lst R]=S2)(t:W1 (λbs=>bs.all id) [.lst a.length] S2=.ok (.bl Z5) S2):Ua c [Z9 b,Z9 (.lst r)] S=.rt (.bl Z5) S2:=by simp[Ua,l,i,f,e,d,t]
theorem iH(c:ZQ){X Y R P ZZ:yM}(l:ZH S r=Z9 X)(i:YJ [.lst r,.ty "list"] S=.ok (.bl Z7) S)(q:X.length<lim)(p:Y1 [(r,X)] .one (λ_=>ret Z7) (PJ c) [Z8,Z9 f] X S=.ok R e)(k:e++[.lst R]=d)(t:W1 (λbs=>bs.all id) [.lst e.length] d=.ok (.bl Z7) d)
  (sl:VU (.lst r) (Z9 1) Z8 d=.ok (.lst d.length) a) (h:ZH a r=Z9 X) (m:ZH a d.length=Z9 Y) (g:zipD X Y=ZZ) (hz:ZZ.length<lim) (n:Y1 [(r,X),(d.length,Y)] (.many 2) (λ_=>ret Z7) (PK c) [Z8,Z8] ZZ a=.ok P a) (j:a++[.lst P]=S6) (o:W1 (λbs=>bs.all id) [.lst a.length] S6=.ok (.bl b) S6):Ua c [Z9 f,Z9 (.lst r)] S=.rt (.bl b) S6:=by simp[Ua,l,i,q,p,k,t,sl,h,m,g,hz,n,j,o]
theorem iG(c:ZQ)(h:V8 a b S=.ok t S):PK c [Z9 a,Z9 b] S=.ok t S:=by simp[PK,h]
theorem IV{α:Type}(f:α->Bool)(l:List α)(h:ZH S n=Z9 (l.map λa=>D.bl (f a))):W1 (λbs=>bs.all id) [.lst n] S=.ok (.bl ((l.map f).all id)) S:=by
 have e:∀l:List α,Vb (l.map λa=>D.bl (f a))=Z9 (l.map f):=λl=>by
  induction l with
  |nil=>rfl
  |cons a l b =>
   show(Vb (l.map λd=>D.bl (f d))).map (_::·)=_;rw[b];rfl
 unfold W1;dsimp only;rw[h];show(match Vb (l.map λa=>D.bl (f a))with|some bs=>R.ok (D.bl (bs.all id)) S|none=>.bad)=_;rw[e]
theorem BY(b:1<=sw)(a:sw<=3){X:yM}:((X.map λd=>pB (U4 (sw:Nat) d)).all id=Z7)↔∃zs:List Nat,X=zs.map (XU sw)/\∀z∈zs,z<NN sw:=by have:(X.map λd=>pB (U4 sw d))=X.map λd=>pB (∃z,d=XU sw z/\z<NN sw):=qE0 λd _=>Pg (Re.trans (B6 b a));rw[this];exact JB (XU sw) _ X
theorem IU(sw:Nat)(zs:List Nat):zipD (zs.map (XU sw)) ((zs.map (XU sw)).drop 1)=(zs.zip (zs.drop 1)).map λp=>D.tup [XU sw p.1,XU sw p.2]:=by unfold zipD;rw[<- List.map_drop,List.zip_map,qC7];rfl
theorem iF{zs:List Nat}(h:p∈zs.zip (zs.drop 1)):p.1∈zs/\p.2∈zs:=by have:=qN8 h;exact⟨this.1,qG7 this.2⟩
theorem iE(h:C8 cl)(H:HB cl)(n:Nat)(k:1<=sw)(s:sw<=3)(hk:UJ S d):VJ (cl (n+4) "is_rising_list" [.int (sw:Nat),d] S) (.bl (pB (∃zs,Yu sw S d zs))) S:=by
 have i:=iK hk.1;rw[show n+4=(n+3)+1 from rfl,h];by_cases o:OZ d=Z7
 .obtain⟨r,rfl⟩:∃r,d=.lst r:=by
   cases d with
   |lst r=>exact⟨r,rfl⟩
   |_=>cases o
  obtain⟨X,l⟩:=IW hk.1;obtain⟨P,U⟩:=hk.2 r X rfl l;obtain⟨M,F,B⟩:=nY (t:=.one) (c:=PJ (cl (n+3))) (B0:=[Z8,Z9 (.int sw)]) (λu=>Ex S u) (λu x=>U6 (x.lst l λz=>z)) X (λd=>.bl (pB (U4 sw d))) (Kp.refl _ _) (λd T u x=>by
   obtain⟨V,y,N⟩:=CK H n (sw:=sw) (by lia) (by lia) (Nk.ex x (U d T));exact⟨_,rfl,V,by simp[PJ,y],x.trans N⟩)
  obtain⟨S2,j⟩:∃S2,M++[O.lst (X.map λd=>D.bl (pB (U4 sw d)))]=S2:=⟨_,rfl⟩
  have E:=j▸YQ _ _;have t:=IV (S:=S2) (λd=>pB (U4 sw d)) X (by rw[<- j];exact Yw _ _);by_cases a:(X.map λd=>pB (U4 sw d)).all id=Z7
  .obtain⟨zs,rfl,g⟩:=(BY k s).mp a;rw[a]at t;obtain⟨S3,C⟩:∃S3,S2++[O.lst ((zs.map (XU sw)).drop 1)]=S3:=⟨_,rfl⟩
   have J:=C▸YQ _ _;have L:=(B.trans E).lst l λz=>z;have R:VU (.lst r) (Z9 1) Z8 S2=.ok (.lst S2.length) S3:=by rw[DC L,nM _ (by decide),<- C];rfl
   have G:=J.lst L λz=>z;have I:ZH S3 S2.length=Z9 ((zs.map (XU sw)).drop 1):=by rw[<- C];exact Yw _ _
   have y:Y1 [(r,zs.map (XU sw)),(S2.length,(zs.map (XU sw)).drop 1)] (.many 2) (λ_=>ret Z7) (PK (cl (n+3))) [Z8,Z8] ((zs.zip (zs.drop 1)).map λp=>D.tup [XU sw p.1,XU sw p.2]) S3=.ok ((zs.zip (zs.drop 1)).map λp=>D.bl (decide (p.1<p.2))) S3:=by
    refine Ub (λp:Nat×Nat=>D.tup [XU sw p.1,XU sw p.2]) (n5 G I) (λp=>D.bl (decide (p.1<p.2))) _ λp Q=>⟨_,rfl,?_⟩
    have m:=iF Q;exact iG _ (iM k s (g _ m.1) (g _ m.2) S3)
   have K:=IV (n:=S3.length) (λp:Nat×Nat=>decide (p.1<p.2)) (zs.zip (zs.drop 1)) (Yw _ _);have b:((zs.zip (zs.drop 1)).map λp:Nat×Nat=>decide (p.1<p.2)).all id=pB (∃A,Yu sw S (.lst r) A):=Pg ((BZ zs).trans ⟨λp=>⟨zs,r,rfl,l,p,g⟩,λ⟨w,q,e,f,p,v⟩=>by
    cases e;rw[l]at f;rw[IX k s g v (Option.some.inj f)];exact p⟩)
   rw[b]at K;rw[qA0]at P;exact⟨_,Y0 rfl (iH _ l (Ds l) (by rw[qA0,XX];lia) F j t R G I (IU sw zs) (by rw[qA0,qV2,XX];lia) y rfl K),(B.trans E).trans (J.trans (YQ _ _))⟩
  .rw[qL3]at a;rw[a]at t;rw[Xo (λ⟨w,q,e,f,_,v⟩=>by
    cases e;rw[l]at f;cases f;have:=(BY k s).mpr ⟨w,rfl,v⟩;rw[this]at a;cases a)]
   exact⟨S2,Y0 rfl (iI _ l (Ds l) (by rw[XX];lia) F j t),B.trans E⟩
 .rw[qL3]at o;rw[o]at i;rw[Xo (λ⟨w,q,e,_⟩=>by subst e;cases o)];exact⟨S,Y0 rfl (iJ _ i),Kp.refl _ _⟩
structure Dz(b:Nat)(S S1:ZX):Prop where
 le:S.length<=S1.length
 eq:∀j,j<b->S1[j]?=S[j]?
 l:∀{n X},ZH S n=Z9 X->ZH S1 n=Z9 X
 d:∀{m kvs},Zy S m=Z9 kvs->Zy S1 m=Z9 kvs
theorem Dz.refl(b:Nat)(S:ZX):Dz b S S:=⟨qA7 _,λ_ _=>rfl,id,id⟩
theorem Dz.trans(x:Dz b S a)(y:Dz b a S2):Dz b S S2:=⟨qD4 x.le y.le,λj h=>(y.eq j h).trans (x.eq j h),λh=>y.l (x.l h),λh=>y.d (x.d h)⟩
theorem Dz.of(a:b<=S.length)(x:Ex S S1):Dz b S S1:=⟨x.le,λj h=>x.eq j (by lia) λz=>z,λh=>x.lst h λz=>z,λh=>UN x h λz=>z⟩
theorem Dz.froze(hm:b<=m)(kp:Kp (·=m) S S1)(h:Zy S m=Z9 c)(d:Zy S1 m=Z9 c):Dz b S S1:=by
 refine⟨kp.le,λj a=>?_,λ{n X} l=>?_,λ{j k} a=>?_⟩
 .by_cases q:j<S.length
  .exact kp.eq j q (by lia)
  .have:=Cs h
   lia
 .refine kp.lst l λe=>?_;subst e;rw[Zy,V7 l]at h;cases h
 .by_cases e:j=m
  .simp_all
  .exact UN kp a e
def Ym(S:ZX)(m:Nat)(A:List Nat):Prop:=∃a b,Zy S m=Z9 a/\YC a b/\∀z,z∈b↔z∈A
theorem Ym.dz(h:Ym S m A)(x:Dz b S d):Ym d m A:=by obtain⟨k,y,a,b,c⟩:=h;exact⟨k,y,x.d a,b,c⟩
theorem Ym.has(h:Ym S m A)(neg:Bool)(z:Nat):YG neg (.int (z:Nat)) (.dct m) S=.ok (.bl (if neg then !decide (z∈A)else decide (z∈A))) S:=by obtain⟨k,y,a,b,c⟩:=h;rw[MY a b neg z,decide_eq_decide.mpr (c z)]
def OY(A a C:List Nat):Prop:=∀x∈a,∀z∈C,(x &&& z)∈A/\(x ||| z)∈A
def XM(ds a d:Nat)(c b:Option D):ZS:=[Z9 (.dct ds),Z9 (.dct a),Z9 (.dct d),c,b]
theorem IT(c:ZQ)(d:YG Z7 (.int ((x &&& z:Nat):Int)) (.dct ds) S=.ok (.bl Z5) S)(e:YG Z7 (.int ((x ||| z:Nat):Int)) (.dct ds) S=.ok (.bl Z5) S):Ri c (XM ds a b (Z9 (YP x)) (Z9 (YP z))) S=.nx (XM ds a b (Z9 (YP x)) (Z9 (YP z))) S:=by simp[Ri,XM,YP,MX,Js,d,e]
theorem IS(c:ZQ)(b:YG Z7 (.int ((x &&& z:Nat):Int)) (.dct ds) S=.ok (.bl p) S)(d:YG Z7 (.int ((x ||| z:Nat):Int)) (.dct ds) S=.ok (.bl q) S)(h:(p||q)=Z7):Ri c (XM ds a e (Z9 (YP x)) (Z9 (YP z))) S=.rt (.bl Z5) S:=by cases p<;>cases q<;>simp at h<;>simp[Ri,XM,YP,MX,Js,b,d]
def WX(A:List Nat)(x z:Nat):Bool:=decide ((x &&& z)∈A)&&decide ((x ||| z)∈A)
theorem iD(c:ZQ){A C:List Nat}(n:Dz b S0 S)(u:Ym S0 ds A)(G:Ym S0 d C)(w:b<=d)(e:Option D):
  (¬(∀z∈C,WX A x z=Z7)/\∃S',Rh c (XM ds f d (Z9 (YP x)) e) S=.rt (.bl Z5) S'/\Dz b S0 S')∨((∀z∈C,WX A x z=Z7)/\∃h S',Rh c (XM ds f d (Z9 (YP x)) e) S=.nx (XM ds f d (Z9 (YP x)) h) S'/\Dz b S0 S'):=by
 obtain⟨F,t,r,hk,s⟩:=id G;obtain⟨E,K,kp,j,_⟩:=Pa (c:=ZY 2) (B:=XM ds f d (Z9 (YP x)) e) (by simp[XM]) (n.d r) hk;have J:=n.trans (Dz.froze w kp (n.d r) j);have H:=Nz YP (g:=gN 4) (fun B S'=>(∃e,B=XM ds f d (Z9 (YP x)) e)/\Dz b S0 S') (λS'=>Dz b S0 S') (λ_ S _=>XH S) (λz=>!WX A x z) (λ_=>.bl Z5) t (B:=XM ds f d (Z9 (YP x)) e) ⟨⟨_,rfl⟩,J⟩ (λz q B S' I=>by
  obtain⟨⟨e,rfl⟩,y⟩:=I;refine⟨XM ds f d (Z9 (YP x)) (Z9 (YP z)),S',by simp[XM],?_⟩;have l:=(u.dz y).has Z7 (x &&& z);have o:=(u.dz y).has Z7 (x ||| z);cases a:WX A x z with
  |true =>
   unfold WX at a;rw[qC8]at a;rw[a.1]at l;rw[a.2]at o;exact .inr ⟨rfl,_,S',.inl (IT c l o),⟨_,rfl⟩,y⟩
  |false =>
   unfold WX at a;refine .inl ⟨rfl,S',IS c l o ?_,y⟩;revert a;cases decide ((x &&& z)∈A)<;>cases decide ((x ||| z)∈A)<;>simp)
 have run:Rh c (XM ds f d (Z9 (YP x)) e) S=sb (YV [] (gN 4) (Ri c) (t.map YP) (XM ds f d (Z9 (YP x)) e) E) ZL .mk:=by unfold Rh;rw[Qa,P9,K];rfl
 rcases H with⟨z,S',i,p,k⟩| ⟨L,S',i,p,⟨h,rfl⟩,k⟩
 .refine .inl ⟨λv=>?_,S',by rw[run,p];rfl,k⟩;have:=qR3 i;have m:=qL6 i;rw[v z ((s z).mp m)]at this;cases this
 .refine .inr ⟨λz q=>?_,h,S',by rw[run,p];rfl,k⟩;have:=qP1.mp i z ((s z).mpr q);simpa using this
theorem BX(c:ZQ){ys:List Nat}(f:Zv (ZY 1) (XM ds a b Z8 Z8) S=.ok (ys.map λz=>D.int ((z:Nat):Int),[]) d)(e:YV [] (gN 3) (Rh c) (ys.map YP) (XM ds a b Z8 Z8) d=r):PH c (XM ds a b Z8 Z8) S=sb r (ZV (ZM (ZW (.bl Z7))) ZL) .mk:=by unfold PH;rw[Qa,P9,f,<- e];rfl
theorem iC(h:C7 cl)(n:Nat){A l C:List Nat}(O:Ym S ds A)(P:Ym S a l)(J:Ym S d C)(M:b<=a)(H:b<=d):
  ∃S1,cl (n+1) "has_all_made" [.dct ds,.dct a,.dct d] S=.ok (.bl (pB (OY A l C))) S1/\Dz b S S1:=by
 obtain⟨I,N,w,hk,E⟩:=id P;obtain⟨S1,F,kp,o,_⟩:=Pa (c:=ZY 1) (B:=XM ds a d Z8 Z8) (by simp[XM]) w hk;have R:=Dz.froze M kp w o;have K:=Nz YP (g:=gN 3) (fun B e=>(∃j f,B=XM ds a d j f)/\Dz b S e) (λe=>Dz b S e) (λ_ S _=>XH S) (λx=>!(C.all λz=>WX A x z)) (λ_=>.bl Z5) N (B:=XM ds a d Z8 Z8) ⟨⟨_,_,rfl⟩,R⟩ (λx D B e L=>by
  obtain⟨⟨j,f,rfl⟩,y⟩:=L;refine⟨XM ds a d (Z9 (YP x)) f,e,by simp[XM],?_⟩;rcases iD (cl n) y O J H f with⟨q,u,v,k⟩| ⟨q,Q,u,v,k⟩
  .refine .inl ⟨?_,u,v,k⟩;rw[qJ5,qP7];exact λz=>q (qD5.mp z)
  .refine .inr ⟨?_,_,u,.inl v,⟨_,_,rfl⟩,k⟩;rw[qP2];exact qD5.mpr q)
 rcases K with⟨x,e,i,t,r⟩| ⟨T,e,i,t,⟨j,f,rfl⟩,r⟩
 .refine⟨e,?_,r⟩;rw[Xo (λG=>by
   have:=qR3 i;have m:=qL6 i;rw[qJ5,qP7]at this;refine this (qD5.mpr λz s=>?_);obtain⟨p,q⟩:=G x ((E x).mp m) z s;unfold WX;rw[decide_eq_true p,decide_eq_true q];rfl),h]
  exact Y0 rfl (by rw[show Yn 5 [.dct ds,.dct a,.dct d]=XM ds a d Z8 Z8 from rfl,BX _ F t];rfl)
 .refine⟨e,?_,r⟩;rw[WE (p:=OY A l C) (λx D z s=>by
   have:=qP1.mp i x ((E x).mpr D);rw[qL3,qP2,qD5]at this;have:=this z s;unfold WX at this;rw[qC8,decide_eq_true_eq,decide_eq_true_eq]at this;exact this),h]
  exact Y0 rfl (by rw[show Yn 5 [.dct ds,.dct a,.dct d]=XM ds a d Z8 Z8 from rfl,BX _ F t];rfl)
theorem iB(f:c B S0=.ok (.dct m) S)(h:Zy S m=Z9 kvs)(hk:YC kvs xs):∃e,Zv c B S0=.ok (xs.map λz=>D.int ((z:Nat):Int),[]) e/\Kp (·=m) S e/\Zy e m=Z9 kvs:=by obtain⟨e,a,b,d,_⟩:=Pa (c:=λ_=>ret (.dct m)) (B:=B) rfl h hk;refine⟨e,?_,b,d⟩;rw[Kc]at a ⊢;rw[f];exact a
def U2(sw:Nat)(ZZ:List (List Nat))(row:List Nat):Prop:=(ZZ=[]->∀z∈We sw,z∈row)/\∀k,k<(ZZ.length+1) / 2->∀A a,ZZ[k]?=Z9 A->ZZ[ZZ.length - 1 - k]?=Z9 a->OY row A a
def W9(k ds:Nat)(s:Int)(a:Option D):ZS:=[Z9 (.lst k),Z9 (.dct ds),Z9 (.int s),a]
theorem IR(c:ZQ)(g:ZA (.lst k) (.int p) S=.ok (.dct a) S)(f:Zw [.lst k] S=.ok (.int L) S)(d:ZA (.lst k) (.int (L - 1 - p)) S=.ok (.dct b) S)(e:c "has_all_made" [.dct ds,.dct a,.dct b] S=.ok (.bl Z7) S1):Th c (W9 k ds s (Z9 (.int p))) S=.nx (W9 k ds s (Z9 (.int p))) S1:=by simp[Th,W9,g,f,d,e]
theorem IQ(c:ZQ)(g:ZA (.lst k) (.int p) S=.ok (.dct a) S)(f:Zw [.lst k] S=.ok (.int L) S)(d:ZA (.lst k) (.int (L - 1 - p)) S=.ok (.dct b) S)(e:c "has_all_made" [.dct ds,.dct a,.dct b] S=.ok (.bl Z5) S1):Th c (W9 k ds s (Z9 (.int p))) S=.rt (.bl Z5) S1:=by simp[Th,W9,g,f,d,e]
theorem IP(c:ZQ){Y R:yM}(g:Xu (.lst k) S=.ok Z5 S)(e:Zv (ZT (c "first_level") (ZR [(ZY 2)])) (W9 k ds s Z8) S=.ok (Y,[]) d)(i:Y.length<lim)(h:Y1 [] .one (λ_=>ret Z7) (PF c) [Z8,Z9 (.dct ds)] Y d=.ok R a)(f:a++[.lst R]=S4)(t:W1 (λbs=>bs.all id) [.lst a.length] S4=.ok (.bl b) S4):Tf c (W9 k ds s Z8) S=.rt (.bl b) S4:=by unfold W9 at e ⊢;simp[-Kc,Tf,g,e,i,h,f,t]
theorem IM(c:ZQ)(d:Xu (.lst k) S=.ok Z7 S)(f:Zw [.lst k] S=.ok (.int L) S)(a:(L+1) / 2=p)(b:-4611686018427387904<=p/\p<4611686018427387904)(e:YV [] (gN 3) (Th c) (Y3 0 p.toNat) (W9 k ds s Z8) S=r):Tf c (W9 k ds s Z8) S=sb r (ZV (ZM (ZW (.bl Z7))) ZL) .mk:=by unfold W9 at e ⊢;simp[Tf,d,f,a,b,e]
theorem iA(c:ZQ)(h:YG Z5 (.int (z:Nat)) (.dct ds) S=.ok (.bl b) S):PF c [Z9 (YP z),Z9 (.dct ds)] S=.ok (.bl b) S:=by simp[PF,YP,h]
theorem BW{b:List Nat}(h:ZH S k=Z9 (b.map D.dct))(hi:b[i]?=Z9 a):ZA (.lst k) (.int (i:Nat)) S=.ok (.dct a) S:=by rw[Ue h,Vz (by rw[qB1,hi];rfl)]
structure HGo(cl:Nat->ZQ):Prop where
 go:nz cl
 hm:C7 cl
 fl:Ng cl
 tf:Pf cl
 no:Sl cl
structure Q4(b:Nat)(S:ZX)(ids:List Nat)(ZZ:List (List Nat)):Prop where
 hl:ids.length=ZZ.length
 hd:∀(i:Nat) (id:Nat),ids[i]?=Z9 id->∃r,ZZ[i]?=Z9 r/\Ym S id r/\b<=id
theorem Q4.dz{ZZ:List (List Nat)}(h:Q4 b S e ZZ)(x:Dz b S f):Q4 b f e ZZ:=⟨h.hl,λi id g=>let ⟨r,a,c,d⟩:=h.hd i id g;⟨r,a,c.dz x,d⟩⟩
theorem iz(H:HGo cl)(n:Nat){ZZ:List (List Nat)}(s1:1<=sw)(W:sw<=3)(Z:b<=S.length)(hk:ZH S k=Z9 (ids.map D.dct))(o:Q4 b S ids ZZ)(R:Ym S ds A)(hZ:ZZ.length<=900):
  ∃S1,cl (n+7) "goes_on" [.lst k,.dct ds,.int (sw:Nat)] S=.ok (.bl (pB (U2 sw ZZ A))) S1/\Dz b S S1:=by
 have X:Yn 4 [.lst k,.dct ds,.int sw]=W9 k ds sw Z8:=rfl;rw[show n+7=(n+6)+1 from rfl,H.go];cases ids with
 |nil =>
  have I:=qK6 o.hl.symm;subst I;obtain⟨L,S1,e1,hL,x1,⟨kvs,w,U,hy,E,nd,_⟩⟩:=Jg H.fl H.tf H.no n s1 W S;obtain⟨S2,s,kp,d2⟩:=iB (c:=ZT (cl (n+6) "first_level") (ZR [(ZY 2)])) (B:=W9 k ds sw Z8) (S0:=S) (by simp[W9,e1]) U hy;have J:=(Dz.of Z x1).trans (Dz.froze (by lia) kp U d2);have j:Y1 [] .one (λ_=>ret Z7) (PF (cl (n+6))) [Z8,Z9 (.dct ds)] (w.map YP) S2=.ok (w.map λz=>D.bl (decide (z∈A))) S2:=Ub YP (XH _) (λz=>D.bl (decide (z∈A))) _ λz l=>⟨_,rfl,iA _ (by have:=(R.dz J).has Z5 z;rwa[if_neg qB4]at this)⟩
  have t:=IV (n:=S2.length) (λz=>decide (z∈A)) w (Yw _ _);have eb:(w.map λz=>decide (z∈A)).all id=pB (U2 sw [] A):=Pg (by
   rw[qD5];constructor
   .intro h;refine⟨λ_ z l=>?_,λk hk=>by simp at hk⟩;have:=h _ (qB9.mpr ⟨z,(E z).mpr ((M1 sw z).mpr l),rfl⟩);simpa using this
   .rintro h x hx;obtain⟨z,l,rfl⟩:=qB9.mp hx;exact decide_eq_true (h.1 rfl z ((M1 sw z).mp ((E z).mp l))))
  rw[eb]at t;have yl:=UK 256 nd λz l=>R9 W ((E z).mp l);refine⟨_,Y0 rfl (by exact IP _ (CN hk) s (by rw[qA0,XX];lia) j rfl t),J.trans (Dz.of ?_ (YQ _ _))⟩;have:=J.le;lia
 |cons i0 u =>
  have i:=o.hl;obtain⟨ids,f⟩:∃ids,i0::u=ids:=⟨_,rfl⟩
  have d:1<=ids.length:=by rw[<- f];simp
  have G:=hk;rw[f]at hk o i;have M:∀{T:ZX},ZH T k=Z9 (ids.map D.dct)->Zw [.lst k] T=.ok (.int ids.length) T:=λ{T} h=>by rw[NJ h,qA0]
  have lp:=Nz (λp:Nat=>D.int (0+p)) (g:=gN 3) (b:=Th (cl (n+6))) (fun B a=>(∃K,B=W9 k ds sw K)/\Dz b S a) (λa=>Dz b S a) (λ_ S _=>XH S) (λp=>!pB (OY A (ZZ.getD p []) (ZZ.getD (ids.length - 1 - p) []))) (λ_=>.bl Z5) (List.range ((ids.length+1) / 2)) (B:=W9 k ds sw Z8) ⟨⟨_,rfl⟩,Dz.refl _ _⟩ (λp P B a hP=>by
   obtain⟨⟨K,rfl⟩,y⟩:=hP;have hp':=qC9.mp P;refine⟨W9 k ds sw (Z9 (.int (0+p))),a,by simp[W9],?_⟩;have Y:ids[p]?=Z9 (ids.getD p 0):=by simp[qF4,show p<ids.length by lia]
   have Q:ids[ids.length - 1 - p]?=Z9 (ids.getD (ids.length - 1 - p) 0):=by simp[qF4,show ids.length - 1 - p<ids.length by lia]
   obtain⟨r1,a1,a2,a3⟩:=(o.dz y).hd _ _ Y;obtain⟨r2,b1,b2,b3⟩:=(o.dz y).hd _ _ Q;obtain⟨S2,j,V⟩:=iC H.hm (n+5) (R.dz y) a2 b2 a3 b3;have v1:ZZ.getD p []=r1:=by simp[qF4,a1]
   have v2:ZZ.getD (ids.length - 1 - p) []=r2:=by simp[qF4,b1]
   have s:=BW (y.l hk) Y;have N:=BW (y.l hk) Q;rw[show(p:Int)=0+p by lia]at s;rw[show((ids.length - 1 - p:Nat):Int)=(ids.length:Int) - 1 - (0+p) by lia]at N;rw[v1,v2];cases q:pB (OY A r1 r2)with
   |true =>
    rw[q]at j;exact .inr ⟨rfl,_,S2,.inl (IR _ s (M (y.l hk)) N j),⟨_,rfl⟩,y.trans V⟩
   |false =>
    rw[q]at j;exact .inl ⟨rfl,S2,IQ _ s (M (y.l hk)) N j,y.trans V⟩)
  have run:∀{r:RS},YV [] (gN 3) (Th (cl (n+6))) (Y3 0 (((ids.length+1) / 2:Nat):Int).toNat) (W9 k ds sw Z8) S=r->Tf (cl (n+6)) (W9 k ds sw Z8) S=sb r (ZV (ZM (ZW (.bl Z7))) ZL) .mk:=λ{r} e=>IM _ (CN G) (M hk) (by lia) ⟨by lia,by lia⟩ e;rcases lp with⟨p,a,v,F,O⟩| ⟨B',a,v,F,⟨K,rfl⟩,O⟩
  .refine⟨a,?_,O⟩;rw[Xo (λg=>by
    have q:=qR3 v;have m:=qC9.mp (qL6 v);rw[qJ5,qP7]at q;refine q (WE (g.2 p (by rw[<- i];exact m) _ _ ?_ ?_))
    .simp[qF4,show p<ZZ.length by lia]
    .rw[<- i];simp[qF4,show ids.length - 1 - p<ZZ.length by lia])]
   exact Y0 rfl (by rw[X,run F];rfl)
  .refine⟨a,?_,O⟩;rw[WE ⟨λz=>by rw[z]at i;rw[i]at d;simp at d,λp P BB C hB hC=>by
    have q:=qP1.mp v p (qC9.mpr (by rw[i];exact P));rw[qL3,qP2,Re,i]at q;simpa[qF4,hB,hC]using q⟩]
   exact Y0 rfl (by rw[X,run F];rfl)
def VD(sw f:Nat)(S0:ZX):List (List Nat)->yM->Prop
 |_,[]=>True
 |ZZ,d::ZJ=>∃r,Yu sw S0 d r/\f∉r/\U2 sw ZZ r/\VD sw f S0 (ZZ++[r]) ZJ
def IL(sw f:Nat)(S:ZX)(d:D):Prop:=∃ds,d=.tup ds/\VD sw f S [] ds
def IK(S:ZX)(d:D):Prop:=kd S d/\∀ds,d=.tup ds->ds.length<=500/\∀x∈ds,UJ S x
theorem Yu.back(x:Ex S0 S)(hk:UJ S0 d)(h:Yu sw S d zs):Yu sw S0 d zs:=by obtain⟨r,rfl,l,p,b⟩:=h;obtain⟨X,a⟩:=IW hk.1;have:=x.lst a λz=>z;rw[l]at this;cases this;exact⟨r,rfl,a,p,b⟩
theorem BV:∀ys:List Nat,VQ (ys.map λz=>D.tup [YP z,.bl Z7])=Z9 (ys.map λz=>(Yv z,D.bl Z7))
 |[]=>rfl
 |y::ys=>by show(match WT (YP y),VQ (ys.map λz=>D.tup [YP z,.bl Z7])with|some q,Z9 a=>Z9 ((q,D.bl Z7)::a)| _,_=>Z8)=_;rw[BV ys];rfl
theorem iy(h:S[n]?=Z9 (.lst (zs.map λz=>D.tup [YP z,.bl Z7])))(d:zs.length<=1000):∃kvs,US [.lst n] S=.ok (.dct S.length) (S++[.dk kvs])/\Ym (S++[.dk kvs]) S.length zs:=by
 have f:US [.lst n] S=.ok (.dct S.length) (S++[.dk (XF [] (zs.map λz=>(Yv z,D.bl Z7)))]):=by unfold US;dsimp only;rw[h];dsimp only;rw[BV];dsimp only;rw[if_pos (by rw[qA0,XX];lia)]
 obtain⟨b,c,a,_⟩:=Jt (more:=zs.map λz=>(Yv z,D.bl Z7)) (kvs:=[]) (xs:=[]) (by unfold YC;rw[qC7];rfl) rfl;exact⟨_,f,_,b,Pb (by rw[qA1 (qA7 _)];simp),c,λz=>by rw[a];simp⟩
theorem Ym.setl{X Y:yM}(h:Ym S m A)(l:ZH S k=Z9 X):Ym (S.set k (.lst Y)) m A:=by obtain⟨d,f,a,b,c⟩:=h;refine⟨d,f,UN (VI S _) a (λe=>?_),b,c⟩;subst e;rw[Zy,V7 l]at a;cases a
def WR(a td:D)(s:Int)(k:Nat)(b w5:Option D):ZS:=[Z9 a,Z9 td,Z9 (.int s),Z9 (.lst k),b,w5]
theorem iw(c:ZQ)(e:c "is_rising_list" [.int s,d] S=.ok (.bl Z5) S1):V6 c (WR a td s k (Z9 d) w5) S=.rt (.bl Z5) S1:=by simp[V6,WR,e]
theorem iu(c:ZQ){X R:yM}(e:c "is_rising_list" [.int s,.lst r] S=.ok (.bl Z7) a)(h:ZH a r=Z9 X)(n:X.length<lim)(l:Y1 [(r,X)] .one (λ_=>ret Z7) (Rg c) [Z8] X a=.ok R a)(j:a++[.lst R]=d)(b:US [.lst a.length] d=.ok (.dct m) S4)(g:c "number_of" [f] S4=.ok (.int x) S4)(i:YG Z5 (.int x) (.dct m) S4=.ok (.bl Z7) S4):V6 c (WR f td s k (Z9 (.lst r)) w5) S=.rt (.bl Z5) S4:=by simp[V6,WR,e,h,n,l,j,b,g,i]
theorem ir(c:ZQ){X R:yM}(e:c "is_rising_list" [.int s,.lst r] S=.ok (.bl Z7) a)(l:ZH a r=Z9 X)(p:X.length<lim)(o:Y1 [(r,X)] .one (λ_=>ret Z7) (Rg c) [Z8] X a=.ok R a)(n:a++[.lst R]=f)(d:US [.lst a.length] f=.ok (.dct m) b)(h:c "number_of" [g] b=.ok (.int x) b)(i:YG Z5 (.int x) (.dct m) b=.ok (.bl Z5) b)(j:c "goes_on" [.lst k,.dct m,.int s] b=.ok (.bl Z5) S5):V6 c (WR g td s k (Z9 (.lst r)) w5) S=.rt (.bl Z5) S5:=by simp[V6,WR,e,l,p,o,n,d,h,i,j]
theorem IJ(c:ZQ){X R:yM}(e:c "is_rising_list" [.int s,.lst r] S=.ok (.bl Z7) b)(o:ZH b r=Z9 X)(t:X.length<lim)(q:Y1 [(r,X)] .one (λ_=>ret Z7) (Rg c) [Z8] X b=.ok R b)(p:b++[.lst R]=j)(f:US [.lst b.length] j=.ok (.dct m) d)(l:c "number_of" [g] d=.ok (.int x) d)(i:YG Z5 (.int x) (.dct m) d=.ok (.bl Z5) d)(n:c "goes_on" [.lst k,.dct m,.int s] d=.ok (.bl Z7) h)(ty:Yq "list" (.lst k) h=Z7)(a:Ye Xr (.lst k) [.dct m] h=.ok .non S6):V6 c (WR g td s k (Z9 (.lst r)) w5) S=.nx (WR g td s k (Z9 (.lst r)) (Z9 (.dct m))) S6:=by simp[V6,WR,e,o,t,q,p,f,l,i,n,ty,a]
theorem iq(c:ZQ)(h:c "number_of" [d] S=.ok (.int z) S):Rg c [Z9 d] S=.ok (.tup [.int z,.bl Z7]) S:=by simp[Rg,h]
structure II(cl:Nat->ZQ):Prop extends HGo cl where
 rl:C8 cl
 fn:HB cl
 so:Nj cl
 ip:ny cl
theorem BU(H:II cl)(n:Nat){sw k:Nat}(u:1<=sw)(m:sw<=3){bs:List Bool}{S0:ZX}(kb:S0.length<=k)(td:D):∀(ZJ:yM) (ZZ:List (List Nat)) (ids:List Nat) (w4 w5:Option D) (S:ZX),(∀d∈ZJ,UJ S0 d)->ZZ.length+ZJ.length<=500->ZH S k=Z9 (ids.map D.dct)->Q4 S0.length S ids ZZ->Ex S0 S ->
  (¬VD sw (ZK 0 bs) S0 ZZ ZJ/\∃S',YV [] (gN 4) (V6 (cl (n+7))) ZJ (WR (Zr bs) td (sw:Nat) k w4 w5) S=.rt (.bl Z5) S'/\Ex S0 S')∨(VD sw (ZK 0 bs) S0 ZZ ZJ/\∃M S',YV [] (gN 4) (V6 (cl (n+7))) ZJ (WR (Zr bs) td (sw:Nat) k w4 w5) S=.nx M S'/\Ex S0 S')
 |[],ZZ,ids,w4,w5,S,_,_,_,_,x=>.inr ⟨trivial,_,S,by unfold YV;rw[if_pos (XH S)],x⟩
 |d::ZJ,ZZ,ids,w4,w5,S,hn,hz,hk,hr,x=>by
  have Y:=hn d (by simp);have g:gN 4 d (WR (Zr bs) td sw k w4 w5) S=.ok (WR (Zr bs) td sw k (Z9 d) w5) S:=by simp[WR]
  obtain⟨L,v,B⟩:=iE H.rl H.fn (n+3) u m (Y.ex x);by_cases b:∃zs,Yu sw S d zs
  .obtain⟨zs,b⟩:=b;have c:=b.back x Y;rw[WE ⟨zs,b⟩]at v;obtain⟨r,rfl,l,up,W⟩:=id b;have K:=B.lst l λz=>z;have zl:zs.length<=256:=by have:=B3 up W;have:=Q7 m;lia
   have T:=Ub (XU sw) (t:=.one) (B0:=[Z8]) (U6 K) (λz=>D.tup [YP z,.bl Z7]) _ λz hz=>⟨_,rfl,by
    have:=O8 H.no (n+6) (XD sw z) L;rw[R6 u m (W z hz)]at this;exact iq _ this⟩
   obtain⟨S3,C⟩:∃S3,L++[O.lst (zs.map λz=>D.tup [YP z,.bl Z7])]=S3:=⟨_,rfl⟩
   have x3:=C▸YQ _ _;obtain⟨U,F,dr⟩:=iy (S:=S3) (zs:=zs) (by rw[<- C,qA1 (qA7 _)];simp) (by lia);obtain⟨S4,X⟩:∃S4,S3++[O.dk U]=S4:=⟨_,rfl⟩
   rw[X]at F dr;have x4:=X▸YQ _ _;have y:=x3.trans x4;have f:=(x.trans B).trans y;have Q:(zs.map (XU sw)).length<lim:=by rw[qA0,XX];lia
   have N:=O8 H.no (n+6) bs S4;have i:=dr.has Z5 (ZK 0 bs);by_cases G:ZK 0 bs∈zs
   .rw[decide_eq_true G]at i;refine .inl ⟨λ⟨w,p,P,_⟩=>P ?_,S4,?_,f⟩
    .rw[p.uniq u m c];exact G
    .unfold YV;rw[if_pos (XH S),g];dsimp only;rw[iu _ v K Q T C F N i]
   .rw[decide_eq_false G]at i;have e:=Dz.of x.le (B.trans y);obtain⟨S5,J,E⟩:=iz H.toHGo n u m f.le (e.l hk) (hr.dz e) dr (by have:=hz;lia);have s:Ex S0 S5:=⟨qD4 f.le E.le,λj h q=>(E.eq j h).trans (f.eq j h q)⟩
    by_cases I:U2 sw ZZ zs
    .rw[WE I]at J;have A:=E.l (e.l hk);have zl2:=by simpa using hz
     have a:Ye Xr (.lst k) [.dct S3.length] S5=.ok .non (S5.set k (.lst (ids.map D.dct++[.dct S3.length]))):=by rw[Sq A,Rq,if_pos (by rw[qA0,hr.hl,XX];lia)]
     have R:Ex S0 (S5.set k (.lst (ids.map D.dct++[.dct S3.length]))):=⟨by rw[qJ2];exact s.le,λj h q=>by rw[qE5 (by lia)];exact s.eq j h q⟩
     have k6:ZH (S5.set k (.lst (ids.map D.dct++[.dct S3.length]))) k=Z9 ((ids++[S3.length]).map D.dct):=by rw[UQ A,qD7];rfl
     have r6:Q4 S0.length (S5.set k (.lst (ids.map D.dct++[.dct S3.length]))) (ids++[S3.length]) (ZZ++[zs]):=by
      refine⟨by simp[hr.hl],λi id o=>?_⟩;by_cases q:i<ids.length
      .rw[qA8 q]at o;obtain⟨w,a1,a2,a3⟩:=((hr.dz e).dz E).hd i id o;exact⟨w,by rw[qA8 (by rw[<- hr.hl];exact q)];exact a1,a2.setl A,a3⟩
      .rw[qA1 (by lia)]at o;have V:=by have:=(qA4.mp o).1;simp at this;omega
       rw[V]at o;simp at o;subst o;refine⟨zs,by rw[qA1 (by rw[<- hr.hl];lia),<- hr.hl,V];rfl,(dr.dz E).setl A,?_⟩;have:=(x.trans (B.trans x3)).le
       lia
     have st:=IJ (cl (n+7)) (td:=td) (w5:=w5) v K Q T C F N i J (Tj A) a;have un:YV [] (gN 4) (V6 (cl (n+7))) (D.lst r::ZJ) (WR (Zr bs) td sw k w4 w5) S=YV [] (gN 4) (V6 (cl (n+7))) ZJ (WR (Zr bs) td sw k (Z9 (.lst r)) (Z9 (.dct S3.length))) (S5.set k (.lst (ids.map D.dct++[.dct S3.length]))):=by
      conv=>lhs;unfold YV
      rw[if_pos (XH S),g];dsimp only;rw[st]
     rw[un];rcases BU H n u m kb td ZJ (ZZ++[zs]) (ids++[S3.length]) (Z9 (.lst r)) (Z9 (.dct S3.length)) _ (λd hd=>hn d (by simp[hd])) (by rw[qC2,qR4];lia) k6 r6 R with⟨q,S',e',x'⟩| ⟨q,M,S',e',x'⟩
     .refine .inl ⟨λ⟨w,p,P,Z,q4⟩=>q ?_,S',e',x'⟩;rw[<- p.uniq u m c];exact q4
     .exact .inr ⟨⟨zs,c,G,I,q⟩,M,S',e',x'⟩
    .rw[Xo I]at J;refine .inl ⟨λ⟨w,p,P,Z,_⟩=>I ?_,S5,?_,s⟩
     .rw[<- p.uniq u m c];exact Z
     .unfold YV;rw[if_pos (XH S),g];dsimp only;rw[ir _ v K Q T C F N i J]
  .rw[Xo b]at v;refine .inl ⟨λ⟨w,p,_⟩=>b ⟨w,p.ex x⟩,L,?_,x.trans B⟩;unfold YV;rw[if_pos (XH S),g];dsimp only;rw[iw _ v]
theorem il(c:ZQ)(i:YJ [d,.ty "tuple"] S=.ok (.bl Z5) S):Si c [Z9 a,Z9 d,Z8,Z8,Z8,Z8] S=.rt (.bl Z5) S:=by simp[Si,i]
theorem BS(c:ZQ)(e:c "switches_of" [a] S=.ok (.int s) S)(g:S.length=k)(f:S++[.lst []]=b)(d:YV [] (gN 4) (V6 c) ds (WR a (.tup ds) s k Z8 Z8) b=r):Si c [Z9 a,Z9 (.tup ds),Z8,Z8,Z8,Z8] S=sb r (ZV (ZM (ZW (.bl Z7))) ZL) .mk:=by unfold WR at d;simp[Si,e,g,f,d]
theorem BR(H:II cl)(n:Nat)(j:1<=sw)(f:sw<=3)(k:bs.length=2 ^ sw)(hk:IK S d):VJ (cl (n+8) "is_paper" [Zr bs,d] S) (.bl (pB (IL sw (ZK 0 bs) S d))) S:=by
 have i:=CP hk.1;rw[show n+8=(n+7)+1 from rfl,H.ip];cases d with
 |tup ds =>
  obtain⟨l,g⟩:=hk.2 ds rfl;have e:=Cd H.so (n+6) (by lia) k S;obtain⟨S1,a⟩:∃S1,S++[O.lst []]=S1:=⟨_,rfl⟩
  have c:=a▸YQ _ _;rcases BU H n j f (qA7 _) (.tup ds) ds [] [] Z8 Z8 S1 g (by simpa using l) (by rw[<- a];exact Yw _ _) ⟨rfl,λi id h=>by simp at h⟩ c with⟨q,S',e',x'⟩| ⟨q,B',S',e',x'⟩
  .refine⟨S',?_,x'⟩;rw[Xo (λ⟨b,e,p⟩=>by cases e;exact q p)];exact Y0 rfl (by rw[show Yn 6 [Zr bs,.tup ds]=[Z9 (Zr bs),Z9 (.tup ds),Z8,Z8,Z8,Z8]from rfl,BS _ e rfl a e'];rfl)
  .refine⟨S',?_,x'⟩;rw[WE ⟨ds,rfl,q⟩];exact Y0 rfl (by rw[show Yn 6 [Zr bs,.tup ds]=[Z9 (Zr bs),Z9 (.tup ds),Z8,Z8,Z8,Z8]from rfl,BS _ e rfl a e'];rfl)
 |_ =>
  refine⟨S,Y0 rfl ?_,Kp.refl _ _⟩;rw[Xo (λ⟨b,e,_⟩=>by cases e)];exact il _ i
structure BQ(cl:Nat->ZQ):Prop extends HLv cl where
 fw:JR cl
 pa:nv cl
theorem ik(c:ZQ){X Y:yM}{S d j h g S5:ZX}(o:S.length=i)(l:S++[.lst []]=d)(hk:d.length=b)(n:d++[.lst []]=j)(m:c "levels_to" [a] j=.ok (.lst k) h)(r:VU (.lst k) Z8 (Z9 (-1)) h=.ok (.lst f) g)(p:ZH g f=Z9 X)
  (q:YV [(f,X)] (gN 3) (Rf c) X [Z9 a,Z9 (.lst i),Z9 (.lst b),Z8] g=.nx [Z9 a,Z9 (.lst e),Z9 (.lst b),w] S5) (t:Ya [.lst b] S5=.ok (.tup Y) S5):PD c [Z9 a,Z8,Z8,Z8] S=.rt (.tup Y) S5:=by simp[PD,o,l,hk,n,m,r,p,q,t]
theorem ij{α:Type}(l:yM)(h:1<=l.length):XO l Z8 (Z9 (-1))=l.take (l.length - 1):=by
 unfold XO HT.sIx;simp
 lia
inductive IH(sw ix:Nat)(S0:ZX)(rs:List Nat)(S:ZX):Prop
 |mk (hl:rs.length=ix) (hr:∀i r,rs[i]?=Z9 r->ZH S r=Z9 (T5 sw i)/\S0.length<=r) (rnd:rs.Nodup) (x:Ex S0 S)
theorem ig(H:BQ cl)(n:Nat)(C:1<=sw)(J:sw<=3)(F:bs.length=2 ^ sw)(T:ZK 0 bs∈lv sw ix)(hi:ix<=800)(S:ZX):∃rs S1,cl (n+8) "paper_of" [Zr bs] S=.ok (.tup (rs.map D.lst)) S1/\IH sw ix S rs S1:=by
 obtain⟨kk,q⟩:∃kk,S.length=kk:=⟨_,rfl⟩
 obtain⟨S1,l⟩:∃S1,S++[O.lst []]=S1:=⟨_,rfl⟩
 obtain⟨kt,hk⟩:∃kt,S1.length=kt:=⟨_,rfl⟩
 obtain⟨S2,o⟩:∃S2,S1++[O.lst []]=S2:=⟨_,rfl⟩
 have x1:=l▸YQ _ _;have L:=o▸YQ _ _;have l1:S1.length=kk+1:=by rw[<- l,<- q];simp
 have l2:S2.length=kt+1:=by rw[<- o,<- hk];simp
 obtain⟨k,A,e3,a,V,N,lvs,U,kg,G⟩:=Jf H.toHLv n C J F T hi S2;have y:=DC N Z8 (Z9 (-1));rw[ij (α:=Nat) _ (by rw[qA0];lia),qA0,<- List.map_take,V,qS9]at y;obtain⟨S4,p⟩:∃S4,A++[O.lst ((a.take ix).map D.dct)]=S4:=⟨_,rfl⟩
 have I:=p▸YQ _ _;rw[p]at y;have E:ZH S4 A.length=Z9 ((a.take ix).map D.dct):=by rw[<- p];exact Yw _ _
 have e:=G.trans I;have W:ZH S4 kk=Z9 (([]).map YP):=e.lst (L.lst (by rw[<- l,<- q];exact Yw _ _) λz=>z) λz=>z;have Z:ZH S4 kt=Z9 (([]).map D.lst):=e.lst (by rw[<- o,<- hk];exact Yw _ _) λz=>z;have g3:=by have:=G.le;omega
 have v:((a.take ix).map D.dct).length=ix:=by rw[qA0,qF7];lia
 obtain⟨B5,S5,e6,⟨c,w,rfl,⟨ks,_,_,_,rs,K,R,X,u,xx⟩⟩,kp⟩:=Uc (b:=Rf (cl (n+7))) (P:=λj B m=>(∃c w,B=Td (Zr bs) c kt w/\I0 sw S kt j c m)/\Kp (·=kt) S4 m) (λj B m s=>U6 (s.2.lst E (by omega))) ⟨⟨kk,Z8,rfl,[],W,.nil,λz=>by simp,[],rfl,Z,λi r h=>by simp at h,.nil,(x1.trans L).trans e⟩,Kp.refl _ _⟩ (λj d B m g hP=>by
  obtain⟨⟨c,w,rfl,s⟩,kp⟩:=hP;rw[qB1]at g;cases f:(a.take ix)[j]? with
  |none=>rw[f]at g;cases g
  |some id =>
   rw[f]at g;cases g;have t:j<ix:=by have:=(qA4.mp f).1;rw[qF7]at this;lia
   rw[qP8 t]at f;have gi:=U id (qB5 f);obtain⟨B1,Q,a1,B2,S7,Y,x,M,a4,a5⟩:=iO H.fw (n+6) C J F (by lia) (by lia) s (((lvs j id f).kp I λz=>z).kp kp (by lia)) w;exact⟨B1,Q,a1,B2,S7,Y,⟨x,_,M,a4⟩,kp.trans a5⟩)
 rw[v]at K;refine⟨rs,S5,?_,K,X,u,xx⟩;rw[H.pa];exact Y0 rfl (ik _ q l hk o e3 y E e6 (Ug R))
theorem IG(c:ZQ):PC c [Z9 a,Z9 (.int z),Z9 d] S=.nx [Z9 a,Z9 (.int (z*2)),Z9 d] S:=by
 have:Wo z 2=Z7:=by simp[Wo]
 simp[PC,this]
theorem ie(c:ZQ){X:yM}(b:c "settings" [.int s] S=.ok (.lst k) S1)(a:ZH S1 k=Z9 X)(d:YV [(k,X)] (gN 2) (PC c) X [Z9 (.int s),Z9 (.int 1),Z8] S1=.nx [Z9 (.int s),Z9 (.int z),w] S1):PB c [Z9 (.int s),Z8,Z8] S=.rt (.int z) S1:=by simp[PB,b,a,d]
theorem ic(h:C6 cl)(hs:Rm cl)(n:Nat)(q:1<=sw)(s:sw<=3)(S:ZX):VJ (cl (n+2) "how_many_functions" [.int (sw:Nat)] S) (.int (NN sw:Nat)) S:=by
 obtain⟨k,i,f,o,_,c⟩:=M7 hs n (sw:=sw) (by omega) (by omega) S;obtain⟨p,a,e,⟨w,rfl⟩,rfl⟩:=Uc (items:=(ZD sw).map Zi) (w:=[(k,(ZD sw).map Zi)]) (g:=gN 2) (b:=PC (cl (n+1))) (P:=λj B a=>(∃w,B=[Z9 (.int sw),Z9 (.int ((2 ^ j:Nat):Int)),w])/\a=i) (λj B a l=>U6 (l.2▸c)) ⟨⟨_,rfl⟩,rfl⟩ (λj d B a r m=>by
  obtain⟨⟨w,rfl⟩,rfl⟩:=m;refine⟨_,a,rfl,_,a,.inl (IG _),⟨Z9 d,?_⟩,rfl⟩;rw[show((2 ^ (j+1):Nat):Int)=((2 ^ j:Nat):Int)*2 by rw[qO5];simp])
 rw[qA0,U5]at e;refine⟨a,?_,o⟩;rw[h];exact Y0 rfl (ie _ f c e)
open Classical in
def ln(sw i:Nat):Nat:=((List.range (NN sw)).filter λz=>decide (z∈lv sw i)).length
open Classical in
theorem BO{xs:List Nat}(a:xs.Nodup)(h:∀z,z∈xs↔z∈lv sw i):xs.length=ln sw i:=by refine List.Perm.length_eq ((qI8 a (qL2.filter _)).mpr λz=>?_);rw[qF1,qC9,decide_eq_true_eq,h];exact⟨λq=>⟨Vv sw i q,q⟩,λq=>q.2⟩
open Classical in
theorem IF(sw:Nat):∀j,((List.range (j+1)).map (ln sw)).sum=(KL sw j).length
 |0=>by show ln sw 0+0=_;refine(BO ((R5 sw 0).imp λh=>qB7 h) λz=>?_).symm;rw[V4];exact⟨λ⟨i,c,h⟩=>(show i=0 by omega)▸h,λh=>⟨0,qA7 _,h⟩⟩
 |j+1=>by
  rw[qR1,qD7,qV0,IF sw j];have k:(KL sw j++(List.range (NN sw)).filter λz=>decide (z∈lv sw (j+1))).Nodup:=qG0.mpr ⟨(R5 sw j).imp λh=>qB7 h,qL2.filter _,λa g b d e=>by
   subst e;obtain⟨i,c,h⟩:=V4.mp g;rw[qF1,decide_eq_true_eq]at d;have:=Pd sw h d.2;omega⟩
  have f:=(qI8 k ((R5 sw (j+1)).imp λh=>qB7 h)).mpr λz=>by
   rw[qC0,V4,V4,qF1,qC9,decide_eq_true_eq];constructor
   .rintro(⟨i,c,h⟩| ⟨_,h⟩)
    .exact⟨i,by omega,h⟩
    .exact⟨j+1,by omega,h⟩
   .rintro⟨i,c,h⟩;by_cases e:i=j+1
    .subst e;exact .inr ⟨Vv sw _ h,h⟩
    .exact .inl ⟨i,by omega,h⟩
  rw[<- f.length_eq,qC2];simp[ln]
theorem IE:NN sw<=(KL sw j).length↔VE sw (j+1):=by
 constructor
 .intro h x a;obtain⟨i,c,q⟩:=V4.mp (i7 ((R5 sw j).imp λh=>qB7 h) (λz b=>by obtain⟨i,_,q⟩:=V4.mp b;exact Vv sw i q) (by omega) a);exact⟨i,by omega,q⟩
 .intro h;have:=I7 (m:=KL sw j) qL2 λx a=>by obtain⟨i,c,q⟩:=h x (qC9.mp a);exact V4.mpr ⟨i,by omega,q⟩
  rwa[qD2]at this
theorem h8(h:Zy S m=Z9 kvs):Zw [.dct m] S=.ok (.int (kvs.length:Nat)) S:=by
 unfold Zy at h;unfold Zw;dsimp only;split at h
 .cases h;first|rfl|rw[e]
 .cases h;first|rfl|rw[e]
 .cases h
def T4(sw:Nat)(n:Nat):yM:=(List.range n).map λi=>D.int (ln sw i:Nat)
theorem BN(g:∀id len S,Zw [.dct id] S=.ok (.int len) S->c ((B0.set 0 (Z9 (.dct id)))) S=.ok (.int len) S)(hk:ZH S k=Z9 (a.map D.dct))(lvs:Q8 sw S a):Y1 [(k,a.map D.dct)] .one (λ_=>ret Z7) c B0 (a.map D.dct) S=.ok (T4 sw a.length) S:=by
 have f:a.map D.dct=(List.range a.length).map λi=>D.dct (a.getD i 0):=by
  refine qT5 λi=>?_;by_cases h:i<a.length
  .rw[qB1,qB1,qI2 h];simp[qF4,h]
  .simp_all
 have w:=U6 hk;rw[f]at w ⊢;refine Ub (λi:Nat=>D.dct (a.getD i 0)) w _ _ λi j=>⟨_,rfl,?_⟩
 have b:=qC9.mp j;obtain⟨n,o,d,m,l,e,_⟩:=lvs i (a.getD i 0) (by simp[qF4,b]);refine g _ _ _ ?_;rw[h8 d,Pc m,BO e l]
theorem BM(a:sw<=3):ln sw i<=256:=qD4 (qJ1 ..) (by rw[qD2];exact Q7 a)
abbrev ID(c:ZQ):CT:=Zj (ZU V8 (ZT X4 (ZR [(XY (Zv (ZY 1)) 1 [] .one (λ_=>ret Z7) (Pz c))])) (ZT (c "how_many_functions") (ZR [(ZY 0)])))
theorem h7(c:ZQ){X R:yM}(l:ZH S k=Z9 X)(j:X.length<lim)(g:Y1 [(k,X)] .one (λ_=>ret Z7) (Pz c) [Z8] X S=.ok R S)(f:S++[.lst R]=d)(i:X4 [.lst S.length] d=.ok (.int a) d)(h:c "how_many_functions" [e] d=.ok (.int b) S2):ID c [Z9 e,Z9 (.lst k)] S=.ok (decide (a<b)) S2:=by simp_all
theorem hY(c:ZQ){X:yM}(ty:Yq "list" (.lst k) S=Z7)(d:c "further_level" [.lst k] S=.ok (.dct L) a)(e:Ye Xr (.lst k) [.dct L] a=.ok .non (a.set k (.lst X))):Py c [Z9 b,Z9 (.lst k)] S=.nx [Z9 b,Z9 (.lst k)] (a.set k (.lst X)):=by simp[Py,ty,d,e]
theorem hU(c:ZQ){X R:yM}(g:c "first_level" [b] S=.ok (.dct L) d)(hk:d.length=k)(h:d++[.lst [.dct L]]=e)(i:Wg U7 (ID c) (Py c) [Z9 b,Z9 (.lst k)] e=.nx [Z9 b,Z9 (.lst k)] a)(l:ZH a k=Z9 X)(m:X.length<lim)(j:Y1 [(k,X)] .one (λ_=>ret Z7) (Nd c) [Z8] X a=.ok R a)(f:a++[.lst R]=S4):Px c [Z9 b,Z8] S=.rt (.lst a.length) S4:=by simp[Px,g,hk,h,i,l,m,j,f]
theorem hJ(s:PN cl)(hm:Sk cl)(n:Nat)(u:sw<=3)(y:j<=900)(h:Wc sw S0 k j S):∃L a X,Yq "list" (.lst k) S=Z7/\cl (n+2) "further_level" [.lst k] S=.ok (.dct L) a/\Ye Xr (.lst k) [.dct L] a=.ok .non (a.set k (.lst X))/\Wc sw S0 k (j+1) (a.set k (.lst X)):=by
 obtain⟨ids,l,hk,lvs,d,w,x⟩:=h;obtain⟨L,a,r,C,kp,f,_⟩:=Ci s hm n u (by omega) (by omega) l hk lvs;have c:k∉ids:=λq=>by obtain⟨i,d⟩:=qE8 q;obtain⟨B,A,o,_⟩:=lvs i k d;rw[Zy,V7 hk]at o;cases o
 have p:=kp.lst hk c;have t:=Ud hk;have v:Ye Xr (.lst k) [.dct L] a=.ok .non (a.set k (.lst (ids.map D.dct++[.dct L]))):=by rw[Sq p,Rq,if_pos (by rw[qA0,l,XX];omega)]
 refine⟨L,a,_,Tj hk,r,v,ids++[L],by simp[l],?_,λi id b=>(f i id b).kp (VI a _) (λe=>?_),λi g=>?_,w,⟨?_,λi m _=>?_⟩⟩
 .rw[UQ p,qD7];rfl
 .subst e;rcases qC0.mp (qB5 b)with q|q
  .exact c q
  .simp at q;omega
 .rcases qC0.mp g with q|q
  .exact d i q
  .simp at q;omega
 .rw[qJ2];have:=kp.le;omega
 .rw[qE5 (by omega),kp.eq i (by omega) (λq=>by have:=d i q;omega),x.eq i m (λz=>z)]
theorem Wc.ex(h:Wc sw S0 k j S)(x:Ex S S1):Wc sw S0 k j S1:=by obtain⟨a,d,hk,lvs,c,e,b⟩:=h;exact⟨a,d,x.lst hk λz=>z,λi id q=>(lvs i id q).kp x λz=>z,c,e,b.trans x⟩
structure IC(cl:Nat->ZQ):Prop where
 lv:HLv cl
 hm:C6 cl
 fm:nu cl
theorem hI(H:IC cl)(n:Nat)(C:1<=sw)(v:sw<=3)(m1:1<=m)(m9:m<=900)(s:VE sw m)(N:∀j,1<=j->j<m->¬VE sw j)(S:ZX):∃r f,cl (n+7) "fewest_many" [.int (sw:Nat)] S=.ok (.lst r) f/\S.length<=r/\Ex S f/\ZH f r=Z9 (T4 sw m):=by
 obtain⟨L,f,R,hL,I,Y⟩:=Jg H.lv.fl H.lv.tf H.lv.no n C v S;obtain⟨k,hk⟩:∃k,f.length=k:=⟨_,rfl⟩
 obtain⟨S2,u⟩:∃S2,f++[O.lst [.dct L]]=S2:=⟨_,rfl⟩
 have M:=u▸YQ f _;have k2:ZH S2 k=Z9 ([L].map D.dct):=by rw[<- u,<- hk];exact Yw _ _
 have st:Wc sw S k 0 S2:=by
  refine⟨[L],rfl,k2,λi id h=>?_,λi h=>?_,by have:=I.le;omega,I.trans M⟩
  .have:=by have:=(qA4.mp h).1;simp at this;omega
   subst this;simp at h;subst h;exact Y.kp M λz=>z
  .simp at h;omega
 obtain⟨B',A,e3,rfl,q⟩:=NC (t:=ID (cl (n+6))) (b:=Py (cl (n+6))) (P:=λp B d=>B=[Z9 (.int sw),Z9 (.lst k)]/\∃j,Wc sw S k j d/\j+1<=m/\p=m - 1 - j) (Q:=fun B d=>B=[Z9 (.int sw),Z9 (.lst k)]/\Wc sw S k (m - 1) d) (λp B d h=>by
  obtain⟨rfl,j,w,u,rfl⟩:=h;have x:=w;obtain⟨y,o,g,lvs,_⟩:=x;have E:=BN (c:=Pz (cl (n+6))) (B0:=[Z8]) (λid len S e=>by simp[Pz,e]) g lvs;rw[o]at E;have V:T4 sw (j+1)=((List.range (j+1)).map λi=>((ln sw i):Int)).map D.int:=by rw[qC7];rfl
  have e5:X4 [.lst d.length] (d++[O.lst (T4 sw (j+1))])=.ok (.int ((KL sw j).length:Nat)) (d++[O.lst (T4 sw (j+1))]):=by
   rw[Dr (by rw[<- V];exact Yw _ _) (λi T=>by
    obtain⟨q,_,rfl⟩:=qB9.mp T;have:=BM (i:=q) v;omega) (by rw[qA0,qD2];omega),<- IF sw j]
   congr 2;generalize List.range (j+1)=l
   induction l with
   |nil=>rfl
   |cons a l U=>simp[U]
  obtain⟨K,e6,W⟩:=ic H.hm H.lv.tf.f.se (n+4) C v (d++[O.lst (T4 sw (j+1))]);have t:=h7 (cl (n+6)) g (by rw[qA0,o,XX];omega) E rfl e5 e6;have J:=(YQ d [O.lst (T4 sw (j+1))]).trans W;by_cases e:j+1=m
  .refine .inl ⟨K,?_,rfl,?_⟩
   .rw[t,decide_eq_false];have:=IE.mpr (e▸s);omega
   .rw[show m - 1=j by omega];exact w.ex J
  .obtain⟨L',S6,X,b1,b2,Z,b4⟩:=hJ H.lv.fu H.lv.am (n+4) v (by omega) (w.ex J);refine .inr ⟨K,?_,_,_,.inl (hY _ b1 b2 Z),m - 1 - (j+1),by omega,rfl,j+1,b4,by omega,rfl⟩;rw[t,decide_eq_true];have:¬NN sw<=(KL sw j).length:=λh=>N (j+1) (by omega) (by omega) (IE.mp h);omega) U7 (m - 1) [Z9 (.int sw),Z9 (.lst k)] S2 (by show m - 1<100000;omega) ⟨rfl,0,st,by omega,by omega⟩
 obtain⟨y,o,g,lvs,_,kn,G⟩:=q;have F:=BN (c:=Nd (cl (n+6))) (B0:=[Z8]) (λid len S e=>by simp[Nd,e]) g lvs;rw[o,show m - 1+1=m by omega]at F;refine⟨A.length,A++[O.lst (T4 sw m)],?_,G.le,G.trans (YQ _ _),Yw _ _⟩;rw[H.fm];exact Y0 rfl (hU _ R hk u e3 g (by rw[qA0,o,XX];omega) F rfl)
theorem hG(bs:List Bool):Xb (YR bs)=Z9 (bs.map b1):=by
 have:YR bs=(bs.map b1).map D.int:=by rw[qC7];rfl
 rw[this,P8]
theorem hD(sw j:Nat):U2 sw ((List.range j).map (KL sw)) (KL sw j):=by
 refine⟨λ_ z a=>V4.mpr (kH (kG a) (qE6 j)),λk hk A f d b=>?_⟩;rw[qA0,qD2]at hk b;rw[qB1,qI2 (by lia)]at d b;cases d;cases b;intro x c z a;rw[V4]at c a;have e:k+(j - 1 - k)+1=j:=by lia
 exact⟨V4.mpr (e▸CC c a (.inl rfl)),V4.mpr (e▸CC c a (.inr rfl))⟩
theorem BL{rs:List Nat}(d:∀i r,rs[i]?=Z9 r->Yu sw S (.lst r) (KL sw i))(b:∀i,i<rs.length->f∉KL sw i):∀(ZJ:List Nat) (j:Nat),rs.drop j=ZJ->VD sw f S ((List.range j).map (KL sw)) (ZJ.map D.lst)
 |[],j,_=>trivial
 |r::ZJ,j,e=>by
  have a:rs[j]?=Z9 r:=by have:=congrArg (λl=>l[0]?) e;simpa using this
  have c:=BL d b ZJ (j+1) (by
   have:=congrArg (λl=>l.drop 1) e;simpa[qO9]using this)
  rw[qR1,qD7]at c;exact⟨KL sw j,d j r a,b j (qA4.mp a).1,hD sw j,c⟩
theorem BK:∀(ds:yM) (ZZ:List (List Nat)),VD sw f S ZZ (ds++[d])->∃r,Yu sw S d r/\f∉r
 |[],ZZ,⟨r,h,n,_,_⟩=>⟨r,h,n⟩
 |_::ds,ZZ,⟨_,_,_,_,h⟩=>BK ds _ h
theorem g0(c:f∈lv sw a)(hi:i<a):f∉KL sw i:=λh=>by
 obtain⟨j,d,b⟩:=V4.mp h;have:=Pd sw c b
 lia
theorem gY(h:ZH S r=Z9 (T5 sw i)):Yu sw S (.lst r) (KL sw i) :=
 ⟨r,rfl,h,R5 sw i,λz a=>qC9.mp (qF1.mp a).1⟩
def MP:yM->M D:=λb S=>match b with
 |[.lst n]=>match (ZH S n).bind Tu with
  |some a=>if a.length<=300 then .ok (.lst S.length) (S++[.lst ((Up (X5 a)).map L2.tD)])else .bad
  |none=>.bad
 |_=>.bad
theorem gz(a:CA)(B:ZS)(S:ZX):NW a B S=Zx (a B S) MP .mk:=rfl
theorem BJ:∀l:List (List Bool),Tu (l.map Zr)=Z9 (l.map λbs=>bs.map b1)
 |[]=>rfl
 |bs::l=>by show(match Xb (YR bs),Tu (l.map Zr)with|some b,Z9 a=>Z9 (b::a)| _,_=>Z8)=_;rw[hG,BJ l];rfl
theorem gy:r∈YE l k↔r∈l∨r=k:=by
 unfold YE;split
 .exact⟨.inl,λh=>h.elim id λe=>by rw[e];assumption⟩
 .rw[qB0];exact or_comm
theorem BI:∀(l z:List (yA)) {r:yA},r∈l.foldl YE z↔r∈z∨r∈l
 |[],z,r=>by simp
 |k::l,z,r=>by rw[qK8,BI l,gy,qB0,or_assoc]
theorem BH:∀(l z:List (yA)),(l.foldl YE z).length<=z.length+l.length
 |[],z=>by simp
 |k::l,z=>by
  rw[qK8];refine qD4 (BH l _) ?_;have:(YE z k).length<=z.length+1:=by unfold YE;split<;>simp
  rw[qD3];lia
theorem gx{l:List (List Bool)}(h:ZH S n=Z9 (l.map Zr))(a:l.length<=300):∃ys:List (yA),MP [.lst n] S=.ok (.lst S.length) (S++[.lst (ys.map L2.tD)])/\ys.length<=300/\∀r,r∈ys↔r∈l.map λbs=>bs.map b1:=by
 refine⟨Up (X5 (l.map λbs=>bs.map b1)),?_,?_,λr=>?_⟩
 .unfold MP;dsimp only;rw[h,qL4,BJ];dsimp only;rw[if_pos (by rw[qA0];exact a)]
 .rw[(NZ _).length_eq];have:=BH (l.map λbs=>bs.map b1) [];unfold X5;simp at this
  lia
 .rw[(NZ _).mem_iff];unfold X5;rw[BI];simp
theorem gw(bs:List Bool):L2.tD (bs.map b1)=Zr bs:=by rw[<- O9];rfl
theorem gv(i:sw<=3){l:List (List Bool)}(h:ZH S r=Z9 (l.map Zr))(j:l.length<=600)(g:∀bs∈l,bs.length=2 ^ sw):UJ S (.lst r):=by refine⟨JD (by rw[h];rfl),λq X e d=>?_⟩;cases e;rw[h]at d;cases d;refine⟨by rw[qA0];lia,λx f=>?_⟩;obtain⟨bs,a,rfl⟩:=qB9.mp f;refine⟨⟨_,rfl⟩,λk e=>?_⟩;cases e;have:2 ^ sw<=2 ^ 3:=qG1 (by decide) i;refine⟨by unfold YR;rw[qA0,g bs a];lia,λy c=>?_⟩;unfold YR at c;obtain⟨b,_,rfl⟩:=qB9.mp c;exact⟨_,rfl⟩
theorem gu{T:yM}(e:T≠[])(h:T.mapM (Zg 39 S)=Z9 ps):XI (.tup T) (.tup []) S=.ok (.bl Z5) S:=by
 have c:Zg 40 S (.tup T)=Z9 (.tuple ps):=by show(T.mapM (Zg 39 S)).map PyData.tuple=_;rw[h];rfl
 have d:Zg 40 S (.tup [])=Z9 (.tuple []):=rfl;unfold XI;dsimp only;rw[c,d];dsimp only;cases ps with
 |nil =>
  cases T with
  |nil=>exact absurd rfl e
  |cons a T =>
   rw[qI7]at h;cases q:Zg 39 S a with
   |none=>rw[q]at h;cases h
   |some p =>
    rw[q]at h;cases b:T.mapM (Zg 39 S)with
    |none=>rw[b]at h;cases h
    |some f=>rw[b]at h;cases h
 |cons p ps=>rfl
theorem gr(c:ZQ)(e:c "paper_of" [a] S=.ok (.tup []) b)(f:c "is_paper" [a,.tup []] b=.ok (.bl Z7) S2)(d:0=L - 1):Sh c [Z9 a,Z9 (.int L),Z8] S=.rt (.bl Z7) S2:=by have q:XI (.tup []) (.tup []) S2=.ok (.bl Z7) S2:=rfl;simp[Sh,e,f,<- d,q]
theorem gq(c:ZQ){T:yM}(m:c "paper_of" [a] S=.ok (.tup T) f)(u:c "is_paper" [a,.tup T] f=.ok (.bl Z7) b)(l:(T.length:Int)=L - 1)(q:XI (.tup T) (.tup []) b=.ok (.bl Z5) b)(v:Yk T (-1)=Z9 (.lst r))(d:b.length=h)(p:b++[.lst [a]]=g)(t:Zk (.lst r) (.lst h) g=.ok (.lst e) k)(s:MP [.lst e] k=.ok (.lst i) j)(n:T.length+1<=lim)(o:c "is_paper" [a,.tup (T++[.lst i])] j=.ok (.bl Z5) S6):Sh c [Z9 a,Z9 (.int L),Z8] S=.rt (.bl Z7) S6:=by simp[Sh,m,u,l,q,v,d,p,t,gz,s,n,o]
structure BG(cl:Nat->ZQ):Prop where
 pa:BQ cl
 is:II cl
 pr:nt cl
theorem gp(H:BG cl)(n:Nat)(C:1<=sw)(m:sw<=3)(E:bs.length=2 ^ sw)(u:ZK 0 bs∈lv sw a)(hi:a<=400)(S:ZX):VJ (cl (n+9) "_law_paper_right" [Zr bs,.int ((a+1:Nat):Int)] S) (.bl Z7) S:=by
 obtain⟨rs,F,V,Z,Q,rnd,x1⟩:=ig H.pa n C m E u (by lia) S;have o:∀{A:ZX},Ex F A->∀i r,rs[i]?=Z9 r->Yu sw A (.lst r) (KL sw i):=λx i r h=>gY (x.lst (Q i r h).1 λz=>z);have nk:∀{A:ZX},Ex F A->∀d∈rs.map D.lst,UJ A d:=λx d t=>by obtain⟨r,I,rfl⟩:=qB9.mp t;obtain⟨i,hi⟩:=qE8 I;exact iL m (o x i r hi)
 have k1:IK F (.tup (rs.map D.lst)):=⟨⟨_,rfl⟩,λds e=>by
  cases e;exact⟨by rw[qA0];lia,nk (Kp.refl _ _)⟩⟩
 obtain⟨S2,N,s⟩:=BR H.is n C m E k1;rw[WE ⟨_,rfl,BL (o (Kp.refl _ _)) (λi h=>g0 u (by lia)) rs 0 rfl⟩]at N;have hL:((rs.map D.lst).length:Int)=((a+1:Nat):Int) - 1:=by rw[qA0,Z];lia
 rw[show n+9=(n+8)+1 from rfl,H.pr];by_cases h0:a=0
 .have:rs=[]:=qK6 (by lia);subst this;exact⟨S2,Y0 rfl (gr _ V N (by lia)),x1.trans s⟩
 .obtain⟨r,f⟩:∃r,rs[a - 1]?=Z9 r:=⟨_,qA2 (by lia)⟩
  have l2:=s.lst (Q _ _ f).1 λz=>z;have i1:Yk (rs.map D.lst) (-1)=Z9 (.lst r):=by
   have e0:rs=rs.take (a - 1)++[r]:=by rw[<- (qA4.mp f).2,qL8,show a - 1+1=rs.length by lia,qG2]
   rw[e0,qD7];exact zGr _ _
  obtain⟨S3,J⟩:∃S3,S2++[O.lst [Zr bs]]=S3:=⟨_,rfl⟩
  have x3:=J▸YQ S2 _;have l3:=x3.lst l2 λz=>z;have m3:ZH S3 S2.length=Z9 [Zr bs]:=by rw[<- J];exact Yw _ _
  have kl:=B8 (sw:=sw) (i:=a - 1) m;have pl:(T5 sw (a - 1)).length<=256:=by unfold T5;rw[qA0];exact kl
  have a4:=J8 l3 m3 (by rw[XX];simp;lia);obtain⟨S4,T⟩:∃S4,S3++[O.lst (T5 sw (a - 1)++[Zr bs])]=S4:=⟨_,rfl⟩
  rw[T]at a4;have x4:=T▸YQ S3 _;have l4:ZH S4 S3.length=Z9 (((KL sw (a - 1)).map (XD sw)++[bs]).map Zr):=by rw[<- T,Yw,qD7,qC7];rfl
  obtain⟨j,f5,yl,Y⟩:=gx l4 (by simp;lia);obtain⟨S5,P⟩:∃S5,S4++[O.lst (j.map L2.tD)]=S5:=⟨_,rfl⟩
  rw[P]at f5;have x5:=P▸YQ S4 _;have l5:ZH S5 S4.length=Z9 (j.map L2.tD):=by rw[<- P];exact Yw _ _
  have v:=(x3.trans x4).trans x5;obtain⟨k,R,zb⟩:∃k:List (List Bool),j=k.map (λb=>b.map b1)/\∀b∈k,b.length=2 ^ sw:=by
   have:∀j:List (yA),(∀r∈j,r∈(((KL sw (a - 1)).map (XD sw)++[bs]).map λb=>b.map b1))->∃k:List (List Bool),j=k.map (λb=>b.map b1)/\∀b∈k,b.length=2 ^ sw:=by
    intro j
    induction j with
    |nil=>exact λ_=>⟨[],rfl,λb h=>by cases h⟩
    |cons y j ih =>
     intro h;obtain⟨k,e,M⟩:=ih λr o=>h r (by simp[o]);obtain⟨b,G,rfl⟩:=qB9.mp (h y (by simp));refine⟨b::k,by rw[e];rfl,λc L=>?_⟩;rcases qB0.mp L with rfl|L
     .rcases qC0.mp G with q|q
      .obtain⟨z,_,rfl⟩:=qB9.mp q;exact Q6 sw z
      .simp at q;rw[q];exact E
     .exact M c L
   exact this j λr o=>(Y r).mp o
  have p:ZH S5 S4.length=Z9 (k.map Zr):=by rw[l5,R,qC7];exact congrArg Z9 (qE0 λb _=>gw b)
  have k5:IK S5 (.tup (rs.map D.lst++[.lst S4.length])):=⟨⟨_,rfl⟩,λds e=>by
   cases e;refine⟨by simp;lia,λd t=>?_⟩;rcases qC0.mp t with q|q
   .exact nk (s.trans v) d q
   .simp at q;subst q;exact gv m p (by have:=congrArg qJ3 R;simp at this;lia) zb⟩
  obtain⟨S6,W,x6⟩:=BR H.is n C m E k5;rw[Xo (λh=>by
   obtain⟨ds,e,h⟩:=h;cases e;obtain⟨q,⟨B,e',X,_,qb⟩,nf⟩:=BK _ _ h;cases e';rw[p]at X;have mb:bs∈k:=by have:=(Y (bs.map b1)).mpr (qI3 (by simp));rw[R]at this;obtain⟨b,M,eb⟩:=qB9.mp this;have:b=bs:=qP0 (λx y e=>by cases x<;>cases y<;>first|rfl|(simp[b1]at e))|>.mp eb;rw[<- this];exact M
   have:Zr bs∈q.map (XU sw):=by rw[<- Option.some.inj X];exact qI3 mb
   obtain⟨z,w,K⟩:=qB9.mp this;have:=B7 K;have:z=ZK 0 bs:=by rw[<- this,R6 C m (qb z w)]
   exact nf (this▸w))]at W
  have q:XI (.tup (rs.map D.lst)) (.tup []) S2=.ok (.bl Z5) S2:=by
   refine gu (λe=>by have h:=congrArg qJ3 e;rw[qA0,Z]at h;exact h0 h) (NB (g:=λd=>match d with|.lst r=>.list (((ZH S2 r).getD []).map (Y5 38))| _=>.none) λd t=>?_);obtain⟨B,I,rfl⟩:=qB9.mp t;obtain⟨i,U⟩:=qE8 I;have l:=s.lst (Q i B U).1 λz=>z;show(match ZH S2 B with|some xs=>(xs.mapM (Zg 38 S2)).map PyData.list|none=>Z8)=_;rw[l];dsimp only;rw[NB (g:=Y5 38) λx u=>NA S2 ?_]
   .show _=Z9 (PyData.list (((ZH S2 B).getD []).map (Y5 38)));rw[l];rfl
   .unfold T5 at u;obtain⟨z,_,rfl⟩:=qB9.mp u;show(YR (XD sw z)).all (L2.plain 37)=Z7;refine qD5.mpr λy hy=>?_;obtain⟨b,_,rfl⟩:=qB9.mp hy;rfl
  exact⟨S6,Y0 rfl (gq _ V N hL q i1 rfl J a4 f5 (by rw[qA0,XX];lia) W),((x1.trans s).trans v).trans x6⟩
def Yd:Uh:=[(("is_whole":Str),(1,1,Ny)),
 (("is_bit":Str),(1,1,P7)),
 (("settings":Str),(1,3,Nw)),
 (("is_shut":Str),(2,2,Nv)),
 (("places_from":Str),(2,5,Nr)),
 (("joins":Str),(1,1,Nq)),
 (("shut_contacts":Str),(2,2,Np)),
 (("lets":Str),(2,2,Nn)),
 (("is_function":Str),(2,2,Ti)),
 (("function_of":Str),(1,1,Nl)),
 (("switches_of":Str),(1,1,P4)),
 (("where_both":Str),(2,2,Dp)),
 (("where_either":Str),(2,2,Do)),
 (("moved_contact":Str),(2,2,Dn)),
 (("moved":Str),(2,2,Dm)),
 (("net_within":Str),(3,3,Dl)),
 (("in_row":Str),(2,5,Dk)),
 (("side_by_side":Str),(2,4,Dj)),
 (("is_lone":Str),(2,2,Di)),
 (("has_parts":Str),(1,1,Dh)),
 (("is_tree":Str),(2,5,Dg)),
 (("contacts_of":Str),(1,1,Df)),
 (("lone_net":Str),(2,2,Ni)),
 (("tree_function":Str),(2,5,Sm)),
 (("net_of":Str),(2,5,De)),
 (("inside_out":Str),(1,2,Dd)),
 (("other_ons":Str),(1,1,Dc)),
 (("against":Str),(1,1,Da)),
 (("number_of":Str),(1,3,P0)),
 (("function_with":Str),(2,2,PY)),
 (("first_level":Str),(1,5,PV)),
 (("add_made":Str),(4,8,PU)),
 (("further_level":Str),(1,5,PP)),
 (("levels_to":Str),(1,3,PM)),
 (("fewest":Str),(1,1,PL)),
 (("fewest_tree":Str),(1,1,Sj)),
 (("is_rising_list":Str),(2,2,Ua)),
 (("has_all_made":Str),(3,5,PH)),
 (("goes_on":Str),(3,4,Tf)),
 (("is_paper":Str),(2,6,Si)),
 (("paper_of":Str),(1,4,PD)),
 (("how_many_functions":Str),(1,3,PB)),
 (("fewest_many":Str),(1,2,Px)),
 (("_law_cell_at":Str),(2,2,Pw)),
 (("_law_state":Str),(2,3,Pv)),
 (("_law_take":Str),(2,4,Pu)),
 (("_law_some_function":Str),(2,2,Pr)),
 (("_law_order":Str),(2,4,Nb)),
 (("_law_moved":Str),(4,7,Po)),
 (("_law_tree_right":Str),(3,4,Pn)),
 (("_law_paper_right":Str),(2,3,Sh)),
 (("law":Str),(1,8,Pk))]
def BE(cl:ZQ):CS :=
 (ZV (YF (Yy (Zj (ZU Uq (ZT (cl "is_tree") (ZR [(ZY 0),(ZY 3)])) (ZW (.bl Z7)))) (Zj (ZU Xf (ZT (cl "contacts_of") (ZR [(ZY 3)])) (ZY 2)))) (ZV (ZM (ZW (.bl Z5)))
  ZL) ZL)
  (ZV (YF (Yy (Zj (ZU Xf (ZT (cl "tree_function") (ZR [(ZY 0),(ZY 3)])) (ZY 1))) (Zj (ZU Xf (ZT (cl "contacts_of") (ZR [(ZT (cl "against") (ZR [(ZY 3)]))])) (ZY 2)))) (ZV (ZM (ZW (.bl Z5)))
  ZL) ZL)
  (ZV (ZV (ZM (ZU XI (ZT (cl "function_of") (ZR [(ZT (cl "net_of") (ZR [(ZY 0),(ZY 3)]))])) (ZY 1)))
  ZL)
  ZL)))
theorem gn(cl:ZQ):Pn cl=ZV (ZE (ZT (cl "fewest_tree") (ZR [(ZY 1)])) (gN 3)) (BE cl):=rfl
def OX(sw i:Nat)(p:Nat×D):Bool:=Sv p.2&&(match BE (Zl Yd 98) [Z9 (.int sw),Z9 (Zr (XD sw p.1)),Z9 (.int (i+1:Nat)),Z9 p.2] []with
 |.rt (.bl Z7) _=>Z7
 | _=>Z5)
def WD(sw i:Nat):Bool:=(TX sw i).all (OX sw i)
theorem Iz:∀m,m<1->MQ 1 m=Z7:=by decide
theorem Iy:∀m,m<3->MQ 2 m=Z7:=by decide
theorem Iw:∀m,m<9->MQ 3 m=Z7:=by decide
theorem Iv:Wb (UL 1) (TX 1 0)=Z7:=by decide
theorem Iu:Wb (UL 2) (TX 2 0)=Z7:=by decide
theorem Ir:Wb (UL 3) (TX 3 0)=Z7:=by decide
theorem Iq:∀i,i<2->WD 1 i=Z7:=by decide
theorem Ip:∀i,i<4->WD 2 i=Z7:=by decide
theorem gm:∀i,i<3->WD 3 i=Z7:=by decide
theorem gj:∀i,5<=i->i<10->WD 3 i=Z7:=by
 intro i b a;have:i=5∨i=6∨i=7∨i=8∨i=9:=by omega
 rcases this with rfl|rfl|rfl|rfl|rfl<;>decide
theorem gh:WD 3 3=Z7:=by decide
theorem gg:WD 3 4=Z7:=by decide
theorem BD:∀(j z:Nat),z∈Zs (Xl xk T m j)↔z∉xk/\∃l,l<j/\∃a∈Zs (T l),∃b∈Zs (T (m - 1 - l)),z=a &&& b∨z=a ||| b
 |0,z=>by simp[Xl,Zs]
 |j+1,z=>by
  rw[show Zs (Xl xk T m (j+1))=allN xk (Zs (T j)) (Zs (T (m - 1 - j))) (Zs (Xl xk T m j))from Jk _ _ _ _,Jl,BD j z];constructor
  .rintro(⟨c,l,g,q⟩| ⟨c,a,d,b,f,q⟩)
   .exact⟨c,l,by lia,q⟩
   .exact⟨c,j,by lia,a,d,b,f,q⟩
  .rintro⟨c,l,g,a,d,b,f,q⟩;by_cases e:l=j
   .subst e;exact .inr ⟨c,a,d,b,f,q⟩
   .exact .inl ⟨c,l,by lia,a,d,b,f,q⟩
theorem gf(sw:Nat):∀i z,z∈Zs (LX sw i)↔z∈lv sw i:=by
 intro i
 induction i using qQ9 with
 |_ i e =>
  intro z;cases i with
  |zero=>rw[M1];exact Ce sw z
  |succ m =>
   have o:∀z,z∈(List.range (m+1)).flatMap (λi=>Zs (LX sw i))↔∃i,i<=m/\z∈Zs (LX sw i):=λz=>by rw[qL5];exact⟨λ⟨i,d,c⟩=>⟨i,by have:=qC9.mp d;lia,c⟩,λ⟨i,d,c⟩=>⟨i,qC9.mpr (by lia),c⟩⟩
   rw[Jn o,BD,Rb];constructor
   .rintro⟨h,l,n,a,j,b,k,q⟩;have f:=(e l (by lia) a).mp j;have g:=(e _ (by lia) b).mp k;exact⟨zO5 (Vv sw _ f) (Vv sw _ g) q,λi d c=>h ((o z).mpr ⟨i,d,(e i (by lia) z).mpr c⟩),l,n,a,f,b,g,q⟩
   .rintro⟨_,h,l,n,a,j,b,k,q⟩;refine⟨λc=>?_,l,n,a,(e l (by lia) a).mpr j,b,(e _ (by lia) b).mpr k,q⟩;obtain⟨i,d,c⟩:=(o z).mp c;exact h i d ((e i (by lia) z).mp c)
def nL:Nat->Nat
 |1=>2
 |2=>4
 |_=>10
theorem Io(sw:Nat):nL sw<=10:=by unfold nL;split<;>lia
theorem R4(b:1<=sw)(a:sw<=3):sw=1∨sw=2∨sw=3:=by lia
theorem OW(c:1<=sw)(b:sw<=3)(h:i<nL sw):LX sw i=TX sw i:=by
 rcases R4 c b with rfl|rfl|rfl
 .exact Jb (n:=1) (show LX 1 0=TX 1 0 from O4 (a:=UL 1) Iv) Iz i (by have:nL 1=2:=rfl;lia)
 .exact Jb (n:=3) (show LX 2 0=TX 2 0 from O4 (a:=UL 2) Iu) Iy i (by have:nL 2=4:=rfl;lia)
 .exact Jb (n:=9) (show LX 3 0=TX 3 0 from O4 (a:=UL 3) Ir) Iw i (by have:nL 3=10:=rfl;lia)
theorem gc(d:1<=sw)(c:sw<=3)(h:i<nL sw):WD sw i=Z7:=by
 rcases R4 d c with rfl|rfl|rfl
 .exact Iq i h
 .exact Ip i h
 .have h:i<10:=h;by_cases a:i<3
  .exact gm i a
  .by_cases b:5<=i
   .exact gj i b h
   .have:i=3∨i=4:=by lia
    rcases this with rfl|rfl
    .exact gh
    .exact gg
def Im:Nat->Nat
 |1=>4097
 |2=>1229500501230420241
 |_=>12730907267856767793167800441351754246771841816963563650342046431764625491785574045870558083800908815578843040551247170540053877731825028264123194801899198713538166280674449188374360247130221556368944463913453101262412620947698332487696797680252929880813779248770716676614807411414758780420179848820153258529
def Xy(sw z:Nat):Nat:=(Im sw >>> (4*z)) % 16
theorem Il:∀z,z<4->Xy 1 z<2/\z∈Zs (TX 1 (Xy 1 z)):=by decide
theorem Ik:∀z,z<16->Xy 2 z<4/\z∈Zs (TX 2 (Xy 2 z)):=by decide
theorem Ij:∀z,z<256->Xy 3 z<10/\z∈Zs (TX 3 (Xy 3 z)):=by decide
theorem Q3(b:1<=sw)(a:sw<=3)(hz:z<NN sw):Xy sw z<nL sw/\z∈lv sw (Xy sw z):=by
 have:Xy sw z<nL sw/\z∈Zs (TX sw (Xy sw z)):=by
  rcases R4 b a with rfl|rfl|rfl
  .exact Il z hz
  .exact Ik z hz
  .exact Ij z hz
 refine⟨this.1,?_⟩;rw[<- gf,OW b a this.1];exact this.2
theorem Ii:∀bs:List Bool,plDs (YR bs)=Z7
 |[]=>rfl
 |b::r=>Ii r
structure BC:Prop where
 ft:∀n,Zl Yd (n+1) "fewest_tree"=VM (Zz 1 1 (Sj (Zl Yd n)))
 tr:∀n,Zl Yd (n+1) "_law_tree_right"=VM (Zz 3 4 (Pn (Zl Yd n)))
theorem gb(H:HLv (Zl Yd))(i:BC)(b:1<=sw)(f:sw<=3)(j:bs.length=2 ^ sw)(k:ZK 0 bs∈lv sw g)(hi:g<nL sw)(S:ZX):Zl Yd 99 "_law_tree_right" [.int (sw:Nat),Zr bs,.int ((g+1:Nat):Int)] S=.ok (.bl Z7) S:=by
 obtain⟨d,p,e,l⟩:=ji H 90 b f j k (by have:=Io sw;lia) [];have c:=gc b f hi;unfold WD at c;rw[<- OW b f hi]at c;have a:=qD5.mp c _ l;unfold OX at a;rw[qC8]at a;obtain⟨a,h⟩:=a;rw[show(ZK 0 bs,d).1=ZK 0 bs from rfl,O0 b f j]at h;have pl:plDs [Zr bs]=Z7:=by show(plDs (YR bs)&&Z7)=Z7;rw[Ii];rfl
 have m:Zl Yd 98 "fewest_tree" [Zr bs] []=.ok d []:=by rw[i.ft 97];exact Kz pl (Y0 rfl e) a
 split at h
 .rename_i n o;rw[i.tr 98];refine Kz (by show(plDs (YR bs)&&plDs [_])=Z7;rw[Ii];rfl) (Y0 (S':=n) rfl ?_) rfl;rw[gn];simp[Yn,m];exact o
 .cases h
def WC(sw:Nat)(sb:Nat->Bool)(ord:Nat->Nat)(st:yA):List Bool:=(List.range sw).map λk=>(decide (st.getD (ord k) 0=1)) != sb k
def OV(sw:Nat)(sb:Nat->Bool)(ord:Nat->Nat)(bs:List Bool):List Bool:=(ZD sw).map λa=>bs.getD (ZK 0 (WC sw sb ord a)) Z5
theorem fC(sw:Nat)(h:st∈ZD sw):st.length=sw/\∀b∈st,b=0∨b=1:=by
 induction sw generalizing st with
 |zero=>simp[ZD]at h;subst h;simp
 |succ n e =>
  unfold ZD at h;simp only[qC0,qB9]at h;rcases h with⟨r,d,rfl⟩| ⟨r,d,rfl⟩
  .obtain⟨a,b⟩:=e d;exact⟨by simp[a],λx c=>(qB0.mp c).elim .inl (b x)⟩
  .obtain⟨a,b⟩:=e d;exact⟨by simp[a],λx c=>(qB0.mp c).elim .inr (b x)⟩
theorem fz(b:1<=sw)(a:sw<=3):∀j,j<2 ^ sw->ZK 0 (((ZD sw).getD j []).map λi=>decide (i=1))=j:=by rcases R4 b a with rfl|rfl|rfl<;>decide
theorem fy(c:ZQ){a OR:yM}(e:Yk OR k=Z9 (.int o))(g:Yk a o=Z9 (.int s))(f:YG Z5 (.int k) d S=.ok (.bl b) S):Pq c [Z9 (.int k),Z9 (.tup a),Z9 (.tup OR),Z9 d] S=.ok (.int (fD s (if b then 1 else 0))) S:=by simp[Pq,e,g,f]
theorem Ih(c:ZQ){R Y:yM}(o:Zw [b] S=.ok (.int L) S)(s:-4611686018427387904<=L/\L<4611686018427387904)(i:Y1 [] .one (λ_=>ret Z7) (Pq c) [Z8,Z9 st,Z9 b,Z9 f] (Y3 0 L.toNat) S=.ok R S)(q:(Y3 0 L.toNat).length<lim)(n:S++[.lst R]=a)(t:Ya [.lst S.length] a=.ok td a)(ty:Yq "list" e a=Z7)(l:Sy e [td] a=.ok (.int (j:Nat)) a)(r:ZA h (.int (j:Nat)) a=.ok d a)(g:Yq "list" (.lst m) a=Z7)(k:Ye Xr (.lst m) [d] a=.ok .non (a.set m (.lst Y))):
  Pp c [Z9 h,Z9 e,Z9 f,Z9 b,Z9 (.lst m),Z9 st,p] S=.nx [Z9 h,Z9 e,Z9 f,Z9 b,Z9 (.lst m),Z9 st,Z9 td] (a.set m (.lst Y)):=by simp[Pp,o,s,i,q,n,t,ty,l,r,g,k]
theorem fx(c:ZQ){X F:yM}(h:ZH b k=Z9 X)(hm:S.length=m)(g:S++[.lst []]=b)(e:YV [(k,X)] (gN 5) (Pp c) X [Z9 a,Z9 (.lst k),Z9 d,Z9 f,Z9 (.lst m),Z8,Z8] b=.nx [Z9 a,Z9 (.lst k),Z9 d,Z9 f,Z9 (.lst m),w5,i] S2)(t:Ya [.lst m] S2=.ok (.tup F) S2):Po c [Z9 a,Z9 (.lst k),Z9 d,Z9 f,Z8,Z8,Z8] S=.rt (.tup F) S2:=by simp[Po,hm,g,h,e,t]
theorem fv(h:C1 cl)(n:Nat)(s1:1<=sw)(s3:sw<=3)(hl:bs.length=2 ^ sw){so ord:yA}(I:ord.length=sw)(ho:∀o∈ord,0<=o/\o<sw)(lk:ZH S k=Z9 ((ZD sw).map Zi)):
  VJ (cl (n+1) "_law_moved" [Zr bs,.lst k,.tup (so.map D.int),.tup (ord.map D.int)] S) (Zr (OV sw (λk=>decide ((k:Int)∈so)) (λk=>(ord.getD k 0).toNat) bs)) S:=by
 obtain⟨m,L⟩:∃m,S.length=m:=⟨_,rfl⟩
 obtain⟨S1,x⟩:∃S1,S++[O.lst []]=S1:=⟨_,rfl⟩
 have G:=x▸YQ S _;have km:k<m:=by rw[<- L];exact Ud lk
 have N:ZH S1 k=Z9 ((ZD sw).map Zi):=G.lst lk λz=>z;have m1:ZH S1 m=Z9 (YR []):=by rw[<- x,<- L];exact Yw _ _
 obtain⟨sb,y⟩:∃sb:Nat->Bool,(λk:Nat=>decide ((k:Int)∈so))=sb:=⟨_,rfl⟩
 obtain⟨og,C⟩:∃og:Nat->Nat,(λk:Nat=>(ord.getD k 0).toNat)=og:=⟨_,rfl⟩
 rw[y,C];have pw:2 ^ sw<=2 ^ 3:=qG1 (by decide) s3;have g8:∀j,((ZD sw).take j).length<=8:=λj=>by rw[qF7,U5];lia
 obtain⟨B',S2,e,⟨X,F,rfl⟩,A,kp⟩:=Uc (w:=[(k,(ZD sw).map Zi)]) (g:=gN 5) (b:=Pp (cl n)) (items:=(ZD sw).map Zi) (λj B S'=>(∃X F,B=[Z9 (Zr bs),Z9 (.lst k),Z9 (.tup (so.map D.int)),Z9 (.tup (ord.map D.int)),Z9 (.lst m),X,F])/\ZH S' m=Z9 (YR (((ZD sw).take j).map λa=>bs.getD (ZK 0 (WC sw sb og a)) Z5))/\Kp (·=m) S1 S') (λj B S' U=>U6 (U.2.2.lst N (by lia))) ⟨⟨Z8,Z8,rfl⟩,m1,Kp.refl _ _⟩ (λH d B S' hd U=>by
  obtain⟨⟨X,F,rfl⟩,A,kp⟩:=U;rw[qB1]at hd;obtain⟨a,f,rfl⟩:=qA6.mp hd;have T:=qB5 f;have ls:=g8 H;have tk:(ZD sw).take (H+1)=(ZD sw).take H++[a]:=by rw[qN1 (qA4.mp f).1,(qA4.mp f).2]
  obtain⟨s,Q⟩:∃s,((ZD sw).take H).map (λa=>bs.getD (ZK 0 (WC sw sb og a)) Z5)=s:=⟨_,rfl⟩
  have hsl:s.length<=8:=by rw[<- Q,qA0];exact ls
  rw[Q]at A;obtain⟨stl,P⟩:=fC sw T;have e1:Y1 [] .one (λ_=>ret Z7) (Pq (cl n)) [Z8,Z9 (Zi a),Z9 (.tup (ord.map D.int)),Z9 (.tup (so.map D.int))] (Y3 0 (sw:Int).toNat) S'=.ok (YR (WC sw sb og a)) S':=by
   unfold Y3;rw[qD9,show YR (WC sw sb og a)=(List.range sw).map λk=>D.int (b1 ((decide (a.getD (og k) 0=1)) != sb k)) by unfold YR WC;rw[qC7];rfl];refine Ub (λp:Nat=>D.int (0+p)) (XH S') _ _ λp J=>⟨_,rfl,?_⟩
   have pl:=qC9.mp J;obtain⟨o,r⟩:∃o,ord[p]?=Z9 o:=⟨_,qA2 (by lia)⟩
   obtain⟨o1,o2⟩:=ho o (qB5 r);have K:og p=o.toNat:=by rw[<- C];show(ord.getD p 0).toNat=_;rw[qC6,r];rfl
   obtain⟨s',l⟩:∃s',a[o.toNat]?=Z9 s':=⟨_,qA2 (by lia)⟩
   have W:a.getD (og p) 0=s':=by rw[K,qC6,l];rfl
   have x:Yk (ord.map D.int) (0+(p:Int))=Z9 (.int o):=by rw[qT8];exact Vz (by rw[qB1,r];rfl)
   have h2:Yk (a.map D.int) o=Z9 (.int s'):=by have:=Vz (xs:=a.map D.int) (j:=o.toNat) (v:=.int s') (by rw[qB1,l];rfl);rwa[show((o.toNat:Nat):Int)=o by lia]at this
   have u:=md Z5 (0+(p:Int)) so S';rw[if_neg (by decide)]at u;have q:=fy (cl n) x h2 u;rw[W];have M:sb p=decide ((0+(p:Int))∈so):=by rw[<- y,qT8]
   refine q.trans ?_;congr 2;rw[M];rcases P s' (qB5 l)with rfl|rfl<;>cases decide ((0+(p:Int))∈so)<;>rfl
  obtain⟨S3,u⟩:∃S3,S'++[O.lst (YR (WC sw sb og a))]=S3:=⟨_,rfl⟩
  have V:=u▸YQ S' _;have t3:Ya [.lst S'.length] S3=.ok (Zr (WC sw sb og a)) S3:=Ug (by rw[<- u];exact Yw _ _);have E:ZH S3 k=Z9 ((ZD sw).map Zi):=V.lst (kp.lst N (by lia)) λz=>z;have t:ZH S3 m=Z9 (YR s):=V.lst A λz=>z;have R:(WC sw sb og a).map b1∈ZD sw:=CQ sw _ (by unfold WC;simp) (λb M=>by
   obtain⟨c,_,rfl⟩:=qB9.mp M;cases c<;>simp[b1])
  obtain⟨j,Z,Y⟩:=lz E R (by rw[U5];lia);rw[O9]at Y;have jl:=(qA4.mp Z).1;rw[U5]at jl;have jn:j=ZK 0 (WC sw sb og a):=by have:=fz s1 s3 j jl;rw[qC6,Z]at this;rw[<- this];show ZK 0 (((WC sw sb og a).map b1).map λi=>decide (i=1))=_;rw[qC7];congr 1;refine(qE0 λb _=>?_).trans (qS3 _);cases b<;>rfl
  have i2:ZA (Zr bs) (.int (j:Nat)) S3=.ok (.int (b1 (bs.getD (ZK 0 (WC sw sb og a)) Z5))) S3:=by show(match Yk (YR bs) (j:Int)with|some d=>L2.R.ok d S3|none=>.bad)=_;rw[Vz (v:=.int (b1 (bs.getD j Z5))) (by unfold YR;rw[qB1,qC6,qA2 (by lia)];rfl),<- jn]
  have ap:Ye Xr (.lst m) [.int (b1 (bs.getD (ZK 0 (WC sw sb og a)) Z5))] S3=.ok .non (S3.set m (.lst (YR s++[.int (b1 (bs.getD (ZK 0 (WC sw sb og a)) Z5))]))):=by rw[Sq t,Rq,if_pos (by unfold YR;rw[qA0,XX];lia)]
  have fl:Zw [.tup (ord.map D.int)] S'=.ok (.int (sw:Nat)) S':=by show L2.R.ok (D.int ((ord.map D.int).length:Nat)) S'=_;rw[qA0,I]
  refine⟨[Z9 (Zr bs),Z9 (.lst k),Z9 (.tup (so.map D.int)),Z9 (.tup (ord.map D.int)),Z9 (.lst m),Z9 (Zi a),F],S',by simp,_,_,.inl (Ih _ fl ⟨by lia,by lia⟩ e1 (by unfold Y3;rw[qA0,qD2,qD9,XX];lia) u t3 (Tj E) Y i2 (Tj t) ap),⟨_,_,rfl⟩,?_,?_⟩
  .rw[UQ t,tk,qD7,Q];unfold YR;rw[qD7];rfl
  .exact(kp.trans V.kp).trans (VI S3 _))
 rw[qA0,qG2]at A;refine⟨S2,?_,⟨by have:=G.le;have:=kp.le;lia,λi hi _=>?_⟩⟩
 .rw[h];exact Y0 rfl (fx _ N L x e (Ug A))
 .rw[kp.eq i (by have:=G.le;lia) (by lia),G.eq i hi λz=>z]
def OU(sw:Nat)(sb:Nat->Bool)(b:Nat->Nat):List Nat:=(ZD sw).map λa=>ZK 0 (WC sw sb b a)
def VC:Nat->List (List Bool)
 |0=>[[]]
 |n+1=>(VC n).flatMap λl=>[Z5::l,Z7::l]
theorem BA:∀l:List Bool,l∈VC l.length
 |[]=>by simp[VC]
 |b::l=>by
  have:=BA l;show b::l∈(VC l.length).flatMap λl=>[Z5::l,Z7::l]
  rw[qL5];exact⟨l,this,by cases b<;>simp⟩
def OT:Nat->List (List Nat)
 |1=>[[0]]
 |2=>[[0,1],[1,0]]
 |_=>[[0,1,2],[0,2,1],[1,0,2],[1,2,0],[2,0,1],[2,1,0]]
def OS(sw:Nat):Bool:=(VC sw).all λa=>(OT sw).all λb=>(List.range (NN sw)).all λn=>Nat.beq (Xy sw (ZK 0 ((OU sw (λk=>a.getD k Z5) λk=>b.getD k 0).map λi=>(XD sw n).getD i Z5))) (Xy sw n)
theorem Ig:OS 1=Z7:=by decide
theorem Ie:OS 2=Z7:=by decide
theorem Ic:OS 3=Z7:=by decide
theorem Ib:∀n,n<4->Xy 1 (ZK 0 ((XD 1 n).map (!·)))=Xy 1 n:=by decide
theorem Ia:∀n,n<16->Xy 2 (ZK 0 ((XD 2 n).map (!·)))=Xy 2 n:=by decide
theorem H7:∀n,n<256->Xy 3 (ZK 0 ((XD 3 n).map (!·)))=Xy 3 n:=by decide
theorem fq{sb sb':Nat->Bool}(b:∀k,k<sw->sb k=sb' k)(c:∀k,k<sw->a k=og' k):OU sw sb a=OU sw sb' og':=by unfold OU WC;refine qE0 λd _=>congrArg (ZK 0) (qE0 λk hk=>?_);have:=qC9.mp hk;rw[b k this,c k this]
theorem Bz{α:Type}(f:Nat->α)(d:α)(h:k<sw):((List.range sw).map f).getD k d=f k:=by rw[qC6,qB1,qI2 h];rfl
theorem fj(m:1<=sw)(j:sw<=3){l:yA}(h:l.Perm ((List.range sw).map fun(k:Nat)=>(k:Int))):((List.range sw).map λk=>(l.getD k 0).toNat)∈OT sw:=by
 have f:=h.length_eq;rw[qA0,qD2]at f;rcases R4 m j with rfl|rfl|rfl
 .match l,f with
  |[a],_ =>
   have d:a∈[(0:Int)]:=h.mem_iff.mp (by simp);simp at d;subst d;decide
 .match l,f with
  |[a,b],_ =>
   have d:a∈[(0:Int),1]:=h.mem_iff.mp (by simp);have e:b∈[(0:Int),1]:=h.mem_iff.mp (by simp);have g:[a,b].Nodup:=h.symm.nodup (by decide);simp only[qB0,qF8,or_false]at d e;revert g;rcases d with rfl|rfl<;>rcases e with rfl|rfl<;>decide
 .match l,f with
  |[a,b,c],_ =>
   have d:a∈[(0:Int),1,2]:=h.mem_iff.mp (by simp);have e:b∈[(0:Int),1,2]:=h.mem_iff.mp (by simp);have i:c∈[(0:Int),1,2]:=h.mem_iff.mp (by simp);have g:[a,b,c].Nodup:=h.symm.nodup (by decide);simp only[qB0,qF8,or_false]at d e i;revert g;rcases d with rfl|rfl|rfl<;>rcases e with rfl|rfl|rfl<;>rcases i with rfl|rfl|rfl<;>decide
theorem fi(c:1<=sw)(b:sw<=3)(d:bs.length=2 ^ sw)(sb:Nat->Bool){l:yA}(h:l.Perm ((List.range sw).map fun(k:Nat)=>(k:Int))):Xy sw (ZK 0 (OV sw sb (λk=>(l.getD k 0).toNat) bs))=Xy sw (ZK 0 bs):=by
 have k:OS sw=Z7:=by
  rcases R4 c b with rfl|rfl|rfl
  .exact Ig
  .exact Ie
  .exact Ic
 have a:(List.range sw).map sb∈VC sw:=by have:=BA ((List.range sw).map sb);rwa[qA0,qD2]at this
 unfold OS at k;have k:=qD5.mp (qD5.mp (qD5.mp k _ a) _ (fj c b h)) _ (qC9.mpr (Q5 d));have k:=qR7 k;rw[fq (sb':=sb) (og':=λk=>(l.getD k 0).toNat) (λk hk=>Bz sb Z5 hk) (λk hk=>Bz _ 0 hk),O0 c b d]at k;rw[<- k];unfold OV OU;rw[qC7];rfl
theorem fh(c:1<=sw)(a:sw<=3)(b:bs.length=2 ^ sw):Xy sw (ZK 0 (bs.map (!·)))=Xy sw (ZK 0 bs):=by
 have q:=Q5 b;have e:=O0 c a b;rcases R4 c a with rfl|rfl|rfl
 .have:=Ib _ q;rwa[e]at this
 .have:=Ia _ q;rwa[e]at this
 .have:=H7 _ q;rwa[e]at this
theorem By(c:1<=sw)(a:sw<=3):VE sw (nL sw):=λx b=>⟨_,(Q3 c a b).1,(Q3 c a b).2⟩
theorem fg(a:x∈lv sw (nL sw - 1))(d:1<=j)(c:j<nL sw):¬VE sw j:=λh=>by
 obtain⟨i,e,b⟩:=h x (Vv sw _ a);have:=Pd sw a b
 lia
theorem ff(c:ZQ)(e:c "_law_take" [.lst i,.int 2] S=.ok (.int r) S1):Pt c [a,Z9 (.lst i)] S=.ok (.int r) S1:=by simp[Pt,e]
theorem fc(c:ZQ){R:yM}(hs:0<=s/\s<=4)(d:1*2 ^ s.toNat=p)(b:-4611686018427387904<=p/\p<4611686018427387904)(h:(Y3 0 p.toNat).length<lim)(e:Y1 [] .one (λ_=>ret Z7) (Pt c) [Z8,Z9 (.lst i)] (Y3 0 p.toNat) S=.ok R a)(g:a++[.lst R]=S2)(t:Ya [.lst a.length] S2=.ok (.tup R) S2):Pr c [Z9 (.lst i),Z9 (.int s)] S=.rt (.tup R) S2:=by
 have f:s<=1000000:=by lia
 simp only[Int.one_mul]at d;simp[Pr,hs.1,f,d,b,h,e,g,t]
theorem fb(h:C3 cl)(ht:Nc cl)(n:Nat)(x:sw<=4)(v:YH S i):∃bs f,cl (n+2) "_law_some_function" [.lst i,.int (sw:Nat)] S=.ok (Zr bs) f/\bs.length=2 ^ sw/\Kp (·=i) S f/\YH f i:=by
 have y:(1*2 ^ ((sw:Nat):Int).toNat:Int)=((2 ^ sw:Nat):Int):=by rw[qD9];simp
 have q:2 ^ sw<=2 ^ 4:=qG1 (by decide) x;obtain⟨ds,f,e,l,⟨bs,o,kp,j⟩⟩:=CM (w:=[]) (t:=.one) (c:=Pt (cl (n+1))) (B0:=[Z8,Z9 (.lst i)]) (P:=λacc k=>∃bs,acc=YR bs/\Kp (·=i) S k/\YH k i) (λ_ S _=>XH S) (Y3 0 ((2 ^ sw:Nat):Int).toNat) [] (S:=S) ⟨[],rfl,Kp.refl _ _,v⟩ (λd _ acc k z=>by
  obtain⟨bs,rfl,kp,j⟩:=z;obtain⟨r,B,C,a,b,k2,_,g⟩:=Pi ht n j (m:=2) (by decide) (by decide);refine⟨_,rfl,.int r,B,ff _ C,bs++[decide (r=1)],?_,kp.trans k2,g⟩;have:r=0∨r=1:=by lia
  unfold YR;rw[qD7];rcases this with rfl|rfl<;>simp[b1])
 rw[qV3]at o;subst o;have p:(Y3 0 ((2 ^ sw:Nat):Int).toNat).length=2 ^ sw:=by unfold Y3;rw[qA0,qD2,qD9]
 refine⟨bs,f++[O.lst (YR bs)],?_,?_,kp.trans (YQ _ _).kp,?_⟩
 .rw[h];refine Y0 rfl (fc _ ⟨by lia,by lia⟩ y ⟨by lia,by lia⟩ (by rw[p,XX];lia) e rfl (Ug (Yw _ _)))
 .rw[p]at l;unfold YR at l;rw[qA0]at l;exact l
 .obtain⟨s,b,u,A⟩:=j;exact⟨s,b,NH u,A⟩
theorem eZ(c:ZQ){F r mo s o r2 p Jw:Int}{X R R2 Y:yM}{S S1 S2 S3 S4 S5 I S7 S8 S9 J N H d h K m G S19:ZX}
  (O:c "_law_state" [sc,.int F] S=.ok (.lst i) S1) (j:S1.length=n1) (h2:S1++[.lst [.int 1,.int 2,.int 2,.int 3]]=S2) (Z:c "_law_take" [.lst i,.int 4] S2=.ok (.int r) S3) (Q:ZA (.lst n1) (.int r) S3=.ok (.int mo) S3) (hs:(if 3 - (if 1<F then 1 else F)<mo then 3 - (if 1<F then 1 else F)else mo)=s)
  (e4:c "_law_some_function" [.lst i,.int s] S3=.ok E S4) (W:c "fewest" [E] S4=.ok (.int o) S5) (U:c "is_function" [.int s,E] S5=.ok (.bl Z7) I) (e7:c "_law_tree_right" [.int s,E,.int o] I=.ok (.bl Z7) I) (e8:o<6->c "_law_paper_right" [E,.int o] I=.ok (.bl Z7) S7) (e8':¬o<6->S7=I)
  (T:-4611686018427387904<=s/\s<4611686018427387904) (V:(Y3 0 s.toNat).length<lim) (e9:Y1 [] .one (Pm c) (Pl c) [Z8,Z9 (.lst i)] (Y3 0 s.toNat) S7=.ok R S8) (h9:S8++[.lst R]=S9) (t9:Ya [.lst S8.length] S9=.ok sd S9)
  (A:c "settings" [.int s] S9=.ok (.lst k) J) (B:c "_law_order" [.lst i,.int s] J=.ok od N) (l:c "_law_moved" [E,.lst k,sd,od] N=.ok gd H) (f:H.length=e) (u:H++[.lst [gd]]=d)
  (L:Zv (ZY 4) [Z9 sc,Z9 (.int F),Z9 (.lst i),Z9 (.int s),Z9 E,Z9 (.int o),Z9 sd,Z9 (.lst e)] d=.ok (X,[]) d) (hX:X.length<lim) (t:Y1 [] .one (λ_=>ret Z7) (Na c) [Z8] X d=.ok R2 d) (z:d++[.lst R2]=h) (n:Ya [.lst d.length] h=.ok ng h) (ty:Yq "list" (.lst e) d=Z7) (ap:Ye Xr (.lst e) [ng] h=.ok .non (h.set e (.lst Y))) (y:h.set e (.lst Y)=K)
  (v:c "_law_take" [.lst i,.int 2] K=.ok (.int r2) m) (x:ZA (.lst e) (.int r2) m=.ok hd m) (w:c "fewest" [hd] m=.ok (.int o) G)
  (g:s<3->c "fewest_many" [.int s] G=.ok (.lst q) S19) (fs:s<3->X4 [.lst q] S19=.ok (.int Jw) S19) (C:¬s<3->S19=G) (s0:0<=s) (s4:s<=1000000) (M:1*2 ^ s.toNat=p) (p0:0<=p) (P:p<=1000000) (ht:1*2 ^ p.toNat=Jw) :
  T9 c [Z9 sc,Z9 (.int F),w2,w3,w4,w5,w6,w7] S=.nx [Z9 sc,Z9 (.int F),Z9 (.lst i),Z9 (.int s),Z9 E,Z9 (.int o),Z9 sd,Z9 (.lst e)] S19:=by
 simp only[Int.one_mul]at M ht;simp at L;by_cases a:o<6
 .have e8:=e8 a;by_cases b:s<3
  .have g:=g b;have fs:=fs b;simp[T9,O,j,h2,Z,Q,hs,e4,W,U,e7,a,e8,T,V,e9,h9,t9,A,B,l,f,u,L,hX,t,z,n,ty,ap,y,v,x,w,b,g,fs,s0,s4,M,p0,P,ht]
  .have:=C b;subst this;simp[T9,O,j,h2,Z,Q,hs,e4,W,U,e7,a,e8,T,V,e9,h9,t9,A,B,l,f,u,L,hX,t,z,n,ty,ap,y,v,x,w,b,s0,s4,M,p0,P,ht]
 .have:=e8' a;subst this;by_cases b:s<3
  .have g:=g b;have fs:=fs b;simp[T9,O,j,h2,Z,Q,hs,e4,W,U,e7,a,T,V,e9,h9,t9,A,B,l,f,u,L,hX,t,z,n,ty,ap,y,v,x,w,b,g,fs,s0,s4,M,p0,P,ht]
  .have:=C b;subst this;simp[T9,O,j,h2,Z,Q,hs,e4,W,U,e7,a,T,V,e9,h9,t9,A,B,l,f,u,L,hX,t,z,n,ty,ap,y,v,x,w,b,s0,s4,M,p0,P,ht]
theorem Bx(f:Nat->Nat):∀l:List Nat,(l.map λi=>((f i:Nat):Int)).sum=(((l.map f).sum:Nat):Int)
 |[]=>rfl
 |a::l=>by rw[qB8,qV5,Bx f l,qB8,qV5];lia
theorem eY(H:IC cl)(n:Nat)(d:1<=sw)(t:sw<=2)(S:ZX):∃q S1,cl (n+7) "fewest_many" [.int (sw:Nat)] S=.ok (.lst q) S1/\Ex S S1/\X4 [.lst q] S1=.ok (.int ((2 ^ 2 ^ sw:Nat):Int)) S1:=by
 have c:sw<=3:=by lia
 have r:=Io sw;have m:1<=nL sw:=by unfold nL;split<;>lia
 obtain⟨x,h⟩:∃x,x∈lv sw (nL sw - 1):=by
  have:sw=1∨sw=2:=by lia
  rcases this with rfl|rfl
  .exact⟨0,(Q3 (sw:=1) (z:=0) d c (by decide)).2⟩
  .exact⟨6,(Q3 (sw:=2) (z:=6) d c (by decide)).2⟩
 obtain⟨q,S1,e,_,p,l⟩:=hI H n d c m (by lia) (By d c) (λj f o=>fg h f o) S;refine⟨q,S1,e,p,?_⟩;have s:ZH S1 q=Z9 (((List.range (nL sw)).map λi=>((ln sw i:Nat):Int)).map D.int):=by rw[l];unfold T4;rw[qC7];rfl
 rw[Dr s (λi g=>by
  obtain⟨j,_,rfl⟩:=qB9.mp g;have:=BM (sw:=sw) (i:=j) c
  lia) (by rw[qA0,qD2];lia),Bx]
 have k:=IF sw (nL sw - 1);rw[show nL sw - 1+1=nL sw by lia]at k;rw[k];have a:=IE.mpr (show VE sw (nL sw - 1+1) by rw[show nL sw - 1+1=nL sw by lia];exact By d c);have b:(KL sw (nL sw - 1)).length<=NN sw:=qD4 (qJ1 ..) (by rw[qD2];exact qA7 _);have:(KL sw (nL sw - 1)).length=2 ^ 2 ^ sw:=qQ7 b a;rw[this]
structure Bw:Prop where
 st:C5 (Zl Yd)
 ce:JO (Zl Yd)
 ta:Nc (Zl Yd)
 so:C3 (Zl Yd)
 od:C2 (Zl Yd)
 mv:C1 (Zl Yd)
 fe:Cc (Zl Yd)
 pr:BG (Zl Yd)
 my:IC (Zl Yd)
 hb:HB (Zl Yd)
 hc:BC
inductive Bv(sc:D)(B:ZS):Prop
 |mk (w1 w2 w3 w4 w5 w6 w7:Option D) (e:B=[Z9 sc,w1,w2,w3,w4,w5,w6,w7])
theorem eX(H:Bw)(ns:yA)(hsc:D.rol (ns.map D.int)=sc)(s:Int)(hj:0<=s)(S:ZX)(w2 w3 w4 w5 w6 w7:Option D):∃B S',T9 (Zl Yd 99) [Z9 sc,Z9 (.int s),w2,w3,w4,w5,w6,w7] S=.nx B S'/\Bv sc B:=by
 obtain⟨S1,e1,x1,K⟩:=nj H.st H.ce 97 ns s hj S;rw[hsc]at e1;obtain⟨i,hi⟩:∃i,S.length=i:=⟨_,rfl⟩
 rw[hi]at e1 K;obtain⟨n1,T⟩:∃n1,S1.length=n1:=⟨_,rfl⟩
 obtain⟨S2,h2⟩:∃S2,S1++[O.lst [.int 1,.int 2,.int 2,.int 3]]=S2:=⟨_,rfl⟩
 have x2:Ex S1 S2:=h2▸YQ _ _;have st2:=K.ex x2;obtain⟨r,S3,e3,b1',b2,k3,_,st3⟩:=Pi H.ta 98 st2 (m:=4) (by decide) (by decide);have l3:ZH S3 n1=Z9 [.int 1,.int 2,.int 2,.int 3]:=k3.lst (by rw[<- h2,<- T];exact Yw _ _) (by have:=K.lt;lia);obtain⟨mo,em,mo1,mo2⟩:∃mo:Int,ZA (.lst n1) (.int r) S3=.ok (.int mo) S3/\1<=mo/\mo<=3:=by
  have e:=Ue l3 r;have:r=0∨r=1∨r=2∨r=3:=by lia
  rcases this with rfl|rfl|rfl|rfl
  .exact⟨1,by rw[e];rfl,by decide,by decide⟩
  .exact⟨2,by rw[e];rfl,by decide,by decide⟩
  .exact⟨2,by rw[e];rfl,by decide,by decide⟩
  .exact⟨3,by rw[e];rfl,by decide,by decide⟩
 obtain⟨sw,hs,g,j⟩:∃sw:Nat,(if 3 - (if 1<s then 1 else s)<mo then 3 - (if 1<s then 1 else s)else mo)=(sw:Int)/\1<=sw/\sw<=3:=by
  have h:∃z:Int,(if 3 - (if 1<s then 1 else s)<mo then 3 - (if 1<s then 1 else s)else mo)=z/\1<=z/\z<=3:=⟨_,rfl,by split<;>(try split)<;>lia,by split<;>(try split)<;>lia⟩
  obtain⟨z,hz,z1,z3⟩:=h;exact⟨z.toNat,by rw[hz];lia,by lia,by lia⟩
 have pw:2 ^ sw<=2 ^ 3:=qG1 (by decide) j;obtain⟨bs,S4,e4,l,k4,st4⟩:=fb H.so H.ta 97 (sw:=sw) (by lia) st3;have hz:=Q5 l;obtain⟨li,lx⟩:=Q3 g j hz;obtain⟨ix,C⟩:∃ix,Xy sw (ZK 0 bs)=ix:=⟨_,rfl⟩
 rw[C]at li lx;have l10:=Io sw;obtain⟨S5,e5,x5⟩:=Cb H.fe 91 g j l lx (by lia) S4;have nk:Nk S5 1 (Zr bs):=⟨⟨_,rfl⟩,λxs e=>by
  cases e;refine⟨by unfold YR;rw[qA0,l];lia,λy hy=>?_⟩;obtain⟨b,_,rfl⟩:=qB9.mp hy;exact⟨_,rfl⟩⟩
 obtain⟨M,e6,x6⟩:=CK H.hb 96 (sw:=(sw:Int)) (by lia) (by lia) nk;rw[WE ((B6 g j).mpr ⟨ZK 0 bs,by rw[XU,O0 g j l],hz⟩)]at e6;have e7:=gb H.fe.toHLv H.hc g j l lx li M;obtain⟨S7,e8,e8',x7⟩:∃S7,(((ix+1:Nat):Int)<6->Zl Yd 99 "_law_paper_right" [Zr bs,.int ((ix+1:Nat):Int)] M=.ok (.bl Z7) S7)/\(¬((ix+1:Nat):Int)<6->S7=M)/\Ex M S7:=by
  by_cases a:((ix+1:Nat):Int)<6
  .obtain⟨S7,e,x⟩:=gp H.pr 90 g j l lx (by lia) M;exact⟨S7,λ_=>e,λn=>absurd a n,x⟩
  .exact⟨M,λn=>absurd n a,λ_=>rfl,Kp.refl _ _⟩
 have st7:=((st4.ex x5).ex x6).ex x7;obtain⟨ys,S8,e9,⟨k8,st8⟩,y9,n9⟩:=JG (fun(k:Nat)=>D.int (0+(k:Nat))) (w:=[]) (t:=.one) (tc:=Pm (Zl Yd 99)) (c:=Pl (Zl Yd 99)) (B0:=[Z8,Z9 (.lst i)]) (λS'=>Kp (·=i) S7 S'/\YH S' i) (λy=>∃i,y=.int i/\True) (λS' _=>XH _) (List.range (sw:Int).toNat) ⟨Kp.refl _ _,st7⟩
  (λa ha S' hp=>by
   obtain⟨r,Sa,ea,_,_,ka,_,U⟩:=Pi H.ta 98 hp.2 (m:=2) (by decide) (by decide);exact⟨_,rfl,decide (r=0),Sa,by simp[Pm,ea],λ_=>⟨hp.1.trans ka,U⟩,λ_=>⟨.int (0+(a:Nat)),Sa,by simp[Pl],⟨hp.1.trans ka,U⟩,_,rfl,trivial⟩⟩)
 obtain⟨so,rfl,_⟩:=CU y9;have e9':Y1 [] .one (Pm (Zl Yd 99)) (Pl (Zl Yd 99)) [Z8,Z9 (.lst i)] (Y3 0 (sw:Int).toNat) S7=.ok (so.map D.int) S8:=e9;obtain⟨S9,h9⟩:∃S9,S8++[O.lst (so.map D.int)]=S9:=⟨_,rfl⟩
 have x9:=h9▸YQ S8 _;have t9:Ya [.lst S8.length] S9=.ok (.tup (so.map D.int)) S9:=Ug (by rw[<- h9];exact Yw _ _);have N:=st8.ex x9;obtain⟨k,S10,e10,Y,gk,v⟩:=M7 H.hb.se 98 (sw:=(sw:Int)) (by lia) (by lia) S9;rw[qD9]at v;have i9:=N.lt;obtain⟨lo,S11,e11,lol,I,k11,st11⟩:=ma H.od H.ta 97 (N.ex Y) (m:=(sw:Int)) (by lia) (by lia);rw[qD9]at I;have R:=k11.lst v (by lia);have lob:∀o∈lo,0<=o/\o<sw:=λo ho=>by
  obtain⟨q,hq,rfl⟩:=qB9.mp (I.mem_iff.mp ho);have:=qC9.mp hq
  lia
 obtain⟨F,W,Z⟩:=fv H.mv 98 g j l (so:=so) (ord:=lo) (by lia) lob R;have mvl:=fi g j l (λk=>decide ((k:Int)∈so)) I;obtain⟨gs,hgs⟩:∃gs,OV sw (λk=>decide ((k:Int)∈so)) (λk=>(lo.getD k 0).toNat) bs=gs:=⟨_,rfl⟩
 have gl:gs.length=2 ^ sw:=by rw[<- hgs];unfold OV;rw[qA0,U5]
 rw[hgs]at W mvl;obtain⟨n12,A⟩:∃n12,F.length=n12:=⟨_,rfl⟩
 obtain⟨S13,G⟩:∃S13,F++[O.lst [Zr gs]]=S13:=⟨_,rfl⟩
 have x13:=G▸YQ F _;have V:ZH S13 n12=Z9 [Zr gs]:=by rw[<- G,<- A];exact Yw _ _
 have e14:Y1 [] .one (λ_=>ret Z7) (Na (Zl Yd 99)) [Z8] (YR bs) S13=.ok (YR (bs.map (!·))) S13:=by rw[show YR (bs.map (!·))=bs.map λb=>D.int (b1 (!b)) by unfold YR;rw[qC7];rfl];exact Ub (λb:Bool=>D.int (b1 b)) (XH S13) _ _ λb _=>⟨_,rfl,by cases b<;>simp[Na,b1]⟩
 obtain⟨S15,L⟩:∃S15,S13++[O.lst (YR (bs.map (!·)))]=S15:=⟨_,rfl⟩
 have P:=L▸YQ S13 _;have t15:Ya [.lst S13.length] S15=.ok (Zr (bs.map (!·))) S15:=Ug (by rw[<- L];exact Yw _ _);have l15:=P.lst V λz=>z;have ap:Ye Xr (.lst n12) [Zr (bs.map (!·))] S15=.ok .non (S15.set n12 (.lst [Zr gs,Zr (bs.map (!·))])):=by rw[Sq l15,Rq,if_pos (by rw[XX];simp)];rfl
 obtain⟨S16,J⟩:∃S16,S15.set n12 (.lst [Zr gs,Zr (bs.map (!·))])=S16:=⟨_,rfl⟩
 have i12:i<n12:=by have:=Z.le;have:=k11.le;have:=Y.le;lia
 have st16:YH S16 i:=J▸(((st11.ex Z).ex x13).ex P).setO (by lia);have l16:ZH S16 n12=Z9 [Zr gs,Zr (bs.map (!·))]:=by rw[<- J];exact UQ l15
 obtain⟨r2,E,e17,c1,c2,k17,_,st17⟩:=Pi H.ta 98 st16 (m:=2) (by decide) (by decide);have l17:=k17.lst l16 (by lia);obtain⟨cs,i17,Q,csv⟩:∃cs:List Bool,ZA (.lst n12) (.int r2) E=.ok (Zr cs) E/\cs.length=2 ^ sw/\Xy sw (ZK 0 cs)=ix:=by
  have e:=Ue l17 r2;have:r2=0∨r2=1:=by lia
  rcases this with rfl|rfl
  .exact⟨gs,by rw[e];rfl,gl,mvl.trans C⟩
  .exact⟨bs.map (!·),by rw[e];rfl,by rw[qA0];exact l,(fh g j l).trans C⟩
 have cx:=(Q3 g j (Q5 Q)).2;rw[csv]at cx;obtain⟨u,e18,x18⟩:=Cb H.fe 91 g j Q cx (by lia) E;obtain⟨q,d,e19,fs,X⟩:∃q d,((sw:Int)<3->Zl Yd 99 "fewest_many" [.int (sw:Int)] u=.ok (.lst q) d)/\((sw:Int)<3->X4 [.lst q] d=.ok (.int ((2 ^ 2 ^ sw:Nat):Int)) d)/\(¬(sw:Int)<3->d=u):=by
  by_cases a:(sw:Int)<3
  .obtain⟨q,d,e,_,f⟩:=eY H.my 92 g (by lia) u;exact⟨q,d,λ_=>e,λ_=>f,λn=>absurd a n⟩
  .exact⟨0,u,λn=>absurd n a,λn=>absurd n a,λ_=>rfl⟩
 exact⟨_,d,eZ (Zl Yd 99) (p:=((2 ^ sw:Nat):Int)) e1 T h2 e3 em hs e4 e5 e6 e7 e8 e8' ⟨by lia,by lia⟩ (by unfold Y3;rw[qA0,qD2,qD9,XX];lia) e9' h9 t9 e10 e11 W A G (by simp[Zr]) (by unfold YR;rw[qA0,l,XX];lia) e14 L t15 (Tj V) ap J e17 i17 e18 e19 fs X (by lia) (by lia) (by rw[qD9];simp) (by lia) (by lia) (by rw[qD9];simp),⟨_,_,_,_,_,_,_,rfl⟩⟩
theorem eV(c:ZQ){len:Nat}(b:Zw [a] S=.ok (.int len) S)(k:(if(if(2:Int)<(len:Int)then 2 else(len:Int))>1 then(if(2:Int)<(len:Int)then 2 else(len:Int))else 1)=q)(g:-4611686018427387904<=q/\q<4611686018427387904)(i:YV [] (gN 1) (T9 c) (Y3 0 q.toNat) [Z9 a,Z8,Z8,Z8,Z8,Z8,Z8,Z8] S=.nx [Z9 a,j,d,f,h,w5,l,e] S3):
  Pk c [Z9 a,Z8,Z8,Z8,Z8,Z8,Z8,Z8] S=.rt (.bl Z7) S3:=by simp[Pk,b,k,g,i]
theorem eU(h:nr (Zl Yd))(H:Bw)(a:yA):∃S',Zl Yd 100 "law" [.rol (a.map D.int)] []=.ok (.bl Z7) S':=by
 rw[show(100:Nat)=99+1 from rfl,h];generalize hsc:D.rol (a.map D.int)=sc;have s:∃q:Int,(if(if(2:Int)<(a.length:Int)then 2 else(a.length:Int))>1 then(if(2:Int)<(a.length:Int)then 2 else(a.length:Int))else 1)=q/\0<=q/\q<=2:=⟨_,rfl,by split<;>(try split)<;>lia,by split<;>(try split)<;>lia⟩
 obtain⟨q,v,x,y⟩:=s;obtain⟨z,r,u,t,c,f,m,o,i,l,rfl⟩:=Uc (w:=[]) (g:=gN 1) (b:=T9 (Zl Yd 99)) (items:=Y3 0 q.toNat) (λj B S=>Bv sc B) (B:=[Z9 sc,Z8,Z8,Z8,Z8,Z8,Z8,Z8]) (S:=[])
  (λj B S k=>XH _) ⟨_,_,_,_,_,_,_,rfl⟩
  (λj d B S n k=>by
   obtain⟨t,c,f,m,o,i,l,rfl⟩:=k;rw[JM]at n;obtain⟨A,rfl⟩:=n;obtain⟨C,S',e,p⟩:=eX H a hsc (0+(j:Int)) (by lia) S c f m o i l;exact⟨_,_,rfl,_,S',.inl e,p⟩)
 exact⟨r,Y0 rfl (eV _ (by rw[<- hsc,n7,qA0]) v ⟨by lia,by lia⟩ u)⟩
end My
set_option maxHeartbeats 4000000
namespace My
open PySem L2
def tbl:Uh:=Yd
def Zb(i:Nat):Stmt:=PySem.Challenge.pw_contactnets_k54_whole_fewest_contacts.main.body.getD i (.Pass ⟨0,0,0,0⟩)
theorem hk{f g:Nat->yM->M D}(h:f=g)(n:Nat):f n=g n:=congrFun h n
abbrev H4:Stmt:=Zb 4
abbrev HZ:Stmt:=Zb 5
abbrev HY:Stmt:=Zb 6
abbrev HX:Stmt:=Zb 7
abbrev HW:Stmt:=Zb 8
abbrev HV:Stmt:=Zb 9
abbrev HU:Stmt:=Zb 10
abbrev HS:Stmt:=Zb 11
abbrev HR:Stmt:=Zb 12
abbrev HQ:Stmt:=Zb 13
abbrev HP:Stmt:=Zb 14
abbrev HN:Stmt:=Zb 15
abbrev HM:Stmt:=Zb 16
abbrev HL:Stmt:=Zb 18
abbrev HK:Stmt:=Zb 19
abbrev HI:Stmt:=Zb 20
abbrev HH:Stmt:=Zb 21
abbrev HG:Stmt:=Zb 22
abbrev HE:Stmt:=Zb 24
abbrev HD:Stmt:=Zb 25
abbrev HC:Stmt:=Zb 26
abbrev HA:Stmt:=Zb 27
abbrev Hz:Stmt:=Zb 28
abbrev Hy:Stmt:=Zb 29
abbrev Hx:Stmt:=Zb 30
abbrev Hw:Stmt:=Zb 31
abbrev Hv:Stmt:=Zb 32
abbrev Hu:Stmt:=Zb 33
abbrev Ht:Stmt:=Zb 35
abbrev Hs:Stmt:=Zb 36
abbrev Hr:Stmt:=Zb 37
abbrev Hq:Stmt:=Zb 38
abbrev Ho:Stmt:=Zb 39
abbrev Hn:Stmt:=Zb 40
abbrev Hm:Stmt:=Zb 41
abbrev Hl:Stmt:=Zb 42
abbrev Hk:Stmt:=Zb 43
abbrev Hj:Stmt:=Zb 44
abbrev Hi:Stmt:=Zb 45
abbrev Hh:Stmt:=Zb 46
abbrev Hg:Stmt:=Zb 47
abbrev Hf:Stmt:=Zb 48
abbrev He:Stmt:=Zb 49
abbrev Hd:Stmt:=Zb 51
abbrev Hc:Stmt:=Zb 52
abbrev Hb:Stmt:=Zb 53
abbrev Ha:Stmt:=Zb 54
abbrev G9:Stmt:=Zb 55
abbrev G8:Stmt:=Zb 56
abbrev G7:Stmt:=Zb 57
abbrev G6:Stmt:=Zb 58
abbrev R3:Stmt:=Zb 59
abbrev Za(x:Str)(N:yH)(st:wG)(b:ZQ->CS):Prop:=(λa:ZQ=>cSts (To tbl) a 60 ⟨N,(XT st).names,Z9 x⟩ (WQ st))=λa=>Z9 (b a)
theorem Bu:Nx (Zl tbl):=hk (by kernel_rfl)
theorem eT:Za "is_whole" ["thing"] H4 Ny:=by kernel_rfl
theorem Bt:J7 (Zl tbl):=hk (by kernel_rfl)
theorem eS:Za "is_bit" ["thing"] HZ P7:=by kernel_rfl
theorem Q2:Rm (Zl tbl):=hk (by kernel_rfl)
theorem eR:Za "settings" ["switches","told","switch"] HY Nw:=by kernel_rfl
theorem MO:Rl (Zl tbl):=hk (by kernel_rfl)
theorem eQ:Za "is_shut" ["contact","setting"] HX Nv:=by kernel_rfl
theorem MN:So (Zl tbl):=hk (by kernel_rfl)
theorem eP:Za "places_from" ["start","contacts","found","grown","contact"] HW Nr:=by kernel_rfl
theorem MM:P6 (Zl tbl):=hk (by kernel_rfl)
theorem eO:Za "joins" ["contacts"] HV Nq:=by kernel_rfl
theorem ML:P5 (Zl tbl):=hk (by kernel_rfl)
theorem eN:Za "shut_contacts" ["net","setting"] HU Np:=by kernel_rfl
theorem MK:Nm (Zl tbl):=hk (by kernel_rfl)
theorem eM:Za "lets" ["net","setting"] HS Nn:=by kernel_rfl
theorem Bs:Dq (Zl tbl):=hk (by kernel_rfl)
theorem eL:Za "is_function" ["switches","thing"] HR Ti:=by kernel_rfl
theorem MJ:JT (Zl tbl):=hk (by kernel_rfl)
theorem eK:Za "function_of" ["net"] HQ Nl:=by kernel_rfl
theorem MI:Nj (Zl tbl):=hk (by kernel_rfl)
theorem eJ:Za "switches_of" ["function"] HP P4:=by kernel_rfl
theorem eI:Za "where_both" ["one","other"] HN Dp:=by kernel_rfl
theorem eH:Za "where_either" ["one","other"] HM Do:=by kernel_rfl
theorem eG:Za "moved_contact" ["contact","new"] HL Dn:=by kernel_rfl
theorem eF:Za "moved" ["contacts","new"] HK Dm:=by kernel_rfl
theorem eE:Za "net_within" ["switches","places","contacts"] HI Dl:=by kernel_rfl
theorem eD:Za "in_row" ["one","other","middle","first","second"] HH Dk:=by kernel_rfl
theorem eC:Za "side_by_side" ["one","other","places","second"] HG Dj:=by kernel_rfl
theorem eB:Za "is_lone" ["switches","thing"] HE Di:=by kernel_rfl
theorem eA:Za "has_parts" ["thing"] HD Dh:=by kernel_rfl
theorem ez:Za "is_tree" ["switches","thing","waiting","contacts","part"] HC Dg:=by kernel_rfl
theorem ew:Za "contacts_of" ["tree"] HA Df:=by kernel_rfl
theorem MG:JS (Zl tbl):=hk (by kernel_rfl)
theorem et:Za "lone_net" ["switches","tree"] Hz Ni:=by kernel_rfl
theorem MF:∀n,Zl tbl (n+1) "tree_function"=VM (Zz 2 5 (Sm (Zl tbl n))):=hk (by kernel_rfl)
theorem eo:Za "tree_function" ["switches","tree","told","part","bits"] Hy Sm:=by kernel_rfl
theorem ek:Za "net_of" ["switches","tree","told","part","net"] Hx De:=by kernel_rfl
theorem ej:Za "inside_out" ["tree","kind"] Hw Dd:=by kernel_rfl
theorem eh:Za "other_ons" ["tree"] Hv Dc:=by kernel_rfl
theorem eg:Za "against" ["tree"] Hu Da:=by kernel_rfl
theorem ME:Sl (Zl tbl):=hk (by kernel_rfl)
theorem ef:Za "number_of" ["function","number","bit"] Ht P0:=by kernel_rfl
theorem ee:Za "function_with" ["number","size"] Hs PY:=by kernel_rfl
theorem MD:Ng (Zl tbl):=hk (by kernel_rfl)
theorem dV:Za "first_level" ["switches","level","switch","on","tree"] Hr PV:=by kernel_rfl
theorem G5:Sk (Zl tbl):=hk (by kernel_rfl)
theorem dy:Za "add_made" ["level","one","other","known","first","second","kind","made"] Hq PU:=by kernel_rfl
theorem G4:PN (Zl tbl):=hk (by kernel_rfl)
theorem dw:Za "further_level" ["levels","known","level","told","less"] Ho PP:=by kernel_rfl
theorem G3:C9 (Zl tbl):=hk (by kernel_rfl)
theorem dv:Za "levels_to" ["function","switches","levels"] Hn PM:=by kernel_rfl
theorem du:Za "fewest" ["function"] Hm PL:=by kernel_rfl
theorem dq:∀n,Zl tbl (n+1) "fewest_tree"=VM (Zz 1 1 (Sj (Zl tbl n))):=hk (by kernel_rfl)
theorem dn:Za "fewest_tree" ["function"] Hl Sj:=by kernel_rfl
theorem dm:Za "is_rising_list" ["switches","thing"] Hk Ua:=by kernel_rfl
theorem dj:Za "has_all_made" ["some","one","other","first","second"] Hj PH:=by kernel_rfl
theorem dh:Za "goes_on" ["lists","some","switches","less"] Hi Tf:=by kernel_rfl
theorem dg:Za "is_paper" ["function","thing","switches","lists","part","some"] Hh Si:=by kernel_rfl
theorem df:Za "paper_of" ["function","known","told","level"] Hg PD:=by kernel_rfl
theorem de:Za "how_many_functions" ["switches","count","setting"] Hf PB:=by kernel_rfl
theorem dd:Za "fewest_many" ["switches","levels"] He Px:=by kernel_rfl
theorem da:Za "_law_cell_at" ["_law_script","_law_k"] Hd Pw:=by kernel_rfl
theorem cZ:Za "_law_state" ["_law_script","_law_k","_law_cell"] Hc Pv:=by kernel_rfl
theorem cY:Za "_law_take" ["_law_state_here","_law_many","_law_found","_law_mixed"] Hb Pu:=by kernel_rfl
theorem cX:Za "_law_some_function" ["_law_state_here","_law_switches"] Ha Pr:=by kernel_rfl
theorem cW:Za "_law_order" ["_law_state_here","_law_many","_law_found","_law_one"] G9 Nb:=by kernel_rfl
theorem cV:Za "_law_moved" ["_law_function","_law_every","_law_some","_law_order_here","_law_found","_law_setting","_law_there"] G8 Po:=by kernel_rfl
theorem cU:∀n,Zl tbl (n+1) "_law_tree_right"=VM (Zz 3 4 (Pn (Zl tbl n))):=hk (by kernel_rfl)
theorem cS:Za "_law_tree_right" ["_law_switches","_law_function","_law_number","_law_tree"] G7 Pn:=by kernel_rfl
theorem cR:Za "_law_paper_right" ["_law_function","_law_number","_law_paper"] G6 Sh:=by kernel_rfl
theorem Br:W0 ["_law_script","_law_k","_law_state_here","_law_switches","_law_function","_law_number","_law_some","_law_others"] ["_law_script"] (XT R3)=Z7:=by decide
theorem Bq:Za "law" ["_law_script","_law_k","_law_state_here","_law_switches","_law_function","_law_number","_law_some","_law_others"] R3 Pk:=by kernel_rfl
theorem cQ(a:yA)(h:a.length<=63):∃S',Zl tbl 100 "law" [.rol (a.map D.int)] []=.ok (.bl Z7) S':=eU (hk (by kernel_rfl)) ⟨hk (by kernel_rfl),hk (by kernel_rfl),hk (by kernel_rfl),hk (by kernel_rfl),hk (by kernel_rfl),hk (by kernel_rfl),⟨⟨M2 ⟨Q2,MO,MN,MM,ML,MK,MJ⟩ MG MF,MI,ME,MD,G5,G4,G3⟩,hk (by kernel_rfl)⟩,⟨⟨⟨M2 ⟨Q2,MO,MN,MM,ML,MK,MJ⟩ MG MF,MI,ME,MD,G5,G4,G3⟩,hk (by kernel_rfl),hk (by kernel_rfl)⟩,⟨⟨hk (by kernel_rfl),hk (by kernel_rfl),MD,M2 ⟨Q2,MO,MN,MM,ML,MK,MJ⟩ MG MF,ME⟩,hk (by kernel_rfl),⟨Q2,Bu,Bt,Bs⟩,MI,hk (by kernel_rfl)⟩,hk (by kernel_rfl)⟩,⟨⟨M2 ⟨Q2,MO,MN,MM,ML,MK,MJ⟩ MG MF,MI,ME,MD,G5,G4,G3⟩,hk (by kernel_rfl),hk (by kernel_rfl)⟩,⟨Q2,Bu,Bt,Bs⟩,⟨dq,cU⟩⟩ a
def DF(K:yS)(n:Str)(st:wG):Prop:=∃(f:yR) (e d:Option yR) (c:Array (yF)) (h kV g b a i:yT),W.nsIn K jZ n=Z9 (Z9 (.ref f))/\K.lookup f=Z9 ⟨h,e,.func (lA n n (UB st) (WQ st) (XT st) .none kV g b d a i),c⟩/\dZ K a n=Z7/\mU K (.ref f)=Z7
theorem mkDF{sl:Array (yF)}{i kV h d b j:yT}(a:W.nsIn K jZ n=Z9 (Z9 (.ref f)))(l:K.lookup f=Z9 ⟨i,g,.func (lA n n (UB st) (WQ st) (XT st) .none kV h d e b j),sl⟩)(c:dZ K b n=Z7)(k:mU K (.ref f)=Z7):DF K n st:=⟨f,g,e,sl,i,kV,h,d,b,j,a,l,c,k⟩
theorem DF.in{m:Str->yF}(d:DF K n st)(X:K.In h)(G:h.Ns jZ m):∃(f:yR) (kV i b:yT) (e:Option yR) (g j:yT),m n=Z9 (.ref f)/\Vp K n n st f (lA n n (UB st) (WQ st) (XT st) .none kV i b e g j):=by obtain⟨f,p,e,o,q,kV,i,b,g,j,a,l,c,k⟩:=d;exact⟨f,kV,i,b,e,g,j,W.mg_of X G a,xO l c k⟩
def ZN(K:yS):yH->Prop
 |[]=>True
 |x::r=>W.nsIn K jZ x=Z9 Z8/\ZN K r
theorem ZN.none(X:K.In h)(G:h.Ns jZ a):∀{l:yH},ZN K l->NK a l
 |[],_=>True.intro
 |_::_,z=>⟨W.mg_none_of X G z.1,z.2.none X G⟩
def BP(st:wG)(n:Str)(ps:yH)(kV a d:yT)(e:Option yR)(b f:yT)(c:yB):Prop:=bindArgs (lA n n (UB st) (WQ st) (XT st) .none kV a d e b f) ⟨c,[]⟩=pure (ps.zip c)
def BF(st:wG)(n:Str)(ps:yH):Prop:=∀(kV a d:yT) (e:Option yR) (b f:yT) (c:yB),c.length=ps.length->BP st n ps kV a d e b f c
theorem Y9{c:Str->yF}{a np nN:Nat}(d:DF K x st)(X:K.In h)(G:h.Ns jZ c)(i:BF st x ps)(hs:W0 N ps (XT st)=Z7)
  (g:(λcl:ZQ=>cSts ar cl a ⟨N,(XT st).names,Z9 x⟩ (WQ st))=λcl=>Z9 (b cl)) (e:ps.length=np:=by rfl) (f:N.length=nN:=by rfl):Sr K c ar x (np,nN,b):=by obtain⟨_,_,_,_,_,_,_,m,F⟩:=d.in X G;exact oh F m (F.binds (ps:=ps) i) hs g e f
theorem MC:∀b:yB,b.length=n+1->∃a r,b=a::r/\r.length=n
 |a::r,h=>⟨a,r,rfl,Nat.succ.inj h⟩
theorem cP{P:yB->Prop}(h:P [])(us:yB)(a:us.length=0):P us:=by rw[qK6 a];exact h
theorem Bp{P:yB->Prop}(h:∀b:yT,P [b])(us:yB)(c:us.length=1):P us:=by obtain⟨a,r,rfl,d⟩:=MC us c;exact cP (P:=λr=>P (a::r)) (h a) r d
theorem Bo{P:yB->Prop}(h:∀b c:yT,P [b,c])(us:yB)(d:us.length=2):P us:=by obtain⟨a,r,rfl,e⟩:=MC us d;exact Bp (P:=λr=>P (a::r)) (h a) r e
theorem Bn{P:yB->Prop}(h:∀b d c:yT,P [b,d,c])(us:yB)(e:us.length=3):P us:=by obtain⟨a,r,rfl,f⟩:=MC us e;exact Bo (P:=λr=>P (a::r)) (h a) r f
theorem cO{P:yB->Prop}(h:∀b e d c:yT,P [b,e,d,c])(us:yB)(f:us.length=4):P us:=by obtain⟨a,r,rfl,g⟩:=MC us f;exact Bn (P:=λr=>P (a::r)) (h a) r g
theorem Xc {st n a}(h:∀c d p e f g b,BP st n [a] c d p e f g [b]):BF st n [a]:=λc d p e f g=>Bp (P:=BP st n [a] c d p e f g) (h c d p e f g)
theorem XC {st n a b}(h:∀c d p e f g i j,BP st n [a,b] c d p e f g [i,j]):BF st n [a,b]:=λc d p e f g=>Bo (P:=BP st n [a,b] c d p e f g) (h c d p e f g)
theorem MB {st n a i b}(h:∀c d p e f g k l j,BP st n [a,i,b] c d p e f g [k,l,j]):BF st n [a,i,b]:=λc d p e f g=>Bn (P:=BP st n [a,i,b] c d p e f g) (h c d p e f g)
theorem Bm {st n b j i a}(h:∀c d p e f g o l k m,BP st n [b,j,i,a] c d p e f g [o,l,k,m]):BF st n [b,j,i,a]:=λc d p e f g=>cO (P:=BP st n [b,j,i,a] c d p e f g) (h c d p e f g)
theorem cN:BF H4 "is_whole" ["thing"]:=Xc λ_ _ _ _ _ _ _=>rfl
theorem cM:BF HZ "is_bit" ["thing"]:=Xc λ_ _ _ _ _ _ _=>rfl
theorem cL:BF HY "settings" ["switches"]:=Xc λ_ _ _ _ _ _ _=>rfl
theorem cK:BF HX "is_shut" ["contact","setting"]:=XC λ_ _ _ _ _ _ _ _=>rfl
theorem cJ:BF HW "places_from" ["start","contacts"]:=XC λ_ _ _ _ _ _ _ _=>rfl
theorem cI:BF HV "joins" ["contacts"]:=Xc λ_ _ _ _ _ _ _=>rfl
theorem cH:BF HU "shut_contacts" ["net","setting"]:=XC λ_ _ _ _ _ _ _ _=>rfl
theorem cF:BF HS "lets" ["net","setting"]:=XC λ_ _ _ _ _ _ _ _=>rfl
theorem cD:BF HR "is_function" ["switches","thing"]:=XC λ_ _ _ _ _ _ _ _=>rfl
theorem cC:BF HQ "function_of" ["net"]:=Xc λ_ _ _ _ _ _ _=>rfl
theorem cB:BF HP "switches_of" ["function"]:=Xc λ_ _ _ _ _ _ _=>rfl
theorem cA:BF HN "where_both" ["one","other"]:=XC λ_ _ _ _ _ _ _ _=>rfl
theorem cz:BF HM "where_either" ["one","other"]:=XC λ_ _ _ _ _ _ _ _=>rfl
theorem cy:BF HL "moved_contact" ["contact","new"]:=XC λ_ _ _ _ _ _ _ _=>rfl
theorem cw:BF HK "moved" ["contacts","new"]:=XC λ_ _ _ _ _ _ _ _=>rfl
theorem cv:BF HI "net_within" ["switches","places","contacts"]:=MB λ_ _ _ _ _ _ _ _ _=>rfl
theorem cu:BF HH "in_row" ["one","other"]:=XC λ_ _ _ _ _ _ _ _=>rfl
theorem cq:BF HG "side_by_side" ["one","other"]:=XC λ_ _ _ _ _ _ _ _=>rfl
theorem cp:BF HE "is_lone" ["switches","thing"]:=XC λ_ _ _ _ _ _ _ _=>rfl
theorem cn:BF HD "has_parts" ["thing"]:=Xc λ_ _ _ _ _ _ _=>rfl
theorem cm:BF HC "is_tree" ["switches","thing"]:=XC λ_ _ _ _ _ _ _ _=>rfl
theorem ck:BF HA "contacts_of" ["tree"]:=Xc λ_ _ _ _ _ _ _=>rfl
theorem cj:BF Hz "lone_net" ["switches","tree"]:=XC λ_ _ _ _ _ _ _ _=>rfl
theorem cg:BF Hy "tree_function" ["switches","tree"]:=XC λ_ _ _ _ _ _ _ _=>rfl
theorem cf:BF Hx "net_of" ["switches","tree"]:=XC λ_ _ _ _ _ _ _ _=>rfl
theorem b9:BF Hw "inside_out" ["tree"]:=Xc λ_ _ _ _ _ _ _=>rfl
theorem b8:BF Hv "other_ons" ["tree"]:=Xc λ_ _ _ _ _ _ _=>rfl
theorem b7:BF Hu "against" ["tree"]:=Xc λ_ _ _ _ _ _ _=>rfl
theorem b6:BF Ht "number_of" ["function"]:=Xc λ_ _ _ _ _ _ _=>rfl
theorem b0:BF Hs "function_with" ["number","size"]:=XC λ_ _ _ _ _ _ _ _=>rfl
theorem bZ:BF Hr "first_level" ["switches"]:=Xc λ_ _ _ _ _ _ _=>rfl
theorem bY:BF Hq "add_made" ["level","one","other","known"]:=Bm λ_ _ _ _ _ _ _ _ _ _=>rfl
theorem bX:BF Ho "further_level" ["levels"]:=Xc λ_ _ _ _ _ _ _=>rfl
theorem bW:BF Hn "levels_to" ["function"]:=Xc λ_ _ _ _ _ _ _=>rfl
theorem bV:BF Hm "fewest" ["function"]:=Xc λ_ _ _ _ _ _ _=>rfl
theorem bU:BF Hl "fewest_tree" ["function"]:=Xc λ_ _ _ _ _ _ _=>rfl
theorem bT:BF Hk "is_rising_list" ["switches","thing"]:=XC λ_ _ _ _ _ _ _ _=>rfl
theorem bS:BF Hj "has_all_made" ["some","one","other"]:=MB λ_ _ _ _ _ _ _ _ _=>rfl
theorem bR:BF Hi "goes_on" ["lists","some","switches"]:=MB λ_ _ _ _ _ _ _ _ _=>rfl
theorem bQ:BF Hh "is_paper" ["function","thing"]:=XC λ_ _ _ _ _ _ _ _=>rfl
theorem bP:BF Hg "paper_of" ["function"]:=Xc λ_ _ _ _ _ _ _=>rfl
theorem bO:BF Hf "how_many_functions" ["switches"]:=Xc λ_ _ _ _ _ _ _=>rfl
theorem bN:BF He "fewest_many" ["switches"]:=Xc λ_ _ _ _ _ _ _=>rfl
theorem bM:BF Hd "_law_cell_at" ["_law_script","_law_k"]:=XC λ_ _ _ _ _ _ _ _=>rfl
theorem bL:BF Hc "_law_state" ["_law_script","_law_k"]:=XC λ_ _ _ _ _ _ _ _=>rfl
theorem bK:BF Hb "_law_take" ["_law_state_here","_law_many"]:=XC λ_ _ _ _ _ _ _ _=>rfl
theorem bJ:BF Ha "_law_some_function" ["_law_state_here","_law_switches"]:=XC λ_ _ _ _ _ _ _ _=>rfl
theorem bI:BF G9 "_law_order" ["_law_state_here","_law_many"]:=XC λ_ _ _ _ _ _ _ _=>rfl
theorem bH:BF G8 "_law_moved" ["_law_function","_law_every","_law_some","_law_order_here"]:=Bm λ_ _ _ _ _ _ _ _ _ _=>rfl
theorem bG:BF G7 "_law_tree_right" ["_law_switches","_law_function","_law_number"]:=MB λ_ _ _ _ _ _ _ _ _=>rfl
theorem bF:BF G6 "_law_paper_right" ["_law_function","_law_number"]:=XC λ_ _ _ _ _ _ _ _=>rfl
theorem bE:BF R3 "law" ["_law_script"]:=Xc λ_ _ _ _ _ _ _=>rfl
theorem all_mk{l:W.OpenLaw}{a:Str->yF}(X:K.In h)(G:h.Ns jZ a)(hfa:a "law"=Z9 (.ref fa))
  (d1:DF K "is_whole" H4) (d2:DF K "is_bit" HZ) (d3:DF K "settings" HY) (d4:DF K "is_shut" HX) (d5:DF K "places_from" HW) (d6:DF K "joins" HV) (d7:DF K "shut_contacts" HU) (d8:DF K "lets" HS) (d9:DF K "is_function" HR) (H:DF K "function_of" HQ) (d11:DF K "switches_of" HP) (V:DF K "where_both" HN) (f:DF K "where_either" HM) (d14:DF K "moved_contact" HL) (T:DF K "moved" HK) (i:DF K "net_within" HI) (q:DF K "in_row" HH) (Y:DF K "side_by_side" HG) (d19:DF K "is_lone" HE) (j:DF K "has_parts" HD) (Q:DF K "is_tree" HC) (O:DF K "contacts_of" HA) (R:DF K "lone_net" Hz) (N:DF K "tree_function" Hy) (B:DF K "net_of" Hx) (g:DF K "inside_out" Hw) (Z:DF K "other_ons" Hv) (d28:DF K "against" Hu) (d29:DF K "number_of" Ht) (P:DF K "function_with" Hs) (d31:DF K "first_level" Hr) (d:DF K "add_made" Hq) (d33:DF K "further_level" Ho) (M:DF K "levels_to" Hn) (r:DF K "fewest" Hm) (D:DF K "fewest_tree" Hl) (S:DF K "is_rising_list" Hk) (J:DF K "has_all_made" Hj) (d39:DF K "goes_on" Hi) (n:DF K "is_paper" Hh) (d41:DF K "paper_of" Hg) (o:DF K "how_many_functions" Hf) (t:DF K "fewest_many" He) (I:DF K "_law_cell_at" Hd) (C:DF K "_law_state" Hc) (c:DF K "_law_take" Hb) (d47:DF K "_law_some_function" Ha) (E:DF K "_law_order" G9) (k:DF K "_law_moved" G8) (u:DF K "_law_tree_right" G7) (U:DF K "_law_paper_right" G6) (b:DF K "law" R3) (z:ZN K Qi) :
  ∃fd:vU,(∀(s:yQ) (v:yT),dW s fd ⟨[v],[]⟩ [("_law_script",v)])/\∀base:jH,K.In base->base.Ns jZ a->X7 l.prog w K a base UW 100 fa fd ["_law_script"] (NM K):=by obtain⟨_,kV,dc,pm,an,cd,ct,m,F⟩:=b.in X G;have e:=hfa.symm.trans m;cases e;have A:Rr K a (To tbl) tbl:=And.intro (Y9 d1 X G cN (by decide) eT) (And.intro (Y9 d2 X G cM (by decide) eS) (And.intro (Y9 d3 X G cL (by decide) eR) (And.intro (Y9 d4 X G cK (by decide) eQ) (And.intro (Y9 d5 X G cJ (by decide) eP) (And.intro (Y9 d6 X G cI (by decide) eO) (And.intro (Y9 d7 X G cH (by decide) eN) (And.intro (Y9 d8 X G cF (by decide) eM) (And.intro (Y9 d9 X G cD (by decide) eL) (And.intro (Y9 H X G cC (by decide) eK) (And.intro (Y9 d11 X G cB (by decide) eJ) (And.intro (Y9 V X G cA (by decide) eI) (And.intro (Y9 f X G cz (by decide) eH) (And.intro (Y9 d14 X G cy (by decide) eG) (And.intro (Y9 T X G cw (by decide) eF) (And.intro (Y9 i X G cv (by decide) eE) (And.intro (Y9 q X G cu (by decide) eD) (And.intro (Y9 Y X G cq (by decide) eC) (And.intro (Y9 d19 X G cp (by decide) eB) (And.intro (Y9 j X G cn (by decide) eA) (And.intro (Y9 Q X G cm (by decide) ez) (And.intro (Y9 O X G ck (by decide) ew) (And.intro (Y9 R X G cj (by decide) et) (And.intro (Y9 N X G cg (by decide) eo) (And.intro (Y9 B X G cf (by decide) ek) (And.intro (Y9 g X G b9 (by decide) ej) (And.intro (Y9 Z X G b8 (by decide) eh) (And.intro (Y9 d28 X G b7 (by decide) eg) (And.intro (Y9 d29 X G b6 (by decide) ef) (And.intro (Y9 P X G b0 (by decide) ee) (And.intro (Y9 d31 X G bZ (by decide) dV) (And.intro (Y9 d X G bY (by decide) dy) (And.intro (Y9 d33 X G bX (by decide) dw) (And.intro (Y9 M X G bW (by decide) dv) (And.intro (Y9 r X G bV (by decide) du) (And.intro (Y9 D X G bU (by decide) dn) (And.intro (Y9 S X G bT (by decide) dm) (And.intro (Y9 J X G bS (by decide) dj) (And.intro (Y9 d39 X G bR (by decide) dh) (And.intro (Y9 n X G bQ (by decide) dg) (And.intro (Y9 d41 X G bP (by decide) df) (And.intro (Y9 o X G bO (by decide) de) (And.intro (Y9 t X G bN (by decide) dd) (And.intro (Y9 I X G bM (by decide) da) (And.intro (Y9 C X G bL (by decide) cZ) (And.intro (Y9 c X G bK (by decide) cY) (And.intro (Y9 d47 X G bJ (by decide) cX) (And.intro (Y9 E X G bI (by decide) cW) (And.intro (Y9 k X G bH (by decide) cV) (And.intro (Y9 u X G bG (by decide) cS) (And.intro (Y9 U X G bF (by decide) cR) (And.intro (Y9 b X G bE Br Bq) (True.intro))))))))))))))))))))))))))))))))))))))))))))))))))));refine⟨lA "law" "law" (UB R3) (WQ R3) (XT R3) .none kV dc pm an cd ct,λs v=>.of_eq rfl,λbase _ _=>?_⟩;exact oj (L:=99) (λx p e=>A.look x p e) ⟨λy hy _=>(z.none X G).mem y hy⟩ (by kernel_rfl) F Br rfl (λcl=>congrFun Bq cl) (λns h=>cQ ns h)
end My
open PySem PySem.W PyProof.Rows
namespace PySem.W.Fast
def tw1638110086543776643:=0
def tw11703771149955308114:=0
def tw15659356629833503108:=0
def tw12765725356257892165:=0
def tw5289708339633308375:=0
def tw11355344117762571973:=0
def tw9968342937061340832:=0
def tw8659190559382917724:=0
def tw4705097109324194963:=0
def tw3423694361588917459:=0
def tw278934584252812755:=0
def tw10023561320591348735:=0
def tw3338285524999296988:=0
def tw5119373337067676225:=0
def tw14292326324671536813:=0
def tw10442925096338928702:=0
def tw7072447501770389240:=0
def tw13220225876283999387:=0
def tw2405555072604008962:=0
def tw9292697859645182837:=0
def tw7508901946698750687:=0
def tw2145382936708443162:=0
def tw5960513441860010038:=0
def tw252958604764992659:=0
def tw3202188994571403644:=0
def tw4159179936832033518:=0
def tw12857890655132108248:=0
def tw12024999393413565604:=0
def tw12543447527894627602:=0
def tw15898656571955394593:=0
def tw10589791597339138450:=0
def tw13643562453654942190:=0
def tw15711484198791117357:=0
def tw13663348315315458683:=0
def tw18188970406785770450:=0
def tw16819424591191374334:=0
def tw3592796644399890670:=0
def tw4744104089416187899:=0
def tw5086554195756166068:=0
def tw11946252859531666024:=0
def tw10622979012987049590:=0
def tw16712523280642949498:=0
def tw9204999188474363246:=0
def tw13173138683992830032:=0
def tw1024980789457755836:=0
def tw16598477099046293977:=0
def tw7081188716345758663:=0
def tw8115179471946038315:=0
def tw1714133464028796617:=0
def tw11119237505085745441:=0
def tw3959834734743617742:=0
def tw6923257393861326386:=0
def tw4238343443595559349:=0
def tw14816195960249224002:=0
def tw6183557374838578567:=0
def tw6115666863740966123:=0
def tw3792682840420751064:=0
def tw3027573035311013201:=0
def tw16371734150276127270:=0
def tw972107200253236643:=0
def tw10465953057378672088:=0
def tw13298252063226160414:=0
def tw10465498890181427192:=0
def tw843767807880856158:=0
def tw18169063082065829436:=0
def tw10617181132497340561:=0
def tw14760939540876973727:=0
def tw10468668111520776330:=0
def tw11981932727384355014:=0
def tw7614696422331607229:=0
def tw15464795926553886447:=0
def tw4231752030179443729:=0
def tw6438218822853403287:=0
def tw17007239929921393829:=0
def tw7748499132808385021:=0
def tw10742743392727208439:=0
def tw10624956362790130874:=0
def tw17866585909606111942:=0
def tw15384334237110158016:=0
def tw9156862335135681706:=0
def tw11140468626592291313:=0
def tw10737083690511316892:=0
def tw11315236595753938913:=0
def tw2802902190572285903:=0
def tw8890727318688402067:=0
def tw7567629868575665812:=0
def tw9304073376007565259:=0
def tw862402476316664174:=0
def tw3071375155806134369:=0
def tw3168294247789267837:=0
def tw14240464974583746789:=0
def tw10424471927660956581:=0
def tw8529016028316343510:=0
def tw552214029582066714:=0
def tw16255455175968829541:=0
def tw13349321073004406902:=0
def tw5513928896433637339:=0
def tw14383289798787641703:=0
def tw2263085414528912279:=0
def tw6418444129526074018:=0
def tw12236611384302131054:=0
def tw8894286005814914303:=0
def tw6124863803296475531:=0
def tw7688756714393333063:=0
def tw2718960296587263571:=0
def tw12857819605609597210:=0
def tw10220467266570895879:=0
def tw4904537542686926475:=0
def tw489974137199461164:=0
def tw9018386924346326286:=0
def tw13307204236157467774:=0
def tw1741202462867298948:=0
def tw194384168565071094:=0
def tw12247451309208864442:=0
def tw16133316155505105718:=0
def tw10227952227597249991:=0
def tw8009592161259558375:=0
def tw17897450421943782711:=0
def tw12654393721461939149:=0
def tw13879150011896793818:=0
def tw13327472349186796360:=0
def tw12397271416515390536:=0
def tw2797146369821673342:=0
def tw10819024000261266462:=0
def tw14447800359383244428:=0
def tw3095905900545368825:=0
def tw843908583373693889:=0
def tw7730509905035172316:=0
def tw990964754683042160:=0
def tw14987299894066976868:=0
def tw1000356385462223338:=0
def tw4006435230724920242:=0
def tw14656742486993702766:=0
def tw1314563108290167078:=0
def tw8671623902059258206:=0
def tw4566595469708431602:=0
def tw11285606129160131522:=0
def tw1845950224686987169:=0
def tw7326033397837156747:=0
def tw6563076949403922081:=0
def tw13766660659904672532:=0
def tw7407820251111797306:=0
def tw16588642919604277073:=0
def tw9188505931787085339:=0
def tw17989705236209001925:=0
def tw18337185861872573201:=0
def tw1261164944523218402:=0
def tw8571523505457742217:=0
def tw5127951574159073390:=0
def tw9505903070165936763:=0
def tw4121601046343592923:=0
def tw16122499110988642646:=0
def tw1312872690421715963:=0
def tw12455905590097457081:=0
def tw2686985998600549232:=0
def tw17364016315144594893:=0
def tw8662107243613899699:=0
def tw16738399167797392507:=0
def tw5551624269801811102:=0
def tw746300388304827357:=0
def tw4700074000375493564:=0
def tw9979660095458294671:=0
def tw7960814600649416759:=0
def tw16745192887303320579:=0
def tw978353164988285145:=0
def tw18320097160229691781:=0
def tw2456772452230636789:=0
def tw15356539185042909497:=0
def tw11983863735917660985:=0
def tw5381675266895740769:=0
def tw2134510358104089528:=0
def tw15904581729543482164:=0
def tw12335135551856123121:=0
def tw8325240857526421902:=0
def tw5002613913232345540:=0
def tw1439280174360849858:=0
def tw13529997215232275143:=0
def tw1212896427295037262:=0
def tw6533805625219889996:=0
def tw1007029219758993180:=0
def tw5371982652163862291:=0
def tw9662996818178665825:=0
def tw14027193839549906175:=0
def tw439025302518447109:=0
def tw8145916213244176664:=0
def tw5656547271572966512:=0
def tw15862299059140080647:=0
def tw11726103859842217421:=0
def tw17733731473868087486:=0
def tw13023723567548178875:=0
def tw6982816141832076729:=0
def tw3141074289781654890:=0
def tw15059313944191718798:=0
def tw7239182517022489403:=0
def tw2666676349845421941:=0
def tw715779404468790022:=0
def tw10026966153504662917:=0
def tw16222938234573027995:=0
def tw2835492891994044552:=0
def tw5909115063362866788:=0
def tw3299943842904468602:=0
def tw2031068032027962883:=0
def tw1914233181572952821:=0
def tw16323761542063914748:=0
def tw15582836062776142492:=0
def tw11988249472238523281:=0
def tw11508223552407582964:=0
def tw11411551652231056504:=0
def tw11406700945798499350:=0
def tw11378268149627473165:=0
def tw6772032996939828754:=0
def tw3398005158932457261:=0
def tw2885184044997193336:=0
def tw10253127005645194417:=0
def tw13584341872053787488:=0
def tw15755421329063932599:=0
end PySem.W.Fast
set_option maxRecDepth 100000 in
set_option maxHeartbeats 0 in
theorem PySem.Challenge.cw_contactnets_k54_whole_fewest_contacts_holds : PySem.Challenge.rw_contactnets_k54_whole_fewest_contacts.Holds := by
 w_on; o_law; k_head; (case hw=>w_witness2)
 k_fill
 refine L2.walk_ev (L:=100) (l:=PySem.Challenge.rw_contactnets_k54_whole_fewest_contacts) rfl rfl ⟨rfl,by decide,by decide,rfl⟩ (fun w h Y=>PySem.W.kIn_of Y) ?F
 case F =>
  intro w mg fa h KX G hmg
  refine' My.all_mk KX G hmg (My.mkDF ?a1 ?l1 ?c1 ?k1) (My.mkDF ?a2 ?l2 ?c2 ?k2) (My.mkDF ?a3 ?l3 ?c3 ?k3) (My.mkDF ?a4 ?l4 ?c4 ?k4) (My.mkDF ?a5 ?l5 ?c5 ?k5) (My.mkDF ?a6 ?l6 ?c6 ?k6) (My.mkDF ?a7 ?l7 ?c7 ?k7) (My.mkDF ?a8 ?l8 ?c8 ?k8) (My.mkDF ?a9 ?l9 ?c9 ?k9) (My.mkDF ?a10 ?l10 ?c10 ?k10) (My.mkDF ?a11 ?l11 ?c11 ?k11) (My.mkDF ?a12 ?l12 ?c12 ?k12) (My.mkDF ?a13 ?l13 ?c13 ?k13) (My.mkDF ?a14 ?l14 ?c14 ?k14) (My.mkDF ?a15 ?l15 ?c15 ?k15) (My.mkDF ?a16 ?l16 ?c16 ?k16) (My.mkDF ?a17 ?l17 ?c17 ?k17) (My.mkDF ?a18 ?l18 ?c18 ?k18) (My.mkDF ?a19 ?l19 ?c19 ?k19) (My.mkDF ?a20 ?l20 ?c20 ?k20) (My.mkDF ?a21 ?l21 ?c21 ?k21) (My.mkDF ?a22 ?l22 ?c22 ?k22) (My.mkDF ?a23 ?l23 ?c23 ?k23) (My.mkDF ?a24 ?l24 ?c24 ?k24) (My.mkDF ?a25 ?l25 ?c25 ?k25) (My.mkDF ?a26 ?l26 ?c26 ?k26) (My.mkDF ?a27 ?l27 ?c27 ?k27) (My.mkDF ?a28 ?l28 ?c28 ?k28) (My.mkDF ?a29 ?l29 ?c29 ?k29) (My.mkDF ?a30 ?l30 ?c30 ?k30) (My.mkDF ?a31 ?l31 ?c31 ?k31) (My.mkDF ?a32 ?l32 ?c32 ?k32) (My.mkDF ?a33 ?l33 ?c33 ?k33) (My.mkDF ?a34 ?l34 ?c34 ?k34) (My.mkDF ?a35 ?l35 ?c35 ?k35) (My.mkDF ?a36 ?l36 ?c36 ?k36) (My.mkDF ?a37 ?l37 ?c37 ?k37) (My.mkDF ?a38 ?l38 ?c38 ?k38) (My.mkDF ?a39 ?l39 ?c39 ?k39) (My.mkDF ?a40 ?l40 ?c40 ?k40) (My.mkDF ?a41 ?l41 ?c41 ?k41) (My.mkDF ?a42 ?l42 ?c42 ?k42) (My.mkDF ?a43 ?l43 ?c43 ?k43) (My.mkDF ?a44 ?l44 ?c44 ?k44) (My.mkDF ?a45 ?l45 ?c45 ?k45) (My.mkDF ?a46 ?l46 ?c46 ?k46) (My.mkDF ?a47 ?l47 ?c47 ?k47) (My.mkDF ?a48 ?l48 ?c48 ?k48) (My.mkDF ?a49 ?l49 ?c49 ?k49) (My.mkDF ?a50 ?l50 ?c50 ?k50) (My.mkDF ?a51 ?l51 ?c51 ?k51) (My.mkDF ?a52 ?l52 ?c52 ?k52) ⟨?z1,?z2,?z3,?z4,?z5,?z6,?z7,?z8,?z9,?z10,?z11,?z12,?z13,?z14,?z15,?z16,?z17,?z18,?z19,?z20,True.intro⟩
  case a1=>k_is
  case l1=>k_is
  case c1=>k_is
  case k1=>k_is
  case a2=>k_is
  case l2=>k_is
  case c2=>k_is
  case k2=>k_is
  case a3=>k_is
  case l3=>k_is
  case c3=>k_is
  case k3=>k_is
  case a4=>k_is
  case l4=>k_is
  case c4=>k_is
  case k4=>k_is
  case a5=>k_is
  case l5=>k_is
  case c5=>k_is
  case k5=>k_is
  case a6=>k_is
  case l6=>k_is
  case c6=>k_is
  case k6=>k_is
  case a7=>k_is
  case l7=>k_is
  case c7=>k_is
  case k7=>k_is
  case a8=>k_is
  case l8=>k_is
  case c8=>k_is
  case k8=>k_is
  case a9=>k_is
  case l9=>k_is
  case c9=>k_is
  case k9=>k_is
  case a10=>k_is
  case l10=>k_is
  case c10=>k_is
  case k10=>k_is
  case a11=>k_is
  case l11=>k_is
  case c11=>k_is
  case k11=>k_is
  case a12=>k_is
  case l12=>k_is
  case c12=>k_is
  case k12=>k_is
  case a13=>k_is
  case l13=>k_is
  case c13=>k_is
  case k13=>k_is
  case a14=>k_is
  case l14=>k_is
  case c14=>k_is
  case k14=>k_is
  case a15=>k_is
  case l15=>k_is
  case c15=>k_is
  case k15=>k_is
  case a16=>k_is
  case l16=>k_is
  case c16=>k_is
  case k16=>k_is
  case a17=>k_is
  case l17=>k_is
  case c17=>k_is
  case k17=>k_is
  case a18=>k_is
  case l18=>k_is
  case c18=>k_is
  case k18=>k_is
  case a19=>k_is
  case l19=>k_is
  case c19=>k_is
  case k19=>k_is
  case a20=>k_is
  case l20=>k_is
  case c20=>k_is
  case k20=>k_is
  case a21=>k_is
  case l21=>k_is
  case c21=>k_is
  case k21=>k_is
  case a22=>k_is
  case l22=>k_is
  case c22=>k_is
  case k22=>k_is
  case a23=>k_is
  case l23=>k_is
  case c23=>k_is
  case k23=>k_is
  case a24=>k_is
  case l24=>k_is
  case c24=>k_is
  case k24=>k_is
  case a25=>k_is
  case l25=>k_is
  case c25=>k_is
  case k25=>k_is
  case a26=>k_is
  case l26=>k_is
  case c26=>k_is
  case k26=>k_is
  case a27=>k_is
  case l27=>k_is
  case c27=>k_is
  case k27=>k_is
  case a28=>k_is
  case l28=>k_is
  case c28=>k_is
  case k28=>k_is
  case a29=>k_is
  case l29=>k_is
  case c29=>k_is
  case k29=>k_is
  case a30=>k_is
  case l30=>k_is
  case c30=>k_is
  case k30=>k_is
  case a31=>k_is
  case l31=>k_is
  case c31=>k_is
  case k31=>k_is
  case a32=>k_is
  case l32=>k_is
  case c32=>k_is
  case k32=>k_is
  case a33=>k_is
  case l33=>k_is
  case c33=>k_is
  case k33=>k_is
  case a34=>k_is
  case l34=>k_is
  case c34=>k_is
  case k34=>k_is
  case a35=>k_is
  case l35=>k_is
  case c35=>k_is
  case k35=>k_is
  case a36=>k_is
  case l36=>k_is
  case c36=>k_is
  case k36=>k_is
  case a37=>k_is
  case l37=>k_is
  case c37=>k_is
  case k37=>k_is
  case a38=>k_is
  case l38=>k_is
  case c38=>k_is
  case k38=>k_is
  case a39=>k_is
  case l39=>k_is
  case c39=>k_is
  case k39=>k_is
  case a40=>k_is
  case l40=>k_is
  case c40=>k_is
  case k40=>k_is
  case a41=>k_is
  case l41=>k_is
  case c41=>k_is
  case k41=>k_is
  case a42=>k_is
  case l42=>k_is
  case c42=>k_is
  case k42=>k_is
  case a43=>k_is
  case l43=>k_is
  case c43=>k_is
  case k43=>k_is
  case a44=>k_is
  case l44=>k_is
  case c44=>k_is
  case k44=>k_is
  case a45=>k_is
  case l45=>k_is
  case c45=>k_is
  case k45=>k_is
  case a46=>k_is
  case l46=>k_is
  case c46=>k_is
  case k46=>k_is
  case a47=>k_is
  case l47=>k_is
  case c47=>k_is
  case k47=>k_is
  case a48=>k_is
  case l48=>k_is
  case c48=>k_is
  case k48=>k_is
  case a49=>k_is
  case l49=>k_is
  case c49=>k_is
  case k49=>k_is
  case a50=>k_is
  case l50=>k_is
  case c50=>k_is
  case k50=>k_is
  case a51=>k_is
  case l51=>k_is
  case c51=>k_is
  case k51=>k_is
  case a52=>k_is
  case l52=>k_is
  case c52=>k_is
  case k52=>k_is
  case z1=>k_is
  case z2=>k_is
  case z3=>k_is
  case z4=>k_is
  case z5=>k_is
  case z6=>k_is
  case z7=>k_is
  case z8=>k_is
  case z9=>k_is
  case z10=>k_is
  case z11=>k_is
  case z12=>k_is
  case z13=>k_is
  case z14=>k_is
  case z15=>k_is
  case z16=>k_is
  case z17=>k_is
  case z18=>k_is
  case z19=>k_is
  case z20=>k_is
