import PyProof.Rows.All
import Wide.All
import OpenK.AllK
import Lean
import PySem.Challenge.RW_contactnets_k52_papers_looked_at
set_option Elab.async false
set_option linter.all false
set_option autoImplicit true
set_option relaxedAutoImplicit true
set_option genSizeOf false
set_option compiler.extract_closed false
set_option bootstrap.genMatcherCode false
set_option maxRecDepth 100000
set_option maxHeartbeats 1000000
local macro_rules|`(def $i$s:optDeclSig$v:declVal)=>`(noncomputable def $i$s:optDeclSig$v:declVal)|`(abbrev $i$s:optDeclSig$v:declVal)=>`(noncomputable abbrev $i$s:optDeclSig$v:declVal)
local macro_rules|`(tactic|decide)=>`(tactic|decide +kernel)
open List renaming length_map→qA0,getElem?_append_right→qA2,getElem?_eq_getElem→qA3,getElem?_eq_some_iff→qA5,getElem?_append_left→qA8,mem_cons→qB0,getElem?_map→qB1,mem_singleton→qB2,size_toArray→qB5,mem_append→qB6,map_cons→qB8,length_append→qB9,append_assoc→qC1,mem_of_getElem?→qC2,pairwise_append→qC3,mem_map→qC4,mem_cons_of_mem→qC5,mem_range→qC7,map_map→qC8,length_cons→qC9,mem_append_right→qD1,take_append_drop→qD2,length_range→qD4,getElem_mem→qD5,all_eq_true→qD6,getElem?_toArray→qD7,lookup_cons→qD8,getElem?_set_self→qD9,getElem?_of_mem→qE1,mem_cons_self→qE2,length_take→qE4,pairwise_singleton→qE5,map_append→qE6,getElem?_set_ne→qE7,mem_of_mem_drop→qE8,mem_of_mem_take→qE9,not_mem_nil→qF0,map_congr_left→qF3,getD→qF4,length_eq_zero_iff→qF5,getD_eq_getElem?_getD→qF6,mem_append_left→qF7,drop_eq_getElem_cons→qF8,mem_of_find?_eq_some→qF9,pairwise_cons→qG0,getElem?_eq_none→qG3,mapM_cons→qG6,mem_filter→qG7,append_nil→qG8,length_drop→qH0,take_of_length_le→qH1,getElem?_range→qH2,length→qH4,any_cons→qH5,take_sublist→qH6,pairwise_map→qH7,nodup_append→qH8,mem_reverse→qI1,filter_cons→qI2,find?_eq_none→qI3,mem_iff_getElem→qI7,eq_nil_of_length_eq_zero→qI9,drop_sublist→qJ0,getElem?_cons_succ→qJ1,nodup_cons→qJ2,filterMap_cons→qJ3,length_replicate→qJ5,length_singleton→qJ6,perm_append_comm→qJ7,length_set→qJ8,find?_some→qK0,getElem?_take_of_lt→qK2,getElem_of_mem→qK3,getElem?_replicate→qK4,take_length→qK5,mem_singleton_self→qK7,cons_append→qK8,cons→qL0,replicate→qL2,length_reverse→qL4,all_cons→qL5,length_erase_of_mem→qL6,of_mem_zip→qL7,length_nil→qL8,foldl_cons→qL9,length_zip→qM0,mem_filterMap→qM1,range_succ_eq_map→qM5,reverse_cons→qM6,getElem_drop→qM8,pairwise_lt_range→qM9,drop_of_length_le→qN0,take_succ_eq_append_getElem→qN1,pairwise_of_forall_mem_list→qN2,map_nil→qN4,ext_getElem?→qN5,filter_eq_nil_iff→qN6,pairwise_reverse→qN7,length_filter_le→qN8,drop_length→qN9,map_snd_zip→qO1,nodup_range→qO2,mem_flatMap→qO3,take_append_of_le_length→qO5,range_succ→qO8,find?_cons→qP0,filter_eq_self→qP2,all_map→qP3,length_eraseIdx_of_lt→qP7,drop_drop→qP8,zip_cons_cons→qP9,perm_ext_iff_of_nodup→qQ0,pairwise_iff_getElem→qQ1,getElem?_zip_eq_some→qQ2,exists_mem_of_ne_nil→qQ3,mapM_toArray→qQ6,filterMap_cons_some→qQ7,length_pos_of_mem→qR3,getElem?_reverse→qR5,dropLast_eq_take→qR6,mem_erase_of_ne→qS0,take_zero→qS1,map_id→qS2,reverse_append→qS3,toList_toArray→qS4,length_pos_iff→qS5,zip_nil_right→qS7,filterMap_map→qS8,findIdx?_cons→qT1,filterMap_nil→qT2,map_inj_right→qT4,zip_nil_left→qT5,any_map→qT6,take_add_one→qT7,getElem?_inj→qT9,zipIdx_cons→qU2,ext_getElem→qU3,perm_middle→qU4,all_toArray→qU5,isEmpty_map→qU6,forIn_cons→qV1,drop_left'→qV3,nil_append→qV4,drop_zero→qV5,nodup_nil→qV6,map→qV7
open Option renaming bind_eq_some_iff→qA4,map_eq_some_iff→qA7,isSome_iff_exists→qI6,map_some→qO7,isSome_map→qQ4,bind_some→qQ9,getD_none→qU0
open Nat renaming le_refl→qA6,ne_of_lt→qB7,lt_of_lt_of_le→qC0,zero_le→qC6,le_trans→qD0,lt_succ_of_lt→qF1,not_lt_zero→qG9,lt_irrefl→qH3,lt_of_le_of_lt→qI0,le_of_lt→qI5,pow_le_pow_right→qI8,sub_self→qJ4,ne_of_gt→qK1,le_add_right→qK6,lt_or_ge→qK9,lt_succ_self→qL3,add_sub_cancel_left→qM4,lt_trichotomy→qM7,zero_add→qN3,mul_le_mul_right→qO6,min_eq_left→qO9,lt_or_eq_of_le→qP6,le_succ→qQ5,le_of_not_lt→qQ8,lt_trans→qR0,mod_lt→qR1,pow_succ→qR2,add_assoc→qS6,lt_of_lt_of_eq→qS9,add_sub_cancel→qT0,and_one_is_mod→qT3,succ_ne_self→qU1,succ_le_succ→qU7,min_eq_right→qU8,le_antisymm→qV2
open Bool renaming false_ne_true→qB4,and_eq_true→qD3,not_eq_true→qG1,not_eq_true'→qG4,eq_false_iff→qH9,not_eq_false'→qI4,or_eq_true→qJ9,false_eq_true→qM2,false_and→qR7,eq_iff_iff→qV0
open Int renaming toNat_natCast→qE0,emod_lt_of_pos→qM3,emod_nonneg→qP1,fdiv_eq_ediv_of_nonneg→qP5,le_antisymm→qR4,le_trans→qT8,toNat→qU9
open PySem.Heap renaming get?_push_of_some→qA1,get?_push_size→qA9,lt_size→qB3,SameBut→qE3,get?_update_other→qF2,get?_update_self→qG2,size_push→qG5,get?_push_ne→qL1,size_update→qO0,IsList→qO4,IsTuple→qP4,IsSliceOf→qR8,ExtBut→qR9
abbrev yA:=List Int
abbrev yB:=List PySem.Value
abbrev yC:=List PySem.Addr
abbrev yD:=List (PySem.Addr × PySem.Obj)
abbrev yE:=List PySem.Expr
abbrev yF:=Option PySem.Value
abbrev yG:=Option Int
abbrev yH:=List PySem.Str
abbrev yI:=List PyProof.Rows.Keyed
abbrev yJ:=Array PySem.Value
abbrev yK:=Option Nat
abbrev yL:=PySem.Value→PySem.Shared→Prop
open PySem renaming wpAny_bind→yO,wpAny_pure→yP,Shared→yQ,Addr→yR,Value→yT,model→yW,Spec→yY,Program→yZ,wpAny→jC,sizeLine→jF,compareOp→jG,Expr→jH,Around→jI,World→jJ,wpAny_call_entry→jK,Heap→jL,wpAny_callSpecial?_slot→jM,starEach→jO,wpAny_holding→jP,bootBuiltins→jQ,wpAny_setState_of→jR,wpAny_newObj_type→jS,binaryOp→jU,tupleKeyHash→jX,wpAny_mono→jY,assignEach→jZ,wpAny_truthy_bool→j7,wpAny_typeOf→j9,SetTable→vA,mainGlobals→vC,NameKind→vD,wpAny_pyIter_tuple→vE,wpAny_pyIter_list→vF,wpAny_seqItems→vG,codeAny_builtin→vH,sizeLine_eq→vK,wpAny_field→vL,wpAny_attempt→vM,cLine→vN,wpAny_setField→vP,intKind→vQ,wpAny_rule→vR,wpAny_typeNameOfWhole_keyiter→vS,sysModules→vV,PyData→vW,FuncData→vY,wpAny_isInstance→wA,Scope→wB,eval→wE,wpAny_passesOwn→wG,cellsFrom→wH,mem_of_lookup→wI,codeAny→wJ,wpAny_setField_rec→wK,wpAny_ite_split→wM,DictEntry→wN,wpAny_newList→wO,Stmt→wQ,foldedSetIterable→wT,sliceBounds→wU,wpAny_fieldsOf→wV,swappedStores→wY,attributeBase→fA,backTo→fD,wpAny_Call_Name_kw→fE,tupleKind_room_in1→fF,holding→fH,rawInt→fI,codeAny_mono→fJ,swapsWith→fP,wpAny_forIn_list→fR,IsPair→fS,behindInMarks→fU,getItem→fV,pushCells_keeps→fZ,wpAny_raiseNew_none→gC,CmpOp→gJ,wpAny_newTuple→gL,isSubtype_stop→gM,wpAny_sequenceKey→g7,wpAny_pyIter_enum→g8,wpAny_dictEntries→g9,wpAny_pyIter_slot→lA,ofAClassStatement→lE,assign→lF,wpAny_getItem_list_slice→lH,wpAny_comprehension_free→lI,plainId_quiet→lK,tupleKind→lP,noFill_tuple_add→lS,pushCells→lT,wpAny_pyIter_zip→lU,wpAny_askSetting→lV,wpAny_load→lX,wpAny_pyNext_list_item→lY,IsPart→mB,Keyword→mE,callerA→mF,wpAny_execs_nil→mJ,letOwnedTupleGo→mK,wpAny_loadPart'→mL,wpAny_dictEpoch→mM,wpAny_specialOf→mN,wpAny_pyNext_list_end→mP,wpAny_isOneOf_keyiter→mQ,wpAny_notOrdered_dict→mR,builtinLookup_eq_fast→mT,wpAny_eqIsQuiet_tuple→mV,Paired→mW,Drawn→mX,pyNext→mY,pyIter→mZ,keywordEach→dD,newFunctionEnv→dE,wpAny_updateSeq_pair→dF,wpAny_runValue→dH,wpAny_pyIter_keyiter→dJ,intItems→dL,PassesOwn→dM,lastMarks→dN,pickOrder→dO,wpAny_standAt→dR,seq_tuple_add→dS,IsZip→dW,Comprehension→uB,builtinsNs→uC,Result→uD,PlainAttrs→uE,standAt→uH,Operator→uI,BindsTo→uJ,concat_meets→uL,seqIndex_neg→uM,valueAt→uN,relabel→uO,notedBy→uP,collect→uQ,isTrue→uT,slicePick→uU,stored→uV,seqIndex_of→uW,subscripted→uX,setItem→uZ
open PySem.W renaming Frag→yS,kia_one→gG,fnOf→lG,keepIn→dA,kdu_collect→dZ,codeIn→uK
open PyProof.Rows renaming wpS_bind→yU,Keyed→yX,wpS_pure→jD,SortSt→jN,slot_tuple_getitem→jV,seqObj→j6,callWith_type1→j8,wpS_forRange→vB,IntsAre→vO,wpS_mono→vT,pendingOf→vU,SortKind→wD,listUpdate_at→wP,wpS_modify→wW,mem_zip_self→fM,callWith_builtin1→fQ,seqEpoch_at→fY,entry_list_sort→gA,entry_tuple_getitem→gB,wpS_get→gE,listItems_at→gF,args_tuple_getitem→gK,slot_list_sort→gO,args_list_sort→gP,sortedHeap_old→gQ,size_push'→gR,wpS_lift→gU,setPending→gV,AllBare→gZ,sortedHeap_at→lM,subscriptTail_builtinR→mC,plain_sorted→mG,entry_sorted→mH,args_sorted1→mI,get?_update_seq→mO,envOfC→dC,kind_sorted→dG,entry_proto_collect'→dI,lt_int→dP,IsTup→dQ,tupleItemsOf_→dU,elem'→d0,reverseSlice'→uA,failedOf→uR,numOf→uS,arrOf→uY
open Array renaming length_toList→yV,getElem?_toList→jA,getElem?_eq_getElem→jE,toList_append→jW,getElem?_eq_none→wL,getElem?_replicate→fB,toList_reverse→fX,toList_push→lB,size_append→lC,ext'→uF
open PySem.Builtin renaming bitAnd→jT,bitOr→vZ,bitNot→fN,bitXor→m7
open PySem.Obj renaming mapSeq→vI,data_mapFields→vJ,isFreed_of_fields→wR,cls_mapFields→fL,mapFields→lJ,putSet→uG
open PySem.F renaming slot_dict_keyiterator_next→vX,slot_tuple_iterator_next→wC,args_tuple_add_2→wZ,entry_tuple_add→fG,slot_tuple_add→fK,slot_tuple_lt→fO,args_dict_keyiterator_next_1→fT,entry_dict_keyiterator_next→fW,args_tuple_iterator_next_1→f8,slot_zip_next→f9,entry_tuple_iterator_next→gD,slot_dict_update→lO,args_tuple_lt_2→lQ,plainAttrs_list→lW,entry_tuple_lt→lZ,plain_set_new→mS,slot_set_iter→mU
open PySem.Calls renaming call_function_entry→wF,Name_function_global→gH,callWith_builtin→mD
open PyProof.Rows.F renaming entry_set_update_loop→wX
open Option renaming some→Z9,none→Z8
open Bool renaming true→Z7,false→Z5
namespace L2
open PySem PySem.Spec PyProof.Rows
abbrev VN(x:Str):Prop:=(x == ("__debug__":Str))=Z5
abbrev ZI:=Sum Int Str
def UQ:ZI->yT->Bool
 |.inl k,v=>Value.isInt k v
 |.inr x,v=>Value.isStrOf x v
def Mo(w:jJ):ZI->Int
 |.inl k=>hashInt k
 |.inr x=>hashStr w x
theorem UP:∀{k:ZI}{v:yT},UQ k v=Z7->(∃i t,k=Sum.inl i/\v=Value.int i t)∨(∃x t,k=Sum.inr x/\v=Value.str x t)
 |.inl i,v,h=>by obtain⟨t,e⟩:=Value.isInt_shape h;exact .inl ⟨i,t,rfl,e⟩
 |.inr x,v,h=>by obtain⟨t,e⟩:=Value.isStrOf_shape h;exact .inr ⟨x,t,rfl,e⟩
theorem BE(i:Int)(t:Tok):UQ (.inl i) (.int i t)=Z7:=by simp[UQ,Value.isInt]
theorem BD(x:Str)(t:Tok):UQ (.inr x) (.str x t)=Z7:=by simp[UQ,Value.isStrOf]
theorem BC(a b:Int):decide ((Sum.inl a:ZI)=Sum.inl b)=(a == b):=by grind
theorem BA(a b:Str):decide ((Sum.inr a:ZI)=Sum.inr b)=decide (a=b):=by simp_all
theorem Bz(a:Int)(b:Str):decide ((Sum.inl a:ZI)=Sum.inr b)=Z5:=rfl
theorem By(a:Str)(b:Int):decide ((Sum.inr a:ZI)=Sum.inl b)=Z5:=rfl
def Ys(prog:yZ)(w:jJ):PySem.KeyKind prog w ZI where
 is:=UQ
 hash:=Mo w
 inj:=λv a b f d=>by
  rcases UP f with⟨i,t,rfl,rfl⟩| ⟨x,t,rfl,rfl⟩
  .rcases UP d with⟨j,u,rfl,e⟩| ⟨y,u,rfl,e⟩
   .injection e with e1 _;rw[e1]
   .exact nomatch e
  .rcases UP d with⟨j,u,rfl,e⟩| ⟨y,u,rfl,e⟩
   .exact nomatch e
   .injection e with e1 _;rw[e1]
 byValue:=λk v h=>by rcases UP h with⟨i,t,rfl,rfl⟩| ⟨x,t,rfl,rfl⟩<;>rfl
 pyHash:=λc h=>by
  rcases UP c with⟨i,t,rfl,rfl⟩| ⟨x,t,rfl,rfl⟩
  .exact wpAny_pyHash_int h
  .exact wpAny_pyHash_str h
 eqBool:=λg c h=>by
  rcases UP g with⟨i,t,rfl,rfl⟩| ⟨x,t,rfl,rfl⟩
  .rcases UP c with⟨j,u,rfl,rfl⟩| ⟨y,u,rfl,rfl⟩
   .rw[BC]at h;exact wpAny_eqBool_int h
   .rw[Bz]at h;exact SeqAt.EqAt.int_str i t y u _ _ _ _ h
  .rcases UP c with⟨j,u,rfl,rfl⟩| ⟨y,u,rfl,rfl⟩
   .rw[By]at h;exact SeqAt.EqAt.str_int x t j u _ _ _ _ h
   .rw[BA]at h;exact wpAny_eqBool_str h
 «strs»:=λk x t v h=>by
  rcases UP h with⟨i,u,rfl,e⟩| ⟨y,u,rfl,e⟩
  .exact nomatch e
  .injection e with e1 _;subst e1;cases v<;>rfl
theorem Bx(prog:yZ)(w:jJ)(i:Int)(t:Tok):(Ys prog w).is (.inl i) (.int i t)=Z7:=BE i t
theorem Bw(prog:yZ)(w:jJ)(x:Str)(t:Tok):(Ys prog w).is (.inr x) (.str x t)=Z7:=BD x t
inductive V where
 |non|bl (b:Bool)| int (i:Int)| str (x:Str)| byt (b:Array UInt8)| flt (b:UInt64)| ref (a:yR)| ty (n:String)
 deriving DecidableEq
def ZH:V->yT->Prop
 |.non,u=>u=Value.none
 |.bl b,u=>u=Value.bool b
 |.int i,u=>∃t,u=Value.int i t
 |.str x,u=>∃t,u=Value.str x t
 |.byt b,u=>∃t,u=Value.bytes b t
 |.flt b,u=>∃t,u=Value.float b t
 |.ref a,u=>u=Value.ref a
 |.ty n,u=>u=Value.type n
abbrev ZM:List V->yB->Prop:=mW ZH
theorem ZM.length(r:ZM xs a):xs.length=a.length:=Paired.length r
theorem ZM.get:∀{xs:List V}{a:yB}{i:Nat}{x:V},ZM xs a->xs[i]?=Z9 x->∃u,a[i]?=Z9 u/\ZH x u
 |_,_,_,_,.nil,e=>by simp at e
 |_,_,0,_,.cons r _,e=>by simp at e;subst e;exact⟨_,rfl,r⟩
 |_,_,i+1,x,.cons _ t,e=>by obtain⟨u,b,c⟩:=ZM.get t (by simpa using e);exact⟨u,by simpa using b,c⟩
theorem ZM.set(r:ZH x u):∀{xs:List V}{a:yB} (i:Nat),ZM xs a->ZM (xs.set i x) (a.set i u)
 |_,_,_,.nil=>.nil
 |_,_,0,.cons _ t=>.cons r t
 |_,_,i+1,.cons q t=>.cons q (ZM.set r i t)
theorem ZM.append:∀{xs ys:List V}{b a:yB},ZM xs b->ZM ys a->ZM (xs++ys) (b++a)
 |_,_,_,_,.nil,s=>s
 |_,_,_,_,.cons r t,s=>.cons r (ZM.append t s)
theorem ZM.take:∀{xs:List V}{a:yB} (n:Nat),ZM xs a->ZM (xs.take n) (a.take n)
 |_,_,0,_=>.nil
 |_,_,_+1,.nil=>.nil
 |_,_,n+1,.cons r t=>.cons r (ZM.take n t)
theorem ZM.drop:∀{xs:List V}{a:yB} (n:Nat),ZM xs a->ZM (xs.drop n) (a.drop n)
 |_,_,0,r=>r
 |_,_,_+1,.nil=>.nil
 |_,_,n+1,.cons _ t=>ZM.drop n t
def Xc:Option V->yF->Prop
 |some v,Z9 u=>ZH v u
 |none,Z8=>True
 |_,_=>False
def KV{a:Type}:List (a×V)->List (a×yT)->Prop:=mW fun(p:a×V) (q:a×yT)=>p.1=q.1/\ZH p.2 q.2
def kV:ZI->V
 |.inl i=>.int i
 |.inr x=>.str x
inductive HO where
 /-- a list -/
 |lst (xs:List V)
 /-- a tuple (never changes) -/
 |tup (xs:List V)
 /-- a dict whose keys are ints and texts;one whose keys are tuples of ints and texts (the empty one is both) -/
 |dK (kvs:List (ZI×V))| dT (kvs:List (List ZI×V))
 /-- a set of ints: its members,its size -/
 |set (S:Int->Bool) (n:Nat)
 /-- an instance of the class at C,its dict at dx,its attributes -/
 |ins (C dx:yR) (fs:List (Str×V))
 /-- the dict of the instance at x -/
 |own (x:yR)
 /-- the dict of an exception -/
 |xd (fs:List (Str×V))
 /-- a bound method,f of x -/
 |met (f x:yR)
 /-- a range object lo,lo+1,.. below hi -/
 |rng (lo hi:Int)
 /-- a thing that is known to the object (the script;a dict while a loop walks it): read,never written while it is so -/
 |frz (o:Obj) (u:HO)
 /-- a code object's table -/
 |tbl (ps:yJ)
 /-- any other thing,by what is Z7 of its one object (a def of one's own: SetO a S n:=HO.ext λh=>..) -/
 |ext (φ:jL->Prop)
abbrev Hp:=yR->Option HO
def ZD(H:Hp)(a:yR)(o:HO):Hp:=λb=>if b=a then Z9 o else H b
theorem Xt:ZD H a o a=Z9 o:=by unfold ZD;rw[if_pos rfl]
theorem YI(h:b≠a):ZD H a o b=H b:=by unfold ZD;rw[if_neg h]
theorem Bv:ZD (ZD H a o) a u=ZD H a u:=by funext b;unfold ZD;split<;>rfl
theorem Bu{H:Hp}(h:H a=Z9 o)(h':H b=Z9 u)(d:o≠u):a≠b:=by grind
theorem UO{H:Hp}(h:H a=Z9 o)(h':H b=Z8):a≠b:=by grind
section
variable (P:yZ) (w:jJ)
def W4(H:Hp)(h:jL)(a:yR):HO->Prop
 |.lst d=>d.length<=jF/\∃(c:yB) (n:Nat),ZM d c/\h.get? a=Z9 { cls:=.type "list",data:=.seq c.toArray n }
 |.tup d=>d.length<=jF/\∃c:yB,ZM d c/\dQ h a c.toArray
 |.dK b=>b.length<=jF/\(a == vV)=Z5/\∃j,KV b j/\h.DictOf (Ys P w) a j
 |.dT b=>b.length<=jF/\(a == vV)=Z5/\∃d:List (List ZI×yR×yT),
   mW (fun(p:List ZI×V) (q:List ZI×yR×yT)=>p.1=q.1/\H q.2.1=Z9 (.tup (p.1.map kV))/\ZH p.2 q.2.2) b d /\
   ∃o m r,h.get? a=Z9 o/\o.ExactDict/\o.data=.dict m r/\m.toList=d.map (entryOfKey (lP (Ys P w)))/\(d.map (·.1)).Nodup
 |.set S n=>h.SetOf (vQ P w) a S n
 |.ins C g fs=>H g=Z9 (.own a)/\fs.length<=1000/\g≠a/\h.get? a=Z9 (W.instObj C g) /\
   ∃e,h.Ns1 g e/\(∀f,Xc (fs.lookup f) (e f))/\PySem.Within e (fs.map (·.1))
 |.own _=>∃o,h.get? a=Z9 o
 |.xd fs=>∃e,h.Ns1 a e/\∀f,Xc (fs.lookup f) (e f)
 |.rng z s=>∃t u v,h.get? a=Z9 { cls:=.type "range",data:=.fields #[.int z t,.int s u,.int 1 v] }
 |.frz o u=>h.get? a=Z9 o/\W4 H h a u
 |.tbl y=>h.get? a=Z9 { cls:=.none,data:=.fields y }
 |.met f x=>h.get? a=Z9 (W.methodObj (.ref f) (.ref x))
 |.ext i=>i h/\(∃o,h.get? a=Z9 o)/\∀k l:jL,i k->(∀o,k.get? a=Z9 o->l.get? a=Z9 o)->i l
def XY(H:Hp)(h:jL):Prop:=∀a o,H a=Z9 o->W4 P w H h a o
end
section
variable {P:yZ}{w:jJ}{H H':Hp}{h h':jL}{a:yR}{o:HO}
theorem W4.lt(x:W4 P w H h a o):a<h.objs.size:=by
 cases o with
 |lst c=>obtain⟨_,_,_,_,e⟩:=x;exact qB3 e
 |tup c=>obtain⟨_,_,_,p⟩:=x;exact p.lt
 |dK b=>obtain⟨_,_,_,_,o,_,_,e,_⟩:=x;exact qB3 e
 |dT b=>obtain⟨_,_,_,_,o,_,_,e,_⟩:=x;exact qB3 e
 |set S n=>obtain⟨o,_,_,_,e,_⟩:=x;exact qB3 e
 |ins C g fs=>obtain⟨_,_,_,e,_⟩:=x;exact qB3 e
 |own y=>obtain⟨_,e⟩:=x;exact qB3 e
 |xd fs=>obtain⟨_,⟨_,_,_,e,_⟩,_⟩:=x;exact qB3 e
 |rng k i=>obtain⟨_,_,_,e⟩:=x;exact qB3 e
 |frz d u=>obtain⟨e,_⟩:=x;exact qB3 e
 |tbl j=>exact qB3 (x)
 |met f y=>exact qB3 (x)
 |ext l=>obtain⟨_,⟨_,e⟩,_⟩:=x;exact qB3 e
theorem Paired.mapP{e g:Type}{F G:e->g->Prop}:∀{c:List e}{d:List g},mW F c d->(∀a b,F a b->G a b)->mW G c d
 |_,_,.nil,_=>.nil
 |_,_,.cons r t,f=>.cons (f _ _ r) (Paired.mapP t f)
theorem W4.stay(x:W4 P w H h a o)(k:∀b u,(b=a∨H b=Z9 (.own a))->h.get? b=Z9 u->h'.get? b=Z9 u)
  (E:∀b,H b=Z9 (.own a)->H' b=Z9 (.own a)) (ht:∀b xs,H b=Z9 (.tup xs)->H' b=Z9 (.tup xs)):W4 P w H' h' a o:=by
 induction o with
 |lst xs=>obtain⟨z,l,n,r,e⟩:=x;exact⟨z,l,n,r,k _ _ (.inl rfl) e⟩
 |tup xs=>obtain⟨z,l,r,g,e,c⟩:=x;exact⟨z,l,r,g,k _ _ (.inl rfl) e,c⟩
 |dK s=>obtain⟨z,y,D,r,g,j,i,e,c⟩:=x;exact⟨z,y,D,r,g,j,i,k _ _ (.inl rfl) e,c⟩
 |dT s =>
  obtain⟨z,y,xs,r,g,j,i,e,c⟩:=x;exact⟨z,y,xs,Paired.mapP r λp q z=>⟨z.1,ht _ _ z.2.1,z.2.2⟩,g,j,i,k _ _ (.inl rfl) e,c⟩
 |set S n=>obtain⟨g,j,i,t,e,c⟩:=x;exact⟨g,j,i,t,k _ _ (.inl rfl) e,c⟩
 |ins C G fs =>
  obtain⟨d,z,ne,e,A,⟨m,j,i,F,c⟩,r⟩:=x;exact⟨E _ d,z,ne,k _ _ (.inl rfl) e,A,⟨m,j,i,k _ _ (.inr d) F,c⟩,r⟩
 |own y=>obtain⟨g,e⟩:=x;exact⟨g,k _ _ (.inl rfl) e⟩
 |xd fs=>obtain⟨A,⟨m,j,i,e,c⟩,r⟩:=x;exact⟨A,⟨m,j,i,k _ _ (.inl rfl) e,c⟩,r⟩
 |rng L I=>obtain⟨t,u,v,e⟩:=x;exact⟨t,u,v,k _ _ (.inl rfl) e⟩
 |frz g u B=>obtain⟨e,q⟩:=x;exact⟨k _ _ (.inl rfl) e,B q⟩
 |tbl J =>
  have e:=x;exact k a _ (.inl rfl) e
 |met f y =>
  have e:=x;exact k a _ (.inl rfl) e
 |ext K=>obtain⟨p,⟨o,e⟩,st⟩:=x;exact⟨st _ _ p λo q=>k _ _ (.inl rfl) q,⟨o,k _ _ (.inl rfl) e⟩,st⟩
theorem XY.lt(x:XY P w H h)(e:H a=Z9 o):a<h.objs.size:=(x a o e).lt
theorem XY.fresh(x:XY P w H h)(e:h.objs.size<=a):H a=Z8:=by
 cases q:H a with
 |none=>rfl
 |some u=>exact absurd (qC0 (x.lt q) e) (qH3 _)
theorem XY.kept(x:XY P w H h)(k:∀b u,h.get? b=Z9 u->h'.get? b=Z9 u):XY P w H h':=λa o e =>
 (x a o e).stay (λb u _ q=>k b u q) (λ_ q=>q) λ_ _ q=>q
theorem XY.laid(x:XY P w H h)(k:∀b u,h.get? b=Z9 u->h'.get? b=Z9 u)(i:h.objs.size<=a)(d:W4 P w (ZD H a o) h' a o):XY P w (ZD H a o) h':=λb u e=>by
 have f:=x.fresh i;by_cases g:b=a
 .subst g;rw[Xt]at e;cases e;exact d
 .rw[YI g]at e;exact(x b u e).stay (λc v _ q=>k c v q) (λc q=>by rw[YI (UO q f)];exact q) λc j q=>by rw[YI (UO q f)];exact q
end
def Rd(H:Hp)(a:yR)(u:HO):Prop:=H a=Z9 u∨∃o,H a=Z9 (.frz o u)
theorem Rd.ok(r:Rd H a u)(x:XY P w H h):W4 P w H h a u:=by
 rcases r with r|⟨o,r⟩
 .exact x a u r
 .obtain⟨_,q⟩:=x a _ r;exact q
def RW:Option HO->Prop
 |some (.lst _)=>True
 |some (.dK _)=>True
 |some (.dT _)=>True
 |some (.set _ _)=>True
 |some (.ins _ _ _)=>True
 |some (.ext _)=>True
 |_=>False
section
variable {P:yZ}{w:jJ}{H:Hp}{h h':jL}{x e:yR}{o':HO}
theorem XY.write(ok:XY P w H h)(i:RW (H x))(he:e=x∨H e=Z9 (.own x))(k:∀b u,b≠e->h.get? b=Z9 u->h'.get? b=Z9 u)(j:∃u,h'.get? e=Z9 u)
  (l:W4 P w (ZD H x o') h' x o'):XY P w (ZD H x o') h':=λb u q=>by
 have d:∀c y,H c=Z9 (.own y)->c≠x:=λc y r z=>by subst z;rw[r]at i;exact i
 have f:∀c g,H c=Z9 (.tup g)->c≠x:=λc g r z=>by subst z;rw[r]at i;exact i
 by_cases n:b=x
 .subst n;rw[Xt]at q;cases q;exact l
 .rw[YI n]at q;by_cases a:b=e
  .have o:H b=Z9 (.own x):=by
    rcases he with z|z
    .exact absurd (a.trans z) n
    .rw[a];exact z
   rw[q]at o;cases o;obtain⟨v,p⟩:=j;exact⟨v,by rw[a];exact p⟩
  .refine(ok b u q).stay (λc v m r=>k c v ?_ r) (λc r=>by rw[YI (d c b r)];exact r) λc g r=>by rw[YI (f c g r)];exact r
   rcases m with rfl|m
   .exact a
   .rintro rfl;rcases he with z|z
    .exact d c b m z
    .simp_all
end
structure Un(fs ex:yC)(H H':Hp)(h h':jL):Prop where
 keep:∀b o,h.get? b=Z9 o->H b=Z8->b∉fs->b∉ex->h'.get? b=Z9 o
 slot:∀b o,h.get? b=Z9 o->H b=Z8->b∈fs->b∉ex->∃sl,h'.get? b=Z9 { o with slots:=sl }
 free:∀b o,h.get? b=Z9 o->H b=Z8->b∉ex->H' b=Z8
 there:∀b o,h.get? b=Z9 o->b∉ex->∃o',h'.get? b=Z9 o'
 tups:∀b xs,H b=Z9 (.tup xs)->H' b=Z9 (.tup xs)
 frzs:∀b o u,H b=Z9 (.frz o u)->H' b=Z9 (.frz o u)
 tbls:∀b ps,H b=Z9 (.tbl ps)->∃more,H' b=Z9 (.tbl (ps++more))
section
variable {fs fs' ex ex':yC}{H H1 H2:Hp}{h h1 h2 h':jL}{a x e:yR}{o:HO}
theorem Un.any(u:Un fs ex H H1 h h1)(q:h.get? b=Z9 c)(n:H b=Z8)(d:b∉ex):∃sl,h1.get? b=Z9 { c with slots:=sl }:=by
 by_cases f:b∈fs
 .exact u.slot b c q n f d
 .exact⟨c.slots,u.keep b c q n f d⟩
theorem Un.kept(k:∀b u,h.get? b=Z9 u->h'.get? b=Z9 u):Un fs ex H H h h' :=
 ⟨λb c q _ _ _=>k b c q,λb c q _ _ _=>⟨c.slots,k b c q⟩,λ_ _ _ n _=>n,λb c q _=>⟨c,k b c q⟩,λ_ _ q=>q,λ_ _ _ q=>q,λ_ d q=>⟨#[],by rw[q];simp⟩⟩
theorem Un.refl:Un fs ex H H h h:=Un.kept λ_ _ q=>q
theorem Un.laid(k:∀b u,h.get? b=Z9 u->h'.get? b=Z9 u)(d:h.objs.size<=a)(c:H a=Z8):Un fs ex H (ZD H a o) h h' where
 keep:=λb u q _ _ _=>k b u q
 slot:=λb u q _ _ _=>⟨u.slots,k b u q⟩
 free:=λb u q n _=>by rw[YI (qB7 (qC0 (qB3 q) d))];exact n
 there:=λb u q _=>⟨u,k b u q⟩
 tups:=λb f q=>by rw[YI (UO q c)];exact q
 frzs:=λb u f q=>by rw[YI (UO q c)];exact q
 tbls:=λb g q=>⟨#[],by rw[YI (UO q c),q];simp⟩
theorem Un.write(d:RW (H x))(he:e=x∨H e=Z9 (.own x))(k:∀b u,b≠e->h.get? b=Z9 u->h'.get? b=Z9 u)(f:∃u,h'.get? e=Z9 u):Un fs ex H (ZD H x o) h h':=by
 have i:∀b,H b=Z8->b≠x:=λb n z=>by subst z;rw[n]at d;exact d
 have j:∀b,H b=Z8->b≠e:=λb n z=>by
  subst z;rcases he with r|r
  .exact i b n r
  .rw[n]at r;cases r
 have g:∀b u,H b=Z9 u->¬RW (Z9 u)->b≠x:=λb u q m z=>by subst z;rw[q]at d;exact m d
 refine⟨λb u q n _ _=>k b u (j b n) q,λb u q n _ _=>⟨u.slots,k b u (j b n) q⟩,λb u q n _=>by rw[YI (i b n)];exact n,λb u q _=>?_,
  λb l q=>by rw[YI (g b _ q λz=>z)];exact q,λb u l q=>by rw[YI (g b _ q λz=>z)];exact q,λb p q=>⟨#[],by rw[YI (g b _ q λz=>z),q];simp⟩⟩
 by_cases c:b=e
 .subst c;exact f
 .exact⟨u,k b u c q⟩
end
def OI(h:jL)(H:Hp):yC:=(List.range h.objs.size).filter λa=>(H a).isSome
def WZ(h:jL)(H:Hp):Heap:=W.hideAll h (OI h H)
theorem Bt(h:jL)(H:Hp):(WZ h H).objs.size=h.objs.size:=W.hideAll_size _ _
theorem Bs(e:h.get? b=Z9 o)(n:H b=Z8):(WZ h H).get? b=Z9 o :=
 W.hideAll_get _ e λa=>by have q:=(qG7.mp a).2;rw[n]at q;simp at q
theorem Br(e:(WZ h H).get? b=Z9 o):h.get? b=Z9 o/\H b=Z8:=by
 have a:=W.of_hideAll (OI h H) e;refine⟨a,?_⟩;cases q:H b with
 |none=>rfl
 |some x =>
  have c:b∈OI h H:=qG7.mpr ⟨qC7.mpr (qB3 a),by simp[q]⟩;have z:(WZ h H).get? b=Z8:=W.hideAll_none (OI h H) c;rw[z]at e;cases e
def Bq(g h:jL)(L:yR):yD:=(List.range h.objs.size).filterMap λa=>if a=L∨(g.get? a).isSome=Z7 then Z8 else(h.get? a).map λo=>(a,o)
def ZK(g h:jL)(L d:yR):yD:=(Bq g h L).filter λp=>decide (p.1≠d)
structure Mod(K:yS)(mg:Str->yF)(base:jL):Prop where
 kin:K.In base
 glob:base.Ns vC mg
 blt:∃mb,base.Ns uC mb/\∀x:Str,x ≠ "__name__"->mb x=jQ x
 nolimit:base.NoLimit
structure Cx where
 prog:yZ
 w:jJ
 K:yS
 mg:Str->yF
 base:jL
 A:jI
 N:yH
 s₀:yQ
 H₀:Hp
 env:Env
 outer:List Env
 stack:List Env
 ex:yC
 fn:Str->Bool
 calm:Bool
 pn:yD
 xe:yL
def Vg(l:List Env):yC:=l.filterMap (·.frame)
abbrev Cx.fs(X:Cx):yC:=Vg X.outer
def QX(a:wB)(x:Str):Prop:=a.names.lookup x=Z9 .local∨a.names.lookup x=Z9 .cell∨a.names.lookup x=Z9 .free
def RU(a:wB)(x:Str):Prop:=a.names.lookup x=Z9 .local∨a.names.lookup x=Z9 .cell
def Mn(env:Env)(h:jL)(m:Str->yF)(x:Str)(u:yT):Prop :=
 (env.kindOf x=Z9 .local/\m x=Z9 u)∨((env.kindOf x=Z9 .cell∨env.kindOf x=Z9 .free)/\∃c,env.cells.lookup x=Z9 c/\h.IsCell c (Z9 u))
structure Cx.Ok(X:Cx):Prop where
 mod:Mod X.K X.mg X.base
 kind:X.env.scope.kind=.function
 glob:X.env.globals=vC
 blt:X.env.builtins=uC
 above:X.s₀.heap.objs.size<=X.env.locals
 inj:∀x y c,X.env.cells.lookup x=Z9 c->X.env.cells.lookup y=Z9 c->x=y
 has:∀x,(X.env.kindOf x=Z9 .cell∨X.env.kindOf x=Z9 .free)->∃c,X.env.cells.lookup x=Z9 c
 cab:∀x c,X.fn x=Z7->X.env.cells.lookup x=Z9 c->X.s₀.heap.objs.size<=c
 hd:X.calm=Z7->X.A.handled=Z8
 frames:X.A.frames=Z9 X.stack
 stk:X.stack=X.outer∨(X.stack=X.env::X.outer/\X.env.frame=Z9 X.env.locals)
 exf:∀b∈X.ex,b≠X.env.locals/\∀x c,X.env.cells.lookup x=Z9 c->c≠b
 bs:∀b o,X.base.get? b=Z9 o->X.s₀.heap.get? b=Z9 o/\X.H₀ b=Z8
 bsz:X.base.objs.size<=X.s₀.heap.objs.size
 noex:∀b o,X.base.get? b=Z9 o->b∉X.ex
 exfs:∀b∈X.ex,b∉X.fs
 funs:X.s₀.heap.FunFrames X.base X.outer
 frf:∀b∈X.fs,X.H₀ b=Z8
structure ZP(X:Cx)(pins:yD)(Z:List (Option V))(H:Hp)(s:yQ):Prop where
 ok:X.Ok
 os:s.os=X.s₀.os
 bare:gZ s.gens
 base:Un X.fs X.ex X.H₀ H X.s₀.heap s.heap
 loc:∃m,s.heap.Ns X.env.locals m/\∀(i:Nat) (x:Str) (v:V),X.N[i]?=Z9 x->Z[i]?=Z9 (Z9 v)->QX X.env.scope x->∃u,ZH v u/\Mn X.env s.heap m x u
 cell:∀x c,X.env.cells.lookup x=Z9 c->∃v,s.heap.IsCell c v
 free:H X.env.locals=Z8
 freeC:∀x c,X.env.cells.lookup x=Z9 c->H c=Z8
 pin:∀p∈X.pn++pins,s.heap.get? p.1=Z9 p.2/\H p.1=Z8/\p.1≠X.env.locals/\p.1∉X.fs/\∀v,p.2.data≠.cell v
 hok:XY X.prog X.w H s.heap
 len:Z.length=X.N.length
section
variable {X:Cx}{pins:yD}{Z:List (Option V)}{H H':Hp}{s:yQ}{h':jL}
theorem Cx.Ok.nofr(ok:X.Ok)(e:X.base.get? b=Z9 o):b∉X.fs:=λa=>by have:=(ok.funs.mem a).1;rw[e]at this;cases this
theorem ZP.bs(I:ZP X pins Z H s):∀b o,X.base.get? b=Z9 o->s.heap.get? b=Z9 o/\H b=Z8:=λb o e =>
 ⟨I.base.keep b o (I.ok.bs b o e).1 (I.ok.bs b o e).2 (I.ok.nofr e) (I.ok.noex b o e),I.base.free b o (I.ok.bs b o e).1 (I.ok.bs b o e).2 (I.ok.noex b o e)⟩
theorem ZP.bk(I:ZP X pins Z H s):∀b o,X.base.get? b=Z9 o->s.heap.get? b=Z9 o:=λb o e=>(I.bs b o e).1
theorem ZP.mod(I:ZP X pins Z H s):Mod X.K X.mg X.base:=I.ok.mod
theorem ZP.kIn(I:ZP X pins Z H s):X.K.In s.heap:=I.ok.mod.kin.keeps I.bk
theorem ZP.lt(I:ZP X pins Z H s):X.env.locals<s.heap.objs.size:=let ⟨_,hn,_⟩:=I.loc;hn.lt
theorem ZP.sz(I:ZP X pins Z H s):X.s₀.heap.objs.size<=s.heap.objs.size:=qD0 I.ok.above (qI5 I.lt)
theorem ZP.nofs(I:ZP X pins Z H s){a:yR}(h:s.heap.objs.size<=a):a∉X.fs:=λc=>by obtain⟨_,o,b,_⟩:=I.ok.funs.mem c;exact absurd (qC0 (qB3 b) (qD0 I.sz h)) (qH3 _)
theorem ZP.cne(I:ZP X pins Z H s):∀x c,X.env.cells.lookup x=Z9 c->c≠X.env.locals:=λx c e z=>by obtain⟨v,o,d,f⟩:=I.cell x c e;obtain⟨m,⟨i,g,h,b,a,_⟩,_⟩:=I.loc;rw[z,b]at d;cases d;rw[a]at f;cases f
theorem ZP.funs(I:ZP X pins Z H s):s.heap.FunFrames X.base X.outer:=by
 have all:∀l,(∀b∈Vg l,b∈X.fs)->X.s₀.heap.FunFrames X.base l->s.heap.FunFrames X.base l:=by
  intro l
  induction l with
  |nil=>intro _ _;trivial
  |cons k r h =>
   intro f g;obtain⟨hk,⟨L,o,c,i,j,m⟩,n⟩:=g;have a:=f L (by unfold Vg;rw[qJ3,c];exact qE2);obtain⟨p,e⟩:=I.base.slot L o j (I.ok.frf L a) a λz=>I.ok.exfs L z a;exact⟨hk,⟨L,_,c,i,e,m⟩,h (λb d=>f b (by unfold Vg;rw[qJ3,c];exact qC5 _ d)) n⟩
 exact all X.outer (λ_ d=>d) I.ok.funs
theorem ZP.stack(I:ZP X pins Z H s):s.heap.FunFrames X.base X.stack:=by
 rcases I.ok.stk with e|⟨e,b⟩
 .rw[e];exact I.funs
 .rw[e];obtain⟨m,a,_⟩:=I.loc;refine .cons (by rw[I.ok.kind];decide) b a ?_ I.funs;exact Heap.get?_none_of_le (qD0 I.ok.bsz I.ok.above)
theorem ZP.stkSub(I:ZP X pins Z H s):∀b∈Vg X.stack,b∈X.env.locals::X.fs:=λb a=>by
 rcases I.ok.stk with e|⟨e,c⟩
 .rw[e]at a;exact qC5 _ a
 .rw[e]at a;unfold Vg at a;rw[qJ3,c]at a;exact a
theorem ZP.stkFree(I:ZP X pins Z H s):∀b∈Vg X.stack,H b=Z8:=λb a=>by
 rcases qB0.mp (I.stkSub b a)with e|a
 .rw[e];exact I.free
 .obtain⟨_,o,c,_⟩:=I.ok.funs.mem a;exact I.base.free b o c (I.ok.frf b a) λz=>I.ok.exfs b z a
theorem ZP.step{ch:yC}(I:ZP X pins Z H s)
  (h:∀b∈ch,(b∈X.ex∨X.s₀.heap.objs.size<=b)/\b≠X.env.locals/\(∀x c,X.env.cells.lookup x=Z9 c->c≠b)/\∀p∈X.pn++pins,p.1≠b)
  (keep:∀b o,b≠X.env.locals->b∉X.fs->b∉ch->s.heap.get? b=Z9 o->H b=Z8->h'.get? b=Z9 o)
  (y:∀b o,b≠X.env.locals->b∈X.fs->b∉ch->s.heap.get? b=Z9 o->H b=Z8->∃sl,h'.get? b=Z9 { o with slots:=sl }) (f:∀b o,b∉ch->s.heap.get? b=Z9 o->H b=Z8->H' b=Z8)
  (A:∀b o,b∉ch->s.heap.get? b=Z9 o->∃o',h'.get? b=Z9 o')
  (J:∀b xs,H b=Z9 (.tup xs)->H' b=Z9 (.tup xs)) (G:∀b o u,H b=Z9 (.frz o u)->H' b=Z9 (.frz o u)) (E:∀b ps,H b=Z9 (.tbl ps)->∃more,H' b=Z9 (.tbl (ps++more)))
  (R:∀m,s.heap.Ns X.env.locals m->h'.Ns X.env.locals m) (K:XY X.prog X.w H' h') (U:gZ g') :
  ZP X pins Z H' { s with heap:=h',gens:=g',drawn:=d',toks:=t' }:=by
 have D:∀b o,X.s₀.heap.get? b=Z9 o->b≠X.env.locals:=λb o e=>qB7 (qC0 (qB3 e) I.ok.above);have w:∀b o,X.s₀.heap.get? b=Z9 o->b∉X.ex->b∉ch:=λb o e a B=>by
  rcases(h b B).1 with z|z
  .exact a z
  .exact absurd (qC0 (qB3 e) z) (qH3 _)
 have j:∀x c,X.env.cells.lookup x=Z9 c->∀v,s.heap.IsCell c v->h'.IsCell c v:=λx c e v ⟨o,C,M⟩=>by
  have g:=λz=>(h c z).2.2.1 x c e rfl;by_cases O:c∈X.fs
  .obtain⟨sl,q⟩:=y c o (I.cne x c e) O g C (I.freeC x c e);exact⟨_,q,M⟩
  .exact⟨o,keep c o (I.cne x c e) O g C (I.freeC x c e),M⟩
 refine⟨I.ok,I.os,U,⟨λb o e n B a=>?_,λb o e n B a=>?_,λb o e n a=>?_,λb o e a=>?_,λb xs e=>J b xs (I.base.tups b xs e),λb o xs e=>G b o xs (I.base.frzs b o xs e),λb ps e=>?_⟩,?_,λx c e=>?_,?_,λx c e=>?_,λp N=>?_,K,I.len⟩
 .exact keep b o (D b o e) B (w b o e a) (I.base.keep b o e n B a) (I.base.free b o e n a)
 .obtain⟨sl,t⟩:=I.base.slot b o e n B a;obtain⟨L,F⟩:=y b _ (D b o e) B (w b o e a) t (I.base.free b o e n a);exact⟨L,F⟩
 .obtain⟨o',t⟩:=I.base.there b o e a;exact f b o' (w b o e a) t (I.base.free b o e n a)
 .obtain⟨o',t⟩:=I.base.there b o e a;exact A b o' (w b o e a) t
 .obtain⟨W,t⟩:=I.base.tbls b ps e;obtain⟨Y,F⟩:=E b _ t;exact⟨W++Y,by rw[F,Array.append_assoc]⟩
 .obtain⟨m,S,Q⟩:=I.loc;refine⟨m,R m S,λi x v t F T=>?_⟩;obtain⟨u,r,l⟩:=Q i x v t F T;refine⟨u,r,?_⟩;rcases l with l|⟨k,c,e,z⟩
  .exact .inl l
  .exact .inr ⟨k,c,e,j x c e _ z⟩
 .obtain⟨v,z⟩:=I.cell x c e;exact⟨v,j x c e v z⟩
 .obtain⟨m,⟨o,_,_,C,_⟩,_⟩:=I.loc;exact f _ o (λz=>(h _ z).2.1 rfl) C I.free
 .obtain⟨v,o,C,M⟩:=I.cell x c e;exact f c o (λz=>(h c z).2.2.1 x c e rfl) C (I.freeC x c e)
 .obtain⟨e,n,ne,P,d⟩:=I.pin p N;have g:=λz=>(h p.1 z).2.2.2 p N rfl;exact⟨keep p.1 p.2 ne P g e n,f p.1 p.2 g e n,ne,P,d⟩
theorem ZP.un(I:ZP X pins Z H s)(u:Un X.fs [] H H' s.heap h')(d:XY X.prog X.w H' h'):ZP X pins Z H' { s with heap:=h',toks:=t' }:=by
 obtain⟨m,⟨o,q,l,h,r⟩,_⟩:=id I.loc;obtain⟨t,i⟩:=u.any h I.free (by simp);exact I.step (g':=s.gens) (d':=s.drawn) (ch:=[]) (λ_ z=>nomatch z) (λb o _ g _ e n=>u.keep b o e n g (by simp)) (λb o _ g _ e n=>u.slot b o e n g (by simp)) (λb o _ e n=>u.free b o e n (by simp)) (λb o _ e=>u.there b o e (by simp)) u.tups u.frzs u.tbls (λp k=>by
  obtain⟨v,f,c,a,j⟩:=k;rw[h]at a;cases a;exact⟨_,f,c,i,j⟩) d I.bare
theorem ZP.call(I:ZP X pins Z H s)(u:Un (Vg X.stack) ch H H' s.heap h')(h:XY X.prog X.w H' h')(t:gZ g')
  (d:∀b∈ch,(b∈X.ex∨X.s₀.heap.objs.size<=b)/\b≠X.env.locals/\(∀x c,X.env.cells.lookup x=Z9 c->c≠b)/\∀p∈X.pn++pins,p.1≠b) :
  ZP X pins Z H' { s with heap:=h',gens:=g',drawn:=d',toks:=t' }:=by
 obtain⟨m,⟨o,A,w,k,r⟩,_⟩:=id I.loc;obtain⟨B,j⟩:=u.any k I.free λz=>(d _ z).2.1 rfl;exact I.step d (λb o j v a e n=>u.keep b o e n (λz=>(qB0.mp (I.stkSub b z)).elim j v) a) (λb o _ _ a e n=>u.any e n a) (λb o a e n=>u.free b o e n a) (λb o a e=>u.there b o e a) u.tups u.frzs u.tbls (λy q=>by
  obtain⟨C,i,g,f,l⟩:=q;rw[k]at f;cases f;exact⟨_,i,g,j,l⟩) h t
theorem ZP.turned(I:ZP X pins Z H s)(k:∀b o,b≠it->s.heap.get? b=Z9 o->h'.get? b=Z9 o)(h:H it=Z8)(f:it≠X.env.locals)
  (j:it∈X.ex∨X.s₀.heap.objs.size<=it) (l:∀x c,X.env.cells.lookup x=Z9 c->c≠it) (w:∀p∈X.pn++pins,p.1≠it):ZP X pins Z H { s with heap:=h',toks:=t' }:=by
 have d:∀b u,H b=Z9 u->b≠it:=λb u e z=>by rw[z,h]at e;cases e
 refine I.step (g':=s.gens) (d':=s.drawn) (ch:=[it]) (λb A=>?_) (λb o _ _ a e _=>k b o (λz=>a (by simp[z])) e) (λb o _ _ a e _=>⟨o.slots,k b o (λz=>a (by simp[z])) e⟩) (λ_ _ _ _ n=>n)
  (λb o a e=>⟨o,k b o (λz=>a (by simp[z])) e⟩) (λ_ _ e=>e) (λ_ _ _ e=>e) (λb B e=>⟨#[],by rw[e];simp⟩) (λm t=>?_) (λb u e=>?_) I.bare
 .have e:=by simpa using A
  subst e;exact⟨j,f,l,w⟩
 .obtain⟨o,y,g,i,r⟩:=t;exact⟨o,y,g,k _ o (Ne.symm f) i,r⟩
 .refine(I.hok b u e).stay (λc v a q=>k c v ?_ q) (λ_ q=>q) λ_ _ q=>q;rcases a with z|z
  .rw[z];exact d b u e
  .exact d c _ z
theorem ZP.tok(I:ZP X pins Z H s)(t:Nat):ZP X pins Z H { s with toks:=t }:=I.un (h':=s.heap) (t':=t) Un.refl I.hok
theorem ZP.kept(I:ZP X pins Z H s)(k:∀b u,s.heap.get? b=Z9 u->h'.get? b=Z9 u):ZP X pins Z H { s with heap:=h',toks:=t' }:=I.un (Un.kept k) (I.hok.kept k)
theorem ZP.laid{a:yR}(I:ZP X pins Z H s)(k:∀b u,s.heap.get? b=Z9 u->h'.get? b=Z9 u)(c:s.heap.objs.size<=a)(d:W4 X.prog X.w (ZD H a o) h' a o):
  ZP X pins Z (ZD H a o) { s with heap:=h',toks:=t' }:=I.un (Un.laid k c (I.hok.fresh c)) (I.hok.laid k c d)
theorem ZP.write(I:ZP X pins Z H s)(d:RW (H x))(he:e=x∨H e=Z9 (.own x))(k:∀b u,b≠e->s.heap.get? b=Z9 u->h'.get? b=Z9 u)(a:∃u,h'.get? e=Z9 u)
  (c:W4 X.prog X.w (ZD H x o) h' x o):ZP X pins Z (ZD H x o) { s with heap:=h',toks:=t' }:=I.un (Un.write d he k a) (I.hok.write d he k a c)
theorem ZP.weak(I:ZP X pins Z H s)(b:a.length=Z.length)(w:∀(i:Nat) v,a[i]?=Z9 (Z9 v)->Z[i]?=Z9 (Z9 v)):ZP X pins a H s :=
 ⟨I.ok,I.os,I.bare,I.base,let ⟨m,hn,hl'⟩:=I.loc;⟨m,hn,λi x v c e d=>hl' i x v c (w i v e) d⟩,I.cell,I.free,I.freeC,I.pin,I.hok,b.trans I.len⟩
theorem ZP.pins_of(I:ZP X pins Z H s)(h:∀p∈a,s.heap.get? p.1=Z9 p.2/\H p.1=Z8/\p.1≠X.env.locals/\p.1∉X.fs/\∀v,p.2.data≠.cell v):ZP X a Z H s :=
 ⟨I.ok,I.os,I.bare,I.base,I.loc,I.cell,I.free,I.freeC,λp b=>(qB6.mp b).elim (λz=>I.pin p (qF7 _ z)) (h p),I.hok,I.len⟩
theorem Hu{N:yH}(c:N.Nodup){i j:Nat}(a:N[i]?=Z9 x)(b:N[j]?=Z9 x):i=j:=by obtain⟨f,d⟩:=qA5.mp a;obtain⟨g,e⟩:=qA5.mp b;exact(List.getElem_inj c).mp (d.trans e.symm)
theorem Bp{E:yL}(I:ZP X pins Z H s)(hN:X.N.Nodup)(hi:X.N[i]?=Z9 x)(w:RU X.env.scope x)(r:ZH v u)
  (h:∀s',ZP X pins (Z.set i (Z9 v)) H s'->(∃a,qE3 a s.heap s'.heap/\(a=X.env.locals∨X.env.cells.lookup x=Z9 a))->Q () s') (hf:X.fn x=Z7∨X.env.scope.names.lookup x=Z9 .local:=by first|exact .inl rfl|exact .inr rfl|assumption):jC M A (storeName X.env x u) Q E s:=by
 obtain⟨m,W,hl⟩:=id I.loc;have K:(X.env.scope.kind == .class||(X.env.scope.kind == .module&&X.env.locals != X.env.globals))=Z5:=by rw[I.ok.kind];rfl
 have J:i<Z.length:=by rw[I.len];exact(qA5.mp hi).1
 have cne:=I.cne;have g:∀{a:yR}{h':jL},(∃o,s.heap.get? a=Z9 o/\H a=Z8)->qE3 a s.heap h'->XY X.prog X.w H h':=λ{a h'} ha f b ob e=>by
  obtain⟨_,_,B⟩:=ha;refine(I.hok b ob e).stay (λc S t q=>(f.2 c ?_).trans q) (λ_ q=>q) λ_ _ q=>q;rintro rfl;rcases t with rfl|t
  .rw[B]at e;cases e
  .rw[B]at t;cases t
 rcases w with hk|hk
 .refine wpAny_storeName_local hk W (λh' hn' f=>?_) K;obtain⟨oL,_,_,T,_⟩:=id W;refine h _ ⟨I.ok,I.os,I.bare,⟨λb o e n G w=>?_,λb o e n G w=>?_,I.base.free,λb o e w=>?_,I.base.tups,I.base.frzs,I.base.tbls⟩,⟨_,hn',λj y v' l C e3=>?_⟩,λy c e=>?_,I.free,I.freeC,λp hp=>?_,g ⟨oL,T,I.free⟩ f,by simpa using I.len⟩ ⟨_,f,.inl rfl⟩
  .exact(f.2 b (qB7 (qC0 (qB3 e) I.ok.above))).trans (I.base.keep b o e n G w)
  .obtain⟨sl,l⟩:=I.base.slot b o e n G w;exact⟨sl,(f.2 b (qB7 (qC0 (qB3 e) I.ok.above))).trans l⟩
  .obtain⟨o',l⟩:=I.base.there b o e w;exact⟨o',(f.2 b (qB7 (qC0 (qB3 e) I.ok.above))).trans l⟩
  .by_cases F:j=i
   .subst F;rw[hi]at l;cases l;rw[qD9 J]at C;cases C;exact⟨u,r,.inl ⟨hk,by simp⟩⟩
   .rw[qE7 (Ne.symm F)]at C;obtain⟨U,Y,q⟩:=hl j y v' l C e3;refine⟨U,Y,?_⟩;rcases q with⟨k,e⟩| ⟨k,c,e,z⟩
    .refine .inl ⟨k,?_⟩;have:y≠x:=λe=>F (Hu hN l (e▸hi));simp[this,e]
    .exact .inr ⟨k,c,e,z.sameBut f (cne y c e)⟩
  .obtain⟨S,z⟩:=I.cell y c e;exact⟨S,z.sameBut f (cne y c e)⟩
  .obtain⟨e,n,ne,nf,d⟩:=I.pin p hp;exact⟨(f.2 p.1 ne).trans e,n,ne,nf,d⟩
 .have D:X.fn x=Z7:=by
   rcases hf with z|z
   .exact z
   .rw[z]at hk;cases hk
  obtain⟨c,t⟩:=I.ok.has x (.inl hk);obtain⟨S,z⟩:=I.cell x c t;refine wpAny_storeName_cell I.ok.kind hk t z (λh' N f=>?_);obtain⟨oc,O,P⟩:=id z;refine h { s with heap:=h' } ⟨I.ok,I.os,I.bare,⟨λb o e n G w=>?_,λb o e n G w=>?_,I.base.free,λb o e w=>?_,I.base.tups,I.base.frzs,I.base.tbls⟩,⟨m,W.sameBut f (Ne.symm (cne x c t)),λj y v' l C e3=>?_⟩,λy R e=>?_,I.free,I.freeC,λp hp=>?_,g ⟨oc,O,I.freeC x c t⟩ f,by simpa using I.len⟩ ⟨c,f,.inr t⟩
  .exact(f.2 b (qB7 (qC0 (qB3 e) (I.ok.cab x c D t)))).trans (I.base.keep b o e n G w)
  .obtain⟨sl,l⟩:=I.base.slot b o e n G w;exact⟨sl,(f.2 b (qB7 (qC0 (qB3 e) (I.ok.cab x c D t)))).trans l⟩
  .obtain⟨o',l⟩:=I.base.there b o e w;exact⟨o',(f.2 b (qB7 (qC0 (qB3 e) (I.ok.cab x c D t)))).trans l⟩
  .by_cases F:j=i
   .subst F;rw[hi]at l;cases l;rw[qD9 J]at C;cases C;exact⟨u,r,.inr ⟨.inl hk,c,t,N⟩⟩
   .rw[qE7 (Ne.symm F)]at C;obtain⟨U,Y,q⟩:=hl j y v' l C e3;refine⟨U,Y,?_⟩;rcases q with q|⟨k,R,e,z'⟩
    .exact .inl q
    .refine .inr ⟨k,R,e,z'.sameBut f ?_⟩;rintro rfl;exact F (Hu hN l (I.ok.inj _ _ _ e t▸hi))
  .by_cases L:R=c
   .subst L;exact⟨_,N⟩
   .obtain⟨w2,z2⟩:=I.cell y R e;exact⟨w2,z2.sameBut f L⟩
  .obtain⟨e,n,ne,nf,d⟩:=I.pin p hp;refine⟨(f.2 p.1 ?_).trans e,n,ne,nf,d⟩;intro q;rw[q,O]at e;have q':=Option.some.inj e;exact d S (by rw[<- q'];exact P)
theorem Bo{E:yL}(I:ZP X pins Z H s)(a:X.N.Nodup)(hi:X.N[i]?=Z9 x)(b:RU X.env.scope x)(r:ZH v u)
  (h:∀s',ZP X pins (Z.set i (Z9 v)) H s'->Q () s') (d:X.fn x=Z7∨X.env.scope.names.lookup x=Z9 .local:=by first|exact .inl rfl|exact .inr rfl|assumption):jC M A (storeName X.env x u) Q E s :=
 Bp I a hi b r (λs' c _=>h s' c) d
theorem ZP.call'(I:ZP X pins Z H s)(g:s'.os=s.os)(u:Un (Vg X.stack) ch H H' s.heap s'.heap)(a:XY X.prog X.w H' s'.heap)(f:gZ s'.gens)
  (d:∀b∈ch,(b∈X.ex∨X.s₀.heap.objs.size<=b)/\b≠X.env.locals/\(∀x c,X.env.cells.lookup x=Z9 c->c≠b)/\∀p∈X.pn++pins,p.1≠b):ZP X pins Z H' s':=by obtain⟨i,g',d',t',h⟩:=s';have e:h=s.os:=g;subst e;exact I.call (g':=g') (t':=t') (d':=d') u a f d
end
abbrev XK:=yT->Option yR->Hp->Prop
abbrev St:=List (Option V)
abbrev VK:=V->Hp->Prop
abbrev TE:=St->Hp->VK->Prop
abbrev TT:=St->Hp->(Bool->Hp->Prop)->Prop
abbrev TA:=St->Hp->(List V->Hp->Prop)->Prop
structure WY where
 nx:St->Hp->Prop
 rt:VK
 bk:St->Hp->Prop:=λ_ _=>False
 ct:St->Hp->Prop:=λ_ _=>False
abbrev TS:=WY->St->Hp->Prop
inductive EP(X:Cx)(pins:yD)(Z:St)(Q:VK)(u:yT)(s':yQ):Prop
 |mk (v:V) (H':Hp) (I:ZP X pins Z H' s') (r:ZH v u) (q:Q v H')
inductive TP(X:Cx)(pins:yD)(Z:St)(Q:Bool->Hp->Prop)(b:Bool)(s':yQ):Prop
 |mk (H':Hp) (I:ZP X pins Z H' s') (q:Q b H')
inductive AP(X:Cx)(pins:yD)(Z:St)(Q:List V->Hp->Prop)(us:yB)(s':yQ):Prop
 |mk (vs:List V) (H':Hp) (I:ZP X pins Z H' s') (r:ZM vs us) (q:Q vs H')
def SP(X:Cx)(a:yD)(D:WY)(f:Flow)(s':yQ):Prop :=
 match f with
 |.next=>∃c b,ZP X a c b s'/\D.nx c b
 |.brk=>∃c b,ZP X a c b s'/\D.bk c b
 |.cont=>∃c b,ZP X a c b s'/\D.ct c b
 |.ret u=>∃v c b,ZP X a c b s'/\ZH v u/\D.rt v b
def PE(X:Cx)(e:jH)(t:TE):Prop :=
 ∀(a:yD) (s:yQ) (Z:St) (H:Hp) (Q:VK),ZP X a Z H s->t Z H Q->jC (yW X.prog X.w) X.A (wE e X.env) (EP X a Z Q) X.xe s
def PT(X:Cx)(e:jH)(t:TT):Prop :=
 ∀(a:yD) (s:yQ) (Z:St) (H:Hp) (Q:Bool->Hp->Prop),ZP X a Z H s->t Z H Q->jC (yW X.prog X.w) X.A (uT e X.env (wE e X.env)) (TP X a Z Q) X.xe s
def PW(X:Cx)(e:jH)(t:TT):Prop :=
 ∀(b:Sem yT) (a:yD) (s:yQ) (Z:St) (H:Hp) (Q:Bool->Hp->Prop),ZP X a Z H s->t Z H Q->jC (yW X.prog X.w) X.A (uT e X.env b) (TP X a Z Q) X.xe s
theorem PW.pt(h:PW X e t):PT X e t:=h _
def PA(X:Cx)(es:yE)(t:TA):Prop :=
 ∀(b:Pos) (a:yD) (s:yQ) (Z:St) (H:Hp) (Q:List V->Hp->Prop),ZP X a Z H s->t Z H Q->jC (yW X.prog X.w) X.A (spliced (fD b (jO es X.env))) (AP X a Z Q) X.xe s
def PS(X:Cx)(st:wQ)(t:TS):Prop :=
 ∀(a:yD) (s:yQ) (Z:St) (H:Hp) (D:WY),ZP X a Z H s->t D Z H->jC (yW X.prog X.w) X.A (exec st X.env) (SP X a D) X.xe s
def Xs(X:Cx)(st:List wQ)(t:TS):Prop :=
 ∀(a:yD) (s:yQ) (Z:St) (H:Hp) (D:WY),ZP X a Z H s->t D Z H->jC (yW X.prog X.w) X.A (execs st X.env) (SP X a D) X.xe s
theorem Zq{Q c:b->yQ->Prop}{E:yL}(h:jC M A t Q E s)(d:∀a s,Q a s->c a s):jC M A t c E s:=jY h d λ_ _ x=>x
section
variable {X:Cx}
def SV(i:Nat):TE:=fun Z H Q=>∃v,Z[i]?=Z9 (Z9 v)/\Q v H
def tC(v:V):TE:=λ_ H Q=>Q v H
theorem Ht{pos:Pos}(k:X.N[i]?=Z9 x)(o:QX X.env.scope x)(d:VN x:=by decide)(f:(x == ("__classdict__":Str))=Z5:=by decide):PE X (.Name x pos) (SV i):=by
 intro b s Z H Q I h;obtain⟨v,e,h⟩:=h;obtain⟨m,n,j⟩:=I.loc;obtain⟨u,r,l⟩:=j i x v k e o;have fin:EP X b Z Q u s:=⟨v,H,I,r,h⟩
 rcases l with⟨hk,p⟩| ⟨hk,c,g,a⟩
 .exact wpAny_Name (wpAny_loadName_local I.ok.kind hk n p fin) d
 .rcases hk with hk|hk
  .exact wpAny_Name (wpAny_loadName_cell I.ok.kind hk g a fin) d
  .exact wpAny_Name (wpAny_loadName_free I.ok.kind hk g a fin f) d
theorem Bn{i j pos}:PE X (.Constant (.int i) j pos) (tC (.int i)):=λ_ _ _ H _ I h=>wpAny_Constant_int ⟨.int i,H,I.tok _,⟨_,rfl⟩,h⟩
theorem Bm{b j pos}:PE X (.Constant (.bool b) j pos) (tC (.bl b)):=λ_ _ _ H _ I h=>Constant_bool ⟨.bl b,H,I,rfl,h⟩
theorem Bk{j pos}:PE X (.Constant .none j pos) (tC .non):=λ_ _ _ H _ I h=>Constant_none ⟨.non,H,I,rfl,h⟩
theorem Bj{x j pos}:PE X (.Constant (.str x) j pos) (tC (.str x)):=λ_ _ _ H _ I h=>Calls.Constant_str ⟨.str x,H,I.tok _,⟨_,rfl⟩,h⟩
def Gl(X:Cx)(x:Str):Prop:=X.env.kindOf x=Z9 .globalImplicit
theorem Bi{E:yL}{Z:St}{Q:yL}(I:ZP X a Z H s)(b:Gl X x)(hm:X.mg x=Z9 u)(h:Q u s)
  (c:VN x:=by decide):jC (yW X.prog X.w) X.A (wE (.Name x pos) X.env) Q E s :=
 gH I.ok.kind b (Calls.loadGlobal_global (by rw[I.ok.glob];exact I.mod.glob.keeps I.bk) hm h) c
theorem Uz{E:yL}{Z:St}{pos:Pos}{Q:yL}(I:ZP X a Z H s)(g:Gl X x)(hm:X.mg x=Z8)(e:jQ x=Z9 u)(h:Q u s)
  (b:x ≠ "__name__":=by decide) (f:VN x:=by decide):jC (yW X.prog X.w) X.A (wE (.Name x pos) X.env) Q E s:=by obtain⟨i,c,d⟩:=I.mod.blt;exact gH I.ok.kind g (Calls.loadGlobal_builtin (by rw[I.ok.glob];exact I.mod.glob.keeps I.bk) hm (by rw[I.ok.blt];exact c.keeps I.bk) ((d x b).trans e) h) f
theorem Bh{pos:Pos}(b:Gl X x)(hm:X.mg x=Z8)(a:jQ x=Z9 u)(r:ZH v u)(c:x ≠ "__name__":=by decide)(d:VN x:=by decide):PE X (.Name x pos) (tC v) :=
 λ_ _ _ H _ I h=>Uz I b hm a ⟨v,H,I,r,h⟩ c d
variable {a b:jH}{ta tb:TE}{pos:Pos}
variable {tA tB':TT}{ZK:yE}
def Mm(t u:TT):TT:=fun Z H Q=>t Z H λc d=>if c=Z7 then u Z d Q else Q Z5 d
def Bg(t u:TT):TT:=fun Z H Q=>t Z H λc d=>if c=Z7 then Q Z7 d else u Z d Q
def Ml(t:TT):TT:=fun Z H Q=>t Z H λc d=>Q (!c) d
theorem Bf(f:PT X a tA):PW X (.BoolOp .And [a] pos) tA:=by
 intro i d s Z H Q I h;refine isTrue_and (Zq (f d s Z H Q I h) λc g e=>?_);cases c with
 |true=>exact isTrue_and_nil e
 |false=>exact e
theorem Be(f:PT X a tA):PW X (.BoolOp .Or [a] pos) tA:=by
 intro i d s Z H Q I h;refine isTrue_or (Zq (f d s Z H Q I h) λc g e=>?_);cases c with
 |false=>exact isTrue_or_nil e
 |true=>exact e
theorem Bd(i:PT X a tA)(l:PW X (.BoolOp .And (b::ZK) pos) tB'):PW X (.BoolOp .And (a::b::ZK) pos) (Mm tA tB'):=by
 intro k d s Z H Q I h;refine isTrue_and (Zq (i d s Z H _ I h) λc j ⟨f,e,g⟩=>?_);cases c with
 |true=>exact l k d j Z f Q e g
 |false=>exact⟨f,e,g⟩
theorem Bc(i:PT X a tA)(l:PW X (.BoolOp .Or (b::ZK) pos) tB'):PW X (.BoolOp .Or (a::b::ZK) pos) (Bg tA tB'):=by
 intro k d s Z H Q I h;refine isTrue_or (Zq (i d s Z H _ I h) λc j ⟨f,e,g⟩=>?_);cases c with
 |true=>exact⟨f,e,g⟩
 |false=>exact l k d j Z f Q e g
theorem Bb(f:PT X a tA):PT X (.UnaryOp .Not a pos) (Ml tA):=by intro d s Z H Q I h;exact isTrue_not (Zq (f d s Z H (λc g=>Q (!c) g) I h) λc j ⟨e,i,q⟩=>⟨e,i,q⟩)
def Ba(e f:TE):TE:=fun Z H Q=>e Z H λx d=>∃c,x=.bl c/\if c=Z7 then f Z d Q else Q (.bl Z5) d
def Mk(e f:TE):TE:=fun Z H Q=>e Z H λx d=>∃c,x=.bl c/\if c=Z7 then Q (.bl Z7) d else f Z d Q
def A9(e:TE):TE:=fun Z H Q=>e Z H λx d=>∃c,x=.bl c/\Q (.bl (!c)) d
theorem A8{op}(h:PE X a t):PE X (.BoolOp op [a] pos) t:=λc s Z H Q I d=>BoolOp_one (h c s Z H Q I d)
theorem A7(i:PE X a ta)(l:PE X (.BoolOp .And (b::ZK) pos) tb):PE X (.BoolOp .And (a::b::ZK) pos) (Ba ta tb):=by
 intro d s Z H Q I h;refine BoolOp_and (Zq (i d s Z H _ I h) λv j ⟨x,g,f,k,e⟩=>?_);obtain⟨c,rfl,e⟩:=e;cases k;refine j7 ?_;cases c with
 |true=>exact l d j Z g Q f e
 |false=>exact⟨.bl Z5,g,f,rfl,e⟩
theorem A6(i:PE X a ta)(l:PE X (.BoolOp .Or (b::ZK) pos) tb):PE X (.BoolOp .Or (a::b::ZK) pos) (Mk ta tb):=by
 intro d s Z H Q I h;refine BoolOp_or (Zq (i d s Z H _ I h) λv j ⟨x,g,f,k,e⟩=>?_);obtain⟨c,rfl,e⟩:=e;cases k;refine j7 ?_;cases c with
 |false=>exact l d j Z g Q f e
 |true=>exact⟨.bl Z7,g,f,rfl,e⟩
theorem A5(f:PE X a ta):PE X (.UnaryOp .Not a pos) (A9 ta):=by intro d s Z H Q I h;refine UnaryOp_ (Zq (f d s Z H _ I h) λv k ⟨x,i,g,j,e⟩=>?_);obtain⟨c,rfl,e⟩:=e;cases j;exact not_of (j7 ⟨.bl (!c),i,g,rfl,e⟩)
def A4(t:TT)(e f:TE):TE:=fun Z H Q=>t Z H λc d=>if c=Z7 then e Z d Q else f Z d Q
theorem A3(l:PT X c tA)(k:PE X a ta)(m:PE X b tb):PE X (.IfExp c a b pos) (A4 tA ta tb):=by
 intro e s Z H Q I h;refine wpAny_IfExp (Zq (l e s Z H _ I h) λd g ⟨i,f,j⟩=>?_);cases d with
 |true=>exact k e g Z i Q f j
 |false=>exact m e g Z i Q f j
end
def YQ(K:yS)(H:Hp)(a:yR)(xs:List V):Prop :=
 Rd H a (.lst xs) ∨
  ∃(o:Obj) (b:yJ) (n:Nat),K.lookup a=Z9 o/\o.cls=.type "list"/\o.dict=Z8/\o.data=.seq b n/\b.size<=jF/\ZM xs b.toList
def Zn(K:yS)(H:Hp)(a:yR)(xs:List V):Prop :=
 Rd H a (.tup xs) ∨
  ∃(o:Obj) (b:yJ) (n:Nat),K.lookup a=Z9 o/\o.cls=.type "tuple"/\o.data=.seq b n/\b.size<=jF/\ZM xs b.toList
def Mj:yT->Option V
 |.none=>Z9 .non
 |.bool b=>Z9 (.bl b)
 |.int i _=>Z9 (.int i)
 |.str x _=>Z9 (.str x)
 |.bytes b _=>Z9 (.byt b)
 |.float b _=>Z9 (.flt b)
 |.ref a=>Z9 (.ref a)
 |.type n=>Z9 (.ty n)
 |_=>Z8
theorem ZH.abs(r:ZH x u):Mj u=Z9 x:=by
 cases x with
 |non=>cases r;rfl
 |bl _=>cases r;rfl
 |int _=>obtain⟨t,rfl⟩:=r;rfl
 |str _=>obtain⟨t,rfl⟩:=r;rfl
 |byt _=>obtain⟨t,rfl⟩:=r;rfl
 |flt _=>obtain⟨t,rfl⟩:=r;rfl
 |ref _=>cases r;rfl
 |ty _=>cases r;rfl
theorem ZH.inj(r:ZH x u)(q:ZH y u):x=y:=Option.some.inj (r.abs.symm.trans q.abs)
theorem ZM.inj:∀{xs ys:List V}{a:yB},ZM xs a->ZM ys a->xs=ys
 |_,_,_,.nil,.nil=>rfl
 |_,_,_,.cons r t,.cons c b=>by rw[r.inj c,ZM.inj t b]
section
variable {X:Cx}{pins:yD}{Z:St}{H:Hp}{s:yQ}{a:yR}{xs ys:List V}
theorem YQ.of{K:yS}(h:H a=Z9 (.lst xs)):YQ K H a xs:=.inl (.inl h)
theorem Zn.of{K:yS}(h:H a=Z9 (.tup xs)):Zn K H a xs:=.inl (.inl h)
theorem ZP.list(I:ZP X pins Z H s)(h:YQ X.K H a xs):∃b:yB,ZM xs b/\PlainL s.heap a b.toArray/\xs.length<=sizeLine:=by
 rcases h with h|⟨o,b,n,hk,f,d,c,g,r⟩
 .obtain⟨z,b,n,r,e⟩:=h.ok I.hok;exact⟨b,r,⟨_,n,e,rfl,rfl,rfl⟩,z⟩
 .refine⟨b.toList,r,⟨o,n,I.kIn a o hk,f,d,by simpa using c⟩,?_⟩;have e:=r.length;simp only[yV]at e
  lia
theorem ZP.tuple(I:ZP X pins Z H s)(h:Zn X.K H a xs):∃b:yB,ZM xs b/\dQ s.heap a b.toArray/\xs.length<=sizeLine:=by
 rcases h with h|⟨o,b,n,hk,d,c,f,r⟩
 .obtain⟨z,b,r,p⟩:=h.ok I.hok;exact⟨b,r,p,z⟩
 .refine⟨b.toList,r,⟨o,I.kIn a o hk,d,n,by simpa using c⟩,?_⟩;have e:=r.length;simp only[yV]at e
  lia
theorem ZP.list_inj(I:ZP X pins Z H s)(h:YQ X.K H a xs)(h':YQ X.K H a ys):xs=ys:=by
 obtain⟨g,r,⟨o,n,e,_,_,d⟩,_⟩:=I.list h;obtain⟨c,i,⟨j,k,f,_,_,b⟩,_⟩:=I.list h';rw[e]at f;cases f;rw[d]at b;injection b with d1 _;have:=by simpa using congrArg Array.toList d1
 subst this;exact r.inj i
theorem ZP.tuple_inj(I:ZP X pins Z H s)(h:Zn X.K H a xs)(h':Zn X.K H a ys):xs=ys:=by
 obtain⟨g,r,⟨o,e,_,n,d⟩,_⟩:=I.tuple h;obtain⟨c,i,⟨j,f,_,k,b⟩,_⟩:=I.tuple h';rw[e]at f;cases f;rw[d]at b;injection b with d1 _;have:=by simpa using congrArg Array.toList d1
 subst this;exact r.inj i
end
abbrev Cx.wish(X:Cx)(E:yL):Cx:={ X with xe:=E }
abbrev Cx.nox(X:Cx):Cx:=X.wish λ_ _=>False
theorem Cx.Ok.wish{X:Cx}(ok:X.Ok)(E:yL):(X.wish E).Ok :=
 ⟨ok.mod,ok.kind,ok.glob,ok.blt,ok.above,ok.inj,ok.has,ok.cab,ok.hd,ok.frames,ok.stk,ok.exf,ok.bs,ok.bsz,ok.noex,ok.exfs,ok.funs,ok.frf⟩
theorem Cx.Ok.unwish{X:Cx}(ok:(X.wish E).Ok):X.Ok :=
 ⟨ok.mod,ok.kind,ok.glob,ok.blt,ok.above,ok.inj,ok.has,ok.cab,ok.hd,ok.frames,ok.stk,ok.exf,ok.bs,ok.bsz,ok.noex,ok.exfs,ok.funs,ok.frf⟩
section
variable {X:Cx}{pins:yD}{Z:St}{H:Hp}{s:yQ}{E:yL}
theorem ZP.wish(I:ZP X pins Z H s)(E:yL):ZP (X.wish E) pins Z H s:=⟨I.ok.wish E,I.os,I.bare,I.base,I.loc,I.cell,I.free,I.freeC,I.pin,I.hok,I.len⟩
theorem ZP.unwish(I:ZP (X.wish E) pins Z H s):ZP X pins Z H s:=⟨I.ok.unwish,I.os,I.bare,I.base,I.loc,I.cell,I.free,I.freeC,I.pin,I.hok,I.len⟩
theorem SP.unwish(h:SP (X.wish E) pins D f s'):SP X pins D f s':=by
 cases f with
 |next=>obtain⟨b,a,I,q⟩:=h;exact⟨b,a,I.unwish,q⟩
 |brk=>obtain⟨b,a,I,q⟩:=h;exact⟨b,a,I.unwish,q⟩
 |cont=>obtain⟨b,a,I,q⟩:=h;exact⟨b,a,I.unwish,q⟩
 |ret u=>obtain⟨v,b,a,I,r,q⟩:=h;exact⟨v,b,a,I.unwish,r,q⟩
theorem Xs.nox{st:List wQ}(h:Xs X.nox st t):Xs X st t:=λa s Z H D I b =>
 jY (h a s Z H D (I.wish _) b) (λ_ _ q=>q.unwish) λ_ _ z=>False.elim z
end
section
variable {X:Cx}{st:wQ}{ZK:List wQ}{t u:TS}{e:jH}{te:TE}{pos:Pos}
def Hs:TS:=λD Z H=>D.nx Z H
def Mi(t u:TS):TS:=λD Z H=>t { D with nx:=u D } Z H
theorem A2:Xs X [] Hs:=λ_ _ Z H _ I h=>mJ ⟨Z,H,I,h⟩
theorem A1(g:PS X st t)(j:Xs X ZK u):Xs X (st::ZK) (Mi t u):=by
 intro a s Z H D I h;refine wpAny_execs_cons (Zq (g a s Z H { D with nx:=u D } I h) λf d q=>?_);cases f with
 |next =>
  obtain⟨c,b,i,q⟩:=q;exact j a d c b D i q
 |ret v=>exact q
 |brk=>exact q
 |cont=>exact q
def A0:TS:=λD Z H=>D.bk Z H
def AZ:TS:=λD Z H=>D.ct Z H
theorem AY:PS X (.Pass pos) Hs:=λ_ _ Z H _ I h=>wpAny_Pass ⟨Z,H,I,h⟩
theorem AX:PS X (.Break pos) A0:=λ_ _ Z H _ I h=>wpAny_Break ⟨Z,H,I,h⟩
theorem AW:PS X (.Continue pos) AZ:=λ_ _ Z H _ I h=>wpAny_Continue ⟨Z,H,I,h⟩
theorem ZP.quiet{Z:St}(I:ZP X a Z H s):interactive X.env=Z5:=by simp[interactive,I.ok.kind]
def AV(a:TE):TS:=λD Z H=>a Z H λ_ b=>D.nx Z b
theorem AU(he:PE X e te)(hs:fP e Z8 pos.line X.env=pure Z5:=by rfl):PS X (.Expr e pos) (AV te):=by intro a s Z H D I h;exact wpAny_Expr_any (Zq (he a s Z H _ I h) λv f ⟨x,c,b,g,d⟩=>⟨Z,c,b,d⟩) I.quiet hs
def Mh(a:TE):TS:=λD Z H=>a Z H D.rt
theorem AS(he:PE X e te):PS X (.Return (Z9 e) pos) (Mh te):=by intro a s Z H D I h;exact wpAny_Return_some (Zq (he a s Z H _ I h) λv g ⟨x,c,b,f,d⟩=>⟨x,Z,c,b,f,d⟩)
def AR:TS:=λD _ H=>D.rt .non H
theorem AQ:PS X (.Return Z8 pos) AR:=λ_ _ Z H _ I h=>wpAny_Return_none ⟨.non,Z,H,I,rfl,h⟩
def Mf(c:TT)(t u:TS):TS:=λD Z H=>c Z H λb a=>if b=Z7 then t D Z a else u D Z a
theorem AO(m:PT X c tc)(l:Xs X a t)(n:Xs X b u):PS X (.If c a b pos) (Mf tc t u):=by
 intro f s Z H D I h;refine wpAny_If (Zq (m f s Z H _ I h) λd i ⟨j,g,k⟩=>?_);cases d with
 |true=>exact l f i Z j D g k
 |false=>exact n f i Z j D g k
def AN:TS:=λ_ _ _=>False
theorem AM:PS X st AN:=λ_ _ _ _ _ _ h=>h.elim
end
abbrev TG:=V->St->Hp->(St->Hp->Prop)->Prop
abbrev Uy:=List V->St->Hp->(St->Hp->Prop)->Prop
def PG(X:Cx)(a:jH)(t:TG):Prop :=
 ∀(b:yD) (s:yQ) (Z:St) (H:Hp) (v:V) (u:yT) (Q:St->Hp->Prop),ZP X b Z H s->ZH v u->t v Z H Q ->
  jC (yW X.prog X.w) X.A (lF a X.env u) (λ_ e=>∃d c,ZP X b d c e/\Q d c) X.xe s
def VM(X:Cx)(g:yE)(t:Uy):Prop :=
 ∀(a:yD) (s:yQ) (Z:St) (H:Hp) (d:List V) (e:yB) (Q:St->Hp->Prop),ZP X a Z H s->ZM d e->t d Z H Q ->
  jC (yW X.prog X.w) X.A (assignInOrder ((jZ g X.env).map (·.2)) e) (λ_ f=>∃c b,ZP X a c b f/\Q c b) X.xe s
abbrev Ux:=V->V->V->Hp->(Hp->Prop)->Prop
def VL(X:Cx)(t:Ux):Prop :=
 ∀(a:yD) (s:yQ) (Z:St) (H:Hp) (o i v:V) (c d u:yT) (Q:Hp->Prop),ZP X a Z H s->ZH o c->ZH i d->ZH v u->t o i v H Q ->
  jC (yW X.prog X.w) X.A (uZ c d u) (λ_ e=>∃b,ZP X a Z b e/\Q b) X.xe s
section
variable {X:Cx}{pos:Pos}
def SU(i:Nat):TG:=λv Z H Q=>Q (Z.set i (Z9 v)) H
theorem OH(b:X.N.Nodup)(hi:X.N[i]?=Z9 x)(c:RU X.env.scope x)(e:X.fn x=Z7∨X.env.scope.names.lookup x=Z9 .local:=by first|exact .inl rfl|exact .inr rfl|assumption):PG X (.Name x pos) (SU i):=by intro a s Z H v u Q I r h;exact wpAny_assign_Name (Bo I b hi c r (λf d=>⟨_,H,d,h⟩) e)
def QW:Uy:=λa Z H Q=>a=[]/\Q Z H
def Hr(t:TG)(u:Uy):Uy:=λb Z H Q=>∃v r,b=v::r/\t v Z H fun c a=>u r c a Q
theorem Hq:VM X [] QW:=by intro a s Z H b c Q I r h;obtain⟨e,h⟩:=h;subst e;cases r;exact assignInOrder_nil ⟨Z,H,I,h⟩
theorem Ho(d:PG X e t)(f:VM X es u)
  (hs:(jZ (e::es) X.env).map (·.2)=lF e X.env::(jZ es X.env).map (·.2):=by rfl):VM X (e::es) (Hr t u):=by
 intro a s Z H n m Q I r h;obtain⟨v,o,b,h⟩:=h;subst b;cases r with
 |cons r i =>
  rw[hs];refine assignInOrder_cons (Zq (d a s Z H _ _ _ I r h) λ_ j ⟨k,c,g,l⟩=>?_);exact f a j k c _ _ Q g i l
def QV(K:yS)(n:Nat)(t:Uy):TG:=λv Z H Q=>∃a b,v=.ref a/\Zn K H a b/\b.length=n/\t b Z H Q
theorem Hn{k:Nat}(y:X.calm=Z7)(h:VM X es t)
  (l:(jZ es X.env).length=n:=by rfl) (f:(jZ es X.env).findIdx? (·.1)=Z8:=by rfl):PG X (.Tuple es k pos) (QV X.K n t):=by intro c s Z H v u Q I r d;obtain⟨a,p,m,x,i,d⟩:=d;subst m;cases r;obtain⟨q,g,ht,A⟩:=I.tuple x;refine assign_Tuple_tuple (I.ok.hd y) ht (by simp[l,<- i,g.length]) f λz j=>?_;have w:=I.kept (t':=s.toks) λb o e=>j b o (qB7 (qB3 e)) e;exact h c _ Z H p _ Q w (by simpa using g) d
def Me(d e:TE)(t:Ux):TG:=λv Z H Q=>d Z H λo a=>e Z a λi b=>t o i v b λc=>Q Z c
theorem AL(k:PE X o e)(hi:PE X i d)(hs:VL X t)
  (B:∀v,lF (.Subscript o i pos) X.env v=(do
   let b <- fH [v] (wE o X.env)
   let c <- fH [v,b] (wE i X.env)
   uH pos
   fH [v,b,c] (uZ b c v)
   release [v,b,c] []):=by intro _;rfl):PG X (.Subscript o i pos) (Me e d t):=by intro a s Z H v u Q I r h;rw[B];refine yO (jP (Zq (k a s Z H _ I h) λb q ⟨x,l,n,m,D⟩=>?_));refine yO (jP (Zq (hi a q Z l _ n D) λc A ⟨y,w,p,C,f⟩=>?_));refine yO (dR (yO (jP (Zq (hs a A Z w x y v b c u _ p m C r f) λ_ E ⟨z,g,j⟩=>?_))));exact wpAny_release ⟨Z,z,g,j⟩
def Vf(b:TE)(g:TG):TS:=λD Z H=>b Z H λx a=>g x Z a D.nx
theorem AK(he:PE X e c)(m:PG X b g)(hs:swapsWithSole [b] e pos.line X.env=pure Z5:=by rfl)(d:wY [b] e X.env=pure Z8:=by rfl)
  (i:(jZ [b] X.env).map (·.2)=[lF b X.env]:=by rfl):PS X (.Assign [b] e pos) (Vf c g):=by intro a s Z H D I h;refine wpAny_Assign_stores (Zq (he a s Z H _ I h) λv l ⟨x,f,k,j,n⟩=>?_) hs d;rw[i];exact Zq (m a l Z f x v _ k j n) λ_ o q=>q
end
section
variable {X:Cx}{pos:Pos}
def AJ(c:TT)(g:TS):TS:=λD Z H=>∃W:Nat->St->Hp->Prop,(∃m,W m Z H)/\∀m Z H,W m Z H ->
 c Z H λb e=>if b=Z7 then ∃N:St->Hp->Prop,(∀d a,N d a->∃f,f<m/\W f d a)/\g { D with nx:=N,ct:=N,bk:=D.nx } Z e else D.nx Z e
theorem AI(y:dM (yW X.prog X.w) X.A X.env X.xe)(K:PT X c tc)(O:Xs X d x):PS X (.While c d [] pos) (AJ tc x):=by
 intro a s Z H D I h;obtain⟨W,⟨L,M⟩,g⟩:=h;refine wpAny_While (codeAny_whileLoop (λn C=>∃u z,ZP X a u z C/\W n u z) ?_ L ⟨Z,H,I,M⟩);rintro n G ⟨l,w,F,E⟩;refine wG y (Zq (K a G l w _ F (g n l w E)) λb J ⟨B,A,j⟩=>?_);cases b with
 |true =>
  obtain⟨N,t,j⟩:=j;refine wG y (Zq (O a J l B _ A j) λf P k=>?_);cases f with
  |next =>
   obtain⟨e,i,m,q⟩:=k;obtain⟨p,r,o⟩:=t e i q;exact⟨p,r,e,i,m,o⟩
  |cont =>
   obtain⟨e,i,m,q⟩:=k;obtain⟨p,r,o⟩:=t e i q;exact⟨p,r,e,i,m,o⟩
  |brk=>exact k
  |ret v=>exact k
 |false =>
  exact mJ ⟨l,B,A,j⟩
end
structure It where
 go:Nat->Hp->Prop
 yld:Nat->Hp->V->Hp->Prop
 stop:Nat->Hp->Prop
def Yd(X:Cx)(a:yD)(H:Hp)(b:yR):Prop :=
 H b=Z8/\b≠X.env.locals/\b∉X.fs/\(b∈X.ex∨X.s₀.heap.objs.size<=b)/\(∀x c,X.env.cells.lookup x=Z9 c->c≠b)/\∀p∈X.pn++a,p.1≠b
theorem ZP.fpOk{Z:St}{b:yR}(I:ZP X a Z H s)(d:s.heap.objs.size<=b)(h:f b=Z8):Yd X a f b:=by
 refine⟨h,qK1 (qC0 I.lt d),I.nofs d,.inr (qD0 I.sz d),λx c e z=>?_,λp g z=>?_⟩
 .obtain⟨v,q⟩:=I.cell x c e;exact absurd (qC0 q.lt (by rw[z];exact d)) (qH3 _)
 .exact absurd (qC0 (qB3 (I.pin p g).1) (by rw[z];exact d)) (qH3 _)
structure Xb(P:yZ)(w:jJ)(K:yS)(tg:jH)(JJ:It)(fp:yC)(it:yR)(tn:Nat->jL->Prop):Prop where
 mem:it∈fp
 obj:∀i h,tn i h->∀b∈fp,∃o,h.get? b=Z9 o/\∀v,o.data≠.cell v
 keep:∀i h h',tn i h->(∀b∈fp,∀o,h.get? b=Z9 o->h'.get? b=Z9 o)->tn i h'
 item:∀(X:Cx),X.prog=P->X.w=w->X.K=K->X.calm=Z7->∀(i:Nat) (pins:yD) (s:yQ) (Z:St) (H:Hp) (E:yL),ZP X pins Z H s->(∀b∈fp,Yd X pins H b)->tn i s.heap->JJ.go i H ->
  jC (yW P w) X.A (mY (.ref it)) (λr s1=>∃u,r=Z9 u /\
   jC (yW P w) X.A (mK tg (.ref it) u) (λ_ s2=>∃x H',ZP X pins Z H' s2/\ZH x u/\JJ.yld i H x H'/\tn (i+1) s2.heap/\∀b∈fp,H' b=Z8) E s1) E s
 done:∀(X:Cx),X.prog=P->X.w=w->X.K=K->X.calm=Z7->∀(i:Nat) (pins:yD) (s:yQ) (Z:St) (H:Hp) (E:yL),ZP X pins Z H s->(∀b∈fp,Yd X pins H b)->tn i s.heap->JJ.stop i H ->
  jC (yW P w) X.A (mY (.ref it)) (λr s1=>r=Z8/\ZP X pins Z H s1) E s
 self:∀(A:jI) (i:Nat) (s:yQ) (Q:yL) (E:yL),tn i s.heap->Q (.ref it) s->jC (yW P w) A (mZ (.ref it)) Q E s
abbrev TI:=St->Hp->(It->Hp->Prop)->Prop
inductive OG(X:Cx)(pins:yD)(Z:St)(tg:jH)(R:It->Hp->Prop)(itv:yT)(s2:yQ):Prop
 |mk (it:yR) (fp:yC) (tn:Nat->jL->Prop) (JJ:It) (H':Hp) (e:itv=.ref it) (I:ZP X pins Z H' s2) (T:Xb X.prog X.w X.K tg JJ fp it tn) (t0:tn 0 s2.heap) (f:∀b∈fp,Yd X pins H' b) (r:R JJ H')
def PI(X:Cx)(b iter:jH)(d:TI):Prop :=
 ∀(a:yD) (s:yQ) (Z:St) (H:Hp) (R:It->Hp->Prop),ZP X a Z H s->d Z H R ->
  jC (yW X.prog X.w) X.A (wE iter X.env) (λv c=>jC (yW X.prog X.w) X.A (mZ v) (OG X a Z b R) X.xe c) X.xe s
theorem OF{E:yL}{c:yJ}(g:s.heap.get? d=Z9 o)(i:o.cls=.type n)(f:o.data=.fields c)
    (e:["enumerate","zip","dict_itemiterator","dict_reverseitemiterator","odict_iterator","itertools.zip_longest","itertools.pairwise"].contains n=Z5) (a:Q () s):jC M A (mK b (.ref d) u) Q E s:=by
  cases b<;>first
    |exact yP a
    | (cases u<;>first
        |exact yP a
        | (refine yO (lX g ?_)
           rw[i,f];show jC M A (if(["enumerate","zip","dict_itemiterator","dict_reverseitemiterator","odict_iterator","itertools.zip_longest","itertools.pairwise"].contains n&&c[0]? == Z9 (fI _))=Z7 then _ else _) Q E s;rw[if_neg (by intro h;rw[e,qR7]at h;cases h)];exact yP a))
def Md(K:yS)(a:yR):It :=
 ⟨λi H=>∃b x,YQ K H a b/\b[i]?=Z9 x,λi H x c=>c=H/\∀b,YQ K H a b->b[i]?=Z9 x,λi H=>∃b,YQ K H a b/\b.length<=i⟩
def Mc(K:yS)(a:yR):It :=
 ⟨λi H=>∃b x,Zn K H a b/\b[i]?=Z9 x,λi H x c=>c=H/\∀b,Zn K H a b->b[i]?=Z9 x,λi H=>∃b,Zn K H a b/\b.length<=i⟩
def QU(lo:Int)(n:Nat):It:=⟨λi _=>i<n,λi H x a=>a=H/\x=.int (lo+i),λi _=>n<=i⟩
theorem AH{P:yZ}{w:jJ}{K:yS}{Q:jH}(a g:yR):Xb P w K Q (Md K a) [g] g (λi h=>h.IsListIter g a i) where
 mem:=by simp
 obj:=λi h st b f=>by
  have e:=by simpa using f
  subst e;obtain⟨o,e,c,d⟩:=st;exact⟨o,e,λv z=>by rw[d]at z;cases z⟩
 keep:=λi h M st k=>st.at λo e=>k g (by simp) o e
 item:=by intro X r q J N i l s Z H E I m st L;subst r q J;obtain⟨R,x,n,t⟩:=L;obtain⟨A,D,p,U⟩:=I.list n;obtain⟨u,W,S⟩:=D.get t;obtain⟨B,G,Y,y,F,C⟩:=m g (by simp);refine lY st p.isList (by simpa using W) λM j sb=>?_;have T:=I.turned (t':=s.toks) (λb o f e=>(sb.2 b f).trans e) B G y F C;obtain⟨o,e,c,d⟩:=id j;exact⟨u,rfl,OF e c d (by decide) ⟨x,H,T,S,⟨rfl,λys V=>by rw[I.list_inj V n];exact t⟩,j,λb f=>(m b f).1⟩⟩
 done:=by intro X r q J N i l s Z H E I m st L;subst r q J;obtain⟨R,n,t⟩:=L;obtain⟨A,D,p,U⟩:=I.list n;obtain⟨B,G,Y,y,F,C⟩:=m g (by simp);have hl:=D.length;exact mP (I.ok.hd N) st p.isList (by simp;lia) λM O=>⟨rfl,I.turned (t':=s.toks) (λb o f e=>O b o f e) B G y F C⟩
 self:=λ_ _ _ _ _ st h=>wpAny_pyIter_listiter st h
theorem AG{P:yZ}{w:jJ}{K:yS}{Q:jH}(a g:yR):Xb P w K Q (Mc K a) [g] g (λi h=>h.IsTupleIter g a i) where
 mem:=by simp
 obj:=λi h st b f=>by
  have e:=by simpa using f
  subst e;obtain⟨o,e,c,d⟩:=st;exact⟨o,e,λv z=>by rw[d]at z;cases z⟩
 keep:=λi h M st k=>st.at λo e=>k g (by simp) o e
 item:=by intro X r q J N i l s Z H E I m st L;subst r q J;obtain⟨R,x,n,t⟩:=L;obtain⟨A,D,p,U⟩:=I.tuple n;obtain⟨u,W,S⟩:=D.get t;obtain⟨B,G,Y,y,F,C⟩:=m g (by simp);refine wpAny_pyNext_tuple_item st (p) (by simpa using W) λM j sb=>?_;have T:=I.turned (t':=s.toks) (λb o f e=>(sb.2 b f).trans e) B G y F C;obtain⟨o,e,c,d⟩:=id j;exact⟨u,rfl,OF e c d (by decide) ⟨x,H,T,S,⟨rfl,λys V=>by rw[I.tuple_inj V n];exact t⟩,j,λb f=>(m b f).1⟩⟩
 done:=by intro X r q J N i l s Z H E I m st L;subst r q J;obtain⟨R,n,t⟩:=L;obtain⟨A,D,p,U⟩:=I.tuple n;obtain⟨B,G,Y,y,F,C⟩:=m g (by simp);have hl:=D.length;exact wpAny_pyNext_tuple_end (I.ok.hd N) st (p) (by simp;lia) λM O=>⟨rfl,I.turned (t':=s.toks) (λb o f e=>O b o f e) B G y F C⟩
 self:=λ_ _ _ _ _ st h=>wpAny_pyIter_tupleiter st h
theorem AF{P:yZ}{w:jJ}{K:PySem.W.Frag}{D:jH}(c:yR)(lo:Int)(n:Nat):Xb P w K D (QU lo n) [c] c (λi h=>IsRangeIter h c (lo+(i:Nat)*1) ((n:Int) - (i:Nat)) 1) where
 mem:=by simp
 obj:=λi h st b d=>by
  have e:=by simpa using d
  subst e;exact⟨_,st,λv z=>by
   have F:Data.fields _=Data.cell v:=z;cases F⟩
 keep:=λi h r st k=>k c (by simp) _ st
 item:=by intro X l j A u i a s Z H E I g st B;subst l j A;obtain⟨p,y,N,m,x,q⟩:=g c (by simp);have W:=Walks.range (prog:=X.prog) (w:=X.w) (I.ok.hd u) c lo 1 n;refine W.item i s _ _ B st λv r L G f M=>?_;obtain⟨t,rfl⟩:=G;have J:ZP X a Z H { s with heap:=r,toks:=L }:=I.turned (λb o d e=>M b o (by simpa using d) e) p y m x q;refine⟨_,rfl,OF f rfl rfl (by decide) ⟨.int (lo+i),H,J,⟨t,?_⟩,⟨rfl,rfl⟩,f,λb d=>(g b d).1⟩⟩;rw[Int.mul_one]
 done:=by intro X l j A u i a s Z H E I g st B;subst l j A;obtain⟨p,y,N,m,x,q⟩:=g c (by simp);exact wpAny_pyNext_range_end (I.ok.hd u) st (by have:n<=i:=B;lia) λr C=>⟨rfl,I.turned (t':=s.toks) (λb o d e=>C b o d e) p y m x q⟩
 self:=λ_ _ _ _ _ st h=>wpAny_pyIter_rangeiter st h
section
variable {X:Cx}{tg:jH}
theorem Hm{Z:St}{E:yL}{lo hi:Int}(I:ZP X a Z H s)(f:-(2 ^ 62)<=lo)(h:lo<2 ^ 62)(j:-(2 ^ 62)<=hi)(i:hi<2 ^ 62)
  (q:R (QU lo (hi - lo).toNat) H):jC (yW X.prog X.w) X.A (mZ (.ref s.heap.objs.size)) (OG X a Z tg R) E { s with heap:=s.heap.push { cls:=.type "range",data:=.fields #[.int lo t,.int hi u,.int 1 v] },toks:=tk }:=by
 refine wpAny_pyIter_range (IsRange.new ..) (small_one f h j i) ?_;have c:ZP X a Z H { s with heap:=s.heap.push { cls:=.type "range",data:=.fields #[.int lo t,.int hi u,.int 1 v] },toks:=tk }:=I.kept λb o e=>qA1 _ e;refine⟨(s.heap.push { cls:=.type "range",data:=.fields #[.int lo t,.int hi u,.int 1 v] }).objs.size,[(s.heap.push { cls:=.type "range",data:=.fields #[.int lo t,.int hi u,.int 1 v] }).objs.size],_,_,H,rfl,
  c.kept (t':=tk) λb o e=>qA1 _ e,AF _ lo (hi - lo).toNat,?_,λb k=>?_,q⟩
 .have d:lo+((0:Nat):Int)*1=lo:=by simp
  have g:(((hi - lo).toNat:Nat):Int) - ((0:Nat):Int)=Builtin.Range.rangeSize lo hi 1:=by rw[rangeSize_one];split<;>lia
  rw[d,g];exact qA9 _ rfl
 .have e:b=(s.heap.push { cls:=.type "range",data:=.fields #[.int lo t,.int hi u,.int 1 v] }).objs.size:=by simpa using k
  subst e;exact c.fpOk (qA6 _) (c.hok.fresh (qA6 _))
def Hl(c:TA):TI:=fun Z H R=>c Z H λa b=>∃j:Int,a=[.int j]/\-(2 ^ 62)<=j/\j<2 ^ 62/\R (QU 0 j.toNat) b
def Hk(c:TA):TI:=fun Z H R=>c Z H λa b=>∃i j:Int,a=[.int i,.int j]/\(-(2 ^ 62)<=i/\i<2 ^ 62/\-(2 ^ 62)<=j/\j<2 ^ 62)/\R (QU i (j - i).toNat) b
theorem AE(m:Gl X "range")(hm:X.mg "range"=Z8)(l:PA X [a] d)(hs:jO [a] X.env=[(Z5,wE a X.env)]:=by rfl):PI X tg (.Call (.Name "range" p) [a] [] pos) (Hl d):=by
 intro b s Z H R I h;refine Call_ (Uz I m hm boot_range (j8 (Zq (l pos b s Z H _ I h) λn v ⟨o,u,i,g,c⟩=>?_) hs rfl));obtain⟨j,e,c,f,q⟩:=c;subst e;cases g with
 |cons r k =>
  cases k;obtain⟨t,rfl⟩:=r;exact call_range_1 (Hm i (by lia) (by lia) c f (by simpa using q))
theorem AD{p pos:Pos}(x:Gl X "range")(hm:X.mg "range"=Z8)(w:PA X [a,b] k)(hs:jO [a,b] X.env=[(Z5,wE a X.env),(Z5,wE b X.env)]:=by rfl)(c:jO [b] X.env=[(Z5,wE b X.env)]:=by rfl):
  PI X tg (.Call (.Name "range" p) [a,b] [] pos) (Hk k):=by
 intro d s Z H R I h;refine Call_ (Uz I x hm boot_range (j8 (Zq (w pos d s Z H _ I h) λy B ⟨z,A,u,o,g⟩=>?_) (by rw[hs,c]) (by rw[c];rfl)));obtain⟨i,j,e,⟨g,l,m,v⟩,q⟩:=g;subst e;cases o with
 |cons r f =>
  cases f with
  |cons n f =>
   cases f;obtain⟨t,rfl⟩:=r;obtain⟨C,rfl⟩:=n;exact call_range_2 (Hm u g l m v q)
def Mb(h:TI)(g:TG)(j:TS):TS:=λD Z H=>h Z H λb e=>∃W:Nat->Nat->St->Hp->Prop,(∃m,W 0 m Z e)/\∀i m Z H,W i m Z H ->
 (b.stop i H/\D.nx Z H)∨(b.go i H/\∃N:St->Hp->Prop,(∀c a,N c a->∃d,d<m/\W (i+1) d c a)/\∀x a,b.yld i H x a->g x Z a fun k f=>j { D with nx:=N,ct:=N,bk:=D.nx } k f)
def QT(a:yC)(h:jL):yD:=a.filterMap λb=>(h.get? b).map λo=>(b,o)
theorem QS(c:b∈a)(e:h.get? b=Z9 o):(b,o)∈QT a h:=qM1.mpr ⟨b,c,by rw[e];rfl⟩
theorem AC(c:p∈QT a h):p.1∈a/\h.get? p.1=Z9 p.2:=by
 obtain⟨b,f,e⟩:=qM1.mp c;cases q:h.get? b with
 |none=>rw[q]at e;cases e
 |some o =>
  rw[q]at e;have d:=Option.some.inj e;subst d;exact⟨f,q⟩
theorem ZP.pinned{Z:St}(I:ZP X a Z H s)(i:∀b∈c,Yd X a H b)(h:∀b∈c,∃o,s.heap.get? b=Z9 o/\∀v,o.data≠.cell v):ZP X (a++QT c s.heap) Z H s :=
 I.pins_of λp k=>(qB6.mp k).elim (λz=>I.pin p (qD1 _ z)) λz=>by obtain⟨g,e⟩:=AC z;obtain⟨j,l,m,_⟩:=i p.1 g;obtain⟨o,f,d⟩:=h p.1 g;rw[e]at f;cases f;exact⟨e,j,l,m,d⟩
theorem ZP.unpinned{Z:St}(I:ZP X (a++c) Z H s):ZP X a Z H s:=I.pins_of λp b=>I.pin p (qD1 _ (qF7 _ b))
theorem AB(J:dM (yW X.prog X.w) X.A X.env X.xe)(U:X.calm=Z7)(hi:PI X tg iter wi)(hg:PG X tg g)(j:Xs X q Y)
  (hs:∀x,wT iter X.env x=pure x:=by intro _;rfl):PS X (.For tg iter q [] pos) (Mb wi g Y):=by
 intro a s Z H D I h;refine wpAny_For (Zq (hi a s Z H _ I h) λv s1 h1=>Zq h1 λitv s2 h2=>?_) hs;obtain⟨it,E,tn,JJ,H2,e,I2,T,Q,f2,W,⟨m0,w0⟩,F⟩:=h2;subst e;have p:∀{H':Hp},(∀b∈E,H' b=Z8)->∀b∈E,Yd X a H' b:=λhn b j=>⟨hn b j,(f2 b j).2⟩
 refine codeAny_forLoop_any (λn s'=>∃i A H',ZP X a A H' s'/\tn i s'.heap/\(∀b∈E,H' b=Z8)/\W i n A H') ?_ m0 ⟨0,Z,H2,I2,Q,λb j=>(f2 b j).1,w0⟩;rintro n s3 ⟨i,B,K,R,y,G,w3⟩;rcases F i n B K w3 with⟨z,qn⟩| ⟨go,N,hN,step⟩
 .refine wG J (Zq (T.done X rfl rfl rfl U i a s3 B K X.xe R (p G) y z) λr s4 ⟨P,I4⟩=>?_);subst P;exact mJ ⟨B,K,I4,qn⟩
 .refine wG J (Zq (T.item X rfl rfl rfl U i a s3 B K X.xe R (p G) y go) λr s4 ⟨u,P,h4⟩=>?_);subst P;refine wG J (Zq h4 λ_ V ⟨x,S,I5,r5,y5,w,L⟩=>?_);have M:=I5.pinned (p L) (T.obj _ _ w);refine wG J (Zq (hg _ V B S x u _ M r5 (step x S y5)) λ_ s6 ⟨Z6,H6,I6,q6⟩=>?_);refine wG J (Zq (j _ s6 Z6 H6 _ I6 q6) λf O t=>?_);have again:∀{l:St}{c:Hp},ZP X (a++QT E V.heap) l c O->N l c->∃m,m<n/\∃i A H',ZP X a A H' O/\tn i O.heap/\(∀b∈E,H' b=Z8)/\W i m A H':=λ{l c} k C=>by obtain⟨m',hm,w7⟩:=hN l c C;refine⟨m',hm,i+1,l,c,k.unpinned,T.keep _ _ _ w λb j o e=>(k.pin (b,o) (qD1 _ (qD1 _ (QS j e)))).1,λb j=>?_,w7⟩;obtain⟨o,e,d⟩:=T.obj _ _ w b j;exact(k.pin (b,o) (qD1 _ (qD1 _ (QS j e)))).2.1
  cases f with
  |next=>obtain⟨l,c,k,C⟩:=t;exact again k C
  |cont=>obtain⟨l,c,k,C⟩:=t;exact again k C
  |brk=>obtain⟨l,c,k,t⟩:=t;exact⟨l,c,k.unpinned,t⟩
  |ret v=>obtain⟨x7,l,c,k,r7,t⟩:=t;exact⟨x7,l,c,k.unpinned,r7,t⟩
end
abbrev R2:=V->V->Hp->VK->Prop
def YX(X:Cx)(f:yT->yT->Sem yT)(r:R2):Prop :=
 ∀(a:yD) (s:yQ) (Z:St) (H:Hp) (x y:V) (v u:yT) (Q:VK),ZP X a Z H s->ZH x v->ZH y u->r x y H Q ->
  jC (yW X.prog X.w) X.A (f v u) (EP X a Z Q) X.xe s
def QR(X:Cx)(f:yT->Sem yT)(r:V->Hp->VK->Prop):Prop :=
 ∀(a:yD) (s:yQ) (Z:St) (H:Hp) (x:V) (v:yT) (Q:VK),ZP X a Z H s->ZH x v->r x H Q ->
  jC (yW X.prog X.w) X.A (f v) (EP X a Z Q) X.xe s
def YG(X:Cx)(f:yT)(r:List V->Hp->VK->Prop):Prop :=
 ∀(a:yD) (s:yQ) (Z:St) (H:Hp) (b:List V) (c:yB) (Q:VK),ZP X a Z H s->ZM b c->r b H Q ->
  jC (yW X.prog X.w) X.A (call f c) (EP X a Z Q) X.xe s
def Ma(X:Cx)(r:V->Hp->(Bool->Hp->Prop)->Prop):Prop :=
 ∀(a:yD) (s:yQ) (Z:St) (H:Hp) (x:V) (v:yT) (Q:Bool->Hp->Prop),ZP X a Z H s->ZH x v->r x H Q ->
  jC (yW X.prog X.w) X.A (truthy v) (TP X a Z Q) X.xe s
def QQ(r:R2)(c d:TE):TE:=fun Z H Q=>c Z H λx a=>d Z a λy b=>r x y b Q
def AA(r:V->Hp->VK->Prop)(b:TE):TE:=fun Z H Q=>b Z H λx a=>r x a Q
def rI(C:Int->Int->Prop)(g:Int->Int->V):R2:=λx y H Q=>∃i j,x=.int i/\y=.int j/\C i j/\Q (g i j) H
def VJ(g:Int->Int->V):R2:=λx y H Q=>∃i j,x=.int i/\y=.int j/\Q (g i j) H
def rU(g:Int->V):V->Hp->VK->Prop:=λx H Q=>∃i,x=.int i/\Q (g i) H
section
variable {X:Cx}{a b c:jH}{ta tb tc:TE}{pos:Pos}
theorem SQ(r:PE X a ta)(z:PE X b tb){Z:St}{R:V->V->Hp->Prop}(I:ZP X d Z H s)
  (h:ta Z H λx k=>tb Z k λy e=>R x y e) {Q:yL}{f:yT->yT->Sem yT}
  (m:∀v u j x y e,ZP X d Z e j->ZH x v->ZH y u->R x y e->jC (yW X.prog X.w) X.A (f v u) Q X.xe j) :
  jC (yW X.prog X.w) X.A (wE a X.env) (λv i=>jC (yW X.prog X.w) X.A (wE b X.env) (λu g=>jC (yW X.prog X.w) X.A (f v u) Q X.xe g) X.xe i) X.xe s:=by refine Zq (r d s Z H _ I h) λv q ⟨x,k,o,n,w⟩=>?_;refine Zq (z d q Z k _ o w) λu j ⟨y,e,p,t,l⟩=>?_;exact m v u j x y e p n t l
theorem Az(e:YX X (jU op) r)(k:PE X a ta)(m:PE X b tb):PE X (.BinOp a op b pos) (QQ r ta tb):=by intro d s Z H Q I h;exact wpAny_BinOp (SQ k m I h λv u i x y g f j l q=>e d i Z g x y v u Q f j l q)
theorem Ay(g:QR X (unaryOp op) r)(e:PE X a ta):PE X (.UnaryOp op a pos) (AA r ta):=by intro d s Z H Q I h;exact UnaryOp_ (Zq (e d s Z H _ I h) λv i ⟨x,j,f,l,k⟩=>g d i Z j x v Q f l k)
theorem RT{g:Int->Int->Int}
  (rule:∀(i j:Int) (t u:Tok) (s:yQ) (Q:yL) (E:yL),C i j->Q (.int (g i j) s.toks) { s with toks:=s.toks+1 }->jC (yW X.prog X.w) X.A (f (.int i t) (.int j u)) Q E s) :
  YX X f (rI C λi j=>.int (g i j)):=by intro d s Z H x y v u Q I k l h;obtain⟨i,j,rfl,rfl,e,q⟩:=h;obtain⟨t,rfl⟩:=k;obtain⟨m,rfl⟩:=l;exact rule i j t m s _ _ e ⟨.int (g i j),H,I.tok _,⟨_,rfl⟩,q⟩
theorem Ve{g:Int->Int->Int}
  (rule:∀(i j:Int) (t u:Tok) (s:yQ) (Q:yL) (E:yL),Q (.int (g i j) s.toks) { s with toks:=s.toks+1 }->jC (yW X.prog X.w) X.A (f (.int i t) (.int j u)) Q E s) :
  YX X f (VJ λi j=>.int (g i j)):=by intro d s Z H x y v u Q I e k h;obtain⟨i,j,rfl,rfl,q⟩:=h;obtain⟨t,rfl⟩:=e;obtain⟨l,rfl⟩:=k;exact rule i j t l s _ _ ⟨.int (g i j),H,I.tok _,⟨_,rfl⟩,q⟩
theorem Uw{g:Int->Int->Bool}
  (rule:∀(i j:Int) (t u:Tok) (s:yQ) (Q:yL) (E:yL),Q (.bool (g i j)) s->jC (yW X.prog X.w) X.A (f (.int i t) (.int j u)) Q E s) :
  YX X f (VJ λi j=>.bl (g i j)):=by intro d s Z H x y v u Q I e k h;obtain⟨i,j,rfl,rfl,q⟩:=h;obtain⟨t,rfl⟩:=e;obtain⟨l,rfl⟩:=k;exact rule i j t l s _ _ ⟨.bl (g i j),H,I,rfl,q⟩
def L9(i j:Int):Prop:=0<j/\j<1073741824
def QP(i j:Int):Prop:=0<=j/\j<=1000000/\i.natAbs<2 ^ 64
def Uv(i j:Int):Prop:=(-(2 ^ 64)<i/\i<2 ^ 64)∨(-(2 ^ 64)<j/\j<2 ^ 64)
theorem Uv.ok(h:Uv i j):IntMulOk i j:=by
 rcases h with⟨d,e⟩| ⟨d,e⟩
 .exact .of_left (intBits_le_64 d e)
 .exact .of_right (intBits_le_64 d e)
theorem Ax(k:Nat):(0:Int)<=2 ^ k:=by grind
theorem Aw:YX X (jU .Add) (VJ λi j=>.int (i+j)):=Ve λ_ _ _ _ _ _ _ q=>add_int q
theorem Av:YX X (jU .Sub) (VJ λi j=>.int (i - j)):=Ve λ_ _ _ _ _ _ _ q=>sub_int q
theorem Au:YX X (jU .Mult) (rI Uv λi j=>.int (i*j)):=RT λ_ _ _ _ _ _ _ d q=>mul_int q d.ok
theorem As:YX X (jU .FloorDiv) (rI L9 λi j=>.int (i / j)):=RT λi j _ _ _ _ _ d q=>by have e:=d.1;have f:=d.2;exact floordiv_int (by omega) (by rw[qP5 i (by omega)];exact q) (.inl (PyProof.noPylong_small (by omega)))
theorem Ar:YX X (jU .Mod) (rI (λ_ j=>0<j) λi j=>.int (i % j)):=RT λi j _ _ _ _ _ d q=>by exact mod_int' (by lia) (by rw[Int.fmod_eq_emod_of_nonneg i (by lia)];exact q)
theorem Aq:YX X (jU .Pow) (rI QP λi j=>.int (i ^ j.toNat)):=RT λ_ _ _ _ _ _ _ d q=>pow_int_small d.1 d.2.1 d.2.2 q
theorem Ap:YX X (jU .LShift) (rI QP λi j=>.int (i*2 ^ j.toNat)):=RT λ_ _ _ _ _ _ _ d q=>lshift_int_small d.1 d.2.1 d.2.2 q
theorem Ao:YX X (jU .RShift) (rI (λ_ j=>0<=j) λi j=>.int (i / 2 ^ j.toNat)):=RT λi j _ _ _ _ _ d q =>
 rshift_int d (by rw[qP5 i (Ax _)];exact q)
theorem An:YX X (jU .BitAnd) (VJ λi j=>.int (jT i j)):=Ve λ_ _ _ _ _ _ _ q=>and_int q
theorem Am:YX X (jU .BitOr) (VJ λi j=>.int (vZ i j)):=Ve λ_ _ _ _ _ _ _ q=>or_int q
theorem Al:YX X (jU .BitXor) (VJ λi j=>.int (m7 i j)):=Ve λ_ _ _ _ _ _ _ q=>xor_int q
theorem Ak{g:Int->Int}
  (rule:∀(i:Int) (t:Tok) (s:yQ) (Q:yL) (E:yL),Q (.int (g i) s.toks) { s with toks:=s.toks+1 }->jC (yW X.prog X.w) X.A (f (.int i t)) Q E s) :
  QR X f (rU λi=>.int (g i)):=by intro d s Z H x v Q I e h;obtain⟨i,rfl,q⟩:=h;obtain⟨t,rfl⟩:=e;exact rule i t s _ _ ⟨.int (g i),H,I.tok _,⟨_,rfl⟩,q⟩
theorem Aj:QR X (unaryOp .USub) (rU λi=>.int (-i)):=Ak λ_ _ _ _ _ q=>neg_int q
end
def QO:V->V->Bool
 |.non,.non=>Z7|.non,.int _=>Z7|.int _,.non=>Z7|.non,.bl _=>Z7|.bl _,.non=>Z7|.non,.str _=>Z7|.str _,.non=>Z7
 |.int _,.int _=>Z7|.bl _,.bl _=>Z7|.str _,.str _=>Z7|.byt _,.byt _=>Z7
 |.int _,.str _=>Z7|.str _,.int _=>Z7|.bl _,.str _=>Z7|.str _,.bl _=>Z7
 |_,_=>Z5
def Ai:R2:=λx y H Q=>QO x y=Z7/\Q (.bl (decide (x=y))) H
def Ah:R2:=λx y H Q=>QO x y=Z7/\Q (.bl (!decide (x=y))) H
theorem Hj:decide (V.int i=V.int j)=(i == j):=by grind
theorem Hi:decide (V.bl i=V.bl j)=(i == j):=by grind
theorem Hh:decide (V.str i=V.str j)=(i == j):=by grind
theorem Hg:decide (V.byt i=V.byt j)=(i.toList == j.toList):=by rw[qV0];cases i;cases j;simp
section
variable {X:Cx}{a b c:jH}{ta tb tc:TE}{pos:Pos}
theorem Yf{Z:St}(I:ZP X d Z H s)(q:Q (.bl k) H)(e:k=f):EP X d Z Q (.bool f) s:=by subst e;exact⟨.bl k,H,I,rfl,q⟩
theorem Ag:YX X (jG .Eq) Ai:=by
 intro k s Z H x y v u Q I g d h;obtain⟨f,q⟩:=h;cases x with
 |non =>
  cases g;cases y with
  |non=>cases d;exact PySem.EqNone.eq_none_none (Yf I q (by simp))
  |bl j=>cases d;exact PySem.EqNone.eq_none_bool (Yf I q (by simp))
  |int j=>obtain⟨e,rfl⟩:=d;exact PySem.EqNone.eq_none_int (Yf I q (by simp))
  |str j=>obtain⟨e,rfl⟩:=d;exact PySem.EqNone.eq_none_str (Yf I q (by simp))
  |_=>exact absurd (show Z5=Z7 from f) qB4
 |bl i =>
  cases g;cases y with
  |non=>cases d;exact PySem.EqNone.eq_bool_none (Yf I q (by simp))
  |bl j=>cases d;exact eq_bool (Yf I q Hi)
  |str j=>obtain⟨e,rfl⟩:=d;exact PySem.EqMixed.eq_bool_str (Yf I q (by simp))
  |_=>exact absurd (show Z5=Z7 from f) qB4
 |int i =>
  obtain⟨t,rfl⟩:=g;cases y with
  |non=>cases d;exact PySem.EqNone.eq_int_none (Yf I q (by simp))
  |int j=>obtain⟨e,rfl⟩:=d;exact eq_int (Yf I q Hj)
  |str j=>obtain⟨e,rfl⟩:=d;exact PySem.EqMixed.eq_int_str (Yf I q (by simp))
  |_=>exact absurd (show Z5=Z7 from f) qB4
 |str i =>
  obtain⟨t,rfl⟩:=g;cases y with
  |non=>cases d;exact PySem.EqNone.eq_str_none (Yf I q (by simp))
  |bl j=>cases d;exact PySem.EqMixed.eq_str_bool (Yf I q (by simp))
  |int j=>obtain⟨e,rfl⟩:=d;exact PySem.EqMixed.eq_str_int (Yf I q (by simp))
  |str j=>obtain⟨e,rfl⟩:=d;exact eq_str (Yf I q Hh)
  |_=>exact absurd (show Z5=Z7 from f) qB4
 |byt i =>
  obtain⟨t,rfl⟩:=g;cases y with
  |byt j=>obtain⟨e,rfl⟩:=d;exact W.eq_bytes (Yf I q Hg)
  |_=>exact absurd (show Z5=Z7 from f) qB4
 |_=>cases y<;>exact absurd (show Z5=Z7 from f) qB4
theorem Af:YX X (jG .NotEq) Ah:=by
 intro k s Z H x y v u Q I g d h;obtain⟨f,q⟩:=h;cases x with
 |non =>
  cases g;cases y with
  |non=>cases d;exact PySem.EqNone.ne_none_none (Yf I q (by simp))
  |bl j=>cases d;exact PySem.EqNone.ne_none_bool (Yf I q (by simp))
  |int j=>obtain⟨e,rfl⟩:=d;exact PySem.EqNone.ne_none_int (Yf I q (by simp))
  |str j=>obtain⟨e,rfl⟩:=d;exact PySem.EqNone.ne_none_str (Yf I q (by simp))
  |_=>exact absurd (show Z5=Z7 from f) qB4
 |bl i =>
  cases g;cases y with
  |non=>cases d;exact PySem.EqNone.ne_bool_none (Yf I q (by simp))
  |bl j=>cases d;exact ne_bool (Yf I q (congrArg not Hi))
  |str j=>obtain⟨e,rfl⟩:=d;exact PySem.EqMixed.ne_bool_str (Yf I q (by simp))
  |_=>exact absurd (show Z5=Z7 from f) qB4
 |int i =>
  obtain⟨t,rfl⟩:=g;cases y with
  |non=>cases d;exact PySem.EqNone.ne_int_none (Yf I q (by simp))
  |int j=>obtain⟨e,rfl⟩:=d;exact ne_int (Yf I q (congrArg not Hj))
  |str j=>obtain⟨e,rfl⟩:=d;exact PySem.EqMixed.ne_int_str (Yf I q (by simp))
  |_=>exact absurd (show Z5=Z7 from f) qB4
 |str i =>
  obtain⟨t,rfl⟩:=g;cases y with
  |non=>cases d;exact PySem.EqNone.ne_str_none (Yf I q (by simp))
  |bl j=>cases d;exact PySem.EqMixed.ne_str_bool (Yf I q (by simp))
  |int j=>obtain⟨e,rfl⟩:=d;exact PySem.EqMixed.ne_str_int (Yf I q (by simp))
  |str j=>obtain⟨e,rfl⟩:=d;exact ne_str (Yf I q (congrArg not Hh))
  |_=>exact absurd (show Z5=Z7 from f) qB4
 |byt i =>
  obtain⟨t,rfl⟩:=g;cases y with
  |byt j=>obtain⟨e,rfl⟩:=d;exact W.ne_bytes (Yf I q (congrArg not Hg))
  |_=>exact absurd (show Z5=Z7 from f) qB4
 |_=>cases y<;>exact absurd (show Z5=Z7 from f) qB4
theorem zNZ:YX X (jG .Lt) (VJ λi j=>.bl (decide (i<j))):=Uw λ_ _ _ _ _ _ _ q=>lt_int q
theorem Ae:YX X (jG .LtE) (VJ λi j=>.bl (decide (i<=j))):=Uw λ_ _ _ _ _ _ _ q=>le_int q
theorem Ad:YX X (jG .Gt) (VJ λi j=>.bl (decide (j<i))):=Uw λ_ _ _ _ _ _ _ q=>gt_int q
theorem Ac:YX X (jG .GtE) (VJ λi j=>.bl (decide (j<=i))):=Uw λ_ _ _ _ _ _ _ q=>ge_int q
theorem Ab:YX X (jG .Is) (λx y H Q=>y=.non/\Q (.bl (decide (x=.non))) H):=by
 intro d s Z H x y v u Q I e f h;obtain⟨rfl,q⟩:=h;cases f;refine is_none_gen (Yf I q ?_);cases x<;>first
  |(cases e;rfl)
  |(obtain⟨t,rfl⟩:=e;rfl)
theorem Aa:YX X (jG .IsNot) (λx y H Q=>y=.non/\Q (.bl (!decide (x=.non))) H):=by
 intro d s Z H x y v u Q I e f h;obtain⟨rfl,q⟩:=h;cases f;refine isnot_none_gen (Yf I q ?_);cases x<;>first
  |(cases e;rfl)
  |(obtain⟨t,rfl⟩:=e;rfl)
theorem zZ(e:YX X (jG op) r)(k:PE X a ta)(m:PE X b tb)(hm:fU op b=Z5):PE X (.Compare a [op] [b] pos) (QQ r ta tb):=by intro d s Z H Q I h;exact wpAny_Compare1 (SQ k m I h λv u i x y g f j l q=>e d i Z g x y v u Q f j l q) hm
def L8(t:TE):TT:=fun Z H Q=>t Z H λx d=>∃k,x=.bl k/\Q k d
theorem zY(l:YX X (jG op) r)(B:PE X a ta)(E:PE X b tb)(hm:fU op b=Z5):PT X (.Compare a [op] [b] pos) (L8 (QQ r ta tb)):=by
 intro d s Z H Q I h;refine wpAny_isTrue_Compare1 (Zq (B d s Z H _ I h) λv q ⟨x,m,o,n,D⟩=>Zq (E d q Z m _ o D) λu A ⟨y,t,p,C,f⟩ =>
  Zq (l d A Z t x y v u _ p n C f) λc F ⟨z,w,g,i,k,e,j⟩=>?_) hm
 subst e;cases i;exact j7 ⟨w,g,j⟩
def L7(r j:R2)(i l tc:TE):TE:=fun Z H Q=>i Z H λx f=>l Z f λy g=>r x y g λz d=>∃k,z=.bl k /\
 (if k=Z7 then tc Z d λh e=>j y h e Q else Q (.bl Z5) d)
theorem zX(w:YX X (jG op) r)(i:YX X (jG g) m)(P:PE X a ta)(U:PE X b tb)(M:PE X c tc)
  (hm:dN [op,g] [b,c]=Z5:=by with_unfolding_all rfl):PE X (.Compare a [op,g] [b,c] pos) (L7 r m ta tb tc):=by
 intro f s Z H Q I h;refine Compare_chain (Zq (P f s Z H _ I h) λv G ⟨x,A,D,C,T⟩=>chain_link (Zq (U f G Z A _ D T) λu L ⟨y,J,F,o,p⟩ =>
  Zq (w f L Z J x y v u _ F C o p) λd O ⟨z,n,j,q,k,e,l⟩=>?_)) hm
 subst e;cases q;refine j7 ?_;cases k with
 |false=>exact ite_ff ⟨.bl Z5,n,j,rfl,l⟩
 |true=>exact ite_tt (chain_last (Zq (M f O Z n _ j l) λS B ⟨t,E,R,N,K⟩=>i f B Z E y t u S Q R o N K))
theorem zW(C:YX X (jG op) r)(i:YX X (jG g) m)(U:PE X a ta)(W:PE X b tb)(R:PE X c tc)
  (hm:dN [op,g] [b,c]=Z5:=by with_unfolding_all rfl):PT X (.Compare a [op,g] [b,c] pos) (L8 (L7 r m ta tb tc)):=by
 intro f s Z H Q I h;refine isTrue_chain (Zq (U f s Z H _ I h) λv M ⟨x,D,J,G,q1⟩=>test_link (Zq (W f M Z D _ J q1) λu P ⟨y,N,L,o,p⟩ =>
  Zq (C f P Z N x y v u _ L G o p) λd T ⟨z,n,j,w,k,e,l⟩=>?_)) hm
 subst e;cases w;refine j7 ?_;cases k with
 |false =>
  obtain⟨k',e',q'⟩:=l;cases e';exact ite_ff ⟨n,j,q'⟩
 |true =>
  refine ite_tt (test_last (Zq (R f T Z n _ j l) λY E ⟨B,K,V,S,O⟩=>Zq (i f E Z K y B u Y _ V o S O) λd' s5 ⟨z2,A,I5,q,k2,F,t⟩=>?_));subst F;cases q;exact j7 ⟨A,I5,t⟩
def SO(K:yS)(x:V)(H:Hp)(k:Bool):Prop :=
 match x with
 |.non=>k=Z5
 |.bl b=>k=b
 |.int i=>k=(i != 0)
 |.str y=>y.length<=jF/\k=((y.length:Int) != 0)
 |.byt y=>y.size<=jF/\k=((y.size:Int) != 0)
 |.ref p=>(∃d,YQ K H p d/\k=!d.isEmpty)∨(∃d,Zn K H p d/\k=!d.isEmpty)∨∃e,H p=Z9 (.dK e)/\k=!e.isEmpty
 |_=>False
theorem zV{e:List (d×yT)}(r:KV kvs e):(!e.isEmpty)=!kvs.isEmpty:=by cases r<;>rfl
theorem Hf(r:ZM xs d):(!d.toArray.isEmpty)=!xs.isEmpty:=by cases r<;>simp
theorem QN:(jF:Nat)<2 ^ 63:=by decide
theorem zU:Ma X (λx H Q=>∃k,SO X.K x H k/\Q k H):=by
 intro w s Z H x v Q I g h;obtain⟨k,e,q⟩:=h;have C:=vK;cases x with
 |non =>
  cases g;have d:k=Z5:=e;subst d;exact truthy_none ⟨H,I,q⟩
 |bl b =>
  cases g;have d:k=b:=e;subst d;exact j7 ⟨H,I,q⟩
 |int i =>
  obtain⟨t,rfl⟩:=g;have d:=e;subst d;exact PySem.P.truthy_int ⟨H,I,q⟩
 |str y =>
  obtain⟨t,rfl⟩:=g;obtain⟨B,d⟩:y.length<=jF/\k=((y.length:Int) != 0):=e;subst d;exact PySem.P.truthy_str (by lia) ⟨H,I.tok _,q⟩
 |byt y =>
  obtain⟨t,rfl⟩:=g;obtain⟨B,d⟩:y.size<=jF/\k=((y.size:Int) != 0):=e;subst d;exact W.truthy_bytes (by lia) ⟨H,I.tok _,q⟩
 |ref p =>
  cases g;have d:=e;rcases d with⟨z,l,d⟩| ⟨z,l,d⟩| ⟨j,l,d⟩
  .subst d;obtain⟨n,r,o,u⟩:=I.list l;have f:=r.length;exact wpAny_truthy_list o.isList (by simp only[qB5];lia) ⟨H,I.tok _,by rw[Hf r];exact q⟩
  .subst d;obtain⟨n,r,o,u⟩:=I.tuple l;have f:=r.length;exact truthy_tuple o (by simp only[qB5];lia) ⟨H,I.tok _,by rw[Hf r];exact q⟩
  .subst d;obtain⟨u,A,vs,r,m⟩:j.length<=jF/\(p == vV)=Z5/\∃vs,KV j vs/\s.heap.DictOf (Ys X.prog X.w) p vs:=I.hok p _ l;have f:=Paired.length r;exact wpAny_truthy_dict A m (by lia) ⟨H,I.tok _,by rw[zV r];exact q⟩
 |_=>exact(e).elim
theorem zT(g:PE X a ta)(he:∀d,uT a X.env d=(do let v <- d;uH a.pos;fH [v] (truthy v))):
  PT X a (fun Z H Q=>ta Z H λx f=>∃k,SO X.K x f k/\Q k f):=by intro e s Z H Q I h;exact isTrue_plain (Zq (g e s Z H _ I h) λv j ⟨x,l,i,n,m⟩=>zU e j Z l x v Q i n m) (he _)
theorem zS:YX X (jU .Add) (λx y H Q=>∃i j,x=.str i/\y=.str j/\i.length+j.length<=jF/\Q (.str (i++j)) H):=by intro d s Z H x y v u Q I e g h;obtain⟨i,j,rfl,rfl,f,q⟩:=h;obtain⟨t,rfl⟩:=e;obtain⟨k,rfl⟩:=g;exact add_str (λk l=>⟨.str (i++j),H,I.tok _,⟨_,rfl⟩,q⟩) f
theorem XA(r:ZM [x] d):∃u,d=[u]/\ZH x u:=by
 cases r with
 |cons f e=>cases e;exact⟨_,rfl,f⟩
theorem QM(r:ZM [x,y] d):∃u w',d=[u,w']/\ZH x u/\ZH y w':=by
 cases r with
 |cons h f =>
  cases f with
  |cons g e=>cases e;exact⟨_,_,rfl,h,g⟩
theorem zR(f:X.calm=Z7):YG X (.builtin "max") (λxs H Q=>∃i j,xs=[.int i,.int j]/\Q (.int (if j>i then j else i)) H):=by
 intro e s Z H xs g Q I r h;obtain⟨i,j,rfl,q⟩:=h;obtain⟨u,n,rfl,⟨t,rfl⟩,⟨o,rfl⟩⟩:=QM r;refine max_two_ints (I.ok.hd f) λl m k=>⟨_,H,I.kept k,?_,q⟩
 by_cases d:j>i
 .rw[if_pos d,if_pos d];exact⟨_,rfl⟩
 .rw[if_neg d,if_neg d];exact⟨_,rfl⟩
theorem zQ(f:X.calm=Z7):YG X (.builtin "min") (λxs H Q=>∃i j,xs=[.int i,.int j]/\Q (.int (if j<i then j else i)) H):=by
 intro e s Z H xs g Q I r h;obtain⟨i,j,rfl,q⟩:=h;obtain⟨u,n,rfl,⟨t,rfl⟩,⟨o,rfl⟩⟩:=QM r;refine min_two_ints (I.ok.hd f) λl m k=>⟨_,H,I.kept k,?_,q⟩
 by_cases d:j<i
 .rw[if_pos d,if_pos d];exact⟨_,rfl⟩
 .rw[if_neg d,if_neg d];exact⟨_,rfl⟩
theorem He:YG X (.type "int") (λxs H Q=>(∃i,xs=[.int i]/\Q (.int i) H)∨∃k,xs=[.bl k]/\Q (.int (if k then 1 else 0)) H):=by
 intro d s Z H xs f Q I r h;rcases h with⟨i,rfl,q⟩| ⟨k,rfl,q⟩
 .obtain⟨u,rfl,t,rfl⟩:=XA r;exact call_int_int ⟨.int i,H,I,⟨_,rfl⟩,q⟩
 .obtain⟨u,rfl,e⟩:=XA r;cases e;exact call_int_bool ⟨.int (if k then 1 else 0),H,I.tok _,⟨_,rfl⟩,q⟩
end
theorem Xc.some_of(r:Xc (Z9 v) o):∃u,o=Z9 u/\ZH v u:=by
 cases o with
 |none=>exact(r).elim
 |some u=>exact⟨u,rfl,r⟩
structure Zb(k:Nat)(A:jI):Prop where
 hd:A.handled=Z8
 dp:A.depth+3*k+5<recursionLimit
 un:A.units+16*k+200<vN
 gd:A.guards=Z9 []
theorem Zb.mono(r:Zb k A)(h:j<=k):Zb j A:=⟨r.hd,by have:=r.dp;lia,by have:=r.un;lia,r.gd⟩
theorem Zb.deeper(r:Zb (k+1) A)(env:Env):Zb k (A.deeper env) :=
 ⟨r.hd,by have:=r.dp;show A.depth+1+3*k+5<_;lia,by have:=r.un;show A.units+3+16*k+200<_;lia,r.gd⟩
theorem Zb.depth(r:Zb k A):A.depth<recursionLimit:=by have:=r.dp;lia
theorem Zb.units(r:Zb k A):A.units+64<cLine:=by have:=r.un;lia
theorem Zb.units0(r:Zb k A):A.units<cLine:=by have:=r.un;lia
def L6:TA:=λ_ H Q=>Q [] H
def zP(d:TE)(e:TA):TA:=fun Z H Q=>d Z H λx a=>e Z a λc b=>Q (x::c) b
section
variable {X:Cx}{e:jH}{es:yE}{te:TE}{t:TA}{pos:Pos}
theorem Hd:PA X [] L6:=λ_ _ _ _ H Q I h=>Calls.spliced_nil ⟨[],H,I,.nil,h⟩
theorem Hc(n:PE X e te)(m:PA X es t)(hs:jO (e::es) X.env=(Z5,wE e X.env)::jO es X.env:=by rfl):PA X (e::es) (zP te t):=by intro b a s Z H Q I h;rw[hs];show jC _ _ (spliced ((Z5,wE e X.env)::fD b (jO es X.env))) _ _ s;refine Calls.spliced_cons (Zq (n a s Z H _ I h) λu k ⟨x,d,i,g,p⟩=>?_);exact Zq (m b a k Z d _ i p) λq r ⟨f,l,j,o,c⟩=>⟨x::f,l,j,.cons g o,c⟩
def L5(t:TA):TE:=fun Z H Q=>t Z H λb a=>b.length<=jF/\∀p,a p=Z8->Q (.ref p) (ZD a p (.tup b))
def L4(t:TA):TE:=fun Z H Q=>t Z H λb a=>b.length<=jF/\∀p,a p=Z8->Q (.ref p) (ZD a p (.lst b))
theorem zO{x1}(h:PA X es t):PE X (.Tuple es x1 pos) (L5 t):=by intro a s Z H Q I k;refine wpAny_Tuple_spliced (Zq (h pos a s Z H _ I k) λf c ⟨i,g,d,r,z,q⟩=>⟨by rw[<- r.length];exact z,?_⟩);have j:=d.hok.fresh (qA6 _);refine⟨.ref c.heap.objs.size,ZD g c.heap.objs.size (.tup i),d.laid (t':=c.toks) (λb u e=>qA1 _ e) (qA6 _) ?_,rfl,q _ j⟩;exact⟨z,f,r,⟨_,qA9 _ rfl,rfl,_,rfl⟩⟩
theorem zN(h:PA X es t):PE X (.List es pos) (L4 t):=by intro a s Z H Q I k;refine wpAny_List_spliced (Zq (h pos a s Z H _ I k) λf c ⟨i,g,d,r,z,q⟩=>⟨by rw[<- r.length];exact z,?_⟩);have j:=d.hok.fresh (qA6 _);refine⟨.ref c.heap.objs.size,ZD g c.heap.objs.size (.lst i),d.laid (t':=c.toks) (λb u e=>qA1 _ e) (qA6 _) ?_,rfl,q _ j⟩;exact⟨z,f,0,r,qA9 _ rfl⟩
end
abbrev Sp:=List V->Hp->VK->XK->Prop
abbrev Vd:=List Env->Hp->yQ->XK->yL
structure Uu(P:yZ)(w:jJ)(K:yS)(mg:Str->yF)(base:jL)(A:jI)(outer:List Env)(s:yQ)(H:Hp):Prop where
 frames:A.frames=Z9 outer
 mod:Mod K mg base
 bs:∀b o,base.get? b=Z9 o->s.heap.get? b=Z9 o/\H b=Z8
 bsz:base.objs.size<=s.heap.objs.size
 funs:s.heap.FunFrames base outer
 frf:∀b∈Vg outer,H b=Z8
 hok:XY P w H s.heap
 bare:gZ s.gens
def CE(a:List Env)(P:yZ)(w:jJ)(H:Hp)(s:yQ)(Q:VK)(u:yT)(s':yQ):Prop :=
 ∃v b,s'.os=s.os/\gZ s'.gens/\Un (Vg a) [] H b s.heap s'.heap/\XY P w b s'.heap/\ZH v u/\Q v b
def CR(CX:Vd)(a:List Env)(P:yZ)(w:jJ)(H:Hp)(s:yQ)(Q:VK)(E:XK)(r:uD)(s':yQ):Prop :=
 match r with
 |.ok (.ret u)=>CE a P w H s Q u s'
 |.ok _=>False
 |.error e=>CX a H s E e s'
structure XU(P:yZ)(w:jJ)(K:yS)(mg:Str->yF)(base:jL)(CX:Vd)(k:Nat)(f:yR)(fd:vY)(ps:yH)(sp:Sp):Prop where
 len:∀vs H Q E,sp vs H Q E->vs.length=ps.length
 run:∀(A:jI) (outer:List Env) (s:yQ) (H:Hp) (args:Args) (us:yB) (vs:List V) (Q:VK) (E:XK),Zb k A->Uu P w K mg base A outer s H->uJ s fd args (ps.zip us)->ZM vs us->sp vs H Q E ->
  wJ (yW P w) A (.call (.ref f) args) (CR CX outer P w H s Q E) s
theorem XU.imp{K:yS}(F:XU P w K d base CX k f fd ps sp)
  (h:∀b H Q E,sp' b H Q E->sp b H Q E):XU P w K d base CX k f fd ps sp' :=
 ⟨λb H Q E q=>F.len b H Q E (h _ _ _ _ q),λA a s H c e b Q E l i m j g=>F.run A a s H c e b Q E l i m j (h _ _ _ _ g)⟩
section
variable {X:Cx}{pins:yD}{Z:St}{H:Hp}{s s':yQ}
theorem ZP.env0(I:ZP X pins Z H s):Uu X.prog X.w X.K X.mg X.base X.A X.stack s H :=
 ⟨I.ok.frames,I.ok.mod,I.bs,qD0 I.ok.bsz I.sz,I.stack,I.stkFree,I.hok,I.bare⟩
theorem ZP.after(I:ZP X pins Z H s)(h:CE X.stack X.prog X.w H s Q u s'):EP X pins Z Q u s':=by obtain⟨v,f,j,a,un,c,r,q⟩:=h;obtain⟨i,g,d,t,e⟩:=s';obtain rfl:e=s.os:=j;exact⟨v,f,I.call (h':=i) (g':=g) (d':=d) (t':=t) un c a (λb z=>absurd z (by simp)),r,q⟩
end
def L3(sp:Sp)(a:List V)(E:XK)(t:TA):TE:=fun Z H Q=>t Z H λb c=>sp (b++a) c Q E
def Ut(K:yS)(fd:vY)(ps:yH)(ds:yB):Prop :=
 ∀(s:yQ) (a:yB),K.In s.heap->(a++ds).length=ps.length->uJ s fd ⟨a,[]⟩ (ps.zip (a++ds))
theorem Ut.all{K:yS}(h:∀a:yB,a.length=ps.length->bindArgs fd ⟨a,[]⟩=pure (ps.zip a)):Ut K fd ps []:=λs a _ b=>by rw[qG8]at b ⊢;exact .of_eq (h a b)
def L1(CX:Vd)(X:Cx)(E:XK):Prop:=∀(a:yD) (Z:St) (H:Hp) (s:yQ) (e:yT) (b:yQ),ZP X a Z H s->CX X.stack H s E e b->X.xe e b
section
variable {X:Cx}{CX:Vd}{k:Nat}{f C:yR}{fd:vY}{ps:yH}{sp:Sp}{dvs:List V}{ds:yB}{E:XK}{x m:Str}{p pos apos:Pos}{e o:jH}{es:yE}{ta:TE}{t:TA}
theorem zM{Z:St}(F:XU X.prog X.w X.K X.mg X.base CX k f fd ps sp)(v:Zb k X.A)(w:Ut X.K fd ps ds)(q:ZM dvs ds)(n:L1 CX X E)
  (I:ZP X a Z H s) (r:ZM d b) (h:sp (d++dvs) H Q E):jC (yW X.prog X.w) X.A (call (.ref f) b) (EP X a Z Q) X.xe s:=by
 have g:=r.append q;have i:(b++ds).length=ps.length:=by rw[<- g.length];exact F.len _ _ _ _ h
 refine wpAny_call (fJ (F.run X.A X.stack s H ⟨b,[]⟩ (b++ds) (d++dvs) Q E v I.env0 (w s b I.kIn i) g h) λr l c=>?_);cases r with
 |error e=>exact n a Z H s e l I c
 |ok j =>
  cases j with
  |ret u=>exact I.after c
  |next=>exact False.elim c
  |brk=>exact False.elim c
  |cont=>exact False.elim c
theorem zL(F:XU X.prog X.w X.K X.mg X.base CX k f fd ps sp)(g:Zb k X.A)(j:Gl X x)(hm:X.mg x=Z9 (.ref f))(hk:dA X.K (.ref f)=Z7)(l:Ut X.K fd ps ds)(d:ZM dvs ds)(c:L1 CX X E)
  (i:PA X (e::es) t) (hdb:VN x:=by decide) (he:jO (e::es) X.env=(Z5,wE e X.env)::jO es X.env:=by rfl) (hpl:(fD pos (jO es X.env)).any (·.1)=Z5:=by rfl) :
  PE X (.Call (.Name x p) (e::es) [] pos) (L3 sp dvs E t):=by intro a s Z H Q I h;refine fE (Bi I j hm ?_ hdb);refine W.callWith_K I.ok.mod.kin hk (Zq (i pos a s Z H _ I h) λn w ⟨u,v,b,r,q⟩=>⟨b.kIn,?_⟩) he hpl;exact zM F g l d c b r q
end
structure OE(N P:yH)(sc:wB):Prop where
 kind:sc.kind=.function
 co:sc.isCoroutine=Z5
 gen:sc.isGenerator=Z5
 nd:N.Nodup
 pre:N.take P.length=P
 par:∀x∈P,sc.names.lookup x=Z9 .local∨sc.names.lookup x=Z9 .cell
 nofree:∀y∈sc.names,y.2≠.free
theorem Hb{kindOf:Str->Option vD}:∀{binds:List (Str×yT)}{m:Str->yF},(∀v,(x,v)∉binds)->bindL kindOf binds m x=m x
 |[],_,_=>rfl
 |(n,v)::r,m,h=>by
  unfold bindL;rw[Hb λw a=>h w (qC5 _ a)];split
  .have:x≠n:=by rintro rfl;exact h v qE2
   simp[this]
  .rfl
theorem Ha{kindOf:Str->Option vD}:∀{binds:List (Str×yT)}{m:Str->yF},(∀v,(x,v)∉binds)->bindC kindOf binds m x=m x
 |[],_,_=>rfl
 |(n,v)::r,m,h=>by
  unfold bindC;rw[Ha λw a=>h w (qC5 _ a)];split
  .rfl
  .have:x≠n:=by rintro rfl;exact h v qE2
   simp[this]
theorem G9{kindOf:Str->Option vD}{x:Str}{v:yT}:∀{P:yH}{a:yB}{i:Nat}{m:Str->yF},P.Nodup->P[i]?=Z9 x->a[i]?=Z9 v->kindOf x=Z9 .local ->
  bindL kindOf (P.zip a) m x=Z9 v
 |[],_,_,_,_,h,_,_=>by simp at h
 |_::_,[],_,_,_,_,h,_=>by simp at h
 |p::P,w::a,0,m,nd,h1,h2,hk=>by simp at h1 h2;subst h1;subst h2;show bindL kindOf ((p,w)::P.zip a) m p=_;unfold bindL;rw[Hb λv b=>(qJ2.mp nd).1 (qL7 b).1,if_pos hk];simp
 |p::P,w::a,i+1,m,nd,h1,h2,hk=>by show bindL kindOf ((p,w)::P.zip a) m x=_;exact G9 (qJ2.mp nd).2 (by simpa using h1) (by simpa using h2) hk
theorem G8{kindOf:Str->Option vD}{x:Str}{v:yT}:∀{P:yH}{a:yB}{i:Nat}{m:Str->yF},P.Nodup->P[i]?=Z9 x->a[i]?=Z9 v->kindOf x≠Z9 .local ->
  bindC kindOf (P.zip a) m x=Z9 v
 |[],_,_,_,_,h,_,_=>by simp at h
 |_::_,[],_,_,_,_,h,_=>by simp at h
 |p::P,w::a,0,m,nd,h1,h2,hk=>by simp at h1 h2;subst h1;subst h2;show bindC kindOf ((p,w)::P.zip a) m p=_;unfold bindC;rw[Ha λv b=>(qJ2.mp nd).1 (qL7 b).1,if_neg hk];simp
 |p::P,w::a,i+1,m,nd,h1,h2,hk=>by show bindC kindOf ((p,w)::P.zip a) m x=_;exact G8 (qJ2.mp nd).2 (by simpa using h1) (by simpa using h2) hk
def start(N:yH)(a:List V):St:=a.map Z9++qL2 (N.length - a.length) Z8
def V9(CX:Vd)(P:yZ)(w:jJ)(K:yS)(mg:Str->yF)(base:jL)(N:yH)(a:Str)(scope:wB)(f:yR)(c:yT)(A:jI)(outer:List Env)(s:yQ)(H:Hp)(E:XK):Cx where
 prog:=P
 w:=w
 K:=K
 mg:=mg
 base:=base
 A:=A.deeper (dC a scope s.heap.objs.size f c)
 N:=N
 s₀:=s
 H₀:=H
 env:=dC a scope s.heap.objs.size f c
 outer:=outer
 stack:=dC a scope s.heap.objs.size f c::outer
 ex:=[]
 calm:=Z7
 fn:=λ_=>Z7
 pn:=[]
 xe:=λe d=>jC (yW P w) (A.deeper (dC a scope s.heap.objs.size f c)) (leaving (dC a scope s.heap.objs.size f c) e) (λ_ b=>CX outer H s E e b) (λg b=>CX outer H s E g b) d
theorem G7{a:wB}(h:a.names.lookup x=Z9 .cell):∃c,(wH n a.names []).lookup x=Z9 c:=by have q:=W.cellsFrom_some a.names n [] (.inl h);exact qI6.mp q
theorem zK{K:yS}
  (S:OE N ps scope) (L:A.handled=Z8) (l:Uu P w K I base A d s H) (R:m.length=ps.length) (r:ZM m G)
  (x:InCallC s s.heap.objs.size (bindL (dC g scope s.heap.objs.size f F).kindOf (ps.zip G) λ_=>Z8) (wH (s.heap.objs.size+1) scope.names []) (bindC (dC g scope s.heap.objs.size f F).kindOf (ps.zip G) λ_=>Z8) s1) :
  ZP (V9 CX P w K I base N g scope f F A d s H E) [] (start N m) H s1:=by
 have Q:=by have:=congrArg qH4 S.pre;rw[qE4]at this;omega
 obtain⟨D,T,rfl,hk⟩:=x.done;have n:∀b:yR,b∉(V9 CX P w K I base N g scope f F A d s H E).ex:=λb z=>absurd (show b∈([])from z) (by simp);refine⟨⟨l.mod,S.kind,rfl,rfl,qA6 _,λy z c D j=>?_,λy o=>?_,λy c _ h=>?_,λ_=>L,Around.frames_deeper l.frames,.inr ⟨rfl,rfl⟩,λb z=>absurd z (n b),l.bs,l.bsz,λb _ _=>n b,λb z=>absurd z (n b),l.funs,l.frf⟩,
  rfl,l.bare,Un.kept hk,⟨_,x.toInCall.ns,λi y v D j U=>?_⟩,λy c h=>⟨_,x.cell y c h⟩,l.hok.fresh (qA6 _),λy c h=>?_,λp t=>absurd (show p∈([])from t) (by simp),l.hok.kept hk,?_⟩
 .exact name_of_addr x.apart (wI D) (wI j)
 .have o:=o;rcases o with o|o
  .exact G7 o
  .exact absurd rfl (S.nofree _ (wI o))
 .exact qI5 (x.above y c (wI h))
 .have C:i<m.length:=by
   unfold start at j;by_cases C:i<m.length
   .exact C
   .rw[qA2 (by simpa using C)]at j;rw[qK4]at j;split at j<;>cases j
  have O:m[i]?=Z9 v:=by
   unfold start at j;rw[qA8 (by simpa using C),qB1]at j;cases e:m[i]? with
   |none=>rw[e]at j;cases j
   |some a=>rw[e]at j;cases j;rfl
  obtain⟨u,J,M⟩:=r.get O;have t:ps[i]?=Z9 y:=by rw[<- S.pre,qK2 (by lia)];exact D
  have B:ps.Nodup:=by rw[<- S.pre];exact S.nd.sublist (qH6 _ _)
  refine⟨u,M,?_⟩;rcases S.par y (qC2 t)with k|k
  .exact .inl ⟨k,G9 B t J k⟩
  .obtain⟨c,e⟩:=G7 k;refine .inr ⟨.inl k,c,e,?_⟩;have q:=x.cell y c e;rw[G8 B t J (by show scope.names.lookup y≠_;rw[k];decide)]at q;exact q
 .exact l.hok.fresh (qI5 (x.above y c (wI h)))
 .unfold start;show _=N.length;rw[qB9,qA0,qJ5];omega
theorem zJ{K:yS}{U kV D Z d Y oc:yT}
  {L:Array (yF)} (lk:K.lookup f=Z9 ⟨oc,od,.func (lG m c g h scope U kV D Z T d Y),L⟩) (R:uK K d c=Z7) (S:OE N ps scope)
  (len:∀i H Q E,sp i H Q E->i.length=ps.length)
  (z:∀(A:jI) (a:List Env) (s:yQ) (H:Hp) (i:List V) (Q:VK) (E:XK),Zb k (A.deeper (dC c scope s.heap.objs.size f d))->sp i H Q E ->
   ∃t,Xs (V9 CX P w K J base N c scope f d A a s H E) h t/\t { nx:=λ_ l=>Q .non l,rt:=Q } (start N i) H) :
  XU P w K J base CX (k+1) f (lG m c g h scope U kV D Z T d Y) ps sp:=by
 refine⟨len,λA a s H args us i Q E O F hb r C=>?_⟩;have hl:=len _ _ _ _ C;have X:=F.mod.kin.keeps λb o e=>(F.bs b o e).1;have lim:=F.mod.nolimit.keeps λb o e=>(F.bs b o e).1;have p:∀y∈ps.zip us,scope.names.lookup y.1=Z9 .local∨(scope.names.lookup y.1=Z9 .cell/\((wH (s.heap.objs.size+1) scope.names []).lookup y.1).isSome=Z7):=λ⟨n,v⟩ hy=>by
  rcases S.par n (qL7 hy).1 with q|q
  .exact .inl q
  .exact .inr ⟨q,W.cellsFrom_some _ _ _ (.inl q)⟩
 refine codeAny_call_function O.depth (X _ _ lk) rfl S.co S.gen rfl (W.codeRec_of X R) (hb _ _ _ _ ?_);refine wpAny_newFunctionEnv_cells S.kind p λenv he s1 x=>?_;subst he;refine⟨lim.keeps x.toInCall.keep,codeAny_func ?_⟩;obtain⟨t,ht,hq⟩:=z A a s H i Q E (O.deeper _) C;have I:ZP (V9 CX P w K J base N c scope f d A a s H E) [] (start N i) H s1:=zK S O.hd F hl r x;refine jY (ht [] s1 (start N i) H _ I hq) (λfl s' B=>?_) λe s' B=>B;have fin:∀{G:St}{l:Hp}{v:V}{u:yT},ZP (V9 CX P w K J base N c scope f d A a s H E) [] G l s'->ZH v u->Q v l->CE a P w H s Q u s' :=
  λ{G l v u} j M q=>⟨v,l,j.os,j.bare,j.base,j.hok,M,q⟩
 cases fl with
 |ret u =>
  obtain⟨v,G,l,j,M,q⟩:=B;exact fin j M q
 |next =>
  obtain⟨G,l,j,q⟩:=B;exact fin (v:=V.non) j rfl q
 |brk =>
  obtain⟨_,_,_,q⟩:=B;exact False.elim q
 |cont =>
  obtain⟨_,_,_,q⟩:=B;exact False.elim q
section
variable {X:Cx}{x:Str}{p pos:Pos}{e:jH}{es:yE}{t:TA}{id T:String}{r:List V->Hp->VK->Prop}
def OC(r:List V->Hp->VK->Prop)(t:TA):TE:=fun Z H Q=>t Z H λa b=>r a b Q
theorem zI(l:YG X (.builtin id) r)(n:Gl X x)(hm:X.mg x=Z8)(i:jQ x=Z9 (.builtin id))(m:PA X (e::es) t)(d:x ≠ "__name__":=by decide)(hdb:VN x:=by decide)
  (he:jO (e::es) X.env=(Z5,wE e X.env)::jO es X.env:=by rfl) (hpl:(fD pos (jO es X.env)).any (·.1)=Z5:=by rfl):PE X (.Call (.Name x p) (e::es) [] pos) (OC r t):=by intro a s Z H Q I h;refine fE (Uz I n hm i ?_ d hdb);exact fQ (Zq (m pos a s Z H _ I h) λb k ⟨c,f,j,g,o⟩=>l a k Z f c b Q j g o) he hpl
theorem L0(l:YG X (.type T) r)(n:Gl X x)(hm:X.mg x=Z8)(i:jQ x=Z9 (.type T))(m:PA X (e::es) t)(d:x ≠ "__name__":=by decide)(hdb:VN x:=by decide)
  (he:jO (e::es) X.env=(Z5,wE e X.env)::jO es X.env:=by rfl) (hpl:(fD pos (jO es X.env)).any (·.1)=Z5:=by rfl):PE X (.Call (.Name x p) (e::es) [] pos) (OC r t):=by intro a s Z H Q I h;refine fE (Uz I n hm i ?_ d hdb);exact j8 (Zq (m pos a s Z H _ I h) λb k ⟨c,f,j,g,o⟩=>l a k Z f c b Q j g o) he hpl
end
end L2
namespace HT
open PySem PyProof.Rows
def lexLt:yA->yA->Bool
 |[],[]=>Z5
 |[],_::_=>Z7
 |_::_,[]=>Z5
 |x::a,y::b=>if x=y then lexLt a b else decide (x<y)
theorem lexLt_cons(x y:Int)(xs ys:yA):lexLt (x::xs) (y::ys)=if x=y then lexLt xs ys else decide (x<y):=rfl
theorem zH(A:jI)(s:yQ)(a:Int)(t:Tok)(c:Int)(u:Tok):∃e,SeqAt.EqAt A s (.int a t) (.int c u) e/\(e=Z7↔a=c) :=
 ⟨(a == c),SeqAt.EqAt.int_int a t c u,by simp⟩
theorem zG(A:jI)(s:yQ)(a:Int)(t:Tok)(c:Int)(u:Tok)(prog:yZ)(w:jJ)(E:yL)(Q:yL)(h:Q (.bool (decide (a<c))) s):
  jC (yW prog w) A (richCompare .Lt (.int a t) (.int c u)) Q E s :=
 (dP h)
section
open PySem.SeqAt
open PySem.AutoSeq1 (wpAny_loadPart')
open PySem.MeetsSeq PySem.MeetsSeq2 PySem.MeetsSeq3
theorem tuple_lt_ints(l b:yR)(items f:yJ)(n V:Nat)(U M:Option yR)(sl L:Array (yF))(E J:yA)(hi:vO items.toList E)(P:vO f.toList J):
  Meets (Builtin.«tuple.__lt__» ⟨[.ref l,.ref b],[]⟩)
   (λ_ R s=>s.heap.get? l=Z9 { cls:=.type "tuple",dict:=U,data:=.seq items n,slots:=sl }/\s.heap.get? b=Z9 { cls:=.type "tuple",dict:=M,data:=.seq f V,slots:=L } /\
    R (.ok (.ret (.bool (lexLt E J)))) s) :=
 .of_wp λo w A R s h=>by
  obtain⟨G,g,d,H,I⟩:=s;obtain⟨S,X,h⟩:=h;have f2:=AutoSeq1.sub_tuple_tuple;have Z:items.size=E.length:=by rw[<- hi.length];simp
  have z2:f.size=J.length:=by rw[<- P.length];simp
  wp_walk using mL S,mL X,fR _ (λZK b N=>b.1=Z8/\N=⟨G,g,d,H,I⟩/\∃(F K:yB) (k j:yA),ZK=F.zip K /\
   vO F k/\vO K j/\k.length+f.size=j.length+items.size/\R (.ok (.ret (.bool (lexLt k j)))) ⟨G,g,d,H,I⟩) _
  case turn =>
   rintro⟨y,x⟩ ZK b N ⟨C,rfl,F,K,k,j,v,z,m,i,p⟩;cases z with
   |nil=>rw[qT5]at v;cases v
   |cons a t D =>
    cases m with
    |nil=>rw[qS7]at v;cases v
    |cons c u B =>
     injection v with hyx hrest;injection hyx with hy hx;subst hy hx;rw[lexLt_cons]at p;simp only[qC9]at i;obtain⟨e,W,r⟩:=zH A.in1 ⟨G,g,d,H,I⟩ a t c u;refine yO (W o w _ _ ?_);cases e with
     |true =>
      rw[if_pos (r.mp rfl)]at p
      wp_walk
      exact⟨rfl,rfl,_,_,_,_,hrest,D,B,by lia,p⟩
     |false =>
      rw[if_neg (λq=>absurd (r.mpr q) qB4)]at p;have O:=zG A.in1 ⟨G,g,d,H,I⟩ a t c u o w
      wp_walk using O
      exact⟨_,rfl,by simpa using p⟩
  case fin =>
   rintro⟨b1,Y⟩ N ⟨C,rfl,F,K,k,j,v,z,m,i,p⟩;subst C;have Q:lexLt k j=decide (items.size<f.size):=by
    cases z with
    |nil =>
     cases m with
     |nil =>
      exact(decide_eq_false (by lia)).symm
     |cons c u T =>
      simp only[qL8,qC9]at i;exact(decide_eq_true (by lia)).symm
    |cons a t Q =>
     cases m with
     |nil =>
      simp only[qL8]at i;exact(decide_eq_false (by lia)).symm
     |cons c u T =>
      cases v
   rw[Q]at p
   wp_walk
   exact⟨_,rfl,by simpa[Builtin.Tuple.tupleCompareSizes]using p⟩
  case h =>
   exact⟨rfl,rfl,items.toList,f.toList,E,J,rfl,hi,P,by lia,h⟩
end
section
variable {prog:yZ}{w:jJ}{A:jI}{E:yL}{s:yQ}
theorem lt_tupInts{items a:yJ}{c f:yA}{Q:yL}(r:dQ s.heap l items)(C:dQ s.heap b a)(hi:vO items.toList c)(v:vO a.toList f)
  (z:A.units<vN) (h:Q (.bool (lexLt c f)) s):jC (yW prog w) A (jG .Lt (.ref l) (.ref b)) Q E s:=by
 obtain⟨⟨y,t,q,B⟩,m,p,n,o⟩:=id r;obtain⟨⟨k,j,data2,i⟩,e,g,u,d⟩:=id C;simp only at p o g d;subst p o g d;exact richCompare_meets_room (op:=.Lt) ⟨_,m,rfl⟩ ⟨_,e,rfl⟩ fO lZ (lQ _ _) (tuple_lt_ints l b items a n u t j B i c f hi v)
  ⟨m,e,show Value.bool (lexLt c f)≠Value.notImplemented/\Q (.bool (lexLt c f)) s from⟨(λx=>nomatch x),h⟩⟩ z
theorem cat_tup{d a:yB}{Q:yL}(ht:dQ s.heap t d.toArray)(z:dQ s.heap b a.toArray)(q:d≠[])
  (x:a=[]->Q (.ref t) s) (y:a≠[]->Q (.ref s.heap.objs.size) { s with heap:=s.heap.push { cls:=.type "tuple",data:=.seq (d++a).toArray } })
  (l:d.length+a.length<=jF):jC (yW prog w) A (jU .Add (.ref t) (.ref b)) Q E s:=by
 obtain⟨⟨cls,m,data,v⟩,k,u,n,r⟩:=id ht;obtain⟨⟨p,g,data2,f⟩,c,i,o,h⟩:=id z;simp only at u r i h;subst u r i h;have e:d.toArray++a.toArray=(d++a).toArray:=by simp
 by_cases j:a=[]
 .exact uL ⟨_,k,rfl⟩ ⟨_,c,rfl⟩ lS dS fK fG (wZ _ _)
   (tuple_addW1 t b d.toArray a.toArray n o m g v f (by simpa using q) (by simp[j])) ⟨k,c,x j⟩
 .refine uL ⟨_,k,rfl⟩ ⟨_,c,rfl⟩ lS dS fK fG (wZ _ _)
   (tuple_addW2 t b d.toArray a.toArray n o m g v f (by simpa using q) (by simpa using j) (by exact l)) ⟨k,c,?_⟩
  rw[e];exact y j
def sIx(n d:Nat):yG->Nat
 |none=>d
 |some v=>if v<0 then(v+(n:Int)).toNat else min v.toNat n
theorem sIx_none(n d:Nat):sIx n d Z8=d:=rfl
theorem sIx_nat(n d k:Nat):sIx n d (Z9 (k:Int))=min k n:=rfl
theorem G6(v:Int)(n d:Nat):(if v<0 then max (v+(n:Int)) 0 else min v (n:Int))=((sIx n d (Z9 v):Nat):Int):=by
 show(if v<0 then max (v+n) 0 else min v n)=(((if v<0 then(v+n).toNat else min v.toNat n):Nat):Int)
 by_cases a:v<0
 .simp only[if_pos a];lia
 .simp only[if_neg a];lia
theorem zF(lo hi:yG)(n:Nat):Builtin.Slice.sliceAdjust lo hi 1 (n:Int)=(((sIx n 0 lo:Nat):Int),((sIx n n hi:Nat):Int)):=by
 refine Prod.ext ?_ ?_
 .cases lo with
  |none=>rfl
  |some v=>exact G6 v n 0
 .cases hi with
  |none=>rfl
  |some v=>exact G6 v n n
theorem zE(i j:Nat):Builtin.Slice.slicePlaces (i:Int) (j:Int) 1=j - i:=by unfold Builtin.Slice.slicePlaces;split<;>lia
theorem G5{o:yG}{Q:yG->yQ->Prop}(p:mB v o)(h:Q o s):jC (yW prog w) A (Builtin.Slice.slicePartIndex v) Q E s:=by
 cases p with
 |none=>exact slicePart_none h
 |int i t=>exact slicePart_int h
theorem sliceApplied_gen{lo hi:yG}{Q:Int×Int×Nat->yQ->Prop}(hs:s.heap.IsSliceOf sl c d .none)(g:mB c lo)(e:mB d hi)
  (h:Q (((sIx n 0 lo:Nat):Int),1,sIx n n hi - sIx n 0 lo) s):jC (yW prog w) A (Builtin.Slice.sliceApplied (.ref sl) (pure (n:Int))) Q E s:=by obtain⟨i,a,f,b⟩:=id hs;refine yO (yO (vL a b (x:=c) rfl (yO (vL a b (x:=d) rfl (yO (vL a b (x:=.none) rfl (yP ?_)))))));refine yO (slicePart_none ?_);refine yO (G5 g (yO (G5 e (yO (yP ?_)))));show jC _ _ (match Builtin.Slice.sliceAdjust lo hi 1 n with|(lo,hi)=>pure (lo,(1:Int),Builtin.Slice.slicePlaces lo hi 1)) _ _ s;rw[zF lo hi n];show jC _ _ (pure (((sIx n 0 lo):Int),1,Builtin.Slice.slicePlaces ((sIx n 0 lo):Int) ((sIx n n hi):Int) 1)) _ _ s;rw[zE];exact yP h
theorem zD(xs:yJ)(i k:Nat):((List.range k).filterMap fun(m:Nat)=>xs[((i:Int)+(m:Int)*1).toNat]?).toArray=((xs.toList.drop i).take k).toArray:=by
 have e:(fun(m:Nat)=>xs[(i+(m:Int)*1).toNat]?)=λm=>xs[i+m]?:=by
  funext m;have:(i+(m:Int)*1).toNat=i+m:=by lia
  rw[this]
 rw[e];have:=pick_run xs i k;rw[qS8]at this;have a:((λx=>xs[x]?)∘λx=>i+x)=λm=>xs[i+m]?:=rfl;rw[a]at this;rw[this]
theorem getItem_tuple_cut{items:yJ}{lo hi:yG}{Q:yL}(ht:dQ s.heap t items)(hs:s.heap.IsSliceOf sl g f .none)(j:mB g lo)(l:mB f hi)
  (i:¬(sIx items.size 0 lo=0/\sIx items.size items.size hi=items.size))
  (h:Q (.ref s.heap.objs.size) { s with heap:=s.heap.push { cls:=.type "tuple",data:=.seq ((items.toList.drop (sIx items.size 0 lo)).take (sIx items.size items.size hi - sIx items.size 0 lo)).toArray } })
  (m:items.size<=jF):jC (yW prog w) A (fV (.ref t) (.ref sl)) Q E s:=by
 have a:=by show((items.toList.drop (sIx items.size 0 lo)).take (sIx items.size items.size hi - sIx items.size 0 lo)).toArray.size<=jF;rw[qB5,qE4,qH0,yV];omega
 obtain⟨n,d,b,k⟩:=id hs;have e:s.TypeIs (.ref sl) "slice":=⟨n,d,b⟩
 unfold fV
 try with_reducible refine jP ?_
 refine yO (g7 ht.typeIs (by decide) ?_);refine yO (jM ht.typeIs jV
  (jK jV ht.typeIs gB ?_ (gK _ _)))
 show jC _ _ (Builtin.Tuple.tupleItemsOf (.ref t) >>= _) _ _ s;refine yO (dU ht ?_);refine yO (j9 e ?_);refine yO (sliceApplied_gen hs j l ?_);have c:¬((((sIx items.size 0 lo):Int) == 0&&(1:Int) == 1&&(sIx items.size items.size hi - sIx items.size 0 lo) == items.size)=Z7):=by intro q;rw[qD3,qD3]at q;have p:=eq_of_beq q.1.1;have o:=eq_of_beq q.2;exact i ⟨by omega,by omega⟩
 show jC _ _ (if(((sIx items.size 0 lo):Int) == 0&&1 == 1&&(sIx items.size items.size hi - sIx items.size 0 lo) == items.size)=Z7 then _ else _) _ _ s;rw[if_neg c,zD]
 first
  |exact yO (jS (yP ⟨_,rfl,yP h⟩) a)
  |exact yO (jS (yO (yP (yP ⟨_,rfl,yP h⟩))) a)
  |exact yO (yO (jS (yP (yP ⟨_,rfl,yP h⟩)) a))
  |exact yO (yO (jS (yP ⟨_,rfl,yP h⟩) a))
end
end HT
namespace L2
open PySem PySem.Spec PyProof.Rows
abbrev TO:=St->Hp->(yG->Hp->Prop)->Prop
def PO(X:Cx)(e:Option jH)(t:TO):Prop :=
 ∀(a:yD) (s:yQ) (Z:St) (H:Hp) (Q:yG->Hp->Prop),ZP X a Z H s->t Z H Q ->
  jC (yW X.prog X.w) X.A (evalPart e X.env) (λu c=>∃o b,ZP X a Z b c/\mB u o/\Q o b) X.xe s
def zC:TO:=λ_ H Q=>Q Z8 H
def zB(t:TE):TO:=fun Z H Q=>t Z H λx a=>∃i,x=.int i/\Q (Z9 i) a
theorem SN{ns:yA}:∀{a:yB},ZM (ns.map V.int) a->vO a ns:=by
 induction ns with
 |nil=>intro a r;cases r;exact .nil
 |cons n ns b =>
  intro a r;cases r with
  |cons d c =>
   obtain⟨t,e⟩:=d;subst e;exact .cons n t (b c)
section
variable {X:Cx}{e:jH}{te:TE}{lo hi:Option jH}{tl th:TO}{pos p2:Pos}
theorem zA:PO X Z8 zC:=by intro a s Z H Q I h;exact yP ⟨Z8,H,I,.none,h⟩
theorem zy(h:PE X e te):PO X (Z9 e) (zB te):=by intro a s Z H Q I c;refine Zq (h a s Z H _ I c) λu j ⟨x,d,b,g,f⟩=>?_;obtain⟨i,rfl,q⟩:=f;obtain⟨t,rfl⟩:=g;exact⟨Z9 i,d,b,.int i t,q⟩
def RQ(X:Cx)(r:V->yG->yG->Hp->VK->Prop):Prop :=
 ∀(a:yD) (s:yQ) (Z:St) (H:Hp) (x:V) (v b f:yT) (g c:yG) (d:yR) (Q:VK),ZP X a Z H s->ZH x v->s.heap.IsSliceOf d b f .none->mB b g->mB f c->r x g c H Q ->
  ∃T id,typeLookup (.type T) "__getitem__"=pure (Z9 (.builtin id))/\s.TypeIs v T/\jC (yW X.prog X.w) X.A (fV v (.ref d)) (EP X a Z Q) X.xe s
def zx(r:V->yG->yG->Hp->VK->Prop)(g:TE)(b a:TO):TE:=fun Z H Q=>g Z H λx c=>b Z c λl d=>a Z d λu f=>r x l u f Q
theorem zw(C:RQ X r)(he:PE X e te)(j:PO X lo tl)(F:PO X hi th):PE X (.Subscript e (.Slice lo hi Z8 p2) pos) (zx r te tl th):=by intro a s Z H Q I h;refine Subscript_ (Zq (he a s Z H _ I h) λv z ⟨x,n,w,p,J⟩=>?_);refine wpAny_Slice (Zq (j a z Z n _ w J) λf B ⟨l,A,y,o,i⟩=>Zq (F a B Z A _ y i) λd c ⟨u,g,k,t,m⟩=>?_);refine yP ?_;have E:ZP X a Z g { c with heap:=c.heap.push { cls:=.type "slice",data:=.fields #[f,d,.none] } }:=k.kept (t':=c.toks) λb K q=>qA1 _ q;obtain⟨T,id,G,ht,D⟩:=C a { c with heap:=c.heap.push { cls:=.type "slice",data:=.fields #[f,d,.none] } } Z g x v f d l u c.heap.objs.size Q E p (qR8.new ..) o t m;exact tail_any ht G D (by with_unfolding_all rfl)
def WX(xs:List V)(lo hi:yG):List V:=(xs.drop (HT.sIx xs.length 0 lo)).take (HT.sIx xs.length xs.length hi - HT.sIx xs.length 0 lo)
theorem G4(xs:List V)(lo hi:yG):(WX xs lo hi).length<=xs.length:=by
 unfold WX;rw[qE4,qH0]
 lia
def LZ(K:yS):V->yG->yG->Hp->VK->Prop:=λx d c H Q=>∃a b,x=.ref a/\Zn K H a b /\
 ¬(HT.sIx b.length 0 d=0/\HT.sIx b.length b.length c=b.length)/\∀p,H p=Z8->Q (.ref p) (ZD H p (.tup (WX b d c)))
theorem zv:RQ X (LZ X.K):=by
 intro k s Z H x v w u g i z Q I t n o p h;obtain⟨a,d,rfl,m,l,q⟩:=h;cases t;obtain⟨f,r,ht,j⟩:=I.tuple m;have c:f.toArray.size=d.length:=by exact r.length.symm
 refine⟨"tuple",_,PyProof.Rows.slot_tuple_getitem.lookup,ht.typeIs,?_⟩;refine HT.getItem_tuple_cut ht n o p (by rw[c];exact l) ?_ (by rw[c];exact j);rw[c];refine⟨.ref s.heap.objs.size,_,I.laid (t':=s.toks) (λb y q=>qA1 _ q) (qA6 _) ?_,rfl,q _ (I.hok.fresh (qA6 _))⟩;exact⟨qD0 (G4 d g i) j,_,(r.drop (HT.sIx d.length 0 g)).take (HT.sIx d.length d.length i - HT.sIx d.length 0 g),IsTup.new _ _⟩
def LY(K:yS):R2:=λx y H Q=>∃a b d c,x=.ref a/\y=.ref b/\Zn K H a (d.map V.int)/\Zn K H b (c.map V.int)/\Q (.bl (HT.lexLt d c)) H
theorem zu(t:X.A.units<vN):YX X (jG .Lt) (LY X.K):=by intro d s Z H x y v u Q I n r h;obtain⟨a,b,f,o,rfl,rfl,p,z,q⟩:=h;cases n;cases r;obtain⟨i,l,j,_⟩:=I.tuple p;obtain⟨c,w,k,_⟩:=I.tuple z;have g:=SN l;have m:=SN w;exact HT.lt_tupInts j k g m t ⟨.bl (HT.lexLt f o),H,I,rfl,q⟩
def zt(K:yS):R2:=λx y H Q=>∃a b d c,x=.ref a/\y=.ref b/\Zn K H a d/\Zn K H b c/\d≠[]/\d.length+c.length<=jF /\
 (c=[]->Q (.ref a) H)/\(c≠[]->∀p,H p=Z8->Q (.ref p) (ZD H p (.tup (d++c))))
theorem ZM.nil_iff(r:ZM xs a):a=[]↔xs=[]:=by
 cases r with
 |nil=>simp
 |cons _ _=>simp
theorem zr:YX X (jU .Add) (zt X.K):=by intro i s Z H x y v u Q I o r h;obtain⟨a,b,B,D,rfl,rfl,p,A,k,g,t,j⟩:=h;cases o;cases r;obtain⟨l,d,m,_⟩:=I.tuple p;obtain⟨f,c,n,_⟩:=I.tuple A;refine HT.cat_tup m n (λz=>k (d.nil_iff.mp z)) (λz=>⟨.ref a,H,I,rfl,t (c.nil_iff.mp z)⟩) (λz=>?_) (by rw[<- d.length,<- c.length];exact g);refine⟨.ref s.heap.objs.size,_,I.laid (t':=s.toks) (λb C q=>qA1 _ q) (qA6 _) ?_,rfl,j (λw=>z (c.nil_iff.mpr w)) _ (I.hok.fresh (qA6 _))⟩;exact⟨by rw[qB9];exact g,_,d.append c,IsTup.new _ _⟩
end
def Vp(n:Nat)(i:Int):yK:=if 0<=i then(if i<n then Z9 i.toNat else Z8)else if -(n:Int)<=i then Z9 (i+n).toNat else Z8
def Xz{α:Type}(xs:List α)(i:Int):Option α:=(Vp xs.length i).bind λj=>xs[j]?
theorem G3(h:Vp n i=Z9 j):seqIndex? i n=Z9 j/\j<n/\-(n:Int)<=i/\i<n:=by
 unfold Vp at h;by_cases b:0<=i
 .rw[if_pos b]at h;by_cases a:i<n
  .rw[if_pos a]at h;have e:=Option.some.inj h;exact⟨by rw[uW b a,e],by lia,by lia,a⟩
  .rw[if_neg a]at h;cases h
 .rw[if_neg b]at h;by_cases a:-n<=i
  .rw[if_pos a]at h;have e:=Option.some.inj h;exact⟨by rw[uM (by lia) a,e],by lia,a,by lia⟩
  .rw[if_neg a]at h;cases h
theorem G2{v:a}(h:Xz xs i=Z9 v):∃j,seqIndex? i xs.length=Z9 j/\xs[j]?=Z9 v/\j<xs.length/\-(xs.length:Int)<=i/\i<xs.length:=by
 unfold Xz at h;cases e:Vp xs.length i with
 |none=>rw[e]at h;cases h
 |some j =>
  rw[e]at h;obtain⟨b,f,d,c⟩:=G3 e;exact⟨j,b,h,f,d,c⟩
theorem Vo{j:Nat}{v:a}(h:xs[j]?=Z9 v):Xz xs (j:Int)=Z9 v:=by
 have b:=(qA5.mp h).1;have e:Vp xs.length j=Z9 j:=by unfold Vp;rw[if_pos (by lia),if_pos (by lia)];simp
 unfold Xz;rw[e];exact h
def LX(b:jH):Prop:=∀o i,uX b Z5 o i=operate [o,i] (fV o i)
def RP(X:Cx)(r:R2):Prop :=
 ∀(c a:jH) (b:yD) (s:yQ) (Z:St) (H:Hp) (x y:V) (v u:yT) (Q:VK),ZP X b Z H s->ZH x v->ZH y u->r x y H Q ->
  uX a Z5 v u=operate [v,u] (fV v u)->jC (yW X.prog X.w) X.A (subscriptTail c a v u) (EP X b Z Q) X.xe s
def RO(X:Cx)(id:String)(r:V->List V->Hp->VK->Prop):Prop :=
 ∀(a:yD) (s:yQ) (Z:St) (H:Hp) (x:V) (b:List V) (v:yT) (c:yB) (Q:VK),ZP X a Z H s->ZH x v->ZM b c->r x b H Q ->
  jC (yW X.prog X.w) X.A (call (.builtin id) (v::c)) (EP X a Z Q) X.xe s
section
variable {X:Cx}{a b:jH}{ta tb:TE}{pos:Pos}
theorem zq(i:RP X r)(j:PE X a ta)(l:PE X b tb)(hs:LX b):PE X (.Subscript a b pos) (QQ r ta tb):=by intro c s Z H Q I h;exact Subscript_ (SQ j l I h λv u f x y e d g k q=>i a b c f Z e x y v u Q d g k q (hs _ _))
def LW(K:yS):R2:=λx y H Q=>∃p c i v,x=.ref p/\y=.int i/\YQ K H p c/\Xz c i=Z9 v/\Q v H
def LV(K:yS):R2:=λx y H Q=>∃p c i v,x=.ref p/\y=.int i/\Zn K H p c/\Xz c i=Z9 v/\Q v H
theorem zp:RP X (LW X.K):=by
 intro l m c s Z H x y v u Q I J K h n;obtain⟨p,M,i,z,rfl,rfl,F,D,q⟩:=h;cases J;obtain⟨t,rfl⟩:=K;obtain⟨g,r,k,O⟩:=I.list F;obtain⟨j,d,E,N,G,C⟩:=G2 D;obtain⟨w,o,e⟩:=r.get E;have B:=r.length;have L:=QN;have fin:EP X c Z Q w s:=⟨z,H,I,e,q⟩
 by_cases A:0<=i
 .have f:=by rw[uW A C]at d;exact Option.some.inj d
  exact item_listR k.isList A (by lia) (by rw[f];simpa using o) fin n
 .have f:(i+g.toArray.size).toNat=j:=by rw[uM (by lia) G]at d;rw[qB5,<- B];exact Option.some.inj d
  exact mC k.isList.typeIs slot_list_getitem.lookup
   (wpAny_getItem_list_neg k.isList (by lia) (by rw[qB5]<;>lia) (by lia) (by rw[f];simpa using o) ⟨rfl,fin⟩) n
theorem zo:RP X (LV X.K):=by
 intro e f c s Z H x y v u Q I C E h l;obtain⟨p,J,i,z,rfl,rfl,B,o,q⟩:=h;cases C;obtain⟨t,rfl⟩:=E;obtain⟨n,r,g,M⟩:=I.tuple B;obtain⟨j,m,A,L,K,F⟩:=G2 o;obtain⟨w,D,d⟩:=r.get A;have k:=r.length;have G:=QN;have fin:EP X c Z Q w s:=⟨z,H,I,d,q⟩
 exact mC g.typeIs slot_tuple_getitem.lookup
  (getItem_tuple g (by lia) (by lia) (by rw[qB5,<- k];exact m) (by simpa using D) ⟨rfl,fin⟩) l
theorem zk(c:yB)(n j:Nat)(u:yT):vI (·.setIfInBounds j u) { cls:=.type "list",data:=.seq c.toArray n }={ cls:=.type "list",data:=.seq (c.set j u).toArray n }:=by simp[vI]
theorem ZP.lst{Z:St}(I:ZP X d Z H s)(h:H p=Z9 (.lst xs)):
  ∃(c:yB) (n:Nat),ZM xs c/\s.heap.get? p=Z9 { cls:=.type "list",data:=.seq c.toArray n }/\xs.length<=sizeLine:=by obtain⟨z,c,n,r,e⟩:=I.hok p _ h;exact⟨c,n,r,e,z⟩
theorem ZP.lstUpd{Z:St}{d its':yB}(I:ZP X c Z H s)(h:H p=Z9 (.lst xs))
  (j:s.heap.get? p=Z9 { cls:=.type "list",data:=.seq d.toArray n }) (i:f { cls:=.type "list",data:=.seq d.toArray n }={ cls:=.type "list",data:=.seq its'.toArray g }) (r:ZM ys its') (k:ys.length<=jF) (t:Nat) :
  ZP X c Z (ZD H p (.lst ys)) { s with heap:=s.heap.update p f,toks:=t }:=by
 have e:(s.heap.update p f).get? p=Z9 { cls:=.type "list",data:=.seq its'.toArray g }:=by rw[qG2 f j (by rw[i]<;>rfl),i]
 refine I.write (by rw[h];trivial) (.inl rfl) (λb u l q=>(qF2 _ _ (Ne.symm l)).trans q) ⟨_,e⟩ ?_;exact⟨k,its',g,r,e⟩
def zj:V->V->V->Hp->(Hp->Prop)->Prop:=λo i v H Q=>∃p c k j,o=.ref p/\i=.int k/\H p=Z9 (.lst c)/\Vp c.length k=Z9 j/\Q (ZD H p (.lst (c.set j v)))
theorem zi:VL X zj:=by
 intro y s Z H o i v J K u Q I D z B h;obtain⟨p,F,k,j,rfl,rfl,g,A,q⟩:=h;cases D;obtain⟨t,rfl⟩:=z;obtain⟨c,n,r,f,C⟩:=I.lst g;obtain⟨d,G,m,l⟩:=G3 A;have e:=r.length;have E:=QN;have w :=
  I.lstUpd g f (zk c n j u) (r.set B j) (by rw[qJ8];exact C) s.toks
 by_cases x:0<=k
 .have hk:=by rw[uW x l]at d;exact Option.some.inj d
  exact W.ki_setAt f x (by lia) (by rw[qB5,<- e];exact l) (by rw[hk];exact⟨_,w,q⟩)
 .have hk:(k+c.toArray.size).toNat=j:=by rw[uM (by lia) m]at d;rw[qB5,<- e];exact Option.some.inj d
  exact W.ki_setBack f (by lia) (by rw[qB5,<- e];exact m) (by lia) (by rw[hk];exact⟨_,w,q⟩)
theorem zh(lo hi:yG)(n:Nat):(wU lo hi Z8 n).1=((HT.sIx n 0 lo:Nat):Int)/\(wU lo hi Z8 n).2.1=((HT.sIx n n hi:Nat):Int)/\(wU lo hi Z8 n).2.2=1:=by
 refine⟨?_,?_,rfl⟩
 .cases lo with
  |none=>simp[wU,HT.sIx]
  |some i =>
   simp only[wU,HT.sIx,qU0,show(1:Int)>0 by decide,if_true];by_cases h:i<0
   .simp only[h,if_true]<;>lia
   .simp only[h,if_false]<;>lia
 .cases hi with
  |none=>simp[wU,HT.sIx]
  |some i =>
   simp only[wU,HT.sIx,qU0,show(1:Int)>0 by decide,if_true];by_cases h:i<0
   .simp only[h,if_true]<;>lia
   .simp only[h,if_false]<;>lia
theorem zd(c:yB)(lo hi:yG):uU c.toArray lo hi Z8=((c.drop (HT.sIx c.length 0 lo)).take (HT.sIx c.length c.length hi - HT.sIx c.length 0 lo)).toArray:=by obtain⟨d,f,e⟩:=zh lo hi c.toArray.size;unfold uU;rw[d,f,e];simp only[sliceRange_one,pick_run]<;>rfl
def LU(K:yS):V->yG->yG->Hp->VK->Prop:=λx e d H Q=>∃a c,x=.ref a/\YQ K H a c/\∀p,H p=Z8->Q (.ref p) (ZD H p (.lst (WX c e d)))
theorem za:RQ X (LU X.K):=by intro g s Z H x v t p e f w Q I n j l m h;obtain⟨a,c,rfl,i,q⟩:=h;cases n;obtain⟨k,r,ht,o⟩:=I.list i;have d:=r.length;refine⟨"list",_,slot_list_getitem.lookup,ht.isList.typeIs,?_⟩;refine lH ht.isList j l m .none (by simp) ?_ (by rw[qB5]<;>lia);rw[zd,<- d];refine⟨.ref s.heap.objs.size,_,I.laid (t':=s.toks) (λb u q=>qA1 _ q) (qA6 _) ?_,rfl,q _ (I.hok.fresh (qA6 _))⟩;exact⟨qD0 (G4 c e f) o,_,0,(r.drop (HT.sIx c.length 0 e)).take (HT.sIx c.length c.length f - HT.sIx c.length 0 e),qA9 _ rfl⟩
def UN:V->Bool
 |.non=>Z7
 |.bl _=>Z7
 |.int _=>Z7
 |.str _=>Z7
 |_=>Z5
def UM:V->V->Bool
 |.non,.non=>Z7
 |.bl a,.bl b=>a == b
 |.bl a,.int b=>(if a then 1 else 0) == b
 |.int a,.bl b=>a == (if b then 1 else 0)
 |.int a,.int b=>a == b
 |.str a,.str b=>a == b
 |_,_=>Z5
theorem y0(e:ZH y u)(c:ZH x v)(g:UN y=Z7)(f:UN x=Z7):SeqAt.EqAt A s u v (UM y x):=by
 cases y with
 |non =>
  cases e;cases x with
  |non=>cases c;exact SeqAt.EqAt.same _
  |bl b=>cases c;exact SeqAt.EqAt.none_bool b
  |int b=>obtain⟨t,rfl⟩:=c;exact SeqAt.EqAt.none_int b t
  |str b=>obtain⟨t,rfl⟩:=c;exact SeqAt.EqAt.none_str b t
  |_=>exact absurd (show Z5=Z7 from f) qB4
 |bl a =>
  cases e;cases x with
  |non=>cases c;exact SeqAt.EqAt.bool_none a
  |bl b=>cases c;exact SeqAt.EqAt.bool_bool a b
  |int b=>obtain⟨t,rfl⟩:=c;exact SeqAt.EqAt.bool_int a b t
  |str b=>obtain⟨t,rfl⟩:=c;exact SeqAt.EqAt.bool_str a b t
  |_=>exact absurd (show Z5=Z7 from f) qB4
 |int a =>
  obtain⟨d,rfl⟩:=e;cases x with
  |non=>cases c;exact SeqAt.EqAt.int_none a d
  |bl b=>cases c;exact SeqAt.EqAt.int_bool a d b
  |int b=>obtain⟨t,rfl⟩:=c;exact SeqAt.EqAt.int_int a d b t
  |str b=>obtain⟨t,rfl⟩:=c;exact SeqAt.EqAt.int_str a d b t
  |_=>exact absurd (show Z5=Z7 from f) qB4
 |str a =>
  obtain⟨d,rfl⟩:=e;cases x with
  |non=>cases c;exact SeqAt.EqAt.str_none a d
  |bl b=>cases c;exact SeqAt.EqAt.str_bool a d b
  |int b=>obtain⟨t,rfl⟩:=c;exact SeqAt.EqAt.str_int a d b t
  |str b=>obtain⟨t,rfl⟩:=c;exact SeqAt.EqAt.str_str a d b t
  |_=>exact absurd (show Z5=Z7 from f) qB4
 |_=>exact absurd (show Z5=Z7 from g) qB4
def V8(x:V)(u:yT):Bool:=match u with
 |.none=>UM .non x
 |.bool b=>UM (.bl b) x
 |.int i _=>UM (.int i) x
 |.str z _=>UM (.str z) x
 |_=>Z5
theorem G1(r:ZH y u)(f:UN y=Z7):V8 x u=UM y x:=by
 cases y with
 |non=>cases r;rfl
 |bl b=>cases r;rfl
 |int i=>obtain⟨t,rfl⟩:=r;rfl
 |str z=>obtain⟨t,rfl⟩:=r;rfl
 |_=>exact absurd (show Z5=Z7 from f) qB4
theorem QL{x:V}:∀{xs:List V}{c:yB},ZM xs c->xs.all UN=Z7->c.any (V8 x)=xs.any λy=>UM y x
 |_,_,.nil,_=>rfl
 |y::xs,u::c,.cons r t,f=>by rw[qL5,qD3]at f;rw[qH5,qH5,G1 r f.1,QL t f.2]
theorem QK{A:jI}{s:yQ}{x:V}{v:yT}(g:ZH x v)(e:UN x=Z7):∀{xs:List V}{d:yB},ZM xs d->xs.all UN=Z7->∀u∈d,SeqAt.EqAt A s u v (V8 x u)
 |_,_,.nil,_=>λu c=>by cases c
 |y::xs,u::d,.cons r t,f=>λh c=>by
  rw[qL5,qD3]at f;rcases qB0.mp c with rfl|c
  .rw[G1 r f.1];exact y0 r g f.1 e
  .exact QK g e t f.2 h c
def UL(x:V)(xs:List V):Bool:=xs.any λy=>UM y x
def LS(K:yS)(neg:Bool):R2:=λx y H Q=>∃p c,y=.ref p/\(YQ K H p c∨Zn K H p c)/\UN x=Z7/\c.all UN=Z7/\Q (.bl (if neg then !UL x c else UL x c)) H
theorem yz:YX X (jG .In) (LS X.K Z5):=by
 intro j s Z H x y v u Q I g l h;obtain⟨p,m,rfl,d,i,fs,q⟩:=h;cases l;rcases d with d|d
 .obtain⟨c,r,f,k⟩:=I.list d;refine SeqAt.in_listAt (V8 x) f.isList (λw e=>QK g i r fs w (by simpa using e)) ⟨.bl _,H,I,rfl,?_⟩;rw[show c.toArray.any (V8 x)=c.any (V8 x) by simp,QL r fs];exact q
 .obtain⟨c,r,f,k⟩:=I.tuple d;refine SeqAt.in_tupleAt (V8 x) f (λw e=>QK g i r fs w (by simpa using e)) ⟨.bl _,H,I,rfl,?_⟩;rw[show c.toArray.any (V8 x)=c.any (V8 x) by simp,QL r fs];exact q
theorem yy:YX X (jG .NotIn) (LS X.K Z7):=by
 intro j s Z H x y v u Q I g l h;obtain⟨p,m,rfl,d,i,fs,q⟩:=h;cases l;rcases d with d|d
 .obtain⟨c,r,f,k⟩:=I.list d;refine SeqAt.notIn_listAt (V8 x) f.isList (λw e=>QK g i r fs w (by simpa using e)) ⟨.bl _,H,I,rfl,?_⟩;rw[show c.toArray.any (V8 x)=c.any (V8 x) by simp,QL r fs];exact q
 .obtain⟨c,r,f,k⟩:=I.tuple d;refine SeqAt.notIn_tupleAt (V8 x) f (λw e=>QK g i r fs w (by simpa using e)) ⟨.bl _,H,I,rfl,?_⟩;rw[show c.toArray.any (V8 x)=c.any (V8 x) by simp,QL r fs];exact q
theorem yx:YG X (.builtin "len") (λxs H Q=>∃p ys,xs=[.ref p]/\(YQ X.K H p ys∨Zn X.K H p ys)/\Q (.int ys.length) H):=by
 intro i s Z H xs l Q I r h;obtain⟨p,ys,rfl,d,q⟩:=h;obtain⟨u,rfl,j⟩:=XA r;cases j;have m:=QN;rcases d with d|d
 .obtain⟨e,g,f,k⟩:=I.list d;have c:=g.length;exact Calls.call_len_list f.isList (by simp only[qB5]<;>lia) ⟨.int ys.length,H,I.tok _,⟨s.toks+1,by rw[qB5,c]⟩,q⟩
 .obtain⟨e,g,f,k⟩:=I.tuple d;have c:=g.length;exact len_tuple f (by simp only[qB5]<;>lia) ⟨.int ys.length,H,I.tok _,⟨s.toks+1,by rw[qB5,c]⟩,q⟩
theorem yw:YG X (.builtin "len") (λxs H Q=>∃z,xs=[.str z]/\z.length<=jF/\Q (.int z.length) H):=by intro c s Z H xs f Q I r h;obtain⟨z,rfl,d,q⟩:=h;obtain⟨u,rfl,t,rfl⟩:=XA r;have e:=QN;exact len_str (by lia) ⟨.int z.length,H,I.tok _,⟨_,rfl⟩,q⟩
theorem yv:YG X (.type "list") (λxs H Q=>∃p ys,xs=[.ref p]/\(YQ X.K H p ys∨Zn X.K H p ys)/\∀l,H l=Z8->Q (.ref l) (ZD H l (.lst ys))):=by
 intro m s Z H xs A Q I r h;obtain⟨p,ys,rfl,j,q⟩:=h;obtain⟨u,rfl,z⟩:=XA r;cases z;have fin:∀c,ZM ys c->ys.length<=jF->∀d g,(∀b y,s.heap.get? b=Z9 y->d.get? b=Z9 y) ->
   d.get? s.heap.objs.size=Z9 { cls:=.type "list",dict:=Z8,data:=.seq c.toArray g,slots:=#[] }->EP X m Z Q (.ref s.heap.objs.size) { s with heap:=d }:=λc f k d g kp e =>
  ⟨.ref s.heap.objs.size,_,I.laid (t':=s.toks) kp (qA6 _) (show W4 X.prog X.w _ d _ (.lst ys)from⟨k,c,g,f,e⟩),rfl,q _ (I.hok.fresh (qA6 _))⟩
 rcases j with j|j
 .obtain⟨c,f,v,k⟩:=I.list j;have i:=f.length;obtain⟨o,t,x,n,w⟩:=v.isList;exact call_list_seq p (.inl rfl) t x w (λd g kp e=>fin c f k d g kp e) (by simp only[qB5]<;>lia)
 .obtain⟨c,f,v,k⟩:=I.tuple j;have i:=f.length;obtain⟨o,t,x,n,w⟩:=v;exact call_list_seq p (.inr rfl) t x w (λd g kp e=>fin c f k d g kp e) (by simp only[qB5]<;>lia)
theorem G0:YG X (.type "tuple") (λxs H Q=>∃p ys,xs=[.ref p]/\((YQ X.K H p ys/\∀l,H l=Z8->Q (.ref l) (ZD H l (.tup ys)))∨(Zn X.K H p ys/\Q (.ref p) H))):=by
 intro m s Z H xs w Q I r h;obtain⟨p,ys,rfl,h⟩:=h;obtain⟨u,rfl,v⟩:=XA r;cases v;rcases h with⟨g,q⟩| ⟨g,q⟩
 .obtain⟨c,f,d,k⟩:=I.list g;have i:=f.length;refine call_tuple_list d.isList (λn kp=>?_) (by simp only[qB5]<;>lia);have j:=I.kept (t':=s.toks) kp;have t :=
   j.laid (t':=s.toks) (λb o e=>qA1 _ e) (qA6 _) (show W4 X.prog X.w _ _ _ (.tup ys)from⟨k,c,f,IsTup.new _ _⟩)
  exact⟨.ref n.objs.size,_,t,rfl,q _ (j.hok.fresh (qA6 _))⟩
 .obtain⟨c,f,d,k⟩:=I.tuple g;exact call_tuple_same d ⟨.ref p,H,I,rfl,q⟩
def OB(K:yS)(T:String)(x:V)(H:Hp):Prop:=match x with
 |.str _=>T = "str"
 |.int _=>T = "int"
 |.ref p=>(T = "list"/\∃d,YQ K H p d)∨(T = "tuple"/\∃o,K.lookup p=Z9 o/\o.cls=.type "tuple"/\o.dict=Z8) ∨
   (T = "dict"/\((∃c,H p=Z9 (.dK c))∨∃c,H p=Z9 (.dT c)))∨(T = "set"/\∃S n,H p=Z9 (.set S n))
 |_=>False
theorem GZ{Z:St}(I:ZP X d Z H s)(r:ZH x v)(ty:OB X.K T x H):
  s.TypeIs v T/\∀a,v=.ref a->∃k,s.heap.get? a=Z9 k/\k.dict=Z8:=by
 cases x with
 |str z =>
  obtain⟨t,rfl⟩:=r;cases (show T = "str" from ty);exact⟨typeIs_str s z t,λ_ e=>nomatch e⟩
 |int i =>
  obtain⟨t,rfl⟩:=r;cases (show T = "int" from ty);exact⟨typeIs_int s i t,λ_ e=>nomatch e⟩
 |ref p =>
  cases r;rcases ty with⟨rfl,u,m⟩| ⟨rfl,o,hk,q,h⟩| ⟨rfl,hk⟩| ⟨rfl,S,n,hk⟩
  .obtain⟨l,_,j,_⟩:=I.list m;refine⟨j.isList.typeIs,λa e=>?_⟩;cases e;obtain⟨o,n,e,c,h,_⟩:=j;exact⟨o,e,h⟩
  .refine⟨⟨o,I.kIn p o hk,q⟩,λa e=>?_⟩;cases e;exact⟨o,I.kIn _ o hk,h⟩
  .have z:∃o,s.heap.get? p=Z9 o/\o.ExactDict:=by
    rcases hk with⟨f,hk⟩| ⟨f,hk⟩
    .obtain⟨_,_,_,_,o,_,_,e,ex,_⟩:=I.hok p _ hk;exact⟨o,e,ex⟩
    .obtain⟨_,_,_,_,o,_,_,e,ex,_⟩:=I.hok p _ hk;exact⟨o,e,ex⟩
   obtain⟨o,e,ex⟩:=z;refine⟨⟨o,e,ex.1⟩,λa g=>?_⟩;cases g;exact⟨o,e,ex.2.1⟩
  .obtain⟨o,_,_,_,e,ex,_⟩:=I.hok p _ hk;refine⟨⟨o,e,ex.1⟩,λa g=>?_⟩;cases g;exact⟨o,e,ex.2.1⟩
 |_=>exact False.elim ty
def LR(K:yS)(T:String)(r:V->List V->Hp->VK->Prop)(d:TE):TE:=fun Z H Q=>d Z H λx c=>OB K T x c/\r x [] c Q
def yu(K:yS)(T:String)(r:V->List V->Hp->VK->Prop)(f:TE)(t:TA):TE:=fun Z H Q=>f Z H λx c=>OB K T x c/\t Z c λd e=>r x d e Q
variable {o e:jH}{es:yE}{to:TE}{t:TA}{name:Str}{apos cpos:Pos}{T id:String}{r:V->List V->Hp->VK->Prop}
theorem yt(l:uE T)(g:Slot T name id)(i:typeOf (.builtin id)=pure (.type "method_descriptor"))(hm:RO X id r)(m:PE X o to)
  (d:fA o name X.env (wE o X.env)=wE o X.env:=by rfl) (f:(apos.endLine == cpos.line)=Z7:=by rfl):PE X (.Call (.Attribute o name apos) [] [] cpos) (LR X.K T r to):=by intro c s Z H Q I h;refine wpAny_Call_method0_late d f (Zq (m c s Z H _ I h) λv u ⟨x,n,k,j,ty,w⟩=>?_);obtain⟨p,q⟩:=GZ k j ty;exact⟨T,id,l,g,i,p,q,mD rfl (PySem.evalArgs_none (hm c u Z n x [] v [] Q k j .nil w))⟩
theorem yr(q:uE T)(j:Slot T name id)(k:typeOf (.builtin id)=pure (.type "method_descriptor"))(hm:RO X id r)(y:PE X o to)(G:PA X (e::es) t)
  (f:fA o name X.env (wE o X.env)=wE o X.env:=by rfl)
  (i:((fD cpos (jO (e::es) X.env)).all (λx=>!x.1)&&(backToKw cpos (dD [] X.env)).all (λx=>x.1.isSome)
   && decide ((e::es).length+([]:List mE).length+(if([]:List mE).isEmpty then 0 else 1)<30))=Z7:=by rfl)
  (g:(apos.endLine == cpos.line)=Z7:=by rfl) (hs:jO (e::es) X.env=(Z5,wE e X.env)::jO es X.env:=by rfl) (d:(fD cpos (jO es X.env)).any (·.1)=Z5:=by rfl) :
  PE X (.Call (.Attribute o name apos) (e::es) [] cpos) (yu X.K T r to t):=by intro c s Z H Q I h;refine wpAny_Call_method_late f i g rfl (Zq (y c s Z H _ I h) λv D ⟨x,z,m,l,ty,K⟩=>?_);obtain⟨A,B⟩:=GZ m l ty;refine⟨T,id,q,j,k,A,B,?_⟩;have n:=G cpos c D Z z _ m K;rw[hs]at n ⊢;refine mD (by show(Z5||(fD cpos (jO es X.env)).any (·.1))=Z5;rw[d]<;>rfl) (Calls.evalArgs_plain ?_);exact Zq n λu F ⟨w,E,C,J,p⟩=>hm c F Z E x w v u Q C l J p
end
def GY(X:Cx)(id:String)(r:V->List V->Hp->VK->Prop):Prop :=
 ∀(a:yD) (s:yQ) (Z:St) (H:Hp) (x:V) (b:List V) (v:yT) (c:yB) (Q:VK),ZP X a Z H s->ZH x v->ZM b c->r x b H Q ->
  jC (yW X.prog X.w) X.A (call (.builtin id) (v::c)) (EP X a Z Q) X.xe s
theorem ZM.cinv:∀{a:yB},ZM (x::xs) a->∃u r,a=u::r/\ZH x u/\ZM xs r
 |_,.cons r t=>⟨_,_,rfl,r,t⟩
theorem ZM.ninv:∀{a:yB},ZM [] a->a=[]
 |_,.nil=>rfl
theorem ZM.one(h:ZM [x] b):∃u,b=[u]/\ZH x u:=by obtain⟨u,r,rfl,a,t⟩:=h.cinv;rw[t.ninv];exact⟨u,rfl,a⟩
theorem ZM.two(h:ZM [x,y] c):∃u v,c=[u,v]/\ZH x u/\ZH y v:=by obtain⟨u,r,rfl,a,t⟩:=h.cinv;obtain⟨v,rfl,b⟩:=t.one;exact⟨u,v,rfl,a,b⟩
theorem ZM.zero:∀{a:yB},ZM [] a->a=[]
 |_,.nil=>rfl
theorem ZM.dropLast(h:ZM xs a):ZM xs.dropLast a.dropLast:=by
 induction h with
 |nil=>exact .nil
 |cons r t b =>
  cases t with
  |nil=>exact .nil
  |cons q c=>exact .cons r b
section
variable {X:Cx}{pins:yD}{Z:St}{H:Hp}{s:yQ}{l b:yR}{xs ys zs:List V}
theorem ZP.lset{a its':yB}{f:yJ->yJ}(I:ZP X pins Z H s)(g:H l=Z9 (.lst xs))
  (e:s.heap.get? l=Z9 { cls:=.type "list",data:=.seq a.toArray n }) (i:f a.toArray=its'.toArray) (c:ZM ys its') (d:ys.length<=jF) :
  ZP X pins Z (ZD H l (.lst ys)) { s with heap:=s.heap.update l (vI f),toks:=t' }:=by have q:=PySem.IsL.update e f;rw[i]at q;refine I.write (by rw[g];exact trivial) (.inl rfl) (λk u j h=>(qF2 s.heap (vI f) (Ne.symm j)).trans h) ⟨_,q⟩ ?_;exact⟨d,its',_,c,q⟩
theorem ZP.lnew(I:ZP X pins Z H s)(c:ZM ys a)(d:ys.length<=jF):
  ZP X pins Z (ZD H s.heap.objs.size (.lst ys)) { s with heap:=s.heap.push { cls:=.type "list",data:=.seq a.toArray },toks:=t' } :=
 I.laid (λ_ _ q=>qA1 _ q) (qA6 _) ⟨d,a,0,c,qA9 _ rfl⟩
theorem ZP.fresh(I:ZP X pins Z H s):H s.heap.objs.size=Z8:=I.hok.fresh (qA6 _)
theorem ZP.lstM(I:ZP X pins Z H s)(c:H l=Z9 (.lst xs)):xs.length<=jF/\∃(a:yB) (n:Nat),ZM xs a/\xs.length=a.length/\s.heap.get? l=Z9 { cls:=.type "list",data:=.seq a.toArray n }:=by obtain⟨z,a,n,r,e⟩:=I.hok l _ c;exact⟨z,a,n,r,r.length,e⟩
end
section
variable {X:Cx}
def yq:V->List V->Hp->VK->Prop:=λx b H Q=>∃l a y,x=.ref l/\b=[y]/\H l=Z9 (.lst a)/\a.length<jF/\Q .non (ZD H l (.lst (a++[y])))
theorem GX:GY X "list.append" yq:=by
 intro c s Z H x k v j Q I g f h;obtain⟨l,m,y,rfl,rfl,b,o,q⟩:=h;cases g;obtain⟨u,rfl,d⟩:=f.one;obtain⟨z,a,n,r,i,e⟩:=I.lstM b;refine call_meets F.slot_list_append ⟨_,e,rfl⟩ F.entry_list_append (F.args_list_append_2 _ _) (PySem.list_append l a.toArray n u (by rw[qB5];lia)) ⟨e,?_⟩;refine⟨.non,_,I.lset (its':=a++[u]) b e (by simp) (r.append (.cons d .nil)) ?_,rfl,q⟩;rw[qB9,qJ6]
 lia
def LQ:R2:=λx y H Q=>∃l b c a,x=.ref l/\y=.ref b/\H l=Z9 (.lst c)/\H b=Z9 (.lst a)/\c.length+a.length<=jF/\∀p,H p=Z8->Q (.ref p) (ZD H p (.lst (c++a)))
theorem yp:YX X (jU .Add) LQ:=by
 intro d s Z H x y v u Q I m o h;obtain⟨l,b,B,t,rfl,rfl,g,f,C,q⟩:=h;cases m;cases o;obtain⟨z,c,n,r,w,e⟩:=I.lstM g;obtain⟨D,a,A,p,k,j⟩:=I.lstM f;refine PySem.P.add_list e j ?_ (by rw[qB5,qB5];lia);have i:c.toArray++a.toArray=(c++a).toArray:=by simp
 rw[i];exact⟨.ref _,_,I.lnew (t':=s.toks) (r.append p) (by rw[qB9];lia),rfl,q _ I.fresh⟩
end
end L2
namespace Att
open PySem PySem.W PySem.Calls PyProof.Rows
theorem yo:∀(ns:yA) (c:yB),WellAll P h c (ns.map WData.int)->vO c ns:=by
 intro ns
 induction ns with
 |nil =>
  intro c w;cases w;exact .nil
 |cons n ns d =>
  intro c w;cases w with
  |cons a b =>
   cases a;exact .cons _ _ (d _ b)
theorem yn{l:OpenLaw}(p:l.most=Z9 n){e:yB}
  (c:l.row.toRowW.claim.pre args=Z7) (m:WellAll P h e args) :
  ∃a o b,e=[Value.ref a]/\args=[WData.list (b.map WData.int)]/\h.get? a=Z9 { cls:=.type "list",data:=.seq o.toArray }/\vO o b/\b.length<=n:=by
 have k:WShape.hasAll [] args [.list .int]=Z7:=(pre_splitW c).1;have x:l.pre.holds [] { args:=args }=Z7:=(pre_splitW c).2;obtain⟨d,r,rfl,t,w⟩:=hasAllW_cons k;obtain rfl:=hasAllW_nil w;obtain⟨A,rfl,y⟩:=hasW_list t;obtain⟨b,rfl⟩:=items_int y;have g:b.length<=n:=by
  have j:=by have j:=(holds_andW x).1;rw[p]at j;exact j
  have i:=condW_of j (w_not (w_lt w_lit (w_len_list (w_arg rfl))));rw[qA0]at i;refine qQ8 λq=>?_;have z:n<(b.length:Int):=by omega
  first
   |(rw[decide_eq_true z]at i;exact absurd i (by decide))
   |(simp at i)
 cases m with
 |cons u v =>
  cases v;cases u with
  |list s f=>exact⟨_,_,b,rfl,rfl,s,yo b _ f,g⟩
theorem ym(l:OpenLaw)(a:List WData):l.row.toRowW.claim.post a (.bool Z7) a=Z7 :=
 postW_of
  (by first|rfl|decide|simp[WShape.arms])
  (w_eq_bool (w_res rfl) w_lit) rfl
theorem attach_call{l:OpenLaw}{e:yH}{C:(Str->yF)->jL->Prop}
  (L:l.most=Z9 n) (x:d.params.defaults=[])
  (call:∀(w:jJ) (c b:yQ) (t A:Str->yF) (p:yR) (o:Obj) (y u g:yT) (a:yR) (i:yB) (s:yA),
   Ground q e [] C w c t A b.heap->D w b.heap ->
   b.heap.get? p=Z9 o->o.data=.func (docDef d.name d.params d.body d.scope y u g)->b.heap.CodeRec u d.name->t d.name=Z9 (.ref p) ->
   b.heap.get? a=Z9 { cls:=.type "list",data:=.seq i.toArray }->vO i s->s.length<=n->b.gens=#[] ->
   wJ (yW l.prog w) mF (.call (.ref p) ⟨[.ref a],[]⟩) (λr s'=>r=.ok (.ret (.bool Z7))/\OldK b.heap s'.heap/\s'.os=b.os/\gZ s'.gens) b) :
  WalkO q e C D l.row.toRowW d [] (λf i=>PySem.call f i):=by intro w c b t A G Y p o y u g K kV M O B E z T I H V m F J v U;obtain rfl:K=.none:=Dflts.none E x;obtain rfl:kV=.none:=Dflts.noKw E;obtain⟨a,i,s,rfl,rfl,k,h,j⟩:=yn L m v;refine enter_call (fJ (call w c b t A p o y u g a i s G Y M (fd_plain O) B z k h j T) λr s' P=>?_);obtain⟨rfl,N,S,R⟩:=P;exact⟨.inl ⟨.bool Z7,.bool Z7,[],rfl,λ_=>rfl,.bool Z7,ym l _,λ_=>⟨List.Pairwise.nil,λ_ Q=>(nomatch Q)⟩⟩,N,S,R⟩
end Att
namespace L2
open PySem PySem.Spec PyProof.Rows
theorem GW:∀{a:yB}{b:yA},vO a b->ZM (b.map V.int) a
 |_,_,.nil=>.nil
 |_,_,.cons n t h=>.cons ⟨t,rfl⟩ (GW h)
def Us(H:Hp):Prop:=∀b,H b=Z8∨∃o a,H b=Z9 (.frz o (.lst a))
theorem yj{K:yS}{E R:Str->yF}{j:yB}{A:yA}
  (W:K.In s₁.heap) (t:s₁.heap.Ns vC E) (f:s₁.heap.Ns uC R) (M:∀x:Str,x ≠ "__name__"->R x=jQ x) (J:s₁.heap.NoLimit) (hg:s₁.gens=#[])
  (L:s₁.heap.get? a=Z9 { cls:=.type "list",data:=.seq j.toArray }) (hi:vO j A) (U:A.length<=jF) (hr:Zb k mF)
  (F:∀base:jL,K.In base->base.Ns vC E->XU P w K E base CX k S fd [x] sp) (l:∀(s:yQ) (u:yT),uJ s fd ⟨[u],[]⟩ [(x,u)])
  (O:∀H:Hp,Us H->YQ K H a (A.map V.int)->sp [.ref a] H (λv _=>v=.bl Z7) λ_ _ _=>False)
  (N:∀H e s',CX [] H s₁ (λ_ _ _=>False) e s'->False) :
  wJ (yW P w) mF (.call (.ref S) ⟨[.ref a],[]⟩) (λr s'=>r=.ok (.ret (.bool Z7))/\OldK s₁.heap s'.heap/\s'.os=s₁.os/\gZ s'.gens) s₁:=by
 have Z:=GW hi;have C:=hi.length;have i:∀H:Hp,Us H->YQ K H a (A.map V.int)->XY P w H s₁.heap->(∀b,H b≠Z8->b=a)->(H a≠Z8->K.lookup a=Z8) ->
   wJ (yW P w) mF (.call (.ref S) ⟨[.ref a],[]⟩) (λr s'=>r=.ok (.ret (.bool Z7))/\OldK s₁.heap s'.heap/\s'.os=s₁.os/\gZ s'.gens) s₁:=by
  intro H Y hS p hA hK;have c:∀{b:yR}{o:Obj},s₁.heap.get? b=Z9 o->H b=Z8->(WZ s₁.heap H).get? b=Z9 o:=λe n=>Bs e n;have Q:∀{b:yR}{o:Obj}{I:Array wN}{ep:Nat},s₁.heap.get? b=Z9 o->o.data=.dict I ep->H b=Z8:=λ{b o I ep} e d=>by
   cases q:H b with
   |none=>rfl
   |some u =>
    have T:b=a:=hA b (by rw[q];simp);subst T;rw[L]at e;cases e;have d':Data.seq j.toArray _=Data.dict I ep:=d;cases d'
  have g:∀{b:yR}{m:Str->yF},s₁.heap.Ns b m->(WZ s₁.heap H).Ns b m:=λ{b m} ⟨o,I,ep,e,d,r⟩=>⟨o,I,ep,c e (Q e d),d,r⟩
  have y:K.In (WZ s₁.heap H):=λb o e=>c (W b o e) (by
   cases q:H b with
   |none=>rfl
   |some u =>
    have T:b=a:=hA b (by rw[q];simp);subst T;rw[hK (by rw[q];simp)]at e;cases e)
  have hM:Mod K E (WZ s₁.heap H):=⟨y,g t,⟨R,g f,M⟩,let ⟨mc,h1,h2⟩:=J;⟨mc,g h1,h2⟩⟩
  have e0:Uu P w K E (WZ s₁.heap H) mF [] s₁ H:=⟨rfl,hM,λb o e=>Br e,Nat.le_of_eq (Bt _ _),trivial,λb f=>absurd (show b∈([]:yC)from f) (by simp),p,.of_eq hg⟩
  refine fJ ((F _ y (g t)).run mF [] s₁ H ⟨[.ref a],[]⟩ [.ref a] [.ref a] _ _ hr e0 (l s₁ (.ref a)) (.cons rfl .nil) (O H Y hS)) λr s' h=>?_;cases r with
  |error e=>exact(N H e s' h).elim
  |ok fl =>
   cases fl with
   |next=>exact False.elim h
   |brk=>exact False.elim h
   |cont=>exact False.elim h
   |ret u =>
    obtain⟨v,H',os,G,un,D,r',q⟩:=h;have q':v=.bl Z7:=q;subst q';obtain rfl:u=Value.bool Z7:=r';refine⟨rfl,OldK.of_keep λb o e=>?_,os,G⟩;cases q:H b with
    |none=>exact un.keep b o e q (by intro z;exact absurd (show b∈([]:yC)from z) (by simp)) (by simp)
    |some u =>
     rcases Y b with z|⟨ob,xs,z⟩
     .rw[q]at z;cases z
     .have z2:=un.frzs b ob _ z;obtain⟨X,_⟩:=p b _ z;obtain⟨e2,_⟩:=D b _ z2;rw[e]at X;cases X;exact e2
 cases hk:K.lookup a with
 |some o =>
  have e:=W a o hk;rw[L]at e;cases e;refine i (λ_=>Z8) (λ_=>.inl rfl) (.inr ⟨_,j.toArray,_,hk,rfl,rfl,rfl,by rw[qB5,C];exact U,by simpa using Z⟩) (λb u z=>by have B:(Z8:Option HO)=Z9 u:=z;cases B) (λb z=>absurd rfl z) λz=>absurd rfl z
 |none =>
  refine i (λb=>if b=a then Z9 (.frz { cls:=.type "list",data:=.seq j.toArray } (.lst (A.map V.int)))else Z8) (λb=>?_) (.inl (.inr ⟨{ cls:=.type "list",data:=.seq j.toArray },if_pos rfl⟩)) (λb u z=>?_) (λb z=>?_) λ_=>hk
  .by_cases f:b=a
   .exact .inr ⟨_,_,if_pos f⟩
   .exact .inl (if_neg f)
  .by_cases f:b=a
   .have B:=(if_pos f).symm.trans z;cases B;subst f;exact⟨L,by rw[qA0];exact U,j,_,Z,L⟩
   .have B:=(if_neg f).symm.trans z;cases B
  .by_cases f:b=a
   .exact f
   .exact absurd (if_neg f) z
theorem walk_of{l:W.OpenLaw}{g:yH}{J:(Str->yF)->jL->Prop}{K:Params->yS}{CX:jJ->Vd}{sp:jJ->Sp}
  (M:l.most=Z9 n) (B:n<=jF) (t:d.params.defaults=[]) (R:Zb k mF)
  (L:∀(w:jJ) (h:jL),D w h->(K w.params).In h)
  (F:∀(w:jJ) (i:Str->yF) (r:yR) (h:jL),(K w.params).In h->h.Ns vC i->i d.name=Z9 (.ref r) ->
   ∃fd:vY,(∀(s:yQ) (u:yT),uJ s fd ⟨[u],[]⟩ [(x,u)]) /\
    ∀base:jL,(K w.params).In base->base.Ns vC i->XU l.prog w (K w.params) i base (CX w) k r fd [x] (sp w))
  (A:∀(w:jJ) (H:Hp) (a:yR) (p:yA),p.length<=n->Us H->YQ (K w.params) H a (p.map V.int)->sp w [.ref a] H (λv _=>v=.bl Z7) λ_ _ _=>False)
  (y:∀(w:jJ) (H:Hp) (s:yQ) (e:yT) (s':yQ),CX w [] H s (λ_ _ _=>False) e s'->False) :
  W.WalkO q g J D l.row.toRowW d [] (λf I=>PySem.call f I):=by refine Att.attach_call M t λw C m i mb r o Z cd P a I p G Y X hd T z j c b S=>?_;have E:=L w _ Y;obtain⟨fd,U,N⟩:=F w i r _ E G.T.g z;exact yj E G.T.g G.T.b G.T.builtins G.T.nolimit S j c (qD0 b B) R N U (λH O Q=>A w H a p b O Q) λH e s'=>y w H m e s'
def Ur(s:wQ):Arguments:=match s with
 |.FunctionDef _ a _ _ _ _ _ _ _ _=>a
 |_=>{ posonlyargs:=[],args:=[],vararg:=Z8,kwonlyargs:=[],kw_defaults:=[],kwarg:=Z8,defaults:=[] }
def WC(s:wQ):List Stmt:=match s with
 |.FunctionDef _ _ b _ _ _ _ _ _ _=>b
 |_=>[]
def XO(s:wQ):Scope:=match s with
 |.FunctionDef _ _ _ _ _ _ a _ _ _=>a
 |_=>{ kind:=.function,names:=[],isGenerator:=Z5,isCoroutine:=Z5 }
abbrev UK:Vd:=λ_ _ _ _ _ _=>False
abbrev E0:XK:=λ_ _ _=>False
theorem yi:L1 UK X E0:=λ_ _ _ _ _ _ _ h=>h.elim
structure Vc(K:yS)(x qual:Str)(st:wQ)(f:yR)(fd:vY):Prop where
 ex:∃(oc:yT) (od:Option yR) (kV doc pm:yT) (an:Option yR) (cdv ct:yT) (osl:Array (yF)),
  fd=lG x qual (Ur st) (WC st) (XO st) .none kV doc pm an cdv ct/\K.lookup f=Z9 ⟨oc,od,.func fd,osl⟩/\uK K cdv qual=Z7
 kp:dA K (.ref f)=Z7
section
variable {P:yZ}{w:jJ}{K:yS}{mg:Str->yF}{base:jL}
theorem Vc.ok{st:wQ}(F:Vc K x b st f fd)(S:OE N ps (XO st))(len:∀e H Q E,sp e H Q E->e.length=ps.length)
  (d:∀(c:yT) (A:jI) (a:List Env) (s:yQ) (H:Hp) (e:List V) (Q:VK) (E:XK),Zb k (A.deeper (dC b (XO st) s.heap.objs.size f c))->sp e H Q E ->
   ∃t,Xs (V9 UK P w K mg base N b (XO st) f c A a s H E).nox (WC st) t/\t { nx:=λ_ l=>Q .non l,rt:=Q } (start N e) H):XU P w K mg base UK (k+1) f fd ps sp:=by obtain⟨y,p,kV,m,v,r,c,u,j,rfl,o,i⟩:=F.ex;refine zJ o i S len λA a s H e Q E n g=>?_;obtain⟨t,h,q⟩:=d c A a s H e Q E n g;exact⟨t,h.nox,q⟩
theorem Vc.binds{st:wQ}(F:Vc K x a st f fd)
  (h:∀(kV b d:yT) (g:Option yR) (c e:yT) (i:yB),i.length=ps.length->bindArgs (lG x a (Ur st) (WC st) (XO st) .none kV b d g c e) ⟨i,[]⟩=pure (ps.zip i)):Ut K fd ps []:=by obtain⟨l,n,kV,b,d,g,c,e,j,rfl,m,k⟩:=F.ex;exact .all (h kV b d g c e)
theorem yh{st:wQ}{e:Array (yF)}{kV d i b g:yT}(l:K.lookup f=Z9 ⟨j,m,.func (lG x a (Ur st) (WC st) (XO st) .none kV d i h b g),e⟩)
  (c:uK K b a=Z7) (k:dA K (.ref f)=Z7):Vc K x a st f (lG x a (Ur st) (WC st) (XO st) .none kV d i h b g):=⟨⟨j,m,kV,d,i,h,b,g,e,rfl,l,c⟩,k⟩
end
theorem GV(a:Zb k A):A.units+1<cLine:=qI0 (Nat.add_le_add_left (by decide:1<=64) _) a.units
theorem GU(h:n<=1000):n<sizeLine:=qI0 h (by decide)
section
variable {X:Cx}
theorem pv(i:Nat){pos:Pos}(b:X.N[i]?=Z9 x:=by rfl)(c:QX X.env.scope x:=by first|exact Or.inl rfl|exact Or.inr (Or.inl rfl)| exact Or.inr (Or.inr rfl))(d:VN x:=by decide)
  (a:(x == ("__classdict__":Str))=Z5:=by decide):PE X (.Name x pos) (SV i):=Ht b c d a
end
def XM(H a:Hp):Prop:=∀b o,H b=Z9 o->a b=Z9 o
theorem XM.refl(H:Hp):XM H H:=λ_ _ h=>h
section
variable {κ:Type} [DecidableEq κ]
def Yq(kvs:List (κ×V))(k:κ):Option V:=(kvs.find? λa=>decide (a.1=k)).map (·.2)
def Y2(kvs:List (κ×V))(k:κ)(v:V):List (κ×V) :=
 if(kvs.any λa=>decide (a.1=k))=Z7 then kvs.map (λa=>if a.1=k then(a.1,v)else a)else kvs++[(k,v)]
theorem OA{k:κ}(e:p.1=k):Yq (p::r) k=Z9 p.2:=by simp[Yq,e]
theorem Oz{k:κ}(e:¬p.1=k):Yq (p::r) k=Yq r k:=by simp[Yq,e]
theorem GT(k:κ):∀kvs:List (κ×V),(kvs.any λa=>decide (a.1=k))=(Yq kvs k).isSome
 |[]=>rfl
 |p::r=>by
  rw[qH5];by_cases e:p.1=k
  .simp only[OA e,decide_eq_true e,Bool.true_or,Option.isSome_some]
  .rw[Oz e,decide_eq_false e,Bool.false_or];exact GT k r
theorem LP(kvs:List (κ×V))(k:κ)(v:V):(Y2 kvs k v).length<=kvs.length+1:=by
 unfold Y2;split
 .rw[qA0];lia
 .simp_all
theorem Xc.isSome_eq(r:Xc o u):o.isSome=u.isSome:=by
 cases o with
 |none=>cases u with
  |none=>rfl
  |some _=>exact(r).elim
 |some _=>cases u with
  |none=>exact(r).elim
  |some _=>rfl
theorem KV.val(r:KV kvs d)(k:κ):Xc (Yq kvs k) (uN d k):=by
 induction r with
 |nil=>exact True.intro
 |@cons p q j a h t g =>
  obtain⟨f,i⟩:=h;by_cases e:p.1=k
  .have c:=f.symm.trans e;have b:uN (q::a) k=Z9 q.2:=by simp[uN,c]
   rw[OA e,b];exact i
  .have c:¬q.1=k:=λz=>e (f.trans z);have b:uN (q::a) k=uN a k:=by simp[uN,c]
   rw[Oz e,b];exact g
theorem KV.any(r:KV kvs b)(k:κ):(kvs.any λa=>decide (a.1=k))=b.any λa=>decide (a.1=k):=by
 induction r with
 |nil=>rfl
 |cons h t c=>rw[qH5,qH5,c,h.1]
theorem KV.repl(r:KV kvs c)(k:κ)(d:ZH y u):
  KV (kvs.map λa=>if a.1=k then(a.1,y)else a) (c.map λa=>if a.1=k then(a.1,u)else a):=by
 induction r with
 |nil=>exact .nil
 |@cons p q j i h t f =>
  rw[qB8,qB8];refine .cons ?_ f;obtain⟨b,g⟩:=h;by_cases e:p.1=k
  .rw[if_pos e,if_pos (b.symm.trans e)];exact⟨b,d⟩
  .rw[if_neg e,if_neg (λz=>e (b.trans z))];exact⟨b,g⟩
theorem KV.put(r:KV kvs a)(k:κ)(b:ZH y u):KV (Y2 kvs k y) (uV a k u):=by
 unfold Y2 uV;rw[r.any k];by_cases e:(a.any λc=>decide (c.1=k))=Z7
 .rw[if_pos e,if_pos e];exact r.repl k b
 .rw[if_neg e,if_neg e];exact Paired.snoc r ⟨rfl,b⟩
theorem KV.length{a:List (κ×yT)}(r:KV kvs a):kvs.length=a.length:=Paired.length r
end
theorem SM(r:ZH (kV k) u):(Ys P w).is k u=Z7:=by
 cases k with
 |inl i=>obtain⟨t,e⟩:=(r);subst e;exact Bx P w i t
 |inr x=>obtain⟨t,e⟩:=(r);subst e;exact Bw P w x t
theorem GS:∀{a:List ZI}{b:yB},ZM (a.map kV) b->ItemsAre (Ys P w) a b
 |[],_,r=>by cases r;exact .nil
 |k::a,_,r=>by
  cases r with
  |cons h t=>exact .cons (SM h) (GS t)
abbrev KT(H:Hp):List (List ZI×V)->List (List ZI×yR×yT)->Prop:=mW λp q=>p.1=q.1/\H q.2.1=Z9 (.tup (p.1.map kV))/\ZH p.2 q.2.2
theorem KT.val(r:KT H kvs xs)(k:List ZI):Xc (Yq kvs k) ((atKey xs k).map (·.2)):=by
 induction r with
 |nil=>exact True.intro
 |@cons p q i a h t f =>
  obtain⟨d,_,g⟩:=h;by_cases e:p.1=k
  .have c:=d.symm.trans e;have b:atKey (q::a) k=Z9 q.2:=by simp[atKey,c]
   rw[OA e,b];exact g
  .have c:¬q.1=k:=λz=>e (d.trans z);have b:atKey (q::a) k=atKey a k:=by simp[atKey,c]
   rw[Oz e,b];exact f
theorem KT.repl(r:KT H kvs xs)(k:List ZI)(g:ZH y u):
  KT H (kvs.map λb=>if b.1=k then(b.1,y)else b) (xs.map (putAt k u)):=by
 induction r with
 |nil=>exact .nil
 |@cons p q i j h t d =>
  rw[qB8,qB8];refine .cons ?_ d;obtain⟨a,c,f⟩:=h;unfold putAt;by_cases e:p.1=k
  .rw[if_pos e,if_pos (a.symm.trans e)];exact⟨a,c,g⟩
  .rw[if_neg e,if_neg (λz=>e (a.trans z))];exact⟨a,c,f⟩
theorem KT.put(r:KT H kvs xs)(k:List ZI)(d:H b=Z9 (.tup (k.map kV)))(a:ZH y u):
  KT H (Y2 kvs k y) (storedH xs k b u):=by
 have e:(kvs.any λc=>decide (c.1=k))=(atKey xs k).isSome:=by rw[GT,(r.val k).isSome_eq,qQ4]
 unfold Y2 storedH;rw[e];by_cases q:(atKey xs k).isSome=Z7
 .rw[if_pos q,if_pos q];exact r.repl k a
 .rw[if_neg q,if_neg q];exact Paired.snoc r ⟨rfl,d,a⟩
theorem KT.keeps(r:KT H kvs xs)(ht:∀b ys,H b=Z9 (.tup ys)->a b=Z9 (.tup ys)):KT a kvs xs :=
 Paired.mapP r λ_ _ z=>⟨z.1,ht _ _ z.2.1,z.2.2⟩
section
variable {P:yZ}{w:jJ}{H:Hp}{h:jL}{a:yR}
theorem GR(ok:XY P w H h)(e:Rd H a u):W4 P w H h a u:=e.ok ok
theorem TR(ok:XY P w H h)(e:Rd H a (.dK kvs)):kvs.length<=jF/\(a == vV)=Z5/\∃vs,KV kvs vs/\h.DictOf (Ys P w) a vs :=
 show W4 P w H h a (.dK kvs)from GR ok e
theorem SL(ok:XY P w H h)(e:H a=Z9 (.dK kvs)):kvs.length<=jF/\(a == vV)=Z5/\∃vs,KV kvs vs/\h.DictOf (Ys P w) a vs:=TR ok (.inl e)
theorem QJ(ok:XY P w H h)(e:H a=Z9 (.tup (c.map kV))):(lP (Ys P w)).is h c a:=by
 obtain⟨_,b,r,o,d,g,n,f⟩:=(ok a _ e)
 exact⟨o,b.toArray,n,d,g,f,by simpa using GS r⟩
theorem QI(ok:XY P w H h)(e:Rd H a (.dT kvs)):kvs.length<=jF/\(a == vV)=Z5 /\
  ∃xs,KT H kvs xs/\h.DictOfH (lP (Ys P w)) a xs:=by
 obtain⟨z,y,xs,r,o,s,f,i,j,n,k,g⟩:=(GR ok e)
 refine⟨z,y,xs,r,o,s,f,i,j,n,k,λx b=>?_,g⟩;have all:∀{l:List (List ZI×V)}{m:List (List ZI×yR×yT)},KT H l m->∀x∈m,(lP (Ys P w)).is h x.1 x.2.1:=by
  intro l m q
  induction q with
  |nil=>intro x b;exact nomatch b
  |@cons p q u v c t d =>
   intro x b;rcases qB0.mp b with e|b
   .subst e;exact QJ ok (by rw[<- c.1];exact c.2.1)
   .exact d x b
 exact all r x b
theorem yg(ok:XY P w H h)(e:H a=Z9 (.dT kvs)):kvs.length<=jF/\(a == vV)=Z5 /\
  ∃xs,KT H kvs xs/\h.DictOfH (lP (Ys P w)) a xs:=QI ok (.inl e)
end
def Yc(H:Hp)(a:yR)(y:V)(r:Option V):Prop :=
 (∃c k,Rd H a (.dK c)/\y=kV k/\r=Yq c k)∨∃c k b,Rd H a (.dT c)/\y=.ref b/\H b=Z9 (.tup (k.map kV))/\r=Yq c k
def WW(H:Hp)(a:yR)(y v:V)(d:Hp):Prop :=
 (∃c k,H a=Z9 (.dK c)/\y=kV k/\c.length<jF/\d=ZD H a (.dK (Y2 c k v))) ∨
 ∃c k b,H a=Z9 (.dT c)/\y=.ref b/\H b=Z9 (.tup (k.map kV))/\c.length<jF/\d=ZD H a (.dT (Y2 c k v))
theorem Yc.k{k:ZI}(e:H a=Z9 (.dK kvs)):Yc H a (kV k) (Yq kvs k):=.inl ⟨kvs,k,.inl e,rfl,rfl⟩
theorem Yc.t{k:List ZI}(e:H a=Z9 (.dT kvs))(c:H b=Z9 (.tup (k.map kV))):Yc H a (.ref b) (Yq kvs k):=.inr ⟨kvs,k,b,.inl e,rfl,c,rfl⟩
theorem WW.k{k:ZI}(e:H a=Z9 (.dK kvs))(b:kvs.length<jF):WW H a (kV k) v (ZD H a (.dK (Y2 kvs k v))):=.inl ⟨kvs,k,e,rfl,b,rfl⟩
theorem WW.t{k:List ZI}(e:H a=Z9 (.dT kvs))(d:H b=Z9 (.tup (k.map kV)))(c:kvs.length<jF):
  WW H a (.ref b) v (ZD H a (.dT (Y2 kvs k v))):=.inr ⟨kvs,k,b,e,rfl,d,c,rfl⟩
section
variable {X:Cx}{pins:yD}{Z:St}{H:Hp}{s:yQ}{a:yR}{y v:V}{u r:yT}{o:Option V}{A:jI}{E:yL}
theorem ZP.big(I:ZP X pins Z H s):vV<s.heap.objs.size:=by have h:=(I.mod.glob.keeps I.bk).lt;exact qR0 (by decide) h
theorem yf{Q:yL}(C:A.units+1<vN)(I:ZP X pins Z H s)(g:Yc H a y (Z9 v))(t:ZH y u)(h:∀f s',ZP X pins Z H s'->ZH v f->Q f s'):
  jC (yW X.prog X.w) A (fV (.ref a) u) Q E s:=by
 rcases g with⟨n,k,e,q,l⟩| ⟨n,k,b,e,q,w,l⟩
 .subst q;obtain⟨z,B,D,d,j⟩:=TR I.hok e;obtain⟨f,i,c⟩:=Xc.some_of (by rw[l];exact d.val k);exact wpAny_getItem_of (SM t) j.mapOf i (h f _ (I.tok _) c)
 .subst q;cases (t);obtain⟨z,B,F,d,j⟩:=QI I.hok e;obtain⟨f,i,c⟩:=Xc.some_of (by rw[l];exact d.val k);obtain⟨p,x,m⟩:=qA7.mp i;refine wpAny_getItem_heap (fF C) (QJ I.hok w) j x ?_;rw[m];exact h f _ (I.tok _) c
theorem LO{Q:yL}(p:A.units+1<vN)(I:ZP X pins Z H s)(g:Yc H a y o)(m:ZH y u)(h:∀s',ZP X pins Z H s'->Q (.bool o.isSome) s'):
  jC (yW X.prog X.w) A (jG .In u (.ref a)) Q E s:=by
 rcases g with⟨f,k,e,j,l⟩| ⟨f,k,b,e,j,n,l⟩
 .subst j;obtain⟨z,i,t,c,d⟩:=TR I.hok e;refine wpAny_in_of (SM m) i d.mapOf ?_;rw[<- (c.val k).isSome_eq,<- l];exact h _ (I.tok _)
 .subst j;cases (m);obtain⟨z,i,w,c,d⟩:=QI I.hok e;refine wpAny_in_heap (fF p) (QJ I.hok n) i d ?_;have q:=(c.val k).isSome_eq;rw[qQ4]at q;rw[<- q,<- l];exact h _ (I.tok _)
theorem ye{Q:yL}(p:A.units+1<vN)(I:ZP X pins Z H s)(g:Yc H a y o)(m:ZH y u)(h:∀s',ZP X pins Z H s'->Q (.bool (!o.isSome)) s'):
  jC (yW X.prog X.w) A (jG .NotIn u (.ref a)) Q E s:=by
 rcases g with⟨f,k,e,j,l⟩| ⟨f,k,b,e,j,n,l⟩
 .subst j;obtain⟨z,i,t,c,d⟩:=TR I.hok e;refine wpAny_notIn_of (SM m) i d.mapOf ?_;rw[<- (c.val k).isSome_eq,<- l];exact h _ (I.tok _)
 .subst j;cases (m);obtain⟨z,i,w,c,d⟩:=QI I.hok e;refine wpAny_notIn_heap (fF p) (QJ I.hok n) i d ?_;have q:=(c.val k).isSome_eq;rw[qQ4]at q;rw[<- q,<- l];exact h _ (I.tok _)
theorem Oy(I:ZP X pins Z H s)(e:RW (H a))(hs:qE3 a s.heap h')(he:∃q,h'.get? a=Z9 q)(c:W4 X.prog X.w (ZD H a d) h' a d):
  ZP X pins Z (ZD H a d) { s with heap:=h',toks:=t' } :=
 I.write e (.inl rfl) (λb q f z=>(hs.2 b f).trans z) he c
theorem Ox(z:kvs.length<=jF)(f:(a == vV)=Z5)(c:KV kvs b)(e:h'.DictOf (Ys P w) a b):
  W4 P w d h' a (.dK kvs):=⟨z,f,b,c,e⟩
theorem LN(W:A.units+1<vN)(I:ZP X pins Z H s)(g:WW H a y v D)(J:ZH y u)(G:ZH v r)(h:∀s',ZP X pins Z D s'->Q () s'):
  jC (yW X.prog X.w) A (uZ (.ref a) u r) Q E s:=by
 rcases g with⟨d,k,e,x,l,t⟩| ⟨d,k,b,e,x,B,l,t⟩
 .subst x t;obtain⟨z,w,M,f,n⟩:=SL I.hok e;have T:M.length<=sizeLine:=by rw[<- f.length];exact z
  have m:(Y2 d k v).length<=sizeLine:=by have:=LP d k v;lia
  refine wpAny_setItem_pairs (SM J) n λF i p=>h _ ?_;have O:∃q,F.get? a=Z9 q:=let ⟨q,_,_,j,_⟩:=i;⟨q,j⟩
  exact Oy I (by rw[e];exact True.intro) p O (Ox m w (f.put k G) i)
 .subst x t;cases (J);obtain⟨z,w,N,f,n⟩:=yg I.hok e;have T:N.length<=sizeLine:=by rw[<- Paired.length f];exact z
  have m:(Y2 d k v).length<=sizeLine:=by have:=LP d k v;lia
  refine wpAny_setItem_heap (fF W) (QJ I.hok B) n λF i p=>h _ ?_;obtain⟨q,U,K,j,P,S,R,_,L⟩:=i;refine Oy I (by rw[e];exact True.intro) p ⟨q,j⟩ ⟨m,w,_,(f.put k B G).keeps λc Y C=>?_,q,U,K,j,P,S,R,L⟩;rw[YI (Bu C e (λz=>nomatch z))];exact C
end
section
variable {X:Cx}{pins:yD}{Z:St}{H:Hp}{s:yQ}{a:yR}{kvs:List (ZI×V)}{k:ZI}{u:yT}{A:jI}{E:yL}
theorem yd{Q:yL}(I:ZP X pins Z H s)(e:Rd H a (.dK kvs))(h:∀t s',ZP X pins Z H s'->Q (.int kvs.length t) s'):jC (yW X.prog X.w) A (call (.builtin "len") [.ref a]) Q E s:=by obtain⟨z,d,f,b,c⟩:=TR I.hok e;refine call_len_dict d c (by rw[<- b.length];rw[vK]at z;lia) ?_;rw[<- b.length];exact h _ _ (I.tok _)
end
theorem yc{Z:St}(I:ZP X c Z H s)(g:Yc H a y o):s.TypeIs (.ref a) "dict":=by
 rcases g with⟨f,k,e,_,_⟩| ⟨f,k,b,e,_,_,_⟩
 .obtain⟨_,_,h,_,d⟩:=TR I.hok e;exact d.typeIs
 .obtain⟨_,_,i,_,d⟩:=QI I.hok e;exact d.typeIs
theorem LM(h:jL)(a:vV<h.objs.size):W4 P w H (h.push { cls:=.type "dict",data:=.dict #[] }) h.objs.size (.dK []) :=
 ⟨qC6 _,beq_eq_false_iff_ne.mpr (Ne.symm (qB7 a)),[],.nil,Heap.DictOf.new h⟩
def yb:TE:=λ_ H Q=>∀p,H p=Z8->Q (.ref p) (ZD H p (.dK []))
section
variable {X:Cx}{pos:Pos}
theorem ya:PE X (.Dict [] [] pos) yb:=λa s Z H Q I h =>
 wpAny_Dict_empty ⟨.ref s.heap.objs.size,_,I.laid (t':=s.toks) (λ_ _ q=>qA1 _ q) (qA6 _) (LM s.heap I.big),rfl,h _ (I.hok.fresh (qA6 _))⟩
end
def LL:List (TE×TE)->St->Hp->(List (V×V)->Hp->Prop)->Prop
 |[],_,H,Q=>Q [] H
 |(a,tv)::r,Z,H,Q=>a Z H λx c=>tv Z c λy e=>LL r Z e λd b=>Q ((x,y)::d) b
abbrev VV:List (V×V)->List (yT×yT)->Prop:=mW λp q=>ZH p.1 q.1/\ZH p.2 q.2
def Ov(X:Cx)(pos:Pos)(c:List (Option jH))(a:yE)(d:List (TE×TE)):Prop :=
 ∀(b:yD) (s:yQ) (Z:St) (H:Hp) (Q:List (V×V)->Hp->Prop),ZP X b Z H s->LL d Z H Q ->
  jC (yW X.prog X.w) X.A (evalPairs (pairTrees c a X.env pos)) (λg h=>∃f e,ZP X b Z e h/\VV f g/\Q f e) X.xe s
theorem xZ:Ov X pos [] [] []:=λa s Z H Q I h=>pairTrees_nil_walk ⟨[],H,I,.nil,h⟩
theorem xY(hk:PE X k tk)(n:PE X v d)(A:Ov X pos f e b):
  Ov X pos (Z9 k::f) (v::e) ((tk,d)::b):=λa s Z H Q I h =>
 pairTrees_cons_walk (Zq (hk a s Z H _ I h) λu q ⟨x,l,o,z,C⟩=>Zq (n a q Z l _ o C) λD w ⟨y,r,p,B,g⟩ =>
  Zq (A a w Z r _ p g) λF E ⟨m,t,i,c,j⟩=>⟨(x,y)::m,t,i,.cons ⟨z,B⟩ c,j⟩)
def VR(kvs more:List (ZI×V)):List (ZI×V):=more.foldl (λacc a=>Y2 acc a.1 a.2) kvs
theorem KV.merge:∀{more:List (ZI×V)}{rs:List (ZI×yT)}{kvs:List (ZI×V)}{a:List (ZI×yT)},KV more rs->KV kvs a->KV (VR kvs more) (merged a rs):=by
 intro more rs kvs a r
 induction r generalizing kvs a with
 |nil=>intro q;exact q
 |@cons p q f d h t c =>
  intro b;have e:KV (Y2 kvs p.1 p.2) (uV a q.1 q.2):=by have:=b.put p.1 h.2;rw[<- h.1];exact this
  exact c e
theorem Ou:∀(more kvs:List (ZI×V)),(VR kvs more).length<=kvs.length+more.length
 |[],kvs=>by show kvs.length<=kvs.length+0;lia
 |p::r,kvs=>by have b:=Ou r (Y2 kvs p.1 p.2);have a:=LP kvs p.1 p.2;show(VR (Y2 kvs p.1 p.2) r).length<=_;rw[qC9];lia
theorem GQ:∀{kvs:List (ZI×V)}{d:List (yT×yT)},VV (kvs.map λe=>(kV e.1,e.2)) d->∃rs,Carries (Ys P w) d rs/\KV kvs rs
 |[],_,r=>by cases r;exact⟨[],True.intro,.nil⟩
 |p::kvs,_,r=>by
  cases r with
  |@cons a b g bs h t =>
   obtain⟨rs,c,q⟩:=GQ t;obtain⟨b1,f⟩:=b;exact⟨(p.1,f)::rs,⟨SM h.1,rfl,c⟩,.cons ⟨rfl,h.2⟩ q⟩
def xX(b:List (TE×TE)):TE:=fun Z H Q=>∀p,H p=Z8->LL b Z (ZD H p (.dK [])) λe c=>c p=Z9 (.dK [])/\∃a:List (ZI×V),e=a.map (λd=>(kV d.1,d.2))/\a.length<=15/\Q (.ref p) (ZD c p (.dK (VR [] a)))
theorem xW(h:Ov X pos a b i)(d:a.all (·.isSome)=Z7)(o:a.length=b.length)(B:a≠[])
  (k:a.length<=15):PE X (.Dict a b pos) (xX i):=by
 intro g s Z H Q I q;have v:=I.hok.fresh (qA6 s.heap.objs.size);have y:=I.laid (h':=s.heap.push { cls:=.type "dict",data:=.dict #[] }) (t':=s.toks) (λ_ _ q=>qA1 _ q) (qA6 _) (LM s.heap I.big);refine wpAny_Dict_walk (knd:=Ys X.prog X.w) d o B k (Zq (h g _ Z _ _ y (q _ v)) λK J ⟨F,G,m,l,e,f,r,L,n⟩=>?_);subst r;obtain⟨rs,c,t⟩:=GQ l;obtain⟨z,A,E,D,p⟩:=SL m.hok e;cases D;refine⟨rs,c,p,λh' j u=>⟨.ref s.heap.objs.size,_,?_,rfl,n⟩⟩;have C:(VR [] f).length<=sizeLine:=by have w:=Ou f [];rw[qL8]at w;rw[vK];lia
 have x:∃q,h'.get? s.heap.objs.size=Z9 q:=let ⟨q,_,_,hq,_⟩:=j;⟨q,hq⟩
 exact Oy m (by rw[e];exact True.intro) u x (Ox C A (t.merge .nil) j)
def TQ(st a:St):Prop:=st.length=a.length/\∀(i:Nat) v,st[i]?=Z9 (Z9 v)->a[i]?=Z9 (Z9 v)
def WJ(X:Cx)(scope:wB)(N:yH)(cl:List (Str×yR))(s:yQ)(H:Hp)(C:yR)(ex:yC):Cx where
 prog:=X.prog
 w:=X.w
 K:=X.K
 mg:=X.mg
 base:=X.base
 A:=X.A
 N:=N
 s₀:=s
 H₀:=H
 env:=compEnvC scope cl C X.env
 outer:=X.stack
 stack:=X.stack
 ex:=ex
 fn:=λx=>decide ((x,NameKind.cell)∈scope.names)
 calm:=X.calm
 pn:=[]
 xe:=λ_ _=>False
def Yb(env:Env):List (Str×vD)->List (Str×yR)->List (Str×yR)
 |[],acc=>acc
 |(n,k)::r,acc=>if k == .free then(match env.cells.lookup n with|some c=>Yb env r ((n,c)::acc)| none=>Yb env r acc)else Yb env r acc
theorem Ot{env:Env}:∀(f:List (Str×vD)) (acc:List (Str×yR)),(∀x c,acc.lookup x=Z9 c->env.cells.lookup x=Z9 c)->∀x c,(Yb env f acc).lookup x=Z9 c->env.cells.lookup x=Z9 c
 |[],_,h=>h
 |(n,k)::r,acc,h=>by
  unfold Yb;split
  .split
   .rename_i c b;refine Ot r _ λx d e=>?_;rw[qD8]at e;cases a:x == n with
    |true =>
     rw[a]at e;have:=by simpa using a
     subst this;cases e;exact b
    |false =>
     rw[a]at e;exact h x d e
   .exact Ot r _ h
  .exact Ot r _ h
theorem QH:∀(e:List (Str×vD)) (acc:List (Str×yR)) (x:Str),((∃c,acc.lookup x=Z9 c)∨((x,NameKind.free)∈e/\∃c,env.cells.lookup x=Z9 c))->∃c,(Yb env e acc).lookup x=Z9 c
 |[],acc,x,h=>by
  rcases h with h|⟨h,_⟩
  .exact h
  .cases h
 |(n,k)::r,acc,x,h=>by
  unfold Yb;split
  .rename_i hk;split
   .rename_i c b;refine QH r _ x ?_;by_cases f:x=n
    .simp_all
    .have g:(x == n)=Z5:=by simpa using f
     rcases h with⟨d,h⟩| ⟨h,d⟩
     .exact .inl ⟨d,by rw[qD8,g];exact h⟩
     .simp_all
   .rename_i b;refine QH r _ x ?_;rcases h with h|⟨h,d,a⟩
    .exact .inl h
    .rcases qB0.mp h with h|h
     .cases h;rw[b]at a;cases a
     .exact .inr ⟨h,d,a⟩
  .rename_i hk;refine QH r _ x ?_;rcases h with h|⟨h,d⟩
   .exact .inl h
   .rcases qB0.mp h with h|h
    .simp_all
    .exact .inr ⟨h,d⟩
theorem xV(h:env.cells.lookup x=Z9 c):cellOf env x=pure c:=by unfold cellOf;rw[h]
theorem LK:∀(b:List (Str×vD)) (acc:List (Str×yR)),(∀x,(x,NameKind.free)∈b->∃c,env.cells.lookup x=Z9 c) ->
  (forIn b acc fun(x:Str×vD) (r:List (Str×yR))=>(match x with
   | (a,kind)=>if kind == NameKind.free then(do let c <- cellOf env a;pure (ForInStep.yield ((a,c)::r)))else pure (ForInStep.yield r):Sem (ForInStep (List (Str×yR)))))=pure (Yb env b acc)
 |[],acc,_=>rfl
 |(n,k)::r,acc,h=>by
  rw[qV1];unfold Yb;have d:=λx f=>h x (qC5 _ f);by_cases hk:k=.free
  .subst hk;obtain⟨c,e⟩:=h n (qE2 ..);dsimp only;rw[e,xV e];exact LK r _ d
  .have g:(k == NameKind.free)=Z5:=by simpa using hk
   simp only[g];exact LK r _ d
theorem GP(h:∀x,(x,NameKind.free)∈scope.names->∃c,env.cells.lookup x=Z9 c):closureFor scope env=pure (Yb env scope.names []):=by unfold closureFor;have q:=LK scope.names [] h;simp only[bind_pure];congr 1
theorem LJ{ns:List (Str×vD)}(h:ns.lookup x=Z9 k):(x,k)∈ns:=by
 induction ns with
 |nil=>cases h
 |cons a r c =>
  obtain⟨n,d⟩:=a;rw[qD8]at h;cases b:x == n with
  |true =>
   rw[b]at h;have e:=by simpa using b
   subst e;cases h;exact qE2 ..
  |false =>
   rw[b]at h;exact qC5 _ (c h)
theorem GO(h:(uO scope env).names.lookup x=Z9 k)(b:k=.cell∨k=.free):(x,NameKind.free)∈scope.names∨(x,NameKind.cell)∈scope.names:=by
 have m:=LJ h;obtain⟨⟨n,c⟩,a,e⟩:=qC4.mp m;dsimp only at e;split at e
 .simp_all
 .cases e;rcases b with rfl|rfl
  .exact .inr a
  .exact .inl a
theorem SK:∀(f:List (Str×vD)) (h:jL) (acc:List (Str×yR)) {x:Str}{c:yR},(wH h.objs.size f acc).lookup x=Z9 c ->
  ((x,NameKind.cell)∈f/\h.objs.size<=c/\(lT h f).IsCell c Z8)∨((x,NameKind.cell)∉f/\acc.lookup x=Z9 c)
 |[],h,acc,x,c,e=>.inr ⟨by simp,e⟩
 |(n,k)::r,h,acc,x,c,e=>by
  unfold wH at e;unfold lT;by_cases hk:(k == NameKind.cell)=Z7
  .rw[if_pos hk]at e ⊢;have g:=by simpa using hk
   rw[<- qG5 h { cls:=.type "cell",data:=.cell Z8 }]at e;rcases SK r _ _ e with⟨b,a,i⟩| ⟨b,a⟩
   .exact .inl ⟨qC5 _ b,by rw[qG5]at a;lia,i⟩
   .rw[qD8]at a;cases d:x == n with
    |true =>
     rw[d]at a;cases a;have:=by simpa using d
     subst this;subst g;exact .inl ⟨qE2 ..,qA6 _,_,fZ _ _ _ _ (qA9 _ rfl),rfl⟩
    |false =>
     rw[d]at a;refine .inr ⟨λz=>?_,a⟩;rcases qB0.mp z with z|z
     .cases z;simp at d
     .exact b z
  .rw[if_neg hk]at e ⊢;rcases SK r h acc e with⟨b,a,i⟩| ⟨b,a⟩
   .simp_all
   .refine .inr ⟨λz=>?_,a⟩;rcases qB0.mp z with z|z
    .cases z;exact hk rfl
    .exact b z
theorem LI:∀(g:List (Str×vD)) (n:Nat) (acc:List (Str×yR)),(∀x c,acc.lookup x=Z9 c->c<n)->(∀x y c,acc.lookup x=Z9 c->acc.lookup y=Z9 c->x=y) ->
  ∀x y c,(wH n g acc).lookup x=Z9 c->(wH n g acc).lookup y=Z9 c->x=y
 |[],n,acc,hb,hi=>hi
 |(m,k)::r,n,acc,hb,hi=>by
  unfold wH;split
  .refine LI r (n+1) _ (λx c e=>?_) λx y c d a=>?_
   .rw[qD8]at e;cases b:x == m with
    |true=>rw[b]at e;cases e;exact qL3 _
    |false=>rw[b]at e;exact qF1 (hb x c e)
   .rw[qD8]at d a;cases b:x == m with
    |true =>
     rw[b]at d;cases d;cases f:y == m with
     |true=>rw[show x=m by simpa using b,show y=m by simpa using f]
     |false=>rw[f]at a;exact absurd (hb y _ a) (qH3 _)
    |false =>
     rw[b]at d;cases f:y == m with
     |true=>rw[f]at a;cases a;exact absurd (hb x _ d) (qH3 _)
     |false=>rw[f]at a;exact hi x y c d a
  .exact LI r n acc hb hi
theorem Os:∀(a:List (Str×vD)) (n:Nat) (acc:List (Str×yR)) {x:Str},((x,NameKind.cell)∈a∨∃c,acc.lookup x=Z9 c)->∃c,(wH n a acc).lookup x=Z9 c
 |[],n,acc,x,h=>by
  rcases h with h|h
  .cases h
  .exact h
 |(m,k)::r,n,acc,x,h=>by
  unfold wH;split
  .refine Os r _ _ ?_;by_cases b:x=m
   .simp_all
   .have d:(x == m)=Z5:=by simpa using b
    rcases h with h|⟨c,h⟩
    .simp_all
    .exact .inr ⟨c,by rw[qD8,d];exact h⟩
  .rename_i hk;refine Os r _ _ ?_;rcases h with h|h
   .rcases qB0.mp h with h|h
    .cases h;exact absurd rfl hk
    .exact .inl h
   .exact .inr h
theorem xU{E:yL}
  (i:Q (newEnv scope s.heap.objs.size a (wH (s.heap.push { cls:=.type "dict",data:=.dict #[] }).objs.size scope.names b) d Z8 .none (Z9 c) uC) { s with heap:=lT (s.heap.push { cls:=.type "dict",data:=.dict #[] }) scope.names }) :
  jC M A (dE scope a b [] d Z8 .none (Z9 c)) Q E s:=by refine yO (wpAny_alloc ?_);refine yO (wpAny_layCells _ (λh e f=>by cases g:e == NameKind.cell<;>simp[g]) _ _ _ _ ?_);exact yO (yP (yP i))
section
variable {X:Cx}{pins:yD}{Z:St}{H:Hp}{s:yQ}{scope:wB}{N:yH}{C:yR}{ex:yC}
structure RN(X:Cx)(scope:wB)(N:yH)(k:Nat)(js:List Nat):Prop where
 calm:X.calm=Z7
 kind:scope.kind=.function
 cell:∀x,(x,NameKind.cell)∈scope.names->scope.names.lookup x=Z9 .cell
 free:∀x,(x,NameKind.free)∈scope.names->(X.env.kindOf x=Z9 .cell∨X.env.kindOf x=Z9 .free)
 names:∀x∈scope.names,x.2=.local->scope.names.lookup x.1=Z9 .local
 len:N.length=k+js.length
 js:∀i j,js[i]?=Z9 j->∃x,N[k+i]?=Z9 x/\X.N[j]?=Z9 x/\scope.names.lookup x=Z9 .free/\QX X.env.scope x
theorem TN(h:(Yb env a []).lookup x=Z9 c):env.cells.lookup x=Z9 c:=Ot _ _ (λ_ _ z=>by cases z) x c h
theorem ZP.compOk(I:ZP X pins Z H s)(hk:scope.kind=.function)(n:∀x,(x,NameKind.free)∈scope.names->∃c,X.env.cells.lookup x=Z9 c){h:jL}(i:h.objs.size=C+1)(g:s.heap.objs.size<=C)(a:∀b∈ex,Yd X pins H b)(f:∀b∈ex,b<s.heap.objs.size):
  (WJ X scope N (wH h.objs.size scope.names (Yb X.env scope.names [])) s H C ex).Ok where
 mod:=I.ok.mod
 kind:=hk
 glob:=I.ok.glob
 blt:=I.ok.blt
 above:=g
 inj:=LI _ _ _ (λx c e=>by
  obtain⟨v,q⟩:=I.cell x c (TN e);rw[i];exact qF1 (qC0 q.lt g)) λx y c l p=>I.ok.inj x y c (TN l) (TN p)
 has:=λx h=>by
  have m:=GO (scope:=scope) (env:=X.env) (x:=x) (k:=.cell);have r:=GO (scope:=scope) (env:=X.env) (x:=x) (k:=.free);have q:(x,NameKind.free)∈scope.names∨(x,NameKind.cell)∈scope.names:=by
   rcases h with h|h
   .exact m h (.inl rfl)
   .exact r h (.inr rfl)
  refine Os _ _ _ ?_;rcases q with q|q
  .exact .inr (QH _ _ x (.inr ⟨q,n x q⟩))
  .exact .inl q
 cab:=λx c h e=>by
  rcases SK _ _ _ e with⟨_,q,_⟩| ⟨q,_⟩
  .show s.heap.objs.size<=c;lia
  .exact absurd (of_decide_eq_true h) q
 hd:=I.ok.hd
 frames:=I.ok.frames
 stk:=.inl rfl
 exf:=λb d=>⟨λz=>by
   have j:=z;exact qH3 _ (qC0 (f b d) (by rw[j];exact g)),λx c e=>by
   rcases SK _ _ _ e with⟨_,q,_⟩| ⟨_,q⟩
   .exact qK1 (qC0 (f b d) (qD0 g (qI5 (qC0 (by rw[i];exact qL3 C) q))))
   .exact(a b d).2.2.2.2.1 x c (TN q)⟩
 bs:=I.bs
 bsz:=qD0 I.ok.bsz I.sz
 noex:=λb o e d=>by
  rcases(a b d).2.2.2.1 with z|z
  .exact I.ok.noex b o e z
  .exact qH3 _ (qC0 (qB3 e) (qD0 I.ok.bsz z))
 exfs:=λb d z=>by
  rcases qB0.mp (I.stkSub b z)with q|q
  .exact(a b d).2.1 q
  .exact(a b d).2.2.1 q
 funs:=I.stack
 frf:=I.stkFree
theorem xT{d:yE}(f:Nat->yQ->Prop)
  (g:∀n s,f n s->jC (yW prog w) A (mY j) (λr l=>match r with
   |none=>R (.ok .next) l
   | some v=>jC (yW prog w) A (mK a j v) (λ_ i=>jC (yW prog w) A (lF a env v) (λ_ t =>
     jC (yW prog w) A (forIn d Z7 λc r=>if r=Z7 then do let ok <- uT c env (wE c env);pure (ForInStep.yield ok)else pure (ForInStep.yield r)) (λok o =>
      if ok=Z7 then jC (yW prog w) A (wE elt env) (λx q =>
       jC (yW prog w) A (call (.builtin "list.append") [acc,x]) (λ_ y=>∃m,m<n/\f m y) (uP (yW prog w) A env λe s'=>R (.error e) s') q) (uP (yW prog w) A env λe s'=>R (.error e) s') o
      else ∃m,m<n/\f m o) (uP (yW prog w) A env λe s'=>R (.error e) s') t) (uP (yW prog w) A env λe s'=>R (.error e) s') i) (uP (yW prog w) A env λe s'=>R (.error e) s') l) (uP (yW prog w) A env λe s'=>R (.error e) s') s)
  (n:Nat) (h:f n s) :
  wJ (yW prog w) A (.compLoop (.ListComp elt [⟨a,iter,d,0⟩] scope pos) 0 j acc env) R s:=by
 refine codeAny_loop rfl f (λn s z=>?_) n h;show jC _ A ((compTurn (.ListComp elt [⟨a,iter,d,0⟩] scope pos) 0 j acc env).onRaise (λx=>do noteFrame x env;theTreesLotGoes x)) _ _ s;refine wpAny_noted ?_;rw[compTurn_list];refine yO (dR (yO (jY (g n s z) (λr l p=>?_) λ_ _ b=>b)));cases r with
 |none=>exact yP p
 |some v =>
  refine yO (jY p (λ_ i k=>?_) λ_ _ b=>b);refine yO (jY k (λ_ t D=>yO (jY D (λok o u=>?_) λ_ _ b=>b)) λ_ _ b=>b);cases ok with
  |false=>exact yP ⟨rfl,u⟩
  |true =>
   exact yO (yO (jY u (λx q E=>yO (jY E (λ_ y B=>yP (yP ⟨rfl,B⟩)) λ_ _ b=>b)) λ_ _ b=>b))
def SJ(X:Cx)(b:yE)(t:TT):Prop :=
 ∀(a:yD) (s:yQ) (Z:St) (H:Hp) (Q:Bool->Hp->Prop),ZP X a Z H s->t Z H Q ->
  jC (yW X.prog X.w) X.A (forIn b Z7 λc r=>if r=Z7 then do let ok <- uT c X.env (wE c X.env);pure (ForInStep.yield ok)else pure (ForInStep.yield r)) (TP X a Z Q) X.xe s
def LH:TT:=λ_ H Q=>Q Z7 H
theorem xS:SJ X [] LH:=λa s Z H Q I h=>wpAny_tests_nil ⟨H,I,h⟩
theorem xR(h:PT X c t):SJ X [c] t:=λa s Z H Q I b=>wpAny_tests_one (h a s Z H Q I b)
def LG(d:It)(D:yR)(W:Nat->Nat->List V->Hp->Prop)(Q:Hp->Prop)(g:TG)(tc:TT)(n:TE)(j:St)(i m:Nat)(ys:List V)(c:Hp):Prop :=
 c D=Z9 (.lst ys)/\((d.stop i c/\Q c)∨(d.go i c/\ys.length<jF/\∀x k,d.yld i c x k->g x j k fun e l=>TQ j e/\tc e l λb f =>
   if b=Z7 then n e f λy h=>h D=Z9 (.lst ys)/\∃a,a<m/\W (i+1) a (ys++[y]) (ZD h D (.lst (ys++[y])))else ∃a,a<m/\W (i+1) a ys f))
def WB(k:Nat)(a:List Nat)(Z:St):St:=qL2 k Option.none++a.map λj=>(Z[j]?).getD Option.none
def LF(e:TI)(k:Nat)(d:List Nat)(g:TG)(tc:TT)(h:TE):TE:=fun Z H Q =>
 e Z H λf a=>∀D,a D=Z8->∃W:Nat->Nat->List V->Hp->Prop,(∃m,W 0 m [] (ZD a D (.lst [])))/\∀i m c b,W i m c b->LG f D W (Q (.ref D)) g tc h (WB k d Z) i m c b
theorem GN(h:(WB k a Z)[i]?=Z9 (Z9 v)):∃j,k<=i/\a[i - k]?=Z9 j/\Z[j]?=Z9 (Z9 v):=by
 unfold WB at h;by_cases b:i<k
 .rw[qA8 (by simpa using b),qK4]at h;simp at h
 .rw[qA2 (by simpa using b),qJ5,qB1]at h;cases e:a[i - k]? with
  |none=>rw[e]at h;simp at h
  |some j =>
   rw[e]at h;simp only[qO7,Option.some.injEq]at h;refine⟨j,by lia,rfl,?_⟩;cases q:Z[j]? with
   |none=>rw[q]at h;simp at h
   |some z =>
    rw[q]at h;simp at h;rw[h]
theorem GM(h:scope.names.lookup x=Z9 .free):(uO scope env).names.lookup x=Z9 .cell∨(uO scope env).names.lookup x=Z9 .free:=by
 unfold uO;dsimp only;generalize scope.names=ns at h
 induction ns with
 |nil=>cases h
 |cons a r c =>
  obtain⟨n,k⟩:=a;rw[qD8]at h;rw[qB8];cases b:x == n with
  |true =>
   rw[b]at h;cases h;split
   .exact .inl (by rw[qD8,b])
   .exact .inr (by rw[qD8,b])
  |false =>
   rw[b]at h;split
   .rw[qD8,b];exact c h
   .rw[qD8,b];exact c h
inductive SI(Y:Cx)(Z0:St)(tn:Nat->jL->Prop)(fp:yC)(W:Nat->Nat->List V->Hp->Prop)(n:Nat)(s:yQ):Prop
 |mk (i:Nat) (ys:List V) (H:Hp) (I:ZP Y [] Z0 H s) (st:tn i s.heap) (fr:∀b∈fp,H b=Z8) (w:W i n ys H)
theorem xQ{Y:Cx}
  (hc:Y.calm=Z7) (hx:Y.xe=λ_ _=>False) (T:Xb Y.prog Y.w Y.K M JJ j it J) (a:∀K,(∀b∈j,K b=Z8)->∀b∈j,Yd Y [] K b)
  (hg:PG Y M g) (htc:SJ Y l tc) (hte:PE Y elt te) (G:∀i m ys H2,W i m ys H2->LG JJ D W Q g tc te t i m ys H2) (fin:∀f A,ZP Y [] t f A->Q f->R (.ok .next) A)
   (h0:SI Y t J j W n s) (U:J 0 s.heap):wJ (yW Y.prog Y.w) Y.A (.compStart (.ListComp elt [⟨M,iter,l,0⟩] scope pos) 0 (.ref it) (.ref D) Y.env) R s:=by
 have c:wJ (yW Y.prog Y.w) Y.A (.compLoop (.ListComp elt [⟨M,iter,l,0⟩] scope pos) 0 (.ref it) (.ref D) Y.env) R s:=by
  refine xT (SI Y t J j W) ?_ n h0;rintro n s4 ⟨i,ys,f,I4,v,B,w4⟩;obtain⟨hD4,hd⟩:=G i n ys f w4;rcases hd with⟨w,q⟩| ⟨go,hz,step⟩
  .refine Zq (T.done Y rfl rfl rfl hc i [] s4 _ f _ I4 (a _ B) v w) λr A ⟨hr,I5⟩=>?_;subst hr;exact fin f A I5 q
  .refine Zq (T.item Y rfl rfl rfl hc i [] s4 _ f _ I4 (a _ B) v go) λr A ⟨u,hr,h5⟩=>?_;subst hr;refine Zq h5 λ_ s6 ⟨x,H6,I6,r6,y6,h,fr6⟩=>?_;have I6':=I6.pinned (a _ fr6) (T.obj _ _ h);have back:∀{k:St}{p:Hp}{s7:yQ}{m:Nat}{S:List V},ZP Y ([]++QT j s6.heap) k p s7->TQ t k->W (i+1) m S p->SI Y t J j W m s7:=λ{k p s7 m S} F hw w7=>by refine⟨i+1,S,p,F.unpinned.weak hw.1 hw.2,T.keep _ _ _ h λb L o e=>(F.pin (b,o) (qD1 _ (qD1 _ (QS L e)))).1,λb L=>?_,w7⟩;obtain⟨o,e,d⟩:=T.obj _ _ h b L;exact(F.pin (b,o) (qD1 _ (qD1 _ (QS L e)))).2.1
   have O:∀{E:yL} e s',Y.xe e s'->E e s':=λe s' z=>by rw[hx]at z;exact z.elim
   refine jY (hg _ s6 _ H6 x u _ I6' r6 (step x H6 y6)) (λ_ s7 ⟨k,p,F,I,q7⟩=>?_) O;refine jY (htc _ s7 k p _ F q7) (λb s8 ⟨H8,I8,q8⟩=>?_) O;cases b with
   |false =>
    obtain⟨P,hm,w8⟩:=(by simpa using q8)
    exact⟨P,hm,back I8 I w8⟩
   |true =>
    refine jY (hte _ s8 k H8 _ I8 q8) (λy s9 ⟨vy,H9,I9,r9,q9⟩=>?_) O;obtain⟨hD9,P,hm,w9⟩:=q9;refine jY (GX _ s9 k H9 (.ref D) [vy] (.ref D) [y] (λ_ K=>W (i+1) P (ys++[vy]) K) I9 rfl (.cons r9 .nil) ⟨_,ys,vy,rfl,rfl,hD9,hz,w9⟩) (λz s10 ⟨_,H10,I10,_,q10⟩=>?_) O;exact⟨P,hm,back I10 I q10⟩
 exact codeAny_compStart_list c (T.self _ 0 _ _ _ U c)
theorem xP{O:yE}{V:Nat->jL->Prop}{RR:yT->yR->uD->yQ->Prop}
  (n:RN X scope N k js) (f:ZP X pins Z E s2) (T:Xb X.prog X.w X.K S JJ Q it V) (G:V 0 s2.heap) (f2:∀b∈Q,Yd X pins E b)
  (h:∀(cl:List (Str×yR)) (C:yR) (B:yQ),s2.heap.objs.size<=C->s2.heap.objs.size≠C->ZP (WJ X scope N cl s2 E C Q) [] (WB k js Z) (ZD E s2.heap.objs.size (.lst [])) B->V 0 B.heap ->
   wJ (yW X.prog X.w) X.A (.compStart (.ListComp elt [⟨S,iter,O,0⟩] scope pos) 0 (.ref it) (.ref s2.heap.objs.size) (compEnvC scope cl C X.env)) (RR (.ref s2.heap.objs.size) C) B) :
  jC (yW X.prog X.w) X.A (newList []) (λacc s3=>jC (yW X.prog X.w) X.A (dE scope X.env.globals (Yb X.env scope.names []) [] X.env.qual Z8 .none (Z9 X.env)) (λg B =>
   wJ (yW X.prog X.w) X.A (.compStart (.ListComp elt [⟨S,iter,O,0⟩] scope pos) 0 (.ref it) acc { g with scope:=uO scope X.env }) (RR acc g.locals) B) X.xe s3) X.xe s2:=by
 have l:=λx hx=>f.ok.has x (n.free x hx);refine jS (xU ?_);dsimp only;generalize hP:s2.heap.push { cls:=.type "list",dict:=Z8,data:=.seq ([]).toArray }=P;have J:P.objs.size=s2.heap.objs.size+1:=by rw[<- hP,qG5]
 have M:s2.heap.objs.size≠P.objs.size:=by rw[J];exact qB7 (qL3 _)
 have a:s2.heap.objs.size<=P.objs.size:=by rw[J];exact qQ5 _
 generalize hP2:P.push { cls:=.type "dict",data:=.dict #[] }=P2;have D:P2.objs.size=P.objs.size+1:=by rw[<- hP2,qG5]
 have t:(lT P2 scope.names).Ns P.objs.size (λ_=>Z8):=(hP2▸Heap.Ns.new P (.type "dict")).keeps (fZ _ _);have d:∀b o,s2.heap.get? b=Z9 o->(lT P2 scope.names).get? b=Z9 o:=λb o e=>fZ _ _ _ _ (hP2▸qA1 _ (hP▸qA1 _ e));have I:(lT P2 scope.names).get? s2.heap.objs.size=Z9 { cls:=.type "list",dict:=Z8,data:=.seq ([]).toArray }:=fZ _ _ _ _ (hP2▸qA1 _ (hP▸qA9 _ rfl));have Y:∀b∈Q,b<s2.heap.objs.size:=λb hb=>by obtain⟨o,e,_⟩:=T.obj _ _ G b hb;exact qB3 e
 have ok:=f.compOk (N:=N) n.kind l D a f2 Y;refine h (wH P2.objs.size scope.names (Yb X.env scope.names [])) P.objs.size _ a M ?_ (T.keep _ _ _ G λb _ o e=>d b o e);refine⟨ok,rfl,f.bare,Un.laid d (qA6 _) (f.hok.fresh (qA6 _)),⟨_,t,λi x v e1 e2 e3=>?_⟩,λx c e=>?_,?_,λx c e=>?_,λp hp=>(by cases hp),f.hok.laid d (qA6 _) ?_,?_⟩
 .obtain⟨j,hki,hj,hv⟩:=GN e2;obtain⟨y,n1,n2,W,n4⟩:=n.js _ j hj;have ei:k+(i - k)=i:=by lia
  rw[ei]at n1;have w:N[i]?=Z9 x:=e1;rw[n1]at w;cases w;obtain⟨m,hn,hl⟩:=f.loc;obtain⟨u,r,lk⟩:=hl j x v n2 hv n4;refine⟨u,r,?_⟩;have mem:=LJ W;rcases lk with⟨F,_⟩| ⟨F,c,ec,ce⟩
  .rcases n.free x mem with z|z
   .rw[z]at F;cases F
   .rw[z]at F;cases F
  .obtain⟨c0,L⟩:=Os scope.names P2.objs.size _ (.inr (QH scope.names [] x (.inr ⟨mem,c,ec⟩)));have U:c0=c:=by
    rcases SK _ _ _ L with⟨q,_⟩| ⟨_,q⟩
    .have:=n.cell x q;rw[W]at this;cases this
    .have:=TN q;rw[ec]at this;cases this;rfl
   subst U;refine .inr ⟨GM W,c0,L,?_⟩;obtain⟨o,A,R⟩:=ce;exact⟨o,d _ _ A,R⟩
 .rcases SK _ _ _ e with⟨_,_,q⟩| ⟨_,q⟩
  .exact⟨_,q⟩
  .obtain⟨v,o,A,R⟩:=f.cell x c (TN q);exact⟨v,o,d _ _ A,R⟩
 .show ZD E s2.heap.objs.size (.lst []) P.objs.size=Z8;rw[YI (Ne.symm M)];exact f.hok.fresh a
 .rcases SK _ _ _ e with⟨_,q,_⟩| ⟨_,q⟩
  .have K:s2.heap.objs.size<c:=qC0 (by lia) q;rw[YI (qK1 K)];exact f.hok.fresh (qI5 K)
  .obtain⟨v,o,A,R⟩:=f.cell x c (TN q);rw[YI (qB7 (qB3 A))];exact f.freeC x c (TN q)
 .exact⟨qC6 _,[],_,.nil,I⟩
 .unfold WB;rw[qB9,qJ5,qA0];exact n.len.symm
theorem GL{K:yR}{z:yT->yR->uD->yQ->Prop}{Q:V->Hp->Prop}
  (J:RN X scope N k w) (F:ZP X pins Z a s2) (T:Xb X.prog X.w X.K v B n K E) (j:E 0 s2.heap) (I:∀b∈n,Yd X pins a b)
  (U:∀cl s H C ex,PG (WJ X scope N cl s H C ex) v g) (x:∀cl s H C ex,SJ (WJ X scope N cl s H C ex) l tc) (y:∀cl s H C ex,PE (WJ X scope N cl s H C ex) elt G)
  (L:∀D,a D=Z8->∃W:Nat->Nat->List V->Hp->Prop,(∃m,W 0 m [] (ZD a D (.lst [])))/\∀i m ys a,W i m ys a->LG B D W (Q (.ref D)) g tc G (WB k w Z) i m ys a)
  (fin:∀cl C r t,s2.heap.objs.size<=C->s2.heap.objs.size≠C->ZP (WJ X scope N cl s2 a C n) [] (WB k w Z) r t->Q (.ref s2.heap.objs.size) r->z (.ref s2.heap.objs.size) C (.ok .next) t) :
  jC (yW X.prog X.w) X.A (newList []) (λacc S=>jC (yW X.prog X.w) X.A (dE scope X.env.globals (Yb X.env scope.names []) [] X.env.qual Z8 .none (Z9 X.env)) (λc A =>
   wJ (yW X.prog X.w) X.A (.compStart (.ListComp elt [⟨v,iter,l,0⟩] scope pos) 0 (.ref K) acc { c with scope:=uO scope X.env }) (z acc c.locals) A) X.xe S) X.xe s2:=by obtain⟨W,⟨m0,w0⟩,h⟩:=L s2.heap.objs.size (F.hok.fresh (qA6 _));refine xP J F T j I λcl C A O P u f=>?_;refine xQ (Y:=WJ X scope N cl s2 a C n) J.calm rfl T (λH' M b d=>⟨M b d,(u.ok.exf b d).1,u.ok.exfs b d,.inl d,(u.ok.exf b d).2,λp R=>by cases R⟩) (U _ _ _ _ _) (x _ _ _ _ _) (y _ _ _ _ _) h (λr t I5 q=>fin cl C r t O P I5 q) ⟨0,[],_,u,f,λb d=>?_,w0⟩ f;obtain⟨o,e,_⟩:=T.obj _ _ j b d;rw[YI (qB7 (qB3 e))];exact(I b d).1
theorem xO(A:RN X scope N k J)(hi:PI X B iter O)
  (hg:∀cl s H C ex,PG (WJ X scope N cl s H C ex) B g) (D:∀cl s H C ex,SJ (WJ X scope N cl s H C ex) w tc) (G:∀cl s H C ex,PE (WJ X scope N cl s H C ex) elt P)
  (hs:∀x,wT iter X.env x=pure x:=by intro _;rfl):PE X (.ListComp elt [⟨B,iter,w,0⟩] scope pos) (LF O k J g tc P):=by
 intro r s Z H Q I h;refine lI rfl hs (GP λx i=>I.ok.has x (A.free x i)) A.kind A.names (Zq (hi r s Z H _ I h) λv s1 V=>Zq V λitv M W=>?_);obtain⟨it,fp,tn,JJ,H2,e,L,T,F,t,R⟩:=W;subst e;refine GL A L T F t hg D G R λcl C K s5 l hDC j q=>?_;obtain⟨m,S,_⟩:=id j.loc;have p:K C=Z8:=j.free;refine⟨m,S,λY d=>⟨.ref M.heap.objs.size,K,?_,rfl,q⟩⟩;have E:∀b o,M.heap.get? b=Z9 o->b≠C:=λb o e=>qB7 (qC0 (qB3 e) l);refine L.call' (s':={ s5 with heap:=Y }) j.os ?_ (λb u e=>?_) j.bare (λb f=>⟨(t b f).2.2.2.1,(t b f).2.1,(t b f).2.2.2.2.1,(t b f).2.2.2.2.2⟩)
 .have U:=j.base;exact⟨λb o e n f i=>(d.2 b (E b o e)).trans (U.keep b o e n f i),λb o e n f i=>by
    obtain⟨sl,z⟩:=U.slot b o e n f i;exact⟨sl,(d.2 b (E b o e)).trans z⟩,U.free,λb o e i=>by
    obtain⟨o',z⟩:=U.there b o e i;exact⟨o',(d.2 b (E b o e)).trans z⟩,U.tups,U.frzs,U.tbls⟩
 .refine(j.hok b u e).stay (λc w' a y=>(d.2 c ?_).trans y) (λ_ y=>y) λ_ _ y=>y;rintro rfl;rcases a with rfl|a
  .rw[p]at e;cases e
  .rw[p]at a;cases a
end
theorem LD(h:H p=Z8)(o:HO):XM H (ZD H p o):=λb u q=>by rw[YI (UO q h)];exact q
theorem XM.tup{K:yS}(e:XM H b)(h:Zn K H a xs):Zn K b a xs:=by
 rcases h with(h|⟨o,h⟩)| h
 .exact .inl (.inl (e _ _ h))
 .exact .inl (.inr ⟨o,e _ _ h⟩)
 .exact .inr h
section
variable {X:Cx}{pins:yD}{Z:St}{H:Hp}{s:yQ}
theorem ZP.yields{wr:yC}{T:yR}(I:ZP X pins Z H s)(h:∀b∈wr,Yd X pins H b)(k:∀b o,b∉wr->s.heap.get? b=Z9 o->h'.get? b=Z9 o)
  (l:s.heap.objs.size<=T) (r:ZM xs d) (p:xs.length<=jF) (ht:dQ h' T d.toArray):ZP X pins Z (ZD H T (.tup xs)) { s with heap:=h',toks:=tk }:=by
 have m:∀b o,s.heap.get? b=Z9 o->b≠T:=λb o e=>qB7 (qC0 (qB3 e) l);have g:∀b u,H b=Z9 u->b≠T:=λb u e=>qB7 (qC0 (I.hok.lt e) l);have j:∀b u,H b=Z9 u->b∉wr:=λb u e a=>by rw[(h b a).1]at e;cases e
 refine I.call' (s':={ s with heap:=h',toks:=tk }) rfl ⟨λb o e n _ f=>k b o f e,λb o e n _ f=>⟨o.slots,k b o f e⟩,λb o e n _=>?_,λb o e f=>⟨o,k b o f e⟩,λb t e=>?_,λb o u e=>?_,λb w e=>⟨#[],?_⟩⟩ (λb u e=>?_) I.bare
  (λb a=>⟨(h b a).2.2.2.1,(h b a).2.1,(h b a).2.2.2.2.1,(h b a).2.2.2.2.2⟩)
 .rw[YI (m b o e)];exact n
 .rw[YI (g b _ e)];exact e
 .rw[YI (g b _ e)];exact e
 .rw[YI (g b _ e),e];simp
 .by_cases a:b=T
  .subst a;rw[Xt]at e;cases e;exact⟨p,d,r,ht⟩
  .rw[YI a]at e;refine(I.hok b u e).stay (λc v i q=>k c v ?_ q) (λc q=>?_) λc t q=>?_
   .rcases i with rfl|i
    .exact j _ _ e
    .exact j _ _ i
   .rw[YI (g c _ q)];exact q
   .rw[YI (g c _ q)];exact q
theorem ZP.turnedL{wr:yC}(I:ZP X pins Z H s)(f:∀b∈wr,Yd X pins H b)(k:∀b o,b∉wr->s.heap.get? b=Z9 o->h'.get? b=Z9 o):ZP X pins Z H { s with heap:=h',toks:=tk }:=by
 have h:∀b u,H b=Z9 u->b∉wr:=λb u e a=>by rw[(f b a).1]at e;cases e
 refine I.call' (s':={ s with heap:=h',toks:=tk }) rfl ⟨λb o e n _ d=>k b o d e,λb o e n _ d=>⟨o.slots,k b o d e⟩,λb o e n _=>n,λb o e d=>⟨o,k b o d e⟩,λb i e=>e,λb o u e=>e,λb j e=>⟨#[],by rw[e];simp⟩⟩ (λb u e=>?_) I.bare
  (λb a=>⟨(f b a).2.2.2.1,(f b a).2.1,(f b a).2.2.2.2.1,(f b a).2.2.2.2.2⟩)
 refine(I.hok b u e).stay (λc v g q=>k c v ?_ q) (λc q=>q) λc i q=>q;rcases g with rfl|g
 .exact h _ _ e
 .exact h _ _ g
end
section
variable {X:Cx}
theorem xN:YG X (.type "range") (λc H Q=>∃i j:Int,c=[.int i,.int j]/\∀p,H p=Z8->Q (.ref p) (ZD H p (.rng i j))):=by intro a s Z H k g Q I r h;obtain⟨i,j,rfl,q⟩:=h;obtain⟨u,v,rfl,d,f⟩:=QM r;obtain⟨t,rfl⟩:=d;obtain⟨l,rfl⟩:=f;refine call_range_2 ⟨.ref s.heap.objs.size,_,I.laid (λb o e=>qA1 _ e) (qA6 _) ?_,rfl,q _ (I.hok.fresh (qA6 _))⟩;exact⟨_,_,_,qA9 _ rfl⟩
theorem xM:YG X (.type "range") (λc H Q=>∃j:Int,c=[.int j]/\∀p,H p=Z8->Q (.ref p) (ZD H p (.rng 0 j))):=by intro a s Z H g f Q I r h;obtain⟨j,rfl,q⟩:=h;obtain⟨u,rfl,d⟩:=XA r;obtain⟨t,rfl⟩:=d;refine call_range_1 ⟨.ref s.heap.objs.size,_,I.laid (λb o e=>qA1 _ e) (qA6 _) ?_,rfl,q _ (I.hok.fresh (qA6 _))⟩;exact⟨_,_,_,qA9 _ rfl⟩
def RM(lo:Int)(n:Nat):List V:=(List.range n).map λk=>V.int (lo+(k:Nat))
theorem xK{lo:Int}{acc:yJ}(h:ItemsOf (λi v=>∃t,v=.int (lo+i*1) t) acc n):ZM (RM lo n) acc.toList:=by
 obtain⟨f,h⟩:=h;have c:∀k us lo,us.length=k->(∀i v,us[i]?=Z9 v->∃t,v=Value.int (lo+(i:Nat)) t)->ZM ((List.range k).map λj=>V.int (lo+(j:Nat))) us:=by
  intro k
  induction k with
  |zero=>intro us lo b _;cases us with
   |nil=>exact .nil
   |cons a r=>simp at b
  |succ k g =>
   intro us lo b d;cases us with
   |nil=>simp at b
   |cons a r =>
    rw[qM5,qB8,qC8];refine .cons ?_ ?_
    .obtain⟨t,e⟩:=d 0 a rfl;exact⟨t,e⟩
    .have:=g r (lo+1) (by simpa using b) λi v e=>by obtain⟨t,q⟩:=d (i+1) v (by simpa using e);exact⟨t,by rw[q];congr 1;lia⟩
     have e:((λj=>V.int (lo+(j:Nat)))∘Nat.succ)=λj=>V.int (lo+1+(j:Nat)):=by
      funext j;simp only[Function.comp];congr 1
      lia
     rw[e];exact this
 exact c n acc.toList lo (by simpa using f) λi v e=>by obtain⟨t,q⟩:=h i v (by simpa using e);exact⟨t,by rw[q,Int.mul_one]⟩
theorem xJ(z:X.calm=Z7):YG X (.type "list") (λf H Q=>∃p i j,f=[.ref p]/\H p=Z9 (.rng i j)/\-(2 ^ 62)<=i/\i<2 ^ 62/\-(2 ^ 62)<=j/\j<2 ^ 62/\(j - i).toNat<=1000/\∀l,H l=Z8->Q (.ref l) (ZD H l (.lst (RM i (j - i).toNat)))):=by
 intro c s Z H C B Q I r h;obtain⟨p,i,j,rfl,n,b1,d,x,A,b,q⟩:=h;obtain⟨u,rfl,k⟩:=XA r;cases k;obtain⟨t,u,v,e⟩:=(I.hok _ _ n)
 refine call_list_range (I.ok.hd z) (e) (small_one b1 d x A) (by rw[rangeSize_one];split<;>lia) (qD0 b (by decide)) λD E a y hk m g=>?_;have w:=xK g;refine⟨.ref s.heap.objs.size,_,I.laid (o:=.lst (RM i (j - i).toNat)) hk (qA6 _) ⟨?_,a.toList,y,w,by simpa using m⟩,rfl,q _ (I.hok.fresh (qA6 _))⟩;unfold RM;rw[qA0,qD4];exact qD0 b (by decide)
def xI:V->List V->Hp->VK->Prop:=λx b H Q=>∃(l:yR) (a:List V) (i:Nat) (y:V),x=.ref l/\b=[.int i,y]/\H l=Z9 (.lst a)/\a.length<1000/\i<=a.length/\Q .non (ZD H l (.lst (a.take i++y::a.drop i)))
theorem xH:GY X "list.insert" xI:=by
 intro g s Z H x w v u Q I o m h;obtain⟨l,B,i,y,rfl,rfl,f,D,A,q⟩:=h;cases o;obtain⟨C,d,rfl,k,p⟩:=m.two;obtain⟨t,rfl⟩:=k;obtain⟨z,a,n,r,j,e⟩:=I.lstM f;generalize hx:(i:Int)=x;have b:¬(!Builtin.List.listFitsIndex x)=Z7:=by rw[fitsIndex_both (by lia) (by lia)];exact qB4
 have c:a.toArray.size<=sizeLine:=by rw[qB5,<- j];exact z
 refine call_meets F.slot_list_insert ⟨_,e,rfl⟩ F.entry_list_insert (F.args_list_insert_3 _ _ _) (PySem.AutoSeq1.list_insert_list_int_val_1 l _ n x t d b c) ⟨e,?_⟩;refine⟨.non,_,I.lset (its':=a.take i++d::a.drop i) f e ?_ ((r.take i).append (.cons p (r.drop i))) ?_,rfl,q⟩
 .have hk:(if x<0 then(x+(a.toArray.size:Int)).toNat else min x.toNat a.toArray.size)=i:=by
   rw[if_neg (by lia),qB5]
   lia
  rw[hk];simp;exact qH1 (by rw[qH0];exact qA6 _)
 .rw[qB9,qC9,qE4,qH0];have:1000<=sizeLine:=by decide
  lia
theorem GK{bs:List Bool}(r:ZM (bs.map V.bl) c):TruthOf prog w A (λi v=>c.toArray[i]?=Z9 v) (λi=>bs.getD i Z5):=by
 intro i v s Q E k l;have a:=by simpa using k
 have f:i<bs.length:=by
  have m:=(qA5.mp a).1;have j:=r.length;rw[qA0]at j
  lia
 obtain⟨u,e,h⟩:=ZM.get r (by rw[qB1,qA3 f];rfl);rw[e]at a;cases a;have d:=h;subst d;have g:bs.getD i Z5=bs[i]:=by simp[qF4,f]
 have b:Q (bs.getD i Z5) s:=l;rw[g]at b;exact j7 b
theorem GJ(bs:List Bool):(List.range bs.length).all (λi=>bs.getD i Z5)=bs.all id:=by
 induction bs with
 |nil=>rfl
 |cons b r a =>
  rw[qC9,qM5,qL5,qP3,qL5];rw[<- a];rfl
theorem GI(bs:List Bool):(List.range bs.length).any (λi=>bs.getD i Z5)=bs.any id:=by
 induction bs with
 |nil=>rfl
 |cons b r a =>
  rw[qC9,qM5,qH5,qT6,qH5];rw[<- a];rfl
theorem xG(v:X.calm=Z7):YG X (.builtin "all") (λl H Q=>∃(p:yR) (bs:List Bool),l=[.ref p]/\YQ X.K H p (bs.map V.bl)/\Q (.bl (bs.all id)) H):=by
 intro k s Z H y x Q I r h;obtain⟨p,bs,rfl,t,q⟩:=h;obtain⟨u,rfl,m⟩:=XA r;cases m;obtain⟨c,j,d,B⟩:=I.list t;have f:p<s.heap.objs.size:=by obtain⟨_,e,_⟩:=d.isList;exact qB3 e
 have a:=j.length;rw[qA0]at a;refine call_all_walk (vF d.isList ?_);refine⟨s.heap.objs.size,_,[s.heap.objs.size],_,_,_,_,rfl,Walks.list (A:=X.A.in1) (I.ok.hd v) s.heap.objs.size p (qB7 f) c.toArray,⟨⟨_,qA9 _ rfl,rfl,rfl⟩,d.isList.push _⟩,GK j,λz n w=>?_⟩;have e:(List.range c.toArray.size).all (λi=>bs.getD i Z5)=bs.all id:=by rw[qB5,<- a];exact GJ bs
 rw[e];refine⟨.bl (bs.all id),H,?_,rfl,q⟩;exact I.kept (t':=n) λb o g=>w b o (by simp only[qB2];exact qB7 (qB3 g)) (qA1 _ g)
theorem xF(v:X.calm=Z7):YG X (.builtin "any") (λl H Q=>∃(p:yR) (bs:List Bool),l=[.ref p]/\YQ X.K H p (bs.map V.bl)/\Q (.bl (bs.any id)) H):=by
 intro k s Z H y x Q I r h;obtain⟨p,bs,rfl,t,q⟩:=h;obtain⟨u,rfl,m⟩:=XA r;cases m;obtain⟨c,j,d,B⟩:=I.list t;have f:p<s.heap.objs.size:=by obtain⟨_,e,_⟩:=d.isList;exact qB3 e
 have a:=j.length;rw[qA0]at a;refine call_any_walk (vF d.isList ?_);refine⟨s.heap.objs.size,_,[s.heap.objs.size],_,_,_,_,rfl,Walks.list (A:=X.A.in1) (I.ok.hd v) s.heap.objs.size p (qB7 f) c.toArray,⟨⟨_,qA9 _ rfl,rfl,rfl⟩,d.isList.push _⟩,GK j,λz n w=>?_⟩;have e:(List.range c.toArray.size).any (λi=>bs.getD i Z5)=bs.any id:=by rw[qB5,<- a];exact GI bs
 rw[e];refine⟨.bl (bs.any id),H,?_,rfl,q⟩;exact I.kept (t':=n) λb o g=>w b o (by simp only[qB2];exact qB7 (qB3 g)) (qA1 _ g)
theorem xE:YX X (jG .Is) (λx y H Q=>∃a b,x=.bl a/\y=.bl b/\Q (.bl (a == b)) H):=by intro c s Z H x y v u Q I e d h;obtain⟨a,b,rfl,rfl,q⟩:=h;cases e;cases d;exact is_bool ⟨.bl (a == b),H,I,rfl,q⟩
theorem xD:YX X (jG .IsNot) (λx y H Q=>∃a b,x=.bl a/\y=.bl b/\Q (.bl (a != b)) H):=by intro c s Z H x y v u Q I e d h;obtain⟨a,b,rfl,rfl,q⟩:=h;cases e;cases d;exact isnot_bool ⟨.bl (a != b),H,I,rfl,q⟩
end
section
variable {X:Cx}
def xC(K:yS):R2:=λx y H Q=>∃a b d e,x=.ref a/\y=.ref b/\H a=Z9 (.tup d)/\H b=Z9 (.tup e)/\d.length+e.length<=jF/\∀p c,XM H c->c p=Z9 (.tup (d++e))->Q (.ref p) c
theorem xB:YX X (jU .Add) (xC X.K):=by
 intro i s Z H x y v u Q I B D h;obtain⟨a,b,w,R,rfl,rfl,l,m,O,q⟩:=h;by_cases o:w=[]
 .subst o;cases B;cases D;obtain⟨G,M,J,_⟩:=I.tuple (Zn.of l);obtain⟨d,S,L,_⟩:=I.tuple (Zn.of m);have e:=(M.nil_iff).mpr rfl;subst e;obtain⟨⟨K,E,C,P⟩,t,A,n,z⟩:=id J;obtain⟨⟨r,k,data2,j⟩,f,g,F,c⟩:=id L;simp only at A z g c;subst A z g c;exact uL ⟨_,t,rfl⟩ ⟨_,f,rfl⟩ lS dS fK fG (wZ _ _)
   (tuple_addW0 a b ([]).toArray d.toArray n F E k P j (by simp)) ⟨t,f,⟨.ref b,H,I,rfl,q b H (XM.refl H) m⟩⟩
 .refine zr i s Z H (.ref a) (.ref b) v u Q I B D ⟨a,b,w,R,rfl,rfl,Zn.of l,Zn.of m,o,O,λe=>?_,λ_ p N=>q p _ (LD N _) Xt⟩;subst e;exact q a H (XM.refl H) (by rw[qG8];exact l)
theorem xA(xs:List V)(lo hi:yG)(h:HT.sIx xs.length 0 lo=0/\HT.sIx xs.length xs.length hi=xs.length):WX xs lo hi=xs:=by unfold WX;rw[h.1,h.2,qV5,Nat.sub_zero,qK5]
theorem xy{E:yL}{items:yJ}{lo hi:yG}{Q:yL}(ht:dQ s.heap t items)(hs:s.heap.IsSliceOf sl g f .none)(i:mB g lo)(k:mB f hi)
  (e:HT.sIx items.size 0 lo=0/\HT.sIx items.size items.size hi=items.size)
  (h:Q (.ref t) s):jC (yW prog w) A (fV (.ref t) (.ref sl)) Q E s:=by
 obtain⟨l,c,b,j⟩:=id hs;have d:s.TypeIs (.ref sl) "slice":=⟨l,c,b⟩
 unfold fV
 try with_reducible refine jP ?_
 refine yO (g7 ht.typeIs (by decide) ?_);refine yO (jM ht.typeIs jV
  (jK jV ht.typeIs gB ?_ (gK _ _)))
 show jC _ _ (Builtin.Tuple.tupleItemsOf (.ref t) >>= _) _ _ s;refine yO (dU ht ?_);refine yO (j9 d ?_);refine yO (HT.sliceApplied_gen hs i k ?_);have a:(((HT.sIx items.size 0 lo):Int) == 0&&(1:Int) == 1&&(HT.sIx items.size items.size hi - HT.sIx items.size 0 lo) == items.size)=Z7:=by rw[e.1,e.2];simp
 show jC _ _ (if(((HT.sIx items.size 0 lo):Int) == 0&&1 == 1&&(HT.sIx items.size items.size hi - HT.sIx items.size 0 lo) == items.size)=Z7 then _ else _) _ _ s;rw[if_pos a];refine yO (yO (j9 ht.typeIs (yP ?_)));exact yO (vR (yP ⟨_,rfl,yP h⟩))
def xx(K:yS):V->yG->yG->Hp->VK->Prop:=λx e d H Q=>∃a c,x=.ref a/\H a=Z9 (.tup c)/\∀p b,XM H b->b p=Z9 (.tup (WX c e d))->Q (.ref p) b
theorem xw:RQ X (xx X.K):=by
 intro d s Z H x v u t j g w Q I n k l m h;obtain⟨a,b,rfl,f,q⟩:=h;by_cases e:HT.sIx b.length 0 j=0/\HT.sIx b.length b.length g=b.length
 .cases n;obtain⟨i,r,ht,y⟩:=I.tuple (Zn.of f);have c:i.toArray.size=b.length:=by exact r.length.symm
  refine⟨"tuple",_,PyProof.Rows.slot_tuple_getitem.lookup,ht.typeIs,?_⟩;exact xy ht k l m (by rw[c];exact e) ⟨.ref a,H,I,rfl,q a H (XM.refl H) (by rw[xA b j g e];exact f)⟩
 .exact zv d s Z H (.ref a) v u t j g w Q I n k l m ⟨a,b,rfl,Zn.of f,e,λp o=>q p _ (LD o _) Xt⟩
end
structure RL(P:yZ)(w:jJ)(K:yS)(mg:Str->yF)(base:jL)(x:Str)(ps:yH)(k:Nat)(sp:Sp):Prop where
 ex:∃f fd,XU P w K mg base UK k f fd ps sp/\Ut K fd ps []/\dA K (.ref f)=Z7/\mg x=Z9 (.ref f)
section
variable {X:Cx}{a b c d:jH}{ta tb tc td:TE}{pos:Pos}
theorem xv{es:yE}{p:Pos}(C:RL X.prog X.w X.K X.mg X.base x ps k sp)(l:Zb k' X.A)(n:Gl X x)(m:PA X (e::es) t)(hk:k<=k':=by decide)(hdb:VN x:=by decide)
  (h:jO (e::es) X.env=(Z5,wE e X.env)::jO es X.env:=by rfl) (i:(fD pos (jO es X.env)).any (·.1)=Z5:=by rfl) :
  PE X (.Call (.Name x p) (e::es) [] pos) (L3 sp [] E0 t):=by obtain⟨f,q,F,o,g,j⟩:=C.ex;exact zL (hdb:=hdb) (he:=h) (hpl:=i) F (l.mono hk) n j g o .nil yi m
end
def TK(K:yS)(H b:Hp):Prop:=∀p a,Zn K H p a->Zn K b p a
theorem TK.refl(K:yS)(H:Hp):TK K H H:=λ_ _ h=>h
theorem TK.trans{K:yS}(a:TK K H c)(b:TK K c H2):TK K H H2:=λp d h=>b p d (a p d h)
theorem dT{p:Prop}[Decidable p](h:p):decide p=Z7:=decide_eq_true h
theorem xu:jQ "len"=Z9 (.builtin "len"):=by decide
theorem xt:jQ "range"=Z9 (.type "range"):=by decide
theorem LC:jQ "list"=Z9 (.type "list"):=by decide
theorem GH:jQ "tuple"=Z9 (.type "tuple"):=by decide
theorem xr:jQ "min"=Z9 (.builtin "min"):=by decide
theorem xq:jQ "max"=Z9 (.builtin "max"):=by decide
theorem xp:jQ "zip"=Z9 (.type "zip"):=by decide
theorem xo:jQ "isinstance"=Z9 (.builtin "isinstance"):=by decide
theorem xn:jQ "all"=Z9 (.builtin "all"):=by decide
theorem xm:jQ "any"=Z9 (.builtin "any"):=by decide
theorem GG:jQ "int"=Z9 (.type "int"):=by decide
theorem xl:jQ "bool"=Z9 (.type "bool"):=by decide
theorem xj:jQ "enumerate"=Z9 (.type "enumerate"):=by decide
theorem xi:jQ "str"=Z9 (.type "str"):=by decide
structure C4 where
 a:Int
 b:Int
 k:Int
 o:Int
def C4.ok(sw a:Int)(c:C4):Prop:=0<=c.a/\c.a<c.b/\c.b<a/\0<=c.k/\c.k<sw/\0<=c.o/\c.o<2
inductive UJ(K:yS)(H:Hp):V->String->Prop where
 |non:UJ K H .non "NoneType"
 |bl (x:Bool):UJ K H (.bl x) "bool"
 |int (i:Int):UJ K H (.int i) "int"
 |str (x:Str):UJ K H (.str x) "str"
 |tup {a:yR}{xs:List V} (e:Zn K H a xs):UJ K H (.ref a) "tuple"
 |lst {a:yR}{xs:List V} (e:YQ K H a xs):UJ K H (.ref a) "list"
 |dk {a:yR}{kvs:List (ZI×V)} (e:H a=Z9 (.dK kvs)):UJ K H (.ref a) "dict"
def Oq(t T:String):Bool:=t == T||(t == "bool"&&T == "int")
section
variable {X:Cx}
theorem xh{E:yL}{Z:St}{Q:yL}(I:ZP X k Z H s)(d:ZH x u)(ty:UJ X.K H x t)(e:W.kitOne X.K (.type t) c=Z9 b)(h:∀tk,Q (.bool b) { s with toks:=tk }):
  jC (yW X.prog X.w) A (call (.builtin "isinstance") [u,c]) Q E s:=by
 cases ty with
 |non=>cases (d);exact gG W.kitx_none I.kIn True.intro e (λz=>nomatch z) h
 |bl y=>cases (d);exact gG W.kitx_bool I.kIn True.intro e (λz=>nomatch z) h
 |int i=>obtain⟨t,q⟩:=(d);cases q;exact gG W.kitx_int I.kIn True.intro e (λz=>nomatch z) h
 |str y=>obtain⟨t,q⟩:=(d);cases q;exact gG W.kitx_str I.kIn True.intro e (λz=>nomatch z) h
 |@lst a r f =>
  cases (show u=Value.ref a from d);obtain⟨l,_,m,_⟩:=I.list f;obtain⟨o,g,j,_⟩:=m.isList;exact gG W.kitx_list I.kIn ⟨o,g,j⟩ e (λz=>nomatch z) h
 |@tup a r f =>
  cases (show u=Value.ref a from d);obtain⟨l,_,m,_⟩:=I.tuple f;obtain⟨o,g,j,_⟩:=m;exact gG W.kitx_tuple I.kIn ⟨o,g,j⟩ e (λz=>nomatch z) h
 |@dk a n f =>
  cases (show u=Value.ref a from d);obtain⟨_,_,w,_,p⟩:=(I.hok a _ f)
  obtain⟨o,B,v,g,j,_⟩:=p;exact gG W.kitx_dict I.kIn ⟨o,g,j.1⟩ e (λz=>nomatch z) h
theorem xg:YG X (.builtin "isinstance") (λc H Q=>∃x t T b,c=[x,.ty T]/\UJ X.K H x t/\W.kitOne X.K (.type t) (.type T)=Z9 b/\Q (.bl b) H):=by intro a s Z H j i Q I r h;obtain⟨x,t,T,b,rfl,ty,e,q⟩:=h;obtain⟨u,v,rfl,d,g⟩:=QM r;cases g;exact xh I d ty e λf=>⟨.bl b,H,I.tok f,rfl,q⟩
end
theorem xf(K:yS):(∀t∈["NoneType","bool","int","str","tuple","list","dict"],∀T∈["bool","int","tuple","list","str","dict"],W.kitOne K (.type t) (.type T)=Z9 (Oq t T)):=by intro t ht T a;simp only[qB0,qF0,or_false]at ht a;rcases ht with rfl|rfl|rfl|rfl|rfl|rfl|rfl<;>rcases a with rfl|rfl|rfl|rfl|rfl|rfl<;>rfl
mutual
inductive Rp(K:yS)(H:Hp)(a0:yR->Prop):V->vW->Prop where
 |non:Rp K H a0 .non .none
 |bl (b:Bool):Rp K H a0 (.bl b) (.bool b)
 |int (i:Int):Rp K H a0 (.int i) (.int i)
 |str (x:Str):Rp K H a0 (.str x) (.str x)
 |tup {p:yR}{xs:List V}{ds:List vW} (h:Zn K H p xs) (r:RpL K H a0 xs ds):Rp K H a0 (.ref p) (.tuple ds)
 |lst {p:yR}{xs:List V}{ds:List vW} (n:a0 p) (h:YQ K H p xs) (r:RpL K H a0 xs ds):Rp K H a0 (.ref p) (.list ds)
inductive RpL(K:yS)(H:Hp)(a0:yR->Prop):List V->List vW->Prop where
 |nil:RpL K H a0 [] []
 |cons {x:V}{xs:List V}{d:vW}{ds:List vW} (h:Rp K H a0 x d) (t:RpL K H a0 xs ds):RpL K H a0 (x::xs) (d::ds)
end
def C4.d(c:C4):PyData:=.tuple [.int c.a,.int c.b,.int c.k,.int c.o]
section
variable {prog:yZ}{w:jJ}{A:jI}{E:yL}{s:yQ}
theorem xc{d:yJ}{Q:yL}(c:s.heap.IsTupleIter j t n)(ht:s.heap.IsTuple t d)(e:d[n]?=Z9 v)
  (q:∀h',h'.IsTupleIter j t (n+1)->qE3 j s.heap h'->Q v { s with heap:=h' }):jC (yW prog w) A (Builtin.SmallTypes.nextOf (.ref j)) Q E s:=by obtain⟨i,b,h,a⟩:=id c;obtain⟨k,g,_,m,f⟩:=ht;refine yO (jM c.typeIs wC (jK wC c.typeIs gD ?_ (f8 _)));show jC _ _ (field (.ref j) 0 >>= _) _ _ s;refine yO (vL b a (x:=.ref t) rfl ?_);refine yO (vL b a (x:=.int n 0) rfl ?_);refine yO (vG g f ?_);simp only[e,qE0];refine yO (vP b a (by simp) (yP ⟨v,rfl,yP (q _ ?_ (qE3.update ..))⟩));refine⟨_,qG2 _ b (wR (vJ a _)),(fL ..).trans h,?_⟩;rw[vJ a];simp[fI]
theorem xb{f:yJ}{Q:yL}(g:A.handled=Z8)(b:s.heap.IsTupleIter j t n)(ht:s.heap.IsTuple t f)(k:f[n]?=Z8)
  (q:∀h' e,qR9 j s.heap h'->(∃o,h'.get? e=Z9 o/\o.cls=.type "StopIteration")->E (.ref e) { s with heap:=h' }):jC (yW prog w) A (Builtin.SmallTypes.nextOf (.ref j)) Q E s:=by
 obtain⟨p,d,l,c⟩:=id b;obtain⟨r,i,_,m,h⟩:=ht;refine yO (jM b.typeIs wC (jK wC b.typeIs gD ?_ (f8 _)));show jC _ _ (field (.ref j) 0 >>= _) _ _ s;refine yO (vL d c (x:=.ref t) rfl ?_);refine yO (vL d c (x:=.int n 0) rfl ?_);refine yO (vG i h ?_);simp only[k,qE0];refine yO (vR (yO (vP d c (by simp) ?_)));refine yO ?_;refine yO (m:=firstArgMember _ _) (wpAny_of_eq (a:=Value.none) (by first|(simp only[firstArgMember];rfl)| rfl) ?_);refine jS ?_ (by size_fits);refine yO (wpAny_handled ?_)
 first|rw[g]| rw[show A.in1.handled=Z8 from g]
 refine yO (yP (wpAny_throw ?_));exact q _ _ (((qE3.update ..).extBut.push _).push _) ⟨_,qA9 _ rfl,rfl⟩
end
theorem xa{prog:yZ}{w:jJ}{A:jI}(f:A.handled=Z8)(j t:yR)(b:t≠j)(a:yJ):
  Draws prog w A j [j,t] a.size (λi v=>a[i]?=Z9 v) (λi h=>h.IsTupleIter j t i/\h.IsTuple t a) where
 live:=λ_ _ st=>let ⟨o,ho,_⟩:=st.1;⟨o,ho⟩
 frame:=λ_ _ _ st d=>⟨st.1.at λo e=>d j (by simp) o e,let ⟨o,ho,r⟩:=st.2;⟨o,d t (by simp) o ho,r⟩⟩
 item:=λi s Q E n st k=>xc st.1 st.2 (v:=a[i]) (by simp) λl g c=>k _ l s.toks (by simp) ⟨g,st.2.extBut c.extBut b⟩ c
 done:=λs Q E st m=>xb f st.1 st.2 (by simp) m
theorem wz(l:yR)(items:yJ)(n:Nat)(b:Option yR)(sl:Array (yF)):
  Meets (Builtin.«enumerate.__new__» ⟨[.type "enumerate",.ref l],[]⟩) (λ_ R s=>s.heap.get? l=Z9 { cls:=.type "tuple",dict:=b,data:=.seq items n,slots:=sl } /\
   R (.ok (.ret (.ref (s.heap.push { cls:=.type "tuple_iterator",data:=.fields #[.ref l,.int 0 0] }).objs.size)))
    { s with heap:=(s.heap.push { cls:=.type "tuple_iterator",data:=.fields #[.ref l,.int 0 0] }).push { cls:=.type "enumerate",data:=.fields #[.none,.bool Z5,.ref s.heap.objs.size,fI 0,.none,.none] } }) :=
 .of_wp λe w A R s h=>by
  obtain⟨j,g,d,k,m⟩:=s;obtain⟨a,h⟩:=h;have i:=sub_enumerate;have f:qP4 (Shared.heap ⟨j,g,d,k,m⟩) l items:=⟨_,a,rfl,n,rfl⟩
  wp_walk using AutoSeq1.wpAny_loadPart' a
  refine wpAny_stack_any λst=>yP ?_;split
  .rename_i c _ _ _ _ _;cases (c == Value.type "enumerate")<;>(wp_walk using AutoSeq1.wpAny_loadPart' a,vE f;exact⟨_,rfl,h⟩)
  .wp_walk using AutoSeq1.wpAny_loadPart' a,vE f
   exact⟨_,rfl,h⟩
section
variable {X:Cx}{pins:yD}{Z:St}{H:Hp}{s:yQ}
mutual
theorem ZP.reads(I:ZP X pins Z H s){p:yR->Prop}:∀{x:V}{d:vW}{u:yT},Rp X.K H p x d->ZH x u->∃c,Reads s.heap u d c
 |_,_,u,.non,r=>by cases (r);exact⟨_,.none⟩
 |_,_,u,.bl b,r=>by cases (r);exact⟨_,.bool b⟩
 |_,_,u,.int i,r=>by obtain⟨t,q⟩:=(r);cases q;exact⟨_,.int i t⟩
 |_,_,u,.str y,r=>by obtain⟨t,q⟩:=(r);cases q;exact⟨_,.str y t⟩
 |_,_,u,.tup h j,r=>by cases (r);obtain⟨f,k,⟨o,e,g,n,l⟩,_⟩:=I.tuple h;obtain⟨c,a⟩:=I.readsL j k;exact⟨_,.tuple e g l (by simpa using a)⟩
 |_,_,u,.lst _ h j,r=>by cases (r);obtain⟨f,k,m,_⟩:=I.list h;obtain⟨o,e,g,n,l⟩:=m.isList;obtain⟨c,a⟩:=I.readsL j k;exact⟨_,.list e g l (by simpa using a)⟩
theorem ZP.readsL(I:ZP X pins Z H s){c:yR->Prop}:∀{xs:List V}{ds:List vW}{a:yB},RpL X.K H c xs ds->ZM xs a->∃e,ReadsAll s.heap a ds e
 |_,_,_,.nil,.nil=>⟨_,.nil⟩
 |_,_,_,.cons h t,.cons r d=>by obtain⟨i,f⟩:=I.reads h r;obtain⟨g,b⟩:=I.readsL t d;exact⟨_,.cons f b⟩
end
def Oo(d:vW):Prop:=d.canLay0=Z7/\d.depth<=60
theorem wy(o:X.A.units+64<vN):YX X (jG .Eq) (λx y H Q=>∃(N d:yR->Prop) (b a:vW),Rp X.K H N x b/\Rp X.K H d y a/\Oo b/\Oo a/\Q (.bl (PyData.eqv b a)) H):=by intro e s Z H x y v u Q I k l h;obtain⟨N,d,b,a,g,m,c,i,q⟩:=h;obtain⟨n,f⟩:=I.reads g k;obtain⟨bs,j⟩:=I.reads m l;exact SeqAt.compareEq_reads f j c.1 i.1 (by have:=c.2;lia) ⟨.bl _,H,I,rfl,q⟩
theorem wx(o:X.A.units+64<vN):YX X (jG .NotEq) (λx y H Q=>∃(N d:yR->Prop) (b a:vW),Rp X.K H N x b/\Rp X.K H d y a/\Oo b/\Oo a/\Q (.bl (!PyData.eqv b a)) H):=by intro e s Z H x y v u Q I k l h;obtain⟨N,d,b,a,g,m,c,i,q⟩:=h;obtain⟨n,f⟩:=I.reads g k;obtain⟨bs,j⟩:=I.reads m l;exact SeqAt.compareNe_reads f j c.1 i.1 (by have:=c.2;lia) ⟨.bl _,H,I,rfl,q⟩
theorem wu(t:X.A.units+64<vN):YX X (jG .NotEq) (λx y H Q=>∃(a b:yR) (xs ys:List V),x=.ref a/\y=.ref b/\YQ X.K H a xs/\YQ X.K H b ys/\xs.length≠ys.length/\Q (.bl Z7) H):=by intro d s Z H x y v u Q I m o h;obtain⟨a,b,xs,ys,rfl,rfl,n,p,e,q⟩:=h;cases m;cases o;obtain⟨g,r,i,_⟩:=I.list n;obtain⟨l,j,c,_⟩:=I.list p;have f:=r.length;have k:=j.length;exact SeqAt.RcNeAt.lists_lengths i.isList c.isList (by rw[qB5,qB5,<- f,<- k];simpa using e) (by lia) _ _ _ _ ⟨.bl Z7,H,I,rfl,q⟩
end
def Xy(b:Bool)(K:yS)(H:Hp)(a:yR)(xs:List V):Prop:=match b with
 |true=>Zn K H a xs
 |false=>YQ K H a xs
def VI(b:Bool)(h:jL)(a:yR)(c:yJ):Prop:=match b with
 |true=>h.IsTuple a c
 |false=>h.IsList a c
def V7(b:Bool)(h:jL)(j a:yR)(i:Nat):Prop:=match b with
 |true=>h.IsTupleIter j a i
 |false=>h.IsListIter j a i
theorem V7.obj(x:V7 b h j a i):∃o,h.get? j=Z9 o/\∀v,o.data≠.cell v:=by
 cases b with
 |true=>obtain⟨o,c,_,d⟩:=x;exact⟨o,c,λv q=>by rw[d]at q;cases q⟩
 |false=>obtain⟨o,c,_,d⟩:=x;exact⟨o,c,λv q=>by rw[d]at q;cases q⟩
theorem V7.keep(x:V7 b h j a i)(e:∀o,h.get? j=Z9 o->h'.get? j=Z9 o):V7 b h' j a i:=by
 cases b with
 |true=>exact Heap.IsTupleIter.at x e
 |false=>exact Heap.IsListIter.at x e
theorem VI.lt(x:VI b h a c):a<h.objs.size:=by
 cases b with
 |true=>obtain⟨_,e,_⟩:=x;exact qB3 e
 |false=>obtain⟨_,e,_⟩:=x;exact qB3 e
theorem RK(b:Bool)(d:A.handled=Z8)(j t:yR)(c:t≠j)(a:yJ):
  Draws prog w A j [j,t] a.size (λi v=>a[i]?=Z9 v) (λi h=>V7 b h j t i/\VI b h t a):=by
 cases b with
 |true=>exact xa d j t c a
 |false=>exact Draws.list d j t c a
section
variable {X:Cx}{pins:yD}{Z:St}{H:Hp}{s:yQ}
theorem ZP.sqX(I:ZP X pins Z H s)(h:Xy b X.K H a xs):∃c,ZM xs c/\VI b s.heap a c.toArray:=by
 cases b with
 |true=>obtain⟨c,r,p,_⟩:=I.tuple h;exact⟨c,r,p⟩
 |false=>obtain⟨c,r,p,_⟩:=I.list h;exact⟨c,r,p.isList⟩
theorem ZP.sqX_inj(I:ZP X pins Z H s)(h:Xy b X.K H a xs)(h':Xy b X.K H a ys):xs=ys:=by
 cases b with
 |true=>exact I.tuple_inj h h'
 |false=>exact I.list_inj h h'
end
def Vb(b:Bool)(K:yS)(a:yR):It :=
  ⟨λi H=>∃c x,Xy b K H a c/\c[i]?=Z9 x,
   λi H v d=>∃T,H T=Z8/\v=.ref T/\∀c x,Xy b K H a c->c[i]?=Z9 x->d=ZD H T (.tup [.int i,x]),
   λi H=>∃c,Xy b K H a c/\i=c.length⟩
theorem allN{P:yR->Prop}:∀x∈([]:yC),P x:=λ_ h=>by cases h
theorem XJ{P:yR->Prop}{l:yC}(h:P a)(t:∀x∈l,P x):∀x∈a::l,P x:=by grind
theorem GF{c:yC}(h:∀b∈c,Yd X a H b)(n:∀b∈c,b≠T):∀b∈c,Yd X a (ZD H T o) b:=λb d=>⟨by rw[YI (n b d)];exact(h b d).1,(h b d).2⟩
structure QG(b:Bool)(e it a:yR)(i:Nat)(h:jL):Prop where
 a1:∃old,IsEnum h e it (i:Nat) old
 a2:V7 b h it a i
theorem QG.obj(st:QG b e d a i h):∀c∈[e,d],∃o,h.get? c=Z9 o/\∀v,o.data≠.cell v:=by obtain⟨_,f⟩:=st.a1;exact XJ ⟨_,f,λv q=>by cases q⟩ (XJ st.a2.obj allN)
theorem QG.ne(st:QG b e d a i h){T:yR}(f:h.objs.size<=T):∀c∈[e,d],c≠T:=λc g=>by obtain⟨o,z,_⟩:=st.obj c g;exact qB7 (qC0 (qB3 z) f)
theorem wq{i:Nat}{Z:St}(I:ZP X d Z H s)(j:Xy b X.K H a xs)(ex:xs[i]?=Z9 x)(c:List V)(f:V)(g:Xy b X.K H a c)(e:c[i]?=Z9 f):ZD H T (.tup [.int i,x])=ZD H T (.tup [.int i,f]):=by have h:=I.sqX_inj j g;subst h;rw[ex]at e;cases e;rfl
theorem wm{c:yB}{a:yJ}(f:c[i]?=Z9 d)(e:∃b v,c.toArray[i]?=Z9 v/\a=#[.int (i:Nat) b,v]):∃b,a=#[.int (i:Nat) b,d]:=by simp_all
theorem GE{P:yZ}{w:jJ}{K:PySem.W.Frag}{t:yE}{k:Nat}{pos:Pos}(b:Bool)(e j a:yR)(f:e≠j)(p:e≠a)(q:a≠j):
  Xb P w K (.Tuple t k pos) (Vb b K a) [e,j] e (QG b e j a) where
 mem:=by simp
 obj:=λi h st=>st.obj
 keep:=λi h u ⟨⟨B,h1⟩,V⟩ m=>⟨⟨B,m e (by simp) _ h1⟩,V.keep λo z=>m j (by simp) o z⟩
 item:=by intro X C y O l i g s Z H E I n st Q;subst C y O;obtain⟨xs,x,v,ex⟩:=Q;obtain⟨d,L,J⟩:=I.sqX v;obtain⟨u1,U,S⟩:=L.get ex;have D:=RK (prog:=X.prog) (w:=X.w) (A:=X.A.in1) b (I.ok.hd l) j a q d.toArray;have W:=WalksT.enumerateD D e f (by simp[f,p]) (by simp);have hl1:=(qA5.mp U).1;refine W.item i s _ _ (by omega) ⟨st.1,st.2,J⟩ λT vals u M hv R N hM m=>?_;obtain⟨tt,F⟩:=wm U hv;subst F;have Y:=st.ne R;refine⟨_,rfl,W.go _ _ _ i T { s with heap:=u,toks:=M } _ _ hM λV r G=>?_⟩;have I1:ZP X g Z (ZD H T (.tup [.int i,x])) { s with heap:=u,toks:=M }:=I.yields n m R (.cons ⟨tt,rfl⟩ (.cons S .nil)) (by show 2<=jF;decide) N;exact⟨.ref T,_,I1.turnedL (GF n Y) G,rfl,⟨T,I.hok.fresh R,rfl,wq I v ex⟩,⟨r.1,r.2.1⟩,λc l=>by rw[YI (Y c l)];exact(n c l).1⟩
 done:=by
  intro X C y O l i g s Z H E I n st Q;subst C y O;obtain⟨xs,v,ei⟩:=Q;obtain⟨d,L,J⟩:=I.sqX v;have D:=RK (prog:=X.prog) (w:=X.w) (A:=X.A.in1) b (I.ok.hd l) j a q d.toArray;have W:=WalksT.enumerateD D e f (by simp[f,p]) (by simp);have en:i=d.toArray.size:=by rw[qB5,<- L.length];exact ei
  refine W.done s _ _ (by rw[<- en];exact⟨st.1,st.2,J⟩) λu M m=>?_;exact⟨rfl,I.turnedL n m⟩
 self:=λ_ _ _ _ _ st h=>let ⟨⟨_,z⟩,_⟩:=st;g8 z h
section
variable {X:Cx}
def GD(K:yS)(e:TA):TI:=fun Z H R=>e Z H λd b=>∃a,d=[.ref a]/\((∃c,Zn K b a c)/\R (Vb Z7 K a) b∨(∃c,YQ K b a c)/\R (Vb Z5 K a) b)
theorem wj{v:yE}{K:TA}(U:Gl X "enumerate")(hm:X.mg "enumerate"=Z8)(T:PA X [a] K)(hs:jO [a] X.env=[(Z5,wE a X.env)]:=by rfl):
  PI X (.Tuple v k m) (.Call (.Name "enumerate" p) [a] [] pos) (GD X.K K):=by
 intro u s Z H R I h;refine Call_ (Uz I U hm xj (j8 (Zq (T pos u s Z H _ I h) λY d ⟨vs,F,j,G,W⟩=>?_) (by rw[hs];rfl) (by rfl)));obtain⟨t,e,q⟩:=W;subst e;rcases q with⟨⟨M,A⟩,q⟩| ⟨⟨M,A⟩,q⟩
 .cases G with
  |cons r C =>
   cases C;cases r;obtain⟨i,P,y,N⟩:=j.tuple A;obtain⟨⟨c,B,O,V⟩,E,S,n,D⟩:=id y
   replace D:O=.seq i.toArray n:=D
   subst S D;have g:=qB3 E;refine callType_new PySem.F.called_enumerate (by decide) (PySem.F.typeCall_enumerate_1 _) (PySem.F.newCall_enumerate_1 _) (λobj=>PySem.F.args_object_init_2 obj _) PySem.F.entry_enumerate_new (wz t i.toArray n B V) ⟨E,?_⟩;have J:(d.heap.push { cls:=.type "tuple_iterator",data:=.fields #[.ref t,.int 0 0] }).objs.size=d.heap.objs.size+1:=qG5 ..;show _/\_;rw[J];have l:=by have z:=qA9 (d.heap.push { cls:=.type "tuple_iterator",data:=.fields #[.ref t,.int 0 0] }) (o:={ cls:=.type "enumerate",data:=.fields #[.none,.bool Z5,.ref d.heap.objs.size,fI 0,.none,.none] }) rfl;rw[J]at z;exact z
   refine⟨⟨_,l,rfl⟩,?_⟩;refine g8 l ?_;have kp:∀b o,d.heap.get? b=Z9 o->((d.heap.push { cls:=.type "tuple_iterator",data:=.fields #[.ref t,.int 0 0] }).push { cls:=.type "enumerate",data:=.fields #[.none,.bool Z5,.ref d.heap.objs.size,fI 0,.none,.none] }).get? b=Z9 o:=λb o x=>qA1 _ (qA1 _ x);refine⟨_,_,_,_,F,rfl,j.kept (t':=d.toks) kp,GE Z7 (d.heap.objs.size+1) d.heap.objs.size t (qU1 _) (qK1 (qF1 g)) (qB7 g),⟨⟨_,l⟩,⟨_,qA1 _ (qA9 _ rfl),rfl,rfl⟩⟩,λb w=>?_,q⟩;have f:d.heap.objs.size<=b:=by
    simp only[qB0,qF0,or_false]at w;rcases w with rfl|rfl
    .exact qQ5 _
    .exact qA6 _
   exact j.fpOk f (j.hok.fresh f)
 .cases G with
  |cons r C =>
   cases C;cases r;obtain⟨i,P,y,N⟩:=j.list A;have g:t<d.heap.objs.size:=by obtain⟨_,e,_⟩:=y.isList;exact qB3 e
   refine call_enumerate_list y.isList λh' l L Q hk=>?_;refine g8 l ?_;refine⟨_,_,_,_,F,rfl,j.kept (t':=d.toks) hk,GE Z5 (d.heap.objs.size+1) d.heap.objs.size t (qU1 _) (qK1 (qF1 g)) (qB7 g),⟨⟨_,l⟩,L⟩,λb w=>?_,q⟩;have f:d.heap.objs.size<=b:=by
    simp only[qB0,qF0,or_false]at w;rcases w with rfl|rfl
    .exact qQ5 _
    .exact qA6 _
   exact j.fpOk f (j.hok.fresh f)
end
structure On(z TI TO i1 i2:yR)(f1 f2:yC):Prop where
 TIz:TI≠z
 TOz:TO≠z
 i1z:i1≠z
 i2z:i2≠z
 TITO:TI≠TO
 TIi1:TI≠i1
 TIi2:TI≠i2
 TOi1:TO≠i1
 TOi2:TO≠i2
 i12:i1≠i2
 z1:z∉f1
 z2:z∉f2
 O1:TO∉f1
 O2:TO∉f2
 j1:i2∉f1
 j2:i1∉f2
section
variable {prog:yZ}{w:jJ}{A:jI}{E:yL}{s:yQ}
variable {z TI TO i1 i2:yR}{f1 f2:yC}{n1 n2 k:Nat}{P1 P2:Nat->yT->Prop}{S1 S2:Nat->jL->Prop}
theorem Draws.sb{a:yC}{St:Nat->jL->Prop}(D:Draws prog w A j a n P St)(st:St i h)(sb:qE3 c h h')(d:c∉a):St i h' :=
 D.frame _ _ _ st λb f o e=>sb.extBut b o (λq=>d (q▸f)) e
theorem GC(J:dW s.heap z TI TO .none)(hTI:fS s.heap TI (.ref i1) (.ref i2))(Y:fS s.heap TO a b)(g:A.handled=Z8)
  (n:∀A:jI,A.handled=Z8->Draws prog w A i1 f1 n1 P1 S1) (r:∀A:jI,A.handled=Z8->Draws prog w A i2 f2 n2 P2 S2) (d:On z TI TO i1 i2 f1 f2) (h1:S1 k s.heap) (h2:S2 k s.heap)
  (hQ:k<n1->k<n2->∀x y h' tk,P1 k x->P2 k y->dW h' z TI TO (fI s.heap.objs.size)->fS h' TO x y->S1 (k+1) h'->S2 (k+1) h'->fS h' s.heap.objs.size x y->h'.objs.size=s.heap.objs.size+1 ->
   (∀c o,c≠z->c≠TO->c≠i1->c≠i2->s.heap.get? c=Z9 o->h'.get? c=Z9 o)->Q (.done (.ret (.ref s.heap.objs.size))) { s with heap:=h',toks:=tk })
  (hE:(k=n1∨k=n2)->∀h' e tk,(∀c o,c≠z->c≠TO->c≠i1->c≠i2->s.heap.get? c=Z9 o->h'.get? c=Z9 o)->(∃o,h'.get? e=Z9 o/\o.cls=.type "StopIteration")->E (.ref e) { s with heap:=h',toks:=tk })
  (hk1:k<=n1) (U:k<=n2):jC (yW prog w) A (Builtin.«zip.__next__» ⟨[.ref z],[]⟩) Q E s:=by
 show jC _ _ (field (.ref z) 2 >>= _) _ _ _;refine yO (vL J rfl (x:=.bool Z5) rfl ?_);refine yO (vL J rfl (x:=.ref TI) rfl ?_);refine yO (vG hTI rfl ?_);refine yO ?_;refine yO (vL J rfl (x:=.none) rfl (yP ?_));refine yO (vR ?_);refine yO (vL J rfl (x:=.ref TO) rfl ?_);refine yO (wK J (by simp) λha O t=>?_)
 replace O:dW ha z TI TO .ellipsis:=O
 have K:=Draws.sb (n A g) h1 t d.z1;have s2a:=Draws.sb (r A g) h2 t d.z2;have oa:=t.extBut _ _ d.TOz Y;refine yO ?_;simp only[qU2,List.zipIdx_nil,qV1,List.forIn_nil];refine yO (yO (wpAny_onRaise ?_));by_cases l1:k<n1
 .refine yO ((n _ g).item k _ _ _ l1 K λx M tb px X sb=>yP ?_);have ob:=sb.extBut _ _ d.TOi1 oa;have s2b:=Draws.sb (r A g) s2a sb d.j2;have zb:=sb.extBut _ _ d.i1z.symm O;refine yO (vG ob rfl ?_);refine yO (dF ob λhc oc C=>?_);have T:=Draws.sb (n A g) X C d.O1;have H:=Draws.sb (r A g) s2b C d.O2;have zc:=C.extBut _ _ d.TOz.symm zb;refine yO (wpAny_letGo (yP ?_));refine yO (yO (wpAny_onRaise ?_));by_cases S:k<n2
  .refine yO ((r _ g).item k _ _ _ S H λy hd td py W l=>yP ?_);have od:fS hd TO x b:=l.extBut _ _ d.TOi2 oc;have s1d:=Draws.sb (n A g) T l d.j1;have p:=l.extBut _ _ d.i2z.symm zc;refine yO (vG od rfl ?_);refine yO (dF od λi m G=>?_)
   replace m:fS i TO x y:=m
   have R:=Draws.sb (n A g) s1d G d.O1;have s2e:=Draws.sb (r A g) W G d.O2;have ze:=G.extBut _ _ d.TOz.symm p;refine yO (wpAny_letGo (yP (yP ?_)));refine yO (vG m rfl ?_);refine yO (gL ?_);have I:i.objs.size=s.heap.objs.size:=by rw[G.1,l.1,C.1,sb.1,t.1]
   have kp:∀c o,c≠z->c≠TO->c≠i1->c≠i2->s.heap.get? c=Z9 o->i.get? c=Z9 o:=λc o h B u F e =>
    G.extBut _ _ B (l.extBut _ _ F (C.extBut _ _ B (sb.extBut _ _ u (t.extBut _ _ h e))))
   have L:=qB3 ze;refine yO ?_;have zf:dW (i.push { cls:=.type "tuple",data:=.seq #[x,y] }) z TI TO .ellipsis:=qA1 _ ze;refine yO (wK zf (by simp) λhg V sg=>?_)
   replace V:dW hg z TI TO (fI i.objs.size):=V
   refine wK V (by simp) λN P si=>?_
   replace P:dW N z TI TO (fI i.objs.size):=P
   have up:∀c o,c≠z->i.get? c=Z9 o->N.get? c=Z9 o:=λc o h e=>si.extBut _ _ h (sg.extBut _ _ h (qA1 _ e));have tz:=si.extBut _ _ (qK1 L) (sg.extBut _ _ (qK1 L) (qA9 _ rfl));have zz:N.objs.size=i.objs.size+1:=by rw[si.1,sg.1,qG5]
   have Z:=(n A g).frame _ _ _ R λb M o e=>up b o (λq=>d.z1 (q▸M)) e;have s2i:=(r A g).frame _ _ _ s2e λb M o e=>up b o (λq=>d.z2 (q▸M)) e;rw[I]at P tz zz;refine yP ?_;rw[I];exact hQ l1 S x y N td px py P (up _ _ d.TOz m) Z s2i tz zz λc o h B u F e=>up c o h (kp c o h B u F e)
  .have e2:=qV2 U (qQ8 S);refine yO ((r _ g).done _ _ _ (e2▸H) λhd e l i=>?_);obtain⟨m,f,j⟩:=i;have p:=l _ _ d.i2z.symm zc;have v:e≠z:=λq=>by subst q;rw[p]at f;cases f;simp at j
   refine wK p (by simp) λhf _ D=>hE (.inr e2) hf e tb (λc o h B u F q=>D.extBut _ _ h (l _ _ F (C.extBut _ _ B (sb.extBut _ _ u (t.extBut _ _ h q))))) ⟨m,D.extBut _ _ v f,j⟩
 .have e1:=qV2 hk1 (qQ8 l1);refine yO ((n _ g).done _ _ _ (e1▸K) λhd e l i=>?_);obtain⟨m,f,j⟩:=i;have p:=l _ _ d.i1z.symm O;have v:e≠z:=λq=>by subst q;rw[p]at f;cases f;simp at j
  exact wK p (by simp) λhf _ D=>hE (.inl e1) hf e s.toks (λc o h _ u _ q=>D.extBut _ _ h (l _ _ u (t.extBut _ _ h q))) ⟨m,D.extBut _ _ v f,j⟩
theorem WalksT.zipD(p:A.handled=Z8)(B:∀A:jI,A.handled=Z8->Draws prog w A i1 f1 n1 P1 S1)(D:∀A:jI,A.handled=Z8->Draws prog w A i2 f2 n2 P2 S2)(m:On z TI TO i1 i2 f1 f2)(m1:i1∈f1)(M:i2∈f2):
  WalksT prog w A z (z::TI::TO::f1++f2) [z,TO,i1,i2] (min n1 n2) (λi G=>∃x y,P1 i x/\P2 i y/\G=#[x,y])
   (λi h=>dW h z TI TO .none/\fS h TI (.ref i1) (.ref i2)/\(∃a b,fS h TO a b)/\S1 i h/\S2 i h)
   (λi T h=>dW h z TI TO (fI T)/\fS h TI (.ref i1) (.ref i2)/\(∃a b,fS h TO a b)/\S1 (i+1) h/\S2 (i+1) h/\T≠z/\T≠TO/\T≠i1/\T≠i2) where
 sub:=λc g=>by simp at g ⊢;rcases g with rfl|rfl|rfl|rfl<;>simp[m1,M]
 frame:=λi h C j hk=>by obtain⟨n,d,⟨a,b,f⟩,r,t⟩:=j;exact⟨hk z (by simp) _ n,hk TI (by simp) _ d,⟨a,b,hk TO (by simp) _ f⟩,(B A p).frame _ _ _ r λb J o e=>hk b (by simp[J]) o e,(D A p).frame _ _ _ t λb J o e=>hk b (by simp[J]) o e⟩
 item:=λi s Q E hi j v=>by
  obtain⟨n,d,⟨a,b,f⟩,r,t⟩:=j;have u:s.TypeIs (.ref z) "zip":=⟨_,n,rfl⟩
  have lt:∀{c o},s.heap.get? c=Z9 o->s.heap.objs.size≠c:=λe=>qK1 (qB3 e);refine yO (vM (jM u f9
   (jK f9 u F.entry_zip_next (GC n d f p B D m r t (λ_ _ x y C K U py R V Y a4 P a6 hk=>⟨_,rfl,yP ?_⟩) (λq=>by lia) (by lia) (by lia)) (F.args_zip_next_1 _))))
  refine v s.heap.objs.size #[x,y] C K ⟨x,y,U,py,rfl⟩ (qA6 _) ⟨_,P,rfl,_,rfl⟩ ⟨R,hk _ _ m.TIz m.TITO m.TIi1 m.TIi2 d,⟨_,_,V⟩,Y,a4,lt n,lt f,?_,?_⟩
   λc o g e=>hk c o (λx=>g (by simp[x])) (λx=>g (by simp[x])) (λx=>g (by simp[x])) (λx=>g (by simp[x])) e
  .obtain⟨_,e⟩:=(B A p).live _ _ r;exact lt e
  .obtain⟨_,e⟩:=(D A p).live _ _ t;exact lt e
 go:=λL k pos i T s Q E I v=>by obtain⟨n,d,⟨a,b,f⟩,r,t,_⟩:=I;refine wpAny_letOwnedTupleGo_zip n λC H l=>v C ⟨H,l.extBut _ _ m.TIz d,⟨a,b,l.extBut _ _ m.TOz f⟩,Draws.sb (B A p) r l m.z1,Draws.sb (D A p) t l m.z2⟩ λc o g e=>l.extBut _ _ (λx=>g (by simp[x])) e
 apart:=λi T h I u=>by
  obtain⟨_,_,_,_,_,S,N,O,W⟩:=I;simp at u;rcases u with rfl|rfl|rfl|rfl
  .exact S rfl
  .exact N rfl
  .exact O rfl
  .exact W rfl
 done:=λs Q E j v=>by
  obtain⟨n,d,⟨a,b,f⟩,r,t⟩:=j;have u:s.TypeIs (.ref z) "zip":=⟨_,n,rfl⟩
  refine yO (vM (jM u f9
   (jK f9 u F.entry_zip_next (GC n d f p B D m r t (λq1 q2=>by lia) (λ_ C e K hk Z=>?_) (by lia) (by lia)) (F.args_zip_next_1 _))))
  obtain⟨o,X,g⟩:=Z;refine yO (wA ⟨o,X,g⟩ gM ?_);exact yP (v _ _ λc o g e=>hk c o (λx=>g (by simp[x])) (λx=>g (by simp[x])) (λx=>g (by simp[x])) (λx=>g (by simp[x])) e)
 self:=λi s Q E j v=>lU j.1 v
end
def Uq(b:Bool)(l:yR):Obj:={ cls:=.type (if b then "tuple_iterator" else "list_iterator"),data:=.fields #[.ref l,.int 0 0] }
abbrev Om(h:jL)(b1 a:Bool)(b c:yR):Heap:=(h.push (Uq b1 b)).push (Uq a c)
abbrev Ol(h:jL)(b1 b:Bool)(a c:yR):Heap:=(Om h b1 b a c).push { cls:=.type "tuple",data:=.seq #[.ref h.objs.size,.ref (h.push (Uq b1 a)).objs.size] }
abbrev TM(h:jL)(b1 a:Bool)(b c:yR):Heap:=(Ol h b1 a b c).push { cls:=.type "tuple",data:=.seq #[.none,.none] }
abbrev UI(h:jL)(b1 a:Bool)(b c:yR):Heap:=(TM h b1 a b c).push { cls:=.type "zip",data:=.fields #[.none,.bool Z5,.bool Z5,.ref (Om h b1 a b c).objs.size,.ref (Ol h b1 a b c).objs.size] }
theorem wg(a b:yR)(xs ys:yJ):
  Meets (Builtin.«zip.__new__» ⟨[.type "zip",.ref a,.ref b],[]⟩) (λ_ R s=>s.heap.IsTuple a xs/\s.heap.IsTuple b ys /\
   R (.ok (.ret (.ref (TM s.heap Z7 Z7 a b).objs.size))) { s with heap:=UI s.heap Z7 Z7 a b }) :=
 .of_wp λj w A R s h=>by
  obtain⟨l,g,d,m,n⟩:=s;obtain⟨c,e,h⟩:=h;have k:=sub_zip;have f:=c;have i:qP4 (Shared.heap ⟨l.push { cls:=.type "tuple_iterator",data:=.fields #[.ref a,.int 0 0] },g,d,m,n⟩) b ys:=qP4.push e _
  wp_walk using vE f,vE i
  exact⟨_,rfl,h⟩
theorem wd(a b:yR)(xs ys:yJ):
  Meets (Builtin.«zip.__new__» ⟨[.type "zip",.ref a,.ref b],[]⟩) (λ_ R s=>s.heap.IsTuple a xs/\s.heap.IsList b ys /\
   R (.ok (.ret (.ref (TM s.heap Z7 Z5 a b).objs.size))) { s with heap:=UI s.heap Z7 Z5 a b }) :=
 .of_wp λj w A R s h=>by
  obtain⟨l,g,d,m,n⟩:=s;obtain⟨c,e,h⟩:=h;have k:=sub_zip;have f:=c;have i:qO4 (Shared.heap ⟨l.push { cls:=.type "tuple_iterator",data:=.fields #[.ref a,.int 0 0] },g,d,m,n⟩) b ys:=qO4.push e _
  wp_walk using vE f,vF i
  exact⟨_,rfl,h⟩
theorem wc(a b:yR)(xs ys:yJ):
  Meets (Builtin.«zip.__new__» ⟨[.type "zip",.ref a,.ref b],[]⟩) (λ_ R s=>s.heap.IsList a xs/\s.heap.IsTuple b ys /\
   R (.ok (.ret (.ref (TM s.heap Z5 Z7 a b).objs.size))) { s with heap:=UI s.heap Z5 Z7 a b }) :=
 .of_wp λj w A R s h=>by
  obtain⟨l,g,d,m,n⟩:=s;obtain⟨c,e,h⟩:=h;have k:=sub_zip;have f:=c;have i:qP4 (Shared.heap ⟨l.push { cls:=.type "list_iterator",data:=.fields #[.ref a,.int 0 0] },g,d,m,n⟩) b ys:=qP4.push e _
  wp_walk using vF f,vE i
  exact⟨_,rfl,h⟩
theorem wa(a b:yR)(xs ys:yJ):
  Meets (Builtin.«zip.__new__» ⟨[.type "zip",.ref a,.ref b],[]⟩) (λ_ R s=>s.heap.IsList a xs/\s.heap.IsList b ys /\
   R (.ok (.ret (.ref (TM s.heap Z5 Z5 a b).objs.size))) { s with heap:=UI s.heap Z5 Z5 a b }) :=
 .of_wp λj w A R s h=>by
  obtain⟨l,g,d,m,n⟩:=s;obtain⟨c,e,h⟩:=h;have k:=sub_zip;have f:=c;have i:qO4 (Shared.heap ⟨l.push { cls:=.type "list_iterator",data:=.fields #[.ref a,.int 0 0] },g,d,m,n⟩) b ys:=qO4.push e _
  wp_walk using vF f,vF i
  exact⟨_,rfl,h⟩
theorem v9(b1 c:Bool)(a b:yR)(xs ys:yJ):
  Meets (Builtin.«zip.__new__» ⟨[.type "zip",.ref a,.ref b],[]⟩) (λ_ R s=>VI b1 s.heap a xs/\VI c s.heap b ys /\
   R (.ok (.ret (.ref (TM s.heap b1 c a b).objs.size))) { s with heap:=UI s.heap b1 c a b }):=by
 cases b1 with
 |true=>cases c with
  |true=>exact wg a b xs ys
  |false=>exact wd a b xs ys
 |false=>cases c with
  |true=>exact wc a b xs ys
  |false=>exact wa a b xs ys
theorem GB(e:h.get? j=Z9 (Uq b l)):V7 b h j l 0:=by
 cases b with
 |true=>exact⟨_,e,rfl,rfl⟩
 |false=>exact⟨_,e,rfl,rfl⟩
theorem GA(b:Bool)(l:yR):(Uq b l).isFreed=Z5:=by cases b<;>rfl
section
variable {prog:yZ}{w:jJ}{A:jI}{E:yL}{s:yQ}
theorem vz{Q:yL}(i:VI b1 s.heap a xs)(j:VI d s.heap b ys)
  (h:∀h',dW h' (s.heap.objs.size+4) (s.heap.objs.size+2) (s.heap.objs.size+3) .none->fS h' (s.heap.objs.size+2) (.ref s.heap.objs.size) (.ref (s.heap.objs.size+1)) ->
   fS h' (s.heap.objs.size+3) .none .none->V7 b1 h' s.heap.objs.size a 0->V7 d h' (s.heap.objs.size+1) b 0 ->
   (∀c o,s.heap.get? c=Z9 o->h'.get? c=Z9 o)->Q (.ref (s.heap.objs.size+4)) { s with heap:=h' }) :
  jC (yW prog w) A (call (.type "zip") [.ref a,.ref b]) Q E s:=by
 refine callType_new F.called_zip (by decide) (F.typeCall_zip_2 _ _) (F.newCall_zip_2 _ _) (λobj=>F.args_object_init_3 obj _ _) F.entry_zip_new (v9 b1 d a b xs ys) ⟨i,j,?_⟩;have g:(s.heap.push (Uq b1 a)).objs.size=s.heap.objs.size+1:=qG5 ..;have k:(Om s.heap b1 d a b).objs.size=s.heap.objs.size+2:=by rw[qG5,g]
 have e:(Ol s.heap b1 d a b).objs.size=s.heap.objs.size+3:=by rw[qG5,k]
 have p:(TM s.heap b1 d a b).objs.size=s.heap.objs.size+4:=by rw[qG5,e]
 have f:(UI s.heap b1 d a b).get? (TM s.heap b1 d a b).objs.size=Z9 _:=qA9 _ rfl;have n:(UI s.heap b1 d a b).get? (Ol s.heap b1 d a b).objs.size=Z9 _:=qA1 _ (qA9 _ rfl);have l:(UI s.heap b1 d a b).get? (Om s.heap b1 d a b).objs.size=Z9 _:=qA1 _ (qA1 _ (qA9 _ rfl));have m:(UI s.heap b1 d a b).get? (s.heap.push (Uq b1 a)).objs.size=Z9 (Uq d b):=qA1 _ (qA1 _ (qA1 _ (qA9 _ (GA _ _))));have q:(UI s.heap b1 d a b).get? s.heap.objs.size=Z9 (Uq b1 a):=qA1 _ (qA1 _ (qA1 _ (qA1 _ (qA9 _ (GA _ _)))));rw[k,e,p]at f;rw[g,k]at l;rw[e]at n;rw[g]at m;rw[p];exact⟨⟨_,f,rfl⟩,h _ f l n (GB q) (GB m) λc o x =>
  qA1 _ (qA1 _ (qA1 _ (qA1 _ (qA1 _ x))))⟩
end
theorem vx(c:a<n)(d:b<n):On (n+4) (n+2) (n+3) n (n+1) [n,a] [n+1,b]:=by constructor<;>(try simp only[qB0,qF0,or_false,not_or])<;>(try refine⟨?_,?_⟩)<;>(show ¬(_=_))<;>(simp only[yR]at *;lia)
inductive QF(b1 b2:Bool)(K:yS)(H:Hp)(a b:yR)(i:Nat):Prop
 |mk (xs ys:List V) (x y:V) (q1:Xy b1 K H a xs) (q2:Xy b2 K H b ys) (ex:xs[i]?=Z9 x) (ey:ys[i]?=Z9 y)
inductive LB(b1 b2:Bool)(K:yS)(H:Hp)(a b:yR)(i:Nat):Prop
 |mk (xs ys:List V) (q1:Xy b1 K H a xs) (q2:Xy b2 K H b ys) (ei:i=min xs.length ys.length)
def SH(b1 c:Bool)(K:yS)(a b:yR):It :=
  ⟨λi H=>QF b1 c K H a b i,
   λi H v f=>∃T,H T=Z8/\v=.ref T/\∀d e x y,Xy b1 K H a d->Xy c K H b e->d[i]?=Z9 x->e[i]?=Z9 y->f=ZD H T (.tup [x,y]),
   λi H=>LB b1 c K H a b i⟩
structure QE(b1 b2:Bool)(z TI TO i1 i2 l1 l2:yR)(i:Nat)(h:jL):Prop where
 a1:dW h z TI TO .none
 a2:fS h TI (.ref i1) (.ref i2)
 a3:∃a b,fS h TO a b
 a4:V7 b1 h i1 l1 i
 a5:V7 b2 h i2 l2 i
section
variable {b1 b2:Bool}{z TI TO i1 i2 l1 l2:yR}{i:Nat}{h:jL}
theorem QE.obj(st:QE b1 b2 z TI TO i1 i2 l1 l2 i h):∀b∈[z,TI,TO,i1,i2],∃o,h.get? b=Z9 o/\∀v,o.data≠.cell v:=by obtain⟨_,_,a⟩:=st.a3;exact XJ ⟨_,st.a1,λv q=>by cases q⟩ (XJ ⟨_,st.a2,λv q=>by cases q⟩ (XJ ⟨_,a,λv q=>by cases q⟩ (XJ st.a4.obj (XJ st.a5.obj allN))))
theorem QE.ne(st:QE b1 b2 z TI TO i1 i2 l1 l2 i h){T:yR}(a:h.objs.size<=T):∀b∈[z,TI,TO,i1,i2],b≠T:=λb c=>by obtain⟨o,e,_⟩:=st.obj b c;exact qB7 (qC0 (qB3 e) a)
theorem SG:∀b∈[z,TO,i1,i2],b∈[z,TI,TO,i1,i2]:=by simp_all
inductive vw(b1 b2:Bool)(X:Cx)(s:yQ)(H:Hp)(l1 l2:yR)(i:Nat):Prop
 |mk (xs ys:List V) (x y:V) (t1 t2:yB) (u1 u2:yT) (q1:Xy b1 X.K H l1 xs) (q2:Xy b2 X.K H l2 ys) (ex:xs[i]?=Z9 x) (ey:ys[i]?=Z9 y) (p1:VI b1 s.heap l1 t1.toArray) (p2:VI b2 s.heap l2 t2.toArray)
  (e1:t1[i]?=Z9 u1) (e2:t2[i]?=Z9 u2) (r1:ZH x u1) (r2:ZH y u2)
variable {X:Cx}{pins:yD}{Z:St}{H:Hp}{s:yQ}
theorem vv(I:ZP X pins Z H s)(r:QF b1 b2 X.K H l1 l2 i):vw b1 b2 X s H l1 l2 i:=by obtain⟨l,u,x,y,g,e,ex,f⟩:=r;obtain⟨b,q,m⟩:=I.sqX g;obtain⟨a,t,o⟩:=I.sqX e;obtain⟨n,k,d⟩:=q.get ex;obtain⟨j,p,c⟩:=t.get f;exact⟨l,u,x,y,b,a,n,j,g,e,ex,f,m,o,k,p,d,c⟩
theorem vu{b d:yB}{a:yJ}(k:b[i]?=Z9 f)(l:d[i]?=Z9 e)(j:∃c g,b.toArray[i]?=Z9 c/\d.toArray[i]?=Z9 g/\a=#[c,g]):a=#[f,e]:=by simp_all
theorem vt(I:ZP X pins Z H s)(o:Xy b1 X.K H l1 xs)(g:Xy b2 X.K H l2 ys)(ex:xs[i]?=Z9 x)(n:ys[i]?=Z9 y)(b a:List V)(f e:V)(l:Xy b1 X.K H l1 b)(m:Xy b2 X.K H l2 a)(d:b[i]?=Z9 f)(c:a[i]?=Z9 e):ZD H T (.tup [x,y])=ZD H T (.tup [f,e]):=by have j:=I.sqX_inj o l;have k:=I.sqX_inj g m;subst j k;rw[ex]at d;rw[n]at c;cases d;cases c;rfl
end
theorem vr{P:yZ}{w:jJ}{K:PySem.W.Frag}{r:yE}{k:Nat}{pos:Pos}(b1 u:Bool)(z TI TO l m q p:yR)(D:On z TI TO l m [l,q] [m,p])(d1:q≠l)(d2:p≠m):
  Xb P w K (.Tuple r k pos) (SH b1 u K q p) [z,TI,TO,l,m] z (QE b1 u z TI TO l m q p) where
 mem:=by simp
 obj:=λi h st=>st.obj
 keep:=λi h v ⟨a1,a2,⟨x,y,a3⟩,a4,a5⟩ f =>
  ⟨f z (by simp) _ a1,f TI (by simp) _ a2,⟨x,y,f TO (by simp) _ a3⟩,a4.keep λo e=>f l (by simp) o e,a5.keep λo e=>f m (by simp) o e⟩
 item:=by intro X M V Q O i j s Z H E I B st hg;subst M V Q;obtain⟨xs,ys,x,y,c,a,u1,u2,U,L,ex,ey,Y,G,e1,e2,S,F⟩:=vv I hg;have W:=WalksT.zipD (prog:=X.prog) (w:=X.w) (I.ok.hd O) (λA n=>RK b1 n l q d1 c.toArray) (λA n=>RK u n m p d2 a.toArray) D (by simp) (by simp);have hl1:=(qA5.mp e1).1;have hl2:=(qA5.mp e2).1;have t:=λb g=>B b (SG b g);refine W.item i s _ _ (by simp only[qB5];lia) ⟨st.a1,st.a2,st.a3,⟨st.a4,Y⟩,st.a5,G⟩ λT vals v tk hv J R hM f=>?_;have N:=vu e1 e2 hv;subst N;have nT:=st.ne J;refine⟨_,rfl,W.go _ _ _ i T { s with heap:=v,toks:=tk } _ _ hM λh2 d C=>?_⟩;have I1:ZP X j Z (ZD H T (.tup [x,y])) { s with heap:=v,toks:=tk }:=I.yields t f J (.cons S (.cons F .nil)) (by show 2<=jF;decide) R;have I2:=I1.turnedL (tk:=tk) (GF t λb g=>nT b (SG b g)) C;exact⟨.ref T,_,I2,rfl,⟨T,I.hok.fresh J,rfl,vt I U L ex ey⟩,⟨d.1,d.2.1,d.2.2.1,d.2.2.2.1.1,d.2.2.2.2.1⟩,λb g=>by rw[YI (nT b g)];exact(B b g).1⟩
 done:=by
  intro X M V Q O i j s Z H E I B st hg;subst M V Q;obtain⟨xs,ys,U,L,ei⟩:=hg;obtain⟨c,r1,Y⟩:=I.sqX U;obtain⟨a,r2,G⟩:=I.sqX L;have W:=WalksT.zipD (prog:=X.prog) (w:=X.w) (I.ok.hd O) (λA n=>RK b1 n l q d1 c.toArray) (λA n=>RK u n m p d2 a.toArray) D (by simp) (by simp);have en:i=min c.toArray.size a.toArray.size:=by simp only[qB5,<- r1.length,<- r2.length];exact ei
  refine W.done s _ _ (by rw[<- en];exact⟨st.a1,st.a2,st.a3,⟨st.a4,Y⟩,st.a5,G⟩) λv tk f=>?_;exact⟨rfl,I.turnedL (λb g=>B b (SG b g)) f⟩
 self:=λ_ _ _ _ _ st h=>lU st.a1 h
section
variable {X:Cx}
def Gz(K:yS)(g:TA):TI:=fun Z H R=>g Z H λe c=>∃a b b1 d,e=[.ref a,.ref b]/\(∃f,Xy b1 K c a f)/\(∃h,Xy d K c b h)/\R (SH b1 d K a b) c
theorem vq{j:yE}{k:Nat}{d:Pos}{p pos:Pos}(M:Gl X "zip")(hm:X.mg "zip"=Z8)(L:PA X [a,b] y)(hs:jO [a,b] X.env=[(Z5,wE a X.env),(Z5,wE b X.env)]:=by rfl)(f:jO [b] X.env=[(Z5,wE b X.env)]:=by rfl):
  PI X (.Tuple j k d) (.Call (.Name "zip" p) [a,b] [] pos) (Gz X.K y):=by
 intro i s Z H R I h;refine Call_ (Uz I M hm xp (j8 (Zq (L pos i s Z H _ I h) λO v ⟨P,C,g,G,N⟩=>?_) (by rw[hs,f]) (by rw[f];rfl)));obtain⟨J,B,b1,A,e,⟨Q,D⟩,⟨V,F⟩,q⟩:=N;subst e;cases G with
 |cons r t =>
  cases t with
  |cons E t =>
   cases t;cases r;cases E;obtain⟨x,U,n⟩:=g.sqX D;obtain⟨u,S,o⟩:=g.sqX F;refine vz n o λT w l m hi1 hi2 hk=>?_;refine lU w ?_;have K:=g.kept (t':=v.toks) hk;refine⟨_,_,_,_,C,rfl,K,vr b1 A _ _ _ _ _ J B (vx n.lt o.lt) (qB7 n.lt) (qB7 (qF1 o.lt)),⟨w,l,⟨_,_,m⟩,hi1,hi2⟩,λb z=>?_,q⟩;have c:v.heap.objs.size<=b:=by
    simp only[qB0,qF0,or_false]at z;rcases z with rfl|rfl|rfl|rfl|rfl
    .exact qK6 _ _
    .exact qK6 _ _
    .exact qK6 _ _
    .exact qA6 _
    .exact qK6 _ _
   exact g.fpOk c (g.hok.fresh c)
end
section
variable {X:Cx}{pins:yD}{Z:St}{H:Hp}{s:yQ}{scope:wB}{N:yH}{C:yR}{ex:yC}
theorem vp{f:yE}(J:PG X (.Name E pos') L)(F:fP (.ListComp elt [⟨r,iter,f,0⟩] scope pos) (Z9 (.Name E pos')) a.line X.env=pure Z7)
  (u:RN X scope N k S) (hi:PI X r iter wi)
  (hg:∀cl s H C ex,PG (WJ X scope N cl s H C ex) r g) (B:∀cl s H C ex,SJ (WJ X scope N cl s H C ex) f tc) (G:∀cl s H C ex,PE (WJ X scope N cl s H C ex) elt R)
  (hs:∀x,wT iter X.env x=pure x:=by intro _;rfl):PS X (.Assign [.Name E pos'] (.ListComp elt [⟨r,iter,f,0⟩] scope pos) a) (Vf (LF wi k S g tc R) L):=by
 intro d s Z H D0 I h;rw[exec_Assign_Name_used _ _ _ _ F];refine yO (dR (yO ?_));refine yO (jY (lI rfl hs (GP λx hx=>I.ok.has x (u.free x hx)) u.kind u.names (Zq (hi d s Z H _ I h) λv s1 h1=>Zq h1 λitv W h2=>?_)) (λ_ s' hq=>yP (yP hq)) λ_ _ e=>e);obtain⟨it,fp,tn,JJ,H2,e,A,T,K,p,hW⟩:=h2;subst e;refine GL (Q:=λx H1=>L x Z H1 D0.nx) u A T K p hg B G hW λcl C P t l hDC i q=>?_;obtain⟨m,w,_⟩:=id i.loc;have y:P C=Z8:=i.free;have IA:=A.call' (s':=t) i.os i.base i.hok i.bare (λb c=>⟨(p b c).2.2.2.1,(p b c).2.1,(p b c).2.2.2.2.1,(p b c).2.2.2.2.2⟩);have U:∀{O:Hp},O C=Z8->∀b∈[C],Yd X d O b:=λw b c=>by
  have:=by simpa using c
  subst this;exact A.fpOk l w
 have M:∀b∈[C],∃o,t.heap.get? b=Z9 o/\∀v,o.data≠.cell v:=λb c=>by
  have:=by simpa using c
  subst this;obtain⟨o,_,_,ho,hd,_⟩:=id w;exact⟨o,ho,λv z=>by rw[hd]at z;cases z⟩
 have IB:=IA.pinned (U y) M;refine Zq (J _ t Z P (.ref W.heap.objs.size) (.ref W.heap.objs.size) _ IB rfl q) λ_ s6 ⟨Z6,H6,V,q6⟩=>?_;obtain⟨oc,n,_⟩:=M C (by simp);have j:=V.pin (C,oc) (qD1 _ (qD1 _ (QS (by simp) n)));refine⟨m,w.at' λo e=>?_,λh' D=>⟨Z6,H6,?_,q6⟩⟩
 .have Y:t.heap.get? C=Z9 o:=e;rw[n]at Y;cases Y;exact j.1
 .exact V.unpinned.turnedL (U j.2.1) λb o nb e=>D.extBut b o (by simpa using nb) e
end
section
variable {X:Cx}
theorem Gy(m:X.A.guards=Z9 [])(x:X.A.units+64<vN):YG X (.builtin "repr") (λxs H Q=>∃(p:yR) (N:yR->Prop) (d:vW),xs=[.ref p]/\Rp X.K H N (.ref p) d/\d.showable=Z7/\d.hasDict=Z5/\d.depth<=60/\d.shown.length<=jF/\Q (.str d.shown) H):=by intro a s Z H xs n Q I j h;obtain⟨p,N,d,rfl,k,c,f,v,l,q⟩:=h;obtain⟨u,rfl,g⟩:=j.one;cases g;obtain⟨t,r⟩:=I.reads k rfl;exact repr_of_reads' r c (λz=>by rw[f]at z;cases z) m (by lia) (λb o e=>e) (λw u i hk=>⟨.str d.shown,H,I.kept (t':=i) hk,⟨u,rfl⟩,q⟩) l
theorem vo:YG X (.builtin "repr") (λxs H Q=>∃i:Int,xs=[.int i]/\i.natAbs.log2<1920/\Q (.str (toString i)) H):=by intro a s Z H xs g Q I f h;obtain⟨i,rfl,c,q⟩:=h;obtain⟨u,rfl,d⟩:=f.one;obtain⟨t,rfl⟩:=d;exact PySem.P.repr_of_int c ⟨.str (toString i),H,I.kept (t':=s.toks+1) λb o e=>e,⟨_,rfl⟩,q⟩
end
abbrev Gx(h:jL)(T:yR)(a b c:yT):Prop:=h.get? T=Z9 { cls:=.type "tuple",data:=.seq #[a,b,c] }
structure vn(z TI TO i1 i2 i3:yR)(f1 f2 f3:yC):Prop where
 TIz:TI≠z
 TOz:TO≠z
 i1z:i1≠z
 i2z:i2≠z
 i3z:i3≠z
 TITO:TI≠TO
 TIi1:TI≠i1
 TIi2:TI≠i2
 TIi3:TI≠i3
 TOi1:TO≠i1
 TOi2:TO≠i2
 TOi3:TO≠i3
 z1:z∉f1
 z2:z∉f2
 z3:z∉f3
 O1:TO∉f1
 O2:TO∉f2
 O3:TO∉f3
 a12:i1∉f2
 a13:i1∉f3
 a21:i2∉f1
 a23:i2∉f3
 a31:i3∉f1
 a32:i3∉f2
inductive vl(K:yS)(H:Hp)(a b c:yR)(i:Nat):Prop
 |mk (xs ys us:List V) (x y u:V) (q1:YQ K H a xs) (q2:Zn K H b ys) (q3:Zn K H c us) (ex:xs[i]?=Z9 x) (ey:ys[i]?=Z9 y) (eu:us[i]?=Z9 u)
inductive vk(K:yS)(H:Hp)(a b c:yR)(i:Nat):Prop
 |mk (xs ys us:List V) (q1:YQ K H a xs) (q2:Zn K H b ys) (q3:Zn K H c us) (ei:i=min xs.length (min ys.length us.length))
structure Oj(z TI TO i1 i2 i3 l1 l2 l3:yR)(i:Nat)(h:jL):Prop where
 a1:dW h z TI TO .none
 a2:Gx h TI (.ref i1) (.ref i2) (.ref i3)
 a3:∃a b c,Gx h TO a b c
 a4:V7 Z5 h i1 l1 i
 a5:V7 Z7 h i2 l2 i
 a6:V7 Z7 h i3 l3 i
section
variable {z TI TO i1 i2 i3 l1 l2 l3:yR}{i:Nat}{h:jL}
theorem Oj.obj(st:Oj z TI TO i1 i2 i3 l1 l2 l3 i h):∀b∈[z,TI,TO,i1,i2,i3],∃o,h.get? b=Z9 o/\∀v,o.data≠.cell v:=by obtain⟨_,_,_,a⟩:=st.a3;exact XJ ⟨_,st.a1,λv q=>by cases q⟩ (XJ ⟨_,st.a2,λv q=>by cases q⟩ (XJ ⟨_,a,λv q=>by cases q⟩ (XJ st.a4.obj (XJ st.a5.obj (XJ st.a6.obj allN)))))
theorem Oj.ne(st:Oj z TI TO i1 i2 i3 l1 l2 l3 i h){T:yR}(a:h.objs.size<=T):∀b∈[z,TI,TO,i1,i2,i3],b≠T:=λb c=>by obtain⟨o,e,_⟩:=st.obj b c;exact qB7 (qC0 (qB3 e) a)
inductive bT(X:Cx)(s:yQ)(H:Hp)(l1 l2 l3:yR)(i:Nat):Prop
 |mk (xs ys us:List V) (x y u:V) (t1 t2 t3:yB) (u1 u2 u3:yT) (q1:YQ X.K H l1 xs) (q2:Zn X.K H l2 ys) (q3:Zn X.K H l3 us) (ex:xs[i]?=Z9 x) (ey:ys[i]?=Z9 y) (eu:us[i]?=Z9 u)
  (p1:VI Z5 s.heap l1 t1.toArray) (p2:VI Z7 s.heap l2 t2.toArray) (p3:VI Z7 s.heap l3 t3.toArray) (e1:t1[i]?=Z9 u1) (e2:t2[i]?=Z9 u2) (e3:t3[i]?=Z9 u3) (r1:ZH x u1) (r2:ZH y u2) (r3:ZH u u3)
variable {X:Cx}{pins:yD}{Z:St}{H:Hp}{s:yQ}
end
theorem vj{E:yL}{n:Nat}(hs:s.heap.IsSliceOf sl .none .none (.int (-1) t))
  (h:Q ((n:Int) - 1,-1,n) s):jC (yW prog w) A (Builtin.Slice.sliceApplied (.ref sl) (pure (n:Int))) Q E s:=by
 obtain⟨g,a,c,b⟩:=id hs;refine yO (yO (vL a b (x:=.none) rfl (yO (vL a b (x:=.none) rfl (yO (vL a b (x:=.int (-1) t) rfl (yP ?_)))))));have f:Builtin.Slice.sliceAdjust Z8 Z8 (-1) n=((n:Int) - 1,-1):=by rfl
 have e:Builtin.Slice.slicePlaces (n - 1) (-1) (-1)=n:=by
  unfold Builtin.Slice.slicePlaces;have d:¬((-1)>0):=by decide
  simp only[d,if_false];split
  .simp_all
  .lia
 show jC _ _ (pure ((n:Int) - 1,(-1),Builtin.Slice.slicePlaces (n - 1) (-1) (-1))) _ _ s;rw[e];exact yP h
theorem Gw(xs:yJ):((List.range xs.size).filterMap fun(m:Nat)=>xs[(((xs.size:Int) - 1)+(m:Int)*-1).toNat]?).toArray=xs.toList.reverse.toArray:=by
 have a:∀k,k<=xs.size->((List.range k).filterMap fun(m:Nat)=>xs[((xs.size - 1)+(m:Int)*-1).toNat]?)=xs.toList.reverse.take k:=by
  intro k
  induction k with
  |zero=>intro _;simp
  |succ k b =>
   intro hk;rw[qO8,List.filterMap_append,b (by lia),qT7];have c:((xs.size - 1)+(k:Int)*-1).toNat=xs.size - 1 - k:=by lia
   rw[qR5 (by rw[yV];lia),yV];simp only[qJ3,c];rw[jA];rfl
 rw[a _ (qA6 _),qH1 (by simp)]
theorem vi{E:yL}{items:yJ}{Q:yL}(ht:dQ s.heap t items)(hs:s.heap.IsSliceOf sl .none .none (.int (-1) tk))
  (h:Q (.ref s.heap.objs.size) { s with heap:=s.heap.push { cls:=.type "tuple",data:=.seq items.toList.reverse.toArray } }) (d:items.size<=jF):jC (yW prog w) A (fV (.ref t) (.ref sl)) Q E s:=by
 have a:=by show items.toList.reverse.toArray.size<=jF;simpa using d
 obtain⟨f,b,c,g⟩:=id hs;have e:s.TypeIs (.ref sl) "slice":=⟨f,b,c⟩
 unfold fV
 try with_reducible refine jP ?_
 refine yO (g7 ht.typeIs (by decide) ?_);refine yO (jM ht.typeIs jV
  (jK jV ht.typeIs gB ?_ (gK _ _)))
 show jC _ _ (Builtin.Tuple.tupleItemsOf (.ref t) >>= _) _ _ s;refine yO (dU ht ?_);refine yO (j9 e ?_);refine yO (vj hs ?_);show jC _ _ (if((((items.size:Int) - 1)) == 0&&(-1) == 1&&items.size == items.size)=Z7 then _ else _) _ _ s;rw[if_neg (by simp),Gw]
 first
  |exact yO (jS (yP ⟨_,rfl,yP h⟩) a)
  |exact yO (jS (yO (yP (yP ⟨_,rfl,yP h⟩))) a)
  |exact yO (yO (jS (yP (yP ⟨_,rfl,yP h⟩)) a))
  |exact yO (yO (jS (yP ⟨_,rfl,yP h⟩) a))
section
variable {X:Cx}
theorem vh(items:yJ):uU items Z8 Z8 (Z9 (-1))=items.toList.reverse.toArray:=by
 rw[<- Gw items];unfold uU;have e:wU Z8 Z8 (Z9 (-1)) items.size=((items.size:Int) - 1,-1,-1):=rfl;rw[e];unfold sliceRange;have c:(if(-1:Int)>0 then(if(items.size:Int) - 1 < -1 then((-1) - ((items.size:Int) - 1)+(-1) - 1) / (-1)else 0)else(if(items.size:Int) - 1 > -1 then((items.size:Int) - 1 - (-1) - (-1) - 1) / (-(-1))else 0)).toNat=items.size:=by rw[if_neg (by decide),show(-(-1:Int))=1 from rfl,Int.ediv_one];split<;>lia
 dsimp only;rw[c,qS8];congr 2;funext m;show items[((items.size:Int) - 1+-1*(m:Int)).toNat]?=_;rw[Int.mul_comm]
def Lz(K:yS)(e f:TE):TE:=fun Z H Q=>e Z H λx d=>f Z d λy b=>y=.int (-1)/\∃a c,x=.ref a/\((Zn K b a c/\∀p,b p=Z8->Q (.ref p) (ZD b p (.tup c.reverse)))∨(YQ K b a c/\∀p,b p=Z8->Q (.ref p) (ZD b p (.lst c.reverse))))
theorem ZM.rev(r:ZM xs a):ZM xs.reverse a.reverse:=by
 induction r with
 |nil=>exact .nil
 |cons r t b=>rw[qM6,qM6];exact b.append (.cons r .nil)
theorem vg{e st:jH}(he:PE X e t)(m:PE X st p):PE X (.Subscript e (.Slice Z8 Z8 (Z9 st) B) pos) (Lz X.K t p):=by
 intro d s Z H Q I h;refine Subscript_ (Zq (he d s Z H _ I h) λv F ⟨x,A,D,C,L⟩=>?_);refine wpAny_Slice ?_;refine yP (yP (Zq (m d F Z A _ D L) λM j ⟨y,G,w,K,z⟩=>?_));obtain⟨rfl,a,l,rfl,J⟩:=z;obtain⟨E,rfl⟩:=K;cases C;have g:ZP X d Z G { j with heap:=j.heap.push { cls:=.type "slice",data:=.fields #[.none,.none,.int (-1) E] } }:=w.kept (t':=j.toks) λb u q=>qA1 _ q;rcases J with⟨k,q⟩| ⟨k,q⟩
 .obtain⟨f,r,ht,i⟩:=g.tuple k;have c:f.toArray.size=l.length:=by exact r.length.symm
  refine tail_any ht.typeIs PyProof.Rows.slot_tuple_getitem.lookup ?_ (by with_unfolding_all rfl);refine vi ht (qR8.new ..) ?_ (by rw[c];exact i);refine⟨.ref _,_,g.laid (t':=j.toks) (λb u q=>qA1 _ q) (qA6 _) ?_,rfl,q _ (g.hok.fresh (qA6 _))⟩;exact⟨by rw[qL4];exact i,_,r.rev,IsTup.new _ _⟩
 .obtain⟨f,r,n,i⟩:=g.list k;have c:f.toArray.size=l.length:=by exact r.length.symm
  refine tail_any n.isList.typeIs PySem.F.slot_list_getitem.lookup ?_ (by with_unfolding_all rfl);refine lH n.isList (qR8.new ..) .none .none (.int _ _) (by decide) ?_ (by rw[c];exact i);rw[vh];refine⟨.ref _,_,g.laid (t':=j.toks) (o:=.lst l.reverse) (λb u q=>qA1 _ q) (qA6 _) ?_,rfl,q _ (g.hok.fresh (qA6 _))⟩;exact⟨by rw[qL4];exact i,_,0,r.rev,qA9 _ rfl⟩
theorem RJ:∀{a:yB}{b:yA},vO a b->ZM (b.map V.int) a
 |_,_,h=>by
  induction h with
  |nil=>exact .nil
  |cons _ _ _ c=>exact .cons ⟨_,rfl⟩ c
theorem vf:YG X (.builtin "sorted") (λm H Q=>∃(p:yR) (c:yA),m=[.ref p]/\YQ X.K H p (c.map V.int)/\c.length<64/\∀(l:yR) (f:yA),H l=Z8->f.Perm c->f.Pairwise (·<=·)->Q (.ref l) (ZD H l (.lst (f.map V.int)))):=by intro j s Z H C B Q I r h;obtain⟨p,c,rfl,z,n,q⟩:=h;obtain⟨u,rfl,w⟩:=XA r;cases w;obtain⟨d,i,v,D⟩:=I.list z;have a:=i.length;rw[qA0]at a;refine sorted_ints v.isList (SN i) (by lia) λout y t g A=>?_;obtain⟨e,x⟩:=sortedAll_at s.heap d out;have k:=g.length_eq;refine⟨.ref (s.heap.objs.size+1),_,I.laid (t':=s.toks) (λb o e=>sortedAll_old e) (qQ5 _) ?_,rfl,q _ _ (I.hok.fresh (qQ5 _)) g A⟩;exact⟨by rw[qA0,k];exact qD0 (qI5 n) (by decide),out.toList,e,RJ t,by simpa using x⟩
theorem Gv{b:yA}(r:ZM (b.map V.int) d):TruthOf prog w A (λi v=>d.toArray[i]?=Z9 v) (λi=>(b.map (· != 0)).getD i Z5):=by
 intro i v s Q E k l;have a:=by simpa using k
 have f:i<b.length:=by
  have m:=(qA5.mp a).1;have j:=r.length;rw[qA0]at j
  lia
 obtain⟨u,e,h⟩:=ZM.get r (by rw[qB1,qA3 f];rfl);rw[e]at a;cases a;obtain⟨t,rfl⟩:=h;have g:(b.map (· != 0)).getD i Z5=(b[i] != 0):=by simp[qF4,f]
 have c:Q ((b.map (· != 0)).getD i Z5) s:=l;rw[g]at c;exact PyProof.Rows.truthy_int c
theorem ve(x:X.calm=Z7):YG X (.builtin "all") (λm H Q=>∃(p:yR) (a:yA),m=[.ref p]/\Zn X.K H p (a.map V.int)/\Q (.bl (a.all (· != 0))) H):=by
 intro l s Z H B z Q I r h;obtain⟨p,a,rfl,w,q⟩:=h;obtain⟨u,rfl,t⟩:=XA r;cases t;obtain⟨f,k,n,D⟩:=I.tuple w;have d:=n;have g:p<s.heap.objs.size:=by obtain⟨_,e,_⟩:=d;exact qB3 e
 have c:=k.length;rw[qA0]at c;refine call_all_walk (vE d ?_);refine⟨s.heap.objs.size,_,[s.heap.objs.size],_,_,_,_,rfl,Walks.tuple (A:=X.A.in1) (I.ok.hd x) s.heap.objs.size p (qB7 g) f.toArray,⟨⟨_,qA9 _ rfl,rfl,rfl⟩,d.push _⟩,Gv k,λC v y=>?_⟩;have e:(List.range f.toArray.size).all (λi=>(a.map (· != 0)).getD i Z5)=a.all (· != 0):=by rw[qB5,<- c,show a.length=(a.map (· != 0)).length by simp,GJ,qP3];rfl
 rw[e];refine⟨.bl (a.all (· != 0)),H,?_,rfl,q⟩;exact I.kept (t':=v) λb o j=>y b o (by simp only[qB2];exact qB7 (qB3 j)) (qA1 _ j)
theorem vd(x:X.calm=Z7):YG X (.builtin "any") (λm H Q=>∃(p:yR) (a:yA),m=[.ref p]/\Zn X.K H p (a.map V.int)/\Q (.bl (a.any (· != 0))) H):=by
 intro l s Z H B z Q I r h;obtain⟨p,a,rfl,w,q⟩:=h;obtain⟨u,rfl,t⟩:=XA r;cases t;obtain⟨f,k,n,D⟩:=I.tuple w;have d:=n;have g:p<s.heap.objs.size:=by obtain⟨_,e,_⟩:=d;exact qB3 e
 have c:=k.length;rw[qA0]at c;refine call_any_walk (vE d ?_);refine⟨s.heap.objs.size,_,[s.heap.objs.size],_,_,_,_,rfl,Walks.tuple (A:=X.A.in1) (I.ok.hd x) s.heap.objs.size p (qB7 g) f.toArray,⟨⟨_,qA9 _ rfl,rfl,rfl⟩,d.push _⟩,Gv k,λC v y=>?_⟩;have e:(List.range f.toArray.size).any (λi=>(a.map (· != 0)).getD i Z5)=a.any (· != 0):=by rw[qB5,<- c,show a.length=(a.map (· != 0)).length by simp,GI,qT6];rfl
 rw[e];refine⟨.bl (a.any (· != 0)),H,?_,rfl,q⟩;exact I.kept (t':=v) λb o j=>y b o (by simp only[qB2];exact qB7 (qB3 j)) (qA1 _ j)
theorem vc:RO X "int.bit_length" (λx b H Q=>∃i:Int,x=.int i/\b=[]/\Q (.int ((Builtin.Int.intBits i:Nat):Int)) H):=by intro a s Z H x d v e Q I c rs h;obtain⟨i,rfl,rfl,q⟩:=h;obtain⟨t,rfl⟩:=c;have:=rs.zero;subst this;exact call_int_bit_length ⟨.int _,H,I.tok _,⟨_,rfl⟩,q⟩
end
section
variable {X:Cx}{pins:yD}{Z:St}{H:Hp}{s:yQ}
theorem ZP.dTnil(I:ZP X pins Z H s)(e:H a=Z9 (.dK [])):ZP X pins Z (ZD H a (.dT [])) s:=by
 obtain⟨z,k,i,r,o,d,g,c,j,l,n,h,p⟩:=SL I.hok e;have f:i=[]:=by cases r;rfl
 subst f;have m:d.toList=[]:=by have:=h.length;exact qF5.mp (by simpa using this)
 refine I.write (x:=a) (e:=a) (h':=s.heap) (t':=s.toks) (by rw[e];exact True.intro) (.inl rfl) (λb u _ q=>q) ⟨o,c⟩ ?_;exact⟨qC6 _,k,[],.nil,o,d,g,c,j,l,by simpa using m,qV6⟩
end
def Va(h:jL)(d:yR)(es:Array wN)(ep:Nat):Prop:=∃o,h.get? d=Z9 o/\o.cls=.type "dict"/\o.data=.dict es ep
theorem Va.at(x:Va h d es ep)(e:∀o,h.get? d=Z9 o->h'.get? d=Z9 o):Va h' d es ep:=let ⟨o,ho,r⟩:=x;⟨o,e o ho,r⟩
theorem Va.lt(x:Va h d es ep):d<h.objs.size:=let ⟨_,ho,_⟩:=x;qB3 ho
section
variable {prog:yZ}{w:jJ}{A:jI}{E:yL}{s:yQ}{z TI TO:yR}{f0:yT}
theorem Gu:isSubtype (.type "AttributeError") (.type "AttributeError")=pure Z7:=by kernel_rfl
end
section
variable {prog:yZ}{w:jJ}{A:jI}{z TI TO i1 i2 d:yR}{f1 f2:yC}{n1 n2:Nat}{P1 P2:Nat->yT->Prop}{S1 S2:Nat->jL->Prop}
theorem Gs:entryFor table "dict.update.loop"=Z9 Builtin.«dict.update.loop»:=by kernel_rfl
theorem Gr(a:Args):(Code.builtin "dict.update.loop" a).quiet=Z7:=by kernel_rfl
end
section
variable {prog:yZ}{w:jJ}{A:jI}{E:yL}{s:yQ}{it d:yR}{i ep:Nat}{es:Array wN}
theorem Gq{Q:yF->yQ->Prop}(f:s.heap.IsKeyIter it d i es.size ep)(l:Va s.heap d es ep)(k:es[i]?=Z9 e)
  (p:∀h',h'.IsKeyIter it d (i+1) es.size ep->qE3 it s.heap h'->Q (Z9 e.key) { s with heap:=h' }):jC (yW prog w) A (mY (.ref it)) Q E s:=by
 have ty:=f.typeIs;obtain⟨o,j,m,g⟩:=id f;obtain⟨q,b,_,a⟩:=l;refine yO (vM (jM ty vX (jK vX ty fW ?_ (fT _))));refine yO (yP (yO (yO (yO (vS ty (yP (yO (wV j g ?_))))))));refine yO (yP (yO (g9 b a ?_)));rw[if_neg (by simp)];refine yO (yP (yO (mM b a ?_)));rw[if_neg (by simp)];refine yP ?_;have n:¬((i:Int)<0):=by lia
 simp only[n,if_false,qE0,k];refine yO (yO (vS ty (yP (yO (mQ ty ?_)))));show jC _ _ (setField (.ref it) 1 (fI (i+1)) >>= _) _ _ s;refine yO (vP j g (by simp) ?_);have c:(s.heap.update it (lJ (·.setIfInBounds 1 (fI (i+1))))).IsKeyIter it d (i+1) es.size ep :=
  ⟨_,qG2 _ j (wR (vJ g _)),(fL ..).trans m,by rw[vJ g];simp[fI]⟩
 have h:Shared.TypeIs { s with heap:=s.heap.update it (lJ (·.setIfInBounds 1 (fI (i+1)))) } (.ref it) "dict_keyiterator":=c.typeIs;refine yO (jP (yO (mQ h ?_)));exact yP (yP ⟨_,rfl,yP (p _ c (qE3.update ..))⟩)
theorem QD{Q:yF->yQ->Prop}(j:A.handled=Z8)(c:s.heap.IsKeyIter it d i es.size ep)(h:Va s.heap d es ep)(g:es[i]?=Z8)
  (l:∀h',qR9 it s.heap h'->Q Z8 { s with heap:=h' }):jC (yW prog w) A (mY (.ref it)) Q E s:=by
 have ty:=c.typeIs;obtain⟨o,e,n,f⟩:=id c;obtain⟨m,b,_,a⟩:=h;refine yO (vM (jM ty vX (jK vX ty fW ?_ (fT _))));refine yO (yP (yO (yO (yO (vS ty (yP (yO (wV e f ?_))))))));refine yO (yP (yO (g9 b a ?_)));rw[if_neg (by simp)];refine yO (yP (yO (mM b a ?_)));rw[if_neg (by simp)];refine yP ?_;have k:¬((i:Int)<0):=by lia
 simp only[k,if_false,qE0,g];refine yO (yO (vS ty (yP ?_)));refine yO (vP (i:=0) e f (by simp) ?_);refine gC j ?_;refine yO (wA ⟨_,qA9 _ rfl,rfl⟩ gM ?_);exact yP (l _ (((qE3.update ..).extBut.push _).push _))
theorem Gp{Q:yL}(lo:(d == vV)=Z5)(c:Va s.heap d es ep)
  (f:Q (.ref s.heap.objs.size) { s with heap:=s.heap.push { cls:=.type "dict_keyiterator",data:=.fields #[.ref d,.int 0 0,.int es.size 0,.int ep 0] } }):jC (yW prog w) A (mZ (.ref d)) Q E s:=by
 obtain⟨o,b,e,a⟩:=c;have ty:s.TypeIs (.ref d) "dict":=⟨o,b,e⟩
 refine lA ty F.slot_dict_iter (jK F.slot_dict_iter ty F.entry_dict_iter ?_ (F.args_dict_iter_1 _));refine yO (yO (mR ty (yO (yP (yP ?_)))));refine yO (yP ?_);unfold Builtin.Dict.showsAll;rw[if_neg (by rw[lo];exact qB4)];refine yO (yP (yO (g9 b a (yO (mM b a ?_)))));refine yO (jS (yP ⟨_,rfl,"dict_keyiterator",_,⟨_,qA9 _ rfl,rfl⟩,F.slot_dict_keyiterator_next.lookup,?_⟩));simpa[fI]using f
end
theorem Oi{xs:List b}{ys:List a}(r:mW R xs ys):∀{i:Nat}{y:a},ys[i]?=Z9 y->∃x,xs[i]?=Z9 x/\R x y:=by
 induction r with
 |nil=>intro i y e;simp at e
 |cons h t c =>
  intro i y e;cases i with
  |zero=>simp at e;subst e;exact⟨_,rfl,h⟩
  |succ i=>exact c (by simpa using e)
def Rs(xs:Array Nat):Prop:=xs.toList.Pairwise (·<·)
theorem Rs.get(h:Rs xs){i j a b:Nat}(c:xs[i]?=Z9 a)(d:xs[j]?=Z9 b)(l:i<j):a<b:=by rw[<- jA]at c d;obtain⟨f,rfl⟩:=qA5.mp c;obtain⟨e,rfl⟩:=qA5.mp d;exact qQ1.mp h i j f e l
def Bl(xs:Array Nat)(j r:Nat):Prop:=r<=xs.size/\(∀i a,xs[i]?=Z9 a->i<r->a<j)/\∀i a,xs[i]?=Z9 a->r<=i->j<=a
theorem Ly{xs:Array Nat}(h:Rs xs)(j:Nat):∀(n lo hi:Nat),hi - lo<=n->lo<=hi->hi<=xs.size->(∀i a,xs[i]?=Z9 a->i<lo->a<j)->(∀i a,xs[i]?=Z9 a->hi<=i->j<=a)->Bl xs j (SetTable.below.go xs j n lo hi)
 |0,lo,hi,h1,h2,h3,h4,h5=>by
  have e:lo=hi:=by omega
  subst e;exact⟨h3,h4,h5⟩
 |n+1,lo,hi,h1,h2,h3,h4,h5=>by
  unfold SetTable.below.go;split
  .rename_i k;have f:(lo+hi) / 2<xs.size:=by omega
   have c:=jE f;have g:xs.getD ((lo+hi) / 2) j=xs[(lo+hi) / 2]:=by simp[f]
   simp only[g];split
   .rename_i d;refine Ly h j n _ hi (by omega) (by omega) h3 (λi a b hi2=>?_) h5;by_cases e:i=(lo+hi) / 2
    .simp_all
    .exact qR0 (h.get b c (by omega)) d
   .rename_i d;refine Ly h j n lo _ (by omega) (by omega) (by omega) h4 (λi a b hi2=>?_);by_cases e:i=(lo+hi) / 2
    .simp_all
    .have:=h.get c b (by omega);omega
  .have e:lo=hi:=by omega
   subst e;exact⟨h3,h4,h5⟩
theorem QC(h:Rs xs)(j:Nat):Bl xs j (SetTable.below xs j):=by
 refine Ly h j _ 0 xs.size (by lia) (by lia) (qA6 _) (λi a _ l=>absurd l (qG9 _)) λi a b l=>?_;have:i<xs.size:=by
  rcases qK9 i xs.size with g|g
  .exact g
  .simp_all
 lia
theorem Bl.uniq(a:Bl xs j r)(b:Bl xs j r'):r=r':=by
 obtain⟨g,e,f⟩:=a;obtain⟨b1,d,c⟩:=b;rcases qM7 r r' with l|l|l
 .have:=d r _ (jE (by lia)) l;have:=f r _ (jE (by lia)) (qA6 _)
  lia
 .exact l
 .have:=e r' _ (jE (by lia)) l;have:=c r' _ (jE (by lia)) (qA6 _)
  lia
theorem Rs.insert(h:Rs xs)(r:xs[SetTable.below xs j]?≠Z9 j):Rs (SetTable.insertAt xs (SetTable.below xs j) j):=by
 obtain⟨b1,q,n⟩:=QC h j;unfold Rs;rw[SetTable.toList_insertAt];have e:xs.toList=xs.toList.take (SetTable.below xs j)++xs.toList.drop (SetTable.below xs j):=(qD2 _ _).symm;have f:=h;unfold Rs at f;rw[e,qC3]at f;obtain⟨s,t,u⟩:=f;have w:∀a∈xs.toList.take (SetTable.below xs j),a<j:=λa c=>by obtain⟨i,d,rfl⟩:=qK3 c;rw[qE4]at d;refine q i _ ?_ (by lia);rw[<- jA,List.getElem_take];exact qA3 _
 have p:∀a∈xs.toList.drop (SetTable.below xs j),j<a:=λa c=>by
  obtain⟨i,d,rfl⟩:=qK3 c;rw[qH0]at d;have g:xs[SetTable.below xs j+i]?=Z9 ((xs.toList.drop (SetTable.below xs j))[i]):=by rw[<- jA,qM8];exact qA3 _
  have l:=n _ _ g (by lia);rcases qP6 l with l|l
  .exact l
  .exfalso;by_cases v:i=0
   .subst v;rw[<- l]at g;exact r g
   .have k:SetTable.below xs j<xs.size:=by rw[yV]at d;lia
    have o:=jE k;have:=h.get o g (by lia);have:=n _ _ o (qA6 _)
    lia
 rw[qC3,qG0];refine⟨s,⟨p,t⟩,λa c b m=>?_⟩;rcases qB0.mp m with rfl|m
 .exact w a c
 .exact u a c b m
structure TOk(bt:Bool)(t:vA):Prop where
 led:t.led=!bt
 up:t.plain=Z7->Rs t.place
theorem TOk.fresh(bt:Bool):TOk bt (.fresh 0 0 (!bt)):=⟨rfl,λ_=>by simp[SetTable.fresh,Rs]⟩
theorem vb(e:SetTable.laid m f v l p hs=Z9 (t,o)):t.led=l/\t.plain=p/\Rs t.place:=by
 obtain⟨d,_,e⟩:=qA4.mp e;cases e;refine⟨rfl,rfl,?_⟩;have i:∀c:List Nat,(c.filterMap λj=>(d.getD j Z8).map (j,·)).map (·.1)=c.filter λj=>(d.getD j Z8).isSome:=by
  intro c
  induction c with
  |nil=>rfl
  |cons a c g =>
   cases h:d.getD a Z8 with
   |none=>rw[List.filterMap_cons_none (by rw[h];rfl),List.filter_cons_of_neg (by rw[h];exact qB4),g]
   |some b=>rw[qQ7 (by rw[h];rfl),List.filter_cons_of_pos (by rw[h];rfl),qB8,g]
 rw[i];exact List.Pairwise.filter _ qM9
def one(zs:yA)(z:Int):yA:=if z∈zs then zs else z::zs
def V6(w:jJ):Bool:=w.params.followText "set-order"
def TL(w:jJ):Obj:={ cls:=.type "set",dict:=Z8,data:=.set #[] 0 (.fresh 0 0 (!V6 w)) }
section
variable {prog:yZ}{w:jJ}{A:jI}{E:yL}{s:yQ}
theorem va(a:yT){Q:yL}(h:Q (.ref s.heap.objs.size) { s with heap:=s.heap.push (TL w) }):
  wJ (yW prog w) A (.call (.builtin "set.__new__") ⟨[.type "set",a],[]⟩) (wants Q E) s:=by
 refine codeAny_of_tree ?_;show jC _ A.in1 (do checkBuiltinCall "set.__new__" ⟨[.type "set",a],[]⟩;again (.builtin "set.__new__" ⟨[.type "set",a],[]⟩)) _ _ s;refine yO (wpAny_of_eq (PySem.F.newCall_set_1 a) (yP ⟨lK mS _,vH PySem.F.entry_set_new ?_⟩));rw[Around.under_plainId mS _];unfold Builtin.«set.__new__» Builtin.Frozenset.newClass;have b:=sub_set_self;obtain⟨c,g,d,e,f⟩:=s;dsimp only
 wp_walk
 refine lV (yP ?_);dsimp only;simp only[newObj];refine yO (wpAny_alloc (yP ?_));exact yP h
end
theorem Gn:Manifest.owners.lookup (String.ofList ['r','o','t','a','r','e','t','i','_','t','e','s'].reverse)=Z9 Manifest.sig_set_iterator:=by kernel_rfl
theorem U9:Slot "set_iterator" "__next__" "set_iterator.__next__" :=
 .of (owner := "set_iterator") (n := "__next__") (by rw[typeLookup_type,mT];kernel_rfl) (by decide) (by decide) (by decide)
  (by first|exact .inl (by decide)| exact .inr (by decide)) (by rw[isSubtype_type];kernel_rfl)
theorem Gm:Slot "set_iterator" "__iter__" "set_iterator.__iter__" :=
 .of (owner := "set_iterator") (n := "__iter__") (by rw[typeLookup_type,mT];kernel_rfl) (by decide) (by decide) (by decide)
  (by first|exact .inl (by decide)| exact .inr (by decide)) (by rw[isSubtype_type];kernel_rfl)
theorem Oh:entryFor table "set_iterator.__next__"=Z9 Builtin.«set_iterator.__next__»:=entryFor_of_tree (by kernel_rfl)
theorem u9:entryFor table "set_iterator.__iter__"=Z9 Builtin.«dict_keyiterator.__iter__»:=entryFor_alias (id' := "dict_keyiterator.__iter__") (by kernel_rfl) rfl (by decide) (by kernel_rfl)
theorem u5:entryFor table "set.__iter__"=Z9 Builtin.«frozenset.__iter__»:=entryFor_alias (id' := "frozenset.__iter__") (by kernel_rfl) rfl (by decide) (by kernel_rfl)
theorem Og(a:yT):argsOk "set_iterator.__next__" ⟨[a],[]⟩:=by unfold argsOk;rw[signature?_of (id := "set_iterator.__next__") (n:=['_','_','t','x','e','n','_','_']) (o:=['r','o','t','a','r','e','t','i','_','t','e','s']) (by kernel_rfl) Gn];kernel_rfl
theorem uz(a:yT):argsOk "set_iterator.__iter__" ⟨[a],[]⟩:=by unfold argsOk;rw[signature?_of (id := "set_iterator.__iter__") (n:=['_','_','r','e','t','i','_','_']) (o:=['r','o','t','a','r','e','t','i','_','t','e','s']) (by kernel_rfl) Gn];kernel_rfl
def YO(h:jL)(a S:yR)(f:yT)(i n ep:Nat):Prop:=∃o,h.get? a=Z9 o/\o.cls=.type "set_iterator"/\o.data=.fields #[f,.int (i:Int) 0,.ref S,.int (n:Int) 0,.int (ep:Int) 0]
section
variable {prog:yZ}{w:jJ}{A:jI}{E:yL}{s:yQ}{it S:yR}{f:yT}{i n ep:Nat}
theorem YO.ty(h:YO s.heap it S f i n ep):s.TypeIs (.ref it) "set_iterator":=let ⟨o,g,c,_⟩:=h;⟨o,g,c⟩
theorem YO.at(x:YO h it S f i n ep)(e:∀o,h.get? it=Z9 o->h'.get? it=Z9 o):YO h' it S f i n ep:=let ⟨o,g,r⟩:=x;⟨o,e _ g,r⟩
theorem YO.set0(x:YO h it S f i n ep)(f':yT):YO (h.update it (lJ (·.setIfInBounds 0 f'))) it S f' i n ep:=by obtain⟨o,g,c,d⟩:=x;exact⟨_,qG2 _ g (wR (vJ d _)),(fL ..).trans c,by rw[vJ d];simp⟩
theorem YO.set1(x:YO h it S f i n ep)(j:Nat):YO (h.update it (lJ (·.setIfInBounds 1 (.int (j:Int) 0)))) it S f j n ep:=by obtain⟨o,g,c,d⟩:=x;exact⟨_,qG2 _ g (wR (vJ d _)),(fL ..).trans c,by rw[vJ d];simp⟩
theorem Lx{Q:yL}(a:YO s.heap it S f i n ep)(h:Q (.ref it) s):jC (yW prog w) A (mZ (.ref it)) Q E s:=by refine lA a.ty Gm (jK Gm a.ty u9 ?_ (uz _));exact yP ⟨_,rfl,"set_iterator",_,a.ty,U9.lookup,h⟩
theorem Gk{sl b:Nat}{Q:yF->yQ->Prop}(a:YO s.heap it S (.int (sl:Int) 0) i es.size ep)(g:s.heap.get? S=Z9 o)(d:o.data=.set es ep t)(q:t.fits es.size=Z7)
  (k:∀(A:jI) (E:yL) (R:Option (yT×Nat)->yQ->Prop),R (Z9 (x,b)) s->jC (yW prog w) A (setNext S sl i ep) R E s)
  (m:∀h',YO h' it S (.int (b:Int) 0) (i+1) es.size ep->qE3 it s.heap h'->Q (Z9 x) { s with heap:=h' }):jC (yW prog w) A (mY (.ref it)) Q E s:=by have ty:=a.ty;obtain⟨u,c,y,e⟩:=id a;refine yO (vM (jM ty U9 (jK U9 ty Oh ?_ (Og _))));refine yO (yP (yO (wV c e ?_)));dsimp only;refine yO (yO (jR g d q (yP ?_)));rw[if_neg (by simp)];refine yO (k _ _ _ ?_);refine yO (vP c e (by simp) ?_);have h:=a.set0 (.int b 0);obtain⟨v,j,r,l⟩:=id h;refine yO (vP j l (by simp) ?_);have p:=h.set1 (i+1);exact yP ⟨_,rfl,yP (m _ p ((qE3.update ..).trans (qE3.update ..)))⟩
theorem Gj{sl:Nat}{Q:yF->yQ->Prop}(j:A.handled=Z8)(a:YO s.heap it S (.int (sl:Int) 0) i es.size ep)(g:s.heap.get? S=Z9 o)(d:o.data=.set es ep t)(h:t.fits es.size=Z7)
  (e:∀(A:jI) (E:yL) (R:Option (yT×Nat)->yQ->Prop),R Z8 s->jC (yW prog w) A (setNext S sl i ep) R E s)
  (k:∀h',qR9 it s.heap h'->Q Z8 { s with heap:=h' }):jC (yW prog w) A (mY (.ref it)) Q E s:=by have ty:=a.ty;obtain⟨m,b,l,c⟩:=id a;refine yO (vM (jM ty U9 (jK U9 ty Oh ?_ (Og _))));refine yO (yP (yO (wV b c ?_)));dsimp only;refine yO (yO (jR g d h (yP ?_)));rw[if_neg (by simp)];refine yO (e _ _ _ ?_);refine yO (vP b c (by simp) ?_);refine gC j ?_;refine yO (wA ⟨_,qA9 _ rfl,rfl⟩ gM ?_);exact yP (k _ (((qE3.update ..).extBut.push _).push _))
theorem uy{e:yJ}{p:Nat}{Q:yF->yQ->Prop}(a:YO s.heap it S (.ref T) i es.size ep)(q:s.heap.IsTuple T e)(g:s.heap.get? S=Z9 o)(d:o.data=.set es ep t)(h:t.fits es.size=Z7)
  (m:e[i]?=Z9 (.int (p:Int) 0)) (j:es[p]?=Z9 (z,x))
  (k:∀h',YO h' it S (.ref T) (i+1) es.size ep->qE3 it s.heap h'->Q (Z9 x) { s with heap:=h' }):jC (yW prog w) A (mY (.ref it)) Q E s:=by have ty:=a.ty;obtain⟨r,b,u,c⟩:=id a;refine yO (vM (jM ty U9 (jK U9 ty Oh ?_ (Og _))));refine yO (yP (yO (wV b c ?_)));dsimp only;refine yO (yO (jR g d h (yP ?_)));rw[if_neg (by simp)];obtain⟨v,gT,cT,y,dT⟩:=id q;refine yO (vG gT dT ?_);simp only[qE0,m];refine yO (yO (jR g d h ?_));dsimp only;rw[if_neg (by simp)];simp only[j];refine yP ?_;refine yO (vP b c (by simp) ?_);have l:=a.set1 (i+1);exact yP ⟨_,rfl,yP (k _ l (qE3.update ..))⟩
theorem ux{e:yJ}{Q:yF->yQ->Prop}(j:A.handled=Z8)(a:YO s.heap it S (.ref T) i es.size ep)(q:s.heap.IsTuple T e)(g:s.heap.get? S=Z9 o)(d:o.data=.set es ep t)(p:t.fits es.size=Z7)
  (m:e[i]?=Z8) (l:∀h',qR9 it s.heap h'->Q Z8 { s with heap:=h' }):jC (yW prog w) A (mY (.ref it)) Q E s:=by have ty:=a.ty;obtain⟨u,b,x,c⟩:=id a;refine yO (vM (jM ty U9 (jK U9 ty Oh ?_ (Og _))));refine yO (yP (yO (wV b c ?_)));dsimp only;refine yO (yO (jR g d p (yP ?_)));rw[if_neg (by simp)];obtain⟨y,gT,cT,z,dT⟩:=id q;refine yO (vG gT dT ?_);simp only[qE0,m];refine yO (vP b c (by simp) ?_);obtain⟨v,h,r,k⟩:=a.set0 (.int 0 0);refine yO (vP h k (by simp) ?_);refine gC j ?_;refine yO (wA ⟨_,qA9 _ rfl,rfl⟩ gM ?_);exact yP (l _ ((((qE3.update ..).trans (qE3.update ..)).extBut.push _).push _))
end
theorem Lw{b:Type}:∀{l:List b}{i:Nat} (h:i<l.length),(l[i]::l.eraseIdx i).Perm l
 |a::l,0,h=>.refl _
 |a::l,i+1,h=>by
  have c:=by simpa using h
  exact(List.Perm.swap _ _ _).trans ((Lw c).cons a)
theorem Gi(next:Nat->Nat):∀(n k:Nat) (l:List b) (out:Array b),l.length=n->(pickOrder.go next n k l out).toList.Perm (out.toList++l)
 |0,k,l,out,h=>by rw[qF5.mp h];unfold pickOrder.go;simp
 |n+1,k,l,out,h=>by
  unfold pickOrder.go;have a:next k % l.length<l.length:=qR1 _ (by lia)
  rw[qA3 a];refine(Gi next n (k+1) _ _ (by rw[qP7 a];lia)).trans ?_;rw[lB,qC1];refine List.Perm.append_left _ ?_;exact Lw a
theorem Lv(next:Nat->Nat)(xs:Array a):(dO next xs).toList.Perm xs.toList:=by
 have:=Gi next xs.size 0 xs.toList #[] (by rw[yV])
 simpa[dO]using this
section
variable {prog:yZ}{w:jJ}{A:jI}{E:yL}{s:yQ}{S:yR}{i sl ep:Nat}{es:Array (Int×yT)}{t:vA}{o:Obj}
theorem Of(a:V6 w=b)(h:Q b s):jC (yW prog w) A setsByText Q E s:=by refine yO (lV (yP ?_));subst a;exact h
theorem Gh(b:V6 w=Z7)(g:s.heap.get? S=Z9 o)(d:o.data=.set es ep t)(a:t.fits es.size=Z7)
  (h:R (((dO (w.params.setOrder S ep) es)[i]?).map λe=>(e.2,sl)) s):jC (yW prog w) A (setNext S sl i ep) R E s:=by refine yO (jR g d a (yO (Of b ?_)));rw[if_pos rfl];rw[if_neg (by simp)];refine yO (yO (jR g d a (yO (Of b ?_))));refine yO (lV (yP (yP h)))
theorem Gg(f:V6 w=Z5)(g:s.heap.get? S=Z9 o)(d:o.data=.set es ep t)(e:t.fits es.size=Z7)(c:t.led=Z7)(b:(!t.plain&&decide (es.size>1))=Z5)
  (h:R (match es[SetTable.below t.place sl]?,t.place[SetTable.below t.place sl]? with|some (_,x),Z9 j=>Z9 (x,j+1)| _,_=>Z8) s):jC (yW prog w) A (setNext S sl i ep) R E s:=by refine yO (jR g d e (yO (Of f ?_)));rw[if_neg (by simp)];refine wM (λa=>absurd a (by show ¬((!t.plain&&decide (es.size>1))=Z7);rw[b];exact qB4)) λ_=>?_;refine yO ?_;show jC _ _ (if(!t.led&&!es.isEmpty)=Z7 then unsupported _ else pure ()) _ _ _;rw[c,if_neg (by simp)];exact yP (yP h)
theorem Gf{b:Type}:∀(n:Nat) (xs:List b) {s:yQ}{Q:List b->yQ->Prop},xs.length=n->(∀ys d,ys.Perm xs->Q ys { s with drawn:=d })->jC (yW prog w) A (drawOrder n xs) Q E s
 |0,xs,s,Q,hl,h=>by rw[qF5.mp hl]at h;exact yP (h [] s.drawn .nil)
 |n+1,[],s,Q,hl,h=>by cases hl
 |n+1,x::xs,s,Q,hl,h=>by
  refine yO ?_;have e:∀k R,k≠0->(∀i d,i<k->R i { s with drawn:=d })->jC (yW prog w) A (choose .order k) R E s:=by intro k R hk f j p l;exact⟨hk,by exact f _ _ (qR1 _ (by lia))⟩
  refine e _ _ (by simp) λi d a=>?_;rw[qA3 a];refine yO (Gf n _ (by rw[qP7 a];lia) λys g c=>yP (h _ _ ?_));exact(List.Perm.cons _ c).trans (Lw a)
end
section
variable {prog:yZ}{w:jJ}{A:jI}{E:yL}{s:yQ}{S I T:yR}{ep:Nat}{es:Array (Int×yT)}{t:vA}{o:Obj}{vs:yB}
theorem uw(p:A.handled=Z8)(j:S≠I)(a:V6 w=Z7)(d:o.data=.set es ep t)(f:t.fits es.size=Z7):
  Walks prog w A I [I,S] [I] es.size (λi v=>((dO (w.params.setOrder S ep) es).toList.map (·.2))[i]?=Z9 v) (λi h=>YO h I S (.int 0 0) i es.size ep/\h.get? S=Z9 o) where
 sub:=λb a=>by simp at a;simp[a]
 frame:=λ_ _ _ st hk=>⟨st.1.at λo e=>hk I (by simp) o e,hk S (by simp) _ st.2⟩
 item:=λi s Q E n st c=>by
  have l:i<(dO (w.params.setOrder S ep) es).size:=by rw[<- yV,(Lv _ es).length_eq,yV];exact n
  refine Gk (sl:=0) st.1 st.2 d f (λA E R g=>Gh a st.2 d f (by rw[jE l];exact g)) λk hi2 sb=>?_;refine c _ k s.toks ?_ ⟨hi2,(sb.2 S j).trans st.2⟩ λb o a e=>(sb.2 b (λh=>a (by simp[h]))).trans e;rw[qB1,jA,jE l];rfl
 done:=λs Q E st c=>by refine Gj (sl:=0) p st.1 st.2 d f (λA E R g=>Gh a st.2 d f (by rw[wL (by rw[<- yV,(Lv _ es).length_eq,yV];exact qA6 _)];exact g)) λk m=>?_;exact c k s.toks λb o a e=>m b o (λh=>a (by simp[h])) e
 self:=λ_ _ _ _ st c=>Lx st.1 c
theorem uv(h:Rs xs):SetTable.below xs 0=0:=(QC h 0).uniq ⟨qC6 _,λi a _ l=>absurd l (qG9 _),λ_ _ _ _=>qC6 _⟩
theorem uu(h:Rs xs)(hi:i<xs.size):SetTable.below xs (xs[i]+1)=i+1:=by
 refine(QC h _).uniq ⟨hi,λj a b l=>?_,λj a b l=>?_⟩
 .rcases qP6 (Nat.le_of_lt_succ l)with l|l
  .exact qF1 (h.get b (jE hi) l)
  .simp_all
 .exact h.get (jE hi) b l
theorem ur(y:A.handled=Z8)(k:S≠I)(a:V6 w=Z5)(d:o.data=.set es ep t)(c:t.fits es.size=Z7)(m:t.led=Z7)(r:(!t.plain&&decide (es.size>1))=Z5)(z:Rs t.place):
  Walks prog w A I [I,S] [I] es.size (λi v=>(es.toList.map (·.2))[i]?=Z9 v) (λi h=>(∃sl:Nat,SetTable.below t.place sl=i/\YO h I S (.int (sl:Int) 0) i es.size ep)/\h.get? S=Z9 o) where
 sub:=λb a=>by simp at a;simp[a]
 frame:=λ_ _ _ st hk=>⟨let ⟨sl,e,q⟩:=st.1;⟨sl,e,q.at λo e=>hk I (by simp) o e⟩,hk S (by simp) _ st.2⟩
 item:=λi s Q E p st f=>by
  obtain⟨⟨sl,e,q⟩,g⟩:=st;have B:=by simp only[SetTable.fits,qD3,beq_iff_eq]at c;exact c.1
  have n:i<t.place.size:=by lia
  refine Gk (x:=es[i].2) q g d c (λA E R j=>Gg a g d c m r (by rw[e,jE p,jE n];exact j)) λl hi2 sb=>?_;refine f _ l s.toks ?_ ⟨⟨_,uu z n,hi2⟩,(sb.2 S k).trans g⟩ λb o a e=>(sb.2 b (λh=>a (by simp[h]))).trans e;rw[qB1,jA,jE p];rfl
 done:=λs Q E st f=>by obtain⟨⟨sl,e,q⟩,g⟩:=st;refine Gj y q g d c (λA E R j=>Gg a g d c m r (by rw[e,wL (qA6 _)];exact j)) λl u=>?_;exact f l s.toks λb o a e=>u b o (λh=>a (by simp[h])) e
 self:=λ_ _ _ _ st f=>let ⟨_,_,q⟩:=st.1;Lx q f
theorem uq(y:A.handled=Z8)(j:S≠I)(B:T≠I)(d:o.data=.set es ep t)(n:t.fits es.size=Z7){ps:List Nat}(k:ps.Perm (List.range es.size)):
  Walks prog w A I [I,S,T] [I] es.size (λi v=>(ps.map λp=>((es[p]?).map (·.2)).getD .none)[i]?=Z9 v) (λi h=>YO h I S (.ref T) i es.size ep/\h.IsTuple T (ps.map fun(p:Nat)=>Value.int (p:Int) 0).toArray/\h.get? S=Z9 o) where
 sub:=λb a=>by simp at a;simp[a]
 frame:=λ_ _ _ st hk=>⟨st.1.at λo e=>hk I (by simp) o e,let ⟨o,g,r⟩:=st.2.1;⟨o,hk T (by simp) _ g,r⟩,hk S (by simp) _ st.2.2⟩
 item:=λi s Q E u st c=>by
  have f:i<ps.length:=by rw[k.length_eq,qD4];exact u
  have m:=qC7.mp (k.mem_iff.mp (qD5 f));refine uy (z:=es[ps[i]].1) (x:=es[ps[i]].2) st.1 st.2.1 st.2.2 d n ?_ (jE m) λl hi2 sb=>?_
  .rw[qD7,qB1,qA3 f];rfl
  refine c _ l s.toks ?_ ⟨hi2,st.2.1.extBut sb.extBut B,(sb.2 S j).trans st.2.2⟩ λb o a e=>(sb.2 b (λh=>a (by simp[h]))).trans e;rw[qB1,qA3 f,qO7,jE m];rfl
 done:=λs Q E st c=>by
  refine ux y st.1 st.2.1 st.2.2 d n ?_ λl q=>?_
  .rw[qD7,qB1,qG3 (by rw[k.length_eq,qD4];exact qA6 _)];rfl
  exact c l s.toks λb o a e=>q b o (λh=>a (by simp[h])) e
 self:=λ_ _ _ _ st c=>Lx st.1 c
theorem uo(es:Array (Int×yT)):(List.range es.size).map (λp=>((es[p]?).map (·.2)).getD .none)=es.toList.map (·.2):=by
 refine qU3 (by simp) λj a c=>?_;have b:=by simpa using a
 simp[b]
inductive um(prog:yZ)(w:jJ)(A:jI)(h0:jL)(S I:yR)(h':jL)(n:Nat)(vs:yB):Prop
 |mk (fp:yC) (St:Nat->jL->Prop) (vals:yB) (p:vals.Perm vs) (W:Walks prog w A I fp [I] n (λi v=>vals[i]?=Z9 v) St) (st:St 0 h') (f:∀b∈fp,b=S∨h0.objs.size<=b) (i:h0.objs.size<=I)
theorem uk{Q:yL}(g:s.heap.get? S=Z9 o)(x:o.ExactSet)(d:o.data=.set es ep t)(c:t.fits es.size=Z7)(k:TOk (V6 w) t)(r:es.size<scanBound)
  (u:∀(I:yR) (h':jL) dr,(∀b o,s.heap.get? b=Z9 o->h'.get? b=Z9 o)->(∀q:jI,q.handled=Z8->um prog w q s.heap S I h' es.size (es.toList.map (·.2)))->Q (.ref I) { s with heap:=h',drawn:=dr }) :
  jC (yW prog w) A (mZ (.ref S)) Q E s:=by
 have ty:s.TypeIs (.ref S) "set":=⟨o,g,x.1⟩
 have lt:=qB3 g;refine lA ty mU (jK mU ty u5 ?_ (PySem.F.args_set_iter_1 _));refine yO (yO (yP (yP ?_)));refine yO (yO (yO (jR g d c (yP (yP ?_)))));refine yO (yO (jR g d c (yO (Of rfl (yP ?_)))));refine wM (λi=>?_) λi=>?_
 .refine yO (Gf es.size (List.range es.size) (by rw[qD4]) λB dr h=>?_);have j:B.length=es.size:=by rw[h.length_eq,qD4]
  refine yO (gL ?_ (by rw[qA0,j];exact fits_of_scanBound r));refine yO (wpAny_setEpoch_of (qA1 _ g) d c ?_);refine yO (jS (yP ⟨_,rfl,"set_iterator",_,⟨_,qA9 _ rfl,rfl⟩,U9.lookup,?_⟩));refine u _ _ dr (λb o e=>qA1 _ (qA1 _ e)) λq p=>?_;refine⟨[_,S,s.heap.objs.size],_,_,?_,uq p ?_ ?_ d c h,⟨⟨_,qA9 _ rfl,rfl,rfl⟩,⟨_,qA1 _ (qA9 _ rfl),rfl,0,rfl⟩,qA1 _ (qA1 _ g)⟩,?_,?_⟩
  .refine(h.map _).trans (.of_eq ?_);exact uo es
  .exact qB7 (qS9 (qF1 lt) (qG5 _ _).symm)
  .exact qB7 (qS9 (qL3 _) (qG5 _ _).symm)
  .simp_all
  .simp_all
 .have y:¬(!V6 w&&(!t.plain&&decide (es.size>1)))=Z7:=i;refine yO (yP (yO (wpAny_setEpoch_of g d c ?_)));refine yO (jS (yP ⟨_,rfl,"set_iterator",_,⟨_,qA9 _ rfl,rfl⟩,U9.lookup,?_⟩));refine u _ _ s.drawn (λb o e=>qA1 _ e) λq p=>?_;have m:∀b∈[s.heap.objs.size,S],b=S∨s.heap.objs.size<=b:=λb r=>by
   simp only[qB0,qF0,or_false]at r;rcases r with rfl|rfl
   .exact .inr (qA6 _)
   .exact .inl rfl
  cases f:V6 w with
  |true=>exact⟨_,_,_,(Lv _ es).map _,uw p (qB7 lt) f d c,⟨⟨_,qA9 _ rfl,rfl,rfl⟩,qA1 _ g⟩,m,qA6 _⟩
  |false =>
   rw[f]at y k;have h:(!t.plain&&decide (es.size>1))=Z5:=by simpa using y
   have z:=by
    cases n:t.plain with
    |true=>exact k.up n
    |false =>
     rw[n]at h;have F:=by simp only[SetTable.fits,qD3,beq_iff_eq]at c;exact c.1
     have D:=by simpa using h
     unfold Rs;have v:t.place.toList.length<=1:=by rw[yV];lia
     cases C:t.place.toList with
     |nil=>exact .nil
     |cons a l =>
      rw[C]at v;cases l with
      |nil=>exact qE5 _ _
      |cons b l=>simp at v
   exact⟨_,_,_,.refl _,ur p (qB7 lt) f d c k.led h z,⟨⟨0,uv z,⟨_,qA9 _ rfl,rfl,rfl⟩⟩,qA1 _ g⟩,m,qA6 _⟩
end
section
variable {prog:yZ}{w:jJ}{A:jI}{E:yL}{s:yQ}{S:yR}{zs:yA}
theorem uj(c:s.TypeIs (.ref S) "set")(h:Q Z5 s):jC (yW prog w) A (Builtin.List.listLengthHint (.ref S)) Q E s:=by
 unfold Builtin.List.listLengthHint;refine yO (mN c PySem.F.slot_set_len.lookup ?_);generalize hid:("set.__len__":String)=id0
 wp_delta
 rw[show splitId id0=Z9 ("set","__len__")from by subst hid;decide];subst hid;refine yO (wA (T := "set") (b:=Z7) c sub_set_self ?_);refine wM (λa=>absurd a (by decide)) (λ_=>?_);refine wM (λ_=>?_) (λa=>absurd (by decide) a);refine yO (j9 c ?_);exact yP h
end
theorem ZP.dr{Z:St}(I:ZP X a Z H s)(d:mX):ZP X a Z H { s with drawn:=d } :=
 ⟨I.ok,I.os,I.bare,I.base,I.loc,I.cell,I.free,I.freeC,I.pin,I.hok,I.len⟩
section
variable {prog:yZ}{w:jJ}{A:jI}{E:yL}{s:yQ}{r:yR}
theorem Ge{Q:yL}{i:yA}(B:i.length<64)
  (z:∀(A:jI) (E:yL) (R:yB->yQ->Prop),A.handled=Z8->(∀(h':jL) (tk:Nat) (dr:mX) (a:yB) (d:yA),(∀b o,s.heap.get? b=Z9 o->h'.get? b=Z9 o)->vO a d->d.Perm i->R a { s with heap:=h',toks:=tk,drawn:=dr })->jC (yW prog w) A (uQ (.ref r)) R E s)
  (u:A.handled=Z8)
  (h:∀(j:jL) (l:yR) (h':jL) (tk:Nat) (dr:mX) (e:Nat) (a:yB) (d:yA),(∀b o,s.heap.get? b=Z9 o->j.get? b=Z9 o)->(∀b o,j.get? b=Z9 o->h'.get? b=Z9 o)->j.objs.size<=l->h'.get? l=Z9 (j6 "list" a.toArray e)->vO a d->d.Perm i->d.Pairwise (·<=·)->Q (.ref l) { s with heap:=h',toks:=tk,drawn:=dr }) :
  jC (yW prog w) A (call (.builtin "sorted") [.ref r]) Q E s:=by
 refine wF dG mG mH (mI _) ?_;unfold Builtin.«sorted»;refine yO (m:=checkCount "sorted" 1 1 _) (yP ?_);refine yO (z _ _ _ u λh' tk dr a d hk p n=>?_);have f:a.length=i.length:=by
  rw[<- n.length_eq];clear hk n
  induction p with
  |nil=>rfl
  |cons _ _ _ q=>simp[q]
 refine yO (wO ?_ (by rw[f,vK];lia));have c:(h'.push (j6 "list" a.toArray 0)).get? h'.objs.size=Z9 (j6 "list" a.toArray 0):=qA9 _ rfl;show jC _ _ _ _ _ { s with heap:=h'.push (j6 "list" a.toArray 0),toks:=tk,drawn:=dr };refine yO (jP (jK gO ⟨_,c,rfl⟩ gA (list_sort_tree c p (by lia) λout k t v x=>⟨_,rfl,?_⟩) (gP _)));obtain⟨e,y⟩:=lM (out:=out) c;refine yP ⟨_,rfl,h h' h'.objs.size _ tk dr e out.toList k hk (λb o g=>?_) (qA6 _) (by simpa using y) t (v.trans n) x⟩;have lt:b<h'.objs.size:=qB3 g;rw[gQ (qB7 lt) (by rw[gR];exact qF1 lt)];exact qA1 _ g
end
theorem Oe:∀(a:yB) (b:yA),a.length=b.length->(∀(j:Nat) (v:yT) (n:Int),a[j]?=Z9 v->b[j]?=Z9 n->∃t,v=.int n t)->vO a b
 |[],[],_,_=>.nil
 |[],_::_,h,_=>by cases h
 |_::_,[],h,_=>by cases h
 |u::a,n::b,h,k=>by obtain⟨t,rfl⟩:=k 0 u n rfl rfl;exact .cons n t (Oe a b (by simpa using h) λj v m c d=>k (j+1) v m (by simpa using c) (by simpa using d))
theorem ui(hc:X.calm=Z7):YG X (.builtin "sorted") (λw H Q=>∃(p:yR) (kvs:List (ZI×V)) (d:yA),w=[.ref p]/\H p=Z9 (.dK kvs)/\kvs.map (·.1)=d.map Sum.inl/\d.length<64/\∀(l:yR) (g:yA),H l=Z8->g.Perm d->g.Pairwise (·<=·)->Q (.ref l) (ZD H l (.lst (g.map V.int)))):=by
 intro m s Z H xs G Q I r h;obtain⟨p,kvs,d,rfl,hp,hk,J,q⟩:=h;obtain⟨u,rfl,ru⟩:=XA r;cases ru;obtain⟨hz,lo,w,L,P⟩:=SL I.hok hp;obtain⟨ep,B⟩:=P.dictAt;have C:w.length=d.length:=by rw[<- Paired.length L,<- qA0,hk,qA0]
 refine Ge J (λA E R hA hR=>dZ (W.kdl_dict lo) hA B (by rw[C,vK];lia) λh' tk acc y a=>hR h' tk s.drawn _ d y ?_ (.refl _)) (I.ok.hd hc) λh2 S h3 c dr e G g k2 k3 F N T f O=>?_
 .refine Oe _ _ (by rw[yV,a.1,C]) λj v n U e2=>?_;obtain⟨k,x,e3,M⟩:∃k x,w[j]?=Z9 (k,x)/\(Ys X.prog X.w).is k v=Z7:=a.2 j v (by rw[<- jA];exact U);obtain⟨q1,Y,e6,_⟩:=Oi L e3;have D:(kvs.map (·.1))[j]?=Z9 k:=by rw[qB1,Y];exact congrArg Z9 e6
  rw[hk,qB1,e2]at D;cases D;cases v<;>first|exact absurd M qB4|skip
  rename_i i t;have:=by simpa[Ys,UQ,Value.isInt]using M
  subst this;exact⟨t,rfl⟩
 .have K:ZP X m Z H { s with heap:=h2,toks:=c,drawn:=dr }:=(I.kept (t':=c) λb o e=>k2 b o e).dr dr;refine⟨.ref S,_,K.laid (t':=c) k3 F ?_,rfl,q _ _ (K.hok.fresh F) f O⟩;have z:g.length<64:=by rw[f.length_eq];exact J
  exact⟨by rw[qA0];exact qD0 (qI5 z) (by decide),G,e,RJ T,by simpa using N⟩
structure Yo(lt:yX->yX->Bool):Prop where
 as:∀x y,lt x y=Z7->lt y x=Z5
 tr:∀x y z,lt y x=Z5->lt z y=Z5->lt z x=Z5
theorem Yo.flip(h:Yo lt):Yo λx y=>lt y x :=
 ⟨λx y e=>h.as y x e,λx y z a b=>h.tr z y x b a⟩
theorem Yo.rf(h:Yo lt)(x:yX):lt x x=Z5:=by
 cases e:lt x x with
 |false=>rfl
 |true=>exact e.symm.trans (h.as x x e)
abbrev Y3(lt:yX->yX->Bool)(l:yI):Prop:=l.Pairwise λx y=>lt y x=Z5
structure Zk(lt:yX->yX->Bool)(a b ra rb out:yI):Prop where
 pm:(out++(ra++rb)).Perm (a++b)
 so:Y3 lt out
 sa:Y3 lt ra
 sb:Y3 lt rb
 la:∀x∈out,∀y∈ra,lt y x=Z5
 lb:∀x∈out,∀y∈rb,lt y x=Z5
section
variable {lt:yX->yX->Bool}{a b ra rb out xs:yI}{x:yX}
theorem Zk.swap(h:Zk lt a b ra rb out):Zk lt b a rb ra out :=
 ⟨((List.Perm.refl out).append qJ7).trans (h.pm.trans qJ7),h.so,h.sb,h.sa,h.lb,h.la⟩
theorem Zk.push(h:Zk lt a b (xs++ra) rb out)(k:∀x∈xs,∀y∈rb,lt y x=Z5):Zk lt a b ra rb (out++xs):=by
 obtain⟨n,j,l,sb,e,i⟩:=h;obtain⟨g,m,f⟩:=qC3.mp l;refine⟨?_,qC3.mpr ⟨j,g,λx c y d=>e x c y (qF7 _ d)⟩,m,sb,λx c y d=>?_,λx c y d=>?_⟩
 .simp_all
 .rcases qB6.mp c with c|c
  .exact e x c y (qD1 _ d)
  .exact f x c y d
 .rcases qB6.mp c with c|c
  .exact i x c y d
  .exact k x c y d
structure Mg(lt:yX->yX->Bool)(a b out:yI):Prop where
 pm:out.Perm (a++b)
 so:Y3 lt out
theorem Zk.fin(h:Zk lt a b ra [] out):Mg lt a b (out++ra) :=
 ⟨by simpa using h.pm,qC3.mpr ⟨h.so,h.sa,h.la⟩⟩
theorem Zk.last(h:Zk lt a b [x] rb out)(k:∀y∈rb,lt x y=Z5):Mg lt a b (out++rb++[x]):=by
 refine⟨?_,qC3.mpr ⟨qC3.mpr ⟨h.so,h.sb,h.lb⟩,qE5 ..,λu c v d=>?_⟩⟩
 .rw[qC1];exact((List.Perm.refl out).append qJ7).trans h.pm
 .have e:=qB2.mp d;subst e;rcases qB6.mp c with c|c
  .exact h.la u c v (qK7 _)
  .exact k u c
theorem Y3.rev(h:Y3 (λx y=>lt y x) out):Y3 lt out.reverse:=by grind
end
def gallop':Bool->yX->Array yX->Nat->Nat->Nat->StateT jN Sem (yK):=sortPriv% PySem.Builtin.gallop
def mergeLo':Array yX->Array yX->StateT jN Sem (Array yX):=sortPriv% PySem.Builtin.mergeLo
def mergeHi':Array yX->Array yX->StateT jN Sem (Array yX):=sortPriv% PySem.Builtin.mergeHi
def bq(lt:yX->yX->Bool)(left:Bool)(a x:yX):Bool:=if left then lt x a else !lt a x
def YP(prog:yZ)(w:jJ)(A:jI)(s:yQ)(a:wD)(lt:yX->yX->Bool)(G:yX->Prop):Prop :=
 ∀x y,G x->G y->∀Q:Bool->yQ->Prop,Q (lt x y) s->jC (yW prog w) A (keyLt' a x.1 y.1) Q (λ_ _=>False) s
section
variable {prog:yZ}{w:jJ}{A:jI}{E:yL}{s:yQ}{κ:wD}{lt:yX->yX->Bool}{G:yX->Prop}{st:jN}
theorem QB(f:YP prog w A s κ lt G)(hk:kindOf st=κ)(c:G x)(d:G y)(h:Q (Z9 (lt x y)) st):wpS (yW prog w) A E s (lt' x y) Q st:=by rw[lt'_eq];refine yU (gE ?_);rw[hk];refine yU (gU (vM (jY (f x y c d (λb a=>a=s/\b=lt x y) ⟨rfl,rfl⟩) (λb a e=>?_) λ_ _ x=>x.elim)));obtain⟨rfl,rfl⟩:=e;exact⟨rfl,jD h⟩
theorem Xr(b:a[i]?=Z9 x)(h:Q x st):wpS (yW prog w) A E s (d0 a i) Q st:=by rw[elem'_eq,b];exact jD h
theorem uh{Q:Option Bool->jN->Prop}(d:YP prog w A s κ lt G)(hk:kindOf st=κ)(f:b[i]?=Z9 x)(e:G x)(c:G a)(h:Q (Z9 (bq lt left a x)) st):
  wpS (yW prog w) A E s (do let x <- d0 b i;if left then lt' x a else return (<- lt' a x).map (!·)) Q st:=by
 refine yU (Xr f ?_);cases left with
 |true=>exact QB d hk e c h
 |false=>exact yU (QB d hk c e (jD h))
def SF(P:Nat->Bool)(n x:Nat)(c:Option (yK)×Nat×Nat)(d st:jN):Prop:=d=st/\∃b a,c=(Z8,b,a)/\b<=a/\a<=n/\a - b<=n - x/\(∀i,i<b->P i=Z7)/\(∀i,a<=i->i<n->P i=Z5)
theorem Gd{m:Nat->StateT jN Sem (Option Bool)}(bey:∀{i:Nat}{R:Option Bool->jN->Prop},i<n->R (Z9 (P i)) st->wpS (yW prog w) A E s (m i) R st)
   (h:SF P n 0 c st st) (hm:∀i j,i<=j->j<n->P j=Z7->P i=Z7) :
  wpS (yW prog w) A E s (forIn [:n] c λ_ c=>if c.2.1≥c.2.2 then pure (ForInStep.done (Z8,c.2.1,c.2.2))else m (c.2.1+(c.2.2 - c.2.1) / 2) >>= λr=>match r with
   |some more=>if more=Z7 then pure (ForInStep.yield (Z8,c.2.1+(c.2.2 - c.2.1) / 2+1,c.2.2))else pure (ForInStep.yield (Z8,c.2.1,c.2.1+(c.2.2 - c.2.1) / 2))
   | _=>pure (ForInStep.done (Z9 Z8,c.2.1,c.2.2)))
   (λc a=>a=st/\∃k,c=(Z8,k,k)/\k<=n/\(∀i,i<k->P i=Z7)/\(∀i,k<=i->i<n->P i=Z5)) st:=by
 refine vB (I:=λx c a=>SF P n x c a st) ?_ ?_ h
 .rintro x c a _ y ⟨rfl,b,hi,rfl,o,g,q,l,f⟩;dsimp only;by_cases d:b≥hi
  .rw[if_pos d];have e:b=hi:=by lia
   subst e;exact jD ⟨rfl,b,rfl,g,l,f⟩
  .rw[if_neg d];refine yU (bey (by lia) ?_);cases e:P (b+(hi - b) / 2)with
   |true=>exact jD ⟨rfl,_,_,rfl,by lia,g,by lia,λi t=>hm i _ (by lia) (by lia) e,f⟩
   |false =>
    refine jD ⟨rfl,_,_,rfl,by lia,by lia,by lia,l,λi u v=>?_⟩;cases p:P i with
    |false=>rfl
    |true=>rw[hm _ i u v p]at e;cases e
 .rintro c a ⟨rfl,b,hi,rfl,o,g,q,l,f⟩;have e:b=hi:=by lia
  subst e;exact⟨rfl,b,rfl,g,l,f⟩
theorem ug(P:Nat->Bool)(O:YP prog w A s κ lt G)(hk:kindOf st=κ)(S:G r)(L:f<n)
  (N:∀i,i<n->∃x,u[base+i]?=Z9 x/\G x/\bq lt left r x=P i) (hm:∀i j,i<=j->j<n->P j=Z7->P i=Z7)
  (h:∀k,k<=n->(∀i,i<k->P i=Z7)->(∀i,k<=i->i<n->P i=Z5)->Q (Z9 k) st) :
  wpS (yW prog w) A E s (gallop' left r u base n f) Q st:=by
 have bey:∀{i:Nat}{R:Option Bool->jN->Prop},i<n->R (Z9 (P i)) st->wpS (yW prog w) A E s (do let x <- d0 u (base+i);if left then lt' x r else return (<- lt' r x).map (!·)) R st:=by intro i R hi M;obtain⟨x,B,U,e⟩:=N i hi;exact uh O hk B U S (by rw[e];exact M)
 refine yU (bey L ?_);have J:∀{lo hi:Nat},lo<=hi->hi<=n->(∀i,i<lo->P i=Z7)->(∀i,hi<=i->i<n->P i=Z5)->SF P n 0 (Z8,lo,hi) st st:=λa b c d=>⟨rfl,_,_,rfl,a,b,by omega,c,d⟩
 cases K:P f with
 |true =>
  refine yU (vT (vB (I:=λx c g=>g=st/\∃l o,c=(Z8,l,o)/\l<o/\f+l<n/\x+1<=o/\P (f+l)=Z7)
   (Q:=λc g=>g=st/\∃l o,c=(Z8,l,o)/\l<o/\f+l<n/\P (f+l)=Z7/\(n - f<=o∨f+o<n/\P (f+o)=Z5)) ?_ ?_ ⟨rfl,0,1,rfl,by omega,by omega,by omega,K⟩) ?_)
  .rintro x c g _ B ⟨rfl,l,o,rfl,t,q,F,p⟩;dsimp only;by_cases m:o≥n - f
   .rw[if_pos m];exact jD ⟨rfl,l,o,rfl,t,q,p,.inl m⟩
   .rw[if_neg m];refine yU (bey (by omega) ?_);cases e:P (f+o)with
    |true=>exact jD ⟨rfl,o,2*o+1,rfl,by omega,by omega,by omega,e⟩
    |false=>exact jD ⟨rfl,l,o,rfl,t,q,p,.inr ⟨by omega,e⟩⟩
  .rintro c g ⟨rfl,l,o,rfl,t,q,F,p⟩;exact⟨rfl,l,o,rfl,t,q,p,.inl (by omega)⟩
  .rintro c g ⟨rfl,l,o,rfl,t,q,p,v⟩;refine yU (vT (Gd (bey:=bey) (hm:=hm) (J (lo:=f+l+1) (hi:=f+min o (n - f)) (by omega) (by omega) (λi hi=>hm i (f+l) (by omega) q p) λi T H=>?_)) ?_)
   .rcases v with v|⟨V,y⟩
    .omega
    .cases e:P i with
     |false=>rfl
     |true=>rw[hm (f+o) i (by omega) H e]at y;cases y
   .rintro c g ⟨rfl,k,rfl,z,C,D⟩;exact jD (h k z C D)
 |false =>
  refine yU (vT (vB (I:=λx c g=>g=st/\∃l o,c=(Z8,l,o)/\l<o/\l<=f/\x+1<=o/\P (f - l)=Z5)
   (Q:=λc g=>g=st/\∃l o,c=(Z8,l,o)/\l<o/\l<=f/\P (f - l)=Z5/\(f+1<=o∨o<=f/\P (f - o)=Z7)) ?_ ?_ ⟨rfl,0,1,rfl,by omega,by omega,by omega,K⟩) ?_)
  .rintro x c g _ B ⟨rfl,l,o,rfl,t,q,F,p⟩;dsimp only;by_cases m:o≥f+1
   .rw[if_pos m];exact jD ⟨rfl,l,o,rfl,t,q,p,.inl m⟩
   .rw[if_neg m];refine yU (bey (by omega) ?_);cases e:P (f - o)with
    |false=>exact jD ⟨rfl,o,2*o+1,rfl,by omega,by omega,by omega,e⟩
    |true=>exact jD ⟨rfl,l,o,rfl,t,q,p,.inr ⟨by omega,e⟩⟩
  .rintro c g ⟨rfl,l,o,rfl,t,q,F,p⟩;exact⟨rfl,l,o,rfl,t,q,p,.inl (by omega)⟩
  .rintro c g ⟨rfl,l,o,rfl,t,q,p,v⟩;refine yU (vT (Gd (bey:=bey) (hm:=hm) (J (lo:=f+1 - min o (f+1)) (hi:=f - l) (by omega) (by omega) (λi hi=>?_) λi T H=>?_)) ?_)
   .rcases v with v|⟨V,y⟩
    .omega
    .exact hm i (f - o) (by omega) (by omega) y
   .cases e:P i with
    |false=>rfl
    |true=>rw[hm (f - l) i (by omega) H e]at p;cases p
   .rintro c g ⟨rfl,k,rfl,z,C,D⟩;exact jD (h k z C D)
end
structure Sg(st st':jN):Prop where
 k:kindOf st'=kindOf st
 a:uY st'=uY st
 p:vU st'=vU st
 f:uR st'=uR st
theorem Sg.rfl(st:jN):Sg st st:=⟨Eq.refl _,Eq.refl _,Eq.refl _,Eq.refl _⟩
section
variable {lt:yX->yX->Bool}{a b ra rb out xs:yI}{x:yX}
theorem Od(a:yI)(i:Nat):(a.toArray.extract i a.toArray.size).toList=a.drop i:=by simp only[List.extract_toArray];exact qH1 (by simp)
theorem Oc(a:yI)(i j:Nat):(a.toArray.extract i j).toList=(a.drop i).take (j - i):=by simp
theorem Ob(h:i<a.length):a.drop i=[a[i]]++a.drop (i+1):=qF8 h
theorem uf(h:i<=j):a.drop i=(a.drop i).take (j - i)++a.drop j:=by
 conv=>lhs;rw[<- qD2 (j - i) (a.drop i)]
 rw[qP8];congr 2;lia
end
theorem Up(d:Yo lt)(sb:Y3 lt b)(hi:i<b.length)(h:lt b[i] x=Z5):∀y∈b.drop i,lt y x=Z5:=by
 intro y a;rw[Ob hi]at a;rcases qB6.mp a with a|a
 .rw[qB2.mp a];exact h
 .have c:Y3 lt ([b[i]]++b.drop (i+1)):=by rw[<- Ob hi];exact sb.sublist (qJ0 ..)
  exact d.tr x b[i] y h ((qC3.mp c).2.2 _ (qK7 _) y a)
section
variable {lt:yX->yX->Bool}{a b:yI}{ia ib k:Nat}{out:Array yX}
theorem ue(h:Zk lt a b (a.drop ia) (b.drop ib) out.toList)(d:ia<=a.length)(c:ib<=b.length):out.size=ia+ib:=by have e:=h.pm.length_eq;simp at e;lia
theorem QA(h:Zk lt a b (a.drop ia) (b.drop ib) out.toList)(e:ib=b.length∨ia=a.length):Mg lt a b (out++a.toArray.extract ia a.toArray.size++b.toArray.extract ib b.toArray.size).toList:=by
 rw[jW,jW,Od,Od];rcases e with rfl|rfl
 .rw[qN9]at h ⊢;simpa using h.fin
 .rw[qN9]at h ⊢;have:=h.swap.fin;exact⟨by simpa using this.pm.trans qJ7,by simpa using this.so⟩
theorem Oa(h:Zk lt a b (a.drop ia) (b.drop ib) out.toList)(e:ia+1=a.length)(c:∀y∈b,lt (a[a.length - 1]'(by omega)) y=Z5):Mg lt a b (out++b.toArray.extract ib b.toArray.size++a.toArray.extract ia a.toArray.size).toList:=by
 rw[jW,jW,Od,Od];have f:a.drop ia=[a[a.length - 1]'(by omega)]:=by rw[Ob (by omega),qN0 (by omega),qG8];congr 2;omega
 rw[f]at h ⊢;exact h.last λy d=>c y (qE8 d)
theorem Uo(h:Zk lt a b (a.drop ia) (b.drop ib) out.toList)(d:ia<a.length)(k:∀y∈b.drop ib,lt y a[ia]=Z5):Zk lt a b (a.drop (ia+1)) (b.drop ib) (out.push a[ia]).toList:=by rw[Ob d]at h;rw[lB];exact h.push λx c=>by rw[qB2.mp c];exact k
theorem Gc(h:Zk lt a b (a.drop ia) (b.drop ib) out.toList)(hk:ia+k<=a.length)(q:∀i,(hi:i<k)->∀y∈b.drop ib,lt y (a[ia+i]'(by lia))=Z5):Zk lt a b (a.drop (ia+k)) (b.drop ib) (out++a.toArray.extract ia (ia+k)).toList:=by
 rw[uf (show ia<=ia+k by lia)]at h;rw[jW,Oc];refine h.push λx d=>?_;obtain⟨i,hi,e⟩:=qI7.mp d;have c:i<k:=by simp at hi;lia
 rw[<- e];simpa using q i c
end
section
variable {lt:yX->yX->Bool}{a b:yI}{ia ib k:Nat}{out:Array yX}
theorem SE(h:Zk lt a b (a.drop ia) (b.drop ib) out.toList)(c:ib<b.length)(k:∀y∈a.drop ia,lt y b[ib]=Z5):Zk lt a b (a.drop ia) (b.drop (ib+1)) (out.push b[ib]).toList :=
 (Uo h.swap c k).swap
theorem ud(h:Zk lt a b (a.drop ia) (b.drop ib) out.toList)(hk:ib+k<=b.length)(q:∀i,(hi:i<k)->∀y∈a.drop ia,lt y (b[ib+i]'(by lia))=Z5):Zk lt a b (a.drop ia) (b.drop (ib+k)) (out++b.toArray.extract ib (ib+k)).toList :=
 (Gc h.swap hk q).swap
structure Wl(lt:yX->yX->Bool)(a b:yI)(ia ib:Nat)(out:Array yX):Prop where
 m:Zk lt a b (a.drop ia) (b.drop ib) out.toList
 i:ia+1<a.length
 j:ib<b.length
theorem uc(g:Yo lt)(n:Y3 lt a)(left:Bool)(c:yX)(f:i<=j)(l:j<a.length)(h:bq lt left c a[j]=Z7):bq lt left c (a[i]'(by omega))=Z7:=by
 rcases qP6 f with d|rfl
 .have e:=qQ1.mp n i j (by omega) l d;cases left with
  |true =>
   show lt a[i] c=Z7;cases o:lt a[i] c with
   |true=>rfl
   |false=>exact(g.tr c a[i] a[j] o e).symm.trans h
  |false =>
   have m:=by simpa[bq]using h
   show(!lt c a[i])=Z7;rw[g.tr a[i] a[j] c e m];rfl
 .exact h
end
section
variable {prog:yZ}{w:jJ}{A:jI}{E:yL}{s:yQ}{κ:wD}{lt:yX->yX->Bool}{G:yX->Prop}{st:jN}
def setG':Nat->StateT jN Sem Unit:=sortPriv% PySem.Builtin.setMinGallop
theorem Gb(h:∀a,Sg st a->Q () a):wpS (yW prog w) A E s (setG' g) Q st :=
 wW (h _ ⟨rfl,rfl,rfl,rfl⟩)
theorem WI{b:Decidable c}{Q:a->jN->Prop}(h:c->wpS (yW prog w) A E s m Q st)(h':¬c->wpS (yW prog w) A E s m' Q st):wpS (yW prog w) A E s (if c then m else m') Q st:=by grind
theorem Ga{lo hi:Nat}{f f':Nat->d->StateT jN Sem (ForInStep d)}(j:f'=f)(I:Nat->d->jN->Prop)(a:∀i c st,lo<=i->i<hi->I i c st->wpS (yW prog w) A E s (f' i c) (λr b=>match r with|.done g=>Q g b|.yield g=>I (i+1) g b) st)
  (e:∀c st,I (max lo hi) c st->Q c st)  (h:I lo c st):wpS (yW prog w) A E s (forIn [lo:hi] c f) Q st:=by subst j;exact vB I a e h
theorem Sg.trans{st a st'':jN}(h:Sg st a)(k:Sg a st''):Sg st st'':=⟨k.k.trans h.k,k.a.trans h.a,k.p.trans h.p,k.f.trans h.f⟩
theorem RI{a:yI}{base n d:Nat}(t:Yo lt)(u:YP prog w A s κ lt G)(hk:kindOf st=κ)(v:G b)(q:∀x∈a,G x)(y:Y3 lt ((a.drop base).take n))(z:base+n<=a.length)(r:d<n)
  (h:∀k,k<=n->(∀i,(hi:i<k)->(c:i<n)->bq lt left b (a[base+i]'(by lia))=Z7)->(∀i,k<=i->(hi:i<n)->bq lt left b (a[base+i]'(by lia))=Z5)->Q (Z9 k) st) :
  wpS (yW prog w) A E s (gallop' left b a.toArray base n d) Q st:=by
 have p:∀i,(hi:i<n)->((a.drop base).take n)[i]'(by simp;lia)=a[base+i]'(by lia):=λi hi=>by simp
 refine ug (P:=λi=>if hi:i<n then bq lt left b (a[base+i]'(by lia))else Z5) u hk v r (λi hi=>⟨a[base+i]'(by lia),by rw[qD7];exact qA3 (by lia),q _ (qD5 _),by simp[hi]⟩) (λi j m o f=>?_) λk e g l=>h k e (λi hi c=>?_) λi hi c=>?_
 .have hi:i<n:=by lia
  simp only[hi,o,dif_pos]at f ⊢;rw[<- p j o]at f;rw[<- p i hi];exact uc t y left b m (by simp;lia) f
 .have:=g i hi;simpa[c]using this
 .have:=l i hi c;simpa[c]using this
abbrev Qz:=Option (Array yX)×Array yX×Nat×Nat×Nat×Nat×Nat
abbrev SD:=StateT jN Sem (ForInStep Qz)
abbrev Qy(a b out:Array yX)(c d:Nat):Array Keyed:=out++a.extract c a.size++b.extract d b.size
abbrev F9(a b out:Array yX)(c d:Nat):Array Keyed:=out++b.extract d b.size++a.extract c a.size
abbrev TJ(r out:Array yX)(b a g p q:Nat):SD:=pure (.done (Z9 r,out,b,a,g,p,q))
def Lu(a b:Array yX)(g p q:Nat)(out:Array yX)(c d:Nat):SD:=d0 a c >>= λv =>
 if(c+1+1 == a.size)=Z7 then TJ (F9 a b (out.push v) (c+1) d) (out.push v) (c+1) d g p q
 else if(decide (p<7)&&decide (q<7))=Z7 then pure (.done (Z8,out.push v,c+1,d,g,p,q))else pure (.yield (Z8,out.push v,c+1,d,g,p,q))
def Ls(a b:Array yX)(g p q:Nat)(out:Array yX)(d c:Nat):yK->SD
 |some k=>if k>0 then(if(c+k == b.size)=Z7 then TJ (Qy a b (out++b.extract c (c+k)) d (c+k)) (out++b.extract c (c+k)) d (c+k) g p k else Lu a b g p k (out++b.extract c (c+k)) d (c+k))else Lu a b g p k out d c
 |_=>TJ (Qy a b out d c) out d c g p q
def Qx(a b:Array yX)(g p q:Nat)(out:Array yX)(d c:Nat):SD:=d0 b c >>= λv =>
 if(c+1 == b.size)=Z7 then TJ (Qy a b (out.push v) d (c+1)) (out.push v) d (c+1) g p q
 else d0 a d >>= λu=>gallop' Z7 u b (c+1) (b.size - (c+1)) 0 >>= Ls a b g p q (out.push v) d (c+1)
def Lr(a b:Array yX)(g p q:Nat)(out:Array yX)(c d:Nat):yK->SD
 | some k=>if k>0 then(if(c+k+1 == a.size)=Z7 then TJ (F9 a b (out++a.extract c (c+k)) (c+k) d) (out++a.extract c (c+k)) (c+k) d g k q
   else if(c+k == a.size)=Z7 then TJ (Qy a b (out++a.extract c (c+k)) (c+k) d) (out++a.extract c (c+k)) (c+k) d g k q else Qx a b g k q (out++a.extract c (c+k)) (c+k) d)else Qx a b g k q out c d
 |_=>TJ (Qy a b out c d) out c d g p q
def RH(a b:Array yX)(g p q:Nat)(out:Array yX)(c d:Nat):SD:=setG' g >>= λ_=>d0 b d >>= λv=>gallop' Z5 v a c (a.size - c) 0 >>= Lr a b g p q out c d
def ub(a b:Array yX)(c:Qz):SD:=if c.2.2.2.2.1>1 then RH a b (c.2.2.2.2.1 - 1) c.2.2.2.2.2.1 c.2.2.2.2.2.2 c.2.1 c.2.2.1 c.2.2.2.1 else RH a b c.2.2.2.2.1 c.2.2.2.2.2.1 c.2.2.2.2.2.2 c.2.1 c.2.2.1 c.2.2.2.1
def F8(lt:yX->yX->Bool)(a b:yI)(st:jN)(x:Nat)(c:Qz)(d:jN):Prop:=Sg st d/\((∃r o,c=(Z9 r,o)/\Mg lt a b r.toList)∨∃out f e g p q,c=(Z8,out,f,e,g,p,q)/\Wl lt a b f e out/\x+2<=out.size)
def F7(lt:yX->yX->Bool)(a b:yI)(st:jN)(x:Nat)(c:Qz)(d:jN):Prop:=∃out f e g p q,c=(Z8,out,f,e,g,p,q)/\Sg st d/\Wl lt a b f e out/\x+2<=out.size
abbrev Qw(lt:yX->yX->Bool)(a b:yI)(st:jN)(x:Nat):ForInStep Qz->jN->Prop:=λr c=>match r with|.done d=>F8 lt a b st x d c|.yield d=>F7 lt a b st x d c
section
variable {st0:jN}{a b:yI}{x g p q ia ib:Nat}{out:Array yX}
theorem Qv(hs:Sg st0 st)(h:Mg lt a b r.toList):wpS (yW prog w) A E s (TJ r out ia ib g p q) (Qw lt a b st0 x) st:=jD ⟨hs,.inl ⟨_,_,rfl,h⟩⟩
theorem F6(hs:Sg st0 st)(j:0<a.length)(f:∀y∈b,lt (a[a.length - 1]'(by lia)) y=Z5)(k:ia+1<a.length)(h:ib<b.length)(i:x+2<=out.size)(d:Zk lt a b (a.drop (ia+1)) (b.drop ib) (out.push a[ia]).toList):wpS (yW prog w) A E s (Lu a.toArray b.toArray g p q out ia ib) (Qw lt a b st0 x) st:=by
 refine yU (Xr (by rw[qD7];exact qA3 (by lia)) (WI (λc=>Qv hs (Oa d (by simpa using c) f)) λc=>?_));have e:Wl lt a b (ia+1) ib (out.push a[ia]):=⟨d,by simp at c;lia,h⟩
 exact WI (λ_=>jD ⟨hs,.inr ⟨_,_,_,_,_,_,rfl,e,by simp;lia⟩⟩) λ_=>jD ⟨_,_,_,_,_,_,rfl,hs,e,by simp;lia⟩
theorem F5(f:Yo lt)(H:YP prog w A s κ lt G)(hk:kindOf st0=κ)(C:∀x∈a,G x)(z:∀x∈b,G x)(J:Y3 lt a)(sb:Y3 lt b)(hs:Sg st0 st)(u:0<a.length)(e:∀y∈b,lt (a[a.length - 1]'(by lia)) y=Z5)(t:ia+1<a.length)(B:ib<b.length)(L:x+2<=out.size)(I:Zk lt a b (a.drop ia) (b.drop ib) out.toList)(D:∀y∈a.drop ia,lt y b[ib]=Z5):wpS (yW prog w) A E s (Qx a.toArray b.toArray g p q out ia ib) (Qw lt a b st0 x) st:=by
 have m:=SE I B D;refine yU (Xr (by simp) (WI (λj=>Qv hs (QA m (.inl (by simpa using j)))) λj=>?_));have n:ib+1<b.length:=by simp at j;lia
 refine yU (Xr (by rw[qD7];exact qA3 (by lia)) (yU (RI f H (hs.k.trans hk) (C _ (qD5 _)) z (sb.sublist ((qH6 ..).trans (qJ0 ..))) (by simp;lia) (by simp;lia) λk v k2 r=>?_)));simp only[qB5]at v k2 r;have c:Zk lt a b (a.drop ia) (b.drop (ib+1+k)) ((out.push b[ib])++b.toArray.extract (ib+1) (ib+1+k)).toList :=
  ud m (by lia) λi F=>Up f J (by lia) (f.as _ _ (by simpa[bq]using k2 i F (by lia)))
 have d:=λe=>Up f sb e (by simpa[bq]using r k (qA6 _) (by lia));refine WI (λh=>WI (λl=>Qv hs (QA c (.inl (by simpa using l)))) λl=>?_) λh=>?_
 .have o:ib+1+k<b.length:=by simp at l;lia
  exact F6 hs u e t o (by simp;lia) (Uo c (by lia) (d o))
 .have K:k=0:=by lia
  subst K;exact F6 hs u e t n (by simp;lia) (Uo m (by lia) (d n))
theorem ua(d:Yo lt)(o:YP prog w A s κ lt G)(hk:kindOf st0=κ)(l:∀x∈a,G x)(h:∀x∈b,G x)(f:Y3 lt a)(sb:Y3 lt b)(hs:Sg st0 st)(B:0<a.length)(e:∀y∈b,lt (a[a.length - 1]'(by lia)) y=Z5)(W:Wl lt a b ia ib out)(m:x+2<=out.size):wpS (yW prog w) A E s (RH a.toArray b.toArray g p q out ia ib) (Qw lt a b st0 x) st:=by
 have D:=W.i;have j:=W.j;refine yU (Gb λH I=>?_);have c:=hs.trans I;refine yU (Xr (x:=b[ib]) (by simp) (yU (RI d o (c.k.trans hk) (h _ (qD5 _)) l (f.sublist ((qH6 ..).trans (qJ0 ..))) (by simp;lia) (by simp;lia) λk C k2 z=>?_)));simp only[qB5]at C k2 z;have r:Zk lt a b (a.drop (ia+k)) (b.drop ib) (out++a.toArray.extract ia (ia+k)).toList :=
  Gc W.m (by lia) λi F=>Up d sb j (by simpa[bq]using k2 i F (by lia))
 have v:=λe=>Up d f e (d.as _ _ (by simpa[bq]using z k (qA6 _) (by lia)));refine WI (λu=>WI (λn=>Qv c (Oa r (by simpa using n) e)) λn=>WI (λt=>Qv c (QA r (.inr (by simpa using t)))) λt=>?_) λu=>?_
 .have J:ia+k+1<a.length:=by simp at n t;lia
  exact F5 d o hk l h f sb c B e J j (by rw[lC];lia) r (v (by lia))
 .have K:k=0:=by lia
  subst K;exact F5 d o hk l h f sb c B e D j m W.m (v (by lia))
end
theorem t9(D:Yo lt)(R:YP prog w A s κ lt G)(hk:kindOf st=κ)(O:∀x∈a,G x)(N:∀x∈b,G x)(M:Y3 lt a)(sb:Y3 lt b)
  (X:0<a.length) (Z:0<b.length) (V:∀x∈a,lt x b[0]=Z5) (H:∀y∈b,lt (a[a.length - 1]'(by lia)) y=Z5)
  (h:∀out f,Sg st f->Mg lt a b out.toList->Q out f):wpS (yW prog w) A E s (mergeLo' a.toArray b.toArray) Q st:=by
 refine yU (gU (vR ⟨rfl,?_⟩));refine yU (Xr (x:=b[0]) (by simp) ?_);have Y:Zk lt a b (a.drop 0) (b.drop 0) (#[]).toList:=⟨by simp,.nil,by simpa using M,by simpa using sb,λx B=>(by simp at B),λx B=>(by simp at B)⟩
 have L:=SE Y Z λy S=>V y (by simpa using S);by_cases C:(1 == b.toArray.size)=Z7
 .rw[if_pos C];exact jD (h _ _ (.rfl _) (QA L (.inl (by simpa using C))))
 rw[if_neg C];by_cases F:(0+1 == a.toArray.size)=Z7
 .rw[if_pos F];exact jD (h _ _ (.rfl _) (Oa L (by simpa using F) H))
 rw[if_neg F];have U:Wl lt a b 0 1 #[b[0]]:=⟨L,by simp at F;lia,by simp at C;lia⟩
 refine yU (gE ?_);refine yU (vT (vB (I:=λx c f=>∃out j d g,c=(Z8,out,j,d,g)/\Sg st f/\Wl lt a b j d out/\x+1<=out.size)
  (Q:=λc f=>∃r o,c=(Z9 r,o)/\Sg st f/\Mg lt a b r.toList) ?_ ?_ ⟨_,_,_,_,rfl,.rfl _,U,by simp⟩) ?_)
 .rintro x c l _ B ⟨out,j,d,g,rfl,t,W,i⟩;have K:=t.k.trans hk;refine yU (vT (vB (I:=λy c f=>∃out j d p q,c=(Z8,out,j,d,p,q)/\f=l/\Wl lt a b j d out/\x+1+y<=out.size)
   (Q:=λc f=>f=l/\((∃r o,c=(Z9 r,o)/\Mg lt a b r.toList)∨∃out j d p q,c=(Z8,out,j,d,p,q)/\Wl lt a b j d out/\x+2<=out.size)) ?_ ?_ ⟨_,_,_,_,_,rfl,rfl,W,by lia⟩) ?_)
  .rintro y c n _ S ⟨out,j,d,p,q,rfl,rfl,W,i⟩;dsimp only;have T:=W.i;have J:=W.j;refine yU (Xr (x:=b[d]) (by simp) (yU (Xr (by rw[qD7];exact qA3 (by lia)) (yU (QB R K (N _ (qD5 _)) (O _ (qD5 _)) ?_)))));cases e:lt b[d] a[j]with
   |true =>
    refine yU (Xr (x:=b[d]) (by simp) ?_);have z:=SE W.m J (Up D M (by lia) (D.as _ _ e));by_cases m:(d+1 == b.toArray.size)=Z7
    .rw[if_pos m];exact jD ⟨rfl,.inl ⟨_,_,rfl,QA z (.inl (by simpa using m))⟩⟩
    rw[if_neg m];have u:Wl lt a b j (d+1) (out.push b[d]):=⟨z,T,by simp at m;lia⟩
    split
    .exact jD ⟨rfl,.inr ⟨_,_,_,_,_,rfl,u,by simp;lia⟩⟩
    .exact jD ⟨_,_,_,_,_,rfl,rfl,u,by simp;lia⟩
   |false =>
    refine yU (Xr (by rw[qD7];exact qA3 (by lia)) ?_);have z:=Uo W.m (by lia) (Up D sb J e);by_cases m:(j+1+1 == a.toArray.size)=Z7
    .rw[if_pos m];exact jD ⟨rfl,.inl ⟨_,_,rfl,Oa z (by simpa using m) H⟩⟩
    rw[if_neg m];have u:Wl lt a b (j+1) d (out.push a[j]):=⟨z,by simp at m;lia,J⟩
    split
    .exact jD ⟨rfl,.inr ⟨_,_,_,_,_,rfl,u,by simp;lia⟩⟩
    .exact jD ⟨_,_,_,_,_,rfl,rfl,u,by simp;lia⟩
  .rintro c n ⟨out,j,d,p,q,rfl,rfl,W,i⟩;exact⟨rfl,.inr ⟨_,_,_,_,_,rfl,W,by lia⟩⟩
  rintro c n ⟨rfl,⟨r,o,rfl,v⟩| ⟨out,j,d,p,q,rfl,W,i⟩⟩
  .exact jD ⟨r,_,rfl,t,v⟩
  dsimp only;refine yU (gU (vR ⟨rfl,?_⟩));refine yU (vT (Ga (f':=λ_ c=>ub a.toArray b.toArray c) (by kernel_rfl) (λ_=>F7 lt a b st x) (Q:=F8 lt a b st x) ?_ ?_ ⟨_,_,_,_,_,_,rfl,t,W,i⟩) ?_)
  .rintro y c st3 _ _ ⟨out,j,d,g,p,q,rfl,k,W,i⟩;have P:∀g,wpS (yW prog w) A E s (RH a.toArray b.toArray g p q out j d) (Qw lt a b st x) st3:=λg=>ua D R hk O N M sb k X H W i;exact vT (WI (λ_=>P _) λ_=>P _) λr f h=>by cases r<;>exact h
  .rintro c n ⟨out,j,d,g,p,q,rfl,k,W,i⟩;exact⟨k,.inr ⟨_,_,_,_,_,_,rfl,W,i⟩⟩
  rintro c st3 ⟨k,⟨r,o,rfl,v⟩| ⟨out,j,d,g,p,q,rfl,W,i⟩⟩
  .exact jD ⟨r,_,rfl,k,v⟩
  exact yU (wW (jD ⟨_,_,_,_,rfl,⟨k.k,k.a,k.p,k.f⟩,W,by lia⟩))
 .rintro c l ⟨out,j,d,g,rfl,t,W,i⟩;have:=ue W.m (by have:=W.i;lia) (by have:=W.j;lia);have:=W.i;have:=W.j;simp at i
  lia
 .rintro c l ⟨r,o,rfl,t,v⟩;exact jD (h r l t v)
end
section
variable {lt:yX->yX->Bool}{a b:yI}{na nb t:Nat}{out:Array yX}
theorem F4(h:na - 1<a.length)(c:0<na):(a.take na).reverse=[a[na - 1]]++(a.take (na - 1)).reverse:=by
 obtain⟨m,rfl⟩:∃m,na=m+1:=⟨na - 1,by lia⟩
 simp only[qT0]at h ⊢;rw[qN1 h,qS3];rfl
theorem t8(h:t<=na):(a.take na).reverse=((a.drop t).take (na - t)).reverse++(a.take t).reverse:=by
 rw[<- qS3];rw[<- List.drop_take]
 conv=>lhs;rw[<- qD2 t (a.take na)]
 rw[List.take_take,qO9 h]
abbrev MH(lt:yX->yX->Bool)(a b:yI)(d c:Nat)(out:Array yX):Prop:=Zk (λx y=>lt y x) a b (a.take d).reverse (b.take c).reverse out.toList
theorem SC(g:Yo lt)(sb:Y3 lt b)(hi:nb - 1<b.length)(h:lt x b[nb - 1]=Z5):∀y∈(b.take nb).reverse,lt x y=Z5:=by
 intro y c;rcases Nat.eq_zero_or_pos nb with rfl|e
 .simp at c
 .have f:Y3 lt (b.take nb):=sb.sublist (qH6 ..);have d:=qN7.mpr f;rw[F4 hi e]at c d;rcases qB6.mp c with c|c
  .rw[qB2.mp c];exact h
  .exact g.tr y b[nb - 1] x ((qC3.mp d).2.2 _ (qK7 _) y c) h
theorem N9(a:yI)(j:Nat):(a.toArray.extract 0 j).toList=a.take j:=by simp
theorem t7(h:MH lt a b na nb out)(d:na<=a.length)(c:nb<=b.length):out.size+na+nb=a.length+b.length:=by have e:=h.pm.length_eq;simp at e;lia
theorem Mg.rev(h:Mg (λx y=>lt y x) a b o):Mg lt a b o.reverse:=⟨o.reverse_perm.trans h.pm,h.so.rev⟩
theorem Mg.comm(h:Mg lt b a o):Mg lt a b o:=⟨h.pm.trans qJ7,h.so⟩
theorem Qu(h:MH lt a b na nb out)(e:na=0∨nb=0):Mg lt a b (a.toArray.extract 0 na++b.toArray.extract 0 nb++out.reverse).toList:=by
 rw[jW,jW,N9,N9,fX];rcases e with rfl|rfl
 .have:=(Zk.fin (by simpa using h.swap)).rev.comm;simpa using this
 .unfold MH at h;have:=(Zk.fin (by simpa using h)).rev;simpa using this
theorem N8(h:MH lt a b na nb out)(e:nb=1)(i:0<b.length)(d:∀x∈a,lt x b[0]=Z5):Mg lt a b (b.toArray.extract 0 nb++a.toArray.extract 0 na++out.reverse).toList:=by
 rw[jW,jW,N9,N9,fX];subst e;have g:b.take 1=[b[0]]:=by
  cases b with
  |nil=>simp at i
  |cons x b=>simp
 have c:=h.swap;rw[g]at c ⊢;have:=(Zk.last c λy f=>d y (qE9 (qI1.mp f))).rev.comm;simpa using this
theorem U8(h:MH lt a b na nb out)(d:na - 1<a.length)(e:0<na)(k:∀y∈(b.take nb).reverse,lt a[na - 1] y=Z5):MH lt a b (na - 1) nb (out.push a[na - 1]):=by unfold MH at h ⊢;rw[F4 d e]at h;rw[lB];exact h.push λx c=>by rw[qB2.mp c];exact k
theorem F3(h:MH lt a b na nb out)(ht:t<=na)(f:na<=a.length)(q:∀i,t<=i->(hi:i<na)->∀y∈(b.take nb).reverse,lt (a[i]'(by lia)) y=Z5):MH lt a b t nb (out++(a.toArray.extract t na).reverse):=by
 unfold MH at h ⊢;rw[t8 ht]at h;rw[jW,fX,Oc];refine h.push λx d=>?_;obtain⟨i,hi,e⟩:=qI7.mp (qI1.mp d);have c:t+i<na:=by simp at hi;lia
 rw[<- e];simpa using q (t+i) (by lia) c
end
section
variable {lt:yX->yX->Bool}{a b:yI}{na nb t:Nat}{out:Array yX}
theorem Qt(h:MH lt a b na nb out)(d:nb - 1<b.length)(c:0<nb)(k:∀y∈(a.take na).reverse,lt b[nb - 1] y=Z5):MH lt a b na (nb - 1) (out.push b[nb - 1]) :=
 Zk.swap (U8 (Zk.swap h) d c k)
theorem t6(h:MH lt a b na nb out)(ht:t<=nb)(c:nb<=b.length)(q:∀i,t<=i->(hi:i<nb)->∀y∈(a.take na).reverse,lt (b[i]'(by lia)) y=Z5):MH lt a b na t (out++(b.toArray.extract t nb).reverse) :=
 Zk.swap (F3 (Zk.swap h) ht c q)
structure Wh(lt:yX->yX->Bool)(a b:yI)(na nb:Nat)(out:Array yX):Prop where
 m:MH lt a b na nb out
 i:0<na
 j:1<nb
 i':na<a.length
 j':nb<=b.length
end
section
variable {prog:yZ}{w:jJ}{A:jI}{E:yL}{s:yQ}{κ:wD}{lt:yX->yX->Bool}{G:yX->Prop}{st:jN}
abbrev Qs:=Option (Array yX)×Nat×Nat×Array yX×Nat×Nat×Nat
abbrev SB:=StateT jN Sem (ForInStep Qs)
abbrev Qr(a b out:Array yX)(c d:Nat):Array Keyed:=a.extract 0 c++b.extract 0 d++out.reverse
abbrev F2(a b out:Array yX)(c d:Nat):Array Keyed:=b.extract 0 d++a.extract 0 c++out.reverse
abbrev TH(r out:Array yX)(b a g p q:Nat):SB:=pure (.done (Z9 r,b,a,out,g,p,q))
def Lq(a b:Array yX)(g p q:Nat)(out:Array yX)(c d:Nat):SB:=d0 a (c - 1) >>= λv =>
 if(c - 1 == 0)=Z7 then TH (Qr a b (out.push v) (c - 1) d) (out.push v) (c - 1) d g p q
 else if(decide (p<7)&&decide (q<7))=Z7 then pure (.done (Z8,c - 1,d,out.push v,g,p,q))else pure (.yield (Z8,c - 1,d,out.push v,g,p,q))
def Lo(a b:Array yX)(g p q:Nat)(out:Array yX)(d c:Nat):yK->SB
 | some k=>if c - k>0 then(if(k == 1)=Z7 then TH (F2 a b (out++(b.extract k c).reverse) d k) (out++(b.extract k c).reverse) d k g p (c - k)
   else if(k == 0)=Z7 then TH (Qr a b (out++(b.extract k c).reverse) d k) (out++(b.extract k c).reverse) d k g p (c - k)else Lq a b g p (c - k) (out++(b.extract k c).reverse) d k)else Lq a b g p (c - k) out d c
 |_=>TH (Qr a b out d c) out d c g p q
def hi2(a b:Array yX)(g p q:Nat)(out:Array yX)(d c:Nat):SB:=d0 b (c - 1) >>= λv =>
 if(c - 1 == 1)=Z7 then TH (F2 a b (out.push v) d (c - 1)) (out.push v) d (c - 1) g p q
 else d0 a (d - 1) >>= λu=>gallop' Z7 u b 0 (c - 1) (c - 1 - 1) >>= Lo a b g p q (out.push v) d (c - 1)
def Ln(a b:Array yX)(g p q:Nat)(out:Array yX)(c d:Nat):yK->SB
 |some k=>if c - k>0 then(if(k == 0)=Z7 then TH (Qr a b (out++(a.extract k c).reverse) k d) (out++(a.extract k c).reverse) k d g (c - k) q else hi2 a b g (c - k) q (out++(a.extract k c).reverse) k d)else hi2 a b g (c - k) q out c d
 |_=>TH (Qr a b out c d) out c d g p q
def hi1(a b:Array yX)(g p q:Nat)(out:Array yX)(c d:Nat):SB:=setG' g >>= λ_=>d0 b (d - 1) >>= λv=>gallop' Z5 v a 0 c (c - 1) >>= Ln a b g p q out c d
def tZ(a b:Array yX)(c:Qs):SB:=if c.2.2.2.2.1>1 then hi1 a b (c.2.2.2.2.1 - 1) c.2.2.2.2.2.1 c.2.2.2.2.2.2 c.2.2.2.1 c.2.1 c.2.2.1 else hi1 a b c.2.2.2.2.1 c.2.2.2.2.2.1 c.2.2.2.2.2.2 c.2.2.2.1 c.2.1 c.2.2.1
def F1(lt:yX->yX->Bool)(a b:yI)(st:jN)(x:Nat)(c:Qs)(d:jN):Prop:=Sg st d/\((∃r o,c=(Z9 r,o)/\Mg lt a b r.toList)∨∃f e out g p q,c=(Z8,f,e,out,g,p,q)/\Wh lt a b f e out/\x+2<=out.size)
def F0(lt:yX->yX->Bool)(a b:yI)(st:jN)(x:Nat)(c:Qs)(d:jN):Prop:=∃f e out g p q,c=(Z8,f,e,out,g,p,q)/\Sg st d/\Wh lt a b f e out/\x+2<=out.size
abbrev Qq(lt:yX->yX->Bool)(a b:yI)(st:jN)(x:Nat):ForInStep Qs->jN->Prop:=λr c=>match r with|.done d=>F1 lt a b st x d c|.yield d=>F0 lt a b st x d c
section
variable {st0:jN}{a b:yI}{x g p q na nb:Nat}{out:Array yX}
theorem N7{l:yI}(hi:i<l.length):l.toArray[i]?=Z9 l[i]:=by grind
theorem Qp(hs:Sg st0 st)(h:Mg lt a b r.toList):wpS (yW prog w) A E s (TH r out na nb g p q) (Qq lt a b st0 x) st:=jD ⟨hs,.inl ⟨_,_,rfl,h⟩⟩
theorem FZ(hs:Sg st0 st)(k:0<na)(j:na<a.length)(h:1<nb)(f:nb<=b.length)(i:x+2<=out.size)(d:MH lt a b (na - 1) nb (out.push (a[na - 1]'(by lia)))):wpS (yW prog w) A E s (Lq a.toArray b.toArray g p q out na nb) (Qq lt a b st0 x) st:=by
 refine yU (Xr (N7 (by lia)) (WI (λc=>Qp hs (Qu d (.inl (by simpa using c)))) λc=>?_));have e:Wh lt a b (na - 1) nb _:=⟨d,by simp at c;lia,h,by lia,f⟩
 exact WI (λ_=>jD ⟨hs,.inr ⟨_,_,_,_,_,_,rfl,e,by simp;lia⟩⟩) λ_=>jD ⟨_,_,_,_,_,_,rfl,hs,e,by simp;lia⟩
theorem FY(f:Yo lt)(H:YP prog w A s κ lt G)(hk:kindOf st0=κ)(B:∀x∈a,G x)(v:∀x∈b,G x)(J:Y3 lt a)(sb:Y3 lt b)(t:0<b.length)(r:∀x∈a,lt x b[0]=Z5)(hs:Sg st0 st)(h:0<na)(o:na<a.length)(N:1<nb)(L:nb<=b.length)(O:x+2<=out.size)(I:MH lt a b na nb out)(C:∀y∈(a.take na).reverse,lt (b[nb - 1]'(by lia)) y=Z5):wpS (yW prog w) A E s (hi2 a.toArray b.toArray g p q out na nb) (Qq lt a b st0 x) st:=by
 have n:=Qt I (by lia) (by lia) C;refine yU (Xr (N7 (by lia)) (WI (λl=>Qp hs (N8 n (by simpa using l) t r)) λl=>?_));have z:1<nb - 1:=by simp at l;lia
 refine yU (Xr (N7 (by lia)) (yU (RI f H (hs.k.trans hk) (B _ (qD5 _)) v (sb.sublist ((qH6 ..).trans (qJ0 ..))) (by lia) (by lia) λk u k2 F=>?_)));have c :=
  t6 n u (by lia) λi hi1 D=>SC f J (by lia) (by simpa[bq]using F i hi1 D)
 have d:0<k->∀y∈(b.take k).reverse,lt (a[na - 1]'(by omega)) y=Z5:=λM=>SC f sb (by omega) (f.as _ _ (by simpa[bq]using k2 (k - 1) (by omega) (by omega)));refine WI (λj=>WI (λm=>Qp hs (N8 c (by simpa using m) t r)) λm=>WI (λe=>Qp hs (Qu c (.inr (by simpa using e)))) λe=>?_) λj=>?_
 .exact FZ hs h o (by simp at m e;lia) (by lia) (by simp;lia) (U8 c (by lia) h (d (by simp at e;lia)))
 .have K:k=nb - 1:=by lia
  subst K;exact FZ hs h o z (by lia) (by simp;lia) (U8 n (by lia) h (d (by lia)))
theorem tY(d:Yo lt)(n:YP prog w A s κ lt G)(hk:kindOf st0=κ)(j:∀x∈a,G x)(h:∀x∈b,G x)(f:Y3 lt a)(sb:Y3 lt b)(C:0<b.length)(B:∀x∈a,lt x b[0]=Z5)(hs:Sg st0 st)(W:Wh lt a b na nb out)(l:x+2<=out.size):wpS (yW prog w) A E s (hi1 a.toArray b.toArray g p q out na nb) (Qq lt a b st0 x) st:=by
 obtain⟨m,v,t,K,r⟩:=W;refine yU (Gb λH I=>?_);have c:=hs.trans I;refine yU (Xr (N7 (by lia)) (yU (RI d n (c.k.trans hk) (h _ (qD5 _)) j (f.sublist ((qH6 ..).trans (qJ0 ..))) (by lia) (by lia) λk D k2 J=>?_)));have z:=F3 m D (by lia) λi hi1 F=>SC d sb (by lia) (d.as _ _ (by simpa[bq]using J i hi1 F));have u:0<k->∀y∈(a.take k).reverse,lt (b[nb - 1]'(by omega)) y=Z5:=λM=>SC d f (by omega) (by simpa[bq]using k2 (k - 1) (by omega) (by omega));refine WI (λo=>WI (λe=>Qp c (Qu z (.inl (by simpa using e)))) λe=>?_) λo=>?_
 .exact FY d n hk j h f sb C B c (by simp at e;lia) (by lia) t r (by rw[lC];lia) z (u (by simp at e;lia))
 .have L:k=na:=by lia
  subst L;exact FY d n hk j h f sb C B c v K t r l m (u v)
end
theorem tX(L:Yo lt)(Y:YP prog w A s κ lt G)(hk:kindOf st=κ)(U:∀x∈a,G x)(T:∀x∈b,G x)(R:Y3 lt a)(sb:Y3 lt b)
  (ha:0<a.length) (S:0<b.length) (O:∀x∈a,lt x b[0]=Z5) (hl:∀y∈b,lt (a[a.length - 1]'(by lia)) y=Z5)
  (h:∀out j,Sg st j->Mg lt a b out.toList->Q out j):wpS (yW prog w) A E s (mergeHi' a.toArray b.toArray) Q st:=by
 have u:∀i,(C:i<a.length)->a.toArray[i]?=Z9 a[i]:=λi C=>by rw[qD7];exact qA3 C
 have B:∀i,(C:i<b.length)->b.toArray[i]?=Z9 b[i]:=λi C=>by rw[qD7];exact qA3 C
 refine yU (gU (vR ⟨rfl,?_⟩));rw[show a.toArray.size=a.length from rfl,show b.toArray.size=b.length from rfl];refine yU (Xr (u (a.length - 1) (by lia)) ?_);have m0:MH lt a b a.length b.length #[]:=by
  refine⟨?_,.nil,?_,?_,λx J=>(by simp at J),λx J=>(by simp at J)⟩
  .simpa using(a.reverse_perm.append b.reverse_perm)
  .rw[qK5];exact qN7.mpr R
  .rw[qK5];exact qN7.mpr sb
 have P:=U8 m0 (by lia) ha λy Z=>hl y (qE9 (qI1.mp Z));by_cases K:(a.length - 1 == 0)=Z7
 .rw[if_pos K];exact jD (h _ _ (.rfl _) (Qu P (.inl (by simpa using K))))
 rw[if_neg K];by_cases M:(b.length == 1)=Z7
 .rw[if_pos M];exact jD (h _ _ (.rfl _) (N8 P (by simpa using M) S O))
 rw[if_neg M];have w1:Wh lt a b (a.length - 1) b.length #[a[a.length - 1]]:=⟨P,by simp at K;lia,by simp at M;lia,by lia,by lia⟩
 refine yU (gE ?_);refine yU (vT (vB (I:=λx c j=>∃d f out g,c=(Z8,d,f,out,g)/\Sg st j/\Wh lt a b d f out/\x+1<=out.size)
  (Q:=λc j=>∃r o,c=(Z9 r,o)/\Sg st j/\Mg lt a b r.toList) ?_ ?_ ⟨_,_,_,_,rfl,.rfl _,w1,by simp⟩) ?_)
 .rintro x c n _ J ⟨d,f,out,g,rfl,z,W,k⟩;have N:=z.k.trans hk;refine yU (vT (vB (I:=λy c j=>∃d f out p q,c=(Z8,d,f,out,p,q)/\j=n/\Wh lt a b d f out/\x+1+y<=out.size)
   (Q:=λc j=>j=n/\((∃r o,c=(Z9 r,o)/\Mg lt a b r.toList)∨∃d f out p q,c=(Z8,d,f,out,p,q)/\Wh lt a b d f out/\x+2<=out.size)) ?_ ?_ ⟨_,_,_,_,_,rfl,rfl,W,by lia⟩) ?_)
  .rintro y c v _ Z ⟨d,f,out,p,q,rfl,rfl,⟨m,V,j1,i2,j2⟩,k⟩;dsimp only;refine yU (Xr (B (f - 1) (by lia)) (yU (Xr (u (d - 1) (by lia)) (yU (QB Y N (T _ (qD5 _)) (U _ (qD5 _)) ?_)))));cases e:lt b[f - 1] a[d - 1]with
   |true =>
    refine yU (Xr (u (d - 1) (by lia)) ?_);have H:=U8 m (by lia) V (SC L sb (by lia) (L.as _ _ e));by_cases t:(d - 1 == 0)=Z7
    .rw[if_pos t];exact jD ⟨rfl,.inl ⟨_,_,rfl,Qu H (.inl (by simpa using t))⟩⟩
    rw[if_neg t];have D:Wh lt a b (d - 1) f (out.push a[d - 1]):=⟨H,by simp at t;lia,j1,by lia,j2⟩
    split
    .exact jD ⟨rfl,.inr ⟨_,_,_,_,_,rfl,D,by simp;lia⟩⟩
    .exact jD ⟨_,_,_,_,_,rfl,rfl,D,by simp;lia⟩
   |false =>
    refine yU (Xr (B (f - 1) (by lia)) ?_);have H:=Qt m (by lia) (by lia) (SC L R (by lia) e);by_cases t:(f - 1 == 1)=Z7
    .rw[if_pos t];exact jD ⟨rfl,.inl ⟨_,_,rfl,N8 H (by simpa using t) S O⟩⟩
    rw[if_neg t];have D:Wh lt a b d (f - 1) (out.push b[f - 1]):=⟨H,V,by simp at t;lia,i2,by lia⟩
    split
    .exact jD ⟨rfl,.inr ⟨_,_,_,_,_,rfl,D,by simp;lia⟩⟩
    .exact jD ⟨_,_,_,_,_,rfl,rfl,D,by simp;lia⟩
  .rintro c v ⟨d,f,out,p,q,rfl,rfl,W,k⟩;exact⟨rfl,.inr ⟨_,_,_,_,_,rfl,W,by lia⟩⟩
  rintro c v ⟨rfl,⟨r,o,rfl,F⟩| ⟨d,f,out,p,q,rfl,W,k⟩⟩
  .exact jD ⟨r,_,rfl,z,F⟩
  refine yU (gU (vR ⟨rfl,?_⟩));refine yU (vT (Ga (f':=λ_ c=>tZ a.toArray b.toArray c) (by kernel_rfl) (λ_=>F0 lt a b st x) (Q:=F1 lt a b st x) ?_ ?_ ⟨_,_,_,_,_,_,rfl,z,W,k⟩) ?_)
  .rintro y c st3 _ _ ⟨d,f,out,g,p,q,rfl,l,W,k⟩;have X:∀g,wpS (yW prog w) A E s (hi1 a.toArray b.toArray g p q out d f) (Qq lt a b st x) st3:=λg=>tY L Y hk U T R sb S O l W k;exact vT (WI (λ_=>X _) λ_=>X _) λr j h=>by cases r<;>exact h
  .rintro c v ⟨d,f,out,g,p,q,rfl,l,W,k⟩;exact⟨l,.inr ⟨_,_,_,_,_,_,rfl,W,k⟩⟩
  rintro c st3 ⟨l,⟨r,o,rfl,F⟩| ⟨d,f,out,g,p,q,rfl,W,k⟩⟩
  .exact jD ⟨r,_,rfl,l,F⟩
  exact yU (wW (jD ⟨_,_,_,_,rfl,⟨l.k,l.a,l.p,l.f⟩,W,by lia⟩))
 .rintro c n ⟨d,f,out,g,rfl,z,W,k⟩;have:=t7 W.m (by have:=W.i';lia) W.j'
  lia
 .rintro c n ⟨r,o,rfl,z,F⟩;exact jD (h r n z F)
end
abbrev XT:=Nat×Nat×Nat
abbrev SS(a:wD)(l:yI)(p:List XT)(g:Nat):SortSt:=SortSt.mk' a l.toArray p.toArray g Z8
theorem Sg.ss{p:List XT}(h:Sg (SS e l p g) d):∃g',d=SS e l p g':=by obtain⟨k,a,b,c⟩:=h;cases d;cases k;cases a;cases b;cases c;exact⟨_,Eq.refl _⟩
theorem tW{E:yL}{st a:Z}(h:Q ⟨⟩ a):wpS M A E s (set a:StateT Z Sem PUnit) Q st:=by unfold wpS;exact yP ⟨rfl,h⟩
theorem tV(a b:List XT)(u v z:XT):((a++u::v::b).toArray.setIfInBounds a.length z).eraseIdxIfInBounds (a.length+1)=(a++z::b).toArray:=by simp[List.eraseIdx_append_of_length_le]
theorem tU(c M b:yI):∀(N:yI) (i:Nat) (pr:yI),pr.length=c.length+i->N.length=M.length ->
  (M.zipIdx i).foldl (fun(a:Array yX) (q:yX×Nat)=>a.setIfInBounds (c.length+q.2) q.1) (pr++(N++b)).toArray=(pr++(M++b)).toArray:=by
 induction M with
 |nil=>intro N i pr f d;have:=qF5.mp d;subst this;rfl
 |cons m M g =>
  intro N i pr f d;cases N with
  |nil=>simp at d
  |cons n N =>
   rw[qU2,qL9];have e:((pr++(n::N++b)).toArray.setIfInBounds (c.length+i) m)=((pr++[m])++(N++b)).toArray:=by rw[<- f];simp
   rw[e,g N (i+1) (pr++[m]) (by simp;lia) (by simpa using d)];simp
theorem tT(h:Yo lt)(p:Y3 lt X)(u:Y3 lt Y)(w:∀y∈Y,lt y d=Z5)(i:∀x∈X,lt f x=Z5)
  (o:∀x∈X.take k,lt d x=Z5) (j:∀y∈Y.drop n,lt y f=Z5) (b:Mg lt (X.drop k) (Y.take n) M):Mg lt X Y (X.take k++(M++Y.drop n)):=by
 have v:Y3 lt (X.take k++X.drop k):=by rw[qD2];exact p
 have l:Y3 lt (Y.take n++Y.drop n):=by rw[qD2];exact u
 obtain⟨s,A,t⟩:=qC3.mp v;obtain⟨B,r,z⟩:=qC3.mp l;refine⟨?_,qC3.mpr ⟨s,qC3.mpr ⟨b.so,r,λm a y c=>?_⟩,λx g m a=>?_⟩⟩
 .have e:X++Y=X.take k++(X.drop k++Y.take n++Y.drop n):=by rw[qC1,qD2,<- qC1,qD2]
  rw[e];exact(List.Perm.refl _).append (b.pm.append (List.Perm.refl _))
 .rcases qB6.mp (b.pm.mem_iff.mp a)with a|a
  .exact h.tr m f y (i m (qE8 a)) (j y c)
  .exact z m a y c
 .have q:=λy c=>h.tr x d y (o x g) (w y c);rcases qB6.mp a with a|a
  .rcases qB6.mp (b.pm.mem_iff.mp a)with a|a
   .exact t x g m a
   .exact q m (qE9 a)
  .exact q m (qE8 a)
theorem Lm{l:yI}(h:x∈l.take n):∃i,∃hi:i<l.length,i<n/\l[i]=x:=by obtain⟨i,hi,e⟩:=qI7.mp h;refine⟨i,by simp at hi;lia,by simp at hi;lia,by simpa using e⟩
theorem Ll{l:yI}(h:x∈l.drop n):∃i,∃hi:i<l.length,n<=i/\l[i]=x:=by obtain⟨i,hi,e⟩:=qI7.mp h;refine⟨n+i,by simp at hi;lia,by lia,by simpa using e⟩
theorem FX(a:Yo lt)(sl:Y3 lt l)(h:0<l.length):∀y∈l,lt y l[0]=Z5:=λy b=>Up a sl h (a.rf _) y (by simpa using b)
theorem N6(a:Yo lt)(sl:Y3 lt l)(h:0<l.length):∀y∈l,lt (l[l.length - 1]'(by omega)) y=Z5:=λy b=>SC a sl (by omega) (a.rf _) y (by simpa using b)
section
variable {prog:yZ}{w:jJ}{A:jI}{E:yL}{s:yQ}{κ:wD}{lt:yX->yX->Bool}{G:yX->Prop}{st:jN}
theorem tS{t F:List XT}(m:Yo lt)(J:YP prog w A s κ lt G)(I:∀x∈b++(X++(Y++c)),G x)(v:Y3 lt X)(B:Y3 lt Y)(r:0<X.length)(hy:0<Y.length)(N:sb=b.length+X.length)(hi:i=t.length)
  (h:∀ZZ g',Mg lt X Y ZZ->Q Z7 (SS κ (b++(ZZ++c)) (t++(b.length,X.length+Y.length,C)::F) g')) :
  wpS (yW prog w) A E s (mergeAt' i) Q (SS κ (b++(X++(Y++c))) (t++(b.length,X.length,C)::(sb,Y.length,q)::F) g):=by
 subst hi N;have U:∀j x,(b++(X++(Y++c)))[j]?=Z9 x->(b++(X++(Y++c))).toArray[j]?=Z9 x:=λj x e=>by rw[qD7];exact e
 refine yU (gE ?_);have e1:(t++(b.length,X.length,C)::(b.length+X.length,Y.length,q)::F).toArray[t.length]?=Z9 (b.length,X.length,C):=by simp
 have e2:(t++(b.length,X.length,C)::(b.length+X.length,Y.length,q)::F).toArray[t.length+1]?=Z9 (b.length+X.length,Y.length,q):=by simp
 rw[e1,e2];dsimp only;rw[tV];refine yU (tW ?_);have gY:∀j,(o:j<Y.length)->(b++(X++(Y++c)))[b.length+X.length+j]?=Z9 Y[j]:=λj o=>by rw[qA2 (by lia),qA2 (by lia),qA8 (by lia),<- qA3 o];congr 1;lia
 have gX:∀j,(o:j<X.length)->(b++(X++(Y++c)))[b.length+j]?=Z9 X[j]:=λj o=>by rw[qA2 (by lia),qA8 (by lia),<- qA3 o];congr 1;lia
 have W:(b++(X++(Y++c))).length=b.length+X.length+Y.length+c.length:=by simp;lia
 have H:=λj o=>(qA5.mp (gY j o)).2;have D:=λj o=>(qA5.mp (gX j o)).2;have dX:((b++(X++(Y++c))).drop b.length).take X.length=X:=by simp
 have dY:((b++(X++(Y++c))).drop (b.length+X.length)).take Y.length=Y:=by simp
 have u:∀x∈X,G x:=λx r=>I x (by simp[r]);have z:∀x∈Y,G x:=λx r=>I x (by simp[r]);have fin:=λg' p=>by have:=h (X++Y) g' p;rwa[qC1]at this
 refine yU (Xr (U (b.length+X.length) Y[0] (gY 0 hy)) ?_);refine yU (RI m J rfl (z _ (qD5 _)) I (by rw[dX];exact v) (by lia) r λk k1 k2 k3=>?_);dsimp only;have S:∀x∈X.take k,lt Y[0] x=Z5:=λx r=>by obtain⟨i,hi,l,rfl⟩:=Lm r;have:=k2 i l hi;rw[D i hi]at this;simpa[bq]using this
 have h0:=FX m B hy;have O:=N6 m v r;by_cases K:(X.length - k == 0)=Z7
 .rw[if_pos K];have hk:X.length<=k:=by simp at K;lia
  refine jD (fin _ ⟨.refl _,qC3.mpr ⟨v,B,λx d y f=>m.tr x Y[0] y (S x ?_) (h0 y f)⟩⟩);rw[qH1 hk];exact d
 rw[if_neg K];have hk:=by simp at K;omega
 rw[show b.length+k+(X.length - k) - 1=b.length+(X.length - 1) by lia];refine yU (Xr (U _ (X[X.length - 1]) (gX (X.length - 1) (by lia))) ?_);refine yU (RI m J rfl (u _ (qD5 _)) I (by rw[dY];exact B) (by lia) (by lia) λn n1 n2 n3=>?_);dsimp only;have P:∀y∈Y.drop n,lt y X[X.length - 1]=Z5:=λy f=>by obtain⟨i,hi,l,rfl⟩:=Ll f;have:=n3 i l hi;rw[H i hi]at this;simpa[bq]using this
 by_cases L:(n == 0)=Z7
 .rw[if_pos L];have V:=by simpa using L
  subst V;exact jD (fin _ ⟨.refl _,qC3.mpr ⟨v,B,λx d y f=>m.tr x _ y (O x d) (P y (by simpa using f))⟩⟩)
 rw[if_neg L];have V:=by simp at L;omega
 have x2:(b++(X++(Y++c))).toArray.extract (b.length+k) (b.length+X.length)=(X.drop k).toArray:=by apply uF;rw[Oc,<- qP8];simp only[qV3];rw[List.drop_append_of_le_length (by lia),qO5 (by simp;lia)];exact qH1 (by simp;lia)
 have y1:(b++(X++(Y++c))).toArray.extract (b.length+X.length) (b.length+X.length+n)=(Y.take n).toArray:=by apply uF;rw[Oc,<- qP8];simp only[qV3];rw[show b.length+X.length+n - (b.length+X.length)=n by lia,qO5 n1]
 rw[x2,y1];have Z:∀x∈X.drop k,lt x ((Y.take n)[0]'(by simp;lia))=Z5:=λx d=>by
  obtain⟨i,hi,l,rfl⟩:=Ll d;have:=k3 i l hi;rw[D i hi]at this;have e:(Y.take n)[0]'(by simp;lia)=Y[0]:=by simp
  rw[e];exact m.as _ _ (by simpa[bq]using this)
 have R:∀y∈Y.take n,lt ((X.drop k)[(X.drop k).length - 1]'(by simp;lia)) y=Z5:=λy f=>by
  obtain⟨i,hi,l,rfl⟩:=Lm f;have:=n2 i l hi;rw[H i hi]at this;have e:(X.drop k)[(X.drop k).length - 1]'(by simp;lia)=X[X.length - 1]:=by simp only[qM8];congr 1;simp;lia
  rw[e];exact m.as _ _ (by simpa[bq]using this)
 have after:∀(out:Array yX) g',Mg lt (X.drop k) (Y.take n) out.toList->Q Z7 (SS κ (b++((X.take k++(out.toList++Y.drop n))++c)) (t++(b.length,X.length+Y.length,C)::F) g'):=λout g' p=>h _ g' (tT m v B h0 O S P p);have fo:∀(out:Array yX),Mg lt (X.drop k) (Y.take n) out.toList->out.toList.zipIdx.foldl (λa x=>a.setIfInBounds (b.length+k+x.2) x.1) (b++(X++(Y++c))).toArray=(b++((X.take k++(out.toList++Y.drop n))++c)).toArray:=λout p=>by
  have e:=tU (b++X.take k) out.toList (Y.drop n++c) (X.drop k++Y.take n) 0 (b++X.take k) (by simp) p.pm.length_eq.symm;have e5:(b++X.take k).length=b.length+k:=by simp;lia
  have e6:b++X.take k++(X.drop k++Y.take n++(Y.drop n++c))=b++(X++(Y++c)):=by
   conv=>rhs;rw[<- qD2 k X,<- qD2 n Y]
   simp only[qC1]
  have e7:b++X.take k++(out.toList++(Y.drop n++c))=b++((X.take k++(out.toList++Y.drop n))++c):=by simp only[qC1]
  rw[e5,e6,e7]at e;exact e
 by_cases hc:X.length - k<=n
 case' pos =>
  rw[if_pos hc];refine yU (t9 m J rfl (λx d=>u x (qE8 d)) (λx d=>z x (qE9 d)) (v.sublist (qJ0 ..)) (B.sublist (qH6 ..)) (by simp;lia) (by simp;lia) Z R λout M T p=>?_)
 case' neg =>
  rw[if_neg hc];refine yU (tX m J rfl (λx d=>u x (qE8 d)) (λx d=>z x (qE9 d)) (v.sublist (qJ0 ..)) (B.sublist (qH6 ..)) (by simp;lia) (by simp;lia) Z R λout M T p=>?_)
 all_goals
  obtain⟨g',rfl⟩:=T.ss;refine yU (wW (yU (gE (jD ?_))));have:=after out g' p;rw[SS,<- fo out p]at this;exact this
end
theorem tR(P T U:yI):mirror (P++(T++U)).toArray P.length (P.length+T.length) ((P.length+T.length - P.length) / 2)=(P++(T.reverse++U)).toArray:=by
 apply Array.ext_getElem?;intro k;rw[getElem?_mirror_all (by simp)];simp only[qD7];by_cases h:P.length<=k/\k<P.length+T.length
 .rw[if_pos h,qA2 (by omega),qA8 (by omega),qA2 (by omega),qA8 (by simp;omega),qR5 (by omega)];congr 1;omega
 .rw[if_neg h];by_cases a:k<P.length
  .rw[qA8 a,qA8 a]
  .rw[qA2 (by omega),qA2 (by omega),qA2 (by omega),qA2 (by simp;omega)];simp
theorem tQ(P T U:yI)(e:yX):bubble (P++(T++(e::U))).toArray (P.length+T.length) T.length=(P++(e::(T++U))).toArray:=by
 apply Array.ext_getElem?;intro k;rw[getElem?_bubble (by simp) _ (by lia)];simp only[qD7,qT0];by_cases h:k=P.length
 .rw[if_pos h,qA2 (by lia),qA2 (by lia),qA2 (by lia),h];simp
 .rw[if_neg h];by_cases a:P.length<k/\k<=P.length+T.length
  .rw[if_pos a,qA2 (by lia),qA8 (by lia),qA2 (by lia)];obtain⟨m,rfl⟩:∃m,k=P.length+m+1:=⟨k - P.length - 1,by lia⟩
   rw[show P.length+m+1 - P.length=m+1 by lia,qJ1,qA8 (by lia)];congr 1;lia
  .rw[if_neg a];by_cases b:k<P.length
   .rw[qA8 b,qA8 b]
   .obtain⟨m,rfl⟩:∃m,k=P.length+T.length+m+1:=⟨k - P.length - T.length - 1,by lia⟩
    rw[qA2 (by lia),qA2 (by lia),qA2 (by lia),show P.length+T.length+m+1 - P.length - T.length=m+1 by lia,show P.length+T.length+m+1 - P.length=T.length+m+1 by lia,qJ1,qJ1,qA2 (by lia)];congr 1;lia
section
variable {prog:yZ}{w:jJ}{A:jI}{E:yL}{s:yQ}{κ:wD}{lt:yX->yX->Bool}{G:yX->Prop}{p:List XT}{g:Nat}
theorem Qo(d:YP prog w A s κ lt G)(c:∀x∈l,G x)(a:l[i]?=Z9 x)(b:l[j]?=Z9 y)(h:Q (Z9 (lt x y)) (SS κ l p g)):wpS (yW prog w) A E s (ltAt' i j) Q (SS κ l p g):=by refine yU (gE ?_);refine yU (Xr (by rw[qD7];exact a) (yU (Xr (by rw[qD7];exact b) ?_)));exact QB d rfl (c x (qC2 a)) (c y (qC2 b)) h
theorem Qn{P T U:yI}(hi:i=P.length)(a:j=P.length+T.length)(h:Q () (SS κ (P++(T.reverse++U)) p g)):wpS (yW prog w) A E s (uA i j) Q (SS κ (P++(T++U)) p g):=by
 subst hi a;rw[reverseSlice'_eq];refine wW ?_;have e:setArr (SS κ (P++(T++U)) p g) (mirror (uY (SS κ (P++(T++U)) p g)) P.length (P.length+T.length) ((P.length+T.length - P.length) / 2))=SS κ (P++(T.reverse++U)) p g:=by rw[tR]
 rw[e];exact h
theorem tP{P T U:yI}(hi:i=P.length+T.length)(a:j=P.length)(h:Q () (SS κ (P++(e::(T++U))) p g)):wpS (yW prog w) A E s (moveDown' i j) Q (SS κ (P++(T++(e::U))) p g):=by
 subst hi a;rw[moveDown'_eq];refine wW ?_;have b:setArr (SS κ (P++(T++(e::U))) p g) (bubble (uY (SS κ (P++(T++(e::U))) p g)) (P.length+T.length) (P.length+T.length - P.length))=SS κ (P++(e::(T++U))) p g:=by rw[qM4,tQ]
 rw[b];exact h
theorem FW{a D U:yI}{lo n:Nat}(o:Yo lt)(F:YP prog w A s κ lt G)(t:∀x∈a++(D++U),G x)(m:lo=a.length)(B:n=D.length+U.length)(M:0<D.length)(L:Y3 lt D)
  (h:∀V W,U=V++W->Y3 lt (D++V)->(W=[]∨∃e J,W=e::J/\∃z,(D++V)[(D++V).length - 1]?=Z9 z/\lt e z=Z7)->Q (Z8,D.length+V.length) (SS κ (a++(D++U)) p g)) :
  wpS (yW prog w) A E s (forIn [D.length:n] (Z8,D.length) λ_ (c:Option (yK)×Nat)=>ltAt' (lo+c.2) (lo+c.2 - 1) >>= λr=>match r with
   |some b=>if b=Z7 then pure (ForInStep.done (Z8,c.2))else pure (ForInStep.yield (Z8,c.2+1))
   | _=>pure (ForInStep.done (Z9 Z8,c.2))) Q (SS κ (a++(D++U)) p g):=by
 subst m B;refine vB (I:=λx c d=>d=SS κ (a++(D++U)) p g/\c=(Z8,x)/\∃V W,U=V++W/\x=D.length+V.length/\Y3 lt (D++V)) ?_ ?_ ⟨rfl,rfl,[],U,rfl,rfl,by simpa using L⟩
 .rintro x c d _ j ⟨rfl,rfl,V,W,rfl,rfl,f⟩;cases W with
  |nil=>simp at j
  |cons e W =>
   have H:(D++V).length - 1<(D++V).length:=by simp;lia
   obtain⟨z,l⟩:∃z,(D++V)[(D++V).length - 1]?=Z9 z:=⟨_,qA3 H⟩
   have i:=l;rw[qB9]at i;refine yU (Qo F t (x:=e) (y:=z) ?_ ?_ ?_)
   .rw[qA2 (by lia),qA2 (by lia),qA2 (by lia)];rw[show a.length+(D.length+V.length) - a.length - D.length - V.length=0 by lia];rfl
   .rw[<- qC1 D,qA2 (by lia),qA8 (by simp;lia),<- i];congr 1;lia
   .cases k:lt e z with
    |true=>exact jD (h V (e::W) rfl f (.inr ⟨e,W,rfl,z,l,k⟩))
    |false =>
     refine jD ⟨rfl,rfl,V++[e],W,by simp,by simp;lia,?_⟩;rw[<- qC1];refine qC3.mpr ⟨f,qE5 ..,λu K v C=>?_⟩;have:=qB2.mp C;subst this;have q:=N6 o f (by lia) u K;rw[<- (qA5.mp l).2]at k;exact o.tr _ _ _ q k
 .rintro c d ⟨rfl,rfl,V,W,rfl,j,f⟩;have:W=[]:=by
   cases W with
   |nil=>rfl
   |cons e W=>simp at j
  subst this;rw[j];exact h V [] rfl f (.inl rfl)
end
structure WH(lt:yX->yX->Bool)(R D1 T U:yI):Prop where
 pm:(D1++(T++U)).Perm R
 ds:Y3 (λx y=>lt y x) (D1++T)
 t0:0<T.length
 eq:∀u∈T,∀v∈T,lt u v=Z5
section
variable {lt:yX->yX->Bool}{R D1 T U:yI}{e t:yX}
theorem WH.last(h:WH lt R D1 T (e::U))(a:Yo lt)(ht:(D1++T)[(D1++T).length - 1]?=Z9 t)(k:lt t e=Z5):∀d∈D1++T,lt d e=Z5:=by intro d b;have q:=N6 a.flip h.ds (by have:=h.t0;simp;lia) d b;rw[(qA5.mp ht).2]at q;exact a.tr e t d k q
theorem WH.rev(h:WH lt R D1 T U):Y3 (λx y=>lt y x) (D1++T.reverse):=by obtain⟨a,b,c⟩:=qC3.mp h.ds;refine qC3.mpr ⟨a,qN2 λu i v d=>h.eq u (by simpa using i) v (by simpa using d),λx f y g=>c x f y (by simpa using g)⟩
theorem WH.one(h:WH lt R D1 T (e::U))(q:∀d∈D1++T,lt d e=Z5)(g:Yo lt):WH lt R (D1++T) [e] U:=by
 refine⟨by simpa using h.pm,qC3.mpr ⟨h.ds,qE5 ..,λx a y c=>?_⟩,by simp,λu f v b=>?_⟩
 .rw[qB2.mp c];exact q x a
 .rw[qB2.mp f,qB2.mp b];exact g.rf _
theorem WH.oneR(h:WH lt R D1 T (e::U))(q:∀d∈D1++T,lt d e=Z5)(g:Yo lt):WH lt R (D1++T.reverse) [e] U:=by
 refine⟨?_,qC3.mpr ⟨h.rev,qE5 ..,λx a y c=>?_⟩,by simp,λu f v b=>?_⟩
 .rw[qC1];exact((List.Perm.refl D1).append (T.reverse_perm.append (List.Perm.refl _))).trans h.pm
 .rw[qB2.mp c];refine q x ?_;rcases qB6.mp a with a|a
  .exact qF7 _ a
  .exact qD1 _ (by simpa using a)
 .rw[qB2.mp f,qB2.mp b];exact g.rf _
theorem WH.more(h:WH lt R D1 T (e::U))(q:∀d∈D1++T,lt d e=Z5)(c:Yo lt)(ht:(D1++T)[(D1++T).length - 1]?=Z9 t)(k:lt e t=Z5):WH lt R D1 (T++[e]) U:=by
 have i:=by rw[qA2 (by have:=h.t0;simp;omega)]at ht;exact qC2 ht
 refine⟨by simpa using h.pm,?_,by simp,?_⟩
 .rw[<- qC1];exact qC3.mpr ⟨h.ds,qE5 ..,λx f y g=>by rw[qB2.mp g];exact q x f⟩
 .intro u b v a;rcases qB6.mp b with b|b<;>rcases qB6.mp a with a|a
  .exact h.eq u b v a
  .rw[qB2.mp a];exact q u (qD1 _ b)
  .rw[qB2.mp b];exact c.tr v t e (h.eq t i v a) k
  .rw[qB2.mp b,qB2.mp a];exact c.rf _
end
section
variable {prog:yZ}{w:jJ}{A:jI}{E:yL}{s:yQ}{κ:wD}{lt:yX->yX->Bool}{G:yX->Prop}{p:List XT}{g:Nat}
def FV(b:wD)(lt:yX->yX->Bool)(a R:yI)(p:List XT)(g:Nat)(Q:yK->jN->Prop):Prop :=
 ∀N W,(N++W).Perm R->0<N.length->Y3 lt N->Q (Z9 N.length) (SS b (a++(N++W)) p g)
theorem FU{a R b:yI}(c:∀x∈a++R,G x)(h:b.Perm R):∀x∈a++b,G x:=by grind
def Lk(lo a n:Nat):StateT jN Sem (Option (yK)×Nat):=forIn [a:n] (Z8,a) λ_ (c:Option (yK)×Nat)=>ltAt' (lo+c.2) (lo+c.2 - 1) >>= λr=>match r with
 |some b=>if b=Z7 then pure (ForInStep.done (Z8,c.2))else pure (ForInStep.yield (Z8,c.2+1))
 |_=>pure (ForInStep.done (Z9 Z8,c.2))
def Lj(lo m n:Nat):StateT jN Sem (Option (yK)×Nat×Nat):=forIn [m:n] (Z8,m,0) λ_ (c:Option (yK)×Nat×Nat)=>ltAt' (lo+c.2.1) (lo+c.2.1 - 1) >>= λr=>match r with
 |some a=>if a=Z7 then ite (c.2.2>0) (uA (lo+c.2.1 - (c.2.2+1)) (lo+c.2.1) >>= λ_=>pure (ForInStep.yield (Z8,c.2.1+1,0))) (pure (ForInStep.yield (Z8,c.2.1+1,0)))
  else ltAt' (lo+c.2.1 - 1) (lo+c.2.1) >>= λr=>match r with
   |some b=>if b=Z7 then pure (ForInStep.done (Z8,c.2.1,c.2.2))else pure (ForInStep.yield (Z8,c.2.1+1,c.2.2+1))
   |_=>pure (ForInStep.done (Z9 Z8,c.2.1,c.2.2))
 |_=>pure (ForInStep.done (Z9 Z8,c.2.1,c.2.2))
theorem FT{lo n:Nat}(j:Yo lt)(B:YP prog w A s κ lt G)(D:∀x∈b++R,G x)(r:lo=b.length)(J:n=R.length)(d:WH lt R a T U)(i:T.length=1)
   (hm:m=(a++T).length) (h:∀a T U q,WH lt R a T U->T.length=q+1->Q (Z8,(a++T).length,q) (SS κ (b++(a++(T++U))) p g)):wpS (yW prog w) A E s (Lj lo m n) Q (SS κ (b++(a++(T++U))) p g):=by
 subst r J hm;refine vT (vB (I:=λx c f=>∃a T U q,c=(Z8,x,q)/\f=SS κ (b++(a++(T++U))) p g/\WH lt R a T U/\(a++T).length=x/\T.length=q+1)
  (Q:=λc f=>∃a T U q,c=(Z8,(a++T).length,q)/\f=SS κ (b++(a++(T++U))) p g/\WH lt R a T U/\T.length=q+1) ?_ ?_ ⟨a,T,U,0,rfl,rfl,d,rfl,i⟩) ?_
 .rintro x c f _ o ⟨a,T,U,q,rfl,rfl,d,rfl,i⟩;dsimp only;have F:=d.pm.length_eq;cases U with
  |nil=>simp at F o;lia
  |cons e U =>
   have L:(a++T).length - 1<(a++T).length:=by simp;lia
   obtain⟨t,l⟩:∃t,(a++T)[(a++T).length - 1]?=Z9 t:=⟨_,qA3 L⟩
   have u:(b++(a++(T++e::U)))[b.length+(a++T).length]?=Z9 e:=by rw[<- qC1 a,qA2 (by lia),qA2 (by lia),show b.length+(a++T).length - b.length - (a++T).length=0 by lia];rfl
   have v:(b++(a++(T++e::U)))[b.length+(a++T).length - 1]?=Z9 t:=by rw[<- qC1 a,qA2 (by lia),qA8 (by lia),<- l];congr 1;lia
   have k:=FU D d.pm;refine yU (Qo B k u v ?_);cases y:lt e t with
   |true =>
    have C:=d.last j l (j.as _ _ y);simp only[if_true];by_cases z:q>0
    .rw[if_pos z];have H:b++(a++(T++e::U))=(b++a)++(T++e::U):=by simp
     rw[H];refine yU (Qn (by simp;lia) (by simp;lia) (jD ⟨a++T.reverse,[e],U,0,rfl,by simp,d.oneR C j,by simp;lia,rfl⟩))
    .rw[if_neg z];exact jD ⟨a++T,[e],U,0,rfl,by simp,d.one C j,by simp;lia,rfl⟩
   |false =>
    refine yU (Qo B k v u ?_);cases K:lt t e with
    |true=>exact jD ⟨a,T,e::U,q,rfl,rfl,d,i⟩
    |false=>exact jD ⟨a,T++[e],U,q+1,rfl,by simp,d.more (d.last j l K) j l y,by simp;lia,by simp[i]⟩
 .rintro c f ⟨a,T,U,q,rfl,rfl,d,o,i⟩;exact⟨a,T,U,q,by rw[o],rfl,d,i⟩
 rintro c f ⟨a,T,U,q,rfl,rfl,d,i⟩;exact h a T U q d i
theorem N5{lo n a:Nat}{K:Option (yK)×Nat->StateT jN Sem (yK)}(u:∀m st,Q (Z9 m) st->wpS (yW prog w) A E s (K (Z8,m)) Q st)(l:Yo lt)(q:YP prog w A s κ lt G)(i:∀x∈b++R,G x)(d:lo=b.length)(k:n=R.length)(h:FV κ lt b R p g Q)
  (v:Y3 (λx y=>lt y x) D) (t:a=D.length) (r:0<D.length) (o:(D++U).Perm R):wpS (yW prog w) A E s (uA lo (lo+a) >>= λ_=>Lk lo a n >>= K) Q (SS κ (b++(D++U)) p g):=by
 subst t d k;refine yU (Qn rfl rfl ?_);have c:=(D.reverse_perm.append (List.Perm.refl U)).trans o;have f:D.length=D.reverse.length:=by simp
 rw[f];refine yU (FW l q (FU i c) rfl (by rw[<- c.length_eq];simp) (by simp[r]) v.rev λV W e j _=>?_);subst e;have:=h (D.reverse++V) W (by simpa using c) (by simp;lia) j;simp only[qC1,qB9]at this;exact u _ _ this
theorem tO{lo n:Nat}(j:Yo lt)(C:YP prog w A s κ lt G)(t:∀x∈f++R,G x)(i:lo=f.length)(B:n=R.length)(hR:0<R.length)(h:FV κ lt f R p g Q):
  wpS (yW prog w) A E s (countRun' lo n) Q (SS κ (f++R) p g):=by
 obtain⟨r,R',rfl⟩:∃r R',R=r::R':=by cases R with
  |nil=>simp at hR
  |cons r R=>exact⟨r,R,rfl⟩
 refine yU (FW j C t i (by rw[B];simp;lia) (by simp) (qE5 ..) λV W e J ho=>?_);subst e;dsimp only;by_cases M:([r].length+V.length == n)=Z7
 .rw[if_pos M];have:=h ([r]++V) W (by simp) (by simp) J;simp only[qB9]at this;exact jD this
 rw[if_neg M];rcases ho with rfl|⟨e,W',rfl,z,K,Y⟩
 .exfalso;apply M;rw[B];simp;lia
 have P:∀x∈f++(([r]++V)++e::W'),G x:=by simpa using t
 rw[show f++([r]++(V++e::W'))=f++(([r]++V)++e::W') by simp];have X:∀H,(H++e::W').Perm (r::(V++e::W'))->(∀u∈H,∀v∈H,lt u v=Z5)->(∀d∈H,lt d e=Z5)->WH lt (r::(V++e::W')) H [e] W':=λH a b c =>
  ⟨by simpa using a,qC3.mpr ⟨qN2 b,qE5 ..,λx Z y hy=>by rw[qB2.mp hy];exact c x Z⟩,by simp,λu o v D=>by rw[qB2.mp o,qB2.mp D];exact j.rf _⟩
 by_cases L:[r].length+V.length>1
 .rw[if_pos L];refine yU (Qo C P (x:=r) (by rw[i,qA2 (by lia)];simp) (by
   rw[i,qA2 (by lia),qA8 (by simp at L ⊢;lia),<- K];congr 1;simp;lia) ?_)
  cases e3:lt r z with
  |true =>
   have:=h ([r]++V) (e::W') (by simp) (by simp) J;simp only[qB9]at this ⊢;exact jD this
  |false =>
   have z1:=λu o=>by have:=N6 j J (by simp) u o;rwa[(qA5.mp K).2]at this
   have z2:=λu o=>FX j J (by simp) u o;have S:=λu o v D=>j.tr v r u (j.tr v z r (z1 v D) e3) (z2 u o);have zm:=qC2 K;refine yU (Qn i (by simp;lia) ?_);have N:=X ([r]++V).reverse (by
    have:=((([r]++V).reverse_perm).append (List.Perm.refl (e::W')))
    simpa using this) (λu o v D=>S u (qI1.mp o) v (qI1.mp D)) (λd O=>j.tr e z d (j.as _ _ Y) (S d (qI1.mp O) z zm))
   refine yU (gU (vR ⟨rfl,?_⟩));refine yU (FT j C (by simpa using t) i B N rfl (by simp;lia) λk T U q l hT=>?_);dsimp only;by_cases I:q>0
   .rw[if_pos I,show f++(k++(T++U))=(f++k)++(T++U) by simp];refine yU (Qn (by simp;lia) (by simp;lia) ?_);rw[show(f++k)++(T.reverse++U)=f++((k++T.reverse)++U) by simp];exact N5 (λm st F=>jD F) j C (by simpa using t) i B h l.rev (by simp) (by have:=l.t0;simp;lia) (by rw[qC1];exact((List.Perm.refl k).append (T.reverse_perm.append (List.Perm.refl _))).trans l.pm)
   .rw[if_neg I,show f++(k++(T++U))=f++((k++T)++U) by simp];exact N5 (λm st F=>jD F) j C (by simpa using t) i B h l.ds rfl (by have:=l.t0;simp;lia) (by simpa using l.pm)
 .rw[if_neg L];have hV:V=[]:=by cases V with
   |nil=>rfl
   |cons v V=>simp at L
  subst hV;have N:=X [r] (by simp) (λu o v D=>by rw[qB2.mp o,qB2.mp D];exact j.rf _) (λd O=>by
   rw[qB2.mp O];have:=by simpa using K.symm
   rw[<- this];exact j.as _ _ Y)
  refine yU (gU (vR ⟨rfl,?_⟩));refine yU (FT j C (by simpa using t) i B N rfl (by simp) λk T U q l hT=>?_);dsimp only;by_cases I:q>0
  .rw[if_pos I,show f++(k++(T++U))=(f++k)++(T++U) by simp];refine yU (Qn (by simp;lia) (by simp;lia) ?_);rw[show(f++k)++(T.reverse++U)=f++((k++T.reverse)++U) by simp];exact N5 (λm st F=>jD F) j C (by simpa using t) i B h l.rev (by simp) (by have:=l.t0;simp;lia) (by rw[qC1];exact((List.Perm.refl k).append (T.reverse_perm.append (List.Perm.refl _))).trans l.pm)
  .rw[if_neg I,show f++(k++(T++U))=f++((k++T)++U) by simp];exact N5 (λm st F=>jD F) j C (by simpa using t) i B h l.ds rfl (by have:=l.t0;simp;lia) (by simpa using l.pm)
end
section
variable {prog:yZ}{w:jJ}{A:jI}{E:yL}{s:yQ}{κ:wD}{lt:yX->yX->Bool}{G:yX->Prop}{p:List XT}{g:Nat}
theorem tN(j:Yo lt)(d:Y3 lt S)(c:∀x∈S.take l,lt e x=Z5)(k:∀x∈S.drop l,lt e x=Z7):Y3 lt (S.take l++(e::S.drop l)):=by
 have m:Y3 lt (S.take l++S.drop l):=by rw[qD2];exact d
 obtain⟨i,h,f⟩:=qC3.mp m;refine qC3.mpr ⟨i,qG0.mpr ⟨λy a=>j.as _ _ (k y a),h⟩,λx b y a=>?_⟩;rcases qB0.mp a with rfl|a
 .exact c x b
 .exact f x b y a
theorem tM{d S U b:yI}{lo n ok:Nat}(z:Yo lt)(hA:YP prog w A s κ lt G)(P:∀x∈d++(S++(U++b)),G x)(M:lo=d.length)(R:n=S.length+U.length)(H:ok=S.length)(h0:0<S.length)(W:Y3 lt S)
  (h:∀N,N.Perm (S++U)->Y3 lt N->Q Z7 (SS κ (d++(N++b)) p g)):wpS (yW prog w) A E s (binarySort' lo n ok) Q (SS κ (d++(S++(U++b))) p g):=by
 subst M R H;rw[binarySort'_eq];rw[show max S.length 1=S.length by lia];refine yU (vT (vB (I:=λk c o=>c=(Z8,())/\∃a j,k=a.length/\(a++j).Perm (S++U)/\Y3 lt a/\o=SS κ (d++(a++(j++b))) p g)
  (Q:=λc o=>c=(Z8,())/\∃N,N.Perm (S++U)/\Y3 lt N/\o=SS κ (d++(N++b)) p g) ?_ ?_ ⟨rfl,S,U,rfl,.refl _,W,rfl⟩) ?_)
 .rintro k c o T Y ⟨rfl,a,j,rfl,u,t,rfl⟩;have J:=u.length_eq;cases j with
  |nil=>simp at J;lia
  |cons e j =>
  have O:∀x∈d++(a++(e::j++b)),G x:=λx m=>P x (by
   rcases qB6.mp m with m|m
   .exact qF7 _ m
   .refine qD1 _ ?_;rw[<- qC1]at m ⊢;rcases qB6.mp m with m|m
    .exact qF7 _ (u.mem_iff.mp m)
    .exact qD1 _ m)
  refine yU (vT (vB (I:=λx c f=>f=SS κ (d++(a++(e::j++b))) p g/\∃l r,c=(Z8,l,r)/\l<=r/\r<=a.length/\r - l<=a.length - x /\
    (∀i,(q:i<a.length)->i<l->lt e a[i]=Z5)/\(∀i,(q:i<a.length)->r<=i->lt e a[i]=Z7))
   (Q:=λc f=>f=SS κ (d++(a++(e::j++b))) p g/\∃l r,c=(Z8,l,r)/\l<=a.length /\
    (∀i,(q:i<a.length)->i<l->lt e a[i]=Z5)/\(∀i,(q:i<a.length)->l<=i->lt e a[i]=Z7)) ?_ ?_ ⟨rfl,0,a.length,rfl,by lia,by lia,by lia,λi q h=>(by lia),λi q h=>(by lia)⟩) ?_)
  .rintro x c f _ m ⟨rfl,l,r,rfl,L,B,Z,D,C⟩;dsimp only;by_cases F:l≥r
   .rw[if_pos F];have:l=r:=by lia
    subst this;exact jD ⟨rfl,l,l,rfl,B,D,C⟩
   .rw[if_neg F];refine yU (Qo hA O (x:=e) (y:=a[(l+r) / 2]'(by lia)) ?_ ?_ ?_)
    .rw[qA2 (by lia),qA2 (by lia),show d.length+a.length - d.length - a.length=0 by lia];rfl
    .rw[qA2 (by lia),qA8 (by lia),qM4];exact qA3 (by lia)
    .cases K:lt e (a[(l+r) / 2]'(by lia))with
     |true =>
      refine jD ⟨rfl,l,(l+r) / 2,rfl,by lia,by lia,by lia,D,λi q V=>?_⟩;cases X:lt e a[i]with
      |true=>rfl
      |false =>
       have:=Up z t (i:=(l+r) / 2) (by lia) (z.rf _) a[i] (by
        rw[qI7];exact⟨i - (l+r) / 2,by simp;lia,by simp only[qM8];congr 1;lia⟩)
       rw[z.tr _ _ _ this X]at K;cases K
     |false =>
      refine jD ⟨rfl,(l+r) / 2+1,r,rfl,by lia,by lia,by lia,λi q V=>?_,C⟩;have:=Up z t q (z.rf _) (a[(l+r) / 2]'(by lia)) (by
        rw[qI7];exact⟨(l+r) / 2 - i,by simp;lia,by simp only[qM8];congr 1;lia⟩)
      exact z.tr _ _ _ this K
  .rintro c f ⟨rfl,l,r,rfl,L,B,Z,D,C⟩;have:l=r:=by lia
   subst this;exact⟨rfl,l,l,rfl,B,D,C⟩
  .rintro c f ⟨rfl,l,r,rfl,hl,D,C⟩;have e0:d++(a++(e::j++b))=(d++a.take l)++(a.drop l++(e::(j++b))):=by
    conv=>lhs;rw[<- qD2 l a]
    simp only[qC1,qK8]
   rw[e0];refine yU (tP (by simp;lia) (by simp;lia) (jD ⟨rfl,a.take l++(e::a.drop l),j,by simp;lia,?_,tN z t (λx m=>?_) (λx m=>?_),by simp⟩))
   .refine List.Perm.trans ?_ u;have:(a++e::j)=a.take l++(a.drop l++(e::j)):=by rw[<- qC1,qD2]
    rw[this,qC1];refine(List.Perm.refl _).append ?_;exact qU4.symm
   .obtain⟨i,q,v,rfl⟩:=Lm m;exact D i q v
   .obtain⟨i,q,v,rfl⟩:=Ll m;exact C i q v
 .rintro c o ⟨rfl,a,j,hk,u,t,rfl⟩;have J:=u.length_eq;have:j=[]:=by
   cases j with
   |nil=>rfl
   |cons e j=>simp at J;lia
  subst this;exact⟨rfl,a,by simpa using u,t,by simp⟩
 .rintro c o ⟨rfl,N,u,sN,rfl⟩;exact jD (h N u sN)
end
abbrev Rn:=List (yI×Nat)
def Zs:Rn->yI
 |[]=>[]
 |r::rs=>r.1++Zs rs
def YN:Nat->Rn->List XT
 |_,[]=>[]
 |o,r::rs=>(o,r.1.length,r.2)::YN (o+r.1.length) rs
theorem Um:∀(a b:Rn),Zs (a++b)=Zs a++Zs b
 |[],_=>rfl
 |r::a,b=>by rw[qK8,Zs,Um a b,Zs,qC1]
theorem TC:∀(o:Nat) (a b:Rn),YN o (a++b)=YN o a++YN (o+(Zs a).length) b
 |o,[],b=>by simp[YN,Zs]
 |o,r::a,b=>by rw[qK8,YN,TC (o+r.1.length) a b,YN,Zs,qB9,qK8,qS6]
theorem RG:∀(o:Nat) (a:Rn),(YN o a).length=a.length
 |_,[]=>rfl
 |o,r::a=>by rw[YN,qC9,RG,qC9]
structure X9(lt:yX->yX->Bool)(rs:Rn):Prop where
 s:∀r∈rs,Y3 lt r.1
 p:∀r∈rs,0<r.1.length
theorem X9.len:∀{rs:Rn},X9 lt rs->rs.length<=(Zs rs).length
 |[],_=>qA6 _
 |r::rs,h=>by have:=X9.len (rs:=rs) ⟨λx a=>h.s x (qC5 _ a),λx a=>h.p x (qC5 _ a)⟩;have:=h.p r (qE2 ..);rw[Zs,qB9,qC9];lia
theorem tL{rs:Rn}(h:i+1<rs.length):∃a x y b,rs=a++x::y::b/\a.length=i:=by refine⟨rs.take i,rs[i],rs[i+1],rs.drop (i+2),?_,by simp;lia⟩;rw[<- qF8,<- qF8,qD2]
theorem FS{rs:Rn}(h:rs≠[]):∃a x,rs=a++[x]:=⟨rs.dropLast,rs.getLast h,(List.dropLast_concat_getLast h).symm⟩
theorem FR:∀(l:List XT) (u:XT) (f:XT->XT),(l++[u]).modify l.length f=l++[f u]
 |[],u,f=>by simp
 |v::l,u,f=>by rw[qK8,qC9,List.modify_succ_cons,FR l u f,qK8]
theorem tK{c:Prop}[Decidable c]{n:Nat}(h:1<n):(if c then n - 2 - 1 else n - 2)+1<n:=by split<;>omega
section
variable {prog:yZ}{w:jJ}{A:jI}{E:yL}{s:yQ}{κ:wD}{lt:yX->yX->Bool}{G:yX->Prop}
abbrev Xa(a:wD)(rs:Rn)(ZK:yI)(g:Nat):SortSt:=SS a (Zs rs++ZK) (YN 0 rs) g
end
section
variable {prog:yZ}{w:jJ}{A:jI}{E:yL}{s:yQ}{κ:wD}{lt:yX->yX->Bool}{G:yX->Prop}
theorem FQ{ZK:yI}(v:Yo lt)(y:YP prog w A s κ lt G)(n:∀x∈Zs rs++ZK,G x)(e:X9 lt rs)(hi:i+1<rs.length)
  (h:∀d g',X9 lt d->(Zs d).Perm (Zs rs)->d.length+1=rs.length->Q Z7 (Xa κ d ZK g')):wpS (yW prog w) A E s (mergeAt' i) Q (Xa κ rs ZK g):=by
 obtain⟨a,⟨X,c⟩,⟨Y,q⟩,r2,rfl,rfl⟩:=tL hi;have k:(X,c)∈a++(X,c)::(Y,q)::r2:=by simp
 have t:(Y,q)∈a++(X,c)::(Y,q)::r2:=by simp
 have p:Zs (a++(X,c)::(Y,q)::r2)++ZK=Zs a++(X++(Y++(Zs r2++ZK))):=by rw[Um,Zs,Zs];simp
 have u:YN 0 (a++(X,c)::(Y,q)::r2)=YN 0 a++((Zs a).length,X.length,c)::((Zs a).length+X.length,Y.length,q)::YN ((Zs a).length+X.length+Y.length) r2:=by rw[TC,YN,YN];simp
 have j:Xa κ (a++(X,c)::(Y,q)::r2) ZK g=SS κ (Zs a++(X++(Y++(Zs r2++ZK)))) (YN 0 a++((Zs a).length,X.length,c)::((Zs a).length+X.length,Y.length,q)::YN ((Zs a).length+X.length+Y.length) r2) g:=by unfold Xa;rw[p,u]
 rw[j];rw[p]at n;refine tS v y n (e.s _ k) (e.s _ t) (e.p _ k) (e.p _ t) rfl (RG ..).symm λZZ g' m=>?_;have o:=m.pm.length_eq;rw[qB9]at o;have b:=h (a++(ZZ,c)::r2) g' ⟨λr b=>?_,λr b=>?_⟩ ?_ (by simp;lia)
 .have l:Zs (a++(ZZ,c)::r2)++ZK=Zs a++(ZZ++(Zs r2++ZK)):=by rw[Um,Zs];simp
  have f:YN 0 (a++(ZZ,c)::r2)=YN 0 a++((Zs a).length,X.length+Y.length,c)::YN ((Zs a).length+X.length+Y.length) r2:=by rw[TC,YN];simp only[qN3];rw[o,qS6]
  unfold Xa at b;rw[l,f]at b;exact b
 .rcases qB6.mp b with b|b
  .exact e.s r (by simp[b])
  .rcases qB0.mp b with rfl|b
   .exact m.so
   .exact e.s r (by simp[b])
 .rcases qB6.mp b with b|b
  .exact e.p r (by simp[b])
  .rcases qB0.mp b with rfl|b
   .have:=e.p _ k;show 0<ZZ.length;simp at this;lia
   .exact e.p r (by simp[b])
 .rw[Um,Um,Zs,Zs,Zs];refine(List.Perm.refl _).append ?_;rw[<- qC1];exact m.pm.append (List.Perm.refl _)
theorem tJ{i:Nat}(h:i<rs.length):∃o,(YN 0 rs).toArray[i]?=Z9 (o,rs[i].1.length,rs[i].2):=by
 have e:rs=rs.take i++rs[i]::rs.drop (i+1):=by rw[<- qF8,qD2]
 refine⟨(Zs (rs.take i)).length,?_⟩;rw[qD7]
 conv=>lhs;rw[e]
 rw[TC,qA2 (by rw[RG,qE4];exact Nat.min_le_left ..),RG,YN];simp[qO9 (qI5 h)]
def N4(n lo k:Nat):StateT jN Sem (ForInStep (Option Unit×Nat)):=get >>= λst=>match (vU st).back? with
 | some (a,n1,_)=>(forIn [:n] ((Z8,()):Option Unit×Unit) λ_ _=>get >>= λst=>match (if(vU st).size>1 then(vU st)[(vU st).size - 2]? else Z8)with
   |some (_,_,older)=>if older<=power' n (2*a+n1) (2*a+n1+n1+k) n then pure (ForInStep.done (Z8,()))else mergeAt' ((vU st).size - 2) >>= λb=>if(!b)=Z7 then pure (ForInStep.done (Z9 (),()))else pure (ForInStep.yield (Z8,()))
   | _=>pure (ForInStep.done (Z8,()))) >>= λc=>match c.1 with
   |some r=>pure (ForInStep.done (Z9 r,lo))
   |none=>(modify λs=>gV s ((vU s).modify ((vU s).size - 1) λx=>(x.1,x.2.1,power' n (2*a+n1) (2*a+n1+n1+k) n))) >>= λ_=>(modify λs=>gV s ((vU s).push (lo,k,0))) >>= λ_=>pure (ForInStep.yield (Z8,lo+k))
 |_=>(modify λs=>gV s ((vU s).push (lo,k,0))) >>= λ_=>pure (ForInStep.yield (Z8,lo+k))
theorem FP{Q:a->jN->Prop}{st:jN}(e:m=m')(h:wpS (yW prog w) A E s m' Q st):wpS (yW prog w) A E s m Q st:=e▸h
theorem FO{M V:yI}(J:Yo lt)(N:YP prog w A s κ lt G)(D:∀x∈Zs rs++(M++V),G x)(B:X9 lt rs)
  (h:∀a g',X9 lt a->(Zs a).Perm (Zs rs)->P (.yield (Z8,(Zs rs).length+M.length)) (SS κ (Zs a++(M++V)) (YN 0 a++[((Zs rs).length,M.length,0)]) g')):wpS (yW prog w) A E s (N4 n (Zs rs).length M.length) P (Xa κ rs (M++V) g):=by
 unfold N4;refine yU (gE ?_);by_cases m:rs=[]
 .subst m;exact yU (wW (jD (h [] g B (.refl _))))
 obtain⟨K,y,e⟩:=FS m;have C:(vU (Xa κ rs (M++V) g)).back?=Z9 ((Zs K).length,y.1.length,y.2):=by show(YN 0 rs).toArray.back?=_;rw[e,TC,YN,YN];simp
 rw[C];refine yU (vT (vB (I:=λ_ c f=>c=(Z8,())/\∃a g',f=Xa κ a (M++V) g'/\X9 lt a/\(Zs a).Perm (Zs rs)/\a≠[])
  (Q:=λc f=>c=(Z8,())/\∃a g',f=Xa κ a (M++V) g'/\X9 lt a/\(Zs a).Perm (Zs rs)/\a≠[]) ?_ (λc f h=>h) ⟨rfl,rs,g,rfl,B,.refl _,m⟩) ?_)
 .rintro i c f _ _ ⟨rfl,a,g',rfl,b,d,l⟩;refine yU (gE ?_);have O:(vU (Xa κ a (M++V) g')).size=a.length:=qB5.trans (RG ..);rw[O];by_cases z:a.length>1
  .rw[if_pos z];obtain⟨o,R⟩:=tJ (rs:=a) (i:=a.length - 2) (by lia);rw[show(vU (Xa κ a (M++V) g'))[a.length - 2]?=_ from R];dsimp only;split
   .exact jD ⟨rfl,a,g',rfl,b,d,l⟩
   .refine yU (FQ J N (λx H=>D x (((d.append (List.Perm.refl _)).mem_iff).mp H)) b (by lia) λv F p t u=>?_);exact jD ⟨rfl,v,F,rfl,p,t.trans d,λe=>by subst e;simp at u;lia⟩
  .rw[if_neg z];exact jD ⟨rfl,a,g',rfl,b,d,l⟩
 .rintro c f ⟨rfl,a,g',rfl,b,d,l⟩;obtain⟨j,⟨Y,q⟩,rfl⟩:=FS l;refine yU (wW (yU (wW (jD ?_))));generalize power' n _ _ n=pw;have L:(YN 0 (j++[(Y,q)])).toArray.modify ((YN 0 (j++[(Y,q)])).toArray.size - 1) (λx=>(x.1,x.2.1,pw))=(YN 0 (j++[(Y,pw)])).toArray:=by apply uF;rw[TC,TC,YN,YN,YN,YN];simp[FR]
  have S:gV (Xa κ (j++[(Y,q)]) (M++V) g') ((YN 0 (j++[(Y,q)])).toArray.modify ((YN 0 (j++[(Y,q)])).toArray.size - 1) (λx=>(x.1,x.2.1,pw)))=Xa κ (j++[(Y,pw)]) (M++V) g':=by rw[L];unfold Xa;rw[Um,Um];rfl
  have:=h (j++[(Y,pw)]) g' ⟨λr k=>?_,λr k=>?_⟩ (by rw[Um]at d ⊢;exact d)
  .show P _ ((λst=>gV st ((vU st).push ((Zs rs).length,M.length,0))) (gV (Xa κ (j++[(Y,q)]) (M++V) g') ((YN 0 (j++[(Y,q)])).toArray.modify ((YN 0 (j++[(Y,q)])).toArray.size - 1) (λx=>(x.1,x.2.1,pw)))));rw[S];show P _ (SortSt.mk' κ _ ((YN 0 (j++[(Y,pw)])).toArray.push _) _ _);rw[List.push_toArray];exact this
  .rcases qB6.mp k with k|k
   .exact b.s r (by simp[k])
   .rw[qB2.mp k];exact b.s (Y,q) (by simp)
  .rcases qB6.mp k with k|k
   .exact b.p r (by simp[k])
   .rw[qB2.mp k];exact b.p (Y,q) (by simp)
theorem FN(F:Yo lt)(H:YP prog w A s κ lt G)(gl:∀x∈l,G x)(h0:0<l.length)
  (h:∀C f,uY f=C.toArray->uR f=Z8->C.Perm l->Y3 lt C->Q () f):wpS (yW prog w) A E s sortRuns' Q (SS κ l [] 7):=by
 rw[sortRuns'_eq];refine yU (gE ?_);dsimp only;rw[show l.toArray.size=l.length from rfl];generalize minRun' l.length l.length 0=mr;have K:∀{C:yI},C.Perm l->∀x∈C,G x:=λhp x Y=>gl x (hp.mem_iff.mp Y);refine yU (vT (vB
  (I:=λx c f=>∃rs post g,c=(Z8,(Zs rs).length)/\f=Xa κ rs post g/\(Zs rs++post).Perm l/\X9 lt rs/\(x<=(Zs rs).length))
  (Q:=λc f=>∃rs g,c=(Z8,l.length)/\f=Xa κ rs [] g/\(Zs rs).Perm l/\X9 lt rs) ?_ ?_ ⟨[],l,7,rfl,rfl,.refl _,⟨λr m=>(by cases m),λr m=>(by cases m)⟩,qC6 _⟩) ?_)
 .rintro x c f _ Y ⟨rs,post,g,rfl,rfl,o,t,hp⟩;have T:=o.length_eq;rw[qB9]at T;by_cases D:(Zs rs).length≥l.length
  .rw[if_pos D];have e:post=[]:=qF5.mp (by lia);subst e;refine jD ⟨rs,g,by rw[show(Zs rs).length=l.length by lia],rfl,by simpa using o,t⟩
  rw[if_neg D];refine yU (tO F H (K o) rfl (by lia) (by lia) λN W y L P=>?_);dsimp only;have lN:=y.length_eq;rw[qB9]at lN;have u:∀{N W:yI}{d:Rn}{n:Nat},(N++W).Perm post->0<N.length->Y3 lt N->X9 lt d->(Zs d).Perm (Zs rs)->∃k p X,((Z8,(Zs rs).length+N.length):Option Unit×Nat)=(Z8,(Zs k).length)/\SS κ (Zs d++(N++W)) (YN 0 d++[((Zs rs).length,N.length,0)]) n=Xa κ k p X/\(Zs k++p).Perm l/\X9 lt k/\x+1<=(Zs k).length:=by
   intro N W d n y L P j i;have M:Zs (d++[(N,0)])=Zs d++N:=by rw[Um,Zs,Zs,qG8]
   refine⟨d++[(N,0)],W,n,?_,?_,?_,⟨λr m=>?_,λr m=>?_⟩,?_⟩
   .rw[M,qB9,i.length_eq]
   .unfold Xa;rw[M,TC,YN,YN,qC1,qN3,i.length_eq]
   .rw[M,qC1];exact(i.append y).trans o
   .rcases qB6.mp m with m|m
    .exact j.s r m
    .rw[qB2.mp m];exact P
   .rcases qB6.mp m with m|m
    .exact j.p r m
    .rw[qB2.mp m];exact L
   .rw[M,qB9,i.length_eq];lia
  by_cases J:N.length<mr
  .rw[if_pos J];refine yU (gU (vR ⟨rfl,?_⟩));have eW:Zs rs++(N++W)=Zs rs++(N++(W.take (min (l.length - (Zs rs).length) mr - N.length)++W.drop (min (l.length - (Zs rs).length) mr - N.length))):=by rw[qD2]
   have gW:=K (((List.Perm.refl _).append y).trans o);rw[eW]at gW ⊢;refine yU (tM F H gW rfl (by simp;lia) rfl L P λO z sN'=>?_);have V:min (l.length - (Zs rs).length) mr=O.length:=by rw[z.length_eq];simp;lia
   have v:(O++W.drop (min (l.length - (Zs rs).length) mr - N.length)).Perm post:=by refine List.Perm.trans (z.append (List.Perm.refl _)) ?_;rw[qC1,qD2];exact y
   have hN2:0<O.length:=by rw[z.length_eq];simp;lia
   rw[V]at v ⊢;exact FP (m':=N4 l.length (Zs rs).length O.length) (by kernel_rfl) (FO F H (K (((List.Perm.refl _).append v).trans o)) t λd n a b=>u v hN2 sN' a b)
  .rw[if_neg J];exact FP (m':=N4 l.length (Zs rs).length N.length) (by kernel_rfl) (FO F H (K (((List.Perm.refl _).append y).trans o)) t λd n a b=>u y L P a b)
 .rintro c f ⟨rs,post,g,rfl,rfl,o,t,hp⟩;have T:=o.length_eq;rw[qB9]at T;have e:post=[]:=qF5.mp (by lia);subst e;exact⟨rs,g,by rw[show(Zs rs).length=l.length by lia],rfl,by simpa using o,t⟩
 rintro c f ⟨rs,g,rfl,rfl,o,t⟩;have l1:=t.len;rw[o.length_eq]at l1;refine yU (vT (vB (I:=λx c f=>c=(Z8,())/\∃d n,f=Xa κ d [] n/\X9 lt d/\(Zs d).Perm l/\d.length+x<=l.length+1)
  (Q:=λc f=>c=(Z8,())/\∃d n,f=Xa κ d [] n/\X9 lt d/\(Zs d).Perm l/\d.length<=1) ?_ ?_ ⟨rfl,rs,g,rfl,t,o,by lia⟩) ?_)
 .rintro x c f _ Y ⟨rfl,d,n,rfl,j,i,B⟩;refine yU (gE ?_);have es:(YN 0 d).toArray.size=d.length:=qB5.trans (RG ..);rw[es];by_cases Z:d.length<=1
  .rw[if_pos Z];exact jD ⟨rfl,d,n,rfl,j,i,Z⟩
  .rw[if_neg Z];refine yU (FQ F H (K (by simpa using i)) j (tK (by lia)) λk X S U hl2=>?_);exact jD ⟨rfl,k,X,rfl,S,U.trans i,by lia⟩
 .rintro c f ⟨rfl,d,n,rfl,j,i,B⟩;exact⟨rfl,d,n,rfl,j,i,by lia⟩
 .rintro c f ⟨rfl,d,n,rfl,j,i,B⟩
  match d,B with
  |[],_ =>
   have:=i.length_eq;simp[Zs]at this
   lia
  |[(R,q)],_ =>
   have hf:Zs [(R,q)]=R:=by simp[Zs]
   refine jD (h R _ ?_ rfl (by rw[hf]at i;exact i) (j.s (R,q) (qK7 _)));show(Zs [(R,q)]++[]).toArray=_;rw[hf,qG8]
end
theorem Li:∀(x y:yA),HT.lexLt x y=Z7->HT.lexLt y x=Z5
 |[],[],h=>by cases h
 |[],_::_,_=>rfl
 |_::_,[],h=>by cases h
 |a::x,b::y,h=>by
  rw[HT.lexLt_cons]at h ⊢;by_cases e:a=b
  .subst e;rw[if_pos rfl]at h ⊢;exact Li x y h
  .rw[if_neg e]at h;rw[if_neg (λq=>e q.symm)];have:=of_decide_eq_true h;exact decide_eq_false (by lia)
theorem Lh:∀(x y z:yA),HT.lexLt y x=Z5->HT.lexLt z y=Z5->HT.lexLt z x=Z5
 |[],y,z,h,k=>by
  cases z with
  |nil=>rfl
  |cons c z=>rfl
 |a::x,[],z,h,k=>by cases h
 |a::x,b::y,[],h,k=>by cases k
 |a::x,b::y,c::z,h,k=>by
  rw[HT.lexLt_cons]at h k ⊢;by_cases e:b=a
  .subst e;rw[if_pos rfl]at h;by_cases d:c=b
   .subst d;rw[if_pos rfl]at k ⊢;exact Lh x y z h k
   .rw[if_neg d]at k ⊢;exact k
  .rw[if_neg e]at h;have f:=of_decide_eq_false h;by_cases d:c=b
   .subst d;rw[if_neg e];exact h
   .rw[if_neg d]at k;have g:=of_decide_eq_false k;rw[if_neg (by omega)];exact decide_eq_false (by omega)
theorem FM:∀(x y:yA),HT.lexLt y x=Z5->HT.lexLt x y=Z5->x=y
 |[],[],_,_=>rfl
 |[],_::_,_,k=>by cases k
 |_::_,[],h,_=>by cases h
 |a::x,b::y,h,k=>by
  rw[HT.lexLt_cons]at h k;by_cases e:a=b
  .subst e;rw[if_pos rfl]at h k;rw[FM x y h k]
  .rw[if_neg e]at k;rw[if_neg (λq=>e q.symm)]at h;have:=of_decide_eq_false h;have:=of_decide_eq_false k
   lia
def Ul(h:jL):yT->yA
 |.ref a=>match h.get? a with
  |some o=>match o.data with
   |.seq b _=>b.toList.map uS
   |_=>[]
  |none=>[]
 |_=>[]
def X8(h:jL)(v:yT)(c:yA):Prop:=∃a b,v=.ref a/\dQ h a b/\vO b.toList c
theorem X8.kd(x:X8 h v ns):Ul h v=ns:=by obtain⟨a,e,rfl,⟨o,b,g,n,c⟩,d⟩:=x;show(match h.get? a with|some o=>_|none=>_)=_;rw[b];show(match o.data with|.seq f _=>_|_=>_)=_;rw[c];exact d.nums
theorem X8.mono(x:X8 h v ns)(k:∀b o,o.cls=.type "tuple"->h.get? b=Z9 o->h'.get? b=Z9 o):X8 h' v ns:=by obtain⟨a,c,rfl,⟨o,e,d,n,f⟩,g⟩:=x;exact⟨a,c,rfl,⟨o,k a o d e,d,n,f⟩,g⟩
def Qm(h:jL)(x y:yX):Bool:=HT.lexLt (Ul h x.1) (Ul h y.1)
theorem tI(h:jL):Yo (Qm h):=⟨λx y=>Li _ _,λx y z=>Lh _ _ _⟩
section
variable {prog:yZ}{w:jJ}{A:jI}{E:yL}{s:yQ}
theorem tH{b:Bool}{d f:Nat}{Q:Bool->yQ->Prop}{l:yB}{k:yA}(o:vO l k):∀{j:yB}{g:yA} (i:Nat),vO j g->k.length+f=g.length+d ->
  Q (HT.lexLt k g) s->W.KatLex prog w A b (decide (d<f)) Q (l.zip j) i s:=by
 induction o with
 |nil =>
  intro j g i a c h;rw[qT5];refine W.kat_nil ?_;cases a with
  |nil=>rw[show decide (d<f)=Z5 from decide_eq_false (by simp at c;lia)];exact h
  |cons m u a=>rw[show decide (d<f)=Z7 from decide_eq_true (by simp at c;lia)];exact h
 |cons n t o p =>
  intro j g i a c h;cases a with
  |nil =>
   rw[qS7];refine W.kat_nil ?_;rw[show decide (d<f)=Z5 from decide_eq_false (by simp at c;lia)];exact h
  |cons m u a =>
   rw[qP9];refine W.kat_cons (wpAny_eqBool_int ?_);rw[HT.lexLt_cons]at h;by_cases e:n=m
   .subst e;rw[if_pos rfl]at h;rw[show(n == n)=Z7 by simp];exact W.kat_yes (p (i+1) a (by simp at c;lia) h)
   .rw[if_neg e]at h;rw[show(n == m)=Z5 by simpa using e];refine W.kat_no ?_;cases q:(b&&i == 0)with
    |true=>exact oneLt_int h
    |false=>exact W.kat_one _ _ (dP h)
theorem tG(hk:k=tuples' Z7∨k=general'∨k=oneType')(H:A.units<vN):YP prog w A s k (Qm s.heap) (λx=>∃p,X8 s.heap x.1 p):=by
 rintro⟨x,N⟩ ⟨y,M⟩ ⟨p,v⟩ ⟨K,G⟩ Q f;unfold Qm at f;rw[v.kd,G.kd]at f;obtain⟨a,q,B,⟨o,g,r,n,j⟩,i⟩:=v;obtain⟨b,t,C,⟨D,d,e,u,c⟩,h⟩:=G;dsimp only at B C f ⊢;subst B C;rcases hk with rfl|rfl|rfl
 .refine W.kat_lt g j d c (tH i 0 h ?_ f);rw[<- i.length,<- h.length];simp;lia
 .exact W.kat_one _ _ (HT.lt_tupInts ⟨o,g,r,n,j⟩ ⟨D,d,e,u,c⟩ i h H f)
 .rw[keyLt'_oneType,oneLt'_eq];simp only[if_true];refine yO (wpAny_cRoomFor H ?_);obtain⟨J,I,F,L⟩:=o;obtain⟨z,m,data2,l⟩:=D;simp only at r j e c;subst r j e c;refine yO (wpAny_callSpecialIfBound?_slot ⟨_,g,rfl⟩ fO (call_meets fO ⟨_,g,rfl⟩ lZ (lQ _ _) (HT.tuple_lt_ints a b q t n u I m L l p K i h) ⟨g,d,?_⟩));exact j7 f
theorem FL:∀(b:yB),(∀v∈b,∃g,X8 s.heap v g)->∃fs:List (yF),fs.length=b.length/\(∀f∈fs,∀v,f=Z9 v->∃n t,v=.int n t)/\∀{M:Model}{A:jI}{E:yL}{Q:List (yF)->yQ->Prop},Q fs s->jC M A (b.mapM firstOfTuple') Q E s
 |[],_=>⟨[],rfl,λf d=>(by cases d),λh=>by rw[List.mapM_nil];exact yP h⟩
 |v::b,hv=>by
  obtain⟨fs,k,l,q⟩:=FL b λu r=>hv u (qC5 _ r);obtain⟨g,a,c,rfl,⟨o,i,p,n,m⟩,j⟩:=hv v (qE2 ..);refine⟨c[0]?::fs,by simp[k],λf d v e=>?_,λ{M A E Q} h=>?_⟩
  .rcases qB0.mp d with rfl|d
   .have:v∈c.toList:=by rw[<- jA]at e;exact qC2 e
    exact j.all v this
   .exact l f d v e
  .rw[qG6];refine yO ?_;rw[W.kas_first_eq];refine yO (j9 (T := "tuple") ⟨o,i,p⟩ ?_);rw[if_neg (by first|decide|simp)];refine yO (gF i m (yP ?_));exact yO (q (yP h))
theorem tF{i:yB}(j:∀v∈i,∃u,X8 s.heap v u)(l:0<i.length)(h:∀m,(m=tuples' Z7∨m=general'∨m=oneType')->Q m s):
  jC (yW prog w) A (keyKind' i.toArray) Q E s:=by
 obtain⟨fs,B,F,J⟩:=FL (s:=s) i j;rw[PyProof.Rows.kat_kind_eq,qQ6,map_eq_pure_bind];refine yO (yO (J (yP ?_)));by_cases g:(fs.toArray.all λx=>x.isSome)=Z7
 .rw[if_pos g];refine yO (vR ?_);have H:∀v∈fs.filterMap id,∃n t,v=.int n t:=λv j=>by obtain⟨f,D,e⟩:=qM1.mp j;exact F f D v e
  have y:0<(fs.filterMap id).length:=by
   cases fs with
   |nil=>simp at B;lia
   |cons f fs =>
    cases f with
    |none=>simp at g
    |some v=>simp
  have p:fs.toArray.filterMap id=(fs.filterMap id).toArray:=by simp
  rw[p,oneTypeOnly'_eq,qQ6,map_eq_pure_bind];refine yO (yO (yO (W.kas_mapM (r:=Value.type "int") _ (λv j G k=>?_) (yP ?_))))
  .obtain⟨n,t,rfl⟩:=H v j;exact yP k
  .obtain⟨c,fr,e⟩:∃c fr,fs.filterMap id=c::fr:=by
    cases k:fs.filterMap id with
    |nil=>rw[k]at y;simp at y
    |cons a b=>exact⟨a,b,rfl⟩
   rw[e];have l:(qV7 (λ_=>Value.type "int") (c::fr)).toArray[0]?=Z9 (Value.type "int"):=by simp
   have d:((qV7 (λ_=>Value.type "int") (c::fr)).toArray.all λx=>x == Value.type "int")=Z7:=by simp only[qU5,qP3,qD6];intro _ _;rfl
   rw[l];simp only[d,if_true];exact yP (yP (h _ (.inl rfl)))
 .rw[if_neg g];split
  .exact yP (h _ (.inr (.inl rfl)))
  .rw[oneTypeOnly'_eq,qQ6,map_eq_pure_bind];refine yO (yO (yO (W.kas_mapM (r:=Value.type "tuple") _ (λv q G k=>?_) (yP ?_))))
   .obtain⟨u,a,C,rfl,⟨o,z,I,n,L⟩,K⟩:=j v q;exact j9 (T := "tuple") ⟨o,z,I⟩ k
   .obtain⟨c,fr,rfl⟩:∃c fr,i=c::fr:=by
     cases i with
     |nil=>simp at l
     |cons a b=>exact⟨a,b,rfl⟩
    have l:(qV7 (λ_=>Value.type "tuple") (c::fr)).toArray[0]?=Z9 (Value.type "tuple"):=by simp
    have d:((qV7 (λ_=>Value.type "tuple") (c::fr)).toArray.all λx=>x == Value.type "tuple")=Z7:=by simp only[qU5,qP3,qD6];intro _ _;rfl
    rw[l];simp only[d,if_true];exact yP (yP (h _ (.inr (.inr rfl))))
abbrev U7(_:Nat):Prop:=True
theorem FK{vs:yB}(k:s.heap.get? a=Z9 (j6 "list" vs.toArray n))(J:∀v∈vs,∃ns,X8 s.heap v ns)(K:vs.length<=jF)(O:U7 vs.length)(X:A.units<vN)
  (h:∀out:yB,out.Perm vs->out.Pairwise (λx y=>HT.lexLt (Ul s.heap y) (Ul s.heap x)=Z5)->P (.done (.ret .none)) { s with heap:=sortedHeap s.heap a vs out.toArray }) :
  jC (yW prog w) A (Builtin.«list.sort» ⟨[.ref a],[]⟩) P E s:=by
 rw[list_sort_plain];have L:a<s.heap.objs.size:=qB3 k;refine yO (gF k rfl ?_);refine yO (wP k rfl ?_ (by rw[qB5];exact K) (qC6 _));obtain⟨B,j⟩:∃B,(s.heap.update a (vI λ_=>#[])).get? a=Z9 (j6 "list" #[] B):=⟨_,mO k (λ_=>#[])⟩
 refine yO (fY j rfl ?_);refine yO (gL ?_ K);refine yO (wO ?_ (qC6 _));refine jP ?_;obtain⟨h6,p⟩:∃h6,((s.heap.update a (vI λ_=>#[])).push (j6 "tuple" vs.toArray 0)).push (j6 "list" #[] 0)=h6:=⟨_,rfl⟩
 have d:h6.get? a=Z9 (j6 "list" #[] B):=by rw[<- p,qL1 _ _ _ (by rw[gR,qO0];exact qB7 (qF1 L)),qL1 _ _ _ (by rw[qO0];exact qB7 L)];exact j
 have kp:∀b o,o.cls=.type "tuple"->s.heap.get? b=Z9 o->h6.get? b=Z9 o:=λb o V q=>by
  have O:b≠a:=λe=>by subst e;rw[k]at q;cases q;exact absurd (Value.type.inj V) (by decide)
  rw[<- p];exact qA1 _ (qA1 _ ((qF2 _ _ (Ne.symm O)).trans q))
 show jC (yW prog w) A _ P E { s with heap:=((s.heap.update a (vI λ_=>#[])).push (j6 "tuple" vs.toArray 0)).push (j6 "list" #[] 0) };rw[p];dsimp only;have m:∀v∈vs,∃ns,X8 h6 v ns:=λv G=>let ⟨ns,x⟩:=J v G;⟨ns,x.mono kp⟩
 have i:∀v∈vs,Ul h6 v=Ul s.heap v:=λv G=>by obtain⟨ns,x⟩:=J v G;rw[x.kd,(x.mono kp).kd]
 have fin:∀out:yB,out.Perm vs->out.Pairwise (λx y=>HT.lexLt (Ul s.heap y) (Ul s.heap x)=Z5)->P (.done (.ret .none)) { s with heap:=h6.update a (vI λ_=>out.toArray) }:=λout u C=>by rw[<- p];exact h out u C
 have F:vs.toArray.size=vs.length:=by simp
 by_cases h2:vs.toArray.size<2
 .rw[if_pos h2,if_pos h2];refine yO (yP ?_);rw[StateT.run_pure];refine yO (yP ?_);dsimp only;refine yO (fY d rfl ?_);have H:((vs.toArray.zip vs.toArray).map (·.2))=vs.toArray:=by apply uF;simp;exact qO1 (qA6 _)
  rw[H];refine yO (wP d rfl ?_ (hsz2:=by rw[qB5];lia));simp only[bne_self_eq_false,qM2,if_false];refine yP (fin vs (.refl _) ?_)
  match vs,F,h2 with
  |[],_,_=>exact .nil
  |[v],_,_=>exact qE5 ..
  |_::_::_,hs,h2=>exact absurd h2 (by simp)
 .rw[if_neg h2,if_neg h2];refine yO (tF (s:={ s with heap:=h6 }) m (by lia) fun Z r=>?_);have S:vs.toArray.zip vs.toArray=(vs.zip vs).toArray:=by simp
  rw[S];refine yO (jY (FN (l:=vs.zip vs) (s:={ s with heap:=h6 }) (Q:=λ_ c=>∃f,uY c=f.toArray/\uR c=Z8/\f.Perm (vs.zip vs)/\Y3 (Qm h6) f) (tI h6) (tG (s:={ s with heap:=h6 }) r X) (λx z=>m _ (fM z).2) (by simp;lia)
   λf c u C T R=>⟨f,u,C,T,R⟩) ?_ λ_ _ e=>e)
  rintro⟨⟨⟩,c⟩ Y ⟨rfl,f,t,U,D,hs⟩;dsimp only;refine yO (fY d rfl ?_);have H:(uY c).map (·.2)=(f.map (·.2)).toArray:=by rw[t];simp
  have I:(f.map (·.2)).Perm vs:=by have:=D.map (·.2);rwa[qO1 (qA6 _)]at this
  rw[H];refine yO (wP d rfl ?_ (hsz2:=by rw[qB5,I.length_eq];lia));rw[U];simp only[bne_self_eq_false,qM2,if_false];refine yP (fin _ I ?_);rw[qH7];refine hs.imp_of_mem λ{x y} z W g=>?_;have M:=fM (D.mem_iff.mp z);have N:=fM (D.mem_iff.mp W);unfold Qm at g;rw[i _ M.2,i _ N.2]at g;rw[<- M.1,<- N.1];exact g
end
section
variable {prog:yZ}{w:jJ}{A:jI}{E:yL}{s:yQ}{r:yR}
theorem Lg{Q:yB->yQ->Prop}(c:s.heap.get? l=Z9 o)(g:o.cls=.type T)(d:o.data=.seq a.toArray n)(f:T = "list"∨T = "tuple")
  (h:Q a { s with heap:=(s.heap.push (j6 "list" #[] 0)).update s.heap.objs.size (vI (·++a.toArray)) }) (e:a.length<=jF) :
  jC (yW prog w) A (uQ (.ref l)) Q E s:=by
 refine yO (dH (vH dI ?_));refine yO (wO (yP ⟨Code.quiet_builtin _ (by decide),vH entry_list_iadd' ?_⟩) (qC6 _));show jC _ _ (Builtin.List.listExtendWith (.ref s.heap.objs.size) (.ref l) (.ref s.heap.objs.size)) _ _ { s with heap:=s.heap.push (j6 "list" #[] 0) };have b:(s.heap.push (j6 "list" #[] 0)).get? l=Z9 o:=qA1 _ c;refine yO (j9 ⟨o,b,g⟩ ?_);have ht:(Builtin.List.listSameRef (.ref s.heap.objs.size) (.ref l)||Value.type T == Value.type "list"||Value.type T == Value.type "tuple")=Z7:=by
  rcases f with rfl|rfl
  .simp_all
  .simp_all
 rw[if_pos ht];refine yO (gF b d ?_);refine yO (gF (qA9 _ rfl) rfl ?_);refine yO (wP (qA9 _ rfl) rfl ?_ (qC6 _) (by simp only[lC,qB5,qL8];lia));refine yP ?_;refine yO (lX (mO (qA9 _ rfl) _) ?_);show jC _ _ (pure ((#[])++a.toArray).toList) Q E _;rw[show((#[]:yJ)++a.toArray).toList=a by simp];exact yP h
theorem Lf(h:jL)(a:yB):∀b o,h.get? b=Z9 o->((h.push (j6 "list" #[] 0)).update h.objs.size (vI (·++a.toArray))).get? b=Z9 o:=λb o g=>by rw[Heap.get?_update_ne _ _ _ _ (qB7 (qB3 g))];exact qA1 _ g
theorem FJ{i o:Type}(f:i->o){m n:List o}(h:m.Perm n):∀l:List i,n=l.map f->∃g:List i,g.Perm l/\m=g.map f:=by
 induction h with
 |nil=>intro l e;exact⟨[],by cases l with|nil=>exact .refl _|cons _ _=>simp at e,rfl⟩
 |cons x p t =>
  intro l e;cases l with
  |nil=>simp at e
  |cons a l =>
   rw[qB8]at e;injection e with d c;obtain⟨g,C,q⟩:=t l c;exact⟨a::g,C.cons a,by rw[qB8,d,q]⟩
 |swap x y l =>
  intro l e
  match l,e with
  |[],e=>simp at e
  |[_],e=>simp at e
  |a::b::l,e =>
   simp only[qB8]at e;injection e with d c;injection c with c e3;exact⟨b::a::l,.swap a b l,by simp[d,c,e3]⟩
 |trans p q j k =>
  intro l e;obtain⟨B,v,d⟩:=k l e;obtain⟨u,z,c⟩:=j B d;exact⟨u,z.trans v,c⟩
abbrev VH(a:List (yR×yA)):Prop:=a.Pairwise λx y=>HT.lexLt y.2 x.2=Z5
theorem FI{Q:yL}(p:c.length<=jF)(I:U7 c.length)(H:∀t∈c,X8 s.heap (.ref t.1) t.2)(J:A.units+2<vN)
  (F:∀(A:jI) (E:yL) (R:yB->yQ->Prop),A.handled=Z8->(∀(h':jL) (tk:Nat) (dr:mX),(∀b o,s.heap.get? b=Z9 o->h'.get? b=Z9 o)->R (c.map λt=>.ref t.1) { s with heap:=h',toks:=tk,drawn:=dr })->jC (yW prog w) A (uQ (.ref r)) R E s)
  (B:A.handled=Z8)
  (h:∀(i:jL) (l:yR) (h':jL) (tk:Nat) (dr:mX) (e:Nat) (a:List (yR×yA)),(∀b o,s.heap.get? b=Z9 o->i.get? b=Z9 o)->(∀b o,i.get? b=Z9 o->h'.get? b=Z9 o)->i.objs.size<=l->h'.get? l=Z9 (j6 "list" (a.map λt=>Value.ref t.1).toArray e)->a.Perm c->VH a->Q (.ref l) { s with heap:=h',toks:=tk,drawn:=dr }) :
  jC (yW prog w) A (call (.builtin "sorted") [.ref r]) Q E s:=by
 refine wF dG mG mH (mI _) ?_;unfold Builtin.«sorted»;refine yO (m:=checkCount "sorted" 1 1 _) (yP ?_);refine yO (F _ _ _ B λh' tk dr hk=>?_);have d:(c.map λt=>Value.ref t.1).length=c.length:=by simp
 refine yO (wO ?_ (by rw[d];exact p));have f:(h'.push (j6 "list" (c.map λt=>Value.ref t.1).toArray 0)).get? h'.objs.size=Z9 (j6 "list" (c.map λt=>Value.ref t.1).toArray 0):=qA9 _ rfl;show jC _ _ _ _ _ { s with heap:=h'.push (j6 "list" (c.map λt=>Value.ref t.1).toArray 0),toks:=tk,drawn:=dr };have j:∀t∈c,X8 (h'.push (j6 "list" (c.map λt=>Value.ref t.1).toArray 0)) (.ref t.1) t.2:=λt ht=>(H t ht).mono λb o _ g=>qA1 _ (hk b o g);refine yO (jP (jK gO ⟨_,f,rfl⟩ gA (FK f (λv D=>?_) (by rw[d];exact p) (by rw[d];exact I) (by show A.units+1+1<vN;omega) λout u q=>⟨_,rfl,?_⟩) (gP _)))
 .obtain⟨t,ht,rfl⟩:=qC4.mp D;exact⟨t.2,j t ht⟩
 obtain⟨a,k,rfl⟩:=FJ _ u c rfl;obtain⟨e,C⟩:=lM (out:=(a.map λt=>Value.ref t.1).toArray) f;refine yP ⟨_,rfl,h h' h'.objs.size _ tk dr e a hk (λb o g=>?_) (qA6 _) C k ?_⟩
 .have lt:b<h'.objs.size:=qB3 g;rw[gQ (qB7 lt) (by rw[gR];exact qF1 lt)];exact qA1 _ g
 .rw[qH7]at q;refine q.imp_of_mem λ{x y} z G n=>?_;rwa[(j x (k.mem_iff.mp z)).kd,(j y (k.mem_iff.mp G)).kd]at n
end
section
variable {X:Cx}
theorem FH{Z:St}(I:ZP X b Z H s)(h:Zn X.K H a (ns.map V.int)):X8 s.heap (.ref a) ns:=by obtain⟨c,r,p,_⟩:=I.tuple h;exact⟨a,c.toArray,rfl,p,by simpa using SN r⟩
theorem Le:∀{a:List (yR×yA)}{us:yB},ZM (a.map λt=>V.ref t.1) us->us=a.map λt=>Value.ref t.1
 |[],us,r=>by rw[qN4]at r;cases r;rfl
 |t::a,us,r=>by
  rw[qB8]at r;cases r with
  |cons h r =>
   rw[Le r];cases h;rfl
theorem N3:∀(a:List (yR×yA)),ZM (a.map λt=>V.ref t.1) (a.map λt=>Value.ref t.1)
 |[]=>.nil
 |t::a=>.cons rfl (N3 a)
theorem tE(P:X.calm=Z7):YG X (.builtin "sorted") (λD H Q=>∃(p:yR) (f:yA),D=[.ref p]/\Zn X.K H p (f.map V.int)/\f.length<64/\∀(l:yR) (d:yA),H l=Z8->d.Perm f->d.Pairwise (·<=·)->Q (.ref l) (ZD H l (.lst (d.map V.int)))):=by
 intro i s Z H S v Q I r h;obtain⟨p,f,rfl,O,w,q⟩:=h;obtain⟨u,rfl,K⟩:=XA r;cases K;obtain⟨k,x,⟨o,G,j,n,N⟩,W⟩:=I.tuple O;have a:=x.length;rw[qA0]at a;refine Ge w (λA E R T J=>Lg G j N (.inr rfl) (J _ s.toks s.drawn k f (Lf _ _) (SN x) (.refl _)) (by rw[<- a,vK];lia)) (I.ok.hd P) λL C U c dr e v d k2 M t z F g B=>?_;have y:ZP X i Z H { s with heap:=L,toks:=c,drawn:=dr }:=(I.kept (t':=c) λb o e=>k2 b o e).dr dr;refine⟨.ref C,_,y.laid (t':=c) (o:=.lst (d.map V.int)) M t ?_,rfl,q _ _ (y.hok.fresh t) g B⟩;have m:d.length<64:=by rw[g.length_eq];exact w
 exact⟨by rw[qA0];exact qD0 (qI5 m) (by decide),v,e,RJ F,by simpa[j6]using z⟩
theorem tB(N:X.calm=Z7)(P:X.A.units+2<vN):YG X (.builtin "sorted") (λz H Q=>∃(p:yR) (d:List (yR×yA)),z=[.ref p]/\YQ X.K H p (d.map λt=>V.ref t.1)/\(∀t∈d,Zn X.K H t.1 (t.2.map V.int))/\U7 d.length /\
  ∀(l:yR) (a:List (yR×yA)),H l=Z8->a.Perm d->VH a->Q (.ref l) (ZD H l (.lst (a.map λt=>V.ref t.1)))):=by intro f s Z H U T Q I r h;obtain⟨p,d,rfl,M,ht,S,q⟩:=h;obtain⟨u,rfl,F⟩:=XA r;cases F;obtain⟨D,K,⟨o,n,B,i,v,L⟩,g⟩:=I.list M;have O:=Le K;subst O;rw[qA0]at g;refine FI g S (λt h=>FH I (ht t h)) P (λA E R W C=>Lg B i L (.inl rfl) (C _ s.toks s.drawn (Lf _ _)) (by rw[qA0];exact g)) (I.ok.hd N) λG x Y c dr e a k2 J j w k y=>?_;have m:ZP X f Z H { s with heap:=G,toks:=c,drawn:=dr }:=(I.kept (t':=c) λb o e=>k2 b o e).dr dr;refine⟨.ref x,_,m.laid (t':=c) (o:=.lst (a.map λt=>V.ref t.1)) J j ?_,rfl,q _ _ (m.hok.fresh j) k y⟩;exact⟨by rw[qA0,k.length_eq];exact g,_,e,N3 a,by simpa[j6]using w⟩
theorem tx{prog:yZ}{w:jJ}{d:yR}{es:Array wN}{ep:Nat}(lo:(d == vV)=Z5):W.KdlSrc prog w "dict" d d es.size (λi v=>∃e,es[i]?=Z9 e/\v=e.key) (λh=>Va h d es ep) where
 type:=λ_ ⟨o,j,p,_⟩=>⟨o,j,p⟩
 there:=λ_ a=>⟨a.lt,a.lt⟩
 keep:=λ_ _ a hk=>a.at λo e=>hk d (.inl rfl) o e
 notList:=by decide
 notTuple:=by decide
 hint:=λ_ _ _ _ ⟨o,j,p,_⟩ n=>W.kdl_hint_dict ⟨o,j,p⟩ n
 iter:=λA s t a=>⟨_,λi h=>h.IsKeyIter s.heap.objs.size d i es.size ep/\Va h d es ep,(λ_ _ n=>Gp lo a n),{
  sub:=λb c=>by simp at c;simp[c]
  frame:=λ_ _ _ st hk=>⟨st.1.at λo e=>hk _ (by simp) o e,st.2.at λo e=>hk d (by simp) o e⟩
  item:=λi g Q E r st f=>by refine Gq st.1 st.2 (show es[i]?=Z9 es[i] by simp[r]) λm k q=>?_;exact f _ m g.toks ⟨_,by simp[r],rfl⟩ ⟨k,st.2.at λo e=>q.extBut d o (qB7 a.lt) e⟩ λb o c e=>q.extBut b o (λh=>c (by simp[h])) e
  done:=λg Q E st f=>QD t st.1 st.2 (by simp) λm l=>f m g.toks λb o c e=>l b o (λh=>c (by simp[h])) e
  self:=λ_ _ _ _ st f=>dJ st.1 f },⟨⟨_,qA9 _ rfl,rfl,rfl⟩,a.at λo e=>qA1 _ e⟩⟩
theorem tu{H:Hp}:∀{nss:List (yA)}{kvs:List (List ZI×V)}{xs:List (List ZI×yR×yT)},KT H kvs xs->kvs.map (·.1)=nss.map (·.map Sum.inl)->∃d:List (yR×yA),d.map (·.2)=nss/\xs.map (λx=>x.2.1)=d.map (·.1)/\∀t∈d,H t.1=Z9 (.tup (t.2.map V.int)):=by
 intro nss kvs xs r
 induction r generalizing nss with
 |nil =>
  intro e;cases nss with
  |nil=>exact⟨[],rfl,rfl,λt h=>(by cases h)⟩
  |cons _ _=>simp at e
 |@cons p q j k i t f =>
  intro e;cases nss with
  |nil=>simp at e
  |cons g nss =>
   simp only[qB8]at e;injection e with e1 e2;obtain⟨d,a,b,c⟩:=f e2;refine⟨(q.2.1,g)::d,by simp[a],by simp[b],λt ht=>?_⟩;rcases qB0.mp ht with rfl|ht
   .have:=i.2.1;rw[e1,qC8]at this;exact this
   .exact c t ht
theorem ts(hc:X.calm=Z7)(hu:X.A.units+2<vN):YG X (.builtin "sorted") (λvs H Q=>∃(p:yR) (kvs:List (List ZI×V)) (nss:List (yA)),vs=[.ref p]/\H p=Z9 (.dT kvs)/\kvs.map (·.1)=nss.map (·.map Sum.inl) /\
  ∀(l:yR) (a:List (yR×yA)),H l=Z8->(∀t∈a,H t.1=Z9 (.tup (t.2.map V.int)))->(a.map (·.2)).Perm nss->VH a->Q (.ref l) (ZD H l (.lst (a.map λt=>V.ref t.1)))):=by
 intro i s Z H xs us Q I r h;obtain⟨p,kvs,nss,rfl,hp,hk,q⟩:=h;obtain⟨u,rfl,ru⟩:=XA r;cases ru;obtain⟨hz,lo,xs,kt,o,es,ep,ho,N,hd,G,hn⟩:=(show W4 X.prog X.w H s.heap p (.dT kvs)from I.hok p _ hp)
 obtain⟨a,F,C,z⟩:=tu kt hk;have L:es.size=a.length:=by
  have n:=congrArg qH4 G;have w:=congrArg qH4 C;simp at n w
  lia
 have g:a.length<=sizeLine:=by
  have n:=congrArg qH4 F;have w:=congrArg qH4 hk;simp at n w
  lia
 have y:Va s.heap p es ep:=⟨o,ho,N.1,hd⟩
 refine FI g trivial (λt h=>FH I (Zn.of (z t h))) hu (λA E R hA hR=>dZ (tx (es:=es) (ep:=ep) lo) hA y (by lia) λh' tk acc m c=>?_) (I.ok.hd hc) λP M h3 f dr e k k2 S D W d Y=>?_
 .have ea:acc.toList=a.map λt=>Value.ref t.1:=by
   apply qN5;intro j;have hsz:acc.toList.length=a.length:=by rw[yV,c.1,L]
   by_cases hj:j<a.length
   .obtain⟨v,K⟩:∃v,acc.toList[j]?=Z9 v:=⟨_,qA3 (by lia)⟩
    obtain⟨en,e3,T⟩:=c.2 j v (by rw[<- jA];exact K);rw[K,T,<- jA,G,qB1]at *;obtain⟨x,e5,e6⟩:=qA7.mp e3;have J:=congrArg (·[j]?) C;simp only[qB1,e5,qO7]at J;obtain⟨t,U,O⟩:=qA7.mp J.symm;rw[U,<- e6];simp[entryOfKey,O]
   .rw[qG3 (by lia),qG3 (by simp;lia)]
  rw[ea];exact hR h' tk s.drawn m
 .have B:ZP X i Z H { s with heap:=P,toks:=f,drawn:=dr }:=(I.kept (t':=f) λb o e=>k2 b o e).dr dr;refine⟨.ref M,_,B.laid (t':=f) (o:=.lst (k.map λt=>V.ref t.1)) S D ?_,rfl,q _ _ (B.hok.fresh D) (λt h=>z t (d.mem_iff.mp h)) (by rw[<- F];exact d.map _) Y⟩;exact⟨by rw[qA0,d.length_eq];exact g,_,e,N3 k,by simpa[j6]using W⟩
end
section
variable {X:Cx}
theorem tq:YG X (.builtin "repr") (λxs H Q=>xs=[.non]/\Q (.str "None") H):=by intro a s Z H xs f Q I d h;obtain⟨rfl,q⟩:=h;obtain⟨u,rfl,c⟩:=d.one;obtain rfl:u=Value.none:=c;exact PySem.P.repr_of_none ⟨.str "None",H,I.kept (t':=s.toks+1) λb o e=>e,⟨_,rfl⟩,q⟩
end
def VQ(m:Nat)(p:SetTable.Probe):SetTable.Probe:=(⟨m,#[],#[],0,Z5,0,Z5⟩:vA).advance p
theorem FG(t:vA)(p:SetTable.Probe):t.advance p=VQ t.mask p:=rfl
def Ym(m:Nat)(h:Int):Nat->Nat×Nat
 |0=>(SetTable.bits h % (m+1),SetTable.bits h)
 |k+1=>SetTable.leap m (Ym m h k).1 (Ym m h k).2
def TB(m:Nat)(x:Nat×Nat):SetTable.Probe:=⟨x.1,SetTable.runEnd m x.1 - x.1,x.1,x.2,Z8⟩
def pr(m:Nat)(h:Int):Nat->SetTable.Probe
 |0=>TB m (Ym m h 0)
 |n+1=>VQ m (pr m h n)
theorem FF(m:Nat)(h:0<p.more):VQ m p={ p with j:=p.j+1,more:=p.more - 1 }:=by unfold VQ SetTable.advance;rw[if_pos h]
theorem Lc(m:Nat)(h:p.more=0)(a:p.dummy=Z8):VQ m p=TB m (SetTable.leap m p.i p.perturb):=by unfold VQ SetTable.advance TB;rw[if_neg (by lia),a]
theorem Lb(m:Nat)(h:Int)(e:pr m h n=TB m x):∀r,r<=SetTable.runEnd m x.1 - x.1->pr m h (n+r)=⟨x.1+r,SetTable.runEnd m x.1 - x.1 - r,x.1,x.2,Z8⟩
 |0,_=>e
 |r+1,hr=>by
  show VQ m (pr m h (n+r))=_;rw[Lb m h e r (by lia),FF m (by show 0<_ - r;lia)];have a:x.1+r+1=x.1+(r+1):=by lia
  have b:SetTable.runEnd m x.1 - x.1 - r - 1=SetTable.runEnd m x.1 - x.1 - (r+1):=by lia
  rw[a,b]
theorem tp(m i:Nat):SetTable.runEnd m i - i<=9:=by unfold SetTable.runEnd;split<;>lia
theorem FE(m:Nat)(h:Int):∀k,∃n,n<=10*k/\pr m h n=TB m (Ym m h k)
 |0=>⟨0,qA6 _,rfl⟩
 |k+1=>by obtain⟨n,a,e⟩:=FE m h k;have l:=tp m (Ym m h k).1;refine⟨n+(SetTable.runEnd m (Ym m h k).1 - (Ym m h k).1)+1,by lia,?_⟩;show VQ m (pr m h (n+_))=_;rw[Lb m h e _ (qA6 _),Lc m (qJ4 _) rfl];rfl
theorem tm(h:Int):SetTable.bits h<18446744073709551616:=by
 unfold SetTable.bits
 lia
theorem FD(m:Nat)(h:Int):∀k,(Ym m h k).2=SetTable.bits h / 32 ^ k
 |0=>by simp[Ym]
 |k+1=>by show(Ym m h k).2 / 32=_;rw[FD m h k,Nat.div_div_eq_div_mul,qR2]
theorem tj(m:Nat)(h:Int)(hk:13<=k):(Ym m h k).2=0:=by rw[FD];refine Nat.div_eq_of_lt (qC0 (tm h) ?_);exact qD0 (by decide) (qI8 (by decide) hk)
def gI(m:Nat):Nat->Nat->Nat
 |0,i=>i
 |r+1,i=>(gI m r i*5+1) % (m+1)
theorem FC(m:Nat)(h:Int):∀r,(Ym m h (13+r)).1=gI m r (Ym m h 13).1
 |0=>rfl
 |r+1=>by show((Ym m h (13+r)).1*5+1+(Ym m h (13+r)).2 / 32) % (m+1)=_;rw[tj m h (by lia),FC m h r];rfl
theorem N2(m r i:Nat):∀q,gI m (q+r) i=gI m q (gI m r i)
 |0=>by rw[qN3];rfl
 |q+1=>by rw[Nat.succ_add];show(gI m (q+r) i*5+1) % (m+1)=(gI m q (gI m r i)*5+1) % (m+1);rw[N2 m r i q]
def La(m:Nat):Nat->Nat->List Nat
 |0,_=>[]
 |n+1,i=>i::La m n ((i*5+1) % (m+1))
theorem FB(m c:Nat):∀(n r:Nat) {s:Nat},s∈La m n (gI m r c)->∃q,q<n/\gI m (q+r) c=s
 |0,r,s,h=>by cases h
 |n+1,r,s,h=>by
  rcases qB0.mp h with rfl|h
  .exact⟨0,by lia,by rw[qN3]⟩
  .obtain⟨q,a,b⟩:=FB m c n (r+1) h;exact⟨q+1,by lia,by rw[<- b];congr 1;lia⟩
def Uk(m:Nat):Prop:=gI m (m+1) 0=0/\(List.range (m+1)).all (λs=>(La m (m+1) 0).contains s)=Z7
theorem K9:Uk 7:=by unfold Uk;decide
theorem ti:Uk 31:=by unfold Uk;decide
theorem sZ:Uk 127:=by unfold Uk;decide
theorem sY:Uk 511:=by unfold Uk;decide
theorem sX(h:Uk m)(hi:i<m+1)(hs:s<m+1):∃r,r<m+1/\gI m r i=s:=by
 have get:∀s,s<m+1->∃q,q<m+1/\gI m q 0=s:=λs hs=>by have:=qD6.mp h.2 s (qC7.mpr hs);obtain⟨q,a,b⟩:=FB m 0 (m+1) 0 (List.contains_iff_mem.mp this);exact⟨q,a,b⟩
 obtain⟨a,e,d⟩:=get i hi;obtain⟨b,b1,c⟩:=get s hs;by_cases g:a<=b
 .refine⟨b - a,by omega,?_⟩;rw[<- d,<- N2,show b - a+a=b by omega,c]
 .refine⟨b+(m+1) - a,by omega,?_⟩;rw[<- d,<- N2,show b+(m+1) - a+a=b+(m+1) by omega,N2,h.1,c]
theorem K8(m:Nat)(h:Int):∀k,(Ym m h k).1<m+1
 |0=>qR1 _ (by lia)
 |k+1=>qR1 _ (by lia)
def WA(m:Nat):Prop:=m=7∨m=31∨m=127∨m=511
theorem FA(hm:WA m)(h:Int)(hs:s<=m):∃k,k<=13+m/\(Ym m h k).1=s:=by
 have a:∃r,r<m+1/\gI m r (Ym m h 13).1=s:=by
  have:=K8 m h 13;refine sX ?_ this (by lia);rcases hm with rfl|rfl|rfl|rfl
  .exact K9
  .exact ti
  .exact sZ
  .exact sY
 obtain⟨r,b,e⟩:=a;exact⟨13+r,by lia,by rw[FC];exact e⟩
theorem sW(hm:WA m)(h:Int)(hs:s<=m):∃n,n<10*(m+15)/\(pr m h n).j=s:=by obtain⟨k,hk,e⟩:=FA hm h hs;obtain⟨n,b,a⟩:=FE m h k;exact⟨n,by lia,by rw[a];exact e⟩
theorem sV(m:Nat)(p:SetTable.Probe):(VQ m p).dummy=p.dummy:=by unfold VQ SetTable.advance;split<;>rfl
theorem K7(m:Nat)(h:Int):∀n,(pr m h n).dummy=Z8
 |0=>rfl
 |n+1=>by show(VQ m (pr m h n)).dummy=Z8;rw[sV,K7 m h n]
theorem least{P:Nat->Prop}(n:Nat)(h:P n):∃k,k<=n/\P k/\∀i,i<k->¬P i:=by
 induction n using Nat.strongRecOn with
 |ind n f =>
  by_cases q:∃i,i<n/\P i
  .obtain⟨i,d,e⟩:=q;obtain⟨k,a,b,c⟩:=f i d e;exact⟨k,by lia,b,c⟩
  .exact⟨n,qA6 _,h,λi d e=>q ⟨i,d,e⟩⟩
section
variable {t:vA}
theorem sU(up:Rs t.place)(h:t.place[i]?=Z9 j):t.slot j=.live i:=by
 have b:=QC up j;obtain⟨b1,c,a⟩:=b;have e:SetTable.below t.place j=i:=by
  rcases qM7 (SetTable.below t.place j) i with l|l|l
  .have d:i<t.place.size:=by
    rcases qK9 i t.place.size with g|g
    .exact g
    .simp_all
   have g:t.place[SetTable.below t.place j]?=Z9 t.place[SetTable.below t.place j]:=jE (by omega);have:=a _ _ g (qA6 _);have:=up.get g h l;omega
  .exact l
  .have:=c _ _ h l;omega
 unfold SetTable.slot;simp only[e,h,beq_self_eq_true,if_true]
theorem sT(c:t.dummies=#[])(h:∀i:Nat,t.place[i]?≠Z9 j):t.slot j=.empty:=by
 unfold SetTable.slot SetTable.has;rw[c];have b:(t.place[SetTable.below t.place j]? == Z9 j)=Z5:=by
  cases q:t.place[SetTable.below t.place j]? with
  |none=>rfl
  |some a =>
   have:a≠j:=λe=>h _ (by rw[q,e]);simpa using this
 simp[b]
theorem N1{a:Array Nat}:j∈a.toList↔∃i:Nat,a[i]?=Z9 j:=by
 constructor
 .intro h;obtain⟨i,b⟩:=qE1 h;exact⟨i,by rw[<- jA];exact b⟩
 .rintro⟨i,b⟩;rw[<- jA]at b;exact qC2 b
theorem K6:∀{l m:List Nat},l.Nodup->(∀x∈l,x∈m)->l.length<=m.length
 |[],m,_,_=>by simp
 |a::l,m,nd,h=>by have nd':=qJ2.mp nd;have c:=h a (by simp);have d:=K6 nd'.2 (λx b=>(qS0 (λe:x=a=>nd'.1 (e▸b))).mpr (h x (by simp[b])));rw[qL6 c]at d;have:=qR3 c;simp;lia
theorem sS{l:List Nat}(h:l.length<=m):∃s,s<=m/\s∉l:=by
 refine Classical.byContradiction λb=>?_;have:=K6 (l:=List.range (m+1)) qO2 λx a=>Classical.byContradiction λq=>b ⟨x,by have:=qC7.mp a;lia,q⟩;rw[qD4]at this
 lia
theorem sR(hm:WA m)(h:Int){l:List Nat}(f:l.length<=m):∃n,n<10*(m+15)/\(pr m h n).j∉l/\∀k,k<n->(pr m h k).j∈l:=by obtain⟨s,d,j⟩:=sS f;obtain⟨n,o,e⟩:=sW hm h d;obtain⟨k,a,b,c⟩:=least (P:=λn=>(pr m h n).j∉l) n (by rw[e];exact j);exact⟨k,by lia,b,λi g=>Classical.byContradiction λq=>c i g q⟩
inductive N0(t:vA)(f:Nat->Int)(h:Int)(n0 n:Nat):Option SetTable.Met->Prop
 |cand (n1 i:Nat) (h1:n<=n1) (h2:n1<n0) (hs:t.slot (pr t.mask h n1).j=.live i) (hf:f i=h) (hb:∀k,n<=k->k<n1->∃i,t.slot (pr t.mask h k).j=.live i/\f i≠h):N0 t f h n0 n (Z9 (.candidate (pr t.mask h n1).j i (pr t.mask h (n1+1))))
 |free (hb:∀k,n<=k->k<n0->∃i,t.slot (pr t.mask h k).j=.live i/\f i≠h):N0 t f h n0 n (Z9 (.empty (pr t.mask h n0).j Z8))
theorem Fz{f:Nat->Int}{h:Int}{a:Nat}(he:t.slot (pr t.mask h a).j=.empty)(p:∀k,k<a->∃i,t.slot (pr t.mask h k).j=.live i):∀(F n:Nat),n<=a->a - n<F->N0 t f h a n (SetTable.probe.go t f h F (pr t.mask h n))
 |0,n,_,hF=>absurd hF (qG9 _)
 |F+1,n,hn,hF=>by
  unfold SetTable.probe.go;by_cases e:n=a
  .subst e;rw[he];rw[K7];exact .free λk o b=>by lia
  .obtain⟨i,m⟩:=p n (by lia);rw[m];dsimp only;by_cases d:f i=h
   .rw[if_pos (by simpa using d),FG];exact .cand n i (qA6 _) (by lia) m d λk o b=>by lia
   .rw[if_neg (by simpa using d),FG];have g:=Fz (f:=f) he p F (n+1) (by lia) (by lia);show N0 t f h a n (SetTable.probe.go t f h F (pr t.mask h (n+1)));have ext:∀j,(∀k,n+1<=k->k<j->∃i,t.slot (pr t.mask h k).j=.live i/\f i≠h)->∀k,n<=k->k<j->∃i,t.slot (pr t.mask h k).j=.live i/\f i≠h:=λj c k o b=>by
     by_cases q:k=n
     .subst q;exact⟨i,m,d⟩
     .exact c k (by lia) b
    revert g;generalize SetTable.probe.go t f h F (pr t.mask h (n+1))=r;intro g;cases g with
    |cand s v o b u l c=>exact .cand s v (by lia) b u l (ext s c)
    |free c=>exact .free (ext a c)
end
structure VG(t:vA)(es:Array (Int×yT)):Prop where
 m:WA t.mask
 up:Rs t.place
 nd:t.dummies=#[]
 sz:t.place.size=es.size
 bd:∀j∈t.place.toList,j<=t.mask
 few:es.size*5<t.mask*3
 rc:∀(i j:Nat) e,t.place[i]?=Z9 j->es[i]?=Z9 e->∃n,(pr t.mask e.1 n).j=j/\∀k,k<n->(pr t.mask e.1 k).j∈t.place.toList
theorem VG.fresh(bt:Bool):VG (.fresh 0 0 bt) #[]:=⟨.inl rfl,by simp[SetTable.fresh,Rs],rfl,rfl,λj h=>(by simp[SetTable.fresh]at h),by show 0*5<7*3;decide,λi j e h=>by simp[SetTable.fresh]at h⟩
theorem VG.fits(h:VG t es):t.fits es.size=Z7:=by
 unfold SetTable.fits SetTable.fill;rw[h.nd,h.sz];have:=h.few;simp
 lia
theorem VG.way(T:VG t es)(h:Int):∃n,n<10*(t.mask+15)/\t.slot (pr t.mask h n).j=.empty/\(∀i:Nat,t.place[i]?≠Z9 (pr t.mask h n).j)/\∀k,k<n->∃i:Nat,t.place[i]?=Z9 (pr t.mask h k).j/\t.slot (pr t.mask h k).j=.live i:=by
 have f:t.place.toList.length<=t.mask:=by rw[yV,T.sz];have:=T.few;lia
 obtain⟨n,a,b,c⟩:=sR T.m h f;have d:=λi q=>b (N1.mpr ⟨i,q⟩);refine⟨n,a,sT T.nd d,d,λk hk=>?_⟩;obtain⟨i,e⟩:=N1.mp (c k hk);exact⟨i,e,sU T.up e⟩
section
variable {prog:yZ}{w:jJ}{A:jI}{E:yL}{s:yQ}{a b:yR}
abbrev isT(prog:yZ)(w:jJ)(h:jL)(k:yA)(a:yR):Prop:=IsTupleKey (vQ prog w) h k a
theorem items_int{f:yA}{d:yB}(h:ItemsAre (vQ prog w) f d):∀v∈d,∃i t,v=Value.int i t:=by
 induction h with
 |nil=>intro v c;cases c
 |cons hk _ e =>
  intro v c;rcases qB0.mp c with rfl|c
  .obtain⟨t,rfl⟩:=Value.isInt_shape hk;exact⟨_,t,rfl⟩
  .exact e v c
theorem Fy(hk:isT prog w s.heap k a)(h:Q Z5 s):jC (yW prog w) A (lE (d+1) (.ref a)) Q E s:=by
 obtain⟨o,g,n,j,q,p,m⟩:=hk;have all:=items_int m;unfold lE;refine yO (j9 ⟨o,j,q⟩ ?_);refine yO (yP ?_);refine yO (vG j p ?_);refine yO ?_;rw[<- Array.forIn_toList];refine fR _ (λZK r f=>r.1=Z8/\f=s/\∀v∈ZK,∃i t,v=Value.int i t) _ ?_ ?_ _ _ ⟨rfl,rfl,all⟩
 .rintro v ZK r f ⟨l,rfl,c⟩;obtain⟨i,t,rfl⟩:=c v qE2;refine yO ?_;have e:lE d (.int i t)=pure Z5:=by cases d<;>rfl
  rw[e];refine yP ?_;exact yP ⟨rfl,rfl,λu x=>c u (qC5 _ x)⟩
 .rintro⟨y,z⟩ f ⟨l,rfl,_⟩;subst l;exact yP h
theorem sQ(hk:isT prog w s.heap k a)(h:Q Z7 s):jC (yW prog w) A (hashByValue (d+1) (.ref a)) Q E s:=by
 obtain⟨o,g,n,j,q,p,m⟩:=hk;have all:=items_int m;have ty:s.TypeIs (.ref a) "tuple":=⟨o,j,q⟩
 refine yO (mN ty PySem.F.slot_tuple_hash.lookup ?_);refine yO (vG j p ?_);refine yO ?_;rw[<- Array.forIn_toList];refine fR _ (λZK r f=>r.1=Z8/\f=s/\∀v∈ZK,∃i t,v=Value.int i t) _ ?_ ?_ _ _ ⟨rfl,rfl,all⟩
 .rintro v ZK r f ⟨l,rfl,c⟩;obtain⟨i,t,rfl⟩:=c v qE2;refine yO ?_;have e:hashByValue d (.int i t)=pure Z7:=by cases d<;>rfl
  rw[e];refine yP ?_;exact yP ⟨rfl,rfl,λu x=>c u (qC5 _ x)⟩
 .rintro⟨y,z⟩ f ⟨l,rfl,_⟩;subst l;exact yP h
theorem sP{ys:yB}(hk:isT prog w s.heap k a)(g:∀y∈ys,∃b l,y=Value.ref b/\isT prog w s.heap l b)(h:Q Z5 s):jC (yW prog w) A (searchCouldBeSeen (.ref a) ys) Q E s:=by
 refine yO ?_;refine fR _ (λZK r d=>r.1=Z8/\d=s/\∀y∈ZK,∃b l,y=Value.ref b/\isT prog w s.heap l b) _ ?_ ?_ _ _ ⟨rfl,rfl,g⟩
 .rintro y ZK r d ⟨e,rfl,c⟩;obtain⟨b,l,rfl,f⟩:=c y qE2;have nxt:=λu i=>c u (qC5 _ i);refine wM (λ_=>yP ⟨rfl,rfl,nxt⟩) λ_=>?_;refine yO (mV hk ?_);refine yO (mV f ?_);refine yO (Fy hk ?_);refine yO (Fy f ?_);exact yP ⟨rfl,rfl,nxt⟩
 .rintro⟨m,j⟩ d ⟨e,rfl,_⟩;subst e;exact yP h
theorem sO(h:Q Z7 s):jC (yW prog w) A (isSame (.ref p) (.ref p)) Q E s:=by unfold isSame;simp;exact yP h
structure U6(prog:yZ)(w:jJ)(h:jL)(es:Array (Int×yT))(xs:List (yA×yR)):Prop where
 e:es.toList=xs.map λx=>(jX (vQ prog w) x.1,Value.ref x.2)
 t:∀x∈xs,isT prog w h x.1 x.2
theorem U6.at(X:U6 prog w h es xs)(hi:i<es.size):∃x,xs[i]?=Z9 x/\es[i]?=Z9 (jX (vQ prog w) x.1,Value.ref x.2)/\isT prog w h x.1 x.2:=by
 have d:xs.length=es.size:=by rw[<- yV,X.e,qA0]
 have c:xs[i]?=Z9 xs[i]:=qA3 (by omega);refine⟨xs[i],c,?_,X.t _ (qD5 _)⟩;rw[<- jA,X.e,qB1,c];rfl
def VF(prog:yZ)(w:jJ)(t:vA)(xs:List (yA×yR))(k:yA)(n:Nat):Prop:=∀j,j<n->∃(i:Nat) (x:yA×yR),t.place[i]?=Z9 (pr t.mask (jX (vQ prog w) k) j).j/\xs[i]?=Z9 x/\x.1≠k
theorem Fx{es:Array (Int×yT)}{ep:Nat}{t:vA}{o:Obj}{xs:List (yA×yR)}{k:yA}(Y:A.units<vN)(T:VG t es)(g:s.heap.get? a=Z9 o)(d:o.data=.set es ep t)(X:U6 prog w s.heap es xs)(hk:isT prog w s.heap k b){Q:SetFound->yQ->Prop}
  {m:Nat} (S:m<10*(t.mask+15)) (he:t.slot (pr t.mask (jX (vQ prog w) k) m).j=.empty) (v:∀j,j<m->∃i:Nat,t.place[i]?=Z9 (pr t.mask (jX (vQ prog w) k) j).j/\t.slot (pr t.mask (jX (vQ prog w) k) j).j=.live i)
  (W:k∈xs.map (·.1)->Q (.there Z8) s) (G:VF prog w t xs k m->Q (.free (pr t.mask (jX (vQ prog w) k) m).j Z5) s) :
  ∀(F n:Nat) (st:Option SetTable.Probe),n<=m->m - n<F->st.getD (t.probeStart (jX (vQ prog w) k))=pr t.mask (jX (vQ prog w) k) n->VF prog w t xs k n->jC (yW prog w) A (setSearchFrom a (.ref b) (jX (vQ prog w) k) Z7 F st) Q E s
 |0,n,st,_,hF,_,_=>absurd hF (qG9 _)
 |F+1,n,st,hn,hF,hst,hp=>by
  obtain⟨H,l⟩:∃H,jX (vQ prog w) k=H:=⟨_,rfl⟩
  rw[l]at he v G hst ⊢;unfold VF at hp G;rw[l]at hp G;refine yO (jR g d T.fits ?_);dsimp only;rw[if_neg (by unfold SetTable.gaveWay;rcases T.m with e|e|e|e<;>rw[e]<;>decide),hst];have M:=Fz (f:=λi=>(es[i]?.map (·.1)).getD 0) he (λj V=>(v j V).imp λi h=>h.2) (10*(t.mask+15)) n hn (by lia);have other:∀j,n<=j->j<m->(∃i:Nat,t.slot (pr t.mask H j).j=.live i/\(es[i]?.map (·.1)).getD 0≠H)->∃(i:Nat) (x:yA×yR),t.place[i]?=Z9 (pr t.mask H j).j/\xs[i]?=Z9 x/\x.1≠k:=λj _ L ⟨i',Z,P⟩=>by
   obtain⟨i,B,K⟩:=v j L;rw[K]at Z;have ei:=SetTable.Slot.live.inj Z;subst ei;have p:i<es.size:=by
    rw[<- T.sz];rcases qK9 i t.place.size with g|g
    .exact g
    .simp_all
   obtain⟨x,N,J,_⟩:=X.at p;refine⟨i,x,B,N,λe=>P ?_⟩;rw[J,e,l];rfl
  split
  case h_2 =>
   rename_i c;exfalso;obtain⟨r,u⟩:∃r,SetTable.probe.go t (λi=>(es[i]?.map (·.1)).getD 0) H (10*(t.mask+15)) (pr t.mask H n)=r:=⟨_,rfl⟩
   rw[u]at M;cases M with
   |cand n1 i h1 L U R O=>exact c _ u
   |free O=>exact c _ u
  rename_i met c;have I:SetTable.probe.go t (λi=>(es[i]?.map (·.1)).getD 0) H (10*(t.mask+15)) (pr t.mask H n)=Z9 met:=c;rw[I]at M;cases M with
  |free O =>
   refine yP (G λj V=>?_);by_cases q:j<n
   .exact hp j q
   .simp_all
  |cand n1 i h1 L U R O =>
   obtain⟨i',B,K⟩:=v n1 L;rw[U]at K;cases K;have p:i<es.size:=by
    rw[<- T.sz];rcases qK9 i t.place.size with g|g
    .exact g
    .rw[wL g]at B;cases B
   obtain⟨x,N,J,x3⟩:=X.at p;refine wM (λ_=>yO (sP hk (λy hy=>?_) ?_)) λ_=>?_
   .obtain⟨e,C,rfl⟩:=qC4.mp hy;have D:=by rw[Array.toList_filter]at C;exact(qG7.mp C).1
    rw[X.e]at D;obtain⟨z,hz,rfl⟩:=qC4.mp D;exact⟨z.2,z.1,rfl,X.t z hz⟩
   case' refine_2=>rw[if_neg (by decide)]
   all_goals
    rw[J];refine yO (jP (wpAny_eqBool_tuple Y x3 hk (yO (jR g d T.fits ?_))));by_cases e:x.1=k
    .rw[decide_eq_true e,if_pos (by decide)];exact yP (W (qC4.mpr ⟨x,qC2 N,e⟩))
    .rw[decide_eq_false e,if_neg (by decide)];have sm:t.sameMemory t.moves t.mask=Z9 Z7:=by unfold SetTable.sameMemory;simp
     rw[sm];dsimp only;rw[if_pos rfl,U];dsimp only;rw[J];refine yO (sO ?_);rw[<- l];refine Fx Y T g d X hk S (by rw[l];exact he) (by rw[l];exact v) W (by unfold VF;rw[l];exact G) F (n1+1) _ (by lia) (by lia) (by rfl) ?_;unfold VF;rw[l];intro j V;by_cases q:j<n
     .exact hp j q
     by_cases P:j<n1
     .exact other j (by lia) (by lia) (O j (by lia) P)
     .have:j=n1:=by lia
      subst this;exact⟨i,x,B,N,e⟩
end
theorem K5(h:i<=m):SetTable.runEnd m i<=m/\i<=SetTable.runEnd m i:=by unfold SetTable.runEnd;split<;>lia
theorem SA{b:Type}{a:Array b}{d:b}(h:j<a.size):a[j]?=Z9 (a.getD j d):=by simp_all
theorem Fw{m:Nat}(h:Int){b:Array (yK)}(sz:b.size=m+1){K:Nat}(p:b[(Ym m h K).1]?=Z9 Z8):∀(F k n:Nat),k<=K->K - k<F->pr m h n=TB m (Ym m h k)->(∀i,i<n->∃c,b[(pr m h i).j]?=Z9 (Z9 c)) ->
  ∃j t,SetTable.layClean.free m b F (Ym m h k).1 (Ym m h k).2=Z9 j/\(pr m h t).j=j/\b[j]?=Z9 Z8/\∀i,i<t->∃c,b[(pr m h i).j]?=Z9 (Z9 c)
 |0,k,n,_,hF,_,_=>absurd hF (qG9 _)
 |F+1,k,n,hk,hF,e,ho=>by
  obtain⟨i,pt,a⟩:∃i pt,Ym m h k=(i,pt):=⟨_,_,rfl⟩
  have x:i<=m:=by have:=K8 m h k;rw[a]at this;lia
  obtain⟨D,G⟩:=K5 x;rw[a]at e ⊢;have l:∀r,r<=SetTable.runEnd m i - i->pr m h (n+r)=⟨i+r,SetTable.runEnd m i - i - r,i,pt,Z8⟩:=Lb m h e;unfold SetTable.layClean.free;cases s:(List.range (SetTable.runEnd m i+1 - i)).find? λq=>(b.getD (i+q) (Z9 0)).isNone with
  |some q =>
   obtain⟨A,u,o⟩:=List.find?_range_eq_some.mp s;have E:=qC7.mp u;refine⟨i+q,n+q,rfl,?_,?_,λj w=>?_⟩
   .rw[l q (by lia)]
   .rw[SA (by lia)];exact congrArg Z9 (Option.isNone_iff_eq_none.mp A)
   .by_cases g:j<n
    .exact ho j g
    .obtain⟨r,rfl⟩:∃r,j=n+r:=⟨j - n,by lia⟩
     rw[l r (by lia)];have:=o r (by lia);show ∃c,b[i+r]?=Z9 (Z9 c);rw[SA (by lia)];cases d:b.getD (i+r) (Z9 0)with
     |none=>rw[d]at this;simp at this
     |some c=>exact⟨c,rfl⟩
  |none =>
   have o:=List.find?_range_eq_none.mp s;have f:∀r,r<SetTable.runEnd m i+1 - i->∃c,b[i+r]?=Z9 (Z9 c):=λr z=>by
    have:=o r z;rw[SA (by lia)];cases d:b.getD (i+r) (Z9 0)with
    |none=>rw[d]at this;simp at this
    |some c=>exact⟨c,rfl⟩
   have C:k≠K:=λB=>by subst B;obtain⟨c,d⟩:=f 0 (by lia);rw[a]at p;rw[Nat.add_zero,p]at d;cases d
   have v:pr m h (n+(SetTable.runEnd m i - i)+1)=TB m (Ym m h (k+1)):=by show VQ m (pr m h (n+_))=_;rw[l _ (qA6 _),Lc m (qJ4 _) rfl];show _=TB m (SetTable.leap m (Ym m h k).1 (Ym m h k).2);rw[a]
   have:=Fw h sz p F (k+1) _ (by lia) (by lia) v λj w=>by
    by_cases g:j<n
    .exact ho j g
    .obtain⟨r,rfl⟩:∃r,j=n+r:=⟨j - n,by lia⟩
     rw[l r (by lia)];exact f r (by lia)
   have y:Ym m h (k+1)=SetTable.leap m i pt:=by show SetTable.leap m (Ym m h k).1 (Ym m h k).2=_;rw[a]
   rw[y]at this;exact this
theorem sM{l:List Nat}(b:l.Nodup)(h:∀x∈l,x<N):l.length<=N:=by have:=K6 b λx a=>qC7.mpr (h x a);rwa[qD4]at this
structure Ow(m:Nat)(hs:yA)(k:Nat)(ow:Array (yK)):Prop where
 sz:ow.size=m+1
 lt:∀(j c:Nat),ow[j]?=Z9 (Z9 c)->c<k
 un:∀(j j' c:Nat),ow[j]?=Z9 (Z9 c)->ow[j']?=Z9 (Z9 c)->j=j'
 all:∀c,c<k->∃j:Nat,ow[j]?=Z9 (Z9 c)
 rc:∀(j c:Nat),ow[j]?=Z9 (Z9 c)->∃h n,hs[c]?=Z9 h/\(pr m h n).j=j/\∀i,i<n->∃c',ow[(pr m h i).j]?=Z9 (Z9 c')
theorem Ow.room(O:Ow m hs k f)(hk:k<=m):∃s,s<=m/\f[s]?=Z9 Z8:=by
 refine Classical.byContradiction λo=>?_;have v:∀j,j<=m->∃c,f[j]?=Z9 (Z9 c):=λj h=>by
  have:=SA (d:=Z8) (j:=j) (by rw[O.sz];lia);cases g:f.getD j Z8 with
  |none=>rw[g]at this;exact absurd ⟨j,h,this⟩ o
  |some c=>rw[g]at this;exact⟨c,this⟩
 have ex:∀n,n<=m+1->∃l:List Nat,l.length=n/\l.Nodup/\∀c∈l,∃j,j<n/\f[j]?=Z9 (Z9 c):=λn=>by
  induction n with
  |zero=>exact λ_=>⟨[],rfl,.nil,λc g=>by cases g⟩
  |succ n r =>
   intro o;obtain⟨l,a,b,c⟩:=r (by lia);obtain⟨d,p⟩:=v n (by lia);refine⟨d::l,by simp[a],qJ2.mpr ⟨λu=>?_,b⟩,λe i=>?_⟩
   .obtain⟨j,h,q⟩:=c d u;have:=O.un j n d q p
    lia
   .rcases qB0.mp i with rfl|i
    .exact⟨n,by lia,p⟩
    .obtain⟨j,h,q⟩:=c e i;exact⟨j,by lia,q⟩
 obtain⟨l,a,b,c⟩:=ex (m+1) (qA6 _);have:=sM b λx t=>let ⟨j,_,q⟩:=c x t;O.lt j x q
 lia
theorem Ow.put{m k j n:Nat}(O:Ow m hs k f)(t:hs[k]?=Z9 h)(r:f[j]?=Z9 Z8)(e:(pr m h n).j=j)(s:∀i,i<n->∃c,f[(pr m h i).j]?=Z9 (Z9 c)):Ow m hs (k+1) (f.setIfInBounds j (Z9 k)):=by
 have w:j<f.size:=by
  rcases qK9 j f.size with g|g
  .exact g
  .simp_all
 have d:∀i:Nat,(f.setIfInBounds j (Z9 k))[i]?=if j=i then Z9 (Z9 k)else f[i]?:=λi=>by
  rw[Array.getElem?_setIfInBounds];by_cases q:j=i
  .simp[w]
  .simp[q]
 have keep:∀i c,f[i]?=Z9 (Z9 c)->(f.setIfInBounds j (Z9 k))[i]?=Z9 (Z9 c):=λi c q=>by rw[d,if_neg (λz=>by subst z;rw[r]at q;cases q)];exact q
 refine⟨by simp[O.sz],λi c q=>?_,λi p c q l=>?_,λc y=>?_,λi c q=>?_⟩
 .rw[d]at q;split at q
  .cases q;lia
  .have:=O.lt i c q;lia
 .rw[d]at q l;by_cases a:j=i
  .rw[if_pos a]at q;cases q;by_cases b:j=p
   .lia
   .rw[if_neg b]at l;have:=O.lt _ _ l
    lia
  .rw[if_neg a]at q;by_cases b:j=p
   .rw[if_pos b]at l;cases l;have:=O.lt _ _ q
    lia
   .rw[if_neg b]at l;exact O.un i p c q l
 .by_cases z:c=k
  .subst z;exact⟨j,by rw[d,if_pos rfl]⟩
  .obtain⟨i,q⟩:=O.all c (by lia);exact⟨i,keep i c q⟩
 .rw[d]at q;split at q
  .rename_i z;cases q;subst z;exact⟨h,n,t,e,λi o=>(s i o).imp λc q=>keep _ c q⟩
  .obtain⟨u,x,a,b,v⟩:=O.rc i c q;exact⟨u,x,a,b,λi o=>(v i o).imp λc q=>keep _ c q⟩
abbrev Ql(m:Nat):Option (Array (yK)×Nat)->Int->Option (Array (yK)×Nat):=λacc h=>do
 let (owner,k) <- acc
 let j <- SetTable.layClean.free m owner (SetTable.turns m) (SetTable.bits h % (m+1)) (SetTable.bits h)
 pure (owner.setIfInBounds j (Z9 k),k+1)
theorem Fv{m:Nat}(hm:WA m){hs:yA}(f:hs.length<=m+1):∀(ZK:yA) (k:Nat) (ow:Array (yK)),hs.drop k=ZK->k<=hs.length->Ow m hs k ow->∃c,ZK.foldl (Ql m) (Z9 (ow,k))=Z9 (c,hs.length)/\Ow m hs hs.length c
 |[],k,ow,e,hk,O=>by
  have:hs.length=k:=by have:=congrArg qH4 e;simp at this;lia
  exact⟨ow,by rw[List.foldl_nil,this],this▸O⟩
 |h::ZK,k,ow,e,hk,O=>by
  have g:k<hs.length:=by have:=congrArg qH4 e;simp at this;lia
  have r:=by have:=congrArg (λl=>l[0]?) e;simpa using this
  obtain⟨s,t,u⟩:=O.room (by lia);obtain⟨K,y,k2⟩:=FA hm h t;obtain⟨j,n,w,x,o,v⟩:=Fw h O.sz (by rw[k2];exact u) (m+15) 0 0 (qC6 _) (by lia) rfl (λi q=>absurd q (qG9 _));have p:=O.put r o x v;obtain⟨c,a,b⟩:=Fv hm f ZK (k+1) _ (by rw[<- qP8,e];rfl) g p;refine⟨c,?_,b⟩;rw[qL9,<- a];congr 1;show(SetTable.layClean.free m ow (SetTable.turns m) (SetTable.bits h % (m+1)) (SetTable.bits h) >>= λj=>pure (ow.setIfInBounds j (Z9 k),k+1))=_;have d:SetTable.layClean.free m ow (SetTable.turns m) (SetTable.bits h % (m+1)) (SetTable.bits h)=Z9 j:=w;rw[d];rfl
theorem sL(hm:WA m)(e:hs.size<=m+1):∃ow,SetTable.layClean m hs=Z9 ow/\Ow m hs.toList hs.size ow:=by
 have d:Ow m hs.toList 0 (Array.replicate (m+1) Z8):=⟨by simp,λj c h=>(by simp[fB]at h),λj f c h=>(by simp[fB]at h),λc h=>absurd h (qG9 _),λj c h=>(by simp[fB]at h)⟩
 obtain⟨ow,a,b⟩:=Fv hm (by exact e) hs.toList 0 _ rfl (qC6 _) d;refine⟨ow,?_,b⟩;have:SetTable.layClean m hs=(hs.toList.foldl (Ql m) (Z9 (Array.replicate (m+1) Z8,0))).map (·.1):=by rw[Array.foldl_toList];rfl
 rw[this,a];rfl
def U5(es:Array (Int×yT))(c:Nat):Int×Value:=es.getD c (0,.none)
theorem zNs(h:c<es.size):es[c]?=Z9 (U5 es c):=SA h
theorem Fu:∀l:List Nat,(∀c∈l,c<es.size)->l.filterMap (es[·]?)=l.map (U5 es)
 |[],_=>rfl
 |c::l,h=>by rw[qQ7 (zNs (h c (by simp))),Fu l λd a=>h d (by simp[a])];rfl
theorem sJ(es:Array (Int×yT)):(List.range es.size).map (U5 es)=es.toList:=by
 refine qN5 λi=>?_;by_cases h:i<es.size
 .rw[qB1,qH2 h,jA,zNs h];rfl
 .simp_all
def V5(m:Nat)(a:Array (yK)):List (Nat×Nat):=(List.range (m+1)).filterMap λj=>(a.getD j Z8).map (j,·)
theorem K4(sz:a.size=m+1):(j,c)∈V5 m a↔a[j]?=Z9 (Z9 c):=by
 unfold V5;rw[qM1];constructor
 .rintro⟨i,b,e⟩;obtain⟨d,f,l⟩:=qA7.mp e;cases l;rw[SA (by have:=qC7.mp b;lia),f]
 .intro h;have k:j<a.size:=by
   rcases qK9 j a.size with g|g
   .exact g
   .rw[wL g]at h;cases h
  refine⟨j,qC7.mpr (by lia),?_⟩;rw[SA k]at h;rw[Option.some.inj h];rfl
theorem sI(m:Nat)(f:Array (yK)):(V5 m f).Pairwise λx y=>x.1<y.1:=by refine List.Pairwise.filterMap _ (λa b c x d y e=>?_) qM9;obtain⟨_,_,rfl⟩:=qA7.mp d;obtain⟨_,_,rfl⟩:=qA7.mp e;exact c
inductive sH(m:Nat)(l p:Bool)(es:Array (Int×yT))(r:Option (vA×Array Nat)):Prop
 |mk (t:vA) (order:Array Nat) (e:r=Z9 (t,order)) (sz:(order.filterMap (es[·]?)).size=es.size) (pm:(order.filterMap (es[·]?)).toList.Perm es.toList) (T:VG t (order.filterMap (es[·]?))) (hm:t.mask=m) (hl:t.led=l) (hp:t.plain=p)
theorem sG(hm:WA m)(z:es.size*5<m*3):sH m l p es (SetTable.laid m f v l p (es.map (·.1))):=by
 obtain⟨d,H,O⟩:=sL hm (hs:=es.map (·.1)) (by rw[Array.size_map];lia);rw[Array.size_map]at O;have B:SetTable.laid m f v l p (es.map (·.1))=Z9 ({ mask:=m,place:=((V5 m d).map (·.1)).toArray,dummies:=#[],finger:=f,led:=l,moves:=v,plain:=p },((V5 m d).map (·.2)).toArray):=by unfold SetTable.laid;rw[H];rfl
 have o:∀q∈V5 m d,d[q.1]?=Z9 (Z9 q.2):=λq r=>(K4 O.sz).mp r;have C:∀c∈(V5 m d).map (·.2),c<es.size:=λc J=>by obtain⟨q,r,rfl⟩:=qC4.mp J;exact O.lt _ _ (o q r)
 have w:((((V5 m d).map (·.2)).toArray).filterMap (es[·]?)).toList=(V5 m d).map λq=>U5 es q.2:=by rw[Array.toList_filterMap,Fu _ C,qC8];rfl
 have A:((V5 m d).map (·.2)).Perm (List.range es.size):=by
  refine(qQ0 ?_ qO2).mpr λc=>?_
  .refine qH7.mpr ((sI m d).imp_of_mem λ{x y} F K h=>λe=>?_);have:=O.un x.1 y.1 x.2 (o x F) (e▸o y K)
   lia
  .rw[qC7];refine⟨λh=>C c h,λh=>?_⟩;obtain⟨j,q⟩:=O.all c h;exact qC4.mpr ⟨(j,c),(K4 O.sz).mpr q,rfl⟩
 have D:((((V5 m d).map (·.2)).toArray).filterMap (es[·]?)).toList.Perm es.toList:=by rw[w,<- sJ es];have:=A.map (U5 es);rw[qC8]at this;exact this
 have sz:((((V5 m d).map (·.2)).toArray).filterMap (es[·]?)).size=es.size:=by rw[<- yV,D.length_eq,yV]
 obtain⟨_,_,up⟩:=vb B;refine⟨_,_,B,sz,D,⟨hm,up,rfl,?_,λj G=>?_,by rw[sz];exact z,λi j e s u=>?_⟩,rfl,rfl,rfl⟩
 .rw[<- yV,<- yV,w];simp
 .obtain⟨q,r,rfl⟩:=qC4.mp G;have:=o q r;have:q.1<d.size:=by
   rcases qK9 q.1 d.size with g|g
   .exact g
   .simp_all
  rw[O.sz]at this;show q.1<=m
  lia
 .rw[<- jA]at s u;rw[w,qB1]at u;rw[show(((V5 m d).map (·.1)).toArray).toList=(V5 m d).map (·.1)from rfl,qB1]at s;cases r:(V5 m d)[i]? with
  |none=>rw[r]at s;cases s
  |some q =>
   rw[r]at s u;cases s;cases u;have t:=qC2 r;obtain⟨h,n,a,b,c⟩:=O.rc _ _ (o q t);have E:=by have:=O.lt _ _ (o q t);rw[jA,Array.getElem?_map,zNs this]at a;exact(Option.some.inj a).symm
   subst E;refine⟨n,b,λk hk=>?_⟩;obtain⟨I,L⟩:=c k hk;exact qC4.mpr ⟨(_,I),(K4 O.sz).mpr L,rfl⟩
theorem sF{c d:Type}{l:List c}{r:List d}{x:c}{y:d}(f:l.length=r.length)(e:p<=l.length){i:Nat}{a:c}{b:d}(g:(l.take p++x::l.drop p)[i]?=Z9 a)(h:(r.take p++y::r.drop p)[i]?=Z9 b):(a=x/\b=y)∨∃k:Nat,l[k]?=Z9 a/\r[k]?=Z9 b:=by grind
theorem sD(T:VG t es)(w:∀i:Nat,t.place[i]?≠Z9 (pr t.mask h n).j)(A:(pr t.mask h n).j<=t.mask)(C:∀k,k<n->∃i:Nat,t.place[i]?=Z9 (pr t.mask h k).j):
  (t.put (pr t.mask h n).j).1.dummies=#[]/\(t.put (pr t.mask h n).j).1.mask=t.mask/\Rs (t.put (pr t.mask h n).j).1.place/\(t.put (pr t.mask h n).j).1.place.size=es.size+1/\(SetTable.insertAt es (t.put (pr t.mask h n).j).2 (h,v)).size=es.size+1/\(SetTable.insertAt es (t.put (pr t.mask h n).j).2 (h,v)).toList.Perm ((h,v)::es.toList) /\
  ((es.size+1)*5<t.mask*3->VG (t.put (pr t.mask h n).j).1 (SetTable.insertAt es (t.put (pr t.mask h n).j).2 (h,v))):=by
 obtain⟨j,u⟩:∃j,(pr t.mask h n).j=j:=⟨_,rfl⟩
 rw[u]at w A ⊢;have D:t.put j=({ t with place:=SetTable.insertAt t.place (SetTable.below t.place j) j },SetTable.below t.place j):=by unfold SetTable.put SetTable.has;rw[T.nd];simp
 rw[D];obtain⟨b1,_,_⟩:=QC T.up j;have r:t.place.toList.length=es.toList.length:=by rw[yV,yV,T.sz]
 have f:=SetTable.toList_insertAt t.place (SetTable.below t.place j) j;have o:=SetTable.toList_insertAt es (SetTable.below t.place j) (h,v);have up:=T.up.insert (w _);have y:(SetTable.insertAt t.place (SetTable.below t.place j) j).size=es.size+1:=by rw[<- yV,f,qB9,qC9,qE4,qH0,yV,T.sz];lia
 have p:(SetTable.insertAt es (SetTable.below t.place j) (h,v)).size=es.size+1:=by rw[<- yV,o,qB9,qC9,qE4,qH0,yV];lia
 have E:(SetTable.insertAt es (SetTable.below t.place j) (h,v)).toList.Perm ((h,v)::es.toList):=by rw[o];exact qU4.trans (by rw[qD2])
 have c:∀x,x∈t.place.toList->x∈(SetTable.insertAt t.place (SetTable.below t.place j) j).toList:=λx d=>by
  rw[f];rw[<- qD2 (SetTable.below t.place j) t.place.toList]at d;rcases qB6.mp d with q|q
  .exact qF7 _ q
  .exact qD1 _ (qC5 _ q)
 refine⟨T.nd,rfl,up,y,p,E,λm=>⟨T.m,up,T.nd,by rw[p];exact y,λx d=>?_,by rw[p];exact m,λi x e g l=>?_⟩⟩
 .rw[show({ t with place:=SetTable.insertAt t.place (SetTable.below t.place j) j }:vA).place.toList=_ from f]at d;rcases qB6.mp d with q|q
  .exact T.bd x (qE9 q)
  .rcases qB0.mp q with rfl|q
   .exact A
   .exact T.bd x (qE8 q)
 .rw[<- jA]at g l;rw[o]at l;rw[show({ t with place:=SetTable.insertAt t.place (SetTable.below t.place j) j }:vA).place.toList=_ from f]at g;rcases sF r (by exact b1) g l with⟨rfl,rfl⟩| ⟨k,z,s⟩
  .exact⟨n,u,λk hk=>c _ (N1.mpr (C k hk))⟩
  .rw[jA]at z s;obtain⟨F,a,b⟩:=T.rc k x e z s;exact⟨F,a,λi B=>c _ (b i B)⟩
theorem K0{c i:Type}{f:c->i}{j l:List i}(h:j.Perm l):∀m:List c,l=m.map f->∃m':List c,m'.Perm m/\j=m'.map f:=by
 induction h with
 |nil=>intro m e;exact⟨m,.refl _,e⟩
 |cons x _ n =>
  intro m e;cases m with
  |nil=>cases e
  |cons a m =>
   rw[qB8,qL0.injEq]at e;obtain⟨m',p,q⟩:=n m e.2;exact⟨a::m',p.cons a,by rw[qB8,e.1,q]⟩
 |swap x y l =>
  intro m e
  match m,e with
  |a::b::m,e =>
   rw[qB8,qB8,qL0.injEq,qL0.injEq]at e;exact⟨b::a::m,.swap _ _ _,by rw[qB8,qB8,e.1,e.2.1,e.2.2]⟩
 |trans _ _ d g =>
  intro m e;obtain⟨s,o,u⟩:=g m e;obtain⟨t,r,k⟩:=d s u;exact⟨t,r.trans o,k⟩
theorem Ft(m:Nat)(h:Int):∀n,(pr m h n).j+(pr m h n).more<=m
 |0=>by
  have:=K8 m h 0;have:=K5 (m:=m) (i:=(Ym m h 0).1) (by lia);show(Ym m h 0).1+(SetTable.runEnd m (Ym m h 0).1 - (Ym m h 0).1)<=m
  lia
 |n+1=>by
  have b:=Ft m h n;show(VQ m (pr m h n)).j+(VQ m (pr m h n)).more<=m;by_cases q:0<(pr m h n).more
  .rw[FF m q];show(pr m h n).j+1+((pr m h n).more - 1)<=m
   lia
  .rw[Lc m (by lia) (K7 m h n)];generalize hx:SetTable.leap m (pr m h n).i (pr m h n).perturb=x;have a:x.1<=m:=by
    rw[<- hx];have:((pr m h n).i*5+1+(pr m h n).perturb / 32) % (m+1)<m+1:=qR1 _ (by lia);show((pr m h n).i*5+1+(pr m h n).perturb / 32) % (m+1)<=m
    lia
   have:=K5 a;show x.1+(SetTable.runEnd m x.1 - x.1)<=m
   lia
section
variable {prog:yZ}{w:jJ}{A:jI}{E:yL}{s:yQ}{bt:Bool}{a:yR}{ks:List (yA)}{L:yR->Prop}
inductive WV(prog:yZ)(w:jJ)(bt:Bool)(L:yR->Prop)(h:jL)(a:yR)(ks:List (yA)):Prop
 |mk (o:Obj) (es:Array (Int×yT)) (ep:Nat) (t:vA) (xs:List (yA×yR)) (g:h.get? a=Z9 o) (x:o.ExactSet) (d:o.data=.set es ep t) (k:TOk bt t) (pl:t.plain=Z7) (T:VG t es) (X:U6 prog w h es xs) (p:(xs.map (·.1)).Perm ks) (al:∀x∈xs,L x.2)
def Yk(b:List (yA))(k:yA):List (yA):=if k∈b then b else k::b
theorem isT.keep(x:isT prog w h k b)(hk:∀o,h.get? b=Z9 o->h'.get? b=Z9 o):isT prog w h' k b:=by obtain⟨o,c,n,d,r⟩:=x;exact⟨o,c,n,hk o d,r⟩
theorem WV.at(S:WV prog w bt L h a ks)(k:∀b o,b=a∨L b->h.get? b=Z9 o->h'.get? b=Z9 o):WV prog w bt L h' a ks:=by obtain⟨o,i,l,t,j,g,x,d,f,m,T,X,p,e⟩:=S;exact⟨o,i,l,t,j,k a o (.inl rfl) g,x,d,f,m,T,⟨X.e,λx c=>(X.t x c).keep λo=>k _ o (.inr (e x c))⟩,p,e⟩
theorem isT.ne(x:isT prog w h k b)(g:h.get? a=Z9 o)(c:o.cls=.type "set"):b≠a:=λe=>by obtain⟨j,d,n,f,i,_⟩:=x;rw[e,g]at f;cases f;rw[c]at i;exact absurd i (by decide)
theorem WV.stored{h:jL}{xs:List (yA×yR)}(g:h.get? a=Z9 o)(x:o.ExactSet)(d:o.data=.set es ep t):
  (h.update a (uG es' t')).get? a=Z9 { o with data:=.set es' (ep+1) t' }:=by have:=qG2 (uG es' t') g (by rw[putSet_of es' t' d];rfl);rw[putSet_of es' t' d]at this;exact this
theorem sC{k:yA}(T:VG t es)(X:U6 prog w h es xs)(z:∀i:Nat,t.place[i]?≠Z9 (pr t.mask (jX (vQ prog w) k) n0).j)(B:VF prog w t xs k n0):k∉xs.map (·.1):=λD=>by
 obtain⟨x,v,rfl⟩:=qC4.mp D;obtain⟨i,f⟩:=qE1 v;have u:xs.length=es.size:=by rw[<- yV,X.e,qA0]
 have r:i<es.size:=by rw[<- u];exact(qA5.mp f).1
 have j:i<t.place.size:=by rw[T.sz];exact r
 have c:=jE j;obtain⟨y,o,C,_⟩:=X.at r;rw[f]at o;cases o;obtain⟨n,a,b⟩:=T.rc i _ _ c C;have m:∀k,k<=n->∃i:Nat,t.place[i]?=Z9 (pr t.mask (jX (vQ prog w) x.1) k).j:=λk hk=>by
  by_cases e:k=n
  .subst e;exact⟨i,by rw[a];exact c⟩
  .exact N1.mp (b k (by lia))
 have lt:n<n0:=by
  rcases qK9 n n0 with g|g
  .exact g
  .obtain⟨d,q⟩:=m n0 g;exact absurd q (z d)
 obtain⟨d,G,l,p,F⟩:=B n lt;rw[a]at l;have:d=i:=by
  rcases qM7 d i with g|g|g
  .have:=T.up.get l c g;lia
  .exact g
  .have:=T.up.get c l g;lia
 subst this;rw[f]at p;cases p;exact F rfl
theorem KZ(hu:A.units<vN)(S:WV prog w bt L s.heap a ks)(hk:isT prog w s.heap k b)(hb:L b)(room:ks.length<=300)(h:∀(r:Bool) (h':jL),qE3 a s.heap h'->WV prog w bt L h' a (Yk ks k)->Q r { s with heap:=h' }):
  jC (yW prog w) A (setAddHashed a (.ref b) (jX (vQ prog w) k)) Q E s:=by
 obtain⟨o,y,ep,t,xs,g,x,d,k1,pl,T,X,p,al⟩:=S;have hl:y.size=ks.length:=by rw[<- p.length_eq,qA0,<- yV,X.e,qA0]
 obtain⟨H,hH⟩:∃H,jX (vQ prog w) k=H:=⟨_,rfl⟩
 refine jP (yO (jR g d T.fits ?_));dsimp only;obtain⟨O,n1,n2,n3,n4⟩:=T.way (jX (vQ prog w) k);refine yO ?_;refine Fx hu T g d X hk n1 n2 n4 (λhm=>?_) (λhp=>?_) 100000 0 Z8 (qC6 _) (by rcases T.m with e|e|e|e<;>rw[e]at n1<;>lia) rfl (λj hj=>absurd hj (qG9 _))
 .dsimp only;refine yP ?_;have:WV prog w bt L s.heap a (Yk ks k):=by unfold Yk;rw[if_pos (p.mem_iff.mp hm)];exact⟨o,y,ep,t,xs,g,x,d,k1,pl,T,X,p,al⟩
  have:=h Z5 s.heap (qE3.refl ..) this;cases s;exact this
 .have hn:=sC T X n3 hp;rw[hH]at n2 n3 n4 ⊢;refine yO (jR g d T.fits ?_);have jb:(pr t.mask H O).j<=t.mask:=by have:=Ft t.mask H O;lia
  obtain⟨Z,W,u3,U,C,V,R⟩:=sD T (v:=.ref b) n3 jb λk hk=>let ⟨i,q,_⟩:=n4 k hk;⟨i,q⟩
  have n:(t.put (pr t.mask H O).j).1.plain=Z7:=pl;have u:(t.put (pr t.mask H O).j).1.led=!bt:=k1.led;obtain⟨m,y1,M⟩:=K0 (f:=λx:yA×yR=>(jX (vQ prog w) x.1,Value.ref x.2)) V ((k,b)::xs) (by rw[qB8,X.e,hH]);have I:∀z∈m,L z.2:=λz D=>by
   rcases qB0.mp (y1.mem_iff.mp D)with rfl|q
   .exact hb
   .exact al z q
  have N:(m.map (·.1)).Perm (Yk ks k):=by unfold Yk;rw[if_neg (λhm=>hn (p.mem_iff.mpr hm))];exact(y1.map Prod.fst).trans (by exact p.cons k)
  generalize hput:t.put (pr t.mask H O).j=pt at Z W u3 U C V R n u M ⊢;obtain⟨B,pp⟩:=pt;dsimp only at Z W u3 U C V R n u M ⊢;rw[if_pos n];refine yO (sQ hk ?_);rw[if_pos rfl];have c1:=x.1;generalize SetTable.insertAt y pp (H,Value.ref b)=es1 at C V R M ⊢;refine yO (wpAny_storeSet_of g d ?_ (by rw[C,vK];lia));have J:=WV.stored (es':=es1) (t':=B) (xs:=xs) g x d;have X3:∀z∈m,isT prog w (s.heap.update a (uG es1 B)) z.1 z.2:=λz D=>by
   have:isT prog w s.heap z.1 z.2:=by
    rcases qB0.mp (y1.mem_iff.mp D)with rfl|q
    .exact hk
    .exact X.t z q
   exact this.keep λo' e=>by rw[qF2 _ _ (Ne.symm (this.ne g c1))];exact e
  have sb:=qE3.update s.heap a (uG es1 B);have few:=T.few;by_cases l:(!false&&B.tooFull)=Z7
  .rw[if_pos l];have Y:=by simpa using l
   unfold SetTable.tooFull SetTable.fill at Y;rw[Z,U,W]at Y;simp at Y;obtain⟨F,K,G,sa⟩:∃F,WA F/\(y.size+1)*5<F*3/\SetTable.sizeAbove (SetTable.grown (y.size+1))=F+1:=by
    rcases T.m with e|e|e|e<;>rw[e]at Y few
    .rw[show y.size=4 by lia];exact⟨31,.inr (.inl rfl),by decide,by decide⟩
    .rw[show y.size=18 by lia];exact⟨127,.inr (.inr (.inl rfl)),by decide,by decide⟩
    .rw[show y.size=76 by lia];exact⟨511,.inr (.inr (.inr rfl)),by decide,by decide⟩
    .lia
   have m9:F<=511:=by rcases K with e|e|e|e<;>lia
   have P:B.fits es1.size=Z7:=by unfold SetTable.fits SetTable.fill;rw[Z,U,C,W];have:=T.few;rcases T.m with e|e|e|e<;>rw[e]at this ⊢<;>simp<;>lia
   refine yO (yO (jR J rfl P ?_));dsimp only;obtain⟨t',c,e,sz,pm,T',hm2,hl',hp'⟩:=sG (v:=B.movedTo F) K (by rw[C];exact G);rw[sa,if_neg (by rw[vK];lia)];refine yO ?_;have e':B.relaid (es1.map (·.1)) (SetTable.grown (y.size+1))=Z9 (t',c):=by unfold SetTable.relaid;rw[sa];exact e
   rw[e'];show jC _ _ (if((c.filterMap (es1[·]?)).size != es1.size)=Z7 then _ else pure (c.filterMap (es1[·]?),t')) _ _ _;rw[if_neg (by simp[sz])];refine yP ?_;dsimp only;generalize c.filterMap (es1[·]?)=es2 at sz pm T' ⊢;refine wpAny_storeSet_of J rfl ?_ (by rw[sz,C,vK];lia);obtain⟨xs2,z1,z2⟩:=K0 pm m M;have g4:=WV.stored (es':=es2) (t':=t') (xs:=xs) J x rfl;refine yP (h Z7 _ (sb.trans (qE3.update _ a _)) ⟨_,es2,ep+1+1,t',xs2,g4,x,rfl,⟨by rw[hl'];exact u,λ_=>T'.up⟩,by rw[hp'];exact n,T',⟨z2,λz D=>?_⟩,(z1.map Prod.fst).trans N,λz D=>I z (z1.mem_iff.mp D)⟩);have:=X3 z (z1.mem_iff.mp D);exact this.keep λo' e=>by rw[qF2 _ _ (Ne.symm (this.ne J c1))];exact e
  .rw[if_neg l];refine yP (h Z7 _ sb ⟨_,es1,ep+1,B,m,J,x,rfl,⟨u,λ_=>u3⟩,n,R ?_,⟨M,X3⟩,N,I⟩);have:=by simpa using l
   unfold SetTable.tooFull SetTable.fill at this;simp at this
   lia
end
def U4(val:Nat->yA):Nat->List (yA)
 |0=>[]
 |i+1=>Yk (U4 val i) (val i)
theorem Fs(val:Nat->yA):∀i,(U4 val i).length<=i
 |0=>qA6 _
 |i+1=>by
  have:=Fs val i;show(Yk _ _).length<=_;unfold Yk;split
  .lia
  .rw[qC9];lia
section
variable {prog:yZ}{w:jJ}{A:jI}{R:uD->yQ->Prop}{I:yR}{fp wr:yC}{G:Array GenState->Array GenState->Prop}{n:Nat}{P:Nat->yT->Prop}{St:Nat->yQ->Prop}{bt:Bool}
theorem sA(C:A.in1.units<vN)(W:WalksS prog w A.in1 I fp wr G n P St)(S:yR)(B:S∉fp)(val:Nat->yA)(m:Nat->yR)(l:∀i v,P i v->v=.ref (m i))(y:yR->Prop)(u:∀i,i<n->(m i≠S/\m i∉wr)/\y (m i))(j:n<=300):
  ∀(k i:Nat) (s:yQ),n - i=k->i<=n->St i s->(∀i,i<n->isT prog w s.heap (val i) (m i))->WV prog w bt (λb=>(b≠S/\b∉wr)/\y b) s.heap S (U4 val i)->(∀s',Moved (S::wr) G s s'->WV prog w bt (λb=>(b≠S/\b∉wr)/\y b) s'.heap S (U4 val n)->R (.ok (.ret .none)) s') ->
   wJ (yW prog w) A (.builtin "set.update.loop" ⟨[.ref S,.ref I],[]⟩) R s:=by
 have z:=λh=>B (W.sub _ h);have sub:∀b∈wr,b∈S::wr:=λb j=>qC5 _ j;intro k
 induction k with
 |zero =>
  intro i s hk c st D x t;have e:i=n:=by lia
  subst e;refine vH wX ?_;refine yO (W.done s _ _ st λs' f=>?_);exact yP (t s' (f.mono sub) (x.at λb o q g=>f.heap b o (q.elim (λe=>e▸z) (·.1.2)) g))
 |succ k E =>
  intro i s hk c st D x t;have a:i<n:=by lia
  refine vH wX ?_;refine yO (W.item i s _ _ a st λv s' H p f=>?_);have M:=l i v H;subst M;have J:=x.at λb o q g=>f.heap b o (q.elim (λe=>e▸z) (·.1.2)) g;have d:=λi c=>(D i c).keep λo g=>f.heap _ o (u i c).1.2 g;refine yO (jP ?_);refine jP (yO (wpAny_pyHash_tuple C (d i a) ?_));refine KZ C J (d i a) (u i a) (by have:=Fs val i;lia) λb K sb N=>?_;refine yP ⟨lK PyProof.Rows.F.plain_set_update_loop _,E (i+1) _ (by lia) a (W.frame _ s' _ _ p (qK6 _ _) λb j o e=>?_) (λi c=>(d i c).keep λo e=>?_) N λL r F=>?_⟩
  .rw[sb.2 b (λh:b=S=>B (by rw[<- h];exact j))];exact e
  .show K.get? _=_;rw[sb.2 _ (u i c).1.1];exact e
  .refine t L (Moved.trans W.gtrans ((f.mono sub).then_heap (qK6 _ _) λb o j e=>?_) r) F;rw[sb.2 b (λh:b=S=>j (by rw[h];exact qE2))];exact e
end
theorem WV.weak(S:WV prog w bt L h a ks)(k:∀b,L b->c b):WV prog w bt c h a ks:=by obtain⟨o,n,i,t,l,g,x,d,e,m,T,X,p,f⟩:=S;exact⟨o,n,i,t,l,g,x,d,e,m,T,X,p,λx j=>k _ (f x j)⟩
section
variable {prog:yZ}{w:jJ}{A:jI}{E:yL}{s:yQ}
theorem sy{items:yJ}{a:List (yR×yA)}(X:A.units+8<vN)(J:A.handled=Z8)(hs:s0.heap.get? S=Z9 (TL w))(r:l≠S)(n:s0.heap.IsList l items)(hi:items.toList=a.map λt=>Value.ref t.1)(ht:∀t∈a,isT prog w s0.heap t.2 t.1)(F:items.size<=300){Q:yL}
  (h:∀(h':jL) (tk:Nat),WV prog w (V6 w) (λb=>∃t∈a,t.1=b) h' S (U4 (λi=>(a.getD i (0,[])).2) items.size)->(∀b o,b≠S->s0.heap.get? b=Z9 o->h'.get? b=Z9 o)->Q .none { s0 with heap:=h',toks:=tk }) :
  wJ (yW prog w) A (.call (.builtin "set.__init__") ⟨[.ref S,.ref l],[]⟩) (wants Q E) s0:=by
 have ty:s0.TypeIs (.ref S) "set":=⟨_,hs,rfl⟩
 refine codeAny_call_builtin PySem.F.called_set.init.plain PySem.F.entry_set_init (PySem.check_set_init_1 ty ?_);have C:S<s0.heap.objs.size:=qB3 hs;obtain⟨u,g,d,M,U⟩:=s0;obtain⟨N,x,j,T,f⟩:=id n;obtain⟨I,B,p,k⟩:=N;simp only at j f;subst j f;have P:=PySem.F.sub_list_set;have R:=PySem.F.sub_list_frozenset;have V:(Value.type "list" == Value.type "dict")=Z5:=by decide
 unfold Builtin.«set.__init__» noKeywords Builtin.Frozenset.updateFrom;generalize hPI:mZ=PI;unfold TL at hs
 wp_walk
 subst hPI;refine vF n ?_;refine yO (dH ?_);have y:l<u.objs.size:=qB3 x;have W:a.length=items.size:=by rw[<- yV,hi,qA0]
 have G:∀i,i<items.size->a[i]?=Z9 (a.getD i (0,[])):=λi h=>by rw[qA3 (by lia)];simp[qF4,show i<a.length by lia]
 have D:∀i,i<items.size->isT prog w u (a.getD i (0,[])).2 (a.getD i (0,[])).1:=λi h=>ht _ (qC2 (G i h));refine sA (bt:=V6 w) (by simp;lia) ((Walks.list (by simp[J]) _ l (qB7 y) items).toS) S ?_ (λi=>(a.getD i (0,[])).2) (λi=>(a.getD i (0,[])).1) (λi v K=>?_) (λb=>∃t∈a,t.1=b) (λi c=>⟨⟨(D i c).ne hs rfl,λm=>?_⟩,_,qC2 (G i c),rfl⟩) F (items.size - 0) 0 _ rfl (qC6 _)
  ⟨⟨_,qA9 _ rfl,rfl,rfl⟩,n.push _⟩ (λi c=>(D i c).keep λo e=>qA1 _ e) ⟨_,#[],0,_,[],qA1 _ hs,⟨rfl,rfl,rfl⟩,rfl,TOk.fresh _,rfl,VG.fresh _,⟨rfl,λ_ z=>by cases z⟩,.nil,λ_ z=>by cases z⟩ λO m L=>?_
 rotate_left
 .have:items.toList[i]?=Z9 v:=by rw[jA];exact K
  rw[hi,qB1]at this;cases q:a[i]? with
  |none=>rw[q]at this;cases this
  |some t=>rw[q]at this;cases this;simp[qF4,q]
 .have e:(a.getD i (0,[])).1=u.objs.size:=by simpa using m
  obtain⟨o,_,_,H,_⟩:=D i c;rw[e]at H;exact absurd (qB3 H) (qH3 _)
 rotate_left
 .simp only[qB0,qB2,qF0,or_false,not_or];exact⟨qB7 C,λe=>r e.symm⟩
 .rw[Moved.eq_with m];refine yP ?_;refine yP (h _ _ (L.weak λ_ h=>h.2) λb o F e=>?_);refine m.heap b o (λq=>?_) (qA1 _ e);rcases qB0.mp q with q|q
  .exact F q
  .rw[qB2.mp q]at e;exact absurd (qB3 e) (qH3 _)
theorem sx{items:yJ}{d:List (yR×yA)}{Q:yL}(L:A.units+16<vN)(B:A.handled=Z8)(p:s.heap.IsList l items)(hi:items.toList=d.map λt=>Value.ref t.1)(ht:∀t∈d,isT prog w s.heap t.2 t.1)(G:items.size<=300)
  (h:∀(h':jL) (tk:Nat),WV prog w (V6 w) (λb=>∃t∈d,t.1=b) h' s.heap.objs.size (U4 (λi=>(d.getD i (0,[])).2) items.size)->(∀b o,s.heap.get? b=Z9 o->h'.get? b=Z9 o)->Q (.ref s.heap.objs.size) { s with heap:=h',toks:=tk }) :
  jC (yW prog w) A (call (.type "set") [.ref l]) Q E s:=by
 obtain⟨c,K,x⟩:=PySem.F.called_set.mro;have j:=PySem.F.called_set.made;have y:=PySem.F.called_set.sub;refine wpAny_call (codeAny_of_tree ?_);show jC _ _ (callAny (.type "set") _) _ _ _;refine yP ⟨Code.quiet_builtin _ (by decide),vH PySem.F.entry_type_call ?_⟩;rw[Around.under_plain (weight_type_call_type "set" [.ref l] []) rfl];have H:=PySem.F.called_set.notType;have I:=PySem.F.called_set.canCreate;have J:=PySem.F.typeCall_set_1 (.ref l)
 repeat (any_goals (first|assumption|wp_step))
 refine fJ (va (w:=w) (.ref l) (E:=E) (Q:=λobj q=>obj=.ref s.heap.objs.size/\q={ s with heap:=s.heap.push (TL w) }) ⟨rfl,rfl⟩) λr q m=>?_;cases r with
 |error e=>exact m
 |ok z =>
  cases z with
  |ret obj =>
   obtain⟨rfl,rfl⟩:=m;have v:(s.heap.push (TL w)).get? s.heap.objs.size=Z9 (TL w):=qA9 _ rfl;have M:Shared.TypeIs { s with heap:=s.heap.push (TL w) } (.ref s.heap.objs.size) "set":=⟨_,v,rfl⟩
   have F:=PySem.F.called_set.init.lookup;have D:=PySem.F.called_set.init.bind (.ref s.heap.objs.size)
   repeat (any_goals (first|assumption|wp_step))
   have k:l<s.heap.objs.size:=by obtain⟨o,g,_⟩:=id p;exact qB3 g
   refine fJ (sy (E:=E) (w:=w) (s0:={ s with heap:=s.heap.push (TL w) }) (Q:=λr u=>r=.none/\∃h' tk,u={ s with heap:=h',toks:=tk }/\WV prog w (V6 w) (λb=>∃t∈d,t.1=b) h' s.heap.objs.size (U4 (λi=>(d.getD i (0,[])).2) items.size)/\∀b o,s.heap.get? b=Z9 o->h'.get? b=Z9 o) (by simp;lia) (by simp[B]) v (qB7 k) (p.push _) hi (λt h=>(ht t h).keep λo e=>qA1 _ e) G λh' tk f kp =>
    ⟨rfl,h',tk,rfl,f,λb o e=>kp b o (qB7 (qB3 e)) (qA1 _ e)⟩) λC u a=>?_
   cases C with
   |error e=>exact a
   |ok n =>
    cases n with
    |ret r =>
     obtain⟨rfl,h',tk,rfl,f,kp⟩:=a
     repeat (any_goals (first|assumption|wp_step))
     exact h _ _ f kp
    |_=>exact a.elim
  |_=>exact m.elim
end
section
variable {prog:yZ}{w:jJ}{A:jI}{E:yL}{s:yQ}{S:yR}{zs:List (yA)}{Lp:yR->Prop}
theorem isT.unpush(x:isT prog w (h.push o) k b)(d:o.cls=.type "list")(f:o.isFreed=Z5:=by rfl):isT prog w h k b:=by
 obtain⟨i,a,n,g,c,r⟩:=x;have:b≠h.objs.size:=λe=>by subst e;rw[qA9 _ f]at g;cases g;rw[d]at c;exact absurd c (by decide)
 exact⟨i,a,n,by rw[<- qL1 _ _ _ this];exact g,c,r⟩
theorem sv(hS:WV prog w (V6 w) Lp s.heap S zs)(hh:A.handled=Z8)(L:yR)(N:L≠S)(m:yT)(P:s.heap.get? L=Z9 { cls:=.type "list",data:=.seq #[] })
  (hR:∀h' tk dr acc c,(∀b o,b≠L->s.heap.get? b=Z9 o->h'.get? b=Z9 o)->h'.get? L=Z9 { cls:=.type "list",dict:=Z8,data:=.seq acc c,slots:=#[] }->(∃a:List (yR×yA),acc.toList=a.map (λt=>Value.ref t.1)/\(a.map (·.2)).Perm zs/\∀t∈a,Lp t.1/\isT prog w s.heap t.2 t.1)->R (.ok (.ret m)) { s with heap:=h',toks:=tk,drawn:=dr }) :
  jC (yW prog w) A.in1 (Builtin.List.listExtendWith (.ref L) (.ref S) m)
   (λfin s'=>match fin with|.done f=>R (.ok f) s'|.again y=>y.quiet=Z7/\wJ (yW prog w) A y R s') (λe s'=>R (.error e) s') s:=by
 obtain⟨o,H,ep,t,xs,g,x,d,k,pl,T,X,p,Y⟩:=hS;have f:=T.fits;have b:H.size<scanBound:=by have:=T.few;rcases T.m with e|e|e|e<;>rw[e]at this<;>(show _<4096)<;>lia
 refine yO (j9 ⟨o,g,x.1⟩ ?_);have h1:Builtin.List.listSameRef (.ref L) (.ref S)=Z5:=by simp[Builtin.List.listSameRef,N]
 have h2:(Value.type "set" == Value.type "list")=Z5:=by decide
 have h3:(Value.type "set" == Value.type "tuple")=Z5:=by decide
 simp only[h1];refine yO (uk g x d f k b λI h' dr kp W=>?_);have gS:=kp _ _ g;refine yO (jP (uj ⟨o,gS,x.1⟩ ?_));obtain⟨fp,St,vals,pv,W,st,hf,hi⟩:=W A.in1 hh;have lL:=qB3 P;have Q:L∉fp:=λB=>by
  rcases hf L B with z|z
  .exact N z
  .exact absurd lL (Nat.not_lt.mpr z)
 have fin:∀acc,ItemsOf (λi v=>vals[i]?=Z9 v) acc H.size->∃a:List (yR×yA),acc.toList=a.map (λt=>Value.ref t.1)/\(a.map (·.2)).Perm zs/\∀t∈a,Lp t.1/\isT prog w s.heap t.2 t.1:=λacc O=>by
  have el:acc.toList=vals:=by refine qU3 (by rw[yV,O.1,pv.length_eq,qA0,yV]) λj Z V=>?_;have M:vals[j]?=Z9 acc.toList[j]:=O.2 j acc.toList[j] (by rw[<- jA];exact qA3 Z);rw[qA3 V]at M;exact(Option.some.inj M).symm
  rw[el];obtain⟨D,J,U⟩:=K0 (f:=λx:yA×yR=>Value.ref x.2) pv xs (by rw[X.e,qC8];rfl);refine⟨D.map λx=>(x.2,x.1),by rw[U,qC8];rfl,?_,λt ht=>?_⟩
  .rw[qC8];exact(J.map Prod.fst).trans p
  .obtain⟨x,K,rfl⟩:=qC4.mp ht;exact⟨Y x (J.mem_iff.mp K),X.t x (J.mem_iff.mp K)⟩
 have C:∀h (c tk),St 0 h->(∀b o,b≠L->s.heap.get? b=Z9 o->h.get? b=Z9 o)->h.get? L=Z9 { cls:=.type "list",data:=.seq #[] c } ->
   wJ (yW prog w) A (.builtin "list.extend.loop" ⟨[.ref L,.ref I,m],[]⟩) R { s with heap:=h,toks:=tk,drawn:=dr }:=by
  intro h c tk F hk q;refine codeAny_extend_loopS W.toS (fits_of_scanBound b) L Q m H.size 0 _ #[] c rfl (qC6 _) F q (ItemsOf.nil _) λs' acc y B n u=>?_;rw[Moved.eq_with B];refine hR s'.heap s'.toks dr acc y (λb o r e=>B.heap b o (λl=>?_) (hk b o r e)) n (fin acc u);rcases qB0.mp l with e'|l
  .exact r e'
  .exact absurd (qB3 e) (by rw[qB2.mp l];exact Nat.not_lt.mpr hi)
 have q:=kp _ _ P;refine yO (vR (yO ?_));refine yO (wpAny_updateSeq q rfl ?_);have n:=qG2 (vI (·.push Value.none)) q rfl;refine wpAny_updateSeq n rfl ?_;have G:=qG2 (vI (·.pop)) n rfl;refine yP ⟨lK PySem.F.plain_extend_loop _,C _ _ _ ?_ (λb o r e=>?_) G⟩
 .refine W.frame 0 _ _ st λb r o e=>?_;have ne:b≠L:=λh=>Q (h▸r);exact(qF2 _ _ (Ne.symm ne)).trans ((qF2 _ _ (Ne.symm ne)).trans e)
 .exact(qF2 _ _ (Ne.symm r)).trans ((qF2 _ _ (Ne.symm r)).trans (kp b o e))
theorem su{R:yB->yQ->Prop}(l:WV prog w (V6 w) Lp s.heap S zs)(m:A.handled=Z8)
  (h:∀(h':jL) tk dr (acc:yJ),(∀b o,s.heap.get? b=Z9 o->h'.get? b=Z9 o)->(∃d:List (yR×yA),acc.toList=d.map (λt=>Value.ref t.1)/\(d.map (·.2)).Perm zs/\∀t∈d,Lp t.1/\isT prog w s.heap t.2 t.1)->R acc.toList { s with heap:=h',toks:=tk,drawn:=dr }) :
  jC (yW prog w) A (uQ (.ref S)) R E s:=by
 have lt:S<s.heap.objs.size:=by obtain⟨o,_,_,_,_,g,_⟩:=id l;exact qB3 g
 refine yO (dH (vH dI ?_));refine yO (jS ?_);refine yP ⟨lK PySem.F.plain_list_iadd _,vH entry_list_iadd' ?_⟩;have n:(s.heap.push { cls:=.type "list",data:=.seq ([]).toArray }).get? s.heap.objs.size=Z9 { cls:=.type "list",data:=.seq #[] }:=qA9 _ rfl;have j:=sv (s:={ s with heap:=s.heap.push { cls:=.type "list",data:=.seq ([]).toArray } })
  (R:=λq k=>∃(h':jL) (tk:Nat) (dr:mX) (acc:yJ) (c:Nat),q=.ok (.ret (.ref s.heap.objs.size))/\k={ s with heap:=h',toks:=tk,drawn:=dr } /\
   (∀b o,s.heap.get? b=Z9 o->h'.get? b=Z9 o)/\h'.get? s.heap.objs.size=Z9 { cls:=.type "list",dict:=Z8,data:=.seq acc c,slots:=#[] }/\∃d:List (yR×yA),acc.toList=d.map (λt=>Value.ref t.1)/\(d.map (·.2)).Perm zs/\∀t∈d,Lp t.1/\isT prog w s.heap t.2 t.1)
  (l.at λb o _ e=>qA1 _ e) m s.heap.objs.size (qK1 lt) (.ref s.heap.objs.size) n
  (λh' tk dr acc c hk i a=>⟨h',tk,dr,acc,c,rfl,rfl,λb o e=>hk b o (qB7 (qB3 e)) (qA1 _ e),i,a.imp λd q=>⟨q.1,q.2.1,λt ht=>⟨(q.2.2 t ht).1,(q.2.2 t ht).2.unpush rfl⟩⟩⟩)
 refine jY j (λfin k x=>?_) λe k x=>?_
 .cases fin with
  |done f =>
   obtain⟨h',tk,dr,acc,c,e,rfl,hk,i,a⟩:=x;cases e;refine yO (lX i ?_);exact yP (h h' tk dr acc hk a)
  |again r =>
   refine⟨x.1,fJ x.2 λq u y=>?_⟩;obtain⟨h',tk,dr,acc,c,rfl,rfl,hk,i,a⟩:=y;refine yO (lX i ?_);exact yP (h h' tk dr acc hk a)
 .obtain⟨_,_,_,_,_,p,_⟩:=x;cases p
end
def XI(l:List (yA)):List (yA):=l.foldl Yk []
theorem Fq(l:List (yA))(val:Nat->yA)(b:∀i k,l[i]?=Z9 k->val i=k):∀i,i<=l.length->U4 val i=XI (l.take i)
 |0,_=>by simp[U4,XI]
 |i+1,h=>by have a:=h;show Yk (U4 _ i) _=_;rw[Fq l val b i (by lia),qN1 a,XI,XI,List.foldl_append,b i _ (qA3 a)];rfl
theorem KY:∀(l z:List (yA)),(l.foldl Yk z).length<=z.length+l.length
 |[],z=>qA6 _
 |a::l,z=>by
  refine qD0 (KY l _) ?_;have:(Yk z a).length<=z.length+1:=by unfold Yk;split<;>simp
  simp;lia
theorem sk{ks:yA}{a:yB}(h:ItemsAre (vQ prog w) ks a):vO a ks:=by
 induction h with
 |nil=>exact .nil
 |cons hk _ b =>
  obtain⟨t,rfl⟩:=Value.isInt_shape hk;exact .cons _ _ b
theorem sj{a:yA}{vs:yB}(h:vO vs a):ItemsAre (vQ prog w) a vs:=by
 induction h with
 |nil=>exact .nil
 |cons i t _ b=>exact .cons (intKind_is _ _ _ _) b
section
variable {prog:yZ}{w:jJ}{A:jI}{E:yL}{s:yQ}{r:yR}
theorem isT.tupI(x:isT prog w h k b):X8 h (.ref b) k:=by obtain⟨o,a,n,g,c,d,i⟩:=x;exact⟨b,a,rfl,⟨o,g,c,n,d⟩,sk i⟩
theorem sf{Q:yL}(P:yR×yA->Prop)(n:nss.length<=jF)(I:U7 nss.length)(J:A.units+2<vN)
  (G:∀(A:jI) (E:yL) (R:yB->yQ->Prop),A.handled=Z8->(∀(h':jL) (tk:Nat) (dr:mX) (c:List (yR×yA)),(∀b o,s.heap.get? b=Z9 o->h'.get? b=Z9 o)->(c.map (·.2)).Perm nss->(∀t∈c,P t/\isT prog w s.heap t.2 t.1)->R (c.map λt=>.ref t.1) { s with heap:=h',toks:=tk,drawn:=dr })->jC (yW prog w) A (uQ (.ref r)) R E s)
  (C:A.handled=Z8)
  (h:∀(j:jL) (l:yR) (h':jL) (tk:Nat) (dr:mX) (e:Nat) (a:List (yR×yA)),(∀b o,s.heap.get? b=Z9 o->j.get? b=Z9 o)->(∀b o,j.get? b=Z9 o->h'.get? b=Z9 o)->j.objs.size<=l->h'.get? l=Z9 (j6 "list" (a.map λt=>Value.ref t.1).toArray e)->(a.map (·.2)).Perm nss->(∀t∈a,P t)->VH a->Q (.ref l) { s with heap:=h',toks:=tk,drawn:=dr }) :
  jC (yW prog w) A (call (.builtin "sorted") [.ref r]) Q E s:=by
 refine wF dG mG mH (mI _) ?_;refine yO (yP ?_);refine yO (G _ _ _ C λh' tk dr c hk p q=>?_);have d:(c.map λt=>Value.ref t.1).length=nss.length:=by rw[qA0,<- p.length_eq,qA0]
 refine yO (wO ?_ (by rw[d];exact n));have f:(h'.push (j6 "list" (c.map λt=>Value.ref t.1).toArray 0)).get? h'.objs.size=Z9 (j6 "list" (c.map λt=>Value.ref t.1).toArray 0):=qA9 _ rfl;show jC _ _ _ _ _ { s with heap:=h'.push (j6 "list" (c.map λt=>Value.ref t.1).toArray 0),toks:=tk,drawn:=dr };have k:∀t∈c,X8 (h'.push (j6 "list" (c.map λt=>Value.ref t.1).toArray 0)) (.ref t.1) t.2:=λt ht=>((q t ht).2.tupI).mono λb o _ g=>qA1 _ (hk b o g);refine yO (jP (jK gO ⟨_,f,rfl⟩ gA (FK f (λv F=>?_) (by rw[d];exact n) (by exact I) (by omega) λout z u=>⟨_,rfl,?_⟩) (gP _)))
 .obtain⟨t,ht,rfl⟩:=qC4.mp F;exact⟨t.2,k t ht⟩
 obtain⟨a,i,rfl⟩:=FJ _ z c rfl;obtain⟨e,D⟩:=lM f;refine yP ⟨_,rfl,h h' h'.objs.size _ tk dr e a hk (λb o g=>?_) (qA6 _) D ((i.map (·.2)).trans p) (λt ht=>(q t (i.mem_iff.mp ht)).1) ?_⟩
 .have lt:=qB3 g;rw[gQ (qB7 lt) (by rw[gR];exact qF1 lt)];exact qA1 _ g
 .rw[qH7]at u;refine u.imp_of_mem λ{x y} B H m=>?_;rwa[(k x (i.mem_iff.mp B)).kd,(k y (i.mem_iff.mp H)).kd]at m
end
section
variable {X:Cx}{a:jH}{ta:TA}{p p2 pos pos2:Pos}
theorem rZ{Z:St}{a:yR}(I:ZP X b Z H s)(h:Zn X.K H a (f.map V.int)):isT X.prog X.w s.heap f a:=by obtain⟨e,r,⟨o,g,c,n,d⟩,_⟩:=I.tuple h;exact⟨o,e.toArray,n,g,c,d,by simpa using sj (SN r)⟩
def Fp(K:yS)(f:TA):TE:=fun Z H Q=>f Z H λe c=>∃(l:yR) (d:List (yR×yA)),e=[.ref l]/\YQ K c l (d.map λt=>V.ref t.1)/\(∀t∈d,c t.1=Z9 (.tup (t.2.map V.int)))/\d.length<=300/\∀(q:yR) (b:List (yR×yA)),c q=Z8->(∀t∈b,c t.1=Z9 (.tup (t.2.map V.int)))->(b.map (·.2)).Perm (XI (d.map (·.2)))->VH b->Q (.ref q) (ZD c q (.lst (b.map λt=>V.ref t.1)))
theorem rY(G:X.calm=Z7)(hu:X.A.units+64<vN)(hg:Gl X "sorted")(hm:X.mg "sorted"=Z8)(r:Gl X "set")(v:X.mg "set"=Z8)(ha:PA X [a] ta)(hs:jO [a] X.env=[(Z5,wE a X.env)]:=by rfl):
  PE X (.Call (.Name "sorted" p) [.Call (.Name "set" p2) [a] [] pos2] [] pos) (Fp X.K ta):=by
 intro j s Z H Q I h;refine fE (Uz I hg hm PyProof.Rows.boot_sorted ?_);refine fQ ?_ rfl rfl;refine Calls.spliced_cons (Call_ (Uz I r v PyProof.Rows.boot_set (j8 (Zq (ha pos2 j s Z H _ I h) λus s1 ⟨vs,H1,g,W,q1⟩=>?_) (by rw[hs];rfl) rfl)));obtain⟨l,c,rfl,hq,ht,P,q⟩:=q1;obtain⟨u,rfl,V⟩:=XA W;cases V;obtain⟨T,rv,U,hz⟩:=g.list hq;have ei:=Le rv;subst ei;have J:=λt h=>rZ g (Zn.of (ht t h));have hb:(c.map λt=>Value.ref t.1).toArray.size<=300:=by rw[qB5,qA0];exact P
 refine sx (by lia) (g.ok.hd G) U.isList (by simp) J hb λh1 z C kp=>Calls.spliced_nil ?_;have es:U4 (λi=>(c.getD i (0,[])).2) (c.map λt=>Value.ref t.1).toArray.size=XI (c.map (·.2)):=by
  rw[qB5,qA0,Fq (c.map (·.2)) _ (λi k h=>by
   rw[qB1]at h;cases q:c[i]? with
   |none=>rw[q]at h;cases h
   | some t=>rw[q]at h;cases h;simp[qF4,q]) _ (by rw[qA0];exact qA6 _),<- qA0,qK5]
 rw[es]at C;have F:(XI (c.map (·.2))).length<=300:=by
  have:=KY (c.map (·.2)) [];unfold XI;simp at this
  lia
 refine sf (nss:=XI (c.map (·.2))) (λt=>t∈c) (by rw[vK];lia) (by first|exact trivial|exact qI0 F (by decide)) (by lia) (λA E R hA S=>su C hA λn z dr acc k2 ⟨w,e,m,x⟩=>?_) (g.ok.hd G) λh2 N h3 d dr e f k2 Y y L m O M=>?_
 .rw[e];refine S n z dr w k2 m λt h=>⟨?_,(x t h).2⟩
  obtain⟨⟨t',n,K⟩,i2⟩:=x t h;have B:=(J t' n).keep λo e=>kp _ o e;rw[K]at B;have:=(lP (vQ X.prog X.w)).inj B i2;have:=Prod.ext K.symm this.symm;rw[this];exact n
 .have D:=(g.kept (t':=d) λb o e=>k2 b o (kp b o e)).dr dr;refine⟨.ref N,_,D.laid (t':=d) Y y ?_,rfl,q _ _ (D.hok.fresh y) (λt h=>ht t (O t h)) m M⟩;have hl:f.length<=300:=by rw[<- qA0,m.length_eq];exact F
  exact⟨by rw[qA0,vK];lia,_,e,N3 f,by simpa using L⟩
end
def Uj(a:yR)(o:Obj):It :=
 ⟨λi H=>∃b,H a=Z9 (.frz o (.dK b))/\i<b.length,λi H x c=>c=H/\∀b,H a=Z9 (.frz o (.dK b))->∃p,b[i]?=Z9 p/\x=kV p.1,λi H=>∃b,H a=Z9 (.frz o (.dK b))/\b.length<=i⟩
theorem rX{prog:yZ}{w:jJ}:∀{es:List wN}{a:List (ZI×yT)},Pairs (Ys prog w) es a->∀{i:Nat}{q:ZI×yT},a[i]?=Z9 q->∃e,es[i]?=Z9 e/\(Ys prog w).is q.1 e.key=Z7:=by
 intro es a h
 induction h with
 |nil=>intro i q e;simp at e
 |cons c d _ b =>
  intro i q e;cases i with
  |zero=>simp at e;subst e;exact⟨_,rfl,c⟩
  |succ i=>exact b (by simpa using e)
theorem rW:∀{es:List wN}{a:List (ZI×yT)},Pairs (Ys prog w) es a->es.length=a.length:=by
 intro es a h
 induction h with
 |nil=>rfl
 |cons _ _ _ b=>simp[b]
inductive rV(X:Cx)(H:Hp)(h:jL)(a:yR)(o:Obj)(kvs:List (ZI×V)):Prop
 |mk (es:Array wN) (ep:Nat) (vs:List (ZI×yT)) (g:h.get? a=Z9 o) (c:o.cls=.type "dict") (d:o.data=.dict es ep) (r:KV kvs vs) (p:Pairs (Ys X.prog X.w) es.toList vs) (lo:(a == vV)=Z5) (z:kvs.length<=jF)
theorem KW{Z:St}(I:ZP X b Z H s)(e:H a=Z9 (.frz o (.dK kvs))):rV X H s.heap a o kvs:=by
 obtain⟨g,z,l,i,r,p,k,f,c,h,d,m,j,n⟩:=(I.hok a _ e)
 rw[g]at c;cases c;exact⟨k,f,i,g,h.1,d,r,j,l,z⟩
theorem rT(h:UQ k v=Z7):ZH (kV k) v:=by
 rcases UP h with⟨i,t,rfl,rfl⟩| ⟨x,t,rfl,rfl⟩
 .exact⟨t,rfl⟩
 .exact⟨t,rfl⟩
theorem rS{P:yZ}{w:jJ}{K:yS}{tg:jH}(a l:yR)(o:Obj)(es:Array wN)(ep:Nat)(u:o.data=.dict es ep):Xb P w K tg (Uj a o) [l] l (λi h=>h.IsKeyIter l a i es.size ep) where
 mem:=by simp
 obj:=λi h st b j=>by
  have e:=by simpa using j
  subst e;obtain⟨o,e,c,d⟩:=st;exact⟨o,e,λv z=>by rw[d]at z;cases z⟩
 keep:=λi h V st k=>st.at λo e=>k l (by simp) o e
 item:=by
  intro X T S Y W i t s Z H E I x st R;obtain⟨D,y,L⟩:=R;obtain⟨F,A,J,g,c,d,r,p,lo,z⟩:=KW I y;rw[u]at d;cases d;obtain⟨M,Q,f2,G,O,N⟩:=x l (by simp);have C:i<J.length:=by rw[<- Paired.length r];exact L
  obtain⟨q,n⟩:∃q,J[i]?=Z9 q:=⟨_,qA3 C⟩
  obtain⟨e,he,hk⟩:=rX p n;have f:es[i]?=Z9 e:=by rw[<- jA];exact he
  refine Gq st ⟨o,g,c,u⟩ f λV m sb=>?_;have I1:=I.turned (t':=s.toks) (λb o j e=>(sb.2 b j).trans e) M Q G O N;obtain⟨oi,ei,ci,di⟩:=id m;refine⟨_,rfl,OF ei ci di (by decide) ⟨kV q.1,H,I1,rT hk,⟨rfl,λkvs' U=>?_⟩,m,λb j=>(x b j).1⟩⟩;rw[y]at U;cases U;obtain⟨p',B,hr⟩:=Oi r n;exact⟨p',B,by rw[hr.1]⟩
 done:=by
  intro X T S Y W i t s Z H E I x st R;subst T S Y;obtain⟨D,y,L⟩:=R;obtain⟨F,A,J,g,c,d,r,p,lo,z⟩:=KW I y;rw[u]at d;cases d;obtain⟨M,Q,f2,G,O,N⟩:=x l (by simp);have f:es[i]?=Z8:=by rw[<- jA,qG3];rw[rW p,<- Paired.length r];exact L
  exact QD (I.ok.hd W) st ⟨o,g,c,u⟩ f λV eb=>⟨rfl,I.turned (t':=s.toks) (λb o j e=>eb b o j e) M Q G O N⟩
 self:=λ_ _ _ _ _ st h=>dJ st h
theorem ZP.freeze{Z:St}(I:ZP X c Z H s)(e:H a=Z9 (.dK kvs)):∃o,ZP X c Z (ZD H a (.frz o (.dK kvs))) s:=by
 obtain⟨z,t,l,r,o,p,i,d,j,h,k,m,n⟩:=(I.hok a _ e)
 refine⟨o,?_⟩;have g:RW (H a):=by rw[e];trivial
 have f:XY X.prog X.w (ZD H a (.frz o (.dK kvs))) s.heap:=I.hok.write g (.inl rfl) (λb u _ q=>q) ⟨o,d⟩ ⟨d,z,t,l,r,o,p,i,d,j,h,k,m,n⟩;exact I.un (t':=s.toks) (Un.write g (.inl rfl) (λb u _ q=>q) ⟨o,d⟩) f
section
variable {X:Cx}{tg e:jH}
theorem rR{Z:St}(l:ZP X f Z i s1)(q:∃kvs,((i a=Z9 (.dK kvs)/\∀o,R (Uj a o) (ZD i a (.frz o (.dK kvs))))∨∃o,i a=Z9 (.frz o (.dK kvs))/\R (Uj a o) i)):jC (yW X.prog X.w) X.A (mZ (.ref a)) (OG X f Z tg R) X.xe s1:=by
 obtain⟨kvs,q⟩:=q;have m:∀{j:Hp}{o:Obj},ZP X f Z j s1->j a=Z9 (.frz o (.dK kvs))->R (Uj a o) j->jC (yW X.prog X.w) X.A (mZ (.ref a)) (OG X f Z tg R) X.xe s1:=by
  intro j o h k q;obtain⟨s,n,v,g,c,d,r,p,t,z⟩:=KW h k;refine Gp t ⟨o,g,c,d⟩ ?_;refine⟨s1.heap.objs.size,[s1.heap.objs.size],_,_,j,rfl,h.kept (t':=s1.toks) λb o e=>qA1 _ e,rS a _ o s n d,⟨_,qA9 _ rfl,rfl,rfl⟩,λb u=>?_,q⟩;have e:=by simpa using u
  subst e;exact h.fpOk (qA6 _) (h.hok.fresh (qA6 _))
 rcases q with⟨k,q⟩| ⟨o,k,q⟩
 .obtain⟨o,h⟩:=l.freeze k;exact m h Xt (q o)
 .exact m l k q
end
section
variable {X:Cx}
theorem rQ:RO X "dict.update" (λx c H Q=>∃a b kvs more,x=.ref a/\c=[.ref b]/\a≠b/\H a=Z9 (.dK kvs)/\Rd H b (.dK more)/\kvs.length+more.length<=jF/\Q .non (ZD H a (.dK (VR kvs more)))):=by
 intro k s Z H x c v A Q I w t h;obtain⟨a,b,kvs,more,rfl,rfl,d,j,z,i,q⟩:=h;cases w;obtain⟨u,rfl,o⟩:=XA t;cases o;obtain⟨C,RH,c,g,f⟩:=SL I.hok j;obtain⟨D,Qx,y,l,n⟩:=TR I.hok z;refine call_meetsIn lO f.typeIs PySem.F.entry_dict_update (PySem.F.args_dict_update_2 _ _) (meets_dict_update (Ys X.prog X.w) a b d Qx) ⟨c,y,f,n,by rw[<- Paired.length g,<- Paired.length l];exact i,λr e B sb=>?_⟩;have m:=qD0 (Ou more kvs) i;have p:∃q,r.get? a=Z9 q:=let ⟨q,_,_,hq,_⟩:=e;⟨q,hq⟩
 exact⟨.non,ZD H a (.dK (VR kvs more)),Oy (t':=s.toks) I (by rw[j];exact True.intro) sb p (Ox m RH (KV.merge l g) e),rfl,q⟩
theorem Fo:YG X (.builtin "len") (λxs H Q=>∃a kvs,xs=[.ref a]/\Rd H a (.dK kvs)/\Q (.int (kvs.length:Int)) H):=by intro b s Z H xs g Q I r h;obtain⟨a,kvs,rfl,e,q⟩:=h;obtain⟨u,rfl,c⟩:=XA r;cases c;exact yd I e λt f d=>⟨.int _,H,d,⟨t,rfl⟩,q⟩
end
section
variable {prog:yZ}{w:jJ}{A:jI}{E:yL}{s:yQ}{z:yR}
theorem rP{Q:yF->yQ->Prop}{xs:yJ}{sl:Array (yF)}(a:s.heap.get? z=Z9 { cls:=.type "list",dict:=Z8,data:=.seq xs n,slots:=sl })(c:A.handled=Z8)(f:∀h' tk,(∀b o,s.heap.get? b=Z9 o->h'.get? b=Z9 o)->Q Z8 { s with heap:=h',toks:=tk }):
  jC (yW prog w) A (getAttr? (.ref z) (Str.ofString "keys")) Q E s:=by
 refine yO (wpAny_mkText ?_);refine yO (vM (jP (yO (j9 ⟨_,a,rfl⟩ ?_))));refine yO (yP ?_);refine yO (yP ?_);refine yO (vM (jP ?_));refine jK F.slot_list_getattribute ⟨_,a,rfl⟩ am_entry_list_getattribute ?_ (F.args_list_getattribute_2 _ _);refine yO (yP ?_);refine yO (yP ?_);refine yO (j9 ⟨_,a,rfl⟩ ?_);refine yO (yO (yP (yO (yP (yO (yP ?_))))));refine yO (yO (yO (lX a ?_)));refine yO (wpAny_loadPart a ?_);refine yP ?_;refine yP ?_;refine yO (yP ?_);refine yO (vR (yP ?_));refine yO (yO (yO (j9 ⟨_,a,rfl⟩ (yP ?_))));refine yP ?_;refine wpAny_raiseAttrError c (λh' tk e ne=>?_) (by size_fits);have ty:∀g d os,Shared.TypeIs { heap:=h',gens:=g,drawn:=d,toks:=tk,os:=os } (.ref e) "AttributeError":=λg d os=>let ⟨_,_,q⟩:=ne.there;⟨_,q,rfl⟩
 refine yO (wA (ty _ _ _) Gu ?_);refine yO (yP ?_);refine yO (wpAny_throw ?_);refine yO (wA (ty _ _ _) Gu ?_);exact yP (f h' tk ne.keeps)
structure VE where
 t:yR
 k:ZI
 key:yT
 v:yT
def VE.at(q:VE)(h:jL):Prop:=∃o n,h.get? q.t=Z9 o/\o.cls=.type "tuple"/\o.data=.seq #[q.key,q.v] n
structure DL(prog:yZ)(w:jJ)(it l d:yR)(items:yJ)(qs:List VE)(h0:jL):Prop where
 n:items.size=qs.length
 e:∀(i:Nat) (q:VE),qs[i]?=Z9 q->items[i]?=Z9 (Value.ref q.t)
 k:∀q∈qs,(Ys prog w).is q.k q.key=Z7
 p:∀q∈qs,q.at h0
 l:h0.IsList l items
 fr:∀c o,h0.get? c=Z9 o->c≠it/\c≠d
 nd:it≠d
abbrev Ui(xs:List (ZI×yT))(b:List VE):List (ZI×yT):=b.foldl (λa q=>uV a q.k q.v) xs
theorem rO(xs:List (ZI×yT))(k:ZI)(v:yT):(uV xs k v).length<=xs.length+1:=by
 unfold uV;split
 .rw[qA0];lia
 .simp
theorem rN{g l d:yR}{items:yJ}{a:List VE}{x:jL}(ZZ:DL prog w g l d items a x)(J:A.handled=Z8){R:uD->yQ->Prop}:∀(m k:Nat) (s:yQ) (xs:List (ZI×yT)),k+m=a.length->xs.length+m<=jF->s.heap.IsListIter g l k->s.heap.DictOf (Ys prog w) d xs->(∀c o,x.get? c=Z9 o->s.heap.get? c=Z9 o) ->
  (∀h' tk,h'.DictOf (Ys prog w) d (Ui xs (a.drop k))->(∀c o,x.get? c=Z9 o->h'.get? c=Z9 o)->R (.ok (.ret .none)) { s with heap:=h',toks:=tk }) ->
  wJ (yW prog w) A (.builtin "dict.update.loop" ⟨[.ref d,.ref g,fI (k:Int),.none],[]⟩) R s:=by
 intro m
 induction m with
 |zero =>
  intro k s xs hk G st dr e f;refine vH Gs ?_;have P:=ZZ.n;refine yO (mP J st (qO4.at ZZ.l λo q=>e _ o q) (by simp;lia) λh' B=>?_);refine yP ?_;have O:a.drop k=[]:=qN0 (by lia);rw[O]at f;refine f h' s.toks ?_ λc o q=>B c o (ZZ.fr c o q).1 (e c o q);obtain⟨o,y,i,u,r⟩:=dr;exact⟨o,y,i,B _ _ (Ne.symm ZZ.nd) u,r⟩
 |succ m I =>
  intro k s xs hk G st dr e f;refine vH Gs ?_;have j:k<a.length:=by lia
  have M:=qA3 j;have F:=qD5 j;refine yO (lY st (qO4.at ZZ.l λo q=>e _ o q) (ZZ.e k _ M) λK t sb=>?_);have D:=λc o q=>(sb.2 c (ZZ.fr c o q).1).trans (e c o q);obtain⟨o,n,u,N,L⟩:=ZZ.p _ F;have b:=D _ _ u;have p:K.DictOf (Ys prog w) d xs:=by obtain⟨o,y,i,q,r⟩:=dr;exact⟨o,y,i,(sb.2 d (Ne.symm ZZ.nd)).trans q,r⟩
  refine yO (jP (yO (wpAny_tryCatch ?_)));refine yO (j9 ⟨_,b,N⟩ ?_);refine yO (vG b L (yP ?_));refine jP (wpAny_dictSet_pairs (ZZ.k _ F) p (λQ H C=>?_) (by lia));refine yP ⟨Gr _,?_⟩;refine I (k+1) _ _ (by lia) (by have:=rO xs a[k].k a[k].v;lia) (t.at λo q=>(C.2 g ZZ.nd).trans q) H (λc o q=>(C.2 c (ZZ.fr c o q).2).trans (D c o q)) λh' v h ex=>f h' v ?_ ex;rw[qF8 j];exact h
theorem rM{items:yJ}{sl:Array (yF)}{Q:yL}(p:A.handled=Z8)(k:s.heap.get? l=Z9 { cls:=.type "list",dict:=Z8,data:=.seq items n,slots:=sl })(v:items.size=a.length)(he:∀(i:Nat) (q:VE),a[i]?=Z9 q->items[i]?=Z9 (Value.ref q.t))(hk:∀q∈a,(Ys prog w).is q.k q.key=Z7)(B:∀q∈a,q.at s.heap)(G:a.length<=jF)
  (y:∀h' tk,h'.DictOf (Ys prog w) s.heap.objs.size (Ui [] a)->(∀c o,s.heap.get? c=Z9 o->h'.get? c=Z9 o)->Q (.ref s.heap.objs.size) { s with heap:=h',toks:=tk }) :
  jC (yW prog w) A (call (.type "dict") [.ref l]) Q E s:=by
 refine callType_codes F.kt_called_dict (F.kt_typeCall_dict_1 _) F.entry_dict_init (kt_code_dict_new (Q₁:=λobj t=>obj=.ref s.heap.objs.size/\t={ s with heap:=s.heap.push { cls:=.type "dict",data:=.dict #[] } }) _ ⟨rfl,rfl⟩) λobj t D=>?_;obtain⟨rfl,rfl⟩:=D;have m:(s.heap.push { cls:=Value.type "dict",data:=Data.dict #[] }).get? s.heap.objs.size=Z9 { cls:=Value.type "dict",data:=Data.dict #[] }:=qA9 _ rfl;have ty:Shared.TypeIs { s with heap:=s.heap.push { cls:=Value.type "dict",data:=Data.dict #[] } } (.ref s.heap.objs.size) "dict":=⟨_,m,rfl⟩
 refine⟨ty,F.args_dict_init_2 _ _,?_⟩;refine yO (yO (mR ty ?_));refine yO (yP (yP ?_));have b:=qA1 { cls:=Value.type "dict",data:=Data.dict #[] } k;refine yO (j9 ⟨_,b,rfl⟩ ?_);refine yO (rP b p λf tk k2=>?_);refine yO (vR ?_);have g:=k2 _ _ b;have I:f.IsList l items:=⟨_,g,rfl,n,rfl⟩
 refine yO (vF I ?_);refine yP ⟨Gr _,?_⟩;have d:∀c o,s.heap.get? c=Z9 o->c<s.heap.objs.size:=λc o e=>qB3 e;have C:=qB3 (k2 _ _ m);have ex:∀c o,s.heap.get? c=Z9 o->(f.push { cls:=.type "list_iterator",data:=.fields #[.ref l,.int 0 0] }).get? c=Z9 o:=λc o q=>qA1 _ (k2 _ _ (qA1 _ q));have x:f.DictOf (Ys prog w) s.heap.objs.size []:=by
  obtain⟨o,H,u,q,r⟩:=(Heap.DictOf.new (knd:=Ys prog w) s.heap)
  exact⟨o,H,u,k2 _ _ q,r⟩
 have ZZ:DL prog w f.objs.size l s.heap.objs.size items a s.heap:=⟨v,he,hk,B,⟨_,k,rfl,n,rfl⟩,λc o e=>⟨by have:=d c o e;simp only[yR]at *;lia,by have:=d c o e;simp only[yR]at *;lia⟩,by simp only[yR]at *;lia⟩
 refine rN (A:=A.in1) ZZ p a.length 0 _ [] (by lia) (by simpa using G) ⟨_,qA9 _ rfl,rfl,rfl⟩ (x.push _) ex λh' h dr j=>⟨rfl,y h' h (by simpa using dr) j⟩
end
section
variable {X:Cx}
theorem Fn:∀(a:List VE) (ps:List (ZI×V)),a.map (·.k)=ps.map (·.1)->(∀(i:Nat) (q:VE) (p:ZI×V),a[i]?=Z9 q->ps[i]?=Z9 p->ZH p.2 q.v)->∀{kvs:List (ZI×V)}{vs:List (ZI×yT)},KV kvs vs->KV (VR kvs ps) (Ui vs a)
 |[],[],_,_,kvs,vs,r=>r
 |[],_::_,h,_,_,_,_=>by cases h
 |_::_,[],h,_,_,_,_=>by cases h
 |q::a,p::ps,h,hr,kvs,vs,r=>by rw[qB8,qB8,qL0.injEq]at h;have:=Fn a ps h.2 (λi q p b c=>hr (i+1) q p (by simpa using b) (by simpa using c)) (r.put q.k (hr 0 q p rfl rfl));show KV (VR (Y2 kvs p.1 p.2) ps) (Ui (uV vs q.k q.v) a);rw[<- h.1];exact this
def KU(H:Hp):List V->List (ZI×V)->Prop:=mW λv (p:ZI×V)=>∃t,v=.ref t/\H t=Z9 (.tup [kV p.1,p.2])
theorem rL{d:yD}{Z:St}{H:Hp}{s:yQ}(I:ZP X d Z H s):∀{xs:List V}{ps:List (ZI×V)}{c:yB},KU H xs ps->ZM xs c->∃a:List VE,c.length=a.length/\(∀(i:Nat) (q:VE),a[i]?=Z9 q->c[i]?=Z9 (Value.ref q.t))/\(∀q∈a,(Ys X.prog X.w).is q.k q.key=Z7)/\(∀q∈a,q.at s.heap)/\a.map (·.k)=ps.map (·.1)/\∀(i:Nat) (q:VE) (p:ZI×V),a[i]?=Z9 q->ps[i]?=Z9 p->ZH p.2 q.v:=by
 intro xs ps c h
 induction h generalizing c with
 |nil=>intro r;cases r;exact⟨[],rfl,λi q e=>(by simp at e),λq h=>(by cases h),λq h=>(by cases h),rfl,λi q p e=>(by simp at e)⟩
 |@cons x p xs ps A _ m =>
  intro r;obtain⟨t,rfl,ht⟩:=A;cases r with
  |@cons _ u _ c D r =>
   cases (D);obtain⟨a,M,l,y,G,w,K⟩:=m r;obtain⟨C,E,⟨o,B,J,n,F⟩,_⟩:=I.tuple (Zn.of ht);obtain⟨k,v,rfl,z,j⟩:=QM E;refine⟨⟨t,p.1,k,v⟩::a,by simp[M],λi q e=>?_,λq b=>?_,λq b=>?_,by simp[w],λi q L f g=>?_⟩
   .cases i with
    |zero=>simp at e;subst e;rfl
    |succ i=>exact l i q (by simpa using e)
   .rcases qB0.mp b with rfl|b
    .exact SM z
    .exact y q b
   .rcases qB0.mp b with rfl|b
    .exact⟨o,n,B,J,F⟩
    .exact G q b
   .cases i with
    |zero=>simp at f g;subst f g;exact j
    |succ i=>exact K i q L (by simpa using f) (by simpa using g)
theorem rK(B:X.calm=Z7):YG X (.type "dict") (λd H Q=>∃(l:yR) (xs:List V) (ps:List (ZI×V)),d=[.ref l]/\H l=Z9 (.lst xs)/\KU H xs ps/\xs.length<=jF/\∀q,H q=Z8->Q (.ref q) (ZD H q (.dK (VR [] ps)))):=by
 intro g s Z H d E Q I r h;obtain⟨l,xs,ps,rfl,o,y,D,q⟩:=h;obtain⟨u,rfl,v⟩:=XA r;cases v;obtain⟨_,t,n,f,_,e⟩:=I.lstM o;obtain⟨j,k,m,p,A,c,C⟩:=rL I y f;have a:j.length<=sizeLine:=by rw[<- k,<- f.length];exact D
 refine rM (I.ok.hd B) e (by simpa using k) (λi q e=>by simpa using m i q e) p A a λF z dr ex=>?_;have x:=Fn j ps c C .nil;have b:=(LM (P:=X.prog) (w:=X.w) (H:=H) s.heap I.big).2.1;refine⟨.ref s.heap.objs.size,ZD H s.heap.objs.size (.dK (VR [] ps)),I.laid (t':=z) ex (qA6 _) (Ox ?_ b x dr),rfl,q _ (I.hok.fresh (qA6 _))⟩;refine qD0 (Ou ps []) ?_;have:=congrArg qH4 c;simp at this;simp;lia
end
def KS(x y:yX):Bool:=decide (uS x.1<uS y.1)
theorem rJ:Yo KS:=⟨λx y h=>by
 have:=of_decide_eq_true h;exact decide_eq_false (by lia),λx y z h k=>by
 have:=of_decide_eq_false h;have:=of_decide_eq_false k;exact decide_eq_false (by lia)⟩
theorem KR:∀{a:yB},(∀v∈a,∃i t,v=Value.int i t)->vO a (a.map uS)
 |[],_=>.nil
 |v::a,h=>by obtain⟨i,t,rfl⟩:=h v (qE2 ..);exact .cons i t (KR λu b=>h u (qC5 _ b))
section
variable {prog:yZ}{w:jJ}{A:jI}{E:yL}{s:yQ}
theorem rH:YP prog w A s oneType' KS (λx=>∃i t,x.1=Value.int i t):=by rintro⟨x,e⟩ ⟨y,d⟩ ⟨i,t,a⟩ ⟨j,u,b⟩ Q c;subst a b;exact oneLt_int c
theorem rG{b:yB}(j:s.heap.get? a=Z9 (j6 "list" b.toArray n))(hv:∀v∈b,∃i t,v=Value.int i t)(G:b.length<=jF)
  (h:∀out:yB,out.Perm b->out.Pairwise (λx y=>decide (uS y<uS x)=Z5)->P (.done (.ret .none)) { s with heap:=sortedHeap s.heap a b out.toArray }) :
  jC (yW prog w) A (Builtin.«list.sort» ⟨[.ref a],[]⟩) P E s:=by
 rw[list_sort_plain];have H:=qB3 j;refine yO (gF j rfl ?_);refine yO (wP j rfl ?_ (by exact G) (qC6 _));obtain⟨o,g⟩:∃o,(s.heap.update a (vI λ_=>#[])).get? a=Z9 (j6 "list" #[] o):=⟨_,mO j (λ_=>#[])⟩
 refine yO (fY g rfl ?_);refine yO (gL ?_ G);refine yO (wO ?_ (qC6 _));refine jP ?_;obtain⟨h6,r⟩:∃h6,((s.heap.update a (vI λ_=>#[])).push (j6 "tuple" b.toArray 0)).push (j6 "list" #[] 0)=h6:=⟨_,rfl⟩
 have d:h6.get? a=Z9 (j6 "list" #[] o):=by rw[<- r,qL1 _ _ _ (by rw[gR,qO0];exact qB7 (qF1 H)),qL1 _ _ _ (by rw[qO0];exact qB7 H)];exact g
 show jC (yW prog w) A _ P E { s with heap:=((s.heap.update a (vI λ_=>#[])).push (j6 "tuple" b.toArray 0)).push (j6 "list" #[] 0) };rw[r];have fin:∀out:yB,out.Perm b->out.Pairwise (λx y=>decide (uS y<uS x)=Z5)->P (.done (.ret .none)) { s with heap:=h6.update a (vI λ_=>out.toArray) }:=λout l p=>by rw[<- r];exact h out l p
 have u:b.toArray.size=b.length:=by simp
 by_cases h2:b.toArray.size<2
 .rw[if_pos h2,if_pos h2];refine yO (yP ?_);refine yO (yP ?_);dsimp only;refine yO (fY d rfl ?_);have C:((b.toArray.zip b.toArray).map (·.2))=b.toArray:=by simp;exact qO1 (qA6 _)
  rw[C];refine yO (wP d rfl ?_ (hsz2:=by lia));simp only[bne_self_eq_false];refine yP (fin b (.refl _) ?_)
  match b,u,h2 with
  |[],_,_=>exact .nil
  |[v],_,_=>exact qE5 ..
  |_::_::_,hs,h2=>exact absurd h2 (by simp)
 .rw[if_neg h2,if_neg h2];have z:keyKind' b.toArray=pure oneType':=by
   match b,hv,h2 with
   |[],_,h2=>exact absurd (by simp) h2
   |[_],_,h2=>exact absurd (by simp) h2
   |v₁::F::ZK,hv,_=>exact keyKind_ints (KR hv)
  rw[z];refine yO (yP ?_);have J:b.toArray.zip b.toArray=(b.zip b).toArray:=by simp
  rw[J];refine yO (jY (FN (Q:=λ_ c=>∃f,uY c=f.toArray/\uR c=Z8/\f.Perm (b.zip b)/\Y3 KS f) rJ (rH) (λx m=>hv _ (fM m).2) (by simp;lia)
   λf c l p K I=>⟨f,l,p,K,I⟩) ?_ λ_ _ e=>e)
  rintro⟨⟨⟩,c⟩ R ⟨rfl,f,k,L,q,hs⟩;refine yO (fY d rfl ?_);have C:(uY c).map (·.2)=(f.map (·.2)).toArray:=by rw[k];simp
  have D:=by have:=q.map (·.2);rwa[qO1 (qA6 _)]at this
  rw[C];refine yO (wP d rfl ?_ (hsz2:=by rw[qB5,D.length_eq];lia));rw[L];simp only[bne_self_eq_false];refine yP (fin _ D ?_);rw[qH7];refine hs.imp_of_mem λ{x y} m M B=>?_;have N:=fM (q.mem_iff.mp m);have O:=fM (q.mem_iff.mp M);rw[<- N.1,<- O.1];exact B
variable {r:yR}
theorem Fm{Q:yL}{i:yA}(z:i.length<=5000)
  (x:∀(A:jI) (E:yL) (R:yB->yQ->Prop),A.handled=Z8->(∀(h':jL) (tk:Nat) (dr:mX) (a:yB) (f:yA),(∀b o,s.heap.get? b=Z9 o->h'.get? b=Z9 o)->vO a f->f.Perm i->R a { s with heap:=h',toks:=tk,drawn:=dr })->jC (yW prog w) A (uQ (.ref r)) R E s)
  (t:A.handled=Z8)
  (h:∀(k:jL) (l:yR) (h':jL) (tk:Nat) (dr:mX) (e:Nat) (a:yB) (f:yA),(∀b o,s.heap.get? b=Z9 o->k.get? b=Z9 o)->(∀b o,k.get? b=Z9 o->h'.get? b=Z9 o)->k.objs.size<=l->h'.get? l=Z9 (j6 "list" a.toArray e)->vO a f->f.Perm i->f.Pairwise (·<=·)->Q (.ref l) { s with heap:=h',toks:=tk,drawn:=dr }) :
  jC (yW prog w) A (call (.builtin "sorted") [.ref r]) Q E s:=by
 refine wF dG mG mH (mI _) ?_;refine yO (yP ?_);refine yO (x _ _ _ t λh' tk dr a f hk j m=>?_);have c:a.length=i.length:=by
  rw[<- m.length_eq];clear hk m
  induction j with
  |nil=>rfl
  |cons _ _ _ q=>simp[q]
 refine yO (wO ?_ (by rw[c,vK];lia));have d:(h'.push (j6 "list" a.toArray 0)).get? h'.objs.size=Z9 (j6 "list" a.toArray 0):=qA9 _ rfl;refine yO (jP (jK gO ⟨_,d,rfl⟩ gA (rG d (λv n=>j.all v n) (by rw[c,vK];lia) λout p y=>⟨_,rfl,?_⟩) (gP _)));obtain⟨e,u⟩:=lM d;refine yP ⟨_,rfl,h h' h'.objs.size _ tk dr e out (out.map uS) hk (λb o g=>?_) (qA6 _) (by simpa using u) (KR λv n=>j.all v (p.mem_iff.mp n)) ((p.map uS).trans (by rw[j.nums];exact m)) (by rw[qH7];exact y.imp λh=>by have:=of_decide_eq_false h;lia)⟩;have lt:=qB3 g;rw[gQ (qB7 lt) (by rw[gR];exact qF1 lt)];exact qA1 _ g
end
theorem rF(hc:X.calm=Z7):YG X (.builtin "sorted") (λw H Q=>∃(p:yR) (kvs:List (ZI×V)) (d:yA),w=[.ref p]/\H p=Z9 (.dK kvs)/\kvs.map (·.1)=d.map Sum.inl/\d.length<=5000/\∀(l:yR) (g:yA),H l=Z8->g.Perm d->g.Pairwise (·<=·)->Q (.ref l) (ZD H l (.lst (g.map V.int)))):=by
 intro m s Z H xs G Q I r h;obtain⟨p,kvs,d,rfl,hp,hk,J,q⟩:=h;obtain⟨u,rfl,ru⟩:=XA r;cases ru;obtain⟨hz,lo,w,L,P⟩:=SL I.hok hp;obtain⟨ep,B⟩:=P.dictAt;have C:w.length=d.length:=by rw[<- Paired.length L,<- qA0,hk,qA0]
 refine Fm J (λA E R hA hR=>dZ (W.kdl_dict lo) hA B (by rw[C,vK];lia) λh' tk acc y a=>hR h' tk s.drawn _ d y ?_ (.refl _)) (I.ok.hd hc) λh2 S h3 c dr e G g k2 k3 F N T f O=>?_
 .refine Oe _ _ (by rw[yV,a.1,C]) λj v n U e2=>?_;obtain⟨k,x,e3,M⟩:∃k x,w[j]?=Z9 (k,x)/\(Ys X.prog X.w).is k v=Z7:=a.2 j v (by rw[<- jA];exact U);obtain⟨q1,Y,e6,_⟩:=Oi L e3;have D:(kvs.map (·.1))[j]?=Z9 k:=by rw[qB1,Y];exact congrArg Z9 e6
  rw[hk,qB1,e2]at D;cases D;cases v<;>first|exact absurd M qB4|skip
  rename_i i t;have:=by simpa[Ys,UQ,Value.isInt]using M
  subst this;exact⟨t,rfl⟩
 .have K:ZP X m Z H { s with heap:=h2,toks:=c,drawn:=dr }:=(I.kept (t':=c) λb o e=>k2 b o e).dr dr;refine⟨.ref S,_,K.laid (t':=c) k3 F ?_,rfl,q _ _ (K.hok.fresh F) f O⟩;have z:g.length<=5000:=by rw[f.length_eq];exact J
  exact⟨by rw[qA0];exact qD0 z (by decide),G,e,RJ T,by simpa using N⟩
theorem KQ:∀{a:yA}{us:yB},ZM (a.map V.int) us->∃xs:List (Int×Tok),us=xs.map (λp=>Value.int p.1 p.2)/\xs.map (·.1)=a
 |[],us,h=>by cases h;exact⟨[],rfl,rfl⟩
 |n::a,us,h=>by
  cases h with
  |cons b c =>
   obtain⟨t,rfl⟩:=b;obtain⟨xs,rfl,e⟩:=KQ c;exact⟨(n,t)::xs,rfl,by simp[e]⟩
section
variable {X:Cx}
theorem Fl{xs:List (Int×Tok)}{ns:yA}(e:xs.map (·.1)=ns)(h:(dL xs.toArray)[j]?=Z9 v):∃M t,v=Value.int M t/\M=numAt xs.toArray j/\M∈ns:=by
 obtain⟨t,rfl⟩:=intItems_at h;refine⟨_,t,rfl,rfl,?_⟩;have a:=by have:=(Array.getElem?_eq_some_iff.mp h).1;simpa[dL]using this
 rw[numAt_eq];subst e;simp only[qF4];rw[qA3 (by simpa using a)];exact qD5 _
theorem rE(B:X.calm=Z7):YG X (.builtin "min") (λi H Q=>∃(p:yR) (b:yA),i=[.ref p]/\YQ X.K H p (b.map V.int)/\0<b.length/\∀M,M∈b->(∀a∈b,M<=a)->Q (.int M) H):=by
 intro f s Z H F E Q I r h;obtain⟨p,b,rfl,z,D,q⟩:=h;obtain⟨u,rfl,w⟩:=XA r;cases w;obtain⟨n,y,o,K⟩:=I.list z;obtain⟨c,rfl,e⟩:=KQ y;have d:c.length=b.length:=by rw[<- e];simp
 have l:s.heap.IsList p (dL c.toArray):=by have:=o.isList;simpa[dL]using this
 refine min_intList (I.ok.hd B) l (by simp;lia) λv G J x k=>?_;obtain⟨M,t,rfl,m,A⟩:=Fl e x;refine⟨.int M,H,I.kept k,⟨t,rfl⟩,q M A λa C=>?_⟩;obtain⟨j,g,rfl⟩:=qK3 C;have:=(argBest_lt (numAt c.toArray) (c.toArray.size - 1)).2 j (by simp;lia);rw[m];refine qT8 this ?_;rw[numAt_eq,qS4,e];simp[qF4,g]
theorem rD(B:X.calm=Z7):YG X (.builtin "max") (λi H Q=>∃(p:yR) (b:yA),i=[.ref p]/\YQ X.K H p (b.map V.int)/\0<b.length/\∀M,M∈b->(∀a∈b,a<=M)->Q (.int M) H):=by
 intro f s Z H F E Q I r h;obtain⟨p,b,rfl,z,D,q⟩:=h;obtain⟨u,rfl,w⟩:=XA r;cases w;obtain⟨n,y,o,K⟩:=I.list z;obtain⟨c,rfl,e⟩:=KQ y;have d:c.length=b.length:=by rw[<- e];simp
 have l:s.heap.IsList p (dL c.toArray):=by have:=o.isList;simpa[dL]using this
 refine max_intList (I.ok.hd B) l (by simp;lia) λv G J x k=>?_;obtain⟨M,t,rfl,m,A⟩:=Fl e x;refine⟨.int M,H,I.kept k,⟨t,rfl⟩,q M A λa C=>?_⟩;obtain⟨j,g,rfl⟩:=qK3 C;have:=(argBest_gt (numAt c.toArray) (c.toArray.size - 1)).2 j (by simp;lia);rw[m];refine qT8 ?_ this;rw[numAt_eq,qS4,e];simp[qF4,g]
end
section
variable {X:Cx}
theorem rC(O:X.calm=Z7):YG X (.builtin "sorted") (λF H Q=>∃(p:yR) (a:yA),F=[.ref p]/\YQ X.K H p (a.map V.int)/\a.length<=5000/\∀(l:yR) (f:yA),H l=Z8->f.Perm a->f.Pairwise (·<=·)->Q (.ref l) (ZD H l (.lst (f.map V.int)))):=by
 intro y s Z H S t Q I r h;obtain⟨p,a,rfl,N,v,q⟩:=h;obtain⟨u,rfl,K⟩:=XA r;cases K;obtain⟨j,w,⟨o,n,G,i,z,M⟩,P⟩:=I.list N;have g:=SN w;refine Fm v (λA E R U J=>Lg G i M (.inl rfl) (J _ s.toks s.drawn j a (Lf _ _) g (.refl _)) (by rw[<- w.length];exact P)) (I.ok.hd O) λT D W c dr e t f k2 L m B g d C=>?_;have x:=(I.kept (t':=c) λb o e=>k2 b o e).dr dr;refine⟨.ref D,_,x.laid (t':=c) L m ?_,rfl,q _ _ (x.hok.fresh m) d C⟩;have k:f.length<=5000:=by rw[d.length_eq];exact v
 exact⟨by rw[qA0];exact qD0 k (by decide),t,e,RJ g,by simpa using B⟩
theorem Fk(N:X.calm=Z7):YG X (.type "list") (λb H Q=>∃(p:yR) (kvs:List (ZI×V)) (e:yA),b=[.ref p]/\Rd H p (.dK kvs)/\kvs.map (·.1)=e.map Sum.inl/\∀l,H l=Z8->Q (.ref l) (ZD H l (.lst (e.map V.int)))):=by
 intro y s Z H T S Q I r h;obtain⟨p,kvs,e,rfl,J,hk,q⟩:=h;obtain⟨u,rfl,F⟩:=XA r;cases F;obtain⟨O,P,b,g,A⟩:=TR I.hok J;obtain⟨R,m⟩:=A.dictAt;have o:b.length=e.length:=by rw[<- Paired.length g,<- qA0,hk,qA0]
 have d:b.length<=sizeLine:=by rw[<- Paired.length g];exact O
 refine W.kdl_call (W.kdl_dict P) (I.ok.hd N) m d λU L acc c f B a=>?_;have C:=by
  refine Oe _ _ (by rw[yV,a.1,o]) λj v n D G=>?_;obtain⟨k,x,M,z⟩:∃k x,b[j]?=Z9 (k,x)/\(Ys X.prog X.w).is k v=Z7:=a.2 j v (by rw[<- jA];exact D);obtain⟨Y,E,K,_⟩:=Oi g M;have w:(kvs.map (·.1))[j]?=Z9 k:=by rw[qB1,E];exact congrArg Z9 K
  rw[hk,qB1,G]at w;cases w;cases v<;>first|exact absurd z qB4|skip
  rename_i i t;have:=by simpa[Ys,UQ,Value.isInt]using z
  subst this;exact⟨t,rfl⟩
 refine⟨.ref s.heap.objs.size,_,I.laid (t':=L) f (qA6 _) ?_,rfl,q _ (I.hok.fresh (qA6 _))⟩;exact⟨by rw[qA0,<- o];exact d,acc.toList,c,RJ C,by exact B⟩
theorem rB(z:X.A.guards=Z9 [])(D:X.A.units+64<vN):YG X (.builtin "repr") (λxs H Q=>∃p:yR,xs=[.ref p]/\H p=Z9 (.dK [])/\Q (.str "{}") H):=by
 intro i s Z H xs B Q I v h;obtain⟨p,rfl,y,q⟩:=h;obtain⟨u,rfl,m⟩:=v.one;cases m;obtain⟨_,j,k,r,o,f,A,g,x,d,_,pr,_⟩:=SL I.hok y;have n:k=[]:=by cases r;rfl
 subst n;have a:f.toList=[]:=by generalize f.toList=l at pr;cases pr;rfl
 have w:Reads s.heap (.ref p) (.dict []) [p]:=.dict (kvs:=[]) g x.1 d (by rw[a];exact .nil) (by rw[a];exact .nil);refine repr_of_reads' w rfl (λ_ c=>?_) z (by show _+(0+1+1)<_;lia) (λb o e=>e) (λC u t hk=>⟨.str "{}",H,I.kept (t':=t) hk,⟨u,rfl⟩,q⟩) (by decide);rw[qB2]at c;rw[<- c]at j;simp at j
end
inductive D where
 |non|bl (b:Bool)| int (i:Int)| str (x:Str)| ty (n:String)| tup (xs:List D)| lst (n:Nat)| dct (n:Nat)| rol (xs:List D)
inductive O where
 |lst (xs:List D)| dk (kvs:List (ZI×D))| dt (kvs:List (List ZI×D))
 |fk (kvs:List (ZI×D))
abbrev ZX:=List O
abbrev ZT:=List (Option D)
def Sz(K:yS)(H:Hp)(a:yR)(xs:List V):Prop:=(∃o,H a=Z9 (.frz o (.lst xs))) ∨
  ∃(o:Obj) (b:yJ) (n:Nat),K.lookup a=Z9 o/\o.cls=.type "list"/\o.dict=Z8/\o.data=.seq b n/\b.size<=jF/\ZM xs b.toList
theorem Sz.sq{K:yS}(h:Sz K H a xs):YQ K H a xs:=by
 rcases h with⟨o,h⟩| h
 .exact .inl (.inr ⟨o,h⟩)
 .exact .inr h
structure TF(K:yS)(H H':Hp):Prop where
 t:TK K H H'
 f:∀a xs,Sz K H a xs->Sz K H' a xs
 u:∀a xs,H a=Z9 (.tup xs)->H' a=Z9 (.tup xs)
 z:∀a o u,H a=Z9 (.frz o u)->H' a=Z9 (.frz o u)
theorem TF.refl(K:yS)(H:Hp):TF K H H:=⟨TK.refl K H,λ_ _ h=>h,λ_ _ h=>h,λ_ _ _ h=>h⟩
theorem TF.trans{K:yS}(a:TF K H d)(b:TF K d H2):TF K H H2:=⟨a.t.trans b.t,λp c h=>b.f p c (a.f p c h),λp c h=>b.u p c (a.u p c h),λp o u h=>b.z p o u (a.z p o u h)⟩
theorem rA{K:yS}(h:∀q o,q≠p->H q=Z9 o->H' q=Z9 o)(b:∀xs,H p≠Z9 (.tup xs))(a:∀x y,H p≠Z9 (.frz x y)):TF K H H':=by
 refine⟨λq c e=>?_,λq c e=>?_,λq c e=>h _ _ (λz=>b _ (z▸e)) e,λq o u e=>h _ _ (λz=>a _ _ (z▸e)) e⟩
 .rcases e with(e|⟨w,e⟩)| e
  .exact .inl (.inl (h _ _ (λz=>b _ (z▸e)) e))
  .exact .inl (.inr ⟨w,h _ _ (λz=>a _ _ (z▸e)) e⟩)
  .exact .inr e
 .rcases e with⟨w,e⟩| e
  .exact .inl ⟨w,h _ _ (λz=>a _ _ (z▸e)) e⟩
  .exact .inr e
theorem Tz{K:yS}(e:H p=Z9 u)(a:∀xs,u≠.tup xs)(c:∀x y,u≠.frz x y):TF K H (ZD H p o) :=
 rA (λq v b h=>by rw[YI b];exact h) (λxs h=>by rw[e]at h;exact a xs (Option.some.inj h)) (λx y h=>by rw[e]at h;exact c x y (Option.some.inj h))
theorem NZ{K:yS}(e:H p=Z9 (.lst xs)):TF K H (ZD H p o):=Tz e (λ_ z=>by cases z) (λ_ _ z=>by cases z)
theorem Fj{K:yS}(h:XM H H'):TF K H H':=⟨λp a e=>h.tup e,λq b e=>by
 rcases e with⟨w,e⟩| e
 .exact .inl ⟨w,h _ _ e⟩
 .exact .inr e,λ_ _ e=>h _ _ e,λ_ _ _ e=>h _ _ e⟩
mutual
def RV(K:yS)(H:Hp)(J:yC):D->V->Prop
 |.non,v=>v=.non
 |.bl b,v=>v=.bl b
 |.int i,v=>v=.int i
 |.str x,v=>v=.str x
 |.ty n,v=>v=.ty n
 |.tup d,v=>∃p c,v=.ref p/\H p=Z9 (.tup c)/\RVs K H J d c
 |.lst n,v=>∃a,v=.ref a/\J[n]?=Z9 a
 |.dct n,v=>∃a,v=.ref a/\J[n]?=Z9 a
 |.rol d,v=>∃p c,v=.ref p/\Sz K H p c/\RVs K H J d c
def RVs(K:yS)(H:Hp)(J:yC):List D->List V->Prop
 |[],vs=>vs=[]
 |d::ds,vs=>∃v a,vs=v::a/\RV K H J d v/\RVs K H J ds a
end
def YV{b:Type}(K:yS)(H:Hp)(J:yC)(kvs:List (b×D))(a:List (b×V)):Prop:=kvs.map (·.1)=a.map (·.1)/\RVs K H J (kvs.map (·.2)) (a.map (·.2))
def OR(K:yS)(H:Hp)(J:yC)(a:yR):O->Prop
 |.lst e=>∃d,H a=Z9 (.lst d)/\RVs K H J e d
 |.dk b=>∃c,H a=Z9 (.dK c)/\YV K H J b c
 |.dt b=>∃c,H a=Z9 (.dT c)/\YV K H J b c
 |.fk b=>∃o c,H a=Z9 (.frz o (.dK c))/\YV K H J b c
structure SR(K:yS)(J:yC)(S:ZX)(H:Hp):Prop where
 len:J.length=S.length
 nd:J.Nodup
 obj:∀(n:Nat) (a:yR) (o:O),J[n]?=Z9 a->S[n]?=Z9 o->OR K H J a o
structure ZJ(K:yS)(J J':yC)(H H':Hp):Prop where
 pre:∃ν,J'=J++ν/\∀b∈ν,H b=Z8
 fr:∀b o,b∉J->H b=Z9 o->H' b=Z9 o
 tk:TF K H H'
section
variable {K:yS}{H H' H1 H2:Hp}{J J' J1 J2:yC}{S S':ZX}
mutual
theorem RV.up(tk:TF K H H')(c:∃g,J'=J++g):∀(d:D) (v:V),RV K H J d v->RV K H' J' d v
 |.non,v,h=>by simpa[RV]using h
 |.bl b,v,h=>by simpa[RV]using h
 |.int i,v,h=>by simpa[RV]using h
 |.str x,v,h=>by simpa[RV]using h
 |.ty n,v,h=>by simpa[RV]using h
 |.tup j,v,h=>by obtain⟨p,f,e,q,r⟩:=h;exact⟨p,f,e,tk.u p f q,RVs.up tk c j f r⟩
 |.lst n,v,h=>by obtain⟨a,e,q⟩:=h;obtain⟨g,rfl⟩:=c;exact⟨a,e,by rw[qA8 (qA5.mp q).1];exact q⟩
 |.dct n,v,h=>by obtain⟨a,e,q⟩:=h;obtain⟨g,rfl⟩:=c;exact⟨a,e,by rw[qA8 (qA5.mp q).1];exact q⟩
 |.rol j,v,h=>by obtain⟨p,f,e,q,r⟩:=h;exact⟨p,f,e,tk.f p f q,RVs.up tk c j f r⟩
theorem RVs.up(tk:TF K H H')(a:∃c,J'=J++c):∀(ds:List D) (vs:List V),RVs K H J ds vs->RVs K H' J' ds vs
 |[],vs,h=>by simpa[RVs]using h
 |d::ds,vs,h=>by obtain⟨v,b,e,r,q⟩:=h;exact⟨v,b,e,RV.up tk a d v r,RVs.up tk a ds b q⟩
end
theorem RVs.len:∀{ds:List D}{vs:List V},RVs K H J ds vs->ds.length=vs.length
 |[],vs,h=>by subst h;rfl
 |d::ds,vs,h=>by obtain⟨v,a,rfl,_,q⟩:=h;rw[qC9,qC9,RVs.len q]
theorem RVs.nil:RVs K H J [] []:=by rfl
theorem RVs.cons(h:RV K H J d v)(t:RVs K H J ds a):RVs K H J (d::ds) (v::a):=by exact⟨v,a,rfl,h,t⟩
theorem RVs.get:∀{ds:List D}{vs:List V}{i:Nat}{d:D},RVs K H J ds vs->ds[i]?=Z9 d->∃v,vs[i]?=Z9 v/\RV K H J d v
 |[],vs,i,d,h,e=>by simp at e
 |x::ds,vs,0,d,h,e=>by obtain⟨v,a,rfl,r,q⟩:=h;simp at e;subst e;exact⟨v,rfl,r⟩
 |x::ds,vs,i+1,d,h,e=>by obtain⟨v,a,rfl,r,q⟩:=h;obtain⟨u,b,c⟩:=RVs.get q (by simpa using e);exact⟨u,by simpa using b,c⟩
theorem RVs.append:∀{ds es:List D}{vs us:List V},RVs K H J ds vs->RVs K H J es us->RVs K H J (ds++es) (vs++us)
 |[],es,vs,us,h,g=>by subst h;exact g
 |d::ds,es,vs,us,h,g=>by obtain⟨v,a,rfl,r,q⟩:=h;exact .cons r (RVs.append q g)
theorem RVs.take:∀{ds:List D}{a:List V} (n:Nat),RVs K H J ds a->RVs K H J (ds.take n) (a.take n)
 |_,_,0,_=>by exact .nil
 |[],a,n+1,h=>by subst h;exact .nil
 |d::ds,a,n+1,h=>by obtain⟨v,b,rfl,r,q⟩:=h;exact .cons r (RVs.take n q)
theorem RVs.drop:∀{ds:List D}{a:List V} (n:Nat),RVs K H J ds a->RVs K H J (ds.drop n) (a.drop n)
 |_,_,0,h=>by simpa using h
 |[],a,n+1,h=>by subst h;exact .nil
 |d::ds,a,n+1,h=>by obtain⟨v,b,rfl,r,q⟩:=h;exact RVs.drop n q
theorem RVs.set(g:RV K H J d v):∀{ds:List D}{vs:List V} (n:Nat),RVs K H J ds vs->RVs K H J (ds.set n d) (vs.set n v)
 |[],vs,n,h=>by subst h;exact .nil
 |x::ds,vs,0,h=>by obtain⟨u,a,rfl,r,q⟩:=h;exact .cons g q
 |x::ds,vs,n+1,h=>by obtain⟨u,a,rfl,r,q⟩:=h;exact .cons r (RVs.set g n q)
theorem RVs.ints{b:yA}:RVs K H J (b.map D.int) (b.map V.int):=by
 induction b with
 |nil=>exact .nil
 |cons a r c=>exact .cons (by rfl) c
theorem YV.up(tk:TF K H H')(a:∃c,J'=J++c){ws:List (b×V)}(h:YV K H J kvs ws):YV K H' J' kvs ws:=⟨h.1,RVs.up tk a _ _ h.2⟩
theorem SR.isS(f:SR K J S H)(h:a∈J):∃o,H a=Z9 o:=by
 obtain⟨n,d⟩:=qE1 h;have g:n<S.length:=by rw[<- f.len];exact(qA5.mp d).1
 have q:=f.obj n a S[n] d (qA3 g);revert q;generalize S[n]=o;intro q;cases o with
 |lst i=>obtain⟨c,e,_⟩:=q;exact⟨_,e⟩
 |dk b=>obtain⟨c,e,_⟩:=q;exact⟨_,e⟩
 |dt b=>obtain⟨c,e,_⟩:=q;exact⟨_,e⟩
 |fk b=>obtain⟨o,c,e,_⟩:=q;exact⟨_,e⟩
theorem SR.out(b:SR K J S H)(h:H a=Z8):a∉J:=λm=>by obtain⟨o,e⟩:=b.isS m;rw[h]at e;cases e
theorem ZJ.refl(K:yS)(J:yC)(H:Hp):ZJ K J J H H:=⟨⟨[],by simp,by simp⟩,λ_ _ _ h=>h,TF.refl K H⟩
theorem ZJ.mem(st:ZJ K J J' H H')(h:a∈J):a∈J':=by obtain⟨b,rfl,_⟩:=st.pre;exact qF7 _ h
theorem ZJ.ext(st:ZJ K J J' H H'):∃ν,J'=J++ν:=let ⟨ν,e,_⟩:=st.pre;⟨ν,e⟩
theorem ZJ.trans(a:ZJ K J J1 H H1)(b:ZJ K J1 J2 H1 H2)(p:J2.Nodup):ZJ K J J2 H H2:=by
 obtain⟨k,e,j⟩:=a.pre;obtain⟨d,m,n⟩:=b.pre;have nd':(J++k++d).Nodup:=by rw[<- e,<- m];exact p
 refine⟨⟨k++d,by rw[m,e,qC1],λc g=>?_⟩,λc o g h=>?_,a.tk.trans b.tk⟩
 .rcases qB6.mp g with h|h
  .exact j c h
  .have l:=n c h;cases q:H c with
   |none=>rfl
   |some o =>
    have:=λf=>by have:=(qH8.mp nd').2.2 c (qF7 _ f) c h;exact this rfl
    rw[a.fr c o this q]at l;cases l
 .refine b.fr c o (λf=>?_) (a.fr c o g h);rw[e]at f;rcases qB6.mp f with i|i
  .exact g i
  .rw[j c i]at h;cases h
theorem OR.up(tk:TF K H H')(b:∃f,J'=J++f)(e:H' a=H a):∀{o:O},OR K H J a o->OR K H' J' a o
 |.lst g,⟨d,h,r⟩=>⟨d,by rw[e];exact h,RVs.up tk b _ _ r⟩
 |.dk c,⟨ws,h,r⟩=>⟨ws,by rw[e];exact h,r.up tk b⟩
 |.dt c,⟨ws,h,r⟩=>⟨ws,by rw[e];exact h,r.up tk b⟩
 |.fk c,⟨o,ws,h,r⟩=>⟨o,ws,by rw[e];exact h,r.up tk b⟩
theorem RF(h:H p=Z8):TF K H (ZD H p o):=Fj (LD h o)
theorem SR.other(c:SR K J S H)(h:H p=Z8):SR K J S (ZD H p o)/\ZJ K J J H (ZD H p o):=by
 have f:=c.out h;refine⟨⟨c.len,c.nd,λn a i d j=>?_⟩,⟨⟨[],by simp,by simp⟩,λb u k e=>?_,RF h⟩⟩
 .have g:=qC2 d;have ne:a≠p:=λz=>f (z▸g);exact(c.obj n a i d j).up (RF h) ⟨[],by simp⟩ (YI ne)
 .rw[YI (UO e h)];exact e
theorem SR.push(d:SR K J S H)(h:H p=Z8)(l:OR K (ZD H p o) (J++[p]) p o'):SR K (J++[p]) (S++[o']) (ZD H p o)/\ZJ K J (J++[p]) H (ZD H p o):=by
 have k:=d.out h;refine⟨⟨by simp[d.len],?_,λn a u c f=>?_⟩,⟨⟨[p],rfl,λb g=>?_⟩,λb u g e=>?_,RF h⟩⟩
 .rw[qH8];refine⟨d.nd,by simp,λa q b g=>?_⟩;simp at g;subst g;exact λz=>k (z▸q)
 .by_cases i:n<J.length
  .rw[qA8 i]at c;rw[qA8 (by rw[<- d.len];exact i)]at f;have m:=qC2 c;have ne:a≠p:=λz=>k (z▸m);exact(d.obj n a u c f).up (RF h) ⟨[p],rfl⟩ (YI ne)
  .rw[qA2 (by lia)]at c;rw[qA2 (by rw[<- d.len];lia)]at f;have j:=by have:=(qA5.mp c).1;simp at this;omega
   rw[j]at c;rw[<- d.len,j]at f;simp at c f;subst c f;exact l
 .simp_all
 .rw[YI (UO e h)];exact e
theorem SR.put(f:SR K J S H)(g:J[n]?=Z9 p)(r:H p=Z9 u)(l:∀xs,u≠.tup xs)(s:∀x y,u≠.frz x y)(q:OR K (ZD H p o) J p o'):SR K J (S.set n o') (ZD H p o)/\ZJ K J J H (ZD H p o):=by
 have j:TF K H (ZD H p o):=Tz r l s;have d:=qC2 g;refine⟨⟨by simp[f.len],f.nd,λm a w c h=>?_⟩,⟨⟨[],by simp,by simp⟩,λb w t e=>?_,j⟩⟩
 .by_cases i:m=n
  .subst i;rw[g]at c;cases c;have k:m<S.length:=by rw[<- f.len];exact(qA5.mp g).1
   rw[qD9 k]at h;cases h;exact q
  .rw[qE7 (λz=>i z.symm)]at h;have ne:a≠p:=λz=>by subst z;exact i ((qT9 (qA5.mp c).1 f.nd).mp (c.trans g.symm))
   exact(f.obj m a w c h).up j ⟨[],by simp⟩ (YI ne)
 .have ne:b≠p:=λz=>t (z▸d);rw[YI ne];exact e
end
inductive R(α:Type) where
 |bad|ok (a:α) (S:ZX)| er (c:Str) (S:ZX)
abbrev M(a:Type):=ZX->R a
def YU{d β:Type}(m:M d)(f:d->M β):M β:=λS=>match m S with
 |.bad=>.bad
 |.er c b=>.er c b
 |.ok a b=>f a b
def ret{α:Type}(a:α):M α:=λS=>.ok a S
def bad{α:Type}:M α:=λ_=>.bad
inductive rz{α β:Type}(m:M α)(f:α->M β)(S:ZX)(b:β)(S2:ZX):Prop
 |mk (a:α) (S1:ZX) (e:m S=.ok a S1) (g:f a S1=.ok b S2)
theorem Y6{f:d->M i}(h:YU m f S=.ok b S2):rz m f S b S2:=by
 unfold YU at h;cases e:m S with
 |bad=>rw[e]at h;cases h
 |er c g=>rw[e]at h;cases h
 |ok a g=>rw[e]at h;exact⟨a,g,e,h⟩
theorem XX{a b:d}(h:ret a S=.ok b c):b=a/\c=S:=by unfold ret at h;cases h;exact⟨rfl,rfl⟩
abbrev C:=ZT->M D
abbrev CT:=ZT->M Bool
abbrev CA:=ZT->M (List D)
def RE(K:yS)(H:Hp)(J:yC)(B:ZT)(Z:St):Prop:=B.length=Z.length/\∀(i:Nat) (d:D),B[i]?=Z9 (Z9 d)->∃v,Z[i]?=Z9 (Z9 v)/\RV K H J d v
section
variable {K:yS}{H H':Hp}{J J':yC}{B:ZT}{Z:St}
theorem RE.up(h:RE K H J B Z)(st:ZJ K J J' H H'):RE K H' J' B Z:=⟨h.1,λi d e=>let ⟨v,q,r⟩:=h.2 i d e;⟨v,q,RV.up st.tk st.ext d v r⟩⟩
theorem RE.set(h:RE K H J B Z)(r:RV K H J d v)(i:Nat):RE K H J (B.set i (Z9 d)) (Z.set i (Z9 v)):=by
 refine⟨by simp[h.1],λj c e=>?_⟩;by_cases b:i=j
 .subst b;have a:=by have:=(qA5.mp e).1;simpa using this
  rw[qD9 a]at e;cases e;exact⟨v,by rw[qD9 (by rw[<- h.1];exact a)],r⟩
 .rw[qE7 b]at e ⊢;exact h.2 j c e
end
def Xq(K:yS)(J:yC)(H:Hp)(d:D)(c:ZX)(Q:VK):Prop:=∀v a b,SR K b c a->ZJ K J b H a->RV K a b d v->Q v a
def KP(K:yS)(J:yC)(H:Hp)(ds:List D)(d:ZX)(Q:List V->Hp->Prop):Prop:=∀c a b,SR K b d a->ZJ K J b H a->RVs K a b ds c->Q c a
def Uh(K:yS)(J:yC)(H:Hp)(b:Bool)(d:ZX)(Q:Bool->Hp->Prop):Prop:=∀a c,SR K c d a->ZJ K J c H a->Q b a
inductive Zu(K:yS)(c:C)(Z:St)(H:Hp)(Q:VK):Prop
 |mk (J:yC) (B:ZT) (S:ZX) (d:D) (S':ZX) (sr:SR K J S H) (re:RE K H J B Z) (e:c B S=.ok d S') (y:Xq K J H d S' Q)
inductive YB(K:yS)(c:CA)(Z:St)(H:Hp)(Q:List V->Hp->Prop):Prop
 |mk (J:yC) (B:ZT) (S:ZX) (d:List D) (S':ZX) (sr:SR K J S H) (re:RE K H J B Z) (e:c B S=.ok d S') (y:KP K J H d S' Q)
inductive YM(K:yS)(c:CT)(Z:St)(H:Hp)(Q:Bool->Hp->Prop):Prop
 |mk (J:yC) (B:ZT) (S:ZX) (d:Bool) (S':ZX) (sr:SR K J S H) (re:RE K H J B Z) (e:c B S=.ok d S') (y:Uh K J H d S' Q)
theorem Xq.self{K:yS}(h:Xq K J H d S Q)(a:SR K J S H)(r:RV K H J d v):Q v H:=h v H J a (ZJ.refl K J H) r
theorem Xq.shift{K:yS}(h:Xq K J H d S Q)(st:ZJ K J b H a):Xq K b a d S Q:=λv e g c f r=>h v e g c (st.trans f c.nd) r
theorem Uh.shift{K:yS}(h:Uh K J H d S Q)(st:ZJ K J b H a):Uh K b a d S Q:=λe g c f=>h e g c (st.trans f c.nd)
theorem PE.weak(h:PE X e t)(w:∀Z H Q,t' Z H Q->t Z H Q):PE X e t':=λa s Z H Q I q=>h a s Z H Q I (w Z H Q q)
theorem PT.weak(h:PT X e t)(w:∀Z H Q,t' Z H Q->t Z H Q):PT X e t':=λa s Z H Q I q=>h a s Z H Q I (w Z H Q q)
theorem PW.weak(h:PW X e t)(w:∀Z H Q,t' Z H Q->t Z H Q):PW X e t':=λb a s Z H Q I q=>h b a s Z H Q I (w Z H Q q)
theorem PA.weak(h:PA X e t)(w:∀Z H Q,t' Z H Q->t Z H Q):PA X e t':=λb a s Z H Q I q=>h b a s Z H Q I (w Z H Q q)
theorem PS.weak(h:PS X e t)(w:∀D Z H,t' D Z H->t D Z H):PS X e t':=λa s Z H D I q=>h a s Z H D I (w D Z H q)
theorem Xs.weak(h:Xs X e t)(w:∀D Z H,t' D Z H->t D Z H):Xs X e t':=λa s Z H D I q=>h a s Z H D I (w D Z H q)
def Zj(X:Cx)(f:yT->yT->Sem yT):R2:=λv u H Q=>∃r,YX X f r/\r v u H Q
theorem Sy:YX X f (Zj X f):=λa s Z H x y v u Q I d b ⟨r,c,q⟩=>c a s Z H x y v u Q I d b q
def Sx(X:Cx)(f:yT->Sem yT):V->Hp->VK->Prop:=λv H Q=>∃r,QR X f r/\r v H Q
theorem ry:QR X f (Sx X f):=λa s Z H x v Q I c ⟨r,b,q⟩=>b a s Z H x v Q I c q
def Yy(X:Cx)(f:yT):List V->Hp->VK->Prop:=λa H Q=>∃r,YG X f r/\r a H Q
theorem callAny:YG X f (Yy X f):=λa s Z H x v Q I c ⟨r,b,q⟩=>b a s Z H x v Q I c q
def KO(X:Cx):R2:=λv u H Q=>∃r,RP X r/\r v u H Q
theorem rx:RP X (KO X):=λd g a s Z H x y v u Q I e f ⟨r,c,q⟩ b=>c d g a s Z H x y v u Q I e f q b
def KN(X:Cx):V->yG->yG->Hp->VK->Prop:=λv b a H Q=>∃r,RQ X r/\r v b a H Q
theorem rr:RQ X (KN X):=λd s Z H x v i g k e j Q I h a b c ⟨r,f,q⟩=>f d s Z H x v i g k e j Q I h a b c q
def Ug(X:Cx)(id:String):V->List V->Hp->VK->Prop:=λv a H Q=>∃r,RO X id r/\r v a H Q
theorem Fi{id:String}:RO X id (Ug X id):=λa s Z H x c v e Q I d rs ⟨r,b,q⟩=>b a s Z H x c v e Q I d rs q
def Fh(X:Cx):Ux:=λo i v H Q=>∃r,VL X r/\r o i v H Q
theorem rq:VL X (Fh X):=λa s Z H o i v d f u Q I e g b ⟨r,c,q⟩=>c a s Z H o i v d f u Q I e g b q
def ZY(i:Nat):C:=fun B S=>match B[i]? with
 |some (Z9 d)=>.ok d S
 |_=>.bad
def ZW(d:D):C:=λ_ S=>.ok d S
def ZU(o:D->D->M D)(a b:C):C:=fun B=>YU (a B) λx=>YU (b B) λy=>o x y
def RD(o:D->M D)(a:C):C:=fun B=>YU (a B) o
def ZQ:List C->CA
 |[]=>λ_=>ret []
 |c::b=>fun B=>YU (c B) λx=>YU (ZQ b B) λa=>ret (x::a)
def ZS(o:List D->M D)(a:CA):C:=fun B=>YU (a B) o
def Y9(a:CA):C:=ZS (λb=>ret (.tup b)) a
def Y8(a:CA):C:=ZS (λb S=>.ok (.lst S.length) (S++[.lst b])) a
def RC(t:CT)(a b:C):C:=fun B=>YU (t B) λk=>if k then a B else b B
def YH(a:C):CT:=fun B=>YU (a B) λx=>match x with
 |.bl b=>ret b
 |_=>bad
def Tx(a b:C):C:=fun B=>YU (YH a B) λk=>if k then b B else ret (.bl Z5)
def Ue(a b:C):C:=fun B=>YU (YH a B) λk=>if k then ret (.bl Z7)else b B
def Qk(a:C):C:=fun B=>YU (YH a B) λk=>ret (.bl (!k))
def Qj(a b:CT):CT:=fun B=>YU (a B) λk=>if k then b B else ret Z5
def X7(a b:CT):CT:=fun B=>YU (a B) λk=>if k then ret Z7 else b B
def W2(a:CT):CT:=fun B=>YU (a B) λk=>ret (!k)
def dB(x:D):M Bool:=match x with
 |.bl b=>ret b
 |_=>bad
def Sw(o o':D->D->M D)(a b c:C):C:=fun B=>YU (a B) λx=>YU (b B) λy=>YU (o x y) λz=>YU (dB z) λk=>if k then YU (c B) λw=>o' y w else ret (.bl Z5)
section
variable {X:Cx}{a b c d:jH}{ca cb cc cd:C}{pos:Pos}
theorem ro(h:PE X (.Name x pos) (SV i)):PE X (.Name x pos) (Zu X.K (ZY i)):=h.weak fun Z H Q ⟨J,B,S,d,l,j,g,e,y⟩=>by
 unfold ZY at e;split at e
 .rename_i k f;cases e;obtain⟨v,q,r⟩:=g.2 i _ f;exact⟨v,q,y.self j r⟩
 .cases e
theorem Qi{d:D}(h:PE X e (tC v))(f:∀K H J,RV K H J d v):PE X e (Zu X.K (ZW d)):=h.weak fun Z H Q ⟨J,B,S,i,j,g,k,e,y⟩=>by unfold ZW at e;cases e;exact y.self g (f _ _ _)
def Yz(K:yS)(r:R2)(o:D->D->M D):Prop:=∀x y S d e H J v u Q,o x y S=.ok d e->SR K J S H->RV K H J x v->RV K H J y u->Xq K J H d e Q->r v u H Q
theorem NY(m:Yz X.K r o):∀Z H Q,Zu X.K (ZU o ca cb) Z H Q->QQ r (Zu X.K ca) (Zu X.K cb) Z H Q:=by rintro Z H Q ⟨J,B,S,d,n,F,k,e,y⟩;obtain⟨x,j,p,e⟩:=Y6 e;obtain⟨z,l,q,e⟩:=Y6 e;refine⟨J,B,S,x,j,F,k,p,λv G A i g s=>⟨A,B,j,z,l,i,k.up g,q,λu w t h f E=>?_⟩⟩;exact m x z l d n w t v u Q e h (RV.up f.tk f.ext _ _ s) E (y.shift (g.trans f h.nd))
theorem rn(f:Yz X.K (Zj X (jU op)) o)(e:PE X a (Zu X.K ca))(g:PE X b (Zu X.K cb)):PE X (.BinOp a op b pos) (Zu X.K (ZU o ca cb)):=(Az Sy e g).weak (NY f)
theorem rm(f:Yz X.K (Zj X (jG op)) o)(e:PE X a (Zu X.K ca))(g:PE X b (Zu X.K cb))(hm:fU op b=Z5):PE X (.Compare a [op] [b] pos) (Zu X.K (ZU o ca cb)):=(zZ Sy e g hm).weak (NY f)
theorem Fg{c:C}(h:∀Z H Q,Zu X.K c Z H Q->t Z H Q):∀Z H Q,YM X.K (YH c) Z H Q->L8 t Z H Q:=by
 rintro Z H Q ⟨J,B,S,d,q,p,o,e,y⟩;obtain⟨x,m,i,e⟩:=Y6 e;refine h Z H _ ⟨J,B,S,x,m,p,o,i,λv j n g f l=>?_⟩;cases x with
 |bl k =>
  obtain⟨rfl,rfl⟩:=XX e;exact⟨_,l,y j n g f⟩
 |_=>cases e
theorem rk(f:Yz X.K (Zj X (jG op)) o)(e:PE X a (Zu X.K ca))(g:PE X b (Zu X.K cb))(hm:fU op b=Z5):PT X (.Compare a [op] [b] pos) (YM X.K (YH (ZU o ca cb))):=(zY Sy e g hm).weak (Fg (NY f))
theorem Ff(Y:Yz X.K r o)(q:Yz X.K F o'):∀Z H Q,Zu X.K (Sw o o' ca cb cc) Z H Q->L7 r F (Zu X.K ca) (Zu X.K cb) (Zu X.K cc) Z H Q:=by
 rintro Z H Q ⟨J,B,S,d,S',sr,s,e,y⟩;obtain⟨x,G,e1,f1⟩:=Y6 e;obtain⟨z,N,e2,f2⟩:=Y6 f1;obtain⟨t,R,e3,W⟩:=Y6 f2;obtain⟨k,S4,O,K⟩:=Y6 W;refine⟨J,B,S,x,G,sr,s,e1,λv H1 J1 A l r1=>⟨J1,B,G,z,N,A,s.up l,e2,λu H2 J2 n i L=>?_⟩⟩;have p:=l.trans i n.nd;refine Y x z N t R H2 J2 v u _ e3 n (RV.up i.tk i.ext _ _ r1) L λv3 H3 I h g U=>?_;have f:=p.trans g h.nd;cases t with
 |bl k' =>
  obtain⟨rfl,rfl⟩:=XX O;refine⟨_,U,?_⟩;cases k with
  |true =>
   obtain⟨w,E,e5,f5⟩:=Y6 K;refine⟨I,B,_,w,E,h,s.up f,e5,λT V J5 m j P=>?_⟩;exact q z w E d S' V J5 u T Q f5 m (RV.up j.tk j.ext _ _ (RV.up g.tk g.ext _ _ L)) P (y.shift (f.trans j m.nd))
  |false =>
   obtain⟨rfl,rfl⟩:=XX K;exact y _ H3 I h f (by rfl)
 |_=>cases O
theorem rj(h:Yz X.K (Zj X (jG op)) o)(f:Yz X.K (Zj X (jG e)) o')(g:PE X a (Zu X.K ca))(j:PE X b (Zu X.K cb))(i:PE X c (Zu X.K cc))(hm:dN [op,e] [b,c]=Z5):
  PE X (.Compare a [op,e] [b,c] pos) (Zu X.K (Sw o o' ca cb cc)):=(zX Sy Sy g j i hm).weak (Ff h f)
theorem rh(h:Yz X.K (Zj X (jG op)) o)(f:Yz X.K (Zj X (jG e)) o')(g:PE X a (Zu X.K ca))(j:PE X b (Zu X.K cb))(i:PE X c (Zu X.K cc))(hm:dN [op,e] [b,c]=Z5):
  PT X (.Compare a [op,e] [b,c] pos) (YM X.K (YH (Sw o o' ca cb cc))):=(zW Sy Sy g j i hm).weak (Fg (Ff h f))
def Fe(K:yS)(r:V->Hp->VK->Prop)(o:D->M D):Prop:=∀x S d e H J v Q,o x S=.ok d e->SR K J S H->RV K H J x v->Xq K J H d e Q->r v H Q
theorem rd(i:Fe X.K (Sx X (unaryOp op)) o)(q:PE X a (Zu X.K ca)):PE X (.UnaryOp op a pos) (Zu X.K (RD o ca)):=(Ay ry q).weak (by
 rintro Z H Q ⟨J,B,S,d,j,r,p,e,y⟩;obtain⟨x,h,k,e⟩:=Y6 e;exact⟨J,B,S,x,h,r,p,k,λv l n g f m=>i x h d j l n v Q e g m (y.shift f)⟩)
theorem KM(q:SR X.K J S H)(p:RE X.K H J B Z)(e:YH ca B S=.ok k l)(h:∀f g,SR X.K g l f->ZJ X.K J g H f->Q (.bl k) f):Zu X.K ca Z H Q:=by
 obtain⟨x,o,m,e⟩:=Y6 e;refine⟨J,B,S,x,o,q,p,m,λv f g j i n=>?_⟩;cases x with
 |bl r =>
  obtain⟨rfl,rfl⟩:=XX e;subst n;exact h f g j i
 |_=>cases e
theorem qZ{ZK:yE}(o:PE X a (Zu X.K ca))(q:PE X (.BoolOp .And (b::ZK) pos) (Zu X.K cb)):PE X (.BoolOp .And (a::b::ZK) pos) (Zu X.K (Tx ca cb)):=(A7 o q).weak (by
 rintro Z H Q ⟨J,B,S,d,j,p,i,e,y⟩;obtain⟨k,n,l,e⟩:=Y6 e;refine KM p i l λm h g f=>⟨k,rfl,?_⟩
 cases k with
 |true=>rw[if_pos rfl]at e ⊢;exact⟨h,B,n,d,j,g,i.up f,e,y.shift f⟩
 | false=>rw[if_neg qB4]at e ⊢;obtain⟨rfl,rfl⟩:=XX e;exact y _ m h g f (by rfl))
theorem qY{ZK:yE}(o:PE X a (Zu X.K ca))(q:PE X (.BoolOp .Or (b::ZK) pos) (Zu X.K cb)):PE X (.BoolOp .Or (a::b::ZK) pos) (Zu X.K (Ue ca cb)):=(A6 o q).weak (by
 rintro Z H Q ⟨J,B,S,d,j,p,i,e,y⟩;obtain⟨k,n,l,e⟩:=Y6 e;refine KM p i l λm h g f=>⟨k,rfl,?_⟩
 cases k with
 |false=>rw[if_neg qB4]at e ⊢;exact⟨h,B,n,d,j,g,i.up f,e,y.shift f⟩
 | true=>rw[if_pos rfl]at e ⊢;obtain⟨rfl,rfl⟩:=XX e;exact y _ m h g f (by rfl))
theorem qX(h:PE X a (Zu X.K ca)):PE X (.UnaryOp .Not a pos) (Zu X.K (Qk ca)):=(A5 h).weak (by
 rintro Z H Q ⟨J,B,S,d,p,m,n,e,y⟩;obtain⟨k,o,l,e⟩:=Y6 e;obtain⟨rfl,rfl⟩:=XX e;exact KM m n l λj i f g=>⟨k,rfl,y _ j i f g (by rfl)⟩)
theorem qW(ht:PT X t (YM X.K j))(o:PE X a (Zu X.K ca))(q:PE X b (Zu X.K cb)):PE X (.IfExp t a b pos) (Zu X.K (RC j ca cb)):=(A3 ht o q).weak (by
 rintro Z H Q ⟨J,B,S,d,l,p,i,e,y⟩;obtain⟨k,h,n,e⟩:=Y6 e;refine⟨J,B,S,k,h,p,i,n,λr m g f=>?_⟩;cases k with
 |true=>rw[if_pos rfl]at e ⊢;exact⟨m,B,h,d,l,g,i.up f,e,y.shift f⟩
 | false=>rw[if_neg qB4]at e ⊢;exact⟨m,B,h,d,l,g,i.up f,e,y.shift f⟩)
variable {ta tb:CT}
theorem qV{ZK:yE}(o:PT X a (YM X.K ta))(q:PW X (.BoolOp .And (b::ZK) pos) (YM X.K tb)):PW X (.BoolOp .And (a::b::ZK) pos) (YM X.K (Qj ta tb)):=(Bd o q).weak (by
 rintro Z H Q ⟨J,B,S,d,l,p,j,e,y⟩;obtain⟨k,h,m,e⟩:=Y6 e;refine⟨J,B,S,k,h,p,j,m,λn i g f=>?_⟩;cases k with
 |true=>rw[if_pos rfl]at e ⊢;exact⟨i,B,h,d,l,g,j.up f,e,y.shift f⟩
 | false=>rw[if_neg qB4]at e ⊢;obtain⟨rfl,rfl⟩:=XX e;exact y n i g f)
theorem qU{ZK:yE}(o:PT X a (YM X.K ta))(q:PW X (.BoolOp .Or (b::ZK) pos) (YM X.K tb)):PW X (.BoolOp .Or (a::b::ZK) pos) (YM X.K (X7 ta tb)):=(Bc o q).weak (by
 rintro Z H Q ⟨J,B,S,d,l,p,j,e,y⟩;obtain⟨k,h,m,e⟩:=Y6 e;refine⟨J,B,S,k,h,p,j,m,λn i g f=>?_⟩;cases k with
 |false=>rw[if_neg qB4]at e ⊢;exact⟨i,B,h,d,l,g,j.up f,e,y.shift f⟩
 | true=>rw[if_pos rfl]at e ⊢;obtain⟨rfl,rfl⟩:=XX e;exact y n i g f)
theorem qT(h:PT X a (YM X.K ta)):PT X (.UnaryOp .Not a pos) (YM X.K (W2 ta)):=(Bb h).weak (by
 rintro Z H Q ⟨J,B,S,d,p,m,n,e,y⟩;obtain⟨k,o,l,e⟩:=Y6 e;obtain⟨rfl,rfl⟩:=XX e;exact⟨J,B,S,k,_,m,n,l,λj i f g=>y j i f g⟩)
def Xp(x:D):M Bool:=λS=>match x with
 |.non=>.ok Z5 S
 |.bl b=>.ok b S
 |.int i=>.ok (i != 0) S
 |.str y=>if y.length<=jF then .ok ((y.length:Int) != 0) S else .bad
 |.tup e=>.ok (!e.isEmpty) S
 |.lst n=>match S[n]? with
  |some (.lst e)=>.ok (!e.isEmpty) S
  |_=>.bad
 |.dct n=>match S[n]? with
  |some (.dk f)=>.ok (!f.isEmpty) S
  |_=>.bad
 |.ty _=>.bad
 |.rol e=>.ok (!e.isEmpty) S
def Y7(a:C):CT:=fun B=>YU (a B) Xp
theorem NX{K:yS}(h:RVs K H J ds e):ds.isEmpty=e.isEmpty:=by
 cases ds with
 |nil=>unfold RVs at h;subst h;rfl
 |cons d ds=>unfold RVs at h;obtain⟨v,f,rfl,_⟩:=h;rfl
theorem SR.get{K:yS}(f:SR K J S H){n:Nat}{a:yR}(h:J[n]?=Z9 a)(e:S[n]?=Z9 o):OR K H J a o:=f.obj n a o h e
theorem qS{K:yS}(e:Xp x S=.ok k m)(s:SR K J S H)(r:RV K H J x v):m=S/\SO K v H k:=by
 unfold Xp at e;cases x with
 |non=>cases e;subst r;exact⟨rfl,rfl⟩
 |bl b=>cases e;subst r;exact⟨rfl,rfl⟩
 |int i=>cases e;subst r;exact⟨rfl,rfl⟩
 |str y =>
  subst r;dsimp only at e;split at e
  .rename_i t;cases e;exact⟨rfl,t,rfl⟩
  .cases e
 |tup o =>
  cases e;obtain⟨p,g,rfl,q,f⟩:=r;exact⟨rfl,.inr (.inl ⟨g,Zn.of q,by rw[NX f]⟩)⟩
 |lst n =>
  obtain⟨a,rfl,l⟩:=r;dsimp only at e;split at e
  .rename_i o h;cases e;obtain⟨g,j,f⟩:=s.get l h;exact⟨rfl,.inl ⟨g,YQ.of j,by rw[NX f]⟩⟩
  .cases e
 |dct n =>
  obtain⟨a,rfl,l⟩:=r;dsimp only at e;split at e
  .rename_i u h;cases e;obtain⟨w,j,f⟩:=s.get l h;refine⟨rfl,.inr (.inr ⟨w,j,?_⟩)⟩;have:=NX f.2;rw[qU6,qU6]at this;rw[this]
  .cases e
 |ty _=>cases e
 |rol o =>
  cases e;obtain⟨p,g,rfl,q,f⟩:=r;exact⟨rfl,.inl ⟨g,q.sq,by rw[NX f]⟩⟩
theorem qR(p:PE X a (Zu X.K ca))(he:∀f,uT a X.env f=(do let v <- f;uH a.pos;fH [v] (truthy v))):PT X a (YM X.K (Y7 ca)):=(zT p he).weak (by
 rintro Z H Q ⟨J,B,S,d,r,q,o,e,y⟩;obtain⟨x,m,j,e⟩:=Y6 e;refine⟨J,B,S,x,m,q,o,j,λv k n g h l=>?_⟩;obtain⟨rfl,i⟩:=qS e g l;exact⟨d,i,y k n g h⟩)
variable {es:yE}{cs:List C}
theorem KJ:PA X [] (YB X.K (ZQ [])):=Hd.weak (by
 rintro Z H Q ⟨J,B,S,d,g,f,h,e,y⟩;obtain⟨rfl,rfl⟩:=XX e;exact y [] H J f (ZJ.refl _ _ _) RVs.nil)
theorem NW(w:PE X a (Zu X.K ca))(u:PA X es (YB X.K (ZQ cs)))(hs:jO (a::es) X.env=(Z5,wE a X.env)::jO es X.env):PA X (a::es) (YB X.K (ZQ (ca::cs))):=(Hc w u hs).weak (by
 rintro Z H Q ⟨J,B,S,d,m,A,k,e,y⟩;obtain⟨x,j,n,e⟩:=Y6 e;obtain⟨o,E,p,e⟩:=Y6 e;obtain⟨rfl,rfl⟩:=XX e;exact⟨J,B,S,x,j,A,k,n,λv D t i g q=>⟨t,B,j,o,m,i,k.up g,p,λl s r h f z=>y (v::l) s r h (g.trans f h.nd) (.cons (RV.up f.tk f.ext _ _ q) z)⟩⟩)
theorem KI:∀{f:List C}{S S':ZX}{xs:List D},ZQ f B S=.ok xs S'->xs.length=f.length
 |[],S,S',xs,e=>by obtain⟨rfl,rfl⟩:=XX e;rfl
 |c::f,S,S',xs,e=>by obtain⟨x,h,i,e⟩:=Y6 e;obtain⟨k,j,g,e⟩:=Y6 e;obtain⟨rfl,rfl⟩:=XX e;rw[qC9,qC9,KI g]
theorem NV{K:yS}(i:SR K J S H)(h:H p=Z8)(r:RVs K H J ds e):SR K J S (ZD H p (.tup e))/\ZJ K J J H (ZD H p (.tup e))/\RV K (ZD H p (.tup e)) J (.tup ds) (.ref p):=by obtain⟨g,f⟩:=i.other h;exact⟨g,f,by exact⟨p,e,rfl,Xt,RVs.up f.tk f.ext _ _ r⟩⟩
theorem qQ{K:yS}(f:SR K J S H)(h:H p=Z8)(r:RVs K H J ds e):SR K (J++[p]) (S++[.lst ds]) (ZD H p (.lst e))/\ZJ K J (J++[p]) H (ZD H p (.lst e))/\RV K (ZD H p (.lst e)) (J++[p]) (.lst S.length) (.ref p):=by obtain⟨g,i⟩:=f.push (o':=.lst ds) h ⟨e,Xt,RVs.up (RF h) ⟨[p],rfl⟩ _ _ r⟩;exact⟨g,i,by exact⟨p,rfl,by rw[<- f.len,qA2 (qA6 _),qJ4];rfl⟩⟩
theorem Xq.newL{K:yS}(y:Xq K J H (.lst S.length) (S++[.lst ds]) Q)(i:SR K J S H)(h:H p=Z8)(r:RVs K H J ds e):Q (.ref p) (ZD H p (.lst e)):=by obtain⟨g,j,f⟩:=qQ i h r;exact y _ _ _ g j f
theorem Xq.newT{K:yS}(y:Xq K J H (.tup ds) S Q)(i:SR K J S H)(h:H p=Z8)(r:RVs K H J ds e):Q (.ref p) (ZD H p (.tup e)):=by obtain⟨g,j,f⟩:=NV i h r;exact y _ _ _ g j f
theorem qP{x1}(h:PA X es (YB X.K (ZQ cs)))(q:cs.length<=1000):PE X (.Tuple es x1 pos) (Zu X.K (Y9 (ZQ cs))):=(zO h).weak (by
 rintro Z H Q ⟨J,B,S,d,k,o,n,e,y⟩;obtain⟨l,v,i,e⟩:=Y6 e;obtain⟨rfl,rfl⟩:=XX e;refine⟨J,B,S,l,k,o,n,i,λr s w g f j=>⟨?_,λp m=>(y.shift f).newT g m j⟩⟩;have t:=KI i;have u:=j.len;exact qI5 (GU (by lia)))
theorem qO(h:PA X es (YB X.K (ZQ cs)))(q:cs.length<=1000):PE X (.List es pos) (Zu X.K (Y8 (ZQ cs))):=(zN h).weak (by
 rintro Z H Q ⟨J,B,S,d,s,o,n,e,y⟩;obtain⟨k,m,i,e⟩:=Y6 e;cases e;refine⟨J,B,S,k,m,o,n,i,λr t w g f j=>⟨?_,λp l=>(y.shift f).newL g l j⟩⟩;have u:=KI i;have v:=j.len;exact qI5 (GU (by lia)))
theorem qN(f:Yz X.K (KO X) o)(e:PE X a (Zu X.K ca))(g:PE X b (Zu X.K cb))(hs:LX b):PE X (.Subscript a b pos) (Zu X.K (ZU o ca cb)):=(zq rx e g hs).weak (NY f)
def CO:=ZT->M (yG)
def Xg:CO:=λ_=>ret Z8
def Sv(x:D):M Int:=match x with
 |.int i=>ret i
 |_=>bad
def Xf(a:C):CO:=fun B=>YU (a B) λx=>YU (Sv x) λi=>ret (Z9 i)
def KH(K:yS)(J:yC)(H:Hp)(b:yG)(g:ZX)(Q:yG->Hp->Prop):Prop:=∀e f,SR K f g e->ZJ K J f H e->Q b e
inductive U3(K:yS)(c:CO)(Z:St)(H:Hp)(Q:yG->Hp->Prop):Prop
 |mk (J:yC) (B:ZT) (S:ZX) (d:yG) (S':ZX) (sr:SR K J S H) (re:RE K H J B Z) (e:c B S=.ok d S') (y:KH K J H d S' Q)
theorem PO.weak(h:PO X e t)(w:∀Z H Q,t' Z H Q->t Z H Q):PO X e t':=λf s Z H Q I q=>h f s Z H Q I (w Z H Q q)
theorem qM:PO X Z8 (U3 X.K Xg):=zA.weak (by
 rintro Z H Q ⟨J,B,S,d,g,f,h,e,y⟩;obtain⟨rfl,rfl⟩:=XX e;exact y H J f (ZJ.refl _ _ _))
theorem qL(q:PE X a (Zu X.K ca)):PO X (Z9 a) (U3 X.K (Xf ca)):=(zy q).weak (by
 rintro Z H Q ⟨J,B,S,d,s,r,p,e,y⟩;obtain⟨x,n,k,e⟩:=Y6 e;obtain⟨i,t,h,e⟩:=Y6 e;obtain⟨rfl,rfl⟩:=XX e;refine⟨J,B,S,x,n,r,p,k,λv l o g f m=>?_⟩;cases x with
 |int j =>
  obtain⟨rfl,rfl⟩:=XX h;exact⟨_,m,y l o g f⟩
 | _=>cases h)
def Xe(o:D->yG->yG->M D)(a:C)(lo hi:CO):C:=fun B=>YU (a B) λx=>YU (lo B) λl=>YU (hi B) λh=>o x l h
def Fd(K:yS)(r:V->yG->yG->Hp->VK->Prop)(o:D->yG->yG->M D):Prop:=∀x l h S d e H J v Q,o x l h S=.ok d e->SR K J S H->RV K H J x v->Xq K J H d e Q->r v l h H Q
theorem qK{lo hi:Option jH}(u:Fd X.K (KN X) o)(P:PE X a (Zu X.K ca))(t:PO X lo (U3 X.K cl))(w:PO X hi (U3 X.K ch)):PE X (.Subscript a (.Slice lo hi Z8 E) pos) (Zu X.K (Xe o ca cl ch)):=(zw rr P t w).weak (by
 rintro Z H Q ⟨J,B,S,d,z,R,n,e,y⟩;obtain⟨x,r,A,e⟩:=Y6 e;obtain⟨l,s,F,e⟩:=Y6 e;obtain⟨h,q,N,e⟩:=Y6 e;refine⟨J,B,S,x,r,R,n,A,λv T L p j G=>⟨L,B,r,l,s,p,n.up j,F,λU I m i=>?_⟩⟩;have f:=j.trans i m.nd;refine⟨I,B,s,h,q,m,n.up f,N,λK O k g=>?_⟩;exact u x l h q d z K O v Q e k (RV.up g.tk g.ext _ _ (RV.up i.tk i.ext _ _ G)) (y.shift (f.trans g k.nd)))
def Wm(K:yS)(r:List V->Hp->VK->Prop)(o:List D->M D):Prop:=∀g S d f H J e Q,o g S=.ok d f->SR K J S H->RVs K H J g e->Xq K J H d f Q->r e H Q
variable {ca':CA}
theorem Fc(k:Wm X.K r o):∀Z H Q,Zu X.K (ZS o ca') Z H Q->OC r (YB X.K ca') Z H Q:=by rintro Z H Q ⟨J,B,S,d,l,t,s,e,y⟩;obtain⟨h,i,m,e⟩:=Y6 e;exact⟨J,B,S,h,i,t,s,m,λj n q g f p=>k h i d l n q j Q e g p (y.shift f)⟩
def V4(K:yS)(g:List D->M D)(n:Nat):Sp:=λe H Q E=>e.length=n/\∃J ds S d f,SR K J S H/\RVs K H J ds e/\g ds S=.ok d f/\Xq K J H d f Q
theorem qJ(m:∀ds S d g,h ds S=.ok d g->ds.length=n):∀Z H Q,Zu X.K (ZS h ca') Z H Q->L3 (V4 X.K h n) [] E0 (YB X.K ca') Z H Q:=by rintro Z H Q ⟨J,B,S,d,g,r,q,e,y⟩;obtain⟨j,l,o,e⟩:=Y6 e;refine⟨J,B,S,j,l,r,q,o,λs t p i f k=>?_⟩;rw[qG8];exact⟨by rw[<- k.len];exact m _ _ _ _ e,p,j,l,d,g,i,k,e,y.shift f⟩
end
def lim:Nat:=1048576
theorem RB(h:n<=lim):n<=sizeLine:=qD0 h (by decide)
theorem NU(h:n<lim):n<sizeLine:=qC0 h (by decide)
section
variable {K:yS}{H H' H1:Hp}{J:yC}{S:ZX}
theorem SR.same(c:SR K J S H)(d:XM H H1):SR K J S H1/\ZJ K J J H H1:=by have e:TF K H H1:=Fj d;refine⟨⟨c.len,c.nd,λn a o g i=>?_⟩,⟨⟨[],by simp,by simp⟩,λb o _ h=>d b o h,e⟩⟩;obtain⟨u,f⟩:=c.isS (qC2 g);exact(c.obj n a o g i).up e ⟨[],by simp⟩ (by rw[f];exact d _ _ f)
theorem Xq.oldT(y:Xq K J H (.tup ds) S Q)(e:SR K J S H)(c:XM H H1)(h:H1 p=Z9 (.tup a))(r:RVs K H J ds a):Q (.ref p) H1:=by obtain⟨d,b⟩:=e.same c;exact y _ _ _ d b (by exact⟨p,a,rfl,h,RVs.up b.tk b.ext _ _ r⟩)
theorem Xw:RV K H J (.int i) (.int i):=by rfl
theorem WG:RV K H J (.bl i) (.bl i):=by rfl
theorem RA:RV K H J .non .non:=by rfl
theorem Su:RV K H J (.str i) (.str i):=by rfl
theorem SR.lst(c:SR K J S H){n:Nat}(h:J[n]?=Z9 a)(b:S[n]?=Z9 (.lst xs)):∃vs,H a=Z9 (.lst vs)/\RVs K H J xs vs:=c.obj n a _ h b
def ZO(S:ZX)(n:Nat):Option (List D):=match S[n]? with
 |some (.lst a)=>Z9 a
 |_=>Z8
theorem SR.sq(c:SR K J S H)(h:J[n]?=Z9 a)(b:ZO S n=Z9 xs):∃vs,YQ K H a vs/\RVs K H J xs vs:=by
 unfold ZO at b;split at b
 .rename_i d e;cases b;obtain⟨vs,q,r⟩:=c.get h e;exact⟨vs,YQ.of q,r⟩
 .cases b
def Ss(S:ZX):D->Option (List D)
 |.tup a=>Z9 a
 |.lst n=>ZO S n
 |.rol a=>Z9 a
 |_=>Z8
theorem SR.seq(e:SR K J S H)(r:RV K H J x v)(b:Ss S x=Z9 xs):∃a vs,v=.ref a/\(YQ K H a vs∨Zn K H a vs)/\RVs K H J xs vs:=by
 unfold Ss at b;split at b
 .cases b;obtain⟨p,vs,rfl,q,c⟩:=r;exact⟨p,vs,rfl,.inr (Zn.of q),c⟩
 .obtain⟨a,rfl,d⟩:=r;obtain⟨vs,q,c⟩:=e.sq d b;exact⟨a,vs,rfl,.inl q,c⟩
 .cases b;obtain⟨p,vs,rfl,q,c⟩:=r;exact⟨p,vs,rfl,.inl q.sq,c⟩
 .cases b
theorem RVs.cons_inv(h:RVs K H J (d::ds) a):∃v ws,a=v::ws/\RV K H J d v/\RVs K H J ds ws:=by exact h
theorem RVs.nil_inv(h:RVs K H J [] a):a=[]:=by exact h
end
def Zl(g:Int->Int->Int):D->D->M D
 |.int i,.int j=>ret (.int (g i j))
 |_,_=>bad
def Zx:D->D->M D
 |.int i,.int j=>ret (.int (i+j))
 |.tup a,.tup b=>λS=>if a.length+b.length<=lim then .ok (.tup (a++b)) S else .bad
 |.lst n,.lst m=>λS=>match S[n]?,S[m]? with
  |some (.lst a),Z9 (.lst b)=>if a.length+b.length<=lim then .ok (.lst S.length) (S++[.lst (a++b)])else .bad
  |_,_=>.bad
 |.str x,.str y=>λS=>if x.length+y.length<=lim then .ok (.str (x++y)) S else .bad
 |_,_=>bad
def VD(i j:Int):Bool:=(decide (-18446744073709551616<i)&&decide (i<18446744073709551616))||(decide (-18446744073709551616<j)&&decide (j<18446744073709551616))
def Xo:D->D->M D
 |.int i,.int j=>λS=>if VD i j then .ok (.int (i*j)) S else .bad
 |_,_=>bad
def W7:D->D->M D
 |.int i,.int j=>λS=>if 0<j then .ok (.int (i % j)) S else .bad
 |_,_=>bad
def WU:D->D->M D
 |.int i,.int j=>λS=>if 0<j/\j<1073741824 then .ok (.int (i / j)) S else .bad
 |_,_=>bad
def VC:D->D->M D
 |.int i,.int j=>λS=>if 0<=j/\j<=1000000/\i.natAbs<18446744073709551616 then .ok (.int (i ^ j.toNat)) S else .bad
 |_,_=>bad
def Yx:D->D->M D
 |.int i,.int j=>λS=>if 0<=j/\j<=1000000/\i.natAbs<18446744073709551616 then .ok (.int (i*2 ^ j.toNat)) S else .bad
 |_,_=>bad
def VB:D->D->M D
 |.int i,.int j=>λS=>if 0<=j then .ok (.int (i / 2 ^ j.toNat)) S else .bad
 |_,_=>bad
def V3:D->M D
 |.int i=>ret (.int (-i))
 |_=>bad
section
variable {X:Cx}
theorem NT(h:YX X (jU op) (VJ λi j=>.int (g i j))):Yz X.K (Zj X (jU op)) (Zl g):=by
 intro x y S d k H J v u Q e c f a b;unfold Zl at e;split at e
 .obtain⟨rfl,rfl⟩:=XX e;subst f a;exact⟨_,h,_,_,rfl,rfl,b.self c Xw⟩
 .cases e
theorem qI:Yz X.K (Zj X (jU .Sub)) (Zl λi j=>i - j):=NT Av
theorem qH:Yz X.K (Zj X (jU .BitAnd)) (Zl jT):=NT An
theorem qG:Yz X.K (Zj X (jU .BitOr)) (Zl vZ):=NT Am
theorem qF:Yz X.K (Zj X (jU .BitXor)) (Zl m7):=NT Al
theorem qE:Yz X.K (Zj X (jU .Add)) Zx:=by
 intro x y S d A H J v u Q e a g i h;unfold Zx at e;split at e
 .obtain⟨rfl,rfl⟩:=XX e;subst g i;exact⟨_,Aw,_,_,rfl,rfl,h.self a Xw⟩
 .try dsimp only at e
  split at e
  .rename_i b;cases e;obtain⟨p,k,rfl,n,c⟩:=g;obtain⟨l,m,rfl,j,f⟩:=i;exact⟨_,xB,p,l,k,m,rfl,rfl,n,j,by rw[<- c.len,<- f.len];exact RB b,λt B r sq=>h.oldT a r sq (c.append f)⟩
  .cases e
 .try dsimp only at e
  obtain⟨p,rfl,w⟩:=g;obtain⟨l,rfl,z⟩:=i;split at e
  .rename_i C D o s;split at e
   .rename_i b;cases e;obtain⟨k,n,c⟩:=a.lst w o;obtain⟨m,j,f⟩:=a.lst z s;exact⟨_,yp,p,l,k,m,rfl,rfl,n,j,by rw[<- c.len,<- f.len];exact RB b,λt q=>h.newL a q (c.append f)⟩
   .cases e
  .cases e
 .try dsimp only at e
  split at e
  .rename_i b;cases e;subst g i;exact⟨_,zS,_,_,rfl,rfl,RB b,h.self a Su⟩
  .cases e
 .cases e
theorem qD(h:VD i j=Z7):Uv i j:=by unfold VD at h;simp only[qJ9,qD3,decide_eq_true_eq]at h;exact h
theorem qC:Yz X.K (Zj X (jU .Mult)) Xo:=by
 intro x y S d g H J v u Q e c f b h;unfold Xo at e;split at e
 .try dsimp only at e
  split at e
  .rename_i a;cases e;subst f b;exact⟨_,Au,_,_,rfl,rfl,qD a,h.self c Xw⟩
  .cases e
 .cases e
theorem qB:Yz X.K (Zj X (jU .Mod)) W7:=by
 intro x y S d g H J v u Q e c f b h;unfold W7 at e;split at e
 .try dsimp only at e
  split at e
  .rename_i a;cases e;subst f b;exact⟨_,Ar,_,_,rfl,rfl,a,h.self c Xw⟩
  .cases e
 .cases e
theorem qA:Yz X.K (Zj X (jU .FloorDiv)) WU:=by
 intro x y S d g H J v u Q e c f b h;unfold WU at e;split at e
 .try dsimp only at e
  split at e
  .rename_i a;cases e;subst f b;exact⟨_,As,_,_,rfl,rfl,a,h.self c Xw⟩
  .cases e
 .cases e
theorem qz:Yz X.K (Zj X (jU .Pow)) VC:=by
 intro x y S d g H J v u Q e c f b h;unfold VC at e;split at e
 .try dsimp only at e
  split at e
  .rename_i a;cases e;subst f b;exact⟨_,Aq,_,_,rfl,rfl,a,h.self c Xw⟩
  .cases e
 .cases e
theorem qy:Yz X.K (Zj X (jU .LShift)) Yx:=by
 intro x y S d g H J v u Q e c f b h;unfold Yx at e;split at e
 .try dsimp only at e
  split at e
  .rename_i a;cases e;subst f b;exact⟨_,Ap,_,_,rfl,rfl,a,h.self c Xw⟩
  .cases e
 .cases e
theorem qx:Yz X.K (Zj X (jU .RShift)) VB:=by
 intro x y S d g H J v u Q e c f b h;unfold VB at e;split at e
 .try dsimp only at e
  split at e
  .rename_i a;cases e;subst f b;exact⟨_,Ao,_,_,rfl,rfl,a,h.self c Xw⟩
  .cases e
 .cases e
theorem qw:Fe X.K (Sx X (unaryOp .USub)) V3:=by
 intro x S d c H J v Q e a b h;unfold V3 at e;split at e
 .obtain⟨rfl,rfl⟩:=XX e;subst b;exact⟨_,Aj,_,rfl,h.self a Xw⟩
 .cases e
def XH(g:Int->Int->Bool):D->D->M D
 |.int i,.int j=>ret (.bl (g i j))
 |_,_=>bad
theorem KG(h:YX X (jG op) (VJ λi j=>.bl (g i j))):Yz X.K (Zj X (jG op)) (XH g):=by
 intro x y S d k H J v u Q e c f a b;unfold XH at e;split at e
 .obtain⟨rfl,rfl⟩:=XX e;subst f a;exact⟨_,h,_,_,rfl,rfl,b.self c WG⟩
 .cases e
theorem qv:Yz X.K (Zj X (jG .LtE)) (XH λi j=>decide (i<=j)):=KG Ae
theorem qu:Yz X.K (Zj X (jG .Gt)) (XH λi j=>decide (j<i)):=KG Ad
theorem qt:Yz X.K (Zj X (jG .GtE)) (XH λi j=>decide (j<=i)):=KG Ac
def Wz:List D->Option (yA)
 |[]=>Z9 []
 |.int i::r=>(Wz r).map (i::·)
 |_::_=>Z8
theorem UH{K:yS}{H:Hp}{J:yC}:∀{ds:List D}{ns:yA}{vs:List V},Wz ds=Z9 ns->RVs K H J ds vs->vs=ns.map V.int
 |[],ns,vs,e,r=>by cases e;rw[r.nil_inv];rfl
 |.int i::ds,ns,vs,e,r=>by
  obtain⟨v,c,rfl,b,a⟩:=r.cons_inv;unfold Wz at e;cases q:Wz ds with
  |none=>rw[q]at e;cases e
  |some d =>
   rw[q]at e;cases e;subst b;rw[UH q a];rfl
 |.non::ds,ns,vs,e,r=>by cases e
 |.bl _::ds,ns,vs,e,r=>by cases e
 |.str _::ds,ns,vs,e,r=>by cases e
 |.ty _::ds,ns,vs,e,r=>by cases e
 |.tup _::ds,ns,vs,e,r=>by cases e
 |.lst _::ds,ns,vs,e,r=>by cases e
 |.dct _::ds,ns,vs,e,r=>by cases e
 |.rol _::ds,ns,vs,e,r=>by cases e
def V2:D->D->M D
 |.int i,.int j=>ret (.bl (decide (i<j)))
 |.tup a,.tup c=>λS=>match Wz a,Wz c with
  |some d,Z9 b=>.ok (.bl (HT.lexLt d b)) S
  |_,_=>.bad
 |_,_=>bad
theorem qr(q:X.A.units<vN):Yz X.K (Zj X (jG .Lt)) V2:=by
 intro x y S d w H J v u Q e c a b h;unfold V2 at e;split at e
 .obtain⟨rfl,rfl⟩:=XX e;subst a b;exact⟨_,zNZ,_,_,rfl,rfl,h.self c WG⟩
 .split at e
  .rename_i g n i k;cases e;unfold RV at a b;obtain⟨p,t,rfl,s,m⟩:=a;obtain⟨j,z,rfl,f,r⟩:=b;have l:=UH i m;have o:=UH k r;subst l o;exact⟨_,zu q,p,j,g,n,rfl,rfl,Zn.of s,Zn.of f,h.self c WG⟩
  .cases e
 .cases e
def Zz:Nat->ZX->D->Option vW
 |0,_,_=>Z8
 |n+1,S,d=>match d with
  |.non=>Z9 .none
  |.bl b=>Z9 (.bool b)
  |.int i=>Z9 (.int i)
  |.str x=>if PyData.strOk x then Z9 (.str x)else Z8
  |.tup a=>(a.mapM (Zz n S)).map .tuple
  |.lst k=>match ZO S k with
   |some a=>(a.mapM (Zz n S)).map .list
   |none=>Z8
  |_=>Z8
theorem KF{K:yS}{H:Hp}{J:yC}{S:ZX}{n:Nat}(c:∀d v p,Zz n S d=Z9 p->RV K H J d v->Rp K H (λ_=>True) v p/\p.canLay0=Z7/\p.depth<=n):∀(xs:List D) (vs:List V) (ps:List vW),xs.mapM (Zz n S)=Z9 ps->RVs K H J xs vs->RpL K H (λ_=>True) vs ps/\PyData.canLayAll0 ps=Z7/\PyData.depthAll ps<=n
 |[],vs,ps,e,r=>by simp at e;subst e;rw[r.nil_inv];exact⟨.nil,rfl,qC6 _⟩
 |d::ds,vs,ps,e,r=>by
  obtain⟨v,j,rfl,i,k⟩:=r.cons_inv;rw[qG6]at e;cases q:Zz n S d with
  |none=>rw[q]at e;cases e
  |some p =>
   cases b:ds.mapM (Zz n S)with
   |none=>rw[q,b]at e;cases e
   |some a =>
    rw[q,b]at e;cases e;obtain⟨g,h,l⟩:=c d v p q i;obtain⟨b1,f,m⟩:=KF c ds j a b k;refine⟨.cons g b1,?_,?_⟩
    .show(PyData.canLay0 p&&PyData.canLayAll0 a)=Z7;rw[h,f];rfl
    .show max p.depth (PyData.depthAll a)<=n
     lia
theorem Tw{K:yS}{H:Hp}{J:yC}{S:ZX}(o:SR K J S H):∀(n:Nat) (d:D) (v:V) (p:vW),Zz n S d=Z9 p->RV K H J d v->Rp K H (λ_=>True) v p/\p.canLay0=Z7/\p.depth<=n
 |0,d,v,p,e,r=>by cases e
 |n+1,d,v,p,e,r=>by
  unfold Zz at e;cases d with
  |non=>cases e;subst r;exact⟨.non,rfl,qC6 _⟩
  |bl b=>cases e;subst r;exact⟨.bl b,rfl,qC6 _⟩
  |int i=>cases e;subst r;exact⟨.int i,rfl,qC6 _⟩
  |str x =>
   dsimp only at e;split at e
   .rename_i t;cases e;subst r;exact⟨.str x,t,qC6 _⟩
   .cases e
  |tup c =>
   dsimp only at e;cases q:c.mapM (Zz n S)with
   |none=>rw[q]at e;cases e
   |some h =>
    rw[q]at e;cases e;obtain⟨a,g,rfl,m,l⟩:=r;obtain⟨b1,f,j⟩:=KF (λd v p e r=>Tw o n d v p e r) c g h q l;exact⟨.tup (Zn.of m) b1,f,qU7 j⟩
  |lst k =>
   dsimp only at e;split at e
   .rename_i c s;cases q:c.mapM (Zz n S)with
    |none=>rw[q]at e;cases e
    |some h =>
     rw[q]at e;cases e;obtain⟨a,rfl,u⟩:=r;obtain⟨g,m,l⟩:=o.sq u s;obtain⟨b1,f,j⟩:=KF (λd v p e r=>Tw o n d v p e r) c g h q l;exact⟨.lst True.intro m b1,f,qU7 j⟩
   .cases e
  |dct k=>cases e
  |ty k=>cases e
  |rol k=>cases e
def Xx:D->D->M D:=λx y S=>match x,y with
 |.str a,.str b=>.ok (.bl (decide (a=b))) S
 |_,_=>match Zz 40 S x,Zz 40 S y with
  |some p,Z9 q=>.ok (.bl (PyData.eqv p q)) S
  |_,_=>.bad
def KE:D->D->M D:=λx y S=>match x,y with
 |.lst a,.lst b=>match ZO S a,ZO S b with
  |some c,Z9 d=>if c.length=d.length then .bad else .ok (.bl Z7) S
  |_,_=>.bad
 |_,_=>.bad
def Wk:D->D->M D:=λx y S=>match x,y with
 |.str a,.str b=>.ok (.bl (!decide (a=b))) S
 |_,_=>match Zz 40 S x,Zz 40 S y with
  |some p,Z9 q=>.ok (.bl (!PyData.eqv p q)) S
  |_,_=>KE x y S
theorem qq(n:X.A.units+64<vN):Yz X.K (Zj X (jG .Eq)) Xx:=by
 intro x y S d o H J v u Q e c f g h;unfold Xx at e;split at e
 .rename_i a b;cases e;subst f g;refine⟨_,Ag,rfl,?_⟩;have z:decide (V.str a=V.str b)=decide (a=b):=by simp
  rw[z];exact h.self c WG
 .split at e
  .rename_i p q k m;cases e;obtain⟨j,l,r⟩:=Tw c 40 x v p k f;obtain⟨b1,i,s⟩:=Tw c 40 y u q m g;exact⟨_,wy n,_,_,p,q,j,b1,⟨l,by lia⟩,⟨i,by lia⟩,h.self c WG⟩
  .cases e
theorem qp(i:X.A.units+64<vN):Yz X.K (Zj X (jG .NotEq)) Wk:=by
 intro x y S d G H J v u Q e c f g h;unfold Wk at e;split at e
 .rename_i a b;cases e;unfold RV at f g;subst f g;refine⟨_,Af,rfl,?_⟩;have z:decide (V.str a=V.str b)=decide (a=b):=by simp
  rw[z];exact h.self c WG
 .split at e
  .rename_i p q o t;cases e;obtain⟨m,s,K⟩:=Tw c 40 x v p o f;obtain⟨b1,l,L⟩:=Tw c 40 y u q t g;exact⟨_,wx i,_,_,p,q,m,b1,⟨s,by lia⟩,⟨l,by lia⟩,h.self c WG⟩
  .unfold KE at e;split at e
   .split at e
    .rename_i I M r w;split at e
     .cases e
     .rename_i n;cases e;unfold RV at f g;obtain⟨a,rfl,B⟩:=f;obtain⟨b,rfl,F⟩:=g;obtain⟨C,E,A⟩:=c.sq B r;obtain⟨k,j,D⟩:=c.sq F w;exact⟨_,wu i,a,b,C,k,rfl,rfl,E,j,by rw[<- A.len,<- D.len];exact n,h.self c WG⟩
    .cases e
   .cases e
def D.isNon:D->Bool
 |.non=>Z7
 |_=>Z5
theorem Fb{K:yS}(r:RV K H J x v):decide (v=.non)=x.isNon:=by
 cases x with
 |non=>unfold RV at r;subst r;rfl
 |bl _=>unfold RV at r;subst r;rfl
 |int _=>unfold RV at r;subst r;rfl
 |str _=>unfold RV at r;subst r;rfl
 |ty _=>unfold RV at r;subst r;rfl
 |tup _=>unfold RV at r;obtain⟨_,_,rfl,_⟩:=r;rfl
 |lst _=>unfold RV at r;obtain⟨_,rfl,_⟩:=r;rfl
 |dct _=>unfold RV at r;obtain⟨_,rfl,_⟩:=r;rfl
 |rol _=>unfold RV at r;obtain⟨_,_,rfl,_⟩:=r;rfl
def Qh:D->D->M D
 |x,.non=>ret (.bl x.isNon)
 |.bl a,.bl b=>ret (.bl (a == b))
 |_,_=>bad
def Sr:D->D->M D
 |x,.non=>ret (.bl (!x.isNon))
 |.bl a,.bl b=>ret (.bl (a != b))
 |_,_=>bad
theorem qo:Yz X.K (Zj X (jG .Is)) Qh:=by
 intro x y S d f H J v u Q e b c a h;unfold Qh at e;split at e
 .obtain⟨rfl,rfl⟩:=XX e;exact⟨_,Ab,a,by rw[Fb c];exact h.self b WG⟩
 .obtain⟨rfl,rfl⟩:=XX e;subst c a;exact⟨_,xE,_,_,rfl,rfl,h.self b WG⟩
 .cases e
theorem qm:Yz X.K (Zj X (jG .IsNot)) Sr:=by
 intro x y S d f H J v u Q e b c a h;unfold Sr at e;split at e
 .obtain⟨rfl,rfl⟩:=XX e;exact⟨_,Aa,a,by rw[Fb c];exact h.self b WG⟩
 .obtain⟨rfl,rfl⟩:=XX e;subst c a;exact⟨_,xD,_,_,rfl,rfl,h.self b WG⟩
 .cases e
def XS:D->Option V
 |.non=>Z9 .non
 |.bl b=>Z9 (.bl b)
 |.int i=>Z9 (.int i)
 |.str x=>Z9 (.str x)
 |_=>Z8
theorem E9{K:yS}(e:XS x=Z9 w)(r:RV K H J x v):v=w:=by
 cases x with
 |non=>cases e;exact r
 |bl _=>cases e;exact r
 |int _=>cases e;exact r
 |str _=>cases e;exact r
 |_=>cases e
theorem E8{K:yS}{H:Hp}{J:yC}:∀{ds:List D}{vs ws:List V},ds.mapM XS=Z9 ws->RVs K H J ds vs->vs=ws
 |[],vs,ws,e,r=>by simp at e;subst e;exact r.nil_inv
 |d::ds,vs,ws,e,r=>by
  obtain⟨v,g,rfl,f,c⟩:=r.cons_inv;rw[qG6]at e;cases q:XS d with
  |none=>rw[q]at e;cases e
  |some w =>
   cases a:ds.mapM XS with
   |none=>rw[q,a]at e;cases e
   |some b =>
    rw[q,a]at e;cases e;rw[E9 q f,E8 a c]
def WT:D->Option ZI
 |.int i=>Z9 (.inl i)
 |.str x=>Z9 (.inr x)
 |_=>Z8
theorem Rz{K:yS}(e:WT x=Z9 k)(r:RV K H J x v):v=kV k:=by
 cases x with
 |int _=>cases e;exact r
 |str _=>cases e;exact r
 |_=>cases e
def YA{a:Type}[DecidableEq a](kvs:List (a×D))(k:a):Option D:=(kvs.find? λb=>decide (b.1=k)).map (·.2)
def Yw{b:Type}[DecidableEq b](kvs:List (b×D))(k:b)(v:D):List (b×D) :=
 if(kvs.any λa=>decide (a.1=k))=Z7 then kvs.map (λa=>if a.1=k then(a.1,v)else a)else kvs++[(k,v)]
section
variable {κ:Type} [DecidableEq κ] {K:yS}{H:Hp}{J:yC}
theorem YV.cons_inv{b:List (κ×V)}(h:YV K H J (p::kvs) b):∃q us,b=q::us/\p.1=q.1/\RV K H J p.2 q.2/\YV K H J kvs us:=by
 obtain⟨a,c⟩:=h;rw[qB8]at a c;obtain⟨v,g,e,f,d⟩:=c.cons_inv;cases b with
 |nil=>simp at a
 |cons q us =>
  rw[qB8]at a e;cases e;rw[qL0.injEq]at a;exact⟨q,us,rfl,a.1,f,a.2,d⟩
theorem YV.val:∀{kvs:List (κ×D)}{ws:List (κ×V)},YV K H J kvs ws->(∀d,YA kvs k=Z9 d->∃v,Yq ws k=Z9 v/\RV K H J d v)/\(YA kvs k=Z8->Yq ws k=Z8)
 |[],ws,h=>by
  have:ws=[]:=by have:=h.1;cases ws with|nil=>rfl|cons a b=>simp at this
  subst this;exact⟨λd e=>(by cases e),λ_=>rfl⟩
 |p::kvs,ws,h=>by
  obtain⟨q,m,rfl,f,i,j⟩:=h.cons_inv;obtain⟨g,l⟩:=YV.val j;by_cases hk:p.1=k
  .have c:YA (p::kvs) k=Z9 p.2:=by simp[YA,hk]
   rw[c,OA (f▸hk)];exact⟨λd e=>by cases e;exact⟨_,rfl,i⟩,λe=>by cases e⟩
  .have c:YA (p::kvs) k=YA kvs k:=by simp[YA,hk]
   rw[c,Oz (f▸hk)];exact⟨g,l⟩
theorem YV.nil:YV K H J ([]:List (κ×D)) []:=⟨rfl,RVs.nil⟩
theorem YV.cons{a:List (κ×V)}(r:RV K H J d v)(h:YV K H J kvs a):YV K H J ((k,d)::kvs) ((k,v)::a):=⟨by rw[qB8,qB8,h.1],by exact .cons r h.2⟩
theorem YV.any:∀{kvs:List (κ×D)}{ws:List (κ×V)},YV K H J kvs ws->(kvs.any λc=>decide (c.1=k))=(ws.any λc=>decide (c.1=k))
 |[],ws,h=>by
  have:ws=[]:=by have:=h.1;cases ws with|nil=>rfl|cons a b=>simp at this
  subst this;rfl
 |p::kvs,ws,h=>by obtain⟨q,g,rfl,d,f,e⟩:=h.cons_inv;rw[qH5,qH5,YV.any e,d]
theorem YV.mapSet(e:RV K H J d v):∀{kvs:List (κ×D)}{ws:List (κ×V)},YV K H J kvs ws->YV K H J (kvs.map (λc=>if c.1=k then(c.1,d)else c)) (ws.map (λc=>if c.1=k then(c.1,v)else c))
 |[],ws,h=>by
  have:ws=[]:=by have:=h.1;cases ws with|nil=>rfl|cons a b=>simp at this
  subst this;exact .nil
 |p::kvs,ws,h=>by
  obtain⟨q,n,rfl,i,g,f⟩:=h.cons_inv;rw[qB8,qB8];obtain⟨j,m⟩:=p;obtain⟨o,l⟩:=q;subst i;by_cases hk:j=k
  .rw[if_pos hk,if_pos hk];exact .cons e (YV.mapSet e f)
  .rw[if_neg hk,if_neg hk];exact .cons g (YV.mapSet e f)
theorem YV.append{ds:List (κ×V)}(h:YV K H J b bs)(g:YV K H J a ds):YV K H J (b++a) (bs++ds):=⟨by rw[qE6,qE6,h.1,g.1],by rw[qE6,qE6];exact h.2.append g.2⟩
theorem YV.put(c:RV K H J d v){b:List (κ×V)}(h:YV K H J kvs b):YV K H J (Yw kvs k d) (Y2 b k v):=by
 unfold Yw Y2;rw[h.any];by_cases a:(b.any λe=>decide (e.1=k))=Z7
 .rw[if_pos a,if_pos a];exact h.mapSet c
 .rw[if_neg a,if_neg a];exact h.append (.cons c .nil)
def Yj(kvs more:List (κ×D)):List (κ×D):=more.foldl (λacc a=>Yw acc a.1 a.2) kvs
theorem YV.len{a:List (κ×V)}(h:YV K H J kvs a):kvs.length=a.length:=by have:=congrArg qH4 h.1;simpa using this
end
def dictAt(S:ZX)(n:Nat)(x:D):Option (Option D):=match S[n]? with
 |some (.dk a)=>(WT x).map λk=>YA a k
 |some (.dt a)=>match x with
  |.tup b=>(b.mapM WT).map λk=>YA a k
  |_=>Z8
 |some (.fk a)=>(WT x).map λk=>YA a k
 |_=>Z8
theorem NS{K:yS}{H:Hp}{J:yC}:∀{ds:List D}{ks:List ZI}{vs:List V},ds.mapM WT=Z9 ks->RVs K H J ds vs->vs=ks.map kV
 |[],ks,vs,e,r=>by simp at e;subst e;exact r.nil_inv
 |d::ds,ks,vs,e,r=>by
  obtain⟨u,g,rfl,f,b⟩:=r.cons_inv;rw[qG6]at e;cases q:WT d with
  |none=>rw[q]at e;cases e
  |some k =>
   cases a:ds.mapM WT with
   |none=>rw[q,a]at e;cases e
   |some c =>
    rw[q,a]at e;cases e;rw[qB8,Rz q f,NS a b]
theorem E7{K:yS}(j:SR K J S H)(e:dictAt S n x=Z9 r)(hm:J[n]?=Z9 a)(i:RV K H J x v):∃o,Yc H a v o/\(∀d,r=Z9 d->∃w,o=Z9 w/\RV K H J d w)/\(r=Z8->o=Z8):=by
 unfold dictAt at e;split at e
 .rename_i f g;cases q:WT x with
  |none=>rw[q]at e;cases e
  |some k =>
   rw[q]at e;cases e;obtain⟨h,c,b⟩:=j.get hm g;have:=Rz q i;subst this;exact⟨Yq h k,Yc.k c,(b.val).1,(b.val).2⟩
 .rename_i f g;split at e
  .rename_i s;cases q:s.mapM WT with
   |none=>rw[q]at e;cases e
   |some k =>
    rw[q]at e;cases e;obtain⟨h,c,b⟩:=j.get hm g;unfold RV at i;obtain⟨p,t,rfl,m,l⟩:=i;have:=NS q l;subst this;exact⟨Yq h k,Yc.t c m,(b.val (k:=k)).1,(b.val (k:=k)).2⟩
  .cases e
 .rename_i f g;cases q:WT x with
  |none=>rw[q]at e;cases e
  |some k =>
   rw[q]at e;cases e;obtain⟨o,h,c,b⟩:=j.get hm g;have:=Rz q i;subst this;exact⟨Yq h k,.inl ⟨_,_,.inr ⟨o,c⟩,rfl,rfl⟩,(b.val (k:=k)).1,(b.val (k:=k)).2⟩
 .cases e
def YL(neg:Bool):D->D->M D:=λx y S=>match y with
 |.dct n=>match dictAt S n x with
  |some o=>.ok (.bl (if neg then !o.isSome else o.isSome)) S
  |none=>.bad
 |_=>match Ss S y,XS x with
  |some b,Z9 v=>match b.mapM XS with
   |some a=>.ok (.bl (if neg then !UL v a else UL v a)) S
   |none=>.bad
  |_,_=>.bad
theorem E6(h:XS x=Z9 v):UN v=Z7:=by cases x<;>first|(cases h;rfl)| cases h
theorem E5:∀{ds:List D}{vs:List V},ds.mapM XS=Z9 vs->vs.all UN=Z7
 |[],vs,e=>by simp at e;subst e;rfl
 |d::ds,vs,e=>by
  rw[qG6]at e;cases q:XS d with
  |none=>rw[q]at e;cases e
  |some w =>
   cases a:ds.mapM XS with
   |none=>rw[q,a]at e;cases e
   |some b =>
    rw[q,a]at e;cases e;rw[qL5,E6 q,E5 a];rfl
theorem ql(f:X.A.units+1<vN):YX X (jG .In) (λy x H Q=>∃a o,x=.ref a/\Yc H a y o/\Q (.bl o.isSome) H):=by intro b s Z H y x v u Q I e d h;obtain⟨a,o,rfl,g,q⟩:=h;obtain rfl:u=Value.ref a:=d;exact LO f I g e λi c=>⟨.bl o.isSome,H,c,rfl,q⟩
theorem qk(f:X.A.units+1<vN):YX X (jG .NotIn) (λy x H Q=>∃a o,x=.ref a/\Yc H a y o/\Q (.bl (!o.isSome)) H):=by intro b s Z H y x v u Q I e d h;obtain⟨a,o,rfl,g,q⟩:=h;obtain rfl:u=Value.ref a:=d;exact ye f I g e λi c=>⟨.bl (!o.isSome),H,c,rfl,q⟩
theorem E4(s:YX X (jG op) (LS X.K neg))(t:YX X (jG op) (λy x H Q=>∃a o,x=.ref a/\Yc H a y o/\Q (.bl (if neg then !o.isSome else o.isSome)) H))
  : Yz X.K (Zj X (jG op)) (YL neg):=by
 intro x y S d E H J v u Q e c j f h;unfold YL at e;split at e
 .rename_i n;split at e
  .rename_i o q;cases e;unfold RV at f;obtain⟨a,rfl,C⟩:=f;obtain⟨k,g,l,m⟩:=E7 c q C j;have b:k.isSome=o.isSome:=by
    cases o with
    |none=>simp[m rfl]
    |some d=>obtain⟨w,rfl,_⟩:=l d rfl;rfl
   exact⟨_,t,a,k,rfl,g,by rw[b];exact h.self c WG⟩
  .cases e
 .split at e
  .rename_i G w r b;split at e
   .rename_i F i;cases e;obtain⟨a,p,rfl,B,A⟩:=c.seq f r;have z:=E9 b j;have D:=E8 i A;subst z D;exact⟨_,s,a,p,rfl,B,E6 b,E5 i,h.self c WG⟩
   .cases e
  .cases e
theorem qj(a:X.A.units+64<vN):Yz X.K (Zj X (jG .In)) (YL Z5):=E4 yz (ql (by lia))
theorem qi(a:X.A.units+64<vN):Yz X.K (Zj X (jG .NotIn)) (YL Z7):=E4 yy (qk (by lia))
end
section
variable {X:Cx}
theorem qh(o:X.A.units+1<vN):RP X (λx y H Q=>∃a v,x=.ref a/\Yc H a y (Z9 v)/\Q v H):=by
 intro d e c s Z H x y v u Q I m n h l;obtain⟨a,z,rfl,g,q⟩:=h;obtain rfl:v=Value.ref a:=m;have p:=yc I g;have i:jC (yW X.prog X.w) X.A (fV (.ref a) u) (EP X c Z Q) X.xe s:=yf o I g n λw t k j=>⟨z,H,k,j,q⟩
 refine yO ?_;refine yO (mN p PySem.F.slot_dict_getitem.lookup ?_);have fin:jC (yW X.prog X.w) X.A (uX e Z5 (.ref a) u) (λr b=>jC (yW X.prog X.w) X.A (letTemporaryGo d (.ref a) r >>= λ_=>pure r) (EP X c Z Q) X.xe b) X.xe s:=by rw[l];exact wpAny_operating (jY i (λr b f=>yO (wpAny_letTemporaryGo (yP f))) λ_ _ x=>x)
 exact yP (yO fin)
def Zp:D->D->M D:=λx i S=>match x with
 |.dct n=>match dictAt S n i with
  |some (Z9 d)=>.ok d S
  |_=>.bad
 |_=>match Ss S x,i with
  |some a,.int j=>match Xz a j with
   |some d=>.ok d S
   |none=>.bad
  |_,_=>.bad
theorem RVs.at{K:yS}(r:RVs K H J ds a)(e:Xz ds i=Z9 d):∃v,Xz a i=Z9 v/\RV K H J d v:=by
 unfold Xz at e ⊢;rw[<- r.len];cases q:Vp ds.length i with
 |none=>rw[q]at e;cases e
 |some j =>
  rw[q]at e;obtain⟨v,b,c⟩:=r.get e;exact⟨v,b,c⟩
theorem qg(B:X.A.units+1<vN):Yz X.K (KO X) Zp:=by
 intro x y S d C H J v u Q e f i k h;unfold Zp at e;split at e
 .rename_i n;split at e
  .rename_i p r;cases e;unfold RV at i;obtain⟨a,rfl,A⟩:=i;obtain⟨o,g,q,_⟩:=E7 f r A k;obtain⟨w,rfl,b⟩:=q _ rfl;exact⟨_,qh B,a,w,rfl,g,h.self f b⟩
  .cases e
 .split at e
  .rename_i D j s;split at e
   .rename_i p t;cases e;obtain⟨a,l,rfl,c,z⟩:=f.seq i s;obtain⟨w,m,b⟩:=z.at t;unfold RV at k;subst k;rcases c with c|c
    .exact⟨_,zp,a,l,j,w,rfl,rfl,c,m,h.self f b⟩
    .exact⟨_,zo,a,l,j,w,rfl,rfl,c,m,h.self f b⟩
   .cases e
  .cases e
def Zr(xs:List D)(lo hi:yG):List D:=(xs.drop (HT.sIx xs.length 0 lo)).take (HT.sIx xs.length xs.length hi - HT.sIx xs.length 0 lo)
def Yn:D->yG->yG->M D:=λx c b S=>match x with
 |.tup a=>.ok (.tup (Zr a c b)) S
 |.lst n=>match ZO S n with
  |some a=>.ok (.lst S.length) (S++[.lst (Zr a c b)])
  |none=>.bad
 |_=>.bad
theorem RVs.cut{K:yS}(r:RVs K H J ds a)(lo hi:yG):RVs K H J (Zr ds lo hi) (WX a lo hi):=by unfold Zr WX;rw[r.len];exact(r.drop _).take _
theorem qe:Fd X.K (KN X) Yn:=by
 intro x j i S d o H J v Q e g b h;unfold Yn at e;split at e
 .cases e;unfold RV at b;obtain⟨p,c,rfl,q,f⟩:=b;exact⟨_,xw,p,c,rfl,q,λt r m sq=>h.oldT g m sq (f.cut j i)⟩
 .split at e
  .rename_i s k;cases e;unfold RV at b;obtain⟨a,rfl,n⟩:=b;obtain⟨c,q,f⟩:=g.sq n k;exact⟨_,za,a,c,rfl,q,λp l=>h.newL g l (f.cut j i)⟩
  .cases e
 .cases e
def WR:D->D->M D:=λx y S=>match x,y with
 |.tup a,.int j=>if j=-1 then .ok (.tup a.reverse) S else .bad
 |.lst k,.int j=>match ZO S k with
  |some a=>if j=-1 then .ok (.lst S.length) (S++[.lst a.reverse])else .bad
  |none=>.bad
 |_,_=>.bad
theorem RVs.reverse{K:yS}:∀{ds:List D}{vs:List V},RVs K H J ds vs->RVs K H J ds.reverse vs.reverse
 |[],vs,r=>by rw[r.nil_inv];exact .nil
 |d::ds,vs,r=>by obtain⟨v,c,rfl,b,a⟩:=r.cons_inv;rw[qM6,qM6];exact a.reverse.append (.cons b .nil)
theorem qd(l:PE X a (Zu X.K n))(N:PE X b (Zu X.K t)):PE X (.Subscript a (.Slice Z8 Z8 (Z9 b) F) pos) (Zu X.K (ZU WR n t)):=(vg l N).weak (by
 rintro Z H Q ⟨J,B,S,d,O,L,w,e,y⟩;obtain⟨x,s,E,e⟩:=Y6 e;obtain⟨z,M,G,e⟩:=Y6 e;refine⟨J,B,S,x,s,L,w,E,λv P I m g r=>⟨I,B,s,z,M,m,w.up g,G,λu T R f c A=>?_⟩⟩;unfold WR at e;split at e
 .split at e
  .rename_i i;cases e;have h:=RV.up c.tk c.ext _ _ r;obtain⟨a,o,rfl,q,k⟩:=h;subst A i;exact⟨rfl,a,o,rfl,.inl ⟨Zn.of q,λp j=>(y.shift (g.trans c f.nd)).newT f j k.reverse⟩⟩
  .cases e
 .split at e
  .rename_i o D;split at e
   .rename_i i;cases e;have h:=RV.up c.tk c.ext _ _ r;unfold RV at h;obtain⟨a,rfl,l⟩:=h;obtain⟨K,q,k⟩:=f.sq l D;subst A i;exact⟨rfl,a,K,rfl,.inr ⟨q,λp j=>(y.shift (g.trans c f.nd)).newL f j k.reverse⟩⟩
   .cases e
  .cases e
 .cases e)
def Zi:List D->M D:=λb S=>match b with
 |[.str x]=>if x.length<=lim then .ok (.int x.length) S else .bad
 |[.dct n]=>match S[n]? with
  |some (.dk a)=>.ok (.int a.length) S
  |some (.fk a)=>.ok (.int a.length) S
  |_=>.bad
 |[x]=>match Ss S x with
  |some c=>.ok (.int c.length) S
  |none=>.bad
 |_=>.bad
theorem RVs.one{K:yS}(h:RVs K H J [d] a):∃v,a=[v]/\RV K H J d v:=by obtain⟨v,e,rfl,c,b⟩:=h.cons_inv;rw[b.nil_inv];exact⟨v,rfl,c⟩
theorem RVs.two{K:yS}(h:RVs K H J [d,e] a):∃v u,a=[v,u]/\RV K H J d v/\RV K H J e u:=by obtain⟨v,g,rfl,f,b⟩:=h.cons_inv;obtain⟨u,rfl,c⟩:=b.one;exact⟨v,u,rfl,f,c⟩
def VA:List D->M D:=λa S=>match a with
 |[.int i]=>if i.natAbs<1000000000000000000 then .ok (.str (toString i)) S else .bad
 |[.tup ys]=>match Zz 40 S (.tup ys)with
  |some p=>if p.showable=Z7/\p.hasDict=Z5/\p.shown.length<=jF then .ok (.str p.shown) S else .bad
  |none=>.bad
 |[.lst k]=>match Zz 40 S (.lst k)with
  |some p=>if p.showable=Z7/\p.hasDict=Z5/\p.shown.length<=jF then .ok (.str p.shown) S else .bad
  |none=>.bad
 |[.non]=>.ok (.str "None") S
 |[.dct m]=>match S[m]? with
  |some (.dk [])=>.ok (.str "{}") S
  |_=>.bad
 |_=>.bad
theorem qc(m:X.A.guards=Z9 [])(n:X.A.units+64<vN):Wm X.K (Yy X (.builtin "repr")) VA:=by
 intro C S d B H J A Q e c g h;unfold VA at e;split at e
 .rename_i i;split at e
  .rename_i s;cases e;obtain⟨v,rfl,r⟩:=g.one;unfold RV at r;subst r;refine⟨_,vo,i,rfl,?_,h.self c Su⟩;by_cases o:i.natAbs=0
   .rw[o];decide
   .exact(Nat.log2_lt o).mpr (qR0 s (by decide))
  .cases e
 .rename_i D;split at e
  .rename_i p l;split at e
   .rename_i f;cases e;obtain⟨v,rfl,r⟩:=g.one;obtain⟨j,w,x⟩:=Tw c 40 _ v p l r;unfold RV at r;obtain⟨b,q,rfl,_⟩:=r;exact⟨_,Gy m n,b,_,p,rfl,j,f.1,f.2.1,by lia,f.2.2,h.self c Su⟩
   .cases e
  .cases e
 .rename_i k;split at e
  .rename_i p l;split at e
   .rename_i f;cases e;obtain⟨v,rfl,r⟩:=g.one;obtain⟨j,w,x⟩:=Tw c 40 _ v p l r;unfold RV at r;obtain⟨b,rfl,_⟩:=r;exact⟨_,Gy m n,b,_,p,rfl,j,f.1,f.2.1,by lia,f.2.2,h.self c Su⟩
   .cases e
  .cases e
 .cases e;obtain⟨v,rfl,r⟩:=g.one;unfold RV at r;subst r;exact⟨_,tq,rfl,h.self c Su⟩
 .split at e
  .rename_i u;cases e;obtain⟨v,rfl,r⟩:=g.one;unfold RV at r;obtain⟨a,rfl,z⟩:=r;obtain⟨q,t,y⟩:=c.get z u;have:q=[]:=by have:=y.len;exact qI9 this.symm
   subst this;exact⟨_,rB m n,a,rfl,t,h.self c Su⟩
  .cases e
 .cases e
theorem qb:Wm X.K (Yy X (.builtin "len")) Zi:=by
 intro t S d s H J l Q e b j h;unfold Zi at e;split at e
 .split at e
  .rename_i n;cases e;obtain⟨v,rfl,r⟩:=j.one;subst r;exact⟨_,yw,_,rfl,RB n,h.self b Xw⟩
  .cases e
 .obtain⟨v,rfl,r⟩:=j.one;unfold RV at r;obtain⟨a,rfl,m⟩:=r;split at e
  .rename_i g i;cases e;obtain⟨k,f,c⟩:=b.get m i;exact⟨_,Fo,a,k,rfl,.inl f,by rw[<- c.len];exact h.self b Xw⟩
  .rename_i g i;cases e;obtain⟨o,k,f,c⟩:=b.get m i;exact⟨_,Fo,a,k,rfl,.inr ⟨o,f⟩,by rw[<- c.len];exact h.self b Xw⟩
  .cases e
 .split at e
  .rename_i u p;cases e;obtain⟨v,rfl,r⟩:=j.one;obtain⟨a,l,rfl,q,c⟩:=b.seq r p;exact⟨_,yx,a,l,rfl,q,by rw[<- c.len];exact h.self b Xw⟩
  .cases e
 .cases e
def Sq(a:Int):yA->Int
 |[]=>a
 |b::r=>if b<a then Sq b r else Sq a r
def So(a:Int):yA->Int
 |[]=>a
 |b::r=>if a<b then So b r else So a r
theorem KD:∀(a:Int) (r:yA),Sq a r∈a::r/\∀x∈a::r,Sq a r<=x
 |a,[]=>by simp[Sq]
 |a,b::r=>by
  unfold Sq;split
  .have h:=KD b r;refine⟨qC5 _ h.1,λx c=>?_⟩;rcases qB0.mp c with rfl|c
   .have:=h.2 b (by simp);lia
   .exact h.2 x c
  .have h:=KD a r;refine⟨?_,λx c=>?_⟩
   .rcases qB0.mp h.1 with e|e
    .rw[e];simp
    .simp_all
   .have:=h.2 a (by simp);rcases qB0.mp c with rfl|c
    .lia
    rcases qB0.mp c with rfl|c
    .lia
    .simp_all
theorem KC:∀(a:Int) (r:yA),So a r∈a::r/\∀x∈a::r,x<=So a r
 |a,[]=>by simp[So]
 |a,b::r=>by
  unfold So;split
  .have h:=KC b r;refine⟨qC5 _ h.1,λx c=>?_⟩;rcases qB0.mp c with rfl|c
   .have:=h.2 b (by simp);lia
   .exact h.2 x c
  .have h:=KC a r;refine⟨?_,λx c=>?_⟩
   .rcases qB0.mp h.1 with e|e
    .rw[e];simp
    .simp_all
   .have:=h.2 a (by simp);rcases qB0.mp c with rfl|c
    .lia
    rcases qB0.mp c with rfl|c
    .lia
    .simp_all
def Wy:List D->M D:=λb S=>match b with
 |[.int i,.int j]=>.ok (.int (if j<i then j else i)) S
 |[.lst n]=>match (ZO S n).bind Wz with
  |some (a::r)=>.ok (.int (Sq a r)) S
  |_=>.bad
 |_=>.bad
def U2:List D->M D:=λb S=>match b with
 |[.int i,.int j]=>.ok (.int (if j>i then j else i)) S
 |[.lst n]=>match (ZO S n).bind Wz with
  |some (a::r)=>.ok (.int (So a r)) S
  |_=>.bad
 |_=>.bad
theorem qa(g:X.calm=Z7):Wm X.K (Yy X (.builtin "min")) Wy:=by
 intro y S d x H J w Q e f i h;unfold Wy at e;split at e
 .cases e;obtain⟨v,u,rfl,c,p⟩:=i.two;subst c p;exact⟨_,zQ g,_,_,rfl,h.self f Xw⟩
 .split at e
  .rename_i b r j;cases e;obtain⟨B,k,n⟩:=qA4.mp j;obtain⟨v,rfl,c⟩:=i.one;unfold RV at c;obtain⟨a,rfl,m⟩:=c;obtain⟨A,q,l⟩:=f.sq m k;have z:=UH n l;subst z;refine⟨_,rE g,a,b::r,rfl,q,by simp,λM o t=>?_⟩;have s:=KD b r;rw[qR4 (t _ s.1) (s.2 _ o)];exact h.self f Xw
  .cases e
 .cases e
theorem p4(g:X.calm=Z7):Wm X.K (Yy X (.builtin "max")) U2:=by
 intro y S d x H J w Q e f i h;unfold U2 at e;split at e
 .cases e;obtain⟨v,u,rfl,c,p⟩:=i.two;subst c p;exact⟨_,zR g,_,_,rfl,h.self f Xw⟩
 .split at e
  .rename_i b r j;cases e;obtain⟨B,k,n⟩:=qA4.mp j;obtain⟨v,rfl,c⟩:=i.one;unfold RV at c;obtain⟨a,rfl,m⟩:=c;obtain⟨A,q,l⟩:=f.sq m k;have z:=UH n l;subst z;refine⟨_,rD g,a,b::r,rfl,q,by simp,λM o t=>?_⟩;have s:=KC b r;rw[qR4 (s.2 _ o) (t _ s.1)];exact h.self f Xw
  .cases e
 .cases e
def Xn:List D->M D:=λb S=>match b with
 |[.tup a]=>.ok (.tup a) S
 |[.lst n]=>match ZO S n with
  |some a=>.ok (.tup a) S
  |none=>.bad
 |_=>.bad
theorem pZ:Wm X.K (Yy X (.type "tuple")) Xn:=by
 intro s S d o H J n Q e c g h;unfold Xn at e;split at e
 .cases e;obtain⟨v,rfl,r⟩:=g.one;have k:=r;obtain⟨p,b,rfl,q,f⟩:=k;exact⟨_,G0,p,b,rfl,.inr ⟨Zn.of q,h.self c r⟩⟩
 .split at e
  .rename_i t j;cases e;obtain⟨v,rfl,r⟩:=g.one;obtain⟨a,rfl,m⟩:=r;obtain⟨b,q,f⟩:=c.sq m j;exact⟨_,G0,a,b,rfl,.inl ⟨q,λl i=>h.newT c i f⟩⟩
  .cases e
 .cases e
def Vz:List D->M D:=λa S=>match a with
 |[.int i]=>.ok (.int i) S
 |[.bl b]=>.ok (.int (if b then 1 else 0)) S
 |_=>.bad
theorem pY:Wm X.K (Yy X (.type "int")) Vz:=by
 intro g S d f H J c Q e a b h;unfold Vz at e;split at e
 .cases e;obtain⟨v,rfl,r⟩:=b.one;unfold RV at r;subst r;exact⟨_,He,.inl ⟨_,rfl,h.self a Xw⟩⟩
 .cases e;obtain⟨v,rfl,r⟩:=b.one;unfold RV at r;subst r;exact⟨_,He,.inr ⟨_,rfl,h.self a Xw⟩⟩
 .cases e
def V1(S:ZX)(n:Nat):Option String:=match S[n]? with
 |some (.dk _)=>Z9 "dict"
 |_=>Z8
def Ry(S:ZX):D->Option String
 |.non=>Z9 "NoneType"
 |.bl _=>Z9 "bool"
 |.int _=>Z9 "int"
 |.str _=>Z9 "str"
 |.tup _=>Z9 "tuple"
 |.lst n=>if(ZO S n).isSome then Z9 "list" else Z8
 |.dct n=>V1 S n
 |_=>Z8
def Y1:List D->M D:=λa S=>match a with
 |[x,.ty T]=>match Ry S x with
  |some t=>if T∈["bool","int","tuple","list","str","dict"]then .ok (.bl (Oq t T)) S else .bad
  |none=>.bad
 |_=>.bad
theorem pX{K:yS}(d:SR K J S H)(e:Ry S x=Z9 t)(r:RV K H J x v):UJ K H v t/\t∈["NoneType","bool","int","str","tuple","list","dict"]:=by
 cases x with
 |non=>cases e;subst r;exact⟨.non,by decide⟩
 |bl b=>cases e;subst r;exact⟨.bl b,by decide⟩
 |int i=>cases e;subst r;exact⟨.int i,by decide⟩
 |str i=>cases e;subst r;exact⟨.str i,by decide⟩
 |tup m=>cases e;obtain⟨p,k,rfl,q,_⟩:=r;exact⟨.tup (Zn.of q),by decide⟩
 |lst n =>
  have e:(if(ZO S n).isSome then Z9 "list" else Z8)=Z9 t:=e;split at e
  .rename_i j;cases e;obtain⟨m,h⟩:=qI6.mp j;obtain⟨a,rfl,c⟩:=r;obtain⟨k,q,_⟩:=d.sq c h;exact⟨.lst q,by decide⟩
  .cases e
 |dct n =>
  have e:V1 S n=Z9 t:=e;unfold V1 at e;split at e
  .rename_i g l;cases e;obtain⟨a,rfl,c⟩:=r;obtain⟨o,f,_⟩:=d.get c l;exact⟨.dk f,by decide⟩
  .cases e
 |ty n=>cases e
 |rol n=>cases e
theorem pW:Wm X.K (Yy X (.builtin "isinstance")) Y1:=by
 intro m S d l H J k Q e a g h;unfold Y1 at e;split at e
 .rename_i x T;split at e
  .rename_i t c;split at e
   .rename_i i;cases e;obtain⟨v,u,rfl,f,j⟩:=g.two;subst j;obtain⟨b,k2⟩:=pX a c f;exact⟨_,xg,v,t,T,_,rfl,b,xf X.K t k2 T i,h.self a WG⟩
   .cases e
  .cases e
 .cases e
def U1:List D->Option (List Bool)
 |[]=>Z9 []
 |.bl b::r=>(U1 r).map (b::·)
 |_::_=>Z8
theorem E3{K:yS}{H:Hp}{J:yC}:∀{ds:List D}{ns:List Bool}{vs:List V},U1 ds=Z9 ns->RVs K H J ds vs->vs=ns.map V.bl
 |[],ns,vs,e,r=>by cases e;rw[r.nil_inv];rfl
 |.bl i::ds,ns,vs,e,r=>by
  obtain⟨v,c,rfl,b,a⟩:=r.cons_inv;unfold U1 at e;cases q:U1 ds with
  |none=>rw[q]at e;cases e
  |some d =>
   rw[q]at e;cases e;subst b;rw[E3 q a];rfl
 |.non::ds,ns,vs,e,r=>by cases e
 |.int _::ds,ns,vs,e,r=>by cases e
 |.str _::ds,ns,vs,e,r=>by cases e
 |.ty _::ds,ns,vs,e,r=>by cases e
 |.tup _::ds,ns,vs,e,r=>by cases e
 |.lst _::ds,ns,vs,e,r=>by cases e
 |.dct _::ds,ns,vs,e,r=>by cases e
 |.rol _::ds,ns,vs,e,r=>by cases e
def Ye(g:List Bool->Bool):List D->M D:=λa S=>match a with
 |[.tup ys]=>match Wz ys with
  |some b=>.ok (.bl (g (b.map (· != 0)))) S
  |none=>.bad
 |[.lst n]=>match (ZO S n).bind U1 with
  |some bs=>.ok (.bl (g bs)) S
  |none=>.bad
 |_=>.bad
theorem E2{id:String}(s:YG X (.builtin id) (λc H Q=>∃(p:yR) (bs:List Bool),c=[.ref p]/\YQ X.K H p (bs.map V.bl)/\Q (.bl (g bs)) H))(i:YG X (.builtin id) (λc H Q=>∃(p:yR) (b:yA),c=[.ref p]/\Zn X.K H p (b.map V.int)/\Q (.bl (g (b.map (· != 0)))) H)):Wm X.K (Yy X (.builtin id)) (Ye g):=by
 intro w S d u H J c Q e k l h;unfold Ye at e;split at e
 .split at e
  .rename_i b f;cases e;obtain⟨v,rfl,r⟩:=l.one;obtain⟨a,t,rfl,q,j⟩:=r;have z:=UH f j;subst z;exact⟨_,i,a,b,rfl,Zn.of q,h.self k WG⟩
  .cases e
 .split at e
  .rename_i bs f;cases e;obtain⟨x,m,o⟩:=qA4.mp f;obtain⟨v,rfl,r⟩:=l.one;obtain⟨a,rfl,n⟩:=r;obtain⟨t,q,j⟩:=k.sq n m;have z:=E3 o j;subst z;exact⟨_,s,a,bs,rfl,q,h.self k WG⟩
  .cases e
 .cases e
theorem YG.imp(h:YG X f r)(w:∀b H Q,r' b H Q->r b H Q):YG X f r':=λa s Z H d e Q I c q=>h a s Z H d e Q I c (w _ _ _ q)
theorem pV(a:X.calm=Z7):Wm X.K (Yy X (.builtin "all")) (Ye λbs=>bs.all id):=E2 (xG a) ((ve a).imp λf H Q ⟨p,d,c,e,b⟩=>⟨p,d,c,e,by rw[qP3]at b;exact b⟩)
theorem pU(a:X.calm=Z7):Wm X.K (Yy X (.builtin "any")) (Ye λbs=>bs.any id):=E2 (xF a) ((vd a).imp λf H Q ⟨p,d,c,e,b⟩=>⟨p,d,c,e,by rw[qT6]at b;exact b⟩)
def V0(a:Int):yA->yA
 |[]=>[a]
 |b::r=>if a<=b then a::b::r else b::V0 a r
def Wj:yA->yA
 |[]=>[]
 |a::r=>V0 a (Wj r)
theorem KB(a:Int):∀l,(V0 a l).Perm (a::l)
 |[]=>.refl _
 |b::r=>by
  unfold V0;split
  .exact .refl _
  .exact((KB a r).cons b).trans (.swap _ _ _)
theorem KA:∀l,(Wj l).Perm l
 |[]=>.refl _
 |a::r=>(KB a _).trans ((KA r).cons a)
theorem E1(a:Int):∀l:yA,l.Pairwise (·<=·)->(V0 a l).Pairwise (·<=·)
 |[],_=>by simp[V0]
 |b::r,h=>by
  have f:=qG0.mp h;unfold V0;split
  .rename_i d;refine qG0.mpr ⟨λc e=>?_,h⟩;rcases qB0.mp e with rfl|e
   .exact d
   .exact qT8 d (f.1 c e)
  .rename_i d;refine qG0.mpr ⟨λc e=>?_,E1 a r f.2⟩;rcases qB0.mp ((KB a r).mem_iff.mp e)with rfl|e
   .lia
   .exact f.1 c e
theorem Kz:∀l:yA,(Wj l).Pairwise (·<=·)
 |[]=>.nil
 |a::r=>E1 a _ (Kz r)
theorem Qg(h:m.Perm l)(s:m.Pairwise (·<=·)):m=Wj l :=
 (h.trans (KA l).symm).eq_of_pairwise (λa b _ _ c d=>qR4 c d) s (Kz l)
def Sm:List (ZI×D)->Option (yA)
 |[]=>Z9 []
 |(.inl n,_)::r=>(Sm r).map (n::·)
 |_::_=>Z8
theorem Qf:∀{kvs:List (ZI×D)}{ns:yA},Sm kvs=Z9 ns->kvs.map (·.1)=ns.map Sum.inl
 |[],ns,e=>by cases e;rfl
 |(.inl n,d)::r,ns,e=>by obtain⟨c,a,b⟩:=qA7.mp e;subst b;simp[Qf a]
 |(.inr x,d)::r,ns,e=>by cases e
def Tv:List D->Option (List (yA))
 |[]=>Z9 []
 |.tup b::r=>match Wz b,Tv r with
  |some c,Z9 a=>Z9 (c::a)
  |_,_=>Z8
 |_=>Z8
def tD(a:yA):D:=.tup (a.map .int)
def VZ(a:yA):List (yA)->List (yA)
 |[]=>[a]
 |b::r=>if HT.lexLt b a=Z7 then b::VZ a r else a::b::r
def Vn:List (yA)->List (yA)
 |[]=>[]
 |a::r=>VZ a (Vn r)
abbrev yM:=List D
abbrev U0(l:List (yA)):Prop:=l.Pairwise λx y=>HT.lexLt y x=Z5
theorem NR(a:yA):∀l,(VZ a l).Perm (a::l)
 |[]=>.refl _
 |b::r=>by
  unfold VZ;split
  .exact((NR a r).cons b).trans (.swap _ _ _)
  .exact .refl _
theorem EZ:∀l,(Vn l).Perm l
 |[]=>.refl _
 |a::r=>(NR a _).trans ((EZ r).cons a)
theorem EY(a:yA):∀l,U0 l->U0 (VZ a l)
 |[],_=>by simp[VZ,U0]
 |b::r,h=>by
  have g:=qG0.mp h;unfold VZ;split
  .rename_i e;refine qG0.mpr ⟨λc f=>?_,EY a r g.2⟩;rcases qB0.mp ((NR a r).mem_iff.mp f)with rfl|f
   .exact Li _ _ e
   .exact g.1 c f
  .rename_i e;have d:HT.lexLt b a=Z5:=by simpa using e
   refine qG0.mpr ⟨λc f=>?_,h⟩;rcases qB0.mp f with rfl|f
   .exact d
   .exact Lh a b c d (g.1 c f)
theorem EX:∀l,U0 (Vn l)
 |[]=>.nil
 |a::r=>EY a _ (EX r)
theorem pT(h:m.Perm l)(s:U0 m):m=Vn l :=
 (h.trans (EZ l).symm).eq_of_pairwise (λa b _ _ c d=>FM a b c d) s (EX l)
def NQ:List (List ZI×D)->Option (List (yA))
 |[]=>Z9 []
 |(k,_)::r=>match k.mapM (λx=>match x with|.inl n=>Z9 n|.inr _=>Z8),NQ r with
  |some b,Z9 a=>Z9 (b::a)
  |_,_=>Z8
theorem EW:∀{k:List ZI}{ns:yA},k.mapM (λx=>match x with|.inl n=>Z9 n|.inr _=>Z8)=Z9 ns->k=ns.map Sum.inl
 |[],ns,e=>by simp at e;subst e;rfl
 |.inl n::k,ns,e=>by
  rw[qG6]at e;cases q:k.mapM (λx:ZI=>match x with|.inl n=>Z9 n|.inr _=>Z8)with
  |none=>rw[q]at e;cases e
  |some a=>rw[q]at e;cases e;rw[EW q];rfl
 |.inr x::k,ns,e=>by rw[qG6]at e;cases e
theorem EV:∀{kvs:List (List ZI×D)}{nss:List (yA)},NQ kvs=Z9 nss->kvs.map (·.1)=nss.map (·.map Sum.inl)
 |[],nss,e=>by cases e;rfl
 |(k,d)::r,nss,e=>by
  unfold NQ at e;split at e
  .rename_i f c a b;cases e;simp[EW a,EV b]
  .cases e
theorem Ky{K:yS}{H:Hp}{J:yC}:∀{ds:yM}{nss:List (yA)}{vs:List V},Tv ds=Z9 nss->RVs K H J ds vs->∃f:List (yR×yA),f.map (·.2)=nss/\vs=f.map (λt=>V.ref t.1)/\∀t∈f,H t.1=Z9 (.tup (t.2.map V.int))
 |[],nss,vs,e,r=>by cases e;exact⟨[],rfl,r.nil_inv,λt h=>(by cases h)⟩
 |d::ds,nss,vs,e,r=>by
  unfold Tv at e;split at e
  .rename_i q;cases q
  .rename_i s u q;cases q;split at e
   .rename_i j w k m;cases e;obtain⟨v,x,rfl,g,n⟩:=r.cons_inv;obtain⟨f,a,b,c⟩:=Ky m n;unfold RV at g;obtain⟨p,o,rfl,i,l⟩:=g;rw[UH k l]at i;refine⟨(p,j)::f,by simp[a],by simp[b],λt ht=>?_⟩;rcases qB0.mp ht with rfl|ht
    .exact i
    .exact c t ht
   .cases e
  .cases e
theorem NP{K:yS}:∀{a:List (yR×yA)},(∀t∈a,H t.1=Z9 (.tup (t.2.map V.int)))->RVs K H J (a.map λt=>tD t.2) (a.map λt=>V.ref t.1)
 |[],_=>.nil
 |t::a,h=>.cons (by unfold tD RV;exact⟨t.1,_,rfl,h t (qE2 ..),RVs.ints⟩) (NP λu b=>h u (qC5 _ b))
theorem Kx(b:(a.map (·.2)).Perm nss)(hs:VH a):(Vn nss).map tD=a.map λt=>tD t.2:=by rw[<- pT b (qH7.mpr hs),qC8];rfl
def Rx:yM->M D:=λc S=>match c with
 |[.dct n]=>match S[n]? with
  |some (.dk a)=>match Sm a with
   |some b=>.ok (.lst S.length) (S++[.lst (b.map D.int)])
   |none=>.bad
  |some (.fk a)=>match Sm a with
   |some b=>.ok (.lst S.length) (S++[.lst (b.map D.int)])
   |none=>.bad
  |_=>.bad
 |[x]=>match Ss S x with
  |some d=>.ok (.lst S.length) (S++[.lst d])
  |none=>.bad
 |_=>.bad
theorem pS(s:X.calm=Z7):Wm X.K (Yy X (.type "list")) Rx:=by
 intro y S d x H J p Q e b t h;unfold Rx at e;split at e
 .obtain⟨v,rfl,r⟩:=t.one;unfold RV at r;obtain⟨a,rfl,q⟩:=r;split at e
  .rename_i i k;split at e
   .rename_i j m;cases e;obtain⟨n,g,f⟩:=b.get q k;exact⟨_,Fk s,a,n,j,rfl,.inl g,by rw[<- f.1];exact Qf m,λl c=>h.newL b c RVs.ints⟩
   .cases e
  .rename_i i k;split at e
   .rename_i j m;cases e;obtain⟨o,n,g,f⟩:=b.get q k;exact⟨_,Fk s,a,n,j,rfl,.inr ⟨o,g⟩,by rw[<- f.1];exact Qf m,λl c=>h.newL b c RVs.ints⟩
   .cases e
  .cases e
 .split at e
  .rename_i z u;cases e;obtain⟨v,rfl,r⟩:=t.one;obtain⟨a,p,rfl,w,f⟩:=b.seq r u;exact⟨_,yv,a,p,rfl,w,λl c=>h.newL b c f⟩
  .cases e
 .cases e
def Wx:yM->M D:=λd S=>match d with
 |[.lst n]=>match (ZO S n).bind Wz with
  |some a=>if a.length<64 then .ok (.lst S.length) (S++[.lst ((Wj a).map D.int)])else if a.length<=5000 then .ok (.lst S.length) (S++[.lst ((Wj a).map D.int)])else .bad
  |none=>match (ZO S n).bind Tv with
   |some b=>if U7 b.length then .ok (.lst S.length) (S++[.lst ((Vn b).map tD)])else .bad
   |none=>.bad
 |[.tup d]=>match Wz d with
  |some a=>if a.length<64 then .ok (.lst S.length) (S++[.lst ((Wj a).map D.int)])else .bad
  |none=>.bad
 |[.dct n]=>match S[n]? with
  |some (.dk c)=>match Sm c with
   |some a=>if a.length<64 then .ok (.lst S.length) (S++[.lst ((Wj a).map D.int)])else if a.length<=5000 then .ok (.lst S.length) (S++[.lst ((Wj a).map D.int)])else .bad
   |none=>.bad
  |some (.dt c)=>match NQ c with
   |some b=>.ok (.lst S.length) (S++[.lst ((Vn b).map tD)])
   |none=>.bad
  |_=>.bad
 |_=>.bad
theorem pR(s:X.calm=Z7)(O:X.A.units+64<vN):Wm X.K (Yy X (.builtin "sorted")) Wx:=by
 intro N S d M H J L Q e g p h;unfold Wx at e;split at e
 .split at e
  .rename_i o i;split at e
   .rename_i b;cases e;obtain⟨E,m,x⟩:=qA4.mp i;obtain⟨v,rfl,r⟩:=p.one;obtain⟨a,rfl,k⟩:=r;obtain⟨n,q,j⟩:=g.sq k m;have z:=UH x j;subst z;refine⟨_,vf,a,o,rfl,q,b,λl A b c f=>?_⟩;rw[Qg c f];exact h.newL g b RVs.ints
   .split at e
    .rename_i b;cases e;obtain⟨E,m,x⟩:=qA4.mp i;obtain⟨v,rfl,r⟩:=p.one;unfold RV at r;obtain⟨a,rfl,k⟩:=r;obtain⟨n,q,j⟩:=g.sq k m;have z:=UH x j;subst z;refine⟨_,rC s,a,o,rfl,q,b,λl A b c f=>?_⟩;rw[Qg c f];exact h.newL g b RVs.ints
    .cases e
  .split at e
   .rename_i w i;split at e
    .rename_i F;cases e;obtain⟨E,m,x⟩:=qA4.mp i;obtain⟨v,rfl,r⟩:=p.one;unfold RV at r;obtain⟨a,rfl,k⟩:=r;obtain⟨n,q,j⟩:=g.sq k m;obtain⟨D,C,rfl,y⟩:=Ky x j;refine⟨_,tB s (by lia),a,D,rfl,q,λt ht=>Zn.of (y t ht),by rw[<- C,qA0]at F;exact F,λl G b c f=>?_⟩;rw[Kx (by rw[<- C];exact c.map _) f]at h;exact h.newL g b (NP λt ht=>y t (c.mem_iff.mp ht))
    .cases e
   .cases e
 .split at e
  .rename_i o i;split at e
   .rename_i b;cases e;obtain⟨v,rfl,r⟩:=p.one;unfold RV at r;obtain⟨a,K,rfl,c,I⟩:=r;rw[UH i I]at c;refine⟨_,tE s,a,o,rfl,Zn.of c,b,λl A b c f=>?_⟩;rw[Qg c f];exact h.newL g b RVs.ints
   .cases e
  .cases e
 .split at e
  .rename_i B i;split at e
   .rename_i o m;split at e
    .rename_i b;cases e;obtain⟨v,rfl,r⟩:=p.one;unfold RV at r;obtain⟨a,rfl,k⟩:=r;obtain⟨n,u,j⟩:=g.get k i;refine⟨_,ui s,a,n,o,rfl,u,by rw[<- j.1];exact Qf m,b,λl A b c f=>?_⟩;rw[Qg c f];exact h.newL g b RVs.ints
    .split at e
     .rename_i b;cases e;obtain⟨v,rfl,r⟩:=p.one;unfold RV at r;obtain⟨a,rfl,k⟩:=r;obtain⟨n,u,j⟩:=g.get k i;refine⟨_,rF s,a,n,o,rfl,u,by rw[<- j.1];exact Qf m,b,λl A b c f=>?_⟩;rw[Qg c f];exact h.newL g b RVs.ints
     .cases e
   .cases e
  .rename_i B i;split at e
   .rename_i w m;cases e;obtain⟨v,rfl,r⟩:=p.one;unfold RV at r;obtain⟨a,rfl,k⟩:=r;obtain⟨n,u,j⟩:=g.get k i;refine⟨_,ts s (by lia),a,n,w,rfl,u,by rw[<- j.1];exact EV m,λl D b y c f=>?_⟩;rw[Kx c f]at h;exact h.newL g b (NP y)
   .cases e
  .cases e
 .cases e
def Sl(K:yS)(T:String)(r:V->List V->Hp->VK->Prop)(o:D->yM->M D):Prop:=∀x c S d b H J v a Q,o x c S=.ok d b->SR K J S H->RV K H J x v->RVs K H J c a->Xq K J H d b Q->r v a H Q
def XR(T:String)(x:D)(S:ZX):Bool:=match x with
 |.lst n=>decide (T = "list")&&(ZO S n).isSome
 |.dct n=>decide (T = "dict")&&(match S[n]? with|some (.dk _)=>Z7|some (.dt _)=>Z7|_=>Z5)
 |.int _=>decide (T = "int")
 |.str _=>decide (T = "str")
 |_=>Z5
theorem EU{K:yS}(i:SR K J S H)(h:XR T x S=Z7)(r:RV K H J x v):OB K T v H:=by
 unfold XR at h;split at h
 .simp only[qD3,decide_eq_true_eq]at h;obtain⟨b,c⟩:=h;obtain⟨l,j⟩:=qI6.mp c;obtain⟨a,rfl,d⟩:=r;obtain⟨k,q,_⟩:=i.sq d j;exact .inl ⟨b,k,q⟩
 .simp only[qD3,decide_eq_true_eq]at h;obtain⟨b,c⟩:=h;obtain⟨a,rfl,d⟩:=r;split at c
  .rename_i e f;obtain⟨g,q,_⟩:=i.get d f;exact .inr (.inr (.inl ⟨b,.inl ⟨g,q⟩⟩))
  .rename_i e f;obtain⟨g,q,_⟩:=i.get d f;exact .inr (.inr (.inl ⟨b,.inr ⟨g,q⟩⟩))
  .cases c
 .subst r;exact(of_decide_eq_true h:T = "int")
 .subst r;exact(of_decide_eq_true h:T = "str")
 .cases h
def UZ(T:String)(o:D->yM->M D)(a:C)(b:CA):C:=fun B=>YU (a B) λx S=>if XR T x S then YU (b B) (λc=>o x c) S else .bad
variable {o e:jH}{es:yE}{co:C}{ca:CA}{name:Str}{apos cpos:Pos}{T id:String}{m:D->yM->M D}
theorem Kw(t:uE T)(i:Slot T name id)(l:typeOf (.builtin id)=pure (.type "method_descriptor"))(hm:Sl X.K T (Ug X id) m)(w:PE X o (Zu X.K co))(K:PA X (e::es) (YB X.K ca))
  (b:fA o name X.env (wE o X.env)=wE o X.env)
  (g:((fD cpos (jO (e::es) X.env)).all (λx=>!x.1)&&(backToKw cpos (dD [] X.env)).all (λx=>x.1.isSome)
   && decide ((e::es).length+([]:List mE).length+(if([]:List mE).isEmpty then 0 else 1)<30))=Z7)
  (f:(apos.endLine == cpos.line)=Z7) (hs:jO (e::es) X.env=(Z5,wE e X.env)::jO es X.env) (a:(fD cpos (jO es X.env)).any (·.1)=Z5) :
  PE X (.Call (.Attribute o name apos) (e::es) [] cpos) (Zu X.K (UZ T m co ca)):=(yr t i l Fi w K b g f hs a).weak (by
 rintro Z H Q ⟨J,B,S,d,z,N,r,e,y⟩;obtain⟨x,q,A,e⟩:=Y6 e;split at e
 .rename_i hk;obtain⟨n,s,E,e⟩:=Y6 e;refine⟨J,B,S,x,q,N,r,A,λv O I k h p=>⟨EU k hk p,I,B,q,n,s,k,r.up h,E,λu G F j c L=>?_⟩⟩;exact hm x n s d z G F v u Q e j (RV.up c.tk c.ext _ _ p) L (y.shift (h.trans c j.nd))
 .cases e)
def NO(T:String)(o:D->yM->M D)(a:C):C:=fun B=>YU (a B) λx S=>if XR T x S then o x [] S else .bad
theorem pQ(k:uE T)(c:Slot T name id)(g:typeOf (.builtin id)=pure (.type "method_descriptor"))(hm:Sl X.K T (Ug X id) m)(l:PE X o (Zu X.K co))
  (a:fA o name X.env (wE o X.env)=wE o X.env) (b:(apos.endLine == cpos.line)=Z7):PE X (.Call (.Attribute o name apos) [] [] cpos) (Zu X.K (NO T m co)):=(yt k c g Fi l a b).weak (by
 rintro Z H Q ⟨J,B,S,d,n,t,s,e,y⟩;obtain⟨x,j,q,e⟩:=Y6 e;split at e
 .rename_i hk;exact⟨J,B,S,x,j,t,s,q,λv p r f h i=>⟨EU f hk i,hm x [] j d n p r v [] Q e f i RVs.nil (y.shift h)⟩⟩
 .cases e)
def W6(g:yM->yM->Option (yM×D)):D->yM->M D:=λx b S=>match x with
 |.lst n=>match S[n]? with
  |some (.lst c)=>match g c b with
   |some (a,d)=>.ok d (S.set n (.lst a))
   |none=>.bad
  |_=>.bad
 |_=>.bad
theorem SR.putL{K:yS}{zs:yM}(f:SR K J S H)(d:J[n]?=Z9 p)(b:H p=Z9 (.lst c))(r:RVs K H J zs a):SR K J (S.set n (.lst zs)) (ZD H p (.lst a))/\ZJ K J J H (ZD H p (.lst a)) :=
 f.put d b (λ_ z=>by cases z) (λ_ _ z=>by cases z) ⟨a,Xt,RVs.up (NZ b) ⟨[],by simp⟩ _ _ r⟩
theorem ET{g:yM->yM->Option (yM×D)}
  (h:∀(K:yS) H J ys xs zs d b a,g ys xs=Z9 (zs,d)->RVs K H J ys b->RVs K H J xs a->∃f w,RVs K H J zs f/\RV K H J d w/\∀(p:yR) (Q:VK),H p=Z9 (.lst b)->Q w (ZD H p (.lst f))->Ug X id (.ref p) a H Q):Sl X.K "list" (Ug X id) (W6 g):=by
 intro x xs S d B H J v a Q e k t rs y;unfold W6 at e;split at e
 .rename_i n;split at e
  .rename_i ys l;split at e
   .rename_i zs A u;cases e;obtain⟨p,rfl,j⟩:=t;obtain⟨b,i,r⟩:=k.lst j l;obtain⟨f,w,q,z,fin⟩:=h X.K H J ys xs zs d b a u r rs;obtain⟨s,c⟩:=k.putL j i q;exact fin p Q i (y w _ J s c (RV.up c.tk c.ext _ _ z))
   .cases e
  .cases e
 .cases e
def WE:yM->yM->Option (yM×D):=λa b=>match b with
 |[x]=>if a.length<lim then Z9 (a++[x],.non)else Z8
 |_=>Z8
theorem pP:Sl X.K "list" (Ug X "list.append") (W6 WE):=ET λK H J l j i d a k e b g=>by
 unfold WE at e;split at e
 .split at e
  .rename_i f;cases e;obtain⟨v,rfl,h⟩:=g.one;exact⟨a++[v],.non,b.append (.cons h .nil),RA,λp Q c q=>⟨_,GX,p,a,v,rfl,rfl,c,by rw[<- b.len];exact NU f,q⟩⟩
  .cases e
 .cases e
def NM:yM->yM->Option (yM×D):=λa b=>match b with
 |[.int i,x]=>if a.length<1000/\0<=i/\i.toNat<=a.length then Z9 (a.take i.toNat++x::a.drop i.toNat,.non)else Z8
 |_=>Z8
theorem pO:Sl X.K "list" (Ug X "list.insert") (W6 NM):=ET λK H J y t r d b s e a n=>by
 unfold NM at e;split at e
 .rename_i i x;split at e
  .rename_i c;cases e;obtain⟨g,w,k⟩:=c;obtain⟨v,u,rfl,f,j⟩:=n.two;subst f;have l:i=(i.toNat:Int):=by lia
   exact⟨b.take i.toNat++u::b.drop i.toNat,.non,(a.take _).append (.cons j (a.drop _)),RA,λp Q h q=>⟨_,xH,p,b,i.toNat,u,rfl,by rw[<- l],h,by rw[<- a.len];exact g,by rw[<- a.len];exact k,q⟩⟩
  .cases e
 .cases e
theorem RVs.dropLast{K:yS}{ds:yM}(r:RVs K H J ds a):RVs K H J ds.dropLast a.dropLast:=by rw[qR6,qR6,r.len];exact r.take _
def Qe:D->yM->M D:=λx a S=>match x,a with
 |.int i,[]=>.ok (.int ((Builtin.Int.intBits i:Nat):Int)) S
 |_,_=>.bad
theorem pN:Sl X.K "int" (Ug X "int.bit_length") Qe:=by
 intro x f S d c H J v g Q e a b rs y;unfold Qe at e;split at e
 .cases e;subst b;exact⟨_,vc,_,rfl,rs.nil_inv,y.self a Xw⟩
 .cases e
theorem YV.merge{K:yS}{H:Hp}{J:yC}:∀{more:List (ZI×D)}{ws:List (ZI×V)}{kvs:List (ZI×D)}{us:List (ZI×V)},YV K H J more ws->YV K H J kvs us->YV K H J (Yj kvs more) (VR us ws)
 |[],ws,kvs,us,h,g=>by
  have:ws=[]:=by have:=h.1;cases ws with|nil=>rfl|cons a b=>simp at this
  subst this;exact g
 |p::more,ws,kvs,us,h,g=>by obtain⟨q,d,rfl,f,c,i⟩:=h.cons_inv;show YV K H J (Yj (Yw kvs p.1 p.2) more) (VR (Y2 us q.1 q.2) d);rw[<- f];exact YV.merge i (g.put c)
def Zc(S:ZX)(n:Nat):Option (List (ZI×D)):=match S[n]? with
 |some (.dk a)=>Z9 a
 |some (.fk a)=>Z9 a
 |_=>Z8
theorem pM{K:yS}(f:SR K J S H)(e:Zc S n=Z9 kvs)(hm:J[n]?=Z9 a):∃ws,Rd H a (.dK ws)/\YV K H J kvs ws:=by
 unfold Zc at e;split at e
 .rename_i d;cases e;obtain⟨ws,b,c⟩:=f.get hm d;exact⟨ws,.inl b,c⟩
 .rename_i d;cases e;obtain⟨o,ws,b,c⟩:=f.get hm d;exact⟨ws,.inr ⟨o,b⟩,c⟩
 .cases e
def VY:D->yM->M D:=λx b S=>match x,b with
 |.dct n,[.dct m]=>match S[n]?,Zc S m with
  |some (.dk a),Z9 more=>if n≠m/\a.length+more.length<=lim then .ok .non (S.set n (.dk (Yj a more)))else .bad
  |_,_=>.bad
 |_,_=>.bad
theorem pL:Sl X.K "dict" (Ug X "dict.update") VY:=by
 intro x K S d I H J v G Q e g E rs y;unfold VY at e;split at e
 .rename_i n m;split at e
  .rename_i j more t hk;split at e
   .rename_i l;cases e;obtain⟨a,rfl,f⟩:=E;obtain⟨u,rfl,F⟩:=rs.one;obtain⟨b,rfl,s⟩:=F;obtain⟨r,h,p⟩:=g.get f t;obtain⟨q,k,c⟩:=pM g hk s;have i:a≠b:=λz=>by subst z;exact l.1 ((qT9 (qA5.mp f).1 g.nd).mp (f.trans s.symm))
    have w:TF X.K H (ZD H a (.dK (VR r q))):=Tz h (λ_ z=>by cases z) (λ_ _ z=>by cases z);obtain⟨A,B⟩:=g.put (o':=.dk (Yj j more)) f h (λ_ z=>by cases z) (λ_ _ z=>by cases z) ⟨_,Xt,(c.merge p).up w ⟨[],by simp⟩⟩;exact⟨_,rQ,a,b,r,q,rfl,rfl,i,h,k,by rw[<- p.len,<- c.len];exact RB l.2,y _ _ J A B RA⟩
   .cases e
  .cases e
 .cases e
def Ww:yM->Option (List (ZI×D))
 |[]=>Z9 []
 |.tup [k,v]::r=>match WT k,Ww r with
  |some q,Z9 a=>Z9 ((q,v)::a)
  |_,_=>Z8
 |_=>Z8
theorem ES{K:yS}{H:Hp}{J:yC}:∀{ds:yM}{ps:List (ZI×D)}{vs:List V},Ww ds=Z9 ps->RVs K H J ds vs->∃c,KU H vs c/\YV K H J ps c
 |[],ps,vs,e,r=>by cases e;rw[r.nil_inv];exact⟨[],.nil,.nil⟩
 |d::ds,ps,vs,e,r=>by
  obtain⟨v,A,rfl,s,u⟩:=r.cons_inv;unfold Ww at e;split at e
  .rename_i q;cases q
  .rename_i k x z q;cases q;split at e
   .rename_i q t j n;cases e;obtain⟨c,a,b⟩:=ES n u;obtain⟨p,w,rfl,f,l⟩:=s;obtain⟨y,h,rfl,i,g⟩:=l.two;rw[Rz j i]at f;exact⟨(q,h)::c,.cons ⟨p,rfl,f⟩ a,YV.cons g b⟩
   .cases e
  .cases e
def Wi:yM->M D:=λc S=>match c with
 |[.lst n]=>match S[n]? with
  |some (.lst a)=>match Ww a with
   |some b=>if a.length<=lim then .ok (.dct S.length) (S++[.dk (Yj [] b)])else .bad
   |none=>.bad
  |_=>.bad
 |_=>.bad
theorem pK(u:X.calm=Z7):Wm X.K (Yy X (.type "dict")) Wi:=by
 intro E S d B H J A Q e b w h;unfold Wi at e;split at e
 .split at e
  .rename_i F j;split at e
   .rename_i k l;split at e
    .rename_i g;cases e;obtain⟨v,rfl,r⟩:=w.one;obtain⟨a,rfl,s⟩:=r;obtain⟨i,x,c⟩:=b.get s j;obtain⟨y,q,z⟩:=ES l c;refine⟨_,rK u,a,i,y,rfl,x,q,by rw[<- c.len];exact RB g,λp f=>?_⟩;obtain⟨n,t⟩:=b.push (o':=.dk (Yj [] k)) f ⟨_,Xt,(z.merge YV.nil).up (RF f) ⟨[p],rfl⟩⟩;exact h _ _ _ n t (by exact⟨p,rfl,by rw[<- b.len,qA2 (qA6 _)];simp⟩)
    .cases e
   .cases e
  .cases e
 .cases e
def ER(n:Nat)(i v:D)(S:ZX):Option ZX:=match S[n]?,i with
 |some (.dt a),.tup b=>match b.mapM WT with
  |some k=>if a.length<lim then Z9 (S.set n (.dt (Yw a k v)))else Z8
  |none=>Z8
 |some (.dk []),.tup b=>match b.mapM WT with
  |some k=>Z9 (S.set n (.dt [(k,v)]))
  |none=>Z8
 |_,_=>Z8
theorem EO(r:X.A.units+1<vN):VL X (λo i v H Q=>∃a b k,o=.ref a/\i=.ref b/\H b=Z9 (.tup (k.map kV))/\((∃kvs,H a=Z9 (.dT kvs)/\kvs.length<jF/\Q (ZD H a (.dT (Y2 kvs k v))))∨(H a=Z9 (.dK [])/\Q (ZD H a (.dT [(k,v)]))))):=by
 intro t s Z H o i v l y u Q I p j n h;obtain⟨a,b,k,rfl,rfl,d,⟨kvs,c,w,q⟩| ⟨c,q⟩⟩:=h
 .obtain rfl:l=Value.ref a:=p;exact LN r I (WW.t c d w) j n λx g=>⟨_,g,q⟩
 .obtain rfl:l=Value.ref a:=p;have f:ZD H a (.dT []) b=Z9 (.tup (k.map kV)):=by rw[YI (λz=>by rw[z,c]at d;cases d)];exact d
  refine LN r (I.dTnil c) (WW.t (kvs:=[]) Xt f (by decide)) j n λx g=>⟨_,g,?_⟩
  rw[Bv];exact q
def XG:D->D->D->ZX->Option ZX:=λx i v S=>match x with
 |.lst n=>match S[n]?,i with
  |some (.lst b),.int k=>match Vp b.length k with
   |some j=>Z9 (S.set n (.lst (b.set j v)))
   |none=>Z8
  |_,_=>Z8
 |.dct n=>match S[n]?,WT i with
  |some (.dk a),Z9 k=>if a.length<lim then Z9 (S.set n (.dk (Yw a k v)))else Z8
  |_,_=>ER n i v S
 |_=>Z8
theorem pJ(n:X.A.units+1<vN):VL X (λo i v H Q=>∃a b,o=.ref a/\WW H a i v b/\Q b):=by intro c s Z H o i v f r u Q I l d j h;obtain⟨a,b,rfl,g,q⟩:=h;obtain rfl:f=Value.ref a:=l;exact LN n I g d j λp k=>⟨b,k,q⟩
theorem pI(I:X.A.units+1<vN){N O f:V}(e:XG x i v S=Z9 L)(h:SR X.K J S H)(t:RV X.K H J x N)(l:RV X.K H J i O)(w:RV X.K H J v f)(y:∀F ,SR X.K J L F->ZJ X.K J J H F->Q F):Fh X N O f H Q:=by
 unfold XG at e;split at e
 .split at e
  .rename_i Y k q;split at e
   .rename_i j P;cases e;unfold RV at t l;obtain⟨p,rfl,d⟩:=t;subst l;obtain⟨R,a,c⟩:=h.lst d q;obtain⟨r,s⟩:=h.putL d a (c.set w j);exact⟨_,zi,p,R,k,j,rfl,rfl,a,by rw[<- c.len];exact P,y _ r s⟩
   .cases e
  .cases e
 .split at e
  .rename_i n k q hk;split at e
   .rename_i A;cases e;unfold RV at t;obtain⟨p,rfl,d⟩:=t;obtain⟨g,a,c⟩:=h.get d q;have z:=Rz hk l;subst z;have u:TF X.K H (ZD H p (.dK (Y2 g k f))):=Tz a (λ_ z=>by cases z) (λ_ _ z=>by cases z);obtain⟨r,s⟩:=h.put (o:=.dK (Y2 g k f)) (o':=.dk (Yw n k v)) d a (λ_ z=>by cases z) (λ_ _ z=>by cases z) ⟨_,Xt,(c.put w).up u ⟨[],by simp⟩⟩;exact⟨_,pJ I,p,_,rfl,WW.k a (by rw[<- c.len];exact NU A),y _ r s⟩
   .cases e
  .rename_i E;clear E;unfold ER at e;unfold RV at t;obtain⟨p,rfl,d⟩:=t;split at e
   .rename_i n U q;unfold RV at l;obtain⟨b,bs,rfl,K,G⟩:=l;split at e
    .rename_i k hk;have:=NS hk G;subst this;split at e
     .rename_i A;cases e;obtain⟨g,a,c⟩:=h.get d q;have u:TF X.K H (ZD H p (.dT (Y2 g k f))):=Tz a (λ_ z=>by cases z) (λ_ _ z=>by cases z);obtain⟨r,s⟩:=h.put (o:=.dT (Y2 g k f)) (o':=.dt (Yw n k v)) d a (λ_ z=>by cases z) (λ_ _ z=>by cases z) ⟨_,Xt,(c.put w).up u ⟨[],by simp⟩⟩;exact⟨_,EO I,p,b,k,rfl,rfl,K,.inl ⟨g,a,by rw[<- c.len];exact NU A,y _ r s⟩⟩
     .cases e
    .cases e
   .rename_i U q;unfold RV at l;obtain⟨b,bs,rfl,K,G⟩:=l;split at e
    .rename_i k hk;cases e;have:=NS hk G;subst this;obtain⟨g,B,c⟩:=h.get d q;have W:g=[]:=qF5.mp c.len.symm;subst W;have u:TF X.K H (ZD H p (.dT [(k,f)])):=Tz B (λ_ z=>by cases z) (λ_ _ z=>by cases z);obtain⟨r,s⟩:=h.put (o:=.dT [(k,f)]) (o':=.dt [(k,v)]) d B (λ_ z=>by cases z) (λ_ _ z=>by cases z) ⟨_,Xt,YV.cons (RV.up u ⟨[],by simp⟩ _ _ w) .nil⟩;exact⟨_,EO I,p,b,k,rfl,rfl,K,.inr ⟨B,y _ r s⟩⟩
    .cases e
   .cases e
 .cases e
end
inductive RS where
 |bad|nx (B:ZT) (S:ZX)| rt (d:D) (S:ZX)| bk (B:ZT) (S:ZX)| ct (B:ZT) (S:ZX)| er (c:Str) (S:ZX)
abbrev CS:=ZT->ZX->RS
def Ud(X:Cx)(J:yC)(H:Hp)(E:WY):RS->Prop
 |.bad=>False
 |.er _ _=>False
 |.nx f e=>∀c a b,SR X.K b e a->ZJ X.K J b H a->RE X.K a b f c->E.nx c a
 |.bk f e=>∀c a b,SR X.K b e a->ZJ X.K J b H a->RE X.K a b f c->E.bk c a
 |.ct f e=>∀c a b,SR X.K b e a->ZJ X.K J b H a->RE X.K a b f c->E.ct c a
 |.rt d e=>Xq X.K J H d e E.rt
inductive YT(X:Cx)(c:CS)(E:WY)(Z:St)(H:Hp):Prop
 |mk (J:yC) (B:ZT) (S:ZX) (sr:SR X.K J S H) (re:RE X.K H J B Z) (y:Ud X J H E (c B S))
theorem Ud.shift(h:Ud X J H E r)(st:ZJ X.K J i H j):Ud X i j E r:=by
 cases r with
 |bad=>exact h
 |er _ _=>exact h
 |nx B S=>exact fun c b f a e g=>h c b f a (st.trans e a.nd) g
 |bk B S=>exact fun c b f a e g=>h c b f a (st.trans e a.nd) g
 |ct B S=>exact fun c b f a e g=>h c b f a (st.trans e a.nd) g
 |rt d S=>exact Xq.shift h st
def ZF:CS:=fun B S=>.nx B S
def Sk:CS:=fun B S=>.bk B S
def Sj:CS:=fun B S=>.ct B S
def Qd:CS:=λ_ _=>.bad
def Kv:CS:=λ_ S=>.rt .non S
def ZL(c:C):CS:=fun B S=>match c B S with
 |.ok d a=>.rt d a
 |.bad=>.bad
 |.er _ _=>.bad
def Vm(c:C):CS:=fun B S=>match c B S with
 |.ok _ a=>.nx B a
 |.bad=>.bad
 |.er _ _=>.bad
def ZV(a b:CS):CS:=fun B S=>match a B S with
 |.nx c d=>b c d
 |r=>r
def X6(t:CT)(a b:CS):CS:=fun B S=>match t B S with
 |.ok k c=>if k then a B c else b B c
 |.bad=>.bad
 |.er _ _=>.bad
abbrev G:=D->ZT->M ZT
def ZE(c:C)(g:G):CS:=fun B S=>match c B S with
 |.ok d b=>match g d B b with
  |.ok a e=>.nx a e
  |.bad=>.bad
  |.er _ _=>.bad
 |.bad=>.bad
 |.er _ _=>.bad
section
variable {X:Cx}{e a b tg:jH}{ce ca cb:C}{pos:Pos}
theorem pH:PS X (.Pass pos) (YT X ZF):=AY.weak λE Z H ⟨J,B,S,c,d,p⟩=>p Z H J c (ZJ.refl _ _ _) d
theorem pG:PS X (.Break pos) (YT X Sk):=AX.weak λE Z H ⟨J,B,S,c,d,p⟩=>p Z H J c (ZJ.refl _ _ _) d
theorem pF:PS X (.Continue pos) (YT X Sj):=AW.weak λE Z H ⟨J,B,S,c,d,p⟩=>p Z H J c (ZJ.refl _ _ _) d
theorem pD{st:wQ}:PS X st (YT X Qd):=AM.weak λE Z H ⟨J,B,S,c,d,p⟩=>p
theorem pC:PS X (.Return Z8 pos) (YT X Kv):=AQ.weak λE Z H ⟨J,B,S,c,d,p⟩=>p _ H J c (ZJ.refl _ _ _) RA
theorem pA(he:PE X e (Zu X.K ce)):PS X (.Return (Z9 e) pos) (YT X (ZL ce)):=(AS he).weak (by
 rintro E Z H ⟨J,B,S,f,g,p⟩;unfold ZL at p;split at p
 .rename_i d c h;exact⟨J,B,S,d,c,f,g,h,p⟩
 .exact False.elim p
 .exact False.elim p)
theorem pz(he:PE X e (Zu X.K ce))(hs:fP e Z8 pos.line X.env=pure Z5):PS X (.Expr e pos) (YT X (Vm ce)):=(AU he hs).weak (by
 rintro E Z H ⟨J,B,S,l,g,p⟩;unfold Vm at p;split at p
 .rename_i d i h;exact⟨J,B,S,d,i,l,g,h,λv j k f c m=>p Z j k f c (g.up c)⟩
 .exact False.elim p
 .exact False.elim p)
theorem pq:Xs X [] (YT X ZF):=A2.weak λE Z H ⟨J,B,S,c,d,p⟩=>p Z H J c (ZJ.refl _ _ _) d
theorem pk{st:wQ}{ZK:List wQ}(j:PS X st (YT X f))(k:Xs X ZK (YT X h)):Xs X (st::ZK) (YT X (ZV f h)):=(A1 j k).weak (by
 rintro E Z H ⟨J,B,S,o,m,p⟩;refine⟨J,B,S,o,m,?_⟩;unfold ZV at p;revert p;cases f B S with
 |nx n i=>exact λp q r l g c d=>⟨l,n,i,g,d,p.shift c⟩
 |bad=>exact λp=>p
 |er _ _=>exact λp=>p
 |rt _ _=>exact λp=>p
 |bk _ _=>exact λp=>p
 | ct _ _=>exact λp=>p)
theorem pj(ht:PT X t (YM X.K l))(o:Xs X m (YT X j))(q:Xs X bs (YT X i)):PS X (.If t m bs pos) (YT X (X6 l j i)):=(AO ht o q).weak (by
 rintro E Z H ⟨J,B,S,r,g,p⟩;unfold X6 at p;split at p
 .rename_i k f h;refine⟨J,B,S,k,f,r,g,h,λs n d c=>?_⟩;cases k with
  |true=>rw[if_pos rfl]at p ⊢;exact⟨n,B,f,d,g.up c,p.shift c⟩
  |false=>rw[if_neg qB4]at p ⊢;exact⟨n,B,f,d,g.up c,p.shift c⟩
 .exact False.elim p
 .exact False.elim p)
inductive Wv(K:yS)(g:G)(v:V)(Z:St)(H:Hp)(Q:St->Hp->Prop):Prop
 |mk (J:yC) (B:ZT) (S:ZX) (d:D) (B':ZT) (S':ZX) (sr:SR K J S H) (re:RE K H J B Z) (rv:RV K H J d v) (e:g d B S=.ok B' S') (y:∀Z' H' J',SR K J' S' H'->ZJ K J J' H H'->RE K H' J' B' Z'->Q Z' H')
theorem PG.weak(h:PG X tg t)(w:∀v Z H Q,t' v Z H Q->t v Z H Q):PG X tg t':=λc s Z H v u Q I r q=>h c s Z H v u Q I r (w v Z H Q q)
def gN(i:Nat):G:=λd B S=>.ok (B.set i (Z9 d)) S
theorem ph(h:PG X (.Name x pos) (SU i)):PG X (.Name x pos) (Wv X.K (gN i)):=h.weak (by
 rintro v Z H Q ⟨J,B,S,d,j,k,f,g,c,e,y⟩;unfold gN at e;cases e;exact y _ H J f (ZJ.refl _ _ _) (g.set c i))
def gS(g c:C):G:=λd B=>YU (g B) λo=>YU (c B) λi S=>match XG o i d S with
 |some f=>.ok B f
 |none=>.bad
theorem pg(F:X.A.units+1<vN)(p:PE X a (Zu X.K ca))(hi:PE X b (Zu X.K cb))(E:∀v,lF (.Subscript a b pos) X.env v=(do
   let j <- fH [v] (wE a X.env)
   let l <- fH [v,j] (wE b X.env)
   uH pos
   fH [v,j,l] (uZ j l v)
   release [v,j,l] [])):PG X (.Subscript a b pos) (Wv X.K (gS ca cb)):=(AL p hi rq E).weak (by
 rintro v Z H Q ⟨J,B,S,d,P,M,I,m,u,e,y⟩;obtain⟨x,o,q,e⟩:=Y6 e;obtain⟨z,K,r,e⟩:=Y6 e;split at e
 .rename_i L D;cases e;refine⟨J,B,S,x,o,I,m,q,λj N w n i s=>⟨w,B,o,z,K,n,m.up i,r,λl O t k g G=>?_⟩⟩;have c:=i.trans g k.nd;refine pI F D k (RV.up g.tk g.ext _ _ s) G (RV.up c.tk c.ext _ _ u) λA f h=>?_;exact y Z A t f (c.trans h f.nd) (m.up (c.trans h f.nd))
 .cases e)
def Tu:List G->yM->ZT->M ZT
 |[],[]=>fun B=>ret B
 |g::f,d::ds=>fun B=>YU (g d B) fun c=>Tu f ds c
 |_,_=>λ_=>bad
def gT(f:List G):G:=λd B=>match d with
 |.tup c=>Tu f c B
 |_=>bad
inductive Qc(K:yS)(gs:List G)(vs:List V)(Z:St)(H:Hp)(Q:St->Hp->Prop):Prop
 |mk (J:yC) (B:ZT) (S:ZX) (ds:yM) (B':ZT) (S':ZX) (sr:SR K J S H) (re:RE K H J B Z) (rv:RVs K H J ds vs) (e:Tu gs ds B S=.ok B' S') (y:∀Z' H' J',SR K J' S' H'->ZJ K J J' H H'->RE K H' J' B' Z'->Q Z' H')
theorem VM.weak(h:VM X es t)(w:∀v Z H Q,t' v Z H Q->t v Z H Q):VM X es t':=λc s Z H v u Q I r q=>h c s Z H v u Q I r (w v Z H Q q)
theorem pe:VM X [] (Qc X.K []):=Hq.weak (by
 rintro v Z H Q ⟨J,B,S,ds,h,i,f,g,c,e,y⟩;cases ds with
 |nil =>
  obtain⟨rfl,rfl⟩:=XX e;exact⟨c.nil_inv,y Z H J f (ZJ.refl _ _ _) g⟩
 | cons d ds=>cases e)
theorem pb(r:PG X e (Wv X.K g))(s:VM X es (Qc X.K l))(hs:(jZ (e::es) X.env).map (·.2)=lF e X.env::(jZ es X.env).map (·.2)):VM X (e::es) (Qc X.K (g::l)):=(Ho r s hs).weak (by
 rintro v Z H Q ⟨J,B,S,ds,F,p,K,E,x,e,y⟩;cases ds with
 |nil=>cases e
 |cons d ds =>
  obtain⟨n,m,q,e⟩:=Y6 e;obtain⟨u,o,rfl,t,I⟩:=x.cons_inv;refine⟨u,o,rfl,J,B,S,d,n,m,K,E,t,q,fun M L A k c j=>?_⟩;exact⟨A,n,m,ds,F,p,k,j,RVs.up c.tk c.ext _ _ I,e,fun D z w f i h=>y D z w f (c.trans i f.nd) h⟩)
theorem o9:∀{ds:yM}{B f:ZT}{S h:ZX},Tu c ds B S=.ok f h->ds.length=c.length:=by
 induction c with
 |nil=>intro ds B f S h e;cases ds with|nil=>rfl|cons _ _=>cases e
 |cons g c i =>
  intro ds B f S h e;cases ds with
  |nil=>cases e
  |cons d ds =>
   obtain⟨l,j,k,e⟩:=Y6 e;rw[qC9,qC9,i e]
theorem o8(o:X.calm=Z7)(h:VM X es (Qc X.K f))(l:(jZ es X.env).length=f.length)(c:(jZ es X.env).findIdx? (·.1)=Z8):PG X (.Tuple es k pos) (Wv X.K (gT f)) :=
 (Hn o h l c).weak (by
 rintro v Z H Q ⟨J,B,S,d,s,m,t,r,g,e,y⟩;unfold gT at e;split at e
 .rename_i n;unfold RV at g;obtain⟨p,j,rfl,q,i⟩:=g;exact⟨p,j,rfl,Zn.of q,by rw[<- i.len];exact o9 e,J,B,S,n,s,m,t,r,i,e,y⟩
 .cases e)
theorem EN(he:PE X e (Zu X.K ce))(y:PG X tg (Wv X.K g))(hs:swapsWithSole [tg] e pos.line X.env=pure Z5)(n:wY [tg] e X.env=pure Z8)(o:(jZ [tg] X.env).map (·.2)=[lF tg X.env]):PS X (.Assign [tg] e pos) (YT X (ZE ce g)):=(AK he y hs n o).weak (by
 rintro E Z H ⟨J,B,S,z,m,p⟩;unfold ZE at p;split at p
 .rename_i d l h;split at p
  .rename_i x A q;refine⟨J,B,S,d,l,z,m,h,λv D u k c r=>⟨u,B,l,d,x,A,k,m.up c,r,q,fun w t s f j i=>?_⟩⟩;exact p w t s f (c.trans j f.nd) i
  .exact False.elim p
  .exact False.elim p
 .exact False.elim p
 .exact False.elim p)
theorem o7(h:PS X (.Assign [.Name x pos'] e pos) (Vf (Zu X.K ce) (SU i))):PS X (.Assign [.Name x pos'] e pos) (YT X (ZE ce (gN i))):=h.weak (by
 rintro E Z H ⟨J,B,S,n,g,p⟩;unfold ZE at p;split at p
 .rename_i d j h;exact⟨J,B,S,d,j,n,g,h,λv k m f c l=>p _ k m f c ((g.up c).set l i)⟩
 .exact False.elim p
 .exact False.elim p)
def Vl:Nat->CT->CS->CS
 |0,_,_=>λ_ _=>.bad
 |k+1,t,b=>fun B S=>match t B S with
  |.ok Z7 f=>match b B f with
   |.nx c d=>Vl k t b c d
   |.ct c d=>Vl k t b c d
   |.bk c d=>.nx c d
   |r=>r
  |.ok Z5 f=>.nx B f
  |.bad=>.bad
  |.er _ _=>.bad
theorem o6(k:Nat)(N:dM (yW X.prog X.w) X.A X.env X.xe)(ht:PT X t (YM X.K ct))(Q:Xs X n (YT X s)):PS X (.While t n [] pos) (YT X (Vl k ct s)):=(AI N ht Q).weak (by
 rintro E R K ⟨F,O,M,x,z,P⟩;refine⟨λm Z H=>∃J B S,SR X.K J S H/\ZJ X.K F J K H/\RE X.K H J B Z/\Ud X J H E (Vl m ct s B S),⟨k,F,O,M,x,ZJ.refl _ _ _,z,P⟩,?_⟩;rintro m Z H ⟨J,B,S,L,st,v,p⟩;cases m with
 |zero=>exact False.elim p
 |succ m =>
  unfold Vl at p;split at p
  .rename_i r h;refine⟨J,B,S,Z7,r,L,v,h,λI A j f=>?_⟩;refine⟨fun G q=>∃J B S,SR X.K J S q/\ZJ X.K F J K q/\RE X.K q J B G/\Ud X J q E (Vl m ct s B S),fun G q h=>⟨m,qL3 m,h⟩,A,B,r,j,v.up f,?_⟩;have l:=st.trans f j.nd;revert p;cases s B r with
   |nx w u=>exact λp D y o c g i=>⟨o,w,u,c,l.trans g c.nd,i,p.shift (f.trans g c.nd)⟩
   |ct w u=>exact λp D y o c g i=>⟨o,w,u,c,l.trans g c.nd,i,p.shift (f.trans g c.nd)⟩
   |bk w u=>exact λp D y o c g i=>p D y o c (f.trans g c.nd) i
   |rt d u=>exact λp=>Xq.shift p f
   |bad=>exact λp=>p
   |er _ _=>exact λp=>p
  .rename_i r h;refine⟨J,B,S,Z5,r,L,v,h,λI A j f=>?_⟩;dsimp only;rw[if_neg qB4];exact p Z I A j f (v.up f)
  .exact False.elim p
  .exact False.elim p)
abbrev Xm:=List (Nat×yM)
def XQ(w:Xm)(S:ZX):Prop:=∀p∈w,ZO S p.1=Z9 p.2
abbrev CI:=ZT->M (yM×Xm)
structure WQ(K:yS)(JJ:It)(items:yM)(w:Xm)(J0:yC)(H0:Hp):Prop where
 go:∀(i:Nat) H J S,SR K J S H->ZJ K J0 J H0 H->XQ w S->i<items.length->JJ.go i H
 yld:∀(i:Nat) H J S x H',SR K J S H->ZJ K J0 J H0 H->XQ w S->i<items.length->JJ.yld i H x H'->∃d,items[i]?=Z9 d/\SR K J S H'/\ZJ K J J H H'/\RV K H' J d x
 stop:∀H J S,SR K J S H->ZJ K J0 J H0 H->XQ w S->JJ.stop items.length H
inductive Yi(K:yS)(it:CI)(Z:St)(H:Hp)(R:It->Hp->Prop):Prop
 |mk (J:yC) (B:ZT) (S:ZX) (items:yM) (w:Xm) (S':ZX) (sr:SR K J S H) (re:RE K H J B Z) (e:it B S=.ok (items,w) S') (y:∀JJ H' J',SR K J' S' H'->ZJ K J J' H H'->WQ K JJ items w J' H'->R JJ H')
theorem PI.weak(h:PI X tg iter t)(w:∀Z H R,t' Z H R->t Z H R):PI X tg iter t':=λc s Z H R I q=>h c s Z H R I (w Z H R q)
theorem ZJ.at{K:yS}(st:ZJ K J c H d){n:Nat}{a:yR}(h:J[n]?=Z9 a):c[n]?=Z9 a:=by obtain⟨f,rfl⟩:=st.ext;rw[qA8 (qA5.mp h).1];exact h
open Classical in
def Zf(w:Xm)(g:G)(b:CS):yM->CS
 |[]=>fun B S=>if XQ w S then .nx B S else .bad
 | d::ds=>fun B S=>if XQ w S then(match g d B S with
  |.ok i h=>match b i h with
   |.nx c f=>Zf w g b ds c f
   |.ct c f=>Zf w g b ds c f
   |.bk c f=>.nx c f
   |r=>r
  |.bad=>.bad
  | .er _ _=>.bad)else .bad
def Ze(f:CI)(g:G)(b:CS):CS:=fun B S=>match f B S with
 |.ok (c,w) d=>Zf w g b c B d
 |.bad=>.bad
 |.er _ _=>.bad
theorem o5{D:CS}(V:SR X.K t S0 r)(re0:RE X.K r t B Z)(io:WQ X.K P items w t r)(p:Ud X t r E (Zf w g D items B S0)):
  ∃W:Nat->Nat->St->Hp->Prop,(∃m,W 0 m Z r)/\∀i m Z H,W i m Z H->(P.stop i H/\E.nx Z H)∨(P.go i H/\∃N:St->Hp->Prop,(∀v k,N v k->∃m',m'<m/\W (i+1) m' v k)/\∀x k,P.yld i H x k->Wv X.K g x Z k fun Z2 H2=>YT X D { E with nx:=N,ct:=N,bk:=E.nx } Z2 H2):=by
 refine⟨λi m Z H=>i+m=items.length/\∃J B S,SR X.K J S H/\ZJ X.K t J r H/\RE X.K H J B Z/\Ud X J H E (Zf w g D (items.drop i) B S),⟨items.length,by simp,t,B,S0,V,ZJ.refl _ _ _,re0,by exact p⟩,?_⟩;rintro i m Z1 O ⟨him,y,B1,Q,o,n,I,j⟩;by_cases M:i<items.length
 .rw[qF8 M]at j;unfold Zf at j;split at j
  .rename_i K;refine .inr ⟨io.go i O y Q o n K M,fun v k=>i+1+(m - 1)=items.length/\∃J B S,SR X.K J S k/\ZJ X.K t J r k/\RE X.K k J B v/\Ud X J k E (Zf w g D (items.drop (i+1)) B S),fun v k z=>⟨m - 1,by lia,z⟩,λx H2 hy=>?_⟩;obtain⟨d,hd,sr2,A,rv⟩:=io.yld i O y Q x H2 o n K M hy;have ed:=by rw[qA3 M]at hd;exact Option.some.inj hd
   rw[ed]at j;split at j
   .rename_i U T h3;refine⟨y,B1,Q,d,U,T,sr2,I.up A,rv,h3,fun Z3 H3 J3 s R re3=>⟨J3,U,T,s,re3,?_⟩⟩;have f:=A.trans R s.nd;have q:=n.trans f s.nd;revert j;cases D U T with
    |nx L F=>exact λp Z4 Y u c h l=>⟨by lia,u,L,F,c,q.trans h c.nd,l,p.shift (f.trans h c.nd)⟩
    |ct L F=>exact λp Z4 Y u c h l=>⟨by lia,u,L,F,c,q.trans h c.nd,l,p.shift (f.trans h c.nd)⟩
    |bk L F=>exact λp Z4 Y u c h l=>p Z4 Y u c (f.trans h c.nd) l
    |rt d F=>exact λp=>Xq.shift p f
    |bad=>exact λp=>p
    |er _ _=>exact λp=>p
   .exact False.elim j
   .exact False.elim j
  .exact False.elim j
 .have e:i=items.length:=by lia
  subst e;rw[qN9]at j;unfold Zf at j;split at j
  .rename_i K;exact .inl ⟨io.stop O y Q o n K,j Z1 O y o (ZJ.refl _ _ _) I⟩
  .exact False.elim j
theorem o3(m:dM (yW X.prog X.w) X.A X.env X.xe)(n:X.calm=Z7)(hi:PI X tg iter (Yi X.K k))(r:PG X tg (Wv X.K g))(t:Xs X c (YT X i))
  (hs:∀x,wT iter X.env x=pure x):PS X (.For tg iter c [] pos) (YT X (Ze k g i)):=(AB m n hi r t hs).weak (by
 rintro E Z H ⟨J,B,S,s,j,p⟩;unfold Ze at p;split at p
 .rename_i d w l q;exact⟨J,B,S,d,w,l,s,j,q,λv u y h f o=>o5 h (j.up f) o (p.shift f)⟩
 .exact False.elim p
 .exact False.elim p)
end
section
variable {X:Cx}{tg e:jH}{ce:C}{pos:Pos}
def kD:ZI->D
 |.inl i=>.int i
 |.inr x=>.str x
def Zw(c:C):CI:=fun B=>YU (c B) λx S=>match x with
 |.tup b=>.ok (b,[]) S
 |.lst n=>match ZO S n with
  |some b=>.ok (b,[(n,b)]) S
  |none=>.bad
 |.dct n=>match S[n]? with
  |some (.dk a)=>.ok (a.map λp=>kD p.1,[]) (S.set n (.fk a))
  |some (.fk a)=>.ok (a.map λp=>kD p.1,[]) S
  |_=>.bad
 |_=>.bad
theorem o2{K:yS}{d:Hp}{g:yC}{a:yR}{xs:yM}{b:List V}(q:Zn K d a b)(r:RVs K d g xs b):WQ K (Mc K a) xs [] g d where
 go:=λi H J S f st _ c=>by obtain⟨v,e,_⟩:=r.get (qA3 c);exact⟨b,v,st.tk.t _ _ q,e⟩
 yld:=λi H J S x j f st _ c y=>by obtain⟨rfl,y⟩:=y;obtain⟨v,e,h⟩:=r.get (qA3 c);have:=y b (st.tk.t _ _ q);rw[e]at this;cases this;exact⟨xs[i],qA3 c,f,ZJ.refl _ _ _,RV.up st.tk st.ext _ _ h⟩
 stop:=λH J S f st _=>⟨b,st.tk.t _ _ q,by rw[r.len];exact qA6 _⟩
theorem o1{K:yS}{g:Hp}{f:yC}{a:yR}{n:Nat}{xs:yM}(hm:f[n]?=Z9 a):WQ K (Md K a) xs [(n,xs)] f g where
 go:=λi H J S b st w d=>by obtain⟨c,q,r⟩:=b.sq (st.at hm) (w (n,xs) (by simp));obtain⟨v,e,_⟩:=r.get (qA3 d);exact⟨c,v,q,e⟩
 yld:=λi H J S x j b st w d y=>by obtain⟨rfl,y⟩:=y;obtain⟨c,q,r⟩:=b.sq (st.at hm) (w (n,xs) (by simp));obtain⟨v,e,h⟩:=r.get (qA3 d);have:=y c q;rw[e]at this;cases this;exact⟨xs[i],qA3 d,b,ZJ.refl _ _ _,h⟩
 stop:=λH J S b st w=>by obtain⟨c,q,r⟩:=b.sq (st.at hm) (w (n,xs) (by simp));exact⟨c,q,by rw[r.len];exact qA6 _⟩
theorem EM{K:yS}{f:Hp}{k:yC}{a:yR}{o:Obj}{b:List (ZI×V)}{kvs:List (ZI×D)}(q:f a=Z9 (.frz o (.dK b)))(e:kvs.map (·.1)=b.map (·.1)):WQ K (Uj a o) (kvs.map λp=>kD p.1) [] k f where
 go:=λi H J S c st _ d=>⟨b,st.tk.z _ _ _ q,by
  have:=congrArg qH4 e;simp at this d;lia⟩
 yld:=λi H J S x l c st _ d y=>by
  obtain⟨rfl,y⟩:=y;obtain⟨p,j,rfl⟩:=y b (st.tk.z _ _ _ q);have g:(kvs.map (·.1))[i]?=Z9 p.1:=by rw[e,qB1,j];rfl
  have h:(kvs.map λp=>kD p.1)[i]?=Z9 (kD p.1):=by
   have:(kvs.map λp=>kD p.1)=(kvs.map (·.1)).map kD:=by rw[qC8];rfl
   rw[this,qB1,g];rfl
  refine⟨kD p.1,h,c,ZJ.refl _ _ _,?_⟩;cases p.1<;>(unfold kD RV;rfl)
 stop:=λH J S c st _=>⟨b,st.tk.z _ _ _ q,by
  have:=congrArg qH4 e;simp at this;simp;lia⟩
theorem oZ(m:PE X e l):PI X tg e (fun Z H R=>l Z H λx c=>∃a,x=.ref a/\((∃xs,YQ X.K c a xs)/\R (Md X.K a) c∨(∃xs,Zn X.K c a xs)/\R (Mc X.K a) c
  ∨ (∃kvs,((c a=Z9 (.dK kvs)/\∀o,R (Uj a o) (ZD c a (.frz o (.dK kvs))))∨∃o,c a=Z9 (.frz o (.dK kvs))/\R (Uj a o) c))
  ∨ False)):=by
 intro i s Z H R I h;refine Zq (m i s Z H _ I h) λv f ⟨x,c,d,n,u⟩=>?_;obtain⟨a,e,q⟩:=u;subst e;cases n;rcases q with⟨⟨xs,j⟩,q⟩| ⟨⟨xs,j⟩,q⟩| q
 .obtain⟨g,r,p,t⟩:=d.list j;refine vF p.isList ?_;refine⟨f.heap.objs.size,[f.heap.objs.size],_,_,c,rfl,d.kept (t':=f.toks) λb o e=>qA1 _ e,AH a _,⟨_,qA9 _ rfl,rfl,rfl⟩,λb k=>?_,q⟩;have e:b=f.heap.objs.size:=by simpa using k
  subst e;exact d.fpOk (qA6 _) (d.hok.fresh (qA6 _))
 .obtain⟨g,r,p,t⟩:=d.tuple j;refine vE (show f.heap.IsTuple a g.toArray from p) ?_;refine⟨f.heap.objs.size,[f.heap.objs.size],_,_,c,rfl,d.kept (t':=f.toks) λb o e=>qA1 _ e,AG a _,⟨_,qA9 _ rfl,rfl,rfl⟩,λb k=>?_,q⟩;have e:b=f.heap.objs.size:=by simpa using k
  subst e;exact d.fpOk (qA6 _) (d.hok.fresh (qA6 _))
 .skip
  rcases q with q|q
  .exact rR d q
  exact q.elim
theorem oY(he:PE X e (Zu X.K ce)):PI X tg e (Yi X.K (Zw ce)):=(oZ he).weak (by
 rintro Z H R ⟨J,B,S,r,w,L,K,I,e,y⟩;obtain⟨x,E,A,e⟩:=Y6 e;refine⟨J,B,S,x,E,K,I,A,λv f l b d k=>?_⟩;split at e
 .rename_i D;cases e;have s:=k;obtain⟨a,m,rfl,q,g⟩:=s;exact⟨a,rfl,.inr (.inl ⟨⟨m,Zn.of q⟩,y _ f l b d (o2 (Zn.of q) g)⟩)⟩
 .rename_i n;split at e
  .rename_i D u;cases e;obtain⟨a,rfl,i⟩:=k;obtain⟨m,q,g⟩:=b.sq i u;exact⟨a,rfl,.inl ⟨⟨m,q⟩,y _ f l b d (o1 i)⟩⟩
  .cases e
 .rename_i n;unfold RV at k;obtain⟨a,rfl,i⟩:=k;have fin:(∃c,((f a=Z9 (.dK c)/\∀o,R (Uj a o) (ZD f a (.frz o (.dK c))))∨∃o,f a=Z9 (.frz o (.dK c))/\R (Uj a o) f)):=by
   split at e
   .rename_i c p;cases e;obtain⟨j,h,g⟩:=b.get i p;refine⟨j,.inl ⟨h,λo=>?_⟩⟩;have F:TF X.K f (ZD f a (.frz o (.dK j))):=Tz h (λ_ z=>by cases z) (λ_ _ z=>by cases z);obtain⟨t,G⟩:=b.put (o:=.frz o (.dK j)) (o':=.fk c) i h (λ_ z=>by cases z) (λ_ _ z=>by cases z) ⟨_,_,Xt,g.up F ⟨[],by simp⟩⟩;exact y _ _ l t (d.trans G t.nd) (EM Xt g.1)
   .rename_i c p;cases e;obtain⟨o,j,h,g⟩:=b.get i p;exact⟨j,.inr ⟨o,h,y _ f l b d (EM h g.1)⟩⟩
   .cases e
  first
  |exact⟨a,rfl,.inr (.inr (.inr (.inl fin)))⟩
  |exact⟨a,rfl,.inr (.inr (.inl fin))⟩
 .cases e)
def Y5(lo:Int)(n:Nat):yM:=(List.range n).map λk=>D.int (lo+(k:Nat))
theorem EL{K:yS}{d:Hp}{f:yC}{lo:Int}{n:Nat}:WQ K (QU lo n) (Y5 lo n) [] f d where
 go:=λi H J S c st _ a=>by unfold Y5 at a;simp at a;exact a
 yld:=λi H J S x g c st _ a y=>by
  obtain⟨rfl,rfl⟩:=y;have b:=by unfold Y5 at a;simp at a;exact a
  exact⟨.int (lo+i),by unfold Y5;rw[qB1,qH2 b];rfl,c,ZJ.refl _ _ _,Xw⟩
 stop:=λH J S c st _=>by show n<=(Y5 lo n).length;unfold Y5;simp
def VX(a:CA):CI:=fun B=>YU (a B) λb S=>match b with
 |[.int j]=>if -4611686018427387904<=j/\j<4611686018427387904 then .ok (Y5 0 j.toNat,[]) S else .bad
 |_=>.bad
def NL(a:CA):CI:=fun B=>YU (a B) λb S=>match b with
 |[.int i,.int j]=>if -4611686018427387904<=i/\i<4611686018427387904/\-4611686018427387904<=j/\j<4611686018427387904 then .ok (Y5 i (j - i).toNat,[]) S else .bad
 |_=>.bad
variable {a b:jH}{ca:CA}
theorem oX(h:PI X tg (.Call (.Name "range" p) [a] [] pos) (Hl (YB X.K ca))):PI X tg (.Call (.Name "range" p) [a] [] pos) (Yi X.K (VX ca)):=h.weak (by
 rintro Z H R ⟨J,B,S,d,w,u,s,q,e,y⟩;obtain⟨l,n,k,e⟩:=Y6 e;refine⟨J,B,S,l,n,s,q,k,λt i o f c m=>?_⟩;split at e
 .rename_i j;split at e
  .rename_i g;cases e;obtain⟨v,rfl,r⟩:=m.one;subst r;exact⟨j,rfl,g.1,g.2,y _ i o f c EL⟩
  .cases e
 .cases e)
theorem oW(h:PI X tg (.Call (.Name "range" p) [a,b] [] pos) (Hk (YB X.K ca))):PI X tg (.Call (.Name "range" p) [a,b] [] pos) (Yi X.K (NL ca)):=h.weak (by
 rintro Z H R ⟨J,B,S,d,w,A,x,s,e,y⟩;obtain⟨n,q,m,e⟩:=Y6 e;refine⟨J,B,S,n,q,x,s,m,λz l r f c o=>?_⟩;split at e
 .rename_i i j;split at e
  .rename_i g;cases e;obtain⟨v,u,rfl,t,k⟩:=o.two;subst t k;exact⟨i,j,rfl,g,y _ l r f c EL⟩
  .cases e
 .cases e)
theorem EK{f g:Type}{xs:List f}{ys:List g}(h:i<(xs.zip ys).length):∃x y,xs[i]?=Z9 x/\ys[i]?=Z9 y/\(xs.zip ys)[i]?=Z9 (x,y):=by
 rw[qM0]at h;have c:i<xs.length:=by omega
 have d:i<ys.length:=by omega
 exact⟨xs[i],ys[i],qA3 c,qA3 d,by rw[qQ2];exact⟨qA3 c,qA3 d⟩⟩
def zipD(xs ys:yM):yM:=(xs.zip ys).map λp=>.tup [p.1,p.2]
def Wu(S:ZX):D->Option (yM)
 |.tup c=>Z9 c
 |.lst n=>ZO S n
 |_=>Z8
def Tt(x:D)(xs:yM):Xm:=match x with
 |.lst n=>[(n,xs)]
 |_=>[]
theorem EJ{K:yS}(l:SR K J S H)(r:RV K H J x v)(f:Wu S x=Z9 xs):∃a b,v=.ref a/\(∃vs,Xy b K H a vs) /\
  ∀d g i,SR K g i d->ZJ K J g H d->XQ (Tt x xs) i->∃vs,Xy b K d a vs/\RVs K d g xs vs:=by
 unfold Wu at f;split at f
 .rename_i m;cases f;obtain⟨a,vs,rfl,q,j⟩:=r;exact⟨a,Z7,rfl,⟨vs,Zn.of q⟩,λd g i h c _=>⟨vs,c.tk.t _ _ (Zn.of q),RVs.up c.tk c.ext _ _ j⟩⟩
 .rename_i n;obtain⟨a,rfl,k⟩:=r;obtain⟨vs,q,j⟩:=l.sq k f;exact⟨a,Z5,rfl,⟨vs,q⟩,λd g i h c w=>h.sq (c.at k) (w (n,xs) (by simp[Tt]))⟩
 .cases f
theorem Rw:XQ (d++f) S↔XQ d S/\XQ f S:=by unfold XQ;simp only[qB6];exact⟨λh=>⟨λp c=>h p (.inl c),λp c=>h p (.inr c)⟩,λh p c=>c.elim (h.1 p) (h.2 p)⟩
theorem oV{K:yS}{s:Hp}{z:yC}{a b:yR}{b1 A:Bool}{B D:Xm}{xs ys:yM}
  (g:∀d j n,SR K j n d->ZJ K z j s d->XQ B n->∃c,Xy b1 K d a c/\RVs K d j xs c) (h:∀d j n,SR K j n d->ZJ K z j s d->XQ D n->∃c,Xy A K d b c/\RVs K d j ys c) :
  WQ K (SH b1 A K a b) (zipD xs ys) (B++D) z s where
 go:=λi H J S f st w m=>by obtain⟨c,q,r⟩:=g H J S f st (Rw.mp w).1;obtain⟨l,k,o⟩:=h H J S f st (Rw.mp w).2;obtain⟨x,y,p,t,_⟩:=EK (by unfold zipD at m;simpa using m);obtain⟨v,g,_⟩:=r.get p;obtain⟨u,h,_⟩:=o.get t;exact⟨c,l,v,u,q,k,g,h⟩
 yld:=λi H J S x P f st w m y=>by obtain⟨T,O,rfl,y⟩:=y;obtain⟨c,q,r⟩:=g H J S f st (Rw.mp w).1;obtain⟨l,k,o⟩:=h H J S f st (Rw.mp w).2;obtain⟨x,N,p,t,I⟩:=EK (by unfold zipD at m;simpa using m);obtain⟨v,g,F⟩:=r.get p;obtain⟨u,h,E⟩:=o.get t;have:=y c l v u q k g h;subst this;obtain⟨G,L,M⟩:=NV f O (.cons F (.cons E .nil));exact⟨.tup [x,N],by unfold zipD;rw[qB1,I];rfl,G,L,M⟩
 stop:=λH J S f st w=>by obtain⟨c,q,r⟩:=g H J S f st (Rw.mp w).1;obtain⟨l,k,o⟩:=h H J S f st (Rw.mp w).2;exact⟨c,l,q,k,by unfold zipD;rw[qA0,qM0,r.len,o.len]⟩
def Uc(a:CA):CI:=fun B=>YU (a B) λf S=>match f with
 |[x,y]=>match Wu S x,Wu S y with
  |some d,Z9 c=>.ok (zipD d c,Tt x d++Tt y c) S
  |_,_=>.bad
 |_=>.bad
theorem oU{d:yE}(h:PI X (.Tuple d k c) (.Call (.Name "zip" p) [a,b] [] pos) (Gz X.K (YB X.K ca))):PI X (.Tuple d k c) (.Call (.Name "zip" p) [a,b] [] pos) (Yi X.K (Uc ca)):=h.weak (by
 rintro Z H R ⟨J,B,S,i,w,N,G,E,e,y⟩;obtain⟨t,A,q,e⟩:=Y6 e;refine⟨J,B,S,t,A,G,E,q,λL r D f g z=>?_⟩;split at e
 .rename_i O M;split at e
  .rename_i P K s x;cases e;obtain⟨v,u,rfl,F,m⟩:=z.two;obtain⟨a,b1,rfl,I,n⟩:=EJ f F s;obtain⟨b,l,rfl,j,o⟩:=EJ f m x;exact⟨a,b,b1,l,rfl,I,j,y _ r D f g (oV n o)⟩
  .cases e
 .cases e)
def VW(xs:yM):yM:=((List.range xs.length).zip xs).map λp=>.tup [.int (p.1:Nat),p.2]
theorem NK(h:i<xs.length):(VW xs)[i]?=Z9 (.tup [.int (i:Nat),xs[i]]):=by
 unfold VW;rw[qB1];have:((List.range xs.length).zip xs)[i]?=Z9 (i,xs[i]):=by rw[qQ2];exact⟨qH2 h,qA3 h⟩
 rw[this];rfl
theorem Ts(xs:yM):(VW xs).length=xs.length:=by unfold VW;simp
theorem oT{K:yS}{f:Hp}{h:yC}{a:yR}{xs:yM}{d:List V}(q:Zn K f a d)(r:RVs K f h xs d):WQ K (Vb Z7 K a) (VW xs) [] h f where
 go:=λi H J S g st _ c=>by rw[Ts]at c;obtain⟨v,e,_⟩:=r.get (qA3 c);exact⟨d,v,st.tk.t _ _ q,e⟩
 yld:=λi H J S x o g st _ c y=>by rw[Ts]at c;obtain⟨T,n,rfl,y⟩:=y;obtain⟨v,e,j⟩:=r.get (qA3 c);have:=y d v (st.tk.t _ _ q) e;subst this;obtain⟨k,l,m⟩:=NV g n (.cons Xw (.cons (RV.up st.tk st.ext _ _ j) .nil));exact⟨_,NK c,k,l,m⟩
 stop:=λH J S g st _=>⟨d,st.tk.t _ _ q,by rw[Ts,r.len]⟩
theorem oS{K:yS}{h:Hp}{g:yC}{a:yR}{n:Nat}{xs:yM}(hm:g[n]?=Z9 a):WQ K (Vb Z5 K a) (VW xs) [(n,xs)] g h where
 go:=λi H J S d st w c=>by rw[Ts]at c;obtain⟨f,q,r⟩:=d.sq (st.at hm) (w (n,xs) (by simp));obtain⟨v,e,_⟩:=r.get (qA3 c);exact⟨f,v,q,e⟩
 yld:=λi H J S x p d st w c y=>by rw[Ts]at c;obtain⟨T,o,rfl,y⟩:=y;obtain⟨f,q,r⟩:=d.sq (st.at hm) (w (n,xs) (by simp));obtain⟨v,e,j⟩:=r.get (qA3 c);have:=y f v q e;subst this;obtain⟨k,l,m⟩:=NV d o (.cons Xw (.cons j .nil));exact⟨_,NK c,k,l,m⟩
 stop:=λH J S d st w=>by obtain⟨f,q,r⟩:=d.sq (st.at hm) (w (n,xs) (by simp));exact⟨f,q,by rw[Ts,r.len]⟩
def Qb(a:CA):CI:=fun B=>YU (a B) λd S=>match d with
 |[.tup c]=>.ok (VW c,[]) S
 |[.lst n]=>match ZO S n with
  |some c=>.ok (VW c,[(n,c)]) S
  |none=>.bad
 |_=>.bad
theorem oR{d:yE}(h:PI X (.Tuple d k c) (.Call (.Name "enumerate" p) [a] [] pos) (GD X.K (YB X.K ca))):PI X (.Tuple d k c) (.Call (.Name "enumerate" p) [a] [] pos) (Yi X.K (Qb ca)):=h.weak (by
 rintro Z H R ⟨J,B,S,j,w,G,E,D,e,y⟩;obtain⟨x,z,u,e⟩:=Y6 e;refine⟨J,B,S,x,z,E,D,u,λi m r f g o=>?_⟩;split at e
 .rename_i F;cases e;obtain⟨v,rfl,l⟩:=o.one;obtain⟨a,i,rfl,q,A⟩:=l;exact⟨a,rfl,.inl ⟨⟨i,Zn.of q⟩,y _ m r f g (oT (Zn.of q) A)⟩⟩
 .rename_i n;split at e
  .rename_i F t;cases e;obtain⟨v,rfl,l⟩:=o.one;obtain⟨a,rfl,s⟩:=l;obtain⟨i,q,_⟩:=f.sq s t;exact⟨a,rfl,.inr ⟨⟨i,q⟩,y _ m r f g (oS s)⟩⟩
  .cases e
 .cases e)
def Ub(k:Nat)(c:List Nat)(B:ZT):ZT:=qL2 k Z8++c.map λj=>(B[j]?).getD Z8
theorem RE.comp{K:yS}(m:RE K H J B Z)(k:Nat)(f:List Nat):RE K H J (Ub k f B) (WB k f Z):=by
 refine⟨by unfold Ub WB;simp,λi d e=>?_⟩;unfold Ub at e;unfold WB;by_cases g:i<k
 .rw[qA8 (by simpa using g),qK4]at e;simp at e
 .rw[qA2 (by simpa using g),qJ5,qB1]at e;rw[qA2 (by simpa using g),qJ5,qB1];cases q:f[i - k]? with
  |none=>rw[q]at e;simp at e
  |some j =>
   rw[q]at e;simp only[qO7,Option.some.injEq]at e;cases c:B[j]? with
   |none=>rw[c]at e;simp at e
   |some z =>
    rw[c]at e;subst e;obtain⟨v,h,l⟩:=m.2 j d c;exact⟨v,by simp[h],l⟩
inductive Xd where
 |one|many (k:Nat)
def Ku:ZT->Nat->yM->ZT
 |B,_,[]=>B
 |B,s,x::c=>Ku (B.set s (Z9 x)) (s+1) c
def Vy(t:Xd)(d:D)(B:ZT):Option ZT:=match t with
 |.one=>Z9 (B.set 0 (Z9 d))
 |.many k=>match d with
  |.tup c=>if c.length=k then Z9 (Ku B 0 c)else Z8
  |_=>Z8
def NJ:Nat->Nat->Uy
 |_,0=>QW
 |s,n+1=>Hr (SU s) (NJ (s+1) n)
def Vx:Xd->Nat
 |.one=>1
 |.many k=>k
def tOfT'(K:yS):Xd->TG
 |.one=>SU 0
 |.many k=>QV K k (NJ 0 k)
theorem EI(h:TQ (WB k c Z) f)(hi:i<k)(v:V):TQ (WB k c Z) (f.set i (Z9 v)):=by
 refine⟨by rw[qJ8];exact h.1,λj u e=>?_⟩;by_cases d:i=j
 .subst d;obtain⟨_,g,_⟩:=GN e
  lia
 .rw[qE7 d];exact h.2 j u e
theorem EH(Z:St):TQ Z Z:=⟨rfl,λ_ _ h=>h⟩
theorem EG{K:yS}{H:Hp}{J:yC}{k:Nat}{d:List Nat}{Z:St}{Q:St->Hp->Prop}:∀{n s:Nat}{xs:yM}{vs:List V}{B1:ZT}{Z1:St},RVs K H J xs vs->xs.length=n->s+n<=k->RE K H J B1 Z1->TQ (WB k d Z) Z1->(∀c,RE K H J (Ku B1 s xs) c->TQ (WB k d Z) c->Q c H)->NJ s n vs Z1 H Q
 |0,s,xs,vs,B1,Z1,r,hl,hk,re,w,h=>by have:=qF5.mp hl;subst this;exact⟨r.nil_inv,h Z1 re w⟩
 |n+1,s,[],vs,B1,Z1,r,hl,hk,re,w,h=>by simp at hl
 |n+1,s,x::xs,vs,B1,Z1,r,hl,hk,re,w,h=>by obtain⟨v,g,rfl,i,f⟩:=r.cons_inv;exact⟨v,g,rfl,EG f (by simpa using hl) (by lia) (re.set i s) (EI w (by lia) v) h⟩
theorem oQ{K:yS}(ht:Vx t<=k)(m:RE K H J (Ub k c B) (WB k c Z))(j:RV K H J d x)(e:Vy t d (Ub k c B)=Z9 i)(h:∀f,RE K H J i f->TQ (WB k c Z) f->Q f H)(r:1<=k):tOfT' K t x (WB k c Z) H Q:=by
 cases t with
 |one =>
  cases e;exact h _ (m.set j 0) (EI (EH _) r x)
 |many n =>
  unfold Vy at e;dsimp only at e;split at e
  .rename_i s;split at e
   .rename_i g;cases e;obtain⟨p,o,rfl,q,l⟩:=j;exact⟨p,o,rfl,Zn.of q,by rw[<- l.len];exact g,EG l g (by have:n<=k:=ht;lia) m (EH _) h⟩
   .cases e
  .cases e
open Classical in
def Zo(w:Xm)(t:Xd)(tc:CT)(c:C)(B0:ZT):yM->M (yM)
 |[]=>λS=>if XQ w S then .ok [] S else .bad
 | d::ds=>λS=>if XQ w S then(match Vy t d B0 with
  |some f=>YU (tc f) (λk=>if k then YU (c f) λy=>YU (Zo w t tc c B0 ds) λg=>ret (y::g)else Zo w t tc c B0 ds) S
  | none=>.bad)else .bad
def Yv(g:CI)(k:Nat)(f:List Nat)(t:Xd)(tc:CT)(c:C):C:=fun B=>YU (g B) λp S=>if p.1.length<lim then
  YU (Zo p.2 t tc c (Ub k f B) p.1) (λh d=>.ok (.lst d.length) (d++[.lst h])) S
 else .bad
theorem SR.acc{K:yS}(c:SR K J S H)(g:A∉J)(h:H A=Z9 (.lst i)):SR K J S (ZD H A (.lst f)) :=
 ⟨c.len,c.nd,λn a o d j=>(c.obj n a o d j).up (NZ h) ⟨[],by simp⟩ (YI λz=>g (z▸qC2 d))⟩
theorem ZJ.acc{K:yS}(st:ZJ K d J c H)(f:c A=Z8)(h:H A=Z9 (.lst i)):ZJ K d J c (ZD H A (.lst g)) :=
 ⟨st.pre,λb o j e=>by rw[YI (UO e f)];exact st.fr b o j e,st.tk.trans (NZ h)⟩
theorem SR.adopt{K:yS}{acc:yM}(f:SR K J S H)(l:A∉J)(h:H A=Z9 (.lst g))(r:RVs K H J acc g):SR K (J++[A]) (S++[.lst acc]) H:=by
 refine⟨by simp[f.len],?_,λn a u c d=>?_⟩
 .rw[qH8];refine⟨f.nd,by simp,λa m b k=>?_⟩;simp at k;subst k;exact λz=>l (z▸m)
 .by_cases i:n<J.length
  .rw[qA8 i]at c;rw[qA8 (by rw[<- f.len];exact i)]at d;exact(f.obj n a u c d).up (TF.refl _ _) ⟨[A],rfl⟩ rfl
  .rw[qA2 (by lia)]at c;rw[qA2 (by rw[<- f.len];lia)]at d;have j:=by have:=(qA5.mp c).1;simp at this;omega
   rw[j]at c;rw[<- f.len,j]at d;simp at c d;subst c d;exact⟨g,h,RVs.up (TF.refl _ _) ⟨[A],rfl⟩ _ _ r⟩
theorem ZJ.adopt{K:yS}(st:ZJ K d J c H)(f:c A=Z8):ZJ K d (J++[A]) c H:=by
 obtain⟨g,e,n⟩:=st.pre;refine⟨⟨g++[A],by rw[e,qC1],λb i=>?_⟩,st.fr,st.tk⟩;rcases qB6.mp i with h|h
 .exact n b h
 .simp at h;subst h;exact f
theorem ZJ.notIn{K:yS}(st:ZJ K J J' H c)(d:A∉J)(h:H A=Z9 o):A∉J':=λz=>by
 obtain⟨f,rfl,n⟩:=st.pre;rcases qB6.mp z with q|q
 .exact d q
 .rw[n A q]at h;cases h
inductive oP(K:yS)(items:yM)(w:Xm)(t:Xd)(tc:CT)(c:C)(B0:ZT)(J0:yC)(H0:Hp)(A:yR)(S1:ZX)(ys:yM)(i m:Nat)(us:List V)(H2:Hp):Prop
 |mk (him:i+m=items.length) (hus:us.length<=i) (J2:yC) (S2:ZX) (acc ZK:yM) (sr:SR K J2 S2 H2) (st:ZJ K J0 J2 H0 H2) (nA:A∉J2) (hA:H2 A=Z9 (.lst us)) (ra:RVs K H2 J2 acc us) (el:Zo w t tc c B0 (items.drop i) S2=.ok ZK S1) (eys:acc++ZK=ys)
theorem EF(ht:Vx t<=k)(h1:1<=k)(h:Zu X.K (Yv it k js t tc c) Z H Q):LF (Yi X.K it) k js (tOfT' X.K t) (YM X.K tc) (Zu X.K c) Z H Q:=by
 obtain⟨J,B,S,d,S',sr,re,e,y⟩:=h;obtain⟨⟨f,w⟩,S0,e0,f0⟩:=Y6 e;dsimp only at f0;split at f0
 .rename_i hlim;obtain⟨ys,S1,e1,f1⟩:=Y6 f0;cases f1;refine⟨J,B,S,f,w,S0,sr,re,e0,λJJ H0 J0 W E io A Y=>?_⟩;have reC:=(re.up E).comp k js;obtain⟨srA,stA⟩:=W.other Y;have nA:=W.out Y;refine⟨oP X.K f w t tc c (Ub k js B) J0 H0 A S1 ys,
   ⟨f.length,⟨by simp,qC6 _,J0,S0,[],ys,srA,stA,nA,Xt,RVs.nil,by exact e1,rfl⟩⟩,?_⟩
  rintro i m us H2 ⟨him,hus,U,S2,acc,ZK,j,p,D,R,l,g,G⟩;refine And.intro R ?_;by_cases hi:i<f.length
  .rw[qF8 hi]at g;unfold Zo at g;split at g
   .rename_i hw;refine .inr ⟨io.go i H2 U S2 j p hw hi,NU (by lia),λx H3 hy=>?_⟩;obtain⟨d,hd,F,N,rv⟩:=io.yld i H2 U S2 x H3 j p hw hi hy;have ed:=by rw[qA3 hi]at hd;exact Option.some.inj hd
    rw[ed]at g;have V:=N.fr A _ D R;have K:=p.trans N F.nd;split at g
    .rename_i B4 h4;refine oQ ht (reC.up K) rv h4 (fun Z4 re4 wk=>⟨wk,?_⟩) h1;obtain⟨kb,S3,e3,f3⟩:=Y6 g;refine⟨U,B4,S2,kb,S3,F,re4,e3,λH5 J5 I r=>?_⟩;have O:=r.fr A _ D V;have T:=r.notIn D V;have L:=K.trans r I.nd;have n:=N.trans r I.nd;cases kb with
     |true =>
      obtain⟨z,S4,e4,f4⟩:=Y6 f3;obtain⟨zs,S5,e5,f5⟩:=Y6 f4;obtain⟨rfl,rfl⟩:=XX f5;refine⟨J5,B4,S3,z,S4,I,re4.up r,e4,λv H6 J6 P u rv6=>?_⟩;have s:=u.fr A _ T O;have nA6:=u.notIn T O;have M:=n.trans u P.nd;have tku:TF X.K H6 (ZD H6 A (.lst (us++[v]))):=NZ s;refine⟨s,m - 1,by lia,⟨by lia,by rw[qB9];show us.length+1<=i+1;lia,J6,S4,acc++[z],zs,P.acc nA6 s,(L.trans u P.nd).acc Y s,nA6,Xt,?_,e5,by rw[qC1];exact G⟩⟩;exact RVs.up tku ⟨[],by simp⟩ _ _ ((RVs.up M.tk M.ext _ _ l).append (.cons rv6 .nil))
     |false =>
      exact⟨m - 1,by lia,⟨by lia,by lia,J5,S3,acc,ZK,I,L,T,O,RVs.up n.tk n.ext _ _ l,f3,G⟩⟩
    .cases g
   .cases g
  .have ei:i=f.length:=by lia
   subst ei;rw[qN9]at g;unfold Zo at g;split at g
   .rename_i hw;cases g;rw[qG8]at G;subst G;refine .inl ⟨io.stop H2 U _ j p hw,?_⟩;have hA0:H A=Z8:=by
     cases q:H A with
     |none=>rfl
     |some o =>
      by_cases hm:A∈J
      .exact absurd (E.mem hm) nA
      .rw[E.fr A o hm q]at Y;cases Y
    have F:=j.adopt D R l;refine y (.ref A) H2 (U++[A]) F ((E.trans p j.nd).adopt hA0) ?_;exact⟨A,rfl,by rw[<- j.len,qA2 (qA6 _),qJ4];rfl⟩
   .cases g
 .cases f0
end
def NI(a:CA):C:=fun B=>YU (a B) λc S=>match c with
 |[.lst n]=>match (ZO S n).bind Tv with
  |some b=>if b.length<=300 then .ok (.lst S.length) (S++[.lst ((Vn (XI b)).map tD)])else .bad
  |none=>.bad
 |_=>.bad
theorem oO(h:PE X (.Call (.Name "sorted" p) [.Call (.Name "set" k) [a] [] b] [] pos) (Fp X.K (YB X.K i))):PE X (.Call (.Name "sorted" p) [.Call (.Name "set" k) [a] [] b] [] pos) (Zu X.K (NI i)):=h.weak (by
 rintro Z H Q ⟨J,B,S,d,N,L,K,e,y⟩;obtain⟨x,E,t,e⟩:=Y6 e;refine⟨J,B,S,x,E,L,K,t,λM O P c g D=>?_⟩
 try dsimp only at e
 split at e
 .split at e
  .rename_i u w;split at e
   .rename_i f;cases e;obtain⟨T,A,I⟩:=qA4.mp w;obtain⟨v,rfl,r⟩:=D.one;unfold RV at r;obtain⟨a,rfl,G⟩:=r;obtain⟨R,q,F⟩:=c.sq G A;obtain⟨C,j,rfl,n⟩:=Ky I F;refine⟨a,C,rfl,q,n,by rw[<- j,qA0]at f;exact f,λl z f o m s=>?_⟩;rw[j]at m;rw[Kx m s]at y;exact(y.shift g).newL c f (NP o)
   .cases e
  .cases e
 .cases e)
structure Sc where
 N:yH
 names:List (Str×vD)
 fn:Option Str
def Qa:yH:=["len","range","list","tuple","min","max","zip","isinstance","all","any","int","bool","enumerate","str","sorted","dict","sum","repr","set","abs"]
structure UY(ar:Str->yK)(mg:Str->yF):Prop where
 b:∀y:Str,y∈Qa->ar y=Z8->mg y=Z8
structure Yr(X:Cx)(sc:Sc)(ar:Str->yK)(cl:Str->yM->M D)(k:Nat):Prop where
 calm:X.calm=Z7
 N:X.N=sc.N
 nd:sc.N.Nodup
 gl:∀x,sc.names.lookup x=Z9 .globalImplicit->Gl X x
 loc:∀x,sc.names.lookup x=Z9 .local->X.env.scope.names.lookup x=Z9 .local
 cel:∀x,sc.names.lookup x=Z9 .cell->X.env.scope.names.lookup x=Z9 .cell
 fre:∀x,sc.names.lookup x=Z9 .free->X.env.scope.names.lookup x=Z9 .cell∨X.env.scope.names.lookup x=Z9 .free
 fnn:sc.fn.isSome=Z7->∀x,X.fn x=Z7
 room:Zb k X.A
 xe:X.xe=λ_ _=>False
 blt:UY ar X.mg
 fns:∀x n,ar x=Z9 n->(∃ps,RL X.prog X.w X.K X.mg X.base x ps k (V4 X.K (cl x) n))/\∀ds S d S',cl x ds S=.ok d S'->ds.length=n
section
variable {X:Cx}{sc:Sc}{ar:Str->yK}{cl:Str->yM->M D}{k:Nat}
theorem Yr.vis(h:Yr X sc ar cl k)(a:sc.names.lookup x=Z9 .local∨sc.names.lookup x=Z9 .cell∨sc.names.lookup x=Z9 .free):QX X.env.scope x:=by
 rcases a with q|q|q
 .exact .inl (h.loc x q)
 .exact .inr (.inl (h.cel x q))
 .exact .inr (h.fre x q)
def Kt(o:Option vD):Bool:=o == Z9 .local||o == Z9 .cell||o == Z9 .free
theorem oN(h:Kt o=Z7):o=Z9 .local∨o=Z9 .cell∨o=Z9 .free:=by
 unfold Kt at h;simp only[qJ9,beq_iff_eq]at h;rcases h with(h|h)| h
 .exact .inl h
 .exact .inr (.inl h)
 .exact .inr (.inr h)
def Tq:yH->Str->Nat->yK
 |[],_,_=>Z8
 |y::r,x,i=>if y=x then Z9 i else Tq r x (i+1)
theorem NH:∀{N:yH}{x:Str}{i j:Nat},Tq N x i=Z9 j->i<=j/\N[j - i]?=Z9 x
 |[],_,_,_,h=>by cases h
 |y::r,x,i,j,h=>by
  unfold Tq at h;split at h
  .simp_all
  .obtain⟨b,a⟩:=NH h;refine⟨by lia,?_⟩;have e:j - i=(j - (i+1))+1:=by lia
   rw[e,qJ1];exact a
def Ks(a:Sc)(ar:Str->yK)(x:Str):Option C:=match Tq a.N x 0 with
 |some i=>if Kt (a.names.lookup x)&&!(x == ("__debug__":Str))&&!(x == ("__classdict__":Str))then Z9 (ZY i)else Z8
 |none=>if a.names.lookup x=Z9 .globalImplicit/\ar x=Z8 then
   (if x=("int":Str)then Z9 (ZW (.ty "int"))else if x=("bool":Str)then Z9 (ZW (.ty "bool"))else if x=("tuple":Str)then Z9 (ZW (.ty "tuple"))
    else if x=("list":Str)then Z9 (ZW (.ty "list"))else if x=("str":Str)then Z9 (ZW (.ty "str"))
    else Z8)
  else Z8
theorem oM(h:Yr X sc ar cl k)(e:Ks sc ar x=Z9 c):PE X (.Name x pos) (Zu X.K c):=by
 unfold Ks at e;split at e
 .rename_i i m;split at e
  .rename_i f;cases e;simp only[qD3,qG4]at f;obtain⟨⟨o,p⟩,r⟩:=f;have:=(NH m).2;exact ro (Ht (by rw[h.N];exact this) (h.vis (oN o)) p r)
  .cases e
 .split at e
  .rename_i a;have g:=h.gl x a.1;have ty:∀(n:String) (b:jQ x=Z9 (.type n)) (d:x ≠ "__name__") (j:VN x) (l:X.mg x=Z8),PE X (.Name x pos) (Zu X.K (ZW (.ty n))):=λn b d j l =>
    Qi (Bh (v:=.ty n) g l b rfl d j) λK H J=>by unfold RV;rfl
   split at e
   .rename_i q;subst q;cases e;exact ty "int" GG (by decide) (by decide) (h.blt.b _ (by decide) a.2)
   .split at e
    .rename_i q;subst q;cases e;exact ty "bool" xl (by decide) (by decide) (h.blt.b _ (by decide) a.2)
    .split at e
     .rename_i q;subst q;cases e;exact ty "tuple" GH (by decide) (by decide) (h.blt.b _ (by decide) a.2)
     .split at e
      .rename_i q;subst q;cases e;exact ty "list" LC (by decide) (by decide) (h.blt.b _ (by decide) a.2)
      .split at e
       .rename_i q;subst q;cases e;exact ty "str" xi (by decide) (by decide) (h.blt.b _ (by decide) a.2)
       .cases e
  .cases e
def EE:Const->Option C
 |.none=>Z9 (ZW .non)
 |.bool b=>Z9 (ZW (.bl b))
 |.int i=>Z9 (ZW (.int i))
 |.str x=>Z9 (ZW (.str x))
 |_=>Z8
theorem oK(e:EE v=Z9 c):PE X (.Constant v j pos) (Zu X.K c):=by
 cases v with
 |none=>cases e;exact Qi Bk λ_ _ _=>RA
 |bool b=>cases e;exact Qi Bm λ_ _ _=>WG
 |int i=>cases e;exact Qi Bn λ_ _ _=>Xw
 |str x=>cases e;exact Qi Bj λ_ _ _=>Su
 |_=>cases e
def ED:uI->Option (D->D->M D)
 |.Add=>Z9 Zx
 |.Sub=>Z9 (Zl λi j=>i - j)
 |.Mult=>Z9 Xo
 |.Mod=>Z9 W7
 |.FloorDiv=>Z9 WU
 |.Pow=>Z9 VC
 |.LShift=>Z9 Yx
 |.RShift=>Z9 VB
 |.BitAnd=>Z9 (Zl jT)
 |.BitOr=>Z9 (Zl vZ)
 |.BitXor=>Z9 (Zl m7)
 |_=>Z8
theorem Kr(e:ED op=Z9 o):Yz X.K (Zj X (jU op)) o:=by
 cases op with
 |Add=>cases e;exact qE
 |Sub=>cases e;exact qI
 |Mult=>cases e;exact qC
 |Mod=>cases e;exact qB
 |FloorDiv=>cases e;exact qA
 |Pow=>cases e;exact qz
 |LShift=>cases e;exact qy
 |RShift=>cases e;exact qx
 |BitAnd=>cases e;exact qH
 |BitOr=>cases e;exact qG
 |BitXor=>cases e;exact qF
 |_=>cases e
def NG:gJ->Option (D->D->M D)
 |.Eq=>Z9 Xx
 |.NotEq=>Z9 Wk
 |.Lt=>Z9 V2
 |.LtE=>Z9 (XH λi j=>decide (i<=j))
 |.Gt=>Z9 (XH λi j=>decide (j<i))
 |.GtE=>Z9 (XH λi j=>decide (j<=i))
 |.Is=>Z9 Qh
 |.IsNot=>Z9 Sr
 |.In=>Z9 (YL Z5)
 |.NotIn=>Z9 (YL Z7)
theorem Rv(h:Zb k X.A)(e:NG op=Z9 o):Yz X.K (Zj X (jG op)) o:=by
 have a:=h.units;have b:=h.units0;cases op with
 |Eq=>cases e;exact qq a
 |NotEq=>cases e;exact qp a
 |Lt=>cases e;exact qr b
 |LtE=>cases e;exact qv
 |Gt=>cases e;exact qu
 |GtE=>cases e;exact qt
 |Is=>cases e;exact qo
 |IsNot=>cases e;exact qm
 |In=>cases e;exact qj a
 |NotIn=>cases e;exact qi a
def Wg:jH->Bool
 |.Starred _ _=>Z5
 |_=>Z7
theorem Ws{es:yE}(h:Wg a=Z7):jO (a::es) env=(Z5,wE a env)::jO es env:=by cases a<;>first|rfl|cases h
def zA1?(f:jH->Option C):yE->Option (List C)
 |[]=>Z9 []
 |e::a=>if Wg e then(f e).bind λc=>(zA1? f a).map (c::·)else Z8
def Wr(X:Cx)(f:jH->Option C):Prop:=∀e c,f e=Z9 c->PE X e (Zu X.K c)
variable {f:jH->Option C}
theorem UX(g:Wr X f):∀{es:yE}{cs:List C},zA1? f es=Z9 cs->PA X es (YB X.K (ZQ cs))/\(∀e∈es,Wg e=Z7)
 |[],cs,e=>by cases e;exact⟨KJ,by simp⟩
 |a::es,cs,e=>by
  unfold zA1? at e;split at e
  .rename_i d;obtain⟨c,h,e⟩:=qA4.mp e;obtain⟨i,l,e⟩:=qA7.mp e;subst e;obtain⟨j,m⟩:=UX g l;exact⟨NW (g a c h) j (Ws d),λe b=>by
    rcases qB0.mp b with rfl|b
    .exact d
    .exact m e b⟩
  .cases e
theorem Kq{es:yE}(h:∀e∈es,Wg e=Z7):(fD pos (jO es env)).any (·.1)=Z5:=by
 induction es with
 |nil=>rfl
 |cons a es b =>
  rw[Ws (h a (by simp))];show(Z5||(fD pos (jO es env)).any (·.1))=Z5;rw[b λe c=>h e (by simp[c])];rfl
def P9:jH->Bool
 |.Slice _ _ _ _=>Z7
 |_=>Z5
theorem oJ(h:P9 b=Z5):LX b:=by cases b<;>first|(intro o i;rfl)| cases h
def zCt?(f:jH->Option C):Option jH->Option CO
 |none=>Z9 Xg
 |some e=>(f e).map Xf
theorem EC(g:Wr X f)(h:zCt? f e=Z9 c):PO X e (U3 X.K c):=by
 cases e with
 |none=>cases h;exact qM
 |some a =>
  obtain⟨b,d,i⟩:=qA7.mp h;subst i;exact qL (g a b d)
def Si(f:jH->Option C)(a b:jH):Option C:=match b with
 |.Slice i g Z8 _=>(f a).bind λc=>(zCt? f i).bind λh=>(zCt? f g).map λd=>Xe Yn c h d
 |.Slice Z8 Z8 (Z9 st) _=>(f a).bind λc=>(f st).map λe=>ZU WR c e
 |_=>if P9 b then Z8 else(f a).bind λc=>(f b).map λj=>ZU Zp c j
theorem oI(h:Zb k X.A)(d:Wr X f)(e:Si f a b=Z9 c):PE X (.Subscript a b pos) (Zu X.K c):=by
 unfold Si at e;split at e
 .obtain⟨j,g,e⟩:=qA4.mp e;obtain⟨p,i,e⟩:=qA4.mp e;obtain⟨o,m,e⟩:=qA7.mp e;subst e;exact qK qe (d a j g) (EC d i) (EC d m)
 .obtain⟨j,g,e⟩:=qA4.mp e;obtain⟨q,i,e⟩:=qA7.mp e;subst e;exact qd (d _ _ g) (d _ _ i)
 .split at e
  .cases e
  .rename_i l;obtain⟨j,g,e⟩:=qA4.mp e;obtain⟨n,i,e⟩:=qA7.mp e;subst e;exact qN (qg (GV h)) (d a j g) (d b n i) (oJ (by simpa using l))
def P7(f:jH->Option C)(a:jH)(e:List gJ)(bs:yE):Option C:=match e,bs with
 |[op],[b]=>if fU op b then Z8 else(NG op).bind λo=>(f a).bind λd=>(f b).map λg=>ZU o d g
 |[op,op'],[b,c]=>if dN [op,op'] [b,c]then Z8 else(NG op).bind λo=>(NG op').bind λh=>(f a).bind λd=>(f b).bind λg=>(f c).map λi=>Sw o h d g i
 |_,_=>Z8
theorem oH(h:Zb k X.A)(g:Wr X f)(e:P7 f a d bs=Z9 c):PE X (.Compare a d bs pos) (Zu X.K c):=by
 unfold P7 at e;split at e
 .rename_i r b;split at e
  .cases e
  .rename_i n;obtain⟨o,q,e⟩:=qA4.mp e;obtain⟨i,j,e⟩:=qA4.mp e;obtain⟨p,m,e⟩:=qA7.mp e;subst e;exact rm (Rv h q) (g a i j) (g b p m) (by simpa using n)
 .rename_i r t b c;split at e
  .cases e
  .rename_i n;obtain⟨o,q,e⟩:=qA4.mp e;obtain⟨v,l,e⟩:=qA4.mp e;obtain⟨i,j,e⟩:=qA4.mp e;obtain⟨p,m,e⟩:=qA4.mp e;obtain⟨u,s,e⟩:=qA7.mp e;subst e;exact rj (Rv h q) (Rv h l) (g a i j) (g b p m) (g c u s) (by simpa using n)
 .cases e
def Ko(f:jH->Option C)(a:jH)(ops:List gJ)(bs:yE):Option CT:=match ops,bs with
 |ops,bs=>(P7 f a ops bs).map YH
theorem oG(h:Zb k X.A)(g:Wr X f)(e:Ko f a d bs=Z9 c):PT X (.Compare a d bs pos) (YM X.K c):=by
 unfold Ko at e;split at e
 .obtain⟨r,b,e⟩:=qA7.mp e;subst e;unfold P7 at b;split at b
  .split at b
   .cases b
   .rename_i n;obtain⟨o,q,e⟩:=qA4.mp b;obtain⟨i,j,e⟩:=qA4.mp e;obtain⟨p,m,e⟩:=qA7.mp e;subst e;exact rk (Rv h q) (g _ i j) (g _ p m) (by simpa using n)
  .split at b
   .cases b
   .rename_i n;obtain⟨o,q,e⟩:=qA4.mp b;obtain⟨t,l,e⟩:=qA4.mp e;obtain⟨i,j,e⟩:=qA4.mp e;obtain⟨p,m,e⟩:=qA4.mp e;obtain⟨r,s,e⟩:=qA7.mp e;subst e;exact rh (Rv h q) (Rv h l) (g _ i j) (g _ p m) (g _ r s) (by simpa using n)
  .cases b
def EB:jH->Bool
 |.Name _ _=>Z7
 |.Subscript _ _ _=>Z7
 |.Call _ (_::_) _ _=>Z7
 |_=>Z5
theorem oF(h:EB o=Z7):fA o b env (wE o env)=wE o env:=by
 cases o with
 |Call f c kw d =>
  cases c with
  |nil=>cases h
  |cons a r=>cases f<;>rfl
 |_=>first|rfl|cases h
def EA(x:Str):jH->Option jH
 |.Call (.Name y _) [a] [] _=>if x=("sorted":Str)/\y=("set":Str)then Z9 a else Z8
 |_=>Z8
def Ez(x:Str):Option (yM->M D) :=
 if x=("dict":Str)then Z9 Wi else
 Z8
def NF(x:Str):Option (yM->M D) :=
 if x=("len":Str)then Z9 Zi else
 if x=("isinstance":Str)then Z9 Y1 else
 if x=("tuple":Str)then Z9 Xn else
 if x=("list":Str)then Z9 Rx else
 if x=("min":Str)then Z9 Wy else
 if x=("max":Str)then Z9 U2 else
 if x=("all":Str)then Z9 (Ye λbs=>bs.all id)else
 if x=("any":Str)then Z9 (Ye λbs=>bs.any id)else
 if x=("int":Str)then Z9 Vz else
 if x=("repr":Str)then Z9 VA else
 if x=("sorted":Str)then Z9 Wx else
 Ez x
def Ey:jH->Option (yE)
 |.Call (.Name x _) as [] _=>if x=("range":Str)then Z9 as else Z8
 |_=>Z8
def Km:yM->M D:=λa S=>match a with
 |[.int j]=>if -4611686018427387904<=j/\j<4611686018427387904/\j<=1000 then .ok (.lst S.length) (S++[.lst (Y5 0 j.toNat)])else .bad
 |[.int i,.int j]=>if -4611686018427387904<=i/\i<4611686018427387904/\-4611686018427387904<=j/\j<4611686018427387904/\j - i<=1000 then .ok (.lst S.length) (S++[.lst (Y5 i (j - i).toNat)])else .bad
 |_=>.bad
def Kl(c:Sc)(ar:Str->yK)(cl:Str->yM->M D)(f:jH->Option C)(x:Str)(es:yE):Option C :=
 if c.names.lookup x=Z9 .globalImplicit then
  match ar x with
  |some n=>if es.length=n/\es≠[]/\VN x then(zA1? f es).map λb=>ZS (cl x) (ZQ b)else Z8
  |none=>match es with
   |[e] =>
    match EA x e with
    |some a=>if ar "set"=Z8/\c.names.lookup ("set":Str)=Z9 .globalImplicit then(zA1? f [a]).map λb=>NI (ZQ b)else Z8
    |none =>
    match Ey e with
    |some d=>if x=("list":Str)/\ar "range"=Z8/\c.names.lookup ("range":Str)=Z9 .globalImplicit/\(d.length=1∨d.length=2)then(zA1? f d).map λb=>ZS Km (ZQ b)else Z8
    |none=>(NF x).bind λo=>(zA1? f es).map λb=>ZS o (ZQ b)
   |_::_=>(NF x).bind λo=>(zA1? f es).map λb=>ZS o (ZQ b)
   |[]=>Z8
 else Z8
theorem oE{K:yS}(lo:Int)(n:Nat):RVs K H J (Y5 lo n) (RM lo n):=by
 unfold Y5 RM;generalize List.range n=l
 induction l with
 |nil=>exact .nil
 |cons a r b=>exact .cons Xw b
set_option maxHeartbeats 2000000 in
theorem Ew(h:Yr X sc ar cl k)(v:sc.names.lookup x=Z9 .globalImplicit)(c:ar x=Z8)(b:NF x=Z9 o){es:yE}(r:PA X (e::es) (YB X.K (ZQ n)))(hs:∀a∈e::es,Wg a=Z7):PE X (.Call (.Name x p) (e::es) [] pos) (Zu X.K (ZS o (ZQ n))):=by
 have g:=h.gl x v;have t:=Ws (es:=es) (env:=X.env) (hs e (by simp));have u:(fD pos (jO es X.env)).any (·.1)=Z5:=Kq λa r=>hs a (by simp[r]);unfold NF at b;have i:∀(id:String) (m:jQ x=Z9 (.builtin id)) (l:X.mg x=Z8) (d:x ≠ "__name__") (j:VN x) (o:yM->M D),Wm X.K (Yy X (.builtin id)) o->PE X (.Call (.Name x p) (e::es) [] pos) (Zu X.K (ZS o (ZQ n))):=λid m l d j o s =>
  (zI callAny g l m r d j t u).weak (Fc s)
 have T:∀(id:String) (m:jQ x=Z9 (.type id)) (l:X.mg x=Z8) (d:x ≠ "__name__") (j:VN x) (o:yM->M D),Wm X.K (Yy X (.type id)) o->PE X (.Call (.Name x p) (e::es) [] pos) (Zu X.K (ZS o (ZQ n))):=λid m l d j o s =>
  (L0 callAny g l m r d j t u).weak (Fc s)
 split at b
 .rename_i q;subst q;cases b;exact i "len" xu (h.blt.b _ (by decide) c) (by decide) (by decide) _ qb
 split at b
 .rename_i q;subst q;cases b;exact i "isinstance" xo (h.blt.b _ (by decide) c) (by decide) (by decide) _ pW
 split at b
 .rename_i q;subst q;cases b;exact T "tuple" GH (h.blt.b _ (by decide) c) (by decide) (by decide) _ pZ
 split at b
 .rename_i q;subst q;cases b;exact T "list" LC (h.blt.b _ (by decide) c) (by decide) (by decide) _ (pS h.calm)
 split at b
 .rename_i q;subst q;cases b;exact i "min" xr (h.blt.b _ (by decide) c) (by decide) (by decide) _ (qa h.calm)
 split at b
 .rename_i q;subst q;cases b;exact i "max" xq (h.blt.b _ (by decide) c) (by decide) (by decide) _ (p4 h.calm)
 split at b
 .rename_i q;subst q;cases b;exact i "all" xn (h.blt.b _ (by decide) c) (by decide) (by decide) _ (pV h.calm)
 split at b
 .rename_i q;subst q;cases b;exact i "any" xm (h.blt.b _ (by decide) c) (by decide) (by decide) _ (pU h.calm)
 split at b
 .rename_i q;subst q;cases b;exact T "int" GG (h.blt.b _ (by decide) c) (by decide) (by decide) _ pY
 split at b
 .rename_i q;subst q;cases b;exact i "repr" (by decide) (h.blt.b _ (by decide) c) (by decide) (by decide) _ (qc h.room.gd h.room.units)
 split at b
 .rename_i q;subst q;cases b;exact i "sorted" (by decide) (h.blt.b _ (by decide) c) (by decide) (by decide) _ (pR h.calm h.room.units)
 unfold Ez at b;split at b
 .rename_i q;subst q;cases b;exact T "dict" (by decide) (h.blt.b _ (by decide) c) (by decide) (by decide) _ (pK h.calm)
 cases b
theorem oD(h:Yr X sc ar cl k)(V:sc.names.lookup ("list":Str)=Z9 .globalImplicit)(W:ar "list"=Z8)(hr:sc.names.lookup ("range":Str)=Z9 .globalImplicit)(z:ar "range"=Z8)(G:PA X g (YB X.K (ZQ F)))(hs:∀a∈g,Wg a=Z7)(s:g.length=1∨g.length=2):
  PE X (.Call (.Name "list" p) [.Call (.Name "range" N) g [] b] [] pos) (Zu X.K (ZS Km (ZQ F))):=by
 have T:=h.gl _ V;have U:=h.gl _ hr;have R:PE X (.Call (.Name "range" N) g [] b) (OC (Yy X (.type "range")) (YB X.K (ZQ F))):=by
  cases g with
  |nil=>simp at s
  |cons e es=>exact L0 callAny U (h.blt.b _ (by decide) z) xt G (by decide) (by decide) (Ws (hs e (by simp))) (Kq λa G=>hs a (by simp[G]))
 have L:=L0 (p:=p) (pos:=pos) (callAny (X:=X) (f:=.type "list")) T (h.blt.b _ (by decide) W) LC (Hc R Hd rfl) (by decide) (by decide) rfl rfl;refine L.weak ?_;rintro Z H Q ⟨J,B,S,d,S',sr,re,e,y⟩;obtain⟨Y,x,e1,e⟩:=Y6 e;refine⟨J,B,S,Y,x,sr,re,e1,λvs w J1 I t O=>?_⟩;have n:=y.shift t;have fin:∀(i j:Int),-4611686018427387904<=i->i<4611686018427387904->-4611686018427387904<=j->j<4611686018427387904->j - i<=1000->Xq X.K J1 w (.lst x.length) (x++[.lst (Y5 i (j - i).toNat)]) Q->∀q,w q=Z8->Yy X (.type "list") [.ref q] (ZD w q (.rng i j)) Q:=by intro i j b1 P b3 b4 b5 n q m;obtain⟨E,A⟩:=I.other (o:=.rng i j) m;exact⟨_,xJ h.calm,q,i,j,rfl,Xt,b1,P,b3,b4,by lia,λl s=>(n.shift A).newL E s (oE _ _)⟩
 unfold Km at e;split at e
 .rename_i j;split at e
  .rename_i c;cases e;obtain⟨v,rfl,r⟩:=O.one;unfold RV at r;subst r;refine⟨_,xM,j,rfl,λq m=>?_⟩;have:=fin 0 j (by decide) (by decide) c.1 c.2.1 (by lia) (by rw[Int.sub_zero];exact n) q m;exact this
  .cases e
 .rename_i i j;split at e
  .rename_i c;cases e;obtain⟨v,u,rfl,r,K⟩:=O.two;unfold RV at r K;subst r K;exact⟨_,xN,i,j,rfl,λq m=>fin i j c.1 c.2.1 c.2.2.1 c.2.2.2.1 c.2.2.2.2 n q m⟩
  .cases e
 .cases e
theorem oC(h:Yr X sc ar cl k)(r:Wr X f)(e:Kl sc ar cl f x es=Z9 c):PE X (.Call (.Name x p) es [] pos) (Zu X.K c):=by
 unfold Kl at e;split at e
 .rename_i m;split at e
  .rename_i n l;split at e
   .rename_i t;obtain⟨A,v,G⟩:=t;obtain⟨u,i,e⟩:=qA7.mp e;subst e;obtain⟨j,g⟩:=UX r i;obtain⟨⟨L,E⟩,s⟩:=h.fns x n l;cases es with
    |nil=>exact absurd rfl v
    |cons a es =>
     exact(xv (p:=p) (pos:=pos) E h.room (h.gl x m) j (qA6 _) G (Ws (g a (by simp))) (Kq λb J=>g b (by simp[J]))).weak (qJ s)
   .cases e
  .rename_i l;split at e
   .rename_i a;split at e
    .rename_i b d;split at e
     .rename_i t;obtain⟨w,H⟩:=t;obtain⟨u,i,e⟩:=qA7.mp e;subst e;unfold EA at d;split at d
      .split at d
       .rename_i q;obtain⟨rfl,rfl⟩:=q;cases d;obtain⟨j,g⟩:=UX r i;exact oO (rY h.calm h.room.units (h.gl _ m) (h.blt.b _ (by decide) l) (h.gl _ H) (h.blt.b _ (by decide) w) j (by rw[Ws (g _ (by simp))];rfl))
       .cases d
      .cases d
     .cases e
    split at e
    .rename_i K d;split at e
     .rename_i t;obtain⟨rfl,y,I,A⟩:=t;obtain⟨u,i,e⟩:=qA7.mp e;subst e;obtain⟨j,g⟩:=UX r i;unfold Ey at d;split at d
      .rename_i O N F B;split at d
       .rename_i q;subst q;cases d;exact oD h m l I y j g A
       .cases d
      .cases d
     .cases e
    .obtain⟨o,z,e⟩:=qA4.mp e;obtain⟨u,i,e⟩:=qA7.mp e;subst e;obtain⟨j,g⟩:=UX r i;exact Ew h m l z j g
   .obtain⟨o,z,e⟩:=qA4.mp e;obtain⟨u,i,e⟩:=qA7.mp e;subst e;obtain⟨j,g⟩:=UX r i;exact Ew h m l z j g
   .cases e
 .cases e
end
section
variable {X:Cx}{sc:Sc}{ar:Str->yK}{cl:Str->yM->M D}{k:Nat}{f:jH->Option C}
def Eu(m:Str)(a:C):Option C :=
 if m=("bit_length":Str)then Z9 (NO "int" Qe a)else
 Z8
def Et(m:Str)(b a:C):Option C :=
 if m=("append":Str)then Z9 (UZ "list" (W6 WE) b (ZQ [a]))else
 if m=("update":Str)then Z9 (UZ "dict" VY b (ZQ [a]))else
 Z8
def Es(m:Str)(b a c:C):Option C :=
 if m=("insert":Str)then Z9 (UZ "list" (W6 NM) b (ZQ [a,c]))else
 Z8
def Kk(f:jH->Option C)(o:jH)(m:Str)(es:yE)(c d:Pos):Option C :=
 if EB o&&(c.endLine == d.line)then(f o).bind λg=>match es with
  |[]=>Eu m g
  |[a]=>if Wg a then(f a).bind λe=>Et m g e else Z8
  |[a,b]=>if Wg a&&Wg b then(f a).bind λe=>(f b).bind λh=>Es m g e h else Z8
  |_=>Z8
 else Z8
theorem oB(G:Zb k X.A)(p:Wr X f)(e:Kk f o m es l d=Z9 c):PE X (.Call (.Attribute o m l) es [] d) (Zu X.K c):=by
 unfold Kk at e;split at e
 .rename_i E;rw[qD3]at E;obtain⟨I,t⟩:=E;obtain⟨u,w,g⟩:=qA4.mp e;clear e;have y:∀n,fA o n X.env (wE o X.env)=wE o X.env:=λn=>oF I;split at g
  .unfold Eu at g;split at g
   .rename_i q;subst q;cases g;exact pQ PySem.F.plainAttrs_int PySem.F.slot_int_bit_length PySem.F.type_int_bit_length pN (p o u w) (y _) t
   cases g
  .rename_i a;split at g
   .rename_i s;obtain⟨r,z,i⟩:=qA4.mp g;clear g;have j:=Ws (es:=[]) (env:=X.env) s;have v:PA X [a] (YB X.K (ZQ [r])):=NW (p a r z) KJ j;have h:((fD d (jO [a] X.env)).all (λx=>!x.1)&&(backToKw d (dD [] X.env)).all (λx=>x.1.isSome)
     && decide ([a].length+([]:List mE).length+(if([]:List mE).isEmpty then 0 else 1)<30))=Z7:=by rw[j];rfl
    unfold Et at i;split at i
    .rename_i q;subst q;cases i;exact Kw lW PySem.F.slot_list_append PySem.F.type_list_append pP (p o u w) v (y _) h t j rfl
    split at i
    .rename_i q;subst q;cases i;exact Kw PySem.F.plainAttrs_dict lO PySem.F.type_dict_update pL (p o u w) v (y _) h t j rfl
    cases i
   .cases g
  .rename_i a b;split at g
   .rename_i s;rw[qD3]at s;obtain⟨r,z,B⟩:=qA4.mp g;obtain⟨F,H,i⟩:=qA4.mp B;clear g B;have A:=Ws (es:=[]) (env:=X.env) s.2;have j:=Ws (es:=[b]) (env:=X.env) s.1;have v:PA X [a,b] (YB X.K (ZQ [r,F])):=NW (p a r z) (NW (p b F H) KJ A) j;have h:((fD d (jO [a,b] X.env)).all (λx=>!x.1)&&(backToKw d (dD [] X.env)).all (λx=>x.1.isSome)
     && decide ([a,b].length+([]:List mE).length+(if([]:List mE).isEmpty then 0 else 1)<30))=Z7:=by rw[j,A];rfl
    unfold Es at i;split at i
    .rename_i q;subst q;cases i;exact Kw lW PySem.F.slot_list_insert PySem.F.type_list_insert pO (p o u w) v (y _) h t j (by rw[A];rfl)
    cases i
   .cases g
  .cases g
 .cases e
def Ru:C:=λ_ S=>.ok (.dct S.length) (S++[.dk []])
theorem oA:PE X (.Dict [] [] pos) (Zu X.K Ru):=ya.weak (by
 rintro Z H Q ⟨J,B,S,d,h,a,i,e,y⟩;cases e;intro p b;obtain⟨g,c⟩:=a.push (o':=.dk []) b ⟨[],Xt,YV.nil⟩;exact y _ _ _ g c (by exact⟨p,rfl,by rw[<- a.len,qA2 (qA6 _),qJ4];rfl⟩))
def ND(a b:C):C:=fun B=>YU (a B) λx=>YU (b B) λy S=>match WT x with
 |some k=>.ok (.dct S.length) (S++[.dk [(k,y)]])
 |none=>.bad
theorem oz(N:PE X a (Zu X.K T))(m:PE X b (Zu X.K cb)):PE X (.Dict [Z9 a] [b] pos) (Zu X.K (ND T cb)):=(xW (xY N m xZ) rfl rfl (by simp) (by simp)).weak (by
 rintro Z H Q ⟨J,B,S,d,S',sr,re,e,y⟩;obtain⟨x,S1,e1,f1⟩:=Y6 e;obtain⟨z,S2,e2,O⟩:=Y6 f1;split at O
 .rename_i g hk;cases O;intro p A;obtain⟨s1,L⟩:=sr.other A;refine⟨J,B,S,x,S1,s1,re.up L,e1,λv H1 J1 P j r1=>⟨J1,B,S1,z,S2,P,(re.up L).up j,e2,λu E I c r r2=>?_⟩⟩;have Y:=sr.out A;have q0:ZD H p (.dK []) p=Z9 (.dK []):=Xt;have q1:=j.fr p _ Y q0;have n1:=j.notIn Y q0;have R:=r.fr p _ n1 q1;have U:=r.notIn n1 q1;have ev:=Rz hk r1;subst ev;refine⟨R,[(g,u)],rfl,by simp,?_⟩;have K:TF X.K E (ZD E p (.dK [(g,u)])):=Tz R (λ_ z=>by cases z) (λ_ _ z=>by cases z);have t:=j.trans r c.nd;have i:=L.trans t c.nd;have G:SR X.K (I++[p]) (S2++[.dk [(g,z)]]) (ZD E p (.dK [(g,u)])):=by
   refine⟨by simp[c.len],?_,λn a w l s=>?_⟩
   .rw[qH8];refine⟨c.nd,by simp,λa N b m=>?_⟩;simp at m;subst m;exact λz=>U (z▸N)
   .by_cases V:n<I.length
    .rw[qA8 V]at l;rw[qA8 (by rw[<- c.len];exact V)]at s;exact(c.obj n a w l s).up K ⟨[p],rfl⟩ (YI λz=>U (z▸qC2 l))
    .rw[qA2 (by lia)]at l;rw[qA2 (by rw[<- c.len];lia)]at s;have W:=by have:=(qA5.mp l).1;simp at this;omega
     rw[W]at l;rw[<- c.len,W]at s;simp at l s;subst l s;exact⟨[(g,u)],Xt,YV.cons (RV.up K ⟨[p],rfl⟩ _ _ r2) .nil⟩
  have F:ZJ X.K J (I++[p]) H (ZD E p (.dK [(g,u)])):=by
   obtain⟨ν,e4,n⟩:=i.pre;refine⟨⟨ν++[p],by rw[e4,qC1],λb m=>?_⟩,λb o m q=>by rw[YI (UO q A)];exact i.fr b o m q,i.tk.trans K⟩;rcases qB6.mp m with h|h
   .exact n b h
   .simp at h;subst h;exact A
  exact y _ _ _ G F (by exact⟨p,rfl,by rw[<- c.len,qA2 (qA6 _),qJ4];rfl⟩)
 .cases O)
def Kj(f:jH->Option C)(g:List (Option jH))(d:yE):Option C:=match g,d with
 |[],[]=>Z9 Ru
 |[Z9 a],[b]=>(f a).bind λc=>(f b).map λe=>ND c e
 |_,_=>Z8
theorem oy(b:Wr X f)(e:Kj f d a=Z9 c):PE X (.Dict d a pos) (Zu X.K c):=by
 unfold Kj at e;split at e
 .cases e;exact oA
 .obtain⟨i,g,e⟩:=qA4.mp e;obtain⟨j,h,e⟩:=qA7.mp e;subst e;exact oz (b _ _ g) (b _ _ h)
 .cases e
def Ki(op:BoolOp)(f:jH->Option C):yE->Option C
 |[]=>Z8
 |[a]=>f a
 |a::b::r=>(f a).bind λc=>(Ki op f (b::r)).map λd=>match op with
  |.And=>Tx c d
  |.Or=>Ue c d
theorem Kh(d:Wr X f):∀{h:yE}{c:C},Ki op f h=Z9 c->PE X (.BoolOp op h pos) (Zu X.K c)
 |[],c,e=>by cases e
 |[a],c,e=>A8 (d a c e)
 |a::b::r,c,e=>by
  obtain⟨g,i,e⟩:=qA4.mp e;obtain⟨l,j,e⟩:=qA7.mp e;subst e;cases op with
  |And=>exact qZ (d a g i) (Kh d j)
  |Or=>exact qY (d a g i) (Kh d j)
def P6(X:Cx)(t:jH->Option CT):Prop:=∀e c,t e=Z9 c->PT X e (YM X.K c)
variable {t:jH->Option CT}
def Kg(op:BoolOp)(t:jH->Option CT):yE->Option CT
 |[]=>Z8
 |[a]=>t a
 |a::b::r=>(t a).bind λc=>(Kg op t (b::r)).map λd=>match op with
  |.And=>Qj c d
  |.Or=>X7 c d
theorem Kf(ht:P6 X t):∀{g:yE}{c:CT},Kg op t g=Z9 c->PW X (.BoolOp op g pos) (YM X.K c)
 |[],c,e=>by cases e
 |[a],c,e=>by
  cases op with
  |And=>exact Bf (ht a c e)
  |Or=>exact Be (ht a c e)
 |a::b::r,c,e=>by
  obtain⟨d,h,e⟩:=qA4.mp e;obtain⟨j,i,e⟩:=qA7.mp e;subst e;cases op with
  |And=>exact qV (ht a d h) (Kf ht i)
  |Or=>exact qU (ht a d h) (Kf ht i)
def Wf:jH->Bool
 |.Tuple _ _ _=>Z7
 |_=>Z5
def Sh:jH->Bool
 |.Set _ _ _=>Z7
 |_=>Z5
theorem Ke(h:Sh iter=Z5):∀x,wT iter env x=pure x:=by cases iter<;>first|(intro x;rfl)| cases h
def Er(o:Option (List C))(es:yE):Option CI:=o.bind λa=>match es with
 |[_]=>Z9 (VX (ZQ a))
 |[_,_]=>Z9 (NL (ZQ a))
 |_=>Z8
def Kc(t:Bool)(o:Option (List C))(es:yE):Option CI:=if t=Z7 then o.bind λa=>match es with
  |[_,_]=>Z9 (Uc (ZQ a))
  |_=>Z8
 else Z8
def Kb(t:Bool)(o:Option (List C))(es:yE):Option CI:=if t=Z7 then o.bind λa=>match es with
  |[_]=>Z9 (Qb (ZQ a))
  |_=>Z8
 else Z8
def Rt(b:Sc)(ar:Str->yK)(f:jH->Option C)(a iter:jH):Option CI:=if Sh iter then Z8 else match iter with
 |.Call (.Name x _) es [] _=>if b.names.lookup x=Z9 .globalImplicit/\ar x=Z8 then
   (if x=("range":Str)then Er (zA1? f es) es else
    if x=("zip":Str)then Kc (Wf a) (zA1? f es) es else
    if x=("enumerate":Str)then Kb (Wf a) (zA1? f es) es else
    (f iter).map Zw)
  else(f iter).map Zw
 |_=>(f iter).map Zw
theorem ox(i:Wr X f)(g:Gl X "range")(hm:X.mg "range"=Z8)(e:Er (zA1? f es) es=Z9 c):PI X d (.Call (.Name "range" p) es [] pos) (Yi X.K c):=by
 obtain⟨j,h,e2⟩:=qA4.mp e;clear e;obtain⟨h1,h2⟩:=UX i h
 match es,h1,h2,e2 with
 |[a],h1,h2,e2 =>
  cases e2;exact oX (AE g hm h1 (by rw[Ws (h2 a (by simp))];rfl))
 |[a,b],h1,h2,e2 =>
  cases e2;exact oW (AD g hm h1 (by rw[Ws (h2 a (by simp)),Ws (h2 b (by simp))];rfl) (by rw[Ws (h2 b (by simp))];rfl))
 |[],h1,h2,e2=>cases e2
 |_::_::_::_,h1,h2,e2=>cases e2
theorem Ka(h:Wf a=Z7):∃es k pos,a=.Tuple es k pos:=by cases a<;>first|exact⟨_,_,_,rfl⟩| cases h
theorem ou(i:Wr X f)(g:Gl X "zip")(hm:X.mg "zip"=Z8)(e:Kc (Wf d) (zA1? f es) es=Z9 c):PI X d (.Call (.Name "zip" p) es [] pos) (Yi X.K c):=by
 unfold Kc at e;by_cases ht:Wf d=Z7
 .rw[if_pos ht]at e;obtain⟨l,j,pt,rfl⟩:=Ka ht;obtain⟨m,h,e2⟩:=qA4.mp e;clear e ht;obtain⟨h1,h2⟩:=UX i h
  match es,h1,h2,e2 with
  |[a,b],h1,h2,e2 =>
   cases e2;exact oU (vq g hm h1 (by rw[Ws (h2 a (by simp)),Ws (h2 b (by simp))];rfl) (by rw[Ws (h2 b (by simp))];rfl))
  |_::_::_::_,h1,h2,e2=>cases e2
  |[],h1,h2,e2=>cases e2
  |[_],h1,h2,e2=>cases e2
 .rw[if_neg ht]at e;cases e
theorem ot(h:Wr X f)(g:Gl X "enumerate")(hm:X.mg "enumerate"=Z8)(e:Kb (Wf b) (zA1? f es) es=Z9 c):PI X b (.Call (.Name "enumerate" p) es [] pos) (Yi X.K c):=by
 unfold Kb at e;by_cases ht:Wf b=Z7
 .rw[if_pos ht]at e;obtain⟨j,i,pt,rfl⟩:=Ka ht;obtain⟨l,d,e2⟩:=qA4.mp e;clear e ht;obtain⟨h1,h2⟩:=UX h d
  match es,h1,h2,e2 with
  |[a],h1,h2,e2 =>
   cases e2;exact oR (wj g hm h1 (by rw[Ws (h2 a (by simp))];rfl))
  |[],h1,h2,e2=>cases e2
  |_::_::_,h1,h2,e2=>cases e2
 .rw[if_neg ht]at e;cases e
theorem J9(h:Yr X sc ar cl k)(d:Wr X f)(e:Rt sc ar f i iter=Z9 c):PI X i iter (Yi X.K c)/\Sh iter=Z5:=by
 unfold Rt at e;split at e
 .cases e
 rename_i a;refine⟨?_,by simpa using a⟩;have dflt:∀{c},(f iter).map Zw=Z9 c->PI X i iter (Yi X.K c):=λe=>by obtain⟨m,l,e⟩:=qA7.mp e;subst e;exact oY (d _ _ l)
 split at e
 .rename_i x p n j;split at e
  .rename_i b;have g:=h.gl x b.1;split at e
   .rename_i q;subst q;exact ox d g (h.blt.b _ (by decide) b.2) e
   split at e
   .rename_i q;subst q;exact ou d g (h.blt.b _ (by decide) b.2) e
   split at e
   .rename_i q;subst q;exact ot d g (h.blt.b _ (by decide) b.2) e
   exact dflt e
  .exact dflt e
 .exact dflt e
def NC:yE->Option (yH)
 |[]=>Z9 []
 |.Name x _::r=>(NC r).map (x::·)
 |_::_=>Z8
def NB:jH->Option (Xd×yH)
 |.Name x _=>Z9 (.one,[x])
 |.Tuple b _ _=>(NC b).map λa=>(.many a.length,a)
 |_=>Z8
def We(a:List (Str×vD)):yH:=(a.filter λy=>y.2 == .free).map (·.1)
def slots(N:yH):yH->Option (List Nat)
 |[]=>Z9 []
 |x::r=>(Tq N x 0).bind λj=>(slots N r).map (j::·)
def J8(xs:yH)(scope:wB):Sc:=⟨xs++We scope.names,scope.names,Z8⟩
def compOk(a:Sc)(xs:yH)(scope:wB):Bool :=
 decide (scope.kind=.function)&&scope.names.all (λy=>y.2 != .cell||scope.names.lookup y.1 == Z9 .cell)&&scope.names.all (λy=>y.2 != .local||scope.names.lookup y.1 == Z9 .local)
 && decide ((xs++We scope.names).Nodup)&&xs.all (λx=>scope.names.lookup x == Z9 .local||scope.names.lookup x == Z9 .cell)&&decide (1<=xs.length)
 && (We scope.names).all (λx=>(a.names.lookup x == Z9 .cell||a.names.lookup x == Z9 .free)&&scope.names.lookup x == Z9 .free)
def Rr(b:Sc)(j:Option CI)(h:Sc->jH->Option C)(l:Sc->jH->Option CT)(g elt:jH)(a:yE)(scope:wB):Option C :=
 (NB g).bind λp=>if compOk b p.2 scope then(slots b.N (We scope.names)).bind λc=>j.bind λd=>(h (J8 p.2 scope) elt).bind λe=>match a with
  |[]=>Z9 (Yv d p.2.length c p.1 (λ_=>ret Z7) e)
  |[q]=>(l (J8 p.2 scope) q).map λi=>Yv d p.2.length c p.1 i e
  |_=>Z8
 else Z8
theorem Ep:∀{xs:yH}{js:List Nat},slots N xs=Z9 js->js.length=xs.length/\∀(i j:Nat),js[i]?=Z9 j->∃x,xs[i]?=Z9 x/\N[j]?=Z9 x
 |[],js,e=>by cases e;exact⟨rfl,λi j h=>by simp at h⟩
 |x::r,js,e=>by
  obtain⟨n,a,e⟩:=qA4.mp e;obtain⟨l,g,e⟩:=qA7.mp e;subst e;obtain⟨b,m⟩:=Ep g;refine⟨by simp[b],λi j h=>?_⟩;cases i with
  |zero=>simp at h;subst h;exact⟨x,rfl,(NH a).2⟩
  |succ i =>
   obtain⟨y,c,d⟩:=m i j h;exact⟨y,by exact c,d⟩
theorem NA{env:Env}:∀{a:List (Str×vD)}{x:Str}{k:vD},k≠.free->a.lookup x=Z9 k ->
  (a.map fun(n,k)=>if(k == NameKind.free&&env.scope.kind == .function&&env.kindOf n == Z9 .cell)then(n,NameKind.cell)else(n,k)).lookup x=Z9 k
 |[],_,_,_,h=>by simp at h
 |(n,k')::r,x,k,nf,h=>by
  have c:=@NA env r x k nf;show List.lookup x ((if(k' == NameKind.free&&env.scope.kind == .function&&env.kindOf n == Z9 .cell)=Z7 then(n,NameKind.cell)else(n,k'))::_)=_;cases b:x == n with
  |true =>
   simp only[qD8,b]at h;cases h;have e:=by simpa using nf
   simp[qD8,b,e]
  |false =>
   simp only[qD8,b]at h;by_cases d:(k' == NameKind.free&&env.scope.kind == .function&&env.kindOf n == Z9 .cell)=Z7
   .rw[if_pos d];simp only[qD8,b];exact c h
   .rw[if_neg d];simp only[qD8,b];exact c h
theorem oq{ns:List (Str×vD)}{k:vD}(h:ns.lookup x=Z9 k):(x,k)∈ns:=LJ h
theorem Yr.comp(h:Yr X sc ar cl k)(c:compOk sc xs scope=Z7)(b:List (Str×yR))(s:yQ)(H:Hp)(C:yR)(ex:yC):Yr (WJ X scope (xs++We scope.names) b s H C ex) (J8 xs scope) ar cl k:=by
 unfold compOk at c;simp only[qD3,decide_eq_true_eq]at c;obtain⟨⟨⟨⟨⟨⟨m,e⟩,g⟩,d⟩,i⟩,j⟩,l⟩:=c;exact{
  calm:=h.calm
  N:=rfl
  nd:=d
  gl:=λx a=>NA (by decide) a
  loc:=λx a=>NA (by decide) a
  cel:=λx a=>NA (by decide) a
  fre:=λx a=>GM a
  fnn:=λz=>by cases z
  room:=h.room
  xe:=rfl
  blt:=h.blt
  fns:=h.fns }
theorem Eo:∀{es:yE}{xs:yH},NC es=Z9 xs->es.length=xs.length/\∀(i:Nat) (e:jH),es[i]?=Z9 e->∃x pos,e=.Name x pos/\xs[i]?=Z9 x
 |[],xs,h=>by cases h;exact⟨rfl,λi e h=>by simp at h⟩
 |a::r,xs,h=>by
  cases a with
  |Name x pos =>
   obtain⟨m,c,e⟩:=qA7.mp h;subst e;obtain⟨d,l⟩:=Eo c;refine⟨by simp[d],λi e b=>?_⟩;cases i with
   |zero=>simp at b;subst b;exact⟨x,pos,rfl,rfl⟩
   |succ i =>
    obtain⟨y,p,g,j⟩:=l i e b;exact⟨y,p,g,by exact j⟩
  |_=>cases h
theorem oo{es:yE}:jZ (.Name x pos::es) env=(Z5,lF (.Name x pos) env)::jZ es env:=rfl
theorem En:∀{es:yE}{s:Nat},(∀(i:Nat) (e:jH),es[i]?=Z9 e->∃x pos,e=.Name x pos/\X.N[s+i]?=Z9 x/\RU X.env.scope x/\(X.fn x=Z7∨X.env.scope.names.lookup x=Z9 .local))->X.N.Nodup->VM X es (NJ s es.length)
 |[],s,h,nd=>Hq
 |a::r,s,h,nd=>by obtain⟨x,pos,rfl,g,j,c⟩:=h 0 a rfl;refine Ho (OH nd (by simpa using g) j c) (En (λi e l=>?_) nd) rfl;obtain⟨y,p,m,b,d⟩:=h (i+1) e (by exact l);exact⟨y,p,m,by rw[show s+1+i=s+(i+1) by lia];exact b,d⟩
theorem Em:∀{es:yE}{xs:yH},NC es=Z9 xs->(jZ es env).length=xs.length/\(jZ es env).findIdx? (·.1)=Z8
 |[],xs,h=>by cases h;exact⟨rfl,rfl⟩
 |a::r,xs,h=>by
  cases a with
  |Name x b =>
   obtain⟨i,c,e⟩:=qA7.mp h;subst e;obtain⟨d,g⟩:=Em (env:=env) c;rw[oo];exact⟨by simp[d],by rw[qT1];simp[g]⟩
  |_=>cases h
theorem oj{t:Xd}(e:NB b=Z9 (t,xs)):Vx t=xs.length:=by
 cases b with
 |Name x a=>cases e;rfl
 |Tuple c n a =>
  obtain⟨g,d,e⟩:=qA7.mp e;cases e;rfl
 |_=>cases e
theorem El(h:Yr b a ar cl k)(g:a.names.lookup x=Z9 .local∨a.names.lookup x=Z9 .cell/\b.fn x=Z7):RU b.env.scope x/\(b.fn x=Z7∨b.env.scope.names.lookup x=Z9 .local):=by
 rcases g with g|⟨g,f⟩
 .exact⟨.inl (h.loc x g),.inr (h.loc x g)⟩
 .exact⟨.inr (h.cel x g),.inl f⟩
theorem oh(h:Yr c a ar cl k){t:Xd}(e:NB d=Z9 (t,xs))(q:∀(i:Nat) (x:Str),xs[i]?=Z9 x->a.N[i]?=Z9 x/\(a.names.lookup x=Z9 .local∨a.names.lookup x=Z9 .cell/\c.fn x=Z7)):PG c d (tOfT' c.K t)/\Vx t=xs.length:=by
 have p:c.N.Nodup:=by rw[h.N];exact h.nd
 cases d with
 |Name x b =>
  cases e;obtain⟨j,m⟩:=q 0 x rfl;obtain⟨o,l⟩:=El h m;exact⟨OH p (by rw[h.N];exact j) o l,rfl⟩
 |Tuple z n b =>
  obtain⟨A,r,e⟩:=qA7.mp e;cases e;obtain⟨u,v⟩:=Em r;obtain⟨y,s⟩:=Eo r;refine⟨?_,rfl⟩;have:=En (λi e w=>by
   obtain⟨x,b,rfl,g⟩:=s i e w;obtain⟨j,m⟩:=q i x g;obtain⟨o,l⟩:=El h m;exact⟨x,b,rfl,by rw[h.N,qN3];exact j,o,l⟩) p
  rw[y]at this;exact Hn h.calm this u v
 |_=>cases e
theorem Ek(h:Yr X sc ar cl k)(e:compOk sc xs scope=Z7)(v:slots sc.N (We scope.names)=Z9 js):RN X scope (xs++We scope.names) xs.length js:=by
 obtain⟨A,p⟩:=Ep v;unfold compOk at e;simp only[qD3,decide_eq_true_eq]at e;obtain⟨⟨⟨⟨⟨⟨s,n⟩,o⟩,F⟩,G⟩,I⟩,E⟩:=e;have b:=λx a=>by
  have d:x∈We scope.names:=by unfold We;rw[qC4];exact⟨(x,.free),by rw[qG7];exact⟨a,by simp⟩,rfl⟩
  have:=qD6.mp E x d;simpa using this
 refine⟨h.calm,s,λx a=>?_,λx a=>?_,λx a c=>?_,?_,λi j u=>?_⟩
 .have:=qD6.mp n _ a;simpa using this
 .rcases(b x a).1 with q|q
  .exact .inl (h.cel x q)
  .exact h.fre x q
 .have:=qD6.mp o x a;simp only[qJ9,bne_iff_ne,beq_iff_eq]at this;rcases this with z|z
  .exact absurd c z
  .exact z
 .rw[qB9,A]
 .obtain⟨x,l,r⟩:=p i j u;have d:(x,NameKind.free)∈scope.names:=by
   have:=qC2 l;unfold We at this;rw[qC4]at this;obtain⟨⟨y,H⟩,g,m⟩:=this;rw[qG7]at g;dsimp only at m;subst m;have:=by simpa using g.2
   subst this;exact g.1
  obtain⟨B,w⟩:=b x d;refine⟨x,?_,by rw[h.N];exact r,w,h.vis (.inr B)⟩;rw[qA2 (by lia),qM4];exact l
theorem Ej(h:Yr X sc ar cl k){t:Xd}(b:compOk sc xs scope=Z7)(j:NB d=Z9 (t,xs))(a:List (Str×yR))(s:yQ)(H:Hp)(C:yR)(ex:yC):PG (WJ X scope (xs++We scope.names) a s H C ex) d (tOfT' X.K t) :=
 (oh (h.comp b a s H C ex) j λi x c=>by
  unfold compOk at b;simp only[qD3]at b;have g:=b.1.1.2;have e:=(qA5.mp c).1;refine⟨?_,?_⟩
  .show(xs++We scope.names)[i]?=Z9 x;rw[qA8 e];exact c
  .have:=qD6.mp g x (qC2 c);rw[qJ9,beq_iff_eq,beq_iff_eq]at this;rcases this with z|z
   .exact .inl z
   .exact .inr ⟨z,decide_eq_true (oq z)⟩).1
inductive og(X:Cx)(sc:Sc)(tg iter elt:jH)(ifs:yE)(scope:wB)(c:C):Prop
 |mk (t:Xd) (xs:yH) (js:List Nat) (ci:CI) (ct:CT) (ce:C) (BB:RN X scope (xs++We scope.names) xs.length js) (hi:PI X tg iter (Yi X.K ci)) (hs:Sh iter=Z5)
  (hg:∀cl' s H C ex,PG (WJ X scope (xs++We scope.names) cl' s H C ex) tg (tOfT' X.K t)) (hT:∀cl' s H C ex,SJ (WJ X scope (xs++We scope.names) cl' s H C ex) ifs (YM X.K ct))
  (hE:∀cl' s H C ex,PE (WJ X scope (xs++We scope.names) cl' s H C ex) elt (Zu X.K ce)) (ht:Vx t<=xs.length) (h1:1<=xs.length) (hc:c=Yv ci xs.length js t ct ce)
theorem Ei(h:Yr X sc ar cl k){R:Sc->jH->Option C}{V:Sc->jH->Option CT}(e:Rr sc U R V u elt j scope=Z9 c)
  (hi:∀l,U=Z9 l->PI X u iter (Yi X.K l)/\Sh iter=Z5) (w:∀m a,Yr m a ar cl k->Wr m (R a)) (p:∀m a,Yr m a ar cl k->P6 m (V a)):og X sc u iter elt j scope c:=by
 obtain⟨⟨t,o⟩,z,e⟩:=qA4.mp e;dsimp only at e;by_cases b:compOk sc o scope=Z7
 .rw[if_pos b]at e;obtain⟨E,G,L⟩:=qA4.mp e;obtain⟨l,Y,A⟩:=qA4.mp L;obtain⟨v,e3,x⟩:=qA4.mp A;clear e L A;obtain⟨F,O⟩:=hi l Y;have T:=by have i:=b;unfold compOk at i;simp only[qD3,decide_eq_true_eq]at i;exact i.1.2
  have P:=λg s H C ex=>w _ _ (h.comp b g s H C ex) elt v e3;have ht:Vx t<=o.length:=by rw[oj z];exact qA6 _
  cases j with
  |nil =>
   cases x;exact⟨t,o,E,l,_,v,Ek h b G,F,O,Ej h b z,λg s H C ex n W Z N Q I ⟨J,B,S,d,S',sr,re,e,y⟩=>xS n W Z N Q I (by obtain⟨rfl,rfl⟩:=XX e;exact y N J sr (ZJ.refl _ _ _)),P,ht,T,rfl⟩
  |cons q r =>
   cases r with
   |nil =>
    obtain⟨K,e4,u4⟩:=qA7.mp x;exact⟨t,o,E,l,K,v,Ek h b G,F,O,Ej h b z,λg s H C ex=>xR (p _ _ (h.comp b g s H C ex) q K e4),P,ht,T,u4.symm⟩
   |cons _ _=>cases x
 .rw[if_neg b]at e;cases e
theorem oe(h:Yr X sc ar cl k)(e:Rr sc n m o i elt d scope=Z9 c)
  (hi:∀l,n=Z9 l->PI X i iter (Yi X.K l)/\Sh iter=Z5) (j:∀b a,Yr b a ar cl k->Wr b (m a)) (g:∀b a,Yr b a ar cl k->P6 b (o a)):PE X (.ListComp elt [⟨i,iter,d,0⟩] scope pos) (Zu X.K c):=by obtain⟨t,B,y,l,A,z,w,p,u,v,x,s,ht,r,rfl⟩:=Ei h e hi j g;exact(xO w p v x s (Ke u)).weak fun Z H Q q=>EF ht r q
theorem n9(h:Yr X sc ar cl k){d:yE}(o:PG X (.Name l pos') u)(m:fP (.ListComp elt [⟨i,iter,d,0⟩] scope pos) (Z9 (.Name l pos')) b.line X.env=pure Z7)(e:Rr sc s r v i elt d scope=Z9 c)
  (hi:∀p,s=Z9 p->PI X i iter (Yi X.K p)/\Sh iter=Z5) (n:∀g a,Yr g a ar cl k->Wr g (r a)) (j:∀g a,Yr g a ar cl k->P6 g (v a)):PS X (.Assign [.Name l pos'] (.ListComp elt [⟨i,iter,d,0⟩] scope pos) b) (Vf (Zu X.K c) u):=by obtain⟨t,J,F,p,I,G,B,w,z,A,E,y,ht,x,rfl⟩:=Ei h e hi n j;exact(vp o m B w A E y (Ke z)).weak λD Z H q=>EF ht x q
end
section
variable (ar:Str->yK) (cl:Str->yM->M D)
mutual
noncomputable def cE:Nat->Sc->jH->Option C
 |0,_,_=>Z8
 |n+1,sc,e=>match e with
  |.Constant v _ _=>EE v
  |.Name x _=>Ks sc ar x
  |.BinOp a g b _=>(ED g).bind λo=>(cE n sc a).bind λc=>(cE n sc b).map λr=>ZU o c r
  |.UnaryOp g a _=>match g with
   |.USub=>(cE n sc a).map λc=>RD V3 c
   |.Not=>(cE n sc a).map λc=>Qk c
   |_=>Z8
  |.BoolOp g p _=>Ki g (cE n sc) p
  |.IfExp t a b _=>(cT n sc t).bind λu=>(cE n sc a).bind λc=>(cE n sc b).map λr=>RC u c r
  |.Compare a l bs _=>P7 (cE n sc) a l bs
  |.Tuple f _ _=>(zA1? (cE n sc) f).bind λj=>if j.length<=1000 then Z9 (Y9 (ZQ j))else Z8
  |.List f _=>(zA1? (cE n sc) f).bind λj=>if j.length<=1000 then Z9 (Y8 (ZQ j))else Z8
  |.Subscript a b _=>Si (cE n sc) a b
  |.Dict w p _=>Kj (cE n sc) w p
  |.Call s f kw i=>match kw with
   |[]=>match s with
    |.Name x _=>Kl sc ar cl (cE n sc) x f
    |.Attribute o m k=>Kk (cE n sc) o m f k i
    |_=>Z8
   |_::_=>Z8
  |.ListComp q h d _=>match h with
   |[⟨tg,iter,ifs,ia⟩]=>if ia=0 then Rr sc (Rt sc ar (cE n sc) tg iter) (cE n) (cT n) tg q ifs d else Z8
   |_=>Z8
  |_=>Z8
noncomputable def cT:Nat->Sc->jH->Option CT
 |0,_,_=>Z8
 |n+1,sc,e=>match e with
  |.UnaryOp c a _=>match c with
   |.Not=>(cT n sc a).map λd=>W2 d
   |_=>(cE n sc e).map Y7
  |.BoolOp c f _=>Kg c (cT n sc) f
  |.IfExp _ _ _ _=>Z8
  |.Compare a b bs _=>Ko (cE n sc) a b bs
  |_=>(cE n sc e).map Y7
end
end
section
variable {X:Cx}{sc:Sc}{ar:Str->yK}{cl:Str->yM->M D}{k:Nat}
theorem Rq:∀n:Nat,(∀X i,Yr X i ar cl k->Wr X (cE ar cl n i))/\(∀X i,Yr X i ar cl k->P6 X (cT ar cl n i))
 |0=>⟨λX i h e c q=>(by cases q),λX i h e c q=>(by cases q)⟩
 |n+1=>by
  obtain⟨A,w⟩:=Rq n;refine⟨λX i h e c q=>?_,λX i h e c q=>?_⟩
  .have f:=A X i h;have ht:=w X i h;cases e with
   |Constant v j d=>exact oK q
   |Name x d=>exact oM h q
   |BinOp a B b d =>
    obtain⟨o,O,u⟩:=qA4.mp q;obtain⟨C,l,r⟩:=qA4.mp u;obtain⟨Z,K,G⟩:=qA7.mp r;subst G;exact rn (Kr O) (f _ _ l) (f _ _ K)
   |UnaryOp B a d =>
    cases B with
    |USub =>
     obtain⟨C,l,r⟩:=qA7.mp q;subst r;exact rd qw (f _ _ l)
    |Not =>
     obtain⟨C,l,r⟩:=qA7.mp q;subst r;exact qX (f _ _ l)
    |_=>cases q
   |BoolOp B Q d=>exact Kh f q
   |IfExp t a b d =>
    obtain⟨ct,O,u⟩:=qA4.mp q;obtain⟨C,l,r⟩:=qA4.mp u;obtain⟨Z,K,G⟩:=qA7.mp r;subst G;exact qW (ht _ _ O) (f _ _ l) (f _ _ K)
   |Compare a H bs d=>exact oH h.room f q
   |Tuple S j d =>
    obtain⟨cs,l,u⟩:=qA4.mp q;split at u
    .rename_i F;cases u;exact qP (UX f l).1 F
    .cases u
   |List S d =>
    obtain⟨cs,l,u⟩:=qA4.mp q;split at u
    .rename_i F;cases u;exact qO (UX f l).1 F
    .cases u
   |Subscript a b d=>exact oI h.room f q
   |Dict ks Q d=>exact oy f q
   |Call U S kw R =>
    cases kw with
    |cons _ _=>cases q
    |nil =>
     cases U with
     |Name x p=>exact oC h f q
     |Attribute o m T=>exact oB h.room f q
     |_=>cases q
   |ListComp I E y d =>
    cases E with
    |nil=>cases q
    |cons g V =>
     obtain⟨P,iter,N,W⟩:=g;cases V with
     |cons _ _=>cases q
     |nil =>
      change (if W=0 then Rr i (Rt i ar (cE ar cl n i) P iter) (cE ar cl n) (cT ar cl n) P I N y else Z8)=Z9 c at q;split at q
      .rename_i hz;subst hz;exact oe h q (λci e=>J9 h f e) (λJ z L=>A J z L) (λJ z L=>w J z L)
      .cases q
   |_=>cases q
  .have f:=A X i h;have ht:=w X i h;have dflt:∀{c:CT},(cE ar cl n i e).map Y7=Z9 c->(∀s,uT e X.env s=(do let v <- s;uH e.pos;fH [v] (truthy v)))->PT X e (YM X.K c):=λ{c} q Y=>by obtain⟨C,l,r⟩:=qA7.mp q;subst r;exact qR (f _ _ l) Y
   cases e with
   |UnaryOp B a d =>
    cases B with
    |Not =>
     obtain⟨C,l,r⟩:=qA7.mp q;subst r;exact qT (ht _ _ l)
    |USub=>exact dflt q λ_=>rfl
    |UAdd=>exact dflt q λ_=>rfl
    |Invert=>exact dflt q λ_=>rfl
   |BoolOp B Q d=>exact(Kf ht q).pt
   |IfExp t a b d=>cases q
   |Compare a H bs d=>exact oG h.room f q
   |_=>exact dflt q λ_=>rfl
section
variable (ar:Str->yK) (cl:Str->yM->M D)
def Eh(a:Sc)(x:Str):Option G:=(Tq a.N x 0).bind λi=>if a.names.lookup x=Z9 .local∨(a.fn.isSome=Z7/\a.names.lookup x=Z9 .cell)then Z9 (gN i)else Z8
mutual
noncomputable def cG:Nat->Sc->jH->Option G
 |0,_,_=>Z8
 |n+1,sc,e=>match e with
  |.Name x _=>Eh sc x
  |.Subscript a b _=>match b with
   |_=>if P9 b then Z8 else(cE ar cl n sc a).bind λc=>(cE ar cl n sc b).map λg=>gS c g
  |.Tuple d _ _=>(cGs n sc d).map λf=>gT f
  |_=>Z8
noncomputable def cGs:Nat->Sc->yE->Option (List G)
 |0,_,_=>Z8
 |n+1,sc,es=>match es with
  |[]=>Z9 []
  |e::r=>if Wg e then(cG n sc e).bind λg=>(cGs n sc r).map λa=>g::a else Z8
end
end
theorem Yr.nd'(h:Yr X sc ar cl k):X.N.Nodup:=by rw[h.N];exact h.nd
theorem P5(h:Yr X sc ar cl k)(e:Eh sc x=Z9 g):∃i,g=gN i/\X.N[i]?=Z9 x/\RU X.env.scope x/\(X.fn x=Z7∨X.env.scope.names.lookup x=Z9 .local):=by
 obtain⟨i,c,a⟩:=qA4.mp e;split at a
 .rename_i d;cases a;refine⟨i,rfl,by rw[h.N];exact(NH c).2,?_⟩;rcases d with q|⟨f,b⟩
  .exact⟨.inl (h.loc x q),.inr (h.loc x q)⟩
  .exact⟨.inr (h.cel x b),.inl (h.fnn f x)⟩
 .cases a
theorem n7(h:P9 b=Z5):∀v,lF (.Subscript a b pos) env v=(do
   let ov <- fH [v] (wE a env)
   let iv <- fH [v,ov] (wE b env)
   uH pos
   fH [v,ov,iv] (uZ ov iv v)
   release [v,ov,iv] []):=by cases b<;>first|(intro v;rfl)| cases h
theorem J7{es:yE}(h:Wg e=Z7):jZ (e::es) env=(Z5,lF e env)::jZ es env:=by cases e<;>first|rfl|cases h
theorem Eg:∀n:Nat,(∀X d,Yr X d ar cl k->∀e g,cG ar cl n d e=Z9 g->PG X e (Wv X.K g))/\(∀X d,Yr X d ar cl k->∀es f,cGs ar cl n d es=Z9 f->VM X es (Qc X.K f)/\(jZ es X.env).length=f.length/\(jZ es X.env).findIdx? (·.1)=Z8)
 |0=>⟨λX d h e c q=>(by cases q),λX d h e c q=>(by cases q)⟩
 |n+1=>by
  obtain⟨D,l⟩:=Eg n;refine⟨λX d h e g q=>?_,λX d h es f q=>?_⟩
  .cases e with
   |Name x s =>
    obtain⟨i,rfl,o,p,t⟩:=P5 h q;exact ph (OH h.nd' o p t)
   |Subscript a b s =>
    change (if P9 b then Z8 else(cE ar cl n d a).bind λB=>(cE ar cl n d b).map λC=>gS B C)=_ at q;split at q
    .cases q
    .rename_i w;obtain⟨B,m,u⟩:=qA4.mp q;obtain⟨C,y,v⟩:=qA7.mp u;subst v;exact pg (GV h.room) ((Rq n).1 X d h _ _ m) ((Rq n).1 X d h _ _ y) (n7 (by simpa using w))
   |Tuple es j s =>
    obtain⟨f,m,u⟩:=qA7.mp q;subst u;obtain⟨o,p,t⟩:=l X d h es f m;exact o8 h.calm o p t
   |_=>cases q
  .cases es with
   |nil=>cases q;exact⟨pe,rfl,rfl⟩
   |cons e r =>
    change (if Wg e=Z7 then(cG ar cl n d e).bind λg=>(cGs ar cl n d r).map λf=>g::f else Z8)=_ at q;split at q
    .rename_i w;obtain⟨g,m,u⟩:=qA4.mp q;obtain⟨A,y,v⟩:=qA7.mp u;subst v;obtain⟨o,p,t⟩:=l X d h r A y;have z:=J7 (es:=r) (env:=X.env) w;refine⟨pb (D X d h e g m) o (by rw[z];rfl),by rw[z];simp[p],by rw[z,qT1];simp[t]⟩
    .cases q
def P4:jH->Bool
 |.ListComp _ _ _ _=>Z7
 |.SetComp _ _ _ _=>Z7
 |.DictComp _ _ _ _ _=>Z7
 |_=>Z5
theorem Ef(h:P4 e=Z5):fP e t n env=pure Z5:=by cases e<;>first|rfl|cases h
def J4:jH->jH->Bool
 |.Name _ _,.ListComp _ _ _ _=>Z5
 |.Tuple _ _ _,.ListComp _ _ _ _=>Z5
 |_,e=>P4 e
theorem n6(h:Yr X sc ar cl k):∀{n:Nat}{elt:jH}{gens:List uB}{scope:wB}{pos pos' a:Pos}{x:Str}{c:C}{i:Nat} (q:cE ar cl n sc (.ListComp elt gens scope pos)=Z9 c) (f:PG X (.Name x pos') (SU i))
  (d:fP (.ListComp elt gens scope pos) (Z9 (.Name x pos')) a.line X.env=pure Z7),PS X (.Assign [.Name x pos'] (.ListComp elt gens scope pos) a) (Vf (Zu X.K c) (SU i))
 |0,_,_,_,_,_,_,_,_,_,q,_,_=>by cases q
 |n+1,elt,gens,scope,pos,pos',a,x,c,i,q,f,d=>by
  obtain⟨j,l⟩:=Rq (ar:=ar) (cl:=cl) (k:=k) n;cases gens with
  |nil=>cases q
  |cons g s =>
   obtain⟨r,iter,p,t⟩:=g;cases s with
   |cons _ _=>cases q
   |nil =>
    change (if t=0 then Rr sc (Rt sc ar (cE ar cl n sc) r iter) (cE ar cl n) (cT ar cl n) r elt p scope else Z8)=Z9 c at q;split at q
    .rename_i u;subst u;exact n9 h f d q (λv e=>J9 h (j X sc h) e) (λm b o=>j m b o) (λm b o=>l m b o)
    .cases q
theorem nZ:∃b:Bool,fP (.ListComp elt gens scope pos) (Z9 (.Name x pos')) line env=pure b:=⟨_,rfl⟩
inductive CB(tg e:jH):Prop
 |no (h:∀n env,fP e (Z9 tg) n env=pure Z5)
 |yes (x:Str) (pos':Pos) (elt:jH) (gens:List uB) (scope:wB) (pos:Pos) (h1:tg=.Name x pos') (h2:e=.ListComp elt gens scope pos)
theorem CB.of(h:P4 e=Z5):CB a e:=.no λ_ _=>Ef h
theorem nY(h:J4 g e=Z5):CB g e:=by
 cases g with
 |Name x f =>
  cases e with
  |ListComp d b a c=>exact .yes x f d b a c rfl rfl
  |_=>exact .of h
 |Tuple i k c =>
  cases e with
  |ListComp d b a c=>exact .no λ_ _=>rfl
  |_=>exact .of h
 |_=>exact .of h
def Nz:jH->Bool
 |.List _ _=>Z7
 |_=>Z5
theorem Ee(h:(Wf a&&Wf e)=Z5)(c:Nz a=Z5):wY [a] e env=pure Z8:=by
 cases a with
 |Tuple d n b=>cases e<;>first|rfl|cases h
 |List d b=>cases c
 |_=>rfl
def Ro(a:Sc):jH->Bool
 |.Tuple [.Name x _,.Name y _] _ _=>a.names.lookup x == Z9 .cell||a.names.lookup y == Z9 .cell
 |_=>Z5
theorem nX(h:Ro sc c=Z7):∃x b y a k pos,c=.Tuple [.Name x b,.Name y a] k pos/\(sc.names.lookup x=Z9 .cell∨sc.names.lookup y=Z9 .cell):=by
 unfold Ro at h;split at h
 .rename_i x b y a k pos;simp only[qJ9,beq_iff_eq]at h;exact⟨x,b,y,a,k,pos,rfl,h⟩
 .cases h
theorem nW{g:yE}(h:env.scope.names.lookup x=Z9 .cell∨env.scope.names.lookup y=Z9 .cell):wY [.Tuple [.Name x c,.Name y b] k pos] (.Tuple g k2 a) env=pure Z8:=by
 have i:(([Expr.Name x c,Expr.Name y b].filterMap λe=>match e with
  |.Name id p=>if(env.kindOf id == Z9 NameKind.local&&p.line == (([Expr.Name x c,Expr.Name y b].head?.map (·.pos.line)).getD 0))=Z7 then Z9 id else Z8
  | _=>Z8).length != 2)=Z7:=by
  have j:env.kindOf x=env.scope.names.lookup x:=rfl;have f:env.kindOf y=env.scope.names.lookup y:=rfl;have d:(Z9 NameKind.cell == Z9 NameKind.local)=Z5:=by decide
  rcases h with h|h
  .simp only[qJ3,qT2,j,h,d,qR7,qM2,if_false];split<;>rfl
  .simp only[qJ3,qT2,f,h,d,qR7,qM2,if_false];split<;>rfl
 unfold wY;simp only[pure_bind];split
 .rfl
 .split
  .rfl
  .rw[if_pos];rw[qJ9];exact .inl i
theorem Ed(h:Yr X sc ar cl k)(c:(Wf a&&Wf e&&!Ro sc a)=Z5)(d:Nz a=Z5):wY [a] e X.env=pure Z8:=by
 cases f:Ro sc a with
 |false =>
  rw[f]at c;exact Ee (by simpa using c) d
 |true =>
  cases g:Wf e with
  |false=>exact Ee (by rw[g];simp) d
  |true =>
   obtain⟨m,k2,j,rfl⟩:=Ka g;obtain⟨x,n,y,l,o,i,rfl,b⟩:=nX f;exact nW (b.imp (h.cel x) (h.cel y))
def nV(a:Sc)(t v:jH×jH)(n:Str×Str):Option (Nat×Nat×jH×jH) :=
 if n.1≠n.2/\a.names.lookup n.1=Z9 .local/\a.names.lookup n.2=Z9 .local/\t.1.pos.line=t.2.pos.line/\Wg v.1=Z7/\Wg v.2=Z7/\([v.1,v.2].all (foldedForSure 8))=Z5/\([v.1,v.2].all (constantsAlone 8))=Z5 then
  (Tq a.N n.1 0).bind λi=>(Tq a.N n.2 0).map λj=>(i,j,v.1,v.2)
 else Z8
def Sf:Nat:=100000
section
variable (ar:Str->yK) (cl:Str->yM->M D)
mutual
noncomputable def Ec:Nat->Sc->wQ->Option CS
 |0,_,_=>Z8
 |n+1,sc,s=>match s with
  |.Return v _=>match v with
   |none=>Z9 Kv
   |some e=>(cE ar cl n sc e).map λc=>ZL c
  |.Expr e _=>if P4 e then Z8 else(cE ar cl n sc e).map λc=>Vm c
  |.Assign j e _=>match j with
   |[f] =>
    if J4 f e||(Wf f&&Wf e&&!Ro sc f)||Nz f||!Wg f then Z8 else(cE ar cl n sc e).bind λc=>(cG ar cl n sc f).map λg=>ZE c g
   |_=>Z8
  |.If t a b _=>(cT ar cl n sc t).bind λk=>(cSts n sc a).bind λl=>(cSts n sc b).map λi=>X6 k l i
  |.For f o d h _=>match h with
   |[]=>(Rt sc ar (cE ar cl n sc) f o).bind λm=>(cG ar cl n sc f).bind λg=>(cSts n sc d).map λi=>Ze m g i
   |_::_=>Z8
  |.While t d h _=>match h with
   |[]=>(cT ar cl n sc t).bind λk=>(cSts n sc d).map λi=>Vl Sf k i
   |_::_=>Z8
  |.Pass _=>Z9 ZF
  |.Break _=>Z9 Sk
  |.Continue _=>Z9 Sj
  |.Raise _ _ _=>Z9 Qd
  |_=>Z8
noncomputable def cSts:Nat->Sc->List wQ->Option CS
 |0,_,_=>Z8
 |n+1,sc,ss=>match ss with
  |[]=>Z9 ZF
  |s::r=>(Ec n sc s).bind λc=>(cSts n sc r).map λd=>ZV c d
end
end
inductive nU(sc:Sc)(tg e:jH)(r:Nat×Nat×jH×jH):Prop
 |mk (x y:Str) (px py pt pt2:Pos) (kt k2:Nat) (v1 v2:jH) (h1:tg=.Tuple [.Name x px,.Name y py] kt pt) (h2:e=.Tuple [v1,v2] k2 pt2) (hp:nV sc (.Name x px,.Name y py) (v1,v2) (x,y)=Z9 r)
theorem Eb(h:Yr X sc ar cl k):dM (yW X.prog X.w) X.A X.env X.xe:=by rw[h.xe];exact PassesOwn.never
theorem P3:∀n:Nat,(∀X d,Yr X d ar cl k->∀s c,Ec ar cl n d s=Z9 c->PS X s (YT X c))/\(∀X d,Yr X d ar cl k->∀s c,cSts ar cl n d s=Z9 c->Xs X s (YT X c))
 |0=>⟨λX d h e c q=>(by cases q),λX d h e c q=>(by cases q)⟩
 |n+1=>by
  obtain⟨L,m⟩:=P3 n;refine⟨λX d h s c q=>?_,λX d h ss c q=>?_⟩
  .have z:=(Rq n).1 X d h;have ht:=(Rq n).2 X d h;have E:=(Eg n).1 X d h;cases s with
   |Return v pos =>
    cases v with
    |none=>cases q;exact pC
    |some e =>
     obtain⟨H,f,j⟩:=qA7.mp q;subst j;exact pA (z _ _ f)
   |Expr e pos =>
    change (if P4 e=Z7 then Z8 else(cE ar cl n d e).map λc=>Vm c)=Z9 c at q;split at q
    .cases q
    .rename_i C;obtain⟨H,f,j⟩:=qA7.mp q;subst j;exact pz (z _ _ f) (Ef (by simpa using C))
   |Assign F e pos =>
    cases F with
    |nil=>cases q
    |cons p r =>
     cases r with
     |cons _ _=>cases q
     |nil =>
      change (if J4 p e||(Wf p&&Wf e&&!Ro d p)||Nz p||!Wg p then Z8 else(cE ar cl n d e).bind λc=>(cG ar cl n d p).map λg=>ZE c g)=Z9 c at q;split at q
      .cases q
      .rename_i C;simp only[qJ9,not_or,qG1,qG4,Bool.not_eq_false]at C;obtain⟨⟨⟨B,D⟩,G⟩,I⟩:=C;obtain⟨H,f,j⟩:=qA4.mp q;obtain⟨g,l,o⟩:=qA7.mp j;subst o;rcases nY B with B|⟨x,N,elt,gens,scope,R,rfl,rfl⟩
       .refine EN (z _ _ f) (E _ _ l) (B _ _) (Ed h D G) ?_;rw[J7 (by simpa using I)];rfl
       .obtain⟨b,K⟩:=nZ (elt:=elt) (gens:=gens) (scope:=scope) (pos:=R) (pos':=N) (x:=x) (line:=pos.line) (env:=X.env);cases b with
        |false=>exact EN (z _ _ f) (E _ _ l) K (Ed h D G) (by rw[J7 (by simpa using I)];rfl)
        |true =>
         cases n with
         |zero=>cases l
         |succ n =>
          obtain⟨i,rfl,P,Q,T⟩:=P5 h l;exact o7 (n6 h f (OH h.nd' P Q T) K)
   |If t a b pos =>
    obtain⟨O,A,j⟩:=qA4.mp q;obtain⟨U,f,o⟩:=qA4.mp j;obtain⟨J,l,w⟩:=qA7.mp o;subst w;exact pj (ht _ _ A) (m X d h _ _ f) (m X d h _ _ l)
   |For p W y u pos =>
    cases u with
    |cons _ _=>cases q
    |nil =>
     obtain⟨V,A,j⟩:=qA4.mp q;obtain⟨g,f,o⟩:=qA4.mp j;obtain⟨J,l,w⟩:=qA7.mp o;subst w;obtain⟨M,S⟩:=J9 h z A;exact o3 (Eb h) h.calm M (E _ _ f) (m X d h _ _ l) (Ke S)
   |While t y u pos =>
    cases u with
    |cons _ _=>cases q
    |nil =>
     obtain⟨O,A,j⟩:=qA4.mp q;obtain⟨J,l,w⟩:=qA7.mp j;subst w;exact o6 Sf (Eb h) (ht _ _ A) (m X d h _ _ l)
   |Pass pos=>cases q;exact pH
   |Break pos=>cases q;exact pG
   |Continue pos=>cases q;exact pF
   |Raise a b pos=>cases q;exact pD
   |_=>cases q
  .cases ss with
   |nil=>cases q;exact pq
   |cons s r =>
    obtain⟨B,f,j⟩:=qA4.mp q;obtain⟨D,l,o⟩:=qA7.mp j;subst o;exact pk (L X d h _ _ f) (m X d h _ _ l)
def Yh(n:Nat)(ds:yM):ZT:=ds.map Z9++qL2 (n - ds.length) Z8
def Zy(f e:Nat)(b:CS):yM->M D:=λds S=>if ds.length=f then(match b (Yh e ds) S with
 |.nx _ a=>.ok .non a
 |.rt d a=>.ok d a
 |.er c a=>.er c a
 | _=>.bad)else .bad
theorem RVs.begins{K:yS}{ds:yM}(r:RVs K H J ds b):RE K H J (Yh N.length ds) (start N b):=by
 unfold Yh start;refine⟨by simp[r.len],λi d e=>?_⟩;by_cases a:i<ds.length
 .rw[qA8 (by simpa using a),qB1]at e;rw[qA8 (by rw[qA0,<- r.len];exact a),qB1];cases q:ds[i]? with
  |none=>rw[q]at e;cases e
  |some g =>
   rw[q]at e;cases e;obtain⟨v,c,f⟩:=r.get q;exact⟨v,by rw[c];rfl,f⟩
 .rw[qA2 (by simpa using a),qK4]at e;split at e<;>cases e
def WO(N ps:yH)(scope:wB):Bool :=
 decide (scope.kind=.function)&&!scope.isCoroutine&&!scope.isGenerator&&decide N.Nodup&&decide (N.take ps.length=ps)&&ps.all (λx=>scope.names.lookup x == Z9 .local||scope.names.lookup x == Z9 .cell)&&scope.names.all (λy=>y.2 != .free)
theorem nS(h:WO N ps scope=Z7):OE N ps scope:=by
 unfold WO at h;simp only[qD3,decide_eq_true_eq,qG4]at h;obtain⟨⟨⟨⟨⟨⟨j,b⟩,e⟩,g⟩,f⟩,d⟩,i⟩:=h;refine⟨j,b,e,g,f,λx a=>?_,λy c=>?_⟩
 .have:=qD6.mp d x a;simpa using this
 .have:=qD6.mp i y c;simpa using this
theorem P0{K:yS}{st:wQ}(F:Vc K x x st l fd)
  (hs:WO N ps (XO st)=Z7) (D:cSts ar cl a ⟨N,(XO st).names,Z9 x⟩ (WC st)=Z9 b)
  (u:UY ar g)
  (q:∀y n,ar y=Z9 n->(∃ps,RL P w K g base y ps k (V4 K (cl y) n))/\∀ds S d p,cl y ds S=.ok d p->ds.length=n):XU P w K g base UK (k+1) l fd ps (V4 K (Zy ps.length N.length b) ps.length):=by
 have S:=nS hs;refine F.ok (k:=k) S (λv H Q E h=>h.1) (λm A f s H v Q E I h=>?_);obtain⟨R,J,ds,t,d,p,L,C,e,y⟩:=h;have O:Yr (V9 UK P w K g base N x (XO st) l m A f s H E).nox ⟨N,(XO st).names,Z9 x⟩ ar cl k:={
  calm:=rfl
  N:=rfl
  nd:=S.nd
  gl:=λx c=>c
  loc:=λx c=>c
  cel:=λx c=>c
  fre:=λx c=>.inr c
  fnn:=λ_ x=>rfl
  room:=I
  xe:=rfl
  blt:=u
  fns:=q }
 refine⟨_,(P3 a).2 _ _ O _ _ D,J,Yh N.length ds,t,L,C.begins,?_⟩;unfold Zy at e;split at e
 .split at e
  .rename_i B M j;cases e;rw[j];exact fun U z G o i r=>y _ z G o i RA
  .rename_i T M j;cases e;rw[j];exact y
  .cases e
  .cases e
 .cases e
theorem nR{K:yS}{c:Str->yF}{st:wQ}(F:Vc K x x st e fd)(m:c x=Z9 (.ref e))(j:Ut K fd ps [])
  (hs:WO N ps (XO st)=Z7) (i:cSts ar cl a ⟨N,(XO st).names,Z9 x⟩ (WC st)=Z9 b)
  (g:UY ar c)
  (f:∀y n,ar y=Z9 n->(∃ps,RL P w K c base y ps k (V4 K (cl y) n))/\∀ds S d h,cl y ds S=.ok d h->ds.length=n):RL P w K c base x ps (k+1) (V4 K (Zy ps.length N.length b) ps.length) :=
 ⟨e,fd,P0 F hs i g f,j,F.kp,m⟩
end
abbrev ZR:=Str->yM->M D
abbrev Tp:=List (Str×(Nat×Nat×(ZR->CS)))
def To(tbl:Tp)(x:Str):yK:=(tbl.lookup x).map (·.1)
def Wd(tbl:Tp):Nat->ZR
 |0,_=>λ_ _=>.bad
 |n+1,x=>match tbl.lookup x with
  |some p=>Zy p.1 p.2.1 (p.2.2 (Wd tbl n))
  |none=>λ_ _=>.bad
structure Se(K:yS)(mg:Str->yF)(ar:Str->yK)(x:Str)(p:Nat×Nat×(ZR->CS)):Prop where
 ex:∃(st:wQ) (fa:yR) (fd:vY) (N ps:yH) (fuel:Nat),Vc K x x st fa fd/\mg x=Z9 (.ref fa)/\Ut K fd ps []/\WO N ps (XO st)=Z7/\ps.length=p.1/\N.length=p.2.1 /\
  ∀cl:ZR,cSts ar cl fuel ⟨N,(XO st).names,Z9 x⟩ (WC st)=Z9 (p.2.2 cl)
theorem nQ(h:Zy np c b ds S=.ok d a):ds.length=np:=by
 unfold Zy at h;split at h
 .assumption
 .cases h
theorem nP{a:Type}{tbl:List (Str×a)}{p:a}(h:tbl.lookup x=Z9 p):(x,p)∈tbl:=by
 induction tbl with
 |nil=>cases h
 |cons y r b =>
  obtain⟨d,c⟩:=y;rw[qD8]at h;split at h
  .simp_all
  .exact qC5 _ (b h)
theorem Ea{K:yS}(i:∀x p,tbl.lookup x=Z9 p->Se K g (To tbl) x p)(o:UY (To tbl) g):
  ∀(k:Nat) (x:Str) (n:Nat),To tbl x=Z9 n->(∃ps,RL P w K g base x ps k (V4 K (Wd tbl k x) n))/\∀ds S d a,Wd tbl k x ds S=.ok d a->ds.length=n
 |0,x,n,h=>by
  obtain⟨p,c,rfl⟩:=qA7.mp h;obtain⟨st,t,r,N,ps,b,F,m,l,_⟩:=(i x p c).ex;have j:∀ds S d a,Wd tbl 0 x ds S=.ok d a->False:=λds S d a e=>by unfold Wd at e;cases e
  refine⟨⟨ps,t,r,⟨λz H Q E h=>?_,λA f s H u I z Q E _ _ _ _ h=>?_⟩,l,F.kp,m⟩,λds S d a e=>(j _ _ _ _ e).elim⟩
  .obtain⟨_,J,ds,S,d,a,_,_,e,_⟩:=h;exact(j _ _ _ _ e).elim
  .obtain⟨_,J,ds,S,d,a,_,_,e,_⟩:=h;exact(j _ _ _ _ e).elim
 |k+1,x,n,h=>by
  obtain⟨p,c,rfl⟩:=qA7.mp h;obtain⟨st,t,r,N,ps,b,F,m,l,y,B,C,G⟩:=(i x p c).ex;have v:=Ea (P:=P) (w:=w) (base:=base) i o k;have q:=nR (P:=P) (w:=w) (base:=base) (k:=k) F m l y (G (Wd tbl k)) o v;have D:Wd tbl (k+1) x=Zy p.1 p.2.1 (p.2.2 (Wd tbl k)):=by show(match tbl.lookup x with|some p=>Zy p.1 p.2.1 (p.2.2 (Wd tbl k))| none=>λ_ _=>.bad)=_;rw[c]
  rw[B,C]at q;rw[D];exact⟨⟨ps,q⟩,λds S d a e=>nQ e⟩
def Ny(K:yS):Sp:=λd H Q _=>∃(a:yR) (b:yA),d=[.ref a]/\Sz K H a (b.map V.int)/\b.length<=63/\∀c,Q (.bl Z7) c
theorem nO{K:yS}(o:Us H)(h:YQ K H a xs):Sz K H a xs:=by
 rcases h with(h|⟨w,h⟩)| h
 .rcases o a with q|⟨w,b,q⟩
  .rw[h]at q;cases q
  .rw[h]at q;cases q
 .exact .inl ⟨w,h⟩
 .exact .inr h
theorem nM{K:yS}{st:wQ}(A:∀x p,tbl.lookup x=Z9 p->Se K j (To tbl) x p)(l:UY (To tbl) j)
  (s:tbl.lookup ("law":Str)=Z9 (1,i,b)) (F:Vc K "law" "law" st m fd) (hs:WO N ["_law_script"] (XO st)=Z7) (t:N.length=i) (G:∀cl:ZR,cSts (To tbl) cl f ⟨N,(XO st).names,Z9 "law"⟩ (WC st)=Z9 (b cl))
  (d:∀c:yA,c.length<=63->∃g,Wd tbl (L+1) "law" [.rol (c.map D.int)] []=.ok (.bl Z7) g) :
  XU P w K j base UK (L+1) m fd ["_law_script"] (Ny K):=by
 have q:=P0 (P:=P) (w:=w) (base:=base) (k:=L) F hs (G (Wd tbl L)) l (Ea (P:=P) (w:=w) (base:=base) A l L);refine q.imp λI H Q E h=>?_;obtain⟨a,c,rfl,B,u,y⟩:=h;obtain⟨g,e⟩:=d c u;have C:Wd tbl (L+1) "law"=Zy 1 i (b (Wd tbl L)):=by show(match tbl.lookup ("law":Str)with|some p=>Zy p.1 p.2.1 (p.2.2 (Wd tbl L))| none=>λ_ _=>.bad)=_;rw[s]
 rw[C]at e;refine⟨rfl,[],[.rol (c.map D.int)],[],.bl Z7,g,⟨rfl,qV6,λn a o h=>by simp at h⟩,.cons (by unfold RV;exact⟨a,_,rfl,B,RVs.ints⟩) .nil,by rw[t];exact e,λv z J _ _ r=>?_⟩;unfold RV at r;subst r;exact y z
theorem walk_ev{l:W.OpenLaw}{b:yH}{j:(Str->yF)->jL->Prop}{K:Params->yS}(v:l.most=Z9 63)(e:d.params.defaults=[])(A:Zb L mF)
  (p:∀(w:jJ) (h:jL),g w h->(K w.params).In h)
  (F:∀(w:jJ) (c:Str->yF) (i:yR) (h:jL),(K w.params).In h->h.Ns vC c->c d.name=Z9 (.ref i) ->
   ∃fd:vY,(∀(s:yQ) (u:yT),uJ s fd ⟨[u],[]⟩ [("_law_script",u)])/\∀base:jL,(K w.params).In base->base.Ns vC c->XU l.prog w (K w.params) c base UK L i fd ["_law_script"] (Ny (K w.params))) :
  W.WalkO q b j g l.row.toRowW d [] (λf t=>PySem.call f t) :=
 L2.walk_of (n:=63) (k:=L) (x := "_law_script") (CX:=λ_=>UK) (sp:=λw=>Ny (K w.params)) v (by decide) e A p F (λ_ _ a r m o y=>⟨a,r,rfl,nO o y,m,λ_=>rfl⟩) λ_ _ _ _ _ z=>z
open PySem
def Rm(K:yS)(a:Str->yF)(ar:Str->yK):Tp->Prop
 |[]=>True
 |e::r=>Se K a ar e.1 e.2/\Rm K a ar r
theorem Rm.mem{K:yS}{c:Str->yF}{ar:Str->yK}:∀{t:Tp},Rm K c ar t->∀x p,(x,p)∈t->Se K c ar x p
 |[],_,x,p,h=>by cases h
 |e::r,⟨a,b⟩,x,p,h=>by
  rcases qB0.mp h with q|q
  .subst q;exact a
  .exact b.mem x p q
theorem Rm.look{K:yS}(h:Rm K a ar t)(x:Str)(p:Nat×Nat×(ZR->CS))(e:t.lookup x=Z9 p):Se K a ar x p:=h.mem x p (nP e)
theorem nL{K:yS}{d:Str->yF}{st:wQ}{a np nN:Nat}(F:Vc K x x st c fd)(m:d x=Z9 (.ref c))(h:Ut K fd ps [])(hs:WO N ps (XO st)=Z7)
  (g:(λcl:ZR=>cSts ar cl a ⟨N,(XO st).names,Z9 x⟩ (WC st))=λcl=>Z9 (b cl)) (e:ps.length=np:=by rfl) (f:N.length=nN:=by rfl):Se K d ar x (np,nN,b) :=
 ⟨st,c,fd,N,ps,a,F,m,h,hs,e,f,λcl=>congrFun g cl⟩
def Nx(a:Str->yF):yH->Prop
 |[]=>True
 |x::r=>a x=Z8/\Nx a r
theorem Nx.mem{c:Str->yF}:∀{l:yH},Nx c l->∀x∈l,c x=Z8
 |[],_,x,h=>by cases h
 |e::r,⟨a,b⟩,x,h=>by
  rcases qB0.mp h with q|q
  .subst q;exact a
  .exact b.mem x q
inductive Tg{γ:Type}(f:γ):Type where
 |mk
def Zv{b β:Type}(r:R b)(f:b->ZX->R β)(_:Tg f):R β:=match r with
 |.bad=>.bad
 |.er c S=>.er c S
 |.ok a S=>f a S
@[simp]theorem XW(a:b)(S:ZX)(f:b->ZX->R c):Zv (.ok a S) f .mk=f a S:=rfl
@[simp]theorem bS(f:a->ZX->R b):Zv .bad f .mk=.bad:=rfl
@[simp]theorem Xk(m:M a)(f:a->M b)(S:ZX):YU m f S=Zv (m S) f .mk:=rfl
@[simp]theorem D9(a:b)(S:ZX):ret a S=.ok a S:=rfl
@[simp]theorem bR(S:ZX):(bad:M a) S=.bad:=rfl
def rs{b:Type}(r:R b)(f:b->ZX->RS)(_:Tg f):RS:=match r with
 |.bad=>.bad
 |.er _ _=>.bad
 |.ok a S=>f a S
@[simp]theorem D8(a:b)(S:ZX)(f:b->ZX->RS):rs (.ok a S) f .mk=f a S:=rfl
@[simp]theorem bQ(f:a->ZX->RS):rs .bad f .mk=.bad:=rfl
def sb(r:RS)(f:CS)(_:Tg f):RS:=match r with
 |.nx B S=>f B S
 |r=>r
@[simp]theorem D7(B:ZT)(S:ZX)(f:CS):sb (.nx B S) f .mk=f B S:=rfl
@[simp]theorem bP(d:D)(S:ZX)(f:CS):sb (.rt d S) f .mk=.rt d S:=rfl
@[simp]theorem bO(B:ZT)(S:ZX)(f:CS):sb (.bk B S) f .mk=.bk B S:=rfl
@[simp]theorem bN(B:ZT)(S:ZX)(f:CS):sb (.ct B S) f .mk=.ct B S:=rfl
@[simp]theorem Nw(a b:CS)(B:ZT)(S:ZX):ZV a b B S=sb (a B S) b .mk:=rfl
@[simp]theorem bM(B:ZT)(S:ZX):ZF B S=.nx B S:=rfl
@[simp]theorem bL(B:ZT)(S:ZX):Sk B S=.bk B S:=rfl
@[simp]theorem bK(B:ZT)(S:ZX):Sj B S=.ct B S:=rfl
@[simp]theorem bJ(B:ZT)(S:ZX):Kv B S=.rt .non S:=rfl
@[simp]theorem nK(c:C)(B:ZT)(S:ZX):ZL c B S=rs (c B S) (λd a=>.rt d a) .mk:=by unfold ZL rs;cases c B S<;>rfl
@[simp]theorem bI(c:C)(B:ZT)(S:ZX):Vm c B S=rs (c B S) (λ_ a=>.nx B a) .mk:=by unfold Vm rs;cases c B S<;>rfl
@[simp]theorem nJ(c:C)(g:G)(B:ZT)(S:ZX):ZE c g B S=rs (c B S) (λd a=>rs (g d B a) (fun b e=>.nx b e) .mk) .mk:=by
 unfold ZE rs;cases c B S with
 |ok d a=>dsimp only;cases g d B a<;>rfl
 |_=>rfl
@[simp]theorem bH(t:CT)(a b:CS)(B:ZT)(S:ZX):X6 t a b B S=rs (t B S) (λk c=>if k then a B c else b B c) .mk:=by unfold X6 rs;cases t B S<;>rfl
@[simp]theorem JZ(c:CI)(g:G)(b:CS)(B:ZT)(S:ZX):Ze c g b B S=rs (c B S) (λp d=>Zf p.2 g b p.1 B d) .mk:=by
 unfold Ze rs;cases c B S with
 |ok p d=>obtain⟨a,b⟩:=p;rfl
 |_=>rfl
@[simp]theorem nI(i:Nat)(d:D)(B:ZT)(S:ZX):gN i d B S=.ok (B.set i (Z9 d)) S:=rfl
def mo{a:Type}(o:Option a)(b:a->ZX)(B:ZT):R ZT:=match o with
 |some x=>.ok B (b x)
 |none=>.bad
@[simp]theorem bG(c b:C)(d:D)(B:ZT)(S:ZX):gS c b d B S=Zv (c B S) (λo a=>Zv (b B a) (λi e=>mo (XG o i d e) (λx=>x) B) .mk) .mk:=by
 unfold gS;rw[Xk];cases c B S with
 |bad=>rfl
 |er _ _=>rfl
 |ok o a =>
  rw[XW,XW,Xk];cases b B a with
  |bad=>rfl
  |er _ _=>rfl
  |ok i e =>
   rw[XW,XW];cases h:XG o i d e<;>rfl
@[simp]theorem bF(x:a)(f:a->ZX)(B:ZT):mo (Z9 x) f B=.ok B (f x):=rfl
@[simp]theorem bE(a:List G)(xs:yM)(B:ZT)(S:ZX):gT a (.tup xs) B S=Tu a xs B S:=rfl
@[simp]theorem bD(B:ZT)(S:ZX):Tu [] [] B S=.ok B S:=rfl
@[simp]theorem bC(g:G)(a:List G)(x:D)(xs:yM)(B:ZT)(S:ZX):Tu (g::a) (x::xs) B S=Zv (g x B S) (fun c b=>Tu a xs c b) .mk:=rfl
@[simp]theorem D6(i:Nat)(B:ZT)(S:ZX):ZY i B S=match B[i]? with|some (Z9 d)=>.ok d S|_=>.bad:=rfl
@[simp]theorem nH(d:D)(B:ZT)(S:ZX):ZW d B S=.ok d S:=rfl
@[simp]theorem nG(o:D->D->M D)(a b:C)(B:ZT)(S:ZX):ZU o a b B S=Zv (a B S) (λx c=>Zv (b B c) (λy d=>o x y d) .mk) .mk:=rfl
@[simp]theorem bB(o:D->M D)(a:C)(B:ZT)(S:ZX):RD o a B S=Zv (a B S) o .mk:=rfl
@[simp]theorem D5(B:ZT)(S:ZX):ZQ [] B S=.ok [] S:=rfl
@[simp]theorem nF(c:C)(a:List C)(B:ZT)(S:ZX):ZQ (c::a) B S=Zv (c B S) (λx b=>Zv (ZQ a B b) (λxs d=>.ok (x::xs) d) .mk) .mk:=rfl
@[simp]theorem bA(o:yM->M D)(a:CA)(B:ZT)(S:ZX):ZS o a B S=Zv (a B S) o .mk:=rfl
@[simp]theorem bz(a:CA)(B:ZT)(S:ZX):Y9 a B S=Zv (a B S) (λxs b=>.ok (.tup xs) b) .mk:=rfl
@[simp]theorem nE(a:CA)(B:ZT)(S:ZX):Y8 a B S=Zv (a B S) (λxs b=>.ok (.lst b.length) (b++[.lst xs])) .mk:=rfl
@[simp]theorem bx(t:CT)(a b:C)(B:ZT)(S:ZX):RC t a b B S=Zv (t B S) (λk c=>if k then a B c else b B c) .mk:=by
 unfold RC;rw[Xk];cases t B S with
 |ok k c=>cases k<;>rfl
 |bad=>rfl
 |er _ _=>rfl
@[simp]theorem bw(a:C)(B:ZT)(S:ZX):YH a B S=Zv (a B S) (λx b=>dB x b) .mk:=rfl
@[simp]theorem bu(b:Bool)(S:ZX):dB (.bl b) S=.ok b S:=rfl
@[simp]theorem br(a b:C)(B:ZT)(S:ZX):Tx a b B S=Zv (YH a B S) (λk c=>if k then b B c else .ok (.bl Z5) c) .mk:=by
 unfold Tx;rw[Xk];cases YH a B S with
 |ok k c=>cases k<;>rfl
 |bad=>rfl
 |er _ _=>rfl
@[simp]theorem bp(a b:C)(B:ZT)(S:ZX):Ue a b B S=Zv (YH a B S) (λk c=>if k then .ok (.bl Z7) c else b B c) .mk:=by
 unfold Ue;rw[Xk];cases YH a B S with
 |ok k c=>cases k<;>rfl
 |bad=>rfl
 |er _ _=>rfl
@[simp]theorem bo(a:C)(B:ZT)(S:ZX):Qk a B S=Zv (YH a B S) (λk b=>.ok (.bl (!k)) b) .mk:=rfl
@[simp]theorem bj(a b:CT)(B:ZT)(S:ZX):Qj a b B S=Zv (a B S) (λk c=>if k then b B c else .ok Z5 c) .mk:=by
 unfold Qj;rw[Xk];cases a B S with
 |ok k c=>cases k<;>rfl
 |bad=>rfl
 |er _ _=>rfl
@[simp]theorem bh(a b:CT)(B:ZT)(S:ZX):X7 a b B S=Zv (a B S) (λk c=>if k then .ok Z7 c else b B c) .mk:=by
 unfold X7;rw[Xk];cases a B S with
 |ok k c=>cases k<;>rfl
 |bad=>rfl
 |er _ _=>rfl
@[simp]theorem bg(a:CT)(B:ZT)(S:ZX):W2 a B S=Zv (a B S) (λk b=>.ok (!k) b) .mk:=rfl
@[simp]theorem bf(o o':D->D->M D)(a b c:C)(B:ZT)(S:ZX):Sw o o' a b c B S=Zv (a B S) (λx d=>Zv (b B d) (λy f=>Zv (o x y f) (λz e=>Zv (dB z e) (λk g=>if k then Zv (c B g) (λw h=>o' y w h) .mk else .ok (.bl Z5) g) .mk) .mk) .mk) .mk:=by
 unfold Sw;rw[Xk];cases a B S with
 |bad=>rfl
 |er _ _=>rfl
 |ok x d =>
  rw[XW,XW,Xk];cases b B d with
  |bad=>rfl
  |er _ _=>rfl
  |ok y f =>
   rw[XW,XW,Xk];cases o x y f with
   |bad=>rfl
   |er _ _=>rfl
   |ok z e =>
    rw[XW,XW,Xk];cases dB z e with
    |bad=>rfl
    |er _ _=>rfl
    |ok k g=>cases k<;>rfl
@[simp]theorem bc(a:C)(B:ZT)(S:ZX):Y7 a B S=Zv (a B S) (λx b=>Xp x b) .mk:=rfl
@[simp]theorem aZ(b:Bool)(S:ZX):Xp (.bl b) S=.ok b S:=rfl
@[simp]theorem aY(i:Int)(S:ZX):Xp (.int i) S=.ok (i != 0) S:=rfl
@[simp]theorem aX(xs:yM)(S:ZX):Xp (.tup xs) S=.ok (!xs.isEmpty) S:=rfl
@[simp]theorem aW(B:ZT)(S:ZX):Xg B S=.ok Z8 S:=rfl
@[simp]theorem aV(a:C)(B:ZT)(S:ZX):Xf a B S=Zv (a B S) (λx b=>Zv (Sv x b) (λi c=>.ok (Z9 i) c) .mk) .mk:=rfl
@[simp]theorem aU(i:Int)(S:ZX):Sv (.int i) S=.ok i S:=rfl
@[simp]theorem aT(o:D->yG->yG->M D)(a:C)(lo hi:CO)(B:ZT)(S:ZX):Xe o a lo hi B S=Zv (a B S) (λx b=>Zv (lo B b) (λl d=>Zv (hi B d) (λh c=>o x l h c) .mk) .mk) .mk:=rfl
@[simp]theorem aS(T:String)(o:D->yM->M D)(a:C)(c:CA)(B:ZT)(S:ZX):UZ T o a c B S=Zv (a B S) (λx b=>if XR T x b then Zv (c B b) (λxs d=>o x xs d) .mk else .bad) .mk:=rfl
@[simp]theorem aR(T:String)(o:D->yM->M D)(a:C)(B:ZT)(S:ZX):NO T o a B S=Zv (a B S) (λx b=>if XR T x b then o x [] b else .bad) .mk:=rfl
@[simp]theorem JY(c:C)(B:ZT)(S:ZX):Zw c B S=Zv (c B S) (λx a=>match x with
 |.tup xs=>.ok (xs,[]) a
 |.lst n=>match ZO a n with
  |some xs=>.ok (xs,[(n,xs)]) a
  |none=>.bad
 |.dct n=>match a[n]? with
  |some (.dk kvs)=>.ok (kvs.map λp=>kD p.1,[]) (a.set n (.fk kvs))
  |some (.fk kvs)=>.ok (kvs.map λp=>kD p.1,[]) a
  |_=>.bad
 | _=>.bad) .mk:=rfl
@[simp]theorem nD(a:CA)(B:ZT)(S:ZX):VX a B S=Zv (a B S) (λxs b=>match xs with
 |[.int j]=>if -4611686018427387904<=j/\j<4611686018427387904 then .ok (Y5 0 j.toNat,[]) b else .bad
 | _=>.bad) .mk:=rfl
@[simp]theorem aQ(a:CA)(B:ZT)(S:ZX):NL a B S=Zv (a B S) (λxs b=>match xs with
 |[.int i,.int j]=>if -4611686018427387904<=i/\i<4611686018427387904/\-4611686018427387904<=j/\j<4611686018427387904 then .ok (Y5 i (j - i).toNat,[]) b else .bad
 | _=>.bad) .mk:=rfl
@[simp]theorem aP(a:CA)(B:ZT)(S:ZX):Uc a B S=Zv (a B S) (λxs b=>match xs with
 |[x,y]=>match Wu b x,Wu b y with
  |some ys,Z9 zs=>.ok (zipD ys zs,Tt x ys++Tt y zs) b
  |_,_=>.bad
 | _=>.bad) .mk:=rfl
@[simp]theorem aO(n:Nat)(xs:yM):Tt (.lst n) xs=[(n,xs)]:=rfl
@[simp]theorem aN(ys:yM)(xs:yM):Tt (.tup ys) xs=[]:=rfl
@[simp]theorem aM(S:ZX)(n:Nat):Wu S (.lst n)=ZO S n:=rfl
@[simp]theorem aL(S:ZX)(xs:yM):Wu S (.tup xs)=Z9 xs:=rfl
@[simp]theorem aK(a:CA)(B:ZT)(S:ZX):Qb a B S=Zv (a B S) (λxs b=>match xs with
 |[.tup ys]=>.ok (VW ys,[]) b
 |[.lst n]=>match ZO b n with
  |some ys=>.ok (VW ys,[(n,ys)]) b
  |none=>.bad
 | _=>.bad) .mk:=rfl
@[simp]theorem aJ(d:CI)(k:Nat)(a:List Nat)(t:Xd)(tc:CT)(c:C)(B:ZT)(S:ZX):Yv d k a t tc c B S=Zv (d B S) (λp e=>if p.1.length<lim then Zv (Zo p.2 t tc c (Ub k a B) p.1 e) (λys b=>.ok (.lst b.length) (b++[.lst ys])) .mk else .bad) .mk:=rfl
@[simp]theorem aI(B:ZT)(S:ZX):Ru B S=.ok (.dct S.length) (S++[.dk []]):=rfl
@[simp]theorem aH(a b:C)(B:ZT)(S:ZX):ND a b B S=Zv (a B S) (λx d=>Zv (b B d) (λy c=>match WT x with
 |some k=>.ok (.dct c.length) (c++[.dk [(k,y)]])
 | none=>.bad) .mk) .mk:=rfl
@[simp]theorem aG(i j:Int)(S:ZX):Zx (.int i) (.int j) S=.ok (.int (i+j)) S:=rfl
@[simp]theorem aF(xs ys:yM)(S:ZX):Zx (.tup xs) (.tup ys) S=if xs.length+ys.length<=lim then .ok (.tup (xs++ys)) S else .bad:=rfl
@[simp]theorem aE(g:Int->Int->Int)(i j:Int)(S:ZX):Zl g (.int i) (.int j) S=.ok (.int (g i j)) S:=rfl
@[simp]theorem aD(i j:Int)(S:ZX):Xo (.int i) (.int j) S=if VD i j then .ok (.int (i*j)) S else .bad:=rfl
@[simp]theorem aC(i j:Int)(S:ZX):W7 (.int i) (.int j) S=if 0<j then .ok (.int (i % j)) S else .bad:=rfl
@[simp]theorem aB(i j:Int)(S:ZX):WU (.int i) (.int j) S=if 0<j/\j<1073741824 then .ok (.int (i / j)) S else .bad:=rfl
@[simp]theorem aA(i j:Int)(S:ZX):VC (.int i) (.int j) S=if 0<=j/\j<=1000000/\i.natAbs<18446744073709551616 then .ok (.int (i ^ j.toNat)) S else .bad:=rfl
@[simp]theorem nC(i j:Int)(S:ZX):Yx (.int i) (.int j) S=if 0<=j/\j<=1000000/\i.natAbs<18446744073709551616 then .ok (.int (i*2 ^ j.toNat)) S else .bad:=rfl
@[simp]theorem az(i j:Int)(S:ZX):VB (.int i) (.int j) S=if 0<=j then .ok (.int (i / 2 ^ j.toNat)) S else .bad:=rfl
@[simp]theorem ay(i:Int)(S:ZX):V3 (.int i) S=.ok (.int (-i)) S:=rfl
@[simp]theorem ax(g:Int->Int->Bool)(i j:Int)(S:ZX):XH g (.int i) (.int j) S=.ok (.bl (g i j)) S:=rfl
@[simp]theorem aw(i j:Int)(S:ZX):V2 (.int i) (.int j) S=.ok (.bl (decide (i<j))) S:=rfl
theorem D4(i j:Int):PyData.eqv (.int i) (.int j)=decide (i=j):=rfl
@[simp]theorem av(i j:Int)(S:ZX):Xx (.int i) (.int j) S=.ok (.bl (decide (i=j))) S:=by show R.ok (D.bl (PyData.eqv (.int i) (.int j))) S=_;rw[D4]
@[simp]theorem au(i j:Int)(S:ZX):Wk (.int i) (.int j) S=.ok (.bl (!decide (i=j))) S:=by show R.ok (D.bl (!PyData.eqv (.int i) (.int j))) S=_;rw[D4]
@[simp]theorem aq(i j:Bool)(S:ZX):Xx (.bl i) (.bl j) S=.ok (.bl (i == j)) S:=by show R.ok (D.bl (PyData.eqv (.bool i) (.bool j))) S=_;cases i<;>cases j<;>rfl
@[simp]theorem ao(i j:Bool)(S:ZX):Wk (.bl i) (.bl j) S=.ok (.bl (i != j)) S:=rfl
@[simp]theorem ak(x:D)(S:ZX):Qh x .non S=.ok (.bl x.isNon) S:=by cases x<;>rfl
@[simp]theorem aj(x:D)(S:ZX):Sr x .non S=.ok (.bl (!x.isNon)) S:=by cases x<;>rfl
@[simp]theorem ai(a b:Bool)(S:ZX):Qh (.bl a) (.bl b) S=.ok (.bl (a == b)) S:=rfl
@[simp]theorem ah(a b:Bool)(S:ZX):Sr (.bl a) (.bl b) S=.ok (.bl (a != b)) S:=rfl
@[simp]theorem ag(i j:Int)(S:ZX):Wy [.int i,.int j] S=.ok (.int (if j<i then j else i)) S:=rfl
@[simp]theorem af(i j:Int)(S:ZX):U2 [.int i,.int j] S=.ok (.int (if j>i then j else i)) S:=rfl
@[simp]theorem ae(i:Int)(S:ZX):Vz [.int i] S=.ok (.int i) S:=rfl
@[simp]theorem ab(b:Bool)(S:ZX):Vz [.bl b] S=.ok (.int (if b then 1 else 0)) S:=rfl
@[simp]theorem aa(xs:yM)(S:ZX):Xn [.tup xs] S=.ok (.tup xs) S:=rfl
theorem Tn{xs:yM}(h:ZO S n=Z9 xs):Xn [.lst n] S=.ok (.tup xs) S:=by show(match ZO S n with|some a=>R.ok (D.tup a) S|none=>.bad)=_;rw[h]
@[simp]theorem zat(xs:yM)(S:ZX):Zi [.tup xs] S=.ok (.int xs.length) S:=rfl
@[simp]theorem nB(xs:yM)(S:ZX):Zi [.rol xs] S=.ok (.int xs.length) S:=rfl
theorem Nv{xs:yM}(h:ZO S n=Z9 xs):Zi [.lst n] S=.ok (.int xs.length) S:=by show(match ZO S n with|some a=>R.ok (D.int a.length) S|none=>.bad)=_;rw[h]
@[simp]theorem zZA(xs:yM)(S:ZX):Rx [.tup xs] S=.ok (.lst S.length) (S++[.lst xs]):=rfl
@[simp]theorem zbS(xs:yM)(j:Int)(S:ZX):Zp (.tup xs) (.int j) S=match Xz xs j with|some d=>.ok d S|none=>.bad:=rfl
@[simp]theorem zbT(xs:yM)(j:Int)(S:ZX):Zp (.rol xs) (.int j) S=match Xz xs j with|some d=>.ok d S|none=>.bad:=rfl
theorem VU{xs:yM}(h:ZO S n=Z9 xs)(j:Int):Zp (.lst n) (.int j) S=match Xz xs j with|some d=>.ok d S|none=>.bad:=by show(match ZO S n,D.int j with|some xs,.int j=>(match Xz xs j with|some d=>R.ok d S|none=>.bad)| _,_=>.bad)=_;rw[h]
@[simp]theorem zbN(xs:yM)(lo hi:yG)(S:ZX):Yn (.tup xs) lo hi S=.ok (.tup (Zr xs lo hi)) S:=rfl
theorem Tj{xs:yM}(h:ZO S n=Z9 xs)(lo hi:yG):Yn (.lst n) lo hi S=.ok (.lst S.length) (S++[.lst (Zr xs lo hi)]):=by show(match ZO S n with|some xs=>R.ok (D.lst S.length) (S++[O.lst (Zr xs lo hi)])| none=>.bad)=_;rw[h]
@[simp]theorem zdb(x:a)(xs:List a):Xz (x::xs) 0=Z9 x:=Vo rfl
@[simp]theorem zda(x y:a)(xs:List a):Xz (x::y::xs) 1=Z9 y:=Vo rfl
@[simp]theorem zd9(x y z:a)(xs:List a):Xz (x::y::z::xs) 2=Z9 z:=Vo rfl
@[simp]theorem zd8(x y z w:a)(xs:List a):Xz (x::y::z::w::xs) 3=Z9 w:=Vo rfl
structure Kp(P:Nat->Prop)(S S':ZX):Prop where
 le:S.length<=S'.length
 eq:∀j,j<S.length->¬P j->S'[j]?=S[j]?
abbrev Ex:ZX->ZX->Prop:=Kp λ_=>False
inductive Wq{α:Type}(m:R α)(r:α)(S:ZX):Prop
 |mk (S1:ZX) (e:m=.ok r S1) (x:Ex S S1)
theorem Kp.refl(P:Nat->Prop)(S:ZX):Kp P S S:=⟨qA6 _,λ_ _ _=>rfl⟩
theorem Kp.trans(a:Kp P S c)(b:Kp P c S2):Kp P S S2:=⟨qD0 a.le b.le,λj h n=>(b.eq j (qC0 h a.le) n).trans (a.eq j h n)⟩
theorem Ex.kp(h:Ex S S'):Kp P S S':=⟨h.le,λj a _=>h.eq j a (λz=>z)⟩
theorem Kp.kp(h:Kp (λ_=>False) S S'):Kp P S S':=⟨h.le,λj a _=>h.eq j a (λz=>z)⟩
theorem Zt(S T:ZX):Ex S (S++T):=⟨by simp,λj h _=>qA8 h⟩
theorem Vw(S:ZX)(o:O):Kp (·=i) S (S.set i o):=⟨by simp,λj h n=>qE7 λz=>n z.symm⟩
theorem Kp.at(h:Kp P S a)(e:S[j]?=Z9 o)(n:¬P j):a[j]?=Z9 o:=by rw[h.eq j (qA5.mp e).1 n];exact e
theorem UG{xs:yM}(h:ZO S n=Z9 xs):S[n]?=Z9 (.lst xs):=by
 unfold ZO at h;split at h
 .simp_all
 .cases h
theorem JX{xs:yM}(h:S[n]?=Z9 (.lst xs)):ZO S n=Z9 xs:=by unfold ZO;rw[h]
theorem Kp.lst(h:Kp P S a){xs:yM}(e:ZO S j=Z9 xs)(n:¬P j):ZO a j=Z9 xs:=JX (h.at (UG e) n)
theorem Ti{xs:yM}(h:ZO S n=Z9 xs):n<S.length:=(qA5.mp (UG h)).1
@[simp]theorem Zm(S:ZX)(xs:yM):ZO (S++[.lst xs]) S.length=Z9 xs:=JX (by rw[qA2 (qA6 _),qJ4];rfl)
theorem Nu{xs:yM}(h:ZO S n=Z9 xs):ZO (S++T) n=Z9 xs:=(Zt S T).lst h λz=>z
theorem Th{xs ys:yM}(h:ZO S n=Z9 xs):ZO (S.set n (.lst ys)) n=Z9 ys:=JX (qD9 (Ti h))
theorem PZ{xs:yM}(h:ZO S n=Z9 xs):XR "list" (.lst n) S=Z7:=by show(decide ("list" = "list")&&(ZO S n).isSome)=Z7;rw[h];rfl
theorem PY{S:ZX}{n:Nat}{ys:yM}(h:ZO S n=Z9 ys)(g:yM->yM->Option (yM×D))(xs:yM):W6 g (.lst n) xs S=match g ys xs with|some p=>.ok p.2 (S.set n (.lst p.1))| none=>.bad:=by
 unfold W6;dsimp only;rw[UG h];dsimp only;cases g ys xs with
 |none=>rfl
 |some p=>rfl
@[simp]theorem PX(ys:yM)(x:D):WE ys [x]=if ys.length<lim then Z9 (ys++[x],.non)else Z8:=rfl
@[simp]theorem zWW(ys:yM)(i:Int)(x:D):NM ys [.int i,x]=if ys.length<1000/\0<=i/\i.toNat<=ys.length then Z9 (ys.take i.toNat++x::ys.drop i.toNat,.non)else Z8:=rfl
theorem D3{S:ZX}{n:Nat}{ys:yM}(h:ZO S n=Z9 ys)(k:Int)(v:D):XG (.lst n) (.int k) v S=match Vp ys.length k with|some j=>Z9 (S.set n (.lst (ys.set j v)))| none=>Z8:=by
 unfold XG;dsimp only;rw[UG h]
 all_goals (dsimp only;cases Vp ys.length k<;>rfl)
theorem Yp(S:ZX):XQ [] S:=λp h=>by cases h
theorem Xj{xs:yM}(h:ZO S n=Z9 xs):XQ [(n,xs)] S:=λp a=>by simp at a;subst a;exact h
theorem D2{xs ys:yM}(h:ZO S n=Z9 xs)(b:ZO S m=Z9 ys):XQ [(n,xs),(m,ys)] S:=λp a=>by
 simp at a;rcases a with rfl|rfl
 .exact h
 .exact b
theorem DZ{w:Xm}{g:G}{b:CS}:∀(items:yM) (P:Nat->ZT->ZX->Prop) {B:ZT}{S:ZX} (k:Nat),(∀i B S,P i B S->XQ w S)->P k B S ->
  (∀i d B S,items[i]?=Z9 d->P (k+i) B S->∃f a,g d B S=.ok f a/\∃c e,(b f a=.nx c e∨b f a=.ct c e)/\P (k+i+1) c e)->∃l j,Zf w g b items B S=.nx l j/\P (k+items.length) l j
 |[],P,B,S,k,hw,h0,hs=>⟨B,S,by unfold Zf;rw[if_pos (hw k B S h0)],by simpa using h0⟩
 |d::ds,P,B,S,k,hw,h0,hs=>by
  obtain⟨f,a,r,c,e,h,s⟩:=hs 0 d B S rfl (by simpa using h0);obtain⟨l,j,m,u⟩:=DZ ds P (k+1) hw (by simpa using s) (λi o B S q t=>by
   obtain⟨f,a,v,c,e,n,p⟩:=hs (i+1) o B S (by exact q) (by rw[show k+(i+1)=k+1+i by lia];exact t);exact⟨f,a,v,c,e,n,by rw[show k+1+i+1=k+(i+1)+1 by lia];exact p⟩)
  refine⟨l,j,?_,by rw[qC9,show k+(ds.length+1)=k+1+ds.length by lia];exact u⟩;unfold Zf;rw[if_pos (hw k B S h0),r];dsimp only;rcases h with h|h
  .rw[h];exact m
  .rw[h];exact m
inductive nz(r:RS)(P:ZT->ZX->Prop):Prop
 |mk (B2:ZT) (S2:ZX) (h:r=.nx B2 S2∨r=.ct B2 S2) (p:P B2 S2)
inductive Tf(g:G)(b:CS)(d:D)(B:ZT)(S:ZX)(P:ZT->ZX->Prop):Prop
 |mk (B1:ZT) (S1:ZX) (e:g d B S=.ok B1 S1) (t:nz (b B1 S1) P)
inductive PV(r:RS)(P:ZT->ZX->Prop):Prop
 |mk (B':ZT) (S':ZX) (e:r=.nx B' S') (p:P B' S')
theorem Ua(P:Nat->ZT->ZX->Prop)(c:∀i B S,P i B S->XQ w S)(m:P 0 B S)
  (hs:∀i d B S,items[i]?=Z9 d->P i B S->Tf g b d B S (P (i+1))):PV (Zf w g b items B S) (P items.length):=by
 obtain⟨n,j,e,p⟩:=DZ items P 0 c m (λi d B S h k=>by
  obtain⟨r,l,s,o,q,a,f⟩:=hs i d B S h (by simpa using k);exact⟨r,l,s,o,q,a,by simpa using f⟩)
 exact⟨n,j,e,by simpa using p⟩
inductive Nt(m:R (yM))(r:yM)(P:ZX->Prop):Prop
 |mk (S':ZX) (e:m=.ok r S') (p:P S')
theorem JW{w:Xm}{t:Xd}{tc:CT}{c:C}{B0:ZT}(P:ZX->Prop)(a:∀S,P S->XQ w S):∀(items:yM) (p:D->Bool) (f:D->D) {S:ZX},P S ->
  (∀d∈items,∀S,P S->∃g,Vy t d B0=Z9 g/\∃e,tc g S=.ok (p d) e/\(p d=Z5->P e)/\(p d=Z7->∃m,c g e=.ok (f d) m/\P m))->Nt (Zo w t tc c B0 items S) ((items.filter p).map f) P
 |[],p,f,S,h0,hs=>⟨S,by unfold Zo;rw[if_pos (a S h0)];rfl,h0⟩
 |d::ds,p,f,S,h0,hs=>by
  obtain⟨g,n,e,q,o,ht⟩:=hs d (by simp) S h0;unfold Zo;rw[if_pos (a S h0),n];dsimp only;rw[Xk,q,XW];cases b:p d with
  |false =>
   obtain⟨i,k,l⟩:=JW P a ds p f (o b) λh j=>hs h (by simp[j]);exact⟨i,by rw[if_neg qB4,k,qI2,b];rfl,l⟩
  |true =>
   obtain⟨m,s,r⟩:=ht b;obtain⟨i,k,l⟩:=JW P a ds p f r λh j=>hs h (by simp[j]);exact⟨i,by rw[if_pos rfl,Xk,s,XW,Xk,k,XW,qI2,b];rfl,l⟩
theorem JV(P:ZX->Prop)(g:∀S,P S->XQ w S)(items:yM)(f:D->D)(n:P S)
  (hs:∀d∈items,∀S,P S->∃b,Vy t d B0=Z9 b/\∃a,c b S=.ok (f d) a/\P a):Nt (Zo w t (λ_=>ret Z7) c B0 items S) (items.map f) P:=by
 obtain⟨i,e,h⟩:=JW (tc:=λ_=>ret Z7) P g items (λ_=>Z7) f n (λd m S h=>by
  obtain⟨b,j,a,k,l⟩:=hs d m S h;exact⟨b,j,S,rfl,(λz=>by cases z),λ_=>⟨a,k,l⟩⟩)
 exact⟨i,by rw[e,qP2.mpr (by simp)],h⟩
theorem Nr{g:Type}(e:g->D){w:Xm}{t:Xd}{tc:CT}{c:C}{B0:ZT}(P:ZX->Prop)(b:∀S,P S->XQ w S)(p:g->Bool)(f:g->D):∀(l:List g) {S:ZX},P S ->
  (∀a∈l,∀S,P S->∃j,Vy t (e a) B0=Z9 j/\∃i,tc j S=.ok (p a) i/\(p a=Z5->P i)/\(p a=Z7->∃r,c j i=.ok (f a) r/\P r))->Nt (Zo w t tc c B0 (l.map e) S) ((l.filter p).map f) P
 |[],S,h0,hs=>⟨S,by rw[qN4];unfold Zo;rw[if_pos (b S h0)];rfl,h0⟩
 |d::ds,S,h0,hs=>by
  obtain⟨j,s,i,v,u,ht⟩:=hs d (by simp) S h0;rw[qB8];unfold Zo;rw[if_pos (b S h0),s];dsimp only;rw[Xk,v,XW];cases h:p d with
  |false =>
   obtain⟨m,o,q⟩:=Nr e P b p f ds (u h) λk n=>hs k (by simp[n]);exact⟨m,by rw[if_neg qB4,o,qI2,h];rfl,q⟩
  |true =>
   obtain⟨r,y,x⟩:=ht h;obtain⟨m,o,q⟩:=Nr e P b p f ds x λk n=>hs k (by simp[n]);exact⟨m,by rw[if_pos rfl,Xk,y,XW,Xk,o,XW,qI2,h];rfl,q⟩
theorem DY{i:Type}(e:i->D)(P:ZX->Prop)(j:∀S,P S->XQ w S)(f:i->D)(l:List i)(q:P S)
  (hs:∀a∈l,∀S,P S->∃g,Vy t (e a) B0=Z9 g/\∃b,c g S=.ok (f a) b/\P b):Nt (Zo w t (λ_=>ret Z7) c B0 (l.map e) S) (l.map f) P:=by
 obtain⟨k,e,h⟩:=Nr e (tc:=λ_=>ret Z7) P j (λ_=>Z7) f l q (λd p S h=>by
  obtain⟨g,m,b,n,o⟩:=hs d p S h;exact⟨g,m,S,rfl,(λz=>by cases z),λ_=>⟨b,n,o⟩⟩)
 exact⟨k,by rw[e,qP2.mpr (by simp)],h⟩
theorem Nq{g:Type}(e:g->D)(j:XQ w S)(p:g->Bool)(f:g->D)(l:List g)
  (hs:∀a∈l,∃d,Vy t (e a) B0=Z9 d/\tc d S=.ok (p a) S/\(p a=Z7->c d S=.ok (f a) S)):Zo w t tc c B0 (l.map e) S=.ok ((l.filter p).map f) S:=by
 obtain⟨b,m,h⟩:=Nr e (λb=>b=S) (λb z=>z▸j) p f l rfl (λa n b z=>by
  subst z;obtain⟨d,o,i,k⟩:=hs a n;exact⟨d,o,b,i,λ_=>rfl,λz=>⟨b,k z,rfl⟩⟩)
 rw[m,h]
theorem Wc{d:Type}(e:d->D)(i:XQ w S)(f:d->D)(l:List d)
  (hs:∀a∈l,∃b,Vy t (e a) B0=Z9 b/\c b S=.ok (f a) S):Zo w t (λ_=>ret Z7) c B0 (l.map e) S=.ok (l.map f) S:=by
 have:=Nq e (tc:=λ_=>ret Z7) i (λ_=>Z7) f l (λa h=>by
  obtain⟨b,j,g⟩:=hs a h;exact⟨b,j,rfl,λ_=>g⟩)
 rw[this,qP2.mpr (by simp)]
theorem JU{t:CT}{b:CS}(P:Nat->ZT->ZX->Prop)(Q:ZT->ZX->Prop)(hs:∀m B S,P m B S->(∃a,t B S=.ok Z5 a/\Q B a)∨∃a,t B S=.ok Z7 a/\∃f g,(b B a=.nx f g∨b B a=.ct f g)/\∃m',m'<m/\P m' f g):
  ∀(k m:Nat) (B:ZT) (S:ZX),m<k->P m B S->∃c d,Vl k t b B S=.nx c d/\Q c d
 |0,m,B,S,hk,h=>absurd hk (qG9 _)
 |k+1,m,B,S,hk,h=>by
  unfold Vl;rcases hs m B S h with⟨a,e,q⟩| ⟨a,e,f,g,i,m',n,l⟩
  .rw[e];exact⟨B,a,rfl,q⟩
  .obtain⟨c,d,j,q⟩:=JU P Q hs k m' f g (by lia) l;rw[e];dsimp only;rcases i with i|i
   .rw[i];exact⟨c,d,j,q⟩
   .rw[i];exact⟨c,d,j,q⟩
def Zd(fs:yA):List (ZI×D):=fs.map λx=>((Sum.inl x:ZI),D.bl Z7)
def YS(fs:yA)(a:Int):yA:=if a∈fs then fs else fs++[a]
theorem ny(fs:yA)(a:Int):((Zd fs).any λc=>decide (c.1=(Sum.inl a:ZI)))=decide (a∈fs):=by
 induction fs with
 |nil=>rfl
 |cons x r b =>
  show(decide ((Sum.inl x:ZI)=Sum.inl a)||(Zd r).any _)=_;rw[b];by_cases h:x=a
  .subst h;simp
  .have:(Sum.inl x:ZI)≠Sum.inl a:=λz=>h (Sum.inl.inj z);simp[this,Ne.symm h]
theorem nv(fs:yA)(a:Int):Yw (Zd fs) (.inl a) (.bl Z7)=Zd (YS fs a):=by
 unfold Yw YS;rw[ny];by_cases h:a∈fs
 .rw[if_pos (by simpa using h),if_pos h];unfold Zd;rw[qC8];refine qF3 λx _=>?_;show(if(Sum.inl x:ZI)=Sum.inl a then((Sum.inl x),D.bl Z7)else(Sum.inl x,D.bl Z7))=_;split<;>rfl
 .rw[if_neg (by simpa using h),if_neg h];unfold Zd;simp
theorem nt(fs:yA)(a:Int):YA (Zd fs) (.inl a)=if a∈fs then Z9 (.bl Z7)else Z8:=by
 unfold YA
 induction fs with
 |nil=>rfl
 |cons x r b =>
  show Option.map _ (List.find? _ (((Sum.inl x),D.bl Z7)::Zd r))=_;rw[qP0];by_cases h:x=a
  .subst h;simp
  .have:(Sum.inl x:ZI)≠Sum.inl a:=λz=>h (Sum.inl.inj z);simp only[this,decide_false];rw[b];simp[Ne.symm h]
theorem JT(h:S[m]?=Z9 (.dk (Zd fs)))(neg:Bool)(a:Int):YL neg (.int a) (.dct m) S=.ok (.bl (if neg then !decide (a∈fs)else decide (a∈fs))) S:=by
 have e:dictAt S m (.int a)=Z9 (if a∈fs then Z9 (.bl Z7)else Z8):=by unfold dictAt;rw[h];show Z9 (YA (Zd fs) (.inl a))=_;rw[nt]
 show(match dictAt S m (.int a)with|some o=>R.ok (D.bl (if neg then !o.isSome else o.isSome)) S|none=>.bad)=_;rw[e];by_cases b:a∈fs
 .simp[b]
 .simp[b]
theorem DX(h:S[m]?=Z9 (.dk (Zd fs)))(b:fs.length<lim)(a:Int):XG (.dct m) (.int a) (.bl Z7) S=Z9 (S.set m (.dk (Zd (YS fs a)))):=by unfold XG;dsimp only;rw[h];show(if(Zd fs).length<lim then Z9 (S.set m (.dk (Yw (Zd fs) (.inl a) (.bl Z7))))else Z8)=_;rw[if_pos (by unfold Zd;rw[qA0];exact b),nv]
theorem DW:x∈YS fs a↔x∈fs∨x=a:=by
 unfold YS;split
 .simp_all
 .simp
@[simp]theorem za1(d:D)(B:ZT):Vy .one d B=Z9 (B.set 0 (Z9 d)):=rfl
@[simp]theorem za0(x y:D)(B:ZT):Vy (.many 2) (.tup [x,y]) B=Z9 ((B.set 0 (Z9 x)).set 1 (Z9 y)):=rfl
@[simp]theorem zcS(k:Nat)(a:List Nat)(B:ZT):Ub k a B=qL2 k Z8++a.map λj=>(B[j]?).getD Z8:=rfl
theorem nr{f e:Nat}{b:CS}{ds:yM}{S:ZX}(h:ds.length=f):Zy f e b ds S=match b (Yh e ds) S with
 |.nx _ a=>.ok .non a
 |.rt d a=>.ok d a
 |.er c a=>.er c a
 |_=>.bad:=by
 unfold Zy;rw[if_pos h]
 all_goals (cases b (Yh e ds) S<;>rfl)
theorem Zg{c a:Nat}{b:CS}{ds:yM}{S S':ZX}{d:D}(h:ds.length=c)(e:b (Yh a ds) S=.rt d S'):Zy c a b ds S=.ok d S':=by rw[nr h,e]
def plain:Nat->D->Bool
 |0,_=>Z5
 |n+1,d=>match d with
  |.int _=>Z7
  |.non=>Z7
  |.str x=>PyData.strOk x
  |.tup a=>a.all (plain n)
  |_=>Z5
theorem nq(h:a=Z7↔b=Z7):a=b:=by simp_all
theorem PU{xs:yM}(h:ZO S k=Z9 xs):Y1 [.lst k,.ty "list"] S=.ok (.bl Z7) S:=by show(match (if(ZO S k).isSome then Z9 "list" else Z8)with|some t=>(if "list"∈["bool","int","tuple","list"]then R.ok (D.bl (Oq t "list")) S else .bad)| none=>.bad)=_;rw[h];rfl
@[simp]theorem zT8(i:Int)(S:ZX):Y1 [.int i,.ty "bool"] S=.ok (.bl Z5) S:=rfl
@[simp]theorem zU2(i:Int)(S:ZX):Y1 [.int i,.ty "int"] S=.ok (.bl Z7) S:=rfl
@[simp]theorem zRM(i:Int)(S:ZX):Y1 [.int i,.ty "tuple"] S=.ok (.bl Z5) S:=rfl
@[simp]theorem zT7(i:Int)(S:ZX):Y1 [.int i,.ty "list"] S=.ok (.bl Z5) S:=rfl
@[simp]theorem zRO(b:Bool)(S:ZX):Y1 [.bl b,.ty "bool"] S=.ok (.bl Z7) S:=rfl
@[simp]theorem zT9(b:Bool)(S:ZX):Y1 [.bl b,.ty "int"] S=.ok (.bl Z7) S:=rfl
@[simp]theorem zQD(b:Bool)(S:ZX):Y1 [.bl b,.ty "tuple"] S=.ok (.bl Z5) S:=rfl
@[simp]theorem zRN(b:Bool)(S:ZX):Y1 [.bl b,.ty "list"] S=.ok (.bl Z5) S:=rfl
@[simp]theorem zNl  (S:ZX):Y1 [.non,.ty "bool"] S=.ok (.bl Z5) S:=rfl
@[simp]theorem zOc  (S:ZX):Y1 [.non,.ty "int"] S=.ok (.bl Z5) S:=rfl
@[simp]theorem zLS  (S:ZX):Y1 [.non,.ty "tuple"] S=.ok (.bl Z5) S:=rfl
@[simp]theorem zNk  (S:ZX):Y1 [.non,.ty "list"] S=.ok (.bl Z5) S:=rfl
@[simp]theorem zT6(x:Str)(S:ZX):Y1 [.str x,.ty "bool"] S=.ok (.bl Z5) S:=rfl
@[simp]theorem zU1(x:Str)(S:ZX):Y1 [.str x,.ty "int"] S=.ok (.bl Z5) S:=rfl
@[simp]theorem zRL(x:Str)(S:ZX):Y1 [.str x,.ty "tuple"] S=.ok (.bl Z5) S:=rfl
@[simp]theorem zT5(x:Str)(S:ZX):Y1 [.str x,.ty "list"] S=.ok (.bl Z5) S:=rfl
@[simp]theorem zQC(xs:yM)(S:ZX):Y1 [.tup xs,.ty "bool"] S=.ok (.bl Z5) S:=rfl
@[simp]theorem zRK(xs:yM)(S:ZX):Y1 [.tup xs,.ty "int"] S=.ok (.bl Z5) S:=rfl
@[simp]theorem zOO(xs:yM)(S:ZX):Y1 [.tup xs,.ty "tuple"] S=.ok (.bl Z7) S:=rfl
@[simp]theorem zQB(xs:yM)(S:ZX):Y1 [.tup xs,.ty "list"] S=.ok (.bl Z5) S:=rfl
@[simp]theorem zbO(xs:yM)(S:ZX):WR (.tup xs) (.int (-1)) S=.ok (.tup xs.reverse) S:=rfl
theorem Np(ns:yA):Wz (ns.map D.int)=Z9 ns:=by
 induction ns with
 |nil=>rfl
 |cons a r b=>show(Wz (r.map D.int)).map (a::·)=_;rw[b];rfl
theorem DV(h:ZO S n=Z9 (a.map D.int))(b:a.length<64):Wx [.lst n] S=.ok (.lst S.length) (S++[.lst ((Wj a).map D.int)]):=by unfold Wx;simp only[h,qQ9,Np,if_pos b]
@[simp]theorem zap(i:Int)(S:ZX):Qe (.int i) [] S=.ok (.int ((Builtin.Int.intBits i:Nat):Int)) S:=rfl
@[simp]theorem zab(i:Int)(S:ZX):XR "int" (.int i) S=Z7:=rfl
theorem Nn(xs:yM)(a:0<=k):Zr xs Z8 (Z9 k)=xs.take k.toNat:=by
 unfold Zr;rw[show k=((k.toNat:Nat):Int) by lia,HT.sIx_nat,HT.sIx_none,Nat.sub_zero,qV5,qE0];by_cases h:k.toNat<=xs.length
 .rw[qO9 h]
 .rw[qU8 (by lia),qK5,qH1 (by lia)]
theorem PR(xs:yM)(a:0<=k):Zr xs (Z9 k) Z8=xs.drop k.toNat:=by
 unfold Zr;rw[show k=(k.toNat:Int) by lia,HT.sIx_nat,HT.sIx_none,qE0];by_cases h:k.toNat<=xs.length
 .rw[qO9 h,qH1 (by simp)]
 .rw[qU8 (by lia),qJ4,qS1,qN0 (by lia)]
theorem Te{k:Type}(e:k->D){w:Xm}{g:G}{b:CS}(P:ZT->ZX->Prop)(R:ZX->Prop)(q:∀B S,P B S->XQ w S)(p:k->Bool)(r:k->D):∀(l:List k) {B:ZT}{S:ZX},P B S ->
  (∀a∈l,∀B S,P B S->∃j i,g (e a) B S=.ok j i/\((p a=Z7/\∃f,b j i=.rt (r a) f/\R f)∨(p a=Z5/\∃o f,(b j i=.nx o f∨b j i=.ct o f)/\P o f))) ->
  (∃a d,l.find? p=Z9 a/\Zf w g b (l.map e) B S=.rt (r a) d/\R d)∨(∃n d,l.find? p=Z8/\Zf w g b (l.map e) B S=.nx n d/\P n d)
 |[],B,S,h0,hs=>.inr ⟨B,S,rfl,by rw[qN4];unfold Zf;rw[if_pos (q B S h0)],h0⟩
 |a::l,B,S,h0,hs=>by
  obtain⟨j,i,s,h⟩:=hs a (by simp) B S h0;rw[qB8];unfold Zf;rw[if_pos (q B S h0),s];dsimp only;rcases h with⟨m,f,c,v⟩| ⟨m,o,f,c,t⟩
  .exact .inl ⟨a,f,by rw[qP0,m],by rw[c],v⟩
  .rcases Te e P R q p r l t (λa u=>hs a (by simp[u]))with⟨a',d,f1,f2,f3⟩| ⟨n,d,f1,f2,f3⟩
   .exact .inl ⟨a',d,by rw[qP0,m];exact f1,by rcases c with c|c<;>rw[c]<;>exact f2,f3⟩
   .exact .inr ⟨n,d,by rw[qP0,m];exact f1,by rcases c with c|c<;>rw[c]<;>exact f2,f3⟩
end L2
namespace My
open PySem L2
def Nm(cl:ZR):CS :=
 (ZV (ZL (Tx (ZS Y1 (ZQ [(ZY 0),(ZW (.ty "int"))])) (Qk (ZS Y1 (ZQ [(ZY 0),(ZW (.ty "bool"))])))))
  ZF)
def JS(cl:Nat->ZR):Prop:=∀n,cl (n+1) "is_whole"=Zy 1 1 (Nm (cl n))
def PQ(cl:ZR):CS :=
 (ZV (ZL (Tx (ZS (cl "is_whole") (ZQ [(ZY 0)])) (Sw (XH λi j=>decide (i<=j)) (XH λi j=>decide (i<=j)) (ZW (.int 0)) (ZY 0) (ZW (.int 1)))))
  ZF)
def DU(cl:Nat->ZR):Prop:=∀n,cl (n+1) "is_bit"=Zy 1 1 (PQ (cl n))
def JR(cl:ZR):C :=
 (ZU Zx (Y9 (ZQ [(ZW (.int 0))])) (ZY 0))
def JQ(cl:ZR):C :=
 (ZU Zx (Y9 (ZQ [(ZW (.int 1))])) (ZY 0))
def JP(cl:ZR):CS :=
 (ZV (ZE (ZU Zx (Yv (Zw (ZY 1)) 1 [] .one (λ_=>ret Z7) (JR cl)) (Yv (Zw (ZY 1)) 1 [] .one (λ_=>ret Z7) (JQ cl))) (gN 1))
  ZF)
def Nl(cl:ZR):CS :=
 (ZV (ZE (Y8 (ZQ [(Y9 (ZQ []))])) (gN 1))
  (ZV (Ze (VX (ZQ [(ZY 0)])) (gN 2) (JP cl))
  (ZV (ZL (ZY 1))
  ZF)))
def PP(cl:Nat->ZR):Prop:=∀n,cl (n+1) "settings"=Zy 1 3 (Nl (cl n))
def Nj(cl:ZR):CS :=
 (ZV (ZL (ZU Xx (ZU Zp (ZY 1) (ZU Zp (ZY 0) (ZW (.int 2)))) (ZU Zp (ZY 0) (ZW (.int 3)))))
  ZF)
def PN(cl:Nat->ZR):Prop:=∀n,cl (n+1) "is_shut"=Zy 2 2 (Nj (cl n))
def Ni(cl:ZR):CS :=
 (ZV (X6 (YH (ZU Wk (ZU (YL Z5) (ZU Zp (ZY 4) (ZW (.int 0))) (ZY 2)) (ZU (YL Z5) (ZU Zp (ZY 4) (ZW (.int 1))) (ZY 2)))) (ZV (ZE (ZW (.bl Z7)) (gS (ZY 2) (ZU Zp (ZY 4) (ZW (.int 0)))))
  (ZV (ZE (ZW (.bl Z7)) (gS (ZY 2) (ZU Zp (ZY 4) (ZW (.int 1)))))
  (ZV (ZE (ZW (.bl Z7)) (gN 3))
  ZF))) ZF)
  ZF)
def Nh(cl:ZR):CS :=
 (ZV (ZE (ZW (.bl Z5)) (gN 3))
  (ZV (Ze (Zw (ZY 1)) (gN 4) (Ni cl))
  ZF))
def Ng(cl:ZR):CS :=
 (ZV (ZE (ND (ZY 0) (ZW (.bl Z7))) (gN 2))
  (ZV (ZE (ZW (.bl Z7)) (gN 3))
  (ZV (Vl Sf (Y7 (ZY 3)) (Nh cl))
  (ZV (ZL (ZY 2))
  ZF))))
def Rl(cl:Nat->ZR):Prop:=∀n,cl (n+1) "places_from"=Zy 2 5 (Ng (cl n))
def Nf(cl:ZR):CS :=
 (ZV (ZL (ZU (YL Z5) (ZW (.int 1)) (ZS (cl "places_from") (ZQ [(ZW (.int 0)),(ZY 0)]))))
  ZF)
def Nd(cl:Nat->ZR):Prop:=∀n,cl (n+1) "joins"=Zy 1 1 (Nf (cl n))
def JO(cl:ZR):CT :=
 (Y7 (ZS (cl "is_shut") (ZQ [(ZY 0),(ZY 1)])))
def JN(cl:ZR):C :=
 (ZY 0)
def Nc(cl:ZR):CS :=
 (ZV (ZL (Yv (Zw (ZU Zp (ZY 0) (ZW (.int 2)))) 1 [1] .one (JO cl) (JN cl)))
  ZF)
def Nb(cl:Nat->ZR):Prop:=∀n,cl (n+1) "shut_contacts"=Zy 2 2 (Nc (cl n))
def Na(cl:ZR):CS :=
 (ZV (ZL (ZS (cl "joins") (ZQ [(ZS (cl "shut_contacts") (ZQ [(ZY 0),(ZY 1)]))])))
  ZF)
def JM(cl:Nat->ZR):Prop:=∀n,cl (n+1) "lets"=Zy 2 2 (Na (cl n))
def JL(cl:ZR):C :=
 (ZS (cl "is_bit") (ZQ [(ZY 0)]))
def Td(cl:ZR):CS :=
 (ZV (X6 (X7 (W2 (Y7 (ZS Y1 (ZQ [(ZY 1),(ZW (.ty "tuple"))])))) (YH (ZU Wk (ZS Zi (ZQ [(ZY 1)])) (ZS Zi (ZQ [(ZS (cl "settings") (ZQ [(ZY 0)]))]))))) (ZV (ZL (ZW (.bl Z5)))
  ZF) ZF)
  (ZV (ZL (ZS (Ye λbs=>bs.all id) (ZQ [(Yv (Zw (ZY 1)) 1 [] .one (λ_=>ret Z7) (JL cl))])))
  ZF))
def nj(cl:Nat->ZR):Prop:=∀n,cl (n+1) "is_function"=Zy 2 2 (Td (cl n))
def JK(cl:ZR):C :=
 (RC (Y7 (ZS (cl "lets") (ZQ [(ZY 1),(ZY 0)]))) (ZW (.int 1)) (ZW (.int 0)))
def M9(cl:ZR):CS :=
 (ZV (ZL (ZS Xn (ZQ [(Yv (Zw (ZS (cl "settings") (ZQ [(ZU Zp (ZY 0) (ZW (.int 0)))]))) 1 [0] .one (λ_=>ret Z7) (JK cl))])))
  ZF)
def DT(cl:Nat->ZR):Prop:=∀n,cl (n+1) "function_of"=Zy 1 1 (M9 (cl n))
def PM(cl:ZR):CS :=
 (ZV (ZL (ZU (Zl λi j=>i - j) (NO "int" Qe (ZS Zi (ZQ [(ZY 0)]))) (ZW (.int 1))))
  ZF)
def DS(cl:Nat->ZR):Prop:=∀n,cl (n+1) "switches_of"=Zy 1 1 (PM (cl n))
def DR(cl:ZR):C :=
 (ZU (Zl jT) (ZY 0) (ZY 1))
def JI(cl:ZR):CS :=
 (ZV (ZL (ZS Xn (ZQ [(Yv (Uc (ZQ [(ZY 0),(ZY 1)])) 2 [] (.many 2) (λ_=>ret Z7) (DR cl))])))
  ZF)
def DQ(cl:Nat->ZR):Prop:=∀n,cl (n+1) "where_both"=Zy 2 2 (JI (cl n))
def DP(cl:ZR):C :=
 (ZU (Zl vZ) (ZY 0) (ZY 1))
def JH(cl:ZR):CS :=
 (ZV (ZL (ZS Xn (ZQ [(Yv (Uc (ZQ [(ZY 0),(ZY 1)])) 2 [] (.many 2) (λ_=>ret Z7) (DP cl))])))
  ZF)
def DO(cl:Nat->ZR):Prop:=∀n,cl (n+1) "where_either"=Zy 2 2 (JH (cl n))
def M8(cl:ZR):CS :=
 (ZV (ZL (Y9 (ZQ [(ZY 0),(ZW (.int 2)),(Y9 (ZQ [(Y9 (ZQ [(ZW (.int 0)),(ZW (.int 1)),(ZU Zp (ZY 1) (ZW (.int 1))),(ZU Zp (ZY 1) (ZW (.int 2)))]))]))])))
  ZF)
def DN(cl:Nat->ZR):Prop:=∀n,cl (n+1) "lone_net"=Zy 2 2 (M8 (cl n))
def PL(cl:ZR):CS :=
 (ZV (ZE (ZS (cl "tree_function") (ZQ [(ZY 0),(ZY 3)])) (gN 4))
  (ZV (ZE (RC (YH (ZU Xx (ZU Zp (ZY 1) (ZW (.int 0))) (ZW (.str (Str.ofString "row"))))) (ZS (cl "where_both") (ZQ [(ZY 2),(ZY 4)])) (ZS (cl "where_either") (ZQ [(ZY 2),(ZY 4)]))) (gN 2))
  ZF))
def Sd(cl:ZR):CS :=
 (ZV (X6 (YH (ZU Xx (ZU Zp (ZY 1) (ZW (.int 0))) (ZW (.str (Str.ofString "at"))))) (ZV (ZL (ZS (cl "function_of") (ZQ [(ZS (cl "lone_net") (ZQ [(ZY 0),(ZY 1)]))])))
  ZF) ZF)
  (ZV (ZE (ZS (cl "tree_function") (ZQ [(ZY 0),(ZU Zp (ZU Zp (ZY 1) (ZW (.int 1))) (ZW (.int 0)))])) (gN 2))
  (ZV (Ze (Zw (Xe Yn (ZU Zp (ZY 1) (ZW (.int 1))) (Xf (ZW (.int 1))) Xg)) (gN 3) (PL cl))
  (ZV (ZL (ZY 2))
  ZF))))
def ni(cl:Nat->ZR):Prop:=∀n,cl (n+1) "tree_function"=Zy 2 5 (Sd (cl n))
def PK(cl:ZR):CS :=
 (ZV (ZE (ZU Zx (ZU Xo (ZY 1) (ZW (.int 2))) (ZY 2)) (gN 1))
  ZF)
def PJ(cl:ZR):CS :=
 (ZV (ZE (ZW (.int 0)) (gN 1))
  (ZV (Ze (Zw (ZY 0)) (gN 2) (PK cl))
  (ZV (ZL (ZY 1))
  ZF)))
def M7(cl:Nat->ZR):Prop:=∀n,cl (n+1) "number_of"=Zy 1 3 (PJ (cl n))
def PH(cl:ZR):CS :=
 (ZV (ZE (Y9 (ZQ [(ZW (.str (Str.ofString "at"))),(ZY 2),(ZY 3)])) (gN 4))
  (ZV (ZE (ZY 4) (gS (ZY 1) (ZS (cl "number_of") (ZQ [(ZS (cl "tree_function") (ZQ [(ZY 0),(ZY 4)]))]))))
  ZF))
def M6(cl:ZR):CS :=
 (ZV (Ze (Zw (Y9 (ZQ [(ZW (.int 0)),(ZW (.int 1))]))) (gN 3) (PH cl))
  ZF)
def PF(cl:ZR):CS :=
 (ZV (ZE Ru (gN 1))
  (ZV (Ze (VX (ZQ [(ZY 0)])) (gN 2) (M6 cl))
  (ZV (ZL (ZY 1))
  ZF)))
def DM(cl:Nat->ZR):Prop:=∀n,cl (n+1) "first_level"=Zy 1 5 (PF (cl n))
def PD(cl:ZR):C :=
 (ZU V2 (ZY 0) (ZY 1))
def PC(cl:ZR):C :=
 (ZS (cl "is_function") (ZQ [(ZY 1),(ZY 0)]))
def T9(cl:ZR):CS :=
 (ZV (X6 (X7 (W2 (Y7 (ZS Y1 (ZQ [(ZY 1),(ZW (.ty "list"))])))) (W2 (Y7 (ZS (Ye λbs=>bs.all id) (ZQ [(Yv (Zw (ZY 1)) 1 [0] .one (λ_=>ret Z7) (PC cl))]))))) (ZV (ZL (ZW (.bl Z5)))
  ZF) ZF)
  (ZV (ZL (ZS (Ye λbs=>bs.all id) (ZQ [(Yv (Uc (ZQ [(ZY 1),(Xe Yn (ZY 1) (Xf (ZW (.int 1))) Xg)])) 2 [] (.many 2) (λ_=>ret Z7) (PD cl))])))
  ZF))
def DK(cl:Nat->ZR):Prop:=∀n,cl (n+1) "is_rising_list"=Zy 2 2 (T9 (cl n))
def Rk(cl:ZR):CS :=
 (ZV (X6 (X7 (YH (ZU (YL Z7) (ZU (Zl jT) (ZY 3) (ZY 4)) (ZY 0))) (YH (ZU (YL Z7) (ZU (Zl vZ) (ZY 3) (ZY 4)) (ZY 0)))) (ZV (ZL (ZW (.bl Z5)))
  ZF) ZF)
  ZF)
def Rj(cl:ZR):CS :=
 (ZV (Ze (Zw (ZY 2)) (gN 4) (Rk cl))
  ZF)
def PB(cl:ZR):CS :=
 (ZV (Ze (Zw (ZY 1)) (gN 3) (Rj cl))
  (ZV (ZL (ZW (.bl Z7)))
  ZF))
def DJ(cl:Nat->ZR):Prop:=∀n,cl (n+1) "has_all_made"=Zy 3 5 (PB (cl n))
def Tc(cl:ZR):CS :=
 (ZV (X6 (W2 (Y7 (ZS (cl "has_all_made") (ZQ [(ZY 1),(ZU Zp (ZY 0) (ZY 3)),(ZU Zp (ZY 0) (ZU (Zl λi j=>i - j) (ZU (Zl λi j=>i - j) (ZS Zi (ZQ [(ZY 0)])) (ZW (.int 1))) (ZY 3)))])))) (ZV (ZL (ZW (.bl Z5)))
  ZF) ZF)
  ZF)
def Pz(cl:ZR):C :=
 (ZU (YL Z5) (ZY 0) (ZY 1))
def Ta(cl:ZR):CS :=
 (ZV (X6 (W2 (Y7 (ZY 0))) (ZV (ZL (ZS (Ye λbs=>bs.all id) (ZQ [(Yv (Zw (ZS (cl "first_level") (ZQ [(ZY 2)]))) 1 [1] .one (λ_=>ret Z7) (Pz cl))])))
  ZF) ZF)
  (ZV (Ze (VX (ZQ [(ZU WU (ZU Zx (ZS Zi (ZQ [(ZY 0)])) (ZW (.int 1))) (ZW (.int 2)))])) (gN 3) (Tc cl))
  (ZV (ZL (ZW (.bl Z7)))
  ZF)))
def nh(cl:Nat->ZR):Prop:=∀n,cl (n+1) "goes_on"=Zy 3 4 (Ta (cl n))
def Ri(cl:ZR):C :=
 (Y9 (ZQ [(ZS (cl "number_of") (ZQ [(ZY 0)])),(ZW (.bl Z7))]))
def VP(cl:ZR):CS :=
 (ZV (X6 (W2 (Y7 (ZS (cl "is_rising_list") (ZQ [(ZY 2),(ZY 4)])))) (ZV (ZL (ZW (.bl Z5)))
  ZF) ZF)
  (ZV (ZE (ZS Wi (ZQ [(Yv (Zw (ZY 4)) 1 [] .one (λ_=>ret Z7) (Ri cl))])) (gN 5))
  (ZV (X6 (X7 (YH (ZU (YL Z5) (ZS (cl "number_of") (ZQ [(ZY 0)])) (ZY 5))) (W2 (Y7 (ZS (cl "goes_on") (ZQ [(ZY 3),(ZY 5),(ZY 2)]))))) (ZV (ZL (ZW (.bl Z5)))
  ZF) ZF)
  (ZV (Vm (UZ "list" (W6 WE) (ZY 3) (ZQ [(ZY 5)])))
  ZF))))
def Sb(cl:ZR):CS :=
 (ZV (X6 (W2 (Y7 (ZS Y1 (ZQ [(ZY 1),(ZW (.ty "tuple"))])))) (ZV (ZL (ZW (.bl Z5)))
  ZF) ZF)
  (ZV (ZE (ZS (cl "switches_of") (ZQ [(ZY 0)])) (gN 2))
  (ZV (ZE (Y8 (ZQ [])) (gN 3))
  (ZV (Ze (Zw (ZY 1)) (gN 4) (VP cl))
  (ZV (ZL (ZW (.bl Z7)))
  ZF)))))
def ng(cl:Nat->ZR):Prop:=∀n,cl (n+1) "is_paper"=Zy 2 6 (Sb (cl n))
def Py(cl:ZR):CS :=
 (ZV (X6 (YH (ZU V2 (ZY 1) (ZS Zi (ZQ [(ZY 0)])))) (ZV (ZL (ZU Zp (ZY 0) (ZY 1)))
  ZF) ZF)
  (ZV (ZL (ZW (.int 0)))
  ZF))
def JG(cl:Nat->ZR):Prop:=∀n,cl (n+1) "_law_cell_at"=Zy 2 2 (Py (cl n))
def Px(cl:ZR):CS :=
 (ZV (ZE (ZS (cl "_law_cell_at") (ZQ [(ZY 0),(ZY 1)])) (gN 2))
  (ZV (X6 (YH (ZU (XH λi j=>decide (j<=i)) (ZY 2) (ZU VC (ZW (.int 10)) (ZW (.int 18))))) (ZV (ZL (Y8 (ZQ [(ZU (Zl λi j=>i - j) (ZY 2) (ZU VC (ZW (.int 10)) (ZW (.int 18)))),(ZW (.bl Z7))])))
  ZF) ZF)
  (ZV (ZL (Y8 (ZQ [(ZU W7 (ZY 2) (ZW (.int 2147483647))),(ZW (.bl Z5))])))
  ZF)))
def DI(cl:Nat->ZR):Prop:=∀n,cl (n+1) "_law_state"=Zy 2 3 (Px (cl n))
def Pw(cl:ZR):CS :=
 (ZV (X6 (Y7 (ZU Zp (ZY 0) (ZW (.int 1)))) (ZV (ZE (ZU W7 (ZU Zp (ZY 0) (ZW (.int 0))) (ZY 1)) (gN 2))
  (ZV (ZE (ZU WU (ZU Zp (ZY 0) (ZW (.int 0))) (ZY 1)) (gS (ZY 0) (ZW (.int 0))))
  (ZV (ZL (ZY 2))
  ZF))) ZF)
  (ZV (ZE (ZU W7 (ZU Zx (ZU Xo (ZU Zp (ZY 0) (ZW (.int 0))) (ZW (.int 48271))) (ZW (.int 29))) (ZW (.int 2147483647))) (gS (ZY 0) (ZW (.int 0))))
  (ZV (ZE (ZU W7 (ZU Zx (ZU Zx (ZU Xo (ZU Zp (ZY 0) (ZW (.int 0))) (ZU Zp (ZY 0) (ZW (.int 0)))) (ZU Xo (ZW (.int 39373)) (ZU Zp (ZY 0) (ZW (.int 0))))) (ZW (.int 7))) (ZW (.int 2147483629))) (gN 3))
  (ZV (ZE (ZU W7 (ZU Zx (ZU Xo (ZY 3) (ZY 3)) (ZU Xo (ZW (.int 16807)) (ZY 3))) (ZW (.int 2147483587))) (gN 3))
  (ZV (ZL (ZU W7 (ZU WU (ZY 3) (ZW (.int 8))) (ZY 1)))
  ZF)))))
def JF(cl:Nat->ZR):Prop:=∀n,cl (n+1) "_law_take"=Zy 2 4 (Pw (cl n))
def JE(cl:ZR):C :=
 (ZU (Zl jT) (ZU VB (ZY 1) (ZU (Zl λi j=>i - j) (ZU (Zl λi j=>i - j) (ZY 2) (ZW (.int 1))) (ZY 0))) (ZW (.int 1)))
def JD(cl:ZR):CS :=
 (ZV (Vm (UZ "list" (W6 WE) (ZY 1) (ZQ [(ZS Xn (ZQ [(Yv (VX (ZQ [(ZY 0)])) 1 [2,0] .one (λ_=>ret Z7) (JE cl))]))])))
  ZF)
def M5(cl:ZR):CS :=
 (ZV (ZE (Y8 (ZQ [])) (gN 1))
  (ZV (Ze (VX (ZQ [(ZU Yx (ZW (.int 1)) (ZY 0))])) (gN 2) (JD cl))
  (ZV (ZL (ZY 1))
  ZF)))
def M4(cl:Nat->ZR):Prop:=∀n,cl (n+1) "_law_settings"=Zy 1 3 (M5 (cl n))
def Pv(cl:ZR):C :=
 (ZS Vz (ZQ [(ZU Xx (ZU Zp (ZY 0) (ZY 1)) (ZY 2))]))
def Pu(cl:ZR):CS :=
 (ZV (Vm (UZ "list" (W6 WE) (ZY 1) (ZQ [(ZS Xn (ZQ [(Yv (Zw (ZS (cl "_law_settings") (ZQ [(ZY 0)]))) 1 [2,3] .one (λ_=>ret Z7) (Pv cl))]))])))
  ZF)
def M3(cl:ZR):CS :=
 (ZV (Ze (Zw (Y9 (ZQ [(ZW (.int 0)),(ZW (.int 1))]))) (gN 3) (Pu cl))
  ZF)
def Pt(cl:ZR):CS :=
 (ZV (ZE (Y8 (ZQ [])) (gN 1))
  (ZV (Ze (VX (ZQ [(ZY 0)])) (gN 2) (M3 cl))
  (ZV (ZL (ZY 1))
  ZF)))
def DH(cl:Nat->ZR):Prop:=∀n,cl (n+1) "_law_singles"=Zy 1 4 (Pt (cl n))
def M2(cl:ZR):CS :=
 (ZV (ZE (ZU Zx (ZU Xo (ZW (.int 2)) (ZY 1)) (ZY 2)) (gN 1))
  ZF)
def Pr(cl:ZR):CS :=
 (ZV (ZE (ZW (.int 0)) (gN 1))
  (ZV (Ze (Zw (ZY 0)) (gN 2) (M2 cl))
  (ZV (ZL (ZY 1))
  ZF)))
def M1(cl:Nat->ZR):Prop:=∀n,cl (n+1) "_law_number_of"=Zy 1 3 (Pr (cl n))
def Sa(cl:ZR):CS :=
 (ZV (X6 (YH (ZU (YL Z7) (ZY 8) (ZY 2))) (ZV (ZE (ZY 3) (gS (ZY 4) (ZY 8)))
  ZF) ZF)
  ZF)
def Pq(cl:ZR):CS :=
 (ZV (Ze (Zw (Y9 (ZQ [(ZU (Zl jT) (ZY 6) (ZY 7)),(ZU (Zl vZ) (ZY 6) (ZY 7))]))) (gN 8) (Sa cl))
  ZF)
def M0(cl:ZR):CS :=
 (ZV (Ze (Zw (ZU Zp (ZY 1) (ZU (Zl λi j=>i - j) (ZU (Zl λi j=>i - j) (ZY 3) (ZY 5)) (ZW (.int 1))))) (gN 7) (Pq cl))
  ZF)
def Pp(cl:ZR):CS :=
 (ZV (Ze (Zw (ZU Zp (ZY 1) (ZU (Zl λi j=>i - j) (ZY 5) (ZW (.int 1))))) (gN 6) (M0 cl))
  ZF)
def Po(cl:ZR):CS :=
 (ZV (ZE (ZU Zx (ZS Zi (ZQ [(ZY 1)])) (ZW (.int 1))) (gN 3))
  (ZV (ZE Ru (gN 4))
  (ZV (Ze (NL (ZQ [(ZW (.int 1)),(ZU Zx (ZU WU (ZY 3) (ZW (.int 2))) (ZW (.int 1)))])) (gN 5) (Pp cl))
  (ZV (Vm (UZ "dict" VY (ZY 2) (ZQ [(ZY 4)])))
  (ZV (Vm (UZ "list" (W6 WE) (ZY 1) (ZQ [(ZS Wx (ZQ [(ZY 4)]))])))
  ZF)))))
def MZ(cl:ZR):C :=
 (Y9 (ZQ [(ZY 0),(ZW (.int 1))]))
def MY(cl:ZR):C :=
 (ZS (cl "_law_number_of") (ZQ [(ZY 0)]))
def Pn(cl:ZR):CS :=
 (ZV (ZE (Y8 (ZQ [(ZS Wx (ZQ [(Yv (Zw (ZS (cl "_law_singles") (ZQ [(ZY 0)]))) 1 [] .one (λ_=>ret Z7) (MY cl))]))])) (gN 1))
  (ZV (ZE (ZS Wi (ZQ [(Yv (Zw (ZU Zp (ZY 1) (ZW (.int 0)))) 1 [] .one (λ_=>ret Z7) (MZ cl))])) (gN 2))
  (ZV (Vl Sf (YH (ZU V2 (ZS Zi (ZQ [(ZY 2)])) (ZU Yx (ZW (.int 1)) (ZU Yx (ZW (.int 1)) (ZY 0))))) (Po cl))
  (ZV (ZL (ZY 1))
  ZF))))
def nc(cl:Nat->ZR):Prop:=∀n,cl (n+1) "_law_levels"=Zy 1 9 (Pn (cl n))
def Pm(cl:ZR):C :=
 (ZU (Zl jT) (ZU VB (ZY 1) (ZU (Zl λi j=>i - j) (ZU (Zl λi j=>i - j) (ZY 2) (ZW (.int 1))) (ZY 0))) (ZW (.int 1)))
def Pl(cl:ZR):CS :=
 (ZV (ZE (ZU Yx (ZW (.int 1)) (ZY 0)) (gN 2))
  (ZV (ZL (ZS Xn (ZQ [(Yv (VX (ZQ [(ZY 2)])) 1 [1,2] .one (λ_=>ret Z7) (Pm cl))])))
  ZF))
def MX(cl:Nat->ZR):Prop:=∀n,cl (n+1) "_law_bits"=Zy 2 3 (Pl (cl n))
def Pk(cl:ZR):CT :=
 (YH (ZU (YL Z5) (ZY 2) (ZY 1)))
def Pj(cl:ZR):C :=
 (ZY 0)
def Pi(cl:ZR):CS :=
 (ZV (ZE (ZS (cl "_law_number_of") (ZQ [(ZY 1)])) (gN 2))
  (ZV (ZL (ZU Zx (ZU Zp (Yv (Qb (ZQ [(ZY 0)])) 2 [2] (.many 2) (Pk cl) (Pj cl)) (ZW (.int 0))) (ZW (.int 1))))
  ZF))
def DG(cl:Nat->ZR):Prop:=∀n,cl (n+1) "_law_fewest"=Zy 2 3 (Pi (cl n))
def Ph(cl:ZR):C :=
 (ZS (cl "_law_take") (ZQ [(ZY 1),(ZW (.int 2))]))
def Pg(cl:ZR):CS :=
 (ZV (ZL (ZS Xn (ZQ [(Yv (VX (ZQ [(ZU Yx (ZW (.int 1)) (ZY 1))])) 1 [0] .one (λ_=>ret Z7) (Ph cl))])))
  ZF)
def DE(cl:Nat->ZR):Prop:=∀n,cl (n+1) "_law_some_function"=Zy 2 2 (Pg (cl n))
def Rh(cl:ZR):C :=
 (Tx (ZS Y1 (ZQ [(ZY 0),(ZW (.ty "int"))])) (Tx (Qk (ZS Y1 (ZQ [(ZY 0),(ZW (.ty "bool"))]))) (ZU (YL Z5) (ZY 0) (Y9 (ZQ [(ZW (.int 0)),(ZW (.int 1))])))))
def T8(cl:ZR):CS :=
 (ZV (X6 (X7 (W2 (Y7 (ZS Y1 (ZQ [(ZY 1),(ZW (.ty "tuple"))])))) (YH (ZU Wk (ZS Zi (ZQ [(ZY 1)])) (ZU Yx (ZW (.int 1)) (ZY 0))))) (ZV (ZL (ZW (.bl Z5)))
  ZF) ZF)
  (ZV (ZL (ZS (Ye λbs=>bs.all id) (ZQ [(Yv (Zw (ZY 1)) 1 [] .one (λ_=>ret Z7) (Rh cl))])))
  ZF))
def JC(cl:Nat->ZR):Prop:=∀n,cl (n+1) "_law_is_function"=Zy 2 2 (T8 (cl n))
def Pf(cl:ZR):C :=
 (ZU V2 (ZY 0) (ZY 1))
def Pe(cl:ZR):C :=
 (ZS (cl "_law_is_function") (ZQ [(ZY 1),(ZY 0)]))
def UW(cl:ZR):CS :=
 (ZV (X6 (X7 (W2 (Y7 (ZS Y1 (ZQ [(ZY 1),(ZW (.ty "list"))])))) (X7 (YH (ZU Xx (ZY 1) (Y8 (ZQ [])))) (W2 (Y7 (ZS (Ye λbs=>bs.all id) (ZQ [(Yv (Zw (ZY 1)) 1 [0] .one (λ_=>ret Z7) (Pe cl))])))))) (ZV (ZL (ZW (.bl Z5)))
  ZF) ZF)
  (ZV (ZL (ZS (Ye λbs=>bs.all id) (ZQ [(Yv (Uc (ZQ [(ZY 1),(Xe Yn (ZY 1) (Xf (ZW (.int 1))) Xg)])) 2 [] (.many 2) (λ_=>ret Z7) (Pf cl))])))
  ZF))
def DD(cl:Nat->ZR):Prop:=∀n,cl (n+1) "_law_is_list"=Zy 2 2 (UW (cl n))
def Rg(cl:ZR):CS :=
 (ZV (X6 (X7 (YH (ZU (YL Z7) (ZU (Zl jT) (ZY 3) (ZY 4)) (ZY 0))) (YH (ZU (YL Z7) (ZU (Zl vZ) (ZY 3) (ZY 4)) (ZY 0)))) (ZV (ZL (ZW (.bl Z5)))
  ZF) ZF)
  ZF)
def Rf(cl:ZR):CS :=
 (ZV (Ze (Zw (ZY 2)) (gN 4) (Rg cl))
  ZF)
def Pc(cl:ZR):CS :=
 (ZV (Ze (Zw (ZY 1)) (gN 3) (Rf cl))
  (ZV (ZL (ZW (.bl Z7)))
  ZF))
def DC(cl:Nat->ZR):Prop:=∀n,cl (n+1) "_law_has_all"=Zy 3 5 (Pc (cl n))
def T7(cl:ZR):CS :=
 (ZV (X6 (W2 (Y7 (ZS (cl "_law_has_all") (ZQ [(ZY 6),(ZU Zp (ZY 3) (ZY 7)),(ZU Zp (ZY 3) (ZU (Zl λi j=>i - j) (ZU (Zl λi j=>i - j) (ZY 5) (ZY 7)) (ZW (.int 1))))])))) (ZV (ZL (ZW (.bl Z5)))
  ZF) ZF)
  ZF)
def Pb(cl:ZR):C :=
 (ZU (YL Z5) (ZS (cl "_law_number_of") (ZQ [(ZY 0)])) (ZY 1))
def UV(cl:ZR):CS :=
 (ZV (X6 (Qj (YH (ZU Xx (ZY 5) (ZW (.int 0)))) (W2 (Y7 (ZS (Ye λbs=>bs.all id) (ZQ [(Yv (Zw (ZS (cl "_law_singles") (ZQ [(ZY 0)]))) 1 [6] .one (λ_=>ret Z7) (Pb cl))]))))) (ZV (ZL (ZW (.bl Z5)))
  ZF) ZF)
  (ZV (Ze (VX (ZQ [(ZU WU (ZU Zx (ZY 5) (ZW (.int 1))) (ZW (.int 2)))])) (gN 7) (T7 cl))
  ZF))
def Re(cl:ZR):CT :=
 (YH (ZU (YL Z5) (ZS (cl "_law_number_of") (ZQ [(ZY 1)])) (ZY 0)))
def Pa(cl:ZR):C :=
 (ZY 0)
def MW(cl:ZR):C :=
 (Y9 (ZQ [(ZY 0),(ZW (.bl Z7))]))
def Rc(cl:ZR):C :=
 (ZS Wi (ZQ [(Yv (Zw (ZY 0)) 1 [] .one (λ_=>ret Z7) (MW cl))]))
def MV(cl:ZR):C :=
 (ZS (cl "_law_number_of") (ZQ [(ZY 0)]))
def Rb(cl:ZR):C :=
 (Yv (Zw (ZY 0)) 1 [] .one (λ_=>ret Z7) (MV cl))
def Ra(cl:ZR):C :=
 (ZS (cl "_law_is_list") (ZQ [(ZY 1),(ZY 0)]))
def Vk(cl:ZR):CS :=
 (ZV (X6 (X7 (W2 (Y7 (ZS Y1 (ZQ [(ZY 2),(ZW (.ty "tuple"))])))) (W2 (Y7 (ZS (Ye λbs=>bs.all id) (ZQ [(Yv (Zw (ZY 2)) 1 [0] .one (λ_=>ret Z7) (Ra cl))]))))) (ZV (ZL (ZW (.bl Z5)))
  ZF) ZF)
  (ZV (ZE (Yv (Zw (ZY 2)) 1 [] .one (λ_=>ret Z7) (Rb cl)) (gN 3))
  (ZV (ZE (Yv (Zw (ZY 3)) 1 [] .one (λ_=>ret Z7) (Rc cl)) (gN 4))
  (ZV (X6 (YH (ZU Wk (Yv (Zw (ZY 4)) 1 [1] .one (Re cl) (Pa cl)) (Y8 (ZQ [])))) (ZV (ZL (ZW (.bl Z5)))
  ZF) ZF)
  (ZV (Ze (Qb (ZQ [(ZY 4)])) (gT [(gN 5),(gN 6)]) (UV cl))
  (ZV (ZL (ZW (.bl Z7)))
  ZF))))))
def m6(cl:Nat->ZR):Prop:=∀n,cl (n+1) "_law_is_paper"=Zy 3 8 (Vk (cl n))
def MU(cl:ZR):C :=
 (ZS (cl "_law_bits") (ZQ [(ZY 1),(ZY 0)]))
def Q9(cl:ZR):CS :=
 (ZV (ZE (ZS Wx (ZQ [(ZU Zx (ZY 4) (ZY 5))])) (gN 4))
  (ZV (Vm (UZ "list" (W6 WE) (ZY 3) (ZQ [(Yv (Zw (ZY 4)) 1 [0] .one (λ_=>ret Z7) (MU cl))])))
  ZF))
def O9(cl:ZR):CS :=
 (ZV (ZE (Y8 (ZQ [])) (gN 3))
  (ZV (ZE (Y8 (ZQ [])) (gN 4))
  (ZV (Ze (Zw (Xe Yn (ZY 1) Xg (Xf (ZY 2)))) (gN 5) (Q9 cl))
  (ZV (ZL (ZS Xn (ZQ [(ZY 3)])))
  ZF))))
def DB(cl:Nat->ZR):Prop:=∀n,cl (n+1) "_law_paper"=Zy 3 6 (O9 (cl n))
def O8(cl:ZR):CS :=
 (ZV (ZE (ZS (cl "_law_take") (ZQ [(ZY 0),(ZS Zi (ZQ [(ZY 2)]))])) (gN 3))
  (ZV (ZE (ZS (cl "_law_some_function") (ZQ [(ZY 0),(ZY 1)])) (gN 4))
  (ZV (ZE (Y8 (ZQ [(Xe Yn (ZU Zp (ZY 2) (ZY 3)) (Xf (ZW (.int 1))) Xg),(ZU Zx (ZU Zp (ZY 2) (ZY 3)) (Y9 (ZQ [(ZW (.int 0))]))),(ZS Rx (ZQ [(ZU Zp (ZY 2) (ZY 3))])),(ZW .non),(ZU Zx (Y9 (ZQ [(ZW (.bl Z7))])) (Xe Yn (ZU Zp (ZY 2) (ZY 3)) (Xf (ZW (.int 1))) Xg)),(ZU Zx (Y9 (ZQ [(ZW (.int 2))])) (Xe Yn (ZU Zp (ZY 2) (ZY 3)) (Xf (ZW (.int 1))) Xg))])) (gN 5))
  (ZV (ZE (Y8 (ZQ [(ZU Zx (Xe Yn (ZY 2) Xg (Xf (ZY 3))) (Xe Yn (ZY 2) (Xf (ZU Zx (ZY 3) (ZW (.int 1)))) Xg)),(NI (ZQ [(ZU Zx (ZY 2) (Y8 (ZQ [(ZY 4)])))])),(ZU Zx (ZU Zx (Xe Yn (ZY 2) Xg (Xf (ZY 3))) (Y8 (ZQ [(ZU Zp (ZY 5) (ZS (cl "_law_take") (ZQ [(ZY 0),(ZW (.int 6))])))]))) (Xe Yn (ZY 2) (Xf (ZU Zx (ZY 3) (ZW (.int 1)))) Xg))])) (gN 6))
  (ZV (ZL (ZU Zp (ZU Zx (ZY 6) (Y8 (ZQ [(ZU WR (ZY 2) (RD V3 (ZW (.int 1)))),(ZU Zx (ZY 2) (Xe Yn (ZY 2) Xg (Xf (ZW (.int 1))))),(ZS Xn (ZQ [(ZY 2)])),(Y8 (ZQ [])),(ZW .non)]))) (ZS (cl "_law_take") (ZQ [(ZY 0),(ZW (.int 8))]))))
  ZF)))))
def m5(cl:Nat->ZR):Prop:=∀n,cl (n+1) "_law_bent_list"=Zy 3 7 (O8 (cl n))
def T6(cl:ZR):CS :=
 (ZV (X6 (YH (ZU Xx (ZY 2) (Y9 (ZQ [])))) (ZV (ZL (ZU Zp (Y8 (ZQ [(Y8 (ZQ [])),(Y9 (ZQ [(Y8 (ZQ []))])),(ZW .non),(Y9 (ZQ [(ZW .non)])),(Y9 (ZQ [(Y9 (ZQ []))])),(ZW (.int 0))])) (ZS (cl "_law_take") (ZQ [(ZY 0),(ZW (.int 6))]))))
  ZF) ZF)
  (ZV (ZE (ZS (cl "_law_take") (ZQ [(ZY 0),(ZS Zi (ZQ [(ZY 2)]))])) (gN 3))
  (ZV (ZE (ZS (cl "_law_bent_list") (ZQ [(ZY 0),(ZY 1),(ZU Zp (ZY 2) (ZY 3))])) (gN 4))
  (ZV (X6 (YH (ZU (XH λi j=>decide (j<i)) (ZS (cl "_law_take") (ZQ [(ZY 0),(ZW (.int 3))])) (ZW (.int 0)))) (ZV (ZL (ZU Zx (ZU Zx (Xe Yn (ZY 2) Xg (Xf (ZY 3))) (Y9 (ZQ [(ZY 4)]))) (Xe Yn (ZY 2) (Xf (ZU Zx (ZY 3) (ZW (.int 1)))) Xg)))
  ZF) ZF)
  (ZV (ZE (Y8 (ZQ [(ZU Zx (Xe Yn (ZY 2) Xg (Xf (ZY 3))) (Xe Yn (ZY 2) (Xf (ZU Zx (ZY 3) (ZW (.int 1)))) Xg)),(ZU Zx (Xe Yn (ZY 2) Xg (Xf (ZU Zx (ZY 3) (ZW (.int 1))))) (Xe Yn (ZY 2) (Xf (ZY 3)) Xg)),(Xe Yn (ZY 2) Xg (Xf (RD V3 (ZW (.int 1))))),(ZS Rx (ZQ [(ZY 2)])),(ZU WR (ZY 2) (RD V3 (ZW (.int 1)))),(ZW .non)])) (gN 5))
  (ZV (ZL (ZU Zp (ZY 5) (ZS (cl "_law_take") (ZQ [(ZY 0),(ZW (.int 6))]))))
  ZF))))))
def DA(cl:Nat->ZR):Prop:=∀n,cl (n+1) "_law_bent"=Zy 3 6 (T6 (cl n))
def O7(cl:ZR):CS :=
 (ZV (ZE (ZS VA (ZQ [(ZY 2)])) (gN 3))
  (ZV (ZE (ZS (cl "is_paper") (ZQ [(ZY 1),(ZY 2)])) (gN 4))
  (ZV (X6 (X7 (W2 (Y7 (ZS Y1 (ZQ [(ZY 4),(ZW (.ty "bool"))])))) (YH (ZU Wk (ZY 4) (ZS (cl "_law_is_paper") (ZQ [(ZY 0),(ZY 1),(ZY 2)]))))) (ZV (ZL (ZW (.bl Z5)))
  ZF) ZF)
  (ZV (ZL (ZU Xx (ZS VA (ZQ [(ZY 2)])) (ZY 3)))
  ZF))))
def m3(cl:Nat->ZR):Prop:=∀n,cl (n+1) "_law_right"=Zy 3 5 (O7 (cl n))
def MT(cl:ZR):CS :=
 (ZV (X6 (W2 (Y7 (ZS (cl "_law_right") (ZQ [(ZY 3),(ZY 5),(ZY 9)])))) (ZV (ZL (ZW (.bl Z5)))
  ZF) ZF)
  ZF)
def O6(cl:ZR):C :=
 (ZS (cl "_law_bent") (ZQ [(ZY 1),(ZY 2),(ZY 3)]))
def O5(cl:ZR):CS :=
 (ZV (ZE (ZS (cl "_law_state") (ZQ [(ZY 0),(ZY 1)])) (gN 2))
  (ZV (ZE (ZS Wy (ZQ [(ZU Zp (Y8 (ZQ [(ZW (.int 1)),(ZW (.int 2)),(ZW (.int 2)),(ZW (.int 3))])) (ZS (cl "_law_take") (ZQ [(ZY 2),(ZW (.int 4))]))),(ZU (Zl λi j=>i - j) (ZW (.int 3)) (ZS Wy (ZQ [(ZY 1),(ZW (.int 1))])))])) (gN 3))
  (ZV (ZE (ZS (cl "_law_levels") (ZQ [(ZY 3)])) (gN 4))
  (ZV (ZE (ZS (cl "_law_some_function") (ZQ [(ZY 2),(ZY 3)])) (gN 5))
  (ZV (ZE (ZS Wy (ZQ [(ZU (Zl λi j=>i - j) (ZS (cl "_law_fewest") (ZQ [(ZY 4),(ZY 5)])) (ZW (.int 1))),(ZU Zx (ZW (.int 1)) (ZS (cl "_law_take") (ZQ [(ZY 2),(ZW (.int 4))])))])) (gN 6))
  (ZV (ZE (ZS (cl "_law_paper") (ZQ [(ZY 3),(ZY 4),(ZY 6)])) (gN 7))
  (ZV (X6 (X7 (YH (ZU Sr (ZS (cl "is_paper") (ZQ [(ZY 5),(ZY 7)])) (ZW (.bl Z7)))) (YH (ZU Sr (ZS (cl "is_paper") (ZQ [(ZY 5),(Y9 (ZQ []))])) (ZW (.bl Z7))))) (ZV (ZL (ZW (.bl Z5)))
  ZF) ZF)
  (ZV (ZE (Yv (VX (ZQ [(ZW (.int 4))])) 1 [2,3,7] .one (λ_=>ret Z7) (O6 cl)) (gN 8))
  (ZV (Ze (Zw (ZU Zx (ZY 8) (Y8 (ZQ [(ZS (cl "_law_paper") (ZQ [(ZY 3),(ZY 4),(ZU Zx (ZW (.int 1)) (ZS (cl "_law_take") (ZQ [(ZY 2),(ZW (.int 3))])))])),(ZW .non),(Y8 (ZQ [])),Ru])))) (gN 9) (MT cl))
  ZF)))))))))
def O4(cl:ZR):CS :=
 (ZV (Ze (VX (ZQ [(ZS U2 (ZQ [(ZW (.int 1)),(ZS Wy (ZQ [(ZS Zi (ZQ [(ZY 0)])),(ZW (.int 3))]))]))])) (gN 1) (O5 cl))
  (ZV (ZL (ZW (.bl Z7)))
  ZF))
def mA(cl:Nat->ZR):Prop:=∀n,cl (n+1) "law"=Zy 1 10 (O4 (cl n))
variable {cl:Nat->ZR}
theorem mz(h:JG cl)(n:Nat)(a:yA)(k:Int)(hk:0<=k)(S:ZX):∃c,cl (n+1) "_law_cell_at" [.rol (a.map D.int),.int k] S=.ok (.int c) S:=by
 by_cases b:k<a.length
 .refine⟨a[k.toNat]'(by lia),?_⟩;have e:=by have q:=Vo (xs:=a.map D.int) (j:=k.toNat) (by rw[qB1,qA3 (by lia)];rfl);rw[show(k.toNat:Int)=k by lia]at q;exact q
  rw[h];refine Zg rfl ?_;simp[Py,Yh,b,e]
 .refine⟨0,?_⟩;rw[h];refine Zg rfl ?_;simp[Py,Yh,b]
def Yu(S:ZX)(i:Nat):Prop:=∃s b,ZO S i=Z9 [.int s,.bl b]/\(b=Z5->0<=s/\s<2147483647)
theorem Yu.lt(h:Yu S i):i<S.length:=by obtain⟨s,b,e,_⟩:=h;exact Ti e
theorem Yu.ex(h:Yu S i)(e:Ex S a):Yu a i:=by obtain⟨s,b,q,r⟩:=h;exact⟨s,b,e.lst q (λz=>z),r⟩
theorem my(h:DI cl)(f:JG cl)(n:Nat)(d:yA)(k:Int)(hk:0<=k)(S:ZX):∃a,cl (n+2) "_law_state" [.rol (d.map D.int),.int k] S=.ok (.lst S.length) a/\Ex S a/\Yu a S.length:=by
 obtain⟨c,b⟩:=mz f n d k hk S;rw[show n+2=(n+1)+1 from rfl,h];by_cases e:1000000000000000000<=c
 .refine⟨S++[.lst [.int (c - 1000000000000000000),.bl Z7]],Zg rfl ?_,Zt _ _,_,_,Zm _ _,λz=>by cases z⟩;simp[Px,Yh,b,e]
 .refine⟨S++[.lst [.int (c % 2147483647),.bl Z5]],Zg rfl ?_,Zt _ _,_,_,Zm _ _,λ_=>⟨qP1 _ (by decide),qM3 _ (by decide)⟩⟩;simp[Px,Yh,b,e]
theorem O0(b:-18446744073709551616<j)(a:j<18446744073709551616):VD i j=Z7:=by unfold VD;simp[b,a]
@[simp]theorem zaq:Vp 2 0=Z9 0:=rfl
inductive mx(c:ZR)(S:ZX)(i:Nat)(m:Int):Prop
 |mk (r:Int) (S1:ZX) (e:c "_law_take" [.lst i,.int m] S=.ok (.int r) S1) (a:0<=r) (b:r<m) (k:Kp (·=i) S S1) (l:S1.length=S.length) (st:Yu S1 i)
theorem UU(h:JF cl)(n:Nat)(l:Yu S i)(c:0<m)(p:m<1073741824):mx (cl (n+1)) S i m:=by
 obtain⟨s,b,a,r⟩:=l;have d:=VU a;cases b with
 |true =>
  refine⟨s % m,S.set i (.lst [.int (s / m),.bl Z7]),?_,qP1 _ (by lia),qM3 _ c,Vw _ _,by simp,⟨_,_,Th a,λz=>by cases z⟩⟩;rw[h];refine Zg rfl ?_;simp[Pw,Yh,d,c,p,D3 a]
 |false =>
  generalize hz:(s*48271+29) % 2147483647=z;have o:0<=z:=by rw[<- hz];exact qP1 _ (by decide)
  have j:z<2147483647:=by rw[<- hz];exact qM3 _ (by decide)
  generalize hy:(z*z+39373*z+7) % 2147483629=y;generalize hx:(y*y+16807*y) % 2147483587=x;refine⟨x / 8 % m,S.set i (.lst [.int z,.bl Z5]),?_,qP1 _ (by lia),qM3 _ c,Vw _ _,by simp,⟨_,_,Th a,λ_=>⟨o,j⟩⟩⟩;rw[h];refine Zg rfl ?_;have g:=VU (Th (ys:=[.int z,.bl Z5]) a);have e:VD s 48271=Z7:=O0 (by decide) (by decide);have k2:VD z z=Z7:=O0 (by lia) (by lia);have k:VD 39373 z=Z7:=O0 (by lia) (by lia);have q:VD y y=Z7:=O0 (by lia) (by lia);have f:VD 16807 y=Z7:=O0 (by lia) (by lia);simp[Pw,Yh,d,D3 a,e,hz,g,k2,k,hy,q,f,hx,c]
structure Ct where
 a:Int
 b:Int
 k:Int
 o:Int
 deriving DecidableEq
abbrev yN:=List Ct
def Ct.d(c:Ct):D:=.tup [.int c.a,.int c.b,.int c.k,.int c.o]
def Ct.ok(sw a:Int)(c:Ct):Prop:=0<=c.a/\c.a<c.b/\c.b<a/\0<=c.k/\c.k<sw/\0<=c.o/\c.o<2
structure XF where
 sw:Int
 pl:Int
 cs:yN
def XF.d(n:XF):D:=.tup [.int n.sw,.int n.pl,.tup (n.cs.map Ct.d)]
structure XF.ok(ms mp mc:Int)(n:XF):Prop where
 s1:1<=n.sw
 s2:n.sw<=ms
 p1:2<=n.pl
 p2:n.pl<=mp
 c1:(n.cs.length:Int)<=mc
 c2:∀c∈n.cs,c.ok n.sw n.pl
theorem T5{xs ys:yM}(a:ZO S n=Z9 xs)(b:ZO S m=Z9 ys)(h:xs.length+ys.length<=lim):Zx (.lst n) (.lst m) S=.ok (.lst S.length) (S++[.lst (xs++ys)]):=by show(match S[n]?,S[m]? with|some (O.lst xs),Z9 (O.lst ys)=>(if xs.length+ys.length<=lim then R.ok (D.lst S.length) (S++[O.lst (xs++ys)])else .bad)| _,_=>.bad)=_;rw[UG a,UG b];dsimp only;rw[if_pos h]
theorem Dy(lo:Int)(n:Nat):(Y5 lo n).length=n:=by unfold Y5;simp
theorem YY:lim=1048576:=rfl
theorem _root_.L2.Kp.setNew{P:Nat->Prop}{S0 S:ZX}{l:Nat}{o:O}(h:Kp P S0 S)(b:S0.length<=l):Kp P S0 (S.set l o) :=
 ⟨by rw[qJ8];exact h.le,λj a n=>by rw[qE7 (by lia)];exact h.eq j a n⟩
@[simp]theorem OZ:(Y5 lo n)[i]?=Z9 d↔i<n/\d=.int (lo+i):=by
 unfold Y5;rw[qB1];by_cases h:i<n
 .rw[qH2 h];simp[h,eq_comm]
 .simp[h]
end My
namespace Mt
def OY(es:List (Int×Int)):Prop:=∀C:Int->Prop,C 0->(∀e∈es,(C e.1↔C e.2))->C 1
structure MS(es:List (Int×Int))(s:Int)(F:Int->Prop):Prop where
 start:F s
 closed:∀e∈es,(F e.1↔F e.2)
 least:∀C:Int->Prop,C s->(∀e∈es,(C e.1↔C e.2))->∀x,F x->C x
theorem MS.joined(h:MS es 0 F):F 1↔OY es:=⟨λf C a b=>h.least C a b 1 f,λj=>j F h.start h.closed⟩
theorem mw{f:Type}{p q:f->Bool}{l:List f}(h:∀x,p x=Z7->q x=Z7){a:f}(d:a∈l)(g:q a=Z7)(i:p a=Z5):(l.filter p).length<(l.filter q).length:=by
 induction l with
 |nil=>cases d
 |cons x r b =>
  have j:(r.filter p).length<=(r.filter q).length:=by
   clear b d
   induction r with
   |nil=>simp
   |cons y r b =>
    rw[qI2,qI2];cases c:p y with
    |true=>rw[h y c];simpa using b
    |false =>
     cases q y with
     |true=>simp;lia
     |false=>simpa using b
  rw[qI2,qI2];rcases qB0.mp d with e|e
  .subst e;rw[g,i];simp;lia
  .have:=b e;cases c:p x with
   |true=>rw[h x c];simpa using this
   |false =>
    cases q x with
    |true=>simp;lia
    |false=>simpa using this
def ZZ(a:yA)(x:Int):Prop:=0<=x/\a[x.toNat]?=Z9 0
end Mt
namespace My
open PySem L2 Mt
variable {cl:Nat->ZR}
def Za(st:yA):D:=.tup (st.map D.int)
def T4(c:Ct)(st:yA):Bool:=decide (st.getD c.k.toNat 0=c.o)
theorem Dx{l:yA}{k:Int}(a:0<=k)(b:k<l.length):Xz (l.map D.int) k=Z9 (.int (l.getD k.toNat 0)):=by
 have e:l[k.toNat]?=Z9 (l.getD k.toNat 0):=by rw[qF4,qA3 (by lia)];rfl
 have q:=Vo (xs:=l.map D.int) (by rw[qB1,e];rfl);rw[show(k.toNat:Int)=k by lia]at q;exact q
theorem mu(h:PN cl)(n:Nat)(c:Ct)(st:yA)(a:0<=c.k)(b:c.k<st.length)(S:ZX):cl (n+1) "is_shut" [c.d,Za st] S=.ok (.bl (T4 c st)) S:=by rw[h];refine Zg rfl ?_;simp[Nj,Yh,Ct.d,Za,Dx a b,T4]
theorem Dw:(1000:Nat)<lim:=by decide
def W5(a:yN):List (Int×Int):=a.map λc=>(c.a,c.b)
def Xi(a:Nat)(fs:yA):Nat:=((List.range a).filter fun(v:Nat)=>decide ((v:Int)∈fs)).length
theorem JB(BB:Nat)(fs:yA):Xi BB fs<=BB:=by unfold Xi;have:=qN8 (fun(v:Nat)=>decide ((v:Int)∈fs)) (List.range BB);simpa using this
theorem Dv{b:Nat}(h:∀x,x∈fs->x∈gs){x:Int}(d:x∈gs)(e:x∉fs)(f:0<=x)(g:x<b):Xi b fs<Xi b gs:=by
 refine mw (a:=x.toNat) (λv c=>?_) ?_ ?_ ?_
 .simp only[decide_eq_true_eq]at c ⊢;exact h _ c
 .rw[qC7];lia
 .simp only[decide_eq_true_eq];rw[show(x.toNat:Int)=x by lia];exact d
 .simp only[decide_eq_false_iff_not];rw[show(x.toNat:Int)=x by lia];exact e
theorem JA(fs:yA)(a:Int):(YS fs a).length<=fs.length+1:=by unfold YS;split<;>simp
def pE(s:Int)(k l:Nat)(g:Bool)(v:Option D):ZT:=[Z9 (.int s),Z9 (.lst k),Z9 (.dct l),Z9 (.bl g),v]
def Jz(a:yN)(s:Int)(fs:yA):Prop:=∀C:Int->Prop,C s->(∀e∈W5 a,(C e.1↔C e.2))->∀x∈fs,C x
inductive mq(cs:yN)(s:Int)(k:Nat)(S:ZX)(m:Nat)(B:ZT)(S':ZX):Prop
 |mk (fs:yA) (g:Bool) (v4:Option D) (e:B=pE s k S.length g v4) (kp:Kp (·=S.length) (S++[.dk (Zd [s])]) S') (hf:S'[S.length]?=Z9 (.dk (Zd fs))) (r1:s∈fs) (r2:Jz cs s fs) (r3:g=Z5->∀e∈W5 cs,(e.1∈fs↔e.2∈fs)) (r4:g=Z7->m+Xi 7 fs=9) (r5:fs.length+200*m<=2000) (nd:fs.Nodup)
inductive mn(cs:yN)(s:Int)(k:Nat)(S:ZX)(B:ZT)(S':ZX):Prop
 |mk (fs:yA) (v4:Option D) (e:B=pE s k S.length Z5 v4) (kp:Kp (·=S.length) (S++[.dk (Zd [s])]) S') (hf:S'[S.length]?=Z9 (.dk (Zd fs))) (r1:s∈fs) (r2:Jz cs s fs) (r3:∀e∈W5 cs,(e.1∈fs↔e.2∈fs)) (nd:fs.Nodup)
inductive mm(cs:yN)(s:Int)(k:Nat)(S:ZX)(fs:yA)(j:Nat)(B:ZT)(S2:ZX):Prop
 |mk (fs2:yA) (g2:Bool) (v4:Option D) (e:B=pE s k S.length g2 v4) (kp:Kp (·=S.length) (S++[.dk (Zd [s])]) S2) (hf:S2[S.length]?=Z9 (.dk (Zd fs2))) (q1:∀x∈fs,x∈fs2) (q2:Jz cs s fs2)
  (q3:g2=Z5->fs2=fs/\∀i c,i<j->cs[i]?=Z9 c->(c.a∈fs↔c.b∈fs)) (q4:g2=Z7->Xi 7 fs<Xi 7 fs2) (q5:fs2.length<=fs.length+2*j) (nd:fs2.Nodup)
theorem Du(h:fs.Nodup)(a:Int):(YS fs a).Nodup:=by
 unfold YS;split
 .exact h
 .rename_i d;exact qH8.mpr ⟨h,by simp,λx c y b e=>d (by rw[qB2]at b;subst b;subst e;exact c)⟩
theorem mj(h:Rl cl)(n:Nat)(cs:yN)(s:Int)(hs:0<=s/\s<7)(hc:cs.length<=100)(hb:∀c∈cs,(0<=c.a/\c.a<7)/\0<=c.b/\c.b<7)(hk:ZO S k=Z9 (cs.map Ct.d)):
  ∃m S1 fs,cl (n+1) "places_from" [.int s,.lst k] S=.ok (.dct m) S1/\Ex S S1/\S1[m]?=Z9 (.dk (Zd fs))/\MS (W5 cs) s (·∈fs)/\fs.Nodup:=by
 have km:k≠S.length:=by have:=Ti hk;lia
 obtain⟨B',v,e,fs,J,rfl,kp,q,L,W,Y,U⟩:=JU (t:=Y7 (ZY 3)) (b:=Nh (cl n)) (mq cs s k S) (mn cs s k S)
  (λm B v R=>by
   obtain⟨fs,g,J,rfl,kp,q,L,W,Y,r4,r5,U⟩:=R;cases g with
   |false=>exact .inl ⟨v,by simp[pE],⟨fs,J,rfl,kp,q,L,W,Y rfl,U⟩⟩
   |true =>
    refine .inr ⟨v,by simp[pE],?_⟩;have hl:ZO v k=Z9 (cs.map Ct.d):=kp.lst (Nu hk) km;obtain⟨B2,S2,e2,fs2,P,H,rfl,p,r,Q,M,A,T,q5,l⟩:=Ua (w:=[(k,cs.map Ct.d)]) (g:=gN 4) (b:=Ni (cl n)) (items:=cs.map Ct.d)
     (mm cs s k S fs) (B:=pE s k S.length Z5 J) (S:=v)
     (λj B S2 R=>by
      obtain⟨_,_,_,_,kp⟩:=R;exact Xj (kp.lst (Nu hk) km))
     ⟨fs,Z5,J,rfl,kp,q,λx a=>a,W,λ_=>⟨rfl,λi c V=>by lia⟩,(λz=>by cases z),by lia,U⟩
     (λj d B S2 hd R=>by
      obtain⟨fs2,P,J,rfl,p,o,Q,M,A,T,q5,l⟩:=R;rw[qB1]at hd;obtain⟨c,G,rfl⟩:=qA7.mp hd;have hm:c∈cs:=qC2 G;have hj:j<cs.length:=(qA5.mp G).1;obtain⟨ba,bb⟩:=hb c hm;have he:(c.a,c.b)∈W5 cs:=qC4.mpr ⟨c,hm,rfl⟩;refine⟨_,_,rfl,?_⟩;have i1:=JT o Z5 c.a;have i2:=JT o Z5 c.b;have hlim:fs2.length+2<lim:=by have:=Dw;rw[YY];lia
      by_cases f:(c.a∈fs2↔c.b∈fs2)
      .refine⟨_,S2,.inl ?_,⟨fs2,P,Z9 c.d,rfl,p,o,Q,M,λK=>⟨(A K).1,λi c' V F=>?_⟩,T,by lia,l⟩⟩
       .have:(decide (c.a∈fs2) != decide (c.b∈fs2))=Z5:=by simp[f]
        simp[pE,Ni,Ct.d,i1,i2,this]
       .by_cases Z:i=j
        .subst Z;rw[G]at F;cases F;rw[(A K).1]at f;exact f
        .exact(A K).2 i c' (by lia) F
      .have s1:=DX o (by lia) c.a;have f3:(S2.set S.length (.dk (Zd (YS fs2 c.a))))[S.length]?=Z9 (.dk (Zd (YS fs2 c.a))):=qD9 (qA5.mp o).1;have s2:=DX f3 (by have:=JA fs2 c.a;lia) c.b;have f4:((S2.set S.length (.dk (Zd (YS fs2 c.a)))).set S.length (.dk (Zd (YS (YS fs2 c.a) c.b))))[S.length]?=Z9 (.dk (Zd (YS (YS fs2 c.a) c.b))):=qD9 (qA5.mp f3).1;have mem:∀x,x∈YS (YS fs2 c.a) c.b↔x∈fs2∨x=c.a∨x=c.b:=λx=>by rw[DW,DW,or_assoc]
       refine⟨_,_,.inl ?_,⟨YS (YS fs2 c.a) c.b,Z7,Z9 c.d,rfl,(p.trans (Vw _ _)).trans (Vw _ _),f4,λx a=>(mem x).mpr (.inl (Q x a)),λC I X x a=>?_,(λz=>by cases z),λ_=>?_,by have:=JA fs2 c.a;have:=JA (YS fs2 c.a) c.b;lia,Du (Du l _) _⟩⟩
       .have:(decide (c.a∈fs2) != decide (c.b∈fs2))=Z7:=by by_cases u:c.a∈fs2<;>by_cases y:c.b∈fs2<;>simp[u,y]at f ⊢
        simp[pE,Ni,Ct.d,i1,i2,this,s1,s2]
       .have N:=M C I X;have E:=X _ he;dsimp only at E;have one:C c.a/\C c.b:=by
         by_cases u:c.a∈fs2
         .exact⟨N _ u,E.mp (N _ u)⟩
         .by_cases y:c.b∈fs2
          .exact⟨E.mpr (N _ y),N _ y⟩
          .exact absurd (iff_of_false u y) f
        rcases(mem x).mp a with z|z|z
        .exact N x z
        .subst z;exact one.1
        .subst z;exact one.2
       .have lt:Xi 7 fs2<Xi 7 (YS (YS fs2 c.a) c.b):=by
         by_cases u:c.a∈fs2
         .have y:c.b∉fs2:=λz=>f (iff_of_true u z);exact Dv (λx a=>(mem x).mpr (.inl a)) ((mem c.b).mpr (.inr (.inr rfl))) y bb.1 bb.2
         .exact Dv (λx a=>(mem x).mpr (.inl a)) ((mem c.a).mpr (.inr (.inl rfl))) u ba.1 ba.2
        cases P with
        |true=>have:=T rfl;lia
        | false=>rw[(A rfl).1]at lt ⊢;exact lt)
    have I:=JB 7 fs;have c1:=r4 rfl;rw[qA0]at q5;have step:Nh (cl n) (pE s k S.length Z7 J) v=.nx (pE s k S.length P H) S2:=by unfold pE at e2 ⊢;simp[Nh,hl,e2]
    cases P with
    |true =>
     have c2:=JB 7 fs2;have c3:=T rfl;exact⟨_,S2,.inl step,9 - Xi 7 fs2,by lia,⟨fs2,Z7,H,rfl,p,r,Q s L,M,(λz=>by cases z),λ_=>by lia,by lia,l⟩⟩
    |false =>
     refine⟨_,S2,.inl step,0,by lia,⟨fs2,Z5,H,rfl,p,r,Q s L,M,λK e he=>?_,(λz=>by cases z),by lia,l⟩⟩;obtain⟨c,hc1,rfl⟩:=qC4.mp he;obtain⟨i,V⟩:=qE1 hc1;rw[(A K).1];exact(A K).2 i c (by rw[qA0];exact(qA5.mp V).1) V)
  Sf (9 - Xi 7 [s]) (pE s k S.length Z7 Z8) (S++[.dk (Zd [s])]) (qI0 (Nat.sub_le _ _) (by decide))
   ⟨[s],Z7,Z8,rfl,Kp.refl _ _,by rw[qA2 (qA6 _),qJ4];rfl,by simp,λC I _ x a=>(by simp at a;subst a;exact I),(λz=>by cases z),λ_=>(by have:=JB 7 [s];lia),by simp;lia,by simp⟩
 refine⟨S.length,v,fs,?_,⟨?_,λj hj _=>?_⟩,q,⟨L,Y,λC I X x a=>W C I X x a⟩,U⟩
 .rw[h];refine Zg rfl ?_;have e0:(S++[O.dk [((Sum.inl s:ZI),D.bl Z7)]])=S++[O.dk (Zd [s])]:=rfl;unfold pE at e;simp[Ng,Yh,WT,e0,e]
 .have:=kp.le;simp at this;lia
 .rw[kp.eq j (by simp;lia) (by lia),qA8 hj]
theorem mi(h:Rl cl)(n:Nat)(f:yN)(s:Int)(hs:0<=s/\s<7)(g:f.length<=100)(i:∀c∈f,(0<=c.a/\c.a<7)/\0<=c.b/\c.b<7)(hk:ZO S k=Z9 (f.map Ct.d)):
  ∃m e fs,cl (n+1) "places_from" [.int s,.lst k] S=.ok (.dct m) e/\Ex S e/\e[m]?=Z9 (.dk (Zd fs))/\MS (W5 f) s (·∈fs):=by obtain⟨m,e,fs,a,b,c,d,_⟩:=mj h n f s hs g i hk;exact⟨m,e,fs,a,b,c,d⟩
def jB(es:List (Int×Int)):Bool:=@decide (OY es) (Classical.propDecidable _)
theorem Jy:jB es=Z7↔OY es:=@decide_eq_true_iff _ (Classical.propDecidable _)
theorem mh(h:b=Z7↔OY es):b=jB es:=by
 cases b with
 |true=>exact(Jy.mpr (h.mp rfl)).symm
 |false =>
  cases q:jB es with
  |false=>rfl
  |true=>exact absurd (h.mpr (Jy.mp q)) qB4
def R9(a:yN):Prop:=∀c∈a,(0<=c.a/\c.a<7)/\0<=c.b/\c.b<7
theorem mf(h:Nd cl)(b:Rl cl)(n:Nat)(a:yN)(d:a.length<=100)(i:R9 a)(hk:ZO S k=Z9 (a.map Ct.d)):Wq (cl (n+2) "joins" [.lst k] S) ((.bl (jB (W5 a)))) S:=by obtain⟨m,c,fs,e,x,f,r⟩:=mi b n a 0 (by decide) d i hk;refine⟨c,?_,x⟩;rw[show n+2=(n+1)+1 from rfl,h];refine Zg rfl ?_;have q:=JT f Z5 1;have g:decide (1∈fs)=jB (W5 a):=mh (by rw[decide_eq_true_eq];exact r.joined);simp[Nf,Yh,e,q,g]
def UF(N:XF)(st:yA):Bool:=jB (W5 (N.cs.filter λc=>T4 c st))
theorem XF.ok.in7{N:XF}(h:N.ok e a b)(hm:a<=7):R9 N.cs:=λc d=>by obtain⟨f,i,g,_⟩:=h.c2 c d;have:=h.p2;omega
theorem R9.filter(h:R9 a)(p:Ct->Bool):R9 (a.filter p):=λc b=>h c (qG7.mp b).1
theorem XF.ok.len{N:XF}(h:N.ok c b a)(hm:a<=16):N.cs.length<=100:=by have:=h.c1;lia
theorem me(h:Nb cl)(hi:PN cl)(n:Nat)(N:XF)(st:yA)(e:N.cs.length<=100)(hk:∀c∈N.cs,0<=c.k/\c.k<st.length)(S:ZX):cl (n+2) "shut_contacts" [N.d,Za st] S=.ok (.lst S.length) (S++[.lst ((N.cs.filter λc=>T4 c st).map Ct.d)]):=by
 have b:Zo [] .one (JO (cl (n+1))) (JN (cl (n+1))) [Z8,Z9 (Za st)] (N.cs.map Ct.d) S=.ok ((N.cs.filter λc=>T4 c st).map Ct.d) S:=by
  refine Nq Ct.d (Yp S) _ _ _ λc a=>⟨_,rfl,?_,λ_=>?_⟩
  .have:=mu hi n c st (hk _ a).1 (hk _ a).2 S;simp[JO,this]
  .simp[JN]
 rw[show n+2=(n+1)+1 from rfl,h];refine Zg rfl ?_;have d:N.cs.length<lim:=by have:=Dw;lia
 simp[Nc,Yh,XF.d,b,d]
theorem ma(h:JM cl)(d:Nd cl)(b:Rl cl)(hs:Nb cl)(hi:PN cl)(n:Nat)(a:N.cs.length<=100)(e:R9 N.cs)(hk:∀c∈N.cs,0<=c.k/\c.k<st.length)(S:ZX):Wq (cl (n+3) "lets" [N.d,Za st] S) ((.bl (UF N st))) S:=by have g:=me hs hi n N st a hk S;have i:(N.cs.filter λc=>T4 c st).length<=100:=qD0 (qN8 _ _) a;obtain⟨j,k,f⟩:=mf d b n _ i (e.filter _) (Zm S ((N.cs.filter λc=>T4 c st).map Ct.d));refine⟨j,?_,(Zt _ _).trans f⟩;rw[show n+3=(n+2)+1 from rfl,h];refine Zg rfl ?_;simp[Na,Yh,g,k,UF]
@[simp]theorem zax(w x y z:D):Zr [w,x,y,z] Z8 (Z9 2)=[w,x]:=rfl
def ZC:Nat->List (yA)
 |0=>[[]]
 |n+1=>(ZC n).map (0::·)++(ZC n).map (1::·)
theorem SZ:∀n,(ZC n).length=2 ^ n
 |0=>rfl
 |n+1=>by unfold ZC;rw[qB9,qA0,qA0,SZ n,qR2];lia
theorem MR:∀n,∀st∈ZC n,st.length=n/\∀b∈st,b=0∨b=1
 |0,st,h=>by simp[ZC]at h;subst h;simp
 |n+1,st,h=>by
  rcases qB6.mp h with q|q
  .obtain⟨t,ht,rfl⟩:=qC4.mp q;obtain⟨a,c⟩:=MR n t ht;exact⟨by simp[a],λb d=>by rcases qB0.mp d with z|z;exact .inl z;exact c b z⟩
  .obtain⟨t,ht,rfl⟩:=qC4.mp q;obtain⟨a,c⟩:=MR n t ht;exact⟨by simp[a],λb d=>by rcases qB0.mp d with z|z;exact .inr z;exact c b z⟩
theorem Jx(h:j<=4):2 ^ j<=16:=qD0 (qI8 (by decide) h) (by decide)
theorem Dt(h:PP cl)(n:Nat)(G:0<=sw)(F:sw<=4)(S:ZX):∃k l,cl (n+1) "settings" [.int sw] S=.ok (.lst k) l/\Ex S l/\S.length<=k/\ZO l k=Z9 ((ZC sw.toNat).map Za):=by
 obtain⟨H,l,y,k,r,rfl,o,hk,c⟩:=Ua (g:=gN 2) (b:=JP (cl n)) (items:=Y5 0 sw.toNat)
  (λj B a=>∃k r,B=[Z9 (.int sw),Z9 (.lst k),r]/\Ex S a/\S.length<=k/\ZO a k=Z9 ((ZC j).map Za))
  (S:=S++[.lst [.tup []]])
  (λj B a u=>Yp _) ⟨S.length,Z8,rfl,Zt _ _,qA6 _,by rw[Zm];rfl⟩
  (λj d B a C u=>by
   obtain⟨k,r,rfl,o,hk,c⟩:=u;rw[OZ]at C;have s:(ZC j).length<=16:=by rw[SZ];exact Jx (by lia)
   have comp:∀b e (t:∀i B S,e (Z9 (.tup i)::B) S=if 1+i.length<=lim then .ok (.tup (.int b::i)) S else .bad) S2,ZO S2 k=Z9 ((ZC j).map Za)->Zo [(k,(ZC j).map Za)] .one (λ_=>ret Z7) e [Z8] ((ZC j).map Za) S2=.ok (((ZC j).map (b::·)).map Za) S2:=by
    intro b e t S2 f;rw[qC8];refine Wc Za (Xj f) _ _ λst q=>⟨_,rfl,?_⟩
    have:=(MR j st q).1;show e [Z9 (Za st)] S2=_;unfold Za;rw[t,if_pos (by rw[qA0,YY];lia)];rfl
   have p:=comp 0 (JR (cl n)) (λi B S=>by simp[JR]) a c;have f:=(Zt a [.lst (((ZC j).map (0::·)).map Za)]).lst c (λz=>z);have m:=comp 1 (JQ (cl n)) (λi B S=>by simp[JQ]) (a++[.lst (((ZC j).map (0::·)).map Za)]) f;generalize hA:a++[O.lst (((ZC j).map (0::·)).map Za)]=A at m f;generalize hX0:((ZC j).map (0::·)).map Za=X0 at p hA;generalize hX1:((ZC j).map (1::·)).map Za=X1 at m;have w:ZO (A++[.lst X1]) a.length=Z9 X0:=by rw[<- hA];exact Nu (Zm _ _)
   have E:X0.length<=16:=by rw[<- hX0];simpa using s
   have I:X1.length<=16:=by rw[<- hX1];simpa using s
   have x:=T5 w (Zm A X1) (by rw[YY];lia);refine⟨_,_,rfl,_,A++[.lst X1]++[.lst (X0++X1)],.inl ?_,(A++[O.lst X1]).length,Z9 d,rfl,?_,?_,?_⟩
   .have v:((ZC j).map Za).length<lim:=by rw[qA0,YY];lia
    generalize hB:(ZC j).map Za=BB at c f p m v;simp[JP,c,p,hA,f,m,v,x]
   .rw[<- hA];exact((o.trans (Zt _ _)).trans (Zt _ _)).trans (Zt _ _)
   .rw[<- hA];have:=o.le;simp;lia
   .rw[Zm,<- hX0,<- hX1,show ZC (j+1)=(ZC j).map (0::·)++(ZC j).map (1::·)from rfl,qE6])
 rw[Dy]at c;refine⟨k,l,?_,o,hk,c⟩;rw[h];refine Zg rfl ?_;have D:-4611686018427387904<=sw/\sw<4611686018427387904:=by lia
 simp[Nl,Yh,D,y]
def l0(sw:Int):List (yA):=(List.range (1*2 ^ sw.toNat:Int).toNat).map fun(m:Nat)=>(List.range sw.toNat).map fun(k:Nat)=>jT ((0+(m:Int)) / 2 ^ (sw - 1 - (0+(k:Int))).toNat) 1
theorem lR(b:1<=sw)(a:sw<=4):l0 sw=ZC sw.toNat:=by
 have:sw=1∨sw=2∨sw=3∨sw=4:=by lia
 rcases this with rfl|rfl|rfl|rfl<;>decide
theorem lD(h:M4 cl)(n:Nat)(H:1<=sw)(K:sw<=4)(S:ZX):∃k a,cl (n+1) "_law_settings" [.int sw] S=.ok (.lst k) a/\Ex S a/\S.length<=k/\ZO a k=Z9 ((ZC sw.toNat).map Za):=by
 rw[<- lR H K];have s:(1*2 ^ sw.toNat:Int)<=16:=by
  have:sw=1∨sw=2∨sw=3∨sw=4:=by lia
  rcases this with rfl|rfl|rfl|rfl<;>decide
 have L:(0:Int)<=1*2 ^ sw.toNat:=by
  have:sw=1∨sw=2∨sw=3∨sw=4:=by lia
  rcases this with rfl|rfl|rfl|rfl<;>decide
 let f:Nat->yA:=fun(m:Nat)=>(List.range sw.toNat).map fun(k:Nat)=>jT ((0+(m:Int)) / 2 ^ (sw - 1 - (0+(k:Int))).toNat) 1
 obtain⟨P,a,G,r,rfl,t,c⟩:=Ua (w:=[]) (g:=gN 2) (b:=JD (cl n)) (items:=Y5 0 (1*2 ^ sw.toNat:Int).toNat)
  (λj B S'=>∃r,B=[Z9 (.int sw),Z9 (.lst S.length),r]/\Ex S S'/\ZO S' S.length=Z9 (((List.range j).map f).map Za))
  (B:=[Z9 (.int sw),Z9 (.lst S.length),Z8]) (S:=S++[.lst []])
  (λj B S' s=>Yp _) ⟨Z8,rfl,Zt _ _,by rw[Zm];rfl⟩
  (λj d B S' A s=>by
   obtain⟨r,rfl,t,c⟩:=s;rw[OZ]at A;obtain⟨O,rfl⟩:=A;have v:Zo [] .one (λ_=>ret Z7) (JE (cl n)) [Z8,Z9 (.int (0+(j:Int))),Z9 (.int sw)] ((List.range sw.toNat).map fun(k:Nat)=>D.int (0+(k:Nat))) S'=.ok ((List.range sw.toNat).map fun(k:Nat)=>D.int (jT ((0+(j:Int)) / 2 ^ (sw - 1 - (0+(k:Int))).toNat) 1)) S':=by
    refine Wc (fun(k:Nat)=>D.int (0+(k:Nat))) (Yp S') _ _ λk hk=>⟨_,rfl,?_⟩
    rw[qC7]at hk;have q:(0:Int)<=sw - 1 - (0+(k:Int)):=by lia
    generalize (0+(k:Int))=kk at q ⊢;generalize (0+(j:Int))=jj;have N:kk<=sw - 1:=by lia
    simp[JE,N]
   have I:(List.range sw.toNat).map (fun(k:Nat)=>D.int (jT ((0+(j:Int)) / 2 ^ (sw - 1 - (0+(k:Int))).toNat) 1))=(f j).map D.int:=by rw[qC8];rfl
   rw[I]at v;have y:=Zt S' [.lst ((f j).map D.int)];have u:=y.lst c (λz=>z);have E:=Tn (Zm S' ((f j).map D.int));have e:=PY u WE [.tup ((f j).map D.int)];have M:=PZ c;have C:(((List.range j).map f).map Za).length<lim:=by rw[qA0,qA0,qD4,YY];lia
   refine⟨_,_,rfl,_,_,.inl ?_,Z9 (.int (0+(j:Int))),rfl,((t.trans y).setNew (l:=S.length) (o:=.lst (((List.range j).map f).map Za++[.tup ((f j).map D.int)])) (qA6 _)),?_⟩
   .have p:-4611686018427387904<=sw/\sw<4611686018427387904:=by lia
    have i:sw.toNat<lim:=by rw[YY];lia
    generalize hB:((List.range j).map f).map Za=BB at e C;generalize (f j).map D.int=F at *;rw[PX,if_pos C]at e;dsimp only at e;unfold Y5 at *;simp only[List.set_cons_succ,List.set_cons_zero];generalize (0+(j:Int))=jj at *;simp[JD,M,p,Y5,i,-Int.zero_add,v,E,e]
   .rw[Th u,qO8,qE6,qE6];rfl)
 rw[Dy]at c;refine⟨S.length,a,?_,t,qA6 _,c⟩;rw[h];refine Zg rfl ?_;have p:-4611686018427387904<=(1*2 ^ sw.toNat:Int)/\(1*2 ^ sw.toNat:Int)<4611686018427387904:=by lia
 have i:0<=sw/\sw<=1000000/\(1:Int).natAbs<18446744073709551616:=⟨by lia,by lia,by decide⟩
 generalize hpw:(1*2 ^ sw.toNat:Int)=pw at *;have x:Yx (.int 1) (.int sw) (S++[.lst []])=.ok (.int pw) (S++[.lst []]):=by rw[nC,if_pos i,hpw]
 have J:VX (ZQ [ZU Yx (ZW (.int 1)) (ZY 0)]) [Z9 (.int sw),Z9 (.lst S.length),Z8] (S++[.lst []])=.ok (Y5 0 pw.toNat,[]) (S++[.lst []]):=by rw[nD,nF,nG,nH,XW,D6];dsimp only[List.getElem?_cons_zero];rw[XW,x,XW,D5,XW,XW];dsimp only;rw[if_pos p]
 clear x i p;simp only[M5,Yh,qB8,qN4,Nw,nJ,nE,D5,XW,D8,nI,D7,JZ];rw[show(List.set ([Z9 (D.int sw)]++qL2 (3 - [D.int sw].length) Z8) 1 (Z9 (D.lst (qH4 S))))=[Z9 (.int sw),Z9 (.lst S.length),Z8]from rfl,J,D8];dsimp only;rw[G,D7,Nw,nK,D6];rfl
def Wp(N:XF):yA:=(ZC N.sw.toNat).map λst=>if UF N st then 1 else 0
theorem lz{sw:Int}(a:sw<=4):((ZC sw.toNat).map Za).length<lim:=by rw[qA0,SZ,YY];have:=Jx (j:=sw.toNat) (by lia);lia
theorem ly(h:DT cl)(b:JM cl)(p:Nd cl)(v:Rl cl)(hs:Nb cl)(hi:PN cl)(d:PP cl)(n:Nat)(s:0<=N.sw)(g:N.sw<=4)(f:N.cs.length<=100)(C:R9 N.cs)(hk:∀c∈N.cs,0<=c.k/\c.k<N.sw)(S:ZX):
  Wq (cl (n+4) "function_of" [N.d] S) ((Za (Wp N))) S:=by
 obtain⟨k,w,q,y,_,j⟩:=Dt d (n+2) s g S;obtain⟨l,i,r⟩:=DY Za (t:=.one) (c:=JK (cl (n+3))) (B0:=[Z8,Z9 N.d]) (λa=>Ex w a) (λa x=>Xj (x.lst j λz=>z)) (λst=>.int (if UF N st then 1 else 0)) (ZC N.sw.toNat) (Kp.refl _ _)
  (λst e a x=>by
   have H:=(MR _ st e).1;obtain⟨m,B,A⟩:=ma b p v hs hi n f C (st:=st) (λc f=>by have:=hk c f;lia) a;refine⟨_,rfl,m,?_,x.trans A⟩;cases G:UF N st<;>simp[JK,B,G])
 have F:(ZC N.sw.toNat).map (λst=>D.int (if UF N st then 1 else 0))=(Wp N).map D.int:=by unfold Wp;rw[qC8];rfl
 rw[F]at i;refine⟨_,?_,(y.trans r).trans (Zt l [.lst ((Wp N).map D.int)])⟩;rw[show n+4=(n+3)+1 from rfl,h];refine Zg rfl ?_;have E:=lz g;have o:=Tn (Zm l ((Wp N).map D.int));have u:Zp N.d (.int 0) S=.ok (.int N.sw) S:=by simp[XF.d]
 generalize (ZC N.sw.toNat).map Za=BB at *;simp[M9,Yh,u,q,j,E,i,o,Za]
theorem Ds(a:Int)(l:yA):UL (.int a) (l.map V.int)=decide (a∈l):=by
 unfold UL
 induction l with
 |nil=>rfl
 |cons x r b =>
  rw[qB8,qH5,b];by_cases h:x=a
  .subst h;simp[UM]
  .have c:¬a=x:=λz=>h z.symm;simp[UM,h,c]
theorem Dr(l:yA):(l.map D.int).mapM XS=Z9 (l.map V.int):=by
 induction l with
 |nil=>rfl
 |cons x r a=>rw[qB8,qG6,a];rfl
theorem lx(neg:Bool)(a:Int)(l:yA)(S:ZX):YL neg (.int a) (.tup (l.map D.int)) S=.ok (.bl (if neg then !decide (a∈l)else decide (a∈l))) S:=by show(match (l.map D.int).mapM XS with|some b=>R.ok (D.bl (if neg then !UL (.int a) b else UL (.int a) b)) S|none=>.bad)=_;rw[Dr];dsimp only;rw[Ds]
@[simp]theorem zWY(w x y z:D):Zr [w,x,y,z] Z8 (Z9 3)=[w,x,y]:=rfl
theorem Q8{xs:List b}{r:Int}(c:0<=r)(e:r<xs.length):∃d,Xz xs r=Z9 d/\d∈xs:=by
 have a:r.toNat<xs.length:=by lia
 refine⟨xs[r.toNat],?_,qD5 a⟩;have:=Vo (xs:=xs) (j:=r.toNat) (v:=xs[r.toNat]) (qA3 a);rw[show((r.toNat:Nat):Int)=r by lia]at this;exact this
theorem Dq(xs:yM)(lo hi:yG):(Zr xs lo hi).length<=xs.length:=by unfold Zr;rw[qE4,qH0];lia
theorem Dp{xs:yM}(h:x∈Zr xs lo hi):x∈xs:=qE8 (qE9 h)
structure HF(cl:Nat->ZR):Prop where
 se:PP cl
 is:PN cl
 pf:Rl cl
 jo:Nd cl
 sc:Nb cl
 le:JM cl
 fo:DT cl
abbrev XF.g(N:XF):Prop:=N.ok 4 7 16
theorem XF.ok.k2{g e d:Int}{N:XF}(h:N.ok g e d):∀c∈N.cs,0<=c.k/\c.k<N.sw:=λc f=>by obtain⟨_,_,_,a,b,_⟩:=h.c2 c f;exact⟨a,b⟩
theorem HF.fun(F:HF cl)(n:Nat)(ok:N.g)(S:ZX):Wq (cl (n+4) "function_of" [N.d] S) ((Za (Wp N))) S :=
 ly F.fo F.le F.jo F.pf F.sc F.is F.se n (by have:=ok.s1;lia) ok.s2 (ok.len (by decide)) (ok.in7 (by decide)) ok.k2 S
def b1(b:Bool):Int:=if b then 1 else 0
def Ct.mv(f:Int->Int)(c:Ct):Ct:=⟨if f c.b<f c.a then f c.b else f c.a,if f c.b>f c.a then f c.b else f c.a,c.k,c.o⟩
theorem lu:UF N st=Z7↔∀C:Int->Prop,C 0->(∀c∈N.cs,T4 c st=Z7->(C c.a↔C c.b))->C 1:=by
 unfold UF;rw[Jy];unfold OY W5;constructor
 .intro h C b d;refine h C b λe g=>?_;obtain⟨c,a,rfl⟩:=qC4.mp g;rw[qG7]at a;exact d c a.1 a.2
 .intro h C b d;refine h C b λc a f=>?_;exact d (c.a,c.b) (qC4.mpr ⟨c,qG7.mpr ⟨a,f⟩,rfl⟩)
def lq(a:Int)(p:Int):Int:=if p=1 then a else p
def lj(b a:Int)(k:Int):Int:=if k=0 then a else if k=1 then 1 else k+b - 2
def XF.row(N M:XF):XF:=⟨N.sw,N.pl+M.pl - 2+1,N.cs.map (Ct.mv (lq (N.pl+M.pl - 2)))++M.cs.map (Ct.mv (lj N.pl (N.pl+M.pl - 2)))⟩
theorem lh(N:XF):Wp N=(ZC N.sw.toNat).map λst=>b1 (UF N st):=rfl
open PySem L2
inductive Tr where
 |lf (k o:Int)
 |nd (r:Bool) (ps:List Tr)
def kw(r:Bool):Str:=if r then Str.ofString "row" else Str.ofString "side"
mutual
noncomputable def Tr.d:Tr->D
 |.lf k o=>.tup [.str (Str.ofString "at"),.int k,.int o]
 |.nd r a=>.tup [.str (kw r),.tup (Tr.ds a)]
noncomputable def Tr.ds:List Tr->yM
 |[]=>[]
 |t::r=>t.d::Tr.ds r
end
mutual
noncomputable def Tr.ht:Tr->Nat
 |.lf _ _=>0
 |.nd _ a=>Tr.hts a+1
noncomputable def Tr.hts:List Tr->Nat
 |[]=>0
 |t::r=>max t.ht (Tr.hts r)
end
mutual
noncomputable def Tr.sz:Tr->Nat
 |.lf _ _=>1
 |.nd _ a=>Tr.szs a+1
noncomputable def Tr.szs:List Tr->Nat
 |[]=>0
 |t::r=>t.sz+Tr.szs r
end
theorem Do:∀ps,Tr.ds ps=ps.map Tr.d
 |[]=>rfl
 |t::r=>by show t.d::Tr.ds r=_;rw[Do r];rfl
theorem Dn:∀{ps:List Tr}{t:Tr},t∈ps->t.ht<=Tr.hts ps
 |p::r,t,h=>by
  show t.ht<=max p.ht (Tr.hts r);rcases qB0.mp h with rfl|h
  .lia
  .have:=Dn h;lia
theorem lg:∀t:Tr,1<=t.sz
 |.lf _ _=>qA6 _
 |.nd _ a=>by show 1<=Tr.szs a+1;lia
theorem Dm:∀{ps:List Tr}{t:Tr},t∈ps->t.sz<=Tr.szs ps
 |p::r,t,h=>by
  show t.sz<=p.sz+Tr.szs r;rcases qB0.mp h with rfl|h
  .lia
  .have:=Dm h;lia
theorem Dl:∀ps:List Tr,ps.length<=Tr.szs ps
 |[]=>qA6 _
 |p::r=>by
  show r.length+1<=p.sz+Tr.szs r;have:=Dl r;have:=lg p
  lia
theorem kZ(r:Bool):(kw r=Str.ofString "at")=False:=by cases r<;>simp only[eq_iff_iff,iff_false]<;>decide
theorem Dk(r:Bool):(kw r=Str.ofString "row")=(r=Z7):=by
 cases r
 .simp only[eq_iff_iff];constructor<;>intro h<;>revert h<;>decide
 .simp only[eq_iff_iff];constructor<;>intro h<;>first|rfl|trivial
@[simp]theorem zbW(a b:Str)(S:ZX):Xx (.str a) (.str b) S=.ok (.bl (decide (a=b))) S:=rfl
def Tr.un(r:Bool):Tr->List Tr
 |.nd a b=>if a=r then b else[.nd a b]
 |.lf k o=>[.lf k o]
end My
namespace L2
open PySem
theorem kY(S:ZX)(h:i.natAbs<1000000000000000000):VA [.int i] S=.ok (.str (toString i)) S:=by unfold VA;dsimp only;rw[if_pos h]
end L2
namespace My
open PySem L2
variable {cl:Nat->ZR}
mutual
noncomputable def Tr.lv:Tr->Nat
 |.lf _ _=>1
 |.nd _ a=>Tr.lvs a
noncomputable def Tr.lvs:List Tr->Nat
 |[]=>0
 |t::r=>t.lv+Tr.lvs r
end
mutual
def Tr.wf(sw:Int):Tr->Prop
 |.lf k o=>0<=k/\k<sw/\0<=o/\o<2
 |.nd _ a=>2<=a.length/\Tr.wfs sw a
def Tr.wfs(sw:Int):List Tr->Prop
 |[]=>True
 |t::r=>t.wf sw/\Tr.wfs sw r
end
theorem Dj{sw:Int}:∀{ps:List Tr},Tr.wfs sw ps->∀t∈ps,t.wf sw
 |p::r,h,t,ht=>by
  rcases qB0.mp ht with rfl|ht
  .exact h.1
  .exact Dj h.2 t ht
def kd(S:ZX)(d:D):Prop:=∃t,Ry S d=Z9 t
def isT:D->Bool|.tup _=>Z7|_=>Z5
def MQ:D->Bool|.int _=>Z7|.bl _=>Z7|_=>Z5
def Jw:D->Bool|.bl _=>Z7|_=>Z5
def isS:D->Bool|.str _=>Z7|_=>Z5
theorem kX(S:ZX)(xs:yM):kd S (.tup xs):=⟨_,rfl⟩
theorem Di(h:(ZO S k).isSome):kd S (.lst k):=⟨"list",by show(if(ZO S k).isSome then Z9 "list" else Z8)=_;rw[if_pos h]⟩
theorem MP(h:kd S (.lst k)):Ry S (.lst k)=Z9 "list":=by
 obtain⟨t,h⟩:=h;have a:(if(ZO S k).isSome then Z9 "list" else Z8)=Z9 t:=h;show(if(ZO S k).isSome then Z9 "list" else Z8)=_;split at a
 .rename_i b;rw[if_pos b]
 .cases a
theorem MO(h:kd S (.dct k)):Ry S (.dct k)=Z9 "dict":=by
 obtain⟨t,h⟩:=h;have a:V1 S k=Z9 t:=h;show V1 S k=_;unfold V1 at a;split at a
 .rename_i b e;unfold V1;rw[e]
 .cases a
theorem Vj(h:Ry S x=Z9 t)(a:T∈["bool","int","tuple","list","str","dict"]):Y1 [x,.ty T] S=.ok (.bl (Oq t T)) S:=by unfold Y1;dsimp only;rw[h];dsimp only;rw[if_pos a]
theorem MN(h:kd S x):Y1 [x,.ty "tuple"] S=.ok (.bl (isT x)) S:=by
 cases x with
 |lst k=>rw[Vj (MP h) (by decide)];rfl
 |dct k=>rw[Vj (MO h) (by decide)];rfl
 |ty k=>obtain⟨t,h⟩:=h;cases h
 |rol k=>obtain⟨t,h⟩:=h;cases h
 |_=>rw[Vj rfl (by decide)];rfl
theorem Dh(h:kd S x):Y1 [x,.ty "int"] S=.ok (.bl (MQ x)) S:=by
 cases x with
 |lst k=>rw[Vj (MP h) (by decide)];rfl
 |dct k=>rw[Vj (MO h) (by decide)];rfl
 |ty k=>obtain⟨t,h⟩:=h;cases h
 |rol k=>obtain⟨t,h⟩:=h;cases h
 |_=>rw[Vj rfl (by decide)];rfl
theorem Dg(h:kd S x):Y1 [x,.ty "bool"] S=.ok (.bl (Jw x)) S:=by
 cases x with
 |lst k=>rw[Vj (MP h) (by decide)];rfl
 |dct k=>rw[Vj (MO h) (by decide)];rfl
 |ty k=>obtain⟨t,h⟩:=h;cases h
 |rol k=>obtain⟨t,h⟩:=h;cases h
 |_=>rw[Vj rfl (by decide)];rfl
def Wb(lo hi:Int):D->Bool
 |.int i=>decide (lo<=i)&&decide (i<hi)
 |_=>Z5
def Jv:D->Bool
 |.int _=>Z7
 |_=>Z5
theorem kW(h:JS cl)(n:Nat)(hk:kd S x):cl (n+1) "is_whole" [x] S=.ok (.bl (Jv x)) S:=by
 rw[h];refine Zg rfl ?_;have a:=Dh hk;have b:=Dg hk;have z:Jv x=(if MQ x=Z7 then !Jw x else Z5):=by cases x<;>rfl
 rw[z];cases d:MQ x<;>cases c:Jw x<;>rw[d]at a<;>rw[c]at b<;>simp[Nm,Yh,a,b]
theorem kU(h:DU cl)(d:JS cl)(n:Nat)(hk:kd S x):cl (n+2) "is_bit" [x] S=.ok (.bl (Wb 0 2 x)) S:=by
 rw[show n+2=(n+1)+1 from rfl,h];refine Zg rfl ?_;have b:=kW d n hk;cases x with
 |int i =>
  have a:cl (n+1) "is_whole" [.int i] S=.ok (.bl Z7) S:=b;have:Wb 0 2 (.int i)=(decide (0<=i)&&decide (i<=1)):=by show(decide (0<=i)&&decide (i<2))=_;congr 1;exact decide_eq_decide.mpr (by lia)
  rw[this];by_cases c:0<=i<;>by_cases e:i<=1<;>simp[PQ,Yh,a,c]
 |_=>simp[PQ,Yh,b,Jv,Wb]
def Kd(S a:ZX):Prop:=∀d,kd S d->kd a d
theorem MM(h:Ex S S1):Kd S S1:=λd a=>by
 cases d with
 |lst k =>
  refine Di ?_;have hk:(ZO S k).isSome:=by
   obtain⟨t,e⟩:=a;have b:(if(ZO S k).isSome then Z9 "list" else Z8)=Z9 t:=e;split at b
   .assumption
   .cases b
  obtain⟨i,c⟩:=qI6.mp hk;rw[h.lst c λz=>z];rfl
 |dct k =>
  obtain⟨t,e⟩:=a;have e:V1 S k=Z9 t:=e;unfold V1 at e;split at e
  .rename_i g f;exact⟨"dict",by show V1 S1 k=_;unfold V1;rw[h.at f λz=>z]⟩
  .cases e
 |ty k=>obtain⟨t,e⟩:=a;cases e
 |rol k=>obtain⟨t,e⟩:=a;cases e
 |_=>exact⟨_,rfl⟩
theorem Df{xs:yM}(h:ZO S k=Z9 xs):Xp (.lst k) S=.ok (!xs.isEmpty) S:=by unfold Xp;dsimp only;rw[UG h]
theorem Ju{w:Xm}{t:Xd}{c:C}{B0:ZT}(P:yM->ZX->Prop)(b:∀l S,P l S->XQ w S):∀(items:yM) (acc:yM) {S:ZX},P acc S ->
  (∀d∈items,∀acc S,P acc S->∃f,Vy t d B0=Z9 f/\∃y e,c f S=.ok y e/\P (acc++[y]) e)->∃ds a,Zo w t (λ_=>ret Z7) c B0 items S=.ok ds a/\ds.length=items.length/\P (acc++ds) a
 |[],acc,S,h0,hs=>⟨[],S,by unfold Zo;rw[if_pos (b _ S h0)],rfl,by rw[qG8];exact h0⟩
 |d::ds,acc,S,h0,hs=>by obtain⟨f,j,y,e,m,k⟩:=hs d (by simp) acc S h0;obtain⟨p,a,o,i,g⟩:=Ju P b ds (acc++[y]) k λh n=>hs h (by simp[n]);unfold Zo;rw[if_pos (b _ S h0),j];dsimp only;rw[Xk,D9,XW,if_pos rfl,Xk,m,XW,Xk,o,XW];exact⟨y::p,a,rfl,by rw[qC9,qC9,i],by rw[qC1]at g;exact g⟩
open PySem L2 Mt
def pB(p:Prop):Bool:=@decide p (Classical.propDecidable p)
theorem UT:pB p=Z7↔p:=@decide_eq_true_iff p (Classical.propDecidable p)
theorem XP(h:p):pB p=Z7:=UT.mpr h
theorem YK(h:¬p):pB p=Z5:=by
 cases q:pB p with
 |false=>rfl
 |true=>exact absurd (UT.mp q) h
theorem UE(h:b=Z7↔p):b=pB p:=nq (h.trans UT.symm)
def Nk(S:ZX):Nat->D->Prop
 |0,d=>kd S d
 |n+1,d=>kd S d/\∀a,d=.tup a->a.length<=1000/\∀x∈a,Nk S n x
theorem Nk.k(h:Nk S n d):kd S d:=by
 cases n with
 |zero=>exact h
 |succ n=>exact h.1
theorem De(f:D->Bool):∀l:yM,U1 (l.map λd=>D.bl (f d))=Z9 (l.map f)
 |[]=>rfl
 |_::r=>by show(U1 (r.map λd=>D.bl (f d))).map (_::·)=_;rw[De f r];rfl
theorem kT(g:List Bool->Bool)(f:D->Bool)(l:yM)(h:ZO S n=Z9 (l.map λd=>D.bl (f d))):Ye g [.lst n] S=.ok (.bl (g (l.map f))) S:=by unfold Ye;dsimp only;rw[h];show(match U1 (l.map λd=>D.bl (f d))with|some bs=>R.ok (D.bl (g bs)) S|none=>.bad)=_;rw[De]
theorem Jt{c:Type}(e:c->D)(Q:c->Prop):∀xs:yM,((xs.map λd=>pB (∃l,d=e l/\Q l)).all id=Z7)↔∃r:List c,xs=r.map e/\∀l∈r,Q l
 |[]=>⟨λ_=>⟨[],rfl,λl f=>by cases f⟩,λ_=>rfl⟩
 |x::xs=>by
  rw[qB8,qL5,qD3,Jt e Q xs];show pB _=Z7/\_↔_;rw[UT];constructor
  .rintro⟨⟨l,rfl,q⟩,r,rfl,g⟩;exact⟨l::r,rfl,λz a=>by rcases qB0.mp a with rfl|a;exact q;exact g z a⟩
  .rintro⟨r,b,q⟩;cases r with
   |nil=>cases b
   |cons l r =>
    injection b with b e2;exact⟨⟨l,b,q l (by simp)⟩,r,e2,λz a=>q z (by simp[a])⟩
def Js(sw:Int)(l:yA):Prop:=l.length=2 ^ sw.toNat/\∀i∈l,0<=i/\i<2
def Wa(sw:Int)(d:D):Prop:=∃l,d=Za l/\Js sw l
theorem kS(xs:yM):((xs.map (Wb 0 2)).all id=Z7)↔∃l:yA,xs=l.map D.int/\∀i∈l,0<=i/\i<2:=by
 have:xs.map (Wb 0 2)=xs.map λd=>pB (∃i,d=D.int i/\(0<=i/\i<2)):=qF3 λd _=>UE (by
  cases d with
  |int i=>show(decide (0<=i)&&decide (i<2))=Z7↔_;rw[qD3,decide_eq_true_eq,decide_eq_true_eq];exact⟨λh=>⟨i,rfl,h⟩,λ⟨j,e,h⟩=>by cases e;exact h⟩
  | _=>exact⟨λh=>(by cases h),λ⟨j,e,_⟩=>(by cases e)⟩)
 rw[this];exact Jt D.int _ xs
theorem Dd{xs:yM}(h:xs.length=2 ^ sw.toNat):Wa sw (.tup xs)↔(xs.map (Wb 0 2)).all id=Z7:=by
 rw[kS];constructor
 .rintro⟨l,e,o⟩;exact⟨l,by cases e;rfl,o.2⟩
 .rintro⟨l,rfl,o⟩;exact⟨l,rfl,by rw[qA0]at h;exact h,o⟩
theorem Dc{xs:yM}(h:Wa sw (.tup xs)):xs.length=2 ^ sw.toNat:=by obtain⟨l,e,o⟩:=h;cases e;rw[qA0];exact o.1
theorem Da(h:isT d=Z5):¬Wa sw d:=by rintro⟨l,rfl,_⟩;cases h
structure HB(cl:Nat->ZR):Prop where
 se:PP cl
 wh:JS cl
 bi:DU cl
 fn:nj cl
theorem kR(c:ZR)(f:(xs.length:Int)=len)(h:c "settings" [.int sw] S=.ok (.lst k) a)(l:Zi [.lst k] a=.ok (.int q) a)(g:len=q)(e:xs.length<lim)(i:Zo [] .one (λ_=>ret Z7) (JL c) [Z8] xs a=.ok bs d)(j:d++[.lst bs]=S3)(m:Ye (λbs=>bs.all id) [.lst d.length] S3=.ok (.bl b) S3):
  Td c [Z9 (.int sw),Z9 (.tup xs)] S=.rt (.bl b) S3:=by simp[Td,f,h,l,g,e,i,j,m]
theorem kQ(c:ZR){xs:yM}(a:(xs.length:Int)=len)(b:c "settings" [.int sw] S=.ok (.lst k) S1)(e:Zi [.lst k] S1=.ok (.int q) S1)(d:¬len=q):
  Td c [Z9 (.int sw),Z9 (.tup xs)] S=.rt (.bl Z5) S1:=by simp[Td,a,b,e,d]
theorem kP(H:HB cl)(n:Nat)(q:1<=sw)(j:sw<=4)(hk:Nk S 1 d):Wq (cl (n+3) "is_function" [.int sw,d] S) ((.bl (pB (Wa sw d)))) S:=by
 rw[show n+3=(n+2)+1 from rfl,H.fn];have m:=MN hk.k;cases d with
 |tup a =>
  obtain⟨k,S1,f,e,_,l⟩:=Dt H.se (n+1) (by lia) j S;have c:=Nv l;rw[qA0,SZ]at c;obtain⟨p,h⟩:=hk.2 a rfl;by_cases b:a.length=2 ^ sw.toNat
  .have g:Zo [] .one (λ_=>ret Z7) (JL (cl (n+2))) [Z8] (a.map id) S1=.ok (a.map λd=>.bl (Wb 0 2 d)) S1:=by
    refine Wc id (Yp _) (λd=>.bl (Wb 0 2 d)) a λd i=>⟨_,rfl,?_⟩
    have:=kU H.bi H.wh n (MM e d (h d i));exact this
   rw[qS2]at g;have o:=kT (n:=S1.length) (λbs=>bs.all id) (Wb 0 2) a (Zm _ _);refine⟨_,Zg rfl ?_,e.trans (Zt S1 [.lst (a.map λd=>.bl (Wb 0 2 d))])⟩;rw[<- UE (Dd b).symm];exact kR _ rfl f c (by rw[b]) (by rw[YY];lia) g rfl o
  .refine⟨S1,Zg rfl ?_,e⟩;rw[YK λz=>b (Dc z)];exact kQ _ rfl f c (by intro z;exact b (by exact_mod_cast z))
 |_ =>
  refine⟨S,Zg rfl ?_,Kp.refl _ _⟩;rw[YK (Da rfl)];simp[Td,Yh,m,isT]
def Jr(r:List (yA)):D:=.tup (r.map Za)
def C9(sw:Int)(p:Nat)(r:List (yA)):Prop:=r.length=p/\∀l∈r,Js sw l
abbrev Tb:=List (List (yA))
def tD(T:Tb):D:=.tup (T.map Jr)
def Jq(sw:Int)(T:Tb):Prop:=2<=T.length/\T.length<=7/\∀r∈T,C9 sw T.length r
def R8(T:Tb)(a b:Nat):yA:=(T.getD a []).getD b []
def kO(T:Tb):Prop:=(∀a,a<T.length->0∉R8 T a a)/\∀a,a<T.length->∀b,b<a->R8 T a b=R8 T b a
theorem kN(ok:Jq sw T)(b:a<T.length):T[a]?=Z9 (T.getD a [])/\C9 sw T.length (T.getD a []):=by
 have:T.getD a []=T[a]:=by rw[qF6,qA3 b];rfl
 rw[this];exact⟨qA3 b,ok.2.2 _ (qD5 b)⟩
theorem zNs(ok:Jq sw T)(d:a<T.length)(e:b<T.length):(T.getD a [])[b]?=Z9 (R8 T a b)/\Js sw (R8 T a b):=by
 obtain⟨_,l,o⟩:=kN ok d;have c:b<(T.getD a []).length:=by rw[l];exact e
 have:R8 T a b=(T.getD a [])[b]:=by unfold R8;rw[qF6,qA3 c];rfl
 rw[this];exact⟨qA3 c,o _ (qD5 c)⟩
structure Jp(S:ZX)(k:Nat)(rs:List Nat)(T:Tb):Prop where
 out:ZO S k=Z9 (rs.map D.lst)
 len:rs.length=T.length
 nd:rs.Nodup
 nk:k∉rs
 row:∀(a r:Nat),rs[a]?=Z9 r->ZO S r=Z9 ((T.getD a []).map Za)
def TOk(S0:ZX)(i k:Nat)(rs:List Nat)(sw:Int)(p:Nat)(S:ZX):Prop:=∃T,Jp S k rs T/\Jq sw T/\kO T/\T.length=p/\Kp (·=i) S0 S/\Yu S i
theorem C8(P:yM->ZX->Prop)(f:∀l S,P l S->XQ w S)(items:yM)(hs:∀(d:D) (acc:yM) (S:ZX),items[acc.length]?=Z9 d->P acc S->∃e,Vy t d B0=Z9 e/\∃y b,c e S=.ok y b/\P (acc++[y]) b)(r:P [] S):
  ∃ds S',Zo w t (λ_=>ret Z7) c B0 items S=.ok ds S'/\ds.length=items.length/\P ds S':=by
 have u:∀(a acc:yM) (S:ZX),(∀j,a[j]?=items[acc.length+j]?)->P acc S->∃ds S',Zo w t (λ_=>ret Z7) c B0 a S=.ok ds S'/\ds.length=a.length/\P (acc++ds) S':=by
  intro a
  induction a with
  |nil=>exact λacc S _ h=>⟨[],S,by unfold Zo;rw[if_pos (f _ S h)],rfl,by rw[qG8];exact h⟩
  |cons d a k =>
   intro acc S g h;obtain⟨e,n,y,b,p,o⟩:=hs d acc S (by have:=g 0;rw[Nat.add_zero]at this;rw[<- this];rfl) h;obtain⟨s,S',q,m,i⟩:=k (acc++[y]) b (λj=>by
    have:=g (j+1);rw[qB9,qJ6,qS6,Nat.add_comm 1 j,<- this];rfl) o
   unfold Zo;rw[if_pos (f _ S h),n];dsimp only;rw[Xk,D9,XW,if_pos rfl,Xk,p,XW,Xk,q,XW];exact⟨y::s,S',rfl,by rw[qC9,qC9,m],by rw[qC1]at i;exact i⟩
 exact u items [] S (λj=>by rw[qL8,qN3]) r
def ML(l m:yA):yA:=(l.zip m).map λp=>if 0<p.1+p.2 then 1 else 0
def sE(x:Str):D->Bool
 |.str y=>decide (y=x)
 |_=>Z5
def Sn(d:D):Prop:=∃p,(∀S,Zz 40 S d=Z9 p)/\(∀x,p=.str x->d=.str x)/\(isS d=Z5->XS d=Z8->∃a,d=.tup a)
theorem kM(h:∀y,p≠.str y):PyData.eqv p (.str x)=Z5/\PyData.eqv (.str x) p=Z5:=by
 cases p with
 |str y=>exact absurd rfl (h y)
 |_=>exact⟨rfl,rfl⟩
theorem ne_str(h:Sn d)(a:PyData.strOk x=Z7)(S:ZX):Xx d (.str x) S=.ok (.bl (sE x d)) S/\Wk d (.str x) S=.ok (.bl (!sE x d)) S:=by
 obtain⟨p,f,g,_⟩:=h;cases d with
 |str y=>exact⟨rfl,rfl⟩
 |_ =>
  have c:∀y,p≠.str y:=λy e=>by have:=g y e;cases this
  have b:Zz 40 S (.str x)=Z9 (.str x):=by unfold Zz;dsimp only;rw[if_pos a]
  have:=(kM (x:=x) c).1;unfold Xx Wk;dsimp only;rw[f S,b];dsimp only;rw[this];exact⟨rfl,rfl⟩
def T3(l m:yA):yA:=(l.zip m).map λp=>p.1*p.2
theorem C7{x:Int}(h:0<=x/\x<2):x=0∨x=1:=by lia
theorem kL(c:ZR)(a:x=0∨x=1)(b:y=0∨y=1)(S:ZX):DR c [Z9 (.int x),Z9 (.int y)] S=.ok (.int (x*y)) S:=by rcases a with rfl|rfl<;>rcases b with rfl|rfl<;>simp<;>rfl
theorem Jo(c:ZR)(a:x=0∨x=1)(b:y=0∨y=1)(S:ZX):DP c [Z9 (.int x),Z9 (.int y)] S=.ok (.int (if 0<x+y then 1 else 0)) S:=by rcases a with rfl|rfl<;>rcases b with rfl|rfl<;>simp<;>rfl
theorem kK{X Y R:yM}(a:(zipD X Y).length<lim)(b:Zo [] (.many 2) (λ_=>ret Z7) e [Z8,Z8] (zipD X Y) S=.ok R S)(c:S++[.lst R]=S1)(t:Xn [.lst S.length] S1=.ok (.tup R) S1):
  (ZV (ZL (ZS Xn (ZQ [(Yv (Uc (ZQ [(ZY 0),(ZY 1)])) 2 [] (.many 2) (λ_=>ret Z7) e)]))) ZF) [Z9 (.tup X),Z9 (.tup Y)] S=.rt (.tup R) S1:=by simp[a,b,c,t]
theorem C6(f:Int->Int->Int)(l m:yA)(d:l.length<=16)(S:ZX)(he:∀p∈l.zip m,e [Z9 (.int p.1),Z9 (.int p.2)] S=.ok (.int (f p.1 p.2)) S):
  ∃S1,(ZV (ZL (ZS Xn (ZQ [(Yv (Uc (ZQ [(ZY 0),(ZY 1)])) 2 [] (.many 2) (λ_=>ret Z7) e)]))) ZF) [Z9 (Za l),Z9 (Za m)] S=.rt (Za ((l.zip m).map λp=>f p.1 p.2)) S1/\Ex S S1:=by
 have z:zipD (l.map D.int) (m.map D.int)=(l.zip m).map λp=>.tup [.int p.1,.int p.2]:=by unfold zipD;rw[List.zip_map,qC8];rfl
 have c:Zo [] (.many 2) (λ_=>ret Z7) e [Z8,Z8] (zipD (l.map D.int) (m.map D.int)) S=.ok (((l.zip m).map λp=>f p.1 p.2).map D.int) S:=by rw[z,qC8];exact Wc (fun(p:Int×Int)=>D.tup [.int p.1,.int p.2]) (Yp _) _ _ λp b=>⟨[Z9 (.int p.1),Z9 (.int p.2)],rfl,he p b⟩
 obtain⟨S1,a⟩:∃S1,S++[O.lst (((l.zip m).map λp=>f p.1 p.2).map D.int)]=S1:=⟨_,rfl⟩
 refine⟨S1,kK ?_ c a (by rw[<- a];exact Tn (Zm _ _)),by rw[<- a];exact Zt _ _⟩;rw[z,qA0,qM0,YY];lia
def R6(l:yA):Prop:=∀i∈l,0<=i/\i<2
theorem MK(b:R6 l)(hm:R6 m)(a:p∈l.zip m):(p.1=0∨p.1=1)/\(p.2=0∨p.2=1):=by have:=qL7 a;exact⟨C7 (b _ this.1),C7 (hm _ this.2)⟩
theorem kJ(h:DQ cl)(n:Nat)(d:l.length<=16)(b:R6 l)(c:R6 m)(S:ZX):Wq (cl (n+1) "where_both" [Za l,Za m] S) (Za (T3 l m)) S:=by obtain⟨f,e,x⟩:=C6 (λx y=>x*y) l m d S λp a=>kL _ (MK b c a).1 (MK b c a).2 S;exact⟨f,by rw[h];exact Zg rfl e,x⟩
theorem kI(h:DO cl)(n:Nat)(d:l.length<=16)(b:R6 l)(c:R6 m)(S:ZX):Wq (cl (n+1) "where_either" [Za l,Za m] S) (Za (ML l m)) S:=by obtain⟨f,e,x⟩:=C6 (λx y=>if 0<x+y then 1 else 0) l m d S λp a=>Jo _ (MK b c a).1 (MK b c a).2 S;exact⟨f,by rw[h];exact Zg rfl e,x⟩
mutual
noncomputable def Tr.on(st:yA):Tr->Bool
 |.lf k o=>decide (st.getD k.toNat 0=o)
 |.nd r a=>if r then Tr.onA st a else Tr.onO st a
noncomputable def Tr.onA(st:yA):List Tr->Bool
 |[]=>Z7
 |t::r=>t.on st&&Tr.onA st r
noncomputable def Tr.onO(st:yA):List Tr->Bool
 |[]=>Z5
 |t::r=>t.on st||Tr.onO st r
end
def Q7(sw:Int)(t:Tr):yA:=(ZC sw.toNat).map λst=>b1 (t.on st)
def T2(r:Bool)(a b:Bool):Bool:=if r then a&&b else a||b
def VO(r:Bool)(st:yA):Bool->List Tr->Bool
 |a,[]=>a
 |a,t::b=>VO r st (T2 r a (t.on st)) b
theorem C5(r:Bool)(st:yA):∀(ps:List Tr) (a:Bool),VO r st a ps=T2 r a (if r then Tr.onA st ps else Tr.onO st ps)
 |[],a=>by cases r<;>cases a<;>rfl
 |t::ps,a=>by show VO r st (T2 r a (t.on st)) ps=_;rw[C5 r st ps];cases r<;>simp[T2,Tr.onA,Tr.onO,Bool.and_assoc,Bool.or_assoc]
theorem kH(r:Bool)(st:yA)(t:Tr)(ps:List Tr):(Tr.nd r (t::ps)).on st=VO r st (t.on st) ps:=by rw[C5];cases r<;>simp[Tr.on,Tr.onA,Tr.onO,T2]
theorem kG(l:List (yA))(f g:yA->Bool):T3 (l.map λst=>b1 (f st)) (l.map λst=>b1 (g st))=l.map λst=>b1 (f st&&g st):=by
 unfold T3
 induction l with
 |nil=>rfl
 |cons a l b =>
  simp only[qB8,qP9]at b ⊢;rw[b];cases f a<;>cases g a<;>rfl
theorem kF(l:List (yA))(f g:yA->Bool):ML (l.map λst=>b1 (f st)) (l.map λst=>b1 (g st))=l.map λst=>b1 (f st||g st):=by
 unfold ML
 induction l with
 |nil=>rfl
 |cons a l b =>
  simp only[qB8,qP9]at b ⊢;rw[b];cases f a<;>cases g a<;>rfl
theorem kE(r:Bool)(l:List (yA))(f g:yA->Bool):(if r then T3 (l.map λst=>b1 (f st)) (l.map λst=>b1 (g st))else ML (l.map λst=>b1 (f st)) (l.map λst=>b1 (g st)))=l.map λst=>b1 (T2 r (f st) (g st)):=by
 cases r
 .rw[if_neg qB4,kF];rfl
 .rw[if_pos rfl,kG];rfl
def WN(sw k o:Int):XF:=⟨sw,2,[⟨0,1,k,o⟩]⟩
theorem kC(b:1<=sw)(g:sw<=4)(h:(Tr.lf k o).wf sw):(WN sw k o).g:=by obtain⟨d,i,f,e⟩:=h;refine⟨b,g,by show 2<=2;decide,by show 2<=7;decide,by simp[WN],λc a=>?_⟩;simp only[WN,qB0,qF0,or_false]at a;subst a;exact⟨by show 0<=0;decide,by show 0<1;decide,by show 1<2;decide,d,i,f,e⟩
theorem kB(sw k o:Int)(st:yA):UF (WN sw k o) st=(Tr.lf k o).on st:=by
 have e:(Tr.lf k o).on st=T4 ⟨0,1,k,o⟩ st:=rfl;rw[e,qV0,lu];constructor
 .intro h;refine Classical.byContradiction λn=>?_;have:=h (λx=>x=0) rfl λc a b=>by simp only[WN,qB0,qF0,or_false]at a;subst a;exact absurd b n
  cases this
 .intro h C d f;exact(f ⟨0,1,k,o⟩ (by simp[WN]) h).mp d
theorem kA(sw k o:Int):Wp (WN sw k o)=Q7 sw (.lf k o):=by rw[lh];exact qF3 λst _=>by rw[kB]
theorem MJ(l:List (yA))(f:yA->Bool):R6 (l.map λst=>b1 (f st)):=λi a=>by obtain⟨st,_,rfl⟩:=qC4.mp a;unfold b1;split<;>decide
structure MI(cl:Nat->ZR):Prop where
 f:HF cl
 ln:DN cl
 tf:ni cl
 wb:DQ cl
 we:DO cl
theorem kz(c:ZR)(b:c "lone_net" [.int sw,.tup [.str (Str.ofString "at"),.int k,.int o]] S=.ok a S)(d:c "function_of" [a] S=.ok fd S1):Sd c [Z9 (.int sw),Z9 (.tup [.str (Str.ofString "at"),.int k,.int o]),Z8,Z8,Z8] S=.rt fd S1:=by simp[Sd,b,d]
theorem kx(h:DN cl)(n:Nat)(sw k o:Int)(S:ZX):cl (n+1) "lone_net" [.int sw,(Tr.lf k o).d] S=.ok (WN sw k o).d S:=by rw[h];exact Zg rfl (by simp[M8,Yh,Tr.d,WN,XF.d,Ct.d])
theorem Jn(c:ZR){r:Bool}{X:yM}(g:c "tree_function" [sw,p] S=.ok b f)(e:c (if r then "where_both" else "where_either") [a,b] f=.ok d S2):PL c [Z9 sw,Z9 (.tup [.str (kw r),.tup X]),Z9 a,Z9 p,w4] S=.nx [Z9 sw,Z9 (.tup [.str (kw r),.tup X]),Z9 d,Z9 p,Z9 b] S2:=by
 cases r
 .rw[if_neg qB4]at e;simp[PL,g,Dk,e]
 .rw[if_pos rfl]at e;simp[PL,g,Dk,e]
theorem kv(c:ZR){ps:yM}(f:Zr (p0::ps) (Z9 1) Z8=ps)(i:ps.length<lim)(h:c "tree_function" [sw,p0] S=.ok a b)(e:Zf [] (gN 3) (PL c) ps [Z9 sw,Z9 (.tup [.str (kw r),.tup (p0::ps)]),Z9 a,Z8,Z8] b=.nx [Z9 sw,Z9 (.tup [.str (kw r),.tup (p0::ps)]),Z9 d,w3,w4] S2):
  Sd c [Z9 sw,Z9 (.tup [.str (kw r),.tup (p0::ps)]),Z8,Z8,Z8] S=.rt d S2:=by have g:Xz (p0::ps) 0=Z9 p0:=Vo rfl;simp[Sd,kZ,g,h,f,e]
inductive ku(sw:Int)(r:Bool)(X:yM)(t0:Tr)(ps:List Tr)(S0:ZX)(j:Nat)(B:ZT)(S:ZX):Prop
 |mk (w3 w4:Option D) (e:B=[Z9 (.int sw),Z9 (.tup [.str (kw r),.tup X]),Z9 (Za ((ZC sw.toNat).map λst=>b1 (VO r st (t0.on st) (ps.take j)))),w3,w4]) (x:Ex S0 S)
theorem C3(r:Bool)(st:yA):∀(ps:List Tr) (a:Bool) (t:Tr),VO r st a (ps++[t])=T2 r (VO r st a ps) (t.on st)
 |[],_,_=>rfl
 |p::ps,a,t=>C3 r st ps (T2 r a (p.on st)) t
theorem kq(H:MI cl){sw:Int}(N:1<=sw)(J:sw<=4):∀(K:Nat) (t:Tr),t.ht<=K->t.wf sw->t.sz<=1000->∀(n:Nat) (S:ZX),Wq (cl (n+K+5) "tree_function" [.int sw,t.d] S) (Za (Q7 sw t)) S:=by
 have b:∀(k o),(Tr.lf k o).wf sw->∀n S,Wq (cl (n+5) "tree_function" [.int sw,(Tr.lf k o).d] S) (Za (Q7 sw (.lf k o))) S:=λk o e n S=>by obtain⟨s,m,u⟩:=H.f.fun n (kC N J e) S;rw[kA]at m;refine⟨s,?_,u⟩;rw[show n+5=(n+4)+1 from rfl,H.tf];exact Zg rfl (kz _ (kx H.ln (n+3) sw k o S) m)
 intro K
 induction K with
 |zero =>
  intro t ht e w n S;cases t with
  |lf k o=>exact b k o e n S
  |nd r ps=>simp[Tr.ht]at ht
 |succ K D =>
  intro t ht e w n S;cases t with
  |lf k o=>exact b k o e (n+(K+1)) S
  |nd r ps =>
   have T:Tr.hts ps+1<=K+1:=ht;have W:Tr.szs ps+1<=1000:=w;have h:2<=ps.length/\Tr.wfs sw ps:=e;cases ps with
   |nil=>simp at h
   |cons a ps =>
    have c:=λt v S=>D t (by have:=Dn v;lia) (Dj h.2 t v) (by have:=Dm v;lia) n S;obtain⟨s,m,u⟩:=c a (by simp) S;obtain⟨Y,V,L,E,U,y,G⟩:=Ua (g:=gN 3) (items:=ps.map Tr.d) (ku sw r (a.d::ps.map Tr.d) a ps s)
     (λ_ _ _ _=>Yp _) ⟨_,_,rfl,Kp.refl _ _⟩
     (λj d B F p M=>by
      obtain⟨E,U,rfl,x⟩:=M;rw[qB1]at p;obtain⟨t,z,rfl⟩:=qA7.mp p;obtain⟨l,P,O⟩:=c t (qC5 _ (qC2 z)) F;have I:ps.take (j+1)=ps.take j++[t]:=by rw[qT7,z];rfl
      have A:((ZC sw.toNat).map λst=>b1 (VO r st (a.on st) (ps.take j))).length<=16:=by
       rw[qA0,SZ];have:=Jx (j:=sw.toNat) (by lia)
       lia
      have Q:∃S4,cl (n+K+5) (if r then "where_both" else "where_either") [Za ((ZC sw.toNat).map λst=>b1 (VO r st (a.on st) (ps.take j))),Za (Q7 sw t)] l=.ok (Za ((ZC sw.toNat).map λst=>b1 (VO r st (a.on st) (ps.take (j+1))))) S4/\Ex l S4:=by
       have q:=kE r (ZC sw.toNat) (λst=>VO r st (a.on st) (ps.take j)) (λst=>t.on st);have C:((ZC sw.toNat).map λst=>b1 (VO r st (a.on st) (ps.take (j+1))))=(ZC sw.toNat).map λst=>b1 (T2 r (VO r st (a.on st) (ps.take j)) (t.on st)):=qF3 λst _=>by rw[I,C3]
       rw[C,<- q];cases r
       .obtain⟨S4,i,f⟩:=kI H.we (n+K+4) A (MJ _ _) (MJ (ZC sw.toNat) λst=>t.on st) l;exact⟨S4,i,f⟩
       .obtain⟨S4,i,f⟩:=kJ H.wb (n+K+4) A (MJ _ _) (MJ (ZC sw.toNat) λst=>t.on st) l;exact⟨S4,i,f⟩
      obtain⟨S4,i,f⟩:=Q;exact⟨_,_,rfl,_,S4,.inl (Jn _ P i),⟨_,_,rfl,(x.trans O).trans f⟩⟩)
    rw[qA0,qK5]at y;subst y;have p:(Tr.nd r (a::ps)).d=.tup [.str (kw r),.tup (a.d::ps.map Tr.d)]:=by simp[Tr.d,Tr.ds,Do]
    have X:Q7 sw (.nd r (a::ps))=(ZC sw.toNat).map λst=>b1 (VO r st (a.on st) ps):=by exact qF3 λst _=>by rw[kH]
    have R:Zr (a.d::ps.map Tr.d) (Z9 1) Z8=ps.map Tr.d:=by rw[PR _ (by decide)];rfl
    refine⟨V,?_,u.trans G⟩;rw[show n+(K+1)+5=(n+K+5)+1 by lia,H.tf,p,X];exact Zg rfl (kv _ R (by rw[qA0,YY];have:=Dl (a::ps);simp at this;lia) m L)
def ZG(a:Nat)(bs:List Bool):Nat:=bs.foldl (λn b=>2*n+b.toNat) a
theorem C2:∀(bs d:List Bool) (a b:Nat),bs.length=d.length->ZG a bs=ZG b d->a=b/\bs=d
 |[],[],a,b,_,h=>⟨h,rfl⟩
 |[],c::d,a,b,h,_=>by simp at h
 |b::bs,[],_,_,h,_=>by simp at h
 |x::bs,y::d,a,b,hl,h=>by obtain⟨f,e⟩:=C2 bs d (2*a+x.toNat) (2*b+y.toNat) (by simpa using hl) h;cases x<;>cases y<;>simp at f ⊢<;>first|exact⟨by lia,e⟩| lia
theorem Q6:∀(bs:List Bool) (a:Nat),ZG a bs<(a+1)*2 ^ bs.length
 |[],a=>by simp[ZG]
 |x::bs,a=>by have h:=Q6 bs (2*a+x.toNat);refine qC0 h ?_;rw[qC9,qR2,Nat.mul_comm (2 ^ bs.length) 2,<- Nat.mul_assoc];exact qO6 _ (by cases x<;>simp<;>lia)
def Yg(sw:Nat)(k o:Int):Nat:=ZG 0 ((ZC sw).map λst=>decide (st.getD k.toNat 0=o))
def Zh(sw:Nat):List Nat:=(List.range sw).flatMap fun(k:Nat)=>[Yg sw k 0,Yg sw k 1]
def NN(sw:Nat):Nat:=2 ^ 2 ^ sw
open Classical in
def nxt(sw:Nat)(T:List (List Nat)):List Nat:=(List.range (NN sw)).filter λz=>decide ((∀x∈T,z∉x)/\∃l,l<(T.length+1) / 2/\∃a∈T.getD l [],∃b∈T.getD (T.length - 1 - l) [],z=a &&& b∨z=a ||| b)
def Vv(sw:Nat):Nat->List (List Nat)
 |0=>[Zh sw]
 |m+1=>Vv sw m++[nxt sw (Vv sw m)]
def lv(sw m:Nat):List Nat:=(Vv sw m).getD m []
theorem OX(sw:Nat):∀m,(Vv sw m).length=m+1
 |0=>rfl
 |m+1=>by simp[Vv,OX sw m]
theorem R3(sw:Nat):∀(m i:Nat),i<=m->(Vv sw m).getD i []=lv sw i
 |0,i,h=>by
  have:i=0:=by lia
  subst this;rfl
 |m+1,i,h=>by
  by_cases a:i=m+1
  .subst a;rfl
  .have b:=OX sw m;show(Vv sw m++[nxt sw (Vv sw m)]).getD i []=_;rw[qF6,qA8 (by lia),<- qF6];exact R3 sw m i (by lia)
theorem ko(sw:Nat)(h:x∈Vv sw m):∃i,i<=m/\x=lv sw i:=by obtain⟨i,a,rfl⟩:=qK3 h;have b:=OX sw m;refine⟨i,by lia,?_⟩;rw[<- R3 sw m i (by lia),qF6,qA3 a];rfl
theorem kn(sw:Nat)(h:i<=m):lv sw i∈Vv sw m:=by have a:=OX sw m;rw[<- R3 sw m i h,qF6,qA3 (by lia)];exact qD5 _
theorem Q5(sw z:Nat):z∈lv sw 0↔z∈Zh sw:=Iff.rfl
def C1(T:Nat->List Nat)(m z:Nat):Prop:=∃l,l<(m+1) / 2/\∃a∈T l,∃b∈T (m - 1 - l),z=a &&& b∨z=a ||| b
theorem OW(sw m z:Nat):z∈lv sw (m+1)↔z<NN sw/\(∀i,i<=m->z∉lv sw i)/\C1 (lv sw) (m+1) z:=by
 have d:=OX sw m;have e:lv sw (m+1)=nxt sw (Vv sw m):=by show(Vv sw m++[nxt sw (Vv sw m)]).getD (m+1) []=_;rw[qF6,qA2 (by lia),d,qJ4];rfl
 rw[e];unfold nxt C1;rw[qG7,qC7];simp only[decide_eq_true_eq,d];refine and_congr_right λ_=>and_congr ⟨λh i b=>h _ (kn sw b),λh x f=>?_⟩ ?_
 .obtain⟨i,b,rfl⟩:=ko sw f;exact h i b
 .refine⟨λ⟨l,c,a⟩=>⟨l,c,?_⟩,λ⟨l,c,a⟩=>⟨l,c,?_⟩⟩
  .rw[R3 sw m l (by lia),R3 sw m _ (by lia)]at a;exact a
  .rw[R3 sw m l (by lia),R3 sw m _ (by lia)];exact a
theorem kj(sw:Nat)(h:z∈Zh sw):z<NN sw:=by
 obtain⟨k,_,h⟩:=qO3.mp h;have g:=λo=>by have:=Q6 ((ZC sw).map λst=>decide (st.getD (k:Int).toNat 0=o)) 0;rw[qA0,SZ]at this;simpa[NN]using this
 simp at h;rcases h with rfl|rfl<;>exact g _
theorem TZ(sw:Nat):∀(m:Nat) {z:Nat},z∈lv sw m->z<NN sw
 |0,z,h=>kj sw h
 |m+1,z,h=>((OW sw m z).mp h).1
theorem MG(sw:Nat)(a:z∈lv sw i)(b:z∈lv sw j):i=j:=by
 rcases qM7 i j with h|h|h
 .cases j with
  |zero=>lia
  |succ j=>exact absurd a (((OW sw j z).mp b).2.1 i (by lia))
 .exact h
 .cases i with
  |zero=>lia
  |succ i=>exact absurd b (((OW sw i z).mp a).2.1 j (by lia))
theorem zNZ(c:a<NN sw)(d:b<NN sw)(h:z=a &&& b∨z=a ||| b):z<NN sw:=by
 rcases h with rfl|rfl
 .exact qI0 Nat.and_le_left c
 .exact Nat.or_lt_two_pow c d
def Kn(sw m z:Nat):Prop:=∃i,i<=m/\z∈lv sw i
theorem MF(h:Kn sw m z)(hk:m<=k):Kn sw k z:=let ⟨i,hi,h⟩:=h;⟨i,by lia,h⟩
theorem Q4(f:Kn sw i a)(e:Kn sw j b)(h:z=a &&& b∨z=a ||| b):Kn sw (i+j+1) z:=by
 obtain⟨c,p,f⟩:=f;obtain⟨d,o,e⟩:=e;refine Classical.byContradiction λg=>?_;have l:=zNZ (TZ sw _ f) (TZ sw _ e) h;refine g ⟨c+d+1,by lia,(OW sw _ z).mpr ⟨l,λk hk m=>g ⟨k,by lia,m⟩,?_⟩⟩;by_cases n:c<=d
 .refine⟨c,by lia,a,f,b,?_,h⟩;rw[show c+d+1 - 1 - c=d by lia];exact e
 .refine⟨d,by lia,b,e,a,?_,?_⟩
  .simp_all
  .rw[Nat.and_comm,Nat.or_comm b a];exact h
theorem OV(h:z∈Zh sw):Kn sw 0 z:=⟨0,qA6 _,h⟩
theorem ki(d:a∈Zh sw)(f:b∈Zh sw)(e:c∈Zh sw):Kn sw 2 (a &&& b &&& c):=Q4 (Q4 (OV d) (OV f) (.inl rfl)) (OV e) (.inl rfl)
def TY(n x:Nat):List Nat:=(List.range n).filter λj=>x.testBit j
def OU(b:List Nat)(a:Nat):Nat:=b.foldl (λn j=>n ||| 2 ^ j) a
theorem C0{sw:Nat}(c:∀j,j<2 ^ sw->Kn sw 2 (2 ^ j)):∀(b:List Nat) (a m:Nat),(∀j∈b,j<2 ^ sw)->Kn sw m a->Kn sw (m+3*b.length) (OU b a)
 |[],a,m,_,h=>h
 |j::b,a,m,hs,h=>by have e:=Q4 h (c j (hs j (by simp))) (.inr rfl);have f:=C0 c b (a ||| 2 ^ j) (m+2+1) (λi d=>hs i (by simp[d])) e;exact MF f (by simp;lia)
theorem Jm:∀j,j<2 ^ 1->∃a∈Zh 1,∃b∈Zh 1,∃c∈Zh 1,2 ^ j=a &&& b &&& c:=by decide
theorem Jl:∀j,j<2 ^ 2->∃a∈Zh 2,∃b∈Zh 2,∃c∈Zh 2,2 ^ j=a &&& b &&& c:=by decide
theorem Jk:∀j,j<2 ^ 3->∃a∈Zh 3,∃b∈Zh 3,∃c∈Zh 3,2 ^ j=a &&& b &&& c:=by decide
theorem kh:∃a∈Zh 1,∃b∈Zh 1,0=a &&& b:=by decide
theorem kg:∃a∈Zh 2,∃b∈Zh 2,0=a &&& b:=by decide
theorem kf:∃a∈Zh 3,∃b∈Zh 3,0=a &&& b:=by decide
theorem ke:∀x,x<256->x=OU (TY 8 x) 0/\(TY 8 x).length<=8:=by decide
theorem CZ:∀x,x<16->x=OU (TY 4 x) 0/\(TY 4 x).length<=4:=by decide
theorem CY:∀x,x<4->x=OU (TY 2 x) 0/\(TY 2 x).length<=2:=by decide
theorem Jj(l:∀j,j<2 ^ sw->∃a∈Zh sw,∃b∈Zh sw,∃c∈Zh sw,2 ^ j=a &&& b &&& c)(i:∃a∈Zh sw,∃b∈Zh sw,0=a &&& b)(h:x=OU (TY (2 ^ sw) x) 0/\(TY (2 ^ sw) x).length<=8):Kn sw 25 x:=by
 obtain⟨a,f,b,g,e⟩:=i;have k:Kn sw 1 0:=Q4 (OV f) (OV g) (.inl e);have:=C0 (λj d=>by
  obtain⟨a,f,b,g,c,m,e⟩:=l j d;rw[e];exact ki f g m) (TY (2 ^ sw) x) 0 1 (λj d=>by exact qC7.mp (qG7.mp d).1) k
 rw[h.1];exact MF this (by lia)
theorem CW(b:1<=sw)(c:sw<=3)(a:x<NN sw):Kn sw 25 x:=by
 have:sw=1∨sw=2∨sw=3:=by lia
 rcases this with rfl|rfl|rfl
 .exact Jj Jm kh ⟨(CY x a).1,by have:=(CY x a).2;exact qD0 this (by decide)⟩
 .exact Jj Jl kg ⟨(CZ x a).1,by have:=(CZ x a).2;exact qD0 this (by decide)⟩
 .exact Jj Jk kf (ke x a)
def XZ(z:Nat):ZI:=.inl (z:Int)
def YF(kvs:List (ZI×D))(xs:List Nat):Prop:=kvs.map (·.1)=xs.map XZ
theorem ME(h:XZ a=XZ b):a=b:=by
 have:=Sum.inl.inj h
 lia
theorem CV:∀{kvs:List (ZI×D)}{xs:List Nat},YF kvs xs->∀z:Nat,(kvs.any λa=>decide (a.1=XZ z))=decide (z∈xs)
 |[],[],_,z=>rfl
 |[],x::xs,h,z=>by simp[YF]at h
 |p::kvs,[],h,z=>by simp[YF]at h
 |p::kvs,x::xs,h,z=>by
  simp only[YF,qB8,qL0.injEq]at h;rw[qH5,CV h.2,h.1];by_cases e:x=z
  .subst e;simp
  .have:XZ x≠XZ z:=λq=>e (ME q);simp[this,Ne.symm e]
theorem Ji:∀{kvs:List (ZI×D)}{xs:List Nat},YF kvs xs->∀z:Nat,(z∉xs->YA kvs (XZ z)=Z8)/\(z∈xs->∃d,YA kvs (XZ z)=Z9 d/\(XZ z,d)∈kvs)
 |[],[],_,z=>⟨λ_=>rfl,λh=>by cases h⟩
 |[],x::xs,h,z=>by simp[YF]at h
 |p::kvs,[],h,z=>by simp[YF]at h
 |p::kvs,x::xs,h,z=>by
  simp only[YF,qB8,qL0.injEq]at h;obtain⟨g,i⟩:=Ji h.2 z;obtain⟨k,v⟩:=p;dsimp only at h;have e:YA ((k,v)::kvs) (XZ z)=if k=XZ z then Z9 v else YA kvs (XZ z):=by
   unfold YA;by_cases q:k=XZ z
   .simp[q]
   .simp[q]
  rw[e,h.1];by_cases q:x=z
  .simp_all
  .have:=λw=>q (ME w);rw[if_neg this];refine⟨λf=>g λc=>f (qC5 _ c),λc=>?_⟩;rcases qB0.mp c with rfl|c
   .exact absurd rfl q
   .obtain⟨d,a,b⟩:=i c;exact⟨d,a,qC5 _ b⟩
def XE(xs:List Nat)(z:Nat):List Nat:=if z∈xs then xs else xs++[z]
theorem Q3:x∈XE xs z↔x∈xs∨x=z:=by
 unfold XE;split
 .simp_all
 .simp
theorem Jh(h:xs.Nodup):(XE xs z).Nodup:=by
 unfold XE;split
 .exact h
 .rename_i d;rw[qH8];refine⟨h,by simp,λa f b c=>?_⟩;simp at c;subst c;exact λe=>d (e▸f)
theorem Jg(h:YF kvs xs)(z:Nat)(d:D):YF (Yw kvs (XZ z) d) (XE xs z)/\∀p∈Yw kvs (XZ z) d,p∈kvs∨p=(XZ z,d):=by
 unfold Yw XE;rw[CV h];by_cases a:z∈xs
 .rw[if_pos (by simpa using a),if_pos a];refine⟨?_,λp b=>?_⟩
  .unfold YF at h ⊢;rw[<- h,qC8];refine qF3 λq _=>?_;show(if q.1=XZ z then(q.1,d)else q).1=q.1;split<;>rfl
  .obtain⟨q,c,rfl⟩:=qC4.mp b;by_cases e:q.1=XZ z
   .rw[if_pos e,e];exact .inr rfl
   .rw[if_neg e];exact .inl c
 .rw[if_neg (by simpa using a),if_neg a];refine⟨by unfold YF at h ⊢;rw[qE6,qE6,h];rfl,λp b=>?_⟩;rcases qB6.mp b with q|q
  .exact .inl q
  .simp at q;exact .inr q
theorem OT(h:YF kvs xs):kvs.length=xs.length:=by have:=congrArg qH4 h;simpa using this
theorem MD:∀{more kvs:List (ZI×D)}{c xs:List Nat},YF more c->YF kvs xs->∃ys,YF (Yj kvs more) ys/\(∀z,z∈ys↔z∈xs∨z∈c)/\(xs.Nodup->ys.Nodup)
 |[],kvs,c,xs,h,g=>by
  have:c=[]:=by cases c with|nil=>rfl|cons a b=>simp[YF]at h
  subst this;exact⟨xs,g,by simp,id⟩
 |p::more,kvs,[],xs,h,g=>by simp[YF]at h
 |p::more,kvs,m::c,xs,h,g=>by
  simp only[YF,qB8,qL0.injEq]at h;obtain⟨ys,f,d,i⟩:=MD h.2 (Jg g m p.2).1;refine⟨ys,?_,λz=>?_,λe=>i (Jh e)⟩
  .show YF (Yj (Yw kvs p.1 p.2) more) ys;rw[h.1];exact f
  .rw[d,Q3,qB0];constructor
   .rintro((h|h)| h)
    .exact .inl h
    .exact .inr (.inl h)
    .exact .inr (.inr h)
   .rintro(h|h|h)
    .exact .inl (.inl h)
    .exact .inl (.inr h)
    .exact .inr h
theorem CU:∀{kvs:List (ZI×D)}{xs:List Nat},YF kvs xs->(kvs.map λp=>kD p.1)=xs.map λz=>D.int ((z:Nat):Int)
 |kvs,xs,h=>by
  have:(kvs.map λp=>kD p.1)=(kvs.map (·.1)).map kD:=by rw[qC8];rfl
  rw[this,h,qC8];rfl
theorem kc(h:Zc S m=Z9 kvs)(z:Nat):dictAt S m (.int z)=Z9 (YA kvs (XZ z)):=by
 unfold Zc at h;unfold dictAt;split at h
 .rename_i e;cases h;first|rfl|(rw[e];rfl)
 .rename_i e;cases h;first|rfl|(rw[e];rfl)
 .cases h
theorem CQ(h:Zc S m=Z9 kvs)(hk:YF kvs xs)(neg:Bool)(z:Nat):YL neg (.int z) (.dct m) S=.ok (.bl (if neg then !decide (z∈xs)else decide (z∈xs))) S:=by
 show(match dictAt S m (.int z)with|some o=>R.ok (D.bl (if neg then !o.isSome else o.isSome)) S|none=>.bad)=_;rw[kc h];dsimp only;by_cases a:z∈xs
 .obtain⟨d,e,_⟩:=(Ji hk z).2 a;rw[e];simp[a]
 .rw[(Ji hk z).1 a];simp[a]
theorem CP(h:S[m]?=Z9 (.dk kvs))(a:kvs.length<lim)(z:Nat)(d:D):XG (.dct m) (.int z) d S=Z9 (S.set m (.dk (Yw kvs (XZ z) d))):=by unfold XG;dsimp only;rw[h];show(if kvs.length<lim then Z9 (S.set m (.dk (Yw kvs (.inl z) d)))else Z8)=_;rw[if_pos a];rfl
theorem MC(h:S[m]?=Z9 (.dk kvs)):Zc S m=Z9 kvs:=by unfold Zc;rw[h]
theorem CN(h:S[m]?=Z9 (.fk kvs)):Zc S m=Z9 kvs:=by unfold Zc;rw[h]
theorem MB(h:Kp P S a)(e:Zc S m=Z9 kvs)(n:¬P m):Zc a m=Z9 kvs:=by
 unfold Zc at e ⊢;split at e
 .rename_i q;rw[h.at q n];exact e
 .rename_i q;rw[h.at q n];exact e
 .cases e
theorem ka(e:Zc S m=Z9 kvs):m<S.length:=by
 unfold Zc at e;split at e
 .rename_i q;exact(qA5.mp q).1
 .rename_i q;exact(qA5.mp q).1
 .cases e
theorem Jf(b:c B S=.ok (.dct m) S)(h:Zc S m=Z9 kvs)(hk:YF kvs xs):∃a,Zw c B S=.ok (xs.map λz=>D.int ((z:Nat):Int),[]) a/\Kp (·=m) S a/\Zc a m=Z9 kvs/\a.length=S.length:=by
 unfold Zc at h;rw[JY,b];split at h
 .rename_i e;cases h;refine⟨S.set m (.fk kvs),?_,Vw S _,CN (qD9 (qA5.mp e).1),by simp⟩;simp only[XW,e,CU hk]
 .rename_i e;cases h;refine⟨S,?_,Kp.refl _ _,CN e,rfl⟩;simp only[XW,e,CU hk]
 .cases h
theorem R1{h Z:Type}(e:h->D)(f:Z->h->Z)(P:Z->ZT->ZX->Prop){w:Xm}{g:G}{b:CS}(d:∀s B S,P s B S->XQ w S):∀(l:List h) {s:Z}{B:ZT}{S:ZX},P s B S->(∀s a B S,a∈l->P s B S->Tf g b (e a) B S (P (f s a)))->PV (Zf w g b (l.map e) B S) (P (l.foldl f s))
 |[],s,B,S,h0,hs=>⟨B,S,by rw[qN4];unfold Zf;rw[if_pos (d s B S h0)],h0⟩
 |a::l,s,B,S,h0,hs=>by
  obtain⟨u,q,j,r,t,c,m⟩:=hs s a B S (by simp) h0;obtain⟨p,k,i,n⟩:=R1 e f P d l m λs a B S o=>hs s a B S (by simp[o]);refine⟨p,k,?_,n⟩;rw[qB8];unfold Zf;rw[if_pos (d s B S h0),j];dsimp only;rcases c with c|c
  .rw[c];exact i
  .rw[c];exact i
theorem Q2(a b:Nat):jT a b=((a &&& b:Nat):Int):=rfl
theorem OS(a b:Nat):vZ a b=((a ||| b:Nat):Int):=by
 have c:∀x:Int,fN (fN x)=x:=λx=>by unfold fN;lia
 have d:∀x:Nat,decide (0<=fN x)=Z5:=λx=>by rw[decide_eq_false_iff_not];unfold fN;lia
 unfold vZ jT;rw[d,d];rw[c,c,c];rfl
theorem UD:∀(n:Nat) {l:List Nat},l.Nodup->(∀z∈l,z<n)->l.length<=n
 |0,l,_,h=>by
  cases l with
  |nil=>simp
  |cons a r=>exact absurd (h a (by simp)) (qG9 _)
 |n+1,l,nd,h=>by
  by_cases c:n∈l
  .have d:=UD n (nd.erase n) λz b=>by
    have g:=h z (List.mem_of_mem_erase b);have f:z≠n:=λe=>by subst e;exact(List.Nodup.not_mem_erase nd) b
    lia
   rw[qL6 c]at d
   lia
  .have d:=UD n nd λz b=>by
    have g:=h z b;have f:z≠n:=λe=>c (e▸b)
    lia
   lia
def Wo(xk acc:List Nat)(z:Nat):List Nat:=if z∈xk then acc else XE acc z
theorem CM:x∈Wo xk acc z↔x∈acc∨(x=z/\z∉xk):=by
 unfold Wo;split
 .simp_all
 .rename_i h;rw[Q3];simp[h]
def VS(xk:List Nat)(a:Nat)(acc:List Nat)(b:Nat):List Nat:=Wo xk (Wo xk acc (a &&& b)) (a ||| b)
def allN(xk x1 x2 acc:List Nat):List Nat:=x1.foldl (λs a=>x2.foldl (VS xk a) s) acc
theorem CL:∀{x2 acc:List Nat}{x:Nat},x∈x2.foldl (VS xk a) acc↔x∈acc∨(x∉xk/\∃b∈x2,x=a &&& b∨x=a ||| b)
 |[],acc,x=>by simp
 |b::x2,acc,x=>by
  rw[qL9,CL,VS,CM,CM];constructor
  .rintro(((h|⟨rfl,h⟩)| ⟨rfl,h⟩)| ⟨h,c,d,q⟩)
   .exact .inl h
   .simp_all
   .simp_all
   .exact .inr ⟨h,c,by simp[d],q⟩
  .rintro(h|⟨h,c,d,q⟩)
   .exact .inl (.inl (.inl h))
   .rcases qB0.mp d with rfl|d
    .rcases q with rfl|rfl
     .simp_all
     .exact .inl (.inr ⟨rfl,h⟩)
    .exact .inr ⟨h,c,d,q⟩
theorem CK:∀{x1 acc:List Nat}{x:Nat},x∈allN xk x1 x2 acc↔x∈acc∨(x∉xk/\∃a∈x1,∃b∈x2,x=a &&& b∨x=a ||| b)
 |[],acc,x=>by simp[allN]
 |a::x1,acc,x=>by
  have e:=CK (xk:=xk) (x2:=x2) (x1:=x1) (acc:=x2.foldl (VS xk a) acc) (x:=x);unfold allN at e ⊢;rw[qL9,e,CL];constructor
  .rintro((h|⟨h,q⟩)| ⟨h,c,d,q⟩)
   .exact .inl h
   .simp_all
   .exact .inr ⟨h,c,by simp[d],q⟩
  .rintro(h|⟨h,c,d,q⟩)
   .exact .inl (.inl h)
   .rcases qB0.mp d with rfl|d
    .exact .inl (.inr ⟨h,q⟩)
    .exact .inr ⟨h,c,d,q⟩
theorem j5(h:S[n]?=Z9 o)(a:(match o with|.dk _=>Z7|.dt _=>Z7|_=>Z5)=Z7):XR "dict" (.dct n) S=Z7:=by show(decide ("dict" = "dict")&&(match S[n]? with|some (.dk _)=>Z7|some (.dt _)=>Z7|_=>Z5))=Z7;rw[h];cases o<;>first|rfl|cases a
def VT(sw i z:Nat)(d:D):Prop:=∃t:Tr,d=t.d/\t.wf (sw:Int)/\t.lv=i+1/\t.ht<=i/\z=ZG 0 ((ZC sw).map t.on)
inductive j4(sw i:Nat)(S:ZX)(id:Nat):Prop
 |mk (ks:List (ZI×D)) (xs:List Nat) (h:Zc S id=Z9 ks) (ky:YF ks xs) (s:∀z,z∈xs↔z∈lv sw i) (nd:xs.Nodup) (v:∀z d,(XZ z,d)∈ks->VT sw i z d)
theorem OQ(h:sw<=3):NN sw<=256:=by
 have:sw=0∨sw=1∨sw=2∨sw=3:=by lia
 rcases this with rfl|rfl|rfl|rfl<;>decide
theorem Q1(a:sw<=3)(h:z∈lv sw i):z<256:=qC0 (TZ sw i h) (OQ a)
def XN(bs:List Bool):yM:=bs.map λb=>D.int (b1 b)
def Y4(bs:List Bool):D:=.tup (XN bs)
theorem Je(bs:List Bool):Za (bs.map b1)=Y4 bs:=by unfold Za Y4 XN;rw[qC8];rfl
theorem CJ(b:Bool):b1 b=((b.toNat:Nat):Int):=by cases b<;>simp[b1]
theorem j3(c:ZR):PK c [Z9 fd,Z9 (.int s),Z9 (.int b)] S=.nx [Z9 fd,Z9 (.int (s*2+b)),Z9 (.int b)] S:=by
 have:VD s 2=Z7:=by simp[VD]
 simp[PK,this]
theorem j0(c:ZR):M2 c [Z9 fd,Z9 (.int s),Z9 (.int b)] S=.nx [Z9 fd,Z9 (.int (2*s+b)),Z9 (.int b)] S:=rfl
theorem jz(c:ZR)(e:Zf [] (gN 2) (PK c) X [Z9 (.tup X),Z9 (.int 0),Z8] S=.nx [Z9 (.tup X),Z9 (.int z),w] S):PJ c [Z9 (.tup X),Z8,Z8] S=.rt (.int z) S:=by simp[PJ,e]
theorem Jd(h:M7 cl)(n:Nat)(bs:List Bool)(S:ZX):cl (n+1) "number_of" [Y4 bs] S=.ok (.int (ZG 0 bs:Nat)) S:=by
 rw[h];obtain⟨d,f,e,⟨w,rfl⟩,rfl⟩:=R1 (λb:Bool=>D.int (b1 b)) (λs b=>2*s+b.toNat) (λs B a=>(∃w,B=[Z9 (Y4 bs),Z9 (.int s),w])/\a=S) (g:=gN 2) (b:=PK (cl n)) (λ_ _ S _=>Yp S) bs ⟨⟨_,rfl⟩,rfl⟩ (λs b B a _ c=>by
  obtain⟨⟨w,rfl⟩,rfl⟩:=c;refine⟨[Z9 (Y4 bs),Z9 (.int s),Z9 (.int (b1 b))],a,by simp,_,a,.inl (j3 _),⟨Z9 (.int (b1 b)),?_⟩,rfl⟩;rw[show(s:Int)*2+b1 b=((2*s+b.toNat:Nat):Int) by rw[CJ];lia])
 exact Zg rfl (jz _ e)
theorem jy(c:ZR)(e:Zf [] (gN 2) (M2 c) X [Z9 (.tup X),Z9 (.int 0),Z8] S=.nx [Z9 (.tup X),Z9 (.int z),w] S):Pr c [Z9 (.tup X),Z8,Z8] S=.rt (.int z) S:=by simp[Pr,e]
theorem OP(h:M1 cl)(n:Nat)(bs:List Bool)(S:ZX):cl (n+1) "_law_number_of" [Y4 bs] S=.ok (.int (ZG 0 bs:Nat)) S:=by
 rw[h];obtain⟨d,f,e,⟨w,rfl⟩,rfl⟩:=R1 (λb:Bool=>D.int (b1 b)) (λs b=>2*s+b.toNat) (λs B a=>(∃w,B=[Z9 (Y4 bs),Z9 (.int s),w])/\a=S) (g:=gN 2) (b:=M2 (cl n)) (λ_ _ S _=>Yp S) bs ⟨⟨_,rfl⟩,rfl⟩ (λs b B a _ c=>by
  obtain⟨⟨w,rfl⟩,rfl⟩:=c;refine⟨[Z9 (Y4 bs),Z9 (.int s),Z9 (.int (b1 b))],a,by simp,_,a,.inl (j0 _),⟨Z9 (.int (b1 b)),?_⟩,rfl⟩;rw[show 2*(s:Int)+b1 b=((2*s+b.toNat:Nat):Int) by rw[CJ];lia])
 exact Zg rfl (jy _ e)
inductive MA(sw Ld:Nat)(acc:List Nat)(S1 S:ZX):Prop
 |mk (kl:List (ZI×D)) (h:S[Ld]?=Z9 (.dk kl)) (ky:YF kl acc) (v:∀z d,(XZ z,d)∈kl->VT sw 0 z d) (nd:acc.Nodup) (bd:∀z∈acc,z<256) (kp:Kp (·=Ld) S1 S)
def Vu(sw a:Nat)(b w3 w4:Option D):ZT:=[Z9 (.int (sw:Nat)),Z9 (.dct a),b,w3,w4]
theorem jx(c:ZR)(d:c "tree_function" [.int (sw:Nat),.tup [.str (Str.ofString "at"),.int k,.int o]] S=.ok fd a)(f:c "number_of" [fd] a=.ok (.int z) a)(e:XG (.dct b) (.int z) (.tup [.str (Str.ofString "at"),.int k,.int o]) a=Z9 S2):PH c (Vu sw b (Z9 (.int k)) (Z9 (.int o)) w4) S=.nx (Vu sw b (Z9 (.int k)) (Z9 (.int o)) (Z9 (.tup [.str (Str.ofString "at"),.int k,.int o]))) S2:=by simp[PH,Vu,d,f,e]
theorem jw(H:MI cl)(t:M7 cl)(n:Nat)(L:1<=sw)(G:sw<=3)(h:MA sw a acc f S)(hk:k<sw)(J:o=0∨o=1)(w3 w4:Option D):Tf (gN 3) (PH (cl (n+5))) (.int o) (Vu sw a (Z9 (.int (k:Nat))) w3 w4) S (fun B u=>(∃w3 w4,B=Vu sw a (Z9 (.int (k:Nat))) w3 w4)/\MA sw a (XE acc (Yg sw k o)) f u):=by
 obtain⟨s,w,j,v,c,i,kp⟩:=h;have wf:(Tr.lf k o).wf sw:=⟨by lia,by lia,by lia,by lia⟩
 obtain⟨l,e,g⟩:=kq H (by lia) (by lia) 0 (.lf k o) (qA6 _) wf (by simp[Tr.sz]) n S;have r:Za (Q7 sw (.lf k o))=Y4 ((ZC sw).map (Tr.lf k o).on):=by rw[<- Je,qC8];rfl
 rw[r]at e;have A:=Jd t (n+4) ((ZC sw).map (Tr.lf k o).on) l;have K:ZG 0 ((ZC sw).map (Tr.lf k o).on)=Yg sw k o:=rfl;have b:=g.at w λz=>z;have p:s.length<lim:=by rw[OT j];exact qI0 (UD 256 c i) (by decide)
 have E:=CP b p (Yg sw k o) (.tup [.str (Str.ofString "at"),.int k,.int o]);obtain⟨x,y⟩:=Jg j (Yg sw k o) (.tup [.str (Str.ofString "at"),.int k,.int o]);have lt:Yg sw k o<256:=by
  have:=Q6 ((ZC sw).map (Tr.lf k o).on) 0;rw[qA0,SZ]at this;have:=OQ G;unfold NN at this
  lia
 refine⟨Vu sw a (Z9 (.int k)) (Z9 (.int o)) w4,S,by simp[Vu],_,_,.inl (jx _ e A E),⟨_,_,rfl⟩,_,qD9 (qA5.mp b).1,x,λz d C=>?_,Jh c,λz F=>?_,kp.trans ((g.kp).trans (Vw l _))⟩
 .rcases y _ C with q|q
  .exact v z d q
  .have I:=ME (congrArg Prod.fst q);have m:d=_:=congrArg Prod.snd q;rw[I,m];exact⟨.lf k o,rfl,wf,rfl,qA6 _,rfl⟩
 .rcases Q3.mp F with q|rfl
  .exact i z q
  .exact lt
def CH(sw:Nat)(s:List Nat)(k:Nat):List Nat:=[(0:Int),1].foldl (λs o=>XE s (Yg sw k o)) s
theorem CG:∀{b acc:List Nat}{z:Nat},z∈b.foldl (CH sw) acc↔z∈acc∨∃k∈b,z=Yg sw k 0∨z=Yg sw k 1
 |[],acc,z=>by simp
 |k::b,acc,z=>by
  rw[qL9,CG];show z∈XE (XE acc (Yg sw k 0)) (Yg sw k 1)∨_↔_;rw[Q3,Q3];constructor
  .rintro(((h|h)| h)| ⟨c,a,h⟩)
   .exact .inl h
   .simp_all
   .simp_all
   .exact .inr ⟨c,by simp[a],h⟩
  .rintro(h|⟨c,a,h⟩)
   .exact .inl (.inl (.inl h))
   .rcases qB0.mp a with rfl|a
    .lia
    .exact .inr ⟨c,a,h⟩
theorem jv(c:ZR)(e:Zf [] (gN 3) (PH c) [.int 0,.int 1] (Vu sw b (Z9 k) w3 w4) S=.nx a S'):M6 c (Vu sw b (Z9 k) w3 w4) S=.nx a S':=by simp[M6,e]
theorem ju(c:ZR){S a S2:ZX}(b:-4611686018427387904<=s/\s<4611686018427387904)(d:S.length=L)(g:S++[.dk []]=a)(e:Zf [] (gN 2) (M6 c) (Y5 0 s.toNat) [Z9 (.int s),Z9 (.dct L),Z8,Z8,Z8] a=.nx [Z9 (.int s),Z9 (.dct L),f,w3,w4] S2):PF c [Z9 (.int s),Z8,Z8,Z8,Z8] S=.rt (.dct L) S2:=by simp[PF,d,g,b,e]
theorem jt(A:DM cl)(H:MI cl)(x:M7 cl)(n:Nat)(C:1<=sw)(I:sw<=3)(S:ZX):∃L S1,cl (n+6) "first_level" [.int (sw:Nat)] S=.ok (.dct L) S1/\S.length=L/\Ex S S1/\j4 sw 0 S1 L:=by
 obtain⟨L,i⟩:∃L,S.length=L:=⟨_,rfl⟩
 obtain⟨S1,l⟩:∃S1,S++[O.dk []]=S1:=⟨_,rfl⟩
 have K:S1[L]?=Z9 (.dk []):=by rw[<- l,<- i,qA2 (qA6 _)];simp
 obtain⟨T,M,e,⟨m,a,b,rfl⟩,v,N,q,u,F,P,p⟩:=R1 (λk:Nat=>D.int (0+k)) (CH sw) (λs B f=>(∃m a b,B=Vu sw L m a b)/\MA sw L s S1 f) (g:=gN 2) (λ_ _ S _=>Yp S) (List.range sw) (s:=[]) ⟨⟨_,_,_,rfl⟩,[],K,rfl,λz d h=>(by cases h),.nil,λz h=>(by cases h),Kp.refl _ _⟩ (λs k B f hk c=>by
  obtain⟨⟨m,a,b,rfl⟩,c⟩:=c;obtain⟨Q,r,G,⟨t,E,rfl⟩,J⟩:=R1 (λo:Int=>D.int o) (λs o=>XE s (Yg sw k o)) (λs B f=>(∃a b,B=Vu sw L (Z9 (.int k)) a b)/\MA sw L s S1 f) (λ_ _ S _=>Yp S) [0,1] ⟨⟨_,_,rfl⟩,c⟩ (λs o B f y c=>by
   obtain⟨⟨a,b,rfl⟩,c⟩:=c;exact jw H x n C I c (qC7.mp hk) (by simpa using y) a b)
  refine⟨Vu sw L (Z9 (.int k)) a b,f,by simp[Vu],_,r,.inl (jv _ G),⟨_,_,_,rfl⟩,J⟩)
 refine⟨L,M,?_,i,?_,v,_,MC N,q,λz=>?_,F,u⟩
 .rw[A];exact Zg rfl (ju _ ⟨by lia,by lia⟩ i l (by exact e))
 .have R:S1.length=L+1:=by rw[<- l,<- i];simp
  refine⟨by have:=p.le;lia,λj w _=>?_⟩;rw[p.eq j (by lia) (by lia),<- l,qA8 w]
 .rw[CG,Q5];unfold Zh;simp
theorem jr(c:ZR){X:yM}(h:((Builtin.Int.intBits (X.length:Int):Nat):Int) - 1=z):PM c [Z9 (.tup X)] S=.rt (.int z) S:=by simp[PM,h]
theorem jq(h:DS cl)(n:Nat)(b:sw<=4)(a:bs.length=2 ^ sw)(S:ZX):cl (n+1) "switches_of" [Y4 bs] S=.ok (.int (sw:Nat)) S:=by
 rw[h];refine Zg rfl (jr _ ?_);have:(XN bs).length=2 ^ sw:=by unfold XN;rw[qA0,a]
 rw[this];have:sw=0∨sw=1∨sw=2∨sw=3∨sw=4:=by lia
 rcases this with rfl|rfl|rfl|rfl|rfl<;>decide
def Xv(sw:Nat)(k:Nat)(o:Int):List Bool:=(ZC sw).map λst=>decide (st.getD k 0=o)
theorem Mz(sw k:Nat)(o:Int):ZG 0 (Xv sw k o)=Yg sw k o:=rfl
theorem Jc:∀(n:Nat) {st:yA},st∈ZC n->st.length=n
 |0,st,h=>by simp[ZC]at h;subst h;rfl
 |n+1,st,h=>by
  rcases qB6.mp h with h|h
  .obtain⟨x,a,rfl⟩:=qC4.mp h;simp[Jc n a]
  .obtain⟨x,a,rfl⟩:=qC4.mp h;simp[Jc n a]
def Vi(sw:Nat)(f:Nat)(a w3:Option D):ZT:=[Z9 (.int (sw:Nat)),Z9 (.lst f),a,w3]
theorem jn(c:ZR){X:yM}(h:Xz X k=Z9 (.int v)):Pv c [Z9 (.tup X),Z9 (.int k),Z9 (.int o)] S=.ok (.int (b1 (decide (v=o)))) S:=by by_cases e:v=o<;>simp[Pv,h,b1]
theorem jm(c:ZR){X R:yM}(ty:XR "list" (.lst f) S=Z7)(h:c "_law_settings" [.int (sw:Nat)] S=.ok (.lst m) b)(e:ZO b m=Z9 X)(g:X.length<lim)(j:Zo [(m,X)] .one (λ_=>ret Z7) (Pv c) [Z8,Z9 k,Z9 o] X b=.ok R b)(i:b++[.lst R]=d)(t:Xn [.lst b.length] d=.ok (.tup R) d)(a:W6 WE (.lst f) [.tup R] d=.ok .non S3):Pu c (Vi sw f (Z9 k) (Z9 o)) S=.nx (Vi sw f (Z9 k) (Z9 o)) S3:=by simp[Pu,Vi,ty,h,e,g,j,i,t,a]
inductive Jb(S0:ZX)(f:Nat)(acc:List (List Bool))(S:ZX):Prop
 |mk (h:ZO S f=Z9 (acc.map Y4)) (l:acc.length<=1000) (x:Ex S0 S)
theorem CF(hs:M4 cl)(n:Nat)(y:1<=sw)(v:sw<=3)(w:S0.length<=f)(h:Jb S0 f acc S)(A:acc.length<1000)(hk:k<sw)(o:Int)(w3:Option D):Tf (gN 3) (Pu (cl (n+1))) (.int o) (Vi sw f (Z9 (.int (k:Nat))) w3) S (fun B s=>(∃w3,B=Vi sw f (Z9 (.int (k:Nat))) w3)/\Jb S0 f (acc++[Xv sw k o]) s):=by
 obtain⟨i,_,x⟩:=h;obtain⟨m,S1,u,c,_,p⟩:=lD hs n (sw:=sw) (by lia) (by lia) S;have l:Zo [(m,(ZC sw).map Za)] .one (λ_=>ret Z7) (Pv (cl (n+1))) [Z8,Z9 (.int k),Z9 (.int o)] ((ZC sw).map Za) S1=.ok ((ZC sw).map λst=>D.int (b1 (decide (st.getD k 0=o)))) S1:=by
  refine Wc Za (Xj p) _ _ λst e=>⟨_,rfl,?_⟩
  have len:=Jc sw e;exact jn _ (by rw[Dx (by lia) (by lia),qE0])
 have q:((ZC sw).map λst=>D.int (b1 (decide (st.getD k 0=o))))=XN (Xv sw k o):=by unfold XN Xv;rw[qC8];rfl
 rw[q]at l;obtain⟨S2,g⟩:∃S2,S1++[O.lst (XN (Xv sw k o))]=S2:=⟨_,rfl⟩
 have d:=g▸Zt S1 _;have t:Xn [.lst S1.length] S2=.ok (.tup (XN (Xv sw k o))) S2:=by rw[<- g];exact Tn (Zm _ _)
 have b:=d.lst (c.lst i λz=>z) λz=>z;have a:W6 WE (.lst f) [.tup (XN (Xv sw k o))] S2=.ok .non (S2.set f (.lst (acc.map Y4++[.tup (XN (Xv sw k o))]))):=by rw[PY b,PX,if_pos (by rw[qA0,YY];lia)]
 have len:((ZC sw).map Za).length<lim:=by
  rw[qA0,SZ,YY];have:2 ^ sw<=2 ^ 3:=qI8 (by decide) v
  lia
 refine⟨Vi sw f (Z9 (.int k)) (Z9 (.int o)),S,by simp[Vi],_,_,.inl (jm _ (PZ i) u p len l g t a),⟨_,rfl⟩,?_,by simp;lia,⟨?_,λj r _=>?_⟩⟩
 .rw[Th b,qE6];rfl
 .rw[qJ8];have:=x.le;have:=c.le;have:=d.le;lia
 .rw[qE7 (by lia),d.eq j (by have:=x.le;have:=c.le;lia) (λz=>z),c.eq j (by have:=x.le;lia) (λz=>z),x.eq j r (λz=>z)]
def YR(sw j:Nat):List (List Bool):=(List.range j).flatMap λk=>[Xv sw k 0,Xv sw k 1]
theorem CD(sw j:Nat):YR sw (j+1)=YR sw j++[Xv sw j 0]++[Xv sw j 1]:=by unfold YR;rw[qO8,List.flatMap_append];simp
theorem Mx(sw:Nat):∀j,(YR sw j).length=2*j
 |0=>rfl
 |j+1=>by rw[CD];simp[Mx sw j];lia
theorem jk(c:ZR)(e:Zf [] (gN 3) (Pu c) [.int 0,.int 1] (Vi sw f (Z9 k) w3) S=.nx a S'):M3 c (Vi sw f (Z9 k) w3) S=.nx a S':=by simp[M3,e]
theorem ji(c:ZR){S a S2:ZX}(b:-4611686018427387904<=s/\s<4611686018427387904)(d:S.length=f)(h:S++[.lst []]=a)(e:Zf [] (gN 2) (M3 c) (Y5 0 s.toNat) [Z9 (.int s),Z9 (.lst f),Z8,Z8] a=.nx [Z9 (.int s),Z9 (.lst f),g,w3] S2):Pt c [Z9 (.int s),Z8,Z8,Z8] S=.rt (.lst f) S2:=by simp[Pt,d,h,b,e]
theorem CC(f:Tf g b x B S P)(h:∀B S,P B S->Tf g b y B S Q):PV (Zf [] g b [x,y] B S) Q:=by
 obtain⟨o,n,e,j,k,a,p⟩:=f;obtain⟨m,l,i,d,S4,c,q⟩:=h _ _ p;refine⟨d,S4,?_,q⟩;unfold Zf;rw[if_pos (Yp _),e];dsimp only;have t:Zf [] g b [y] j k=.nx d S4:=by
  unfold Zf;rw[if_pos (Yp _),i];dsimp only;rcases c with c|c
  .rw[c];unfold Zf;dsimp only;rw[if_pos (Yp _)]
  .rw[c];unfold Zf;dsimp only;rw[if_pos (Yp _)]
 rcases a with a|a
 .rw[a];exact t
 .rw[a];exact t
theorem Cz(h:DH cl)(hs:M4 cl)(n:Nat)(p:1<=sw)(r:sw<=3)(S:ZX):∃f S1,cl (n+2) "_law_singles" [.int (sw:Nat)] S=.ok (.lst f) S1/\S.length<=f/\Ex S S1/\ZO S1 f=Z9 ((YR sw sw).map Y4):=by
 obtain⟨f,o⟩:∃f,S.length=f:=⟨_,rfl⟩
 obtain⟨S1,k⟩:∃S1,S++[O.lst []]=S1:=⟨_,rfl⟩
 have A:ZO S1 f=Z9 []:=by rw[<- k,<- o];exact Zm _ _
 have x:=k▸Zt S _;have z:(Y5 0 sw).length=sw:=by unfold Y5;simp
 obtain⟨G,C,e,⟨i,a,rfl⟩,t,D,w⟩:=Ua (items:=Y5 0 sw) (P:=λj B c=>(∃i a,B=Vi sw f i a)/\Jb S f (YR sw j) c) (g:=gN 2) (λ_ _ S _=>Yp S) ⟨⟨_,_,rfl⟩,⟨A,by simp[YR],x⟩⟩ (λj d B c q b=>by
  obtain⟨⟨i,a,rfl⟩,b⟩:=b;rw[OZ]at q;obtain⟨m,rfl⟩:=q;have F:=Mx sw j;obtain⟨E,u,y,⟨v,rfl⟩,s⟩:=CC (CF hs n p r (by lia) b (by lia) m 0 a) (fun B S l=>by
   obtain⟨⟨a,rfl⟩,l⟩:=l;exact CF hs n p r (by lia) l (by simp;lia) m 1 a)
  rw[<- CD]at s;exact⟨Vi sw f (Z9 (.int j)) a,c,by simp[Vi],_,u,.inl (jk _ y),⟨_,_,rfl⟩,s⟩)
 rw[z]at t;refine⟨f,C,?_,by lia,w,t⟩;rw[h];exact Zg rfl (ji _ ⟨by lia,by lia⟩ o k (by exact e))
def ZA(z:Nat):D:=.int (z:Nat)
inductive OO(sw i:Nat)(S:ZX)(id:Nat):Prop
 |mk (xs:List Nat) (h:ZO S id=Z9 (xs.map ZA)) (s:∀z,z∈xs↔z∈lv sw i) (nd:xs.Nodup)
def Cy(sw:Nat)(S:ZX)(a:List Nat):Prop:=∀i id,a[i]?=Z9 id->OO sw i S id
theorem OO.kp{id:Nat}(h:OO sw i S id)(kp:Kp P S b)(n:¬P id):OO sw i b id:=by obtain⟨c,h,a,d⟩:=h;exact⟨c,kp.lst h n,a,d⟩
def YW(sw kr nk:Nat)(w3 w4 w5 w6 w7 w8:Option D):ZT:=[Z9 (.int (sw:Nat)),Z9 (.lst kr),Z9 (.dct nk),w3,w4,w5,w6,w7,w8]
inductive LA(S0:ZX)(L nk:Nat)(kk:List (ZI×D))(acc:List Nat)(S:ZX):Prop
 |mk (kl:List (ZI×D)) (hL:S[L]?=Z9 (.dk kl)) (ky:YF kl acc) (nd:acc.Nodup) (bd:∀z∈acc,z<256) (hk:Zc S nk=Z9 kk) (kp:Kp (·=L) S0 S)
section
variable {S0:ZX}{L nk sw kr:Nat}{kk:List (ZI×D)}{xk:List Nat}
theorem jh(c:ZR)(a:YL Z7 (.int z) (.dct nk) S=.ok (.bl Z5) S):Sa c (YW sw kr nk w3 (Z9 (.dct L)) w5 w6 w7 (Z9 (.int z))) S=.nx (YW sw kr nk w3 (Z9 (.dct L)) w5 w6 w7 (Z9 (.int z))) S:=by simp[YW,Sa,a]
theorem jg(c:ZR)(a:YL Z7 (.int z) (.dct nk) S=.ok (.bl Z7) S)(b:XG (.dct L) (.int z) d S=Z9 S1):Sa c (YW sw kr nk (Z9 d) (Z9 (.dct L)) w5 w6 w7 (Z9 (.int z))) S=.nx (YW sw kr nk (Z9 d) (Z9 (.dct L)) w5 w6 w7 (Z9 (.int z))) S1:=by simp[YW,Sa,a,b]
theorem Cw(c:ZR)(b:YF kk xk)(p:nk≠L)(h:LA S0 L nk kk acc S)(v:z<256)(d:D)(w5 w6 w7 w8:Option D):
  Tf (gN 8) (Sa c) (ZA z) (YW sw kr nk (Z9 d) (Z9 (.dct L)) w5 w6 w7 w8) S (fun B t=>(∃w8,B=YW sw kr nk (Z9 d) (Z9 (.dct L)) w5 w6 w7 w8)/\LA S0 L nk kk (Wo xk acc z) t):=by
 have u:=h;obtain⟨e,j,m,f,k,hk,kp⟩:=u;have g:=CQ hk b Z7 z;refine⟨YW sw kr nk (Z9 d) (Z9 (.dct L)) w5 w6 w7 (Z9 (ZA z)),S,by simp[YW],?_⟩;by_cases a:z∈xk
 .refine⟨_,_,.inl (jh c (by simpa[a]using g)),⟨_,rfl⟩,?_⟩;unfold Wo;rw[if_pos a];exact h
 .have n:e.length<lim:=by rw[OT m];exact qI0 (UD 256 f k) (by decide)
  have s:=CP j n z d;obtain⟨r,_⟩:=Jg m z d;have l:=Vw (i:=L) S (.dk (Yw e (XZ z) d));refine⟨_,_,.inl (jg c (by simpa[a]using g) s),⟨_,rfl⟩,?_⟩;have o:Wo xk acc z=XE acc z:=by unfold Wo;rw[if_neg a]
  rw[o];refine⟨_,qD9 (qA5.mp j).1,r,Jh f,λy w=>?_,MB l hk p,kp.trans l⟩;rcases Q3.mp w with q|rfl
  .exact k y q
  .exact v
theorem jf(c:ZR)(e:Zf [] (gN 8) (Sa c) [ZA (a &&& b),ZA (a ||| b)] (YW sw kr nk (Z9 d) (Z9 (.dct L)) w5 (Z9 (ZA a)) (Z9 (ZA b)) w8) S=.nx f S'):Pq c (YW sw kr nk (Z9 d) (Z9 (.dct L)) w5 (Z9 (ZA a)) (Z9 (ZA b)) w8) S=.nx f S':=by unfold YW ZA at e ⊢;simp[Pq,Q2,OS,e]
theorem je(c:ZR)(f:YF kk xk)(j:nk≠L)(h:LA S0 L nk kk acc S)(i:a<256)(k:b<256)(d:D)(w5 w8:Option D):
  PV (Pq c (YW sw kr nk (Z9 d) (Z9 (.dct L)) w5 (Z9 (ZA a)) (Z9 (ZA b)) w8) S) (fun B l=>(∃w8,B=YW sw kr nk (Z9 d) (Z9 (.dct L)) w5 (Z9 (ZA a)) (Z9 (ZA b)) w8)/\LA S0 L nk kk (VS xk a acc b) l):=by
 obtain⟨m,n,e,p⟩:=CC (Cw c f j h (zNZ (sw:=3) i k (.inl rfl)) d w5 (Z9 (ZA a)) (Z9 (ZA b)) w8) (fun B S g=>by
  obtain⟨⟨w8,rfl⟩,g⟩:=g;exact Cw (sw:=sw) (kr:=kr) c f j g (zNZ (sw:=3) i k (.inr rfl)) d w5 (Z9 (ZA a)) (Z9 (ZA b)) w8)
 exact⟨m,n,jf c e,p⟩
theorem jd(c:ZR){d:D}{X:yM}(i:Zp (.lst kr) (.int (many - a - 1)) S=.ok (.lst b) S)(l:ZO S b=Z9 X)(e:Zf [(b,X)] (gN 7) (Pq c) X (YW sw kr nk (Z9 (.int many)) (Z9 (.dct L)) (Z9 (.int a)) w6 w7 w8) S=.nx f S'):M0 c (YW sw kr nk (Z9 (.int many)) (Z9 (.dct L)) (Z9 (.int a)) w6 w7 w8) S=.nx f S':=by unfold YW at e ⊢;simp[M0,i,l,e]
theorem jc(c:ZR){X:yM}(i:Zp (.lst kr) (.int (a - 1)) S=.ok (.lst b) S)(l:ZO S b=Z9 X)(e:Zf [(b,X)] (gN 6) (M0 c) X (YW sw kr nk w3 (Z9 (.dct L)) (Z9 (.int a)) w6 w7 w8) S=.nx d S'):Pp c (YW sw kr nk w3 (Z9 (.dct L)) (Z9 (.int a)) w6 w7 w8) S=.nx d S':=by unfold YW at e ⊢;simp[Pp,i,l,e]
theorem ja(c:ZR)(m:YF kk xk)(F:nk≠L)(h:LA S0 L nk kk acc S){R:yM}(w:ZO S0 kr=Z9 R)(E:Xz R (f - 1)=Z9 (.lst o))(J:Xz R (many - f - 1)=Z9 (.lst q))(v:ZO S0 o=Z9 (x1.map ZA))(t:ZO S0 q=Z9 (x2.map ZA))(u:kr≠L)(x:o≠L)(r:q≠L)(b1:∀z∈x1,z<256)(y:∀z∈x2,z<256)(w6 w7 w8:Option D):
  PV (Pp c (YW sw kr nk (Z9 (.int many)) (Z9 (.dct L)) (Z9 (.int f)) w6 w7 w8) S) (fun B k=>(∃w6 w7 w8,B=YW sw kr nk (Z9 (.int many)) (Z9 (.dct L)) (Z9 (.int f)) w6 w7 w8)/\LA S0 L nk kk (allN xk x1 x2 acc) k):=by
 have j:∀{acc:List Nat}{S:ZX},LA S0 L nk kk acc S->Kp (·=L) S0 S:=λh=>by obtain⟨_,_,_,_,_,_,kp⟩:=h;exact kp
 have kp:=j h;obtain⟨O,G,e,p⟩:=R1 ZA (λs a=>x2.foldl (VS xk a) s) (λs B k=>(∃w6 w7 w8,B=YW sw kr nk (Z9 (.int many)) (Z9 (.dct L)) (Z9 (.int f)) w6 w7 w8)/\LA S0 L nk kk s k) (g:=gN 6) (λs B k i=>Xj ((j i.2).lst v x)) x1 ⟨⟨_,_,_,rfl⟩,h⟩ (λs a B k N i=>by
  obtain⟨⟨w6,w7,w8,rfl⟩,i⟩:=i;have l:=j i;obtain⟨V,A,I,⟨H,n,rfl⟩,M⟩:=R1 ZA (VS xk a) (λs B k=>(∃w7 w8,B=YW sw kr nk (Z9 (.int many)) (Z9 (.dct L)) (Z9 (.int f)) (Z9 (ZA a)) w7 w8)/\LA S0 L nk kk s k) (g:=gN 7) (λs B k i=>Xj ((j i.2).lst t r)) x2 ⟨⟨_,_,rfl⟩,i⟩ (λs b B P T i=>by
   obtain⟨⟨w7,w8,rfl⟩,i⟩:=i;obtain⟨U,K,Q,⟨n,rfl⟩,C⟩:=je c m F i (b1 a N) (y b T) (.int many) (Z9 (.int f)) w8;exact⟨YW sw kr nk (Z9 (.int many)) (Z9 (.dct L)) (Z9 (.int f)) (Z9 (ZA a)) (Z9 (ZA b)) w8,P,by simp[YW],_,K,.inl Q,⟨_,_,rfl⟩,C⟩)
  refine⟨YW sw kr nk (Z9 (.int many)) (Z9 (.dct L)) (Z9 (.int f)) (Z9 (ZA a)) w7 w8,k,by simp[YW],_,A,.inl (jd (d:=.non) c ?_ (l.lst t r) I),⟨_,_,_,rfl⟩,M⟩;rw[VU (l.lst w u),J])
 refine⟨O,G,jc c ?_ (kp.lst v x) e,p⟩;rw[VU (kp.lst w u),E]
end
theorem Cv:∀{kvs:List (ZI×D)}{xs:List Nat},YF kvs xs->Sm kvs=Z9 (xs.map λz=>((z:Nat):Int))
 |[],[],_=>rfl
 |[],x::xs,h=>by simp[YF]at h
 |p::kvs,[],h=>by simp[YF]at h
 |(k,v)::kvs,x::xs,h=>by simp only[YF,qB8,qL0.injEq]at h;have:=Cv h.2;rw[h.1];show(Sm kvs).map _=_;rw[this];rfl
theorem Ja(xs:List Nat):∃ys:List Nat,ys.Perm xs/\Wj (xs.map λz=>((z:Nat):Int))=ys.map λz=>((z:Nat):Int):=by
 have a:=KA (xs.map λz=>((z:Nat):Int));refine⟨(Wj (xs.map λz=>((z:Nat):Int))).map qU9,?_,?_⟩
 .have:=a.map qU9;rw[qC8]at this;have e:xs.map (qU9∘λz:Nat=>z)=xs:=by rw[show(qU9∘λz:Nat=>z)=id from funext λz=>by simp];simp
  rw[e]at this;exact this
 .rw[qC8]
  conv=>lhs;rw[<- qS2 (Wj (xs.map λz=>((z:Nat):Int)))]
  refine qF3 λx b=>?_;obtain⟨z,_,rfl⟩:=qC4.mp (a.mem_iff.mp b);simp
theorem i9(h:S[L]?=Z9 (.dk b))(c:YF b acc)(g:acc.length<=256):∃ys:List Nat,ys.Perm acc/\Wx [.dct L] S=.ok (.lst S.length) (S++[.lst (ys.map ZA)]):=by
 obtain⟨ys,d,f⟩:=Ja acc;refine⟨ys,d,?_⟩;have e:(Wj (acc.map λz=>((z:Nat):Int))).map D.int=ys.map ZA:=by rw[f,qC8];rfl
 have a:(acc.map λz=>((z:Nat):Int)).length<=5000:=by rw[qA0];lia
 unfold Wx;dsimp only;rw[h];dsimp only;rw[Cv c];dsimp only;rw[e];by_cases q:(acc.map λz=>((z:Nat):Int)).length<64
 .rw[if_pos q]
 .rw[if_neg q,if_pos a]
inductive WS(sw:Nat)(S0:ZX)(kr nk m:Nat)(S:ZX):Prop
 |mk (ids:List Nat) (kk:List (ZI×D)) (yk:List Nat) (hl:ids.length=m) (hr:ZO S kr=Z9 (ids.map D.lst)) (rw':Cy sw S ids) (hk:S[nk]?=Z9 (.dk kk)) (ky:YF kk yk) (s:∀z,z∈yk↔∃i,i<m/\z∈lv sw i) (nd:yk.Nodup) (hi:∀i∈ids,S0.length<=i/\i≠kr) (n1:S0.length<=kr) (n2:S0.length<=nk) (x:Ex S0 S)
theorem i8(c:ZR)(o:Zi [.lst kr] S=.ok (.int len) S)(k:S.length=L)(l:S++[.dk []]=h)(n:-4611686018427387904<=(len+1) / 2+1/\(len+1) / 2+1<4611686018427387904)
  (b:Zf [] (gN 5) (Pp c) (Y5 1 ((len+1) / 2+1 - 1).toNat) (YW sw kr nk (Z9 (.int (len+1))) (Z9 (.dct L)) w5 w6 w7 w8) h=.nx (YW sw kr nk (Z9 (.int (len+1))) (Z9 (.dct L)) e g j f) d) (tk:XR "dict" (.dct nk) d=Z7) (m:VY (.dct nk) [.dct L] d=.ok .non a) (ty:XR "list" (.lst kr) a=Z7) (p:Wx [.dct L] a=.ok (.lst r) i) (q:W6 WE (.lst kr) [.lst r] i=.ok .non S5) :
  Po c (YW sw kr nk w3 w4 w5 w6 w7 w8) S=.nx (YW sw kr nk (Z9 (.int (len+1))) (Z9 (.dct L)) e g j f) S5:=by rw[Int.add_sub_cancel]at b;unfold YW at b ⊢;simp[Po,o,k,l,n,b,tk,m,ty,p,q]
theorem i7(n:Nat)(s3:sw<=3)(m1:1<=m)(m2:m<=900)(h:WS sw S0 kr nk m S)(c:ZR)(w3 w4 w5 w6 w7 w8:Option D):∃S1 v3 v4 v5 v6 v7 v8,Po c (YW sw kr nk w3 w4 w5 w6 w7 w8) S=.nx (YW sw kr nk v3 v4 v5 v6 v7 v8) S1/\WS sw S0 kr nk (m+1) S1:=by
 obtain⟨f,J,yk,w,hr,o,hk,ky,s,nd,v,n1,n2,x⟩:=h;obtain⟨L,I⟩:∃L,S.length=L:=⟨_,rfl⟩
 obtain⟨S1,t⟩:∃S1,S++[O.dk []]=S1:=⟨_,rfl⟩
 have G:=t▸Zt S _;have krl:kr<L:=by rw[<- I];exact Ti hr
 have nkl:nk<L:=by rw[<- I];exact(qA5.mp hk).1
 have H:∀i∈f,i<L:=λi h=>by obtain⟨j,hj⟩:=qE1 h;obtain⟨xs,q,_⟩:=o j i hj;rw[<- I];exact Ti q
 have T:=G.lst hr λz=>z;have l1:S1.length=L+1:=by rw[<- t,<- I];simp
 have hd:(((m:Int)+1) / 2+1 - 1).toNat=(m+1) / 2:=by lia
 have bdk:∀z∈yk,z<256:=λz u=>by obtain⟨i,_,v⟩:=(s z).mp u;exact Q1 s3 v
 obtain⟨B2,Y,e1,⟨v5,v6,v7,v8,rfl⟩,acc,la,sa⟩:=Ua (g:=gN 5) (items:=Y5 1 (((m:Int)+1) / 2+1 - 1).toNat) (P:=λj B M=>(∃w5 w6 w7 w8,B=YW sw kr nk (Z9 (.int (m+1))) (Z9 (.dct L)) w5 w6 w7 w8)/\∃acc,LA S1 L nk J acc M/\∀z,z∈acc↔z∉yk/\∃l,l<j/\∃a∈lv sw l,∃b∈lv sw (m - 1 - l),z=a &&& b∨z=a ||| b) (B:=YW sw kr nk (Z9 (.int (m+1))) (Z9 (.dct L)) w5 w6 w7 w8) (λ_ _ M _=>Yp M) ⟨⟨_,_,_,_,rfl⟩,[],⟨[],by rw[<- t,<- I,qA2 (qA6 _)];simp,rfl,.nil,λz h=>(by cases h),MC (G.at hk λz=>z),Kp.refl _ _⟩,λz=>by simp⟩ (λj d B M W hP=>by
  obtain⟨⟨w5,w6,w7,w8,rfl⟩,acc,la,sa⟩:=hP;rw[OZ,hd]at W;obtain⟨hj,rfl⟩:=W;have i1:f[j]?=Z9 (f[j]'(by lia)):=qA3 _;have i2:f[m - 1 - j]?=Z9 (f[m - 1 - j]'(by lia)):=qA3 _;obtain⟨x1',a1,a2⟩:=o _ _ i1;obtain⟨x2',b1,b2⟩:=o _ _ i2;have d1:=H _ (qC2 i1);have d2:=H _ (qC2 i2);obtain⟨B3,S3,e3,⟨u6,u7,u8,rfl⟩,p3⟩:=ja c ky (by lia) la T (by rw[show(1+j - 1)=(j:Int) by lia];exact Vo (by rw[qB1,i1];rfl)) (by rw[show(m+1 - (1+j) - 1)=((m - 1 - j:Nat):Int) by lia];exact Vo (by rw[qB1,i2];rfl)) (G.lst a1 λz=>z) (G.lst b1 λz=>z) (by lia) (by lia) (by lia) (λz u=>Q1 s3 ((a2 z).mp u)) (λz u=>Q1 s3 ((b2 z).mp u)) w6 w7 w8;refine⟨YW sw kr nk (Z9 (.int (m+1))) (Z9 (.dct L)) (Z9 (.int (1+j))) w6 w7 w8,M,by simp[YW],_,S3,.inl e3,⟨_,_,_,_,rfl⟩,_,p3,λz=>?_⟩;rw[CK,sa];constructor
  .rintro(⟨t,l,w,q⟩| ⟨t,a,A,b,y,q⟩)
   .exact⟨t,l,by lia,q⟩
   .exact⟨t,j,by lia,a,(a2 a).mp A,b,(b2 b).mp y,q⟩
  .rintro⟨t,l,w,a,A,b,y,q⟩;by_cases e:l=j
   .subst e;exact .inr ⟨t,a,(a2 a).mpr A,b,(b2 b).mpr y,q⟩
   .exact .inl ⟨t,l,by lia,a,A,b,y,q⟩)
 have ul:(Y5 1 (((m:Int)+1) / 2+1 - 1).toNat).length=(m+1) / 2:=by unfold Y5;rw[qA0,qD4,hd]
 rw[ul]at sa;obtain⟨Z,q1,q2,q3,q4,q5,K⟩:=la;have E:∀z,z∈acc↔z∈lv sw m:=λz=>by
  obtain⟨p,rfl⟩:∃p,m=p+1:=⟨m - 1,by lia⟩
  rw[sa,OW];constructor
  .rintro⟨h,l,w,a,A,b,y,q⟩;exact⟨zNZ (TZ sw _ A) (TZ sw _ y) q,λi v u=>h ((s z).mpr ⟨i,by lia,u⟩),l,w,a,A,b,y,q⟩
  .rintro⟨_,h,l,w,a,A,b,y,q⟩;refine⟨λu=>?_,l,w,a,A,b,y,q⟩;obtain⟨i,v,u⟩:=(s z).mp u;exact h i (by lia) u
 have F:=K.at (G.at hk λz=>z) (by lia);have lk:J.length<=256:=by rw[OT ky];exact UD 256 nd bdk
 have ll:=UD 256 q3 q4;have e2:VY (.dct nk) [.dct L] Y=.ok .non (Y.set nk (.dk (Yj J Z))):=by unfold VY;dsimp only;rw[F,MC q1];dsimp only;rw[if_pos ⟨by lia,qD0 (Nat.add_le_add lk (by rw[OT q2];exact ll)) (by decide)⟩]
 obtain⟨S3,h3⟩:∃S3,Y.set nk (O.dk (Yj J Z))=S3:=⟨_,rfl⟩
 rw[h3]at e2;have N:=h3▸Vw Y _;obtain⟨ys,y1,y2,y3⟩:=MD q2 ky;have hk3:S3[nk]?=Z9 (.dk (Yj J Z)):=by rw[<- h3];exact qD9 (qA5.mp F).1
 have C:kr≠nk:=λe=>by subst e;rw[UG hr]at hk;cases hk
 have U:∀i∈f,i≠nk:=λi v e=>by obtain⟨j,hj⟩:=qE1 v;obtain⟨xs,q,_⟩:=o j i hj;rw[e,ZO,hk]at q;cases q
 have V:=N.lst (K.lst T (by lia)) C;obtain⟨zs,z1,z2⟩:=i9 (N.at q1 (by lia)) q2 ll;obtain⟨r,Q⟩:∃r,S3.length=r:=⟨_,rfl⟩
 obtain⟨S4,h4⟩:∃S4,S3++[O.lst (zs.map ZA)]=S4:=⟨_,rfl⟩
 rw[Q,h4]at z2;have R:=h4▸Zt S3 _;have X:=R.lst V λz=>z;have e4:W6 WE (.lst kr) [.lst r] S4=.ok .non (S4.set kr (.lst (f.map D.lst++[.lst r]))):=by rw[PY X,PX,if_pos (by rw[qA0,w,YY];lia)]
 have lr:L<r:=by have:=K.le;have:=N.le;lia
 refine⟨_,_,_,_,_,_,_,i8 c (by rw[Nv hr,qA0,w]) I t ⟨by lia,by lia⟩ e1 (j5 F rfl) e2 (PZ V) z2 e4,f++[r],Yj J Z,ys,by simp[w],?_,λi id k=>?_,?_,y1,λz=>?_,y3 nd,λi hi'=>?_,n1,n2,⟨?_,λi hlt _=>?_⟩⟩
 .rw[Th X,qE6];rfl
 .by_cases q:i<f.length
  .rw[qA8 q]at k;have mem:=qC2 k;exact(((((o i id k).kp G (λz=>z)).kp K (by have:=H id mem;lia)).kp N (U id mem)).kp R (λz=>z)).kp (Vw S4 _) (v id mem).2
  .rw[qA2 (by lia)]at k;have:=by have:=(qA5.mp k).1;simp at this;omega
   rw[this]at k;simp at k;subst k;have im:i=m:=by lia
   subst im;refine⟨zs,?_,λz=>by rw[z1.mem_iff];exact E z,z1.nodup_iff.mpr q3⟩;refine(Vw S4 _).lst ?_ (by lia);rw[<- h4,<- Q];exact Zm _ _
 .exact(Vw S4 _).at (R.at hk3 λz=>z) (λe=>C e.symm)
 .rw[y2,s,E];constructor
  .rintro(⟨i,v,h⟩| h)
   .exact⟨i,by lia,h⟩
   .exact⟨m,by lia,h⟩
  .rintro⟨i,v,h⟩;by_cases e:i=m
   .subst e;exact .inr h
   .exact .inl ⟨i,by lia,h⟩
 .rcases qB6.mp hi' with q|q
  .exact v i q
  .simp at q;lia
 .rw[qJ8];have:=R.le;lia
 .have:=x.le;have:=K.le;rw[qE7 (by lia),R.eq i (by lia) (λz=>z),N.eq i (by lia) (by lia),K.eq i (by lia) (by lia),G.eq i (by lia) (λz=>z),x.eq i hlt (λz=>z)]
theorem Mw:∀{l m:List Nat},l.Nodup->(∀x∈l,x∈m)->l.length<=m.length
 |[],m,_,_=>by simp
 |a::l,m,nd,h=>by have nd':=qJ2.mp nd;have c:=h a (by simp);have d:=Mw nd'.2 (λx b=>(qS0 (λe:x=a=>nd'.1 (e▸b))).mpr (h x (by simp[b])));rw[qL6 c]at d;have:=qR3 c;simp;lia
theorem i6{yk:List Nat}(e:yk.Nodup)(d:∀z∈yk,z<N)(h:¬yk.length<N)(b:x<N):x∈yk:=by
 refine Classical.byContradiction λc=>?_;have:=UD N (qJ2.mpr ⟨c,e⟩) (λz a=>by
  rcases qB0.mp a with rfl|a
  .exact b
  .exact d z a)
 simp at this;lia
theorem i5(c:1<=sw)(b:sw<=3)(a:Zi [.dct nk] S=.ok (.int (len:Nat)) S):(YH (ZU V2 (ZS Zi (ZQ [(ZY 2)])) (ZU Yx (ZW (.int 1)) (ZU Yx (ZW (.int 1)) (ZY 0))))) (YW sw kr nk w3 w4 w5 w6 w7 w8) S=.ok (decide (len<NN sw)) S:=by
 have:sw=1∨sw=2∨sw=3:=by lia
 rcases this with rfl|rfl|rfl
 .have q:decide (len<NN 1)=decide ((len:Int)<4):=by rw[decide_eq_decide];show len<4↔_;lia
  rw[q];simp[YW,a]
 .have q:decide (len<NN 2)=decide ((len:Int)<16):=by rw[decide_eq_decide];show len<16↔_;lia
  rw[q];simp[YW,a]
 .have q:decide (len<NN 3)=decide ((len:Int)<256):=by rw[decide_eq_decide];show len<256↔_;lia
  rw[q];simp[YW,a]
theorem i4(h:S[m]?=Z9 (.dk kvs)):Zi [.dct m] S=.ok (.int (kvs.length:Nat)) S:=by unfold Zi;dsimp only;rw[h]
theorem Cu:∀ys:List Nat,Ww (ys.map λz=>D.tup [ZA z,.int 1])=Z9 (ys.map λz=>(XZ z,D.int 1))
 |[]=>rfl
 |y::ys=>by show(match WT (ZA y),Ww (ys.map λz=>D.tup [ZA z,.int 1])with|some q,Z9 a=>Z9 ((q,D.int 1)::a)| _,_=>Z8)=_;rw[Cu ys];rfl
theorem iZ{ys:List Nat}(h:S[n]?=Z9 (.lst (ys.map λz=>D.tup [ZA z,.int 1])))(a:ys.length<=lim):Wi [.lst n] S=.ok (.dct S.length) (S++[.dk (Yj [] (ys.map λz=>(XZ z,D.int 1)))]):=by unfold Wi;dsimp only;rw[h];dsimp only;rw[Cu];dsimp only;rw[if_pos (by rw[qA0];exact a)]
theorem iY(c:ZR){X R Y:yM}(q:c "_law_singles" [.int s] S=.ok (.lst f) b)(w:ZO b f=Z9 X)(o:X.length<lim)(n:Zo [(f,X)] .one (λ_=>ret Z7) (MY c) [Z8] X b=.ok R b)(A:b.length=i)(u:b++[.lst R]=k)(v:Wx [.lst i] k=.ok (.lst d) e)(z:e.length=kr)(x:e++[.lst [.lst d]]=a)
  (t:Zp (.lst kr) (.int 0) a=.ok (.lst d) a) (r:ZO a d=Z9 Y) (m:Y.length<lim)  (l:Zo [(d,Y)] .one (λ_=>ret Z7) (MZ c) [Z8] Y a=.ok P a) (p:a.length=h) (B:a++[.lst P]=g) (y:Wi [.lst h] g=.ok (.dct nk) j)
  (C:Vl Sf (YH (ZU V2 (ZS Zi (ZQ [(ZY 2)])) (ZU Yx (ZW (.int 1)) (ZU Yx (ZW (.int 1)) (ZY 0))))) (Po c) [Z9 (.int s),Z9 (.lst kr),Z9 (.dct nk),Z8,Z8,Z8,Z8,Z8,Z8] j=.nx [Z9 (.int s),Z9 (.lst kr),Z9 (.dct nk),w3,w4,w5,w6,w7,w8] S7) :
  Pn c [Z9 (.int s),Z8,Z8,Z8,Z8,Z8,Z8,Z8,Z8] S=.rt (.lst kr) S7:=by simp[Pn,q,w,o,n,A,u,v,z,x,t,r,m,l,p,B,y,C]
theorem iX(b:1<=sw)(a:sw<=3):((YR sw sw).map (ZG 0)).Nodup:=by
 have:sw=1∨sw=2∨sw=3:=by lia
 rcases this with rfl|rfl|rfl<;>decide
def US(sw j:Nat):Prop:=∀x,x<NN sw->∃i,i<j/\x∈lv sw i
structure Cs(cl:Nat->ZR):Prop where
 st:M4 cl
 si:DH cl
 nu:M1 cl
 le:nc cl
inductive TX(sw:Nat)(S0:ZX)(kr:Nat)(S:ZX):Prop
 |mk (ids:List Nat) (m:Nat) (hl:ids.length=m) (m2:m<=900) (hr:ZO S kr=Z9 (ids.map D.lst)) (rw':Cy sw S ids) (full:US sw m) (ls:∀j,1<=j->j<m->¬US sw j)
theorem iW(H:Cs cl)(n:Nat)(M:1<=sw)(I:sw<=3)(S:ZX):∃kr S1,cl (n+3) "_law_levels" [.int (sw:Nat)] S=.ok (.lst kr) S1/\S.length<=kr/\Ex S S1/\TX sw S kr S1:=by
 obtain⟨f0,S1,e1,g1,x1,l1⟩:=Cz H.si H.st n M I S;have c1:Zo [(f0,(YR sw sw).map Y4)] .one (λ_=>ret Z7) (MY (cl (n+2))) [Z8] ((YR sw sw).map Y4) S1=.ok ((YR sw sw).map λb=>ZA (ZG 0 b)) S1:=by
  refine Wc Y4 (Xj l1) _ _ λb _=>⟨_,rfl,?_⟩
  have:=OP H.nu (n+1) b S1;simp[MY,this,ZA]
 have d:=Mx sw sw;obtain⟨ns,c⟩:∃ns:List Nat,(YR sw sw).map (ZG 0)=ns:=⟨_,rfl⟩
 have W:ns.length=2*sw:=by rw[<- c,qA0,d]
 have v:∀z,z∈ns↔z∈lv sw 0:=λz=>by
  rw[Q5,<- c];unfold YR Zh;simp only[qC4,qO3];constructor
  .rintro⟨b,⟨k,hk,hb⟩,rfl⟩;refine⟨k,hk,?_⟩;simp at hb;rcases hb with rfl|rfl
   .simp[Mz]
   .simp[Mz]
  .rintro⟨k,hk,R⟩;simp at R;rcases R with rfl|rfl
   .exact⟨_,⟨k,hk,by simp⟩,Mz sw k 0⟩
   .exact⟨_,⟨k,hk,by simp⟩,Mz sw k 1⟩
 have eR:((YR sw sw).map λb=>ZA (ZG 0 b))=(ns.map λz=>((z:Nat):Int)).map D.int:=by rw[<- c,qC8,qC8];rfl
 rw[eR]at c1;obtain⟨n0,h0⟩:∃n0,S1.length=n0:=⟨_,rfl⟩
 obtain⟨S2,T⟩:∃S2,S1++[O.lst ((ns.map λz=>((z:Nat):Int)).map D.int)]=S2:=⟨_,rfl⟩
 obtain⟨ys,N,y2⟩:=Ja ns;have e2:Wx [.lst n0] S2=.ok (.lst S2.length) (S2++[.lst (ys.map ZA)]):=by rw[DV (by rw[<- T,<- h0];exact Zm _ _) (by rw[qA0];lia),y2,qC8];rfl
 obtain⟨r0,p⟩:∃r0,S2.length=r0:=⟨_,rfl⟩
 obtain⟨S3,K⟩:∃S3,S2++[O.lst (ys.map ZA)]=S3:=⟨_,rfl⟩
 rw[p,K]at e2;obtain⟨kr,J⟩:∃kr,S3.length=kr:=⟨_,rfl⟩
 obtain⟨S4,U⟩:∃S4,S3++[O.lst [.lst r0]]=S4:=⟨_,rfl⟩
 have E:=T▸Zt S1 _;have x23:=K▸Zt S2 _;have l:=U▸Zt S3 _;have lr3:ZO S3 r0=Z9 (ys.map ZA):=by rw[<- K,<- p];exact Zm _ _
 have g:=l.lst lr3 λz=>z;have G:ZO S4 kr=Z9 ([r0].map D.lst):=by rw[<- U,<- J];exact Zm _ _
 have c2:Zo [(r0,ys.map ZA)] .one (λ_=>ret Z7) (MZ (cl (n+2))) [Z8] (ys.map ZA) S4=.ok (ys.map λz=>D.tup [ZA z,.int 1]) S4:=by
  refine Wc ZA (Xj g) _ _ λz _=>⟨_,rfl,?_⟩
  simp[MZ]
 obtain⟨n5,h5⟩:∃n5,S4.length=n5:=⟨_,rfl⟩
 obtain⟨S5,V⟩:∃S5,S4++[O.lst (ys.map λz=>D.tup [ZA z,.int 1])]=S5:=⟨_,rfl⟩
 have ysl:ys.length=2*sw:=by rw[N.length_eq,W]
 have e3:=iZ (S:=S5) (n:=n5) (ys:=ys) (by rw[<- V,<- h5,qA2 (qA6 _)];simp) (by rw[YY];lia);obtain⟨nk,s⟩:∃nk,S5.length=nk:=⟨_,rfl⟩
 obtain⟨S6,h7⟩:∃S6,S5++[O.dk (Yj [] (ys.map λz=>(XZ z,D.int 1)))]=S6:=⟨_,rfl⟩
 rw[s,h7]at e3;have a:=V▸Zt S4 _;have o:=h7▸Zt S5 _;have X:S6[nk]?=Z9 (.dk (Yj [] (ys.map λz=>(XZ z,D.int 1)))):=by rw[<- h7,<- s,qA2 (qA6 _)];simp
 obtain⟨zs,z1,z2,z3⟩:=MD (more:=ys.map λz=>(XZ z,D.int 1)) (kvs:=[]) (xs:=[]) (by unfold YF;rw[qC8];rfl) rfl;have st:WS sw S kr nk 1 S6:=by
  have:=x1.le;have:=E.le;have:=l.le;have:=a.le;have sl3:S3.length=r0+1:=by rw[<- K,<- p];simp
  refine⟨[r0],_,zs,rfl,o.lst (a.lst G λz=>z) λz=>z,λi id f=>?_,X,z1,λz=>?_,z3 .nil,λi L=>?_,by lia,by lia,((((x1.trans E).trans x23).trans l).trans a).trans o⟩
  .have:=by have:=(qA5.mp f).1;simp at this;omega
   subst this;simp at f;subst f;exact⟨ys,o.lst (a.lst g λz=>z) λz=>z,λz=>by rw[N.mem_iff,v],N.nodup_iff.mpr (c▸iX M I)⟩
  .rw[z2,N.mem_iff,v];constructor
   .simp_all
   .simp_all
  .simp at L;lia
 obtain⟨B',S7,e4,⟨w3,w4,w5,w6,w7,w8,rfl⟩,⟨m,q,mle,F,ls⟩⟩:=JU (t:=YH (ZU V2 (ZS Zi (ZQ [(ZY 2)])) (ZU Yx (ZW (.int 1)) (ZU Yx (ZW (.int 1)) (ZY 0))))) (P:=λk B r=>(∃w3 w4 w5 w6 w7 w8,B=YW sw kr nk w3 w4 w5 w6 w7 w8)/\∃m,WS sw S kr nk m r/\1<=m/\m<=26/\(∀j,1<=j->j<m->¬US sw j)/\k=26 - m) (Q:=fun B r=>(∃w3 w4 w5 w6 w7 w8,B=YW sw kr nk w3 w4 w5 w6 w7 w8)/\∃m,WS sw S kr nk m r/\m<=26/\US sw m/\∀j,1<=j->j<m->¬US sw j) (λk B r h=>by
  obtain⟨⟨w3,w4,w5,w6,w7,w8,rfl⟩,m,ws,m1,m26,nf,rfl⟩:=h;have Z:=ws;obtain⟨y,kk,yk,a1,a2,a3,a4,a5,A,a7,a8,a9,Y,C⟩:=Z;have tt:=i5 (kr:=kr) (w3:=w3) (w4:=w4) (w5:=w5) (w6:=w6) (w7:=w7) (w8:=w8) M I (i4 a4);have kl:=OT a5;have bd:∀z∈yk,z<NN sw:=λz R=>by obtain⟨i,_,L⟩:=(A z).mp R;exact TZ sw i L
  by_cases w:kk.length<NN sw
  .have m25:m<26:=by
    refine Classical.byContradiction λhm=>?_;have:=Mw qO2 λx u=>by obtain⟨i,L,h⟩:=CW M I (qC7.mp u);exact(A x).mpr ⟨i,by lia,h⟩
    rw[qD4]at this
    lia
   obtain⟨S8,v3,v4,v5,v6,v7,v8,b1,b2⟩:=i7 n I m1 (by lia) ws (cl (n+2)) w3 w4 w5 w6 w7 w8;refine .inr ⟨r,by simpa[w]using tt,_,S8,.inl b1,26 - (m+1),by lia,⟨_,_,_,_,_,_,rfl⟩,m+1,b2,by lia,by lia,λj j1 j2 hf=>?_,rfl⟩;by_cases e:j=m
   .subst e;have:=Mw qO2 λx u=>(A x).mpr (hf x (qC7.mp u));rw[qD4]at this
    lia
   .exact nf j j1 (by lia) hf
  .exact .inl ⟨r,by simpa[w]using tt,⟨_,_,_,_,_,_,rfl⟩,m,ws,m26,λx u=>(A x).mp (i6 a7 bd (by lia) u),nf⟩) Sf 25 (YW sw kr nk Z8 Z8 Z8 Z8 Z8 Z8) S6 (by show 25<100000;lia) ⟨⟨_,_,_,_,_,_,rfl⟩,1,st,by lia,by lia,λj j1 j2=>by lia,rfl⟩
 obtain⟨y,kk,yk,a1,a2,a3,a4,a5,A,a7,a8,a9,Y,C⟩:=q;refine⟨kr,S7,?_,a9,C,y,m,a1,by lia,a2,a3,F,ls⟩;rw[H.le];exact Zg rfl (iY _ e1 l1 (by rw[qA0,d,YY];lia) c1 h0 T e2 J U (by rw[VU G];rfl) g (by rw[qA0,ysl,YY];lia) c2 h5 V e3 e4)
theorem iV{l:yA}(h:ZO S q=Z9 (l.map D.int))(neg:Bool)(a:Int):YL neg (.int a) (.lst q) S=.ok (.bl (if neg then !decide (a∈l)else decide (a∈l))) S:=by have e:Ss S (.lst q)=Z9 (l.map D.int):=h;unfold YL;dsimp only;rw[e];show(match (l.map D.int).mapM XS with|some b=>R.ok (D.bl (if neg then !UL (.int a) b else UL (.int a) b)) S|none=>.bad)=_;rw[Dr];dsimp only;rw[Ds]
theorem Cr:∀(m:Nat),b<m->(List.range m).filter (λi=>decide (i=b))=[b]
 |0,h=>absurd h (qG9 _)
 |m+1,h=>by
  rw[qO8,List.filter_append];by_cases e:b=m
  .subst e;have:(List.range b).filter (λi=>decide (i=b))=[]:=qN6.mpr λa c=>by have:=qC7.mp c;simp;lia
   rw[this];simp
  .rw[Cr m (by lia)];simp[Ne.symm e]
theorem iU(a:List Nat):VW (a.map D.lst)=(List.range a.length).map λi=>.tup [.int (i:Nat),.lst (a.getD i 0)]:=by
 refine qN5 λi=>?_;by_cases h:i<a.length
 .rw[NK (by simpa using h),qB1,qH2 h];simp[qF4,h]
 .rw[qG3 (by rw[Ts];simp;lia),qG3 (by simp;lia)]
theorem iT(c:ZR)(e:YL Z5 (.int x) (.lst r) S=.ok (.bl b) S):Pk c [Z9 (.int i),Z9 (.lst r),Z9 (.int x)] S=.ok b S/\Pj c [Z9 (.int i),Z9 (.lst r),Z9 (.int x)] S=.ok (.int i) S:=by
 constructor
 .simp[Pk,e]
 .simp[Pj]
theorem iS(c:ZR){X E:yM}(e:c "_law_number_of" [b] S=.ok (.int x) S)(l:ZO S kr=Z9 X)(g:VW X=E)(d:E.length<lim)(i:Zo [(kr,X)] (.many 2) (Pk c) (Pj c) [Z8,Z8,Z9 (.int x)] E S=.ok [.int a] S)(f:S++[.lst [.int a]]=S1)(h:Zp (.lst S.length) (.int 0) S1=.ok (.int a) S1):Pi c [Z9 (.lst kr),Z9 b,Z8] S=.rt (.int (a+1)) S1:=by simp[Pi,e,l,g,d,i,f,h]
theorem iR(h:DG cl)(x:M1 cl)(n:Nat)(R:TX sw S0 kr S)(d:ZG 0 bs∈lv sw b):Wq (cl (n+2) "_law_fewest" [.lst kr,Y4 bs] S) (.int ((b+1:Nat):Int)) S:=by
 obtain⟨a,m,k,B,t,f,c⟩:=R;have j:b<m:=by
  obtain⟨i,p,h⟩:=c _ (TZ sw b d);have:=MG sw h d
  lia
 have o:Zo [(kr,a.map D.lst)] (.many 2) (Pk (cl (n+1))) (Pj (cl (n+1))) [Z8,Z8,Z9 (.int (ZG 0 bs))] ((List.range a.length).map λi=>D.tup [.int (i:Nat),.lst (a.getD i 0)]) S=.ok (((List.range a.length).filter λi=>decide (i=b)).map λi=>D.int (i:Nat)) S:=by
  refine Nq (λi:Nat=>D.tup [.int i,.lst (a.getD i 0)]) (Xj t) _ _ _ λi p=>⟨_,rfl,?_⟩
  have g:=qC7.mp p;have u:a[i]?=Z9 (a.getD i 0):=by simp[qF4,g]
  obtain⟨s,w,r⟩:=f _ _ u;have e:=iV (l:=s.map λz=>((z:Nat):Int)) (by rw[qC8];exact w) Z5 (ZG 0 bs);have v:decide (((ZG 0 bs):Int)∈s.map λz=>((z:Nat):Int))=decide (i=b):=by
   rw[decide_eq_decide];constructor
   .intro q;obtain⟨z,y,A⟩:=qC4.mp q;have:z=ZG 0 bs:=by lia
    exact MG sw ((r z).mp y) (this▸d)
   .rintro rfl;exact qC4.mpr ⟨_,(r _).mpr d,rfl⟩
  rw[if_neg qB4,v]at e;have:=iT (cl (n+1)) (i:=i) e;exact⟨this.1,λ_=>this.2⟩
 rw[k,Cr m j]at o;refine⟨S++[O.lst [.int b]],?_,Zt _ _⟩;rw[h,show((b+1:Nat):Int)=b+1 by lia];exact Zg rfl (iS _ (OP x n bs S) t (iU a) (by rw[qA0,qD4,YY];lia) (by rw[k];exact o) rfl (by rw[VU (Zm _ _)];rfl))
theorem iQ(c:ZR)(e:c "_law_take" [.lst i,.int 2] S=.ok (.int r) S1):Ph c [a,Z9 (.lst i)] S=.ok (.int r) S1:=by simp[Ph,e]
theorem iP(c:ZR){R:yM}(hs:0<=s/\s<=4)(d:1*2 ^ s.toNat=p)(b:-4611686018427387904<=p/\p<4611686018427387904)(f:(Y5 0 p.toNat).length<lim)(e:Zo [] .one (λ_=>ret Z7) (Ph c) [Z8,Z9 (.lst i)] (Y5 0 p.toNat) S=.ok R a)(h:a++[.lst R]=S2)(t:Xn [.lst a.length] S2=.ok (.tup R) S2):Pg c [Z9 (.lst i),Z9 (.int s)] S=.rt (.tup R) S2:=by
 have g:s<=1000000:=by lia
 simp only[Int.one_mul]at d;simp[Pg,hs.1,g,d,b,f,e,h,t]
theorem Cq(h:DE cl)(ht:JF cl)(n:Nat)(v:sw<=4)(z:Yu S i):∃bs f,cl (n+2) "_law_some_function" [.lst i,.int (sw:Nat)] S=.ok (Y4 bs) f/\bs.length=2 ^ sw/\Kp (·=i) S f/\Yu f i:=by
 have y:(1*2 ^ ((sw:Nat):Int).toNat:Int)=((2 ^ sw:Nat):Int):=by rw[qE0];simp
 have k:2 ^ sw<=2 ^ 4:=qI8 (by decide) v;obtain⟨ds,f,e,l,⟨bs,p,kp,st⟩⟩:=Ju (w:=[]) (t:=.one) (c:=Ph (cl (n+1))) (B0:=[Z8,Z9 (.lst i)]) (P:=λacc g=>∃bs,acc=XN bs/\Kp (·=i) S g/\Yu g i) (λ_ S _=>Yp S) (Y5 0 ((2 ^ sw:Nat):Int).toNat) [] (S:=S) ⟨[],rfl,Kp.refl _ _,z⟩ (λd _ acc g u=>by
  obtain⟨bs,rfl,kp,st⟩:=u;obtain⟨r,A,x,a,b,k2,_,j⟩:=UU ht n st (m:=2) (by decide) (by decide);refine⟨_,rfl,.int r,A,iQ _ x,bs++[decide (r=1)],?_,kp.trans k2,j⟩;have:r=0∨r=1:=by lia
  unfold XN;rw[qE6];rcases this with rfl|rfl<;>simp[b1])
 rw[qV4]at p;subst p;have o:(Y5 0 ((2 ^ sw:Nat):Int).toNat).length=2 ^ sw:=by unfold Y5;rw[qA0,qD4,qE0]
 refine⟨bs,f++[O.lst (XN bs)],?_,?_,kp.trans (Zt _ _).kp,?_⟩
 .rw[h];refine Zg rfl (iP _ ⟨by lia,by lia⟩ y ⟨by lia,by lia⟩ (by rw[o,YY];lia) e rfl (Tn (Zm _ _)))
 .rw[o]at l;unfold XN at l;rw[qA0]at l;exact l
 .obtain⟨s,b,B,q⟩:=st;exact⟨s,b,Nu B,q⟩
theorem TX.ex(h:TX sw S0 kr S)(x:Ex S S1):TX sw S0 kr S1:=by obtain⟨e,m,a,b,c,d,f,g⟩:=h;exact⟨e,m,a,b,x.lst c λz=>z,λi id j=>(d i id j).kp x λz=>z,f,g⟩
theorem TX.st(h:TX sw S0 kr S)(st:Yu S i)(k:Kp (·=i) S S1):TX sw S0 kr S1:=by
 obtain⟨l,m,a,b,c,d,f,g⟩:=h;obtain⟨s,t,e,_⟩:=st;refine⟨l,m,a,b,k.lst c λz=>?_,λj id n=>(d j id n).kp k λz=>?_,f,g⟩
 .subst z;rw[c]at e;cases l with
  |nil=>cases e
  |cons x r=>cases e
 .subst z;obtain⟨o,q,_⟩:=d j id n;rw[q]at e
  match o,e with
  |[],e=>cases e
  |[x],e=>cases e
  |x::y::r,e=>cases e
def XD(sw z:Nat):List Bool:=(List.range (2 ^ sw)).map λp=>z.testBit (2 ^ sw - 1 - p)
theorem ON(sw z:Nat):(XD sw z).length=2 ^ sw:=by unfold XD;rw[qA0,qD4]
theorem iO:∀z,z<256->ZG 0 (XD 3 z)=z:=by decide
theorem iN:∀z,z<16->ZG 0 (XD 2 z)=z:=by decide
theorem iM:∀z,z<4->ZG 0 (XD 1 z)=z:=by decide
theorem R0(b:1<=sw)(a:sw<=3)(h:z<NN sw):ZG 0 (XD sw z)=z:=by
 have:sw=1∨sw=2∨sw=3:=by lia
 rcases this with rfl|rfl|rfl
 .exact iM z h
 .exact iN z h
 .exact iO z h
theorem iL(z k:Nat):jT ((z:Int) / 2 ^ k) 1=b1 (z.testBit k):=by
 have a:(z / 2 ^ k)=((z / 2 ^ k:Nat):Int):=by simp
 rw[a,show 1=((1:Nat):Int)from rfl,Q2,qT3,Nat.testBit,Nat.shiftRight_eq_div_pow,Nat.and_comm,qT3];have:z / 2 ^ k % 2=0∨z / 2 ^ k % 2=1:=by lia
 rcases this with h|h<;>rw[h]<;>simp[b1]
open Classical in
def KL(sw i:Nat):List Nat:=(List.range (NN sw)).filter λz=>decide (Kn sw i z)
open Classical in
theorem UC:z∈KL sw i↔Kn sw i z:=by unfold KL;rw[qG7,qC7,decide_eq_true_eq];exact⟨λh=>h.2,λh=>⟨let ⟨j,_,hj⟩:=h;TZ sw j hj,h⟩⟩
theorem I7(sw i:Nat):(KL sw i).Pairwise (·<·):=List.Pairwise.filter _ qM9
theorem I3(a:sw<=3):(KL sw i).length<=256:=qD0 (qN8 ..) (by rw[qD4];exact OQ a)
theorem iK:∀{l m:List Nat},l.Pairwise (·<·)->m.Pairwise (·<·)->(∀z,z∈l↔z∈m)->l=m:=λ{l m} c d h =>
 ((qQ0 (c.imp λh=>qB7 h) (d.imp λh=>qB7 h)).mpr h).eq_of_pairwise (λa b _ _ e f=>absurd e (Nat.lt_asymm f)) c d
theorem iJ{l:List Nat}(j:l.Nodup)(h:∀z,z∈l↔z∈KL sw i):(Wj (l.map λz=>((z:Nat):Int))).map D.int=(KL sw i).map ZA:=by
 obtain⟨k,g,d⟩:=Ja l;have f:=Kz (l.map λz=>((z:Nat):Int));rw[d,qH7]at f;have c:=g.nodup_iff.mpr j;have lt:k.Pairwise (·<·):=(f.and c).imp λ{a b} h=>by have:=h.1;lia
 have e:=iK lt (I7 sw i) λz=>by rw[g.mem_iff,h]
 rw[d,e,qC8];rfl
theorem iI(h:ZO S n=Z9 (ns.map D.int))(b:ns.length<=5000):Wx [.lst n] S=.ok (.lst S.length) (S++[.lst ((Wj ns).map D.int)]):=by
 by_cases a:ns.length<64
 .exact DV h a
 .have e:(ZO S n).bind Wz=Z9 ns:=by rw[h,qQ9,Np]
  unfold Wx;dsimp only;rw[e];dsimp only;rw[if_neg a,if_pos b]
def OM(sw i:Nat):yM:=(KL sw i).map λz=>Y4 (XD sw z)
inductive I0(sw:Nat)(S0:ZX)(kt j kk:Nat)(S:ZX):Prop
 |mk (ks:List Nat) (hk:ZO S kk=Z9 (ks.map ZA)) (nd:ks.Nodup) (mem:∀z,z∈ks↔∃i,i<j/\z∈lv sw i) (rs:List Nat) (hl:rs.length=j) (ht:ZO S kt=Z9 (rs.map D.lst)) (hr:∀i r,rs[i]?=Z9 r->ZO S r=Z9 (OM sw i)/\S0.length<=r) (rnd:rs.Nodup) (x:Ex S0 S)
theorem IZ:∀(l:List Bool) (m:Nat),m*2 ^ l.length<=ZG m l
 |[],m=>by simp[ZG]
 |z::l,m=>by refine qD0 ?_ (IZ l (2*m+z.toNat));rw[qC9,qR2,Nat.mul_comm (2 ^ l.length) 2,<- Nat.mul_assoc];exact qO6 _ (by lia)
theorem IY:∀(bs d:List Bool) (a:Nat),bs.length=d.length->HT.lexLt (bs.map b1) (d.map b1)=decide (ZG a bs<ZG a d)
 |[],[],a,_=>by rw[decide_eq_false (qH3 _)];rfl
 |[],c::d,a,h=>by simp at h
 |b::bs,[],_,h=>by simp at h
 |x::bs,y::d,a,hl=>by
  have e:=by simpa using hl
  rw[qB8,qB8,HT.lexLt_cons];show _=decide (ZG (2*a+x.toNat) bs<ZG (2*a+y.toNat) d);have j:=IZ d (2*a+1);have g:=Q6 bs (2*a);have f:=IZ bs (2*a+1);have i:=Q6 d (2*a);rw[e]at g f;cases x<;>cases y
  .exact IY bs d _ e
  .rw[decide_eq_true (p:=ZG (2*a+Z5.toNat) bs<ZG (2*a+Z7.toNat) d) (by show ZG (2*a) bs<ZG (2*a+1) d;lia)];simp[b1]
  .rw[decide_eq_false (p:=ZG (2*a+Z7.toNat) bs<ZG (2*a+Z5.toNat) d) (by show ¬ZG (2*a+1) bs<ZG (2*a) d;lia)];simp[b1]
  .exact IY bs d _ e
theorem IX(a:bs.length=2 ^ sw):ZG 0 bs<NN sw:=by have:=Q6 bs 0;rw[a]at this;unfold NN;lia
theorem Cp(c:1<=sw)(b:sw<=3)(a:bs.length=2 ^ sw):XD sw (ZG 0 bs)=bs :=
 (C2 _ _ 0 0 (by rw[ON,a]) (R0 c b (IX a))).2
abbrev Y0(sw z:Nat):D:=Y4 (XD sw z)
theorem iH(h:Y4 bs=Y4 cs):bs=cs:=by injection h with h;refine qT4 (λx y e=>?_)|>.mp h;injection e with e;cases x<;>cases y<;>first|rfl|(simp[b1]at e)
theorem iG(d:1<=sw)(c:sw<=3)(e:a<NN sw)(f:b<NN sw)(h:Y0 sw a=Y0 sw b):a=b:=by rw[<- R0 d c e,<- R0 d c f,iH h]
theorem iF(g:1<=sw)(f:sw<=3):Wa (sw:Nat) d↔∃z,d=Y0 sw z/\z<NN sw:=by
 constructor
 .rintro⟨l,rfl,a,h⟩;obtain⟨bs,rfl⟩:∃bs:List Bool,l=bs.map b1:=⟨l.map λi=>decide (i=1),by
   rw[qC8];refine(qS2 l).symm.trans (qF3 λi c=>?_);have:=h i c;by_cases e:i=1
   .simp[e,b1]
   .have:i=0:=by lia
    simp[this,b1]⟩
  rw[qA0]at a;exact⟨ZG 0 bs,by rw[Je,Y0,Cp g f a],IX a⟩
 .rintro⟨z,rfl,_⟩;refine⟨(XD sw z).map b1,(Je _).symm,by rw[qA0,ON,qE0],λi c=>?_⟩;obtain⟨b,_,rfl⟩:=qC4.mp c;cases b<;>simp[b1]
theorem Co(d:1<=sw)(c:sw<=3)(e:a<NN sw)(f:b<NN sw)(S:ZX):V2 (Y0 sw a) (Y0 sw b) S=.ok (.bl (decide (a<b))) S:=by
 have i:∀bs:List Bool,Wz (XN bs)=Z9 (bs.map b1):=λbs=>by
  have:XN bs=(bs.map b1).map D.int:=by rw[qC8];rfl
  rw[this,Np]
 unfold Y0 Y4 V2;dsimp only;rw[i,i];dsimp only;rw[IY _ _ 0 (by rw[ON,ON]),R0 d c e,R0 d c f]
def YZ(sw:Nat)(S:ZX)(d:D)(zs:List Nat):Prop:=∃r,d=.lst r/\ZO S r=Z9 (zs.map (Y0 sw))/\zs.Pairwise (·<·)/\∀z∈zs,z<NN sw
theorem YZ.ex(h:YZ sw S d zs)(x:Ex S a):YZ sw a d zs:=by obtain⟨r,rfl,l,p,b⟩:=h;exact⟨r,rfl,x.lst l λz=>z,p,b⟩
theorem Mv{sw:Nat}(e:1<=sw)(d:sw<=3):∀{zs ys:List Nat},(∀z∈zs,z<NN sw)->(∀z∈ys,z<NN sw)->zs.map (Y0 sw)=ys.map (Y0 sw)->zs=ys
 |[],[],_,_,_=>rfl
 |[],_::_,_,_,h=>by cases h
 |_::_,[],_,_,h=>by cases h
 |z::zs,y::ys,a,b,h=>by rw[qB8,qB8,qL0.injEq]at h;rw[iG e d (a z (by simp)) (b y (by simp)) h.1,Mv e d (λz c=>a z (by simp[c])) (λz c=>b z (by simp[c])) h.2]
theorem YZ.uniq(g:1<=sw)(c:sw<=3)(h:YZ sw S d zs)(k:YZ sw S d ys):zs=ys:=by obtain⟨r,rfl,l,_,b⟩:=h;obtain⟨q,e,a,_,f⟩:=k;cases e;rw[l]at a;exact Mv g c b f (Option.some.inj a)
theorem Cn:∀{N:Nat}{zs:List Nat},zs.Pairwise (·<·)->(∀z∈zs,z<N)->zs.length<=N:=λ{N zs} p b=>by have:=Mw (p.imp λh=>qB7 h) λx a=>qC7.mpr (b x a);rwa[qD4]at this
theorem IW:∀zs:List Nat,((zs.zip (zs.drop 1)).map λp=>decide (p.1<p.2)).all id=Z7↔zs.Pairwise (·<·)
 |[]=>by simp
 |[a]=>by simp
 |a::b::zs=>by
  have e:=IW (b::zs);change (((b::zs).zip zs).map λp:Nat×Nat=>decide (p.1<p.2)).all id=Z7↔_ at e;show(decide (a<b)&&(((b::zs).zip zs).map λp:Nat×Nat=>decide (p.1<p.2)).all id)=Z7↔_;rw[qD3,e,decide_eq_true_eq,qG0 (a:=a)];constructor
  .rintro⟨h,p⟩;refine⟨λc d=>?_,p⟩;rcases qB0.mp d with rfl|d
   .exact h
   .exact qR0 h ((qG0.mp p).1 c d)
  .simp_all
def UB(S:ZX)(d:D):Prop:=kd S d/\∀r X,d=.lst r->ZO S r=Z9 X->X.length<=600/\∀x∈X,Nk S 1 x
theorem Nk.ex(x:Ex S a):∀{n:Nat}{d:D},Nk S n d->Nk a n d
 |0,d,h=>MM x d h
 |n+1,d,h=>⟨MM x d h.1,λb e=>⟨(h.2 b e).1,λy c=>Nk.ex x ((h.2 b e).2 y c)⟩⟩
theorem Mu(h:kd S (.lst r)):∃X,ZO S r=Z9 X:=by
 obtain⟨t,e⟩:=h;have a:(if(ZO S r).isSome then Z9 "list" else Z8)=Z9 t:=e;split at a
 .rename_i q;exact qI6.mp q
 .cases a
theorem UB.ex(x:Ex S f)(h:UB S d):UB f d:=by refine⟨MM x d h.1,λr X e l=>?_⟩;subst e;obtain⟨Y,c⟩:=Mu h.1;have:=x.lst c λz=>z;rw[this]at l;cases l;obtain⟨a,b⟩:=h.2 r _ rfl c;exact⟨a,λy g=>Nk.ex x (b y g)⟩
def RZ:D->Bool|.lst _=>Z7|_=>Z5
theorem Cm(h:kd S x):Y1 [x,.ty "list"] S=.ok (.bl (RZ x)) S:=by
 cases x with
 |lst k=>rw[Vj (MP h) (by decide)];rfl
 |dct k=>rw[Vj (MO h) (by decide)];rfl
 |ty k=>obtain⟨t,h⟩:=h;cases h
 |rol k=>obtain⟨t,h⟩:=h;cases h
 |_=>rw[Vj rfl (by decide)];rfl
theorem iE(c:ZR)(i:Y1 [d,.ty "list"] S=.ok (.bl Z5) S):T9 c [Z9 a,Z9 d] S=.rt (.bl Z5) S:=by simp[T9,i]
theorem iD(c:ZR){X R:yM}(l:ZO S r=Z9 X)(i:Y1 [.lst r,.ty "list"] S=.ok (.bl Z7) S)(d:X.length<lim)(e:Zo [(r,X)] .one (λ_=>ret Z7) (PC c) [Z8,Z9 b] X S=.ok R a)(f:a++[.lst R]=S2)(t:Ye (λbs=>bs.all id) [.lst a.length] S2=.ok (.bl Z5) S2):T9 c [Z9 b,Z9 (.lst r)] S=.rt (.bl Z5) S2:=by simp[T9,l,i,d,e,f,t]
theorem iC(c:ZR){X Y R P ZZ:yM}(l:ZO S r=Z9 X)(i:Y1 [.lst r,.ty "list"] S=.ok (.bl Z7) S)(s:X.length<lim)(m:Zo [(r,X)] .one (λ_=>ret Z7) (PC c) [Z8,Z9 f] X S=.ok R e)(n:e++[.lst R]=d)(t:Ye (λbs=>bs.all id) [.lst e.length] d=.ok (.bl Z7) d)
  (sl:Yn (.lst r) (Z9 1) Z8 d=.ok (.lst d.length) a) (h:ZO a r=Z9 X) (k:ZO a d.length=Z9 Y) (q:zipD X Y=ZZ) (o:ZZ.length<lim) (j:Zo [(r,X),(d.length,Y)] (.many 2) (λ_=>ret Z7) (PD c) [Z8,Z8] ZZ a=.ok P a) (p:a++[.lst P]=S6) (g:Ye (λbs=>bs.all id) [.lst a.length] S6=.ok (.bl b) S6):T9 c [Z9 f,Z9 (.lst r)] S=.rt (.bl b) S6:=by simp[T9,l,i,s,m,n,t,sl,h,k,q,o,j,p,g]
theorem iB(c:ZR)(h:V2 a b S=.ok t S):PD c [Z9 a,Z9 b] S=.ok t S:=by simp[PD,h]
theorem SY{b:Type}(f:b->Bool)(l:List b)(h:ZO S n=Z9 (l.map λa=>D.bl (f a))):Ye (λbs=>bs.all id) [.lst n] S=.ok (.bl ((l.map f).all id)) S:=by
 have e:∀l:List b,U1 (l.map λa=>D.bl (f a))=Z9 (l.map f):=λl=>by
  induction l with
  |nil=>rfl
  |cons a l c =>
   show(U1 (l.map λd=>D.bl (f d))).map (_::·)=_;rw[c];rfl
 unfold Ye;dsimp only;rw[h];show(match U1 (l.map λa=>D.bl (f a))with|some bs=>R.ok (D.bl (bs.all id)) S|none=>.bad)=_;rw[e]
theorem Ms(b:1<=sw)(a:sw<=3){X:yM}:((X.map λd=>pB (Wa (sw:Nat) d)).all id=Z7)↔∃zs:List Nat,X=zs.map (Y0 sw)/\∀z∈zs,z<NN sw:=by have:(X.map λd=>pB (Wa sw d))=X.map λd=>pB (∃z,d=Y0 sw z/\z<NN sw):=qF3 λd _=>UE (UT.trans (iF b a));rw[this];exact Jt (Y0 sw) _ X
theorem OL(sw:Nat)(zs:List Nat):zipD (zs.map (Y0 sw)) ((zs.map (Y0 sw)).drop 1)=(zs.zip (zs.drop 1)).map λp=>D.tup [Y0 sw p.1,Y0 sw p.2]:=by unfold zipD;rw[<- List.map_drop,List.zip_map,qC8];rfl
theorem Ck{zs:List Nat}(h:p∈zs.zip (zs.drop 1)):p.1∈zs/\p.2∈zs:=by have:=qL7 h;exact⟨this.1,qE8 this.2⟩
theorem iA(h:DK cl)(H:HB cl)(n:Nat)(k:1<=sw)(s:sw<=3)(hk:UB S d):Wq (cl (n+4) "is_rising_list" [.int (sw:Nat),d] S) (.bl (pB (∃zs,YZ sw S d zs))) S:=by
 have i:=Cm hk.1;rw[show n+4=(n+3)+1 from rfl,h];by_cases g:RZ d=Z7
 .obtain⟨r,rfl⟩:∃r,d=.lst r:=by
   cases d with
   |lst r=>exact⟨r,rfl⟩
   |_=>cases g
  obtain⟨X,l⟩:=Mu hk.1;obtain⟨R,V⟩:=hk.2 r X rfl l;obtain⟨Q,J,B⟩:=JV (t:=.one) (c:=PC (cl (n+3))) (B0:=[Z8,Z9 (.int sw)]) (λv=>Ex S v) (λv x=>Xj (x.lst l λz=>z)) X (λd=>.bl (pB (Wa sw d))) (Kp.refl _ _) (λd T v x=>by
   obtain⟨M,y,N⟩:=kP H n (sw:=sw) (by lia) (by lia) (Nk.ex x (V d T));exact⟨_,rfl,M,by simp[PC,y],x.trans N⟩)
  obtain⟨S2,j⟩:∃S2,Q++[O.lst (X.map λd=>D.bl (pB (Wa sw d)))]=S2:=⟨_,rfl⟩
  have A:=j▸Zt _ _;have t:=SY (S:=S2) (λd=>pB (Wa sw d)) X (by rw[<- j];exact Zm _ _);by_cases a:(X.map λd=>pB (Wa sw d)).all id=Z7
  .obtain⟨zs,rfl,o⟩:=(Ms k s).mp a;rw[a]at t;obtain⟨S3,C⟩:∃S3,S2++[O.lst ((zs.map (Y0 sw)).drop 1)]=S3:=⟨_,rfl⟩
   have L:=C▸Zt _ _;have G:=(B.trans A).lst l λz=>z;have U:Yn (.lst r) (Z9 1) Z8 S2=.ok (.lst S2.length) S3:=by rw[Tj G,PR _ (by decide),<- C];rfl
   have I:=L.lst G λz=>z;have K:ZO S3 S2.length=Z9 ((zs.map (Y0 sw)).drop 1):=by rw[<- C];exact Zm _ _
   have y:Zo [(r,zs.map (Y0 sw)),(S2.length,(zs.map (Y0 sw)).drop 1)] (.many 2) (λ_=>ret Z7) (PD (cl (n+3))) [Z8,Z8] ((zs.zip (zs.drop 1)).map λp=>D.tup [Y0 sw p.1,Y0 sw p.2]) S3=.ok ((zs.zip (zs.drop 1)).map λp=>D.bl (decide (p.1<p.2))) S3:=by
    refine Wc (λp:Nat×Nat=>D.tup [Y0 sw p.1,Y0 sw p.2]) (D2 I K) (λp=>D.bl (decide (p.1<p.2))) _ λp P=>⟨_,rfl,?_⟩
    have m:=Ck P;exact iB _ (Co k s (o _ m.1) (o _ m.2) S3)
   have F:=SY (n:=S3.length) (λp:Nat×Nat=>decide (p.1<p.2)) (zs.zip (zs.drop 1)) (Zm _ _);have b:((zs.zip (zs.drop 1)).map λp:Nat×Nat=>decide (p.1<p.2)).all id=pB (∃u,YZ sw S (.lst r) u):=UE ((IW zs).trans ⟨λp=>⟨zs,r,rfl,l,p,o⟩,λ⟨E,q,e,f,p,w⟩=>by
    cases e;rw[l]at f;rw[Mv k s o w (Option.some.inj f)];exact p⟩)
   rw[b]at F;rw[qA0]at R;exact⟨_,Zg rfl (iC _ l (PU l) (by rw[qA0,YY];lia) J j t U I K (OL sw zs) (by rw[qA0,qM0,YY];lia) y rfl F),(B.trans A).trans (L.trans (Zt _ _))⟩
  .rw[qG1]at a;rw[a]at t;rw[YK (λ⟨E,q,e,f,_,w⟩=>by
    cases e;rw[l]at f;cases f;have:=(Ms k s).mpr ⟨E,rfl,w⟩;rw[this]at a;cases a)]
   exact⟨S2,Zg rfl (iD _ l (PU l) (by rw[YY];lia) J j t),B.trans A⟩
 .rw[qG1]at g;rw[g]at i;rw[YK (λ⟨E,q,e,_⟩=>by subst e;cases g)];exact⟨S,Zg rfl (iE _ i),Kp.refl _ _⟩
structure Dz(b:Nat)(S S1:ZX):Prop where
 le:S.length<=S1.length
 eq:∀j,j<b->S1[j]?=S[j]?
 l:∀{n X},ZO S n=Z9 X->ZO S1 n=Z9 X
 d:∀{m kvs},Zc S m=Z9 kvs->Zc S1 m=Z9 kvs
theorem Dz.refl(b:Nat)(S:ZX):Dz b S S:=⟨qA6 _,λ_ _=>rfl,id,id⟩
theorem Dz.trans(x:Dz b S a)(y:Dz b a S2):Dz b S S2:=⟨qD0 x.le y.le,λj h=>(y.eq j h).trans (x.eq j h),λh=>y.l (x.l h),λh=>y.d (x.d h)⟩
theorem Dz.of(a:b<=S.length)(x:Ex S S1):Dz b S S1:=⟨x.le,λj h=>x.eq j (by lia) λz=>z,λh=>x.lst h λz=>z,λh=>MB x h λz=>z⟩
theorem Dz.froze(hm:b<=m)(kp:Kp (·=m) S S1)(h:Zc S m=Z9 c)(d:Zc S1 m=Z9 c):Dz b S S1:=by
 refine⟨kp.le,λj a=>?_,λ{n X} l=>?_,λ{j k} a=>?_⟩
 .by_cases q:j<S.length
  .exact kp.eq j q (by lia)
  .have:=ka h
   lia
 .refine kp.lst l λe=>?_;subst e;rw[Zc,UG l]at h;cases h
 .by_cases e:j=m
  .simp_all
  .exact MB kp a e
def YJ(S:ZX)(m:Nat)(A:List Nat):Prop:=∃a b,Zc S m=Z9 a/\YF a b/\∀z,z∈b↔z∈A
theorem YJ.dz(h:YJ S m A)(x:Dz b S d):YJ d m A:=by obtain⟨k,y,a,b,c⟩:=h;exact⟨k,y,x.d a,b,c⟩
theorem YJ.has(h:YJ S m A)(neg:Bool)(z:Nat):YL neg (.int (z:Nat)) (.dct m) S=.ok (.bl (if neg then !decide (z∈A)else decide (z∈A))) S:=by obtain⟨k,y,a,b,c⟩:=h;rw[CQ a b neg z,decide_eq_decide.mpr (c z)]
def TV(A a C:List Nat):Prop:=∀x∈a,∀z∈C,(x &&& z)∈A/\(x ||| z)∈A
def XC(ds a b:Nat)(w3 w4:Option D):ZT:=[Z9 (.dct ds),Z9 (.dct a),Z9 (.dct b),w3,w4]
theorem IV(c:ZR)(d:YL Z7 (.int ((x &&& z:Nat):Int)) (.dct ds) S=.ok (.bl Z5) S)(e:YL Z7 (.int ((x ||| z:Nat):Int)) (.dct ds) S=.ok (.bl Z5) S):Rk c (XC ds a b (Z9 (ZA x)) (Z9 (ZA z))) S=.nx (XC ds a b (Z9 (ZA x)) (Z9 (ZA z))) S:=by simp[Rk,XC,ZA,Q2,OS,d,e]
theorem IU(c:ZR)(d:YL Z7 (.int ((x &&& z:Nat):Int)) (.dct ds) S=.ok (.bl p) S)(e:YL Z7 (.int ((x ||| z:Nat):Int)) (.dct ds) S=.ok (.bl q) S)(h:(p||q)=Z7):Rk c (XC ds a b (Z9 (ZA x)) (Z9 (ZA z))) S=.rt (.bl Z5) S:=by cases p<;>cases q<;>simp at h<;>simp[Rk,XC,ZA,Q2,OS,d,e]
def Yt(A:List Nat)(x z:Nat):Bool:=decide ((x &&& z)∈A)&&decide ((x ||| z)∈A)
theorem iz(c:ZR){A C:List Nat}(n:Dz b S0 S)(t:YJ S0 ds A)(K:YJ S0 e C)(F:b<=e)(w4:Option D):
  (¬(∀z∈C,Yt A x z=Z7)/\∃a,Rj c (XC ds f e (Z9 (ZA x)) w4) S=.rt (.bl Z5) a/\Dz b S0 a)∨((∀z∈C,Yt A x z=Z7)/\∃h a,Rj c (XC ds f e (Z9 (ZA x)) w4) S=.nx (XC ds f e (Z9 (ZA x)) h) a/\Dz b S0 a):=by
 obtain⟨E,u,q,hk,r⟩:=id K;obtain⟨I,G,kp,l,_⟩:=Jf (c:=ZY 2) (B:=XC ds f e (Z9 (ZA x)) w4) (by simp[XC]) (n.d q) hk;have J:=n.trans (Dz.froze F kp (n.d q) l);have w:=Te ZA (g:=gN 4) (fun B a=>(∃w4,B=XC ds f e (Z9 (ZA x)) w4)/\Dz b S0 a) (λa=>Dz b S0 a) (λ_ S _=>Yp S) (λz=>!Yt A x z) (λ_=>.bl Z5) u (B:=XC ds f e (Z9 (ZA x)) w4) ⟨⟨_,rfl⟩,J⟩ (λz s B a H=>by
  obtain⟨⟨w4,rfl⟩,y⟩:=H;refine⟨XC ds f e (Z9 (ZA x)) (Z9 (ZA z)),a,by simp[XC],?_⟩;have p:=(t.dz y).has Z7 (x &&& z);have j:=(t.dz y).has Z7 (x ||| z);cases d:Yt A x z with
  |true =>
   unfold Yt at d;rw[qD3]at d;rw[d.1]at p;rw[d.2]at j;exact .inr ⟨rfl,_,a,.inl (IV c p j),⟨_,rfl⟩,y⟩
  |false =>
   unfold Yt at d;refine .inl ⟨rfl,a,IU c p j ?_,y⟩;revert d;cases decide ((x &&& z)∈A)<;>cases decide ((x ||| z)∈A)<;>simp)
 have run:Rj c (XC ds f e (Z9 (ZA x)) w4) S=sb (Zf [] (gN 4) (Rk c) (u.map ZA) (XC ds f e (Z9 (ZA x)) w4) I) ZF .mk:=by unfold Rj;rw[Nw,JZ,G];rfl
 rcases w with⟨z,a,i,o,k⟩| ⟨L,a,i,o,⟨h,rfl⟩,k⟩
 .refine .inl ⟨λv=>?_,a,by rw[run,o];rfl,k⟩;have:=qK0 i;have m:=qF9 i;rw[v z ((r z).mp m)]at this;cases this
 .refine .inr ⟨λz s=>?_,h,a,by rw[run,o];rfl,k⟩;have:=qI3.mp i z ((r z).mpr s);simpa using this
theorem Cj(c:ZR){ys:List Nat}(f:Zw (ZY 1) (XC ds a b Z8 Z8) S=.ok (ys.map λz=>D.int ((z:Nat):Int),[]) d)(e:Zf [] (gN 3) (Rj c) (ys.map ZA) (XC ds a b Z8 Z8) d=r):PB c (XC ds a b Z8 Z8) S=sb r (ZV (ZL (ZW (.bl Z7))) ZF) .mk:=by unfold PB;rw[Nw,JZ,f,<- e];rfl
theorem iw(h:DJ cl)(n:Nat){A u C:List Nat}(P:YJ S ds A)(R:YJ S a u)(O:YJ S d C)(I:b<=a)(K:b<=d):
  ∃S1,cl (n+1) "has_all_made" [.dct ds,.dct a,.dct d] S=.ok (.bl (pB (TV A u C))) S1/\Dz b S S1:=by
 obtain⟨J,Q,E,hk,F⟩:=id R;obtain⟨S1,D,kp,l,_⟩:=Jf (c:=ZY 1) (B:=XC ds a d Z8 Z8) (by simp[XC]) E hk;have N:=Dz.froze I kp E l;have H:=Te ZA (g:=gN 3) (fun B e=>(∃j f,B=XC ds a d j f)/\Dz b S e) (λe=>Dz b S e) (λ_ S _=>Yp S) (λx=>!(C.all λz=>Yt A x z)) (λ_=>.bl Z5) Q (B:=XC ds a d Z8 Z8) ⟨⟨_,_,rfl⟩,N⟩ (λx w B e L=>by
  obtain⟨⟨j,f,rfl⟩,y⟩:=L;refine⟨XC ds a d (Z9 (ZA x)) f,e,by simp[XC],?_⟩;rcases iz (cl n) y P O K f with⟨q,v,o,r⟩| ⟨q,M,v,o,r⟩
  .refine .inl ⟨?_,v,o,r⟩;rw[qG4,qH9];exact λz=>q (qD6.mp z)
  .refine .inr ⟨?_,_,v,.inl o,⟨_,_,rfl⟩,r⟩;rw[qI4];exact qD6.mpr q)
 rcases H with⟨x,e,i,t,k⟩| ⟨T,e,i,t,⟨j,f,rfl⟩,k⟩
 .refine⟨e,?_,k⟩;rw[YK (λG=>by
   have:=qK0 i;have m:=qF9 i;rw[qG4,qH9]at this;refine this (qD6.mpr λz s=>?_);obtain⟨p,q⟩:=G x ((F x).mp m) z s;unfold Yt;rw[decide_eq_true p,decide_eq_true q];rfl),h]
  exact Zg rfl (by rw[show Yh 5 [.dct ds,.dct a,.dct d]=XC ds a d Z8 Z8 from rfl,Cj _ D t];rfl)
 .refine⟨e,?_,k⟩;rw[XP (p:=TV A u C) (λx w z s=>by
   have:=qI3.mp i x ((F x).mpr w);rw[qG1,qI4,qD6]at this;have:=this z s;unfold Yt at this;rw[qD3,decide_eq_true_eq,decide_eq_true_eq]at this;exact this),h]
  exact Zg rfl (by rw[show Yh 5 [.dct ds,.dct a,.dct d]=XC ds a d Z8 Z8 from rfl,Cj _ D t];rfl)
theorem iu(f:c B S0=.ok (.dct m) S)(h:Zc S m=Z9 kvs)(hk:YF kvs xs):∃e,Zw c B S0=.ok (xs.map λz=>D.int ((z:Nat):Int),[]) e/\Kp (·=m) S e/\Zc e m=Z9 kvs:=by obtain⟨e,a,b,d,_⟩:=Jf (c:=λ_=>ret (.dct m)) (B:=B) rfl h hk;refine⟨e,?_,b,d⟩;rw[JY]at a ⊢;rw[f];exact a
def Xu(sw:Nat)(ZZ:List (List Nat))(row:List Nat):Prop:=(ZZ=[]->∀z∈Zh sw,z∈row)/\∀k,k<(ZZ.length+1) / 2->∀A a,ZZ[k]?=Z9 A->ZZ[ZZ.length - 1 - k]?=Z9 a->TV row A a
def W1(k ds:Nat)(s:Int)(w3:Option D):ZT:=[Z9 (.lst k),Z9 (.dct ds),Z9 (.int s),w3]
theorem IT(c:ZR)(d:Zp (.lst k) (.int p) S=.ok (.dct a) S)(f:Zi [.lst k] S=.ok (.int L) S)(g:Zp (.lst k) (.int (L - 1 - p)) S=.ok (.dct b) S)(e:c "has_all_made" [.dct ds,.dct a,.dct b] S=.ok (.bl Z7) S1):Tc c (W1 k ds s (Z9 (.int p))) S=.nx (W1 k ds s (Z9 (.int p))) S1:=by simp[Tc,W1,d,f,g,e]
theorem IS(c:ZR)(d:Zp (.lst k) (.int p) S=.ok (.dct a) S)(f:Zi [.lst k] S=.ok (.int L) S)(g:Zp (.lst k) (.int (L - 1 - p)) S=.ok (.dct b) S)(e:c "has_all_made" [.dct ds,.dct a,.dct b] S=.ok (.bl Z5) S1):Tc c (W1 k ds s (Z9 (.int p))) S=.rt (.bl Z5) S1:=by simp[Tc,W1,d,f,g,e]
theorem IR(c:ZR){Y R:yM}(i:Xp (.lst k) S=.ok Z5 S)(d:Zw (ZS (c "first_level") (ZQ [(ZY 2)])) (W1 k ds s Z8) S=.ok (Y,[]) e)(f:Y.length<lim)(h:Zo [] .one (λ_=>ret Z7) (Pz c) [Z8,Z9 (.dct ds)] Y e=.ok R a)(g:a++[.lst R]=S4)(t:Ye (λbs=>bs.all id) [.lst a.length] S4=.ok (.bl b) S4):Ta c (W1 k ds s Z8) S=.rt (.bl b) S4:=by unfold W1 at d ⊢;simp[-JY,Ta,i,d,f,h,g,t]
theorem IQ(c:ZR)(f:Xp (.lst k) S=.ok Z7 S)(d:Zi [.lst k] S=.ok (.int L) S)(a:(L+1) / 2=p)(b:-4611686018427387904<=p/\p<4611686018427387904)(e:Zf [] (gN 3) (Tc c) (Y5 0 p.toNat) (W1 k ds s Z8) S=r):Ta c (W1 k ds s Z8) S=sb r (ZV (ZL (ZW (.bl Z7))) ZF) .mk:=by unfold W1 at e ⊢;simp[Ta,f,d,a,b,e]
theorem ir(c:ZR)(h:YL Z5 (.int (z:Nat)) (.dct ds) S=.ok (.bl b) S):Pz c [Z9 (ZA z),Z9 (.dct ds)] S=.ok (.bl b) S:=by simp[Pz,ZA,h]
theorem Ci{b:List Nat}(h:ZO S k=Z9 (b.map D.dct))(hi:b[i]?=Z9 a):Zp (.lst k) (.int (i:Nat)) S=.ok (.dct a) S:=by rw[VU h,Vo (by rw[qB1,hi];rfl)]
structure HGo(cl:Nat->ZR):Prop where
 go:nh cl
 hm:DJ cl
 fl:DM cl
 tf:MI cl
 no:M7 cl
structure SX(b:Nat)(S:ZX)(ids:List Nat)(ZZ:List (List Nat)):Prop where
 hl:ids.length=ZZ.length
 hd:∀(i:Nat) (id:Nat),ids[i]?=Z9 id->∃r,ZZ[i]?=Z9 r/\YJ S id r/\b<=id
theorem SX.dz{ZZ:List (List Nat)}(h:SX b S e ZZ)(x:Dz b S f):SX b f e ZZ:=⟨h.hl,λi id g=>let ⟨r,a,c,d⟩:=h.hd i id g;⟨r,a,c.dz x,d⟩⟩
theorem iq(H:HGo cl)(n:Nat){ZZ:List (List Nat)}(s1:1<=sw)(W:sw<=3)(bl:b<=S.length)(hk:ZO S k=Z9 (ids.map D.dct))(s:SX b S ids ZZ)(X:YJ S ds A)(hZ:ZZ.length<=900):
  ∃S1,cl (n+7) "goes_on" [.lst k,.dct ds,.int (sw:Nat)] S=.ok (.bl (pB (Xu sw ZZ A))) S1/\Dz b S S1:=by
 have st:Yh 4 [.lst k,.dct ds,.int sw]=W1 k ds sw Z8:=rfl;rw[show n+7=(n+6)+1 from rfl,H.go];cases ids with
 |nil =>
  have K:=qI9 s.hl.symm;subst K;obtain⟨L,S1,e1,hL,x1,⟨kvs,w,Q,hy,I,nd,_⟩⟩:=jt H.fl H.tf H.no n s1 W S;obtain⟨S2,u,kp,d2⟩:=iu (c:=ZS (cl (n+6) "first_level") (ZQ [(ZY 2)])) (B:=W1 k ds sw Z8) (S0:=S) (by simp[W1,e1]) Q hy;have J:=(Dz.of bl x1).trans (Dz.froze (by lia) kp Q d2);have j:Zo [] .one (λ_=>ret Z7) (Pz (cl (n+6))) [Z8,Z9 (.dct ds)] (w.map ZA) S2=.ok (w.map λz=>D.bl (decide (z∈A))) S2:=Wc ZA (Yp _) (λz=>D.bl (decide (z∈A))) _ λz l=>⟨_,rfl,ir _ (by have:=(X.dz J).has Z5 z;rwa[if_neg qB4]at this)⟩
  have t:=SY (n:=S2.length) (λz=>decide (z∈A)) w (Zm _ _);have eb:(w.map λz=>decide (z∈A)).all id=pB (Xu sw [] A):=UE (by
   rw[qD6];constructor
   .intro h;refine⟨λ_ z l=>?_,λk hk=>by simp at hk⟩;have:=h _ (qC4.mpr ⟨z,(I z).mpr ((Q5 sw z).mpr l),rfl⟩);simpa using this
   .rintro h x Z;obtain⟨z,l,rfl⟩:=qC4.mp Z;exact decide_eq_true (h.1 rfl z ((Q5 sw z).mp ((I z).mp l))))
  rw[eb]at t;have yl:=UD 256 nd λz l=>Q1 W ((I z).mp l);refine⟨_,Zg rfl (by exact IR _ (Df hk) u (by rw[qA0,YY];lia) j rfl t),J.trans (Dz.of ?_ (Zt _ _))⟩;have:=J.le;lia
 |cons i0 o =>
  have i:=s.hl;obtain⟨ids,f⟩:∃ids,i0::o=ids:=⟨_,rfl⟩
  have d:1<=ids.length:=by rw[<- f];simp
  have G:=hk;rw[f]at hk s i;have F:∀{T:ZX},ZO T k=Z9 (ids.map D.dct)->Zi [.lst k] T=.ok (.int ids.length) T:=λ{T} h=>by rw[Nv h,qA0]
  have lp:=Te (λp:Nat=>D.int (0+p)) (g:=gN 3) (b:=Tc (cl (n+6))) (fun B a=>(∃N,B=W1 k ds sw N)/\Dz b S a) (λa=>Dz b S a) (λ_ S _=>Yp S) (λp=>!pB (TV A (ZZ.getD p []) (ZZ.getD (ids.length - 1 - p) []))) (λ_=>.bl Z5) (List.range ((ids.length+1) / 2)) (B:=W1 k ds sw Z8) ⟨⟨_,rfl⟩,Dz.refl _ _⟩ (λp O B a hP=>by
   obtain⟨⟨N,rfl⟩,y⟩:=hP;have hp':=qC7.mp O;refine⟨W1 k ds sw (Z9 (.int (0+p))),a,by simp[W1],?_⟩;have V:ids[p]?=Z9 (ids.getD p 0):=by simp[qF4,show p<ids.length by lia]
   have U:ids[ids.length - 1 - p]?=Z9 (ids.getD (ids.length - 1 - p) 0):=by simp[qF4,show ids.length - 1 - p<ids.length by lia]
   obtain⟨r1,a1,a2,a3⟩:=(s.dz y).hd _ _ V;obtain⟨r2,b1,Y,b3⟩:=(s.dz y).hd _ _ U;obtain⟨S2,j,R⟩:=iw H.hm (n+5) (X.dz y) a2 Y a3 b3;have v1:ZZ.getD p []=r1:=by simp[qF4,a1]
   have v2:ZZ.getD (ids.length - 1 - p) []=r2:=by simp[qF4,b1]
   have u:=Ci (y.l hk) V;have P:=Ci (y.l hk) U;rw[show(p:Int)=0+p by lia]at u;rw[show((ids.length - 1 - p:Nat):Int)=(ids.length:Int) - 1 - (0+p) by lia]at P;rw[v1,v2];cases q:pB (TV A r1 r2)with
   |true =>
    rw[q]at j;exact .inr ⟨rfl,_,S2,.inl (IT _ u (F (y.l hk)) P j),⟨_,rfl⟩,y.trans R⟩
   |false =>
    rw[q]at j;exact .inl ⟨rfl,S2,IS _ u (F (y.l hk)) P j,y.trans R⟩)
  have run:∀{r:RS},Zf [] (gN 3) (Tc (cl (n+6))) (Y5 0 (((ids.length+1) / 2:Nat):Int).toNat) (W1 k ds sw Z8) S=r->Ta (cl (n+6)) (W1 k ds sw Z8) S=sb r (ZV (ZL (ZW (.bl Z7))) ZF) .mk:=λ{r} e=>IQ _ (Df G) (F hk) (by lia) ⟨by lia,by lia⟩ e;rcases lp with⟨p,a,v,M,E⟩| ⟨B',a,v,M,⟨N,rfl⟩,E⟩
  .refine⟨a,?_,E⟩;rw[YK (λg=>by
    have q:=qK0 v;have m:=qC7.mp (qF9 v);rw[qG4,qH9]at q;refine q (XP (g.2 p (by rw[<- i];exact m) _ _ ?_ ?_))
    .simp[qF4,show p<ZZ.length by lia]
    .rw[<- i];simp[qF4,show ids.length - 1 - p<ZZ.length by lia])]
   exact Zg rfl (by rw[st,run M];rfl)
  .refine⟨a,?_,E⟩;rw[XP ⟨λz=>by rw[z]at i;rw[i]at d;simp at d,λp O BB C hB hC=>by
    have q:=qI3.mp v p (qC7.mpr (by rw[i];exact O));rw[qG1,qI4,UT,i]at q;simpa[qF4,hB,hC]using q⟩]
   exact Zg rfl (by rw[st,run M];rfl)
def Wn(sw f:Nat)(S0:ZX):List (List Nat)->yM->Prop
 |_,[]=>True
 |ZZ,d::ZK=>∃r,YZ sw S0 d r/\f∉r/\Xu sw ZZ r/\Wn sw f S0 (ZZ++[r]) ZK
def Vt(sw f:Nat)(S:ZX)(d:D):Prop:=∃ds,d=.tup ds/\Wn sw f S [] ds
def OK(S:ZX)(d:D):Prop:=kd S d/\∀ds,d=.tup ds->ds.length<=500/\∀x∈ds,UB S x
theorem YZ.back(x:Ex S0 S)(hk:UB S0 d)(h:YZ sw S d zs):YZ sw S0 d zs:=by obtain⟨r,rfl,l,p,b⟩:=h;obtain⟨X,a⟩:=Mu hk.1;have:=x.lst a λz=>z;rw[l]at this;cases this;exact⟨r,rfl,a,p,b⟩
theorem Cg:∀ys:List Nat,Ww (ys.map λz=>D.tup [ZA z,.bl Z7])=Z9 (ys.map λz=>(XZ z,D.bl Z7))
 |[]=>rfl
 |y::ys=>by show(match WT (ZA y),Ww (ys.map λz=>D.tup [ZA z,.bl Z7])with|some q,Z9 a=>Z9 ((q,D.bl Z7)::a)| _,_=>Z8)=_;rw[Cg ys];rfl
theorem Cf(h:S[n]?=Z9 (.lst (zs.map λz=>D.tup [ZA z,.bl Z7])))(d:zs.length<=1000):∃kvs,Wi [.lst n] S=.ok (.dct S.length) (S++[.dk kvs])/\YJ (S++[.dk kvs]) S.length zs:=by
 have f:Wi [.lst n] S=.ok (.dct S.length) (S++[.dk (Yj [] (zs.map λz=>(XZ z,D.bl Z7)))]):=by unfold Wi;dsimp only;rw[h];dsimp only;rw[Cg];dsimp only;rw[if_pos (by rw[qA0,YY];lia)]
 obtain⟨c,b,a,_⟩:=MD (more:=zs.map λz=>(XZ z,D.bl Z7)) (kvs:=[]) (xs:=[]) (by unfold YF;rw[qC8];rfl) rfl;exact⟨_,f,_,c,MC (by rw[qA2 (qA6 _)];simp),b,λz=>by rw[a];simp⟩
theorem YJ.setl{X Y:yM}(h:YJ S m A)(l:ZO S k=Z9 X):YJ (S.set k (.lst Y)) m A:=by obtain⟨d,f,a,b,c⟩:=h;refine⟨d,f,MB (Vw S _) a (λe=>?_),b,c⟩;subst e;rw[Zc,UG l]at a;cases a
def WD(fd td:D)(s:Int)(k:Nat)(w4 w5:Option D):ZT:=[Z9 fd,Z9 td,Z9 (.int s),Z9 (.lst k),w4,w5]
theorem ik(c:ZR)(e:c "is_rising_list" [.int s,d] S=.ok (.bl Z5) S1):VP c (WD fd td s k (Z9 d) w5) S=.rt (.bl Z5) S1:=by simp[VP,WD,e]
theorem ij(c:ZR){X R:yM}(e:c "is_rising_list" [.int s,.lst r] S=.ok (.bl Z7) a)(g:ZO a r=Z9 X)(l:X.length<lim)(f:Zo [(r,X)] .one (λ_=>ret Z7) (Ri c) [Z8] X a=.ok R a)(h:a++[.lst R]=d)(b:Wi [.lst a.length] d=.ok (.dct m) S4)(j:c "number_of" [fd] S4=.ok (.int x) S4)(i:YL Z5 (.int x) (.dct m) S4=.ok (.bl Z7) S4):VP c (WD fd td s k (Z9 (.lst r)) w5) S=.rt (.bl Z5) S4:=by simp[VP,WD,e,g,l,f,h,b,j,i]
theorem ig(c:ZR){X R:yM}(e:c "is_rising_list" [.int s,.lst r] S=.ok (.bl Z7) a)(h:ZO a r=Z9 X)(n:X.length<lim)(g:Zo [(r,X)] .one (λ_=>ret Z7) (Ri c) [Z8] X a=.ok R a)(j:a++[.lst R]=f)(d:Wi [.lst a.length] f=.ok (.dct m) b)(l:c "number_of" [fd] b=.ok (.int x) b)(i:YL Z5 (.int x) (.dct m) b=.ok (.bl Z5) b)(o:c "goes_on" [.lst k,.dct m,.int s] b=.ok (.bl Z5) S5):VP c (WD fd td s k (Z9 (.lst r)) w5) S=.rt (.bl Z5) S5:=by simp[VP,WD,e,h,n,g,j,d,l,i,o]
theorem IP(c:ZR){X R:yM}(e:c "is_rising_list" [.int s,.lst r] S=.ok (.bl Z7) b)(l:ZO b r=Z9 X)(p:X.length<lim)(j:Zo [(r,X)] .one (λ_=>ret Z7) (Ri c) [Z8] X b=.ok R b)(n:b++[.lst R]=h)(g:Wi [.lst b.length] h=.ok (.dct m) d)(o:c "number_of" [fd] d=.ok (.int x) d)(i:YL Z5 (.int x) (.dct m) d=.ok (.bl Z5) d)(q:c "goes_on" [.lst k,.dct m,.int s] d=.ok (.bl Z7) f)(ty:XR "list" (.lst k) f=Z7)(a:W6 WE (.lst k) [.dct m] f=.ok .non S6):VP c (WD fd td s k (Z9 (.lst r)) w5) S=.nx (WD fd td s k (Z9 (.lst r)) (Z9 (.dct m))) S6:=by simp[VP,WD,e,l,p,j,n,g,o,i,q,ty,a]
theorem ie(c:ZR)(h:c "number_of" [d] S=.ok (.int z) S):Ri c [Z9 d] S=.ok (.tup [.int z,.bl Z7]) S:=by simp[Ri,h]
structure IM(cl:Nat->ZR):Prop extends HGo cl where
 rl:DK cl
 fn:HB cl
 so:DS cl
 ip:ng cl
theorem Ce(H:IM cl)(n:Nat){sw k:Nat}(s:1<=sw)(o:sw<=3){bs:List Bool}{S0:ZX}(kb:S0.length<=k)(td:D):∀(ZK:yM) (ZZ:List (List Nat)) (ids:List Nat) (w4 w5:Option D) (S:ZX),(∀d∈ZK,UB S0 d)->ZZ.length+ZK.length<=500->ZO S k=Z9 (ids.map D.dct)->SX S0.length S ids ZZ->Ex S0 S ->
  (¬Wn sw (ZG 0 bs) S0 ZZ ZK/\∃m,Zf [] (gN 4) (VP (cl (n+7))) ZK (WD (Y4 bs) td (sw:Nat) k w4 w5) S=.rt (.bl Z5) m/\Ex S0 m)∨(Wn sw (ZG 0 bs) S0 ZZ ZK/\∃V m,Zf [] (gN 4) (VP (cl (n+7))) ZK (WD (Y4 bs) td (sw:Nat) k w4 w5) S=.nx V m/\Ex S0 m)
 |[],ZZ,ids,w4,w5,S,_,_,_,_,x=>.inr ⟨trivial,_,S,by unfold Zf;rw[if_pos (Yp S)],x⟩
 |d::ZK,ZZ,ids,w4,w5,S,hn,hz,hk,hr,x=>by
  have nk:=hn d (by simp);have g:gN 4 d (WD (Y4 bs) td sw k w4 w5) S=.ok (WD (Y4 bs) td sw k (Z9 d) w5) S:=by simp[WD]
  obtain⟨R,w,C⟩:=iA H.rl H.fn (n+3) s o (nk.ex x);by_cases b:∃zs,YZ sw S d zs
  .obtain⟨zs,b⟩:=b;have c:=b.back x nk;rw[XP ⟨zs,b⟩]at w;obtain⟨r,rfl,l,up,Z⟩:=id b;have K:=C.lst l λz=>z;have zl:zs.length<=256:=by have:=Cn up Z;have:=OQ o;lia
   have Q:=Wc (Y0 sw) (t:=.one) (B0:=[Z8]) (Xj K) (λz=>D.tup [ZA z,.bl Z7]) _ λz hz=>⟨_,rfl,by
    have:=Jd H.no (n+6) (XD sw z) R;rw[R0 s o (Z z hz)]at this;exact ie _ this⟩
   obtain⟨S3,E⟩:∃S3,R++[O.lst (zs.map λz=>D.tup [ZA z,.bl Z7])]=S3:=⟨_,rfl⟩
   have Y:=E▸Zt _ _;obtain⟨P,G,dr⟩:=Cf (S:=S3) (zs:=zs) (by rw[<- E,qA2 (qA6 _)];simp) (by lia);obtain⟨S4,X⟩:∃S4,S3++[O.dk P]=S4:=⟨_,rfl⟩
   rw[X]at G dr;have x4:=X▸Zt _ _;have F:=Y.trans x4;have f:=(x.trans C).trans F;have N:(zs.map (Y0 sw)).length<lim:=by rw[qA0,YY];lia
   have T:=Jd H.no (n+6) bs S4;have i:=dr.has Z5 (ZG 0 bs);by_cases J:ZG 0 bs∈zs
   .rw[decide_eq_true J]at i;refine .inl ⟨λ⟨y,v,M,_⟩=>M ?_,S4,?_,f⟩
    .rw[v.uniq s o c];exact J
    .unfold Zf;rw[if_pos (Yp S),g];dsimp only;rw[ij _ w K N Q E G T i]
   .rw[decide_eq_false J]at i;have e:=Dz.of x.le (C.trans F);obtain⟨S5,I,B⟩:=iq H.toHGo n s o f.le (e.l hk) (hr.dz e) dr (by have:=hz;lia);have u:Ex S0 S5:=⟨qD0 f.le B.le,λj h q=>(B.eq j h).trans (f.eq j h q)⟩
    by_cases L:Xu sw ZZ zs
    .rw[XP L]at I;have A:=B.l (e.l hk);have zl2:=by simpa using hz
     have a:W6 WE (.lst k) [.dct S3.length] S5=.ok .non (S5.set k (.lst (ids.map D.dct++[.dct S3.length]))):=by rw[PY A,PX,if_pos (by rw[qA0,hr.hl,YY];lia)]
     have U:Ex S0 (S5.set k (.lst (ids.map D.dct++[.dct S3.length]))):=⟨by rw[qJ8];exact u.le,λj h q=>by rw[qE7 (by lia)];exact u.eq j h q⟩
     have k6:ZO (S5.set k (.lst (ids.map D.dct++[.dct S3.length]))) k=Z9 ((ids++[S3.length]).map D.dct):=by rw[Th A,qE6];rfl
     have r6:SX S0.length (S5.set k (.lst (ids.map D.dct++[.dct S3.length]))) (ids++[S3.length]) (ZZ++[zs]):=by
      refine⟨by simp[hr.hl],λi id p=>?_⟩;by_cases q:i<ids.length
      .rw[qA8 q]at p;obtain⟨y,a1,a2,a3⟩:=((hr.dz e).dz B).hd i id p;exact⟨y,by rw[qA8 (by rw[<- hr.hl];exact q)];exact a1,a2.setl A,a3⟩
      .rw[qA2 (by lia)]at p;have q0:=by have:=(qA5.mp p).1;simp at this;omega
       rw[q0]at p;simp at p;subst p;refine⟨zs,by rw[qA2 (by rw[<- hr.hl];lia),<- hr.hl,q0];rfl,(dr.dz B).setl A,?_⟩;have:=(x.trans (C.trans Y)).le
       lia
     have st:=IP (cl (n+7)) (td:=td) (w5:=w5) w K N Q E G T i I (PZ A) a;have un:Zf [] (gN 4) (VP (cl (n+7))) (D.lst r::ZK) (WD (Y4 bs) td sw k w4 w5) S=Zf [] (gN 4) (VP (cl (n+7))) ZK (WD (Y4 bs) td sw k (Z9 (.lst r)) (Z9 (.dct S3.length))) (S5.set k (.lst (ids.map D.dct++[.dct S3.length]))):=by
      conv=>lhs;unfold Zf
      rw[if_pos (Yp S),g];dsimp only;rw[st]
     rw[un];rcases Ce H n s o kb td ZK (ZZ++[zs]) (ids++[S3.length]) (Z9 (.lst r)) (Z9 (.dct S3.length)) _ (λd hd=>hn d (by simp[hd])) (by rw[qB9,qJ6];lia) k6 r6 U with⟨q,m,e',x'⟩| ⟨q,V,m,e',x'⟩
     .refine .inl ⟨λ⟨y,v,M,W,q4⟩=>q ?_,m,e',x'⟩;rw[<- v.uniq s o c];exact q4
     .exact .inr ⟨⟨zs,c,J,L,q⟩,V,m,e',x'⟩
    .rw[YK L]at I;refine .inl ⟨λ⟨y,v,M,W,_⟩=>L ?_,S5,?_,u⟩
     .rw[<- v.uniq s o c];exact W
     .unfold Zf;rw[if_pos (Yp S),g];dsimp only;rw[ig _ w K N Q E G T i I]
  .rw[YK b]at w;refine .inl ⟨λ⟨y,v,_⟩=>b ⟨y,v.ex x⟩,R,?_,x.trans C⟩;unfold Zf;rw[if_pos (Yp S),g];dsimp only;rw[ik _ w]
theorem ic(c:ZR)(i:Y1 [d,.ty "tuple"] S=.ok (.bl Z5) S):Sb c [Z9 fd,Z9 d,Z8,Z8,Z8,Z8] S=.rt (.bl Z5) S:=by simp[Sb,i]
theorem Cd(c:ZR)(e:c "switches_of" [fd] S=.ok (.int s) S)(d:S.length=k)(f:S++[.lst []]=a)(b:Zf [] (gN 4) (VP c) ds (WD fd (.tup ds) s k Z8 Z8) a=r):Sb c [Z9 fd,Z9 (.tup ds),Z8,Z8,Z8,Z8] S=sb r (ZV (ZL (ZW (.bl Z7))) ZF) .mk:=by unfold WD at b;simp[Sb,e,d,f,b]
theorem IL(H:IM cl)(n:Nat)(j:1<=sw)(c:sw<=3)(f:bs.length=2 ^ sw)(hk:OK S d):Wq (cl (n+8) "is_paper" [Y4 bs,d] S) (.bl (pB (Vt sw (ZG 0 bs) S d))) S:=by
 have i:=MN hk.1;rw[show n+8=(n+7)+1 from rfl,H.ip];cases d with
 |tup ds =>
  obtain⟨g,k⟩:=hk.2 ds rfl;have e:=jq H.so (n+6) (by lia) f S;obtain⟨S1,a⟩:∃S1,S++[O.lst []]=S1:=⟨_,rfl⟩
  have l:=a▸Zt _ _;rcases Ce H n j c (qA6 _) (.tup ds) ds [] [] Z8 Z8 S1 k (by simpa using g) (by rw[<- a];exact Zm _ _) ⟨rfl,λi id h=>by simp at h⟩ l with⟨q,S',e',x'⟩| ⟨q,B',S',e',x'⟩
  .refine⟨S',?_,x'⟩;rw[YK (λ⟨b,e,p⟩=>by cases e;exact q p)];exact Zg rfl (by rw[show Yh 6 [Y4 bs,.tup ds]=[Z9 (Y4 bs),Z9 (.tup ds),Z8,Z8,Z8,Z8]from rfl,Cd _ e rfl a e'];rfl)
  .refine⟨S',?_,x'⟩;rw[XP ⟨ds,rfl,q⟩];exact Zg rfl (by rw[show Yh 6 [Y4 bs,.tup ds]=[Z9 (Y4 bs),Z9 (.tup ds),Z8,Z8,Z8,Z8]from rfl,Cd _ e rfl a e'];rfl)
 |_ =>
  refine⟨S,Zg rfl ?_,Kp.refl _ _⟩;rw[YK (λ⟨b,e,_⟩=>by cases e)];exact ic _ i
theorem hU(c:ZR)(hk:kd S y):Rh c [Z9 y] S=.ok (.bl (Wb 0 2 y)) S:=by
 have i:=Dh hk;have b:=Dg hk;cases y with
 |int j =>
  have q:=lx Z5 j [0,1] S;simp only[qB8,qN4]at q;have a:decide (j∈[0,1])=Wb 0 2 (.int j):=by
   show decide (j∈[0,1])=(decide (0<=j)&&decide (j<2))
   rw[<- Bool.decide_and];exact decide_eq_decide.mpr (by simp;lia)
  rw[if_neg qB4,a]at q;simp[Rh,q]
 |_=>simp[Rh,i,MQ,Wb]
theorem IK(c:ZR){X R:yM}(a:0<=s/\s<=4)(d:(X.length:Int)=2 ^ s.toNat)(f:X.length<lim)(e:Zo [] .one (λ_=>ret Z7) (Rh c) [Z8] X S=.ok R S)(g:S++[.lst R]=S1)(t:Ye (λbs=>bs.all id) [.lst S.length] S1=.ok (.bl b) S1):T8 c [Z9 (.int s),Z9 (.tup X)] S=.rt (.bl b) S1:=by
 have h:s<=1000000:=by lia
 simp[T8,a.1,h,d,f,e,g,t]
theorem IJ(c:ZR){X:yM}(a:0<=s/\s<=4)(b:¬(X.length:Int)=2 ^ s.toNat):T8 c [Z9 (.int s),Z9 (.tup X)] S=.rt (.bl Z5) S:=by
 have d:s<=1000000:=by lia
 simp[T8,a.1,d,b]
theorem II(c:ZR)(i:Y1 [d,.ty "tuple"] S=.ok (.bl Z5) S):T8 c [Z9 a,Z9 d] S=.rt (.bl Z5) S:=by simp[T8,i]
theorem hO(h:JC cl)(n:Nat)(g:sw<=3)(hk:Nk S 1 d):Wq (cl (n+1) "_law_is_function" [.int (sw:Nat),d] S) (.bl (pB (Wa (sw:Nat) d))) S:=by
 rw[h];have i:=MN hk.k;cases d with
 |tup a =>
  obtain⟨j,c⟩:=hk.2 a rfl;by_cases b:a.length=2 ^ sw
  .have e:Zo [] .one (λ_=>ret Z7) (Rh (cl n)) [Z8] (a.map id) S=.ok (a.map λd=>D.bl (Wb 0 2 d)) S:=Wc id (Yp _) (λd=>D.bl (Wb 0 2 d)) a λd f=>⟨_,rfl,hU _ (c d f)⟩
   rw[qS2]at e;have t:=SY (n:=S.length) (Wb 0 2) a (Zm _ _);rw[UE (Dd (sw:=sw) (by exact b)).symm]at t;exact⟨_,Zg rfl (IK _ ⟨by lia,by lia⟩ (by rw[b,qE0];simp) (by rw[YY];lia) e rfl t),Zt _ _⟩
  .refine⟨S,Zg rfl ?_,Kp.refl _ _⟩;rw[YK λz=>b (by have:=Dc z;rwa[qE0]at this)];refine IJ _ ⟨by lia,by lia⟩ λz=>b ?_
   exact_mod_cast z
 |_ =>
  refine⟨S,Zg rfl ?_,Kp.refl _ _⟩;rw[YK (Da rfl)];exact II _ i
theorem Mr(x:Ex S e):∀{n:Nat}{d:D}{p:vW},Zz n S d=Z9 p->Zz n e d=Z9 p:=by
 have f:∀{n:Nat},(∀{d:D}{p:vW},Zz n S d=Z9 p->Zz n e d=Z9 p)->∀{a:yM}{ps:List vW},a.mapM (Zz n S)=Z9 ps->a.mapM (Zz n e)=Z9 ps:=λ{n} c {a}=>by
  induction a with
  |nil=>intro ps h;exact h
  |cons d a g =>
   intro ps h;rw[qG6]at h ⊢;cases q:Zz n S d with
   |none=>rw[q]at h;cases h
   |some p =>
    cases b:a.mapM (Zz n S)with
    |none=>rw[q,b]at h;cases h
    |some i =>
     rw[q,b]at h;rw[c q,g b];exact h
 intro n
 induction n with
 |zero=>intro d p h;cases h
 |succ n c =>
  intro d p h;unfold Zz at h ⊢;cases d with
  |tup a =>
   dsimp only at h ⊢;cases q:a.mapM (Zz n S)with
   |none=>rw[q]at h;cases h
   |some ps=>rw[q]at h;rw[f c q];exact h
  |lst k =>
   dsimp only at h ⊢;cases q:ZO S k with
   |none=>rw[q]at h;cases h
   |some a =>
    rw[q]at h;rw[x.lst q λz=>z];dsimp only at h ⊢;cases b:a.mapM (Zz n S)with
    |none=>rw[b]at h;cases h
    |some ps=>rw[b]at h;rw[f c b];exact h
  |_=>exact h
theorem hJ{X:yM}(l:ZO S r=Z9 X)(b:Zz 40 S (.lst r)=Z9 p)(f:ZO S e=Z9 []):Xx (.lst r) (.lst e) S=.ok (.bl X.isEmpty) S:=by
 have q:Zz 40 S (.lst e)=Z9 (.list []):=by unfold Zz;dsimp only;rw[f];rfl
 unfold Xx;dsimp only;rw[q,b];dsimp only;unfold Zz at b;dsimp only at b;rw[l]at b;dsimp only at b;cases X with
 |nil =>
  cases b;rfl
 |cons x X =>
  rw[qG6]at b;cases c:Zz 39 S x with
  |none=>rw[c]at b;cases b
  |some a =>
   cases d:X.mapM (Zz 39 S)with
   |none=>rw[c,d]at b;cases b
   |some g =>
    rw[c,d]at b;cases b;rfl
def Q0(S:ZX)(d:D):Prop:=∀r,d=.lst r->∃p,Zz 40 S d=Z9 p
theorem hI(c:ZR)(i:Y1 [d,.ty "list"] S=.ok (.bl Z5) S):UW c [Z9 a,Z9 d] S=.rt (.bl Z5) S:=by simp[UW,i]
theorem hG(c:ZR)(i:Y1 [.lst r,.ty "list"] S=.ok (.bl Z7) S)(a:S++[.lst []]=S1)(q:Xx (.lst r) (.lst S.length) S1=.ok (.bl Z7) S1):UW c [Z9 b,Z9 (.lst r)] S=.rt (.bl Z5) S1:=by simp[UW,i,a,q]
theorem hD(c:ZR){X R:yM}(i:Y1 [.lst r,.ty "list"] S=.ok (.bl Z7) S)(d:S++[.lst []]=S0)(q:Xx (.lst r) (.lst S.length) S0=.ok (.bl Z5) S0)(l:ZO S0 r=Z9 X)(e:X.length<lim)(g:Zo [(r,X)] .one (λ_=>ret Z7) (Pe c) [Z8,Z9 b] X S0=.ok R a)(f:a++[.lst R]=S2)(t:Ye (λbs=>bs.all id) [.lst a.length] S2=.ok (.bl Z5) S2):UW c [Z9 b,Z9 (.lst r)] S=.rt (.bl Z5) S2:=by simp[UW,i,d,q,l,e,g,f,t]
theorem g6(c:ZR){X Y R P ZZ:yM}(i:Y1 [.lst r,.ty "list"] S=.ok (.bl Z7) S)(o:S++[.lst []]=S0)(q:Xx (.lst r) (.lst S.length) S0=.ok (.bl Z5) S0)(l:ZO S0 r=Z9 X)(v:X.length<lim)(m:Zo [(r,X)] .one (λ_=>ret Z7) (Pe c) [Z8,Z9 f] X S0=.ok R e)(n:e++[.lst R]=d)(t:Ye (λbs=>bs.all id) [.lst e.length] d=.ok (.bl Z7) d)
  (sl:Yn (.lst r) (Z9 1) Z8 d=.ok (.lst d.length) a) (h:ZO a r=Z9 X) (k:ZO a d.length=Z9 Y) (u:zipD X Y=ZZ) (p:ZZ.length<lim) (j:Zo [(r,X),(d.length,Y)] (.many 2) (λ_=>ret Z7) (Pf c) [Z8,Z8] ZZ a=.ok P a) (s:a++[.lst P]=S6) (g:Ye (λbs=>bs.all id) [.lst a.length] S6=.ok (.bl b) S6):UW c [Z9 f,Z9 (.lst r)] S=.rt (.bl b) S6:=by simp[UW,i,o,q,l,v,m,n,t,sl,h,k,u,p,j,s,g]
theorem g5(c:ZR)(h:V2 a b S=.ok t S):Pf c [Z9 a,Z9 b] S=.ok t S:=by simp[Pf,h]
theorem g0(h:DD cl)(Z:JC cl)(n:Nat)(A:1<=sw)(s:sw<=3)(hk:UB S d)(sn:Q0 S d):Wq (cl (n+2) "_law_is_list" [.int (sw:Nat),d] S) (.bl (pB (∃zs,zs≠[]/\YZ sw S d zs))) S:=by
 have i:=Cm hk.1;rw[show n+2=(n+1)+1 from rfl,h];by_cases v:RZ d=Z7
 .obtain⟨r,rfl⟩:∃r,d=.lst r:=by
   cases d with
   |lst r=>exact⟨r,rfl⟩
   |_=>cases v
  obtain⟨X,l⟩:=Mu hk.1;obtain⟨p,H⟩:=sn r rfl;obtain⟨R,U⟩:=hk.2 r X rfl l;obtain⟨S0,u⟩:∃S0,S++[O.lst []]=S0:=⟨_,rfl⟩
  have g:=u▸Zt _ _;have j:=g.lst l λz=>z;have q:=hJ j (Mr g H) (by rw[<- u];exact Zm _ _);cases X with
  |nil =>
   rw[YK (λ⟨zs,hz,r',e,a,_⟩=>hz (by
    cases e;rw[l]at a;exact List.map_eq_nil_iff.mp (Option.some.inj a).symm))]
   exact⟨S0,Zg rfl (hG _ (PU l) u q),g⟩
  |cons y Y =>
   have o:(y::Y)≠[]:=by simp
   obtain⟨X,hX⟩:∃X,y::Y=X:=⟨_,rfl⟩
   rw[hX]at l j R U o;obtain⟨S1,P,I⟩:=JV (t:=.one) (c:=Pe (cl (n+1))) (B0:=[Z8,Z9 (.int sw)]) (λC=>Ex S0 C) (λC x=>Xj (x.lst j λz=>z)) X (λd=>.bl (pB (Wa sw d))) (Kp.refl _ _) (λd hd C x=>by
    obtain⟨V,F,W⟩:=hO Z n s (Nk.ex (g.trans x) (U d hd));exact⟨_,rfl,V,by simp[Pe,F],x.trans W⟩)
   obtain⟨S2,w⟩:∃S2,S1++[O.lst (X.map λd=>D.bl (pB (Wa sw d)))]=S2:=⟨_,rfl⟩
   have G:=w▸Zt _ _;have t:=SY (S:=S2) (λd=>pB (Wa sw d)) X (by rw[<- w];exact Zm _ _);by_cases f:(X.map λd=>pB (Wa sw d)).all id=Z7
   .obtain⟨zs,rfl,B⟩:=(Ms A s).mp f;rw[f]at t;obtain⟨S3,J⟩:∃S3,S2++[O.lst ((zs.map (Y0 sw)).drop 1)]=S3:=⟨_,rfl⟩
    have T:=J▸Zt _ _;have M:=(I.trans G).lst j λz=>z;have sl:Yn (.lst r) (Z9 1) Z8 S2=.ok (.lst S2.length) S3:=by rw[Tj M,PR _ (by decide),<- J];rfl
    have N:=T.lst M λz=>z;have Q:ZO S3 S2.length=Z9 ((zs.map (Y0 sw)).drop 1):=by rw[<- J];exact Zm _ _
    have F:Zo [(r,zs.map (Y0 sw)),(S2.length,(zs.map (Y0 sw)).drop 1)] (.many 2) (λ_=>ret Z7) (Pf (cl (n+1))) [Z8,Z8] ((zs.zip (zs.drop 1)).map λp=>D.tup [Y0 sw p.1,Y0 sw p.2]) S3=.ok ((zs.zip (zs.drop 1)).map λp=>D.bl (decide (p.1<p.2))) S3:=by
     refine Wc (λp:Nat×Nat=>D.tup [Y0 sw p.1,Y0 sw p.2]) (D2 N Q) (λp=>D.bl (decide (p.1<p.2))) _ λp H=>⟨_,rfl,?_⟩
     have m:=Ck H;exact g5 _ (Co A s (B _ m.1) (B _ m.2) S3)
    have L:=SY (n:=S3.length) (λp:Nat×Nat=>decide (p.1<p.2)) (zs.zip (zs.drop 1)) (Zm _ _);have b:((zs.zip (zs.drop 1)).map λp:Nat×Nat=>decide (p.1<p.2)).all id=pB (∃k,k≠[]/\YZ sw S (.lst r) k):=UE ((IW zs).trans ⟨λp=>⟨zs,λe=>o (by rw[e];rfl),r,rfl,l,p,B⟩,λ⟨K,_,q,e,a,p,E⟩=>by
     cases e;rw[l]at a;rw[Mv A s B E (Option.some.inj a)];exact p⟩)
    rw[b]at L;rw[qA0]at R;exact⟨_,Zg rfl (g6 _ (PU (by rw[l])) u q j (by rw[qA0,YY];lia) P w t sl N Q (OL sw zs) (by rw[qA0,qM0,YY];lia) F rfl L),((g.trans I).trans G).trans (T.trans (Zt _ _))⟩
   .rw[qG1]at f;rw[f]at t;rw[YK (λ⟨K,_,q,e,a,_,E⟩=>by
     cases e;rw[l]at a;cases a;have:=(Ms A s).mpr ⟨K,rfl,E⟩;rw[this]at f;cases f)]
    exact⟨S2,Zg rfl (hD _ (PU l) u q j (by rw[YY];lia) P w t),(g.trans I).trans G⟩
 .rw[qG1]at v;rw[v]at i;rw[YK (λ⟨K,_,q,e,_⟩=>by subst e;cases v)];exact⟨S,Zg rfl (hI _ i),Kp.refl _ _⟩
def Vs(S:ZX)(b:List Nat)(ZZ:List (List Nat)):Prop:=b.length=ZZ.length/\∀(i a:Nat),b[i]?=Z9 a->∃r,ZZ[i]?=Z9 r/\ZO S a=Z9 (r.map ZA)
theorem Vs.ex{ZZ:List (List Nat)}(h:Vs S c ZZ)(x:Ex S b):Vs b c ZZ:=⟨h.1,λi a d=>let ⟨r,q1,q2⟩:=h.2 i a d;⟨r,q1,x.lst q2 λz=>z⟩⟩
structure QZ(sw:Nat)(S:ZX)(ds:yM)(ZZ:List (List Nat)):Prop where
 hl:ds.length=ZZ.length
 hd:∀(i:Nat) d,ds[i]?=Z9 d->∃r,ZZ[i]?=Z9 r/\YZ sw S d r
theorem gz(c:ZR){X R:yM}(l:ZO S r=Z9 X)(b:X.length<lim)(e:Zo [(r,X)] .one (λ_=>ret Z7) (MV c) [Z8] X S=.ok R S)(a:S++[.lst R]=S1):Rb c [Z9 (.lst r)] S=.ok (.lst S.length) S1:=by simp[Rb,l,b,e,a]
theorem gy(c:ZR)(h:c "_law_number_of" [d] S=.ok (.int z) S):MV c [Z9 d] S=.ok (.int z) S:=by simp[MV,h]
theorem gw(c:ZR){X R:yM}(l:ZO S r=Z9 X)(d:X.length<lim)(e:Zo [(r,X)] .one (λ_=>ret Z7) (MW c) [Z8] X S=.ok R S)(b:S++[.lst R]=a)(f:Wi [.lst S.length] a=.ok (.dct m) S2):Rc c [Z9 (.lst r)] S=.ok (.dct m) S2:=by simp[Rc,l,d,e,b,f]
theorem IH{a:Type}{l:List a}{x y:a}(h:(l++[x])[i]?=Z9 y):l[i]?=Z9 y∨(i=l.length/\y=x):=by grind
theorem Cc(a:sw<=3)(h:YZ sw S d r):r.length<=256:=by
 obtain⟨_,_,_,p,b⟩:=h;have:=Cn p b;have:=OQ a
 lia
theorem gv(h:M1 cl)(n:Nat)(v:1<=sw)(m:sw<=3){ZZ:List (List Nat)}(c:QZ sw S ds ZZ):∃b S',Zo [] .one (λ_=>ret Z7) (Rb (cl (n+1))) [Z8] ds S=.ok (b.map D.lst) S'/\Vs S' b ZZ/\Ex S S':=by
 obtain⟨C,S',e,j,b,rfl,f,x⟩:=C8 (t:=.one) (B0:=[Z8]) (λacc S'=>∃b:List Nat,acc=b.map D.lst/\(∀(i a:Nat),b[i]?=Z9 a->∃r,ZZ[i]?=Z9 r/\ZO S' a=Z9 (r.map ZA))/\Ex S S') (λ_ S' _=>Yp S') ds (λd acc S' g u=>by
  obtain⟨b,rfl,f,x⟩:=u;rw[qA0]at g;obtain⟨r,y,row⟩:=c.hd _ d g;have B:=Cc m row;obtain⟨k,rfl,l,_,w⟩:=row.ex x;have e:=Wc (Y0 sw) (t:=.one) (B0:=[Z8]) (Xj l) ZA _ λz c=>⟨_,rfl,by
   have:=OP h n (XD sw z) S';rw[R0 v m (w z c)]at this;exact gy _ this⟩
  refine⟨_,rfl,_,_,gz _ l (by rw[qA0,YY];lia) e rfl,b++[S'.length],by simp,λi a p=>?_,x.trans (Zt _ _)⟩;rcases IH p with q|⟨rfl,rfl⟩
  .obtain⟨s,A,o⟩:=f i a q;exact⟨s,A,(Zt S' _).lst o λz=>z⟩
  .exact⟨r,y,Zm _ _⟩) ⟨[],rfl,λi a h=>by simp at h,Kp.refl _ _⟩
 rw[qA0]at j;exact⟨b,S',e,⟨by rw[j,c.hl],f⟩,x⟩
theorem gu(n:Nat){ZZ:List (List Nat)}(h:Vs S c ZZ)(F:∀r∈ZZ,r.length<=256)(l:ZO S k=Z9 (c.map D.lst)):∃b S',Zo [(k,c.map D.lst)] .one (λ_=>ret Z7) (Rc (cl n)) [Z8] (c.map D.lst) S=.ok (b.map D.dct) S'/\SX 0 S' b ZZ/\Ex S S':=by
 obtain⟨I,S',e,C,b,rfl,y,x⟩:=C8 (t:=.one) (B0:=[Z8]) (λacc S'=>∃b:List Nat,acc=b.map D.dct/\(∀(i m:Nat),b[i]?=Z9 m->∃r,ZZ[i]?=Z9 r/\YJ S' m r)/\Ex S S') (λ_ S' w=>Xj (let ⟨_,_,_,x⟩:=w;x.lst l λz=>z)) (c.map D.lst) (λd acc S' g w=>by
  obtain⟨b,rfl,y,x⟩:=w;rw[qA0,qB1]at g;cases s:c[b.length]? with
  |none=>rw[s]at g;cases g
  |some a =>
   rw[s]at g;cases g;obtain⟨r,E,G⟩:=h.2 _ a s;have J:=F r (qC2 E);have j:=x.lst G λz=>z;have e:Zo [(a,r.map ZA)] .one (λ_=>ret Z7) (MW (cl n)) [Z8] (r.map ZA) S'=.ok (r.map λz=>D.tup [ZA z,.bl Z7]) S':=Wc ZA (Xj j) (λz=>D.tup [ZA z,.bl Z7]) _ λz K=>⟨_,rfl,by simp[MW]⟩
   obtain⟨S1,v⟩:∃S1,S'++[O.lst (r.map λz=>D.tup [ZA z,.bl Z7])]=S1:=⟨_,rfl⟩
   obtain⟨p,f,dr⟩:=Cf (S:=S1) (zs:=r) (by rw[<- v,qA2 (qA6 _)];simp) (by lia);have B:Ex S' (S1++[O.dk p]):=(v▸Zt S' _).trans (Zt _ _);refine⟨_,rfl,_,_,gw _ j (by rw[qA0,YY];lia) e v f,b++[S1.length],by simp,λi m u=>?_,x.trans B⟩;rcases IH u with q|⟨rfl,rfl⟩
   .obtain⟨H,A,o⟩:=y i m q;exact⟨H,A,o.dz (Dz.of (qC6 _) B)⟩
   .exact⟨r,E,dr⟩) ⟨[],rfl,λi a h=>by simp at h,Kp.refl _ _⟩
 rw[qA0,qA0]at C;exact⟨b,S',e,⟨by rw[C,h.1],λi m u=>let ⟨r,A,o⟩:=y i m u;⟨r,A,o,qC6 _⟩⟩,x⟩
def Vr(S:ZX)(x:Nat)(d:Nat):Bool:=pB (∃A,YJ S d A/\x∈A)
theorem IG(h:YJ S d A):Vr S x d=decide (x∈A):=by
 refine(UE ?_).symm;rw[decide_eq_true_eq];refine⟨λq=>⟨A,h,q⟩,λ⟨l,i,q⟩=>?_⟩;obtain⟨k,y,a,b,c⟩:=h;obtain⟨m,j,f,e,g⟩:=i;rw[a]at f;cases f;have:=by unfold YF at b e;rw[b]at e;exact(qT4 λ_ _=>ME).mp e
 subst this;exact(c x).mp ((g x).mpr q)
theorem gr(c:ZR)(a:c "_law_number_of" [fd] S=.ok (.int x) S)(e:YL Z5 (.int x) (.dct d) S=.ok (.bl b) S):Re c [Z9 (.dct d),Z9 fd] S=.ok b S:=by simp[Re,a,e]
theorem gq{L:List Nat}(c:ZO S a=Z9 (L.map D.dct))(f:ZO S b=Z9 []):Wk (.lst a) (.lst b) S=.ok (.bl (!L.isEmpty)) S:=by
 have q:Zz 40 S (.lst b)=Z9 (.list []):=by unfold Zz;dsimp only;rw[f];rfl
 unfold Wk;dsimp only;rw[q];cases L with
 |nil =>
  have e:Zz 40 S (.lst a)=Z9 (.list []):=by unfold Zz;dsimp only;rw[c];rfl
  rw[e];rfl
 |cons d L =>
  have e:Zz 40 S (.lst a)=Z8:=by unfold Zz;dsimp only;rw[c];rfl
  rw[e];unfold KE;dsimp only;rw[c,f];dsimp only;rfl
def Xh(id a b:Nat)(c d:Option D):ZT:=[Z9 (.dct id),Z9 (.lst a),Z9 (.lst b),c,d]
theorem IF(c:ZR){id a b x z:Nat}(d:YL Z7 (.int ((x &&& z:Nat):Int)) (.dct id) S=.ok (.bl Z5) S)(e:YL Z7 (.int ((x ||| z:Nat):Int)) (.dct id) S=.ok (.bl Z5) S):Rg c (Xh id a b (Z9 (ZA x)) (Z9 (ZA z))) S=.nx (Xh id a b (Z9 (ZA x)) (Z9 (ZA z))) S:=by simp[Rg,Xh,ZA,Q2,OS,d,e]
theorem IE(c:ZR){id a b x z:Nat}(d:YL Z7 (.int ((x &&& z:Nat):Int)) (.dct id) S=.ok (.bl p) S)(e:YL Z7 (.int ((x ||| z:Nat):Int)) (.dct id) S=.ok (.bl q) S)(h:(p||q)=Z7):Rg c (Xh id a b (Z9 (ZA x)) (Z9 (ZA z))) S=.rt (.bl Z5) S:=by cases p<;>cases q<;>simp at h<;>simp[Rg,Xh,ZA,Q2,OS,d,e]
theorem Cb(c:ZR){id a b:Nat}{ZZ:yM}(l:ZO S b=Z9 ZZ)(e:Zf [(b,ZZ)] (gN 4) (Rg c) ZZ (Xh id a b (Z9 x) d) S=r):Rf c (Xh id a b (Z9 x) d) S=sb r ZF .mk:=by unfold Xh at e ⊢;simp[Rf,l,e]
theorem Ca(c:ZR){id a b:Nat}{ZZ:yM}(l:ZO S a=Z9 ZZ)(e:Zf [(a,ZZ)] (gN 3) (Rf c) ZZ (Xh id a b Z8 Z8) S=r):Pc c (Xh id a b Z8 Z8) S=sb r (ZV (ZL (ZW (.bl Z7))) ZF) .mk:=by unfold Xh at e ⊢;simp[Pc,l,e]
theorem gp(c:ZR){id a b x:Nat}{A C:List Nat}(q:YJ S id A)(j:ZO S b=Z9 (C.map ZA))(f:Option D):
  (¬(∀z∈C,Yt A x z=Z7)/\Rf c (Xh id a b (Z9 (ZA x)) f) S=.rt (.bl Z5) S)∨((∀z∈C,Yt A x z=Z7)/\∃k,Rf c (Xh id a b (Z9 (ZA x)) f) S=.nx (Xh id a b (Z9 (ZA x)) k) S):=by
 have s:=Te ZA (g:=gN 4) (fun B e=>(∃f,B=Xh id a b (Z9 (ZA x)) f)/\e=S) (λe=>e=S) (λ_ e l=>Xj (l.2▸j)) (λz=>!Yt A x z) (λ_=>.bl Z5) C (B:=Xh id a b (Z9 (ZA x)) f) ⟨⟨_,rfl⟩,rfl⟩ (λz p B e l=>by
  obtain⟨⟨f,rfl⟩,rfl⟩:=l;refine⟨Xh id a b (Z9 (ZA x)) (Z9 (ZA z)),e,by simp[Xh],?_⟩;have o:=q.has Z7 (x &&& z);have i:=q.has Z7 (x ||| z);cases d:Yt A x z with
  |true =>
   unfold Yt at d;rw[qD3]at d;rw[d.1]at o;rw[d.2]at i;exact .inr ⟨rfl,_,e,.inl (IF c o i),⟨_,rfl⟩,rfl⟩
  |false =>
   unfold Yt at d;refine .inl ⟨rfl,e,IE c o i ?_,rfl⟩;revert d;cases decide ((x &&& z)∈A)<;>cases decide ((x ||| z)∈A)<;>simp)
 rcases s with⟨z,e,h,n,rfl⟩| ⟨t,e,h,n,⟨m,rfl⟩,rfl⟩
 .refine .inl ⟨λr=>?_,by rw[Cb c j n];rfl⟩;have:=qK0 h;rw[r z (qF9 h)]at this;cases this
 .refine .inr ⟨λz p=>?_,m,by rw[Cb c j n];rfl⟩;have:=qI3.mp h z p;simpa using this
theorem gn(h:DC cl)(n:Nat){id a b:Nat}{A f C:List Nat}(y:YJ S id A)(k:ZO S a=Z9 (f.map ZA))(v:ZO S b=Z9 (C.map ZA)):cl (n+1) "_law_has_all" [.dct id,.lst a,.lst b] S=.ok (.bl (pB (TV A f C))) S:=by
 have u:=Te ZA (g:=gN 3) (fun B c=>(∃s d,B=Xh id a b s d)/\c=S) (λc=>c=S) (λ_ c j=>Xj (j.2▸k)) (λx=>!(C.all λz=>Yt A x z)) (λ_=>.bl Z5) f (B:=Xh id a b Z8 Z8) ⟨⟨_,_,rfl⟩,rfl⟩ (λx r B c j=>by
  obtain⟨⟨s,d,rfl⟩,rfl⟩:=j;refine⟨Xh id a b (Z9 (ZA x)) d,c,by simp[Xh],?_⟩;rcases gp (cl n) y v d with⟨q,i⟩| ⟨q,w,i⟩
  .refine .inl ⟨?_,c,i,rfl⟩;rw[qG4,qH9];exact λz=>q (qD6.mp z)
  .refine .inr ⟨?_,_,c,.inl i,⟨_,_,rfl⟩,rfl⟩;rw[qI4];exact qD6.mpr q)
 have st:Yh 5 [.dct id,.lst a,.lst b]=Xh id a b Z8 Z8:=rfl;rcases u with⟨x,c,e,o,rfl⟩| ⟨E,c,e,o,⟨D,F,rfl⟩,rfl⟩
 .rw[YK (λt=>by
   have:=qK0 e;have m:=qF9 e;rw[qG4,qH9]at this;refine this (qD6.mpr λz l=>?_);obtain⟨p,q⟩:=t x m z l;unfold Yt;rw[decide_eq_true p,decide_eq_true q];rfl),h]
  exact Zg rfl (by rw[st,Ca _ k o];rfl)
 .rw[XP (p:=TV A f C) (λx r z l=>by
   have:=qI3.mp e x r;rw[qG1,qI4,qD6]at this;have:=this z l;unfold Yt at this;rw[qD3,decide_eq_true_eq,decide_eq_true_eq]at this;exact this),h]
  exact Zg rfl (by rw[st,Ca _ k o];rfl)
def XB(a fd td:D)(kr km:Nat)(w5 w6 w7:Option D):ZT:=[Z9 a,Z9 fd,Z9 td,Z9 (.lst kr),Z9 (.lst km),w5,w6,w7]
theorem ID(c:ZR)(i:Zp (.lst kr) (.int f) S=.ok (.lst a) S)(j:Zp (.lst kr) (.int (g - f - 1)) S=.ok (.lst b) S)(e:c "_law_has_all" [.dct d,.lst a,.lst b] S=.ok (.bl Z7) S):T7 c (XB h fd td kr km (Z9 (.int g)) (Z9 (.dct d)) (Z9 (.int f))) S=.nx (XB h fd td kr km (Z9 (.int g)) (Z9 (.dct d)) (Z9 (.int f))) S:=by simp[T7,XB,i,j,e]
theorem IC(c:ZR)(i:Zp (.lst kr) (.int f) S=.ok (.lst a) S)(j:Zp (.lst kr) (.int (g - f - 1)) S=.ok (.lst b) S)(e:c "_law_has_all" [.dct d,.lst a,.lst b] S=.ok (.bl Z5) S):T7 c (XB h fd td kr km (Z9 (.int g)) (Z9 (.dct d)) (Z9 (.int f))) S=.rt (.bl Z5) S:=by simp[T7,XB,i,j,e]
theorem Iz(c:ZR){X R:yM}(g:c "_law_singles" [e] S=.ok (.lst f) a)(j:ZO a f=Z9 X)(k:X.length<lim)(i:Zo [(f,X)] .one (λ_=>ret Z7) (Pb c) [Z8,Z9 (.dct d)] X a=.ok R a)(h:a++[.lst R]=S2)(t:Ye (λbs=>bs.all id) [.lst a.length] S2=.ok (.bl b) S2):
  UV c (XB e fd td kr km (Z9 (.int 0)) (Z9 (.dct d)) w7) S=if b then .nx (XB e fd td kr km (Z9 (.int 0)) (Z9 (.dct d)) w7) S2 else .rt (.bl Z5) S2:=by
 have l:Zf [] (gN 7) (T7 c) [] [Z9 e,Z9 fd,Z9 td,Z9 (.lst kr),Z9 (.lst km),Z9 (.int 0),Z9 (.dct d),w7] S2=.nx [Z9 e,Z9 fd,Z9 td,Z9 (.lst kr),Z9 (.lst km),Z9 (.int 0),Z9 (.dct d),w7] S2:=by unfold Zf;rw[if_pos (Yp _)]
 unfold XB;cases b
 .simp[UV,g,j,k,i,h,t]
 .simp[UV,g,j,k,i,h,t,l,Y5]
theorem Iy(c:ZR)(h:a≠0)(g:(a+1) / 2=p)(b:-4611686018427387904<=p/\p<4611686018427387904)(f:Zf [] (gN 7) (T7 c) (Y5 0 p.toNat) (XB e fd td kr km (Z9 (.int a)) (Z9 (.dct d)) w7) S=r):
  UV c (XB e fd td kr km (Z9 (.int a)) (Z9 (.dct d)) w7) S=sb r ZF .mk:=by unfold XB at f ⊢;simp[UV,h,g,b,f]
theorem gm(c:ZR)(e:c "_law_number_of" [a] S=.ok (.int x) S)(f:YL Z5 (.int x) (.dct d) S=.ok (.bl b) S):Pb c [Z9 a,Z9 (.dct d)] S=.ok (.bl b) S:=by simp[Pb,e,f]
theorem B8{b:List Nat}(h:ZO S k=Z9 (b.map D.lst))(hi:b[i]?=Z9 a):Zp (.lst k) (.int (i:Nat)) S=.ok (.lst a) S:=by rw[VU h,Vo (by rw[qB1,hi];rfl)]
theorem gk(a:List Nat):VW (a.map D.dct)=(List.range a.length).map λi=>.tup [.int (i:Nat),.dct (a.getD i 0)]:=by
 refine qN5 λi=>?_;by_cases h:i<a.length
 .rw[NK (by simpa using h),qB1,qH2 h];simp[qF4,h]
 .rw[qG3 (by rw[Ts];simp;lia),qG3 (by simp;lia)]
theorem B7:z∈(YR sw sw).map (ZG 0)↔z∈Zh sw:=by unfold YR Zh;rw[List.map_flatMap];rfl
structure Iw(cl:Nat->ZR):Prop where
 le:Cs cl
 fn:JC cl
 li:DD cl
 ha:DC cl
 ip:m6 cl
theorem getD_at'{a:Type}{l:List a}{d:a}(h:i<l.length):l[i]?=Z9 (l.getD i d):=by simp[qF4,h]
theorem gj(H:Iw cl)(n:Nat)(s1:1<=sw)(s3:sw<=3){ZZ:List (List Nat)}(W:ZO S kr=Z9 (u.map D.lst))(G:Vs S u ZZ)(P:SX 0 S c ZZ)(hi:i<ZZ.length)(hZ:ZZ.length<=900)(w7:Option D):
  ∃a,Ex S a/\((¬Xu sw (ZZ.take i) (ZZ.getD i [])/\UV (cl (n+3)) (XB (.int (sw:Nat)) fd td kr km (Z9 (.int (i:Nat))) (Z9 (.dct (c.getD i 0))) w7) S=.rt (.bl Z5) a)∨(Xu sw (ZZ.take i) (ZZ.getD i [])/\∃j,UV (cl (n+3)) (XB (.int (sw:Nat)) fd td kr km (Z9 (.int (i:Nat))) (Z9 (.dct (c.getD i 0))) w7) S=.nx (XB (.int (sw:Nat)) fd td kr km (Z9 (.int (i:Nat))) (Z9 (.dct (c.getD i 0))) j) a)):=by
 have ml:i<c.length:=by rw[P.hl];exact hi
 obtain⟨r,K,dr,_⟩:=P.hd i _ (getD_at' ml);have er:ZZ.getD i []=r:=by simp[qF4,K]
 rw[er];by_cases U:i=0
 .subst U;obtain⟨f,T1,s,_,T,V⟩:=Cz H.le.si H.le.st (n+1) s1 s3 S;have I:=dr.dz (Dz.of (qC6 _) T);have c1:Zo [(f,(YR sw sw).map Y4)] .one (λ_=>ret Z7) (Pb (cl (n+3))) [Z8,Z9 (.dct (c.getD 0 0))] ((YR sw sw).map Y4) T1=.ok ((YR sw sw).map λb=>D.bl (decide (ZG 0 b∈r))) T1:=Wc Y4 (Xj V) (λb=>D.bl (decide (ZG 0 b∈r))) _ λb F=>⟨_,rfl,by
   have q:=I.has Z5 (ZG 0 b);exact gm _ (OP H.le.nu (n+2) b T1) q⟩
  have t:=SY (n:=T1.length) (λb=>decide (ZG 0 b∈r)) (YR sw sw) (Zm _ _);have run:=Iz (cl (n+3)) (fd:=fd) (td:=td) (kr:=kr) (km:=km) (w7:=w7) s V (by rw[qA0,Mx,YY];lia) c1 rfl t;have o:((YR sw sw).map λb=>decide (ZG 0 b∈r)).all id=Z7↔Xu sw (ZZ.take 0) r:=by
   rw[qD6];constructor
   .intro h;refine⟨λ_ z hz=>?_,λk hk=>by simp at hk⟩;obtain⟨b,F,rfl⟩:=qC4.mp (B7.mpr hz);have:=h _ (qC4.mpr ⟨b,F,rfl⟩);simpa using this
   .rintro h x hx;obtain⟨b,F,rfl⟩:=qC4.mp hx;exact decide_eq_true (h.1 (by simp) _ (B7.mp (qC4.mpr ⟨b,F,rfl⟩)))
  refine⟨T1++[.lst ((YR sw sw).map λb=>D.bl (decide (ZG 0 b∈r)))],T.trans (Zt _ _),?_⟩;by_cases g:Xu sw (ZZ.take 0) r
  .rw[o.mpr g,if_pos rfl]at run;exact .inr ⟨g,w7,run⟩
  .rw[show((YR sw sw).map λb=>decide (ZG 0 b∈r)).all id=Z5 by rw[qH9];exact λq=>g (o.mp q),if_neg qB4]at run;exact .inl ⟨g,run⟩
 .have al:=G.1;have Y:=Te (λp:Nat=>D.int (0+p)) (g:=gN 7) (b:=T7 (cl (n+3))) (fun B a=>(∃w7,B=XB (.int sw) fd td kr km (Z9 (.int i)) (Z9 (.dct (c.getD i 0))) w7)/\a=S) (λa=>a=S) (λ_ S _=>Yp S) (λp=>!pB (TV r (ZZ.getD p []) (ZZ.getD (i - 1 - p) []))) (λ_=>.bl Z5) (List.range ((i+1) / 2)) (B:=XB (.int sw) fd td kr km (Z9 (.int i)) (Z9 (.dct (c.getD i 0))) w7) ⟨⟨_,rfl⟩,rfl⟩ (λp w B a hP=>by
   obtain⟨⟨w7,rfl⟩,rfl⟩:=hP;have Z:=qC7.mp w;refine⟨XB (.int sw) fd td kr km (Z9 (.int i)) (Z9 (.dct (c.getD i 0))) (Z9 (.int (0+p))),a,by simp[XB],?_⟩;have s:=getD_at' (l:=u) (i:=p) (d:=0) (by lia);have Q:=getD_at' (l:=u) (i:=i - 1 - p) (d:=0) (by lia);obtain⟨r1,a1,a2⟩:=G.2 _ _ s;obtain⟨r2,b1,X⟩:=G.2 _ _ Q;have v1:ZZ.getD p []=r1:=by simp[qF4,a1]
   have v2:ZZ.getD (i - 1 - p) []=r2:=by simp[qF4,b1]
   have J:=B8 W s;have N:=B8 W Q;rw[show(p:Int)=0+p by lia]at J;rw[show((i - 1 - p:Nat):Int)=(i:Int) - (0+p) - 1 by lia]at N;have v:=gn H.ha (n+2) dr a2 X;rw[v1,v2];cases q:pB (TV r r1 r2)with
   |true =>
    rw[q]at v;exact .inr ⟨rfl,_,a,.inl (ID _ J N v),⟨_,rfl⟩,rfl⟩
   |false =>
    rw[q]at v;exact .inl ⟨rfl,a,IC _ J N v,rfl⟩)
  have E:(ZZ.take i).length=i:=by rw[qE4];lia
  have y:∀k,k<i->(ZZ.take i)[k]?=Z9 (ZZ.getD k []):=λk hk=>by rw[qK2 hk];exact getD_at' (by lia)
  have run:∀{L:RS},Zf [] (gN 7) (T7 (cl (n+3))) (Y5 0 (((i+1) / 2:Nat):Int).toNat) (XB (.int sw) fd td kr km (Z9 (.int i)) (Z9 (.dct (c.getD i 0))) w7) S=L->UV (cl (n+3)) (XB (.int sw) fd td kr km (Z9 (.int i)) (Z9 (.dct (c.getD i 0))) w7) S=sb L ZF .mk:=λ{L} e=>Iy _ (by lia) (by lia) ⟨by lia,by lia⟩ e;refine⟨S,Kp.refl _ _,?_⟩;rcases Y with⟨p,a,A,O,rfl⟩| ⟨B',a,A,O,⟨j,rfl⟩,rfl⟩
  .refine .inl ⟨λg=>?_,by rw[run O];rfl⟩;have q:=qK0 A;have m:=qC7.mp (qF9 A);rw[qG4,qH9]at q;refine q (XP (g.2 p (by rw[E];exact m) _ _ (y p (by lia)) ?_));rw[E];exact y _ (by lia)
  .refine .inr ⟨⟨λz=>by have:=congrArg qH4 z;rw[E]at this;exact absurd this U,λp w BB C R M=>?_⟩,j,by rw[run O];rfl⟩;rw[E]at w M;have q:=qI3.mp A p (qC7.mpr w);rw[qG1,qI4,UT]at q;rw[y p (by lia)]at R;rw[y _ (by lia)]at M;cases R;cases M;exact q
theorem gh(j:1<=sw){ZZ:List (List Nat)}(c:∀z∈ZZ,z≠[])(g:Xu sw ZZ r):r≠[]:=by
 intro e;subst e;cases ZZ with
 |nil =>
  have:Yg sw 0 0∈Zh sw:=by exact qO3.mpr ⟨0,qC7.mpr (by lia),by simp⟩
  exact absurd (g.1 rfl _ this) (by simp)
 |cons a ZZ =>
  have b:(a::ZZ).length - 1 - 0<(a::ZZ).length:=by simp
  have:=g.2 0 (by simp) a _ rfl (qA3 b);have h:=c a (by simp);have i:=c _ (qD5 b);obtain⟨x,d⟩:=qQ3 _ h;obtain⟨y,f⟩:=qQ3 _ i;exact absurd (this x d y f).1 (by simp)
theorem B6{sw f:Nat}(b:1<=sw){S:ZX}:∀(ds:yM) (W:List (List Nat)),(∀z∈W,z≠[])->Wn sw f S W ds->∀d∈ds,∃zs,zs≠[]/\YZ sw S d zs
 |[],_,_,_,d,h=>by cases h
 |e::ds,W,hW,⟨r,q1,q2,q3,q4⟩,d,h=>by
  have c:=gh b hW q3;rcases qB0.mp h with rfl|h
  .exact⟨r,c,q1⟩
  .exact B6 b ds (W++[r]) (λz a=>by
    rcases qB6.mp a with a|a
    .exact hW z a
    .rw[qB2.mp a];exact c) q4 d h
theorem Mq(l:1<=sw)(n:sw<=3):∀(ds:yM) (Y W:List (List Nat)),QZ sw S ds Y->(Wn sw f S W ds↔∀(i:Nat) r,Y[i]?=Z9 r->f∉r/\Xu sw (W++Y.take i) r)
 |[],Y,W,p=>by have:=qI9 p.hl.symm;subst this;exact⟨λ_ i r h=>by simp at h,λ_=>trivial⟩
 |d::ds,Y,W,p=>by
  obtain⟨j,m,row⟩:=p.hd 0 d rfl;cases Y with
  |nil=>cases m
  |cons y Y =>
   cases m;have v:QZ sw S ds Y:=⟨by have:=p.hl;simpa using this,λi e h=>by
    obtain⟨r,a,b⟩:=p.hd (i+1) e (by exact h);exact⟨r,by exact a,b⟩⟩
   have k:=Mq (f:=f) l n ds Y (W++[j]) v;constructor
   .rintro⟨r,w,o,q,u⟩ i g h;have t:=w.uniq l n row;subst t;cases i with
    |zero =>
     cases h;rw[qS1,qG8];exact⟨o,q⟩
    |succ i =>
     have:=(k.mp u) i g h;rwa[qC1]at this
   .intro h;have c:=h 0 j rfl;rw[qS1,qG8]at c;refine⟨j,row,c.1,c.2,k.mpr λi g s=>?_⟩;have:=h (i+1) g (by exact s);rwa[qC1]
theorem gg(c:ZR)(i:Y1 [d,.ty "tuple"] S=.ok (.bl Z5) S):Vk c [Z9 a,Z9 fd,Z9 d,Z8,Z8,Z8,Z8,Z8] S=.rt (.bl Z5) S:=by simp[Vk,i]
theorem gf(c:ZR){T R:yM}(f:T.length<lim)(d:Zo [] .one (λ_=>ret Z7) (Ra c) [Z8,Z9 b] T S=.ok R a)(e:a++[.lst R]=S2)(t:Ye (λbs=>bs.all id) [.lst a.length] S2=.ok (.bl Z5) S2):Vk c [Z9 b,Z9 fd,Z9 (.tup T),Z8,Z8,Z8,Z8,Z8] S=.rt (.bl Z5) S2:=by simp[Vk,f,d,e,t]
theorem gc(c:ZR){T R A M F:yM}{S g b d h f a e S8:ZX}(w:T.length<lim)(k:Zo [] .one (λ_=>ret Z7) (Ra c) [Z8,Z9 i] T S=.ok R g)(m:g++[.lst R]=b)(t:Ye (λbs=>bs.all id) [.lst g.length] b=.ok (.bl Z7) b)(o:Zo [] .one (λ_=>ret Z7) (Rb c) [Z8] T b=.ok A d)(hk:d.length=kr)(u:d++[.lst A]=h)(n:ZO h kr=Z9 A)(s:A.length<lim)(y:Zo [(kr,A)] .one (λ_=>ret Z7) (Rc c) [Z8] A h=.ok M f)(hm:f.length=km)(j:f++[.lst M]=a)(r:ZO a km=Z9 M)(l:M.length<lim)
  (p:Zo [(km,M)] .one (Re c) (Pa c) [Z8,Z9 fd] M a=.ok F a) (v:a++[.lst F]=e) (x:e++[.lst []]=S8) (q:Wk (.lst a.length) (.lst e.length) S8=.ok (.bl Z7) S8):Vk c [Z9 i,Z9 fd,Z9 (.tup T),Z8,Z8,Z8,Z8,Z8] S=.rt (.bl Z5) S8:=by simp[Vk,w,k,m,t,o,hk,u,n,s,y,hm,j,r,l,p,v,x,q]
theorem Iv(c:ZR){T R A M F E:yM}{S i d e j g a f b:ZX}(C:T.length<lim)(m:Zo [] .one (λ_=>ret Z7) (Ra c) [Z8,Z9 h] T S=.ok R i)(o:i++[.lst R]=d)(t:Ye (λbs=>bs.all id) [.lst i.length] d=.ok (.bl Z7) d)(s:Zo [] .one (λ_=>ret Z7) (Rb c) [Z8] T d=.ok A e)(hk:e.length=kr)(y:e++[.lst A]=j)(p:ZO j kr=Z9 A)(w:A.length<lim)(H:Zo [(kr,A)] .one (λ_=>ret Z7) (Rc c) [Z8] A j=.ok M g)(hm:g.length=km)(l:g++[.lst M]=a)(v:ZO a km=Z9 M)(n:M.length<lim)
  (u:Zo [(km,M)] .one (Re c) (Pa c) [Z8,Z9 fd] M a=.ok F a) (z:a++[.lst F]=f) (G:f++[.lst []]=b) (q:Wk (.lst a.length) (.lst f.length) b=.ok (.bl Z5) b) (B:ZO b km=Z9 M) (x:VW M=E) (k:Zf [(km,M)] (gT [(gN 5),(gN 6)]) (UV c) E (XB h fd (.tup T) kr km Z8 Z8 Z8) b=r):Vk c [Z9 h,Z9 fd,Z9 (.tup T),Z8,Z8,Z8,Z8,Z8] S=sb r (ZV (ZL (ZW (.bl Z7))) ZF) .mk:=by unfold XB at k;simp[Vk,C,m,o,t,s,hk,y,p,w,H,hm,l,v,n,u,z,G,q,B,x,k]
def Mp(S:ZX)(d:D):Prop:=∀ds,d=.tup ds->∀x∈ds,Q0 S x
theorem Q0.ex(x:Ex S a)(h:Q0 S d):Q0 a d:=λr e=>let ⟨p,q⟩:=h r e;⟨p,Mr x q⟩
theorem gb(H:Iw cl)(n:Nat)(Q:1<=sw)(R:sw<=3)(hk:OK S d)(sn:Mp S d):Wq (cl (n+4) "_law_is_paper" [.int (sw:Nat),Y4 bs,d] S) (.bl (pB (Vt sw (ZG 0 bs) S d))) S:=by
 have i:=MN hk.1;rw[show n+4=(n+3)+1 from rfl,H.ip];cases d with
 |tup ds =>
  obtain⟨dl,dk⟩:=hk.2 ds rfl;have C:=sn ds rfl;have st:Yh 8 [.int sw,Y4 bs,.tup ds]=[Z9 (.int sw),Z9 (Y4 bs),Z9 (.tup ds),Z8,Z8,Z8,Z8,Z8]:=rfl;obtain⟨S1,e1,x1⟩:=JV (t:=.one) (c:=Ra (cl (n+3))) (B0:=[Z8,Z9 (.int sw)]) (λk=>Ex S k) (λk _=>Yp k) ds (λd=>.bl (pB (∃f,f≠[]/\YZ sw S d f))) (Kp.refl _ _) (λd J k x=>by
   obtain⟨S5,W,x5⟩:=g0 H.li H.fn (n+1) Q R ((dk d J).ex x) ((C d J).ex x);have:pB (∃f,f≠[]/\YZ sw k d f)=pB (∃f,f≠[]/\YZ sw S d f):=UE (UT.trans ⟨λ⟨z,a,b⟩=>⟨z,a,b.back x (dk d J)⟩,λ⟨z,a,b⟩=>⟨z,a,b.ex x⟩⟩);rw[this]at W;exact⟨_,rfl,S5,by simp[Ra,W],x.trans x5⟩)
  obtain⟨S2,M⟩:∃S2,S1++[O.lst (ds.map λd=>D.bl (pB (∃f,f≠[]/\YZ sw S d f)))]=S2:=⟨_,rfl⟩
  have x2:=M▸Zt _ _;have v:=x1.trans x2;have t:=SY (S:=S2) (λd=>pB (∃f,f≠[]/\YZ sw S d f)) ds (by rw[<- M];exact Zm _ _);have N:ds.length<lim:=by rw[YY];lia
  by_cases E:(ds.map λd=>pB (∃f,f≠[]/\YZ sw S d f)).all id=Z7
  .rw[E]at t;have A:=λd J=>UT.mp (qD6.mp E _ (qC4.mpr ⟨d,J,rfl⟩));obtain⟨ZZ,w⟩:∃ZZ,QZ sw S ds ZZ:=by
    clear t E e1 x1 M x2 v N st i dk dl C hk sn
    induction ds with
    |nil=>exact⟨[],rfl,λi d h=>by simp at h⟩
    |cons d ds ih =>
     obtain⟨ZZ,q⟩:=ih λe he=>A e (by simp[he]);obtain⟨f,_,row⟩:=A d (by simp);refine⟨f::ZZ,by simp[q.hl],λi e h=>?_⟩;cases i with
     |zero=>cases h;exact⟨f,rfl,row⟩
     |succ i=>rw[qJ1]at h;exact q.hd i e h
   have s:Vt sw (ZG 0 bs) S (.tup ds)↔∀i r,ZZ[i]?=Z9 r->ZG 0 bs∉r/\Xu sw (ZZ.take i) r :=
    ⟨λ⟨T,e,p⟩=>by cases e;exact(Mq Q R ds ZZ [] w).mp p,λh=>⟨ds,rfl,(Mq Q R ds ZZ [] w).mpr h⟩⟩
   have pz2:QZ sw S2 ds ZZ:=⟨w.hl,λi d h=>let ⟨r,a,b⟩:=w.hd i d h;⟨r,a,b.ex v⟩⟩
   obtain⟨as,S3,e3,n3,x3⟩:=gv H.le.nu (n+2) Q R pz2;obtain⟨kr,L⟩:∃kr,S3.length=kr:=⟨_,rfl⟩
   obtain⟨S4,X⟩:∃S4,S3++[O.lst (as.map D.lst)]=S4:=⟨_,rfl⟩
   have x4:=X▸Zt _ _;have l4:ZO S4 kr=Z9 (as.map D.lst):=by rw[<- X,<- L];exact Zm _ _
   have zl:∀r∈ZZ,r.length<=256:=λr hr=>by
    obtain⟨i,hi⟩:=qE1 hr;have il:i<ds.length:=by rw[w.hl];exact(qA5.mp hi).1
    obtain⟨r',a,b⟩:=w.hd i _ (qA3 il);rw[hi]at a;cases a;exact Cc R b
   obtain⟨o,S5,W,P,x5⟩:=gu (n+3) (n3.ex x4) zl l4;obtain⟨km,G⟩:∃km,S5.length=km:=⟨_,rfl⟩
   obtain⟨S6,Y⟩:∃S6,S5++[O.lst (o.map D.dct)]=S6:=⟨_,rfl⟩
   have x6:=Y▸Zt _ _;have l6:ZO S6 km=Z9 (o.map D.dct):=by rw[<- Y,<- G];exact Zm _ _
   have Z:=P.dz (Dz.of (qC6 _) x6);have e6:=Nq D.dct (Xj l6) (t:=.one) (tc:=Re (cl (n+3))) (c:=Pa (cl (n+3))) (B0:=[Z8,Z9 (Y4 bs)]) (Vr S6 (ZG 0 bs)) D.dct o (λm V=>⟨_,rfl,by
    obtain⟨j,u⟩:=qE1 V;obtain⟨r,_,dr,_⟩:=Z.hd j m u;have q:=dr.has Z5 (ZG 0 bs);rw[if_neg qB4,<- IG dr]at q;exact gr _ (OP H.le.nu (n+2) bs S6) q,λ_=>by simp[Pa]⟩)
   obtain⟨S7,h7⟩:∃S7,S6++[O.lst ((o.filter (Vr S6 (ZG 0 bs))).map D.dct)]=S7:=⟨_,rfl⟩
   obtain⟨S8,h8⟩:∃S8,S7++[O.lst []]=S8:=⟨_,rfl⟩
   have x7:=h7▸Zt _ _;have x8:=h8▸Zt _ _;have q:=gq (x8.lst (by rw[<- h7];exact Zm _ _) λz=>z) (by rw[<- h8];exact Zm _ _);have hA:(as.map D.lst).length<lim:=by rw[qA0,n3.1,<- w.hl];exact N
   have hM:(o.map D.dct).length<lim:=by rw[qA0,P.hl,<- w.hl];exact N
   have I:=x7.trans x8;have F:=(x5.trans x6).trans I;have K:=((v.trans x3).trans x4).trans F;by_cases hf:o.filter (Vr S6 (ZG 0 bs))=[]
   .rw[hf]at q;have nof:∀i r,ZZ[i]?=Z9 r->ZG 0 bs∉r:=λi r hr V=>by
     have il:i<o.length:=by rw[P.hl];exact(qA5.mp hr).1
     obtain⟨r',a,dr,_⟩:=Z.hd i _ (qA3 il);rw[hr]at a;cases a;have:=qN6.mp hf _ (qD5 il);rw[IG dr,decide_eq_true V]at this;exact this rfl
    have l8:=I.lst l6 λz=>z;have r8:=F.lst l4 λz=>z;have n8:=(n3.ex x4).ex F;have m8:=Z.dz (Dz.of (qC6 _) I);have zz:ZZ.length<=900:=by rw[<- w.hl];lia
    have lp:=Te (λi:Nat=>D.tup [.int i,.dct (o.getD i 0)]) (g:=gT [(gN 5),(gN 6)]) (fun B k=>(∃w5 w6 U,B=XB (.int sw) (Y4 bs) (.tup ds) kr km w5 w6 U)/\Ex S8 k) (λk=>Ex S8 k) (λ_ k hp=>Xj (hp.2.lst l8 λz=>z)) (λi=>!pB (Xu sw (ZZ.take i) (ZZ.getD i []))) (λ_=>.bl Z5) (List.range o.length) (B:=XB (.int sw) (Y4 bs) (.tup ds) kr km Z8 Z8 Z8) ⟨⟨_,_,_,rfl⟩,Kp.refl _ _⟩ (λj u B k hP=>by
     obtain⟨⟨w5,w6,U,rfl⟩,y⟩:=hP;have hj':=qC7.mp u;refine⟨XB (.int sw) (Y4 bs) (.tup ds) kr km (Z9 (.int j)) (Z9 (.dct (o.getD j 0))) U,k,by simp[XB],?_⟩;obtain⟨S9,y9,h9⟩:=gj H n Q R (y.lst r8 λz=>z) (n8.ex y) (m8.dz (Dz.of (qC6 _) y)) (by rw[<- P.hl];exact hj') zz U;rcases h9 with⟨g,e⟩| ⟨g,w7',e⟩
     .exact .inl ⟨by rw[YK g];rfl,S9,e,y.trans y9⟩
     .exact .inr ⟨by rw[XP g];rfl,_,S9,.inl e,⟨_,_,_,rfl⟩,y.trans y9⟩)
    rw[<- gk o]at lp;have run:∀{r:RS},Zf [(km,o.map D.dct)] (gT [(gN 5),(gN 6)]) (UV (cl (n+3))) (VW (o.map D.dct)) (XB (.int sw) (Y4 bs) (.tup ds) kr km Z8 Z8 Z8) S8=r->Vk (cl (n+3)) [Z9 (.int sw),Z9 (Y4 bs),Z9 (.tup ds),Z8,Z8,Z8,Z8,Z8] S=sb r (ZV (ZL (ZW (.bl Z7))) ZF) .mk:=λ{r} e=>Iv _ N e1 M t e3 L X l4 hA W G Y l6 hM e6 h7 h8 q l8 rfl e;rcases lp with⟨j,k,f1,f2,f3⟩| ⟨B',k,f1,f2,⟨w5,w6,U,rfl⟩,f3⟩
    .refine⟨k,?_,K.trans f3⟩;rw[YK (λp=>by
      have q:=qK0 f1;have m:=qC7.mp (qF9 f1);rw[qG4,qH9]at q;exact q (XP ((s.mp p) j _ (getD_at' (by rw[<- P.hl];exact m))).2))]
     exact Zg rfl (by rw[st,run f2];rfl)
    .refine⟨k,?_,K.trans f3⟩;rw[XP (s.mpr λj r u=>⟨nof j r u,by
      have jl:j<o.length:=by rw[P.hl];exact(qA5.mp u).1
      have q:=qI3.mp f1 j (qC7.mpr jl);rw[qG1,qI4,UT]at q;simpa[qF4,u]using q⟩)]
     exact Zg rfl (by rw[st,run f2];rfl)
   .rw[show(!(o.filter (Vr S6 (ZG 0 bs))).isEmpty)=Z7 by cases h:o.filter (Vr S6 (ZG 0 bs))with|nil=>exact absurd h hf|cons a l=>rfl]at q;refine⟨S8,?_,K⟩;rw[YK (λp=>hf (qN6.mpr λm V hq=>by
     obtain⟨j,u⟩:=qE1 V;obtain⟨r,a,dr,_⟩:=Z.hd j m u;rw[IG dr,decide_eq_true_eq]at hq;exact((s.mp p) j r a).1 hq))]
    exact Zg rfl (by exact gc _ N e1 M t e3 L X l4 hA W G Y l6 hM e6 h7 h8 q)
  .rw[qG1]at E;rw[E]at t;refine⟨S2,?_,v⟩;rw[YK (λ⟨T,e,p⟩=>by
    cases e;have:(ds.map λd=>pB (∃f,f≠[]/\YZ sw S d f)).all id=Z7:=qD6.mpr λb hb=>by obtain⟨d,J,rfl⟩:=qC4.mp hb;exact XP (B6 Q ds [] (λz hz=>by cases hz) p d J)
    rw[this]at E;cases E)]
   exact Zg rfl (by exact gf _ N e1 M t)
 |_ =>
  refine⟨S,Zg rfl ?_,Kp.refl _ _⟩;rw[YK (λ⟨C,e,_⟩=>by cases e)];exact gg _ i
theorem fC(c:ZR)(h:0<=L - 1 - p)(e:jT (z / 2 ^ (L - 1 - p).toNat) 1=b1 b):Pm c [Z9 (.int p),Z9 (.int z),Z9 (.int L)] S=.ok (.int (b1 b)) S:=by
 have a:p<=L - 1:=by lia
 simp[Pm,a,e]
theorem fz(c:ZR){R:yM}(a:0<=s/\s<=4)(b:2 ^ s.toNat=L)(f:-4611686018427387904<=L/\L<4611686018427387904)(d:(Y5 0 L.toNat).length<lim)(e:Zo [] .one (λ_=>ret Z7) (Pm c) [Z8,Z9 (.int z),Z9 (.int L)] (Y5 0 L.toNat) S=.ok R S)(g:S++[.lst R]=S1)(t:Xn [.lst S.length] S1=.ok (.tup R) S1):Pl c [Z9 (.int s),Z9 (.int z),Z8] S=.rt (.tup R) S1:=by
 have h:s<=1000000:=by lia
 simp[Pl,a.1,h,b,f,d,e,g,t]
theorem fy(h:MX cl)(n:Nat)(c:sw<=3)(z:Nat)(S:ZX):Wq (cl (n+1) "_law_bits" [.int (sw:Nat),.int (z:Nat)] S) (Y0 sw z) S:=by
 have d:2 ^ sw<=2 ^ 3:=qI8 (by decide) c;obtain⟨L,f⟩:∃L,2 ^ sw=L:=⟨_,rfl⟩
 have b:(Y5 0 ((2 ^ sw:Nat):Int).toNat)=(List.range (2 ^ sw)).map λp:Nat=>D.int (0+p):=by unfold Y5;rw[qE0]
 have e:Zo [] .one (λ_=>ret Z7) (Pm (cl n)) [Z8,Z9 (.int z),Z9 (.int ((2 ^ sw:Nat):Int))] (Y5 0 ((2 ^ sw:Nat):Int).toNat) S=.ok (XN (XD sw z)) S:=by
  rw[b,show XN (XD sw z)=(List.range (2 ^ sw)).map λp=>D.int (b1 (z.testBit (2 ^ sw - 1 - p))) by unfold XN XD;rw[qC8];rfl];refine Wc (λp:Nat=>D.int (0+p)) (Yp S) _ _ λp a=>⟨_,rfl,?_⟩
  have:=qC7.mp a;refine fC _ (by lia) ?_;rw[show(((2 ^ sw:Nat):Int) - 1 - (0+p)).toNat=2 ^ sw - 1 - p by lia];exact iL z _
 refine⟨S++[O.lst (XN (XD sw z))],?_,Zt _ _⟩;rw[h];exact Zg rfl (fz _ ⟨by lia,by lia⟩ (by simp) ⟨by lia,by lia⟩ (by rw[b,qA0,qD4,YY];lia) e rfl (Tn (Zm _ _)))
def UR(s:Int)(b:D)(m:Int)(c a:Nat)(w:Option D):ZT:=[Z9 (.int s),Z9 b,Z9 (.int m),Z9 (.lst c),Z9 (.lst a),w]
theorem fx(c:ZR){j b id h f i:Nat}{ZZ R Y:yM}(q:Zx (.lst j) (.lst id) S=.ok (.lst h) l)(t:Wx [.lst h] l=.ok (.lst f) d)(ty:XR "list" (.lst b) d=Z7)(o:ZO d f=Z9 ZZ)(u:ZZ.length<lim)(n:Zo [(f,ZZ)] .one (λ_=>ret Z7) (MU c) [Z8,Z9 (.int s)] ZZ d=.ok R g)(r:g.length=i)(p:g++[.lst R]=e)(a:W6 WE (.lst b) [.lst i] e=.ok .non (e.set b (.lst Y))):
  Q9 c (UR s k m b j (Z9 (.lst id))) S=.nx (UR s k m b f (Z9 (.lst id))) (e.set b (.lst Y)):=by simp[Q9,UR,q,t,ty,o,u,n,r,p,a]
theorem fw(c:ZR)(e:c "_law_bits" [.int s,.int z] S=.ok fd S1):MU c [Z9 (.int z),Z9 (.int s)] S=.ok fd S1:=by simp[MU,e]
theorem fv(h:MX cl)(n:Nat)(s1:1<=sw)(E:sw<=3){kt j P id:Nat}(hj:j<=900)(gt:S0.length<=kt)(hp:I0 sw S0 kt j P S)(J:OO sw j S id)(w:Option D):
  Tf (gN 5) (Q9 (cl (n+1))) (.lst id) (UR (sw:Nat) T m kt P w) S (fun B k=>∃s,B=UR (sw:Nat) T m kt s (Z9 (.lst id))/\I0 sw S0 kt (j+1) s k/\Kp (·=kt) S k):=by
 obtain⟨ks,hk,Z,mem,rs,X,ht,C,F,x⟩:=hp;obtain⟨xs,d1,G,Y⟩:=J;have b1':=UD 256 Z λz A=>by obtain⟨i,_,c⟩:=(mem z).mp A;exact Q1 E c
 have b2:=UD 256 Y λz A=>Q1 E ((G z).mp A);have M:=T5 hk d1 (by rw[qA0,qA0,YY];lia);rw[<- qE6]at M;obtain⟨S2,L⟩:∃S2,S++[O.lst ((ks++xs).map ZA)]=S2:=⟨_,rfl⟩
 rw[L]at M;have x2:=L▸Zt _ _;have V:=qH8.mpr ⟨Z,Y,λa U b W e=>by
  subst e;obtain⟨i,c,hm⟩:=(mem a).mp U;have:=MG sw hm ((G a).mp W)
  lia⟩
 have p:∀z,z∈ks++xs↔z∈KL sw j:=λz=>by
  rw[qB6,mem,G,UC];constructor
  .rintro(⟨i,c,h⟩| h)
   .exact⟨i,by lia,h⟩
   .exact⟨j,by lia,h⟩
  .rintro⟨i,c,h⟩;by_cases e:i=j
   .subst e;exact .inr h
   .exact .inl ⟨i,by lia,h⟩
 have e3:Wx [.lst S.length] S2=.ok (.lst S2.length) (S2++[.lst ((KL sw j).map ZA)]):=by rw[iI (by rw[<- L,qC8];exact Zm _ _) (by rw[qA0,qB9];lia),iJ V p]
 obtain⟨S3,Q⟩:∃S3,S2++[O.lst ((KL sw j).map ZA)]=S3:=⟨_,rfl⟩
 rw[Q]at e3;have x3:=Q▸Zt _ _;have g:=x2.trans x3;have H:ZO S3 S2.length=Z9 ((KL sw j).map ZA):=by rw[<- Q];exact Zm _ _
 obtain⟨o,c1,K⟩:=DY ZA (t:=.one) (B0:=[Z8,Z9 (.int sw)]) (λk=>Ex S3 k) (λk x=>Xj (x.lst H λz=>z)) (Y0 sw) (KL sw j) (Kp.refl _ _) (λz A k x=>by
  obtain⟨S5,e5,v⟩:=fy h n E z k;exact⟨_,rfl,S5,fw _ e5,x.trans v⟩)
 obtain⟨S5,I⟩:∃S5,o++[O.lst (OM sw j)]=S5:=⟨_,rfl⟩
 have v:=I▸Zt _ _;have d:=(g.trans K).trans v;have t5:=d.lst ht λz=>z;have a:W6 WE (.lst kt) [.lst o.length] S5=.ok .non (S5.set kt (.lst (rs.map D.lst++[.lst o.length]))):=by rw[PY t5,PX,if_pos (by rw[qA0,YY];lia)]
 have ktl:=Ti ht;have g3:=x2.le;have g4:S.length<=o.length:=by have:=g.le;have:=K.le;lia
 have f:=Vw (i:=kt) S5 (.lst (rs.map D.lst++[.lst o.length]));have N:=λi r c=>Ti (C i r c).1;have R:∀i r,rs[i]?=Z9 r->r≠kt:=λi r c e=>by
  subst e;have:=(C i r c).1;rw[ht]at this;cases rs with
  |nil=>cases c
  |cons q rs =>
   replace this:=Option.some.inj this
   unfold OM at this;generalize KL sw i=l at this;cases l with
   |nil=>cases this
   |cons y ys =>
    rw[qB8,qB8,qL0.injEq]at this;cases this.1
 refine⟨UR sw T m kt P (Z9 (.lst id)),S,by simp[UR],_,_,.inl (fx _ M e3 (PZ (g.lst ht λz=>z)) H (by rw[qA0,YY];have:=I3 (i:=j) E;lia) c1 rfl I a),S2.length,rfl,⟨KL sw j,?_,(I7 sw j).imp λh=>qB7 h,λz=>?_,rs++[o.length],by simp[X],?_,λi r c=>?_,?_,⟨?_,λi c _=>?_⟩⟩,d.kp.trans f⟩
 .exact f.lst ((K.trans v).lst H λz=>z) (by lia)
 .rw[UC];exact⟨λ⟨i,a,b⟩=>⟨i,by lia,b⟩,λ⟨i,a,b⟩=>⟨i,by lia,b⟩⟩
 .rw[Th t5,qE6];rfl
 .by_cases u:i<rs.length
  .rw[qA8 u]at c;exact⟨f.lst (d.lst (C i r c).1 λz=>z) (R i r c),(C i r c).2⟩
  .rcases IH c with q|⟨rfl,rfl⟩
   .exact absurd (qA5.mp q).1 u
   .rw[X];exact⟨f.lst (by rw[<- I];exact Zm _ _) (by lia),by lia⟩
 .refine qH8.mpr ⟨F,by simp,λa U b W e=>?_⟩;simp at W;obtain⟨i,c⟩:=qE1 U;have:=N i _ c
  lia
 .rw[qJ8];have:=d.le;lia
 .rw[qE7 (by lia),d.eq i (by lia) (λz=>z),x.eq i c (λz=>z)]
structure OJ(sw ix:Nat)(S:ZX)(rs:List Nat):Prop where
 hl:rs.length=ix
 hr:∀(i:Nat) (r:Nat),rs[i]?=Z9 r->ZO S r=Z9 (OM sw i)
theorem fu(c:ZR){X Y:yM}{S d k g S5:ZX}(p:S.length=a)(l:S++[.lst []]=d)(hk:d.length=j)(o:d++[.lst []]=k)(e:Yn b Z8 (Z9 m) k=.ok (.lst h) g)(n:ZO g h=Z9 X)
  (i:Zf [(h,X)] (gN 5) (Q9 c) X (UR s b m a j Z8) g=.nx (UR s b m a f w) S5) (t:Xn [.lst a] S5=.ok (.tup Y) S5):O9 c [Z9 (.int s),Z9 b,Z9 (.int m),Z8,Z8,Z8] S=.rt (.tup Y) S5:=by unfold UR at i;simp[O9,p,l,hk,o,e,n,i,t]
theorem BZ(h:DB cl)(U:MX cl)(n:Nat)(s1:1<=sw)(s3:sw<=3)(hm:many<=800)(R:TX sw S0 kr S):∃rs S1 F,cl (n+3) "_law_paper" [.int (sw:Nat),.lst kr,.int (many:Nat)] S=.ok (.tup (rs.map D.lst)) S1/\OJ sw F S1 rs/\F<=many/\Ex S S1/\∀r∈rs,S.length<=r:=by
 obtain⟨a,m,il,m2,y,k,H,ls⟩:=R;obtain⟨kt,C⟩:∃kt,S.length=kt:=⟨_,rfl⟩
 obtain⟨S1,s⟩:∃S1,S++[O.lst []]=S1:=⟨_,rfl⟩
 obtain⟨kk,hk⟩:∃kk,S1.length=kk:=⟨_,rfl⟩
 obtain⟨S2,p⟩:∃S2,S1++[O.lst []]=S2:=⟨_,rfl⟩
 have Q:=s▸Zt _ _;have I:=p▸Zt _ _;have f:=Q.trans I;have l1:S1.length=kt+1:=by rw[<- s,<- C];simp
 have l2:S2.length=kk+1:=by rw[<- p,<- hk];simp
 have r2:=f.lst y λz=>z;have x:=Tj r2 Z8 (Z9 (many:Int));rw[Nn _ (by lia),qE0,<- List.map_take]at x;obtain⟨S4,v⟩:∃S4,S2++[O.lst ((a.take many).map D.lst)]=S4:=⟨_,rfl⟩
 rw[v]at x;have q:=v▸Zt _ _;have J:ZO S4 S2.length=Z9 ((a.take many).map D.lst):=by rw[<- v];exact Zm _ _
 have k0:ZO S4 kk=Z9 (([]).map ZA):=q.lst (by rw[<- p,<- hk];exact Zm _ _) λz=>z;have X:ZO S4 kt=Z9 (([]).map D.lst):=q.lst (I.lst (by rw[<- s,<- C];exact Zm _ _) λz=>z) λz=>z;have tl:(a.take many).length<=many:=by rw[qE4];lia
 have g:∀(j id),a[j]?=Z9 id->id<S.length:=λj id e=>by obtain⟨xs,Z,_⟩:=k j id e;exact Ti Z
 have ne:S2.length≠kt:=by lia
 obtain⟨B5,S5,e6,⟨c,w,rfl,⟨ks,_,_,_,rs,G,rt,K,L,M⟩⟩,kp⟩:=Ua (b:=Q9 (cl (n+2))) (P:=λj B o=>(∃c w,B=UR sw (.lst kr) many kt c w/\I0 sw S kt j c o)/\Kp (·=kt) S4 o) (λj B o E=>Xj (E.2.lst J ne)) ⟨⟨kk,Z8,rfl,⟨[],k0,.nil,λz=>by simp,[],rfl,X,λi r h=>by simp at h,.nil,f.trans q⟩⟩,Kp.refl _ _⟩ (λj d B o l V=>by
  obtain⟨⟨c,w,rfl,E⟩,kp⟩:=V;rw[qB1]at l;cases e:(a.take many)[j]? with
  |none=>rw[e]at l;cases l
  |some id =>
   rw[e]at l;cases l;have t:j<many:=by
    have:=(qA5.mp e).1
    lia
   rw[qK2 t]at e;have gi:=g j id e;obtain⟨B1,T,W,B2,Y,a2,u,N,a4,a5⟩:=fv U (n+1) s1 s3 (by lia) (by lia) E (((k j id e).kp (f.trans q) λz=>z).kp kp (by lia)) w;exact⟨B1,T,W,B2,Y,a2,⟨u,_,N,a4⟩,kp.trans a5⟩)
 rw[qA0]at G;refine⟨rs,S5,(a.take many).length,?_,⟨G,λi r A=>(K i r A).1⟩,tl,M,λr y=>?_⟩
 .rw[show n+3=(n+2)+1 from rfl,h];exact Zg rfl (fu _ C s hk p x J e6 (Tn rt))
 .obtain⟨i,A⟩:=qE1 y;exact(K i r A).2
def At(d:D):Prop:=d=.non∨(∃b,d=.bl b)∨∃i,d=.int i/\-9<=i/\i<=9
def Wt(S:ZX)(i:Nat):List Nat->D->Prop
 |[],d=>At d
 |k::b,d=>At d∨(∃a,d=.tup a/\a.length<=k/\∀x∈a,Wt S i b x)∨∃r a,d=.lst r/\r≠i/\ZO S r=Z9 a/\a.length<=k/\∀x∈a,Wt S i b x
theorem Wt.kp(x:Kp (·=i) S c):∀{f:List Nat}{d:D},Wt S i f d->Wt c i f d
 |[],_,h=>h
 |_::_,_,.inl h=>.inl h
 |_::_,_,.inr (.inl ⟨xs,e,l,a⟩)=>.inr (.inl ⟨xs,e,l,λy b=>Wt.kp x (a y b)⟩)
 |_::_,_,.inr (.inr ⟨r,xs,e,n,la,l,a⟩)=>.inr (.inr ⟨r,xs,e,n,x.lst la n,l,λy b=>Wt.kp x (a y b)⟩)
theorem Wt.ex(x:Ex S a)(h:Wt S i b d):Wt a i b d:=h.kp x.kp
theorem At.kd(h:At d):kd S d:=by rcases h with rfl|⟨b,rfl⟩| ⟨i,rfl,_⟩<;>exact⟨_,rfl⟩
theorem Wt.kd:∀{a:List Nat}{d:D},Wt S i a d->kd S d
 |[],_,h=>At.kd h
 |_::_,_,.inl h=>At.kd h
 |_::_,_,.inr (.inl ⟨xs,e,_⟩)=>e▸kX S xs
 |_::_,_,.inr (.inr ⟨r,xs,e,_,la,_⟩)=>e▸Di (by rw[la];rfl)
theorem At.tup{xs:yM}(h:At d)(e:d=.tup xs):False:=by subst e;rcases h with h|⟨b,h⟩| ⟨i,h,_⟩<;>cases h
theorem At.lst(h:At d)(e:d=.lst r):False:=by subst e;rcases h with h|⟨b,h⟩| ⟨i,h,_⟩<;>cases h
theorem Wt.tup{xs:yM}(h:Wt S i (k::b) (.tup xs)):xs.length<=k/\∀x∈xs,Wt S i b x:=by
 rcases h with h|⟨c,e,l,a⟩| ⟨r,c,e,_⟩
 .exact(h.tup rfl).elim
 .cases e;exact⟨l,a⟩
 .cases e
theorem Wt.lst{xs:yM}(h:Wt S i (k::b) (.lst r))(l:ZO S r=Z9 xs):xs.length<=k/\∀x∈xs,Wt S i b x:=by
 rcases h with h|⟨c,e,_⟩| ⟨g,c,e,_,f,d,a⟩
 .exact(h.lst rfl).elim
 .cases e
 .simp_all
theorem Wt.nk(h:Wt S i (k::b) d)(hk:k<=1000):Nk S 1 d:=⟨h.kd,λc e=>by subst e;exact⟨by have:=h.tup.1;lia,λx a=>(h.tup.2 x a).kd⟩⟩
theorem Wt.nkl(h:Wt S i (k::k2::c) d)(hk:k<=600)(b:k2<=1000):UB S d:=⟨h.kd,λr X e l=>by subst e;exact⟨by have:=(h.lst l).1;lia,λx a=>((h.lst l).2 x a).nk b⟩⟩
abbrev K3:List Nat:=[12,300,10]
abbrev K2:List Nat:=[300,10]
abbrev K1:List Nat:=[10]
theorem Wt.nkp(h:Wt S i K3 d):OK S d:=⟨h.kd,λds e=>by subst e;exact⟨by have:=h.tup.1;lia,λx a=>(h.tup.2 x a).nkl (by decide) (by decide)⟩⟩
structure Pd(w:Nat)(n:Nat)(p:vW):Prop where
 can:p.canLay0=Z7
 dep:p.depth<=n
 sh:p.showable=Z7
 ish:p.intsShort 13=Z7
 w:p.weight<=w
theorem BY:∀ps:List vW,(∀p∈ps,Pd w n p)->PyData.canLayAll0 ps=Z7/\PyData.depthAll ps<=n/\PyData.showableAll ps=Z7/\PyData.intsShortAll 13 ps=Z7/\PyData.weightAll ps<=ps.length*(w+1)
 |[],_=>⟨rfl,qC6 _,rfl,rfl,qC6 _⟩
 |p::ps,h=>by
  obtain⟨g,d,f,i,k⟩:=h p (by simp);obtain⟨b1,b,a,e,j⟩:=BY ps λq c=>h q (by simp[c]);refine⟨?_,?_,?_,?_,?_⟩
  .show(PyData.canLay0 _&&PyData.canLayAll0 _)=Z7;rw[g,b1];rfl
  .show max _ _<=n;exact Nat.max_le.mpr ⟨d,b⟩
  .show(PyData.showable _&&PyData.showableAll _)=Z7;rw[f,a];rfl
  .show(PyData.intsShort 13 _&&PyData.intsShortAll 13 _)=Z7;rw[i,e];rfl
  .show PyData.weight _+1+PyData.weightAll _<=(ps.length+1)*(w+1);rw[Nat.succ_mul];lia
def Iu:List Nat->Nat
 |[]=>4
 |k::a=>k*(Iu a+1)+4
theorem BX(h:At d)(c:4<=w):∃p,Zz (n+1) S d=Z9 p/\Pd w 0 p:=by
 rcases h with rfl|⟨b,rfl⟩| ⟨i,rfl,f,g⟩
 .exact⟨.none,rfl,rfl,qC6 _,rfl,rfl,qC6 _⟩
 .exact⟨.bool b,rfl,rfl,qC6 _,rfl,rfl,qC6 _⟩
 .have e:=by omega
  have l:i.natAbs.log2<=3:=by
   by_cases a:i.natAbs=0
   .rw[a];decide
   .have:i.natAbs.log2<4:=(Nat.log2_lt a).mpr (by lia)
    lia
  refine⟨.int i,rfl,rfl,qC6 _,?_,?_,?_⟩
  .show decide (i.natAbs.log2<1920)=Z7;rw[decide_eq_true_eq];lia
  .show decide ((PyData.shown (.int i)).length<=13)=Z7;rw[decide_eq_true_eq];exact PyData.shown_int_le (by lia)
  .show(if(i == 0)=Z7 then 0 else i.natAbs.log2+1)<=_;split<;>lia
theorem Ir:∀xs:yM,(∀x∈xs,∃p,Zz n S x=Z9 p/\Pd w m p)->∃ps,xs.mapM (Zz n S)=Z9 ps/\ps.length=xs.length/\∀p∈ps,Pd w m p
 |[],_=>⟨[],rfl,rfl,λp h=>by cases h⟩
 |x::xs,h=>by
  obtain⟨p,a,b⟩:=h x (by simp);obtain⟨ps,c,d,e⟩:=Ir xs λy g=>h y (by simp[g]);refine⟨p::ps,by rw[qG6,a,c];rfl,by simp[d],λq f=>?_⟩;rcases qB0.mp f with rfl|f
  .exact b
  .exact e q f
theorem BW(h:∀p∈ps,Pd w m p)(hk:ps.length<=k):Pd (k*(w+1)+4) (m+1) (.tuple ps)/\Pd (k*(w+1)+4) (m+1) (.list ps):=by obtain⟨a,b,c,d,e⟩:=BY ps h;have:ps.length*(w+1)<=k*(w+1):=qO6 _ hk;exact⟨⟨a,by show PyData.depthAll _+1<=_;lia,c,d,by show PyData.weightAll _<=_;lia⟩,⟨a,by show PyData.depthAll _+1<=_;lia,c,d,by show PyData.weightAll _<=_;lia⟩⟩
theorem ft:∀a,4<=Iu a
 |[]=>qA6 _
 |_::_=>Nat.le_add_left _ _
theorem Pd.up{w n m:Nat}(h:Pd w n p)(hm:n<=m):Pd w m p:=⟨h.can,qD0 h.dep hm,h.sh,h.ish,h.w⟩
theorem Wt.pd:∀{f:List Nat} (n:Nat) {d:D},Wt S i f d->∃p,Zz (n+f.length+1) S d=Z9 p/\Pd (Iu f) f.length p
 |[],n,d,h=>BX h (by decide)
 |k::f,n,d,.inl h=>by obtain⟨p,a,b⟩:=BX h (ft (k::f));exact⟨p,a,b.up (qC6 _)⟩
 |k::f,n,d,.inr (.inl ⟨xs,e,l,a⟩)=>by subst e;obtain⟨j,b,c,q⟩:=Ir xs λx g=>Wt.pd n (a x g);refine⟨.tuple j,?_,(BW q (by lia)).1⟩;show((xs.mapM (Zz (n+f.length+1) S)).map PyData.tuple)=_;rw[b];rfl
 |k::f,n,d,.inr (.inr ⟨r,xs,e,_,la,l,a⟩)=>by subst e;obtain⟨j,b,c,q⟩:=Ir xs λx g=>Wt.pd n (a x g);refine⟨.list j,?_,(BW q (by lia)).2⟩;show(match ZO S r with|some xs=>(xs.mapM (Zz (n+f.length+1) S)).map PyData.list|none=>Z8)=_;rw[la];dsimp only;rw[b];rfl
theorem Wt.sn(h:Wt S i K2 d):Q0 S d:=λr e=>by obtain⟨p,a,_⟩:=h.pd 37;exact⟨p,a⟩
theorem Wt.snp(h:Wt S i K3 d):Mp S d:=λds e x a=>by subst e;exact(h.tup.2 x a).sn
def RY(S:ZX)(i:Nat)(d:D):Prop:=Wt S i K3 d∨∃m,d=.dct m/\S[m]?=Z9 (.dk [])
theorem RY.ex(x:Ex S a)(h:RY S i d):RY a i d:=by
 rcases h with h|⟨m,e,h⟩
 .exact .inl (h.ex x)
 .exact .inr ⟨m,e,x.at h λz=>z⟩
theorem fq(h:Pd w n p)(c:n<=64)(b:w<=1048576):p.showable=Z7/\p.hasDict=Z5/\p.shown.length<=sizeLine:=by
 refine⟨h.sh,PyData.hasDict_of_canLay p h.can,?_⟩;have d:=h.w;have e:=h.dep;have a:=by show(PyData.canLay0 p&&decide (PyData.depth p<=64)&&decide (PyData.weight p<=2 ^ 20))=Z7;rw[h.can,decide_eq_true (by lia),decide_eq_true (by lia)];rfl
 exact qD0 (PyProof.Rows.shown_le13 a h.ish) (by decide)
theorem RY.repr(h:RY S i d)(e:∀b,d≠.bl b):∃t,∀S',Ex S S'->VA [d] S'=.ok (.str t) S':=by
 rcases h with h|⟨m,rfl,h⟩
 .obtain⟨p,a,b⟩:=h.pd 36;have f:=fq b (by decide) (by decide);have a:Zz 40 S d=Z9 p:=a;rcases h with h|⟨c,rfl,_⟩| ⟨r,c,rfl,_⟩
  .rcases h with rfl|⟨b,rfl⟩| ⟨j,rfl,g,k⟩
   .exact⟨"None",λS' _=>rfl⟩
   .exact absurd rfl (e b)
   .exact⟨toString j,λS' _=>kY S' (by lia)⟩
  .refine⟨p.shown,λS' x=>?_⟩;unfold VA;dsimp only;rw[Mr x a];dsimp only;rw[if_pos f]
  .refine⟨p.shown,λS' x=>?_⟩;unfold VA;dsimp only;rw[Mr x a];dsimp only;rw[if_pos f]
 .refine⟨"{}",λS' x=>?_⟩;unfold VA;dsimp only;rw[x.at h λz=>z]
theorem fm(c:ZR)(h:VA [d] S=.ok (.str t) S)(e:c "is_paper" [fd,d] S=.ok (.bl b) a)(g:c "_law_is_paper" [.int s,fd,d] a=.ok (.bl b) S2)(f:VA [d] S2=.ok (.str t) S2):O7 c [Z9 (.int s),Z9 fd,Z9 d,Z8,Z8] S=.rt (.bl Z7) S2:=by cases b<;>simp[O7,h,e,g,f]
structure BV(cl:Nat->ZR):Prop where
 is:IM cl
 lp:Iw cl
 rg:m3 cl
theorem fj(H:BV cl)(n:Nat)(z:1<=sw)(A:sw<=3)(C:bs.length=2 ^ sw)(h:RY S i d)(F:∀b,d≠.bl b):Wq (cl (n+9) "_law_right" [.int (sw:Nat),Y4 bs,d] S) (.bl Z7) S:=by
 obtain⟨t,ht⟩:=h.repr F;have o:OK S d/\Mp S d:=by
  rcases h with h|⟨m,rfl,q⟩
  .exact⟨h.nkp,h.snp⟩
  .exact⟨⟨⟨"dict",by show V1 S m=_;unfold V1;rw[q]⟩,λds e=>by cases e⟩,λds e=>by cases e⟩
 obtain⟨j,E,k⟩:=IL H.is n z A C o.1;have g:OK j d/\Mp j d:=by
  rcases h.ex k with h|⟨m,rfl,q⟩
  .exact⟨h.nkp,h.snp⟩
  .exact⟨⟨⟨"dict",by show V1 j m=_;unfold V1;rw[q]⟩,λds e=>by cases e⟩,λds e=>by cases e⟩
 obtain⟨B,w,v⟩:=gb H.lp (n+4) z A g.1 g.2;have:pB (Vt sw (ZG 0 bs) j d)=pB (Vt sw (ZG 0 bs) S d):=by
  refine UE (UT.trans ?_);have f:∀ds ZZ,(∀x∈ds,UB S x)->(Wn sw (ZG 0 bs) j ZZ ds↔Wn sw (ZG 0 bs) S ZZ ds):=λds=>by
   induction ds with
   |nil=>exact λ_ _=>Iff.rfl
   |cons e ds u =>
    intro ZZ l;constructor
    .rintro⟨r,a,b,c,d⟩;exact⟨r,a.back k (l e (by simp)),b,c,(u _ λy s=>l y (by simp[s])).mp d⟩
    .rintro⟨r,a,b,c,d⟩;exact⟨r,a.ex k,b,c,(u _ λy s=>l y (by simp[s])).mpr d⟩
  constructor
  .rintro⟨ds,rfl,p⟩;exact⟨ds,rfl,(f ds [] (o.1.2 ds rfl).2).mp p⟩
  .rintro⟨ds,rfl,p⟩;exact⟨ds,rfl,(f ds [] (o.1.2 ds rfl).2).mpr p⟩
 rw[this]at w;refine⟨B,?_,k.trans v⟩;rw[show n+9=(n+8)+1 from rfl,H.rg];exact Zg rfl (fm _ (ht S (Kp.refl _ _)) E w (ht B (k.trans v)))
def TU:yM->M D:=λb S=>match b with
 |[.lst n]=>match (ZO S n).bind Tv with
  |some a=>if a.length<=300 then .ok (.lst S.length) (S++[.lst ((Vn (XI a)).map L2.tD)])else .bad
  |none=>.bad
 |_=>.bad
@[simp]theorem zcI(a:CA)(B:ZT)(S:ZX):NI a B S=Zv (a B S) TU .mk:=rfl
theorem fi{xs:yM}(h:ZO S k=Z9 xs):WR (.lst k) (.int (-1)) S=.ok (.lst S.length) (S++[.lst xs.reverse]):=by unfold WR;dsimp only;rw[h];dsimp only;rw[if_pos rfl]
theorem BU(sw z:Nat):Y0 sw z=L2.tD ((XD sw z).map b1):=by unfold Y0 Y4 XN L2.tD;rw[qC8];rfl
theorem BS(sw:Nat):∀zs:List Nat,Tv (zs.map (Y0 sw))=Z9 (zs.map λz=>(XD sw z).map b1)
 |[]=>rfl
 |z::zs=>by rw[qB8,BU];show(match Wz (((XD sw z).map b1).map D.int),Tv (zs.map (Y0 sw))with|some b,Z9 a=>Z9 (b::a)| _,_=>Z8)=_;rw[Np,BS sw zs];rfl
theorem BR:∀(l z:List (yA)) {r:yA},r∈l.foldl Yk z->r∈z∨r∈l
 |[],z,r,h=>.inl h
 |a::l,z,r,h=>by
  rcases BR l (Yk z a) h with q|q
  .unfold Yk at q;split at q
   .exact .inl q
   .rcases qB0.mp q with rfl|q
    .exact .inr (by simp)
    .exact .inl q
  .exact .inr (by simp[q])
theorem Iq:∀l:List (yA),(Vn l).Perm l
 |[]=>.nil
 |a::l=>(NR a (Vn l)).trans ((Iq l).cons a)
theorem fh{zs:List Nat}(h:ZO S n=Z9 (zs.map (Y0 sw)))(d:zs.length<=300):∃ys:List Nat,TU [.lst n] S=.ok (.lst S.length) (S++[.lst (ys.map (Y0 sw))])/\ys.length<=zs.length:=by
 obtain⟨ns,a⟩:∃ns,Vn (XI (zs.map λz=>(XD sw z).map b1))=ns:=⟨_,rfl⟩
 have sub:∀r∈ns,∃z,r=(XD sw z).map b1:=λr b=>by
  rw[<- a]at b;rcases BR _ [] ((Iq _).mem_iff.mp b)with q|q
  .cases q
  .obtain⟨z,_,rfl⟩:=qC4.mp q;exact⟨z,rfl⟩
 have len:ns.length<=zs.length:=by rw[<- a,(Iq _).length_eq];have:=KY (zs.map λz=>(XD sw z).map b1) [];rw[qA0]at this;unfold XI;simpa using this
 obtain⟨ys,c⟩:∃ys:List Nat,ns=ys.map λz=>(XD sw z).map b1:=by
  clear a len
  induction ns with
  |nil=>exact⟨[],rfl⟩
  |cons r ns f =>
   obtain⟨z,e⟩:=sub r (by simp);obtain⟨ys,i⟩:=f λq g=>sub q (by simp[g]);exact⟨z::ys,by rw[e,i];rfl⟩
 refine⟨ys,?_,by rw[c,qA0]at len;exact len⟩;unfold TU;dsimp only;rw[h,qQ9,BS];dsimp only;rw[if_pos (by rw[qA0];exact d),a,c,qC8];congr 4;refine qF3 λz _=>?_;exact(BU sw z).symm
theorem fg(c:ZR){i r p5 p6 p7 p9 x C B G t s F w j:Nat}{X Y:yM}{S S1 k y S4 S5 S6 M S8 S9 A E b p l g f h H n d e z m S24:ZX}(eL:Zi [.lst r] S=.ok (.int L) S)(e1:c "_law_take" [.lst i,.int L] S=.ok (.int a) S1)(e2:c "_law_some_function" [.lst i,sd] S1=.ok md k)(x2:Zp (.lst r) (.int a) k=.ok (.tup Y) k)(hY:Y.length+1<=lim)(hY2:(Zr Y (Z9 1) Z8).length+1<=lim)(h3:k++[.lst Y]=y)(x3:Zp (.lst r) (.int a) y=.ok (.tup Y) y)(h4:y++[.lst [.tup (Zr Y (Z9 1) Z8),.tup (Y++[.int 0]),.lst k.length,.non,.tup (.bl Z7::Zr Y (Z9 1) Z8),.tup (.int 2::Zr Y (Z9 1) Z8)]]=S4)
  (s5:Yn (.lst r) Z8 (Z9 a) S4=.ok (.lst p5) S5) (s6:Yn (.lst r) (Z9 (a+1)) Z8 S5=.ok (.lst p6) S6) (a7:Zx (.lst p5) (.lst p6) S6=.ok (.lst p7) M) (h8:M++[.lst [md]]=S8) (a9:Zx (.lst r) (.lst M.length) S8=.ok (.lst p9) S9) (q10:TU [.lst p9] S9=.ok (.lst x) A) (J:Yn (.lst r) Z8 (Z9 a) A=.ok (.lst C) E) (t12:c "_law_take" [.lst i,.int 6] E=.ok (.int q) b) (W:Zp (.lst y.length) (.int q) b=.ok o b) (h13:b++[.lst [o]]=p) (K:Zx (.lst C) (.lst b.length) p=.ok (.lst B) l) (P:Yn (.lst r) (Z9 (a+1)) Z8 l=.ok (.lst G) g) (a16:Zx (.lst B) (.lst G) g=.ok (.lst t) f) (R:f++[.lst [.lst p7,.lst x,.lst t]]=h)
  (r18:WR (.lst r) (.int (-1)) h=.ok (.lst s) H) (Q:Yn (.lst r) Z8 (Z9 1) H=.ok (.lst F) n) (U:Zx (.lst r) (.lst F) n=.ok (.lst w) d) (V:Xn [.lst r] d=.ok (.tup X) d) (Z:d++[.lst []]=e) (h22:e++[.lst [.lst s,.lst w,.tup X,.lst d.length,.non]]=z) (T:Zx (.lst f.length) (.lst e.length) z=.ok (.lst j) m) (N:c "_law_take" [.lst i,.int 8] m=.ok (.int u) S24) (O:Zp (.lst j) (.int u) S24=.ok v S24):O8 c [Z9 (.lst i),Z9 sd,Z9 (.lst r),Z8,Z8,Z8,Z8] S=.rt v S24:=by
 have I:1+(Zr Y (Z9 1) Z8).length<=lim:=by lia
 simp[O8,eL,e1,e2,x2,hY,I,h3,x3,h4,s5,s6,a7,h8,a9,q10,J,t12,W,h13,K,P,a16,R,r18,Q,U,V,Z,h22,T,N,O]
theorem WM{xs:yM}(b:xs.length<=k)(h:∀x∈xs,Wt S i a x):Wt S i (k::a) (.tup xs):=.inr (.inl ⟨xs,rfl,b,h⟩)
theorem Vh{xs:yM}(b:r≠i)(l:ZO S r=Z9 xs)(c:xs.length<=k)(h:∀x∈xs,Wt S i a x):Wt S i (k::a) (.lst r):=.inr (.inr ⟨r,xs,rfl,b,l,c,h⟩)
theorem QY:∀{a:List Nat},Wt S i a .non
 |[]=>.inl rfl
 |_::_=>.inl (.inl rfl)
theorem BQ(h:d∈XN bs):At d:=by unfold XN at h;obtain⟨b,_,rfl⟩:=qC4.mp h;exact .inr (.inr ⟨_,rfl,by cases b<;>simp[b1],by cases b<;>simp[b1]⟩)
theorem BO(a:sw<=3):(XN (XD sw z)).length<=8:=by have:2 ^ sw<=2 ^ 3:=qI8 (by decide) a;unfold XN;rw[qA0,ON];omega
theorem ff(b:sw<=3):Wt S i K1 (Y0 sw z):=WM (by have:=BO (z:=z) b;lia) λx a=>BQ a
theorem Ip(a:sw<=3){zs:List Nat}(h:x∈zs.map (Y0 sw)):Wt S i K1 x:=by obtain⟨z,_,rfl⟩:=qC4.mp h;exact ff a
structure Io(cl:Nat->ZR):Prop where
 tk:JF cl
 so:DE cl
 bl:m5 cl
theorem BN(X:yM){a:Int}(b:0<=a)(c:a<X.length):Zr X Z8 (Z9 a)=X.take a.toNat/\Zr X (Z9 (a+1)) Z8=X.drop (a.toNat+1)/\(X.take a.toNat).length+(X.drop (a.toNat+1)).length+1=X.length:=by
 refine⟨Nn X b,?_,?_⟩
 .rw[PR X (by lia)];congr 1
  lia
 .rw[qE4,qH0];lia
theorem fc(H:Io cl)(n:Nat)(s1:1<=sw)(s3:sw<=3)(hS:Yu S i)(ri:r≠i)(zn:zs≠[])(zl:zs.length<=256)(l:ZO S r=Z9 (zs.map (Y0 sw))):
  ∃v S',cl (n+3) "_law_bent_list" [.lst i,.int (sw:Nat),.lst r] S=.ok v S'/\Wt S' i K2 v/\Kp (·=i) S S'/\Yu S' i:=by
 obtain⟨X,hX⟩:∃X,zs.map (Y0 sw)=X:=⟨_,rfl⟩
 have Xl:X.length=zs.length:=by rw[<- hX,qA0]
 have X0:0<zs.length:=qS5.mpr zn;have G:∀{T:ZX}{x:D},x∈X->Wt T i K1 x:=λ{T x} b=>by rw[<- hX]at b;exact Ip s3 b
 rw[hX]at l;have eL:=Nv l;obtain⟨a,S1,e1,a0,a1,k1,_,st1⟩:=UU H.tk (n+1) hS (m:=(X.length:Nat)) (by lia) (by lia);obtain⟨bs,S2,e2,bl,k2,st2⟩:=Cq H.so H.tk n (sw:=sw) (by lia) st1;have l1:=k1.lst l ri;have l2:=k2.lst l1 ri;have le1:=k1.le;have le2:=k2.le;have ilt:=hS.lt;obtain⟨d,ed,dm⟩:=Q8 a0 a1;rw[<- hX]at dm;obtain⟨z,_,rfl⟩:=qC4.mp dm;have x2:Zp (.lst r) (.int a) S2=.ok (.tup (XN (XD sw z))) S2:=by rw[VU l2,ed];rfl
 obtain⟨Y,A⟩:∃Y,XN (XD sw z)=Y:=⟨_,rfl⟩
 have Yl:Y.length<=8:=by rw[<- A];exact BO s3
 have Ya:∀x∈Y,At x:=λx b=>by rw[<- A]at b;exact BQ b
 rw[A]at x2;have cl1:=Dq Y (Z9 1) Z8;have cm1:∀x∈Zr Y (Z9 1) Z8,At x:=λx b=>Ya x (Dp b);obtain⟨S3,h3⟩:∃S3,S2++[O.lst Y]=S3:=⟨_,rfl⟩
 have y3:Ex S2 S3:=h3▸Zt _ _;have l3:=y3.lst l2 λz=>z;have n3:ZO S3 S2.length=Z9 Y:=by rw[<- h3];exact Zm _ _
 have x3:Zp (.lst r) (.int a) S3=.ok (.tup Y) S3:=by rw[VU l3,ed];show R.ok (D.tup (XN (XD sw z))) S3=_;rw[A]
 obtain⟨OD,hOD⟩:∃OD,[D.tup (Zr Y (Z9 1) Z8),.tup (Y++[.int 0]),.lst S2.length,.non,.tup (.bl Z7::Zr Y (Z9 1) Z8),.tup (.int 2::Zr Y (Z9 1) Z8)]=OD:=⟨_,rfl⟩
 obtain⟨S4,h4⟩:∃S4,S3++[O.lst OD]=S4:=⟨_,rfl⟩
 have y4:Ex S3 S4:=h4▸Zt _ _;have l4:=y4.lst l3 λz=>z;have o4:ZO S4 S3.length=Z9 OD:=by rw[<- h4];exact Zm _ _
 obtain⟨c1,c2,c3⟩:=BN X a0 a1;obtain⟨X1,hX1⟩:∃X1,X.take a.toNat=X1:=⟨_,rfl⟩
 obtain⟨X2,hX2⟩:∃X2,X.drop (a.toNat+1)=X2:=⟨_,rfl⟩
 rw[hX1]at c1 c3;rw[hX2]at c2 c3;have m1:∀x∈X1,x∈X:=λx b=>by rw[<- hX1]at b;exact qE9 b
 have m2:∀x∈X2,x∈X:=λx b=>by rw[<- hX2]at b;exact qE8 b
 have s5:=Tj l4 Z8 (Z9 a);rw[c1]at s5;obtain⟨S5,h5⟩:∃S5,S4++[O.lst X1]=S5:=⟨_,rfl⟩
 rw[h5]at s5;have y5:Ex S4 S5:=h5▸Zt _ _;have l5:=y5.lst l4 λz=>z;have s6:=Tj l5 (Z9 (a+1)) Z8;rw[c2]at s6;obtain⟨S6,h6⟩:∃S6,S5++[O.lst X2]=S6:=⟨_,rfl⟩
 rw[h6]at s6;have y6:Ex S5 S6:=h6▸Zt _ _;have a7:=T5 (S:=S6) (n:=S4.length) (m:=S5.length) (xs:=X1) (ys:=X2) (y6.lst (by rw[<- h5];exact Zm _ _) λz=>z) (by rw[<- h6];exact Zm _ _) (by rw[YY];lia);obtain⟨S7,h7⟩:∃S7,S6++[O.lst (X1++X2)]=S7:=⟨_,rfl⟩
 rw[h7]at a7;have y7:Ex S6 S7:=h7▸Zt _ _;have f7:ZO S7 S6.length=Z9 (X1++X2):=by rw[<- h7];exact Zm _ _
 obtain⟨S8,h8⟩:∃S8,S7++[O.lst [Y4 bs]]=S8:=⟨_,rfl⟩
 have y8:Ex S7 S8:=h8▸Zt _ _;have l8:=y8.lst (y7.lst (y6.lst l5 λz=>z) λz=>z) λz=>z;have a9:=T5 (S:=S8) (n:=r) (m:=S7.length) (xs:=X) (ys:=[Y4 bs]) l8 (by rw[<- h8];exact Zm _ _) (by rw[YY];simp;lia);obtain⟨S9,h9⟩:∃S9,S8++[O.lst (X++[Y4 bs])]=S9:=⟨_,rfl⟩
 rw[h9]at a9;have y9:Ex S8 S9:=h9▸Zt _ _;obtain⟨ys,q10,yl⟩:=fh (sw:=sw) (S:=S9) (n:=S8.length) (zs:=zs++[ZG 0 bs]) (by rw[<- h9,qE6,hX,List.map_singleton,Y0,Cp s1 s3 bl];exact Zm _ _) (by simp;lia);rw[qB9,qJ6]at yl;obtain⟨S10,L⟩:∃S10,S9++[O.lst (ys.map (Y0 sw))]=S10:=⟨_,rfl⟩
 rw[L]at q10;have t:Ex S9 S10:=L▸Zt _ _;have f10:ZO S10 S9.length=Z9 (ys.map (Y0 sw)):=by rw[<- L];exact Zm _ _
 have l10:=t.lst (y9.lst l8 λz=>z) λz=>z;have K:=Tj l10 Z8 (Z9 a);rw[c1]at K;obtain⟨S11,M⟩:∃S11,S10++[O.lst X1]=S11:=⟨_,rfl⟩
 rw[M]at K;have w:Ex S10 S11:=M▸Zt _ _;have c:=(((((((y5.trans y6).trans y7).trans y8).trans y9).trans t).trans w))
 have st11:=(st2.ex (y3.trans y4)).ex c;obtain⟨q,S12,t12,q0,q1,e,_,st12⟩:=UU H.tk (n+1) st11 (m:=6) (by decide) (by decide);have g4:S.length<=S3.length:=by have:=y3.le;lia
 have o12:ZO S12 S3.length=Z9 OD:=e.lst (c.lst o4 λz=>z) (by lia);obtain⟨o,eo,om⟩:=Q8 (xs:=OD) q0 (by rw[<- hOD];exact q1);have x12:Zp (.lst S3.length) (.int q) S12=.ok o S12:=by rw[VU o12,eo]
 have l12:=e.lst (w.lst l10 λz=>z) ri;have le411:=c.le;have le12:=e.le;have ley3:=y3.le;have ley4:=y4.le;obtain⟨S13,h13⟩:∃S13,S12++[O.lst [o]]=S13:=⟨_,rfl⟩
 have C:Ex S12 S13:=h13▸Zt _ _;have ge10:S.length<=S10.length:=by have:=((((((y5.trans y6).trans y7).trans y8).trans y9).trans t)).le;lia
 have a14:=T5 (S:=S13) (n:=S10.length) (m:=S12.length) (xs:=X1) (ys:=[o]) (C.lst (e.lst (by rw[<- M];exact Zm _ _) (by lia)) λz=>z) (by rw[<- h13];exact Zm _ _) (by rw[YY];simp;lia);obtain⟨S14,P⟩:∃S14,S13++[O.lst (X1++[o])]=S14:=⟨_,rfl⟩
 rw[P]at a14;have y14:Ex S13 S14:=P▸Zt _ _;have l14:=(C.trans y14).lst l12 λz=>z;have Q:=Tj l14 (Z9 (a+1)) Z8;rw[c2]at Q;obtain⟨S15,h15⟩:∃S15,S14++[O.lst X2]=S15:=⟨_,rfl⟩
 rw[h15]at Q;have B:Ex S14 S15:=h15▸Zt _ _;have a16:=T5 (S:=S15) (n:=S13.length) (m:=S14.length) (xs:=X1++[o]) (ys:=X2) (B.lst (by rw[<- P];exact Zm _ _) λz=>z) (by rw[<- h15];exact Zm _ _) (by rw[YY];simp;lia);obtain⟨S16,N⟩:∃S16,S15++[O.lst (X1++[o]++X2)]=S16:=⟨_,rfl⟩
 rw[N]at a16;have J:Ex S15 S16:=N▸Zt _ _;have f16:ZO S16 S15.length=Z9 (X1++[o]++X2):=by rw[<- N];exact Zm _ _
 obtain⟨S17,W⟩:∃S17,S16++[O.lst [D.lst S6.length,.lst S9.length,.lst S15.length]]=S17:=⟨_,rfl⟩
 have s:Ex S16 S17:=W▸Zt _ _;have l17:=((B.trans J).trans s).lst l14 λz=>z;have r18:=fi l17;obtain⟨S18,h18⟩:∃S18,S17++[O.lst X.reverse]=S18:=⟨_,rfl⟩
 rw[h18]at r18;have y18:Ex S17 S18:=h18▸Zt _ _;have f18:ZO S18 S17.length=Z9 X.reverse:=by rw[<- h18];exact Zm _ _
 have l18:=y18.lst l17 λz=>z;have U:=Tj l18 Z8 (Z9 1);rw[Nn X (by decide)]at U;obtain⟨S19,h19⟩:∃S19,S18++[O.lst (X.take (1:Int).toNat)]=S19:=⟨_,rfl⟩
 rw[h19]at U;have y:Ex S18 S19:=h19▸Zt _ _;have l19:=y.lst l18 λz=>z;have tk1:(X.take (1:Int).toNat).length<=1:=by rw[qE4];show min 1 _<=1;lia
 have a20:=T5 (S:=S19) (n:=r) (m:=S18.length) (xs:=X) (ys:=X.take (1:Int).toNat) l19 (by rw[<- h19];exact Zm _ _) (by rw[YY];lia);obtain⟨S20,I⟩:∃S20,S19++[O.lst (X++X.take (1:Int).toNat)]=S20:=⟨_,rfl⟩
 rw[I]at a20;have E:Ex S19 S20:=I▸Zt _ _;have f20:ZO S20 S19.length=Z9 (X++X.take (1:Int).toNat):=by rw[<- I];exact Zm _ _
 have l20:=E.lst l19 λz=>z;obtain⟨S21,h21⟩:∃S21,S20++[O.lst []]=S21:=⟨_,rfl⟩
 have F:Ex S20 S21:=h21▸Zt _ _;have f21:ZO S21 S20.length=Z9 []:=by rw[<- h21];exact Zm _ _
 obtain⟨S22,h22⟩:∃S22,S21++[O.lst [D.lst S17.length,.lst S19.length,.tup X,.lst S20.length,.non]]=S22:=⟨_,rfl⟩
 have k:Ex S21 S22:=h22▸Zt _ _;have f:=((((y18.trans y).trans E).trans F).trans k)
 have Z:=T5 (S:=S22) (n:=S16.length) (m:=S21.length) (xs:=[D.lst S6.length,.lst S9.length,.lst S15.length]) (ys:=[D.lst S17.length,.lst S19.length,.tup X,.lst S20.length,.non]) (f.lst (by rw[<- W];exact Zm _ _) λz=>z) (by rw[<- h22];exact Zm _ _) (by rw[YY];simp);obtain⟨V,hV⟩:∃V,[D.lst S6.length,.lst S9.length,.lst S15.length]++[D.lst S17.length,.lst S19.length,.tup X,.lst S20.length,.non]=V:=⟨_,rfl⟩
 rw[hV]at Z;obtain⟨S23,h23⟩:∃S23,S22++[O.lst V]=S23:=⟨_,rfl⟩
 rw[h23]at Z;have p:Ex S22 S23:=h23▸Zt _ _;have g:=((((((C.trans y14).trans B).trans J).trans s).trans f).trans p)
 have st23:=st12.ex g;obtain⟨u,S24,t24,u0,u1,j,_,st24⟩:=UU H.tk (n+1) st23 (m:=8) (by decide) (by decide);have leA:=C.le;have leB:=y14.le;have leC:=B.le;have leD:=J.le;have YW:=s.le;have leF:=y18.le;have leG:=y.le;have leH:=E.le;have leI:=F.le;have leJ:=k.le;have leK:=y5.le;have leL:=y6.le;have leM:=y7.le;have leN:=y8.le;have leO:=y9.le;have v24:ZO S24 S22.length=Z9 V:=j.lst (by rw[<- h23];exact Zm _ _) (by lia);obtain⟨v,ev,vm⟩:=Q8 (xs:=V) u0 (by rw[<- hV];exact u1);have x24:Zp (.lst S22.length) (.int u) S24=.ok v S24:=by rw[VU v24,ev]
 have kall:Kp (·=i) S S24:=((((k1.trans k2).trans ((y3.trans y4).trans c).kp).trans e).trans g.kp).trans j;refine⟨v,S24,?_,?_,kall,st24⟩
 .rw[show n+3=(n+2)+1 from rfl,H.bl];exact Zg rfl (fg _ eL e1 e2 x2 (by rw[YY];lia) (by rw[YY];lia) h3 x3 (by rw[hOD];exact h4) s5 s6 a7 h8 a9 q10 K t12 x12 h13 a14 Q a16 W r18 U a20 (Tn l20) h21 h22 Z t24 x24)
 ·-- whatever was taken
  have h:Kp (·=i) S12 S24:=g.kp.trans j;have k724:Kp (·=i) S7 S24:=(((((y8.trans y9).trans t).trans w).kp).trans e).trans h;have n24:ZO S24 S2.length=Z9 Y:=((((y4.trans c).kp).trans e).trans h).lst n3 (by lia);have ow:Wt S24 i K1 o:=by
   rw[<- hOD]at om;simp only[qB0,qF0,or_false]at om;rcases om with rfl|rfl|rfl|rfl|rfl|rfl
   .exact WM (by lia) cm1
   .refine WM (by simp;lia) λx b=>?_;rcases qB6.mp b with b|b
    .exact Ya x b
    .rw[qB2.mp b];exact .inr (.inr ⟨0,rfl,by decide,by decide⟩)
   .exact Vh (by lia) n24 (by lia) Ya
   .exact QY
   .refine WM (by simp;lia) λx b=>?_;rcases qB0.mp b with rfl|b
    .exact .inr (.inl ⟨Z7,rfl⟩)
    .exact cm1 x b
   .refine WM (by simp;lia) λx b=>?_;rcases qB0.mp b with rfl|b
    .exact .inr (.inr ⟨2,rfl,by decide,by decide⟩)
    .exact cm1 x b
  rw[<- hV]at vm;simp only[qB0,qB6,qF0,or_false]at vm;rcases vm with(rfl|rfl|rfl)| rfl|rfl|rfl|rfl|rfl
  .refine Vh (by lia) (k724.lst f7 (by lia)) (by rw[qB9];lia) λx b=>?_;rcases qB6.mp b with b|b
   .exact G (m1 x b)
   .exact G (m2 x b)
  .exact Vh (by lia) (((w.kp.trans e).trans h).lst f10 (by lia)) (by rw[qA0];lia) λx b=>Ip s3 b
  .refine Vh (by lia) ((((s.trans f).trans p).kp.trans j).lst f16 (by lia)) (by simp;lia) λx b=>?_;rcases qB6.mp b with b|b
   .rcases qB6.mp b with b|b
    .exact G (m1 x b)
    .rw[qB2.mp b];exact ow
   .exact G (m2 x b)
  .exact Vh (by lia) (((((y.trans E).trans F).trans k).trans p).kp.trans j |>.lst f18 (by lia)) (by rw[qL4];lia) λx b=>G (qI1.mp b)
  .refine Vh (by lia) (((F.trans k).trans p).kp.trans j |>.lst f20 (by lia)) (by rw[qB9];lia) λx b=>?_;rcases qB6.mp b with b|b
   .exact G b
   .exact G (qE9 b)
  .exact WM (by lia) λx b=>G b
  .exact Vh (by lia) ((k.trans p).kp.trans j |>.lst f21 (by lia)) (qC6 _) λx b=>by cases b
  .exact QY
theorem fb(a:1<=sw):KL sw j≠[]:=λe=>by have:Yg sw 0 0∈KL sw j:=UC.mpr ⟨0,qC6 _,(Q5 sw _).mpr (by exact qO3.mpr ⟨0,qC7.mpr (by lia),by simp⟩)⟩;rw[e]at this;cases this
structure WL(sw ix i:Nat)(S:ZX)(rs:List Nat):Prop extends OJ sw ix S rs where
 ri:∀r∈rs,r≠i
theorem WL.kp{rs:List Nat}(h:WL sw b i S rs)(x:Kp (·=i) S c):WL sw b i c rs:=⟨⟨h.hl,λj r a=>x.lst (h.hr j r a) (h.ri r (qC2 a))⟩,h.ri⟩
theorem WL.wt(a:sw<=3){rs:List Nat}(h:WL sw f i S rs):∀x∈rs.map D.lst,Wt S i K2 x:=λx c=>by obtain⟨r,b,rfl⟩:=qC4.mp c;obtain⟨j,d⟩:=qE1 b;have:=I3 (i:=j) a;exact Vh (h.ri r b) (h.hr j r d) (by unfold OM;rw[qA0];lia) λy e=>Ip a e
theorem eZ{xs:yM}(h:Zz 40 S (.tup xs)=Z9 p):Xx (.tup xs) (.tup []) S=.ok (.bl xs.isEmpty) S:=by
 have q:Zz 40 S (.tup [])=Z9 (.tuple []):=rfl;unfold Xx;dsimp only;rw[q,h];dsimp only;have b:((xs.mapM (Zz 39 S)).map PyData.tuple)=Z9 p:=h;cases xs with
 |nil=>cases b;rfl
 |cons x X =>
  rw[qG6]at b;cases c:Zz 39 S x with
  |none=>rw[c]at b;cases b
  |some a =>
   cases d:X.mapM (Zz 39 S)with
   |none=>rw[c,d]at b;cases b
   |some e =>
    rw[c,d]at b;cases b;rfl
theorem eY(c:ZR){S a b d S4:ZX}(e:Xx (.tup []) (.tup []) S=.ok (.bl Z7) S)(g:S++[.lst []]=a)(j:a++[.lst []]=b)(h:b++[.lst [.lst S.length,.tup [.lst a.length],.non,.tup [.non],.tup [.tup []],.int 0]]=d)(t:c "_law_take" [.lst i,.int 6] d=.ok (.int q) S4)(x:Zp (.lst b.length) (.int q) S4=.ok v S4):T6 c [Z9 (.lst i),Z9 f,Z9 (.tup []),Z8,Z8,Z8] S=.rt v S4:=by simp[T6,e,g,j,h,t,x]
theorem eX(c:ZR){P d f:yM}(e:Xx (.tup P) (.tup []) S=.ok (.bl Z5) S)(p:c "_law_take" [.lst i,.int (P.length:Nat)] S=.ok (.int a) j)(x:Xz P a=Z9 (.lst r))(b:c "_law_bent_list" [.lst i,h,.lst r] j=.ok g k)(m:c "_law_take" [.lst i,.int 3] k=.ok (.int q) S3)(t:0<q)(o:Zr P Z8 (Z9 a)=d)(l:Zr P (Z9 (a+1)) Z8=f)(s:d.length+1<=lim)(n:d.length+1+f.length<=lim):T6 c [Z9 (.lst i),Z9 h,Z9 (.tup P),Z8,Z8,Z8] S=.rt (.tup (d++[g]++f)) S3:=by simp[T6,e,p,x,b,m,t,o,l,s,n]
theorem eV(c:ZR){P f j g k l:yM}{S o p d h m S6:ZX}(e:Xx (.tup P) (.tup []) S=.ok (.bl Z5) S)(C:c "_law_take" [.lst i,.int (P.length:Nat)] S=.ok (.int a) o)(x:Xz P a=Z9 (.lst r))(b:c "_law_bent_list" [.lst i,n,.lst r] o=.ok w p)(t:c "_law_take" [.lst i,.int 3] p=.ok (.int q) d)(I:¬0<q)(B:Zr P Z8 (Z9 a)=f)(s:Zr P (Z9 (a+1)) Z8=j)(y:Zr P Z8 (Z9 (a+1))=g)(G:Zr P (Z9 a) Z8=k)(K:Zr P Z8 (Z9 (-1))=l)(H:f.length+j.length<=lim)(A:g.length+k.length<=lim)(J:d++[.lst P]=h)(E:h++[.lst [.tup (f++j),.tup (g++k),.tup l,.lst d.length,.tup P.reverse,.non]]=m)(z:c "_law_take" [.lst i,.int 6] m=.ok (.int u) S6)(F:Zp (.lst h.length) (.int u) S6=.ok v S6):T6 c [Z9 (.lst i),Z9 n,Z9 (.tup P),Z8,Z8,Z8] S=.rt v S6:=by simp[T6,e,C,x,b,t,I,B,s,y,G,K,H,A,J,E,z,F]
theorem eU(H:Io cl)(hb:DA cl)(n:Nat)(s1:1<=sw)(s3:sw<=3)(hix:ix<=5)(hS:Yu S i){rs:List Nat}(P:WL sw ix i S rs):
  ∃v G,cl (n+4) "_law_bent" [.lst i,.int (sw:Nat),.tup (rs.map D.lst)] S=.ok v G/\Wt G i K3 v/\(∀b,v≠.bl b)/\Kp (·=i) S G/\Yu G i:=by
 rw[show n+4=(n+3)+1 from rfl,hb];have ilt:=hS.lt;have rl:=P.hl;by_cases r0:rs=[]
 .subst r0;obtain⟨S1,h1⟩:∃S1,S++[O.lst []]=S1:=⟨_,rfl⟩
  obtain⟨S2,N⟩:∃S2,S1++[O.lst []]=S2:=⟨_,rfl⟩
  obtain⟨V,o⟩:∃V,[D.lst S.length,.tup [.lst S1.length],.non,.tup [.non],.tup [.tup []],.int 0]=V:=⟨_,rfl⟩
  obtain⟨S3,U⟩:∃S3,S2++[O.lst V]=S3:=⟨_,rfl⟩
  have y1:=h1▸Zt _ _;have Z:=N▸Zt _ _;have y3:=U▸Zt _ _;have B:=(y1.trans Z).trans y3;obtain⟨q,S4,t,q0,q1,I,_,M⟩:=UU H.tk (n+2) (hS.ex B) (m:=6) (by decide) (by decide);have le1:=y1.le;have le2:=Z.le;have v4:=I.lst (by rw[<- U];exact Zm _ _) (by lia);obtain⟨v,ev,f⟩:=Q8 (xs:=V) q0 (by rw[<- o];exact q1);have J:=I.lst ((Z.trans y3).lst (by rw[<- h1];exact Zm _ _) λz=>z) (by lia);have a2:=I.lst (y3.lst (by rw[<- N];exact Zm _ _) λz=>z) (by lia);refine⟨v,S4,Zg rfl (eY _ (by rfl) h1 N (by rw[o];exact U) t (by rw[VU v4,ev])),?_,?_,B.kp.trans I,M⟩
  .rw[<- o]at f;simp only[qB0,qF0,or_false]at f;rcases f with rfl|rfl|rfl|rfl|rfl|rfl
   .exact Vh (by lia) J (qC6 _) λx c=>by cases c
   .refine WM (by simp) λx c=>?_;rw[qB2.mp c];exact Vh (by lia) a2 (qC6 _) λx c=>by cases c
   .exact QY
   .refine WM (by simp) λx c=>?_;rw[qB2.mp c];exact QY
   .refine WM (by simp) λx c=>?_;rw[qB2.mp c];exact WM (qC6 _) λx c=>by cases c
   .exact .inl (.inr (.inr ⟨0,rfl,by decide,by decide⟩))
  .rintro b rfl;rw[<- o]at f;simp at f
 .have rp:=qS5.mpr r0;obtain⟨D0,h⟩:∃D0,rs.map D.lst=D0:=⟨_,rfl⟩
  have dl:D0.length=rs.length:=by rw[<- h,qA0]
  have W0:∀{T:ZX},Kp (·=i) S T->∀x∈D0,Wt T i K2 x:=λ{T} k x c=>(P.kp k).wt s3 x (by rw[h];exact c);have wS:Wt S i K3 (.tup D0):=WM (by lia) (W0 (Kp.refl _ _));obtain⟨p,hp,_⟩:=wS.pd 36;have e:=eZ hp;rw[show D0.isEmpty=Z5 by cases hd:D0 with|nil=>rw[hd]at dl;simp at dl;lia|cons a l=>rfl]at e;rw[h];obtain⟨a,S1,t1,Y,J,k1,_,L⟩:=UU H.tk (n+2) hS (m:=D0.length) (by lia) (by lia);obtain⟨d,ed,dm⟩:=Q8 Y J;have F:=dm;rw[<- h]at F;obtain⟨r,hr,rfl⟩:=qC4.mp F;obtain⟨j,hj⟩:=qE1 hr;have lr:=(P.kp k1).hr j r hj;have kl:=I3 (i:=j) s3;obtain⟨od,S2,b2,wo,k2,st2⟩:=fc H n s1 s3 L (P.ri r hr) (fb s1) kl lr;obtain⟨q,S3,t2,q0,q1,k3,_,y⟩:=UU H.tk (n+2) st2 (m:=3) (by decide) (by decide);obtain⟨c1,c2,c3⟩:=BN D0 Y J;have g:=k1.trans (k2.trans k3);have W3:=W0 g;have m1:∀x∈D0.take a.toNat,x∈D0:=λx c=>qE9 c;have m2:∀x∈D0.drop (a.toNat+1),x∈D0:=λx c=>qE8 c;by_cases hq:0<q
  .refine⟨_,S3,Zg rfl (eX _ e t1 ed b2 t2 hq c1 c2 (by rw[YY];lia) (by rw[YY];lia)),?_,(λb z=>by cases z),g,y⟩;refine WM (by simp only[qB9,qJ6];lia) λx c=>?_;rcases qB6.mp c with c|c
   .rcases qB6.mp c with c|c
    .exact W3 x (m1 x c)
    .rw[qB2.mp c];exact wo.kp k3
   .exact W3 x (m2 x c)
  .obtain⟨S4,R⟩:∃S4,S3++[O.lst D0]=S4:=⟨_,rfl⟩
   obtain⟨X3,A⟩:∃X3,Zr D0 Z8 (Z9 (a+1))=X3:=⟨_,rfl⟩
   obtain⟨X4,C⟩:∃X4,Zr D0 (Z9 a) Z8=X4:=⟨_,rfl⟩
   obtain⟨X5,s⟩:∃X5,Zr D0 Z8 (Z9 (-1))=X5:=⟨_,rfl⟩
   have e3:X3=D0.take (a.toNat+1):=by rw[<- A,Nn D0 (by lia)];congr 1;lia
   have e4:X4=D0.drop a.toNat:=by rw[<- C,PR D0 Y]
   have l34:X3.length+X4.length=D0.length+1:=by rw[e3,e4,qE4,qH0];lia
   have l5:X5.length<=D0.length:=by rw[<- s];exact Dq _ _ _
   obtain⟨V,o⟩:∃V,[D.tup (D0.take a.toNat++D0.drop (a.toNat+1)),.tup (X3++X4),.tup X5,.lst S3.length,.tup D0.reverse,.non]=V:=⟨_,rfl⟩
   obtain⟨S5,K⟩:∃S5,S4++[O.lst V]=S5:=⟨_,rfl⟩
   have W:=R▸Zt _ _;have y5:=K▸Zt _ _;obtain⟨u,S6,t3,u0,u1,X,_,Q⟩:=UU H.tk (n+2) ((y.ex W).ex y5) (m:=6) (by decide) (by decide);have le0:=g.le;have le4:=W.le;have v6:=X.lst (by rw[<- K];exact Zm _ _) (by lia);obtain⟨v,ev,f⟩:=Q8 (xs:=V) u0 (by rw[<- o];exact u1);have E:=(g.trans (W.trans y5).kp).trans X;have w:=W0 E;have f6:=X.lst (y5.lst (by rw[<- R];exact Zm _ _) λz=>z) (by lia);refine⟨v,S6,Zg rfl (eV _ e t1 ed b2 t2 hq c1 c2 A C s (by rw[YY];lia) (by rw[YY];lia) R (by rw[o];exact K) t3 (by rw[VU v6,ev])),?_,?_,E,Q⟩
   .rw[<- o]at f;simp only[qB0,qF0,or_false]at f;rcases f with rfl|rfl|rfl|rfl|rfl|rfl
    .refine WM (by rw[qB9];lia) λx c=>?_;rcases qB6.mp c with c|c
     .exact w x (m1 x c)
     .exact w x (m2 x c)
    .refine WM (by rw[qB9];lia) λx c=>?_;rcases qB6.mp c with c|c
     .rw[e3]at c;exact w x (qE9 c)
     .rw[e4]at c;exact w x (qE8 c)
    .exact WM (by lia) λx c=>by rw[<- s]at c;exact w x (Dp c)
    .exact Vh (by lia) f6 (by lia) w
    .exact WM (by rw[qL4];lia) λx c=>w x (qI1.mp c)
    .exact QY
   .rintro b rfl;rw[<- o]at f;simp at f
theorem eT(v:1<=sw)(w:sw<=3){rs:List Nat}(P:WL sw ix i S rs)(t:∀j,j<ix->f∉KL sw j):Vt sw f S (.tup (rs.map D.lst)):=by
 have s:∀{j z:Nat},z∈KL sw j->z<NN sw:=λ{j z} b=>by obtain⟨k,_,h⟩:=UC.mp b;exact TZ sw k h
 have u:QZ sw S (rs.map D.lst) ((List.range ix).map (KL sw)):=⟨by rw[qA0,qA0,qD4,P.hl],λj d c=>by
  rw[qB1]at c;cases a:rs[j]? with
  |none=>rw[a]at c;cases c
  |some r =>
   rw[a]at c;cases c;have e:j<ix:=by rw[<- P.hl];exact(qA5.mp a).1
   exact⟨KL sw j,by rw[qB1,qH2 e];rfl,r,rfl,P.hr j r a,I7 sw j,λz b=>s b⟩⟩
 refine⟨_,rfl,(Mq v w _ _ [] u).mpr λj r a=>?_⟩;rw[qB1]at a;cases m:(List.range ix)[j]? with
 |none=>rw[m]at a;cases a
 |some y =>
  rw[m]at a;cases a;obtain⟨e,p⟩:=qA5.mp m;rw[List.getElem_range]at p;subst p;rw[qD4]at e;have B:(((List.range ix).map (KL sw)).take j).length=j:=by rw[qE4,qA0,qD4];omega
  have o:∀k,k<j->(((List.range ix).map (KL sw)).take j)[k]?=Z9 (KL sw k):=λk hk=>by rw[qK2 hk,qB1,qH2 (by omega)];rfl
  refine⟨t j e,λ_ z b=>UC.mpr ⟨0,qC6 _,(Q5 sw z).mpr b⟩,λk hk A C l g=>?_⟩;rw[qV4]at hk l g;rw[o k (by omega)]at l;rw[o _ (by omega)]at g;cases l;cases g;intro x q z b;have b1:=UC.mp q;have n:=UC.mp b;exact⟨UC.mpr (MF (Q4 b1 n (.inl rfl)) (by omega)),UC.mpr (MF (Q4 b1 n (.inr rfl)) (by omega))⟩
def UA(b a:D)(i:Nat)(s:Int)(kr:Nat)(fd c pd td:D)(w:Option D):ZT:=[Z9 b,Z9 a,Z9 (.lst i),Z9 (.int s),Z9 (.lst kr),Z9 fd,Z9 c,Z9 pd,Z9 td,w]
theorem eS(c:ZR)(e:c "_law_right" [.int s,fd,d] S=.ok (.bl Z7) S1):MT c (UA b a i s kr fd f pd td (Z9 d)) S=.nx (UA b a i s kr fd f pd td (Z9 d)) S1:=by simp[MT,UA,e]
theorem eQ(c:ZR)(e:c "_law_bent" [.lst i,a,pd] S=.ok v S1):O6 c [b,Z9 (.lst i),Z9 a,Z9 pd] S=.ok v S1:=by simp[O6,e]
theorem eP(c:ZR){b r mo s f y m M:Int}{i V kr p:Nat}{T I:yM}{S B X u Q O R N U K o a k t d e g l h S19:ZX}(e1:c "_law_state" [q,.int b] S=.ok (.lst i) B)(C:B.length=V)(h2:B++[.lst [.int 1,.int 2,.int 2,.int 3]]=X)(e3:c "_law_take" [.lst i,.int 4] X=.ok (.int r) u)(em:Zp (.lst V) (.int r) u=.ok (.int mo) u)(hs:(if 3 - (if 1<b then 1 else b)<mo then 3 - (if 1<b then 1 else b)else mo)=s)(e4:c "_law_levels" [.int s] u=.ok (.lst kr) Q)(e5:c "_law_some_function" [.lst i,.int s] Q=.ok fd O)
  (e6:c "_law_fewest" [.lst kr,fd] O=.ok (.int f) R) (Z:c "_law_take" [.lst i,.int 4] R=.ok (.int y) N) (hm:(if 1+y<f - 1 then 1+y else f - 1)=m) (Y:c "_law_paper" [.int s,.lst kr,.int m] N=.ok j U) (e9:c "is_paper" [fd,j] U=.ok (.bl Z7) K) (J:c "is_paper" [fd,.tup []] K=.ok (.bl Z7) o) (v:Zo [] .one (λ_=>ret Z7) (O6 c) [Z8,Z9 (.lst i),Z9 (.int s),Z9 j] (Y5 0 4) o=.ok T a) (E:a++[.lst T]=k) (x:c "_law_take" [.lst i,.int 3] k=.ok (.int M) t) (z:c "_law_paper" [.int s,.lst kr,.int (1+M)] t=.ok P d) (w:d++[.lst []]=e) (A:e++[.dk []]=g) (H:g++[.lst [P,.non,.lst d.length,.dct e.length]]=l) (F:Zx (.lst a.length) (.lst g.length) l=.ok (.lst p) h) (G:ZO h p=Z9 I) (n:Zf [(p,I)] (gN 9) (MT c) I (UA q (.int b) i s kr fd (.int m) j (.lst a.length) W) h=.nx (UA q (.int b) i s kr fd (.int m) j (.lst a.length) L) S19) :
  O5 c [Z9 q,Z9 (.int b),w2,w3,w4,w5,w6,w7,w8,W] S=.nx (UA q (.int b) i s kr fd (.int m) j (.lst a.length) L) S19:=by
 have u4:(Y5 0 4).length<lim:=by decide
 unfold UA at n ⊢;simp[O5,e1,C,h2,e3,em,hs,e4,e5,e6,Z,hm,Y,e9,J,v,u4,E,x,z,w,A,H,F,G,n]
structure BM(cl:Nat->ZR):Prop where
 st:DI cl
 ce:JG cl
 rg:BV cl
 be:Io cl
 bn:DA cl
 fe:DG cl
 pa:DB cl
 bi:MX cl
inductive BL(sc:D)(B:ZT):Prop
 |mk (w1 w2 w3 w4 w5 w6 w7 w8 w9:Option D) (e:B=[Z9 sc,w1,w2,w3,w4,w5,w6,w7,w8,w9])
theorem eO(H:BM cl)(n:Nat)(ns:yA)(hsc:D.rol (ns.map D.int)=sc)(a:Int)(hj:0<=a)(S:ZX)(w2 w3 w4 w5 w6 w7 w8 w9:Option D):∃B l,O5 (cl (n+9)) [Z9 sc,Z9 (.int a),w2,w3,w4,w5,w6,w7,w8,w9] S=.nx B l/\BL sc B:=by
 obtain⟨S1,e1,x1,I⟩:=my H.st H.ce (n+7) ns a hj S;rw[hsc]at e1;obtain⟨i,hi⟩:∃i,S.length=i:=⟨_,rfl⟩
 rw[hi]at e1 I;obtain⟨n1,hn1⟩:∃n1,S1.length=n1:=⟨_,rfl⟩
 obtain⟨S2,h2⟩:∃S2,S1++[O.lst [.int 1,.int 2,.int 2,.int 3]]=S2:=⟨_,rfl⟩
 have x2:=h2▸Zt _ _;have st2:=I.ex x2;obtain⟨r,S3,e3,b1,b2,k3,_,st3⟩:=UU H.be.tk (n+8) st2 (m:=4) (by decide) (by decide);have l3:ZO S3 n1=Z9 [.int 1,.int 2,.int 2,.int 3]:=k3.lst (by rw[<- h2,<- hn1];exact Zm _ _) (by have:=I.lt;lia);obtain⟨mo,em,mo1,mo2⟩:∃mo:Int,Zp (.lst n1) (.int r) S3=.ok (.int mo) S3/\1<=mo/\mo<=3:=by
  have e:=VU l3 r;have:r=0∨r=1∨r=2∨r=3:=by lia
  rcases this with rfl|rfl|rfl|rfl
  .exact⟨1,by rw[e];rfl,by decide,by decide⟩
  .exact⟨2,by rw[e];rfl,by decide,by decide⟩
  .exact⟨2,by rw[e];rfl,by decide,by decide⟩
  .exact⟨3,by rw[e];rfl,by decide,by decide⟩
 obtain⟨sw,hs,u,q⟩:∃sw:Nat,(if 3 - (if 1<a then 1 else a)<mo then 3 - (if 1<a then 1 else a)else mo)=sw/\1<=sw/\sw<=3:=by
  have h:∃z:Int,(if 3 - (if 1<a then 1 else a)<mo then 3 - (if 1<a then 1 else a)else mo)=z/\1<=z/\z<=3:=⟨_,rfl,by split<;>(try split)<;>lia,by split<;>(try split)<;>lia⟩
  obtain⟨z,hz,z1,z3⟩:=h;exact⟨z.toNat,by lia,by lia,by lia⟩
 obtain⟨kr,S4,e4,_,x4,R4⟩:=iW H.rg.lp.le (n+6) u q S3;have st4:=st3.ex x4;obtain⟨bs,S5,e5,bl,k5,st5⟩:=Cq H.be.so H.be.tk (n+7) (sw:=sw) (by lia) st4;have R5:=R4.st st4 k5;obtain⟨gx,ghi,ghx⟩:∃gx,gx<=25/\ZG 0 bs∈lv sw gx:=CW u q (IX bl);obtain⟨S6,e6,x6⟩:=iR H.fe H.rg.lp.le.nu (n+7) R5 ghx;have st6:=st5.ex x6;obtain⟨t4,S7,e7,t0,t1,k7,_,st7⟩:=UU H.be.tk (n+8) st6 (m:=4) (by decide) (by decide);have R7:=(R5.ex x6).st st6 k7;obtain⟨many,hm,m4,mg⟩:∃many:Nat,(if 1+t4<((gx+1:Nat):Int) - 1 then 1+t4 else((gx+1:Nat):Int) - 1)=many/\many<=4/\many<=gx:=by
  have h:∃z:Int,(if 1+t4<((gx+1:Nat):Int) - 1 then 1+t4 else((gx+1:Nat):Int) - 1)=z/\0<=z/\z<=4/\z<=gx:=⟨_,rfl,by split<;>lia,by split<;>lia,by split<;>lia⟩
  obtain⟨z,hz,z0,z4,zg⟩:=h;exact⟨z.toNat,by lia,by lia,by lia⟩
 obtain⟨rs,S8,ix,e8,p8,ixm,x8,rf⟩:=BZ H.pa H.bi (n+6) (many:=many) u q (by lia) R7;have st8:=st7.ex x8;have lt7:=st7.lt;have P8:WL sw ix i S8 rs:=⟨p8,λr hr e=>by have:=rf r hr;lia⟩
 have rsl:(rs.map D.lst).length<=12:=by rw[qA0,p8.hl];lia
 have W8:=WM rsl (P8.wt q);obtain⟨S9,e9,x9⟩:=IL H.rg.is (n+1) u q bl W8.nkp;rw[XP (eT u q P8 λj hj hq=>by
  obtain⟨k,hk,h⟩:=UC.mp hq;have:=MG sw h ghx
  lia)]at e9
 have W9:Wt S9 i K3 (.tup []):=WM (qC6 _) λx hx=>by cases hx
 obtain⟨S10,e10,x10⟩:=IL H.rg.is (n+1) u q bl W9.nkp;rw[XP ⟨[],rfl,trivial⟩]at e10;have p:=x9.trans x10;have F:=st8.ex p;have P10:=P8.kp p.kp;obtain⟨T,Y,e11,tl,tw,k11,C⟩:=Ju (t:=.one) (c:=O6 (cl (n+9))) (B0:=[Z8,Z9 (.lst i),Z9 (.int sw),Z9 (.tup (rs.map D.lst))]) (P:=λacc l=>(∀d∈acc,Wt l i K3 d/\∀b,d≠.bl b)/\Kp (·=i) S10 l/\Yu l i) (λ_ S _=>Yp S) (Y5 0 4) [] ⟨(λd f=>nomatch f),Kp.refl _ _,F⟩ (λd _ acc l hP=>by
  obtain⟨ha,k,st⟩:=hP;obtain⟨v,S2',ev,wv,nb,k2,st2'⟩:=eU H.be H.bn (n+5) u q (by lia) st (P10.kp k);refine⟨_,rfl,v,S2',eQ _ ev,λe he=>?_,k.trans k2,st2'⟩;rcases qB6.mp he with he|he
  .exact⟨(ha e he).1.kp k2,(ha e he).2⟩
  .rw[qB2.mp he];exact⟨wv,nb⟩)
 have tl4:=tl;obtain⟨S12,L⟩:∃S12,Y++[O.lst T]=S12:=⟨_,rfl⟩
 have W:=L▸Zt _ _;have G:=C.ex W;obtain⟨t3,S13,e13,u0,u1,N,_,E⟩:=UU H.be.tk (n+8) G (m:=3) (by decide) (by decide);have R10:=(R7.ex x8).ex p;have R13:=((R10.st F k11).ex W).st G N;obtain⟨m2,hm2,m23⟩:∃m2:Nat,1+t3=m2/\m2<=3:=⟨(1+t3).toNat,by lia,by lia⟩
 obtain⟨qs,M,iy,e14,p14,iym,X,qf⟩:=BZ H.pa H.bi (n+6) (many:=m2) u q (by lia) R13;rw[<- hm2]at e14;have st14:=E.ex X;have lt13:=E.lt;have P14:WL sw iy i M qs:=⟨p14,λr hr e=>by have:=qf r hr;lia⟩
 obtain⟨S15,U⟩:∃S15,M++[O.lst []]=S15:=⟨_,rfl⟩
 obtain⟨S16,Q⟩:∃S16,S15++[O.dk []]=S16:=⟨_,rfl⟩
 obtain⟨V,hV⟩:∃V,[D.tup (qs.map D.lst),.non,.lst M.length,.dct S15.length]=V:=⟨_,rfl⟩
 obtain⟨S17,R⟩:∃S17,S16++[O.lst V]=S17:=⟨_,rfl⟩
 have Z:=U▸Zt _ _;have s:=Q▸Zt _ _;have o:=R▸Zt _ _;have lt11:=C.lt;have lt14:=st14.lt;have tS17:=(((X.trans Z).trans s).trans o).lst (N.lst (by rw[<- L];exact Zm _ _) (by lia)) λz=>z;have a18:=T5 tS17 (by rw[<- R];exact Zm _ _) (by rw[YY,tl4,<- hV];show 4+4<=_;decide);obtain⟨S18,h18⟩:∃S18,S17++[O.lst (T++V)]=S18:=⟨_,rfl⟩
 rw[h18]at a18;have A:=h18▸Zt _ _;have l18:ZO S18 S17.length=Z9 (T++V):=by rw[<- h18];exact Zm _ _
 have J:=(W.kp.trans N).trans ((((X.trans Z).trans s).trans o).trans A).kp;have K:=((Z.trans s).trans o).trans A;have all:∀d∈T++V,RY S18 i d/\∀b,d≠.bl b:=λd f=>by
  rcases qB6.mp f with f|f
  .exact⟨.inl ((tw d f).1.kp J),(tw d f).2⟩
  .rw[<- hV]at f;simp only[qB0,qF0,or_false]at f;rcases f with rfl|rfl|rfl|rfl
   .exact⟨.inl (WM (by rw[qA0,p14.hl];lia) ((P14.kp K.kp).wt q)),λb z=>by cases z⟩
   .exact⟨.inl QY,λb z=>by cases z⟩
   .exact⟨.inl (Vh (by lia) (((s.trans o).trans A).lst (by rw[<- U];exact Zm _ _) λz=>z) (qC6 _) λx hx=>by cases hx),λb z=>by cases z⟩
   .exact⟨.inr ⟨_,rfl,(o.trans A).at (by rw[<- Q,qA2 (qA6 _)];simp) λz=>z⟩,λb z=>by cases z⟩
 obtain⟨B9,S19,e19,⟨w,rfl⟩,_⟩:=Ua (g:=gN 9) (P:=λ_ B l=>(∃w,B=UA sc (.int a) i sw kr (Y4 bs) (.int many) (.tup (rs.map D.lst)) (.lst Y.length) w)/\Ex S18 l) (λ_ _ l hp=>Xj (hp.2.lst l18 λz=>z)) ⟨⟨_,rfl⟩,Kp.refl _ _⟩ (λj d B l f hP=>by
  obtain⟨⟨w,rfl⟩,x⟩:=hP;obtain⟨th,nb⟩:=all d (qC2 f);obtain⟨S'',e,y⟩:=fj H.rg n u q bl (th.ex x) nb;exact⟨UA sc (.int a) i sw kr (Y4 bs) (.int many) (.tup (rs.map D.lst)) (.lst Y.length) (Z9 d),l,by simp[UA],_,S'',.inl (eS _ e),⟨_,rfl⟩,x.trans y⟩)
 exact⟨_,S19,eP _ e1 hn1 h2 e3 em hs e4 e5 e6 e7 hm e8 e9 e10 e11 L e13 e14 U Q (by rw[hV];exact R) a18 l18 e19,⟨_,_,_,_,_,_,_,_,_,rfl⟩⟩
theorem eN(c:ZR)(b:Zi [a] S=.ok (.int L) S)(g:(if(if 3<L then 3 else L)>1 then(if 3<L then 3 else L)else 1)=q)(h:-4611686018427387904<=q/\q<4611686018427387904)(f:Zf [] (gN 1) (O5 c) (Y5 0 q.toNat) [Z9 a,Z8,Z8,Z8,Z8,Z8,Z8,Z8,Z8,Z8] S=.nx [Z9 a,d,e,w3,w4,w5,w6,w7,w8,i] S2):O4 c [Z9 a,Z8,Z8,Z8,Z8,Z8,Z8,Z8,Z8,Z8] S=.rt (.bl Z7) S2:=by simp[O4,b,g,h,f]
theorem eM(h:mA cl)(H:BM cl)(n:Nat)(a:yA):∃S',cl (n+10) "law" [.rol (a.map D.int)] []=.ok (.bl Z7) S':=by
 rw[show n+10=(n+9)+1 from rfl,h];generalize hsc:D.rol (a.map D.int)=sc;have w:∃q:Int,(if(if 3<(a.length:Int)then 3 else(a.length:Int))>1 then(if 3<(a.length:Int)then 3 else(a.length:Int))else 1)=q/\0<=q/\q<=3:=⟨_,rfl,by split<;>(try split)<;>lia,by split<;>(try split)<;>lia⟩
 obtain⟨q,v,A,z⟩:=w;obtain⟨C,t,x,u,i,f,s,k,b,o,c,r,rfl⟩:=Ua (g:=gN 1) (items:=Y5 0 q.toNat) (λj B S=>BL sc B)
  (λj B S l=>Yp _) ⟨_,_,_,_,_,_,_,_,_,rfl⟩
  (λj d B S m l=>by
   obtain⟨u,i,f,s,k,b,o,c,r,rfl⟩:=l;rw[OZ]at m;obtain⟨y,rfl⟩:=m;obtain⟨E,S',e,p⟩:=eO H n a hsc (0+j) (by lia) S i f s k b o c r;exact⟨_,_,rfl,_,S',.inl e,p⟩)
 exact⟨t,Zg rfl (eN _ (by rw[<- hsc,nB,qA0]) v (by lia) x)⟩
end My
set_option maxHeartbeats 4000000
namespace My
open PySem L2
def tbl:Tp:=[(("is_whole":Str),(1,1,Nm)),
 (("is_bit":Str),(1,1,PQ)),
 (("settings":Str),(1,3,Nl)),
 (("is_shut":Str),(2,2,Nj)),
 (("places_from":Str),(2,5,Ng)),
 (("joins":Str),(1,1,Nf)),
 (("shut_contacts":Str),(2,2,Nc)),
 (("lets":Str),(2,2,Na)),
 (("is_function":Str),(2,2,Td)),
 (("function_of":Str),(1,1,M9)),
 (("switches_of":Str),(1,1,PM)),
 (("where_both":Str),(2,2,JI)),
 (("where_either":Str),(2,2,JH)),
 (("lone_net":Str),(2,2,M8)),
 (("tree_function":Str),(2,5,Sd)),
 (("number_of":Str),(1,3,PJ)),
 (("first_level":Str),(1,5,PF)),
 (("is_rising_list":Str),(2,2,T9)),
 (("has_all_made":Str),(3,5,PB)),
 (("goes_on":Str),(3,4,Ta)),
 (("is_paper":Str),(2,6,Sb)),
 (("_law_cell_at":Str),(2,2,Py)),
 (("_law_state":Str),(2,3,Px)),
 (("_law_take":Str),(2,4,Pw)),
 (("_law_settings":Str),(1,3,M5)),
 (("_law_singles":Str),(1,4,Pt)),
 (("_law_number_of":Str),(1,3,Pr)),
 (("_law_levels":Str),(1,9,Pn)),
 (("_law_bits":Str),(2,3,Pl)),
 (("_law_fewest":Str),(2,3,Pi)),
 (("_law_some_function":Str),(2,2,Pg)),
 (("_law_is_function":Str),(2,2,T8)),
 (("_law_is_list":Str),(2,2,UW)),
 (("_law_has_all":Str),(3,5,Pc)),
 (("_law_is_paper":Str),(3,8,Vk)),
 (("_law_paper":Str),(3,6,O9)),
 (("_law_bent_list":Str),(3,7,O8)),
 (("_law_bent":Str),(3,6,T6)),
 (("_law_right":Str),(3,5,O7)),
 (("law":Str),(1,10,O4))]
def YE(i:Nat):Stmt:=PySem.Challenge.pw_contactnets_k52_papers_looked_at.main.body.getD i (.Pass ⟨0,0,0,0⟩)
theorem hk{f g:Nat->yM->M D}(h:f=g)(n:Nat):f n=g n:=congrFun h n
abbrev Im:Stmt:=YE 1
abbrev Il:Stmt:=YE 2
abbrev Ik:Stmt:=YE 3
abbrev Ij:Stmt:=YE 4
abbrev Ii:Stmt:=YE 5
abbrev Ih:Stmt:=YE 6
abbrev Ig:Stmt:=YE 7
abbrev Ie:Stmt:=YE 8
abbrev Ic:Stmt:=YE 9
abbrev Ib:Stmt:=YE 10
abbrev Ia:Stmt:=YE 11
abbrev H7:Stmt:=YE 12
abbrev H4:Stmt:=YE 13
abbrev HZ:Stmt:=YE 15
abbrev HY:Stmt:=YE 16
abbrev HX:Stmt:=YE 18
abbrev HW:Stmt:=YE 19
abbrev HV:Stmt:=YE 20
abbrev HU:Stmt:=YE 21
abbrev HS:Stmt:=YE 22
abbrev HR:Stmt:=YE 23
abbrev HQ:Stmt:=YE 25
abbrev HP:Stmt:=YE 26
abbrev HN:Stmt:=YE 27
abbrev HM:Stmt:=YE 28
abbrev HL:Stmt:=YE 29
abbrev HK:Stmt:=YE 30
abbrev HJ:Stmt:=YE 31
abbrev HI:Stmt:=YE 32
abbrev HH:Stmt:=YE 33
abbrev HG:Stmt:=YE 34
abbrev HE:Stmt:=YE 35
abbrev HD:Stmt:=YE 36
abbrev HC:Stmt:=YE 37
abbrev HA:Stmt:=YE 38
abbrev Hz:Stmt:=YE 39
abbrev Hy:Stmt:=YE 40
abbrev Hx:Stmt:=YE 41
abbrev Hw:Stmt:=YE 42
abbrev RX:Stmt:=YE 43
abbrev YD(x:Str)(N:yH)(st:wQ)(b:ZR->CS):Prop:=(λa:ZR=>cSts (To tbl) a 60 ⟨N,(XO st).names,Z9 x⟩ (WC st))=λa=>Z9 (b a)
theorem eK:YD "is_whole" ["thing"] Im Nm:=by kernel_rfl
theorem eJ:YD "is_bit" ["thing"] Il PQ:=by kernel_rfl
theorem BK:PP (Wd tbl):=hk (by kernel_rfl)
theorem eI:YD "settings" ["switches","told","switch"] Ik Nl:=by kernel_rfl
theorem eH:YD "is_shut" ["contact","setting"] Ij Nj:=by kernel_rfl
theorem eG:YD "places_from" ["start","contacts","found","grown","contact"] Ii Ng:=by kernel_rfl
theorem eF:YD "joins" ["contacts"] Ih Nf:=by kernel_rfl
theorem eE:YD "shut_contacts" ["net","setting"] Ig Nc:=by kernel_rfl
theorem eD:YD "lets" ["net","setting"] Ie Na:=by kernel_rfl
theorem eC:YD "is_function" ["switches","thing"] Ic Td:=by kernel_rfl
theorem eB:YD "function_of" ["net"] Ib M9:=by kernel_rfl
theorem eA:YD "switches_of" ["function"] Ia PM:=by kernel_rfl
theorem ez:YD "where_both" ["one","other"] H7 JI:=by kernel_rfl
theorem ew:YD "where_either" ["one","other"] H4 JH:=by kernel_rfl
theorem et:YD "lone_net" ["switches","tree"] HZ M8:=by kernel_rfl
theorem ek:YD "tree_function" ["switches","tree","told","part","bits"] HY Sd:=by kernel_rfl
theorem ej:YD "number_of" ["function","number","bit"] HX PJ:=by kernel_rfl
theorem eh:YD "first_level" ["switches","level","switch","on","tree"] HW PF:=by kernel_rfl
theorem eg:YD "is_rising_list" ["switches","thing"] HV T9:=by kernel_rfl
theorem ef:YD "has_all_made" ["some","one","other","first","second"] HU PB:=by kernel_rfl
theorem ee:YD "goes_on" ["lists","some","switches","less"] HS Ta:=by kernel_rfl
theorem dV:YD "is_paper" ["function","thing","switches","lists","part","some"] HR Sb:=by kernel_rfl
theorem dy:YD "_law_cell_at" ["_law_script","_law_k"] HQ Py:=by kernel_rfl
theorem dw:YD "_law_state" ["_law_script","_law_k","_law_cell"] HP Px:=by kernel_rfl
theorem dv:YD "_law_take" ["_law_state_here","_law_many","_law_found","_law_mixed"] HN Pw:=by kernel_rfl
theorem du:YD "_law_settings" ["_law_switches","_law_found","_law_number"] HM M5:=by kernel_rfl
theorem dq:YD "_law_singles" ["_law_switches","_law_found","_law_switch","_law_on"] HL Pt:=by kernel_rfl
theorem dn:YD "_law_number_of" ["_law_function","_law_found","_law_bit"] HK Pr:=by kernel_rfl
theorem dj:YD "_law_levels" ["_law_switches","_law_rows","_law_known","_law_many","_law_fresh","_law_few","_law_one","_law_other","_law_found"] HJ Pn:=by kernel_rfl
theorem dh:YD "_law_bits" ["_law_switches","_law_number","_law_size"] HI Pl:=by kernel_rfl
theorem dg:YD "_law_fewest" ["_law_rows","_law_function","_law_number"] HH Pi:=by kernel_rfl
theorem df:YD "_law_some_function" ["_law_state_here","_law_switches"] HG Pg:=by kernel_rfl
theorem de:YD "_law_is_function" ["_law_switches","_law_thing"] HE T8:=by kernel_rfl
theorem dd:YD "_law_is_list" ["_law_switches","_law_thing"] HD UW:=by kernel_rfl
theorem da:YD "_law_has_all" ["_law_there","_law_one","_law_other","_law_first","_law_second"] HC Pc:=by kernel_rfl
theorem cZ:YD "_law_is_paper" ["_law_switches","_law_function","_law_thing","_law_rows","_law_marks","_law_at","_law_row","_law_few"] HA Vk:=by kernel_rfl
theorem cY:YD "_law_paper" ["_law_switches","_law_rows","_law_many","_law_found","_law_some","_law_row"] Hz O9:=by kernel_rfl
theorem cX:YD "_law_bent_list" ["_law_state_here","_law_switches","_law_row","_law_at","_law_more","_law_odd","_law_some"] Hy O8:=by kernel_rfl
theorem cW:YD "_law_bent" ["_law_state_here","_law_switches","_law_paper_here","_law_at","_law_other","_law_some"] Hx T6:=by kernel_rfl
theorem cV:YD "_law_right" ["_law_switches","_law_function","_law_thing","_law_kept","_law_found"] Hw O7:=by kernel_rfl
theorem BJ:WO ["_law_script","_law_k","_law_state_here","_law_switches","_law_rows","_law_function","_law_many","_law_paper_here","_law_things","_law_thing"] ["_law_script"] (XO RX)=Z7:=by decide
theorem BI:YD "law" ["_law_script","_law_k","_law_state_here","_law_switches","_law_rows","_law_function","_law_many","_law_paper_here","_law_things","_law_thing"] RX O4:=by kernel_rfl
theorem cU(a:yA)(h:a.length<=63):∃S',Wd tbl 100 "law" [.rol (a.map D.int)] []=.ok (.bl Z7) S':=eM (hk (by kernel_rfl)) ⟨hk (by kernel_rfl),hk (by kernel_rfl),⟨⟨⟨hk (by kernel_rfl),hk (by kernel_rfl),hk (by kernel_rfl),⟨⟨BK,hk (by kernel_rfl),hk (by kernel_rfl),hk (by kernel_rfl),hk (by kernel_rfl),hk (by kernel_rfl),hk (by kernel_rfl)⟩,hk (by kernel_rfl),hk (by kernel_rfl),hk (by kernel_rfl),hk (by kernel_rfl)⟩,hk (by kernel_rfl)⟩,hk (by kernel_rfl),⟨BK,hk (by kernel_rfl),hk (by kernel_rfl),hk (by kernel_rfl)⟩,hk (by kernel_rfl),hk (by kernel_rfl)⟩,⟨⟨hk (by kernel_rfl),hk (by kernel_rfl),hk (by kernel_rfl),hk (by kernel_rfl)⟩,hk (by kernel_rfl),hk (by kernel_rfl),hk (by kernel_rfl),hk (by kernel_rfl)⟩,hk (by kernel_rfl)⟩,⟨hk (by kernel_rfl),hk (by kernel_rfl),hk (by kernel_rfl)⟩,hk (by kernel_rfl),hk (by kernel_rfl),hk (by kernel_rfl),hk (by kernel_rfl)⟩ 90 a
def DF(K:yS)(n:Str)(st:wQ):Prop:=∃(f:yR) (e g:Option yR) (c:Array (yF)) (b kV i h a d:yT),W.nsIn K vC n=Z9 (Z9 (.ref f))/\K.lookup f=Z9 ⟨b,e,.func (lG n n (Ur st) (WC st) (XO st) .none kV i h g a d),c⟩/\uK K a n=Z7/\dA K (.ref f)=Z7
theorem mkDF{sl:Array (yF)}{d kV j i b e:yT}(a:W.nsIn K vC n=Z9 (Z9 (.ref f)))(l:K.lookup f=Z9 ⟨d,g,.func (lG n n (Ur st) (WC st) (XO st) .none kV j i h b e),sl⟩)(c:uK K b n=Z7)(k:dA K (.ref f)=Z7):DF K n st:=⟨f,g,h,sl,d,kV,j,i,b,e,a,l,c,k⟩
theorem DF.in{m:Str->yF}(d:DF K n st)(X:K.In h)(G:h.Ns vC m):∃(f:yR) (kV j i:yT) (g:Option yR) (b e:yT),m n=Z9 (.ref f)/\Vc K n n st f (lG n n (Ur st) (WC st) (XO st) .none kV j i g b e):=by obtain⟨f,q,g,p,o,kV,j,i,b,e,a,l,c,k⟩:=d;exact⟨f,kV,j,i,g,b,e,W.mg_of X G a,yh l c k⟩
def ZN(K:yS):yH->Prop
 |[]=>True
 |x::r=>W.nsIn K vC x=Z9 Z8/\ZN K r
theorem ZN.none(X:K.In h)(G:h.Ns vC a):∀{l:yH},ZN K l->Nx a l
 |[],_=>True.intro
 |_::_,z=>⟨W.mg_none_of X G z.1,z.2.none X G⟩
def BP(st:wQ)(n:Str)(ps:yH)(kV a f:yT)(e:Option yR)(b d:yT)(c:yB):Prop:=bindArgs (lG n n (Ur st) (WC st) (XO st) .none kV a f e b d) ⟨c,[]⟩=pure (ps.zip c)
def BF(st:wQ)(n:Str)(ps:yH):Prop:=∀(kV a f:yT) (e:Option yR) (b d:yT) (c:yB),c.length=ps.length->BP st n ps kV a f e b d c
theorem YC{c:Str->yF}{a np nN:Nat}(d:DF K x st)(X:K.In h)(G:h.Ns vC c)(i:BF st x ps)(hs:WO N ps (XO st)=Z7)
  (g:(λcl:ZR=>cSts ar cl a ⟨N,(XO st).names,Z9 x⟩ (WC st))=λcl=>Z9 (b cl)) (e:ps.length=np:=by rfl) (f:N.length=nN:=by rfl):Se K c ar x (np,nN,b):=by obtain⟨_,_,_,_,_,_,_,m,F⟩:=d.in X G;exact nL F m (F.binds (ps:=ps) i) hs g e f
theorem Hv:∀b:yB,b.length=n+1->∃a r,b=a::r/\r.length=n
 |a::r,h=>⟨a,r,rfl,Nat.succ.inj h⟩
theorem cS{P:yB->Prop}(h:P [])(us:yB)(a:us.length=0):P us:=by rw[qI9 a];exact h
theorem BH{P:yB->Prop}(h:∀b:yT,P [b])(us:yB)(c:us.length=1):P us:=by obtain⟨a,r,rfl,d⟩:=Hv us c;exact cS (P:=λr=>P (a::r)) (h a) r d
theorem BG{P:yB->Prop}(h:∀b e:yT,P [b,e])(us:yB)(c:us.length=2):P us:=by obtain⟨a,r,rfl,d⟩:=Hv us c;exact BH (P:=λr=>P (a::r)) (h a) r d
theorem cR{P:yB->Prop}(h:∀b f d:yT,P [b,f,d])(us:yB)(c:us.length=3):P us:=by obtain⟨a,r,rfl,e⟩:=Hv us c;exact BG (P:=λr=>P (a::r)) (h a) r e
theorem Vq {st n a}(h:∀c d p e f g b,BP st n [a] c d p e f g [b]):BF st n [a]:=λc d p e f g=>BH (P:=BP st n [a] c d p e f g) (h c d p e f g)
theorem WK {st n a b}(h:∀c d p e f g i j,BP st n [a,b] c d p e f g [i,j]):BF st n [a,b]:=λc d p e f g=>BG (P:=BP st n [a,b] c d p e f g) (h c d p e f g)
theorem SW {st n a i b}(h:∀c d p e f g j l k,BP st n [a,i,b] c d p e f g [j,l,k]):BF st n [a,i,b]:=λc d p e f g=>cR (P:=BP st n [a,i,b] c d p e f g) (h c d p e f g)
theorem cQ:BF Im "is_whole" ["thing"]:=Vq λ_ _ _ _ _ _ _=>rfl
theorem cP:BF Il "is_bit" ["thing"]:=Vq λ_ _ _ _ _ _ _=>rfl
theorem cO:BF Ik "settings" ["switches"]:=Vq λ_ _ _ _ _ _ _=>rfl
theorem cN:BF Ij "is_shut" ["contact","setting"]:=WK λ_ _ _ _ _ _ _ _=>rfl
theorem cM:BF Ii "places_from" ["start","contacts"]:=WK λ_ _ _ _ _ _ _ _=>rfl
theorem cL:BF Ih "joins" ["contacts"]:=Vq λ_ _ _ _ _ _ _=>rfl
theorem cK:BF Ig "shut_contacts" ["net","setting"]:=WK λ_ _ _ _ _ _ _ _=>rfl
theorem cJ:BF Ie "lets" ["net","setting"]:=WK λ_ _ _ _ _ _ _ _=>rfl
theorem cI:BF Ic "is_function" ["switches","thing"]:=WK λ_ _ _ _ _ _ _ _=>rfl
theorem cH:BF Ib "function_of" ["net"]:=Vq λ_ _ _ _ _ _ _=>rfl
theorem cF:BF Ia "switches_of" ["function"]:=Vq λ_ _ _ _ _ _ _=>rfl
theorem cD:BF H7 "where_both" ["one","other"]:=WK λ_ _ _ _ _ _ _ _=>rfl
theorem cC:BF H4 "where_either" ["one","other"]:=WK λ_ _ _ _ _ _ _ _=>rfl
theorem cB:BF HZ "lone_net" ["switches","tree"]:=WK λ_ _ _ _ _ _ _ _=>rfl
theorem cA:BF HY "tree_function" ["switches","tree"]:=WK λ_ _ _ _ _ _ _ _=>rfl
theorem cz:BF HX "number_of" ["function"]:=Vq λ_ _ _ _ _ _ _=>rfl
theorem cy:BF HW "first_level" ["switches"]:=Vq λ_ _ _ _ _ _ _=>rfl
theorem cx:BF HV "is_rising_list" ["switches","thing"]:=WK λ_ _ _ _ _ _ _ _=>rfl
theorem cw:BF HU "has_all_made" ["some","one","other"]:=SW λ_ _ _ _ _ _ _ _ _=>rfl
theorem cv:BF HS "goes_on" ["lists","some","switches"]:=SW λ_ _ _ _ _ _ _ _ _=>rfl
theorem cu:BF HR "is_paper" ["function","thing"]:=WK λ_ _ _ _ _ _ _ _=>rfl
theorem cq:BF HQ "_law_cell_at" ["_law_script","_law_k"]:=WK λ_ _ _ _ _ _ _ _=>rfl
theorem cp:BF HP "_law_state" ["_law_script","_law_k"]:=WK λ_ _ _ _ _ _ _ _=>rfl
theorem cn:BF HN "_law_take" ["_law_state_here","_law_many"]:=WK λ_ _ _ _ _ _ _ _=>rfl
theorem cm:BF HM "_law_settings" ["_law_switches"]:=Vq λ_ _ _ _ _ _ _=>rfl
theorem ck:BF HL "_law_singles" ["_law_switches"]:=Vq λ_ _ _ _ _ _ _=>rfl
theorem cj:BF HK "_law_number_of" ["_law_function"]:=Vq λ_ _ _ _ _ _ _=>rfl
theorem cg:BF HJ "_law_levels" ["_law_switches"]:=Vq λ_ _ _ _ _ _ _=>rfl
theorem cf:BF HI "_law_bits" ["_law_switches","_law_number"]:=WK λ_ _ _ _ _ _ _ _=>rfl
theorem b9:BF HH "_law_fewest" ["_law_rows","_law_function"]:=WK λ_ _ _ _ _ _ _ _=>rfl
theorem b8:BF HG "_law_some_function" ["_law_state_here","_law_switches"]:=WK λ_ _ _ _ _ _ _ _=>rfl
theorem b7:BF HE "_law_is_function" ["_law_switches","_law_thing"]:=WK λ_ _ _ _ _ _ _ _=>rfl
theorem b6:BF HD "_law_is_list" ["_law_switches","_law_thing"]:=WK λ_ _ _ _ _ _ _ _=>rfl
theorem b0:BF HC "_law_has_all" ["_law_there","_law_one","_law_other"]:=SW λ_ _ _ _ _ _ _ _ _=>rfl
theorem bZ:BF HA "_law_is_paper" ["_law_switches","_law_function","_law_thing"]:=SW λ_ _ _ _ _ _ _ _ _=>rfl
theorem bY:BF Hz "_law_paper" ["_law_switches","_law_rows","_law_many"]:=SW λ_ _ _ _ _ _ _ _ _=>rfl
theorem bX:BF Hy "_law_bent_list" ["_law_state_here","_law_switches","_law_row"]:=SW λ_ _ _ _ _ _ _ _ _=>rfl
theorem bW:BF Hx "_law_bent" ["_law_state_here","_law_switches","_law_paper_here"]:=SW λ_ _ _ _ _ _ _ _ _=>rfl
theorem bV:BF Hw "_law_right" ["_law_switches","_law_function","_law_thing"]:=SW λ_ _ _ _ _ _ _ _ _=>rfl
theorem bU:BF RX "law" ["_law_script"]:=Vq λ_ _ _ _ _ _ _=>rfl
theorem all_mk{l:W.OpenLaw}{b:Str->yF}(X:K.In h)(G:h.Ns vC b)(r:b "law"=Z9 (.ref Z))
  (d1:DF K "is_whole" Im) (d2:DF K "is_bit" Il) (d3:DF K "settings" Ik) (d4:DF K "is_shut" Ij) (d5:DF K "places_from" Ii) (d6:DF K "joins" Ih) (d7:DF K "shut_contacts" Ig) (d8:DF K "lets" Ie) (d9:DF K "is_function" Ic) (u:DF K "function_of" Ib) (T:DF K "switches_of" Ia) (R:DF K "where_both" H7) (c:DF K "where_either" H4) (Q:DF K "lone_net" HZ) (U:DF K "tree_function" HY) (S:DF K "number_of" HX) (B:DF K "first_level" HW) (o:DF K "is_rising_list" HV) (H:DF K "has_all_made" HU) (P:DF K "goes_on" HS) (j:DF K "is_paper" HR) (g:DF K "_law_cell_at" HQ) (I:DF K "_law_state" HP) (i:DF K "_law_take" HN) (t:DF K "_law_settings" HM) (J:DF K "_law_singles" HL) (n:DF K "_law_number_of" HK) (f:DF K "_law_levels" HJ) (k:DF K "_law_bits" HI) (N:DF K "_law_fewest" HH) (O:DF K "_law_some_function" HG) (q:DF K "_law_is_function" HE) (E:DF K "_law_is_list" HD) (M:DF K "_law_has_all" HC) (V:DF K "_law_is_paper" HA) (Y:DF K "_law_paper" Hz) (D:DF K "_law_bent_list" Hy) (d:DF K "_law_bent" Hx) (C:DF K "_law_right" Hw) (a:DF K "law" RX) (z:ZN K Qa) :
  ∃fd:vY,(∀(s:yQ) (v:yT),uJ s fd ⟨[v],[]⟩ [("_law_script",v)])/\∀base:jL,K.In base->base.Ns vC b->XU l.prog w K b base UK 100 Z fd ["_law_script"] (Ny K):=by obtain⟨_,kV,dc,pm,an,cd,ct,m,F⟩:=a.in X G;have e:=r.symm.trans m;cases e;have A:Rm K b (To tbl) tbl:=And.intro (YC d1 X G cQ (by decide) eK) (And.intro (YC d2 X G cP (by decide) eJ) (And.intro (YC d3 X G cO (by decide) eI) (And.intro (YC d4 X G cN (by decide) eH) (And.intro (YC d5 X G cM (by decide) eG) (And.intro (YC d6 X G cL (by decide) eF) (And.intro (YC d7 X G cK (by decide) eE) (And.intro (YC d8 X G cJ (by decide) eD) (And.intro (YC d9 X G cI (by decide) eC) (And.intro (YC u X G cH (by decide) eB) (And.intro (YC T X G cF (by decide) eA) (And.intro (YC R X G cD (by decide) ez) (And.intro (YC c X G cC (by decide) ew) (And.intro (YC Q X G cB (by decide) et) (And.intro (YC U X G cA (by decide) ek) (And.intro (YC S X G cz (by decide) ej) (And.intro (YC B X G cy (by decide) eh) (And.intro (YC o X G cx (by decide) eg) (And.intro (YC H X G cw (by decide) ef) (And.intro (YC P X G cv (by decide) ee) (And.intro (YC j X G cu (by decide) dV) (And.intro (YC g X G cq (by decide) dy) (And.intro (YC I X G cp (by decide) dw) (And.intro (YC i X G cn (by decide) dv) (And.intro (YC t X G cm (by decide) du) (And.intro (YC J X G ck (by decide) dq) (And.intro (YC n X G cj (by decide) dn) (And.intro (YC f X G cg (by decide) dj) (And.intro (YC k X G cf (by decide) dh) (And.intro (YC N X G b9 (by decide) dg) (And.intro (YC O X G b8 (by decide) df) (And.intro (YC q X G b7 (by decide) de) (And.intro (YC E X G b6 (by decide) dd) (And.intro (YC M X G b0 (by decide) da) (And.intro (YC V X G bZ (by decide) cZ) (And.intro (YC Y X G bY (by decide) cY) (And.intro (YC D X G bX (by decide) cX) (And.intro (YC d X G bW (by decide) cW) (And.intro (YC C X G bV (by decide) cV) (And.intro (YC a X G bU BJ BI) (True.intro))))))))))))))))))))))))))))))))))))))));refine⟨lG "law" "law" (Ur RX) (WC RX) (XO RX) .none kV dc pm an cd ct,λs v=>.of_eq rfl,λbase _ _=>?_⟩;exact nM (L:=99) (λx p e=>A.look x p e) ⟨λy hy _=>(z.none X G).mem y hy⟩ (by kernel_rfl) F BJ rfl (λcl=>congrFun BI cl) (λns h=>cU ns h)
end My
open PySem PySem.W PyProof.Rows
namespace PySem.W.Fast
theorem te271126866978192756:True:=trivial
theorem tw2810654683593377685:True:=trivial
end PySem.W.Fast
set_option maxRecDepth 100000 in
set_option maxHeartbeats 0 in
theorem PySem.Challenge.cw_contactnets_k52_papers_looked_at_holds : PySem.Challenge.rw_contactnets_k52_papers_looked_at.Holds := by
 w_on; o_law; k_head; (case hw=>w_witness2)
 k_fill
 refine L2.walk_ev (L:=100) (l:=PySem.Challenge.rw_contactnets_k52_papers_looked_at) rfl rfl ⟨rfl,by decide,by decide,rfl⟩ (fun w h Y=>PySem.W.kIn_of Y) ?F
 case F =>
  intro w mg fa h KX G hmg
  refine' My.all_mk KX G hmg (My.mkDF ?a1 ?l1 ?c1 ?k1) (My.mkDF ?a2 ?l2 ?c2 ?k2) (My.mkDF ?a3 ?l3 ?c3 ?k3) (My.mkDF ?a4 ?l4 ?c4 ?k4) (My.mkDF ?a5 ?l5 ?c5 ?k5) (My.mkDF ?a6 ?l6 ?c6 ?k6) (My.mkDF ?a7 ?l7 ?c7 ?k7) (My.mkDF ?a8 ?l8 ?c8 ?k8) (My.mkDF ?a9 ?l9 ?c9 ?k9) (My.mkDF ?a10 ?l10 ?c10 ?k10) (My.mkDF ?a11 ?l11 ?c11 ?k11) (My.mkDF ?a12 ?l12 ?c12 ?k12) (My.mkDF ?a13 ?l13 ?c13 ?k13) (My.mkDF ?a14 ?l14 ?c14 ?k14) (My.mkDF ?a15 ?l15 ?c15 ?k15) (My.mkDF ?a16 ?l16 ?c16 ?k16) (My.mkDF ?a17 ?l17 ?c17 ?k17) (My.mkDF ?a18 ?l18 ?c18 ?k18) (My.mkDF ?a19 ?l19 ?c19 ?k19) (My.mkDF ?a20 ?l20 ?c20 ?k20) (My.mkDF ?a21 ?l21 ?c21 ?k21) (My.mkDF ?a22 ?l22 ?c22 ?k22) (My.mkDF ?a23 ?l23 ?c23 ?k23) (My.mkDF ?a24 ?l24 ?c24 ?k24) (My.mkDF ?a25 ?l25 ?c25 ?k25) (My.mkDF ?a26 ?l26 ?c26 ?k26) (My.mkDF ?a27 ?l27 ?c27 ?k27) (My.mkDF ?a28 ?l28 ?c28 ?k28) (My.mkDF ?a29 ?l29 ?c29 ?k29) (My.mkDF ?a30 ?l30 ?c30 ?k30) (My.mkDF ?a31 ?l31 ?c31 ?k31) (My.mkDF ?a32 ?l32 ?c32 ?k32) (My.mkDF ?a33 ?l33 ?c33 ?k33) (My.mkDF ?a34 ?l34 ?c34 ?k34) (My.mkDF ?a35 ?l35 ?c35 ?k35) (My.mkDF ?a36 ?l36 ?c36 ?k36) (My.mkDF ?a37 ?l37 ?c37 ?k37) (My.mkDF ?a38 ?l38 ?c38 ?k38) (My.mkDF ?a39 ?l39 ?c39 ?k39) (My.mkDF ?a40 ?l40 ?c40 ?k40) ⟨?z1,?z2,?z3,?z4,?z5,?z6,?z7,?z8,?z9,?z10,?z11,?z12,?z13,?z14,?z15,?z16,?z17,?z18,?z19,?z20,True.intro⟩
  case a1=>k_is
  case l1=>k_is
  case c1=>k_is
  case k1=>k_is
  case a2=>k_is
  case l2=>k_is
  case c2=>k_is
  case k2=>k_is
  case a3=>k_is
  case l3=>k_is
  case c3=>k_is
  case k3=>k_is
  case a4=>k_is
  case l4=>k_is
  case c4=>k_is
  case k4=>k_is
  case a5=>k_is
  case l5=>k_is
  case c5=>k_is
  case k5=>k_is
  case a6=>k_is
  case l6=>k_is
  case c6=>k_is
  case k6=>k_is
  case a7=>k_is
  case l7=>k_is
  case c7=>k_is
  case k7=>k_is
  case a8=>k_is
  case l8=>k_is
  case c8=>k_is
  case k8=>k_is
  case a9=>k_is
  case l9=>k_is
  case c9=>k_is
  case k9=>k_is
  case a10=>k_is
  case l10=>k_is
  case c10=>k_is
  case k10=>k_is
  case a11=>k_is
  case l11=>k_is
  case c11=>k_is
  case k11=>k_is
  case a12=>k_is
  case l12=>k_is
  case c12=>k_is
  case k12=>k_is
  case a13=>k_is
  case l13=>k_is
  case c13=>k_is
  case k13=>k_is
  case a14=>k_is
  case l14=>k_is
  case c14=>k_is
  case k14=>k_is
  case a15=>k_is
  case l15=>k_is
  case c15=>k_is
  case k15=>k_is
  case a16=>k_is
  case l16=>k_is
  case c16=>k_is
  case k16=>k_is
  case a17=>k_is
  case l17=>k_is
  case c17=>k_is
  case k17=>k_is
  case a18=>k_is
  case l18=>k_is
  case c18=>k_is
  case k18=>k_is
  case a19=>k_is
  case l19=>k_is
  case c19=>k_is
  case k19=>k_is
  case a20=>k_is
  case l20=>k_is
  case c20=>k_is
  case k20=>k_is
  case a21=>k_is
  case l21=>k_is
  case c21=>k_is
  case k21=>k_is
  case a22=>k_is
  case l22=>k_is
  case c22=>k_is
  case k22=>k_is
  case a23=>k_is
  case l23=>k_is
  case c23=>k_is
  case k23=>k_is
  case a24=>k_is
  case l24=>k_is
  case c24=>k_is
  case k24=>k_is
  case a25=>k_is
  case l25=>k_is
  case c25=>k_is
  case k25=>k_is
  case a26=>k_is
  case l26=>k_is
  case c26=>k_is
  case k26=>k_is
  case a27=>k_is
  case l27=>k_is
  case c27=>k_is
  case k27=>k_is
  case a28=>k_is
  case l28=>k_is
  case c28=>k_is
  case k28=>k_is
  case a29=>k_is
  case l29=>k_is
  case c29=>k_is
  case k29=>k_is
  case a30=>k_is
  case l30=>k_is
  case c30=>k_is
  case k30=>k_is
  case a31=>k_is
  case l31=>k_is
  case c31=>k_is
  case k31=>k_is
  case a32=>k_is
  case l32=>k_is
  case c32=>k_is
  case k32=>k_is
  case a33=>k_is
  case l33=>k_is
  case c33=>k_is
  case k33=>k_is
  case a34=>k_is
  case l34=>k_is
  case c34=>k_is
  case k34=>k_is
  case a35=>k_is
  case l35=>k_is
  case c35=>k_is
  case k35=>k_is
  case a36=>k_is
  case l36=>k_is
  case c36=>k_is
  case k36=>k_is
  case a37=>k_is
  case l37=>k_is
  case c37=>k_is
  case k37=>k_is
  case a38=>k_is
  case l38=>k_is
  case c38=>k_is
  case k38=>k_is
  case a39=>k_is
  case l39=>k_is
  case c39=>k_is
  case k39=>k_is
  case a40=>k_is
  case l40=>k_is
  case c40=>k_is
  case k40=>k_is
  case z1=>k_is
  case z2=>k_is
  case z3=>k_is
  case z4=>k_is
  case z5=>k_is
  case z6=>k_is
  case z7=>k_is
  case z8=>k_is
  case z9=>k_is
  case z10=>k_is
  case z11=>k_is
  case z12=>k_is
  case z13=>k_is
  case z14=>k_is
  case z15=>k_is
  case z16=>k_is
  case z17=>k_is
  case z18=>k_is
  case z19=>k_is
  case z20=>k_is
