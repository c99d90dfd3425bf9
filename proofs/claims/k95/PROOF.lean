import PyProof.Rows.All
import Wide.All
import OpenK.AllK
import Lean
import PySem.Challenge.RW_contactnets_k95_whole_desk
set_option Elab.async false
set_option linter.all false
set_option autoImplicit true
set_option relaxedAutoImplicit true
set_option genSizeOf false
set_option genInjectivity false
set_option compiler.extract_closed false
set_option bootstrap.genMatcherCode false
set_option maxRecDepth 100000
set_option maxHeartbeats 1000000
local macro_rules|`(def $i$s:optDeclSig$v:declVal)=>`(noncomputable def $i$s:optDeclSig$v:declVal)|`(abbrev $i$s:optDeclSig$v:declVal)=>`(noncomputable abbrev $i$s:optDeclSig$v:declVal)
local macro_rules|`(tactic|decide)=>`(tactic|decide +kernel)
open List renaming length_map→qA1,getElem?_append_right→qA2,getElem?_eq_some_iff→qA5,getElem?_append_left→qA8,getElem?_eq_getElem→qA9,map_cons→qB2,size_toArray→qB3,mem_singleton→qB4,length_append→qB5,getElem?_map→qB6,length_cons→qB8,mem_cons→qC0,mem_of_getElem?→qC2,mem_append→qC3,mem_cons_of_mem→qC4,map_map→qC6,mem_append_right→qC7,mem_map→qC8,mem_cons_self→qC9,all_eq_true→qD0,append_assoc→qD1,pairwise_append→qD2,mem_append_left→qD3,getElem?_set_self→qD4,pairwise_singleton→qD6,lookup_cons→qD9,not_mem_nil→qE0,getElem?_set_ne→qE1,map_append→qE2,pairwise_cons→qE4,length_take→qE6,getElem?_zip_eq_some→qE7,any_cons→qE9,sum_cons→qF0,mem_filter→qF1,mem_filterMap→qF2,length_eq_zero_iff→qF3,take_of_length_le→qF5,mapM_cons→qF6,nodup_append→qF7,filterMap_cons→qF8,map_congr_left→qF9,append_nil→qG0,length→qG1,drop_eq_getElem_cons→qG2,length_filter_le→qG3,length_drop→qG5,filter_cons→qG6,mem_singleton_self→qG8,getElem?_cons_succ→qG9,length_replicate→qH1,length_nil→qH2,getElem?_range→qH5,getElem?_replicate→qH7,all_map→qI0,getElem?_toArray→qI5,take_append_drop→qI6,mem_range→qI8,replicate→qI9,mem_iff_getElem→qJ0,getElem?_of_mem→qJ1,map_nil→qJ2,all_cons→qJ3,forIn_cons→qJ4,find?_cons→qJ6,lookup→qJ8,cons→qK0,range_succ_eq_map→qK2,reverse_cons→qK3,pairwise_of_forall_mem_list→qK4,pairwise_map→qK5,flatMap_cons→qK7,perm_append_comm→qK8,take_length→qK9,cons_append→qL0,mem_of_mem_take→qL2,mem_of_mem_drop→qL3,range'→qL4,nodup_cons→qL5,nil_append→qL6,length_zip→qL7,getElem_of_mem→qM0,getD→qM1,filterMap_nil→qM3,getD_eq_getElem?_getD→qM4,mapM_toArray→qM9,take_add_one→qN0,filter_congr→qN1,zip_map'→qN2,mem_reverse→qN4,drop_of_length_le→qN6,of_mem_zip→qN7,length_set→qN8,dropLast_eq_take→qO1,filterMap_append→qO2,mem_iff_getElem?→qO3,drop_zero→qO5,nodup_nil→qO7,toList_toArray→qO8,filter_eq_self→qO9,flatMap_append→qP0,findIdx?_cons→qP3,map_inj_right→qP4,take_sublist→qP5,length_range→qP6,any_map→qP7,getElem_drop→qP8,getElem?_inj→qQ1,flatten_cons→qQ2,zipIdx_cons→qQ5,all_toArray→qQ6,map_snd_zip→qQ8,getElem_mem→qQ9,drop_length→qR0,any_eq_true→qR1,zipIdx_nil→qR4,forIn_nil→qR6,map→qR7
open Option renaming bind_eq_some_iff→qA3,map_eq_some_iff→qA4,isSome_iff_exists→qH4,isNone_iff_eq_none→qM6,isSome_map→qM8,map_some→qN9,isSome_some→qP2,getD_none→qQ3
open Nat renaming le_refl→qA6,lt_of_lt_of_le→qB7,ne_of_lt→qB9,le_trans→qC5,lt_succ_of_lt→qD7,sub_self→qD8,pow_le_pow_right→qE5,zero_le→qE8,le_of_lt→qF4,le_of_ble_eq_true→qG4,ne_of_gt→qG7,lt_succ_self→qH6,le_of_not_lt→qH8,lt_of_le_of_lt→qH9,lt_irrefl→qI3,le_antisymm→qJ5,add_sub_cancel_left→qJ9,add_comm→qK6,min_eq_left→qL8,one_le_two_pow→qM5,le_succ→qM7,succ_le_succ→qN3,min_eq_right→qN5,pow_le_pow_left→qP1,succ_ne_self→qQ4,add_mul→qR2,one_mul→qR3
open Bool renaming false_ne_true→qB0,and_eq_true→qC1,false_eq_true→qI1,or_eq_true→qI2,not_eq_true'→qI7,false_and→qO4,and_false→qR5
open Int renaming toNat_natCast→qH3,emod_lt_of_pos→qJ7,emod_nonneg→qL9,fdiv_eq_ediv_of_nonneg→qM2,le_antisymm→qO0,le_trans→qQ0
open PySem.Heap renaming get?_push_of_some→qA0,get?_push_size→qA7,lt_size→qB1,size_push→qD5,SameBut→qE3,IsTuple→qH0,get?_update_self→qI4,get?_update_other→qK1,IsList→qL1,ExtBut→qO6,get?_push_ne→qP9,size_update→qQ7
abbrev yA:=List Int
abbrev yB:=List PySem.Value
abbrev yC:=List PySem.Addr
abbrev yD:=List (PySem.Addr × PySem.Obj)
abbrev yE:=List PySem.Expr
abbrev yF:=Option PySem.Value
abbrev yG:=Option Int
abbrev yH:=List PySem.Str
abbrev yI:=List PyProof.Rows.Keyed
abbrev yJ:=Array PySem.Value
abbrev yK:=Option Nat
abbrev yL:=PySem.Value→PySem.Shared→Prop
open PySem renaming wpAny_bind→yO,wpAny_pure→yP,Addr→yR,Shared→yS,Value→yT,Spec→yU,sizeLine→yV,model→yW,Program→yX,Expr→yY,compareOp→yZ,wpAny→y2,starEach→y3,Around→y7,World→y8,Heap→y9,bootBuiltins→jA,mainGlobals→jC,wpAny_callSpecial?_slot→jD,wpAny_call_entry→jE,wpAny_holding→jG,wpAny_truthy_bool→jH,assignEach→jI,binaryOp→jJ,wpAny_pyIter_tuple→jK,wpAny_setField_rec→jL,wpAny_pyIter_list→jQ,NameKind→jR,wpAny_seqItems→jS,wpAny_mono→jU,wpAny_field→jV,eval→jW,swappedStores→jX,sysModules→jZ,wpAny_newObj_type→j3,FuncData→j4,wpAny_typeOf→j6,sizeLine_eq→j7,keywordEach→j8,wpAny_typeNameOfWhole_keyiter→j9,backTo→vB,cLine→vE,PyData→vF,wpAny_attempt→vI,DictEntry→vJ,Scope→vK,call_meets→vL,Stmt→vO,wpAny_passesOwn→vP,cellsFrom→vQ,wpAny_rule→vR,attributeBase→vS,typeIs_str→vT,mem_of_lookup→vV,wpAny_pyIter_zip→vW,Keyword→wA,foldedSetIterable→wE,backToKw→wH,intText?→wI,holding→wJ,wpAny_isInstance→wK,rawInt→wM,codeAny→wR,wpAny_loadPart'→wS,wpAny_Call_Name_kw→wT,tupleKind_room_in1→wU,swapsWith→wW,sliceBounds→wZ,wpAny_pyNext_list_item→fA,valueAt→fE,wpAny_pyNext_list_end→fI,IsZip→fK,lastMarks→fL,IsPair→fP,wpAny_standAt→fS,behindInMarks→fT,wpAny_onRaise→fU,wpAny_newList→fV,CmpOp→fW,wpAny_execs_nil→fY,pushCells_keeps→fZ,codeAny_builtin→gC,Builtin→gE,assign→gJ,wpAny_setField→gL,methodCallForm→gO,wpAny_letOwnedTupleGo_zip→gP,standAt→gU,getItem→gV,wpAny_pyIter_enum→gX,wpAny_letGo→gY,wpAny_dictEntries→gZ,limitOf→g7,IsPart→g8,wpAny_comprehension_free→g9,noFill_tuple_add→lH,pushCells→lI,codeAny_mono→lL,wpAny_Call_method_late→lP,callerA→lS,letOwnedTupleGo→lW,Draws→lY,wpAny_dictEpoch→lZ,wpAny_isOneOf_keyiter→mD,wpAny_notOrdered_dict→mE,Paired→mH,newFunctionEnv→mM,wpAny_updateSeq_pair→mN,isSubtype_stop→mO,wpAny_pyIter_keyiter→mS,intItems→mT,numbered_texts→mU,tupleKind→mW,PassesOwn→mX,call→mY,swapsWithSole→m5,seq_tuple_add→m8,Comprehension→dD,builtinsNs→dE,Within→dI,Operator→dJ,BindsTo→dL,concat_meets→dM,seqIndex_neg→dN,relabel→dP,notedBy→dQ,callType_new→dR,isTrue→uB,getMethod→uC,Result→uD,stored→uF,strValues→uG,JoinOk→uH,Meets→uJ,seqIndex_of→uK,subscripted→uL,hashStr→uQ,setItem→uR,sub_zip→uS
open PySem.W renaming Frag→yQ,findIn→wB,instObj→wC,keepIn→wG,emptyDict→wX,fnOf→fO,kia_one→gG,codeIn→lF,plainGet→lK,hasDictIn→mJ,nsIn→mV,plainGet_of→m7,kdu_collect→dA,makesIn→uE,plainOver→uI
open PyProof.Rows renaming Keyed→y4,wpS_bind→jF,callWith_type1→jP,wpS_pure→jT,slot_tuple_getitem→j5,SortSt→vG,IntsAre→vN,seqObj→vX,SortKind→vY,wpS_forRange→fG,assignInOrder_cons→gK,AllBare→gQ,listUpdate_at→lC,subscriptTail_builtinR→lO,listItems_at→lU,entry_list_sort→mB,envOfC→mK,slot_list_sort→mP,args_list_sort→mQ,sortedHeap_old→mR,lt_int→mZ,entry_tuple_getitem→m4,sortedHeap_at→m9,reverseSlice'→dC,size_push'→dF,wpS_modify→dG,IsTup→dH,plain_sorted→dS,entry_sorted→dU,args_sorted1→dW,wpS_get→dX,wpS_mono→dY,mem_zip_self→dZ,sortedS→uA,kind_sorted→uM,elem'→uN,arrOf→uO,seqEpoch_at→uP
open Array renaming getElem?_toList→jM,length_toList→jN,size_append→vA,toList_append→wN
open PySem.F renaming slot_str_split→jO,entry_str_split→jY,slot_zip_next→vC,slot_dict_keyiterator_next→vD,plainAttrs_str→vH,slot_tuple_iterator_next→vM,plainAttrs_list→vZ,args_tuple_add_2→wO,args_str_split_2→wP,args_str_split_3→wQ,entry_tuple_add→wY,slot_tuple_add→fD,args_zip_next_1→fF,slot_tuple_lt→fJ,entry_zip_next→fQ,args_dict_keyiterator_next_1→fR,entry_dict_keyiterator_next→fX,args_tuple_iterator_next_1→gB,entry_tuple_iterator_next→gD,slot_str_startswith→gF,slot_list_extend→lA,slot_dict_update→lE,args_tuple_lt_2→lG,plainAttrs_dict→lJ,entry_tuple_lt→lM,type_str_split→lV,slot_str_find→mF,slot_dict_get→mG
open PySem.Obj renaming mapSeq→vU,data_mapFields→wV,isFreed_of_fields→mC
open PySem.Builtin renaming bitAnd→wF,bitXor→mI,bitOr→m6
open PySem.Calls renaming call_function_entry→wL,Name_function_global→gH,callWith_builtin→lQ,evalArgs_plain→mL
open Option renaming some→Z9,none→Z8
open Bool renaming true→Z7,false→Z5
namespace Lake
open PySem PySem.Spec PyProof.Rows
abbrev Wm(x:Str):Prop:=(x == ("__debug__":Str))=Z5
abbrev Zz:=Sum Int Str
def Ut:Zz->yT->Bool
 |.inl k,v=>Value.isInt k v
 |.inr x,v=>Value.isStrOf x v
def Mn(w:y8):Zz->Int
 |.inl k=>hashInt k
 |.inr x=>uQ w x
theorem UP:∀{k:Zz}{v:yT},Ut k v=Z7->(∃i t,k=Sum.inl i/\v=Value.int i t)∨(∃x t,k=Sum.inr x/\v=Value.str x t)
 |.inl i,v,h=>by obtain⟨t,e⟩:=Value.isInt_shape h;exact .inl ⟨i,t,rfl,e⟩
 |.inr x,v,h=>by obtain⟨t,e⟩:=Value.isStrOf_shape h;exact .inr ⟨x,t,rfl,e⟩
theorem AO(i:Int)(t:Tok):Ut (.inl i) (.int i t)=Z7:=by simp[Ut,Value.isInt]
theorem AN(x:Str)(t:Tok):Ut (.inr x) (.str x t)=Z7:=by simp[Ut,Value.isStrOf]
theorem AM(a b:Int):decide ((Sum.inl a:Zz)=Sum.inl b)=(a == b):=by grind
theorem AL(a b:Str):decide ((Sum.inr a:Zz)=Sum.inr b)=decide (a=b):=by simp_all
theorem AK(a:Int)(b:Str):decide ((Sum.inl a:Zz)=Sum.inr b)=Z5:=rfl
theorem AJ(a:Str)(b:Int):decide ((Sum.inr a:Zz)=Sum.inl b)=Z5:=rfl
def Yp(prog:yX)(w:y8):PySem.KeyKind prog w Zz where
 is:=Ut
 hash:=Mn w
 inj:=λv a b f c=>by
  rcases UP f with⟨i,t,rfl,rfl⟩| ⟨x,t,rfl,rfl⟩
  .rcases UP c with⟨j,u,rfl,e⟩| ⟨y,u,rfl,e⟩
   .injection e with e1 _;rw[e1]
   .exact nomatch e
  .rcases UP c with⟨j,u,rfl,e⟩| ⟨y,u,rfl,e⟩
   .exact nomatch e
   .injection e with e1 _;rw[e1]
 byValue:=λk v h=>by rcases UP h with⟨i,t,rfl,rfl⟩| ⟨x,t,rfl,rfl⟩<;>rfl
 pyHash:=λhv h=>by
  rcases UP hv with⟨i,t,rfl,rfl⟩| ⟨x,t,rfl,rfl⟩
  .exact wpAny_pyHash_int h
  .exact wpAny_pyHash_str h
 eqBool:=λd hv h=>by
  rcases UP d with⟨i,t,rfl,rfl⟩| ⟨x,t,rfl,rfl⟩
  .rcases UP hv with⟨j,u,rfl,rfl⟩| ⟨y,u,rfl,rfl⟩
   .rw[AM]at h;exact wpAny_eqBool_int h
   .rw[AK]at h;exact SeqAt.EqAt.int_str i t y u _ _ _ _ h
  .rcases UP hv with⟨j,u,rfl,rfl⟩| ⟨y,u,rfl,rfl⟩
   .rw[AJ]at h;exact SeqAt.EqAt.str_int x t j u _ _ _ _ h
   .rw[AL]at h;exact wpAny_eqBool_str h
 «strs»:=λk x t v h=>by
  rcases UP h with⟨i,u,rfl,e⟩| ⟨y,u,rfl,e⟩
  .exact nomatch e
  .injection e with e1 _;subst e1;cases v<;>rfl
theorem AI(prog:yX)(w:y8)(i:Int)(t:Tok):(Yp prog w).is (.inl i) (.int i t)=Z7:=AO i t
theorem Mm(prog:yX)(w:y8)(x:Str)(t:Tok):(Yp prog w).is (.inr x) (.str x t)=Z7:=AN x t
set_option genInjectivity true in
inductive V where
 |non|bl (b:Bool)| int (i:Int)| str (x:Str)| byt (b:Array UInt8)| flt (b:UInt64)| ref (a:yR)| ty (n:String)
 deriving DecidableEq
def ZG:V->yT->Prop
 |.non,u=>u=Value.none
 |.bl b,u=>u=Value.bool b
 |.int i,u=>∃t,u=Value.int i t
 |.str x,u=>∃t,u=Value.str x t
 |.byt b,u=>∃t,u=Value.bytes b t
 |.flt b,u=>∃t,u=Value.float b t
 |.ref a,u=>u=Value.ref a
 |.ty n,u=>u=Value.type n
abbrev ZJ:List V->yB->Prop:=mH ZG
theorem ZJ.length(r:ZJ xs us):xs.length=us.length:=Paired.length r
theorem ZJ.get:∀{xs:List V}{us:yB}{i:Nat}{x:V},ZJ xs us->xs[i]?=Z9 x->∃u,us[i]?=Z9 u/\ZG x u
 |_,_,_,_,.nil,e=>by simp at e
 |_,_,0,_,.cons r _,e=>by simp at e;subst e;exact⟨_,rfl,r⟩
 |_,_,i+1,x,.cons _ t,e=>by obtain⟨u,b,a⟩:=ZJ.get t (by simpa using e);exact⟨u,by simpa using b,a⟩
theorem ZJ.set(r:ZG x u):∀{xs:List V}{us:yB} (i:Nat),ZJ xs us->ZJ (xs.set i x) (us.set i u)
 |_,_,_,.nil=>.nil
 |_,_,0,.cons _ t=>.cons r t
 |_,_,i+1,.cons q t=>.cons q (ZJ.set r i t)
theorem ZJ.append:∀{xs ys:List V}{us ws:yB},ZJ xs us->ZJ ys ws->ZJ (xs++ys) (us++ws)
 |_,_,_,_,.nil,s=>s
 |_,_,_,_,.cons r t,s=>.cons r (ZJ.append t s)
theorem ZJ.take:∀{xs:List V}{us:yB} (n:Nat),ZJ xs us->ZJ (xs.take n) (us.take n)
 |_,_,0,_=>.nil
 |_,_,_+1,.nil=>.nil
 |_,_,n+1,.cons r t=>.cons r (ZJ.take n t)
theorem ZJ.drop:∀{xs:List V}{us:yB} (n:Nat),ZJ xs us->ZJ (xs.drop n) (us.drop n)
 |_,_,0,r=>r
 |_,_,_+1,.nil=>.nil
 |_,_,n+1,.cons _ t=>ZJ.drop n t
def Yh:Option V->yF->Prop
 |some v,Z9 u=>ZG v u
 |none,Z8=>True
 |_,_=>False
def KV{a:Type}:List (a×V)->List (a×yT)->Prop:=mH fun(p:a×V) (q:a×yT)=>p.1=q.1/\ZG p.2 q.2
def kV:Zz->V
 |.inl i=>.int i
 |.inr x=>.str x
set_option genInjectivity true in
inductive HO where
 /-- a list -/
 |lst (xs:List V)
 /-- a tuple (never changes) -/
 |tup (xs:List V)
 /-- a dict whose keys are ints and texts;one whose keys are tuples of ints and texts (the empty one is both) -/
 |dK (kvs:List (Zz×V))| dT (kvs:List (List Zz×V))
 /-- a set of ints: its members,its size -/
 |set (S:Int->Bool) (n:Nat)
 /-- an instance of the class at C,its dict at dx,its attributes -/
 |ins (C dx:yR) (fs:List (Str×V))
 /-- the dict of the instance at x -/
 |own (x:yR)
 /-- the dict of an exception -/
 |xd (fs:List (Str×V))
 /-- a bound method,f of x -/
 |met (f x:yR)
 /-- a range object lo,lo+1,.. below hi -/
 |rng (lo hi:Int)
 /-- a thing that is known to the object (the script;a dict while a loop walks it): read,never written while it is so -/
 |frz (o:Obj) (u:HO)
 /-- a code object's table -/
 |tbl (ps:yJ)
 /-- any other thing,by what is Z7 of its one object (a def of one's own: SetO a S n:=HO.ext λh=>..) -/
 |ext (φ:y9->Prop)
abbrev Hp:=yR->Option HO
def ZF(H:Hp)(a:yR)(o:HO):Hp:=λb=>if b=a then Z9 o else H b
theorem Yx:ZF H a o a=Z9 o:=by unfold ZF;rw[if_pos rfl]
theorem Y2(h:b≠a):ZF H a o b=H b:=by unfold ZF;rw[if_neg h]
theorem Ml:ZF (ZF H a o) a u=ZF H a u:=by funext b;unfold ZF;split<;>rfl
theorem AH{H:Hp}(h:H a=Z9 o)(h':H b=Z9 u)(d:o≠u):a≠b:=by grind
theorem Vb{H:Hp}(h:H a=Z9 o)(h':H b=Z8):a≠b:=by grind
section
variable (P:yX) (w:y8)
def XE(H:Hp)(h:y9)(a:yR):HO->Prop
 |.lst d=>d.length<=yV/\∃(c:yB) (n:Nat),ZJ d c/\h.get? a=Z9 { cls:=.type "list",data:=.seq c.toArray n }
 |.tup d=>d.length<=yV/\∃c:yB,ZJ d c/\dH h a c.toArray
 |.dK b=>b.length<=yV/\(a == jZ)=Z5/\∃k,KV b k/\h.DictOf (Yp P w) a k
 |.dT b=>b.length<=yV/\(a == jZ)=Z5/\∃d:List (List Zz×yR×yT),
   mH (fun(p:List Zz×V) (q:List Zz×yR×yT)=>p.1=q.1/\H q.2.1=Z9 (.tup (p.1.map kV))/\ZG p.2 q.2.2) b d /\
   ∃o j r,h.get? a=Z9 o/\o.ExactDict/\o.data=.dict j r/\j.toList=d.map (entryOfKey (mW (Yp P w)))/\(d.map (·.1)).Nodup
 |.set S n=>h.SetOf (intKind P w) a S n
 |.ins C g fs=>H g=Z9 (.own a)/\fs.length<=1000/\g≠a/\h.get? a=Z9 (wC C g) /\
   ∃e,h.Ns1 g e/\(∀f,Yh (fs.lookup f) (e f))/\dI e (fs.map (·.1))
 |.own _=>∃o,h.get? a=Z9 o
 |.xd fs=>∃e,h.Ns1 a e/\∀f,Yh (fs.lookup f) (e f)
 |.rng s z=>∃t u v,h.get? a=Z9 { cls:=.type "range",data:=.fields #[.int s t,.int z u,.int 1 v] }
 |.frz o u=>h.get? a=Z9 o/\XE H h a u
 |.tbl y=>h.get? a=Z9 { cls:=.none,data:=.fields y }
 |.met f x=>h.get? a=Z9 (W.methodObj (.ref f) (.ref x))
 |.ext i=>i h/\(∃o,h.get? a=Z9 o)/\∀l m:y9,i l->(∀o,l.get? a=Z9 o->m.get? a=Z9 o)->i m
def Ye(H:Hp)(h:y9):Prop:=∀a o,H a=Z9 o->XE P w H h a o
end
section
variable {P:yX}{w:y8}{H H':Hp}{h h':y9}{a:yR}{o:HO}
theorem XE.lt(x:XE P w H h a o):a<h.objs.size:=by
 cases o with
 |lst c=>obtain⟨_,_,_,_,e⟩:=x;exact qB1 e
 |tup c=>obtain⟨_,_,_,p⟩:=x;exact p.lt
 |dK b=>obtain⟨_,_,_,_,o,_,_,e,_⟩:=x;exact qB1 e
 |dT b=>obtain⟨_,_,_,_,o,_,_,e,_⟩:=x;exact qB1 e
 |set S n=>obtain⟨o,_,_,_,e,_⟩:=x;exact qB1 e
 |ins C i fs=>obtain⟨_,_,_,e,_⟩:=x;exact qB1 e
 |own y=>obtain⟨_,e⟩:=x;exact qB1 e
 |xd fs=>obtain⟨_,⟨_,_,_,e,_⟩,_⟩:=x;exact qB1 e
 |rng g k=>obtain⟨_,_,_,e⟩:=x;exact qB1 e
 |frz l u=>obtain⟨e,_⟩:=x;exact qB1 e
 |tbl j=>exact qB1 (x)
 |met f y=>exact qB1 (x)
 |ext d=>obtain⟨_,⟨_,e⟩,_⟩:=x;exact qB1 e
theorem Paired.mapP{e d:Type}{F G:e->d->Prop}:∀{c:List e}{l₂:List d},mH F c l₂->(∀a b,F a b->G a b)->mH G c l₂
 |_,_,.nil,_=>.nil
 |_,_,.cons r t,f=>.cons (f _ _ r) (Paired.mapP t f)
theorem XE.stay(x:XE P w H h a o)(k:∀b u,(b=a∨H b=Z9 (.own a))->h.get? b=Z9 u->h'.get? b=Z9 u)
  (I:∀b,H b=Z9 (.own a)->H' b=Z9 (.own a)) (E:∀b xs,H b=Z9 (.tup xs)->H' b=Z9 (.tup xs)):XE P w H' h' a o:=by
 induction o with
 |lst xs=>obtain⟨z,l,n,r,e⟩:=x;exact⟨z,l,n,r,k _ _ (.inl rfl) e⟩
 |tup xs=>obtain⟨z,l,r,g,e,c⟩:=x;exact⟨z,l,r,g,k _ _ (.inl rfl) e,c⟩
 |dK m=>obtain⟨z,y,F,r,g,j,i,e,c⟩:=x;exact⟨z,y,F,r,g,j,i,k _ _ (.inl rfl) e,c⟩
 |dT m =>
  obtain⟨z,y,xs,r,g,j,i,e,c⟩:=x;exact⟨z,y,xs,Paired.mapP r λp q z=>⟨z.1,E _ _ z.2.1,z.2.2⟩,g,j,i,k _ _ (.inl rfl) e,c⟩
 |set S n=>obtain⟨g,j,i,t,e,c⟩:=x;exact⟨g,j,i,t,k _ _ (.inl rfl) e,c⟩
 |ins C N fs =>
  obtain⟨d,z,ne,e,s,⟨A,j,i,D,c⟩,r⟩:=x;exact⟨I _ d,z,ne,k _ _ (.inl rfl) e,s,⟨A,j,i,k _ _ (.inr d) D,c⟩,r⟩
 |own y=>obtain⟨g,e⟩:=x;exact⟨g,k _ _ (.inl rfl) e⟩
 |xd fs=>obtain⟨s,⟨A,j,i,e,c⟩,r⟩:=x;exact⟨s,⟨A,j,i,k _ _ (.inl rfl) e,c⟩,r⟩
 |rng J M=>obtain⟨t,u,v,e⟩:=x;exact⟨t,u,v,k _ _ (.inl rfl) e⟩
 |frz g u G=>obtain⟨e,q⟩:=x;exact⟨k _ _ (.inl rfl) e,G q⟩
 |tbl K =>
  have e:=x;exact k a _ (.inl rfl) e
 |met f y =>
  have e:=x;exact k a _ (.inl rfl) e
 |ext L=>obtain⟨p,⟨o,e⟩,B⟩:=x;exact⟨B _ _ p λo q=>k _ _ (.inl rfl) q,⟨o,k _ _ (.inl rfl) e⟩,B⟩
theorem Ye.lt(x:Ye P w H h)(e:H a=Z9 o):a<h.objs.size:=(x a o e).lt
theorem Ye.fresh(x:Ye P w H h)(e:h.objs.size<=a):H a=Z8:=by
 cases q:H a with
 |none=>rfl
 |some u=>exact absurd (qB7 (x.lt q) e) (qI3 _)
theorem Ye.kept(x:Ye P w H h)(k:∀b u,h.get? b=Z9 u->h'.get? b=Z9 u):Ye P w H h':=λa o e =>
 (x a o e).stay (λb u _ q=>k b u q) (λ_ q=>q) λ_ _ q=>q
theorem Ye.laid(x:Ye P w H h)(k:∀b u,h.get? b=Z9 u->h'.get? b=Z9 u)(i:h.objs.size<=a)(d:XE P w (ZF H a o) h' a o):Ye P w (ZF H a o) h':=λb u e=>by
 have g:=x.fresh i;by_cases f:b=a
 .subst f;rw[Yx]at e;cases e;exact d
 .rw[Y2 f]at e;exact(x b u e).stay (λc v _ q=>k c v q) (λc q=>by rw[Y2 (Vb q g)];exact q) λc j q=>by rw[Y2 (Vb q g)];exact q
end
def Rd(H:Hp)(a:yR)(u:HO):Prop:=H a=Z9 u∨∃o,H a=Z9 (.frz o u)
theorem Rd.ok(r:Rd H a u)(x:Ye P w H h):XE P w H h a u:=by
 rcases r with r|⟨o,r⟩
 .exact x a u r
 .obtain⟨_,q⟩:=x a _ r;exact q
def SZ:Option HO->Prop
 |some (.lst _)=>True
 |some (.dK _)=>True
 |some (.dT _)=>True
 |some (.set _ _)=>True
 |some (.ins _ _ _)=>True
 |some (.ext _)=>True
 |_=>False
section
variable {P:yX}{w:y8}{H:Hp}{h h':y9}{x e:yR}{o':HO}
theorem Ye.write(ok:Ye P w H h)(g:SZ (H x))(he:e=x∨H e=Z9 (.own x))(k:∀b u,b≠e->h.get? b=Z9 u->h'.get? b=Z9 u)(l:∃u,h'.get? e=Z9 u)
  (j:XE P w (ZF H x o') h' x o'):Ye P w (ZF H x o') h':=λb u q=>by
 have d:∀c y,H c=Z9 (.own y)->c≠x:=λc y r z=>by subst z;rw[r]at g;exact g
 have f:∀c i,H c=Z9 (.tup i)->c≠x:=λc i r z=>by subst z;rw[r]at g;exact g
 by_cases m:b=x
 .subst m;rw[Yx]at q;cases q;exact j
 .rw[Y2 m]at q;by_cases a:b=e
  .have o:H b=Z9 (.own x):=by
    rcases he with z|z
    .exact absurd (a.trans z) m
    .rw[a];exact z
   rw[q]at o;cases o;obtain⟨v,hv⟩:=l;exact⟨v,by rw[a];exact hv⟩
  .refine(ok b u q).stay (λc v n r=>k c v ?_ r) (λc r=>by rw[Y2 (d c b r)];exact r) λc i r=>by rw[Y2 (f c i r)];exact r
   rcases n with rfl|n
   .exact a
   .rintro rfl;rcases he with z|z
    .exact d c b n z
    .simp_all
end
structure Un(fs ex:yC)(H H':Hp)(h h':y9):Prop where
 keep:∀b o,h.get? b=Z9 o->H b=Z8->b∉fs->b∉ex->h'.get? b=Z9 o
 slot:∀b o,h.get? b=Z9 o->H b=Z8->b∈fs->b∉ex->∃sl,h'.get? b=Z9 { o with slots:=sl }
 free:∀b o,h.get? b=Z9 o->H b=Z8->b∉ex->H' b=Z8
 there:∀b o,h.get? b=Z9 o->b∉ex->∃o',h'.get? b=Z9 o'
 tups:∀b xs,H b=Z9 (.tup xs)->H' b=Z9 (.tup xs)
 frzs:∀b o u,H b=Z9 (.frz o u)->H' b=Z9 (.frz o u)
 tbls:∀b ps,H b=Z9 (.tbl ps)->∃more,H' b=Z9 (.tbl (ps++more))
section
variable {fs fs' ex ex':yC}{H H1 H2:Hp}{h h1 h2 h':y9}{a x e:yR}{o:HO}
theorem Un.any(u:Un fs ex H H1 h h1)(q:h.get? b=Z9 c)(n:H b=Z8)(f:b∉ex):∃g,h1.get? b=Z9 { c with slots:=g }:=by
 by_cases d:b∈fs
 .exact u.slot b c q n d f
 .exact⟨c.slots,u.keep b c q n d f⟩
theorem Un.kept(k:∀b u,h.get? b=Z9 u->h'.get? b=Z9 u):Un fs ex H H h h' :=
 ⟨λb c q _ _ _=>k b c q,λb c q _ _ _=>⟨c.slots,k b c q⟩,λ_ _ _ n _=>n,λb c q _=>⟨c,k b c q⟩,λ_ _ q=>q,λ_ _ _ q=>q,λ_ d q=>⟨#[],by rw[q];simp⟩⟩
theorem Un.refl:Un fs ex H H h h:=Un.kept λ_ _ q=>q
theorem Un.laid(k:∀b u,h.get? b=Z9 u->h'.get? b=Z9 u)(f:h.objs.size<=a)(c:H a=Z8):Un fs ex H (ZF H a o) h h' where
 keep:=λb u q _ _ _=>k b u q
 slot:=λb u q _ _ _=>⟨u.slots,k b u q⟩
 free:=λb u q n _=>by rw[Y2 (qB9 (qB7 (qB1 q) f))];exact n
 there:=λb u q _=>⟨u,k b u q⟩
 tups:=λb d q=>by rw[Y2 (Vb q c)];exact q
 frzs:=λb u d q=>by rw[Y2 (Vb q c)];exact q
 tbls:=λb g q=>⟨#[],by rw[Y2 (Vb q c),q];simp⟩
theorem Un.write(d:SZ (H x))(he:e=x∨H e=Z9 (.own x))(k:∀b u,b≠e->h.get? b=Z9 u->h'.get? b=Z9 u)(f:∃u,h'.get? e=Z9 u):Un fs ex H (ZF H x o) h h':=by
 have j:∀b,H b=Z8->b≠x:=λb n z=>by subst z;rw[n]at d;exact d
 have i:∀b,H b=Z8->b≠e:=λb n z=>by
  subst z;rcases he with r|r
  .exact j b n r
  .rw[n]at r;cases r
 have g:∀b u,H b=Z9 u->¬SZ (Z9 u)->b≠x:=λb u q l z=>by subst z;rw[q]at d;exact l d
 refine⟨λb u q n _ _=>k b u (i b n) q,λb u q n _ _=>⟨u.slots,k b u (i b n) q⟩,λb u q n _=>by rw[Y2 (j b n)];exact n,λb u q _=>?_,
  λb m q=>by rw[Y2 (g b _ q λz=>z)];exact q,λb u m q=>by rw[Y2 (g b _ q λz=>z)];exact q,λb p q=>⟨#[],by rw[Y2 (g b _ q λz=>z),q];simp⟩⟩
 by_cases c:b=e
 .subst c;exact f
 .exact⟨u,k b u c q⟩
end
def OB(h:y9)(H:Hp):yC:=(List.range h.objs.size).filter λa=>(H a).isSome
def W3(h:y9)(H:Hp):Heap:=W.hideAll h (OB h H)
theorem AG(h:y9)(H:Hp):(W3 h H).objs.size=h.objs.size:=W.hideAll_size _ _
theorem AF(e:h.get? b=Z9 o)(n:H b=Z8):(W3 h H).get? b=Z9 o :=
 W.hideAll_get _ e λa=>by have q:=(qF1.mp a).2;rw[n]at q;simp at q
theorem AE(e:(W3 h H).get? b=Z9 o):h.get? b=Z9 o/\H b=Z8:=by
 have a:=W.of_hideAll (OB h H) e;refine⟨a,?_⟩;cases q:H b with
 |none=>rfl
 |some x =>
  have c:b∈OB h H:=qF1.mpr ⟨qI8.mpr (qB1 a),by simp[q]⟩;have z:(W3 h H).get? b=Z8:=W.hideAll_none (OB h H) c;rw[z]at e;cases e
def AD(g h:y9)(L:yR):yD:=(List.range h.objs.size).filterMap λa=>if a=L∨(g.get? a).isSome=Z7 then Z8 else(h.get? a).map λo=>(a,o)
def Zm(g h:y9)(L d:yR):yD:=(AD g h L).filter λp=>decide (p.1≠d)
structure Mod(K:yQ)(mg:Str->yF)(base:y9):Prop where
 kin:K.In base
 glob:base.Ns jC mg
 blt:∃mb,base.Ns dE mb/\∀x:Str,x ≠ "__name__"->mb x=jA x
 nolimit:base.NoLimit
structure Cx where
 prog:yX
 w:y8
 K:yQ
 mg:Str->yF
 base:y9
 A:y7
 N:yH
 s₀:yS
 H₀:Hp
 env:Env
 outer:List Env
 stack:List Env
 ex:yC
 fn:Str->Bool
 calm:Bool
 pn:yD
 xe:yL
def Va(l:List Env):yC:=l.filterMap (·.frame)
abbrev Cx.fs(X:Cx):yC:=Va X.outer
def OA(a:vK)(x:Str):Prop:=a.names.lookup x=Z9 .local∨a.names.lookup x=Z9 .cell∨a.names.lookup x=Z9 .free
def RK(a:vK)(x:Str):Prop:=a.names.lookup x=Z9 .local∨a.names.lookup x=Z9 .cell
def Mj(env:Env)(h:y9)(m:Str->yF)(x:Str)(u:yT):Prop :=
 (env.kindOf x=Z9 .local/\m x=Z9 u)∨((env.kindOf x=Z9 .cell∨env.kindOf x=Z9 .free)/\∃c,env.cells.lookup x=Z9 c/\h.IsCell c (Z9 u))
structure Cx.Ok(X:Cx):Prop where
 mod:Mod X.K X.mg X.base
 kind:X.env.scope.kind=.function
 glob:X.env.globals=jC
 blt:X.env.builtins=dE
 above:X.s₀.heap.objs.size<=X.env.locals
 inj:∀x y c,X.env.cells.lookup x=Z9 c->X.env.cells.lookup y=Z9 c->x=y
 has:∀x,(X.env.kindOf x=Z9 .cell∨X.env.kindOf x=Z9 .free)->∃c,X.env.cells.lookup x=Z9 c
 cab:∀x c,X.fn x=Z7->X.env.cells.lookup x=Z9 c->X.s₀.heap.objs.size<=c
 hd:X.calm=Z7->X.A.handled=Z8
 frames:X.A.frames=Z9 X.stack
 stk:X.stack=X.outer∨(X.stack=X.env::X.outer/\X.env.frame=Z9 X.env.locals)
 exf:∀b∈X.ex,b≠X.env.locals/\∀x c,X.env.cells.lookup x=Z9 c->c≠b
 bs:∀b o,X.base.get? b=Z9 o->X.s₀.heap.get? b=Z9 o/\X.H₀ b=Z8
 bsz:X.base.objs.size<=X.s₀.heap.objs.size
 noex:∀b o,X.base.get? b=Z9 o->b∉X.ex
 exfs:∀b∈X.ex,b∉X.fs
 funs:X.s₀.heap.FunFrames X.base X.outer
 frf:∀b∈X.fs,X.H₀ b=Z8
structure ZO(X:Cx)(pins:yD)(Z:List (Option V))(H:Hp)(s:yS):Prop where
 ok:X.Ok
 os:s.os=X.s₀.os
 bare:gQ s.gens
 base:Un X.fs X.ex X.H₀ H X.s₀.heap s.heap
 loc:∃m,s.heap.Ns X.env.locals m/\∀(i:Nat) (x:Str) (v:V),X.N[i]?=Z9 x->Z[i]?=Z9 (Z9 v)->OA X.env.scope x->∃u,ZG v u/\Mj X.env s.heap m x u
 cell:∀x c,X.env.cells.lookup x=Z9 c->∃v,s.heap.IsCell c v
 free:H X.env.locals=Z8
 freeC:∀x c,X.env.cells.lookup x=Z9 c->H c=Z8
 pin:∀p∈X.pn++pins,s.heap.get? p.1=Z9 p.2/\H p.1=Z8/\p.1≠X.env.locals/\p.1∉X.fs/\∀v,p.2.data≠.cell v
 hok:Ye X.prog X.w H s.heap
 len:Z.length=X.N.length
section
variable {X:Cx}{pins:yD}{Z:List (Option V)}{H H':Hp}{s:yS}{h':y9}
theorem Cx.Ok.nofr(ok:X.Ok)(e:X.base.get? b=Z9 o):b∉X.fs:=λa=>by have:=(ok.funs.mem a).1;rw[e]at this;cases this
theorem ZO.bs(I:ZO X pins Z H s):∀b o,X.base.get? b=Z9 o->s.heap.get? b=Z9 o/\H b=Z8:=λb o e =>
 ⟨I.base.keep b o (I.ok.bs b o e).1 (I.ok.bs b o e).2 (I.ok.nofr e) (I.ok.noex b o e),I.base.free b o (I.ok.bs b o e).1 (I.ok.bs b o e).2 (I.ok.noex b o e)⟩
theorem ZO.bk(I:ZO X pins Z H s):∀b o,X.base.get? b=Z9 o->s.heap.get? b=Z9 o:=λb o e=>(I.bs b o e).1
theorem ZO.mod(I:ZO X pins Z H s):Mod X.K X.mg X.base:=I.ok.mod
theorem ZO.kIn(I:ZO X pins Z H s):X.K.In s.heap:=I.ok.mod.kin.keeps I.bk
theorem ZO.lt(I:ZO X pins Z H s):X.env.locals<s.heap.objs.size:=let ⟨_,hn,_⟩:=I.loc;hn.lt
theorem ZO.sz(I:ZO X pins Z H s):X.s₀.heap.objs.size<=s.heap.objs.size:=qC5 I.ok.above (qF4 I.lt)
theorem ZO.nofs(I:ZO X pins Z H s){a:yR}(h:s.heap.objs.size<=a):a∉X.fs:=λb=>by obtain⟨_,o,c,_⟩:=I.ok.funs.mem b;exact absurd (qB7 (qB1 c) (qC5 I.sz h)) (qI3 _)
theorem ZO.cne(I:ZO X pins Z H s):∀x c,X.env.cells.lookup x=Z9 c->c≠X.env.locals:=λx c e z=>by obtain⟨v,o,f,d⟩:=I.cell x c e;obtain⟨m,⟨h,i,g,b,a,_⟩,_⟩:=I.loc;rw[z,b]at f;cases f;rw[a]at d;cases d
theorem ZO.funs(I:ZO X pins Z H s):s.heap.FunFrames X.base X.outer:=by
 have all:∀l,(∀b∈Va l,b∈X.fs)->X.s₀.heap.FunFrames X.base l->s.heap.FunFrames X.base l:=by
  intro l
  induction l with
  |nil=>intro _ _;trivial
  |cons j r m =>
   intro f h;obtain⟨hk,⟨L,o,c,k,n,g⟩,i⟩:=h;have a:=f L (by unfold Va;rw[qF8,c];exact qC9);obtain⟨p,e⟩:=I.base.slot L o n (I.ok.frf L a) a λz=>I.ok.exfs L z a;exact⟨hk,⟨L,_,c,k,e,g⟩,m (λb d=>f b (by unfold Va;rw[qF8,c];exact qC4 _ d)) i⟩
 exact all X.outer (λ_ d=>d) I.ok.funs
theorem ZO.stack(I:ZO X pins Z H s):s.heap.FunFrames X.base X.stack:=by
 rcases I.ok.stk with e|⟨e,b⟩
 .rw[e];exact I.funs
 .rw[e];obtain⟨m,a,_⟩:=I.loc;refine .cons (by rw[I.ok.kind];decide) b a ?_ I.funs;exact Heap.get?_none_of_le (qC5 I.ok.bsz I.ok.above)
theorem ZO.stkSub(I:ZO X pins Z H s):∀b∈Va X.stack,b∈X.env.locals::X.fs:=λb a=>by
 rcases I.ok.stk with e|⟨e,c⟩
 .rw[e]at a;exact qC4 _ a
 .rw[e]at a;unfold Va at a;rw[qF8,c]at a;exact a
theorem ZO.stkFree(I:ZO X pins Z H s):∀b∈Va X.stack,H b=Z8:=λb a=>by
 rcases qC0.mp (I.stkSub b a)with e|a
 .rw[e];exact I.free
 .obtain⟨_,o,c,_⟩:=I.ok.funs.mem a;exact I.base.free b o c (I.ok.frf b a) λz=>I.ok.exfs b z a
theorem ZO.step{ch:yC}(I:ZO X pins Z H s)
  (g:∀b∈ch,(b∈X.ex∨X.s₀.heap.objs.size<=b)/\b≠X.env.locals/\(∀x c,X.env.cells.lookup x=Z9 c->c≠b)/\∀p∈X.pn++pins,p.1≠b)
  (keep:∀b o,b≠X.env.locals->b∉X.fs->b∉ch->s.heap.get? b=Z9 o->H b=Z8->h'.get? b=Z9 o)
  (y:∀b o,b≠X.env.locals->b∈X.fs->b∉ch->s.heap.get? b=Z9 o->H b=Z8->∃L,h'.get? b=Z9 { o with slots:=L }) (f:∀b o,b∉ch->s.heap.get? b=Z9 o->H b=Z8->H' b=Z8)
  (B:∀b o,b∉ch->s.heap.get? b=Z9 o->∃o',h'.get? b=Z9 o')
  (G:∀b xs,H b=Z9 (.tup xs)->H' b=Z9 (.tup xs)) (J:∀b o u,H b=Z9 (.frz o u)->H' b=Z9 (.frz o u)) (E:∀b ps,H b=Z9 (.tbl ps)->∃more,H' b=Z9 (.tbl (ps++more)))
  (ns:∀m,s.heap.Ns X.env.locals m->h'.Ns X.env.locals m) (M:Ye X.prog X.w H' h') (Y:gQ g') :
  ZO X pins Z H' { s with heap:=h',gens:=g',drawn:=d',toks:=t' }:=by
 have F:∀b o,X.s₀.heap.get? b=Z9 o->b≠X.env.locals:=λb o e=>qB9 (qB7 (qB1 e) I.ok.above);have t:∀b o,X.s₀.heap.get? b=Z9 o->b∉X.ex->b∉ch:=λb o e a A=>by
  rcases(g b A).1 with z|z
  .exact a z
  .exact absurd (qB7 (qB1 e) z) (qI3 _)
 have h:∀x c,X.env.cells.lookup x=Z9 c->∀v,s.heap.IsCell c v->h'.IsCell c v:=λx c e v ⟨o,C,K⟩=>by
  have j:=λz=>(g c z).2.2.1 x c e rfl;by_cases Q:c∈X.fs
  .obtain⟨L,q⟩:=y c o (I.cne x c e) Q j C (I.freeC x c e);exact⟨_,q,K⟩
  .exact⟨o,keep c o (I.cne x c e) Q j C (I.freeC x c e),K⟩
 refine⟨I.ok,I.os,Y,⟨λb o e n A a=>?_,λb o e n A a=>?_,λb o e n a=>?_,λb o e a=>?_,λb xs e=>G b xs (I.base.tups b xs e),λb o xs e=>J b o xs (I.base.frzs b o xs e),λb ps e=>?_⟩,?_,λx c e=>?_,?_,λx c e=>?_,λp O=>?_,M,I.len⟩
 .exact keep b o (F b o e) A (t b o e a) (I.base.keep b o e n A a) (I.base.free b o e n a)
 .obtain⟨L,w⟩:=I.base.slot b o e n A a;obtain⟨N,D⟩:=y b _ (F b o e) A (t b o e a) w (I.base.free b o e n a);exact⟨N,D⟩
 .obtain⟨o',w⟩:=I.base.there b o e a;exact f b o' (t b o e a) w (I.base.free b o e n a)
 .obtain⟨o',w⟩:=I.base.there b o e a;exact B b o' (t b o e a) w
 .obtain⟨W,w⟩:=I.base.tbls b ps e;obtain⟨R,D⟩:=E b _ w;exact⟨W++R,by rw[D,Array.append_assoc]⟩
 .obtain⟨m,U,T⟩:=I.loc;refine⟨m,ns m U,λi x v w D S=>?_⟩;obtain⟨u,r,l⟩:=T i x v w D S;refine⟨u,r,?_⟩;rcases l with l|⟨k,c,e,z⟩
  .exact .inl l
  .exact .inr ⟨k,c,e,h x c e _ z⟩
 .obtain⟨v,z⟩:=I.cell x c e;exact⟨v,h x c e v z⟩
 .obtain⟨m,⟨o,_,_,C,_⟩,_⟩:=I.loc;exact f _ o (λz=>(g _ z).2.1 rfl) C I.free
 .obtain⟨v,o,C,K⟩:=I.cell x c e;exact f c o (λz=>(g c z).2.2.1 x c e rfl) C (I.freeC x c e)
 .obtain⟨e,n,ne,P,d⟩:=I.pin p O;have j:=λz=>(g p.1 z).2.2.2 p O rfl;exact⟨keep p.1 p.2 ne P j e n,f p.1 p.2 j e n,ne,P,d⟩
theorem ZO.un(I:ZO X pins Z H s)(u:Un X.fs [] H H' s.heap h')(g:Ye X.prog X.w H' h'):ZO X pins Z H' { s with heap:=h',toks:=t' }:=by
 obtain⟨m,⟨o,t,l,h,r⟩,_⟩:=id I.loc;obtain⟨p,i⟩:=u.any h I.free (by simp);exact I.step (g':=s.gens) (d':=s.drawn) (ch:=[]) (λ_ z=>nomatch z) (λb o _ f _ e n=>u.keep b o e n f (by simp)) (λb o _ f _ e n=>u.slot b o e n f (by simp)) (λb o _ e n=>u.free b o e n (by simp)) (λb o _ e=>u.there b o e (by simp)) u.tups u.frzs u.tbls (λv k=>by
  obtain⟨q,d,c,a,j⟩:=k;rw[h]at a;cases a;exact⟨_,d,c,i,j⟩) g I.bare
theorem ZO.call(I:ZO X pins Z H s)(u:Un (Va X.stack) ch H H' s.heap h')(j:Ye X.prog X.w H' h')(v:gQ g')
  (d:∀b∈ch,(b∈X.ex∨X.s₀.heap.objs.size<=b)/\b≠X.env.locals/\(∀x c,X.env.cells.lookup x=Z9 c->c≠b)/\∀p∈X.pn++pins,p.1≠b) :
  ZO X pins Z H' { s with heap:=h',gens:=g',drawn:=d',toks:=t' }:=by
 obtain⟨m,⟨o,B,w,k,r⟩,_⟩:=id I.loc;obtain⟨y,i⟩:=u.any k I.free λz=>(d _ z).2.1 rfl;exact I.step d (λb o i t a e n=>u.keep b o e n (λz=>(qC0.mp (I.stkSub b z)).elim i t) a) (λb o _ _ a e n=>u.any e n a) (λb o a e n=>u.free b o e n a) (λb o a e=>u.there b o e a) u.tups u.frzs u.tbls (λC q=>by
  obtain⟨A,h,g,f,l⟩:=q;rw[k]at f;cases f;exact⟨_,h,g,i,l⟩) j v
theorem ZO.turned(I:ZO X pins Z H s)(k:∀b o,b≠it->s.heap.get? b=Z9 o->h'.get? b=Z9 o)(j:H it=Z8)(f:it≠X.env.locals)
  (t:it∈X.ex∨X.s₀.heap.objs.size<=it) (y:∀x c,X.env.cells.lookup x=Z9 c->c≠it) (g:∀p∈X.pn++pins,p.1≠it):ZO X pins Z H { s with heap:=h',toks:=t' }:=by
 have d:∀b u,H b=Z9 u->b≠it:=λb u e z=>by rw[z,j]at e;cases e
 refine I.step (g':=s.gens) (d':=s.drawn) (ch:=[it]) (λb w=>?_) (λb o _ _ a e _=>k b o (λz=>a (by simp[z])) e) (λb o _ _ a e _=>⟨o.slots,k b o (λz=>a (by simp[z])) e⟩) (λ_ _ _ _ n=>n)
  (λb o a e=>⟨o,k b o (λz=>a (by simp[z])) e⟩) (λ_ _ e=>e) (λ_ _ _ e=>e) (λb B e=>⟨#[],by rw[e];simp⟩) (λm l=>?_) (λb u e=>?_) I.bare
 .have e:=by simpa using w
  subst e;exact⟨t,f,y,g⟩
 .obtain⟨o,i,h,A,r⟩:=l;exact⟨o,i,h,k _ o (Ne.symm f) A,r⟩
 .refine(I.hok b u e).stay (λc v a q=>k c v ?_ q) (λ_ q=>q) λ_ _ q=>q;rcases a with z|z
  .rw[z];exact d b u e
  .exact d c _ z
theorem ZO.tok(I:ZO X pins Z H s)(t:Nat):ZO X pins Z H { s with toks:=t }:=I.un (h':=s.heap) (t':=t) Un.refl I.hok
theorem ZO.kept(I:ZO X pins Z H s)(k:∀b u,s.heap.get? b=Z9 u->h'.get? b=Z9 u):ZO X pins Z H { s with heap:=h',toks:=t' }:=I.un (Un.kept k) (I.hok.kept k)
theorem ZO.laid{a:yR}(I:ZO X pins Z H s)(k:∀b u,s.heap.get? b=Z9 u->h'.get? b=Z9 u)(d:s.heap.objs.size<=a)(c:XE X.prog X.w (ZF H a o) h' a o):
  ZO X pins Z (ZF H a o) { s with heap:=h',toks:=t' }:=I.un (Un.laid k d (I.hok.fresh d)) (I.hok.laid k d c)
theorem ZO.write(I:ZO X pins Z H s)(d:SZ (H x))(he:e=x∨H e=Z9 (.own x))(k:∀b u,b≠e->s.heap.get? b=Z9 u->h'.get? b=Z9 u)(a:∃u,h'.get? e=Z9 u)
  (c:XE X.prog X.w (ZF H x o) h' x o):ZO X pins Z (ZF H x o) { s with heap:=h',toks:=t' }:=I.un (Un.write d he k a) (I.hok.write d he k a c)
theorem ZO.weak(I:ZO X pins Z H s)(b:a.length=Z.length)(w:∀(i:Nat) v,a[i]?=Z9 (Z9 v)->Z[i]?=Z9 (Z9 v)):ZO X pins a H s :=
 ⟨I.ok,I.os,I.bare,I.base,let ⟨m,hn,hl'⟩:=I.loc;⟨m,hn,λi x v e d c=>hl' i x v e (w i v d) c⟩,I.cell,I.free,I.freeC,I.pin,I.hok,b.trans I.len⟩
theorem ZO.pins_of(I:ZO X pins Z H s)(h:∀p∈a,s.heap.get? p.1=Z9 p.2/\H p.1=Z8/\p.1≠X.env.locals/\p.1∉X.fs/\∀v,p.2.data≠.cell v):ZO X a Z H s :=
 ⟨I.ok,I.os,I.bare,I.base,I.loc,I.cell,I.free,I.freeC,λp b=>(qC3.mp b).elim (λz=>I.pin p (qD3 _ z)) (h p),I.hok,I.len⟩
theorem GJ{N:yH}(e:N.Nodup){i j:Nat}(a:N[i]?=Z9 x)(b:N[j]?=Z9 x):i=j:=by obtain⟨g,d⟩:=qA5.mp a;obtain⟨f,c⟩:=qA5.mp b;exact(List.getElem_inj e).mp (d.trans c.symm)
theorem AC{E:yL}(I:ZO X pins Z H s)(hN:X.N.Nodup)(hi:X.N[i]?=Z9 x)(w:RK X.env.scope x)(r:ZG v u)
  (h:∀s',ZO X pins (Z.set i (Z9 v)) H s'->(∃a,qE3 a s.heap s'.heap/\(a=X.env.locals∨X.env.cells.lookup x=Z9 a))->Q () s') (hf:X.fn x=Z7∨X.env.scope.names.lookup x=Z9 .local:=by first|exact .inl rfl|exact .inr rfl|assumption):y2 M A (storeName X.env x u) Q E s:=by
 obtain⟨m,hn,hl⟩:=id I.loc;have L:(X.env.scope.kind == .class||(X.env.scope.kind == .module&&X.env.locals != X.env.globals))=Z5:=by rw[I.ok.kind];rfl
 have O:i<Z.length:=by rw[I.len];exact(qA5.mp hi).1
 have cne:=I.cne;have g:∀{a:yR}{h':y9},(∃o,s.heap.get? a=Z9 o/\H a=Z8)->qE3 a s.heap h'->Ye X.prog X.w H h':=λ{a h'} ha f b ob e=>by
  obtain⟨_,_,B⟩:=ha;refine(I.hok b ob e).stay (λc R t q=>(f.2 c ?_).trans q) (λ_ q=>q) λ_ _ q=>q;rintro rfl;rcases t with rfl|t
  .rw[B]at e;cases e
  .rw[B]at t;cases t
 rcases w with hk|hk
 .refine wpAny_storeName_local hk hn (λh' hn' f=>?_) L;obtain⟨oL,_,_,hoL,_⟩:=id hn;refine h _ ⟨I.ok,I.os,I.bare,⟨λb o e n G w=>?_,λb o e n G w=>?_,I.base.free,λb o e w=>?_,I.base.tups,I.base.frzs,I.base.tbls⟩,⟨_,hn',λj y v' l C W=>?_⟩,λy c e=>?_,I.free,I.freeC,λp hp=>?_,g ⟨oL,hoL,I.free⟩ f,by simpa using I.len⟩ ⟨_,f,.inl rfl⟩
  .exact(f.2 b (qB9 (qB7 (qB1 e) I.ok.above))).trans (I.base.keep b o e n G w)
  .obtain⟨U,l⟩:=I.base.slot b o e n G w;exact⟨U,(f.2 b (qB9 (qB7 (qB1 e) I.ok.above))).trans l⟩
  .obtain⟨o',l⟩:=I.base.there b o e w;exact⟨o',(f.2 b (qB9 (qB7 (qB1 e) I.ok.above))).trans l⟩
  .by_cases F:j=i
   .subst F;rw[hi]at l;cases l;rw[qD4 O]at C;cases C;exact⟨u,r,.inl ⟨hk,by simp⟩⟩
   .rw[qE1 (Ne.symm F)]at C;obtain⟨Y,T,q⟩:=hl j y v' l C W;refine⟨Y,T,?_⟩;rcases q with⟨k,e⟩| ⟨k,c,e,z⟩
    .refine .inl ⟨k,?_⟩;have:y≠x:=λe=>F (GJ hN l (e▸hi));simp[this,e]
    .exact .inr ⟨k,c,e,z.sameBut f (cne y c e)⟩
  .obtain⟨R,z⟩:=I.cell y c e;exact⟨R,z.sameBut f (cne y c e)⟩
  .obtain⟨e,n,ne,nf,d⟩:=I.pin p hp;exact⟨(f.2 p.1 ne).trans e,n,ne,nf,d⟩
 .have D:X.fn x=Z7:=by
   rcases hf with z|z
   .exact z
   .rw[z]at hk;cases hk
  obtain⟨c,t⟩:=I.ok.has x (.inl hk);obtain⟨R,z⟩:=I.cell x c t;refine wpAny_storeName_cell I.ok.kind hk t z (λh' P f=>?_);obtain⟨oc,J,N⟩:=id z;refine h { s with heap:=h' } ⟨I.ok,I.os,I.bare,⟨λb o e n G w=>?_,λb o e n G w=>?_,I.base.free,λb o e w=>?_,I.base.tups,I.base.frzs,I.base.tbls⟩,⟨m,hn.sameBut f (Ne.symm (cne x c t)),λj y v' l C W=>?_⟩,λy S e=>?_,I.free,I.freeC,λp hp=>?_,g ⟨oc,J,I.freeC x c t⟩ f,by simpa using I.len⟩ ⟨c,f,.inr t⟩
  .exact(f.2 b (qB9 (qB7 (qB1 e) (I.ok.cab x c D t)))).trans (I.base.keep b o e n G w)
  .obtain⟨U,l⟩:=I.base.slot b o e n G w;exact⟨U,(f.2 b (qB9 (qB7 (qB1 e) (I.ok.cab x c D t)))).trans l⟩
  .obtain⟨o',l⟩:=I.base.there b o e w;exact⟨o',(f.2 b (qB9 (qB7 (qB1 e) (I.ok.cab x c D t)))).trans l⟩
  .by_cases F:j=i
   .subst F;rw[hi]at l;cases l;rw[qD4 O]at C;cases C;exact⟨u,r,.inr ⟨.inl hk,c,t,P⟩⟩
   .rw[qE1 (Ne.symm F)]at C;obtain⟨Y,T,q⟩:=hl j y v' l C W;refine⟨Y,T,?_⟩;rcases q with q|⟨k,S,e,z'⟩
    .exact .inl q
    .refine .inr ⟨k,S,e,z'.sameBut f ?_⟩;rintro rfl;exact F (GJ hN l (I.ok.inj _ _ _ e t▸hi))
  .by_cases K:S=c
   .subst K;exact⟨_,P⟩
   .obtain⟨w2,z2⟩:=I.cell y S e;exact⟨w2,z2.sameBut f K⟩
  .obtain⟨e,n,ne,nf,d⟩:=I.pin p hp;refine⟨(f.2 p.1 ?_).trans e,n,ne,nf,d⟩;intro q;rw[q,J]at e;have q':=Option.some.inj e;exact d R (by rw[<- q'];exact N)
theorem Mi{E:yL}(I:ZO X pins Z H s)(d:X.N.Nodup)(hi:X.N[i]?=Z9 x)(b:RK X.env.scope x)(r:ZG v u)
  (h:∀s',ZO X pins (Z.set i (Z9 v)) H s'->Q () s') (c:X.fn x=Z7∨X.env.scope.names.lookup x=Z9 .local:=by first|exact .inl rfl|exact .inr rfl|assumption):y2 M A (storeName X.env x u) Q E s :=
 AC I d hi b r (λs' a _=>h s' a) c
theorem ZO.call'(I:ZO X pins Z H s)(h:s'.os=s.os)(u:Un (Va X.stack) ch H H' s.heap s'.heap)(d:Ye X.prog X.w H' s'.heap)(f:gQ s'.gens)
  (a:∀b∈ch,(b∈X.ex∨X.s₀.heap.objs.size<=b)/\b≠X.env.locals/\(∀x c,X.env.cells.lookup x=Z9 c->c≠b)/\∀p∈X.pn++pins,p.1≠b):ZO X pins Z H' s':=by obtain⟨i,g',d',t',g⟩:=s';have e:g=s.os:=h;subst e;exact I.call (g':=g') (t':=t') (d':=d') u d f a
end
abbrev XK:=yT->Option yR->Hp->Prop
abbrev St:=List (Option V)
abbrev VK:=V->Hp->Prop
abbrev TE:=St->Hp->VK->Prop
abbrev TT:=St->Hp->(Bool->Hp->Prop)->Prop
abbrev TA:=St->Hp->(List V->Hp->Prop)->Prop
structure W2 where
 nx:St->Hp->Prop
 rt:VK
 bk:St->Hp->Prop:=λ_ _=>False
 ct:St->Hp->Prop:=λ_ _=>False
abbrev TS:=W2->St->Hp->Prop
inductive EP(X:Cx)(pins:yD)(Z:St)(Q:VK)(u:yT)(s':yS):Prop
 |mk (v:V) (H':Hp) (I:ZO X pins Z H' s') (r:ZG v u) (q:Q v H')
inductive TP(X:Cx)(pins:yD)(Z:St)(Q:Bool->Hp->Prop)(b:Bool)(s':yS):Prop
 |mk (H':Hp) (I:ZO X pins Z H' s') (q:Q b H')
inductive AP(X:Cx)(pins:yD)(Z:St)(Q:List V->Hp->Prop)(us:yB)(s':yS):Prop
 |mk (vs:List V) (H':Hp) (I:ZO X pins Z H' s') (r:ZJ vs us) (q:Q vs H')
def SP(X:Cx)(a:yD)(D:W2)(f:Flow)(s':yS):Prop :=
 match f with
 |.next=>∃c b,ZO X a c b s'/\D.nx c b
 |.brk=>∃c b,ZO X a c b s'/\D.bk c b
 |.cont=>∃c b,ZO X a c b s'/\D.ct c b
 |.ret u=>∃v c b,ZO X a c b s'/\ZG v u/\D.rt v b
def PE(X:Cx)(e:yY)(t:TE):Prop :=
 ∀(a:yD) (s:yS) (Z:St) (H:Hp) (Q:VK),ZO X a Z H s->t Z H Q->y2 (yW X.prog X.w) X.A (jW e X.env) (EP X a Z Q) X.xe s
def PT(X:Cx)(e:yY)(t:TT):Prop :=
 ∀(a:yD) (s:yS) (Z:St) (H:Hp) (Q:Bool->Hp->Prop),ZO X a Z H s->t Z H Q->y2 (yW X.prog X.w) X.A (uB e X.env (jW e X.env)) (TP X a Z Q) X.xe s
def PW(X:Cx)(e:yY)(t:TT):Prop :=
 ∀(b:Sem yT) (a:yD) (s:yS) (Z:St) (H:Hp) (Q:Bool->Hp->Prop),ZO X a Z H s->t Z H Q->y2 (yW X.prog X.w) X.A (uB e X.env b) (TP X a Z Q) X.xe s
theorem PW.pt(h:PW X e t):PT X e t:=h _
def PA(X:Cx)(es:yE)(t:TA):Prop :=
 ∀(b:Pos) (a:yD) (s:yS) (Z:St) (H:Hp) (Q:List V->Hp->Prop),ZO X a Z H s->t Z H Q->y2 (yW X.prog X.w) X.A (spliced (vB b (y3 es X.env))) (AP X a Z Q) X.xe s
def PS(X:Cx)(st:vO)(t:TS):Prop :=
 ∀(a:yD) (s:yS) (Z:St) (H:Hp) (D:W2),ZO X a Z H s->t D Z H->y2 (yW X.prog X.w) X.A (exec st X.env) (SP X a D) X.xe s
def Xw(X:Cx)(st:List vO)(t:TS):Prop :=
 ∀(a:yD) (s:yS) (Z:St) (H:Hp) (D:W2),ZO X a Z H s->t D Z H->y2 (yW X.prog X.w) X.A (execs st X.env) (SP X a D) X.xe s
theorem Zt{Q b:c->yS->Prop}{E:yL}(h:y2 M A t Q E s)(d:∀a s,Q a s->b a s):y2 M A t b E s:=jU h d λ_ _ x=>x
section
variable {X:Cx}
def QR(i:Nat):TE:=fun Z H Q=>∃v,Z[i]?=Z9 (Z9 v)/\Q v H
def tC(v:V):TE:=λ_ H Q=>Q v H
theorem GI{pos:Pos}(k:X.N[i]?=Z9 x)(hv:OA X.env.scope x)(f:Wm x:=by decide)(g:(x == ("__classdict__":Str))=Z5:=by decide):PE X (.Name x pos) (QR i):=by
 intro d s Z H Q I h;obtain⟨v,e,h⟩:=h;obtain⟨m,o,n⟩:=I.loc;obtain⟨u,r,l⟩:=n i x v k e hv;have b:EP X d Z Q u s:=⟨v,H,I,r,h⟩
 rcases l with⟨hk,p⟩| ⟨hk,c,j,a⟩
 .exact wpAny_Name (wpAny_loadName_local I.ok.kind hk o p b) f
 .rcases hk with hk|hk
  .exact wpAny_Name (wpAny_loadName_cell I.ok.kind hk j a b) f
  .exact wpAny_Name (wpAny_loadName_free I.ok.kind hk j a b g) f
theorem AB{i j pos}:PE X (.Constant (.int i) j pos) (tC (.int i)):=λ_ _ _ H _ I h=>wpAny_Constant_int ⟨.int i,H,I.tok _,⟨_,rfl⟩,h⟩
theorem AA{b j pos}:PE X (.Constant (.bool b) j pos) (tC (.bl b)):=λ_ _ _ H _ I h=>Constant_bool ⟨.bl b,H,I,rfl,h⟩
theorem Az{j pos}:PE X (.Constant .none j pos) (tC .non):=λ_ _ _ H _ I h=>Constant_none ⟨.non,H,I,rfl,h⟩
theorem Ay{x j pos}:PE X (.Constant (.str x) j pos) (tC (.str x)):=λ_ _ _ H _ I h=>Calls.Constant_str ⟨.str x,H,I.tok _,⟨_,rfl⟩,h⟩
def Gl(X:Cx)(x:Str):Prop:=X.env.kindOf x=Z9 .globalImplicit
theorem Mh{E:yL}{Z:St}{Q:yL}(I:ZO X a Z H s)(b:Gl X x)(c:X.mg x=Z9 u)(h:Q u s)
  (d:Wm x:=by decide):y2 (yW X.prog X.w) X.A (jW (.Name x pos) X.env) Q E s :=
 gH I.ok.kind b (Calls.loadGlobal_global (by rw[I.ok.glob];exact I.mod.glob.keeps I.bk) c h) d
theorem TC{E:yL}{Z:St}{pos:Pos}{Q:yL}(I:ZO X a Z H s)(c:Gl X x)(e:X.mg x=Z8)(hv:jA x=Z9 u)(h:Q u s)
  (b:x ≠ "__name__":=by decide) (f:Wm x:=by decide):y2 (yW X.prog X.w) X.A (jW (.Name x pos) X.env) Q E s:=by obtain⟨i,g,d⟩:=I.mod.blt;exact gH I.ok.kind c (Calls.loadGlobal_builtin (by rw[I.ok.glob];exact I.mod.glob.keeps I.bk) e (by rw[I.ok.blt];exact g.keeps I.bk) ((d x b).trans hv) h) f
theorem GH(a:Gl X x)(b:X.mg x=Z9 u)(r:ZG v u)(c:Wm x:=by decide):PE X (.Name x pos) (tC v) :=
 λ_ _ _ H _ I h=>Mh I a b ⟨v,H,I,r,h⟩ c
theorem Ax{pos:Pos}(b:Gl X x)(c:X.mg x=Z8)(hv:jA x=Z9 u)(r:ZG v u)(a:x ≠ "__name__":=by decide)(d:Wm x:=by decide):PE X (.Name x pos) (tC v) :=
 λ_ _ _ H _ I h=>TC I b c hv ⟨v,H,I,r,h⟩ a d
variable {a b:yY}{ta tb:TE}{pos:Pos}
variable {tA tB':TT}{Zm:yE}
def Mf(t u:TT):TT:=fun Z H Q=>t Z H λc d=>if c=Z7 then u Z d Q else Q Z5 d
def Aw(t u:TT):TT:=fun Z H Q=>t Z H λc d=>if c=Z7 then Q Z7 d else u Z d Q
def Me(t:TT):TT:=fun Z H Q=>t Z H λc d=>Q (!c) d
theorem Av(f:PT X a tA):PW X (.BoolOp .And [a] pos) tA:=by
 intro g d s Z H Q I h;refine isTrue_and (Zt (f d s Z H Q I h) λc i e=>?_);cases c with
 |true=>exact isTrue_and_nil e
 |false=>exact e
theorem Au(f:PT X a tA):PW X (.BoolOp .Or [a] pos) tA:=by
 intro g d s Z H Q I h;refine isTrue_or (Zt (f d s Z H Q I h) λc i e=>?_);cases c with
 |false=>exact isTrue_or_nil e
 |true=>exact e
theorem As(l:PT X a tA)(j:PW X (.BoolOp .And (b::Zm) pos) tB'):PW X (.BoolOp .And (a::b::Zm) pos) (Mf tA tB'):=by
 intro i d s Z H Q I h;refine isTrue_and (Zt (l d s Z H _ I h) λc k ⟨g,f,e⟩=>?_);cases c with
 |true=>exact j i d k Z g Q f e
 |false=>exact⟨g,f,e⟩
theorem Ar(l:PT X a tA)(j:PW X (.BoolOp .Or (b::Zm) pos) tB'):PW X (.BoolOp .Or (a::b::Zm) pos) (Aw tA tB'):=by
 intro i d s Z H Q I h;refine isTrue_or (Zt (l d s Z H _ I h) λc k ⟨g,f,e⟩=>?_);cases c with
 |true=>exact⟨g,f,e⟩
 |false=>exact j i d k Z g Q f e
theorem Aq(f:PT X a tA):PT X (.UnaryOp .Not a pos) (Me tA):=by intro d s Z H Q I h;exact isTrue_not (Zt (f d s Z H (λc g=>Q (!c) g) I h) λc j ⟨i,e,q⟩=>⟨i,e,q⟩)
def Ap(f e:TE):TE:=fun Z H Q=>f Z H λx d=>∃c,x=.bl c/\if c=Z7 then e Z d Q else Q (.bl Z5) d
def Md(f e:TE):TE:=fun Z H Q=>f Z H λx d=>∃c,x=.bl c/\if c=Z7 then Q (.bl Z7) d else e Z d Q
def Ao(d:TE):TE:=fun Z H Q=>d Z H λx e=>∃c,x=.bl c/\Q (.bl (!c)) e
theorem An{op}(h:PE X a t):PE X (.BoolOp op [a] pos) t:=λc s Z H Q I d=>BoolOp_one (h c s Z H Q I d)
theorem Am(l:PE X a ta)(i:PE X (.BoolOp .And (b::Zm) pos) tb):PE X (.BoolOp .And (a::b::Zm) pos) (Ap ta tb):=by
 intro d s Z H Q I h;refine BoolOp_and (Zt (l d s Z H _ I h) λv j ⟨x,g,f,k,e⟩=>?_);obtain⟨c,rfl,e⟩:=e;cases k;refine jH ?_;cases c with
 |true=>exact i d j Z g Q f e
 |false=>exact⟨.bl Z5,g,f,rfl,e⟩
theorem Al(l:PE X a ta)(i:PE X (.BoolOp .Or (b::Zm) pos) tb):PE X (.BoolOp .Or (a::b::Zm) pos) (Md ta tb):=by
 intro d s Z H Q I h;refine BoolOp_or (Zt (l d s Z H _ I h) λv j ⟨x,g,f,k,e⟩=>?_);obtain⟨c,rfl,e⟩:=e;cases k;refine jH ?_;cases c with
 |false=>exact i d j Z g Q f e
 |true=>exact⟨.bl Z7,g,f,rfl,e⟩
theorem Ak(i:PE X a ta):PE X (.UnaryOp .Not a pos) (Ao ta):=by intro d s Z H Q I h;refine UnaryOp_ (Zt (i d s Z H _ I h) λv k ⟨x,j,g,f,e⟩=>?_);obtain⟨c,rfl,e⟩:=e;cases f;exact not_of (jH ⟨.bl (!c),j,g,rfl,e⟩)
def Aj(t:TT)(f e:TE):TE:=fun Z H Q=>t Z H λc d=>if c=Z7 then f Z d Q else e Z d Q
theorem Ai(k:PT X c tA)(m:PE X a ta)(l:PE X b tb):PE X (.IfExp c a b pos) (Aj tA ta tb):=by
 intro e s Z H Q I h;refine wpAny_IfExp (Zt (k e s Z H _ I h) λd f ⟨j,i,g⟩=>?_);cases d with
 |true=>exact m e f Z j Q i g
 |false=>exact l e f Z j Q i g
end
def YK(K:yQ)(H:Hp)(a:yR)(xs:List V):Prop :=
 Rd H a (.lst xs) ∨
  ∃(o:Obj) (b:yJ) (n:Nat),K.lookup a=Z9 o/\o.cls=.type "list"/\o.dict=Z8/\o.data=.seq b n/\b.size<=yV/\ZJ xs b.toList
def Zp(K:yQ)(H:Hp)(a:yR)(xs:List V):Prop :=
 Rd H a (.tup xs) ∨
  ∃(o:Obj) (b:yJ) (n:Nat),K.lookup a=Z9 o/\o.cls=.type "tuple"/\o.data=.seq b n/\b.size<=yV/\ZJ xs b.toList
def Mc:yT->Option V
 |.none=>Z9 .non
 |.bool b=>Z9 (.bl b)
 |.int i _=>Z9 (.int i)
 |.str x _=>Z9 (.str x)
 |.bytes b _=>Z9 (.byt b)
 |.float b _=>Z9 (.flt b)
 |.ref a=>Z9 (.ref a)
 |.type n=>Z9 (.ty n)
 |_=>Z8
theorem ZG.abs(r:ZG x u):Mc u=Z9 x:=by
 cases x with
 |non=>cases r;rfl
 |bl _=>cases r;rfl
 |int _=>obtain⟨t,rfl⟩:=r;rfl
 |str _=>obtain⟨t,rfl⟩:=r;rfl
 |byt _=>obtain⟨t,rfl⟩:=r;rfl
 |flt _=>obtain⟨t,rfl⟩:=r;rfl
 |ref _=>cases r;rfl
 |ty _=>cases r;rfl
theorem ZG.inj(r:ZG x u)(q:ZG y u):x=y:=Option.some.inj (r.abs.symm.trans q.abs)
theorem ZJ.inj:∀{xs ys:List V}{us:yB},ZJ xs us->ZJ ys us->xs=ys
 |_,_,_,.nil,.nil=>rfl
 |_,_,_,.cons r t,.cons a b=>by rw[r.inj a,ZJ.inj t b]
section
variable {X:Cx}{pins:yD}{Z:St}{H:Hp}{s:yS}{a:yR}{xs ys:List V}
theorem YK.of{K:yQ}(h:H a=Z9 (.lst xs)):YK K H a xs:=.inl (.inl h)
theorem Zp.of{K:yQ}(h:H a=Z9 (.tup xs)):Zp K H a xs:=.inl (.inl h)
theorem ZO.list(I:ZO X pins Z H s)(h:YK X.K H a xs):∃b:yB,ZJ xs b/\PlainL s.heap a b.toArray/\xs.length<=sizeLine:=by
 rcases h with h|⟨o,b,n,hk,f,c,d,g,r⟩
 .obtain⟨z,b,n,r,e⟩:=h.ok I.hok;exact⟨b,r,⟨_,n,e,rfl,rfl,rfl⟩,z⟩
 .refine⟨b.toList,r,⟨o,n,I.kIn a o hk,f,c,by simpa using d⟩,?_⟩;have e:=r.length;simp only[jN]at e
  lia
theorem ZO.tuple(I:ZO X pins Z H s)(h:Zp X.K H a xs):∃b:yB,ZJ xs b/\dH s.heap a b.toArray/\xs.length<=sizeLine:=by
 rcases h with h|⟨o,b,n,hk,d,c,f,r⟩
 .obtain⟨z,b,r,p⟩:=h.ok I.hok;exact⟨b,r,p,z⟩
 .refine⟨b.toList,r,⟨o,I.kIn a o hk,d,n,by simpa using c⟩,?_⟩;have e:=r.length;simp only[jN]at e
  lia
theorem ZO.list_inj(I:ZO X pins Z H s)(h:YK X.K H a xs)(h':YK X.K H a ys):xs=ys:=by
 obtain⟨i,r,⟨o,n,e,_,_,d⟩,_⟩:=I.list h;obtain⟨f,g,⟨k,j,c,_,_,b⟩,_⟩:=I.list h';rw[e]at c;cases c;rw[d]at b;injection b with d1 _;have:=by simpa using congrArg Array.toList d1
 subst this;exact r.inj g
theorem ZO.tuple_inj(I:ZO X pins Z H s)(h:Zp X.K H a xs)(h':Zp X.K H a ys):xs=ys:=by
 obtain⟨i,r,⟨o,e,_,n,d⟩,_⟩:=I.tuple h;obtain⟨f,g,⟨k,c,_,j,b⟩,_⟩:=I.tuple h';rw[e]at c;cases c;rw[d]at b;injection b with d1 _;have:=by simpa using congrArg Array.toList d1
 subst this;exact r.inj g
end
abbrev Cx.wish(X:Cx)(E:yL):Cx:={ X with xe:=E }
abbrev Cx.nox(X:Cx):Cx:=X.wish λ_ _=>False
theorem Cx.Ok.wish{X:Cx}(ok:X.Ok)(E:yL):(X.wish E).Ok :=
 ⟨ok.mod,ok.kind,ok.glob,ok.blt,ok.above,ok.inj,ok.has,ok.cab,ok.hd,ok.frames,ok.stk,ok.exf,ok.bs,ok.bsz,ok.noex,ok.exfs,ok.funs,ok.frf⟩
theorem Cx.Ok.unwish{X:Cx}(ok:(X.wish E).Ok):X.Ok :=
 ⟨ok.mod,ok.kind,ok.glob,ok.blt,ok.above,ok.inj,ok.has,ok.cab,ok.hd,ok.frames,ok.stk,ok.exf,ok.bs,ok.bsz,ok.noex,ok.exfs,ok.funs,ok.frf⟩
section
variable {X:Cx}{pins:yD}{Z:St}{H:Hp}{s:yS}{E:yL}
theorem ZO.wish(I:ZO X pins Z H s)(E:yL):ZO (X.wish E) pins Z H s:=⟨I.ok.wish E,I.os,I.bare,I.base,I.loc,I.cell,I.free,I.freeC,I.pin,I.hok,I.len⟩
theorem ZO.unwish(I:ZO (X.wish E) pins Z H s):ZO X pins Z H s:=⟨I.ok.unwish,I.os,I.bare,I.base,I.loc,I.cell,I.free,I.freeC,I.pin,I.hok,I.len⟩
theorem SP.unwish(h:SP (X.wish E) pins D f s'):SP X pins D f s':=by
 cases f with
 |next=>obtain⟨a,b,I,q⟩:=h;exact⟨a,b,I.unwish,q⟩
 |brk=>obtain⟨a,b,I,q⟩:=h;exact⟨a,b,I.unwish,q⟩
 |cont=>obtain⟨a,b,I,q⟩:=h;exact⟨a,b,I.unwish,q⟩
 |ret u=>obtain⟨v,a,b,I,r,q⟩:=h;exact⟨v,a,b,I.unwish,r,q⟩
theorem Xw.nox{st:List vO}(h:Xw X.nox st t):Xw X st t:=λa s Z H D I b =>
 jU (h a s Z H D (I.wish _) b) (λ_ _ q=>q.unwish) λ_ _ z=>False.elim z
end
section
variable {X:Cx}{st:vO}{Zm:List vO}{t u:TS}{e:yY}{te:TE}{pos:Pos}
def GG:TS:=λD Z H=>D.nx Z H
def Mb(t u:TS):TS:=λD Z H=>t { D with nx:=u D } Z H
theorem Ah:Xw X [] GG:=λ_ _ Z H _ I h=>fY ⟨Z,H,I,h⟩
theorem Ag(j:PS X st t)(c:Xw X Zm u):Xw X (st::Zm) (Mb t u):=by
 intro a s Z H D I h;refine wpAny_execs_cons (Zt (j a s Z H { D with nx:=u D } I h) λf b q=>?_);cases f with
 |next =>
  obtain⟨d,i,g,q⟩:=q;exact c a b d i D g q
 |ret v=>exact q
 |brk=>exact q
 |cont=>exact q
theorem Af(b:PS X st t):Xw X [st] t:=by
 intro a s Z H D I h;refine wpAny_execs_cons (Zt (b a s Z H D I h) λf c q=>?_);cases f with
 |next=>exact fY q
 |ret v=>exact q
 |brk=>exact q
 |cont=>exact q
def Ae:TS:=λD Z H=>D.bk Z H
def Ad:TS:=λD Z H=>D.ct Z H
theorem Ac:PS X (.Pass pos) GG:=λ_ _ Z H _ I h=>wpAny_Pass ⟨Z,H,I,h⟩
theorem Ab:PS X (.Break pos) Ae:=λ_ _ Z H _ I h=>wpAny_Break ⟨Z,H,I,h⟩
theorem Aa:PS X (.Continue pos) Ad:=λ_ _ Z H _ I h=>wpAny_Continue ⟨Z,H,I,h⟩
theorem ZO.quiet{Z:St}(I:ZO X a Z H s):interactive X.env=Z5:=by simp[interactive,I.ok.kind]
def zZ(b:TE):TS:=λD Z H=>b Z H λ_ a=>D.nx Z a
theorem zY(he:PE X e te)(f:wW e Z8 pos.line X.env=pure Z5:=by rfl):PS X (.Expr e pos) (zZ te):=by intro a s Z H D I h;exact wpAny_Expr_any (Zt (he a s Z H _ I h) λv g ⟨x,d,c,i,b⟩=>⟨Z,d,c,b⟩) I.quiet f
def Ma(a:TE):TS:=λD Z H=>a Z H D.rt
theorem zX(he:PE X e te):PS X (.Return (Z9 e) pos) (Ma te):=by intro a s Z H D I h;exact wpAny_Return_some (Zt (he a s Z H _ I h) λv g ⟨x,f,d,c,b⟩=>⟨x,Z,f,d,c,b⟩)
def zW:TS:=λD _ H=>D.rt .non H
theorem zV:PS X (.Return Z8 pos) zW:=λ_ _ Z H _ I h=>wpAny_Return_none ⟨.non,Z,H,I,rfl,h⟩
def L9(c:TT)(t u:TS):TS:=λD Z H=>c Z H λb a=>if b=Z7 then t D Z a else u D Z a
theorem zU(l:PT X c tc)(n:Xw X a t)(m:Xw X b u):PS X (.If c a b pos) (L9 tc t u):=by
 intro f s Z H D I h;refine wpAny_If (Zt (l f s Z H _ I h) λd g ⟨k,j,i⟩=>?_);cases d with
 |true=>exact n f g Z k D j i
 |false=>exact m f g Z k D j i
def zT:TS:=λ_ _ _=>False
theorem zS:PS X st zT:=λ_ _ _ _ _ _ h=>h.elim
end
abbrev TG:=V->St->Hp->(St->Hp->Prop)->Prop
abbrev U9:=List V->St->Hp->(St->Hp->Prop)->Prop
def PG(X:Cx)(a:yY)(t:TG):Prop :=
 ∀(b:yD) (s:yS) (Z:St) (H:Hp) (v:V) (u:yT) (Q:St->Hp->Prop),ZO X b Z H s->ZG v u->t v Z H Q ->
  y2 (yW X.prog X.w) X.A (gJ a X.env u) (λ_ e=>∃c d,ZO X b c d e/\Q c d) X.xe s
def V4(X:Cx)(g:yE)(t:U9):Prop :=
 ∀(a:yD) (s:yS) (Z:St) (H:Hp) (b:List V) (c:yB) (Q:St->Hp->Prop),ZO X a Z H s->ZJ b c->t b Z H Q ->
  y2 (yW X.prog X.w) X.A (assignInOrder ((jI g X.env).map (·.2)) c) (λ_ f=>∃d e,ZO X a d e f/\Q d e) X.xe s
abbrev Us:=V->V->V->Hp->(Hp->Prop)->Prop
def VS(X:Cx)(t:Us):Prop :=
 ∀(a:yD) (s:yS) (Z:St) (H:Hp) (o i v:V) (b c u:yT) (Q:Hp->Prop),ZO X a Z H s->ZG o b->ZG i c->ZG v u->t o i v H Q ->
  y2 (yW X.prog X.w) X.A (uR b c u) (λ_ e=>∃d,ZO X a Z d e/\Q d) X.xe s
section
variable {X:Cx}{pos:Pos}
def SY(i:Nat):TG:=λv Z H Q=>Q (Z.set i (Z9 v)) H
theorem Oz(e:X.N.Nodup)(hi:X.N[i]?=Z9 x)(c:RK X.env.scope x)(d:X.fn x=Z7∨X.env.scope.names.lookup x=Z9 .local:=by first|exact .inl rfl|exact .inr rfl|assumption):PG X (.Name x pos) (SY i):=by intro a s Z H v u Q I r h;exact wpAny_assign_Name (Mi I e hi c r (λf b=>⟨_,H,b,h⟩) d)
def QQ:U9:=λa Z H Q=>a=[]/\Q Z H
def GF(t:TG)(u:U9):U9:=λb Z H Q=>∃v r,b=v::r/\t v Z H fun a c=>u r a c Q
theorem GE:V4 X [] QQ:=by intro a s Z H b c Q I r h;obtain⟨e,h⟩:=h;subst e;cases r;exact assignInOrder_nil ⟨Z,H,I,h⟩
theorem GD(i:PG X e t)(k:V4 X es u)
  (c:(jI (e::es) X.env).map (·.2)=gJ e X.env::(jI es X.env).map (·.2):=by rfl):V4 X (e::es) (GF t u):=by
 intro a s Z H o p Q I r h;obtain⟨v,n,l,h⟩:=h;subst l;cases r with
 |cons r m =>
  rw[c];refine gK (Zt (i a s Z H _ _ _ I r h) λ_ b ⟨j,g,f,d⟩=>?_);exact k a b j g _ _ Q f m d
def QP(K:yQ)(n:Nat)(t:U9):TG:=λv Z H Q=>∃a b,v=.ref a/\Zp K H a b/\b.length=n/\t b Z H Q
theorem GC{k:Nat}(z:X.calm=Z7)(h:V4 X es t)
  (m:(jI es X.env).length=n:=by rfl) (f:(jI es X.env).findIdx? (·.1)=Z8:=by rfl):PG X (.Tuple es k pos) (QP X.K n t):=by intro c s Z H v u Q I r d;obtain⟨a,x,y,l,i,d⟩:=d;subst y;cases r;obtain⟨w,g,j,B⟩:=I.tuple l;refine assign_Tuple_tuple (I.ok.hd z) j (by simp[m,<- i,g.length]) f λA q=>?_;have p:=I.kept (t':=s.toks) λb o e=>q b o (qB9 (qB1 e)) e;exact h c _ Z H x _ Q p (by simpa using g) d
def L8(c e:TE)(t:Us):TG:=λv Z H Q=>c Z H λo d=>e Z d λi a=>t o i v a λb=>Q Z b
theorem zR(E:PE X o e)(hi:PE X i d)(l:VS X t)
  (C:∀v,gJ (.Subscript o i pos) X.env v=(do
   let b <- wJ [v] (jW o X.env)
   let c <- wJ [v,b] (jW i X.env)
   gU pos
   wJ [v,b,c] (uR b c v)
   release [v,b,c] []):=by intro _;rfl):PG X (.Subscript o i pos) (L8 e d t):=by intro a s Z H v u Q I r h;rw[C];refine yO (jG (Zt (E a s Z H _ I h) λb j ⟨x,A,z,w,q⟩=>?_));refine yO (jG (Zt (hi a j Z A _ z q) λc n ⟨y,f,p,m,k⟩=>?_));refine yO (fS (yO (jG (Zt (l a n Z f x y v b c u _ p w m r k) λ_ F ⟨B,D,g⟩=>?_))));exact wpAny_release ⟨Z,B,D,g⟩
def U8(a:TE)(g:TG):TS:=λD Z H=>a Z H λx b=>g x Z b D.nx
theorem zQ(he:PE X e c)(o:PG X b g)(f:m5 [b] e pos.line X.env=pure Z5:=by rfl)(i:jX [b] e X.env=pure Z8:=by rfl)
  (n:(jI [b] X.env).map (·.2)=[gJ b X.env]:=by rfl):PS X (.Assign [b] e pos) (U8 c g):=by intro a s Z H D I h;refine wpAny_Assign_stores (Zt (he a s Z H _ I h) λv d ⟨x,m,l,k,j⟩=>?_) f i;rw[n];exact Zt (o a d Z m x v _ l k j) λ_ p q=>q
def L7(i j:Nat)(b:TA):TS:=λD Z H=>b Z H λa c=>∃v w,a=[v,w]/\D.nx ((Z.set i (Z9 v)).set j (Z9 w)) c
theorem zP{k k2 d}(V:X.calm=Z7)(z:X.N.Nodup)(hi:X.N[i]?=Z9 x)(L:X.N[j]?=Z9 y)(m:i≠j)
  (B:X.env.scope.names.lookup x=Z9 .local) (C:X.env.scope.names.lookup y=Z9 .local) (R:PA X [a,b] E)
  (K:jX [.Tuple [.Name x l,.Name y t] k pt] (.Tuple [a,b] k2 d) X.env=pure (Z9 [x,y]))
  (W:m5 [.Tuple [.Name x l,.Name y t] k pt] (.Tuple [a,b] k2 d) pos.line X.env=pure Z5:=by rfl) :
  PS X (.Assign [.Tuple [.Name x l,.Name y t] k pt] (.Tuple [a,b] k2 d) pos) (L7 i j E):=by
 intro c s Z H D I h;refine yO (fS ?_);refine yO (yP ?_);refine yO (Tuple_ (Zt (R _ c s Z H _ I h) λM f ⟨vs,A,O,N,r⟩=>?_));obtain⟨v,w,T,r⟩:=r;subst T;obtain⟨g,u2,rfl,J,n⟩:∃g u2,M=[g,u2]/\ZG v g/\ZG w u2:=by
  cases N with
  |cons p q =>
   cases q with
   |cons Q G =>
    cases G;exact⟨_,_,rfl,p,Q⟩
 refine j3 ?_ (by show 2<=yV;decide);have P:ZO X c Z A { f with heap:=f.heap.push { cls:=.type "tuple",data:=.seq [g,u2].toArray } }:=O.kept (t':=f.toks) λb o e=>qA0 _ e;rw[K];refine yO (yP ?_);refine yO (vR (yO (unpackItems_tuple (items:=#[g,u2]) (I.ok.hd V) (IsTup.new f.heap _) λh' u=>?_)));have S:=P.kept (h':=h') (t':=f.toks) λb o e=>u b o (qB9 (qB1 e)) e;refine yO (gK (wpAny_bindName (Mi S z L (.inl C) n (λY U=>?_) (.inr C))));refine gK (wpAny_bindName (Mi U z hi (.inl B) J (λs3 F=>assignInOrder_nil (yP ?_)) (.inr B)));rw[List.set_comm _ _ (Ne.symm m)]at F;exact⟨_,A,F,r⟩
end
section
variable {X:Cx}{pos:Pos}
def zO(c:TT)(g:TS):TS:=λD Z H=>∃W:Nat->St->Hp->Prop,(∃m,W m Z H)/\∀m Z H,W m Z H ->
 c Z H λb e=>if b=Z7 then ∃N:St->Hp->Prop,(∀d f,N d f->∃a,a<m/\W a d f)/\g { D with nx:=N,ct:=N,bk:=D.nx } Z e else D.nx Z e
theorem zN(y:mX (yW X.prog X.w) X.A X.env X.xe)(L:PT X c tc)(J:Xw X body x):PS X (.While c body [] pos) (zO tc x):=by
 intro a s Z H D I h;obtain⟨W,⟨K,w0⟩,d⟩:=h;refine wpAny_While (codeAny_whileLoop (λn C=>∃t w,ZO X a t w C/\W n t w) ?_ K ⟨Z,H,I,w0⟩);rintro n B ⟨k,A,G,E⟩;refine vP y (Zt (L a B k A _ G (d n k A E)) λb F ⟨r,z,j⟩=>?_);cases b with
 |true =>
  obtain⟨N,u,j⟩:=j;refine vP y (Zt (J a F k r _ z j) λf M i=>?_);cases f with
  |next =>
   obtain⟨g,e,q,l⟩:=i;obtain⟨o,p,m⟩:=u g e l;exact⟨o,p,g,e,q,m⟩
  |cont =>
   obtain⟨g,e,q,l⟩:=i;obtain⟨o,p,m⟩:=u g e l;exact⟨o,p,g,e,q,m⟩
  |brk=>exact i
  |ret v=>exact i
 |false =>
  exact fY ⟨k,r,z,j⟩
end
structure It where
 go:Nat->Hp->Prop
 yld:Nat->Hp->V->Hp->Prop
 stop:Nat->Hp->Prop
def X7(X:Cx)(a:yD)(H:Hp)(b:yR):Prop :=
 H b=Z8/\b≠X.env.locals/\b∉X.fs/\(b∈X.ex∨X.s₀.heap.objs.size<=b)/\(∀x c,X.env.cells.lookup x=Z9 c->c≠b)/\∀p∈X.pn++a,p.1≠b
theorem ZO.fpOk{Z:St}{b:yR}(I:ZO X a Z H s)(d:s.heap.objs.size<=b)(g:f b=Z8):X7 X a f b:=by
 refine⟨g,qG7 (qB7 I.lt d),I.nofs d,.inr (qC5 I.sz d),λx c e z=>?_,λp h z=>?_⟩
 .obtain⟨v,q⟩:=I.cell x c e;exact absurd (qB7 q.lt (by rw[z];exact d)) (qI3 _)
 .exact absurd (qB7 (qB1 (I.pin p h).1) (by rw[z];exact d)) (qI3 _)
structure XD(P:yX)(w:y8)(K:yQ)(tg:yY)(JJ:It)(fp:yC)(it:yR)(tn:Nat->y9->Prop):Prop where
 mem:it∈fp
 obj:∀i h,tn i h->∀b∈fp,∃o,h.get? b=Z9 o/\∀v,o.data≠.cell v
 keep:∀i h h',tn i h->(∀b∈fp,∀o,h.get? b=Z9 o->h'.get? b=Z9 o)->tn i h'
 item:∀(X:Cx),X.prog=P->X.w=w->X.K=K->X.calm=Z7->∀(i:Nat) (pins:yD) (s:yS) (Z:St) (H:Hp) (E:yL),ZO X pins Z H s->(∀b∈fp,X7 X pins H b)->tn i s.heap->JJ.go i H ->
  y2 (yW P w) X.A (pyNext (.ref it)) (λr s1=>∃u,r=Z9 u /\
   y2 (yW P w) X.A (lW tg (.ref it) u) (λ_ s2=>∃x H',ZO X pins Z H' s2/\ZG x u/\JJ.yld i H x H'/\tn (i+1) s2.heap/\∀b∈fp,H' b=Z8) E s1) E s
 done:∀(X:Cx),X.prog=P->X.w=w->X.K=K->X.calm=Z7->∀(i:Nat) (pins:yD) (s:yS) (Z:St) (H:Hp) (E:yL),ZO X pins Z H s->(∀b∈fp,X7 X pins H b)->tn i s.heap->JJ.stop i H ->
  y2 (yW P w) X.A (pyNext (.ref it)) (λr s1=>r=Z8/\ZO X pins Z H s1) E s
 self:∀(A:y7) (i:Nat) (s:yS) (Q:yL) (E:yL),tn i s.heap->Q (.ref it) s->y2 (yW P w) A (pyIter (.ref it)) Q E s
abbrev TI:=St->Hp->(It->Hp->Prop)->Prop
inductive Oy(X:Cx)(pins:yD)(Z:St)(tg:yY)(R:It->Hp->Prop)(itv:yT)(s2:yS):Prop
 |mk (it:yR) (fp:yC) (tn:Nat->y9->Prop) (JJ:It) (H':Hp) (e:itv=.ref it) (I:ZO X pins Z H' s2) (T:XD X.prog X.w X.K tg JJ fp it tn) (t0:tn 0 s2.heap) (f:∀b∈fp,X7 X pins H' b) (r:R JJ H')
def PI(X:Cx)(b iter:yY)(c:TI):Prop :=
 ∀(a:yD) (s:yS) (Z:St) (H:Hp) (R:It->Hp->Prop),ZO X a Z H s->c Z H R ->
  y2 (yW X.prog X.w) X.A (jW iter X.env) (λv d=>y2 (yW X.prog X.w) X.A (pyIter v) (Oy X a Z b R) X.xe d) X.xe s
theorem QO{E:yL}{vs:yJ}(f:s.heap.get? b=Z9 o)(g:o.cls=.type n)(e:o.data=.fields vs)
    (d:["enumerate","zip","dict_itemiterator","dict_reverseitemiterator","odict_iterator","itertools.zip_longest","itertools.pairwise"].contains n=Z5) (a:Q () s):y2 M A (lW c (.ref b) u) Q E s:=by
  cases c<;>first
    |exact yP a
    | (cases u<;>first
        |exact yP a
        | (refine yO (wpAny_load f ?_)
           rw[g,e];show y2 M A (if(["enumerate","zip","dict_itemiterator","dict_reverseitemiterator","odict_iterator","itertools.zip_longest","itertools.pairwise"].contains n&&vs[0]? == Z9 (wM _))=Z7 then _ else _) Q E s;rw[if_neg (by intro h;rw[d,qO4]at h;cases h)];exact yP a))
def L6(K:yQ)(a:yR):It :=
 ⟨λi H=>∃b x,YK K H a b/\b[i]?=Z9 x,λi H x c=>c=H/\∀b,YK K H a b->b[i]?=Z9 x,λi H=>∃b,YK K H a b/\b.length<=i⟩
def L4(K:yQ)(a:yR):It :=
 ⟨λi H=>∃b x,Zp K H a b/\b[i]?=Z9 x,λi H x c=>c=H/\∀b,Zp K H a b->b[i]?=Z9 x,λi H=>∃b,Zp K H a b/\b.length<=i⟩
def QN(lo:Int)(n:Nat):It:=⟨λi _=>i<n,λi H x a=>a=H/\x=.int (lo+i),λi _=>n<=i⟩
theorem zM{P:yX}{w:y8}{K:yQ}{Y:yY}(a j:yR):XD P w K Y (L6 K a) [j] j (λi h=>h.IsListIter j a i) where
 mem:=by simp
 obj:=λi h f b g=>by
  have e:=by simpa using g
  subst e;obtain⟨o,e,c,d⟩:=f;exact⟨o,e,λv z=>by rw[d]at z;cases z⟩
 keep:=λi h N f k=>f.at λo e=>k j (by simp) o e
 item:=by intro X G C y O i l s Z H E I n f M;subst G C y;obtain⟨xs,x,q,J⟩:=M;obtain⟨L,B,p,U⟩:=I.list q;obtain⟨u,S,Q⟩:=B.get J;obtain⟨A,F,R,D,t,r⟩:=n j (by simp);refine fA f p.isList (by simpa using S) λN m sb=>?_;have V:=I.turned (t':=s.toks) (λb o g e=>(sb.2 b g).trans e) A F D t r;obtain⟨o,e,c,d⟩:=id m;exact⟨u,rfl,QO e c d (by decide) ⟨x,H,V,Q,⟨rfl,λys W=>by rw[I.list_inj W q];exact J⟩,m,λb g=>(n b g).1⟩⟩
 done:=by intro X G C y O i l s Z H E I n f M;subst G C y;obtain⟨xs,q,J⟩:=M;obtain⟨L,B,p,U⟩:=I.list q;obtain⟨A,F,R,D,t,r⟩:=n j (by simp);have hl:=B.length;exact fI (I.ok.hd O) f p.isList (by simp;lia) λN T=>⟨rfl,I.turned (t':=s.toks) (λb o g e=>T b o g e) A F D t r⟩
 self:=λ_ _ _ _ _ f h=>wpAny_pyIter_listiter f h
theorem zL{P:yX}{w:y8}{K:yQ}{Y:yY}(a j:yR):XD P w K Y (L4 K a) [j] j (λi h=>h.IsTupleIter j a i) where
 mem:=by simp
 obj:=λi h f b g=>by
  have e:=by simpa using g
  subst e;obtain⟨o,e,c,d⟩:=f;exact⟨o,e,λv z=>by rw[d]at z;cases z⟩
 keep:=λi h N f k=>f.at λo e=>k j (by simp) o e
 item:=by intro X G C y O i l s Z H E I n f M;subst G C y;obtain⟨xs,x,q,J⟩:=M;obtain⟨L,B,p,U⟩:=I.tuple q;obtain⟨u,S,Q⟩:=B.get J;obtain⟨A,F,R,D,t,r⟩:=n j (by simp);refine wpAny_pyNext_tuple_item f (p) (by simpa using S) λN m sb=>?_;have V:=I.turned (t':=s.toks) (λb o g e=>(sb.2 b g).trans e) A F D t r;obtain⟨o,e,c,d⟩:=id m;exact⟨u,rfl,QO e c d (by decide) ⟨x,H,V,Q,⟨rfl,λys W=>by rw[I.tuple_inj W q];exact J⟩,m,λb g=>(n b g).1⟩⟩
 done:=by intro X G C y O i l s Z H E I n f M;subst G C y;obtain⟨xs,q,J⟩:=M;obtain⟨L,B,p,U⟩:=I.tuple q;obtain⟨A,F,R,D,t,r⟩:=n j (by simp);have hl:=B.length;exact wpAny_pyNext_tuple_end (I.ok.hd O) f (p) (by simp;lia) λN T=>⟨rfl,I.turned (t':=s.toks) (λb o g e=>T b o g e) A F D t r⟩
 self:=λ_ _ _ _ _ f h=>wpAny_pyIter_tupleiter f h
theorem zK{P:yX}{w:y8}{K:PySem.W.Frag}{J:yY}(d:yR)(lo:Int)(n:Nat):XD P w K J (QN lo n) [d] d (λi h=>IsRangeIter h d (lo+(i:Nat)*1) ((n:Int) - (i:Nat)) 1) where
 mem:=by simp
 obj:=λi h a b f=>by
  have e:=by simpa using f
  subst e;exact⟨_,a,λv z=>by
   have M:Data.fields _=Data.cell v:=z;cases M⟩
 keep:=λi h l a k=>k d (by simp) _ a
 item:=by intro X A u q C i c s Z H E I j a B;subst A u q;obtain⟨r,y,D,x,p,m⟩:=j d (by simp);have W:=Walks.range (prog:=X.prog) (w:=X.w) (I.ok.hd C) d lo 1 n;refine W.item i s _ _ B a λv l L hv g kk=>?_;obtain⟨t,rfl⟩:=hv;have G:ZO X c Z H { s with heap:=l,toks:=L }:=I.turned (λb o f e=>kk b o (by simpa using f) e) r y x p m;refine⟨_,rfl,QO g rfl rfl (by decide) ⟨.int (lo+i),H,G,⟨t,?_⟩,⟨rfl,rfl⟩,g,λb f=>(j b f).1⟩⟩;rw[Int.mul_one]
 done:=by intro X A u q C i c s Z H E I j a B;subst A u q;obtain⟨r,y,D,x,p,m⟩:=j d (by simp);exact wpAny_pyNext_range_end (I.ok.hd C) a (by have:n<=i:=B;lia) λl F=>⟨rfl,I.turned (t':=s.toks) (λb o f e=>F b o f e) r y x p m⟩
 self:=λ_ _ _ _ _ a h=>wpAny_pyIter_rangeiter a h
section
variable {X:Cx}{tg:yY}
theorem GB{Z:St}{E:yL}{lo hi:Int}(I:ZO X a Z H s)(h:-(2 ^ 62)<=lo)(j:lo<2 ^ 62)(f:-(2 ^ 62)<=hi)(g:hi<2 ^ 62)
  (q:R (QN lo (hi - lo).toNat) H):y2 (yW X.prog X.w) X.A (pyIter (.ref s.heap.objs.size)) (Oy X a Z tg R) E { s with heap:=s.heap.push { cls:=.type "range",data:=.fields #[.int lo t,.int hi u,.int 1 v] },toks:=tk }:=by
 refine wpAny_pyIter_range (IsRange.new ..) (small_one h j f g) ?_;have c:ZO X a Z H { s with heap:=s.heap.push { cls:=.type "range",data:=.fields #[.int lo t,.int hi u,.int 1 v] },toks:=tk }:=I.kept λb o e=>qA0 _ e;refine⟨(s.heap.push { cls:=.type "range",data:=.fields #[.int lo t,.int hi u,.int 1 v] }).objs.size,[(s.heap.push { cls:=.type "range",data:=.fields #[.int lo t,.int hi u,.int 1 v] }).objs.size],_,_,H,rfl,
  c.kept (t':=tk) λb o e=>qA0 _ e,zK _ lo (hi - lo).toNat,?_,λb i=>?_,q⟩
 .have k:lo+((0:Nat):Int)*1=lo:=by simp
  have d:(((hi - lo).toNat:Nat):Int) - ((0:Nat):Int)=Builtin.Range.rangeSize lo hi 1:=by rw[rangeSize_one];split<;>lia
  rw[k,d];exact qA7 _ rfl
 .have e:b=(s.heap.push { cls:=.type "range",data:=.fields #[.int lo t,.int hi u,.int 1 v] }).objs.size:=by simpa using i
  subst e;exact c.fpOk (qA6 _) (c.hok.fresh (qA6 _))
def GA(b:TA):TI:=fun Z H R=>b Z H λa c=>∃j:Int,a=[.int j]/\-(2 ^ 62)<=j/\j<2 ^ 62/\R (QN 0 j.toNat) c
def Gz(b:TA):TI:=fun Z H R=>b Z H λa c=>∃i j:Int,a=[.int i,.int j]/\(-(2 ^ 62)<=i/\i<2 ^ 62/\-(2 ^ 62)<=j/\j<2 ^ 62)/\R (QN i (j - i).toNat) c
theorem zJ(m:Gl X "range")(k:X.mg "range"=Z8)(n:PA X [a] d)(g:y3 [a] X.env=[(Z5,jW a X.env)]:=by rfl):PI X tg (.Call (.Name "range" p) [a] [] pos) (GA d):=by
 intro b s Z H R I h;refine Call_ (TC I m k boot_range (jP (Zt (n pos b s Z H _ I h) λv u ⟨w,x,l,i,c⟩=>?_) g rfl));obtain⟨j,e,c,f,q⟩:=c;subst e;cases i with
 |cons r o =>
  cases o;obtain⟨t,rfl⟩:=r;exact call_range_1 (GB l (by lia) (by lia) c f (by simpa using q))
theorem zI{p pos:Pos}(y:Gl X "range")(w:X.mg "range"=Z8)(z:PA X [a,b] k)(o:y3 [a,b] X.env=[(Z5,jW a X.env),(Z5,jW b X.env)]:=by rfl)(d:y3 [b] X.env=[(Z5,jW b X.env)]:=by rfl):
  PI X tg (.Call (.Name "range" p) [a,b] [] pos) (Gz k):=by
 intro c s Z H R I h;refine Call_ (TC I y w boot_range (jP (Zt (z pos c s Z H _ I h) λB A ⟨C,D,x,v,f⟩=>?_) (by rw[o,d]) (by rw[d];rfl)));obtain⟨i,j,e,⟨f,m,l,u⟩,q⟩:=f;subst e;cases v with
 |cons r g =>
  cases g with
  |cons n g =>
   cases g;obtain⟨t,rfl⟩:=r;obtain⟨E,rfl⟩:=n;exact call_range_2 (GB x f m l u q)
def L3(h:TI)(g:TG)(e:TS):TS:=λD Z H=>h Z H λb j=>∃W:Nat->Nat->St->Hp->Prop,(∃m,W 0 m Z j)/\∀i m Z H,W i m Z H ->
 (b.stop i H/\D.nx Z H)∨(b.go i H/\∃N:St->Hp->Prop,(∀d a,N d a->∃c,c<m/\W (i+1) c d a)/\∀x a,b.yld i H x a->g x Z a fun k f=>e { D with nx:=N,ct:=N,bk:=D.nx } k f)
def QM(a:yC)(h:y9):yD:=a.filterMap λb=>(h.get? b).map λo=>(b,o)
theorem QL(c:b∈a)(e:h.get? b=Z9 o):(b,o)∈QM a h:=qF2.mpr ⟨b,c,by rw[e];rfl⟩
theorem zH(f:p∈QM a h):p.1∈a/\h.get? p.1=Z9 p.2:=by
 obtain⟨b,c,e⟩:=qF2.mp f;cases q:h.get? b with
 |none=>rw[q]at e;cases e
 |some o =>
  rw[q]at e;have d:=Option.some.inj e;subst d;exact⟨c,q⟩
theorem ZO.pinned{Z:St}(I:ZO X a Z H s)(j:∀b∈c,X7 X a H b)(m:∀b∈c,∃o,s.heap.get? b=Z9 o/\∀v,o.data≠.cell v):ZO X (a++QM c s.heap) Z H s :=
 I.pins_of λp k=>(qC3.mp k).elim (λz=>I.pin p (qC7 _ z)) λz=>by obtain⟨g,e⟩:=zH z;obtain⟨i,l,h,_⟩:=j p.1 g;obtain⟨o,f,d⟩:=m p.1 g;rw[e]at f;cases f;exact⟨e,i,l,h,d⟩
theorem ZO.unpinned{Z:St}(I:ZO X (a++pl) Z H s):ZO X a Z H s:=I.pins_of λp b=>I.pin p (qC7 _ (qD3 _ b))
theorem zG(G:mX (yW X.prog X.w) X.A X.env X.xe)(hc:X.calm=Z7)(hi:PI X tg iter U)(hg:PG X tg g)(l:Xw X body Q)
  (hs:∀x,wE iter X.env x=pure x:=by intro _;rfl):PS X (.For tg iter body [] pos) (L3 U g Q):=by
 intro a s Z H D I h;refine wpAny_For (Zt (hi a s Z H _ I h) λv s1 h1=>Zt h1 λitv s2 h2=>?_) hs;obtain⟨it,z,R,JJ,H2,e,I2,T,O,f2,W,⟨m0,w0⟩,E⟩:=h2;subst e;have j:∀{H':Hp},(∀b∈z,H' b=Z8)->∀b∈z,X7 X a H' b:=λhn b l=>⟨hn b l,(f2 b l).2⟩
 refine codeAny_forLoop_any (λn s'=>∃i F H',ZO X a F H' s'/\R i s'.heap/\(∀b∈z,H' b=Z8)/\W i n F H') ?_ m0 ⟨0,Z,H2,I2,O,λb l=>(f2 b l).1,w0⟩;rintro n s3 ⟨i,w,J,V,A,B,w3⟩;rcases E i n w J w3 with⟨C,qn⟩| ⟨go,N,hN,step⟩
 .refine vP G (Zt (T.done X rfl rfl rfl hc i a s3 w J X.xe V (j B) A C) λr s4 ⟨K,I4⟩=>?_);subst K;exact fY ⟨w,J,I4,qn⟩
 .refine vP G (Zt (T.item X rfl rfl rfl hc i a s3 w J X.xe V (j B) A go) λr s4 ⟨u,K,h4⟩=>?_);subst K;refine vP G (Zt h4 λ_ S ⟨x,Y,I5,r5,y5,t,L⟩=>?_);have M:=I5.pinned (j L) (T.obj _ _ t);refine vP G (Zt (hg _ S w Y x u _ M r5 (step x Y y5)) λ_ s6 ⟨Z6,H6,I6,q6⟩=>?_);refine vP G (Zt (l _ s6 Z6 H6 _ I6 q6) λf P q=>?_);have again:∀{p:St}{k:Hp},ZO X (a++QM z S.heap) p k P->N p k->∃m,m<n/\∃i F H',ZO X a F H' P/\R i P.heap/\(∀b∈z,H' b=Z8)/\W i m F H':=λ{p k} c y=>by obtain⟨m',hm,w7⟩:=hN p k y;refine⟨m',hm,i+1,p,k,c.unpinned,T.keep _ _ _ t λb l o e=>(c.pin (b,o) (qC7 _ (qC7 _ (QL l e)))).1,λb l=>?_,w7⟩;obtain⟨o,e,d⟩:=T.obj _ _ t b l;exact(c.pin (b,o) (qC7 _ (qC7 _ (QL l e)))).2.1
  cases f with
  |next=>obtain⟨p,k,c,y⟩:=q;exact again c y
  |cont=>obtain⟨p,k,c,y⟩:=q;exact again c y
  |brk=>obtain⟨p,k,c,q⟩:=q;exact⟨p,k,c.unpinned,q⟩
  |ret v=>obtain⟨x7,p,k,c,r7,q⟩:=q;exact⟨x7,p,k,c.unpinned,r7,q⟩
end
abbrev R2:=V->V->Hp->VK->Prop
def YW(X:Cx)(f:yT->yT->Sem yT)(r:R2):Prop :=
 ∀(a:yD) (s:yS) (Z:St) (H:Hp) (x y:V) (v u:yT) (Q:VK),ZO X a Z H s->ZG x v->ZG y u->r x y H Q ->
  y2 (yW X.prog X.w) X.A (f v u) (EP X a Z Q) X.xe s
def QK(X:Cx)(f:yT->Sem yT)(r:V->Hp->VK->Prop):Prop :=
 ∀(a:yD) (s:yS) (Z:St) (H:Hp) (x:V) (v:yT) (Q:VK),ZO X a Z H s->ZG x v->r x H Q ->
  y2 (yW X.prog X.w) X.A (f v) (EP X a Z Q) X.xe s
def Yk(X:Cx)(f:yT)(r:List V->Hp->VK->Prop):Prop :=
 ∀(a:yD) (s:yS) (Z:St) (H:Hp) (c:List V) (b:yB) (Q:VK),ZO X a Z H s->ZJ c b->r c H Q ->
  y2 (yW X.prog X.w) X.A (mY f b) (EP X a Z Q) X.xe s
def L1(X:Cx)(r:V->Hp->(Bool->Hp->Prop)->Prop):Prop :=
 ∀(a:yD) (s:yS) (Z:St) (H:Hp) (x:V) (v:yT) (Q:Bool->Hp->Prop),ZO X a Z H s->ZG x v->r x H Q ->
  y2 (yW X.prog X.w) X.A (truthy v) (TP X a Z Q) X.xe s
def QJ(r:R2)(c a:TE):TE:=fun Z H Q=>c Z H λx d=>a Z d λy b=>r x y b Q
def zF(r:V->Hp->VK->Prop)(a:TE):TE:=fun Z H Q=>a Z H λx b=>r x b Q
def rI(C:Int->Int->Prop)(g:Int->Int->V):R2:=λx y H Q=>∃i j,x=.int i/\y=.int j/\C i j/\Q (g i j) H
def VR(g:Int->Int->V):R2:=λx y H Q=>∃i j,x=.int i/\y=.int j/\Q (g i j) H
def rU(g:Int->V):V->Hp->VK->Prop:=λx H Q=>∃i,x=.int i/\Q (g i) H
section
variable {X:Cx}{a b c:yY}{ta tb tc:TE}{pos:Pos}
theorem SX(z:PE X a ta)(w:PE X b tb){Z:St}{R:V->V->Hp->Prop}(I:ZO X d Z H s)
  (h:ta Z H λx k=>tb Z k λy e=>R x y e) {Q:yL}{f:yT->yT->Sem yT}
  (n:∀v u j x y e,ZO X d Z e j->ZG x v->ZG y u->R x y e->y2 (yW X.prog X.w) X.A (f v u) Q X.xe j) :
  y2 (yW X.prog X.w) X.A (jW a X.env) (λv i=>y2 (yW X.prog X.w) X.A (jW b X.env) (λu g=>y2 (yW X.prog X.w) X.A (f v u) Q X.xe g) X.xe i) X.xe s:=by refine Zt (z d s Z H _ I h) λv l ⟨x,k,t,r,q⟩=>?_;refine Zt (w d l Z k _ t q) λu j ⟨y,e,p,o,m⟩=>?_;exact n v u j x y e p r o m
theorem zE(m:YW X (jJ op) r)(l:PE X a ta)(k:PE X b tb):PE X (.BinOp a op b pos) (QJ r ta tb):=by intro d s Z H Q I h;exact wpAny_BinOp (SX l k I h λv u i x y e j f g q=>m d i Z e x y v u Q j f g q)
theorem zD(l:QK X (unaryOp op) r)(j:PE X a ta):PE X (.UnaryOp op a pos) (zF r ta):=by intro d s Z H Q I h;exact UnaryOp_ (Zt (j d s Z H _ I h) λv e ⟨x,k,i,g,f⟩=>l d e Z k x v Q i g f)
theorem RJ{g:Int->Int->Int}
  (rule:∀(i j:Int) (t u:Tok) (s:yS) (Q:yL) (E:yL),C i j->Q (.int (g i j) s.toks) { s with toks:=s.toks+1 }->y2 (yW X.prog X.w) X.A (f (.int i t) (.int j u)) Q E s) :
  YW X f (rI C λi j=>.int (g i j)):=by intro d s Z H x y v u Q I e k h;obtain⟨i,j,rfl,rfl,m,q⟩:=h;obtain⟨t,rfl⟩:=e;obtain⟨l,rfl⟩:=k;exact rule i j t l s _ _ m ⟨.int (g i j),H,I.tok _,⟨_,rfl⟩,q⟩
theorem U7{g:Int->Int->Int}
  (rule:∀(i j:Int) (t u:Tok) (s:yS) (Q:yL) (E:yL),Q (.int (g i j) s.toks) { s with toks:=s.toks+1 }->y2 (yW X.prog X.w) X.A (f (.int i t) (.int j u)) Q E s) :
  YW X f (VR λi j=>.int (g i j)):=by intro d s Z H x y v u Q I e k h;obtain⟨i,j,rfl,rfl,q⟩:=h;obtain⟨t,rfl⟩:=e;obtain⟨l,rfl⟩:=k;exact rule i j t l s _ _ ⟨.int (g i j),H,I.tok _,⟨_,rfl⟩,q⟩
theorem Ur{g:Int->Int->Bool}
  (rule:∀(i j:Int) (t u:Tok) (s:yS) (Q:yL) (E:yL),Q (.bool (g i j)) s->y2 (yW X.prog X.w) X.A (f (.int i t) (.int j u)) Q E s) :
  YW X f (VR λi j=>.bl (g i j)):=by intro d s Z H x y v u Q I e k h;obtain⟨i,j,rfl,rfl,q⟩:=h;obtain⟨t,rfl⟩:=e;obtain⟨l,rfl⟩:=k;exact rule i j t l s _ _ ⟨.bl (g i j),H,I,rfl,q⟩
def L0(i j:Int):Prop:=0<j/\j<1073741824
def QI(i j:Int):Prop:=0<=j/\j<=1000000/\i.natAbs<2 ^ 64
def Uq(i j:Int):Prop:=(-(2 ^ 64)<i/\i<2 ^ 64)∨(-(2 ^ 64)<j/\j<2 ^ 64)
theorem Uq.ok(h:Uq i j):IntMulOk i j:=by
 rcases h with⟨e,d⟩| ⟨e,d⟩
 .exact .of_left (intBits_le_64 e d)
 .exact .of_right (intBits_le_64 e d)
theorem zC(k:Nat):(0:Int)<=2 ^ k:=by grind
theorem zB:YW X (jJ .Add) (VR λi j=>.int (i+j)):=U7 λ_ _ _ _ _ _ _ q=>add_int q
theorem zA:YW X (jJ .Sub) (VR λi j=>.int (i - j)):=U7 λ_ _ _ _ _ _ _ q=>sub_int q
theorem zy:YW X (jJ .Mult) (rI Uq λi j=>.int (i*j)):=RJ λ_ _ _ _ _ _ _ d q=>mul_int q d.ok
theorem zw:YW X (jJ .FloorDiv) (rI L0 λi j=>.int (i / j)):=RJ λi j _ _ _ _ _ d q=>by have f:=d.1;have e:=d.2;exact floordiv_int (by omega) (by rw[qM2 i (by omega)];exact q) (.inl (PyProof.noPylong_small (by omega)))
theorem zv:YW X (jJ .Mod) (rI (λ_ j=>0<j) λi j=>.int (i % j)):=RJ λi j _ _ _ _ _ d q=>by exact mod_int' (by lia) (by rw[Int.fmod_eq_emod_of_nonneg i (by lia)];exact q)
theorem zu:YW X (jJ .Pow) (rI QI λi j=>.int (i ^ j.toNat)):=RJ λ_ _ _ _ _ _ _ d q=>pow_int_small d.1 d.2.1 d.2.2 q
theorem zt:YW X (jJ .LShift) (rI QI λi j=>.int (i*2 ^ j.toNat)):=RJ λ_ _ _ _ _ _ _ d q=>lshift_int_small d.1 d.2.1 d.2.2 q
theorem zr:YW X (jJ .RShift) (rI (λ_ j=>0<=j) λi j=>.int (i / 2 ^ j.toNat)):=RJ λi j _ _ _ _ _ d q =>
 rshift_int d (by rw[qM2 i (zC _)];exact q)
theorem zq:YW X (jJ .BitAnd) (VR λi j=>.int (wF i j)):=U7 λ_ _ _ _ _ _ _ q=>and_int q
theorem zo:YW X (jJ .BitOr) (VR λi j=>.int (m6 i j)):=U7 λ_ _ _ _ _ _ _ q=>or_int q
theorem zk:YW X (jJ .BitXor) (VR λi j=>.int (mI i j)):=U7 λ_ _ _ _ _ _ _ q=>xor_int q
theorem zj{g:Int->Int}
  (rule:∀(i:Int) (t:Tok) (s:yS) (Q:yL) (E:yL),Q (.int (g i) s.toks) { s with toks:=s.toks+1 }->y2 (yW X.prog X.w) X.A (f (.int i t)) Q E s) :
  QK X f (rU λi=>.int (g i)):=by intro d s Z H x v Q I e h;obtain⟨i,rfl,q⟩:=h;obtain⟨t,rfl⟩:=e;exact rule i t s _ _ ⟨.int (g i),H,I.tok _,⟨_,rfl⟩,q⟩
theorem zh:QK X (unaryOp .USub) (rU λi=>.int (-i)):=zj λ_ _ _ _ _ q=>neg_int q
end
def QH:V->V->Bool
 |.non,.non=>Z7|.non,.int _=>Z7|.int _,.non=>Z7|.non,.bl _=>Z7|.bl _,.non=>Z7|.non,.str _=>Z7|.str _,.non=>Z7
 |.int _,.int _=>Z7|.bl _,.bl _=>Z7|.str _,.str _=>Z7|.byt _,.byt _=>Z7
 |.int _,.str _=>Z7|.str _,.int _=>Z7|.bl _,.str _=>Z7|.str _,.bl _=>Z7
 |_,_=>Z5
def zd:R2:=λx y H Q=>QH x y=Z7/\Q (.bl (decide (x=y))) H
def y1:R2:=λx y H Q=>QH x y=Z7/\Q (.bl (!decide (x=y))) H
theorem Gy:decide (V.int i=V.int j)=(i == j):=by grind
theorem Gx:decide (V.bl i=V.bl j)=(i == j):=by grind
theorem Gw:decide (V.str i=V.str j)=(i == j):=by grind
theorem Gv:decide (V.byt i=V.byt j)=(i.toList == j.toList):=by rw[Bool.eq_iff_iff];cases i;cases j;simp
section
variable {X:Cx}{a b c:yY}{ta tb tc:TE}{pos:Pos}
theorem Yd{Z:St}(I:ZO X d Z H s)(q:Q (.bl k) H)(e:k=f):EP X d Z Q (.bool f) s:=by subst e;exact⟨.bl k,H,I,rfl,q⟩
theorem y0:YW X (yZ .Eq) zd:=by
 intro k s Z H x y v u Q I g d h;obtain⟨f,q⟩:=h;cases x with
 |non =>
  cases g;cases y with
  |non=>cases d;exact PySem.EqNone.eq_none_none (Yd I q (by simp))
  |bl j=>cases d;exact PySem.EqNone.eq_none_bool (Yd I q (by simp))
  |int j=>obtain⟨e,rfl⟩:=d;exact PySem.EqNone.eq_none_int (Yd I q (by simp))
  |str j=>obtain⟨e,rfl⟩:=d;exact PySem.EqNone.eq_none_str (Yd I q (by simp))
  |_=>exact absurd (show Z5=Z7 from f) qB0
 |bl i =>
  cases g;cases y with
  |non=>cases d;exact PySem.EqNone.eq_bool_none (Yd I q (by simp))
  |bl j=>cases d;exact eq_bool (Yd I q Gx)
  |str j=>obtain⟨e,rfl⟩:=d;exact PySem.EqMixed.eq_bool_str (Yd I q (by simp))
  |_=>exact absurd (show Z5=Z7 from f) qB0
 |int i =>
  obtain⟨t,rfl⟩:=g;cases y with
  |non=>cases d;exact PySem.EqNone.eq_int_none (Yd I q (by simp))
  |int j=>obtain⟨e,rfl⟩:=d;exact eq_int (Yd I q Gy)
  |str j=>obtain⟨e,rfl⟩:=d;exact PySem.EqMixed.eq_int_str (Yd I q (by simp))
  |_=>exact absurd (show Z5=Z7 from f) qB0
 |str i =>
  obtain⟨t,rfl⟩:=g;cases y with
  |non=>cases d;exact PySem.EqNone.eq_str_none (Yd I q (by simp))
  |bl j=>cases d;exact PySem.EqMixed.eq_str_bool (Yd I q (by simp))
  |int j=>obtain⟨e,rfl⟩:=d;exact PySem.EqMixed.eq_str_int (Yd I q (by simp))
  |str j=>obtain⟨e,rfl⟩:=d;exact eq_str (Yd I q Gw)
  |_=>exact absurd (show Z5=Z7 from f) qB0
 |byt i =>
  obtain⟨t,rfl⟩:=g;cases y with
  |byt j=>obtain⟨e,rfl⟩:=d;exact W.eq_bytes (Yd I q Gv)
  |_=>exact absurd (show Z5=Z7 from f) qB0
 |_=>cases y<;>exact absurd (show Z5=Z7 from f) qB0
theorem yz:YW X (yZ .NotEq) y1:=by
 intro k s Z H x y v u Q I g d h;obtain⟨f,q⟩:=h;cases x with
 |non =>
  cases g;cases y with
  |non=>cases d;exact PySem.EqNone.ne_none_none (Yd I q (by simp))
  |bl j=>cases d;exact PySem.EqNone.ne_none_bool (Yd I q (by simp))
  |int j=>obtain⟨e,rfl⟩:=d;exact PySem.EqNone.ne_none_int (Yd I q (by simp))
  |str j=>obtain⟨e,rfl⟩:=d;exact PySem.EqNone.ne_none_str (Yd I q (by simp))
  |_=>exact absurd (show Z5=Z7 from f) qB0
 |bl i =>
  cases g;cases y with
  |non=>cases d;exact PySem.EqNone.ne_bool_none (Yd I q (by simp))
  |bl j=>cases d;exact ne_bool (Yd I q (congrArg not Gx))
  |str j=>obtain⟨e,rfl⟩:=d;exact PySem.EqMixed.ne_bool_str (Yd I q (by simp))
  |_=>exact absurd (show Z5=Z7 from f) qB0
 |int i =>
  obtain⟨t,rfl⟩:=g;cases y with
  |non=>cases d;exact PySem.EqNone.ne_int_none (Yd I q (by simp))
  |int j=>obtain⟨e,rfl⟩:=d;exact ne_int (Yd I q (congrArg not Gy))
  |str j=>obtain⟨e,rfl⟩:=d;exact PySem.EqMixed.ne_int_str (Yd I q (by simp))
  |_=>exact absurd (show Z5=Z7 from f) qB0
 |str i =>
  obtain⟨t,rfl⟩:=g;cases y with
  |non=>cases d;exact PySem.EqNone.ne_str_none (Yd I q (by simp))
  |bl j=>cases d;exact PySem.EqMixed.ne_str_bool (Yd I q (by simp))
  |int j=>obtain⟨e,rfl⟩:=d;exact PySem.EqMixed.ne_str_int (Yd I q (by simp))
  |str j=>obtain⟨e,rfl⟩:=d;exact ne_str (Yd I q (congrArg not Gw))
  |_=>exact absurd (show Z5=Z7 from f) qB0
 |byt i =>
  obtain⟨t,rfl⟩:=g;cases y with
  |byt j=>obtain⟨e,rfl⟩:=d;exact W.ne_bytes (Yd I q (congrArg not Gv))
  |_=>exact absurd (show Z5=Z7 from f) qB0
 |_=>cases y<;>exact absurd (show Z5=Z7 from f) qB0
theorem yy:YW X (yZ .Lt) (VR λi j=>.bl (decide (i<j))):=Ur λ_ _ _ _ _ _ _ q=>lt_int q
theorem yx:YW X (yZ .LtE) (VR λi j=>.bl (decide (i<=j))):=Ur λ_ _ _ _ _ _ _ q=>le_int q
theorem yw:YW X (yZ .Gt) (VR λi j=>.bl (decide (j<i))):=Ur λ_ _ _ _ _ _ _ q=>gt_int q
theorem yv:YW X (yZ .GtE) (VR λi j=>.bl (decide (j<=i))):=Ur λ_ _ _ _ _ _ _ q=>ge_int q
theorem yu:YW X (yZ .In) (λx y H Q=>∃i j,x=.str i/\y=.str j/\Q (.bl (!(Builtin.Str.occurrences j i 0 j.length 1).isEmpty)) H):=by intro d s Z H x y v u Q I e f h;obtain⟨i,j,rfl,rfl,q⟩:=h;obtain⟨t,rfl⟩:=e;obtain⟨g,rfl⟩:=f;exact in_str (Yd I q rfl)
theorem yt:YW X (yZ .Is) (λx y H Q=>y=.non/\Q (.bl (decide (x=.non))) H):=by
 intro d s Z H x y v u Q I e f h;obtain⟨rfl,q⟩:=h;cases f;refine is_none_gen (Yd I q ?_);cases x<;>first
  |(cases e;rfl)
  |(obtain⟨t,rfl⟩:=e;rfl)
theorem yr:YW X (yZ .IsNot) (λx y H Q=>y=.non/\Q (.bl (!decide (x=.non))) H):=by
 intro d s Z H x y v u Q I e f h;obtain⟨rfl,q⟩:=h;cases f;refine isnot_none_gen (Yd I q ?_);cases x<;>first
  |(cases e;rfl)
  |(obtain⟨t,rfl⟩:=e;rfl)
theorem yq(n:YW X (yZ op) r)(m:PE X a ta)(l:PE X b tb)(k:fT op b=Z5):PE X (.Compare a [op] [b] pos) (QJ r ta tb):=by intro d s Z H Q I h;exact wpAny_Compare1 (SX m l I h λv u i x y e j f g q=>n d i Z e x y v u Q j f g q) k
def LZ(t:TE):TT:=fun Z H Q=>t Z H λx d=>∃k,x=.bl k/\Q k d
theorem yo(F:YW X (yZ op) r)(D:PE X a ta)(B:PE X b tb)(q:fT op b=Z5):PT X (.Compare a [op] [b] pos) (LZ (QJ r ta tb)):=by
 intro d s Z H Q I h;refine wpAny_isTrue_Compare1 (Zt (D d s Z H _ I h) λv g ⟨x,w,t,p,o⟩=>Zt (B d g Z w _ t o) λu m ⟨y,f,n,l,j⟩ =>
  Zt (F d m Z f x y v u _ n p l j) λc G ⟨z,C,E,A,k,e,i⟩=>?_) q
 subst e;cases A;exact jH ⟨C,E,i⟩
def LY(r l:R2)(i e tc:TE):TE:=fun Z H Q=>i Z H λx j=>e Z j λy g=>r x y g λz d=>∃k,z=.bl k /\
 (if k=Z7 then tc Z d λh f=>l y h f Q else Q (.bl Z5) d)
theorem ym(S:YW X (yZ op) r)(i:YW X (yZ g) l)(R:PE X a ta)(O:PE X b tb)(V:PE X c tc)
  (J:fL [op,g] [b,c]=Z5:=by with_unfolding_all rfl):PE X (.Compare a [op,g] [b,c] pos) (LY r l ta tb tc):=by
 intro f s Z H Q I h;refine Compare_chain (Zt (R f s Z H _ I h) λv t ⟨x,L,K,G,F⟩=>chain_link (Zt (O f t Z L _ K F) λu C ⟨y,p,E,m,w⟩ =>
  Zt (S f C Z p x y v u _ E G m w) λd N ⟨z,n,o,M,k,e,j⟩=>?_)) J
 subst e;cases M;refine jH ?_;cases k with
 |false=>exact ite_ff ⟨.bl Z5,n,o,rfl,j⟩
 |true=>exact ite_tt (chain_last (Zt (V f N Z n _ o j) λq A ⟨U,P,T,D,B⟩=>i f A Z P y U u q Q T m D B))
theorem yl(ho:YW X (yZ op) r)(i:YW X (yZ g) l)(W:PE X a ta)(U:PE X b tb)(hc:PE X c tc)
  (N:fL [op,g] [b,c]=Z5:=by with_unfolding_all rfl):PT X (.Compare a [op,g] [b,c] pos) (LZ (LY r l ta tb tc)):=by
 intro f s Z H Q I h;refine isTrue_chain (Zt (W f s Z H _ I h) λv w ⟨x,P,O,M,L⟩=>test_link (Zt (U f w Z P _ O L) λu G ⟨y,p,K,m,A⟩ =>
  Zt (ho f G Z p x y v u _ K M m A) λd T ⟨z,n,o,S,k,e,j⟩=>?_)) N
 subst e;cases S;refine jH ?_;cases k with
 |false =>
  obtain⟨k',R,C⟩:=j;cases R;exact ite_ff ⟨n,o,C⟩
 |true =>
  refine ite_tt (test_last (Zt (hc f T Z n _ o j) λt D ⟨z',V,I4,J,E⟩=>Zt (i f D Z V y z' u t _ I4 m J E) λd' s5 ⟨z2,q,Y,F,k2,B,q5⟩=>?_));subst B;cases F;exact jH ⟨q,Y,q5⟩
def SW(K:yQ)(x:V)(H:Hp)(k:Bool):Prop :=
 match x with
 |.non=>k=Z5
 |.bl b=>k=b
 |.int i=>k=(i != 0)
 |.str y=>y.length<=yV/\k=((y.length:Int) != 0)
 |.byt y=>y.size<=yV/\k=((y.size:Int) != 0)
 |.ref p=>(∃e,YK K H p e/\k=!e.isEmpty)∨(∃e,Zp K H p e/\k=!e.isEmpty)∨∃d,H p=Z9 (.dK d)/\k=!d.isEmpty
 |_=>False
theorem yk{vs:List (e×yT)}(r:KV d vs):(!vs.isEmpty)=!d.isEmpty:=by cases r<;>rfl
theorem Gu(r:ZJ xs d):(!d.toArray.isEmpty)=!xs.isEmpty:=by cases r<;>simp
theorem RI:(yV:Nat)<2 ^ 63:=by decide
theorem yj:L1 X (λx H Q=>∃k,SW X.K x H k/\Q k H):=by
 intro u s Z H x v Q I g h;obtain⟨k,e,q⟩:=h;have C:=j7;cases x with
 |non =>
  cases g;have d:k=Z5:=e;subst d;exact truthy_none ⟨H,I,q⟩
 |bl b =>
  cases g;have d:k=b:=e;subst d;exact jH ⟨H,I,q⟩
 |int i =>
  obtain⟨t,rfl⟩:=g;have d:=e;subst d;exact PySem.P.truthy_int ⟨H,I,q⟩
 |str y =>
  obtain⟨t,rfl⟩:=g;obtain⟨z,d⟩:y.length<=yV/\k=((y.length:Int) != 0):=e;subst d;exact PySem.P.truthy_str (by lia) ⟨H,I.tok _,q⟩
 |byt y =>
  obtain⟨t,rfl⟩:=g;obtain⟨z,d⟩:y.size<=yV/\k=((y.size:Int) != 0):=e;subst d;exact W.truthy_bytes (by lia) ⟨H,I.tok _,q⟩
 |ref p =>
  cases g;have d:=e;rcases d with⟨B,l,d⟩| ⟨B,l,d⟩| ⟨j,l,d⟩
  .subst d;obtain⟨o,r,n,w⟩:=I.list l;have f:=r.length;exact wpAny_truthy_list n.isList (by simp only[qB3];lia) ⟨H,I.tok _,by rw[Gu r];exact q⟩
  .subst d;obtain⟨o,r,n,w⟩:=I.tuple l;have f:=r.length;exact truthy_tuple n (by simp only[qB3];lia) ⟨H,I.tok _,by rw[Gu r];exact q⟩
  .subst d;obtain⟨w,A,vs,r,m⟩:j.length<=yV/\(p == jZ)=Z5/\∃vs,KV j vs/\s.heap.DictOf (Yp X.prog X.w) p vs:=I.hok p _ l;have f:=Paired.length r;exact wpAny_truthy_dict A m (by lia) ⟨H,I.tok _,by rw[yk r];exact q⟩
 |_=>exact(e).elim
theorem yi(n:PE X a ta)(he:∀d,uB a X.env d=(do let v <- d;gU a.pos;wJ [v] (truthy v))):
  PT X a (fun Z H Q=>ta Z H λx f=>∃k,SW X.K x f k/\Q k f):=by intro e s Z H Q I h;exact isTrue_plain (Zt (n e s Z H _ I h) λv j ⟨x,m,l,i,g⟩=>yj e j Z m x v Q l i g) (he _)
theorem yh:YW X (jJ .Add) (λx y H Q=>∃i j,x=.str i/\y=.str j/\i.length+j.length<=yV/\Q (.str (i++j)) H):=by intro d s Z H x y v u Q I e f h;obtain⟨i,j,rfl,rfl,g,q⟩:=h;obtain⟨t,rfl⟩:=e;obtain⟨k,rfl⟩:=f;exact add_str (λk l=>⟨.str (i++j),H,I.tok _,⟨_,rfl⟩,q⟩) g
theorem XC(r:ZJ [x] us):∃u,us=[u]/\ZG x u:=by
 cases r with
 |cons d e=>cases e;exact⟨_,rfl,d⟩
theorem QG(r:ZJ [x,y] us):∃u w',us=[u,w']/\ZG x u/\ZG y w':=by
 cases r with
 |cons e f =>
  cases f with
  |cons g d=>cases d;exact⟨_,_,rfl,e,g⟩
theorem yg(f:X.calm=Z7):Yk X (.builtin "max") (λxs H Q=>∃i j,xs=[.int i,.int j]/\Q (.int (if j>i then j else i)) H):=by
 intro e s Z H xs m Q I r h;obtain⟨i,j,rfl,q⟩:=h;obtain⟨u,g,rfl,⟨t,rfl⟩,⟨n,rfl⟩⟩:=QG r;refine max_two_ints (I.ok.hd f) λl o k=>⟨_,H,I.kept k,?_,q⟩
 by_cases d:j>i
 .rw[if_pos d,if_pos d];exact⟨_,rfl⟩
 .rw[if_neg d,if_neg d];exact⟨_,rfl⟩
theorem yf(f:X.calm=Z7):Yk X (.builtin "min") (λxs H Q=>∃i j,xs=[.int i,.int j]/\Q (.int (if j<i then j else i)) H):=by
 intro e s Z H xs m Q I r h;obtain⟨i,j,rfl,q⟩:=h;obtain⟨u,g,rfl,⟨t,rfl⟩,⟨n,rfl⟩⟩:=QG r;refine min_two_ints (I.ok.hd f) λl o k=>⟨_,H,I.kept k,?_,q⟩
 by_cases d:j<i
 .rw[if_pos d,if_pos d];exact⟨_,rfl⟩
 .rw[if_neg d,if_neg d];exact⟨_,rfl⟩
theorem Gs:Yk X (.type "int") (λxs H Q=>(∃i,xs=[.int i]/\Q (.int i) H)∨∃k,xs=[.bl k]/\Q (.int (if k then 1 else 0)) H):=by
 intro d s Z H xs f Q I r h;rcases h with⟨i,rfl,q⟩| ⟨k,rfl,q⟩
 .obtain⟨u,rfl,t,rfl⟩:=XC r;exact call_int_int ⟨.int i,H,I,⟨_,rfl⟩,q⟩
 .obtain⟨u,rfl,e⟩:=XC r;cases e;exact call_int_bool ⟨.int (if k then 1 else 0),H,I.tok _,⟨_,rfl⟩,q⟩
theorem ye:Yk X (.type "str") (λxs H Q=>∃i,xs=[.int i]/\i.natAbs.log2<1920/\Q (.str (toString i)) H):=by intro d s Z H xs f Q I r h;obtain⟨i,rfl,e,q⟩:=h;obtain⟨u,rfl,t,rfl⟩:=XC r;exact PySem.P.str_of_int e ⟨.str _,H,I.tok _,⟨_,rfl⟩,q⟩
end
structure WB(h:y9)(x dx C:yR)(mA:Str->yF):Prop where
 obj:h.get? x=Z9 (wC C dx)
 ns:h.Ns1 dx mA
 ne:dx≠x
theorem yd{h:y9}{f:Str->yF}(n:h.Ns1 i f):∃g,h.get? i=Z9 g/\∀b,W.lookIn b g=Z9 (f b):=by
 obtain⟨o,d,r,p,j,hk,_,k⟩:=n;refine⟨o,p,λb=>?_⟩;have e:=k b;unfold nsFind findBy at e;rw[<- Array.find?_toList]at e;unfold W.lookIn;rw[j];dsimp only;split
 .rename_i y q;rw[q]at e;exact congrArg Z9 e
 .rename_i q;rw[q]at e;have a:d.toList.any (·.refKey)=Z5:=by rw[List.any_eq_false];intro y l;obtain⟨z,t,c⟩:=hk y (Array.mem_toList_iff.mp l);simp[DictEntry.refKey,c]
  have m:¬d.toList.any (·.refKey)=Z7:=by rw[a];exact qB0
  rw[if_neg m];exact congrArg Z9 e
theorem WB.look(I:WB h x c C d):∃b,W.InstAt h x (wC C c) C (Z9 b)/\∀a,W.lookIn a b=Z9 (d a) :=
 let ⟨b,ho,hl⟩:=yd I.ns
 ⟨b,⟨I.obj,rfl,rfl,ho⟩,hl⟩
section
variable {prog:yX}{w:y8}{A:y7}{E:yL}{s:yS}{K:yQ}{x dx C f:yR}{mA:Str->yF}{name:Str}{v:yT}
theorem yc{Q:yL}(X:K.In s.heap)(I:WB s.heap x dx C mA)(e:lK K C name=Z7)(i:mJ K C=Z7)
  (g:wB K (.ref C) name=Z9 Z8) (hv:mA name=Z9 v) (b:W.handedIn v=Z7) (h:Q v { s with toks:=s.toks+1 }) :
  y2 (yW prog w) A (getAttr (.ref x) name a) Q E s:=by obtain⟨j,c,d⟩:=I.look;exact W.get_value X c (m7 e).1 (W.findObj_own i g rfl (by rw[d,hv])) b h
theorem yb{Q:yT×yB->yS->Prop}(X:K.In s.heap)(I:WB s.heap x dx C mA)(a:lK K C name=Z7)
  (e:wB K (.ref C) name=Z9 (Z9 (.ref f))) (g:W.isFn K (.ref f)=Z7) (hv:mA name=Z8) (h:Q (.ref f,[.ref x]) s) :
  y2 (yW prog w) A (uC (.ref x) name pl) Q E s:=by obtain⟨d,b,c⟩:=I.look;exact W.method_fn X b (m7 a).1 (m7 a).2 e (beq_iff_eq.mp g) (by show(W.lookIn name d).map (·.isSome)=Z9 Z5;rw[c,hv];rfl) h
theorem ya{ns:yH}(X:K.In s.heap)(I:WB s.heap x dx C mA)
  (m:wB K (.ref C) "__setattr__"=Z9 (Z9 (.builtin "object.__setattr__"))) (q:uI K C=Z7) (p:W.takerIn K C name=Z9 Z8) (u:mJ K C=Z7)
  (o:dI mA ns) (l:ns.length<=yV)
  (h:∀h',WB h' x dx C (λy=>if y=name then Z9 v else mA y)->qE3 dx s.heap h'->Q () { s with heap:=h',toks:=s.toks+2 }) :
  y2 (yW prog w) A (setAttr (.ref x) name v) Q E s:=by obtain⟨G,k,D⟩:=I.look;refine W.set_plain X k m (W.osa_open (s:={ s with toks:=s.toks+1 }) (r:=Z8) X k q p λb=>?_);obtain⟨H,B,g⟩:=W.any_some u;have t:s.heap.get? x=Z9 ⟨.ref C,Z9 dx,.plain,#[]⟩:=I.obj;refine yO (yP (yO (yO (wpAny_loadPart t (yO (W.Looks.here (s:={ s with toks:=s.toks+1 }) (W.looks_clsIn X B) ?_))))));rw[g];refine yP (a:=Z9 dx) (yO (yP (yO ?_)));refine wpAny_nsSet1 (s:={ s with toks:=s.toks+1 }) I.ns λh' c d=>?_;obtain⟨F,z,n,j,i,e⟩:=c.count (PySem.Within.cons name v o);refine yO (wpAny_lookBehind j (by rw[i];exact pastItsLine_dict (qC5 e (by rw[qB8];lia))) ?_);exact yP (h _ ⟨(d.2 _ (Ne.symm I.ne)).trans I.obj,c,I.ne⟩ d)
theorem x3{vs:yB}(X:K.In s.heap)(b:uE K C=Z7)
  (hi:wB K (.ref C) "__init__"=Z9 (Z9 (.ref f))) (c:W.typeIn K (.ref f)=Z9 (.type "function"))
  (h:wR (yW prog w) (A.under (.builtin "type.__call__" ⟨.ref C::vs,a⟩)) (.call (.ref f) ⟨.ref (s.heap.objs.size+1)::vs,a⟩) (W.InitBack (s.heap.objs.size+1) R)
   { s with heap:=(s.heap.push wX).push (wC C s.heap.objs.size) }) :
  wR (yW prog w) A (.call (.ref C) ⟨vs,a⟩) R s:=by obtain⟨e,g,d,t,i⟩:=s;exact W.make_core (W.makes_of X b) (W.looks_findIn X hi) (λself=>W.bind_fn X self c) (.inl rfl) h
end
def Yc(f:Str)(v:V):List (Str×V)->List (Str×V)
 |[]=>[(f,v)]
 |(g,x)::r=>if g=f then(g,v)::r else(g,x)::Yc f v r
theorem Gr(f g:Str)(v:V):∀fs:List (Str×V),(Yc f v fs).lookup g=if g=f then Z9 v else fs.lookup g
 |[]=>by
  show qJ8 g [(f,v)]=_;by_cases h:g=f
  .have a:(g == f)=Z7:=beq_iff_eq.mpr h;simp only[qJ8,a,if_pos h]
  .have a:(g == f)=Z5:=beq_eq_false_iff_ne.mpr h;simp only[qJ8,a,if_neg h]
 |(k,x)::r=>by
  have b:=Gr f g v r;rw[show Yc f v ((k,x)::r)=(if k=f then(k,v)::r else(k,x)::Yc f v r)from rfl];by_cases hk:k=f
  .rw[if_pos hk];by_cases h:g=k
   .have a:(g == k)=Z7:=beq_iff_eq.mpr h;simp only[qJ8,a,if_pos (h.trans hk)]
   .have a:(g == k)=Z5:=beq_eq_false_iff_ne.mpr h;simp only[qJ8,a,if_neg (λe:g=f=>h (e.trans hk.symm))]
  .rw[if_neg hk];by_cases h:g=k
   .have a:(g == k)=Z7:=beq_iff_eq.mpr h;simp only[qJ8,a,if_neg (λe:g=f=>hk (h.symm.trans e))]
   .have a:(g == k)=Z5:=beq_eq_false_iff_ne.mpr h;simp only[qJ8,a];exact b
theorem LX(f:Str)(v:V):∀fs:List (Str×V),f∈(Yc f v fs).map (·.1)/\∀g,g∈fs.map (·.1)->g∈(Yc f v fs).map (·.1)
 |[]=>⟨by simp[Yc],λg h=>by simp at h⟩
 |(k,x)::r=>by
  obtain⟨a,b⟩:=LX f v r;rw[show Yc f v ((k,x)::r)=(if k=f then(k,v)::r else(k,x)::Yc f v r)from rfl];by_cases hk:k=f
  .rw[if_pos hk];subst hk;exact⟨by simp,λg h=>by simpa using h⟩
  .rw[if_neg hk];refine⟨?_,λg h=>?_⟩
   .rw[qB2];exact qC4 _ a
   .rw[qB2]at h ⊢;rcases qC0.mp h with e|e
    .exact qC0.mpr (.inl e)
    .exact qC4 _ (b g e)
theorem Gq(f:Str)(v:V):∀fs:List (Str×V),(Yc f v fs).length<=fs.length+1
 |[]=>by simp[Yc]
 |(k,x)::r=>by
  have a:=Gq f v r;rw[show Yc f v ((k,x)::r)=(if k=f then(k,v)::r else(k,x)::Yc f v r)from rfl];by_cases hk:k=f
  .rw[if_pos hk,qB8,qB8];lia
  .rw[if_neg hk,qB8,qB8];lia
theorem Yh.some_of(r:Yh (Z9 v) o):∃u,o=Z9 u/\ZG v u:=by
 cases o with
 |none=>exact(r).elim
 |some u=>exact⟨u,rfl,r⟩
theorem Yh.none_of(r:Yh Z8 o):o=Z8:=by
 cases o with
 |none=>rfl
 |some u=>exact(show False from r).elim
theorem x2(r:ZG v u):W.handedIn u=Z7:=by
 cases v with
 |non=>cases (show u=Value.none from r);rfl
 |bl b=>cases (show u=Value.bool b from r);rfl
 |int i=>obtain⟨t,e⟩:=(show ∃t,u=Value.int i t from r);cases e;rfl
 |str x=>obtain⟨t,e⟩:=(show ∃t,u=Value.str x t from r);cases e;rfl
 |byt b=>obtain⟨t,e⟩:=(show ∃t,u=Value.bytes b t from r);cases e;rfl
 |flt b=>obtain⟨t,e⟩:=(show ∃t,u=Value.float b t from r);cases e;rfl
 |ref a=>cases (show u=Value.ref a from r);rfl
 |ty n=>cases (show u=Value.type n from r);rfl
section
variable {P:yX}{w:y8}{H H':Hp}{h h':y9}{a C dx:yR}{fs fs':List (Str×V)}
theorem xZ(c:Ye P w H h)(e:H a=Z9 (.ins C dx fs)):∃b,WB h a dx C b/\(∀f,Yh (fs.lookup f) (b f))/\dI b (fs.map (·.1))/\fs.length<=1000/\H dx=Z9 (.own a):=by
 obtain⟨d,z,ne,g,b,n,r,q⟩:=(show XE P w H h a (.ins C dx fs)from c a _ e)
 exact⟨b,⟨g,n,ne⟩,r,q,z,d⟩
end
structure WO(K:yQ)(C:yR):Prop where
 pg:lK K C Str.empty=Z7
 hd:mJ K C=Z7
 po:uI K C=Z7
 sa:wB K (.ref C) "__setattr__"=Z9 (Z9 (.builtin "object.__setattr__"))
theorem WO.get{K:yQ}(c:WO K C)(f:Str):lK K C f=Z7:=c.pg
def Vr(K:yQ)(C:yR)(f:Str):Prop:=wB K (.ref C) f=Z9 Z8
theorem Vr.taker{K:yQ}(n:Vr K C f):W.takerIn K C f=Z9 Z8:=by unfold W.takerIn;rw[show wB K (.ref C) f=Z9 Z8 from n];rfl
structure Up(K:yQ)(C:yR)(m:Str)(f:yR):Prop where
 at_:wB K (.ref C) m=Z9 (Z9 (.ref f))
 fn:W.isFn K (.ref f)=Z7
 kp:wG K (.ref f)=Z7
section
variable {X:Cx}{pins:yD}{Z:St}{H:Hp}{s:yS}{a C dx:yR}{fs:List (Str×V)}{f:Str}{v:V}{A:y7}{E:yL}
theorem xY(I:ZO X pins Z H s)(e:H a=Z9 (.ins C dx fs))(c:WO X.K C)(n:Vr X.K C f)(D:fs.length<1000)(p:ZG y u)
  (h:∀s',ZO X pins Z (ZF H a (.ins C dx (Yc f y fs))) s'->Q () s'):y2 (yW X.prog X.w) A (setAttr (.ref a) f u) Q E s:=by
 obtain⟨j,O,r,i,_,k⟩:=xZ I.hok e;have t:(fs.map (·.1)).length<=sizeLine:=by rw[qA1,j7];lia
 refine ya I.kIn O c.sa c.po n.taker c.hd i t λl d sb=>h _ ?_;have m:∃o,l.get? dx=Z9 o:=let ⟨o,_,_,e',_⟩:=d.ns;⟨o,e'⟩
 refine I.write (x:=a) (e:=dx) (by rw[e];exact True.intro) (.inr k) (λb q w z=>(sb.2 b w).trans z) m ?_;refine⟨by rw[Y2 O.ne];exact k,?_,O.ne,d.obj,_,d.ns,λg=>?_,λg B=>?_⟩
 .have:=Gq f y fs;lia
 .show Yh ((Yc f y fs).lookup g) (if g=f then Z9 u else j g);rw[Gr];by_cases q:g=f
  .rw[if_pos q,if_pos q];exact p
  .rw[if_neg q,if_neg q];exact r g
 .by_cases q:g=f
  .rw[q];exact(LX f y fs).1
  .refine(LX f y fs).2 g (i g λz=>B ?_);show(if g=f then Z9 u else j g)=Z8;rw[if_neg q];exact z
theorem ZO.made(I:ZO X pins Z H s):ZO X pins Z (ZF (ZF H s.heap.objs.size (.own (s.heap.objs.size+1))) (s.heap.objs.size+1) (.ins C s.heap.objs.size []))
  { s with heap:=(s.heap.push wX).push (wC C s.heap.objs.size) }:=by
 have c:(s.heap.push wX).get? s.heap.objs.size=Z9 W.emptyDict:=qA7 s.heap rfl;have g:=by have:=qA7 (s.heap.push wX) (o:=wC C s.heap.objs.size) rfl;rwa[qD5]at this
 have d:(s.heap.push wX).Ns s.heap.objs.size (λ_=>Z8):=⟨wX,#[],_,c,rfl,(λe i=>absurd i (by simp)),λ_=>rfl⟩
 have h:=I.laid (o:=.own (s.heap.objs.size+1)) (h':=s.heap.push wX) (t':=s.toks) (λb u q=>qA0 _ q) (qA6 _) ⟨_,c⟩;refine h.laid (t':=s.toks) (λb u q=>qA0 _ q) (Nat.le_of_eq (qD5 _ _)) ?_;have ne:s.heap.objs.size≠s.heap.objs.size+1:=qB9 (qH6 _);refine⟨by rw[Y2 ne,Yx],qE8 _,ne,g,λ_=>Z8,(Heap.Ns1.of_empty d).at λo q=>qA0 _ q,λ_=>True.intro,λy j=>absurd rfl j⟩
theorem xX{Q:yL}(c:vS e f env (jW e env)=jW e env)
  (h:y2 (yW prog w) A (jW e env) (λo b=>y2 (yW prog w) A (getAttr o f Z7) Q E b) E s):y2 (yW prog w) A (jW (.Attribute e f pos) env) Q E s :=
 Attribute_any_ h (by rw[arm_eval_Attribute,c])
end
def LW(K:yQ)(d tv:TE)(f:Str):TS:=λD Z H=>tv Z H λy e=>d Z e λx b=>∃a C c fs,x=.ref a/\b a=Z9 (.ins C c fs)/\WO K C/\Vr K C f/\fs.length<1000 /\
 D.nx Z (ZF b a (.ins C c (Yc f y fs)))
section
variable {X:Cx}{o e value:yY}{f:Str}{pos pos' tpos:Pos}{ta tv:TE}
theorem xW(v:PE X o ta)(hv:PE X value tv)(i:wW value (Z9 (.Attribute o f pos')) pos.line X.env=pure Z5):PS X (.Assign [.Attribute o f pos'] value pos) (LW X.K ta tv f):=by intro b s Z H D I h;refine plainObj_wpAny_Assign_Attribute (Zt (hv b s Z H _ I h) λu d ⟨y,r,p,k,q⟩=>Zt (v b d Z r _ p q) λt B ⟨x,A,m,j,a,C,F,fs,ex,z,c,n,l,g⟩=>?_) i;subst ex;obtain rfl:t=Value.ref a:=j;exact xY m z c n l k λE w=>⟨Z,_,w,g⟩
end
structure Zh(k:Nat)(A:y7):Prop where
 hd:A.handled=Z8
 dp:A.depth+3*k+5<recursionLimit
 un:A.units+16*k+200<vE
 gd:A.guards=Z9 []
theorem Zh.mono(r:Zh k A)(h:j<=k):Zh j A:=⟨r.hd,by have:=r.dp;lia,by have:=r.un;lia,r.gd⟩
theorem Zh.deeper(r:Zh (k+1) A)(env:Env):Zh k (A.deeper env) :=
 ⟨r.hd,by have:=r.dp;show A.depth+1+3*k+5<_;lia,by have:=r.un;show A.units+3+16*k+200<_;lia,r.gd⟩
theorem xV{A:y7}{us:yB}:(A.under (.builtin "type.__call__" ⟨.ref C::us,a⟩)).depth=A.depth+1:=by
 first|rfl|simp[Around.under,Code.weight,Code.isCreation,Code.isGuard,Code.isCaller,Code.frames,Code.isFrame,guardIds]
theorem xU{A:y7}{us:yB}:(A.under (.builtin "type.__call__" ⟨.ref C::us,a⟩)).units=A.units+1:=by
 first|rfl|simp[Around.under,Code.cUnits,Code.frames,Code.isFrame]
theorem Zh.make(r:Zh (k+1) A)(C:yR)(us:yB)(a:List (Str×yT)):Zh k (A.under (.builtin "type.__call__" ⟨.ref C::us,a⟩)) :=
 ⟨r.hd,by have:=r.dp;rw[xV];lia,by have:=r.un;rw[xU];lia,by have h:=r.gd;first|exact h|simp[Around.under,h,pushGuards,Code.guards,Code.isGuard,guardIds]⟩
theorem Zh.depth(r:Zh k A):A.depth<recursionLimit:=by have:=r.dp;lia
theorem Zh.units(r:Zh k A):A.units+64<cLine:=by have:=r.un;lia
theorem Zh.units0(r:Zh k A):A.units<cLine:=by have:=r.un;lia
def QF:TA:=λ_ H Q=>Q [] H
def xT(b:TE)(e:TA):TA:=fun Z H Q=>b Z H λx c=>e Z c λd a=>Q (x::d) a
section
variable {X:Cx}{e:yY}{es:yE}{te:TE}{t:TA}{pos:Pos}
theorem Gp:PA X [] QF:=λ_ _ _ _ H Q I h=>Calls.spliced_nil ⟨[],H,I,.nil,h⟩
theorem Gn(p:PE X e te)(i:PA X es t)(g:y3 (e::es) X.env=(Z5,jW e X.env)::y3 es X.env:=by rfl):PA X (e::es) (xT te t):=by intro b a s Z H Q I h;rw[g];show y2 _ _ (spliced ((Z5,jW e X.env)::vB b (y3 es X.env))) _ _ s;refine Calls.spliced_cons (Zt (p a s Z H _ I h) λu d ⟨x,o,n,l,k⟩=>?_);exact Zt (i b a d Z o _ n k) λv r ⟨q,c,m,j,f⟩=>⟨x::q,c,m,.cons l j,f⟩
def LV(t:TA):TE:=fun Z H Q=>t Z H λb a=>b.length<=yV/\∀p,a p=Z8->Q (.ref p) (ZF a p (.tup b))
def LU(t:TA):TE:=fun Z H Q=>t Z H λb a=>b.length<=yV/\∀p,a p=Z8->Q (.ref p) (ZF a p (.lst b))
theorem xS{g}(h:PA X es t):PE X (.Tuple es g pos) (LV t):=by intro a s Z H Q I i;refine wpAny_Tuple_spliced (Zt (h pos a s Z H _ I i) λj c ⟨l,k,d,r,z,q⟩=>⟨by rw[<- r.length];exact z,?_⟩);have f:=d.hok.fresh (qA6 _);refine⟨.ref c.heap.objs.size,ZF k c.heap.objs.size (.tup l),d.laid (t':=c.toks) (λb u e=>qA0 _ e) (qA6 _) ?_,rfl,q _ f⟩;exact⟨z,j,r,⟨_,qA7 _ rfl,rfl,_,rfl⟩⟩
theorem xR(h:PA X es t):PE X (.List es pos) (LU t):=by intro a s Z H Q I g;refine wpAny_List_spliced (Zt (h pos a s Z H _ I g) λi c ⟨k,j,d,r,z,q⟩=>⟨by rw[<- r.length];exact z,?_⟩);have f:=d.hok.fresh (qA6 _);refine⟨.ref c.heap.objs.size,ZF j c.heap.objs.size (.lst k),d.laid (t':=c.toks) (λb u e=>qA0 _ e) (qA6 _) ?_,rfl,q _ f⟩;exact⟨z,i,0,r,qA7 _ rfl⟩
end
abbrev Sp:=List V->Hp->VK->XK->Prop
abbrev Vq:=List Env->Hp->yS->XK->yL
structure Wj(P:yX)(w:y8)(K:yQ)(mg:Str->yF)(base:y9)(A:y7)(outer:List Env)(s:yS)(H:Hp):Prop where
 frames:A.frames=Z9 outer
 mod:Mod K mg base
 bs:∀b o,base.get? b=Z9 o->s.heap.get? b=Z9 o/\H b=Z8
 bsz:base.objs.size<=s.heap.objs.size
 funs:s.heap.FunFrames base outer
 frf:∀b∈Va outer,H b=Z8
 hok:Ye P w H s.heap
 bare:gQ s.gens
def CE(a:List Env)(P:yX)(w:y8)(H:Hp)(s:yS)(Q:VK)(u:yT)(s':yS):Prop :=
 ∃v b,s'.os=s.os/\gQ s'.gens/\Un (Va a) [] H b s.heap s'.heap/\Ye P w b s'.heap/\ZG v u/\Q v b
def CR(b:Vq)(a:List Env)(P:yX)(w:y8)(H:Hp)(s:yS)(Q:VK)(E:XK)(r:uD)(s':yS):Prop :=
 match r with
 |.ok (.ret u)=>CE a P w H s Q u s'
 |.ok _=>False
 |.error e=>b a H s E e s'
structure Yw(P:yX)(w:y8)(K:yQ)(mg:Str->yF)(base:y9)(CX:Vq)(k:Nat)(f:yR)(fd:j4)(ps:yH)(sp:Sp):Prop where
 len:∀vs H Q E,sp vs H Q E->vs.length=ps.length
 run:∀(A:y7) (outer:List Env) (s:yS) (H:Hp) (args:Args) (us:yB) (vs:List V) (Q:VK) (E:XK),Zh k A->Wj P w K mg base A outer s H->dL s fd args (ps.zip us)->ZJ vs us->sp vs H Q E ->
  wR (yW P w) A (.call (.ref f) args) (CR CX outer P w H s Q E) s
theorem Yw.imp{K:yQ}(F:Yw P w K e base c k f g ps d)
  (h:∀vs H Q E,sp' vs H Q E->d vs H Q E):Yw P w K e base c k f g ps sp' :=
 ⟨λvs H Q E q=>F.len vs H Q E (h _ _ _ _ q),λA a s H b l vs Q E j m n hv i=>F.run A a s H b l vs Q E j m n hv (h _ _ _ _ i)⟩
theorem Wj.make{K:yQ}(e:Wj P w K b base A a s H)(C:yR)(us:yB)(c:List (Str×yT)):
  Wj P w K b base (A.under (.builtin "type.__call__" ⟨.ref C::us,c⟩)) a s H:=⟨by first|exact e.frames|(simpa[Around.under,Code.envs,Code.isFrame,pushEnvs]using e.frames),e.mod,e.bs,e.bsz,e.funs,e.frf,e.hok,e.bare⟩
section
variable {X:Cx}{pins:yD}{Z:St}{H:Hp}{s s':yS}
theorem ZO.env0(I:ZO X pins Z H s):Wj X.prog X.w X.K X.mg X.base X.A X.stack s H :=
 ⟨I.ok.frames,I.ok.mod,I.bs,qC5 I.ok.bsz I.sz,I.stack,I.stkFree,I.hok,I.bare⟩
theorem ZO.after(I:ZO X pins Z H s)(h:CE X.stack X.prog X.w H s Q u s'):EP X pins Z Q u s':=by obtain⟨v,f,j,a,un,c,r,q⟩:=h;obtain⟨i,g,d,t,e⟩:=s';obtain rfl:e=s.os:=j;exact⟨v,f,I.call (h':=i) (g':=g) (d':=d) (t':=t) un c a (λb z=>absurd z (by simp)),r,q⟩
end
def LS(d:Sp)(a:List V)(E:XK)(t:TA):TE:=fun Z H Q=>t Z H λb c=>d (b++a) c Q E
def xQ(C:yR)(f:Sp)(b:List V)(E:XK)(t:TA):TE:=fun Z H Q=>t Z H λe c=>∀x a,c x=Z8->c a=Z8->a≠x ->
 f (.ref x::(e++b)) (ZF (ZF c a (.own x)) x (.ins C a [])) (λv d=>v=.non/\Q (.ref x) d) E
def Wi(K:yQ)(c:j4)(ps:yH)(b:yB):Prop :=
 ∀(s:yS) (a:yB),K.In s.heap->(a++b).length=ps.length->dL s c ⟨a,[]⟩ (ps.zip (a++b))
theorem Wi.all{K:yQ}(h:∀us:yB,us.length=ps.length->bindArgs a ⟨us,[]⟩=pure (ps.zip us)):Wi K a ps []:=λs us _ b=>by rw[qG0]at b ⊢;exact .of_eq (h us b)
def SV(c:Vq)(X:Cx)(E:XK):Prop:=∀(a:yD) (Z:St) (H:Hp) (s:yS) (e:yT) (b:yS),ZO X a Z H s->c X.stack H s E e b->X.xe e b
section
variable {X:Cx}{CX:Vq}{k:Nat}{f C:yR}{fd:j4}{ps:yH}{sp:Sp}{dvs:List V}{ds:yB}{E:XK}{x m:Str}{p pos apos:Pos}{e o:yY}{es:yE}{ta:TE}{t:TA}
theorem Gm{Z:St}(F:Yw X.prog X.w X.K X.mg X.base CX k f fd ps sp)(l:Zh k X.A)(q:Wi X.K fd ps ds)(d:ZJ dvs ds)(n:SV CX X E)
  (I:ZO X a Z H s) (r:ZJ vs us) (h:sp (vs++dvs) H Q E):y2 (yW X.prog X.w) X.A (mY (.ref f) us) (EP X a Z Q) X.xe s:=by
 have c:=r.append d;have i:(us++ds).length=ps.length:=by rw[<- c.length];exact F.len _ _ _ _ h
 refine wpAny_call (lL (F.run X.A X.stack s H ⟨us,[]⟩ (us++ds) (vs++dvs) Q E l I.env0 (q s us I.kIn i) c h) λr g b=>?_);cases r with
 |error e=>exact n a Z H s e g I b
 |ok j =>
  cases j with
  |ret u=>exact I.after b
  |next=>exact False.elim b
  |brk=>exact False.elim b
  |cont=>exact False.elim b
theorem xP(F:Yw X.prog X.w X.K X.mg X.base CX k f fd ps sp)(d:Zh k X.A)(l:Gl X x)(g:X.mg x=Z9 (.ref f))(hk:wG X.K (.ref f)=Z7)(j:Wi X.K fd ps ds)(c:ZJ dvs ds)(i:SV CX X E)
  (n:PA X (e::es) t) (hdb:Wm x:=by decide) (he:y3 (e::es) X.env=(Z5,jW e X.env)::y3 es X.env:=by rfl) (hpl:(vB pos (y3 es X.env)).any (·.1)=Z5:=by rfl) :
  PE X (.Call (.Name x p) (e::es) [] pos) (LS sp dvs E t):=by intro a s Z H Q I h;refine wT (Mh I l g ?_ hdb);refine W.callWith_K I.ok.mod.kin hk (Zt (n pos a s Z H _ I h) λw u ⟨v,y,b,r,q⟩=>⟨b.kIn,?_⟩) he hpl;exact Gm F d j c i b r q
structure Mk(K:yQ)(C f:yR):Prop where
 makes:uE K C=Z7
 init:wB K (.ref C) "__init__"=Z9 (Z9 (.ref f))
 fn:W.isFn K (.ref f)=Z7
 kp:wG K (.ref C)=Z7
theorem xO{Z:St}(M:Mk X.K C f)(F:Yw X.prog X.w X.K X.mg X.base CX k f fd ps sp)(A:Zh (k+1) X.A)(J:Wi X.K fd ps ds)(n:ZJ dvs ds)
  (D:SV CX X E) (I:ZO X b Z H s) (r:ZJ vs us)
  (h:∀x d,H x=Z8->H d=Z8->d≠x->sp (.ref x::(vs++dvs)) (ZF (ZF H d (.own x)) x (.ins C d [])) (λv j=>v=.non/\Q (.ref x) j) E) :
  y2 (yW X.prog X.w) X.A (mY (.ref C) us) (EP X b Z Q) X.xe s:=by
 have i:=h (s.heap.objs.size+1) s.heap.objs.size (I.hok.fresh (qM7 _)) (I.hok.fresh (qA6 _)) (qB9 (qH6 _));have c:=ZO.made (C:=C) I;have g:ZJ (V.ref (s.heap.objs.size+1)::(vs++dvs)) (Value.ref (s.heap.objs.size+1)::(us++ds)):=.cons rfl (r.append n);have y:(Value.ref (s.heap.objs.size+1)::us++ds).length=ps.length:=by have e:=g.length;rw[F.len _ _ _ _ i]at e;exact e.symm
 refine wpAny_call (x3 (f:=f) I.kIn M.makes M.init (beq_iff_eq.mp M.fn) (lL (F.run _ X.stack _ _ ⟨Value.ref (s.heap.objs.size+1)::us,[]⟩ (Value.ref (s.heap.objs.size+1)::(us++ds)) _ _ E (A.make C us [])
  (c.env0.make C us []) (J _ (Value.ref (s.heap.objs.size+1)::us) c.kIn y) g i) λr w a=>?_))
 cases r with
 |error e=>exact D b Z _ _ e w c a
 |ok z =>
  cases z with
  |ret u =>
   obtain⟨v,q,K,B,G,l⟩:=c.after a;subst G;exact⟨B,⟨V.ref (s.heap.objs.size+1),q,K,rfl,l⟩⟩
  |next=>exact False.elim a
  |brk=>exact False.elim a
  |cont=>exact False.elim a
theorem xN(M:Mk X.K C f)(F:Yw X.prog X.w X.K X.mg X.base CX k f fd ps sp)(g:Zh (k+1) X.A)(c:Gl X x)(d:X.mg x=Z9 (.ref C))(b:Wi X.K fd ps ds)(j:ZJ dvs ds)(i:SV CX X E)
  (hdb:Wm x:=by decide):PE X (.Call (.Name x p) [] [] pos) (xQ C sp dvs E QF):=by intro a s Z H Q I h;refine wT (Mh I c d ?_ hdb);exact W.callWith_K0 I.kIn M.kp (xO (us:=[]) M F g b j i I .nil h)
end
structure RH(N P:yH)(sc:vK):Prop where
 kind:sc.kind=.function
 co:sc.isCoroutine=Z5
 gen:sc.isGenerator=Z5
 nd:N.Nodup
 pre:N.take P.length=P
 par:∀x∈P,sc.names.lookup x=Z9 .local∨sc.names.lookup x=Z9 .cell
 nofree:∀y∈sc.names,y.2≠.free
theorem Gk{kindOf:Str->Option jR}:∀{binds:List (Str×yT)}{m:Str->yF},(∀v,(x,v)∉binds)->bindL kindOf binds m x=m x
 |[],_,_=>rfl
 |(n,v)::r,m,h=>by
  unfold bindL;rw[Gk λw a=>h w (qC4 _ a)];split
  .have:x≠n:=by rintro rfl;exact h v qC9
   simp[this]
  .rfl
theorem Gj{kindOf:Str->Option jR}:∀{binds:List (Str×yT)}{m:Str->yF},(∀v,(x,v)∉binds)->bindC kindOf binds m x=m x
 |[],_,_=>rfl
 |(n,v)::r,m,h=>by
  unfold bindC;rw[Gj λw a=>h w (qC4 _ a)];split
  .rfl
  .have:x≠n:=by rintro rfl;exact h v qC9
   simp[this]
theorem Gi{kindOf:Str->Option jR}{x:Str}{v:yT}:∀{P:yH}{vs:yB}{i:Nat}{m:Str->yF},P.Nodup->P[i]?=Z9 x->vs[i]?=Z9 v->kindOf x=Z9 .local ->
  bindL kindOf (P.zip vs) m x=Z9 v
 |[],_,_,_,_,h,_,_=>by simp at h
 |_::_,[],_,_,_,_,h,_=>by simp at h
 |p::P,w::vs,0,m,nd,h1,h2,hk=>by simp at h1 h2;subst h1;subst h2;show bindL kindOf ((p,w)::P.zip vs) m p=_;unfold bindL;rw[Gk λv hv=>(qL5.mp nd).1 (qN7 hv).1,if_pos hk];simp
 |p::P,w::vs,i+1,m,nd,h1,h2,hk=>by show bindL kindOf ((p,w)::P.zip vs) m x=_;exact Gi (qL5.mp nd).2 (by simpa using h1) (by simpa using h2) hk
theorem Gh{kindOf:Str->Option jR}{x:Str}{v:yT}:∀{P:yH}{vs:yB}{i:Nat}{m:Str->yF},P.Nodup->P[i]?=Z9 x->vs[i]?=Z9 v->kindOf x≠Z9 .local ->
  bindC kindOf (P.zip vs) m x=Z9 v
 |[],_,_,_,_,h,_,_=>by simp at h
 |_::_,[],_,_,_,_,h,_=>by simp at h
 |p::P,w::vs,0,m,nd,h1,h2,hk=>by simp at h1 h2;subst h1;subst h2;show bindC kindOf ((p,w)::P.zip vs) m p=_;unfold bindC;rw[Gj λv hv=>(qL5.mp nd).1 (qN7 hv).1,if_neg hk];simp
 |p::P,w::vs,i+1,m,nd,h1,h2,hk=>by show bindC kindOf ((p,w)::P.zip vs) m x=_;exact Gh (qL5.mp nd).2 (by simpa using h1) (by simpa using h2) hk
def start(N:yH)(vs:List V):St:=vs.map Z9++qI9 (N.length - vs.length) Z8
def Wg(d:Vq)(P:yX)(w:y8)(K:yQ)(mg:Str->yF)(base:y9)(N:yH)(a:Str)(scope:vK)(f:yR)(c:yT)(A:y7)(outer:List Env)(s:yS)(H:Hp)(E:XK):Cx where
 prog:=P
 w:=w
 K:=K
 mg:=mg
 base:=base
 A:=A.deeper (mK a scope s.heap.objs.size f c)
 N:=N
 s₀:=s
 H₀:=H
 env:=mK a scope s.heap.objs.size f c
 outer:=outer
 stack:=mK a scope s.heap.objs.size f c::outer
 ex:=[]
 calm:=Z7
 fn:=λ_=>Z7
 pn:=[]
 xe:=λe g=>y2 (yW P w) (A.deeper (mK a scope s.heap.objs.size f c)) (leaving (mK a scope s.heap.objs.size f c) e) (λ_ b=>d outer H s E e b) (λh b=>d outer H s E h b) g
theorem Gg{a:vK}(h:a.names.lookup x=Z9 .cell):∃c,(vQ n a.names []).lookup x=Z9 c:=by have q:=W.cellsFrom_some a.names n [] (.inl h);exact qH4.mp q
theorem xM{K:yQ}
  (S:RH N ps scope) (J:A.handled=Z8) (l:Wj P w K F base A d s H) (R:vs.length=ps.length) (r:ZJ vs us)
  (x:InCallC s s.heap.objs.size (bindL (mK g scope s.heap.objs.size f D).kindOf (ps.zip us) λ_=>Z8) (vQ (s.heap.objs.size+1) scope.names []) (bindC (mK g scope s.heap.objs.size f D).kindOf (ps.zip us) λ_=>Z8) s1) :
  ZO (Wg G P w K F base N g scope f D A d s H E) [] (start N vs) H s1:=by
 have M:=by have:=congrArg qG1 S.pre;rw[qE6]at this;omega
 obtain⟨C,T,rfl,hk⟩:=x.done;have n:∀b:yR,b∉(Wg G P w K F base N g scope f D A d s H E).ex:=λb z=>absurd (show b∈([])from z) (by simp);refine⟨⟨l.mod,S.kind,rfl,rfl,qA6 _,λy z c C j=>?_,λy m=>?_,λy c _ h=>?_,λ_=>J,Around.frames_deeper l.frames,.inr ⟨rfl,rfl⟩,λb z=>absurd z (n b),l.bs,l.bsz,λb _ _=>n b,λb z=>absurd z (n b),l.funs,l.frf⟩,
  rfl,l.bare,Un.kept hk,⟨_,x.toInCall.ns,λi y v C j Q=>?_⟩,λy c h=>⟨_,x.cell y c h⟩,l.hok.fresh (qA6 _),λy c h=>?_,λp t=>absurd (show p∈([])from t) (by simp),l.hok.kept hk,?_⟩
 .exact name_of_addr x.apart (vV C) (vV j)
 .have m:=m;rcases m with m|m
  .exact Gg m
  .exact absurd rfl (S.nofree _ (vV m))
 .exact qF4 (x.above y c (vV h))
 .have B:i<vs.length:=by
   unfold start at j;by_cases B:i<vs.length
   .exact B
   .rw[qA2 (by simpa using B)]at j;rw[qH7]at j;split at j<;>cases j
  have O:vs[i]?=Z9 v:=by
   unfold start at j;rw[qA8 (by simpa using B),qB6]at j;cases e:vs[i]? with
   |none=>rw[e]at j;cases j
   |some a=>rw[e]at j;cases j;rfl
  obtain⟨u,I,L⟩:=r.get O;have t:ps[i]?=Z9 y:=by rw[<- S.pre,List.getElem?_take_of_lt (by lia)];exact C
  have o:ps.Nodup:=by rw[<- S.pre];exact S.nd.sublist (qP5 _ _)
  refine⟨u,L,?_⟩;rcases S.par y (qC2 t)with k|k
  .exact .inl ⟨k,Gi o t I k⟩
  .obtain⟨c,e⟩:=Gg k;refine .inr ⟨.inl k,c,e,?_⟩;have q:=x.cell y c e;rw[Gh o t I (by show scope.names.lookup y≠_;rw[k];decide)]at q;exact q
 .exact l.hok.fresh (qF4 (x.above y c (vV h)))
 .unfold start;show _=N.length;rw[qB5,qA1,qH1];omega
theorem xK{K:yQ}{T kV B Y d ct oc:yT}
  {R:Array (yF)} (lk:K.lookup f=Z9 ⟨oc,od,.func (fO h c g body scope T kV B Y U d ct),R⟩) (M:lF K d c=Z7) (S:RH N ps scope)
  (len:∀vs H Q E,sp vs H Q E->vs.length=ps.length)
  (m:∀(A:y7) (a:List Env) (s:yS) (H:Hp) (vs:List V) (Q:VK) (E:XK),Zh k (A.deeper (mK c scope s.heap.objs.size f d))->sp vs H Q E ->
   ∃t,Xw (Wg G P w K J base N c scope f d A a s H E) body t/\t { nx:=λ_ i=>Q .non i,rt:=Q } (start N vs) H) :
  Yw P w K J base G (k+1) f (fO h c g body scope T kV B Y U d ct) ps sp:=by
 refine⟨len,λA a s H X us vs Q E L z hb r C=>?_⟩;have hl:=len _ _ _ _ C;have Z:=z.mod.kin.keeps λb o e=>(z.bs b o e).1;have lim:=z.mod.nolimit.keeps λb o e=>(z.bs b o e).1;have l:∀y∈ps.zip us,scope.names.lookup y.1=Z9 .local∨(scope.names.lookup y.1=Z9 .cell/\((vQ (s.heap.objs.size+1) scope.names []).lookup y.1).isSome=Z7):=λ⟨n,v⟩ hy=>by
  rcases S.par n (qN7 hy).1 with q|q
  .exact .inl q
  .exact .inr ⟨q,W.cellsFrom_some _ _ _ (.inl q)⟩
 refine codeAny_call_function L.depth (Z _ _ lk) rfl S.co S.gen rfl (W.codeRec_of Z M) (hb _ _ _ _ ?_);refine wpAny_newFunctionEnv_cells S.kind l λenv he s1 x=>?_;subst he;refine⟨lim.keeps x.toInCall.keep,codeAny_func ?_⟩;obtain⟨t,ht,hq⟩:=m A a s H vs Q E (L.deeper _) C;have I:ZO (Wg G P w K J base N c scope f d A a s H E) [] (start N vs) H s1:=xM S L.hd z hl r x;refine jU (ht [] s1 (start N vs) H _ I hq) (λfl s' p=>?_) λe s' p=>p;have D:∀{F:St}{i:Hp}{v:V}{u:yT},ZO (Wg G P w K J base N c scope f d A a s H E) [] F i s'->ZG v u->Q v i->CE a P w H s Q u s' :=
  λ{F i v u} j O q=>⟨v,i,j.os,j.bare,j.base,j.hok,O,q⟩
 cases fl with
 |ret u =>
  obtain⟨v,F,i,j,O,q⟩:=p;exact D j O q
 |next =>
  obtain⟨F,i,j,q⟩:=p;exact D (v:=V.non) j rfl q
 |brk =>
  obtain⟨_,_,_,q⟩:=p;exact False.elim q
 |cont =>
  obtain⟨_,_,_,q⟩:=p;exact False.elim q
section
variable {X:Cx}{x:Str}{p pos:Pos}{e:yY}{es:yE}{t:TA}{id T:String}{r:List V->Hp->VK->Prop}
def Ox(r:List V->Hp->VK->Prop)(t:TA):TE:=fun Z H Q=>t Z H λa b=>r a b Q
theorem Gf(o:Yk X (.builtin id) r)(m:Gl X x)(i:X.mg x=Z8)(hv:jA x=Z9 (.builtin id))(n:PA X (e::es) t)(c:x ≠ "__name__":=by decide)(hdb:Wm x:=by decide)
  (he:y3 (e::es) X.env=(Z5,jW e X.env)::y3 es X.env:=by rfl) (hpl:(vB pos (y3 es X.env)).any (·.1)=Z5:=by rfl):PE X (.Call (.Name x p) (e::es) [] pos) (Ox r t):=by intro a s Z H Q I h;refine wT (TC I m i hv ?_ c hdb);exact PyProof.Rows.callWith_builtin1 (Zt (n pos a s Z H _ I h) λd b ⟨f,l,j,g,k⟩=>o a b Z l f d Q j g k) he hpl
theorem LR(o:Yk X (.type T) r)(m:Gl X x)(i:X.mg x=Z8)(hv:jA x=Z9 (.type T))(n:PA X (e::es) t)(c:x ≠ "__name__":=by decide)(hdb:Wm x:=by decide)
  (he:y3 (e::es) X.env=(Z5,jW e X.env)::y3 es X.env:=by rfl) (hpl:(vB pos (y3 es X.env)).any (·.1)=Z5:=by rfl):PE X (.Call (.Name x p) (e::es) [] pos) (Ox r t):=by intro a s Z H Q I h;refine wT (TC I m i hv ?_ c hdb);exact jP (Zt (n pos a s Z H _ I h) λd b ⟨f,l,j,g,k⟩=>o a b Z l f d Q j g k) he hpl
end
end Lake
namespace Lake.HT
open PySem PyProof.Rows
def lexLt:yA->yA->Bool
 |[],[]=>Z5
 |[],_::_=>Z7
 |_::_,[]=>Z5
 |x::a,y::b=>if x=y then lexLt a b else decide (x<y)
theorem lexLt_cons(x y:Int)(xs ys:yA):lexLt (x::xs) (y::ys)=if x=y then lexLt xs ys else decide (x<y):=rfl
theorem xJ(A:y7)(s:yS)(a:Int)(t:Tok)(c:Int)(u:Tok):∃e,SeqAt.EqAt A s (.int a t) (.int c u) e/\(e=Z7↔a=c) :=
 ⟨(a == c),SeqAt.EqAt.int_int a t c u,by simp⟩
theorem xI(A:y7)(s:yS)(a:Int)(t:Tok)(c:Int)(u:Tok)(prog:yX)(w:y8)(E:yL)(Q:yL)(h:Q (.bool (decide (a<c))) s):
  y2 (yW prog w) A (richCompare .Lt (.int a t) (.int c u)) Q E s :=
 (mZ h)
section
open PySem.SeqAt
open PySem.AutoSeq1 (wpAny_loadPart')
open PySem.MeetsSeq PySem.MeetsSeq2 PySem.MeetsSeq3
theorem tuple_lt_ints(l b:yR)(items f:yJ)(n O:Nat)(S M:Option yR)(P L:Array (yF))(ns ms:yA)(hi:vN items.toList ns)(N:vN f.toList ms):
  uJ (Builtin.«tuple.__lt__» ⟨[.ref l,.ref b],[]⟩)
   (λ_ R s=>s.heap.get? l=Z9 { cls:=.type "tuple",dict:=S,data:=.seq items n,slots:=P }/\s.heap.get? b=Z9 { cls:=.type "tuple",dict:=M,data:=.seq f O,slots:=L } /\
    R (.ok (.ret (.bool (lexLt ns ms)))) s) :=
 .of_wp λo w A R s h=>by
  obtain⟨E,g,d,I,F⟩:=s;obtain⟨Q,V,h⟩:=h;have W:=AutoSeq1.sub_tuple_tuple;have X:items.size=ns.length:=by rw[<- hi.length];simp
  have Z:f.size=ms.length:=by rw[<- N.length];simp
  wp_walk using wS Q,wS V,wpAny_forIn_list _ (λZm b K=>b.1=Z8/\K=⟨E,g,d,I,F⟩/\∃(G H:yB) (k j:yA),Zm=G.zip H /\
   vN G k/\vN H j/\k.length+f.size=j.length+items.size/\R (.ok (.ret (.bool (lexLt k j)))) ⟨E,g,d,I,F⟩) _
  case turn =>
   rintro⟨y,x⟩ Zm b K ⟨C,rfl,G,H,k,j,v,z,m,i,r⟩;cases z with
   |nil=>rw[List.zip_nil_left]at v;cases v
   |cons a t D =>
    cases m with
    |nil=>rw[List.zip_nil_right]at v;cases v
    |cons c u B =>
     injection v with hyx hrest;injection hyx with hy hx;subst hy hx;rw[lexLt_cons]at r;simp only[qB8]at i;obtain⟨e,U,p⟩:=xJ A.in1 ⟨E,g,d,I,F⟩ a t c u;refine yO (U o w _ _ ?_);cases e with
     |true =>
      rw[if_pos (p.mp rfl)]at r
      wp_walk
      exact⟨rfl,rfl,_,_,_,_,hrest,D,B,by lia,r⟩
     |false =>
      rw[if_neg (λq=>absurd (p.mpr q) qB0)]at r;have J:=xI A.in1 ⟨E,g,d,I,F⟩ a t c u o w
      wp_walk using J
      exact⟨_,rfl,by simpa using r⟩
  case fin =>
   rintro⟨b1,Y⟩ K ⟨C,rfl,G,H,k,j,v,z,m,i,r⟩;subst C;have hv:lexLt k j=decide (items.size<f.size):=by
    cases z with
    |nil =>
     cases m with
     |nil =>
      exact(decide_eq_false (by lia)).symm
     |cons c u T =>
      simp only[qH2,qB8]at i;exact(decide_eq_true (by lia)).symm
    |cons a t hv =>
     cases m with
     |nil =>
      simp only[qH2]at i;exact(decide_eq_false (by lia)).symm
     |cons c u T =>
      cases v
   rw[hv]at r
   wp_walk
   exact⟨_,rfl,by simpa[Builtin.Tuple.tupleCompareSizes]using r⟩
  case h =>
   exact⟨rfl,rfl,items.toList,f.toList,ns,ms,rfl,hi,N,by lia,h⟩
end
section
variable {prog:yX}{w:y8}{A:y7}{E:yL}{s:yS}
theorem lt_tupInts{items a:yJ}{ns ms:yA}{Q:yL}(r:dH s.heap l items)(y:dH s.heap b a)(hi:vN items.toList ns)(v:vN a.toList ms)
  (u:A.units<vE) (h:Q (.bool (lexLt ns ms)) s):y2 (yW prog w) A (yZ .Lt (.ref l) (.ref b)) Q E s:=by
 obtain⟨⟨cls,t,j,q⟩,m,o,n,i⟩:=id r;obtain⟨⟨k,g,data2,f⟩,e,d,p,c⟩:=id y;simp only at o i d c;subst o i d c;exact richCompare_meets_room (op:=.Lt) ⟨_,m,rfl⟩ ⟨_,e,rfl⟩ fJ lM (lG _ _) (tuple_lt_ints l b items a n p t g q f ns ms hi v)
  ⟨m,e,show Value.bool (lexLt ns ms)≠Value.notImplemented/\Q (.bool (lexLt ns ms)) s from⟨(λx=>nomatch x),h⟩⟩ u
theorem cat_tup{vs ws:yB}{Q:yL}(r:dH s.heap t vs.toArray)(v:dH s.heap b ws.toArray)(hv:vs≠[])
  (u:ws=[]->Q (.ref t) s) (x:ws≠[]->Q (.ref s.heap.objs.size) { s with heap:=s.heap.push { cls:=.type "tuple",data:=.seq (vs++ws).toArray } })
  (j:vs.length+ws.length<=yV):y2 (yW prog w) A (jJ .Add (.ref t) (.ref b)) Q E s:=by
 obtain⟨⟨cls,o,data,m⟩,i,q,n,k⟩:=id r;obtain⟨⟨p,f,data2,d⟩,a,g,l,c⟩:=id v;simp only at q k g c;subst q k g c;have e:vs.toArray++ws.toArray=(vs++ws).toArray:=by simp
 by_cases h:ws=[]
 .exact dM ⟨_,i,rfl⟩ ⟨_,a,rfl⟩ lH m8 fD wY (wO _ _)
   (tuple_addW1 t b vs.toArray ws.toArray n l o f m d (by simpa using hv) (by simp[h])) ⟨i,a,u h⟩
 .refine dM ⟨_,i,rfl⟩ ⟨_,a,rfl⟩ lH m8 fD wY (wO _ _)
   (tuple_addW2 t b vs.toArray ws.toArray n l o f m d (by simpa using hv) (by simpa using h) (by exact j)) ⟨i,a,?_⟩
  rw[e];exact x h
def sIx(n d:Nat):yG->Nat
 |none=>d
 |some v=>if v<0 then(v+(n:Int)).toNat else min v.toNat n
theorem sIx_none(n d:Nat):sIx n d Z8=d:=rfl
theorem sIx_nat(n d k:Nat):sIx n d (Z9 (k:Int))=min k n:=rfl
theorem Ge(v:Int)(n d:Nat):(if v<0 then max (v+(n:Int)) 0 else min v (n:Int))=((sIx n d (Z9 v):Nat):Int):=by
 show(if v<0 then max (v+n) 0 else min v n)=(((if v<0 then(v+n).toNat else min v.toNat n):Nat):Int)
 by_cases hv:v<0
 .simp only[if_pos hv];lia
 .simp only[if_neg hv];lia
theorem xH(lo hi:yG)(n:Nat):Builtin.Slice.sliceAdjust lo hi 1 (n:Int)=(((sIx n 0 lo:Nat):Int),((sIx n n hi:Nat):Int)):=by
 refine Prod.ext ?_ ?_
 .cases lo with
  |none=>rfl
  |some v=>exact Ge v n 0
 .cases hi with
  |none=>rfl
  |some v=>exact Ge v n n
theorem xG(i j:Nat):Builtin.Slice.slicePlaces (i:Int) (j:Int) 1=j - i:=by unfold Builtin.Slice.slicePlaces;split<;>lia
theorem Gd{o:yG}{Q:yG->yS->Prop}(p:g8 v o)(h:Q o s):y2 (yW prog w) A (Builtin.Slice.slicePartIndex v) Q E s:=by
 cases p with
 |none=>exact slicePart_none h
 |int i t=>exact slicePart_int h
theorem sliceApplied_gen{lo hi:yG}{Q:Int×Int×Nat->yS->Prop}(i:s.heap.IsSliceOf e d c .none)(pl:g8 d lo)(g:g8 c hi)
  (h:Q (((sIx n 0 lo:Nat):Int),1,sIx n n hi - sIx n 0 lo) s):y2 (yW prog w) A (Builtin.Slice.sliceApplied (.ref e) (pure (n:Int))) Q E s:=by obtain⟨j,b,f,a⟩:=id i;refine yO (yO (jV b a (x:=d) rfl (yO (jV b a (x:=c) rfl (yO (jV b a (x:=.none) rfl (yP ?_)))))));refine yO (slicePart_none ?_);refine yO (Gd pl (yO (Gd g (yO (yP ?_)))));show y2 _ _ (match Builtin.Slice.sliceAdjust lo hi 1 n with|(lo,hi)=>pure (lo,(1:Int),Builtin.Slice.slicePlaces lo hi 1)) _ _ s;rw[xH lo hi n];show y2 _ _ (pure (((sIx n 0 lo):Int),1,Builtin.Slice.slicePlaces ((sIx n 0 lo):Int) ((sIx n n hi):Int) 1)) _ _ s;rw[xG];exact yP h
theorem xF(xs:yJ)(i k:Nat):((List.range k).filterMap fun(m:Nat)=>xs[((i:Int)+(m:Int)*1).toNat]?).toArray=((xs.toList.drop i).take k).toArray:=by
 have e:(fun(m:Nat)=>xs[(i+(m:Int)*1).toNat]?)=λm=>xs[i+m]?:=by
  funext m;have:(i+(m:Int)*1).toNat=i+m:=by lia
  rw[this]
 rw[e];have:=pick_run xs i k;rw[List.filterMap_map]at this;have a:((λx=>xs[x]?)∘λx=>i+x)=λm=>xs[i+m]?:=rfl;rw[a]at this;rw[this]
theorem getItem_tuple_cut{items:yJ}{lo hi:yG}{Q:yL}(b:dH s.heap t items)(i:s.heap.IsSliceOf c k j .none)(pl:g8 k lo)(p:g8 j hi)
  (m:¬(sIx items.size 0 lo=0/\sIx items.size items.size hi=items.size))
  (h:Q (.ref s.heap.objs.size) { s with heap:=s.heap.push { cls:=.type "tuple",data:=.seq ((items.toList.drop (sIx items.size 0 lo)).take (sIx items.size items.size hi - sIx items.size 0 lo)).toArray } })
  (l:items.size<=yV):y2 (yW prog w) A (gV (.ref t) (.ref c)) Q E s:=by
 have a:=by show((items.toList.drop (sIx items.size 0 lo)).take (sIx items.size items.size hi - sIx items.size 0 lo)).toArray.size<=yV;rw[qB3,qE6,qG5,jN];omega
 obtain⟨n,e,d,o⟩:=id i;have g:s.TypeIs (.ref c) "slice":=⟨n,e,d⟩
 unfold gV
 try with_reducible refine jG ?_
 refine yO (wpAny_sequenceKey b.typeIs (by decide) ?_);refine yO (jD b.typeIs j5
  (jE j5 b.typeIs m4 ?_ (args_tuple_getitem _ _)))
 show y2 _ _ (Builtin.Tuple.tupleItemsOf (.ref t) >>= _) _ _ s;refine yO (tupleItemsOf_ b ?_);refine yO (j6 g ?_);refine yO (sliceApplied_gen i pl p ?_);have f:¬((((sIx items.size 0 lo):Int) == 0&&(1:Int) == 1&&(sIx items.size items.size hi - sIx items.size 0 lo) == items.size)=Z7):=by intro q;rw[qC1,qC1]at q;have u:=eq_of_beq q.1.1;have r:=eq_of_beq q.2;exact m ⟨by omega,by omega⟩
 show y2 _ _ (if(((sIx items.size 0 lo):Int) == 0&&1 == 1&&(sIx items.size items.size hi - sIx items.size 0 lo) == items.size)=Z7 then _ else _) _ _ s;rw[if_neg f,xF]
 first
  |exact yO (j3 (yP ⟨_,rfl,yP h⟩) a)
  |exact yO (j3 (yO (yP (yP ⟨_,rfl,yP h⟩))) a)
  |exact yO (yO (j3 (yP (yP ⟨_,rfl,yP h⟩)) a))
  |exact yO (yO (j3 (yP ⟨_,rfl,yP h⟩) a))
end
end Lake.HT
namespace Lake
open PySem PySem.Spec PyProof.Rows
abbrev TO:=St->Hp->(yG->Hp->Prop)->Prop
def PO(X:Cx)(e:Option yY)(t:TO):Prop :=
 ∀(a:yD) (s:yS) (Z:St) (H:Hp) (Q:yG->Hp->Prop),ZO X a Z H s->t Z H Q ->
  y2 (yW X.prog X.w) X.A (evalPart e X.env) (λu c=>∃o b,ZO X a Z b c/\g8 u o/\Q o b) X.xe s
def xE:TO:=λ_ H Q=>Q Z8 H
def xD(t:TE):TO:=fun Z H Q=>t Z H λx a=>∃i,x=.int i/\Q (Z9 i) a
theorem QE{ns:yA}:∀{us:yB},ZJ (ns.map V.int) us->vN us ns:=by
 induction ns with
 |nil=>intro us r;cases r;exact .nil
 |cons n ns b =>
  intro us r;cases r with
  |cons a c =>
   obtain⟨t,e⟩:=a;subst e;exact .cons n t (b c)
section
variable {X:Cx}{e:yY}{te:TE}{lo hi:Option yY}{tl th:TO}{pos p2:Pos}
theorem xC:PO X Z8 xE:=by intro a s Z H Q I h;exact yP ⟨Z8,H,I,.none,h⟩
theorem xB(h:PE X e te):PO X (Z9 e) (xD te):=by intro a s Z H Q I g;refine Zt (h a s Z H _ I g) λu j ⟨x,f,d,c,b⟩=>?_;obtain⟨i,rfl,q⟩:=b;obtain⟨t,rfl⟩:=c;exact⟨Z9 i,f,d,.int i t,q⟩
def SU(X:Cx)(r:V->yG->yG->Hp->VK->Prop):Prop :=
 ∀(a:yD) (s:yS) (Z:St) (H:Hp) (x:V) (v g d:yT) (c f:yG) (b:yR) (Q:VK),ZO X a Z H s->ZG x v->s.heap.IsSliceOf b g d .none->g8 g c->g8 d f->r x c f H Q ->
  ∃T id,typeLookup (.type T) "__getitem__"=pure (Z9 (.builtin id))/\s.TypeIs v T/\y2 (yW X.prog X.w) X.A (gV v (.ref b)) (EP X a Z Q) X.xe s
def xA(r:V->yG->yG->Hp->VK->Prop)(f:TE)(a b:TO):TE:=fun Z H Q=>f Z H λx g=>a Z g λl c=>b Z c λu d=>r x l u d Q
theorem xx(t:SU X r)(he:PE X e te)(n:PO X lo tl)(p:PO X hi th):PE X (.Subscript e (.Slice lo hi Z8 p2) pos) (xA r te tl th):=by intro a s Z H Q I h;refine Subscript_ (Zt (he a s Z H _ I h) λv j ⟨x,D,C,B,A⟩=>?_);refine wpAny_Slice (Zt (n a j Z D _ C A) λf y ⟨l,i,z,o,m⟩=>Zt (p a y Z i _ z m) λd c ⟨u,g,F,K,k⟩=>?_);refine yP ?_;have J:ZO X a Z g { c with heap:=c.heap.push { cls:=.type "slice",data:=.fields #[f,d,.none] } }:=F.kept (t':=c.toks) λb L q=>qA0 _ q;obtain⟨T,id,G,w,E⟩:=t a { c with heap:=c.heap.push { cls:=.type "slice",data:=.fields #[f,d,.none] } } Z g x v f d l u c.heap.objs.size Q J B (Heap.IsSliceOf.new ..) o K k;exact tail_any w G E (by with_unfolding_all rfl)
def cutV(xs:List V)(lo hi:yG):List V:=(xs.drop (HT.sIx xs.length 0 lo)).take (HT.sIx xs.length xs.length hi - HT.sIx xs.length 0 lo)
theorem Gc(xs:List V)(lo hi:yG):(cutV xs lo hi).length<=xs.length:=by
 unfold cutV;rw[qE6,qG5]
 lia
def LQ(K:yQ):V->yG->yG->Hp->VK->Prop:=λx c d H Q=>∃a b,x=.ref a/\Zp K H a b /\
 ¬(HT.sIx b.length 0 c=0/\HT.sIx b.length b.length d=b.length)/\∀p,H p=Z8->Q (.ref p) (ZF H p (.tup (cutV b c d)))
theorem xw:SU X (LQ X.K):=by
 intro i s Z H x v A y f l w Q I o m n u h;obtain⟨a,d,rfl,t,p,q⟩:=h;cases o;obtain⟨g,r,j,k⟩:=I.tuple t;have c:g.toArray.size=d.length:=by exact r.length.symm
 refine⟨"tuple",_,PyProof.Rows.slot_tuple_getitem.lookup,j.typeIs,?_⟩;refine HT.getItem_tuple_cut j m n u (by rw[c];exact p) ?_ (by rw[c];exact k);rw[c];refine⟨.ref s.heap.objs.size,_,I.laid (t':=s.toks) (λb z q=>qA0 _ q) (qA6 _) ?_,rfl,q _ (I.hok.fresh (qA6 _))⟩;exact⟨qC5 (Gc d f l) k,_,(r.drop (HT.sIx d.length 0 f)).take (HT.sIx d.length d.length l - HT.sIx d.length 0 f),IsTup.new _ _⟩
def LP(K:yQ):R2:=λx y H Q=>∃a b c d,x=.ref a/\y=.ref b/\Zp K H a (c.map V.int)/\Zp K H b (d.map V.int)/\Q (.bl (HT.lexLt c d)) H
theorem xv(l:X.A.units<vE):YW X (yZ .Lt) (LP X.K):=by intro c s Z H x y v u Q I j k h;obtain⟨a,b,i,g,rfl,rfl,z,w,q⟩:=h;cases j;cases k;obtain⟨p,n,r,_⟩:=I.tuple z;obtain⟨d,m,f,_⟩:=I.tuple w;have o:=QE n;have t:=QE m;exact HT.lt_tupInts r f o t l ⟨.bl (HT.lexLt i g),H,I,rfl,q⟩
def xu(K:yQ):R2:=λx y H Q=>∃a b d c,x=.ref a/\y=.ref b/\Zp K H a d/\Zp K H b c/\d≠[]/\d.length+c.length<=yV /\
 (c=[]->Q (.ref a) H)/\(c≠[]->∀p,H p=Z8->Q (.ref p) (ZF H p (.tup (d++c))))
theorem ZJ.nil_iff(r:ZJ xs us):us=[]↔xs=[]:=by
 cases r with
 |nil=>simp
 |cons _ _=>simp
theorem xt:YW X (jJ .Add) (xu X.K):=by intro f s Z H x y v u Q I l m h;obtain⟨a,b,D,B,rfl,rfl,A,t,o,g,n,k⟩:=h;cases l;cases m;obtain⟨p,d,r,_⟩:=I.tuple A;obtain⟨i,c,j,_⟩:=I.tuple t;refine HT.cat_tup r j (λz=>o (d.nil_iff.mp z)) (λz=>⟨.ref a,H,I,rfl,n (c.nil_iff.mp z)⟩) (λz=>?_) (by rw[<- d.length,<- c.length];exact g);refine⟨.ref s.heap.objs.size,_,I.laid (t':=s.toks) (λb C q=>qA0 _ q) (qA6 _) ?_,rfl,k (λw=>z (c.nil_iff.mpr w)) _ (I.hok.fresh (qA6 _))⟩;exact⟨by rw[qB5];exact g,_,d.append c,IsTup.new _ _⟩
end
def VQ(n:Nat)(i:Int):yK:=if 0<=i then(if i<n then Z9 i.toNat else Z8)else if -(n:Int)<=i then Z9 (i+n).toNat else Z8
def XN{α:Type}(xs:List α)(i:Int):Option α:=(VQ xs.length i).bind λj=>xs[j]?
theorem Gb(h:VQ n i=Z9 j):seqIndex? i n=Z9 j/\j<n/\-(n:Int)<=i/\i<n:=by
 unfold VQ at h;by_cases b:0<=i
 .rw[if_pos b]at h;by_cases a:i<n
  .rw[if_pos a]at h;have e:=Option.some.inj h;exact⟨by rw[uK b a,e],by lia,by lia,a⟩
  .rw[if_neg a]at h;cases h
 .rw[if_neg b]at h;by_cases a:-n<=i
  .rw[if_pos a]at h;have e:=Option.some.inj h;exact⟨by rw[dN (by lia) a,e],by lia,a,by lia⟩
  .rw[if_neg a]at h;cases h
theorem LO{v:a}(h:XN xs i=Z9 v):∃j,seqIndex? i xs.length=Z9 j/\xs[j]?=Z9 v/\j<xs.length/\-(xs.length:Int)<=i/\i<xs.length:=by
 unfold XN at h;cases e:VQ xs.length i with
 |none=>rw[e]at h;cases h
 |some j =>
  rw[e]at h;obtain⟨f,c,d,b⟩:=Gb e;exact⟨j,f,h,c,d,b⟩
theorem UO{j:Nat}{v:a}(h:xs[j]?=Z9 v):XN xs (j:Int)=Z9 v:=by
 have b:=(qA5.mp h).1;have e:VQ xs.length j=Z9 j:=by unfold VQ;rw[if_pos (by lia),if_pos (by lia)];simp
 unfold XN;rw[e];exact h
def LN(b:yY):Prop:=∀o i,uL b Z5 o i=operate [o,i] (gV o i)
def SQ(X:Cx)(r:R2):Prop :=
 ∀(c a:yY) (b:yD) (s:yS) (Z:St) (H:Hp) (x y:V) (v u:yT) (Q:VK),ZO X b Z H s->ZG x v->ZG y u->r x y H Q ->
  uL a Z5 v u=operate [v,u] (gV v u)->y2 (yW X.prog X.w) X.A (subscriptTail c a v u) (EP X b Z Q) X.xe s
def Ow(X:Cx)(id:String)(r:V->List V->Hp->VK->Prop):Prop :=
 ∀(a:yD) (s:yS) (Z:St) (H:Hp) (x:V) (c:List V) (v:yT) (b:yB) (Q:VK),ZO X a Z H s->ZG x v->ZJ c b->r x c H Q ->
  y2 (yW X.prog X.w) X.A (mY (.builtin id) (v::b)) (EP X a Z Q) X.xe s
section
variable {X:Cx}{a b:yY}{ta tb:TE}{pos:Pos}
theorem xr(i:SQ X r)(m:PE X a ta)(l:PE X b tb)(e:LN b):PE X (.Subscript a b pos) (QJ r ta tb):=by intro c s Z H Q I h;exact Subscript_ (SX m l I h λv u j x y d k f g q=>i a b c j Z d x y v u Q k f g q (e _ _))
def LM(K:yQ):R2:=λx y H Q=>∃p c i v,x=.ref p/\y=.int i/\YK K H p c/\XN c i=Z9 v/\Q v H
def LL(K:yQ):R2:=λx y H Q=>∃p c i v,x=.ref p/\y=.int i/\Zp K H p c/\XN c i=Z9 v/\Q v H
def LK:R2:=λx y H Q=>∃z i c,x=.str z/\y=.int i/\z.length<=yV/\XN z.cps.toList i=Z9 c/\Q (.str ⟨#[c]⟩) H
theorem xq:SQ X (LM X.K):=by
 intro f l c s Z H x y v u Q I E F h A;obtain⟨p,P,i,z,rfl,rfl,G,K,q⟩:=h;cases E;obtain⟨t,rfl⟩:=F;obtain⟨n,r,g,O⟩:=I.list G;obtain⟨j,e,L,M,J,C⟩:=LO K;obtain⟨w,B,m⟩:=r.get L;have D:=r.length;have N:=RI;have d:EP X c Z Q w s:=⟨z,H,I,m,q⟩
 by_cases o:0<=i
 .have k:=by rw[uK o C]at e;exact Option.some.inj e
  exact item_listR g.isList o (by lia) (by rw[k];simpa using B) d A
 .have k:(i+n.toArray.size).toNat=j:=by rw[dN (by lia) J]at e;rw[qB3,<- D];exact Option.some.inj e
  exact lO g.isList.typeIs slot_list_getitem.lookup
   (wpAny_getItem_list_neg g.isList (by lia) (by rw[qB3]<;>lia) (by lia) (by rw[k];simpa using B) ⟨rfl,d⟩) A
theorem xp:SQ X (LL X.K):=by
 intro d e c s Z H x y v u Q I n o h l;obtain⟨p,N,i,z,rfl,rfl,B,C,q⟩:=h;cases n;obtain⟨t,rfl⟩:=o;obtain⟨D,r,k,M⟩:=I.tuple B;obtain⟨j,E,F,J,L,G⟩:=LO C;obtain⟨w,A,f⟩:=r.get F;have m:=r.length;have K:=RI;have g:EP X c Z Q w s:=⟨z,H,I,f,q⟩
 exact lO k.typeIs slot_tuple_getitem.lookup
  (getItem_tuple k (by lia) (by lia) (by rw[qB3,<- m];exact E) (by simpa using A) ⟨rfl,g⟩) l
theorem xo:SQ X LK:=by
 intro d e f s Z H x y v u Q I o p h m;obtain⟨z,i,c,rfl,rfl,E,w,q⟩:=h;obtain⟨t,rfl⟩:=o;obtain⟨F,rfl⟩:=p;obtain⟨j,g,A,C,r,k⟩:=LO w;have n:z.cps.toList.length=z.length:=by simp[Str.length]
 rw[n]at g r k;have D:=RI;exact tail_any (vT s z t) slot_str_getitem.lookup (getItem_str (c:=c) (by
  have B:decide (i < -(2 ^ 63:Int))=Z5:=decide_eq_false (by lia);have l:decide (i≥2 ^ 63)=Z5:=decide_eq_false (by lia);rw[B,l,Bool.or_false]) (by rw[g];simpa using A) ⟨.str ⟨#[c]⟩,H,I.tok _,⟨_,rfl⟩,q⟩) m
theorem xn(c:yB)(n j:Nat)(u:yT):vU (·.setIfInBounds j u) { cls:=.type "list",data:=.seq c.toArray n }={ cls:=.type "list",data:=.seq (c.set j u).toArray n }:=by simp[vU]
theorem ZO.lst{Z:St}(I:ZO X d Z H s)(h:H p=Z9 (.lst xs)):
  ∃(c:yB) (n:Nat),ZJ xs c/\s.heap.get? p=Z9 { cls:=.type "list",data:=.seq c.toArray n }/\xs.length<=sizeLine:=by obtain⟨z,c,n,r,e⟩:=I.hok p _ h;exact⟨c,n,r,e,z⟩
theorem ZO.lstUpd{Z:St}{d its':yB}(I:ZO X c Z H s)(h:H p=Z9 (.lst xs))
  (k:s.heap.get? p=Z9 { cls:=.type "list",data:=.seq d.toArray n }) (i:f { cls:=.type "list",data:=.seq d.toArray n }={ cls:=.type "list",data:=.seq its'.toArray g }) (r:ZJ ys its') (hz:ys.length<=yV) (t:Nat) :
  ZO X c Z (ZF H p (.lst ys)) { s with heap:=s.heap.update p f,toks:=t }:=by
 have e:(s.heap.update p f).get? p=Z9 { cls:=.type "list",data:=.seq its'.toArray g }:=by rw[qI4 f k (by rw[i]<;>rfl),i]
 refine I.write (by rw[h];trivial) (.inl rfl) (λb u j q=>(qK1 _ _ (Ne.symm j)).trans q) ⟨_,e⟩ ?_;exact⟨hz,its',g,r,e⟩
def xm:V->V->V->Hp->(Hp->Prop)->Prop:=λo i v H Q=>∃p c k j,o=.ref p/\i=.int k/\H p=Z9 (.lst c)/\VQ c.length k=Z9 j/\Q (ZF H p (.lst (c.set j v)))
theorem xl:VS X xm:=by
 intro w s Z H o i v J F u Q I D B z h;obtain⟨p,K,k,j,rfl,rfl,x,A,q⟩:=h;cases D;obtain⟨t,rfl⟩:=B;obtain⟨c,n,r,f,C⟩:=I.lst x;obtain⟨d,G,l,y⟩:=Gb A;have e:=r.length;have E:=RI;have m :=
  I.lstUpd x f (xn c n j u) (r.set z j) (by rw[qN8];exact C) s.toks
 by_cases g:0<=k
 .have hk:=by rw[uK g y]at d;exact Option.some.inj d
  exact W.ki_setAt f g (by lia) (by rw[qB3,<- e];exact y) (by rw[hk];exact⟨_,m,q⟩)
 .have hk:(k+c.toArray.size).toNat=j:=by rw[dN (by lia) l]at d;rw[qB3,<- e];exact Option.some.inj d
  exact W.ki_setBack f (by lia) (by rw[qB3,<- e];exact l) (by lia) (by rw[hk];exact⟨_,m,q⟩)
theorem xk(lo hi:yG)(n:Nat):(wZ lo hi Z8 n).1=((HT.sIx n 0 lo:Nat):Int)/\(wZ lo hi Z8 n).2.1=((HT.sIx n n hi:Nat):Int)/\(wZ lo hi Z8 n).2.2=1:=by
 refine⟨?_,?_,rfl⟩
 .cases lo with
  |none=>simp[wZ,HT.sIx]
  |some i =>
   simp only[wZ,HT.sIx,qQ3,show(1:Int)>0 by decide,if_true];by_cases h:i<0
   .simp only[h,if_true]<;>lia
   .simp only[h,if_false]<;>lia
 .cases hi with
  |none=>simp[wZ,HT.sIx]
  |some i =>
   simp only[wZ,HT.sIx,qQ3,show(1:Int)>0 by decide,if_true];by_cases h:i<0
   .simp only[h,if_true]<;>lia
   .simp only[h,if_false]<;>lia
theorem xj(c:yB)(lo hi:yG):slicePick c.toArray lo hi Z8=((c.drop (HT.sIx c.length 0 lo)).take (HT.sIx c.length c.length hi - HT.sIx c.length 0 lo)).toArray:=by obtain⟨f,d,e⟩:=xk lo hi c.toArray.size;unfold slicePick;rw[f,d,e];simp only[sliceRange_one,pick_run]<;>rfl
def LJ(K:yQ):V->yG->yG->Hp->VK->Prop:=λx d e H Q=>∃a c,x=.ref a/\YK K H a c/\∀p,H p=Z8->Q (.ref p) (ZF H p (.lst (cutV c d e)))
theorem Ga:SU X (LJ X.K):=by intro f s Z H x v y u e i t Q I l j k p h;obtain⟨a,d,rfl,n,q⟩:=h;cases l;obtain⟨o,r,g,m⟩:=I.list n;have c:=r.length;refine⟨"list",_,slot_list_getitem.lookup,g.isList.typeIs,?_⟩;refine wpAny_getItem_list_slice g.isList j k p .none (by simp) ?_ (by rw[qB3]<;>lia);rw[xj,<- c];refine⟨.ref s.heap.objs.size,_,I.laid (t':=s.toks) (λb w q=>qA0 _ q) (qA6 _) ?_,rfl,q _ (I.hok.fresh (qA6 _))⟩;exact⟨qC5 (Gc d e i) m,_,0,(r.drop (HT.sIx d.length 0 e)).take (HT.sIx d.length d.length i - HT.sIx d.length 0 e),qA7 _ rfl⟩
def UN:V->Bool
 |.non=>Z7
 |.bl _=>Z7
 |.int _=>Z7
 |.str _=>Z7
 |_=>Z5
def UM:V->V->Bool
 |.non,.non=>Z7
 |.bl a,.bl b=>a == b
 |.bl a,.int b=>(if a then 1 else 0) == b
 |.int a,.bl b=>a == (if b then 1 else 0)
 |.int a,.int b=>a == b
 |.str a,.str b=>a == b
 |_,_=>Z5
theorem xi(e:ZG y u)(c:ZG x v)(g:UN y=Z7)(f:UN x=Z7):SeqAt.EqAt A s u v (UM y x):=by
 cases y with
 |non =>
  cases e;cases x with
  |non=>cases c;exact SeqAt.EqAt.same _
  |bl b=>cases c;exact SeqAt.EqAt.none_bool b
  |int b=>obtain⟨t,rfl⟩:=c;exact SeqAt.EqAt.none_int b t
  |str b=>obtain⟨t,rfl⟩:=c;exact SeqAt.EqAt.none_str b t
  |_=>exact absurd (show Z5=Z7 from f) qB0
 |bl a =>
  cases e;cases x with
  |non=>cases c;exact SeqAt.EqAt.bool_none a
  |bl b=>cases c;exact SeqAt.EqAt.bool_bool a b
  |int b=>obtain⟨t,rfl⟩:=c;exact SeqAt.EqAt.bool_int a b t
  |str b=>obtain⟨t,rfl⟩:=c;exact SeqAt.EqAt.bool_str a b t
  |_=>exact absurd (show Z5=Z7 from f) qB0
 |int a =>
  obtain⟨d,rfl⟩:=e;cases x with
  |non=>cases c;exact SeqAt.EqAt.int_none a d
  |bl b=>cases c;exact SeqAt.EqAt.int_bool a d b
  |int b=>obtain⟨t,rfl⟩:=c;exact SeqAt.EqAt.int_int a d b t
  |str b=>obtain⟨t,rfl⟩:=c;exact SeqAt.EqAt.int_str a d b t
  |_=>exact absurd (show Z5=Z7 from f) qB0
 |str a =>
  obtain⟨d,rfl⟩:=e;cases x with
  |non=>cases c;exact SeqAt.EqAt.str_none a d
  |bl b=>cases c;exact SeqAt.EqAt.str_bool a d b
  |int b=>obtain⟨t,rfl⟩:=c;exact SeqAt.EqAt.str_int a d b t
  |str b=>obtain⟨t,rfl⟩:=c;exact SeqAt.EqAt.str_str a d b t
  |_=>exact absurd (show Z5=Z7 from f) qB0
 |_=>exact absurd (show Z5=Z7 from g) qB0
def Wf(x:V)(u:yT):Bool:=match u with
 |.none=>UM .non x
 |.bool b=>UM (.bl b) x
 |.int i _=>UM (.int i) x
 |.str z _=>UM (.str z) x
 |_=>Z5
theorem F9(r:ZG y u)(f:UN y=Z7):Wf x u=UM y x:=by
 cases y with
 |non=>cases r;rfl
 |bl b=>cases r;rfl
 |int i=>obtain⟨t,rfl⟩:=r;rfl
 |str z=>obtain⟨t,rfl⟩:=r;rfl
 |_=>exact absurd (show Z5=Z7 from f) qB0
theorem QD{x:V}:∀{xs:List V}{us:yB},ZJ xs us->xs.all UN=Z7->us.any (Wf x)=xs.any λy=>UM y x
 |_,_,.nil,_=>rfl
 |y::xs,u::us,.cons r t,f=>by rw[qJ3,qC1]at f;rw[qE9,qE9,F9 r f.1,QD t f.2]
theorem QC{A:y7}{s:yS}{x:V}{v:yT}(d:ZG x v)(e:UN x=Z7):∀{xs:List V}{us:yB},ZJ xs us->xs.all UN=Z7->∀u∈us,SeqAt.EqAt A s u v (Wf x u)
 |_,_,.nil,_=>λu c=>by cases c
 |y::xs,u::us,.cons r t,f=>λg c=>by
  rw[qJ3,qC1]at f;rcases qC0.mp c with rfl|c
  .rw[F9 r f.1];exact xi r d f.1 e
  .exact QC d e t f.2 g c
def TB(x:V)(xs:List V):Bool:=xs.any λy=>UM y x
def LI(K:yQ)(neg:Bool):R2:=λx y H Q=>∃p c,y=.ref p/\(YK K H p c∨Zp K H p c)/\UN x=Z7/\c.all UN=Z7/\Q (.bl (if neg then !TB x c else TB x c)) H
theorem xh:YW X (yZ .In) (LI X.K Z5):=by
 intro g s Z H x y v u Q I i k h;obtain⟨p,m,rfl,d,j,fs,q⟩:=h;cases k;rcases d with d|d
 .obtain⟨c,r,e,l⟩:=I.list d;refine SeqAt.in_listAt (Wf x) e.isList (λw f=>QC i j r fs w (by simpa using f)) ⟨.bl _,H,I,rfl,?_⟩;rw[show c.toArray.any (Wf x)=c.any (Wf x) by simp,QD r fs];exact q
 .obtain⟨c,r,e,l⟩:=I.tuple d;refine SeqAt.in_tupleAt (Wf x) e (λw f=>QC i j r fs w (by simpa using f)) ⟨.bl _,H,I,rfl,?_⟩;rw[show c.toArray.any (Wf x)=c.any (Wf x) by simp,QD r fs];exact q
theorem xg:YW X (yZ .NotIn) (LI X.K Z7):=by
 intro g s Z H x y v u Q I i k h;obtain⟨p,m,rfl,d,j,fs,q⟩:=h;cases k;rcases d with d|d
 .obtain⟨c,r,e,l⟩:=I.list d;refine SeqAt.notIn_listAt (Wf x) e.isList (λw f=>QC i j r fs w (by simpa using f)) ⟨.bl _,H,I,rfl,?_⟩;rw[show c.toArray.any (Wf x)=c.any (Wf x) by simp,QD r fs];exact q
 .obtain⟨c,r,e,l⟩:=I.tuple d;refine SeqAt.notIn_tupleAt (Wf x) e (λw f=>QC i j r fs w (by simpa using f)) ⟨.bl _,H,I,rfl,?_⟩;rw[show c.toArray.any (Wf x)=c.any (Wf x) by simp,QD r fs];exact q
theorem F8:Yk X (.builtin "len") (λxs H Q=>∃p ys,xs=[.ref p]/\(YK X.K H p ys∨Zp X.K H p ys)/\Q (.int ys.length) H):=by
 intro i s Z H xs m Q I r h;obtain⟨p,ys,rfl,d,q⟩:=h;obtain⟨u,rfl,j⟩:=XC r;cases j;have l:=RI;rcases d with d|d
 .obtain⟨g,e,f,k⟩:=I.list d;have c:=e.length;exact Calls.call_len_list f.isList (by simp only[qB3]<;>lia) ⟨.int ys.length,H,I.tok _,⟨s.toks+1,by rw[qB3,c]⟩,q⟩
 .obtain⟨g,e,f,k⟩:=I.tuple d;have c:=e.length;exact len_tuple f (by simp only[qB3]<;>lia) ⟨.int ys.length,H,I.tok _,⟨s.toks+1,by rw[qB3,c]⟩,q⟩
theorem xf:Yk X (.builtin "len") (λxs H Q=>∃z,xs=[.str z]/\z.length<=yV/\Q (.int z.length) H):=by intro c s Z H xs e Q I r h;obtain⟨z,rfl,f,q⟩:=h;obtain⟨u,rfl,t,rfl⟩:=XC r;have d:=RI;exact len_str (by lia) ⟨.int z.length,H,I.tok _,⟨_,rfl⟩,q⟩
theorem xc:Yk X (.type "list") (λxs H Q=>∃p ys,xs=[.ref p]/\(YK X.K H p ys∨Zp X.K H p ys)/\∀l,H l=Z8->Q (.ref l) (ZF H l (.lst ys))):=by
 intro i s Z H xs B Q I r h;obtain⟨p,ys,rfl,j,q⟩:=h;obtain⟨u,rfl,A⟩:=XC r;cases A;have t:∀c,ZJ ys c->ys.length<=yV->∀d g,(∀b z,s.heap.get? b=Z9 z->d.get? b=Z9 z) ->
   d.get? s.heap.objs.size=Z9 { cls:=.type "list",dict:=Z8,data:=.seq c.toArray g,slots:=#[] }->EP X i Z Q (.ref s.heap.objs.size) { s with heap:=d }:=λc f k d g kp e =>
  ⟨.ref s.heap.objs.size,_,I.laid (t':=s.toks) kp (qA6 _) (show XE X.prog X.w _ d _ (.lst ys)from⟨k,c,g,f,e⟩),rfl,q _ (I.hok.fresh (qA6 _))⟩
 rcases j with j|j
 .obtain⟨c,f,w,k⟩:=I.list j;have m:=f.length;obtain⟨o,x,y,n,v⟩:=w.isList;exact call_list_seq p (.inl rfl) x y v (λd g kp e=>t c f k d g kp e) (by simp only[qB3]<;>lia)
 .obtain⟨c,f,w,k⟩:=I.tuple j;have m:=f.length;obtain⟨o,x,y,n,v⟩:=w;exact call_list_seq p (.inr rfl) x y v (λd g kp e=>t c f k d g kp e) (by simp only[qB3]<;>lia)
theorem F7:Yk X (.type "tuple") (λxs H Q=>∃p ys,xs=[.ref p]/\((YK X.K H p ys/\∀l,H l=Z8->Q (.ref l) (ZF H l (.tup ys)))∨(Zp X.K H p ys/\Q (.ref p) H))):=by
 intro i s Z H xs w Q I r h;obtain⟨p,ys,rfl,h⟩:=h;obtain⟨u,rfl,t⟩:=XC r;cases t;rcases h with⟨g,q⟩| ⟨g,q⟩
 .obtain⟨c,d,f,j⟩:=I.list g;have m:=d.length;refine call_tuple_list f.isList (λn kp=>?_) (by simp only[qB3]<;>lia);have k:=I.kept (t':=s.toks) kp;have v :=
   k.laid (t':=s.toks) (λb o e=>qA0 _ e) (qA6 _) (show XE X.prog X.w _ _ _ (.tup ys)from⟨j,c,d,IsTup.new _ _⟩)
  exact⟨.ref n.objs.size,_,v,rfl,q _ (k.hok.fresh (qA6 _))⟩
 .obtain⟨c,d,f,j⟩:=I.tuple g;exact call_tuple_same f ⟨.ref p,H,I,rfl,q⟩
def LH(K:yQ)(T:String)(x:V)(H:Hp):Prop:=match x with
 |.str _=>T = "str"
 |.int _=>T = "int"
 |.ref p=>(T = "list"/\∃d,YK K H p d)∨(T = "tuple"/\∃o,K.lookup p=Z9 o/\o.cls=.type "tuple"/\o.dict=Z8) ∨
   (T = "dict"/\((∃c,H p=Z9 (.dK c))∨∃c,H p=Z9 (.dT c)))∨(T = "set"/\∃S n,H p=Z9 (.set S n))
 |_=>False
theorem xb{Z:St}(I:ZO X d Z H s)(r:ZG x v)(f:LH X.K T x H):
  s.TypeIs v T/\∀a,v=.ref a->∃l,s.heap.get? a=Z9 l/\l.dict=Z8:=by
 cases x with
 |str z =>
  obtain⟨t,rfl⟩:=r;cases (show T = "str" from f);exact⟨vT s z t,λ_ e=>nomatch e⟩
 |int i =>
  obtain⟨t,rfl⟩:=r;cases (show T = "int" from f);exact⟨typeIs_int s i t,λ_ e=>nomatch e⟩
 |ref p =>
  cases r;rcases f with⟨rfl,w,m⟩| ⟨rfl,o,hk,u,j⟩| ⟨rfl,hk⟩| ⟨rfl,S,n,hk⟩
  .obtain⟨q,_,k,_⟩:=I.list m;refine⟨k.isList.typeIs,λa e=>?_⟩;cases e;obtain⟨o,n,e,c,j,_⟩:=k;exact⟨o,e,j⟩
  .refine⟨⟨o,I.kIn p o hk,u⟩,λa e=>?_⟩;cases e;exact⟨o,I.kIn _ o hk,j⟩
  .have z:∃o,s.heap.get? p=Z9 o/\o.ExactDict:=by
    rcases hk with⟨h,hk⟩| ⟨h,hk⟩
    .obtain⟨_,_,_,_,o,_,_,e,ex,_⟩:=I.hok p _ hk;exact⟨o,e,ex⟩
    .obtain⟨_,_,_,_,o,_,_,e,ex,_⟩:=I.hok p _ hk;exact⟨o,e,ex⟩
   obtain⟨o,e,ex⟩:=z;refine⟨⟨o,e,ex.1⟩,λa g=>?_⟩;cases g;exact⟨o,e,ex.2.1⟩
  .obtain⟨o,_,_,_,e,ex,_⟩:=I.hok p _ hk;refine⟨⟨o,e,ex.1⟩,λa g=>?_⟩;cases g;exact⟨o,e,ex.2.1⟩
 |_=>exact False.elim f
def xa(K:yQ)(T:String)(r:V->List V->Hp->VK->Prop)(e:TE)(t:TA):TE:=fun Z H Q=>e Z H λx c=>LH K T x c/\t Z c λf d=>r x f d Q
variable {o e:yY}{es:yE}{to:TE}{t:TA}{name:Str}{apos cpos:Pos}{T id:String}{r:V->List V->Hp->VK->Prop}
theorem wz(y:PlainAttrs T)(j:Slot T name id)(k:typeOf (.builtin id)=pure (.type "method_descriptor"))(D:Ow X id r)(N:PE X o to)(M:PA X (e::es) t)
  (g:vS o name X.env (jW o X.env)=jW o X.env:=by rfl)
  (i:((vB cpos (y3 (e::es) X.env)).all (λx=>!x.1)&&(wH cpos (j8 [] X.env)).all (λx=>x.1.isSome)
   && decide ((e::es).length+([]:List wA).length+(if([]:List wA).isEmpty then 0 else 1)<30))=Z7:=by rfl)
  (f:(apos.endLine == cpos.line)=Z7:=by rfl) (w:y3 (e::es) X.env=(Z5,jW e X.env)::y3 es X.env:=by rfl) (d:(vB cpos (y3 es X.env)).any (·.1)=Z5:=by rfl) :
  PE X (.Call (.Attribute o name apos) (e::es) [] cpos) (xa X.K T r to t):=by intro c s Z H Q I h;refine lP g i f rfl (Zt (N c s Z H _ I h) λv q ⟨x,F,m,l,J,C⟩=>?_);obtain⟨K,L⟩:=xb m l J;refine⟨T,id,y,j,k,K,L,?_⟩;have n:=M cpos c q Z F _ m C;rw[w]at n ⊢;refine lQ (by show(Z5||(vB cpos (y3 es X.env)).any (·.1))=Z5;rw[d]<;>rfl) (mL ?_);exact Zt n λB A ⟨E,p,G,z,u⟩=>D c A Z p x E v B Q G l z u
end
def UL(X:Cx)(id:String)(r:V->List V->Hp->VK->Prop):Prop :=
 ∀(a:yD) (s:yS) (Z:St) (H:Hp) (x:V) (c:List V) (v:yT) (b:yB) (Q:VK),ZO X a Z H s->ZG x v->ZJ c b->r x c H Q ->
  y2 (yW X.prog X.w) X.A (mY (.builtin id) (v::b)) (EP X a Z Q) X.xe s
theorem ZJ.cinv:∀{us:yB},ZJ (x::xs) us->∃u r,us=u::r/\ZG x u/\ZJ xs r
 |_,.cons r t=>⟨_,_,rfl,r,t⟩
theorem ZJ.ninv:∀{us:yB},ZJ [] us->us=[]
 |_,.nil=>rfl
theorem ZJ.one(h:ZJ [x] us):∃u,us=[u]/\ZG x u:=by obtain⟨u,r,rfl,a,t⟩:=h.cinv;rw[t.ninv];exact⟨u,rfl,a⟩
theorem ZJ.two(h:ZJ [x,y] us):∃u v,us=[u,v]/\ZG x u/\ZG y v:=by obtain⟨u,r,rfl,a,t⟩:=h.cinv;obtain⟨v,rfl,b⟩:=t.one;exact⟨u,v,rfl,a,b⟩
theorem ZJ.dropLast(h:ZJ xs us):ZJ xs.dropLast us.dropLast:=by
 induction h with
 |nil=>exact .nil
 |cons r t a =>
  cases t with
  |nil=>exact .nil
  |cons q b=>exact .cons r a
theorem ZJ.eraseIdx:∀{xs:List V}{us:yB} (i:Nat),ZJ xs us->ZJ (xs.eraseIdx i) (us.eraseIdx i)
 |_,_,_,.nil=>.nil
 |_,_,0,.cons _ t=>t
 |_,_,i+1,.cons r t=>.cons r (ZJ.eraseIdx i t)
theorem F6{a:Type}:∀(l:List a) (i:Nat),(l.eraseIdx i).length<=l.length
 |[],_=>qA6 _
 |_::_,0=>qM7 _
 |_::r,i+1=>qN3 (F6 r i)
section
variable {X:Cx}{pins:yD}{Z:St}{H:Hp}{s:yS}{l b:yR}{xs ys zs:List V}
theorem ZO.lset{a its':yB}{f:yJ->yJ}(I:ZO X pins Z H s)(g:H l=Z9 (.lst xs))
  (e:s.heap.get? l=Z9 { cls:=.type "list",data:=.seq a.toArray n }) (h:f a.toArray=its'.toArray) (hv:ZJ ys its') (hz:ys.length<=yV) :
  ZO X pins Z (ZF H l (.lst ys)) { s with heap:=s.heap.update l (vU f),toks:=t' }:=by have q:=PySem.IsL.update e f;rw[h]at q;refine I.write (by rw[g];exact trivial) (.inl rfl) (λi u c d=>(qK1 s.heap (vU f) (Ne.symm c)).trans d) ⟨_,q⟩ ?_;exact⟨hz,its',_,hv,q⟩
theorem ZO.lnew(I:ZO X pins Z H s)(hv:ZJ ys a)(hz:ys.length<=yV):
  ZO X pins Z (ZF H s.heap.objs.size (.lst ys)) { s with heap:=s.heap.push { cls:=.type "list",data:=.seq a.toArray },toks:=t' } :=
 I.laid (λ_ _ q=>qA0 _ q) (qA6 _) ⟨hz,a,0,hv,qA7 _ rfl⟩
theorem ZO.fresh(I:ZO X pins Z H s):H s.heap.objs.size=Z8:=I.hok.fresh (qA6 _)
theorem ZO.lstM(I:ZO X pins Z H s)(c:H l=Z9 (.lst xs)):xs.length<=yV/\∃(a:yB) (n:Nat),ZJ xs a/\xs.length=a.length/\s.heap.get? l=Z9 { cls:=.type "list",data:=.seq a.toArray n }:=by obtain⟨z,a,n,r,e⟩:=I.hok l _ c;exact⟨z,a,n,r,r.length,e⟩
theorem F5(h:n<=yV):Builtin.List.listTooLong n=Z5:=by exact decide_eq_false (by lia)
end
section
variable {X:Cx}
def wy:V->List V->Hp->VK->Prop:=λx b H Q=>∃l a y,x=.ref l/\b=[y]/\H l=Z9 (.lst a)/\a.length<yV/\Q .non (ZF H l (.lst (a++[y])))
theorem F4:UL X "list.append" wy:=by
 intro b s Z H x j v k Q I f g h;obtain⟨l,o,y,rfl,rfl,c,m,q⟩:=h;cases f;obtain⟨u,rfl,d⟩:=g.one;obtain⟨z,a,n,r,i,e⟩:=I.lstM c;refine vL F.slot_list_append ⟨_,e,rfl⟩ F.entry_list_append (F.args_list_append_2 _ _) (PySem.list_append l a.toArray n u (by rw[qB3];lia)) ⟨e,?_⟩;refine⟨.non,_,I.lset (its':=a++[u]) c e (by simp) (r.append (.cons d .nil)) ?_,rfl,q⟩;rw[qB5,List.length_singleton]
 lia
def wx:V->List V->Hp->VK->Prop:=λx d H Q=>∃l b c a,x=.ref l/\d=[.ref b]/\H l=Z9 (.lst c)/\H b=Z9 (.lst a)/\c.length+a.length<=yV/\Q .non (ZF H l (.lst (c++a)))
theorem wu:UL X "list.extend" wx:=by
 intro g s Z H x C v D Q I o p h;obtain⟨l,b,J,A,rfl,rfl,i,y,E,q⟩:=h;cases o;obtain⟨u,rfl,k⟩:=p.one;cases k;obtain⟨z,c,n,r,B,e⟩:=I.lstM i;obtain⟨G,a,m,t,w,j⟩:=I.lstM y;have f:c.toArray.size+a.toArray.size<=sizeLine:=by rw[qB3,qB3];lia
 have d:¬(!c.toArray.isEmpty&&Builtin.List.listTooLong (c.toArray.size+a.toArray.size))=Z7:=by rw[F5 f,qR5];exact qB0
 refine vL F.slot_list_extend ⟨_,e,rfl⟩ F.entry_list_extend (F.args_list_extend_2 _ _)
  (AutoSeq1.list_extend_list_list_0 l c.toArray n b a.toArray m d (by lia) (by lia)) ⟨e,j,?_⟩
 refine⟨.non,_,I.lset (its':=c++a) i e (by simp) (r.append t) ?_,rfl,q⟩;rw[qB5]
 lia
def wq:V->List V->Hp->VK->Prop:=λx b H Q=>∃l a i k y,x=.ref l/\b=[.int i]/\H l=Z9 (.lst a)/\-(2 ^ 63)<=i/\i<2 ^ 63/\seqIndex? i a.length=Z9 k/\a[k]?=Z9 y/\Q y (ZF H l (.lst (a.eraseIdx k)))
theorem wm:UL X "list.pop" wq:=by
 intro c s Z H x D v E Q I j m h;obtain⟨l,C,i,k,y,rfl,rfl,d,p,B,hk,A,q⟩:=h;cases j;obtain⟨u,rfl,f⟩:=m.one;obtain⟨t,rfl⟩:=f;obtain⟨z,a,n,r,g,e⟩:=I.lstM d;obtain⟨w,o,b⟩:=r.get A;refine vL F.slot_list_pop ⟨_,e,rfl⟩ F.entry_list_pop (F.args_list_pop_2 _ _)
  (MeetsSeq.list_pop_at l a.toArray n i t k w (fitsIndex_both p B) (by rw[qB3,<- g];exact hk) (by rw[<- jM];exact o) (by rw[qB3];lia)) ⟨e,?_⟩
 refine⟨y,_,I.lset (its':=a.eraseIdx k) d e ?_ (r.eraseIdx k) ?_,b,q⟩
 .show a.toArray.eraseIdxIfInBounds k=(a.eraseIdx k).toArray;rw[List.eraseIdxIfInBounds_toArray]
 .have:=F6 C k
  lia
def LG:R2:=λx y H Q=>∃l b c a,x=.ref l/\y=.ref b/\H l=Z9 (.lst c)/\H b=Z9 (.lst a)/\c.length+a.length<=yV/\∀p,H p=Z8->Q (.ref p) (ZF H p (.lst (c++a)))
theorem wj:YW X (jJ .Add) LG:=by
 intro d s Z H x y v u Q I g i h;obtain⟨l,b,D,t,rfl,rfl,j,o,B,q⟩:=h;cases g;cases i;obtain⟨z,c,n,r,A,e⟩:=I.lstM j;obtain⟨C,a,w,k,m,f⟩:=I.lstM o;refine PySem.P.add_list e f ?_ (by rw[qB3,qB3];lia);have p:c.toArray++a.toArray=(c++a).toArray:=by simp
 rw[p];exact⟨.ref _,_,I.lnew (t':=s.toks) (r.append k) (by rw[qB5];lia),rfl,q _ I.fresh⟩
end
end Lake
namespace Lake.Att
open PySem PySem.W PySem.Calls PyProof.Rows
theorem wg:∀(ns:yA) (vs:yB),WellAll P h vs (ns.map WData.int)->vN vs ns:=by
 intro ns
 induction ns with
 |nil =>
  intro vs w;cases w;exact .nil
 |cons n ns c =>
  intro vs w;cases w with
  |cons a b =>
   cases a;exact .cons _ _ (c _ b)
theorem we{l:OpenLaw}(s:l.most=Z9 n){b:yB}
  (c:l.row.toRowW.claim.pre args=Z7) (k:WellAll P h b args) :
  ∃a vs ns,b=[Value.ref a]/\args=[WData.list (ns.map WData.int)]/\h.get? a=Z9 { cls:=.type "list",data:=.seq vs.toArray }/\vN vs ns/\ns.length<=n:=by
 have j:WShape.hasAll [] args [.list .int]=Z7:=(pre_splitW c).1;have x:l.pre.holds [] { args:=args }=Z7:=(pre_splitW c).2;obtain⟨d,r,rfl,u,v⟩:=hasAllW_cons j;obtain rfl:=hasAllW_nil v;obtain⟨y,rfl,o⟩:=hasW_list u;obtain⟨ns,rfl⟩:=items_int o;have e:ns.length<=n:=by
  have i:=by have i:=(holds_andW x).1;rw[s]at i;exact i
  have g:=condW_of i (w_not (w_lt w_lit (w_len_list (w_arg rfl))));rw[qA1]at g;refine qH8 λq=>?_;have m:n<(ns.length:Int):=by omega
  first
   |(rw[decide_eq_true m]at g;exact absurd g (by decide))
   |(simp at g)
 cases k with
 |cons p t =>
  cases t;cases p with
  |list w f=>exact⟨_,_,ns,rfl,rfl,w,wg ns _ f,e⟩
theorem wc(l:OpenLaw)(a:List WData):l.row.toRowW.claim.post a (.bool Z7) a=Z7 :=
 postW_of
  (by first|rfl|decide|simp[WShape.arms])
  (w_eq_bool (w_res rfl) w_lit) rfl
theorem attach_call{l:OpenLaw}{c:yH}{A:(Str->yF)->y9->Prop}
  (N:l.most=Z9 n) (v:d.params.defaults=[])
  (mY:∀(w:y8) (e b:yS) (p t:Str->yF) (i:yR) (o:Obj) (y s h:yT) (a:yR) (vs:yB) (ns:yA),
   Ground q c [] A w e p t b.heap->C w b.heap ->
   b.heap.get? i=Z9 o->o.data=.func (docDef d.name d.params d.body d.scope y s h)->b.heap.CodeRec s d.name->p d.name=Z9 (.ref i) ->
   b.heap.get? a=Z9 { cls:=.type "list",data:=.seq vs.toArray }->vN vs ns->ns.length<=n->b.gens=#[] ->
   wR (yW l.prog w) lS (.call (.ref i) ⟨[.ref a],[]⟩) (λr s'=>r=.ok (.ret (.bool Z7))/\OldK b.heap s'.heap/\s'.os=b.os/\gQ s'.gens) b) :
  WalkO q c A C l.row.toRowW d [] (λf vs=>PySem.call f vs):=by intro w e b p t G Y i o y s h K kV S L u E x Q D B T j F H z J;obtain rfl:K=.none:=Dflts.none E v;obtain rfl:kV=.none:=Dflts.noKw E;obtain⟨a,vs,ns,rfl,rfl,m,g,k⟩:=we N j z;refine enter_call (lL (mY w e b p t i o y s h a vs ns G Y S (fd_plain L) u x m g k Q) λr s' M=>?_);obtain⟨rfl,R,I,O⟩:=M;exact⟨.inl ⟨.bool Z7,.bool Z7,[],rfl,λ_=>rfl,.bool Z7,wc l _,λ_=>⟨List.Pairwise.nil,λ_ P=>(nomatch P)⟩⟩,R,I,O⟩
end Lake.Att
namespace Lake
open PySem PySem.Spec PyProof.Rows
theorem F3:∀{vs:yB}{ns:yA},vN vs ns->ZJ (ns.map V.int) vs
 |_,_,.nil=>.nil
 |_,_,.cons n t h=>.cons ⟨t,rfl⟩ (F3 h)
def Uo(H:Hp):Prop:=∀b,H b=Z8∨∃o a,H b=Z9 (.frz o (.lst a))
theorem wb{K:yQ}{t N:Str->yF}{vs:yB}{ns:yA}
  (KX:K.In s₁.heap) (B:s₁.heap.Ns jC t) (f:s₁.heap.Ns dE N) (M:∀x:Str,x ≠ "__name__"->N x=jA x) (D:s₁.heap.NoLimit) (hg:s₁.gens=#[])
  (I:s₁.heap.get? a=Z9 { cls:=.type "list",data:=.seq vs.toArray }) (hi:vN vs ns) (W:ns.length<=yV) (hr:Zh k lS)
  (F:∀base:y9,K.In base->base.Ns jC t->Yw P w K t base S k L Y [x] T) (j:∀(s:yS) (u:yT),dL s Y ⟨[u],[]⟩ [(x,u)])
  (Q:∀H:Hp,Uo H->YK K H a (ns.map V.int)->T [.ref a] H (λv _=>v=.bl Z7) λ_ _ _=>False)
  (J:∀H e s',S [] H s₁ (λ_ _ _=>False) e s'->False) :
  wR (yW P w) lS (.call (.ref L) ⟨[.ref a],[]⟩) (λr s'=>r=.ok (.ret (.bool Z7))/\OldK s₁.heap s'.heap/\s'.os=s₁.os/\gQ s'.gens) s₁:=by
 have X:=F3 hi;have p:=hi.length;have i:∀H:Hp,Uo H->YK K H a (ns.map V.int)->Ye P w H s₁.heap->(∀b,H b≠Z8->b=a)->(H a≠Z8->K.lookup a=Z8) ->
   wR (yW P w) lS (.call (.ref L) ⟨[.ref a],[]⟩) (λr s'=>r=.ok (.ret (.bool Z7))/\OldK s₁.heap s'.heap/\s'.os=s₁.os/\gQ s'.gens) s₁:=by
  intro H U hS E Z hK;have c:∀{b:yR}{o:Obj},s₁.heap.get? b=Z9 o->H b=Z8->(W3 s₁.heap H).get? b=Z9 o:=λe n=>AF e n;have R:∀{b:yR}{o:Obj}{A:Array vJ}{ep:Nat},s₁.heap.get? b=Z9 o->o.data=.dict A ep->H b=Z8:=λ{b o A ep} e d=>by
   cases q:H b with
   |none=>rfl
   |some u =>
    have O:b=a:=Z b (by rw[q];simp);subst O;rw[I]at e;cases e;have d':Data.seq vs.toArray _=Data.dict A ep:=d;cases d'
  have g:∀{b:yR}{m:Str->yF},s₁.heap.Ns b m->(W3 s₁.heap H).Ns b m:=λ{b m} ⟨o,A,ep,e,d,r⟩=>⟨o,A,ep,c e (R e d),d,r⟩
  have l:K.In (W3 s₁.heap H):=λb o e=>c (KX b o e) (by
   cases q:H b with
   |none=>rfl
   |some u =>
    have O:b=a:=Z b (by rw[q];simp);subst O;rw[hK (by rw[q];simp)]at e;cases e)
  have hM:Mod K t (W3 s₁.heap H):=⟨l,g B,⟨N,g f,M⟩,let ⟨mc,h1,h2⟩:=D;⟨mc,g h1,h2⟩⟩
  have e0:Wj P w K t (W3 s₁.heap H) lS [] s₁ H:=⟨rfl,hM,λb o e=>AE e,Nat.le_of_eq (AG _ _),trivial,λb f=>absurd (show b∈([]:yC)from f) (by simp),E,.of_eq hg⟩
  refine lL ((F _ l (g B)).run lS [] s₁ H ⟨[.ref a],[]⟩ [.ref a] [.ref a] _ _ hr e0 (j s₁ (.ref a)) (.cons rfl .nil) (Q H U hS)) λr s' h=>?_;cases r with
  |error e=>exact(J H e s' h).elim
  |ok fl =>
   cases fl with
   |next=>exact False.elim h
   |brk=>exact False.elim h
   |cont=>exact False.elim h
   |ret u =>
    obtain⟨v,H',os,C,un,y,r',q⟩:=h;have q':v=.bl Z7:=q;subst q';obtain rfl:u=Value.bool Z7:=r';refine⟨rfl,OldK.of_keep λb o e=>?_,os,C⟩;cases q:H b with
    |none=>exact un.keep b o e q (by intro z;exact absurd (show b∈([]:yC)from z) (by simp)) (by simp)
    |some u =>
     rcases U b with z|⟨ob,xs,z⟩
     .rw[q]at z;cases z
     .have z2:=un.frzs b ob _ z;obtain⟨e1,_⟩:=E b _ z;obtain⟨e2,_⟩:=y b _ z2;rw[e]at e1;cases e1;exact e2
 cases hk:K.lookup a with
 |some o =>
  have e:=KX a o hk;rw[I]at e;cases e;refine i (λ_=>Z8) (λ_=>.inl rfl) (.inr ⟨_,vs.toArray,_,hk,rfl,rfl,rfl,by rw[qB3,p];exact W,by simpa using X⟩) (λb u z=>by have G:(Z8:Option HO)=Z9 u:=z;cases G) (λb z=>absurd rfl z) λz=>absurd rfl z
 |none =>
  refine i (λb=>if b=a then Z9 (.frz { cls:=.type "list",data:=.seq vs.toArray } (.lst (ns.map V.int)))else Z8) (λb=>?_) (.inl (.inr ⟨{ cls:=.type "list",data:=.seq vs.toArray },if_pos rfl⟩)) (λb u z=>?_) (λb z=>?_) λ_=>hk
  .by_cases f:b=a
   .exact .inr ⟨_,_,if_pos f⟩
   .exact .inl (if_neg f)
  .by_cases f:b=a
   .have G:=(if_pos f).symm.trans z;cases G;subst f;exact⟨I,by rw[qA1];exact W,vs,_,X,I⟩
   .have G:=(if_neg f).symm.trans z;cases G
  .by_cases f:b=a
   .exact f
   .exact absurd (if_neg f) z
theorem walk_of{l:W.OpenLaw}{g:yH}{L:(Str->yF)->y9->Prop}{K:Params->yQ}{C:y8->Vq}{D:y8->Sp}
  (Q:l.most=Z9 n) (r:n<=yV) (y:d.params.defaults=[]) (N:Zh k lS)
  (X:∀(w:y8) (h:y9),E w h->(K w.params).In h)
  (F:∀(w:y8) (i:Str->yF) (p:yR) (h:y9),(K w.params).In h->h.Ns jC i->i d.name=Z9 (.ref p) ->
   ∃A:j4,(∀(s:yS) (u:yT),dL s A ⟨[u],[]⟩ [(x,u)]) /\
    ∀base:y9,(K w.params).In base->base.Ns jC i->Yw l.prog w (K w.params) i base (C w) k p A [x] (D w))
  (B:∀(w:y8) (H:Hp) (a:yR) (ns:yA),ns.length<=n->Uo H->YK (K w.params) H a (ns.map V.int)->D w [.ref a] H (λv _=>v=.bl Z7) λ_ _ _=>False)
  (t:∀(w:y8) (H:Hp) (s:yS) (e:yT) (s':yS),C w [] H s (λ_ _ _=>False) e s'->False) :
  W.WalkO q g L E l.row.toRowW d [] (λf vs=>PySem.call f vs):=by refine Att.attach_call Q y λw I m i mb p o pm cd O a vs ns G Y ho Z P z j c b U=>?_;have J:=X w _ Y;obtain⟨A,S,R⟩:=F w i p _ J G.T.g z;exact wb J G.T.g G.T.b G.T.builtins G.T.nolimit U j c (qC5 b r) N R S (λH M T=>B w H a ns b M T) λH e s'=>t w H m e s'
def Vp(s:vO):Arguments:=match s with
 |.FunctionDef _ a _ _ _ _ _ _ _ _=>a
 |_=>{ posonlyargs:=[],args:=[],vararg:=Z8,kwonlyargs:=[],kw_defaults:=[],kwarg:=Z8,defaults:=[] }
def XB(s:vO):List Stmt:=match s with
 |.FunctionDef _ _ b _ _ _ _ _ _ _=>b
 |_=>[]
def YH(s:vO):Scope:=match s with
 |.FunctionDef _ _ _ _ _ _ a _ _ _=>a
 |_=>{ kind:=.function,names:=[],isGenerator:=Z5,isCoroutine:=Z5 }
abbrev VP:Vq:=λ_ _ _ _ _ _=>False
abbrev E0:XK:=λ_ _ _=>False
theorem LF:SV VP X E0:=λ_ _ _ _ _ _ _ h=>h.elim
structure V3(K:yQ)(x qual:Str)(st:vO)(f:yR)(fd:j4):Prop where
 ex:∃(oc:yT) (od:Option yR) (kV doc pm:yT) (an:Option yR) (cdv ct:yT) (osl:Array (yF)),
  fd=fO x qual (Vp st) (XB st) (YH st) .none kV doc pm an cdv ct/\K.lookup f=Z9 ⟨oc,od,.func fd,osl⟩/\lF K cdv qual=Z7
 kp:wG K (.ref f)=Z7
section
variable {P:yX}{w:y8}{K:yQ}{mg:Str->yF}{base:y9}
theorem V3.ok{st:vO}(F:V3 K x b st f i)(S:RH N ps (YH st))(len:∀vs H Q E,sp vs H Q E->vs.length=ps.length)
  (d:∀(c:yT) (A:y7) (a:List Env) (s:yS) (H:Hp) (vs:List V) (Q:VK) (E:XK),Zh k (A.deeper (mK b (YH st) s.heap.objs.size f c))->sp vs H Q E ->
   ∃t,Xw (Wg VP P w K mg base N b (YH st) f c A a s H E).nox (XB st) t/\t { nx:=λ_ j=>Q .non j,rt:=Q } (start N vs) H):Yw P w K mg base VP (k+1) f i ps sp:=by obtain⟨y,v,kV,m,r,p,c,u,n,rfl,o,e⟩:=F.ex;refine xK o e S len λA a s H vs Q E l g=>?_;obtain⟨t,h,q⟩:=d c A a s H vs Q E l g;exact⟨t,h.nox,q⟩
theorem V3.binds{st:vO}(F:V3 K x a st f i)
  (h:∀(kV c e:yT) (d:Option yR) (b g:yT) (us:yB),us.length=ps.length->bindArgs (fO x a (Vp st) (XB st) (YH st) .none kV c e d b g) ⟨us,[]⟩=pure (ps.zip us)):Wi K i ps []:=by obtain⟨n,l,kV,c,e,d,b,g,k,rfl,m,j⟩:=F.ex;exact .all (h kV c e d b g)
theorem LD{st:vO}{e:Array (yF)}{kV d i b h:yT}(l:K.lookup f=Z9 ⟨m,j,.func (fO x a (Vp st) (XB st) (YH st) .none kV d i g b h),e⟩)
  (c:lF K b a=Z7) (k:wG K (.ref f)=Z7):V3 K x a st f (fO x a (Vp st) (XB st) (YH st) .none kV d i g b h):=⟨⟨m,j,kV,d,i,g,b,h,e,rfl,l,c⟩,k⟩
end
theorem F2(a:Zh k A):A.units+1<cLine:=qH9 (Nat.add_le_add_left (by decide:1<=64) _) a.units
theorem F1(h:n<=1000):n<sizeLine:=qH9 h (by decide)
def XY(H a:Hp):Prop:=∀b o,H b=Z9 o->a b=Z9 o
theorem XY.refl(H:Hp):XY H H:=λ_ _ h=>h
section
variable {κ:Type} [DecidableEq κ]
def Yg(a:List (κ×V))(k:κ):Option V:=(a.find? λb=>decide (b.1=k)).map (·.2)
def YP(a:List (κ×V))(k:κ)(v:V):List (κ×V) :=
 if(a.any λb=>decide (b.1=k))=Z7 then a.map (λb=>if b.1=k then(b.1,v)else b)else a++[(k,v)]
theorem Ov{k:κ}(e:p.1=k):Yg (p::r) k=Z9 p.2:=by simp[Yg,e]
theorem Ou{k:κ}(e:¬p.1=k):Yg (p::r) k=Yg r k:=by simp[Yg,e]
theorem F0(k:κ):∀a:List (κ×V),(a.any λb=>decide (b.1=k))=(Yg a k).isSome
 |[]=>rfl
 |p::r=>by
  rw[qE9];by_cases e:p.1=k
  .simp only[Ov e,decide_eq_true e,Bool.true_or,qP2]
  .rw[Ou e,decide_eq_false e,Bool.false_or];exact F0 k r
theorem LC(a:List (κ×V))(k:κ)(v:V):(YP a k v).length<=a.length+1:=by
 unfold YP;split
 .rw[qA1];lia
 .simp_all
theorem Yh.isSome_eq(r:Yh o u):o.isSome=u.isSome:=by
 cases o with
 |none=>cases u with
  |none=>rfl
  |some _=>exact(r).elim
 |some _=>cases u with
  |none=>exact(r).elim
  |some _=>rfl
theorem KV.val(r:KV a vs)(k:κ):Yh (Yg a k) (fE vs k):=by
 induction r with
 |nil=>exact True.intro
 |@cons p q j d h t i =>
  obtain⟨f,g⟩:=h;by_cases e:p.1=k
  .have c:=f.symm.trans e;have b:fE (q::d) k=Z9 q.2:=by simp[fE,c]
   rw[Ov e,b];exact g
  .have c:¬q.1=k:=λz=>e (f.trans z);have b:fE (q::d) k=fE d k:=by simp[fE,c]
   rw[Ou e,b];exact i
theorem KV.any(r:KV a vs)(k:κ):(a.any λb=>decide (b.1=k))=vs.any λb=>decide (b.1=k):=by
 induction r with
 |nil=>rfl
 |cons h t c=>rw[qE9,qE9,c,h.1]
theorem KV.repl(r:KV b vs)(k:κ)(d:ZG y u):
  KV (b.map λa=>if a.1=k then(a.1,y)else a) (vs.map λa=>if a.1=k then(a.1,u)else a):=by
 induction r with
 |nil=>exact .nil
 |@cons p q i j h t g =>
  rw[qB2,qB2];refine .cons ?_ g;obtain⟨c,f⟩:=h;by_cases e:p.1=k
  .rw[if_pos e,if_pos (c.symm.trans e)];exact⟨c,d⟩
  .rw[if_neg e,if_neg (λz=>e (c.trans z))];exact⟨c,f⟩
theorem KV.put(r:KV a vs)(k:κ)(b:ZG y u):KV (YP a k y) (uF vs k u):=by
 unfold YP uF;rw[r.any k];by_cases e:(vs.any λc=>decide (c.1=k))=Z7
 .rw[if_pos e,if_pos e];exact r.repl k b
 .rw[if_neg e,if_neg e];exact Paired.snoc r ⟨rfl,b⟩
theorem KV.length{vs:List (κ×yT)}(r:KV a vs):a.length=vs.length:=Paired.length r
end
theorem Tz(r:ZG (kV k) u):(Yp P w).is k u=Z7:=by
 cases k with
 |inl i=>obtain⟨t,e⟩:=(r);subst e;exact AI P w i t
 |inr x=>obtain⟨t,e⟩:=(r);subst e;exact Mm P w x t
theorem FZ:∀{ks:List Zz}{us:yB},ZJ (ks.map kV) us->ItemsAre (Yp P w) ks us
 |[],_,r=>by cases r;exact .nil
 |k::ks,_,r=>by
  cases r with
  |cons h t=>exact .cons (Tz h) (FZ t)
abbrev KT(H:Hp):List (List Zz×V)->List (List Zz×yR×yT)->Prop:=mH λp q=>p.1=q.1/\H q.2.1=Z9 (.tup (p.1.map kV))/\ZG p.2 q.2.2
theorem KT.val(r:KT H a xs)(k:List Zz):Yh (Yg a k) ((atKey xs k).map (·.2)):=by
 induction r with
 |nil=>exact True.intro
 |@cons p q j d h t i =>
  obtain⟨f,_,g⟩:=h;by_cases e:p.1=k
  .have c:=f.symm.trans e;have b:atKey (q::d) k=Z9 q.2:=by simp[atKey,c]
   rw[Ov e,b];exact g
  .have c:¬q.1=k:=λz=>e (f.trans z);have b:atKey (q::d) k=atKey d k:=by simp[atKey,c]
   rw[Ou e,b];exact i
theorem KT.repl(r:KT H a xs)(k:List Zz)(g:ZG y u):
  KT H (a.map λc=>if c.1=k then(c.1,y)else c) (xs.map (putAt k u)):=by
 induction r with
 |nil=>exact .nil
 |@cons p q j l h t i =>
  rw[qB2,qB2];refine .cons ?_ i;obtain⟨b,d,f⟩:=h;unfold putAt;by_cases e:p.1=k
  .rw[if_pos e,if_pos (b.symm.trans e)];exact⟨b,d,g⟩
  .rw[if_neg e,if_neg (λz=>e (b.trans z))];exact⟨b,d,f⟩
theorem KT.put(r:KT H a xs)(k:List Zz)(d:H b=Z9 (.tup (k.map kV)))(c:ZG y u):
  KT H (YP a k y) (storedH xs k b u):=by
 have e:(a.any λf=>decide (f.1=k))=(atKey xs k).isSome:=by rw[F0,(r.val k).isSome_eq,qM8]
 unfold YP storedH;rw[e];by_cases q:(atKey xs k).isSome=Z7
 .rw[if_pos q,if_pos q];exact r.repl k c
 .rw[if_neg q,if_neg q];exact Paired.snoc r ⟨rfl,d,c⟩
theorem KT.keeps(r:KT H a xs)(d:∀b ys,H b=Z9 (.tup ys)->c b=Z9 (.tup ys)):KT c a xs :=
 Paired.mapP r λ_ _ z=>⟨z.1,d _ _ z.2.1,z.2.2⟩
section
variable {P:yX}{w:y8}{H:Hp}{h:y9}{a:yR}
theorem FY(ok:Ye P w H h)(e:Rd H a u):XE P w H h a u:=e.ok ok
theorem Tx(ok:Ye P w H h)(e:Rd H a (.dK b)):b.length<=yV/\(a == jZ)=Z5/\∃vs,KV b vs/\h.DictOf (Yp P w) a vs :=
 show XE P w H h a (.dK b)from FY ok e
theorem RG(ok:Ye P w H h)(e:H a=Z9 (.dK b)):b.length<=yV/\(a == jZ)=Z5/\∃vs,KV b vs/\h.DictOf (Yp P w) a vs:=Tx ok (.inl e)
theorem QB(ok:Ye P w H h)(e:H a=Z9 (.tup (ks.map kV))):(mW (Yp P w)).is h ks a:=by
 obtain⟨_,b,r,o,f,c,n,d⟩:=(ok a _ e)
 exact⟨o,b.toArray,n,f,c,d,by simpa using FZ r⟩
theorem QA(ok:Ye P w H h)(e:Rd H a (.dT b)):b.length<=yV/\(a == jZ)=Z5 /\
  ∃xs,KT H b xs/\h.DictOfH (mW (Yp P w)) a xs:=by
 obtain⟨z,y,xs,r,o,j,g,s,u,i,k,f⟩:=(FY ok e)
 refine⟨z,y,xs,r,o,j,g,s,u,i,k,λx c=>?_,f⟩;have all:∀{l:List (List Zz×V)}{m:List (List Zz×yR×yT)},KT H l m->∀x∈m,(mW (Yp P w)).is h x.1 x.2.1:=by
  intro l m q
  induction q with
  |nil=>intro x c;exact nomatch c
  |@cons p q v A d t n =>
   intro x c;rcases qC0.mp c with e|c
   .subst e;exact QB ok (by rw[<- d.1];exact d.2.1)
   .exact n x c
 exact all r x c
theorem wa(ok:Ye P w H h)(e:H a=Z9 (.dT b)):b.length<=yV/\(a == jZ)=Z5 /\
  ∃xs,KT H b xs/\h.DictOfH (mW (Yp P w)) a xs:=QA ok (.inl e)
end
def X6(H:Hp)(a:yR)(y:V)(r:Option V):Prop :=
 (∃c k,Rd H a (.dK c)/\y=kV k/\r=Yg c k)∨∃c k b,Rd H a (.dT c)/\y=.ref b/\H b=Z9 (.tup (k.map kV))/\r=Yg c k
def W1(H:Hp)(a:yR)(y v:V)(d:Hp):Prop :=
 (∃c k,H a=Z9 (.dK c)/\y=kV k/\c.length<yV/\d=ZF H a (.dK (YP c k v))) ∨
 ∃c k b,H a=Z9 (.dT c)/\y=.ref b/\H b=Z9 (.tup (k.map kV))/\c.length<yV/\d=ZF H a (.dT (YP c k v))
theorem X6.k{k:Zz}(e:H a=Z9 (.dK b)):X6 H a (kV k) (Yg b k):=.inl ⟨b,k,.inl e,rfl,rfl⟩
theorem X6.t{k:List Zz}(e:H a=Z9 (.dT c))(d:H b=Z9 (.tup (k.map kV))):X6 H a (.ref b) (Yg c k):=.inr ⟨c,k,b,.inl e,rfl,d,rfl⟩
theorem W1.k{k:Zz}(e:H a=Z9 (.dK b))(c:b.length<yV):W1 H a (kV k) v (ZF H a (.dK (YP b k v))):=.inl ⟨b,k,e,rfl,c,rfl⟩
theorem W1.t{k:List Zz}(e:H a=Z9 (.dT c))(d:H b=Z9 (.tup (k.map kV)))(f:c.length<yV):
  W1 H a (.ref b) v (ZF H a (.dT (YP c k v))):=.inr ⟨c,k,b,e,rfl,d,f,rfl⟩
section
variable {X:Cx}{pins:yD}{Z:St}{H:Hp}{s:yS}{a:yR}{y v:V}{u r:yT}{o:Option V}{A:y7}{E:yL}
theorem ZO.big(I:ZO X pins Z H s):jZ<s.heap.objs.size:=by have h:=(I.mod.glob.keeps I.bk).lt;exact Nat.lt_trans (by decide) h
theorem vz{Q:yL}(x:A.units+1<vE)(I:ZO X pins Z H s)(g:X6 H a y (Z9 v))(t:ZG y u)(h:∀f s',ZO X pins Z H s'->ZG v f->Q f s'):
  y2 (yW X.prog X.w) A (gV (.ref a) u) Q E s:=by
 rcases g with⟨i,k,e,q,l⟩| ⟨i,k,b,e,q,C,l⟩
 .subst q;obtain⟨z,w,D,c,j⟩:=Tx I.hok e;obtain⟨f,m,d⟩:=Yh.some_of (by rw[l];exact c.val k);exact wpAny_getItem_of (Tz t) j.mapOf m (h f _ (I.tok _) d)
 .subst q;cases (t);obtain⟨z,w,F,c,j⟩:=QA I.hok e;obtain⟨f,m,d⟩:=Yh.some_of (by rw[l];exact c.val k);obtain⟨p,B,n⟩:=qA4.mp m;refine wpAny_getItem_heap (wU x) (QB I.hok C) j B ?_;rw[n];exact h f _ (I.tok _) d
theorem LB{Q:yL}(n:A.units+1<vE)(I:ZO X pins Z H s)(g:X6 H a y o)(m:ZG y u)(h:∀s',ZO X pins Z H s'->Q (.bool o.isSome) s'):
  y2 (yW X.prog X.w) A (yZ .In u (.ref a)) Q E s:=by
 rcases g with⟨d,k,e,j,l⟩| ⟨d,k,b,e,j,p,l⟩
 .subst j;obtain⟨z,f,t,c,i⟩:=Tx I.hok e;refine wpAny_in_of (Tz m) f i.mapOf ?_;rw[<- (c.val k).isSome_eq,<- l];exact h _ (I.tok _)
 .subst j;cases (m);obtain⟨z,f,w,c,i⟩:=QA I.hok e;refine wpAny_in_heap (wU n) (QB I.hok p) f i ?_;have q:=(c.val k).isSome_eq;rw[qM8]at q;rw[<- q,<- l];exact h _ (I.tok _)
theorem vy{Q:yL}(n:A.units+1<vE)(I:ZO X pins Z H s)(g:X6 H a y o)(m:ZG y u)(h:∀s',ZO X pins Z H s'->Q (.bool (!o.isSome)) s'):
  y2 (yW X.prog X.w) A (yZ .NotIn u (.ref a)) Q E s:=by
 rcases g with⟨d,k,e,j,l⟩| ⟨d,k,b,e,j,p,l⟩
 .subst j;obtain⟨z,f,t,c,i⟩:=Tx I.hok e;refine wpAny_notIn_of (Tz m) f i.mapOf ?_;rw[<- (c.val k).isSome_eq,<- l];exact h _ (I.tok _)
 .subst j;cases (m);obtain⟨z,f,w,c,i⟩:=QA I.hok e;refine wpAny_notIn_heap (wU n) (QB I.hok p) f i ?_;have q:=(c.val k).isSome_eq;rw[qM8]at q;rw[<- q,<- l];exact h _ (I.tok _)
theorem Ot(I:ZO X pins Z H s)(f:SZ (H a))(g:qE3 a s.heap h')(he:∃q,h'.get? a=Z9 q)(c:XE X.prog X.w (ZF H a d) h' a d):
  ZO X pins Z (ZF H a d) { s with heap:=h',toks:=t' } :=
 I.write f (.inl rfl) (λb q e z=>(g.2 b e).trans z) he c
theorem Qz(z:b.length<=yV)(e:(a == jZ)=Z5)(c:KV b vs)(d:h'.DictOf (Yp P w) a vs):
  XE P w f h' a (.dK b):=⟨z,e,vs,c,d⟩
theorem LA(N:A.units+1<vE)(I:ZO X pins Z H s)(g:W1 H a y v D)(F:ZG y u)(G:ZG v r)(h:∀s',ZO X pins Z D s'->Q () s'):
  y2 (yW X.prog X.w) A (uR (.ref a) u r) Q E s:=by
 rcases g with⟨d,k,e,x,l,w⟩| ⟨d,k,b,e,x,J,l,w⟩
 .subst x w;obtain⟨z,m,R,f,t⟩:=RG I.hok e;have S:R.length<=sizeLine:=by rw[<- f.length];exact z
  have p:(YP d k v).length<=sizeLine:=by have:=LC d k v;lia
  refine wpAny_setItem_pairs (Tz F) t λB i n=>h _ ?_;have T:∃q,B.get? a=Z9 q:=let ⟨q,_,_,j,_⟩:=i;⟨q,j⟩
  exact Ot I (by rw[e];exact True.intro) n T (Qz p m (f.put k G) i)
 .subst x w;cases (F);obtain⟨z,m,W,f,t⟩:=wa I.hok e;have S:W.length<=sizeLine:=by rw[<- Paired.length f];exact z
  have p:(YP d k v).length<=sizeLine:=by have:=LC d k v;lia
  refine wpAny_setItem_heap (wU N) (QB I.hok J) t λB i n=>h _ ?_;obtain⟨q,O,L,j,U,M,P,_,K⟩:=i;refine Ot I (by rw[e];exact True.intro) n ⟨q,j⟩ ⟨p,m,_,(f.put k J G).keeps λc Y C=>?_,q,O,L,j,U,M,P,K⟩;rw[Y2 (AH C e (λz=>nomatch z))];exact C
end
section
variable {X:Cx}{pins:yD}{Z:St}{H:Hp}{s:yS}{a:yR}{kvs:List (Zz×V)}{k:Zz}{u:yT}{A:y7}{E:yL}
theorem vx{Q:yL}(I:ZO X pins Z H s)(e:Rd H a (.dK kvs))(h:∀t s',ZO X pins Z H s'->Q (.int kvs.length t) s'):y2 (yW X.prog X.w) A (mY (.builtin "len") [.ref a]) Q E s:=by obtain⟨z,d,f,b,c⟩:=Tx I.hok e;refine call_len_dict d c (by rw[<- b.length];rw[j7]at z;lia) ?_;rw[<- b.length];exact h _ _ (I.tok _)
end
theorem vw{Z:St}(I:ZO X c Z H s)(g:X6 H a y o):s.TypeIs (.ref a) "dict":=by
 rcases g with⟨f,k,e,_,_⟩| ⟨f,k,b,e,_,_,_⟩
 .obtain⟨_,_,h,_,d⟩:=Tx I.hok e;exact d.typeIs
 .obtain⟨_,_,i,_,d⟩:=QA I.hok e;exact d.typeIs
theorem Lz(h:y9)(a:jZ<h.objs.size):XE P w H (h.push { cls:=.type "dict",data:=.dict #[] }) h.objs.size (.dK []) :=
 ⟨qE8 _,beq_eq_false_iff_ne.mpr (Ne.symm (qB9 a)),[],.nil,Heap.DictOf.new h⟩
def vv:TE:=λ_ H Q=>∀p,H p=Z8->Q (.ref p) (ZF H p (.dK []))
section
variable {X:Cx}{pos:Pos}
theorem FX:PE X (.Dict [] [] pos) vv:=λa s Z H Q I h =>
 wpAny_Dict_empty ⟨.ref s.heap.objs.size,_,I.laid (t':=s.toks) (λ_ _ q=>qA0 _ q) (qA6 _) (Lz s.heap I.big),rfl,h _ (I.hok.fresh (qA6 _))⟩
end
def Ly:List (TE×TE)->St->Hp->(List (V×V)->Hp->Prop)->Prop
 |[],_,H,Q=>Q [] H
 |(d,tv)::r,Z,H,Q=>d Z H λx c=>tv Z c λy a=>Ly r Z a λe b=>Q ((x,y)::e) b
abbrev VV:List (V×V)->List (yT×yT)->Prop:=mH λp q=>ZG p.1 q.1/\ZG p.2 q.2
def Os(X:Cx)(pos:Pos)(c:List (Option yY))(a:yE)(d:List (TE×TE)):Prop :=
 ∀(b:yD) (s:yS) (Z:St) (H:Hp) (Q:List (V×V)->Hp->Prop),ZO X b Z H s->Ly d Z H Q ->
  y2 (yW X.prog X.w) X.A (evalPairs (pairTrees c a X.env pos)) (λh g=>∃e f,ZO X b Z f g/\VV e h/\Q e f) X.xe s
theorem vu:Os X pos [] [] []:=λa s Z H Q I h=>pairTrees_nil_walk ⟨[],H,I,.nil,h⟩
theorem vt(hk:PE X k tk)(hv:PE X v tv)(l:Os X pos ks vs b):
  Os X pos (Z9 k::ks) (v::vs) ((tk,tv)::b):=λa s Z H Q I h =>
 pairTrees_cons_walk (Zt (hk a s Z H _ I h) λu e ⟨x,r,q,i,o⟩=>Zt (hv a e Z r _ q o) λz n ⟨y,d,p,j,f⟩ =>
  Zt (l a n Z d _ p f) λB A ⟨m,t,w,c,g⟩=>⟨(x,y)::m,t,w,.cons ⟨i,j⟩ c,g⟩)
def V2(a more:List (Zz×V)):List (Zz×V):=more.foldl (λacc b=>YP acc b.1 b.2) a
theorem KV.merge:∀{more:List (Zz×V)}{rs:List (Zz×yT)}{a:List (Zz×V)}{vs:List (Zz×yT)},KV more rs->KV a vs->KV (V2 a more) (merged vs rs):=by
 intro more rs a vs r
 induction r generalizing a vs with
 |nil=>intro q;exact q
 |@cons p q d f h t c =>
  intro b;have e:KV (YP a p.1 p.2) (uF vs q.1 q.2):=by have:=b.put p.1 h.2;rw[<- h.1];exact this
  exact c e
theorem Oq:∀(more kvs:List (Zz×V)),(V2 kvs more).length<=kvs.length+more.length
 |[],kvs=>by show kvs.length<=kvs.length+0;lia
 |p::r,kvs=>by have a:=Oq r (YP kvs p.1 p.2);have b:=LC kvs p.1 p.2;show(V2 (YP kvs p.1 p.2) r).length<=_;rw[qB8];lia
theorem FW:∀{d:List (Zz×V)}{ws:List (yT×yT)},VV (d.map λe=>(kV e.1,e.2)) ws->∃rs,Carries (Yp P w) ws rs/\KV d rs
 |[],_,r=>by cases r;exact⟨[],True.intro,.nil⟩
 |p::d,_,r=>by
  cases r with
  |@cons a b g bs h t =>
   obtain⟨rs,c,q⟩:=FW t;obtain⟨b1,f⟩:=b;exact⟨(p.1,f)::rs,⟨Tz h.1,rfl,c⟩,.cons ⟨rfl,h.2⟩ q⟩
def vr(b:List (TE×TE)):TE:=fun Z H Q=>∀p,H p=Z8->Ly b Z (ZF H p (.dK [])) λe c=>c p=Z9 (.dK [])/\∃a:List (Zz×V),e=a.map (λd=>(kV d.1,d.2))/\a.length<=15/\Q (.ref p) (ZF c p (.dK (V2 [] a)))
theorem vq(h:Os X pos a b f)(j:a.all (·.isSome)=Z7)(w:a.length=b.length)(n:a≠[])
  (l:a.length<=15):PE X (.Dict a b pos) (vr f):=by
 intro g s Z H Q I q;have A:=I.hok.fresh (qA6 s.heap.objs.size);have C:=I.laid (h':=s.heap.push { cls:=.type "dict",data:=.dict #[] }) (t':=s.toks) (λ_ _ q=>qA0 _ q) (qA6 _) (Lz s.heap I.big);refine wpAny_Dict_walk (knd:=Yp X.prog X.w) j w n l (Zt (h g _ Z _ _ C (q _ A)) λK J ⟨G,F,m,k,e,d,o,L,p⟩=>?_);subst o;obtain⟨rs,c,x⟩:=FW k;obtain⟨z,t,v,r,y⟩:=RG m.hok e;cases r;refine⟨rs,c,y,λh' i u=>⟨.ref s.heap.objs.size,_,?_,rfl,p⟩⟩;have B:(V2 [] d).length<=sizeLine:=by have E:=Oq d [];rw[qH2]at E;rw[j7];lia
 have D:∃q,h'.get? s.heap.objs.size=Z9 q:=let ⟨q,_,_,hq,_⟩:=i;⟨q,hq⟩
 exact Ot m (by rw[e];exact True.intro) u D (Qz B t (x.merge .nil) i)
section
variable {X:Cx}{pins:yD}{Z:St}{H:Hp}{s:yS}{a:yR}{kvs:List (Zz×V)}{A:y7}{E:yL}
theorem vp{Q:yL}(I:ZO X pins Z H s)(e:Rd H a (.dK kvs))(h:∀p s',H p=Z8->ZO X pins Z (ZF H p (.dK kvs)) s'->Q (.ref p) s'):y2 (yW X.prog X.w) A (mY (.type "dict") [.ref a]) Q E s:=by obtain⟨z,i,k,c,g⟩:=Tx I.hok e;refine kt_call_dict i g (by rw[<- c.length];exact z) λl d j=>?_;refine h _ _ (I.hok.fresh (qA6 _)) (I.laid (a:=s.heap.objs.size) (o:=.dK kvs) (t':=s.toks) (λb q f=>?_) (qA6 _) (Qz z (beq_eq_false_iff_ne.mpr (Ne.symm (qB9 I.big))) c d));exact(j.2 b (qB9 (qB1 f))).trans (qA0 _ f)
end
def Tw(st a:St):Prop:=st.length=a.length/\∀(i:Nat) v,st[i]?=Z9 (Z9 v)->a[i]?=Z9 (Z9 v)
def WN(X:Cx)(scope:vK)(N:yH)(cl:List (Str×yR))(s:yS)(H:Hp)(C:yR)(ex:yC):Cx where
 prog:=X.prog
 w:=X.w
 K:=X.K
 mg:=X.mg
 base:=X.base
 A:=X.A
 N:=N
 s₀:=s
 H₀:=H
 env:=compEnvC scope cl C X.env
 outer:=X.stack
 stack:=X.stack
 ex:=ex
 fn:=λx=>decide ((x,NameKind.cell)∈scope.names)
 calm:=X.calm
 pn:=[]
 xe:=λ_ _=>False
def X5(env:Env):List (Str×jR)->List (Str×yR)->List (Str×yR)
 |[],acc=>acc
 |(n,k)::r,acc=>if k == .free then(match env.cells.lookup n with|some c=>X5 env r ((n,c)::acc)| none=>X5 env r acc)else X5 env r acc
theorem Oo{env:Env}:∀(ns:List (Str×jR)) (acc:List (Str×yR)),(∀x c,acc.lookup x=Z9 c->env.cells.lookup x=Z9 c)->∀x c,(X5 env ns acc).lookup x=Z9 c->env.cells.lookup x=Z9 c
 |[],_,h=>h
 |(n,k)::r,acc,h=>by
  unfold X5;split
  .split
   .rename_i c b;refine Oo r _ λx d e=>?_;rw[qD9]at e;cases a:x == n with
    |true =>
     simp_all
    |false =>
     simp_all
   .exact Oo r _ h
  .exact Oo r _ h
theorem Qy:∀(ns:List (Str×jR)) (acc:List (Str×yR)) (x:Str),((∃c,acc.lookup x=Z9 c)∨((x,NameKind.free)∈ns/\∃c,env.cells.lookup x=Z9 c))->∃c,(X5 env ns acc).lookup x=Z9 c
 |[],acc,x,h=>by
  rcases h with h|⟨h,_⟩
  .exact h
  .cases h
 |(n,k)::r,acc,x,h=>by
  unfold X5;split
  .rename_i hk;split
   .rename_i c a;refine Qy r _ x ?_
    grind
   .rename_i a;refine Qy r _ x ?_;rcases h with h|⟨h,d,b⟩
    .exact .inl h
    .rcases qC0.mp h with h|h
     .lia
     .simp_all
  .rename_i hk;refine Qy r _ x ?_
   grind
theorem vo(h:env.cells.lookup x=Z9 c):cellOf env x=pure c:=by unfold cellOf;rw[h]
theorem Lx:∀(ns:List (Str×jR)) (acc:List (Str×yR)),(∀x,(x,NameKind.free)∈ns->∃c,env.cells.lookup x=Z9 c) ->
  (forIn ns acc fun(x:Str×jR) (r:List (Str×yR))=>(match x with
   | (a,kind)=>if kind == NameKind.free then(do let c <- cellOf env a;pure (ForInStep.yield ((a,c)::r)))else pure (ForInStep.yield r):Sem (ForInStep (List (Str×yR)))))=pure (X5 env ns acc)
 |[],acc,_=>rfl
 |(n,k)::r,acc,h=>by
  rw[qJ4];unfold X5;have b:=λx f=>h x (qC4 _ f);by_cases hk:k=.free
  .subst hk;obtain⟨c,d⟩:=h n (qC9 ..);dsimp only;rw[d,vo d];exact Lx r _ b
  .have e:(k == NameKind.free)=Z5:=by simpa using hk
   simp only[e];exact Lx r _ b
theorem FV(h:∀x,(x,NameKind.free)∈scope.names->∃c,env.cells.lookup x=Z9 c):closureFor scope env=pure (X5 env scope.names []):=by unfold closureFor;have q:=Lx scope.names [] h;simp only[bind_pure];congr 1
theorem Lw{ns:List (Str×jR)}(h:ns.lookup x=Z9 k):(x,k)∈ns:=by
 induction ns with
 |nil=>cases h
 |cons a r d =>
  obtain⟨n,c⟩:=a;cases b:x == n with
  |true =>
   simp_all
  |false =>
   grind
theorem FU(h:(dP scope env).names.lookup x=Z9 k)(c:k=.cell∨k=.free):(x,NameKind.free)∈scope.names∨(x,NameKind.cell)∈scope.names:=by
 have m:=Lw h;obtain⟨⟨n,b⟩,a,e⟩:=qC8.mp m;dsimp only at e;split at e
 .simp_all
 .lia
theorem SO:∀(ns:List (Str×jR)) (h:y9) (acc:List (Str×yR)) {x:Str}{c:yR},(vQ h.objs.size ns acc).lookup x=Z9 c ->
  ((x,NameKind.cell)∈ns/\h.objs.size<=c/\(lI h ns).IsCell c Z8)∨((x,NameKind.cell)∉ns/\acc.lookup x=Z9 c)
 |[],h,acc,x,c,e=>.inr ⟨by simp,e⟩
 |(n,k)::r,h,acc,x,c,e=>by
  unfold vQ at e;unfold lI;by_cases hk:(k == NameKind.cell)=Z7
  .rw[if_pos hk]at e ⊢;have d:=by simpa using hk
   rw[<- qD5 h { cls:=.type "cell",data:=.cell Z8 }]at e;rcases SO r _ _ e with⟨b,a,f⟩| ⟨b,a⟩
   .exact .inl ⟨qC4 _ b,by rw[qD5]at a;lia,f⟩
   .rw[qD9]at a;cases g:x == n with
    |true =>
     rw[g]at a;cases a;have:=by simpa using g
     subst this;subst d;exact .inl ⟨qC9 ..,qA6 _,_,fZ _ _ _ _ (qA7 _ rfl),rfl⟩
    |false =>
     simp_all
  .rw[if_neg hk]at e ⊢;rcases SO r h acc e with⟨b,a,f⟩| ⟨b,a⟩
   .simp_all
   .grind
theorem Lv:∀(ns:List (Str×jR)) (n:Nat) (acc:List (Str×yR)),(∀x c,acc.lookup x=Z9 c->c<n)->(∀x y c,acc.lookup x=Z9 c->acc.lookup y=Z9 c->x=y) ->
  ∀x y c,(vQ n ns acc).lookup x=Z9 c->(vQ n ns acc).lookup y=Z9 c->x=y
 |[],n,acc,hb,hi=>hi
 |(m,k)::r,n,acc,hb,hi=>by
  unfold vQ;split
  .refine Lv r (n+1) _ (λx c e=>?_) λx y c d b=>?_
   .rw[qD9]at e;cases a:x == m with
    |true=>rw[a]at e;cases e;exact qH6 _
    |false=>rw[a]at e;exact qD7 (hb x c e)
   .grind
  .exact Lv r n acc hb hi
theorem On:∀(ns:List (Str×jR)) (n:Nat) (acc:List (Str×yR)) {x:Str},((x,NameKind.cell)∈ns∨∃c,acc.lookup x=Z9 c)->∃c,(vQ n ns acc).lookup x=Z9 c
 |[],n,acc,x,h=>by
  rcases h with h|h
  .cases h
  .exact h
 |(m,k)::r,n,acc,x,h=>by
  unfold vQ;split
  .refine On r _ _ ?_;by_cases a:x=m
   .simp_all
   .grind
  .rename_i hk;refine On r _ _ ?_
   grind
theorem vn{E:yL}
  (i:Q (newEnv scope s.heap.objs.size a (vQ (s.heap.push { cls:=.type "dict",data:=.dict #[] }).objs.size scope.names b) d Z8 .none (Z9 c) dE) { s with heap:=lI (s.heap.push { cls:=.type "dict",data:=.dict #[] }) scope.names }) :
  y2 M A (mM scope a b [] d Z8 .none (Z9 c)) Q E s:=by refine yO (wpAny_alloc ?_);refine yO (wpAny_layCells _ (λh e f=>by cases g:e == NameKind.cell<;>simp[g]) _ _ _ _ ?_);exact yO (yP (yP i))
section
variable {X:Cx}{pins:yD}{Z:St}{H:Hp}{s:yS}{scope:vK}{N:yH}{C:yR}{ex:yC}
structure RF(X:Cx)(scope:vK)(N:yH)(k:Nat)(js:List Nat):Prop where
 calm:X.calm=Z7
 kind:scope.kind=.function
 cell:∀x,(x,NameKind.cell)∈scope.names->scope.names.lookup x=Z9 .cell
 free:∀x,(x,NameKind.free)∈scope.names->(X.env.kindOf x=Z9 .cell∨X.env.kindOf x=Z9 .free)
 names:∀x∈scope.names,x.2=.local->scope.names.lookup x.1=Z9 .local
 len:N.length=k+js.length
 js:∀i j,js[i]?=Z9 j->∃x,N[k+i]?=Z9 x/\X.N[j]?=Z9 x/\scope.names.lookup x=Z9 .free/\OA X.env.scope x
theorem Tv(h:(X5 env ns []).lookup x=Z9 c):env.cells.lookup x=Z9 c:=Oo _ _ (λ_ _ z=>by cases z) x c h
theorem ZO.compOk(I:ZO X pins Z H s)(hk:scope.kind=.function)(n:∀x,(x,NameKind.free)∈scope.names->∃c,X.env.cells.lookup x=Z9 c){h:y9}(i:h.objs.size=C+1)(g:s.heap.objs.size<=C)(a:∀b∈ex,X7 X pins H b)(f:∀b∈ex,b<s.heap.objs.size):
  (WN X scope N (vQ h.objs.size scope.names (X5 X.env scope.names [])) s H C ex).Ok where
 mod:=I.ok.mod
 kind:=hk
 glob:=I.ok.glob
 blt:=I.ok.blt
 above:=g
 inj:=Lv _ _ _ (λx c e=>by
  obtain⟨v,q⟩:=I.cell x c (Tv e);rw[i];exact qD7 (qB7 q.lt g)) λx y c p j=>I.ok.inj x y c (Tv p) (Tv j)
 has:=λx h=>by
  have m:=FU (scope:=scope) (env:=X.env) (x:=x) (k:=.cell);have l:=FU (scope:=scope) (env:=X.env) (x:=x) (k:=.free);have q:(x,NameKind.free)∈scope.names∨(x,NameKind.cell)∈scope.names:=by
   rcases h with h|h
   .exact m h (.inl rfl)
   .exact l h (.inr rfl)
  refine On _ _ _ ?_;rcases q with q|q
  .exact .inr (Qy _ _ x (.inr ⟨q,n x q⟩))
  .exact .inl q
 cab:=λx c h e=>by
  rcases SO _ _ _ e with⟨_,q,_⟩| ⟨q,_⟩
  .show s.heap.objs.size<=c;lia
  .exact absurd (of_decide_eq_true h) q
 hd:=I.ok.hd
 frames:=I.ok.frames
 stk:=.inl rfl
 exf:=λb d=>⟨λz=>by
   have r:=z;exact qI3 _ (qB7 (f b d) (by rw[r];exact g)),λx c e=>by
   rcases SO _ _ _ e with⟨_,q,_⟩| ⟨_,q⟩
   .exact qG7 (qB7 (f b d) (qC5 g (qF4 (qB7 (by rw[i];exact qH6 C) q))))
   .exact(a b d).2.2.2.2.1 x c (Tv q)⟩
 bs:=I.bs
 bsz:=qC5 I.ok.bsz I.sz
 noex:=λb o e d=>by
  rcases(a b d).2.2.2.1 with z|z
  .exact I.ok.noex b o e z
  .exact qI3 _ (qB7 (qB1 e) (qC5 I.ok.bsz z))
 exfs:=λb d z=>by
  rcases qC0.mp (I.stkSub b z)with q|q
  .exact(a b d).2.1 q
  .exact(a b d).2.2.1 q
 funs:=I.stack
 frf:=I.stkFree
theorem vm{f:yE}(i:Nat->yS->Prop)
  (d:∀n s,i n s->y2 (yW prog w) A (pyNext j) (λr k=>match r with
   |none=>R (.ok .next) k
   | some v=>y2 (yW prog w) A (lW a j v) (λ_ g=>y2 (yW prog w) A (gJ a env v) (λ_ t =>
     y2 (yW prog w) A (forIn f Z7 λc r=>if r=Z7 then do let ok <- uB c env (jW c env);pure (ForInStep.yield ok)else pure (ForInStep.yield r)) (λok o =>
      if ok=Z7 then y2 (yW prog w) A (jW elt env) (λx q =>
       y2 (yW prog w) A (mY (.builtin "list.append") [acc,x]) (λ_ y=>∃m,m<n/\i m y) (dQ (yW prog w) A env λe s'=>R (.error e) s') q) (dQ (yW prog w) A env λe s'=>R (.error e) s') o
      else ∃m,m<n/\i m o) (dQ (yW prog w) A env λe s'=>R (.error e) s') t) (dQ (yW prog w) A env λe s'=>R (.error e) s') g) (dQ (yW prog w) A env λe s'=>R (.error e) s') k) (dQ (yW prog w) A env λe s'=>R (.error e) s') s)
  (n:Nat) (h:i n s) :
  wR (yW prog w) A (.compLoop (.ListComp elt [⟨a,iter,f,0⟩] scope pos) 0 j acc env) R s:=by
 refine codeAny_loop rfl i (λn s B=>?_) n h;refine wpAny_noted ?_;rw[compTurn_list];refine yO (fS (yO (jU (d n s B) (λr k u=>?_) λ_ _ b=>b)));cases r with
 |none=>exact yP u
 |some v =>
  refine yO (jU u (λ_ g l=>?_) λ_ _ b=>b);refine yO (jU l (λ_ t E=>yO (jU E (λok o p=>?_) λ_ _ b=>b)) λ_ _ b=>b);cases ok with
  |false=>exact yP ⟨rfl,p⟩
  |true =>
   exact yO (yO (jU p (λx q D=>yO (jU D (λ_ y z=>yP (yP ⟨rfl,z⟩)) λ_ _ b=>b)) λ_ _ b=>b))
def SN(X:Cx)(b:yE)(t:TT):Prop :=
 ∀(a:yD) (s:yS) (Z:St) (H:Hp) (Q:Bool->Hp->Prop),ZO X a Z H s->t Z H Q ->
  y2 (yW X.prog X.w) X.A (forIn b Z7 λc r=>if r=Z7 then do let ok <- uB c X.env (jW c X.env);pure (ForInStep.yield ok)else pure (ForInStep.yield r)) (TP X a Z Q) X.xe s
def Lu:TT:=λ_ H Q=>Q Z7 H
theorem vl:SN X [] Lu:=λa s Z H Q I h=>wpAny_tests_nil ⟨H,I,h⟩
theorem vk(h:PT X c t):SN X [c] t:=λa s Z H Q I b=>wpAny_tests_one (h a s Z H Q I b)
def Ls(e:It)(D:yR)(W:Nat->Nat->List V->Hp->Prop)(Q:Hp->Prop)(g:TG)(tc:TT)(l:TE)(h:St)(i m:Nat)(ys:List V)(a:Hp):Prop :=
 a D=Z9 (.lst ys)/\((e.stop i a/\Q a)∨(e.go i a/\ys.length<yV/\∀x j,e.yld i a x j->g x h j fun d n=>Tw h d/\tc d n λb f =>
   if b=Z7 then l d f λy k=>k D=Z9 (.lst ys)/\∃c,c<m/\W (i+1) c (ys++[y]) (ZF k D (.lst (ys++[y])))else ∃c,c<m/\W (i+1) c ys f))
def WA(k:Nat)(a:List Nat)(Z:St):St:=qI9 k Option.none++a.map λj=>(Z[j]?).getD Option.none
def Lr(e:TI)(k:Nat)(h:List Nat)(g:TG)(tc:TT)(f:TE):TE:=fun Z H Q =>
 e Z H λd c=>∀D,c D=Z8->∃W:Nat->Nat->List V->Hp->Prop,(∃m,W 0 m [] (ZF c D (.lst [])))/\∀i m b a,W i m b a->Ls d D W (Q (.ref D)) g tc f (WA k h Z) i m b a
theorem FT(h:(WA k a Z)[i]?=Z9 (Z9 v)):∃j,k<=i/\a[i - k]?=Z9 j/\Z[j]?=Z9 (Z9 v):=by
 unfold WA at h;by_cases b:i<k
 .rw[qA8 (by simpa using b),qH7]at h;simp at h
 .rw[qA2 (by simpa using b),qH1,qB6]at h;cases e:a[i - k]? with
  |none=>rw[e]at h;simp at h
  |some j =>
   rw[e]at h;simp only[qN9,Option.some.injEq]at h;refine⟨j,by lia,rfl,?_⟩;cases q:Z[j]? with
   |none=>rw[q]at h;simp at h
   |some z =>
    rw[q]at h;simp at h;rw[h]
theorem FS(h:scope.names.lookup x=Z9 .free):(dP scope env).names.lookup x=Z9 .cell∨(dP scope env).names.lookup x=Z9 .free:=by
 unfold dP;dsimp only;generalize scope.names=ns at h
 induction ns with
 |nil=>cases h
 |cons a r c =>
  obtain⟨n,k⟩:=a;rw[qD9]at h;rw[qB2];cases b:x == n with
  |true =>
   rw[b]at h;cases h;split
   .exact .inl (by rw[qD9,b])
   .exact .inr (by rw[qD9,b])
  |false =>
   rw[b]at h;split
   .rw[qD9,b];exact c h
   .rw[qD9,b];exact c h
inductive SM(Y:Cx)(Z0:St)(tn:Nat->y9->Prop)(fp:yC)(W:Nat->Nat->List V->Hp->Prop)(n:Nat)(s:yS):Prop
 |mk (i:Nat) (ys:List V) (H:Hp) (I:ZO Y [] Z0 H s) (st:tn i s.heap) (fr:∀b∈fp,H b=Z8) (w:W i n ys H)
theorem vj{Y:Cx}
  (hc:Y.calm=Z7) (hx:Y.xe=λ_ _=>False) (T:XD Y.prog Y.w Y.K P JJ f S v) (a:∀K,(∀b∈f,K b=Z8)->∀b∈f,X7 Y [] K b)
  (hg:PG Y P g) (htc:SN Y h tc) (hte:PE Y elt te) (I:∀i m ys H2,W i m ys H2->Ls JJ D W Q g tc te p i m ys H2) (fin:∀j A,ZO Y [] p j A->Q j->R (.ok .next) A)
   (h0:SM Y p v f W n s) (st3:v 0 s.heap):wR (yW Y.prog Y.w) Y.A (.compStart (.ListComp elt [⟨P,iter,h,0⟩] scope pos) 0 (.ref S) (.ref D) Y.env) R s:=by
 have c:wR (yW Y.prog Y.w) Y.A (.compLoop (.ListComp elt [⟨P,iter,h,0⟩] scope pos) 0 (.ref S) (.ref D) Y.env) R s:=by
  refine vm (SM Y p v f W) ?_ n h0;rintro n s4 ⟨i,ys,j,I4,F,w,w4⟩;obtain⟨hD4,hd⟩:=I i n ys j w4;rcases hd with⟨G,q⟩| ⟨go,hz,step⟩
  .refine Zt (T.done Y rfl rfl rfl hc i [] s4 _ j _ I4 (a _ w) F G) λr A ⟨hr,I5⟩=>?_;subst hr;exact fin j A I5 q
  .refine Zt (T.item Y rfl rfl rfl hc i [] s4 _ j _ I4 (a _ w) F go) λr A ⟨u,hr,h5⟩=>?_;subst hr;refine Zt h5 λ_ s6 ⟨x,H6,I6,r6,y6,k,fr6⟩=>?_;have I6':=I6.pinned (a _ fr6) (T.obj _ _ k);have back:∀{l:St}{t:Hp}{s7:yS}{m:Nat}{zs:List V},ZO Y ([]++QM f s6.heap) l t s7->Tw p l->W (i+1) m zs t->SM Y p v f W m s7:=λ{l t s7 m zs} B hw w7=>by refine⟨i+1,zs,t,B.unpinned.weak hw.1 hw.2,T.keep _ _ _ k λb O o e=>(B.pin (b,o) (qC7 _ (qC7 _ (QL O e)))).1,λb O=>?_,w7⟩;obtain⟨o,e,d⟩:=T.obj _ _ k b O;exact(B.pin (b,o) (qC7 _ (qC7 _ (QL O e)))).2.1
   have M:∀{E:yL} e s',Y.xe e s'->E e s':=λe s' z=>by rw[hx]at z;exact z.elim
   refine jU (hg _ s6 _ H6 x u _ I6' r6 (step x H6 y6)) (λ_ s7 ⟨l,t,B,J,q7⟩=>?_) M;refine jU (htc _ s7 l t _ B q7) (λb s8 ⟨H8,I8,q8⟩=>?_) M;cases b with
   |false =>
    obtain⟨L,hm,w8⟩:=(by simpa using q8)
    exact⟨L,hm,back I8 J w8⟩
   |true =>
    refine jU (hte _ s8 l H8 _ I8 q8) (λy s9 ⟨U,H9,I9,r9,q9⟩=>?_) M;obtain⟨hD9,L,hm,w9⟩:=q9;refine jU (F4 _ s9 l H9 (.ref D) [U] (.ref D) [y] (λ_ K=>W (i+1) L (ys++[U]) K) I9 rfl (.cons r9 .nil) ⟨_,ys,U,rfl,rfl,hD9,hz,w9⟩) (λz s10 ⟨_,H10,I10,_,q10⟩=>?_) M;exact⟨L,hm,back I10 J q10⟩
 exact codeAny_compStart_list c (T.self _ 0 _ _ _ st3 c)
theorem vi{J:yE}{RR:yT->yR->uD->yS->Prop}
  (n:RF X scope N k js) (f:ZO X pins Z t s2) (T:XD X.prog X.w X.K Y JJ O R U) (K:U 0 s2.heap) (f2:∀b∈O,X7 X pins t b)
  (h:∀(cl:List (Str×yR)) (C:yR) (D:yS),s2.heap.objs.size<=C->s2.heap.objs.size≠C->ZO (WN X scope N cl s2 t C O) [] (WA k js Z) (ZF t s2.heap.objs.size (.lst [])) D->U 0 D.heap ->
   wR (yW X.prog X.w) X.A (.compStart (.ListComp elt [⟨Y,iter,J,0⟩] scope pos) 0 (.ref R) (.ref s2.heap.objs.size) (compEnvC scope cl C X.env)) (RR (.ref s2.heap.objs.size) C) D) :
  y2 (yW X.prog X.w) X.A (newList []) (λacc s3=>y2 (yW X.prog X.w) X.A (mM scope X.env.globals (X5 X.env scope.names []) [] X.env.qual Z8 .none (Z9 X.env)) (λg D =>
   wR (yW X.prog X.w) X.A (.compStart (.ListComp elt [⟨Y,iter,J,0⟩] scope pos) 0 (.ref R) acc { g with scope:=dP scope X.env }) (RR acc g.locals) D) X.xe s3) X.xe s2:=by
 have l:=λx hx=>f.ok.has x (n.free x hx);refine j3 (vn ?_);dsimp only;generalize hP:s2.heap.push { cls:=.type "list",dict:=Z8,data:=.seq ([]).toArray }=P;have F:P.objs.size=s2.heap.objs.size+1:=by rw[<- hP,qD5]
 have G:s2.heap.objs.size≠P.objs.size:=by rw[F];exact qB9 (qH6 _)
 have a:s2.heap.objs.size<=P.objs.size:=by rw[F];exact qM7 _
 generalize hP2:P.push { cls:=.type "dict",data:=.dict #[] }=P2;have B:P2.objs.size=P.objs.size+1:=by rw[<- hP2,qD5]
 have E:(lI P2 scope.names).Ns P.objs.size (λ_=>Z8):=(hP2▸Heap.Ns.new P (.type "dict")).keeps (fZ _ _);have d:∀b o,s2.heap.get? b=Z9 o->(lI P2 scope.names).get? b=Z9 o:=λb o e=>fZ _ _ _ _ (hP2▸qA0 _ (hP▸qA0 _ e));have w:(lI P2 scope.names).get? s2.heap.objs.size=Z9 { cls:=.type "list",dict:=Z8,data:=.seq ([]).toArray }:=fZ _ _ _ _ (hP2▸qA0 _ (hP▸qA7 _ rfl));have W:∀b∈O,b<s2.heap.objs.size:=λb hb=>by obtain⟨o,e,_⟩:=T.obj _ _ K b hb;exact qB1 e
 have ok:=f.compOk (N:=N) n.kind l B a f2 W;refine h (vQ P2.objs.size scope.names (X5 X.env scope.names [])) P.objs.size _ a G ?_ (T.keep _ _ _ K λb _ o e=>d b o e);refine⟨ok,rfl,f.bare,Un.laid d (qA6 _) (f.hok.fresh (qA6 _)),⟨_,E,λi x v e1 e2 e3=>?_⟩,λx c e=>?_,?_,λx c e=>?_,λp hp=>(by cases hp),f.hok.laid d (qA6 _) ?_,?_⟩
 .obtain⟨j,hki,hj,hv⟩:=FT e2;obtain⟨y,n1,n2,V,n4⟩:=n.js _ j hj;have ei:k+(i - k)=i:=by lia
  rw[ei]at n1;have M:N[i]?=Z9 x:=e1;rw[n1]at M;cases M;obtain⟨m,hn,hl⟩:=f.loc;obtain⟨u,r,lk⟩:=hl j x v n2 hv n4;refine⟨u,r,?_⟩;have mem:=Lw V;rcases lk with⟨kk,_⟩| ⟨kk,c,ec,ce⟩
  .rcases n.free x mem with z|z
   .rw[z]at kk;cases kk
   .simp_all
  .obtain⟨c0,I⟩:=On scope.names P2.objs.size _ (.inr (Qy scope.names [] x (.inr ⟨mem,c,ec⟩)));have S:c0=c:=by
    rcases SO _ _ _ I with⟨q,_⟩| ⟨_,q⟩
    .have:=n.cell x q;rw[V]at this;cases this
    .have:=Tv q;rw[ec]at this;cases this;rfl
   subst S;refine .inr ⟨FS V,c0,I,?_⟩;obtain⟨o,L,Q⟩:=ce;exact⟨o,d _ _ L,Q⟩
 .rcases SO _ _ _ e with⟨_,_,q⟩| ⟨_,q⟩
  .exact⟨_,q⟩
  .obtain⟨v,o,L,Q⟩:=f.cell x c (Tv q);exact⟨v,o,d _ _ L,Q⟩
 .show ZF t s2.heap.objs.size (.lst []) P.objs.size=Z8;rw[Y2 (Ne.symm G)];exact f.hok.fresh a
 .rcases SO _ _ _ e with⟨_,q,_⟩| ⟨_,q⟩
  .have A:s2.heap.objs.size<c:=qB7 (by lia) q;rw[Y2 (qG7 A)];exact f.hok.fresh (qF4 A)
  .obtain⟨v,o,L,Q⟩:=f.cell x c (Tv q);rw[Y2 (qB9 (qB1 L))];exact f.freeC x c (Tv q)
 .exact⟨qE8 _,[],_,.nil,w⟩
 .unfold WA;rw[qB5,qH1,qA1];exact n.len.symm
theorem FR{K:It}{J:yT->yR->uD->yS->Prop}{Q:V->Hp->Prop}
  (L:RF X scope N k v) (I:ZO X pins Z a s2) (T:XD X.prog X.w X.K w K n A F) (l:F 0 s2.heap) (B:∀b∈n,X7 X pins a b)
  (U:∀cl s H C ex,PG (WN X scope N cl s H C ex) w g) (x:∀cl s H C ex,SN (WN X scope N cl s H C ex) j tc) (y:∀cl s H C ex,PE (WN X scope N cl s H C ex) elt G)
  (M:∀D,a D=Z8->∃W:Nat->Nat->List V->Hp->Prop,(∃m,W 0 m [] (ZF a D (.lst [])))/\∀i m ys a,W i m ys a->Ls K D W (Q (.ref D)) g tc G (WA k v Z) i m ys a)
  (z:∀cl C r t,s2.heap.objs.size<=C->s2.heap.objs.size≠C->ZO (WN X scope N cl s2 a C n) [] (WA k v Z) r t->Q (.ref s2.heap.objs.size) r->J (.ref s2.heap.objs.size) C (.ok .next) t) :
  y2 (yW X.prog X.w) X.A (newList []) (λacc S=>y2 (yW X.prog X.w) X.A (mM scope X.env.globals (X5 X.env scope.names []) [] X.env.qual Z8 .none (Z9 X.env)) (λc E =>
   wR (yW X.prog X.w) X.A (.compStart (.ListComp elt [⟨w,iter,j,0⟩] scope pos) 0 (.ref A) acc { c with scope:=dP scope X.env }) (J acc c.locals) E) X.xe S) X.xe s2:=by obtain⟨W,⟨m0,w0⟩,h⟩:=M s2.heap.objs.size (I.hok.fresh (qA6 _));refine vi L I T l B λcl C E R h2 u f=>?_;refine vj (Y:=WN X scope N cl s2 a C n) L.calm rfl T (λH' P b d=>⟨P b d,(u.ok.exf b d).1,u.ok.exfs b d,.inl d,(u.ok.exf b d).2,λp O=>by cases O⟩) (U _ _ _ _ _) (x _ _ _ _ _) (y _ _ _ _ _) h (λr t I5 q=>z cl C r t R h2 I5 q) ⟨0,[],_,u,f,λb d=>?_,w0⟩ f;obtain⟨o,e,_⟩:=T.obj _ _ l b d;rw[Y2 (qB9 (qB1 e))];exact(B b d).1
theorem vh{K:TI}(w:RF X scope N k G)(hi:PI X B iter K)
  (hg:∀cl s H C ex,PG (WN X scope N cl s H C ex) B g) (E:∀cl s H C ex,SN (WN X scope N cl s H C ex) t tc) (D:∀cl s H C ex,PE (WN X scope N cl s H C ex) elt F)
  (P:∀x,wE iter X.env x=pure x:=by intro _;rfl):PE X (.ListComp elt [⟨B,iter,t,0⟩] scope pos) (Lr K k G g tc F):=by
 intro r s Z H Q I h;refine g9 rfl P (FV λx f=>I.ok.has x (w.free x f)) w.kind w.names (Zt (hi r s Z H _ I h) λv s1 h1=>Zt h1 λS J h2=>?_);obtain⟨it,fp,tn,JJ,H2,e,L,T,A,p,V⟩:=h2;subst e;refine FR w L T A p hg E D V λcl C M s5 j hDC i q=>?_;obtain⟨m,hn,_⟩:=id i.loc;have hC4:M C=Z8:=i.free;refine⟨m,hn,λO a=>⟨.ref J.heap.objs.size,M,?_,rfl,q⟩⟩;have y:∀b o,J.heap.get? b=Z9 o->b≠C:=λb o e=>qB9 (qB7 (qB1 e) j);refine L.call' (s':={ s5 with heap:=O }) i.os ?_ (λb u e=>?_) i.bare (λb d=>⟨(p b d).2.2.2.1,(p b d).2.1,(p b d).2.2.2.2.1,(p b d).2.2.2.2.2⟩)
 .have U:=i.base;exact⟨λb o e n d f=>(a.2 b (y b o e)).trans (U.keep b o e n d f),λb o e n d f=>by
    obtain⟨R,z⟩:=U.slot b o e n d f;exact⟨R,(a.2 b (y b o e)).trans z⟩,U.free,λb o e f=>by
    obtain⟨W,z⟩:=U.there b o e f;exact⟨W,(a.2 b (y b o e)).trans z⟩,U.tups,U.frzs,U.tbls⟩
 .refine(i.hok b u e).stay (λc w' Y l=>(a.2 c ?_).trans l) (λ_ l=>l) λ_ _ l=>l
  grind
end
theorem Lq(h:H p=Z8)(o:HO):XY H (ZF H p o):=λb u q=>by rw[Y2 (Vb q h)];exact q
theorem XY.tup{K:yQ}(e:XY H b)(h:Zp K H a xs):Zp K b a xs:=by
 rcases h with(h|⟨o,h⟩)| h
 .exact .inl (.inl (e _ _ h))
 .exact .inl (.inr ⟨o,e _ _ h⟩)
 .exact .inr h
section
variable {X:Cx}{pins:yD}{Z:St}{H:Hp}{s:yS}
theorem ZO.yields{wr:yC}{T:yR}(I:ZO X pins Z H s)(g:∀b∈wr,X7 X pins H b)(k:∀b o,b∉wr->s.heap.get? b=Z9 o->h'.get? b=Z9 o)
  (l:s.heap.objs.size<=T) (r:ZJ xs d) (hz:xs.length<=yV) (p:dH h' T d.toArray):ZO X pins Z (ZF H T (.tup xs)) { s with heap:=h',toks:=tk }:=by
 have t:∀b o,s.heap.get? b=Z9 o->b≠T:=λb o e=>qB9 (qB7 (qB1 e) l);have f:∀b u,H b=Z9 u->b≠T:=λb u e=>qB9 (qB7 (I.hok.lt e) l);have j:∀b u,H b=Z9 u->b∉wr:=λb u e a=>by rw[(g b a).1]at e;cases e
 refine I.call' (s':={ s with heap:=h',toks:=tk }) rfl ⟨λb o e n _ h=>k b o h e,λb o e n _ h=>⟨o.slots,k b o h e⟩,λb o e n _=>?_,λb o e h=>⟨o,k b o h e⟩,λb m e=>?_,λb o u e=>?_,λb w e=>⟨#[],?_⟩⟩ (λb u e=>?_) I.bare
  (λb a=>⟨(g b a).2.2.2.1,(g b a).2.1,(g b a).2.2.2.2.1,(g b a).2.2.2.2.2⟩)
 .rw[Y2 (t b o e)];exact n
 .rw[Y2 (f b _ e)];exact e
 .rw[Y2 (f b _ e)];exact e
 .rw[Y2 (f b _ e),e];simp
 .by_cases a:b=T
  .subst a;rw[Yx]at e;cases e;exact⟨hz,d,r,p⟩
  .rw[Y2 a]at e;refine(I.hok b u e).stay (λc v i q=>k c v ?_ q) (λc q=>?_) λc m q=>?_
   .rcases i with rfl|i
    .exact j _ _ e
    .exact j _ _ i
   .rw[Y2 (f c _ q)];exact q
   .rw[Y2 (f c _ q)];exact q
theorem ZO.turnedL{wr:yC}(I:ZO X pins Z H s)(f:∀b∈wr,X7 X pins H b)(k:∀b o,b∉wr->s.heap.get? b=Z9 o->h'.get? b=Z9 o):ZO X pins Z H { s with heap:=h',toks:=tk }:=by
 have h:∀b u,H b=Z9 u->b∉wr:=λb u e a=>by rw[(f b a).1]at e;cases e
 refine I.call' (s':={ s with heap:=h',toks:=tk }) rfl ⟨λb o e n _ d=>k b o d e,λb o e n _ d=>⟨o.slots,k b o d e⟩,λb o e n _=>n,λb o e d=>⟨o,k b o d e⟩,λb i e=>e,λb o u e=>e,λb j e=>⟨#[],by rw[e];simp⟩⟩ (λb u e=>?_) I.bare
  (λb a=>⟨(f b a).2.2.2.1,(f b a).2.1,(f b a).2.2.2.2.1,(f b a).2.2.2.2.2⟩)
 refine(I.hok b u e).stay (λc v g q=>k c v ?_ q) (λc q=>q) λc i q=>q;rcases g with rfl|g
 .exact h _ _ e
 .exact h _ _ g
end
section
variable {X:Cx}
theorem vg:Yk X (.type "range") (λvs H Q=>∃i j:Int,vs=[.int i,.int j]/\∀p,H p=Z8->Q (.ref p) (ZF H p (.rng i j))):=by intro a s Z H k f Q I r h;obtain⟨i,j,rfl,q⟩:=h;obtain⟨u,v,rfl,c,d⟩:=QG r;obtain⟨t,rfl⟩:=c;obtain⟨g,rfl⟩:=d;refine call_range_2 ⟨.ref s.heap.objs.size,_,I.laid (λb o e=>qA0 _ e) (qA6 _) ?_,rfl,q _ (I.hok.fresh (qA6 _))⟩;exact⟨_,_,_,qA7 _ rfl⟩
theorem vf:Yk X (.type "range") (λvs H Q=>∃j:Int,vs=[.int j]/\∀p,H p=Z8->Q (.ref p) (ZF H p (.rng 0 j))):=by intro a s Z H f d Q I r h;obtain⟨j,rfl,q⟩:=h;obtain⟨u,rfl,c⟩:=XC r;obtain⟨t,rfl⟩:=c;refine call_range_1 ⟨.ref s.heap.objs.size,_,I.laid (λb o e=>qA0 _ e) (qA6 _) ?_,rfl,q _ (I.hok.fresh (qA6 _))⟩;exact⟨_,_,_,qA7 _ rfl⟩
def RD(lo:Int)(n:Nat):List V:=(List.range n).map λk=>V.int (lo+(k:Nat))
theorem ve{lo:Int}{acc:yJ}(h:ItemsOf (λi v=>∃t,v=.int (lo+i*1) t) acc n):ZJ (RD lo n) acc.toList:=by
 obtain⟨g,h⟩:=h;have c:∀k us lo,us.length=k->(∀i v,us[i]?=Z9 v->∃t,v=Value.int (lo+(i:Nat)) t)->ZJ ((List.range k).map λj=>V.int (lo+(j:Nat))) us:=by
  intro k
  induction k with
  |zero=>intro us lo b _;cases us with
   |nil=>exact .nil
   |cons a r=>simp at b
  |succ k f =>
   intro us lo b d;cases us with
   |nil=>simp at b
   |cons a r =>
    rw[qK2,qB2,qC6];refine .cons ?_ ?_
    .obtain⟨t,e⟩:=d 0 a rfl;exact⟨t,e⟩
    .have:=f r (lo+1) (by simpa using b) λi v e=>by obtain⟨t,q⟩:=d (i+1) v (by simpa using e);exact⟨t,by rw[q];congr 1;lia⟩
     have e:((λj=>V.int (lo+(j:Nat)))∘Nat.succ)=λj=>V.int (lo+1+(j:Nat)):=by
      funext j;simp only[Function.comp];congr 1
      lia
     rw[e];exact this
 exact c n acc.toList lo (by simpa using g) λi v e=>by obtain⟨t,q⟩:=h i v (by simpa using e);exact⟨t,by rw[q,Int.mul_one]⟩
theorem vd(y:X.calm=Z7):Yk X (.type "list") (λvs H Q=>∃p i j,vs=[.ref p]/\H p=Z9 (.rng i j)/\-(2 ^ 62)<=i/\i<2 ^ 62/\-(2 ^ 62)<=j/\j<2 ^ 62/\(j - i).toNat<=1000/\∀l,H l=Z8->Q (.ref l) (ZF H l (.lst (RD i (j - i).toNat)))):=by
 intro b s Z H C A Q I r h;obtain⟨p,i,j,rfl,k,b1,x,m,g,c,q⟩:=h;obtain⟨u,rfl,d⟩:=XC r;cases d;obtain⟨t,u,v,e⟩:=(I.hok _ _ k)
 refine call_list_range (I.ok.hd y) (e) (small_one b1 x m g) (by rw[rangeSize_one];split<;>lia) (qC5 c (by decide)) λz B a f hk w n=>?_;have hv:=ve n;refine⟨.ref s.heap.objs.size,_,I.laid (o:=.lst (RD i (j - i).toNat)) hk (qA6 _) ⟨?_,a.toList,f,hv,by simpa using w⟩,rfl,q _ (I.hok.fresh (qA6 _))⟩;unfold RD;rw[qA1,qP6];exact qC5 c (by decide)
def vc:V->List V->Hp->VK->Prop:=λx b H Q=>∃(l:yR) (a:List V) (i:Nat) (y:V),x=.ref l/\b=[.int i,y]/\H l=Z9 (.lst a)/\a.length<1000/\i<=a.length/\Q .non (ZF H l (.lst (a.take i++y::a.drop i)))
theorem vb:UL X "list.insert" vc:=by
 intro d s Z H x w v A Q I k m h;obtain⟨l,D,i,y,rfl,rfl,f,B,C,q⟩:=h;cases k;obtain⟨u,g,rfl,p,o⟩:=m.two;obtain⟨t,rfl⟩:=p;obtain⟨z,a,n,r,j,e⟩:=I.lstM f;generalize hx:(i:Int)=x;have b:¬(!Builtin.List.listFitsIndex x)=Z7:=by rw[fitsIndex_both (by lia) (by lia)];exact qB0
 have c:a.toArray.size<=sizeLine:=by rw[qB3,<- j];exact z
 refine vL F.slot_list_insert ⟨_,e,rfl⟩ F.entry_list_insert (F.args_list_insert_3 _ _ _) (PySem.AutoSeq1.list_insert_list_int_val_1 l _ n x t g b c) ⟨e,?_⟩;refine⟨.non,_,I.lset (its':=a.take i++g::a.drop i) f e ?_ ((r.take i).append (.cons o (r.drop i))) ?_,rfl,q⟩
 .have hk:(if x<0 then(x+(a.toArray.size:Int)).toNat else min x.toNat a.toArray.size)=i:=by
   rw[if_neg (by lia),qB3]
   lia
  rw[hk];simp;exact qF5 (by rw[qG5];exact qA6 _)
 .rw[qB5,qB8,qE6,qG5];have:1000<=sizeLine:=by decide
  lia
theorem FQ{bs:List Bool}(r:ZJ (bs.map V.bl) c):TruthOf prog w A (λi v=>c.toArray[i]?=Z9 v) (λi=>bs.getD i Z5):=by
 intro i v s Q E hv j;have a:=by simpa using hv
 have f:i<bs.length:=by
  have l:=(qA5.mp a).1;have k:=r.length;rw[qA1]at k
  lia
 obtain⟨u,e,g⟩:=ZJ.get r (by rw[qB6,qA9 f];rfl);rw[e]at a;cases a;have d:=g;subst d;have h:bs.getD i Z5=bs[i]:=by simp[qM1,f]
 have b:Q (bs.getD i Z5) s:=j;rw[h]at b;exact jH b
theorem FP(bs:List Bool):(List.range bs.length).all (λi=>bs.getD i Z5)=bs.all id:=by
 induction bs with
 |nil=>rfl
 |cons b r a =>
  rw[qB8,qK2,qJ3,qI0,qJ3];rw[<- a];rfl
theorem FO(bs:List Bool):(List.range bs.length).any (λi=>bs.getD i Z5)=bs.any id:=by
 induction bs with
 |nil=>rfl
 |cons b r a =>
  rw[qB8,qK2,qE9,qP7,qE9];rw[<- a];rfl
theorem va(t:X.calm=Z7):Yk X (.builtin "all") (λvs H Q=>∃(p:yR) (bs:List Bool),vs=[.ref p]/\YK X.K H p (bs.map V.bl)/\Q (.bl (bs.all id)) H):=by
 intro g s Z H y w Q I r h;obtain⟨p,bs,rfl,m,q⟩:=h;obtain⟨u,rfl,l⟩:=XC r;cases l;obtain⟨c,j,f,x⟩:=I.list m;have d:p<s.heap.objs.size:=by obtain⟨_,e,_⟩:=f.isList;exact qB1 e
 have a:=j.length;rw[qA1]at a;refine call_all_walk (jQ f.isList ?_);refine⟨s.heap.objs.size,_,[s.heap.objs.size],_,_,_,_,rfl,Walks.list (A:=X.A.in1) (I.ok.hd t) s.heap.objs.size p (qB9 d) c.toArray,⟨⟨_,qA7 _ rfl,rfl,rfl⟩,f.isList.push _⟩,FQ j,λv n kk=>?_⟩;have e:(List.range c.toArray.size).all (λi=>bs.getD i Z5)=bs.all id:=by rw[qB3,<- a];exact FP bs
 rw[e];refine⟨.bl (bs.all id),H,?_,rfl,q⟩;exact I.kept (t':=n) λb o k=>kk b o (by simp only[qB4];exact qB9 (qB1 k)) (qA0 _ k)
theorem u9(t:X.calm=Z7):Yk X (.builtin "any") (λvs H Q=>∃(p:yR) (bs:List Bool),vs=[.ref p]/\YK X.K H p (bs.map V.bl)/\Q (.bl (bs.any id)) H):=by
 intro g s Z H y w Q I r h;obtain⟨p,bs,rfl,m,q⟩:=h;obtain⟨u,rfl,l⟩:=XC r;cases l;obtain⟨c,j,f,x⟩:=I.list m;have d:p<s.heap.objs.size:=by obtain⟨_,e,_⟩:=f.isList;exact qB1 e
 have a:=j.length;rw[qA1]at a;refine call_any_walk (jQ f.isList ?_);refine⟨s.heap.objs.size,_,[s.heap.objs.size],_,_,_,_,rfl,Walks.list (A:=X.A.in1) (I.ok.hd t) s.heap.objs.size p (qB9 d) c.toArray,⟨⟨_,qA7 _ rfl,rfl,rfl⟩,f.isList.push _⟩,FQ j,λv n kk=>?_⟩;have e:(List.range c.toArray.size).any (λi=>bs.getD i Z5)=bs.any id:=by rw[qB3,<- a];exact FO bs
 rw[e];refine⟨.bl (bs.any id),H,?_,rfl,q⟩;exact I.kept (t':=n) λb o k=>kk b o (by simp only[qB4];exact qB9 (qB1 k)) (qA0 _ k)
theorem u7:YW X (yZ .Is) (λx y H Q=>∃a b,x=.bl a/\y=.bl b/\Q (.bl (a == b)) H):=by intro c s Z H x y v u Q I d e h;obtain⟨a,b,rfl,rfl,q⟩:=h;cases d;cases e;exact is_bool ⟨.bl (a == b),H,I,rfl,q⟩
theorem u6:YW X (yZ .IsNot) (λx y H Q=>∃a b,x=.bl a/\y=.bl b/\Q (.bl (a != b)) H):=by intro c s Z H x y v u Q I d e h;obtain⟨a,b,rfl,rfl,q⟩:=h;cases d;cases e;exact isnot_bool ⟨.bl (a != b),H,I,rfl,q⟩
end
section
variable {X:Cx}
def u5(K:yQ):R2:=λx y H Q=>∃a b e c,x=.ref a/\y=.ref b/\H a=Z9 (.tup e)/\H b=Z9 (.tup c)/\e.length+c.length<=yV/\∀p d,XY H d->d p=Z9 (.tup (e++c))->Q (.ref p) d
theorem u0:YW X (jJ .Add) (u5 X.K):=by
 intro c s Z H x y v u Q I t w h;obtain⟨a,b,B,J,rfl,rfl,m,l,M,q⟩:=h;by_cases z:B=[]
 .subst z;cases t;cases w;obtain⟨O,N,P,_⟩:=I.tuple (Zp.of m);obtain⟨f,R,E,_⟩:=I.tuple (Zp.of l);have e:=(N.nil_iff).mpr rfl;subst e;obtain⟨⟨cls,K,r,G⟩,C,D,n,o⟩:=id P;obtain⟨⟨A,k,data2,j⟩,i,g,F,d⟩:=id E;simp only at D o g d;subst D o g d;exact dM ⟨_,C,rfl⟩ ⟨_,i,rfl⟩ lH m8 fD wY (wO _ _)
   (tuple_addW0 a b ([]).toArray f.toArray n F K k G j (by simp)) ⟨C,i,⟨.ref b,H,I,rfl,q b H (XY.refl H) l⟩⟩
 .refine xt c s Z H (.ref a) (.ref b) v u Q I t w ⟨a,b,B,J,rfl,rfl,Zp.of m,Zp.of l,z,M,λe=>?_,λ_ p L=>q p _ (Lq L _) Yx⟩;subst e;exact q a H (XY.refl H) (by rw[qG0];exact m)
theorem uZ(xs:List V)(lo hi:yG)(h:HT.sIx xs.length 0 lo=0/\HT.sIx xs.length xs.length hi=xs.length):cutV xs lo hi=xs:=by unfold cutV;rw[h.1,h.2,qO5,Nat.sub_zero,qK9]
theorem uY{E:yL}{items:yJ}{lo hi:yG}{Q:yL}(b:dH s.heap t items)(g:s.heap.IsSliceOf c k j .none)(pl:g8 k lo)(n:g8 j hi)
  (i:HT.sIx items.size 0 lo=0/\HT.sIx items.size items.size hi=items.size)
  (h:Q (.ref t) s):y2 (yW prog w) A (gV (.ref t) (.ref c)) Q E s:=by
 obtain⟨l,e,d,m⟩:=id g;have f:s.TypeIs (.ref c) "slice":=⟨l,e,d⟩
 unfold gV
 try with_reducible refine jG ?_
 refine yO (wpAny_sequenceKey b.typeIs (by decide) ?_);refine yO (jD b.typeIs j5
  (jE j5 b.typeIs m4 ?_ (args_tuple_getitem _ _)))
 show y2 _ _ (Builtin.Tuple.tupleItemsOf (.ref t) >>= _) _ _ s;refine yO (tupleItemsOf_ b ?_);refine yO (j6 f ?_);refine yO (HT.sliceApplied_gen g pl n ?_);have a:(((HT.sIx items.size 0 lo):Int) == 0&&(1:Int) == 1&&(HT.sIx items.size items.size hi - HT.sIx items.size 0 lo) == items.size)=Z7:=by rw[i.1,i.2];simp
 show y2 _ _ (if(((HT.sIx items.size 0 lo):Int) == 0&&1 == 1&&(HT.sIx items.size items.size hi - HT.sIx items.size 0 lo) == items.size)=Z7 then _ else _) _ _ s;rw[if_pos a];refine yO (yO (j6 b.typeIs (yP ?_)));exact yO (vR (yP ⟨_,rfl,yP h⟩))
def uX(K:yQ):V->yG->yG->Hp->VK->Prop:=λx d e H Q=>∃a c,x=.ref a/\H a=Z9 (.tup c)/\∀p b,XY H b->b p=Z9 (.tup (cutV c d e))->Q (.ref p) b
theorem uW:SU X (uX X.K):=by
 intro c s Z H x v y w e i t Q I m k l o h;obtain⟨a,b,rfl,g,q⟩:=h;by_cases f:HT.sIx b.length 0 e=0/\HT.sIx b.length b.length i=b.length
 .cases m;obtain⟨j,r,n,z⟩:=I.tuple (Zp.of g);have d:j.toArray.size=b.length:=by exact r.length.symm
  refine⟨"tuple",_,PyProof.Rows.slot_tuple_getitem.lookup,n.typeIs,?_⟩;exact uY n k l o (by rw[d];exact f) ⟨.ref a,H,I,rfl,q a H (XY.refl H) (by rw[uZ b e i f];exact g)⟩
 .exact xw c s Z H (.ref a) v y w e i t Q I m k l o ⟨a,b,rfl,Zp.of g,f,λp u=>q p _ (Lq u _) Yx⟩
end
structure RC(P:yX)(w:y8)(K:yQ)(mg:Str->yF)(base:y9)(x:Str)(ps:yH)(k:Nat)(sp:Sp):Prop where
 ex:∃f fd,Yw P w K mg base VP k f fd ps sp/\Wi K fd ps []/\wG K (.ref f)=Z7/\mg x=Z9 (.ref f)
section
variable {X:Cx}{a b c d:yY}{ta tb tc td:TE}{pos:Pos}
theorem uV{es:yE}{p:Pos}(C:RC X.prog X.w X.K X.mg X.base x ps k h)(i:Zh k' X.A)(n:Gl X x)(q:PA X (e::es) t)(hk:k<=k':=by decide)(hdb:Wm x:=by decide)
  (l:y3 (e::es) X.env=(Z5,jW e X.env)::y3 es X.env:=by rfl) (o:(vB pos (y3 es X.env)).any (·.1)=Z5:=by rfl) :
  PE X (.Call (.Name x p) (e::es) [] pos) (LS h [] E0 t):=by obtain⟨f,r,F,m,g,j⟩:=C.ex;exact xP (hdb:=hdb) (he:=l) (hpl:=o) F (i.mono hk) n j g m .nil LF q
theorem uU(ho:YW X (yZ op) r)(w:YW X (yZ i) E)(C:YW X (yZ g) m)(ha:PE X a ta)(hb:PE X b tb)(hc:PE X c tc)(V:PE X d td)
  (hm:fL [op,i,g] [b,c,d]=Z5:=by with_unfolding_all rfl):PT X (.Compare a [op,i,g] [b,c,d] pos) (fun Z H Q=>ta Z H λx q=>tb Z q λy o=>r x y o λz n=>∃k,z=.bl k /\
   (if k=Z7 then tc Z n λl A=>E y l A λK j=>∃k2,K=.bl k2/\(if k2=Z7 then td Z j λv' B=>m l v' B λU t=>∃p,U=.bl p/\Q p t else Q Z5 j)else Q Z5 n)):=by
 intro f s Z H Q I h;refine isTrue_chain (Zt (ha f s Z H _ I h) λv P ⟨x,q,I1,r1,q1⟩=>test_link (Zt (hb f P Z q _ I1 q1) λu s2 ⟨y,o,I2,m,R⟩ =>
  Zt (ho f s2 Z o x y v u _ I2 r1 m R) λd s3 ⟨z,n,J,r3,k,e,D⟩=>?_)) hm
 subst e;cases r3;refine jH ?_;cases k with
 |false=>exact ite_ff ⟨n,J,D⟩
 |true =>
  refine ite_tt (test_link (Zt (hc f s3 Z n _ J D) λl W ⟨M,A,I4,F,q4⟩=>Zt (w f W Z A y M u l _ I4 m F q4) λd' s5 ⟨K,j,L,r5,k2,O,G⟩=>?_));subst O;cases r5;refine jH ?_;cases k2 with
  |false=>exact ite_ff ⟨j,L,G⟩
  |true =>
   refine ite_tt (test_last (Zt (V f s5 Z j _ L G) λw2 N ⟨z6,B,I6,Y,q6⟩=>Zt (C f N Z B M z6 l w2 _ I6 F Y q6) λd2 s7 ⟨z7,t,T,S,p,e3,q7⟩=>?_));subst e3;cases S;exact jH ⟨t,T,q7⟩
end
def TK(K:yQ)(H b:Hp):Prop:=∀p a,Zp K H p a->Zp K b p a
theorem TK.refl(K:yQ)(H:Hp):TK K H H:=λ_ _ h=>h
theorem TK.trans{K:yQ}(a:TK K H c)(b:TK K c H2):TK K H H2:=λp d h=>b p d (a p d h)
theorem dT{p:Prop}[Decidable p](h:p):decide p=Z7:=decide_eq_true h
theorem uT:jA "len"=Z9 (.builtin "len"):=by decide
theorem uz:jA "range"=Z9 (.type "range"):=by decide
theorem Lo:jA "list"=Z9 (.type "list"):=by decide
theorem FN:jA "tuple"=Z9 (.type "tuple"):=by decide
theorem uy:jA "min"=Z9 (.builtin "min"):=by decide
theorem ux:jA "max"=Z9 (.builtin "max"):=by decide
theorem FM:jA "zip"=Z9 (.type "zip"):=by decide
theorem uw:jA "isinstance"=Z9 (.builtin "isinstance"):=by decide
theorem uv:jA "all"=Z9 (.builtin "all"):=by decide
theorem uu:jA "any"=Z9 (.builtin "any"):=by decide
theorem FL:jA "int"=Z9 (.type "int"):=by decide
theorem ur:jA "bool"=Z9 (.type "bool"):=by decide
theorem uq:jA "enumerate"=Z9 (.type "enumerate"):=by decide
theorem FK:jA "str"=Z9 (.type "str"):=by decide
structure C4 where
 a:Int
 b:Int
 k:Int
 o:Int
def C4.ok(sw pl:Int)(c:C4):Prop:=0<=c.a/\c.a<c.b/\c.b<pl/\0<=c.k/\c.k<sw/\0<=c.o/\c.o<2
structure ze1(ms mp mc:Int)(sw pl:Int)(cs:List C4):Prop where
 s1:1<=sw
 s2:sw<=ms
 p1:2<=pl
 p2:pl<=mp
 c1:(cs.length:Int)<=mc
 c2:∀c∈cs,c.ok sw pl
inductive UK(K:yQ)(H:Hp):V->String->Prop where
 |non:UK K H .non "NoneType"
 |bl (x:Bool):UK K H (.bl x) "bool"
 |int (i:Int):UK K H (.int i) "int"
 |str (x:Str):UK K H (.str x) "str"
 |tup {a:yR}{xs:List V} (e:Zp K H a xs):UK K H (.ref a) "tuple"
 |lst {a:yR}{xs:List V} (e:YK K H a xs):UK K H (.ref a) "list"
 |dk {a:yR}{kvs:List (Zz×V)} (e:H a=Z9 (.dK kvs)):UK K H (.ref a) "dict"
def FJ(t T:String):Bool:=t == T||(t == "bool"&&T == "int")
section
variable {X:Cx}
theorem uo{E:yL}{Z:St}{Q:yL}(I:ZO X f Z H s)(d:ZG x u)(r:UK X.K H x t)(e:W.kitOne X.K (.type t) c=Z9 b)(h:∀tk,Q (.bool b) { s with toks:=tk }):
  y2 (yW X.prog X.w) A (mY (.builtin "isinstance") [u,c]) Q E s:=by
 cases r with
 |non=>cases (d);exact gG W.kitx_none I.kIn True.intro e (λz=>nomatch z) h
 |bl y=>cases (d);exact gG W.kitx_bool I.kIn True.intro e (λz=>nomatch z) h
 |int i=>obtain⟨t,q⟩:=(d);cases q;exact gG W.kitx_int I.kIn True.intro e (λz=>nomatch z) h
 |str y=>obtain⟨t,q⟩:=(d);cases q;exact gG W.kitx_str I.kIn True.intro e (λz=>nomatch z) h
 |@lst a v k =>
  cases (show u=Value.ref a from d);obtain⟨m,_,l,_⟩:=I.list k;obtain⟨o,g,j,_⟩:=l.isList;exact gG W.kitx_list I.kIn ⟨o,g,j⟩ e (λz=>nomatch z) h
 |@tup a v k =>
  cases (show u=Value.ref a from d);obtain⟨m,_,l,_⟩:=I.tuple k;obtain⟨o,g,j,_⟩:=l;exact gG W.kitx_tuple I.kIn ⟨o,g,j⟩ e (λz=>nomatch z) h
 |@dk a n k =>
  cases (show u=Value.ref a from d);obtain⟨_,_,C,_,p⟩:=(I.hok a _ k)
  obtain⟨o,B,w,g,j,_⟩:=p;exact gG W.kitx_dict I.kIn ⟨o,g,j.1⟩ e (λz=>nomatch z) h
theorem um:Yk X (.builtin "isinstance") (λvs H Q=>∃x t T b,vs=[x,.ty T]/\UK X.K H x t/\W.kitOne X.K (.type t) (.type T)=Z9 b/\Q (.bl b) H):=by intro a s Z H j i Q I r h;obtain⟨x,t,T,b,rfl,f,e,q⟩:=h;obtain⟨u,v,rfl,c,d⟩:=QG r;cases d;exact uo I c f e λg=>⟨.bl b,H,I.tok g,rfl,q⟩
end
theorem uk(K:yQ):(∀t∈["NoneType","bool","int","str","tuple","list","dict"],∀T∈["bool","int","tuple","list","str","dict"],W.kitOne K (.type t) (.type T)=Z9 (FJ t T)):=by intro t b T a;simp only[qC0,qE0,or_false]at b a;rcases b with rfl|rfl|rfl|rfl|rfl|rfl|rfl<;>rcases a with rfl|rfl|rfl|rfl|rfl|rfl<;>rfl
mutual
inductive Rp(K:yQ)(H:Hp)(a0:yR->Prop):V->vF->Prop where
 |non:Rp K H a0 .non .none
 |bl (b:Bool):Rp K H a0 (.bl b) (.bool b)
 |int (i:Int):Rp K H a0 (.int i) (.int i)
 |str (x:Str):Rp K H a0 (.str x) (.str x)
 |tup {p:yR}{xs:List V}{ds:List vF} (h:Zp K H p xs) (r:RpL K H a0 xs ds):Rp K H a0 (.ref p) (.tuple ds)
 |lst {p:yR}{xs:List V}{ds:List vF} (n:a0 p) (h:YK K H p xs) (r:RpL K H a0 xs ds):Rp K H a0 (.ref p) (.list ds)
inductive RpL(K:yQ)(H:Hp)(a0:yR->Prop):List V->List vF->Prop where
 |nil:RpL K H a0 [] []
 |cons {x:V}{xs:List V}{d:vF}{ds:List vF} (h:Rp K H a0 x d) (t:RpL K H a0 xs ds):RpL K H a0 (x::xs) (d::ds)
end
def C4.d(c:C4):PyData:=.tuple [.int c.a,.int c.b,.int c.k,.int c.o]
section
variable {prog:yX}{w:y8}{A:y7}{E:yL}{s:yS}
theorem uj{vs:yJ}{Q:yL}(c:s.heap.IsTupleIter j t n)(g:s.heap.IsTuple t vs)(hv:vs[n]?=Z9 v)
  (q:∀h',h'.IsTupleIter j t (n+1)->qE3 j s.heap h'->Q v { s with heap:=h' }):y2 (yW prog w) A (Builtin.SmallTypes.nextOf (.ref j)) Q E s:=by obtain⟨i,b,e,a⟩:=id c;obtain⟨h,d,_,m,f⟩:=g;refine yO (jD c.typeIs vM (jE vM c.typeIs gD ?_ (gB _)));show y2 _ _ (field (.ref j) 0 >>= _) _ _ s;refine yO (jV b a (x:=.ref t) rfl ?_);refine yO (jV b a (x:=.int n 0) rfl ?_);refine yO (jS d f ?_);simp only[hv,qH3];refine yO (gL b a (by simp) (yP ⟨v,rfl,yP (q _ ?_ (qE3.update ..))⟩));refine⟨_,qI4 _ b (mC (wV a _)),(Obj.cls_mapFields ..).trans e,?_⟩;rw[wV a];simp[wM]
theorem ui{vs:yJ}{Q:yL}(f:A.handled=Z8)(c:s.heap.IsTupleIter j t n)(h:s.heap.IsTuple t vs)(hv:vs[n]?=Z8)
  (q:∀h' e,qO6 j s.heap h'->(∃o,h'.get? e=Z9 o/\o.cls=.type "StopIteration")->E (.ref e) { s with heap:=h' }):y2 (yW prog w) A (Builtin.SmallTypes.nextOf (.ref j)) Q E s:=by
 obtain⟨k,d,l,b⟩:=id c;obtain⟨p,g,_,m,i⟩:=h;refine yO (jD c.typeIs vM (jE vM c.typeIs gD ?_ (gB _)));show y2 _ _ (field (.ref j) 0 >>= _) _ _ s;refine yO (jV d b (x:=.ref t) rfl ?_);refine yO (jV d b (x:=.int n 0) rfl ?_);refine yO (jS g i ?_);simp only[hv,qH3];refine yO (vR (yO (gL d b (by simp) ?_)));refine yO ?_;refine yO (m:=firstArgMember _ _) (wpAny_of_eq (a:=Value.none) (by first|(simp only[firstArgMember];rfl)| rfl) ?_);refine j3 ?_ (by size_fits);refine yO (wpAny_handled ?_)
 first|rw[f]| rw[show A.in1.handled=Z8 from f]
 refine yO (yP (wpAny_throw ?_));exact q _ _ (((qE3.update ..).extBut.push _).push _) ⟨_,qA7 _ rfl,rfl⟩
end
theorem uh{prog:yX}{w:y8}{A:y7}(g:A.handled=Z8)(j t:yR)(b:t≠j)(vs:yJ):
  lY prog w A j [j,t] vs.size (λi v=>vs[i]?=Z9 v) (λi h=>h.IsTupleIter j t i/\h.IsTuple t vs) where
 live:=λ_ _ a=>let ⟨o,ho,_⟩:=a.1;⟨o,ho⟩
 frame:=λ_ _ _ a kk=>⟨a.1.at λo e=>kk j (by simp) o e,let ⟨o,ho,r⟩:=a.2;⟨o,kk t (by simp) o ho,r⟩⟩
 item:=λi s Q E m a l=>uj a.1 a.2 (v:=vs[i]) (by simp) λd k c=>l _ d s.toks (by simp) ⟨k,a.2.extBut c.extBut b⟩ c
 done:=λs Q E a f=>ui g a.1 a.2 (by simp) f
theorem ug(l:yR)(items:yJ)(n:Nat)(b:Option yR)(j:Array (yF)):
  uJ (Builtin.«enumerate.__new__» ⟨[.type "enumerate",.ref l],[]⟩) (λ_ R s=>s.heap.get? l=Z9 { cls:=.type "tuple",dict:=b,data:=.seq items n,slots:=j } /\
   R (.ok (.ret (.ref (s.heap.push { cls:=.type "tuple_iterator",data:=.fields #[.ref l,.int 0 0] }).objs.size)))
    { s with heap:=(s.heap.push { cls:=.type "tuple_iterator",data:=.fields #[.ref l,.int 0 0] }).push { cls:=.type "enumerate",data:=.fields #[.none,.bool Z5,.ref s.heap.objs.size,wM 0,.none,.none] } }) :=
 .of_wp λf w A R s h=>by
  obtain⟨k,g,d,o,m⟩:=s;obtain⟨a,h⟩:=h;have e:=sub_enumerate;have i:qH0 (Shared.heap ⟨k,g,d,o,m⟩) l items:=⟨_,a,rfl,n,rfl⟩
  wp_walk using AutoSeq1.wpAny_loadPart' a
  refine wpAny_stack_any λp=>yP ?_;split
  .rename_i c _ _ _ _ _;cases (c == Value.type "enumerate")<;>(wp_walk using AutoSeq1.wpAny_loadPart' a,jK i;exact⟨_,rfl,h⟩)
  .wp_walk using AutoSeq1.wpAny_loadPart' a,jK i
   exact⟨_,rfl,h⟩
section
variable {X:Cx}{pins:yD}{Z:St}{H:Hp}{s:yS}
mutual
theorem ZO.reads(I:ZO X pins Z H s){m:yR->Prop}:∀{x:V}{d:vF}{u:yT},Rp X.K H m x d->ZG x u->∃c,Reads s.heap u d c
 |_,_,u,.non,r=>by cases (r);exact⟨_,.none⟩
 |_,_,u,.bl b,r=>by cases (r);exact⟨_,.bool b⟩
 |_,_,u,.int i,r=>by obtain⟨t,q⟩:=(r);cases q;exact⟨_,.int i t⟩
 |_,_,u,.str y,r=>by obtain⟨t,q⟩:=(r);cases q;exact⟨_,.str y t⟩
 |_,_,u,.tup h l,r=>by cases (r);obtain⟨f,e,⟨o,g,k,n,a⟩,_⟩:=I.tuple h;obtain⟨c,j⟩:=I.readsL l e;exact⟨_,.tuple g k a (by simpa using j)⟩
 |_,_,u,.lst _ h l,r=>by cases (r);obtain⟨f,e,p,_⟩:=I.list h;obtain⟨o,g,k,n,a⟩:=p.isList;obtain⟨c,j⟩:=I.readsL l e;exact⟨_,.list g k a (by simpa using j)⟩
theorem ZO.readsL(I:ZO X pins Z H s){b:yR->Prop}:∀{xs:List V}{a:List vF}{us:yB},RpL X.K H b xs a->ZJ xs us->∃c,ReadsAll s.heap us a c
 |_,_,_,.nil,.nil=>⟨_,.nil⟩
 |_,_,_,.cons h t,.cons r f=>by obtain⟨g,d⟩:=I.reads h r;obtain⟨i,e⟩:=I.readsL t f;exact⟨_,.cons d e⟩
end
def Um(d:vF):Prop:=d.canLay0=Z7/\d.depth<=60
theorem uf(o:X.A.units+64<vE):YW X (yZ .Eq) (λx y H Q=>∃(N d:yR->Prop) (b a:vF),Rp X.K H N x b/\Rp X.K H d y a/\Um b/\Um a/\Q (.bl (PyData.eqv b a)) H):=by intro c s Z H x y v u Q I f g h;obtain⟨N,d,b,a,i,j,e,m,q⟩:=h;obtain⟨n,k⟩:=I.reads i f;obtain⟨bs,l⟩:=I.reads j g;exact SeqAt.compareEq_reads k l e.1 m.1 (by have:=e.2;lia) ⟨.bl _,H,I,rfl,q⟩
theorem ue(o:X.A.units+64<vE):YW X (yZ .NotEq) (λx y H Q=>∃(N d:yR->Prop) (b a:vF),Rp X.K H N x b/\Rp X.K H d y a/\Um b/\Um a/\Q (.bl (!PyData.eqv b a)) H):=by intro c s Z H x y v u Q I f g h;obtain⟨N,d,b,a,i,j,e,m,q⟩:=h;obtain⟨n,k⟩:=I.reads i f;obtain⟨bs,l⟩:=I.reads j g;exact SeqAt.compareNe_reads k l e.1 m.1 (by have:=e.2;lia) ⟨.bl _,H,I,rfl,q⟩
end
def XM(b:Bool)(K:yQ)(H:Hp)(a:yR)(xs:List V):Prop:=match b with
 |true=>Zp K H a xs
 |false=>YK K H a xs
def VO(b:Bool)(h:y9)(a:yR)(vs:yJ):Prop:=match b with
 |true=>h.IsTuple a vs
 |false=>h.IsList a vs
def WM(b:Bool)(h:y9)(j a:yR)(i:Nat):Prop:=match b with
 |true=>h.IsTupleIter j a i
 |false=>h.IsListIter j a i
theorem WM.obj(x:WM b h j a i):∃o,h.get? j=Z9 o/\∀v,o.data≠.cell v:=by
 cases b with
 |true=>obtain⟨o,d,_,c⟩:=x;exact⟨o,d,λv q=>by rw[c]at q;cases q⟩
 |false=>obtain⟨o,d,_,c⟩:=x;exact⟨o,d,λv q=>by rw[c]at q;cases q⟩
theorem WM.keep(x:WM b h j a i)(e:∀o,h.get? j=Z9 o->h'.get? j=Z9 o):WM b h' j a i:=by
 cases b with
 |true=>exact Heap.IsTupleIter.at x e
 |false=>exact Heap.IsListIter.at x e
theorem VO.lt(x:VO b h a vs):a<h.objs.size:=by
 cases b with
 |true=>obtain⟨_,e,_⟩:=x;exact qB1 e
 |false=>obtain⟨_,e,_⟩:=x;exact qB1 e
theorem Vo(b:Bool)(c:A.handled=Z8)(j t:yR)(a:t≠j)(vs:yJ):
  lY prog w A j [j,t] vs.size (λi v=>vs[i]?=Z9 v) (λi h=>WM b h j t i/\VO b h t vs):=by
 cases b with
 |true=>exact uh c j t a vs
 |false=>exact Draws.list c j t a vs
section
variable {X:Cx}{pins:yD}{Z:St}{H:Hp}{s:yS}
theorem ZO.sqX(I:ZO X pins Z H s)(h:XM b X.K H a xs):∃c,ZJ xs c/\VO b s.heap a c.toArray:=by
 cases b with
 |true=>obtain⟨c,r,p,_⟩:=I.tuple h;exact⟨c,r,p⟩
 |false=>obtain⟨c,r,p,_⟩:=I.list h;exact⟨c,r,p.isList⟩
theorem ZO.sqX_inj(I:ZO X pins Z H s)(h:XM b X.K H a xs)(h':XM b X.K H a ys):xs=ys:=by
 cases b with
 |true=>exact I.tuple_inj h h'
 |false=>exact I.list_inj h h'
end
def U6(b:Bool)(K:yQ)(a:yR):It :=
  ⟨λi H=>∃c x,XM b K H a c/\c[i]?=Z9 x,
   λi H v d=>∃T,H T=Z8/\v=.ref T/\∀c x,XM b K H a c->c[i]?=Z9 x->d=ZF H T (.tup [.int i,x]),
   λi H=>∃c,XM b K H a c/\i=c.length⟩
theorem SL{P:yR->Prop}:∀x∈([]:yC),P x:=λ_ h=>by cases h
theorem XX{P:yR->Prop}{l:yC}(h:P a)(t:∀x∈l,P x):∀x∈a::l,P x:=by grind
theorem Ln{ws:yC}(h:∀b∈ws,X7 X a H b)(n:∀b∈ws,b≠T):∀b∈ws,X7 X a (ZF H T o) b:=λb c=>⟨by rw[Y2 (n b c)];exact(h b c).1,(h b c).2⟩
structure Qx(b:Bool)(e it a:yR)(i:Nat)(h:y9):Prop where
 a1:∃old,IsEnum h e it (i:Nat) old
 a2:WM b h it a i
theorem Qx.obj(st:Qx b e d a i h):∀c∈[e,d],∃o,h.get? c=Z9 o/\∀v,o.data≠.cell v:=by obtain⟨_,f⟩:=st.a1;exact XX ⟨_,f,λv q=>by cases q⟩ (XX st.a2.obj SL)
theorem Qx.ne(st:Qx b e d a i h){T:yR}(f:h.objs.size<=T):∀c∈[e,d],c≠T:=λc g=>by obtain⟨o,z,_⟩:=st.obj c g;exact qB9 (qB7 (qB1 z) f)
theorem ud{i:Nat}{Z:St}(I:ZO X c Z H s)(f:XM b X.K H a xs)(ex:xs[i]?=Z9 x)(d:List V)(e:V)(g:XM b X.K H a d)(h:d[i]?=Z9 e):ZF H T (.tup [.int i,x])=ZF H T (.tup [.int i,e]):=by
 have j:=I.sqX_inj f g
 simp_all
theorem uc{d:yB}{a:yJ}(e:d[i]?=Z9 c)(hv:∃b v,d.toArray[i]?=Z9 v/\a=#[.int (i:Nat) b,v]):∃b,a=#[.int (i:Nat) b,c]:=by simp_all
theorem FI{P:yX}{w:y8}{K:PySem.W.Frag}{q:yE}{k:Nat}{pos:Pos}(b:Bool)(e l a:yR)(g:e≠l)(p:e≠a)(t:a≠l):
  XD P w K (.Tuple q k pos) (U6 b K a) [e,l] e (Qx b e l a) where
 mem:=by simp
 obj:=λi h f=>f.obj
 keep:=λi h u ⟨⟨B,h1⟩,Y⟩ kk=>⟨⟨B,kk e (by simp) _ h1⟩,Y.keep λo z=>kk l (by simp) o z⟩
 item:=by intro X L J C m i j s Z H E I n f O;subst L J C;obtain⟨xs,x,v,ex⟩:=O;obtain⟨d,M,N⟩:=I.sqX v;obtain⟨u1,e1,Q⟩:=M.get ex;have D:=Vo (prog:=X.prog) (w:=X.w) (A:=X.A.in1) b (I.ok.hd m) l a t d.toArray;have W:=WalksT.enumerateD D e g (by simp[g,p]) (by simp);have hl1:=(qA5.mp e1).1;refine W.item i s _ _ (by omega) ⟨f.1,f.2,N⟩ λT U u R hv S G hM kk=>?_;obtain⟨tt,F⟩:=uc e1 hv;subst F;have V:=f.ne S;refine⟨_,rfl,W.go _ _ _ i T { s with heap:=u,toks:=R } _ _ hM λY r y=>?_⟩;have I1:ZO X j Z (ZF H T (.tup [.int i,x])) { s with heap:=u,toks:=R }:=I.yields n kk S (.cons ⟨tt,rfl⟩ (.cons Q .nil)) (by show 2<=yV;decide) G;exact⟨.ref T,_,I1.turnedL (Ln n V) y,rfl,⟨T,I.hok.fresh S,rfl,ud I v ex⟩,⟨r.1,r.2.1⟩,λc m=>by rw[Y2 (V c m)];exact(n c m).1⟩
 done:=by
  intro X L J C m i j s Z H E I n f O;subst L J C;obtain⟨xs,v,ei⟩:=O;obtain⟨d,M,N⟩:=I.sqX v;have D:=Vo (prog:=X.prog) (w:=X.w) (A:=X.A.in1) b (I.ok.hd m) l a t d.toArray;have W:=WalksT.enumerateD D e g (by simp[g,p]) (by simp);have en:i=d.toArray.size:=by rw[qB3,<- M.length];exact ei
  refine W.done s _ _ (by rw[<- en];exact⟨f.1,f.2,N⟩) λu R kk=>?_;exact⟨rfl,I.turnedL n kk⟩
 self:=λ_ _ _ _ _ f h=>let ⟨⟨_,z⟩,_⟩:=f;gX z h
section
variable {X:Cx}
def FH(K:yQ)(e:TA):TI:=fun Z H R=>e Z H λd b=>∃a,d=[.ref a]/\((∃c,Zp K b a c)/\R (U6 Z7 K a) b∨(∃c,YK K b a c)/\R (U6 Z5 K a) b)
theorem ub{v:yE}(V:Gl X "enumerate")(Q:X.mg "enumerate"=Z8)(W:PA X [a] J)(M:y3 [a] X.env=[(Z5,jW a X.env)]:=by rfl):
  PI X (.Tuple v k u) (.Call (.Name "enumerate" p) [a] [] pos) (FH X.K J):=by
 intro m s Z H R I h;refine Call_ (TC I V Q uq (jP (Zt (W pos m s Z H _ I h) λus d ⟨vs,F,j,E,P⟩=>?_) (by rw[M];rfl) (by rfl)));obtain⟨t,e,q⟩:=P;subst e;rcases q with⟨⟨Y,B⟩,q⟩| ⟨⟨Y,B⟩,q⟩
 .cases E with
  |cons r C =>
   cases C;cases r;obtain⟨i,K,w,S⟩:=j.tuple B;obtain⟨⟨c,A,O,N⟩,D,hc,n,y⟩:=id w
   replace y:O=.seq i.toArray n:=y
   subst hc y;have f:=qB1 D;refine dR PySem.F.called_enumerate (by decide) (PySem.F.typeCall_enumerate_1 _) (PySem.F.newCall_enumerate_1 _) (λobj=>PySem.F.args_object_init_2 obj _) PySem.F.entry_enumerate_new (ug t i.toArray n A N) ⟨D,?_⟩;have G:(d.heap.push { cls:=.type "tuple_iterator",data:=.fields #[.ref t,.int 0 0] }).objs.size=d.heap.objs.size+1:=qD5 ..;show _/\_;rw[G];have l:=by have z:=qA7 (d.heap.push { cls:=.type "tuple_iterator",data:=.fields #[.ref t,.int 0 0] }) (o:={ cls:=.type "enumerate",data:=.fields #[.none,.bool Z5,.ref d.heap.objs.size,wM 0,.none,.none] }) rfl;rw[G]at z;exact z
   refine⟨⟨_,l,rfl⟩,?_⟩;refine gX l ?_;have kp:∀b o,d.heap.get? b=Z9 o->((d.heap.push { cls:=.type "tuple_iterator",data:=.fields #[.ref t,.int 0 0] }).push { cls:=.type "enumerate",data:=.fields #[.none,.bool Z5,.ref d.heap.objs.size,wM 0,.none,.none] }).get? b=Z9 o:=λb o x=>qA0 _ (qA0 _ x);refine⟨_,_,_,_,F,rfl,j.kept (t':=d.toks) kp,FI Z7 (d.heap.objs.size+1) d.heap.objs.size t (qQ4 _) (qG7 (qD7 f)) (qB9 f),⟨⟨_,l⟩,⟨_,qA0 _ (qA7 _ rfl),rfl,rfl⟩⟩,λb U=>?_,q⟩;have g:d.heap.objs.size<=b:=by
    grind
   exact j.fpOk g (j.hok.fresh g)
 .cases E with
  |cons r C =>
   cases C;cases r;obtain⟨i,K,w,S⟩:=j.list B;have f:t<d.heap.objs.size:=by obtain⟨_,e,_⟩:=w.isList;exact qB1 e
   refine call_enumerate_list w.isList λh' l T L hk=>?_;refine gX l ?_;refine⟨_,_,_,_,F,rfl,j.kept (t':=d.toks) hk,FI Z5 (d.heap.objs.size+1) d.heap.objs.size t (qQ4 _) (qG7 (qD7 f)) (qB9 f),⟨⟨_,l⟩,T⟩,λb U=>?_,q⟩;have g:d.heap.objs.size<=b:=by
    grind
   exact j.fpOk g (j.hok.fresh g)
end
section
variable {X:Cx}
theorem FG{h:y9}:∀{a:List vF}{us:yB}{c:yC}{i:Nat}{u:yT},ReadsAll h us a c->us[i]?=Z9 u->∃d bs,a[i]?=Z9 d/\Reads h u d bs
 |_,_,_,i,u,.nil,e=>by simp at e
 |_,_,_,0,u,.cons r b,e=>by simp at e;subst e;exact⟨_,_,rfl,r⟩
 |_,_,_,i+1,u,.cons r b,e=>by obtain⟨d,bs,f,g⟩:=FG b e;exact⟨d,bs,by exact f,g⟩
open Classical in
def We(h:y9)(a:vF)(y:yT):Bool:=decide (∃d b,Reads h y d b/\d.canLay0=Z7/\PyData.eqv d a=Z7)
theorem FF{b:yC}(r:Reads h y d b)(c:d.canLay0=Z7):We h dx y=PyData.eqv d dx:=by
 classical
 cases q:PyData.eqv d dx with
 |true=>exact decide_eq_true ⟨d,b,r,c,q⟩
 |false =>
  refine decide_eq_false ?_;rintro⟨e,a,f,i,g⟩;have:=SeqAt.Reads.unique d e y b a c r f
  simp_all
end
structure Om(z TI TO i1 i2:yR)(f1 f2:yC):Prop where
 TIz:TI≠z
 TOz:TO≠z
 i1z:i1≠z
 i2z:i2≠z
 TITO:TI≠TO
 TIi1:TI≠i1
 TIi2:TI≠i2
 TOi1:TO≠i1
 TOi2:TO≠i2
 i12:i1≠i2
 z1:z∉f1
 z2:z∉f2
 O1:TO∉f1
 O2:TO∉f2
 j1:i2∉f1
 j2:i1∉f2
section
variable {prog:yX}{w:y8}{A:y7}{E:yL}{s:yS}
variable {z TI TO i1 i2:yR}{f1 f2:yC}{n1 n2 k:Nat}{P1 P2:Nat->yT->Prop}{S1 S2:Nat->y9->Prop}
theorem Draws.sb{a:yC}{St:Nat->y9->Prop}(D:lY prog w A j a n P St)(st:St i h)(sb:qE3 c h h')(f:c∉a):St i h' :=
 D.frame _ _ _ st λb d o e=>sb.extBut b o (λq=>f (q▸d)) e
theorem FE(hz:fK s.heap z TI TO .none)(R:fP s.heap TI (.ref i1) (.ref i2))(X:fP s.heap TO a b)(g:A.handled=Z8)
  (p:∀A:y7,A.handled=Z8->lY prog w A i1 f1 n1 P1 S1) (t:∀A:y7,A.handled=Z8->lY prog w A i2 f2 n2 P2 S2) (d:Om z TI TO i1 i2 f1 f2) (h1:S1 k s.heap) (h2:S2 k s.heap)
  (hQ:k<n1->k<n2->∀x y h' tk,P1 k x->P2 k y->fK h' z TI TO (wM s.heap.objs.size)->fP h' TO x y->S1 (k+1) h'->S2 (k+1) h'->fP h' s.heap.objs.size x y->h'.objs.size=s.heap.objs.size+1 ->
   (∀c o,c≠z->c≠TO->c≠i1->c≠i2->s.heap.get? c=Z9 o->h'.get? c=Z9 o)->Q (.done (.ret (.ref s.heap.objs.size))) { s with heap:=h',toks:=tk })
  (hE:(k=n1∨k=n2)->∀h' e tk,(∀c o,c≠z->c≠TO->c≠i1->c≠i2->s.heap.get? c=Z9 o->h'.get? c=Z9 o)->(∃o,h'.get? e=Z9 o/\o.cls=.type "StopIteration")->E (.ref e) { s with heap:=h',toks:=tk })
  (U:k<=n1) (P:k<=n2):y2 (yW prog w) A (Builtin.«zip.__next__» ⟨[.ref z],[]⟩) Q E s:=by
 show y2 _ _ (field (.ref z) 2 >>= _) _ _ _;refine yO (jV hz rfl (x:=.bool Z5) rfl ?_);refine yO (jV hz rfl (x:=.ref TI) rfl ?_);refine yO (jS R rfl ?_);refine yO ?_;refine yO (jV hz rfl (x:=.none) rfl (yP ?_));refine yO (vR ?_);refine yO (jV hz rfl (x:=.ref TO) rfl ?_);refine yO (jL hz (by simp) λha L u=>?_)
 replace L:fK ha z TI TO .ellipsis:=L
 have G:=Draws.sb (p A g) h1 u d.z1;have s2a:=Draws.sb (t A g) h2 u d.z2;have oa:=u.extBut _ _ d.TOz X;refine yO ?_;simp only[qQ5,qR4,qJ4,qR6];refine yO (yO (fU ?_));by_cases l1:k<n1
 .refine yO ((p _ g).item k _ _ _ l1 G λx N tb px T sb=>yP ?_);have ob:=sb.extBut _ _ d.TOi1 oa;have S:=Draws.sb (t A g) s2a sb d.j2;have zb:=sb.extBut _ _ d.i1z.symm L;refine yO (jS ob rfl ?_);refine yO (mN ob λhc oc B=>?_);have s1c:=Draws.sb (p A g) T B d.O1;have J:=Draws.sb (t A g) S B d.O2;have zc:=B.extBut _ _ d.TOz.symm zb;refine yO (gY (yP ?_));refine yO (yO (fU ?_));by_cases l2:k<n2
  .refine yO ((t _ g).item k _ _ _ l2 J λy W td py V l=>yP ?_);have od:fP W TO x b:=l.extBut _ _ d.TOi2 oc;have s1d:=Draws.sb (p A g) s1c l d.j1;have r:=l.extBut _ _ d.i2z.symm zc;refine yO (jS od rfl ?_);refine yO (mN od λi m H=>?_)
   replace m:fP i TO x y:=m
   have s1e:=Draws.sb (p A g) s1d H d.O1;have Y:=Draws.sb (t A g) V H d.O2;have ze:=H.extBut _ _ d.TOz.symm r;refine yO (gY (yP (yP ?_)));refine yO (jS m rfl ?_);refine yO (wpAny_newTuple ?_);have I:i.objs.size=s.heap.objs.size:=by rw[H.1,l.1,B.1,sb.1,u.1]
   have kp:∀c o,c≠z->c≠TO->c≠i1->c≠i2->s.heap.get? c=Z9 o->i.get? c=Z9 o:=λc o h C n F e =>
    H.extBut _ _ C (l.extBut _ _ F (B.extBut _ _ C (sb.extBut _ _ n (u.extBut _ _ h e))))
   have D:=qB1 ze;refine yO ?_;have zf:fK (i.push { cls:=.type "tuple",data:=.seq #[x,y] }) z TI TO .ellipsis:=qA0 _ ze;refine yO (jL zf (by simp) λhg zg sg=>?_)
   replace zg:fK hg z TI TO (wM i.objs.size):=zg
   refine jL zg (by simp) λM O si=>?_
   replace O:fK M z TI TO (wM i.objs.size):=O
   have up:∀c o,c≠z->i.get? c=Z9 o->M.get? c=Z9 o:=λc o h e=>si.extBut _ _ h (sg.extBut _ _ h (qA0 _ e));have tz:=si.extBut _ _ (qG7 D) (sg.extBut _ _ (qG7 D) (qA7 _ rfl));have zz:M.objs.size=i.objs.size+1:=by rw[si.1,sg.1,qD5]
   have Z:=(p A g).frame _ _ _ s1e λb N o e=>up b o (λq=>d.z1 (q▸N)) e;have s2i:=(t A g).frame _ _ _ Y λb N o e=>up b o (λq=>d.z2 (q▸N)) e;rw[I]at O tz zz;refine yP ?_;rw[I];exact hQ l1 l2 x y M td px py O (up _ _ d.TOz m) Z s2i tz zz λc o h C n F e=>up c o h (kp c o h C n F e)
  .have e2:=qJ5 P (qH8 l2);refine yO ((t _ g).done _ _ _ (e2▸J) λW e l i=>?_);obtain⟨m,f,j⟩:=i;have r:=l _ _ d.i2z.symm zc;have v:e≠z:=λq=>by subst q;rw[r]at f;cases f;simp at j
   refine jL r (by simp) λhf _ K=>hE (.inr e2) hf e tb (λc o h C n F q=>K.extBut _ _ h (l _ _ F (B.extBut _ _ C (sb.extBut _ _ n (u.extBut _ _ h q))))) ⟨m,K.extBut _ _ v f,j⟩
 .have e1:=qJ5 U (qH8 l1);refine yO ((p _ g).done _ _ _ (e1▸G) λW e l i=>?_);obtain⟨m,f,j⟩:=i;have r:=l _ _ d.i1z.symm L;have v:e≠z:=λq=>by subst q;rw[r]at f;cases f;simp at j
  exact jL r (by simp) λhf _ K=>hE (.inl e1) hf e s.toks (λc o h _ n _ q=>K.extBut _ _ h (l _ _ n (u.extBut _ _ h q))) ⟨m,K.extBut _ _ v f,j⟩
theorem WalksT.zipD(p:A.handled=Z8)(F:∀A:y7,A.handled=Z8->lY prog w A i1 f1 n1 P1 S1)(D:∀A:y7,A.handled=Z8->lY prog w A i2 f2 n2 P2 S2)(m:Om z TI TO i1 i2 f1 f2)(R:i1∈f1)(L:i2∈f2):
  WalksT prog w A z (z::TI::TO::f1++f2) [z,TO,i1,i2] (min n1 n2) (λi C=>∃x y,P1 i x/\P2 i y/\C=#[x,y])
   (λi h=>fK h z TI TO .none/\fP h TI (.ref i1) (.ref i2)/\(∃a b,fP h TO a b)/\S1 i h/\S2 i h)
   (λi T h=>fK h z TI TO (wM T)/\fP h TI (.ref i1) (.ref i2)/\(∃a b,fP h TO a b)/\S1 (i+1) h/\S2 (i+1) h/\T≠z/\T≠TO/\T≠i1/\T≠i2) where
 sub:=λc g=>by simp at g ⊢;rcases g with rfl|rfl|rfl|rfl<;>simp[R,L]
 frame:=λi h B j hk=>by obtain⟨n,f,⟨a,b,d⟩,r,t⟩:=j;exact⟨hk z (by simp) _ n,hk TI (by simp) _ f,⟨a,b,hk TO (by simp) _ d⟩,(F A p).frame _ _ _ r λb H o e=>hk b (by simp[H]) o e,(D A p).frame _ _ _ t λb H o e=>hk b (by simp[H]) o e⟩
 item:=λi s Q E hi j v=>by
  obtain⟨n,f,⟨a,b,d⟩,r,t⟩:=j;have u:s.TypeIs (.ref z) "zip":=⟨_,n,rfl⟩
  have lt:∀{c o},s.heap.get? c=Z9 o->s.heap.objs.size≠c:=λe=>qG7 (qB1 e);refine yO (vI (jD u vC
   (jE vC u fQ (FE n f d p F D m r t (λ_ _ x y B K N Y X O P a4 W a6 hk=>⟨_,rfl,yP ?_⟩) (λq=>by lia) (by lia) (by lia)) (fF _))))
  refine v s.heap.objs.size #[x,y] B K ⟨x,y,N,Y,rfl⟩ (qA6 _) ⟨_,W,rfl,_,rfl⟩ ⟨X,hk _ _ m.TIz m.TITO m.TIi1 m.TIi2 f,⟨_,_,O⟩,P,a4,lt n,lt d,?_,?_⟩
   λc o g e=>hk c o (λx=>g (by simp[x])) (λx=>g (by simp[x])) (λx=>g (by simp[x])) (λx=>g (by simp[x])) e
  .obtain⟨_,e⟩:=(F A p).live _ _ r;exact lt e
  .obtain⟨_,e⟩:=(D A p).live _ _ t;exact lt e
 go:=λJ k pos i T s Q E G v=>by obtain⟨n,f,⟨a,b,d⟩,r,t,_⟩:=G;refine gP n λB I l=>v B ⟨I,l.extBut _ _ m.TIz f,⟨a,b,l.extBut _ _ m.TOz d⟩,Draws.sb (F A p) r l m.z1,Draws.sb (D A p) t l m.z2⟩ λc o g e=>l.extBut _ _ (λx=>g (by simp[x])) e
 apart:=λi T h G u=>by
  obtain⟨_,_,_,_,_,t1,M,U,V⟩:=G;simp at u;rcases u with rfl|rfl|rfl|rfl
  .exact t1 rfl
  .exact M rfl
  .exact U rfl
  .exact V rfl
 done:=λs Q E j v=>by
  obtain⟨n,f,⟨a,b,d⟩,r,t⟩:=j;have u:s.TypeIs (.ref z) "zip":=⟨_,n,rfl⟩
  refine yO (vI (jD u vC
   (jE vC u fQ (FE n f d p F D m r t (λq1 q2=>by lia) (λ_ B e K hk S=>?_) (by lia) (by lia)) (fF _))))
  obtain⟨o,Z,g⟩:=S;refine yO (wK ⟨o,Z,g⟩ mO ?_);exact yP (v _ _ λc o g e=>hk c o (λx=>g (by simp[x])) (λx=>g (by simp[x])) (λx=>g (by simp[x])) (λx=>g (by simp[x])) e)
 self:=λi s Q E j v=>vW j.1 v
end
def Xv(b:Bool)(l:yR):Obj:={ cls:=.type (if b then "tuple_iterator" else "list_iterator"),data:=.fields #[.ref l,.int 0 0] }
abbrev Ol(h:y9)(b1 a:Bool)(b c:yR):Heap:=(h.push (Xv b1 b)).push (Xv a c)
abbrev Oj(h:y9)(b1 b:Bool)(a c:yR):Heap:=(Ol h b1 b a c).push { cls:=.type "tuple",data:=.seq #[.ref h.objs.size,.ref (h.push (Xv b1 a)).objs.size] }
abbrev Tu(h:y9)(b1 a:Bool)(b c:yR):Heap:=(Oj h b1 a b c).push { cls:=.type "tuple",data:=.seq #[.none,.none] }
abbrev UJ(h:y9)(b1 a:Bool)(b c:yR):Heap:=(Tu h b1 a b c).push { cls:=.type "zip",data:=.fields #[.none,.bool Z5,.bool Z5,.ref (Ol h b1 a b c).objs.size,.ref (Oj h b1 a b c).objs.size] }
theorem ua(a b:yR)(xs ys:yJ):
  uJ (Builtin.«zip.__new__» ⟨[.type "zip",.ref a,.ref b],[]⟩) (λ_ R s=>s.heap.IsTuple a xs/\s.heap.IsTuple b ys /\
   R (.ok (.ret (.ref (Tu s.heap Z7 Z7 a b).objs.size))) { s with heap:=UJ s.heap Z7 Z7 a b }) :=
 .of_wp λk w A R s h=>by
  obtain⟨l,g,d,m,n⟩:=s;obtain⟨f,c,h⟩:=h;have j:=uS;have i:=f;have e:qH0 (Shared.heap ⟨l.push { cls:=.type "tuple_iterator",data:=.fields #[.ref a,.int 0 0] },g,d,m,n⟩) b ys:=qH0.push c _
  wp_walk using jK i,jK e
  exact⟨_,rfl,h⟩
theorem t9(a b:yR)(xs ys:yJ):
  uJ (Builtin.«zip.__new__» ⟨[.type "zip",.ref a,.ref b],[]⟩) (λ_ R s=>s.heap.IsTuple a xs/\s.heap.IsList b ys /\
   R (.ok (.ret (.ref (Tu s.heap Z7 Z5 a b).objs.size))) { s with heap:=UJ s.heap Z7 Z5 a b }) :=
 .of_wp λk w A R s h=>by
  obtain⟨l,g,d,m,n⟩:=s;obtain⟨f,c,h⟩:=h;have j:=uS;have i:=f;have e:qL1 (Shared.heap ⟨l.push { cls:=.type "tuple_iterator",data:=.fields #[.ref a,.int 0 0] },g,d,m,n⟩) b ys:=qL1.push c _
  wp_walk using jK i,jQ e
  exact⟨_,rfl,h⟩
theorem t8(a b:yR)(xs ys:yJ):
  uJ (Builtin.«zip.__new__» ⟨[.type "zip",.ref a,.ref b],[]⟩) (λ_ R s=>s.heap.IsList a xs/\s.heap.IsTuple b ys /\
   R (.ok (.ret (.ref (Tu s.heap Z5 Z7 a b).objs.size))) { s with heap:=UJ s.heap Z5 Z7 a b }) :=
 .of_wp λk w A R s h=>by
  obtain⟨l,g,d,m,n⟩:=s;obtain⟨f,c,h⟩:=h;have j:=uS;have i:=f;have e:qH0 (Shared.heap ⟨l.push { cls:=.type "list_iterator",data:=.fields #[.ref a,.int 0 0] },g,d,m,n⟩) b ys:=qH0.push c _
  wp_walk using jQ i,jK e
  exact⟨_,rfl,h⟩
theorem t7(a b:yR)(xs ys:yJ):
  uJ (Builtin.«zip.__new__» ⟨[.type "zip",.ref a,.ref b],[]⟩) (λ_ R s=>s.heap.IsList a xs/\s.heap.IsList b ys /\
   R (.ok (.ret (.ref (Tu s.heap Z5 Z5 a b).objs.size))) { s with heap:=UJ s.heap Z5 Z5 a b }) :=
 .of_wp λk w A R s h=>by
  obtain⟨l,g,d,m,n⟩:=s;obtain⟨f,c,h⟩:=h;have j:=uS;have i:=f;have e:qL1 (Shared.heap ⟨l.push { cls:=.type "list_iterator",data:=.fields #[.ref a,.int 0 0] },g,d,m,n⟩) b ys:=qL1.push c _
  wp_walk using jQ i,jQ e
  exact⟨_,rfl,h⟩
theorem t5(b1 c:Bool)(a b:yR)(xs ys:yJ):
  uJ (Builtin.«zip.__new__» ⟨[.type "zip",.ref a,.ref b],[]⟩) (λ_ R s=>VO b1 s.heap a xs/\VO c s.heap b ys /\
   R (.ok (.ret (.ref (Tu s.heap b1 c a b).objs.size))) { s with heap:=UJ s.heap b1 c a b }):=by
 cases b1 with
 |true=>cases c with
  |true=>exact ua a b xs ys
  |false=>exact t9 a b xs ys
 |false=>cases c with
  |true=>exact t8 a b xs ys
  |false=>exact t7 a b xs ys
theorem Qw(e:h.get? j=Z9 (Xv b l)):WM b h j l 0:=by
 cases b with
 |true=>exact⟨_,e,rfl,rfl⟩
 |false=>exact⟨_,e,rfl,rfl⟩
theorem Qv(b:Bool)(l:yR):(Xv b l).isFreed=Z5:=by cases b<;>rfl
section
variable {prog:yX}{w:y8}{A:y7}{E:yL}{s:yS}
theorem t4{Q:yL}(g:VO b1 s.heap a xs)(i:VO d s.heap b ys)
  (h:∀h',fK h' (s.heap.objs.size+4) (s.heap.objs.size+2) (s.heap.objs.size+3) .none->fP h' (s.heap.objs.size+2) (.ref s.heap.objs.size) (.ref (s.heap.objs.size+1)) ->
   fP h' (s.heap.objs.size+3) .none .none->WM b1 h' s.heap.objs.size a 0->WM d h' (s.heap.objs.size+1) b 0 ->
   (∀c o,s.heap.get? c=Z9 o->h'.get? c=Z9 o)->Q (.ref (s.heap.objs.size+4)) { s with heap:=h' }) :
  y2 (yW prog w) A (mY (.type "zip") [.ref a,.ref b]) Q E s:=by
 refine dR F.called_zip (by decide) (F.typeCall_zip_2 _ _) (F.newCall_zip_2 _ _) (λobj=>F.args_object_init_3 obj _ _) F.entry_zip_new (t5 b1 d a b xs ys) ⟨g,i,?_⟩;have j:(s.heap.push (Xv b1 a)).objs.size=s.heap.objs.size+1:=qD5 ..;have k:(Ol s.heap b1 d a b).objs.size=s.heap.objs.size+2:=by rw[qD5,j]
 have f:(Oj s.heap b1 d a b).objs.size=s.heap.objs.size+3:=by rw[qD5,k]
 have n:(Tu s.heap b1 d a b).objs.size=s.heap.objs.size+4:=by rw[qD5,f]
 have e:(UJ s.heap b1 d a b).get? (Tu s.heap b1 d a b).objs.size=Z9 _:=qA7 _ rfl;have m:(UJ s.heap b1 d a b).get? (Oj s.heap b1 d a b).objs.size=Z9 _:=qA0 _ (qA7 _ rfl);have l:(UJ s.heap b1 d a b).get? (Ol s.heap b1 d a b).objs.size=Z9 _:=qA0 _ (qA0 _ (qA7 _ rfl));have p:(UJ s.heap b1 d a b).get? (s.heap.push (Xv b1 a)).objs.size=Z9 (Xv d b):=qA0 _ (qA0 _ (qA0 _ (qA7 _ (Qv _ _))));have q:(UJ s.heap b1 d a b).get? s.heap.objs.size=Z9 (Xv b1 a):=qA0 _ (qA0 _ (qA0 _ (qA0 _ (qA7 _ (Qv _ _)))));rw[k,f,n]at e;rw[j,k]at l;rw[f]at m;rw[j]at p;rw[n];exact⟨⟨_,e,rfl⟩,h _ e l m (Qw q) (Qw p) λc o x =>
  qA0 _ (qA0 _ (qA0 _ (qA0 _ (qA0 _ x))))⟩
end
theorem tZ(d:a<n)(c:b<n):Om (n+4) (n+2) (n+3) n (n+1) [n,a] [n+1,b]:=by constructor<;>(try simp only[qC0,qE0,or_false,not_or])<;>(try refine⟨?_,?_⟩)<;>(show ¬(_=_))<;>(simp only[yR]at *;lia)
inductive Qu(b1 b2:Bool)(K:yQ)(H:Hp)(a b:yR)(i:Nat):Prop
 |mk (xs ys:List V) (x y:V) (q1:XM b1 K H a xs) (q2:XM b2 K H b ys) (ex:xs[i]?=Z9 x) (ey:ys[i]?=Z9 y)
inductive Lm(b1 b2:Bool)(K:yQ)(H:Hp)(a b:yR)(i:Nat):Prop
 |mk (xs ys:List V) (q1:XM b1 K H a xs) (q2:XM b2 K H b ys) (ei:i=min xs.length ys.length)
def SK(b1 c:Bool)(K:yQ)(a b:yR):It :=
  ⟨λi H=>Qu b1 c K H a b i,
   λi H v f=>∃T,H T=Z8/\v=.ref T/\∀e d x y,XM b1 K H a e->XM c K H b d->e[i]?=Z9 x->d[i]?=Z9 y->f=ZF H T (.tup [x,y]),
   λi H=>Lm b1 c K H a b i⟩
structure Qt(b1 b2:Bool)(z TI TO i1 i2 l1 l2:yR)(i:Nat)(h:y9):Prop where
 a1:fK h z TI TO .none
 a2:fP h TI (.ref i1) (.ref i2)
 a3:∃a b,fP h TO a b
 a4:WM b1 h i1 l1 i
 a5:WM b2 h i2 l2 i
section
variable {b1 b2:Bool}{z TI TO i1 i2 l1 l2:yR}{i:Nat}{h:y9}
theorem Qt.obj(st:Qt b1 b2 z TI TO i1 i2 l1 l2 i h):∀b∈[z,TI,TO,i1,i2],∃o,h.get? b=Z9 o/\∀v,o.data≠.cell v:=by obtain⟨_,_,a⟩:=st.a3;exact XX ⟨_,st.a1,λv q=>by cases q⟩ (XX ⟨_,st.a2,λv q=>by cases q⟩ (XX ⟨_,a,λv q=>by cases q⟩ (XX st.a4.obj (XX st.a5.obj SL))))
theorem Qt.ne(st:Qt b1 b2 z TI TO i1 i2 l1 l2 i h){T:yR}(c:h.objs.size<=T):∀b∈[z,TI,TO,i1,i2],b≠T:=λb a=>by obtain⟨o,e,_⟩:=st.obj b a;exact qB9 (qB7 (qB1 e) c)
theorem SJ:∀b∈[z,TO,i1,i2],b∈[z,TI,TO,i1,i2]:=by simp_all
inductive tY(b1 b2:Bool)(X:Cx)(s:yS)(H:Hp)(l1 l2:yR)(i:Nat):Prop
 |mk (xs ys:List V) (x y:V) (t1 t2:yB) (u1 u2:yT) (q1:XM b1 X.K H l1 xs) (q2:XM b2 X.K H l2 ys) (ex:xs[i]?=Z9 x) (ey:ys[i]?=Z9 y) (p1:VO b1 s.heap l1 t1.toArray) (p2:VO b2 s.heap l2 t2.toArray)
  (e1:t1[i]?=Z9 u1) (e2:t2[i]?=Z9 u2) (r1:ZG x u1) (r2:ZG y u2)
variable {X:Cx}{pins:yD}{Z:St}{H:Hp}{s:yS}
theorem tX(I:ZO X pins Z H s)(q:Qu b1 b2 X.K H l1 l2 i):tY b1 b2 X s H l1 l2 i:=by obtain⟨t,l,x,y,f,e,ex,g⟩:=q;obtain⟨b,o,p⟩:=I.sqX f;obtain⟨a,n,k⟩:=I.sqX e;obtain⟨m,u,d⟩:=o.get ex;obtain⟨r,j,c⟩:=n.get g;exact⟨t,l,x,y,b,a,m,r,f,e,ex,g,p,k,u,j,d,c⟩
theorem tW{f d:yB}{a:yJ}(k:f[i]?=Z9 e)(j:d[i]?=Z9 c)(hv:∃b g,f.toArray[i]?=Z9 b/\d.toArray[i]?=Z9 g/\a=#[b,g]):a=#[e,c]:=by simp_all
theorem tV(I:ZO X pins Z H s)(j:XM b1 X.K H l1 xs)(f:XM b2 X.K H l2 ys)(ex:xs[i]?=Z9 x)(n:ys[i]?=Z9 y)(b a:List V)(c d:V)(e:XM b1 X.K H l1 b)(g:XM b2 X.K H l2 a)(o:b[i]?=Z9 c)(k:a[i]?=Z9 d):ZF H T (.tup [x,y])=ZF H T (.tup [c,d]):=by
 have l:=I.sqX_inj j e;have m:=I.sqX_inj f g
 simp_all
end
theorem tU{P:yX}{w:y8}{K:PySem.W.Frag}{r:yE}{k:Nat}{pos:Pos}(b1 u:Bool)(z TI TO g l p q:yR)(D:Om z TI TO g l [g,p] [l,q])(d1:p≠g)(d2:q≠l):
  XD P w K (.Tuple r k pos) (SK b1 u K p q) [z,TI,TO,g,l] z (Qt b1 u z TI TO g l p q) where
 mem:=by simp
 obj:=λi h a=>a.obj
 keep:=λi h v ⟨a1,a2,⟨x,y,a3⟩,a4,a5⟩ kk =>
  ⟨kk z (by simp) _ a1,kk TI (by simp) _ a2,⟨x,y,kk TO (by simp) _ a3⟩,a4.keep λo e=>kk g (by simp) o e,a5.keep λo e=>kk l (by simp) o e⟩
 item:=by intro X Q O L S i j s Z H E I B a R;subst Q O L;obtain⟨xs,ys,x,y,c,d,u1,u2,Y,U,ex,ey,F,J,e1,e2,ru1,V⟩:=tX I R;have W:=WalksT.zipD (prog:=X.prog) (w:=X.w) (I.ok.hd S) (λA n=>Vo b1 n g p d1 c.toArray) (λA n=>Vo u n l q d2 d.toArray) D (by simp) (by simp);have hl1:=(qA5.mp e1).1;have hl2:=(qA5.mp e2).1;have t:=λb m=>B b (SJ b m);refine W.item i s _ _ (by simp only[qB3];lia) ⟨a.a1,a.a2,a.a3,⟨a.a4,F⟩,a.a5,J⟩ λT vals v tk hv G M hM kk=>?_;have C:=tW e1 e2 hv;subst C;have nT:=a.ne G;refine⟨_,rfl,W.go _ _ _ i T { s with heap:=v,toks:=tk } _ _ hM λh2 f N=>?_⟩;have I1:ZO X j Z (ZF H T (.tup [x,y])) { s with heap:=v,toks:=tk }:=I.yields t kk G (.cons ru1 (.cons V .nil)) (by show 2<=yV;decide) M;have I2:=I1.turnedL (tk:=tk) (Ln t λb m=>nT b (SJ b m)) N;exact⟨.ref T,_,I2,rfl,⟨T,I.hok.fresh G,rfl,tV I Y U ex ey⟩,⟨f.1,f.2.1,f.2.2.1,f.2.2.2.1.1,f.2.2.2.2.1⟩,λb m=>by rw[Y2 (nT b m)];exact(B b m).1⟩
 done:=by
  intro X Q O L S i j s Z H E I B a R;subst Q O L;obtain⟨xs,ys,Y,U,ei⟩:=R;obtain⟨c,r1,F⟩:=I.sqX Y;obtain⟨d,r2,J⟩:=I.sqX U;have W:=WalksT.zipD (prog:=X.prog) (w:=X.w) (I.ok.hd S) (λA n=>Vo b1 n g p d1 c.toArray) (λA n=>Vo u n l q d2 d.toArray) D (by simp) (by simp);have en:i=min c.toArray.size d.toArray.size:=by simp only[qB3,<- r1.length,<- r2.length];exact ei
  refine W.done s _ _ (by rw[<- en];exact⟨a.a1,a.a2,a.a3,⟨a.a4,F⟩,a.a5,J⟩) λv tk kk=>?_;exact⟨rfl,I.turnedL (λb m=>B b (SJ b m)) kk⟩
 self:=λ_ _ _ _ _ a h=>vW a.a1 h
section
variable {X:Cx}
def FD(K:yQ)(g:TA):TI:=fun Z H R=>g Z H λf c=>∃a b b1 d,f=[.ref a,.ref b]/\(∃h,XM b1 K c a h)/\(∃e,XM d K c b e)/\R (SK b1 d K a b) c
theorem tT{g:yE}{k:Nat}{d:Pos}{p pos:Pos}(K:Gl X "zip")(C:X.mg "zip"=Z8)(M:PA X [a,b] x)(A:y3 [a,b] X.env=[(Z5,jW a X.env),(Z5,jW b X.env)]:=by rfl)(j:y3 [b] X.env=[(Z5,jW b X.env)]:=by rfl):
  PI X (.Tuple g k d) (.Call (.Name "zip" p) [a,b] [] pos) (FD X.K x):=by
 intro c s Z H R I h;refine Call_ (TC I K C FM (jP (Zt (M pos c s Z H _ I h) λU u ⟨V,F,f,D,E⟩=>?_) (by rw[A,j]) (by rw[j];rfl)));obtain⟨N,O,b1,G,e,⟨Y,J⟩,⟨S,L⟩,q⟩:=E;subst e;cases D with
 |cons r t =>
  cases t with
  |cons z t =>
   cases t;cases r;cases z;obtain⟨y,P,o⟩:=f.sqX J;obtain⟨w,T,l⟩:=f.sqX L;refine t4 o l λQ v n m hi1 hi2 hk=>?_;refine vW v ?_;have B:=f.kept (t':=u.toks) hk;refine⟨_,_,_,_,F,rfl,B,tU b1 G _ _ _ _ _ N O (tZ o.lt l.lt) (qB9 o.lt) (qB9 (qD7 l.lt)),⟨v,n,⟨_,_,m⟩,hi1,hi2⟩,λb W=>?_,q⟩;have i:u.heap.objs.size<=b:=by
    grind
   exact f.fpOk i (f.hok.fresh i)
end
section
variable {X:Cx}{pins:yD}{Z:St}{H:Hp}{s:yS}{scope:vK}{N:yH}{C:yR}{ex:yC}
theorem tS{f:yE}(K:PG X (.Name J pos') go)(A:wW (.ListComp elt [⟨w,iter,f,0⟩] scope pos) (Z9 (.Name J pos')) a.line X.env=pure Z7)
  (u:RF X scope N k W) (hi:PI X w iter P)
  (hg:∀cl s H C ex,PG (WN X scope N cl s H C ex) w g) (E:∀cl s H C ex,SN (WN X scope N cl s H C ex) f tc) (D:∀cl s H C ex,PE (WN X scope N cl s H C ex) elt O)
  (hs:∀x,wE iter X.env x=pure x:=by intro _;rfl):PS X (.Assign [.Name J pos'] (.ListComp elt [⟨w,iter,f,0⟩] scope pos) a) (U8 (Lr P k W g tc O) go):=by
 intro c s Z H D0 I h;rw[exec_Assign_Name_used _ _ _ _ A];refine yO (fS (yO ?_));refine yO (jU (g9 rfl hs (FV λx hx=>I.ok.has x (u.free x hx)) u.kind u.names (Zt (hi c s Z H _ I h) λv s1 h1=>Zt h1 λitv M h2=>?_)) (λ_ s' hq=>yP (yP hq)) λ_ _ e=>e);obtain⟨it,fp,tn,JJ,H2,e,G,T,B,n,hW⟩:=h2;subst e;refine FR (Q:=λx H1=>go x Z H1 D0.nx) u G T B n hg E D hW λcl C V t l hDC i q=>?_;obtain⟨m,r,_⟩:=id i.loc;have F:V C=Z8:=i.free;have IA:=G.call' (s':=t) i.os i.base i.hok i.bare (λb d=>⟨(n b d).2.2.2.1,(n b d).2.1,(n b d).2.2.2.2.1,(n b d).2.2.2.2.2⟩);have S:∀{L:Hp},L C=Z8->∀b∈[C],X7 X c L b:=λr b d=>by
  have:=by simpa using d
  subst this;exact G.fpOk l r
 have R:∀b∈[C],∃o,t.heap.get? b=Z9 o/\∀v,o.data≠.cell v:=λb d=>by
  have:=by simpa using d
  subst this;obtain⟨o,_,_,ho,hd,_⟩:=id r;exact⟨o,ho,λv z=>by rw[hd]at z;cases z⟩
 have IB:=IA.pinned (S F) R;refine Zt (K _ t Z V (.ref M.heap.objs.size) (.ref M.heap.objs.size) _ IB rfl q) λ_ s6 ⟨Z6,H6,Y,q6⟩=>?_;obtain⟨oc,j,_⟩:=R C (by simp);have p:=Y.pin (C,oc) (qC7 _ (qC7 _ (QL (by simp) j)));refine⟨m,r.at' λo e=>?_,λh' y=>⟨Z6,H6,?_,q6⟩⟩
 .have U:t.heap.get? C=Z9 o:=e;rw[j]at U;cases U;exact p.1
 .exact Y.unpinned.turnedL (S p.2.1) λb o nb e=>y.extBut b o (by simpa using nb) e
end
section
variable {X:Cx}
open AutoSeq1 in
theorem tR(l:yR)(items:yJ)(n:Nat)(b:yR)(a:yJ)(f:Nat)(c:Option yR)(g:Array (yF))(m:¬(!items.isEmpty&&Builtin.List.listTooLong (items.size+a.size))=Z7)(i:items.size<=yV)(k:items.size+a.size<=yV+1):
  uJ (Builtin.«list.extend» ⟨[.ref l,.ref b],[]⟩) (λ_ R s=>s.heap.get? l=Z9 { cls:=.type "list",dict:=Z8,data:=.seq items n,slots:=#[] }/\s.heap.get? b=Z9 { cls:=.type "tuple",dict:=c,data:=.seq a f,slots:=g } /\
   R (.ok (.ret Value.none)) { s with heap:=s.heap.update l (vU λx=>x++a),toks:=s.toks }) :=
 .of_wp λd w A R s h=>by
  obtain⟨e,j,h⟩:=h;have hz:(items++a).size<=yV+1:=by rw[vA];exact k
  wp_walk using(wpAny_updateSeq e rfl (hz:=i) (_hz':=hz)),wS e,wS j
  exact⟨_,rfl,h⟩
def tQ(K:yQ):V->List V->Hp->VK->Prop:=λx d H Q=>∃l b c a,x=.ref l/\d=[.ref b]/\H l=Z9 (.lst c)/\Zp K H b a/\c.length+a.length<=yV/\Q .non (ZF H l (.lst (c++a)))
theorem tP:UL X "list.extend" (tQ X.K):=by
 intro k s Z H x G v J Q I A B h;obtain⟨l,b,L,E,rfl,rfl,m,C,K,q⟩:=h;cases A;obtain⟨u,rfl,t⟩:=B.one;cases t;obtain⟨z,d,n,r,F,e⟩:=I.lstM m;obtain⟨a,o,⟨⟨c,j,y,w⟩,p,D,n2,i⟩,_⟩:=I.tuple C
 replace i:y=.seq a.toArray n2:=i
 subst D i;have M:=o.length;have g:d.toArray.size+a.toArray.size<=sizeLine:=by rw[qB3,qB3];lia
 have f:¬(!d.toArray.isEmpty&&Builtin.List.listTooLong (d.toArray.size+a.toArray.size))=Z7:=by rw[F5 g,qR5];exact qB0
 refine vL lA ⟨_,e,rfl⟩ PySem.F.entry_list_extend (PySem.F.args_list_extend_2 _ _)
  (tR l d.toArray n b a.toArray n2 j w f (by lia) (by lia)) ⟨e,p,?_⟩
 refine⟨.non,_,I.lset (its':=d++a) m e (by simp) (r.append o) ?_,rfl,q⟩;rw[qB5]
 lia
end
abbrev V1(h:y9)(T:yR)(a b c:yT):Prop:=h.get? T=Z9 { cls:=.type "tuple",data:=.seq #[a,b,c] }
structure Ul(z TI TO i1 i2 i3:yR)(f1 f2 f3:yC):Prop where
 TIz:TI≠z
 TOz:TO≠z
 i1z:i1≠z
 i2z:i2≠z
 i3z:i3≠z
 TITO:TI≠TO
 TIi1:TI≠i1
 TIi2:TI≠i2
 TIi3:TI≠i3
 TOi1:TO≠i1
 TOi2:TO≠i2
 TOi3:TO≠i3
 z1:z∉f1
 z2:z∉f2
 z3:z∉f3
 O1:TO∉f1
 O2:TO∉f2
 O3:TO∉f3
 a12:i1∉f2
 a13:i1∉f3
 a21:i2∉f1
 a23:i2∉f3
 a31:i3∉f1
 a32:i3∉f2
section
variable {prog:yX}{w:y8}{A:y7}{E:yL}{s:yS}
variable {z TI TO i1 i2 i3:yR}{f1 f2 f3:yC}{n1 n2 n3 k:Nat}{P1 P2 P3:Nat->yT->Prop}{S1 S2 S3:Nat->y9->Prop}
theorem Lk(d:V1 s.heap T a b c)
  (h:∀h',h'.get? T=Z9 { cls:=.type "tuple",data:=.seq ((#[a,b,c]:yJ).setIfInBounds k x) }->qE3 T s.heap h'->Q () { s with heap:=h' }) :
  y2 (yW prog w) A (updateSeq T (·.setIfInBounds k x)) Q E s:=by refine wpAny_updateSeq d rfl (h _ ?_ (qE3.update ..));rw[qI4 _ d rfl];simp[vU]
abbrev Lj(z TO b d a:yR)(h h':y9):Prop:=∀c o,c≠z->c≠TO->c≠b->c≠d->c≠a->h.get? c=Z9 o->h'.get? c=Z9 o
theorem FC(hz:fK s.heap z TI TO .none)(Z:V1 s.heap TI (.ref i1) (.ref i2) (.ref i3))(hTO:V1 s.heap TO a b c)(f:A.handled=Z8)
  (C:∀A:y7,A.handled=Z8->lY prog w A i1 f1 n1 P1 S1) (D:∀A:y7,A.handled=Z8->lY prog w A i2 f2 n2 P2 S2) (B:∀A:y7,A.handled=Z8->lY prog w A i3 f3 n3 P3 S3) (d:Ul z TI TO i1 i2 i3 f1 f2 f3) (h1:S1 k s.heap) (h2:S2 k s.heap) (h3:S3 k s.heap)
  (hQ:k<n1->k<n2->k<n3->∀x y u h' tk,P1 k x->P2 k y->P3 k u->fK h' z TI TO (wM s.heap.objs.size)->V1 h' TO x y u->S1 (k+1) h'->S2 (k+1) h'->S3 (k+1) h'->V1 h' s.heap.objs.size x y u->h'.objs.size=s.heap.objs.size+1 ->
   Lj z TO i1 i2 i3 s.heap h'->Q (.done (.ret (.ref s.heap.objs.size))) { s with heap:=h',toks:=tk })
  (hE:(k=n1∨k=n2∨k=n3)->∀h' e tk,Lj z TO i1 i2 i3 s.heap h'->(∃o,h'.get? e=Z9 o/\o.cls=.type "StopIteration")->E (.ref e) { s with heap:=h',toks:=tk })
  (hk1:k<=n1) (Y:k<=n2) (hk3:k<=n3):y2 (yW prog w) A (Builtin.«zip.__next__» ⟨[.ref z],[]⟩) Q E s:=by
 show y2 _ _ (field (.ref z) 2 >>= _) _ _ _;refine yO (jV hz rfl (x:=.bool Z5) rfl ?_);refine yO (jV hz rfl (x:=.ref TI) rfl ?_);refine yO (jS Z rfl ?_);refine yO ?_;refine yO (jV hz rfl (x:=.none) rfl (yP ?_));refine yO (vR ?_);refine yO (jV hz rfl (x:=.ref TO) rfl ?_);refine yO (jL hz (by simp) λha za H=>?_);have O:=Draws.sb (C A f) h1 H d.z1;have s2a:=Draws.sb (D A f) h2 H d.z2;have s3a:=Draws.sb (B A f) h3 H d.z3;have oa:=H.extBut _ _ d.TOz hTO;refine yO ?_;simp only[qQ5,qR4,qJ4,qR6];refine yO (yO (fU ?_));by_cases l1:k<n1
 .refine yO ((C _ f).item k _ _ _ l1 O λx G tb px s1b sb=>yP ?_);have ob:=sb.extBut _ _ d.TOi1 oa;have s2b:=Draws.sb (D A f) s2a sb d.a12;have W:=Draws.sb (B A f) s3a sb d.a13;have zb:fK G z TI TO .ellipsis:=sb.extBut _ _ d.i1z.symm za;refine yO (jS ob rfl ?_);refine yO (Lk ob λhc oc L=>?_);have s1c:=Draws.sb (C A f) s1b L d.O1;have S:=Draws.sb (D A f) s2b L d.O2;have s3c:=Draws.sb (B A f) W L d.O3;have zc:=L.extBut _ _ d.TOz.symm zb;have kc:Lj z TO i1 i2 i3 s.heap hc:=λc o h n m p r e=>L.extBut _ _ n (sb.extBut _ _ m (H.extBut _ _ h e));have szc:hc.objs.size=s.heap.objs.size:=by rw[L.1,sb.1,H.1]
  refine yO (gY (yP ?_));refine yO (yO (fU ?_));by_cases l2:k<n2
  .refine yO ((D _ f).item k _ _ _ l2 S λy V td py s2d j=>yP ?_);have od:=j.extBut _ _ d.TOi2 oc;have s1d:=Draws.sb (C A f) s1c j d.a21;have s3d:=Draws.sb (B A f) s3c j d.a23;have v:=j.extBut _ _ d.i2z.symm zc;refine yO (jS od rfl ?_);refine yO (Lk od λI F J=>?_);have s1e:=Draws.sb (C A f) s1d J d.O1;have s2e:=Draws.sb (D A f) s2d J d.O2;have P:=Draws.sb (B A f) s3d J d.O3;have ze:=J.extBut _ _ d.TOz.symm v;have ke:=λc o h n m p r e=>J.extBut _ _ n (j.extBut _ _ p (kc c o h n m p r e));have sze:I.objs.size=s.heap.objs.size:=by rw[J.1,j.1,szc]
   refine yO (gY (yP ?_));refine yO (yO (fU ?_));by_cases X:k<n3
   .refine yO ((B _ f).item k _ _ _ X P λu M tf pu s3f l=>yP ?_);have T:=l.extBut _ _ d.TOi3 F;have s1f:=Draws.sb (C A f) s1e l d.a31;have s2f:=Draws.sb (D A f) s2e l d.a32;have zf:=l.extBut _ _ d.i3z.symm ze;refine yO (jS T rfl ?_);refine yO (Lk T λK U sg=>?_)
    replace U:V1 K TO x y u:=U
    have s1g:=Draws.sb (C A f) s1f sg d.O1;have s2g:=Draws.sb (D A f) s2f sg d.O2;have s3g:=Draws.sb (B A f) s3f sg d.O3;have zg:=sg.extBut _ _ d.TOz.symm zf;refine yO (gY (yP (yP ?_)));refine yO (jS U rfl ?_);have R:K.objs.size=s.heap.objs.size:=by rw[sg.1,l.1,sze]
    have kp:=λc o h n m p r e=>sg.extBut _ _ n (l.extBut _ _ r (ke c o h n m p r e));have N:=qB1 zg;show y2 _ _ (Builtin.SmallTypes.ownedTupleHandOut (.ref z) (.ref K.objs.size) >>= _) _ _ _;refine yO ?_;have zp:fK (K.push { cls:=.type "tuple",data:=.seq #[x,y,u] }) z TI TO .ellipsis:=qA0 _ zg;refine yO (jL zp (by simp) λhm zm sm=>?_);refine jL zm (by simp) λhi zi si=>?_;have up:∀c o,c≠z->K.get? c=Z9 o->hi.get? c=Z9 o:=λc o h e=>si.extBut _ _ h (sm.extBut _ _ h (qA0 _ e));have tz:=si.extBut _ _ (qG7 N) (sm.extBut _ _ (qG7 N) (qA7 _ rfl));have zz:hi.objs.size=K.objs.size+1:=by rw[si.1,sm.1,qD5]
    have s1i:=(C A f).frame _ _ _ s1g λb G o e=>up b o (λq=>d.z1 (q▸G)) e;have s2i:=(D A f).frame _ _ _ s2g λb G o e=>up b o (λq=>d.z2 (q▸G)) e;have s3i:=(B A f).frame _ _ _ s3g λb G o e=>up b o (λq=>d.z3 (q▸G)) e;rw[R]at zi tz zz;refine yP ?_;rw[R];exact hQ l1 l2 X x y u hi tf px py pu zi (up _ _ d.TOz U) s1i s2i s3i tz zz λc o h n m p r e=>up c o h (kp c o h n m p r e)
   .have e3:=qJ5 hk3 (qH8 X);refine yO ((B _ f).done _ _ _ (e3▸P) λV e j I=>?_);obtain⟨F,g,i⟩:=I;have v:=j _ _ d.i3z.symm ze;have t:e≠z:=λq=>by subst q;rw[v]at g;cases g;simp at i
    refine jL v (by simp) λM _ l=>hE (.inr (.inr e3)) M e td (λc o h n m p r q=>l.extBut _ _ h (j _ _ r (ke c o h n m p r q))) ⟨F,l.extBut _ _ t g,i⟩
  .have e2:=qJ5 Y (qH8 l2);refine yO ((D _ f).done _ _ _ (e2▸S) λV e j I=>?_);obtain⟨F,g,i⟩:=I;have v:=j _ _ d.i2z.symm zc;have t:e≠z:=λq=>by subst q;rw[v]at g;cases g;simp at i
   refine jL v (by simp) λM _ l=>hE (.inr (.inl e2)) M e tb (λc o h n m p r q=>l.extBut _ _ h (j _ _ p (kc c o h n m p r q))) ⟨F,l.extBut _ _ t g,i⟩
 .have e1:=qJ5 hk1 (qH8 l1);refine yO ((C _ f).done _ _ _ (e1▸O) λV e j I=>?_);obtain⟨F,g,i⟩:=I;have v:fK V z TI TO .ellipsis:=j _ _ d.i1z.symm za;have t:e≠z:=λq=>by subst q;rw[v]at g;cases g;simp at i
  exact jL v (by simp) λM _ l=>hE (.inl e1) M e s.toks (λc o h _ m _ _ q=>l.extBut _ _ h (j _ _ m (H.extBut _ _ h q))) ⟨F,l.extBut _ _ t g,i⟩
theorem WalksT.zipD3(n:A.handled=Z8)(I:∀A:y7,A.handled=Z8->lY prog w A i1 f1 n1 P1 S1)(H:∀A:y7,A.handled=Z8->lY prog w A i2 f2 n2 P2 S2)(D:∀A:y7,A.handled=Z8->lY prog w A i3 f3 n3 P3 S3)(m:Ul z TI TO i1 i2 i3 f1 f2 f3)(W:i1∈f1)(P:i2∈f2)(V:i3∈f3):
  WalksT prog w A z (z::TI::TO::f1++(f2++f3)) [z,TO,i1,i2,i3] (min n1 (min n2 n3)) (λi G=>∃x y u,P1 i x/\P2 i y/\P3 i u/\G=#[x,y,u])
   (λi h=>fK h z TI TO .none/\V1 h TI (.ref i1) (.ref i2) (.ref i3)/\(∃a b c,V1 h TO a b c)/\S1 i h/\S2 i h/\S3 i h)
   (λi T h=>fK h z TI TO (wM T)/\V1 h TI (.ref i1) (.ref i2) (.ref i3)/\(∃a b c,V1 h TO a b c)/\S1 (i+1) h/\S2 (i+1) h/\S3 (i+1) h/\T≠z/\T≠TO/\T≠i1/\T≠i2/\T≠i3) where
 sub:=λc d=>by simp at d ⊢;rcases d with rfl|rfl|rfl|rfl|rfl<;>simp[W,P,V]
 frame:=λi h F j hk=>by obtain⟨p,g,⟨a,b,c,f⟩,t,v,r⟩:=j;exact⟨hk z (by simp) _ p,hk TI (by simp) _ g,⟨a,b,c,hk TO (by simp) _ f⟩,(I A n).frame _ _ _ t λb J o e=>hk b (by simp[J]) o e,(H A n).frame _ _ _ v λb J o e=>hk b (by simp[J]) o e,(D A n).frame _ _ _ r λb J o e=>hk b (by simp[J]) o e⟩
 item:=λi s Q E hi j B=>by
  obtain⟨p,g,⟨a,b,c,f⟩,t,v,r⟩:=j;have C:s.TypeIs (.ref z) "zip":=⟨_,p,rfl⟩
  have lt:∀{c o},s.heap.get? c=Z9 o->s.heap.objs.size≠c:=λe=>qG7 (qB1 e);refine yO (vI (jD C vC
   (jE vC C fQ (FC p g f n I H D m t v r (λ_ _ _ x y u F N R py pu Z S U a4 Y O a7 hk=>⟨_,rfl,yP ?_⟩) (λq=>by lia) (by lia) (by lia) (by lia)) (fF _))))
  refine B s.heap.objs.size #[x,y,u] F N ⟨x,y,u,R,py,pu,rfl⟩ (qA6 _) ⟨_,O,rfl,_,rfl⟩ ⟨Z,hk _ _ m.TIz m.TITO m.TIi1 m.TIi2 m.TIi3 g,⟨_,_,_,S⟩,U,a4,Y,lt p,lt f,?_,?_,?_⟩
   λc o d e=>hk c o (λx=>d (by simp[x])) (λx=>d (by simp[x])) (λx=>d (by simp[x])) (λx=>d (by simp[x])) (λx=>d (by simp[x])) e
  .obtain⟨_,e⟩:=(I A n).live _ _ t;exact lt e
  .obtain⟨_,e⟩:=(H A n).live _ _ v;exact lt e
  .obtain⟨_,e⟩:=(D A n).live _ _ r;exact lt e
 go:=λM k pos i T s Q E L B=>by obtain⟨p,g,⟨a,b,c,f⟩,t,v,r,_⟩:=L;refine gP p λF K l=>B F ⟨K,l.extBut _ _ m.TIz g,⟨a,b,c,l.extBut _ _ m.TOz f⟩,Draws.sb (I A n) t l m.z1,Draws.sb (H A n) v l m.z2,Draws.sb (D A n) r l m.z3⟩ λc o d e=>l.extBut _ _ (λx=>d (by simp[x])) e
 apart:=λi T h L C=>by
  simp_all
 done:=λs Q E j B=>by
  obtain⟨p,g,⟨a,b,c,f⟩,t,v,r⟩:=j;have C:s.TypeIs (.ref z) "zip":=⟨_,p,rfl⟩
  refine yO (vI (jD C vC
   (jE vC C fQ (FC p g f n I H D m t v r (λq1 q2 q3=>by lia) (λ_ F e N hk X=>?_) (by lia) (by lia) (by lia)) (fF _))))
  obtain⟨o,ho,d⟩:=X;refine yO (wK ⟨o,ho,d⟩ mO ?_);exact yP (B _ _ λc o d e=>hk c o (λx=>d (by simp[x])) (λx=>d (by simp[x])) (λx=>d (by simp[x])) (λx=>d (by simp[x])) (λx=>d (by simp[x])) e)
 self:=λi s Q E j B=>vW j.1 B
end
abbrev Oi(h:y9)(a c b:yR):Heap:=((h.push (Xv Z5 a)).push (Xv Z7 c)).push (Xv Z7 b)
abbrev Oh(h:y9)(a b c:yR):Heap:=(Oi h a b c).push { cls:=.type "tuple",data:=.seq #[.ref h.objs.size,.ref (h.push (Xv Z5 a)).objs.size,.ref ((h.push (Xv Z5 a)).push (Xv Z7 b)).objs.size] }
abbrev Og(h:y9)(a c b:yR):Heap:=(Oh h a c b).push { cls:=.type "tuple",data:=.seq #[.none,.none,.none] }
abbrev SI(h:y9)(a c b:yR):Heap:=(Og h a c b).push { cls:=.type "zip",data:=.fields #[.none,.bool Z5,.bool Z5,.ref (Oi h a c b).objs.size,.ref (Oh h a c b).objs.size] }
set_option maxHeartbeats 2000000 in
theorem tO(a b c:yR)(xs ys us:yJ):
  uJ (Builtin.«zip.__new__» ⟨[.type "zip",.ref a,.ref b,.ref c],[]⟩) (λ_ R s=>s.heap.IsList a xs/\s.heap.IsTuple b ys/\s.heap.IsTuple c us /\
   R (.ok (.ret (.ref (Og s.heap a b c).objs.size))) { s with heap:=SI s.heap a b c }) :=
 .of_wp λm w A R s h=>by
  obtain⟨n,g,d,p,o⟩:=s;obtain⟨e,f,l,h⟩:=h;have q:=uS;have k:=e;have j:qH0 (Shared.heap ⟨n.push { cls:=.type "list_iterator",data:=.fields #[.ref a,.int 0 0] },g,d,p,o⟩) b ys:=qH0.push f _;have i:qH0 (Shared.heap ⟨(n.push { cls:=.type "list_iterator",data:=.fields #[.ref a,.int 0 0] }).push { cls:=.type "tuple_iterator",data:=.fields #[.ref b,.int 0 0] },g,d,p,o⟩) c us:=qH0.push (qH0.push l _) _
  wp_walk using jQ k,jK j,jK i
  exact⟨_,rfl,h⟩
theorem tN(a b c:yT):checkTypeCall "zip" ⟨[a,b,c],[]⟩=pure ():=by kernel_rfl
theorem tM(a b c:yT):checkBuiltinCall "zip.__new__" ⟨[.type "zip",a,b,c],[]⟩=pure ():=by kernel_rfl
theorem tL(a b c d:yT):argsOk "object.__init__" ⟨[a,b,c,d],[]⟩:=by
 kernel_rfl
section
variable {prog:yX}{w:y8}{A:y7}{E:yL}{s:yS}
theorem tJ{xs ys us:yJ}{Q:yL}(f:s.heap.IsList a xs)(i:s.heap.IsTuple b ys)(m:s.heap.IsTuple d us)
  (h:∀h',fK h' (s.heap.objs.size+5) (s.heap.objs.size+3) (s.heap.objs.size+4) .none->V1 h' (s.heap.objs.size+3) (.ref s.heap.objs.size) (.ref (s.heap.objs.size+1)) (.ref (s.heap.objs.size+2)) ->
   V1 h' (s.heap.objs.size+4) .none .none .none->WM Z5 h' s.heap.objs.size a 0->WM Z7 h' (s.heap.objs.size+1) b 0->WM Z7 h' (s.heap.objs.size+2) d 0 ->
   (∀c o,s.heap.get? c=Z9 o->h'.get? c=Z9 o)->Q (.ref (s.heap.objs.size+5)) { s with heap:=h' }) :
  y2 (yW prog w) A (mY (.type "zip") [.ref a,.ref b,.ref d]) Q E s:=by
 refine dR F.called_zip (by decide) (tN _ _ _) (tM _ _ _) (λobj=>tL obj _ _ _) F.entry_zip_new (tO a b d xs ys us) ⟨f,i,m,?_⟩;have j:(s.heap.push (Xv Z5 a)).objs.size=s.heap.objs.size+1:=qD5 ..;have k:((s.heap.push (Xv Z5 a)).push (Xv Z7 b)).objs.size=s.heap.objs.size+2:=by rw[qD5,j]
 have e:(Oi s.heap a b d).objs.size=s.heap.objs.size+3:=by rw[qD5,k]
 have g:(Oh s.heap a b d).objs.size=s.heap.objs.size+4:=by rw[qD5,e]
 have t:(Og s.heap a b d).objs.size=s.heap.objs.size+5:=by rw[qD5,g]
 have l:(SI s.heap a b d).get? (Og s.heap a b d).objs.size=Z9 _:=qA7 _ rfl;have p:(SI s.heap a b d).get? (Oh s.heap a b d).objs.size=Z9 _:=qA0 _ (qA7 _ rfl);have q:(SI s.heap a b d).get? (Oi s.heap a b d).objs.size=Z9 _:=qA0 _ (qA0 _ (qA7 _ rfl));have n:(SI s.heap a b d).get? ((s.heap.push (Xv Z5 a)).push (Xv Z7 b)).objs.size=Z9 (Xv Z7 d):=qA0 _ (qA0 _ (qA0 _ (qA7 _ (Qv _ _))));have r:(SI s.heap a b d).get? (s.heap.push (Xv Z5 a)).objs.size=Z9 (Xv Z7 b):=qA0 _ (qA0 _ (qA0 _ (qA0 _ (qA7 _ (Qv _ _)))));have u:(SI s.heap a b d).get? s.heap.objs.size=Z9 (Xv Z5 a):=qA0 _ (qA0 _ (qA0 _ (qA0 _ (qA0 _ (qA7 _ (Qv _ _))))));rw[e,g,t]at l;rw[j,k,e]at q;rw[g]at p;rw[k]at n;rw[j]at r;rw[t];exact⟨⟨_,l,rfl⟩,h _ l q p (Qw u) (Qw r) (Qw n) λc o x =>
  qA0 _ (qA0 _ (qA0 _ (qA0 _ (qA0 _ (qA0 _ x)))))⟩
end
theorem tI(f:a<n)(d:b<n)(e:c<n):Ul (n+5) (n+3) (n+4) n (n+1) (n+2) [n,a] [n+1,b] [n+2,c]:=by constructor<;>(try simp only[qC0,qE0,or_false,not_or])<;>(try refine⟨?_,?_⟩)<;>(show ¬(_=_))<;>(simp only[yR]at *;lia)
inductive Qs(K:yQ)(H:Hp)(a b c:yR)(i:Nat):Prop
 |mk (xs ys us:List V) (x y u:V) (q1:YK K H a xs) (q2:Zp K H b ys) (q3:Zp K H c us) (ex:xs[i]?=Z9 x) (ey:ys[i]?=Z9 y) (eu:us[i]?=Z9 u)
inductive Li(K:yQ)(H:Hp)(a b c:yR)(i:Nat):Prop
 |mk (xs ys us:List V) (q1:YK K H a xs) (q2:Zp K H b ys) (q3:Zp K H c us) (ei:i=min xs.length (min ys.length us.length))
def SH(K:yQ)(a b c:yR):It :=
  ⟨λi H=>Qs K H a b c i,
   λi H v g=>∃T,H T=Z8/\v=.ref T/\∀f d e x y u,YK K H a f->Zp K H b d->Zp K H c e->f[i]?=Z9 x->d[i]?=Z9 y->e[i]?=Z9 u->g=ZF H T (.tup [x,y,u]),
   λi H=>Li K H a b c i⟩
structure Qr(z TI TO i1 i2 i3 l1 l2 l3:yR)(i:Nat)(h:y9):Prop where
 a1:fK h z TI TO .none
 a2:V1 h TI (.ref i1) (.ref i2) (.ref i3)
 a3:∃a b c,V1 h TO a b c
 a4:WM Z5 h i1 l1 i
 a5:WM Z7 h i2 l2 i
 a6:WM Z7 h i3 l3 i
section
variable {z TI TO i1 i2 i3 l1 l2 l3:yR}{i:Nat}{h:y9}
theorem Qr.obj(st:Qr z TI TO i1 i2 i3 l1 l2 l3 i h):∀b∈[z,TI,TO,i1,i2,i3],∃o,h.get? b=Z9 o/\∀v,o.data≠.cell v:=by obtain⟨_,_,_,a⟩:=st.a3;exact XX ⟨_,st.a1,λv q=>by cases q⟩ (XX ⟨_,st.a2,λv q=>by cases q⟩ (XX ⟨_,a,λv q=>by cases q⟩ (XX st.a4.obj (XX st.a5.obj (XX st.a6.obj SL)))))
theorem Qr.ne(st:Qr z TI TO i1 i2 i3 l1 l2 l3 i h){T:yR}(c:h.objs.size<=T):∀b∈[z,TI,TO,i1,i2,i3],b≠T:=λb a=>by obtain⟨o,e,_⟩:=st.obj b a;exact qB9 (qB7 (qB1 e) c)
theorem Lh:∀b∈[z,TO,i1,i2,i3],b∈[z,TI,TO,i1,i2,i3]:=by simp_all
inductive tH(X:Cx)(s:yS)(H:Hp)(l1 l2 l3:yR)(i:Nat):Prop
 |mk (xs ys us:List V) (x y u:V) (t1 t2 t3:yB) (u1 u2 u3:yT) (q1:YK X.K H l1 xs) (q2:Zp X.K H l2 ys) (q3:Zp X.K H l3 us) (ex:xs[i]?=Z9 x) (ey:ys[i]?=Z9 y) (eu:us[i]?=Z9 u)
  (p1:VO Z5 s.heap l1 t1.toArray) (p2:VO Z7 s.heap l2 t2.toArray) (p3:VO Z7 s.heap l3 t3.toArray) (e1:t1[i]?=Z9 u1) (e2:t2[i]?=Z9 u2) (e3:t3[i]?=Z9 u3) (r1:ZG x u1) (r2:ZG y u2) (r3:ZG u u3)
variable {X:Cx}{pins:yD}{Z:St}{H:Hp}{s:yS}
theorem tG(I:ZO X pins Z H s)(E:Qs X.K H l1 l2 l3 i):tH X s H l1 l2 l3 i:=by obtain⟨G,r,A,x,y,u,m,k,j,ex,n,l⟩:=E;obtain⟨d,B,D⟩:=I.sqX (b:=Z5) m;obtain⟨a,v,p⟩:=I.sqX (b:=Z7) k;obtain⟨c,C,w⟩:=I.sqX (b:=Z7) j;obtain⟨t,J,f⟩:=B.get ex;obtain⟨F,o,e⟩:=v.get n;obtain⟨K,q,g⟩:=C.get l;exact⟨G,r,A,x,y,u,d,a,c,t,F,K,m,k,j,ex,n,l,D,p,w,J,o,q,f,e,g⟩
theorem tF{j f b:yB}{a:yJ}(n:j[i]?=Z9 g)(m:f[i]?=Z9 d)(l:b[i]?=Z9 c)(hv:∃e k v3,j.toArray[i]?=Z9 e/\f.toArray[i]?=Z9 k/\b.toArray[i]?=Z9 v3/\a=#[e,k,v3]):a=#[g,d,c]:=by simp_all
theorem tE(I:ZO X pins Z H s)(m:YK X.K H l1 xs)(k:Zp X.K H l2 ys)(g:Zp X.K H l3 us)(ex:xs[i]?=Z9 x)(w:ys[i]?=Z9 y)(q:us[i]?=Z9 u)(c a b:List V)(e f d:V)(j:YK X.K H l1 c)(l:Zp X.K H l2 a)(n:Zp X.K H l3 b)(A:c[i]?=Z9 e)(o:a[i]?=Z9 f)(t:b[i]?=Z9 d):ZF H T (.tup [x,y,u])=ZF H T (.tup [e,f,d]):=by
 have r:=I.list_inj m j;have v:=I.tuple_inj k l;have p:=I.tuple_inj g n
 simp_all
end
theorem tB{P:yX}{w:y8}{K:PySem.W.Frag}{B:yE}{k:Nat}{pos:Pos}(z TI TO l n q t v r:yR)(D:Ul z TI TO l n q [l,t] [n,v] [q,r])(d1:t≠l)(d2:v≠n)(d3:r≠q):
  XD P w K (.Tuple B k pos) (SH K t v r) [z,TI,TO,l,n,q] z (Qr z TI TO l n q t v r) where
 mem:=by simp
 obj:=λi h a=>a.obj
 keep:=λi h F ⟨a1,a2,⟨x,y,u,a3⟩,a4,a5,a6⟩ kk =>
  ⟨kk z (by simp) _ a1,kk TI (by simp) _ a2,⟨x,y,u,kk TO (by simp) _ a3⟩,a4.keep λo e=>kk l (by simp) o e,a5.keep λo e=>kk n (by simp) o e,a6.keep λo e=>kk q (by simp) o e⟩
 item:=by intro X V U O hc i m s Z H E I G a Y;subst V U O;obtain⟨xs,ys,us,x,y,u,c,f,d,u1,u2,u3,q1,q2,S,ex,ey,eu,L,N,p3,e1,e2,e3,ru1,ru2,ru3⟩:=tG I Y;have W:=WalksT.zipD3 (prog:=X.prog) (w:=X.w) (I.ok.hd hc) (λA j=>Vo Z5 j l t d1 c.toArray) (λA j=>Vo Z7 j n v d2 f.toArray) (λA j=>Vo Z7 j q r d3 d.toArray) D (by simp) (by simp) (by simp);have hl1:=(qA5.mp e1).1;have hl2:=(qA5.mp e2).1;have hl3:=(qA5.mp e3).1;have C:=λb p=>G b (Lh b p);refine W.item i s _ _ (by simp only[qB3];lia) ⟨a.a1,a.a2,a.a3,⟨a.a4,L⟩,⟨a.a5,N⟩,a.a6,p3⟩ λT vals F tk hv M Q hM kk=>?_;have J:=tF e1 e2 e3 hv;subst J;have nT:=a.ne M;refine⟨_,rfl,W.go _ _ _ i T { s with heap:=F,toks:=tk } _ _ hM λh2 g R=>?_⟩;have I1:ZO X m Z (ZF H T (.tup [x,y,u])) { s with heap:=F,toks:=tk }:=I.yields C kk M (.cons ru1 (.cons ru2 (.cons ru3 .nil))) (by show 3<=yV;decide) Q;have I2:=I1.turnedL (tk:=tk) (Ln C λb p=>nT b (Lh b p)) R;exact⟨.ref T,_,I2,rfl,⟨T,I.hok.fresh M,rfl,tE I q1 q2 S ex ey eu⟩,⟨g.1,g.2.1,g.2.2.1,g.2.2.2.1.1,g.2.2.2.2.1.1,g.2.2.2.2.2.1⟩,λb p=>by rw[Y2 (nT b p)];exact(G b p).1⟩
 done:=by
  intro X V U O hc i m s Z H E I G a Y;subst V U O;obtain⟨xs,ys,us,q1,q2,S,ei⟩:=Y;obtain⟨c,r1,L⟩:=I.sqX (b:=Z5) q1;obtain⟨f,r2,N⟩:=I.sqX (b:=Z7) q2;obtain⟨d,r3,p3⟩:=I.sqX (b:=Z7) S;have W:=WalksT.zipD3 (prog:=X.prog) (w:=X.w) (I.ok.hd hc) (λA j=>Vo Z5 j l t d1 c.toArray) (λA j=>Vo Z7 j n v d2 f.toArray) (λA j=>Vo Z7 j q r d3 d.toArray) D (by simp) (by simp) (by simp);have en:i=min c.toArray.size (min f.toArray.size d.toArray.size):=by simp only[qB3,<- r1.length,<- r2.length,<- r3.length];exact ei
  refine W.done s _ _ (by rw[<- en];exact⟨a.a1,a.a2,a.a3,⟨a.a4,L⟩,⟨a.a5,N⟩,a.a6,p3⟩) λF tk kk=>?_;exact⟨rfl,I.turnedL (λb p=>G b (Lh b p)) kk⟩
 self:=λ_ _ _ _ _ a h=>vW a.a1 h
section
variable {X:Cx}
def FB(K:yQ)(g:TA):TI:=fun Z H R=>g Z H λf d=>∃a b c,f=[.ref a,.ref b,.ref c]/\(∃i,YK K d a i)/\(∃e,Zp K d b e)/\(∃h,Zp K d c h)/\R (SH K a b c) d
theorem tw{i:yE}{k:Nat}{g:Pos}{p pos:Pos}(U:Gl X "zip")(O:X.mg "zip"=Z8)(W:PA X [a,b,c] C)(K:y3 [a,b,c] X.env=[(Z5,jW a X.env),(Z5,jW b X.env),(Z5,jW c X.env)]:=by rfl)(l:y3 [b,c] X.env=[(Z5,jW b X.env),(Z5,jW c X.env)]:=by rfl):
  PI X (.Tuple i k g) (.Call (.Name "zip" p) [a,b,c] [] pos) (FB X.K C):=by
 intro f s Z H R I h;refine Call_ (TC I U O FM (jP (Zt (W pos f s Z H _ I h) λN y ⟨vs,Q,d,v,P⟩=>?_) (by rw[K,l]) (by rw[l];rfl)));obtain⟨D,E,z,e,⟨xs,T⟩,⟨ys,V⟩,⟨zs,J⟩,q⟩:=P;subst e;obtain⟨x,o,rfl,M,v⟩:=(show ∃x o,N=x::o/\ZG (.ref D) x/\ZJ [.ref E,.ref z] o from by cases v with|cons r rr=>exact⟨_,_,rfl,r,rr⟩)
 obtain⟨a2,a3,rfl,Y,S⟩:=v.two;cases M;cases Y;cases S;obtain⟨F,v1,w⟩:=d.sqX (b:=Z5) T;obtain⟨B,v2,m⟩:=d.sqX (b:=Z7) V;obtain⟨G,v3,u⟩:=d.sqX (b:=Z7) J;refine tJ w m u λh' A t n hi1 hi2 hi3 hk=>?_;refine vW A ?_;have L:=d.kept (t':=y.toks) hk;refine⟨_,_,_,_,Q,rfl,L,tB _ _ _ _ _ _ D E z (tI w.lt m.lt u.lt) (qB9 w.lt) (qB9 (qD7 m.lt)) (qB9 (qD7 (qD7 u.lt))),⟨A,t,⟨_,_,_,n⟩,hi1,hi2,hi3⟩,λb hb=>?_,q⟩;have j:y.heap.objs.size<=b:=by
  grind
 exact d.fpOk j (d.hok.fresh j)
end
section
variable {X:Cx}
theorem ZJ.rev(r:ZJ xs us):ZJ xs.reverse us.reverse:=by
 induction r with
 |nil=>exact .nil
 |cons r t a=>rw[qK3,qK3];exact a.append (.cons r .nil)
theorem Lg:∀{us:yB}{ns:yA},vN us ns->ZJ (ns.map V.int) us
 |_,_,h=>by
  induction h with
  |nil=>exact .nil
  |cons _ _ _ a=>exact .cons ⟨_,rfl⟩ a
theorem tq:Yk X (.builtin "sorted") (λvs H Q=>∃(p:yR) (ns:yA),vs=[.ref p]/\YK X.K H p (ns.map V.int)/\ns.length<64/\∀(l:yR) (ms:yA),H l=Z8->ms.Perm ns->ms.Pairwise (·<=·)->Q (.ref l) (ZF H l (.lst (ms.map V.int)))):=by intro d s Z H A y Q I r h;obtain⟨p,ns,rfl,n,t,q⟩:=h;obtain⟨u,rfl,j⟩:=XC r;cases j;obtain⟨c,f,m,z⟩:=I.list n;have a:=f.length;rw[qA1]at a;refine sorted_ints m.isList (QE f) (by lia) λout x w g i=>?_;obtain⟨e,v⟩:=sortedAll_at s.heap c out;have k:=g.length_eq;refine⟨.ref (s.heap.objs.size+1),_,I.laid (t':=s.toks) (λb o e=>sortedAll_old e) (qM7 _) ?_,rfl,q _ _ (I.hok.fresh (qM7 _)) g i⟩;exact⟨by rw[qA1,k];exact qC5 (qF4 t) (by decide),out.toList,e,Lg w,by simpa using v⟩
theorem Fz{ns:yA}(r:ZJ (ns.map V.int) c):TruthOf prog w A (λi v=>c.toArray[i]?=Z9 v) (λi=>(ns.map (· != 0)).getD i Z5):=by
 intro i v s Q E hv h;have a:=by simpa using hv
 have d:i<ns.length:=by
  have j:=(qA5.mp a).1;have k:=r.length
  simp_all
 obtain⟨u,e,f⟩:=ZJ.get r (by rw[qB6,qA9 d];rfl);rw[e]at a;cases a;obtain⟨t,rfl⟩:=f;have g:(ns.map (· != 0)).getD i Z5=(ns[i] != 0):=by simp[qM1,d]
 have b:Q ((ns.map (· != 0)).getD i Z5) s:=h;rw[g]at b;exact PyProof.Rows.truthy_int b
theorem tp(v:X.calm=Z7):Yk X (.builtin "all") (λvs H Q=>∃(p:yR) (ns:yA),vs=[.ref p]/\Zp X.K H p (ns.map V.int)/\Q (.bl (ns.all (· != 0))) H):=by
 intro g s Z H z x Q I r h;obtain⟨p,ns,rfl,n,q⟩:=h;obtain⟨u,rfl,l⟩:=XC r;cases l;obtain⟨d,j,m,y⟩:=I.tuple n;have c:=m;have f:p<s.heap.objs.size:=by obtain⟨_,e,_⟩:=c;exact qB1 e
 have a:=j.length;rw[qA1]at a;refine call_all_walk (jK c ?_);refine⟨s.heap.objs.size,_,[s.heap.objs.size],_,_,_,_,rfl,Walks.tuple (A:=X.A.in1) (I.ok.hd v) s.heap.objs.size p (qB9 f) d.toArray,⟨⟨_,qA7 _ rfl,rfl,rfl⟩,c.push _⟩,Fz j,λw t kk=>?_⟩;have e:(List.range d.toArray.size).all (λi=>(ns.map (· != 0)).getD i Z5)=ns.all (· != 0):=by rw[qB3,<- a,show ns.length=(ns.map (· != 0)).length by simp,FP,qI0];rfl
 rw[e];refine⟨.bl (ns.all (· != 0)),H,?_,rfl,q⟩;exact I.kept (t':=t) λb o k=>kk b o (by simp only[qB4];exact qB9 (qB1 k)) (qA0 _ k)
theorem tm(v:X.calm=Z7):Yk X (.builtin "any") (λvs H Q=>∃(p:yR) (ns:yA),vs=[.ref p]/\Zp X.K H p (ns.map V.int)/\Q (.bl (ns.any (· != 0))) H):=by
 intro g s Z H z x Q I r h;obtain⟨p,ns,rfl,n,q⟩:=h;obtain⟨u,rfl,l⟩:=XC r;cases l;obtain⟨d,j,m,y⟩:=I.tuple n;have c:=m;have f:p<s.heap.objs.size:=by obtain⟨_,e,_⟩:=c;exact qB1 e
 have a:=j.length;rw[qA1]at a;refine call_any_walk (jK c ?_);refine⟨s.heap.objs.size,_,[s.heap.objs.size],_,_,_,_,rfl,Walks.tuple (A:=X.A.in1) (I.ok.hd v) s.heap.objs.size p (qB9 f) d.toArray,⟨⟨_,qA7 _ rfl,rfl,rfl⟩,c.push _⟩,Fz j,λw t kk=>?_⟩;have e:(List.range d.toArray.size).any (λi=>(ns.map (· != 0)).getD i Z5)=ns.any (· != 0):=by rw[qB3,<- a,show ns.length=(ns.map (· != 0)).length by simp,FO,qP7];rfl
 rw[e];refine⟨.bl (ns.any (· != 0)),H,?_,rfl,q⟩;exact I.kept (t':=t) λb o k=>kk b o (by simp only[qB4];exact qB9 (qB1 k)) (qA0 _ k)
end
section
variable {X:Cx}
def SG(K:yQ)(neg:Bool):R2:=λx y H Q=>∃(p:yR) (c:List V) (N e:yR->Prop) (a:vF) (b:List vF),
 y=.ref p/\(YK K H p c∨Zp K H p c)/\Rp K H N x a/\Um a/\RpL K H e c b/\(∀d∈b,Um d)/\Q (.bl (if neg then !(b.any λd=>PyData.eqv d a)else b.any λd=>PyData.eqv d a)) H
theorem Qq{h:y9}{b:vF}:∀{a:List vF}{us:yB}{c:yC},ReadsAll h us a c->(∀d∈a,Um d)->us.any (We h b)=a.any λd=>PyData.eqv d b
 |_,_,_,.nil,_=>rfl
 |_,_,_,.cons r f,o=>by rw[qE9,qE9,FF r (o _ (qC9 ..)).1,Qq f λd e=>o d (qC4 _ e)]
theorem Of{A:y7}{s:yS}{a:vF}{u:yT}{bs:yC}(o:A.units+64<vE)(n:Reads s.heap u a bs)(h:Um a):∀{b:List vF}{us:yB}{f:yC},ReadsAll s.heap us b f->(∀d∈b,Um d)->∀w∈us,SeqAt.EqAt A.in1 s w u (We s.heap a w):=λ{b us f} l e w i=>by
 obtain⟨m,j,rfl⟩:=qM0 i;obtain⟨d,p,k,g⟩:=FG l (qA9 j);have c:=e d (qC2 k);rw[FF g c.1];refine SeqAt.eqAt_reads d a _ s _ _ _ _ g n c.1 h.1 ?_;have:=c.2;show A.units+1+min d.depth a.depth<vE
 lia
theorem tj(l:X.A.units+64<vE):YW X (yZ .In) (SG X.K Z5):=by
 intro k s Z H x y v u Q I o t h;obtain⟨p,D,N,B,c,C,rfl,d,A,j,e,b,q⟩:=h;cases t;obtain⟨bs,m⟩:=I.reads A o;rcases d with d|d
 .obtain⟨a,r,g,z⟩:=I.list d;obtain⟨n,f⟩:=I.readsL e r;refine SeqAt.in_listAt (We s.heap c) g.isList (λw i=>Of l m j f b w (by simpa using i)) ⟨.bl _,H,I,rfl,?_⟩;rw[show a.toArray.any (We s.heap c)=a.any (We s.heap c) by simp,Qq f b];exact q
 .obtain⟨a,r,g,z⟩:=I.tuple d;obtain⟨n,f⟩:=I.readsL e r;refine SeqAt.in_tupleAt (We s.heap c) g (λw i=>Of l m j f b w (by simpa using i)) ⟨.bl _,H,I,rfl,?_⟩;rw[show a.toArray.any (We s.heap c)=a.any (We s.heap c) by simp,Qq f b];exact q
theorem sZ(l:X.A.units+64<vE):YW X (yZ .NotIn) (SG X.K Z7):=by
 intro k s Z H x y v u Q I o t h;obtain⟨p,D,N,B,c,C,rfl,d,A,j,e,b,q⟩:=h;cases t;obtain⟨bs,m⟩:=I.reads A o;rcases d with d|d
 .obtain⟨a,r,g,z⟩:=I.list d;obtain⟨n,f⟩:=I.readsL e r;refine SeqAt.notIn_listAt (We s.heap c) g.isList (λw i=>Of l m j f b w (by simpa using i)) ⟨.bl _,H,I,rfl,?_⟩;rw[show a.toArray.any (We s.heap c)=a.any (We s.heap c) by simp,Qq f b];exact q
 .obtain⟨a,r,g,z⟩:=I.tuple d;obtain⟨n,f⟩:=I.readsL e r;refine SeqAt.notIn_tupleAt (We s.heap c) g (λw i=>Of l m j f b w (by simpa using i)) ⟨.bl _,H,I,rfl,?_⟩;rw[show a.toArray.any (We s.heap c)=a.any (We s.heap c) by simp,Qq f b];exact q
end
section
variable {prog:yX}{w:y8}{A:y7}{E:yL}{s:yS}
theorem Fy{e t:yR}{items:yJ}(g:t≠e):∀(n i:Nat) (s:yS) (Q:yB->yS->Prop),s.heap.IsListIter e t i->s.heap.IsList t items->i+n<=items.size ->
  (∀h',h'.IsListIter e t (i+n)->qE3 e s.heap h'->Q ((items.toList.drop i).take n) { s with heap:=h' })->y2 (yW prog w) A (draw (.ref e) n) Q E s
 |0,i,s,Q,hit,_,_,hQ=>by exact yP (by simpa using hQ s.heap hit (qE3.refl ..))
 |n+1,i,s,Q,hit,ht,hle,hQ=>by
  have h:i<items.size:=by lia
  refine yO (fA hit ht (x:=items[i]) (by simp) λj c a=>?_);refine yO (jG (Fy g n (i+1) _ _ c (ht.extBut a.extBut g) (by lia) λf b d=>yP ?_));have k:items.toList.drop i=items[i]::items.toList.drop (i+1):=by simp[qG2,h]
  have:=hQ f (by rw[show i+(n+1)=i+1+n by lia];exact b) (a.trans d);rw[k,List.take_succ_cons]at this;exact this
theorem sY{items:yJ}{Q:yB->yS->Prop}(m:A.handled=Z8)(i:s.heap.IsList t items)
  (n:∀h',qO6 s.heap.objs.size s.heap h'->Q items.toList { s with heap:=h' }):y2 (yW prog w) A (unpackItems (.ref t) items.size Z8) Q E s:=by
 have g:t≠s.heap.objs.size:=by obtain⟨o,p,_⟩:=i;exact qB9 (qB1 p)
 refine yO ?_
 .unfold notIterableAtAll;refine yO (wpAny_specialOf i.typeIs slot_list_iter.lookup ?_);refine yP ?_;refine yO (jG (jQ i ?_));refine yO (jG (Fy g items.size 0 _ _ ⟨_,qA7 _ rfl,rfl,rfl⟩ (i.push _) (by lia) λk c a=>?_));have j:List.take items.size (List.drop 0 items.toList)=items.toList:=by rw[qO5];exact qF5 (by simp)
  rw[j];rw[if_neg (by simp)];have f:=(i.push _).extBut a.extBut g;refine yO (jG (fI m c f (by simp) λh d=>?_));refine yP (n h λb o l e=>d b o l (a.extBut b o l (qA0 _ e)))
theorem sX{a:yE}{f}{items:yJ}(e:A.handled=Z8)(d:s.heap.IsList t items)
  (c:(jI a env).length=items.size) (b:(jI a env).findIdx? (·.1)=Z8)
  (h:∀h',qO6 s.heap.objs.size s.heap h'->y2 (yW prog w) A (assignInOrder ((jI a env).map (·.2)) items.toList) Q E { s with heap:=h' }) :
  y2 (yW prog w) A (gJ (.Tuple a f pos) env (.ref t)) Q E s:=by refine yO (fS ?_);unfold unpack;rw[c,b];exact yO (jG (sY e d h))
end
section
variable {X:Cx}{pos:Pos}
def sW(K:yQ)(n:Nat)(t:U9):TG:=λv Z H Q=>∃a b,v=.ref a/\(Zp K H a b∨YK K H a b)/\b.length=n/\t b Z H Q
theorem sV(p:X.calm=Z7)(h:V4 X es t)
  (l:(jI es X.env).length=n) (f:(jI es X.env).findIdx? (·.1)=Z8):PG X (.Tuple es k pos) (sW X.K n t):=by
 intro c s Z H v u Q I r g;obtain⟨a,m,z,d,i,g⟩:=g;subst z;rcases d with d|d
 .exact GC p h l f c s Z H (.ref a) u Q I r ⟨a,m,rfl,d,i,g⟩
 .cases r;obtain⟨y,j,q,B⟩:=I.list d;refine sX (I.ok.hd p) q.isList (by simp[l,<- i,j.length]) f λA x=>?_;have w:=I.kept (t':=s.toks) λb o e=>x b o (qB9 (qB1 e)) e;exact h c _ Z H m _ Q w (by simpa using j) g
end
section
variable {X:Cx}{pins:yD}{Z:St}{H:Hp}{s:yS}
theorem ZO.dTnil(I:ZO X pins Z H s)(e:H a=Z9 (.dK [])):ZO X pins Z (ZF H a (.dT [])) s:=by
 obtain⟨z,j,l,r,o,c,h,d,m,i,n,g,p⟩:=RG I.hok e;have k:l=[]:=by cases r;rfl
 subst k;have f:c.toList=[]:=by have:=g.length;exact qF3.mp (by simpa using this)
 refine I.write (x:=a) (e:=a) (h':=s.heap) (t':=s.toks) (by rw[e];exact True.intro) (.inl rfl) (λb u _ q=>q) ⟨o,d⟩ ?_;exact⟨qE8 _,j,[],.nil,o,c,h,d,m,i,by simpa using f,qO7⟩
end
def U5(h:y9)(d:yR)(es:Array vJ)(a:Nat):Prop:=∃o,h.get? d=Z9 o/\o.cls=.type "dict"/\o.data=.dict es a
theorem U5.at(x:U5 h d es ep)(e:∀o,h.get? d=Z9 o->h'.get? d=Z9 o):U5 h' d es ep:=let ⟨o,ho,r⟩:=x;⟨o,e o ho,r⟩
theorem U5.lt(x:U5 h d es a):d<h.objs.size:=let ⟨_,ho,_⟩:=x;qB1 ho
section
variable {prog:yX}{w:y8}{A:y7}{E:yL}{s:yS}{z TI TO:yR}{f0:yT}
theorem Fx:isSubtype (.type "AttributeError") (.type "AttributeError")=pure Z7:=by kernel_rfl
end
section
variable {prog:yX}{w:y8}{A:y7}{z TI TO i1 i2 d:yR}{f1 f2:yC}{n1 n2:Nat}{P1 P2:Nat->yT->Prop}{S1 S2:Nat->y9->Prop}
theorem Fw:entryFor table "dict.update.loop"=Z9 Builtin.«dict.update.loop»:=by kernel_rfl
theorem Fv(a:Args):(Code.builtin "dict.update.loop" a).quiet=Z7:=by kernel_rfl
end
section
variable {prog:yX}{w:y8}{A:y7}{E:yL}{s:yS}{it d:yR}{i ep:Nat}{es:Array vJ}
theorem Fu{Q:yF->yS->Prop}(f:s.heap.IsKeyIter it d i es.size ep)(n:U5 s.heap d es ep)(p:es[i]?=Z9 e)
  (l:∀h',h'.IsKeyIter it d (i+1) es.size ep->qE3 it s.heap h'->Q (Z9 e.key) { s with heap:=h' }):y2 (yW prog w) A (pyNext (.ref it)) Q E s:=by
 have c:=f.typeIs;obtain⟨o,j,m,h⟩:=id f;obtain⟨r,g,_,b⟩:=n;refine yO (vI (jD c vD (jE vD c fX ?_ (fR _))));refine yO (yP (yO (yO (yO (j9 c (yP (yO (wpAny_fieldsOf j h ?_))))))));refine yO (yP (yO (gZ g b ?_)));rw[if_neg (by simp)];refine yO (yP (yO (lZ g b ?_)));rw[if_neg (by simp)];refine yP ?_;have q:¬((i:Int)<0):=by lia
 simp only[q,if_false,qH3,p];refine yO (yO (j9 c (yP (yO (mD c ?_)))));show y2 _ _ (setField (.ref it) 1 (wM (i+1)) >>= _) _ _ s;refine yO (gL j h (by simp) ?_);have a:(s.heap.update it (Obj.mapFields (·.setIfInBounds 1 (wM (i+1))))).IsKeyIter it d (i+1) es.size ep :=
  ⟨_,qI4 _ j (mC (wV h _)),(Obj.cls_mapFields ..).trans m,by rw[wV h];simp[wM]⟩
 have k:Shared.TypeIs { s with heap:=s.heap.update it (Obj.mapFields (·.setIfInBounds 1 (wM (i+1)))) } (.ref it) "dict_keyiterator":=a.typeIs;refine yO (jG (yO (mD k ?_)));exact yP (yP ⟨_,rfl,yP (l _ a (qE3.update ..))⟩)
theorem Qp{Q:yF->yS->Prop}(l:A.handled=Z8)(b:s.heap.IsKeyIter it d i es.size ep)(j:U5 s.heap d es ep)(k:es[i]?=Z8)
  (h:∀h',qO6 it s.heap h'->Q Z8 { s with heap:=h' }):y2 (yW prog w) A (pyNext (.ref it)) Q E s:=by
 have e:=b.typeIs;obtain⟨o,g,n,f⟩:=id b;obtain⟨p,c,_,a⟩:=j;refine yO (vI (jD e vD (jE vD e fX ?_ (fR _))));refine yO (yP (yO (yO (yO (j9 e (yP (yO (wpAny_fieldsOf g f ?_))))))));refine yO (yP (yO (gZ c a ?_)));rw[if_neg (by simp)];refine yO (yP (yO (lZ c a ?_)));rw[if_neg (by simp)];refine yP ?_;have m:¬((i:Int)<0):=by lia
 simp only[m,if_false,qH3,k];refine yO (yO (j9 e (yP ?_)));refine yO (gL (i:=0) g f (by simp) ?_);refine wpAny_raiseNew_none l ?_;refine yO (wK ⟨_,qA7 _ rfl,rfl⟩ mO ?_);exact yP (h _ (((qE3.update ..).extBut.push _).push _))
theorem Ft{Q:yL}(lo:(d == jZ)=Z5)(f:U5 s.heap d es ep)
  (e:Q (.ref s.heap.objs.size) { s with heap:=s.heap.push { cls:=.type "dict_keyiterator",data:=.fields #[.ref d,.int 0 0,.int es.size 0,.int ep 0] } }):y2 (yW prog w) A (pyIter (.ref d)) Q E s:=by
 obtain⟨o,b,g,a⟩:=f;have c:s.TypeIs (.ref d) "dict":=⟨o,b,g⟩
 refine wpAny_pyIter_slot c F.slot_dict_iter (jE F.slot_dict_iter c F.entry_dict_iter ?_ (F.args_dict_iter_1 _));refine yO (yO (mE c (yO (yP (yP ?_)))));refine yO (yP ?_);unfold Builtin.Dict.showsAll;rw[if_neg (by rw[lo];exact qB0)];refine yO (yP (yO (gZ b a (yO (lZ b a ?_)))));refine yO (j3 (yP ⟨_,rfl,"dict_keyiterator",_,⟨_,qA7 _ rfl,rfl⟩,F.slot_dict_keyiterator_next.lookup,?_⟩));simpa[wM]using e
end
theorem Lf{xs:List b}{ys:List a}(r:mH R xs ys):∀{i:Nat}{y:a},ys[i]?=Z9 y->∃x,xs[i]?=Z9 x/\R x y:=by
 induction r with
 |nil=>intro i y e;simp at e
 |cons h t c =>
  intro i y e;cases i with
  |zero=>simp at e;subst e;exact⟨_,rfl,h⟩
  |succ i=>exact c (by simpa using e)
def one(a:yA)(z:Int):yA:=if z∈a then a else z::a
theorem ZO.dr{Z:St}(I:ZO X a Z H s)(d:Drawn):ZO X a Z H { s with drawn:=d } :=
 ⟨I.ok,I.os,I.bare,I.base,I.loc,I.cell,I.free,I.freeC,I.pin,I.hok,I.len⟩
section
variable {prog:yX}{w:y8}{A:y7}{E:yL}{s:yS}{r:yR}
theorem Fs{Q:yL}{ns:yA}(x:ns.length<64)
  (v:∀(A:y7) (E:yL) (R:yB->yS->Prop),A.handled=Z8->(∀(h':y9) (tk:Nat) (dr:Drawn) (us:yB) (ms:yA),(∀b o,s.heap.get? b=Z9 o->h'.get? b=Z9 o)->vN us ms->ms.Perm ns->R us { s with heap:=h',toks:=tk,drawn:=dr })->y2 (yW prog w) A (collect (.ref r)) R E s)
  (p:A.handled=Z8)
  (h:∀(f:y9) (l:yR) (h':y9) (tk:Nat) (dr:Drawn) (e:Nat) (us:yB) (ms:yA),(∀b o,s.heap.get? b=Z9 o->f.get? b=Z9 o)->(∀b o,f.get? b=Z9 o->h'.get? b=Z9 o)->f.objs.size<=l->h'.get? l=Z9 (vX "list" us.toArray e)->vN us ms->ms.Perm ns->ms.Pairwise (·<=·)->Q (.ref l) { s with heap:=h',toks:=tk,drawn:=dr }) :
  y2 (yW prog w) A (mY (.builtin "sorted") [.ref r]) Q E s:=by
 refine wL uM dS dU (dW _) ?_;unfold Builtin.«sorted»;refine yO (m:=checkCount "sorted" 1 1 _) (yP ?_);refine yO (v _ _ _ p λh' tk dr us ms hk j d=>?_);have c:us.length=ns.length:=by
  rw[<- d.length_eq];clear hk d
  induction j with
  |nil=>rfl
  |cons _ _ _ q=>simp[q]
 refine yO (fV ?_ (by rw[c,j7];lia));have a:(h'.push (vX "list" us.toArray 0)).get? h'.objs.size=Z9 (vX "list" us.toArray 0):=qA7 _ rfl;show y2 _ _ _ _ _ { s with heap:=h'.push (vX "list" us.toArray 0),toks:=tk,drawn:=dr };refine yO (jG (jE mP ⟨_,a,rfl⟩ mB (list_sort_tree a j (by lia) λout i u k n=>⟨_,rfl,?_⟩) (mQ _)));obtain⟨e,t⟩:=m9 (out:=out) a;refine yP ⟨_,rfl,h h' h'.objs.size _ tk dr e out.toList i hk (λb o g=>?_) (qA6 _) (by simpa using t) u (k.trans d) n⟩;have lt:b<h'.objs.size:=qB1 g;rw[mR (qB9 lt) (by rw[dF];exact qD7 lt)];exact qA0 _ g
end
theorem Fq:∀(us:yB) (ns:yA),us.length=ns.length->(∀(j:Nat) (v:yT) (n:Int),us[j]?=Z9 v->ns[j]?=Z9 n->∃t,v=.int n t)->vN us ns
 |[],[],_,_=>.nil
 |[],_::_,h,_=>by cases h
 |_::_,[],h,_=>by cases h
 |u::us,n::ns,h,k=>by obtain⟨t,rfl⟩:=k 0 u n rfl rfl;exact .cons n t (Fq us ns (by simpa using h) λj v m b a=>k (j+1) v m (by simpa using b) (by simpa using a))
theorem sU(hc:X.calm=Z7):Yk X (.builtin "sorted") (λvs H Q=>∃(p:yR) (a:List (Zz×V)) (ns:yA),vs=[.ref p]/\H p=Z9 (.dK a)/\a.map (·.1)=ns.map Sum.inl/\ns.length<64/\∀(l:yR) (ms:yA),H l=Z8->ms.Perm ns->ms.Pairwise (·<=·)->Q (.ref l) (ZF H l (.lst (ms.map V.int)))):=by
 intro g s Z H xs D Q I r h;obtain⟨p,a,ns,rfl,hp,hk,C,q⟩:=h;obtain⟨u,rfl,N⟩:=XC r;cases N;obtain⟨hz,P,vs,J,S⟩:=RG I.hok hp;obtain⟨ep,m⟩:=S.dictAt;have z:vs.length=ns.length:=by rw[<- Paired.length J,<- qA1,hk,qA1]
 refine Fs C (λA E R hA hR=>dA (W.kdl_dict P) hA m (by rw[z,j7];lia) λM tk acc w c=>hR M tk s.drawn _ ns w ?_ (.refl _)) (I.ok.hd hc) λh2 l2 h3 d dr e D ms k2 O le L hi f Y=>?_
 .refine Fq _ _ (by rw[jN,c.1,z]) λj v n e1 K=>?_;obtain⟨k,x,T,B⟩:∃k x,vs[j]?=Z9 (k,x)/\(Yp X.prog X.w).is k v=Z7:=c.2 j v (by rw[<- jM];exact e1);obtain⟨q1,U,e6,_⟩:=Lf J T;have G:(a.map (·.1))[j]?=Z9 k:=by rw[qB6,U];exact congrArg Z9 e6
  rw[hk,qB6,K]at G;cases G;cases v<;>first|exact absurd B qB0|skip
  rename_i i t;have:=by simpa[Yp,Ut,Value.isInt]using B
  subst this;exact⟨t,rfl⟩
 .have F:ZO X g Z H { s with heap:=h2,toks:=d,drawn:=dr }:=(I.kept (t':=d) λb o e=>k2 b o e).dr dr;refine⟨.ref l2,_,F.laid (t':=d) O le ?_,rfl,q _ _ (F.hok.fresh le) f Y⟩;have y:ms.length<64:=by rw[f.length_eq];exact C
  exact⟨by rw[qA1];exact qC5 (qF4 y) (by decide),D,e,Lg hi,by simpa using L⟩
structure Xj(lt:y4->y4->Bool):Prop where
 as:∀x y,lt x y=Z7->lt y x=Z5
 tr:∀x y z,lt y x=Z5->lt z y=Z5->lt z x=Z5
theorem Xj.flip(h:Xj lt):Xj λx y=>lt y x :=
 ⟨λx y e=>h.as y x e,λx y z a b=>h.tr z y x b a⟩
theorem Xj.rf(h:Xj lt)(x:y4):lt x x=Z5:=by
 cases e:lt x x with
 |false=>rfl
 |true=>exact e.symm.trans (h.as x x e)
abbrev Yb(lt:y4->y4->Bool)(l:yI):Prop:=l.Pairwise λx y=>lt y x=Z5
structure Xi(lt:y4->y4->Bool)(a b ra rb out:yI):Prop where
 pm:(out++(ra++rb)).Perm (a++b)
 so:Yb lt out
 sa:Yb lt ra
 sb:Yb lt rb
 la:∀x∈out,∀y∈ra,lt y x=Z5
 lb:∀x∈out,∀y∈rb,lt y x=Z5
section
variable {lt:y4->y4->Bool}{a b ra rb out xs:yI}{x:y4}
theorem Xi.swap(h:Xi lt a b ra rb out):Xi lt b a rb ra out :=
 ⟨((List.Perm.refl out).append qK8).trans (h.pm.trans qK8),h.so,h.sb,h.sa,h.lb,h.la⟩
theorem Xi.push(h:Xi lt a b (xs++ra) rb out)(k:∀x∈xs,∀y∈rb,lt y x=Z5):Xi lt a b ra rb (out++xs):=by
 obtain⟨n,l,m,sb,e,j⟩:=h;obtain⟨i,f,g⟩:=qD2.mp m;refine⟨?_,qD2.mpr ⟨l,i,λx c y d=>e x c y (qD3 _ d)⟩,f,sb,λx c y d=>?_,λx c y d=>?_⟩
 .simp_all
 .rcases qC3.mp c with c|c
  .exact e x c y (qC7 _ d)
  .exact g x c y d
 .rcases qC3.mp c with c|c
  .exact j x c y d
  .exact k x c y d
structure Mg(lt:y4->y4->Bool)(a b out:yI):Prop where
 pm:out.Perm (a++b)
 so:Yb lt out
theorem Xi.last(h:Xi lt a b [x] rb out)(k:∀y∈rb,lt x y=Z5):Mg lt a b (out++rb++[x]):=by
 refine⟨?_,qD2.mpr ⟨qD2.mpr ⟨h.so,h.sb,h.lb⟩,qD6 ..,λu c v hv=>?_⟩⟩
 .rw[qD1];exact((List.Perm.refl out).append qK8).trans h.pm
 .have e:=qB4.mp hv;subst e;rcases qC3.mp c with c|c
  .exact h.la u c v (qG8 _)
  .exact k u c
theorem Yb.rev(h:Yb (λx y=>lt y x) out):Yb lt out.reverse:=by grind
end
def gallop':Bool->y4->Array y4->Nat->Nat->Nat->StateT vG Sem (yK):=sortPriv% PySem.Builtin.gallop
def W0(prog:yX)(w:y8)(A:y7)(s:yS)(a:vY)(lt:y4->y4->Bool)(G:y4->Prop):Prop :=
 ∀x y,G x->G y->∀Q:Bool->yS->Prop,Q (lt x y) s->y2 (yW prog w) A (keyLt' a x.1 y.1) Q (λ_ _=>False) s
section
variable {prog:yX}{w:y8}{A:y7}{E:yL}{s:yS}{κ:vY}{lt:y4->y4->Bool}{G:y4->Prop}{st:vG}
theorem sT(c:W0 prog w A s κ lt G)(hk:kindOf st=κ)(d:G x)(f:G y)(h:Q (Z9 (lt x y)) st):wpS (yW prog w) A E s (lt' x y) Q st:=by rw[lt'_eq];refine jF (dX ?_);rw[hk];refine jF (wpS_lift (vI (jU (c x y d f (λb a=>a=s/\b=lt x y) ⟨rfl,rfl⟩) (λb a e=>?_) λ_ _ x=>x.elim)));obtain⟨rfl,rfl⟩:=e;exact⟨rfl,jT h⟩
theorem Fp(b:a[i]?=Z9 x)(h:Q x st):wpS (yW prog w) A E s (uN a i) Q st:=by rw[elem'_eq,b];exact jT h
end
structure Sg(st st':vG):Prop where
 k:kindOf st'=kindOf st
 a:uO st'=uO st
 p:pendingOf st'=pendingOf st
 f:failedOf st'=failedOf st
section
variable {lt:y4->y4->Bool}{a b ra rb out xs:yI}{x:y4}
theorem Fo(h:i<a.length):a.drop i=[a[i]]++a.drop (i+1):=qG2 h
end
theorem Le(d:Xj lt)(sb:Yb lt b)(hi:i<b.length)(h:lt b[i] x=Z5):∀y∈b.drop i,lt y x=Z5:=by
 intro y a;rw[Fo hi]at a;rcases qC3.mp a with a|a
 .rw[qB4.mp a];exact h
 .have c:Yb lt ([b[i]]++b.drop (i+1)):=by rw[<- Fo hi];exact sb.sublist (List.drop_sublist ..)
  exact d.tr x b[i] y h ((qD2.mp c).2.2 _ (qG8 _) y a)
section
variable {lt:y4->y4->Bool}{a b:yI}{ia ib k:Nat}{out:Array y4}
structure Wl(lt:y4->y4->Bool)(a b:yI)(ia ib:Nat)(out:Array y4):Prop where
 m:Xi lt a b (a.drop ia) (b.drop ib) out.toList
 i:ia+1<a.length
 j:ib<b.length
end
section
variable {prog:yX}{w:y8}{A:y7}{E:yL}{s:yS}{κ:vY}{lt:y4->y4->Bool}{G:y4->Prop}{st:vG}
def setG':Nat->StateT vG Sem Unit:=sortPriv% PySem.Builtin.setMinGallop
theorem Sg.trans{st a st'':vG}(h:Sg st a)(k:Sg a st''):Sg st st'':=⟨k.k.trans h.k,k.a.trans h.a,k.p.trans h.p,k.f.trans h.f⟩
abbrev sS:=Option (Array y4)×Array y4×Nat×Nat×Nat×Nat×Nat
abbrev RB:=StateT vG Sem (ForInStep sS)
abbrev Qo(a b out:Array y4)(c d:Nat):Array Keyed:=out++a.extract c a.size++b.extract d b.size
abbrev Fn(a b out:Array y4)(c d:Nat):Array Keyed:=out++b.extract d b.size++a.extract c a.size
abbrev SF(r out:Array y4)(b a g p q:Nat):RB:=pure (.done (Z9 r,out,b,a,g,p,q))
def Fm(a b:Array y4)(g p q:Nat)(out:Array y4)(c d:Nat):RB:=uN a c >>= λv =>
 if(c+1+1 == a.size)=Z7 then SF (Fn a b (out.push v) (c+1) d) (out.push v) (c+1) d g p q
 else if(decide (p<7)&&decide (q<7))=Z7 then pure (.done (Z8,out.push v,c+1,d,g,p,q))else pure (.yield (Z8,out.push v,c+1,d,g,p,q))
def Ld(a b:Array y4)(g p q:Nat)(out:Array y4)(d c:Nat):yK->RB
 |some k=>if k>0 then(if(c+k == b.size)=Z7 then SF (Qo a b (out++b.extract c (c+k)) d (c+k)) (out++b.extract c (c+k)) d (c+k) g p k else Fm a b g p k (out++b.extract c (c+k)) d (c+k))else Fm a b g p k out d c
 |_=>SF (Qo a b out d c) out d c g p q
def Oe(a b:Array y4)(g p q:Nat)(out:Array y4)(d c:Nat):RB:=uN b c >>= λv =>
 if(c+1 == b.size)=Z7 then SF (Qo a b (out.push v) d (c+1)) (out.push v) d (c+1) g p q
 else uN a d >>= λu=>gallop' Z7 u b (c+1) (b.size - (c+1)) 0 >>= Ld a b g p q (out.push v) d (c+1)
def Lc(a b:Array y4)(g p q:Nat)(out:Array y4)(c d:Nat):yK->RB
 | some k=>if k>0 then(if(c+k+1 == a.size)=Z7 then SF (Fn a b (out++a.extract c (c+k)) (c+k) d) (out++a.extract c (c+k)) (c+k) d g k q
   else if(c+k == a.size)=Z7 then SF (Qo a b (out++a.extract c (c+k)) (c+k) d) (out++a.extract c (c+k)) (c+k) d g k q else Oe a b g k q (out++a.extract c (c+k)) (c+k) d)else Oe a b g k q out c d
 |_=>SF (Qo a b out c d) out c d g p q
def Fl(a b:Array y4)(g p q:Nat)(out:Array y4)(c d:Nat):RB:=setG' g >>= λ_=>uN b d >>= λv=>gallop' Z5 v a c (a.size - c) 0 >>= Lc a b g p q out c d
end
section
variable {lt:y4->y4->Bool}{a b:yI}{na nb t:Nat}{out:Array y4}
theorem sR(h:na - 1<a.length)(c:0<na):(a.take na).reverse=[a[na - 1]]++(a.take (na - 1)).reverse:=by
 obtain⟨m,rfl⟩:∃m,na=m+1:=⟨na - 1,by lia⟩
 simp_all
abbrev MH(lt:y4->y4->Bool)(a b:yI)(d c:Nat)(out:Array y4):Prop:=Xi (λx y=>lt y x) a b (a.take d).reverse (b.take c).reverse out.toList
theorem sQ(g:Xj lt)(sb:Yb lt b)(hi:nb - 1<b.length)(h:lt x b[nb - 1]=Z5):∀y∈(b.take nb).reverse,lt x y=Z5:=by
 intro y c;rcases Nat.eq_zero_or_pos nb with rfl|e
 .simp at c
 .have f:Yb lt (b.take nb):=sb.sublist (qP5 ..);have d:=List.pairwise_reverse.mpr f;rw[sR hi e]at c d;rcases qC3.mp c with c|c
  .rw[qB4.mp c];exact h
  .exact g.tr y b[nb - 1] x ((qD2.mp d).2.2 _ (qG8 _) y c) h
theorem Mg.rev(h:Mg (λx y=>lt y x) a b o):Mg lt a b o.reverse:=⟨o.reverse_perm.trans h.pm,h.so.rev⟩
end
section
variable {lt:y4->y4->Bool}{a b:yI}{na nb t:Nat}{out:Array y4}
structure Wh(lt:y4->y4->Bool)(a b:yI)(na nb:Nat)(out:Array y4):Prop where
 m:MH lt a b na nb out
 i:0<na
 j:1<nb
 i':na<a.length
 j':nb<=b.length
end
section
variable {prog:yX}{w:y8}{A:y7}{E:yL}{s:yS}{κ:vY}{lt:y4->y4->Bool}{G:y4->Prop}{st:vG}
abbrev sP:=Option (Array y4)×Nat×Nat×Array y4×Nat×Nat×Nat
abbrev RA:=StateT vG Sem (ForInStep sP)
abbrev Qn(a b out:Array y4)(d c:Nat):Array Keyed:=a.extract 0 d++b.extract 0 c++out.reverse
abbrev Fk(a b out:Array y4)(d c:Nat):Array Keyed:=b.extract 0 c++a.extract 0 d++out.reverse
abbrev SE(r out:Array y4)(b a g p q:Nat):RA:=pure (.done (Z9 r,b,a,out,g,p,q))
def hi3(a b:Array y4)(g p q:Nat)(out:Array y4)(c d:Nat):RA:=uN a (c - 1) >>= λv =>
 if(c - 1 == 0)=Z7 then SE (Qn a b (out.push v) (c - 1) d) (out.push v) (c - 1) d g p q
 else if(decide (p<7)&&decide (q<7))=Z7 then pure (.done (Z8,c - 1,d,out.push v,g,p,q))else pure (.yield (Z8,c - 1,d,out.push v,g,p,q))
def Lb(a b:Array y4)(g p q:Nat)(out:Array y4)(d c:Nat):yK->RA
 | some k=>if c - k>0 then(if(k == 1)=Z7 then SE (Fk a b (out++(b.extract k c).reverse) d k) (out++(b.extract k c).reverse) d k g p (c - k)
   else if(k == 0)=Z7 then SE (Qn a b (out++(b.extract k c).reverse) d k) (out++(b.extract k c).reverse) d k g p (c - k)else hi3 a b g p (c - k) (out++(b.extract k c).reverse) d k)else hi3 a b g p (c - k) out d c
 |_=>SE (Qn a b out d c) out d c g p q
def hi2(a b:Array y4)(g p q:Nat)(out:Array y4)(d c:Nat):RA:=uN b (c - 1) >>= λv =>
 if(c - 1 == 1)=Z7 then SE (Fk a b (out.push v) d (c - 1)) (out.push v) d (c - 1) g p q
 else uN a (d - 1) >>= λu=>gallop' Z7 u b 0 (c - 1) (c - 1 - 1) >>= Lb a b g p q (out.push v) d (c - 1)
def La(a b:Array y4)(g p q:Nat)(out:Array y4)(c d:Nat):yK->RA
 |some k=>if c - k>0 then(if(k == 0)=Z7 then SE (Qn a b (out++(a.extract k c).reverse) k d) (out++(a.extract k c).reverse) k d g (c - k) q else hi2 a b g (c - k) q (out++(a.extract k c).reverse) k d)else hi2 a b g (c - k) q out c d
 |_=>SE (Qn a b out c d) out c d g p q
def hi1(a b:Array y4)(g p q:Nat)(out:Array y4)(c d:Nat):RA:=setG' g >>= λ_=>uN b (d - 1) >>= λv=>gallop' Z5 v a 0 c (c - 1) >>= La a b g p q out c d
end
abbrev Wd:=Nat×Nat×Nat
abbrev SS(a:vY)(l:yI)(p:List Wd)(g:Nat):SortSt:=SortSt.mk' a l.toArray p.toArray g Z8
theorem Sg.ss{p:List Wd}(h:Sg (SS e l p g) d):∃g',d=SS e l p g':=by obtain⟨k,a,b,c⟩:=h;cases d;cases k;cases a;cases b;cases c;exact⟨_,Eq.refl _⟩
theorem sO{l:yI}(h:x∈l.take n):∃i,∃hi:i<l.length,i<n/\l[i]=x:=by obtain⟨i,hi,e⟩:=qJ0.mp h;refine⟨i,by simp at hi;lia,by simp at hi;lia,by simpa using e⟩
theorem sN{l:yI}(h:x∈l.drop n):∃i,∃hi:i<l.length,n<=i/\l[i]=x:=by
 obtain⟨i,hi,e⟩:=qJ0.mp h
 grind
theorem sM(a:Xj lt)(b:Yb lt l)(h:0<l.length):∀y∈l,lt y l[0]=Z5:=λy c=>Le a b h (a.rf _) y (by simpa using c)
theorem K9(a:Xj lt)(b:Yb lt l)(h:0<l.length):∀y∈l,lt (l[l.length - 1]'(by omega)) y=Z5:=λy c=>sQ a b (by omega) (a.rf _) y (by simpa using c)
theorem sL(P T U:yI):mirror (P++(T++U)).toArray P.length (P.length+T.length) ((P.length+T.length - P.length) / 2)=(P++(T.reverse++U)).toArray:=by
 apply Array.ext_getElem?;intro k;rw[getElem?_mirror_all (by simp)];simp only[qI5];by_cases h:P.length<=k/\k<P.length+T.length
 .rw[if_pos h,qA2 (by omega),qA8 (by omega),qA2 (by omega),qA8 (by simp;omega),List.getElem?_reverse (by omega)];congr 1;omega
 .rw[if_neg h];by_cases a:k<P.length
  .rw[qA8 a,qA8 a]
  .rw[qA2 (by omega),qA2 (by omega),qA2 (by omega),qA2 (by simp;omega)];simp
theorem sJ(P T U:yI)(e:y4):bubble (P++(T++(e::U))).toArray (P.length+T.length) T.length=(P++(e::(T++U))).toArray:=by
 apply Array.ext_getElem?;intro k;rw[getElem?_bubble (by simp) _ (by lia)];simp only[qI5,Nat.add_sub_cancel];by_cases h:k=P.length
 .rw[if_pos h,qA2 (by lia),qA2 (by lia),qA2 (by lia),h];simp
 .rw[if_neg h];by_cases b:P.length<k/\k<=P.length+T.length
  .rw[if_pos b,qA2 (by lia),qA8 (by lia),qA2 (by lia)];obtain⟨m,rfl⟩:∃m,k=P.length+m+1:=⟨k - P.length - 1,by lia⟩
   rw[show P.length+m+1 - P.length=m+1 by lia,qG9,qA8 (by lia)];congr 1;lia
  .rw[if_neg b];by_cases a:k<P.length
   .rw[qA8 a,qA8 a]
   .obtain⟨m,rfl⟩:∃m,k=P.length+T.length+m+1:=⟨k - P.length - T.length - 1,by lia⟩
    rw[qA2 (by lia),qA2 (by lia),qA2 (by lia),show P.length+T.length+m+1 - P.length - T.length=m+1 by lia,show P.length+T.length+m+1 - P.length=T.length+m+1 by lia,qG9,qG9,qA2 (by lia)];congr 1;lia
section
variable {prog:yX}{w:y8}{A:y7}{E:yL}{s:yS}{κ:vY}{lt:y4->y4->Bool}{G:y4->Prop}{p:List Wd}{g:Nat}
theorem Qm(d:W0 prog w A s κ lt G)(b:∀x∈l,G x)(a:l[i]?=Z9 x)(c:l[j]?=Z9 y)(h:Q (Z9 (lt x y)) (SS κ l p g)):wpS (yW prog w) A E s (ltAt' i j) Q (SS κ l p g):=by refine jF (dX ?_);refine jF (Fp (by rw[qI5];exact a) (jF (Fp (by rw[qI5];exact c) ?_)));exact sT d rfl (b x (qC2 a)) (b y (qC2 c)) h
theorem Ql{P T U:yI}(hi:i=P.length)(a:j=P.length+T.length)(h:Q () (SS κ (P++(T.reverse++U)) p g)):wpS (yW prog w) A E s (dC i j) Q (SS κ (P++(T++U)) p g):=by
 subst hi a;rw[reverseSlice'_eq];refine dG ?_;have e:setArr (SS κ (P++(T++U)) p g) (mirror (uO (SS κ (P++(T++U)) p g)) P.length (P.length+T.length) ((P.length+T.length - P.length) / 2))=SS κ (P++(T.reverse++U)) p g:=by rw[sL]
 rw[e];exact h
theorem sI{P T U:yI}(hi:i=P.length+T.length)(b:j=P.length)(h:Q () (SS κ (P++(e::(T++U))) p g)):wpS (yW prog w) A E s (moveDown' i j) Q (SS κ (P++(T++(e::U))) p g):=by
 subst hi b;rw[moveDown'_eq];refine dG ?_;have a:setArr (SS κ (P++(T++(e::U))) p g) (bubble (uO (SS κ (P++(T++(e::U))) p g)) (P.length+T.length) (P.length+T.length - P.length))=SS κ (P++(e::(T++U))) p g:=by rw[qJ9,sJ]
 rw[a];exact h
theorem Fj{pre D U:yI}{lo n:Nat}(l:Xj lt)(H:W0 prog w A s κ lt G)(t:∀x∈pre++(D++U),G x)(j:lo=pre.length)(B:n=D.length+U.length)(J:0<D.length)(C:Yb lt D)
  (h:∀V W,U=V++W->Yb lt (D++V)->(W=[]∨∃e m,W=e::m/\∃z,(D++V)[(D++V).length - 1]?=Z9 z/\lt e z=Z7)->Q (Z8,D.length+V.length) (SS κ (pre++(D++U)) p g)) :
  wpS (yW prog w) A E s (forIn [D.length:n] (Z8,D.length) λ_ (c:Option (yK)×Nat)=>ltAt' (lo+c.2) (lo+c.2 - 1) >>= λr=>match r with
   |some a=>if a=Z7 then pure (ForInStep.done (Z8,c.2))else pure (ForInStep.yield (Z8,c.2+1))
   | _=>pure (ForInStep.done (Z9 Z8,c.2))) Q (SS κ (pre++(D++U)) p g):=by
 subst j B;refine fG (I:=λx c b=>b=SS κ (pre++(D++U)) p g/\c=(Z8,x)/\∃V W,U=V++W/\x=D.length+V.length/\Yb lt (D++V)) ?_ ?_ ⟨rfl,rfl,[],U,rfl,rfl,by simpa using C⟩
 .rintro x c b _ i ⟨rfl,rfl,V,W,rfl,rfl,f⟩;cases W with
  |nil=>simp at i
  |cons e W =>
   have F:(D++V).length - 1<(D++V).length:=by simp;lia
   obtain⟨z,ez⟩:∃z,(D++V)[(D++V).length - 1]?=Z9 z:=⟨_,qA9 F⟩
   have d:=ez;rw[qB5]at d;refine jF (Qm H t (x:=e) (y:=z) ?_ ?_ ?_)
   .rw[qA2 (by lia),qA2 (by lia),qA2 (by lia)];rw[show pre.length+(D.length+V.length) - pre.length - D.length - V.length=0 by lia];rfl
   .rw[<- qD1 D,qA2 (by lia),qA8 (by simp;lia),<- d];congr 1;lia
   .cases k:lt e z with
    |true=>exact jT (h V (e::W) rfl f (.inr ⟨e,W,rfl,z,ez,k⟩))
    |false =>
     refine jT ⟨rfl,rfl,V++[e],W,by simp,by simp;lia,?_⟩;rw[<- qD1];refine qD2.mpr ⟨f,qD6 ..,λu o v hv=>?_⟩;have:=qB4.mp hv;subst this;have q:=K9 l f (by lia) u o;rw[<- (qA5.mp ez).2]at k;exact l.tr _ _ _ q k
 .rintro c b ⟨rfl,rfl,V,W,rfl,i,f⟩;have:W=[]:=by
   cases W with
   |nil=>rfl
   |cons e W=>simp at i
  subst this;rw[i];exact h V [] rfl f (.inl rfl)
end
structure WL(lt:y4->y4->Bool)(R D1 T U:yI):Prop where
 pm:(D1++(T++U)).Perm R
 ds:Yb (λx y=>lt y x) (D1++T)
 t0:0<T.length
 eq:∀u∈T,∀v∈T,lt u v=Z5
section
variable {lt:y4->y4->Bool}{R D1 T U:yI}{e t:y4}
theorem WL.last(h:WL lt R D1 T (e::U))(a:Xj lt)(c:(D1++T)[(D1++T).length - 1]?=Z9 t)(k:lt t e=Z5):∀d∈D1++T,lt d e=Z5:=by intro d b;have q:=K9 a.flip h.ds (by have:=h.t0;simp;lia) d b;rw[(qA5.mp c).2]at q;exact a.tr e t d k q
theorem WL.rev(h:WL lt R D1 T U):Yb (λx y=>lt y x) (D1++T.reverse):=by obtain⟨a,b,c⟩:=qD2.mp h.ds;refine qD2.mpr ⟨a,qK4 λu d v hv=>h.eq u (by simpa using d) v (by simpa using hv),λx f y g=>c x f y (by simpa using g)⟩
theorem WL.one(h:WL lt R D1 T (e::U))(q:∀d∈D1++T,lt d e=Z5)(c:Xj lt):WL lt R (D1++T) [e] U:=by
 refine⟨by simpa using h.pm,qD2.mpr ⟨h.ds,qD6 ..,λx b y f=>?_⟩,by simp,λu a v hv=>?_⟩
 .rw[qB4.mp f];exact q x b
 .rw[qB4.mp a,qB4.mp hv];exact c.rf _
theorem WL.oneR(h:WL lt R D1 T (e::U))(q:∀d∈D1++T,lt d e=Z5)(b:Xj lt):WL lt R (D1++T.reverse) [e] U:=by
 refine⟨?_,qD2.mpr ⟨h.rev,qD6 ..,λx f y c=>?_⟩,by simp,λu a v hv=>?_⟩
 .rw[qD1];exact((List.Perm.refl D1).append (T.reverse_perm.append (List.Perm.refl _))).trans h.pm
 .rw[qB4.mp c]
  grind
 .rw[qB4.mp a,qB4.mp hv];exact b.rf _
theorem WL.more(h:WL lt R D1 T (e::U))(q:∀d∈D1++T,lt d e=Z5)(c:Xj lt)(b:(D1++T)[(D1++T).length - 1]?=Z9 t)(k:lt e t=Z5):WL lt R D1 (T++[e]) U:=by
 have g:=by rw[qA2 (by have:=h.t0;simp;omega)]at b;exact qC2 b
 refine⟨by simpa using h.pm,?_,by simp,?_⟩
 .rw[<- qD1];exact qD2.mpr ⟨h.ds,qD6 ..,λx f y i=>by rw[qB4.mp i];exact q x f⟩
 .intro u a v hv;rcases qC3.mp a with a|a<;>rcases qC3.mp hv with hv|hv
  .exact h.eq u a v hv
  .rw[qB4.mp hv];exact q u (qC7 _ a)
  .rw[qB4.mp a];exact c.tr v t e (h.eq t g v hv) k
  .rw[qB4.mp a,qB4.mp hv];exact c.rf _
end
section
variable {prog:yX}{w:y8}{A:y7}{E:yL}{s:yS}{κ:vY}{lt:y4->y4->Bool}{G:y4->Prop}{p:List Wd}{g:Nat}
def Fi(a:vY)(lt:y4->y4->Bool)(pre R:yI)(p:List Wd)(g:Nat)(Q:yK->vG->Prop):Prop :=
 ∀N W,(N++W).Perm R->0<N.length->Yb lt N->Q (Z9 N.length) (SS a (pre++(N++W)) p g)
theorem Fh{pre R a:yI}(b:∀x∈pre++R,G x)(h:a.Perm R):∀x∈pre++a,G x:=by grind
def K8(lo a n:Nat):StateT vG Sem (Option (yK)×Nat):=forIn [a:n] (Z8,a) λ_ (c:Option (yK)×Nat)=>ltAt' (lo+c.2) (lo+c.2 - 1) >>= λr=>match r with
 |some b=>if b=Z7 then pure (ForInStep.done (Z8,c.2))else pure (ForInStep.yield (Z8,c.2+1))
 |_=>pure (ForInStep.done (Z9 Z8,c.2))
def K7(lo m n:Nat):StateT vG Sem (Option (yK)×Nat×Nat):=forIn [m:n] (Z8,m,0) λ_ (c:Option (yK)×Nat×Nat)=>ltAt' (lo+c.2.1) (lo+c.2.1 - 1) >>= λr=>match r with
 |some a=>if a=Z7 then ite (c.2.2>0) (dC (lo+c.2.1 - (c.2.2+1)) (lo+c.2.1) >>= λ_=>pure (ForInStep.yield (Z8,c.2.1+1,0))) (pure (ForInStep.yield (Z8,c.2.1+1,0)))
  else ltAt' (lo+c.2.1 - 1) (lo+c.2.1) >>= λr=>match r with
   |some b=>if b=Z7 then pure (ForInStep.done (Z8,c.2.1,c.2.2))else pure (ForInStep.yield (Z8,c.2.1+1,c.2.2+1))
   |_=>pure (ForInStep.done (Z9 Z8,c.2.1,c.2.2))
 |_=>pure (ForInStep.done (Z9 Z8,c.2.1,c.2.2))
theorem Fg{lo n:Nat}(i:Xj lt)(y:W0 prog w A s κ lt G)(D:∀x∈pre++R,G x)(l:lo=pre.length)(F:n=R.length)(b:WL lt R a T U)(f:T.length=1)
   (J:m=(a++T).length) (h:∀a T U q,WL lt R a T U->T.length=q+1->Q (Z8,(a++T).length,q) (SS κ (pre++(a++(T++U))) p g)):wpS (yW prog w) A E s (K7 lo m n) Q (SS κ (pre++(a++(T++U))) p g):=by
 subst l F J;refine dY (fG (I:=λx c d=>∃a T U q,c=(Z8,x,q)/\d=SS κ (pre++(a++(T++U))) p g/\WL lt R a T U/\(a++T).length=x/\T.length=q+1)
  (Q:=λc d=>∃a T U q,c=(Z8,(a++T).length,q)/\d=SS κ (pre++(a++(T++U))) p g/\WL lt R a T U/\T.length=q+1) ?_ ?_ ⟨a,T,U,0,rfl,rfl,b,rfl,f⟩) ?_
 .rintro x c d _ o ⟨a,T,U,q,rfl,rfl,b,rfl,f⟩;dsimp only;have K:=b.pm.length_eq;cases U with
  |nil=>simp at K o;lia
  |cons e U =>
   have H:(a++T).length - 1<(a++T).length:=by simp;lia
   obtain⟨t,k⟩:∃t,(a++T)[(a++T).length - 1]?=Z9 t:=⟨_,qA9 H⟩
   have r:(pre++(a++(T++e::U)))[pre.length+(a++T).length]?=Z9 e:=by rw[<- qD1 a,qA2 (by lia),qA2 (by lia),show pre.length+(a++T).length - pre.length - (a++T).length=0 by lia];rfl
   have z:(pre++(a++(T++e::U)))[pre.length+(a++T).length - 1]?=Z9 t:=by rw[<- qD1 a,qA2 (by lia),qA8 (by lia),<- k];congr 1;lia
   have j:=Fh D b.pm;refine jF (Qm y j r z ?_);cases B:lt e t with
   |true =>
    have v:=b.last i k (i.as _ _ B);simp only[if_true];by_cases u:q>0
    .rw[if_pos u];have L:pre++(a++(T++e::U))=(pre++a)++(T++e::U):=by simp
     rw[L];refine jF (Ql (by simp;lia) (by simp;lia) (jT ⟨a++T.reverse,[e],U,0,rfl,by simp,b.oneR v i,by simp;lia,rfl⟩))
    .rw[if_neg u];exact jT ⟨a++T,[e],U,0,rfl,by simp,b.one v i,by simp;lia,rfl⟩
   |false =>
    refine jF (Qm y j z r ?_);cases C:lt t e with
    |true=>exact jT ⟨a,T,e::U,q,rfl,rfl,b,f⟩
    |false=>exact jT ⟨a,T++[e],U,q+1,rfl,by simp,b.more (b.last i k C) i k B,by simp;lia,by simp[f]⟩
 .rintro c d ⟨a,T,U,q,rfl,rfl,b,o,f⟩;exact⟨a,T,U,q,by rw[o],rfl,b,f⟩
 rintro c d ⟨a,T,U,q,rfl,rfl,b,f⟩;exact h a T U q b f
theorem Od{lo n a:Nat}{K:Option (yK)×Nat->StateT vG Sem (yK)}(i:∀m st,Q (Z9 m) st->wpS (yW prog w) A E s (K (Z8,m)) Q st)(f:Xj lt)(t:W0 prog w A s κ lt G)(o:∀x∈pre++R,G x)(c:lo=pre.length)(q:n=R.length)(h:Fi κ lt pre R p g Q)
  (r:Yb (λx y=>lt y x) D) (j:a=D.length) (d:0<D.length) (u:(D++U).Perm R):wpS (yW prog w) A E s (dC lo (lo+a) >>= λ_=>K8 lo a n >>= K) Q (SS κ (pre++(D++U)) p g):=by
 subst j c q;refine jF (Ql rfl rfl ?_);have b:=(D.reverse_perm.append (List.Perm.refl U)).trans u;have k:D.length=D.reverse.length:=by simp
 rw[k];refine jF (Fj f t (Fh o b) rfl (by rw[<- b.length_eq];simp) (by simp[d]) r.rev λV W e l _=>?_);subst e;have:=h (D.reverse++V) W (by simpa using b) (by simp;lia) l;simp only[qD1,qB5]at this;exact i _ _ this
theorem sH{lo n:Nat}(i:Xj lt)(B:W0 prog w A s κ lt G)(o:∀x∈pre++R,G x)(f:lo=pre.length)(t:n=R.length)(hR:0<R.length)(h:Fi κ lt pre R p g Q):
  wpS (yW prog w) A E s (countRun' lo n) Q (SS κ (pre++R) p g):=by
 obtain⟨r,R',rfl⟩:∃r R',R=r::R':=by cases R with
  |nil=>simp at hR
  |cons r R=>exact⟨r,R,rfl⟩
 refine jF (Fj i B o f (by rw[t];simp;lia) (by simp) (qD6 ..) λV W e I ho=>?_);subst e;dsimp only;by_cases N:([r].length+V.length == n)=Z7
 .rw[if_pos N];have:=h ([r]++V) W (by simp) (by simp) I;simp only[qB5]at this;exact jT this
 rw[if_neg N];rcases ho with rfl|⟨e,W',rfl,z,ez,P⟩
 .exfalso;apply N;rw[t];simp;lia
 have M:∀x∈pre++(([r]++V)++e::W'),G x:=by simpa using o
 rw[show pre++([r]++(V++e::W'))=pre++(([r]++V)++e::W') by simp];have O:∀D,(D++e::W').Perm (r::(V++e::W'))->(∀u∈D,∀v∈D,lt u v=Z5)->(∀d∈D,lt d e=Z5)->WL lt (r::(V++e::W')) D [e] W':=λD a b c =>
  ⟨by simpa using a,qD2.mpr ⟨qK4 b,qD6 ..,λx hx y hy=>by rw[qB4.mp hy];exact c x hx⟩,by simp,λu l v hv=>by rw[qB4.mp l,qB4.mp hv];exact i.rf _⟩
 by_cases H:[r].length+V.length>1
 .rw[if_pos H];refine jF (Qm B M (x:=r) (by rw[f,qA2 (by lia)];simp) (by
   rw[f,qA2 (by lia),qA8 (by simp at H ⊢;lia),<- ez];congr 1;simp;lia) ?_)
  cases Z:lt r z with
  |true =>
   have:=h ([r]++V) (e::W') (by simp) (by simp) I;simp only[qB5]at this ⊢;exact jT this
  |false =>
   have z1:=λu l=>by have:=K9 i I (by simp) u l;rwa[(qA5.mp ez).2]at this
   have z2:=λu l=>sM i I (by simp) u l;have S:=λu l v hv=>i.tr v r u (i.tr v z r (z1 v hv) Z) (z2 u l);have Y:=qC2 ez;refine jF (Ql f (by simp;lia) ?_);have J:=O ([r]++V).reverse (by
    have:=((([r]++V).reverse_perm).append (List.Perm.refl (e::W')))
    simpa using this) (λu l v hv=>S u (qN4.mp l) v (qN4.mp hv)) (λd K=>i.tr e z d (i.as _ _ P) (S d (qN4.mp K) z Y))
   refine jF (wpS_lift (vR ⟨rfl,?_⟩));refine jF (Fg i B (by simpa using o) f t J rfl (by simp;lia) λj T U q k hT=>?_);dsimp only;by_cases F:q>0
   .rw[if_pos F,show pre++(j++(T++U))=(pre++j)++(T++U) by simp];refine jF (Ql (by simp;lia) (by simp;lia) ?_);rw[show(pre++j)++(T.reverse++U)=pre++((j++T.reverse)++U) by simp];exact Od (λm L C=>jT C) i B (by simpa using o) f t h k.rev (by simp) (by have:=k.t0;simp;lia) (by rw[qD1];exact((List.Perm.refl j).append (T.reverse_perm.append (List.Perm.refl _))).trans k.pm)
   .rw[if_neg F,show pre++(j++(T++U))=pre++((j++T)++U) by simp];exact Od (λm L C=>jT C) i B (by simpa using o) f t h k.ds rfl (by have:=k.t0;simp;lia) (by simpa using k.pm)
 .rw[if_neg H];have X:V=[]:=by cases V with
   |nil=>rfl
   |cons v V=>simp at H
  subst X;have J:=O [r] (by simp) (λu l v hv=>by rw[qB4.mp l,qB4.mp hv];exact i.rf _) (λd K=>by
   rw[qB4.mp K];have:=by simpa using ez.symm
   rw[<- this];exact i.as _ _ P)
  refine jF (wpS_lift (vR ⟨rfl,?_⟩));refine jF (Fg i B (by simpa using o) f t J rfl (by simp) λj T U q k hT=>?_);dsimp only;by_cases F:q>0
  .rw[if_pos F,show pre++(j++(T++U))=(pre++j)++(T++U) by simp];refine jF (Ql (by simp;lia) (by simp;lia) ?_);rw[show(pre++j)++(T.reverse++U)=pre++((j++T.reverse)++U) by simp];exact Od (λm L C=>jT C) i B (by simpa using o) f t h k.rev (by simp) (by have:=k.t0;simp;lia) (by rw[qD1];exact((List.Perm.refl j).append (T.reverse_perm.append (List.Perm.refl _))).trans k.pm)
  .rw[if_neg F,show pre++(j++(T++U))=pre++((j++T)++U) by simp];exact Od (λm L C=>jT C) i B (by simpa using o) f t h k.ds rfl (by have:=k.t0;simp;lia) (by simpa using k.pm)
end
section
variable {prog:yX}{w:y8}{A:y7}{E:yL}{s:yS}{κ:vY}{lt:y4->y4->Bool}{G:y4->Prop}{p:List Wd}{g:Nat}
theorem sG(j:Xj lt)(c:Yb lt S)(i:∀x∈S.take l,lt e x=Z5)(d:∀x∈S.drop l,lt e x=Z7):Yb lt (S.take l++(e::S.drop l)):=by
 have f:Yb lt (S.take l++S.drop l):=by rw[qI6];exact c
 obtain⟨m,k,h⟩:=qD2.mp f;refine qD2.mpr ⟨m,qE4.mpr ⟨λy a=>j.as _ _ (d y a),k⟩,λx b y a=>?_⟩;rcases qC0.mp a with rfl|a
 .exact i x b
 .exact h x b y a
theorem sF{pre S U b:yI}{lo n ok:Nat}(z:Xj lt)(Z:W0 prog w A s κ lt G)(W:∀x∈pre++(S++(U++b)),G x)(F:lo=pre.length)(X:n=S.length+U.length)(L:ok=S.length)(h0:0<S.length)(O:Yb lt S)
  (h:∀N,N.Perm (S++U)->Yb lt N->Q Z7 (SS κ (pre++(N++b)) p g)):wpS (yW prog w) A E s (binarySort' lo n ok) Q (SS κ (pre++(S++(U++b))) p g):=by
 subst F X L;rw[binarySort'_eq];rw[show max S.length 1=S.length by lia];refine jF (dY (fG (I:=λk c m=>c=(Z8,())/\∃a f,k=a.length/\(a++f).Perm (S++U)/\Yb lt a/\m=SS κ (pre++(a++(f++b))) p g)
  (Q:=λc m=>c=(Z8,())/\∃N,N.Perm (S++U)/\Yb lt N/\m=SS κ (pre++(N++b)) p g) ?_ ?_ ⟨rfl,S,U,rfl,.refl _,O,rfl⟩) ?_)
 .rintro k c m hk1 V ⟨rfl,a,f,rfl,t,q,rfl⟩;have J:=t.length_eq;cases f with
  |nil=>simp at J;lia
  |cons e f =>
  have M:∀x∈pre++(a++(e::f++b)),G x:=λx j=>W x (by
   rcases qC3.mp j with j|j
   .exact qD3 _ j
   .refine qC7 _ ?_;rw[<- qD1]at j ⊢;rcases qC3.mp j with j|j
    .exact qD3 _ (t.mem_iff.mp j)
    .exact qC7 _ j)
  refine jF (dY (fG (I:=λx c d=>d=SS κ (pre++(a++(e::f++b))) p g/\∃l r,c=(Z8,l,r)/\l<=r/\r<=a.length/\r - l<=a.length - x /\
    (∀i,(o:i<a.length)->i<l->lt e a[i]=Z5)/\(∀i,(o:i<a.length)->r<=i->lt e a[i]=Z7))
   (Q:=λc d=>d=SS κ (pre++(a++(e::f++b))) p g/\∃l r,c=(Z8,l,r)/\l<=a.length /\
    (∀i,(o:i<a.length)->i<l->lt e a[i]=Z5)/\(∀i,(o:i<a.length)->l<=i->lt e a[i]=Z7)) ?_ ?_ ⟨rfl,0,a.length,rfl,by lia,by lia,by lia,λi o h=>(by lia),λi o h=>(by lia)⟩) ?_)
  .rintro x c d _ j ⟨rfl,l,r,rfl,H,u,Y,C,B⟩;dsimp only;by_cases D:l≥r
   .rw[if_pos D];have:l=r:=by lia
    subst this;exact jT ⟨rfl,l,l,rfl,u,C,B⟩
   .rw[if_neg D];refine jF (Qm Z M (x:=e) (y:=a[(l+r) / 2]'(by lia)) ?_ ?_ ?_)
    .rw[qA2 (by lia),qA2 (by lia),show pre.length+a.length - pre.length - a.length=0 by lia];rfl
    .rw[qA2 (by lia),qA8 (by lia),qJ9];exact qA9 (by lia)
    .cases K:lt e (a[(l+r) / 2]'(by lia))with
     |true =>
      refine jT ⟨rfl,l,(l+r) / 2,rfl,by lia,by lia,by lia,C,λi o h1=>?_⟩;cases R:lt e a[i]with
      |true=>rfl
      |false =>
       have:=Le z q (i:=(l+r) / 2) (by lia) (z.rf _) a[i] (by
        rw[qJ0];exact⟨i - (l+r) / 2,by simp;lia,by simp only[qP8];congr 1;lia⟩)
       rw[z.tr _ _ _ this R]at K;cases K
     |false =>
      refine jT ⟨rfl,(l+r) / 2+1,r,rfl,by lia,by lia,by lia,λi o h1=>?_,B⟩;have:=Le z q o (z.rf _) (a[(l+r) / 2]'(by lia)) (by
        rw[qJ0];exact⟨(l+r) / 2 - i,by simp;lia,by simp only[qP8];congr 1;lia⟩)
      exact z.tr _ _ _ this K
  .rintro c d ⟨rfl,l,r,rfl,H,u,Y,C,B⟩;have:l=r:=by lia
   subst this;exact⟨rfl,l,l,rfl,u,C,B⟩
  .rintro c d ⟨rfl,l,r,rfl,hl,C,B⟩;have P:pre++(a++(e::f++b))=(pre++a.take l)++(a.drop l++(e::(f++b))):=by
    conv=>lhs;rw[<- qI6 l a]
    simp only[qD1,qL0]
   rw[P];refine jF (sI (by simp;lia) (by simp;lia) (jT ⟨rfl,a.take l++(e::a.drop l),f,by simp;lia,?_,sG z q (λx j=>?_) (λx j=>?_),by simp⟩))
   .refine List.Perm.trans ?_ t;have:(a++e::f)=a.take l++(a.drop l++(e::f)):=by rw[<- qD1,qI6]
    rw[this,qD1];refine(List.Perm.refl _).append ?_;exact List.perm_middle.symm
   .obtain⟨i,o,v,rfl⟩:=sO j;exact C i o v
   .obtain⟨i,o,v,rfl⟩:=sN j;exact B i o v
 .rintro c m ⟨rfl,a,f,hk,t,q,rfl⟩;have J:=t.length_eq;have:f=[]:=by
   cases f with
   |nil=>rfl
   |cons e f=>simp at J;lia
  subst this;exact⟨rfl,a,by simpa using t,q,by simp⟩
 .rintro c m ⟨rfl,N,t,T,rfl⟩;exact jT (h N t T)
end
abbrev Rn:=List (yI×Nat)
def Wt:Rn->yI
 |[]=>[]
 |r::rs=>r.1++Wt rs
def Rz:Nat->Rn->List Wd
 |_,[]=>[]
 |o,r::rs=>(o,r.1.length,r.2)::Rz (o+r.1.length) rs
structure SD(lt:y4->y4->Bool)(rs:Rn):Prop where
 s:∀r∈rs,Yb lt r.1
 p:∀r∈rs,0<r.1.length
theorem SD.len:∀{rs:Rn},SD lt rs->rs.length<=(Wt rs).length
 |[],_=>qA6 _
 |r::rs,h=>by have:=SD.len (rs:=rs) ⟨λx a=>h.s x (qC4 _ a),λx a=>h.p x (qC4 _ a)⟩;have:=h.p r (qC9 ..);rw[Wt,qB5,qB8];lia
section
variable {prog:yX}{w:y8}{A:y7}{E:yL}{s:yS}{κ:vY}{lt:y4->y4->Bool}{G:y4->Prop}
abbrev Tt(a:vY)(rs:Rn)(Zm:yI)(g:Nat):SortSt:=SS a (Wt rs++Zm) (Rz 0 rs) g
theorem K6:∀n:Nat,n<64->0<n->minRun' n n 0=n:=by decide
theorem sE(B:Xj lt)(F:W0 prog w A s κ lt G)(C:∀x∈l,G x)(H:0<l.length)(t:l.length<64)
  (h:∀n a,uO a=n.toArray->failedOf a=Z8->n.Perm l->Yb lt n->Q () a):wpS (yW prog w) A E s sortRuns' Q (SS κ l [] 7):=by
 rw[sortRuns'_eq];refine jF (dX ?_);dsimp only;rw[show l.toArray.size=l.length from rfl,K6 _ t H];refine jF (dY (fG
  (I:=λx c a=>(x=0/\c=(Z8,0)/\a=Tt κ [] l 7)∨∃M,c=(Z8,l.length)/\a=Tt κ [(M,0)] [] 7/\M.Perm l/\Yb lt M)
  (Q:=λc a=>∃M,c=(Z8,l.length)/\a=Tt κ [(M,0)] [] 7/\M.Perm l/\Yb lt M) ?_ ?_ (.inl ⟨rfl,rfl,rfl⟩)) ?_)
 .rintro x c a _ k (⟨rfl,rfl,rfl⟩| ⟨M,rfl,rfl,d,m⟩)
  .dsimp only;rw[if_neg (by lia)];have y:∀x∈Wt []++l,G x:=C;refine jF (sH (pre:=Wt []) B F y rfl (by lia) (by lia) λN W e J o=>?_);dsimp only;have L:=e.length_eq;rw[qB5]at L;have b:∀M:yI,M.Perm l->Yb lt M->((Z8,0+l.length):Option Unit×Nat)=(Z8,l.length)/\SS κ (Wt []++(M++[])) (Rz 0 []++[(0,l.length,0)]) 7=Tt κ [(M,0)] [] 7:=λM d m=>by refine⟨by rw[Nat.zero_add],?_⟩;unfold Tt;rw[Wt,Wt,Wt,Rz,Rz,Rz,qG0,qG0,qL6,d.length_eq];rfl
   by_cases f:N.length<l.length
   .rw[if_pos f];refine jF (wpS_lift (vR ⟨rfl,?_⟩));have K:∀x∈Wt []++(N++(W++[])),G x:=λx k=>C x (e.mem_iff.mp (by simpa[Wt]using k));have p:Wt []++(N++W)=Wt []++(N++(W++[])):=by rw[qG0]
    rw[p];refine jF (sF B F K rfl (by simp;lia) rfl J o λD u g=>?_);simp only[Bool.not_true,qI1,if_false];have i:min (l.length - 0) l.length=l.length:=by lia
    refine jF (dX ?_)
    (try dsimp only)
    have d:=u.trans e;obtain⟨j,v⟩:=b D d g;refine jF (dG (jT (.inr ⟨D,?_,?_,d,g⟩)))
    .rw[i];exact j
    .rw[<- v,i];rfl
   .rw[if_neg f];have p:W=[]:=qF3.mp (by lia);subst p;rw[qG0]at e;refine jF (dX ?_)
    (try dsimp only)
    obtain⟨j,v⟩:=b N e o;have z:N.length=l.length:=e.length_eq;refine jF (dG (jT (.inr ⟨N,?_,?_,e,o⟩)))
    .rw[<- z]at j ⊢;exact j
    .rw[<- v,<- z];rfl
  .dsimp only;rw[if_pos (qA6 _)];exact jT ⟨M,rfl,rfl,d,m⟩
 .rintro c a (⟨k,_⟩| q)
  .lia
  .exact q
 rintro c a ⟨M,rfl,rfl,d,m⟩;dsimp only;have r:Q () (Tt κ [(M,0)] [] 7):=h M _ (by show(Wt [(M,0)]++[]).toArray=_;simp[Wt]) rfl d m;refine jF (dY (fG (I:=λx c a=>c=(Z8,())/\a=Tt κ [(M,0)] [] 7) (Q:=λc a=>c=(Z8,())/\a=Tt κ [(M,0)] [] 7) ?_ (λc a q=>q) ⟨rfl,rfl⟩) ?_)
 .rintro x c a _ k ⟨rfl,rfl⟩;refine jF (dX ?_)
  (try dsimp only)
  rw[if_pos (by show 1<=1;exact qA6 _)];exact jT ⟨rfl,rfl⟩
 .rintro c a ⟨rfl,rfl⟩;exact jT r
end
theorem K5:∀(x y:yA),HT.lexLt x y=Z7->HT.lexLt y x=Z5
 |[],[],h=>by cases h
 |[],_::_,_=>rfl
 |_::_,[],h=>by cases h
 |a::x,b::y,h=>by
  rw[HT.lexLt_cons]at h ⊢;by_cases e:a=b
  .subst e;rw[if_pos rfl]at h ⊢;exact K5 x y h
  .lia
theorem K4:∀(x y z:yA),HT.lexLt y x=Z5->HT.lexLt z y=Z5->HT.lexLt z x=Z5
 |[],y,z,h,k=>by
  cases z with
  |nil=>rfl
  |cons c z=>rfl
 |a::x,[],z,h,k=>by cases h
 |a::x,b::y,[],h,k=>by cases k
 |a::x,b::y,c::z,h,k=>by
  rw[HT.lexLt_cons]at h k ⊢;by_cases e:b=a
  .subst e;rw[if_pos rfl]at h;by_cases d:c=b
   .subst d;rw[if_pos rfl]at k ⊢;exact K4 x y z h k
   .lia
  .lia
theorem Ff:∀(x y:yA),HT.lexLt y x=Z5->HT.lexLt x y=Z5->x=y
 |[],[],_,_=>rfl
 |[],_::_,_,k=>by cases k
 |_::_,[],h,_=>by cases h
 |a::x,b::y,h,k=>by
  rw[HT.lexLt_cons]at h k;by_cases e:a=b
  .subst e;rw[if_pos rfl]at h k;rw[Ff x y h k]
  .lia
def Uk(h:y9):yT->yA
 |.ref a=>match h.get? a with
  |some o=>match o.data with
   |.seq b _=>b.toList.map numOf
   |_=>[]
  |none=>[]
 |_=>[]
def XW(h:y9)(v:yT)(ns:yA):Prop:=∃a b,v=.ref a/\dH h a b/\vN b.toList ns
theorem XW.kd(x:XW h v ns):Uk h v=ns:=by obtain⟨a,e,rfl,⟨o,b,f,n,c⟩,d⟩:=x;show(match h.get? a with|some o=>_|none=>_)=_;rw[b];show(match o.data with|.seq g _=>_|_=>_)=_;rw[c];exact d.nums
theorem XW.mono(x:XW h v ns)(k:∀b o,o.cls=.type "tuple"->h.get? b=Z9 o->h'.get? b=Z9 o):XW h' v ns:=by obtain⟨a,c,rfl,⟨o,g,d,n,e⟩,f⟩:=x;exact⟨a,c,rfl,⟨o,k a o d g,d,n,e⟩,f⟩
def Qk(h:y9)(x y:y4):Bool:=HT.lexLt (Uk h x.1) (Uk h y.1)
theorem sD(h:y9):Xj (Qk h):=⟨λx y=>K5 _ _,λx y z=>K4 _ _ _⟩
section
variable {prog:yX}{w:y8}{A:y7}{E:yL}{s:yS}
theorem sC{b:Bool}{d c:Nat}{Q:Bool->yS->Prop}{us:yB}{ns:yA}(g:vN us ns):∀{vs:yB}{ms:yA} (i:Nat),vN vs ms->ns.length+c=ms.length+d ->
  Q (HT.lexLt ns ms) s->W.KatLex prog w A b (decide (d<c)) Q (us.zip vs) i s:=by
 induction g with
 |nil =>
  intro vs ms i a f h;refine W.kat_nil ?_;cases a with
  |nil=>rw[show decide (d<c)=Z5 from decide_eq_false (by lia)];exact h
  |cons m u a=>rw[show decide (d<c)=Z7 from decide_eq_true (by simp at f;lia)];exact h
 |cons n t g j =>
  intro vs ms i a f h;cases a with
  |nil =>
   rw[show decide (d<c)=Z5 from decide_eq_false (by simp at f;lia)];exact h
  |cons m u a =>
   refine W.kat_cons (wpAny_eqBool_int ?_);rw[HT.lexLt_cons]at h;by_cases e:n=m
   .subst e;rw[if_pos rfl]at h;rw[show(n == n)=Z7 by simp];exact W.kat_yes (j (i+1) a (by simp at f;lia) h)
   .rw[if_neg e]at h;rw[show(n == m)=Z5 by simpa using e];refine W.kat_no ?_;cases k:(b&&i == 0)with
    |true=>exact oneLt_int h
    |false=>exact W.kat_one _ _ (mZ h)
theorem sA(hk:k=tuples' Z7∨k=general'∨k=oneType')(z:A.units<vE):W0 prog w A s k (Qk s.heap) (λx=>∃ns,XW s.heap x.1 ns):=by
 rintro⟨x,K⟩ ⟨y,L⟩ ⟨ns,B⟩ ⟨H,D⟩ Q f;unfold Qk at f;rw[B.kd,D.kd]at f;obtain⟨a,q,G,⟨o,g,r,n,h⟩,j⟩:=B;obtain⟨b,l,t,⟨F,e,d,v,c⟩,i⟩:=D;dsimp only at G t f ⊢;subst G t;rcases hk with rfl|rfl|rfl
 .refine W.kat_lt g h e c (sC j 0 i ?_ f);rw[<- j.length,<- i.length];simp;lia
 .exact W.kat_one _ _ (HT.lt_tupInts ⟨o,g,r,n,h⟩ ⟨F,e,d,v,c⟩ j i z f)
 .rw[keyLt'_oneType,oneLt'_eq];refine yO (wpAny_cRoomFor z ?_);obtain⟨cls,J,u,I⟩:=o;obtain⟨C,p,data2,m⟩:=F;simp only at r h d c;subst r h d c;refine yO (wpAny_callSpecialIfBound?_slot ⟨_,g,rfl⟩ fJ (vL fJ ⟨_,g,rfl⟩ lM (lG _ _) (HT.tuple_lt_ints a b q l n v J p I m ns H j i) ⟨g,e,?_⟩));exact jH f
theorem Fe:∀(vs:yB),(∀v∈vs,∃ns,XW s.heap v ns)->∃fs:List (yF),fs.length=vs.length/\(∀f∈fs,∀v,f=Z9 v->∃n t,v=.int n t)/\∀{M:Model}{A:y7}{E:yL}{Q:List (yF)->yS->Prop},Q fs s->y2 M A (vs.mapM firstOfTuple') Q E s
 |[],_=>⟨[],rfl,λf b=>(by cases b),λh=>by rw[List.mapM_nil];exact yP h⟩
 |v::vs,hv=>by
  obtain⟨fs,l,m,g⟩:=Fe vs λu j=>hv u (qC4 _ j);obtain⟨ns,a,c,rfl,⟨o,d,p,n,i⟩,k⟩:=hv v (qC9 ..);refine⟨c[0]?::fs,by simp[l],λf b v e=>?_,λ{M A E Q} h=>?_⟩
  .rcases qC0.mp b with rfl|b
   .have:v∈c.toList:=by rw[<- jM]at e;exact qC2 e
    exact k.all v this
   .exact m f b v e
  .rw[qF6];refine yO ?_;rw[W.kas_first_eq];refine yO (j6 (T := "tuple") ⟨o,d,p⟩ ?_);rw[if_neg (by first|decide|simp)];refine yO (lU d i (yP ?_));exact yO (g (yP h))
theorem sx{vs:yB}(hv:∀v∈vs,∃ns,XW s.heap v ns)(i:0<vs.length)(h:∀k,(k=tuples' Z7∨k=general'∨k=oneType')->Q k s):
  y2 (yW prog w) A (keyKind' vs.toArray) Q E s:=by
 obtain⟨fs,C,D,q⟩:=Fe (s:=s) vs hv;rw[PyProof.Rows.kat_kind_eq,qM9,map_eq_pure_bind];refine yO (yO (q (yP ?_)));by_cases g:(fs.toArray.all λx=>x.isSome)=Z7
 .rw[if_pos g];refine yO (vR ?_);have z:∀v∈fs.filterMap id,∃n t,v=.int n t:=λv hv=>by obtain⟨f,y,e⟩:=qF2.mp hv;exact D f y v e
  have p:0<(fs.filterMap id).length:=by
   cases fs with
   |nil=>simp at C;lia
   |cons f fs =>
    cases f with
    |none=>simp at g
    |some v=>simp
  have l:fs.toArray.filterMap id=(fs.filterMap id).toArray:=by simp
  rw[l,oneTypeOnly'_eq,qM9,map_eq_pure_bind];refine yO (yO (yO (W.kas_mapM (r:=Value.type "int") _ (λv hv u j=>?_) (yP ?_))))
  .obtain⟨n,t,rfl⟩:=z v hv;exact yP j
  .obtain⟨c,fr,e⟩:∃c fr,fs.filterMap id=c::fr:=by
    cases j:fs.filterMap id with
    |nil=>rw[j]at p;simp at p
    |cons a b=>exact⟨a,b,rfl⟩
   rw[e];have i:(qR7 (λ_=>Value.type "int") (c::fr)).toArray[0]?=Z9 (Value.type "int"):=by simp
   have d:((qR7 (λ_=>Value.type "int") (c::fr)).toArray.all λx=>x == Value.type "int")=Z7:=by simp only[qQ6,qI0,qD0];intro _ _;rfl
   rw[i];simp only[d,if_true];exact yP (yP (h _ (.inl rfl)))
 .rw[if_neg g];split
  .exact yP (h _ (.inr (.inl rfl)))
  .rw[oneTypeOnly'_eq,qM9,map_eq_pure_bind];refine yO (yO (yO (W.kas_mapM (r:=Value.type "tuple") _ (λv m u j=>?_) (yP ?_))))
   .obtain⟨ns,a,B,rfl,⟨o,F,G,n,H⟩,I⟩:=hv v m;exact j6 (T := "tuple") ⟨o,F,G⟩ j
   .obtain⟨c,fr,rfl⟩:∃c fr,vs=c::fr:=by
     cases vs with
     |nil=>simp at i
     |cons a b=>exact⟨a,b,rfl⟩
    have i:(qR7 (λ_=>Value.type "tuple") (c::fr)).toArray[0]?=Z9 (Value.type "tuple"):=by simp
    have d:((qR7 (λ_=>Value.type "tuple") (c::fr)).toArray.all λx=>x == Value.type "tuple")=Z7:=by simp only[qQ6,qI0,qD0];intro _ _;rfl
    rw[i];simp only[d,if_true];exact yP (yP (h _ (.inr (.inr rfl))))
abbrev WZ(n:Nat):Prop:=n<64
theorem sv{vs:yB}(j:s.heap.get? a=Z9 (vX "list" vs.toArray n))(hv:∀v∈vs,∃ns,XW s.heap v ns)(hz:vs.length<=yV)(C:WZ vs.length)(K:A.units<vE)
  (h:∀out:yB,out.Perm vs->out.Pairwise (λx y=>HT.lexLt (Uk s.heap y) (Uk s.heap x)=Z5)->P (.done (.ret .none)) { s with heap:=sortedHeap s.heap a vs out.toArray }) :
  y2 (yW prog w) A (Builtin.«list.sort» ⟨[.ref a],[]⟩) P E s:=by
 rw[list_sort_plain];have I:=qB1 j;refine yO (lU j rfl ?_);refine yO (lC j rfl ?_ (by exact hz) (qE8 _));obtain⟨F,i⟩:∃F,(s.heap.update a (vU λ_=>#[])).get? a=Z9 (vX "list" #[] F):=⟨_,get?_update_seq j (λ_=>#[])⟩
 refine yO (uP i rfl ?_);refine yO (wpAny_newTuple ?_ hz);refine yO (fV ?_ (qE8 _));refine jG ?_;obtain⟨h6,l⟩:∃h6,((s.heap.update a (vU λ_=>#[])).push (vX "tuple" vs.toArray 0)).push (vX "list" #[] 0)=h6:=⟨_,rfl⟩
 have d:h6.get? a=Z9 (vX "list" #[] F):=by rw[<- l,qP9 _ _ _ (by rw[dF,qQ7];exact qB9 (qD7 I)),qP9 _ _ _ (by rw[qQ7];exact qB9 I)];exact i
 have kp:∀b o,o.cls=.type "tuple"->s.heap.get? b=Z9 o->h6.get? b=Z9 o:=λb o S q=>by
  have C:b≠a:=λe=>by subst e;rw[j]at q;cases q;exact absurd (Value.type.inj S) (by decide)
  rw[<- l];exact qA0 _ (qA0 _ ((qK1 _ _ (Ne.symm C)).trans q))
 rw[l];have g:∀v∈vs,∃ns,XW h6 v ns:=λv z=>let ⟨ns,x⟩:=hv v z;⟨ns,x.mono kp⟩
 have N:∀v∈vs,Uk h6 v=Uk s.heap v:=λv z=>by obtain⟨ns,x⟩:=hv v z;rw[x.kd,(x.mono kp).kd]
 have k:∀out:yB,out.Perm vs->out.Pairwise (λx y=>HT.lexLt (Uk s.heap y) (Uk s.heap x)=Z5)->P (.done (.ret .none)) { s with heap:=h6.update a (vU λ_=>out.toArray) }:=λout D t=>by rw[<- l];exact h out D t
 have m:vs.toArray.size=vs.length:=by simp
 by_cases h2:vs.toArray.size<2
 .rw[if_pos h2,if_pos h2];refine yO (yP ?_);refine yO (yP ?_);dsimp only;refine yO (uP d rfl ?_);have p:((vs.toArray.zip vs.toArray).map (·.2))=vs.toArray:=by
   grind
  rw[p];refine yO (lC d rfl ?_ (hsz2:=by lia));simp only[bne_self_eq_false];refine yP (k vs (.refl _) ?_)
  match vs,m,h2 with
  |[],_,_=>exact .nil
  |[v],_,_=>exact qD6 ..
  |_::_::_,hs,h2=>exact absurd h2 (by simp)
 .rw[if_neg h2,if_neg h2];refine yO (sx (s:={ s with heap:=h6 }) g (by lia) fun W r=>?_);have ez:vs.toArray.zip vs.toArray=(vs.zip vs).toArray:=by simp
  rw[ez];refine yO (jU (sE (Q:=λ_ c=>∃f,uO c=f.toArray/\failedOf c=Z8/\f.Perm (vs.zip vs)/\Yb (Qk h6) f) (sD h6) (sA r K) (λx B=>g _ (dZ B).2) (by simp;lia) (by simp;exact C)
   λf c D t M R=>⟨f,D,t,M,R⟩) ?_ λ_ _ e=>e)
  rintro⟨⟨⟩,c⟩ U ⟨rfl,f,H,L,u,hs⟩;refine yO (uP d rfl ?_);have p:(uO c).map (·.2)=(f.map (·.2)).toArray:=by rw[H];simp
  have J:=by have:=u.map (·.2);rwa[qQ8 (qA6 _)]at this
  rw[p];refine yO (lC d rfl ?_ (hsz2:=by rw[qB3,J.length_eq];lia));rw[L];simp only[bne_self_eq_false];refine yP (k _ J ?_);rw[qK5];refine hs.imp_of_mem λ{x y} B O G=>?_;have V:=dZ (u.mem_iff.mp B);have T:=dZ (u.mem_iff.mp O);unfold Qk at G
  grind
end
section
variable {prog:yX}{w:y8}{A:y7}{E:yL}{s:yS}{r:yR}
theorem Fd{Q:yB->yS->Prop}(c:s.heap.get? l=Z9 o)(f:o.cls=.type T)(e:o.data=.seq vs.toArray n)(g:T = "list"∨T = "tuple")
  (h:Q vs { s with heap:=(s.heap.push (vX "list" #[] 0)).update s.heap.objs.size (vU (·++vs.toArray)) }) (b:vs.length<=yV) :
  y2 (yW prog w) A (collect (.ref l)) Q E s:=by
 refine yO (wpAny_runValue (gC entry_proto_collect' ?_));refine yO (fV (yP ⟨Code.quiet_builtin _ (by decide),gC entry_list_iadd' ?_⟩) (qE8 _));show y2 _ _ (Builtin.List.listExtendWith (.ref s.heap.objs.size) (.ref l) (.ref s.heap.objs.size)) _ _ { s with heap:=s.heap.push (vX "list" #[] 0) };have a:(s.heap.push (vX "list" #[] 0)).get? l=Z9 o:=qA0 _ c;refine yO (j6 ⟨o,a,f⟩ ?_);have d:(Builtin.List.listSameRef (.ref s.heap.objs.size) (.ref l)||Value.type T == Value.type "list"||Value.type T == Value.type "tuple")=Z7:=by
  grind
 rw[if_pos d];refine yO (lU a e ?_);refine yO (lU (qA7 _ rfl) rfl ?_);refine yO (lC (qA7 _ rfl) rfl ?_ (qE8 _) (by simp only[vA,qB3,qH2];lia));refine yP ?_;refine yO (wpAny_load (get?_update_seq (qA7 _ rfl) _) ?_);show y2 _ _ (pure ((#[])++vs.toArray).toList) Q E _;rw[show((#[]:yJ)++vs.toArray).toList=vs by simp];exact yP h
theorem Fc(h:y9)(vs:yB):∀b o,h.get? b=Z9 o->((h.push (vX "list" #[] 0)).update h.objs.size (vU (·++vs.toArray))).get? b=Z9 o:=λb o g=>by rw[Heap.get?_update_ne _ _ _ _ (qB9 (qB1 g))];exact qA0 _ g
theorem su{j o:Type}(f:j->o){m n:List o}(h:m.Perm n):∀l:List j,n=l.map f->∃g:List j,g.Perm l/\m=g.map f:=by
 induction h with
 |nil=>intro l e;exact⟨[],by cases l with|nil=>exact .refl _|cons _ _=>simp at e,rfl⟩
 |cons x p v =>
  intro l e;cases l with
  |nil=>simp at e
  |cons a l =>
   injection e with d c;obtain⟨g,u,q⟩:=v l c;exact⟨a::g,u.cons a,by rw[qB2,d,q]⟩
 |swap x y l =>
  intro l e
  match l,e with
  |[],e=>simp at e
  |[_],e=>simp at e
  |a::b::l,e =>
   injection e with d c;injection c with c e3;exact⟨b::a::l,.swap a b l,by simp[d,c,e3]⟩
 |trans p q k i =>
  intro l e;obtain⟨B,z,d⟩:=i l e;obtain⟨C,t,c⟩:=k B d;exact⟨C,t.trans z,c⟩
abbrev Uj(a:List (yR×yA)):Prop:=a.Pairwise λx y=>HT.lexLt y.2 x.2=Z5
theorem Fb{Q:yL}(m:a.length<=yV)(D:WZ a.length)(F:∀t∈a,XW s.heap (.ref t.1) t.2)(I:A.units+2<vE)
  (H:∀(A:y7) (E:yL) (R:yB->yS->Prop),A.handled=Z8->(∀(h':y9) (tk:Nat) (dr:Drawn),(∀b o,s.heap.get? b=Z9 o->h'.get? b=Z9 o)->R (a.map λt=>.ref t.1) { s with heap:=h',toks:=tk,drawn:=dr })->y2 (yW prog w) A (collect (.ref r)) R E s)
  (z:A.handled=Z8)
  (h:∀(j:y9) (l:yR) (h':y9) (tk:Nat) (dr:Drawn) (e:Nat) (c:List (yR×yA)),(∀b o,s.heap.get? b=Z9 o->j.get? b=Z9 o)->(∀b o,j.get? b=Z9 o->h'.get? b=Z9 o)->j.objs.size<=l->h'.get? l=Z9 (vX "list" (c.map λt=>Value.ref t.1).toArray e)->c.Perm a->Uj c->Q (.ref l) { s with heap:=h',toks:=tk,drawn:=dr }) :
  y2 (yW prog w) A (mY (.builtin "sorted") [.ref r]) Q E s:=by
 refine wL uM dS dU (dW _) ?_;refine yO (yP ?_);refine yO (H _ _ _ z λh' tk dr hk=>?_);have d:(a.map λt=>Value.ref t.1).length=a.length:=by simp
 refine yO (fV ?_ (by rw[d];exact m));have f:(h'.push (vX "list" (a.map λt=>Value.ref t.1).toArray 0)).get? h'.objs.size=Z9 (vX "list" (a.map λt=>Value.ref t.1).toArray 0):=qA7 _ rfl;have n:∀t∈a,XW (h'.push (vX "list" (a.map λt=>Value.ref t.1).toArray 0)) (.ref t.1) t.2:=λt p=>(F t p).mono λb o _ g=>qA0 _ (hk b o g);refine yO (jG (jE mP ⟨_,f,rfl⟩ mB (sv f (λv hv=>?_) (by rw[d];exact m) (by rw[d];exact D) (by lia) λout G q=>⟨_,rfl,?_⟩) (mQ _)))
 .obtain⟨t,p,rfl⟩:=qC8.mp hv
  grind
 obtain⟨c,i,rfl⟩:=su _ G a rfl;obtain⟨e,B⟩:=m9 f;refine yP ⟨_,rfl,h h' h'.objs.size _ tk dr e c hk (λb o g=>?_) (qA6 _) B i ?_⟩
 .have lt:=qB1 g;rw[mR (qB9 lt) (by rw[dF];exact qD7 lt)];exact qA0 _ g
 .rw[qK5]at q;refine q.imp_of_mem λ{x y} u C k=>?_;rwa[(n x (i.mem_iff.mp u)).kd,(n y (i.mem_iff.mp C)).kd]at k
end
section
variable {X:Cx}
theorem E9{Z:St}(I:ZO X b Z H s)(h:Zp X.K H a (ns.map V.int)):XW s.heap (.ref a) ns:=by obtain⟨c,r,p,_⟩:=I.tuple h;exact⟨a,c.toArray,rfl,p,by simpa using QE r⟩
theorem E8:∀{a:List (yR×yA)}{us:yB},ZJ (a.map λt=>V.ref t.1) us->us=a.map λt=>Value.ref t.1
 |[],us,r=>by cases r;rfl
 |t::a,us,r=>by
  cases r with
  |cons h r =>
   rw[E8 r];cases h;rfl
theorem K3:∀(a:List (yR×yA)),ZJ (a.map λt=>V.ref t.1) (a.map λt=>Value.ref t.1)
 |[]=>.nil
 |t::a=>.cons rfl (K3 a)
theorem sk(K:X.calm=Z7):Yk X (.builtin "sorted") (λvs H Q=>∃(p:yR) (ns:yA),vs=[.ref p]/\Zp X.K H p (ns.map V.int)/\ns.length<64/\∀(l:yR) (ms:yA),H l=Z8->ms.Perm ns->ms.Pairwise (·<=·)->Q (.ref l) (ZF H l (.lst (ms.map V.int)))):=by
 intro j s Z H P t Q I r h;obtain⟨p,ns,rfl,D,m,q⟩:=h;obtain⟨u,rfl,x⟩:=XC r;cases x;obtain⟨i,k,⟨o,J,f,n,y⟩,M⟩:=I.tuple D;have a:=k.length;rw[qA1]at a;refine Fs m (λA E R N C=>Fd J f y (.inr rfl) (C _ s.toks s.drawn i ns (Fc _ _) (QE k) (.refl _)) (by rw[<- a,j7];lia)) (I.ok.hd K) λO G L d dr e t ms k2 z le w F c B=>?_;have v:=(I.kept (t':=d) λb o e=>k2 b o e).dr dr;refine⟨.ref G,_,v.laid (t':=d) z le ?_,rfl,q _ _ (v.hok.fresh le) c B⟩;have g:ms.length<64:=by rw[c.length_eq];exact m
 exact⟨by rw[qA1];exact qC5 (qF4 g) (by decide),t,e,Lg F,by simpa using w⟩
theorem sj(O:X.calm=Z7)(z:X.A.units+2<vE):Yk X (.builtin "sorted") (λvs H Q=>∃(p:yR) (c:List (yR×yA)),vs=[.ref p]/\YK X.K H p (c.map λt=>V.ref t.1)/\(∀t∈c,Zp X.K H t.1 (t.2.map V.int))/\WZ c.length /\
  ∀(l:yR) (a:List (yR×yA)),H l=Z8->a.Perm c->Uj a->Q (.ref l) (ZF H l (.lst (a.map λt=>V.ref t.1)))):=by intro i s Z H W S Q I r h;obtain⟨p,c,rfl,F,D,K,q⟩:=h;obtain⟨u,rfl,v⟩:=XC r;cases v;obtain⟨J,B,⟨o,n,N,g,L,w⟩,f⟩:=I.list F;have G:=E8 B;subst G;rw[qA1]at f;refine Fb f K (λt h=>E9 I (D t h)) z (λA E R T C=>Fd N g w (.inl rfl) (C _ s.toks s.drawn (Fc _ _)) (by rw[qA1];exact f)) (I.ok.hd O) λU M P d dr e a k2 y le m j x=>?_;have k:=(I.kept (t':=d) λb o e=>k2 b o e).dr dr;refine⟨.ref M,_,k.laid (t':=d) y le ?_,rfl,q _ _ (k.hok.fresh le) j x⟩;exact⟨by rw[qA1,j.length_eq];exact f,_,e,K3 a,by simpa using m⟩
theorem sf{prog:yX}{w:y8}{d:yR}{es:Array vJ}{j:Nat}(lo:(d == jZ)=Z5):W.KdlSrc prog w "dict" d d es.size (λi v=>∃e,es[i]?=Z9 e/\v=e.key) (λh=>U5 h d es j) where
 type:=λ_ ⟨o,q,r,_⟩=>⟨o,q,r⟩
 there:=λ_ c=>⟨c.lt,c.lt⟩
 keep:=λ_ _ c hk=>c.at λo e=>hk d (.inl rfl) o e
 notList:=by decide
 notTuple:=by decide
 hint:=λ_ _ _ _ ⟨o,q,r,_⟩ n=>W.kdl_hint_dict ⟨o,q,r⟩ n
 iter:=λA s u c=>⟨_,λi h=>h.IsKeyIter s.heap.objs.size d i es.size j/\U5 h d es j,(λ_ _ n=>Ft lo c n),{
  sub:=λb f=>by simp at f;simp[f]
  frame:=λ_ _ _ a hk=>⟨a.1.at λo e=>hk _ (by simp) o e,a.2.at λo e=>hk d (by simp) o e⟩
  item:=λi m Q E x a g=>by refine Fu a.1 a.2 (show es[i]?=Z9 es[i] by simp) λk p t=>?_;exact g _ k m.toks ⟨_,by simp,rfl⟩ ⟨p,a.2.at λo e=>t.extBut d o (qB9 c.lt) e⟩ λb o f e=>t.extBut b o (λh=>f (by simp[h])) e
  done:=λm Q E a g=>Qp u a.1 a.2 (by simp) λk l=>g k m.toks λb o f e=>l b o (λh=>f (by simp[h])) e
  self:=λ_ _ _ _ a g=>mS a.1 g },⟨⟨_,qA7 _ rfl,rfl,rfl⟩,c.at λo e=>qA0 _ e⟩⟩
theorem sd{H:Hp}:∀{d:List (yA)}{f:List (List Zz×V)}{xs:List (List Zz×yR×yT)},KT H f xs->f.map (·.1)=d.map (·.map Sum.inl)->∃g:List (yR×yA),g.map (·.2)=d/\xs.map (λx=>x.2.1)=g.map (·.1)/\∀t∈g,H t.1=Z9 (.tup (t.2.map V.int)):=by
 intro d f xs r
 induction r generalizing d with
 |nil =>
  intro e;cases d with
  |nil=>exact⟨[],rfl,rfl,λt h=>(by cases h)⟩
  |cons _ _=>simp at e
 |@cons p q m n k t l =>
  intro e;cases d with
  |nil=>simp at e
  |cons j d =>
   simp only[qB2]at e;injection e with e1 e2;obtain⟨g,a,b,c⟩:=l e2;refine⟨(q.2.1,j)::g,by simp[a],by simp[b],λt i=>?_⟩;rcases qC0.mp i with rfl|i
   .have:=k.2.1;rw[e1,qC6]at this;exact this
   .exact c t i
theorem rZ(hc:X.calm=Z7)(hu:X.A.units+2<vE):Yk X (.builtin "sorted") (λvs H Q=>∃(p:yR) (g:List (List Zz×V)) (c:List (yA)),vs=[.ref p]/\H p=Z9 (.dT g)/\g.map (·.1)=c.map (·.map Sum.inl)/\WZ c.length /\
  ∀(l:yR) (a:List (yR×yA)),H l=Z8->(∀t∈a,H t.1=Z9 (.tup (t.2.map V.int)))->(a.map (·.2)).Perm c->Uj a->Q (.ref l) (ZF H l (.lst (a.map λt=>V.ref t.1)))):=by
 intro z s Z H xs us Q I r h;obtain⟨p,g,c,rfl,hp,hk,F,q⟩:=h;obtain⟨u,rfl,P⟩:=XC r;cases P;obtain⟨hz,W,xs,L,o,w,ep,ho,hx,S,J,hn⟩:=(I.hok p _ hp)
 obtain⟨a,y,G,K⟩:=sd L hk;have M:w.size=a.length:=by
  have a1:=congrArg qG1 J;have a2:=congrArg qG1 G
  grind
 have i:a.length<=sizeLine:=by
  have a2:=congrArg qG1 hk
  grind
 have n:U5 s.heap p w ep:=⟨o,ho,hx.1,S⟩
 refine Fb i (by rw[<- y,qA1]at F;exact F) (λt h=>E9 I (Zp.of (K t h))) hu (λA E R O hR=>dA (sf W) O n (by lia) λh' tk acc N d=>?_) (I.ok.hd hc) λh2 l2 h3 k dr e m k2 U le g3 f T=>?_
 .have ea:acc.toList=a.map λt=>Value.ref t.1:=by
   apply List.ext_getElem?;intro j;have hsz:acc.toList.length=a.length:=by rw[jN,d.1,M]
   by_cases hj:j<a.length
   .obtain⟨v,B⟩:∃v,acc.toList[j]?=Z9 v:=⟨_,qA9 (by lia)⟩
    obtain⟨en,e3,Y⟩:=d.2 j v (by rw[<- jM];exact B);rw[B,Y,<- jM,J,qB6]at *;obtain⟨x,e5,e6⟩:=qA4.mp e3;have D:=congrArg (·[j]?) G;simp only[qB6,e5]at D;obtain⟨t,e8,e9⟩:=qA4.mp D.symm;rw[e8,<- e6];simp[entryOfKey,e9]
   .simp_all
  grind
 .have C:=(I.kept (t':=k) λb o e=>k2 b o e).dr dr;refine⟨.ref l2,_,C.laid (t':=k) U le ?_,rfl,q _ _ (C.hok.fresh le) (λt h=>K t (f.mem_iff.mp h)) (by rw[<- y];exact f.map _) T⟩;exact⟨by rw[qA1,f.length_eq];exact i,_,e,K3 m,by simpa using g3⟩
end
def Ui(a:yR)(o:Obj):It :=
 ⟨λi H=>∃b,H a=Z9 (.frz o (.dK b))/\i<b.length,λi H x c=>c=H/\∀b,H a=Z9 (.frz o (.dK b))->∃p,b[i]?=Z9 p/\x=kV p.1,λi H=>∃b,H a=Z9 (.frz o (.dK b))/\b.length<=i⟩
theorem rY{prog:yX}{w:y8}:∀{es:List vJ}{vs:List (Zz×yT)},Pairs (Yp prog w) es vs->∀{i:Nat}{q:Zz×yT},vs[i]?=Z9 q->∃e,es[i]?=Z9 e/\(Yp prog w).is q.1 e.key=Z7:=by
 intro es vs h
 induction h with
 |nil=>intro i q e;simp at e
 |cons b c _ a =>
  intro i q e;cases i with
  |zero=>simp at e;subst e;exact⟨_,rfl,b⟩
  |succ i=>exact a (by simpa using e)
theorem rX:∀{es:List vJ}{vs:List (Zz×yT)},Pairs (Yp prog w) es vs->es.length=vs.length:=by
 intro es vs h
 induction h with
 |nil=>rfl
 |cons _ _ _ a=>simp[a]
inductive rW(X:Cx)(H:Hp)(h:y9)(a:yR)(o:Obj)(kvs:List (Zz×V)):Prop
 |mk (es:Array vJ) (ep:Nat) (vs:List (Zz×yT)) (g:h.get? a=Z9 o) (c:o.cls=.type "dict") (d:o.data=.dict es ep) (r:KV kvs vs) (p:Pairs (Yp X.prog X.w) es.toList vs) (lo:(a == jZ)=Z5) (z:kvs.length<=yV)
theorem K2{Z:St}(I:ZO X b Z H s)(e:H a=Z9 (.frz o (.dK kvs))):rW X H s.heap a o kvs:=by
 obtain⟨g,z,i,k,r,n,j,f,c,l,d,m,h,p⟩:=(I.hok a _ e)
 rw[g]at c;cases c;exact⟨j,f,k,g,l.1,d,r,h,i,z⟩
theorem rV(h:Ut k v=Z7):ZG (kV k) v:=by
 rcases UP h with⟨i,t,rfl,rfl⟩| ⟨x,t,rfl,rfl⟩
 .exact⟨t,rfl⟩
 .exact⟨t,rfl⟩
theorem rT{P:yX}{w:y8}{K:yQ}{tg:yY}(a m:yR)(o:Obj)(es:Array vJ)(T:Nat)(A:o.data=.dict es T):XD P w K tg (Ui a o) [m] m (λi h=>h.IsKeyIter m a i es.size T) where
 mem:=by simp
 obj:=λi h f b l=>by
  have e:=by simpa using l
  subst e;obtain⟨o,e,c,d⟩:=f;exact⟨o,e,λv z=>by rw[d]at z;cases z⟩
 keep:=λi h U f k=>f.at λo e=>k m (by simp) o e
 item:=by
  intro X Y W V hc i n s Z H E I x f S;obtain⟨F,y,R⟩:=S;obtain⟨C,B,Q,g,c,d,r,p,lo,z⟩:=K2 I y;rw[A]at d;cases d;obtain⟨L,O,f2,N,J,G⟩:=x m (by simp);have M:i<Q.length:=by rw[<- Paired.length r];exact R
  obtain⟨q,u⟩:∃q,Q[i]?=Z9 q:=⟨_,qA9 M⟩
  obtain⟨e,he,hk⟩:=rY p u;have j:es[i]?=Z9 e:=by rw[<- jM];exact he
  refine Fu f ⟨o,g,c,A⟩ j λU t sb=>?_;have I1:=I.turned (t':=s.toks) (λb o l e=>(sb.2 b l).trans e) L O N J G;obtain⟨oi,ei,ci,di⟩:=id t;refine⟨_,rfl,QO ei ci di (by decide) ⟨kV q.1,H,I1,rV hk,⟨rfl,λkvs' h2=>?_⟩,t,λb l=>(x b l).1⟩⟩;rw[y]at h2;cases h2;obtain⟨p',D,hr⟩:=Lf r u;exact⟨p',D,by rw[hr.1]⟩
 done:=by
  intro X Y W V hc i n s Z H E I x f S;subst Y W V;obtain⟨F,y,R⟩:=S;obtain⟨C,B,Q,g,c,d,r,p,lo,z⟩:=K2 I y;rw[A]at d;cases d;obtain⟨L,O,f2,N,J,G⟩:=x m (by simp);have j:es[i]?=Z8:=by rw[<- jM,List.getElem?_eq_none];rw[rX p,<- Paired.length r];exact R
  exact Qp (I.ok.hd hc) f ⟨o,g,c,A⟩ j λU eb=>⟨rfl,I.turned (t':=s.toks) (λb o l e=>eb b o l e) L O N J G⟩
 self:=λ_ _ _ _ _ f h=>mS f h
theorem ZO.freeze{Z:St}(I:ZO X c Z H s)(e:H a=Z9 (.dK d)):∃o,ZO X c Z (ZF H a (.frz o (.dK d))) s:=by
 obtain⟨z,m,p,r,o,n,j,f,t,i,l,k,v⟩:=(I.hok a _ e)
 refine⟨o,?_⟩;have h:SZ (H a):=by rw[e];trivial
 have g:Ye X.prog X.w (ZF H a (.frz o (.dK d))) s.heap:=I.hok.write h (.inl rfl) (λb u _ q=>q) ⟨o,f⟩ ⟨f,z,m,p,r,o,n,j,f,t,i,l,k,v⟩;exact I.un (t':=s.toks) (Un.write h (.inl rfl) (λb u _ q=>q) ⟨o,f⟩) g
section
variable {X:Cx}{tg e:yY}
theorem rS{Z:St}(m:ZO X f Z l s1)(q:∃h,((l a=Z9 (.dK h)/\∀o,R (Ui a o) (ZF l a (.frz o (.dK h))))∨∃o,l a=Z9 (.frz o (.dK h))/\R (Ui a o) l)):y2 (yW X.prog X.w) X.A (pyIter (.ref a)) (Oy X f Z tg R) X.xe s1:=by
 obtain⟨h,q⟩:=q;have go:∀{j:Hp}{o:Obj},ZO X f Z j s1->j a=Z9 (.frz o (.dK h))->R (Ui a o) j->y2 (yW X.prog X.w) X.A (pyIter (.ref a)) (Oy X f Z tg R) X.xe s1:=by
  intro j o i k q;obtain⟨t,n,v,g,c,d,r,p,s,z⟩:=K2 i k;refine Ft s ⟨o,g,c,d⟩ ?_;refine⟨s1.heap.objs.size,[s1.heap.objs.size],_,_,j,rfl,i.kept (t':=s1.toks) λb o e=>qA0 _ e,rT a _ o t n d,⟨_,qA7 _ rfl,rfl,rfl⟩,λb u=>?_,q⟩;have e:=by simpa using u
  subst e;exact i.fpOk (qA6 _) (i.hok.fresh (qA6 _))
 rcases q with⟨k,q⟩| ⟨o,k,q⟩
 .obtain⟨o,i⟩:=m.freeze k;exact go i Yx (q o)
 .exact go m k q
end
section
variable {X:Cx}
theorem rR:Ow X "dict.update" (λx vs H Q=>∃a b c more,x=.ref a/\vs=[.ref b]/\a≠b/\H a=Z9 (.dK c)/\Rd H b (.dK more)/\c.length+more.length<=yV/\Q .non (ZF H a (.dK (V2 c more)))):=by
 intro e s Z H x vs v A Q I p r h;obtain⟨a,b,c,more,rfl,rfl,d,l,w,j,q⟩:=h;cases p;obtain⟨u,rfl,n⟩:=XC r;cases n;obtain⟨B,Fl,vs,k,g⟩:=RG I.hok l;obtain⟨D,Oe,y,i,z⟩:=Tx I.hok w;refine call_meetsIn lE g.typeIs PySem.F.entry_dict_update (PySem.F.args_dict_update_2 _ _) (meets_dict_update (Yp X.prog X.w) a b d Oe) ⟨vs,y,g,z,by rw[<- Paired.length k,<- Paired.length i];exact j,λm f C sb=>?_⟩;have o:=qC5 (Oq more c) j;have t:∃q,m.get? a=Z9 q:=let ⟨q,_,_,hq,_⟩:=f;⟨q,hq⟩
 exact⟨.non,ZF H a (.dK (V2 c more)),Ot (t':=s.toks) I (by rw[l];exact True.intro) sb t (Qz o Fl (KV.merge i k) f),rfl,q⟩
theorem E7:Yk X (.builtin "len") (λxs H Q=>∃a b,xs=[.ref a]/\Rd H a (.dK b)/\Q (.int (b.length:Int)) H):=by intro c s Z H xs i Q I r h;obtain⟨a,b,rfl,e,q⟩:=h;obtain⟨u,rfl,f⟩:=XC r;cases f;exact vx I e λt g d=>⟨.int _,H,d,⟨t,rfl⟩,q⟩
end
section
variable {prog:yX}{w:y8}{A:y7}{E:yL}{s:yS}{z:yR}
theorem rQ{Q:yF->yS->Prop}{xs:yJ}{c:Array (yF)}(hz:s.heap.get? z=Z9 { cls:=.type "list",dict:=Z8,data:=.seq xs n,slots:=c })(h:A.handled=Z8)(f:∀h' tk,(∀b o,s.heap.get? b=Z9 o->h'.get? b=Z9 o)->Q Z8 { s with heap:=h',toks:=tk }):
  y2 (yW prog w) A (getAttr? (.ref z) (Str.ofString "keys")) Q E s:=by
 refine yO (wpAny_mkText ?_);refine yO (vI (jG (yO (j6 ⟨_,hz,rfl⟩ ?_))));refine yO (yP ?_);refine yO (yP ?_);refine yO (vI (jG ?_));refine jE F.slot_list_getattribute ⟨_,hz,rfl⟩ am_entry_list_getattribute ?_ (F.args_list_getattribute_2 _ _);refine yO (yP ?_);refine yO (yP ?_);refine yO (j6 ⟨_,hz,rfl⟩ ?_);refine yO (yO (yP (yO (yP (yO (yP ?_))))));refine yO (yO (yO (wpAny_load hz ?_)));refine yO (wpAny_loadPart hz ?_);refine yP ?_;refine yP ?_;refine yO (yP ?_);refine yO (vR (yP ?_));refine yO (yO (yO (j6 ⟨_,hz,rfl⟩ (yP ?_))));refine yP ?_;refine wpAny_raiseAttrError h (λh' tk e ne=>?_) (by size_fits);have a:∀g d os,Shared.TypeIs { heap:=h',gens:=g,drawn:=d,toks:=tk,os:=os } (.ref e) "AttributeError":=λg d os=>let ⟨_,_,q⟩:=ne.there;⟨_,q,rfl⟩
 refine yO (wK (a _ _ _) Fx ?_);refine yO (yP ?_);refine yO (wpAny_throw ?_);refine yO (wK (a _ _ _) Fx ?_);exact yP (f h' tk ne.keeps)
structure VN where
 t:yR
 k:Zz
 key:yT
 v:yT
def VN.at(q:VN)(h:y9):Prop:=∃o n,h.get? q.t=Z9 o/\o.cls=.type "tuple"/\o.data=.seq #[q.key,q.v] n
structure DL(prog:yX)(w:y8)(it l d:yR)(items:yJ)(qs:List VN)(h0:y9):Prop where
 n:items.size=qs.length
 e:∀(i:Nat) (q:VN),qs[i]?=Z9 q->items[i]?=Z9 (Value.ref q.t)
 k:∀q∈qs,(Yp prog w).is q.k q.key=Z7
 p:∀q∈qs,q.at h0
 l:h0.IsList l items
 fr:∀c o,h0.get? c=Z9 o->c≠it/\c≠d
 nd:it≠d
abbrev Uh(xs:List (Zz×yT))(b:List VN):List (Zz×yT):=b.foldl (λa q=>uF a q.k q.v) xs
theorem rP(xs:List (Zz×yT))(k:Zz)(v:yT):(uF xs k v).length<=xs.length+1:=by
 unfold uF;split
 .rw[qA1];lia
 .simp
theorem rO{f l d:yR}{items:yJ}{a:List VN}{i:y9}(ZZ:DL prog w f l d items a i)(M:A.handled=Z8){R:uD->yS->Prop}:∀(m k:Nat) (s:yS) (xs:List (Zz×yT)),k+m=a.length->xs.length+m<=yV->s.heap.IsListIter f l k->s.heap.DictOf (Yp prog w) d xs->(∀c o,i.get? c=Z9 o->s.heap.get? c=Z9 o) ->
  (∀h' tk,h'.DictOf (Yp prog w) d (Uh xs (a.drop k))->(∀c o,i.get? c=Z9 o->h'.get? c=Z9 o)->R (.ok (.ret .none)) { s with heap:=h',toks:=tk }) ->
  wR (yW prog w) A (.builtin "dict.update.loop" ⟨[.ref d,.ref f,wM (k:Int),.none],[]⟩) R s:=by
 intro m
 induction m with
 |zero =>
  intro k s xs hk J p dr b g;refine gC Fw ?_;have Q:=ZZ.n;refine yO (fI M p (qL1.at ZZ.l λo q=>b _ o q) (by simp;lia) λh' F=>?_);refine yP ?_;have H:a.drop k=[]:=qN6 (by lia);rw[H]at g;refine g h' s.toks ?_ λc o q=>F c o (ZZ.fr c o q).1 (b c o q);obtain⟨o,t,j,B,r⟩:=dr;exact⟨o,t,j,F _ _ (Ne.symm ZZ.nd) B,r⟩
 |succ m N =>
  intro k s xs hk J p dr b g;refine gC Fw ?_;have h:k<a.length:=by lia
  have L:=qA9 h;have C:=qQ9 h;refine yO (fA p (qL1.at ZZ.l λo q=>b _ o q) (ZZ.e k _ L) λO x sb=>?_);have G:=λc o q=>(sb.2 c (ZZ.fr c o q).1).trans (b c o q);obtain⟨o,n,B,P,I⟩:=ZZ.p _ C;have e:=G _ _ B;have v:O.DictOf (Yp prog w) d xs:=by obtain⟨o,t,j,q,r⟩:=dr;exact⟨o,t,j,(sb.2 d (Ne.symm ZZ.nd)).trans q,r⟩
  refine yO (jG (yO (wpAny_tryCatch ?_)));refine yO (j6 ⟨_,e,P⟩ ?_);refine yO (jS e I (yP ?_));refine jG (wpAny_dictSet_pairs (ZZ.k _ C) v (λS K D=>?_) (by lia));refine yP ⟨Fv _,?_⟩;refine N (k+1) _ _ (by lia) (by have:=rP xs a[k].k a[k].v;lia) (x.at λo q=>(D.2 f ZZ.nd).trans q) K (λc o q=>(D.2 c (ZZ.fr c o q).2).trans (G c o q)) λh' u y ex=>g h' u ?_ ex;rw[qG2 h];exact y
theorem rN{items:yJ}{x:Array (yF)}{Q:yL}(p:A.handled=Z8)(m:s.heap.get? l=Z9 { cls:=.type "list",dict:=Z8,data:=.seq items n,slots:=x })(G:items.size=a.length)(he:∀(i:Nat) (q:VN),a[i]?=Z9 q->items[i]?=Z9 (Value.ref q.t))(hk:∀q∈a,(Yp prog w).is q.k q.key=Z7)(C:∀q∈a,q.at s.heap)(hz:a.length<=yV)
  (H:∀h' tk,h'.DictOf (Yp prog w) s.heap.objs.size (Uh [] a)->(∀c o,s.heap.get? c=Z9 o->h'.get? c=Z9 o)->Q (.ref s.heap.objs.size) { s with heap:=h',toks:=tk }) :
  y2 (yW prog w) A (mY (.type "dict") [.ref l]) Q E s:=by
 refine callType_codes F.kt_called_dict (F.kt_typeCall_dict_1 _) F.entry_dict_init (kt_code_dict_new (Q₁:=λobj k=>obj=.ref s.heap.objs.size/\k={ s with heap:=s.heap.push { cls:=.type "dict",data:=.dict #[] } }) _ ⟨rfl,rfl⟩) λobj k D=>?_;obtain⟨rfl,rfl⟩:=D;have u:(s.heap.push { cls:=Value.type "dict",data:=Data.dict #[] }).get? s.heap.objs.size=Z9 { cls:=Value.type "dict",data:=Data.dict #[] }:=qA7 _ rfl;have t:Shared.TypeIs { s with heap:=s.heap.push { cls:=Value.type "dict",data:=Data.dict #[] } } (.ref s.heap.objs.size) "dict":=⟨_,u,rfl⟩
 refine⟨t,F.args_dict_init_2 _ _,?_⟩;refine yO (yO (mE t ?_));refine yO (yP (yP ?_));have b:=qA0 { cls:=Value.type "dict",data:=Data.dict #[] } m;refine yO (j6 ⟨_,b,rfl⟩ ?_);refine yO (rQ b p λf tk k2=>?_);refine yO (vR ?_);have j:=k2 _ _ b;have y:f.IsList l items:=⟨_,j,rfl,n,rfl⟩
 refine yO (jQ y ?_);refine yP ⟨Fv _,?_⟩;have d:∀c o,s.heap.get? c=Z9 o->c<s.heap.objs.size:=λc o e=>qB1 e;have J:=qB1 (k2 _ _ u);have ex:∀c o,s.heap.get? c=Z9 o->(f.push { cls:=.type "list_iterator",data:=.fields #[.ref l,.int 0 0] }).get? c=Z9 o:=λc o q=>qA0 _ (k2 _ _ (qA0 _ q));have I:f.DictOf (Yp prog w) s.heap.objs.size []:=by
  obtain⟨o,B,v,q,r⟩:=(Heap.DictOf.new (knd:=Yp prog w) s.heap)
  exact⟨o,B,v,k2 _ _ q,r⟩
 have ZZ:DL prog w f.objs.size l s.heap.objs.size items a s.heap:=⟨G,he,hk,C,⟨_,m,rfl,n,rfl⟩,λc o e=>⟨by have:=d c o e;lia,by have:=d c o e;lia⟩,by lia⟩
 refine rO (A:=A.in1) ZZ p a.length 0 _ [] (by lia) (by simpa using hz) ⟨_,qA7 _ rfl,rfl,rfl⟩ (I.push _) ex λh' g dr h=>⟨rfl,H h' g (by simpa using dr) h⟩
end
section
variable {X:Cx}
theorem E6:∀(a:List VN) (ps:List (Zz×V)),a.map (·.k)=ps.map (·.1)->(∀(i:Nat) (q:VN) (p:Zz×V),a[i]?=Z9 q->ps[i]?=Z9 p->ZG p.2 q.v)->∀{kvs:List (Zz×V)}{vs:List (Zz×yT)},KV kvs vs->KV (V2 kvs ps) (Uh vs a)
 |[],[],_,_,kvs,vs,r=>r
 |[],_::_,h,_,_,_,_=>by cases h
 |_::_,[],h,_,_,_,_=>by cases h
 |q::a,p::ps,h,hr,kvs,vs,r=>by rw[qB2,qB2,qK0.injEq]at h;have:=E6 a ps h.2 (λi q p c b=>hr (i+1) q p (by simpa using c) (by simpa using b)) (r.put q.k (hr 0 q p rfl rfl));show KV (V2 (YP kvs p.1 p.2) ps) (Uh (uF vs q.k q.v) a);rw[<- h.1];exact this
def K1(H:Hp):List V->List (Zz×V)->Prop:=mH λv (p:Zz×V)=>∃t,v=.ref t/\H t=Z9 (.tup [kV p.1,p.2])
theorem rM{c:yD}{Z:St}{H:Hp}{s:yS}(I:ZO X c Z H s):∀{xs:List V}{ps:List (Zz×V)}{us:yB},K1 H xs ps->ZJ xs us->∃a:List VN,us.length=a.length/\(∀(i:Nat) (q:VN),a[i]?=Z9 q->us[i]?=Z9 (Value.ref q.t))/\(∀q∈a,(Yp X.prog X.w).is q.k q.key=Z7)/\(∀q∈a,q.at s.heap)/\a.map (·.k)=ps.map (·.1)/\∀(i:Nat) (q:VN) (p:Zz×V),a[i]?=Z9 q->ps[i]?=Z9 p->ZG p.2 q.v:=by
 intro xs ps us h
 induction h generalizing us with
 |nil=>intro r;cases r;exact⟨[],rfl,λi q e=>(by simp at e),λq h=>(by cases h),λq h=>(by cases h),rfl,λi q p e=>(by simp at e)⟩
 |@cons x p xs ps E _ F =>
  intro r;obtain⟨t,rfl,A⟩:=E;cases r with
  |@cons _ u _ us m r =>
   cases (m);obtain⟨a,D,l,j,y,B,J⟩:=F r;obtain⟨G,z,⟨o,K,M,n,w⟩,_⟩:=I.tuple (Zp.of A);obtain⟨k,v,rfl,L,f⟩:=QG z;refine⟨⟨t,p.1,k,v⟩::a,by simp[D],λi q e=>?_,λq b=>?_,λq b=>?_,by simp[B],λi q C g d=>?_⟩
   .cases i with
    |zero=>simp at e;subst e;rfl
    |succ i=>exact l i q (by simpa using e)
   .rcases qC0.mp b with rfl|b
    .exact Tz L
    .exact j q b
   .rcases qC0.mp b with rfl|b
    .exact⟨o,n,K,M,w⟩
    .exact y q b
   .cases i with
    |zero=>simp at g d;subst g d;exact f
    |succ i=>exact J i q C (by simpa using g) (by simpa using d)
theorem rL(C:X.calm=Z7):Yk X (.type "dict") (λvs H Q=>∃(l:yR) (xs:List V) (ps:List (Zz×V)),vs=[.ref l]/\H l=Z9 (.lst xs)/\K1 H xs ps/\xs.length<=yV/\∀q,H q=Z8->Q (.ref q) (ZF H q (.dK (V2 [] ps)))):=by
 intro c s Z H vs E Q I r h;obtain⟨l,xs,ps,rfl,v,x,y,q⟩:=h;obtain⟨u,rfl,p⟩:=XC r;cases p;obtain⟨_,z,n,d,_,e⟩:=I.lstM v;obtain⟨g,f,o,m,t,j,A⟩:=rM I x d;have a:g.length<=sizeLine:=by rw[<- f,<- d.length];exact y
 refine rN (I.ok.hd C) e (by simpa using f) (λi q e=>by simpa using o i q e) m t a λD B dr ex=>?_;have k:=E6 g ps j A .nil;have b:=(Lz (P:=X.prog) (w:=X.w) (H:=H) s.heap I.big).2.1;refine⟨.ref s.heap.objs.size,ZF H s.heap.objs.size (.dK (V2 [] ps)),I.laid (t':=B) ex (qA6 _) (Qz ?_ b k dr),rfl,q _ (I.hok.fresh (qA6 _))⟩;refine qC5 (Oq ps []) ?_;have:=congrArg qG1 j;simp at this;simp;lia
end
theorem K0:∀{ns:yA}{us:yB},ZJ (ns.map V.int) us->∃xs:List (Int×Tok),us=xs.map (λp=>Value.int p.1 p.2)/\xs.map (·.1)=ns
 |[],us,h=>by cases h;exact⟨[],rfl,rfl⟩
 |n::ns,us,h=>by
  cases h with
  |cons b a =>
   obtain⟨t,rfl⟩:=b;obtain⟨xs,rfl,e⟩:=K0 a;exact⟨(n,t)::xs,rfl,by simp[e]⟩
section
variable {X:Cx}
theorem E5{xs:List (Int×Tok)}{ns:yA}(e:xs.map (·.1)=ns)(h:(mT xs.toArray)[j]?=Z9 v):∃M t,v=Value.int M t/\M=numAt xs.toArray j/\M∈ns:=by
 obtain⟨t,rfl⟩:=intItems_at h;refine⟨_,t,rfl,rfl,?_⟩;have a:=by have:=(Array.getElem?_eq_some_iff.mp h).1;simpa[mT]using this
 rw[numAt_eq];subst e;simp only[qM1];rw[qA9 (by simpa using a)];exact qQ9 _
theorem rK(z:X.calm=Z7):Yk X (.builtin "min") (λvs H Q=>∃(p:yR) (ns:yA),vs=[.ref p]/\YK X.K H p (ns.map V.int)/\0<ns.length/\∀M,M∈ns->(∀a∈ns,M<=a)->Q (.int M) H):=by
 intro c s Z H F C Q I r h;obtain⟨p,ns,rfl,n,B,q⟩:=h;obtain⟨u,rfl,g⟩:=XC r;cases g;obtain⟨x,l,i,D⟩:=I.list n;obtain⟨b,rfl,e⟩:=K0 l;have d:b.length=ns.length:=by rw[<- e];simp
 have w:s.heap.IsList p (mT b.toArray):=by have:=i.isList;simpa[mT]using this
 refine min_intList (I.ok.hd z) w (by simp;lia) λv A E hv k=>?_;obtain⟨M,t,rfl,f,o⟩:=E5 e hv;refine⟨.int M,H,I.kept k,⟨t,rfl⟩,q M o λa y=>?_⟩;obtain⟨j,m,rfl⟩:=qM0 y;have:=(argBest_lt (numAt b.toArray) (b.toArray.size - 1)).2 j (by simp;lia);rw[f];refine qQ0 this ?_;rw[numAt_eq,qO8,e];simp[qM1,m]
theorem rJ(z:X.calm=Z7):Yk X (.builtin "max") (λvs H Q=>∃(p:yR) (ns:yA),vs=[.ref p]/\YK X.K H p (ns.map V.int)/\0<ns.length/\∀M,M∈ns->(∀a∈ns,a<=M)->Q (.int M) H):=by
 intro c s Z H F C Q I r h;obtain⟨p,ns,rfl,n,B,q⟩:=h;obtain⟨u,rfl,g⟩:=XC r;cases g;obtain⟨x,l,i,D⟩:=I.list n;obtain⟨b,rfl,e⟩:=K0 l;have d:b.length=ns.length:=by rw[<- e];simp
 have w:s.heap.IsList p (mT b.toArray):=by have:=i.isList;simpa[mT]using this
 refine max_intList (I.ok.hd z) w (by simp;lia) λv A E hv k=>?_;obtain⟨M,t,rfl,f,o⟩:=E5 e hv;refine⟨.int M,H,I.kept k,⟨t,rfl⟩,q M o λa y=>?_⟩;obtain⟨j,m,rfl⟩:=qM0 y;have:=(argBest_gt (numAt b.toArray) (b.toArray.size - 1)).2 j (by simp;lia);rw[f];refine qQ0 ?_ this;rw[numAt_eq,qO8,e];simp[qM1,m]
end
section
variable {X:Cx}
theorem E4:∀{ss:yH}{its:yB},ZJ (ss.map V.str) its->∃l:List (Str×Tok),its=uG l/\l.map (·.1)=ss
 |[],its,h=>by cases h;exact⟨[],rfl,rfl⟩
 |z::ss,its,h=>by obtain⟨u,r,rfl,a,b⟩:=h.cinv;obtain⟨t,rfl⟩:=a;obtain⟨l,rfl,e⟩:=E4 b;exact⟨(z,t)::l,rfl,by rw[qB2,e]⟩
theorem KY:∀l:List (Str×Tok),ZJ ((l.map (·.1)).map V.str) (uG l)
 |[]=>.nil
 |p::l=>.cons ⟨p.2,rfl⟩ (KY l)
def rH:V->List V->Hp->VK->Prop:=λx a H Q=>∃z l ss,x=.str z/\a=[.ref l]/\H l=Z9 (.lst (ss.map V.str))/\uH z ss=Z7/\Q (.str (Txt.join z ss)) H
theorem rG:UL X "str.join" rH:=by intro b s Z H x o v p Q I d g h;obtain⟨z,l,ss,rfl,rfl,f,a,q⟩:=h;obtain⟨t,rfl⟩:=d;obtain⟨u,rfl,c⟩:=g.one;cases c;obtain⟨_,j,n,r,_,e⟩:=I.lstM f;obtain⟨m,rfl,i⟩:=E4 r;exact SC.join ⟨_,e,rfl,_,rfl⟩ i a λw k=>⟨.str _,H,I.tok k,⟨_,rfl⟩,q⟩
def rF:V->List V->Hp->VK->Prop:=λx a H Q=>∃z y,x=.str z/\a=[.str y]/\Q (.int (Txt.find z y)) H
theorem rE:UL X "str.find" rF:=by intro a s Z H x f v g Q I c d h;obtain⟨z,y,rfl,rfl,q⟩:=h;obtain⟨t,rfl⟩:=c;obtain⟨u,rfl,b⟩:=d.one;obtain⟨e,rfl⟩:=b;exact call_gives mF (vT _ _ _) PySem.F.entry_str_find (PySem.F.args_str_find_2 _ _) (gives_str_find z y t e) ⟨.int _,H,I.tok _,⟨_,rfl⟩,q⟩
open Builtin Builtin.Str in
def rD:V->List V->Hp->VK->Prop:=λx a H Q=>∃z y,x=.str z/\a=[.str y]/\(y.length == 0)=Z5/\z.length<=yV/\(partsBetween z (occurrences z y 0 z.length (z.length+1)) y.length).length<=yV/\∀l,H l=Z8->Q (.ref l) (ZF H l (.lst ((Txt.split z y).map V.str)))
open Builtin Builtin.Str in
theorem rC:UL X "str.split" rD:=by
 intro d s Z H x A v B Q I n p h;obtain⟨x,y,rfl,rfl,j,i,f,q⟩:=h;obtain⟨t,rfl⟩:=n;obtain⟨u,rfl,m⟩:=p.one;obtain⟨u,rfl⟩:=m;have q:=q _ (I.hok.fresh (qA6 s.heap.objs.size));have one:∀z:Str,((1:Nat)<=yV):=λ_=>by rw[j7];decide
 have a:∀(l:List (Str×Tok)) (k:Nat),l.length<=yV->l.map (·.1)=Txt.split x y->EP X d Z Q (.ref s.heap.objs.size) { s with heap:=s.heap.push { cls:=.type "list",data:=.seq (uG l).toArray 0 },toks:=k }:=λl k r e=>by rw[<- e]at q;refine⟨.ref s.heap.objs.size,_,I.laid (t':=k) (λb o w=>qA0 _ w) (qA6 _) (show XE X.prog X.w _ _ _ (.lst ((l.map (·.1)).map V.str))from⟨by rw[qA1,qA1];exact r,_,_,KY l,qA7 _ rfl⟩),rfl,q⟩
 cases c:(decide (x.length<y.length)||decide (strKind x<strKind y))
 .cases g:(occurrences x y 0 x.length (x.length+1)).isEmpty
  .refine vL jO (vT _ _ _) jY (wP _ _) (meets_str_split_sep x y t u c j g i f) ?_;show wants _ X.xe _ { s with toks:=_,heap:=s.heap.push { cls:=.type "list",data:=.seq (strsFrom s.toks (partsBetween x (occurrences x y 0 x.length (x.length+1)) y.length)).toArray } };rw[strsFrom_eq];have e:(numbered s.toks (partsBetween x (occurrences x y 0 x.length (x.length+1)) y.length)).map (·.1)=Txt.split x y:=(mU _ _).trans ((if_neg (ne_true_of_eq_false c)).trans (if_neg (ne_true_of_eq_false g))).symm;refine a _ _ ?_ e;have:=congrArg qG1 (mU s.toks (partsBetween x (occurrences x y 0 x.length (x.length+1)) y.length));rw[qA1]at this
   lia
  .exact vL jO (vT _ _ _) jY (wP _ _) (meets_str_split_not_found x y t u c j g)
    (a [(x,t)] s.toks (one x) ((if_neg (ne_true_of_eq_false c)).trans (if_pos g)).symm)
 .exact vL jO (vT _ _ _) jY (wP _ _) (meets_str_split_cannot_occur x y t u c)
   (a [(x,t)] s.toks (one x) (if_pos c).symm)
def KW(b:TE):TE:=fun Z H Q=>b Z H λx a=>(∃i,x=.int i/\i.natAbs.log2<1920/\Q (.str (toString i)) a)∨∃z,x=.str z/\z.length<=yV/\Q (.str z) a
theorem rB(l:PE X e f):PE X (.FormattedValue e (-1) Z8 pos) (KW f):=by
 intro a s Z H Q I h;refine wpAny_FormattedValue_plain (Zt (l a s Z H _ I h) λv m ⟨x,c,b,d,j⟩=>?_);rcases j with⟨i,rfl,g,q⟩| ⟨z,rfl,k,q⟩
 .obtain⟨t,rfl⟩:=d;exact wpAny_formatField_int g ⟨.str _,c,b.tok _,⟨_,rfl⟩,q⟩
 .obtain⟨t,rfl⟩:=d;exact wpAny_formatField_str ⟨.str _,c,b,⟨_,rfl⟩,q⟩ ⟨.str _,c,b.tok _,⟨_,rfl⟩,q⟩ k
inductive Ry(X:Cx):yE->List TE->Prop
 |nil:Ry X [] []
 |cons {e es t ts}:PE X e t->Ry X es ts->Ry X (e::es) (t::ts)
def Oc:List TE->Str->TE
 |[],acc=>λ_ H Q=>acc.length<=yV/\Q (.str acc) H
 |t::b,acc=>fun Z H Q=>t Z H λx a=>∃y,x=.str y/\(acc++y).length<=yV/\Oc b (acc++y) Z a Q
theorem E3{a:yD}{Z:St}{Q:VK}:∀{es:yE}{d:List TE},Ry X es d->∀(acc:Str) (H:Hp) (s:yS),ZO X a Z H s->Oc d acc Z H Q ->
  Joins (yW X.prog X.w) X.A X.xe (evalEach es X.env) acc (λout b=>out.length<=yV/\EP X a Z Q (.str out b.toks) { b with toks:=b.toks+1 }) s
 |_,_,.nil,acc,H,s,I,h=>⟨h.1,.str acc,H,I.tok _,⟨_,rfl⟩,h.2⟩
 |e::es,t::d,.cons m c,acc,H,s,I,h=>by show y2 _ _ (jW e X.env) _ _ s;refine Zt (m a s Z H _ I h) λv g ⟨x,k,j,i,y,l,f,q⟩=>?_;subst l;obtain⟨t,rfl⟩:=i;exact⟨y,t,rfl,f,E3 c _ k g j q⟩
theorem rA{es:yE}(h:Ry X (d::b::es) c):PE X (.JoinedStr (d::b::es) pos) (Oc c Str.empty):=by intro a s Z H Q I q;exact wpAny_JoinedStr (E3 h _ H s I q)
end
section
variable {X:Cx}
def KU:V->yG->yG->Hp->VK->Prop:=λx a b H Q=>∃z,x=.str z/\z.length<=yV/\Q (.str (Txt.slice z a b)) H
theorem E2{o:yG}(h:g8 v o):∃p:Option (Int×Tok),v=partValue p/\p.map (·.1)=o:=by
 cases h with
 |none=>exact⟨Z8,rfl,rfl⟩
 |int i t=>exact⟨Z9 (i,t),rfl,rfl⟩
theorem rz:SU X KU:=by intro a s Z H x v o j i m g Q I d b c f h;obtain⟨z,rfl,e,q⟩:=h;obtain⟨t,rfl⟩:=d;obtain⟨l,rfl,rfl⟩:=E2 c;obtain⟨u,rfl,rfl⟩:=E2 f;refine⟨"str",_,PySem.F.slot_str_getitem.lookup,vT _ _ _,wpAny_getItem_str_slice (l:=l) (u:=u) (st:=Z8) b rfl ?_⟩;exact post_val_or_str ⟨qC5 (Txt.slice_le z _ _) e,λn k=>⟨.str _,H,I.tok k,⟨_,rfl⟩,q⟩⟩
theorem ry:Yk X (.type "int") (λxs H Q=>∃z n,xs=[.str z]/\wI z=Z9 n/\z.length<=640/\Q (.int n) H):=by intro a s Z H xs d Q I r h;obtain⟨z,n,rfl,c,b,q⟩:=h;obtain⟨u,rfl,t,rfl⟩:=XC r;exact W.KIN.call_text c b ⟨.int n,H,I.tok _,⟨_,rfl⟩,q⟩
end
section
variable {X:Cx}
open Builtin Builtin.Str in
def UI(z y:Str):Bool:=0+y.length<=z.length&&subAt z y 0
def rx:V->List V->Hp->VK->Prop:=λx a H Q=>∃z y,x=.str z/\a=[.str y]/\Q (.bl (UI z y)) H
theorem rq:UL X "str.startswith" rx:=by intro a s Z H x f v g Q I c d h;obtain⟨z,y,rfl,rfl,q⟩:=h;obtain⟨t,rfl⟩:=c;obtain⟨u,rfl,b⟩:=d.one;obtain⟨e,rfl⟩:=b;exact call_gives gF (vT _ _ _) PySem.F.entry_str_startswith (PySem.F.args_str_startswith_2 _ _) (gives_str_startswith z y t e) ⟨.bl _,H,I,rfl,q⟩
open Builtin Builtin.Str in
def Rx(x y:Str)(k:Int):yH :=
 if(decide (x.length<y.length)||decide (strKind x<strKind y))=Z7 then[x]else if(occurrences x y 0 x.length (g7 x k)).isEmpty=Z7 then[x]else partsBetween x (occurrences x y 0 x.length (g7 x k)) y.length
open Builtin Builtin.Str in
def rp:V->List V->Hp->VK->Prop:=λx a H Q=>∃z y k,x=.str z/\a=[.str y,.int k]/\(decide (k < -(2 ^ 63:Int))||decide (k≥2 ^ 63))=Z5/\(y.length == 0)=Z5/\z.length<=yV/\(partsBetween z (occurrences z y 0 z.length (g7 z k)) y.length).length<=yV/\∀l,H l=Z8->Q (.ref l) (ZF H l (.lst ((Rx z y k).map V.str)))
open Builtin Builtin.Str in
theorem ro:UL X "str.split" rp:=by
 intro d s Z H x C v D Q I w z h;obtain⟨x,y,k,rfl,rfl,hk,p,j,f,q⟩:=h;obtain⟨t,rfl⟩:=w;obtain⟨u,i,rfl,r,n⟩:=z.two;obtain⟨u,rfl⟩:=r;obtain⟨i,rfl⟩:=n;have q:=q _ (I.hok.fresh (qA6 s.heap.objs.size));have one:(1:Nat)<=sizeLine:=by rw[j7];decide
 have a:∀(l:List (Str×Tok)) (m:Nat),l.length<=yV->l.map (·.1)=Rx x y k->EP X d Z Q (.ref s.heap.objs.size) { s with heap:=s.heap.push { cls:=.type "list",data:=.seq (uG l).toArray 0 },toks:=m }:=λl m A e=>by rw[<- e]at q;refine⟨.ref s.heap.objs.size,_,I.laid (t':=m) (λb o B=>qA0 _ B) (qA6 _) (show XE X.prog X.w _ _ _ (.lst ((l.map (·.1)).map V.str))from⟨by rw[qA1,qA1];exact A,_,_,KY l,qA7 _ rfl⟩),rfl,q⟩
 unfold Rx at a;cases c:(decide (x.length<y.length)||decide (strKind x<strKind y))
 .cases g:(occurrences x y 0 x.length (g7 x k)).isEmpty
  .rw[if_neg (ne_true_of_eq_false c),if_neg (ne_true_of_eq_false g)]at a;refine vL jO (vT _ _ _) jY (wQ _ _ _) (meets_str_split_sep_max x y k t u i hk c p g j f) ?_;show wants _ X.xe _ { s with toks:=_,heap:=s.heap.push { cls:=.type "list",data:=.seq (strsFrom s.toks (partsBetween x (occurrences x y 0 x.length (g7 x k)) y.length)).toArray } };rw[strsFrom_eq];have e:(numbered s.toks (partsBetween x (occurrences x y 0 x.length (g7 x k)) y.length)).map (·.1)=_:=mU _ _;refine a _ _ ?_ e;have:=congrArg qG1 e;rw[qA1]at this
   lia
  .rw[if_neg (ne_true_of_eq_false c),if_pos g]at a;exact vL jO (vT _ _ _) jY (wQ _ _ _) (meets_str_split_max_not_found x y k t u i hk c p g) (a [(x,t)] s.toks one rfl)
 .rw[if_pos c]at a;exact vL jO (vT _ _ _) jY (wQ _ _ _) (meets_str_split_max_cannot_occur x y k t u i hk c) (a [(x,t)] s.toks one rfl)
end
section
variable {P:yX}{w:y8}{h:y9}{X:Cx}{pins:yD}{Z:St}{H:Hp}{s:yS}{a C dx:yR}{fs:List (Str×V)}{f:Str}{v:V}{A:y7}{E:yL}
theorem Qj(c:Ye P w H h)(e:Rd H a (.ins C dx fs)):∃b,WB h a dx C b/\∀f,Yh (fs.lookup f) (b f):=by
 obtain⟨d,z,ne,g,b,n,r,q⟩:=(show XE P w H h a (.ins C dx fs)from e.ok c)
 exact⟨b,⟨g,n,ne⟩,r⟩
theorem rn{Q:yL}(I:ZO X pins Z H s)(e:Rd H a (.ins C dx fs))(c:WO X.K C)(n:Vr X.K C f)(l:fs.lookup f=Z9 v)
  (h:∀u s',ZO X pins Z H s'->ZG v u->Q u s'):y2 (yW X.prog X.w) A (getAttr (.ref a) f b) Q E s:=by obtain⟨i,O,r⟩:=Qj I.hok e;obtain⟨u,g,d⟩:=Yh.some_of (v:=v) (o:=i f) (by rw[<- l];exact r f);exact yc I.kIn O (c.get f) c.hd n g (x2 d) (h u _ (I.tok _) d)
theorem rm{Q:yT×yB->yS->Prop}(I:ZO X pins Z H s)(e:Rd H a (.ins C dx fs))(c:WO X.K C)(k:Up X.K C m g)(l:fs.lookup m=Z8)
  (h:Q (.ref g,[.ref a]) s):y2 (yW X.prog X.w) A (uC (.ref a) m pl) Q E s:=by obtain⟨d,O,r⟩:=Qj I.hok e;have b:d m=Z8:=Yh.none_of (by rw[<- l];exact r m);exact yb I.kIn O (c.get m) k.at_ k.fn b h
theorem ZO.freezeI(I:ZO X pins Z H s)(e:H a=Z9 (.ins C dx fs)):∃o,ZO X pins Z (ZF H a (.frz o (.ins C dx fs))) s:=by
 obtain⟨d,z,ne,c,j,n,r,q⟩:=(show XE X.prog X.w H s.heap a (.ins C dx fs)from I.hok a _ e)
 refine⟨wC C dx,?_⟩;have i:SZ (H a):=by rw[e];trivial
 have g:Ye X.prog X.w (ZF H a (.frz (wC C dx) (.ins C dx fs))) s.heap:=I.hok.write i (.inl rfl) (λb u _ q=>q) ⟨_,c⟩ ⟨c,by rw[Y2 ne];exact d,z,ne,c,j,n,r,q⟩;exact I.un (t':=s.toks) (Un.write i (.inl rfl) (λb u _ q=>q) ⟨_,c⟩) g
end
def rl(K:yQ)(d:TE)(f:Str):TE:=fun Z H Q=>d Z H λx b=>∃a C c fs v,x=.ref a/\Rd b a (.ins C c fs)/\WO K C/\Vr K C f/\fs.lookup f=Z9 v/\Q v b
def rk(C:yR)(m:Str)(h:Sp)(b:List V)(E:XK)(f:TE)(t:TA):TE:=fun Z H Q=>f Z H λx c=>∃a e fs,x=.ref a/\Rd c a (.ins C e fs)/\fs.lookup m=Z8 /\
 t Z c λg d=>h (x::(g++b)) d Q E
section
variable {X:Cx}{CX:Vq}{k:Nat}{f C:yR}{fd:j4}{ps:yH}{sp:Sp}{dvs:List V}{ds:yB}{E:XK}{x m:Str}{p pos apos:Pos}{e o:yY}{es:yE}{ta:TE}{t:TA}
theorem rj(he:PE X e ta)(y:vS e d X.env (jW e X.env)=jW e X.env):PE X (.Attribute e d pos) (rl X.K ta d):=by intro b s Z H Q I h;refine xX y (Zt (he b s Z H _ I h) λu A ⟨x,w,r,i,a,C,F,fs,v,ex,z,c,n,l,q⟩=>?_);subst ex;obtain rfl:u=Value.ref a:=i;exact rn r z c n l λB D j g=>⟨v,w,j,g,q⟩
theorem ri(he:PE X o ta)(c:WO X.K C)(i:Up X.K C m f)(F:Yw X.prog X.w X.K X.mg X.base CX k f fd ps sp)(z:Zh k X.A)(G:Wi X.K fd ps ds)(w:ZJ dvs ds)(D:SV CX X E)(J:PA X (e::es) t)
  (d:y3 (e::es) X.env=(Z5,jW e X.env)::y3 es X.env) (hpl:(vB pos (y3 es X.env)).any (·.1)=Z5)
  (A:jW (.Call (.Attribute o m apos) (e::es) [] pos) X.env=(do
   let ov <- jW o X.env
   gU apos.atName
   let (f,first) <- wJ [ov] (uC ov m pl)
   callWith pos f first (vB pos (y3 (e::es) X.env)) (wH pos (j8 [] X.env)))) :
  PE X (.Call (.Attribute o m apos) (e::es) [] pos) (rk C m sp dvs E ta t):=by intro b s Z H Q I h;refine W.methodCall_KW (pl:=pl) (Zt (he b s Z H _ I h) λu n ⟨x,B,j,y,a,N,fs,ex,K,l,q⟩=>?_) A;subst ex;obtain rfl:u=Value.ref a:=y;refine rm j K c i l ?_;refine W.callWith_K (first:=[.ref a]) (h₀:=X.base) I.ok.mod.kin i.kp (Zt (J pos b n Z B _ j q) λus M ⟨vs,L,g,r,v⟩=>⟨g.kIn,?_⟩) d hpl;exact Gm (us:=.ref a::us) (vs:=.ref a::vs) F z G w D g (.cons rfl r) v
end
def KS(f:Str)(a c d b:Pos):List Stmt:=[.Assign [.Attribute (.Name "self" a) f c] (.Dict [] [] d) b]
def E1(C:yR)(f:Str):Sp:=λb H Q _=>∃(p a:yR),b=[.ref p]/\H p=Z9 (.ins C a [])/\∀d,H d=Z8->Q .non (ZF (ZF H d (.dK [])) p (.ins C a [(f,.ref d)]))
structure Ug(K:yQ)(mg:Str->yF)(N f:Str)(C g:yR):Prop where
 cl:WO K C
 no:Vr K C f
 mgC:mg N=Z9 (.ref C)
 mak:Mk K C g
 ini:∃q st fd p1 p2 p3 p4,V3 K "__init__" q st g fd/\RH ["self"] ["self"] (YH st)/\Wi K fd ["self"] []/\XB st=KS f p1 p2 p3 p4/\(YH st).names.lookup ("self":Str)=Z9 NameKind.local
section
variable {P:yX}{w:y8}{K:yQ}{mg:Str->yF}{base:y9}
theorem rh{st:vO}(F:V3 K "__init__" q st g j)(S:RH ["self"] ["self"] (YH st))(cl:WO K C)(o:Vr K C f)(y:XB st=KS f x m t u)(r:(YH st).names.lookup ("self":Str)=Z9 NameKind.local):Yw P w K mg base VP 1 g j ["self"] (E1 C f):=by
 refine F.ok S (λv H Q E h=>?_) (λn A b s H v Q E z h=>?_)
 .obtain⟨p,l,rfl,_⟩:=h;rfl
 .obtain⟨p,l,rfl,e,k⟩:=h;rw[y];refine⟨_,Af (xW (GI (i:=0) rfl (.inl r) (by decide) (by decide)) FX rfl),?_⟩;intro d c;have a:p≠d:=Vb e c;exact⟨_,rfl,p,C,l,[],rfl,(by rw[Y2 a];exact e),cl,o,(by show 0<1000;decide),k d c⟩
end
def EZ(C:yR)(f:Str):TE:=fun Z H Q=>∀x a d,H x=Z8->H a=Z8->H d=Z8->a≠x->d≠x->d≠a ->
 Q (.ref x) (ZF (ZF (ZF (ZF (ZF H a (.own x)) x (.ins C a [])) d (.dK [])) x (.ins C a [(f,.ref d)])) x (.frz (wC C a) (.ins C a [(f,.ref d)])))
section
variable {X:Cx}{N f:Str}{C g:yR}{p pos:Pos}
theorem ZO.freezeJ{Z:St}(I:ZO X b Z H s)(e:H a=Z9 (.ins C c fs)):ZO X b Z (ZF H a (.frz (wC C c) (.ins C c fs))) s:=by
 obtain⟨o,j⟩:=I.freezeI e;have h:=(j.hok a _ Yx)
 obtain⟨d,z,ne,k,l,n,r,q⟩:=(show XE X.prog X.w H s.heap a (.ins C c fs)from I.hok a _ e)
 obtain⟨i,_⟩:=h;rw[k]at i;cases i;exact j
theorem rg(D:Ug X.K X.mg N f C g)(t:Zh 2 X.A)(K:Gl X N)(i:SV VP X E0)(hdb:Wm N):PE X (.Call (.Name N p) [] [] pos) (EZ C f):=by
 obtain⟨q,R,z,V,P,T,U,F,S,J,B,r⟩:=D.ini;have G:Yw X.prog X.w X.K X.mg X.base VP 1 g z ["self"] (E1 C f):=rh F S D.cl D.no B r;intro c s Z H Q I h;have m:=xN (p:=p) (pos:=pos) D.mak G t K D.mgC J .nil i hdb;refine Zt (m c s Z H (λv k=>∃x a d,H x=Z8/\H a=Z8/\H d=Z8/\a≠x/\d≠x/\d≠a/\v=.ref x/\k=ZF (ZF (ZF (ZF H a (.own x)) x (.ins C a [])) d (.dK [])) x (.ins C a [(f,.ref d)])) I ?_) ?_
 .intro x a i j ne;refine⟨x,a,rfl,Yx,λd b=>⟨rfl,x,a,d,i,j,?_,ne,?_,?_,rfl,rfl⟩⟩
  .by_cases e:d=x
   .subst e;rw[Yx]at b;cases b
   .rw[Y2 e]at b;by_cases l:d=a
    .subst l;rw[Yx]at b;cases b
    .rw[Y2 l]at b;exact b
  .rintro rfl;rw[Yx]at b;cases b
  .rintro rfl;rw[Y2 ne,Yx]at b;cases b
 .rintro u O ⟨v,k,A,y,x,a,d,E,L,n,M,o,w,rfl,rfl⟩;exact⟨_,_,A.freezeJ Yx,y,h x a d E L n M o w⟩
end
set_option genInjectivity true in
inductive D where
 |non|bl (b:Bool)| int (i:Int)| str (x:Str)| ty (n:String)| tup (xs:List D)| lst (n:Nat)| dct (n:Nat)| rol (xs:List D)
 |ob (n:Nat)
 |ktp (xs:yH)
inductive O where
 |lst (xs:List D)| dk (kvs:List (Zz×D))| dt (kvs:List (List Zz×D))
 |fk (kvs:List (Zz×D))
abbrev ZU:=List O
abbrev ZR:=List (Option D)
def SB(K:yQ)(H:Hp)(a:yR)(xs:List V):Prop:=(∃o,H a=Z9 (.frz o (.lst xs))) ∨
  ∃(o:Obj) (b:yJ) (n:Nat),K.lookup a=Z9 o/\o.cls=.type "list"/\o.dict=Z8/\o.data=.seq b n/\b.size<=yV/\ZJ xs b.toList
theorem SB.sq{K:yQ}(h:SB K H a xs):YK K H a xs:=by
 rcases h with⟨o,h⟩| h
 .exact .inl (.inr ⟨o,h⟩)
 .exact .inr h
structure TF(K:yQ)(H H':Hp):Prop where
 t:TK K H H'
 f:∀a xs,SB K H a xs->SB K H' a xs
 u:∀a xs,H a=Z9 (.tup xs)->H' a=Z9 (.tup xs)
 z:∀a o u,H a=Z9 (.frz o u)->H' a=Z9 (.frz o u)
theorem TF.refl(K:yQ)(H:Hp):TF K H H:=⟨TK.refl K H,λ_ _ h=>h,λ_ _ h=>h,λ_ _ _ h=>h⟩
theorem TF.trans{K:yQ}(a:TF K H d)(b:TF K d H2):TF K H H2:=⟨a.t.trans b.t,λp c h=>b.f p c (a.f p c h),λp c h=>b.u p c (a.u p c h),λp o u h=>b.z p o u (a.z p o u h)⟩
theorem q0{K:yQ}(h:∀q o,q≠p->H q=Z9 o->H' q=Z9 o)(c:∀xs,H p≠Z9 (.tup xs))(a:∀x y,H p≠Z9 (.frz x y)):TF K H H':=by
 refine⟨λq b e=>?_,λq b e=>?_,λq b e=>h _ _ (λz=>c _ (z▸e)) e,λq o u e=>h _ _ (λz=>a _ _ (z▸e)) e⟩
 .rcases e with(e|⟨w,e⟩)| e
  .exact .inl (.inl (h _ _ (λz=>c _ (z▸e)) e))
  .exact .inl (.inr ⟨w,h _ _ (λz=>a _ _ (z▸e)) e⟩)
  .exact .inr e
 .rcases e with⟨w,e⟩| e
  .exact .inl ⟨w,h _ _ (λz=>a _ _ (z▸e)) e⟩
  .exact .inr e
theorem Ts{K:yQ}(e:H p=Z9 u)(b:∀xs,u≠.tup xs)(c:∀x y,u≠.frz x y):TF K H (ZF H p o) :=
 q0 (λq v a h=>by rw[Y2 a];exact h) (λxs h=>by rw[e]at h;exact b xs (Option.some.inj h)) (λx y h=>by rw[e]at h;exact c x y (Option.some.inj h))
theorem Ob{K:yQ}(e:H p=Z9 (.lst xs)):TF K H (ZF H p o):=Ts e (λ_ z=>by cases z) (λ_ _ z=>by cases z)
theorem EY{K:yQ}(h:XY H H'):TF K H H':=⟨λp b e=>h.tup e,λq a e=>by
 rcases e with⟨w,e⟩| e
 .exact .inl ⟨w,h _ _ e⟩
 .exact .inr e,λ_ _ e=>h _ _ e,λ_ _ _ e=>h _ _ e⟩
mutual
def RV(K:yQ)(H:Hp)(J:yC):D->V->Prop
 |.non,v=>v=.non
 |.bl b,v=>v=.bl b
 |.int i,v=>v=.int i
 |.str x,v=>v=.str x
 |.ty n,v=>v=.ty n
 |.tup d,v=>∃p c,v=.ref p/\H p=Z9 (.tup c)/\RVs K H J d c
 |.lst n,v=>∃a,v=.ref a/\J[n]?=Z9 a
 |.dct n,v=>∃a,v=.ref a/\J[n]?=Z9 a
 |.rol d,v=>∃p c,v=.ref p/\SB K H p c/\RVs K H J d c
 |.ob n,v=>∃a o C e b,v=.ref a/\H a=Z9 (.frz o (.ins C e [("kept",.ref b)]))/\J[n]?=Z9 b/\mV K jC "Desk"=Z9 (Z9 (.ref C))
 |.ktp d,v=>∃p,v=.ref p/\Zp K H p (d.map V.str)
def RVs(K:yQ)(H:Hp)(J:yC):List D->List V->Prop
 |[],vs=>vs=[]
 |d::b,vs=>∃v a,vs=v::a/\RV K H J d v/\RVs K H J b a
end
def YN{b:Type}(K:yQ)(H:Hp)(J:yC)(a:List (b×D))(ws:List (b×V)):Prop:=a.map (·.1)=ws.map (·.1)/\RVs K H J (a.map (·.2)) (ws.map (·.2))
def OR(K:yQ)(H:Hp)(J:yC)(a:yR):O->Prop
 |.lst e=>∃d,H a=Z9 (.lst d)/\RVs K H J e d
 |.dk b=>∃c,H a=Z9 (.dK c)/\YN K H J b c
 |.dt b=>∃c,H a=Z9 (.dT c)/\YN K H J b c
 |.fk b=>∃o c,H a=Z9 (.frz o (.dK c))/\YN K H J b c
structure SR(K:yQ)(J:yC)(S:ZU)(H:Hp):Prop where
 len:J.length=S.length
 nd:J.Nodup
 obj:∀(n:Nat) (a:yR) (o:O),J[n]?=Z9 a->S[n]?=Z9 o->OR K H J a o
structure ZC(K:yQ)(J J':yC)(H H':Hp):Prop where
 pre:∃ν,J'=J++ν/\∀b∈ν,H b=Z8
 fr:∀b o,b∉J->H b=Z9 o->H' b=Z9 o
 tk:TF K H H'
section
variable {K:yQ}{H H' H1 H2:Hp}{J J' J1 J2:yC}{S S':ZU}
mutual
theorem RV.up(tk:TF K H H')(pre:∃g,J'=J++g):∀(d:D) (v:V),RV K H J d v->RV K H' J' d v
 |.non,v,h=>by simpa[RV]using h
 |.bl b,v,h=>by simpa[RV]using h
 |.int i,v,h=>by simpa[RV]using h
 |.str x,v,h=>by simpa[RV]using h
 |.ty n,v,h=>by simpa[RV]using h
 |.tup f,v,h=>by obtain⟨p,c,e,q,r⟩:=h;exact⟨p,c,e,tk.u p c q,RVs.up tk pre f c r⟩
 |.lst n,v,h=>by obtain⟨a,e,q⟩:=h;obtain⟨g,rfl⟩:=pre;exact⟨a,e,by rw[qA8 (qA5.mp q).1];exact q⟩
 |.dct n,v,h=>by obtain⟨a,e,q⟩:=h;obtain⟨g,rfl⟩:=pre;exact⟨a,e,by rw[qA8 (qA5.mp q).1];exact q⟩
 |.rol f,v,h=>by obtain⟨p,c,e,q,r⟩:=h;exact⟨p,c,e,tk.f p c q,RVs.up tk pre f c r⟩
 |.ob n,v,h=>by unfold RV at h ⊢;obtain⟨a,o,C,j,b,r,q,m,k⟩:=h;obtain⟨g,rfl⟩:=pre;exact⟨a,o,C,j,b,r,tk.z a o _ q,by rw[qA8 (qA5.mp m).1];exact m,k⟩
 |.ktp f,v,h=>by unfold RV at h ⊢;obtain⟨p,r,q⟩:=h;exact⟨p,r,tk.t _ _ q⟩
theorem RVs.up(tk:TF K H H')(pre:∃c,J'=J++c):∀(a:List D) (vs:List V),RVs K H J a vs->RVs K H' J' a vs
 |[],vs,h=>by simpa[RVs]using h
 |d::a,vs,h=>by obtain⟨v,b,e,r,q⟩:=h;exact⟨v,b,e,RV.up tk pre d v r,RVs.up tk pre a b q⟩
end
theorem RVs.len:∀{a:List D}{vs:List V},RVs K H J a vs->a.length=vs.length
 |[],vs,h=>by subst h;rfl
 |d::a,vs,h=>by obtain⟨v,b,rfl,_,q⟩:=h;rw[qB8,qB8,RVs.len q]
theorem RVs.nil:RVs K H J [] []:=by rfl
theorem RVs.cons(h:RV K H J d v)(t:RVs K H J a vs):RVs K H J (d::a) (v::vs):=⟨v,vs,rfl,h,t⟩
theorem RVs.get:∀{a:List D}{vs:List V}{i:Nat}{d:D},RVs K H J a vs->a[i]?=Z9 d->∃v,vs[i]?=Z9 v/\RV K H J d v
 |[],vs,i,d,h,e=>by simp at e
 |x::a,vs,0,d,h,e=>by
  obtain⟨v,b,rfl,r,q⟩:=h
  simp_all
 |x::a,vs,i+1,d,h,e=>by
  obtain⟨v,b,rfl,r,q⟩:=h;obtain⟨u,f,c⟩:=RVs.get q (by simpa using e)
  simp_all
theorem RVs.append:∀{a es:List D}{vs us:List V},RVs K H J a vs->RVs K H J es us->RVs K H J (a++es) (vs++us)
 |[],es,vs,us,h,g=>by subst h;exact g
 |d::a,es,vs,us,h,g=>by obtain⟨v,b,rfl,r,q⟩:=h;exact .cons r (RVs.append q g)
theorem RVs.take:∀{a:List D}{vs:List V} (n:Nat),RVs K H J a vs->RVs K H J (a.take n) (vs.take n)
 |_,_,0,_=>.nil
 |[],vs,n+1,h=>by subst h;exact .nil
 |d::a,vs,n+1,h=>by obtain⟨v,b,rfl,r,q⟩:=h;exact .cons r (RVs.take n q)
theorem RVs.drop:∀{a:List D}{vs:List V} (n:Nat),RVs K H J a vs->RVs K H J (a.drop n) (vs.drop n)
 |_,_,0,h=>by simpa using h
 |[],vs,n+1,h=>by subst h;exact .nil
 |d::a,vs,n+1,h=>by obtain⟨v,b,rfl,r,q⟩:=h;exact RVs.drop n q
theorem RVs.set(g:RV K H J d v):∀{a:List D}{vs:List V} (n:Nat),RVs K H J a vs->RVs K H J (a.set n d) (vs.set n v)
 |[],vs,n,h=>by subst h;exact .nil
 |x::a,vs,0,h=>by obtain⟨u,b,rfl,r,q⟩:=h;exact .cons g q
 |x::a,vs,n+1,h=>by obtain⟨u,b,rfl,r,q⟩:=h;exact .cons r (RVs.set g n q)
theorem RVs.ints{ns:yA}:RVs K H J (ns.map D.int) (ns.map V.int):=by
 induction ns with
 |nil=>exact .nil
 |cons a r b=>exact .cons (by rfl) b
theorem YN.up(tk:TF K H H')(pre:∃c,J'=J++c){ws:List (b×V)}(h:YN K H J a ws):YN K H' J' a ws:=⟨h.1,RVs.up tk pre _ _ h.2⟩
theorem SR.isS(f:SR K J S H)(h:a∈J):∃o,H a=Z9 o:=by
 obtain⟨n,d⟩:=qJ1 h;have g:n<S.length:=by rw[<- f.len];exact(qA5.mp d).1
 have q:=f.obj n a S[n] d (qA9 g);revert q;generalize S[n]=o;intro q;cases o with
 |lst i=>obtain⟨c,e,_⟩:=q;exact⟨_,e⟩
 |dk b=>obtain⟨c,e,_⟩:=q;exact⟨_,e⟩
 |dt b=>obtain⟨c,e,_⟩:=q;exact⟨_,e⟩
 |fk b=>obtain⟨o,c,e,_⟩:=q;exact⟨_,e⟩
theorem SR.out(b:SR K J S H)(h:H a=Z8):a∉J:=λm=>by
 obtain⟨o,e⟩:=b.isS m
 simp_all
theorem ZC.refl(K:yQ)(J:yC)(H:Hp):ZC K J J H H:=⟨⟨[],by simp,by simp⟩,λ_ _ _ h=>h,TF.refl K H⟩
theorem ZC.mem(st:ZC K J J' H H')(h:a∈J):a∈J':=by obtain⟨b,rfl,_⟩:=st.pre;exact qD3 _ h
theorem ZC.ext(st:ZC K J J' H H'):∃ν,J'=J++ν:=let ⟨ν,e,_⟩:=st.pre;⟨ν,e⟩
theorem ZC.trans(a:ZC K J J1 H H1)(b:ZC K J1 J2 H1 H2)(nd:J2.Nodup):ZC K J J2 H H2:=by
 obtain⟨k,e,l⟩:=a.pre;obtain⟨d,j,m⟩:=b.pre;have nd':(J++k++d).Nodup:=by rw[<- e,<- j];exact nd
 refine⟨⟨k++d,by rw[j,e,qD1],λc f=>?_⟩,λc o f h=>?_,a.tk.trans b.tk⟩
 .rcases qC3.mp f with h|h
  .exact l c h
  .have g:=m c h;cases q:H c with
   |none=>rfl
   |some o =>
    have:=λi=>by have:=(qF7.mp nd').2.2 c (qD3 _ i) c h;exact this rfl
    rw[a.fr c o this q]at g;cases g
 .refine b.fr c o (λi=>?_) (a.fr c o f h)
  simp_all
theorem OR.up(tk:TF K H H')(pre:∃d,J'=J++d)(e:H' a=H a):∀{o:O},OR K H J a o->OR K H' J' a o
 |.lst f,⟨c,h,r⟩=>⟨c,by rw[e];exact h,RVs.up tk pre _ _ r⟩
 |.dk b,⟨ws,h,r⟩=>⟨ws,by rw[e];exact h,r.up tk pre⟩
 |.dt b,⟨ws,h,r⟩=>⟨ws,by rw[e];exact h,r.up tk pre⟩
 |.fk b,⟨o,ws,h,r⟩=>⟨o,ws,by rw[e];exact h,r.up tk pre⟩
theorem SA(h:H p=Z8):TF K H (ZF H p o):=EY (Lq h o)
theorem SR.other(c:SR K J S H)(h:H p=Z8):SR K J S (ZF H p o)/\ZC K J J H (ZF H p o):=by
 have j:=c.out h;refine⟨⟨c.len,c.nd,λn a g d f=>?_⟩,⟨⟨[],by simp,by simp⟩,λb u k e=>?_,SA h⟩⟩
 .have i:=qC2 d;have ne:a≠p:=λz=>j (z▸i);exact(c.obj n a g d f).up (SA h) ⟨[],by simp⟩ (Y2 ne)
 .rw[Y2 (Vb e h)];exact e
theorem SR.push(d:SR K J S H)(h:H p=Z8)(q:OR K (ZF H p o) (J++[p]) p o'):SR K (J++[p]) (S++[o']) (ZF H p o)/\ZC K J (J++[p]) H (ZF H p o):=by
 have i:=d.out h;refine⟨⟨by simp[d.len],?_,λn a u c f=>?_⟩,⟨⟨[p],rfl,λb g=>?_⟩,λb u g e=>?_,SA h⟩⟩
 .rw[qF7];refine⟨d.nd,by simp,λa m b g=>?_⟩;simp at g;subst g;exact λz=>i (z▸m)
 .by_cases j:n<J.length
  .rw[qA8 j]at c;rw[qA8 (by rw[<- d.len];exact j)]at f;have l:=qC2 c;have ne:a≠p:=λz=>i (z▸l);exact(d.obj n a u c f).up (SA h) ⟨[p],rfl⟩ (Y2 ne)
  .rw[qA2 (by lia)]at c;rw[qA2 (by rw[<- d.len];lia)]at f;have k:=by have:=(qA5.mp c).1;simp at this;omega
   rw[k]at c;rw[<- d.len,k]at f;simp at c f;subst c f;exact q
 .simp_all
 .rw[Y2 (Vb e h)];exact e
theorem SR.put(c:SR K J S H)(h:J[n]?=Z9 p)(q:H p=Z9 u)(k:∀xs,u≠.tup xs)(r:∀x y,u≠.frz x y)(t:OR K (ZF H p o) J p o'):SR K J (S.set n o') (ZF H p o)/\ZC K J J H (ZF H p o):=by
 have j:TF K H (ZF H p o):=Ts q k r;have f:=qC2 h;refine⟨⟨by simp[c.len],c.nd,λm a w d g=>?_⟩,⟨⟨[],by simp,by simp⟩,λb w s e=>?_,j⟩⟩
 .by_cases i:m=n
  .subst i;rw[h]at d;cases d;have l:m<S.length:=by rw[<- c.len];exact(qA5.mp h).1
   rw[qD4 l]at g;cases g;exact t
  .rw[qE1 (λz=>i z.symm)]at g;have ne:a≠p:=λz=>by subst z;exact i ((qQ1 (qA5.mp d).1 c.nd).mp (d.trans h.symm))
   exact(c.obj m a w d g).up j ⟨[],by simp⟩ (Y2 ne)
 .have ne:b≠p:=λz=>s (z▸f);rw[Y2 ne];exact e
end
inductive R(α:Type) where
 |bad|ok (a:α) (S:ZU)| er (c:Str) (S:ZU)
abbrev M(a:Type):=ZU->R a
def Zc{d β:Type}(m:M d)(f:d->M β):M β:=λS=>match m S with
 |.bad=>.bad
 |.er c b=>.er c b
 |.ok a b=>f a b
def ret{α:Type}(a:α):M α:=λS=>.ok a S
def bad{α:Type}:M α:=λ_=>.bad
inductive qZ{α β:Type}(m:M α)(f:α->M β)(S:ZU)(b:β)(S2:ZU):Prop
 |mk (a:α) (S1:ZU) (e:m S=.ok a S1) (g:f a S1=.ok b S2)
theorem Zd{f:i->M d}(h:Zc m f S=.ok b S2):qZ m f S b S2:=by
 unfold Zc at h;cases e:m S with
 |bad=>rw[e]at h;cases h
 |er c g=>rw[e]at h;cases h
 |ok a g=>rw[e]at h;exact⟨a,g,e,h⟩
theorem Yl{a b:d}(h:ret a S=.ok b c):b=a/\c=S:=by cases h;exact⟨rfl,rfl⟩
abbrev C:=ZR->M D
abbrev CT:=ZR->M Bool
abbrev CA:=ZR->M (List D)
def RE(K:yQ)(H:Hp)(J:yC)(B:ZR)(Z:St):Prop:=B.length=Z.length/\∀(i:Nat) (d:D),B[i]?=Z9 (Z9 d)->∃v,Z[i]?=Z9 (Z9 v)/\RV K H J d v
section
variable {K:yQ}{H H':Hp}{J J':yC}{B:ZR}{Z:St}
theorem RE.up(h:RE K H J B Z)(st:ZC K J J' H H'):RE K H' J' B Z:=⟨h.1,λi d e=>let ⟨v,q,r⟩:=h.2 i d e;⟨v,q,RV.up st.tk st.ext d v r⟩⟩
theorem RE.set(h:RE K H J B Z)(r:RV K H J d v)(i:Nat):RE K H J (B.set i (Z9 d)) (Z.set i (Z9 v)):=by
 refine⟨by simp[h.1],λj c e=>?_⟩;by_cases b:i=j
 .subst b;have a:=by have:=(qA5.mp e).1;simpa using this
  rw[qD4 a]at e;cases e;exact⟨v,by rw[qD4 (by rw[<- h.1];exact a)],r⟩
 .rw[qE1 b]at e ⊢;exact h.2 j c e
end
def Xt(K:yQ)(J:yC)(H:Hp)(d:D)(c:ZU)(Q:VK):Prop:=∀v a b,SR K b c a->ZC K J b H a->RV K a b d v->Q v a
def KR(K:yQ)(J:yC)(H:Hp)(e:List D)(d:ZU)(Q:List V->Hp->Prop):Prop:=∀c a b,SR K b d a->ZC K J b H a->RVs K a b e c->Q c a
def Ue(K:yQ)(J:yC)(H:Hp)(b:Bool)(d:ZU)(Q:Bool->Hp->Prop):Prop:=∀a c,SR K c d a->ZC K J c H a->Q b a
inductive Zy(K:yQ)(c:C)(Z:St)(H:Hp)(Q:VK):Prop
 |mk (J:yC) (B:ZR) (S:ZU) (d:D) (S':ZU) (sr:SR K J S H) (re:RE K H J B Z) (e:c B S=.ok d S') (y:Xt K J H d S' Q)
inductive Yv(K:yQ)(c:CA)(Z:St)(H:Hp)(Q:List V->Hp->Prop):Prop
 |mk (J:yC) (B:ZR) (S:ZU) (d:List D) (S':ZU) (sr:SR K J S H) (re:RE K H J B Z) (e:c B S=.ok d S') (y:KR K J H d S' Q)
inductive YJ(K:yQ)(c:CT)(Z:St)(H:Hp)(Q:Bool->Hp->Prop):Prop
 |mk (J:yC) (B:ZR) (S:ZU) (d:Bool) (S':ZU) (sr:SR K J S H) (re:RE K H J B Z) (e:c B S=.ok d S') (y:Ue K J H d S' Q)
theorem Xt.self{K:yQ}(h:Xt K J H d S Q)(a:SR K J S H)(r:RV K H J d v):Q v H:=h v H J a (ZC.refl K J H) r
theorem Xt.shift{K:yQ}(h:Xt K J H d S Q)(st:ZC K J a H b):Xt K a b d S Q:=λv f g c e r=>h v f g c (st.trans e c.nd) r
theorem Ue.shift{K:yQ}(h:Ue K J H d S Q)(st:ZC K J a H b):Ue K a b d S Q:=λf g c e=>h f g c (st.trans e c.nd)
theorem PE.weak(h:PE X e t)(w:∀Z H Q,t' Z H Q->t Z H Q):PE X e t':=λa s Z H Q I q=>h a s Z H Q I (w Z H Q q)
theorem PT.weak(h:PT X e t)(w:∀Z H Q,t' Z H Q->t Z H Q):PT X e t':=λa s Z H Q I q=>h a s Z H Q I (w Z H Q q)
theorem PW.weak(h:PW X e t)(w:∀Z H Q,t' Z H Q->t Z H Q):PW X e t':=λb a s Z H Q I q=>h b a s Z H Q I (w Z H Q q)
theorem PA.weak(h:PA X e t)(w:∀Z H Q,t' Z H Q->t Z H Q):PA X e t':=λb a s Z H Q I q=>h b a s Z H Q I (w Z H Q q)
theorem PS.weak(h:PS X e t)(w:∀D Z H,t' D Z H->t D Z H):PS X e t':=λa s Z H D I q=>h a s Z H D I (w D Z H q)
theorem Xw.weak(h:Xw X e t)(w:∀D Z H,t' D Z H->t D Z H):Xw X e t':=λa s Z H D I q=>h a s Z H D I (w D Z H q)
def Zi(X:Cx)(f:yT->yT->Sem yT):R2:=λv u H Q=>∃r,YW X f r/\r v u H Q
theorem UH:YW X f (Zi X f):=λa s Z H x y v u Q I b c ⟨r,d,q⟩=>d a s Z H x y v u Q I b c q
def Sz(X:Cx)(f:yT->Sem yT):V->Hp->VK->Prop:=λv H Q=>∃r,QK X f r/\r v H Q
theorem qY:QK X f (Sz X f):=λa s Z H x v Q I b ⟨r,c,q⟩=>c a s Z H x v Q I b q
def Yu(X:Cx)(f:yT):List V->Hp->VK->Prop:=λa H Q=>∃r,Yk X f r/\r a H Q
theorem Qi:Yk X f (Yu X f):=λa s Z H x v Q I b ⟨r,c,q⟩=>c a s Z H x v Q I b q
def KQ(X:Cx):R2:=λv u H Q=>∃r,SQ X r/\r v u H Q
theorem qX:SQ X (KQ X):=λf c a s Z H x y v u Q I d e ⟨r,g,q⟩ b=>g f c a s Z H x y v u Q I d e q b
def KP(X:Cx):V->yG->yG->Hp->VK->Prop:=λv a b H Q=>∃r,SU X r/\r v a b H Q
theorem qW:SU X (KP X):=λd s Z H x v j h f i e Q I g a b c ⟨r,k,q⟩=>k d s Z H x v j h f i e Q I g a b c q
def V0(X:Cx)(id:String):V->List V->Hp->VK->Prop:=λv a H Q=>∃r,Ow X id r/\r v a H Q
theorem qV{id:String}:Ow X id (V0 X id):=λa s Z H x d v b Q I c rs ⟨r,e,q⟩=>e a s Z H x d v b Q I c rs q
def EX(X:Cx):Us:=λo i v H Q=>∃r,VS X r/\r o i v H Q
theorem qU:VS X (EX X):=λa s Z H o i v f d u Q I c b e ⟨r,g,q⟩=>g a s Z H o i v f d u Q I c b e q
def ZY(i:Nat):C:=fun B S=>match B[i]? with
 |some (Z9 d)=>.ok d S
 |_=>.bad
def ZX(d:D):C:=λ_ S=>.ok d S
def ZW(o:D->D->M D)(a b:C):C:=fun B=>Zc (a B) λx=>Zc (b B) λy=>o x y
def Vn(o:D->M D)(a:C):C:=fun B=>Zc (a B) o
def ZS:List C->CA
 |[]=>λ_=>ret []
 |c::b=>fun B=>Zc (c B) λx=>Zc (ZS b B) λa=>ret (x::a)
def ZT(o:List D->M D)(a:CA):C:=fun B=>Zc (a B) o
def Y6(a:CA):C:=ZT (λb=>ret (.tup b)) a
def YZ(a:CA):C:=ZT (λb S=>.ok (.lst S.length) (S++[.lst b])) a
def UG(t:CT)(a b:C):C:=fun B=>Zc (t B) λk=>if k then a B else b B
def Zs(a:C):CT:=fun B=>Zc (a B) λx=>match x with
 |.bl b=>ret b
 |_=>bad
def Sy(a b:C):C:=fun B=>Zc (Zs a B) λk=>if k then b B else ret (.bl Z5)
def Ud(a b:C):C:=fun B=>Zc (Zs a B) λk=>if k then ret (.bl Z7)else b B
def Oa(a:C):C:=fun B=>Zc (Zs a B) λk=>ret (.bl (!k))
def Uc(a b:CT):CT:=fun B=>Zc (a B) λk=>if k then b B else ret Z5
def YO(a b:CT):CT:=fun B=>Zc (a B) λk=>if k then ret Z7 else b B
def XA(a:CT):CT:=fun B=>Zc (a B) λk=>ret (!k)
def dB(x:D):M Bool:=match x with
 |.bl b=>ret b
 |_=>bad
def VM(o o':D->D->M D)(a b c:C):C:=fun B=>Zc (a B) λx=>Zc (b B) λy=>Zc (o x y) λz=>Zc (dB z) λk=>if k then Zc (c B) λw=>o' y w else ret (.bl Z5)
def Qh(o o' e:D->D->M D)(a b c d:C):CT:=fun B=>Zc (a B) λx=>Zc (b B) λy=>Zc (o x y) λz=>Zc (dB z) λk =>
 if k then Zc (c B) λw=>Zc (o' y w) λf=>Zc (dB f) λk2=>if k2 then Zc (d B) λg=>Zc (e w g) dB else ret Z5 else ret Z5
section
variable {X:Cx}{a b c d:yY}{ca cb cc cd:C}{pos:Pos}
theorem qT(h:PE X (.Name x pos) (QR i)):PE X (.Name x pos) (Zy X.K (ZY i)):=h.weak fun Z H Q ⟨J,B,S,d,l,j,g,e,y⟩=>by
 unfold ZY at e;split at e
 .rename_i k f;cases e;obtain⟨v,q,r⟩:=g.2 i _ f;exact⟨v,q,y.self j r⟩
 .cases e
theorem Rw{d:D}(h:PE X e (tC v))(g:∀K H J,RV K H J d v):PE X e (Zy X.K (ZX d)):=h.weak fun Z H Q ⟨J,B,S,j,i,f,k,e,y⟩=>by cases e;exact y.self f (g _ _ _)
def YB(K:yQ)(r:R2)(o:D->D->M D):Prop:=∀x y S d e H J v u Q,o x y S=.ok d e->SR K J S H->RV K H J x v->RV K H J y u->Xt K J H d e Q->r v u H Q
theorem N9(F:YB X.K r o):∀Z H Q,Zy X.K (ZW o ca cb) Z H Q->QJ r (Zy X.K ca) (Zy X.K cb) Z H Q:=by rintro Z H Q ⟨J,B,S,d,q,A,k,e,y⟩;obtain⟨x,j,E,e⟩:=Zd e;obtain⟨z,l,p,e⟩:=Zd e;refine⟨J,B,S,x,j,A,k,E,λv G m i g w=>⟨m,B,j,z,l,i,k.up g,p,λu n s h f t=>?_⟩⟩;exact F x z l d q n s v u Q e h (RV.up f.tk f.ext _ _ w) t (y.shift (g.trans f h.nd))
theorem qS(g:YB X.K (Zi X (jJ op)) o)(f:PE X a (Zy X.K ca))(e:PE X b (Zy X.K cb)):PE X (.BinOp a op b pos) (Zy X.K (ZW o ca cb)):=(zE UH f e).weak (N9 g)
theorem qR(h:YB X.K (Zi X (yZ op)) o)(g:PE X a (Zy X.K ca))(e:PE X b (Zy X.K cb))(f:fT op b=Z5):PE X (.Compare a [op] [b] pos) (Zy X.K (ZW o ca cb)):=(yq UH g e f).weak (N9 h)
theorem EW{c:C}(h:∀Z H Q,Zy X.K c Z H Q->t Z H Q):∀Z H Q,YJ X.K (Zs c) Z H Q->LZ t Z H Q:=by
 rintro Z H Q ⟨J,B,S,d,q,o,n,e,y⟩;obtain⟨x,j,p,e⟩:=Zd e;refine h Z H _ ⟨J,B,S,x,j,o,n,p,λv m i g f l=>?_⟩;cases x with
 |bl k =>
  obtain⟨rfl,rfl⟩:=Yl e;exact⟨_,l,y m i g f⟩
 |_=>cases e
theorem qQ(h:YB X.K (Zi X (yZ op)) o)(g:PE X a (Zy X.K ca))(e:PE X b (Zy X.K cb))(f:fT op b=Z5):PT X (.Compare a [op] [b] pos) (YJ X.K (Zs (ZW o ca cb))):=(yo UH g e f).weak (EW (N9 h))
theorem EV(ho:YB X.K r o)(s:YB X.K E o'):∀Z H Q,Zy X.K (VM o o' ca cb cc) Z H Q->LY r E (Zy X.K ca) (Zy X.K cb) (Zy X.K cc) Z H Q:=by
 rintro Z H Q ⟨J,B,S,d,S',sr,q,e,y⟩;obtain⟨x,N,e1,f1⟩:=Zd e;obtain⟨z,O,V,f2⟩:=Zd f1;obtain⟨t,S3,e3,f3⟩:=Zd f2;obtain⟨k,S4,G,F⟩:=Zd f3;refine⟨J,B,S,x,N,sr,q,e1,λv H1 R A m r1=>⟨R,B,N,z,O,A,q.up m,V,λu T J2 p j L=>?_⟩⟩;have l:=m.trans j p.nd;refine ho x z O t S3 T J2 v u _ e3 p (RV.up j.tk j.ext _ _ r1) L λv3 H3 K g h r3=>?_;have f:=l.trans h g.nd;cases t with
 |bl k' =>
  obtain⟨rfl,rfl⟩:=Yl G;refine⟨_,r3,?_⟩;cases k with
  |true =>
   obtain⟨w,I,e5,Y⟩:=Zd F;refine⟨K,B,_,w,I,g,q.up f,e5,λP U W n i r5=>?_⟩;exact s z w I d S' U W u P Q Y n (RV.up i.tk i.ext _ _ (RV.up h.tk h.ext _ _ L)) r5 (y.shift (f.trans i n.nd))
  |false =>
   obtain⟨rfl,rfl⟩:=Yl F;exact y _ H3 K g f (by rfl)
 |_=>cases G
theorem qP(j:YB X.K (Zi X (yZ op)) o)(f:YB X.K (Zi X (yZ e)) o')(h:PE X a (Zy X.K ca))(g:PE X b (Zy X.K cb))(k:PE X c (Zy X.K cc))(i:fL [op,e] [b,c]=Z5):
  PE X (.Compare a [op,e] [b,c] pos) (Zy X.K (VM o o' ca cb cc)):=(ym UH UH h g k i).weak (EV j f)
theorem qO(j:YB X.K (Zi X (yZ op)) o)(f:YB X.K (Zi X (yZ e)) o')(h:PE X a (Zy X.K ca))(g:PE X b (Zy X.K cb))(k:PE X c (Zy X.K cc))(i:fL [op,e] [b,c]=Z5):
  PT X (.Compare a [op,e] [b,c] pos) (YJ X.K (Zs (VM o o' ca cb cc))):=(yl UH UH h g k i).weak (EW (EV j f))
theorem qN(ho:YB X.K (Zi X (yZ op)) o)(P:YB X.K (Zi X (yZ r)) o')(T:YB X.K (Zi X (yZ q)) o2)(ha:PE X a (Zy X.K ca))(hb:PE X b (Zy X.K cb))(hc:PE X c (Zy X.K cc))(hd:PE X d (Zy X.K cd))
  (hm:fL [op,r,q] [b,c,d]=Z5):PT X (.Compare a [op,r,q] [b,c,d] pos) (YJ X.K (Qh o o' o2 ca cb cc cd)):=by
 refine(uU UH UH UH ha hb hc hd hm).weak ?_;rintro Z H Q ⟨J,B,S,d,S',sr,N,e,y⟩;obtain⟨x,S1,e1,f1⟩:=Zd e;obtain⟨z,V,e2,f2⟩:=Zd f1;obtain⟨t,S3,e3,f3⟩:=Zd f2;obtain⟨k,S4,Y,f4⟩:=Zd f3;refine⟨J,B,S,x,S1,sr,N,e1,λv H1 J1 O I r1=>⟨J1,B,S1,z,V,O,N.up I,e2,λu H2 J2 E h r2=>?_⟩⟩;have G:=I.trans h E.nd;refine ho x z V t S3 H2 J2 v u _ e3 E (RV.up h.tk h.ext _ _ r1) r2 λv3 H3 J3 l i r3=>?_;have g:=G.trans i l.nd;cases t with
 |bl k' =>
  obtain⟨rfl,rfl⟩:=Yl Y;refine⟨_,r3,?_⟩;cases k with
  |true =>
   obtain⟨w,U,e5,f5⟩:=Zd f4;obtain⟨t2,S6,e6,f6⟩:=Zd f5;obtain⟨k2,S7,e7,f7⟩:=Zd f6;refine⟨J3,B,_,w,U,l,N.up g,e5,λv5 H5 J5 K m r5=>?_⟩;have A:=g.trans m K.nd;refine P z w U t2 S6 H5 J5 u v5 _ e6 K (RV.up m.tk m.ext _ _ (RV.up i.tk i.ext _ _ r2)) r5 λv6 H6 W j p r6=>?_;have f:=A.trans p j.nd;cases t2 with
   |bl k3 =>
    obtain⟨rfl,rfl⟩:=Yl e7;refine⟨_,r6,?_⟩;cases k2 with
    |true =>
     obtain⟨w2,S8,e8,f8⟩:=Zd f7;obtain⟨t3,S9,e9,f9⟩:=Zd f8;refine⟨W,B,_,w2,S8,j,N.up f,e8,λv8 H8 J8 F n r8=>?_⟩;have s:=f.trans n F.nd;refine T w w2 S8 t3 S9 H8 J8 v5 v8 _ e9 F (RV.up n.tk n.ext _ _ (RV.up p.tk p.ext _ _ r5)) r8 λv9 H9 J9 L R r9=>?_;cases t3 with
     |bl k4 =>
      obtain⟨rfl,rfl⟩:=Yl f9;exact⟨_,r9,y H9 J9 L (s.trans R L.nd)⟩
     |_=>cases f9
    |false =>
     obtain⟨rfl,rfl⟩:=Yl f7;exact y H6 W j f
   |_=>cases e7
  |false =>
   obtain⟨rfl,rfl⟩:=Yl f4;exact y H3 J3 l g
 |_=>cases Y
def EU(K:yQ)(r:V->Hp->VK->Prop)(o:D->M D):Prop:=∀x S d e H J v Q,o x S=.ok d e->SR K J S H->RV K H J x v->Xt K J H d e Q->r v H Q
theorem qM(r:EU X.K (Sz X (unaryOp op)) o)(p:PE X a (Zy X.K ca)):PE X (.UnaryOp op a pos) (Zy X.K (Vn o ca)):=(zD qY p).weak (by
 rintro Z H Q ⟨J,B,S,d,j,n,m,e,y⟩;obtain⟨x,h,q,e⟩:=Zd e;exact⟨J,B,S,x,h,n,m,q,λv l i g f k=>r x h d j l i v Q e g k (y.shift f)⟩)
theorem KO(p:SR X.K J S H)(o:RE X.K H J B Z)(e:Zs ca B S=.ok k l)(h:∀f g,SR X.K g l f->ZC X.K J g H f->Q (.bl k) f):Zy X.K ca Z H Q:=by
 obtain⟨x,m,q,e⟩:=Zd e;refine⟨J,B,S,x,m,p,o,q,λv f g j i n=>?_⟩;cases x with
 |bl r =>
  obtain⟨rfl,rfl⟩:=Yl e;subst n;exact h f g j i
 |_=>cases e
theorem qL{Zm:yE}(p:PE X a (Zy X.K ca))(o:PE X (.BoolOp .And (b::Zm) pos) (Zy X.K cb)):PE X (.BoolOp .And (a::b::Zm) pos) (Zy X.K (Sy ca cb)):=(Am p o).weak (by
 rintro Z H Q ⟨J,B,S,d,j,n,i,e,y⟩;obtain⟨k,l,q,e⟩:=Zd e;refine KO n i q λm h g f=>⟨k,rfl,?_⟩
 cases k with
 |true=>rw[if_pos rfl]at e ⊢;exact⟨h,B,l,d,j,g,i.up f,e,y.shift f⟩
 | false=>rw[if_neg qB0]at e ⊢;obtain⟨rfl,rfl⟩:=Yl e;exact y _ m h g f (by rfl))
theorem qK{Zm:yE}(p:PE X a (Zy X.K ca))(o:PE X (.BoolOp .Or (b::Zm) pos) (Zy X.K cb)):PE X (.BoolOp .Or (a::b::Zm) pos) (Zy X.K (Ud ca cb)):=(Al p o).weak (by
 rintro Z H Q ⟨J,B,S,d,j,n,i,e,y⟩;obtain⟨k,l,q,e⟩:=Zd e;refine KO n i q λm h g f=>⟨k,rfl,?_⟩
 cases k with
 |false=>rw[if_neg qB0]at e ⊢;exact⟨h,B,l,d,j,g,i.up f,e,y.shift f⟩
 | true=>rw[if_pos rfl]at e ⊢;obtain⟨rfl,rfl⟩:=Yl e;exact y _ m h g f (by rfl))
theorem qJ(j:PE X a (Zy X.K ca)):PE X (.UnaryOp .Not a pos) (Zy X.K (Oa ca)):=(Ak j).weak (by
 rintro Z H Q ⟨J,B,S,d,o,m,l,e,y⟩;obtain⟨k,p,n,e⟩:=Zd e;obtain⟨rfl,rfl⟩:=Yl e;exact KO m l n λi h f g=>⟨k,rfl,y _ i h f g (by rfl)⟩)
theorem qI(n:PT X t (YJ X.K m))(q:PE X a (Zy X.K ca))(p:PE X b (Zy X.K cb)):PE X (.IfExp t a b pos) (Zy X.K (UG m ca cb)):=(Ai n q p).weak (by
 rintro Z H Q ⟨J,B,S,d,l,o,i,e,y⟩;obtain⟨k,h,r,e⟩:=Zd e;refine⟨J,B,S,k,h,o,i,r,λs j g f=>?_⟩;cases k with
 |true=>rw[if_pos rfl]at e ⊢;exact⟨j,B,h,d,l,g,i.up f,e,y.shift f⟩
 | false=>rw[if_neg qB0]at e ⊢;exact⟨j,B,h,d,l,g,i.up f,e,y.shift f⟩)
variable {ta tb:CT}
theorem qH{Zm:yE}(p:PT X a (YJ X.K ta))(o:PW X (.BoolOp .And (b::Zm) pos) (YJ X.K tb)):PW X (.BoolOp .And (a::b::Zm) pos) (YJ X.K (Uc ta tb)):=(As p o).weak (by
 rintro Z H Q ⟨J,B,S,d,l,n,j,e,y⟩;obtain⟨k,i,q,e⟩:=Zd e;refine⟨J,B,S,k,i,n,j,q,λm h g f=>?_⟩;cases k with
 |true=>rw[if_pos rfl]at e ⊢;exact⟨h,B,i,d,l,g,j.up f,e,y.shift f⟩
 | false=>rw[if_neg qB0]at e ⊢;obtain⟨rfl,rfl⟩:=Yl e;exact y m h g f)
theorem qG{Zm:yE}(p:PT X a (YJ X.K ta))(o:PW X (.BoolOp .Or (b::Zm) pos) (YJ X.K tb)):PW X (.BoolOp .Or (a::b::Zm) pos) (YJ X.K (YO ta tb)):=(Ar p o).weak (by
 rintro Z H Q ⟨J,B,S,d,l,n,j,e,y⟩;obtain⟨k,i,q,e⟩:=Zd e;refine⟨J,B,S,k,i,n,j,q,λm h g f=>?_⟩;cases k with
 |false=>rw[if_neg qB0]at e ⊢;exact⟨h,B,i,d,l,g,j.up f,e,y.shift f⟩
 | true=>rw[if_pos rfl]at e ⊢;obtain⟨rfl,rfl⟩:=Yl e;exact y m h g f)
theorem qF(j:PT X a (YJ X.K ta)):PT X (.UnaryOp .Not a pos) (YJ X.K (XA ta)):=(Aq j).weak (by
 rintro Z H Q ⟨J,B,S,d,o,m,l,e,y⟩;obtain⟨k,p,n,e⟩:=Zd e;obtain⟨rfl,rfl⟩:=Yl e;exact⟨J,B,S,k,_,m,l,n,λi h f g=>y i h f g⟩)
def Wc(x:D):M Bool:=λS=>match x with
 |.non=>.ok Z5 S
 |.bl b=>.ok b S
 |.int i=>.ok (i != 0) S
 |.str y=>if y.length<=yV then .ok ((y.length:Int) != 0) S else .bad
 |.tup e=>.ok (!e.isEmpty) S
 |.lst n=>match S[n]? with
  |some (.lst e)=>.ok (!e.isEmpty) S
  |_=>.bad
 |.dct n=>match S[n]? with
  |some (.dk f)=>.ok (!f.isEmpty) S
  |_=>.bad
 |.ty _=>.bad
 |.rol e=>.ok (!e.isEmpty) S
 |.ob _=>.bad
 |.ktp _=>.bad
def Zb(a:C):CT:=fun B=>Zc (a B) Wc
theorem N8{K:yQ}(h:RVs K H J e vs):e.isEmpty=vs.isEmpty:=by
 cases e with
 |nil=>unfold RVs at h;subst h;rfl
 |cons d e=>unfold RVs at h;obtain⟨v,f,rfl,_⟩:=h;rfl
theorem SR.get{K:yQ}(e:SR K J S H){n:Nat}{a:yR}(h:J[n]?=Z9 a)(f:S[n]?=Z9 o):OR K H J a o:=e.obj n a o h f
theorem qE{K:yQ}(e:Wc x S=.ok k m)(o:SR K J S H)(r:RV K H J x v):m=S/\SW K v H k:=by
 unfold Wc at e;cases x with
 |non=>cases e;subst r;exact⟨rfl,rfl⟩
 |bl b=>cases e;subst r;exact⟨rfl,rfl⟩
 |int i=>cases e;subst r;exact⟨rfl,rfl⟩
 |str y =>
  subst r;dsimp only at e;split at e
  .rename_i u;cases e;exact⟨rfl,u,rfl⟩
  .cases e
 |tup s =>
  cases e;obtain⟨p,g,rfl,q,f⟩:=r;exact⟨rfl,.inr (.inl ⟨g,Zp.of q,by rw[N8 f]⟩)⟩
 |lst n =>
  obtain⟨a,rfl,j⟩:=r;dsimp only at e;split at e
  .rename_i s l;cases e;obtain⟨g,h,f⟩:=o.get j l;exact⟨rfl,.inl ⟨g,YK.of h,by rw[N8 f]⟩⟩
  .cases e
 |dct n =>
  obtain⟨a,rfl,j⟩:=r;dsimp only at e;split at e
  .rename_i t l;cases e;obtain⟨w,h,f⟩:=o.get j l;refine⟨rfl,.inr (.inr ⟨w,h,?_⟩)⟩;have:=N8 f.2
   simp_all
  .cases e
 |ty _=>cases e
 |rol s =>
  cases e;obtain⟨p,g,rfl,q,f⟩:=r;exact⟨rfl,.inl ⟨g,q.sq,by rw[N8 f]⟩⟩
 |ob _=>cases e
 |ktp _=>cases e
theorem qD(o:PE X a (Zy X.K ca))(he:∀f,uB a X.env f=(do let v <- f;gU a.pos;wJ [v] (truthy v))):PT X a (YJ X.K (Zb ca)):=(yi o he).weak (by
 rintro Z H Q ⟨J,B,S,d,q,n,m,e,y⟩;obtain⟨x,j,p,e⟩:=Zd e;refine⟨J,B,S,x,j,n,m,p,λv l i g h k=>?_⟩;obtain⟨rfl,tv⟩:=qE e g k;exact⟨d,tv,y l i g h⟩)
variable {es:yE}{cs:List C}
theorem Sx:PA X [] (Yv X.K (ZS [])):=Gp.weak (by
 rintro Z H Q ⟨J,B,S,d,g,f,h,e,y⟩;obtain⟨rfl,rfl⟩:=Yl e;exact y [] H J f (ZC.refl _ _ _) RVs.nil)
theorem Ub(z:PE X a (Zy X.K ca))(q:PA X es (Yv X.K (ZS cs)))(o:y3 (a::es) X.env=(Z5,jW a X.env)::y3 es X.env):PA X (a::es) (Yv X.K (ZS (ca::cs))):=(Gn z q o).weak (by
 rintro Z H Q ⟨J,B,S,d,p,w,k,e,y⟩;obtain⟨x,j,D,e⟩:=Zd e;obtain⟨A,F,n,e⟩:=Zd e;obtain⟨rfl,rfl⟩:=Yl e;exact⟨J,B,S,x,j,w,k,D,λv E l i g u=>⟨l,B,j,A,p,i,k.up g,n,λt m r h f s=>y (v::t) m r h (g.trans f h.nd) (.cons (RV.up f.tk f.ext _ _ u) s)⟩⟩)
theorem KN:∀{cs:List C}{S S':ZU}{xs:List D},ZS cs B S=.ok xs S'->xs.length=cs.length
 |[],S,S',xs,e=>by obtain⟨rfl,rfl⟩:=Yl e;rfl
 |c::cs,S,S',xs,e=>by obtain⟨x,g,j,e⟩:=Zd e;obtain⟨h,i,f,e⟩:=Zd e;obtain⟨rfl,rfl⟩:=Yl e;rw[qB8,qB8,KN f]
theorem Qg{K:yQ}(i:SR K J S H)(h:H p=Z8)(r:RVs K H J f vs):SR K J S (ZF H p (.tup vs))/\ZC K J J H (ZF H p (.tup vs))/\RV K (ZF H p (.tup vs)) J (.tup f) (.ref p):=by obtain⟨g,e⟩:=i.other h;exact⟨g,e,⟨p,vs,rfl,Yx,RVs.up e.tk e.ext _ _ r⟩⟩
theorem qC{K:yQ}(f:SR K J S H)(h:H p=Z8)(r:RVs K H J e vs):SR K (J++[p]) (S++[.lst e]) (ZF H p (.lst vs))/\ZC K J (J++[p]) H (ZF H p (.lst vs))/\RV K (ZF H p (.lst vs)) (J++[p]) (.lst S.length) (.ref p):=by obtain⟨i,g⟩:=f.push (o':=.lst e) h ⟨vs,Yx,RVs.up (SA h) ⟨[p],rfl⟩ _ _ r⟩;exact⟨i,g,⟨p,rfl,by rw[<- f.len,qA2 (qA6 _),qD8];rfl⟩⟩
theorem Xt.newL{K:yQ}(y:Xt K J H (.lst S.length) (S++[.lst e]) Q)(j:SR K J S H)(h:H p=Z8)(r:RVs K H J e vs):Q (.ref p) (ZF H p (.lst vs)):=by obtain⟨i,f,g⟩:=qC j h r;exact y _ _ _ i f g
theorem Xt.newT{K:yQ}(y:Xt K J H (.tup e) S Q)(j:SR K J S H)(h:H p=Z8)(r:RVs K H J e vs):Q (.ref p) (ZF H p (.tup vs)):=by obtain⟨i,f,g⟩:=Qg j h r;exact y _ _ _ i f g
theorem qB{l}(h:PA X es (Yv X.K (ZS cs)))(s:cs.length<=1000):PE X (.Tuple es l pos) (Zy X.K (Y6 (ZS cs))):=(xS h).weak (by
 rintro Z H Q ⟨J,B,S,d,k,o,n,e,y⟩;obtain⟨q,t,j,e⟩:=Zd e;obtain⟨rfl,rfl⟩:=Yl e;refine⟨J,B,S,q,k,o,n,j,λu v r g f i=>⟨?_,λp m=>(y.shift f).newT g m i⟩⟩;have w:=KN j;have x:=i.len;exact qF4 (F1 (by lia)))
theorem qA(h:PA X es (Yv X.K (ZS cs)))(s:cs.length<=1000):PE X (.List es pos) (Zy X.K (YZ (ZS cs))):=(xR h).weak (by
 rintro Z H Q ⟨J,B,S,d,r,n,m,e,y⟩;obtain⟨o,l,j,e⟩:=Zd e;cases e;refine⟨J,B,S,o,l,n,m,j,λt u q g f i=>⟨?_,λp k=>(y.shift f).newL g k i⟩⟩;have v:=KN j;have w:=i.len;exact qF4 (F1 (by lia)))
theorem qz(g:YB X.K (KQ X) o)(f:PE X a (Zy X.K ca))(e:PE X b (Zy X.K cb))(h:LN b):PE X (.Subscript a b pos) (Zy X.K (ZW o ca cb)):=(xr qX f e h).weak (N9 g)
def CO:=ZR->M (yG)
def Vm:CO:=λ_=>ret Z8
def Sw(x:D):M Int:=match x with
 |.int i=>ret i
 |_=>bad
def Vl(a:C):CO:=fun B=>Zc (a B) λx=>Zc (Sw x) λi=>ret (Z9 i)
def KM(K:yQ)(J:yC)(H:Hp)(b:yG)(g:ZU)(Q:yG->Hp->Prop):Prop:=∀e f,SR K f g e->ZC K J f H e->Q b e
inductive U4(K:yQ)(c:CO)(Z:St)(H:Hp)(Q:yG->Hp->Prop):Prop
 |mk (J:yC) (B:ZR) (S:ZU) (d:yG) (S':ZU) (sr:SR K J S H) (re:RE K H J B Z) (e:c B S=.ok d S') (y:KM K J H d S' Q)
theorem PO.weak(h:PO X e t)(w:∀Z H Q,t' Z H Q->t Z H Q):PO X e t':=λf s Z H Q I q=>h f s Z H Q I (w Z H Q q)
theorem qy:PO X Z8 (U4 X.K Vm):=xC.weak (by
 rintro Z H Q ⟨J,B,S,d,g,f,h,e,y⟩;obtain⟨rfl,rfl⟩:=Yl e;exact y H J f (ZC.refl _ _ _))
theorem qx(q:PE X a (Zy X.K ca)):PO X (Z9 a) (U4 X.K (Vl ca)):=(xB q).weak (by
 rintro Z H Q ⟨J,B,S,d,s,p,o,e,y⟩;obtain⟨x,l,r,e⟩:=Zd e;obtain⟨i,t,h,e⟩:=Zd e;obtain⟨rfl,rfl⟩:=Yl e;refine⟨J,B,S,x,l,p,o,r,λv n k g f m=>?_⟩;cases x with
 |int j =>
  obtain⟨rfl,rfl⟩:=Yl h;exact⟨_,m,y n k g f⟩
 | _=>cases h)
def Vk(o:D->yG->yG->M D)(a:C)(lo hi:CO):C:=fun B=>Zc (a B) λx=>Zc (lo B) λl=>Zc (hi B) λh=>o x l h
def ET(K:yQ)(r:V->yG->yG->Hp->VK->Prop)(o:D->yG->yG->M D):Prop:=∀x l h S d e H J v Q,o x l h S=.ok d e->SR K J S H->RV K H J x v->Xt K J H d e Q->r v l h H Q
theorem qw{lo hi:Option yY}(R:ET X.K (KP X) o)(O:PE X a (Zy X.K ca))(A:PO X lo (U4 X.K cl))(K:PO X hi (U4 X.K ch)):PE X (.Subscript a (.Slice lo hi Z8 w) pos) (Zy X.K (Vk o ca cl ch)):=(xx qW O A K).weak (by
 rintro Z H Q ⟨J,B,S,d,z,L,n,e,y⟩;obtain⟨x,q,P,e⟩:=Zd e;obtain⟨l,s,u,e⟩:=Zd e;obtain⟨h,r,E,e⟩:=Zd e;refine⟨J,B,S,x,q,L,n,P,λv U t p k I=>⟨t,B,q,l,s,p,n.up k,u,λT F m i=>?_⟩⟩;have f:=k.trans i m.nd;refine⟨F,B,s,h,r,m,n.up f,E,λN G j g=>?_⟩;exact R x l h r d z N G v Q e j (RV.up g.tk g.ext _ _ (RV.up i.tk i.ext _ _ I)) (y.shift (f.trans g j.nd)))
def WK(K:yQ)(r:List V->Hp->VK->Prop)(o:List D->M D):Prop:=∀g S d e H J f Q,o g S=.ok d e->SR K J S H->RVs K H J g f->Xt K J H d e Q->r f H Q
variable {ca':CA}
theorem KL(t:WK X.K r o):∀Z H Q,Zy X.K (ZT o ca') Z H Q->Ox r (Yv X.K ca') Z H Q:=by rintro Z H Q ⟨J,B,S,d,k,q,p,e,y⟩;obtain⟨i,h,s,e⟩:=Zd e;exact⟨J,B,S,i,h,q,p,s,λl n j g f m=>t i h d k n j l Q e g m (y.shift f)⟩
def XU(K:yQ)(h:List D->M D)(n:Nat):Sp:=λf H Q E=>f.length=n/\∃J g S d e,SR K J S H/\RVs K H J g f/\h g S=.ok d e/\Xt K J H d e Q
theorem qv(p:∀l S d f,g l S=.ok d f->l.length=n):∀Z H Q,Zy X.K (ZT g ca') Z H Q->LS (XU X.K g n) [] E0 (Yv X.K ca') Z H Q:=by rintro Z H Q ⟨J,B,S,d,f,r,q,e,y⟩;obtain⟨m,j,s,e⟩:=Zd e;refine⟨J,B,S,m,j,r,q,s,λt u o i h k=>?_⟩;rw[qG0];exact⟨by rw[<- k.len];exact p _ _ _ _ e,o,m,j,d,f,i,k,e,y.shift h⟩
end
def lim:Nat:=1048576
theorem Wz(h:n<=lim):n<=sizeLine:=qC5 h (by decide)
theorem N7(h:n<lim):n<sizeLine:=qB7 h (by decide)
section
variable {K:yQ}{H H' H1:Hp}{J:yC}{S:ZU}
theorem SR.same(c:SR K J S H)(d:XY H H1):SR K J S H1/\ZC K J J H H1:=by have f:TF K H H1:=EY d;refine⟨⟨c.len,c.nd,λn a o g i=>?_⟩,⟨⟨[],by simp,by simp⟩,λb o _ h=>d b o h,f⟩⟩;obtain⟨u,e⟩:=c.isS (qC2 g);exact(c.obj n a o g i).up f ⟨[],by simp⟩ (by rw[e];exact d _ _ e)
theorem Xt.oldT(y:Xt K J H (.tup b) S Q)(e:SR K J S H)(c:XY H H1)(h:H1 p=Z9 (.tup vs))(r:RVs K H J b vs):Q (.ref p) H1:=by obtain⟨d,a⟩:=e.same c;exact y _ _ _ d a (⟨p,vs,rfl,h,RVs.up a.tk a.ext _ _ r⟩)
theorem XT:RV K H J (.int i) (.int i):=by rfl
theorem W7:RV K H J (.bl i) (.bl i):=by rfl
theorem Ua:RV K H J .non .non:=by rfl
theorem VL:RV K H J (.str i) (.str i):=by rfl
theorem SR.lst(b:SR K J S H){n:Nat}(h:J[n]?=Z9 a)(c:S[n]?=Z9 (.lst xs)):∃vs,H a=Z9 (.lst vs)/\RVs K H J xs vs:=b.obj n a _ h c
def ZA(S:ZU)(n:Nat):Option (List D):=match S[n]? with
 |some (.lst a)=>Z9 a
 |_=>Z8
theorem SR.sq(c:SR K J S H)(h:J[n]?=Z9 a)(b:ZA S n=Z9 xs):∃vs,YK K H a vs/\RVs K H J xs vs:=by
 unfold ZA at b;split at b
 .rename_i d e;cases b;obtain⟨vs,q,r⟩:=c.get h e;exact⟨vs,YK.of q,r⟩
 .cases b
def Sv(S:ZU):D->Option (List D)
 |.tup a=>Z9 a
 |.lst n=>ZA S n
 |.rol a=>Z9 a
 |_=>Z8
theorem SR.seq(e:SR K J S H)(r:RV K H J x v)(b:Sv S x=Z9 xs):∃a vs,v=.ref a/\(YK K H a vs∨Zp K H a vs)/\RVs K H J xs vs:=by
 unfold Sv at b;split at b
 .cases b;obtain⟨p,vs,rfl,q,c⟩:=r;exact⟨p,vs,rfl,.inr (Zp.of q),c⟩
 .obtain⟨a,rfl,d⟩:=r;obtain⟨vs,q,c⟩:=e.sq d b;exact⟨a,vs,rfl,.inl q,c⟩
 .cases b;obtain⟨p,vs,rfl,q,c⟩:=r;exact⟨p,vs,rfl,.inl q.sq,c⟩
 .cases b
theorem RVs.cons_inv(h:RVs K H J (d::a) vs):∃v ws,vs=v::ws/\RV K H J d v/\RVs K H J a ws:=h
theorem RVs.nil_inv(h:RVs K H J [] vs):vs=[]:=h
end
def YR(g:Int->Int->Int):D->D->M D
 |.int i,.int j=>ret (.int (g i j))
 |_,_=>bad
def ZI:D->D->M D
 |.int i,.int j=>ret (.int (i+j))
 |.tup b,.tup a=>λS=>if b.length+a.length<=lim then .ok (.tup (b++a)) S else .bad
 |.lst n,.lst m=>λS=>match S[n]?,S[m]? with
  |some (.lst b),Z9 (.lst a)=>if b.length+a.length<=lim then .ok (.lst S.length) (S++[.lst (b++a)])else .bad
  |_,_=>.bad
 |.str x,.str y=>λS=>if x.length+y.length<=lim then .ok (.str (x++y)) S else .bad
 |_,_=>bad
def Vj(i j:Int):Bool:=(decide (-18446744073709551616<i)&&decide (i<18446744073709551616))||(decide (-18446744073709551616<j)&&decide (j<18446744073709551616))
def Xh:D->D->M D
 |.int i,.int j=>λS=>if Vj i j then .ok (.int (i*j)) S else .bad
 |_,_=>bad
def Xg:D->D->M D
 |.int i,.int j=>λS=>if 0<j then .ok (.int (i % j)) S else .bad
 |_,_=>bad
def VJ:D->D->M D
 |.int i,.int j=>λS=>if 0<j/\j<1073741824 then .ok (.int (i / j)) S else .bad
 |_,_=>bad
def VI:D->D->M D
 |.int i,.int j=>λS=>if 0<=j/\j<=1000000/\i.natAbs<18446744073709551616 then .ok (.int (i ^ j.toNat)) S else .bad
 |_,_=>bad
def Wb:D->D->M D
 |.int i,.int j=>λS=>if 0<=j/\j<=1000000/\i.natAbs<18446744073709551616 then .ok (.int (i*2 ^ j.toNat)) S else .bad
 |_,_=>bad
def U3:D->D->M D
 |.int i,.int j=>λS=>if 0<=j then .ok (.int (i / 2 ^ j.toNat)) S else .bad
 |_,_=>bad
def VH:D->M D
 |.int i=>ret (.int (-i))
 |_=>bad
section
variable {X:Cx}
theorem N6(h:YW X (jJ op) (VR λi j=>.int (g i j))):YB X.K (Zi X (jJ op)) (YR g):=by
 intro x y S d k H J v u Q e f b c a;unfold YR at e;split at e
 .obtain⟨rfl,rfl⟩:=Yl e;subst b c;exact⟨_,h,_,_,rfl,rfl,a.self f XT⟩
 .cases e
theorem qu:YB X.K (Zi X (jJ .Sub)) (YR λi j=>i - j):=N6 zA
theorem qt:YB X.K (Zi X (jJ .BitAnd)) (YR wF):=N6 zq
theorem qr:YB X.K (Zi X (jJ .BitOr)) (YR m6):=N6 zo
theorem qq:YB X.K (Zi X (jJ .BitXor)) (YR mI):=N6 zk
theorem qp:YB X.K (Zi X (jJ .Add)) ZI:=by
 intro x y S d A H J v u Q e a g i h;unfold ZI at e;split at e
 .obtain⟨rfl,rfl⟩:=Yl e;subst g i;exact⟨_,zB,_,_,rfl,rfl,h.self a XT⟩
 .try dsimp only at e
  split at e
  .rename_i b;cases e;obtain⟨p,l,rfl,m,f⟩:=g;obtain⟨j,n,rfl,k,c⟩:=i;exact⟨_,u0,p,j,l,n,rfl,rfl,m,k,by rw[<- f.len,<- c.len];exact Wz b,λr C s sq=>h.oldT a s sq (f.append c)⟩
  .cases e
 .try dsimp only at e
  obtain⟨p,rfl,w⟩:=g;obtain⟨j,rfl,o⟩:=i;split at e
  .rename_i D B t z;split at e
   .rename_i b;cases e;obtain⟨l,m,f⟩:=a.lst w t;obtain⟨n,k,c⟩:=a.lst o z;exact⟨_,wj,p,j,l,n,rfl,rfl,m,k,by rw[<- f.len,<- c.len];exact Wz b,λr q=>h.newL a q (f.append c)⟩
   .cases e
  .cases e
 .try dsimp only at e
  split at e
  .rename_i b;cases e;subst g i;exact⟨_,yh,_,_,rfl,rfl,Wz b,h.self a VL⟩
  .cases e
 .cases e
theorem qo(h:Vj i j=Z7):Uq i j:=by unfold Vj at h;simp only[qI2,qC1,decide_eq_true_eq]at h;exact h
theorem qm:YB X.K (Zi X (jJ .Mult)) Xh:=by
 intro x y S d g H J v u Q e f b c h;unfold Xh at e;split at e
 .try dsimp only at e
  split at e
  .rename_i a;cases e;subst b c;exact⟨_,zy,_,_,rfl,rfl,qo a,h.self f XT⟩
  .cases e
 .cases e
theorem ql:YB X.K (Zi X (jJ .Mod)) Xg:=by
 intro x y S d g H J v u Q e f b c h;unfold Xg at e;split at e
 .try dsimp only at e
  split at e
  .rename_i a;cases e;subst b c;exact⟨_,zv,_,_,rfl,rfl,a,h.self f XT⟩
  .cases e
 .cases e
theorem qk:YB X.K (Zi X (jJ .FloorDiv)) VJ:=by
 intro x y S d g H J v u Q e f b c h;unfold VJ at e;split at e
 .try dsimp only at e
  split at e
  .rename_i a;cases e;subst b c;exact⟨_,zw,_,_,rfl,rfl,a,h.self f XT⟩
  .cases e
 .cases e
theorem qj:YB X.K (Zi X (jJ .Pow)) VI:=by
 intro x y S d g H J v u Q e f b c h;unfold VI at e;split at e
 .try dsimp only at e
  split at e
  .rename_i a;cases e;subst b c;exact⟨_,zu,_,_,rfl,rfl,a,h.self f XT⟩
  .cases e
 .cases e
theorem qi:YB X.K (Zi X (jJ .LShift)) Wb:=by
 intro x y S d g H J v u Q e f b c h;unfold Wb at e;split at e
 .try dsimp only at e
  split at e
  .rename_i a;cases e;subst b c;exact⟨_,zt,_,_,rfl,rfl,a,h.self f XT⟩
  .cases e
 .cases e
theorem qh:YB X.K (Zi X (jJ .RShift)) U3:=by
 intro x y S d g H J v u Q e f b c h;unfold U3 at e;split at e
 .try dsimp only at e
  split at e
  .rename_i a;cases e;subst b c;exact⟨_,zr,_,_,rfl,rfl,a,h.self f XT⟩
  .cases e
 .cases e
theorem qg:EU X.K (Sz X (unaryOp .USub)) VH:=by
 intro x S d c H J v Q e b a h;unfold VH at e;split at e
 .obtain⟨rfl,rfl⟩:=Yl e;subst a;exact⟨_,zh,_,rfl,h.self b XT⟩
 .cases e
def Y0(g:Int->Int->Bool):D->D->M D
 |.int i,.int j=>ret (.bl (g i j))
 |_,_=>bad
theorem KJ(h:YW X (yZ op) (VR λi j=>.bl (g i j))):YB X.K (Zi X (yZ op)) (Y0 g):=by
 intro x y S d k H J v u Q e f b c a;unfold Y0 at e;split at e
 .obtain⟨rfl,rfl⟩:=Yl e;subst b c;exact⟨_,h,_,_,rfl,rfl,a.self f W7⟩
 .cases e
theorem qf:YB X.K (Zi X (yZ .LtE)) (Y0 λi j=>decide (i<=j)):=KJ yx
theorem qe:YB X.K (Zi X (yZ .Gt)) (Y0 λi j=>decide (j<i)):=KJ yw
theorem qd:YB X.K (Zi X (yZ .GtE)) (Y0 λi j=>decide (j<=i)):=KJ yv
def Wy:List D->Option (yA)
 |[]=>Z9 []
 |.int i::r=>(Wy r).map (i::·)
 |_::_=>Z8
theorem T9{K:yQ}{H:Hp}{J:yC}:∀{a:List D}{ns:yA}{vs:List V},Wy a=Z9 ns->RVs K H J a vs->vs=ns.map V.int
 |[],ns,vs,e,r=>by cases e;rw[r.nil_inv];rfl
 |.int i::a,ns,vs,e,r=>by
  obtain⟨v,d,rfl,b,c⟩:=r.cons_inv;unfold Wy at e;cases q:Wy a with
  |none=>rw[q]at e;cases e
  |some f =>
   rw[q]at e;cases e;subst b;rw[T9 q c];rfl
 |.non::a,ns,vs,e,r=>by cases e
 |.bl _::a,ns,vs,e,r=>by cases e
 |.str _::a,ns,vs,e,r=>by cases e
 |.ty _::a,ns,vs,e,r=>by cases e
 |.tup _::a,ns,vs,e,r=>by cases e
 |.lst _::a,ns,vs,e,r=>by cases e
 |.dct _::a,ns,vs,e,r=>by cases e
 |.rol _::a,ns,vs,e,r=>by cases e
 |.ob _::a,ns,vs,e,r=>by cases e
 |.ktp _::a,ns,vs,e,r=>by cases e
def WJ:D->D->M D
 |.int i,.int j=>ret (.bl (decide (i<j)))
 |.tup c,.tup a=>λS=>match Wy c,Wy a with
  |some b,Z9 d=>.ok (.bl (HT.lexLt b d)) S
  |_,_=>.bad
 |_,_=>bad
theorem qc(l:X.A.units<vE):YB X.K (Zi X (yZ .Lt)) WJ:=by
 intro x y S d t H J v u Q e c a b h;unfold WJ at e;split at e
 .obtain⟨rfl,rfl⟩:=Yl e;subst a b;exact⟨_,yy,_,_,rfl,rfl,h.self c W7⟩
 .split at e
  .rename_i k j s f;cases e;unfold RV at a b;obtain⟨p,w,rfl,n,o⟩:=a;obtain⟨g,z,rfl,i,m⟩:=b;have q:=T9 s o;have r:=T9 f m;subst q r;exact⟨_,xv l,p,g,k,j,rfl,rfl,Zp.of n,Zp.of i,h.self c W7⟩
  .cases e
 .cases e
def Yt:Nat->ZU->D->Option vF
 |0,_,_=>Z8
 |n+1,S,d=>match d with
  |.non=>Z9 .none
  |.bl b=>Z9 (.bool b)
  |.int i=>Z9 (.int i)
  |.str x=>if PyData.strOk x then Z9 (.str x)else Z8
  |.tup a=>(a.mapM (Yt n S)).map .tuple
  |.lst k=>match ZA S k with
   |some a=>(a.mapM (Yt n S)).map .list
   |none=>Z8
  |_=>Z8
theorem N5{K:yQ}{H:Hp}{J:yC}{S:ZU}{n:Nat}(c:∀d v p,Yt n S d=Z9 p->RV K H J d v->Rp K H (λ_=>True) v p/\p.canLay0=Z7/\p.depth<=n):∀(xs:List D) (vs:List V) (ps:List vF),xs.mapM (Yt n S)=Z9 ps->RVs K H J xs vs->RpL K H (λ_=>True) vs ps/\PyData.canLayAll0 ps=Z7/\PyData.depthAll ps<=n
 |[],vs,ps,e,r=>by simp at e;subst e;rw[r.nil_inv];exact⟨.nil,rfl,qE8 _⟩
 |d::f,vs,ps,e,r=>by
  obtain⟨v,i,rfl,h,g⟩:=r.cons_inv;rw[qF6]at e;cases q:Yt n S d with
  |none=>rw[q]at e;cases e
  |some p =>
   cases b:f.mapM (Yt n S)with
   |none=>rw[q,b]at e;cases e
   |some a =>
    rw[q,b]at e;cases e;obtain⟨j,k,l⟩:=c d v p q h;obtain⟨b1,o,m⟩:=N5 c f i a b g;refine⟨.cons j b1,?_,?_⟩
    .show(PyData.canLay0 p&&PyData.canLayAll0 a)=Z7
     simp_all
    .show max p.depth (PyData.depthAll a)<=n
     lia
theorem Tr{K:yQ}{H:Hp}{J:yC}{S:ZU}(l:SR K J S H):∀(n:Nat) (d:D) (v:V) (p:vF),Yt n S d=Z9 p->RV K H J d v->Rp K H (λ_=>True) v p/\p.canLay0=Z7/\p.depth<=n
 |0,d,v,p,e,r=>by cases e
 |n+1,d,v,p,e,r=>by
  unfold Yt at e;cases d with
  |non=>cases e;subst r;exact⟨.non,rfl,qE8 _⟩
  |bl b=>cases e;subst r;exact⟨.bl b,rfl,qE8 _⟩
  |int i=>cases e;subst r;exact⟨.int i,rfl,qE8 _⟩
  |str x =>
   dsimp only at e;split at e
   .rename_i s;cases e;subst r;exact⟨.str x,s,qE8 _⟩
   .cases e
  |tup c =>
   dsimp only at e;cases q:c.mapM (Yt n S)with
   |none=>rw[q]at e;cases e
   |some f =>
    rw[q]at e;cases e;obtain⟨a,h,rfl,g,o⟩:=r;obtain⟨b1,m,j⟩:=N5 (λd v p e r=>Tr l n d v p e r) c h f q o;exact⟨.tup (Zp.of g) b1,m,qN3 j⟩
  |lst k =>
   dsimp only at e;split at e
   .rename_i c u;cases q:c.mapM (Yt n S)with
    |none=>rw[q]at e;cases e
    |some f =>
     rw[q]at e;cases e;obtain⟨a,rfl,t⟩:=r;obtain⟨h,g,o⟩:=l.sq t u;obtain⟨b1,m,j⟩:=N5 (λd v p e r=>Tr l n d v p e r) c h f q o;exact⟨.lst True.intro g b1,m,qN3 j⟩
   .cases e
  |dct k=>cases e
  |ty k=>cases e
  |rol k=>cases e
  |ob _=>cases e
  |ktp _=>cases e
def Zl:D->D->M D:=λx y S=>match x,y with
 |.str a,.str b=>.ok (.bl (decide (a=b))) S
 |_,_=>match Yt 40 S x,Yt 40 S y with
  |some p,Z9 q=>.ok (.bl (PyData.eqv p q)) S
  |_,_=>.bad
def YG:D->D->M D:=λx y S=>match x,y with
 |.str a,.str b=>.ok (.bl (!decide (a=b))) S
 |_,_=>match Yt 40 S x,Yt 40 S y with
  |some p,Z9 q=>.ok (.bl (!PyData.eqv p q)) S
  |_,_=>.bad
theorem qb(j:X.A.units+64<vE):YB X.K (Zi X (yZ .Eq)) Zl:=by
 intro x y S d o H J v u Q e c f g h;unfold Zl at e;split at e
 .rename_i a b;cases e;subst f g;refine⟨_,y0,rfl,?_⟩;have z:decide (V.str a=V.str b)=decide (a=b):=by simp
  rw[z];exact h.self c W7
 .split at e
  .rename_i p q n i;cases e;obtain⟨m,k,r⟩:=Tr c 40 x v p n f;obtain⟨b1,l,s⟩:=Tr c 40 y u q i g;exact⟨_,uf j,_,_,p,q,m,b1,⟨k,by lia⟩,⟨l,by lia⟩,h.self c W7⟩
  .cases e
theorem qa(j:X.A.units+64<vE):YB X.K (Zi X (yZ .NotEq)) YG:=by
 intro x y S d o H J v u Q e c f g h;unfold YG at e;split at e
 .rename_i a b;cases e;subst f g;refine⟨_,yz,rfl,?_⟩;have z:decide (V.str a=V.str b)=decide (a=b):=by simp
  rw[z];exact h.self c W7
 .split at e
  .rename_i p q n i;cases e;obtain⟨m,k,r⟩:=Tr c 40 x v p n f;obtain⟨b1,l,s⟩:=Tr c 40 y u q i g;exact⟨_,ue j,_,_,p,q,m,b1,⟨k,by lia⟩,⟨l,by lia⟩,h.self c W7⟩
  .cases e
def D.isNon:D->Bool
 |.non=>Z7
 |_=>Z5
theorem ES{K:yQ}(r:RV K H J x v):decide (v=.non)=x.isNon:=by
 cases x with
 |non=>unfold RV at r;subst r;rfl
 |bl _=>unfold RV at r;subst r;rfl
 |int _=>unfold RV at r;subst r;rfl
 |str _=>unfold RV at r;subst r;rfl
 |ty _=>unfold RV at r;subst r;rfl
 |tup _=>unfold RV at r;obtain⟨_,_,rfl,_⟩:=r;rfl
 |lst _=>unfold RV at r;obtain⟨_,rfl,_⟩:=r;rfl
 |dct _=>unfold RV at r;obtain⟨_,rfl,_⟩:=r;rfl
 |rol _=>unfold RV at r;obtain⟨_,_,rfl,_⟩:=r;rfl
 |ob _=>unfold RV at r;obtain⟨_,_,_,_,_,rfl,_⟩:=r;rfl
 |ktp _=>unfold RV at r;obtain⟨_,rfl,_⟩:=r;rfl
def Tq:D->D->M D
 |x,.non=>ret (.bl x.isNon)
 |.bl a,.bl b=>ret (.bl (a == b))
 |_,_=>bad
def Rv:D->D->M D
 |x,.non=>ret (.bl (!x.isNon))
 |.bl a,.bl b=>ret (.bl (a != b))
 |_,_=>bad
theorem p9:YB X.K (Zi X (yZ .Is)) Tq:=by
 intro x y S d f H J v u Q e c a b h;unfold Tq at e;split at e
 .obtain⟨rfl,rfl⟩:=Yl e;exact⟨_,yt,b,by rw[ES a];exact h.self c W7⟩
 .obtain⟨rfl,rfl⟩:=Yl e;subst a b;exact⟨_,u7,_,_,rfl,rfl,h.self c W7⟩
 .cases e
theorem p8:YB X.K (Zi X (yZ .IsNot)) Rv:=by
 intro x y S d f H J v u Q e c a b h;unfold Rv at e;split at e
 .obtain⟨rfl,rfl⟩:=Yl e;exact⟨_,yr,b,by rw[ES a];exact h.self c W7⟩
 .obtain⟨rfl,rfl⟩:=Yl e;subst a b;exact⟨_,u6,_,_,rfl,rfl,h.self c W7⟩
 .cases e
def XS:D->Option V
 |.non=>Z9 .non
 |.bl b=>Z9 (.bl b)
 |.int i=>Z9 (.int i)
 |.str x=>Z9 (.str x)
 |_=>Z8
theorem ER{K:yQ}(e:XS x=Z9 w)(r:RV K H J x v):v=w:=by
 cases x with
 |non=>cases e;exact r
 |bl _=>cases e;exact r
 |int _=>cases e;exact r
 |str _=>cases e;exact r
 |_=>cases e
theorem EO{K:yQ}{H:Hp}{J:yC}:∀{a:List D}{vs ws:List V},a.mapM XS=Z9 ws->RVs K H J a vs->vs=ws
 |[],vs,ws,e,r=>by simp at e;subst e;exact r.nil_inv
 |d::a,vs,ws,e,r=>by
  obtain⟨v,h,rfl,c,g⟩:=r.cons_inv;rw[qF6]at e;cases q:XS d with
  |none=>rw[q]at e;cases e
  |some w =>
   cases b:a.mapM XS with
   |none=>rw[q,b]at e;cases e
   |some f =>
    rw[q,b]at e;cases e;rw[ER q c,EO b g]
def WY:D->Option Zz
 |.int i=>Z9 (.inl i)
 |.str x=>Z9 (.inr x)
 |_=>Z8
theorem Ru{K:yQ}(e:WY x=Z9 k)(r:RV K H J x v):v=kV k:=by
 cases x with
 |int _=>cases e;exact r
 |str _=>cases e;exact r
 |_=>cases e
def Zk{b:Type}[DecidableEq b](a:List (b×D))(k:b):Option D:=(a.find? λc=>decide (c.1=k)).map (·.2)
def Zo{c:Type}[DecidableEq c](a:List (c×D))(k:c)(v:D):List (c×D) :=
 if(a.any λb=>decide (b.1=k))=Z7 then a.map (λb=>if b.1=k then(b.1,v)else b)else a++[(k,v)]
section
variable {κ:Type} [DecidableEq κ] {K:yQ}{H:Hp}{J:yC}
theorem YN.cons_inv{ws:List (κ×V)}(h:YN K H J (p::b) ws):∃q us,ws=q::us/\p.1=q.1/\RV K H J p.2 q.2/\YN K H J b us:=by
 obtain⟨a,c⟩:=h;rw[qB2]at a c;obtain⟨v,g,e,d,f⟩:=c.cons_inv;cases ws with
 |nil=>simp at a
 |cons q us =>
  rw[qB2]at a e;cases e;rw[qK0.injEq]at a;exact⟨q,us,rfl,a.1,d,a.2,f⟩
theorem YN.val:∀{c:List (κ×D)}{ws:List (κ×V)},YN K H J c ws->(∀d,Zk c k=Z9 d->∃v,Yg ws k=Z9 v/\RV K H J d v)/\(Zk c k=Z8->Yg ws k=Z8)
 |[],ws,h=>by
  have:ws=[]:=by have:=h.1;cases ws with|nil=>rfl|cons a b=>simp at this
  subst this;exact⟨λd e=>(by cases e),λ_=>rfl⟩
 |p::c,ws,h=>by
  obtain⟨q,m,rfl,g,n,i⟩:=h.cons_inv;obtain⟨j,l⟩:=YN.val i;by_cases hk:p.1=k
  .have f:Zk (p::c) k=Z9 p.2:=by simp[Zk,hk]
   rw[f,Ov (g▸hk)]
   simp_all
  .have f:Zk (p::c) k=Zk c k:=by simp[Zk,hk]
   rw[f,Ou (g▸hk)];exact⟨j,l⟩
theorem YN.nil:YN K H J ([]:List (κ×D)) []:=⟨rfl,RVs.nil⟩
theorem YN.cons{ws:List (κ×V)}(r:RV K H J d v)(h:YN K H J a ws):YN K H J ((k,d)::a) ((k,v)::ws):=⟨by rw[qB2,qB2,h.1],.cons r h.2⟩
theorem YN.any:∀{c:List (κ×D)}{ws:List (κ×V)},YN K H J c ws->(c.any λd=>decide (d.1=k))=(ws.any λd=>decide (d.1=k))
 |[],ws,h=>by
  have:ws=[]:=by have:=h.1;cases ws with|nil=>rfl|cons a b=>simp at this
  subst this;rfl
 |p::c,ws,h=>by obtain⟨q,g,rfl,e,i,f⟩:=h.cons_inv;rw[qE9,qE9,YN.any f,e]
theorem YN.mapSet(f:RV K H J d v):∀{c:List (κ×D)}{ws:List (κ×V)},YN K H J c ws->YN K H J (c.map (λe=>if e.1=k then(e.1,d)else e)) (ws.map (λe=>if e.1=k then(e.1,v)else e))
 |[],ws,h=>by
  have:ws=[]:=by have:=h.1;cases ws with|nil=>rfl|cons a b=>simp at this
  subst this;exact .nil
 |p::c,ws,h=>by
  obtain⟨q,m,rfl,l,j,g⟩:=h.cons_inv;rw[qB2,qB2];obtain⟨i,n⟩:=p;obtain⟨o,r⟩:=q;subst l;by_cases hk:i=k
  .rw[if_pos hk,if_pos hk];exact .cons f (YN.mapSet f g)
  .rw[if_neg hk,if_neg hk];exact .cons j (YN.mapSet f g)
theorem YN.append{a:List (κ×V)}(h:YN K H J b bs)(g:YN K H J cs a):YN K H J (b++cs) (bs++a):=⟨by rw[qE2,qE2,h.1,g.1],by rw[qE2,qE2];exact h.2.append g.2⟩
theorem YN.put(c:RV K H J d v){ws:List (κ×V)}(h:YN K H J a ws):YN K H J (Zo a k d) (YP ws k v):=by
 unfold Zo YP;rw[h.any];by_cases b:(ws.any λe=>decide (e.1=k))=Z7
 .rw[if_pos b,if_pos b];exact h.mapSet c
 .rw[if_neg b,if_neg b];exact h.append (.cons c .nil)
def WX(a more:List (κ×D)):List (κ×D):=more.foldl (λacc b=>Zo acc b.1 b.2) a
theorem YN.len{ws:List (κ×V)}(h:YN K H J a ws):a.length=ws.length:=by have:=congrArg qG1 h.1;simpa using this
end
def dictAt(S:ZU)(n:Nat)(x:D):Option (Option D):=match S[n]? with
 |some (.dk a)=>(WY x).map λk=>Zk a k
 |some (.dt a)=>match x with
  |.tup ks=>(ks.mapM WY).map λk=>Zk a k
  |_=>Z8
 |some (.fk a)=>(WY x).map λk=>Zk a k
 |_=>Z8
theorem N4{K:yQ}{H:Hp}{J:yC}:∀{a:List D}{ks:List Zz}{vs:List V},a.mapM WY=Z9 ks->RVs K H J a vs->vs=ks.map kV
 |[],ks,vs,e,r=>by simp at e;subst e;exact r.nil_inv
 |d::a,ks,vs,e,r=>by
  obtain⟨u,h,rfl,f,g⟩:=r.cons_inv;rw[qF6]at e;cases q:WY d with
  |none=>rw[q]at e;cases e
  |some k =>
   cases b:a.mapM WY with
   |none=>rw[q,b]at e;cases e
   |some c =>
    rw[q,b]at e;cases e;rw[qB2,Ru q f,N4 b g]
theorem EN{K:yQ}(l:SR K J S H)(e:dictAt S n x=Z9 r)(j:J[n]?=Z9 a)(i:RV K H J x v):∃o,X6 H a v o/\(∀d,r=Z9 d->∃w,o=Z9 w/\RV K H J d w)/\(r=Z8->o=Z8):=by
 unfold dictAt at e;split at e
 .rename_i c h;cases q:WY x with
  |none=>rw[q]at e;cases e
  |some k =>
   rw[q]at e;cases e;obtain⟨g,f,b⟩:=l.get j h;have:=Ru q i;subst this;exact⟨Yg g k,X6.k f,(b.val).1,(b.val).2⟩
 .rename_i c h;split at e
  .rename_i ks;cases q:ks.mapM WY with
   |none=>rw[q]at e;cases e
   |some k =>
    rw[q]at e;cases e;obtain⟨g,f,b⟩:=l.get j h;unfold RV at i;obtain⟨p,t,rfl,s,m⟩:=i;have:=N4 q m;subst this;exact⟨Yg g k,X6.t f s,(b.val (k:=k)).1,(b.val (k:=k)).2⟩
  .cases e
 .rename_i c h;cases q:WY x with
  |none=>rw[q]at e;cases e
  |some k =>
   rw[q]at e;cases e;obtain⟨o,g,f,b⟩:=l.get j h;have:=Ru q i;subst this;exact⟨Yg g k,.inl ⟨_,_,.inr ⟨o,f⟩,rfl,rfl⟩,(b.val (k:=k)).1,(b.val (k:=k)).2⟩
 .cases e
def YA(neg:Bool):D->D->M D:=λx y S=>match y with
 |.dct n=>match dictAt S n x with
  |some o=>.ok (.bl (if neg then !o.isSome else o.isSome)) S
  |none=>.bad
 |_=>match Sv S y,XS x with
  |some a,Z9 v=>match a.mapM XS with
   |some b=>.ok (.bl (if neg then !TB v b else TB v b)) S
   |none=>.bad
  |some a,Z8=>match Yt 40 S x,a.mapM (Yt 40 S)with
   |some p,Z9 c=>.ok (.bl (if neg then !(c.any λd=>PyData.eqv d p)else c.any λd=>PyData.eqv d p)) S
   |_,_=>.bad
  |_,_=>.bad
theorem EM(h:XS x=Z9 v):UN v=Z7:=by cases x<;>first|(cases h;rfl)| cases h
theorem EL:∀{b:List D}{vs:List V},b.mapM XS=Z9 vs->vs.all UN=Z7
 |[],vs,e=>by simp at e;subst e;rfl
 |d::b,vs,e=>by
  rw[qF6]at e;cases q:XS d with
  |none=>rw[q]at e;cases e
  |some w =>
   cases a:b.mapM XS with
   |none=>rw[q,a]at e;cases e
   |some c =>
    rw[q,a]at e;cases e;rw[qJ3,EM q,EL a];rfl
theorem p7(e:X.A.units+1<vE):YW X (yZ .In) (λy x H Q=>∃a o,x=.ref a/\X6 H a y o/\Q (.bl o.isSome) H):=by intro b s Z H y x v u Q I d c h;obtain⟨a,o,rfl,g,q⟩:=h;obtain rfl:u=Value.ref a:=c;exact LB e I g d λi f=>⟨.bl o.isSome,H,f,rfl,q⟩
theorem p6(e:X.A.units+1<vE):YW X (yZ .NotIn) (λy x H Q=>∃a o,x=.ref a/\X6 H a y o/\Q (.bl (!o.isSome)) H):=by intro b s Z H y x v u Q I d c h;obtain⟨a,o,rfl,g,q⟩:=h;obtain rfl:u=Value.ref a:=c;exact vy e I g d λi f=>⟨.bl (!o.isSome),H,f,rfl,q⟩
theorem KI{n:Nat}:∀{ps:List vF},PyData.canLayAll0 ps=Z7->PyData.depthAll ps<=n->∀d∈ps,d.canLay0=Z7/\d.depth<=n
 |[],_,_,d,h=>by cases h
 |p::ps,h1,h2,d,h=>by
  replace h1:(PyData.canLay0 p&&PyData.canLayAll0 ps)=Z7:=h1
  replace h2:max p.depth (PyData.depthAll ps)<=n:=h2
  rw[qC1]at h1;rcases qC0.mp h with rfl|h
  .exact⟨h1.1,by lia⟩
  .exact KI h1.2 (by lia) d h
theorem EK(M:YW X (yZ op) (LI X.K neg))(O:YW X (yZ op) (λy x H Q=>∃a o,x=.ref a/\X6 H a y o/\Q (.bl (if neg then !o.isSome else o.isSome)) H))
  (E:YW X (yZ op) (SG X.K neg))
  : YB X.K (Zi X (yZ op)) (YA neg):=by
 intro x y S d U H J v u Q e b j f h;unfold YA at e;split at e
 .rename_i n;split at e
  .rename_i o T;cases e;unfold RV at f;obtain⟨a,rfl,K⟩:=f;obtain⟨A,g,F,N⟩:=EN b T K j;have c:A.isSome=o.isSome:=by
    cases o with
    |none=>simp[N rfl]
    |some d=>obtain⟨w,rfl,_⟩:=F d rfl;rfl
   exact⟨_,O,a,A,rfl,g,by rw[c];exact h.self b W7⟩
  .cases e
 .split at e
  .rename_i t w m c;split at e
   .rename_i W z;cases e;obtain⟨a,i,rfl,l,q⟩:=b.seq f m;have L:=ER c j;have P:=EO z q;subst L P;exact⟨_,M,a,i,rfl,l,EM c,EL z,h.self b W7⟩
   .cases e
  .rename_i t m c;split at e
   .rename_i p B I k;cases e;obtain⟨a,i,rfl,l,q⟩:=b.seq f m;obtain⟨R,G,V⟩:=Tr b 40 x v p I j;obtain⟨b1,D,C⟩:=N5 (λd v p e r=>Tr b 40 d v p e r) t i B k q;exact⟨_,E,a,i,_,_,p,B,rfl,l,R,⟨G,by lia⟩,b1,λd s=>⟨(KI D C d s).1,by have:=(KI D C d s).2;lia⟩,h.self b W7⟩
   .cases e
  .cases e
theorem p5(a:X.A.units+64<vE):YB X.K (Zi X (yZ .In)) (YA Z5):=EK xh (p7 (by lia))
 (tj a)
theorem p0(a:X.A.units+64<vE):YB X.K (Zi X (yZ .NotIn)) (YA Z7):=EK xg (p6 (by lia))
 (sZ a)
end
section
variable {X:Cx}
theorem pZ(o:X.A.units+1<vE):SQ X (λx y H Q=>∃a v,x=.ref a/\X6 H a y (Z9 v)/\Q v H):=by
 intro d e c s Z H x y v u Q I m n h l;obtain⟨a,z,rfl,g,q⟩:=h;obtain rfl:v=Value.ref a:=m;have t:=vw I g;have i:y2 (yW X.prog X.w) X.A (gV (.ref a) u) (EP X c Z Q) X.xe s:=vz o I g n λw A p j=>⟨z,H,p,j,q⟩
 refine yO ?_;refine yO (wpAny_specialOf t PySem.F.slot_dict_getitem.lookup ?_);have k:y2 (yW X.prog X.w) X.A (uL e Z5 (.ref a) u) (λr b=>y2 (yW X.prog X.w) X.A (letTemporaryGo d (.ref a) r >>= λ_=>pure r) (EP X c Z Q) X.xe b) X.xe s:=by rw[l];exact wpAny_operating (jU i (λr b f=>yO (wpAny_letTemporaryGo (yP f))) λ_ _ x=>x)
 exact yP (yO k)
def ZK:D->D->M D:=λx i S=>match x with
 |.dct n=>match dictAt S n i with
  |some (Z9 d)=>.ok d S
  |_=>.bad
 |.str z=>match i with
  |.int j=>match XN z.cps.toList j with
   |some c=>if z.length<=lim then .ok (.str ⟨#[c]⟩) S else .bad
   |none=>.bad
  |_=>.bad
 |_=>match Sv S x,i with
  |some a,.int j=>match XN a j with
   |some d=>.ok d S
   |none=>.bad
  |_,_=>.bad
theorem RVs.at{K:yQ}(r:RVs K H J a vs)(e:XN a i=Z9 d):∃v,XN vs i=Z9 v/\RV K H J d v:=by
 unfold XN at e ⊢;rw[<- r.len];cases q:VQ a.length i with
 |none=>rw[q]at e;cases e
 |some j =>
  rw[q]at e;obtain⟨v,c,b⟩:=r.get e;exact⟨v,c,b⟩
theorem pY(A:X.A.units+1<vE):YB X.K (KQ X) ZK:=by
 intro x y S d G H J v u Q e f l i h;unfold ZK at e;split at e
 .rename_i n;split at e
  .rename_i r D;cases e;obtain⟨a,rfl,B⟩:=l;obtain⟨o,g,t,_⟩:=EN f D B i;obtain⟨w,rfl,b⟩:=t _ rfl;exact⟨_,pZ A,a,w,rfl,g,h.self f b⟩
  .cases e
 .rename_i z;split at e
  .rename_i j;split at e
   .rename_i c E;split at e
    .rename_i s;cases e;unfold RV at l i;subst l i;exact⟨_,xo,z,j,c,rfl,rfl,Wz s,E,h.self f VL⟩
    .cases e
   .cases e
  .cases e
 .split at e
  .rename_i I j C;split at e
   .rename_i r q;cases e;obtain⟨a,p,rfl,k,F⟩:=f.seq l C;obtain⟨w,m,b⟩:=F.at q;unfold RV at i;subst i;rcases k with k|k
    .exact⟨_,xq,a,p,j,w,rfl,rfl,k,m,h.self f b⟩
    .exact⟨_,xp,a,p,j,w,rfl,rfl,k,m,h.self f b⟩
   .cases e
  .cases e
def Ys(xs:List D)(lo hi:yG):List D:=(xs.drop (HT.sIx xs.length 0 lo)).take (HT.sIx xs.length xs.length hi - HT.sIx xs.length 0 lo)
def W6:D->yG->yG->M D:=λx b c S=>match x with
 |.tup a=>.ok (.tup (Ys a b c)) S
 |.lst n=>match ZA S n with
  |some a=>.ok (.lst S.length) (S++[.lst (Ys a b c)])
  |none=>.bad
 |.rol a=>.ok (.lst S.length) (S++[.lst (Ys a b c)])
 |.str z=>if z.length<=lim then .ok (.str (Txt.slice z b c)) S else .bad
 |_=>.bad
theorem RVs.cut{K:yQ}(r:RVs K H J a vs)(lo hi:yG):RVs K H J (Ys a lo hi) (cutV vs lo hi):=by unfold Ys cutV;rw[r.len];exact(r.drop _).take _
theorem pX:ET X.K (KP X) W6:=by
 intro x i k S d s H J v Q e f b h;unfold W6 at e;split at e
 .cases e;obtain⟨p,c,rfl,q,g⟩:=b;exact⟨_,uW,p,c,rfl,q,λr t m sq=>h.oldT f m sq (g.cut i k)⟩
 .split at e
  .rename_i u o;cases e;obtain⟨a,rfl,n⟩:=b;obtain⟨c,q,g⟩:=f.sq n o;exact⟨_,Ga,a,c,rfl,q,λp j=>h.newL f j (g.cut i k)⟩
  .cases e
 .cases e;unfold RV at b;obtain⟨p,c,rfl,q,g⟩:=b;exact⟨_,Ga,p,c,rfl,q.sq,λp j=>h.newL f j (g.cut i k)⟩
 .split at e
  .rename_i l;cases e;unfold RV at b;subst b;exact⟨_,rz,_,rfl,Wz l,h.self f VL⟩
  .cases e
 .cases e
theorem RVs.reverse{K:yQ}:∀{a:List D}{vs:List V},RVs K H J a vs->RVs K H J a.reverse vs.reverse
 |[],vs,r=>by rw[r.nil_inv];exact .nil
 |d::a,vs,r=>by obtain⟨v,e,rfl,b,c⟩:=r.cons_inv;rw[qK3,qK3];exact c.reverse.append (.cons b .nil)
def Zv:List D->M D:=λc S=>match c with
 |[.str x]=>if x.length<=lim then .ok (.int x.length) S else .bad
 |[.dct n]=>match S[n]? with
  |some (.dk a)=>.ok (.int a.length) S
  |some (.fk a)=>.ok (.int a.length) S
  |_=>.bad
 |[.ktp b]=>.ok (.int b.length) S
 |[x]=>match Sv S x with
  |some b=>.ok (.int b.length) S
  |none=>.bad
 |_=>.bad
theorem RVs.one{K:yQ}(h:RVs K H J [d] vs):∃v,vs=[v]/\RV K H J d v:=by obtain⟨v,c,rfl,a,b⟩:=h.cons_inv;rw[b.nil_inv];exact⟨v,rfl,a⟩
theorem RVs.two{K:yQ}(h:RVs K H J [d,e] vs):∃v u,vs=[v,u]/\RV K H J d v/\RV K H J e u:=by obtain⟨v,f,rfl,a,b⟩:=h.cons_inv;obtain⟨u,rfl,c⟩:=b.one;exact⟨v,u,rfl,a,c⟩
theorem pW:WK X.K (Yu X (.builtin "len")) Zv:=by
 intro u S d s H J m Q e b f h;unfold Zv at e;split at e
 .split at e
  .rename_i p;cases e;obtain⟨v,rfl,r⟩:=f.one;subst r;exact⟨_,xf,_,rfl,Wz p,h.self b XT⟩
  .cases e
 .obtain⟨v,rfl,r⟩:=f.one;unfold RV at r;obtain⟨a,rfl,n⟩:=r;split at e
  .rename_i g l;cases e;obtain⟨k,i,c⟩:=b.get n l;exact⟨_,E7,a,k,rfl,.inl i,by rw[<- c.len];exact h.self b XT⟩
  .rename_i g l;cases e;obtain⟨o,k,i,c⟩:=b.get n l;exact⟨_,E7,a,k,rfl,.inr ⟨o,i⟩,by rw[<- c.len];exact h.self b XT⟩
  .cases e
 .cases e;obtain⟨v,rfl,r⟩:=f.one;unfold RV at r;obtain⟨a,rfl,j⟩:=r;exact⟨_,F8,a,_,rfl,.inr j,by rw[qA1];exact h.self b XT⟩
 .split at e
  .rename_i t q;cases e;obtain⟨v,rfl,r⟩:=f.one;obtain⟨a,m,rfl,j,c⟩:=b.seq r q;exact⟨_,F8,a,m,rfl,j,by rw[<- c.len];exact h.self b XT⟩
  .cases e
 .cases e
def Su(a:Int):yA->Int
 |[]=>a
 |b::r=>if b<a then Su b r else Su a r
def Ss(a:Int):yA->Int
 |[]=>a
 |b::r=>if a<b then Ss b r else Ss a r
theorem KH:∀(a:Int) (r:yA),Su a r∈a::r/\∀x∈a::r,Su a r<=x
 |a,[]=>by simp[Su]
 |a,b::r=>by
  unfold Su;split
  .have h:=KH b r;refine⟨qC4 _ h.1,λx c=>?_⟩;rcases qC0.mp c with rfl|c
   .have:=h.2 b (by simp);lia
   .exact h.2 x c
  .have h:=KH a r;refine⟨?_,λx c=>?_⟩
   .rcases qC0.mp h.1 with e|e
    .rw[e];simp
    .simp_all
   .have:=h.2 a (by simp)
    grind
theorem KG:∀(a:Int) (r:yA),Ss a r∈a::r/\∀x∈a::r,x<=Ss a r
 |a,[]=>by simp[Ss]
 |a,b::r=>by
  unfold Ss;split
  .have h:=KG b r;refine⟨qC4 _ h.1,λx c=>?_⟩;rcases qC0.mp c with rfl|c
   .have:=h.2 b (by simp);lia
   .exact h.2 x c
  .have h:=KG a r;refine⟨?_,λx c=>?_⟩
   .rcases qC0.mp h.1 with e|e
    .rw[e];simp
    .simp_all
   .have:=h.2 a (by simp)
    grind
def Wx:List D->M D:=λb S=>match b with
 |[.int i,.int j]=>.ok (.int (if j<i then j else i)) S
 |[.lst n]=>match (ZA S n).bind Wy with
  |some (a::r)=>.ok (.int (Su a r)) S
  |_=>.bad
 |_=>.bad
def Xf:List D->M D:=λb S=>match b with
 |[.int i,.int j]=>.ok (.int (if j>i then j else i)) S
 |[.lst n]=>match (ZA S n).bind Wy with
  |some (a::r)=>.ok (.int (Ss a r)) S
  |_=>.bad
 |_=>.bad
theorem pV(i:X.calm=Z7):WK X.K (Yu X (.builtin "min")) Wx:=by
 intro B S d w H J y Q e f g h;unfold Wx at e;split at e
 .cases e;obtain⟨v,u,rfl,c,m⟩:=g.two;subst c m;exact⟨_,yf i,_,_,rfl,h.self f XT⟩
 .split at e
  .rename_i b r p;cases e;obtain⟨x,j,l⟩:=qA3.mp p;obtain⟨v,rfl,c⟩:=g.one;unfold RV at c;obtain⟨a,rfl,n⟩:=c;obtain⟨A,q,t⟩:=f.sq n j;have z:=T9 l t;subst z;refine⟨_,rK i,a,b::r,rfl,q,by simp,λM o k=>?_⟩;have s:=KH b r;rw[qO0 (k _ s.1) (s.2 _ o)];exact h.self f XT
  .cases e
 .cases e
theorem pU(i:X.calm=Z7):WK X.K (Yu X (.builtin "max")) Xf:=by
 intro B S d w H J y Q e f g h;unfold Xf at e;split at e
 .cases e;obtain⟨v,u,rfl,c,m⟩:=g.two;subst c m;exact⟨_,yg i,_,_,rfl,h.self f XT⟩
 .split at e
  .rename_i b r p;cases e;obtain⟨x,j,l⟩:=qA3.mp p;obtain⟨v,rfl,c⟩:=g.one;unfold RV at c;obtain⟨a,rfl,n⟩:=c;obtain⟨A,q,t⟩:=f.sq n j;have z:=T9 l t;subst z;refine⟨_,rJ i,a,b::r,rfl,q,by simp,λM o k=>?_⟩;have s:=KG b r;rw[qO0 (s.2 _ o) (k _ s.1)];exact h.self f XT
  .cases e
 .cases e
def Xu:List D->M D:=λb S=>match b with
 |[.tup a]=>.ok (.tup a) S
 |[.lst n]=>match ZA S n with
  |some a=>.ok (.tup a) S
  |none=>.bad
 |_=>.bad
theorem pT:WK X.K (Yu X (.type "tuple")) Xu:=by
 intro t S d n H J s Q e b f h;unfold Xu at e;split at e
 .cases e;obtain⟨v,rfl,r⟩:=f.one;have i:=r;obtain⟨p,c,rfl,q,g⟩:=i;exact⟨_,F7,p,c,rfl,.inr ⟨Zp.of q,h.self b r⟩⟩
 .split at e
  .rename_i o m;cases e;obtain⟨v,rfl,r⟩:=f.one;obtain⟨a,rfl,k⟩:=r;obtain⟨c,q,g⟩:=b.sq k m;exact⟨_,F7,a,c,rfl,.inl ⟨q,λl j=>h.newT b j g⟩⟩
  .cases e
 .cases e
def Xs:List D->M D:=λa S=>match a with
 |[.int i]=>.ok (.int i) S
 |[.bl b]=>.ok (.int (if b then 1 else 0)) S
 |[.str z]=>if z.length<=640 then(match wI z with|some n=>.ok (.int n) S|none=>.bad)else .bad
 |_=>.bad
theorem pS:WK X.K (Yu X (.type "int")) Xs:=by
 intro j S d g H J i Q e b a h;unfold Xs at e;split at e
 .cases e;obtain⟨v,rfl,r⟩:=a.one;subst r;exact⟨_,Gs,.inl ⟨_,rfl,h.self b XT⟩⟩
 .cases e;obtain⟨v,rfl,r⟩:=a.one;subst r;exact⟨_,Gs,.inr ⟨_,rfl,h.self b XT⟩⟩
 .split at e
  .rename_i f;split at e
   .rename_i n c;cases e;obtain⟨v,rfl,r⟩:=a.one;unfold RV at r;subst r;exact⟨_,ry,_,_,rfl,c,f,h.self b XT⟩
   .cases e
  .cases e
 .cases e
def KF(S:ZU)(n:Nat):Option String:=match S[n]? with
 |some (.dk _)=>Z9 "dict"
 |_=>Z8
def KE(S:ZU):D->Option String
 |.non=>Z9 "NoneType"
 |.bl _=>Z9 "bool"
 |.int _=>Z9 "int"
 |.str _=>Z9 "str"
 |.tup _=>Z9 "tuple"
 |.lst n=>if(ZA S n).isSome then Z9 "list" else Z8
 |.dct n=>KF S n
 |_=>Z8
def Yf:List D->M D:=λa S=>match a with
 |[x,.ty T]=>match KE S x with
  |some t=>if T∈["bool","int","tuple","list","str","dict"]then .ok (.bl (FJ t T)) S else .bad
  |none=>.bad
 |_=>.bad
theorem pR{K:yQ}(d:SR K J S H)(e:KE S x=Z9 t)(r:RV K H J x v):UK K H v t/\t∈["NoneType","bool","int","str","tuple","list","dict"]:=by
 cases x with
 |non=>cases e;subst r;exact⟨.non,by decide⟩
 |bl b=>cases e;subst r;exact⟨.bl b,by decide⟩
 |int i=>cases e;subst r;exact⟨.int i,by decide⟩
 |str i=>cases e;subst r;exact⟨.str i,by decide⟩
 |tup l=>cases e;obtain⟨p,j,rfl,q,_⟩:=r;exact⟨.tup (Zp.of q),by decide⟩
 |lst n =>
  have e:(if(ZA S n).isSome then Z9 "list" else Z8)=Z9 t:=e;split at e
  .rename_i g;cases e;obtain⟨l,k⟩:=qH4.mp g;obtain⟨a,rfl,c⟩:=r;obtain⟨j,q,_⟩:=d.sq c k;exact⟨.lst q,by decide⟩
  .cases e
 |dct n =>
  have e:KF S n=Z9 t:=e;unfold KF at e;split at e
  .rename_i f m;cases e;obtain⟨a,rfl,c⟩:=r;obtain⟨o,h,_⟩:=d.get c m;exact⟨.dk h,by decide⟩
  .cases e
 |ty n=>cases e
 |rol n=>cases e
 |ob _=>cases e
 |ktp _=>cases e
theorem pQ:WK X.K (Yu X (.builtin "isinstance")) Yf:=by
 intro m S d k H J l Q e a c h;unfold Yf at e;split at e
 .rename_i x T;split at e
  .rename_i t j;split at e
   .rename_i i;cases e;obtain⟨v,u,rfl,g,f⟩:=c.two;subst f;obtain⟨b,k2⟩:=pR a j g;exact⟨_,um,v,t,T,_,rfl,b,uk X.K t k2 T i,h.self a W7⟩
   .cases e
  .cases e
 .cases e
def Wa:List D->Option (List Bool)
 |[]=>Z9 []
 |.bl b::r=>(Wa r).map (b::·)
 |_::_=>Z8
theorem EJ{K:yQ}{H:Hp}{J:yC}:∀{a:List D}{ns:List Bool}{vs:List V},Wa a=Z9 ns->RVs K H J a vs->vs=ns.map V.bl
 |[],ns,vs,e,r=>by cases e;rw[r.nil_inv];rfl
 |.bl i::a,ns,vs,e,r=>by
  obtain⟨v,d,rfl,b,c⟩:=r.cons_inv;unfold Wa at e;cases q:Wa a with
  |none=>rw[q]at e;cases e
  |some f =>
   rw[q]at e;cases e;subst b;rw[EJ q c];rfl
 |.non::a,ns,vs,e,r=>by cases e
 |.int _::a,ns,vs,e,r=>by cases e
 |.str _::a,ns,vs,e,r=>by cases e
 |.ty _::a,ns,vs,e,r=>by cases e
 |.tup _::a,ns,vs,e,r=>by cases e
 |.lst _::a,ns,vs,e,r=>by cases e
 |.dct _::a,ns,vs,e,r=>by cases e
 |.rol _::a,ns,vs,e,r=>by cases e
 |.ob _::a,ns,vs,e,r=>by cases e
 |.ktp _::a,ns,vs,e,r=>by cases e
def Xz(g:List Bool->Bool):List D->M D:=λb S=>match b with
 |[.tup ys]=>match Wy ys with
  |some a=>.ok (.bl (g (a.map (· != 0)))) S
  |none=>.bad
 |[.lst n]=>match (ZA S n).bind Wa with
  |some bs=>.ok (.bl (g bs)) S
  |none=>.bad
 |_=>.bad
theorem EI{id:String}(m:Yk X (.builtin id) (λvs H Q=>∃(p:yR) (bs:List Bool),vs=[.ref p]/\YK X.K H p (bs.map V.bl)/\Q (.bl (g bs)) H))(b:Yk X (.builtin id) (λvs H Q=>∃(p:yR) (ns:yA),vs=[.ref p]/\Zp X.K H p (ns.map V.int)/\Q (.bl (g (ns.map (· != 0)))) H)):WK X.K (Yu X (.builtin id)) (Xz g):=by
 intro u S d s H J vs Q e c j h;unfold Xz at e;split at e
 .split at e
  .rename_i ns f;cases e;obtain⟨v,rfl,r⟩:=j.one;obtain⟨a,o,rfl,q,i⟩:=r;have z:=T9 f i;subst z;exact⟨_,b,a,ns,rfl,Zp.of q,h.self c W7⟩
  .cases e
 .split at e
  .rename_i bs f;cases e;obtain⟨t,k,l⟩:=qA3.mp f;obtain⟨v,rfl,r⟩:=j.one;obtain⟨a,rfl,n⟩:=r;obtain⟨o,q,i⟩:=c.sq n k;have z:=EJ l i;subst z;exact⟨_,m,a,bs,rfl,q,h.self c W7⟩
  .cases e
 .cases e
theorem Yk.imp(h:Yk X f r)(w:∀vs H Q,r' vs H Q->r vs H Q):Yk X f r':=λa s Z H c b Q I d q=>h a s Z H c b Q I d (w _ _ _ q)
theorem pP(b:X.calm=Z7):WK X.K (Yu X (.builtin "all")) (Xz λbs=>bs.all id):=EI (va b) ((tp b).imp λf H Q ⟨p,c,e,d,a⟩=>⟨p,c,e,d,by rw[qI0]at a;exact a⟩)
theorem pO(b:X.calm=Z7):WK X.K (Yu X (.builtin "any")) (Xz λbs=>bs.any id):=EI (u9 b) ((tm b).imp λf H Q ⟨p,c,e,d,a⟩=>⟨p,c,e,d,by rw[qP7]at a;exact a⟩)
def WW(a:Int):yA->yA
 |[]=>[a]
 |b::r=>if a<=b then a::b::r else b::WW a r
def Ww:yA->yA
 |[]=>[]
 |a::r=>WW a (Ww r)
theorem KC(a:Int):∀l,(WW a l).Perm (a::l)
 |[]=>.refl _
 |b::r=>by
  unfold WW;split
  .exact .refl _
  .exact((KC a r).cons b).trans (.swap _ _ _)
theorem EH:∀l,(Ww l).Perm l
 |[]=>.refl _
 |a::r=>(KC a _).trans ((EH r).cons a)
theorem EG(a:Int):∀l:yA,l.Pairwise (·<=·)->(WW a l).Pairwise (·<=·)
 |[],_=>by simp[WW]
 |b::r,h=>by
  have f:=qE4.mp h;unfold WW;split
  .rename_i d;refine qE4.mpr ⟨λc e=>?_,h⟩;rcases qC0.mp e with rfl|e
   .exact d
   .exact qQ0 d (f.1 c e)
  .rename_i d;refine qE4.mpr ⟨λc e=>?_,EG a r f.2⟩;rcases qC0.mp ((KC a r).mem_iff.mp e)with rfl|e
   .lia
   .exact f.1 c e
theorem EF:∀l:yA,(Ww l).Pairwise (·<=·)
 |[]=>.nil
 |a::r=>EG a _ (EF r)
theorem KB(h:m.Perm l)(s:m.Pairwise (·<=·)):m=Ww l :=
 (h.trans (EH l).symm).eq_of_pairwise (λa b _ _ d c=>qO0 d c) s (EF l)
def KA:List (Zz×D)->Option (yA)
 |[]=>Z9 []
 |(.inl n,_)::r=>(KA r).map (n::·)
 |_::_=>Z8
theorem EE:∀{a:List (Zz×D)}{ns:yA},KA a=Z9 ns->a.map (·.1)=ns.map Sum.inl
 |[],ns,e=>by cases e;rfl
 |(.inl n,d)::r,ns,e=>by obtain⟨f,c,b⟩:=qA4.mp e;subst b;simp[EE c]
 |(.inr x,d)::r,ns,e=>by cases e
def Sr:List D->Option (List (yA))
 |[]=>Z9 []
 |.tup c::r=>match Wy c,Sr r with
  |some b,Z9 a=>Z9 (b::a)
  |_,_=>Z8
 |_=>Z8
def tD(ns:yA):D:=.tup (ns.map .int)
def V9(a:yA):List (yA)->List (yA)
 |[]=>[a]
 |b::r=>if HT.lexLt b a=Z7 then b::V9 a r else a::b::r
def Vi:List (yA)->List (yA)
 |[]=>[]
 |a::r=>V9 a (Vi r)
abbrev yM:=List D
abbrev U2(l:List (yA)):Prop:=l.Pairwise λx y=>HT.lexLt y x=Z5
theorem Kz(a:yA):∀l,(V9 a l).Perm (a::l)
 |[]=>.refl _
 |b::r=>by
  unfold V9;split
  .exact((Kz a r).cons b).trans (.swap _ _ _)
  .exact .refl _
theorem Rt:∀l,(Vi l).Perm l
 |[]=>.refl _
 |a::r=>(Kz a _).trans ((Rt r).cons a)
theorem ED(a:yA):∀l,U2 l->U2 (V9 a l)
 |[],_=>by simp[V9]
 |b::r,h=>by
  have g:=qE4.mp h;unfold V9;split
  .rename_i e;refine qE4.mpr ⟨λc f=>?_,ED a r g.2⟩;rcases qC0.mp ((Kz a r).mem_iff.mp f)with rfl|f
   .exact K5 _ _ e
   .exact g.1 c f
  .rename_i e;have d:=by simpa using e
   refine qE4.mpr ⟨λc f=>?_,h⟩;rcases qC0.mp f with rfl|f
   .exact d
   .exact K4 a b c d (g.1 c f)
theorem Ky:∀l,U2 (Vi l)
 |[]=>.nil
 |a::r=>ED a _ (Ky r)
theorem Kx(h:m.Perm l)(s:U2 m):m=Vi l :=
 (h.trans (Rt l).symm).eq_of_pairwise (λa b _ _ d c=>Ff a b d c) s (Ky l)
def Rr:List (List Zz×D)->Option (List (yA))
 |[]=>Z9 []
 |(k,_)::r=>match k.mapM (λx=>match x with|.inl n=>Z9 n|.inr _=>Z8),Rr r with
  |some b,Z9 a=>Z9 (b::a)
  |_,_=>Z8
theorem EC:∀{k:List Zz}{ns:yA},k.mapM (λx=>match x with|.inl n=>Z9 n|.inr _=>Z8)=Z9 ns->k=ns.map Sum.inl
 |[],ns,e=>by simp at e;subst e;rfl
 |.inl n::k,ns,e=>by
  rw[qF6]at e;cases q:k.mapM (λx:Zz=>match x with|.inl n=>Z9 n|.inr _=>Z8)with
  |none=>rw[q]at e;cases e
  |some a=>rw[q]at e;cases e;rw[EC q];rfl
 |.inr x::k,ns,e=>by cases e
theorem EB:∀{a:List (List Zz×D)}{nss:List (yA)},Rr a=Z9 nss->a.map (·.1)=nss.map (·.map Sum.inl)
 |[],nss,e=>by cases e;rfl
 |(k,d)::r,nss,e=>by
  unfold Rr at e;split at e
  .rename_i f g c b;cases e;simp[EC c,EB b]
  .cases e
theorem EA{K:yQ}{H:Hp}{J:yC}:∀{g:yM}{nss:List (yA)}{vs:List V},Sr g=Z9 nss->RVs K H J g vs->∃f:List (yR×yA),f.map (·.2)=nss/\vs=f.map (λt=>V.ref t.1)/\∀t∈f,H t.1=Z9 (.tup (t.2.map V.int))
 |[],nss,vs,e,r=>by cases e;exact⟨[],rfl,r.nil_inv,λt h=>(by cases h)⟩
 |d::g,nss,vs,e,r=>by
  unfold Sr at e;split at e
  .rename_i q;cases q
  .rename_i z s q;cases q;split at e
   .rename_i k u o i;cases e;obtain⟨v,y,rfl,n,l⟩:=r.cons_inv;obtain⟨f,a,b,c⟩:=EA i l;obtain⟨p,x,rfl,m,j⟩:=n;rw[T9 o j]at m;refine⟨(p,k)::f,by simp[a],by simp[b],λt w=>?_⟩
    grind
   .cases e
  .cases e
theorem Kw{K:yQ}:∀{a:List (yR×yA)},(∀t∈a,H t.1=Z9 (.tup (t.2.map V.int)))->RVs K H J (a.map λt=>tD t.2) (a.map λt=>V.ref t.1)
 |[],_=>.nil
 |t::a,h=>.cons (by exact⟨t.1,_,rfl,h t (qC9 ..),RVs.ints⟩) (Kw λu b=>h u (qC4 _ b))
theorem Ez(c:(b.map (·.2)).Perm a)(d:Uj b):(Vi a).map tD=b.map λt=>tD t.2:=by rw[<- Kx c (qK5.mpr d),qC6];rfl
def Qf:yM->M D:=λa S=>match a with
 |[x]=>match Sv S x with
  |some b=>.ok (.lst S.length) (S++[.lst b])
  |none=>.bad
 |_=>.bad
theorem pN(p:X.calm=Z7):WK X.K (Yu X (.type "list")) Qf:=by
 intro o S d m H J b Q e c g h;unfold Qf at e;split at e
 .split at e
  .rename_i n j;cases e;obtain⟨v,rfl,r⟩:=g.one;obtain⟨a,b,rfl,i,k⟩:=c.seq r j;exact⟨_,xc,a,b,rfl,i,λl f=>h.newL c f k⟩
  .cases e
 .cases e
def Xe:yM->M D:=λd S=>match d with
 |[.lst n]=>match (ZA S n).bind Wy with
  |some b=>if b.length<64 then .ok (.lst S.length) (S++[.lst ((Ww b).map D.int)])else .bad
  |none=>match (ZA S n).bind Sr with
   |some a=>if WZ a.length then .ok (.lst S.length) (S++[.lst ((Vi a).map tD)])else .bad
   |none=>.bad
 |[.tup d]=>match Wy d with
  |some b=>if b.length<64 then .ok (.lst S.length) (S++[.lst ((Ww b).map D.int)])else .bad
  |none=>.bad
 |[.dct n]=>match S[n]? with
  |some (.dk c)=>match KA c with
   |some b=>if b.length<64 then .ok (.lst S.length) (S++[.lst ((Ww b).map D.int)])else .bad
   |none=>.bad
  |some (.dt c)=>match Rr c with
   |some a=>if WZ a.length then .ok (.lst S.length) (S++[.lst ((Vi a).map tD)])else .bad
   |none=>.bad
  |_=>.bad
 |_=>.bad
theorem Ey(x:X.calm=Z7)(M:X.A.units+64<vE):WK X.K (Yu X (.builtin "sorted")) Xe:=by
 intro P S d L H J N Q e g o h;unfold Xe at e;split at e
 .split at e
  .rename_i n i;split at e
   .rename_i b;cases e;obtain⟨K,j,A⟩:=qA3.mp i;obtain⟨v,rfl,r⟩:=o.one;obtain⟨a,rfl,k⟩:=r;obtain⟨p,q,m⟩:=g.sq k j;have z:=T9 A m;subst z;refine⟨_,tq,a,n,rfl,q,b,λl D b c f=>?_⟩;rw[KB c f];exact h.newL g b RVs.ints
   .cases e
  .split at e
   .rename_i s i;split at e
    .rename_i w;cases e;obtain⟨K,j,A⟩:=qA3.mp i;obtain⟨v,rfl,r⟩:=o.one;unfold RV at r;obtain⟨a,rfl,k⟩:=r;obtain⟨p,q,m⟩:=g.sq k j;obtain⟨E,F,rfl,u⟩:=EA A m;refine⟨_,sj x (by lia),a,E,rfl,q,λt C=>Zp.of (u t C),by rw[<- F,qA1]at w;exact w,λl I b c f=>?_⟩;rw[Ez (by rw[<- F];exact c.map _) f]at h;exact h.newL g b (Kw λt C=>u t (c.mem_iff.mp C))
    .cases e
   .cases e
 .split at e
  .rename_i n i;split at e
   .rename_i b;cases e;obtain⟨v,rfl,r⟩:=o.one;unfold RV at r;obtain⟨a,O,rfl,c,G⟩:=r;rw[T9 i G]at c;refine⟨_,sk x,a,n,rfl,Zp.of c,b,λl D b c f=>?_⟩;rw[KB c f];exact h.newL g b RVs.ints
   .cases e
  .cases e
 .split at e
  .rename_i y i;split at e
   .rename_i n j;split at e
    .rename_i b;cases e;obtain⟨v,rfl,r⟩:=o.one;unfold RV at r;obtain⟨a,rfl,k⟩:=r;obtain⟨p,B,m⟩:=g.get k i;refine⟨_,sU x,a,p,n,rfl,B,by rw[<- m.1];exact EE j,b,λl D b c f=>?_⟩;rw[KB c f];exact h.newL g b RVs.ints
    .cases e
   .cases e
  .rename_i y i;split at e
   .rename_i s j;split at e
    .rename_i w;cases e;obtain⟨v,rfl,r⟩:=o.one;unfold RV at r;obtain⟨a,rfl,k⟩:=r;obtain⟨p,B,m⟩:=g.get k i;refine⟨_,rZ x (by lia),a,p,s,rfl,B,by rw[<- m.1];exact EB j,w,λl E b u c f=>?_⟩;rw[Ez c f]at h;exact h.newL g b (Kw u)
    .cases e
   .cases e
  .cases e
 .cases e
def Vh(K:yQ)(T:String)(r:V->List V->Hp->VK->Prop)(o:D->yM->M D):Prop:=∀x c S d a H J v b Q,o x c S=.ok d a->SR K J S H->RV K H J x v->RVs K H J c b->Xt K J H d a Q->r v b H Q
def XR(T:String)(x:D)(S:ZU):Bool:=match x with
 |.lst n=>decide (T = "list")&&(ZA S n).isSome
 |.dct n=>decide (T = "dict")&&(match S[n]? with|some (.dk _)=>Z7|some (.dt _)=>Z7|_=>Z5)
 |.int _=>decide (T = "int")
 |.str _=>decide (T = "str")
 |_=>Z5
theorem pM{K:yQ}(f:SR K J S H)(h:XR T x S=Z7)(r:RV K H J x v):LH K T v H:=by
 unfold XR at h;split at h
 .simp only[qC1,decide_eq_true_eq]at h;obtain⟨c,d⟩:=h;obtain⟨l,k⟩:=qH4.mp d;obtain⟨a,rfl,b⟩:=r;obtain⟨j,q,_⟩:=f.sq b k;exact .inl ⟨c,j,q⟩
 .simp only[qC1,decide_eq_true_eq]at h;obtain⟨c,d⟩:=h;obtain⟨a,rfl,b⟩:=r;split at d
  .rename_i e i;obtain⟨g,q,_⟩:=f.get b i;exact .inr (.inr (.inl ⟨c,.inl ⟨g,q⟩⟩))
  .rename_i e i;obtain⟨g,q,_⟩:=f.get b i;exact .inr (.inr (.inl ⟨c,.inr ⟨g,q⟩⟩))
  .cases d
 .subst r;exact(of_decide_eq_true h:T = "int")
 .subst r;exact(of_decide_eq_true h:T = "str")
 .cases h
def Xy(T:String)(o:D->yM->M D)(a:C)(b:CA):C:=fun B=>Zc (a B) λx S=>if XR T x S then Zc (b B) (λc=>o x c) S else .bad
variable {o e:yY}{es:yE}{co:C}{ca:CA}{name:Str}{apos cpos:Pos}{T id:String}{m:D->yM->M D}
theorem UF(E:PlainAttrs T)(h:Slot T name id)(l:typeOf (.builtin id)=pure (.type "method_descriptor"))(K:Vh X.K T (V0 X id) m)(P:PE X o (Zy X.K co))(N:PA X (e::es) (Yv X.K ca))
  (c:vS o name X.env (jW o X.env)=jW o X.env)
  (g:((vB cpos (y3 (e::es) X.env)).all (λx=>!x.1)&&(wH cpos (j8 [] X.env)).all (λx=>x.1.isSome)
   && decide ((e::es).length+([]:List wA).length+(if([]:List wA).isEmpty then 0 else 1)<30))=Z7)
  (b:(apos.endLine == cpos.line)=Z7) (z:y3 (e::es) X.env=(Z5,jW e X.env)::y3 es X.env) (a:(vB cpos (y3 es X.env)).any (·.1)=Z5) :
  PE X (.Call (.Attribute o name apos) (e::es) [] cpos) (Zy X.K (Xy T m co ca)):=(wz E h l qV P N c g b z a).weak (by
 rintro Z H Q ⟨J,B,S,d,A,L,q,e,y⟩;obtain⟨x,n,O,e⟩:=Zd e;split at e
 .rename_i hk;obtain⟨s,r,w,e⟩:=Zd e;refine⟨J,B,S,x,n,L,q,O,λv R t k i p=>⟨pM k hk p,t,B,n,s,r,k,q.up i,w,λI u F j f G=>?_⟩⟩;exact K x s r d A u F v I Q e j (RV.up f.tk f.ext _ _ p) G (y.shift (i.trans f j.nd))
 .cases e)
def VZ(g:yM->yM->Option (yM×D)):D->yM->M D:=λx c S=>match x with
 |.lst n=>match S[n]? with
  |some (.lst a)=>match g a c with
   |some (b,d)=>.ok d (S.set n (.lst b))
   |none=>.bad
  |_=>.bad
 |_=>.bad
theorem SR.putL{K:yQ}{a:yM}(d:SR K J S H)(c:J[n]?=Z9 p)(b:H p=Z9 (.lst vs))(r:RVs K H J a ws):SR K J (S.set n (.lst a)) (ZF H p (.lst ws))/\ZC K J J H (ZF H p (.lst ws)) :=
 d.put c b (λ_ z=>by cases z) (λ_ _ z=>by cases z) ⟨ws,Yx,RVs.up (Ob b) ⟨[],by simp⟩ _ _ r⟩
theorem Kv{g:yM->yM->Option (yM×D)}
  (h:∀(K:yQ) H J ys xs a d vs us,g ys xs=Z9 (a,d)->RVs K H J ys vs->RVs K H J xs us->∃ws w,RVs K H J a ws/\RV K H J d w/\∀(p:yR) (Q:VK),H p=Z9 (.lst vs)->Q w (ZF H p (.lst ws))->V0 X id (.ref p) us H Q):Vh X.K "list" (V0 X id) (VZ g):=by
 intro x xs S d A H J v us Q e j l rs y;unfold VZ at e;split at e
 .rename_i n;split at e
  .rename_i ys u;split at e
   .rename_i a z t;cases e;obtain⟨p,rfl,i⟩:=l;obtain⟨vs,f,q⟩:=j.lst i u;obtain⟨ws,w,s,r,c⟩:=h X.K H J ys xs a d vs us t q rs;obtain⟨k,b⟩:=j.putL i f s;exact c p Q f (y w _ J k b (RV.up b.tk b.ext _ _ r))
   .cases e
  .cases e
 .cases e
def UE:yM->yM->Option (yM×D):=λa b=>match b with
 |[x]=>if a.length<lim then Z9 (a++[x],.non)else Z8
 |_=>Z8
theorem pL:Vh X.K "list" (V0 X "list.append") (VZ UE):=Kv λK H J i l k d a j e b g=>by
 unfold UE at e;split at e
 .split at e
  .rename_i f;cases e;obtain⟨v,rfl,h⟩:=g.one;exact⟨a++[v],.non,b.append (.cons h .nil),Ua,λp Q c q=>⟨_,F4,p,a,v,rfl,rfl,c,by rw[<- b.len];exact N7 f,q⟩⟩
  .cases e
 .cases e
def Rq:yM->yM->Option (yM×D):=λa b=>match b with
 |[.int i,x]=>if a.length<1000/\0<=i/\i.toNat<=a.length then Z9 (a.take i.toNat++x::a.drop i.toNat,.non)else Z8
 |_=>Z8
theorem pK:Vh X.K "list" (V0 X "list.insert") (VZ Rq):=Kv λK H J s y r d b t e a g=>by
 unfold Rq at e;split at e
 .rename_i i x;split at e
  .rename_i f;cases e;obtain⟨n,w,c⟩:=f;obtain⟨v,u,rfl,l,j⟩:=g.two;subst l;have k:i=i.toNat:=by lia
   exact⟨b.take i.toNat++u::b.drop i.toNat,.non,(a.take _).append (.cons j (a.drop _)),Ua,λp Q h q=>⟨_,vb,p,b,i.toNat,u,rfl,by rw[<- k],h,by rw[<- a.len];exact n,by rw[<- a.len];exact c,q⟩⟩
  .cases e
 .cases e
theorem RVs.dropLast{K:yQ}{a:yM}(r:RVs K H J a vs):RVs K H J a.dropLast vs.dropLast:=by rw[qO1,qO1,r.len];exact r.take _
def Sq:D->yM->M D:=λx c S=>match x,c with
 |.lst n,[.lst k]=>match S[n]?,S[k]? with
  |some (.lst a),Z9 (.lst b)=>if a.length+b.length<=lim then .ok .non (S.set n (.lst (a++b)))else .bad
  |_,_=>.bad
 |.lst n,[.tup b]=>match S[n]? with
  |some (.lst a)=>if a.length+b.length<=lim then .ok .non (S.set n (.lst (a++b)))else .bad
  |_=>.bad
 |_,_=>.bad
theorem pJ:Vh X.K "list" (V0 X "list.extend") Sq:=by
 intro x G S d E H J v F Q e c t rs y;unfold Sq at e;split at e
 .split at e
  .rename_i z B q A;split at e
   .rename_i j;cases e;obtain⟨p,rfl,b⟩:=t;obtain⟨u,rfl,k⟩:=rs.one;obtain⟨h,rfl,w⟩:=k;obtain⟨n,g,a⟩:=c.lst b q;obtain⟨r,s,f⟩:=c.lst w A;obtain⟨i,l⟩:=c.putL b g (a.append f);exact⟨_,wu,p,h,n,r,rfl,rfl,g,s,by rw[<- a.len,<- f.len];exact Wz j,y _ _ J i l Ua⟩
   .cases e
  .cases e
 .split at e
  .rename_i z q;split at e
   .rename_i j;cases e;obtain⟨p,rfl,b⟩:=t;obtain⟨u,rfl,k⟩:=rs.one;obtain⟨h,r,rfl,s,f⟩:=k;obtain⟨n,g,a⟩:=c.lst b q;obtain⟨i,l⟩:=c.putL b g (a.append f);exact⟨_,tP,p,h,n,r,rfl,rfl,g,Zp.of s,by rw[<- a.len,<- f.len];exact Wz j,y _ _ J i l Ua⟩
   .cases e
  .cases e
 .cases e
theorem YN.merge{K:yQ}{H:Hp}{J:yC}:∀{more:List (Zz×D)}{ws:List (Zz×V)}{kvs:List (Zz×D)}{us:List (Zz×V)},YN K H J more ws->YN K H J kvs us->YN K H J (WX kvs more) (V2 us ws)
 |[],ws,kvs,us,h,g=>by
  have:ws=[]:=by have:=h.1;cases ws with|nil=>rfl|cons a b=>simp at this
  subst this;exact g
 |p::more,ws,kvs,us,h,g=>by obtain⟨q,c,rfl,f,d,i⟩:=h.cons_inv;show YN K H J (WX (Zo kvs p.1 p.2) more) (V2 (YP us q.1 q.2) c);rw[<- f];exact YN.merge i (g.put d)
def So(S:ZU)(n:Nat):Option (List (Zz×D)):=match S[n]? with
 |some (.dk a)=>Z9 a
 |some (.fk a)=>Z9 a
 |_=>Z8
theorem pI{K:yQ}(h:SR K J S H)(e:So S n=Z9 b)(g:J[n]?=Z9 a):∃ws,Rd H a (.dK ws)/\YN K H J b ws:=by
 unfold So at e;split at e
 .rename_i c;cases e;obtain⟨ws,d,f⟩:=h.get g c;exact⟨ws,.inl d,f⟩
 .rename_i c;cases e;obtain⟨o,ws,d,f⟩:=h.get g c;exact⟨ws,.inr ⟨o,d⟩,f⟩
 .cases e
def Sn:D->yM->M D:=λx b S=>match x,b with
 |.dct n,[.dct m]=>match S[n]?,So S m with
  |some (.dk a),Z9 more=>if n≠m/\a.length+more.length<=lim then .ok .non (S.set n (.dk (WX a more)))else .bad
  |_,_=>.bad
 |_,_=>.bad
theorem pH:Vh X.K "dict" (V0 X "dict.update") Sn:=by
 intro x K S d G H J v I Q e g w rs y;unfold Sn at e;split at e
 .rename_i n m;split at e
  .rename_i i more F hk;split at e
   .rename_i p;cases e;obtain⟨a,rfl,f⟩:=w;obtain⟨u,rfl,A⟩:=rs.one;obtain⟨b,rfl,q⟩:=A;obtain⟨r,j,s⟩:=g.get f F;obtain⟨l,k,c⟩:=pI g hk q;have h:a≠b:=λz=>by subst z;exact p.1 ((qQ1 (qA5.mp f).1 g.nd).mp (f.trans q.symm))
    have E:TF X.K H (ZF H a (.dK (V2 r l))):=Ts j (λ_ z=>by cases z) (λ_ _ z=>by cases z);obtain⟨t,B⟩:=g.put (o':=.dk (WX i more)) f j (λ_ z=>by cases z) (λ_ _ z=>by cases z) ⟨_,Yx,(c.merge s).up E ⟨[],by simp⟩⟩;exact⟨_,rR,a,b,r,l,rfl,rfl,h,j,k,by rw[<- s.len,<- c.len];exact Wz p.2,y _ _ J t B Ua⟩
   .cases e
  .cases e
 .cases e
def VG:yM->Option (List (Zz×D))
 |[]=>Z9 []
 |.tup [k,v]::r=>match WY k,VG r with
  |some q,Z9 a=>Z9 ((q,v)::a)
  |_,_=>Z8
 |_=>Z8
theorem Ew{K:yQ}{H:Hp}{J:yC}:∀{f:yM}{ps:List (Zz×D)}{vs:List V},VG f=Z9 ps->RVs K H J f vs->∃c,K1 H vs c/\YN K H J ps c
 |[],ps,vs,e,r=>by cases e;rw[r.nil_inv];exact⟨[],.nil,.nil⟩
 |d::f,ps,vs,e,r=>by
  obtain⟨v,B,rfl,n,l⟩:=r.cons_inv;unfold VG at e;split at e
  .rename_i q;cases q
  .rename_i k x y q;cases q;split at e
   .rename_i q t u h;cases e;obtain⟨c,a,b⟩:=Ew h l;obtain⟨p,A,rfl,g,j⟩:=n;obtain⟨z,s,rfl,w,i⟩:=j.two;rw[Ru u w]at g;exact⟨(q,s)::c,.cons ⟨p,rfl,g⟩ a,YN.cons i b⟩
   .cases e
  .cases e
def Sm:yM->M D:=λc S=>match c with
 |[.lst n]=>match S[n]? with
  |some (.lst a)=>match VG a with
   |some b=>if a.length<=lim then .ok (.dct S.length) (S++[.dk (WX [] b)])else .bad
   |none=>.bad
  |_=>.bad
 |_=>.bad
theorem pG(z:X.calm=Z7):WK X.K (Yu X (.type "dict")) Sm:=by
 intro F S d A H J E Q e b l h;unfold Sm at e;split at e
 .split at e
  .rename_i B y;split at e
   .rename_i q i;split at e
    .rename_i k;cases e;obtain⟨v,rfl,r⟩:=l.one;obtain⟨a,rfl,w⟩:=r;obtain⟨u,n,c⟩:=b.get w y;obtain⟨x,t,g⟩:=Ew i c;refine⟨_,rL z,a,u,x,rfl,n,t,by rw[<- c.len];exact Wz k,λp f=>?_⟩;obtain⟨j,s⟩:=b.push (o':=.dk (WX [] q)) f ⟨_,Yx,(g.merge YN.nil).up (SA f) ⟨[p],rfl⟩⟩;exact h _ _ _ j s (⟨p,rfl,by rw[<- b.len,qA2 (qA6 _)];simp⟩)
    .cases e
   .cases e
  .cases e
 .cases e
def N3(n:Nat)(i v:D)(S:ZU):Option ZU:=match S[n]?,i with
 |some (.dt a),.tup ks=>match ks.mapM WY with
  |some k=>if a.length<lim then Z9 (S.set n (.dt (Zo a k v)))else Z8
  |none=>Z8
 |some (.dk []),.tup ks=>match ks.mapM WY with
  |some k=>Z9 (S.set n (.dt [(k,v)]))
  |none=>Z8
 |_,_=>Z8
theorem Eu(n:X.A.units+1<vE):VS X (λo i v H Q=>∃a b k,o=.ref a/\i=.ref b/\H b=Z9 (.tup (k.map kV))/\((∃c,H a=Z9 (.dT c)/\c.length<yV/\Q (ZF H a (.dT (YP c k v))))∨(H a=Z9 (.dK [])/\Q (ZF H a (.dT [(k,v)]))))):=by
 intro l s Z H o i v w A u Q I t r p h;obtain⟨a,b,k,rfl,rfl,d,⟨c,f,y,q⟩| ⟨f,q⟩⟩:=h
 .obtain rfl:w=Value.ref a:=t;exact LA n I (W1.t f d y) r p λx j=>⟨_,j,q⟩
 .obtain rfl:w=Value.ref a:=t;have g:ZF H a (.dT []) b=Z9 (.tup (k.map kV)):=by rw[Y2 (λz=>by rw[z,f]at d;cases d)];exact d
  refine LA n (I.dTnil f) (W1.t Yx g (by decide)) r p λx j=>⟨_,j,?_⟩
  rw[Ml];exact q
def Ya:D->D->D->ZU->Option ZU:=λx i v S=>match x with
 |.lst n=>match S[n]?,i with
  |some (.lst b),.int k=>match VQ b.length k with
   |some j=>Z9 (S.set n (.lst (b.set j v)))
   |none=>Z8
  |_,_=>Z8
 |.dct n=>match S[n]?,WY i with
  |some (.dk a),Z9 k=>if a.length<lim then Z9 (S.set n (.dk (Zo a k v)))else Z8
  |_,_=>N3 n i v S
 |_=>Z8
theorem pF(d:X.A.units+1<vE):VS X (λo i v H Q=>∃a b,o=.ref a/\W1 H a i v b/\Q b):=by intro c s Z H o i v l r u Q I k j f h;obtain⟨a,b,rfl,g,q⟩:=h;obtain rfl:l=Value.ref a:=k;exact LA d I g j f λp n=>⟨b,n,q⟩
theorem pD(E:X.A.units+1<vE){O N l:V}(e:Ya x i v S=Z9 L)(f:SR X.K J S H)(u:RV X.K H J x O)(s:RV X.K H J i N)(w:RV X.K H J v l)(y:∀A ,SR X.K J L A->ZC X.K J J H A->Q A):EX X O N l H Q:=by
 unfold Ya at e;split at e
 .split at e
  .rename_i U k r;split at e
   .rename_i j P;cases e;obtain⟨p,rfl,c⟩:=u;subst s;obtain⟨R,a,d⟩:=f.lst c r;obtain⟨g,n⟩:=f.putL c a (d.set w j);exact⟨_,xl,p,R,k,j,rfl,rfl,a,by rw[<- d.len];exact P,y _ g n⟩
   .cases e
  .cases e
 .split at e
  .rename_i h k r hk;split at e
   .rename_i B;cases e;obtain⟨p,rfl,c⟩:=u;obtain⟨q,a,d⟩:=f.get c r;have z:=Ru hk s;subst z;have t:TF X.K H (ZF H p (.dK (YP q k l))):=Ts a (λ_ z=>by cases z) (λ_ _ z=>by cases z);obtain⟨g,n⟩:=f.put (o':=.dk (Zo h k v)) c a (λ_ z=>by cases z) (λ_ _ z=>by cases z) ⟨_,Yx,(d.put w).up t ⟨[],by simp⟩⟩;exact⟨_,pF E,p,_,rfl,W1.k a (by rw[<- d.len];exact N7 B),y _ g n⟩
   .cases e
  .rename_i G;clear G;unfold N3 at e;unfold RV at u;obtain⟨p,rfl,c⟩:=u;split at e
   .rename_i h ks r;unfold RV at s;obtain⟨b,bs,rfl,I,K⟩:=s;split at e
    .rename_i k hk;have:=N4 hk K;subst this;split at e
     .rename_i B;cases e;obtain⟨q,a,d⟩:=f.get c r;have t:TF X.K H (ZF H p (.dT (YP q k l))):=Ts a (λ_ z=>by cases z) (λ_ _ z=>by cases z);obtain⟨g,n⟩:=f.put (o:=.dT (YP q k l)) (o':=.dt (Zo h k v)) c a (λ_ z=>by cases z) (λ_ _ z=>by cases z) ⟨_,Yx,(d.put w).up t ⟨[],by simp⟩⟩;exact⟨_,Eu E,p,b,k,rfl,rfl,I,.inl ⟨q,a,by rw[<- d.len];exact N7 B,y _ g n⟩⟩
     .cases e
    .cases e
   .rename_i ks r;unfold RV at s;obtain⟨b,bs,rfl,I,K⟩:=s;split at e
    .rename_i k hk;cases e;have:=N4 hk K;subst this;obtain⟨q,F,d⟩:=f.get c r;have w0:q=[]:=qF3.mp d.len.symm;subst w0;have t:TF X.K H (ZF H p (.dT [(k,l)])):=Ts F (λ_ z=>by cases z) (λ_ _ z=>by cases z);obtain⟨g,n⟩:=f.put (o:=.dT [(k,l)]) (o':=.dt [(k,v)]) c F (λ_ z=>by cases z) (λ_ _ z=>by cases z) ⟨_,Yx,YN.cons (RV.up t ⟨[],by simp⟩ _ _ w) .nil⟩;exact⟨_,Eu E,p,b,k,rfl,rfl,I,.inr ⟨F,y _ g n⟩⟩
    .cases e
   .cases e
 .cases e
end
inductive RS where
 |bad|nx (B:ZR) (S:ZU)| rt (d:D) (S:ZU)| bk (B:ZR) (S:ZU)| ct (B:ZR) (S:ZU)| er (c:Str) (S:ZU)
abbrev CS:=ZR->ZU->RS
def T8(X:Cx)(J:yC)(H:Hp)(E:W2):RS->Prop
 |.bad=>False
 |.er _ _=>False
 |.nx f e=>∀c a b,SR X.K b e a->ZC X.K J b H a->RE X.K a b f c->E.nx c a
 |.bk f e=>∀c a b,SR X.K b e a->ZC X.K J b H a->RE X.K a b f c->E.bk c a
 |.ct f e=>∀c a b,SR X.K b e a->ZC X.K J b H a->RE X.K a b f c->E.ct c a
 |.rt d e=>Xt X.K J H d e E.rt
inductive YU(X:Cx)(c:CS)(E:W2)(Z:St)(H:Hp):Prop
 |mk (J:yC) (B:ZR) (S:ZU) (sr:SR X.K J S H) (re:RE X.K H J B Z) (y:T8 X J H E (c B S))
theorem T8.shift(h:T8 X J H E r)(st:ZC X.K J i H j):T8 X i j E r:=by
 cases r with
 |bad=>exact h
 |er _ _=>exact h
 |nx B S=>exact fun c g e a b f=>h c g e a (st.trans b a.nd) f
 |bk B S=>exact fun c g e a b f=>h c g e a (st.trans b a.nd) f
 |ct B S=>exact fun c g e a b f=>h c g e a (st.trans b a.nd) f
 |rt d S=>exact Xt.shift h st
def ZL:CS:=fun B S=>.nx B S
def Sl:CS:=fun B S=>.bk B S
def Sk:CS:=fun B S=>.ct B S
def YF:CS:=λ_ _=>.bad
def Ku:CS:=λ_ S=>.rt .non S
def ZM(c:C):CS:=fun B S=>match c B S with
 |.ok d a=>.rt d a
 |.bad=>.bad
 |.er _ _=>.bad
def Wv(c:C):CS:=fun B S=>match c B S with
 |.ok _ a=>.nx B a
 |.bad=>.bad
 |.er _ _=>.bad
def ZV(a b:CS):CS:=fun B S=>match a B S with
 |.nx d c=>b d c
 |r=>r
def Zg(t:CT)(a b:CS):CS:=fun B S=>match t B S with
 |.ok k c=>if k then a B c else b B c
 |.bad=>.bad
 |.er _ _=>.bad
abbrev G:=D->ZR->M ZR
def ZE(c:C)(g:G):CS:=fun B S=>match c B S with
 |.ok d a=>match g d B a with
  |.ok b e=>.nx b e
  |.bad=>.bad
  |.er _ _=>.bad
 |.bad=>.bad
 |.er _ _=>.bad
section
variable {X:Cx}{e a b tg:yY}{ce ca cb:C}{pos:Pos}
theorem pC:PS X (.Pass pos) (YU X ZL):=Ac.weak λE Z H ⟨J,B,S,d,c,p⟩=>p Z H J d (ZC.refl _ _ _) c
theorem pB:PS X (.Break pos) (YU X Sl):=Ab.weak λE Z H ⟨J,B,S,d,c,p⟩=>p Z H J d (ZC.refl _ _ _) c
theorem pA:PS X (.Continue pos) (YU X Sk):=Aa.weak λE Z H ⟨J,B,S,d,c,p⟩=>p Z H J d (ZC.refl _ _ _) c
theorem Et{st:vO}:PS X st (YU X YF):=zS.weak λE Z H ⟨J,B,S,d,c,p⟩=>p
theorem pz:PS X (.Return Z8 pos) (YU X Ku):=zV.weak λE Z H ⟨J,B,S,c,d,p⟩=>p _ H J c (ZC.refl _ _ _) Ua
theorem pv(he:PE X e (Zy X.K ce)):PS X (.Return (Z9 e) pos) (YU X (ZM ce)):=(zX he).weak (by
 rintro E Z H ⟨J,B,S,g,f,p⟩;unfold ZM at p;split at p
 .rename_i d c h;exact⟨J,B,S,d,c,g,f,h,p⟩
 .exact False.elim p
 .exact False.elim p)
theorem pq(he:PE X e (Zy X.K ce))(j:wW e Z8 pos.line X.env=pure Z5):PS X (.Expr e pos) (YU X (Wv ce)):=(zY he j).weak (by
 rintro E Z H ⟨J,B,S,m,g,p⟩;unfold Wv at p;split at p
 .rename_i d k h;exact⟨J,B,S,d,k,m,g,h,λv l i f c n=>p Z l i f c (g.up c)⟩
 .exact False.elim p
 .exact False.elim p)
theorem pk:Xw X [] (YU X ZL):=Ah.weak λE Z H ⟨J,B,S,d,c,p⟩=>p Z H J d (ZC.refl _ _ _) c
theorem Es{st:vO}{Zm:List vO}(n:PS X st (YU X f))(o:Xw X Zm (YU X h)):Xw X (st::Zm) (YU X (ZV f h)):=(Ag n o).weak (by
 rintro E Z H ⟨J,B,S,l,k,p⟩;refine⟨J,B,S,l,k,?_⟩;unfold ZV at p;revert p;cases f B S with
 |nx j i=>exact λp q r m c d g=>⟨m,j,i,c,g,p.shift d⟩
 |bad=>exact λp=>p
 |er _ _=>exact λp=>p
 |rt _ _=>exact λp=>p
 |bk _ _=>exact λp=>p
 | ct _ _=>exact λp=>p)
theorem pj(o:PT X t (YJ X.K m))(r:Xw X j (YU X l))(s:Xw X bs (YU X n)):PS X (.If t j bs pos) (YU X (Zg m l n)):=(zU o r s).weak (by
 rintro E Z H ⟨J,B,S,q,g,p⟩;unfold Zg at p;split at p
 .rename_i k f h;refine⟨J,B,S,k,f,q,g,h,λu i d c=>?_⟩;cases k with
  |true=>rw[if_pos rfl]at p ⊢;exact⟨i,B,f,d,g.up c,p.shift c⟩
  |false=>rw[if_neg qB0]at p ⊢;exact⟨i,B,f,d,g.up c,p.shift c⟩
 .exact False.elim p
 .exact False.elim p)
inductive Wu(K:yQ)(g:G)(v:V)(Z:St)(H:Hp)(Q:St->Hp->Prop):Prop
 |mk (J:yC) (B:ZR) (S:ZU) (d:D) (B':ZR) (S':ZU) (sr:SR K J S H) (re:RE K H J B Z) (rv:RV K H J d v) (e:g d B S=.ok B' S') (y:∀Z' H' J',SR K J' S' H'->ZC K J J' H H'->RE K H' J' B' Z'->Q Z' H')
theorem PG.weak(h:PG X tg t)(w:∀v Z H Q,t' v Z H Q->t v Z H Q):PG X tg t':=λc s Z H v u Q I r q=>h c s Z H v u Q I r (w v Z H Q q)
def gN(i:Nat):G:=λd B S=>.ok (B.set i (Z9 d)) S
theorem ph(h:PG X (.Name x pos) (SY i)):PG X (.Name x pos) (Wu X.K (gN i)):=h.weak (by
 rintro v Z H Q ⟨J,B,S,d,k,j,f,c,g,e,y⟩;cases e;exact y _ H J f (ZC.refl _ _ _) (c.set g i))
def gS(f g:C):G:=λd B=>Zc (f B) λo=>Zc (g B) λi S=>match Ya o i d S with
 |some c=>.ok B c
 |none=>.bad
theorem pe(s:X.A.units+1<vE)(K:PE X a (Zy X.K ca))(hi:PE X b (Zy X.K cb))(F:∀v,gJ (.Subscript a b pos) X.env v=(do
   let k <- wJ [v] (jW a X.env)
   let l <- wJ [v,k] (jW b X.env)
   gU pos
   wJ [v,k,l] (uR k l v)
   release [v,k,l] [])):PG X (.Subscript a b pos) (Wu X.K (gS ca cb)):=(zR K hi qU F).weak (by
 rintro v Z H Q ⟨J,B,S,d,N,M,D,m,t,e,y⟩;obtain⟨x,o,I,e⟩:=Zd e;obtain⟨z,G,q,e⟩:=Zd e;split at e
 .rename_i P r;cases e;refine⟨J,B,S,x,o,D,m,I,λk O p n i A=>⟨p,B,o,z,G,n,m.up i,q,λl L u j g w=>?_⟩⟩;have c:=i.trans g j.nd;refine pD s r j (RV.up g.tk g.ext _ _ A) w (RV.up c.tk c.ext _ _ t) λE f h=>?_;exact y Z E u f (c.trans h f.nd) (m.up (c.trans h f.nd))
 .cases e)
def U1:List G->yM->ZR->M ZR
 |[],[]=>fun B=>ret B
 |g::c,d::f=>fun B=>Zc (g d B) fun h=>U1 c f h
 |_,_=>λ_=>bad
def gT(f:List G):G:=λd B=>match d with
 |.tup c=>U1 f c B
 |.lst n=>λS=>match ZA S n with
  |some c=>U1 f c B S
  |none=>.bad
 |_=>bad
inductive Qe(K:yQ)(gs:List G)(vs:List V)(Z:St)(H:Hp)(Q:St->Hp->Prop):Prop
 |mk (J:yC) (B:ZR) (S:ZU) (ds:yM) (B':ZR) (S':ZU) (sr:SR K J S H) (re:RE K H J B Z) (rv:RVs K H J ds vs) (e:U1 gs ds B S=.ok B' S') (y:∀Z' H' J',SR K J' S' H'->ZC K J J' H H'->RE K H' J' B' Z'->Q Z' H')
theorem V4.weak(h:V4 X es t)(w:∀v Z H Q,t' v Z H Q->t v Z H Q):V4 X es t':=λc s Z H v u Q I r q=>h c s Z H v u Q I r (w v Z H Q q)
theorem pd:V4 X [] (Qe X.K []):=GE.weak (by
 rintro v Z H Q ⟨J,B,S,c,j,i,g,f,h,e,y⟩;cases c with
 |nil =>
  obtain⟨rfl,rfl⟩:=Yl e;exact⟨h.nil_inv,y Z H J g (ZC.refl _ _ _) f⟩
 | cons d c=>cases e)
theorem pb(K:PG X e (Wu X.K g))(L:V4 X es (Qe X.K m))(s:(jI (e::es) X.env).map (·.2)=gJ e X.env::(jI es X.env).map (·.2)):V4 X (e::es) (Qe X.K (g::m)):=(GD K L s).weak (by
 rintro v Z H Q ⟨J,B,S,i,w,t,I,F,x,e,y⟩;cases i with
 |nil=>cases e
 |cons d i =>
  obtain⟨o,n,M,e⟩:=Zd e;obtain⟨u,D,rfl,E,A⟩:=x.cons_inv;refine⟨u,D,rfl,J,B,S,d,o,n,I,F,E,M,fun O N p l c h=>?_⟩;exact⟨p,o,n,i,w,t,l,h,RVs.up c.tk c.ext _ _ A,e,fun r q z f k j=>y r q z f (c.trans k f.nd) j⟩)
theorem Er:∀{c:yM}{B i:ZR}{S h:ZU},U1 f c B S=.ok i h->c.length=f.length:=by
 induction f with
 |nil=>intro c B i S h e;cases c with|nil=>rfl|cons _ _=>cases e
 |cons g f j =>
  intro c B i S h e;cases c with
  |nil=>cases e
  |cons d c =>
   obtain⟨l,k,m,e⟩:=Zd e;rw[qB8,qB8,j e]
theorem pa(x:X.calm=Z7)(h:V4 X es (Qe X.K g))(t:(jI es X.env).length=g.length)(l:(jI es X.env).findIdx? (·.1)=Z8):PG X (.Tuple es k pos) (Wu X.K (gT g)) :=
 (sV x h t l).weak (by
 rintro v Z H Q ⟨J,B,S,d,r,o,j,s,f,e,y⟩;unfold gT at e;split at e
 .rename_i m;unfold RV at f;obtain⟨p,i,rfl,q,c⟩:=f;exact⟨p,i,rfl,.inl (Zp.of q),by rw[<- c.len];exact Er e,J,B,S,m,r,o,j,s,c,e,y⟩
 .rename_i n;split at e
  .rename_i m w;unfold RV at f;obtain⟨p,rfl,u⟩:=f;obtain⟨i,q,c⟩:=j.sq u w;exact⟨p,i,rfl,.inr q,by rw[<- c.len];exact Er e,J,B,S,m,r,o,j,s,c,e,y⟩
  .cases e
 .cases e)
theorem Ep(he:PE X e (Zy X.K ce))(z:PG X tg (Wu X.K g))(r:m5 [tg] e pos.line X.env=pure Z5)(t:jX [tg] e X.env=pure Z8)(y:(jI [tg] X.env).map (·.2)=[gJ tg X.env]):PS X (.Assign [tg] e pos) (YU X (ZE ce g)):=(zQ he z r t y).weak (by
 rintro E Z H ⟨J,B,S,x,m,p⟩;unfold ZE at p;split at p
 .rename_i d l h;split at p
  .rename_i s D A;refine⟨J,B,S,d,l,x,m,h,λv F n k c w=>⟨n,B,l,d,s,D,k,m.up c,w,A,fun q o u f j i=>?_⟩⟩;exact p q o u f (c.trans j f.nd) i
  .exact False.elim p
  .exact False.elim p
 .exact False.elim p
 .exact False.elim p)
theorem o9(h:PS X (.Assign [.Name x pos'] e pos) (U8 (Zy X.K ce) (SY i))):PS X (.Assign [.Name x pos'] e pos) (YU X (ZE ce (gN i))):=h.weak (by
 rintro E Z H ⟨J,B,S,n,g,p⟩;unfold ZE at p;split at p
 .rename_i d k h;exact⟨J,B,S,d,k,n,g,h,λv m j f c l=>p _ m j f c ((g.up c).set l i)⟩
 .exact False.elim p
 .exact False.elim p)
def Xr(i j:Nat)(a b:C):CS:=fun B S=>match a B S with
 |.ok x c=>match b B c with
  |.ok y d=>.nx ((B.set i (Z9 x)).set j (Z9 y)) d
  |.bad=>.bad
  |.er _ _=>.bad
 |.bad=>.bad
 |.er _ _=>.bad
theorem o8{m k2 c}(W:X.calm=Z7)(w:X.N.Nodup)(hi:X.N[i]?=Z9 x)(F:X.N[j]?=Z9 y)(k:i≠j)
  (M:X.env.scope.names.lookup x=Z9 .local) (O:X.env.scope.names.lookup y=Z9 .local) (U:PE X a (Zy X.K ca)) (Q:PE X b (Zy X.K cb)) (A:y3 [a,b] X.env=(Z5,jW a X.env)::y3 [b] X.env) (sb:y3 [b] X.env=(Z5,jW b X.env)::y3 [] X.env)
  (E:X.env.scope.kind=.function->jX [.Tuple [.Name x n,.Name y q] m pt] (.Tuple [a,b] k2 c) X.env=pure (Z9 [x,y])) :
  PS X (.Assign [.Tuple [.Name x n,.Name y q] m pt] (.Tuple [a,b] k2 c) pos) (YU X (Xr i j ca cb)):=by
 intro f s Z H D I h;refine zP W w hi F k M O (Ub U (Ub Q Sx sb) A) (E I.ok.kind) rfl f s Z H D I ?_;obtain⟨J,B,S,N,o,p⟩:=h;unfold Xr at p;split at p
 .rename_i d G P;split at p
  .rename_i T V R;refine⟨J,B,S,[d,T],V,N,o,?_,λY L r l g K=>?_⟩
   .show Zc (ca B) _ S=_;unfold Zc;rw[P];show Zc (Zc (cb B) _) _ G=_;unfold Zc;rw[R];rfl
   .obtain⟨v,u,rfl,z,t⟩:=K.two;exact⟨v,u,rfl,p _ L r l g (((o.up g).set z i).set t j)⟩
  .exact False.elim p
  .exact False.elim p
 .exact False.elim p
 .exact False.elim p
def Vg:Nat->CT->CS->CS
 |0,_,_=>λ_ _=>.bad
 |k+1,t,b=>fun B S=>match t B S with
  |.ok Z7 f=>match b B f with
   |.nx c d=>Vg k t b c d
   |.ct c d=>Vg k t b c d
   |.bk c d=>.nx c d
   |r=>r
  |.ok Z5 f=>.nx B f
  |.bad=>.bad
  |.er _ _=>.bad
theorem o7(k:Nat)(O:mX (yW X.prog X.w) X.A X.env X.xe)(N:PT X t (YJ X.K ct))(Q:Xw X body (YU X r)):PS X (.While t body [] pos) (YU X (Vg k ct r)):=(zN O N Q).weak (by
 rintro E T F ⟨A,P,R,z,D,L⟩;refine⟨λm Z H=>∃J B S,SR X.K J S H/\ZC X.K A J F H/\RE X.K H J B Z/\T8 X J H E (Vg m ct r B S),⟨k,A,P,R,z,ZC.refl _ _ _,D,L⟩,?_⟩;rintro m Z H ⟨J,B,S,K,M,v,p⟩;cases m with
 |zero=>exact False.elim p
 |succ m =>
  unfold Vg at p;split at p
  .rename_i q h;refine⟨J,B,S,Z7,q,K,v,h,λI w j f=>?_⟩;refine⟨fun G n=>∃J B S,SR X.K J S n/\ZC X.K A J F n/\RE X.K n J B G/\T8 X J n E (Vg m ct r B S),fun G n h=>⟨m,qH6 m,h⟩,w,B,q,j,v.up f,?_⟩;have l:=M.trans f j.nd;revert p;cases r B q with
   |nx u s=>exact λp y x o c g i=>⟨o,u,s,c,l.trans g c.nd,i,p.shift (f.trans g c.nd)⟩
   |ct u s=>exact λp y x o c g i=>⟨o,u,s,c,l.trans g c.nd,i,p.shift (f.trans g c.nd)⟩
   |bk u s=>exact λp y x o c g i=>p y x o c (f.trans g c.nd) i
   |rt d s=>exact λp=>Xt.shift p f
   |bad=>exact λp=>p
   |er _ _=>exact λp=>p
  .rename_i q h;refine⟨J,B,S,Z5,q,K,v,h,λI w j f=>?_⟩;exact p Z I w j f (v.up f)
  .exact False.elim p
  .exact False.elim p)
abbrev WV:=List (Nat×yM)
def XJ(w:WV)(S:ZU):Prop:=∀p∈w,ZA S p.1=Z9 p.2
abbrev CI:=ZR->M (yM×WV)
structure Xq(K:yQ)(JJ:It)(items:yM)(w:WV)(J0:yC)(H0:Hp):Prop where
 go:∀(i:Nat) H J S,SR K J S H->ZC K J0 J H0 H->XJ w S->i<items.length->JJ.go i H
 yld:∀(i:Nat) H J S x H',SR K J S H->ZC K J0 J H0 H->XJ w S->i<items.length->JJ.yld i H x H'->∃d,items[i]?=Z9 d/\SR K J S H'/\ZC K J J H H'/\RV K H' J d x
 stop:∀H J S,SR K J S H->ZC K J0 J H0 H->XJ w S->JJ.stop items.length H
inductive Yj(K:yQ)(it:CI)(Z:St)(H:Hp)(R:It->Hp->Prop):Prop
 |mk (J:yC) (B:ZR) (S:ZU) (items:yM) (w:WV) (S':ZU) (sr:SR K J S H) (re:RE K H J B Z) (e:it B S=.ok (items,w) S') (y:∀JJ H' J',SR K J' S' H'->ZC K J J' H H'->Xq K JJ items w J' H'->R JJ H')
theorem PI.weak(h:PI X tg iter t)(w:∀Z H R,t' Z H R->t Z H R):PI X tg iter t':=λc s Z H R I q=>h c s Z H R I (w Z H R q)
theorem ZC.at{K:yQ}(st:ZC K J c H d){n:Nat}{a:yR}(h:J[n]?=Z9 a):c[n]?=Z9 a:=by obtain⟨f,rfl⟩:=st.ext;rw[qA8 (qA5.mp h).1];exact h
open Classical in
def XQ(w:WV)(g:G)(b:CS):yM->CS
 |[]=>fun B S=>if XJ w S then .nx B S else .bad
 | d::h=>fun B S=>if XJ w S then(match g d B S with
  |.ok j i=>match b j i with
   |.nx c f=>XQ w g b h c f
   |.ct c f=>XQ w g b h c f
   |.bk c f=>.nx c f
   |r=>r
  |.bad=>.bad
  | .er _ _=>.bad)else .bad
def YE(f:CI)(g:G)(b:CS):CS:=fun B S=>match f B S with
 |.ok (c,w) d=>XQ w g b c B d
 |.bad=>.bad
 |.er _ _=>.bad
theorem o6(U:SR X.K t S0 r)(re0:RE X.K r t B Z)(io:Xq X.K Q items w t r)(p:T8 X t r E (XQ w g A items B S0)):
  ∃W:Nat->Nat->St->Hp->Prop,(∃m,W 0 m Z r)/\∀i m Z H,W i m Z H->(Q.stop i H/\E.nx Z H)∨(Q.go i H/\∃N:St->Hp->Prop,(∀v k,N v k->∃m',m'<m/\W (i+1) m' v k)/\∀x k,Q.yld i H x k->Wu X.K g x Z k fun Z2 R=>YU X A { E with nx:=N,ct:=N,bk:=E.nx } Z2 R):=by
 refine⟨λi m Z H=>i+m=items.length/\∃J B S,SR X.K J S H/\ZC X.K t J r H/\RE X.K H J B Z/\T8 X J H E (XQ w g A (items.drop i) B S),⟨items.length,by simp,t,B,S0,U,ZC.refl _ _ _,re0,p⟩,?_⟩;rintro i m Z1 M ⟨him,u,B1,L,o,n,y,j⟩;by_cases P:i<items.length
 .rw[qG2 P]at j;unfold XQ at j;split at j
  .rename_i K;refine .inr ⟨io.go i M u L o n K P,fun v k=>i+1+(m - 1)=items.length/\∃J B S,SR X.K J S k/\ZC X.K t J r k/\RE X.K k J B v/\T8 X J k E (XQ w g A (items.drop (i+1)) B S),fun v k z=>⟨m - 1,by lia,z⟩,λx R hy=>?_⟩;obtain⟨d,hd,sr2,D,rv⟩:=io.yld i M u L x R o n K P hy;have ed:=by rw[qA9 P]at hd;exact Option.some.inj hd
   rw[ed]at j;split at j
   .rename_i B3 S3 h3;refine⟨u,B1,L,d,B3,S3,sr2,y.up D,rv,h3,fun Z3 H3 J3 s V T=>⟨J3,B3,S3,s,T,?_⟩⟩;have f:=D.trans V s.nd;have q:=n.trans f s.nd;revert j;cases A B3 S3 with
    |nx O F=>exact λp Y H4 I c h l=>⟨by lia,I,O,F,c,q.trans h c.nd,l,p.shift (f.trans h c.nd)⟩
    |ct O F=>exact λp Y H4 I c h l=>⟨by lia,I,O,F,c,q.trans h c.nd,l,p.shift (f.trans h c.nd)⟩
    |bk O F=>exact λp Y H4 I c h l=>p Y H4 I c (f.trans h c.nd) l
    |rt d F=>exact λp=>Xt.shift p f
    |bad=>exact λp=>p
    |er _ _=>exact λp=>p
   .exact False.elim j
   .exact False.elim j
  .exact False.elim j
 .have e:i=items.length:=by lia
  subst e;rw[qR0]at j;unfold XQ at j;split at j
  .rename_i K;exact .inl ⟨io.stop M u L o n K,j Z1 M u o (ZC.refl _ _ _) y⟩
  .exact False.elim j
theorem o5(m:mX (yW X.prog X.w) X.A X.env X.xe)(t:X.calm=Z7)(hi:PI X tg iter (Yj X.K h))(s:PG X tg (Wu X.K g))(q:Xw X body (YU X i))
  (l:∀x,wE iter X.env x=pure x):PS X (.For tg iter body [] pos) (YU X (YE h g i)):=(zG m t hi s q l).weak (by
 rintro E Z H ⟨J,B,S,o,j,p⟩;unfold YE at p;split at p
 .rename_i c w r k;exact⟨J,B,S,c,w,r,o,j,k,λy u v f d n=>o6 f (j.up d) n (p.shift d)⟩
 .exact False.elim p
 .exact False.elim p)
end
section
variable {X:Cx}{tg e:yY}{ce:C}{pos:Pos}
def kD:Zz->D
 |.inl i=>.int i
 |.inr x=>.str x
def Za(c:C):CI:=fun B=>Zc (c B) λx S=>match x with
 |.tup b=>.ok (b,[]) S
 |.lst n=>match ZA S n with
  |some b=>.ok (b,[(n,b)]) S
  |none=>.bad
 |.dct n=>match S[n]? with
  |some (.dk a)=>.ok (a.map λp=>kD p.1,[]) (S.set n (.fk a))
  |some (.fk a)=>.ok (a.map λp=>kD p.1,[]) S
  |_=>.bad
 |_=>.bad
theorem o4{K:yQ}{d:Hp}{g:yC}{a:yR}{xs:yM}{vs:List V}(q:Zp K d a vs)(r:RVs K d g xs vs):Xq K (L4 K a) xs [] g d where
 go:=λi H J S f b _ c=>by obtain⟨v,e,_⟩:=r.get (qA9 c);exact⟨vs,v,b.tk.t _ _ q,e⟩
 yld:=λi H J S x j f b _ c y=>by obtain⟨rfl,y⟩:=y;obtain⟨v,e,h⟩:=r.get (qA9 c);have:=y vs (b.tk.t _ _ q);rw[e]at this;cases this;exact⟨xs[i],qA9 c,f,ZC.refl _ _ _,RV.up b.tk b.ext _ _ h⟩
 stop:=λH J S f b _=>⟨vs,b.tk.t _ _ q,by rw[r.len];exact qA6 _⟩
theorem o3{K:yQ}{j:Hp}{h:yC}{a:yR}{n:Nat}{xs:yM}(g:h[n]?=Z9 a):Xq K (L6 K a) xs [(n,xs)] h j where
 go:=λi H J S b c w f=>by obtain⟨d,q,r⟩:=b.sq (c.at g) (w (n,xs) (by simp));obtain⟨v,e,_⟩:=r.get (qA9 f);exact⟨d,v,q,e⟩
 yld:=λi H J S x l b c w f y=>by obtain⟨rfl,y⟩:=y;obtain⟨d,q,r⟩:=b.sq (c.at g) (w (n,xs) (by simp));obtain⟨v,e,k⟩:=r.get (qA9 f);have:=y d q;rw[e]at this;cases this;exact⟨xs[i],qA9 f,b,ZC.refl _ _ _,k⟩
 stop:=λH J S b c w=>by obtain⟨d,q,r⟩:=b.sq (c.at g) (w (n,xs) (by simp));exact⟨d,q,by rw[r.len];exact qA6 _⟩
theorem Eo{K:yQ}{f:Hp}{j:yC}{a:yR}{o:Obj}{ws:List (Zz×V)}{b:List (Zz×D)}(q:f a=Z9 (.frz o (.dK ws)))(e:b.map (·.1)=ws.map (·.1)):Xq K (Ui a o) (b.map λp=>kD p.1) [] j f where
 go:=λi H J S d c _ g=>⟨ws,c.tk.z _ _ _ q,by
  have:=congrArg qG1 e;simp at this g;lia⟩
 yld:=λi H J S x m d c _ g y=>by
  obtain⟨rfl,y⟩:=y;obtain⟨p,h,rfl⟩:=y ws (c.tk.z _ _ _ q);have k:(b.map (·.1))[i]?=Z9 p.1:=by rw[e,qB6,h];rfl
  have l:(b.map λp=>kD p.1)[i]?=Z9 (kD p.1):=by
   have:(b.map λp=>kD p.1)=(b.map (·.1)).map kD:=by rw[qC6];rfl
   rw[this,qB6,k];rfl
  refine⟨kD p.1,l,d,ZC.refl _ _ _,?_⟩;cases p.1<;>(unfold kD RV;rfl)
 stop:=λH J S d c _=>⟨ws,c.tk.z _ _ _ q,by
  have:=congrArg qG1 e;simp at this;simp;lia⟩
theorem oZ(n:PE X e m):PI X tg e (fun Z H R=>m Z H λx c=>∃a,x=.ref a/\((∃xs,YK X.K c a xs)/\R (L6 X.K a) c∨(∃xs,Zp X.K c a xs)/\R (L4 X.K a) c
  ∨ (∃g,((c a=Z9 (.dK g)/\∀o,R (Ui a o) (ZF c a (.frz o (.dK g))))∨∃o,c a=Z9 (.frz o (.dK g))/\R (Ui a o) c))
  ∨ False)):=by
 intro i s Z H R I h;refine Zt (n i s Z H _ I h) λv d ⟨x,c,f,u,t⟩=>?_;obtain⟨a,e,q⟩:=t;subst e;cases u;rcases q with⟨⟨xs,k⟩,q⟩| ⟨⟨xs,k⟩,q⟩| q
 .obtain⟨j,r,p,w⟩:=f.list k;refine jQ p.isList ?_;refine⟨d.heap.objs.size,[d.heap.objs.size],_,_,c,rfl,f.kept (t':=d.toks) λb o e=>qA0 _ e,zM a _,⟨_,qA7 _ rfl,rfl,rfl⟩,λb l=>?_,q⟩;have e:b=d.heap.objs.size:=by simpa using l
  subst e;exact f.fpOk (qA6 _) (f.hok.fresh (qA6 _))
 .obtain⟨j,r,p,w⟩:=f.tuple k;refine jK (show d.heap.IsTuple a j.toArray from p) ?_;refine⟨d.heap.objs.size,[d.heap.objs.size],_,_,c,rfl,f.kept (t':=d.toks) λb o e=>qA0 _ e,zL a _,⟨_,qA7 _ rfl,rfl,rfl⟩,λb l=>?_,q⟩;have e:b=d.heap.objs.size:=by simpa using l
  subst e;exact f.fpOk (qA6 _) (f.hok.fresh (qA6 _))
 .skip
  rcases q with q|q
  .exact rS f q
  exact q.elim
theorem oY(he:PE X e (Zy X.K ce)):PI X tg e (Yj X.K (Za ce)):=(oZ he).weak (by
 rintro Z H R ⟨J,B,S,s,w,M,G,F,e,y⟩;obtain⟨x,D,L,e⟩:=Zd e;refine⟨J,B,S,x,D,G,F,L,λv d l b f m=>?_⟩;split at e
 .rename_i K;cases e;have r:=m;obtain⟨a,p,rfl,q,g⟩:=r;exact⟨a,rfl,.inr (.inl ⟨⟨p,Zp.of q⟩,y _ d l b f (o4 (Zp.of q) g)⟩)⟩
 .rename_i n;split at e
  .rename_i K E;cases e;obtain⟨a,rfl,i⟩:=m;obtain⟨p,q,g⟩:=b.sq i E;exact⟨a,rfl,.inl ⟨⟨p,q⟩,y _ d l b f (o3 i)⟩⟩
  .cases e
 .rename_i n;unfold RV at m;obtain⟨a,rfl,i⟩:=m;have k:(∃c,((d a=Z9 (.dK c)/\∀o,R (Ui a o) (ZF d a (.frz o (.dK c))))∨∃o,d a=Z9 (.frz o (.dK c))/\R (Ui a o) d)):=by
   split at e
   .rename_i c t;cases e;obtain⟨j,h,g⟩:=b.get i t;refine⟨j,.inl ⟨h,λo=>?_⟩⟩;have I:TF X.K d (ZF d a (.frz o (.dK j))):=Ts h (λ_ z=>by cases z) (λ_ _ z=>by cases z);obtain⟨u,A⟩:=b.put (o:=.frz o (.dK j)) (o':=.fk c) i h (λ_ z=>by cases z) (λ_ _ z=>by cases z) ⟨_,_,Yx,g.up I ⟨[],by simp⟩⟩;exact y _ _ l u (f.trans A u.nd) (Eo Yx g.1)
   .rename_i c t;cases e;obtain⟨o,j,h,g⟩:=b.get i t;exact⟨j,.inr ⟨o,h,y _ d l b f (Eo h g.1)⟩⟩
   .cases e
  first
  |exact⟨a,rfl,.inr (.inr (.inr (.inl k)))⟩
  |exact⟨a,rfl,.inr (.inr (.inl k))⟩
 .cases e)
def YT(lo:Int)(n:Nat):yM:=(List.range n).map λk=>D.int (lo+(k:Nat))
theorem En{K:yQ}{f:Hp}{g:yC}{lo:Int}{n:Nat}:Xq K (QN lo n) (YT lo n) [] g f where
 go:=λi H J S c d _ a=>by unfold YT at a;simp at a;exact a
 yld:=λi H J S x h c d _ a y=>by
  obtain⟨rfl,rfl⟩:=y;have b:=by unfold YT at a;simp at a;exact a
  exact⟨.int (lo+i),by unfold YT;rw[qB6,qH5 b];rfl,c,ZC.refl _ _ _,XT⟩
 stop:=λH J S c d _=>by show n<=(YT lo n).length;unfold YT;simp
def T7(a:CA):CI:=fun B=>Zc (a B) λb S=>match b with
 |[.int j]=>if -4611686018427387904<=j/\j<4611686018427387904 then .ok (YT 0 j.toNat,[]) S else .bad
 |_=>.bad
def N2(a:CA):CI:=fun B=>Zc (a B) λb S=>match b with
 |[.int i,.int j]=>if -4611686018427387904<=i/\i<4611686018427387904/\-4611686018427387904<=j/\j<4611686018427387904 then .ok (YT i (j - i).toNat,[]) S else .bad
 |_=>.bad
variable {a b:yY}{ca:CA}
theorem oX(h:PI X tg (.Call (.Name "range" p) [a] [] pos) (GA (Yv X.K ca))):PI X tg (.Call (.Name "range" p) [a] [] pos) (Yj X.K (T7 ca)):=h.weak (by
 rintro Z H R ⟨J,B,S,c,w,t,q,o,e,y⟩;obtain⟨r,l,s,e⟩:=Zd e;refine⟨J,B,S,r,l,q,o,s,λu n i f d m=>?_⟩;split at e
 .rename_i j;split at e
  .rename_i g;cases e;obtain⟨v,rfl,k⟩:=m.one;subst k;exact⟨j,rfl,g.1,g.2,y _ n i f d En⟩
  .cases e
 .cases e)
theorem oW(h:PI X tg (.Call (.Name "range" p) [a,b] [] pos) (Gz (Yv X.K ca))):PI X tg (.Call (.Name "range" p) [a,b] [] pos) (Yj X.K (N2 ca)):=h.weak (by
 rintro Z H R ⟨J,B,S,c,w,z,r,q,e,y⟩;obtain⟨t,m,x,e⟩:=Zd e;refine⟨J,B,S,t,m,r,q,x,λA o g f d n=>?_⟩;split at e
 .rename_i i j;split at e
  .rename_i k;cases e;obtain⟨v,u,rfl,l,s⟩:=n.two;subst l s;exact⟨i,j,rfl,k,y _ o g f d En⟩
  .cases e
 .cases e)
theorem N1{d c:Type}{xs:List d}{ys:List c}(h:i<(xs.zip ys).length):∃x y,xs[i]?=Z9 x/\ys[i]?=Z9 y/\(xs.zip ys)[i]?=Z9 (x,y):=by simp_all
def zipD(xs ys:yM):yM:=(xs.zip ys).map λp=>.tup [p.1,p.2]
theorem Em{K:yQ}:∀ss:yH,RVs K H J (ss.map D.str) (ss.map V.str)
 |[]=>RVs.nil
 |z::ss=>.cons VL (Em ss)
def WU(S:ZU):D->Option (yM)
 |.tup c=>Z9 c
 |.lst n=>ZA S n
 |.ktp c=>Z9 (c.map D.str)
 |_=>Z8
def T6(x:D)(xs:yM):WV:=match x with
 |.lst n=>[(n,xs)]
 |_=>[]
theorem El{K:yQ}(l:SR K J S H)(r:RV K H J x v)(h:WU S x=Z9 xs):∃a b,v=.ref a/\(∃vs,XM b K H a vs) /\
  ∀d g i,SR K g i d->ZC K J g H d->XJ (T6 x xs) i->∃vs,XM b K d a vs/\RVs K d g xs vs:=by
 unfold WU at h;split at h
 .rename_i m;cases h;obtain⟨a,vs,rfl,q,k⟩:=r;exact⟨a,Z7,rfl,⟨vs,Zp.of q⟩,λd g i f c _=>⟨vs,c.tk.t _ _ (Zp.of q),RVs.up c.tk c.ext _ _ k⟩⟩
 .rename_i n;obtain⟨a,rfl,j⟩:=r;obtain⟨vs,q,k⟩:=l.sq j h;exact⟨a,Z5,rfl,⟨vs,q⟩,λd g i f c w=>f.sq (c.at j) (w (n,xs) (by simp[T6]))⟩
 .cases h;unfold RV at r;obtain⟨a,rfl,q⟩:=r;exact⟨a,Z7,rfl,⟨_,q⟩,λd g i f c _=>⟨_,c.tk.t _ _ q,Em _⟩⟩
 .cases h
theorem Ro:XJ (d++w2) S↔XJ d S/\XJ w2 S:=by unfold XJ;simp only[qC3];exact⟨λh=>⟨λp c=>h p (.inl c),λp c=>h p (.inr c)⟩,λh p c=>c.elim (h.1 p) (h.2 p)⟩
theorem oV{K:yQ}{p:Hp}{t:yC}{a b:yR}{b1 B:Bool}{A w2:WV}{xs ys:yM}
  (h:∀c g m,SR K g m c->ZC K t g p c->XJ A m->∃vs,XM b1 K c a vs/\RVs K c g xs vs) (j:∀c g m,SR K g m c->ZC K t g p c->XJ w2 m->∃vs,XM B K c b vs/\RVs K c g ys vs) :
  Xq K (SK b1 B K a b) (zipD xs ys) (A++w2) t p where
 go:=λi H J S d f w o=>by obtain⟨vs,q,r⟩:=h H J S d f (Ro.mp w).1;obtain⟨n,k,l⟩:=j H J S d f (Ro.mp w).2;obtain⟨x,y,z,s,_⟩:=N1 (by unfold zipD at o;simpa using o);obtain⟨v,h,_⟩:=r.get z;obtain⟨u,j,_⟩:=l.get s;exact⟨vs,n,v,u,q,k,h,j⟩
 yld:=λi H J S x O d f w o y=>by obtain⟨T,N,rfl,y⟩:=y;obtain⟨vs,q,r⟩:=h H J S d f (Ro.mp w).1;obtain⟨n,k,l⟩:=j H J S d f (Ro.mp w).2;obtain⟨x,M,z,s,F⟩:=N1 (by unfold zipD at o;simpa using o);obtain⟨v,h,G⟩:=r.get z;obtain⟨u,j,E⟩:=l.get s;have:=y vs n v u q k h j;subst this;obtain⟨D,I,L⟩:=Qg d N (.cons G (.cons E .nil));exact⟨.tup [x,M],by unfold zipD;rw[qB6,F];rfl,D,I,L⟩
 stop:=λH J S d f w=>by obtain⟨vs,q,r⟩:=h H J S d f (Ro.mp w).1;obtain⟨n,k,l⟩:=j H J S d f (Ro.mp w).2;exact⟨vs,n,q,k,by unfold zipD;rw[qA1,qL7,r.len,l.len]⟩
def Sj(a:CA):CI:=fun B=>Zc (a B) λf S=>match f with
 |[x,y]=>match WU S x,WU S y with
  |some c,Z9 d=>.ok (zipD c d,T6 x c++T6 y d) S
  |_,_=>.bad
 |_=>.bad
theorem oU{d:yE}(h:PI X (.Tuple d k c) (.Call (.Name "zip" p) [a,b] [] pos) (FD X.K (Yv X.K ca))):PI X (.Tuple d k c) (.Call (.Name "zip" p) [a,b] [] pos) (Yj X.K (Sj ca)):=h.weak (by
 rintro Z H R ⟨J,B,S,i,w,L,x,t,e,y⟩;obtain⟨G,o,I,e⟩:=Zd e;refine⟨J,B,S,G,o,x,t,I,λO s j f g r=>?_⟩;split at e
 .rename_i N P;split at e
  .rename_i M K D F;cases e;obtain⟨v,u,rfl,n,A⟩:=r.two;obtain⟨a,b1,rfl,q,m⟩:=El f n D;obtain⟨b,z,rfl,l,E⟩:=El f A F;exact⟨a,b,b1,z,rfl,q,l,y _ s j f g (oV m E)⟩
  .cases e
 .cases e)
def zipD3(xs ys us:yM):yM:=(xs.zip (ys.zip us)).map λp=>.tup [p.1,p.2.1,p.2.2]
theorem oT{K:yQ}{g:Hp}{k:yC}{a b c:yR}{n:Nat}{xs ys us:yM}{vs ws:List V}(D:k[n]?=Z9 a)(B:Zp K g b vs)(E:RVs K g k ys vs)(o:Zp K g c ws)(A:RVs K g k us ws):
  Xq K (SH K a b c) (zipD3 xs ys us) [(n,xs)] k g where
 go:=λi H J S f d w j=>by obtain⟨h,q,r⟩:=f.sq (d.at D) (w (n,xs) (by simp));obtain⟨x,p,L,l,_⟩:=N1 (ys:=ys.zip us) (by unfold zipD3 at j;simpa using j);obtain⟨F,I⟩:=qE7.mp l;obtain⟨v,z,_⟩:=r.get L;obtain⟨u,G,_⟩:=E.get F;obtain⟨t,m,_⟩:=A.get I;exact⟨h,vs,ws,v,u,t,q,d.tk.t _ _ B,d.tk.t _ _ o,z,G,m⟩
 yld:=λi H J S x W f d w j y=>by obtain⟨T,U,rfl,y⟩:=y;obtain⟨h,q,r⟩:=f.sq (d.at D) (w (n,xs) (by simp));obtain⟨x,p,L,l,O⟩:=N1 (ys:=ys.zip us) (by unfold zipD3 at j;simpa using j);obtain⟨F,I⟩:=qE7.mp l;obtain⟨v,z,P⟩:=r.get L;obtain⟨u,G,N⟩:=E.get F;obtain⟨t,m,s⟩:=A.get I;have:=y h vs ws v u t q (d.tk.t _ _ B) (d.tk.t _ _ o) z G m;subst this;obtain⟨M,Q,R⟩:=Qg f U (.cons P (.cons (RV.up d.tk d.ext _ _ N) (.cons (RV.up d.tk d.ext _ _ s) .nil)));exact⟨.tup [x,p.1,p.2],by unfold zipD3;rw[qB6,O];rfl,M,Q,R⟩
 stop:=λH J S f d w=>by obtain⟨h,q,r⟩:=f.sq (d.at D) (w (n,xs) (by simp));exact⟨h,vs,ws,q,d.tk.t _ _ B,d.tk.t _ _ o,by unfold zipD3;rw[qA1,qL7,qL7,r.len,E.len,A.len]⟩
def N0(a:CA):CI:=fun B=>Zc (a B) λc S=>match c with
 |[.lst n,.tup ys,.tup us]=>match ZA S n with
  |some c=>.ok (zipD3 c ys us,[(n,c)]) S
  |none=>.bad
 |_=>.bad
theorem oR{f:yE}(h:PI X (.Tuple f k d) (.Call (.Name "zip" p) [a,b,c] [] pos) (FB X.K (Yv X.K ca))):PI X (.Tuple f k d) (.Call (.Name "zip" p) [a,b,c] [] pos) (Yj X.K (N0 ca)):=h.weak (by
 rintro Z H R ⟨J,B,S,l,w,T,N,M,e,y⟩;obtain⟨t,I,Q,e⟩:=Zd e;refine⟨J,B,S,t,I,N,M,Q,λo L x g j K=>?_⟩;split at e
 .rename_i n V W;split at e
  .rename_i t O;cases e;obtain⟨v,Zm,rfl,E,F⟩:=K.cons_inv;obtain⟨u,U,rfl,A,i⟩:=F.two;obtain⟨a,rfl,r⟩:=E;obtain⟨b,o,rfl,s,z⟩:=A;obtain⟨c,P,rfl,m,G⟩:=i;obtain⟨D,q,_⟩:=g.sq r O;exact⟨a,b,c,rfl,⟨D,q⟩,⟨o,Zp.of s⟩,⟨P,Zp.of m⟩,y _ L x g j (oT r (Zp.of s) z (Zp.of m) G)⟩
  .cases e
 .cases e)
def WT(xs:yM):yM:=((List.range xs.length).zip xs).map λp=>.tup [.int (p.1:Nat),p.2]
theorem Ek(h:i<xs.length):(WT xs)[i]?=Z9 (.tup [.int (i:Nat),xs[i]]):=by
 unfold WT
 simp_all
theorem Rk(xs:yM):(WT xs).length=xs.length:=by unfold WT;simp
theorem oQ{K:yQ}{f:Hp}{h:yC}{a:yR}{xs:yM}{vs:List V}(q:Zp K f a vs)(r:RVs K f h xs vs):Xq K (U6 Z7 K a) (WT xs) [] h f where
 go:=λi H J S g c _ d=>by rw[Rk]at d;obtain⟨v,e,_⟩:=r.get (qA9 d);exact⟨vs,v,c.tk.t _ _ q,e⟩
 yld:=λi H J S x o g c _ d y=>by rw[Rk]at d;obtain⟨T,n,rfl,y⟩:=y;obtain⟨v,e,k⟩:=r.get (qA9 d);have:=y vs v (c.tk.t _ _ q) e;subst this;obtain⟨j,l,m⟩:=Qg g n (.cons XT (.cons (RV.up c.tk c.ext _ _ k) .nil));exact⟨_,Ek d,j,l,m⟩
 stop:=λH J S g c _=>⟨vs,c.tk.t _ _ q,by rw[Rk,r.len]⟩
theorem oP{K:yQ}{k:Hp}{j:yC}{a:yR}{n:Nat}{xs:yM}(h:j[n]?=Z9 a):Xq K (U6 Z5 K a) (WT xs) [(n,xs)] j k where
 go:=λi H J S c f w d=>by rw[Rk]at d;obtain⟨g,q,r⟩:=c.sq (f.at h) (w (n,xs) (by simp));obtain⟨v,e,_⟩:=r.get (qA9 d);exact⟨g,v,q,e⟩
 yld:=λi H J S x t c f w d y=>by rw[Rk]at d;obtain⟨T,s,rfl,y⟩:=y;obtain⟨g,q,r⟩:=c.sq (f.at h) (w (n,xs) (by simp));obtain⟨v,e,m⟩:=r.get (qA9 d);have:=y g v q e;subst this;obtain⟨l,o,p⟩:=Qg c s (.cons XT (.cons m .nil));exact⟨_,Ek d,l,o,p⟩
 stop:=λH J S c f w=>by obtain⟨g,q,r⟩:=c.sq (f.at h) (w (n,xs) (by simp));exact⟨g,q,by rw[Rk,r.len]⟩
def Rj(a:CA):CI:=fun B=>Zc (a B) λd S=>match d with
 |[.tup c]=>.ok (WT c,[]) S
 |[.lst n]=>match ZA S n with
  |some c=>.ok (WT c,[(n,c)]) S
  |none=>.bad
 |_=>.bad
theorem oO{d:yE}(h:PI X (.Tuple d k c) (.Call (.Name "enumerate" p) [a] [] pos) (FH X.K (Yv X.K ca))):PI X (.Tuple d k c) (.Call (.Name "enumerate" p) [a] [] pos) (Yj X.K (Rj ca)):=h.weak (by
 rintro Z H R ⟨J,B,S,l,w,G,z,x,e,y⟩;obtain⟨A,u,D,e⟩:=Zd e;refine⟨J,B,S,A,u,z,x,D,λi s m f g o=>?_⟩;split at e
 .rename_i t;cases e;obtain⟨v,rfl,j⟩:=o.one;obtain⟨a,i,rfl,q,F⟩:=j;exact⟨a,rfl,.inl ⟨⟨i,Zp.of q⟩,y _ s m f g (oQ (Zp.of q) F)⟩⟩
 .rename_i n;split at e
  .rename_i t E;cases e;obtain⟨v,rfl,j⟩:=o.one;obtain⟨a,rfl,r⟩:=j;obtain⟨i,q,_⟩:=f.sq r E;exact⟨a,rfl,.inr ⟨⟨i,q⟩,y _ s m f g (oP r)⟩⟩
  .cases e
 .cases e)
def WI(k:Nat)(c:List Nat)(B:ZR):ZR:=qI9 k Z8++c.map λj=>(B[j]?).getD Z8
theorem RE.comp{K:yQ}(l:RE K H J B Z)(k:Nat)(g:List Nat):RE K H J (WI k g B) (WA k g Z):=by
 refine⟨by unfold WI WA;simp,λi d e=>?_⟩;unfold WI at e;unfold WA;by_cases f:i<k
 .rw[qA8 (by simpa using f),qH7]at e;simp at e
 .rw[qA2 (by simpa using f),qH1,qB6]at e;rw[qA2 (by simpa using f),qH1,qB6];cases q:g[i - k]? with
  |none=>rw[q]at e;simp at e
  |some j =>
   rw[q]at e;simp only[qN9,Option.some.injEq]at e;cases c:B[j]? with
   |none=>rw[c]at e;simp at e
   |some z =>
    rw[c]at e;subst e;obtain⟨v,m,h⟩:=l.2 j d c;exact⟨v,by simp[m],h⟩
inductive WH where
 |one|many (k:Nat)
def Si:ZR->Nat->yM->ZR
 |B,_,[]=>B
 |B,s,x::c=>Si (B.set s (Z9 x)) (s+1) c
def T5(t:WH)(d:D)(B:ZR):Option ZR:=match t with
 |.one=>Z9 (B.set 0 (Z9 d))
 |.many k=>match d with
  |.tup c=>if c.length=k then Z9 (Si B 0 c)else Z8
  |_=>Z8
def NZ:Nat->Nat->U9
 |_,0=>QQ
 |s,n+1=>GF (SY s) (NZ (s+1) n)
def VF:WH->Nat
 |.one=>1
 |.many k=>k
def tOfT'(K:yQ):WH->TG
 |.one=>SY 0
 |.many k=>QP K k (NZ 0 k)
theorem Ej(h:Tw (WA k d Z) c)(hi:i<k)(v:V):Tw (WA k d Z) (c.set i (Z9 v)):=by
 refine⟨by rw[qN8];exact h.1,λj u e=>?_⟩;by_cases f:i=j
 .subst f;obtain⟨_,g,_⟩:=FT e
  lia
 .rw[qE1 f];exact h.2 j u e
theorem Ei(Z:St):Tw Z Z:=⟨rfl,λ_ _ h=>h⟩
theorem Eh{K:yQ}{H:Hp}{J:yC}{k:Nat}{d:List Nat}{Z:St}{Q:St->Hp->Prop}:∀{n s:Nat}{xs:yM}{vs:List V}{B1:ZR}{Z1:St},RVs K H J xs vs->xs.length=n->s+n<=k->RE K H J B1 Z1->Tw (WA k d Z) Z1->(∀c,RE K H J (Si B1 s xs) c->Tw (WA k d Z) c->Q c H)->NZ s n vs Z1 H Q
 |0,s,xs,vs,B1,Z1,r,hl,hk,re,w,h=>by have:=qF3.mp hl;subst this;exact⟨r.nil_inv,h Z1 re w⟩
 |n+1,s,[],vs,B1,Z1,r,hl,hk,re,w,h=>by simp at hl
 |n+1,s,x::xs,vs,B1,Z1,r,hl,hk,re,w,h=>by obtain⟨v,f,rfl,g,i⟩:=r.cons_inv;exact⟨v,f,rfl,Eh i (by simpa using hl) (by lia) (re.set g s) (Ej w (by lia) v) h⟩
theorem oN{K:yQ}(o:VF t<=k)(l:RE K H J (WI k c B) (WA k c Z))(i:RV K H J d x)(e:T5 t d (WI k c B)=Z9 j)(h:∀f,RE K H J j f->Tw (WA k c Z) f->Q f H)(s:1<=k):tOfT' K t x (WA k c Z) H Q:=by
 cases t with
 |one =>
  cases e;exact h _ (l.set i 0) (Ej (Ei _) s x)
 |many n =>
  unfold T5 at e;dsimp only at e;split at e
  .rename_i u;split at e
   .rename_i g;cases e;obtain⟨p,r,rfl,q,m⟩:=i;exact⟨p,r,rfl,Zp.of q,by rw[<- m.len];exact g,Eh m g (by have:n<=k:=o;lia) l (Ei _) h⟩
   .cases e
  .cases e
open Classical in
def YS(w:WV)(t:WH)(tc:CT)(c:C)(B0:ZR):yM->M (yM)
 |[]=>λS=>if XJ w S then .ok [] S else .bad
 | d::g=>λS=>if XJ w S then(match T5 t d B0 with
  |some f=>Zc (tc f) (λk=>if k then Zc (c f) λy=>Zc (YS w t tc c B0 g) λh=>ret (y::h)else YS w t tc c B0 g) S
  | none=>.bad)else .bad
def X8(f:CI)(k:Nat)(h:List Nat)(t:WH)(tc:CT)(c:C):C:=fun B=>Zc (f B) λp S=>if p.1.length<lim then
  Zc (YS p.2 t tc c (WI k h B) p.1) (λg d=>.ok (.lst d.length) (d++[.lst g])) S
 else .bad
theorem SR.acc{K:yQ}(c:SR K J S H)(g:A∉J)(h:H A=Z9 (.lst us)):SR K J S (ZF H A (.lst ws)) :=
 ⟨c.len,c.nd,λn a o d f=>(c.obj n a o d f).up (Ob h) ⟨[],by simp⟩ (Y2 λz=>g (z▸qC2 d))⟩
theorem ZC.acc{K:yQ}(st:ZC K d J c H)(g:c A=Z8)(h:H A=Z9 (.lst us)):ZC K d J c (ZF H A (.lst ws)) :=
 ⟨st.pre,λb o f e=>by rw[Y2 (Vb e g)];exact st.fr b o f e,st.tk.trans (Ob h)⟩
theorem SR.adopt{K:yQ}{acc:yM}(f:SR K J S H)(j:A∉J)(h:H A=Z9 (.lst us))(r:RVs K H J acc us):SR K (J++[A]) (S++[.lst acc]) H:=by
 refine⟨by simp[f.len],?_,λn a u c d=>?_⟩
 .rw[qF7];refine⟨f.nd,by simp,λa l b k=>?_⟩
  grind
 .by_cases g:n<J.length
  .rw[qA8 g]at c;rw[qA8 (by rw[<- f.len];exact g)]at d;exact(f.obj n a u c d).up (TF.refl _ _) ⟨[A],rfl⟩ rfl
  .rw[qA2 (by lia)]at c;rw[qA2 (by rw[<- f.len];lia)]at d;have i:=by have:=(qA5.mp c).1;simp at this;omega
   rw[i]at c;rw[<- f.len,i]at d;simp at c d;subst c d;exact⟨us,h,RVs.up (TF.refl _ _) ⟨[A],rfl⟩ _ _ r⟩
theorem ZC.adopt{K:yQ}(st:ZC K d J c H)(h:c A=Z8):ZC K d (J++[A]) c H:=by
 obtain⟨f,e,n⟩:=st.pre;refine⟨⟨f++[A],by rw[e,qD1],λb g=>?_⟩,st.fr,st.tk⟩
 grind
theorem ZC.notIn{K:yQ}(st:ZC K J J' H c)(d:A∉J)(h:H A=Z9 o):A∉J':=λz=>by
 obtain⟨f,rfl,n⟩:=st.pre
 simp_all
inductive oM(K:yQ)(items:yM)(w:WV)(t:WH)(tc:CT)(c:C)(B0:ZR)(J0:yC)(H0:Hp)(A:yR)(S1:ZU)(ys:yM)(i m:Nat)(us:List V)(H2:Hp):Prop
 |mk (him:i+m=items.length) (hus:us.length<=i) (J2:yC) (S2:ZU) (acc Zm:yM) (sr:SR K J2 S2 H2) (st:ZC K J0 J2 H0 H2) (nA:A∉J2) (hA:H2 A=Z9 (.lst us)) (ra:RVs K H2 J2 acc us) (el:YS w t tc c B0 (items.drop i) S2=.ok Zm S1) (eys:acc++Zm=ys)
theorem Eg(ht:VF t<=k)(h1:1<=k)(h:Zy X.K (X8 it k js t tc c) Z H Q):Lr (Yj X.K it) k js (tOfT' X.K t) (YJ X.K tc) (Zy X.K c) Z H Q:=by
 obtain⟨J,B,S,d,S',sr,re,e,y⟩:=h;obtain⟨⟨f,w⟩,S0,e0,f0⟩:=Zd e;dsimp only at f0;split at f0
 .rename_i hlim;obtain⟨ys,S1,e1,f1⟩:=Zd f0;cases f1;refine⟨J,B,S,f,w,S0,sr,re,e0,λJJ H0 J0 sr0 I io A V=>?_⟩;have reC:=(re.up I).comp k js;obtain⟨srA,stA⟩:=sr0.other V;have nA:=sr0.out V;refine⟨oM X.K f w t tc c (WI k js B) J0 H0 A S1 ys,
   ⟨f.length,⟨by simp,qE8 _,J0,S0,[],ys,srA,stA,nA,Yx,RVs.nil,e1,rfl⟩⟩,?_⟩
  rintro i m us H2 ⟨him,hus,W,S2,acc,Zm,g,l,s,N,p,j,u⟩;refine And.intro N ?_;by_cases hi:i<f.length
  .rw[qG2 hi]at j;unfold YS at j;split at j
   .rename_i hw;refine .inr ⟨io.go i H2 W S2 g l hw hi,N7 (by lia),λx H3 hy=>?_⟩;obtain⟨d,hd,D,O,rv⟩:=io.yld i H2 W S2 x H3 g l hw hi hy;have ed:=by rw[qA9 hi]at hd;exact Option.some.inj hd
    rw[ed]at j;have hA3:=O.fr A _ s N;have K:=l.trans O D.nd;split at j
    .rename_i B4 h4;refine oN ht (reC.up K) rv h4 (fun Z4 U wk=>⟨wk,?_⟩) h1;obtain⟨kb,S3,e3,f3⟩:=Zd j;refine⟨W,B4,S2,kb,S3,D,U,e3,λH5 J5 G r=>?_⟩;have R:=r.fr A _ s hA3;have T:=r.notIn s hA3;have M:=K.trans r G.nd;have n:=O.trans r G.nd;cases kb with
     |true =>
      obtain⟨z,S4,e4,f4⟩:=Zd f3;obtain⟨zs,S5,e5,f5⟩:=Zd f4;obtain⟨rfl,rfl⟩:=Yl f5;refine⟨J5,B4,S3,z,S4,G,U.up r,e4,λv H6 J6 P F rv6=>?_⟩;have E:=F.fr A _ T R;have Y:=F.notIn T R;have L:=n.trans F P.nd;have tku:TF X.K H6 (ZF H6 A (.lst (us++[v]))):=Ob E;refine⟨E,m - 1,by lia,⟨by lia,by rw[qB5];show us.length+1<=i+1;lia,J6,S4,acc++[z],zs,P.acc Y E,(M.trans F P.nd).acc V E,Y,Yx,?_,e5,by rw[qD1];exact u⟩⟩;exact RVs.up tku ⟨[],by simp⟩ _ _ ((RVs.up L.tk L.ext _ _ p).append (.cons rv6 .nil))
     |false =>
      exact⟨m - 1,by lia,⟨by lia,by lia,J5,S3,acc,Zm,G,M,T,R,RVs.up n.tk n.ext _ _ p,f3,u⟩⟩
    .cases j
   .cases j
  .have ei:i=f.length:=by lia
   subst ei;rw[qR0]at j;unfold YS at j;split at j
   .rename_i hw;cases j;rw[qG0]at u;subst u;refine .inl ⟨io.stop H2 W _ g l hw,?_⟩;have hA0:H A=Z8:=by
     cases q:H A with
     |none=>rfl
     |some o =>
      by_cases hm:A∈J
      .exact absurd (I.mem hm) nA
      .rw[I.fr A o hm q]at V;cases V
    have D:=g.adopt s N p;refine y (.ref A) H2 (W++[A]) D ((I.trans l g.nd).adopt hA0) ?_;exact⟨A,rfl,by rw[<- g.len,qA2 (qA6 _),qD8];rfl⟩
   .cases j
 .cases f0
end
section
variable {X:Cx}
def Xp:yM->M D:=λa S=>match a with
 |[.int i]=>if i.natAbs<1000000000000000000 then .ok (.str (toString i)) S else .bad
 |_=>.bad
theorem Ef{i:Int}(b:i.natAbs<1000000000000000000):i.natAbs.log2<1920:=by
 by_cases a:i.natAbs=0
 .rw[a];decide
 .exact(Nat.log2_lt a).mpr (Nat.lt_trans b (by decide))
theorem oK:WK X.K (Yu X (.type "str")) Xp:=by
 intro i S d f H J g Q e c b h;unfold Xp at e;split at e
 .split at e
  .rename_i a;cases e;obtain⟨v,rfl,r⟩:=b.one;unfold RV at r;subst r;exact⟨_,ye,_,rfl,Ef a,h.self c VL⟩
  .cases e
 .cases e
def Qd:yM->Option (yH)
 |[]=>Z9 []
 |.str z::r=>(Qd r).map (z::·)
 |_=>Z8
theorem Ee{K:yQ}{H:Hp}{J:yC}:∀{a:yM}{ss:yH}{vs:List V},Qd a=Z9 ss->RVs K H J a vs->vs=ss.map V.str
 |[],ss,vs,e,r=>by cases e;rw[r.nil_inv];rfl
 |x::a,ss,vs,e,r=>by
  cases x with
  |str z =>
   obtain⟨g,c,rfl⟩:=qA4.mp e;obtain⟨v,f,rfl,b,d⟩:=r.cons_inv;unfold RV at b;subst b;rw[Ee c d];rfl
  |_=>cases e
def VE:D->yM->M D:=λx a S=>match x,a with
 |.str z,[.lst n]=>match S[n]? with
  |some (.lst b)=>match Qd b with
   |some ss=>if uH z ss=Z7 then .ok (.str (Txt.join z ss)) S else .bad
   |none=>.bad
  |_=>.bad
 |_,_=>.bad
theorem oJ:Vh X.K "str" (V0 X "str.join") VE:=by
 intro x q S d l H J v n Q e c b rs y;unfold VE at e;split at e
 .split at e
  .rename_i m g;split at e
   .rename_i ss f;split at e
    .rename_i h;cases e;unfold RV at b;subst b;obtain⟨u,rfl,a⟩:=rs.one;unfold RV at a;obtain⟨p,rfl,j⟩:=a;obtain⟨o,i,k⟩:=c.lst j g;have:=Ee f k;subst this;exact⟨_,rG,_,p,ss,rfl,rfl,i,h,y.self c VL⟩
    .cases e
   .cases e
  .cases e
 .cases e
def Qc:D->yM->M D:=λx a S=>match x,a with
 |.str z,[.str y]=>.ok (.int (Txt.find z y)) S
 |_,_=>.bad
theorem oI:Vh X.K "str" (V0 X "str.find") Qc:=by
 intro x h S d f H J v g Q e c a rs y;unfold Qc at e;split at e
 .cases e;unfold RV at a;subst a;obtain⟨u,rfl,b⟩:=rs.one;unfold RV at b;subst b;exact⟨_,rE,_,_,rfl,rfl,y.self c XT⟩
 .cases e
open Builtin Builtin.Str in
def U0:D->yM->M D:=λx a S=>match x,a with
 |.str z,[.str y]=>if(y.length == 0)=Z5/\z.length<=lim/\(partsBetween z (occurrences z y 0 z.length (z.length+1)) y.length).length<=lim then .ok (.lst S.length) (S++[.lst ((Txt.split z y).map D.str)])else .bad
 |_,_=>.bad
theorem NY{K:yQ}:∀ss:yH,RVs K H J (ss.map D.str) (ss.map V.str)
 |[]=>.nil
 |_::ss=>.cons VL (NY ss)
theorem oH:Vh X.K "str" (V0 X "str.split") U0:=by
 intro x l S d j H J v k Q e f c rs y;unfold U0 at e;split at e
 .split at e
  .rename_i a;cases e;unfold RV at c;subst c;obtain⟨u,rfl,b⟩:=rs.one;unfold RV at b;subst b;refine⟨_,rC,_,_,rfl,rfl,a.1,Wz a.2.1,Wz a.2.2,λp h=>?_⟩;obtain⟨g,i⟩:=f.push (o:=.lst _) (o':=.lst _) h ⟨_,Yx,NY _⟩;exact y _ _ _ g i (by unfold RV;exact⟨p,rfl,by rw[<- f.len,qA2 (qA6 _),qD8];rfl⟩)
  .cases e
 .cases e
def Kt:yM->yM->Option (yM×D):=λa b=>match b with
 |[.int i]=>if 0<=i/\a.length<1000 then match a[i.toNat]? with
   |some y=>Z9 (a.take i.toNat++a.drop (i.toNat+1),y)
   |none=>Z8
  else Z8
 |_=>Z8
theorem oG:Vh X.K "list" (V0 X "list.pop") (VZ Kt):=Kv λK H J n t m d a r e b g=>by
 unfold Kt at e;split at e
 .rename_i i;split at e
  .rename_i l;split at e
   .rename_i y k;cases e;obtain⟨u,rfl,c⟩:=g.one;unfold RV at c;subst c;obtain⟨v,f,j⟩:=b.get k;have o:=b.len;have s:i.toNat<a.length:=(qA5.mp f).1;refine⟨a.take i.toNat++a.drop (i.toNat+1),v,(b.take _).append (b.drop _),j,λp Q h q=>⟨_,wm,p,a,i,i.toNat,v,rfl,rfl,h,by lia,by lia,PySem.StrLaws.seqIndex_nonneg l.1 (by lia),f,?_⟩⟩;rw[List.eraseIdx_eq_take_drop_succ];exact q
   .cases e
  .cases e
 .cases e
def YD(a:C):C:=fun B=>Zc (a B) λx S=>match x with
 |.int i=>if i.natAbs<1000000000000000000 then .ok (.str (toString i)) S else .bad
 |.str z=>if z.length<=lim then .ok (.str z) S else .bad
 |_=>.bad
theorem oF(k:PE X e (Zy X.K g)):PE X (.FormattedValue e (-1) Z8 pos) (Zy X.K (YD g)):=(rB k).weak (by
 rintro Z H Q ⟨J,B,S,d,n,j,i,e,y⟩;obtain⟨x,h,l,e⟩:=Zd e;refine⟨J,B,S,x,h,j,i,l,λv o m b a c=>?_⟩
 try dsimp only at e
 split at e
 .split at e
  .rename_i f;cases e;unfold RV at c;subst c;exact .inl ⟨_,rfl,Ef f,(y.shift a).self b VL⟩
  .cases e
 .split at e
  .rename_i f;cases e;unfold RV at c;subst c;exact .inr ⟨_,rfl,Wz f,(y.shift a).self b VL⟩
  .cases e
 .cases e)
def VY:List C->Str->C
 |[],acc=>λ_ S=>if acc.length<=lim then .ok (.str acc) S else .bad
 |c::a,acc=>fun B=>Zc (c B) λx S=>match x with
  |.str y=>if(acc++y).length<=lim then VY a (acc++y) B S else .bad
  |_=>.bad
theorem Ed{K:yQ}:∀(cs:List C) (acc:Str) (Z:St) (H:Hp) (Q:VK),Zy K (VY cs acc) Z H Q->Oc (cs.map (Zy K)) acc Z H Q
 |[],acc,Z,H,Q,⟨J,B,S,d,S',sr,re,e,y⟩=>by
  unfold VY at e;split at e
  .rename_i b;cases e;exact⟨Wz b,y.self sr VL⟩
  .cases e
 |c::cs,acc,Z,H,Q,⟨J,B,S,d,S',sr,re,e,y⟩=>by
  unfold VY at e;obtain⟨x,g,k,e⟩:=Zd e;refine⟨J,B,S,x,g,sr,re,k,λv j i f a h=>?_⟩
  try dsimp only at e
  split at e
  .split at e
   .rename_i b;unfold RV at h;subst h;exact⟨_,rfl,Wz b,Ed cs _ Z j Q ⟨i,B,g,d,S',f,re.up a,e,y.shift a⟩⟩
   .cases e
  .cases e
end
def Ks(x:Str):It:=⟨λi _=>i<x.cps.size,λi H v a=>a=H/\∃c,x.cps[i]?=Z9 c/\v=.str ⟨#[c]⟩,λi _=>x.cps.size<=i⟩
theorem oE{P:yX}{w:y8}{K:PySem.W.Frag}{R:yY}(x:Str)(t:Tok)(g:yR):XD P w K R (Ks x) [g] g (λi h=>h.IsStrIter g "str_ascii_iterator" x t i) where
 mem:=by simp
 obj:=λi h a b j=>by
  have e:=by simpa using j
  subst e;obtain⟨o,e,c,d⟩:=a;exact⟨o,e,λv z=>by rw[d]at z;cases z⟩
 keep:=λi h n a k=>by obtain⟨o,e,r⟩:=a;exact⟨o,k g (by simp) o e,r⟩
 item:=by intro X F B y J i f s Z H E I m a G;subst F B y;obtain⟨A,D,L,C,q,p⟩:=m g (by simp);have W:=Walks.strAscii (prog:=X.prog) (w:=X.w) (I.ok.hd J) g x t;refine W.item i s _ _ G a λv n S hv l kk=>?_;obtain⟨c,u,O,rfl⟩:=hv;have N:ZO X f Z H { s with heap:=n,toks:=S }:=I.turned (λb o j e=>kk b o (by simpa using j) e) A D C q p;obtain⟨o,e,Q,d⟩:=id l;exact⟨_,rfl,QO e Q d (by decide) ⟨.str ⟨#[c]⟩,H,N,⟨u,rfl⟩,⟨rfl,c,O,rfl⟩,l,λb j=>(m b j).1⟩⟩
 done:=by intro X F B y J i f s Z H E I m a G;subst F B y;obtain⟨A,D,L,C,q,p⟩:=m g (by simp);exact wpAny_pyNext_ascii_end (I.ok.hd J) a (Array.getElem?_eq_none G) λn M=>⟨rfl,I.turned (t':=s.toks) (λb o j e=>M b o j e) A D C q p⟩
 self:=λ_ _ _ _ _ a h=>wpAny_pyIter_striter_ascii a h
def Kr(a:TE):TI:=fun Z H R=>a Z H λv b=>∃x,v=.str x/\x.cps.all (·<128)=Z7/\R (Ks x) b
theorem oD(he:PE X e f):PI X k e (Kr f):=by
 intro a s Z H R I h;refine Zt (he a s Z H _ I h) λu c ⟨v,i,d,g,x,ex,l,q⟩=>?_;subst ex;obtain⟨t,rfl⟩:=g;refine wpAny_pyIter_ascii l ?_;refine⟨c.heap.objs.size,[c.heap.objs.size],_,_,i,rfl,d.kept (t':=c.toks) λb o e=>qA0 _ e,oE x t _,⟨_,qA7 _ rfl,rfl,rfl⟩,λb j=>?_,q⟩;have e:b=c.heap.objs.size:=by simpa using j
 subst e;exact d.fpOk (qA6 _) (d.hok.fresh (qA6 _))
section
variable {X:Cx}{tg e:yY}{ce:C}
def T4(x:Str):yM:=x.cps.toList.map λc=>.str ⟨#[c]⟩
theorem oC{K:yQ}{g:Hp}{h:yC}{x:Str}:Xq K (Ks x) (T4 x) [] h g where
 go:=λi H J S b d _ a=>by unfold T4 at a;rw[qA1,jN]at a;exact a
 yld:=λi H J S v j b d _ a y=>by obtain⟨rfl,c,f,rfl⟩:=y;exact⟨.str ⟨#[c]⟩,by unfold T4;rw[qB6,jM,f];rfl,b,ZC.refl _ _ _,VL⟩
 stop:=λH J S b d _=>by show x.cps.size<=(T4 x).length;unfold T4;rw[qA1,jN];exact qA6 _
def Xo(c:C):CI:=fun B=>Zc (c B) λx S=>match x with
 |.str z=>if z.cps.all (·<128)then .ok (T4 z,[]) S else .bad
 |_=>.bad
theorem oB(he:PE X e (Zy X.K ce)):PI X tg e (Yj X.K (Xo ce)):=(oD he).weak (by
 rintro Z H R ⟨J,B,S,b,w,n,k,j,a,y⟩;obtain⟨x,h,m,a⟩:=Zd a;refine⟨J,B,S,x,h,k,j,m,λv i g d c f=>?_⟩;split at a
 .rename_i z;split at a
  .rename_i l;cases a;unfold RV at f;subst f;exact⟨z,rfl,l,y _ i g d c oC⟩
  .cases a
 .cases a)
end
theorem oA(n:a≠b):ZF (ZF H a o) b u=ZF (ZF H b u) a o:=by
 funext c;by_cases e:c=a
 .subst e;rw[Y2 n,Yx,Yx]
 .by_cases d:c=b
  .subst d;rw[Yx,Y2 e,Yx]
  .rw[Y2 d,Y2 e,Y2 e,Y2 d]
def Ws(K:yQ)(C:yR):Prop:=mV K jC "Desk"=Z9 (Z9 (.ref C))
theorem Ws.uniq{K:yQ}{C D:yR}(a:Ws K C)(b:Ws K D):C=D:=by unfold Ws at a b;rw[a]at b;cases b;rfl
def Tp:C:=λ_ S=>.ok (.ob S.length) (S++[.dk []])
section
variable {X:Cx}{e:yY}{ce:C}
theorem oz{C:yR}(h:PE X e (EZ C "kept"))(r:Ws X.K C):PE X e (Zy X.K Tp):=h.weak fun Z H Q ⟨J,B,S,d,A,j,D,k,y⟩=>by unfold Tp at k;cases k;intro x g c s f w u b q;rw[Ml,oA (a:=c) b,Ml];obtain⟨m,v⟩:=j.other (o:=.own x) f;obtain⟨i,n⟩:=m.other (o:=.frz (wC C g) (.ins C g [("kept",.ref c)])) (p:=x) (by rw[Y2 (λz=>u z.symm)];exact s);obtain⟨l,t⟩:=i.push (o:=.dK []) (o':=.dk []) (p:=c) (by rw[Y2 b,Y2 q];exact w) ⟨[],Yx,rfl,RVs.nil⟩;refine y _ _ _ l ((v.trans n i.nd).trans t l.nd) ?_;unfold RV;exact⟨x,_,C,g,c,rfl,by rw[Y2 (λz=>b z.symm),Yx],by rw[<- j.len,qA2 (qA6 _),qD8];rfl,r⟩
def UZ:D->M D
 |.ob n=>ret (.dct n)
 |_=>bad
theorem oy(he:PE X e (Zy X.K ce))(q:vS e "kept" X.env (jW e X.env)=jW e X.env)(w:∀C,Ws X.K C->WO X.K C/\Vr X.K C "kept"):PE X (.Attribute e "kept" pos) (Zy X.K (Vn UZ ce)):=(rj he q).weak fun Z H Q ⟨J,B,S,d,A,m,l,c,y⟩=>by
 obtain⟨x,j,t,c⟩:=Zd c;refine⟨J,B,S,x,j,m,l,t,λv D z g f h=>?_⟩;cases x with
 |ob n =>
  unfold UZ at c;obtain⟨rfl,rfl⟩:=Yl c;unfold RV at h;obtain⟨a,o,C,r,b,rfl,p,s,i⟩:=h;obtain⟨k,u⟩:=w C i;exact⟨a,C,r,_,.ref b,rfl,.inr ⟨o,p⟩,k,u,rfl,y _ _ _ g f (by unfold RV;exact⟨b,rfl,s⟩)⟩
 |_=>cases c
def Zn(b:yM->M D)(o:C)(a:CA):C:=fun B=>Zc (o B) λx=>match x with
 |.ob n=>Zc (a B) λc=>b (.ob n::c)
 |_=>bad
theorem ox{es:yE}(d:gO (es.length+([]:List wA).length) (vB pos (y3 es env)) (wH pos (j8 [] env))=Z7)(c:(a.endLine == pos.line)=Z7):
  jW (.Call (.Attribute (.Name y b) m a) es [] pos) env=(do
   let ov <- jW (.Name y b) env
   gU a.atName
   let (f,first) <- wJ [ov] (uC ov m (do return (<- importBound (.Name y b) env).getD Z7))
   callWith pos f first (vB pos (y3 es env)) (wH pos (j8 [] env))):=by
 show(do
  let ov <- vS (.Name y b) m env (jW (.Name y b) env)
  gU a.atName
  methodCall (.Name y b) m a pos env ov (es.length+([]:List wA).length) (vB pos (y3 es env)) (wH pos (j8 [] env)))=_
 unfold methodCall calleeOf methodCallPos;rw[d,c];rfl
structure Qb(P:yX)(w:y8)(K:yQ)(mg:Str->yF)(base:y9)(m:Str)(k:Nat)(sp:Sp):Prop where
 ex:∃C f fd ps,Ws K C/\WO K C/\Up K C m f/\Yw P w K mg base VP k f fd ps sp/\Wi K fd ps []/\m ≠ "kept"
theorem ow{K:yQ}{C:yR}{m:Str}(r:RV K H J (.ob n) v)(d:Ws K C)(f:m ≠ "kept"):∃a c fs,v=.ref a/\Rd H a (.ins C c fs)/\fs.lookup m=Z8:=by unfold RV at r;obtain⟨a,o,i,c,b,rfl,h,j,g⟩:=r;obtain rfl:=Ws.uniq d g;exact⟨a,c,_,rfl,.inr ⟨o,h⟩,by rw[qD9,show(m == ("kept":Str))=Z5 by simpa using f];rfl⟩
theorem ou{l:yM->M D}{es:yE}(M:Qb X.prog X.w X.K X.mg X.base m k (XU X.K l n))(V:Zh w X.A)(hk:k<=w)(hn:∀K S d t,l K S=.ok d t->K.length=n)
  (ho:PE X (.Name y s) (Zy X.K u)) (ha:PA X (a::es) (Yv X.K I)) (h1:y3 (a::es) X.env=(Z5,jW a X.env)::y3 es X.env) (h2:(vB pos (y3 es X.env)).any (·.1)=Z5) (Y:gO ((a::es).length+([]:List wA).length) (vB pos (y3 (a::es) X.env)) (wH pos (j8 [] X.env))=Z7) (T:(b.endLine == pos.line)=Z7) :
  PE X (.Call (.Attribute (.Name y s) m b) (a::es) [] pos) (Zy X.K (Zn l u I)):=by
 obtain⟨C,f,fd,ps,W,c,hm,F,hb,nk⟩:=M.ex;refine(ri ho c hm F (V.mono hk) hb .nil LF ha h1 h2 (ox Y T)).weak fun Z H Q ⟨J,B,S,d,t,sr,G,g,q⟩=>?_;obtain⟨x,A,e1,g⟩:=Zd g;refine⟨J,B,S,x,A,sr,G,e1,λv H1 O o i E=>?_⟩;cases x with
 |ob n =>
  obtain⟨N,r,R,g⟩:=Zd g;obtain⟨p,dx,fs,rfl,U,g2⟩:=ow E W nk;refine⟨p,dx,fs,rfl,U,g2,O,B,A,N,r,o,G.up i,R,λvs P z j h r2=>?_⟩;rw[qG0];have L:RVs X.K P z (.ob n::N) (.ref p::vs):=.cons (RV.up h.tk h.ext _ _ E) r2;exact⟨by rw[<- L.len];exact hn _ r _ _ g,z,_,r,_,_,j,L,g,q.shift (i.trans h j.nd)⟩
 |_=>cases g
end
section
variable {X:Cx}
def YQ:D->D->M D:=λx y S=>match x,y with
 |.str i,.str j=>.ok (.bl (!(Builtin.Str.occurrences j i 0 j.length 1).isEmpty)) S
 |_,_=>YA Z5 x y S
theorem ot(f:X.A.units+64<vE):YB X.K (Zi X (yZ .In)) YQ:=by
 intro x y S d g H J v u Q e c a b h;unfold YQ at e;split at e
 .cases e;unfold RV at a b;subst a b;exact⟨_,yu,_,_,rfl,rfl,h.self c W7⟩
 .exact p5 f _ _ _ _ _ _ _ _ _ _ e c a b h
def Ri:D->yM->M D:=λx a S=>match x,a with
 |.str z,[.str y]=>.ok (.bl (UI z y)) S
 |_,_=>.bad
theorem oq:Vh X.K "str" (V0 X "str.startswith") Ri:=by
 intro x h S d f H J v g Q e c a rs y;unfold Ri at e;split at e
 .cases e;unfold RV at a;subst a;obtain⟨u,rfl,b⟩:=rs.one;unfold RV at b;subst b;exact⟨_,rq,_,_,rfl,rfl,y.self c W7⟩
 .cases e
open Builtin Builtin.Str in
def Rh:D->yM->M D:=λx a S=>match x,a with
 |.str z,[.str y,.int k]=>if((decide (k < -(2 ^ 63:Int))||decide (k≥2 ^ 63))=Z5)/\(y.length == 0)=Z5/\z.length<=lim/\(partsBetween z (occurrences z y 0 z.length (g7 z k)) y.length).length<=lim then .ok (.lst S.length) (S++[.lst ((Rx z y k).map D.str)])else .bad
 |_,_=>.bad
theorem om:Vh X.K "str" (V0 X "str.split") Rh:=by
 intro x n S d k H J v l Q e g f rs y;unfold Rh at e;split at e
 .split at e
  .rename_i b;cases e;unfold RV at f;subst f;obtain⟨u,m,rfl,c,a⟩:=rs.two;unfold RV at c a;subst c a;refine⟨_,ro,_,_,_,rfl,rfl,b.1,b.2.1,Wz b.2.2.1,Wz b.2.2.2,λp i=>?_⟩;obtain⟨h,j⟩:=g.push (o:=.lst _) (o':=.lst _) i ⟨_,Yx,NY _⟩;exact y _ _ _ h j (by unfold RV;exact⟨p,rfl,by rw[<- g.len,qA2 (qA6 _),qD8];rfl⟩)
  .cases e
 .cases e
end
section
variable {X:Cx}
theorem oj:Yk X (.type "dict") (λvs H Q=>∃a b,vs=[.ref a]/\H a=Z9 (.dK b)/\∀p,H p=Z8->Q (.ref p) (ZF H p (.dK b))):=by intro c s Z H l k Q I f h;obtain⟨a,b,rfl,i,q⟩:=h;obtain⟨u,rfl,e⟩:=f.one;cases e;exact vp I (.inl i) λp j g d=>⟨.ref p,_,d,rfl,q p g⟩
def T3:yM->M D:=λb S=>match b with
 |[.dct n]=>match S[n]? with
  |some (.dk a)=>.ok (.dct S.length) (S++[.dk a])
  |_=>.bad
 |_=>Sm b S
theorem oh(q:X.calm=Z7):WK X.K (Yu X (.type "dict")) T3:=by
 intro u S d s H J t Q e c g h;unfold T3 at e;split at e
 .split at e
  .rename_i k n;cases e;obtain⟨v,rfl,r⟩:=g.one;unfold RV at r;obtain⟨a,rfl,m⟩:=r;obtain⟨f,b,i⟩:=c.get m n;refine⟨_,oj,a,f,rfl,b,λp b=>?_⟩;obtain⟨j,l⟩:=c.push (o:=.dK f) (o':=.dk _) b ⟨f,Yx,i.1,RVs.up (SA b) ⟨[p],rfl⟩ _ _ i.2⟩;exact h _ _ _ j l (by unfold RV;exact⟨p,rfl,by rw[<- c.len,qA2 (qA6 _),qD8];rfl⟩)
  .cases e
 .exact pG q _ _ _ _ _ _ _ _ e c g h
end
def VD(a b:Str):Prop:=¬b.cps.toList<a.cps.toList
theorem VD.trans(h:VD a b)(k:VD b c):VD a c:=by unfold VD at *;rw[List.not_lt]at *;exact List.le_trans h k
theorem VD.anti(h:VD a b)(k:VD b a):a=b:=by unfold VD at *;rw[List.not_lt]at *;have:=List.le_antisymm h k;cases a;cases b;simpa using this
theorem Ec:∀(l:yH) (p:Str),risingS p l=Z7->(p::l).Pairwise VD
 |[],p,_=>qD6 _ _
 |x::l,p,h=>by
  unfold risingS at h;rw[qC1,qI7,ltCps_eq,decide_eq_false_iff_not]at h;have b:=Ec l x h.2;refine qE4.mpr ⟨λy a=>?_,b⟩;rcases qC0.mp a with rfl|a
  .exact h.1
  .exact VD.trans h.1 ((qE4.mp b).1 y a)
theorem Eb{l:yH}(h:uA l=Z7):l.Pairwise VD:=by
 cases l with
 |nil=>exact List.Pairwise.nil
 |cons x l=>exact Ec l x h
theorem og{l m:yH}(h:uA l=Z7)(k:uA m=Z7)(p:m.Perm l):m=l :=
 p.eq_of_pairwise (λ_ _ _ _ b a=>VD.anti b a) (Eb k) (Eb h)
section
variable {prog:yX}{w:y8}{A:y7}{E:yL}{s:yS}{r:yR}
theorem oe{Q:yL}{ns:yH}(B:ns.length<64)
  (z:∀(A:y7) (E:yL) (R:yB->yS->Prop),A.handled=Z8->(∀(h':y9) (tk:Nat) (us:yB),(∀b o,s.heap.get? b=Z9 o->h'.get? b=Z9 o)->StrsAre us ns->R us { s with heap:=h',toks:=tk })->y2 (yW prog w) A (collect (.ref r)) R E s)
  (v:A.handled=Z8)
  (h:∀(j:y9) (l:yR) (h':y9) (tk:Nat) (e:Nat) (us:yB) (ms:yH),(∀b o,s.heap.get? b=Z9 o->j.get? b=Z9 o)->(∀b o,j.get? b=Z9 o->h'.get? b=Z9 o)->j.objs.size<=l->h'.get? l=Z9 (vX "list" us.toArray e)->StrsAre us ms->ms.Perm ns->uA ms=Z7->Q (.ref l) { s with heap:=h',toks:=tk }) :
  y2 (yW prog w) A (mY (.builtin "sorted") [.ref r]) Q E s:=by
 refine wL uM dS dU (dW _) ?_;unfold Builtin.«sorted»;refine yO (m:=checkCount "sorted" 1 1 _) (yP ?_);refine yO (z _ _ _ v λh' tk us hk f=>?_);have d:us.length=ns.length:=by rw[<- f.strs,qA1]
 refine yO (fV ?_ (by rw[d,j7];lia));have a:(h'.push (vX "list" us.toArray 0)).get? h'.objs.size=Z9 (vX "list" us.toArray 0):=qA7 _ rfl;show y2 _ _ _ _ _ { s with heap:=h'.push (vX "list" us.toArray 0),toks:=tk };refine yO (jG (jE mP ⟨_,a,rfl⟩ mB (list_sort_treeK strKind_oneLt a f.keysOf (λn k Zm e=>keyKind_strs (by rw[<- e];exact f)) (by lia) λc u p=>⟨_,rfl,?_⟩) (mQ _)));obtain⟨i,y,q,t⟩:=sorted_out_str f u p;obtain⟨e,x⟩:=m9 (out:=(uO c).map (·.2)) a;refine yP ⟨_,rfl,h h' h'.objs.size _ tk e ((uO c).map (·.2)).toList i hk (λb o g=>?_) (qA6 _) (by rw[Array.toArray_toList];exact x) y q t⟩;have lt:b<h'.objs.size:=qB1 g;rw[mR (qB9 lt) (by rw[dF];exact qD7 lt)];exact qA0 _ g
end
theorem Ea:∀(us:yB) (ns:yH),us.length=ns.length->(∀(j:Nat) (v:yT) (n:Str),us[j]?=Z9 v->ns[j]?=Z9 n->∃t,v=.str n t)->StrsAre us ns
 |[],[],_,_=>.nil
 |[],_::_,h,_=>by cases h
 |_::_,[],h,_=>by cases h
 |u::us,n::ns,h,k=>by obtain⟨t,rfl⟩:=k 0 u n rfl rfl;exact .cons n t (Ea us ns (by simpa using h) λj v m b a=>k (j+1) v m (by simpa using b) (by simpa using a))
theorem D9:∀{us:yB}{ns:yH},StrsAre us ns->ZJ (ns.map V.str) us
 |_,_,.nil=>.nil
 |_,_,.cons n t h=>.cons ⟨t,rfl⟩ (D9 h)
theorem n8(hc:X.calm=Z7):Yk X (.builtin "sorted") (λvs H Q=>∃(p:yR) (a:List (Zz×V)) (ns:yH),vs=[.ref p]/\H p=Z9 (.dK a)/\a.map (·.1)=ns.map Sum.inr/\ns.length<64/\uA ns=Z7/\∀(l:yR),H l=Z8->Q (.ref l) (ZF H l (.lst (ns.map V.str)))):=by
 intro f s Z H xs C Q I r h;obtain⟨p,a,ns,rfl,hp,hk,B,N,q⟩:=h;obtain⟨u,rfl,M⟩:=XC r;cases M;obtain⟨hz,P,vs,G,S⟩:=RG I.hok hp;obtain⟨ep,g⟩:=S.dictAt;have y:vs.length=ns.length:=by rw[<- Paired.length G,<- qA1,hk,qA1]
 refine oe B (λA E R hA hR=>dA (W.kdl_dict P) hA g (by rw[y,j7];lia) λL tk acc w c=>hR L tk _ w ?_) (I.ok.hd hc) λh2 l2 h3 d e C ms k2 O le K hi m Y=>?_
 .refine Ea _ _ (by rw[jN,c.1,y]) λj v n e1 J=>?_;obtain⟨k,x,T,z⟩:∃k x,vs[j]?=Z9 (k,x)/\(Yp X.prog X.w).is k v=Z7:=c.2 j v (by rw[<- jM];exact e1);obtain⟨q1,U,e6,_⟩:=Lf G T;have F:(a.map (·.1))[j]?=Z9 k:=by rw[qB6,U];exact congrArg Z9 e6
  rw[hk,qB6,J]at F;cases F;cases v<;>first|exact absurd z qB0|skip
  rename_i i t;have:=by simpa[Yp,Ut,Value.isStrOf]using z
  subst this;exact⟨t,rfl⟩
 .have D:ZO X f Z H { s with heap:=h2,toks:=d }:=I.kept (t':=d) λb o e=>k2 b o e;have em:=og N Y m;subst em;refine⟨.ref l2,_,D.laid (t':=d) O le ?_,rfl,q _ (D.hok.fresh le)⟩;exact⟨by rw[qA1];exact qC5 (qF4 B) (by decide),C,e,D9 hi,by simpa using K⟩
def Qa:List (Zz×D)->Option (yH)
 |[]=>Z9 []
 |(.inr n,_)::r=>(Qa r).map (n::·)
 |_=>Z8
theorem D8:∀{a:List (Zz×D)}{ns:yH},Qa a=Z9 ns->a.map (·.1)=ns.map Sum.inr
 |[],ns,h=>by cases h;rfl
 |(.inr n,_)::r,ns,h=>by obtain⟨b,e,rfl⟩:=qA4.mp h;rw[qB2,qB2,D8 e]
 |(.inl n,_)::r,ns,h=>by cases h
def T1:yM->M D:=λb S=>match b with
 |[.dct n]=>match S[n]? with
  |some (.dk a)=>match Qa a with
   |some ss=>if ss.length<64/\uA ss=Z7 then .ok (.lst S.length) (S++[.lst (ss.map D.str)])else .bad
   |none=>.bad
  |_=>.bad
 |_=>Xe b S
theorem nZ(i:X.calm=Z7)(m:X.A.units+64<vE):WK X.K (Yu X (.builtin "sorted")) T1:=by
 intro y S d w H J x Q e b g h;unfold T1 at e;split at e
 .split at e
  .rename_i l t;split at e
   .rename_i ss j;split at e
    .rename_i f;cases e;obtain⟨v,rfl,r⟩:=g.one;unfold RV at r;obtain⟨a,rfl,q⟩:=r;obtain⟨s,c,u⟩:=b.get q t;refine⟨_,n8 i,a,s,ss,rfl,c,u.1.symm.trans (D8 j),f.1,f.2,λp c=>?_⟩;obtain⟨k,n⟩:=b.push (o:=.lst _) (o':=.lst _) c ⟨_,Yx,NY ss⟩;exact h _ _ _ k n (by unfold RV;exact⟨p,rfl,by rw[<- b.len,qA2 (qA6 _),qD8];rfl⟩)
    .cases e
   .cases e
  .cases e
 .exact Ey i m _ _ _ _ _ _ _ _ e b g h
def WG:List (Str×yH):=[("net",["N","TEXT"]),("nets",[]),("show",["A"]),("function",["A"]),("lets",["A","S"]),("shut",["A","S"]),("pieces",["A","S"]),("row",["A","B","N"]),("side",["A","B","N"]),("about",["A","N"]),("cut",["A","C","N"]),("bridge",["A","C","N"]),("trim",["A","N"]),("alike",["A","B"]),("fewest",["A"]),("ways",["A"]),("bars",["A"])]
def TZ(K:yQ)(p:yR)(b:yH):Prop:=∃(o:Obj) (a:yJ) (n:Nat),K.lookup p=Z9 o/\o.cls=.type "tuple"/\o.data=.seq a n/\a.size<=yV/\ZJ (b.map V.str) a.toList
structure UY(w:y8)(K:yQ)(mg:Str->yF):Prop where
 ex:∃(a:yR) (o:Obj) (kvs:List (Zz×yT)),mg "FORMS"=Z9 (.ref a)/\(a == jZ)=Z5/\K.lookup a=Z9 o/\o.cls=.type "dict"/\o.dict=Z8/\(∀P (h:y9),h.get? a=Z9 o->h.DictOf (Yp P w) a kvs) /\
  ∀z,match WG.lookup z with
   |some ts=>∃p,fE kvs (.inr z)=Z9 (.ref p)/\TZ K p ts
   |none=>fE kvs (.inr z)=Z8
section
variable {X:Cx}{a:yY}{ta:TA}{ca:C}{np apos cpos:Pos}
def nY(K:yQ)(d:TA):TE:=fun Z H Q=>d Z H λc b=>∃z,c=[.str z]/\match WG.lookup z with
 |some e=>∀p,TZ K p e->Q (.ref p) b
 |none=>Q .non b
theorem nX(F:UY X.w X.K X.mg)(T:Gl X "FORMS")(U:PA X [a] ta)(N:y3 [a] X.env=[(Z5,jW a X.env)])
  (l:((vB cpos (y3 [a] X.env)).all (λx=>!x.1)&&(wH cpos (j8 [] X.env)).all (λx=>x.1.isSome)
   && decide ([a].length+([]:List wA).length+(if([]:List wA).isEmpty then 0 else 1)<30))=Z7)
  (f:(apos.endLine == cpos.line)=Z7):PE X (.Call (.Attribute (.Name "FORMS" np) "get" apos) [a] [] cpos) (nY X.K ta):=by
 intro c s Z H Q I h;obtain⟨d,o,K,S,j,E,V,M,m,val⟩:=F.ex;have g:=GH (pos:=np) (v:=.ref d) T S rfl (by decide) c s Z H (λv q=>v=.ref d/\q=H) I ⟨rfl,rfl⟩;refine lP rfl l f rfl (Zt g λv w ⟨x,q,B,R,ex,O⟩=>?_);subst ex O;cases R;have G:w.heap.get? d=Z9 o:=B.kIn _ _ E;refine⟨"dict","dict.get",lJ,mG,PySem.F.type_dict_get,⟨o,G,V⟩,λb e=>by cases e;exact⟨o,G,M⟩,?_⟩;have D:=U cpos c w Z q _ B h;rw[N]at D ⊢;refine lQ rfl (mL ?_);refine Zt D λY A ⟨vs,t,n,P,z,ez,i⟩=>?_;subst ez;obtain⟨u,rfl,L⟩:=P.one;have r:A.heap.get? d=Z9 o:=n.kIn _ _ E;have y:=m X.prog A.heap r;refine call_meetsIn mG y.typeIs PySem.F.entry_dict_get (PySem.F.args_dict_get_2 _ _) (meets_dict_get (Yp X.prog X.w) d (Tz (k:=.inr z) L) j) ⟨_,y.mapOf,?_⟩;have v:=val z;revert i v;cases WG.lookup z with
 |some W =>
  rintro i ⟨p,e,J⟩;rw[e];exact⟨.ref p,t,n.tok _,rfl,i p J⟩
 |none =>
  intro i e;rw[e];exact⟨.non,t,n.tok _,rfl,i⟩
def Rg:yM->M D
 |[.str z]=>match WG.lookup z with
  |some b=>ret (.ktp b)
  |none=>ret .non
 |_=>bad
theorem nW(F:UY X.w X.K X.mg)(n:Gl X "FORMS")(o:PE X a (Zy X.K ca))(h:y3 [a] X.env=[(Z5,jW a X.env)])
  (c:((vB cpos (y3 [a] X.env)).all (λx=>!x.1)&&(wH cpos (j8 [] X.env)).all (λx=>x.1.isSome)
   && decide ([a].length+([]:List wA).length+(if([]:List wA).isEmpty then 0 else 1)<30))=Z7)
  (b:(apos.endLine == cpos.line)=Z7):PE X (.Call (.Attribute (.Name "FORMS" np) "get" apos) [a] [] cpos) (Zy X.K (ZT Rg (ZS [ca]))):=(nX F n (Ub o Sx h) h c b).weak (by
 rintro Z H Q ⟨J,B,S,d,u,m,l,e,y⟩;obtain⟨q,j,s,e⟩:=Zd e;refine⟨J,B,S,q,j,m,l,s,λA D t g f k=>?_⟩;unfold Rg at e;split at e
 .rename_i z;obtain⟨v,rfl,r⟩:=k.one;unfold RV at r;subst r;refine⟨z,rfl,?_⟩;revert e;cases WG.lookup z with
  |some w =>
   intro e p i;obtain⟨rfl,rfl⟩:=Yl e;exact y _ _ _ g f (by unfold RV;exact⟨p,rfl,.inr i⟩)
  |none =>
   intro e;obtain⟨rfl,rfl⟩:=Yl e;exact y _ _ _ g f Ua
 .cases e)
end
structure Sc where
 N:yH
 names:List (Str×jR)
 fn:Option Str
def UD:List (Str×Str):=[("say","Desk.say"),("with_nets","Desk.with_nets")]
def P9:yH:=["len","range","list","tuple","min","max","zip","isinstance","all","any","int","bool","enumerate","str","sorted","dict","sum","repr","set","abs"]
def NX:List (Str×Str):=[("FIGURES","0123456789"),("LETTERS","abcdefghijklmnopqrstuvwxyz")]
structure UX(ar:Str->yK)(mg:Str->yF):Prop where
 b:∀y:Str,y∈P9->ar y=Z8->mg y=Z8
 t:∀x z,NX.lookup x=Z9 z->∃t,mg x=Z9 (.str z t)
structure Yz(X:Cx)(sc:Sc)(ar:Str->yK)(cl:Str->yM->M D)(k:Nat):Prop where
 calm:X.calm=Z7
 N:X.N=sc.N
 nd:sc.N.Nodup
 gl:∀x,sc.names.lookup x=Z9 .globalImplicit->Gl X x
 loc:∀x,sc.names.lookup x=Z9 .local->X.env.scope.names.lookup x=Z9 .local
 cel:∀x,sc.names.lookup x=Z9 .cell->X.env.scope.names.lookup x=Z9 .cell
 fre:∀x,sc.names.lookup x=Z9 .free->X.env.scope.names.lookup x=Z9 .cell∨X.env.scope.names.lookup x=Z9 .free
 fnn:sc.fn.isSome=Z7->∀x,X.fn x=Z7
 room:Zh (k+2) X.A
 xe:X.xe=λ_ _=>False
 blt:UX ar X.mg
 dkc:∀C,Ws X.K C->WO X.K C/\Vr X.K C "kept"
 fm:UY X.w X.K X.mg
 dkn:∃C g,Ug X.K X.mg "Desk" "kept" C g/\Ws X.K C
 mts:∀m q,UD.lookup m=Z9 q->Qb X.prog X.w X.K X.mg X.base m (k+2) (XU X.K (cl q) 2)/\∀ds S d S',cl q ds S=.ok d S'->ds.length=2
 fns:∀x n,ar x=Z9 n->(∃ps,RC X.prog X.w X.K X.mg X.base x ps (k+2) (XU X.K (cl x) n))/\∀ds S d S',cl x ds S=.ok d S'->ds.length=n
section
variable {X:Cx}{sc:Sc}{ar:Str->yK}{cl:Str->yM->M D}{k:Nat}
theorem Yz.vis(h:Yz X sc ar cl k)(hv:sc.names.lookup x=Z9 .local∨sc.names.lookup x=Z9 .cell∨sc.names.lookup x=Z9 .free):OA X.env.scope x:=by
 rcases hv with q|q|q
 .exact .inl (h.loc x q)
 .exact .inr (.inl (h.cel x q))
 .exact .inr (h.fre x q)
def Kq(o:Option jR):Bool:=o == Z9 .local||o == Z9 .cell||o == Z9 .free
theorem nV(h:Kq o=Z7):o=Z9 .local∨o=Z9 .cell∨o=Z9 .free:=by
 unfold Kq at h
 grind
def To:yH->Str->Nat->yK
 |[],_,_=>Z8
 |y::r,x,i=>if y=x then Z9 i else To r x (i+1)
theorem Rf:∀{N:yH}{x:Str}{i j:Nat},To N x i=Z9 j->i<=j/\N[j - i]?=Z9 x
 |[],_,_,_,h=>by cases h
 |y::r,x,i,j,h=>by
  unfold To at h;split at h
  .simp_all
  .obtain⟨b,a⟩:=Rf h;refine⟨by lia,?_⟩;have e:j - i=(j - (i+1))+1:=by lia
   rw[e,qG9];exact a
def Ko(a:Sc)(ar:Str->yK)(x:Str):Option C:=match To a.N x 0 with
 |some i=>if Kq (a.names.lookup x)&&!(x == ("__debug__":Str))&&!(x == ("__classdict__":Str))then Z9 (ZY i)else Z8
 |none=>if a.names.lookup x=Z9 .globalImplicit/\ar x=Z8 then
   (if x=("int":Str)then Z9 (ZX (.ty "int"))else if x=("bool":Str)then Z9 (ZX (.ty "bool"))else if x=("tuple":Str)then Z9 (ZX (.ty "tuple"))
    else if x=("list":Str)then Z9 (ZX (.ty "list"))else if x=("str":Str)then Z9 (ZX (.ty "str"))
    else if Wm x then(NX.lookup x).map λz=>ZX (.str z)
    else Z8)
  else Z8
theorem nU(h:Yz X sc ar cl k)(e:Ko sc ar x=Z9 c):PE X (.Name x pos) (Zy X.K c):=by
 unfold Ko at e;split at e
 .rename_i i p;split at e
  .rename_i hv;cases e;simp only[qC1,qI7]at hv;obtain⟨⟨r,s⟩,m⟩:=hv;have:=(Rf p).2;exact qT (GI (by rw[h.N];exact this) (h.vis (nV r)) s m)
  .cases e
 .split at e
  .rename_i a;have g:=h.gl x a.1;have d:∀n b l f j,PE X (.Name x pos) (Zy X.K (ZX (.ty n))):=λn b l f j =>
    Rw (Ax (v:=.ty n) g j b rfl l f) λK H J=>by rfl
   split at e
   .rename_i q;subst q;cases e;exact d "int" FL (by decide) (by decide) (h.blt.b _ (by decide) a.2)
   .split at e
    .rename_i q;subst q;cases e;exact d "bool" ur (by decide) (by decide) (h.blt.b _ (by decide) a.2)
    .split at e
     .rename_i q;subst q;cases e;exact d "tuple" FN (by decide) (by decide) (h.blt.b _ (by decide) a.2)
     .split at e
      .rename_i q;subst q;cases e;exact d "list" Lo (by decide) (by decide) (h.blt.b _ (by decide) a.2)
      .split at e
       .rename_i q;subst q;cases e;exact d "str" FK (by decide) (by decide) (h.blt.b _ (by decide) a.2)
       .split at e
        .rename_i f;obtain⟨z,o,rfl⟩:=qA4.mp e;obtain⟨t,j⟩:=h.blt.t x z o;exact Rw (GH (v:=.str z) g j ⟨t,rfl⟩ f) λ_ _ _=>VL
        .cases e
  .cases e
def D7:Const->Option C
 |.none=>Z9 (ZX .non)
 |.bool b=>Z9 (ZX (.bl b))
 |.int i=>Z9 (ZX (.int i))
 |.str x=>Z9 (ZX (.str x))
 |_=>Z8
theorem nS(e:D7 v=Z9 c):PE X (.Constant v j pos) (Zy X.K c):=by
 cases v with
 |none=>cases e;exact Rw Az λ_ _ _=>Ua
 |bool b=>cases e;exact Rw AA λ_ _ _=>W7
 |int i=>cases e;exact Rw AB λ_ _ _=>XT
 |str x=>cases e;exact Rw Ay λ_ _ _=>VL
 |_=>cases e
def D6:dJ->Option (D->D->M D)
 |.Add=>Z9 ZI
 |.Sub=>Z9 (YR λi j=>i - j)
 |.Mult=>Z9 Xh
 |.Mod=>Z9 Xg
 |.FloorDiv=>Z9 VJ
 |.Pow=>Z9 VI
 |.LShift=>Z9 Wb
 |.RShift=>Z9 U3
 |.BitAnd=>Z9 (YR wF)
 |.BitOr=>Z9 (YR m6)
 |.BitXor=>Z9 (YR mI)
 |_=>Z8
theorem Kn(e:D6 op=Z9 o):YB X.K (Zi X (jJ op)) o:=by
 cases op with
 |Add=>cases e;exact qp
 |Sub=>cases e;exact qu
 |Mult=>cases e;exact qm
 |Mod=>cases e;exact ql
 |FloorDiv=>cases e;exact qk
 |Pow=>cases e;exact qj
 |LShift=>cases e;exact qi
 |RShift=>cases e;exact qh
 |BitAnd=>cases e;exact qt
 |BitOr=>cases e;exact qr
 |BitXor=>cases e;exact qq
 |_=>cases e
def Sh:fW->Option (D->D->M D)
 |.Eq=>Z9 Zl
 |.NotEq=>Z9 YG
 |.Lt=>Z9 WJ
 |.LtE=>Z9 (Y0 λi j=>decide (i<=j))
 |.Gt=>Z9 (Y0 λi j=>decide (j<i))
 |.GtE=>Z9 (Y0 λi j=>decide (j<=i))
 |.Is=>Z9 Tq
 |.IsNot=>Z9 Rv
 |.In=>Z9 YQ
 |.NotIn=>Z9 (YA Z7)
theorem TY(h:Zh k X.A)(e:Sh op=Z9 o):YB X.K (Zi X (yZ op)) o:=by
 have a:=h.units;have b:=h.units0;cases op with
 |Eq=>cases e;exact qb a
 |NotEq=>cases e;exact qa a
 |Lt=>cases e;exact qc b
 |LtE=>cases e;exact qf
 |Gt=>cases e;exact qe
 |GtE=>cases e;exact qd
 |Is=>cases e;exact p9
 |IsNot=>cases e;exact p8
 |In=>cases e;exact ot a
 |NotIn=>cases e;exact p0 a
def Xl:yY->Bool
 |.Starred _ _=>Z5
 |_=>Z7
theorem XZ{es:yE}(h:Xl a=Z7):y3 (a::es) env=(Z5,jW a env)::y3 es env:=by cases a<;>first|rfl|cases h
def zA1?(f:yY->Option C):yE->Option (List C)
 |[]=>Z9 []
 |e::a=>if Xl e then(f e).bind λc=>(zA1? f a).map (c::·)else Z8
def Xk(X:Cx)(f:yY->Option C):Prop:=∀e c,f e=Z9 c->PE X e (Zy X.K c)
variable {f:yY->Option C}
theorem UC(b:Xk X f):∀{es:yE}{cs:List C},zA1? f es=Z9 cs->PA X es (Yv X.K (ZS cs))/\(∀e∈es,Xl e=Z7)
 |[],cs,e=>by cases e;exact⟨Sx,by simp⟩
 |a::es,cs,e=>by
  unfold zA1? at e;split at e
  .rename_i i;obtain⟨c,h,e⟩:=qA3.mp e;obtain⟨d,g,e⟩:=qA4.mp e;subst e;obtain⟨j,l⟩:=UC b g;exact⟨Ub (b a c h) j (XZ i),λe m=>by
    grind⟩
  .cases e
theorem Km{es:yE}(h:∀e∈es,Xl e=Z7):(vB pos (y3 es env)).any (·.1)=Z5:=by
 induction es with
 |nil=>rfl
 |cons a es b =>
  rw[XZ (h a (by simp))];show(Z5||(vB pos (y3 es env)).any (·.1))=Z5;rw[b λe c=>h e (by simp[c])];rfl
def P8:yY->Bool
 |.Slice _ _ _ _=>Z7
 |_=>Z5
theorem nR(h:P8 b=Z5):LN b:=by cases b<;>first|(intro o i;rfl)| cases h
def zEY?(f:yY->Option C):Option yY->Option CO
 |none=>Z9 Vm
 |some e=>(f e).map Vl
theorem D5(g:Xk X f)(h:zEY? f e=Z9 c):PO X e (U4 X.K c):=by
 cases e with
 |none=>cases h;exact qy
 |some a =>
  obtain⟨i,d,b⟩:=qA4.mp h;subst b;exact qx (g a i d)
def Sf(f:yY->Option C)(a b:yY):Option C:=match b with
 |.Slice e i Z8 _=>(f a).bind λc=>(zEY? f e).bind λh=>(zEY? f i).map λg=>Vk W6 c h g
 |_=>if P8 b then Z8 else(f a).bind λc=>(f b).map λd=>ZW ZK c d
theorem nQ(h:Zh k X.A)(d:Xk X f)(e:Sf f a b=Z9 c):PE X (.Subscript a b pos) (Zy X.K c):=by
 unfold Sf at e;split at e
 .obtain⟨j,i,e⟩:=qA3.mp e;obtain⟨o,g,e⟩:=qA3.mp e;obtain⟨p,m,e⟩:=qA4.mp e;subst e;exact qw pX (d a j i) (D5 d g) (D5 d m)
 .split at e
  .cases e
  .rename_i n;obtain⟨j,i,e⟩:=qA3.mp e;obtain⟨l,g,e⟩:=qA4.mp e;subst e;exact qz (pY (F2 h)) (d a j i) (d b l g) (nR (by simpa using n))
def P7(f:yY->Option C)(a:yY)(e:List fW)(bs:yE):Option C:=match e,bs with
 |[op],[b]=>if fT op b then Z8 else(Sh op).bind λo=>(f a).bind λg=>(f b).map λd=>ZW o g d
 |[op,op'],[b,c]=>if fL [op,op'] [b,c]then Z8 else(Sh op).bind λo=>(Sh op').bind λi=>(f a).bind λg=>(f b).bind λd=>(f c).map λh=>VM o i g d h
 |_,_=>Z8
theorem nP(h:Zh k X.A)(d:Xk X f)(e:P7 f a g bs=Z9 c):PE X (.Compare a g bs pos) (Zy X.K c):=by
 unfold P7 at e;split at e
 .rename_i s b;split at e
  .cases e
  .rename_i m;obtain⟨o,i,e⟩:=qA3.mp e;obtain⟨n,q,e⟩:=qA3.mp e;obtain⟨l,j,e⟩:=qA4.mp e;subst e;exact qR (TY h i) (d a n q) (d b l j) (by simpa using m)
 .rename_i s t b c;split at e
  .cases e
  .rename_i m;obtain⟨o,i,e⟩:=qA3.mp e;obtain⟨v,p,e⟩:=qA3.mp e;obtain⟨n,q,e⟩:=qA3.mp e;obtain⟨l,j,e⟩:=qA3.mp e;obtain⟨u,r,e⟩:=qA4.mp e;subst e;exact qP (TY h i) (TY h p) (d a n q) (d b l j) (d c u r) (by simpa using m)
 .cases e
def Kl(f:yY->Option C)(a:yY)(ops:List fW)(bs:yE):Option CT:=match ops,bs with
 |[op,op',op2],[b,c,d]=>if fL [op,op',op2] [b,c,d]then Z8 else(Sh op).bind λo=>(Sh op').bind λh=>(Sh op2).bind λi=>(f a).bind λl=>(f b).bind λe=>(f c).bind λg=>(f d).map λj=>Qh o h i l e g j
 |ops,bs=>(P7 f a ops bs).map Zs
theorem nO(h:Zh k X.A)(i:Xk X f)(e:Kl f a r bs=Z9 c):PT X (.Compare a r bs pos) (YJ X.K c):=by
 unfold Kl at e;split at e
 .rename_i B z y b c d;split at e
  .cases e
  .rename_i p;obtain⟨o,l,e⟩:=qA3.mp e;obtain⟨x,j,e⟩:=qA3.mp e;obtain⟨E,v,e⟩:=qA3.mp e;obtain⟨q,g,e⟩:=qA3.mp e;obtain⟨n,m,e⟩:=qA3.mp e;obtain⟨s,t,e⟩:=qA3.mp e;obtain⟨A,w,e⟩:=qA4.mp e;subst e;exact qN (TY h l) (TY h j) (TY h v) (i a q g) (i b n m) (i c s t) (i d A w) (by simpa using p)
 .obtain⟨s,g,e⟩:=qA4.mp e;subst e;unfold P7 at g;split at g
  .split at g
   .cases g
   .rename_i p;obtain⟨o,l,e⟩:=qA3.mp g;obtain⟨q,u,e⟩:=qA3.mp e;obtain⟨n,m,e⟩:=qA4.mp e;subst e;exact qQ (TY h l) (i _ q u) (i _ n m) (by simpa using p)
  .split at g
   .cases g
   .rename_i p;obtain⟨o,l,e⟩:=qA3.mp g;obtain⟨x,j,e⟩:=qA3.mp e;obtain⟨q,u,e⟩:=qA3.mp e;obtain⟨n,m,e⟩:=qA3.mp e;obtain⟨s,t,e⟩:=qA4.mp e;subst e;exact qO (TY h l) (TY h j) (i _ q u) (i _ n m) (i _ s t) (by simpa using p)
  .cases g
def NW:yY->Bool
 |.Name _ _=>Z7
 |.Subscript _ _ _=>Z7
 |.Call _ (_::_) _ _=>Z7
 |.Constant (.str _) _ _=>Z7
 |_=>Z5
theorem D4(h:NW o=Z7):vS o c env (jW o env)=jW o env:=by
 cases o with
 |Call f b e d =>
  cases b with
  |nil=>cases h
  |cons a r=>cases f<;>rfl
 |Constant v j d=>cases v<;>first|rfl|cases h
 |_=>first|rfl|cases h
def D3(x:Str):Option (yM->M D):=if x=("str":Str)then Z9 Xp else Z8
def D2(x:Str):Option (yM->M D) :=
 if x=("dict":Str)then Z9 T3 else
 D3 x
def NV(x:Str):Option (yM->M D) :=
 if x=("len":Str)then Z9 Zv else
 if x=("isinstance":Str)then Z9 Yf else
 if x=("tuple":Str)then Z9 Xu else
 if x=("list":Str)then Z9 Qf else
 if x=("min":Str)then Z9 Wx else
 if x=("max":Str)then Z9 Xf else
 if x=("all":Str)then Z9 (Xz λbs=>bs.all id)else
 if x=("any":Str)then Z9 (Xz λbs=>bs.any id)else
 if x=("int":Str)then Z9 Xs else
 if x=("sorted":Str)then Z9 Xe else
 D2 x
def DZ:yY->Option (yE)
 |.Call (.Name x _) as [] _=>if x=("range":Str)then Z9 as else Z8
 |_=>Z8
def WE:yM->M D:=λa S=>match a with
 |[.int j]=>if -4611686018427387904<=j/\j<4611686018427387904/\j<=1000 then .ok (.lst S.length) (S++[.lst (YT 0 j.toNat)])else .bad
 |[.int i,.int j]=>if -4611686018427387904<=i/\i<4611686018427387904/\-4611686018427387904<=j/\j<4611686018427387904/\j - i<=1000 then .ok (.lst S.length) (S++[.lst (YT i (j - i).toNat)])else .bad
 |_=>.bad
def Kk(c:Sc)(ar:Str->yK)(cl:Str->yM->M D)(f:yY->Option C)(x:Str)(es:yE):Option C :=
 if c.names.lookup x=Z9 .globalImplicit then
  match ar x with
  |some n=>if es.length=n/\es≠[]/\Wm x then(zA1? f es).map λa=>ZT (cl x) (ZS a)else Z8
  |none=>match es with
   |[e] =>
    match DZ e with
    |some b=>if x=("list":Str)/\ar "range"=Z8/\c.names.lookup ("range":Str)=Z9 .globalImplicit/\(b.length=1∨b.length=2)then(zA1? f b).map λa=>ZT WE (ZS a)else Z8
    |none=>(NV x).bind λo=>(zA1? f es).map λa=>ZT o (ZS a)
   |_::_=>(NV x).bind λo=>(zA1? f es).map λa=>ZT o (ZS a)
   |[]=>Z8
 else Z8
theorem nM{K:yQ}(lo:Int)(n:Nat):RVs K H J (YT lo n) (RD lo n):=by
 unfold YT RD;generalize List.range n=l
 induction l with
 |nil=>exact .nil
 |cons a r b=>exact .cons XT b
set_option maxHeartbeats 2000000 in
theorem DY(h:Yz X sc ar cl k)(v:sc.names.lookup x=Z9 .globalImplicit)(c:ar x=Z8)(b:NV x=Z9 o){es:yE}(n:PA X (e::es) (Yv X.K (ZS cs)))(t:∀a∈e::es,Xl a=Z7):PE X (.Call (.Name x p) (e::es) [] pos) (Zy X.K (ZT o (ZS cs))):=by
 have g:=h.gl x v;have s:=XZ (es:=es) (env:=X.env) (t e (by simp));have u:(vB pos (y3 es X.env)).any (·.1)=Z5:=Km λa n=>t a (by simp[n]);unfold NV at b;have i:∀(id:String) (m:jA x=Z9 (.builtin id)) (l:X.mg x=Z8) (d:x ≠ "__name__") (j:Wm x) (o:yM->M D),WK X.K (Yu X (.builtin id)) o->PE X (.Call (.Name x p) (e::es) [] pos) (Zy X.K (ZT o (ZS cs))):=λid m l d j o r =>
  (Gf Qi g l m n d j s u).weak (KL r)
 have T:∀(id:String) (m:jA x=Z9 (.type id)) (l:X.mg x=Z8) (d:x ≠ "__name__") (j:Wm x) (o:yM->M D),WK X.K (Yu X (.type id)) o->PE X (.Call (.Name x p) (e::es) [] pos) (Zy X.K (ZT o (ZS cs))):=λid m l d j o r =>
  (LR Qi g l m n d j s u).weak (KL r)
 split at b
 .rename_i q;subst q;cases b;exact i "len" uT (h.blt.b _ (by decide) c) (by decide) (by decide) _ pW
 split at b
 .rename_i q;subst q;cases b;exact i "isinstance" uw (h.blt.b _ (by decide) c) (by decide) (by decide) _ pQ
 split at b
 .rename_i q;subst q;cases b;exact T "tuple" FN (h.blt.b _ (by decide) c) (by decide) (by decide) _ pT
 split at b
 .rename_i q;subst q;cases b;exact T "list" Lo (h.blt.b _ (by decide) c) (by decide) (by decide) _ (pN h.calm)
 split at b
 .rename_i q;subst q;cases b;exact i "min" uy (h.blt.b _ (by decide) c) (by decide) (by decide) _ (pV h.calm)
 split at b
 .rename_i q;subst q;cases b;exact i "max" ux (h.blt.b _ (by decide) c) (by decide) (by decide) _ (pU h.calm)
 split at b
 .rename_i q;subst q;cases b;exact i "all" uv (h.blt.b _ (by decide) c) (by decide) (by decide) _ (pP h.calm)
 split at b
 .rename_i q;subst q;cases b;exact i "any" uu (h.blt.b _ (by decide) c) (by decide) (by decide) _ (pO h.calm)
 split at b
 .rename_i q;subst q;cases b;exact T "int" FL (h.blt.b _ (by decide) c) (by decide) (by decide) _ pS
 split at b
 .rename_i q;subst q;cases b;exact i "sorted" (by decide) (h.blt.b _ (by decide) c) (by decide) (by decide) _ (Ey h.calm h.room.units)
 unfold D2 at b;split at b
 .rename_i q;subst q;cases b;exact T "dict" (by decide) (h.blt.b _ (by decide) c) (by decide) (by decide) _ (oh h.calm)
 unfold D3 at b;split at b
 .rename_i q;subst q;cases b;exact T "str" FK (h.blt.b _ (by decide) c) (by decide) (by decide) _ oK
 .cases b
theorem nL(h:Yz X sc ar cl k)(hx:sc.names.lookup ("list":Str)=Z9 .globalImplicit)(W:ar "list"=Z8)(U:sc.names.lookup ("range":Str)=Z9 .globalImplicit)(G:ar "range"=Z8)(E:PA X g (Yv X.K (ZS cs)))(K:∀a∈g,Xl a=Z7)(s:g.length=1∨g.length=2):
  PE X (.Call (.Name "list" p) [.Call (.Name "range" I) g [] b] [] pos) (Zy X.K (ZT WE (ZS cs))):=by
 have T:=h.gl _ hx;have g2:=h.gl _ U;have R:PE X (.Call (.Name "range" I) g [] b) (Ox (Yu X (.type "range")) (Yv X.K (ZS cs))):=by
  cases g with
  |nil=>simp at s
  |cons e es=>exact LR Qi g2 (h.blt.b _ (by decide) G) uz E (by decide) (by decide) (XZ (K e (by simp))) (Km λa E=>K a (by simp[E]))
 have L:=LR (p:=p) (pos:=pos) (Qi) T (h.blt.b _ (by decide) W) Lo (Gn R Gp rfl) (by decide) (by decide) rfl rfl;refine L.weak ?_;rintro Z H Q ⟨J,B,S,d,S',sr,re,e,y⟩;obtain⟨xs,t,e1,e⟩:=Zd e;refine⟨J,B,S,xs,t,sr,re,e1,λvs w O F x N=>?_⟩;have o:=y.shift x;have n:∀(i j),-4611686018427387904<=i->i<4611686018427387904->-4611686018427387904<=j->j<4611686018427387904->j - i<=1000->Xt X.K O w (.lst t.length) (t++[.lst (YT i (j - i).toNat)]) Q->∀q,w q=Z8->Yu X (.type "list") [.ref q] (ZF w q (.rng i j)) Q:=by intro i j b1 b2 Y V b5 o q m;obtain⟨A,z⟩:=F.other m;exact⟨_,vd h.calm,q,i,j,rfl,Yx,b1,b2,Y,V,by lia,λl s=>(o.shift z).newL A s (nM _ _)⟩
 unfold WE at e;split at e
 .rename_i j;split at e
  .rename_i c;cases e;obtain⟨v,rfl,r⟩:=N.one;subst r;refine⟨_,vf,j,rfl,λq m=>?_⟩;have:=n 0 j (by decide) (by decide) c.1 c.2.1 (by lia) (by rw[Int.sub_zero];exact o) q m;exact this
  .cases e
 .rename_i i j;split at e
  .rename_i c;cases e;obtain⟨v,u,rfl,r,P⟩:=N.two;subst r P;exact⟨_,vg,i,j,rfl,λq m=>n i j c.1 c.2.1 c.2.2.1 c.2.2.2.1 c.2.2.2.2 o q m⟩
  .cases e
 .cases e
theorem nJ(h:Yz X sc ar cl k)(r:Xk X f)(e:Kk sc ar cl f x es=Z9 c):PE X (.Call (.Name x p) es [] pos) (Zy X.K c):=by
 unfold Kk at e;split at e
 .rename_i s;split at e
  .rename_i n l;split at e
   .rename_i y;obtain⟨A,u,E⟩:=y;obtain⟨v,i,e⟩:=qA4.mp e;subst e;obtain⟨g,d⟩:=UC r i;obtain⟨⟨J,G⟩,m⟩:=h.fns x n l;cases es with
    |nil=>exact absurd rfl u
    |cons a es =>
     exact(uV G h.room (h.gl x s) g (qA6 _) E (XZ (d a (by simp))) (Km λb H=>d b (by simp[H]))).weak (qv m)
   .cases e
  .rename_i l;split at e
   .rename_i a;split at e
    .rename_i I j;split at e
     .rename_i y;obtain⟨rfl,w,F,A⟩:=y;obtain⟨v,i,e⟩:=qA4.mp e;subst e;obtain⟨g,d⟩:=UC r i;unfold DZ at j;split at j
      .rename_i K L B z;split at j
       .rename_i q;subst q;cases j;exact nL h s l F w g d A
       .cases j
      .cases j
     .cases e
    .obtain⟨o,t,e⟩:=qA3.mp e;obtain⟨v,i,e⟩:=qA4.mp e;subst e;obtain⟨g,d⟩:=UC r i;exact DY h s l t g d
   .obtain⟨o,t,e⟩:=qA3.mp e;obtain⟨v,i,e⟩:=qA4.mp e;subst e;obtain⟨g,d⟩:=UC r i;exact DY h s l t g d
   .cases e
 .cases e
end
section
variable {X:Cx}{sc:Sc}{ar:Str->yK}{cl:Str->yM->M D}{k:Nat}{f:yY->Option C}
def DX(m:Str)(a:C):Option C :=
 Z8
def DW(m:Str)(b a:C):Option C :=
 if m=("append":Str)then Z9 (Xy "list" (VZ UE) b (ZS [a]))else
 if m=("extend":Str)then Z9 (Xy "list" Sq b (ZS [a]))else
 if m=("pop":Str)then Z9 (Xy "list" (VZ Kt) b (ZS [a]))else
 if m=("join":Str)then Z9 (Xy "str" VE b (ZS [a]))else
 if m=("find":Str)then Z9 (Xy "str" Qc b (ZS [a]))else
 if m=("split":Str)then Z9 (Xy "str" U0 b (ZS [a]))else
 if m=("startswith":Str)then Z9 (Xy "str" Ri b (ZS [a]))else
 if m=("update":Str)then Z9 (Xy "dict" Sn b (ZS [a]))else
 Z8
def DV(m:Str)(c a b:C):Option C :=
 if m=("insert":Str)then Z9 (Xy "list" (VZ Rq) c (ZS [a,b]))else
 if m=("split":Str)then Z9 (Xy "str" Rh c (ZS [a,b]))else
 Z8
def Kj(f:yY->Option C)(o:yY)(m:Str)(es:yE)(d c:Pos):Option C :=
 if NW o&&(d.endLine == c.line)then(f o).bind λe=>match es with
  |[]=>DX m e
  |[a]=>if Xl a then(f a).bind λg=>DW m e g else Z8
  |[a,b]=>if Xl a&&Xl b then(f a).bind λg=>(f b).bind λh=>DV m e g h else Z8
  |_=>Z8
 else Z8
theorem nI(I:Zh k X.A)(l:Xk X f)(e:Kj f o m es v i=Z9 c):PE X (.Call (.Attribute o m v) es [] i) (Zy X.K c):=by
 unfold Kj at e;split at e
 .rename_i F;rw[qC1]at F;obtain⟨H,r⟩:=F;obtain⟨s,p,g⟩:=qA3.mp e;clear e;have t:∀u,vS o u X.env (jW o X.env)=jW o X.env:=λu=>D4 H;split at g
  .unfold DX at g;cases g
  .rename_i a;split at g
   .rename_i w;obtain⟨y,A,h⟩:=qA3.mp g;clear g;have j:=XZ (es:=[]) (env:=X.env) w;have n:PA X [a] (Yv X.K (ZS [y])):=Ub (l a y A) Sx j;have d:((vB i (y3 [a] X.env)).all (λx=>!x.1)&&(wH i (j8 [] X.env)).all (λx=>x.1.isSome)
     && decide ([a].length+([]:List wA).length+(if([]:List wA).isEmpty then 0 else 1)<30))=Z7:=by rw[j];rfl
    unfold DW at h;split at h
    .rename_i q;subst q;cases h;exact UF vZ PySem.F.slot_list_append PySem.F.type_list_append pL (l o s p) n (t _) d r j rfl
    split at h
    .rename_i q;subst q;cases h;exact UF vZ lA PySem.F.type_list_extend pJ (l o s p) n (t _) d r j rfl
    split at h
    .rename_i q;subst q;cases h;exact UF vZ PySem.F.slot_list_pop PySem.F.type_list_pop oG (l o s p) n (t _) d r j rfl
    split at h
    .rename_i q;subst q;cases h;exact UF vH PySem.F.slot_str_join PySem.F.type_str_join oJ (l o s p) n (t _) d r j rfl
    split at h
    .rename_i q;subst q;cases h;exact UF vH mF PySem.F.type_str_find oI (l o s p) n (t _) d r j rfl
    split at h
    .rename_i q;subst q;cases h;exact UF vH jO lV oH (l o s p) n (t _) d r j rfl
    split at h
    .rename_i q;subst q;cases h;exact UF vH gF PySem.F.type_str_startswith oq (l o s p) n (t _) d r j rfl
    split at h
    .rename_i q;subst q;cases h;exact UF lJ lE PySem.F.type_dict_update pH (l o s p) n (t _) d r j rfl
    cases h
   .cases g
  .rename_i a b;split at g
   .rename_i w;rw[qC1]at w;obtain⟨y,A,B⟩:=qA3.mp g;obtain⟨E,G,h⟩:=qA3.mp B;clear g B;have z:=XZ (es:=[]) (env:=X.env) w.2;have j:=XZ (es:=[b]) (env:=X.env) w.1;have n:PA X [a,b] (Yv X.K (ZS [y,E])):=Ub (l a y A) (Ub (l b E G) Sx z) j;have d:((vB i (y3 [a,b] X.env)).all (λx=>!x.1)&&(wH i (j8 [] X.env)).all (λx=>x.1.isSome)
     && decide ([a,b].length+([]:List wA).length+(if([]:List wA).isEmpty then 0 else 1)<30))=Z7:=by rw[j,z];rfl
    unfold DV at h;split at h
    .rename_i q;subst q;cases h;exact UF vZ PySem.F.slot_list_insert PySem.F.type_list_insert pK (l o s p) n (t _) d r j (by rw[z];rfl)
    split at h
    .rename_i q;subst q;cases h;exact UF vH jO lV om (l o s p) n (t _) d r j (by rw[z];rfl)
    cases h
   .cases g
  .cases g
 .cases e
def Ki(f:yY->Option C):yE->Option C
 |e1::b::c=>(zA1? f (e1::b::c)).map λa=>VY a Str.empty
 |_=>Z8
theorem DU(b:Xk X f):∀{es:yE}{cs:List C},zA1? f es=Z9 cs->Ry X es (cs.map (Zy X.K))
 |[],cs,e=>by cases e;exact .nil
 |a::es,cs,e=>by
  unfold zA1? at e;split at e
  .obtain⟨c,h,e⟩:=qA3.mp e;obtain⟨d,g,rfl⟩:=qA4.mp e;exact .cons (b a c h) (DU b g)
  .cases e
theorem nH(b:Xk X f)(e:Ki f es=Z9 c):PE X (.JoinedStr es pos) (Zy X.K c):=by
 unfold Ki at e;split at e
 .obtain⟨d,a,rfl⟩:=qA4.mp e;exact(rA (DU b a)).weak (Ed _ _)
 .cases e
def NU:C:=λ_ S=>.ok (.dct S.length) (S++[.dk []])
theorem nG:PE X (.Dict [] [] pos) (Zy X.K NU):=FX.weak (by
 rintro Z H Q ⟨J,B,S,d,h,a,i,e,y⟩;cases e;intro p g;obtain⟨c,b⟩:=a.push (o':=.dk []) g ⟨[],Yx,YN.nil⟩;exact y _ _ _ c b (⟨p,rfl,by rw[<- a.len,qA2 (qA6 _),qD8];rfl⟩))
def NT(a b:C):C:=fun B=>Zc (a B) λx=>Zc (b B) λy S=>match WY x with
 |some k=>.ok (.dct S.length) (S++[.dk [(k,y)]])
 |none=>.bad
theorem nF(ha:PE X a (Zy X.K ca))(s:PE X b (Zy X.K T)):PE X (.Dict [Z9 a] [b] pos) (Zy X.K (NT ca T)):=(vq (vt ha s vu) rfl rfl (by simp) (by simp)).weak (by
 rintro Z H Q ⟨J,B,S,d,S',sr,Y,e,y⟩;obtain⟨x,R,e1,f1⟩:=Zd e;obtain⟨z,S2,e2,E⟩:=Zd f1;split at E
 .rename_i g hk;cases E;intro p I;obtain⟨s1,K⟩:=sr.other I;refine⟨J,B,S,x,R,s1,Y.up K,e1,λv H1 J1 L i r1=>⟨J1,B,R,z,S2,L,(Y.up K).up i,e2,λu t G c l r2=>?_⟩⟩;have O:=sr.out I;have W:ZF H p (.dK []) p=Z9 (.dK []):=Yx;have V:=i.fr p _ O W;have n1:=i.notIn O W;have P:=l.fr p _ n1 V;have n2:=l.notIn n1 V;have ev:=Ru hk r1;subst ev;refine⟨P,[(g,u)],rfl,by simp,?_⟩;have N:TF X.K t (ZF t p (.dK [(g,u)])):=Ts P (λ_ z=>by cases z) (λ_ _ z=>by cases z);have r:=i.trans l c.nd;have h:=K.trans r c.nd;have A:SR X.K (G++[p]) (S2++[.dk [(g,z)]]) (ZF t p (.dK [(g,u)])):=by
   refine⟨by simp[c.len],?_,λn a w j m=>?_⟩
   .rw[qF7];refine⟨c.nd,by simp,λa ha b s=>?_⟩
    grind
   .by_cases U:n<G.length
    .rw[qA8 U]at j;rw[qA8 (by rw[<- c.len];exact U)]at m;exact(c.obj n a w j m).up N ⟨[p],rfl⟩ (Y2 λz=>n2 (z▸qC2 j))
    .rw[qA2 (by lia)]at j;rw[qA2 (by rw[<- c.len];lia)]at m;have h1:=by have:=(qA5.mp j).1;simp at this;omega
     rw[h1]at j;rw[<- c.len,h1]at m;simp at j m;subst j m;exact⟨[(g,u)],Yx,YN.cons (RV.up N ⟨[p],rfl⟩ _ _ r2) .nil⟩
  have F:ZC X.K J (G++[p]) H (ZF t p (.dK [(g,u)])):=by
   obtain⟨ν,e4,n⟩:=h.pre;refine⟨⟨ν++[p],by rw[e4,qD1],λb s=>?_⟩,λb o s q=>by rw[Y2 (Vb q I)];exact h.fr b o s q,h.tk.trans N⟩
   grind
  exact y _ _ _ A F (⟨p,rfl,by rw[<- c.len,qA2 (qA6 _),qD8];rfl⟩)
 .cases E)
def Kh(f:yY->Option C)(ks:List (Option yY))(vs:yE):Option C:=match ks,vs with
 |[],[]=>Z9 NU
 |[Z9 a],[b]=>(f a).bind λd=>(f b).map λc=>NT d c
 |_,_=>Z8
theorem nD(a:Xk X f)(e:Kh f ks vs=Z9 c):PE X (.Dict ks vs pos) (Zy X.K c):=by
 unfold Kh at e;split at e
 .cases e;exact nG
 .obtain⟨h,d,e⟩:=qA3.mp e;obtain⟨g,b,e⟩:=qA4.mp e;subst e;exact nF (a _ _ d) (a _ _ b)
 .cases e
def Kg(op:BoolOp)(f:yY->Option C):yE->Option C
 |[]=>Z8
 |[a]=>f a
 |a::b::r=>(f a).bind λd=>(Kg op f (b::r)).map λc=>match op with
  |.And=>Sy d c
  |.Or=>Ud d c
theorem Kf(d:Xk X f):∀{vs:yE}{c:C},Kg op f vs=Z9 c->PE X (.BoolOp op vs pos) (Zy X.K c)
 |[],c,e=>by cases e
 |[a],c,e=>An (d a c e)
 |a::b::r,c,e=>by
  obtain⟨i,h,e⟩:=qA3.mp e;obtain⟨j,g,e⟩:=qA4.mp e;subst e;cases op with
  |And=>exact qL (d a i h) (Kf d g)
  |Or=>exact qK (d a i h) (Kf d g)
def P6(X:Cx)(t:yY->Option CT):Prop:=∀e c,t e=Z9 c->PT X e (YJ X.K c)
variable {t:yY->Option CT}
def Ke(op:BoolOp)(t:yY->Option CT):yE->Option CT
 |[]=>Z8
 |[a]=>t a
 |a::b::r=>(t a).bind λd=>(Ke op t (b::r)).map λc=>match op with
  |.And=>Uc d c
  |.Or=>YO d c
theorem Kd(d:P6 X t):∀{vs:yE}{c:CT},Ke op t vs=Z9 c->PW X (.BoolOp op vs pos) (YJ X.K c)
 |[],c,e=>by cases e
 |[a],c,e=>by
  cases op with
  |And=>exact Av (d a c e)
  |Or=>exact Au (d a c e)
 |a::b::r,c,e=>by
  obtain⟨i,h,e⟩:=qA3.mp e;obtain⟨j,g,e⟩:=qA4.mp e;subst e;cases op with
  |And=>exact qH (d a i h) (Kd d g)
  |Or=>exact qG (d a i h) (Kd d g)
def W5:yY->Bool
 |.Tuple _ _ _=>Z7
 |_=>Z5
def Se:yY->Bool
 |.Set _ _ _=>Z7
 |_=>Z5
theorem Kc(h:Se iter=Z5):∀x,wE iter env x=pure x:=by cases iter<;>first|(intro x;rfl)| cases h
def DT(o:Option (List C))(es:yE):Option CI:=o.bind λa=>match es with
 |[_]=>Z9 (T7 (ZS a))
 |[_,_]=>Z9 (N2 (ZS a))
 |_=>Z8
def Kb(t:Bool)(o:Option (List C))(es:yE):Option CI:=if t=Z7 then o.bind λa=>match es with
  |[_,_]=>Z9 (Sj (ZS a))
  |[_,_,_]=>Z9 (N0 (ZS a))
  |_=>Z8
 else Z8
def Ka(t:Bool)(o:Option (List C))(es:yE):Option CI:=if t=Z7 then o.bind λa=>match es with
  |[_]=>Z9 (Rj (ZS a))
  |_=>Z8
 else Z8
def J7:yY->Bool
 |.Name x _=>x == "word"
 |.Call (.Attribute _ m _) _ _ _=>m == "say"
 |_=>Z5
def Re(b:Sc)(ar:Str->yK)(f:yY->Option C)(a iter:yY):Option CI:=if Se iter then Z8 else match iter with
 |.Call (.Name x _) es [] _=>if b.names.lookup x=Z9 .globalImplicit/\ar x=Z8 then
   (if x=("range":Str)then DT (zA1? f es) es else
    if x=("zip":Str)then Kb (W5 a) (zA1? f es) es else
    if x=("enumerate":Str)then Ka (W5 a) (zA1? f es) es else
    (f iter).map Za)
  else(f iter).map Za
 |_=>if J7 iter then(f iter).map Xo else(f iter).map Za
theorem nC(i:Xk X f)(g:Gl X "range")(d:X.mg "range"=Z8)(e:DT (zA1? f es) es=Z9 c):PI X h (.Call (.Name "range" p) es [] pos) (Yj X.K c):=by
 obtain⟨l,j,e2⟩:=qA3.mp e;clear e;obtain⟨h1,h2⟩:=UC i j
 match es,h1,h2,e2 with
 |[a],h1,h2,e2 =>
  cases e2;exact oX (zJ g d h1 (by rw[XZ (h2 a (by simp))];rfl))
 |[a,b],h1,h2,e2 =>
  cases e2;exact oW (zI g d h1 (by rw[XZ (h2 a (by simp)),XZ (h2 b (by simp))];rfl) (by rw[XZ (h2 b (by simp))];rfl))
 |[],h1,h2,e2=>cases e2
 |_::_::_::_,h1,h2,e2=>cases e2
theorem P5(h:W5 a=Z7):∃es k pos,a=.Tuple es k pos:=by cases a<;>first|exact⟨_,_,_,rfl⟩| cases h
theorem nB(j:Xk X f)(g:Gl X "zip")(i:X.mg "zip"=Z8)(e:Kb (W5 h) (zA1? f es) es=Z9 c):PI X h (.Call (.Name "zip" p) es [] pos) (Yj X.K c):=by
 unfold Kb at e;by_cases d:W5 h=Z7
 .rw[if_pos d]at e;obtain⟨n,m,pt,rfl⟩:=P5 d;obtain⟨o,l,e2⟩:=qA3.mp e;clear e d;obtain⟨h1,h2⟩:=UC j l
  match es,h1,h2,e2 with
  |[a,b],h1,h2,e2 =>
   cases e2;exact oU (tT g i h1 (by rw[XZ (h2 a (by simp)),XZ (h2 b (by simp))];rfl) (by rw[XZ (h2 b (by simp))];rfl))
  |[a,b,c],h1,h2,e2 =>
   cases e2;exact oR (tw g i h1 (by rw[XZ (h2 a (by simp)),XZ (h2 b (by simp)),XZ (h2 c (by simp))];rfl) (by rw[XZ (h2 b (by simp)),XZ (h2 c (by simp))];rfl))
  |_::_::_::_::_,h1,h2,e2=>cases e2
  |[],h1,h2,e2=>cases e2
  |[_],h1,h2,e2=>cases e2
 .rw[if_neg d]at e;cases e
theorem nz(i:Xk X f)(g:Gl X "enumerate")(h:X.mg "enumerate"=Z8)(e:Ka (W5 b) (zA1? f es) es=Z9 c):PI X b (.Call (.Name "enumerate" p) es [] pos) (Yj X.K c):=by
 unfold Ka at e;by_cases d:W5 b=Z7
 .rw[if_pos d]at e;obtain⟨m,l,pt,rfl⟩:=P5 d;obtain⟨n,j,e2⟩:=qA3.mp e;clear e d;obtain⟨h1,h2⟩:=UC i j
  match es,h1,h2,e2 with
  |[a],h1,h2,e2 =>
   cases e2;exact oO (ub g h h1 (by rw[XZ (h2 a (by simp))];rfl))
  |[],h1,h2,e2=>cases e2
  |_::_::_,h1,h2,e2=>cases e2
 .simp_all
theorem J4(h:Yz X sc ar cl k)(a:Xk X f)(e:Re sc ar f i iter=Z9 c):PI X i iter (Yj X.K c)/\Se iter=Z5:=by
 unfold Re at e;split at e
 .cases e
 rename_i b;refine⟨?_,by simpa using b⟩;have dflt:∀{c},(f iter).map Za=Z9 c->PI X i iter (Yj X.K c):=λe=>by obtain⟨m,j,e⟩:=qA4.mp e;subst e;exact oY (a _ _ j)
 split at e
 .rename_i x p n l;split at e
  .rename_i d;have g:=h.gl x d.1;split at e
   .rename_i q;subst q;exact nC a g (h.blt.b _ (by decide) d.2) e
   split at e
   .rename_i q;subst q;exact nB a g (h.blt.b _ (by decide) d.2) e
   split at e
   .rename_i q;subst q;exact nz a g (h.blt.b _ (by decide) d.2) e
   exact dflt e
  .exact dflt e
 .split at e
  .obtain⟨m,j,e⟩:=qA4.mp e;subst e;exact oB (a _ _ j)
  .exact dflt e
def P4:yE->Option (yH)
 |[]=>Z9 []
 |.Name x _::r=>(P4 r).map (x::·)
 |_::_=>Z8
def NS:yY->Option (WH×yH)
 |.Name x _=>Z9 (.one,[x])
 |.Tuple b _ _=>(P4 b).map λa=>(.many a.length,a)
 |_=>Z8
def Wr(ns:List (Str×jR)):yH:=(ns.filter λy=>y.2 == .free).map (·.1)
def slots(N:yH):yH->Option (List Nat)
 |[]=>Z9 []
 |x::r=>(To N x 0).bind λj=>(slots N r).map (j::·)
def JZ(xs:yH)(scope:vK):Sc:=⟨xs++Wr scope.names,scope.names,Z8⟩
def compOk(a:Sc)(xs:yH)(scope:vK):Bool :=
 decide (scope.kind=.function)&&scope.names.all (λy=>y.2 != .cell||scope.names.lookup y.1 == Z9 .cell)&&scope.names.all (λy=>y.2 != .local||scope.names.lookup y.1 == Z9 .local)
 && decide ((xs++Wr scope.names).Nodup)&&xs.all (λx=>scope.names.lookup x == Z9 .local||scope.names.lookup x == Z9 .cell)&&decide (1<=xs.length)
 && (Wr scope.names).all (λx=>(a.names.lookup x == Z9 .cell||a.names.lookup x == Z9 .free)&&scope.names.lookup x == Z9 .free)
def Rc(b:Sc)(g:Option CI)(i:Sc->yY->Option C)(l:Sc->yY->Option CT)(j elt:yY)(a:yE)(scope:vK):Option C :=
 (NS j).bind λp=>if compOk b p.2 scope then(slots b.N (Wr scope.names)).bind λd=>g.bind λe=>(i (JZ p.2 scope) elt).bind λc=>match a with
  |[]=>Z9 (X8 e p.2.length d p.1 (λ_=>ret Z7) c)
  |[q]=>(l (JZ p.2 scope) q).map λh=>X8 e p.2.length d p.1 h c
  |_=>Z8
 else Z8
theorem DS:∀{xs:yH}{js:List Nat},slots N xs=Z9 js->js.length=xs.length/\∀(i j:Nat),js[i]?=Z9 j->∃x,xs[i]?=Z9 x/\N[j]?=Z9 x
 |[],js,e=>by cases e;exact⟨rfl,λi j h=>by simp at h⟩
 |x::r,js,e=>by
  obtain⟨g,c,e⟩:=qA3.mp e;obtain⟨a,b,e⟩:=qA4.mp e;subst e;obtain⟨d,l⟩:=DS b;refine⟨by simp[d],λi j h=>?_⟩;cases i with
  |zero=>simp at h;subst h;exact⟨x,rfl,(Rf c).2⟩
  |succ i =>
   simp_all
theorem NR{env:Env}:∀{a:List (Str×jR)}{x:Str}{k:jR},k≠.free->a.lookup x=Z9 k ->
  (a.map fun(n,k)=>if(k == NameKind.free&&env.scope.kind == .function&&env.kindOf n == Z9 .cell)then(n,NameKind.cell)else(n,k)).lookup x=Z9 k
 |[],_,_,_,h=>by simp at h
 |(n,k')::r,x,k,nf,h=>by
  have c:=@NR env r x k nf;cases b:x == n with
  |true =>
   simp_all
  |false =>
   grind
theorem ny{ns:List (Str×jR)}{k:jR}(h:ns.lookup x=Z9 k):(x,k)∈ns:=Lw h
theorem Yz.comp(h:Yz X sc ar cl k)(c:compOk sc xs scope=Z7)(b:List (Str×yR))(s:yS)(H:Hp)(C:yR)(ex:yC):Yz (WN X scope (xs++Wr scope.names) b s H C ex) (JZ xs scope) ar cl k:=by
 unfold compOk at c;simp only[qC1,decide_eq_true_eq]at c;obtain⟨⟨⟨⟨⟨⟨g,m⟩,j⟩,d⟩,e⟩,i⟩,l⟩:=c;exact{
  calm:=h.calm
  N:=rfl
  nd:=d
  gl:=λx a=>NR (by decide) a
  loc:=λx a=>NR (by decide) a
  cel:=λx a=>NR (by decide) a
  fre:=λx a=>FS a
  fnn:=λz=>by cases z
  room:=h.room
  xe:=rfl
  blt:=h.blt
  dkc:=h.dkc
  fm:=h.fm
  dkn:=h.dkn
  mts:=h.mts
  fns:=h.fns }
theorem NQ:∀{es:yE}{xs:yH},P4 es=Z9 xs->es.length=xs.length/\∀(i:Nat) (e:yY),es[i]?=Z9 e->∃x pos,e=.Name x pos/\xs[i]?=Z9 x
 |[],xs,h=>by cases h;exact⟨rfl,λi e h=>by simp at h⟩
 |a::r,xs,h=>by
  cases a with
  |Name x pos =>
   obtain⟨g,c,e⟩:=qA4.mp h;subst e;obtain⟨d,j⟩:=NQ c;refine⟨by simp[d],λi e b=>?_⟩;cases i with
   |zero=>simp at b;subst b;exact⟨x,pos,rfl,rfl⟩
   |succ i =>
    simp_all
  |_=>cases h
theorem nv{es:yE}:jI (.Name x pos::es) env=(Z5,gJ (.Name x pos) env)::jI es env:=rfl
theorem DR:∀{es:yE}{s:Nat},(∀(i:Nat) (e:yY),es[i]?=Z9 e->∃x pos,e=.Name x pos/\X.N[s+i]?=Z9 x/\RK X.env.scope x/\(X.fn x=Z7∨X.env.scope.names.lookup x=Z9 .local))->X.N.Nodup->V4 X es (NZ s es.length)
 |[],s,h,nd=>GE
 |a::r,s,h,nd=>by obtain⟨x,pos,rfl,c,b,g⟩:=h 0 a rfl;refine GD (Oz nd (by simpa using c) b g) (DR (λi e m=>?_) nd) rfl;obtain⟨y,p,l,j,d⟩:=h (i+1) e (by exact m);exact⟨y,p,l,by rw[show s+1+i=s+(i+1) by lia];exact j,d⟩
theorem DQ:∀{es:yE}{xs:yH},P4 es=Z9 xs->(jI es env).length=xs.length/\(jI es env).findIdx? (·.1)=Z8
 |[],xs,h=>by cases h;exact⟨rfl,rfl⟩
 |a::r,xs,h=>by
  cases a with
  |Name x d =>
   obtain⟨i,c,e⟩:=qA4.mp h;subst e;obtain⟨g,b⟩:=DQ (env:=env) c;rw[nv];exact⟨by simp[g],by rw[qP3];simp[b]⟩
  |_=>cases h
theorem nu{t:WH}(e:NS b=Z9 (t,xs)):VF t=xs.length:=by
 cases b with
 |Name x a=>cases e;rfl
 |Tuple g n a =>
  obtain⟨c,d,e⟩:=qA4.mp e;cases e;rfl
 |_=>cases e
theorem DP(h:Yz b a ar cl k)(g:a.names.lookup x=Z9 .local∨a.names.lookup x=Z9 .cell/\b.fn x=Z7):RK b.env.scope x/\(b.fn x=Z7∨b.env.scope.names.lookup x=Z9 .local):=by
 rcases g with g|⟨g,f⟩
 .exact⟨.inl (h.loc x g),.inr (h.loc x g)⟩
 .exact⟨.inr (h.cel x g),.inl f⟩
theorem nq(h:Yz c a ar cl k){t:WH}(e:NS l=Z9 (t,xs))(p:∀(i:Nat) (x:Str),xs[i]?=Z9 x->a.N[i]?=Z9 x/\(a.names.lookup x=Z9 .local∨a.names.lookup x=Z9 .cell/\c.fn x=Z7)):PG c l (tOfT' c.K t)/\VF t=xs.length:=by
 have q:c.N.Nodup:=by rw[h.N];exact h.nd
 cases l with
 |Name x b =>
  cases e;obtain⟨d,j⟩:=p 0 x rfl;obtain⟨m,o⟩:=DP h j;exact⟨Oz q (by rw[h.N];exact d) m o,rfl⟩
 |Tuple A n b =>
  obtain⟨z,r,e⟩:=qA4.mp e;cases e;obtain⟨y,u⟩:=DQ r;obtain⟨w,s⟩:=NQ r;refine⟨?_,rfl⟩;have:=DR (λi e v=>by
   obtain⟨x,b,rfl,g⟩:=s i e v;obtain⟨d,j⟩:=p i x g;obtain⟨m,o⟩:=DP h j;exact⟨x,b,rfl,by rw[h.N,Nat.zero_add];exact d,m,o⟩) q
  rw[w]at this;exact GC h.calm this y u
 |_=>cases e
theorem DO(h:Yz X sc ar cl k)(d:compOk sc xs scope=Z7)(u:slots sc.N (Wr scope.names)=Z9 js):RF X scope (xs++Wr scope.names) xs.length js:=by
 obtain⟨v,w⟩:=DS u;unfold compOk at d;simp only[qC1,decide_eq_true_eq]at d;obtain⟨⟨⟨⟨⟨⟨p,y⟩,r⟩,A⟩,B⟩,z⟩,n⟩:=d;have b:=λx a=>by
  have c:x∈Wr scope.names:=by unfold Wr;rw[qC8];exact⟨(x,.free),by rw[qF1];exact⟨a,by simp⟩,rfl⟩
  have:=qD0.mp n x c;simpa using this
 refine⟨h.calm,p,λx a=>?_,λx a=>?_,λx a l=>?_,?_,λi j m=>?_⟩
 .have:=qD0.mp y _ a
  grind
 .rcases(b x a).1 with q|q
  .exact .inl (h.cel x q)
  .exact h.fre x q
 .have:=qD0.mp r x a
  simp_all
 .rw[qB5,v]
 .obtain⟨x,e,s⟩:=w i j m;have c:(x,NameKind.free)∈scope.names:=by
   have:=qC2 e;unfold Wr at this
   simp_all
  obtain⟨g,o⟩:=b x c;refine⟨x,?_,by rw[h.N];exact s,o,h.vis (.inr g)⟩;rw[qA2 (by lia),qJ9];exact e
theorem DN(h:Yz X sc ar cl k){t:WH}(b:compOk sc xs scope=Z7)(e:NS d=Z9 (t,xs))(a:List (Str×yR))(s:yS)(H:Hp)(C:yR)(ex:yC):PG (WN X scope (xs++Wr scope.names) a s H C ex) d (tOfT' X.K t) :=
 (nq (h.comp b a s H C ex) e λi x c=>by
  unfold compOk at b;simp only[qC1]at b;have g:=b.1.1.2;have j:=(qA5.mp c).1;refine⟨?_,?_⟩
  .show(xs++Wr scope.names)[i]?=Z9 x;rw[qA8 j];exact c
  .have:=qD0.mp g x (qC2 c);rw[qI2,beq_iff_eq,beq_iff_eq]at this;rcases this with z|z
   .exact .inl z
   .exact .inr ⟨z,decide_eq_true (ny z)⟩).1
inductive nj(X:Cx)(sc:Sc)(tg iter elt:yY)(ifs:yE)(scope:vK)(c:C):Prop
 |mk (t:WH) (xs:yH) (js:List Nat) (ci:CI) (ct:CT) (ce:C) (BB:RF X scope (xs++Wr scope.names) xs.length js) (hi:PI X tg iter (Yj X.K ci)) (hs:Se iter=Z5)
  (hg:∀cl' s H C ex,PG (WN X scope (xs++Wr scope.names) cl' s H C ex) tg (tOfT' X.K t)) (hT:∀cl' s H C ex,SN (WN X scope (xs++Wr scope.names) cl' s H C ex) ifs (YJ X.K ct))
  (hE:∀cl' s H C ex,PE (WN X scope (xs++Wr scope.names) cl' s H C ex) elt (Zy X.K ce)) (ht:VF t<=xs.length) (h1:1<=xs.length) (hc:c=X8 ci xs.length js t ct ce)
theorem DM(h:Yz X sc ar cl k){O:Sc->yY->Option C}(e:Rc sc A O U w elt i scope=Z9 c)
  (hi:∀l,A=Z9 l->PI X w iter (Yj X.K l)/\Se iter=Z5) (u:∀n a,Yz n a ar cl k->Xk n (O a)) (v:∀n a,Yz n a ar cl k->P6 n (U a)):nj X sc w iter elt i scope c:=by
 obtain⟨⟨t,o⟩,p,e⟩:=qA3.mp e;dsimp only at e;by_cases g:compOk sc o scope=Z7
 .rw[if_pos g]at e;obtain⟨K,W,L⟩:=qA3.mp e;obtain⟨l,Y,V⟩:=qA3.mp L;obtain⟨x,e3,z⟩:=qA3.mp V;clear e L V;obtain⟨P,R⟩:=hi l Y;have E:=by have j:=g;unfold compOk at j;simp only[qC1,decide_eq_true_eq]at j;exact j.1.2
  have G:=λb s H C ex=>u _ _ (h.comp g b s H C ex) elt x e3;have N:VF t<=o.length:=by rw[nu p];exact qA6 _
  cases i with
  |nil =>
   cases z;exact⟨t,o,K,l,_,x,DO h g W,P,R,DN h g p,λb s H C ex m s' Z F Q I ⟨J,B,S,d,S',sr,re,e,y⟩=>vl m s' Z F Q I (by obtain⟨rfl,rfl⟩:=Yl e;exact y F J sr (ZC.refl _ _ _)),G,N,E,rfl⟩
  |cons q r =>
   cases r with
   |nil =>
    obtain⟨T,e4,u4⟩:=qA4.mp z;exact⟨t,o,K,l,T,x,DO h g W,P,R,DN h g p,λb s H C ex=>vk (v _ _ (h.comp g b s H C ex) q T e4),G,N,E,u4.symm⟩
   |cons _ _=>cases z
 .simp_all
theorem ni(h:Yz X sc ar cl k)(e:Rc sc m n o j elt d scope=Z9 c)
  (hi:∀l,m=Z9 l->PI X j iter (Yj X.K l)/\Se iter=Z5) (g:∀b a,Yz b a ar cl k->Xk b (n a)) (i:∀b a,Yz b a ar cl k->P6 b (o a)):PE X (.ListComp elt [⟨j,iter,d,0⟩] scope pos) (Zy X.K c):=by obtain⟨t,B,z,l,A,E,x,s,u,w,y,p,r,v,rfl⟩:=DM h e hi g i;exact(vh x s w y p (Kc u)).weak fun Z H Q q=>Eg r v q
theorem nh(h:Yz X sc ar cl k){d:yE}(n:PG X (.Name o pos') go)(m:wW (.ListComp elt [⟨i,iter,d,0⟩] scope pos) (Z9 (.Name o pos')) b.line X.env=pure Z7)(e:Rc sc r s u i elt d scope=Z9 c)
  (hi:∀p,r=Z9 p->PI X i iter (Yj X.K p)/\Se iter=Z5) (j:∀g a,Yz g a ar cl k->Xk g (s a)) (l:∀g a,Yz g a ar cl k->P6 g (u a)):PS X (.Assign [.Name o pos'] (.ListComp elt [⟨i,iter,d,0⟩] scope pos) b) (U8 (Zy X.K c) go):=by obtain⟨t,I,F,p,G,J,B,x,z,A,E,v,w,y,rfl⟩:=DM h e hi j l;exact(tS n m B x A E v (Kc z)).weak λD Z H q=>Eg w y q
end
def P0(w:y8)(K:yQ)(a:Str->yF):Prop:=(∀C,Ws K C->WO K C/\Vr K C "kept")/\(∃C g,Ug K a "Desk" "kept" C g/\Ws K C)/\UY w K a
section
variable {X:Cx}{sc:Sc}{ar:Str->yK}{cl:Str->yM->M D}{k:Nat}{f:yY->Option C}
theorem ng(h:Xl a=Z7):gO ([a].length+([]:List wA).length) (vB pos (y3 [a] env)) (wH pos (j8 [] env))=Z7:=by unfold gO;rw[XZ (es:=[]) h];rfl
def JY(cl:Str->yM->M D)(f:yY->Option C)(o:yY)(m:Str)(es:yE)(c b:Pos):Option C:=match o,es with
 |.Name y yp,[a]=>if Xl a&&(c.endLine == b.line)then(UD.lookup m).bind λq=>(f (.Name y yp)).bind λd=>(f a).map λe=>Zn (cl q) d (ZS [e])else Z8
 |_,_=>Z8
theorem nc(h:Yz X sc ar cl k)(g:Xk X f)(e:JY cl f o m es b a=Z9 c):PE X (.Call (.Attribute o m b) es [] a) (Zy X.K c):=by
 unfold JY at e;split at e
 .split at e
  .rename_i d;rw[qC1]at d;obtain⟨q,n,e⟩:=qA3.mp e;obtain⟨p,j,e⟩:=qA3.mp e;obtain⟨r,i,e⟩:=qA4.mp e;subst e;obtain⟨M,l⟩:=h.mts _ _ n;exact ou M h.room (qA6 _) l (g _ _ j) (Ub (g _ _ i) Sx (XZ d.1)) (XZ d.1) rfl (ng d.1) d.2
  .cases e
 .cases e
theorem mz(h:Yz X sc ar cl k)(a:sc.names.lookup ("Desk":Str)=Z9 .globalImplicit):PE X (.Call (.Name "Desk" p) [] [] pos) (Zy X.K Tp):=by obtain⟨C,g,c,b⟩:=h.dkn;exact oz (rg c (h.room.mono (by lia)) (h.gl _ a) LF (by decide)) b
end
def DK(d:Sc)(f:yY->Option C)(o:yY)(m:Str)(es:yE)(c b:Pos):Option C:=match o,es with
 |.Name y _,[a]=>if y = "FORMS"/\m = "get"/\d.names.lookup ("FORMS":Str)=Z9 .globalImplicit/\Xl a=Z7/\(c.endLine == b.line)=Z7 then(f a).map λe=>ZT Rg (ZS [e])else Z8
 |_,_=>Z8
def JX(d:Sc)(cl:Str->yM->M D)(f:yY->Option C)(o:yY)(m:Str)(es:yE)(b a:Pos):Option C:=match DK d f o m es b a with
 |some c=>Z9 c
 |none=>match JY cl f o m es b a with
  |some c=>Z9 c
  |none=>Kj f o m es b a
section
variable {X:Cx}{sc:Sc}{ar:Str->yK}{cl:Str->yM->M D}{k:Nat}{f:yY->Option C}
theorem JW(h:Yz X sc ar cl k)(g:Xk X f)(e:JX sc cl f o m es d b=Z9 c):PE X (.Call (.Attribute o m d) es [] b) (Zy X.K c):=by
 unfold JX at e;split at e
 .rename_i a;cases e;unfold DK at a;split at a
  .split at a
   .rename_i q;obtain⟨rfl,rfl,n,l,j⟩:=q;obtain⟨r,p,a⟩:=qA4.mp a;subst a;have i:=XZ (es:=[]) (env:=X.env) l;exact nW h.fm (h.gl _ n) (g _ _ p) i (by rw[i];rfl) j
   .cases a
  .cases a
 .split at e
  .rename_i a;cases e;exact nc h g a
  .exact nI h.room g e
def DJ(a:Sc)(x:Str)(es:yE):Bool:=x == "Desk"&&es.isEmpty&&a.names.lookup ("Desk":Str) == Z9 .globalImplicit
def DI(a:Sc)(ar:Str->yK)(x:Str):yE->Option yY
 |[.Attribute o fl p]=>if x=("sorted":Str)/\fl=("kept":Str)/\a.names.lookup ("sorted":Str)=Z9 .globalImplicit/\ar "sorted"=Z8 then Z9 (.Attribute o fl p)else Z8
 |_=>Z8
def JV(ar:Str->yK)(cl:Str->yM->M D)(f:yY->Option C)(b:Sc)(x:Str)(es:yE):Option C:=if DJ b x es then Z9 Tp else match DI b ar x es with
 |some a=>(f a).map λc=>ZT T1 (ZS [c])
 |none=>Kk b ar cl f x es
theorem JU(h:Yz X sc ar cl k)(i:Xk X f)(e:JV ar cl f sc x es=Z9 c):PE X (.Call (.Name x p) es [] pos) (Zy X.K c):=by
 unfold JV at e;split at e
 .rename_i d;cases e;unfold DJ at d;simp only[qC1,beq_iff_eq,List.isEmpty_iff]at d;obtain⟨⟨rfl,rfl⟩,n⟩:=d;exact mz h n
 .split at e
  .rename_i a b;unfold DI at b;split at b
   .split at b
    .rename_i u j s r;obtain⟨rfl,rfl,m,l⟩:=r;cases b;obtain⟨t,q,e⟩:=qA4.mp e;subst e;have g:=λo p=>XZ (a:=.Attribute o ("kept") p) (es:=[]) (env:=X.env) rfl;exact(Gf Qi (h.gl _ m) (h.blt.b _ (by decide) l) (by decide) (Ub (i _ _ q) Sx (g _ _)) (by decide) (by decide) (g _ _) rfl).weak (KL (nZ h.calm h.room.units))
    .cases b
   .cases b
  .exact nJ h i e
end
section
variable (ar:Str->yK) (cl:Str->yM->M D)
mutual
noncomputable def cE:Nat->Sc->yY->Option C
 |0,_,_=>Z8
 |n+1,sc,e=>match e with
  |.Constant v _ _=>D7 v
  |.Name x _=>Ko sc ar x
  |.BinOp a i b _=>(D6 i).bind λo=>(cE n sc a).bind λc=>(cE n sc b).map λp=>ZW o c p
  |.UnaryOp i a _=>match i with
   |.USub=>(cE n sc a).map λc=>Vn VH c
   |.Not=>(cE n sc a).map λc=>Oa c
   |_=>Z8
  |.BoolOp i q _=>Kg i (cE n sc) q
  |.IfExp t a b _=>(cT n sc t).bind λz=>(cE n sc a).bind λc=>(cE n sc b).map λp=>UG z c p
  |.Compare a r bs _=>P7 (cE n sc) a r bs
  |.Tuple d _ _=>(zA1? (cE n sc) d).bind λk=>if k.length<=1000 then Z9 (Y6 (ZS k))else Z8
  |.List d _=>(zA1? (cE n sc) d).bind λk=>if k.length<=1000 then Z9 (YZ (ZS k))else Z8
  |.Subscript a b _=>Sf (cE n sc) a b
  |.FormattedValue a v s _=>if v=-1/\s=Z8 then(cE n sc a).map YD else Z8
  |.JoinedStr d _=>Ki (cE n sc) d
  |.Dict ks q _=>Kh (cE n sc) ks q
  |.Attribute a w _=>if w = "kept"/\NW a=Z7 then(cE n sc a).map λc=>Vn UZ c else Z8
  |.Call y d u g=>match u with
   |[]=>match y with
    |.Name x _=>JV ar cl (cE n sc) sc x d
    |.Attribute o m h=>JX sc cl (cE n sc) o m d h g
    |_=>Z8
   |_::_=>Z8
  |.ListComp l j f _=>match j with
   |[⟨tg,iter,ifs,ia⟩]=>if ia=0 then Rc sc (Re sc ar (cE n sc) tg iter) (cE n) (cT n) tg l ifs f else Z8
   |_=>Z8
  |_=>Z8
noncomputable def cT:Nat->Sc->yY->Option CT
 |0,_,_=>Z8
 |n+1,sc,e=>match e with
  |.UnaryOp c a _=>match c with
   |.Not=>(cT n sc a).map λf=>XA f
   |_=>(cE n sc e).map Zb
  |.BoolOp c d _=>Ke c (cT n sc) d
  |.IfExp _ _ _ _=>Z8
  |.Compare a b bs _=>Kl (cE n sc) a b bs
  |_=>(cE n sc e).map Zb
end
end
section
variable {X:Cx}{sc:Sc}{ar:Str->yK}{cl:Str->yM->M D}{k:Nat}
theorem Rb:∀n:Nat,(∀X i,Yz X i ar cl k->Xk X (cE ar cl n i))/\(∀X i,Yz X i ar cl k->P6 X (cT ar cl n i))
 |0=>⟨λX i h e c q=>(by cases q),λX i h e c q=>(by cases q)⟩
 |n+1=>by
  obtain⟨B,z⟩:=Rb n;refine⟨λX i h e c q=>?_,λX i h e c q=>?_⟩
  .have f:=B X i h;have F:=z X i h;cases e with
   |Constant v j d=>exact nS q
   |Name x d=>exact nU h q
   |BinOp a C b d =>
    obtain⟨o,G,u⟩:=qA3.mp q;obtain⟨w,l,r⟩:=qA3.mp u;obtain⟨cb,I,J⟩:=qA4.mp r;subst J;exact qS (Kn G) (f _ _ l) (f _ _ I)
   |UnaryOp C a d =>
    cases C with
    |USub =>
     obtain⟨w,l,r⟩:=qA4.mp q;subst r;exact qM qg (f _ _ l)
    |Not =>
     obtain⟨w,l,r⟩:=qA4.mp q;subst r;exact qJ (f _ _ l)
    |_=>cases q
   |BoolOp C U d=>exact Kf f q
   |IfExp t a b d =>
    obtain⟨ct,G,u⟩:=qA3.mp q;obtain⟨w,l,r⟩:=qA3.mp u;obtain⟨cb,I,J⟩:=qA4.mp r;subst J;exact qI (F _ _ G) (f _ _ l) (f _ _ I)
   |Compare a Q bs d=>exact nP h.room f q
   |Tuple O j d =>
    obtain⟨cs,l,u⟩:=qA3.mp q;split at u
    .rename_i L;cases u;exact qB (UC f l).1 L
    .cases u
   |List O d =>
    obtain⟨cs,l,u⟩:=qA3.mp q;split at u
    .rename_i L;cases u;exact qA (UC f l).1 L
    .cases u
   |Subscript a b d=>exact nQ h.room f q
   |FormattedValue a v W d =>
    change (if v=-1/\W=Z8 then(cE ar cl n i a).map YD else Z8)=Z9 c at q;split at q
    .rename_i R;obtain⟨rfl,rfl⟩:=R;obtain⟨w,l,r⟩:=qA4.mp q;subst r;exact oF (f _ _ l)
    .cases q
   |JoinedStr O d=>exact nH f q
   |Dict ks U d=>exact nD f q
   |Attribute a fl d =>
    change (if fl = "kept"/\NW a=Z7 then(cE ar cl n i a).map λw=>Vn UZ w else Z8)=Z9 c at q;split at q
    .rename_i R;obtain⟨rfl,hr⟩:=R;obtain⟨w,l,r⟩:=qA4.mp q;subst r;exact oy (f _ _ l) (D4 hr) h.dkc
    .cases q
   |Call fn O Y S =>
    cases Y with
    |cons _ _=>cases q
    |nil =>
     cases fn with
     |Name x p=>exact JU h f q
     |Attribute o m T=>exact JW h f q
     |_=>cases q
   |ListComp H E A d =>
    cases E with
    |nil=>cases q
    |cons g gs =>
     obtain⟨V,iter,P,Z⟩:=g;cases gs with
     |cons _ _=>cases q
     |nil =>
      change (if Z=0 then Rc i (Re i ar (cE ar cl n i) V iter) (cE ar cl n) (cT ar cl n) V H P A else Z8)=Z9 c at q;split at q
      .rename_i hz;subst hz;exact ni h q (λci e=>J4 h f e) (λN y K=>B N y K) (λN y K=>z N y K)
      .cases q
   |_=>cases q
  .have f:=B X i h;have F:=z X i h;have dflt:∀{c:CT},(cE ar cl n i e).map Zb=Z9 c->(∀s,uB e X.env s=(do let v <- s;gU e.pos;wJ [v] (truthy v)))->PT X e (YJ X.K c):=λ{c} q he=>by obtain⟨w,l,r⟩:=qA4.mp q;subst r;exact qD (f _ _ l) he
   cases e with
   |UnaryOp C a d =>
    cases C with
    |Not =>
     obtain⟨w,l,r⟩:=qA4.mp q;subst r;exact qF (F _ _ l)
    |USub=>exact dflt q λ_=>rfl
    |UAdd=>exact dflt q λ_=>rfl
    |Invert=>exact dflt q λ_=>rfl
   |BoolOp C U d=>exact(Kd F q).pt
   |IfExp t a b d=>cases q
   |Compare a Q bs d=>exact nO h.room f q
   |_=>exact dflt q λ_=>rfl
section
variable (ar:Str->yK) (cl:Str->yM->M D)
def DH(a:Sc)(x:Str):Option G:=(To a.N x 0).bind λi=>if a.names.lookup x=Z9 .local∨(a.fn.isSome=Z7/\a.names.lookup x=Z9 .cell)then Z9 (gN i)else Z8
mutual
noncomputable def cG:Nat->Sc->yY->Option G
 |0,_,_=>Z8
 |n+1,sc,e=>match e with
  |.Name x _=>DH sc x
  |.Subscript a b _=>match b with
   |_=>if P8 b then Z8 else(cE ar cl n sc a).bind λg=>(cE ar cl n sc b).map λd=>gS g d
  |.Tuple f _ _=>(cGs n sc f).map λc=>gT c
  |_=>Z8
noncomputable def cGs:Nat->Sc->yE->Option (List G)
 |0,_,_=>Z8
 |n+1,sc,es=>match es with
  |[]=>Z9 []
  |e::r=>if Xl e then(cG n sc e).bind λg=>(cGs n sc r).map λa=>g::a else Z8
end
end
theorem Yz.nd'(h:Yz X sc ar cl k):X.N.Nodup:=by rw[h.N];exact h.nd
theorem PZ(h:Yz X sc ar cl k)(e:DH sc x=Z9 g):∃i,g=gN i/\X.N[i]?=Z9 x/\RK X.env.scope x/\(X.fn x=Z7∨X.env.scope.names.lookup x=Z9 .local):=by
 obtain⟨i,d,a⟩:=qA3.mp e;split at a
 .rename_i f;cases a;refine⟨i,rfl,by rw[h.N];exact(Rf d).2,?_⟩;rcases f with q|⟨b,c⟩
  .exact⟨.inl (h.loc x q),.inr (h.loc x q)⟩
  .exact⟨.inr (h.cel x c),.inl (h.fnn b x)⟩
 .cases a
theorem my(h:P8 b=Z5):∀v,gJ (.Subscript a b pos) env v=(do
   let ov <- wJ [v] (jW a env)
   let iv <- wJ [v,ov] (jW b env)
   gU pos
   wJ [v,ov,iv] (uR ov iv v)
   release [v,ov,iv] []):=by cases b<;>first|(intro v;rfl)| cases h
theorem JT{es:yE}(h:Xl e=Z7):jI (e::es) env=(Z5,gJ e env)::jI es env:=by cases e<;>first|rfl|cases h
theorem DG:∀n:Nat,(∀X d,Yz X d ar cl k->∀e g,cG ar cl n d e=Z9 g->PG X e (Wu X.K g))/\(∀X d,Yz X d ar cl k->∀es f,cGs ar cl n d es=Z9 f->V4 X es (Qe X.K f)/\(jI es X.env).length=f.length/\(jI es X.env).findIdx? (·.1)=Z8)
 |0=>⟨λX d h e c q=>(by cases q),λX d h e c q=>(by cases q)⟩
 |n+1=>by
  obtain⟨D,m⟩:=DG n;refine⟨λX d h e g q=>?_,λX d h es f q=>?_⟩
  .cases e with
   |Name x u =>
    obtain⟨i,rfl,p,s,l⟩:=PZ h q;exact ph (Oz h.nd' p s l)
   |Subscript a b u =>
    change (if P8 b then Z8 else(cE ar cl n d a).bind λC=>(cE ar cl n d b).map λB=>gS C B)=_ at q;split at q
    .cases q
    .rename_i y;obtain⟨C,t,o⟩:=qA3.mp q;obtain⟨B,v,w⟩:=qA4.mp o;subst w;exact pe (F2 h.room) ((Rb n).1 X d h _ _ t) ((Rb n).1 X d h _ _ v) (my (by simpa using y))
   |Tuple es j u =>
    obtain⟨f,t,o⟩:=qA4.mp q;subst o;obtain⟨p,s,l⟩:=m X d h es f t;exact pa h.calm p s l
   |_=>cases q
  .cases es with
   |nil=>cases q;exact⟨pd,rfl,rfl⟩
   |cons e r =>
    change (if Xl e=Z7 then(cG ar cl n d e).bind λg=>(cGs ar cl n d r).map λf=>g::f else Z8)=_ at q;split at q
    .rename_i y;obtain⟨g,t,o⟩:=qA3.mp q;obtain⟨z,v,w⟩:=qA4.mp o;subst w;obtain⟨p,s,l⟩:=m X d h r z v;have A:=JT (es:=r) (env:=X.env) y;refine⟨pb (D X d h e g t) p (by rw[A];rfl),by rw[A];simp[s],by rw[A,qP3];simp[l]⟩
    .cases q
def PY:yY->Bool
 |.ListComp _ _ _ _=>Z7
 |.SetComp _ _ _ _=>Z7
 |.DictComp _ _ _ _ _=>Z7
 |_=>Z5
theorem DE(h:PY e=Z5):wW e t n env=pure Z5:=by cases e<;>first|rfl|cases h
def JS:yY->yY->Bool
 |.Name _ _,.ListComp _ _ _ _=>Z5
 |.Tuple _ _ _,.ListComp _ _ _ _=>Z5
 |_,e=>PY e
theorem mw(h:Yz X sc ar cl k):∀{n:Nat}{elt:yY}{gens:List dD}{scope:vK}{pos pos' a:Pos}{x:Str}{c:C}{i:Nat} (q:cE ar cl n sc (.ListComp elt gens scope pos)=Z9 c) (j:PG X (.Name x pos') (SY i))
  (d:wW (.ListComp elt gens scope pos) (Z9 (.Name x pos')) a.line X.env=pure Z7),PS X (.Assign [.Name x pos'] (.ListComp elt gens scope pos) a) (U8 (Zy X.K c) (SY i))
 |0,_,_,_,_,_,_,_,_,_,q,_,_=>by cases q
 |n+1,elt,gens,scope,pos,pos',a,x,c,i,q,j,d=>by
  obtain⟨f,o⟩:=Rb (ar:=ar) (cl:=cl) (k:=k) n;cases gens with
  |nil=>cases q
  |cons g t =>
   obtain⟨r,iter,p,s⟩:=g;cases t with
   |cons _ _=>cases q
   |nil =>
    change (if s=0 then Rc sc (Re sc ar (cE ar cl n sc) r iter) (cE ar cl n) (cT ar cl n) r elt p scope else Z8)=Z9 c at q;split at q
    .rename_i u;subst u;exact nh h j d q (λv e=>J4 h (f X sc h) e) (λm b l=>f m b l) (λm b l=>o m b l)
    .cases q
theorem mu:∃b:Bool,wW (.ListComp elt gens scope pos) (Z9 (.Name x pos')) line env=pure b:=⟨_,rfl⟩
inductive CB(tg e:yY):Prop
 |no (h:∀n env,wW e (Z9 tg) n env=pure Z5)
 |yes (x:Str) (pos':Pos) (elt:yY) (gens:List dD) (scope:vK) (pos:Pos) (h1:tg=.Name x pos') (h2:e=.ListComp elt gens scope pos)
theorem CB.of(h:PY e=Z5):CB a e:=.no λ_ _=>DE h
theorem mr(h:JS g e=Z5):CB g e:=by
 cases g with
 |Name x d =>
  cases e with
  |ListComp f b a c=>exact .yes x d f b a c rfl rfl
  |_=>exact .of h
 |Tuple i k c =>
  cases e with
  |ListComp f b a c=>exact .no λ_ _=>rfl
  |_=>exact .of h
 |_=>exact .of h
def NP:yY->Bool
 |.List _ _=>Z7
 |_=>Z5
theorem DD(h:(W5 a&&W5 e)=Z5)(c:NP a=Z5):jX [a] e env=pure Z8:=by
 cases a with
 |Tuple d n b=>cases e<;>first|rfl|cases h
 |List d b=>cases c
 |_=>rfl
def DC:yY->yE
 |.Tuple a _ _=>a
 |_=>[]
def two?{c:Type}:List c->Option (c×c)
 |[a,b]=>Z9 (a,b)
 |_=>Z8
def Ra(a:Sc):yY->Bool
 |.Tuple [.Name x _,.Name y _] _ _=>a.names.lookup x == Z9 .cell||a.names.lookup y == Z9 .cell
 |.Tuple [.Subscript _ _ _,.Subscript _ _ _] _ _=>Z7
 |_=>Z5
theorem mq(h:Ra sc e=Z7):(∃x f y g k pos,e=.Tuple [.Name x f,.Name y g] k pos/\(sc.names.lookup x=Z9 .cell∨sc.names.lookup y=Z9 .cell))∨∃a b p c d q k pos,e=.Tuple [.Subscript a b p,.Subscript c d q] k pos:=by
 unfold Ra at h;split at h
 .rename_i x f y g k pos;simp only[qI2,beq_iff_eq]at h;exact .inl ⟨x,f,y,g,k,pos,rfl,h⟩
 .exact .inr ⟨_,_,_,_,_,_,_,_,rfl⟩
 .cases h
theorem mn{vs:yE}:jX [.Tuple [.Subscript a b p,.Subscript c d q] k pos] (.Tuple vs k2 e) env=pure Z8:=by
 unfold jX;simp only[pure_bind];split
 .rfl
 .split
  .rfl
  .rw[if_pos];rfl
theorem mj{vs:yE}(h:env.scope.names.lookup x=Z9 .cell∨env.scope.names.lookup y=Z9 .cell):jX [.Tuple [.Name x b,.Name y c] k pos] (.Tuple vs k2 a) env=pure Z8:=by
 have f:(([Expr.Name x b,Expr.Name y c].filterMap λe=>match e with
  |.Name id p=>if(env.kindOf id == Z9 NameKind.local&&p.line == (([Expr.Name x b,Expr.Name y c].head?.map (·.pos.line)).getD 0))=Z7 then Z9 id else Z8
  | _=>Z8).length != 2)=Z7:=by
  have g:env.kindOf x=env.scope.names.lookup x:=rfl;have i:env.kindOf y=env.scope.names.lookup y:=rfl;have d:(Z9 NameKind.cell == Z9 NameKind.local)=Z5:=by decide
  rcases h with h|h
  .simp only[qF8,qM3,g,h,d,qO4,qI1,if_false];split<;>rfl
  .simp only[qF8,qM3,i,h,d,qO4,qI1,if_false];split<;>rfl
 unfold jX;simp only[pure_bind];split
 .rfl
 .split
  .rfl
  .rw[if_pos];rw[qI2];exact .inl f
theorem DB(h:Yz X sc ar cl k)(f:(W5 a&&W5 e&&!Ra sc a)=Z5)(c:NP a=Z5):jX [a] e X.env=pure Z8:=by
 cases g:Ra sc a with
 |false =>
  rw[g]at f;exact DD (by simpa using f) c
 |true =>
  cases d:W5 e with
  |false=>exact DD (by rw[d];simp) c
  |true =>
   obtain⟨m,k2,i,rfl⟩:=P5 d;rcases mq g with⟨x,l,y,n,kk,j,rfl,b⟩| ⟨_,_,_,_,_,_,_,_,rfl⟩
   .exact mj (b.imp (h.cel x) (h.cel y))
   .exact mn
theorem JR:∀{l:List a}{p:a×a},two? l=Z9 p->l=[p.1,p.2]
 |[_,_],_,h=>by cases h;rfl
def NO(a:Sc)(t v:yY×yY)(n:Str×Str):Option (Nat×Nat×yY×yY) :=
 if n.1≠n.2/\a.names.lookup n.1=Z9 .local/\a.names.lookup n.2=Z9 .local/\t.1.pos.line=t.2.pos.line/\Xl v.1=Z7/\Xl v.2=Z7/\([v.1,v.2].all (foldedForSure 8))=Z5/\([v.1,v.2].all (constantsAlone 8))=Z5 then
  (To a.N n.1 0).bind λi=>(To a.N n.2 0).map λj=>(i,j,v.1,v.2)
 else Z8
def JQ(b:Sc)(t v:yY×yY):Option (Nat×Nat×yY×yY):=(P4 [t.1,t.2]).bind λa=>(two? a).bind (NO b t v)
def PX(b:Sc)(a e:yY):Option (Nat×Nat×yY×yY):=if W5 a=Z7/\W5 e=Z7 then
  (two? (DC a)).bind λt=>(two? (DC e)).bind (JQ b t)
 else Z8
theorem mh(hk:env.scope.kind=.function)(e:x≠y)(n:env.scope.names.lookup x=Z9 .local)(p:env.scope.names.lookup y=Z9 .local)(i:px.line=d.line)(u:Xl a=Z7)(s:Xl b=Z7)
  (r:([a,b].all (foldedForSure 8))=Z5) (t:([a,b].all (constantsAlone 8))=Z5):jX [.Tuple [.Name x px,.Name y d] g pt] (.Tuple [a,b] k2 c) env=pure (Z9 [x,y]):=by
 have v:env.blockKind=.function:=by unfold Env.blockKind;rw[hk];rfl
 have h:env.kindOf x=Z9 .local:=n;have k2:env.kindOf y=Z9 .local:=p;have q:(Expr.Name x px).pos=px:=rfl;have b1:(Z9 NameKind.local == Z9 NameKind.local)=Z7:=by decide
 have o:(d.line == px.line)=Z7:=by rw[i];exact beq_self_eq_true _
 have m:(px.line == px.line)=Z7:=beq_self_eq_true _;have j:[x,y].eraseDups.length=2:=by simp[List.eraseDups_cons,Ne.symm e]
 unfold jX;simp only[qB8,qH2,v];rw[show(!((0+1+1 == 2)||(0+1+1 == 3))||(0+1+1 != 0+1+1)||(ScopeKind.function != ScopeKind.function))=Z5 from rfl];simp only[qI1,if_false];rw[if_neg (λz=>by
  obtain⟨w,f,l⟩:=qR1.mp z;have k:Xl w=Z7:=by
   simp only[qC0,qE0,or_false]at f;rcases f with rfl|rfl
   .exact u
   .exact s
  cases w<;>first|exact absurd l qB0|exact absurd k qB0)]
 simp only[qF8,qM3,List.head?_cons,qN9,Option.getD_some,h,k2,q,b1,o,m,Bool.and_self,if_true,j,r,t];rfl
def Sd:Nat:=100000
def mf:Option CS->Option CS
 |some c=>Z9 c
 |none=>Z9 YF
section
variable (ar:Str->yK) (cl:Str->yM->M D)
mutual
noncomputable def JP:Nat->Sc->vO->Option CS
 |0,_,_=>Z8
 |n+1,sc,s=>match s with
  |.Return v _=>match v with
   |none=>Z9 Ku
   |some e=>(cE ar cl n sc e).map λc=>ZM c
  |.Expr e _=>if PY e then Z8 else(cE ar cl n sc e).map λc=>Wv c
  |.Assign l e _=>match l with
   |[f] =>
    match PX sc f e with
    |some (i,j,a,b)=>(cE ar cl n sc a).bind λo=>(cE ar cl n sc b).map λk=>Xr i j o k
    |none =>
    if JS f e||(W5 f&&W5 e&&!Ra sc f)||NP f||!Xl f then Z8 else(cE ar cl n sc e).bind λc=>(cG ar cl n sc f).map λg=>ZE c g
   |_=>Z8
  |.If t a b _=>(cT ar cl n sc t).bind λm=>(cSts n sc a).bind λo=>(cSts n sc b).map λk=>Zg m o k
  |.For f p d h _=>match h with
   |[]=>(Re sc ar (cE ar cl n sc) f p).bind λq=>(cG ar cl n sc f).bind λg=>(cSts n sc d).map λk=>YE q g k
   |_::_=>Z8
  |.While t d h _=>match h with
   |[]=>(cT ar cl n sc t).bind λm=>(cSts n sc d).map λk=>Vg Sd m k
   |_::_=>Z8
  |.Pass _=>Z9 ZL
  |.Break _=>Z9 Sl
  |.Continue _=>Z9 Sk
  |.Raise _ _ _=>Z9 YF
  |_=>Z8
noncomputable def cSts:Nat->Sc->List vO->Option CS
 |0,_,_=>Z8
 |n+1,sc,ss=>match ss with
  |[]=>Z9 ZL
  |s::r=>(mf (JP n sc s)).bind λc=>(cSts n sc r).map λd=>ZV c d
end
end
theorem me(h:Yz X sc ar cl k)(c:NO sc (.Name x m,.Name y t) (g,n) (x,y)=Z9 (i,j,a,b))(J:PE X a (Zy X.K p))(H:PE X b (Zy X.K o)):
  PS X (.Assign [.Tuple [.Name x m,.Name y t] u pt] (.Tuple [g,n] k2 d) pos) (YU X (Xr i j p o)):=by
 unfold NO at c;dsimp only at c;split at c
 .rename_i L;obtain⟨E,K,G,F,r,l,B,A⟩:=L;obtain⟨M,v,e⟩:=qA3.mp c;obtain⟨N,D,f⟩:=qA4.mp e;cases f;have I:=(Rf v).2;have w:=(Rf D).2;have s:=h.loc x K;have q:=h.loc y G;refine o8 h.calm h.nd' (by rw[h.N];exact I) (by rw[h.N];exact w) (λz=>?_) s q J H (XZ r) (XZ l) λhk=>mh hk E s q F r l B A
  simp_all
 .cases c
inductive JO(sc:Sc)(tg e:yY)(r:Nat×Nat×yY×yY):Prop
 |mk (x y:Str) (px py pt pt2:Pos) (kt k2:Nat) (v1 v2:yY) (h1:tg=.Tuple [.Name x px,.Name y py] kt pt) (h2:e=.Tuple [v1,v2] k2 pt2) (hp:NO sc (.Name x px,.Name y py) (v1,v2) (x,y)=Z9 r)
theorem l0(f:PX sc h e=Z9 r):JO sc h e r:=by
 unfold PX at f;by_cases d:W5 h=Z7/\W5 e=Z7
 .rw[if_pos d]at f;obtain⟨v,o,pt,rfl⟩:=P5 d.1;obtain⟨w,k2,g,rfl⟩:=P5 d.2;clear d;obtain⟨⟨n,l⟩,t,a⟩:=qA3.mp f;obtain⟨⟨j,m⟩,B,c⟩:=qA3.mp a;obtain⟨D,k,b⟩:=qA3.mp c;obtain⟨⟨x,y⟩,q,i⟩:=qA3.mp b;clear f a c b;have z:v=[n,l]:=JR t;have p:w=[j,m]:=JR B;have s:D=[x,y]:=JR q;subst z p s;obtain⟨G,u,rfl,A⟩:=(NQ k).2 0 n rfl;obtain⟨F,E,rfl,C⟩:=(NQ k).2 1 l rfl;cases A;cases C;exact⟨x,y,u,E,pt,g,o,k2,j,m,rfl,rfl,i⟩
 .simp_all
theorem lX(h:Yz X sc ar cl k)(c:PX sc g e=Z9 (i,j,a,b))(n:PE X a (Zy X.K f))(m:PE X b (Zy X.K d)):PS X (.Assign [g] e pos) (YU X (Xr i j f d)):=by obtain⟨x,y,q,s,pt,l,o,k2,p,r,rfl,rfl,c⟩:=l0 c;exact me h c n m
theorem DA(h:Yz X sc ar cl k):mX (yW X.prog X.w) X.A X.env X.xe:=by rw[h.xe];exact PassesOwn.never
theorem PV:∀n:Nat,(∀X d,Yz X d ar cl k->∀s c,JP ar cl n d s=Z9 c->PS X s (YU X c))/\(∀X d,Yz X d ar cl k->∀s c,cSts ar cl n d s=Z9 c->Xw X s (YU X c))
 |0=>⟨λX d h e c q=>(by cases q),λX d h e c q=>(by cases q)⟩
 |n+1=>by
  obtain⟨S,o⟩:=PV n;refine⟨λX d h s c q=>?_,λX d h ss c q=>?_⟩
  .have w:=(Rb n).1 X d h;have K:=(Rb n).2 X d h;have I:=(DG n).1 X d h;cases s with
   |Return v pos =>
    cases v with
    |none=>cases q;exact pz
    |some e =>
     obtain⟨O,f,m⟩:=qA4.mp q;subst m;exact pv (w _ _ f)
   |Expr e pos =>
    change (if PY e=Z7 then Z8 else(cE ar cl n d e).map λc=>Wv c)=Z9 c at q;split at q
    .cases q
    .rename_i E;obtain⟨O,f,m⟩:=qA4.mp q;subst m;exact pq (w _ _ f) (DE (by simpa using E))
   |Assign F e pos =>
    cases F with
    |nil=>cases q
    |cons u r =>
     cases r with
     |cons _ _=>cases q
     |nil =>
      change (match PX d u e with|some (i,j,a,b)=>(cE ar cl n d a).bind λH=>(cE ar cl n d b).map λB=>Xr i j H B|none=>if JS u e||(W5 u&&W5 e&&!Ra d u)||NP u||!Xl u then Z8 else(cE ar cl n d e).bind λc=>(cG ar cl n d u).map λg=>ZE c g)=Z9 c at q;split at q
      .rename_i i j a b R;obtain⟨H,f,m⟩:=qA3.mp q;obtain⟨B,l,p⟩:=qA4.mp m;subst p;exact lX h R (w _ _ f) (w _ _ l)
      split at q
      .cases q
      .rename_i E;simp only[qI2,not_or,Bool.not_eq_true,qI7,Bool.not_eq_false]at E;obtain⟨⟨⟨D,J⟩,M⟩,L⟩:=E;obtain⟨O,f,m⟩:=qA3.mp q;obtain⟨g,l,p⟩:=qA4.mp m;subst p;rcases mr D with D|⟨x,Q,elt,gens,scope,Z,rfl,rfl⟩
       .refine Ep (w _ _ f) (I _ _ l) (D _ _) (DB h J M) ?_;rw[JT (by simpa using L)];rfl
       .obtain⟨b,N⟩:=mu (elt:=elt) (gens:=gens) (scope:=scope) (pos:=Z) (pos':=Q) (x:=x) (line:=pos.line) (env:=X.env);cases b with
        |false=>exact Ep (w _ _ f) (I _ _ l) N (DB h J M) (by rw[JT (by simpa using L)];rfl)
        |true =>
         cases n with
         |zero=>cases l
         |succ n =>
          obtain⟨i,rfl,U,Y,P⟩:=PZ h l;exact o9 (mw h f (Oz h.nd' U Y P) N)
   |If t a b pos =>
    obtain⟨V,z,m⟩:=qA3.mp q;obtain⟨H,f,p⟩:=qA3.mp m;obtain⟨B,l,A⟩:=qA4.mp p;subst A;exact pj (K _ _ z) (o X d h _ _ f) (o X d h _ _ l)
   |For u it C y pos =>
    cases y with
    |cons _ _=>cases q
    |nil =>
     obtain⟨ci,z,m⟩:=qA3.mp q;obtain⟨g,f,p⟩:=qA3.mp m;obtain⟨B,l,A⟩:=qA4.mp p;subst A;obtain⟨T,W⟩:=J4 h w z;exact o5 (DA h) h.calm T (I _ _ f) (o X d h _ _ l) (Kc W)
   |While t C y pos =>
    cases y with
    |cons _ _=>cases q
    |nil =>
     obtain⟨V,z,m⟩:=qA3.mp q;obtain⟨B,l,A⟩:=qA4.mp m;subst A;exact o7 Sd (DA h) (K _ _ z) (o X d h _ _ l)
   |Pass pos=>cases q;exact pC
   |Break pos=>cases q;exact pB
   |Continue pos=>cases q;exact pA
   |Raise a b pos=>cases q;exact Et
   |_=>cases q
  .cases ss with
   |nil=>cases q;exact pk
   |cons s r =>
    obtain⟨D,f,m⟩:=qA3.mp q;obtain⟨J,l,p⟩:=qA4.mp m;subst p;cases G:JP ar cl n d s with
    |none=>rw[G]at f;cases f;exact Es Et (o X d h _ _ l)
    |some c=>rw[G]at f;cases f;exact Es (S X d h _ _ G) (o X d h _ _ l)
def YY(n:Nat)(a:yM):ZR:=a.map Z9++qI9 (n - a.length) Z8
def ZD(g f:Nat)(b:CS):yM->M D:=λe S=>if e.length=g then(match b (YY f e) S with
 |.nx _ a=>.ok .non a
 |.rt d a=>.ok d a
 |.er c a=>.er c a
 | _=>.bad)else .bad
theorem RVs.begins{K:yQ}{a:yM}(r:RVs K H J a vs):RE K H J (YY N.length a) (start N vs):=by
 unfold YY start;refine⟨by simp[r.len],λi d e=>?_⟩;by_cases b:i<a.length
 .rw[qA8 (by simpa using b),qB6]at e;rw[qA8 (by rw[qA1,<- r.len];exact b),qB6];cases q:a[i]? with
  |none=>rw[q]at e;cases e
  |some g =>
   rw[q]at e;cases e;obtain⟨v,f,c⟩:=r.get q;exact⟨v,by rw[f];rfl,c⟩
 .rw[qA2 (by simpa using b),qH7]at e;split at e<;>cases e
def X4(N ps:yH)(scope:vK):Bool :=
 decide (scope.kind=.function)&&!scope.isCoroutine&&!scope.isGenerator&&decide N.Nodup&&decide (N.take ps.length=ps)&&ps.all (λx=>scope.names.lookup x == Z9 .local||scope.names.lookup x == Z9 .cell)&&scope.names.all (λy=>y.2 != .free)
theorem Dz(h:X4 N ps scope=Z7):RH N ps scope:=by
 unfold X4 at h;simp only[qC1,decide_eq_true_eq,qI7]at h;obtain⟨⟨⟨⟨⟨⟨c,i⟩,f⟩,d⟩,a⟩,b⟩,g⟩:=h;refine⟨c,i,f,d,a,λx e=>?_,λy j=>?_⟩
 .have:=qD0.mp b x e;simpa using this
 .have:=qD0.mp g y j;simpa using this
theorem Sb{K:yQ}{st:vO}{R:Str}(F:V3 K R x st p z)
  (D:X4 N ps (YH st)=Z7) (Z:cSts ar cl a ⟨N,(YH st).names,Z9 x⟩ (XB st)=Z9 b)
  (L:UX ar i) (v:P0 w K i) (o:∀m q,UD.lookup m=Z9 q->Qb P w K i base m (k+2) (XU K (cl q) 2)/\∀g S d j,cl q g S=.ok d j->g.length=2)
  (T:∀y n,ar y=Z9 n->(∃ps,RC P w K i base y ps (k+2) (XU K (cl y) n))/\∀g S d j,cl y g S=.ok d j->g.length=n):Yw P w K i base VP (k+2+1) p z ps (XU K (ZD ps.length N.length b) ps.length):=by
 have S:=Dz D;refine F.ok S (λM H Q E h=>h.1) (λl A c s H M Q E G h=>?_);obtain⟨hl,J,g,W,d,j,O,I,e,y⟩:=h;have X:Yz (Wg VP P w K i base N x (YH st) p l A c s H E).nox ⟨N,(YH st).names,Z9 x⟩ ar cl k:={
  calm:=rfl
  N:=rfl
  nd:=S.nd
  gl:=λx f=>f
  loc:=λx f=>f
  cel:=λx f=>f
  fre:=λx f=>.inr f
  fnn:=λ_ x=>rfl
  room:=G
  xe:=rfl
  blt:=L
  dkc:=v.1
  fm:=v.2.2
  dkn:=v.2.1
  mts:=o
  fns:=T }
 refine⟨_,(PV a).2 _ _ X _ _ Z,J,YY N.length g,W,O,I.begins,?_⟩;unfold ZD at e;split at e
 .split at e
  .rename_i B Y u;cases e;rw[u];exact fun Z' C U r t V=>y _ C U r t Ua
  .rename_i d' Y u;cases e;rw[u];exact y
  .cases e
  .cases e
 .cases e
theorem lT{K:yQ}{a:Str->yF}{st:vO}(F:V3 K x x st g i)(m:a x=Z9 (.ref g))(p:Wi K i ps [])
  (j:X4 N ps (YH st)=Z7) (s:cSts ar cl c ⟨N,(YH st).names,Z9 x⟩ (XB st)=Z9 b)
  (l:UX ar a) (r:P0 w K a) (f:∀m q,UD.lookup m=Z9 q->Qb P w K a base m (k+2) (XU K (cl q) 2)/\∀e S d h,cl q e S=.ok d h->e.length=2)
  (o:∀y n,ar y=Z9 n->(∃ps,RC P w K a base y ps (k+2) (XU K (cl y) n))/\∀e S d h,cl y e S=.ok d h->e.length=n):RC P w K a base x ps (k+1+2) (XU K (ZD ps.length N.length b) ps.length) :=
 ⟨g,i,Sb F j s l r f o,p,F.kp,m⟩
end
abbrev ZQ:=Str->yM->M D
abbrev Tj:=List (Str×(Nat×Nat×(ZQ->CS)))
def Sa(x:Str):Bool:=UD.any λp=>p.2 == x
def VC(tbl:Tj)(x:Str):yK:=if Sa x then Z8 else(tbl.lookup x).map (·.1)
def Xd(tbl:Tj):Nat->ZQ
 |0,_=>λ_ _=>.bad
 |n+1,x=>match tbl.lookup x with
  |some p=>ZD p.1 p.2.1 (p.2.2 (Xd tbl n))
  |none=>λ_ _=>.bad
structure R9(K:yQ)(mg:Str->yF)(ar:Str->yK)(x:Str)(p:Nat×Nat×(ZQ->CS)):Prop where
 ex:∃(st:vO) (fa:yR) (fd:j4) (N ps:yH) (fuel:Nat),V3 K x x st fa fd/\mg x=Z9 (.ref fa)/\Wi K fd ps []/\X4 N ps (YH st)=Z7/\ps.length=p.1/\N.length=p.2.1 /\
  ∀cl:ZQ,cSts ar cl fuel ⟨N,(YH st).names,Z9 x⟩ (XB st)=Z9 (p.2.2 cl)
theorem Dy(h:ZD np e b a S=.ok d c):a.length=np:=by
 unfold ZD at h
 grind
theorem Dx{a:Type}{tbl:List (Str×a)}{p:a}(h:tbl.lookup x=Z9 p):(x,p)∈tbl:=by
 induction tbl with
 |nil=>cases h
 |cons y r b =>
  grind
structure NN(K:yQ)(ar:Str->yK)(m q:Str)(p:Nat×Nat×(ZQ->CS)):Prop where
 ex:∃(st:vO) (fa:yR) (fd:j4) (N ps:yH) (fuel:Nat) (C:yR),V3 K m q st fa fd/\Ws K C/\WO K C/\Up K C m fa/\Wi K fd ps []/\X4 N ps (YH st)=Z7/\ps.length=p.1/\N.length=p.2.1/\m ≠ "kept"/\q ≠ "law" /\
  ∀cl:ZQ,cSts ar cl fuel ⟨N,(YH st).names,Z9 q⟩ (XB st)=Z9 (p.2.2 cl)
theorem Dw{K:yQ}(I:∀x p,Sa x=Z5->tbl.lookup x=Z9 p->R9 K z (VC tbl) x p)(D:∀m q,UD.lookup m=Z9 q->∃p,tbl.lookup q=Z9 p/\p.1=2/\NN K (VC tbl) m q p)(U:UX (VC tbl) z)(W:P0 w K z):
  ∀(k:Nat),(∀(x:Str) (n:Nat),VC tbl x=Z9 n->(∃ps,RC P w K z base x ps (k+2) (XU K (Xd tbl k x) n))/\∀a S d b,Xd tbl k x a S=.ok d b->a.length=n) /\
   ∀m q,UD.lookup m=Z9 q->Qb P w K z base m (k+2) (XU K (Xd tbl k q) 2)/\∀a S d b,Xd tbl k q a S=.ok d b->a.length=2
 |0=>by
  have R:∀x a S d b,Xd tbl 0 x a S=.ok d b->False:=λx a S d b e=>by cases e
  have j:∀x n v H Q E,¬XU K (Xd tbl 0 x) n v H Q E:=λx n v H Q E h=>by obtain⟨_,J,a,S,d,b,_,_,e,_⟩:=h;exact R _ _ _ _ _ e
  refine⟨λx n h=>?_,λm q h=>?_⟩
  .unfold VC at h;split at h
   .cases h
   .rename_i o;obtain⟨p,i,rfl⟩:=qA4.mp h;obtain⟨O,t,u,N,ps,f,F,m,r,_⟩:=(I x p (by simpa using o) i).ex;exact⟨⟨ps,t,u,⟨λv H Q E h=>(j _ _ _ _ _ _ h).elim,λA l s H B us v Q E _ _ _ _ h=>(j _ _ _ _ _ _ h).elim⟩,r,F.kp,m⟩,λa S d b e=>(R _ _ _ _ _ e).elim⟩
  .obtain⟨p,i,_,M⟩:=D m q h;obtain⟨O,t,u,N,ps,f,C,F,T,c,o,r,_,_,_,V,_⟩:=M.ex;exact⟨⟨C,t,u,ps,T,c,o,⟨λv H Q E h=>(j _ _ _ _ _ _ h).elim,λA l s H B us v Q E _ _ _ _ h=>(j _ _ _ _ _ _ h).elim⟩,r,V⟩,λa S d b e=>(R _ _ _ _ _ e).elim⟩
 |k+1=>by
  obtain⟨ih,y⟩:=Dw I D U W k;have Z:∀{x:Str}{p:Nat×Nat×(ZQ->CS)},tbl.lookup x=Z9 p->Xd tbl (k+1) x=ZD p.1 p.2.1 (p.2.2 (Xd tbl k)):=λ{x p} i=>by show(match tbl.lookup x with|some p=>ZD p.1 p.2.1 (p.2.2 (Xd tbl k))| none=>λ_ _=>.bad)=_;rw[i]
  refine⟨λx n h=>?_,λm q h=>?_⟩
  .unfold VC at h;split at h
   .cases h
   .rename_i o;obtain⟨p,i,rfl⟩:=qA4.mp h;obtain⟨O,t,u,N,ps,f,F,m,r,L,X,G,Y⟩:=(I x p (by simpa using o) i).ex;have q:=lT F m r L (Y (Xd tbl k)) U W y ih;rw[X,G]at q;rw[Z i];exact⟨⟨ps,q⟩,λa S d b e=>Dy e⟩
  .obtain⟨p,i,h2,M⟩:=D m q h;obtain⟨O,t,u,N,ps,f,C,F,T,c,o,r,L,X,G,V,nl,Y⟩:=M.ex;have g:=Sb F L (Y (Xd tbl k)) U W y ih;rw[X,G,h2]at g;rw[Z i,h2];exact⟨⟨C,t,u,ps,T,c,o,g,r,V⟩,λa S d b e=>Dy e⟩
def JN(K:yQ):Sp:=λc H Q _=>∃(a:yR) (b:yA),c=[.ref a]/\SB K H a (b.map V.int)/\b.length<=63/\∀d,Q (.bl Z7) d
theorem lR{K:yQ}(o:Uo H)(h:YK K H a xs):SB K H a xs:=by
 rcases h with(h|⟨w,h⟩)| h
 .rcases o a with q|⟨w,b,q⟩
  .rw[h]at q;cases q
  .simp_all
 .exact .inl ⟨w,h⟩
 .exact .inr h
theorem lN{K:yQ}{st:vO}(y:∀x p,Sa x=Z5->tbl.lookup x=Z9 p->R9 K f (VC tbl) x p)(u:∀m q,UD.lookup m=Z9 q->∃p,tbl.lookup q=Z9 p/\p.1=2/\NN K (VC tbl) m q p)(s:P0 w K f)(l:UX (VC tbl) f)
  (B:tbl.lookup ("law":Str)=Z9 (1,i,b)) (F:V3 K "law" "law" st j k) (A:X4 N ["_law_script"] (YH st)=Z7) (z:N.length=i) (J:∀cl:ZQ,cSts (VC tbl) cl c ⟨N,(YH st).names,Z9 "law"⟩ (XB st)=Z9 (b cl))
  (d:∀ns:yA,ns.length<=63->∃g,Xd tbl (L+1) "law" [.rol (ns.map D.int)] []=.ok (.bl Z7) g) :
  Yw P w K f base VP (L+2+1) j k ["_law_script"] (JN K):=by
 have t:=Dw (P:=P) (base:=base) y u l s L;have q:=Sb F A (J (Xd tbl L)) l s t.2 t.1;refine q.imp λO H Q E h=>?_;obtain⟨a,ns,rfl,I,G,S⟩:=h;obtain⟨g,e⟩:=d ns G;have C:Xd tbl (L+1) "law"=ZD 1 i (b (Xd tbl L)):=by show(match tbl.lookup ("law":Str)with|some p=>ZD p.1 p.2.1 (p.2.2 (Xd tbl L))| none=>λ_ _=>.bad)=_;rw[B]
 rw[C]at e;refine⟨rfl,[],[.rol (ns.map D.int)],[],.bl Z7,g,⟨rfl,qO7,λn a o h=>by simp at h⟩,.cons (by exact⟨a,_,rfl,I,RVs.ints⟩) .nil,by rw[z];exact e,λv M R _ _ r=>?_⟩;unfold RV at r
 grind
theorem walk_ev{l:W.OpenLaw}{b:yH}{k:(Str->yF)->y9->Prop}{K:Params->yQ}(r:l.most=Z9 63)(e:d.params.defaults=[])(p:Zh L lS)
  (v:∀(w:y8) (h:y9),i w h->(K w.params).In h)
  (F:∀(w:y8) (c:Str->yF) (g:yR) (h:y9),(K w.params).In h->h.Ns jC c->c d.name=Z9 (.ref g) ->
   ∃j:j4,(∀(s:yS) (u:yT),dL s j ⟨[u],[]⟩ [("_law_script",u)])/\∀base:y9,(K w.params).In base->base.Ns jC c->Yw l.prog w (K w.params) c base VP L g j ["_law_script"] (JN (K w.params))) :
  W.WalkO q b k i l.row.toRowW d [] (λf vs=>PySem.call f vs) :=
 Lake.walk_of r (by decide) e p v F (λ_ _ a n m o t=>⟨a,n,rfl,lR o t,m,λ_=>rfl⟩) λ_ _ _ _ _ z=>z
open PySem
theorem lD{K:yQ}{e:Str->yF}{st:vO}{a np nN:Nat}(F:V3 K x x st c d)(m:e x=Z9 (.ref c))(h:Wi K d ps [])(f:X4 N ps (YH st)=Z7)
  (j:(λcl:ZQ=>cSts ar cl a ⟨N,(YH st).names,Z9 x⟩ (XB st))=λcl=>Z9 (b cl)) (g:ps.length=np:=by rfl) (i:N.length=nN:=by rfl):R9 K e ar x (np,nN,b) :=
 ⟨st,c,d,N,ps,a,F,m,h,f,g,i,λcl=>congrFun j cl⟩
def NM(a:Str->yF):yH->Prop
 |[]=>True
 |x::r=>a x=Z8/\NM a r
theorem NM.mem{c:Str->yF}:∀{l:yH},NM c l->∀x∈l,c x=Z8
 |[],_,x,h=>by cases h
 |e::r,⟨a,b⟩,x,h=>by
  rcases qC0.mp h with q|q
  .subst q;exact a
  .exact b.mem x q
def NL:yB->yH->Bool
 |[],[]=>Z7
 |.str x _::r,y::t=>decide (x=y)&&NL r t
 |_,_=>Z5
def JM(K:yQ)(p:yR)(b:yH):Bool:=match K.lookup p with
 |some ⟨.type c,_,.seq a _,_⟩=>c == "tuple"&&decide (a.size<=yV)&&NL a.toList b
 |_=>Z5
def NK(K:yQ):List vJ->List (Str×yH)->Bool
 |[],[]=>Z7
 |⟨_,.str x _,.ref p⟩::b,q::a=>decide (x=q.1)&&JM K p q.2&&NK K b a
 |_,_=>Z5
def JL(K:yQ)(a:yR):Bool:=match K.lookup a with
 |some ⟨.type c,Z8,.dict b _,sl⟩=>c == "dict"&&sl.isEmpty&&(a != jZ)&&NK K b.toList WG
 |_=>Z5
def R8(K:yQ)(a:yR):yA:=match K.lookup a with
 |some ⟨_,_,.dict b _,_⟩=>b.toList.map (·.hash)
 |_=>[]
theorem Dv:∀{us:yB}{a:yH},NL us a=Z7->ZJ (a.map V.str) us
 |[],[],_=>.nil
 |[],_::_,h=>by cases h
 |.str x t::r,y::a,h=>by unfold NL at h;rw[qC1,decide_eq_true_eq]at h;obtain⟨rfl,b⟩:=h;exact .cons ⟨t,rfl⟩ (Dv b)
 |u::r,[],h=>by cases u<;>cases h
theorem lz{K:yQ}(h:JM K p ts=Z7):TZ K p ts:=by
 unfold JM at h;split at h
 .rename_i c d a n g e;simp only[qC1,beq_iff_eq,decide_eq_true_eq]at h;obtain⟨⟨rfl,f⟩,b⟩:=h;exact⟨_,a,n,e,rfl,rfl,f,Dv b⟩
 .cases h
def TX:List vJ->List (Str×yH)->List (Zz×yT)
 |e::b,q::a=>(.inr q.1,e.val)::TX b a
 |_,_=>[]
theorem Du{K:yQ}{P:yX}{w:y8}:∀{es:List vJ}{c:List (Str×yH)},NK K es c=Z7->es.map (·.hash)=c.map (λp=>uQ w p.1) ->
  Pairs (Yp P w) es (TX es c)/\(TX es c).map (·.1)=c.map (λq=>(.inr q.1:Zz))/\(∀e∈es,∃k,(Yp P w).is k e.key=Z7/\e.hash=(Yp P w).hash k) /\
  ∀z,match c.lookup z with
   |some m=>∃p,fE (TX es c) (.inr z)=Z9 (.ref p)/\TZ K p m
   |none=>fE (TX es c) (.inr z)=Z8
 |[],[],_,_=>⟨.nil,rfl,λe f=>(by cases f),λz=>rfl⟩
 |[],_::_,h,_=>by cases h
 |⟨g,.str x t,.ref p⟩::es,q::c,h,hh=>by
  unfold NK at h;simp only[qC1,decide_eq_true_eq]at h;obtain⟨⟨rfl,n⟩,r⟩:=h;rw[qB2,qB2]at hh;have s:g=uQ w q.1:=(qK0.inj hh).1;obtain⟨l,o,i,j⟩:=Du (K:=K) (P:=P) r (qK0.inj hh).2;refine⟨.cons (Mm P w q.1 t) rfl l,?_,λe f=>?_,λz=>?_⟩
  .show _::_=_::_;rw[o]
  .rcases qC0.mp f with rfl|f
   .exact⟨.inr q.1,Mm P w q.1 t,s⟩
   .exact i e f
  .rw[show(q::c).lookup z=if z == q.1 then Z9 q.2 else c.lookup z from by
    obtain⟨a,b⟩:=q;rw[qD9];cases z == a<;>rfl]
   have v:fE (TX (⟨g,.str q.1 t,.ref p⟩::es) (q::c)) (.inr z)=if z=q.1 then Z9 (.ref p)else fE (TX es c) (.inr z):=by
    show Option.map _ (List.find? _ ((.inr q.1,.ref p)::TX es c))=_;rw[qJ6];by_cases d:z=q.1
    .subst d;simp
    .have:((.inr q.1:Zz)=.inr z)=False:=eq_false λy=>d (Sum.inr.inj y).symm;simp only[this,decide_false,if_neg d];rfl
   rw[v];by_cases d:z=q.1
   .subst d;rw[if_pos rfl,if_pos (by simp)];exact⟨p,rfl,lz n⟩
   .rw[if_neg d,if_neg (by simpa using d)];exact j z
 |⟨_,k,v⟩::es,[],h,_=>by cases k<;>cases v<;>cases h
theorem ly(x:yX){w:y8}{K:yQ}{h:y9}{mg:Str->yF}(X:K.In h)(G:h.Ns jC mg){a:yR}(n:mV K jC "FORMS"=Z9 (Z9 (.ref a)))(b:JL K a=Z7)(f:R8 K a=WG.map λp=>uQ w p.1):UY w K mg:=by
 have m:=W.mg_of X G n;unfold JL at b;unfold R8 at f;split at b
 .rename_i c i k q e;rw[e]at f;simp only[qC1,beq_iff_eq,bne_iff_ne]at b;obtain⟨⟨⟨rfl,u⟩,y⟩,l⟩:=b;have d:q=#[]:=by simpa using u
  have g:=λP=>Du (K:=K) (P:=P) l f;obtain⟨_,v,_,o⟩:=g x;refine⟨a,_,TX i.toList WG,m,by simpa using y,e,rfl,rfl,λP z r=>?_,o⟩;obtain⟨s,_,j,_⟩:=g P;exact⟨_,i,k,r,⟨rfl,rfl,d⟩,rfl,λe t=>j e (Array.mem_toList_iff.mpr t),s,by rw[v];decide⟩
 .cases b
def VB(K:yQ)(a:Str->yF)(ar:Str->yK):Tj->Prop
 |[]=>True
 |e::r=>(Sa e.1=Z7∨R9 K a ar e.1 e.2)/\VB K a ar r
theorem VB.mem{K:yQ}{c:Str->yF}{ar:Str->yK}:∀{t:Tj},VB K c ar t->∀x p,Sa x=Z5->(x,p)∈t->R9 K c ar x p
 |[],_,x,p,_,h=>by cases h
 |e::r,⟨a,b⟩,x,p,n,h=>by
  rcases qC0.mp h with q|q
  .subst q;rcases a with a|a
   .rw[show Sa x=Z7 from a]at n;cases n
   .exact a
  .exact b.mem x p n q
theorem VB.look{K:yQ}(h:VB K a ar t)(x:Str)(p:Nat×Nat×(ZQ->CS))(n:Sa x=Z5)(e:t.lookup x=Z9 p):R9 K a ar x p:=h.mem x p n (Dx e)
inductive Tg{γ:Type}(f:γ):Type where
 |mk
def Zq{b β:Type}(r:R b)(f:b->ZU->R β)(_:Tg f):R β:=match r with
 |.bad=>.bad
 |.er c S=>.er c S
 |.ok a S=>f a S
@[simp]theorem VX(a:b)(S:ZU)(f:b->ZU->R c):Zq (.ok a S) f .mk=f a S:=rfl
@[simp]theorem zea(f:b->ZU->R a):Zq .bad f .mk=.bad:=rfl
@[simp]theorem W4(m:M a)(f:a->M b)(S:ZU):Zc m f S=Zq (m S) f .mk:=rfl
@[simp]theorem zgQ(a:b)(S:ZU):ret a S=.ok a S:=rfl
@[simp]theorem zgX(S:ZU):(bad:M a) S=.bad:=rfl
def rs{b:Type}(r:R b)(f:b->ZU->RS)(_:Tg f):RS:=match r with
 |.bad=>.bad
 |.er _ _=>.bad
 |.ok a S=>f a S
@[simp]theorem zh2(a:b)(S:ZU)(f:b->ZU->RS):rs (.ok a S) f .mk=f a S:=rfl
@[simp]theorem zgP(f:a->ZU->RS):rs .bad f .mk=.bad:=rfl
def sb(r:RS)(f:CS)(_:Tg f):RS:=match r with
 |.nx B S=>f B S
 |r=>r
@[simp]theorem zgZ(B:ZR)(S:ZU)(f:CS):sb (.nx B S) f .mk=f B S:=rfl
@[simp]theorem zgY(d:D)(S:ZU)(f:CS):sb (.rt d S) f .mk=.rt d S:=rfl
@[simp]theorem zh1(B:ZR)(S:ZU)(f:CS):sb (.bk B S) f .mk=.bk B S:=rfl
@[simp]theorem zh0(B:ZR)(S:ZU)(f:CS):sb (.ct B S) f .mk=.ct B S:=rfl
@[simp]theorem JK(a b:CS)(B:ZR)(S:ZU):ZV a b B S=sb (a B S) b .mk:=rfl
@[simp]theorem ze8(B:ZR)(S:ZU):ZL B S=.nx B S:=rfl
@[simp]theorem zfc(B:ZR)(S:ZU):Sl B S=.bk B S:=rfl
@[simp]theorem zfb(B:ZR)(S:ZU):Sk B S=.ct B S:=rfl
@[simp]theorem ze7(B:ZR)(S:ZU):Ku B S=.rt .non S:=rfl
@[simp]theorem lx(c:C)(B:ZR)(S:ZU):ZM c B S=rs (c B S) (λd a=>.rt d a) .mk:=by unfold ZM rs;cases c B S<;>rfl
@[simp]theorem ze9(c:C)(B:ZR)(S:ZU):Wv c B S=rs (c B S) (λ_ a=>.nx B a) .mk:=by unfold Wv rs;cases c B S<;>rfl
@[simp]theorem zfd(c:C)(g:G)(B:ZR)(S:ZU):ZE c g B S=rs (c B S) (λd a=>rs (g d B a) (fun b e=>.nx b e) .mk) .mk:=by
 unfold ZE rs;cases c B S with
 |ok d a=>dsimp only;cases g d B a<;>rfl
 |_=>rfl
@[simp]theorem zgO(t:CT)(a b:CS)(B:ZR)(S:ZU):Zg t a b B S=rs (t B S) (λk c=>if k then a B c else b B c) .mk:=by unfold Zg rs;cases t B S<;>rfl
@[simp]theorem lu(c:CI)(g:G)(b:CS)(B:ZR)(S:ZU):YE c g b B S=rs (c B S) (λp d=>XQ p.2 g b p.1 B d) .mk:=by
 unfold YE rs;cases c B S with
 |ok p d=>obtain⟨a,b⟩:=p;rfl
 |_=>rfl
@[simp]theorem zh5(i:Nat)(d:D)(B:ZR)(S:ZU):gN i d B S=.ok (B.set i (Z9 d)) S:=rfl
def mo{a:Type}(o:Option a)(b:a->ZU)(B:ZR):R ZR:=match o with
 |some x=>.ok B (b x)
 |none=>.bad
@[simp]theorem zh4(b e:C)(d:D)(B:ZR)(S:ZU):gS b e d B S=Zq (b B S) (λo a=>Zq (e B a) (λi c=>mo (Ya o i d c) (λx=>x) B) .mk) .mk:=by
 unfold gS;rw[W4];cases b B S with
 |bad=>rfl
 |er _ _=>rfl
 |ok o a =>
  rw[VX,VX,W4];cases e B a with
  |bad=>rfl
  |er _ _=>rfl
  |ok i c =>
   rw[VX,VX];cases h:Ya o i d c<;>rfl
@[simp]theorem zfY(x:a)(f:a->ZU)(B:ZR):mo (Z9 x) f B=.ok B (f x):=rfl
@[simp]theorem zh3(a:List G)(xs:yM)(B:ZR)(S:ZU):gT a (.tup xs) B S=U1 a xs B S:=rfl
@[simp]theorem zgb(B:ZR)(S:ZU):U1 [] [] B S=.ok B S:=rfl
@[simp]theorem zeq(g:G)(a:List G)(x:D)(xs:yM)(B:ZR)(S:ZU):U1 (g::a) (x::xs) B S=Zq (g x B S) (fun c b=>U1 a xs c b) .mk:=rfl
@[simp]theorem ls(i:Nat)(B:ZR)(S:ZU):ZY i B S=match B[i]? with|some (Z9 d)=>.ok d S|_=>.bad:=rfl
@[simp]theorem lp(d:D)(B:ZR)(S:ZU):ZX d B S=.ok d S:=rfl
@[simp]theorem ll(o:D->D->M D)(a b:C)(B:ZR)(S:ZU):ZW o a b B S=Zq (a B S) (λx c=>Zq (b B c) (λy d=>o x y d) .mk) .mk:=rfl
@[simp]theorem zgU(o:D->M D)(a:C)(B:ZR)(S:ZU):Vn o a B S=Zq (a B S) o .mk:=rfl
@[simp]theorem Dt(B:ZR)(S:ZU):ZS [] B S=.ok [] S:=rfl
@[simp]theorem Ds(c:C)(cs:List C)(B:ZR)(S:ZU):ZS (c::cs) B S=Zq (c B S) (λx a=>Zq (ZS cs B a) (λxs b=>.ok (x::xs) b) .mk) .mk:=rfl
@[simp]theorem Dr(o:yM->M D)(a:CA)(B:ZR)(S:ZU):ZT o a B S=Zq (a B S) o .mk:=rfl
@[simp]theorem zgq(a:CA)(B:ZR)(S:ZU):Y6 a B S=Zq (a B S) (λxs b=>.ok (.tup xs) b) .mk:=rfl
@[simp]theorem lj(a:CA)(B:ZR)(S:ZU):YZ a B S=Zq (a B S) (λxs b=>.ok (.lst b.length) (b++[.lst xs])) .mk:=rfl
@[simp]theorem zgW(t:CT)(a b:C)(B:ZR)(S:ZU):UG t a b B S=Zq (t B S) (λk c=>if k then a B c else b B c) .mk:=by
 unfold UG;rw[W4];cases t B S with
 |ok k c=>cases k<;>rfl
 |bad=>rfl
 |er _ _=>rfl
@[simp]theorem zeD(a:C)(B:ZR)(S:ZU):Zs a B S=Zq (a B S) (λx b=>dB x b) .mk:=rfl
@[simp]theorem zh6(b:Bool)(S:ZU):dB (.bl b) S=.ok b S:=rfl
@[simp]theorem zeE(a b:C)(B:ZR)(S:ZU):Sy a b B S=Zq (Zs a B S) (λk c=>if k then b B c else .ok (.bl Z5) c) .mk:=by
 unfold Sy;rw[W4];cases Zs a B S with
 |ok k c=>cases k<;>rfl
 |bad=>rfl
 |er _ _=>rfl
@[simp]theorem zgs(a b:C)(B:ZR)(S:ZU):Ud a b B S=Zq (Zs a B S) (λk c=>if k then .ok (.bl Z7) c else b B c) .mk:=by
 unfold Ud;rw[W4];cases Zs a B S with
 |ok k c=>cases k<;>rfl
 |bad=>rfl
 |er _ _=>rfl
@[simp]theorem zey(a:C)(B:ZR)(S:ZU):Oa a B S=Zq (Zs a B S) (λk b=>.ok (.bl (!k)) b) .mk:=rfl
@[simp]theorem zeF(a b:CT)(B:ZR)(S:ZU):Uc a b B S=Zq (a B S) (λk c=>if k then b B c else .ok Z5 c) .mk:=by
 unfold Uc;rw[W4];cases a B S with
 |ok k c=>cases k<;>rfl
 |bad=>rfl
 |er _ _=>rfl
@[simp]theorem zgt(a b:CT)(B:ZR)(S:ZU):YO a b B S=Zq (a B S) (λk c=>if k then .ok Z7 c else b B c) .mk:=by
 unfold YO;rw[W4];cases a B S with
 |ok k c=>cases k<;>rfl
 |bad=>rfl
 |er _ _=>rfl
@[simp]theorem zez(a:CT)(B:ZR)(S:ZU):XA a B S=Zq (a B S) (λk b=>.ok (!k) b) .mk:=rfl
@[simp]theorem zdE(o o':D->D->M D)(a b c:C)(B:ZR)(S:ZU):VM o o' a b c B S=Zq (a B S) (λx d=>Zq (b B d) (λy f=>Zq (o x y f) (λz g=>Zq (dB z g) (λk e=>if k then Zq (c B e) (λw h=>o' y w h) .mk else .ok (.bl Z5) e) .mk) .mk) .mk) .mk:=by
 unfold VM;rw[W4];cases a B S with
 |bad=>rfl
 |er _ _=>rfl
 |ok x d =>
  rw[VX,VX,W4];cases b B d with
  |bad=>rfl
  |er _ _=>rfl
  |ok y f =>
   rw[VX,VX,W4];cases o x y f with
   |bad=>rfl
   |er _ _=>rfl
   |ok z g =>
    rw[VX,VX,W4];cases dB z g with
    |bad=>rfl
    |er _ _=>rfl
    |ok k e=>cases k<;>rfl
@[simp]theorem zgr(a:C)(B:ZR)(S:ZU):Zb a B S=Zq (a B S) (λx b=>Wc x b) .mk:=rfl
@[simp]theorem zgn(b:Bool)(S:ZU):Wc (.bl b) S=.ok b S:=rfl
@[simp]theorem zev(i:Int)(S:ZU):Wc (.int i) S=.ok (i != 0) S:=rfl
@[simp]theorem zeu(xs:yM)(S:ZU):Wc (.tup xs) S=.ok (!xs.isEmpty) S:=rfl
@[simp]theorem zan(B:ZR)(S:ZU):Vm B S=.ok Z8 S:=rfl
@[simp]theorem zex(a:C)(B:ZR)(S:ZU):Vl a B S=Zq (a B S) (λx b=>Zq (Sw x b) (λi c=>.ok (Z9 i) c) .mk) .mk:=rfl
@[simp]theorem zgo(i:Int)(S:ZU):Sw (.int i) S=.ok i S:=rfl
@[simp]theorem zgV(o:D->yG->yG->M D)(a:C)(lo hi:CO)(B:ZR)(S:ZU):Vk o a lo hi B S=Zq (a B S) (λx b=>Zq (lo B b) (λl c=>Zq (hi B c) (λh d=>o x l h d) .mk) .mk) .mk:=rfl
@[simp]theorem zeA(T:String)(o:D->yM->M D)(a:C)(c:CA)(B:ZR)(S:ZU):Xy T o a c B S=Zq (a B S) (λx b=>if XR T x b then Zq (c B b) (λxs d=>o x xs d) .mk else .bad) .mk:=rfl
@[simp]theorem zg9(c:C)(B:ZR)(S:ZU):Za c B S=Zq (c B S) (λx b=>match x with
 |.tup xs=>.ok (xs,[]) b
 |.lst n=>match ZA b n with
  |some xs=>.ok (xs,[(n,xs)]) b
  |none=>.bad
 |.dct n=>match b[n]? with
  |some (.dk a)=>.ok (a.map λp=>kD p.1,[]) (b.set n (.fk a))
  |some (.fk a)=>.ok (a.map λp=>kD p.1,[]) b
  |_=>.bad
 | _=>.bad) .mk:=rfl
@[simp]theorem zai(a:CA)(B:ZR)(S:ZU):T7 a B S=Zq (a B S) (λxs b=>match xs with
 |[.int j]=>if -4611686018427387904<=j/\j<4611686018427387904 then .ok (YT 0 j.toNat,[]) b else .bad
 | _=>.bad) .mk:=rfl
@[simp]theorem zah(a:CA)(B:ZR)(S:ZU):N2 a B S=Zq (a B S) (λxs b=>match xs with
 |[.int i,.int j]=>if -4611686018427387904<=i/\i<4611686018427387904/\-4611686018427387904<=j/\j<4611686018427387904 then .ok (YT i (j - i).toNat,[]) b else .bad
 | _=>.bad) .mk:=rfl
@[simp]theorem zep(a:CA)(B:ZR)(S:ZU):Sj a B S=Zq (a B S) (λxs b=>match xs with
 |[x,y]=>match WU b x,WU b y with
  |some ys,Z9 c=>.ok (zipD ys c,T6 x ys++T6 y c) b
  |_,_=>.bad
 | _=>.bad) .mk:=rfl
@[simp]theorem zXE(n:Nat)(xs:yM):T6 (.lst n) xs=[(n,xs)]:=rfl
@[simp]theorem zXD(ys:yM)(xs:yM):T6 (.tup ys) xs=[]:=rfl
@[simp]theorem ze5(S:ZU)(n:Nat):WU S (.lst n)=ZA S n:=rfl
@[simp]theorem ze4(S:ZU)(xs:yM):WU S (.tup xs)=Z9 xs:=rfl
@[simp]theorem zd5(a:CA)(B:ZR)(S:ZU):Rj a B S=Zq (a B S) (λxs b=>match xs with
 |[.tup ys]=>.ok (WT ys,[]) b
 |[.lst n]=>match ZA b n with
  |some ys=>.ok (WT ys,[(n,ys)]) b
  |none=>.bad
 | _=>.bad) .mk:=rfl
@[simp]theorem lh(b:CI)(k:Nat)(d:List Nat)(t:WH)(tc:CT)(c:C)(B:ZR)(S:ZU):X8 b k d t tc c B S=Zq (b B S) (λp e=>if p.1.length<lim then Zq (YS p.2 t tc c (WI k d B) p.1 e) (λys a=>.ok (.lst a.length) (a++[.lst ys])) .mk else .bad) .mk:=rfl
@[simp]theorem zeC(B:ZR)(S:ZU):NU B S=.ok (.dct S.length) (S++[.dk []]):=rfl
@[simp]theorem zeB(a b:C)(B:ZR)(S:ZU):NT a b B S=Zq (a B S) (λx d=>Zq (b B d) (λy c=>match WY x with
 |some k=>.ok (.dct c.length) (c++[.dk [(k,y)]])
 | none=>.bad) .mk) .mk:=rfl
@[simp]theorem zen(i j:Int)(S:ZU):ZI (.int i) (.int j) S=.ok (.int (i+j)) S:=rfl
@[simp]theorem zem(xs ys:yM)(S:ZU):ZI (.tup xs) (.tup ys) S=if xs.length+ys.length<=lim then .ok (.tup (xs++ys)) S else .bad:=rfl
@[simp]theorem zfS(g:Int->Int->Int)(i j:Int)(S:ZU):YR g (.int i) (.int j) S=.ok (.int (g i j)) S:=rfl
@[simp]theorem zee(i j:Int)(S:ZU):Xh (.int i) (.int j) S=if Vj i j then .ok (.int (i*j)) S else .bad:=rfl
@[simp]theorem zef(i j:Int)(S:ZU):Xg (.int i) (.int j) S=if 0<j then .ok (.int (i % j)) S else .bad:=rfl
@[simp]theorem zek(i j:Int)(S:ZU):VJ (.int i) (.int j) S=if 0<j/\j<1073741824 then .ok (.int (i / j)) S else .bad:=rfl
@[simp]theorem zec(i j:Int)(S:ZU):VI (.int i) (.int j) S=if 0<=j/\j<=1000000/\i.natAbs<18446744073709551616 then .ok (.int (i ^ j.toNat)) S else .bad:=rfl
@[simp]theorem k0(i j:Int)(S:ZU):Wb (.int i) (.int j) S=if 0<=j/\j<=1000000/\i.natAbs<18446744073709551616 then .ok (.int (i*2 ^ j.toNat)) S else .bad:=rfl
@[simp]theorem zeb(i j:Int)(S:ZU):U3 (.int i) (.int j) S=if 0<=j then .ok (.int (i / 2 ^ j.toNat)) S else .bad:=rfl
@[simp]theorem zed(i:Int)(S:ZU):VH (.int i) S=.ok (.int (-i)) S:=rfl
@[simp]theorem zel(g:Int->Int->Bool)(i j:Int)(S:ZU):Y0 g (.int i) (.int j) S=.ok (.bl (g i j)) S:=rfl
@[simp]theorem zfP(i j:Int)(S:ZU):WJ (.int i) (.int j) S=.ok (.bl (decide (i<j))) S:=rfl
theorem Dq(i j:Int):PyData.eqv (.int i) (.int j)=decide (i=j):=rfl
@[simp]theorem zfT(i j:Int)(S:ZU):Zl (.int i) (.int j) S=.ok (.bl (decide (i=j))) S:=by show R.ok (D.bl (PyData.eqv (.int i) (.int j))) S=_;rw[Dq]
@[simp]theorem zfO(i j:Int)(S:ZU):YG (.int i) (.int j) S=.ok (.bl (!decide (i=j))) S:=by show R.ok (D.bl (!PyData.eqv (.int i) (.int j))) S=_;rw[Dq]
@[simp]theorem zgT(i j:Bool)(S:ZU):Zl (.bl i) (.bl j) S=.ok (.bl (i == j)) S:=by show R.ok (D.bl (PyData.eqv (.bool i) (.bool j))) S=_;cases i<;>cases j<;>rfl
@[simp]theorem zgR(i j:Bool)(S:ZU):YG (.bl i) (.bl j) S=.ok (.bl (i != j)) S:=rfl
@[simp]theorem zfR(x:D)(S:ZU):Tq x .non S=.ok (.bl x.isNon) S:=by cases x<;>rfl
@[simp]theorem zag(x:D)(S:ZU):Rv x .non S=.ok (.bl (!x.isNon)) S:=by cases x<;>rfl
@[simp]theorem zgS(a b:Bool)(S:ZU):Tq (.bl a) (.bl b) S=.ok (.bl (a == b)) S:=rfl
@[simp]theorem zcn(a b:Bool)(S:ZU):Rv (.bl a) (.bl b) S=.ok (.bl (a != b)) S:=rfl
@[simp]theorem zgh(i j:Int)(S:ZU):Wx [.int i,.int j] S=.ok (.int (if j<i then j else i)) S:=rfl
@[simp]theorem zgi(i j:Int)(S:ZU):Xf [.int i,.int j] S=.ok (.int (if j>i then j else i)) S:=rfl
@[simp]theorem zet(i:Int)(S:ZU):Xs [.int i] S=.ok (.int i) S:=rfl
@[simp]theorem zgj(b:Bool)(S:ZU):Xs [.bl b] S=.ok (.int (if b then 1 else 0)) S:=rfl
@[simp]theorem zak(xs:yM)(S:ZU):Xu [.tup xs] S=.ok (.tup xs) S:=rfl
theorem UB{xs:yM}(h:ZA S n=Z9 xs):Xu [.lst n] S=.ok (.tup xs) S:=by show(match ZA S n with|some a=>R.ok (D.tup a) S|none=>.bad)=_;rw[h]
@[simp]theorem zer(xs:yM)(S:ZU):Zv [.tup xs] S=.ok (.int xs.length) S:=rfl
@[simp]theorem zes(xs:yM)(S:ZU):Zv [.rol xs] S=.ok (.int xs.length) S:=rfl
theorem Q9{xs:yM}(h:ZA S n=Z9 xs):Zv [.lst n] S=.ok (.int xs.length) S:=by show(match ZA S n with|some a=>R.ok (D.int a.length) S|none=>.bad)=_;rw[h]
@[simp]theorem zdf(xs:yM)(S:ZU):Qf [.tup xs] S=.ok (.lst S.length) (S++[.lst xs]):=rfl
@[simp]theorem kZ(xs:yM)(j:Int)(S:ZU):ZK (.tup xs) (.int j) S=match XN xs j with|some d=>.ok d S|none=>.bad:=rfl
@[simp]theorem zfQ(xs:yM)(j:Int)(S:ZU):ZK (.rol xs) (.int j) S=match XN xs j with|some d=>.ok d S|none=>.bad:=rfl
theorem Ve{xs:yM}(h:ZA S n=Z9 xs)(j:Int):ZK (.lst n) (.int j) S=match XN xs j with|some d=>.ok d S|none=>.bad:=by show(match ZA S n,D.int j with|some xs,.int j=>(match XN xs j with|some d=>R.ok d S|none=>.bad)| _,_=>.bad)=_;rw[h]
@[simp]theorem zfN(xs:yM)(lo hi:yG)(S:ZU):W6 (.tup xs) lo hi S=.ok (.tup (Ys xs lo hi)) S:=rfl
theorem NJ{xs:yM}(h:ZA S n=Z9 xs)(lo hi:yG):W6 (.lst n) lo hi S=.ok (.lst S.length) (S++[.lst (Ys xs lo hi)]):=by show(match ZA S n with|some xs=>R.ok (D.lst S.length) (S++[O.lst (Ys xs lo hi)])| none=>.bad)=_;rw[h]
@[simp]theorem Dp(x:a)(xs:List a):XN (x::xs) 0=Z9 x:=UO rfl
@[simp]theorem zh9(x y:a)(xs:List a):XN (x::y::xs) 1=Z9 y:=UO rfl
@[simp]theorem zh8(x y z:a)(xs:List a):XN (x::y::z::xs) 2=Z9 z:=UO rfl
@[simp]theorem zh7(x y z w:a)(xs:List a):XN (x::y::z::w::xs) 3=Z9 w:=UO rfl
structure Kp(P:Nat->Prop)(S S':ZU):Prop where
 le:S.length<=S'.length
 eq:∀j,j<S.length->¬P j->S'[j]?=S[j]?
abbrev Ex:ZU->ZU->Prop:=Kp λ_=>False
inductive Yr{α:Type}(m:R α)(r:α)(S:ZU):Prop
 |mk (S1:ZU) (e:m=.ok r S1) (x:Ex S S1)
theorem Kp.refl(P:Nat->Prop)(S:ZU):Kp P S S:=⟨qA6 _,λ_ _ _=>rfl⟩
theorem Kp.trans(a:Kp P S c)(b:Kp P c S2):Kp P S S2:=⟨qC5 a.le b.le,λj h n=>(b.eq j (qB7 h a.le) n).trans (a.eq j h n)⟩
theorem Ex.kp(h:Ex S S'):Kp P S S':=⟨h.le,λj a _=>h.eq j a (λz=>z)⟩
theorem Kp.kp(h:Kp (λ_=>False) S S'):Kp P S S':=⟨h.le,λj a _=>h.eq j a (λz=>z)⟩
theorem Kp.mono(h:Kp P S S')(m:∀j,j<S.length->P j->Q j):Kp Q S S':=⟨h.le,λj a n=>h.eq j a λz=>n (m j a z)⟩
theorem Zf(S T:ZU):Ex S (S++T):=⟨by simp,λj h _=>qA8 h⟩
theorem TV(S:ZU)(o:O):Kp (·=i) S (S.set i o):=⟨by simp,λj h n=>qE1 λz=>n z.symm⟩
theorem Kp.at(h:Kp P S a)(e:S[j]?=Z9 o)(n:¬P j):a[j]?=Z9 o:=by rw[h.eq j (qA5.mp e).1 n];exact e
theorem VA{xs:yM}(h:ZA S n=Z9 xs):S[n]?=Z9 (.lst xs):=by
 unfold ZA at h;split at h
 .simp_all
 .cases h
theorem PU{xs:yM}(h:S[n]?=Z9 (.lst xs)):ZA S n=Z9 xs:=by unfold ZA;rw[h]
theorem Kp.lst(h:Kp P S a){xs:yM}(e:ZA S j=Z9 xs)(n:¬P j):ZA a j=Z9 xs:=PU (h.at (VA e) n)
theorem PR{xs:yM}(h:ZA S n=Z9 xs):n<S.length:=(qA5.mp (VA h)).1
@[simp]theorem Y9(S:ZU)(xs:yM):ZA (S++[.lst xs]) S.length=Z9 xs:=PU (by rw[qA2 (qA6 _),qD8];rfl)
theorem UW{xs:yM}(h:ZA S n=Z9 xs):ZA (S++T) n=Z9 xs:=(Zf S T).lst h λz=>z
theorem Q8{xs ys:yM}(h:ZA S n=Z9 xs):ZA (S.set n (.lst ys)) n=Z9 ys:=PU (qD4 (PR h))
theorem PQ{xs:yM}(h:ZA S n=Z9 xs):XR "list" (.lst n) S=Z7:=by show(decide ("list" = "list")&&(ZA S n).isSome)=Z7;rw[h];rfl
theorem NI{S:ZU}{n:Nat}{ys:yM}(h:ZA S n=Z9 ys)(g:yM->yM->Option (yM×D))(xs:yM):VZ g (.lst n) xs S=match g ys xs with|some p=>.ok p.2 (S.set n (.lst p.1))| none=>.bad:=by
 unfold VZ;dsimp only;rw[VA h];dsimp only;cases g ys xs with
 |none=>rfl
 |some p=>rfl
@[simp]theorem kY(ys:yM)(x:D):UE ys [x]=if ys.length<lim then Z9 (ys++[x],.non)else Z8:=rfl
@[simp]theorem zaj(ys:yM)(i:Int)(x:D):Rq ys [.int i,x]=if ys.length<1000/\0<=i/\i.toNat<=ys.length then Z9 (ys.take i.toNat++x::ys.drop i.toNat,.non)else Z8:=rfl
theorem Do{S:ZU}{n:Nat}{ys:yM}(h:ZA S n=Z9 ys)(k:Int)(v:D):Ya (.lst n) (.int k) v S=match VQ ys.length k with|some j=>Z9 (S.set n (.lst (ys.set j v)))| none=>Z8:=by
 unfold Ya;dsimp only;rw[VA h]
 all_goals (dsimp only;cases VQ ys.length k<;>rfl)
theorem XP(S:ZU):XJ [] S:=λp h=>by cases h
theorem Vd{xs:yM}(h:ZA S n=Z9 xs):XJ [(n,xs)] S:=λp a=>by simp at a;subst a;exact h
theorem JI{xs ys:yM}(h:ZA S n=Z9 xs)(b:ZA S m=Z9 ys):XJ [(n,xs),(m,ys)] S:=λp a=>by
 simp at a;rcases a with rfl|rfl
 .exact h
 .exact b
theorem Dn{w:WV}{g:G}{b:CS}:∀(items:yM) (P:Nat->ZR->ZU->Prop) {B:ZR}{S:ZU} (k:Nat),(∀i B S,P i B S->XJ w S)->P k B S ->
  (∀i d B S,items[i]?=Z9 d->P (k+i) B S->∃f a,g d B S=.ok f a/\∃c e,(b f a=.nx c e∨b f a=.ct c e)/\P (k+i+1) c e)->∃l j,XQ w g b items B S=.nx l j/\P (k+items.length) l j
 |[],P,B,S,k,hw,h0,hs=>⟨B,S,by unfold XQ;rw[if_pos (hw k B S h0)],by simpa using h0⟩
 |d::m,P,B,S,k,hw,h0,hs=>by
  obtain⟨f,a,x,c,e,h,q⟩:=hs 0 d B S rfl (by simpa using h0);obtain⟨l,j,n,s⟩:=Dn m P (k+1) hw (by simpa using q) (λi p B S v t=>by
   obtain⟨f,a,u,c,e,r,o⟩:=hs (i+1) p B S (by exact v) (by rw[show k+(i+1)=k+1+i by lia];exact t);exact⟨f,a,u,c,e,r,by rw[show k+1+i+1=k+(i+1)+1 by lia];exact o⟩)
  refine⟨l,j,?_,by rw[qB8,show k+(m.length+1)=k+1+m.length by lia];exact s⟩;unfold XQ;rw[if_pos (hw k B S h0),x];dsimp only;rcases h with h|h
  .rw[h];exact n
  .rw[h];exact n
inductive kX(r:RS)(P:ZR->ZU->Prop):Prop
 |mk (B2:ZR) (S2:ZU) (h:r=.nx B2 S2∨r=.ct B2 S2) (p:P B2 S2)
inductive Dm(g:G)(b:CS)(d:D)(B:ZR)(S:ZU)(P:ZR->ZU->Prop):Prop
 |mk (B1:ZR) (S1:ZU) (e:g d B S=.ok B1 S1) (t:kX (b B1 S1) P)
inductive kW(r:RS)(P:ZR->ZU->Prop):Prop
 |mk (B':ZR) (S':ZU) (e:r=.nx B' S') (p:P B' S')
theorem UV(P:Nat->ZR->ZU->Prop)(l:∀i B S,P i B S->XJ w S)(a:P 0 B S)
  (h:∀i d B S,items[i]?=Z9 d->P i B S->Dm g b d B S (P (i+1))):kW (XQ w g b items B S) (P items.length):=by
 obtain⟨k,j,e,p⟩:=Dn items P 0 l a (λi d B S r m=>by
  obtain⟨t,n,q,o,s,f,c⟩:=h i d B S r (by simpa using m);exact⟨t,n,q,o,s,f,by simpa using c⟩)
 exact⟨k,j,e,by simpa using p⟩
inductive Dl(m:R (yM))(r:yM)(P:ZU->Prop):Prop
 |mk (S':ZU) (e:m=.ok r S') (p:P S')
theorem NH{b:Type}(e:b->D){w:WV}{t:WH}{tc:CT}{c:C}{B0:ZR}(P:ZU->Prop)(g:∀S,P S->XJ w S)(p:b->Bool)(f:b->D):∀(l:List b) {S:ZU},P S ->
  (∀a∈l,∀S,P S->∃j,T5 t (e a) B0=Z9 j/\∃i,tc j S=.ok (p a) i/\(p a=Z5->P i)/\(p a=Z7->∃r,c j i=.ok (f a) r/\P r))->Dl (YS w t tc c B0 (l.map e) S) ((l.filter p).map f) P
 |[],S,h0,hs=>⟨S,by rw[qJ2];unfold YS;rw[if_pos (g S h0)];rfl,h0⟩
 |d::s,S,h0,hs=>by
  obtain⟨j,A,i,u,x,y⟩:=hs d (by simp) S h0;rw[qB2];unfold YS;rw[if_pos (g S h0),A];dsimp only;rw[W4,u,VX];cases h:p d with
  |false =>
   obtain⟨o,q,m⟩:=NH e P g p f s (x h) λk n=>hs k (by simp[n]);exact⟨o,by rw[if_neg qB0,q,qG6,h];rfl,m⟩
  |true =>
   obtain⟨r,v,z⟩:=y h;obtain⟨o,q,m⟩:=NH e P g p f s z λk n=>hs k (by simp[n]);exact⟨o,by rw[if_pos rfl,W4,v,VX,W4,q,VX,qG6,h];rfl,m⟩
theorem PP{i:Type}(e:i->D)(P:ZU->Prop)(p:∀S,P S->XJ w S)(f:i->D)(l:List i)(j:P S)
  (n:∀a∈l,∀S,P S->∃g,T5 t (e a) B0=Z9 g/\∃b,c g S=.ok (f a) b/\P b):Dl (YS w t (λ_=>ret Z7) c B0 (l.map e) S) (l.map f) P:=by
 obtain⟨o,e,h⟩:=NH e (tc:=λ_=>ret Z7) P p (λ_=>Z7) f l j (λd m S h=>by
  obtain⟨g,r,b,k,q⟩:=n d m S h;exact⟨g,r,S,rfl,(λz=>by cases z),λ_=>⟨b,k,q⟩⟩)
 exact⟨o,by rw[e,qO9.mpr (by simp)],h⟩
theorem Q7{g:Type}(e:g->D)(m:XJ w S)(p:g->Bool)(f:g->D)(l:List g)
  (k:∀a∈l,∃d,T5 t (e a) B0=Z9 d/\tc d S=.ok (p a) S/\(p a=Z7->c d S=.ok (f a) S)):YS w t tc c B0 (l.map e) S=.ok ((l.filter p).map f) S:=by
 obtain⟨b,q,h⟩:=NH e (λb=>b=S) (λb z=>z▸m) p f l rfl (λa o b z=>by
  subst z;obtain⟨d,n,j,i⟩:=k a o;exact⟨d,n,b,j,λ_=>rfl,λz=>⟨b,i z,rfl⟩⟩)
 rw[q,h]
theorem V8{d:Type}(e:d->D)(j:XJ w S)(f:d->D)(l:List d)
  (k:∀a∈l,∃b,T5 t (e a) B0=Z9 b/\c b S=.ok (f a) S):YS w t (λ_=>ret Z7) c B0 (l.map e) S=.ok (l.map f) S:=by
 have:=Q7 e (tc:=λ_=>ret Z7) j (λ_=>Z7) f l (λa i=>by
  obtain⟨b,h,g⟩:=k a i;exact⟨b,h,rfl,λ_=>g⟩)
 rw[this,qO9.mpr (by simp)]
theorem JH{t:CT}{b:CS}(P:Nat->ZR->ZU->Prop)(Q:ZR->ZU->Prop)(j:∀m B S,P m B S->(∃a,t B S=.ok Z5 a/\Q B a)∨∃a,t B S=.ok Z7 a/\∃c d,(b B a=.nx c d∨b B a=.ct c d)/\∃f,f<m/\P f c d):
  ∀(k m:Nat) (B:ZR) (S:ZU),m<k->P m B S->∃i g,Vg k t b B S=.nx i g/\Q i g
 |0,m,B,S,hk,h=>absurd hk (Nat.not_lt_zero _)
 |k+1,m,B,S,hk,h=>by
  unfold Vg;rcases j m B S h with⟨a,e,q⟩| ⟨a,e,c,d,o,f,p,l⟩
  .rw[e];exact⟨B,a,rfl,q⟩
  .obtain⟨i,g,n,q⟩:=JH P Q j k f c d (by lia) l
   grind
def Y5(fs:yA):List (Zz×D):=fs.map λx=>((Sum.inl x:Zz),D.bl Z7)
def YM(fs:yA)(a:Int):yA:=if a∈fs then fs else fs++[a]
theorem kU(fs:yA)(a:Int):((Y5 fs).any λb=>decide (b.1=(Sum.inl a:Zz)))=decide (a∈fs):=by
 induction fs with
 |nil=>rfl
 |cons x r c =>
  show(decide ((Sum.inl x)=Sum.inl a)||(Y5 r).any _)=_
  grind
theorem kR(fs:yA)(a:Int):Zo (Y5 fs) (.inl a) (.bl Z7)=Y5 (YM fs a):=by
 unfold Zo YM;rw[kU];by_cases h:a∈fs
 .rw[if_pos (by simpa using h),if_pos h];unfold Y5
  simp_all
 .rw[if_neg (by simpa using h),if_neg h];unfold Y5;simp
theorem kQ(fs:yA)(a:Int):Zk (Y5 fs) (.inl a)=if a∈fs then Z9 (.bl Z7)else Z8:=by
 unfold Zk
 induction fs with
 |nil=>rfl
 |cons x r b =>
  show Option.map _ (List.find? _ (((Sum.inl x),D.bl Z7)::Y5 r))=_;rw[qJ6];by_cases h:x=a
  .subst h;simp
  .have:(Sum.inl x:Zz)≠Sum.inl a:=λz=>h (Sum.inl.inj z);simp only[this,decide_false];rw[b];simp[Ne.symm h]
theorem JG(h:S[m]?=Z9 (.dk (Y5 fs)))(neg:Bool)(a:Int):YA neg (.int a) (.dct m) S=.ok (.bl (if neg then !decide (a∈fs)else decide (a∈fs))) S:=by
 have e:dictAt S m (.int a)=Z9 (if a∈fs then Z9 (.bl Z7)else Z8):=by unfold dictAt;rw[h];show Z9 (Zk (Y5 fs) (.inl a))=_;rw[kQ]
 show(match dictAt S m (.int a)with|some o=>R.ok (D.bl (if neg then !o.isSome else o.isSome)) S|none=>.bad)=_;rw[e];by_cases b:a∈fs
 .simp[b]
 .simp[b]
theorem Dk(h:S[m]?=Z9 (.dk (Y5 fs)))(b:fs.length<lim)(a:Int):Ya (.dct m) (.int a) (.bl Z7) S=Z9 (S.set m (.dk (Y5 (YM fs a)))):=by unfold Ya;dsimp only;rw[h];show(if(Y5 fs).length<lim then Z9 (S.set m (.dk (Zo (Y5 fs) (.inl a) (.bl Z7))))else Z8)=_;rw[if_pos (by unfold Y5;rw[qA1];exact b),kR]
theorem Dj:x∈YM fs a↔x∈fs∨x=a:=by
 unfold YM;split
 .simp_all
 .simp
@[simp]theorem zdO(d:D)(B:ZR):T5 .one d B=Z9 (B.set 0 (Z9 d)):=rfl
@[simp]theorem zdN(x y:D)(B:ZR):T5 (.many 2) (.tup [x,y]) B=Z9 ((B.set 0 (Z9 x)).set 1 (Z9 y)):=rfl
@[simp]theorem zgN(k:Nat)(a:List Nat)(B:ZR):WI k a B=qI9 k Z8++a.map λj=>(B[j]?).getD Z8:=rfl
theorem Di{g f:Nat}{b:CS}{e:yM}{S:ZU}(h:e.length=g):ZD g f b e S=match b (YY f e) S with
 |.nx _ a=>.ok .non a
 |.rt d a=>.ok d a
 |.er c a=>.er c a
 |_=>.bad:=by
 unfold ZD;rw[if_pos h]
 all_goals (cases b (YY f e) S<;>rfl)
theorem Zj{f c:Nat}{b:CS}{a:yM}{S S':ZU}{d:D}(h:a.length=f)(e:b (YY c a) S=.rt d S'):ZD f c b a S=.ok d S':=by rw[Di h,e]
theorem Dh(h:a.length=d)(e:b (YY c a) S=.nx B S'):ZD d c b a S=.ok .non S':=by rw[Di h,e]
def plain:Nat->D->Bool
 |0,_=>Z5
 |n+1,d=>match d with
  |.int _=>Z7
  |.non=>Z7
  |.str x=>PyData.strOk x
  |.tup a=>a.all (plain n)
  |_=>Z5
def YI:Nat->D->vF
 |0,_=>.none
 |n+1,d=>match d with
  |.int i=>.int i
  |.str x=>.str x
  |.tup a=>.tuple (a.map (YI n))
  |_=>.none
theorem Dg{b c:Type}{f:b->Option c}{g:b->c}{l:List b}(h:∀x∈l,f x=Z9 (g x)):l.mapM f=Z9 (l.map g):=by
 induction l with
 |nil=>rfl
 |cons a r e =>
  rw[qF6,h a (by simp),e λx d=>h x (by simp[d])];rfl
theorem NG:∀{n:Nat}{d:D} (S:ZU),plain n d=Z7->Yt n S d=Z9 (YI n d)
 |0,d,S,h=>by cases h
 |n+1,d,S,h=>by
  unfold plain at h;unfold Yt YI;cases d with
  |int i=>rfl
  |non=>rfl
  |str x=>dsimp only at h ⊢;rw[if_pos h]
  |tup b =>
   dsimp only at h ⊢;rw[Dg λx a=>NG S (qD0.mp h x a)];rfl
  |_=>cases h
theorem NF{n:Nat}(a:∀d e,plain n d=Z7->plain n e=Z7->(PyData.eqv (YI n d) (YI n e)=Z7↔d=e)):∀(xs ys:yM),xs.all (plain n)=Z7->ys.all (plain n)=Z7->(PyData.eqvAll (xs.map (YI n)) (ys.map (YI n))=Z7↔xs=ys)
 |[],[],_,_=>by simp[PyData.eqvAll]
 |[],y::ys,_,_=>by simp[PyData.eqvAll]
 |x::xs,[],_,_=>by simp[PyData.eqvAll]
 |x::xs,y::ys,h1,h2=>by rw[qJ3,qC1]at h1 h2;show(PyData.eqv (YI n x) (YI n y)&&PyData.eqvAll (xs.map (YI n)) (ys.map (YI n)))=Z7↔_;rw[qC1,a x y h1.1 h2.1,NF a xs ys h1.2 h2.2,qK0.injEq]
theorem ND:∀(n:Nat) (d e:D),plain n d=Z7->plain n e=Z7->(PyData.eqv (YI n d) (YI n e)=Z7↔d=e)
 |0,d,e,h,_=>by cases h
 |n+1,d,e,h1,h2=>by
  unfold YI;cases d with
  |int i =>
   cases e with
   |int j=>simp[PyData.eqv]
   |non=>simp[PyData.eqv]
   |str y=>simp[PyData.eqv]
   |tup a=>simp[PyData.eqv]
   |_=>cases h2
  |non =>
   cases e with
   |int j=>simp[PyData.eqv]
   |non=>simp[PyData.eqv]
   |str y=>simp[PyData.eqv]
   |tup a=>simp[PyData.eqv]
   |_=>cases h2
  |str x =>
   cases e with
   |int j=>simp[PyData.eqv]
   |non=>simp[PyData.eqv]
   |str y=>simp[PyData.eqv]
   |tup a=>simp[PyData.eqv]
   |_=>cases h2
  |tup b =>
   cases e with
   |int j=>simp[PyData.eqv]
   |non=>simp[PyData.eqv]
   |str y=>simp[PyData.eqv]
   |tup a =>
    show PyData.eqvAll (b.map (YI n)) (a.map (YI n))=Z7↔_;rw[NF (ND n) b a h1 h2];simp
   |_=>cases h2
  |_=>cases h1
def R7{a:Type}(x y:a):Bool:=@decide (x=y) (Classical.propDecidable _)
theorem Q6{x y:a}:R7 x y=Z7↔x=y:=@decide_eq_true_iff _ (Classical.propDecidable _)
@[simp]theorem Df(x:a):R7 x x=Z7:=Q6.mpr rfl
theorem UA(h:a=Z7↔b=Z7):a=b:=by simp_all
theorem kP(S:ZU)(d:plain 40 x=Z7)(c:plain 40 y=Z7):YG x y S=.ok (.bl (!R7 x y)) S:=by
 unfold YG;split
 .rename_i a b;rw[UA (a:=decide (a=b)) (b:=R7 (D.str a) (D.str b)) (by rw[Q6,decide_eq_true_iff];exact⟨λq=>by rw[q],λq=>by injection q⟩)]
 .rw[NG S d,NG S c];dsimp only;rw[UA ((ND 40 x y d c).trans Q6.symm)]
theorem NC{xs:yM}(h:ZA S k=Z9 xs)(b:xs.all (plain 39)=Z7):Yt 40 S (.lst k)=Z9 (.list (xs.map (YI 39))):=by show(match ZA S k with|some xs=>(xs.mapM (Yt 39 S)).map PyData.list|none=>Z8)=_;rw[h];dsimp only;rw[Dg (g:=YI 39) λx a=>NG S (qD0.mp b x a)];rfl
theorem kO{xs ys:yM}(f:ZA S a=Z9 xs)(e:ZA S b=Z9 ys)(c:xs.all (plain 39)=Z7)(d:ys.all (plain 39)=Z7):Zl (.lst a) (.lst b) S=.ok (.bl (R7 xs ys)) S:=by unfold Zl;dsimp only;rw[NC f c,NC e d];dsimp only;rw[UA ((show PyData.eqv (.list (xs.map (YI 39))) (.list (ys.map (YI 39)))=Z7↔xs=ys from NF (ND 39) xs ys c d).trans Q6.symm)]
theorem kM{xs ys:yM}(f:ZA S a=Z9 xs)(e:ZA S b=Z9 ys)(c:xs.all (plain 39)=Z7)(d:ys.all (plain 39)=Z7):YG (.lst a) (.lst b) S=.ok (.bl (!R7 xs ys)) S:=by unfold YG;dsimp only;rw[NC f c,NC e d];dsimp only;rw[UA ((show PyData.eqv (.list (xs.map (YI 39))) (.list (ys.map (YI 39)))=Z7↔xs=ys from NF (ND 39) xs ys c d).trans Q6.symm)]
theorem kL(h:0<n)(i:Int):plain n (.int i)=Z7:=by
 cases n with
 |zero=>cases h
 |succ n=>rfl
theorem De(h:0<n)(l:yA):∀x∈l.map D.int,plain n x=Z7:=λx a=>by obtain⟨i,_,rfl⟩:=qC8.mp a;exact kL h i
@[simp]theorem zVV(i:Int)(S:ZU):Yf [.int i,.ty "bool"] S=.ok (.bl Z5) S:=rfl
@[simp]theorem zX6(i:Int)(S:ZU):Yf [.int i,.ty "int"] S=.ok (.bl Z7) S:=rfl
@[simp]theorem zUu(i:Int)(S:ZU):Yf [.int i,.ty "tuple"] S=.ok (.bl Z5) S:=rfl
@[simp]theorem zVU(i:Int)(S:ZU):Yf [.int i,.ty "list"] S=.ok (.bl Z5) S:=rfl
@[simp]theorem zUw(b:Bool)(S:ZU):Yf [.bl b,.ty "bool"] S=.ok (.bl Z7) S:=rfl
@[simp]theorem zVW(b:Bool)(S:ZU):Yf [.bl b,.ty "int"] S=.ok (.bl Z7) S:=rfl
@[simp]theorem zSP(b:Bool)(S:ZU):Yf [.bl b,.ty "tuple"] S=.ok (.bl Z5) S:=rfl
@[simp]theorem zUv(b:Bool)(S:ZU):Yf [.bl b,.ty "list"] S=.ok (.bl Z5) S:=rfl
@[simp]theorem zPo  (S:ZU):Yf [.non,.ty "bool"] S=.ok (.bl Z5) S:=rfl
@[simp]theorem zQe  (S:ZU):Yf [.non,.ty "int"] S=.ok (.bl Z5) S:=rfl
@[simp]theorem zNu  (S:ZU):Yf [.non,.ty "tuple"] S=.ok (.bl Z5) S:=rfl
@[simp]theorem zPn  (S:ZU):Yf [.non,.ty "list"] S=.ok (.bl Z5) S:=rfl
@[simp]theorem zVT(x:Str)(S:ZU):Yf [.str x,.ty "bool"] S=.ok (.bl Z5) S:=rfl
@[simp]theorem zX5(x:Str)(S:ZU):Yf [.str x,.ty "int"] S=.ok (.bl Z5) S:=rfl
@[simp]theorem zUt(x:Str)(S:ZU):Yf [.str x,.ty "tuple"] S=.ok (.bl Z5) S:=rfl
@[simp]theorem zVS(x:Str)(S:ZU):Yf [.str x,.ty "list"] S=.ok (.bl Z5) S:=rfl
@[simp]theorem zSO(xs:yM)(S:ZU):Yf [.tup xs,.ty "bool"] S=.ok (.bl Z5) S:=rfl
@[simp]theorem zUs(xs:yM)(S:ZU):Yf [.tup xs,.ty "int"] S=.ok (.bl Z5) S:=rfl
@[simp]theorem zR1(xs:yM)(S:ZU):Yf [.tup xs,.ty "tuple"] S=.ok (.bl Z7) S:=rfl
@[simp]theorem zSN(xs:yM)(S:ZU):Yf [.tup xs,.ty "list"] S=.ok (.bl Z5) S:=rfl
@[simp]theorem zfa(i j:Nat)(a b:C)(B:ZR)(S:ZU):Xr i j a b B S=rs (a B S) (λx c=>rs (b B c) (λy d=>.nx ((B.set i (Z9 x)).set j (Z9 y)) d) .mk) .mk:=by
 unfold Xr rs;cases a B S with
 |ok x c=>dsimp only;cases b B c<;>rfl
 |_=>rfl
@[simp]theorem zd1(a:CA)(B:ZR)(S:ZU):N0 a B S=Zq (a B S) (λxs b=>match xs with
 |[.lst n,.tup ys,.tup us]=>match ZA b n with
  |some xs=>.ok (zipD3 xs ys us,[(n,xs)]) b
  |none=>.bad
 | _=>.bad) .mk:=rfl
theorem JF(ns:yA):Wy (ns.map D.int)=Z9 ns:=by
 induction ns with
 |nil=>rfl
 |cons a r b=>show(Wy (r.map D.int)).map (a::·)=_;rw[b];rfl
theorem kK(h:ZA S n=Z9 (ns.map D.int))(a:ns.length<64):Xe [.lst n] S=.ok (.lst S.length) (S++[.lst ((Ww ns).map D.int)]):=by unfold Xe;simp only[h,Option.bind_some,JF,if_pos a]
theorem kJ(xs:yM)(a:0<=k):Ys xs Z8 (Z9 k)=xs.take k.toNat:=by
 unfold Ys;rw[show k=((k.toNat:Nat):Int) by lia,HT.sIx_nat,HT.sIx_none,Nat.sub_zero,qO5,qH3];by_cases h:k.toNat<=xs.length
 .rw[qL8 h]
 .rw[qN5 (by lia),qK9,qF5 (by lia)]
theorem JE(xs:yM)(a:0<=k):Ys xs (Z9 k) Z8=xs.drop k.toNat:=by
 unfold Ys;rw[show k=(k.toNat:Int) by lia,HT.sIx_nat,HT.sIx_none,qH3];by_cases h:k.toNat<=xs.length
 .rw[qL8 h,qF5 (by simp)]
 .rw[qN5 (by lia),qD8,List.take_zero,qN6 (by lia)]
theorem Dd{m:Type}(e:m->D){w:WV}{g:G}{b:CS}(P:ZR->ZU->Prop)(R:ZU->Prop)(q:∀B S,P B S->XJ w S)(p:m->Bool)(r:m->D):∀(l:List m) {B:ZR}{S:ZU},P B S ->
  (∀a∈l,∀B S,P B S->∃j i,g (e a) B S=.ok j i/\((p a=Z7/\∃f,b j i=.rt (r a) f/\R f)∨(p a=Z5/\∃o f,(b j i=.nx o f∨b j i=.ct o f)/\P o f))) ->
  (∃a d,l.find? p=Z9 a/\XQ w g b (l.map e) B S=.rt (r a) d/\R d)∨(∃k d,l.find? p=Z8/\XQ w g b (l.map e) B S=.nx k d/\P k d)
 |[],B,S,h0,hs=>.inr ⟨B,S,rfl,by rw[qJ2];unfold XQ;rw[if_pos (q B S h0)],h0⟩
 |a::l,B,S,h0,hs=>by
  obtain⟨j,i,v,h⟩:=hs a (by simp) B S h0;rw[qB2];unfold XQ;rw[if_pos (q B S h0),v];dsimp only;rcases h with⟨n,f,c,t⟩| ⟨n,o,f,c,s⟩
  .exact .inl ⟨a,f,by rw[qJ6,n],by rw[c],t⟩
  .rcases Dd e P R q p r l s (λa u=>hs a (by simp[u]))with⟨a',d,f1,f2,f3⟩| ⟨k,d,f1,f2,f3⟩
   .exact .inl ⟨a',d,by rw[qJ6,n];exact f1,by rcases c with c|c<;>rw[c]<;>exact f2,f3⟩
   .exact .inr ⟨k,d,by rw[qJ6,n];exact f1,by rcases c with c|c<;>rw[c]<;>exact f2,f3⟩
theorem kI{b:Type}(l:List b)(f g h:b->D):zipD3 (l.map f) (l.map g) (l.map h)=l.map λa=>.tup [f a,g a,h a]:=by unfold zipD3;rw[qN2,qN2,qC6];rfl
theorem kH{xs:yM}(h:ZA S n=Z9 xs)(a:List G)(B:ZR):gT a (.lst n) B S=U1 a xs B S:=by unfold gT;dsimp only;rw[h]
theorem PN{xs ys:yM}(b:ZA S n=Z9 xs)(a:ZA S m=Z9 ys)(h:xs.length+ys.length<=lim):ZI (.lst n) (.lst m) S=.ok (.lst S.length) (S++[.lst (xs++ys)]):=by show(match S[n]?,S[m]? with|some (O.lst xs),Z9 (O.lst ys)=>(if xs.length+ys.length<=lim then R.ok (D.lst S.length) (S++[O.lst (xs++ys)])else .bad)| _,_=>.bad)=_;rw[VA b,VA a];dsimp only;rw[if_pos h]
@[simp]theorem zej(x:D)(n:Nat)(S:ZU):YQ x (.dct n) S=YA Z5 x (.dct n) S:=by cases x<;>rfl
@[simp]theorem zeh(x:D)(n:Nat)(S:ZU):YQ x (.lst n) S=YA Z5 x (.lst n) S:=by cases x<;>rfl
@[simp]theorem zeg(x:D)(ys:yM)(S:ZU):YQ x (.tup ys) S=YA Z5 x (.tup ys) S:=by cases x<;>rfl
@[simp]theorem zei(i:Int)(y:D)(S:ZU):YQ (.int i) y S=YA Z5 (.int i) y S:=by cases y<;>rfl
@[simp]theorem zco(xs:yM)(y:D)(S:ZU):YQ (.tup xs) y S=YA Z5 (.tup xs) y S:=by cases y<;>rfl
@[simp]theorem zal(n:Nat)(S:ZU):T3 [.lst n] S=Sm [.lst n] S:=rfl
@[simp]theorem zXf(n:Nat)(S:ZU):T1 [.lst n] S=Xe [.lst n] S:=rfl
@[simp]theorem zXe(xs:yM)(S:ZU):T1 [.tup xs] S=Xe [.tup xs] S:=rfl
end Lake
namespace Internal
open PySem Lake
def R5(cl:ZQ):CS :=
 (ZV (ZM (Sy (ZT Yf (ZS [(ZY 0),(ZX (.ty "int"))])) (Oa (ZT Yf (ZS [(ZY 0),(ZX (.ty "bool"))])))))
  ZL)
def Uz(cl:Nat->ZQ):Prop:=∀n,cl (n+1) "is_whole"=ZD 1 1 (R5 (cl n))
def Ti(cl:ZQ):CS :=
 (ZV (ZM (Sy (ZT (cl "is_whole") (ZS [(ZY 0)])) (VM (Y0 λi j=>decide (i<=j)) (Y0 λi j=>decide (i<=j)) (ZX (.int 0)) (ZY 0) (ZX (.int 1)))))
  ZL)
def NB(cl:Nat->ZQ):Prop:=∀n,cl (n+1) "is_bit"=ZD 1 1 (Ti (cl n))
def NA(cl:ZQ):C :=
 (ZT (cl "is_whole") (ZS [(ZY 0)]))
def Nz(cl:ZQ):CS :=
 (ZV (Zg (YO (XA (Zb (ZT Yf (ZS [(ZY 2),(ZX (.ty "tuple"))])))) (Zs (ZW YG (ZT Zv (ZS [(ZY 2)])) (ZX (.int 4))))) (ZV (ZM (ZX (.bl Z5)))
  ZL) ZL)
  (ZV (Zg (XA (Zb (ZT (Xz λbs=>bs.all id) (ZS [(X8 (Za (ZY 2)) 1 [] .one (λ_=>ret Z7) (NA cl))])))) (ZV (ZM (ZX (.bl Z5)))
  ZL) ZL)
  (ZV (Zg (XA (Qh (Y0 λi j=>decide (i<=j)) WJ WJ (ZX (.int 0)) (ZW ZK (ZY 2) (ZX (.int 0))) (ZW ZK (ZY 2) (ZX (.int 1))) (ZY 1))) (ZV (ZM (ZX (.bl Z5)))
  ZL) ZL)
  (ZV (ZM (Sy (VM (Y0 λi j=>decide (i<=j)) WJ (ZX (.int 0)) (ZW ZK (ZY 2) (ZX (.int 2))) (ZY 0)) (ZT (cl "is_bit") (ZS [(ZW ZK (ZY 2) (ZX (.int 3)))]))))
  ZL))))
def JD(cl:Nat->ZQ):Prop:=∀n,cl (n+1) "is_contact"=ZD 3 3 (Nz (cl n))
def JC(cl:ZQ):C :=
 (ZT (cl "is_contact") (ZS [(ZY 1),(ZY 2),(ZY 0)]))
def Ny(cl:ZQ):CS :=
 (ZV (Zg (YO (XA (Zb (ZT Yf (ZS [(ZY 0),(ZX (.ty "tuple"))])))) (Zs (ZW YG (ZT Zv (ZS [(ZY 0)])) (ZX (.int 3))))) (ZV (ZM (ZX (.bl Z5)))
  ZL) ZL)
  (ZV (ZE (ZW ZK (ZY 0) (ZX (.int 0))) (gN 1))
  (ZV (ZE (ZW ZK (ZY 0) (ZX (.int 1))) (gN 2))
  (ZV (ZE (ZW ZK (ZY 0) (ZX (.int 2))) (gN 3))
  (ZV (Zg (YO (XA (Zb (ZT (cl "is_whole") (ZS [(ZY 1)])))) (XA (Zs (VM (Y0 λi j=>decide (i<=j)) (Y0 λi j=>decide (i<=j)) (ZX (.int 1)) (ZY 1) (ZX (.int 4)))))) (ZV (ZM (ZX (.bl Z5)))
  ZL) ZL)
  (ZV (Zg (YO (XA (Zb (ZT (cl "is_whole") (ZS [(ZY 2)])))) (XA (Zs (VM (Y0 λi j=>decide (i<=j)) (Y0 λi j=>decide (i<=j)) (ZX (.int 2)) (ZY 2) (ZX (.int 7)))))) (ZV (ZM (ZX (.bl Z5)))
  ZL) ZL)
  (ZV (Zg (YO (XA (Zb (ZT Yf (ZS [(ZY 3),(ZX (.ty "tuple"))])))) (Zs (ZW (Y0 λi j=>decide (j<i)) (ZT Zv (ZS [(ZY 3)])) (ZX (.int 16))))) (ZV (ZM (ZX (.bl Z5)))
  ZL) ZL)
  (ZV (ZM (ZT (Xz λbs=>bs.all id) (ZS [(X8 (Za (ZY 3)) 1 [1,2] .one (λ_=>ret Z7) (JC cl))])))
  ZL))))))))
def Dc(cl:Nat->ZQ):Prop:=∀n,cl (n+1) "is_net"=ZD 1 4 (Ny (cl n))
def JB(cl:ZQ):C :=
 (ZW ZI (Y6 (ZS [(ZX (.int 0))])) (ZY 0))
def JA(cl:ZQ):C :=
 (ZW ZI (Y6 (ZS [(ZX (.int 1))])) (ZY 0))
def Jz(cl:ZQ):CS :=
 (ZV (ZE (ZW ZI (X8 (Za (ZY 1)) 1 [] .one (λ_=>ret Z7) (JB cl)) (X8 (Za (ZY 1)) 1 [] .one (λ_=>ret Z7) (JA cl))) (gN 1))
  ZL)
def Nx(cl:ZQ):CS :=
 (ZV (ZE (YZ (ZS [(Y6 (ZS []))])) (gN 1))
  (ZV (YE (T7 (ZS [(ZY 0)])) (gN 2) (Jz cl))
  (ZV (ZM (ZY 1))
  ZL)))
def Jy(cl:Nat->ZQ):Prop:=∀n,cl (n+1) "settings"=ZD 1 3 (Nx (cl n))
def Nw(cl:ZQ):CS :=
 (ZV (ZM (ZW Zl (ZW ZK (ZY 1) (ZW ZK (ZY 0) (ZX (.int 2)))) (ZW ZK (ZY 0) (ZX (.int 3)))))
  ZL)
def PM(cl:Nat->ZQ):Prop:=∀n,cl (n+1) "is_shut"=ZD 2 2 (Nw (cl n))
def Nv(cl:ZQ):CS :=
 (ZV (Zg (Zs (ZW YG (ZW YQ (ZW ZK (ZY 4) (ZX (.int 0))) (ZY 2)) (ZW YQ (ZW ZK (ZY 4) (ZX (.int 1))) (ZY 2)))) (ZV (ZE (ZX (.bl Z7)) (gS (ZY 2) (ZW ZK (ZY 4) (ZX (.int 0)))))
  (ZV (ZE (ZX (.bl Z7)) (gS (ZY 2) (ZW ZK (ZY 4) (ZX (.int 1)))))
  (ZV (ZE (ZX (.bl Z7)) (gN 3))
  ZL))) ZL)
  ZL)
def Nu(cl:ZQ):CS :=
 (ZV (ZE (ZX (.bl Z5)) (gN 3))
  (ZV (YE (Za (ZY 1)) (gN 4) (Nv cl))
  ZL))
def Nt(cl:ZQ):CS :=
 (ZV (ZE (NT (ZY 0) (ZX (.bl Z7))) (gN 2))
  (ZV (ZE (ZX (.bl Z7)) (gN 3))
  (ZV (Vg Sd (Zb (ZY 3)) (Nu cl))
  (ZV (ZM (ZY 2))
  ZL))))
def Th(cl:Nat->ZQ):Prop:=∀n,cl (n+1) "places_from"=ZD 2 5 (Nt (cl n))
def Nr(cl:ZQ):CS :=
 (ZV (ZM (ZW YQ (ZX (.int 1)) (ZT (cl "places_from") (ZS [(ZX (.int 0)),(ZY 0)]))))
  ZL)
def Q5(cl:Nat->ZQ):Prop:=∀n,cl (n+1) "joins"=ZD 1 1 (Nr (cl n))
def Jx(cl:ZQ):CT :=
 (Zb (ZT (cl "is_shut") (ZS [(ZY 0),(ZY 1)])))
def Jw(cl:ZQ):C :=
 (ZY 0)
def Nq(cl:ZQ):CS :=
 (ZV (ZM (X8 (Za (ZW ZK (ZY 0) (ZX (.int 2)))) 1 [1] .one (Jx cl) (Jw cl)))
  ZL)
def Np(cl:Nat->ZQ):Prop:=∀n,cl (n+1) "shut_contacts"=ZD 2 2 (Nq (cl n))
def Nn(cl:ZQ):CS :=
 (ZV (ZM (ZT (cl "joins") (ZS [(ZT (cl "shut_contacts") (ZS [(ZY 0),(ZY 1)]))])))
  ZL)
def Jv(cl:Nat->ZQ):Prop:=∀n,cl (n+1) "lets"=ZD 2 2 (Nn (cl n))
def Ju(cl:ZQ):C :=
 (UG (Zb (ZT (cl "lets") (ZS [(ZY 1),(ZY 0)]))) (ZX (.int 1)) (ZX (.int 0)))
def Nl(cl:ZQ):CS :=
 (ZV (ZM (ZT Xu (ZS [(X8 (Za (ZT (cl "settings") (ZS [(ZW ZK (ZY 0) (ZX (.int 0)))]))) 1 [0] .one (λ_=>ret Z7) (Ju cl))])))
  ZL)
def Da(cl:Nat->ZQ):Prop:=∀n,cl (n+1) "function_of"=ZD 1 1 (Nl (cl n))
def Nk(cl:ZQ):CS :=
 (ZV (ZM (ZW ZI (ZT Xu (ZS [(ZT Xe (ZS [(YZ (ZS [(ZW ZK (ZY 1) (ZW ZK (ZY 0) (ZX (.int 0)))),(ZW ZK (ZY 1) (ZW ZK (ZY 0) (ZX (.int 1))))]))]))])) (Vk W6 (ZY 0) (Vl (ZX (.int 2))) Vm)))
  ZL)
def Jt(cl:Nat->ZQ):Prop:=∀n,cl (n+1) "moved_contact"=ZD 2 2 (Nk (cl n))
def Js(cl:ZQ):C :=
 (ZT (cl "moved_contact") (ZS [(ZY 0),(ZY 1)]))
def Nj(cl:ZQ):CS :=
 (ZV (ZM (ZT Xu (ZS [(X8 (Za (ZY 0)) 1 [1] .one (λ_=>ret Z7) (Js cl))])))
  ZL)
def C9(cl:Nat->ZQ):Prop:=∀n,cl (n+1) "moved"=ZD 2 2 (Nj (cl n))
def Ni(cl:ZQ):CS :=
 (ZV (Zg (Zs (ZW (Y0 λi j=>decide (j<i)) (ZY 1) (ZX (.int 7)))) (ZV YF
  ZL) ZL)
  (ZV (Zg (Zs (ZW (Y0 λi j=>decide (j<i)) (ZT Zv (ZS [(ZY 2)])) (ZX (.int 16)))) (ZV YF
  ZL) ZL)
  (ZV (ZM (Y6 (ZS [(ZY 0),(ZY 1),(ZY 2)])))
  ZL)))
def Nh(cl:Nat->ZQ):Prop:=∀n,cl (n+1) "net_within"=ZD 3 3 (Ni (cl n))
def PL(cl:ZQ):CS :=
 (ZV (ZE (ZW (YR λi j=>i - j) (ZW ZI (ZW ZK (ZY 0) (ZX (.int 1))) (ZW ZK (ZY 1) (ZX (.int 1)))) (ZX (.int 2))) (gN 2))
  (ZV (ZE (ZT (cl "moved") (ZS [(ZW ZK (ZY 0) (ZX (.int 2))),(ZW ZI (YZ (ZS [(ZX (.int 0)),(ZY 2)])) (ZT WE (ZS [(ZX (.int 2)),(ZW ZK (ZY 0) (ZX (.int 1)))])))])) (gN 3))
  (ZV (ZE (ZT (cl "moved") (ZS [(ZW ZK (ZY 1) (ZX (.int 2))),(ZW ZI (YZ (ZS [(ZY 2),(ZX (.int 1))])) (ZT WE (ZS [(ZW ZK (ZY 0) (ZX (.int 1))),(ZY 2)])))])) (gN 4))
  (ZV (ZM (ZT (cl "net_within") (ZS [(ZW ZK (ZY 0) (ZX (.int 0))),(ZW ZI (ZY 2) (ZX (.int 1))),(ZW ZI (ZY 3) (ZY 4))])))
  ZL))))
def C8(cl:Nat->ZQ):Prop:=∀n,cl (n+1) "in_row"=ZD 2 5 (PL (cl n))
def PK(cl:ZQ):CS :=
 (ZV (ZE (ZW (YR λi j=>i - j) (ZW ZI (ZW ZK (ZY 0) (ZX (.int 1))) (ZW ZK (ZY 1) (ZX (.int 1)))) (ZX (.int 2))) (gN 2))
  (ZV (ZE (ZT (cl "moved") (ZS [(ZW ZK (ZY 1) (ZX (.int 2))),(ZW ZI (YZ (ZS [(ZX (.int 0)),(ZX (.int 1))])) (ZT WE (ZS [(ZW ZK (ZY 0) (ZX (.int 1))),(ZY 2)])))])) (gN 3))
  (ZV (ZM (ZT (cl "net_within") (ZS [(ZW ZK (ZY 0) (ZX (.int 0))),(ZY 2),(ZW ZI (ZW ZK (ZY 0) (ZX (.int 2))) (ZY 3))])))
  ZL)))
def C7(cl:Nat->ZQ):Prop:=∀n,cl (n+1) "side_by_side"=ZD 2 4 (PK (cl n))
def PJ(cl:ZQ):CS :=
 (ZV (ZM (Y6 (ZS [(ZW ZK (ZY 0) (ZX (.int 0))),(ZW ZK (ZY 0) (ZX (.int 1))),(ZT (cl "moved") (ZS [(ZW ZK (ZY 0) (ZX (.int 2))),(ZW ZI (YZ (ZS [(ZX (.int 1)),(ZX (.int 0))])) (ZT WE (ZS [(ZX (.int 2)),(ZW ZK (ZY 0) (ZX (.int 1)))])))]))])))
  ZL)
def C6(cl:Nat->ZQ):Prop:=∀n,cl (n+1) "about"=ZD 1 1 (PJ (cl n))
def Ng(cl:ZQ):CS :=
 (ZV (Zg (YO (XA (Zb (ZT (cl "is_whole") (ZS [(ZY 1)])))) (XA (Zs (VM (Y0 λi j=>decide (i<=j)) WJ (ZX (.int 0)) (ZY 1) (ZT Zv (ZS [(ZW ZK (ZY 0) (ZX (.int 2)))])))))) (ZV YF
  ZL) ZL)
  ZL)
def Jr(cl:Nat->ZQ):Prop:=∀n,cl (n+1) "refuse_no_contact"=ZD 2 2 (Ng (cl n))
def Nf(cl:ZQ):CS :=
 (ZV (Wv (ZT (cl "refuse_no_contact") (ZS [(ZY 0),(ZY 1)])))
  (ZV (ZM (Y6 (ZS [(ZW ZK (ZY 0) (ZX (.int 0))),(ZW ZK (ZY 0) (ZX (.int 1))),(ZW ZI (Vk W6 (ZW ZK (ZY 0) (ZX (.int 2))) Vm (Vl (ZY 1))) (Vk W6 (ZW ZK (ZY 0) (ZX (.int 2))) (Vl (ZW ZI (ZY 1) (ZX (.int 1)))) Vm))])))
  ZL))
def C5(cl:Nat->ZQ):Prop:=∀n,cl (n+1) "cut"=ZD 2 2 (Nf (cl n))
def Nd(cl:ZQ):CS :=
 (ZV (Zg (Zs (ZW YG (ZY 3) (ZY 4))) (ZV (ZM (ZY 2))
  ZL) ZL)
  ZL)
def PH(cl:ZQ):CS :=
 (ZV (YE (N0 (ZS [(ZT (cl "settings") (ZS [(ZW ZK (ZY 0) (ZX (.int 0)))])),(ZT (cl "function_of") (ZS [(ZY 0)])),(ZT (cl "function_of") (ZS [(ZY 1)]))])) (gT [(gN 2),(gN 3),(gN 4)]) (Nd cl))
  (ZV (ZM (ZX .non))
  ZL))
def Jq(cl:Nat->ZQ):Prop:=∀n,cl (n+1) "first_unlike"=ZD 2 5 (PH (cl n))
def Nc(cl:ZQ):CS :=
 (ZV (ZM (ZW Tq (ZT (cl "first_unlike") (ZS [(ZY 0),(ZY 1)])) (ZX .non)))
  ZL)
def C3(cl:Nat->ZQ):Prop:=∀n,cl (n+1) "are_alike"=ZD 2 2 (Nc (cl n))
def Nb(cl:ZQ):CS :=
 (ZV (ZM (ZT (cl "are_alike") (ZS [(ZT (cl "cut") (ZS [(ZY 0),(ZY 1)])),(ZY 0)])))
  ZL)
def kG(cl:Nat->ZQ):Prop:=∀n,cl (n+1) "is_idle"=ZD 2 2 (Nb (cl n))
def R3(cl:ZQ):CS :=
 (ZV (Zg (Zb (ZT (cl "is_idle") (ZS [(ZY 1),(ZY 2)]))) (ZV (ZE (ZT (cl "cut") (ZS [(ZY 1),(ZY 2)])) (gN 1))
  ZL) (ZV (ZE (ZW ZI (ZY 2) (ZX (.int 1))) (gN 2))
  ZL))
  ZL)
def PF(cl:ZQ):CS :=
 (ZV (ZE (ZY 0) (gN 1))
  (ZV (ZE (ZX (.int 0)) (gN 2))
  (ZV (Vg Sd (Zs (ZW WJ (ZY 2) (ZT Zv (ZS [(ZW ZK (ZY 1) (ZX (.int 2)))])))) (R3 cl))
  (ZV (ZM (ZY 1))
  ZL))))
def C2(cl:Nat->ZQ):Prop:=∀n,cl (n+1) "trimmed"=ZD 1 3 (PF (cl n))
def Q4(cl:ZQ):CS :=
 (ZV (ZE (ZW ZK (ZY 0) (ZX (.int 0))) (gN 1))
  (ZV (ZE (ZW ZK (ZY 0) (ZX (.int 1))) (gN 2))
  (ZV (ZE (ZW ZK (ZY 0) (ZX (.int 2))) (gN 3))
  (ZV (ZE (UG (Zs (ZW Zl (ZW ZK (ZY 0) (ZX (.int 3))) (ZX (.int 1)))) (ZX (.str (Str.ofString "+"))) (ZX (.str (Str.ofString "-")))) (gN 4))
  (ZV (ZM (VY [(YD (ZY 1)),(ZX (.str (Str.ofString "-"))),(YD (ZY 2)),(ZX (.str (Str.ofString "/"))),(YD (ZY 3)),(YD (ZY 4))] Str.empty))
  ZL)))))
def Jp(cl:Nat->ZQ):Prop:=∀n,cl (n+1) "contact_text"=ZD 1 5 (Q4 (cl n))
def Na(cl:ZQ):C :=
 (ZT (cl "contact_text") (ZS [(ZY 0)]))
def PD(cl:ZQ):CS :=
 (ZV (ZE (ZW ZK (ZY 0) (ZX (.int 0))) (gN 1))
  (ZV (ZE (ZW ZK (ZY 0) (ZX (.int 1))) (gN 2))
  (ZV (ZM (Xy "str" VE (ZX (.str (Str.ofString " "))) (ZS [(ZW ZI (YZ (ZS [(VY [(YD (ZY 1)),(ZX (.str (Str.ofString " "))),(YD (ZY 2)),(ZX (.str (Str.ofString ":")))] Str.empty)])) (X8 (Za (ZW ZK (ZY 0) (ZX (.int 2)))) 1 [] .one (λ_=>ret Z7) (Na cl)))])))
  ZL)))
def C1(cl:Nat->ZQ):Prop:=∀n,cl (n+1) "net_text"=ZD 1 3 (PD (cl n))
def M9(cl:ZQ):C :=
 (ZT Xp (ZS [(ZY 0)]))
def PC(cl:ZQ):CS :=
 (ZV (ZM (Xy "str" VE (ZX (.str (Str.ofString ""))) (ZS [(X8 (Za (ZY 0)) 1 [] .one (λ_=>ret Z7) (M9 cl))])))
  ZL)
def C0(cl:Nat->ZQ):Prop:=∀n,cl (n+1) "bits_text"=ZD 1 1 (PC (cl n))
def M8(cl:ZQ):CS :=
 (ZV (ZM (Xy "str" Qc (ZX (.str (Str.ofString "0123456789"))) (ZS [(ZY 0)])))
  ZL)
def Jo(cl:Nat->ZQ):Prop:=∀n,cl (n+1) "figure"=ZD 1 1 (M8 (cl n))
def M7(cl:ZQ):C :=
 (ZW Zl (ZT Zv (ZS [(ZY 0)])) (ZX (.int 6)))
def PB(cl:ZQ):CS :=
 (ZV (Zg (YO (Zs (ZW WJ (ZT Zv (ZS [(ZY 0)])) (ZX (.int 2)))) (YO (Zs (ZW YG (ZT Zv (ZS [(ZW ZK (ZY 0) (ZX (.int 0)))])) (ZX (.int 1)))) (Zs (ZW YG (ZT Zv (ZS [(ZW ZK (ZY 0) (ZX (.int 1)))])) (ZX (.int 2)))))) (ZV (ZM (ZX (.bl Z5)))
  ZL) ZL)
  (ZV (ZM (ZT (Xz λbs=>bs.all id) (ZS [(X8 (Za (Vk W6 (ZY 0) (Vl (ZX (.int 2))) Vm)) 1 [] .one (λ_=>ret Z7) (M7 cl))])))
  ZL))
def CZ(cl:Nat->ZQ):Prop:=∀n,cl (n+1) "has_lengths_of_net"=ZD 1 1 (PB (cl n))
def Pz(cl:ZQ):CS :=
 (ZV (ZM (Y6 (ZS [(ZT (cl "figure") (ZS [(ZW ZK (ZY 0) (ZX (.int 0)))])),(ZT (cl "figure") (ZS [(ZW ZK (ZY 0) (ZX (.int 2)))])),(ZT (cl "figure") (ZS [(ZW ZK (ZY 0) (ZX (.int 4)))])),(UG (Zs (ZW Zl (ZW ZK (ZY 0) (ZX (.int 5))) (ZX (.str (Str.ofString "+"))))) (ZX (.int 1)) (ZX (.int 0)))])))
  ZL)
def CY(cl:Nat->ZQ):Prop:=∀n,cl (n+1) "contact_read"=ZD 1 1 (Pz (cl n))
def Py(cl:ZQ):C :=
 (ZT (cl "contact_read") (ZS [(ZY 0)]))
def Px(cl:ZQ):CS :=
 (ZV (Zg (XA (Zb (ZT Yf (ZS [(ZY 0),(ZX (.ty "str"))])))) (ZV YF
  ZL) ZL)
  (ZV (ZE (Xy "str" U0 (ZY 0) (ZS [(ZX (.str (Str.ofString " ")))])) (gN 1))
  (ZV (Zg (XA (Zb (ZT (cl "has_lengths_of_net") (ZS [(ZY 1)])))) (ZV YF
  ZL) ZL)
  (ZV (ZE (Y6 (ZS [(ZT (cl "figure") (ZS [(ZW ZK (ZY 1) (ZX (.int 0)))])),(ZT (cl "figure") (ZS [(ZW ZK (ZW ZK (ZY 1) (ZX (.int 1))) (ZX (.int 0)))])),(ZT Xu (ZS [(X8 (Za (Vk W6 (ZY 1) (Vl (ZX (.int 2))) Vm)) 1 [] .one (λ_=>ret Z7) (Py cl))]))])) (gN 2))
  (ZV (Zg (YO (XA (Zb (ZT (cl "is_net") (ZS [(ZY 2)])))) (Zs (ZW YG (ZT (cl "net_text") (ZS [(ZY 2)])) (ZY 0)))) (ZV YF
  ZL) ZL)
  (ZV (ZM (ZY 2))
  ZL))))))
def kF(cl:Nat->ZQ):Prop:=∀n,cl (n+1) "net_read"=ZD 1 3 (Px (cl n))
def Pw(cl:ZQ):CT :=
 (Zs (ZW YQ (ZY 0) (ZY 1)))
def Pv(cl:ZQ):C :=
 (ZY 0)
def M6(cl:ZQ):C :=
 (ZT (cl "is_whole") (ZS [(ZY 0)]))
def Pu(cl:ZQ):CS :=
 (ZV (Zg (YO (XA (Zb (ZT Yf (ZS [(ZY 1),(ZX (.ty "tuple"))])))) (XA (Zb (ZT (Xz λbs=>bs.all id) (ZS [(X8 (Za (ZY 1)) 1 [] .one (λ_=>ret Z7) (M6 cl))]))))) (ZV (ZM (ZX (.bl Z5)))
  ZL) ZL)
  (ZV (ZM (ZW Zl (ZT Qf (ZS [(ZY 1)])) (X8 (T7 (ZS [(ZT Zv (ZS [(ZW ZK (ZY 0) (ZX (.int 2)))]))])) 1 [1] .one (Pw cl) (Pv cl))))
  ZL))
def kE(cl:Nat->ZQ):Prop:=∀n,cl (n+1) "is_choice"=ZD 2 2 (Pu (cl n))
def Jn(cl:ZQ):CT :=
 (Zs (ZW YG (ZY 0) (ZY 1)))
def Jm(cl:ZQ):C :=
 (ZY 0)
def M5(cl:ZQ):CS :=
 (ZV (ZM (X8 (Za (ZY 0)) 1 [1] .one (Jn cl) (Jm cl)))
  ZL)
def CW(cl:Nat->ZQ):Prop:=∀n,cl (n+1) "without"=ZD 2 2 (M5 (cl n))
def M4(cl:ZQ):CT :=
 (Zs (ZW (YA Z7) (ZY 0) (ZY 2)))
def M3(cl:ZQ):C :=
 (ZY 1)
def Pt(cl:ZQ):CS :=
 (ZV (ZM (ZT (cl "joins") (ZS [(X8 (Rj (ZS [(ZW ZK (ZY 0) (ZX (.int 2)))])) 2 [1] (.many 2) (M4 cl) (M3 cl))])))
  ZL)
def kC(cl:Nat->ZQ):Prop:=∀n,cl (n+1) "join_beside"=ZD 2 2 (Pt (cl n))
def M2(cl:ZQ):C :=
 (ZT (cl "join_beside") (ZS [(ZY 1),(ZT (cl "without") (ZS [(ZY 2),(ZY 0)]))]))
def Pr(cl:ZQ):CS :=
 (ZV (Zg (YO (XA (Zb (ZT (cl "is_choice") (ZS [(ZY 0),(ZY 1)])))) (Zb (ZT (cl "join_beside") (ZS [(ZY 0),(ZY 1)])))) (ZV (ZM (ZX (.bl Z5)))
  ZL) ZL)
  (ZV (ZM (ZT (Xz λbs=>bs.all id) (ZS [(X8 (Za (ZY 1)) 1 [0,1] .one (λ_=>ret Z7) (M2 cl))])))
  ZL))
def kz(cl:Nat->ZQ):Prop:=∀n,cl (n+1) "is_bar"=ZD 2 2 (Pr (cl n))
def Q3(cl:ZQ):CS :=
 (ZV (Zg (Zs (ZW Zl (ZW ZK (ZY 0) (ZX (.int 0))) (ZY 1))) (ZV (ZM (ZW ZK (ZY 0) (ZX (.int 1))))
  ZL) ZL)
  (ZV (Zg (Zs (ZW Zl (ZW ZK (ZY 0) (ZX (.int 1))) (ZY 1))) (ZV (ZM (ZW ZK (ZY 0) (ZX (.int 0))))
  ZL) ZL)
  (ZV (ZM (ZX .non))
  ZL)))
def CV(cl:Nat->ZQ):Prop:=∀n,cl (n+1) "far_end"=ZD 2 2 (Q3 (cl n))
def TU(cl:ZQ):CS :=
 (ZV (ZE (ZT (cl "far_end") (ZS [(ZY 5),(ZW ZK (ZY 1) (Vn VH (ZX (.int 1))))])) (gN 6))
  (ZV (Zg (Uc (Zs (ZW Rv (ZY 6) (ZX .non))) (Zs (ZW (YA Z7) (ZY 6) (ZY 1)))) (ZV (Wv (Xy "list" Sq (ZY 3) (ZS [(ZT (cl "ways_on") (ZS [(ZY 0),(ZW ZI (ZY 1) (Y6 (ZS [(ZY 6)]))),(ZW ZI (ZY 2) (Y6 (ZS [(ZY 4)])))]))])))
  ZL) ZL)
  ZL))
def R0(cl:ZQ):CS :=
 (ZV (Zg (Zs (ZW Zl (ZW ZK (ZY 1) (Vn VH (ZX (.int 1)))) (ZX (.int 1)))) (ZV (ZM (YZ (ZS [(ZT Xu (ZS [(ZT Xe (ZS [(ZY 2)]))]))])))
  ZL) ZL)
  (ZV (ZE (YZ (ZS [])) (gN 3))
  (ZV (YE (Rj (ZS [(ZY 0)])) (gT [(gN 4),(gN 5)]) (TU cl))
  (ZV (ZM (ZY 3))
  ZL))))
def ky(cl:Nat->ZQ):Prop:=∀n,cl (n+1) "ways_on"=ZD 3 7 (R0 (cl n))
def Pq(cl:ZQ):CS :=
 (ZV (ZM (ZT Xe (ZS [(ZT (cl "ways_on") (ZS [(ZW ZK (ZY 0) (ZX (.int 2))),(Y6 (ZS [(ZX (.int 0))])),(Y6 (ZS []))]))])))
  ZL)
def kx(cl:Nat->ZQ):Prop:=∀n,cl (n+1) "all_ways"=ZD 1 1 (Pq (cl n))
def M1(cl:ZQ):C :=
 (ZW ZI (ZY 0) (Y6 (ZS [(ZY 1)])))
def M0(cl:ZQ):CS :=
 (ZV (ZE (ZW ZI (ZY 1) (X8 (Za (ZY 1)) 1 [2] .one (λ_=>ret Z7) (M1 cl))) (gN 1))
  ZL)
def Pp(cl:ZQ):CS :=
 (ZV (ZE (YZ (ZS [(Y6 (ZS [(ZX (.int 0))]))])) (gN 1))
  (ZV (YE (N2 (ZS [(ZX (.int 2)),(ZY 0)])) (gN 2) (M0 cl))
  (ZV (ZM (ZY 1))
  ZL)))
def CU(cl:Nat->ZQ):Prop:=∀n,cl (n+1) "halves_with_start"=ZD 1 3 (Pp (cl n))
def MZ(cl:ZQ):CT :=
 (Zs (ZW YG (ZW YQ (ZW ZK (ZY 1) (ZX (.int 0))) (ZY 2)) (ZW YQ (ZW ZK (ZY 1) (ZX (.int 1))) (ZY 2))))
def MY(cl:ZQ):C :=
 (ZY 0)
def Po(cl:ZQ):CS :=
 (ZV (ZM (ZT Xu (ZS [(X8 (Rj (ZS [(ZW ZK (ZY 0) (ZX (.int 2)))])) 2 [1] (.many 2) (MZ cl) (MY cl))])))
  ZL)
def CQ(cl:Nat->ZQ):Prop:=∀n,cl (n+1) "out_of"=ZD 2 2 (Po (cl n))
def RZ(cl:ZQ):CS :=
 (ZV (ZE (ZT (cl "out_of") (ZS [(ZY 0),(ZY 2)])) (gN 3))
  (ZV (Zg (Zb (ZT (cl "is_bar") (ZS [(ZY 0),(ZY 3)]))) (ZV (ZE (ZX (.bl Z7)) (gS (ZY 1) (ZY 3)))
  ZL) ZL)
  ZL))
def Pn(cl:ZQ):CS :=
 (ZV (ZE NU (gN 1))
  (ZV (YE (Za (ZT (cl "halves_with_start") (ZS [(ZW ZK (ZY 0) (ZX (.int 1)))]))) (gN 2) (RZ cl))
  (ZV (ZM (ZT Xe (ZS [(ZY 1)])))
  ZL)))
def kv(cl:Nat->ZQ):Prop:=∀n,cl (n+1) "all_bars"=ZD 1 4 (Pn (cl n))
def Jl(cl:ZQ):C :=
 (ZT Xs (ZS [(ZY 0)]))
def Jk(cl:ZQ):C :=
 (ZW YQ (ZY 0) (ZX (.str (Str.ofString "01"))))
def Pm(cl:ZQ):CS :=
 (ZV (Zg (YO (XA (Zs (VM (Y0 λi j=>decide (i<=j)) (Y0 λi j=>decide (i<=j)) (ZX (.int 1)) (ZT Zv (ZS [(ZY 0)])) (ZX (.int 4))))) (XA (Zb (ZT (Xz λbs=>bs.all id) (ZS [(X8 (Xo (ZY 0)) 1 [] .one (λ_=>ret Z7) (Jk cl))]))))) (ZV YF
  ZL) ZL)
  (ZV (ZM (ZT Xu (ZS [(X8 (Xo (ZY 0)) 1 [] .one (λ_=>ret Z7) (Jl cl))])))
  ZL))
def CP(cl:Nat->ZQ):Prop:=∀n,cl (n+1) "setting_read"=ZD 1 1 (Pm (cl n))
def Jj(cl:ZQ):C :=
 (ZW YQ (ZY 0) (ZX (.str (Str.ofString "abcdefghijklmnopqrstuvwxyz"))))
def Pl(cl:ZQ):CS :=
 (ZV (Zg (YO (XA (Zs (VM (Y0 λi j=>decide (i<=j)) (Y0 λi j=>decide (i<=j)) (ZX (.int 1)) (ZT Zv (ZS [(ZY 0)])) (ZX (.int 8))))) (XA (Zb (ZT (Xz λbs=>bs.all id) (ZS [(X8 (Xo (ZY 0)) 1 [] .one (λ_=>ret Z7) (Jj cl))]))))) (ZV YF
  ZL) ZL)
  (ZV (ZM (ZY 0))
  ZL))
def Ji(cl:Nat->ZQ):Prop:=∀n,cl (n+1) "name_read"=ZD 1 1 (Pl (cl n))
def TR(cl:ZQ):CS :=
 (ZV (Zg (Zs (ZW Zl (ZY 0) (ZX (.str (Str.ofString "TEXT"))))) (ZV (ZM (ZT (cl "net_read") (ZS [(ZY 1)])))
  ZL) ZL)
  (ZV (Zg (Zs (ZW Zl (ZY 0) (ZX (.str (Str.ofString "S"))))) (ZV (ZM (ZT (cl "setting_read") (ZS [(ZY 1)])))
  ZL) ZL)
  (ZV (Zg (Zs (ZW Zl (ZY 0) (ZX (.str (Str.ofString "C"))))) (ZV YF
  ZL) ZL)
  (ZV (ZM (ZT (cl "name_read") (ZS [(ZY 1)])))
  ZL))))
def Jh(cl:Nat->ZQ):Prop:=∀n,cl (n+1) "word_read"=ZD 2 2 (TR (cl n))
def RY(cl:ZQ):CS :=
 (ZV (Zg (XA (Zb (ZT Yf (ZS [(ZY 0),(ZX (.ty "str"))])))) (ZV YF
  ZL) ZL)
  (ZV (Zg (Zb (Xy "str" Ri (ZY 0) (ZS [(ZX (.str (Str.ofString "net ")))]))) (ZV (ZM (Xy "str" Rh (ZY 0) (ZS [(ZX (.str (Str.ofString " "))),(ZX (.int 2))])))
  ZL) ZL)
  (ZV (ZM (Xy "str" U0 (ZY 0) (ZS [(ZX (.str (Str.ofString " ")))])))
  ZL)))
def Pk(cl:Nat->ZQ):Prop:=∀n,cl (n+1) "words_of"=ZD 1 1 (RY (cl n))
def MX(cl:ZQ):C :=
 (Y6 (ZS [(ZY 0),(ZT (cl "word_read") (ZS [(ZY 0),(ZY 1)]))]))
def Pj(cl:ZQ):CS :=
 (ZV (ZE (ZT Rg (ZS [(ZW ZK (ZY 0) (ZX (.int 0)))])) (gN 1))
  (ZV (Zg (YO (Zs (ZW Tq (ZY 1) (ZX .non))) (Zs (ZW YG (ZT Zv (ZS [(ZY 0)])) (ZW ZI (ZT Zv (ZS [(ZY 1)])) (ZX (.int 1)))))) (ZV YF
  ZL) ZL)
  (ZV (ZM (ZT T3 (ZS [(X8 (Sj (ZS [(ZY 1),(Vk W6 (ZY 0) (Vl (ZX (.int 1))) Vm)])) 2 [] (.many 2) (λ_=>ret Z7) (MX cl))])))
  ZL)))
def CN(cl:Nat->ZQ):Prop:=∀n,cl (n+1) "line_read"=ZD 1 2 (Pj (cl n))
def TQ(cl:ZQ):CS :=
 (ZV (Zg (Uc (Zs (ZW YQ (ZX (.str (Str.ofString "S"))) (ZY 0))) (Zs (ZW YG (ZT Zv (ZS [(ZW ZK (ZY 0) (ZX (.str (Str.ofString "S"))))])) (ZW ZK (ZW ZK (ZY 0) (ZX (.str (Str.ofString "A")))) (ZX (.int 0)))))) (ZV YF
  ZL) ZL)
  (ZV (Zg (Uc (Zs (ZW YQ (ZX (.str (Str.ofString "B"))) (ZY 0))) (Zs (ZW YG (ZW ZK (ZW ZK (ZY 0) (ZX (.str (Str.ofString "A")))) (ZX (.int 0))) (ZW ZK (ZW ZK (ZY 0) (ZX (.str (Str.ofString "B")))) (ZX (.int 0)))))) (ZV YF
  ZL) ZL)
  ZL))
def CM(cl:Nat->ZQ):Prop:=∀n,cl (n+1) "refuse_unfit"=ZD 1 1 (TQ (cl n))
def Vz(cl:ZQ):CS :=
 (ZV (Zg (Zs (ZW Zl (ZY 0) (ZX (.str (Str.ofString "net"))))) (ZV (ZM (ZW ZK (ZY 1) (ZX (.str (Str.ofString "TEXT")))))
  ZL) ZL)
  (ZV (Zg (Zs (ZW Zl (ZY 0) (ZX (.str (Str.ofString "row"))))) (ZV (ZM (ZT (cl "in_row") (ZS [(ZW ZK (ZY 1) (ZX (.str (Str.ofString "A")))),(ZW ZK (ZY 1) (ZX (.str (Str.ofString "B"))))])))
  ZL) ZL)
  (ZV (Zg (Zs (ZW Zl (ZY 0) (ZX (.str (Str.ofString "side"))))) (ZV (ZM (ZT (cl "side_by_side") (ZS [(ZW ZK (ZY 1) (ZX (.str (Str.ofString "A")))),(ZW ZK (ZY 1) (ZX (.str (Str.ofString "B"))))])))
  ZL) ZL)
  (ZV (Zg (Zs (ZW Zl (ZY 0) (ZX (.str (Str.ofString "about"))))) (ZV (ZM (ZT (cl "about") (ZS [(ZW ZK (ZY 1) (ZX (.str (Str.ofString "A"))))])))
  ZL) ZL)
  (ZV (Zg (Zs (ZW Zl (ZY 0) (ZX (.str (Str.ofString "cut"))))) (ZV (ZM (ZT (cl "cut") (ZS [(ZW ZK (ZY 1) (ZX (.str (Str.ofString "A")))),(ZW ZK (ZY 1) (ZX (.str (Str.ofString "C"))))])))
  ZL) ZL)
  (ZV (Zg (Zs (ZW Zl (ZY 0) (ZX (.str (Str.ofString "bridge"))))) (ZV YF
  ZL) ZL)
  (ZV (ZM (ZT (cl "trimmed") (ZS [(ZW ZK (ZY 1) (ZX (.str (Str.ofString "A"))))])))
  ZL)))))))
def ku(cl:Nat->ZQ):Prop:=∀n,cl (n+1) "net_made"=ZD 2 2 (Vz (cl n))
def Pi(cl:ZQ):CS :=
 (ZV (Zg (Zs (ZW Zl (ZY 0) (ZX (.str (Str.ofString "lets"))))) (ZV (ZM (UG (Zb (ZT (cl "lets") (ZS [(ZY 1),(ZY 2)]))) (ZX (.str (Str.ofString "yes"))) (ZX (.str (Str.ofString "no")))))
  ZL) ZL)
  (ZV (Zg (Zs (ZW Zl (ZY 0) (ZX (.str (Str.ofString "shut"))))) (ZV YF
  ZL) ZL)
  (ZV YF
  ZL)))
def ko(cl:Nat->ZQ):Prop:=∀n,cl (n+1) "answer_at"=ZD 3 3 (Pi (cl n))
def Ph(cl:ZQ):CS :=
 (ZV (ZE (ZT (cl "first_unlike") (ZS [(ZY 0),(ZY 1)])) (gN 2))
  (ZV (ZM (UG (Zs (ZW Tq (ZY 2) (ZX .non))) (ZX (.str (Str.ofString "same"))) (ZT (cl "bits_text") (ZS [(ZY 2)]))))
  ZL))
def kn(cl:Nat->ZQ):Prop:=∀n,cl (n+1) "alike_answer"=ZD 2 3 (Ph (cl n))
def UU(cl:ZQ):CS :=
 (ZV (Zg (Zs (ZW Zl (ZY 0) (ZX (.str (Str.ofString "show"))))) (ZV (ZM (ZT (cl "net_text") (ZS [(ZY 1)])))
  ZL) ZL)
  (ZV (Zg (Zs (ZW Zl (ZY 0) (ZX (.str (Str.ofString "function"))))) (ZV (ZM (ZT (cl "bits_text") (ZS [(ZT (cl "function_of") (ZS [(ZY 1)]))])))
  ZL) ZL)
  (ZV (Zg (Zs (ZW Zl (ZY 0) (ZX (.str (Str.ofString "fewest"))))) (ZV YF
  ZL) ZL)
  (ZV (Zg (Zs (ZW Zl (ZY 0) (ZX (.str (Str.ofString "ways"))))) (ZV (ZM (ZT Xp (ZS [(ZT Zv (ZS [(ZT (cl "all_ways") (ZS [(ZY 1)]))]))])))
  ZL) ZL)
  (ZV (ZM (ZT Xp (ZS [(ZT Zv (ZS [(ZT (cl "all_bars") (ZS [(ZY 1)]))]))])))
  ZL)))))
def kl(cl:Nat->ZQ):Prop:=∀n,cl (n+1) "answer_of"=ZD 2 2 (UU (cl n))
def TN(cl:ZQ):CS :=
 (ZV (Zg (Zs (ZW YQ (ZX (.str (Str.ofString "S"))) (ZY 1))) (ZV (ZM (ZT (cl "answer_at") (ZS [(ZY 0),(ZW ZK (ZY 1) (ZX (.str (Str.ofString "A")))),(ZW ZK (ZY 1) (ZX (.str (Str.ofString "S"))))])))
  ZL) ZL)
  (ZV (Zg (Zs (ZW YQ (ZX (.str (Str.ofString "B"))) (ZY 1))) (ZV (ZM (ZT (cl "alike_answer") (ZS [(ZW ZK (ZY 1) (ZX (.str (Str.ofString "A")))),(ZW ZK (ZY 1) (ZX (.str (Str.ofString "B"))))])))
  ZL) ZL)
  (ZV (ZM (ZT (cl "answer_of") (ZS [(ZY 0),(ZW ZK (ZY 1) (ZX (.str (Str.ofString "A"))))])))
  ZL)))
def kj(cl:Nat->ZQ):Prop:=∀n,cl (n+1) "answer"=ZD 2 2 (TN (cl n))
def Pg(cl:ZQ):CS :=
 (ZV (Zg (Zs (ZW WJ (ZY 1) (ZT Zv (ZS [(ZY 0)])))) (ZV (ZM (ZW ZK (ZY 0) (ZY 1)))
  ZL) ZL)
  (ZV (ZM (ZX (.int 0)))
  ZL))
def Jg(cl:Nat->ZQ):Prop:=∀n,cl (n+1) "_law_cell_at"=ZD 2 2 (Pg (cl n))
def Pf(cl:ZQ):CS :=
 (ZV (ZE (ZT (cl "_law_cell_at") (ZS [(ZY 0),(ZY 1)])) (gN 2))
  (ZV (Zg (Zs (ZW (Y0 λi j=>decide (j<=i)) (ZY 2) (ZW VI (ZX (.int 10)) (ZX (.int 18))))) (ZV (ZM (YZ (ZS [(ZW (YR λi j=>i - j) (ZY 2) (ZW VI (ZX (.int 10)) (ZX (.int 18)))),(ZX (.bl Z7))])))
  ZL) ZL)
  (ZV (ZM (YZ (ZS [(ZW Xg (ZY 2) (ZX (.int 2147483647))),(ZX (.bl Z5))])))
  ZL)))
def CL(cl:Nat->ZQ):Prop:=∀n,cl (n+1) "_law_state"=ZD 2 3 (Pf (cl n))
def Pe(cl:ZQ):CS :=
 (ZV (Zg (Zb (ZW ZK (ZY 0) (ZX (.int 1)))) (ZV (ZE (ZW Xg (ZW ZK (ZY 0) (ZX (.int 0))) (ZY 1)) (gN 2))
  (ZV (ZE (ZW VJ (ZW ZK (ZY 0) (ZX (.int 0))) (ZY 1)) (gS (ZY 0) (ZX (.int 0))))
  (ZV (ZM (ZY 2))
  ZL))) ZL)
  (ZV (ZE (ZW Xg (ZW ZI (ZW Xh (ZW ZK (ZY 0) (ZX (.int 0))) (ZX (.int 48271))) (ZX (.int 29))) (ZX (.int 2147483647))) (gS (ZY 0) (ZX (.int 0))))
  (ZV (ZE (ZW Xg (ZW ZI (ZW ZI (ZW Xh (ZW ZK (ZY 0) (ZX (.int 0))) (ZW ZK (ZY 0) (ZX (.int 0)))) (ZW Xh (ZX (.int 39373)) (ZW ZK (ZY 0) (ZX (.int 0))))) (ZX (.int 7))) (ZX (.int 2147483629))) (gN 3))
  (ZV (ZE (ZW Xg (ZW ZI (ZW Xh (ZY 3) (ZY 3)) (ZW Xh (ZX (.int 16807)) (ZY 3))) (ZX (.int 2147483587))) (gN 3))
  (ZV (ZM (ZW Xg (ZW VJ (ZY 3) (ZX (.int 8))) (ZY 1)))
  ZL)))))
def MW(cl:Nat->ZQ):Prop:=∀n,cl (n+1) "_law_take"=ZD 2 4 (Pe (cl n))
def Pd(cl:ZQ):CS :=
 (ZV (ZE (ZW ZI (ZW ZI (YZ (ZS [(ZX (.int 0))])) (ZT WE (ZS [(ZX (.int 2)),(ZY 1)]))) (YZ (ZS [(ZX (.int 1))]))) (gN 2))
  (ZV (ZE (ZT (cl "_law_take") (ZS [(ZY 0),(ZW (YR λi j=>i - j) (ZY 1) (ZX (.int 1)))])) (gN 3))
  (ZV (ZE (ZW ZI (ZY 3) (ZX (.int 1))) (gN 4))
  (ZV (Zg (Zs (ZW Zl (ZT (cl "_law_take") (ZS [(ZY 0),(ZX (.int 3))])) (ZX (.int 0)))) (ZV (ZE (ZW ZI (ZW ZI (ZY 3) (ZX (.int 1))) (ZT (cl "_law_take") (ZS [(ZY 0),(ZW (YR λi j=>i - j) (ZW (YR λi j=>i - j) (ZY 1) (ZX (.int 1))) (ZY 3))]))) (gN 4))
  ZL) ZL)
  (ZV (ZM (Y6 (ZS [(ZT Wx (ZS [(ZW ZK (ZY 2) (ZY 3)),(ZW ZK (ZY 2) (ZY 4))])),(ZT Xf (ZS [(ZW ZK (ZY 2) (ZY 3)),(ZW ZK (ZY 2) (ZY 4))]))])))
  ZL)))))
def Jf(cl:Nat->ZQ):Prop:=∀n,cl (n+1) "_law_ends"=ZD 2 5 (Pd (cl n))
def Pc(cl:ZQ):CS :=
 (ZV (Wv (Xy "list" (VZ Rq) (ZY 11) (ZS [(ZT (cl "_law_take") (ZS [(ZY 0),(ZW ZI (ZT Zv (ZS [(ZY 11)])) (ZX (.int 1)))])),(ZY 12)])))
  ZL)
def MV(cl:ZQ):CS :=
 (ZV (Wv (Xy "list" (VZ UE) (ZY 6) (ZS [(ZW ZI (ZT (cl "_law_ends") (ZS [(ZY 0),(ZY 5)])) (Y6 (ZS [(ZT (cl "_law_take") (ZS [(ZY 0),(ZY 4)])),(ZT (cl "_law_take") (ZS [(ZY 0),(ZX (.int 2))]))])))])))
  ZL)
def Je(cl:ZQ):CS :=
 (ZV (Wv (Xy "list" (VZ UE) (ZY 6) (ZS [(Y6 (ZS [(ZT Wx (ZS [(ZY 8),(ZY 9)])),(ZT Xf (ZS [(ZY 8),(ZY 9)])),(ZT (cl "_law_take") (ZS [(ZY 0),(ZY 4)])),(ZT (cl "_law_take") (ZS [(ZY 0),(ZX (.int 2))]))]))])))
  ZL)
def Q2(cl:ZQ):CS :=
 (ZV (ZE (ZW ZI (ZX (.int 1)) (ZT (cl "_law_take") (ZS [(ZY 0),(ZY 1)]))) (gN 4))
  (ZV (ZE (ZW ZI (ZX (.int 2)) (ZT (cl "_law_take") (ZS [(ZY 0),(ZW (YR λi j=>i - j) (ZY 2) (ZX (.int 1)))]))) (gN 5))
  (ZV (ZE (YZ (ZS [])) (gN 6))
  (ZV (ZE (ZW ZI (ZW ZI (YZ (ZS [(ZX (.int 0))])) (ZT WE (ZS [(ZX (.int 2)),(ZY 5)]))) (YZ (ZS [(ZX (.int 1))]))) (gN 7))
  (ZV (Zg (Uc (Zs (ZW Zl (ZT (cl "_law_take") (ZS [(ZY 0),(ZX (.int 2))])) (ZX (.int 0)))) (Zs (ZW (Y0 λi j=>decide (i<=j)) (ZW (YR λi j=>i - j) (ZY 5) (ZX (.int 1))) (ZY 3)))) (ZV (YE (Sj (ZS [(ZY 7),(Vk W6 (ZY 7) (Vl (ZX (.int 1))) Vm)])) (gT [(gN 8),(gN 9)]) (Je cl))
  ZL) ZL)
  (ZV (YE (T7 (ZS [(ZT (cl "_law_take") (ZS [(ZY 0),(ZW ZI (ZW (YR λi j=>i - j) (ZY 3) (ZT Zv (ZS [(ZY 6)]))) (ZX (.int 1)))]))])) (gN 10) (MV cl))
  (ZV (ZE (YZ (ZS [])) (gN 11))
  (ZV (YE (Za (ZY 6)) (gN 12) (Pc cl))
  (ZV (ZM (Y6 (ZS [(ZY 4),(ZY 5),(ZT Xu (ZS [(ZY 11)]))])))
  ZL)))))))))
def CK(cl:Nat->ZQ):Prop:=∀n,cl (n+1) "_law_net"=ZD 4 13 (Q2 (cl n))
def Jd(cl:ZQ):C :=
 (ZT Xs (ZS [(ZY 0)]))
def Pb(cl:ZQ):CS :=
 (ZV (ZM (X8 (Xo (Zn (cl "Desk.say") (ZY 0) (ZS [(ZW ZI (ZX (.str (Str.ofString "function "))) (ZY 1))]))) 1 [] .one (λ_=>ret Z7) (Jd cl)))
  ZL)
def CJ(cl:Nat->ZQ):Prop:=∀n,cl (n+1) "_law_bits"=ZD 2 2 (Pb (cl n))
def Pa(cl:ZQ):C :=
 (UG (Zs (ZW WJ (ZY 0) (ZX (.int 2)))) (ZW (YR λi j=>i - j) (ZX (.int 1)) (ZY 0)) (ZY 0))
def MU(cl:ZQ):CS :=
 (ZV (ZE (X8 (Za (Y6 (ZS [(ZY 2),(ZY 3)]))) 1 [] .one (λ_=>ret Z7) (Pa cl)) (gT [(gN 6),(gN 7)]))
  (ZV (Wv (Xy "list" (VZ UE) (ZY 1) (ZS [(Y6 (ZS [(ZT Wx (ZS [(ZY 6),(ZY 7)])),(ZT Xf (ZS [(ZY 6),(ZY 7)])),(ZY 4),(ZY 5)]))])))
  ZL))
def O9(cl:ZQ):CS :=
 (ZV (ZE (YZ (ZS [])) (gN 1))
  (ZV (YE (Za (ZW ZK (ZY 0) (ZX (.int 2)))) (gT [(gN 2),(gN 3),(gN 4),(gN 5)]) (MU cl))
  (ZV (ZM (Y6 (ZS [(ZW ZK (ZY 0) (ZX (.int 0))),(ZW ZK (ZY 0) (ZX (.int 1))),(ZT Xu (ZS [(ZY 1)]))])))
  ZL)))
def CH(cl:Nat->ZQ):Prop:=∀n,cl (n+1) "_law_turned"=ZD 1 8 (O9 (cl n))
def Q1(cl:ZQ):CS :=
 (ZV (Wv (Zn (cl "Desk.say") (ZY 2) (ZS [(ZY 3)])))
  ZL)
def O8(cl:ZQ):CS :=
 (ZV (ZE Tp (gN 2))
  (ZV (Wv (Zn (cl "Desk.say") (ZY 2) (ZS [(ZW ZI (ZX (.str (Str.ofString "net a "))) (ZT (cl "net_text") (ZS [(ZY 0)])))])))
  (ZV (Wv (Zn (cl "Desk.say") (ZY 2) (ZS [(ZW ZI (ZX (.str (Str.ofString "net b "))) (ZT (cl "net_text") (ZS [(ZY 1)])))])))
  (ZV (YE (Za (YZ (ZS [(ZX (.str (Str.ofString "row a b c"))),(ZX (.str (Str.ofString "side a b d"))),(ZX (.str (Str.ofString "about a e"))),(ZX (.str (Str.ofString "about e f"))),(ZX (.str (Str.ofString "trim a g")))]))) (gN 3) (Q1 cl))
  (ZV (ZM (ZY 2))
  ZL)))))
def CG(cl:Nat->ZQ):Prop:=∀n,cl (n+1) "_law_desk"=ZD 2 4 (O8 (cl n))
def O7(cl:ZQ):C :=
 (ZW (YR wF) (ZW U3 (ZY 1) (ZW (YR λi j=>i - j) (ZW (YR λi j=>i - j) (ZY 2) (ZX (.int 1))) (ZY 0))) (ZX (.int 1)))
def MT(cl:ZQ):C :=
 (ZT Xf (ZS [(ZY 0),(ZY 1)]))
def MS(cl:ZQ):C :=
 (ZW Xh (ZY 0) (ZY 1))
def O6(cl:ZQ):CS :=
 (ZV (ZE (ZT (cl "_law_state") (ZS [(ZY 0),(ZY 1)])) (gN 2))
  (ZV (Xr 3 4 (ZT (cl "_law_net") (ZS [(ZY 2),(ZX (.int 3)),(ZX (.int 4)),(ZX (.int 8))])) (ZT (cl "_law_net") (ZS [(ZY 2),(ZX (.int 3)),(ZX (.int 4)),(ZX (.int 8))])))
  (ZV (ZE (ZT Xf (ZS [(ZW ZK (ZY 3) (ZX (.int 0))),(ZW ZK (ZY 4) (ZX (.int 0)))])) (gN 5))
  (ZV (Xr 3 4 (ZW ZI (Y6 (ZS [(ZY 5)])) (Vk W6 (ZY 3) (Vl (ZX (.int 1))) Vm)) (ZW ZI (Y6 (ZS [(ZY 5)])) (Vk W6 (ZY 4) (Vl (ZX (.int 1))) Vm)))
  (ZV (ZE (ZT (cl "_law_desk") (ZS [(ZY 3),(ZY 4)])) (gN 6))
  (ZV (Zg (YO (Zs (ZW YG (ZT (cl "net_read") (ZS [(Zn (cl "Desk.say") (ZY 6) (ZS [(ZX (.str (Str.ofString "show a")))]))])) (ZY 3))) (Zs (ZW YG (Zn (cl "Desk.say") (ZY 6) (ZS [(ZX (.str (Str.ofString "show f")))])) (Zn (cl "Desk.say") (ZY 6) (ZS [(ZX (.str (Str.ofString "show a")))]))))) (ZV (ZM (ZX (.bl Z5)))
  ZL) ZL)
  (ZV (Zg (Zs (ZW YG (Zn (cl "Desk.say") (ZY 6) (ZS [(ZX (.str (Str.ofString "show e")))])) (ZT (cl "net_text") (ZS [(ZT (cl "_law_turned") (ZS [(ZY 3)]))])))) (ZV (ZM (ZX (.bl Z5)))
  ZL) ZL)
  (ZV (Xr 7 8 (ZT (cl "_law_bits") (ZS [(ZY 6),(ZX (.str (Str.ofString "a")))])) (ZT (cl "_law_bits") (ZS [(ZY 6),(ZX (.str (Str.ofString "b")))])))
  (ZV (Zg (Zs (ZW YG (ZT (cl "_law_bits") (ZS [(ZY 6),(ZX (.str (Str.ofString "c")))])) (X8 (Sj (ZS [(ZY 7),(ZY 8)])) 2 [] (.many 2) (λ_=>ret Z7) (MS cl)))) (ZV (ZM (ZX (.bl Z5)))
  ZL) ZL)
  (ZV (Zg (YO (Zs (ZW YG (ZT (cl "_law_bits") (ZS [(ZY 6),(ZX (.str (Str.ofString "d")))])) (X8 (Sj (ZS [(ZY 7),(ZY 8)])) 2 [] (.many 2) (λ_=>ret Z7) (MT cl)))) (Zs (ZW YG (ZT (cl "_law_bits") (ZS [(ZY 6),(ZX (.str (Str.ofString "e")))])) (ZY 7)))) (ZV (ZM (ZX (.bl Z5)))
  ZL) ZL)
  (ZV (Zg (YO (Zs (ZW YG (Zn (cl "Desk.say") (ZY 6) (ZS [(ZX (.str (Str.ofString "alike a g")))])) (ZX (.str (Str.ofString "same"))))) (Zs (ZW (Y0 λi j=>decide (j<i)) (ZT Zv (ZS [(Zn (cl "Desk.say") (ZY 6) (ZS [(ZX (.str (Str.ofString "show g")))]))])) (ZT Zv (ZS [(Zn (cl "Desk.say") (ZY 6) (ZS [(ZX (.str (Str.ofString "show a")))]))]))))) (ZV (ZM (ZX (.bl Z5)))
  ZL) ZL)
  (ZV (ZE (ZT (cl "_law_take") (ZS [(ZY 2),(ZW Wb (ZX (.int 1)) (ZY 5))])) (gN 9))
  (ZV (ZE (ZT (cl "bits_text") (ZS [(ZT Xu (ZS [(X8 (T7 (ZS [(ZY 5)])) 1 [9,5] .one (λ_=>ret Z7) (O7 cl))]))])) (gN 10))
  (ZV (Zg (YO (Zs (ZW YG (Zn (cl "Desk.say") (ZY 6) (ZS [(ZW ZI (ZX (.str (Str.ofString "lets a "))) (ZY 10))])) (ZW ZK (YZ (ZS [(ZX (.str (Str.ofString "no"))),(ZX (.str (Str.ofString "yes")))])) (ZW ZK (ZY 7) (ZY 9))))) (Zs (ZW WJ (ZT Xs (ZS [(Zn (cl "Desk.say") (ZY 6) (ZS [(ZX (.str (Str.ofString "bars a")))]))])) (ZX (.int 1))))) (ZV (ZM (ZX (.bl Z5)))
  ZL) ZL)
  (ZV (Zg (Uc (Zs (ZW Zl (Zn (cl "Desk.say") (ZY 6) (ZS [(ZX (.str (Str.ofString "ways a")))])) (ZX (.str (Str.ofString "0"))))) (Zs (ZW YQ (ZX (.int 1)) (ZY 7)))) (ZV (ZM (ZX (.bl Z5)))
  ZL) ZL)
  (ZV (ZE Tp (gN 11))
  (ZV (Wv (Zn (cl "Desk.say") (ZY 11) (ZS [(ZW ZI (ZX (.str (Str.ofString "net x "))) (Zn (cl "Desk.say") (ZY 6) (ZS [(ZX (.str (Str.ofString "show a")))])))])))
  (ZV (Zg (YO (Zs (ZW YG (Zn (cl "Desk.say") (ZY 11) (ZS [(ZX (.str (Str.ofString "function x")))])) (Zn (cl "Desk.say") (ZY 6) (ZS [(ZX (.str (Str.ofString "function a")))])))) (Zs (ZW YG (Zn (cl "Desk.say") (ZY 11) (ZS [(ZX (.str (Str.ofString "ways x")))])) (Zn (cl "Desk.say") (ZY 6) (ZS [(ZX (.str (Str.ofString "ways a")))]))))) (ZV (ZM (ZX (.bl Z5)))
  ZL) ZL)
  (ZV (Zg (YO (Zs (ZW YG (Zn (cl "Desk.say") (ZY 11) (ZS [(ZX (.str (Str.ofString "nets")))])) (ZX (.str (Str.ofString "x"))))) (Zs (ZW YG (Zn (cl "Desk.say") (ZY 6) (ZS [(ZX (.str (Str.ofString "nets")))])) (ZX (.str (Str.ofString "a b c d e f g")))))) (ZV (ZM (ZX (.bl Z5)))
  ZL) ZL)
  ZL)))))))))))))))))))
def MR(cl:ZQ):CS :=
 (ZV (YE (T7 (ZS [(ZT Xf (ZS [(ZX (.int 1)),(ZT Wx (ZS [(ZT Zv (ZS [(ZY 0)])),(ZX (.int 4))]))]))])) (gN 1) (O6 cl))
  (ZV (ZM (ZX (.bl Z7)))
  ZL))
def ki(cl:Nat->ZQ):Prop:=∀n,cl (n+1) "law"=ZD 1 12 (MR (cl n))
def RX(cl:ZQ):CS :=
 (ZV (Zg (Zs (ZW YQ (ZY 3) (ZY 1))) (ZV (Zg (Zs (ZW (YA Z7) (ZW ZK (ZY 1) (ZY 3)) (Vn UZ (ZY 0)))) (ZV YF
  ZL) ZL)
  (ZV (ZE (ZW ZK (Vn UZ (ZY 0)) (ZW ZK (ZY 1) (ZY 3))) (gS (ZY 2) (ZY 3)))
  ZL)) ZL)
  ZL)
def O5(cl:ZQ):CS :=
 (ZV (ZE (ZT T3 (ZS [(ZY 1)])) (gN 2))
  (ZV (YE (Za (Y6 (ZS [(ZX (.str (Str.ofString "A"))),(ZX (.str (Str.ofString "B")))]))) (gN 3) (RX cl))
  (ZV (ZM (ZY 2))
  ZL)))
def CF(cl:Nat->ZQ):Prop:=∀n,cl (n+1) "Desk.with_nets"=ZD 2 4 (O5 (cl n))
def TM(cl:ZQ):CS :=
 (ZV (ZE (ZT (cl "words_of") (ZS [(ZY 1)])) (gN 2))
  (ZV (ZE (Zn (cl "Desk.with_nets") (ZY 0) (ZS [(ZT (cl "line_read") (ZS [(ZY 2)]))])) (gN 3))
  (ZV (Wv (ZT (cl "refuse_unfit") (ZS [(ZY 3)])))
  (ZV (Zg (Zs (ZW Zl (ZW ZK (ZY 2) (ZX (.int 0))) (ZX (.str (Str.ofString "nets"))))) (ZV (ZM (Xy "str" VE (ZX (.str (Str.ofString " "))) (ZS [(ZT T1 (ZS [(Vn UZ (ZY 0))]))])))
  ZL) ZL)
  (ZV (Zg (Zs (ZW YQ (ZX (.str (Str.ofString "N"))) (ZY 3))) (ZV (ZE (ZT (cl "net_made") (ZS [(ZW ZK (ZY 2) (ZX (.int 0))),(ZY 3)])) (gS (Vn UZ (ZY 0)) (ZW ZK (ZY 3) (ZX (.str (Str.ofString "N"))))))
  (ZV (ZM (ZX (.str (Str.ofString "ok"))))
  ZL)) ZL)
  (ZV (ZM (ZT (cl "answer") (ZS [(ZW ZK (ZY 2) (ZX (.int 0))),(ZY 3)])))
  ZL))))))
def kh(cl:Nat->ZQ):Prop:=∀n,cl (n+1) "Desk.say"=ZD 2 4 (TM (cl n))
variable {cl:Nat->ZQ}
theorem kg(h:Jg cl)(n:Nat)(ns:yA)(k:Int)(hk:0<=k)(S:ZU):∃c,cl (n+1) "_law_cell_at" [.rol (ns.map D.int),.int k] S=.ok (.int c) S:=by
 by_cases a:k<ns.length
 .refine⟨ns[k.toNat]'(by lia),?_⟩;have e:=by have q:=UO (xs:=ns.map D.int) (j:=k.toNat) (by rw[qB6,qA9 (by lia)];rfl);rw[show(k.toNat:Int)=k by lia]at q;exact q
  rw[h];refine Zj rfl ?_;simp[Pg,YY,a,e]
 .refine⟨0,?_⟩;rw[h];refine Zj rfl ?_;simp[Pg,YY,a]
def Yo(S:ZU)(i:Nat):Prop:=∃s b,ZA S i=Z9 [.int s,.bl b]/\(b=Z5->0<=s/\s<2147483647)
theorem Yo.lt(h:Yo S i):i<S.length:=by obtain⟨s,b,e,_⟩:=h;exact PR e
theorem Yo.ex(h:Yo S i)(e:Ex S a):Yo a i:=by obtain⟨s,b,q,r⟩:=h;exact⟨s,b,e.lst q (λz=>z),r⟩
theorem ka(h:CL cl)(e:Jg cl)(n:Nat)(ns:yA)(k:Int)(hk:0<=k)(S:ZU):∃a,cl (n+2) "_law_state" [.rol (ns.map D.int),.int k] S=.ok (.lst S.length) a/\Ex S a/\Yo a S.length:=by
 obtain⟨c,d⟩:=kg e n ns k hk S;rw[show n+2=(n+1)+1 from rfl,h];by_cases b:1000000000000000000<=c
 .refine⟨S++[.lst [.int (c - 1000000000000000000),.bl Z7]],Zj rfl ?_,Zf _ _,_,_,Y9 _ _,λz=>by cases z⟩;simp[Pf,YY,d,b]
 .refine⟨S++[.lst [.int (c % 2147483647),.bl Z5]],Zj rfl ?_,Zf _ _,_,_,Y9 _ _,λ_=>⟨qL9 _ (by decide),qJ7 _ (by decide)⟩⟩;simp[Pf,YY,d,b]
theorem O4(b:-18446744073709551616<j)(a:j<18446744073709551616):Vj i j=Z7:=by unfold Vj;simp[b,a]
@[simp]theorem zeo:VQ 2 0=Z9 0:=rfl
inductive j0(c:ZQ)(S:ZU)(i:Nat)(m:Int):Prop
 |mk (r:Int) (S1:ZU) (e:c "_law_take" [.lst i,.int m] S=.ok (.int r) S1) (a:0<=r) (b:r<m) (k:Kp (·=i) S S1) (l:S1.length=S.length) (st:Yo S1 i)
theorem Vy(h:MW cl)(n:Nat)(p:Yo S i)(c:0<m)(l:m<1073741824):j0 (cl (n+1)) S i m:=by
 obtain⟨s,b,a,r⟩:=p;have d:=Ve a;cases b with
 |true =>
  refine⟨s % m,S.set i (.lst [.int (s / m),.bl Z7]),?_,qL9 _ (by lia),qJ7 _ c,TV _ _,by simp,⟨_,_,Q8 a,λz=>by cases z⟩⟩;rw[h];refine Zj rfl ?_;simp[Pe,YY,d,c,l,Do a]
 |false =>
  generalize hz:(s*48271+29) % 2147483647=z;have f:0<=z:=by rw[<- hz];exact qL9 _ (by decide)
  have o:z<2147483647:=by rw[<- hz];exact qJ7 _ (by decide)
  generalize hy:(z*z+39373*z+7) % 2147483629=y;generalize hx:(y*y+16807*y) % 2147483587=x;refine⟨x / 8 % m,S.set i (.lst [.int z,.bl Z5]),?_,qL9 _ (by lia),qJ7 _ c,TV _ _,by simp,⟨_,_,Q8 a,λ_=>⟨f,o⟩⟩⟩;rw[h];refine Zj rfl ?_;have q:=Ve (Q8 (ys:=[.int z,.bl Z5]) a);have e:Vj s 48271=Z7:=O4 (by decide) (by decide);have k2:Vj z z=Z7:=O4 (by lia) (by lia);have k:Vj 39373 z=Z7:=O4 (by lia) (by lia);have j:Vj y y=Z7:=O4 (by lia) (by lia);have g:Vj 16807 y=Z7:=O4 (by lia) (by lia);simp[Pe,YY,d,Do a,e,hz,q,k2,k,hy,j,g,hx,c]
structure Ct where
 a:Int
 b:Int
 k:Int
 o:Int
 deriving DecidableEq
abbrev yN:=List Ct
def Ct.d(c:Ct):D:=.tup [.int c.a,.int c.b,.int c.k,.int c.o]
def Ct.ok(sw pl:Int)(c:Ct):Prop:=0<=c.a/\c.a<c.b/\c.b<pl/\0<=c.k/\c.k<sw/\0<=c.o/\c.o<2
structure ZH where
 sw:Int
 pl:Int
 cs:yN
def ZH.d(n:ZH):D:=.tup [.int n.sw,.int n.pl,.tup (n.cs.map Ct.d)]
structure ZH.ok(ms mp mc:Int)(n:ZH):Prop where
 s1:1<=n.sw
 s2:n.sw<=ms
 p1:2<=n.pl
 p2:n.pl<=mp
 c1:(n.cs.length:Int)<=mc
 c2:∀c∈n.cs,c.ok n.sw n.pl
def Y4(n:Int):yA:=[0]++((List.range (n - 2).toNat).map fun(k:Nat)=>(2:Int)+(k:Nat))++[1]
def Y3(n i:Int):Int:=if i=0 then 0 else if i=n - 1 then 1 else i+1
theorem Jc(a:2<=n):(Y4 n).length=n.toNat:=by unfold Y4;simp;lia
theorem CC{i:Nat}(c:2<=n)(hi:(i:Int)<n):(Y4 n)[i]?=Z9 (Y3 n i):=by
 unfold Y4 Y3;by_cases b:i=0
 .subst b;simp
 .rw[if_neg (by lia)];by_cases a:(i:Int)=n - 1
  .rw[if_pos a,qA2 (by simp;lia)];have:i - ([0]++((List.range (n - 2).toNat).map fun(k:Nat)=>(2:Int)+(k:Nat))).length=0:=by simp;lia
   rw[this];rfl
  .rw[if_neg a,qA8 (by simp;lia),qA2 (by simp;lia)];simp only[qB8,qH2,qB6];rw[qH5 (by lia)];simp
   lia
theorem Cz(a:2<=n)(b:0<=i)(hi:i<n):XN ((Y4 n).map D.int) i=Z9 (.int (Y3 n i)):=by have q:=UO (xs:=(Y4 n).map D.int) (j:=i.toNat) (v:=.int (Y3 n i.toNat)) (by rw[qB6,CC a (by lia)];rfl);rw[show((i.toNat:Nat):Int)=i by lia]at q;exact q
theorem MQ(b:2<=n)(a:0<=i)(hi:i<n):0<=Y3 n i/\Y3 n i<n:=by unfold Y3;split<;>(try split)<;>lia
theorem Cy(c:2<=n)(b:0<=i)(a:i<j)(d:j<n):Y3 n i≠Y3 n j:=by unfold Y3;split<;>split<;>(try split)<;>(try split)<;>lia
theorem O0{x y n:Int}(b:0<=x/\x<n)(a:0<=y/\y<n)(h:x≠y):0<=(if y<x then y else x)/\(if y<x then y else x)<(if y>x then y else x)/\(if y>x then y else x)<n:=by split<;>split<;>lia
theorem OZ(lo:Int)(n:Nat):(YT lo n).length=n:=by unfold YT;simp
theorem YL:lim=1048576:=rfl
theorem Cw(g:B[j]?=Z9 (Z9 (.int n)))(h:2<=n)(i:n<=7)(S:ZU):∃k a,ZW ZI (ZW ZI (YZ (ZS [(ZX (.int 0))])) (ZT WE (ZS [(ZX (.int 2)),(ZY j)]))) (YZ (ZS [(ZX (.int 1))])) B S=.ok (.lst k) a/\Ex S a/\S.length<=k/\ZA a k=Z9 ((Y4 n).map D.int):=by
 have c:WE [.int 2,.int n] (S++[O.lst [D.int 0]])=.ok (.lst (S++[O.lst [D.int 0]]).length) (S++[O.lst [D.int 0]]++[.lst (YT 2 (n - 2).toNat)]):=by unfold WE;dsimp only;rw[if_pos (by lia)]
 generalize hA:S++[O.lst [D.int 0]]++[O.lst (YT 2 (n - 2).toNat)]=A at c;have e:ZA A S.length=Z9 [.int 0]:=by rw[<- hA];exact UW (Y9 _ _)
 have f:ZA A (S++[O.lst [D.int 0]]).length=Z9 (YT 2 (n - 2).toNat):=by rw[<- hA];exact Y9 _ _
 have b:=PN e f (by rw[OZ,YL];simp;lia);generalize hB:A++[O.lst ([D.int 0]++YT 2 (n - 2).toNat)]=BB at b;have b1:ZA (BB++[O.lst [D.int 1]]) A.length=Z9 ([D.int 0]++YT 2 (n - 2).toNat):=by rw[<- hB];exact UW (Y9 _ _)
 have d:=PN b1 (Y9 BB [D.int 1]) (by rw[qB5,OZ,YL];simp;lia);refine⟨(BB++[O.lst [D.int 1]]).length,(BB++[O.lst [D.int 1]])++[O.lst ([D.int 0]++YT 2 (n - 2).toNat++[D.int 1])],?_,?_,?_,?_⟩
 .simp only[ll,lj,Ds,Dt,lp,VX,Dr,ls,g,c,b,d]
 .have:Ex S A:=by rw[<- hA];exact(Zf _ _).trans (Zf _ _)
  have:Ex S BB:=by rw[<- hB];exact this.trans (Zf _ _)
  exact(this.trans (Zf _ _)).trans (Zf _ _)
 .rw[qB5,<- hB,qB5,<- hA];simp;lia
 .rw[Y9];congr 1;unfold Y4 YT;simp
inductive jz(c:ZQ)(S:ZU)(i:Nat)(pl:Int):Prop
 |mk (x y:Int) (S1:ZU) (e:c "_law_ends" [.lst i,.int pl] S=.ok (.tup [.int x,.int y]) S1) (h0:0<=x) (h1:x<y) (h2:y<pl) (k:Kp (·=i) S S1) (st:Yo S1 i)
theorem jy(h:Jf cl)(o:MW cl)(n:Nat)(H:Yo S i)(b:2<=pl)(M:pl<=7):jz (cl (n+2)) S i pl:=by
 obtain⟨k,Y,I,q,hk,T⟩:=Cw (B:=[Z9 (.lst i),Z9 (.int pl),Z8,Z8,Z8]) (j:=1) rfl b M S;have v:=H.ex q;have w:k≠i:=by have:=H.lt;lia
 obtain⟨one,S2,C,o0,o1,k2,W,z⟩:=Vy o n v (m:=pl - 1) (by lia) (by lia);obtain⟨P,u,G,c0,Z,l,X,c⟩:=Vy o n z (m:=3) (by lia) (by lia);have E:ZA u k=Z9 ((Y4 pl).map D.int):=l.lst (k2.lst T w) w;have d:∀(other:Int) (a:ZU),one<other->other<pl->ZA a k=Z9 ((Y4 pl).map D.int)->∀x y,x=(if Y3 pl other<Y3 pl one then Y3 pl other else Y3 pl one)->y=(if Y3 pl other>Y3 pl one then Y3 pl other else Y3 pl one) ->
   (ZK (.lst k) (.int one) a=.ok (.int (Y3 pl one)) a/\ZK (.lst k) (.int other) a=.ok (.int (Y3 pl other)) a)/\0<=x/\x<y/\y<pl:=by intro other a Q R A x y ex U;obtain⟨O,K,N⟩:=O0 (MQ b (i:=one) (by lia) (by lia)) (MQ b (i:=other) (by lia) (by lia)) (Cy b (by lia) Q R);subst ex U;exact⟨⟨by rw[Ve A,Cz b (by lia) (by lia)],by rw[Ve A,Cz b (by lia) (by lia)]⟩,O,K,N⟩
 by_cases J:P=0
 .obtain⟨r,a,L,V,r1,F,n4,p⟩:=Vy o n c (m:=pl - 1 - one) (by lia) (by lia);obtain⟨⟨t,f⟩,s,g,e⟩:=d (one+1+r) a (by lia) (by lia) (F.lst E w) _ _ rfl rfl;refine⟨_,_,a,?_,s,g,e,(q.kp.trans k2).trans (l.trans F),p⟩;rw[show n+2=(n+1)+1 from rfl,h];refine Zj rfl ?_;simp[Pd,YY,↓I,C,G,J,L,t,f]
 .obtain⟨⟨t,f⟩,s,g,e⟩:=d (one+1) u (by lia) (by lia) E _ _ rfl rfl;refine⟨_,_,u,?_,s,g,e,(q.kp.trans k2).trans l,c⟩;rw[show n+2=(n+1)+1 from rfl,h];refine Zj rfl ?_;simp[Pd,YY,↓I,C,G,J,t,f]
theorem _root_.Lake.Kp.setNew{P:Nat->Prop}{a S:ZU}{l:Nat}{o:O}(h:Kp P a S)(c:a.length<=l):Kp P a (S.set l o) :=
 ⟨by rw[qN8];exact h.le,λj b n=>by rw[qE1 (by lia)];exact h.eq j b n⟩
theorem Yo.setO(h:Yo S i)(a:l≠i):Yo (S.set l o) i:=by obtain⟨s,b,q,r⟩:=h;exact⟨s,b,PU (by rw[qE1 a];exact VA q),r⟩
theorem Jb{xs:yM}(h:ZA S i=Z9 xs)(a:l≠i):ZA (S.set l o) i=Z9 xs:=PU (by rw[qE1 a];exact VA h)
@[simp]theorem Ja:(YT lo n)[i]?=Z9 d↔i<n/\d=.int (lo+i):=by
 unfold YT;rw[qB6];by_cases h:i<n
 .rw[qH5 h];simp[h,eq_comm]
 .simp[h]
structure Rows(S0 S:ZU)(i l:Nat)(sw pl:Int)(cs:yN):Prop where
 at':ZA S l=Z9 (cs.map Ct.d)
 ok:∀c∈cs,c.ok sw pl
 st:Yo S i
 kp:Kp (·=i) S0 S
 ge:S0.length<=l
 ne:l≠i
theorem Rows.put(h:Rows b S i l sw pl cs)(k:Kp (·=i) S a)(st:Yo a i)(d:∀c∈ds,c.ok sw pl):Rows b (a.set l (.lst (ds.map Ct.d))) i l sw pl ds :=
 ⟨Q8 (k.lst h.at' h.ne),d,st.setO h.ne,(h.kp.trans k).setNew h.ge,h.ge,h.ne⟩
theorem Rows.go(h:Rows b S i l sw pl cs)(k:Kp (·=i) S a)(st:Yo a i):Rows b a i l sw pl cs:=⟨k.lst h.at' h.ne,h.ok,st,h.kp.trans k,h.ge,h.ne⟩
def nE(i:Nat)(ms mp mc sw pl:Int)(l:Nat)(a b c d e f:Option D):ZR:=[Z9 (.lst i),Z9 (.int ms),Z9 (.int mp),Z9 (.int mc),Z9 (.int sw),Z9 (.int pl),Z9 (.lst l),a,b,c,d,e,f]
inductive I7(S:ZU)(i:Nat)(ms mp mc:Int)(N:ZH)(S1:ZU):Prop
 |mk (ok:N.ok ms mp mc) (k:Kp (·=i) S S1) (st:Yo S1 i)
inductive I3(r:RS)(S:ZU)(i:Nat)(ms mp mc:Int):Prop
 |mk (N:ZH) (S1:ZU) (e:r=.rt N.d S1) (p:I7 S i ms mp mc N S1)
inductive ze1(r:R D)(S:ZU)(i:Nat)(ms mp mc:Int):Prop
 |mk (N:ZH) (S1:ZU) (e:r=.ok N.d S1) (ok:N.ok ms mp mc) (k:Kp (·=i) S S1) (st:Yo S1 i)
inductive jx(S0:ZU)(i l:Nat)(ms mp mc sw pl:Int)(v7 v8 v9 v10:Option D)(m:Nat)(cs:yN)(j:Nat)(B:ZR)(S':ZU):Prop
 |mk (v12:Option D) (ds:yN) (e:B=nE i ms mp mc sw pl l v7 v8 v9 v10 (Z9 (.lst m)) v12) (Rl:Rows S0 S' i l sw pl cs) (Rd:Rows S0 S' i m sw pl ds) (h:ds.length=j)
inductive jw(S0:ZU)(i l:Nat)(ms mp mc sw pl:Int)(v7 v8 v9:Option D)(n0:Nat)(j:Nat)(B:ZR)(S':ZU):Prop
 |mk (v10:Option D) (ds:yN) (e:B=nE i ms mp mc sw pl l v7 v8 v9 v10 Z8 Z8) (R:Rows S0 S' i l sw pl ds) (h:ds.length=n0+j)
inductive jv(S0:ZU)(i l:Nat)(ms mp mc sw pl:Int)(kr t:Nat)(j:Nat)(B:ZR)(S':ZU):Prop
 |mk (v8 v9:Option D) (ds:yN) (e:B=nE i ms mp mc sw pl l (Z9 (.lst kr)) v8 v9 Z8 Z8 Z8) (R:Rows S0 S' i l sw pl ds) (h:ds.length=j) (q1:ZA S' kr=Z9 ((Y4 pl).map D.int)) (q2:ZA S' t=Z9 (((Y4 pl).drop 1).map D.int))
theorem Cv(h:CK cl)(he:Jf cl)(E:MW cl)(n:Nat)(hS:Yo S i)(hms:1<=ms/\ms<=4)(hmp:2<=mp/\mp<=7)(hmc:0<=mc/\mc<=16):ze1 (cl (n+3) "_law_net" [.lst i,.int ms,.int mp,.int mc] S) S i ms mp mc:=by
 obtain⟨r1,S1,e1,a1,b1,k1,n1,st1⟩:=Vy E (n+1) hS (m:=ms) (by lia) (by lia);obtain⟨r2,S2,e2,a2,b2,k2,n2,st2⟩:=Vy E (n+1) st1 (m:=mp - 1) (by lia) (by lia);generalize hsw:1+r1=sw at *;generalize hpl:2+r2=pl at *;have w1:1<=sw:=by lia
 have w2:sw<=ms:=by lia
 have C:2<=pl:=by lia
 have p2:pl<=mp:=by lia
 have kS2:Kp (·=i) S S2:=k1.trans k2;have hl:S.length<=S2.length:=kS2.le;have li:S2.length≠i:=by have:=hS.lt;lia
 obtain⟨L,S4,e4,x4,hk4,l4⟩:=Cw (B:=nE i ms mp mc sw pl S2.length Z8 Z8 Z8 Z8 Z8 Z8) (j:=5) rfl C (by lia) (S2++[.lst []]);have kri:L≠i:=by have:=hS.lt;simp at hk4;lia
 have krl:L≠S2.length:=by simp at hk4;lia
 have R4:Rows S S4 i S2.length sw pl []:=⟨x4.lst (Y9 _ _) (λz=>z),(λc o=>by cases o),(st2.ex (Zf _ _)).ex x4,kS2.trans ((Zf S2 [.lst []]).trans x4).kp,hl,li⟩
 have fin:∀(cs:yN) (a:ZU) (H t s k:Option D),Rows S a i S2.length sw pl cs->(cs.length:Int)<=mc ->
   I3 ((ZV (ZE (YZ (ZS [])) (gN 11)) (ZV (YE (Za (ZY 6)) (gN 12) (Pc (cl (n+2)))) (ZV (ZM (Y6 (ZS [(ZY 4),(ZY 5),(ZT Xu (ZS [(ZY 11)]))]))) ZL))) (nE i ms mp mc sw pl S2.length H t s k Z8 Z8) a) S i ms mp mc:=by
  intro cs a H t s k p o;have hm:S.length<=a.length:=p.kp.le;have mi:a.length≠i:=by have:=hS.lt;lia
  have ml:S2.length≠a.length:=by have:=PR p.at';lia
  have Rm:Rows S (a++[.lst []]) i S2.length sw pl cs:=p.go (Zf _ _).kp (p.st.ex (Zf _ _));obtain⟨B',S6,e6,v12,e,hB,K,Rd,l⟩:=UV (w:=[(S2.length,cs.map Ct.d)]) (g:=gN 12) (b:=Pc (cl (n+2))) (items:=cs.map Ct.d)
   (jx S i S2.length ms mp mc sw pl H t s k a.length cs)
   (B:=nE i ms mp mc sw pl S2.length H t s k (Z9 (.lst a.length)) Z8) (S:=a++[.lst []])
   (λj B S' G=>by obtain⟨_,_,_,q,_⟩:=G;exact Vd q.at')
   ⟨Z8,[],rfl,Rm,⟨Y9 _ _,(λc o=>by cases o),Rm.st,Rm.kp,hm,mi⟩,rfl⟩
   (λj d B S' l G=>by
    obtain⟨v12,e,rfl,K,Rd,hj⟩:=G;rw[qB6]at l;obtain⟨c,hc1,rfl⟩:=qA4.mp l;have cok:=p.ok c (qC2 hc1);have jl:j<cs.length:=(qA5.mp hc1).1;obtain⟨r,S7,F,r0,r9,k7,n7,st7⟩:=Vy E (n+1) K.st (m:=((e.map Ct.d).length:Int)+1) (by lia) (by rw[qA1];lia);rw[qA1]at F r9;have hins:∀c'∈e.take r.toNat++c::e.drop r.toNat,c'.ok sw pl:=λc' hc'=>by
     rcases qC3.mp hc' with q|q
     .exact Rd.ok c' (qL2 q)
     .rcases qC0.mp q with q|q
      .subst q;exact cok
      .exact Rd.ok c' (qL3 q)
    have Rd7:=Rd.put k7 st7 hins;have Rl7:Rows S (S7.set a.length (.lst ((e.take r.toNat++c::e.drop r.toNat).map Ct.d))) i S2.length sw pl cs:=⟨Jb (k7.lst K.at' K.ne) (Ne.symm ml),K.ok,st7.setO Rd.ne,(K.kp.trans k7).setNew Rd.ge,K.ge,K.ne⟩
    refine⟨_,_,rfl,_,_,.inl ?_,⟨Z9 c.d,e.take r.toNat++c::e.drop r.toNat,rfl,Rl7,Rd7,by simp;lia⟩⟩;have q1:=PQ Rd.at';have J:=Q9 Rd.at';have I:=NI (k7.lst Rd.at' Rd.ne) Rq [.int r,c.d];have q4:e.length<1000/\0<=r/\r.toNat<=e.length:=by lia
    simp[nE,Pc,q1,J,F,I,q4])
  subst hB;refine⟨⟨sw,pl,e⟩,S6,?_,⟨⟨w1,w2,C,p2,by show(e.length:Int)<=mc;rw[l,qA1];exact o,Rd.ok⟩,Rd.kp,Rd.st⟩⟩;have q5:ZA (a++[O.lst []]) S2.length=Z9 (cs.map Ct.d):=Rm.at';have q6:=UB Rd.at';unfold nE at e6 ⊢;simp[q5,e6,q6,ZH.d]
 have mid:∀(cs:yN) (a:ZU) (H t s:Option D),Rows S a i S2.length sw pl cs->(cs.length:Int)<=mc ->
   I3 ((ZV (YE (T7 (ZS [(ZT (cl (n+2) "_law_take") (ZS [(ZY 0),(ZW ZI (ZW (YR λi j=>i - j) (ZY 3) (ZT Zv (ZS [(ZY 6)]))) (ZX (.int 1)))]))])) (gN 10) (MV (cl (n+2))))
    (ZV (ZE (YZ (ZS [])) (gN 11)) (ZV (YE (Za (ZY 6)) (gN 12) (Pc (cl (n+2)))) (ZV (ZM (Y6 (ZS [(ZY 4),(ZY 5),(ZT Xu (ZS [(ZY 11)]))]))) ZL)))) (nE i ms mp mc sw pl S2.length H t s Z8 Z8 Z8) a) S i ms mp mc:=by
  intro cs a H t s p o;obtain⟨r,S6,e6,r0,r9,k6,n6,st6⟩:=Vy E (n+1) p.st (m:=mc - ((cs.map Ct.d).length:Int)+1) (by rw[qA1];lia) (by lia);rw[qA1]at e6 r9;have R6:=p.go k6 st6;obtain⟨B',S7,F,k,e,hB,Rd,l⟩:=UV (w:=[]) (g:=gN 10) (b:=MV (cl (n+2))) (items:=YT 0 r.toNat)
   (jw S i S2.length ms mp mc sw pl H t s cs.length)
   (λj B S' G=>XP _) ⟨Z8,cs,rfl,R6,rfl⟩
   (λj d B S' l G=>by
    obtain⟨k,e,rfl,R,hj⟩:=G;rw[Ja]at l;obtain⟨hjr,rfl⟩:=l;obtain⟨x,y,S8,e8,x0,xy,yp,k8,st8⟩:=jy he E n R.st C (by lia);obtain⟨Q,S9,e9,a3,b3,k9,n9,W⟩:=Vy E (n+1) st8 (m:=sw) (by lia) (by lia);obtain⟨P,S10,Z,a4,b4,M,n10,u⟩:=Vy E (n+1) W (m:=2) (by lia) (by lia);have kk:=(k8.trans k9).trans M;have U:∀c∈e++[⟨x,y,Q,P⟩],Ct.ok sw pl c:=λc o=>by
     rcases qC3.mp o with q|q
     .exact R.ok c q
     .simp at q;subst q;exact⟨x0,xy,yp,a3,b3,a4,b4⟩
    have Rd:=R.put kk u U;refine⟨_,_,rfl,_,_,.inl ?_,⟨Z9 (.int (0+(j:Int))),e++[⟨x,y,Q,P⟩],rfl,Rd,by simp;lia⟩⟩;have q1:=PQ R.at';have J:=NI (kk.lst R.at' R.ne) UE [Ct.d ⟨x,y,Q,P⟩];have I:e.length<lim:=by rw[YL];lia
    have q4:(2:Nat)+2<=lim:=by decide
    simp[nE,MV,q1,e8,e9,Z,Ct.d,q4]at J ⊢;simp[J,I])
  subst hB;obtain⟨N,v,f,A⟩:=fin e S7 H t s k Rd (by rw[l,OZ];lia);refine⟨N,v,?_,A⟩;have q5:=Q9 p.at';rw[qA1]at q5;have q6:-4611686018427387904<=r/\r<4611686018427387904:=by lia
  rw[JK,lu];unfold nE at F f ⊢;simp[q5,e6,q6,F,-JK,f]
 obtain⟨c5,a,e5,a5,b5,k5,n5,V⟩:=Vy E (n+1) R4.st (m:=2) (by lia) (by lia);have p:=R4.go k5 V;have l5:ZA a L=Z9 ((Y4 pl).map D.int):=k5.lst l4 kri;have main:I3 (Q2 (cl (n+2)) [Z9 (.lst i),Z9 (.int ms),Z9 (.int mp),Z9 (.int mc),Z8,Z8,Z8,Z8,Z8,Z8,Z8,Z8,Z8] S) S i ms mp mc:=by
  unfold nE at e4;by_cases o:c5=0/\pl - 1<=mc
  .have hcut:Ys ((Y4 pl).map D.int) (Z9 1) Z8=((Y4 pl).drop 1).map D.int:=by
    unfold Ys;have hs:HT.sIx ((Y4 pl).map D.int).length 0 (Z9 1)=1:=by have:=HT.sIx_nat ((Y4 pl).map D.int).length 0 1;have hl:=Jc C;rw[qA1]at this ⊢;rw[show((1:Nat):Int)=1 from rfl]at this;rw[this];lia
    rw[hs,HT.sIx_none,List.map_drop,qF5 (by simp)]
   have x6:=Zf a [O.lst (((Y4 pl).drop 1).map D.int)];have t6:ZA (a++[O.lst (((Y4 pl).drop 1).map D.int)]) a.length=Z9 (((Y4 pl).drop 1).map D.int):=Y9 _ _;have l6:=x6.lst l5 (λz=>z);have ti:a.length≠i:=by have:=V.lt;lia
   have tl:a.length≠S2.length:=by have:=PR p.at';lia
   have R6:=p.go x6.kp (V.ex x6);obtain⟨B',S7,F,t,s,e,hB,Rd,l,_⟩:=UV (w:=[(L,(Y4 pl).map D.int),(a.length,((Y4 pl).drop 1).map D.int)]) (g:=gT [gN 8,gN 9]) (b:=Je (cl (n+2))) (items:=zipD ((Y4 pl).map D.int) (((Y4 pl).drop 1).map D.int))
    (jv S i S2.length ms mp mc sw pl L a.length)
    (B:=nE i ms mp mc sw pl S2.length (Z9 (.lst L)) Z8 Z8 Z8 Z8 Z8) (S:=a++[O.lst (((Y4 pl).drop 1).map D.int)])
    (λj B S' G=>by obtain⟨_,_,_,_,_,_,q1,J⟩:=G;exact JI q1 J)
    ⟨Z8,Z8,[],rfl,R6,rfl,l6,t6⟩
    (λj d B S' l G=>by
     obtain⟨t,s,e,rfl,R,hj,q1,J⟩:=G;have hz:∃x y,(Y4 pl)[j]?=Z9 x/\(Y4 pl)[1+j]?=Z9 y/\d=.tup [.int x,.int y]:=by unfold zipD at l;rw[qB6]at l;obtain⟨⟨x,y⟩,hxy,rfl⟩:=qA4.mp l;rw[qE7,qB6,qB6,List.getElem?_drop]at hxy;obtain⟨hx,hy⟩:=hxy;obtain⟨x',hx',rfl⟩:=qA4.mp hx;obtain⟨y',hy',rfl⟩:=qA4.mp hy;exact⟨x',y',hx',hy',rfl⟩
     obtain⟨x,y,hx,hy,rfl⟩:=hz;have hjl:1+j<(Y4 pl).length:=(qA5.mp hy).1;rw[Jc C]at hjl;rw[CC C (by lia)]at hx hy;cases hx;cases hy;obtain⟨Q,S9,e9,a3,b3,k9,n9,W⟩:=Vy E (n+1) R.st (m:=sw) (by lia) (by lia);obtain⟨P,S10,Z,a4,b4,M,n10,u⟩:=Vy E (n+1) W (m:=2) (by lia) (by lia);have kk:=k9.trans M;obtain⟨m1,m2,m3⟩:=O0 (n:=pl) (MQ C (i:=(j:Int)) (by lia) (by lia)) (MQ C (i:=((1+j:Nat):Int)) (by lia) (by lia)) (Cy C (by lia) (by lia) (by lia));generalize hX:(if Y3 pl ((1+j:Nat):Int)<Y3 pl (j:Int)then Y3 pl ((1+j:Nat):Int)else Y3 pl (j:Int))=X at m1 m2;generalize hY:(if Y3 pl ((1+j:Nat):Int)>Y3 pl (j:Int)then Y3 pl ((1+j:Nat):Int)else Y3 pl (j:Int))=Y at m2 m3;have U:∀c∈e++[⟨X,Y,Q,P⟩],Ct.ok sw pl c:=λc o=>by
      rcases qC3.mp o with q|q
      .exact R.ok c q
      .simp at q;subst q;exact⟨m1,m2,m3,a3,b3,a4,b4⟩
     have Rd:=R.put kk u U;refine⟨_,_,rfl,_,_,.inl ?_,⟨Z9 (.int (Y3 pl (j:Int))),Z9 (.int (Y3 pl ((1+j:Nat):Int))),e++[⟨X,Y,Q,P⟩],rfl,Rd,by simp;lia,Jb (kk.lst q1 kri) krl.symm,Jb (kk.lst J ti) tl.symm⟩⟩;have q7:=PQ R.at';have q8:=NI (kk.lst R.at' R.ne) UE [Ct.d ⟨X,Y,Q,P⟩];have q9:e.length<lim:=by rw[YL];lia
     simp[nE,Je,q7,e9,Z,Ct.d,-Int.natCast_add,hX,hY]at q8 ⊢;simp[q8,q9])
   have hdl:e.length=pl.toNat - 1:=by rw[l];unfold zipD;rw[qA1,qL7,qA1,qA1,qG5,Jc C];exact qN5 (Nat.sub_le _ _)
   subst hB;obtain⟨N,v,f,A⟩:=mid e S7 (Z9 (.lst L)) t s Rd (by lia);unfold nE at F f;refine⟨N,v,?_,A⟩;have I:=NJ l5 (Z9 1) Z8;rw[hcut]at I;unfold Q2;generalize hT:((Y4 pl).drop 1).map D.int=T at I l6 t6 F;generalize hT2:(Y4 pl).map D.int=T2 at I l6 t6 F;simp[e1,e2,hsw,hpl,↓e4,e5,o.1,o.2,I,l6,t6,F,↓f]
  .obtain⟨N,v,f,A⟩:=mid [] a (Z9 (.lst L)) Z8 Z8 p (by show(0:Int)<=mc;lia);unfold nE at f;refine⟨N,v,?_,A⟩;unfold Q2;by_cases h0:c5=0
   .have h1:¬(pl - 1<=mc):=λz=>o ⟨h0,z⟩;simp[e1,e2,hsw,hpl,↓e4,e5,h0,h1,↓f]
   .simp[e1,e2,hsw,hpl,↓e4,e5,h0,↓f]
 obtain⟨N,S12,e12,a12,b12,c12⟩:=main;exact⟨N,S12,by rw[show n+3=(n+2)+1 from rfl,h];exact Zj rfl e12,a12,b12,c12⟩
end Internal
namespace Tactic
def Tf(es:List (Int×Int)):Prop:=∀C:Int->Prop,C 0->(∀e∈es,(C e.1↔C e.2))->C 1
structure MP(es:List (Int×Int))(s:Int)(F:Int->Prop):Prop where
 start:F s
 closed:∀e∈es,(F e.1↔F e.2)
 least:∀C:Int->Prop,C s->(∀e∈es,(C e.1↔C e.2))->∀x,F x->C x
theorem MP.joined(h:MP es 0 F):F 1↔Tf es:=⟨λf C b a=>h.least C b a 1 f,λj=>j F h.start h.closed⟩
theorem ju{c:Type}{p q:c->Bool}{l:List c}(h:∀x,p x=Z7->q x=Z7){a:c}(d:a∈l)(g:q a=Z7)(f:p a=Z5):(l.filter p).length<(l.filter q).length:=by
 induction l with
 |nil=>cases d
 |cons x r b =>
  have le:(r.filter p).length<=(r.filter q).length:=by
   clear b d
   induction r with
   |nil=>simp
   |cons y r b =>
    rw[qG6,qG6];cases e:p y with
    |true=>rw[h y e];simpa using b
    |false =>
     cases q y with
     |true=>simp;lia
     |false=>simpa using b
  grind
def Cu(ms:yA)(e:Int×Int):yA :=
 let l:=if ms.getD e.2.toNat 0<ms.getD e.1.toNat 0 then ms.getD e.2.toNat 0 else ms.getD e.1.toNat 0
 (ms.set e.1.toNat l).set e.2.toNat l
def ZZ(ms:yA)(x:Int):Prop:=0<=x/\ms[x.toNat]?=Z9 0
end Tactic
namespace Internal
open PySem Lake Tactic
variable {cl:Nat->ZQ}
def YC(st:yA):D:=.tup (st.map D.int)
def Wq(c:Ct)(st:yA):Bool:=decide (st.getD c.k.toNat 0=c.o)
theorem I0{l:yA}{k:Int}(a:0<=k)(b:k<l.length):XN (l.map D.int) k=Z9 (.int (l.getD k.toNat 0)):=by
 have e:l[k.toNat]?=Z9 (l.getD k.toNat 0):=by rw[qM1,qA9 (by lia)];rfl
 have q:=UO (xs:=l.map D.int) (by rw[qB6,e];rfl);rw[show(k.toNat:Int)=k by lia]at q;exact q
theorem jt(h:PM cl)(n:Nat)(c:Ct)(st:yA)(a:0<=c.k)(b:c.k<st.length)(S:ZU):cl (n+1) "is_shut" [c.d,YC st] S=.ok (.bl (Wq c st)) S:=by rw[h];refine Zj rfl ?_;simp[Nw,YY,Ct.d,YC,I0 a b,Wq]
def XI{a:Type}(l:List a):List (Nat×a):=(List.range l.length).zip l
theorem RW(e:a->D)(l:List a):WT (l.map e)=(XI l).map λq=>.tup [.int (q.1:Nat),e q.2]:=by unfold WT XI;rw[qA1,List.zip_map_right,qC6];rfl
theorem IZ{q:Nat×b}(h:q∈XI l):l[q.1]?=Z9 q.2:=by unfold XI at h;obtain⟨i,c⟩:=qJ1 h;rw[qE7]at c;obtain⟨e,d⟩:=c;have:=qA5.mp e;obtain⟨f,a⟩:=this;simp at a;rw[<- a];exact d
theorem jr(l:List a):(XI l).map (·.2)=l:=by exact qQ8 (by simp)
theorem MO:(1000:Nat)<lim:=by decide
theorem MN(l:List a):(XI l).length=l.length:=by unfold XI;simp
def Yn(cs:yN):List (Int×Int):=cs.map λc=>(c.a,c.b)
def Xn(a:Nat)(fs:yA):Nat:=((List.range a).filter fun(v:Nat)=>decide ((v:Int)∈fs)).length
theorem IY(BB:Nat)(fs:yA):Xn BB fs<=BB:=by unfold Xn;have:=qG3 (fun(v:Nat)=>decide ((v:Int)∈fs)) (List.range BB);simpa using this
theorem Cs{b:Nat}(h:∀x,x∈fs->x∈gs){x:Int}(d:x∈gs)(c:x∉fs)(e:0<=x)(f:x<b):Xn b fs<Xn b gs:=by
 refine ju (a:=x.toNat) (λv hv=>?_) ?_ ?_ ?_
 .simp only[decide_eq_true_eq]at hv ⊢;exact h _ hv
 .rw[qI8];lia
 .simp only[decide_eq_true_eq];rw[show(x.toNat:Int)=x by lia];exact d
 .simp only[decide_eq_false_iff_not];rw[show(x.toNat:Int)=x by lia];exact c
theorem IX(fs:yA)(a:Int):(YM fs a).length<=fs.length+1:=by unfold YM;split<;>simp
def pE(s:Int)(k l:Nat)(g:Bool)(v:Option D):ZR:=[Z9 (.int s),Z9 (.lst k),Z9 (.dct l),Z9 (.bl g),v]
def IW(cs:yN)(s:Int)(fs:yA):Prop:=∀C:Int->Prop,C s->(∀e∈Yn cs,(C e.1↔C e.2))->∀x∈fs,C x
inductive jq(cs:yN)(s:Int)(k:Nat)(S:ZU)(m:Nat)(B:ZR)(S':ZU):Prop
 |mk (fs:yA) (g:Bool) (v4:Option D) (e:B=pE s k S.length g v4) (kp:Kp (·=S.length) (S++[.dk (Y5 [s])]) S') (hf:S'[S.length]?=Z9 (.dk (Y5 fs))) (r1:s∈fs) (r2:IW cs s fs) (r3:g=Z5->∀e∈Yn cs,(e.1∈fs↔e.2∈fs)) (r4:g=Z7->m+Xn 7 fs=9) (r5:fs.length+200*m<=2000) (nd:fs.Nodup)
inductive jn(cs:yN)(s:Int)(k:Nat)(S:ZU)(B:ZR)(S':ZU):Prop
 |mk (fs:yA) (v4:Option D) (e:B=pE s k S.length Z5 v4) (kp:Kp (·=S.length) (S++[.dk (Y5 [s])]) S') (hf:S'[S.length]?=Z9 (.dk (Y5 fs))) (r1:s∈fs) (r2:IW cs s fs) (r3:∀e∈Yn cs,(e.1∈fs↔e.2∈fs)) (nd:fs.Nodup)
inductive jm(cs:yN)(s:Int)(k:Nat)(S:ZU)(fs:yA)(j:Nat)(B:ZR)(S2:ZU):Prop
 |mk (fs2:yA) (g2:Bool) (v4:Option D) (e:B=pE s k S.length g2 v4) (kp:Kp (·=S.length) (S++[.dk (Y5 [s])]) S2) (hf:S2[S.length]?=Z9 (.dk (Y5 fs2))) (q1:∀x∈fs,x∈fs2) (q2:IW cs s fs2)
  (q3:g2=Z5->fs2=fs/\∀i c,i<j->cs[i]?=Z9 c->(c.a∈fs↔c.b∈fs)) (q4:g2=Z7->Xn 7 fs<Xn 7 fs2) (q5:fs2.length<=fs.length+2*j) (nd:fs2.Nodup)
theorem Cr(h:fs.Nodup)(a:Int):(YM fs a).Nodup:=by
 unfold YM;split
 .exact h
 .rename_i c;exact qF7.mpr ⟨h,by simp,λx d y b e=>c (by rw[qB4]at b;subst b;subst e;exact d)⟩
theorem jk(h:Th cl)(n:Nat)(cs:yN)(s:Int)(hs:0<=s/\s<7)(hc:cs.length<=100)(hb:∀c∈cs,(0<=c.a/\c.a<7)/\0<=c.b/\c.b<7)(hk:ZA S k=Z9 (cs.map Ct.d)):
  ∃m S1 fs,cl (n+1) "places_from" [.int s,.lst k] S=.ok (.dct m) S1/\Ex S S1/\S1[m]?=Z9 (.dk (Y5 fs))/\MP (Yn cs) s (·∈fs)/\fs.Nodup:=by
 have km:k≠S.length:=by have:=PR hk;lia
 obtain⟨B',v,e,fs,I,rfl,kp,q,R,W,Y,V⟩:=JH (t:=Zb (ZY 3)) (b:=Nu (cl n)) (jq cs s k S) (jn cs s k S)
  (λm B v P=>by
   obtain⟨fs,g,I,rfl,kp,q,R,W,Y,r4,r5,V⟩:=P;cases g with
   |false=>exact .inl ⟨v,by simp[pE],⟨fs,I,rfl,kp,q,R,W,Y rfl,V⟩⟩
   |true =>
    refine .inr ⟨v,by simp[pE],?_⟩;have hl:ZA v k=Z9 (cs.map Ct.d):=kp.lst (UW hk) km;obtain⟨B2,S2,e2,fs2,L,y,rfl,p,r,Q,N,G,T,q5,l⟩:=UV (w:=[(k,cs.map Ct.d)]) (g:=gN 4) (b:=Nv (cl n)) (items:=cs.map Ct.d)
     (jm cs s k S fs) (B:=pE s k S.length Z5 I) (S:=v)
     (λj B S2 P=>by
      obtain⟨_,_,_,_,kp⟩:=P;exact Vd (kp.lst (UW hk) km))
     ⟨fs,Z5,I,rfl,kp,q,λx a=>a,W,λ_=>⟨rfl,λi c U=>by lia⟩,(λz=>by cases z),by lia,V⟩
     (λj d B S2 hd P=>by
      obtain⟨fs2,L,I,rfl,p,o,Q,N,G,T,q5,l⟩:=P;rw[qB6]at hd;obtain⟨c,H,rfl⟩:=qA4.mp hd;have hm:c∈cs:=qC2 H;have hj:j<cs.length:=(qA5.mp H).1;obtain⟨ba,bb⟩:=hb c hm;have he:(c.a,c.b)∈Yn cs:=qC8.mpr ⟨c,hm,rfl⟩;refine⟨_,_,rfl,?_⟩;have i1:=JG o Z5 c.a;have i2:=JG o Z5 c.b;have hlim:fs2.length+2<lim:=by have:=MO;rw[YL];lia
      by_cases f:(c.a∈fs2↔c.b∈fs2)
      .refine⟨_,S2,.inl ?_,⟨fs2,L,Z9 c.d,rfl,p,o,Q,N,λK=>⟨(G K).1,λi c' U F=>?_⟩,T,by lia,l⟩⟩
       .have:(decide (c.a∈fs2) != decide (c.b∈fs2))=Z5:=by simp[f]
        simp[pE,Nv,Ct.d,i1,i2,this]
       .by_cases hij:i=j
        .subst hij;rw[H]at F;cases F;rw[(G K).1]at f;exact f
        .exact(G K).2 i c' (by lia) F
      .have s1:=Dk o (by lia) c.a;have f3:(S2.set S.length (.dk (Y5 (YM fs2 c.a))))[S.length]?=Z9 (.dk (Y5 (YM fs2 c.a))):=qD4 (qA5.mp o).1;have s2:=Dk f3 (by have:=IX fs2 c.a;lia) c.b;have f4:((S2.set S.length (.dk (Y5 (YM fs2 c.a)))).set S.length (.dk (Y5 (YM (YM fs2 c.a) c.b))))[S.length]?=Z9 (.dk (Y5 (YM (YM fs2 c.a) c.b))):=qD4 (qA5.mp f3).1;have mem:∀x,x∈YM (YM fs2 c.a) c.b↔x∈fs2∨x=c.a∨x=c.b:=λx=>by rw[Dj,Dj,or_assoc]
       refine⟨_,_,.inl ?_,⟨YM (YM fs2 c.a) c.b,Z7,Z9 c.d,rfl,(p.trans (TV _ _)).trans (TV _ _),f4,λx a=>(mem x).mpr (.inl (Q x a)),λC J X x a=>?_,(λz=>by cases z),λ_=>?_,by have:=IX fs2 c.a;have:=IX (YM fs2 c.a) c.b;lia,Cr (Cr l _) _⟩⟩
       .have:(decide (c.a∈fs2) != decide (c.b∈fs2))=Z7:=by by_cases u:c.a∈fs2<;>by_cases E:c.b∈fs2<;>simp[u,E]at f ⊢
        simp[pE,Nv,Ct.d,i1,i2,this,s1,s2]
       .have M:=N C J X;have A:=X _ he;dsimp only at A;have one:C c.a/\C c.b:=by
         by_cases u:c.a∈fs2
         .exact⟨M _ u,A.mp (M _ u)⟩
         .by_cases E:c.b∈fs2
          .exact⟨A.mpr (M _ E),M _ E⟩
          .exact absurd (iff_of_false u E) f
        rcases(mem x).mp a with z|z|z
        .exact M x z
        .subst z;exact one.1
        .subst z;exact one.2
       .have lt:Xn 7 fs2<Xn 7 (YM (YM fs2 c.a) c.b):=by
         by_cases u:c.a∈fs2
         .have E:c.b∉fs2:=λz=>f (iff_of_true u z);exact Cs (λx a=>(mem x).mpr (.inl a)) ((mem c.b).mpr (.inr (.inr rfl))) E bb.1 bb.2
         .exact Cs (λx a=>(mem x).mpr (.inl a)) ((mem c.a).mpr (.inr (.inl rfl))) u ba.1 ba.2
        cases L with
        |true=>have:=T rfl;lia
        | false=>rw[(G rfl).1]at lt ⊢;exact lt)
    have J:=IY 7 fs;have c1:=r4 rfl;rw[qA1]at q5;have step:Nu (cl n) (pE s k S.length Z7 I) v=.nx (pE s k S.length L y) S2:=by unfold pE at e2 ⊢;simp[Nu,hl,e2]
    cases L with
    |true =>
     have c2:=IY 7 fs2;have c3:=T rfl;exact⟨_,S2,.inl step,9 - Xn 7 fs2,by lia,⟨fs2,Z7,y,rfl,p,r,Q s R,N,(λz=>by cases z),λ_=>by lia,by lia,l⟩⟩
    |false =>
     refine⟨_,S2,.inl step,0,by lia,⟨fs2,Z5,y,rfl,p,r,Q s R,N,λK e he=>?_,(λz=>by cases z),by lia,l⟩⟩;obtain⟨c,Z,rfl⟩:=qC8.mp he;obtain⟨i,U⟩:=qJ1 Z;rw[(G K).1];exact(G K).2 i c (by rw[qA1];exact(qA5.mp U).1) U)
  Sd (9 - Xn 7 [s]) (pE s k S.length Z7 Z8) (S++[.dk (Y5 [s])]) (qH9 (Nat.sub_le _ _) (by decide))
   ⟨[s],Z7,Z8,rfl,Kp.refl _ _,by rw[qA2 (qA6 _),qD8];rfl,by simp,λC J _ x a=>(by simp at a;subst a;exact J),(λz=>by cases z),λ_=>(by have:=IY 7 [s];lia),by simp;lia,by simp⟩
 refine⟨S.length,v,fs,?_,⟨?_,λj hj _=>?_⟩,q,⟨R,Y,λC J X x a=>W C J X x a⟩,V⟩
 .rw[h];refine Zj rfl ?_;have e0:(S++[O.dk [((Sum.inl s:Zz),D.bl Z7)]])=S++[O.dk (Y5 [s])]:=rfl;unfold pE at e;simp[Nt,YY,WY,e0,e]
 .have:=kp.le;simp at this;lia
 .rw[kp.eq j (by simp;lia) (by lia),qA8 hj]
theorem ji(h:Th cl)(n:Nat)(cs:yN)(s:Int)(i:0<=s/\s<7)(g:cs.length<=100)(f:∀c∈cs,(0<=c.a/\c.a<7)/\0<=c.b/\c.b<7)(hk:ZA S k=Z9 (cs.map Ct.d)):
  ∃m e fs,cl (n+1) "places_from" [.int s,.lst k] S=.ok (.dct m) e/\Ex S e/\e[m]?=Z9 (.dk (Y5 fs))/\MP (Yn cs) s (·∈fs):=by obtain⟨m,e,fs,a,b,c,d,_⟩:=jk h n cs s i g f hk;exact⟨m,e,fs,a,b,c,d⟩
def jB(es:List (Int×Int)):Bool:=@decide (Tf es) (Classical.propDecidable _)
theorem OY:jB es=Z7↔Tf es:=@decide_eq_true_iff _ (Classical.propDecidable _)
theorem jh(h:b=Z7↔Tf es):b=jB es:=by
 cases b with
 |true=>exact(OY.mpr (h.mp rfl)).symm
 |false =>
  cases q:jB es with
  |false=>rfl
  |true=>exact absurd (h.mpr (OY.mp q)) qB0
def Wp(cs:yN):Prop:=∀c∈cs,(0<=c.a/\c.a<7)/\0<=c.b/\c.b<7
theorem Cq(h:Q5 cl)(g:Th cl)(n:Nat)(cs:yN)(b:cs.length<=100)(c:Wp cs)(hk:ZA S k=Z9 (cs.map Ct.d)):Yr (cl (n+2) "joins" [.lst k] S) ((.bl (jB (Yn cs)))) S:=by obtain⟨m,a,fs,e,x,f,r⟩:=ji g n cs 0 (by decide) b c hk;refine⟨a,?_,x⟩;rw[show n+2=(n+1)+1 from rfl,h];refine Zj rfl ?_;have q:=JG f Z5 1;have d:decide (1∈fs)=jB (Yn cs):=jh (by rw[decide_eq_true_eq];exact r.joined);simp[Nr,YY,e,q,d]
def Zu(N:ZH)(st:yA):Bool:=jB (Yn (N.cs.filter λc=>Wq c st))
structure jg(N:ZH)(st:yA):Prop where
 len:(st.length:Int)=N.sw
theorem ZH.ok.ks(h:N.ok ms mp mc)(d:jg N st):∀c∈N.cs,0<=c.k/\c.k<st.length:=λc e=>by obtain⟨_,_,_,b,a,_,_⟩:=h.c2 c e;rw[d.len];exact⟨b,a⟩
theorem ZH.ok.in7{N:ZH}(h:N.ok ms mp mc)(e:mp<=7):Wp N.cs:=λc a=>by obtain⟨f,b,d,_⟩:=h.c2 c a;have:=h.p2;omega
theorem Wp.filter(h:Wp cs)(p:Ct->Bool):Wp (cs.filter p):=λc a=>h c (qF1.mp a).1
theorem ZH.ok.len{N:ZH}(h:N.ok ms mp mc)(a:mc<=16):N.cs.length<=100:=by have:=h.c1;lia
theorem jf(h:Np cl)(hi:PM cl)(n:Nat)(N:ZH)(st:yA)(e:N.cs.length<=100)(hk:∀c∈N.cs,0<=c.k/\c.k<st.length)(S:ZU):cl (n+2) "shut_contacts" [N.d,YC st] S=.ok (.lst S.length) (S++[.lst ((N.cs.filter λc=>Wq c st).map Ct.d)]):=by
 have d:YS [] .one (Jx (cl (n+1))) (Jw (cl (n+1))) [Z8,Z9 (YC st)] (N.cs.map Ct.d) S=.ok ((N.cs.filter λc=>Wq c st).map Ct.d) S:=by
  refine Q7 Ct.d (XP S) _ _ _ λc a=>⟨_,rfl,?_,λ_=>?_⟩
  .have:=jt hi n c st (hk _ a).1 (hk _ a).2 S;simp[Jx,this]
  .simp[Jw]
 rw[show n+2=(n+1)+1 from rfl,h];refine Zj rfl ?_;have b:N.cs.length<lim:=by have:=MO;lia
 simp[Nq,YY,ZH.d,d,b]
theorem Cp(h:Jv cl)(i:Q5 cl)(b:Th cl)(l:Np cl)(hi:PM cl)(n:Nat)(a:N.cs.length<=100)(j:Wp N.cs)(hk:∀c∈N.cs,0<=c.k/\c.k<st.length)(S:ZU):Yr (cl (n+3) "lets" [N.d,YC st] S) ((.bl (Zu N st))) S:=by have g:=jf l hi n N st a hk S;have e:(N.cs.filter λc=>Wq c st).length<=100:=qC5 (qG3 _ _) a;obtain⟨f,d,k⟩:=Cq i b n _ e (j.filter _) (Y9 S ((N.cs.filter λc=>Wq c st).map Ct.d));refine⟨f,?_,(Zf _ _).trans k⟩;rw[show n+3=(n+2)+1 from rfl,h];refine Zj rfl ?_;simp[Nn,YY,g,d,Zu]
@[simp]theorem zew(w x y z:D):Ys [w,x,y,z] Z8 (Z9 2)=[w,x]:=rfl
def IV(S:ZU)(x:D)(l:yM):Prop:=x=.tup l∨∃k,x=.lst k/\ZA S k=Z9 l
def Zr:Nat->List (yA)
 |0=>[[]]
 |n+1=>(Zr n).map (0::·)++(Zr n).map (1::·)
theorem MM:∀n,(Zr n).length=2 ^ n
 |0=>rfl
 |n+1=>by unfold Zr;rw[qB5,qA1,qA1,MM n,Nat.pow_succ];lia
theorem OX:∀n,∀st∈Zr n,st.length=n/\∀b∈st,b=0∨b=1
 |0,st,h=>by simp[Zr]at h;subst h;simp
 |n+1,st,h=>by
  rcases qC3.mp h with q|q
  .obtain⟨t,a,rfl⟩:=qC8.mp q;obtain⟨d,c⟩:=OX n t a
   simp_all
  .obtain⟨t,a,rfl⟩:=qC8.mp q;obtain⟨d,c⟩:=OX n t a
   simp_all
theorem Co(h:j<=4):2 ^ j<=16:=qC5 (qE5 (by decide) h) (by decide)
theorem Cn(h:Jy cl)(n:Nat)(F:0<=sw)(I:sw<=4)(S:ZU):∃k i,cl (n+1) "settings" [.int sw] S=.ok (.lst k) i/\Ex S i/\S.length<=k/\ZA i k=Z9 ((Zr sw.toNat).map YC):=by
 obtain⟨H,i,C,k,p,rfl,o,hk,c⟩:=UV (g:=gN 2) (b:=Jz (cl n)) (items:=YT 0 sw.toNat)
  (λj B a=>∃k p,B=[Z9 (.int sw),Z9 (.lst k),p]/\Ex S a/\S.length<=k/\ZA a k=Z9 ((Zr j).map YC))
  (S:=S++[.lst [.tup []]])
  (λj B a t=>XP _) ⟨S.length,Z8,rfl,Zf _ _,qA6 _,by rw[Y9];rfl⟩
  (λj d B a x t=>by
   obtain⟨k,p,rfl,o,hk,c⟩:=t;rw[Ja]at x;have v:(Zr j).length<=16:=by rw[MM];exact Co (by lia)
   have comp:∀b e (u:∀l B S,e (Z9 (.tup l)::B) S=if 1+l.length<=lim then .ok (.tup (.int b::l)) S else .bad) S2,ZA S2 k=Z9 ((Zr j).map YC)->YS [(k,(Zr j).map YC)] .one (λ_=>ret Z7) e [Z8] ((Zr j).map YC) S2=.ok (((Zr j).map (b::·)).map YC) S2:=by
    intro b e u S2 f;rw[qC6];refine V8 YC (Vd f) _ _ λs r=>⟨_,rfl,?_⟩
    have:=(OX j s r).1;show e [Z9 (YC s)] S2=_;unfold YC;rw[u,if_pos (by rw[qA1,YL];lia)];rfl
   have q:=comp 0 (JB (cl n)) (λl B S=>by simp[JB]) a c;have f:=(Zf a [.lst (((Zr j).map (0::·)).map YC)]).lst c (λz=>z);have m:=comp 1 (JA (cl n)) (λl B S=>by simp[JA]) (a++[.lst (((Zr j).map (0::·)).map YC)]) f;generalize hA:a++[O.lst (((Zr j).map (0::·)).map YC)]=A at m f;generalize hX0:((Zr j).map (0::·)).map YC=X0 at q hA;generalize hX1:((Zr j).map (1::·)).map YC=X1 at m;have D:ZA (A++[.lst X1]) a.length=Z9 X0:=by rw[<- hA];exact UW (Y9 _ _)
   have G:X0.length<=16:=by rw[<- hX0];simpa using v
   have J:X1.length<=16:=by rw[<- hX1];simpa using v
   have E:=PN D (Y9 A X1) (by rw[YL];lia);refine⟨_,_,rfl,_,A++[.lst X1]++[.lst (X0++X1)],.inl ?_,(A++[O.lst X1]).length,Z9 d,rfl,?_,?_,?_⟩
   .have w:((Zr j).map YC).length<lim:=by rw[qA1,YL];lia
    generalize hB:(Zr j).map YC=BB at c f q m w;simp[Jz,c,q,hA,f,m,w,E]
   .rw[<- hA];exact((o.trans (Zf _ _)).trans (Zf _ _)).trans (Zf _ _)
   .rw[<- hA];have:=o.le;simp;lia
   .rw[Y9,<- hX0,<- hX1,show Zr (j+1)=(Zr j).map (0::·)++(Zr j).map (1::·)from rfl,qE2])
 rw[OZ]at c;refine⟨k,i,?_,o,hk,c⟩;rw[h];refine Zj rfl ?_;have y:-4611686018427387904<=sw/\sw<4611686018427387904:=by lia
 simp[Nx,YY,y,C]
def Zw(N:ZH):yA:=(Zr N.sw.toNat).map λa=>if Zu N a then 1 else 0
theorem je{sw:Int}(a:sw<=4):((Zr sw.toNat).map YC).length<lim:=by rw[qA1,MM,YL];have:=Co (j:=sw.toNat) (by lia);lia
theorem jd(h:Da cl)(b:Jv cl)(r:Q5 cl)(v:Th cl)(m:Np cl)(hi:PM cl)(d:Jy cl)(n:Nat)(q:0<=N.sw)(w2:N.sw<=4)(f:N.cs.length<=100)(l:Wp N.cs)(hk:∀c∈N.cs,0<=c.k/\c.k<N.sw)(S:ZU):
  Yr (cl (n+4) "function_of" [N.d] S) ((YC (Zw N))) S:=by
 obtain⟨k,w,E,u,_,j⟩:=Cn d (n+2) q w2 S;obtain⟨i,g,B⟩:=PP YC (t:=.one) (c:=Ju (cl (n+3))) (B0:=[Z8,Z9 N.d]) (λa=>Ex w a) (λa x=>Vd (x.lst j λz=>z)) (λst=>.int (if Zu N st then 1 else 0)) (Zr N.sw.toNat) (Kp.refl _ _)
  (λst e a x=>by
   have H:=(OX _ st e).1;obtain⟨A,o,s⟩:=Cp b r v m hi n f l (st:=st) (λc f=>by have:=hk c f;lia) a;refine⟨_,rfl,A,?_,x.trans s⟩;cases C:Zu N st<;>simp[Ju,o,C])
 have p:(Zr N.sw.toNat).map (λst=>D.int (if Zu N st then 1 else 0))=(Zw N).map D.int:=by unfold Zw;rw[qC6];rfl
 rw[p]at g;refine⟨_,?_,(u.trans B).trans (Zf i [.lst ((Zw N).map D.int)])⟩;rw[show n+4=(n+3)+1 from rfl,h];refine Zj rfl ?_;have G:=je w2;have F:=UB (Y9 i ((Zw N).map D.int));have y:ZK N.d (.int 0) S=.ok (.int N.sw) S:=by simp[ZH.d]
 generalize (Zr N.sw.toNat).map YC=BB at *;simp[Nl,YY,y,E,j,G,g,F,YC]
def Te:D->Bool
 |.int i=>decide (0<=i)&&decide (i<=1)
 |_=>Z5
def VW:D->Bool
 |.int _=>Z7
 |_=>Z5
def RU(d:D):Prop:=(XS d).isSome=Z7
theorem Q0(h:Uz cl)(n:Nat)(a:RU d)(S:ZU):cl (n+1) "is_whole" [d] S=.ok (.bl (VW d)) S:=by
 rw[h];refine Zj rfl ?_;cases d with
 |int i=>simp[R5,YY,VW]
 |bl b=>simp[R5,YY,VW]
 |non=>simp[R5,YY,VW]
 |str x=>simp[R5,YY,VW]
 |_=>cases a
theorem jc(h:NB cl)(f:Uz cl)(n:Nat)(c:RU d)(S:ZU):cl (n+2) "is_bit" [d] S=.ok (.bl (Te d)) S:=by
 have e:=Q0 f n c S;rw[show n+2=(n+1)+1 from rfl,h];refine Zj rfl ?_;cases d with
 |int i =>
  by_cases a:0<=i
  .simp[Ti,YY,e,VW,Te,a]
  .simp[Ti,YY,e,VW,Te,a]
 |bl b=>simp[Ti,YY,e,VW,Te]
 |non=>simp[Ti,YY,e,VW,Te]
 |str x=>simp[Ti,YY,e,VW,Te]
 |_=>cases c
theorem Cm:∀l:List Bool,Wa (l.map D.bl)=Z9 l
 |[]=>rfl
 |b::r=>by show(Wa (r.map D.bl)).map (b::·)=_;rw[Cm r];rfl
theorem Ck(h:ZA S k=Z9 (l.map D.bl))(g:List Bool->Bool):Xz g [.lst k] S=.ok (.bl (g l)) S:=by show(match (ZA S k).bind Wa with|some bs=>R.ok (D.bl (g bs)) S|none=>.bad)=_;rw[h];show(match Wa (l.map D.bl)with|some bs=>R.ok (D.bl (g bs)) S|none=>.bad)=_;rw[Cm]
theorem ja(a:Int)(l:yA):TB (.int a) (l.map V.int)=decide (a∈l):=by
 unfold TB
 induction l with
 |nil=>rfl
 |cons x r c =>
  rw[qB2,qE9,c];by_cases h:x=a
  .subst h;simp[UM]
  .have b:¬a=x:=λz=>h z.symm;simp[UM,h,b]
theorem i9(l:yA):(l.map D.int).mapM XS=Z9 (l.map V.int):=by
 induction l with
 |nil=>rfl
 |cons x r a=>rw[qB2,qF6,a];rfl
theorem QZ(neg:Bool)(a:Int)(l:yA)(S:ZU):YA neg (.int a) (.tup (l.map D.int)) S=.ok (.bl (if neg then !decide (a∈l)else decide (a∈l))) S:=by show(match (l.map D.int).mapM XS with|some b=>R.ok (D.bl (if neg then !TB (.int a) b else TB (.int a) b)) S|none=>.bad)=_;rw[i9];dsimp only;rw[ja]
@[simp]theorem zam(w x y z:D):Ys [w,x,y,z] Z8 (Z9 3)=[w,x,y]:=rfl
theorem OW(i:Int):RU (.int i):=rfl
theorem i8(h:JD cl)(p:NB cl)(d:Uz cl)(n:Nat){c:Ct}(ok:c.ok sw pl)(S:ZU):Yr (cl (n+3) "is_contact" [.int sw,.int pl,c.d] S) ((.bl Z7)) S:=by
 obtain⟨r,s,t,q,k,v,u⟩:=ok;have g:YS [] .one (λ_=>ret Z7) (NA (cl (n+2))) [Z8] ([c.a,c.b,c.k,c.o].map D.int) S=.ok ([c.a,c.b,c.k,c.o].map λ_=>D.bl Z7) S:=by
  refine V8 D.int (XP _) _ _ λy w=>⟨_,rfl,?_⟩
  have:=Q0 d (n+1) (OW y) S;simp[NA,this,VW]
 have a:YS [] .one (λ_=>ret Z7) (NA (cl (n+2))) [Z8] [.int c.a,.int c.b,.int c.k,.int c.o] S=.ok [.bl Z7,.bl Z7,.bl Z7,.bl Z7] S:=g;have f:Xz (λbs=>bs.all id) [.lst S.length] (S++[.lst [.bl Z7,.bl Z7,.bl Z7,.bl Z7]])=.ok (.bl Z7) (S++[.lst [.bl Z7,.bl Z7,.bl Z7,.bl Z7]]):=Ck (l:=[Z7,Z7,Z7,Z7]) (Y9 S _) _;have e:=Zf S [O.lst [.bl Z7,.bl Z7,.bl Z7,.bl Z7]];generalize hS1:S++[O.lst [.bl Z7,.bl Z7,.bl Z7,.bl Z7]]=S1 at f e;have b1:=jc p d n (OW c.o) S1;have o:Te (.int c.o)=Z7:=by simp[Te];lia
 rw[o]at b1;have m:4<lim:=by decide
 have b:Qh (Y0 λi j=>decide (i<=j)) WJ WJ (ZX (.int 0)) (ZW ZK (ZY 2) (ZX (.int 0))) (ZW ZK (ZY 2) (ZX (.int 1))) (ZY 1) [Z9 (.int sw),Z9 (.int pl),Z9 (.tup [.int c.a,.int c.b,.int c.k,.int c.o])] S1=.ok Z7 S1:=by
  unfold Qh
  simp_all
 refine⟨S1,?_,e⟩;rw[show n+3=(n+2)+1 from rfl,h];refine Zj rfl ?_;simp[Nz,YY,Ct.d,a,m,hS1,f,b,q,k,b1]
theorem i6(h:Dc cl)(A:JD cl)(z:NB cl)(e:Uz cl)(n:Nat){N:ZH}(ok:N.ok 4 7 16)(S:ZU):Yr (cl (n+4) "is_net" [N.d] S) ((.bl Z7)) S:=by
 have o:=ok.s1;have v:=ok.s2;have y:=ok.p1;have p:=ok.p2;have B:=ok.c1;have l:=Q0 e (n+2) (OW N.sw) S;have m:=Q0 e (n+2) (OW N.pl) S;obtain⟨i,k,w⟩:=PP Ct.d (t:=.one) (c:=JC (cl (n+3))) (B0:=[Z8,Z9 (.int N.sw),Z9 (.int N.pl)]) (λa=>Ex S a) (λa x=>XP _) (λ_=>.bl Z7) N.cs (Kp.refl _ _)
  (λc d a x=>by
   obtain⟨g,r,b⟩:=i8 A z e n (ok.c2 c d) a;refine⟨_,rfl,g,?_,x.trans b⟩;simp[JC,r])
 have s:N.cs.map (λ_=>D.bl Z7)=(N.cs.map λ_=>Z7).map D.bl:=by rw[qC6];rfl
 rw[s]at k;have j:=Ck (Y9 i ((N.cs.map λ_=>Z7).map D.bl)) (λbs=>bs.all id);have q:((N.cs.map λ_=>Z7).all id)=Z7:=by simp
 rw[q]at j;have b:=Zf i [O.lst ((N.cs.map λ_=>Z7).map D.bl)];generalize hS3:i++[O.lst ((N.cs.map λ_=>Z7).map D.bl)]=g at j b;have u:(N.cs.map Ct.d).length<lim:=by rw[qA1,YL];lia
 have f:¬((16:Int)<((N.cs.map Ct.d).length:Nat)):=by rw[qA1];lia
 refine⟨g,?_,w.trans b⟩;rw[show n+4=(n+3)+1 from rfl,h];refine Zj rfl ?_;unfold ZH.d;generalize N.cs.map Ct.d=CS at *;simp only[VW]at l m;generalize (N.cs.map λ_=>Z7).map D.bl=BB at *;simp[Ny,YY,l,m,o,v,y,p,f,u,k,hS3,j]
structure HD(cl:Nat->ZQ):Prop where
 st:CL cl
 ce:Jg cl
 ta:MW cl
 en:Jf cl
 ne:CK cl
structure HF(cl:Nat->ZQ):Prop where
 se:Jy cl
 is:PM cl
 pf:Th cl
 jo:Q5 cl
 sc:Np cl
 le:Jv cl
 fo:Da cl
abbrev ZH.g(N:ZH):Prop:=N.ok 4 7 16
theorem ZH.ok.k2{N:ZH}(h:N.ok ms mp mc):∀c∈N.cs,0<=c.k/\c.k<N.sw:=λc d=>by obtain⟨_,_,_,a,b,_⟩:=h.c2 c d;exact⟨a,b⟩
theorem HF.fun(F:HF cl)(n:Nat)(ok:N.g)(S:ZU):Yr (cl (n+4) "function_of" [N.d] S) ((YC (Zw N))) S :=
 jd F.fo F.le F.jo F.pf F.sc F.is F.se n (by have:=ok.s1;lia) ok.s2 (ok.len (by decide)) (ok.in7 (by decide)) ok.k2 S
theorem HF.lets(F:HF cl)(n:Nat)(ok:N.g)(a:(st.length:Int)=N.sw)(S:ZU):Yr (cl (n+3) "lets" [N.d,YC st] S) ((.bl (Zu N st))) S :=
 Cp F.le F.jo F.pf F.sc F.is n (ok.len (by decide)) (ok.in7 (by decide)) (ok.ks ⟨a⟩) S
theorem HF.setts(F:HF cl)(n:Nat){N:ZH}(ok:N.g)(S:ZU):∃k a,cl (n+1) "settings" [.int N.sw] S=.ok (.lst k) a/\Ex S a/\S.length<=k/\ZA a k=Z9 ((Zr N.sw.toNat).map YC) :=
 Cn F.se n (by have:=ok.s1;lia) ok.s2 S
def b1(b:Bool):Int:=if b then 1 else 0
theorem Cj(a b:Bool):(b1 a=b1 b)↔a=b:=by cases a<;>cases b<;>simp[b1]
def TL(N M:ZH):Option (yA):=(Zr N.sw.toNat).find? λa=>Zu N a != Zu M a
def TJ:Option (yA)->D
 |none=>.non
 |some a=>YC a
theorem Ci(h:Jq cl)(F:HF cl)(n:Nat){N M:ZH}(d:N.g)(q:M.g)(sw:M.sw=N.sw)(S:ZU):Yr (cl (n+5) "first_unlike" [N.d,M.d] S) ((TJ (TL N M))) S:=by
 obtain⟨k,A,y,C,_,H⟩:=F.setts (n+3) d S;obtain⟨G,i,x⟩:=F.fun n d A;obtain⟨f,l,t⟩:=F.fun n q G;have e:=(x.trans t).lst H λz=>z;have z:zipD3 ((Zr N.sw.toNat).map YC) ((Zw N).map D.int) ((Zw M).map D.int)=(Zr N.sw.toNat).map λst=>.tup [YC st,.int (b1 (Zu N st)),.int (b1 (Zu M st))]:=by unfold Zw;rw[sw,qC6,qC6,kI];rfl
 have c:=Dd (λst=>.tup [YC st,.int (b1 (Zu N st)),.int (b1 (Zu M st))]) (w:=[(k,(Zr N.sw.toNat).map YC)]) (g:=gT [gN 2,gN 3,gN 4]) (b:=Nd (cl (n+4)))
  (fun B a=>(∃p m s,B=[Z9 N.d,Z9 M.d,p,m,s])/\a=f) (λa=>a=f) (fun B a o=>by rw[o.2];exact Vd e) (λst=>Zu N st != Zu M st) YC (Zr N.sw.toNat)
  (B:=[Z9 N.d,Z9 M.d,Z8,Z8,Z8]) (S:=f) ⟨⟨Z8,Z8,Z8,rfl⟩,rfl⟩
  (λst E B a o=>by
   obtain⟨⟨p,m,s,rfl⟩,rfl⟩:=o;refine⟨_,a,rfl,?_⟩;cases u:(Zu N st != Zu M st)with
   |true =>
    have:¬(b1 (Zu N st)=b1 (Zu M st)):=λz=>by rw[Cj]at z;simp[z]at u
    exact .inl ⟨rfl,a,by simp[Nd,this],rfl⟩
   |false =>
    have:b1 (Zu N st)=b1 (Zu M st):=by rw[Cj];simpa using u
    exact .inr ⟨rfl,[Z9 N.d,Z9 M.d,Z9 (YC st),Z9 (.int (b1 (Zu N st))),Z9 (.int (b1 (Zu M st)))],a,.inl (by simp[Nd,this]),⟨_,_,_,rfl⟩,rfl⟩)
 rw[<- z]at c;refine⟨f,?_,(C.trans x).trans t⟩;rw[show n+5=(n+4)+1 from rfl,h];refine Zj rfl ?_;have v:ZK N.d (.int 0) S=.ok (.int N.sw) S:=by simp[ZH.d]
 unfold YC at i l;generalize hZ:(Zr N.sw.toNat).map YC=BB at e c;generalize (Zw N).map D.int=fN at *;generalize (Zw M).map D.int=fM at *;rcases c with⟨st,a,r,j,rfl⟩| ⟨I,a,r,j,⟨p,m,s,rfl⟩,rfl⟩
 .have:TJ (TL N M)=YC st:=by unfold TL;rw[r];rfl
  rw[this];simp[PH,YY,v,y,i,l,e,j]
 .have:TJ (TL N M)=.non:=by unfold TL;rw[r];rfl
  rw[this];simp[PH,YY,v,y,i,l,e,j]
open PySem Lake
def kd(S:ZU)(d:D):Prop:=∃t,KE S d=Z9 t
end Internal
namespace Tactic
def cutV(v:Int)(x:Int):Int:=if x<=v then 0 else 1
end Tactic
namespace Tactic
def cls(pl:Nat)(m:Nat->Nat)(a:Nat):List Nat:=(List.range pl).filter λb=>decide (m b=m a)
end Tactic
namespace Tactic
open PySem
def Yq(n:Nat):Str:=⟨#[48+n]⟩
theorem IU{i:Int}(a:0<=i)(b:i<10):i=0∨i=1∨i=2∨i=3∨i=4∨i=5∨i=6∨i=7∨i=8∨i=9:=by lia
theorem Cf{i:Int}(a:0<=i)(b:i<10):Str.ofString (toString i)=Yq i.toNat:=by rcases IU a b with rfl|rfl|rfl|rfl|rfl|rfl|rfl|rfl|rfl|rfl<;>decide
theorem i5(a:0<=i)(b:i<10):Txt.find (Str.ofString "0123456789") (Yq i.toNat)=i:=by rcases IU a b with rfl|rfl|rfl|rfl|rfl|rfl|rfl|rfl|rfl|rfl<;>decide
def Uy(c:Nat):List (List Nat)->List Nat
 |[]=>[]
 |[x]=>x
 |x::y::r=>x++c::Uy c (y::r)
theorem ML(c:Nat):∀ws:yH,(Str.join ⟨#[c]⟩ ws).cps.toList=Uy c (ws.map (·.cps.toList))
 |[]=>rfl
 |[x]=>rfl
 |x::y::r=>by show((x.cps++#[c])++(Str.join ⟨#[c]⟩ (y::r)).cps).toList=_;rw[wN,wN,ML c (y::r)];simp[Uy]
theorem Ce{c:Nat}{A d:List Nat}:∀{x y:List Nat},c∉x->c∉y->x++c::A=y++c::d->x=y/\A=d
 |[],[],_,_,h=>⟨rfl,by simpa using h⟩
 |[],b::y,_,hy,h=>by simp only[qL6,qL0,qK0.injEq]at h;exact absurd (by rw[h.1];exact qC9) hy
 |a::x,[],hx,_,h=>by simp only[qL6,qL0,qK0.injEq]at h;exact absurd (by rw[h.1];exact qC9) hx
 |a::x,b::y,hx,hy,h=>by simp only[qL0,qK0.injEq]at h;obtain⟨f,e⟩:=Ce (λz=>hx (qC4 _ z)) (λz=>hy (qC4 _ z)) h.2;exact⟨by rw[h.1,f],e⟩
theorem Cd{c:Nat}:∀{us ws:List (List Nat)},us≠[]->ws≠[]->(∀u∈us,c∉u)->(∀w∈ws,c∉w)->Uy c us=Uy c ws->us=ws
 |[],_,h,_,_,_,_=>absurd rfl h
 |_,[],_,h,_,_,_=>absurd rfl h
 |[u],[w],_,_,_,_,h=>by rw[show u=w from h]
 |[u],w::d::r,_,_,hu,_,h=>by have:u=w++c::Uy c (d::r):=h;exact absurd (by rw[this];simp) (hu u qC9)
 |u::b::r,[w],_,_,_,hw,h=>by have:u++c::Uy c (b::r)=w:=h;exact absurd (by rw[<- this];simp) (hw w qC9)
 |u::b::us,w::d::ws,_,_,hu,hw,h=>by obtain⟨f,e⟩:=Ce (hu u qC9) (hw w qC9) h;have:=Cd (us:=b::us) (ws:=d::ws) (by simp) (by simp) (λz a=>hu z (qC4 _ a)) (λz a=>hw z (qC4 _ a)) e;rw[f,this]
theorem i4(x y:Str):Txt.split x y≠[]:=by
 unfold Txt.split;split
 .simp
 .split
  .simp
  .rw[StrLaws.partsBetween_eq];obtain⟨p,r,e⟩:=StrLaws.partsFrom_ne x y.length 0 (Builtin.Str.occurrences x y 0 x.length (x.length+1));rw[e];simp
theorem iZ{a b:Str}(h:a.cps.toList=b.cps.toList):a=b:=Str.ext' (Array.toList_inj.mp h)
theorem iY{ws:yH}(f:ws≠[])(j:∀w∈ws,c∉w.cps.toList):Txt.split (Str.join ⟨#[c]⟩ ws) ⟨#[c]⟩=ws:=by
 have h:=congrArg (λs:Str=>s.cps.toList) (StrLaws.join_split (Str.join ⟨#[c]⟩ ws) ⟨#[c]⟩);rw[ML,ML]at h;have i:=Cd (by simpa using i4 _ _) (by simpa using f) (λu d=>by
  obtain⟨p,g,rfl⟩:=qC8.mp d;exact StrLaws.split_free _ c p g) (λu d=>by
  obtain⟨p,g,rfl⟩:=qC8.mp d;exact j p g) h
 exact(qP4 λa b e=>iZ e).mp i
open Builtin Builtin.Str in
theorem iX(h:2<=(Txt.split x y).length):(partsBetween x (occurrences x y 0 x.length (x.length+1)) y.length).length=(Txt.split x y).length:=by
 unfold Txt.split at h ⊢;split at h
 .simp at h
 .rename_i b;split at h
  .simp at h
  .rename_i a;rw[if_neg b,if_neg a]
theorem Cc{ws:yH}(h:(ws.map (·.length)).sum+ws.length*a.length<=100000):uH a ws=Z7:=by
 unfold uH Builtin.Str.tooLong;have e:=StrLaws.joinTotal a ws;have:¬(ws.toArray.foldl (·+·.length+a.length) 0)>sizeLine:=by rw[show ws.toArray.foldl (·+·.length+a.length) 0=_ from e,j7];lia
 rw[decide_eq_false this];rfl
end Tactic
namespace Internal
open PySem Lake Tactic
variable {cl:Nat->ZQ}
def Yy(c:Ct):Str:=⟨#[48+c.a.toNat,45,48+c.b.toNat,47,48+c.k.toNat,if c.o=1 then 43 else 45]⟩
def Vx(N:ZH):Str:=⟨#[48+N.pl.toNat,58]⟩
def Xc(N:ZH):yH:=Yq N.sw.toNat::Vx N::N.cs.map Yy
def bk:Str:=⟨#[32]⟩
def X9(N:ZH):Str:=Txt.join bk (Xc N)
theorem IT:Str.ofString " "=bk:=rfl
theorem Cb:∀ws:yH,Qd (ws.map D.str)=Z9 ws
 |[]=>rfl
 |w::ws=>by show(Qd (ws.map D.str)).map (w::·)=_;rw[Cb ws];rfl
theorem IS{ws:yH}(h:ZA S k=Z9 (ws.map D.str))(ok:uH z ws=Z7):VE (.str z) [.lst k] S=.ok (.str (Txt.join z ws)) S:=by unfold VE;dsimp only;rw[VA h];dsimp only;rw[Cb];dsimp only;rw[if_pos ok]
theorem iW(a:0<=i)(b:i<10)(S:ZU):Xp [.int i] S=.ok (.str (Yq i.toNat)) S:=by
 have:Xp [.int i] S=if i.natAbs<1000000000000000000 then .ok (.str (Str.ofString (toString i))) S else .bad:=rfl
 rw[this,if_pos (by lia),Cf a b]
theorem OV(b:0<=i)(c:i<10)(h:a B S=.ok (.int i) S):YD a B S=.ok (.str (Yq i.toNat)) S:=by unfold YD;rw[W4,h];show(if i.natAbs<1000000000000000000 then R.ok (D.str (Str.ofString (toString i))) S else .bad)=_;rw[if_pos (by lia),Cf b c]
theorem iV(b:z.length<=lim)(h:a B S=.ok (.str z) S):YD a B S=.ok (.str z) S:=by unfold YD;rw[W4,h];show(if z.length<=lim then R.ok (D.str z) S else .bad)=_;rw[if_pos b]
theorem IR{B:ZR}{S:ZU}:∀(cs:List C) (ys:yH) (acc:Str),cs.map (λc=>c B S)=ys.map (λy=>.ok (.str y) S)->acc.length+(ys.map (·.length)).sum<=lim->VY cs acc B S=.ok (.str (ys.foldl (·++·) acc)) S
 |[],[],acc,_,hl=>by unfold VY;rw[if_pos (by simpa using hl)];rfl
 |[],_::_,_,h,_=>by cases h
 |_::_,[],_,h,_=>by cases h
 |c::cs,y::ys,acc,h,hl=>by rw[qB2,qB2,qK0.injEq]at h;have e:(acc++y).length=acc.length+y.length:=Str.length_append acc y;rw[qB2,qF0]at hl;unfold VY;rw[W4,h.1];show(if(acc++y).length<=lim then VY cs (acc++y) B S else .bad)=_;rw[if_pos (by lia),IR cs ys (acc++y) h.2 (by lia)];rfl
structure Cg(c:Ct):Prop where
 a:0<=c.a/\c.a<10
 b:0<=c.b/\c.b<10
 k:0<=c.k/\c.k<10
 o:c.o=0∨c.o=1
theorem Ca{N:ZH}(ok:N.g)(a:c∈N.cs):Cg c:=by obtain⟨b,f,i,d,g,h,e⟩:=ok.c2 c a;have:=ok.p2;have:=ok.s2;exact⟨by lia,by lia,by lia,by lia⟩
def Ux(o:Int):Str:=if o=1 then⟨#[43]⟩else⟨#[45]⟩
theorem B9(o:Int):(Ux o).length=1:=by unfold Ux;split<;>rfl
theorem iU(c:Ct):[Yq c.a.toNat,(⟨#[45]⟩:Str),Yq c.b.toNat,⟨#[47]⟩,Yq c.k.toNat,Ux c.o].foldl (·++·) Str.empty=Yy c:=by unfold Ux Yy Yq;split<;>rfl
theorem iS(c:ZQ)(i:ZK d (.int 0) S=.ok (.int a) S)(j:ZK d (.int 1) S=.ok (.int b) S)(l:ZK d (.int 2) S=.ok (.int k) S)(h:ZK d (.int 3) S=.ok (.int o) S)(e:VY [(YD (ZY 1)),(ZX (.str (Str.ofString "-"))),(YD (ZY 2)),(ZX (.str (Str.ofString "/"))),(YD (ZY 3)),(YD (ZY 4))] Str.empty [Z9 d,Z9 (.int a),Z9 (.int b),Z9 (.int k),Z9 (.str (Ux o))] S=.ok (.str w) S):
  Q4 c [Z9 d,Z8,Z8,Z8,Z8] S=.rt (.str w) S:=by
 by_cases g:o=1
 .subst g;have f:Ux 1=Str.ofString "+":=rfl;rw[f]at e;simp[Q4,i,j,l,h,e]
 .have f:Ux o=Str.ofString "-":=by unfold Ux;rw[if_neg g];rfl
  rw[f]at e;simp[Q4,i,j,l,h,g,e]
theorem iR(h:Jp cl)(n:Nat)(g:Cg c)(S:ZU):cl (n+1) "contact_text" [c.d] S=.ok (.str (Yy c)) S:=by
 have d:c.d=.tup [.int c.a,.int c.b,.int c.k,.int c.o]:=rfl;rw[h];refine Zj rfl (iS _ (a:=c.a) (b:=c.b) (k:=c.k) (o:=c.o) (by rw[d];simp) (by rw[d];simp) (by rw[d];simp) (by rw[d];simp) ?_);rw[IR _ [Yq c.a.toNat,(⟨#[45]⟩:Str),Yq c.b.toNat,⟨#[47]⟩,Yq c.k.toNat,Ux c.o] Str.empty ?_ ?_,iU]
 .simp only[qB2,qJ2];rw[OV (i:=c.a) g.a.1 g.a.2 (by simp),OV (i:=c.b) g.b.1 g.b.2 (by simp),OV (i:=c.k) g.k.1 g.k.2 (by simp),iV (z:=Ux c.o) (by rw[B9,YL];decide) (by simp)];rfl
 .simp only[qB2,qJ2,qF0,List.sum_nil,B9];rw[YL];show 0+(1+(1+(1+(1+(1+(1+0))))))<=1048576;decide
def Vw(N:ZH):Str:=⟨#[48+N.sw.toNat,32,48+N.pl.toNat,58]⟩
theorem iQ(N:ZH):[Yq N.sw.toNat,(⟨#[32]⟩:Str),Yq N.pl.toNat,⟨#[58]⟩].foldl (·++·) Str.empty=Vw N:=rfl
theorem iP(c:ZQ){X:yM}(f:∀S,ZK nd (.int 0) S=.ok (.int sw) S)(i:∀S,ZK nd (.int 1) S=.ok (.int pl) S)(k:∀S,ZK nd (.int 2) S=.ok (.tup X) S)
  (o:VY [(YD (ZY 1)),(ZX (.str (Str.ofString " "))),(YD (ZY 2)),(ZX (.str (Str.ofString ":")))] Str.empty [Z9 nd,Z9 (.int sw),Z9 (.int pl)] S=.ok (.str b) S) (l:S++[O.lst [.str b]]=d) (m:X.length<lim) (h:YS [] .one (λ_=>ret Z7) (Na c) [Z8] X d=.ok ws d) (n:d++[O.lst ws]=a) (g:ZI (.lst S.length) (.lst d.length) a=.ok (.lst a.length) (a++[O.lst (.str b::ws)]))
  (j:VE (.str (Str.ofString " ")) [.lst a.length] (a++[O.lst (.str b::ws)])=.ok (.str w) (a++[O.lst (.str b::ws)])):PD c [Z9 nd,Z8,Z8] S=.rt (.str w) (a++[O.lst (.str b::ws)]):=by have e:∀B:ZR,WI 1 [] B=[Z8]:=λ_=>rfl;simp[PD,f,i,k,o,l,e,m,h,n,g,j,XR]
theorem MK(c:Ct):(Yy c).length=6:=rfl
theorem B8(cs:yN):((cs.map Yy).map (·.length)).sum=6*cs.length:=by
 induction cs with
 |nil=>rfl
 |cons c cs a=>rw[qB2,qB2,qF0,a,MK,qB8];lia
theorem OU(h:C1 cl)(s:Jp cl)(n:Nat)(ok:N.g)(S:ZU):Yr (cl (n+2) "net_text" [N.d] S) (.str (X9 N)) S:=by
 have v:=ok.c1;have t:=ok.s1;have w:=ok.s2;have x:=ok.p1;have u:=ok.p2;obtain⟨S1,b⟩:∃S1,S++[O.lst [.str (Vw N)]]=S1:=⟨_,rfl⟩
 have o:VY [(YD (ZY 1)),(ZX (.str (Str.ofString " "))),(YD (ZY 2)),(ZX (.str (Str.ofString ":")))] Str.empty [Z9 N.d,Z9 (.int N.sw),Z9 (.int N.pl)] S=.ok (.str (Vw N)) S:=by
  rw[IR _ [Yq N.sw.toNat,(⟨#[32]⟩:Str),Yq N.pl.toNat,⟨#[58]⟩] Str.empty ?_ ?_,iQ]
  .simp only[qB2,qJ2];rw[OV (i:=N.sw) (by lia) (by lia) (by simp),OV (i:=N.pl) (by lia) (by lia) (by simp)];rfl
  .rw[YL];show 4<=1048576;decide
 have l:YS [] .one (λ_=>ret Z7) (Na (cl (n+1))) [Z8] (N.cs.map Ct.d) S1=.ok ((N.cs.map Yy).map D.str) S1:=by rw[qC6];exact V8 Ct.d (XP S1) _ N.cs λc d=>⟨_,rfl,by simp[Na,iR s n (Ca ok d) S1]⟩
 obtain⟨S2,a⟩:∃S2,S1++[O.lst ((N.cs.map Yy).map D.str)]=S2:=⟨_,rfl⟩
 have m:ZA S2 S.length=Z9 [.str (Vw N)]:=by rw[<- a,<- b];exact UW (Y9 _ _)
 have p:ZA S2 S1.length=Z9 ((N.cs.map Yy).map D.str):=by rw[<- a];exact Y9 _ _
 have k:ZI (.lst S.length) (.lst S1.length) S2=.ok (.lst S2.length) (S2++[O.lst (.str (Vw N)::(N.cs.map Yy).map D.str)]):=by show(match S2[S.length]?,S2[S1.length]? with|some (.lst f),Z9 (.lst e)=>if f.length+e.length<=lim then R.ok (D.lst S2.length) (S2++[O.lst (f++e)])else .bad|_,_=>.bad)=_;rw[VA m,VA p];dsimp only;rw[if_pos (by simp[YL];lia)];rfl
 have j:VE (.str (Str.ofString " ")) [.lst S2.length] (S2++[O.lst (.str (Vw N)::(N.cs.map Yy).map D.str)])=.ok (.str (X9 N)) (S2++[O.lst (.str (Vw N)::(N.cs.map Yy).map D.str)]):=by
  have r:Txt.join (Str.ofString " ") (Vw N::N.cs.map Yy)=X9 N:=by unfold X9 Xc Txt.join;rw[StrLaws.glued_eq_join,StrLaws.glued_eq_join,IT];exact StrLaws.join_shift bk (Yq N.sw.toNat) (Vx N) (N.cs.map Yy)
  have g:uH (Str.ofString " ") (Vw N::N.cs.map Yy)=Z7:=Cc (by
   rw[qB2,qF0,B8,qB8,qA1,show(Vw N).length=4 from rfl,show(Str.ofString " ").length=1 from rfl]
   lia)
  have q:=IS (S:=S2++[O.lst (.str (Vw N)::(N.cs.map Yy).map D.str)]) (ws:=Vw N::N.cs.map Yy) (Y9 S2 _) g;rw[r]at q;exact q
 refine⟨S2++[O.lst (.str (Vw N)::(N.cs.map Yy).map D.str)],?_,?_⟩
 .rw[show n+2=(n+1)+1 from rfl,h];exact Zj rfl (iP _ (λS=>by simp[ZH.d]) (λS=>by simp[ZH.d]) (λS=>by simp[ZH.d]) o b (by rw[qA1,YL];lia) l a k j)
 .rw[<- a,<- b];exact((Zf _ _).trans (Zf _ _)).trans (Zf _ _)
theorem IQ(h:x.length+y.length<=1000)(S:ZU):ZI (.str x) (.str y) S=.ok (.str (x++y)) S:=by show(if x.length+y.length<=lim then R.ok (D.str (x++y)) S else .bad)=_;rw[if_pos (by rw[YL];lia)]
theorem iO(c:ZQ)(a:X.length<lim)(b:YS [] .one (λ_=>ret Z7) (M9 c) [Z8] X S=.ok ws S)(j:VE (.str (Str.ofString "")) [.lst S.length] (S++[O.lst ws])=.ok (.str w) (S++[O.lst ws])):PC c [Z9 (.tup X)] S=.rt (.str w) (S++[O.lst ws]):=by have d:∀B:ZR,WI 1 [] B=[Z8]:=λ_=>rfl;simp[PC,d,a,b,j,XR]
def Xb(l:yA):Str:=Txt.join (Str.ofString "") (l.map λi=>Yq i.toNat)
theorem iN(l:yA):((l.map λi=>Yq i.toNat).map (·.length)).sum=l.length:=by
 induction l with
 |nil=>rfl
 |cons c b a=>rw[qB2,qB2,qF0,a,qB8];show 1+_=_;lia
theorem OT(h:Jo cl)(n:Nat)(b:0<=i)(a:i<10)(S:ZU):cl (n+1) "figure" [.str (Yq i.toNat)] S=.ok (.int i) S:=by
 rw[h];refine Zj rfl ?_;have e:Qc (.str (Str.ofString "0123456789")) [.str (Yq i.toNat)] S=.ok (.int i) S:=by show R.ok (D.int (Txt.find (Str.ofString "0123456789") (Yq i.toNat))) S=_;rw[i5 b a]
 generalize Yq i.toNat=z at *;simp[M8,YY,e,XR]
theorem OS(h:XN z.cps.toList j=Z9 c)(a:z.length<=1000)(S:ZU):ZK (.str z) (.int j) S=.ok (.str ⟨#[c]⟩) S:=by show(match XN z.cps.toList j with|some c=>if z.length<=lim then R.ok (D.str ⟨#[c]⟩) S else .bad|none=>.bad)=_;rw[h];dsimp only;rw[if_pos (by rw[YL];lia)]
theorem iM(c:ZQ)(n:ZK wd (.int 0) S=.ok (.str f) S)(p:ZK wd (.int 2) S=.ok (.str e) S)(m:ZK wd (.int 4) S=.ok (.str d) S)(i:ZK wd (.int 5) S=.ok (.str g) S)(h:c "figure" [.str f] S=.ok (.int a) S)(l:c "figure" [.str e] S=.ok (.int b) S)(j:c "figure" [.str d] S=.ok (.int k) S)(q:Zl (.str g) (.str (Str.ofString "+")) S=.ok (.bl o) S):
  Pz c [Z9 wd] S=.rt (.tup [.int a,.int b,.int k,.int (if o then 1 else 0)]) S:=by cases o<;>simp[Pz,n,p,m,i,h,l,j,q]
theorem iL(h:CY cl)(b:Jo cl)(n:Nat)(g:Cg c)(S:ZU):cl (n+2) "contact_read" [.str (Yy c)] S=.ok c.d S:=by
 have f:c.d=.tup [.int c.a,.int c.b,.int c.k,.int c.o]:=rfl;have a:(Yy c).length<=1000:=by rw[MK];decide
 have q:Zl (.str (⟨#[if c.o=1 then 43 else 45]⟩:Str)) (.str (Str.ofString "+")) S=.ok (.bl (decide (c.o=1))) S:=by show R.ok (D.bl (decide ((⟨#[if c.o=1 then 43 else 45]⟩:Str)=Str.ofString "+"))) S=_;rcases g.o with e|e<;>rw[e]<;>rfl
 have d:(if decide (c.o=1)=Z7 then(1:Int)else 0)=c.o:=by rcases g.o with e|e<;>rw[e]<;>rfl
 rw[show n+2=(n+1)+1 from rfl,h,f];have r:=iM (cl (n+1)) (wd:=.str (Yy c)) (OS (j:=0) rfl a S) (OS (j:=2) rfl a S) (OS (j:=4) rfl a S) (OS (j:=5) rfl a S) (OT b n g.a.1 g.a.2 S) (OT b n g.b.1 g.b.2 S) (OT b n g.k.1 g.k.2 S) q;rw[d]at r;exact Zj rfl r
theorem QY(h:z.length<=1000)(S:ZU):Zv [.str z] S=.ok (.int (z.length:Int)) S:=by show(if z.length<=lim then R.ok (D.int (z.length:Int)) S else .bad)=_;rw[if_pos (by rw[YL];lia)]
theorem iK(c:ZQ){X ws:yM}(f:Zv [.lst k] S=.ok (.int len) S)(p:¬len<2)(j:ZK (.lst k) (.int 0) S=.ok d S)(n:ZK (.lst k) (.int 1) S=.ok e S)(i:Zv [d] S=.ok (.int 1) S)(l:Zv [e] S=.ok (.int 2) S)(h:W6 (.lst k) (Z9 2) Z8 S=.ok (.lst S.length) a)(q:ZA a S.length=Z9 X)(o:X.length<lim)
  (m:YS [(S.length,X)] .one (λ_=>ret Z7) (M7 c) [Z8] X a=.ok ws a) (b:Xz (λbs=>bs.all id) [.lst a.length] (a++[O.lst ws])=.ok (.bl Z7) (a++[O.lst ws])) :
  PB c [Z9 (.lst k)] S=.rt (.bl Z7) (a++[O.lst ws]):=by have g:∀B:ZR,WI 1 [] B=[Z8]:=λ_=>rfl;simp[PB,f,p,j,n,i,l,h,q,g,o,m,b]
theorem OQ(a b:D)(r:yM):Ys (a::b::r) (Z9 2) Z8=r:=by have:=JE (a::b::r) (k:=2) (by decide);rw[this];rfl
theorem B7:∀l:yH,Wa (l.map λ_=>D.bl Z7)=Z9 (l.map λ_=>Z7)
 |[]=>rfl
 |_::r=>by show(Wa (r.map λ_=>D.bl Z7)).map (_::·)=_;rw[B7 r];rfl
theorem IP{l:yH}(h:ZA S n=Z9 (l.map λ_=>D.bl Z7)):Xz (λbs=>bs.all id) [.lst n] S=.ok (.bl Z7) S:=by
 unfold Xz;dsimp only;rw[h];show(match Wa (l.map λ_=>D.bl Z7)with|some bs=>R.ok (D.bl (bs.all id)) S|none=>.bad)=_;rw[B7];have:(l.map λ_=>Z7).all id=Z7:=by rw[qI0];exact qD0.mpr λ_ _=>rfl
 dsimp only;rw[this]
theorem MJ{r:yM}(l:ZA S k=Z9 (a::b::r)):ZK (.lst k) (.int 0) S=.ok a S/\ZK (.lst k) (.int 1) S=.ok b S:=by have c:=Ve l ((0:Nat):Int);have d:=Ve l ((1:Nat):Int);rw[UO (v:=a) rfl]at c;rw[UO (v:=b) rfl]at d;exact⟨c,d⟩
theorem iJ(h:CZ cl)(n:Nat)(ok:N.g)(l:ZA S k=Z9 ((Xc N).map D.str)):∃S1,cl (n+1) "has_lengths_of_net" [.lst k] S=.ok (.bl Z7) S1/\Ex S S1:=by
 have j:=ok.c1;have f:(Xc N).map D.str=.str (Yq N.sw.toNat)::.str (Vx N)::(N.cs.map Yy).map D.str:=rfl;rw[f]at l;have a:=NJ l (Z9 2) Z8;rw[OQ]at a;obtain⟨S1,d⟩:∃S1,S++[O.lst ((N.cs.map Yy).map D.str)]=S1:=⟨_,rfl⟩
 rw[d]at a;have e:ZA S1 S.length=Z9 ((N.cs.map Yy).map D.str):=by rw[<- d];exact Y9 _ _
 have g:YS [(S.length,(N.cs.map Yy).map D.str)] .one (λ_=>ret Z7) (M7 (cl n)) [Z8] ((N.cs.map Yy).map D.str) S1=.ok ((N.cs.map Yy).map λ_=>D.bl Z7) S1:=by
  refine V8 D.str (Vd e) (λ_=>D.bl Z7) (N.cs.map Yy) λw i=>⟨_,rfl,?_⟩
  obtain⟨c,_,rfl⟩:=qC8.mp i;have:=QY (z:=Yy c) (by rw[MK];decide) S1;rw[MK]at this;generalize Yy c=z at *;simp[M7,this]
 have b:Xz (λbs=>bs.all id) [.lst S1.length] (S1++[O.lst ((N.cs.map Yy).map λ_=>D.bl Z7)])=.ok (.bl Z7) (S1++[O.lst ((N.cs.map Yy).map λ_=>D.bl Z7)]):=by exact IP (Y9 S1 _)
 refine⟨S1++[O.lst ((N.cs.map Yy).map λ_=>D.bl Z7)],?_,(d▸Zf _ _:Ex S S1).trans (Zf _ _)⟩;rw[h];exact Zj rfl (iK _ (Q9 l) (by rw[qB8,qB8];lia) (MJ l).1 (MJ l).2 (QY (z:=Yq N.sw.toNat) (by show 1<=1000;decide) S) (QY (z:=Vx N) (by show 2<=1000;decide) S) a e (by rw[qA1,qA1,YL];lia) g b)
structure MI(cl:Nat->ZQ):Prop where
 fi:Jo cl
 hl:CZ cl
 cr:CY cl
 nr:kF cl
 nt:C1 cl
 ct:Jp cl
 ins:Dc cl
 ic:JD cl
 ib:NB cl
 iw:Uz cl
theorem iI(N:ZH):∀w∈Xc N,32∉w.cps.toList:=λw a=>by
 unfold Xc at a;rcases qC0.mp a with rfl|a
 .show 32∉[48+N.sw.toNat];simp only[qB4];lia
 .rcases qC0.mp a with rfl|a
  .show 32∉[48+N.pl.toNat,58];simp only[qC0,qE0,or_false];lia
  .obtain⟨c,_,rfl⟩:=qC8.mp a;show 32∉[48+c.a.toNat,45,48+c.b.toNat,47,48+c.k.toNat,if c.o=1 then 43 else 45];simp only[qC0,qE0,or_false];split<;>lia
theorem iH(N:ZH):Txt.split (X9 N) bk=Xc N:=by unfold X9 Txt.join;rw[StrLaws.glued_eq_join];exact iY (c:=32) (by simp[Xc]) (iI N)
theorem MG(ok:N.g):(X9 N).length<=1000:=by
 have a:=ok.c1;unfold X9 Txt.join;rw[StrLaws.glued_eq_join];refine qC5 (StrLaws.join_length_le bk (Xc N)) ?_;unfold Xc;rw[qB2,qB2,qF0,qF0,B8,qB8,qB8,qA1,show(Yq N.sw.toNat).length=1 from rfl,show(Vx N).length=2 from rfl,show bk.length=1 from rfl]
 lia
theorem iG(ok:N.g)(S:ZU):U0 (.str (X9 N)) [.str (Str.ofString " ")] S=.ok (.lst S.length) (S++[O.lst ((Xc N).map D.str)]):=by have e:=iH N;have p:=iX (x:=X9 N) (y:=bk) (by rw[e];simp[Xc]);have b:=MG ok;have a:=ok.c1;unfold U0;dsimp only;rw[IT,if_pos ⟨rfl,by rw[YL];lia,by rw[p,e,YL];simp[Xc];lia⟩,e]
theorem iF(c:ZQ){X ws:yM}(t:Yf [.str b,.ty "str"] S=.ok (.bl Z7) S)(y:XR "str" (.str b) S=Z7)(l:U0 (.str b) [.str (Str.ofString " ")] S=.ok (.lst k) h)(D:c "has_lengths_of_net" [.lst k] h=.ok (.bl Z7) a)(u:ZK (.lst k) (.int 0) a=.ok (.str f) a)(s:c "figure" [.str f] a=.ok (.int sw) a)(z:ZK (.lst k) (.int 1) a=.ok (.str i) a)(A:ZK (.str i) (.int 0) a=.ok (.str j) a)(v:c "figure" [.str j] a=.ok (.int pl) a)
  (o:W6 (.lst k) (Z9 2) Z8 a=.ok (.lst a.length) d) (n:ZA d a.length=Z9 X) (C:X.length<lim) (x:YS [(a.length,X)] .one (λ_=>ret Z7) (Py c) [Z8] X d=.ok ws d) (w:d++[O.lst ws]=e) (p:Xu [.lst d.length] e=.ok (.tup ws) e) (r:c "is_net" [.tup [.int sw,.int pl,.tup ws]] e=.ok (.bl Z7) g) (E:c "net_text" [.tup [.int sw,.int pl,.tup ws]] g=.ok (.str b) S6) (q:YG (.str b) (.str b) S6=.ok (.bl Z5) S6) :
  Px c [Z9 (.str b),Z8,Z8] S=.rt (.tup [.int sw,.int pl,.tup ws]) S6:=by have m:∀B:ZR,WI 1 [] B=[Z8]:=λ_=>rfl;simp[Px,t,y,l,D,u,s,z,A,v,o,n,C,m,x,w,p,r,E,q]
theorem B6(H:MI cl)(n:Nat)(ok:N.g)(S:ZU):Yr (cl (n+5) "net_read" [.str (X9 N)] S) N.d S:=by
 have E:=ok.c1;have B:=ok.s1;have F:=ok.s2;have G:=ok.p1;have C:=ok.p2;have j:=iG ok S;obtain⟨S1,g⟩:∃S1,S++[O.lst ((Xc N).map D.str)]=S1:=⟨_,rfl⟩
 rw[g]at j;have m:ZA S1 S.length=Z9 ((Xc N).map D.str):=by rw[<- g];exact Y9 _ _
 obtain⟨a,v,l⟩:=iJ H.hl (n+3) ok m;have h:ZA a S.length=Z9 (.str (Yq N.sw.toNat)::.str (Vx N)::(N.cs.map Yy).map D.str):=l.lst m λz=>z;have d:=NJ h (Z9 2) Z8;rw[OQ]at d;obtain⟨S3,b⟩:∃S3,a++[O.lst ((N.cs.map Yy).map D.str)]=S3:=⟨_,rfl⟩
 rw[b]at d;have k:ZA S3 a.length=Z9 ((N.cs.map Yy).map D.str):=by rw[<- b];exact Y9 _ _
 have s:YS [(a.length,(N.cs.map Yy).map D.str)] .one (λ_=>ret Z7) (Py (cl (n+4))) [Z8] ((N.cs.map Yy).map D.str) S3=.ok (N.cs.map Ct.d) S3:=by
  have:=V8 (λc=>D.str (Yy c)) (w:=[(a.length,(N.cs.map Yy).map D.str)]) (t:=.one) (c:=Py (cl (n+4))) (B0:=[Z8]) (S:=S3) (Vd k) Ct.d N.cs λc y=>⟨_,rfl,by
   have e:=iL H.cr H.fi (n+2) (Ca ok y) S3;generalize Yy c=z at *;simp[Py,e]⟩
  rw[qC6]at this ⊢;exact this
 obtain⟨S4,f⟩:∃S4,S3++[O.lst (N.cs.map Ct.d)]=S4:=⟨_,rfl⟩
 have p:Xu [.lst S3.length] S4=.ok (.tup (N.cs.map Ct.d)) S4:=by rw[<- f];exact UB (Y9 _ _)
 obtain⟨r,o,x⟩:=i6 H.ins H.ic H.ib H.iw n (N:=N) ok S4;obtain⟨S6,A,u⟩:=OU H.nt H.ct (n+2) ok r;have q:YG (.str (X9 N)) (.str (X9 N)) S6=.ok (.bl Z5) S6:=by show R.ok (D.bl (!decide (X9 N=X9 N))) S6=_;rw[decide_eq_true rfl];rfl
 refine⟨S6,?_,(g▸Zf _ _:Ex S S1).trans (l.trans ((b▸Zf _ _:Ex a S3).trans ((f▸Zf _ _:Ex S3 S4).trans (x.trans u))))⟩;rw[show n+5=(n+4)+1 from rfl,H.nr];exact Zj rfl (iF _ rfl rfl j v (MJ h).1 (OT H.fi (n+3) (by lia) (by lia) a) (MJ h).2 (OS (c:=48+N.pl.toNat) rfl (by show 2<=1000;decide) a) (OT H.fi (n+3) (i:=N.pl) (by lia) (by lia) a) d k (by rw[qA1,qA1,YL];lia) s f p o A q)
open PySem Lake Tactic Builtin Builtin.Str StrLaws
theorem B5(s sub:Str)(hi b:Nat):∀(l:List Nat) (st:Array Nat×Nat),b<=st.fst.size->(forIn l st (occBody s sub hi b)).run=st
 |[],st,h=>rfl
 |a::l,st,h=>by rw[qJ4];unfold occBody;rw[if_neg (by omega)];exact B5 s sub hi b l st h
def Ze(c:Nat):Str:=⟨#[110,101,116,32,c,32]⟩
theorem QX(c:Nat)(t:Str)(i:Nat)(hi:i<6):subAt (Ze c++t) ⟨#[32]⟩ i=decide ((#[110,101,116,32,c,32]:Array Nat)[i]?=Z9 32):=by
 have g:((#[110,101,116,32,c,32]++t.cps).extract i (i+1))=#[(#[110,101,116,32,c,32])[i]'(by simpa using hi)]:=by
  apply Array.ext';rw[Array.toList_extract];simp only[wN,List.extract_eq_drop_take]
  match i,hi with
  |0,_=>rfl
  |1,_=>rfl
  |2,_=>rfl
  |3,_=>rfl
  |4,_=>rfl
  |5,_=>rfl
 show((#[110,101,116,32,c,32]++t.cps).extract i (i+1) == #[32])=_;rw[g,Array.getElem?_eq_getElem (by simpa using hi)];simp;rfl
theorem IM(c:Nat)(b:c≠32)(t:Str):occurrences (Ze c++t) ⟨#[32]⟩ 0 (Ze c++t).length 2=[3,5]:=by
 have d:(Ze c++t).length=t.length+6:=by show(#[110,101,116,32,c,32]++t.cps).size=_;rw[vA,qK6];rfl
 rw[occ_eq,d];have r:qL4 0 (t.length+6+1 - 0)=0::1::2::3::4::5::qL4 6 (t.length+1):=by rfl
 have a:∀i f l,(forIn (i::l) f (occBody (Ze c++t) ⟨#[32]⟩ (t.length+6) 2)).run=if((f.1.size<2/\f.2<=i)/\i+1<=t.length+6)/\subAt (Ze c++t) ⟨#[32]⟩ i=Z7 then(forIn l (f.1.push i,i+1) (occBody (Ze c++t) ⟨#[32]⟩ (t.length+6) 2)).run else(forIn l f (occBody (Ze c++t) ⟨#[32]⟩ (t.length+6) 2)).run:=λi f l=>by
  rw[qJ4];unfold occBody;by_cases h:((f.1.size<2/\f.2<=i)/\i+1<=t.length+6)/\subAt (Ze c++t) ⟨#[32]⟩ i=Z7
  .rw[if_pos h,if_pos (show((f.1.size<2/\f.2<=i)/\i+(⟨#[32]⟩:Str).length<=t.length+6)/\subAt (Ze c++t) ⟨#[32]⟩ i=Z7 from h)];rfl
  .rw[if_neg h,if_neg (show ¬(((f.1.size<2/\f.2<=i)/\i+(⟨#[32]⟩:Str).length<=t.length+6)/\subAt (Ze c++t) ⟨#[32]⟩ i=Z7)from h)];rfl
 rw[r,a,QX c t 0 (by lia),if_neg (by simp),a,QX c t 1 (by lia),if_neg (by simp),a,QX c t 2 (by lia),if_neg (by simp),a,QX c t 3 (by lia),if_pos (by simp),a,QX c t 4 (by lia),if_neg (by simp[b]),a,QX c t 5 (by lia),if_pos (by simp),B5 _ _ _ _ _ _ (by simp)];rfl
theorem BZ(c:Nat)(a:c≠32)(t:Str):partsBetween (Ze c++t) (occurrences (Ze c++t) ⟨#[32]⟩ 0 (Ze c++t).length 2) 1=[⟨#[110,101,116]⟩,⟨#[c]⟩,t]:=by
 rw[IM c a t];have b:(Ze c++t).length=t.length+6:=by show(#[110,101,116,32,c,32]++t.cps).size=_;rw[vA,qK6];rfl
 unfold partsBetween strSub;have e:(Ze c++t).cps=#[110,101,116,32,c,32]++t.cps:=rfl;have d:(#[110,101,116,32,c,32]++t.cps).extract 0 3=#[110,101,116]:=by
  simp_all
 have f:(#[110,101,116,32,c,32]++t.cps).extract 4 5=#[c]:=by
  simp_all
 have g:(#[110,101,116,32,c,32]++t.cps).extract 6 (t.length+6)=t.cps:=by simp[Str.length]
 rw[b,e];show[(⟨(#[110,101,116,32,c,32]++t.cps).extract 0 3⟩:Str),⟨(#[110,101,116,32,c,32]++t.cps).extract 4 5⟩,⟨(#[110,101,116,32,c,32]++t.cps).extract 6 (t.length+6)⟩]=_;rw[d,f,g]
theorem iE(c:Nat)(a:c≠32)(t:Str):Rx (Ze c++t) bk 2=[⟨#[110,101,116]⟩,⟨#[c]⟩,t]:=by
 have b:(Ze c++t).length=t.length+6:=by show(#[110,101,116,32,c,32]++t.cps).size=_;rw[vA,qK6];rfl
 have e:(decide ((Ze c++t).length<bk.length)||decide (Builtin.Str.strKind (Ze c++t)<Builtin.Str.strKind bk))=Z5:=by rw[b,show bk.length=1 from rfl,show Builtin.Str.strKind bk=1 from by decide];rw[decide_eq_false (by lia),decide_eq_false (by unfold Builtin.Str.strKind;split<;>(try split)<;>lia)];rfl
 unfold Rx;rw[e,if_neg qB0];have d:occurrences (Ze c++t) bk 0 (Ze c++t).length (g7 (Ze c++t) 2)=[3,5]:=IM c a t;rw[d,if_neg (by decide)];have:=BZ c a t;rw[IM c a t]at this;exact this
theorem iD(c:Nat)(t:Str):UI (Ze c++t) (Str.ofString "net ")=Z7:=by
 have a:(Ze c++t).length=t.length+6:=by show(#[110,101,116,32,c,32]++t.cps).size=_;rw[vA,qK6];rfl
 have e:Str.ofString "net "=⟨#[110,101,116,32]⟩:=by decide
 rw[e];unfold UI subAt;rw[a];have x:((Ze c++t).cps.extract 0 (0+(⟨#[110,101,116,32]⟩:Str).length))=#[110,101,116,32]:=by apply Array.ext';show(((#[110,101,116,32,c,32]++t.cps):Array Nat).extract 0 4).toList=_;simp
 rw[x,qC1];exact⟨decide_eq_true (by show 0+4<=t.length+6;lia),by simp⟩
theorem iC(c:ZQ){ws:yH}(d:UI z (Str.ofString "net ")=Z7)(a:Rh (.str z) [.str (Str.ofString " "),.int 2] S=.ok (.lst S.length) (S++[.lst (ws.map D.str)])):RY c [Z9 (.str z)] S=.rt (.lst S.length) (S++[.lst (ws.map D.str)]):=by
 have t:Yf [.str z,.ty "str"] S=.ok (.bl Z7) S:=rfl;have m:Ri (.str z) [.str (Str.ofString "net ")] S=.ok (.bl Z7) S:=by show R.ok (D.bl (UI z (Str.ofString "net "))) S=_;rw[d]
 have b:XR "str" (.str z) S=Z7:=rfl;simp[RY,t,m,b,a]
theorem iB(c:ZQ){ws:yH}(d:UI z (Str.ofString "net ")=Z5)(a:U0 (.str z) [.str (Str.ofString " ")] S=.ok (.lst S.length) (S++[.lst (ws.map D.str)])):RY c [Z9 (.str z)] S=.rt (.lst S.length) (S++[.lst (ws.map D.str)]):=by
 have t:Yf [.str z,.ty "str"] S=.ok (.bl Z7) S:=rfl;have m:Ri (.str z) [.str (Str.ofString "net ")] S=.ok (.bl Z5) S:=by show R.ok (D.bl (UI z (Str.ofString "net "))) S=_;rw[d]
 have b:XR "str" (.str z) S=Z7:=rfl;simp[RY,t,m,b,a]
def Xa(cl:Nat->ZQ)(z:Str)(ws:yH):Prop:=∀n S,cl (n+1) "words_of" [.str z] S=.ok (.lst S.length) (S++[.lst (ws.map D.str)])
theorem iA(h:Pk cl)(a:c≠32)(d:t.length<=1000):Xa cl (Ze c++t) [⟨#[110,101,116]⟩,⟨#[c]⟩,t]:=λn S=>by
 rw[h];refine Zj rfl (iC _ (iD c t) ?_);have b:(Ze c++t).length=t.length+6:=by show(#[110,101,116,32,c,32]++t.cps).size=_;rw[vA,qK6];rfl
 unfold Rh;dsimp only;rw[show Str.ofString " "=bk from IT,if_pos ⟨by decide,rfl,by rw[b,YL];lia,by
  rw[show g7 (Ze c++t) 2=2 from rfl,show bk.length=1 from rfl,show bk=⟨#[32]⟩from rfl,BZ c a t];show 3<=lim;decide⟩,iE c a t]
theorem iz(h:Pk cl)(b:UI z (Str.ofString "net ")=Z5)(a:∀S,U0 (.str z) [.str (Str.ofString " ")] S=.ok (.lst S.length) (S++[.lst (ws.map D.str)])):Xa cl z ws:=λn S=>by rw[h];exact Zj rfl (iB _ b (a S))
def OP(c:Nat):Bool:=!(occurrences (Str.ofString "abcdefghijklmnopqrstuvwxyz") ⟨#[c]⟩ 0 (Str.ofString "abcdefghijklmnopqrstuvwxyz").length 1).isEmpty
theorem ix(c:ZQ)(l:Zv [.str z] S=.ok (.int 1) S)(i:Xo (ZY 0) [Z9 (.str z)] S=.ok ([.str z],[]) S)(q:∀S,YQ (.str z) (.str (Str.ofString "abcdefghijklmnopqrstuvwxyz")) S=.ok (.bl Z7) S)(b:S++[.lst [.bl Z7]]=S1)(f:Xz (λbs=>bs.all id) [.lst S.length] S1=.ok (.bl Z7) S1):
  Pl c [Z9 (.str z)] S=.rt (.str z) S1:=by
 have e:YS [] .one (λ_=>ret Z7) (Jj c) [Z8] [.str z] S=.ok [.bl Z7] S:=by unfold YS;unfold YS;simp[Jj,q,XP]
 have a:1<lim:=by decide
 have d:WI 1 [] [Z9 (D.str z)]=[Z8]:=rfl;simp[Pl,l,i,e,b,f,a]
theorem iu(h:Ji cl)(n:Nat)(a:OP c=Z7)(b:c<128)(S:ZU):Yr (cl (n+1) "name_read" [.str ⟨#[c]⟩] S) (.str ⟨#[c]⟩) S:=by
 refine⟨S++[.lst [.bl Z7]],?_,Zf _ _⟩;rw[h];refine Zj rfl (ix _ ?_ ?_ (λS=>?_) rfl ?_)
 .show(if 1<=lim then R.ok (D.int 1) S else .bad)=_;rw[if_pos (by decide)]
 .show(if(#[c]).all (·<128)=Z7 then R.ok ([D.str ⟨#[c]⟩],([])) S else .bad)=_
  simp_all
 .show R.ok (D.bl (OP c)) S=_;rw[a]
 .exact IP (l:=[⟨#[c]⟩]) (Y9 _ _)
abbrev Td:=Str×Str×D
def WR(c:ZQ)(a:Td):Prop:=∀S,Yr (c "word_read" [.str a.1,.str a.2.1] S) a.2.2 S
theorem IL(c:ZQ)(h:decide (k=Str.ofString "TEXT")=Z5)(f:decide (k=Str.ofString "S")=Z5)(a:decide (k=Str.ofString "C")=Z5)(e:c "name_read" [.str w] S=.ok v S1):TR c [Z9 (.str k),Z9 (.str w)] S=.rt v S1:=by
 have d:Zl (.str k) (.str (Str.ofString "TEXT")) S=.ok (.bl Z5) S:=by show R.ok (D.bl (decide (k=Str.ofString "TEXT"))) S=_;rw[h]
 have g:Zl (.str k) (.str (Str.ofString "S")) S=.ok (.bl Z5) S:=by show R.ok (D.bl (decide (k=Str.ofString "S"))) S=_;rw[f]
 have b:Zl (.str k) (.str (Str.ofString "C")) S=.ok (.bl Z5) S:=by show R.ok (D.bl (decide (k=Str.ofString "C"))) S=_;rw[a]
 simp[TR,d,g,b,e]
theorem IK(c:ZQ)(e:c "net_read" [.str w] S=.ok v S1):TR c [Z9 (.str (Str.ofString "TEXT")),Z9 (.str w)] S=.rt v S1:=by
 have a:Zl (.str (Str.ofString "TEXT")) (.str (Str.ofString "TEXT")) S=.ok (.bl Z7) S:=by show R.ok (D.bl (decide _)) S=_;rw[decide_eq_true rfl]
 simp[TR,a,e]
theorem IJ(c:ZQ)(e:c "setting_read" [.str w] S=.ok v S1):TR c [Z9 (.str (Str.ofString "S")),Z9 (.str w)] S=.rt v S1:=by
 have a:Zl (.str (Str.ofString "S")) (.str (Str.ofString "TEXT")) S=.ok (.bl Z5) S:=by show R.ok (D.bl (decide _)) S=_;rw[decide_eq_false (by decide)]
 have b:Zl (.str (Str.ofString "S")) (.str (Str.ofString "S")) S=.ok (.bl Z7) S:=by show R.ok (D.bl (decide _)) S=_;rw[decide_eq_true rfl]
 simp[TR,a,b,e]
theorem iq(h:Jh cl)(b:Ji cl)(n:Nat)(hk:(decide (k=Str.ofString "TEXT")||decide (k=Str.ofString "S")||decide (k=Str.ofString "C"))=Z5)(f:OP c=Z7)(d:c<128):WR (cl (n+2)) (k,⟨#[c]⟩,.str ⟨#[c]⟩):=λS=>by simp only[Bool.or_eq_false_iff]at hk;obtain⟨a,e,x⟩:=iu b n f d S;refine⟨a,?_,x⟩;rw[h];exact Zj rfl (IL _ hk.1.1 hk.1.2 hk.2 e)
theorem ip(h:Jh cl)(H:MI cl)(n:Nat)(ok:N.g):WR (cl (n+6)) (Str.ofString "TEXT",X9 N,N.d):=λS=>by obtain⟨a,e,x⟩:=B6 H n ok S;refine⟨a,?_,x⟩;rw[h];exact Zj rfl (IK _ e)
theorem BY:∀b:List Td,VG (b.map λa=>D.tup [.str a.1,a.2.2])=Z9 (b.map λa=>(.inr a.1,a.2.2))
 |[]=>rfl
 |a::r=>by show(match WY (D.str a.1),VG (r.map λa=>D.tup [.str a.1,a.2.2])with|some q,Z9 c=>Z9 ((q,a.2.2)::c)| _,_=>Z8)=_;rw[BY r];rfl
theorem BX:∀(l kvs:List (Zz×D)),((kvs++l).map (·.1)).Nodup->WX kvs l=kvs++l
 |[],kvs,_=>by unfold WX;simp
 |p::l,kvs,h=>by
  have b:(kvs.any λa=>decide (a.1=p.1))=Z5:=by
   grind
  have e:Zo kvs p.1 p.2=kvs++[p]:=by unfold Zo;rw[b,if_neg qB0]
  have:=BX l (kvs++[p]) (by rw[qD1];exact h);rw[qD1]at this;rw[<- show kvs++([p]++l)=kvs++p::l from rfl,<- this];unfold WX
  simp_all
@[simp]theorem ze6(S:ZU)(xs:yH):WU S (.ktp xs)=Z9 (xs.map D.str):=rfl
@[simp]theorem zXF(ys:yH)(xs:yM):T6 (.ktp ys) xs=[]:=rfl
theorem ik(c:ZQ){W ZZ P:yM}(n:ZK (.lst k) (.int 0) S=.ok (.str v) S)(f:Rg [.str v] S=.ok (.ktp ks) S)(p:Zv [.lst k] S=.ok (.int L) S)(i:L=(ks.length:Int)+1)
  (l:W6 (.lst k) (Z9 1) Z8 S=.ok (.lst j) a) (r:ZA a j=Z9 W) (hz:zipD (ks.map D.str) W=ZZ) (m:ZZ.length<lim) (e:YS [(j,W)] (.many 2) (λ_=>ret Z7) (MX c) [Z8,Z8] ZZ a=.ok P b) (h:b++[.lst P]=g) (o:Sm [.lst b.length] g=.ok d S4) :
  Pj c [Z9 (.lst k),Z8] S=.rt d S4:=by have q:Zv [.ktp ks] S=.ok (.int ks.length) S:=rfl;have s:∀B:ZR,WI 2 [] B=[Z8,Z8]:=λ_=>rfl;subst i;simp[Pj,n,f,p,q,D.isNon,l,r,hz,m,e,h,o]
inductive OO(r:R D)(S:ZU)(kvs:List (Zz×D)):Prop
 |mk (m:Nat) (S1:ZU) (e:r=.ok (.dct m) S1) (d:S1[m]?=Z9 (.dk kvs)) (x:Ex S S1) (le:S.length<=m)
theorem ij(h:CN cl)(n:Nat){d:List Td}(C:WG.lookup v=Z9 (d.map (·.1)))(E:∀a∈d,WR (cl n) a)(nd:(d.map (·.1)).Nodup)(r:d.length<=3)(l:ZA S k=Z9 (.str v::d.map λa=>.str a.2.1)):
  OO (cl (n+1) "line_read" [.lst k] S) S (d.map λa=>(.inr a.1,a.2.2)):=by
 have s:=Ve l 0;rw[Dp]at s;have f:Rg [.str v] S=.ok (.ktp (d.map (·.1))) S:=by show(match WG.lookup v with|some B=>ret (D.ktp B)| none=>ret .non) S=_;rw[C];rfl
 have p:=NJ l (Z9 1) Z8;rw[JE _ (by decide)]at p;obtain⟨S1,q⟩:∃S1,S++[O.lst (d.map λa=>D.str a.2.1)]=S1:=⟨_,rfl⟩
 rw[show(D.str v::d.map λa=>D.str a.2.1).drop (1:Int).toNat=d.map λa=>D.str a.2.1 from rfl,q]at p;have u:ZA S1 S.length=Z9 (d.map λa=>D.str a.2.1):=q▸Y9 _ _;have G:zipD ((d.map (·.1)).map D.str) (d.map λa=>D.str a.2.1)=d.map λa=>D.tup [.str a.1,.str a.2.1]:=by unfold zipD;rw[qC6,qN2,qC6];rfl
 obtain⟨m,y,H⟩:=PP (λa:Td=>D.tup [.str a.1,.str a.2.1]) (w:=[(S.length,d.map λa=>D.str a.2.1)]) (t:=.many 2) (c:=MX (cl n)) (B0:=[Z8,Z8]) (λi=>Ex S1 i) (λi x=>Vd (x.lst u λz=>z)) (λa=>D.tup [.str a.1,a.2.2]) d (Kp.refl _ _) (λa I i x=>by
  obtain⟨S3,A,j⟩:=E a I i;exact⟨(([Z8,Z8]:ZR).set 0 (Z9 (.str a.1))).set 1 (Z9 (.str a.2.1)),rfl,S3,by simp[MX,A],x.trans j⟩)
 obtain⟨S3,g⟩:∃S3,m++[O.lst (d.map λa=>D.tup [.str a.1,a.2.2])]=S3:=⟨_,rfl⟩
 have F:Sm [.lst m.length] S3=.ok (.dct S3.length) (S3++[.dk (d.map λa=>(.inr a.1,a.2.2))]):=by
  have J:S3[m.length]?=Z9 (.lst (d.map λa=>D.tup [.str a.1,a.2.2])):=by rw[<- g,qA2 (qA6 _),qD8];rfl
  unfold Sm;dsimp only;rw[J];dsimp only;rw[BY];dsimp only;rw[if_pos (by rw[qA1];exact qC5 r (by decide)),BX _ [] (by
   rw[qL6,qC6];have:=List.Pairwise.map (S:=λa b:Zz=>a≠b) (λk:Str=>(Sum.inr k:Zz)) (λa b o e=>o (Sum.inr.inj e)) nd;rw[qC6]at this;exact this)]
  rfl
 have j:Ex S S3:=(q▸Zf _ _:Ex S S1).trans (H.trans (g▸Zf _ _:Ex m S3));refine⟨S3.length,S3++[.dk (d.map λa=>(.inr a.1,a.2.2))],?_,by rw[qA2 (qA6 _),qD8];rfl,j.trans (Zf _ _),j.le⟩;rw[h];exact Zj rfl (ik _ s f (Q9 l) (by simp) p u G (by rw[qA1];exact qH9 r (by decide)) y g F)
abbrev KD:=List (Zz×D)
abbrev tv(a:KD)(x:Str):Option D:=Zk a (.inr x)
section
variable {S:ZU}{m:Nat}{kvs:KD} (h:S[m]?=some (.dk kvs)) (x:Str)
include h
theorem BW:dictAt S m (.str x)=Z9 (tv kvs x):=by unfold dictAt;rw[h];rfl
theorem Vc(neg:Bool):YA neg (.str x) (.dct m) S=.ok (.bl (if neg then !(tv kvs x).isSome else(tv kvs x).isSome)) S:=by show(match dictAt S m (.str x)with|some o=>R.ok (D.bl (if neg then !o.isSome else o.isSome)) S|none=>.bad)=_;rw[BW h]
theorem WS(e:tv kvs x=Z9 d):ZK (.dct m) (.str x) S=.ok d S:=by
 have q:=BW h x;unfold ZK
 simp_all
theorem BV(a:kvs.length<lim)(d:D):Ya (.dct m) (.str x) d S=Z9 (S.set m (.dk (Zo kvs (.inr x) d))):=by unfold Ya;dsimp only;rw[h];show(if kvs.length<lim then Z9 (S.set m (.dk (Zo kvs (.inr x) d)))else Z8)=_;rw[if_pos a]
theorem ig:T3 [.dct m] S=.ok (.dct S.length) (S++[.dk kvs]):=by
 unfold T3
 simp_all
end
inductive Tn(kept kvs:KD)(k:Str)(t t':KD):Prop
 |no (a:tv kvs k=Z8) (e:t'=t)
 |yes (x:Str) (d:D) (a:tv kvs k=Z9 (.str x)) (b:tv kept x=Z9 d) (e:t'=Zo t (.inr k) d)
theorem ie(t:KD)(k:Zz)(d:D):(Zo t k d).length<=t.length+1:=by unfold Zo;split<;>simp
theorem Tn.len(h:Tn kept a k t t'):t'.length<=t.length+1:=by
 cases h with
 |no _ e=>rw[e];lia
 |yes x d _ _ e=>rw[e];exact ie _ _ _
theorem h9(c:ZQ)(q:YA Z5 (.str k) (.dct m) S=.ok (.bl Z5) S):RX c [Z9 (.ob i),Z9 (.dct m),Z9 (.dct t),Z9 (.str k)] S=.nx [Z9 (.ob i),Z9 (.dct m),Z9 (.dct t),Z9 (.str k)] S:=by simp[RX,q]
theorem h8(c:ZQ)(q:YA Z5 (.str k) (.dct m) S=.ok (.bl Z7) S)(b:ZK (.dct m) (.str k) S=.ok (.str x) S)(a:YA Z7 (.str x) (.dct i) S=.ok (.bl Z5) S)(e:ZK (.dct i) (.str x) S=.ok d S)(s:Ya (.dct t) (.str k) d S=Z9 S1):
  RX c [Z9 (.ob i),Z9 (.dct m),Z9 (.dct t),Z9 (.str k)] S=.nx [Z9 (.ob i),Z9 (.dct m),Z9 (.dct t),Z9 (.str k)] S1:=by have o:∀S,UZ (.ob i) S=.ok (.dct i) S:=λ_=>rfl;simp[RX,q,b,a,e,s,o]
theorem BU(c:ZQ)(hk:S[i]?=Z9 (.dk kept))(j:S[m]?=Z9 (.dk f))(n:S[t]?=Z9 (.dk l))(p:l.length<100)(T:Tn kept f k l g):
  ∃h,RX c [Z9 (.ob i),Z9 (.dct m),Z9 (.dct t),Z9 (.str k)] S=.nx [Z9 (.ob i),Z9 (.dct m),Z9 (.dct t),Z9 (.str k)] h/\Kp (·=t) S h/\h[t]?=Z9 (.dk g):=by
 cases T with
 |no a e =>
  subst e;have q:=Vc j k Z5;rw[a]at q;exact⟨S,h9 c q,Kp.refl _ _,n⟩
 |yes x d a b e =>
  subst e;have q:=Vc j k Z5;rw[a]at q;have o:=Vc hk x Z7;rw[b]at o;exact⟨_,h8 c q (WS j k a) o (WS hk x b) (BV n k (qB7 p (by decide)) d),TV _ _,qD4 (qA5.mp n).1⟩
theorem h7(c:ZQ)(f:T3 [.dct m] S=.ok (.dct t) a)(e:XQ [] (gN 3) (RX c) [.str (Str.ofString "A"),.str (Str.ofString "B")] [Z9 (.ob i),Z9 (.dct m),Z9 (.dct t),Z8] a=.nx [Z9 (.ob i),Z9 (.dct m),Z9 (.dct t),v3] S2):
  O5 c [Z9 (.ob i),Z9 (.dct m),Z8,Z8] S=.rt (.dct t) S2:=by simp[O5,f,e]
theorem BS{f:yM}(j:XJ w S)(i:g d B S=.ok e a)(h:b e a=.nx c S2):XQ w g b (d::f) B S=XQ w g b f c S2:=by
 conv=>lhs;unfold XQ
 simp_all
theorem hV(h:CF cl)(n:Nat)(hk:S[i]?=Z9 (.dk kept))(c:S[m]?=Z9 (.dk a))(y:a.length<=3)(TA:Tn kept a "A" a l)(t:Tn kept a "B" l t2):OO (cl (n+1) "Desk.with_nets" [.ob i,.dct m] S) S t2:=by
 have lt:∀{j:Nat}{o:O},S[j]?=Z9 o->j<S.length:=λe=>(qA5.mp e).1;obtain⟨S1,d⟩:∃S1,S++[O.dk a]=S1:=⟨_,rfl⟩
 have f:=ig c;rw[d]at f;have b:=d▸Zf _ _;have s:S1[S.length]?=Z9 (.dk a):=by rw[<- d,qA2 (qA6 _),qD8];rfl
 have C:=lt hk;have B:=lt c;obtain⟨A,p,k2,x⟩:=BU (cl n) (b.at hk λz=>z) (b.at c λz=>z) s (by lia) TA;obtain⟨S3,q,r,w⟩:=BU (cl n) (k2.at (b.at hk λz=>z) (by lia)) (k2.at (b.at c λz=>z) (by lia)) x (by have:=TA.len;lia) t;have u:Ex S S3:=by
  have k:=k2.trans r;refine⟨qC5 b.le k.le,λj g v=>(k.eq j (qB7 g b.le) ?_).trans (b.eq j g v)⟩
  lia
 refine⟨S.length,S3,?_,w,u,qA6 _⟩;rw[h];refine Zj rfl (h7 _ f (v3:=Z9 (.str "B")) ?_);rw[BS (XP _) rfl p];refine(BS (XP _) rfl q).trans ?_;unfold XQ;rw[if_pos (XP _)]
theorem hU(c:ZQ)(a:YA Z5 (.str (Str.ofString "S")) (.dct m) S=.ok (.bl Z5) S)(b:YA Z5 (.str (Str.ofString "B")) (.dct m) S=.ok (.bl Z5) S):TQ c [Z9 (.dct m)] S=.nx [Z9 (.dct m)] S:=by simp[TQ,a,b]
theorem hO(c:ZQ){bs:yM}(d:YA Z5 (.str (Str.ofString "S")) (.dct m) S=.ok (.bl Z7) S)(f:ZK (.dct m) (.str (Str.ofString "S")) S=.ok (.tup bs) S)(g:ZK (.dct m) (.str (Str.ofString "A")) S=.ok nd S)(e:ZK nd (.int 0) S=.ok (.int sw) S)(a:(bs.length:Int)=sw)(b:YA Z5 (.str (Str.ofString "B")) (.dct m) S=.ok (.bl Z5) S):TQ c [Z9 (.dct m)] S=.nx [Z9 (.dct m)] S:=by subst a;simp[TQ,d,b,f,g,e]
theorem hJ(c:ZQ)(d:YA Z5 (.str (Str.ofString "S")) (.dct m) S=.ok (.bl Z5) S)(e:YA Z5 (.str (Str.ofString "B")) (.dct m) S=.ok (.bl Z7) S)(g:ZK (.dct m) (.str (Str.ofString "A")) S=.ok nd S)(f:ZK nd (.int 0) S=.ok (.int sw) S)(b:ZK (.dct m) (.str (Str.ofString "B")) S=.ok nd' S)(a:ZK nd' (.int 0) S=.ok (.int sw) S):TQ c [Z9 (.dct m)] S=.nx [Z9 (.dct m)] S:=by simp[TQ,d,e,g,f,b,a]
theorem ON(N:ZH)(S:ZU):ZK N.d (.int 0) S=.ok (.int N.sw) S:=by unfold ZH.d;simp
inductive BR(t:KD):Prop
 |no (a:tv t "S"=Z8) (b:tv t "B"=Z8)
 |s (bs:yM) (N:ZH) (a:tv t "S"=Z9 (.tup bs)) (e:tv t "A"=Z9 N.d) (l:(bs.length:Int)=N.sw) (b:tv t "B"=Z8)
 |b (N N':ZH) (a:tv t "S"=Z8) (e:tv t "A"=Z9 N.d) (e':tv t "B"=Z9 N'.d) (l:N.sw=N'.sw)
theorem hI(h:CM cl)(n:Nat)(d:S[m]?=Z9 (.dk t))(f:BR t):cl (n+1) "refuse_unfit" [.dct m] S=.ok .non S:=by
 rw[h];refine Dh rfl (B:=[Z9 (.dct m)]) ?_;have g:=Vc d "S" Z5;have c:=Vc d "B" Z5;cases f with
 |no a b=>rw[a]at g;rw[b]at c;exact hU _ g c
 |s bs N a e l b=>rw[a]at g;rw[b]at c;exact hO _ g (WS d "S" a) (WS d "A" e) (ON N S) l c
 |b N j a e i l=>rw[a]at g;rw[i]at c;exact hJ _ g c (WS d "A" e) (ON N S) (WS d "B" i) (by rw[l];exact ON j S)
theorem hH(c:ZQ)(r:c "words_of" [.str z] S=.ok (.lst k) b)(f:c "line_read" [.lst k] b=.ok (.dct m) e)(h:c "Desk.with_nets" [.ob i,.dct m] e=.ok (.dct t) S3)(j:c "refuse_unfit" [.dct t] S3=.ok .non S3)
  (n:ZK (.lst k) (.int 0) S3=.ok (.str v) S3) (q:Zl (.str v) (.str (Str.ofString "nets")) S3=.ok (.bl Z5) S3) (g:YA Z5 (.str (Str.ofString "N")) (.dct t) S3=.ok (.bl Z7) S3) (l:c "net_made" [.str v,.dct t] S3=.ok nd a) (p:ZK (.dct t) (.str (Str.ofString "N")) a=.ok (.str d) a) (s:Ya (.dct i) (.str d) nd a=Z9 S5) :
  TM c [Z9 (.ob i),Z9 (.str z),Z8,Z8] S=.rt (.str (Str.ofString "ok")) S5:=by
 have o:∀S,UZ (.ob i) S=.ok (.dct i) S:=λ_=>rfl;have w:Zn (c "Desk.with_nets") (ZY 0) (ZS [(ZT (c "line_read") (ZS [(ZY 2)]))]) [Z9 (.ob i),Z9 (.str z),Z9 (.lst k),Z8] b=.ok (.dct t) S3:=by unfold Zn;simp[f,h]
 simp[TM,r,w,j,n,q,g,l,o,p,s]
theorem hG(c:ZQ)(n:c "words_of" [.str z] S=.ok (.lst k) a)(e:c "line_read" [.lst k] a=.ok (.dct m) b)(g:c "Desk.with_nets" [.ob i,.dct m] b=.ok (.dct t) S3)(h:c "refuse_unfit" [.dct t] S3=.ok .non S3)
  (l:ZK (.lst k) (.int 0) S3=.ok (.str v) S3) (q:Zl (.str v) (.str (Str.ofString "nets")) S3=.ok (.bl Z5) S3) (f:YA Z5 (.str (Str.ofString "N")) (.dct t) S3=.ok (.bl Z5) S3) (j:c "answer" [.str v,.dct t] S3=.ok d S4) :
  TM c [Z9 (.ob i),Z9 (.str z),Z8,Z8] S=.rt d S4:=by
 have w:Zn (c "Desk.with_nets") (ZY 0) (ZS [(ZT (c "line_read") (ZS [(ZY 2)]))]) [Z9 (.ob i),Z9 (.str z),Z9 (.lst k),Z8] a=.ok (.dct t) S3:=by unfold Zn;simp[e,g]
 simp[TM,n,w,h,l,q,f,j]
theorem hF(c:ZQ)(s:c "words_of" [.str z] S=.ok (.lst k) a)(g:c "line_read" [.lst k] a=.ok (.dct m) e)(h:c "Desk.with_nets" [.ob i,.dct m] e=.ok (.dct t) S3)(l:c "refuse_unfit" [.dct t] S3=.ok .non S3)
  (p:ZK (.lst k) (.int 0) S3=.ok (.str v) S3) (q:Zl (.str v) (.str (Str.ofString "nets")) S3=.ok (.bl Z7) S3) (f:T1 [.dct i] S3=.ok (.lst j) b) (n:VE (.str (Str.ofString " ")) [.lst j] b=.ok d S5) :
  TM c [Z9 (.ob i),Z9 (.str z),Z8,Z8] S=.rt d S5:=by
 have o:∀S,UZ (.ob i) S=.ok (.dct i) S:=λ_=>rfl;have r:XR "str" (.str (Str.ofString " ")) S3=Z7:=rfl;have w:Zn (c "Desk.with_nets") (ZY 0) (ZS [(ZT (c "line_read") (ZS [(ZY 2)]))]) [Z9 (.ob i),Z9 (.str z),Z9 (.lst k),Z8] a=.ok (.dct t) S3:=by unfold Zn;simp[g,h]
 simp[TM,s,w,l,p,q,o,r,f,n]
structure UT(cl:Nat->ZQ):Prop where
 wo:Pk cl
 lr:CN cl
 wr:Jh cl
 nr:Ji cl
 wn:CF cl
 ru:CM cl
 sy:kh cl
 nm:ku cl
 an:kj cl
 aa:ko cl
 ao:kl cl
 al:kn cl
structure W9(cl:Nat->ZQ)(n:Nat)(kept:KD)(z v:Str)(its:List Td)(t:KD):Prop where
 w:Xa cl z (v::its.map (·.2.1))
 f:WG.lookup v=Z9 (its.map (·.1))
 r:∀a∈its,WR (cl n) a
 nd:(its.map (·.1)).Nodup
 l:its.length<=3
 tt:∃t1,Tn kept (its.map λa=>(.inr a.1,a.2.2)) "A" (its.map λa=>(.inr a.1,a.2.2)) t1/\Tn kept (its.map λa=>(.inr a.1,a.2.2)) "B" t1 t
 fit:BR t
inductive II(c:ZQ)(i:Nat)(z v:Str)(S:ZU)(tt:KD):Prop
 |mk (k m t:Nat) (S1 S2 S3:ZU) (e1:c "words_of" [.str z] S=.ok (.lst k) S1) (e2:c "line_read" [.lst k] S1=.ok (.dct m) S2) (e3:c "Desk.with_nets" [.ob i,.dct m] S2=.ok (.dct t) S3) (e4:c "refuse_unfit" [.dct t] S3=.ok .non S3) (i0:ZK (.lst k) (.int 0) S3=.ok (.str v) S3) (d:S3[t]?=Z9 (.dk tt)) (x:Ex S S3)
theorem IH(H:UT cl)(L:W9 cl n kept z v b tt)(hk:S[i]?=Z9 (.dk kept)):II (cl (n+1)) i z v S tt:=by
 have k:=L.w n S;obtain⟨S1,d⟩:∃S1,S++[O.lst ((v::b.map (·.2.1)).map D.str)]=S1:=⟨_,rfl⟩
 rw[d]at k;have f:=d▸Zf _ _;have j:ZA S1 S.length=Z9 (.str v::b.map λa=>.str a.2.1):=by rw[<- d,Y9,qB2,qC6];rfl
 obtain⟨m,s,l,q,c,_⟩:=ij H.lr n L.f L.r L.nd L.l j;obtain⟨u,TA,p⟩:=L.tt;obtain⟨t,r,o,h,g,_⟩:=hV H.wn n ((f.trans c).at hk λz=>z) q (by rw[qA1];exact L.l) TA p;have e:=Ve ((c.trans g).lst j λz=>z) 0;rw[Dp]at e;exact⟨_,_,_,_,_,_,k,l,o,hI H.ru n h L.fit,e,h,f.trans (c.trans g)⟩
theorem BQ(h:decide (a=b)=Z5)(S:ZU):Zl (.str a) (.str b) S=.ok (.bl Z5) S:=by show R.ok (D.bl (decide (a=b))) S=_;rw[h]
theorem g6(a:Str)(S:ZU):Zl (.str a) (.str a) S=.ok (.bl Z7) S:=by show R.ok (D.bl (decide (a=a))) S=_;rw[decide_eq_true rfl]
theorem OM(H:UT cl)(L:W9 cl n kept z v h f)(hk:S[i]?=Z9 (.dk kept))(q:kept.length<100)(hv:decide (v=Str.ofString "nets")=Z5)(l:tv f "N"=Z9 (.str g))(made:∀(t:Nat) (a:ZU),a[t]?=Z9 (.dk f)->Yr (cl (n+1) "net_made" [.str v,.dct t] a) nd a):
  ∃c,cl (n+2) "Desk.say" [.ob i,.str z] S=.ok (.str (Str.ofString "ok")) c/\Kp (·=i) S c/\c[i]?=Z9 (.dk (Zo kept (.inr g) nd)):=by obtain⟨k,m,t,y,B,a,w,o,p,r,u,d,x⟩:=IH H L hk;have j:=Vc d "N" Z5;rw[l]at j;obtain⟨A,s,e⟩:=made t a d;have b:=e.at (x.at hk λz=>z) λz=>z;refine⟨_,?_,(x.trans e).kp.trans (TV _ _),qD4 (qA5.mp b).1⟩;rw[show n+2=(n+1)+1 from rfl,H.sy];exact Zj rfl (hH _ w o p r u (BQ hv a) j s (WS (e.at d λz=>z) "N" l) (BV b g (qB7 q (by decide)) nd))
theorem IG(H:UT cl)(L:W9 cl n kept z v e c)(hk:S[i]?=Z9 (.dk kept))(hv:decide (v=Str.ofString "nets")=Z5)(r:tv c "N"=Z8)(b:∀(t:Nat) (a:ZU),a[t]?=Z9 (.dk c)->Yr (cl (n+1) "answer" [.str v,.dct t] a) d a):
  Yr (cl (n+2) "Desk.say" [.ob i,.str z] S) d S:=by obtain⟨k,m,t,w,y,a,u,h,j,l,q,g,x⟩:=IH H L hk;have f:=Vc g "N" Z5;rw[r]at f;obtain⟨s,p,o⟩:=b t a g;refine⟨s,?_,x.trans o⟩;rw[show n+2=(n+1)+1 from rfl,H.sy];exact Zj rfl (hG _ u h j l q (BQ hv a) f p)
abbrev sg(c:Nat):Str:=⟨#[c]⟩
abbrev kA:Zz:=.inr (Str.ofString "A")
abbrev kB:Zz:=.inr (Str.ofString "B")
abbrev kN:Zz:=.inr (Str.ofString "N")
abbrev kS:Zz:=.inr (Str.ofString "S")
abbrev kT:Zz:=.inr (Str.ofString "TEXT")
structure Nm(c:Nat):Prop where
 l:OP c=Z7
 a:c<128
 b:c≠32
theorem Nm.wr(m:Nm c)(H:UT cl)(n:Nat)(hk:(decide (k=Str.ofString "TEXT")||decide (k=Str.ofString "S")||decide (k=Str.ofString "C"))=Z5):WR (cl (n+2)) (k,sg c,.str (sg c)):=iq H.wr H.nr n hk m.l m.a
theorem QW(d e:D):Zk [(kN,d),(kT,e)] kA=Z8/\Zk [(kN,d),(kT,e)] kB=Z8/\Zk [(kN,d),(kT,e)] kS=Z8/\Zk [(kN,d),(kT,e)] kN=Z9 d/\Zk [(kN,d),(kT,e)] kT=Z9 e:=by refine⟨?_,?_,?_,?_,?_⟩<;>kernel_rfl
theorem US(d e f:D):Zk [(kA,d),(kB,e),(kN,f)] kA=Z9 d/\Zk [(kA,d),(kB,e),(kN,f)] kB=Z9 e/\Zk [(kA,d),(kB,e),(kN,f)] kS=Z8/\Zk [(kA,d),(kB,e),(kN,f)] kN=Z9 f:=by refine⟨?_,?_,?_,?_⟩<;>kernel_rfl
theorem BO(d e f x y:D):Zo [(kA,d),(kB,e),(kN,f)] kA x=[(kA,x),(kB,e),(kN,f)]/\Zo [(kA,x),(kB,e),(kN,f)] kB y=[(kA,x),(kB,y),(kN,f)]:=by refine⟨?_,?_⟩<;>kernel_rfl
theorem Tc(d f:D):Zk [(kA,d),(kN,f)] kA=Z9 d/\Zk [(kA,d),(kN,f)] kB=Z8/\Zk [(kA,d),(kN,f)] kS=Z8/\Zk [(kA,d),(kN,f)] kN=Z9 f:=by refine⟨?_,?_,?_,?_⟩<;>kernel_rfl
theorem g5(d f x:D):Zo [(kA,d),(kN,f)] kA x=[(kA,x),(kN,f)]:=by kernel_rfl
theorem QV(d:D):Zk [(kA,d)] kA=Z9 d/\Zk [(kA,d)] kB=Z8/\Zk [(kA,d)] kS=Z8/\Zk [(kA,d)] kN=Z8:=by refine⟨?_,?_,?_,?_⟩<;>kernel_rfl
theorem g4(d x:D):Zo [(kA,d)] kA x=[(kA,x)]:=by kernel_rfl
theorem Tb(d e:D):Zk [(kA,d),(kB,e)] kA=Z9 d/\Zk [(kA,d),(kB,e)] kB=Z9 e/\Zk [(kA,d),(kB,e)] kS=Z8/\Zk [(kA,d),(kB,e)] kN=Z8:=by refine⟨?_,?_,?_,?_⟩<;>kernel_rfl
theorem BN(d e x y:D):Zo [(kA,d),(kB,e)] kA x=[(kA,x),(kB,e)]/\Zo [(kA,x),(kB,e)] kB y=[(kA,x),(kB,y)]:=by refine⟨?_,?_⟩<;>kernel_rfl
theorem Ta(d e:D):Zk [(kA,d),(kS,e)] kA=Z9 d/\Zk [(kA,d),(kS,e)] kB=Z8/\Zk [(kA,d),(kS,e)] kS=Z9 e/\Zk [(kA,d),(kS,e)] kN=Z8:=by refine⟨?_,?_,?_,?_⟩<;>kernel_rfl
theorem g0(d e x:D):Zo [(kA,d),(kS,e)] kA x=[(kA,x),(kS,e)]:=by kernel_rfl
section
variable {n i:Nat}{kept:KD}{z v:Str}{S:ZU}
theorem gW(H:UT cl)(R:MI cl){c:Nat}(m:Nm c){N:ZH}(ok:N.g):W9 cl (n+6) kept (Ze c++X9 N) ⟨#[110,101,116]⟩ [(Str.ofString "N",sg c,.str (sg c)),(Str.ofString "TEXT",X9 N,N.d)] [(kN,.str (sg c)),(kT,N.d)] where
 w:=iA H.wo m.b (MG ok)
 f:=by kernel_rfl
 r:=λa b=>by
  simp only[qC0,qE0,or_false]at b;rcases b with rfl|rfl
  .exact m.wr H (n+4) (by decide)
  .exact ip H.wr R n ok
 nd:=(by decide:([Str.ofString "N",Str.ofString "TEXT"]).Nodup)
 l:=qG4 rfl
 tt:=⟨_,.no (QW _ _).1 rfl,.no (QW _ _).2.1 rfl⟩
 fit:=.no (QW _ _).2.2.1 (QW _ _).2.1
theorem BM(H:UT cl){x y o:Nat}(g:Nm x)(e:Nm y)(mo:Nm o)(w:Xa cl z [v,sg x,sg y,sg o])(f:WG.lookup v=Z9 [Str.ofString "A",Str.ofString "B",Str.ofString "N"]){N c:ZH}(a:tv kept (sg x)=Z9 N.d)(b:tv kept (sg y)=Z9 c.d)(h:N.sw=c.sw):
  W9 cl (n+2) kept z v [(Str.ofString "A",sg x,.str (sg x)),(Str.ofString "B",sg y,.str (sg y)),(Str.ofString "N",sg o,.str (sg o))] [(kA,N.d),(kB,c.d),(kN,.str (sg o))] where
 w:=w
 f:=f
 r:=λa d=>by
  simp only[qC0,qE0,or_false]at d;rcases d with rfl|rfl|rfl
  .exact g.wr H n (by decide)
  .exact e.wr H n (by decide)
  .exact mo.wr H n (by decide)
 nd:=(by decide:([Str.ofString "A",Str.ofString "B",Str.ofString "N"]).Nodup)
 l:=qG4 rfl
 tt:=⟨[(kA,N.d),(kB,.str (sg y)),(kN,.str (sg o))],.yes _ _ (US _ _ _).1 a (BO _ _ _ _ c.d).1.symm,.yes _ _ (US _ _ _).2.1 b (BO (.str (sg x)) _ _ _ _).2.symm⟩
 fit:=.b N c (US _ _ _).2.2.1 (US _ _ _).1 (US _ _ _).2.1 h
theorem BL(H:UT cl){x o:Nat}(c:Nm x)(mo:Nm o)(w:Xa cl z [v,sg x,sg o])(f:WG.lookup v=Z9 [Str.ofString "A",Str.ofString "N"]){N:ZH}(a:tv kept (sg x)=Z9 N.d):
  W9 cl (n+2) kept z v [(Str.ofString "A",sg x,.str (sg x)),(Str.ofString "N",sg o,.str (sg o))] [(kA,N.d),(kN,.str (sg o))] where
 w:=w
 f:=f
 r:=λa b=>by
  simp only[qC0,qE0,or_false]at b;rcases b with rfl|rfl
  .exact c.wr H n (by decide)
  .exact mo.wr H n (by decide)
 nd:=(by decide:([Str.ofString "A",Str.ofString "N"]).Nodup)
 l:=qG4 rfl
 tt:=⟨_,.yes _ _ (Tc _ _).1 a (g5 _ _ _).symm,.no (Tc _ _).2.1 rfl⟩
 fit:=.no (Tc _ _).2.2.1 (Tc _ _).2.1
theorem IF(H:UT cl){x:Nat}(c:Nm x)(w:Xa cl z [v,sg x])(f:WG.lookup v=Z9 [Str.ofString "A"]){N:ZH}(a:tv kept (sg x)=Z9 N.d):W9 cl (n+2) kept z v [(Str.ofString "A",sg x,.str (sg x))] [(kA,N.d)] where
 w:=w
 f:=f
 r:=λa b=>by simp only[qC0,qE0,or_false]at b;subst b;exact c.wr H n (by decide)
 nd:=(by decide:([Str.ofString "A"]).Nodup)
 l:=qG4 rfl
 tt:=⟨_,.yes _ _ (QV _).1 a (g4 _ _).symm,.no (QV _).2.1 rfl⟩
 fit:=.no (QV _).2.2.1 (QV _).2.1
theorem gz(H:UT cl){x y:Nat}(g:Nm x)(e:Nm y)(w:Xa cl z [v,sg x,sg y])(f:WG.lookup v=Z9 [Str.ofString "A",Str.ofString "B"]){N c:ZH}(a:tv kept (sg x)=Z9 N.d)(b:tv kept (sg y)=Z9 c.d)(h:N.sw=c.sw):
  W9 cl (n+2) kept z v [(Str.ofString "A",sg x,.str (sg x)),(Str.ofString "B",sg y,.str (sg y))] [(kA,N.d),(kB,c.d)] where
 w:=w
 f:=f
 r:=λa d=>by
  simp only[qC0,qE0,or_false]at d;rcases d with rfl|rfl
  .exact g.wr H n (by decide)
  .exact e.wr H n (by decide)
 nd:=(by decide:([Str.ofString "A",Str.ofString "B"]).Nodup)
 l:=qG4 rfl
 tt:=⟨[(kA,N.d),(kB,.str (sg y))],.yes _ _ (Tb _ _).1 a (BN _ _ _ c.d).1.symm,.yes _ _ (Tb _ _).2.1 b (BN (.str (sg x)) _ _ _).2.symm⟩
 fit:=.b N c (Tb _ _).2.2.1 (Tb _ _).1 (Tb _ _).2.1 h
theorem gy(H:UT cl){x:Nat}(d:Nm x){w2:Str}{bs:yM}(w:Xa cl z [v,sg x,w2])(f:WG.lookup v=Z9 [Str.ofString "A",Str.ofString "S"])(c:WR (cl (n+2)) (Str.ofString "S",w2,.tup bs)){N:ZH}(a:tv kept (sg x)=Z9 N.d)(e:(bs.length:Int)=N.sw):
  W9 cl (n+2) kept z v [(Str.ofString "A",sg x,.str (sg x)),(Str.ofString "S",w2,.tup bs)] [(kA,N.d),(kS,.tup bs)] where
 w:=w
 f:=f
 r:=λa b=>by
  simp only[qC0,qE0,or_false]at b;rcases b with rfl|rfl
  .exact d.wr H n (by decide)
  .exact c
 nd:=(by decide:([Str.ofString "A",Str.ofString "S"]).Nodup)
 l:=qG4 rfl
 tt:=⟨_,.yes _ _ (Ta _ _).1 a (g0 _ _ _).symm,.no (Ta _ _).2.1 rfl⟩
 fit:=.s bs N (Ta _ _).2.2.1 (Ta _ _).1 e (Ta _ _).2.1
end
theorem ZH.d_eq(N:ZH):N.d=.tup [.int N.sw,.int N.pl,.tup (N.cs.map Ct.d)]:=rfl
theorem BK(N:ZH):plain 40 N.d=Z7:=by
 have:(N.cs.map Ct.d).all (plain 38)=Z7:=qD0.mpr λx a=>by obtain⟨c,_,rfl⟩:=qC8.mp a;rfl
 show(Z7&&(Z7&&((N.cs.map Ct.d).all (plain 38)&&Z7)))=Z7;rw[this];rfl
def Ct.mv(f:Int->Int)(c:Ct):Ct:=⟨if f c.b<f c.a then f c.b else f c.a,if f c.b>f c.a then f c.b else f c.a,c.k,c.o⟩
def Ym(a:yA)(p:Int):Int:=a.getD p.toNat 0
theorem gx(x y:Int):Ww [x,y]=[if y<x then y else x,if y>x then y else x]:=by
 show WW x [y]=_;unfold WW;by_cases h:x<=y
 .rw[if_pos h,if_neg (by lia)]
  grind
 .rw[if_neg h,if_pos (by lia),if_neg (by lia)];rfl
theorem gw(c:Ct):Ys [.int c.a,.int c.b,.int c.k,.int c.o] (Z9 2) Z8=[.int c.k,.int c.o]:=rfl
def BJ(a:yA)(c:Ct):Prop:=(0<=c.a/\c.a<a.length)/\0<=c.b/\c.b<a.length
theorem gv(h:Jt cl)(n:Nat)(b:BJ a c)(g:ZA S j=Z9 (a.map D.int)):Yr (cl (n+1) "moved_contact" [c.d,.lst j] S) ((c.mv (Ym a)).d) S:=by
 have e:=Ve g c.a;have d:=Ve g c.b;rw[I0 b.1.1 b.1.2]at e;rw[I0 b.2.1 b.2.2]at d;have l:=Zf S [.lst [.int (Ym a c.a),.int (Ym a c.b)]];have f:=kK (ns:=[Ym a c.a,Ym a c.b]) (Y9 S [.int (Ym a c.a),.int (Ym a c.b)]) (by show 2<64;decide);rw[gx]at f;have i:=UB (Y9 (S++[.lst [.int (Ym a c.a),.int (Ym a c.b)]]) (([if Ym a c.b<Ym a c.a then Ym a c.b else Ym a c.a,if Ym a c.b>Ym a c.a then Ym a c.b else Ym a c.a]).map D.int));refine⟨_,?_,l.trans (Zf _ [.lst (([if Ym a c.b<Ym a c.a then Ym a c.b else Ym a c.a,if Ym a c.b>Ym a c.a then Ym a c.b else Ym a c.a]).map D.int)])⟩;rw[h];refine Zj rfl ?_;have k:(2+2)<=lim:=by decide
 unfold Ct.mv Ct.d;change ZK (.lst j) (.int c.a) S=.ok (.int (Ym a c.a)) S at e;change ZK (.lst j) (.int c.b) S=.ok (.int (Ym a c.b)) S at d;generalize Ym a c.a=A at *;generalize Ym a c.b=BB at *;generalize (if BB>A then BB else A)=ma at *;generalize hS1:S++[O.lst [.int A,.int BB]]=S1 at *;simp only[qB2,qJ2]at f i;simp[Nk,YY,e,d,hS1,f,i,gw,k]
theorem gu(h:C9 cl)(o:Jt cl)(n:Nat){cs:yN}(u:cs.length<=100)(e:∀c∈cs,BJ a c)(l:ZA S j=Z9 (a.map D.int))(p:IV S x (cs.map Ct.d)):
  Yr (cl (n+2) "moved" [x,.lst j] S) ((.tup ((cs.map (Ct.mv (Ym a))).map Ct.d))) S:=by
 obtain⟨w,i,g⟩:∃w,Za (ZY 0) [Z9 x,Z9 (.lst j)] S=.ok (cs.map Ct.d,w) S/\∀S',Ex S S'->XJ w S':=by
  rcases p with rfl|⟨k,rfl,hk⟩
  .exact⟨[],by simp,λS' _=>XP _⟩
  .exact⟨[(k,cs.map Ct.d)],by simp[hk],λS' x=>Vd (x.lst hk λz=>z)⟩
 obtain⟨d,s,r⟩:=PP Ct.d (t:=.one) (c:=Js (cl (n+1))) (B0:=[Z8,Z9 (.lst j)]) (λS'=>Ex S S') g (λc=>(c.mv (Ym a)).d) cs (Kp.refl _ _)
  (λc b S' x=>by
   obtain⟨q,f,m⟩:=gv o n (e c b) (x.lst l λz=>z);exact⟨_,rfl,q,by simp[Js,f],x.trans m⟩)
 have v:cs.map (λc=>(c.mv (Ym a)).d)=(cs.map (Ct.mv (Ym a))).map Ct.d:=by rw[qC6];rfl
 have y:=UB (Y9 d ((cs.map (Ct.mv (Ym a))).map Ct.d));have A:(cs.map Ct.d).length<lim:=by rw[qA1];have:=MO;lia
 refine⟨_,?_,r.trans (Zf d [.lst ((cs.map (Ct.mv (Ym a))).map Ct.d)])⟩;rw[show n+2=(n+1)+1 from rfl,h];refine Zj rfl ?_;generalize (cs.map (Ct.mv (Ym a))).map Ct.d=R1 at *;generalize cs.map Ct.d=R at *;simp only[Nj,YY,qB2,qJ2,qB8,qH2,JK,lx,Dr,Ds,Dt,lh];rw[show([Z9 x,Z9 (D.lst j)]++qI9 (2 - (0+1+1)) Z8:ZR)=[Z9 x,Z9 (.lst j)]from rfl,i]
 simp_all
def ZH.cutN(N:ZH)(i:Nat):ZH:=⟨N.sw,N.pl,N.cs.take i++N.cs.drop (i+1)⟩
theorem IE{N:ZH}(ok:N.ok ms mp mc)(i:Nat):(N.cutN i).ok ms mp mc:=by
 have:=ok.c1;refine⟨ok.s1,ok.s2,ok.p1,ok.p2,?_,λc a=>?_⟩
 .show((N.cs.take i++N.cs.drop (i+1)).length:Int)<=mc;rw[qB5,qE6,qG5];lia
 .rcases qC3.mp a with q|q
  .exact ok.c2 c (qL2 q)
  .exact ok.c2 c (qL3 q)
theorem gr(N:ZH)(i:Nat):(N.cutN i).d=.tup [.int N.sw,.int N.pl,.tup ((N.cs.map Ct.d).take i++(N.cs.map Ct.d).drop (i+1))]:=by
 show D.tup [.int N.sw,.int N.pl,.tup ((N.cs.take i++N.cs.drop (i+1)).map Ct.d)]=_
 simp_all
theorem gq(R:yM)(i:Nat):Ys R Z8 (Z9 (i:Int))=R.take i/\Ys R (Z9 ((i:Int)+1)) Z8=R.drop (i+1):=by
 refine⟨?_,?_⟩
 .rw[kJ _ (by lia)];simp
 .rw[JE _ (by lia)];congr 1
theorem gp(R:yM)(i:Nat)(h:R.length<=100):(R.take i).length+(R.drop (i+1)).length<=lim:=by rw[YL];simp;lia
theorem gn(h:Jr cl)(b:Uz cl)(n:Nat){N:ZH}(hi:i<N.cs.length)(S:ZU):cl (n+2) "refuse_no_contact" [N.d,.int (i:Int)] S=.ok .non S:=by
 have a:=Q0 b n (OW i) S;rw[show VW (.int i)=Z7 from rfl]at a;rw[show n+2=(n+1)+1 from rfl,h];refine Dh rfl (B:=[Z9 N.d,Z9 (.int i)]) ?_;have d:0<=(i:Int):=by lia
 have c:i<((N.cs.map Ct.d).length:Int):=by rw[qA1];lia
 rw[ZH.d_eq];generalize N.cs.map Ct.d=R at *;simp[Ng,YY,a,c]
theorem BI(h:C5 cl)(e:Jr cl)(f:Uz cl)(n:Nat){N:ZH}(c:N.cs.length<=100)(hi:i<N.cs.length)(S:ZU):cl (n+3) "cut" [N.d,.int (i:Int)] S=.ok (N.cutN i).d S:=by
 have b:=gn e f n hi S;rw[show n+3=(n+2)+1 from rfl,h];refine Zj rfl ?_;rw[gr];rw[ZH.d_eq]at b ⊢;have g:(N.cs.map Ct.d).length<=100:=by rw[qA1];exact c
 generalize N.cs.map Ct.d=R at *;obtain⟨d,j⟩:=gq R i;have a:=gp R i g;generalize R.take i=R1 at *;generalize R.drop (i+1)=R2 at *;simp[Nf,YY,b,d,j,a]
theorem ME{d:Ct}(i:d.ok sw pl)(a:∀p,0<=p->p<pl->0<=f p/\f p<pl')(j:f d.a≠f d.b):(d.mv f).ok sw pl':=by
 obtain⟨b,n,k,c,g,h,e⟩:=i;have m:=a d.a b (by lia);have l:=a d.b (by lia) k;refine⟨?_,?_,?_,c,g,h,e⟩
 .show 0<=(if f d.b<f d.a then f d.b else f d.a);split<;>lia
 .show(if f d.b<f d.a then f d.b else f d.a)<(if f d.b>f d.a then f d.b else f d.a)
  grind
 .show(if f d.b>f d.a then f d.b else f d.a)<pl';split<;>lia
theorem gm{d:Ct}(b:f d.a=g d.a)(a:f d.b=g d.b):d.mv f=d.mv g:=by unfold Ct.mv;rw[b,a]
def Vv(M N:ZH):Bool:=(TL M N).isNone
theorem gk(o:Option (yA)):(TJ o).isNon=o.isNone:=by cases o<;>rfl
theorem BH{M N:ZH}(sw:N.sw=M.sw):Vv M N=Z7↔Zw M=Zw N:=by
 unfold Vv TL Zw;rw[qM6,List.find?_eq_none,sw];constructor
 .intro h;refine qF9 λst a=>?_;have:=h st a;have e:Zu M st=Zu N st:=by simpa using this
  rw[e]
 .intro h st a;have:=List.map_inj_left.mp h st a;cases c:Zu M st<;>cases b:Zu N st<;>simp[c,b]at this ⊢
theorem gj(h:C3 cl)(d:Jq cl)(F:HF cl)(n:Nat){N M:ZH}(b:N.g)(a:M.g)(sw:M.sw=N.sw)(S:ZU):Yr (cl (n+6) "are_alike" [N.d,M.d] S) ((.bl (Vv N M))) S:=by obtain⟨c,e,f⟩:=Ci d F n b a sw S;refine⟨c,?_,f⟩;rw[show n+6=(n+5)+1 from rfl,h];refine Zj rfl ?_;simp[Nc,YY,e,gk,Vv]
structure HI(cl:Nat->ZQ):Prop where
 F:HF cl
 fu:Jq cl
 al:C3 cl
 wh:Uz cl
 rc:Jr cl
 cu:C5 cl
 ii:kG cl
theorem gi(I:HI cl)(n:Nat)(ok:N.g){i:Nat}(hi:i<N.cs.length)(S:ZU):Yr (cl (n+7) "is_idle" [N.d,.int (i:Int)] S) ((.bl (Vv (N.cutN i) N))) S:=by have e:=BI I.cu I.rc I.wh (n+3) (ok.len (by decide)) hi S;obtain⟨a,b,f⟩:=gj I.al I.fu I.F n (IE ok i) ok rfl S;refine⟨a,?_,f⟩;rw[show n+7=(n+6)+1 from rfl,I.ii];refine Zj rfl ?_;generalize (N.cutN i).d=c at *;generalize N.d=d at *;generalize ((i:Nat):Int)=JJ at *;simp[Nb,YY,e,b]
def Uw:Nat->ZH->Nat->ZH
 |0,M,_=>M
 |m+1,M,i=>if Vv (M.cutN i) M then Uw m (M.cutN i) i else Uw m M (i+1)
def ZH.trim(N:ZH):ZH:=Uw N.cs.length N 0
theorem BG{N:ZH}(h:i<N.cs.length):(N.cutN i).cs.length=N.cs.length - 1:=by show(N.cs.take i++N.cs.drop (i+1)).length=_;rw[qB5,qE6,qG5,qL8 (qF4 h)];lia
theorem gh{nd R:D}{i:Nat}{L:yM}(a:ZK nd (.int 2) S=.ok (.tup L) S):Zs (ZW WJ (ZY 2) (ZT Zv (ZS [(ZW ZK (ZY 1) (ZX (.int 2)))]))) [B0,Z9 nd,Z9 (.int (i:Int))] S=.ok (decide (i<L.length)) S:=by
 have:decide ((i:Int)<(L.length:Int))=decide (i<L.length):=by rw[decide_eq_decide];lia
 simp[a,this]
theorem gg(c:ZQ)(e:c "is_idle" [nd,.int a] S=.ok (.bl Z7) S1)(d:c "cut" [nd,.int a] S1=.ok b S1):R3 c [B0,Z9 nd,Z9 (.int a)] S=.nx [B0,Z9 b,Z9 (.int a)] S1:=by simp[R3,e,d]
theorem gf(c:ZQ)(b:c "is_idle" [nd,.int a] S=.ok (.bl Z5) S1):R3 c [B0,Z9 nd,Z9 (.int a)] S=.nx [B0,Z9 nd,Z9 (.int (a+1))] S1:=by simp[R3,b]
theorem gc(c:ZQ)(e:Vg Sd (Zs (ZW WJ (ZY 2) (ZT Zv (ZS [(ZW ZK (ZY 1) (ZX (.int 2)))])))) (R3 c) [Z9 nd,Z9 nd,Z9 (.int 0)] S=.nx [Z9 nd,Z9 a,v] S1):PF c (YY 3 [nd]) S=.rt a S1:=by simp[PF,YY,e]
theorem gb(I:HI cl)(h:C2 cl)(n:Nat){N:ZH}(ok:N.g)(S:ZU):Yr (cl (n+8) "trimmed" [N.d] S) (N.trim.d) S:=by
 have s:=ok.c1;obtain⟨u,a,e,v,rfl,r⟩:=JH (t:=Zs (ZW WJ (ZY 2) (ZT Zv (ZS [(ZW ZK (ZY 1) (ZX (.int 2)))])))) (b:=R3 (cl (n+7)))
  (λm B a=>∃(M:ZH) (i:Nat),B=[Z9 N.d,Z9 M.d,Z9 (.int (i:Int))]/\Ex S a/\M.g/\M.cs.length=m+i/\Uw m M i=N.trim)
  (fun B a=>∃i:Nat,B=[Z9 N.d,Z9 N.trim.d,Z9 (.int (i:Int))]/\Ex S a)
  (λm B a q=>by
   obtain⟨M,i,rfl,x,c,o,d⟩:=q;have f:=gh (R:=.non) (nd:=M.d) (S:=a) (i:=i) (B0:=Z9 N.d) (L:=M.cs.map Ct.d) rfl;rw[qA1]at f;cases m with
   |zero =>
    rw[decide_eq_false (by lia)]at f;refine .inl ⟨a,f,i,?_,x⟩;rw[<- d];rfl
   |succ m =>
    rw[decide_eq_true (by lia)]at f;refine .inr ⟨a,f,?_⟩;obtain⟨j,g,k⟩:=gi I n c (i:=i) (by lia) a;unfold Uw at d;cases l:Vv (M.cutN i) M with
    |true =>
     rw[l]at g d;rw[if_pos rfl]at d;have p:=BI I.cu I.rc I.wh (n+4) (c.len (by decide)) (i:=i) (by lia) j;exact⟨_,j,.inl (gg _ g p),m,by lia,M.cutN i,i,rfl,x.trans k,IE c i,by rw[BG (by lia)];lia,d⟩
    |false =>
     rw[l]at g d;rw[if_neg qB0]at d;exact⟨_,j,.inl (gf _ g),m,by lia,M,i+1,by push_cast;rfl,x.trans k,c,by lia,d⟩)
  Sd N.cs.length [Z9 N.d,Z9 N.d,Z9 (.int 0)] S (qH9 (show N.cs.length<=16 by lia) (by decide)) ⟨N,0,rfl,Kp.refl _ _,ok,by lia,rfl⟩
 refine⟨a,?_,r⟩;rw[show n+8=(n+7)+1 from rfl,h];exact Zj rfl (gc _ e)
theorem Wo:Zu N st=Z7↔∀C:Int->Prop,C 0->(∀c∈N.cs,Wq c st=Z7->(C c.a↔C c.b))->C 1:=by
 unfold Zu;rw[OY];unfold Tf Yn;constructor
 .intro h C d b;refine h C d λe f=>?_;obtain⟨c,a,rfl⟩:=qC8.mp f;rw[qF1]at a;exact b c a.1 a.2
 .intro h C d b;refine h C d λc a g=>?_;exact b (c.a,c.b) (qC8.mpr ⟨c,qF1.mpr ⟨a,g⟩,rfl⟩)
theorem MD(h:Zu N st=Z5):∃C:Int->Prop,C 0/\(∀c∈N.cs,Wq c st=Z7->(C c.a↔C c.b))/\¬C 1:=by
 refine Classical.byContradiction λb=>?_;have:=Wo.mpr λC e a=>Classical.byContradiction λd=>b ⟨C,e,a,d⟩
 simp_all
theorem RT(f:Int->Int)(c:Ct)(C:Int->Prop):(C (c.mv f).a↔C (c.mv f).b)↔(C (f c.a)↔C (f c.b)):=by
 show(C (if f c.b<f c.a then f c.b else f c.a)↔C (if f c.b>f c.a then f c.b else f c.a))↔_;by_cases h:f c.b<f c.a
 .rw[if_pos h,if_neg (by lia)];exact⟨λz=>z.symm,λz=>z.symm⟩
 .rw[if_neg h];by_cases a:f c.b>f c.a
  .rw[if_pos a]
  .rw[if_neg a];have:f c.a=f c.b:=by lia
   rw[this]
def XH(a:Int)(p:Int):Int:=if p=1 then a else p
def XG(b a:Int)(k:Int):Int:=if k=0 then a else if k=1 then 1 else k+b - 2
def WD(a:Int)(k:Int):Int:=if k=0 then 0 else if k=1 then 1 else k+a - 2
def WQ(k:Int):Int:=if k=0 then 1 else if k=1 then 0 else k
def ZH.row(N M:ZH):ZH:=⟨N.sw,N.pl+M.pl - 2+1,N.cs.map (Ct.mv (XH (N.pl+M.pl - 2)))++M.cs.map (Ct.mv (XG N.pl (N.pl+M.pl - 2)))⟩
def ZH.side(N M:ZH):ZH:=⟨N.sw,N.pl+M.pl - 2,N.cs++M.cs.map (Ct.mv (WD N.pl))⟩
def ZH.abt(N:ZH):ZH:=⟨N.sw,N.pl,N.cs.map (Ct.mv WQ)⟩
theorem fC{N M:ZH}(k:N.g)(l:M.g)(st:yA):Zu (N.row M) st=(Zu N st&&Zu M st):=by
 have K:=k.p1;have J:=l.p1;refine UA ?_;rw[qC1];have D:∀C:Int->Prop,(∀c∈(N.row M).cs,Wq c st=Z7->(C c.a↔C c.b))↔(∀c∈N.cs,Wq c st=Z7->(C (XH (N.pl+M.pl - 2) c.a)↔C (XH (N.pl+M.pl - 2) c.b)))/\(∀c∈M.cs,Wq c st=Z7->(C (XG N.pl (N.pl+M.pl - 2) c.a)↔C (XG N.pl (N.pl+M.pl - 2) c.b))):=by
  intro C;show(∀c∈N.cs.map _++M.cs.map _,_)↔_;constructor
  .intro h;exact⟨λc b f=>(RT _ c C).mp (h _ (qD3 _ (qC8.mpr ⟨c,b,rfl⟩)) f),λc b f=>(RT _ c C).mp (h _ (qC7 _ (qC8.mpr ⟨c,b,rfl⟩)) f)⟩
  .intro h c b f;rcases qC3.mp b with q|q
   .obtain⟨d,w,rfl⟩:=qC8.mp q;exact(RT _ d C).mpr (h.1 d w f)
   .obtain⟨d,w,rfl⟩:=qC8.mp q;exact(RT _ d C).mpr (h.2 d w f)
 constructor
 .intro h;refine⟨?_,?_⟩
  .refine Classical.byContradiction λy=>?_;obtain⟨p,r,A,E⟩:=MD (by simpa using y);have:=Wo.mp h (λx=>x≠1/\x<N.pl/\p x) ⟨by decide,by lia,r⟩ ((D (λx=>x≠1/\x<N.pl/\p x)).mpr ⟨λc b f=>?_,λc b f=>?_⟩)
   .exact this.1 rfl
   .obtain⟨j,v,n,_⟩:=k.c2 c b;have e:=A c b f;have a:∀x,0<=x->x<N.pl->((XH (N.pl+M.pl - 2) x≠1/\XH (N.pl+M.pl - 2) x<N.pl/\p (XH (N.pl+M.pl - 2) x))↔p x):=λx u s=>by
     unfold XH;by_cases g:x=1
     .rw[if_pos g,g];exact⟨λz=>by lia,λz=>absurd z E⟩
     .rw[if_neg g];exact⟨λz=>z.2.2,λz=>⟨g,s,z⟩⟩
    rw[a c.a j (by lia),a c.b (by lia) n];exact e
   .obtain⟨j,v,n,_⟩:=l.c2 c b;have a:∀x,0<=x->¬(XG N.pl (N.pl+M.pl - 2) x≠1/\XG N.pl (N.pl+M.pl - 2) x<N.pl/\p (XG N.pl (N.pl+M.pl - 2) x)):=λx u z=>by
     unfold XG at z;by_cases m:x=0
     .rw[if_pos m]at z;lia
     .rw[if_neg m]at z;by_cases i:x=1
      .rw[if_pos i]at z;exact z.1 rfl
      .rw[if_neg i]at z;lia
    exact iff_of_false (a _ j) (a _ (by lia))
  .refine Classical.byContradiction λy=>?_;obtain⟨o,r,A,E⟩:=MD (by simpa using y);have:=Wo.mp h (λx=>x≠1/\(x<N.pl∨x=N.pl+M.pl - 2∨o (x - N.pl+2))) ⟨by decide,.inl (by lia)⟩ ((D (λx=>x≠1/\(x<N.pl∨x=N.pl+M.pl - 2∨o (x - N.pl+2)))).mpr ⟨λc b f=>?_,λc b f=>?_⟩)
   .exact this.1 rfl
   .obtain⟨j,v,n,_⟩:=k.c2 c b;have a:∀x,0<=x->x<N.pl->(XH (N.pl+M.pl - 2) x≠1/\(XH (N.pl+M.pl - 2) x<N.pl∨XH (N.pl+M.pl - 2) x=N.pl+M.pl - 2∨o (XH (N.pl+M.pl - 2) x - N.pl+2))):=λx u s=>by
     unfold XH;by_cases g:x=1
     .rw[if_pos g];exact⟨by lia,.inr (.inl rfl)⟩
     .rw[if_neg g];exact⟨g,.inl s⟩
    exact iff_of_true (a _ j (by lia)) (a _ (by lia) n)
   .obtain⟨j,v,n,_⟩:=l.c2 c b;have e:=A c b f;have a:∀x,0<=x->x<M.pl->((XG N.pl (N.pl+M.pl - 2) x≠1/\(XG N.pl (N.pl+M.pl - 2) x<N.pl∨XG N.pl (N.pl+M.pl - 2) x=N.pl+M.pl - 2∨o (XG N.pl (N.pl+M.pl - 2) x - N.pl+2)))↔o x):=λx u s=>by
     unfold XG;by_cases m:x=0
     .rw[if_pos m,m];exact iff_of_true ⟨by lia,.inr (.inl rfl)⟩ r
     .rw[if_neg m];by_cases i:x=1
      .rw[if_pos i,i];exact iff_of_false (λz=>z.1 rfl) E
      .rw[if_neg i,show x+N.pl - 2 - N.pl+2=x by lia];exact⟨λz=>by rcases z.2 with z|z|z;lia;lia;exact z,λz=>⟨by lia,.inr (.inr z)⟩⟩
    rw[a c.a j (by lia),a c.b (by lia) n];exact e
 .intro⟨i,I⟩;refine Wo.mpr λC r H=>?_;obtain⟨G,F⟩:=(D C).mp H;have B:C (XH (N.pl+M.pl - 2) 1):=Wo.mp i (λx=>C (XH (N.pl+M.pl - 2) x)) (by show C (XH _ 0);unfold XH;rw[if_neg (by decide)];exact r) G;have t:C (XG N.pl (N.pl+M.pl - 2) 1):=Wo.mp I (λx=>C (XG N.pl (N.pl+M.pl - 2) x)) (by show C (XG _ _ 0);unfold XG;rw[if_pos rfl];unfold XH at B;rw[if_pos rfl]at B;exact B) F;unfold XG at t;rw[if_neg (by decide),if_pos rfl]at t;exact t
theorem fz{N M:ZH}(i:N.g)(k:M.g)(st:yA):Zu (N.side M) st=(Zu N st||Zu M st):=by
 have J:=i.p1;have H:=k.p1;refine UA ?_;rw[qI2];have s:∀C:Int->Prop,(∀c∈(N.side M).cs,Wq c st=Z7->(C c.a↔C c.b))↔(∀c∈N.cs,Wq c st=Z7->(C c.a↔C c.b))/\(∀c∈M.cs,Wq c st=Z7->(C (WD N.pl c.a)↔C (WD N.pl c.b))):=by
  intro C;show(∀c∈N.cs++M.cs.map _,_)↔_;constructor
  .intro h;exact⟨λc b f=>h _ (qD3 _ b) f,λc b f=>(RT _ c C).mp (h _ (qC7 _ (qC8.mpr ⟨c,b,rfl⟩)) f)⟩
  .intro h c b f;rcases qC3.mp b with q|q
   .exact h.1 c q f
   .obtain⟨d,w,rfl⟩:=qC8.mp q;exact(RT _ d C).mpr (h.2 d w f)
 constructor
 .intro h;refine Classical.byContradiction λn=>?_;rw[not_or]at n;obtain⟨j,l,E,t⟩:=MD (show Zu N st=Z5 by simpa using n.1);obtain⟨g,A,D,G⟩:=MD (show Zu M st=Z5 by simpa using n.2);have:=Wo.mp h (λx=>(x<N.pl/\j x)∨(N.pl<=x/\g (x - N.pl+2))) (.inl ⟨by lia,l⟩) ((s (λx=>(x<N.pl/\j x)∨(N.pl<=x/\g (x - N.pl+2)))).mpr ⟨λc b f=>?_,λc b f=>?_⟩)
  .rcases this with z|z
   .exact t z.2
   .lia
  .obtain⟨p,v,r,_⟩:=i.c2 c b;have e:=E c b f;have a:∀x,x<N.pl->(((x<N.pl/\j x)∨(N.pl<=x/\g (x - N.pl+2)))↔j x):=λx B=>⟨λz=>by rcases z with z|z;exact z.2;lia,λz=>.inl ⟨B,z⟩⟩
   rw[a c.a (by lia),a c.b r];exact e
  .obtain⟨p,v,r,_⟩:=k.c2 c b;have e:=D c b f;have a:∀x,0<=x->(((WD N.pl x<N.pl/\j (WD N.pl x))∨(N.pl<=WD N.pl x/\g (WD N.pl x - N.pl+2)))↔g x):=λx I=>by
    unfold WD;by_cases m:x=0
    .rw[if_pos m,m];exact iff_of_true (.inl ⟨by lia,l⟩) A
    .rw[if_neg m];by_cases o:x=1
     .rw[if_pos o,o];exact iff_of_false (λz=>by rcases z with z|z;exact t z.2;lia) G
     .rw[if_neg o,show x+N.pl - 2 - N.pl+2=x by lia];exact⟨λz=>by rcases z with z|z;lia;exact z.2,λz=>.inr ⟨by lia,z⟩⟩
   rw[a c.a p,a c.b (by lia)];exact e
 .intro h;refine Wo.mpr λC l F=>?_;obtain⟨y,u⟩:=(s C).mp F;rcases h with h|h
  .exact Wo.mp h C l y
  .have:=Wo.mp h (λx=>C (WD N.pl x)) l u;exact this
theorem UR(x:Int):WQ (WQ x)=x:=by
 unfold WQ;by_cases a:x=0
 .subst a;rfl
 .lia
theorem fy{c:Ct}(d:c.ok sw pl)(g:∀x,f (f x)=x):(c.mv f).mv f=c:=by
 obtain⟨e,h,i,_⟩:=d;obtain⟨a,b,k,o⟩:=c;unfold Ct.mv
 grind
theorem BE{N:ZH}(ok:N.g):N.abt.abt=N:=by
 obtain⟨e,d,b⟩:=N;unfold ZH.abt;congr 1;rw[qC6]
 conv=>rhs;rw[<- List.map_id b]
 exact qF9 λc a=>fy (ok.c2 c a) UR
theorem BD(h:Zu N.abt st=Z7):Zu N st=Z7:=by
 refine Wo.mpr λC e a=>Classical.byContradiction λb=>?_;have:=Wo.mp h (λx=>¬C (WQ x)) b λc i g=>by obtain⟨d,f,rfl⟩:=qC8.mp i;refine(RT WQ d (λx=>¬C (WQ x))).mpr ?_;rw[UR,UR];exact not_congr (a d f g)
 exact this e
theorem BC{N:ZH}(ok:N.ok ms mp mc):N.abt.ok ms mp mc:=by
 have e:=ok.p1;refine⟨ok.s1,ok.s2,ok.p1,ok.p2,by show((N.cs.map _).length:Int)<=mc;rw[qA1];exact ok.c1,λc b=>?_⟩;obtain⟨d,a,rfl⟩:=qC8.mp b;obtain⟨f,h,i,_⟩:=ok.c2 d a;refine ME (ok.c2 d a) (λp j g=>?_) (λz=>?_)
 .show 0<=WQ p/\WQ p<N.pl;unfold WQ;split
  .lia
  .split<;>lia
 .have:d.a=d.b:=by rw[<- UR d.a,<- UR d.b,z]
  lia
theorem fx(ok:N.g)(st:yA):Zu N.abt st=Zu N st:=by
 refine UA ⟨BD,λh=>?_⟩;have:Zu N.abt.abt st=Z7:=by rw[BE ok];exact h
 exact BD this
theorem BA{N M:ZH}(g:N.ok 4 4 8)(h:M.ok 4 4 8)(sw:M.sw=N.sw):(N.row M).g:=by
 have a:=g.p1;have b:=g.p2;have c:=h.p1;have d:=h.p2;have e:=g.c1;have f:=h.c1;refine⟨g.s1,g.s2,by show 2<=N.pl+M.pl - 2+1;lia,by show N.pl+M.pl - 2+1<=7;lia,by show((_++_:yN).length:Int)<=16;rw[qB5,qA1,qA1];lia,λx r=>?_⟩;rcases qC3.mp r with q|q
 .obtain⟨y,j,rfl⟩:=qC8.mp q;obtain⟨k,l,n,_⟩:=g.c2 y j;refine ME (g.c2 y j) (λp m o=>?_) (λz=>?_)
  .show 0<=XH _ p/\XH _ p<N.pl+M.pl - 2+1;unfold XH;split<;>lia
  .unfold XH at z;split at z<;>split at z<;>lia
 .obtain⟨y,j,rfl⟩:=qC8.mp q;obtain⟨k,l,n,_⟩:=h.c2 y j;have i:=h.c2 y j;rw[sw]at i;refine ME i (λp m o=>?_) (λz=>?_)
  .show 0<=XG _ _ p/\XG _ _ p<N.pl+M.pl - 2+1;unfold XG;split
   .lia
   .split<;>lia
  .unfold XG at z;repeat' split at z
   all_goals lia
theorem Bz{N M:ZH}(g:N.ok 4 4 8)(h:M.ok 4 4 8)(sw:M.sw=N.sw):(N.side M).g:=by
 have a:=g.p1;have b:=g.p2;have c:=h.p1;have d:=h.p2;have e:=g.c1;have f:=h.c1;refine⟨g.s1,g.s2,by show 2<=N.pl+M.pl - 2;lia,by show N.pl+M.pl - 2<=7;lia,by show((_++_:yN).length:Int)<=16;rw[qB5,qA1];lia,λx n=>?_⟩;rcases qC3.mp n with q|q
 .obtain⟨j,k,m,r⟩:=g.c2 x q;exact⟨j,k,by show x.b<N.pl+M.pl - 2;lia,r⟩
 .obtain⟨y,l,rfl⟩:=qC8.mp q;obtain⟨j,k,m,_⟩:=h.c2 y l;have i:=h.c2 y l;rw[sw]at i;refine ME i (λp o s=>?_) (λz=>?_)
  .show 0<=WD _ p/\WD _ p<N.pl+M.pl - 2;unfold WD;split
   .lia
   .split<;>lia
  .unfold WD at z;repeat' split at z
   all_goals lia
theorem fw(h:Zu (N.cutN i) st=Z7):Zu N st=Z7:=by
 refine Wo.mpr λC b a=>Wo.mp h C b λc e d=>a c ?_ d;rcases qC3.mp e with q|q
 .exact qL2 q
 .exact qL3 q
theorem MC(h:lo<=hi)(f:hi - lo<=100)(g:-1000<=lo/\hi<=1000):
  ∃a,WE [.int lo,.int hi] (S++[.lst [.int x,.int y]])=.ok (.lst (S.length+1)) (S++[.lst [.int x,.int y]]++[.lst (YT lo (hi - lo).toNat)])/\ZI (.lst S.length) (.lst (S.length+1)) (S++[.lst [.int x,.int y]]++[.lst (YT lo (hi - lo).toNat)])=.ok (.lst (S.length+2)) a/\Ex S a /\
   ZA a (S.length+2)=Z9 (([x,y]++(List.range (hi - lo).toNat).map fun(k:Nat)=>lo+(k:Int)).map D.int):=by
 have e:([x,y]++(List.range (hi - lo).toNat).map fun(k:Nat)=>lo+(k:Int)).map D.int=[.int x,.int y]++YT lo (hi - lo).toNat:=by rw[qE2,qC6];rfl
 have c:ZA (S++[.lst [.int x,.int y]]++[.lst (YT lo (hi - lo).toNat)]) S.length=Z9 [.int x,.int y]:=UW (Y9 _ _);have d:ZA (S++[.lst [.int x,.int y]]++[.lst (YT lo (hi - lo).toNat)]) (S.length+1)=Z9 (YT lo (hi - lo).toNat):=by have:=Y9 (S++[.lst [.int x,.int y]]) (YT lo (hi - lo).toNat);rw[show(S++[O.lst [.int x,.int y]]).length=S.length+1 by simp]at this;exact this
 have b:=PN c d (by rw[OZ,YL];show 2+_<=_;lia);have len:(S++[O.lst [.int x,.int y]]++[O.lst (YT lo (hi - lo).toNat)]).length=S.length+2:=by simp
 rw[len]at b;refine⟨_,?_,b,((Zf _ _).trans (Zf _ _)).trans (Zf _ _),?_⟩
 .unfold WE;dsimp only;rw[if_pos (by lia),show(S++[O.lst [.int x,.int y]]).length=S.length+1 by simp]
 .rw[<- len,Y9,e]
theorem By{x y lo:Int}{n:Nat}{p:Int}(d:0<=p)(c:p<n+2):Ym ([x,y]++(List.range n).map fun(k:Nat)=>lo+(k:Int)) p=if p=0 then x else if p=1 then y else lo+(p - 2):=by
 unfold Ym;by_cases a:p=0
 .subst a;rfl
 .rw[if_neg a];by_cases b:p=1
  .subst b;rfl
  .rw[if_neg b,qM1,qA2 (by show 2<=p.toNat;lia),qB6,qH5 (by show p.toNat - 2<n;lia)];show lo+((p.toNat - 2:Nat):Int)=_
   lia
theorem fv(x y lo:Int)(n:Nat):([x,y]++(List.range n).map fun(k:Nat)=>lo+(k:Int)).length=n+2:=by simp
theorem ft(a p:Int):XH a p=if p=0 then 0 else if p=1 then a else 2+(p - 2):=by
 unfold XH;by_cases b:p=0
 .subst b;rfl
 .lia
theorem fq(b a p:Int):XG b a p=if p=0 then a else if p=1 then 1 else b+(p - 2):=by
 unfold XG;by_cases c:p=0
 .rw[if_pos c,if_pos c]
 .lia
theorem fj(a p:Int):WD a p=if p=0 then 0 else if p=1 then 1 else a+(p - 2):=by
 unfold WD;by_cases b:p=0
 .rw[if_pos b,if_pos b]
 .lia
theorem fh(p:Int):WQ p=if p=0 then 1 else if p=1 then 0 else 2+(p - 2):=by
 unfold WQ;by_cases a:p=0
 .rw[if_pos a,if_pos a]
 .lia
structure HM(cl:Nat->ZQ):Prop where
 mo:C9 cl
 mc:Jt cl
theorem MB(M:HM cl)(n:Nat){cs:yN}(l:cs.length<=100)(hpl:2<=pl)(d:∀c∈cs,c.ok sw pl)(f:Int->Int)(g:∀p,0<=p->p<pl->f p=if p=0 then x else if p=1 then y else lo+(p - 2))
  (m:ZA S j=Z9 (([x,y]++(List.range (pl - 2).toNat).map fun(k:Nat)=>lo+(k:Int)).map D.int)):Yr (cl (n+2) "moved" [.tup (cs.map Ct.d),.lst j] S) ((.tup ((cs.map (Ct.mv f)).map Ct.d))) S:=by
 obtain⟨q,e,o⟩:=gu M.mo M.mc n l (λc a=>by
  obtain⟨b,i,h,_⟩:=d c a;refine⟨⟨b,?_⟩,by lia,?_⟩<;>(rw[fv];lia)) m (.inl rfl)
 refine⟨q,?_,o⟩;have r:cs.map (Ct.mv (Ym ([x,y]++(List.range (pl - 2).toNat).map fun(k:Nat)=>lo+(k:Int))))=cs.map (Ct.mv f):=qF9 λc a=>by obtain⟨b,i,h,_⟩:=d c a;exact gm (by rw[By b (by lia),g _ b (by lia)]) (by rw[By (by lia) (by lia),g _ (by lia) h])
 rw[r]at e;exact e
theorem Bx(h:Nh cl)(n:Nat){R:yM}(d:pl<=7)(c:R.length<=16)(S:ZU):cl (n+1) "net_within" [.int sw,.int pl,.tup R] S=.ok (.tup [.int sw,.int pl,.tup R]) S:=by
 rw[h];refine Zj rfl ?_;have b:¬7<pl:=by lia
 have a:¬16<(R.length:Int):=by lia
 simp[Ni,YY,b,a]
theorem fg(c:ZQ){N M nd md:D}{h R2 b d:yM}{S A g C T:ZU}(l:N=.tup [.int sw,.int p,.tup h])(j:∀T,ZK M (.int 1) T=.ok (.int q) T)(i:∀T,ZK M (.int 2) T=.ok (.tup R2) T)
  (r:WE [.int 2,.int p] (S++[.lst [.int 0,.int (p+q - 2)]])=.ok (.lst (S.length+1)) A) (t:ZI (.lst S.length) (.lst (S.length+1)) A=.ok (.lst f) g) (s:c "moved" [.tup h,.lst f] g=.ok (.tup b) a)
  (m:WE [.int p,.int (p+q - 2)] (a++[.lst [.int (p+q - 2),.int 1]])=.ok (.lst (a.length+1)) C) (o:ZI (.lst a.length) (.lst (a.length+1)) C=.ok (.lst k2) T) (k:c "moved" [.tup R2,.lst k2] T=.ok (.tup d) BB2)
  (n:b.length+d.length<=lim) (e:c "net_within" [.int sw,.int (p+q - 2+1),.tup (b++d)] BB2=.ok w BB2):PL c (YY 5 [N,M]) S=.rt w BB2:=by subst l;simp[PL,YY,j,i,r,t,s,m,o,k,n,e]
theorem ff(c:ZQ){N M:D}{b R2 a:yM}{S C T BB2:ZU}(h:N=.tup [.int sw,.int p,.tup b])(f:∀T,ZK M (.int 1) T=.ok (.int q) T)(d:∀T,ZK M (.int 2) T=.ok (.tup R2) T)
  (i:WE [.int p,.int (p+q - 2)] (S++[.lst [.int 0,.int 1]])=.ok (.lst (S.length+1)) C) (k:ZI (.lst S.length) (.lst (S.length+1)) C=.ok (.lst k2) T) (g:c "moved" [.tup R2,.lst k2] T=.ok (.tup a) BB2)
  (j:b.length+a.length<=lim) (e:c "net_within" [.int sw,.int (p+q - 2),.tup (b++a)] BB2=.ok w BB2):PK c (YY 4 [N,M]) S=.rt w BB2:=by subst h;simp[PK,YY,f,d,i,k,g,j,e]
theorem fc(c:ZQ){a ZZ:yM}{S C T BB2:ZU}(d:N=.tup [.int sw,.int p,.tup a])
  (e:WE [.int 2,.int p] (S++[.lst [.int 1,.int 0]])=.ok (.lst (S.length+1)) C) (f:ZI (.lst S.length) (.lst (S.length+1)) C=.ok (.lst k2) T) (b:c "moved" [.tup a,.lst k2] T=.ok (.tup ZZ) BB2):PJ c (YY 1 [N]) S=.rt (.tup [.int sw,.int p,.tup ZZ]) BB2:=by subst d;simp[PJ,YY,e,f,b]
theorem fb(h:C8 cl)(A:Nh cl)(M:HM cl)(n:Nat){N g:ZH}(ok:N.g)(i:g.g)(j:(N.row g).g)(S:ZU):Yr (cl (n+3) "in_row" [N.d,g.d] S) ((N.row g).d) S:=by
 have a:=ok.p1;have b:=ok.p2;have c:=i.p1;have d:=i.p2;have e:=ok.c1;have f:=i.c1;obtain⟨I,B,F,w,lB⟩:=MC (S:=S) (x:=0) (y:=N.pl+g.pl - 2) (lo:=2) (hi:=N.pl) (by lia) (by lia) (by lia);obtain⟨m,E,o⟩:=MB M n (ok.len (by decide)) a ok.c2 (XH (N.pl+g.pl - 2)) (λp _ _=>ft _ p) lB;obtain⟨T,s,t,z,r⟩:=MC (S:=m) (x:=N.pl+g.pl - 2) (y:=1) (lo:=N.pl) (hi:=N.pl+g.pl - 2) (by lia) (by lia) (by lia);rw[show N.pl+g.pl - 2 - N.pl=g.pl - 2 by lia]at r s t;obtain⟨k,u,l⟩:=MB M n (i.len (by decide)) c i.c2 (XG N.pl (N.pl+g.pl - 2)) (λp _ _=>fq _ _ p) r;have H:=j.c1;have C:=j.p2;have G:(N.row g).cs.length=N.cs.length+g.cs.length:=by show(_++_:yN).length=_;rw[qB5,qA1,qA1]
 have q:=Bx A (n+1) (sw:=N.sw) (pl:=N.pl+g.pl - 2+1) (R:=(N.cs.map (Ct.mv (XH (N.pl+g.pl - 2)))).map Ct.d++(g.cs.map (Ct.mv (XG N.pl (N.pl+g.pl - 2)))).map Ct.d) (by exact C) (by rw[qB5,qA1,qA1,qA1,qA1];lia) k;refine⟨k,?_,((w.trans o).trans z).trans l⟩;have v:(N.row g).d=.tup [.int N.sw,.int (N.pl+g.pl - 2+1),.tup ((N.cs.map (Ct.mv (XH (N.pl+g.pl - 2)))).map Ct.d++(g.cs.map (Ct.mv (XG N.pl (N.pl+g.pl - 2)))).map Ct.d)]:=by show D.tup [.int N.sw,.int (N.pl+g.pl - 2+1),.tup ((_++_:yN).map Ct.d)]=_;rw[qE2]
 rw[show n+3=(n+2)+1 from rfl,h,v];exact Zj rfl (fg _ (nd:=.non) (md:=.non) rfl (λ_=>rfl) (λ_=>rfl) B F E s t u (by rw[qA1,qA1,qA1,qA1,YL];lia) q)
theorem eZ(h:C7 cl)(v:Nh cl)(M:HM cl)(n:Nat){N g:ZH}(ok:N.g)(i:g.g)(j:(N.side g).g)(S:ZU):Yr (cl (n+3) "side_by_side" [N.d,g.d] S) ((N.side g).d) S:=by
 have a:=ok.p1;have b:=ok.p2;have c:=i.p1;have d:=i.p2;have e:=ok.c1;have f:=i.c1;obtain⟨T,q,r,u,o⟩:=MC (S:=S) (x:=0) (y:=1) (lo:=N.pl) (hi:=N.pl+g.pl - 2) (by lia) (by lia) (by lia);rw[show N.pl+g.pl - 2 - N.pl=g.pl - 2 by lia]at o q r;obtain⟨k,s,l⟩:=MB M n (i.len (by decide)) c i.c2 (WD N.pl) (λp _ _=>fj _ p) o;have A:=j.c1;have w:=j.p2;have z:(N.side g).cs.length=N.cs.length+g.cs.length:=by show(_++_:yN).length=_;rw[qB5,qA1]
 have m:=Bx v (n+1) (sw:=N.sw) (pl:=N.pl+g.pl - 2) (R:=N.cs.map Ct.d++(g.cs.map (Ct.mv (WD N.pl))).map Ct.d) (by exact w) (by rw[qB5,qA1,qA1,qA1];lia) k;refine⟨k,?_,u.trans l⟩;have t:(N.side g).d=.tup [.int N.sw,.int (N.pl+g.pl - 2),.tup (N.cs.map Ct.d++(g.cs.map (Ct.mv (WD N.pl))).map Ct.d)]:=by show D.tup [.int N.sw,.int (N.pl+g.pl - 2),.tup ((_++_:yN).map Ct.d)]=_;rw[qE2]
 rw[show n+3=(n+2)+1 from rfl,h,t];exact Zj rfl (ff _ rfl (λ_=>rfl) (λ_=>rfl) q r s (by rw[qA1,qA1,qA1,YL];lia) m)
theorem eY(h:C6 cl)(M:HM cl)(n:Nat){N:ZH}(ok:N.g)(S:ZU):Yr (cl (n+3) "about" [N.d] S) (N.abt.d) S:=by have a:=ok.p1;have b:=ok.p2;obtain⟨T,i,j,f,e⟩:=MC (lo:=2) (hi:=N.pl) (by lia) (by lia) (by lia);obtain⟨c,g,d⟩:=MB M n (ok.len (by decide)) a ok.c2 WQ (λp _ _=>fh p) e;refine⟨c,?_,f.trans d⟩;rw[show n+3=(n+2)+1 from rfl,h];exact Zj rfl (fc _ rfl i j g)
theorem eX{N M:ZH}(b:N.g)(a:M.g)(sw:M.sw=N.sw):Zw (N.row M)=(Zr N.sw.toNat).map λst=>b1 (Zu N st&&Zu M st):=by exact qF9 λst _=>by rw[fC b a];rfl
theorem eW{N M:ZH}(b:N.g)(a:M.g)(sw:M.sw=N.sw):Zw (N.side M)=(Zr N.sw.toNat).map λst=>b1 (Zu N st||Zu M st):=by exact qF9 λst _=>by rw[fz b a];rfl
theorem eV(ok:N.g):Zw N.abt=Zw N:=by exact qF9 λa _=>by rw[fx ok]
theorem ID(N:ZH):Zw N=(Zr N.sw.toNat).map λst=>b1 (Zu N st):=rfl
def met(fs:List (yA)):Nat->List (yA)
 |0=>[]
 |j+1=>if fs.getD j []∈fs.take j then met fs j else met fs j++[fs.getD j []]
theorem eU{M N:ZH}(h:∀c∈M.cs,c∈N.cs)(a:Zu M st=Z7):Zu N st=Z7:=by rw[Wo]at a ⊢;exact λC d b=>a C d λc e=>b c (h c e)
theorem eT{N:ZH}(h:j<i)(hi:i<N.cs.length):∀c∈((N.cutN i).cutN j).cs,c∈(N.cutN j).cs:=λc a=>by
 have a:c∈(N.cs.take i++N.cs.drop (i+1)).take j++(N.cs.take i++N.cs.drop (i+1)).drop (j+1):=a;show c∈N.cs.take j++N.cs.drop (j+1);have b:(N.cs.take i).length=i:=by rw[qE6];lia
 rw[qC3]at a ⊢;rcases a with q|q
 .rw[List.take_append_of_le_length (by lia),List.take_take,qL8 (by lia)]at q;exact .inl q
 .rw[List.drop_append_of_le_length (by lia),qC3]at q;refine .inr ?_;rcases q with q|q
  .rw[List.drop_take]at q
   grind
  .rw[show i+1=(j+1)+(i - j) by lia,<- List.drop_drop]at q
   grind
theorem IC{M N:ZH}(sw:N.sw=M.sw):Vv M N=Z7↔∀st∈Zr M.sw.toNat,Zu M st=Zu N st:=by
 unfold Vv TL
 simp_all
structure Bw(N:ZH)(R:ZH):Prop where
 ok:R.g
 sw:R.sw=N.sw
 fn:Zw R=Zw N
 no:∀j,j<R.cs.length->Vv (R.cutN j) R=Z5
theorem Iz:∀(m:Nat) {M:ZH}{i:Nat},M.g->M.cs.length=m+i->(∀j,j<i->Vv (M.cutN j) M=Z5)->Bw M (Uw m M i)
 |0,M,i,ok,hl,hn=>⟨ok,rfl,rfl,λj c=>hn j (by unfold Uw at c;lia)⟩
 |m+1,M,i,ok,hl,hn=>by
  have g:i<M.cs.length:=by lia
  unfold Uw;by_cases h:Vv (M.cutN i) M=Z7
  .rw[if_pos h];have e:=(BH (M:=M.cutN i) (N:=M) rfl).mp h;have b:=Iz m (i:=i) (IE ok i) (by rw[BG g];lia) λj c=>by
    cases q:Vv ((M.cutN i).cutN j) (M.cutN i)with
    |false=>rfl
    |true =>
     have l:=(IC (M:=(M.cutN i).cutN j) (N:=M.cutN i) rfl).mp q;have n:=(IC (M:=M.cutN i) (N:=M) rfl).mp h;have:=(IC (M:=M.cutN j) (N:=M) rfl).mpr λa k=>by
      have f:=(l a k).trans (n a k);cases d:Zu M a with
      |true=>rw[d]at f;exact eU (eT c g) f
      |false =>
       cases o:Zu (M.cutN j) a with
       |false=>rfl
       |true=>rw[fw o]at d;cases d
     simp_all
   exact⟨b.ok,b.sw,b.fn.trans e,b.no⟩
  .rw[if_neg h];exact Iz m ok (by lia) λj c=>by
    by_cases e:j=i
    .lia
    .grind
theorem eS(ok:N.g):Bw N N.trim:=Iz _ ok (by lia) λj a=>by lia
theorem eR{N M:ZH}(sw:M.sw=N.sw)(h:Zw M=Zw N):TL N M=Z8:=by have:=(BH sw).mpr h.symm;exact qM6.mp this
open PySem Lake
theorem Bv:∀a:List (yA),Sr (a.map Lake.tD)=Z9 a
 |[]=>rfl
 |ns::a=>by rw[qB2];show(match Wy (ns.map D.int),Sr (a.map Lake.tD)with|some ns,Z9 a=>Z9 (ns::a)| _,_=>Z8)=_;rw[JF,Bv a]
theorem eQ:∀a:List (yA),a≠[]->Wy (a.map Lake.tD)=Z8
 |[],h=>absurd rfl h
 |ns::a,_=>rfl
theorem eP(h:ZA S n=Z9 (a.map Lake.tD))(c:WZ a.length:=by trivial):Xe [.lst n] S=.ok (.lst S.length) (S++[.lst ((Vi a).map Lake.tD)]):=by
 unfold Xe;dsimp only;rw[h];by_cases b:a=[]
 .subst b;rfl
 .show(match Wy (a.map Lake.tD)with|some d=>_|none=>_)=_;rw[eQ a b];show(match Sr (a.map Lake.tD)with|some a=>_|none=>_)=_;rw[Bv];dsimp only;rw[if_pos c]
abbrev Wk:=yA×yA
def Yi(l:yA):Int:=l.getD (l.length - 1) 0
def fr(c:Ct)(v:Int):yG:=if c.a=v then Z9 c.b else if c.b=v then Z9 c.a else Z8
def Xm(w:Wk)(q:Nat×Ct):Option Wk:=match fr q.2 (Yi w.1)with
 |some u=>if u∈w.1 then Z8 else Z9 (w.1++[u],w.2++[(q.1:Int)])
 |none=>Z8
def YV(cs:yN)(w:Wk):List Wk:=(XI cs).filterMap (Xm w)
def Vf(cs:yN):Nat->Wk->List (yA)
 |0,_=>[]
 |f+1,w=>if Yi w.1=1 then[Ww w.2]else(YV cs w).flatMap (Vf cs f)
def Vs(cs:yN)(w:Wk):List (yA):=Vf cs (9 - w.1.length) w
structure VU(cs:yN)(w:Wk):Prop where
 nd:w.1.Nodup
 in7:∀x∈w.1,0<=x/\x<7
 ne:0<w.1.length
 ln:w.2.length<w.1.length
theorem eO{l:yA}(nd:l.Nodup)(h:∀x∈l,0<=x/\x<7):l.length<=7:=by
 have:l.length<=([0,1,2,3,4,5,6]:yA).length:=List.Nodup.length_le_of_subset nd λx a=>by
  have:=h x a;have:x=0∨x=1∨x=2∨x=3∨x=4∨x=5∨x=6:=by lia
  simpa using this
 simpa using this
theorem VU.le(h:VU cs w):w.1.length<=7:=eO h.nd h.in7
theorem MA{cs:yN}(h:Xm w q=Z9 v):∃u,fr q.2 (Yi w.1)=Z9 u/\u∉w.1/\v=(w.1++[u],w.2++[(q.1:Int)]):=by
 unfold Xm at h;split at h
 .rename_i u e;split at h
  .cases h
  .rename_i a;cases h;exact⟨u,e,a,rfl⟩
 .cases h
theorem eN(h:fr c v=Z9 u)(a:(0<=c.a/\c.a<7)/\0<=c.b/\c.b<7):0<=u/\u<7:=by
 unfold fr at h;split at h
 .cases h;exact a.2
 .split at h
  .cases h;exact a.1
  .cases h
theorem QU(g:Wp cs)(h:VU cs w):∀v∈YV cs w,VU cs v/\v.1.length=w.1.length+1:=by
 intro v hv;obtain⟨q,c,e⟩:=qF2.mp hv;obtain⟨u,i,d,rfl⟩:=MA (cs:=cs) e;have f:q.2∈cs:=qC2 (IZ c);have:=eN i (g _ f);refine⟨⟨?_,?_,by simp,by have:=h.ln;simp;lia⟩,by simp⟩
 .rw[qF7];exact⟨h.nd,by simp,λx a y b z=>d (by simp at b;rw[<- b,<- z];exact a)⟩
 .intro x a;rcases qC3.mp a with a|a
  .exact h.in7 x a
  .rw[qB4.mp a];exact this
theorem QT(e:Wp cs)(h:VU cs w):Vs cs w=if Yi w.1=1 then[Ww w.2]else(YV cs w).flatMap (Vs cs):=by
 have:=h.le;unfold Vs;obtain⟨f,c⟩:∃f,9 - w.1.length=f+1:=⟨8 - w.1.length,by lia⟩
 rw[c,Vf];split
 .rfl
 .have:∀l:List Wk,(∀v∈l,v.1.length=w.1.length+1)->l.flatMap (Vf cs f)=l.flatMap λv=>Vf cs (9 - v.1.length) v:=by
   intro l
   induction l with
   |nil=>intro _;rfl
   |cons v l d =>
    intro a;rw[qK7,qK7,d λu b=>a u (qC4 _ b),a v (qC9 ..)];congr 2;lia
  exact this _ λv hv=>(QU e h v hv).2
def Mz(l:yA)(c:Ct):Bool:=decide (c.a∉l)&&decide (c.b∉l)
def live(cs:yN)(w:Wk):Nat:=(cs.filter (Mz w.1.dropLast)).length
def wt(cs:yN)(w:Wk):Nat:=2 ^ live cs w
theorem eM(h:0<l.length):l=l.dropLast++[Yi l]:=by
 have hne:l≠[]:=λe=>by subst e;simp at h
 have e:=List.dropLast_concat_getLast hne;have:Yi l=l.getLast hne:=by unfold Yi;rw[List.getLast_eq_getElem,qM4,qA9 (by lia)];rfl
 rw[this,e]
theorem Bu{c:Type}{p q r:c->Bool}(e:∀x,q x=Z7->p x=Z7)(a:∀x,r x=Z7->p x=Z7)(b:∀x,q x=Z7->r x=Z5):∀l:List c,(l.filter q).length+(l.filter r).length<=(l.filter p).length
 |[]=>by simp
 |x::l=>by
  have g:=Bu e a b l;simp only[qG6];cases d:q x with
  |true =>
   rw[e x d,b x d];simp;lia
  |false =>
   cases f:r x with
   |true=>rw[a x f];simp;lia
   |false =>
    cases p x<;>simp<;>lia
theorem eL:(YV cs w).length=(cs.filter λc=>(Xm w (0,c)).isSome).length:=by
 unfold YV;have e:∀l:List (Nat×Ct),(l.filterMap (Xm w)).length=((l.map (·.2)).filter λc=>(Xm w (0,c)).isSome).length:=by
  intro l
  induction l with
  |nil=>rfl
  |cons q l b =>
   have a:(Xm w q).isSome=(Xm w (0,q.2)).isSome:=by
    unfold Xm;dsimp only;split
    .split<;>rfl
    .rfl
   rw[qB2,qF8,qG6];cases hk:Xm w q with
   |none=>rw[hk]at a;simp only[Option.isSome_none]at a;rw[<- a];simpa using b
   |some v=>rw[hk]at a;simp only[qP2]at a;rw[<- a];simpa using b
 rw[e,jr]
theorem Iy(h:VU cs w):∀v∈YV cs w,(YV cs w).length+live cs v<=live cs w:=by
 intro v hv;obtain⟨q,s,e⟩:=qF2.mp hv;obtain⟨u,t,r,rfl⟩:=MA (cs:=cs) e;rw[eL,qK6];unfold live;have k:(w.1++[u]).dropLast=w.1:=by simp
 rw[k];have d:=eM h.ne;have i:Yi w.1∈w.1:=by
  have:Yi w.1∈w.1.dropLast++[Yi w.1]:=by simp
  rwa[<- d]at this
 have f:Yi w.1∉w.1.dropLast:=by have j:=h.nd;rw[d,qF7]at j;exact λn=>j.2.2 _ n _ (qG8 _) rfl
 have sub:∀x,x∈w.1.dropLast->x∈w.1:=λx o=>List.dropLast_subset _ o;refine Bu (λc a=>?_) (λc a=>?_) (λc a=>?_) cs
 .simp only[Mz,qC1,decide_eq_true_eq]at a ⊢;exact⟨λm=>a.1 (sub _ m),λm=>a.2 (sub _ m)⟩
 .obtain⟨v,hv⟩:=qH4.mp a;obtain⟨u,b,g,_⟩:=MA (cs:=cs) hv;simp only[Mz,qC1,decide_eq_true_eq];unfold fr at b;split at b
  .rename_i p;cases b;exact⟨by rw[p];exact f,λm=>g (sub _ m)⟩
  .split at b
   .rename_i l;cases b;exact⟨λm=>g (sub _ m),by rw[l];exact f⟩
   .cases b
 .simp only[Mz,qC1,decide_eq_true_eq]at a;unfold Xm fr;dsimp only;rw[if_neg (λe:c.a=Yi w.1=>a.1 (by rw[e];exact i)),if_neg (λe:c.b=Yi w.1=>a.2 (by rw[e];exact i))];rfl
theorem eK(d m:Nat)(h:d<=m):d*2 ^ (m - d)+1<=2 ^ m:=by
 have e:2 ^ m=2 ^ d*2 ^ (m - d):=by rw[<- Nat.pow_add];congr 1;lia
 have a:d+1<=2 ^ d:=Nat.succ_le_of_lt Nat.lt_two_pow_self;have b:1<=2 ^ (m - d):=qM5
 calc d*2 ^ (m - d)+1<=d*2 ^ (m - d)+2 ^ (m - d):=by lia
  _=(d+1)*2 ^ (m - d):=by rw[qR2,qR3]
  _<=2 ^ d*2 ^ (m - d):=Nat.mul_le_mul_right _ a
  _=2 ^ m:=e.symm
def RQ(cs:yN)(l:List Wk):Nat:=(l.map (wt cs)).sum
theorem Bt:∀l:List Wk,(∀v∈l,wt cs v<=b)->RQ cs l<=l.length*b
 |[],_=>by simp[RQ]
 |v::l,h=>by have:=Bt l λu a=>h u (qC4 _ a);have:=h v (qC9 ..);unfold RQ at *;rw[qB2,qF0,qB8,qR2,qR3];lia
theorem eJ(h:VU cs w):RQ cs (YV cs w)+1<=wt cs w:=by
 by_cases hk:YV cs w=[]
 .rw[hk];unfold RQ wt;exact qM5
 .obtain⟨c,a⟩:=List.exists_mem_of_ne_nil _ hk;have d:(YV cs w).length<=live cs w:=by have:=Iy h c a;lia
  have f:=Bt (cs:=cs) (b:=2 ^ (live cs w - (YV cs w).length)) (YV cs w) λv hv=>by have:=Iy h v hv;exact qE5 (by lia) (by lia)
  have e:=eK _ _ d;unfold wt at *
  lia
theorem Bs{cs:yN}(a:Wp cs):∀(f:Nat) (w:Wk),VU cs w->9 - w.1.length<=f->(Vs cs w).length<=wt cs w
 |0,w,h,hf=>by have:=h.le;lia
 |f+1,w,h,hf=>by
  rw[QT a h];split
  .exact qM5
  .have g:∀l:List Wk,(∀v∈l,VU cs v/\v.1.length=w.1.length+1)->(l.flatMap (Vs cs)).length<=RQ cs l:=by
    intro l
    induction l with
    |nil=>intro _;simp
    |cons v l d =>
     intro b;obtain⟨o,e⟩:=b v (qC9 ..);have j:=Bs a f v o (by lia);have i:=d λu c=>b u (qC4 _ c);unfold RQ at *;rw[qK7,qB5,qB2,qF0];lia
   have:=g _ (QU a h);have:=eJ h
   lia
theorem eI(h:cs.length<=16):wt cs w<=65536:=by have:live cs w<=16:=qC5 (qG3 ..) h;exact qC5 (qE5 (by lia) this) (by decide)
def w0:Wk:=([0],[])
theorem Iw(cs:yN):VU cs w0:=⟨by simp[w0],λx a=>by simp[w0]at a;lia,by simp[w0],by simp[w0]⟩
def Vu(N:ZH):List (yA):=Vi (Vs N.cs w0)
def iT(l:yA):D:=.tup (l.map D.int)
def Mx(cs:yN):D:=.tup (cs.map Ct.d)
def Mw:yG->D
 |some u=>.int u
 |none=>.non
theorem eH(h:CV cl)(n:Nat)(c:Ct)(v:Int)(S:ZU):cl (n+1) "far_end" [c.d,.int v] S=.ok (Mw (fr c v)) S:=by
 rw[h];refine Zj rfl ?_;unfold fr;by_cases a:c.a=v
 .rw[if_pos a];simp[Q3,YY,Ct.d,a,Mw]
 .rw[if_neg a];by_cases b:c.b=v
  .rw[if_pos b];simp[Q3,YY,Ct.d,a,b,Mw]
  .rw[if_neg b];simp[Q3,YY,Ct.d,a,b,Mw]
theorem Iv(h:0<l.length)(S:ZU):ZK (iT l) (.int (-1)) S=.ok (.int (Yi l)) S:=by
 unfold iT;rw[kZ];have:XN (l.map D.int) (-1)=Z9 (.int (Yi l)):=by unfold XN VQ;rw[if_neg (by lia),if_pos (by simp;lia)];show(l.map D.int)[(-1+((l.map D.int).length:Int)).toNat]?=_;rw[qB6,show(-1+((l.map D.int).length:Int)).toNat=l.length - 1 by simp;lia,qA9 (by lia)];unfold Yi;rw[qM4,qA9 (by lia)];rfl
 rw[this]
theorem Iu(h:l.length<=100)(S:ZU):ZI (iT l) (.tup [.int x]) S=.ok (iT (l++[x])) S:=by unfold iT ZI;dsimp only;rw[if_pos (by have:=MO;simp;lia)];simp
theorem eG(a:ns.length<64)(S:ZU):Xe [iT ns] S=.ok (.lst S.length) (S++[.lst ((Ww ns).map D.int)]):=by unfold Xe iT;dsimp only;rw[JF];dsimp only;rw[if_pos a]
theorem eF(c:ZQ)(g:ZK b (.int (-1)) S=.ok (.int v) S)(f:c "far_end" [d,.int v] S=.ok .non S):
  TU c [Z9 a,Z9 b,Z9 e,Z9 (.lst k),Z9 nd,Z9 d,w] S=.nx [Z9 a,Z9 b,Z9 e,Z9 (.lst k),Z9 nd,Z9 d,Z9 .non] S:=by simp[TU,g,f,D.isNon]
theorem eE(c:ZQ)(g:ZK b (.int (-1)) S=.ok (.int v) S)(f:c "far_end" [d,.int v] S=.ok (.int u) S)(q:YA Z7 (.int u) b S=.ok (.bl Z5) S):
  TU c [Z9 a,Z9 b,Z9 e,Z9 (.lst k),Z9 nd,Z9 d,w] S=.nx [Z9 a,Z9 b,Z9 e,Z9 (.lst k),Z9 nd,Z9 d,Z9 (.int u)] S:=by simp[TU,g,f,q,D.isNon]
theorem eD(c:ZQ)(o:ZK d (.int (-1)) S=.ok (.int v) S)(p:c "far_end" [g,.int v] S=.ok (.int u) S)(q:YA Z7 (.int u) d S=.ok (.bl Z7) S)
  (r:ZI d (.tup [.int u]) S=.ok b S) (j:ZI f (.tup [nd]) S=.ok e S) (i:c "ways_on" [a,b,e] S=.ok (.lst m) h) (n:XR "list" (.lst k) S=Z7) (l:Sq (.lst k) [.lst m] h=.ok .non S2) :
  TU c [Z9 a,Z9 d,Z9 f,Z9 (.lst k),Z9 nd,Z9 g,w] S=.nx [Z9 a,Z9 d,Z9 f,Z9 (.lst k),Z9 nd,Z9 g,Z9 (.int u)] S2:=by simp[TU,o,p,q,r,j,i,l,n,D.isNon]
theorem eC(c:ZQ){xs:yM}(i:ZK f (.int (-1)) S=.ok (.int 1) S)(g:Xe [e] S=.ok (.lst k) a)(h:Xu [.lst k] a=.ok b a):
  R0 c [Z9 d,Z9 f,Z9 e,w3,w4,w5,w6] S=.rt (.lst a.length) (a++[.lst [b]]):=by simp[R0,i,g,h]
theorem eB(c:ZQ)(f:ZK a (.int (-1)) S=.ok (.int v) S)(hv:v≠1)
  (e:XQ [] (gT [(gN 4),(gN 5)]) (TU c) (WT xs) [Z9 (.tup xs),Z9 a,Z9 b,Z9 (.lst S.length),w4,w5,w6] (S++[.lst []])=.nx B S1) (g:(WT xs).length<lim) (d:B[3]?=Z9 (Z9 (.lst S.length))) :
  R0 c [Z9 (.tup xs),Z9 a,Z9 b,w3,w4,w5,w6] S=.rt (.lst S.length) S1:=by simp[R0,f,hv,e,d]
theorem eA{q:Nat×a}(h:(XI l)[i]?=Z9 q):(XI l).take (i+1)=(XI l).take i++[q]:=by rw[qN0,h];rfl
theorem ew{ys a:yM}(c:ZA S n=Z9 ys)(b:ZA S k=Z9 a)(h:ys.length+a.length<=lim):Sq (.lst n) [.lst k] S=.ok .non (S.set n (.lst (ys++a))):=by unfold Sq;dsimp only;rw[VA c,VA b];dsimp only;rw[if_pos h]
structure HW(cl:Nat->ZQ):Prop where
 fe:CV cl
 wo:ky cl
 aw:kx cl
inductive UQ(r:R D)(S:ZU)(L:yM):Prop
 |mk (k:Nat) (S1:ZU) (e:r=.ok (.lst k) S1) (x:Ex S S1) (le:S.length<=k) (l:ZA S1 k=Z9 L)
def V7(cs:yN)(w:Wk)(i:Nat):List (yA):=(((XI cs).take i).filterMap (Xm w)).flatMap (Vs cs)
theorem et{cs:yN}(h:(XI cs)[i]?=Z9 q):V7 cs w (i+1)=V7 cs w i++(match Xm w q with|some v=>Vs cs v|none=>[]):=by
 unfold V7;rw[eA h,qO2,qP0];congr 1;cases e:Xm w q with
 |none=>simp[e]
 |some v=>simp[e]
theorem eo(a:Wp cs)(b:cs.length<=16)(h:VU cs w)(c:Yi w.1≠1)(i:Nat):(V7 cs w i).length<=65536:=by
 have e:(Vs cs w).length<=65536:=qC5 (Bs a 9 w h (by lia)) (eI b);rw[QT a h,if_neg c]at e;have s:(YV cs w)=((XI cs).take i).filterMap (Xm w)++((XI cs).drop i).filterMap (Xm w):=by rw[<- qO2,qI6];rfl
 rw[s,qP0,qB5]at e;unfold V7
 lia
theorem Br(H:HW cl){cs:yN}(p:Wp cs)(G:cs.length<=16):∀(f:Nat) (w:Wk),VU cs w->w.1.length+f=8->∀(n:Nat) (S:ZU),UQ (cl (n+2+f) "ways_on" [Mx cs,iT w.1,iT w.2] S) S ((Vs cs w).map tD)
 |0,w,h,hf,n,S=>by have:=h.le;lia
 |f+1,w,h,hf,n,S=>by
  have K:=h.ln;rw[show n+2+(f+1)=(n+2+f)+1 from rfl,H.wo];by_cases r:Yi w.1=1
  .rw[QT p h,if_pos r];have e:=Iv h.ne S;rw[r]at e;have Q:=eG (ns:=w.2) (by lia) S;have L:Xu [.lst S.length] (S++[.lst ((Ww w.2).map D.int)])=.ok (tD (Ww w.2)) _:=UB (Y9 S _);refine⟨_,_,Zj rfl (eC (xs:=[]) _ e Q L),(Zf S _).trans (Zf _ _),by simp,Y9 _ _⟩
  .have T:=Y9 S [];obtain⟨X,P,V,y,x,v,rfl,kp,l⟩:=UV (g:=gT [(gN 4),(gN 5)]) (b:=TU (cl (n+2+f))) (items:=WT (cs.map Ct.d))
    (λi B a=>∃y x v,B=[Z9 (Mx cs),Z9 (iT w.1),Z9 (iT w.2),Z9 (.lst S.length),y,x,v]/\Kp (·=S.length) (S++[O.lst []]) a/\ZA a S.length=Z9 ((V7 cs w i).map tD))
    (λ_ _ _ _=>XP _) ⟨Z8,Z8,Z8,rfl,Kp.refl _ _,T⟩
    (λi d B a A N=>by
     obtain⟨y,x,v,rfl,kp,l⟩:=N;rw[RW,qB6]at A;obtain⟨q,E,rfl⟩:=qA4.mp A;have e:=Iv h.ne a;have k:=eH H.fe (n+1+f) q.2 (Yi w.1) a;rw[show n+1+f+1=n+2+f by lia]at k;have s:=eo p G h r (i+1);rw[et E]at s ⊢;refine⟨[Z9 (Mx cs),Z9 (iT w.1),Z9 (iT w.2),Z9 (.lst S.length),Z9 (.int q.1),Z9 q.2.d,v],a,rfl,?_⟩;cases c:fr q.2 (Yi w.1)with
     |none =>
      rw[c]at k;have hk:Xm w q=Z8:=by unfold Xm;rw[c]
      rw[hk];exact⟨_,a,.inl (eF _ e k),_,_,_,rfl,kp,by simpa using l⟩
     |some u =>
      rw[c]at k;have C:=QZ Z7 u w.1 a;by_cases t:u∈w.1
      .have hk:Xm w q=Z8:=by unfold Xm;rw[c];simp[t]
       rw[hk];refine⟨_,a,.inl (eE _ e k (by simpa[t,iT]using C)),_,_,_,rfl,kp,by simpa using l⟩
      .have hk:Xm w q=Z9 (w.1++[u],w.2++[(q.1:Int)]):=by unfold Xm;rw[c];simp[t]
       have J:=QU p h (w.1++[u],w.2++[(q.1:Int)]) (qF2.mpr ⟨q,qC2 E,hk⟩);obtain⟨m,Y,I,F,U,W⟩:=Br H p G f (w.1++[u],w.2++[(q.1:Int)]) J.1 (by lia) n a;rw[hk]at s ⊢;have o:=F.lst l λz=>z;have R:=ew o W (by rw[qB5]at s;rw[qA1,qA1,YL];exact qC5 s (by decide));refine⟨_,_,.inl (eD _ e k (by simpa[t,iT]using C) (Iu (by lia) a) (Iu (by lia) a) I (PQ l) R),_,_,_,rfl,(kp.trans F.kp).trans (TV _ _),?_⟩;rw[qE2];exact Q8 o)
   refine⟨S.length,P,Zj rfl (eB _ (Iv h.ne S) r V ?_ rfl),?_,qA6 _,?_⟩
   .rw[RW,qA1,MN,YL];lia
   .refine⟨by have:=kp.le;simp at this;lia,λj M _=>?_⟩;rw[kp.eq j (by simp;lia) (by lia),qA8 M]
   .rw[l,QT p h,if_neg r];unfold V7;rw[qF5 (by rw[RW,qA1];exact qA6 _)];rfl
theorem ek(c:ZQ)(f:ZK nd (.int 2) S=.ok a S)(e:c "ways_on" [a,.tup [.int 0],.tup []] S=.ok (.lst k) b)(d:Xe [.lst k] b=.ok r S2):Pq c [Z9 nd] S=.rt r S2:=by simp[Pq,f,e,d]
theorem ej(H:HW cl)(n:Nat)(ok:N.g)(S:ZU)(d:WZ (Vs N.cs w0).length:=by trivial):UQ (cl (n+10) "all_ways" [N.d] S) S ((Vu N).map tD):=by
 have g:N.cs.length<=16:=by have:=ok.c1;lia
 obtain⟨k,h,f,a,b,e⟩:=Br H (ok.in7 (by decide)) g 7 w0 (Iw _) rfl n S;rw[show n+10=(n+2+7)+1 from rfl,H.aw];have c:=eP e d;refine⟨_,_,Zj rfl (ek _ ?_ f c),a.trans (Zf _ _),a.le,Y9 _ _⟩;unfold ZH.d Mx;simp
def wD(w:Wk):D:=.tup [iT w.1,iT w.2]
structure PI(N:ZH)(kf kq:Nat)(S0:ZU)(F:List (yA))(W:List Wk)(S:ZU):Prop where
 kp:Kp (λj=>j=kf∨j=kq) S0 S
 lf:ZA S kf=Z9 (F.map tD)
 lq:ZA S kq=Z9 (W.map wD)
def V6(cs:yN)(C:Int->Bool)(i:Nat):Bool:=match cs[i]? with
 |some c=>C c.a != C c.b
 |none=>Z5
def Zx(cs:yN)(C:Int->Bool):yA:=((List.range cs.length).filter (V6 cs C)).map fun(i:Nat)=>(i:Int)
structure W8(C:Int->Bool):Prop where
 z:C 0=Z7
 o:C 1=Z5
theorem OL{C:Int->Bool}:x∈Zx cs C↔∃(i:Nat) (c:Ct),cs[i]?=Z9 c/\C c.a≠C c.b/\x=(i:Int):=by
 unfold Zx;simp only[qC8,qF1,qI8];constructor
 .rintro⟨i,⟨a,b⟩,rfl⟩;unfold V6 at b;rw[qA9 a]at b;exact⟨i,_,qA9 a,by simpa using b,rfl⟩
 .rintro⟨i,c,d,e,rfl⟩;have a:=(qA5.mp d).1;refine⟨i,⟨a,?_⟩,rfl⟩;unfold V6;rw[d];simpa using e
theorem Ir{C C':Int->Bool}(h:∀x,x∈Zx cs C↔x∈Zx cs C'):Zx cs C=Zx cs C':=by
 unfold Zx;congr 1;apply qN1;intro i f;have q:∀D:Int->Bool,V6 cs D i=Z7↔(i:Int)∈Zx cs D:=λD=>by
  rw[OL];constructor
  .intro a;unfold V6 at a;split at a
   .rename_i c b;exact⟨i,c,b,by simpa using a,rfl⟩
   .cases a
  .rintro⟨j,c,b,d,e⟩;have:i=j:=by omega
   subst this;unfold V6;rw[b];simpa using d
 exact UA ((q C).trans ((h _).trans (q C').symm))
theorem eh{C C':Int->Bool}(h:∀c∈cs,C c.a=C' c.a/\C c.b=C' c.b):Zx cs C=Zx cs C':=by
 apply Ir;intro x;rw[OL,OL];constructor
 .rintro⟨i,c,a,b,e⟩;have:=h c (qC2 a);exact⟨i,c,a,by rw[<- this.1,<- this.2];exact b,e⟩
 .rintro⟨i,c,a,b,e⟩;have:=h c (qC2 a);exact⟨i,c,a,by rw[this.1,this.2];exact b,e⟩
def WC(cs:yN)(l:yA):yN:=((XI cs).filter λq=>decide ((q.1:Int)∉l)).map (·.2)
theorem Iq:c∈WC cs l↔∃i:Nat,cs[i]?=Z9 c/\(i:Int)∉l:=by
 unfold WC;simp only[qC8,qF1,decide_eq_true_eq];constructor
 .rintro⟨q,⟨d,a⟩,rfl⟩;exact⟨q.1,IZ d,a⟩
 .rintro⟨i,b,a⟩;have e:=(qA5.mp b).1;refine⟨(i,c),⟨?_,a⟩,rfl⟩;unfold XI;rw[qO3];exact⟨i,by rw[qE7];exact⟨by simp[e],b⟩⟩
theorem Ip:¬Tf (Yn (WC cs l))↔∃C,W8 C/\∀x∈Zx cs C,x∈l:=by
 constructor
 .intro h;unfold Tf at h;simp only[Classical.not_forall]at h;obtain⟨C,q,o,p⟩:=h;refine⟨λx=>@decide (C x) (Classical.propDecidable _),⟨by simpa using q,by simpa using p⟩,λx m=>?_⟩;obtain⟨i,c,f,j,rfl⟩:=OL.mp m;apply Classical.byContradiction;intro d;have:=o (c.a,c.b) (qC8.mpr ⟨c,Iq.mpr ⟨i,f,d⟩,rfl⟩)
  simp_all
 .rintro⟨C,g,f⟩ k;have:=k (λx=>C x=Z7) g.z λe n=>by obtain⟨c,a,rfl⟩:=qC8.mp n;obtain⟨i,b,d⟩:=Iq.mp a;have:=Classical.byContradiction λj=>d (f _ (OL.mpr ⟨i,c,b,j,rfl⟩));rw[this]
  rw[g.o]at this;cases this
def Uv(cs:yN)(t:yA):Prop:=∀a,W8 a->(∀x∈Zx cs a,x∈t)->Zx cs a=t
theorem eg{C:Int->Bool}(i:W8 C):(∀e∈Zx cs C,Tf (Yn (WC cs ((Zx cs C).filter λx=>decide (x≠e)))))↔Uv cs (Zx cs C):=by
 constructor
 .intro h c b a;apply Ir;intro x;refine⟨a x,λd=>Classical.byContradiction λf=>?_⟩;refine Ip.mpr ⟨c,b,λy j=>?_⟩ (h x d)
  grind
 .intro h e g;apply Classical.byContradiction;intro f;obtain⟨c,b,a⟩:=Ip.mp f;have:=h c b λx d=>(qF1.mp (a x d)).1
  grind
structure RP(cs:yN)(L:List (yA)):Prop where
 nd:L.Nodup
 so:U2 L
 mem:∀t,t∈L↔∃C,W8 C/\t=Zx cs C/\Uv cs t
theorem RP.uniq(h:RP cs L)(h':RP cs L'):L=L':=by have p:=(List.perm_ext_iff_of_nodup h.nd h'.nd).mpr λt=>(h.mem t).trans (h'.mem t).symm;rw[Kx p h.so];exact(Kx (.refl _) h'.so).symm
def X2(a:List (yA))(t:yA):List (yA):=if t∈a then a else a++[t]
theorem Bq:x∈X2 a t↔x∈a∨x=t:=by
 unfold X2;split
 .rename_i h;exact⟨.inl,λq=>q.elim id λe=>e▸h⟩
 .simp
theorem ef(h:a.Nodup):(X2 a t).Nodup:=by
 unfold X2;split
 .exact h
 .rename_i c;rw[qF7];exact⟨h,by simp,λx d y b e=>c (by simp at b;rw[<- b,<- e];exact d)⟩
theorem ee(a:List (yA))(t:yA):(X2 a t).length<=a.length+1:=by unfold X2;split<;>simp
def tK(t:yA):List Zz:=t.map Sum.inl
def XO(a:List (yA)):List (List Zz×D):=a.map λt=>(tK t,D.bl Z7)
def dO(a:List (yA)):O:=if a=[]then .dk []else .dt (XO a)
theorem d0(h:tK a=tK b):a=b:=by exact(qP4 (λx y e=>Sum.inl.inj e)).mp h
theorem dV(b:List (yA))(t:yA):((XO b).any λc=>decide (c.1=tK t))=decide (t∈b):=by
 apply UA;simp only[qR1,decide_eq_true_eq,XO,qC8];constructor
 .rintro⟨c,⟨a,d,rfl⟩,e⟩;have:=d0 e;rw[<- this];exact d
 .intro h;exact⟨_,⟨t,h,rfl⟩,rfl⟩
theorem dz(a:List (yA))(t:yA):Zo (XO a) (tK t) (.bl Z7)=XO (X2 a t):=by
 unfold Zo X2;rw[dV];by_cases h:t∈a
 .simp only[h,decide_true];unfold XO
  simp_all
 .simp[h,XO]
theorem Bp(t:yA):(t.map D.int).mapM WY=Z9 (tK t):=by
 induction t with
 |nil=>rfl
 |cons a t b=>rw[qB2,qF6,b];rfl
theorem dy(h:S[m]?=Z9 (dO a))(f:a.length<lim)(t:yA):Ya (.dct m) (iT t) (.bl Z7) S=Z9 (S.set m (dO (X2 a t))):=by
 unfold Ya iT;dsimp only;have ne:X2 a t≠[]:=λe=>by
  have:t∈X2 a t:=Bq.mpr (.inr rfl)
  simp_all
 have d:dO (X2 a t)=.dt (XO (X2 a t)):=by unfold dO;rw[if_neg ne]
 by_cases c:a=[]
 .subst c;have b:dO []=.dk []:=rfl;unfold N3;rw[h,b];dsimp only;rw[Bp,d];rfl
 .have b:dO a=.dt (XO a):=by unfold dO;rw[if_neg c]
  unfold N3;rw[h,b];dsimp only;rw[Bp];dsimp only;rw[if_pos (by unfold XO;rw[qA1];exact f),dz,d]
theorem Bo:∀b:List (yA),Rr (XO b)=Z9 b
 |[]=>rfl
 |t::b=>by
  have e:(tK t).mapM (λx=>match x with|.inl n=>Z9 n|.inr _=>Z8)=Z9 t:=by
   unfold tK
   induction t with
   |nil=>rfl
   |cons a t f=>rw[qB2,qF6,f];rfl
  show(match (tK t).mapM (λx:Zz=>match x with|.inl n=>Z9 n|.inr _=>Z8),Rr (XO b)with|some d,Z9 c=>Z9 (d::c)| _,_=>Z8)=_;rw[e,Bo b]
theorem dw(h:S[m]?=Z9 (dO a))(c:WZ a.length:=by trivial):Xe [.dct m] S=.ok (.lst S.length) (S++[.lst ((Vi a).map tD)]):=by
 unfold Xe;dsimp only;rw[h];by_cases b:a=[]
 .subst b;rfl
 .have d:dO a=.dt (XO a):=by unfold dO;rw[if_neg b]
  rw[d];dsimp only;rw[Bo];exact if_pos c
def hv:Nat->List (yA)
 |0=>[[0]]
 |k+1=>hv k++(hv k).map (·++[(k:Int)+2])
theorem Io:∀k,(hv k).length=2 ^ k
 |0=>rfl
 |k+1=>by rw[hv,qB5,qA1,Io k,Nat.pow_succ];lia
theorem OK:∀k,∀h∈hv k,(0:Int)∈h/\(1:Int)∉h/\∀x∈h,0<=x/\x<(k:Int)+2
 |0,h,hh=>by simp[hv]at hh;subst hh;exact⟨by simp,by simp,λx d=>by simp at d;omega⟩
 |k+1,h,hh=>by
  rw[hv]at hh;rcases qC3.mp hh with hh|hh
  .obtain⟨a,b,c⟩:=OK k h hh;exact⟨a,b,λx d=>by have:=c x d;omega⟩
  .obtain⟨g,f,rfl⟩:=qC8.mp hh;obtain⟨a,b,c⟩:=OK k g f;refine⟨qD3 _ a,λe=>?_,λx d=>?_⟩
   .rcases qC3.mp e with e|e
    .exact b e
    .have:=qB4.mp e;omega
   .rcases qC3.mp d with d|d
    .have:=c x d;omega
    .have:=qB4.mp d;omega
theorem Bn{C:Int->Bool}(d:W8 C):∀k,∃h∈hv k,∀x,0<=x->x<(k:Int)+2->(decide (x∈h)=C x)
 |0=>by
  refine⟨[0],by simp[hv],λx a g=>?_⟩;have:x=0∨x=1:=by omega
  rcases this with rfl|rfl
  .simp[d.z]
  .simp[d.o]
 |k+1=>by
  obtain⟨h,c,f⟩:=Bn d k;have i:=(OK k h c).2.2;cases e:C ((k:Int)+2)with
  |true =>
   refine⟨h++[(k:Int)+2],by rw[hv];exact qC7 _ (qC8.mpr ⟨h,c,rfl⟩),λx a g=>?_⟩;by_cases b:x=(k:Int)+2
   .subst b;simp[e]
   .rw[<- f x a (by omega)];simp[b]
  |false =>
   refine⟨h,by rw[hv];exact qD3 _ c,λx a g=>?_⟩;by_cases b:x=(k:Int)+2
   .subst b;rw[e];exact decide_eq_false λj=>by have:=i _ j;omega
   .exact f x a (by omega)
theorem Bm{l:yA}(h:ZA S k=Z9 (l.map D.int))(neg:Bool)(a:Int):YA neg (.int a) (.lst k) S=.ok (.bl (if neg then !decide (a∈l)else decide (a∈l))) S:=by rw[<- QZ neg a l S];have e:Sv S (.lst k)=Z9 (l.map D.int):=h;unfold YA;dsimp only;rw[e];rfl
theorem ez{P:Ct->Bool}:∀(l:yN) (s:Nat),(((qL4 s l.length).zip l).filter λq=>P q.2).map (·.1)=(qL4 s l.length).filter (λi=>match l[i - s]? with|some c=>P c|none=>Z5)
 |[],s=>rfl
 |c::l,s=>by
  rw[qB8,List.range'_succ,List.zip_cons_cons,qG6,qG6];have t:((qL4 (s+1) l.length).filter λi=>match (c::l)[i - s]? with|some c=>P c|none=>Z5)=(qL4 (s+1) l.length).filter λi=>match l[i - (s+1)]? with|some c=>P c|none=>Z5:=by apply qN1;intro i b;have:=(List.mem_range'_1.mp b).1;rw[show i - s=(i - (s+1))+1 by lia,qG9]
  have a:=ez (P:=P) l (s+1);simp only[qD8,List.getElem?_cons_zero];cases h:P c with
  |true=>simp only[if_true,qB2];rw[a,t]
  |false=>simp only[qI1,if_false];rw[a,t]
theorem dv(cs:yN)(C:Int->Bool):((XI cs).filter λq=>C q.2.a != C q.2.b).map (λq=>D.int (q.1:Nat))=(Zx cs C).map D.int:=by
 have:=ez (P:=λc=>C c.a != C c.b) cs 0;rw[<- List.range_eq_range']at this;unfold Zx;rw[qC6];have e:((List.range cs.length).filter (V6 cs C))=((XI cs).filter λq=>C q.2.a != C q.2.b).map (·.1):=by unfold XI;rw[this];rfl
 rw[e,qC6];rfl
structure Mv(cl:Nat->ZQ):Prop where
 ch:kE cl
 wi:CW cl
 jb:kC cl
 ib:kz cl
 jo:Q5 cl
 pf:Th cl
 wh:Uz cl
structure Bl(cl:Nat->ZQ):Prop where
 hw:CU cl
 oo:CQ cl
 ab:kv cl
 s:Mv cl
theorem du(c:ZQ){L ZZ:yM}(d:ZA S k=Z9 L)(b:L.length<lim)(e:YS [(k,L)] .one (λ_=>ret Z7) (M1 c) [Z8,Z9 (.int p)] L S=.ok ZZ S)(f:ZI (.lst k) (.lst S.length) (S++[.lst ZZ])=.ok (.lst k2) S2):
  M0 c [Z9 a,Z9 (.lst k),Z9 (.int p)] S=.nx [Z9 a,Z9 (.lst k2),Z9 (.int p)] S2:=by simp[M0,d,e,f,b]
theorem dq(c:ZQ)(g:-4611686018427387904<=pl)(b:pl<4611686018427387904)(d:(pl - 2).toNat=m)(h:(YT 2 m).length<lim)(f:XQ [] (gN 2) (M0 c) (YT 2 m) [Z9 (.int pl),Z9 (.lst S.length),w2] (S++[.lst [.tup [.int 0]]])=.nx B S1)(e:B[1]?=Z9 (Z9 r)):
  Pp c [Z9 (.int pl),a,w2] S=.rt r S1:=by simp[Pp,g,b,d,f,e]
theorem dm(h:CU cl)(n:Nat)(K:2<=pl)(F:pl<=7)(S:ZU):UQ (cl (n+1) "halves_with_start" [.int pl] S) S ((hv (pl - 2).toNat).map tD):=by
 have q:(pl - 2).toNat<=5:=by lia
 obtain⟨m,u⟩:∃m,(pl - 2).toNat=m:=⟨_,rfl⟩
 rw[u]at q ⊢;have z:ZA (S++[O.lst [D.tup [.int 0]]]) S.length=Z9 ((hv 0).map tD):=Y9 S _;obtain⟨G,y,s,k,p,rfl,e,c,b⟩:=UV (g:=gN 2) (items:=YT 2 m)
  (λi B S'=>∃k p,B=[Z9 (.int pl),Z9 (.lst k),p]/\Ex S S'/\S.length<=k/\ZA S' k=Z9 ((hv i).map tD))
  (λ_ _ _ _=>XP _) ⟨S.length,Z8,rfl,Zf _ _,qA6 _,z⟩
  (λi d B S' l w=>by
   obtain⟨k,p,rfl,e,c,b⟩:=w;unfold YT at l;rw[qB6]at l;obtain⟨j,H,rfl⟩:=qA4.mp l;have r:j=i/\i<m:=by
    grind
   obtain⟨rfl,E⟩:=r;have v:(hv j).length<=32:=by rw[Io];exact qC5 (qE5 (by lia) (show j<=5 by lia)) (by decide)
   have s:YS [(k,(hv j).map tD)] .one (λ_=>ret Z7) (M1 (cl n)) [Z8,Z9 (.int (2+j))] ((hv j).map tD) S'=.ok ((hv j).map λg=>tD (g++[(j:Int)+2])) S' :=
    V8 tD (Vd b) _ (hv j) λg J=>⟨[Z9 (tD g),Z9 (.int (2+j))],rfl,by
     have o:g.length<=100:=by
      have:∀k,∀h∈hv k,h.length<=k+1:=by
       intro k
       induction k with
       |zero=>intro h f;simp[hv]at f;subst f;simp
       |succ k I =>
        intro h f;rw[hv]at f
        grind
      grind
     have a:=Iu (x:=j+2) o S';rw[Int.add_comm j 2]at a;have A:ZI (tD g) (.tup [.int (2+j)]) S'=.ok (tD (g++[2+(j:Int)])) S':=a;rw[Int.add_comm j 2];simp[M1,A]⟩
   have C:=PN (UW b) (Y9 S' ((hv j).map λg=>tD (g++[(j:Int)+2]))) (by rw[qA1,qA1,YL];lia);refine⟨[Z9 (.int pl),Z9 (.lst k),Z9 (.int (2+j))],S',rfl,_,_,.inl (du _ b (by rw[qA1,YL];lia) s C),_,_,rfl,(e.trans (Zf _ _)).trans (Zf _ _),?_,?_⟩
   .have:=e.le;simp;lia
   .rw[Y9,hv,qE2,qC6];rfl)
 have t:(YT 2 m).length=m:=by simp[YT]
 rw[t]at b;refine⟨k,y,?_,e,c,b⟩;rw[h];exact Zj rfl (dq _ (by lia) (by lia) u (by rw[t,YL];lia) s rfl)
theorem dj(c:ZQ){xs ZZ:yM}(e:ZK nd (.int 2) S=.ok (.tup xs) S)(b:(WT xs).length<lim)(d:YS [] (.many 2) (MZ c) (MY c) [Z8,Z8,Z9 a] (WT xs) S=.ok ZZ S):Po c [Z9 nd,Z9 a] S=.rt (.tup ZZ) (S++[.lst ZZ]):=by have f:=UB (Y9 S ZZ);simp[Po,e,b,d,f]
theorem Im{N:ZH}(S:ZU):ZK N.d (.int 2) S=.ok (.tup (N.cs.map Ct.d)) S:=by unfold ZH.d;simp
theorem dh(h:CQ cl)(n:Nat){N:ZH}(e:N.cs.length<=16)(g:yA)(S:ZU):Yr (cl (n+1) "out_of" [N.d,tD g] S) (tD (Zx N.cs λx=>decide (x∈g))) S:=by
 have a:YS [] (.many 2) (MZ (cl n)) (MY (cl n)) [Z8,Z8,Z9 (tD g)] ((XI N.cs).map λq=>.tup [.int q.1,q.2.d]) S=.ok (((XI N.cs).filter λq=>decide (q.2.a∈g) != decide (q.2.b∈g)).map λq=>D.int q.1) S:=by
  refine Q7 (λq:Nat×Ct=>.tup [.int q.1,q.2.d]) (XP S) _ _ _ λq d=>⟨_,rfl,?_,λ_=>?_⟩
  .have b:YA Z5 (.int q.2.a) (tD g) S=.ok (.bl (decide (q.2.a∈g))) S:=QZ Z5 q.2.a g S;have c:YA Z5 (.int q.2.b) (tD g) S=.ok (.bl (decide (q.2.b∈g))) S:=QZ Z5 q.2.b g S;simp[MZ,Si,Ct.d,b,c]
  .simp[MY,Si]
 rw[dv N.cs λx=>decide (x∈g)]at a;refine⟨S++[.lst ((Zx N.cs λx=>decide (x∈g)).map D.int)],?_,Zf S _⟩;rw[h];exact Zj rfl (dj _ (Im S) (by rw[RW,qA1,MN,YL];lia) (by rw[RW];exact a))
theorem dg(c:ZQ){xs ZZ:yM}(f:ZK nd (.int 2) S=.ok (.tup xs) S)(b:(WT xs).length<lim)(e:YS [] (.many 2) (M4 c) (M3 c) [Z8,Z8,Z9 a] (WT xs) S=.ok ZZ S)(d:c "joins" [.lst S.length] (S++[.lst ZZ])=.ok r S1):Pt c [Z9 nd,Z9 a] S=.rt r S1:=by simp[Pt,f,b,e,d]
theorem Bk(H:Mv cl)(n:Nat){N:ZH}(ok:N.g)(b:∀x:Int,YA Z7 (.int x) a S=.ok (.bl (!decide (x∈l))) S):Yr (cl (n+3) "join_beside" [N.d,a] S) (.bl (jB (Yn (WC N.cs l)))) S:=by
 have r:N.cs.length<=16:=by have:=ok.c1;lia
 have e:YS [] (.many 2) (M4 (cl (n+2))) (M3 (cl (n+2))) [Z8,Z8,Z9 a] ((XI N.cs).map λq=>.tup [.int q.1,q.2.d]) S=.ok (((XI N.cs).filter λq=>!decide (q.1∈l)).map λq=>q.2.d) S:=by
  refine Q7 (λq:Nat×Ct=>.tup [.int q.1,q.2.d]) (XP S) _ _ _ λq p=>⟨_,rfl,?_,λ_=>?_⟩
  .have:=b q.1;simp[M4,Si,this]
  .simp[M3,Si]
 have h:((XI N.cs).filter λq=>!decide (q.1∈l)).map (λq=>q.2.d)=(WC N.cs l).map Ct.d:=by
  unfold WC;rw[qC6];congr 1
  grind
 rw[h]at e;have m:(WC N.cs l).length<=100:=by unfold WC;rw[qA1];refine qC5 (qG3 ..) ?_;rw[MN];lia
 have g:Wp (WC N.cs l):=λc d=>by obtain⟨i,j,_⟩:=Iq.mp d;exact ok.in7 (by decide) c (qC2 j)
 obtain⟨o,f,k⟩:=Cq H.jo H.pf n (WC N.cs l) m g (Y9 S ((WC N.cs l).map Ct.d));refine⟨o,?_,(Zf S _).trans k⟩;rw[show n+3=(n+2)+1 from rfl,H.jb];exact Zj rfl (dg _ (Im S) (by rw[RW,qA1,MN,YL];lia) (by rw[RW];exact e) f)
theorem df(h:CW cl)(n:Nat)(f:t.length<=100)(e:Int)(S:ZU):cl (n+1) "without" [tD t,.int e] S=.ok (.lst S.length) (S++[.lst ((t.filter λx=>decide (x≠e)).map D.int)]):=by
 have b:YS [] .one (Jn (cl n)) (Jm (cl n)) [Z8,Z9 (.int e)] (t.map D.int) S=.ok ((t.filter λx=>decide (x≠e)).map D.int) S:=by
  refine Q7 D.int (XP S) _ _ _ λx d=>⟨_,rfl,?_,λ_=>?_⟩
  .simp[Jn]
  .simp[Jm]
 rw[h];refine Zj rfl ?_;have c:(t.map D.int).length<lim:=by rw[qA1,YL];lia
 have a:t.length<lim:=by rw[YL];lia
 simp[M5,YY,tD,b,a]
def lB(cs:yN)(t:yA):Bool:=@decide (Uv cs t) (Classical.propDecidable _)
theorem Il:lB cs t=Z7↔Uv cs t:=@decide_eq_true_iff _ (Classical.propDecidable _)
theorem Bj{b:Type}(f:b->Bool):∀l:List b,Wa (l.map λd=>D.bl (f d))=Z9 (l.map f)
 |[]=>rfl
 |a::l=>by show(Wa (l.map λd=>D.bl (f d))).map _=_;rw[Bj f l];rfl
theorem Bi{a:Type}(g:List Bool->Bool)(f:a->Bool)(l:List a)(h:ZA S n=Z9 (l.map λd=>D.bl (f d))):Xz g [.lst n] S=.ok (.bl (g (l.map f))) S:=by unfold Xz;dsimp only;rw[h];show(match Wa (l.map λd=>D.bl (f d))with|some bs=>R.ok (D.bl (g bs)) S|none=>.bad)=_;rw[Bj]
theorem Bh{C:Int->Bool}:(Zx cs C).length<=cs.length:=by unfold Zx;rw[qA1];exact qC5 (qG3 ..) (by simp)
theorem de{C:Int->Bool}:(((List.range cs.length).map fun(i:Nat)=>(i:Int)).filter λx=>decide (x∈Zx cs C))=Zx cs C:=by
 rw[List.filter_map];congr 1;apply qN1;unfold Zx
 grind
theorem da(c:ZQ){a xs ZZ bs:yM}(n:a.length<lim)(r:YS [] .one (λ_=>ret Z7) (M6 c) [Z8] a S=.ok bs S)(l:S++[.lst bs]=b)(i:Xz (λbs=>bs.all id) [.lst S.length] b=.ok (.bl Z7) b)
  (o:b++[.lst a]=d) (k:∀S,ZK nd (.int 2) S=.ok (.tup xs) S) (h:∀S,Zv [.tup xs] S=.ok (.int z) S) (hz:z.toNat=m) (p:-4611686018427387904<=z) (j:z<4611686018427387904) (g:(YT 0 m).length<lim)
  (e:YS [] .one (Pw c) (Pv c) [Z8,Z9 (.tup a)] (YT 0 m) d=.ok ZZ d) (f:d++[.lst ZZ]=S3) (q:Zl (.lst b.length) (.lst d.length) S3=.ok (.bl Z7) S3) :
  Pu c [Z9 nd,Z9 (.tup a)] S=.rt (.bl Z7) S3:=by simp[Pu,n,r,l,i,o,k,h,hz,p,j,g,e,f,q]
theorem cZ(H:Mv cl)(n:Nat){N:ZH}(y:N.cs.length<=16)(C:Int->Bool)(S:ZU):Yr (cl (n+2) "is_choice" [N.d,tD (Zx N.cs C)] S) (.bl Z7) S:=by
 have o:=Bh (cs:=N.cs) (C:=C);obtain⟨t,r⟩:∃t,Zx N.cs C=t:=⟨_,rfl⟩
 have a:=de (cs:=N.cs) (C:=C);rw[r]at o a ⊢;have w:YS [] .one (λ_=>ret Z7) (M6 (cl (n+1))) [Z8] (t.map D.int) S=.ok (t.map λ_=>D.bl Z7) S:=by
  refine V8 D.int (XP S) _ t λx u=>⟨_,rfl,?_⟩
  have:=Q0 H.wh n (d:=.int x) rfl S;simp[M6,this,VW]
 have g:=Bi (λbs=>bs.all id) (λ_:Int=>Z7) t (Y9 S _);rw[show(t.map λ_=>Z7).all id=Z7 by simp]at g;have m:∀S:ZU,YS [] .one (Pw (cl (n+1))) (Pv (cl (n+1))) [Z8,Z9 (.tup (t.map D.int))] (YT 0 N.cs.length) S=.ok (t.map D.int) S:=λS=>by
  have p:YT 0 N.cs.length=((List.range N.cs.length).map fun(i:Nat)=>(i:Int)).map D.int:=by rw[qC6];apply qF9;intro k _;simp
  have e:YS [] .one (Pw (cl (n+1))) (Pv (cl (n+1))) [Z8,Z9 (.tup (t.map D.int))] (((List.range N.cs.length).map fun(i:Nat)=>(i:Int)).map D.int) S=.ok ((((List.range N.cs.length).map fun(i:Nat)=>(i:Int)).filter λx=>decide (x∈t)).map D.int) S:=by
   refine Q7 D.int (XP S) _ _ _ λx u=>⟨_,rfl,?_,λ_=>?_⟩
   .have:=QZ Z5 x t S;simp[Pw,this]
   .simp[Pv]
  rw[p,e,a]
 obtain⟨S1,h⟩:∃S1,S++[O.lst (t.map λ_=>D.bl Z7)]=S1:=⟨_,rfl⟩
 obtain⟨S2,j⟩:∃S2,S1++[O.lst (t.map D.int)]=S2:=⟨_,rfl⟩
 obtain⟨S3,c⟩:∃S3,S2++[O.lst (t.map D.int)]=S3:=⟨_,rfl⟩
 have v:ZA S2 S1.length=Z9 (t.map D.int):=by rw[<- j];exact Y9 _ _
 have f:ZA S3 S1.length=Z9 (t.map D.int):=by rw[<- c];exact UW v
 have l:ZA S3 S2.length=Z9 (t.map D.int):=by rw[<- c];exact Y9 _ _
 have q:=kO f l (qD0.mpr (De (by lia) t)) (qD0.mpr (De (by lia) t));rw[show R7 (t.map D.int) (t.map D.int)=Z7 from Q6.mpr rfl]at q;rw[h]at g;have b:t.length<lim:=by rw[YL];lia
 have x:Ex S S3:=by rw[<- c,<- j,<- h];exact((Zf S _).trans (Zf _ _)).trans (Zf _ _)
 refine⟨S3,?_,x⟩;rw[show n+2=(n+1)+1 from rfl,H.ch];obtain⟨z,s⟩:∃z:Int,N.cs.length=z:=⟨_,rfl⟩
 exact Zj rfl (da (z:=z) _ (by rw[qA1];exact b) w h g j (λS=>Im S) (λS=>by rw[<- s];show R.ok (D.int ((N.cs.map Ct.d).length:Nat)) S=_;rw[qA1]) (by lia) (by lia) (by lia) (by rw[show(YT 0 N.cs.length).length=N.cs.length by simp[YT],YL];lia) (m _) c q)
theorem cY(c:ZQ){a ZZ:yM}(k:c "is_choice" [nd,.tup a] S=.ok (.bl Z7) e)(j:c "join_beside" [nd,.tup a] e=.ok (.bl Z5) f)(i:a.length<lim)(h:YS [] .one (λ_=>ret Z7) (M2 c) [Z8,Z9 nd,Z9 (.tup a)] a f=.ok ZZ d)
  (g:Xz (λbs=>bs.all id) [.lst d.length] (d++[.lst ZZ])=.ok (.bl b) (d++[.lst ZZ])):Pr c [Z9 nd,Z9 (.tup a)] S=.rt (.bl b) (d++[.lst ZZ]):=by simp[Pr,k,j,i,h,g]
theorem cX(c:ZQ)(w:c "without" [b,.int e] S=.ok (.lst k) a)(d:c "join_beside" [nd,.lst k] a=.ok r S2):M2 c [Z9 (.int e),Z9 nd,Z9 b] S=.ok r S2:=by simp[M2,w,d]
theorem cW(H:Mv cl)(n:Nat){N:ZH}(ok:N.g){C:Int->Bool}(d:W8 C)(S:ZU):Yr (cl (n+4) "is_bar" [N.d,tD (Zx N.cs C)] S) (.bl (lB N.cs (Zx N.cs C))) S:=by
 have B:N.cs.length<=16:=by have:=ok.c1;lia
 have m:=Bh (cs:=N.cs) (C:=C);obtain⟨u,h,r⟩:=cZ H (n+1) B C S;obtain⟨A,b,y⟩:=Bk H n ok λx=>QZ Z7 x _ u;have v:jB (Yn (WC N.cs (Zx N.cs C)))=Z5:=by
  cases q:jB (Yn (WC N.cs (Zx N.cs C)))with
  |false=>rfl
  |true=>exact absurd (OY.mp q) (Ip.mpr ⟨C,d,λx c=>c⟩)
 rw[v]at b;have i:=eg (cs:=N.cs) d;obtain⟨t,o⟩:∃t,Zx N.cs C=t:=⟨_,rfl⟩
 rw[o]at h b m i ⊢;obtain⟨g,j,p⟩:=PP D.int (t:=.one) (B0:=[Z8,Z9 N.d,Z9 (.tup (t.map D.int))]) (λa=>Ex A a) (λ_ _=>XP _)
  (λe=>D.bl (jB (Yn (WC N.cs (t.filter λx=>decide (x≠e)))))) t (Kp.refl _ _) (λe E a c=>by
   refine⟨[Z9 (.int e),Z9 N.d,Z9 (.tup (t.map D.int))],rfl,?_⟩;have w:=df H.wi (n+2) (t:=t) (by lia) e a;obtain⟨z,k,l⟩:=Bk H n ok λx=>Bm (Y9 a _) Z7 x;refine⟨z,?_,(c.trans (Zf _ _)).trans l⟩;exact cX _ w k)
 have f:=Bi (λbs=>bs.all id) (λe:Int=>jB (Yn (WC N.cs (t.filter λx=>decide (x≠e))))) t (Y9 g _);have s:(t.map λe:Int=>jB (Yn (WC N.cs (t.filter λx=>decide (x≠e))))).all id=lB N.cs t:=by apply UA;rw[Il,<- i];simp only[qI0,qD0,Function.comp,_root_.id,OY]
 rw[s]at f;refine⟨g++[.lst (t.map λe=>D.bl (jB (Yn (WC N.cs (t.filter λx=>decide (x≠e))))))],?_,((r.trans y).trans p).trans (Zf _ _)⟩;rw[show n+4=(n+3)+1 from rfl,H.ib];exact Zj rfl (cY _ h b (by rw[qA1,YL];lia) j f)
theorem cV(c:ZQ)(f:c "out_of" [nd,b] S=.ok a d)(e:c "is_bar" [nd,a] d=.ok (.bl Z5) S2):RZ c [Z9 nd,Z9 (.dct m),Z9 b,w] S=.nx [Z9 nd,Z9 (.dct m),Z9 b,Z9 a] S2:=by simp[RZ,f,e]
theorem cU(c:ZQ)(h:c "out_of" [nd,b] S=.ok a d)(f:c "is_bar" [nd,a] d=.ok (.bl Z7) e)(g:Ya (.dct m) a (.bl Z7) e=Z9 S3):RZ c [Z9 nd,Z9 (.dct m),Z9 b,w] S=.nx [Z9 nd,Z9 (.dct m),Z9 b,Z9 a] S3:=by simp[RZ,h,f,g]
theorem cS(c:ZQ){L:yM}(h:∀S,ZK nd (.int 1) S=.ok (.int pl) S)(j:c "halves_with_start" [.int pl] (S++[.dk []])=.ok (.lst k) a)(i:ZA a k=Z9 L)(l:L.length<lim)
  (d:XQ [(k,L)] (gN 2) (RZ c) L [Z9 nd,Z9 (.dct S.length),w2,w3] a=.nx [Z9 nd,Z9 (.dct S.length),f,v3] b) (g:Xe [.dct S.length] b=.ok r S3):Pn c [Z9 nd,e,w2,w3] S=.rt r S3:=by simp[Pn,h,j,i,d,g]
theorem Bg(H:Bl cl)(n:Nat){N:ZH}(ok:N.g)(S:ZU):∃L,RP N.cs L/\L.length<=32/\UQ (cl (n+5) "all_bars" [N.d] S) S (L.map tD):=by
 have hc:N.cs.length<=16:=by have:=ok.c1;lia
 have p1:=ok.p1;have p2:=ok.p2;obtain⟨m,hm⟩:∃m,(N.pl - 2).toNat=m:=⟨_,rfl⟩
 obtain⟨k,X,e1,y,M,T⟩:=dm H.hw (n+3) p1 p2 (S++[.dk []]);rw[hm]at T;have Y:(hv m).length<=32:=by rw[Io];exact qC5 (qE5 (by lia) (show m<=5 by lia)) (by decide)
 have O:k≠S.length:=by simp at M;lia
 have d1:X[S.length]?=Z9 (dO []):=y.at (by rw[qA2 (qA6 _)];simp[dO]) λz=>z;obtain⟨B',Z,e2,K,w,a,rfl,kp,d2,A,R,e⟩:=UV (g:=gN 2) (b:=RZ (cl (n+4)))
  (λi B p=>∃K w a,B=[Z9 N.d,Z9 (.dct S.length),K,w]/\Kp (·=S.length) X p/\p[S.length]?=Z9 (dO a)/\a.Nodup/\a.length<=i/\∀t,t∈a↔∃g∈(hv m).take i,t=Zx N.cs (λx=>decide (x∈g))/\Uv N.cs t)
  (λi B p P=>by obtain⟨_,_,_,_,kp,_⟩:=P;exact Vd (kp.lst T O)) ⟨Z8,Z8,[],rfl,Kp.refl _ _,d1,qO7,qA6 _,λt=>by simp⟩
  (λi d B p U P=>by
   obtain⟨K,w,a,rfl,kp,dd,W,ln,mem⟩:=P;rw[qB6]at U;obtain⟨g,o,rfl⟩:=qA4.mp U;have s:=OK m g (qC2 o);have him:=by have:=(qA5.mp o).1;omega
   have F:W8 λx=>decide (x∈g):=⟨decide_eq_true s.1,decide_eq_false s.2.1⟩
   obtain⟨S3,V,J⟩:=dh H.oo (n+3) hc g p;obtain⟨S4,v,G⟩:=cW H.s n ok F S3;have tk:(hv m).take (i+1)=(hv m).take i++[g]:=by rw[qN0,o];rfl
   have Q:=G.at (J.at dd λz=>z) λz=>z;refine⟨[Z9 N.d,Z9 (.dct S.length),Z9 (tD g),w],p,rfl,?_⟩;rw[tk];cases u:lB N.cs (Zx N.cs λx=>decide (x∈g))with
   |false =>
    rw[u]at v;have nl:¬Uv N.cs (Zx N.cs λx=>decide (x∈g)):=λh=>by rw[Il.mpr h]at u;cases u
    refine⟨_,S4,.inl (cV _ V v),_,_,a,rfl,kp.trans (J.trans G).kp,Q,W,by lia,λt=>?_⟩
    simp_all
   |true =>
    rw[u]at v;have hL:=Il.mp u;have s1:=dy Q (by rw[YL];omega) (Zx N.cs λx=>decide (x∈g));have D:=(qA5.mp Q).1;refine⟨_,_,.inl (cU _ V v s1),_,_,X2 a (Zx N.cs λx=>decide (x∈g)),rfl,(kp.trans (J.trans G).kp).trans (TV _ _),qD4 D,ef W,by have:=ee a (Zx N.cs λx=>decide (x∈g));lia,λt=>?_⟩;rw[Bq,mem];constructor
    .rintro(⟨h,l,q⟩| rfl)
     .exact⟨h,qD3 _ l,q⟩
     .grind
    .rintro⟨h,l,f,r⟩;rcases qC3.mp l with l|l
     .exact .inl ⟨h,l,f,r⟩
     .rw[qB4.mp l]at f;exact .inr f)
 rw[qA1]at R e;rw[qK9]at e;have f1:=dw d2 (by first|trivial|(show _<64;lia));have I:=Rt a;refine⟨Vi a,⟨I.symm.nodup A,Ky a,λt=>?_⟩,by rw[I.length_eq];lia,Z.length,Z++[.lst ((Vi a).map tD)],?_,?_,?_,Y9 _ _⟩
 .rw[I.mem_iff,e];constructor
  .rintro⟨g,o,f,r⟩;have s:=OK m g o;exact⟨_,⟨decide_eq_true s.1,decide_eq_false s.2.1⟩,f,r⟩
  .rintro⟨C,F,f,r⟩;obtain⟨g,o,hgc⟩:=Bn F m;refine⟨g,o,?_,r⟩;rw[f];refine eh λc E=>?_;obtain⟨a0,ab,bp,_⟩:=ok.c2 c E
   grind
 .rw[show n+5=(n+4)+1 from rfl,H.ab];exact Zj rfl (cS _ (λS=>by unfold ZH.d;simp) e1 T (by rw[qA1,YL];lia) e2 f1)
 .refine Kp.trans ⟨?_,λj hj _=>?_⟩ (Zf _ _)
  .have:=kp.le;have:=y.le;simp at this;lia
  .rw[kp.eq j (by have:=y.le;simp at this;lia) (by lia),y.eq j (by simp;lia) (λz=>z),qA8 hj]
 .grind
theorem YX(h:decide (a=b)=r)(S:ZU):Zl (.str a) (.str b) S=.ok (.bl r) S:=by show R.ok (D.bl (decide (a=b))) S=_;rw[h]
section
variable (c:ZQ) {v:Str}{t:Nat}{d a b:D}{S S1:ZU}
theorem Ik(q:Zl (.str v) (.str (Str.ofString "net")) S=.ok (.bl Z7) S)(i:ZK (.dct t) (.str (Str.ofString "TEXT")) S=.ok d S):Vz c [Z9 (.str v),Z9 (.dct t)] S=.rt d S:=by simp[Vz,q,i]
theorem Ij(q:Zl (.str v) (.str (Str.ofString "net")) S=.ok (.bl Z5) S)(f:Zl (.str v) (.str (Str.ofString "row")) S=.ok (.bl Z7) S)(i:ZK (.dct t) (.str (Str.ofString "A")) S=.ok a S)(j:ZK (.dct t) (.str (Str.ofString "B")) S=.ok b S)(e:c "in_row" [a,b] S=.ok d S1):Vz c [Z9 (.str v),Z9 (.dct t)] S=.rt d S1:=by simp[Vz,q,f,i,j,e]
theorem Ii(q:Zl (.str v) (.str (Str.ofString "net")) S=.ok (.bl Z5) S)(g:Zl (.str v) (.str (Str.ofString "row")) S=.ok (.bl Z5) S)(f:Zl (.str v) (.str (Str.ofString "side")) S=.ok (.bl Z7) S)(i:ZK (.dct t) (.str (Str.ofString "A")) S=.ok a S)(j:ZK (.dct t) (.str (Str.ofString "B")) S=.ok b S)(e:c "side_by_side" [a,b] S=.ok d S1):Vz c [Z9 (.str v),Z9 (.dct t)] S=.rt d S1:=by simp[Vz,q,g,f,i,j,e]
theorem Ih(q:Zl (.str v) (.str (Str.ofString "net")) S=.ok (.bl Z5) S)(h:Zl (.str v) (.str (Str.ofString "row")) S=.ok (.bl Z5) S)(g:Zl (.str v) (.str (Str.ofString "side")) S=.ok (.bl Z5) S)(f:Zl (.str v) (.str (Str.ofString "about")) S=.ok (.bl Z7) S)(i:ZK (.dct t) (.str (Str.ofString "A")) S=.ok a S)(e:c "about" [a] S=.ok d S1):Vz c [Z9 (.str v),Z9 (.dct t)] S=.rt d S1:=by simp[Vz,q,h,g,f,i,e]
theorem Ig(q:Zl (.str v) (.str (Str.ofString "net")) S=.ok (.bl Z5) S)(j:Zl (.str v) (.str (Str.ofString "row")) S=.ok (.bl Z5) S)(h:Zl (.str v) (.str (Str.ofString "side")) S=.ok (.bl Z5) S)(f:Zl (.str v) (.str (Str.ofString "about")) S=.ok (.bl Z5) S)(k:Zl (.str v) (.str (Str.ofString "cut")) S=.ok (.bl Z5) S)(g:Zl (.str v) (.str (Str.ofString "bridge")) S=.ok (.bl Z5) S)(i:ZK (.dct t) (.str (Str.ofString "A")) S=.ok a S)(e:c "trimmed" [a] S=.ok d S1):Vz c [Z9 (.str v),Z9 (.dct t)] S=.rt d S1:=by simp[Vz,q,j,h,f,k,g,i,e]
theorem Ie(q:YA Z5 (.str (Str.ofString "S")) (.dct t) S=.ok (.bl Z7) S)(i:ZK (.dct t) (.str (Str.ofString "A")) S=.ok a S)(j:ZK (.dct t) (.str (Str.ofString "S")) S=.ok b S)(e:c "answer_at" [.str v,a,b] S=.ok d S1):TN c [Z9 (.str v),Z9 (.dct t)] S=.rt d S1:=by simp[TN,q,i,j,e]
theorem Ic(q:YA Z5 (.str (Str.ofString "S")) (.dct t) S=.ok (.bl Z5) S)(f:YA Z5 (.str (Str.ofString "B")) (.dct t) S=.ok (.bl Z7) S)(i:ZK (.dct t) (.str (Str.ofString "A")) S=.ok a S)(j:ZK (.dct t) (.str (Str.ofString "B")) S=.ok b S)(e:c "alike_answer" [a,b] S=.ok d S1):TN c [Z9 (.str v),Z9 (.dct t)] S=.rt d S1:=by simp[TN,q,f,i,j,e]
theorem Ib(q:YA Z5 (.str (Str.ofString "S")) (.dct t) S=.ok (.bl Z5) S)(f:YA Z5 (.str (Str.ofString "B")) (.dct t) S=.ok (.bl Z5) S)(i:ZK (.dct t) (.str (Str.ofString "A")) S=.ok a S)(e:c "answer_of" [.str v,a] S=.ok d S1):TN c [Z9 (.str v),Z9 (.dct t)] S=.rt d S1:=by simp[TN,q,f,i,e]
theorem cR(q:Zl (.str v) (.str (Str.ofString "show")) S=.ok (.bl Z7) S)(e:c "net_text" [a] S=.ok d S1):UU c [Z9 (.str v),Z9 a] S=.rt d S1:=by simp[UU,q,e]
theorem cQ(q:Zl (.str v) (.str (Str.ofString "show")) S=.ok (.bl Z5) S)(g:Zl (.str v) (.str (Str.ofString "function")) S=.ok (.bl Z7) S)(e:c "function_of" [a] S=.ok b S1)(f:c "bits_text" [b] S1=.ok d S2):UU c [Z9 (.str v),Z9 a] S=.rt d S2:=by simp[UU,q,g,e,f]
theorem cP{X:yM}(q:Zl (.str v) (.str (Str.ofString "show")) S=.ok (.bl Z5) S)(h:Zl (.str v) (.str (Str.ofString "function")) S=.ok (.bl Z5) S)(g:Zl (.str v) (.str (Str.ofString "fewest")) S=.ok (.bl Z5) S)(f:Zl (.str v) (.str (Str.ofString "ways")) S=.ok (.bl Z7) S)(e:c "all_ways" [a] S=.ok (.lst k) S1)(l:Zv [.lst k] S1=.ok (.int X.length) S1)(s:Xp [.int X.length] S1=.ok d S1):UU c [Z9 (.str v),Z9 a] S=.rt d S1:=by simp[UU,q,h,g,f,e,l,s]
theorem cO{X:yM}(q:Zl (.str v) (.str (Str.ofString "show")) S=.ok (.bl Z5) S)(h:Zl (.str v) (.str (Str.ofString "function")) S=.ok (.bl Z5) S)(g:Zl (.str v) (.str (Str.ofString "fewest")) S=.ok (.bl Z5) S)(f:Zl (.str v) (.str (Str.ofString "ways")) S=.ok (.bl Z5) S)(e:c "all_bars" [a] S=.ok (.lst k) S1)(l:Zv [.lst k] S1=.ok (.int X.length) S1)(s:Xp [.int X.length] S1=.ok d S1):UU c [Z9 (.str v),Z9 a] S=.rt d S1:=by simp[UU,q,h,g,f,e,l,s]
theorem cN{bb:Bool}(f:r=if bb then Str.ofString "yes" else Str.ofString "no")(q:Zl (.str v) (.str (Str.ofString "lets")) S=.ok (.bl Z7) S)(e:c "lets" [a,b] S=.ok (.bl bb) S1):Pi c [Z9 (.str v),Z9 a,Z9 b] S=.rt (.str r) S1:=by cases bb<;>simp[Pi,q,e,f]
theorem cM(e:c "first_unlike" [a,b] S=.ok .non S1):Ph c [Z9 a,Z9 b,Z8] S=.rt (.str (Str.ofString "same")) S1:=by simp[Ph,e,D.isNon]
end
theorem Bf(h:C0 cl)(n:Nat)(a:∀i∈l,0<=i/\i<10)(e:l.length<=100)(S:ZU):Yr (cl (n+1) "bits_text" [YC l] S) (.str (Xb l)) S:=by
 have c:(l.map D.int).length<lim:=by rw[qA1,YL];lia
 have d:YS [] .one (λ_=>ret Z7) (M9 (cl n)) [Z8] (l.map D.int) S=.ok ((l.map λi=>Yq i.toNat).map D.str) S:=by rw[qC6];exact V8 D.int (XP S) _ l λi b=>⟨_,rfl,by simp[M9,iW (a i b).1 (a i b).2]⟩
 have j:VE (.str (Str.ofString "")) [.lst S.length] (S++[O.lst ((l.map λi=>Yq i.toNat).map D.str)])=.ok (.str (Xb l)) (S++[O.lst ((l.map λi=>Yq i.toNat).map D.str)]):=by rw[IS (Y9 _ _) (Cc ?_)];rfl;rw[iN,show(Str.ofString "").length=0 from rfl];lia
 exact⟨S++[O.lst ((l.map λi=>Yq i.toNat).map D.str)],by rw[h];exact Zj rfl (iO _ c d j),Zf _ _⟩
structure HZ(cl:Nat->ZQ):Prop where
 dn:UT cl
 rd:MI cl
 mm:HM cl
 ir:C8 cl
 nw:Nh cl
 ss:C7 cl
 ab:C6 cl
 ti:HI cl
 tr:C2 cl
 bt:C0 cl
 hw:HW cl
 hb:Bl cl
 sr:CP cl
inductive QS(r:R D)(i:Nat)(S:ZU)(kept:KD):Prop
 |mk (S':ZU) (e:r=.ok (.str (Str.ofString "ok")) S') (k:Kp (·=i) S S') (d:S'[i]?=Z9 (.dk kept))
section
variable {n i x y o:Nat}{kept:KD}{z:Str}{S:ZU}{N M:ZH}
theorem Ia(H:HZ cl)(m:Nm c)(ok:N.g)(hk:S[i]?=Z9 (.dk kept))(f:kept.length<100):QS (cl (n+32) "Desk.say" [.ob i,.str (Ze c++X9 N)] S) i S (Zo kept (.inr (sg c)) N.d):=by
 obtain⟨b,e,k,d⟩:=OM H.dn (gW H.dn H.rd m ok) hk f (by decide) (QW _ _).2.2.2.1 λt a d=>⟨a,by
  rw[H.dn.nm];exact Zj rfl (Ik _ (YX (by decide) a) (WS d "TEXT" (QW _ _).2.2.2.2)),Kp.refl _ _⟩
 exact⟨b,e,k,d⟩
theorem cL(H:HZ cl)(s:Nm x)(r:Nm y)(mo:Nm o)(w:Xa cl z [Str.ofString "row",sg x,sg y,sg o])(f:N.g)(c:M.g)(g:(N.row M).g)(u:N.sw=M.sw)(a:tv kept (sg x)=Z9 N.d)(b:tv kept (sg y)=Z9 M.d)(hk:S[i]?=Z9 (.dk kept))(m:kept.length<100):
  QS (cl (n+32) "Desk.say" [.ob i,.str z] S) i S (Zo kept (.inr (sg o)) (N.row M).d):=by
 obtain⟨j,e,k,d⟩:=OM H.dn (BM H.dn s r mo w (by kernel_rfl) a b u) hk m (by decide) (US _ _ _).2.2.2 (nd:=(N.row M).d) λt h d=>by obtain⟨q,l,p⟩:=fb H.ir H.nw H.mm (n+27) f c g h;refine⟨q,?_,p⟩;rw[H.dn.nm];exact Zj rfl (Ij _ (YX (by decide) h) (YX (by decide) h) (WS d "A" (US _ _ _).1) (WS d "B" (US _ _ _).2.1) l)
 exact⟨j,e,k,d⟩
theorem cK(H:HZ cl)(s:Nm x)(r:Nm y)(mo:Nm o)(w:Xa cl z [Str.ofString "side",sg x,sg y,sg o])(g:N.g)(f:M.g)(h:(N.side M).g)(u:N.sw=M.sw)(a:tv kept (sg x)=Z9 N.d)(b:tv kept (sg y)=Z9 M.d)(hk:S[i]?=Z9 (.dk kept))(m:kept.length<100):
  QS (cl (n+32) "Desk.say" [.ob i,.str z] S) i S (Zo kept (.inr (sg o)) (N.side M).d):=by
 obtain⟨j,e,k,d⟩:=OM H.dn (BM H.dn s r mo w (by kernel_rfl) a b u) hk m (by decide) (US _ _ _).2.2.2 (nd:=(N.side M).d) λt c d=>by obtain⟨q,l,p⟩:=eZ H.ss H.nw H.mm (n+27) g f h c;refine⟨q,?_,p⟩;rw[H.dn.nm];exact Zj rfl (Ii _ (YX (by decide) c) (YX (by decide) c) (YX (by decide) c) (WS d "A" (US _ _ _).1) (WS d "B" (US _ _ _).2.1) l)
 exact⟨j,e,k,d⟩
theorem Be(H:HZ cl)(m:Nm x)(mo:Nm o)(w:Xa cl z [Str.ofString "about",sg x,sg o])(c:N.g)(a:tv kept (sg x)=Z9 N.d)(hk:S[i]?=Z9 (.dk kept))(h:kept.length<100):
  QS (cl (n+32) "Desk.say" [.ob i,.str z] S) i S (Zo kept (.inr (sg o)) N.abt.d):=by
 obtain⟨f,e,k,d⟩:=OM H.dn (BL H.dn m mo w (by kernel_rfl) a) hk h (by decide) (Tc _ _).2.2.2 (nd:=N.abt.d) λt b d=>by obtain⟨l,g,j⟩:=eY H.ab H.mm (n+27) c b;refine⟨l,?_,j⟩;rw[H.dn.nm];exact Zj rfl (Ih _ (YX (by decide) b) (YX (by decide) b) (YX (by decide) b) (YX (by decide) b) (WS d "A" (Tc _ _).1) g)
 exact⟨f,e,k,d⟩
theorem cJ(H:HZ cl)(m:Nm x)(mo:Nm o)(w:Xa cl z [Str.ofString "trim",sg x,sg o])(c:N.g)(a:tv kept (sg x)=Z9 N.d)(hk:S[i]?=Z9 (.dk kept))(h:kept.length<100):
  QS (cl (n+32) "Desk.say" [.ob i,.str z] S) i S (Zo kept (.inr (sg o)) N.trim.d):=by
 obtain⟨f,e,k,d⟩:=OM H.dn (BL H.dn m mo w (by kernel_rfl) a) hk h (by decide) (Tc _ _).2.2.2 (nd:=N.trim.d) λt b d=>by obtain⟨l,g,j⟩:=gb H.ti H.tr (n+22) c b;refine⟨l,?_,j⟩;rw[H.dn.nm];exact Zj rfl (Ig _ (YX (by decide) b) (YX (by decide) b) (YX (by decide) b) (YX (by decide) b) (YX (by decide) b) (YX (by decide) b) (WS d "A" (Tc _ _).1) g)
 exact⟨f,e,k,d⟩
theorem Mu(H:HZ cl)(g:Nm x)(w:Xa cl z [v,sg x])(f:WG.lookup v=Z9 [Str.ofString "A"])(hv:decide (v=Str.ofString "nets")=Z5)(a:tv kept (sg x)=Z9 N.d)(hk:S[i]?=Z9 (.dk kept))(b:∀c,Yr (cl (n+30) "answer_of" [.str v,N.d] c) d c):
  Yr (cl (n+32) "Desk.say" [.ob i,.str z] S) d S :=
 IG H.dn (IF H.dn g w f a) hk hv (QV _).2.2.2 λt c e=>by obtain⟨k,h,j⟩:=b c;refine⟨k,?_,j⟩;have q:=Vc e "S" Z5;have l:=Vc e "B" Z5;rw[H.dn.an];exact Zj rfl (Ib _ q l (WS e "A" (QV _).1) h)
theorem RO(H:HZ cl)(f:Nm x)(w:Xa cl z [Str.ofString "show",sg x])(ok:N.g)(a:tv kept (sg x)=Z9 N.d)(hk:S[i]?=Z9 (.dk kept)):Yr (cl (n+32) "Desk.say" [.ob i,.str z] S) (.str (X9 N)) S :=
 Mu H f w (by kernel_rfl) (by decide) a hk λb=>by obtain⟨e,c,d⟩:=OU H.rd.nt H.rd.ct (n+27) ok b;refine⟨e,?_,d⟩;rw[H.dn.ao];exact Zj rfl (cR _ (YX (by decide) b) c)
theorem Vt(ok:N.g):(∀v∈Zw N,0<=v/\v<10)/\(Zw N).length<=100:=by
 refine⟨λv hv=>?_,?_⟩
 .obtain⟨a,_,rfl⟩:=qC8.mp hv
  grind
 .unfold Zw;rw[qA1,MM];exact qC5 (qE5 (by lia) (show N.sw.toNat<=4 by have:=ok.s2;lia)) (by decide)
theorem RN(H:HZ cl)(j:Nm x)(w:Xa cl z [Str.ofString "function",sg x])(ok:N.g)(a:tv kept (sg x)=Z9 N.d)(hk:S[i]?=Z9 (.dk kept)):Yr (cl (n+32) "Desk.say" [.ob i,.str z] S) (.str (Xb (Zw N))) S :=
 Mu H j w (by kernel_rfl) (by decide) a hk λb=>by obtain⟨e,c,d⟩:=H.ti.F.fun (n+25) ok b;obtain⟨h,f,g⟩:=Bf H.bt (n+28) (Vt ok).1 (Vt ok).2 e;refine⟨h,?_,d.trans g⟩;rw[H.dn.ao];exact Zj rfl (cQ _ (YX (by decide) b) (YX (by decide) b) c f)
def VT(k:Nat):Str:=toString (k:Int)
theorem Bd{k:Nat}(hk:k<1000)(S:ZU):Xp [.int (k:Int)] S=.ok (.str (VT k)) S:=by show(if((k:Int)).natAbs<1000000000000000000 then _ else _)=_;rw[if_pos (by omega)];rfl
theorem H7(H:HZ cl)(j:Nm x)(w:Xa cl z [Str.ofString "ways",sg x])(ok:N.g)(d:(Vs N.cs w0).length<64)(a:tv kept (sg x)=Z9 N.d)(hk:S[i]?=Z9 (.dk kept)):Yr (cl (n+32) "Desk.say" [.ob i,.str z] S) (.str (VT (Vu N).length)) S :=
 Mu H j w (by kernel_rfl) (by decide) a hk λb=>by
  obtain⟨k,c,e,f,_,g⟩:=ej H.hw (n+19) ok b (by first|trivial|exact d);refine⟨c,?_,f⟩;have h:(Vu N).length<1000:=by unfold Vu;rw[(Rt _).length_eq];lia
  have s:=Bd h c;rw[<- qA1]at s ⊢;rw[H.dn.ao];exact Zj rfl (cP _ (YX (by decide) b) (YX (by decide) b) (YX (by decide) b) (YX (by decide) b) e (Q9 g) s)
theorem cI(H:HZ cl)(l:Nm x)(w:Xa cl z [Str.ofString "bars",sg x])(ok:N.g)(a:tv kept (sg x)=Z9 N.d)(hk:S[i]?=Z9 (.dk kept)):∃L,RP N.cs L/\L.length<=32/\Yr (cl (n+32) "Desk.say" [.ob i,.str z] S) (.str (VT L.length)) S:=by obtain⟨L,e,j,_⟩:=Bg H.hb (n+24) ok S;refine⟨L,e,j,Mu H l w (by kernel_rfl) (by decide) a hk λb=>?_⟩;obtain⟨m,c,_,k,d,g,h,_,f⟩:=Bg H.hb (n+24) ok b;cases e.uniq c;refine⟨d,?_,h⟩;have s:=Bd (k:=L.length) (by lia) d;rw[<- qA1]at s ⊢;rw[H.dn.ao];exact Zj rfl (cO _ (YX (by decide) b) (YX (by decide) b) (YX (by decide) b) (YX (by decide) b) g (Q9 f) s)
end
theorem Bc:∀ws:yH,(Str.join (Str.ofString "") ws).cps.toList=(ws.map (·.cps.toList)).flatten
 |[]=>rfl
 |[x]=>by simp[Str.join]
 |x::y::r=>by show((x.cps++(Str.ofString "").cps)++(Str.join (Str.ofString "") (y::r)).cps).toList=_;rw[wN,Bc (y::r),show(Str.ofString "").cps=#[]from rfl,Array.append_empty,qB2 (a:=x),qQ2]
theorem HY(l:yA):(Xb l).cps.toList=l.map λi=>48+i.toNat:=by
 unfold Xb Txt.join;rw[StrLaws.glued_eq_join,Bc,qC6]
 induction l with
 |nil=>rfl
 |cons x r a=>rw[qB2,qQ2,a];rfl
theorem HX(l:yA):(Xb l).length=l.length:=by show(Xb l).cps.size=_;rw[<- jN,HY,qA1]
theorem cH(l:yA):T4 (Xb l)=l.map λi=>.str (Yq i.toNat):=by unfold T4;rw[HY,qC6];rfl
theorem Bb(a:∀i∈l,0<=i/\i<10)(e:c B S=.ok (.str (Xb l)) S1):Xo c B S=.ok (l.map λi=>.str (Yq i.toNat),[]) S1:=by
 unfold Xo;rw[W4,e];show(if(Xb l).cps.all (·<128)=Z7 then R.ok (T4 (Xb l),([])) S1 else .bad)=_;rw[if_pos,cH];rw[<- Array.all_toList,HY,qI0,qD0]
 grind
theorem Ba(b:0<=i)(a:i<10)(S:ZU):Xs [.str (Yq i.toNat)] S=.ok (.int i) S:=by
 show(if 1<=640 then(match wI (Yq i.toNat)with|some n=>R.ok (D.int n) S|none=>.bad)else .bad)=_;rw[if_pos (by decide)];have:wI (Yq i.toNat)=Z9 i:=by rcases IU b a with rfl|rfl|rfl|rfl|rfl|rfl|rfl|rfl|rfl|rfl<;>decide
 rw[this]
theorem cF(c:ZQ){len:Int}(j:1<=len)(g:len<=4)(l:Zv [.str z] S=.ok (.int len) S)(i:∀S,Xo (ZY 0) [Z9 (.str z)] S=.ok (X,[]) S)(k:X.length<lim)(h:YS [] .one (λ_=>ret Z7) (Jk c) [Z8] X S=.ok A S)(d:S++[.lst A]=a)(f:Xz (λbs=>bs.all id) [.lst S.length] a=.ok (.bl Z7) a)
  (m:YS [] .one (λ_=>ret Z7) (Jl c) [Z8] X a=.ok b a) (e:a++[.lst b]=S2) (t:Xu [.lst a.length] S2=.ok (.tup b) S2):Pm c [Z9 (.str z)] S=.rt (.tup b) S2:=by have n:WI 1 [] [Z9 (D.str z)]=[Z8]:=rfl;simp[Pm,l,j,g,i,k,h,d,f,m,e,t]
theorem cD{i:Int}(a:0<=i)(b:i<2)(S:ZU):YQ (.str (Yq i.toNat)) (.str (Str.ofString "01")) S=.ok (.bl Z7) S:=by
 have:i=0∨i=1:=by lia
 rcases this with rfl|rfl<;>(show R.ok (D.bl _) S=_;congr 2;decide)
theorem cC(h:CP cl)(n:Nat)(c:∀i∈l,0<=i/\i<2)(e:1<=l.length)(d:l.length<=4)(S:ZU):Yr (cl (n+1) "setting_read" [.str (Xb l)] S) (YC l) S:=by
 have b:∀i∈l,0<=i/\i<10:=λi a=>⟨(c i a).1,by have:=(c i a).2;lia⟩
 refine⟨S++[.lst ((l.map λi=>Yq i.toNat).map λ_=>D.bl Z7)]++[.lst (l.map D.int)],?_,(Zf _ _).trans (Zf _ _)⟩;rw[h];refine Zj rfl (cF _ (len:=l.length) (by lia) (by lia) ?_ (λS=>Bb b rfl) (by rw[qA1,YL];lia) ?_ rfl (IP (Y9 _ _)) ?_ rfl (UB (Y9 _ _)))
 .have:=QY (z:=Xb l) (by rw[HX];lia) S;rw[HX]at this;exact this
 .rw[qC6];exact V8 (λi:Int=>D.str (Yq i.toNat)) (XP S) _ l λi a=>⟨_,rfl,by simp[Jk,cD (c i a).1 (c i a).2]⟩
 .exact V8 (λi:Int=>D.str (Yq i.toNat)) (XP _) D.int l λi a=>⟨_,rfl,by simp[Jl,Ba (b i a).1 (b i a).2]⟩
theorem cB(c:ZQ)(a:∀S,ZI (.str (Str.ofString "function ")) (.str d) S=.ok (.str z) S)(e:c "Desk.say" [.ob i,.str z] S=.ok (.str w) b)
  (g:∀{k:C}{B:ZR},k B S=.ok (.str w) b->Xo k B S=.ok (X,[]) b) (h:X.length<lim) (j:YS [] .one (λ_=>ret Z7) (Jd c) [Z8] X b=.ok f b):Pb c [Z9 (.ob i),Z9 (.str d)] S=.rt (.lst b.length) (b++[.lst f]):=by have l:∀B:ZR,WI 1 [] B=[Z8]:=λ_=>rfl;have q:=g (k:=Zn (c "Desk.say") (ZY 0) (ZS [ZW ZI (ZX (.str (Str.ofString "function "))) (ZY 1)])) (B:=[Z9 (.ob i),Z9 (.str d)]) (by unfold Zn;simp[a,e]);simp[Pb,q,h,j]
theorem OJ(h:CJ cl)(n i:Nat)(b:∀i∈l,0<=i/\i<10)(k:l.length<=100)(a:∀S,ZI (.str (Str.ofString "function ")) (.str d) S=.ok (.str z) S)(e:Yr (cl n "Desk.say" [.ob i,.str z] S) (.str (Xb l)) S):
  UQ (cl (n+1) "_law_bits" [.ob i,.str d] S) S (l.map D.int):=by obtain⟨c,j,g⟩:=e;refine .mk c.length (c++[.lst (l.map D.int)]) ?_ (g.trans (Zf _ _)) g.le (Y9 _ _);rw[h];exact Zj rfl (cB _ a j (λq=>Bb b q) (by rw[qA1,YL];lia) (V8 (λi:Int=>D.str (Yq i.toNat)) (XP _) D.int l λi f=>⟨_,rfl,by simp[Jd,Ba (b i f).1 (b i f).2]⟩))
section
variable {n i x y:Nat}{kept:KD}{z:Str}{S:ZU}{N M:ZH}
theorem cA(H:HZ cl)(j:Nm x)(m:Nm y)(w:Xa cl z [Str.ofString "alike",sg x,sg y])(e:N.g)(d:M.g)(f:N.sw=M.sw)(o:Zw M=Zw N)(a:tv kept (sg x)=Z9 N.d)(b:tv kept (sg y)=Z9 M.d)(hk:S[i]?=Z9 (.dk kept)):Yr (cl (n+32) "Desk.say" [.ob i,.str z] S) (.str (Str.ofString "same")) S :=
 IG H.dn (gz H.dn j m w (by kernel_rfl) a b f) hk (by decide) (Tb _ _).2.2.2 λt h c=>by
  obtain⟨S4,g,k⟩:=Ci H.ti.fu H.ti.F (n+24) e d f.symm h;rw[eR f.symm o]at g;have r:cl (n+30) "alike_answer" [N.d,M.d] h=.ok (.str (Str.ofString "same")) S4:=by rw[H.dn.al];exact Zj rfl (cM _ g)
  have q:=Vc c "S" Z5;have l:=Vc c "B" Z5;refine⟨S4,?_,k⟩;rw[H.dn.an];exact Zj rfl (Ic _ q l (WS c "A" (Tb _ _).1) (WS c "B" (Tb _ _).2.1) r)
theorem cz(H:HZ cl)(l:Nm x)(w:Xa cl z [Str.ofString "lets",sg x,Xb st])(ok:N.g)(k:∀i∈st,0<=i/\i<2)(d:(st.length:Int)=N.sw)(a:tv kept (sg x)=Z9 N.d)(hk:S[i]?=Z9 (.dk kept)):Yr (cl (n+32) "Desk.say" [.ob i,.str z] S) (.str (if Zu N st then Str.ofString "yes" else Str.ofString "no")) S:=by
 have m:=ok.s1;have o:=ok.s2;have h:WR (cl (n+30)) (Str.ofString "S",Xb st,YC st):=λS=>by obtain⟨j,e,x⟩:=cC H.sr (n+28) k (by lia) (by lia) S;refine⟨j,?_,x⟩;rw[H.dn.wr];exact Zj rfl (IJ _ e)
 refine IG H.dn (gy H.dn l w (by kernel_rfl) h a (by rw[qA1];exact d)) hk (by decide) (Ta _ _).2.2.2 λt c b=>?_;obtain⟨S4,f,g⟩:=H.ti.F.lets (n+26) ok d c;have r:cl (n+30) "answer_at" [.str (Str.ofString "lets"),N.d,YC st] c=.ok (.str (if Zu N st then Str.ofString "yes" else Str.ofString "no")) S4:=by rw[H.dn.aa];exact Zj rfl (cN _ rfl (YX (by decide) c) f)
 have q:=Vc b "S" Z5;refine⟨S4,?_,g⟩;rw[H.dn.an];exact Zj rfl (Ie _ q (WS b "A" (Ta _ _).1) (WS b "S" (Ta _ _).2.2.1) r)
end
def Wn(cs:yN)(x:Int):Ct:=cs.getD x.toNat ⟨0,0,0,0⟩
theorem HV(h:0<=x/\x<(cs.length:Int)):cs[x.toNat]?=Z9 (Wn cs x):=by
 unfold Wn
 simp_all
inductive Uu(cs:yN):Wk->Wk->Prop
 |refl (w:Wk):Uu cs w w
 |step {w v u:Wk}:Yi w.1≠1->v∈YV cs w->Uu cs v u->Uu cs w u
inductive V5(cs:yN):Wk->Prop
 |z:V5 cs w0
 |s {w v:Wk}:V5 cs w->Yi w.1≠1->v∈YV cs w->V5 cs v
theorem Uu.wlk(h:Uu cs w u):V5 cs w->V5 cs u:=by
 induction h with
 |refl w=>exact id
 |step b hv _ a=>exact λq=>a (.s q b hv)
theorem Uu.snoc{cs:yN}{w u:Wk}(h:Uu cs w u):∀{v:Wk},Yi u.1≠1->v∈YV cs u->Uu cs w v:=by
 induction h with
 |refl w=>exact λa hv=>.step a hv (.refl _)
 |step a hv _ d=>exact λc b=>.step a hv (d c b)
theorem V5.ext(h:V5 cs w):Uu cs w0 w:=by
 induction h with
 |z=>exact .refl _
 |s _ b hv a=>exact a.snoc b hv
theorem HU{cs:yN}(a:Wp cs):∀(f:Nat) (w:Wk),VU cs w->9 - w.1.length<=f->∀t,t∈Vs cs w↔∃u,Uu cs w u/\Yi u.1=1/\t=Ww u.2
 |0,w,h,hf=>by have:=h.le;omega
 |f+1,w,h,hf=>by
  intro t;rw[QT a h];split
  .rename_i b;rw[qB4];constructor
   .rintro rfl;exact⟨w,.refl _,b,rfl⟩
   .rintro⟨u,e,_,rfl⟩;cases e with
    |refl=>rfl
    |step d _ _=>exact absurd b d
  .rename_i b;rw[List.mem_flatMap];constructor
   .rintro⟨v,hv,g⟩;obtain⟨c,i⟩:=QU a h v hv;obtain⟨u,e,l,q⟩:=(HU a f v c (by omega) t).mp g;exact⟨u,.step b hv e,l,q⟩
   .rintro⟨u,e,l,q⟩;cases e with
    |refl=>exact absurd l b
    |@step _ v _ _ hv e =>
     obtain⟨c,i⟩:=QU a h v hv;exact⟨v,hv,(HU a f v c (by omega) t).mpr ⟨u,e,l,q⟩⟩
theorem cy(a:Wp cs)(t:yA):t∈Vs cs w0↔∃u,V5 cs u/\Yi u.1=1/\t=Ww u.2:=by
 rw[HU a 9 w0 (Iw cs) (by omega)];constructor
 .rintro⟨u,e,q⟩;exact⟨u,e.wlk .z,q⟩
 .rintro⟨u,e,q⟩;exact⟨u,e.ext,q⟩
abbrev Cl(cs:yN)(C:Int->Prop)(x:Int):Prop:=C (Wn cs x).a↔C (Wn cs x).b
theorem A9(l:yA)(u:Int):Yi (l++[u])=u:=by
 unfold Yi
 simp_all
theorem cx(h:fr c v=Z9 u):(c.a=v/\c.b=u)∨(c.b=v/\c.a=u):=by
 unfold fr at h;split at h
 .lia
 .lia
theorem cw(hv:v∈YV cs w):∃u x,(0<=x/\x<(cs.length:Int))/\(((Wn cs x).a=Yi w.1/\(Wn cs x).b=u)∨((Wn cs x).b=Yi w.1/\(Wn cs x).a=u))/\u∉w.1/\v=(w.1++[u],w.2++[x]):=by
 obtain⟨q,a,e⟩:=qF2.mp hv;obtain⟨u,d,c,rfl⟩:=MA (cs:=cs) e;have g:=IZ a;have b:=(qA5.mp g).1;have:Wn cs q.1=q.2:=by
  have f:=HV (cs:=cs) (x:=q.1) (by lia)
  simp_all
 exact⟨u,q.1,by lia,by rw[this];exact cx d,c,rfl⟩
theorem V5.pre(h:V5 cs w):∀v∈w.1,∃d,V5 cs d/\Yi d.1=v/\∀x∈d.2,x∈w.2:=by
 induction h with
 |z=>exact λv hv=>⟨w0,.z,by simp[w0]at hv;rw[hv];rfl,λx e=>e⟩
 |@s w m g j f i =>
  intro v hv;obtain⟨u,y,k,l,un,rfl⟩:=cw f;rcases qC3.mp hv with hv|hv
  .obtain⟨d,a,b,c⟩:=i v hv;exact⟨d,a,b,λx e=>qD3 _ (c x e)⟩
  .exact⟨_,.s g j f,by rw[A9,qB4.mp hv],λx e=>e⟩
theorem cv(b:0<=x/\x<(cs.length:Int))(h:fr (Wn cs x) (Yi w.1)=Z9 u)(a:u∉w.1):(w.1++[u],w.2++[x])∈YV cs w:=by
 unfold YV;refine qF2.mpr ⟨(x.toNat,Wn cs x),?_,?_⟩
 .unfold XI;rw[qO3];exact⟨x.toNat,by rw[qE7];exact⟨by rw[qH5 (by omega)],HV b⟩⟩
 .unfold Xm;dsimp only;rw[h];dsimp only;rw[if_neg a,show((x.toNat:Nat):Int)=x by omega]
theorem cq{P:Int->Prop}(p:∀C:Int->Prop,C 0->(∀x,0<=x->x<(cs.length:Int)->P x->Cl cs C x)->C 1):∃w,V5 cs w/\Yi w.1=1/\∀x∈w.2,P x:=by
 apply Classical.byContradiction;intro k;have go:∀x a b,0<=x->x<(cs.length:Int)->P x->fr (Wn cs x) a=Z9 b->(∃w,V5 cs w/\Yi w.1=a/\∀x∈w.2,P x)->∃w,V5 cs w/\Yi w.1=b/\∀x∈w.2,P x:=by
  rintro x a b f h g o ⟨w,i,n,j⟩;by_cases l:b∈w.1
  .obtain⟨m,t,b1,q⟩:=i.pre b l;exact⟨m,t,b1,λy c=>j y (q y c)⟩
  .have s:Yi w.1≠1:=λe=>k ⟨w,i,e,j⟩;refine⟨_,.s i s (cv ⟨f,h⟩ (by rw[n];exact o) l),A9 _ _,λy c=>?_⟩;rcases qC3.mp c with c|c
   .exact j y c
   .rw[qB4.mp c];exact g
 refine k (p (λv=>∃w,V5 cs w/\Yi w.1=v/\∀x∈w.2,P x) ⟨w0,.z,rfl,λx r=>by simp[w0]at r⟩ λx f h g=>?_);by_cases d:(Wn cs x).a=(Wn cs x).b
 .unfold Cl;rw[d]
 .exact⟨go x _ _ f h g (by unfold fr;rw[if_pos rfl]),go x _ _ f h g (by unfold fr;rw[if_neg d,if_pos rfl])⟩
theorem A8{c:Type}(f:c->Nat):∀l:List c,l≠[]->∃v∈l,∀u∈l,f u<=f v
 |[],h=>absurd rfl h
 |[a],_=>⟨a,qG8 _,λu d=>by rw[qB4.mp d];exact qA6 _⟩
 |a::b::l,_=>by
  obtain⟨v,hv,h⟩:=A8 f (b::l) (by simp)
  grind
theorem A7:∀d:Nat,d ^ 3<=3 ^ d
 |0=>by decide
 |1=>by decide
 |2=>by decide
 |3=>by decide
 |d+4=>by
  have a:=A7 (d+3)
  grind
theorem A6:∀l:List Wk,(∀v∈l,(Vs cs v).length<=b)->(l.flatMap (Vs cs)).length<=l.length*b
 |[],_=>by simp
 |v::l,h=>by have:=A6 l λu a=>h u (qC4 _ a);have:=h v (qC9 ..);rw[qK7,qB5,qB8,qR2,qR3];lia
theorem A5{cs:yN}(b:Wp cs):∀(f:Nat) (w:Wk),VU cs w->9 - w.1.length<=f->(Vs cs w).length ^ 3<=3 ^ live cs w
 |0,w,h,hf=>by have:=h.le;lia
 |f+1,w,h,hf=>by
  rw[QT b h];split
  .exact Nat.one_le_pow _ _ (by decide)
  .by_cases hk:YV cs w=[]
   .rw[hk];simp
   .obtain⟨v,hv,a⟩:=A8 (λv=>(Vs cs v).length) (YV cs w) hk;obtain⟨d,i⟩:=QU b h v hv;have e:=A5 b f v d (by lia);have c:=Iy h v hv;have g:=A6 (YV cs w) a
    calc ((YV cs w).flatMap (Vs cs)).length ^ 3<=((YV cs w).length*(Vs cs v).length) ^ 3:=qP1 g 3
     _=(YV cs w).length ^ 3*(Vs cs v).length ^ 3:=Nat.mul_pow ..
     _<=3 ^ (YV cs w).length*3 ^ live cs v:=Nat.mul_le_mul (A7 _) e
     _=3 ^ ((YV cs w).length+live cs v):=(Nat.pow_add ..).symm
     _<=3 ^ live cs w:=qE5 (by decide) c
theorem cp(cs:yN):∃C,W8 C/\Uv cs (Zx cs C):=by
 have i:∀n:Nat,∀C,W8 C->(Zx cs C).length<=n->∃C,W8 C/\Uv cs (Zx cs C):=by
  intro n
  induction n with
  |zero =>
   intro C d k;refine⟨C,d,λC' _ a=>?_⟩;have e:Zx cs C=[]:=qF3.mp (by lia);rw[e]at a ⊢;cases o:Zx cs C' with
   |nil=>rfl
   |cons x l=>rw[o]at a;exact absurd (a x (qC9 ..)) (by simp)
  |succ n p =>
   intro C d k;by_cases b:Uv cs (Zx cs C)
   .exact⟨C,d,b⟩
   .unfold Uv at b;simp only[Classical.not_forall]at b;obtain⟨C',f,a,c⟩:=b;obtain⟨x,r,g⟩:∃x∈Zx cs C,x∉Zx cs C':=by
     apply Classical.byContradiction;intro q;apply c;apply Ir
     grind
    refine p C' f ?_;have m:∀D,(Zx cs D).Nodup:=λD=>by unfold Zx;rw[List.nodup_iff_pairwise_ne,qK5];exact((List.nodup_range).sublist List.filter_sublist).imp λh e=>h (by lia)
    have le:=List.Nodup.length_le_of_subset (m C') (l₂:=(Zx cs C).filter λy=>decide (y≠x)) λy j=>qF1.mpr ⟨a y j,decide_eq_true λe=>g (e▸j)⟩;have lt:((Zx cs C).filter λy=>decide (y≠x)).length<(Zx cs C).length:=by
     simp_all
    lia
 exact i _ (λx=>decide (x=0)) ⟨rfl,rfl⟩ (qA6 _)
theorem RP.ne(h:RP cs L):0<L.length:=by obtain⟨C,b,a⟩:=cp cs;exact List.length_pos_of_mem ((h.mem _).mpr ⟨C,b,rfl,a⟩)
theorem cn(ok:N.g)(h:Zu N st=Z7):Vu N≠[]:=by
 have a:=ok.in7 (by decide);obtain⟨u,b,l,_⟩:=cq (cs:=N.cs) (P:=λx=>Wq (Wn N.cs x) st=Z7) λC f o=>Wo.mp h C f λc g j=>by
  obtain⟨i,d⟩:=qJ1 g;have k:=(qA5.mp d).1;have e:Wn N.cs i=c:=by
   have n:=HV (cs:=N.cs) (x:=i) (by lia)
   simp_all
  grind
 have m:Ww u.2∈Vu N:=(Rt _).mem_iff.mpr ((cy a _).mpr ⟨u,b,l,rfl⟩)
 grind
theorem cm{N:ZH}(ok:N.g)(b:N.cs.length<=8):(Vs N.cs w0).length<64:=by
 have h:=A5 (ok.in7 (by decide)) 9 w0 (Iw N.cs) (by lia);have a:live N.cs w0<=8:=qC5 (qG3 ..) b;have d:3 ^ live N.cs w0<=3 ^ 8:=qE5 (by decide) a;apply Classical.byContradiction;intro c;have:64 ^ 3<=(Vs N.cs w0).length ^ 3:=qP1 (by lia) 3
 grind
theorem A4(c:Nat):∀a:List (List Nat),a≠[]->(Uy c a).length+1=(a.map qG1).sum+a.length
 |[],h=>absurd rfl h
 |[x],_=>by simp[Uy]
 |x::y::r,_=>by have:=A4 c (y::r) (by simp);rw[Uy,qB5,qB8,qB2,qF0,qB8];lia
theorem OI(N:ZH):(X9 N).length=4+7*N.cs.length:=by
 show(X9 N).cps.size=_;unfold X9 Txt.join;rw[StrLaws.glued_eq_join,<- jN,show bk=⟨#[32]⟩from rfl,ML];have h:=A4 32 ((Xc N).map (·.cps.toList)) (by simp[Xc]);have s:(((Xc N).map (·.cps.toList)).map qG1).sum=3+6*N.cs.length:=by
  unfold Xc;simp only[qB2,qC6,qF0];have:∀a:yN,(a.map (qG1∘(λx:Str=>x.cps.toList)∘Yy)).sum=6*a.length:=λa=>by
   induction a with
   |nil=>rfl
   |cons c r b=>rw[qB2,qF0,b,qB8];show 6+_=_;lia
  rw[this];show 1+(2+_)=_
  lia
 have l:((Xc N).map (·.cps.toList)).length=N.cs.length+2:=by simp[Xc]
 lia
theorem HS:∀(m:Nat) (M:ZH) (i:Nat),(Uw m M i).cs.length<=M.cs.length
 |0,M,i=>qA6 _
 |m+1,M,i=>by
  unfold Uw;split
  .refine qC5 (HS m _ i) ?_;show(M.cs.take i++M.cs.drop (i+1)).length<=_;rw[qB5,qE6,qG5];omega
  .exact HS m M (i+1)
theorem ck(N:ZH):(X9 N.trim).length<=(X9 N).length:=by
 rw[OI,OI];have:=HS N.cs.length N 0;unfold ZH.trim
 lia
theorem OH(c:ZQ)(h:0<=v)(S:ZU):Pa c [Z9 (.int v)] S=.ok (.int (WQ v)) S:=by
 unfold Pa WQ;by_cases q:v<2
 .have:v=0∨v=1:=by lia
  rcases this with rfl|rfl<;>simp
 .have a:v≠0:=by lia
  have b:v≠1:=by lia
  simp[q,a,b]
theorem cj(c:ZQ){xs:yM}(l:ZA S q=Z9 xs)(e:xs.length<lim)
  (f:YS [] .one (λ_=>ret Z7) (Pa c) [Z8] [.int a,.int b] S=.ok [.int x,.int y] S) :
  MU c [nd,Z9 (.lst q),Z9 (.int a),Z9 (.int b),Z9 (.int k),Z9 (.int o),v6,v7] S=.nx [nd,Z9 (.lst q),Z9 (.int a),Z9 (.int b),Z9 (.int k),Z9 (.int o),Z9 (.int x),Z9 (.int y)] ((S++[O.lst [D.int x,D.int y]]).set q (O.lst (xs++[D.tup [D.int (if y<x then y else x),D.int (if y>x then y else x),D.int k,D.int o]]))):=by
 have n:∀B:ZR,WI 1 [] B=[Z8]:=λ_=>rfl;have d:=UW (T:=[.lst [.int x,.int y]]) l;have j:=Y9 S [.int x,.int y];have m:=NI d UE [.tup [.int (if y<x then y else x),.int (if y>x then y else x),.int k,.int o]];rw[kY,if_pos e]at m;have g:∀B:ZR,gT [gN 6,gN 7] (.lst S.length) B (S++[.lst [.int x,.int y]])=U1 [gN 6,gN 7] [.int x,.int y] B (S++[.lst [.int x,.int y]]):=fun B=>kH j _ _;have i:2<lim:=by decide
 have h:=PQ d;simp[MU,f,g,m,i,h]
theorem cg(c:ZQ){N:ZH}{ys:yM}(e:XQ [] (gT [gN 2,gN 3,gN 4,gN 5]) (MU c) (N.cs.map Ct.d) [Z9 N.d,Z9 (.lst S.length),Z8,Z8,Z8,Z8,Z8,Z8] (S++[.lst []])=.nx [Z9 N.d,Z9 (.lst S.length),d,v3,b,a,v6,v7] S2)(l:ZA S2 S.length=Z9 ys):
  O9 c [Z9 N.d,Z8,Z8,Z8,Z8,Z8,Z8,Z8] S=.rt (.tup [.int N.sw,.int N.pl,.tup ys]) S2:=by
 have f:∀S,ZK N.d (.int 0) S=.ok (.int N.sw) S:=λS=>by simp[ZH.d]
 have g:∀S,ZK N.d (.int 1) S=.ok (.int N.pl) S:=λS=>by simp[ZH.d]
 have h:∀S,ZK N.d (.int 2) S=.ok (.tup (N.cs.map Ct.d)) S:=λS=>by simp[ZH.d]
 have t:=UB l;simp[O9,f,g,h,e,t]
theorem cf(h:CH cl)(n:Nat){N:ZH}(ok:N.g)(S:ZU):Yr (cl (n+1) "_law_turned" [N.d] S) N.abt.d S:=by
 have z:ZA (S++[.lst []]) S.length=Z9 []:=Y9 _ _;have K:=by have:=ok.c1;omega
 obtain⟨G,E,y,p,m,q,f,v6,v7,rfl,kp,w⟩:=UV (g:=gT [gN 2,gN 3,gN 4,gN 5]) (items:=N.cs.map Ct.d)
  (λi B a=>∃p m q f v6 v7,B=[Z9 N.d,Z9 (.lst S.length),p,m,q,f,v6,v7]/\Kp (·=S.length) (S++[.lst []]) a/\ZA a S.length=Z9 (((N.cs.take i).map (Ct.mv WQ)).map Ct.d))
  (λi B a _=>XP _) ⟨Z8,Z8,Z8,Z8,Z8,Z8,rfl,Kp.refl _ _,z⟩
  λi d B a u A=>by
   obtain⟨p,m,q,f,v6,v7,rfl,kp,l⟩:=A;rw[qB6]at u;obtain⟨c,b,rfl⟩:=qA4.mp u;have s:=ok.c2 c (qC2 b);obtain⟨x,F,_,J,_,I,_⟩:=s;have C:=by
    have:=V8 D.int (XP a) (c:=Pa (cl n)) (t:=.one) (B0:=[Z8]) (λv=>D.int (WQ v)) [c.a,c.b] λv hv=>⟨_,rfl,by
     rcases qC0.mp hv with rfl|hv
     .exact OH _ x _
     .rw[qB4.mp hv];exact OH _ (by lia) _⟩
    exact this
   have r:=cj (cl n) (nd:=Z9 N.d) (k:=c.k) (o:=c.o) (v6:=v6) (v7:=v7) l (by rw[qA1,qA1,qE6,YL];omega) C;refine⟨_,a,rfl,_,_,.inl r,Z9 (.int c.a),Z9 (.int c.b),Z9 (.int c.k),Z9 (.int c.o),Z9 (.int (WQ c.a)),Z9 (.int (WQ c.b)),rfl,?_,?_⟩
   .exact kp.trans (((Zf a _).kp).trans (TV _ _))
   .rw[Q8 (UW l),qN0,b,qE2,qE2];rfl
 rw[qA1,qK9]at w;refine⟨E,?_,?_⟩
 .rw[h];exact Zj rfl (cg _ y w)
 .exact(Kp.trans (Zf S _).kp kp).mono λj H e=>by lia
abbrev oS:String->Str:=Str.ofString
def HR(z:Str)(ws:yH):Bool:=!(UI z (oS "net "))&&decide ((((oS " ").length == 0)=Z5)/\z.length<=100/\(Builtin.Str.partsBetween z (Builtin.Str.occurrences z (oS " ") 0 z.length (z.length+1)) (oS " ").length).length<=100)&&decide (Txt.split z (oS " ")=ws)
theorem XF(h:Pk cl)(b:HR z ws=Z7):Xa cl z ws:=by unfold HR at b;simp only[qC1,qI7]at b;obtain⟨⟨b1,e⟩,c⟩:=b;obtain⟨a,f,d⟩:=of_decide_eq_true e;refine iz h b1 λS=>?_;unfold U0;dsimp only;rw[if_pos ⟨a,qC5 f (by decide),qC5 d (by decide)⟩,of_decide_eq_true c]
theorem b9(h:Pk cl)(b:1<=k)(a:k<=3)(m:st∈Zr k):Xa cl (oS "lets a "++Xb st) [oS "lets",sg 97,Xb st]:=by
 refine XF h ?_;have q:([1,2,3].all λk=>(Zr k).all λst=>HR (oS "lets a "++Xb st) [oS "lets",sg 97,Xb st])=Z7:=by decide
 grind
theorem A3:∀c∈[97,98,99,100,101,102,103,120],Nm c:=by
 have q:([97,98,99,100,101,102,103,120].all λc=>OP c&&decide (c<128)&&decide (c≠32))=Z7:=by decide
 intro c a;have:=qD0.mp q c a;simp only[qC1,decide_eq_true_eq]at this;exact⟨this.1.1,this.1.2,this.2⟩
theorem A2(H:HZ cl){kept:KD}(hk:S[i]?=Z9 (.dk kept))(u:Qa kept=Z9 ns)(p:ns.length<64)(w:PyProof.Rows.sortedS ns=Z7)(j:uH (oS " ") ns=Z7)(h:Txt.join (oS " ") ns=r):Yr (cl (n+32) "Desk.say" [.ob i,.str (oS "nets")] S) (.str r) S:=by
 have L:W9 cl (n+30) kept (oS "nets") (oS "nets") [] []:=⟨XF H.dn.wo (by decide),by kernel_rfl,λa q=>absurd q (by simp),.nil,qE8 _,⟨_,.no rfl rfl,.no rfl rfl⟩,.no rfl rfl⟩
 obtain⟨k,m,t,v,y,b,s,c,e,g,l,d,x⟩:=IH H.dn L hk;have o:=x.at hk λz=>z;have f:T1 [.dct i] b=.ok (.lst b.length) (b++[.lst (ns.map D.str)]):=by
  unfold T1
  simp_all
 refine⟨b++[.lst (ns.map D.str)],?_,x.trans (Zf _ _)⟩;subst h;rw[H.dn.sy];exact Zj rfl (hF _ s c e g l (g6 _ b) f (IS (Y9 _ _) j))
section
variable (a b c d e f g:D)
def kk(n:Nat):KD:=[((.inr (sg 97):Zz),a),(.inr (sg 98),b),(.inr (sg 99),c),(.inr (sg 100),d),(.inr (sg 101),e),(.inr (sg 102),f),(.inr (sg 103),g)].take n
theorem b8:Zo ([]:KD) (.inr (sg 97)) a=kk a b c d e f g 1/\Zo (kk a b c d e f g 1) (.inr (sg 98)) b=kk a b c d e f g 2/\Zo (kk a b c d e f g 2) (.inr (sg 99)) c=kk a b c d e f g 3/\Zo (kk a b c d e f g 3) (.inr (sg 100)) d=kk a b c d e f g 4/\Zo (kk a b c d e f g 4) (.inr (sg 101)) e=kk a b c d e f g 5/\Zo (kk a b c d e f g 5) (.inr (sg 102)) f=kk a b c d e f g 6/\Zo (kk a b c d e f g 6) (.inr (sg 103)) g=kk a b c d e f g 7:=by refine⟨?_,?_,?_,?_,?_,?_,?_⟩<;>kernel_rfl
theorem b0:tv (kk a b c d e f g 2) (sg 97)=Z9 a/\tv (kk a b c d e f g 2) (sg 98)=Z9 b/\tv (kk a b c d e f g 3) (sg 97)=Z9 a/\tv (kk a b c d e f g 3) (sg 98)=Z9 b/\tv (kk a b c d e f g 4) (sg 97)=Z9 a/\tv (kk a b c d e f g 5) (sg 101)=Z9 e/\tv (kk a b c d e f g 6) (sg 97)=Z9 a:=by refine⟨?_,?_,?_,?_,?_,?_,?_⟩<;>kernel_rfl
theorem HQ:tv (kk a b c d e f g 7) (sg 97)=Z9 a/\tv (kk a b c d e f g 7) (sg 98)=Z9 b/\tv (kk a b c d e f g 7) (sg 99)=Z9 c/\tv (kk a b c d e f g 7) (sg 100)=Z9 d/\tv (kk a b c d e f g 7) (sg 101)=Z9 e/\tv (kk a b c d e f g 7) (sg 102)=Z9 f/\tv (kk a b c d e f g 7) (sg 103)=Z9 g/\Qa (kk a b c d e f g 7)=Z9 [sg 97,sg 98,sg 99,sg 100,sg 101,sg 102,sg 103]:=by refine⟨?_,?_,?_,?_,?_,?_,?_,?_⟩<;>kernel_rfl
end
theorem bZ(c:ZQ)(e:c "Desk.say" [.ob i,.str z] S=.ok o S1):Q1 c [a,b,Z9 (.ob i),Z9 (.str z)] S=.nx [a,b,Z9 (.ob i),Z9 (.str z)] S1:=by
 have w:Zn (c "Desk.say") (ZY 2) (ZS [(ZY 3)]) [a,b,Z9 (.ob i),Z9 (.str z)] S=.ok o S1:=by unfold Zn;simp[e]
 simp[Q1,w]
abbrev L5:yM:=[.str (oS "row a b c"),.str (oS "side a b d"),.str (oS "about a e"),.str (oS "about e f"),.str (oS "trim a g")]
theorem bY(c:ZQ){S S0 a S2 b S4 S5:ZU}(i:S++[.dk []]=S0)(t:c "net_text" [nd] S0=.ok (.str g) a)(s:ZI (.str (oS "net a ")) (.str g) a=.ok (.str f) a)(j:c "Desk.say" [.ob S.length,.str f] a=.ok o S2)
  (k:c "net_text" [md] S2=.ok (.str e) b) (n:ZI (.str (oS "net b ")) (.str e) b=.ok (.str d) b) (p:c "Desk.say" [.ob S.length,.str d] b=.ok h S4) (r:XQ [(S4.length,L5)] (gN 3) (Q1 c) L5 [Z9 nd,Z9 md,Z9 (.ob S.length),Z8] (S4++[.lst L5])=.nx [Z9 nd,Z9 md,Z9 (.ob S.length),v3] S5) :
  O8 c [Z9 nd,Z9 md,Z8,Z8] S=.rt (.ob S.length) S5:=by
 have l:Tp [Z9 nd,Z9 md,Z8,Z8] S=.ok (.ob S.length) S0:=by rw[<- i];rfl
 have m:Zn (c "Desk.say") (ZY 2) (ZS [(ZW ZI (ZX (.str (Str.ofString "net a "))) (ZT (c "net_text") (ZS [(ZY 0)])))]) [Z9 nd,Z9 md,Z9 (.ob S.length),Z8] S0=.ok o S2:=by unfold Zn;simp[t,s,j]
 have q:Zn (c "Desk.say") (ZY 2) (ZS [(ZW ZI (ZX (.str (Str.ofString "net b "))) (ZT (c "net_text") (ZS [(ZY 1)])))]) [Z9 nd,Z9 md,Z9 (.ob S.length),Z8] S2=.ok h S4:=by unfold Zn;simp[k,n,p]
 have u:ZA (S4++[.lst L5]) S4.length=Z9 L5:=Y9 _ _;simp[O8,l,m,q,r]
def KZ(N M:ZH)(n:Nat):KD:=kk N.d M.d (N.row M).d (N.side M).d N.abt.d N.d N.trim.d n
abbrev ZP(N M:ZH)(a:Nat)(c:ZU)(i:Nat):ZR->ZU->Prop:=fun B b=>∃v,B=[Z9 N.d,Z9 M.d,Z9 (.ob a),v]/\Kp (·=a) c b/\b[a]?=Z9 (.dk (KZ N M (i+2)))
theorem OG{N M:ZH}(kp:Kp (·=b) c a)(r:QS (cl (n+32) "Desk.say" [.ob b,.str z] a) b a K)(g:K=KZ N M (i+1+2)):Dm (gN 3) (Q1 (cl (n+32))) (.str z) [Z9 N.d,Z9 M.d,Z9 (.ob b),v] a (ZP N M b c (i+1)):=by obtain⟨f,e,k,d⟩:=r;exact⟨_,a,rfl,_,_,.inl (bZ _ e),Z9 (.str z),rfl,kp.trans k,by rw[d,g]⟩
inductive bX(r:R D)(S:ZU)(K:KD):Prop
 |mk (S':ZU) (e:r=.ok (.ob S.length) S') (x:Ex S S') (d:S'[S.length]?=Z9 (.dk K))
theorem bW:(oS "net a ").length=6:=by decide
theorem ok_len6':(oS "net b ").length=6:=by decide
theorem TH{N:ZH}(h:N.ok 4 4 8):N.g:=⟨h.s1,h.s2,h.p1,by have:=h.p2;lia,by have:=h.c1;lia,h.c2⟩
theorem A1(N M:ZH)(i:Nat):(KZ N M i).length<100:=by unfold KZ kk;rw[qE6];show min i 7<100;omega
theorem bV(H:HZ cl)(I:CG cl)(n:Nat){N M:ZH}(f:N.ok 4 4 8)(g:M.ok 4 4 8)(p:N.sw=M.sw)(S:ZU):bX (cl (n+33) "_law_desk" [N.d,M.d] S) S (KZ N M 7):=by
 have a:=TH f;have s:=TH g;have V:=BA f g p.symm;have gS:=Bz f g p.symm;have gA:=BC a;have q:=b8 N.d M.d (N.row M).d (N.side M).d N.abt.d N.d N.trim.d;have t:=b0 N.d M.d (N.row M).d (N.side M).d N.abt.d N.d N.trim.d;have c:=A3;obtain⟨S0,u⟩:∃S0,S++[O.dk []]=S0:=⟨_,rfl⟩
 have J:S0[S.length]?=Z9 (.dk []):=by rw[<- u,qA2 (qA6 _),qD8];rfl
 obtain⟨S1,e1,A⟩:=OU H.rd.nt H.rd.ct (n+30) a S0;have Z:ZI (.str (oS "net a ")) (.str (X9 N)) S1=.ok (.str (Ze 97++X9 N)) S1:=by
  have:=IQ (x:=oS "net a ") (y:=X9 N) (by
   have h:=bW;have:=OI N;have:=f.c1;lia) S1
  rw[this];rfl
 obtain⟨Y,F,G,X⟩:=Ia H (c 97 (by decide)) a (A.at J λz=>z) (by decide);obtain⟨S3,Q,C⟩:=OU H.rd.nt H.rd.ct (n+30) s Y;have T:ZI (.str (oS "net b ")) (.str (X9 M)) S3=.ok (.str (Ze 98++X9 M)) S3:=by
  have:=IQ (x:=oS "net b ") (y:=X9 M) (by
   have h:=ok_len6';have:=OI M;have:=g.c1;lia) S3
  rw[this];rfl
 obtain⟨o,K,P,D⟩:=Ia H (c 98 (by decide)) s (C.at X λz=>z) (A1 N M 1);have il:=(qA5.mp D).1;have E:ZA (o++[.lst L5]) o.length=Z9 L5:=Y9 _ _;obtain⟨B',R,W,v3,rfl,kp,U⟩:=UV (b:=Q1 (cl (n+32))) (items:=L5) (ZP N M S.length (o++[.lst L5]))
  (λi B L w=>by obtain⟨_,_,kp,_⟩:=w;exact Vd (kp.lst E (by lia)))
  ⟨Z8,rfl,Kp.refl _ _,(Zf o _).at D λz=>z⟩ λi d B L hi w=>by
   obtain⟨v,rfl,kp,l⟩:=w;have m:=A1 N M (i+2)
   match i,hi with
   |0,hi=>cases hi;exact OG kp (cL H (c 97 (by decide)) (c 98 (by decide)) (c 99 (by decide)) (XF H.dn.wo (by decide)) a s V p t.1 t.2.1 l m) q.2.2.1
   |1,hi=>cases hi;exact OG kp (cK H (c 97 (by decide)) (c 98 (by decide)) (c 100 (by decide)) (XF H.dn.wo (by decide)) a s gS p t.2.2.1 t.2.2.2.1 l m) q.2.2.2.1
   |2,hi=>cases hi;exact OG kp (Be H (c 97 (by decide)) (c 101 (by decide)) (XF H.dn.wo (by decide)) a t.2.2.2.2.1 l m) q.2.2.2.2.1
   |3,hi =>
    cases hi;have r:=Be H (n:=n) (c 101 (by decide)) (c 102 (by decide)) (XF H.dn.wo (z:=oS "about e f") (by decide)) gA t.2.2.2.2.2.1 l m;rw[BE a]at r;exact OG kp r q.2.2.2.2.2.1
   |4,hi=>cases hi;exact OG kp (cJ H (c 97 (by decide)) (c 103 (by decide)) (XF H.dn.wo (by decide)) a t.2.2.2.2.2.2 l m) q.2.2.2.2.2.2
 refine⟨R,?_,?_,U⟩
 .show cl (n+32+1) _ _ _=_;rw[I];exact Zj rfl (bY _ u e1 Z F Q T K W)
 .have k:=(A.kp.trans G).trans (C.kp.trans (P.trans ((Zf o _).kp.trans kp)));rw[<- u]at k;exact(Kp.trans (Zf S _).kp k).mono λj hj e=>by lia
theorem bU(c:ZQ){i o q u kc kd ke:Nat}{A y C H K V:yM}
  {S S1 S2 S3 S4 S5 W S7 S8 S9 G J x E d n e l j Q R v g r M t f I a S29 N P F T L O w S37:ZU}
  (e1:c "_law_state" [sc,.int jj] S=.ok (.lst i) S1) (e2:c "_law_net" [.lst i,.int 3,.int 4,.int 8] S1=.ok n1 S2) (e3:c "_law_net" [.lst i,.int 3,.int 4,.int 8] S2=.ok n2 S3)
  (i1:∀S,ZK n1 (.int 0) S=.ok (.int s1) S) (i2:∀S,ZK n2 (.int 0) S=.ok (.int s2) S) (hm:(if s2>s1 then s2 else s1)=h)
  (l1:∀S,W6 n1 (Z9 1) Z8 S=.ok r1 S) (l2:∀S,W6 n2 (Z9 1) Z8 S=.ok r2 S) (a1:∀S,ZI (.tup [.int h]) r1 S=.ok nd S) (a2:∀S,ZI (.tup [.int h]) r2 S=.ok md S)
  (e4:c "_law_desk" [nd,md] S3=.ok (.ob o) S4)
  (e5:c "Desk.say" [.ob o,.str (oS "show a")] S4=.ok (.str s) S5) (e6:c "net_read" [.str s] S5=.ok nd W) (q6:YG nd nd W=.ok (.bl Z5) W)
  (e7:c "Desk.say" [.ob o,.str (oS "show f")] W=.ok (.str s) S7) (e8:c "Desk.say" [.ob o,.str (oS "show a")] S7=.ok (.str s) S8) (qs:∀z S,YG (.str z) (.str z) S=.ok (.bl Z5) S)
  (e9:c "Desk.say" [.ob o,.str (oS "show e")] S8=.ok (.str te) S9) (e10:c "_law_turned" [nd] S9=.ok ed G) (e11:c "net_text" [ed] G=.ok (.str te) J)
  (e12:c "_law_bits" [.ob o,.str (oS "a")] J=.ok (.lst q) x) (e13:c "_law_bits" [.ob o,.str (oS "b")] x=.ok (.lst u) E) (e14:c "_law_bits" [.ob o,.str (oS "c")] E=.ok (.lst kc) d)
  (l7:ZA d q=Z9 A) (l8:ZA d u=Z9 y) (z78:zipD A y=C) (zl0:C.length<lim) (c14:YS [(q,A),(u,y)] (.many 2) (λ_=>ret Z7) (MS c) [Z8,Z8] C d=.ok H d) (h15:d++[.lst H]=n) (q15:YG (.lst kc) (.lst d.length) n=.ok (.bl Z5) n)
  (e16:c "_law_bits" [.ob o,.str (oS "d")] n=.ok (.lst kd) e) (l7':ZA e q=Z9 A) (l8':ZA e u=Z9 y) (c16:YS [(q,A),(u,y)] (.many 2) (λ_=>ret Z7) (MT c) [Z8,Z8] C e=.ok K e) (h17:e++[.lst K]=l) (q17:YG (.lst kd) (.lst e.length) l=.ok (.bl Z5) l)
  (e18:c "_law_bits" [.ob o,.str (oS "e")] l=.ok (.lst ke) j) (q18:YG (.lst ke) (.lst q) j=.ok (.bl Z5) j)
  (e19:c "Desk.say" [.ob o,.str (oS "alike a g")] j=.ok (.str (oS "same")) Q) (e20:c "Desk.say" [.ob o,.str (oS "show g")] Q=.ok (.str tg) R) (f20:∀S,Zv [.str tg] S=.ok (.int lg) S) (e21:c "Desk.say" [.ob o,.str (oS "show a")] R=.ok (.str s) v) (f21:∀S,Zv [.str s] S=.ok (.int la) S) (hg:¬la<lg)
  (sh:∀S,Wb (.int 1) (.int h) S=.ok (.int pw) S) (e22:c "_law_take" [.lst i,.int pw] v=.ok (.int k) g)
  (m0:-4611686018427387904<=h) (m1:h<4611686018427387904) (ml:(YT 0 h.toNat).length<lim) (c22:YS [] .one (λ_=>ret Z7) (O7 c) [Z8,Z9 (.int k),Z9 (.int h)] (YT 0 h.toNat) g=.ok V g) (h23:g++[.lst V]=r) (t23:Xu [.lst g.length] r=.ok (.tup V) r) (e24:c "bits_text" [.tup V] r=.ok (.str tz) M)
  (a25:∀S,ZI (.str (oS "lets a ")) (.str tz) S=.ok (.str zl) S) (e25:c "Desk.say" [.ob o,.str zl] M=.ok (.str yn) t) (h26:t++[.lst [.str (oS "no"),.str (oS "yes")]]=f) (i7:ZK (.lst q) (.int k) f=.ok (.int b) f) (iy:ZK (.lst t.length) (.int b) f=.ok (.str yn) f)
  (e27:c "Desk.say" [.ob o,.str (oS "bars a")] f=.ok (.str tb) I) (f27:∀S,Xs [.str tb] S=.ok (.int nb) S) (hb:¬nb<1)
  (e28:c "Desk.say" [.ob o,.str (oS "ways a")] I=.ok (.str U) a) (q28:Zl (.str U) (.str (oS "0")) a=.ok (.bl p) a) (n28:YA Z5 (.int 1) (.lst q) a=.ok (.bl m) a) (pm:(p&&m)=Z5)
  (Z:a++[.dk []]=S29) (e30:c "Desk.say" [.ob o,.str (oS "show a")] S29=.ok (.str s) N) (a30:∀S,ZI (.str (oS "net x ")) (.str s) S=.ok (.str zx) S) (e31:c "Desk.say" [.ob a.length,.str zx] N=.ok X P)
  (e32:c "Desk.say" [.ob a.length,.str (oS "function x")] P=.ok (.str tf) F) (e33:c "Desk.say" [.ob o,.str (oS "function a")] F=.ok (.str tf) T) (e34:c "Desk.say" [.ob a.length,.str (oS "ways x")] T=.ok (.str U) L) (e35:c "Desk.say" [.ob o,.str (oS "ways a")] L=.ok (.str U) O)
  (e36:c "Desk.say" [.ob a.length,.str (oS "nets")] O=.ok (.str (oS "x")) w) (e37:c "Desk.say" [.ob o,.str (oS "nets")] w=.ok (.str (oS "a b c d e f g")) S37) :
  ∃v2 v3 v4 v5 v6 v7 v8 v9 Y v11,O6 c [Z9 sc,Z9 (.int jj),w2,w3,w4,w5,w6,w7,w8,w9,w10,w11] S=.nx [Z9 sc,Z9 (.int jj),v2,v3,v4,v5,v6,v7,v8,v9,Y,v11] S37:=by
 refine⟨Z9 (.lst i),Z9 nd,Z9 md,Z9 (.int h),Z9 (.ob o),Z9 (.lst q),Z9 (.lst u),Z9 (.int k),Z9 (.str tz),Z9 (.ob a.length),?_⟩;have dk:∀B:ZR,Tp B a=.ok (.ob a.length) S29:=fun B=>by rw[<- Z];rfl
 have nl:(2:Nat)<lim:=by decide
 unfold O6;simp[e1,e2,e3,i1,i2,hm,l1,l2,a1,a2,e4,Zn,W4,e5,e6,q6,e7,e8,qs,e9,e10,e11,e12,e13,e14,l7,l8,z78,zl0,c14,h15,q15,e16,l7',l8',c16,h17,q17,e18,q18,e19,e20,f20,e21,f21,hg,sh,e22,m0,m1,ml,c22,h23,t23,e24,a25,e25,h26,i7,iy,e27,f27,hb,e28,q28,n28];cases p<;>cases m<;>first|(cases pm;done)| simp[dk,Zn,W4,e30,a30,e31,e32,e33,e34,e35,e36,e37,qs]
theorem bT(l:List (yA))(f g:yA->Bool):zipD ((l.map λst=>b1 (f st)).map D.int) ((l.map λst=>b1 (g st)).map D.int)=l.map λst=>D.tup [.int (b1 (f st)),.int (b1 (g st))]:=by unfold zipD;rw[qC6,qC6,qN2,qC6];rfl
theorem ne_str(x:Str)(S:ZU):YG (.str x) (.str x) S=.ok (.bl Z5) S:=by show R.ok (D.bl (!decide (x=x))) S=_;rw[decide_eq_true rfl];rfl
theorem HP{l:yA}(e:ZA S a=Z9 (l.map D.int))(c:ZA S b=Z9 (l.map D.int)):YG (.lst a) (.lst b) S=.ok (.bl Z5) S:=by
 have p:(l.map D.int).all (plain 39)=Z7:=qD0.mpr λx d=>by obtain⟨_,_,rfl⟩:=qC8.mp d;rfl
 rw[kM e c p p,Df];rfl
theorem bS{l:yA}(h:ZA S k=Z9 (l.map D.int)):YA Z5 (.int 1) (.lst k) S=.ok (.bl (decide (1∈l))) S:=by rw[Bm h];rfl
theorem bR(h:k<33)(S:ZU):Xs [.str (VT k)] S=.ok (.int (k:Int)) S:=by
 have q:((List.range 33).all λk=>decide ((VT k).length<=640)&&decide (wI (VT k)=Z9 (k:Int)))=Z7:=by decide
 have:=qD0.mp q k (qI8.mpr h);simp only[qC1,decide_eq_true_eq]at this;show(if(VT k).length<=640 then(match wI (VT k)with|some n=>R.ok (D.int n) S|none=>.bad)else .bad)=_;rw[if_pos this.1,this.2]
theorem bQ(h:k<64)(e:VT k=oS "0"):k=0:=by
 have q:((List.range 64).all λk=>!(decide (VT k=oS "0"))||decide (k=0))=Z7:=by decide
 grind
theorem bP(c:ZQ)(h:s<=k - 1)(S:ZU):O7 c [Z9 (.int s),Z9 (.int a),Z9 (.int k)] S=.ok (.int (wF (a / 2 ^ (k - 1 - s).toNat) 1)) S:=by simp[O7,h]
theorem bO(c:ZQ){k a:Nat}(f:1<=k)(e:k<=3)(b:a<2 ^ k)(S:ZU):∃st,(Zr k)[a]?=Z9 st/\YS [] .one (λ_=>ret Z7) (O7 c) [Z8,Z9 (.int (a:Int)),Z9 (.int (k:Int))] (YT 0 k) S=.ok (st.map D.int) S:=by
 have q:([1,2,3].all λk=>(List.range (2 ^ k)).all λa=>decide ((Zr k)[a]?=Z9 ((List.range k).map fun(s:Nat)=>wF (a / 2 ^ (k - 1 - (s:Int)).toNat) 1)))=Z7:=by decide
 have:=of_decide_eq_true (qD0.mp (qD0.mp q k (by simp;lia)) a (qI8.mpr b));refine⟨_,this,?_⟩;rw[qC6];refine V8 (fun(s:Nat)=>D.int (0+s)) (XP S) _ (List.range k) λs d=>⟨_,rfl,?_⟩
 have:=qI8.mp d;rw[Int.zero_add];exact bP c (by lia) S
theorem A0(N:ZH)(S:ZU):W6 N.d (Z9 1) Z8 S=.ok (.tup [.int N.pl,.tup (N.cs.map Ct.d)]) S:=rfl
theorem AZ(N:ZH)(a:Int)(S:ZU):ZI (.tup [.int a]) (.tup [.int N.pl,.tup (N.cs.map Ct.d)]) S=.ok (⟨a,N.pl,N.cs⟩:ZH).d S:=rfl
theorem fo(x y z:Str)(h:x.length+y.length<=1000)(e:x++y=z)(S:ZU):ZI (.str x) (.str y) S=.ok (.str z) S:=by rw[IQ h,e]
structure AY(cl:Nat->ZQ):Prop where
 z:HZ cl
 d:HD cl
 ds:CG cl
 tu:CH cl
 bi:CJ cl
theorem bN(S:ZU):ZI (.str (oS "function ")) (.str (oS "a")) S=.ok (.str (oS "function a")) S:=rfl
theorem bM(S:ZU):ZI (.str (oS "function ")) (.str (oS "b")) S=.ok (.str (oS "function b")) S:=rfl
theorem bL(S:ZU):ZI (.str (oS "function ")) (.str (oS "c")) S=.ok (.str (oS "function c")) S:=rfl
theorem bK(S:ZU):ZI (.str (oS "function ")) (.str (oS "d")) S=.ok (.str (oS "function d")) S:=rfl
theorem bJ(S:ZU):ZI (.str (oS "function ")) (.str (oS "e")) S=.ok (.str (oS "function e")) S:=rfl
theorem bI(ok:N.g)(h:(1:Int)∈Zw N):Vu N≠[]:=by
 rw[ID]at h;obtain⟨st,_,e⟩:=qC8.mp h;refine cn ok (st:=st) ?_;cases q:Zu N st with
 |true=>rfl
 |false=>rw[q]at e;exact absurd e (by decide)
theorem bH(h:(Vs N.cs w0).length<64):(Vu N).length<64:=by unfold Vu;rw[(Rt _).length_eq];exact h
theorem bG{N M:ZH}(gN:N.g)(f:M.g)(i:M.sw=N.sw)(c:ZQ)(g:ZA S b=Z9 ((Zw N).map D.int))(d:ZA S a=Z9 ((Zw M).map D.int)):
  YS [(b,(Zw N).map D.int),(a,(Zw M).map D.int)] (.many 2) (λ_=>ret Z7) (MS c) [Z8,Z8] ((Zr N.sw.toNat).map λst=>D.tup [.int (b1 (Zu N st)),.int (b1 (Zu M st))]) S=.ok ((Zw (N.row M)).map D.int) S:=by
 rw[eX gN f i,qC6];refine V8 _ (JI g d) _ _ λst _=>⟨[Z9 (.int (b1 (Zu N st))),Z9 (.int (b1 (Zu M st)))],rfl,?_⟩
 have e:Vj (b1 (Zu N st)) (b1 (Zu M st))=Z7:=by cases Zu N st<;>cases Zu M st<;>rfl
 have h:b1 (Zu N st)*b1 (Zu M st)=b1 (Zu N st&&Zu M st):=by cases Zu N st<;>cases Zu M st<;>rfl
 simp only[Function.comp];rw[<- h];generalize b1 (Zu N st)=x at *;generalize b1 (Zu M st)=y at *;simp[MS,e]
theorem bF{N M:ZH}(gN:N.g)(e:M.g)(h:M.sw=N.sw)(c:ZQ)(f:ZA S b=Z9 ((Zw N).map D.int))(d:ZA S a=Z9 ((Zw M).map D.int)):
  YS [(b,(Zw N).map D.int),(a,(Zw M).map D.int)] (.many 2) (λ_=>ret Z7) (MT c) [Z8,Z8] ((Zr N.sw.toNat).map λst=>D.tup [.int (b1 (Zu N st)),.int (b1 (Zu M st))]) S=.ok ((Zw (N.side M)).map D.int) S:=by
 rw[eW gN e h,qC6];refine V8 _ (JI f d) _ _ λst _=>⟨[Z9 (.int (b1 (Zu N st))),Z9 (.int (b1 (Zu M st)))],rfl,?_⟩
 have g:(if b1 (Zu M st)>b1 (Zu N st)then b1 (Zu M st)else b1 (Zu N st))=b1 (Zu N st||Zu M st):=by cases Zu N st<;>cases Zu M st<;>rfl
 simp only[Function.comp];rw[<- g];generalize b1 (Zu N st)=x at *;generalize b1 (Zu M st)=y at *;simp[MT]
theorem bE(h:ZA S l=Z9 [.str (oS "no"),.str (oS "yes")]):ZK (.lst l) (.int (b1 bb)) S=.ok (.str (if bb then oS "yes" else oS "no")) S:=by rw[Ve h];cases bb<;>rfl
inductive bD(r:RS)(sc:D)(jj:Int):Prop
 |mk (S':ZU) (v2 v3 v4 v5 v6 v7 v8 v9 v10 v11:Option D) (e:r=.nx [Z9 sc,Z9 (.int jj),v2,v3,v4,v5,v6,v7,v8,v9,v10,v11] S')
theorem bC(H:AY cl)(n:Nat)(ns:yA)(hj:0<=jj)(w2 w3 w4 w5 w6 w7 w8 w9 w10 w11:Option D)(S:ZU):bD (O6 (cl (n+33)) [Z9 (.rol (ns.map D.int)),Z9 (.int jj),w2,w3,w4,w5,w6,w7,w8,w9,w10,w11] S) (.rol (ns.map D.int)) jj:=by
 have ZZ:=H.z;have A:=H.d;have b:=A3;have d:=ZZ.dn.wo;obtain⟨S1,e1,x1,st1⟩:=ka A.st A.ce (n+31) ns jj hj S;obtain⟨i,hi⟩:∃i,S.length=i:=⟨_,rfl⟩
 rw[hi]at e1 st1;obtain⟨B,S2,e2,o1,k2,st2⟩:=Cv A.ne A.en A.ta (n+30) st1 (ms:=3) (mp:=4) (mc:=8) (by decide) (by decide) (by decide);obtain⟨C,S3,e3,o2,k3,W⟩:=Cv A.ne A.en A.ta (n+30) st2 (ms:=3) (mp:=4) (mc:=8) (by decide) (by decide) (by decide);obtain⟨mx,hmx⟩:∃mx:Int,(if C.sw>B.sw then C.sw else B.sw)=mx:=⟨_,rfl⟩
 have a1:=o1.s1;have a2:=o1.s2;have a3:=o2.s1;have a4:=o2.s2;have mb:1<=mx/\mx<=3/\B.sw<=mx/\C.sw<=mx:=by rw[<- hmx];split<;>lia
 have cok:∀{sw pl:Int}{c:Ct},c.ok sw pl->sw<=mx->c.ok mx pl:=λh hle=>by obtain⟨b1,b2,b3,b4,b5,b6,b7⟩:=h;exact⟨b1,b2,b3,b4,by lia,b6,b7⟩
 obtain⟨N,hN⟩:∃N:ZH,(⟨mx,B.pl,B.cs⟩:ZH)=N:=⟨_,rfl⟩
 obtain⟨M,hM⟩:∃M:ZH,(⟨mx,C.pl,C.cs⟩:ZH)=M:=⟨_,rfl⟩
 have g:N.ok 4 4 8:=hN▸⟨mb.1,by show mx<=4;lia,o1.p1,o1.p2,o1.c1,λc hc=>cok (o1.c2 c hc) mb.2.2.1⟩;have u:M.ok 4 4 8:=hM▸⟨mb.1,by show mx<=4;lia,o2.p1,o2.p2,o2.c1,λc hc=>cok (o2.c2 c hc) mb.2.2.2⟩;have swN:N.sw=mx:=by rw[<- hN]
 have swM:M.sw=mx:=by rw[<- hM]
 have hs:N.sw=M.sw:=by rw[swN,swM]
 have gN:=TH g;have gM:=TH u;have gR:=BA g u hs.symm;have gS:=Bz g u hs.symm;have gA:=BC gN;have T:=eS gN;have y:=cm gN (by have:=g.c1;lia);have fl:=bH y;have ad1:=AZ B mx;have ad2:=AZ C mx;rw[hN]at ad1;rw[hM]at ad2;obtain⟨S4,e4,x4,d4⟩:=bV ZZ H.ds n g u hs S3;obtain⟨o,ho⟩:∃o,S3.length=o:=⟨_,rfl⟩
 rw[ho]at e4 d4;have t:=HQ N.d M.d (N.row M).d (N.side M).d N.abt.d N.d N.trim.d;obtain⟨S5,e5,x5⟩:=RO ZZ (n:=n+1) (b 97 (by decide)) (XF d (z:=oS "show a") (by decide)) gN t.1 d4;have d5:=x5.at d4 λz=>z;obtain⟨S6,e6,x6⟩:=B6 ZZ.rd (n+28) gN S5;have d6:=x6.at d5 λz=>z;have q6:YG N.d N.d S6=.ok (.bl Z5) S6:=by rw[kP S6 (BK N) (BK N),Df];rfl
 obtain⟨S7,e7,x7⟩:=RO ZZ (n:=n+1) (b 102 (by decide)) (XF d (z:=oS "show f") (by decide)) gN t.2.2.2.2.2.1 d6;have d7:=x7.at d6 λz=>z;obtain⟨S8,e8,x8⟩:=RO ZZ (n:=n+1) (b 97 (by decide)) (XF d (z:=oS "show a") (by decide)) gN t.1 d7;have d8:=x8.at d7 λz=>z;obtain⟨S9,e9,x9⟩:=RO ZZ (n:=n+1) (b 101 (by decide)) (XF d (z:=oS "show e") (by decide)) gA t.2.2.2.2.1 d8;have d9:=x9.at d8 λz=>z;obtain⟨S10,e10,x10⟩:=cf H.tu (n+32) gN S9;obtain⟨S11,e11,E⟩:=OU ZZ.rd.nt ZZ.rd.ct (n+31) gA S10;have d11:=(x10.trans E).at d9 λz=>z;obtain⟨k7,S12,e12,x12,le7,l7⟩:=OJ H.bi (n+32) o (Vt gN).1 (Vt gN).2 bN (RN ZZ (n:=n) (b 97 (by decide)) (XF d (z:=oS "function a") (by decide)) gN t.1 d11);have d12:=x12.at d11 λz=>z;obtain⟨k8,S13,e13,Z,_,l8⟩:=OJ H.bi (n+32) o (Vt gM).1 (Vt gM).2 bM (RN ZZ (n:=n) (b 98 (by decide)) (XF d (z:=oS "function b") (by decide)) gM t.2.1 d12);have d13:=Z.at d12 λz=>z;obtain⟨kc,U,e14,x,_,lc⟩:=OJ H.bi (n+32) o (Vt gR).1 (Vt gR).2 bL (RN ZZ (n:=n) (b 99 (by decide)) (XF d (z:=oS "function c") (by decide)) gR t.2.2.1 d13);have d14:=x.at d13 λz=>z;have J:=(Z.trans x).lst l7 λz=>z;have G:=x.lst l8 λz=>z;have zz:zipD ((Zw N).map D.int) ((Zw M).map D.int)=(Zr N.sw.toNat).map λf=>D.tup [.int (b1 (Zu N f)),.int (b1 (Zu M f))]:=by rw[ID,ID,hs.symm,bT]
 have zl:((Zr N.sw.toNat).map λf=>D.tup [.int (b1 (Zu N f)),.int (b1 (Zu M f))]).length<lim:=by have:=(Vt gN).2;unfold Zw at this;rw[qA1]at this ⊢;rw[YL];lia
 have c14:=bG gN gM hs.symm (cl (n+33)) J G;obtain⟨S15,R⟩:∃S15,U++[O.lst ((Zw (N.row M)).map D.int)]=S15:=⟨_,rfl⟩
 have j:Ex U S15:=R▸Zf _ _;have q15:=HP (j.lst lc λz=>z) (show ZA S15 U.length=_ by rw[<- R];exact Y9 _ _);have d15:=j.at d14 λz=>z;obtain⟨kd,S16,e16,p,_,ld⟩:=OJ H.bi (n+32) o (Vt gS).1 (Vt gS).2 bK (RN ZZ (n:=n) (b 100 (by decide)) (XF d (z:=oS "function d") (by decide)) gS t.2.2.2.1 d15);have d16:=p.at d15 λz=>z;have l7b:=(j.trans p).lst J λz=>z;have l8b:=(j.trans p).lst G λz=>z;have c16:=bF gN gM hs.symm (cl (n+33)) l7b l8b;obtain⟨S17,Y⟩:∃S17,S16++[O.lst ((Zw (N.side M)).map D.int)]=S17:=⟨_,rfl⟩
 have s:Ex S16 S17:=Y▸Zf _ _;have q17:=HP (s.lst ld λz=>z) (show ZA S17 S16.length=_ by rw[<- Y];exact Y9 _ _);have d17:=s.at d16 λz=>z;obtain⟨ke,S18,e18,P,_,le⟩:=OJ H.bi (n+32) o (Vt gA).1 (Vt gA).2 bJ (RN ZZ (n:=n) (b 101 (by decide)) (XF d (z:=oS "function e") (by decide)) gA t.2.2.2.2.1 d17);have d18:=P.at d17 λz=>z;rw[eV gN]at le;have l7c:=(s.trans P).lst l7b λz=>z;have q18:=HP le l7c;obtain⟨S19,e19,I⟩:=cA ZZ (n:=n+1) (b 97 (by decide)) (b 103 (by decide)) (XF d (z:=oS "alike a g") (by decide)) gN T.ok T.sw.symm T.fn t.1 t.2.2.2.2.2.2.1 d18;have d19:=I.at d18 λz=>z;obtain⟨S20,e20,x20⟩:=RO ZZ (n:=n+1) (b 103 (by decide)) (XF d (z:=oS "show g") (by decide)) T.ok t.2.2.2.2.2.2.1 d19;have d20:=x20.at d19 λz=>z;obtain⟨S21,e21,x21⟩:=RO ZZ (n:=n+1) (b 97 (by decide)) (XF d (z:=oS "show a") (by decide)) gN t.1 d20;have d21:=x21.at d20 λz=>z;have tl:=ck N;obtain⟨k,hk⟩:∃k:Nat,mx=(k:Int):=⟨mx.toNat,by lia⟩
 have kb:1<=k/\k<=3:=by lia
 have kt:N.sw.toNat=k:=by lia
 have x421:Ex S4 S21:=x5.trans (x6.trans (x7.trans (x8.trans (x9.trans (x10.trans (E.trans (x12.trans (Z.trans (x.trans (j.trans (p.trans (s.trans (P.trans (I.trans (x20.trans x21)))))))))))))));have pw:(1:Int)*2 ^ mx.toNat=((2 ^ k:Nat):Int)/\0<2 ^ k/\2 ^ k<=8:=by
  have:k=1∨k=2∨k=3:=by lia
  subst hk;rcases this with rfl|rfl|rfl<;>decide
 have sh:∀S,Wb (.int 1) (.int mx) S=.ok (.int ((2 ^ k:Nat):Int)) S:=λS=>by rw[k0,if_pos ⟨by lia,by lia,by decide⟩,pw.1]
 obtain⟨r,w,e22,r0,r1,k22,_,_⟩:=Vy A.ta (n+32) ((W.ex x4).ex x421) (m:=((2 ^ k:Nat):Int)) (by lia) (by lia);have io:o≠i:=by have:=W.lt;lia
 have d22:=k22.at d21 io;obtain⟨a,ha⟩:∃a:Nat,r=(a:Int):=⟨r.toNat,by lia⟩
 obtain⟨f,hst,c22⟩:=bO (cl (n+33)) kb.1 kb.2 (show a<2 ^ k by lia) w;rw[<- ha,<- hk]at c22;have mk:mx.toNat=k:=by lia
 rw[<- mk]at c22;have mst:=qC2 hst;obtain⟨lst_,be⟩:=OX k f mst;have bst:∀v∈f,0<=v/\v<2:=λv hv=>by rcases be v hv with rfl|rfl<;>decide
 obtain⟨S23,h23⟩:∃S23,w++[O.lst (f.map D.int)]=S23:=⟨_,rfl⟩
 have x23:Ex w S23:=h23▸Zf _ _;have t23:Xu [.lst w.length] S23=.ok (.tup (f.map D.int)) S23:=UB (by rw[<- h23];exact Y9 _ _);obtain⟨S24,e24,x24⟩:=Bf ZZ.bt (n+32) (l:=f) (λv hv=>⟨(bst v hv).1,by have:=(bst v hv).2;lia⟩) (by lia) S23;have d24:=(x23.trans x24).at d22 λz=>z;have a25:=λS=>fo (oS "lets a ") (Xb f) _ (by rw[HX,show(oS "lets a ").length=7 by decide];lia) rfl S;obtain⟨S25,e25,x25⟩:=cz ZZ (n:=n+1) (b 97 (by decide)) (b9 d kb.1 kb.2 mst) gN bst (by lia) t.1 d24;have d25:=x25.at d24 λz=>z;obtain⟨S26,Q⟩:∃S26,S25++[O.lst [.str (oS "no"),.str (oS "yes")]]=S26:=⟨_,rfl⟩
 have x26:Ex S25 S26:=Q▸Zf _ _;have d26:=x26.at d25 λz=>z;have i7k:k7≠i:=by
  have h1:=W.lt;have h2:=(x4.trans (x5.trans (x6.trans (x7.trans (x8.trans (x9.trans (x10.trans E))))))).le
  lia
 have l7d:ZA S26 k7=Z9 ((Zw N).map D.int):=(x23.trans (x24.trans (x25.trans x26))).lst (k22.lst ((I.trans (x20.trans x21)).lst l7c λz=>z) i7k) λz=>z;have i7:ZK (.lst k7) (.int r) S26=.ok (.int (b1 (Zu N f))) S26:=by rw[Ve l7d,ha,UO (v:=.int (b1 (Zu N f))) (by unfold Zw;rw[kt,qC6,qB6,hst];rfl)]
 have iy:=bE (bb:=Zu N f) (show ZA S26 S25.length=_ by rw[<- Q];exact Y9 _ _);obtain⟨L,hL,Ll,S27,e27,x27⟩:=cI ZZ (n:=n+1) (S:=S26) (b 97 (by decide)) (XF d (z:=oS "bars a") (by decide)) gN t.1 d26;have d27:=x27.at d26 λz=>z;have Lp:=hL.ne;obtain⟨S28,e28,x28⟩:=H7 ZZ (n:=n+1) (b 97 (by decide)) (XF d (z:=oS "ways a") (by decide)) gN y t.1 d27;have d28:=x28.at d27 λz=>z;have q28:Zl (.str (VT (Vu N).length)) (.str (oS "0")) S28=.ok (.bl (decide (VT (Vu N).length=oS "0"))) S28:=rfl;have n28:=bS ((x27.trans x28).lst l7d λz=>z);have pm:(decide (VT (Vu N).length=oS "0")&&decide ((1:Int)∈Zw N))=Z5:=by
  cases h1:decide (VT (Vu N).length=oS "0")with
  |false=>rfl
  |true =>
   cases h2:decide ((1:Int)∈Zw N)with
   |false=>rfl
   |true =>
    have z0:=bQ fl (of_decide_eq_true h1);exact absurd (qF3.mp z0) (bI gN (of_decide_eq_true h2))
 obtain⟨S29,F⟩:∃S29,S28++[O.dk []]=S29:=⟨_,rfl⟩
 have x29:Ex S28 S29:=F▸Zf _ _;have d29:=x29.at d28 λz=>z;have b29:S29[S28.length]?=Z9 (.dk []):=by rw[<- F,qA2 (qA6 _),qD8];rfl
 have o28:o≠S28.length:=by have:=(qA5.mp d28).1;lia
 obtain⟨S30,e30,x30⟩:=RO ZZ (n:=n+1) (b 97 (by decide)) (XF d (z:=oS "show a") (by decide)) gN t.1 d29;have a30:=λS=>fo (oS "net x ") (X9 N) (Ze 120++X9 N) (by rw[show(oS "net x ").length=6 by decide];have:=OI N;have:=g.c1;lia) rfl S;obtain⟨S31,e31,k31,V⟩:=Ia ZZ (n:=n+1) (S:=S30) (b 120 (by decide)) gN (x30.at b29 λz=>z) (by decide);have X:=k31.at (x30.at d29 λz=>z) o28;rw[show Zo ([]:KD) (.inr (sg 120)) N.d=[(.inr (sg 120),N.d)]from rfl]at V;have tx:tv [(.inr (sg 120),N.d)] (sg 120)=Z9 N.d:=by kernel_rfl
 obtain⟨S32,e32,q⟩:=RN ZZ (n:=n+1) (b 120 (by decide)) (XF d (z:=oS "function x") (by decide)) gN tx V;obtain⟨S33,e33,K⟩:=RN ZZ (n:=n+1) (b 97 (by decide)) (XF d (z:=oS "function a") (by decide)) gN t.1 (q.at X λz=>z);have b33:=(q.trans K).at V λz=>z;obtain⟨S34,e34,x34⟩:=H7 ZZ (n:=n+1) (b 120 (by decide)) (XF d (z:=oS "ways x") (by decide)) gN y tx b33;obtain⟨S35,e35,x35⟩:=H7 ZZ (n:=n+1) (b 97 (by decide)) (XF d (z:=oS "ways a") (by decide)) gN y t.1 ((q.trans (K.trans x34)).at X λz=>z);obtain⟨S36,e36,x36⟩:=A2 ZZ (n:=n+1) (ns:=[sg 120]) (r:=oS "x") ((x34.trans x35).at b33 λz=>z) rfl (by decide) (by decide) (by decide) (by decide);obtain⟨S37,e37,x37⟩:=A2 ZZ (n:=n+1) (ns:=[sg 97,sg 98,sg 99,sg 100,sg 101,sg 102,sg 103]) (r:=oS "a b c d e f g") ((q.trans (K.trans (x34.trans (x35.trans x36)))).at X λz=>z) t.2.2.2.2.2.2.2 (by decide) (by decide) (by decide) (by decide);obtain⟨v2,v3,v4,v5,v6,v7,v8,v9,v10,v11,e⟩:=bU (cl (n+33)) (w2:=w2) (w3:=w3) (w4:=w4) (w5:=w5) (w6:=w6) (w7:=w7) (w8:=w8) (w9:=w9) (w10:=w10) (w11:=w11)
  e1 e2 e3 (ON B) (ON C) hmx (A0 B) (A0 C) ad1 ad2 e4 e5 e6 q6 e7 e8 ne_str e9 e10 e11 e12 e13 e14 J G zz zl c14 R q15 e16 l7b l8b c16 Y q17 e18 q18 e19 e20 (QY (MG T.ok)) e21 (QY (MG gN)) (by lia)
  sh e22 (by lia) (by lia) (by unfold YT;rw[qA1,qP6,YL];lia) c22 h23 t23 e24 a25 e25 Q i7 iy e27 (bR (by lia)) (by lia) e28 q28 n28 pm F e30 a30 e31 e32 e33 e34 e35 e36 e37
 exact⟨S37,v2,v3,v4,v5,v6,v7,v8,v9,v10,v11,e⟩
theorem bB(h:ki cl)(H:AY cl)(n:Nat)(ns:yA):∃S',cl (n+34) "law" [.rol (ns.map D.int)] []=.ok (.bl Z7) S':=by
 rw[show n+34=(n+33)+1 from rfl,h];have C:∃q:Int,(if(if(4:Int)<(ns.length:Int)then 4 else(ns.length:Int))>1 then(if(4:Int)<(ns.length:Int)then 4 else(ns.length:Int))else 1)=q/\0<=q/\q<=4:=⟨_,rfl,by split<;>(try split)<;>lia,by split<;>(try split)<;>lia⟩
 obtain⟨q,z,O,Q⟩:=C;obtain⟨L,A,G,s,l,i,o,f,r,m,k,p,a,c,rfl⟩:=UV (w:=[]) (g:=gN 1) (b:=O6 (cl (n+33))) (items:=YT 0 q.toNat)
  (λj B S=>∃s l i o f r m k p a c,B=[Z9 (.rol (ns.map D.int)),s,l,i,o,f,r,m,k,p,a,c]) (B:=[Z9 (.rol (ns.map D.int)),Z8,Z8,Z8,Z8,Z8,Z8,Z8,Z8,Z8,Z8,Z8]) (S:=[])
  (λj B S u=>XP _) ⟨Z8,Z8,Z8,Z8,Z8,Z8,Z8,Z8,Z8,Z8,Z8,rfl⟩
  (λj d B S t u=>by
   obtain⟨s,l,i,o,f,r,m,k,p,a,c,rfl⟩:=u;rw[Ja]at t;obtain⟨M,rfl⟩:=t;obtain⟨S',R,U,J,K,N,I,T,P,F,y,e⟩:=bC H n ns (jj:=0+(j:Int)) (by lia) l i o f r m k p a c S;exact⟨_,S,rfl,_,S',.inl e,_,_,_,_,_,_,_,_,_,_,_,rfl⟩)
 refine⟨A,Zj rfl ?_⟩;have x:Zv [.rol (ns.map D.int)] []=.ok (.int (ns.length:Int)) []:=by simp
 generalize D.rol (ns.map D.int)=sc at *;generalize (ns.length:Int)=nl at *;have E:-4611686018427387904<=q:=by lia
 have v:q<4611686018427387904:=by lia
 simp[MR,YY,x,z,E,v,G]
end Internal
set_option maxHeartbeats 4000000
namespace Internal
open PySem Lake
def tbl:Tj:=[(("is_whole":Str),(1,1,R5)),
 (("is_bit":Str),(1,1,Ti)),
 (("is_contact":Str),(3,3,Nz)),
 (("is_net":Str),(1,4,Ny)),
 (("settings":Str),(1,3,Nx)),
 (("is_shut":Str),(2,2,Nw)),
 (("places_from":Str),(2,5,Nt)),
 (("joins":Str),(1,1,Nr)),
 (("shut_contacts":Str),(2,2,Nq)),
 (("lets":Str),(2,2,Nn)),
 (("function_of":Str),(1,1,Nl)),
 (("moved_contact":Str),(2,2,Nk)),
 (("moved":Str),(2,2,Nj)),
 (("net_within":Str),(3,3,Ni)),
 (("in_row":Str),(2,5,PL)),
 (("side_by_side":Str),(2,4,PK)),
 (("about":Str),(1,1,PJ)),
 (("refuse_no_contact":Str),(2,2,Ng)),
 (("cut":Str),(2,2,Nf)),
 (("first_unlike":Str),(2,5,PH)),
 (("are_alike":Str),(2,2,Nc)),
 (("is_idle":Str),(2,2,Nb)),
 (("trimmed":Str),(1,3,PF)),
 (("contact_text":Str),(1,5,Q4)),
 (("net_text":Str),(1,3,PD)),
 (("bits_text":Str),(1,1,PC)),
 (("figure":Str),(1,1,M8)),
 (("has_lengths_of_net":Str),(1,1,PB)),
 (("contact_read":Str),(1,1,Pz)),
 (("net_read":Str),(1,3,Px)),
 (("is_choice":Str),(2,2,Pu)),
 (("without":Str),(2,2,M5)),
 (("join_beside":Str),(2,2,Pt)),
 (("is_bar":Str),(2,2,Pr)),
 (("far_end":Str),(2,2,Q3)),
 (("ways_on":Str),(3,7,R0)),
 (("all_ways":Str),(1,1,Pq)),
 (("halves_with_start":Str),(1,3,Pp)),
 (("out_of":Str),(2,2,Po)),
 (("all_bars":Str),(1,4,Pn)),
 (("setting_read":Str),(1,1,Pm)),
 (("name_read":Str),(1,1,Pl)),
 (("word_read":Str),(2,2,TR)),
 (("words_of":Str),(1,1,RY)),
 (("line_read":Str),(1,2,Pj)),
 (("refuse_unfit":Str),(1,1,TQ)),
 (("net_made":Str),(2,2,Vz)),
 (("answer_at":Str),(3,3,Pi)),
 (("alike_answer":Str),(2,3,Ph)),
 (("answer_of":Str),(2,2,UU)),
 (("answer":Str),(2,2,TN)),
 (("_law_cell_at":Str),(2,2,Pg)),
 (("_law_state":Str),(2,3,Pf)),
 (("_law_take":Str),(2,4,Pe)),
 (("_law_ends":Str),(2,5,Pd)),
 (("_law_net":Str),(4,13,Q2)),
 (("_law_bits":Str),(2,2,Pb)),
 (("_law_turned":Str),(1,8,O9)),
 (("_law_desk":Str),(2,4,O8)),
 (("law":Str),(1,12,MR)),
 (("Desk.with_nets":Str),(2,4,O5)),
 (("Desk.say":Str),(2,4,TM))]
def Y8(i:Nat):Stmt:=PySem.Challenge.pw_contactnets_k95_whole_desk.main.body.getD i (.Pass ⟨0,0,0,0⟩)
theorem hk{f g:Nat->yM->M D}(h:f=g)(n:Nat):f n=g n:=congrFun h n
def RM(s:vO)(j:Nat):Stmt:=match s with
 |.ClassDef (body:=b) ..=>b.getD j (.Pass ⟨0,0,0,0⟩)
 |_=>.Pass ⟨0,0,0,0⟩
abbrev HN:Stmt:=Y8 8
abbrev HL:Stmt:=Y8 9
abbrev HK:Stmt:=Y8 10
abbrev HJ:Stmt:=Y8 11
abbrev HH:Stmt:=Y8 12
abbrev HG:Stmt:=Y8 13
abbrev HE:Stmt:=Y8 15
abbrev HC:Stmt:=Y8 16
abbrev HB:Stmt:=Y8 17
abbrev HA:Stmt:=Y8 18
abbrev Hz:Stmt:=Y8 19
abbrev Hy:Stmt:=Y8 24
abbrev Hx:Stmt:=Y8 25
abbrev Hw:Stmt:=Y8 26
abbrev Hv:Stmt:=Y8 27
abbrev Hu:Stmt:=Y8 28
abbrev Ht:Stmt:=Y8 29
abbrev Hs:Stmt:=Y8 30
abbrev Hr:Stmt:=Y8 31
abbrev Hq:Stmt:=Y8 34
abbrev Ho:Stmt:=Y8 35
abbrev Hn:Stmt:=Y8 36
abbrev Hm:Stmt:=Y8 37
abbrev Hl:Stmt:=Y8 50
abbrev Hk:Stmt:=Y8 51
abbrev Hj:Stmt:=Y8 52
abbrev Hi:Stmt:=Y8 53
abbrev Hh:Stmt:=Y8 54
abbrev Hg:Stmt:=Y8 55
abbrev Hf:Stmt:=Y8 56
abbrev He:Stmt:=Y8 60
abbrev Hd:Stmt:=Y8 61
abbrev Hc:Stmt:=Y8 62
abbrev Hb:Stmt:=Y8 63
abbrev Ha:Stmt:=Y8 64
abbrev G9:Stmt:=Y8 65
abbrev G8:Stmt:=Y8 66
abbrev G7:Stmt:=Y8 67
abbrev G6:Stmt:=Y8 68
abbrev G5:Stmt:=Y8 69
abbrev G4:Stmt:=Y8 73
abbrev G3:Stmt:=Y8 75
abbrev G2:Stmt:=Y8 76
abbrev G1:Stmt:=Y8 77
abbrev G0:Stmt:=Y8 78
abbrev GZ:Stmt:=Y8 79
abbrev GY:Stmt:=Y8 80
abbrev GX:Stmt:=Y8 82
abbrev GW:Stmt:=Y8 83
abbrev GV:Stmt:=Y8 84
abbrev GU:Stmt:=Y8 85
abbrev GT:Stmt:=Y8 88
abbrev GS:Stmt:=Y8 89
abbrev GR:Stmt:=Y8 90
abbrev GQ:Stmt:=Y8 91
abbrev GP:Stmt:=Y8 92
abbrev GO:Stmt:=Y8 93
abbrev GN:Stmt:=Y8 94
abbrev GM:Stmt:=Y8 95
abbrev RL:Stmt:=Y8 96
abbrev OF:Stmt:=RM (Y8 86) 1
abbrev OE:Stmt:=RM (Y8 86) 2
abbrev Y7(x:Str)(N:yH)(st:vO)(b:ZQ->CS):Prop:=(λa:ZQ=>cSts (VC tbl) a 60 ⟨N,(YH st).names,Z9 x⟩ (XB st))=λa=>Z9 (b a)
theorem GL:Uz (Xd tbl):=hk (by kernel_rfl)
theorem bA:Y7 "is_whole" ["thing"] HN R5:=by kernel_rfl
theorem bz:Y7 "is_bit" ["thing"] HL Ti:=by kernel_rfl
theorem bx:Y7 "is_contact" ["switches","places","thing"] HK Nz:=by kernel_rfl
theorem bw:Y7 "is_net" ["thing","switches","places","contacts"] HJ Ny:=by kernel_rfl
theorem bu:Y7 "settings" ["switches","told","switch"] HH Nx:=by kernel_rfl
theorem br:Y7 "is_shut" ["contact","setting"] HG Nw:=by kernel_rfl
theorem AX:Th (Xd tbl):=hk (by kernel_rfl)
theorem bq:Y7 "places_from" ["start","contacts","found","grown","contact"] HE Nt:=by kernel_rfl
theorem AW:Q5 (Xd tbl):=hk (by kernel_rfl)
theorem bo:Y7 "joins" ["contacts"] HC Nr:=by kernel_rfl
theorem bj:Y7 "shut_contacts" ["net","setting"] HB Nq:=by kernel_rfl
theorem bh:Y7 "lets" ["net","setting"] HA Nn:=by kernel_rfl
theorem bg:Y7 "function_of" ["net"] Hz Nl:=by kernel_rfl
theorem bf:Y7 "moved_contact" ["contact","new"] Hy Nk:=by kernel_rfl
theorem bc:Y7 "moved" ["contacts","new"] Hx Nj:=by kernel_rfl
theorem aZ:Y7 "net_within" ["switches","places","contacts"] Hw Ni:=by kernel_rfl
theorem aY:Y7 "in_row" ["one","other","middle","first","second"] Hv PL:=by kernel_rfl
theorem aX:Y7 "side_by_side" ["one","other","places","second"] Hu PK:=by kernel_rfl
theorem aW:Y7 "about" ["net"] Ht PJ:=by kernel_rfl
theorem aV:Y7 "refuse_no_contact" ["net","number"] Hs Ng:=by kernel_rfl
theorem aU:Y7 "cut" ["net","number"] Hr Nf:=by kernel_rfl
theorem aT:Y7 "first_unlike" ["one","other","setting","first","second"] Hq PH:=by kernel_rfl
theorem aS:Y7 "are_alike" ["one","other"] Ho Nc:=by kernel_rfl
theorem aR:Y7 "is_idle" ["net","number"] Hn Nb:=by kernel_rfl
theorem aQ:Y7 "trimmed" ["net","left","number"] Hm PF:=by kernel_rfl
theorem aP:Y7 "contact_text" ["contact","a","b","switch","sign"] Hl Q4:=by kernel_rfl
theorem aO:Y7 "net_text" ["net","switches","places"] Hk PD:=by kernel_rfl
theorem aN:Y7 "bits_text" ["bits"] Hj PC:=by kernel_rfl
theorem aM:Y7 "figure" ["sign"] Hi M8:=by kernel_rfl
theorem aL:Y7 "has_lengths_of_net" ["words"] Hh PB:=by kernel_rfl
theorem aK:Y7 "contact_read" ["word"] Hg Pz:=by kernel_rfl
theorem aJ:Y7 "net_read" ["text","words","net"] Hf Px:=by kernel_rfl
theorem aI:Y7 "is_choice" ["net","thing"] He Pu:=by kernel_rfl
theorem aH:Y7 "without" ["some","number"] Hd M5:=by kernel_rfl
theorem aG:Y7 "join_beside" ["net","some"] Hc Pt:=by kernel_rfl
theorem aF:Y7 "is_bar" ["net","thing"] Hb Pr:=by kernel_rfl
theorem aE:Y7 "far_end" ["contact","place"] Ha Q3:=by kernel_rfl
theorem aD:Y7 "ways_on" ["contacts","been","taken","found","number","contact","far"] G9 R0:=by kernel_rfl
theorem aB:Y7 "all_ways" ["net"] G8 Pq:=by kernel_rfl
theorem aA:Y7 "halves_with_start" ["places","told","place"] G7 Pp:=by kernel_rfl
theorem az:Y7 "out_of" ["net","half"] G6 Po:=by kernel_rfl
theorem ay:Y7 "all_bars" ["net","found","half","some"] G5 Pn:=by kernel_rfl
theorem ax:Y7 "setting_read" ["word"] G4 Pm:=by kernel_rfl
theorem av:Y7 "name_read" ["word"] G3 Pl:=by kernel_rfl
theorem au:Y7 "word_read" ["kind","word"] G2 TR:=by kernel_rfl
theorem aq:Y7 "words_of" ["line"] G1 RY:=by kernel_rfl
theorem ak:Y7 "line_read" ["words","kinds"] G0 Pj:=by kernel_rfl
theorem aj:Y7 "refuse_unfit" ["asked"] GZ TQ:=by kernel_rfl
theorem ai:Y7 "net_made" ["verb","asked"] GY Vz:=by kernel_rfl
theorem ah:Y7 "answer_at" ["verb","net","setting"] GX Pi:=by kernel_rfl
theorem ag:Y7 "alike_answer" ["one","other","setting"] GW Ph:=by kernel_rfl
theorem af:Y7 "answer_of" ["verb","net"] GV UU:=by kernel_rfl
theorem ae:Y7 "answer" ["verb","asked"] GU TN:=by kernel_rfl
theorem zJa:Y7 "_law_cell_at" ["_law_script","_law_k"] GT Pg:=by kernel_rfl
theorem zMh:Y7 "_law_state" ["_law_script","_law_k","_law_cell"] GS Pf:=by kernel_rfl
theorem zOe:Y7 "_law_take" ["_law_state_here","_law_many","_law_found","_law_mixed"] GR Pe:=by kernel_rfl
theorem zOf:Y7 "_law_ends" ["_law_state_here","_law_places","_law_row","_law_one","_law_other"] GQ Pd:=by kernel_rfl
theorem zQG:Y7 "_law_net" ["_law_state_here","_law_most_switches","_law_most_places","_law_most_contacts","_law_switches","_law_places","_law_rows","_law_row","_law_one","_law_other","_law_turn","_law_mixed","_law_contact"] GP Q2:=by kernel_rfl
theorem zOh:Y7 "_law_bits" ["_law_desk_here","_law_name"] GO Pb:=by kernel_rfl
theorem zKt:Y7 "_law_turned" ["_law_net_here","_law_found","_law_a","_law_b","_law_switch","_law_on","_law_one","_law_other"] GN O9:=by kernel_rfl
theorem zOg:Y7 "_law_desk" ["_law_one","_law_other","_law_desk_here","_law_line"] GM O8:=by kernel_rfl
theorem AV:X4 ["_law_script","_law_k","_law_state_here","_law_one","_law_other","_law_switches","_law_desk_here","_law_a","_law_b","_law_at","_law_setting","_law_second"] ["_law_script"] (YH RL)=Z7:=by decide
theorem AU:Y7 "law" ["_law_script","_law_k","_law_state_here","_law_one","_law_other","_law_switches","_law_desk_here","_law_a","_law_b","_law_at","_law_setting","_law_second"] RL MR:=by kernel_rfl
theorem zGr:X4 ["self","asked","told","kind"] ["self","asked"] (YH OF)=Z7:=by decide
theorem zGw:Y7 "Desk.with_nets" ["self","asked","told","kind"] OF O5:=by kernel_rfl
theorem zNZ:X4 ["self","line","words","asked"] ["self","line"] (YH OE)=Z7:=by decide
theorem zOl:Y7 "Desk.say" ["self","line","words","asked"] OE TM:=by kernel_rfl
theorem zVJ(ns:yA)(h:ns.length<=63):∃S',Xd tbl 100 "law" [.rol (ns.map D.int)] []=.ok (.bl Z7) S':=bB (hk (by kernel_rfl)) ⟨⟨⟨hk (by kernel_rfl),hk (by kernel_rfl),hk (by kernel_rfl),hk (by kernel_rfl),hk (by kernel_rfl),hk (by kernel_rfl),hk (by kernel_rfl),hk (by kernel_rfl),hk (by kernel_rfl),hk (by kernel_rfl),hk (by kernel_rfl),hk (by kernel_rfl)⟩,⟨hk (by kernel_rfl),hk (by kernel_rfl),hk (by kernel_rfl),hk (by kernel_rfl),hk (by kernel_rfl),hk (by kernel_rfl),hk (by kernel_rfl),hk (by kernel_rfl),hk (by kernel_rfl),GL⟩,⟨hk (by kernel_rfl),hk (by kernel_rfl)⟩,hk (by kernel_rfl),hk (by kernel_rfl),hk (by kernel_rfl),hk (by kernel_rfl),⟨⟨hk (by kernel_rfl),hk (by kernel_rfl),AX,AW,hk (by kernel_rfl),hk (by kernel_rfl),hk (by kernel_rfl)⟩,hk (by kernel_rfl),hk (by kernel_rfl),GL,hk (by kernel_rfl),hk (by kernel_rfl),hk (by kernel_rfl)⟩,hk (by kernel_rfl),hk (by kernel_rfl),⟨hk (by kernel_rfl),hk (by kernel_rfl),hk (by kernel_rfl)⟩,⟨hk (by kernel_rfl),hk (by kernel_rfl),hk (by kernel_rfl),⟨hk (by kernel_rfl),hk (by kernel_rfl),hk (by kernel_rfl),hk (by kernel_rfl),AW,AX,GL⟩⟩,hk (by kernel_rfl)⟩,⟨hk (by kernel_rfl),hk (by kernel_rfl),hk (by kernel_rfl),hk (by kernel_rfl),hk (by kernel_rfl)⟩,hk (by kernel_rfl),hk (by kernel_rfl),hk (by kernel_rfl)⟩ 66 ns
def DF(K:yQ)(n:Str)(st:vO):Prop:=∃(f:yR) (e b:Option yR) (d:Array (yF)) (i kV g h a c:yT),mV K jC n=Z9 (Z9 (.ref f))/\K.lookup f=Z9 ⟨i,e,.func (fO n n (Vp st) (XB st) (YH st) .none kV g h b a c),d⟩/\lF K a n=Z7/\wG K (.ref f)=Z7
theorem mkDF{e:Array (yF)}{i kV j m b g:yT}(a:mV K jC n=Z9 (Z9 (.ref f)))(l:K.lookup f=Z9 ⟨i,h,.func (fO n n (Vp st) (XB st) (YH st) .none kV j m d b g),e⟩)(c:lF K b n=Z7)(k:wG K (.ref f)=Z7):DF K n st:=⟨f,h,d,e,i,kV,j,m,b,g,a,l,c,k⟩
theorem DF.in{m:Str->yF}(d:DF K n st)(X:K.In h)(G:h.Ns jC m):∃(f:yR) (kV g j:yT) (b:Option yR) (i e:yT),m n=Z9 (.ref f)/\V3 K n n st f (fO n n (Vp st) (XB st) (YH st) .none kV g j b i e):=by obtain⟨f,p,b,o,q,kV,g,j,i,e,a,l,c,k⟩:=d;exact⟨f,kV,g,j,b,i,e,W.mg_of X G a,LD l c k⟩
def ZN(K:yQ):yH->Prop
 |[]=>True
 |x::r=>mV K jC x=Z9 Z8/\ZN K r
theorem ZN.none(X:K.In h)(G:h.Ns jC a):∀{l:yH},ZN K l->NM a l
 |[],_=>True.intro
 |_::_,z=>⟨W.mg_none_of X G z.1,z.2.none X G⟩
def OD(K:yQ)(x z:Str):Bool:=match mV K jC x with
 |some (Z9 (.str y _))=>decide (y=z)
 |_=>Z5
def AS(K:yQ):Bool:=NX.all (λp=>OD K p.1 p.2)
theorem zax{b:Str->yF}(X:K.In h)(G:h.Ns jC b)(a:AS K=Z7)(x z:Str)(e:NX.lookup x=Z9 z):∃t,b x=Z9 (.str z t):=by
 have q:=qD0.mp a _ (Dx e);unfold OD at q;dsimp only at q;split at q
 .rename_i y t c;rw[of_decide_eq_true q]at c;exact⟨t,W.mg_of X G c⟩
 .cases q
def BP(st:vO)(n:Str)(ps:yH)(kV b e:yT)(c:Option yR)(a d:yT)(us:yB):Prop:=bindArgs (fO n n (Vp st) (XB st) (YH st) .none kV b e c a d) ⟨us,[]⟩=pure (ps.zip us)
def BF(st:vO)(n:Str)(ps:yH):Prop:=∀(kV b f:yT) (d:Option yR) (a e:yT) (c:yB),c.length=ps.length->BP st n ps kV b f d a e c
theorem Y1{c:Str->yF}{a np nN:Nat}(d:DF K x st)(X:K.In h)(G:h.Ns jC c)(g:BF st x ps)(e:X4 N ps (YH st)=Z7)
  (j:(λcl:ZQ=>cSts ar cl a ⟨N,(YH st).names,Z9 x⟩ (XB st))=λcl=>Z9 (b cl)) (f:ps.length=np:=by rfl) (i:N.length=nN:=by rfl):R9 K c ar x (np,nN,b):=by obtain⟨_,_,_,_,_,_,_,m,F⟩:=d.in X G;exact lD F m (F.binds (ps:=ps) g) e j f i
theorem Ms:∀us:yB,us.length=n+1->∃a r,us=a::r/\r.length=n
 |a::r,h=>⟨a,r,rfl,Nat.succ.inj h⟩
theorem us0{P:yB->Prop}(h:P [])(us:yB)(a:us.length=0):P us:=by rw[List.eq_nil_of_length_eq_zero a];exact h
theorem GK{P:yB->Prop}(h:∀d:yT,P [d])(us:yB)(c:us.length=1):P us:=by obtain⟨a,r,rfl,b⟩:=Ms us c;exact us0 (P:=λr=>P (a::r)) (h a) r b
theorem Mr{P:yB->Prop}(h:∀d e:yT,P [d,e])(us:yB)(c:us.length=2):P us:=by obtain⟨a,r,rfl,b⟩:=Ms us c;exact GK (P:=λr=>P (a::r)) (h a) r b
theorem AR{P:yB->Prop}(h:∀d e f:yT,P [d,e,f])(us:yB)(c:us.length=3):P us:=by obtain⟨a,r,rfl,b⟩:=Ms us c;exact Mr (P:=λr=>P (a::r)) (h a) r b
theorem us4{P:yB->Prop}(h:∀d e f g:yT,P [d,e,f,g])(us:yB)(c:us.length=4):P us:=by obtain⟨a,r,rfl,b⟩:=Ms us c;exact AR (P:=λr=>P (a::r)) (h a) r b
theorem Xx {st n a}(h:∀c d p e f g b,BP st n [a] c d p e f g [b]):BF st n [a]:=λc d p e f g=>GK (P:=BP st n [a] c d p e f g) (h c d p e f g)
theorem X3 {st n a b}(h:∀c d p e f g i j,BP st n [a,b] c d p e f g [i,j]):BF st n [a,b]:=λc d p e f g=>Mr (P:=BP st n [a,b] c d p e f g) (h c d p e f g)
theorem Mq {st n a b i}(h:∀c d p e f g l k j,BP st n [a,b,i] c d p e f g [l,k,j]):BF st n [a,b,i]:=λc d p e f g=>AR (P:=BP st n [a,b,i] c d p e f g) (h c d p e f g)
theorem bf4 {st n a b i j}(h:∀c d p e f g l m k o,BP st n [a,b,i,j] c d p e f g [l,m,k,o]):BF st n [a,b,i,j]:=λc d p e f g=>us4 (P:=BP st n [a,b,i,j] c d p e f g) (h c d p e f g)
theorem zOD:BF HN "is_whole" ["thing"]:=Xx λ_ _ _ _ _ _ _=>rfl
theorem zUa:BF HL "is_bit" ["thing"]:=Xx λ_ _ _ _ _ _ _=>rfl
theorem zKF:BF HK "is_contact" ["switches","places","thing"]:=Mq λ_ _ _ _ _ _ _ _ _=>rfl
theorem zU9:BF HJ "is_net" ["thing"]:=Xx λ_ _ _ _ _ _ _=>rfl
theorem zOv:BF HH "settings" ["switches"]:=Xx λ_ _ _ _ _ _ _=>rfl
theorem zQS:BF HG "is_shut" ["contact","setting"]:=X3 λ_ _ _ _ _ _ _ _=>rfl
theorem zJd:BF HE "places_from" ["start","contacts"]:=X3 λ_ _ _ _ _ _ _ _=>rfl
theorem zWA:BF HC "joins" ["contacts"]:=Xx λ_ _ _ _ _ _ _=>rfl
theorem zH4:BF HB "shut_contacts" ["net","setting"]:=X3 λ_ _ _ _ _ _ _ _=>rfl
theorem za1:BF HA "lets" ["net","setting"]:=X3 λ_ _ _ _ _ _ _ _=>rfl
theorem zJg:BF Hz "function_of" ["net"]:=Xx λ_ _ _ _ _ _ _=>rfl
theorem zH5:BF Hy "moved_contact" ["contact","new"]:=X3 λ_ _ _ _ _ _ _ _=>rfl
theorem zWz:BF Hx "moved" ["contacts","new"]:=X3 λ_ _ _ _ _ _ _ _=>rfl
theorem zKD:BF Hw "net_within" ["switches","places","contacts"]:=Mq λ_ _ _ _ _ _ _ _ _=>rfl
theorem zUc:BF Hv "in_row" ["one","other"]:=X3 λ_ _ _ _ _ _ _ _=>rfl
theorem zIz:BF Hu "side_by_side" ["one","other"]:=X3 λ_ _ _ _ _ _ _ _=>rfl
theorem zWB:BF Ht "about" ["net"]:=Xx λ_ _ _ _ _ _ _=>rfl
theorem zEZ:BF Hs "refuse_no_contact" ["net","number"]:=X3 λ_ _ _ _ _ _ _ _=>rfl
theorem zdQ:BF Hr "cut" ["net","number"]:=X3 λ_ _ _ _ _ _ _ _=>rfl
theorem zIC:BF Hq "first_unlike" ["one","other"]:=X3 λ_ _ _ _ _ _ _ _=>rfl
theorem zMK:BF Ho "are_alike" ["one","other"]:=X3 λ_ _ _ _ _ _ _ _=>rfl
theorem zQT:BF Hn "is_idle" ["net","number"]:=X3 λ_ _ _ _ _ _ _ _=>rfl
theorem zQQ:BF Hm "trimmed" ["net"]:=Xx λ_ _ _ _ _ _ _=>rfl
theorem zID:BF Hl "contact_text" ["contact"]:=Xx λ_ _ _ _ _ _ _=>rfl
theorem zOw:BF Hk "net_text" ["net"]:=Xx λ_ _ _ _ _ _ _=>rfl
theorem zMJ:BF Hj "bits_text" ["bits"]:=Xx λ_ _ _ _ _ _ _=>rfl
theorem zUd:BF Hi "figure" ["sign"]:=Xx λ_ _ _ _ _ _ _=>rfl
theorem zEv:BF Hh "has_lengths_of_net" ["words"]:=Xx λ_ _ _ _ _ _ _=>rfl
theorem zIE:BF Hg "contact_read" ["word"]:=Xx λ_ _ _ _ _ _ _=>rfl
theorem zOx:BF Hf "net_read" ["text"]:=Xx λ_ _ _ _ _ _ _=>rfl
theorem zMI:BF He "is_choice" ["net","thing"]:=X3 λ_ _ _ _ _ _ _ _=>rfl
theorem zQO:BF Hd "without" ["some","number"]:=X3 λ_ _ _ _ _ _ _ _=>rfl
theorem zJf:BF Hc "join_beside" ["net","some"]:=X3 λ_ _ _ _ _ _ _ _=>rfl
theorem zUb:BF Hb "is_bar" ["net","thing"]:=X3 λ_ _ _ _ _ _ _ _=>rfl
theorem zQU:BF Ha "far_end" ["contact","place"]:=X3 λ_ _ _ _ _ _ _ _=>rfl
theorem zQP:BF G9 "ways_on" ["contacts","been","taken"]:=Mq λ_ _ _ _ _ _ _ _ _=>rfl
theorem zOE:BF G8 "all_ways" ["net"]:=Xx λ_ _ _ _ _ _ _=>rfl
theorem zF0:BF G7 "halves_with_start" ["places"]:=Xx λ_ _ _ _ _ _ _=>rfl
theorem zU8:BF G6 "out_of" ["net","half"]:=X3 λ_ _ _ _ _ _ _ _=>rfl
theorem zOF:BF G5 "all_bars" ["net"]:=Xx λ_ _ _ _ _ _ _=>rfl
theorem zIA:BF G4 "setting_read" ["word"]:=Xx λ_ _ _ _ _ _ _=>rfl
theorem zMF:BF G3 "name_read" ["word"]:=Xx λ_ _ _ _ _ _ _=>rfl
theorem zME:BF G2 "word_read" ["kind","word"]:=X3 λ_ _ _ _ _ _ _ _=>rfl
theorem zOu:BF G1 "words_of" ["line"]:=Xx λ_ _ _ _ _ _ _=>rfl
theorem zMG:BF G0 "line_read" ["words"]:=Xx λ_ _ _ _ _ _ _=>rfl
theorem zIB:BF GZ "refuse_unfit" ["asked"]:=Xx λ_ _ _ _ _ _ _=>rfl
theorem zOy:BF GY "net_made" ["verb","asked"]:=X3 λ_ _ _ _ _ _ _ _=>rfl
theorem zMM:BF GX "answer_at" ["verb","net","setting"]:=Mq λ_ _ _ _ _ _ _ _ _=>rfl
theorem zIF:BF GW "alike_answer" ["one","other"]:=X3 λ_ _ _ _ _ _ _ _=>rfl
theorem zML:BF GV "answer_of" ["verb","net"]:=X3 λ_ _ _ _ _ _ _ _=>rfl
theorem zUe:BF GU "answer" ["verb","asked"]:=X3 λ_ _ _ _ _ _ _ _=>rfl
theorem zJe:BF GT "_law_cell_at" ["_law_script","_law_k"]:=X3 λ_ _ _ _ _ _ _ _=>rfl
theorem zMH:BF GS "_law_state" ["_law_script","_law_k"]:=X3 λ_ _ _ _ _ _ _ _=>rfl
theorem zOz:BF GR "_law_take" ["_law_state_here","_law_many"]:=X3 λ_ _ _ _ _ _ _ _=>rfl
theorem zOA:BF GQ "_law_ends" ["_law_state_here","_law_places"]:=X3 λ_ _ _ _ _ _ _ _=>rfl
theorem zQR:BF GP "_law_net" ["_law_state_here","_law_most_switches","_law_most_places","_law_most_contacts"]:=bf4 λ_ _ _ _ _ _ _ _ _ _=>rfl
theorem zOC:BF GO "_law_bits" ["_law_desk_here","_law_name"]:=X3 λ_ _ _ _ _ _ _ _=>rfl
theorem zKE:BF GN "_law_turned" ["_law_net_here"]:=Xx λ_ _ _ _ _ _ _=>rfl
theorem zOB:BF GM "_law_desk" ["_law_one","_law_other"]:=X3 λ_ _ _ _ _ _ _ _=>rfl
theorem zdP:BF RL "law" ["_law_script"]:=Xx λ_ _ _ _ _ _ _=>rfl
abbrev Mp:Stmt:=RM (Y8 86) 0
def MF(K:yQ)(C:yR)(m q:Str)(st:vO):Prop:=∃(f:yR) (e b:Option yR) (d:Array (yF)) (i kV g h a c:yT),wB K (.ref C) m=Z9 (Z9 (.ref f))/\W.isFn K (.ref f)=Z7/\K.lookup f=Z9 ⟨i,e,.func (fO m q (Vp st) (XB st) (YH st) .none kV g h b a c),d⟩/\lF K a q=Z7/\wG K (.ref f)=Z7
theorem mkMF{C:yR}{e:Array (yF)}{o kV j n b g:yT}(a:wB K (.ref C) m=Z9 (Z9 (.ref f)))(i:W.isFn K (.ref f)=Z7)(l:K.lookup f=Z9 ⟨o,h,.func (fO m q (Vp st) (XB st) (YH st) .none kV j n d b g),e⟩)(c:lF K b q=Z7)(k:wG K (.ref f)=Z7):MF K C m q st:=⟨f,h,d,e,o,kV,j,n,b,g,a,i,l,c,k⟩
def Mo(st:vO)(n q:Str)(ps:yH)(kV b e:yT)(c:Option yR)(a d:yT)(us:yB):Prop:=bindArgs (fO n q (Vp st) (XB st) (YH st) .none kV b e c a d) ⟨us,[]⟩=pure (ps.zip us)
def OC(st:vO)(n q:Str)(ps:yH):Prop:=∀(kV b f:yT) (d:Option yR) (a e:yT) (c:yB),c.length=ps.length->Mo st n q ps kV b f d a e c
theorem AQ{C:yR}{e np nN:Nat}(d:MF K C m q st)(j:Ws K C)(cl:WO K C)(p:OC st m q ps)(g:X4 N ps (YH st)=Z7)(s:m ≠ "kept")(h:q ≠ "law")
  (t:(λcl:ZQ=>cSts ar cl e ⟨N,(YH st).names,Z9 q⟩ (XB st))=λcl=>Z9 (b cl)) (n:ps.length=np:=by rfl) (r:N.length=nN:=by rfl):NN K ar m q (np,nN,b):=by obtain⟨f,y,v,u,A,kV,o,w,z,x,a,i,l,c,k⟩:=d;have F:=LD (st:=st) l c k;exact⟨st,f,_,N,ps,e,C,F,j,cl,⟨a,i,k⟩,F.binds (ps:=ps) p,g,n,r,s,h,λcl=>congrFun t cl⟩
theorem zg7{e:Str->yF}{C:yR}(d:MF K C "__init__" q st)(cl:WO K C)(r:Vr K C "kept")(m:e "Desk"=Z9 (.ref C))(o:uE K C=Z7)(t:wG K (.ref C)=Z7)(w:OC st "__init__" q ["self"])(p:X4 ["self"] ["self"] (YH st)=Z7)(u:XB st=KS "kept" n b h j)(s:(YH st).names.lookup ("self":Str)=Z9 NameKind.local):∃g,Ug K e "Desk" "kept" C g:=by obtain⟨f,B,y,x,E,kV,v,z,D,A,a,i,l,c,k⟩:=d;have F:=LD (st:=st) l c k;exact⟨f,cl,r,m,⟨o,a,i,t⟩,q,st,_,n,b,h,j,F,Dz p,F.binds (ps:=["self"]) w,u,s⟩
theorem zMN:OC Mp "__init__" "Desk.__init__" ["self"]:=λkV b e c a d=>GK (P:=Mo Mp "__init__" "Desk.__init__" ["self"] kV b e c a d) (λ_=>rfl)
theorem zGx:OC OF "with_nets" "Desk.with_nets" ["self","asked"]:=λkV b e c a d=>Mr (P:=Mo OF "with_nets" "Desk.with_nets" ["self","asked"] kV b e c a d) (λ_ _=>rfl)
theorem zOG:OC OE "say" "Desk.say" ["self","line"]:=λkV b e c a d=>Mr (P:=Mo OE "say" "Desk.say" ["self","line"] kV b e c a d) (λ_ _=>rfl)
theorem zM4:X4 ["self"] ["self"] (YH Mp)=Z7:=by decide
theorem all_mk{l:W.OpenLaw}{mg:Str->yF}(X:K.In h)(G:h.Ns jC mg)(hfa:mg "law"=Z9 (.ref fa))
  (d1:DF K "is_whole" HN) (d2:DF K "is_bit" HL) (d3:DF K "is_contact" HK) (d4:DF K "is_net" HJ) (d5:DF K "settings" HH) (d6:DF K "is_shut" HG) (d7:DF K "places_from" HE) (d8:DF K "joins" HC) (d9:DF K "shut_contacts" HB) (i:DF K "lets" HA) (d:DF K "function_of" Hz) (Q:DF K "moved_contact" Hy) (k:DF K "moved" Hx) (d14:DF K "net_within" Hw) (H:DF K "in_row" Hv) (D:DF K "side_by_side" Hu) (d17:DF K "about" Ht) (d18:DF K "refuse_no_contact" Hs) (B:DF K "cut" Hr) (M:DF K "first_unlike" Hq) (d21:DF K "are_alike" Ho) (d22:DF K "is_idle" Hn) (j:DF K "trimmed" Hm) (d24:DF K "contact_text" Hl) (O:DF K "net_text" Hk) (Z:DF K "bits_text" Hj) (V:DF K "figure" Hi) (Y:DF K "has_lengths_of_net" Hh) (o:DF K "contact_read" Hg) (d30:DF K "net_read" Hf) (P:DF K "is_choice" He) (d32:DF K "without" Hd) (S:DF K "join_beside" Hc) (d34:DF K "is_bar" Hb) (N:DF K "far_end" Ha) (d36:DF K "ways_on" G9) (J:DF K "all_ways" G8) (d38:DF K "halves_with_start" G7) (d39:DF K "out_of" G6) (d40:DF K "all_bars" G5) (d41:DF K "setting_read" G4) (d42:DF K "name_read" G3) (R:DF K "word_read" G2) (d44:DF K "words_of" G1) (T:DF K "line_read" G0) (d46:DF K "refuse_unfit" GZ) (d47:DF K "net_made" GY) (I:DF K "answer_at" GX) (d49:DF K "alike_answer" GW) (d50:DF K "answer_of" GV) (d51:DF K "answer" GU) (f:DF K "_law_cell_at" GT) (d53:DF K "_law_state" GS) (g:DF K "_law_take" GR) (E:DF K "_law_ends" GQ) (U:DF K "_law_net" GP) (t:DF K "_law_bits" GO) (d58:DF K "_law_turned" GN) (r:DF K "_law_desk" GM) (b:DF K "law" RL) (z:ZN K P9) (tx:AS K=Z7)
  (c:mV K jC "Desk"=Z9 (Z9 (.ref CD))) (m0:MF K CD "__init__" "Desk.__init__" Mp) (m1:MF K CD "with_nets" "Desk.with_nets" OF) (m2:MF K CD "say" "Desk.say" OE)
  (pg:lK K CD Str.empty=Z7) (hd:mJ K CD=Z7) (po:uI K CD=Z7) (sa:wB K (.ref CD) "__setattr__"=Z9 (Z9 (.builtin "object.__setattr__"))) (mk:uE K CD=Z7) (kc:wG K (.ref CD)=Z7) (nK:wB K (.ref CD) "kept"=Z9 Z8)
  (fN:mV K jC "FORMS"=Z9 (Z9 (.ref FA))) (fB:JL K FA=Z7) (fH:R8 K FA=WG.map λp=>uQ w p.1)
  : ∃fd:j4,(∀(s:yS) (v:yT),dL s fd ⟨[v],[]⟩ [("_law_script",v)])/\∀base:y9,K.In base->base.Ns jC mg->Yw l.prog w K mg base VP (100+2) fa fd ["_law_script"] (JN K):=by
 obtain⟨_,kV,dc,pm,an,cd,ct,m,F⟩:=b.in X G;have e:=hfa.symm.trans m;cases e;have A:VB K mg (VC tbl) tbl:=And.intro (Or.inr (Y1 d1 X G zOD (by decide) bA)) (And.intro (Or.inr (Y1 d2 X G zUa (by decide) bz)) (And.intro (Or.inr (Y1 d3 X G zKF (by decide) bx)) (And.intro (Or.inr (Y1 d4 X G zU9 (by decide) bw)) (And.intro (Or.inr (Y1 d5 X G zOv (by decide) bu)) (And.intro (Or.inr (Y1 d6 X G zQS (by decide) br)) (And.intro (Or.inr (Y1 d7 X G zJd (by decide) bq)) (And.intro (Or.inr (Y1 d8 X G zWA (by decide) bo)) (And.intro (Or.inr (Y1 d9 X G zH4 (by decide) bj)) (And.intro (Or.inr (Y1 i X G za1 (by decide) bh)) (And.intro (Or.inr (Y1 d X G zJg (by decide) bg)) (And.intro (Or.inr (Y1 Q X G zH5 (by decide) bf)) (And.intro (Or.inr (Y1 k X G zWz (by decide) bc)) (And.intro (Or.inr (Y1 d14 X G zKD (by decide) aZ)) (And.intro (Or.inr (Y1 H X G zUc (by decide) aY)) (And.intro (Or.inr (Y1 D X G zIz (by decide) aX)) (And.intro (Or.inr (Y1 d17 X G zWB (by decide) aW)) (And.intro (Or.inr (Y1 d18 X G zEZ (by decide) aV)) (And.intro (Or.inr (Y1 B X G zdQ (by decide) aU)) (And.intro (Or.inr (Y1 M X G zIC (by decide) aT)) (And.intro (Or.inr (Y1 d21 X G zMK (by decide) aS)) (And.intro (Or.inr (Y1 d22 X G zQT (by decide) aR)) (And.intro (Or.inr (Y1 j X G zQQ (by decide) aQ)) (And.intro (Or.inr (Y1 d24 X G zID (by decide) aP)) (And.intro (Or.inr (Y1 O X G zOw (by decide) aO)) (And.intro (Or.inr (Y1 Z X G zMJ (by decide) aN)) (And.intro (Or.inr (Y1 V X G zUd (by decide) aM)) (And.intro (Or.inr (Y1 Y X G zEv (by decide) aL)) (And.intro (Or.inr (Y1 o X G zIE (by decide) aK)) (And.intro (Or.inr (Y1 d30 X G zOx (by decide) aJ)) (And.intro (Or.inr (Y1 P X G zMI (by decide) aI)) (And.intro (Or.inr (Y1 d32 X G zQO (by decide) aH)) (And.intro (Or.inr (Y1 S X G zJf (by decide) aG)) (And.intro (Or.inr (Y1 d34 X G zUb (by decide) aF)) (And.intro (Or.inr (Y1 N X G zQU (by decide) aE)) (And.intro (Or.inr (Y1 d36 X G zQP (by decide) aD)) (And.intro (Or.inr (Y1 J X G zOE (by decide) aB)) (And.intro (Or.inr (Y1 d38 X G zF0 (by decide) aA)) (And.intro (Or.inr (Y1 d39 X G zU8 (by decide) az)) (And.intro (Or.inr (Y1 d40 X G zOF (by decide) ay)) (And.intro (Or.inr (Y1 d41 X G zIA (by decide) ax)) (And.intro (Or.inr (Y1 d42 X G zMF (by decide) av)) (And.intro (Or.inr (Y1 R X G zME (by decide) au)) (And.intro (Or.inr (Y1 d44 X G zOu (by decide) aq)) (And.intro (Or.inr (Y1 T X G zMG (by decide) ak)) (And.intro (Or.inr (Y1 d46 X G zIB (by decide) aj)) (And.intro (Or.inr (Y1 d47 X G zOy (by decide) ai)) (And.intro (Or.inr (Y1 I X G zMM (by decide) ah)) (And.intro (Or.inr (Y1 d49 X G zIF (by decide) ag)) (And.intro (Or.inr (Y1 d50 X G zML (by decide) af)) (And.intro (Or.inr (Y1 d51 X G zUe (by decide) ae)) (And.intro (Or.inr (Y1 f X G zJe (by decide) zJa)) (And.intro (Or.inr (Y1 d53 X G zMH (by decide) zMh)) (And.intro (Or.inr (Y1 g X G zOz (by decide) zOe)) (And.intro (Or.inr (Y1 E X G zOA (by decide) zOf)) (And.intro (Or.inr (Y1 U X G zQR (by decide) zQG)) (And.intro (Or.inr (Y1 t X G zOC (by decide) zOh)) (And.intro (Or.inr (Y1 d58 X G zKE (by decide) zKt)) (And.intro (Or.inr (Y1 r X G zOB (by decide) zOg)) (And.intro (Or.inr (Y1 b X G zdP AV AU)) (And.intro (Or.inl (by decide)) (And.intro (Or.inl (by decide)) (True.intro))))))))))))))))))))))))))))))))))))))))))))))))))))))))))))));have a:WO K CD:=⟨pg,hd,po,sa⟩
 obtain⟨gI,dk⟩:=zg7 m0 a nK (W.mg_of X G c) mk kc zMN zM4 (by rfl) (by decide);have hD:P0 w K mg:=⟨λC hC=>by obtain rfl:=Ws.uniq c hC;exact⟨a,nK⟩,⟨CD,gI,dk,c⟩,ly l.prog X G fN fB fH⟩
 have hM:∀m q,UD.lookup m=Z9 q->∃p,tbl.lookup q=Z9 p/\p.1=2/\NN K (VC tbl) m q p:=λm q e=>by
  unfold UD at e;rw[qD9]at e;split at e
  .rename_i u;obtain rfl:m = "say":=by simpa using u
   cases e;exact⟨_,by kernel_rfl,rfl,AQ m2 c a zOG zNZ (by decide) (by decide) zOl⟩
  rw[qD9]at e;split at e
  .rename_i u;obtain rfl:m = "with_nets":=by simpa using u
   cases e;exact⟨_,by kernel_rfl,rfl,AQ m1 c a zGx zGr (by decide) (by decide) zGw⟩
  cases e
 refine⟨fO "law" "law" (Vp RL) (XB RL) (YH RL) .none kV dc pm an cd ct,λs v=>.of_eq rfl,λbase _ _=>?_⟩;exact lN (L:=99) (λx p n e=>A.look x p n e) hM hD ⟨λy hy _=>(z.none X G).mem y hy,zax X G tx⟩ (by kernel_rfl) F AV rfl (λa=>congrFun AU a) (λns h=>zVJ ns h)
end Internal
open PySem PySem.W PyProof.Rows
namespace PySem.W.Fast
def tw14211079671000650784:=0
def tw14747055975986128602:=0
def tw12740386856995625965:=0
def tw11470757170679779276:=0
def tw9151962249275631100:=0
def tw2898175455690192767:=0
def tw7879421310763150342:=0
def tw10709213956805246192:=0
def tw3796917148253505127:=0
def tw17120755776011844225:=0
def tw17515175411215674809:=0
def tw16971186478218717326:=0
def tw6781103804872633588:=0
def tw10194815169086263361:=0
def tw16442392149419554282:=0
def tw9409679377198126830:=0
def tw17512438677025770129:=0
def tw2349323429080495711:=0
def tw7955693398542378790:=0
def tw519904852854942927:=0
def tw5339417877073292970:=0
def tw630350237539204660:=0
def tw10936180647841081082:=0
def tw798096910817765453:=0
def tw5820367840313690217:=0
def tw993296053516512627:=0
def tw1041077393888786975:=0
def tw11406854301606608361:=0
def tw17955791058395473322:=0
def tw16576668057095645798:=0
def tw10798636116729138956:=0
def tw13005070083276047536:=0
def tw66207936663453941:=0
def tw14578624753207501176:=0
def tw18203901998893620969:=0
def tw12046506225608845746:=0
def tw5628132032431894164:=0
def tw3824024663485389097:=0
def tw2529195143192772679:=0
def tw6727874813893821713:=0
def tw4735733681882315526:=0
def tw7622115549632404429:=0
def tw14688280789294664956:=0
def tw8891515271053991355:=0
def tw11431590096809011708:=0
def tw9410430504334079632:=0
def tw1619155701619052846:=0
def tw12303205605989722063:=0
def tw8081463854861905387:=0
def tw2669241647305710585:=0
def tw9964396360477353058:=0
def tw18251748004362661230:=0
def tw9377303226884585035:=0
def tw6748930987711140124:=0
def tw17714489994302456802:=0
def tw4816778053542800733:=0
def tw2680372746800034911:=0
def tw5016943929909217607:=0
def tw3457463125101936242:=0
def tw13454248531285909191:=0
def tw15032437139124566565:=0
def tw5617264737758292793:=0
def tw13994207588437207575:=0
def tw17399562082258331736:=0
def tw12373589555053708973:=0
def tw16993893275513151189:=0
def tw11118062470229567872:=0
def tw15756136985344319656:=0
def tw8448376208148362989:=0
def tw6900093123724419179:=0
def tw8045987758205276649:=0
def tw17186314459638951488:=0
def tw8965580723805536089:=0
def tw11201886602263320806:=0
def tw6363189541012577610:=0
def tw16207323663238884191:=0
def tw7801049647630815338:=0
def tw4102836920294004611:=0
def tw1478058864655297668:=0
def tw18445478249770076184:=0
def tw2605205931325911454:=0
def tw2910564872232405710:=0
def tw7552640827515121788:=0
def tw11983634788577755508:=0
def tw12566190553662704745:=0
def tw11401118729768220553:=0
def tw16159307460419477319:=0
def tw17979829117582852249:=0
def tw9452776192646251525:=0
def tw8471446603878815812:=0
def tw1385213774386371454:=0
def tw8899515970690161073:=0
def tw11009298434343598519:=0
def tw9570643894958650683:=0
def tw7192136836693015655:=0
def tw5565428336641249345:=0
def tw15898017131667420894:=0
def tw13126449801308580156:=0
def tw3950864856376996640:=0
def tw7181169428281441900:=0
def tw1675860150933896979:=0
def tw15382653350916414110:=0
def tw12916700303448957279:=0
def tw3631416691456947424:=0
def tw7247535971857985978:=0
def tw3020688622021886580:=0
def tw7174148299686544266:=0
def tw13325152229017604407:=0
def tw15747336752133602318:=0
def tw7681273607048854767:=0
def tw3119586799096914845:=0
def tw12155654174364927656:=0
def tw3660239520841880867:=0
def tw12878101845187927380:=0
def tw10629082630685907972:=0
def tw2374333481364905546:=0
def tw13195144424627460877:=0
def tw61204940942525666:=0
def tw7619806965785538813:=0
def tw13112661598357359810:=0
def tw6666051358875946373:=0
def tw7829599186750337271:=0
def tw16824791429715462681:=0
def tw672504608869847959:=0
def tw5818270443290907744:=0
def tw4392397593034651357:=0
def tw2033625612828635077:=0
def tw12542266093274483989:=0
def tw4563997205617487343:=0
def tw17686409128170953934:=0
def tw77709637085367195:=0
def tw7604895683583254895:=0
def tw17529978314729613065:=0
def tw4229066014612647026:=0
def tw12507673189064935937:=0
def tw3795610581166675556:=0
def tw4135527721642315609:=0
def tw11279078711227414188:=0
def tw14824947391628359600:=0
def tw16936333616891362150:=0
def tw10558906595076349238:=0
def tw16123474542110874421:=0
def tw16029779728835766390:=0
def tw13795196461036244416:=0
def tw113730965010004477:=0
def tw4135835440151977984:=0
def tw9856628327916396687:=0
def tw7971788098315999845:=0
def tw2847544095440337249:=0
def tw13051147489094177252:=0
def tw18073557994878079001:=0
def tw16573726014667905264:=0
def tw2487848616666720183:=0
def tw8736844100768403811:=0
def tw7326713611981488734:=0
def tw1738907349104633286:=0
def tw1357107309091623961:=0
def tw16153694405709008645:=0
def tw11347504228551350600:=0
def tw1639789459378086330:=0
def tw7213639662583726304:=0
def tw11852380728885604160:=0
def tw12151060348870191634:=0
def tw15692989382307408590:=0
def tw636841790894707441:=0
def tw10585066689845628527:=0
def tw16673729168055732030:=0
def tw2139844746739619022:=0
def tw15448579679144556001:=0
def tw12918597969169455541:=0
def tw7986485585409752187:=0
def tw1224805332162311274:=0
def tw18392888150626857373:=0
def tw18015124937867789592:=0
def tw5575671224221589964:=0
def tw9522531817273508906:=0
def tw3962309578081256277:=0
def tw17786665495956387125:=0
def tw3526815680107100565:=0
def tw10364652169529655411:=0
def tw17266512812053312641:=0
def tw3760929243843937935:=0
def tw12307684287038833956:=0
def tw15557898925509387119:=0
def tw9346937670201829038:=0
def tw6092824525902435724:=0
def tw14142126779796560201:=0
def tw4689096189904418953:=0
def tw9466700443296903258:=0
def tw3253489401231971617:=0
def tw8880125124505493283:=0
def tw1408672085607956263:=0
def tw9379011658690447038:=0
def tw7345472035224557114:=0
def tw1559982216716040279:=0
def tw1221768195572587418:=0
def tw2459814752473395931:=0
def tw3519692664384312180:=0
def tw7627180987345652746:=0
def tw14326333074194726799:=0
def tw11508152735226449636:=0
def tw410157511289147350:=0
def tw17300847447023561750:=0
def tw16980567770767427535:=0
def tw2795369529055364209:=0
def tw3454983169178651429:=0
def tw17810216387660579393:=0
def tw2978297575589436815:=0
def tw12269074754226726343:=0
def tw1541374125649242425:=0
def tw11548493954870689138:=0
def tw8497560923089984469:=0
def tw9093342181767899755:=0
def tw3720248655359152322:=0
def tw7716687145633087772:=0
def tw6974806330762871466:=0
def tw5520688559421596792:=0
def tw10071740893255253994:=0
def tw9249494649840882244:=0
def tw4930074167629432241:=0
def tw14523538705949818286:=0
def tw14538359363702173492:=0
def tw640216275100907337:=0
def tw11826609366699730860:=0
def tw6817472285475658063:=0
def tw16791891249195430918:=0
def tw444786459326553667:=0
def tw3955964681702949129:=0
def tw13018731540516488427:=0
def tw12555728731349631963:=0
def tw10850403419426408079:=0
def tw13921570995983372633:=0
def tw12645936654973968230:=0
def tw11709502104688650015:=0
def tw8448389044681469270:=0
def tw8415344940070181577:=0
def tw196936120939404822:=0
def tw13399380488239693321:=0
def tw6599527521413720321:=0
def tw9063691344128918618:=0
def tw3565407598432381498:=0
def tw4636942569667404642:=0
def tw14253037870027576190:=0
def tw3075892155842681683:=0
def tw3447459674192971375:=0
def tw17606884538731740196:=0
def tw6580790465778435413:=0
def tw11165824324147542027:=0
def tw10511442285367969459:=0
def tw7215880088548434964:=0
end PySem.W.Fast
set_option maxRecDepth 100000 in
set_option maxHeartbeats 0 in
theorem PySem.Challenge.cw_contactnets_k95_whole_desk_holds : PySem.Challenge.rw_contactnets_k95_whole_desk.Holds := by
 w_on; o_law; k_head; (case hw=>w_witness2)
 k_fill
 refine Lake.walk_ev (L:=100+2) (l:=PySem.Challenge.rw_contactnets_k95_whole_desk) rfl rfl ⟨rfl,by decide,by decide,rfl⟩ (fun w h Y=>PySem.W.kIn_of Y) ?F
 case F =>
  intro w mg fa h KX G hmg
  refine' Internal.all_mk KX G hmg (Internal.mkDF ?a1 ?l1 ?c1 ?k1) (Internal.mkDF ?a2 ?l2 ?c2 ?k2) (Internal.mkDF ?a3 ?l3 ?c3 ?k3) (Internal.mkDF ?a4 ?l4 ?c4 ?k4) (Internal.mkDF ?a5 ?l5 ?c5 ?k5) (Internal.mkDF ?a6 ?l6 ?c6 ?k6) (Internal.mkDF ?a7 ?l7 ?c7 ?k7) (Internal.mkDF ?a8 ?l8 ?c8 ?k8) (Internal.mkDF ?a9 ?l9 ?c9 ?k9) (Internal.mkDF ?a10 ?l10 ?c10 ?k10) (Internal.mkDF ?a11 ?l11 ?c11 ?k11) (Internal.mkDF ?a12 ?l12 ?c12 ?k12) (Internal.mkDF ?a13 ?l13 ?c13 ?k13) (Internal.mkDF ?a14 ?l14 ?c14 ?k14) (Internal.mkDF ?a15 ?l15 ?c15 ?k15) (Internal.mkDF ?a16 ?l16 ?c16 ?k16) (Internal.mkDF ?a17 ?l17 ?c17 ?k17) (Internal.mkDF ?a18 ?l18 ?c18 ?k18) (Internal.mkDF ?a19 ?l19 ?c19 ?k19) (Internal.mkDF ?a20 ?l20 ?c20 ?k20) (Internal.mkDF ?a21 ?l21 ?c21 ?k21) (Internal.mkDF ?a22 ?l22 ?c22 ?k22) (Internal.mkDF ?a23 ?l23 ?c23 ?k23) (Internal.mkDF ?a24 ?l24 ?c24 ?k24) (Internal.mkDF ?a25 ?l25 ?c25 ?k25) (Internal.mkDF ?a26 ?l26 ?c26 ?k26) (Internal.mkDF ?a27 ?l27 ?c27 ?k27) (Internal.mkDF ?a28 ?l28 ?c28 ?k28) (Internal.mkDF ?a29 ?l29 ?c29 ?k29) (Internal.mkDF ?a30 ?l30 ?c30 ?k30) (Internal.mkDF ?a31 ?l31 ?c31 ?k31) (Internal.mkDF ?a32 ?l32 ?c32 ?k32) (Internal.mkDF ?a33 ?l33 ?c33 ?k33) (Internal.mkDF ?a34 ?l34 ?c34 ?k34) (Internal.mkDF ?a35 ?l35 ?c35 ?k35) (Internal.mkDF ?a36 ?l36 ?c36 ?k36) (Internal.mkDF ?a37 ?l37 ?c37 ?k37) (Internal.mkDF ?a38 ?l38 ?c38 ?k38) (Internal.mkDF ?a39 ?l39 ?c39 ?k39) (Internal.mkDF ?a40 ?l40 ?c40 ?k40) (Internal.mkDF ?a41 ?l41 ?c41 ?k41) (Internal.mkDF ?a42 ?l42 ?c42 ?k42) (Internal.mkDF ?a43 ?l43 ?c43 ?k43) (Internal.mkDF ?a44 ?l44 ?c44 ?k44) (Internal.mkDF ?a45 ?l45 ?c45 ?k45) (Internal.mkDF ?a46 ?l46 ?c46 ?k46) (Internal.mkDF ?a47 ?l47 ?c47 ?k47) (Internal.mkDF ?a48 ?l48 ?c48 ?k48) (Internal.mkDF ?a49 ?l49 ?c49 ?k49) (Internal.mkDF ?a50 ?l50 ?c50 ?k50) (Internal.mkDF ?a51 ?l51 ?c51 ?k51) (Internal.mkDF ?a52 ?l52 ?c52 ?k52) (Internal.mkDF ?a53 ?l53 ?c53 ?k53) (Internal.mkDF ?a54 ?l54 ?c54 ?k54) (Internal.mkDF ?a55 ?l55 ?c55 ?k55) (Internal.mkDF ?a56 ?l56 ?c56 ?k56) (Internal.mkDF ?a57 ?l57 ?c57 ?k57) (Internal.mkDF ?a58 ?l58 ?c58 ?k58) (Internal.mkDF ?a59 ?l59 ?c59 ?k59) (Internal.mkDF ?a60 ?l60 ?c60 ?k60) ⟨?z1,?z2,?z3,?z4,?z5,?z6,?z7,?z8,?z9,?z10,?z11,?z12,?z13,?z14,?z15,?z16,?z17,?z18,?z19,?z20,True.intro⟩ ?tx ?aC (Internal.mkMF ?ma0 ?mi0 ?ml0 ?mc0 ?mk0) (Internal.mkMF ?ma1 ?mi1 ?ml1 ?mc1 ?Cu) (Internal.mkMF ?ma2 ?mi2 ?ml2 ?mc2 ?mk2) ?pg ?hd ?po ?sa ?mk ?kc ?nK ?fN ?fB ?fH
  case a1=>k_is
  case l1=>k_is
  case c1=>k_is
  case k1=>k_is
  case a2=>k_is
  case l2=>k_is
  case c2=>k_is
  case k2=>k_is
  case a3=>k_is
  case l3=>k_is
  case c3=>k_is
  case k3=>k_is
  case a4=>k_is
  case l4=>k_is
  case c4=>k_is
  case k4=>k_is
  case a5=>k_is
  case l5=>k_is
  case c5=>k_is
  case k5=>k_is
  case a6=>k_is
  case l6=>k_is
  case c6=>k_is
  case k6=>k_is
  case a7=>k_is
  case l7=>k_is
  case c7=>k_is
  case k7=>k_is
  case a8=>k_is
  case l8=>k_is
  case c8=>k_is
  case k8=>k_is
  case a9=>k_is
  case l9=>k_is
  case c9=>k_is
  case k9=>k_is
  case a10=>k_is
  case l10=>k_is
  case c10=>k_is
  case k10=>k_is
  case a11=>k_is
  case l11=>k_is
  case c11=>k_is
  case k11=>k_is
  case a12=>k_is
  case l12=>k_is
  case c12=>k_is
  case k12=>k_is
  case a13=>k_is
  case l13=>k_is
  case c13=>k_is
  case k13=>k_is
  case a14=>k_is
  case l14=>k_is
  case c14=>k_is
  case k14=>k_is
  case a15=>k_is
  case l15=>k_is
  case c15=>k_is
  case k15=>k_is
  case a16=>k_is
  case l16=>k_is
  case c16=>k_is
  case k16=>k_is
  case a17=>k_is
  case l17=>k_is
  case c17=>k_is
  case k17=>k_is
  case a18=>k_is
  case l18=>k_is
  case c18=>k_is
  case k18=>k_is
  case a19=>k_is
  case l19=>k_is
  case c19=>k_is
  case k19=>k_is
  case a20=>k_is
  case l20=>k_is
  case c20=>k_is
  case k20=>k_is
  case a21=>k_is
  case l21=>k_is
  case c21=>k_is
  case k21=>k_is
  case a22=>k_is
  case l22=>k_is
  case c22=>k_is
  case k22=>k_is
  case a23=>k_is
  case l23=>k_is
  case c23=>k_is
  case k23=>k_is
  case a24=>k_is
  case l24=>k_is
  case c24=>k_is
  case k24=>k_is
  case a25=>k_is
  case l25=>k_is
  case c25=>k_is
  case k25=>k_is
  case a26=>k_is
  case l26=>k_is
  case c26=>k_is
  case k26=>k_is
  case a27=>k_is
  case l27=>k_is
  case c27=>k_is
  case k27=>k_is
  case a28=>k_is
  case l28=>k_is
  case c28=>k_is
  case k28=>k_is
  case a29=>k_is
  case l29=>k_is
  case c29=>k_is
  case k29=>k_is
  case a30=>k_is
  case l30=>k_is
  case c30=>k_is
  case k30=>k_is
  case a31=>k_is
  case l31=>k_is
  case c31=>k_is
  case k31=>k_is
  case a32=>k_is
  case l32=>k_is
  case c32=>k_is
  case k32=>k_is
  case a33=>k_is
  case l33=>k_is
  case c33=>k_is
  case k33=>k_is
  case a34=>k_is
  case l34=>k_is
  case c34=>k_is
  case k34=>k_is
  case a35=>k_is
  case l35=>k_is
  case c35=>k_is
  case k35=>k_is
  case a36=>k_is
  case l36=>k_is
  case c36=>k_is
  case k36=>k_is
  case a37=>k_is
  case l37=>k_is
  case c37=>k_is
  case k37=>k_is
  case a38=>k_is
  case l38=>k_is
  case c38=>k_is
  case k38=>k_is
  case a39=>k_is
  case l39=>k_is
  case c39=>k_is
  case k39=>k_is
  case a40=>k_is
  case l40=>k_is
  case c40=>k_is
  case k40=>k_is
  case a41=>k_is
  case l41=>k_is
  case c41=>k_is
  case k41=>k_is
  case a42=>k_is
  case l42=>k_is
  case c42=>k_is
  case k42=>k_is
  case a43=>k_is
  case l43=>k_is
  case c43=>k_is
  case k43=>k_is
  case a44=>k_is
  case l44=>k_is
  case c44=>k_is
  case k44=>k_is
  case a45=>k_is
  case l45=>k_is
  case c45=>k_is
  case k45=>k_is
  case a46=>k_is
  case l46=>k_is
  case c46=>k_is
  case k46=>k_is
  case a47=>k_is
  case l47=>k_is
  case c47=>k_is
  case k47=>k_is
  case a48=>k_is
  case l48=>k_is
  case c48=>k_is
  case k48=>k_is
  case a49=>k_is
  case l49=>k_is
  case c49=>k_is
  case k49=>k_is
  case a50=>k_is
  case l50=>k_is
  case c50=>k_is
  case k50=>k_is
  case a51=>k_is
  case l51=>k_is
  case c51=>k_is
  case k51=>k_is
  case a52=>k_is
  case l52=>k_is
  case c52=>k_is
  case k52=>k_is
  case a53=>k_is
  case l53=>k_is
  case c53=>k_is
  case k53=>k_is
  case a54=>k_is
  case l54=>k_is
  case c54=>k_is
  case k54=>k_is
  case a55=>k_is
  case l55=>k_is
  case c55=>k_is
  case k55=>k_is
  case a56=>k_is
  case l56=>k_is
  case c56=>k_is
  case k56=>k_is
  case a57=>k_is
  case l57=>k_is
  case c57=>k_is
  case k57=>k_is
  case a58=>k_is
  case l58=>k_is
  case c58=>k_is
  case k58=>k_is
  case a59=>k_is
  case l59=>k_is
  case c59=>k_is
  case k59=>k_is
  case a60=>k_is
  case l60=>k_is
  case c60=>k_is
  case k60=>k_is
  case z1=>k_is
  case z2=>k_is
  case z3=>k_is
  case z4=>k_is
  case z5=>k_is
  case z6=>k_is
  case z7=>k_is
  case z8=>k_is
  case z9=>k_is
  case z10=>k_is
  case z11=>k_is
  case z12=>k_is
  case z13=>k_is
  case z14=>k_is
  case z15=>k_is
  case z16=>k_is
  case z17=>k_is
  case z18=>k_is
  case z19=>k_is
  case z20=>k_is
  case tx=>kernel_rfl
  case aC=>k_is
  case ma0=>k_is
  case mi0=>k_is
  case ml0=>k_is
  case mc0=>k_is
  case mk0=>k_is
  case ma1=>k_is
  case mi1=>k_is
  case ml1=>k_is
  case mc1=>k_is
  case Cu=>k_is
  case ma2=>k_is
  case mi2=>k_is
  case ml2=>k_is
  case mc2=>k_is
  case mk2=>k_is
  case pg=>k_is
  case hd=>k_is
  case po=>k_is
  case sa=>k_is
  case mk=>k_is
  case kc=>k_is
  case nK=>k_is
  case fN=>k_is
  case fB=>kernel_rfl
  case fH=>kernel_rfl
