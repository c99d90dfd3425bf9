import PyProof.Rows.All
import Wide.All
import OpenK.AllK
import Lean
import PySem.Challenge.RW_contactnets_k96_names_and_order_at_a_des
set_option Elab.async false
set_option linter.all false
set_option autoImplicit true
set_option relaxedAutoImplicit true
set_option genSizeOf false
set_option compiler.extract_closed false
set_option bootstrap.genMatcherCode false
set_option genInjectivity false
set_option maxRecDepth 100000
set_option maxHeartbeats 1000000
local macro_rules|`(def $i$s:optDeclSig$v:declVal)=>`(noncomputable def $i$s:optDeclSig$v:declVal)|`(abbrev $i$s:optDeclSig$v:declVal)=>`(noncomputable abbrev $i$s:optDeclSig$v:declVal)
local macro_rules|`(tactic|decide)=>`(tactic|decide +kernel)
open List renaming getElem?_eq_some_iff→qA3,getElem?_append_right→qA5,length_map→qA6,getElem?_eq_getElem→qA7,mem_cons→qA8,map_cons→qB2,size_toArray→qB4,length_cons→qB6,getElem?_append_left→qB7,not_mem_nil→qB8,all_eq_true→qB9,getElem?_map→qC1,mem_of_getElem?→qC2,replicate→qC3,length_append→qC4,mem_cons_of_mem→qC5,getElem?_set_self→qC7,getElem?_set_ne→qC9,mem_append_right→qD0,mem_cons_self→qD1,length_take→qD2,lookup_cons→qD4,append_nil→qD6,mem_singleton→qD7,append_assoc→qD8,take_of_length_le→qD9,getElem?_take_of_lt→qE0,map_map→qE1,mem_append→qE2,map_append→qE3,sum_cons→qE5,length_replicate→qE7,length_drop→qE8,filterMap_cons→qE9,nil_append→qF1,mem_map→qF4,getElem?_replicate→qF5,map_nil→qF8,drop_eq_getElem_cons→qF9,length_set→qG0,nodup_append→qG2,mem_of_mem_take→qG3,length→qG5,pairwise_cons→qG6,forIn_cons→qG7,any_cons→qH0,mem_append_left→qH1,lookup→qH2,drop_zero→qH3,cons→qH4,cons_append→qH5,all_cons→qH7,getElem?_inj→qH9,length_singleton→qI0,take_append_drop→qI2,getElem_mem→qI4,getElem?_of_mem→qI6,mem_filter→qI7,nodup_cons→qI8,all_map→qI9,mem_range→qJ2,mapM_cons→qJ5,filterMap_nil→qJ6,take_length→qK3,drop_length→qK5,range_succ_eq_map→qK7,drop_of_length_le→qK8,of_mem_zip→qL0,all_append→qL3,dropLast_eq_take→qL4,take→qL9,replicate_succ→qM0,getElem_of_mem→qM1,getElem?_range→qM2,filter_eq_self→qM3,mem_map_of_mem→qM4,length_pos_iff→qM5,mem_filterMap→qM6,findIdx?_cons→qM7,any_eq_false→qM8,take_sublist→qM9,flatten_cons→qN0,take_add_one→qN1,countP_cons→qN6,any_eq_true→qN7,filter_cons→qN8,mem_flatMap→qO0,foldl_cons→qO1,length_nil→qO2,foldl→qO5,take_zero→qO8,drop_drop→qO9,getD→qP1
open Option renaming bind_eq_some_iff→qA0,map_eq_some_iff→qA1,isSome_iff_exists→qH6,isSome_map→qJ9,map_some→qL1,getD_none→qN3
open Nat renaming le_refl→qA4,lt_of_lt_of_le→qA9,ne_of_lt→qC0,le_trans→qC6,sub_self→qD5,zero_le→qF0,ne_of_gt→qF3,le_of_lt→qF7,lt_succ_of_lt→qG1,lt_succ_self→qG4,lt_irrefl→qG9,le_of_ble_eq_true→qI1,le_add_right→qI3,zero_add→qJ1,lt_of_le_of_lt→qJ4,le_of_not_lt→qK2,le_of_eq→qK6,not_lt→qK9,le_succ→qL6,succ_ne_self→qN4,succ_le_succ→qN5,min_eq_right→qN9,le_antisymm→qO3,min_eq_left→qO4
open Bool renaming false_ne_true→qB0,and_eq_true→qB3,not_eq_true'→qF6,or_eq_true→qG8,false_and→qH8,false_eq_true→qJ7,eq_false_iff→qK0,true_and→qK1,and_eq_true_iff→qL7,or_eq_false_iff→qL8,or_false→qP0
open Int renaming toNat_natCast→qE6,fdiv_eq_ediv_of_nonneg→qJ3,emod_lt_of_pos→qJ8,emod_nonneg→qL2,zero_add→qN2
open PySem.Heap renaming get?_push_of_some→qA2,lt_size→qB1,get?_push_size→qB5,get?_update_other→qC8,get?_update_self→qD3,size_push→qE4,SameBut→qF2,IsList→qI5,IsTuple→qJ0,size_update→qK4,get?_none_of_le→qL5,SlotsOnly→qO6,MadeExcOf→qO7
abbrev yA:=List Int
abbrev yB:=List PySem.Value
abbrev yC:=List PySem.Addr
abbrev yD:=List (PySem.Addr × PySem.Obj)
abbrev yE:=List PySem.Expr
abbrev yF:=Option PySem.Value
abbrev yG:=Option Int
abbrev yH:=List PySem.Str
abbrev yI:=List PyProof.Rows.Keyed
abbrev yJ:=Array PySem.Value
abbrev yK:=Option Nat
abbrev yL:=PySem.Value→PySem.Shared→Prop
open PySem renaming wpAny_bind→yO,Addr→yQ,Shared→yR,wpAny_pure→yS,Value→yT,Spec→yU,Expr→yV,sizeLine→yW,model→yX,Program→yY,wpAny→yZ,starEach→y7,compareOp→y8,mainGlobals→y9,Heap→jB,World→jC,Around→jE,bootBuiltins→jF,binaryOp→jG,wpAny_mono→jH,wpAny_truthy_bool→jI,wpAny_field→jJ,wpAny_callSpecial?_slot→jK,assignEach→jM,wpAny_call_entry→jO,wpAny_newObj_type→jP,NameKind→jQ,wpAny_holding→jR,swappedStores→jS,FuncData→jT,eval→jU,Stmt→jV,Scope→jW,wpAny_pyIter_tuple→jX,wpAny_setField→j3,keywordEach→j6,sysModules→vA,attributeBase→vB,backTo→vC,wpAny_typeNameOfWhole_keyiter→vD,wpAny_pyIter_list→vE,call_meets→vF,cellsFrom→vH,PyData→vK,wpAny_passesOwn→vL,noteFrame→vM,foldedSetIterable→vN,codeAny→vO,typeIs_str→vR,wpAny_attempt→vS,cLine→vT,mem_of_lookup→vU,Keyword→vV,wpAny_seqItems→vW,sizeLine_eq→vY,rawInt→vZ,wpAny_Call_Name_kw→wA,wpAny_typeOf→wB,wpAny_setField_rec→wC,backToKw→wF,DictEntry→wH,swapsWith→wI,holding→wJ,wpAny_comprehension_free→wL,tupleKind_room_in1→wP,wpAny_entryPlaceOf→wQ,sliceBounds→wT,codeAny_mono→wW,valueAt→wZ,wpAny_frameOf_fun→fD,methodCallForm→fE,wpAny_execs_cons→fF,lastMarks→fG,IsPair→fJ,wpAny_isInstance→fL,behindInMarks→fP,Builtin→fQ,CmpOp→fR,wpAny_setFlight_none→fU,wpAny_execs_nil→fV,pushCells_keeps→fW,assign→gE,wpAny_rule→gG,wpAny_newFunctionEnv_cells→gJ,newFunctionEnv→gK,wpAny_Return_some→gL,standAt→gM,getItem→gO,wpAny_pyIter_enum→gU,wpAny_dictEntries→gV,limitOf→gW,wpAny_standAt→gX,swapsWithSole→gY,Result→g7,IsPart→g8,PassesOwn→lC,noFill_tuple_add→lF,pushCells→lG,wpAny_pyIter_zip→lK,wpAny_pyNext_list_item→lN,wpAny_call→lP,wpAny_Call_method_late→lU,callerA→lV,notedBy→lW,codeAny_compStart_list→lY,letOwnedTupleGo→mF,wpAny_dictEpoch→mG,codeAny_builtin→mH,wpAny_pyNext_list_end→mI,codeAny_call_function→mJ,wpAny_isOneOf_keyiter→mK,wpAny_notOrdered_dict→mL,Paired→mO,wpAny_loadPart→mR,wpAny_updateSeq_pair→mS,numbered_texts→mT,codeAny_call_builtin→mU,tupleKind→mV,relabel→mX,setFlight→mY,Model→m4,seq_tuple_add→dC,IsZip→dD,Comprehension→dE,builtinsNs→dF,PlainAttrs→dH,JoinOk→dI,Within→dJ,Operator→dL,BindsTo→dM,concat_meets→dN,seqIndex_neg→dO,compEnvC→dP,isTrue→dS,getMethod→dU,typeOf→dX,stored→dY,strValues→dZ,seqIndex_of→uB,subscripted→uC,wpAny_throw→uD,hashStr→uE,setItem→uF
open PySem.W renaming Frag→yP,findIn→j8,kitOne→vP,nsIn→wD,keepIn→wE,instObj→wG,emptyDict→wR,kia_one→wU,fnOf→fI,looks_findIn→gH,cellsFrom_some→lD,codeIn→lE,plainGet→lO,callWith_K→lQ,hasDictIn→mQ,plainGet_of→dA,mg_of→dQ,mg_none_of→dR,makesIn→dW,plainOver→uA
open PySem.Obj renaming data_mapFields→jA,isFreed_of_fields→jD,mapFields→jL,cls_mapFields→fA,mapSeq→dG
open PySem.F renaming slot_str_split→jN,entry_str_split→jY,plainAttrs_str→j4,slot_dict_keyiterator_next→vG,slot_tuple_iterator_next→vI,plainAttrs_list→vX,args_tuple_add_2→wK,args_str_split_2→wM,args_str_split_3→wN,entry_tuple_add→wS,slot_tuple_add→wX,args_dict_keyiterator_next_1→fM,entry_dict_keyiterator_next→fT,args_tuple_iterator_next_1→fX,slot_zip_next→fY,entry_tuple_iterator_next→gA,slot_str_startswith→gC,slot_dict_update→g9,slot_list_index→lH,slot_list_count→lL,plainAttrs_dict→lM,type_str_split→lZ,slot_str_find→mM,slot_dict_get→mN
open PyProof.Rows renaming callWith_type1→jZ,slot_tuple_getitem→j7,Keyed→j9,AllBare→wO,assignInOrder_cons→gF,envOfC→lR,subscriptTail_builtinR→lS,IntsAre→mW,entry_tuple_getitem→mZ
open Array renaming length_toList→j5,getElem?_toList→vJ,all_eq_true_iff_forall_mem→vQ,toList_append→fZ
open PySem.Builtin renaming bitAnd→wV,bitOr→fO,bitXor→mP
open PySem.Calls renaming callWith_builtin→wY,evalArgs_plain→fS,Name_function_global→gD
open Option renaming some→Z9,none→Z8
open Bool renaming true→Z7,false→Z5
namespace Lake
open PySem PySem.Spec PyProof.Rows
abbrev XI(x:Str):Prop:=(x == ("__debug__":Str))=Z5
abbrev ZA:=Sum Int Str
def Ts:ZA->yT->Bool
 |.inl k,v=>Value.isInt k v
 |.inr x,v=>Value.isStrOf x v
def Md(w:jC):ZA->Int
 |.inl k=>hashInt k
 |.inr x=>uE w x
theorem UU:∀{k:ZA}{v:yT},Ts k v=Z7->(∃i t,k=Sum.inl i/\v=Value.int i t)∨(∃x t,k=Sum.inr x/\v=Value.str x t)
 |.inl i,v,h=>by obtain⟨t,e⟩:=Value.isInt_shape h;exact .inl ⟨i,t,rfl,e⟩
 |.inr x,v,h=>by obtain⟨t,e⟩:=Value.isStrOf_shape h;exact .inr ⟨x,t,rfl,e⟩
theorem Co(i:Int)(t:Tok):Ts (.inl i) (.int i t)=Z7:=by simp[Ts,Value.isInt]
theorem Cn(x:Str)(t:Tok):Ts (.inr x) (.str x t)=Z7:=by simp[Ts,Value.isStrOf]
theorem Cm(a b:Int):decide ((Sum.inl a:ZA)=Sum.inl b)=(a == b):=by grind
theorem Ck(a b:Str):decide ((Sum.inr a:ZA)=Sum.inr b)=decide (a=b):=by simp_all
theorem Cj(a:Int)(b:Str):decide ((Sum.inl a:ZA)=Sum.inr b)=Z5:=rfl
theorem Ci(a:Str)(b:Int):decide ((Sum.inr a:ZA)=Sum.inl b)=Z5:=rfl
def Yy(prog:yY)(w:jC):PySem.KeyKind prog w ZA where
 is:=Ts
 hash:=Md w
 inj:=λv a b g d=>by
  rcases UU g with⟨i,t,rfl,rfl⟩| ⟨x,t,rfl,rfl⟩
  .rcases UU d with⟨j,u,rfl,e⟩| ⟨y,u,rfl,e⟩
   .injection e with e1 _;rw[e1]
   .exact nomatch e
  .rcases UU d with⟨j,u,rfl,e⟩| ⟨y,u,rfl,e⟩
   .exact nomatch e
   .injection e with e1 _;rw[e1]
 byValue:=λk v h=>by rcases UU h with⟨i,t,rfl,rfl⟩| ⟨x,t,rfl,rfl⟩<;>rfl
 pyHash:=λc h=>by
  rcases UU c with⟨i,t,rfl,rfl⟩| ⟨x,t,rfl,rfl⟩
  .exact wpAny_pyHash_int h
  .exact wpAny_pyHash_str h
 eqBool:=λf c h=>by
  rcases UU f with⟨i,t,rfl,rfl⟩| ⟨x,t,rfl,rfl⟩
  .rcases UU c with⟨j,u,rfl,rfl⟩| ⟨y,u,rfl,rfl⟩
   .rw[Cm]at h;exact wpAny_eqBool_int h
   .rw[Cj]at h;exact SeqAt.EqAt.int_str i t y u _ _ _ _ h
  .rcases UU c with⟨j,u,rfl,rfl⟩| ⟨y,u,rfl,rfl⟩
   .rw[Ci]at h;exact SeqAt.EqAt.str_int x t j u _ _ _ _ h
   .rw[Ck]at h;exact wpAny_eqBool_str h
 «strs»:=λk x t v h=>by
  rcases UU h with⟨i,u,rfl,e⟩| ⟨y,u,rfl,e⟩
  .exact nomatch e
  .injection e with e1 _;subst e1;cases v<;>rfl
theorem Cd(prog:yY)(w:jC)(i:Int)(t:Tok):(Yy prog w).is (.inl i) (.int i t)=Z7:=Co i t
theorem Mc(prog:yY)(w:jC)(x:Str)(t:Tok):(Yy prog w).is (.inr x) (.str x t)=Z7:=Cn x t
set_option genInjectivity true in
inductive V where
 |non|bl (b:Bool)| int (i:Int)| str (x:Str)| byt (b:Array UInt8)| flt (b:UInt64)| ref (a:yQ)| ty (n:String)
 deriving DecidableEq
def ZF:V->yT->Prop
 |.non,u=>u=Value.none
 |.bl b,u=>u=Value.bool b
 |.int i,u=>∃t,u=Value.int i t
 |.str x,u=>∃t,u=Value.str x t
 |.byt b,u=>∃t,u=Value.bytes b t
 |.flt b,u=>∃t,u=Value.float b t
 |.ref a,u=>u=Value.ref a
 |.ty n,u=>u=Value.type n
abbrev ZK:List V->yB->Prop:=mO ZF
theorem ZK.length(r:ZK xs us):xs.length=us.length:=Paired.length r
theorem ZK.get:∀{xs:List V}{us:yB}{i:Nat}{x:V},ZK xs us->xs[i]?=Z9 x->∃u,us[i]?=Z9 u/\ZF x u
 |_,_,_,_,.nil,e=>by simp at e
 |_,_,0,_,.cons r _,e=>by simp at e;subst e;exact⟨_,rfl,r⟩
 |_,_,i+1,x,.cons _ t,e=>by obtain⟨u,b,a⟩:=ZK.get t (by simpa using e);exact⟨u,by simpa using b,a⟩
theorem ZK.set(r:ZF x u):∀{xs:List V}{us:yB} (i:Nat),ZK xs us->ZK (xs.set i x) (us.set i u)
 |_,_,_,.nil=>.nil
 |_,_,0,.cons _ t=>.cons r t
 |_,_,i+1,.cons q t=>.cons q (ZK.set r i t)
theorem ZK.append:∀{xs ys:List V}{us ws:yB},ZK xs us->ZK ys ws->ZK (xs++ys) (us++ws)
 |_,_,_,_,.nil,s=>s
 |_,_,_,_,.cons r t,s=>.cons r (ZK.append t s)
theorem ZK.take:∀{xs:List V}{us:yB} (n:Nat),ZK xs us->ZK (xs.take n) (us.take n)
 |_,_,0,_=>.nil
 |_,_,_+1,.nil=>.nil
 |_,_,n+1,.cons r t=>.cons r (ZK.take n t)
theorem ZK.drop:∀{xs:List V}{us:yB} (n:Nat),ZK xs us->ZK (xs.drop n) (us.drop n)
 |_,_,0,r=>r
 |_,_,_+1,.nil=>.nil
 |_,_,n+1,.cons _ t=>ZK.drop n t
def Yq:Option V->yF->Prop
 |some v,Z9 u=>ZF v u
 |none,Z8=>True
 |_,_=>False
def KV{a:Type}:List (a×V)->List (a×yT)->Prop:=mO fun(p:a×V) (q:a×yT)=>p.1=q.1/\ZF p.2 q.2
def kV:ZA->V
 |.inl i=>.int i
 |.inr x=>.str x
set_option genInjectivity true in
inductive HO where
 /-- a list -/
 |lst (xs:List V)
 /-- a tuple (never changes) -/
 |tup (xs:List V)
 /-- a dict whose keys are ints and texts;one whose keys are tuples of ints and texts (the empty one is both) -/
 |dK (kvs:List (ZA×V))| dT (kvs:List (List ZA×V))
 /-- a set of ints: its members,its size -/
 |set (S:Int->Bool) (n:Nat)
 /-- an instance of the class at C,its dict at dx,its attributes -/
 |ins (C dx:yQ) (fs:List (Str×V))
 /-- the dict of the instance at x -/
 |own (x:yQ)
 /-- the dict of an exception -/
 |xd (fs:List (Str×V))
 /-- a bound method,f of x -/
 |met (f x:yQ)
 /-- a range object lo,lo+1,.. below hi -/
 |rng (lo hi:Int)
 /-- a thing that is known to the object (the script;a dict while a loop walks it): read,never written while it is so -/
 |frz (o:Obj) (u:HO)
 /-- a code object's table -/
 |tbl (ps:yJ)
 /-- any other thing,by what is Z7 of its one object (a def of one's own: SetO a S n:=HO.ext λh=>..) -/
 |ext (φ:jB->Prop)
abbrev Hp:=yQ->Option HO
def ZE(H:Hp)(a:yQ)(o:HO):Hp:=λb=>if b=a then Z9 o else H b
theorem YU:ZE H a o a=Z9 o:=by unfold ZE;rw[if_pos rfl]
theorem Zq(h:b≠a):ZE H a o b=H b:=by unfold ZE;rw[if_neg h]
theorem HN:ZE (ZE H a o) a u=ZE H a u:=by funext b;unfold ZE;split<;>rfl
theorem Cb{H:Hp}(h:H a=Z9 o)(h':H b=Z9 u)(d:o≠u):a≠b:=by grind
theorem Vx{H:Hp}(h:H a=Z9 o)(h':H b=Z8):a≠b:=by grind
section
variable (P:yY) (w:jC)
def XR(H:Hp)(h:jB)(a:yQ):HO->Prop
 |.lst d=>d.length<=yW/\∃(b:yB) (n:Nat),ZK d b/\h.get? a=Z9 { cls:=.type "list",data:=.seq b.toArray n }
 |.tup d=>d.length<=yW/\∃b:yB,ZK d b/\IsTup h a b.toArray
 |.dK c=>c.length<=yW/\(a == vA)=Z5/\∃i,KV c i/\h.DictOf (Yy P w) a i
 |.dT c=>c.length<=yW/\(a == vA)=Z5/\∃d:List (List ZA×yQ×yT),
   mO (fun(p:List ZA×V) (q:List ZA×yQ×yT)=>p.1=q.1/\H q.2.1=Z9 (.tup (p.1.map kV))/\ZF p.2 q.2.2) c d /\
   ∃o j r,h.get? a=Z9 o/\o.ExactDict/\o.data=.dict j r/\j.toList=d.map (entryOfKey (mV (Yy P w)))/\(d.map (·.1)).Nodup
 |.set S n=>h.SetOf (intKind P w) a S n
 |.ins C dx fs=>H dx=Z9 (.own a)/\fs.length<=1000/\dx≠a/\h.get? a=Z9 (wG C dx) /\
   ∃e,h.Ns1 dx e/\(∀f,Yq (fs.lookup f) (e f))/\dJ e (fs.map (·.1))
 |.own _=>∃o,h.get? a=Z9 o
 |.xd fs=>∃e,h.Ns1 a e/\∀f,Yq (fs.lookup f) (e f)
 |.rng lo s=>∃t u v,h.get? a=Z9 { cls:=.type "range",data:=.fields #[.int lo t,.int s u,.int 1 v] }
 |.frz o u=>h.get? a=Z9 o/\XR H h a u
 |.tbl m=>h.get? a=Z9 { cls:=.none,data:=.fields m }
 |.met f x=>h.get? a=Z9 (W.methodObj (.ref f) (.ref x))
 |.ext g=>g h/\(∃o,h.get? a=Z9 o)/\∀k l:jB,g k->(∀o,k.get? a=Z9 o->l.get? a=Z9 o)->g l
def YB(H:Hp)(h:jB):Prop:=∀a o,H a=Z9 o->XR P w H h a o
end
section
variable {P:yY}{w:jC}{H H':Hp}{h h':jB}{a:yQ}{o:HO}
theorem XR.lt(x:XR P w H h a o):a<h.objs.size:=by
 cases o with
 |lst c=>obtain⟨_,_,_,_,e⟩:=x;exact qB1 e
 |tup c=>obtain⟨_,_,_,p⟩:=x;exact p.lt
 |dK b=>obtain⟨_,_,_,_,o,_,_,e,_⟩:=x;exact qB1 e
 |dT b=>obtain⟨_,_,_,_,o,_,_,e,_⟩:=x;exact qB1 e
 |set S n=>obtain⟨o,_,_,_,e,_⟩:=x;exact qB1 e
 |ins C dx fs=>obtain⟨_,_,_,e,_⟩:=x;exact qB1 e
 |own y=>obtain⟨_,e⟩:=x;exact qB1 e
 |xd fs=>obtain⟨_,⟨_,_,_,e,_⟩,_⟩:=x;exact qB1 e
 |rng lo j=>obtain⟨_,_,_,e⟩:=x;exact qB1 e
 |frz i u=>obtain⟨e,_⟩:=x;exact qB1 e
 |tbl g=>exact qB1 (x)
 |met f y=>exact qB1 (x)
 |ext d=>obtain⟨_,⟨_,e⟩,_⟩:=x;exact qB1 e
theorem Paired.mapP{g e:Type}{F G:g->e->Prop}:∀{d:List g}{c:List e},mO F d c->(∀a b,F a b->G a b)->mO G d c
 |_,_,.nil,_=>.nil
 |_,_,.cons r t,f=>.cons (f _ _ r) (Paired.mapP t f)
theorem XR.stay(x:XR P w H h a o)(k:∀b u,(b=a∨H b=Z9 (.own a))->h.get? b=Z9 u->h'.get? b=Z9 u)
  (I:∀b,H b=Z9 (.own a)->H' b=Z9 (.own a)) (E:∀b xs,H b=Z9 (.tup xs)->H' b=Z9 (.tup xs)):XR P w H' h' a o:=by
 induction o with
 |lst xs=>obtain⟨z,l,n,r,e⟩:=x;exact⟨z,l,n,r,k _ _ (.inl rfl) e⟩
 |tup xs=>obtain⟨z,l,r,g,e,c⟩:=x;exact⟨z,l,r,g,k _ _ (.inl rfl) e,c⟩
 |dK m=>obtain⟨z,y,D,r,g,i,j,e,c⟩:=x;exact⟨z,y,D,r,g,i,j,k _ _ (.inl rfl) e,c⟩
 |dT m =>
  obtain⟨z,y,xs,r,g,i,j,e,c⟩:=x;exact⟨z,y,xs,Paired.mapP r λp q z=>⟨z.1,E _ _ z.2.1,z.2.2⟩,g,i,j,k _ _ (.inl rfl) e,c⟩
 |set S n=>obtain⟨g,i,j,t,e,c⟩:=x;exact⟨g,i,j,t,k _ _ (.inl rfl) e,c⟩
 |ins C dx fs =>
  obtain⟨d,z,ne,e,s,⟨A,i,j,G,c⟩,r⟩:=x;exact⟨I _ d,z,ne,k _ _ (.inl rfl) e,s,⟨A,i,j,k _ _ (.inr d) G,c⟩,r⟩
 |own y=>obtain⟨g,e⟩:=x;exact⟨g,k _ _ (.inl rfl) e⟩
 |xd fs=>obtain⟨s,⟨A,i,j,e,c⟩,r⟩:=x;exact⟨s,⟨A,i,j,k _ _ (.inl rfl) e,c⟩,r⟩
 |rng lo L=>obtain⟨t,u,v,e⟩:=x;exact⟨t,u,v,k _ _ (.inl rfl) e⟩
 |frz g u F=>obtain⟨e,q⟩:=x;exact⟨k _ _ (.inl rfl) e,F q⟩
 |tbl K =>
  have e:=x;exact k a _ (.inl rfl) e
 |met f y =>
  have e:=x;exact k a _ (.inl rfl) e
 |ext J=>obtain⟨p,⟨o,e⟩,B⟩:=x;exact⟨B _ _ p λo q=>k _ _ (.inl rfl) q,⟨o,k _ _ (.inl rfl) e⟩,B⟩
theorem YB.lt(x:YB P w H h)(e:H a=Z9 o):a<h.objs.size:=(x a o e).lt
theorem YB.fresh(x:YB P w H h)(e:h.objs.size<=a):H a=Z8:=by
 cases q:H a with
 |none=>rfl
 |some u=>exact absurd (qA9 (x.lt q) e) (qG9 _)
theorem YB.kept(x:YB P w H h)(k:∀b u,h.get? b=Z9 u->h'.get? b=Z9 u):YB P w H h':=λa o e =>
 (x a o e).stay (λb u _ q=>k b u q) (λ_ q=>q) λ_ _ q=>q
theorem YB.laid(x:YB P w H h)(k:∀b u,h.get? b=Z9 u->h'.get? b=Z9 u)(i:h.objs.size<=a)(d:XR P w (ZE H a o) h' a o):YB P w (ZE H a o) h':=λb u e=>by
 have f:=x.fresh i;by_cases g:b=a
 .subst g;rw[YU]at e;cases e;exact d
 .rw[Zq g]at e;exact(x b u e).stay (λc v _ q=>k c v q) (λc q=>by rw[Zq (Vx q f)];exact q) λc j q=>by rw[Zq (Vx q f)];exact q
end
def Rd(H:Hp)(a:yQ)(u:HO):Prop:=H a=Z9 u∨∃o,H a=Z9 (.frz o u)
theorem Rd.ok(r:Rd H a u)(x:YB P w H h):XR P w H h a u:=by
 rcases r with r|⟨o,r⟩
 .exact x a u r
 .obtain⟨_,q⟩:=x a _ r;exact q
def Sv:Option HO->Prop
 |some (.lst _)=>True
 |some (.dK _)=>True
 |some (.dT _)=>True
 |some (.set _ _)=>True
 |some (.ins _ _ _)=>True
 |some (.ext _)=>True
 |_=>False
section
variable {P:yY}{w:jC}{H:Hp}{h h':jB}{x e:yQ}{o':HO}
theorem YB.write(ok:YB P w H h)(g:Sv (H x))(he:e=x∨H e=Z9 (.own x))(k:∀b u,b≠e->h.get? b=Z9 u->h'.get? b=Z9 u)(j:∃u,h'.get? e=Z9 u)
  (l:XR P w (ZE H x o') h' x o'):YB P w (ZE H x o') h':=λb u q=>by
 have d:∀c y,H c=Z9 (.own y)->c≠x:=λc y r z=>by subst z;rw[r]at g;exact g
 have f:∀c i,H c=Z9 (.tup i)->c≠x:=λc i r z=>by subst z;rw[r]at g;exact g
 by_cases m:b=x
 .subst m;rw[YU]at q;cases q;exact l
 .rw[Zq m]at q;by_cases a:b=e
  .have o:H b=Z9 (.own x):=by
    rcases he with z|z
    .exact absurd (a.trans z) m
    .rw[a];exact z
   rw[q]at o;cases o;obtain⟨v,p⟩:=j;exact⟨v,by rw[a];exact p⟩
  .refine(ok b u q).stay (λc v n r=>k c v ?_ r) (λc r=>by rw[Zq (d c b r)];exact r) λc i r=>by rw[Zq (f c i r)];exact r
   rcases n with rfl|n
   .exact a
   .rintro rfl;rcases he with z|z
    .exact d c b n z
    .simp_all
end
structure Un(fs ex:yC)(H H':Hp)(h h':jB):Prop where
 keep:∀b o,h.get? b=Z9 o->H b=Z8->b∉fs->b∉ex->h'.get? b=Z9 o
 slot:∀b o,h.get? b=Z9 o->H b=Z8->b∈fs->b∉ex->∃sl,h'.get? b=Z9 { o with slots:=sl }
 free:∀b o,h.get? b=Z9 o->H b=Z8->b∉ex->H' b=Z8
 there:∀b o,h.get? b=Z9 o->b∉ex->∃o',h'.get? b=Z9 o'
 tups:∀b xs,H b=Z9 (.tup xs)->H' b=Z9 (.tup xs)
 frzs:∀b o u,H b=Z9 (.frz o u)->H' b=Z9 (.frz o u)
 tbls:∀b ps,H b=Z9 (.tbl ps)->∃more,H' b=Z9 (.tbl (ps++more))
section
variable {fs fs' ex ex':yC}{H H1 H2:Hp}{h h1 h2 h':jB}{a x e:yQ}{o:HO}
theorem Un.any(u:Un fs ex H H1 h h1)(q:h.get? b=Z9 c)(n:H b=Z8)(f:b∉ex):∃g,h1.get? b=Z9 { c with slots:=g }:=by
 by_cases d:b∈fs
 .exact u.slot b c q n d f
 .exact⟨c.slots,u.keep b c q n d f⟩
theorem Un.kept(k:∀b u,h.get? b=Z9 u->h'.get? b=Z9 u):Un fs ex H H h h' :=
 ⟨λb c q _ _ _=>k b c q,λb c q _ _ _=>⟨c.slots,k b c q⟩,λ_ _ _ n _=>n,λb c q _=>⟨c,k b c q⟩,λ_ _ q=>q,λ_ _ _ q=>q,λ_ d q=>⟨#[],by rw[q];simp⟩⟩
theorem Un.refl:Un fs ex H H h h:=Un.kept λ_ _ q=>q
theorem Un.laid(k:∀b u,h.get? b=Z9 u->h'.get? b=Z9 u)(d:h.objs.size<=a)(c:H a=Z8):Un fs ex H (ZE H a o) h h' where
 keep:=λb u q _ _ _=>k b u q
 slot:=λb u q _ _ _=>⟨u.slots,k b u q⟩
 free:=λb u q n _=>by rw[Zq (qC0 (qA9 (qB1 q) d))];exact n
 there:=λb u q _=>⟨u,k b u q⟩
 tups:=λb f q=>by rw[Zq (Vx q c)];exact q
 frzs:=λb u f q=>by rw[Zq (Vx q c)];exact q
 tbls:=λb g q=>⟨#[],by rw[Zq (Vx q c),q];simp⟩
theorem Un.write(d:Sv (H x))(he:e=x∨H e=Z9 (.own x))(k:∀b u,b≠e->h.get? b=Z9 u->h'.get? b=Z9 u)(f:∃u,h'.get? e=Z9 u):Un fs ex H (ZE H x o) h h':=by
 have j:∀b,H b=Z8->b≠x:=λb n z=>by subst z;rw[n]at d;exact d
 have i:∀b,H b=Z8->b≠e:=λb n z=>by
  subst z;rcases he with r|r
  .exact j b n r
  .rw[n]at r;cases r
 have g:∀b u,H b=Z9 u->¬Sv (Z9 u)->b≠x:=λb u q l z=>by subst z;rw[q]at d;exact l d
 refine⟨λb u q n _ _=>k b u (i b n) q,λb u q n _ _=>⟨u.slots,k b u (i b n) q⟩,λb u q n _=>by rw[Zq (j b n)];exact n,λb u q _=>?_,
  λb m q=>by rw[Zq (g b _ q λz=>z)];exact q,λb u m q=>by rw[Zq (g b _ q λz=>z)];exact q,λb p q=>⟨#[],by rw[Zq (g b _ q λz=>z),q];simp⟩⟩
 by_cases c:b=e
 .subst c;exact f
 .exact⟨u,k b u c q⟩
end
def Od(h:jB)(H:Hp):yC:=(List.range h.objs.size).filter λa=>(H a).isSome
def W2(h:jB)(H:Hp):Heap:=W.hideAll h (Od h H)
theorem Ca(h:jB)(H:Hp):(W2 h H).objs.size=h.objs.size:=W.hideAll_size _ _
theorem B9(e:h.get? b=Z9 o)(n:H b=Z8):(W2 h H).get? b=Z9 o :=
 W.hideAll_get _ e λa=>by have q:=(qI7.mp a).2;rw[n]at q;simp at q
theorem B8(e:(W2 h H).get? b=Z9 o):h.get? b=Z9 o/\H b=Z8:=by
 have a:=W.of_hideAll (Od h H) e;refine⟨a,?_⟩;cases q:H b with
 |none=>rfl
 |some x =>
  have c:b∈Od h H:=qI7.mpr ⟨qJ2.mpr (qB1 a),by simp[q]⟩;have z:(W2 h H).get? b=Z8:=W.hideAll_none (Od h H) c;rw[z]at e;cases e
def B7(g h:jB)(L:yQ):yD:=(List.range h.objs.size).filterMap λa=>if a=L∨(g.get? a).isSome=Z7 then Z8 else(h.get? a).map λo=>(a,o)
def ZM(g h:jB)(L d:yQ):yD:=(B7 g h L).filter λp=>decide (p.1≠d)
structure Mod(K:yP)(mg:Str->yF)(base:jB):Prop where
 kin:K.In base
 glob:base.Ns y9 mg
 blt:∃mb,base.Ns dF mb/\∀x:Str,x ≠ "__name__"->mb x=jF x
 nolimit:base.NoLimit
structure Cx where
 prog:yY
 w:jC
 K:yP
 mg:Str->yF
 base:jB
 A:jE
 N:yH
 s₀:yR
 H₀:Hp
 env:Env
 outer:List Env
 stack:List Env
 ex:yC
 fn:Str->Bool
 calm:Bool
 pn:yD
 xe:yL
def X5(l:List Env):yC:=l.filterMap (·.frame)
abbrev Cx.fs(X:Cx):yC:=X5 X.outer
def Vw(a:jW)(x:Str):Prop:=a.names.lookup x=Z9 .local∨a.names.lookup x=Z9 .cell∨a.names.lookup x=Z9 .free
def Rh(a:jW)(x:Str):Prop:=a.names.lookup x=Z9 .local∨a.names.lookup x=Z9 .cell
def Mb(env:Env)(h:jB)(m:Str->yF)(x:Str)(u:yT):Prop :=
 (env.kindOf x=Z9 .local/\m x=Z9 u)∨((env.kindOf x=Z9 .cell∨env.kindOf x=Z9 .free)/\∃c,env.cells.lookup x=Z9 c/\h.IsCell c (Z9 u))
structure Cx.Ok(X:Cx):Prop where
 mod:Mod X.K X.mg X.base
 kind:X.env.scope.kind=.function
 glob:X.env.globals=y9
 blt:X.env.builtins=dF
 above:X.s₀.heap.objs.size<=X.env.locals
 inj:∀x y c,X.env.cells.lookup x=Z9 c->X.env.cells.lookup y=Z9 c->x=y
 has:∀x,(X.env.kindOf x=Z9 .cell∨X.env.kindOf x=Z9 .free)->∃c,X.env.cells.lookup x=Z9 c
 cab:∀x c,X.fn x=Z7->X.env.cells.lookup x=Z9 c->X.s₀.heap.objs.size<=c
 hd:X.calm=Z7->X.A.handled=Z8
 frames:X.A.frames=Z9 X.stack
 stk:X.stack=X.outer∨(X.stack=X.env::X.outer/\X.env.frame=Z9 X.env.locals)
 exf:∀b∈X.ex,b≠X.env.locals/\∀x c,X.env.cells.lookup x=Z9 c->c≠b
 bs:∀b o,X.base.get? b=Z9 o->X.s₀.heap.get? b=Z9 o/\X.H₀ b=Z8
 bsz:X.base.objs.size<=X.s₀.heap.objs.size
 noex:∀b o,X.base.get? b=Z9 o->b∉X.ex
 exfs:∀b∈X.ex,b∉X.fs
 funs:X.s₀.heap.FunFrames X.base X.outer
 frf:∀b∈X.fs,X.H₀ b=Z8
structure ZP(X:Cx)(pins:yD)(Z:List (Option V))(H:Hp)(s:yR):Prop where
 ok:X.Ok
 os:s.os=X.s₀.os
 bare:wO s.gens
 base:Un X.fs X.ex X.H₀ H X.s₀.heap s.heap
 loc:∃m,s.heap.Ns X.env.locals m/\∀(i:Nat) (x:Str) (v:V),X.N[i]?=Z9 x->Z[i]?=Z9 (Z9 v)->Vw X.env.scope x->∃u,ZF v u/\Mb X.env s.heap m x u
 cell:∀x c,X.env.cells.lookup x=Z9 c->∃v,s.heap.IsCell c v
 free:H X.env.locals=Z8
 freeC:∀x c,X.env.cells.lookup x=Z9 c->H c=Z8
 pin:∀p∈X.pn++pins,s.heap.get? p.1=Z9 p.2/\H p.1=Z8/\p.1≠X.env.locals/\p.1∉X.fs/\∀v,p.2.data≠.cell v
 hok:YB X.prog X.w H s.heap
 len:Z.length=X.N.length
section
variable {X:Cx}{pins:yD}{Z:List (Option V)}{H H':Hp}{s:yR}{h':jB}
theorem Cx.Ok.nofr(ok:X.Ok)(e:X.base.get? b=Z9 o):b∉X.fs:=λa=>by have:=(ok.funs.mem a).1;rw[e]at this;cases this
theorem ZP.bs(I:ZP X pins Z H s):∀b o,X.base.get? b=Z9 o->s.heap.get? b=Z9 o/\H b=Z8:=λb o e =>
 ⟨I.base.keep b o (I.ok.bs b o e).1 (I.ok.bs b o e).2 (I.ok.nofr e) (I.ok.noex b o e),I.base.free b o (I.ok.bs b o e).1 (I.ok.bs b o e).2 (I.ok.noex b o e)⟩
theorem ZP.bk(I:ZP X pins Z H s):∀b o,X.base.get? b=Z9 o->s.heap.get? b=Z9 o:=λb o e=>(I.bs b o e).1
theorem ZP.mod(I:ZP X pins Z H s):Mod X.K X.mg X.base:=I.ok.mod
theorem ZP.kIn(I:ZP X pins Z H s):X.K.In s.heap:=I.ok.mod.kin.keeps I.bk
theorem ZP.lt(I:ZP X pins Z H s):X.env.locals<s.heap.objs.size:=let ⟨_,hn,_⟩:=I.loc;hn.lt
theorem ZP.sz(I:ZP X pins Z H s):X.s₀.heap.objs.size<=s.heap.objs.size:=qC6 I.ok.above (qF7 I.lt)
theorem ZP.nofs(I:ZP X pins Z H s){a:yQ}(h:s.heap.objs.size<=a):a∉X.fs:=λc=>by obtain⟨_,o,b,_⟩:=I.ok.funs.mem c;exact absurd (qA9 (qB1 b) (qC6 I.sz h)) (qG9 _)
theorem ZP.cne(I:ZP X pins Z H s):∀x c,X.env.cells.lookup x=Z9 c->c≠X.env.locals:=λx c e z=>by obtain⟨v,o,f,d⟩:=I.cell x c e;obtain⟨m,⟨h,i,g,a,b,_⟩,_⟩:=I.loc;rw[z,a]at f;cases f;rw[b]at d;cases d
theorem ZP.funs(I:ZP X pins Z H s):s.heap.FunFrames X.base X.outer:=by
 have all:∀l,(∀b∈X5 l,b∈X.fs)->X.s₀.heap.FunFrames X.base l->s.heap.FunFrames X.base l:=by
  intro l
  induction l with
  |nil=>intro _ _;trivial
  |cons i r h =>
   intro f g;obtain⟨hk,⟨L,o,d,j,k,n⟩,m⟩:=g;have a:=f L (by unfold X5;rw[qE9,d];exact qD1);obtain⟨p,e⟩:=I.base.slot L o k (I.ok.frf L a) a λz=>I.ok.exfs L z a;exact⟨hk,⟨L,_,d,j,e,n⟩,h (λb c=>f b (by unfold X5;rw[qE9,d];exact qC5 _ c)) m⟩
 exact all X.outer (λ_ c=>c) I.ok.funs
theorem ZP.stack(I:ZP X pins Z H s):s.heap.FunFrames X.base X.stack:=by
 rcases I.ok.stk with e|⟨e,a⟩
 .rw[e];exact I.funs
 .rw[e];obtain⟨m,b,_⟩:=I.loc;refine .cons (by rw[I.ok.kind];decide) a b ?_ I.funs;exact qL5 (qC6 I.ok.bsz I.ok.above)
theorem ZP.stkSub(I:ZP X pins Z H s):∀b∈X5 X.stack,b∈X.env.locals::X.fs:=λb a=>by
 rcases I.ok.stk with e|⟨e,c⟩
 .rw[e]at a;exact qC5 _ a
 .rw[e]at a;unfold X5 at a;rw[qE9,c]at a;exact a
theorem ZP.stkFree(I:ZP X pins Z H s):∀b∈X5 X.stack,H b=Z8:=λb a=>by
 rcases qA8.mp (I.stkSub b a)with e|a
 .rw[e];exact I.free
 .obtain⟨_,o,c,_⟩:=I.ok.funs.mem a;exact I.base.free b o c (I.ok.frf b a) λz=>I.ok.exfs b z a
theorem ZP.step{ch:yC}(I:ZP X pins Z H s)
  (g:∀b∈ch,(b∈X.ex∨X.s₀.heap.objs.size<=b)/\b≠X.env.locals/\(∀x c,X.env.cells.lookup x=Z9 c->c≠b)/\∀p∈X.pn++pins,p.1≠b)
  (keep:∀b o,b≠X.env.locals->b∉X.fs->b∉ch->s.heap.get? b=Z9 o->H b=Z8->h'.get? b=Z9 o)
  (y:∀b o,b≠X.env.locals->b∈X.fs->b∉ch->s.heap.get? b=Z9 o->H b=Z8->∃M,h'.get? b=Z9 { o with slots:=M }) (f:∀b o,b∉ch->s.heap.get? b=Z9 o->H b=Z8->H' b=Z8)
  (B:∀b o,b∉ch->s.heap.get? b=Z9 o->∃o',h'.get? b=Z9 o')
  (D:∀b xs,H b=Z9 (.tup xs)->H' b=Z9 (.tup xs)) (K:∀b o u,H b=Z9 (.frz o u)->H' b=Z9 (.frz o u)) (F:∀b ps,H b=Z9 (.tbl ps)->∃E,H' b=Z9 (.tbl (ps++E)))
  (ns:∀m,s.heap.Ns X.env.locals m->h'.Ns X.env.locals m) (O:YB X.prog X.w H' h') (hg:wO g') :
  ZP X pins Z H' { s with heap:=h',gens:=g',drawn:=d',toks:=t' }:=by
 have J:∀b o,X.s₀.heap.get? b=Z9 o->b≠X.env.locals:=λb o e=>qC0 (qA9 (qB1 e) I.ok.above);have w:∀b o,X.s₀.heap.get? b=Z9 o->b∉X.ex->b∉ch:=λb o e a A=>by
  rcases(g b A).1 with z|z
  .exact a z
  .exact absurd (qA9 (qB1 e) z) (qG9 _)
 have h:∀x c,X.env.cells.lookup x=Z9 c->∀v,s.heap.IsCell c v->h'.IsCell c v:=λx c e v ⟨o,C,N⟩=>by
  have j:=λz=>(g c z).2.2.1 x c e rfl;by_cases R:c∈X.fs
  .obtain⟨M,q⟩:=y c o (I.cne x c e) R j C (I.freeC x c e);exact⟨_,q,N⟩
  .exact⟨o,keep c o (I.cne x c e) R j C (I.freeC x c e),N⟩
 refine⟨I.ok,I.os,hg,⟨λb o e n A a=>?_,λb o e n A a=>?_,λb o e n a=>?_,λb o e a=>?_,λb xs e=>D b xs (I.base.tups b xs e),λb o xs e=>K b o xs (I.base.frzs b o xs e),λb ps e=>?_⟩,?_,λx c e=>?_,?_,λx c e=>?_,λp P=>?_,O,I.len⟩
 .exact keep b o (J b o e) A (w b o e a) (I.base.keep b o e n A a) (I.base.free b o e n a)
 .obtain⟨M,t⟩:=I.base.slot b o e n A a;obtain⟨L,G⟩:=y b _ (J b o e) A (w b o e a) t (I.base.free b o e n a);exact⟨L,G⟩
 .obtain⟨o',t⟩:=I.base.there b o e a;exact f b o' (w b o e a) t (I.base.free b o e n a)
 .obtain⟨o',t⟩:=I.base.there b o e a;exact B b o' (w b o e a) t
 .obtain⟨W,t⟩:=I.base.tbls b ps e;obtain⟨Y,G⟩:=F b _ t;exact⟨W++Y,by rw[G,Array.append_assoc]⟩
 .obtain⟨m,T,S⟩:=I.loc;refine⟨m,ns m T,λi x v t G U=>?_⟩;obtain⟨u,r,l⟩:=S i x v t G U;refine⟨u,r,?_⟩;rcases l with l|⟨k,c,e,z⟩
  .exact .inl l
  .exact .inr ⟨k,c,e,h x c e _ z⟩
 .obtain⟨v,z⟩:=I.cell x c e;exact⟨v,h x c e v z⟩
 .obtain⟨m,⟨o,_,_,C,_⟩,_⟩:=I.loc;exact f _ o (λz=>(g _ z).2.1 rfl) C I.free
 .obtain⟨v,o,C,N⟩:=I.cell x c e;exact f c o (λz=>(g c z).2.2.1 x c e rfl) C (I.freeC x c e)
 .obtain⟨e,n,ne,Q,d⟩:=I.pin p P;have j:=λz=>(g p.1 z).2.2.2 p P rfl;exact⟨keep p.1 p.2 ne Q j e n,f p.1 p.2 j e n,ne,Q,d⟩
theorem ZP.un(I:ZP X pins Z H s)(u:Un X.fs [] H H' s.heap h')(g:YB X.prog X.w H' h'):ZP X pins Z H' { s with heap:=h',toks:=t' }:=by
 obtain⟨m,⟨o,p,t,h,r⟩,_⟩:=id I.loc;obtain⟨v,j⟩:=u.any h I.free (by simp);exact I.step (g':=s.gens) (d':=s.drawn) (ch:=[]) (λ_ z=>nomatch z) (λb o _ f _ e n=>u.keep b o e n f (by simp)) (λb o _ f _ e n=>u.slot b o e n f (by simp)) (λb o _ e n=>u.free b o e n (by simp)) (λb o _ e=>u.there b o e (by simp)) u.tups u.frzs u.tbls (λq i=>by
  obtain⟨l,c,d,a,k⟩:=i;rw[h]at a;cases a;exact⟨_,c,d,j,k⟩) g I.bare
theorem ZP.call(I:ZP X pins Z H s)(u:Un (X5 X.stack) ch H H' s.heap h')(j:YB X.prog X.w H' h')(v:wO g')
  (d:∀b∈ch,(b∈X.ex∨X.s₀.heap.objs.size<=b)/\b≠X.env.locals/\(∀x c,X.env.cells.lookup x=Z9 c->c≠b)/\∀p∈X.pn++pins,p.1≠b) :
  ZP X pins Z H' { s with heap:=h',gens:=g',drawn:=d',toks:=t' }:=by
 obtain⟨m,⟨o,y,B,k,r⟩,_⟩:=id I.loc;obtain⟨C,h⟩:=u.any k I.free λz=>(d _ z).2.1 rfl;exact I.step d (λb o h q a e n=>u.keep b o e n (λz=>(qA8.mp (I.stkSub b z)).elim h q) a) (λb o _ _ a e n=>u.any e n a) (λb o a e n=>u.free b o e n a) (λb o a e=>u.there b o e a) u.tups u.frzs u.tbls (λA l=>by
  obtain⟨w,g,i,f,t⟩:=l;rw[k]at f;cases f;exact⟨_,g,i,h,t⟩) j v
theorem ZP.turned(I:ZP X pins Z H s)(k:∀b o,b≠it->s.heap.get? b=Z9 o->h'.get? b=Z9 o)(i:H it=Z8)(f:it≠X.env.locals)
  (y:it∈X.ex∨X.s₀.heap.objs.size<=it) (A:∀x c,X.env.cells.lookup x=Z9 c->c≠it) (w:∀p∈X.pn++pins,p.1≠it):ZP X pins Z H { s with heap:=h',toks:=t' }:=by
 have d:∀b u,H b=Z9 u->b≠it:=λb u e z=>by rw[z,i]at e;cases e
 refine I.step (g':=s.gens) (d':=s.drawn) (ch:=[it]) (λb t=>?_) (λb o _ _ a e _=>k b o (λz=>a (by simp[z])) e) (λb o _ _ a e _=>⟨o.slots,k b o (λz=>a (by simp[z])) e⟩) (λ_ _ _ _ n=>n)
  (λb o a e=>⟨o,k b o (λz=>a (by simp[z])) e⟩) (λ_ _ e=>e) (λ_ _ _ e=>e) (λb B e=>⟨#[],by rw[e];simp⟩) (λm h=>?_) (λb u e=>?_) I.bare
 .have e:=by simpa using t
  subst e;exact⟨y,f,A,w⟩
 .obtain⟨o,g,j,l,r⟩:=h;exact⟨o,g,j,k _ o (Ne.symm f) l,r⟩
 .refine(I.hok b u e).stay (λc v a q=>k c v ?_ q) (λ_ q=>q) λ_ _ q=>q;rcases a with z|z
  .rw[z];exact d b u e
  .exact d c _ z
theorem ZP.tok(I:ZP X pins Z H s)(t:Nat):ZP X pins Z H { s with toks:=t }:=I.un (h':=s.heap) (t':=t) Un.refl I.hok
theorem ZP.kept(I:ZP X pins Z H s)(k:∀b u,s.heap.get? b=Z9 u->h'.get? b=Z9 u):ZP X pins Z H { s with heap:=h',toks:=t' }:=I.un (Un.kept k) (I.hok.kept k)
theorem ZP.laid{a:yQ}(I:ZP X pins Z H s)(k:∀b u,s.heap.get? b=Z9 u->h'.get? b=Z9 u)(c:s.heap.objs.size<=a)(d:XR X.prog X.w (ZE H a o) h' a o):
  ZP X pins Z (ZE H a o) { s with heap:=h',toks:=t' }:=I.un (Un.laid k c (I.hok.fresh c)) (I.hok.laid k c d)
theorem ZP.write(I:ZP X pins Z H s)(d:Sv (H x))(he:e=x∨H e=Z9 (.own x))(k:∀b u,b≠e->s.heap.get? b=Z9 u->h'.get? b=Z9 u)(a:∃u,h'.get? e=Z9 u)
  (c:XR X.prog X.w (ZE H x o) h' x o):ZP X pins Z (ZE H x o) { s with heap:=h',toks:=t' }:=I.un (Un.write d he k a) (I.hok.write d he k a c)
theorem ZP.weak(I:ZP X pins Z H s)(e:a.length=Z.length)(w:∀(i:Nat) v,a[i]?=Z9 (Z9 v)->Z[i]?=Z9 (Z9 v)):ZP X pins a H s :=
 ⟨I.ok,I.os,I.bare,I.base,let ⟨m,hn,hl'⟩:=I.loc;⟨m,hn,λi x v d b c=>hl' i x v d (w i v b) c⟩,I.cell,I.free,I.freeC,I.pin,I.hok,e.trans I.len⟩
theorem ZP.pins_of(I:ZP X pins Z H s)(h:∀p∈a,s.heap.get? p.1=Z9 p.2/\H p.1=Z8/\p.1≠X.env.locals/\p.1∉X.fs/\∀v,p.2.data≠.cell v):ZP X a Z H s :=
 ⟨I.ok,I.os,I.bare,I.base,I.loc,I.cell,I.free,I.freeC,λp b=>(qE2.mp b).elim (λz=>I.pin p (qH1 _ z)) (h p),I.hok,I.len⟩
theorem Ma{N:yH}(e:N.Nodup){i j:Nat}(a:N[i]?=Z9 x)(b:N[j]?=Z9 x):i=j:=by obtain⟨g,d⟩:=qA3.mp a;obtain⟨f,c⟩:=qA3.mp b;exact(List.getElem_inj e).mp (d.trans c.symm)
theorem B6{E:yL}(I:ZP X pins Z H s)(hN:X.N.Nodup)(hi:X.N[i]?=Z9 x)(w:Rh X.env.scope x)(r:ZF v u)
  (h:∀s',ZP X pins (Z.set i (Z9 v)) H s'->(∃a,qF2 a s.heap s'.heap/\(a=X.env.locals∨X.env.cells.lookup x=Z9 a))->Q () s') (hf:X.fn x=Z7∨X.env.scope.names.lookup x=Z9 .local:=by first|exact .inl rfl|exact .inr rfl|assumption):yZ M A (storeName X.env x u) Q E s:=by
 obtain⟨m,hn,hl⟩:=id I.loc;have O:(X.env.scope.kind == .class||(X.env.scope.kind == .module&&X.env.locals != X.env.globals))=Z5:=by rw[I.ok.kind];rfl
 have P:i<Z.length:=by rw[I.len];exact(qA3.mp hi).1
 have cne:=I.cne;have l:∀{a:yQ}{h':jB},(∃o,s.heap.get? a=Z9 o/\H a=Z8)->qF2 a s.heap h'->YB X.prog X.w H h':=λ{a h'} ha f b ob e=>by
  obtain⟨_,_,B⟩:=ha;refine(I.hok b ob e).stay (λc R t q=>(f.2 c ?_).trans q) (λ_ q=>q) λ_ _ q=>q;rintro rfl;rcases t with rfl|t
  .rw[B]at e;cases e
  .rw[B]at t;cases t
 rcases w with hk|hk
 .refine wpAny_storeName_local hk hn (λh' hn' f=>?_) O;obtain⟨oL,_,_,Y,_⟩:=id hn;refine h _ ⟨I.ok,I.os,I.bare,⟨λb o e n F w=>?_,λb o e n F w=>?_,I.base.free,λb o e w=>?_,I.base.tups,I.base.frzs,I.base.tbls⟩,⟨_,hn',λj y v' g C e3=>?_⟩,λy c e=>?_,I.free,I.freeC,λp T=>?_,l ⟨oL,Y,I.free⟩ f,by simpa using I.len⟩ ⟨_,f,.inl rfl⟩
  .exact(f.2 b (qC0 (qA9 (qB1 e) I.ok.above))).trans (I.base.keep b o e n F w)
  .obtain⟨sl,g⟩:=I.base.slot b o e n F w;exact⟨sl,(f.2 b (qC0 (qA9 (qB1 e) I.ok.above))).trans g⟩
  .obtain⟨W,g⟩:=I.base.there b o e w;exact⟨W,(f.2 b (qC0 (qA9 (qB1 e) I.ok.above))).trans g⟩
  .by_cases G:j=i
   .subst G;rw[hi]at g;cases g;rw[qC7 P]at C;cases C;exact⟨u,r,.inl ⟨hk,by simp⟩⟩
   .rw[qC9 (Ne.symm G)]at C;obtain⟨u',r',q⟩:=hl j y v' g C e3;refine⟨u',r',?_⟩;rcases q with⟨k,e⟩| ⟨k,c,e,z⟩
    .refine .inl ⟨k,?_⟩;have:y≠x:=λe=>G (Ma hN g (e▸hi));simp[this,e]
    .exact .inr ⟨k,c,e,z.sameBut f (cne y c e)⟩
  .obtain⟨R,z⟩:=I.cell y c e;exact⟨R,z.sameBut f (cne y c e)⟩
  .obtain⟨e,n,ne,U,d⟩:=I.pin p T;exact⟨(f.2 p.1 ne).trans e,n,ne,U,d⟩
 .have D:X.fn x=Z7:=by
   rcases hf with z|z
   .exact z
   .rw[z]at hk;cases hk
  obtain⟨c,t⟩:=I.ok.has x (.inl hk);obtain⟨R,z⟩:=I.cell x c t;refine wpAny_storeName_cell I.ok.kind hk t z (λh' L f=>?_);obtain⟨oc,N,K⟩:=id z;refine h { s with heap:=h' } ⟨I.ok,I.os,I.bare,⟨λb o e n F w=>?_,λb o e n F w=>?_,I.base.free,λb o e w=>?_,I.base.tups,I.base.frzs,I.base.tbls⟩,⟨m,hn.sameBut f (Ne.symm (cne x c t)),λj y v' g C e3=>?_⟩,λy S e=>?_,I.free,I.freeC,λp T=>?_,l ⟨oc,N,I.freeC x c t⟩ f,by simpa using I.len⟩ ⟨c,f,.inr t⟩
  .exact(f.2 b (qC0 (qA9 (qB1 e) (I.ok.cab x c D t)))).trans (I.base.keep b o e n F w)
  .obtain⟨sl,g⟩:=I.base.slot b o e n F w;exact⟨sl,(f.2 b (qC0 (qA9 (qB1 e) (I.ok.cab x c D t)))).trans g⟩
  .obtain⟨W,g⟩:=I.base.there b o e w;exact⟨W,(f.2 b (qC0 (qA9 (qB1 e) (I.ok.cab x c D t)))).trans g⟩
  .by_cases G:j=i
   .subst G;rw[hi]at g;cases g;rw[qC7 P]at C;cases C;exact⟨u,r,.inr ⟨.inl hk,c,t,L⟩⟩
   .rw[qC9 (Ne.symm G)]at C;obtain⟨u',r',q⟩:=hl j y v' g C e3;refine⟨u',r',?_⟩;rcases q with q|⟨k,S,e,z'⟩
    .exact .inl q
    .refine .inr ⟨k,S,e,z'.sameBut f ?_⟩;rintro rfl;exact G (Ma hN g (I.ok.inj _ _ _ e t▸hi))
  .by_cases J:S=c
   .subst J;exact⟨_,L⟩
   .obtain⟨w2,z2⟩:=I.cell y S e;exact⟨w2,z2.sameBut f J⟩
  .obtain⟨e,n,ne,U,d⟩:=I.pin p T;refine⟨(f.2 p.1 ?_).trans e,n,ne,U,d⟩;intro q;rw[q,N]at e;have q':=Option.some.inj e;exact d R (by rw[<- q'];exact K)
theorem Oc{E:yL}(I:ZP X pins Z H s)(d:X.N.Nodup)(hi:X.N[i]?=Z9 x)(c:Rh X.env.scope x)(r:ZF v u)
  (h:∀s',ZP X pins (Z.set i (Z9 v)) H s'->Q () s') (a:X.fn x=Z7∨X.env.scope.names.lookup x=Z9 .local:=by first|exact .inl rfl|exact .inr rfl|assumption):yZ M A (storeName X.env x u) Q E s :=
 B6 I d hi c r (λs' b _=>h s' b) a
theorem ZP.call'(I:ZP X pins Z H s)(f:s'.os=s.os)(u:Un (X5 X.stack) ch H H' s.heap s'.heap)(a:YB X.prog X.w H' s'.heap)(h:wO s'.gens)
  (d:∀b∈ch,(b∈X.ex∨X.s₀.heap.objs.size<=b)/\b≠X.env.locals/\(∀x c,X.env.cells.lookup x=Z9 c->c≠b)/\∀p∈X.pn++pins,p.1≠b):ZP X pins Z H' s':=by obtain⟨i,g',d',t',g⟩:=s';have e:g=s.os:=f;subst e;exact I.call (g':=g') (t':=t') (d':=d') u a h d
end
abbrev XK:=yT->Option yQ->Hp->Prop
abbrev St:=List (Option V)
abbrev VK:=V->Hp->Prop
abbrev TE:=St->Hp->VK->Prop
abbrev TT:=St->Hp->(Bool->Hp->Prop)->Prop
abbrev TA:=St->Hp->(List V->Hp->Prop)->Prop
structure Xk where
 nx:St->Hp->Prop
 rt:VK
 bk:St->Hp->Prop:=λ_ _=>False
 ct:St->Hp->Prop:=λ_ _=>False
abbrev TS:=Xk->St->Hp->Prop
inductive EP(X:Cx)(pins:yD)(Z:St)(Q:VK)(u:yT)(s':yR):Prop
 |mk (v:V) (H':Hp) (I:ZP X pins Z H' s') (r:ZF v u) (q:Q v H')
inductive TP(X:Cx)(pins:yD)(Z:St)(Q:Bool->Hp->Prop)(b:Bool)(s':yR):Prop
 |mk (H':Hp) (I:ZP X pins Z H' s') (q:Q b H')
inductive AP(X:Cx)(pins:yD)(Z:St)(Q:List V->Hp->Prop)(us:yB)(s':yR):Prop
 |mk (vs:List V) (H':Hp) (I:ZP X pins Z H' s') (r:ZK vs us) (q:Q vs H')
def SP(X:Cx)(a:yD)(D:Xk)(f:Flow)(s':yR):Prop :=
 match f with
 |.next=>∃c b,ZP X a c b s'/\D.nx c b
 |.brk=>∃c b,ZP X a c b s'/\D.bk c b
 |.cont=>∃c b,ZP X a c b s'/\D.ct c b
 |.ret u=>∃v c b,ZP X a c b s'/\ZF v u/\D.rt v b
def PE(X:Cx)(e:yV)(t:TE):Prop :=
 ∀(a:yD) (s:yR) (Z:St) (H:Hp) (Q:VK),ZP X a Z H s->t Z H Q->yZ (yX X.prog X.w) X.A (jU e X.env) (EP X a Z Q) X.xe s
def PT(X:Cx)(e:yV)(t:TT):Prop :=
 ∀(a:yD) (s:yR) (Z:St) (H:Hp) (Q:Bool->Hp->Prop),ZP X a Z H s->t Z H Q->yZ (yX X.prog X.w) X.A (dS e X.env (jU e X.env)) (TP X a Z Q) X.xe s
def PW(X:Cx)(e:yV)(t:TT):Prop :=
 ∀(b:Sem yT) (a:yD) (s:yR) (Z:St) (H:Hp) (Q:Bool->Hp->Prop),ZP X a Z H s->t Z H Q->yZ (yX X.prog X.w) X.A (dS e X.env b) (TP X a Z Q) X.xe s
theorem PW.pt(h:PW X e t):PT X e t:=h _
def PA(X:Cx)(es:yE)(t:TA):Prop :=
 ∀(b:Pos) (a:yD) (s:yR) (Z:St) (H:Hp) (Q:List V->Hp->Prop),ZP X a Z H s->t Z H Q->yZ (yX X.prog X.w) X.A (spliced (vC b (y7 es X.env))) (AP X a Z Q) X.xe s
def PS(X:Cx)(st:jV)(t:TS):Prop :=
 ∀(a:yD) (s:yR) (Z:St) (H:Hp) (D:Xk),ZP X a Z H s->t D Z H->yZ (yX X.prog X.w) X.A (exec st X.env) (SP X a D) X.xe s
def XH(X:Cx)(st:List jV)(t:TS):Prop :=
 ∀(a:yD) (s:yR) (Z:St) (H:Hp) (D:Xk),ZP X a Z H s->t D Z H->yZ (yX X.prog X.w) X.A (execs st X.env) (SP X a D) X.xe s
theorem Zx{Q b:c->yR->Prop}{E:yL}(h:yZ M A t Q E s)(d:∀a s,Q a s->b a s):yZ M A t b E s:=jH h d λ_ _ x=>x
section
variable {X:Cx}
def Qn(i:Nat):TE:=fun Z H Q=>∃v,Z[i]?=Z9 (Z9 v)/\Q v H
def tC(v:V):TE:=λ_ H Q=>Q v H
theorem Rg{pos:Pos}(q:X.N[i]?=Z9 x)(p:Vw X.env.scope x)(g:XI x:=by decide)(f:(x == ("__classdict__":Str))=Z5:=by decide):PE X (.Name x pos) (Qn i):=by
 intro d s Z H Q I h;obtain⟨v,e,h⟩:=h;obtain⟨m,o,k⟩:=I.loc;obtain⟨u,r,l⟩:=k i x v q e p;have b:EP X d Z Q u s:=⟨v,H,I,r,h⟩
 rcases l with⟨hk,n⟩| ⟨hk,c,j,a⟩
 .exact wpAny_Name (wpAny_loadName_local I.ok.kind hk o n b) g
 .rcases hk with hk|hk
  .exact wpAny_Name (wpAny_loadName_cell I.ok.kind hk j a b) g
  .exact wpAny_Name (wpAny_loadName_free I.ok.kind hk j a b f) g
theorem HM{i j pos}:PE X (.Constant (.int i) j pos) (tC (.int i)):=λ_ _ _ H _ I h=>wpAny_Constant_int ⟨.int i,H,I.tok _,⟨_,rfl⟩,h⟩
theorem HL{b j pos}:PE X (.Constant (.bool b) j pos) (tC (.bl b)):=λ_ _ _ H _ I h=>Constant_bool ⟨.bl b,H,I,rfl,h⟩
theorem B5{j pos}:PE X (.Constant .none j pos) (tC .non):=λ_ _ _ H _ I h=>Constant_none ⟨.non,H,I,rfl,h⟩
theorem L9{x j pos}:PE X (.Constant (.str x) j pos) (tC (.str x)):=λ_ _ _ H _ I h=>Calls.Constant_str ⟨.str x,H,I.tok _,⟨_,rfl⟩,h⟩
def Gl(X:Cx)(x:Str):Prop:=X.env.kindOf x=Z9 .globalImplicit
theorem Rf{E:yL}{Z:St}{Q:yL}(I:ZP X a Z H s)(c:Gl X x)(d:X.mg x=Z9 u)(h:Q u s)
  (b:XI x:=by decide):yZ (yX X.prog X.w) X.A (jU (.Name x pos) X.env) Q E s :=
 gD I.ok.kind c (Calls.loadGlobal_global (by rw[I.ok.glob];exact I.mod.glob.keeps I.bk) d h) b
theorem Su{E:yL}{Z:St}{pos:Pos}{Q:yL}(I:ZP X a Z H s)(i:Gl X x)(b:X.mg x=Z8)(g:jF x=Z9 u)(h:Q u s)
  (c:x ≠ "__name__":=by decide) (e:XI x:=by decide):yZ (yX X.prog X.w) X.A (jU (.Name x pos) X.env) Q E s:=by obtain⟨j,d,f⟩:=I.mod.blt;exact gD I.ok.kind i (Calls.loadGlobal_builtin (by rw[I.ok.glob];exact I.mod.glob.keeps I.bk) b (by rw[I.ok.blt];exact d.keeps I.bk) ((f x c).trans g) h) e
theorem L8(b:Gl X x)(c:X.mg x=Z9 u)(r:ZF v u)(a:XI x:=by decide):PE X (.Name x pos) (tC v) :=
 λ_ _ _ H _ I h=>Rf I b c ⟨v,H,I,r,h⟩ a
theorem HK{pos:Pos}(d:Gl X x)(e:X.mg x=Z8)(c:jF x=Z9 u)(r:ZF v u)(b:x ≠ "__name__":=by decide)(a:XI x:=by decide):PE X (.Name x pos) (tC v) :=
 λ_ _ _ H _ I h=>Su I d e c ⟨v,H,I,r,h⟩ b a
variable {a b:yV}{ta tb:TE}{pos:Pos}
variable {tA tB':TT}{ZM:yE}
def L7(t u:TT):TT:=fun Z H Q=>t Z H λc d=>if c=Z7 then u Z d Q else Q Z5 d
def B3(t u:TT):TT:=fun Z H Q=>t Z H λc d=>if c=Z7 then Q Z7 d else u Z d Q
def L6(t:TT):TT:=fun Z H Q=>t Z H λc d=>Q (!c) d
theorem BZ(f:PT X a tA):PW X (.BoolOp .And [a] pos) tA:=by
 intro i d s Z H Q I h;refine isTrue_and (Zx (f d s Z H Q I h) λc g e=>?_);cases c with
 |true=>exact isTrue_and_nil e
 |false=>exact e
theorem BY(f:PT X a tA):PW X (.BoolOp .Or [a] pos) tA:=by
 intro i d s Z H Q I h;refine isTrue_or (Zx (f d s Z H Q I h) λc g e=>?_);cases c with
 |false=>exact isTrue_or_nil e
 |true=>exact e
theorem BX(k:PT X a tA)(i:PW X (.BoolOp .And (b::ZM) pos) tB'):PW X (.BoolOp .And (a::b::ZM) pos) (L7 tA tB'):=by
 intro l d s Z H Q I h;refine isTrue_and (Zx (k d s Z H _ I h) λc j ⟨e,g,f⟩=>?_);cases c with
 |true=>exact i l d j Z e Q g f
 |false=>exact⟨e,g,f⟩
theorem BW(k:PT X a tA)(i:PW X (.BoolOp .Or (b::ZM) pos) tB'):PW X (.BoolOp .Or (a::b::ZM) pos) (B3 tA tB'):=by
 intro l d s Z H Q I h;refine isTrue_or (Zx (k d s Z H _ I h) λc j ⟨e,g,f⟩=>?_);cases c with
 |true=>exact⟨e,g,f⟩
 |false=>exact i l d j Z e Q g f
theorem BV(i:PT X a tA):PT X (.UnaryOp .Not a pos) (L6 tA):=by intro d s Z H Q I h;exact isTrue_not (Zx (i d s Z H (λc e=>Q (!c) e) I h) λc j ⟨f,g,q⟩=>⟨f,g,q⟩)
def BU(e f:TE):TE:=fun Z H Q=>e Z H λx d=>∃c,x=.bl c/\if c=Z7 then f Z d Q else Q (.bl Z5) d
def L5(e f:TE):TE:=fun Z H Q=>e Z H λx d=>∃c,x=.bl c/\if c=Z7 then Q (.bl Z7) d else f Z d Q
def BS(e:TE):TE:=fun Z H Q=>e Z H λx d=>∃c,x=.bl c/\Q (.bl (!c)) d
theorem BR{d}(h:PE X a t):PE X (.BoolOp d [a] pos) t:=λc s Z H Q I e=>BoolOp_one (h c s Z H Q I e)
theorem BQ(l:PE X a ta)(j:PE X (.BoolOp .And (b::ZM) pos) tb):PE X (.BoolOp .And (a::b::ZM) pos) (BU ta tb):=by
 intro d s Z H Q I h;refine BoolOp_and (Zx (l d s Z H _ I h) λv k ⟨x,f,g,i,e⟩=>?_);obtain⟨c,rfl,e⟩:=e;cases i;refine jI ?_;cases c with
 |true=>exact j d k Z f Q g e
 |false=>exact⟨.bl Z5,f,g,rfl,e⟩
theorem BO(l:PE X a ta)(j:PE X (.BoolOp .Or (b::ZM) pos) tb):PE X (.BoolOp .Or (a::b::ZM) pos) (L5 ta tb):=by
 intro d s Z H Q I h;refine BoolOp_or (Zx (l d s Z H _ I h) λv k ⟨x,f,g,i,e⟩=>?_);obtain⟨c,rfl,e⟩:=e;cases i;refine jI ?_;cases c with
 |false=>exact j d k Z f Q g e
 |true=>exact⟨.bl Z7,f,g,rfl,e⟩
theorem BN(i:PE X a ta):PE X (.UnaryOp .Not a pos) (BS ta):=by intro d s Z H Q I h;refine UnaryOp_ (Zx (i d s Z H _ I h) λv k ⟨x,f,j,g,e⟩=>?_);obtain⟨c,rfl,e⟩:=e;cases g;exact not_of (jI ⟨.bl (!c),f,j,rfl,e⟩)
def BM(t:TT)(e f:TE):TE:=fun Z H Q=>t Z H λc d=>if c=Z7 then e Z d Q else f Z d Q
theorem HI(k:PT X c tA)(m:PE X a ta)(l:PE X b tb):PE X (.IfExp c a b pos) (BM tA ta tb):=by
 intro e s Z H Q I h;refine wpAny_IfExp (Zx (k e s Z H _ I h) λd i ⟨f,j,g⟩=>?_);cases d with
 |true=>exact m e i Z f Q j g
 |false=>exact l e i Z f Q j g
end
def Ys(K:yP)(H:Hp)(a:yQ)(xs:List V):Prop :=
 Rd H a (.lst xs) ∨
  ∃(o:Obj) (b:yJ) (n:Nat),K.lookup a=Z9 o/\o.cls=.type "list"/\o.dict=Z8/\o.data=.seq b n/\b.size<=yW/\ZK xs b.toList
def Zb(K:yP)(H:Hp)(a:yQ)(xs:List V):Prop :=
 Rd H a (.tup xs) ∨
  ∃(o:Obj) (b:yJ) (n:Nat),K.lookup a=Z9 o/\o.cls=.type "tuple"/\o.data=.seq b n/\b.size<=yW/\ZK xs b.toList
def L4:yT->Option V
 |.none=>Z9 .non
 |.bool b=>Z9 (.bl b)
 |.int i _=>Z9 (.int i)
 |.str x _=>Z9 (.str x)
 |.bytes b _=>Z9 (.byt b)
 |.float b _=>Z9 (.flt b)
 |.ref a=>Z9 (.ref a)
 |.type n=>Z9 (.ty n)
 |_=>Z8
theorem ZF.abs(r:ZF x u):L4 u=Z9 x:=by
 cases x with
 |non=>cases r;rfl
 |bl _=>cases r;rfl
 |int _=>obtain⟨t,rfl⟩:=r;rfl
 |str _=>obtain⟨t,rfl⟩:=r;rfl
 |byt _=>obtain⟨t,rfl⟩:=r;rfl
 |flt _=>obtain⟨t,rfl⟩:=r;rfl
 |ref _=>cases r;rfl
 |ty _=>cases r;rfl
theorem ZF.inj(r:ZF x u)(q:ZF y u):x=y:=Option.some.inj (r.abs.symm.trans q.abs)
theorem ZK.inj:∀{xs ys:List V}{us:yB},ZK xs us->ZK ys us->xs=ys
 |_,_,_,.nil,.nil=>rfl
 |_,_,_,.cons r t,.cons a b=>by rw[r.inj a,ZK.inj t b]
section
variable {X:Cx}{pins:yD}{Z:St}{H:Hp}{s:yR}{a:yQ}{xs ys:List V}
theorem Ys.of{K:yP}(h:H a=Z9 (.lst xs)):Ys K H a xs:=.inl (.inl h)
theorem Zb.of{K:yP}(h:H a=Z9 (.tup xs)):Zb K H a xs:=.inl (.inl h)
theorem ZP.list(I:ZP X pins Z H s)(h:Ys X.K H a xs):∃its:yB,ZK xs its/\PlainL s.heap a its.toArray/\xs.length<=sizeLine:=by
 rcases h with h|⟨o,its,n,hk,c,b,d,f,r⟩
 .obtain⟨z,its,n,r,e⟩:=h.ok I.hok;exact⟨its,r,⟨_,n,e,rfl,rfl,rfl⟩,z⟩
 .refine⟨its.toList,r,⟨o,n,I.kIn a o hk,c,b,by simpa using d⟩,?_⟩;have e:=r.length;simp only[j5]at e
  lia
theorem ZP.tuple(I:ZP X pins Z H s)(h:Zb X.K H a xs):∃its:yB,ZK xs its/\IsTup s.heap a its.toArray/\xs.length<=sizeLine:=by
 rcases h with h|⟨o,its,n,hk,b,c,d,r⟩
 .obtain⟨z,its,r,p⟩:=h.ok I.hok;exact⟨its,r,p,z⟩
 .refine⟨its.toList,r,⟨o,I.kIn a o hk,b,n,by simpa using c⟩,?_⟩;have e:=r.length;simp only[j5]at e
  lia
theorem ZP.list_inj(I:ZP X pins Z H s)(h:Ys X.K H a xs)(h':Ys X.K H a ys):xs=ys:=by
 obtain⟨i,r,⟨o,n,e,_,_,d⟩,_⟩:=I.list h;obtain⟨f,g,⟨j,k,b,_,_,c⟩,_⟩:=I.list h';rw[e]at b;cases b;rw[d]at c;injection c with d1 _;have:=by simpa using congrArg Array.toList d1
 subst this;exact r.inj g
theorem ZP.tuple_inj(I:ZP X pins Z H s)(h:Zb X.K H a xs)(h':Zb X.K H a ys):xs=ys:=by
 obtain⟨i,r,⟨o,e,_,n,d⟩,_⟩:=I.tuple h;obtain⟨f,g,⟨j,b,_,k,c⟩,_⟩:=I.tuple h';rw[e]at b;cases b;rw[d]at c;injection c with d1 _;have:=by simpa using congrArg Array.toList d1
 subst this;exact r.inj g
end
abbrev Cx.wish(X:Cx)(E:yL):Cx:={ X with xe:=E }
abbrev Cx.nox(X:Cx):Cx:=X.wish λ_ _=>False
theorem Cx.Ok.wish{X:Cx}(ok:X.Ok)(E:yL):(X.wish E).Ok :=
 ⟨ok.mod,ok.kind,ok.glob,ok.blt,ok.above,ok.inj,ok.has,ok.cab,ok.hd,ok.frames,ok.stk,ok.exf,ok.bs,ok.bsz,ok.noex,ok.exfs,ok.funs,ok.frf⟩
theorem Cx.Ok.unwish{X:Cx}(ok:(X.wish E).Ok):X.Ok :=
 ⟨ok.mod,ok.kind,ok.glob,ok.blt,ok.above,ok.inj,ok.has,ok.cab,ok.hd,ok.frames,ok.stk,ok.exf,ok.bs,ok.bsz,ok.noex,ok.exfs,ok.funs,ok.frf⟩
section
variable {X:Cx}{pins:yD}{Z:St}{H:Hp}{s:yR}{E:yL}
theorem ZP.wish(I:ZP X pins Z H s)(E:yL):ZP (X.wish E) pins Z H s:=⟨I.ok.wish E,I.os,I.bare,I.base,I.loc,I.cell,I.free,I.freeC,I.pin,I.hok,I.len⟩
theorem ZP.unwish(I:ZP (X.wish E) pins Z H s):ZP X pins Z H s:=⟨I.ok.unwish,I.os,I.bare,I.base,I.loc,I.cell,I.free,I.freeC,I.pin,I.hok,I.len⟩
theorem SP.unwish(h:SP (X.wish E) pins D f s'):SP X pins D f s':=by
 cases f with
 |next=>obtain⟨b,a,I,q⟩:=h;exact⟨b,a,I.unwish,q⟩
 |brk=>obtain⟨b,a,I,q⟩:=h;exact⟨b,a,I.unwish,q⟩
 |cont=>obtain⟨b,a,I,q⟩:=h;exact⟨b,a,I.unwish,q⟩
 |ret u=>obtain⟨v,b,a,I,r,q⟩:=h;exact⟨v,b,a,I.unwish,r,q⟩
theorem XH.nox{st:List jV}(h:XH X.nox st t):XH X st t:=λa s Z H D I b =>
 jH (h a s Z H D (I.wish _) b) (λ_ _ q=>q.unwish) λ_ _ z=>False.elim z
end
section
variable {X:Cx}{st:jV}{ZM:List jV}{t u:TS}{e:yV}{te:TE}{pos:Pos}
def HH:TS:=λD Z H=>D.nx Z H
def L0(t u:TS):TS:=λD Z H=>t { D with nx:=u D } Z H
theorem BK:XH X [] HH:=λ_ _ Z H _ I h=>fV ⟨Z,H,I,h⟩
theorem BJ(i:PS X st t)(b:XH X ZM u):XH X (st::ZM) (L0 t u):=by
 intro a s Z H D I h;refine fF (Zx (i a s Z H { D with nx:=u D } I h) λf g q=>?_);cases f with
 |next =>
  obtain⟨j,c,d,q⟩:=q;exact b a g j c D d q
 |ret v=>exact q
 |brk=>exact q
 |cont=>exact q
theorem BI(b:PS X st t):XH X [st] t:=by
 intro a s Z H D I h;refine fF (Zx (b a s Z H D I h) λf c q=>?_);cases f with
 |next=>exact fV q
 |ret v=>exact q
 |brk=>exact q
 |cont=>exact q
def BH:TS:=λD Z H=>D.bk Z H
def BG:TS:=λD Z H=>D.ct Z H
theorem BE:PS X (.Pass pos) HH:=λ_ _ Z H _ I h=>wpAny_Pass ⟨Z,H,I,h⟩
theorem BD:PS X (.Break pos) BH:=λ_ _ Z H _ I h=>wpAny_Break ⟨Z,H,I,h⟩
theorem BC:PS X (.Continue pos) BG:=λ_ _ Z H _ I h=>wpAny_Continue ⟨Z,H,I,h⟩
theorem ZP.quiet{Z:St}(I:ZP X a Z H s):interactive X.env=Z5:=by simp[interactive,I.ok.kind]
def BA(a:TE):TS:=λD Z H=>a Z H λ_ b=>D.nx Z b
theorem HG(he:PE X e te)(d:wI e Z8 pos.line X.env=pure Z5:=by rfl):PS X (.Expr e pos) (BA te):=by intro a s Z H D I h;exact wpAny_Expr_any (Zx (he a s Z H _ I h) λv i ⟨x,b,f,g,c⟩=>⟨Z,b,f,c⟩) I.quiet d
def LZ(a:TE):TS:=λD Z H=>a Z H D.rt
theorem HE(he:PE X e te):PS X (.Return (Z9 e) pos) (LZ te):=by intro a s Z H D I h;exact gL (Zx (he a s Z H _ I h) λv g ⟨x,b,f,c,d⟩=>⟨x,Z,b,f,c,d⟩)
def Bz:TS:=λD _ H=>D.rt .non H
theorem By:PS X (.Return Z8 pos) Bz:=λ_ _ Z H _ I h=>wpAny_Return_none ⟨.non,Z,H,I,rfl,h⟩
def LY(c:TT)(t u:TS):TS:=λD Z H=>c Z H λb a=>if b=Z7 then t D Z a else u D Z a
theorem Bx(l:PT X c tc)(n:XH X a t)(m:XH X b u):PS X (.If c a b pos) (LY tc t u):=by
 intro f s Z H D I h;refine wpAny_If (Zx (l f s Z H _ I h) λd j ⟨g,k,i⟩=>?_);cases d with
 |true=>exact n f j Z g D k i
 |false=>exact m f j Z g D k i
def Bw:TS:=λ_ _ _=>False
theorem Bv:PS X st Bw:=λ_ _ _ _ _ _ h=>h.elim
end
abbrev TG:=V->St->Hp->(St->Hp->Prop)->Prop
abbrev UD:=List V->St->Hp->(St->Hp->Prop)->Prop
def PG(X:Cx)(a:yV)(t:TG):Prop :=
 ∀(b:yD) (s:yR) (Z:St) (H:Hp) (v:V) (u:yT) (Q:St->Hp->Prop),ZP X b Z H s->ZF v u->t v Z H Q ->
  yZ (yX X.prog X.w) X.A (gE a X.env u) (λ_ e=>∃d c,ZP X b d c e/\Q d c) X.xe s
def VU(X:Cx)(g:yE)(t:UD):Prop :=
 ∀(a:yD) (s:yR) (Z:St) (H:Hp) (c:List V) (d:yB) (Q:St->Hp->Prop),ZP X a Z H s->ZK c d->t c Z H Q ->
  yZ (yX X.prog X.w) X.A (assignInOrder ((jM g X.env).map (·.2)) d) (λ_ f=>∃e b,ZP X a e b f/\Q e b) X.xe s
abbrev UC:=V->V->V->Hp->(Hp->Prop)->Prop
def Vk(X:Cx)(t:UC):Prop :=
 ∀(a:yD) (s:yR) (Z:St) (H:Hp) (o i v:V) (d c u:yT) (Q:Hp->Prop),ZP X a Z H s->ZF o d->ZF i c->ZF v u->t o i v H Q ->
  yZ (yX X.prog X.w) X.A (uF d c u) (λ_ e=>∃b,ZP X a Z b e/\Q b) X.xe s
section
variable {X:Cx}{pos:Pos}
def Ss(i:Nat):TG:=λv Z H Q=>Q (Z.set i (Z9 v)) H
theorem Qm(d:X.N.Nodup)(hi:X.N[i]?=Z9 x)(e:Rh X.env.scope x)(b:X.fn x=Z7∨X.env.scope.names.lookup x=Z9 .local:=by first|exact .inl rfl|exact .inr rfl|assumption):PG X (.Name x pos) (Ss i):=by intro a s Z H v u Q I r h;exact wpAny_assign_Name (Oc I d hi e r (λf c=>⟨_,H,c,h⟩) b)
def Ql:UD:=λa Z H Q=>a=[]/\Q Z H
def HD(t:TG)(u:UD):UD:=λb Z H Q=>∃v r,b=v::r/\t v Z H fun c a=>u r c a Q
theorem HC:VU X [] Ql:=by intro a s Z H b c Q I r h;obtain⟨e,h⟩:=h;subst e;cases r;exact assignInOrder_nil ⟨Z,H,I,h⟩
theorem HB(j:PG X e t)(k:VU X es u)
  (c:(jM (e::es) X.env).map (·.2)=gE e X.env::(jM es X.env).map (·.2):=by rfl):VU X (e::es) (HD t u):=by
 intro a s Z H n o Q I r h;obtain⟨v,p,b,h⟩:=h;subst b;cases r with
 |cons r m =>
  rw[c];refine gF (Zx (j a s Z H _ _ _ I r h) λ_ i ⟨l,f,d,g⟩=>?_);exact k a i l f _ _ Q d m g
def Qk(K:yP)(n:Nat)(t:UD):TG:=λv Z H Q=>∃a b,v=.ref a/\Zb K H a b/\b.length=n/\t b Z H Q
theorem HA{k:Nat}(z:X.calm=Z7)(h:VU X es t)
  (x:(jM es X.env).length=n:=by rfl) (d:(jM es X.env).findIdx? (·.1)=Z8:=by rfl):PG X (.Tuple es k pos) (Qk X.K n t):=by intro c s Z H v u Q I r f;obtain⟨a,p,i,q,l,f⟩:=f;subst i;cases r;obtain⟨j,g,m,A⟩:=I.tuple q;refine assign_Tuple_tuple (I.ok.hd z) m (by simp[x,<- l,g.length]) d λB y=>?_;have w:=I.kept (t':=s.toks) λb o e=>y b o (qC0 (qB1 e)) e;exact h c _ Z H p _ Q w (by simpa using g) f
def LX(b c:TE)(t:UC):TG:=λv Z H Q=>b Z H λo a=>c Z a λi d=>t o i v d λe=>Q Z e
theorem Bu(z:PE X o d)(hi:PE X i e)(n:Vk X t)
  (g:∀v,gE (.Subscript o i pos) X.env v=(do
   let b <- wJ [v] (jU o X.env)
   let c <- wJ [v,b] (jU i X.env)
   gM pos
   wJ [v,b,c] (uF b c v)
   release [v,b,c] []):=by intro _;rfl):PG X (.Subscript o i pos) (LX d e t):=by intro a s Z H v u Q I r h;rw[g];refine yO (jR (Zx (z a s Z H _ I h) λb C ⟨x,q,p,l,w⟩=>?_));refine yO (jR (Zx (hi a C Z q _ p w) λc f ⟨y,j,m,A,E⟩=>?_));refine yO (gX (yO (jR (Zx (n a f Z j x y v b c u _ m l A r E) λ_ F ⟨D,k,B⟩=>?_))));exact wpAny_release ⟨Z,D,k,B⟩
def Vj(b:TE)(g:TG):TS:=λD Z H=>b Z H λx a=>g x Z a D.nx
theorem Hz(he:PE X e c)(o:PG X b g)(f:gY [b] e pos.line X.env=pure Z5:=by rfl)(m:jS [b] e X.env=pure Z8:=by rfl)
  (n:(jM [b] X.env).map (·.2)=[gE b X.env]:=by rfl):PS X (.Assign [b] e pos) (Vj c g):=by intro a s Z H D I h;refine wpAny_Assign_stores (Zx (he a s Z H _ I h) λv l ⟨x,j,i,d,k⟩=>?_) f m;rw[n];exact Zx (o a l Z j x v _ i d k) λ_ p q=>q
def LW(i j:Nat)(b:TA):TS:=λD Z H=>b Z H λc a=>∃v w,c=[v,w]/\D.nx ((Z.set i (Z9 v)).set j (Z9 w)) a
theorem Bt{m k2 d}(V:X.calm=Z7)(F:X.N.Nodup)(hi:X.N[i]?=Z9 x)(U:X.N[j]?=Z9 y)(l:i≠j)
  (C:X.env.scope.names.lookup x=Z9 .local) (z:X.env.scope.names.lookup y=Z9 .local) (J:PA X [a,b] E)
  (T:jS [.Tuple [.Name x n,.Name y u] m pt] (.Tuple [a,b] k2 d) X.env=pure (Z9 [x,y]))
  (hs:gY [.Tuple [.Name x n,.Name y u] m pt] (.Tuple [a,b] k2 d) pos.line X.env=pure Z5:=by rfl) :
  PS X (.Assign [.Tuple [.Name x n,.Name y u] m pt] (.Tuple [a,b] k2 d) pos) (LW i j E):=by
 intro c s Z H D I h;refine yO (gX ?_);refine yO (yS ?_);refine yO (Tuple_ (Zx (J _ c s Z H _ I h) λK g ⟨W,B,P,O,t⟩=>?_));obtain⟨v,w,G,t⟩:=t;subst G;obtain⟨f,u2,rfl,N,r⟩:∃f u2,K=[f,u2]/\ZF v f/\ZF w u2:=by
  cases O with
  |cons p q =>
   cases q with
   |cons M S =>
    cases S;exact⟨_,_,rfl,p,M⟩
 refine jP ?_ (by show 2<=yW;decide);have Q:ZP X c Z B { g with heap:=g.heap.push { cls:=.type "tuple",data:=.seq [f,u2].toArray } }:=P.kept (t':=g.toks) λb o e=>qA2 _ e;rw[T];refine yO (yS ?_);refine yO (gG (yO (unpackItems_tuple (items:=#[f,u2]) (I.ok.hd V) (IsTup.new g.heap _) λh' k=>?_)));have R:=Q.kept (h':=h') (t':=g.toks) λb o e=>k b o (qC0 (qB1 e)) e;refine yO (gF (wpAny_bindName (Oc R F U (.inl z) r (λY L=>?_) (.inr z))));refine gF (wpAny_bindName (Oc L F hi (.inl C) N (λs3 A=>assignInOrder_nil (yS ?_)) (.inr C)));rw[List.set_comm _ _ (Ne.symm l)]at A;exact⟨_,B,A,t⟩
end
section
variable {X:Cx}{pos:Pos}
def Bs(c:TT)(g:TS):TS:=λD Z H=>∃W:Nat->St->Hp->Prop,(∃m,W m Z H)/\∀m Z H,W m Z H ->
 c Z H λb a=>if b=Z7 then ∃N:St->Hp->Prop,(∀f d,N f d->∃e,e<m/\W e f d)/\g { D with nx:=N,ct:=N,bk:=D.nx } Z a else D.nx Z a
theorem Br(t:lC (yX X.prog X.w) X.A X.env X.xe)(M:PT X c tc)(F:XH X body y):PS X (.While c body [] pos) (Bs tc y):=by
 intro a s Z H D I h;obtain⟨W,⟨K,B⟩,d⟩:=h;refine wpAny_While (codeAny_whileLoop (λn G=>∃z r,ZP X a z r G/\W n z r) ?_ K ⟨Z,H,I,B⟩);rintro n J ⟨k,x,E,L⟩;refine vL t (Zx (M a J k x _ E (d n k x L)) λb C ⟨u,w,j⟩=>?_);cases b with
 |true =>
  obtain⟨N,A,j⟩:=j;refine vL t (Zx (F a C k u _ w j) λf O i=>?_);cases f with
  |next =>
   obtain⟨g,e,q,m⟩:=i;obtain⟨p,o,l⟩:=A g e m;exact⟨p,o,g,e,q,l⟩
  |cont =>
   obtain⟨g,e,q,m⟩:=i;obtain⟨p,o,l⟩:=A g e m;exact⟨p,o,g,e,q,l⟩
  |brk=>exact i
  |ret v=>exact i
 |false =>
  exact fV ⟨k,u,w,j⟩
end
structure It where
 go:Nat->Hp->Prop
 yld:Nat->Hp->V->Hp->Prop
 stop:Nat->Hp->Prop
def Yx(X:Cx)(a:yD)(H:Hp)(b:yQ):Prop :=
 H b=Z8/\b≠X.env.locals/\b∉X.fs/\(b∈X.ex∨X.s₀.heap.objs.size<=b)/\(∀x c,X.env.cells.lookup x=Z9 c->c≠b)/\∀p∈X.pn++a,p.1≠b
theorem ZP.fpOk{Z:St}{b:yQ}(I:ZP X a Z H s)(d:s.heap.objs.size<=b)(g:f b=Z8):Yx X a f b:=by
 refine⟨g,qF3 (qA9 I.lt d),I.nofs d,.inr (qC6 I.sz d),λx c e z=>?_,λp h z=>?_⟩
 .obtain⟨v,q⟩:=I.cell x c e;exact absurd (qA9 q.lt (by rw[z];exact d)) (qG9 _)
 .exact absurd (qA9 (qB1 (I.pin p h).1) (by rw[z];exact d)) (qG9 _)
structure XQ(P:yY)(w:jC)(K:yP)(tg:yV)(JJ:It)(fp:yC)(it:yQ)(tn:Nat->jB->Prop):Prop where
 mem:it∈fp
 obj:∀i h,tn i h->∀b∈fp,∃o,h.get? b=Z9 o/\∀v,o.data≠.cell v
 keep:∀i h h',tn i h->(∀b∈fp,∀o,h.get? b=Z9 o->h'.get? b=Z9 o)->tn i h'
 item:∀(X:Cx),X.prog=P->X.w=w->X.K=K->X.calm=Z7->∀(i:Nat) (pins:yD) (s:yR) (Z:St) (H:Hp) (E:yL),ZP X pins Z H s->(∀b∈fp,Yx X pins H b)->tn i s.heap->JJ.go i H ->
  yZ (yX P w) X.A (pyNext (.ref it)) (λr s1=>∃u,r=Z9 u /\
   yZ (yX P w) X.A (mF tg (.ref it) u) (λ_ s2=>∃x H',ZP X pins Z H' s2/\ZF x u/\JJ.yld i H x H'/\tn (i+1) s2.heap/\∀b∈fp,H' b=Z8) E s1) E s
 done:∀(X:Cx),X.prog=P->X.w=w->X.K=K->X.calm=Z7->∀(i:Nat) (pins:yD) (s:yR) (Z:St) (H:Hp) (E:yL),ZP X pins Z H s->(∀b∈fp,Yx X pins H b)->tn i s.heap->JJ.stop i H ->
  yZ (yX P w) X.A (pyNext (.ref it)) (λr s1=>r=Z8/\ZP X pins Z H s1) E s
 self:∀(A:jE) (i:Nat) (s:yR) (Q:yL) (E:yL),tn i s.heap->Q (.ref it) s->yZ (yX P w) A (pyIter (.ref it)) Q E s
abbrev TI:=St->Hp->(It->Hp->Prop)->Prop
inductive Ob(X:Cx)(pins:yD)(Z:St)(tg:yV)(R:It->Hp->Prop)(itv:yT)(s2:yR):Prop
 |mk (it:yQ) (fp:yC) (tn:Nat->jB->Prop) (JJ:It) (H':Hp) (e:itv=.ref it) (I:ZP X pins Z H' s2) (T:XQ X.prog X.w X.K tg JJ fp it tn) (t0:tn 0 s2.heap) (f:∀b∈fp,Yx X pins H' b) (r:R JJ H')
def PI(X:Cx)(d iter:yV)(c:TI):Prop :=
 ∀(a:yD) (s:yR) (Z:St) (H:Hp) (R:It->Hp->Prop),ZP X a Z H s->c Z H R ->
  yZ (yX X.prog X.w) X.A (jU iter X.env) (λv b=>yZ (yX X.prog X.w) X.A (pyIter v) (Ob X a Z d R) X.xe b) X.xe s
theorem Qj{E:yL}{vs:yJ}(g:s.heap.get? c=Z9 o)(d:o.cls=.type n)(e:o.data=.fields vs)
    (f:["enumerate","zip","dict_itemiterator","dict_reverseitemiterator","odict_iterator","itertools.zip_longest","itertools.pairwise"].contains n=Z5) (a:Q () s):yZ M A (mF b (.ref c) u) Q E s:=by
  cases b<;>first
    |exact yS a
    | (cases u<;>first
        |exact yS a
        | (refine yO (wpAny_load g ?_)
           rw[d,e];show yZ M A (if(["enumerate","zip","dict_itemiterator","dict_reverseitemiterator","odict_iterator","itertools.zip_longest","itertools.pairwise"].contains n&&vs[0]? == Z9 (vZ _))=Z7 then _ else _) Q E s;rw[if_neg (by intro h;rw[f,qH8]at h;cases h)];exact yS a))
def LV(K:yP)(a:yQ):It :=
 ⟨λi H=>∃b x,Ys K H a b/\b[i]?=Z9 x,λi H x c=>c=H/\∀b,Ys K H a b->b[i]?=Z9 x,λi H=>∃b,Ys K H a b/\b.length<=i⟩
def LU(K:yP)(a:yQ):It :=
 ⟨λi H=>∃b x,Zb K H a b/\b[i]?=Z9 x,λi H x c=>c=H/\∀b,Zb K H a b->b[i]?=Z9 x,λi H=>∃b,Zb K H a b/\b.length<=i⟩
def Qi(lo:Int)(n:Nat):It:=⟨λi _=>i<n,λi H x a=>a=H/\x=.int (lo+i),λi _=>n<=i⟩
theorem Bq{P:yY}{w:jC}{K:yP}{U:yV}(a j:yQ):XQ P w K U (LV K a) [j] j (λi h=>h.IsListIter j a i) where
 mem:=by simp
 obj:=λi h f b g=>by
  have e:=by simpa using g
  subst e;obtain⟨o,e,c,d⟩:=f;exact⟨o,e,λv z=>by rw[d]at z;cases z⟩
 keep:=λi h N f k=>f.at λo e=>k j (by simp) o e
 item:=by intro X M C t O i l s Z H E I q f G;subst M C t;obtain⟨W,x,n,B⟩:=G;obtain⟨r,A,p,T⟩:=I.list n;obtain⟨u,Q,R⟩:=A.get B;obtain⟨L,y,S,D,J,F⟩:=q j (by simp);refine lN f p.isList (by simpa using Q) λN m sb=>?_;have Y:=I.turned (t':=s.toks) (λb o g e=>(sb.2 b g).trans e) L y D J F;obtain⟨o,e,c,d⟩:=id m;exact⟨u,rfl,Qj e c d (by decide) ⟨x,H,Y,R,⟨rfl,λys V=>by rw[I.list_inj V n];exact B⟩,m,λb g=>(q b g).1⟩⟩
 done:=by intro X M C t O i l s Z H E I q f G;subst M C t;obtain⟨W,n,B⟩:=G;obtain⟨r,A,p,T⟩:=I.list n;obtain⟨L,y,S,D,J,F⟩:=q j (by simp);have hl:=A.length;exact mI (I.ok.hd O) f p.isList (by simp;lia) λN eb=>⟨rfl,I.turned (t':=s.toks) (λb o g e=>eb b o g e) L y D J F⟩
 self:=λ_ _ _ _ _ f h=>wpAny_pyIter_listiter f h
theorem Bp{P:yY}{w:jC}{K:yP}{U:yV}(a j:yQ):XQ P w K U (LU K a) [j] j (λi h=>h.IsTupleIter j a i) where
 mem:=by simp
 obj:=λi h f b g=>by
  have e:=by simpa using g
  subst e;obtain⟨o,e,c,d⟩:=f;exact⟨o,e,λv z=>by rw[d]at z;cases z⟩
 keep:=λi h N f k=>f.at λo e=>k j (by simp) o e
 item:=by intro X M C t O i l s Z H E I q f G;subst M C t;obtain⟨W,x,n,B⟩:=G;obtain⟨r,A,p,T⟩:=I.tuple n;obtain⟨u,Q,R⟩:=A.get B;obtain⟨L,y,S,D,J,F⟩:=q j (by simp);refine wpAny_pyNext_tuple_item f (p) (by simpa using Q) λN m sb=>?_;have Y:=I.turned (t':=s.toks) (λb o g e=>(sb.2 b g).trans e) L y D J F;obtain⟨o,e,c,d⟩:=id m;exact⟨u,rfl,Qj e c d (by decide) ⟨x,H,Y,R,⟨rfl,λys V=>by rw[I.tuple_inj V n];exact B⟩,m,λb g=>(q b g).1⟩⟩
 done:=by intro X M C t O i l s Z H E I q f G;subst M C t;obtain⟨W,n,B⟩:=G;obtain⟨r,A,p,T⟩:=I.tuple n;obtain⟨L,y,S,D,J,F⟩:=q j (by simp);have hl:=A.length;exact wpAny_pyNext_tuple_end (I.ok.hd O) f (p) (by simp;lia) λN eb=>⟨rfl,I.turned (t':=s.toks) (λb o g e=>eb b o g e) L y D J F⟩
 self:=λ_ _ _ _ _ f h=>wpAny_pyIter_tupleiter f h
theorem Bo{P:yY}{w:jC}{K:PySem.W.Frag}{F:yV}(d:yQ)(lo:Int)(n:Nat):XQ P w K F (Qi lo n) [d] d (λi h=>IsRangeIter h d (lo+(i:Nat)*1) ((n:Int) - (i:Nat)) 1) where
 mem:=by simp
 obj:=λi h a b f=>by
  have e:=by simpa using f
  subst e;exact⟨_,a,λv z=>by
   have G:Data.fields _=Data.cell v:=z;cases G⟩
 keep:=λi h p a k=>k d (by simp) _ a
 item:=by intro X B q l C i c s Z H E I j a x;subst B q l;obtain⟨A,m,D,r,y,u⟩:=j d (by simp);have W:=Walks.range (prog:=X.prog) (w:=X.w) (I.ok.hd C) d lo 1 n;refine W.item i s _ _ x a λv p N M g J=>?_;obtain⟨t,rfl⟩:=M;have L:ZP X c Z H { s with heap:=p,toks:=N }:=I.turned (λb o f e=>J b o (by simpa using f) e) A m r y u;refine⟨_,rfl,Qj g rfl rfl (by decide) ⟨.int (lo+i),H,L,⟨t,?_⟩,⟨rfl,rfl⟩,g,λb f=>(j b f).1⟩⟩;rw[Int.mul_one]
 done:=by intro X B q l C i c s Z H E I j a x;subst B q l;obtain⟨A,m,D,r,y,u⟩:=j d (by simp);exact wpAny_pyNext_range_end (I.ok.hd C) a (by have:n<=i:=x;lia) λp O=>⟨rfl,I.turned (t':=s.toks) (λb o f e=>O b o f e) A m r y u⟩
 self:=λ_ _ _ _ _ a h=>wpAny_pyIter_rangeiter a h
section
variable {X:Cx}{tg:yV}
theorem Hy{Z:St}{E:yL}{lo hi:Int}(I:ZP X a Z H s)(j:-(2 ^ 62)<=lo)(k:lo<2 ^ 62)(i:-(2 ^ 62)<=hi)(f:hi<2 ^ 62)
  (q:R (Qi lo (hi - lo).toNat) H):yZ (yX X.prog X.w) X.A (pyIter (.ref s.heap.objs.size)) (Ob X a Z tg R) E { s with heap:=s.heap.push { cls:=.type "range",data:=.fields #[.int lo t,.int hi u,.int 1 v] },toks:=tk }:=by
 refine wpAny_pyIter_range (IsRange.new ..) (small_one j k i f) ?_;have c:ZP X a Z H { s with heap:=s.heap.push { cls:=.type "range",data:=.fields #[.int lo t,.int hi u,.int 1 v] },toks:=tk }:=I.kept λb o e=>qA2 _ e;refine⟨(s.heap.push { cls:=.type "range",data:=.fields #[.int lo t,.int hi u,.int 1 v] }).objs.size,[(s.heap.push { cls:=.type "range",data:=.fields #[.int lo t,.int hi u,.int 1 v] }).objs.size],_,_,H,rfl,
  c.kept (t':=tk) λb o e=>qA2 _ e,Bo _ lo (hi - lo).toNat,?_,λb h=>?_,q⟩
 .have d:lo+((0:Nat):Int)*1=lo:=by simp
  have g:(((hi - lo).toNat:Nat):Int) - ((0:Nat):Int)=Builtin.Range.rangeSize lo hi 1:=by rw[rangeSize_one];split<;>lia
  rw[d,g];exact qB5 _ rfl
 .have e:b=(s.heap.push { cls:=.type "range",data:=.fields #[.int lo t,.int hi u,.int 1 v] }).objs.size:=by simpa using h
  subst e;exact c.fpOk (qA4 _) (c.hok.fresh (qA4 _))
def Hx(b:TA):TI:=fun Z H R=>b Z H λc a=>∃j:Int,c=[.int j]/\-(2 ^ 62)<=j/\j<2 ^ 62/\R (Qi 0 j.toNat) a
def Hw(b:TA):TI:=fun Z H R=>b Z H λc a=>∃i j:Int,c=[.int i,.int j]/\(-(2 ^ 62)<=i/\i<2 ^ 62/\-(2 ^ 62)<=j/\j<2 ^ 62)/\R (Qi i (j - i).toNat) a
theorem Bn(n:Gl X "range")(g:X.mg "range"=Z8)(f:PA X [a] d)(k:y7 [a] X.env=[(Z5,jU a X.env)]:=by rfl):PI X tg (.Call (.Name "range" p) [a] [] pos) (Hx d):=by
 intro b s Z H R I h;refine Call_ (Su I n g boot_range (jZ (Zx (f pos b s Z H _ I h) λv x ⟨u,w,l,i,c⟩=>?_) k rfl));obtain⟨j,e,c,m,q⟩:=c;subst e;cases i with
 |cons r o =>
  cases o;obtain⟨t,rfl⟩:=r;exact call_range_1 (Hy l (by lia) (by lia) c m (by simpa using q))
theorem Bm{p pos:Pos}(z:Gl X "range")(n:X.mg "range"=Z8)(m:PA X [a,b] k)(u:y7 [a,b] X.env=[(Z5,jU a X.env),(Z5,jU b X.env)]:=by rfl)(c:y7 [b] X.env=[(Z5,jU b X.env)]:=by rfl):
  PI X tg (.Call (.Name "range" p) [a,b] [] pos) (Hw k):=by
 intro d s Z H R I h;refine Call_ (Su I z n boot_range (jZ (Zx (m pos d s Z H _ I h) λB E ⟨A,D,v,o,f⟩=>?_) (by rw[u,c]) (by rw[c];rfl)));obtain⟨i,j,e,⟨f,y,w,l⟩,q⟩:=f;subst e;cases o with
 |cons r g =>
  cases g with
  |cons x g =>
   cases g;obtain⟨t,rfl⟩:=r;obtain⟨C,rfl⟩:=x;exact call_range_2 (Hy v f y w l q)
def LS(h:TI)(g:TG)(f:TS):TS:=λD Z H=>h Z H λb e=>∃W:Nat->Nat->St->Hp->Prop,(∃m,W 0 m Z e)/\∀i m Z H,W i m Z H ->
 (b.stop i H/\D.nx Z H)∨(b.go i H/\∃N:St->Hp->Prop,(∀c a,N c a->∃d,d<m/\W (i+1) d c a)/\∀x a,b.yld i H x a->g x Z a fun k j=>f { D with nx:=N,ct:=N,bk:=D.nx } k j)
def Re(a:yC)(h:jB):yD:=a.filterMap λb=>(h.get? b).map λo=>(b,o)
theorem Sr(c:b∈a)(e:h.get? b=Z9 o):(b,o)∈Re a h:=qM6.mpr ⟨b,c,by rw[e];rfl⟩
theorem Bl(d:p∈Re a h):p.1∈a/\h.get? p.1=Z9 p.2:=by
 obtain⟨b,f,e⟩:=qM6.mp d;cases q:h.get? b with
 |none=>rw[q]at e;cases e
 |some o =>
  rw[q]at e;have c:=Option.some.inj e;subst c;exact⟨f,q⟩
theorem ZP.pinned{Z:St}(I:ZP X a Z H s)(l:∀b∈c,Yx X a H b)(k:∀b∈c,∃o,s.heap.get? b=Z9 o/\∀v,o.data≠.cell v):ZP X (a++Re c s.heap) Z H s :=
 I.pins_of λp h=>(qE2.mp h).elim (λz=>I.pin p (qD0 _ z)) λz=>by obtain⟨g,e⟩:=Bl z;obtain⟨m,j,i,_⟩:=l p.1 g;obtain⟨o,f,d⟩:=k p.1 g;rw[e]at f;cases f;exact⟨e,m,j,i,d⟩
theorem ZP.unpinned{Z:St}(I:ZP X (a++pl) Z H s):ZP X a Z H s:=I.pins_of λp b=>I.pin p (qD0 _ (qH1 _ b))
theorem Bk{V:TS}(z:lC (yX X.prog X.w) X.A X.env X.xe)(S:X.calm=Z7)(hi:PI X tg iter R)(hg:PG X tg g)(p:XH X body V)
  (hs:∀x,vN iter X.env x=pure x:=by intro _;rfl):PS X (.For tg iter body [] pos) (LS R g V):=by
 intro a s Z H D I h;refine wpAny_For (Zx (hi a s Z H _ I h) λv s1 h1=>Zx h1 λitv s2 h2=>?_) hs;obtain⟨it,E,tn,JJ,H2,e,I2,T,P,Q,W,⟨m0,w0⟩,C⟩:=h2;subst e;have k:∀{H':Hp},(∀b∈E,H' b=Z8)->∀b∈E,Yx X a H' b:=λhn b p=>⟨hn b p,(Q b p).2⟩
 refine codeAny_forLoop_any (λn s'=>∃i G H',ZP X a G H' s'/\tn i s'.heap/\(∀b∈E,H' b=Z8)/\W i n G H') ?_ m0 ⟨0,Z,H2,I2,P,λb p=>(Q b p).1,w0⟩;rintro n Y ⟨i,A,J,I3,w,y,w3⟩;rcases C i n A J w3 with⟨B,qn⟩| ⟨go,N,hN,step⟩
 .refine vL z (Zx (T.done X rfl rfl rfl S i a Y A J X.xe I3 (k y) w B) λr s4 ⟨M,I4⟩=>?_);subst M;exact fV ⟨A,J,I4,qn⟩
 .refine vL z (Zx (T.item X rfl rfl rfl S i a Y A J X.xe I3 (k y) w go) λr s4 ⟨u,M,h4⟩=>?_);subst M;refine vL z (Zx h4 λ_ s5 ⟨x,U,I5,r5,y5,t,O⟩=>?_);have L:=I5.pinned (k O) (T.obj _ _ t);refine vL z (Zx (hg _ s5 A U x u _ L r5 (step x U y5)) λ_ s6 ⟨Z6,H6,I6,q6⟩=>?_);refine vL z (Zx (p _ s6 Z6 H6 _ I6 q6) λf K q=>?_);have again:∀{c:St}{l:Hp},ZP X (a++Re E s5.heap) c l K->N c l->∃m,m<n/\∃i G H',ZP X a G H' K/\tn i K.heap/\(∀b∈E,H' b=Z8)/\W i m G H':=λ{c l} j F=>by obtain⟨m',hm,w7⟩:=hN c l F;refine⟨m',hm,i+1,c,l,j.unpinned,T.keep _ _ _ t λb p o e=>(j.pin (b,o) (qD0 _ (qD0 _ (Sr p e)))).1,λb p=>?_,w7⟩;obtain⟨o,e,d⟩:=T.obj _ _ t b p;exact(j.pin (b,o) (qD0 _ (qD0 _ (Sr p e)))).2.1
  cases f with
  |next=>obtain⟨c,l,j,F⟩:=q;exact again j F
  |cont=>obtain⟨c,l,j,F⟩:=q;exact again j F
  |brk=>obtain⟨c,l,j,q⟩:=q;exact⟨c,l,j.unpinned,q⟩
  |ret v=>obtain⟨x7,c,l,j,r7,q⟩:=q;exact⟨x7,c,l,j.unpinned,r7,q⟩
end
abbrev R2:=V->V->Hp->VK->Prop
def Y3(X:Cx)(f:yT->yT->Sem yT)(r:R2):Prop :=
 ∀(a:yD) (s:yR) (Z:St) (H:Hp) (x y:V) (v u:yT) (Q:VK),ZP X a Z H s->ZF x v->ZF y u->r x y H Q ->
  yZ (yX X.prog X.w) X.A (f v u) (EP X a Z Q) X.xe s
def UnR(X:Cx)(f:yT->Sem yT)(r:V->Hp->VK->Prop):Prop :=
 ∀(a:yD) (s:yR) (Z:St) (H:Hp) (x:V) (v:yT) (Q:VK),ZP X a Z H s->ZF x v->r x H Q ->
  yZ (yX X.prog X.w) X.A (f v) (EP X a Z Q) X.xe s
def X1(X:Cx)(f:yT)(r:List V->Hp->VK->Prop):Prop :=
 ∀(a:yD) (s:yR) (Z:St) (H:Hp) (b:List V) (c:yB) (Q:VK),ZP X a Z H s->ZK b c->r b H Q ->
  yZ (yX X.prog X.w) X.A (call f c) (EP X a Z Q) X.xe s
def LR(X:Cx)(r:V->Hp->(Bool->Hp->Prop)->Prop):Prop :=
 ∀(a:yD) (s:yR) (Z:St) (H:Hp) (x:V) (v:yT) (Q:Bool->Hp->Prop),ZP X a Z H s->ZF x v->r x H Q ->
  yZ (yX X.prog X.w) X.A (truthy v) (TP X a Z Q) X.xe s
def Qh(r:R2)(b c:TE):TE:=fun Z H Q=>b Z H λx a=>c Z a λy d=>r x y d Q
def Bj(r:V->Hp->VK->Prop)(b:TE):TE:=fun Z H Q=>b Z H λx a=>r x a Q
def rI(C:Int->Int->Prop)(g:Int->Int->V):R2:=λx y H Q=>∃i j,x=.int i/\y=.int j/\C i j/\Q (g i j) H
def VT(g:Int->Int->V):R2:=λx y H Q=>∃i j,x=.int i/\y=.int j/\Q (g i j) H
def rU(g:Int->V):V->Hp->VK->Prop:=λx H Q=>∃i,x=.int i/\Q (g i) H
section
variable {X:Cx}{a b c:yV}{ta tb tc:TE}{pos:Pos}
theorem Sq(l:PE X a ta)(q:PE X b tb){Z:St}{R:V->V->Hp->Prop}(I:ZP X d Z H s)
  (h:ta Z H λx k=>tb Z k λy e=>R x y e) {Q:yL}{f:yT->yT->Sem yT}
  (w:∀v u j x y e,ZP X d Z e j->ZF x v->ZF y u->R x y e->yZ (yX X.prog X.w) X.A (f v u) Q X.xe j) :
  yZ (yX X.prog X.w) X.A (jU a X.env) (λv i=>yZ (yX X.prog X.w) X.A (jU b X.env) (λu g=>yZ (yX X.prog X.w) X.A (f v u) Q X.xe g) X.xe i) X.xe s:=by refine Zx (l d s Z H _ I h) λv t ⟨x,k,o,n,p⟩=>?_;refine Zx (q d t Z k _ o p) λu j ⟨y,e,m,r,z⟩=>?_;exact w v u j x y e m n r z
theorem Bi(l:Y3 X (jG e) r)(g:PE X a ta)(m:PE X b tb):PE X (.BinOp a e b pos) (Qh r ta tb):=by intro d s Z H Q I h;exact wpAny_BinOp (Sq g m I h λv u f x y i k n j q=>l d f Z i x y v u Q k n j q)
theorem Bh(j:UnR X (unaryOp e) r)(k:PE X a ta):PE X (.UnaryOp e a pos) (Bj r ta):=by intro d s Z H Q I h;exact UnaryOp_ (Zx (k d s Z H _ I h) λv l ⟨x,f,m,g,i⟩=>j d l Z f x v Q m g i)
theorem Rc{g:Int->Int->Int}
  (rule:∀(i j:Int) (t u:Tok) (s:yR) (Q:yL) (E:yL),C i j->Q (.int (g i j) s.toks) { s with toks:=s.toks+1 }->yZ (yX X.prog X.w) X.A (f (.int i t) (.int j u)) Q E s) :
  Y3 X f (rI C λi j=>.int (g i j)):=by intro d s Z H x y v u Q I l k h;obtain⟨i,j,rfl,rfl,m,q⟩:=h;obtain⟨t,rfl⟩:=l;obtain⟨e,rfl⟩:=k;exact rule i j t e s _ _ m ⟨.int (g i j),H,I.tok _,⟨_,rfl⟩,q⟩
theorem Vi{g:Int->Int->Int}
  (rule:∀(i j:Int) (t u:Tok) (s:yR) (Q:yL) (E:yL),Q (.int (g i j) s.toks) { s with toks:=s.toks+1 }->yZ (yX X.prog X.w) X.A (f (.int i t) (.int j u)) Q E s) :
  Y3 X f (VT λi j=>.int (g i j)):=by intro d s Z H x y v u Q I l k h;obtain⟨i,j,rfl,rfl,q⟩:=h;obtain⟨t,rfl⟩:=l;obtain⟨e,rfl⟩:=k;exact rule i j t e s _ _ ⟨.int (g i j),H,I.tok _,⟨_,rfl⟩,q⟩
theorem UB{g:Int->Int->Bool}
  (rule:∀(i j:Int) (t u:Tok) (s:yR) (Q:yL) (E:yL),Q (.bool (g i j)) s->yZ (yX X.prog X.w) X.A (f (.int i t) (.int j u)) Q E s) :
  Y3 X f (VT λi j=>.bl (g i j)):=by intro d s Z H x y v u Q I l k h;obtain⟨i,j,rfl,rfl,q⟩:=h;obtain⟨t,rfl⟩:=l;obtain⟨e,rfl⟩:=k;exact rule i j t e s _ _ ⟨.bl (g i j),H,I,rfl,q⟩
def LQ(i j:Int):Prop:=0<j/\j<1073741824
def Qg(i j:Int):Prop:=0<=j/\j<=1000000/\i.natAbs<2 ^ 64
def UA(i j:Int):Prop:=(-(2 ^ 64)<i/\i<2 ^ 64)∨(-(2 ^ 64)<j/\j<2 ^ 64)
theorem UA.ok(h:UA i j):IntMulOk i j:=by
 rcases h with⟨e,d⟩| ⟨e,d⟩
 .exact .of_left (intBits_le_64 e d)
 .exact .of_right (intBits_le_64 e d)
theorem Bg(k:Nat):(0:Int)<=2 ^ k:=by grind
theorem Bf:Y3 X (jG .Add) (VT λi j=>.int (i+j)):=Vi λ_ _ _ _ _ _ _ q=>add_int q
theorem Be:Y3 X (jG .Sub) (VT λi j=>.int (i - j)):=Vi λ_ _ _ _ _ _ _ q=>sub_int q
theorem Bd:Y3 X (jG .Mult) (rI UA λi j=>.int (i*j)):=Rc λ_ _ _ _ _ _ _ d q=>mul_int q d.ok
theorem Bc:Y3 X (jG .FloorDiv) (rI LQ λi j=>.int (i / j)):=Rc λi j _ _ _ _ _ d q=>by have f:=d.1;have e:=d.2;exact floordiv_int (by omega) (by rw[qJ3 i (by omega)];exact q) (.inl (PyProof.noPylong_small (by omega)))
theorem Bb:Y3 X (jG .Mod) (rI (λ_ j=>0<j) λi j=>.int (i % j)):=Rc λi j _ _ _ _ _ d q=>by exact mod_int' (by lia) (by rw[Int.fmod_eq_emod_of_nonneg i (by lia)];exact q)
theorem Ba:Y3 X (jG .Pow) (rI Qg λi j=>.int (i ^ j.toNat)):=Rc λ_ _ _ _ _ _ _ d q=>pow_int_small d.1 d.2.1 d.2.2 q
theorem A9:Y3 X (jG .LShift) (rI Qg λi j=>.int (i*2 ^ j.toNat)):=Rc λ_ _ _ _ _ _ _ d q=>lshift_int_small d.1 d.2.1 d.2.2 q
theorem A8:Y3 X (jG .RShift) (rI (λ_ j=>0<=j) λi j=>.int (i / 2 ^ j.toNat)):=Rc λi j _ _ _ _ _ d q =>
 rshift_int d (by rw[qJ3 i (Bg _)];exact q)
theorem A7:Y3 X (jG .BitAnd) (VT λi j=>.int (wV i j)):=Vi λ_ _ _ _ _ _ _ q=>and_int q
theorem A6:Y3 X (jG .BitOr) (VT λi j=>.int (fO i j)):=Vi λ_ _ _ _ _ _ _ q=>or_int q
theorem A5:Y3 X (jG .BitXor) (VT λi j=>.int (mP i j)):=Vi λ_ _ _ _ _ _ _ q=>xor_int q
theorem A4{g:Int->Int}
  (rule:∀(i:Int) (t:Tok) (s:yR) (Q:yL) (E:yL),Q (.int (g i) s.toks) { s with toks:=s.toks+1 }->yZ (yX X.prog X.w) X.A (f (.int i t)) Q E s) :
  UnR X f (rU λi=>.int (g i)):=by intro d s Z H x v Q I e h;obtain⟨i,rfl,q⟩:=h;obtain⟨t,rfl⟩:=e;exact rule i t s _ _ ⟨.int (g i),H,I.tok _,⟨_,rfl⟩,q⟩
theorem A3:UnR X (unaryOp .USub) (rU λi=>.int (-i)):=A4 λ_ _ _ _ _ q=>neg_int q
end
def Qf:V->V->Bool
 |.non,.non=>Z7|.non,.int _=>Z7|.int _,.non=>Z7|.non,.bl _=>Z7|.bl _,.non=>Z7|.non,.str _=>Z7|.str _,.non=>Z7
 |.int _,.int _=>Z7|.bl _,.bl _=>Z7|.str _,.str _=>Z7|.byt _,.byt _=>Z7
 |.int _,.str _=>Z7|.str _,.int _=>Z7|.bl _,.str _=>Z7|.str _,.bl _=>Z7
 |_,_=>Z5
def A2:R2:=λx y H Q=>Qf x y=Z7/\Q (.bl (decide (x=y))) H
def A1:R2:=λx y H Q=>Qf x y=Z7/\Q (.bl (!decide (x=y))) H
theorem Hv:decide (V.int i=V.int j)=(i == j):=by grind
theorem Hu:decide (V.bl i=V.bl j)=(i == j):=by grind
theorem Ht:decide (V.str i=V.str j)=(i == j):=by grind
theorem Hs:decide (V.byt i=V.byt j)=(i.toList == j.toList):=by rw[Bool.eq_iff_iff];cases i;cases j;simp
section
variable {X:Cx}{a b c:yV}{ta tb tc:TE}{pos:Pos}
theorem Yk{Z:St}(I:ZP X d Z H s)(q:Q (.bl k) H)(e:k=f):EP X d Z Q (.bool f) s:=by subst e;exact⟨.bl k,H,I,rfl,q⟩
theorem A0:Y3 X (y8 .Eq) A2:=by
 intro k s Z H x y v u Q I g d h;obtain⟨f,q⟩:=h;cases x with
 |non =>
  cases g;cases y with
  |non=>cases d;exact PySem.EqNone.eq_none_none (Yk I q (by simp))
  |bl j=>cases d;exact PySem.EqNone.eq_none_bool (Yk I q (by simp))
  |int j=>obtain⟨e,rfl⟩:=d;exact PySem.EqNone.eq_none_int (Yk I q (by simp))
  |str j=>obtain⟨e,rfl⟩:=d;exact PySem.EqNone.eq_none_str (Yk I q (by simp))
  |_=>exact absurd (show Z5=Z7 from f) qB0
 |bl i =>
  cases g;cases y with
  |non=>cases d;exact PySem.EqNone.eq_bool_none (Yk I q (by simp))
  |bl j=>cases d;exact eq_bool (Yk I q Hu)
  |str j=>obtain⟨e,rfl⟩:=d;exact PySem.EqMixed.eq_bool_str (Yk I q (by simp))
  |_=>exact absurd (show Z5=Z7 from f) qB0
 |int i =>
  obtain⟨t,rfl⟩:=g;cases y with
  |non=>cases d;exact PySem.EqNone.eq_int_none (Yk I q (by simp))
  |int j=>obtain⟨e,rfl⟩:=d;exact eq_int (Yk I q Hv)
  |str j=>obtain⟨e,rfl⟩:=d;exact PySem.EqMixed.eq_int_str (Yk I q (by simp))
  |_=>exact absurd (show Z5=Z7 from f) qB0
 |str i =>
  obtain⟨t,rfl⟩:=g;cases y with
  |non=>cases d;exact PySem.EqNone.eq_str_none (Yk I q (by simp))
  |bl j=>cases d;exact PySem.EqMixed.eq_str_bool (Yk I q (by simp))
  |int j=>obtain⟨e,rfl⟩:=d;exact PySem.EqMixed.eq_str_int (Yk I q (by simp))
  |str j=>obtain⟨e,rfl⟩:=d;exact eq_str (Yk I q Ht)
  |_=>exact absurd (show Z5=Z7 from f) qB0
 |byt i =>
  obtain⟨t,rfl⟩:=g;cases y with
  |byt j=>obtain⟨e,rfl⟩:=d;exact W.eq_bytes (Yk I q Hs)
  |_=>exact absurd (show Z5=Z7 from f) qB0
 |_=>cases y<;>exact absurd (show Z5=Z7 from f) qB0
theorem AZ:Y3 X (y8 .NotEq) A1:=by
 intro k s Z H x y v u Q I g d h;obtain⟨f,q⟩:=h;cases x with
 |non =>
  cases g;cases y with
  |non=>cases d;exact PySem.EqNone.ne_none_none (Yk I q (by simp))
  |bl j=>cases d;exact PySem.EqNone.ne_none_bool (Yk I q (by simp))
  |int j=>obtain⟨e,rfl⟩:=d;exact PySem.EqNone.ne_none_int (Yk I q (by simp))
  |str j=>obtain⟨e,rfl⟩:=d;exact PySem.EqNone.ne_none_str (Yk I q (by simp))
  |_=>exact absurd (show Z5=Z7 from f) qB0
 |bl i =>
  cases g;cases y with
  |non=>cases d;exact PySem.EqNone.ne_bool_none (Yk I q (by simp))
  |bl j=>cases d;exact ne_bool (Yk I q (congrArg not Hu))
  |str j=>obtain⟨e,rfl⟩:=d;exact PySem.EqMixed.ne_bool_str (Yk I q (by simp))
  |_=>exact absurd (show Z5=Z7 from f) qB0
 |int i =>
  obtain⟨t,rfl⟩:=g;cases y with
  |non=>cases d;exact PySem.EqNone.ne_int_none (Yk I q (by simp))
  |int j=>obtain⟨e,rfl⟩:=d;exact ne_int (Yk I q (congrArg not Hv))
  |str j=>obtain⟨e,rfl⟩:=d;exact PySem.EqMixed.ne_int_str (Yk I q (by simp))
  |_=>exact absurd (show Z5=Z7 from f) qB0
 |str i =>
  obtain⟨t,rfl⟩:=g;cases y with
  |non=>cases d;exact PySem.EqNone.ne_str_none (Yk I q (by simp))
  |bl j=>cases d;exact PySem.EqMixed.ne_str_bool (Yk I q (by simp))
  |int j=>obtain⟨e,rfl⟩:=d;exact PySem.EqMixed.ne_str_int (Yk I q (by simp))
  |str j=>obtain⟨e,rfl⟩:=d;exact ne_str (Yk I q (congrArg not Ht))
  |_=>exact absurd (show Z5=Z7 from f) qB0
 |byt i =>
  obtain⟨t,rfl⟩:=g;cases y with
  |byt j=>obtain⟨e,rfl⟩:=d;exact W.ne_bytes (Yk I q (congrArg not Hs))
  |_=>exact absurd (show Z5=Z7 from f) qB0
 |_=>cases y<;>exact absurd (show Z5=Z7 from f) qB0
theorem AY:Y3 X (y8 .Lt) (VT λi j=>.bl (decide (i<j))):=UB λ_ _ _ _ _ _ _ q=>lt_int q
theorem AX:Y3 X (y8 .LtE) (VT λi j=>.bl (decide (i<=j))):=UB λ_ _ _ _ _ _ _ q=>le_int q
theorem AW:Y3 X (y8 .Gt) (VT λi j=>.bl (decide (j<i))):=UB λ_ _ _ _ _ _ _ q=>gt_int q
theorem AV:Y3 X (y8 .GtE) (VT λi j=>.bl (decide (j<=i))):=UB λ_ _ _ _ _ _ _ q=>ge_int q
theorem AU:Y3 X (y8 .In) (λx y H Q=>∃i j,x=.str i/\y=.str j/\Q (.bl (!(Builtin.Str.occurrences j i 0 j.length 1).isEmpty)) H):=by intro d s Z H x y v u Q I e f h;obtain⟨i,j,rfl,rfl,q⟩:=h;obtain⟨t,rfl⟩:=e;obtain⟨g,rfl⟩:=f;exact in_str (Yk I q rfl)
theorem AS:Y3 X (y8 .Is) (λx y H Q=>y=.non/\Q (.bl (decide (x=.non))) H):=by
 intro d s Z H x y v u Q I e f h;obtain⟨rfl,q⟩:=h;cases f;refine is_none_gen (Yk I q ?_);cases x<;>first
  |(cases e;rfl)
  |(obtain⟨t,rfl⟩:=e;rfl)
theorem AR:Y3 X (y8 .IsNot) (λx y H Q=>y=.non/\Q (.bl (!decide (x=.non))) H):=by
 intro d s Z H x y v u Q I e f h;obtain⟨rfl,q⟩:=h;cases f;refine isnot_none_gen (Yk I q ?_);cases x<;>first
  |(cases e;rfl)
  |(obtain⟨t,rfl⟩:=e;rfl)
theorem AQ(m:Y3 X (y8 e) r)(g:PE X a ta)(n:PE X b tb)(j:fP e b=Z5):PE X (.Compare a [e] [b] pos) (Qh r ta tb):=by intro d s Z H Q I h;exact wpAny_Compare1 (Sq g n I h λv u f x y i l o k q=>m d f Z i x y v u Q l o k q) j
def LP(t:TE):TT:=fun Z H Q=>t Z H λx d=>∃k,x=.bl k/\Q k d
theorem AO(A:Y3 X (y8 f) r)(i:PE X a ta)(B:PE X b tb)(m:fP f b=Z5):PT X (.Compare a [f] [b] pos) (LP (Qh r ta tb)):=by
 intro d s Z H Q I h;refine wpAny_isTrue_Compare1 (Zx (i d s Z H _ I h) λv E ⟨x,t,q,p,w⟩=>Zx (B d E Z t _ q w) λu g ⟨y,j,o,C,G⟩ =>
  Zx (A d g Z j x y v u _ o p C G) λc J ⟨z,F,n,l,k,e,D⟩=>?_) m
 subst e;cases l;exact jI ⟨F,n,D⟩
def LO(r f:R2)(g i tc:TE):TE:=fun Z H Q=>g Z H λx e=>i Z e λy l=>r x y l λz d=>∃k,z=.bl k /\
 (if k=Z7 then tc Z d λj h=>f y j h Q else Q (.bl Z5) d)
theorem AN(R:Y3 X (y8 i) r)(j:Y3 X (y8 g) p)(w:PE X a ta)(S:PE X b tb)(W:PE X c tc)
  (J:fG [i,g] [b,c]=Z5:=by with_unfolding_all rfl):PE X (.Compare a [i,g] [b,c] pos) (LO r p ta tb tc):=by
 intro f s Z H Q I h;refine Compare_chain (Zx (w f s Z H _ I h) λv T ⟨x,N,M,L,P⟩=>chain_link (Zx (S f T Z N _ M P) λu t ⟨y,A,K,m,U⟩ =>
  Zx (R f t Z A x y v u _ K L m U) λd V ⟨z,o,l,E,k,e,n⟩=>?_)) J
 subst e;cases E;refine jI ?_;cases k with
 |false=>exact ite_ff ⟨.bl Z5,o,l,rfl,n⟩
 |true=>exact ite_tt (chain_last (Zx (W f V Z o _ l n) λG C ⟨B,D,F,O,q⟩=>j f C Z D y B u G Q F m O q))
theorem AM(ho:Y3 X (y8 i) r)(j:Y3 X (y8 g) p)(B:PE X a ta)(hb:PE X b tb)(hc:PE X c tc)
  (N:fG [i,g] [b,c]=Z5:=by with_unfolding_all rfl):PT X (.Compare a [i,g] [b,c] pos) (LP (LO r p ta tb tc)):=by
 intro f s Z H Q I h;refine isTrue_chain (Zx (B f s Z H _ I h) λv s1 ⟨x,U,T,R,W⟩=>test_link (Zx (hb f s1 Z U _ T W) λu A ⟨y,C,P,m,q2⟩ =>
  Zx (ho f A Z C x y v u _ P R m q2) λd s3 ⟨z,o,l,J,k,e,n⟩=>?_)) N
 subst e;cases J;refine jI ?_;cases k with
 |false =>
  obtain⟨k',q,S⟩:=n;cases q;exact ite_ff ⟨o,l,S⟩
 |true =>
  refine ite_tt (test_last (Zx (hc f s3 Z o _ l n) λL F ⟨D,G,K,V,t⟩=>Zx (j f F Z G y D u L _ K m V t) λd' s5 ⟨z2,O,M,E,k2,Y,w⟩=>?_));subst Y;cases E;exact jI ⟨O,M,w⟩
def So(K:yP)(x:V)(H:Hp)(k:Bool):Prop :=
 match x with
 |.non=>k=Z5
 |.bl b=>k=b
 |.int i=>k=(i != 0)
 |.str y=>y.length<=yW/\k=((y.length:Int) != 0)
 |.byt y=>y.size<=yW/\k=((y.size:Int) != 0)
 |.ref p=>(∃e,Ys K H p e/\k=!e.isEmpty)∨(∃e,Zb K H p e/\k=!e.isEmpty)∨∃d,H p=Z9 (.dK d)/\k=!d.isEmpty
 |_=>False
theorem AL{vs:List (d×yT)}(r:KV kvs vs):(!vs.isEmpty)=!kvs.isEmpty:=by cases r<;>rfl
theorem Hr(r:ZK xs its):(!its.toArray.isEmpty)=!xs.isEmpty:=by cases r<;>simp
theorem Rb:(yW:Nat)<2 ^ 63:=by decide
theorem AK:LR X (λx H Q=>∃k,So X.K x H k/\Q k H):=by
 intro w s Z H x v Q I g h;obtain⟨k,e,q⟩:=h;have C:=vY;cases x with
 |non =>
  cases g;have d:k=Z5:=e;subst d;exact truthy_none ⟨H,I,q⟩
 |bl b =>
  cases g;have d:k=b:=e;subst d;exact jI ⟨H,I,q⟩
 |int i =>
  obtain⟨t,rfl⟩:=g;have d:=e;subst d;exact PySem.P.truthy_int ⟨H,I,q⟩
 |str y =>
  obtain⟨t,rfl⟩:=g;obtain⟨z,d⟩:y.length<=yW/\k=((y.length:Int) != 0):=e;subst d;exact PySem.P.truthy_str (by lia) ⟨H,I.tok _,q⟩
 |byt y =>
  obtain⟨t,rfl⟩:=g;obtain⟨z,d⟩:y.size<=yW/\k=((y.size:Int) != 0):=e;subst d;exact W.truthy_bytes (by lia) ⟨H,I.tok _,q⟩
 |ref p =>
  cases g;have d:=e;rcases d with⟨B,l,d⟩| ⟨B,l,d⟩| ⟨j,l,d⟩
  .subst d;obtain⟨n,r,o,u⟩:=I.list l;have f:=r.length;exact wpAny_truthy_list o.isList (by simp only[qB4];lia) ⟨H,I.tok _,by rw[Hr r];exact q⟩
  .subst d;obtain⟨n,r,o,u⟩:=I.tuple l;have f:=r.length;exact truthy_tuple o (by simp only[qB4];lia) ⟨H,I.tok _,by rw[Hr r];exact q⟩
  .subst d;obtain⟨u,A,vs,r,m⟩:j.length<=yW/\(p == vA)=Z5/\∃vs,KV j vs/\s.heap.DictOf (Yy X.prog X.w) p vs:=I.hok p _ l;have f:=Paired.length r;exact wpAny_truthy_dict A m (by lia) ⟨H,I.tok _,by rw[AL r];exact q⟩
 |_=>exact(e).elim
theorem AJ(m:PE X a ta)(he:∀d,dS a X.env d=(do let v <- d;gM a.pos;wJ [v] (truthy v))):
  PT X a (fun Z H Q=>ta Z H λx f=>∃k,So X.K x f k/\Q k f):=by intro e s Z H Q I h;exact isTrue_plain (Zx (m e s Z H _ I h) λv l ⟨x,g,n,i,j⟩=>AK e l Z g x v Q n i j) (he _)
theorem AI:Y3 X (jG .Add) (λx y H Q=>∃i j,x=.str i/\y=.str j/\i.length+j.length<=yW/\Q (.str (i++j)) H):=by intro d s Z H x y v u Q I k g h;obtain⟨i,j,rfl,rfl,e,q⟩:=h;obtain⟨t,rfl⟩:=k;obtain⟨f,rfl⟩:=g;exact add_str (λf l=>⟨.str (i++j),H,I.tok _,⟨_,rfl⟩,q⟩) e
theorem WG(r:ZK [x] us):∃u,us=[u]/\ZF x u:=by
 cases r with
 |cons e d=>cases d;exact⟨_,rfl,e⟩
theorem Ra(r:ZK [x,y] us):∃u w',us=[u,w']/\ZF x u/\ZF y w':=by
 cases r with
 |cons g e =>
  cases e with
  |cons f d=>cases d;exact⟨_,_,rfl,g,f⟩
theorem AH(f:X.calm=Z7):X1 X (.builtin "max") (λxs H Q=>∃i j,xs=[.int i,.int j]/\Q (.int (if j>i then j else i)) H):=by
 intro e s Z H xs g Q I r h;obtain⟨i,j,rfl,q⟩:=h;obtain⟨u,m,rfl,⟨t,rfl⟩,⟨l,rfl⟩⟩:=Ra r;refine max_two_ints (I.ok.hd f) λn o k=>⟨_,H,I.kept k,?_,q⟩
 by_cases d:j>i
 .rw[if_pos d,if_pos d];exact⟨_,rfl⟩
 .rw[if_neg d,if_neg d];exact⟨_,rfl⟩
theorem AG(f:X.calm=Z7):X1 X (.builtin "min") (λxs H Q=>∃i j,xs=[.int i,.int j]/\Q (.int (if j<i then j else i)) H):=by
 intro e s Z H xs g Q I r h;obtain⟨i,j,rfl,q⟩:=h;obtain⟨u,m,rfl,⟨t,rfl⟩,⟨l,rfl⟩⟩:=Ra r;refine min_two_ints (I.ok.hd f) λn o k=>⟨_,H,I.kept k,?_,q⟩
 by_cases d:j<i
 .rw[if_pos d,if_pos d];exact⟨_,rfl⟩
 .rw[if_neg d,if_neg d];exact⟨_,rfl⟩
theorem Hq:X1 X (.type "int") (λxs H Q=>(∃i,xs=[.int i]/\Q (.int i) H)∨∃k,xs=[.bl k]/\Q (.int (if k then 1 else 0)) H):=by
 intro d s Z H xs f Q I r h;rcases h with⟨i,rfl,q⟩| ⟨k,rfl,q⟩
 .obtain⟨u,rfl,t,rfl⟩:=WG r;exact call_int_int ⟨.int i,H,I,⟨_,rfl⟩,q⟩
 .obtain⟨u,rfl,e⟩:=WG r;cases e;exact call_int_bool ⟨.int (if k then 1 else 0),H,I.tok _,⟨_,rfl⟩,q⟩
theorem AF:X1 X (.type "str") (λxs H Q=>∃i,xs=[.int i]/\i.natAbs.log2<1920/\Q (.str (toString i)) H):=by intro d s Z H xs f Q I r h;obtain⟨i,rfl,e,q⟩:=h;obtain⟨u,rfl,t,rfl⟩:=WG r;exact PySem.P.str_of_int e ⟨.str _,H,I.tok _,⟨_,rfl⟩,q⟩
end
structure WD(h:jB)(x dx C:yQ)(mA:Str->yF):Prop where
 obj:h.get? x=Z9 (wG C dx)
 ns:h.Ns1 dx mA
 ne:dx≠x
theorem AE{h:jB}{f:Str->yF}(n:h.Ns1 dx f):∃g,h.get? dx=Z9 g/\∀b,W.lookIn b g=Z9 (f b):=by
 obtain⟨o,d,p,l,m,hk,_,k⟩:=n;refine⟨o,l,λb=>?_⟩;have e:=k b;unfold nsFind findBy at e;rw[<- Array.find?_toList]at e;unfold W.lookIn;rw[m];dsimp only;split
 .rename_i y q;rw[q]at e;exact congrArg Z9 e
 .rename_i q;rw[q]at e;have a:d.toList.any (·.refKey)=Z5:=by rw[qM8];intro y j;obtain⟨z,t,c⟩:=hk y (Array.mem_toList_iff.mp j);simp[DictEntry.refKey,c]
  have i:¬d.toList.any (·.refKey)=Z7:=by rw[a];exact qB0
  rw[if_neg i];exact congrArg Z9 e
theorem WD.look(I:WD h x dx C c):∃b,W.InstAt h x (wG C dx) C (Z9 b)/\∀a,W.lookIn a b=Z9 (c a) :=
 let ⟨b,ho,hl⟩:=AE I.ns
 ⟨b,⟨I.obj,rfl,rfl,ho⟩,hl⟩
section
variable {prog:yY}{w:jC}{A:jE}{E:yL}{s:yR}{K:yP}{x dx C f:yQ}{mA:Str->yF}{name:Str}{v:yT}
theorem AD{Q:yL}(X:K.In s.heap)(I:WD s.heap x dx C mA)(g:lO K C name=Z7)(e:mQ K C=Z7)
  (j:j8 K (.ref C) name=Z9 Z8) (d:mA name=Z9 v) (b:W.handedIn v=Z7) (h:Q v { s with toks:=s.toks+1 }) :
  yZ (yX prog w) A (getAttr (.ref x) name a) Q E s:=by obtain⟨k,c,i⟩:=I.look;exact W.get_value X c (dA g).1 (W.findObj_own e j rfl (by rw[i,d])) b h
theorem AC{Q:yT×yB->yR->Prop}(X:K.In s.heap)(I:WD s.heap x dx C mA)(a:lO K C name=Z7)
  (b:j8 K (.ref C) name=Z9 (Z9 (.ref f))) (i:W.isFn K (.ref f)=Z7) (d:mA name=Z8) (h:Q (.ref f,[.ref x]) s) :
  yZ (yX prog w) A (dU (.ref x) name pl) Q E s:=by obtain⟨e,c,g⟩:=I.look;exact W.method_fn X c (dA a).1 (dA a).2 b (beq_iff_eq.mp i) (by show(W.lookIn name e).map (·.isSome)=Z9 Z5;rw[g,d];rfl) h
theorem AB{ns:yH}(X:K.In s.heap)(I:WD s.heap x dx C mA)
  (o:j8 K (.ref C) "__setattr__"=Z9 (Z9 (.builtin "object.__setattr__"))) (l:uA K C=Z7) (m:W.takerIn K C name=Z9 Z8) (n:mQ K C=Z7)
  (t:dJ mA ns) (u:ns.length<=yW)
  (h:∀h',WD h' x dx C (λy=>if y=name then Z9 v else mA y)->qF2 dx s.heap h'->Q () { s with heap:=h',toks:=s.toks+2 }) :
  yZ (yX prog w) A (setAttr (.ref x) name v) Q E s:=by obtain⟨H,k,D⟩:=I.look;refine W.set_plain X k o (W.osa_open (s:={ s with toks:=s.toks+1 }) (r:=Z8) X k l m λb=>?_);obtain⟨G,B,g⟩:=W.any_some n;have p:s.heap.get? x=Z9 ⟨.ref C,Z9 dx,.plain,#[]⟩:=I.obj;refine yO (yS (yO (yO (mR p (yO (W.Looks.here (s:={ s with toks:=s.toks+1 }) (W.looks_clsIn X B) ?_))))));rw[g];refine yS (a:=Z9 dx) (yO (yS (yO ?_)));refine wpAny_nsSet1 (s:={ s with toks:=s.toks+1 }) I.ns λh' d c=>?_;obtain⟨F,q,z,i,j,e⟩:=d.count (PySem.Within.cons name v t);refine yO (wpAny_lookBehind i (by rw[j];exact pastItsLine_dict (qC6 e (by rw[qB6];lia))) ?_);exact yS (h _ ⟨(c.2 _ (Ne.symm I.ne)).trans I.obj,d,I.ne⟩ c)
theorem AA{vs:yB}(X:K.In s.heap)(c:dW K C=Z7)
  (hi:j8 K (.ref C) "__init__"=Z9 (Z9 (.ref f))) (b:W.typeIn K (.ref f)=Z9 (.type "function"))
  (h:vO (yX prog w) (A.under (.builtin "type.__call__" ⟨.ref C::vs,a⟩)) (.call (.ref f) ⟨.ref (s.heap.objs.size+1)::vs,a⟩) (W.InitBack (s.heap.objs.size+1) R)
   { s with heap:=(s.heap.push wR).push (wG C s.heap.objs.size) }) :
  vO (yX prog w) A (.call (.ref C) ⟨vs,a⟩) R s:=by obtain⟨e,g,d,t,i⟩:=s;exact W.make_core (W.makes_of X c) (gH X hi) (λself=>W.bind_fn X self b) (.inl rfl) h
end
def Yj(f:Str)(v:V):List (Str×V)->List (Str×V)
 |[]=>[(f,v)]
 |(g,x)::r=>if g=f then(g,v)::r else(g,x)::Yj f v r
theorem Ho(f g:Str)(v:V):∀fs:List (Str×V),(Yj f v fs).lookup g=if g=f then Z9 v else fs.lookup g
 |[]=>by
  show qH2 g [(f,v)]=_;by_cases h:g=f
  .have a:(g == f)=Z7:=beq_iff_eq.mpr h;simp only[qH2,a,if_pos h]
  .have a:(g == f)=Z5:=beq_eq_false_iff_ne.mpr h;simp only[qH2,a,if_neg h]
 |(k,x)::r=>by
  have b:=Ho f g v r;rw[show Yj f v ((k,x)::r)=(if k=f then(k,v)::r else(k,x)::Yj f v r)from rfl];by_cases hk:k=f
  .rw[if_pos hk];by_cases h:g=k
   .have a:(g == k)=Z7:=beq_iff_eq.mpr h;simp only[qH2,a,if_pos (h.trans hk)]
   .have a:(g == k)=Z5:=beq_eq_false_iff_ne.mpr h;simp only[qH2,a,if_neg (λe:g=f=>h (e.trans hk.symm))]
  .rw[if_neg hk];by_cases h:g=k
   .have a:(g == k)=Z7:=beq_iff_eq.mpr h;simp only[qH2,a,if_neg (λe:g=f=>hk (h.symm.trans e))]
   .have a:(g == k)=Z5:=beq_eq_false_iff_ne.mpr h;simp only[qH2,a];exact b
theorem LN(f:Str)(v:V):∀fs:List (Str×V),f∈(Yj f v fs).map (·.1)/\∀g,g∈fs.map (·.1)->g∈(Yj f v fs).map (·.1)
 |[]=>⟨by simp[Yj],λg h=>by simp at h⟩
 |(k,x)::r=>by
  obtain⟨b,a⟩:=LN f v r;rw[show Yj f v ((k,x)::r)=(if k=f then(k,v)::r else(k,x)::Yj f v r)from rfl];by_cases hk:k=f
  .rw[if_pos hk];subst hk;exact⟨by simp,λg h=>by simpa using h⟩
  .rw[if_neg hk];refine⟨?_,λg h=>?_⟩
   .rw[qB2];exact qC5 _ b
   .rw[qB2]at h ⊢;rcases qA8.mp h with e|e
    .exact qA8.mpr (.inl e)
    .exact qC5 _ (a g e)
theorem Hn(f:Str)(v:V):∀fs:List (Str×V),(Yj f v fs).length<=fs.length+1
 |[]=>by simp[Yj]
 |(k,x)::r=>by
  have a:=Hn f v r;rw[show Yj f v ((k,x)::r)=(if k=f then(k,v)::r else(k,x)::Yj f v r)from rfl];by_cases hk:k=f
  .rw[if_pos hk,qB6,qB6];lia
  .rw[if_neg hk,qB6,qB6];lia
theorem Yq.some_of(r:Yq (Z9 v) o):∃u,o=Z9 u/\ZF v u:=by
 cases o with
 |none=>exact(r).elim
 |some u=>exact⟨u,rfl,r⟩
theorem Yq.none_of(r:Yq Z8 o):o=Z8:=by
 cases o with
 |none=>rfl
 |some u=>exact(show False from r).elim
theorem Az(r:ZF v u):W.handedIn u=Z7:=by
 cases v with
 |non=>cases (show u=Value.none from r);rfl
 |bl b=>cases (show u=Value.bool b from r);rfl
 |int i=>obtain⟨t,e⟩:=(show ∃t,u=Value.int i t from r);cases e;rfl
 |str x=>obtain⟨t,e⟩:=(show ∃t,u=Value.str x t from r);cases e;rfl
 |byt b=>obtain⟨t,e⟩:=(show ∃t,u=Value.bytes b t from r);cases e;rfl
 |flt b=>obtain⟨t,e⟩:=(show ∃t,u=Value.float b t from r);cases e;rfl
 |ref a=>cases (show u=Value.ref a from r);rfl
 |ty n=>cases (show u=Value.type n from r);rfl
section
variable {P:yY}{w:jC}{H H':Hp}{h h':jB}{a C dx:yQ}{fs fs':List (Str×V)}
theorem Ay(c:YB P w H h)(e:H a=Z9 (.ins C dx fs)):∃b,WD h a dx C b/\(∀f,Yq (fs.lookup f) (b f))/\dJ b (fs.map (·.1))/\fs.length<=1000/\H dx=Z9 (.own a):=by
 obtain⟨d,z,ne,g,b,n,r,q⟩:=(show XR P w H h a (.ins C dx fs)from c a _ e)
 exact⟨b,⟨g,n,ne⟩,r,q,z,d⟩
end
structure WQ(K:yP)(C:yQ):Prop where
 pg:lO K C Str.empty=Z7
 hd:mQ K C=Z7
 po:uA K C=Z7
 sa:j8 K (.ref C) "__setattr__"=Z9 (Z9 (.builtin "object.__setattr__"))
theorem WQ.get{K:yP}(c:WQ K C)(f:Str):lO K C f=Z7:=c.pg
def Vv(K:yP)(C:yQ)(f:Str):Prop:=j8 K (.ref C) f=Z9 Z8
theorem Vv.taker{K:yP}(n:Vv K C f):W.takerIn K C f=Z9 Z8:=by unfold W.takerIn;rw[show j8 K (.ref C) f=Z9 Z8 from n];rfl
structure Uz(K:yP)(C:yQ)(m:Str)(f:yQ):Prop where
 at_:j8 K (.ref C) m=Z9 (Z9 (.ref f))
 fn:W.isFn K (.ref f)=Z7
 kp:wE K (.ref f)=Z7
section
variable {X:Cx}{pins:yD}{Z:St}{H:Hp}{s:yR}{a C dx:yQ}{fs:List (Str×V)}{f:Str}{v:V}{A:jE}{E:yL}
theorem Ax(I:ZP X pins Z H s)(e:H a=Z9 (.ins C dx fs))(c:WQ X.K C)(n:Vv X.K C f)(D:fs.length<1000)(m:ZF y u)
  (h:∀s',ZP X pins Z (ZE H a (.ins C dx (Yj f y fs))) s'->Q () s'):yZ (yX X.prog X.w) A (setAttr (.ref a) f u) Q E s:=by
 obtain⟨k,O,r,i,_,j⟩:=Ay I.hok e;have l:(fs.map (·.1)).length<=sizeLine:=by rw[qA6,vY];lia
 refine AB I.kIn O c.sa c.po n.taker c.hd i l λt d sb=>h _ ?_;have w:∃o,t.get? dx=Z9 o:=let ⟨o,_,_,e',_⟩:=d.ns;⟨o,e'⟩
 refine I.write (x:=a) (e:=dx) (by rw[e];exact True.intro) (.inr j) (λb q p z=>(sb.2 b p).trans z) w ?_;refine⟨by rw[Zq O.ne];exact j,?_,O.ne,d.obj,_,d.ns,λg=>?_,λg B=>?_⟩
 .have:=Hn f y fs;lia
 .show Yq ((Yj f y fs).lookup g) (if g=f then Z9 u else k g);rw[Ho];by_cases q:g=f
  .rw[if_pos q,if_pos q];exact m
  .rw[if_neg q,if_neg q];exact r g
 .by_cases q:g=f
  .rw[q];exact(LN f y fs).1
  .refine(LN f y fs).2 g (i g λz=>B ?_);show(if g=f then Z9 u else k g)=Z8;rw[if_neg q];exact z
theorem ZP.made(I:ZP X pins Z H s):ZP X pins Z (ZE (ZE H s.heap.objs.size (.own (s.heap.objs.size+1))) (s.heap.objs.size+1) (.ins C s.heap.objs.size []))
  { s with heap:=(s.heap.push wR).push (wG C s.heap.objs.size) }:=by
 have c:(s.heap.push wR).get? s.heap.objs.size=Z9 W.emptyDict:=qB5 s.heap rfl;have d:=by have:=qB5 (s.heap.push wR) (o:=wG C s.heap.objs.size) rfl;rwa[qE4]at this
 have h:(s.heap.push wR).Ns s.heap.objs.size (λ_=>Z8):=⟨wR,#[],_,c,rfl,(λe i=>absurd i (by simp)),λ_=>rfl⟩
 have j:=I.laid (o:=.own (s.heap.objs.size+1)) (h':=s.heap.push wR) (t':=s.toks) (λb u q=>qA2 _ q) (qA4 _) ⟨_,c⟩;refine j.laid (t':=s.toks) (λb u q=>qA2 _ q) (qK6 (qE4 _ _)) ?_;have ne:s.heap.objs.size≠s.heap.objs.size+1:=qC0 (qG4 _);refine⟨by rw[Zq ne,YU],qF0 _,ne,d,λ_=>Z8,(Heap.Ns1.of_empty h).at λo q=>qA2 _ q,λ_=>True.intro,λy g=>absurd rfl g⟩
theorem Aw{Q:yL}(c:vB e f env (jU e env)=jU e env)
  (h:yZ (yX prog w) A (jU e env) (λo b=>yZ (yX prog w) A (getAttr o f Z7) Q E b) E s):yZ (yX prog w) A (jU (.Attribute e f pos) env) Q E s :=
 Attribute_any_ h (by rw[arm_eval_Attribute,c])
end
def LM(K:yP)(d tv:TE)(f:Str):TS:=λD Z H=>tv Z H λy c=>d Z c λx b=>∃a C dx fs,x=.ref a/\b a=Z9 (.ins C dx fs)/\WQ K C/\Vv K C f/\fs.length<1000 /\
 D.nx Z (ZE b a (.ins C dx (Yj f y fs)))
section
variable {X:Cx}{o e value:yV}{f:Str}{pos pos' tpos:Pos}{ta tv:TE}
theorem Av(i:PE X o ta)(z:PE X value tv)(p:wI value (Z9 (.Attribute o f pos')) pos.line X.env=pure Z5):PS X (.Assign [.Attribute o f pos'] value pos) (LM X.K ta tv f):=by intro b s Z H D I h;refine plainObj_wpAny_Assign_Attribute (Zx (z b s Z H _ I h) λu v ⟨y,t,r,k,q⟩=>Zx (i b v Z t _ r q) λd B ⟨x,E,m,A,a,C,dx,fs,ex,g,c,n,l,w⟩=>?_) p;subst ex;obtain rfl:d=Value.ref a:=A;exact Ax m g c n l k λF j=>⟨Z,_,j,w⟩
end
structure Zr(k:Nat)(A:jE):Prop where
 hd:A.handled=Z8
 dp:A.depth+3*k+5<recursionLimit
 un:A.units+16*k+200<vT
 gd:A.guards=Z9 []
theorem Zr.mono(r:Zr k A)(h:j<=k):Zr j A:=⟨r.hd,by have:=r.dp;lia,by have:=r.un;lia,r.gd⟩
theorem Zr.deeper(r:Zr (k+1) A)(env:Env):Zr k (A.deeper env) :=
 ⟨r.hd,by have:=r.dp;show A.depth+1+3*k+5<_;lia,by have:=r.un;show A.units+3+16*k+200<_;lia,r.gd⟩
theorem Au{A:jE}{us:yB}:(A.under (.builtin "type.__call__" ⟨.ref C::us,a⟩)).depth=A.depth+1:=by
 first|rfl|simp[Around.under,Code.weight,Code.isCreation,Code.isGuard,Code.isCaller,Code.frames,Code.isFrame,guardIds]
theorem As{A:jE}{us:yB}:(A.under (.builtin "type.__call__" ⟨.ref C::us,a⟩)).units=A.units+1:=by
 first|rfl|simp[Around.under,Code.cUnits,Code.frames,Code.isFrame]
theorem Zr.make(r:Zr (k+1) A)(C:yQ)(us:yB)(a:List (Str×yT)):Zr k (A.under (.builtin "type.__call__" ⟨.ref C::us,a⟩)) :=
 ⟨r.hd,by have:=r.dp;rw[Au];lia,by have:=r.un;rw[As];lia,by have h:=r.gd;first|exact h|simp[Around.under,h,pushGuards,Code.guards,Code.isGuard,guardIds]⟩
theorem Zr.depth(r:Zr k A):A.depth<recursionLimit:=by have:=r.dp;lia
theorem Zr.units(r:Zr k A):A.units+64<cLine:=by have:=r.un;lia
theorem Zr.units0(r:Zr k A):A.units<cLine:=by have:=r.un;lia
def Qe:TA:=λ_ H Q=>Q [] H
def Ar(b:TE)(c:TA):TA:=fun Z H Q=>b Z H λx a=>c Z a λd e=>Q (x::d) e
section
variable {X:Cx}{e:yV}{es:yE}{te:TE}{t:TA}{pos:Pos}
theorem Sn:PA X [] Qe:=λ_ _ _ _ H Q I h=>Calls.spliced_nil ⟨[],H,I,.nil,h⟩
theorem Uy(c:PE X e te)(p:PA X es t)(j:y7 (e::es) X.env=(Z5,jU e X.env)::y7 es X.env:=by rfl):PA X (e::es) (Ar te t):=by intro b a s Z H Q I h;rw[j];show yZ _ _ (spliced ((Z5,jU e X.env)::vC b (y7 es X.env))) _ _ s;refine Calls.spliced_cons (Zx (c a s Z H _ I h) λu o ⟨x,l,k,g,m⟩=>?_);exact Zx (p b a o Z l _ k m) λv r ⟨f,d,i,n,q⟩=>⟨x::f,d,i,.cons g n,q⟩
def LL(t:TA):TE:=fun Z H Q=>t Z H λb a=>b.length<=yW/\∀p,a p=Z8->Q (.ref p) (ZE a p (.tup b))
def LK(t:TA):TE:=fun Z H Q=>t Z H λb a=>b.length<=yW/\∀p,a p=Z8->Q (.ref p) (ZE a p (.lst b))
theorem Hm{f}(h:PA X es t):PE X (.Tuple es f pos) (LL t):=by intro a s Z H Q I j;refine wpAny_Tuple_spliced (Zx (h pos a s Z H _ I j) λg c ⟨i,k,d,r,z,q⟩=>⟨by rw[<- r.length];exact z,?_⟩);have l:=d.hok.fresh (qA4 _);refine⟨.ref c.heap.objs.size,ZE k c.heap.objs.size (.tup i),d.laid (t':=c.toks) (λb u e=>qA2 _ e) (qA4 _) ?_,rfl,q _ l⟩;exact⟨z,g,r,⟨_,qB5 _ rfl,rfl,_,rfl⟩⟩
theorem Aq(h:PA X es t):PE X (.List es pos) (LK t):=by intro a s Z H Q I i;refine wpAny_List_spliced (Zx (h pos a s Z H _ I i) λf c ⟨g,j,d,r,z,q⟩=>⟨by rw[<- r.length];exact z,?_⟩);have k:=d.hok.fresh (qA4 _);refine⟨.ref c.heap.objs.size,ZE j c.heap.objs.size (.lst g),d.laid (t':=c.toks) (λb u e=>qA2 _ e) (qA4 _) ?_,rfl,q _ k⟩;exact⟨z,f,0,r,qB5 _ rfl⟩
end
abbrev Sp:=List V->Hp->VK->XK->Prop
abbrev VS:=List Env->Hp->yR->XK->yL
structure WC(P:yY)(w:jC)(K:yP)(mg:Str->yF)(base:jB)(A:jE)(outer:List Env)(s:yR)(H:Hp):Prop where
 frames:A.frames=Z9 outer
 mod:Mod K mg base
 bs:∀b o,base.get? b=Z9 o->s.heap.get? b=Z9 o/\H b=Z8
 bsz:base.objs.size<=s.heap.objs.size
 funs:s.heap.FunFrames base outer
 frf:∀b∈X5 outer,H b=Z8
 hok:YB P w H s.heap
 bare:wO s.gens
def CE(a:List Env)(P:yY)(w:jC)(H:Hp)(s:yR)(Q:VK)(u:yT)(s':yR):Prop :=
 ∃v b,s'.os=s.os/\wO s'.gens/\Un (X5 a) [] H b s.heap s'.heap/\YB P w b s'.heap/\ZF v u/\Q v b
def CR(CX:VS)(a:List Env)(P:yY)(w:jC)(H:Hp)(s:yR)(Q:VK)(E:XK)(r:g7)(s':yR):Prop :=
 match r with
 |.ok (.ret u)=>CE a P w H s Q u s'
 |.ok _=>False
 |.error e=>CX a H s E e s'
structure YO(P:yY)(w:jC)(K:yP)(mg:Str->yF)(base:jB)(CX:VS)(k:Nat)(f:yQ)(fd:jT)(ps:yH)(sp:Sp):Prop where
 len:∀vs H Q E,sp vs H Q E->vs.length=ps.length
 run:∀(A:jE) (outer:List Env) (s:yR) (H:Hp) (args:Args) (us:yB) (vs:List V) (Q:VK) (E:XK),Zr k A->WC P w K mg base A outer s H->dM s fd args (ps.zip us)->ZK vs us->sp vs H Q E ->
  vO (yX P w) A (.call (.ref f) args) (CR CX outer P w H s Q E) s
theorem YO.imp{K:yP}(F:YO P w K d base CX k f c ps sp)
  (h:∀vs H Q E,sp' vs H Q E->sp vs H Q E):YO P w K d base CX k f c ps sp' :=
 ⟨λvs H Q E q=>F.len vs H Q E (h _ _ _ _ q),λA a s H b e vs Q E j m i l g=>F.run A a s H b e vs Q E j m i l (h _ _ _ _ g)⟩
theorem WC.make{K:yP}(e:WC P w K b base A a s H)(C:yQ)(us:yB)(c:List (Str×yT)):
  WC P w K b base (A.under (.builtin "type.__call__" ⟨.ref C::us,c⟩)) a s H:=⟨by first|exact e.frames|(simpa[Around.under,Code.envs,Code.isFrame,pushEnvs]using e.frames),e.mod,e.bs,e.bsz,e.funs,e.frf,e.hok,e.bare⟩
section
variable {X:Cx}{pins:yD}{Z:St}{H:Hp}{s s':yR}
theorem ZP.env0(I:ZP X pins Z H s):WC X.prog X.w X.K X.mg X.base X.A X.stack s H :=
 ⟨I.ok.frames,I.ok.mod,I.bs,qC6 I.ok.bsz I.sz,I.stack,I.stkFree,I.hok,I.bare⟩
theorem ZP.after(I:ZP X pins Z H s)(h:CE X.stack X.prog X.w H s Q u s'):EP X pins Z Q u s':=by obtain⟨v,f,j,a,un,c,r,q⟩:=h;obtain⟨i,g,d,t,e⟩:=s';obtain rfl:e=s.os:=j;exact⟨v,f,I.call (h':=i) (g':=g) (d':=d) (t':=t) un c a (λb z=>absurd z (by simp)),r,q⟩
end
def Oa(sp:Sp)(a:List V)(E:XK)(t:TA):TE:=fun Z H Q=>t Z H λc b=>sp (c++a) b Q E
def Ap(C:yQ)(sp:Sp)(b:List V)(E:XK)(t:TA):TE:=fun Z H Q=>t Z H λc a=>∀x dx,a x=Z8->a dx=Z8->dx≠x ->
 sp (.ref x::(c++b)) (ZE (ZE a dx (.own x)) x (.ins C dx [])) (λv d=>v=.non/\Q (.ref x) d) E
def WB(K:yP)(b:jT)(ps:yH)(ds:yB):Prop :=
 ∀(s:yR) (a:yB),K.In s.heap->(a++ds).length=ps.length->dM s b ⟨a,[]⟩ (ps.zip (a++ds))
theorem WB.all{K:yP}(h:∀us:yB,us.length=ps.length->bindArgs a ⟨us,[]⟩=pure (ps.zip us)):WB K a ps []:=λs us _ b=>by rw[qD6]at b ⊢;exact .of_eq (h us b)
def Wm(CX:VS)(X:Cx)(E:XK):Prop:=∀(a:yD) (Z:St) (H:Hp) (s:yR) (e:yT) (b:yR),ZP X a Z H s->CX X.stack H s E e b->X.xe e b
section
variable {X:Cx}{CX:VS}{k:Nat}{f C:yQ}{fd:jT}{ps:yH}{sp:Sp}{dvs:List V}{ds:yB}{E:XK}{x m:Str}{p pos apos:Pos}{e o:yV}{es:yE}{ta:TE}{t:TA}
theorem Hl{Z:St}(F:YO X.prog X.w X.K X.mg X.base CX k f fd ps sp)(l:Zr k X.A)(g:WB X.K fd ps ds)(n:ZK dvs ds)(i:Wm CX X E)
  (I:ZP X a Z H s) (r:ZK vs us) (h:sp (vs++dvs) H Q E):yZ (yX X.prog X.w) X.A (call (.ref f) us) (EP X a Z Q) X.xe s:=by
 have c:=r.append n;have d:(us++ds).length=ps.length:=by rw[<- c.length];exact F.len _ _ _ _ h
 refine lP (wW (F.run X.A X.stack s H ⟨us,[]⟩ (us++ds) (vs++dvs) Q E l I.env0 (g s us I.kIn d) c h) λr j b=>?_);cases r with
 |error e=>exact i a Z H s e j I b
 |ok q =>
  cases q with
  |ret u=>exact I.after b
  |next=>exact False.elim b
  |brk=>exact False.elim b
  |cont=>exact False.elim b
theorem Ao(F:YO X.prog X.w X.K X.mg X.base CX k f fd ps sp)(j:Zr k X.A)(n:Gl X x)(d:X.mg x=Z9 (.ref f))(hk:wE X.K (.ref f)=Z7)(g:WB X.K fd ps ds)(l:ZK dvs ds)(i:Wm CX X E)
  (c:PA X (e::es) t) (hdb:XI x:=by decide) (he:y7 (e::es) X.env=(Z5,jU e X.env)::y7 es X.env:=by rfl) (hpl:(vC pos (y7 es X.env)).any (·.1)=Z5:=by rfl) :
  PE X (.Call (.Name x p) (e::es) [] pos) (Oa sp dvs E t):=by intro a s Z H Q I h;refine wA (Rf I n d ?_ hdb);refine lQ I.ok.mod.kin hk (Zx (c pos a s Z H _ I h) λv y ⟨u,w,b,r,q⟩=>⟨b.kIn,?_⟩) he hpl;exact Hl F j g l i b r q
structure Mk(K:yP)(C f:yQ):Prop where
 makes:dW K C=Z7
 init:j8 K (.ref C) "__init__"=Z9 (Z9 (.ref f))
 fn:W.isFn K (.ref f)=Z7
 kp:wE K (.ref C)=Z7
theorem An{Z:St}(M:Mk X.K C f)(F:YO X.prog X.w X.K X.mg X.base CX k f fd ps sp)(D:Zr (k+1) X.A)(y:WB X.K fd ps ds)(G:ZK dvs ds)
  (z:Wm CX X E) (I:ZP X b Z H s) (r:ZK vs us)
  (h:∀x dx,H x=Z8->H dx=Z8->dx≠x->sp (.ref x::(vs++dvs)) (ZE (ZE H dx (.own x)) x (.ins C dx [])) (λv l=>v=.non/\Q (.ref x) l) E) :
  yZ (yX X.prog X.w) X.A (call (.ref C) us) (EP X b Z Q) X.xe s:=by
 have d:=h (s.heap.objs.size+1) s.heap.objs.size (I.hok.fresh (qL6 _)) (I.hok.fresh (qA4 _)) (qC0 (qG4 _));have c:=ZP.made (C:=C) I;have g:ZK (V.ref (s.heap.objs.size+1)::(vs++dvs)) (Value.ref (s.heap.objs.size+1)::(us++ds)):=.cons rfl (r.append G);have j:(Value.ref (s.heap.objs.size+1)::us++ds).length=ps.length:=by have e:=g.length;rw[F.len _ _ _ _ d]at e;exact e.symm
 refine lP (AA (f:=f) I.kIn M.makes M.init (beq_iff_eq.mp M.fn) (wW (F.run _ X.stack _ _ ⟨Value.ref (s.heap.objs.size+1)::us,[]⟩ (Value.ref (s.heap.objs.size+1)::(us++ds)) _ _ E (D.make C us [])
  (c.env0.make C us []) (y _ (Value.ref (s.heap.objs.size+1)::us) c.kIn j) g d) λr B a=>?_))
 cases r with
 |error e=>exact z b Z _ _ e B c a
 |ok J =>
  cases J with
  |ret u =>
   obtain⟨v,i,q,n,w,A⟩:=c.after a;subst w;exact⟨n,⟨V.ref (s.heap.objs.size+1),i,q,rfl,A⟩⟩
  |next=>exact False.elim a
  |brk=>exact False.elim a
  |cont=>exact False.elim a
theorem Am(M:Mk X.K C f)(F:YO X.prog X.w X.K X.mg X.base CX k f fd ps sp)(g:Zr (k+1) X.A)(i:Gl X x)(j:X.mg x=Z9 (.ref C))(c:WB X.K fd ps ds)(b:ZK dvs ds)(d:Wm CX X E)
  (hdb:XI x:=by decide):PE X (.Call (.Name x p) [] [] pos) (Ap C sp dvs E Qe):=by intro a s Z H Q I h;refine wA (Rf I i j ?_ hdb);exact W.callWith_K0 I.kIn M.kp (An (us:=[]) M F g c b d I .nil h)
end
structure Sm(N P:yH)(sc:jW):Prop where
 kind:sc.kind=.function
 co:sc.isCoroutine=Z5
 gen:sc.isGenerator=Z5
 nd:N.Nodup
 pre:N.take P.length=P
 par:∀x∈P,sc.names.lookup x=Z9 .local∨sc.names.lookup x=Z9 .cell
 nofree:∀y∈sc.names,y.2≠.free
theorem Hk{kindOf:Str->Option jQ}:∀{binds:List (Str×yT)}{m:Str->yF},(∀v,(x,v)∉binds)->bindL kindOf binds m x=m x
 |[],_,_=>rfl
 |(n,v)::r,m,h=>by
  unfold bindL;rw[Hk λw a=>h w (qC5 _ a)];split
  .have:x≠n:=by rintro rfl;exact h v qD1
   simp[this]
  .rfl
theorem Hj{kindOf:Str->Option jQ}:∀{binds:List (Str×yT)}{m:Str->yF},(∀v,(x,v)∉binds)->bindC kindOf binds m x=m x
 |[],_,_=>rfl
 |(n,v)::r,m,h=>by
  unfold bindC;rw[Hj λw a=>h w (qC5 _ a)];split
  .rfl
  .have:x≠n:=by rintro rfl;exact h v qD1
   simp[this]
theorem Hi{kindOf:Str->Option jQ}{x:Str}{v:yT}:∀{P:yH}{vs:yB}{i:Nat}{m:Str->yF},P.Nodup->P[i]?=Z9 x->vs[i]?=Z9 v->kindOf x=Z9 .local ->
  bindL kindOf (P.zip vs) m x=Z9 v
 |[],_,_,_,_,h,_,_=>by simp at h
 |_::_,[],_,_,_,_,h,_=>by simp at h
 |p::P,w::vs,0,m,nd,h1,h2,hk=>by simp at h1 h2;subst h1;subst h2;show bindL kindOf ((p,w)::P.zip vs) m p=_;unfold bindL;rw[Hk λv a=>(qI8.mp nd).1 (qL0 a).1,if_pos hk];simp
 |p::P,w::vs,i+1,m,nd,h1,h2,hk=>by show bindL kindOf ((p,w)::P.zip vs) m x=_;exact Hi (qI8.mp nd).2 (by simpa using h1) (by simpa using h2) hk
theorem Hh{kindOf:Str->Option jQ}{x:Str}{v:yT}:∀{P:yH}{vs:yB}{i:Nat}{m:Str->yF},P.Nodup->P[i]?=Z9 x->vs[i]?=Z9 v->kindOf x≠Z9 .local ->
  bindC kindOf (P.zip vs) m x=Z9 v
 |[],_,_,_,_,h,_,_=>by simp at h
 |_::_,[],_,_,_,_,h,_=>by simp at h
 |p::P,w::vs,0,m,nd,h1,h2,hk=>by simp at h1 h2;subst h1;subst h2;show bindC kindOf ((p,w)::P.zip vs) m p=_;unfold bindC;rw[Hj λv a=>(qI8.mp nd).1 (qL0 a).1,if_neg hk];simp
 |p::P,w::vs,i+1,m,nd,h1,h2,hk=>by show bindC kindOf ((p,w)::P.zip vs) m x=_;exact Hh (qI8.mp nd).2 (by simpa using h1) (by simpa using h2) hk
def start(N:yH)(vs:List V):St:=vs.map Z9++qC3 (N.length - vs.length) Z8
def XE(CX:VS)(P:yY)(w:jC)(K:yP)(mg:Str->yF)(base:jB)(N:yH)(a:Str)(scope:jW)(f:yQ)(c:yT)(A:jE)(outer:List Env)(s:yR)(H:Hp)(E:XK):Cx where
 prog:=P
 w:=w
 K:=K
 mg:=mg
 base:=base
 A:=A.deeper (lR a scope s.heap.objs.size f c)
 N:=N
 s₀:=s
 H₀:=H
 env:=lR a scope s.heap.objs.size f c
 outer:=outer
 stack:=lR a scope s.heap.objs.size f c::outer
 ex:=[]
 calm:=Z7
 fn:=λ_=>Z7
 pn:=[]
 xe:=λe g=>yZ (yX P w) (A.deeper (lR a scope s.heap.objs.size f c)) (leaving (lR a scope s.heap.objs.size f c) e) (λ_ b=>CX outer H s E e b) (λd b=>CX outer H s E d b) g
theorem Hg{a:jW}(h:a.names.lookup x=Z9 .cell):∃c,(vH n a.names []).lookup x=Z9 c:=by have q:=lD a.names n [] (.inl h);exact qH6.mp q
theorem Hf{K:yP}
  (S:Sm N ps scope) (M:A.handled=Z8) (l:WC P w K F base A d s H) (O:vs.length=ps.length) (r:ZK vs us)
  (x:InCallC s s.heap.objs.size (bindL (lR g scope s.heap.objs.size f D).kindOf (ps.zip us) λ_=>Z8) (vH (s.heap.objs.size+1) scope.names []) (bindC (lR g scope s.heap.objs.size f D).kindOf (ps.zip us) λ_=>Z8) s1) :
  ZP (XE CX P w K F base N g scope f D A d s H E) [] (start N vs) H s1:=by
 have L:=by have:=congrArg qG5 S.pre;rw[qD2]at this;omega
 obtain⟨B,R,rfl,hk⟩:=x.done;have n:∀b:yQ,b∉(XE CX P w K F base N g scope f D A d s H E).ex:=λb z=>absurd (show b∈([])from z) (by simp);refine⟨⟨l.mod,S.kind,rfl,rfl,qA4 _,λy z c B j=>?_,λy m=>?_,λy c _ h=>?_,λ_=>M,Around.frames_deeper l.frames,.inr ⟨rfl,rfl⟩,λb z=>absurd z (n b),l.bs,l.bsz,λb _ _=>n b,λb z=>absurd z (n b),l.funs,l.frf⟩,
  rfl,l.bare,Un.kept hk,⟨_,x.toInCall.ns,λi y v B j Q=>?_⟩,λy c h=>⟨_,x.cell y c h⟩,l.hok.fresh (qA4 _),λy c h=>?_,λp o=>absurd (show p∈([])from o) (by simp),l.hok.kept hk,?_⟩
 .exact name_of_addr x.apart (vU B) (vU j)
 .have m:=m;rcases m with m|m
  .exact Hg m
  .exact absurd rfl (S.nofree _ (vU m))
 .exact qF7 (x.above y c (vU h))
 .have C:i<vs.length:=by
   unfold start at j;by_cases C:i<vs.length
   .exact C
   .rw[qA5 (by simpa using C)]at j;rw[qF5]at j;split at j<;>cases j
  have I:vs[i]?=Z9 v:=by
   unfold start at j;rw[qB7 (by simpa using C),qC1]at j;cases e:vs[i]? with
   |none=>rw[e]at j;cases j
   |some a=>rw[e]at j;cases j;rfl
  obtain⟨u,G,J⟩:=r.get I;have o:ps[i]?=Z9 y:=by rw[<- S.pre,qE0 (by lia)];exact B
  have t:ps.Nodup:=by rw[<- S.pre];exact S.nd.sublist (qM9 _ _)
  refine⟨u,J,?_⟩;rcases S.par y (qC2 o)with k|k
  .exact .inl ⟨k,Hi t o G k⟩
  .obtain⟨c,e⟩:=Hg k;refine .inr ⟨.inl k,c,e,?_⟩;have q:=x.cell y c e;rw[Hh t o G (by show scope.names.lookup y≠_;rw[k];decide)]at q;exact q
 .exact l.hok.fresh (qF7 (x.above y c (vU h)))
 .unfold start;show _=N.length;rw[qC4,qA6,qE7];omega
theorem He{K:yP}{X kV C Y d R oc:yT}
  {M:Array (yF)} (lk:K.lookup f=Z9 ⟨oc,od,.func (fI j c g body scope X kV C Y T d R),M⟩) (O:lE K d c=Z7) (S:Sm N ps scope)
  (len:∀vs H Q E,sp vs H Q E->vs.length=ps.length)
  (l:∀(A:jE) (a:List Env) (s:yR) (H:Hp) (vs:List V) (Q:VK) (E:XK),Zr k (A.deeper (lR c scope s.heap.objs.size f d))->sp vs H Q E ->
   ∃t,XH (XE CX P w K F base N c scope f d A a s H E) body t/\t { nx:=λ_ h=>Q .non h,rt:=Q } (start N vs) H) :
  YO P w K F base CX (k+1) f (fI j c g body scope X kV C Y T d R) ps sp:=by
 refine⟨len,λA a s H Z us vs Q E L B hb r z=>?_⟩;have hl:=len _ _ _ _ z;have U:=B.mod.kin.keeps λb o e=>(B.bs b o e).1;have lim:=B.mod.nolimit.keeps λb o e=>(B.bs b o e).1;have m:∀y∈ps.zip us,scope.names.lookup y.1=Z9 .local∨(scope.names.lookup y.1=Z9 .cell/\((vH (s.heap.objs.size+1) scope.names []).lookup y.1).isSome=Z7):=λ⟨n,v⟩ hy=>by
  rcases S.par n (qL0 hy).1 with q|q
  .exact .inl q
  .exact .inr ⟨q,lD _ _ _ (.inl q)⟩
 refine mJ L.depth (U _ _ lk) rfl S.co S.gen rfl (W.codeRec_of U O) (hb _ _ _ _ ?_);refine gJ S.kind m λenv he s1 x=>?_;subst he;refine⟨lim.keeps x.toInCall.keep,codeAny_func ?_⟩;obtain⟨t,ht,hq⟩:=l A a s H vs Q E (L.deeper _) z;have I:ZP (XE CX P w K F base N c scope f d A a s H E) [] (start N vs) H s1:=Hf S L.hd B hl r x;refine jH (ht [] s1 (start N vs) H _ I hq) (λfl s' p=>?_) λe s' p=>p;have D:∀{G:St}{h:Hp}{v:V}{u:yT},ZP (XE CX P w K F base N c scope f d A a s H E) [] G h s'->ZF v u->Q v h->CE a P w H s Q u s' :=
  λ{G h v u} i J q=>⟨v,h,i.os,i.bare,i.base,i.hok,J,q⟩
 cases fl with
 |ret u =>
  obtain⟨v,G,h,i,J,q⟩:=p;exact D i J q
 |next =>
  obtain⟨G,h,i,q⟩:=p;exact D (v:=V.non) i rfl q
 |brk =>
  obtain⟨_,_,_,q⟩:=p;exact False.elim q
 |cont =>
  obtain⟨_,_,_,q⟩:=p;exact False.elim q
section
variable {X:Cx}{x:Str}{p pos:Pos}{e:yV}{es:yE}{t:TA}{id T:String}{r:List V->Hp->VK->Prop}
def N9(r:List V->Hp->VK->Prop)(t:TA):TE:=fun Z H Q=>t Z H λb a=>r b a Q
theorem Hd(q:X1 X (.builtin id) r)(o:Gl X x)(f:X.mg x=Z8)(n:jF x=Z9 (.builtin id))(c:PA X (e::es) t)(l:x ≠ "__name__":=by decide)(hdb:XI x:=by decide)
  (he:y7 (e::es) X.env=(Z5,jU e X.env)::y7 es X.env:=by rfl) (hpl:(vC pos (y7 es X.env)).any (·.1)=Z5:=by rfl):PE X (.Call (.Name x p) (e::es) [] pos) (N9 r t):=by intro a s Z H Q I h;refine wA (Su I o f n ?_ l hdb);exact PyProof.Rows.callWith_builtin1 (Zx (c pos a s Z H _ I h) λd m ⟨b,j,i,g,k⟩=>q a m Z j b d Q i g k) he hpl
theorem N8(q:X1 X (.type T) r)(o:Gl X x)(f:X.mg x=Z8)(n:jF x=Z9 (.type T))(c:PA X (e::es) t)(l:x ≠ "__name__":=by decide)(hdb:XI x:=by decide)
  (he:y7 (e::es) X.env=(Z5,jU e X.env)::y7 es X.env:=by rfl) (hpl:(vC pos (y7 es X.env)).any (·.1)=Z5:=by rfl):PE X (.Call (.Name x p) (e::es) [] pos) (N9 r t):=by intro a s Z H Q I h;refine wA (Su I o f n ?_ l hdb);exact jZ (Zx (c pos a s Z H _ I h) λd m ⟨b,j,i,g,k⟩=>q a m Z j b d Q i g k) he hpl
end
end Lake
namespace Lake.HT
open PySem PyProof.Rows
section
variable {prog:yY}{w:jC}{A:jE}{E:yL}{s:yR}
theorem cat_tup{vs ws:yB}{Q:yL}(u:IsTup s.heap t vs.toArray)(v:IsTup s.heap b ws.toArray)(p:vs≠[])
  (x:ws=[]->Q (.ref t) s) (y:ws≠[]->Q (.ref s.heap.objs.size) { s with heap:=s.heap.push { cls:=.type "tuple",data:=.seq (vs++ws).toArray } })
  (j:vs.length+ws.length<=yW):yZ (yX prog w) A (jG .Add (.ref t) (.ref b)) Q E s:=by
 obtain⟨⟨cls,q,data,m⟩,h,r,n,o⟩:=id u;obtain⟨⟨k,d,data2,f⟩,a,g,l,c⟩:=id v;simp only at r o g c;subst r o g c;have e:vs.toArray++ws.toArray=(vs++ws).toArray:=by simp
 by_cases i:ws=[]
 .exact dN ⟨_,h,rfl⟩ ⟨_,a,rfl⟩ lF dC wX wS (wK _ _)
   (tuple_addW1 t b vs.toArray ws.toArray n l q d m f (by simpa using p) (by simp[i])) ⟨h,a,x i⟩
 .refine dN ⟨_,h,rfl⟩ ⟨_,a,rfl⟩ lF dC wX wS (wK _ _)
   (tuple_addW2 t b vs.toArray ws.toArray n l q d m f (by simpa using p) (by simpa using i) (by exact j)) ⟨h,a,?_⟩
  rw[e];exact y i
def sIx(n d:Nat):yG->Nat
 |none=>d
 |some v=>if v<0 then(v+(n:Int)).toNat else min v.toNat n
theorem sIx_none(n d:Nat):sIx n d Z8=d:=rfl
theorem sIx_nat(n d k:Nat):sIx n d (Z9 (k:Int))=min k n:=rfl
theorem Hc(v:Int)(n d:Nat):(if v<0 then max (v+(n:Int)) 0 else min v (n:Int))=((sIx n d (Z9 v):Nat):Int):=by
 show(if v<0 then max (v+n) 0 else min v n)=(((if v<0 then(v+n).toNat else min v.toNat n):Nat):Int)
 by_cases a:v<0
 .simp only[if_pos a];lia
 .simp only[if_neg a];lia
theorem Al(lo hi:yG)(n:Nat):Builtin.Slice.sliceAdjust lo hi 1 (n:Int)=(((sIx n 0 lo:Nat):Int),((sIx n n hi:Nat):Int)):=by
 refine Prod.ext ?_ ?_
 .cases lo with
  |none=>rfl
  |some v=>exact Hc v n 0
 .cases hi with
  |none=>rfl
  |some v=>exact Hc v n n
theorem Ak(i j:Nat):Builtin.Slice.slicePlaces (i:Int) (j:Int) 1=j - i:=by unfold Builtin.Slice.slicePlaces;split<;>lia
theorem Hb{o:yG}{Q:yG->yR->Prop}(p:g8 v o)(h:Q o s):yZ (yX prog w) A (Builtin.Slice.slicePartIndex v) Q E s:=by
 cases p with
 |none=>exact slicePart_none h
 |int i t=>exact slicePart_int h
theorem sliceApplied_gen{lo hi:yG}{Q:Int×Int×Nat->yR->Prop}(i:s.heap.IsSliceOf e d c .none)(pl:g8 d lo)(g:g8 c hi)
  (h:Q (((sIx n 0 lo:Nat):Int),1,sIx n n hi - sIx n 0 lo) s):yZ (yX prog w) A (Builtin.Slice.sliceApplied (.ref e) (pure (n:Int))) Q E s:=by obtain⟨j,b,f,a⟩:=id i;refine yO (yO (jJ b a (x:=d) rfl (yO (jJ b a (x:=c) rfl (yO (jJ b a (x:=.none) rfl (yS ?_)))))));refine yO (slicePart_none ?_);refine yO (Hb pl (yO (Hb g (yO (yS ?_)))));show yZ _ _ (match Builtin.Slice.sliceAdjust lo hi 1 n with|(lo,hi)=>pure (lo,(1:Int),Builtin.Slice.slicePlaces lo hi 1)) _ _ s;rw[Al lo hi n];show yZ _ _ (pure (((sIx n 0 lo):Int),1,Builtin.Slice.slicePlaces ((sIx n 0 lo):Int) ((sIx n n hi):Int) 1)) _ _ s;rw[Ak];exact yS h
theorem Aj(xs:yJ)(i k:Nat):((List.range k).filterMap fun(m:Nat)=>xs[((i:Int)+(m:Int)*1).toNat]?).toArray=((xs.toList.drop i).take k).toArray:=by
 have e:(fun(m:Nat)=>xs[(i+(m:Int)*1).toNat]?)=λm=>xs[i+m]?:=by
  funext m;have:(i+(m:Int)*1).toNat=i+m:=by lia
  rw[this]
 rw[e];have:=pick_run xs i k;rw[List.filterMap_map]at this;have a:((λx=>xs[x]?)∘λx=>i+x)=λm=>xs[i+m]?:=rfl;rw[a]at this;rw[this]
theorem getItem_tuple_cut{items:yJ}{lo hi:yG}{Q:yL}(b:IsTup s.heap t items)(j:s.heap.IsSliceOf f k i .none)(pl:g8 k lo)(n:g8 i hi)
  (o:¬(sIx items.size 0 lo=0/\sIx items.size items.size hi=items.size))
  (h:Q (.ref s.heap.objs.size) { s with heap:=s.heap.push { cls:=.type "tuple",data:=.seq ((items.toList.drop (sIx items.size 0 lo)).take (sIx items.size items.size hi - sIx items.size 0 lo)).toArray } })
  (p:items.size<=yW):yZ (yX prog w) A (gO (.ref t) (.ref f)) Q E s:=by
 have a:=by show((items.toList.drop (sIx items.size 0 lo)).take (sIx items.size items.size hi - sIx items.size 0 lo)).toArray.size<=yW;rw[qB4,qD2,qE8,j5];omega
 obtain⟨l,d,c,m⟩:=id j;have g:s.TypeIs (.ref f) "slice":=⟨l,d,c⟩
 unfold gO
 try with_reducible refine jR ?_
 refine yO (wpAny_sequenceKey b.typeIs (by decide) ?_);refine yO (jK b.typeIs j7
  (jO j7 b.typeIs mZ ?_ (args_tuple_getitem _ _)))
 show yZ _ _ (Builtin.Tuple.tupleItemsOf (.ref t) >>= _) _ _ s;refine yO (tupleItemsOf_ b ?_);refine yO (wB g ?_);refine yO (sliceApplied_gen j pl n ?_);have e:¬((((sIx items.size 0 lo):Int) == 0&&(1:Int) == 1&&(sIx items.size items.size hi - sIx items.size 0 lo) == items.size)=Z7):=by intro q;rw[qB3,qB3]at q;have r:=eq_of_beq q.1.1;have u:=eq_of_beq q.2;exact o ⟨by omega,by omega⟩
 show yZ _ _ (if(((sIx items.size 0 lo):Int) == 0&&1 == 1&&(sIx items.size items.size hi - sIx items.size 0 lo) == items.size)=Z7 then _ else _) _ _ s;rw[if_neg e,Aj]
 first
  |exact yO (jP (yS ⟨_,rfl,yS h⟩) a)
  |exact yO (jP (yO (yS (yS ⟨_,rfl,yS h⟩))) a)
  |exact yO (yO (jP (yS (yS ⟨_,rfl,yS h⟩)) a))
  |exact yO (yO (jP (yS ⟨_,rfl,yS h⟩) a))
end
end Lake.HT
namespace Lake
open PySem PySem.Spec PyProof.Rows
abbrev TO:=St->Hp->(yG->Hp->Prop)->Prop
def PO(X:Cx)(e:Option yV)(t:TO):Prop :=
 ∀(a:yD) (s:yR) (Z:St) (H:Hp) (Q:yG->Hp->Prop),ZP X a Z H s->t Z H Q ->
  yZ (yX X.prog X.w) X.A (evalPart e X.env) (λu c=>∃o b,ZP X a Z b c/\g8 u o/\Q o b) X.xe s
def Ai:TO:=λ_ H Q=>Q Z8 H
def Ah(t:TE):TO:=fun Z H Q=>t Z H λx a=>∃i,x=.int i/\Q (Z9 i) a
theorem Ag{ns:yA}:∀{us:yB},ZK (ns.map V.int) us->mW us ns:=by
 induction ns with
 |nil=>intro us r;cases r;exact .nil
 |cons n ns a =>
  intro us r;cases r with
  |cons c b =>
   obtain⟨t,e⟩:=c;subst e;exact .cons n t (a b)
section
variable {X:Cx}{e:yV}{te:TE}{lo hi:Option yV}{tl th:TO}{pos p2:Pos}
theorem Af:PO X Z8 Ai:=by intro a s Z H Q I h;exact yS ⟨Z8,H,I,.none,h⟩
theorem Ae(h:PE X e te):PO X (Z9 e) (Ah te):=by intro a s Z H Q I g;refine Zx (h a s Z H _ I g) λu j ⟨x,b,f,c,d⟩=>?_;obtain⟨i,rfl,q⟩:=d;obtain⟨t,rfl⟩:=c;exact⟨Z9 i,b,f,.int i t,q⟩
def Sl(X:Cx)(r:V->yG->yG->Hp->VK->Prop):Prop :=
 ∀(a:yD) (s:yR) (Z:St) (H:Hp) (x:V) (v d c:yT) (lo f:yG) (b:yQ) (Q:VK),ZP X a Z H s->ZF x v->s.heap.IsSliceOf b d c .none->g8 d lo->g8 c f->r x lo f H Q ->
  ∃T id,typeLookup (.type T) "__getitem__"=pure (Z9 (.builtin id))/\s.TypeIs v T/\yZ (yX X.prog X.w) X.A (gO v (.ref b)) (EP X a Z Q) X.xe s
def Ad(r:V->yG->yG->Hp->VK->Prop)(b:TE)(c d:TO):TE:=fun Z H Q=>b Z H λx a=>c Z a λl f=>d Z f λu g=>r x l u g Q
theorem Ac(G:Sl X r)(he:PE X e te)(j:PO X lo tl)(i:PO X hi th):PE X (.Subscript e (.Slice lo hi Z8 p2) pos) (Ad r te tl th):=by intro a s Z H Q I h;refine Subscript_ (Zx (he a s Z H _ I h) λv F ⟨x,C,B,A,D⟩=>?_);refine wpAny_Slice (Zx (j a F Z C _ B D) λf k ⟨l,n,z,p,J⟩=>Zx (i a k Z n _ z J) λd c ⟨u,g,y,w,E⟩=>?_);refine yS ?_;have t:ZP X a Z g { c with heap:=c.heap.push { cls:=.type "slice",data:=.fields #[f,d,.none] } }:=y.kept (t':=c.toks) λb L q=>qA2 _ q;obtain⟨T,id,o,m,K⟩:=G a { c with heap:=c.heap.push { cls:=.type "slice",data:=.fields #[f,d,.none] } } Z g x v f d l u c.heap.objs.size Q t A (Heap.IsSliceOf.new ..) p w E;exact tail_any m o K (by with_unfolding_all rfl)
def W1(xs:List V)(lo hi:yG):List V:=(xs.drop (HT.sIx xs.length 0 lo)).take (HT.sIx xs.length xs.length hi - HT.sIx xs.length 0 lo)
theorem Ha(xs:List V)(lo hi:yG):(W1 xs lo hi).length<=xs.length:=by
 unfold W1;rw[qD2,qE8]
 lia
def LJ(K:yP):V->yG->yG->Hp->VK->Prop:=λx lo c H Q=>∃a b,x=.ref a/\Zb K H a b /\
 ¬(HT.sIx b.length 0 lo=0/\HT.sIx b.length b.length c=b.length)/\∀p,H p=Z8->Q (.ref p) (ZE H p (.tup (W1 b lo c)))
theorem Ab:Sl X (LJ X.K):=by
 intro j s Z H x v y w lo k z Q I t n l m h;obtain⟨a,d,rfl,o,p,q⟩:=h;cases t;obtain⟨f,r,i,g⟩:=I.tuple o;have c:f.toArray.size=d.length:=by exact r.length.symm
 refine⟨"tuple",_,PyProof.Rows.slot_tuple_getitem.lookup,i.typeIs,?_⟩;refine HT.getItem_tuple_cut i n l m (by rw[c];exact p) ?_ (by rw[c];exact g);rw[c];refine⟨.ref s.heap.objs.size,_,I.laid (t':=s.toks) (λb u q=>qA2 _ q) (qA4 _) ?_,rfl,q _ (I.hok.fresh (qA4 _))⟩;exact⟨qC6 (Ha d lo k) g,_,(r.drop (HT.sIx d.length 0 lo)).take (HT.sIx d.length d.length k - HT.sIx d.length 0 lo),IsTup.new _ _⟩
def Aa(K:yP):R2:=λx y H Q=>∃a b d c,x=.ref a/\y=.ref b/\Zb K H a d/\Zb K H b c/\d≠[]/\d.length+c.length<=yW /\
 (c=[]->Q (.ref a) H)/\(c≠[]->∀p,H p=Z8->Q (.ref p) (ZE H p (.tup (d++c))))
theorem ZK.nil_iff(r:ZK xs us):us=[]↔xs=[]:=by
 cases r with
 |nil=>simp
 |cons _ _=>simp
theorem z0:Y3 X (jG .Add) (Aa X.K):=by intro i s Z H x y v u Q I A m h;obtain⟨a,b,D,C,rfl,rfl,k,p,r,f,o,t⟩:=h;cases A;cases m;obtain⟨j,d,n,_⟩:=I.tuple k;obtain⟨g,c,l,_⟩:=I.tuple p;refine HT.cat_tup n l (λz=>r (d.nil_iff.mp z)) (λz=>⟨.ref a,H,I,rfl,o (c.nil_iff.mp z)⟩) (λz=>?_) (by rw[<- d.length,<- c.length];exact f);refine⟨.ref s.heap.objs.size,_,I.laid (t':=s.toks) (λb B q=>qA2 _ q) (qA4 _) ?_,rfl,t (λw=>z (c.nil_iff.mpr w)) _ (I.hok.fresh (qA4 _))⟩;exact⟨by rw[qC4];exact f,_,d.append c,IsTup.new _ _⟩
end
def V6(n:Nat)(i:Int):yK:=if 0<=i then(if i<n then Z9 i.toNat else Z8)else if -(n:Int)<=i then Z9 (i+n).toNat else Z8
def X0{α:Type}(xs:List α)(i:Int):Option α:=(V6 xs.length i).bind λj=>xs[j]?
theorem G9(h:V6 n i=Z9 j):seqIndex? i n=Z9 j/\j<n/\-(n:Int)<=i/\i<n:=by
 unfold V6 at h;by_cases b:0<=i
 .rw[if_pos b]at h;by_cases a:i<n
  .rw[if_pos a]at h;have e:=Option.some.inj h;exact⟨by rw[uB b a,e],by lia,by lia,a⟩
  .rw[if_neg a]at h;cases h
 .rw[if_neg b]at h;by_cases a:-n<=i
  .rw[if_pos a]at h;have e:=Option.some.inj h;exact⟨by rw[dO (by lia) a,e],by lia,a,by lia⟩
  .rw[if_neg a]at h;cases h
theorem LI{v:a}(h:X0 xs i=Z9 v):∃j,seqIndex? i xs.length=Z9 j/\xs[j]?=Z9 v/\j<xs.length/\-(xs.length:Int)<=i/\i<xs.length:=by
 unfold X0 at h;cases e:V6 xs.length i with
 |none=>rw[e]at h;cases h
 |some j =>
  rw[e]at h;obtain⟨f,b,d,c⟩:=G9 e;exact⟨j,f,h,b,d,c⟩
theorem WO{j:Nat}{v:a}(h:xs[j]?=Z9 v):X0 xs (j:Int)=Z9 v:=by
 have b:=(qA3.mp h).1;have e:V6 xs.length j=Z9 j:=by unfold V6;rw[if_pos (by lia),if_pos (by lia)];simp
 unfold X0;rw[e];exact h
def LH(b:yV):Prop:=∀o i,uC b Z5 o i=operate [o,i] (gO o i)
def Sk(X:Cx)(r:R2):Prop :=
 ∀(c a:yV) (b:yD) (s:yR) (Z:St) (H:Hp) (x y:V) (v u:yT) (Q:VK),ZP X b Z H s->ZF x v->ZF y u->r x y H Q ->
  uC a Z5 v u=operate [v,u] (gO v u)->yZ (yX X.prog X.w) X.A (subscriptTail c a v u) (EP X b Z Q) X.xe s
def Q9(X:Cx)(id:String)(r:V->List V->Hp->VK->Prop):Prop :=
 ∀(a:yD) (s:yR) (Z:St) (H:Hp) (x:V) (b:List V) (v:yT) (c:yB) (Q:VK),ZP X a Z H s->ZF x v->ZK b c->r x b H Q ->
  yZ (yX X.prog X.w) X.A (call (.builtin id) (v::c)) (EP X a Z Q) X.xe s
section
variable {X:Cx}{a b:yV}{ta tb:TE}{pos:Pos}
theorem zZ(l:Sk X r)(e:PE X a ta)(k:PE X b tb)(j:LH b):PE X (.Subscript a b pos) (Qh r ta tb):=by intro c s Z H Q I h;exact Subscript_ (Sq e k I h λv u d x y f i m g q=>l a b c d Z f x y v u Q i m g q (j _ _))
def LG(K:yP):R2:=λx y H Q=>∃p c i v,x=.ref p/\y=.int i/\Ys K H p c/\X0 c i=Z9 v/\Q v H
def LF(K:yP):R2:=λx y H Q=>∃p c i v,x=.ref p/\y=.int i/\Zb K H p c/\X0 c i=Z9 v/\Q v H
def LD:R2:=λx y H Q=>∃z i c,x=.str z/\y=.int i/\z.length<=yW/\X0 z.cps.toList i=Z9 c/\Q (.str ⟨#[c]⟩) H
theorem zY:Sk X (LG X.K):=by
 intro f m c s Z H x y v u Q I L E h B;obtain⟨p,N,i,z,rfl,rfl,F,K,q⟩:=h;cases L;obtain⟨t,rfl⟩:=E;obtain⟨g,r,k,M⟩:=I.list F;obtain⟨j,e,J,P,C,G⟩:=LI K;obtain⟨w,o,l⟩:=r.get J;have D:=r.length;have O:=Rb;have d:EP X c Z Q w s:=⟨z,H,I,l,q⟩
 by_cases A:0<=i
 .have n:=by rw[uB A G]at e;exact Option.some.inj e
  exact item_listR k.isList A (by lia) (by rw[n];simpa using o) d B
 .have n:(i+g.toArray.size).toNat=j:=by rw[dO (by lia) C]at e;rw[qB4,<- D];exact Option.some.inj e
  exact lS k.isList.typeIs slot_list_getitem.lookup
   (wpAny_getItem_list_neg k.isList (by lia) (by rw[qB4]<;>lia) (by lia) (by rw[n];simpa using o) ⟨rfl,d⟩) B
theorem zX:Sk X (LF X.K):=by
 intro d f c s Z H x y v u Q I F o h B;obtain⟨p,K,i,z,rfl,rfl,A,E,q⟩:=h;cases F;obtain⟨t,rfl⟩:=o;obtain⟨m,r,k,J⟩:=I.tuple A;obtain⟨j,C,D,N,G,L⟩:=LI E;obtain⟨w,l,e⟩:=r.get D;have n:=r.length;have M:=Rb;have g:EP X c Z Q w s:=⟨z,H,I,e,q⟩
 exact lS k.typeIs slot_tuple_getitem.lookup
  (getItem_tuple k (by lia) (by lia) (by rw[qB4,<- n];exact C) (by simpa using l) ⟨rfl,g⟩) B
theorem zW:Sk X LD:=by
 intro d e f s Z H x y v u Q I B n h o;obtain⟨z,i,c,rfl,rfl,C,A,q⟩:=h;obtain⟨t,rfl⟩:=B;obtain⟨D,rfl⟩:=n;obtain⟨j,g,w,F,l,r⟩:=LI A;have m:z.cps.toList.length=z.length:=by simp[Str.length]
 rw[m]at g l r;have E:=Rb;exact tail_any (vR s z t) slot_str_getitem.lookup (getItem_str (c:=c) (by
  have k:decide (i < -(2 ^ 63:Int))=Z5:=decide_eq_false (by lia);have p:decide (i≥2 ^ 63)=Z5:=decide_eq_false (by lia);rw[k,p,qP0]) (by rw[g];simpa using w) ⟨.str ⟨#[c]⟩,H,I.tok _,⟨_,rfl⟩,q⟩) o
theorem zV(its:yB)(n j:Nat)(u:yT):dG (·.setIfInBounds j u) { cls:=.type "list",data:=.seq its.toArray n }={ cls:=.type "list",data:=.seq (its.set j u).toArray n }:=by simp[dG]
theorem ZP.lst{Z:St}(I:ZP X c Z H s)(h:H p=Z9 (.lst xs)):
  ∃(its:yB) (n:Nat),ZK xs its/\s.heap.get? p=Z9 { cls:=.type "list",data:=.seq its.toArray n }/\xs.length<=sizeLine:=by obtain⟨z,its,n,r,e⟩:=I.hok p _ h;exact⟨its,n,r,e,z⟩
theorem ZP.lstUpd{Z:St}{its its':yB}(I:ZP X c Z H s)(h:H p=Z9 (.lst xs))
  (j:s.heap.get? p=Z9 { cls:=.type "list",data:=.seq its.toArray n }) (g:f { cls:=.type "list",data:=.seq its.toArray n }={ cls:=.type "list",data:=.seq its'.toArray d }) (r:ZK ys its') (i:ys.length<=yW) (t:Nat) :
  ZP X c Z (ZE H p (.lst ys)) { s with heap:=s.heap.update p f,toks:=t }:=by
 have e:(s.heap.update p f).get? p=Z9 { cls:=.type "list",data:=.seq its'.toArray d }:=by rw[qD3 f j (by rw[g]<;>rfl),g]
 refine I.write (by rw[h];trivial) (.inl rfl) (λb u k q=>(qC8 _ _ (Ne.symm k)).trans q) ⟨_,e⟩ ?_;exact⟨i,its',d,r,e⟩
def zU:V->V->V->Hp->(Hp->Prop)->Prop:=λo i v H Q=>∃p c k j,o=.ref p/\i=.int k/\H p=Z9 (.lst c)/\V6 c.length k=Z9 j/\Q (ZE H p (.lst (c.set j v)))
theorem zT:Vk X zU:=by
 intro x s Z H o i v F E u Q I C B A h;obtain⟨p,G,k,j,rfl,rfl,g,D,q⟩:=h;cases C;obtain⟨t,rfl⟩:=B;obtain⟨c,n,r,f,z⟩:=I.lst g;obtain⟨d,K,y,l⟩:=G9 D;have e:=r.length;have J:=Rb;have m :=
  I.lstUpd g f (zV c n j u) (r.set A j) (by rw[qG0];exact z) s.toks
 by_cases w:0<=k
 .have hk:=by rw[uB w l]at d;exact Option.some.inj d
  exact W.ki_setAt f w (by lia) (by rw[qB4,<- e];exact l) (by rw[hk];exact⟨_,m,q⟩)
 .have hk:(k+c.toArray.size).toNat=j:=by rw[dO (by lia) y]at d;rw[qB4,<- e];exact Option.some.inj d
  exact W.ki_setBack f (by lia) (by rw[qB4,<- e];exact y) (by lia) (by rw[hk];exact⟨_,m,q⟩)
theorem zS(lo hi:yG)(n:Nat):(wT lo hi Z8 n).1=((HT.sIx n 0 lo:Nat):Int)/\(wT lo hi Z8 n).2.1=((HT.sIx n n hi:Nat):Int)/\(wT lo hi Z8 n).2.2=1:=by
 refine⟨?_,?_,rfl⟩
 .cases lo with
  |none=>simp[wT,HT.sIx]
  |some i =>
   simp only[wT,HT.sIx,qN3,show(1:Int)>0 by decide,if_true];by_cases h:i<0
   .simp only[h,if_true]<;>lia
   .simp only[h,if_false]<;>lia
 .cases hi with
  |none=>simp[wT,HT.sIx]
  |some i =>
   simp only[wT,HT.sIx,qN3,show(1:Int)>0 by decide,if_true];by_cases h:i<0
   .simp only[h,if_true]<;>lia
   .simp only[h,if_false]<;>lia
theorem zR(its:yB)(lo hi:yG):slicePick its.toArray lo hi Z8=((its.drop (HT.sIx its.length 0 lo)).take (HT.sIx its.length its.length hi - HT.sIx its.length 0 lo)).toArray:=by obtain⟨e,c,d⟩:=zS lo hi its.toArray.size;unfold slicePick;rw[e,c,d];simp only[sliceRange_one,pick_run]<;>rfl
def LC(K:yP):V->yG->yG->Hp->VK->Prop:=λx lo d H Q=>∃a c,x=.ref a/\Ys K H a c/\∀p,H p=Z8->Q (.ref p) (ZE H p (.lst (W1 c lo d)))
theorem G8:Sl X (LC X.K):=by intro f s Z H x v u t lo g w Q I o m k l h;obtain⟨a,c,rfl,n,q⟩:=h;cases o;obtain⟨i,r,e,j⟩:=I.list n;have d:=r.length;refine⟨"list",_,slot_list_getitem.lookup,e.isList.typeIs,?_⟩;refine wpAny_getItem_list_slice e.isList m k l .none (by simp) ?_ (by rw[qB4]<;>lia);rw[zR,<- d];refine⟨.ref s.heap.objs.size,_,I.laid (t':=s.toks) (λb p q=>qA2 _ q) (qA4 _) ?_,rfl,q _ (I.hok.fresh (qA4 _))⟩;exact⟨qC6 (Ha c lo g) j,_,0,(r.drop (HT.sIx c.length 0 lo)).take (HT.sIx c.length c.length g - HT.sIx c.length 0 lo),qB5 _ rfl⟩
def UT:V->Bool
 |.non=>Z7
 |.bl _=>Z7
 |.int _=>Z7
 |.str _=>Z7
 |_=>Z5
def Tr:V->V->Bool
 |.non,.non=>Z7
 |.bl a,.bl b=>a == b
 |.bl a,.int b=>(if a then 1 else 0) == b
 |.int a,.bl b=>a == (if b then 1 else 0)
 |.int a,.int b=>a == b
 |.str a,.str b=>a == b
 |_,_=>Z5
theorem zQ(e:ZF y u)(c:ZF x v)(g:UT y=Z7)(f:UT x=Z7):SeqAt.EqAt A s u v (Tr y x):=by
 cases y with
 |non =>
  cases e;cases x with
  |non=>cases c;exact SeqAt.EqAt.same _
  |bl b=>cases c;exact SeqAt.EqAt.none_bool b
  |int b=>obtain⟨t,rfl⟩:=c;exact SeqAt.EqAt.none_int b t
  |str b=>obtain⟨t,rfl⟩:=c;exact SeqAt.EqAt.none_str b t
  |_=>exact absurd (show Z5=Z7 from f) qB0
 |bl a =>
  cases e;cases x with
  |non=>cases c;exact SeqAt.EqAt.bool_none a
  |bl b=>cases c;exact SeqAt.EqAt.bool_bool a b
  |int b=>obtain⟨t,rfl⟩:=c;exact SeqAt.EqAt.bool_int a b t
  |str b=>obtain⟨t,rfl⟩:=c;exact SeqAt.EqAt.bool_str a b t
  |_=>exact absurd (show Z5=Z7 from f) qB0
 |int a =>
  obtain⟨d,rfl⟩:=e;cases x with
  |non=>cases c;exact SeqAt.EqAt.int_none a d
  |bl b=>cases c;exact SeqAt.EqAt.int_bool a d b
  |int b=>obtain⟨t,rfl⟩:=c;exact SeqAt.EqAt.int_int a d b t
  |str b=>obtain⟨t,rfl⟩:=c;exact SeqAt.EqAt.int_str a d b t
  |_=>exact absurd (show Z5=Z7 from f) qB0
 |str a =>
  obtain⟨d,rfl⟩:=e;cases x with
  |non=>cases c;exact SeqAt.EqAt.str_none a d
  |bl b=>cases c;exact SeqAt.EqAt.str_bool a d b
  |int b=>obtain⟨t,rfl⟩:=c;exact SeqAt.EqAt.str_int a d b t
  |str b=>obtain⟨t,rfl⟩:=c;exact SeqAt.EqAt.str_str a d b t
  |_=>exact absurd (show Z5=Z7 from f) qB0
 |_=>exact absurd (show Z5=Z7 from g) qB0
def Wl(x:V)(u:yT):Bool:=match u with
 |.none=>Tr .non x
 |.bool b=>Tr (.bl b) x
 |.int i _=>Tr (.int i) x
 |.str z _=>Tr (.str z) x
 |_=>Z5
theorem G7(r:ZF y u)(f:UT y=Z7):Wl x u=Tr y x:=by
 cases y with
 |non=>cases r;rfl
 |bl b=>cases r;rfl
 |int i=>obtain⟨t,rfl⟩:=r;rfl
 |str z=>obtain⟨t,rfl⟩:=r;rfl
 |_=>exact absurd (show Z5=Z7 from f) qB0
theorem Qd{x:V}:∀{xs:List V}{us:yB},ZK xs us->xs.all UT=Z7->us.any (Wl x)=xs.any λy=>Tr y x
 |_,_,.nil,_=>rfl
 |y::xs,u::us,.cons r t,f=>by rw[qH7,qB3]at f;rw[qH0,qH0,G7 r f.1,Qd t f.2]
theorem Qc{A:jE}{s:yR}{x:V}{v:yT}(e:ZF x v)(d:UT x=Z7):∀{xs:List V}{us:yB},ZK xs us->xs.all UT=Z7->∀u∈us,SeqAt.EqAt A s u v (Wl x u)
 |_,_,.nil,_=>λu c=>by cases c
 |y::xs,u::us,.cons r t,f=>λg c=>by
  rw[qH7,qB3]at f;rcases qA8.mp c with rfl|c
  .rw[G7 r f.1];exact zQ r e f.1 d
  .exact Qc e d t f.2 g c
def N7(x:V)(xs:List V):Bool:=xs.any λy=>Tr y x
def LB(K:yP)(neg:Bool):R2:=λx y H Q=>∃p c,y=.ref p/\(Ys K H p c∨Zb K H p c)/\UT x=Z7/\c.all UT=Z7/\Q (.bl (if neg then !N7 x c else N7 x c)) H
theorem zP:Y3 X (y8 .In) (LB X.K Z5):=by
 intro g s Z H x y v u Q I i l h;obtain⟨p,m,rfl,d,j,fs,q⟩:=h;cases l;rcases d with d|d
 .obtain⟨c,r,e,k⟩:=I.list d;refine SeqAt.in_listAt (Wl x) e.isList (λw f=>Qc i j r fs w (by simpa using f)) ⟨.bl _,H,I,rfl,?_⟩;rw[show c.toArray.any (Wl x)=c.any (Wl x) by simp,Qd r fs];exact q
 .obtain⟨c,r,e,k⟩:=I.tuple d;refine SeqAt.in_tupleAt (Wl x) e (λw f=>Qc i j r fs w (by simpa using f)) ⟨.bl _,H,I,rfl,?_⟩;rw[show c.toArray.any (Wl x)=c.any (Wl x) by simp,Qd r fs];exact q
theorem zO:Y3 X (y8 .NotIn) (LB X.K Z7):=by
 intro g s Z H x y v u Q I i l h;obtain⟨p,m,rfl,d,j,fs,q⟩:=h;cases l;rcases d with d|d
 .obtain⟨c,r,e,k⟩:=I.list d;refine SeqAt.notIn_listAt (Wl x) e.isList (λw f=>Qc i j r fs w (by simpa using f)) ⟨.bl _,H,I,rfl,?_⟩;rw[show c.toArray.any (Wl x)=c.any (Wl x) by simp,Qd r fs];exact q
 .obtain⟨c,r,e,k⟩:=I.tuple d;refine SeqAt.notIn_tupleAt (Wl x) e (λw f=>Qc i j r fs w (by simpa using f)) ⟨.bl _,H,I,rfl,?_⟩;rw[show c.toArray.any (Wl x)=c.any (Wl x) by simp,Qd r fs];exact q
theorem G6:X1 X (.builtin "len") (λxs H Q=>∃p ys,xs=[.ref p]/\(Ys X.K H p ys∨Zb X.K H p ys)/\Q (.int ys.length) H):=by
 intro i s Z H xs l Q I r h;obtain⟨p,ys,rfl,d,q⟩:=h;obtain⟨u,rfl,k⟩:=WG r;cases k;have m:=Rb;rcases d with d|d
 .obtain⟨e,g,f,j⟩:=I.list d;have c:=g.length;exact Calls.call_len_list f.isList (by simp only[qB4]<;>lia) ⟨.int ys.length,H,I.tok _,⟨s.toks+1,by rw[qB4,c]⟩,q⟩
 .obtain⟨e,g,f,j⟩:=I.tuple d;have c:=g.length;exact len_tuple f (by simp only[qB4]<;>lia) ⟨.int ys.length,H,I.tok _,⟨s.toks+1,by rw[qB4,c]⟩,q⟩
theorem zN:X1 X (.builtin "len") (λxs H Q=>∃z,xs=[.str z]/\z.length<=yW/\Q (.int z.length) H):=by intro c s Z H xs f Q I r h;obtain⟨z,rfl,e,q⟩:=h;obtain⟨u,rfl,t,rfl⟩:=WG r;have d:=Rb;exact len_str (by lia) ⟨.int z.length,H,I.tok _,⟨_,rfl⟩,q⟩
theorem zM:X1 X (.type "list") (λxs H Q=>∃p ys,xs=[.ref p]/\(Ys X.K H p ys∨Zb X.K H p ys)/\∀l,H l=Z8->Q (.ref l) (ZE H l (.lst ys))):=by
 intro m s Z H xs B Q I r h;obtain⟨p,ys,rfl,j,q⟩:=h;obtain⟨u,rfl,A⟩:=WG r;cases A;have t:∀c,ZK ys c->ys.length<=yW->∀d f,(∀b z,s.heap.get? b=Z9 z->d.get? b=Z9 z) ->
   d.get? s.heap.objs.size=Z9 { cls:=.type "list",dict:=Z8,data:=.seq c.toArray f,slots:=#[] }->EP X m Z Q (.ref s.heap.objs.size) { s with heap:=d }:=λc g i d f kp e =>
  ⟨.ref s.heap.objs.size,_,I.laid (t':=s.toks) kp (qA4 _) (show XR X.prog X.w _ d _ (.lst ys)from⟨i,c,f,g,e⟩),rfl,q _ (I.hok.fresh (qA4 _))⟩
 rcases j with j|j
 .obtain⟨c,g,v,i⟩:=I.list j;have k:=g.length;obtain⟨o,w,y,n,x⟩:=v.isList;exact call_list_seq p (.inl rfl) w y x (λd f kp e=>t c g i d f kp e) (by simp only[qB4]<;>lia)
 .obtain⟨c,g,v,i⟩:=I.tuple j;have k:=g.length;obtain⟨o,w,y,n,x⟩:=v;exact call_list_seq p (.inr rfl) w y x (λd f kp e=>t c g i d f kp e) (by simp only[qB4]<;>lia)
theorem G5:X1 X (.type "tuple") (λxs H Q=>∃p ys,xs=[.ref p]/\((Ys X.K H p ys/\∀l,H l=Z8->Q (.ref l) (ZE H l (.tup ys)))∨(Zb X.K H p ys/\Q (.ref p) H))):=by
 intro m s Z H xs w Q I r h;obtain⟨p,ys,rfl,h⟩:=h;obtain⟨u,rfl,v⟩:=WG r;cases v;rcases h with⟨f,q⟩| ⟨f,q⟩
 .obtain⟨c,g,d,i⟩:=I.list f;have k:=g.length;refine call_tuple_list d.isList (λt kp=>?_) (by simp only[qB4]<;>lia);have j:=I.kept (t':=s.toks) kp;have n :=
   j.laid (t':=s.toks) (λb o e=>qA2 _ e) (qA4 _) (show XR X.prog X.w _ _ _ (.tup ys)from⟨i,c,g,IsTup.new _ _⟩)
  exact⟨.ref t.objs.size,_,n,rfl,q _ (j.hok.fresh (qA4 _))⟩
 .obtain⟨c,g,d,i⟩:=I.tuple f;exact call_tuple_same d ⟨.ref p,H,I,rfl,q⟩
def N6(K:yP)(T:String)(x:V)(H:Hp):Prop:=match x with
 |.str _=>T = "str"
 |.int _=>T = "int"
 |.ref p=>(T = "list"/\∃d,Ys K H p d)∨(T = "tuple"/\∃o,K.lookup p=Z9 o/\o.cls=.type "tuple"/\o.dict=Z8) ∨
   (T = "dict"/\((∃c,H p=Z9 (.dK c))∨∃c,H p=Z9 (.dT c)))∨(T = "set"/\∃S n,H p=Z9 (.set S n))
 |_=>False
theorem G4{Z:St}(I:ZP X d Z H s)(r:ZF x v)(f:N6 X.K T x H):
  s.TypeIs v T/\∀a,v=.ref a->∃k,s.heap.get? a=Z9 k/\k.dict=Z8:=by
 cases x with
 |str z =>
  obtain⟨t,rfl⟩:=r;cases (show T = "str" from f);exact⟨vR s z t,λ_ e=>nomatch e⟩
 |int i =>
  obtain⟨t,rfl⟩:=r;cases (show T = "int" from f);exact⟨typeIs_int s i t,λ_ e=>nomatch e⟩
 |ref p =>
  cases r;rcases f with⟨rfl,w,q⟩| ⟨rfl,o,hk,u,j⟩| ⟨rfl,hk⟩| ⟨rfl,S,n,hk⟩
  .obtain⟨m,_,l,_⟩:=I.list q;refine⟨l.isList.typeIs,λa e=>?_⟩;cases e;obtain⟨o,n,e,c,j,_⟩:=l;exact⟨o,e,j⟩
  .refine⟨⟨o,I.kIn p o hk,u⟩,λa e=>?_⟩;cases e;exact⟨o,I.kIn _ o hk,j⟩
  .have z:∃o,s.heap.get? p=Z9 o/\o.ExactDict:=by
    rcases hk with⟨g,hk⟩| ⟨g,hk⟩
    .obtain⟨_,_,_,_,o,_,_,e,ex,_⟩:=I.hok p _ hk;exact⟨o,e,ex⟩
    .obtain⟨_,_,_,_,o,_,_,e,ex,_⟩:=I.hok p _ hk;exact⟨o,e,ex⟩
   obtain⟨o,e,ex⟩:=z;refine⟨⟨o,e,ex.1⟩,λa h=>?_⟩;cases h;exact⟨o,e,ex.2.1⟩
  .obtain⟨o,_,_,_,e,ex,_⟩:=I.hok p _ hk;refine⟨⟨o,e,ex.1⟩,λa h=>?_⟩;cases h;exact⟨o,e,ex.2.1⟩
 |_=>exact False.elim f
def LA(K:yP)(T:String)(r:V->List V->Hp->VK->Prop)(d:TE):TE:=fun Z H Q=>d Z H λx c=>N6 K T x c/\r x [] c Q
def zL(K:yP)(T:String)(r:V->List V->Hp->VK->Prop)(d:TE)(t:TA):TE:=fun Z H Q=>d Z H λx c=>N6 K T x c/\t Z c λe f=>r x e f Q
variable {o e:yV}{es:yE}{to:TE}{t:TA}{name:Str}{apos cpos:Pos}{T id:String}{r:V->List V->Hp->VK->Prop}
theorem zK(q:dH T)(g:Slot T name id)(i:dX (.builtin id)=pure (.type "method_descriptor"))(l:Q9 X id r)(u:PE X o to)
  (f:vB o name X.env (jU o X.env)=jU o X.env:=by rfl) (d:(apos.endLine == cpos.line)=Z7:=by rfl):PE X (.Call (.Attribute o name apos) [] [] cpos) (LA X.K T r to):=by intro c s Z H Q I h;refine wpAny_Call_method0_late f d (Zx (u c s Z H _ I h) λv w ⟨x,n,k,j,m,p⟩=>?_);obtain⟨y,z⟩:=G4 k j m;exact⟨T,id,q,g,i,y,z,wY rfl (PySem.evalArgs_none (l c w Z n x [] v [] Q k j .nil p))⟩
theorem zJ(F:dH T)(i:Slot T name id)(k:dX (.builtin id)=pure (.type "method_descriptor"))(z:Q9 X id r)(G:PE X o to)(u:PA X (e::es) t)
  (g:vB o name X.env (jU o X.env)=jU o X.env:=by rfl)
  (j:((vC cpos (y7 (e::es) X.env)).all (λx=>!x.1)&&(wF cpos (j6 [] X.env)).all (λx=>x.1.isSome)
   && decide ((e::es).length+([]:List vV).length+(if([]:List vV).isEmpty then 0 else 1)<30))=Z7:=by rfl)
  (f:(apos.endLine == cpos.line)=Z7:=by rfl) (C:y7 (e::es) X.env=(Z5,jU e X.env)::y7 es X.env:=by rfl) (d:(vC cpos (y7 es X.env)).any (·.1)=Z5:=by rfl) :
  PE X (.Call (.Attribute o name apos) (e::es) [] cpos) (zL X.K T r to t):=by intro c s Z H Q I h;refine lU g j f rfl (Zx (G c s Z H _ I h) λv K ⟨x,D,n,m,A,E⟩=>?_);obtain⟨L,M⟩:=G4 n m A;refine⟨T,id,F,i,k,L,M,?_⟩;have l:=u cpos c K Z D _ n E;rw[C]at l ⊢;refine wY (by show(Z5||(vC cpos (y7 es X.env)).any (·.1))=Z5;rw[d]<;>rfl) (fS ?_);exact Zx l λy q ⟨p,w,B,J,N⟩=>z c q Z w x p v y Q B m J N
end
def Vh(X:Cx)(id:String)(r:V->List V->Hp->VK->Prop):Prop :=
 ∀(a:yD) (s:yR) (Z:St) (H:Hp) (x:V) (b:List V) (v:yT) (c:yB) (Q:VK),ZP X a Z H s->ZF x v->ZK b c->r x b H Q ->
  yZ (yX X.prog X.w) X.A (call (.builtin id) (v::c)) (EP X a Z Q) X.xe s
theorem ZK.cinv:∀{us:yB},ZK (x::xs) us->∃u r,us=u::r/\ZF x u/\ZK xs r
 |_,.cons r t=>⟨_,_,rfl,r,t⟩
theorem ZK.ninv:∀{us:yB},ZK [] us->us=[]
 |_,.nil=>rfl
theorem ZK.one(h:ZK [x] us):∃u,us=[u]/\ZF x u:=by obtain⟨u,r,rfl,a,t⟩:=h.cinv;rw[t.ninv];exact⟨u,rfl,a⟩
theorem ZK.two(h:ZK [x,y] us):∃u v,us=[u,v]/\ZF x u/\ZF y v:=by obtain⟨u,r,rfl,a,t⟩:=h.cinv;obtain⟨v,rfl,b⟩:=t.one;exact⟨u,v,rfl,a,b⟩
theorem ZK.zero:∀{us:yB},ZK [] us->us=[]
 |_,.nil=>rfl
theorem ZK.dropLast(h:ZK xs us):ZK xs.dropLast us.dropLast:=by
 induction h with
 |nil=>exact .nil
 |cons r t a =>
  cases t with
  |nil=>exact .nil
  |cons q b=>exact .cons r a
theorem ZK.rep(h:ZK xs us):∀k:Nat,ZK (qC3 k xs).flatten (qC3 k us).flatten
 |0=>.nil
 |k+1=>by exact ZK.append h (ZK.rep h k)
theorem G3(its:yB):∀(k:Nat) (acc:yB),
  qO5 (λc b=>c++b) acc.toArray (qC3 k its.toArray)=(acc++(qC3 k its).flatten).toArray
 |0,acc=>by simp
 |k+1,acc=>by
  have e:acc.toArray++its.toArray=(acc++its).toArray:=by simp
  have a:(acc++its)++(qC3 k its).flatten=acc++(qC3 (k+1) its).flatten:=by rw[qM0,qN0,qD8]
  rw[<- a,<- G3 its k (acc++its),<- e,qM0,qO1]
section
variable {X:Cx}{pins:yD}{Z:St}{H:Hp}{s:yR}{l b:yQ}{xs ys zs:List V}
theorem ZP.lset{its its':yB}{f:yJ->yJ}(I:ZP X pins Z H s)(c:H l=Z9 (.lst xs))
  (e:s.heap.get? l=Z9 { cls:=.type "list",data:=.seq its.toArray n }) (a:f its.toArray=its'.toArray) (g:ZK ys its') (i:ys.length<=yW) :
  ZP X pins Z (ZE H l (.lst ys)) { s with heap:=s.heap.update l (dG f),toks:=t' }:=by have q:=PySem.IsL.update e f;rw[a]at q;refine I.write (by rw[c];exact trivial) (.inl rfl) (λj u h d=>(qC8 s.heap (dG f) (Ne.symm h)).trans d) ⟨_,q⟩ ?_;exact⟨i,its',_,g,q⟩
theorem ZP.lnew(I:ZP X pins Z H s)(a:ZK ys its)(c:ys.length<=yW):
  ZP X pins Z (ZE H s.heap.objs.size (.lst ys)) { s with heap:=s.heap.push { cls:=.type "list",data:=.seq its.toArray },toks:=t' } :=
 I.laid (λ_ _ q=>qA2 _ q) (qA4 _) ⟨c,its,0,a,qB5 _ rfl⟩
theorem ZP.fresh(I:ZP X pins Z H s):H s.heap.objs.size=Z8:=I.hok.fresh (qA4 _)
theorem ZP.lstM(I:ZP X pins Z H s)(a:H l=Z9 (.lst xs)):xs.length<=yW/\∃(its:yB) (n:Nat),ZK xs its/\xs.length=its.length/\s.heap.get? l=Z9 { cls:=.type "list",data:=.seq its.toArray n }:=by obtain⟨z,its,n,r,e⟩:=I.hok l _ a;exact⟨z,its,n,r,r.length,e⟩
theorem zI(h:n<=yW):Builtin.List.listTooLong n=Z5:=by exact decide_eq_false (by lia)
end
section
variable {X:Cx}
def zH:V->List V->Hp->VK->Prop:=λx b H Q=>∃l a y,x=.ref l/\b=[y]/\H l=Z9 (.lst a)/\a.length<yW/\Q .non (ZE H l (.lst (a++[y])))
theorem Lz:Vh X "list.append" zH:=by
 intro c s Z H x i v m Q I g f h;obtain⟨l,o,y,rfl,rfl,b,j,q⟩:=h;cases g;obtain⟨u,rfl,d⟩:=f.one;obtain⟨z,a,n,r,k,e⟩:=I.lstM b;refine vF F.slot_list_append ⟨_,e,rfl⟩ F.entry_list_append (F.args_list_append_2 _ _) (PySem.list_append l a.toArray n u (by rw[qB4];lia)) ⟨e,?_⟩;refine⟨.non,_,I.lset (its':=a++[u]) b e (by simp) (r.append (.cons d .nil)) ?_,rfl,q⟩;rw[qC4,qI0]
 lia
def Ly:V->List V->Hp->VK->Prop:=λx b H Q=>∃l a y,x=.ref l/\b=[]/\H l=Z9 (.lst a)/\a[a.length - 1]?=Z9 y/\Q y (ZE H l (.lst a.dropLast))
theorem zG:Vh X "list.pop" Ly:=by
 intro f s Z H x p v t Q I o m h;obtain⟨l,w,y,rfl,rfl,d,k,q⟩:=h;cases o;have b:=m.zero;subst b;obtain⟨z,a,n,r,j,e⟩:=I.lstM d;obtain⟨u,g,i⟩:=r.get k;have c:=by show a.toArray[a.length - 1]?=Z9 u;rw[<- vJ,<- j];exact g
 refine vF F.slot_list_pop ⟨_,e,rfl⟩ F.entry_list_pop (F.args_list_pop_1 _) (MeetsSeq.list_pop_last l a.toArray n u c (by rw[qB4];lia)) ⟨e,?_⟩;refine⟨y,_,I.lset (its':=a.dropLast) d e ?_ r.dropLast ?_,i,q⟩
 .simp_all
 .rw[List.length_dropLast]
  lia
def Lx:R2:=λx y H Q=>∃l b c a,x=.ref l/\y=.ref b/\H l=Z9 (.lst c)/\H b=Z9 (.lst a)/\c.length+a.length<=yW/\∀p,H p=Z8->Q (.ref p) (ZE H p (.lst (c++a)))
theorem zF:Y3 X (jG .Add) Lx:=by
 intro d s Z H x y v u Q I p k h;obtain⟨l,b,A,D,rfl,rfl,j,f,t,q⟩:=h;cases p;cases k;obtain⟨z,c,n,r,w,e⟩:=I.lstM j;obtain⟨B,a,C,o,i,m⟩:=I.lstM f;refine PySem.P.add_list e m ?_ (by rw[qB4,qB4];lia);have g:c.toArray++a.toArray=(c++a).toArray:=by simp
 rw[g];exact⟨.ref _,_,I.lnew (t':=s.toks) (r.append o) (by rw[qC4];lia),rfl,q _ I.fresh⟩
def Lw:R2:=λx y H Q=>∃l k a,x=.ref l/\y=.int k/\H l=Z9 (.lst a)/\-(2 ^ 63)<=k/\k<2 ^ 63/\a.length*k.toNat<=yW /\
 ∀p,H p=Z8->Q (.ref p) (ZE H p (.lst (qC3 k.toNat a).flatten))
theorem zE{a:Type}(xs:List a)(k:Nat):(qC3 k xs).flatten.length=k*xs.length:=by simp_all
theorem zD:Y3 X (jG .Mult) Lw:=by
 intro w s Z H x y v u Q I K C h;obtain⟨l,k,L,rfl,rfl,B,E,G,p,q⟩:=h;cases K;obtain⟨t,rfl⟩:=C;obtain⟨z,b,n,r,A,e⟩:=I.lstM B;have d:b.toArray.size*k.toNat<=sizeLine:=by rw[qB4,<- A];exact p
 have i:¬b.toArray.size*k.toNat>(2 ^ 63 - 1) / 8:=by
  have:yW<=(2 ^ 63 - 1) / 8:=by decide
  lia
 have f:¬(!Builtin.List.listFitsIndex k)=Z7:=by rw[fitsIndex_both E G];exact qB0
 have c:¬Builtin.List.listTooLong (b.toArray.size*k.toNat)=Z7:=by rw[zI d];exact qB0
 have g:qO5 (λo j=>o++j) #[] (qC3 (if b.toArray.isEmpty=Z7 then 0 else k.toNat) b.toArray)=(qC3 k.toNat b).flatten.toArray:=by
  have J:∀m:Nat,qO5 (λo j=>o++j) #[] (qC3 m b.toArray)=(qC3 m b).flatten.toArray:=λm=>by have:=G3 b m [];exact this
  rw[J];cases b with
  |nil=>simp
  |cons a M=>rw[if_neg (by simp)]
 refine wpAny_binaryOp_repeat_ref (by decide) ⟨_,e,rfl⟩ (λD=>typeIs_int D k t) noFill_list_mul F.fills_int_mul F.slot_int_rmul repeat_list F.slot_int_index.lookup
  (vF F.slot_int_rmul (typeIs_int s k t) F.entry_int_rmul (F.args_int_rmul_2 _ _) (int___rmul___int_list k t l b.toArray n)
   ⟨e,rfl,⟨_,e,rfl⟩,vF F.slot_list_mul ⟨_,e,rfl⟩ F.entry_list_mul (F.args_list_mul_2 _ _) (AutoListH.list___mul___list_int_3 l b.toArray n k t f i c) ⟨e,?_⟩⟩)
 rw[g];exact⟨.ref _,_,I.lnew (t':=s.toks) (r.rep k.toNat) (by rw[zE,Nat.mul_comm];exact p),rfl,q _ I.fresh⟩
end
end Lake
namespace Lake.Att
open PySem PySem.W PySem.Calls PyProof.Rows
theorem zC:∀(ns:yA) (vs:yB),WellAll P h vs (ns.map WData.int)->mW vs ns:=by
 intro ns
 induction ns with
 |nil =>
  intro vs w;cases w;exact .nil
 |cons n ns c =>
  intro vs w;cases w with
  |cons a b =>
   cases a;exact .cons _ _ (c _ b)
theorem zB{l:OpenLaw}(p:l.most=Z9 n){b:yB}
  (c:l.row.toRowW.claim.pre args=Z7) (k:WellAll P h b args) :
  ∃a vs ns,b=[Value.ref a]/\args=[WData.list (ns.map WData.int)]/\h.get? a=Z9 { cls:=.type "list",data:=.seq vs.toArray }/\mW vs ns/\ns.length<=n:=by
 have j:WShape.hasAll [] args [.list .int]=Z7:=(pre_splitW c).1;have x:l.pre.holds [] { args:=args }=Z7:=(pre_splitW c).2;obtain⟨d,r,rfl,u,v⟩:=hasAllW_cons j;obtain rfl:=hasAllW_nil v;obtain⟨y,rfl,t⟩:=hasW_list u;obtain⟨ns,rfl⟩:=items_int t;have f:ns.length<=n:=by
  have g:=by have g:=(holds_andW x).1;rw[p]at g;exact g
  have i:=condW_of g (w_not (w_lt w_lit (w_len_list (w_arg rfl))));rw[qA6]at i;refine qK2 λq=>?_;have o:n<(ns.length:Int):=by omega
  first
   |(rw[decide_eq_true o]at i;exact absurd i (by decide))
   |(simp at i)
 cases k with
 |cons w m =>
  cases m;cases w with
  |list s e=>exact⟨_,_,ns,rfl,rfl,s,zC ns _ e,f⟩
theorem zA(l:OpenLaw)(a:List WData):l.row.toRowW.claim.post a (.bool Z7) a=Z7 :=
 postW_of
  (by first|rfl|decide|simp[WShape.arms])
  (w_eq_bool (w_res rfl) w_lit) rfl
theorem attach_call{l:OpenLaw}{c:yH}{F:(Str->yF)->jB->Prop}
  (L:l.most=Z9 n) (u:d.params.defaults=[])
  (call:∀(w:jC) (e b:yR) (p t:Str->yF) (i:yQ) (o:Obj) (x s h:yT) (a:yQ) (vs:yB) (ns:yA),
   Ground q c [] F w e p t b.heap->A w b.heap ->
   b.heap.get? i=Z9 o->o.data=.func (docDef d.name d.params d.body d.scope x s h)->b.heap.CodeRec s d.name->p d.name=Z9 (.ref i) ->
   b.heap.get? a=Z9 { cls:=.type "list",data:=.seq vs.toArray }->mW vs ns->ns.length<=n->b.gens=#[] ->
   vO (yX l.prog w) lV (.call (.ref i) ⟨[.ref a],[]⟩) (λr s'=>r=.ok (.ret (.bool Z7))/\OldK b.heap s'.heap/\s'.os=b.os/\wO s'.gens) b) :
  WalkO q c F A l.row.toRowW d [] (λf vs=>PySem.call f vs):=by intro w e b p t G Y i o x s h N kV M Q y D v S E B T j C H z P;obtain rfl:N=.none:=Dflts.none D u;obtain rfl:kV=.none:=Dflts.noKw D;obtain⟨a,vs,ns,rfl,rfl,m,g,k⟩:=zB L j z;refine enter_call (wW (call w e b p t i o x s h a vs ns G Y M (fd_plain Q) y v m g k S) λr s' K=>?_);obtain⟨rfl,R,O,I⟩:=K;exact⟨.inl ⟨.bool Z7,.bool Z7,[],rfl,λ_=>rfl,.bool Z7,zA l _,λ_=>⟨List.Pairwise.nil,λ_ J=>(nomatch J)⟩⟩,R,O,I⟩
end Lake.Att
namespace Lake
open PySem PySem.Spec PyProof.Rows
theorem G2:∀{vs:yB}{ns:yA},mW vs ns->ZK (ns.map V.int) vs
 |_,_,.nil=>.nil
 |_,_,.cons n t h=>.cons ⟨t,rfl⟩ (G2 h)
def Ux(H:Hp):Prop:=∀b,H b=Z8∨∃o a,H b=Z9 (.frz o (.lst a))
theorem zy{K:yP}{t M:Str->yF}{vs:yB}{ns:yA}
  (X:K.In s₁.heap) (y:s₁.heap.Ns y9 t) (f:s₁.heap.Ns dF M) (R:∀x:Str,x ≠ "__name__"->M x=jF x) (G:s₁.heap.NoLimit) (hg:s₁.gens=#[])
  (I:s₁.heap.get? a=Z9 { cls:=.type "list",data:=.seq vs.toArray }) (hi:mW vs ns) (W:ns.length<=yW) (hr:Zr k lV)
  (F:∀base:jB,K.In base->base.Ns y9 t->YO P w K t base CX k L U [x] sp) (j:∀(s:yR) (u:yT),dM s U ⟨[u],[]⟩ [(x,u)])
  (N:∀H:Hp,Ux H->Ys K H a (ns.map V.int)->sp [.ref a] H (λv _=>v=.bl Z7) λ_ _ _=>False)
  (Q:∀H e s',CX [] H s₁ (λ_ _ _=>False) e s'->False) :
  vO (yX P w) lV (.call (.ref L) ⟨[.ref a],[]⟩) (λr s'=>r=.ok (.ret (.bool Z7))/\OldK s₁.heap s'.heap/\s'.os=s₁.os/\wO s'.gens) s₁:=by
 have Y:=G2 hi;have D:=hi.length;have i:∀H:Hp,Ux H->Ys K H a (ns.map V.int)->YB P w H s₁.heap->(∀b,H b≠Z8->b=a)->(H a≠Z8->K.lookup a=Z8) ->
   vO (yX P w) lV (.call (.ref L) ⟨[.ref a],[]⟩) (λr s'=>r=.ok (.ret (.bool Z7))/\OldK s₁.heap s'.heap/\s'.os=s₁.os/\wO s'.gens) s₁:=by
  intro H Z hS E S hK;have c:∀{b:yQ}{o:Obj},s₁.heap.get? b=Z9 o->H b=Z8->(W2 s₁.heap H).get? b=Z9 o:=λe n=>B9 e n;have O:∀{b:yQ}{o:Obj}{A:Array wH}{ep:Nat},s₁.heap.get? b=Z9 o->o.data=.dict A ep->H b=Z8:=λ{b o A ep} e d=>by
   cases q:H b with
   |none=>rfl
   |some u =>
    have J:b=a:=S b (by rw[q];simp);subst J;rw[I]at e;cases e;have d':Data.seq vs.toArray _=Data.dict A ep:=d;cases d'
  have g:∀{b:yQ}{m:Str->yF},s₁.heap.Ns b m->(W2 s₁.heap H).Ns b m:=λ{b m} ⟨o,A,ep,e,d,r⟩=>⟨o,A,ep,c e (O e d),d,r⟩
  have C:K.In (W2 s₁.heap H):=λb o e=>c (X b o e) (by
   cases q:H b with
   |none=>rfl
   |some u =>
    have J:b=a:=S b (by rw[q];simp);subst J;rw[hK (by rw[q];simp)]at e;cases e)
  have hM:Mod K t (W2 s₁.heap H):=⟨C,g y,⟨M,g f,R⟩,let ⟨mc,h1,h2⟩:=G;⟨mc,g h1,h2⟩⟩
  have e0:WC P w K t (W2 s₁.heap H) lV [] s₁ H:=⟨rfl,hM,λb o e=>B8 e,qK6 (Ca _ _),trivial,λb f=>absurd (show b∈([]:yC)from f) (by simp),E,.of_eq hg⟩
  refine wW ((F _ C (g y)).run lV [] s₁ H ⟨[.ref a],[]⟩ [.ref a] [.ref a] _ _ hr e0 (j s₁ (.ref a)) (.cons rfl .nil) (N H Z hS)) λr s' h=>?_;cases r with
  |error e=>exact(Q H e s' h).elim
  |ok fl =>
   cases fl with
   |next=>exact False.elim h
   |brk=>exact False.elim h
   |cont=>exact False.elim h
   |ret u =>
    obtain⟨v,H',os,l,un,p,r',q⟩:=h;have q':v=.bl Z7:=q;subst q';obtain rfl:u=Value.bool Z7:=r';refine⟨rfl,OldK.of_keep λb o e=>?_,os,l⟩;cases q:H b with
    |none=>exact un.keep b o e q (by intro z;exact absurd (show b∈([]:yC)from z) (by simp)) (by simp)
    |some u =>
     rcases Z b with z|⟨ob,xs,z⟩
     .rw[q]at z;cases z
     .have z2:=un.frzs b ob _ z;obtain⟨T,_⟩:=E b _ z;obtain⟨e2,_⟩:=p b _ z2;rw[e]at T;cases T;exact e2
 cases hk:K.lookup a with
 |some o =>
  have e:=X a o hk;rw[I]at e;cases e;refine i (λ_=>Z8) (λ_=>.inl rfl) (.inr ⟨_,vs.toArray,_,hk,rfl,rfl,rfl,by rw[qB4,D];exact W,by simpa using Y⟩) (λb u z=>by have B:(Z8:Option HO)=Z9 u:=z;cases B) (λb z=>absurd rfl z) λz=>absurd rfl z
 |none =>
  refine i (λb=>if b=a then Z9 (.frz { cls:=.type "list",data:=.seq vs.toArray } (.lst (ns.map V.int)))else Z8) (λb=>?_) (.inl (.inr ⟨{ cls:=.type "list",data:=.seq vs.toArray },if_pos rfl⟩)) (λb u z=>?_) (λb z=>?_) λ_=>hk
  .by_cases f:b=a
   .exact .inr ⟨_,_,if_pos f⟩
   .exact .inl (if_neg f)
  .by_cases f:b=a
   .have B:=(if_pos f).symm.trans z;cases B;subst f;exact⟨I,by rw[qA6];exact W,vs,_,Y,I⟩
   .have B:=(if_neg f).symm.trans z;cases B
  .by_cases f:b=a
   .exact f
   .exact absurd (if_neg f) z
theorem walk_of{l:W.OpenLaw}{g:yH}{T:(Str->yF)->jB->Prop}{K:Params->yP}{CX:jC->VS}{sp:jC->Sp}
  (J:l.most=Z9 n) (z:n<=yW) (t:d.params.defaults=[]) (M:Zr k lV)
  (R:∀(w:jC) (h:jB),C w h->(K w.params).In h)
  (F:∀(w:jC) (i:Str->yF) (p:yQ) (h:jB),(K w.params).In h->h.Ns y9 i->i d.name=Z9 (.ref p) ->
   ∃r:jT,(∀(s:yR) (u:yT),dM s r ⟨[u],[]⟩ [(x,u)]) /\
    ∀base:jB,(K w.params).In base->base.Ns y9 i->YO l.prog w (K w.params) i base (CX w) k p r [x] (sp w))
  (y:∀(w:jC) (H:Hp) (a:yQ) (ns:yA),ns.length<=n->Ux H->Ys (K w.params) H a (ns.map V.int)->sp w [.ref a] H (λv _=>v=.bl Z7) λ_ _ _=>False)
  (B:∀(w:jC) (H:Hp) (s:yR) (e:yT) (s':yR),CX w [] H s (λ_ _ _=>False) e s'->False) :
  W.WalkO q g T C l.row.toRowW d [] (λf vs=>PySem.call f vs):=by refine Att.attach_call J t λw E j i U p o pm Z Q a vs ns G Y X hd N A m c b S=>?_;have D:=R w _ Y;obtain⟨r,L,O⟩:=F w i p _ D G.T.g A;exact zy D G.T.g G.T.b G.T.builtins G.T.nolimit S m c (qC6 b z) M O L (λH P I=>y w H a ns b P I) λH e s'=>B w H j e s'
def Vu(s:jV):Arguments:=match s with
 |.FunctionDef _ a _ _ _ _ _ _ _ _=>a
 |_=>{ posonlyargs:=[],args:=[],vararg:=Z8,kwonlyargs:=[],kw_defaults:=[],kwarg:=Z8,defaults:=[] }
def X4(s:jV):List Stmt:=match s with
 |.FunctionDef _ _ b _ _ _ _ _ _ _=>b
 |_=>[]
def Zd(s:jV):Scope:=match s with
 |.FunctionDef _ _ _ _ _ _ a _ _ _=>a
 |_=>{ kind:=.function,names:=[],isGenerator:=Z5,isCoroutine:=Z5 }
abbrev US:VS:=λ_ _ _ _ _ _=>False
abbrev E0:XK:=λ_ _ _=>False
theorem zx:Wm US X E0:=λ_ _ _ _ _ _ _ h=>h.elim
structure WN(K:yP)(x qual:Str)(st:jV)(f:yQ)(fd:jT):Prop where
 ex:∃(oc:yT) (od:Option yQ) (kV doc pm:yT) (an:Option yQ) (cdv ct:yT) (osl:Array (yF)),
  fd=fI x qual (Vu st) (X4 st) (Zd st) .none kV doc pm an cdv ct/\K.lookup f=Z9 ⟨oc,od,.func fd,osl⟩/\lE K cdv qual=Z7
 kp:wE K (.ref f)=Z7
section
variable {P:yY}{w:jC}{K:yP}{mg:Str->yF}{base:jB}
theorem WN.ok{st:jV}(F:WN K x b st f i)(S:Sm N ps (Zd st))(len:∀vs H Q E,sp vs H Q E->vs.length=ps.length)
  (d:∀(c:yT) (A:jE) (a:List Env) (s:yR) (H:Hp) (vs:List V) (Q:VK) (E:XK),Zr k (A.deeper (lR b (Zd st) s.heap.objs.size f c))->sp vs H Q E ->
   ∃t,XH (XE US P w K mg base N b (Zd st) f c A a s H E).nox (X4 st) t/\t { nx:=λ_ j=>Q .non j,rt:=Q } (start N vs) H):YO P w K mg base US (k+1) f i ps sp:=by obtain⟨p,y,kV,o,v,u,c,r,m,rfl,n,g⟩:=F.ex;refine He n g S len λA a s H vs Q E l e=>?_;obtain⟨t,h,q⟩:=d c A a s H vs Q E l e;exact⟨t,h.nox,q⟩
theorem WN.binds{st:jV}(F:WN K x a st f i)
  (h:∀(kV c g:yT) (e:Option yQ) (b d:yT) (us:yB),us.length=ps.length->bindArgs (fI x a (Vu st) (X4 st) (Zd st) .none kV c g e b d) ⟨us,[]⟩=pure (ps.zip us)):WB K i ps []:=by obtain⟨l,n,kV,c,g,e,b,d,j,rfl,m,k⟩:=F.ex;exact .all (h kV c g e b d)
theorem Lv{st:jV}{e:Array (yF)}{kV d h b i:yT}(l:K.lookup f=Z9 ⟨j,m,.func (fI x a (Vu st) (X4 st) (Zd st) .none kV d h g b i),e⟩)
  (c:lE K b a=Z7) (k:wE K (.ref f)=Z7):WN K x a st f (fI x a (Vu st) (X4 st) (Zd st) .none kV d h g b i):=⟨⟨j,m,kV,d,h,g,b,i,e,rfl,l,c⟩,k⟩
end
theorem G1(a:Zr k A):A.units+1<cLine:=qJ4 (Nat.add_le_add_left (by decide:1<=64) _) a.units
theorem Lu(h:n<=1000):n<sizeLine:=qJ4 h (by decide)
def XP(H a:Hp):Prop:=∀b o,H b=Z9 o->a b=Z9 o
theorem XP.refl(H:Hp):XP H H:=λ_ _ h=>h
section
variable {κ:Type} [DecidableEq κ]
def Yd(kvs:List (κ×V))(k:κ):Option V:=(kvs.find? λa=>decide (a.1=k)).map (·.2)
def YN(kvs:List (κ×V))(k:κ)(v:V):List (κ×V) :=
 if(kvs.any λa=>decide (a.1=k))=Z7 then kvs.map (λa=>if a.1=k then(a.1,v)else a)else kvs++[(k,v)]
theorem N5{k:κ}(e:p.1=k):Yd (p::r) k=Z9 p.2:=by simp[Yd,e]
theorem N4{k:κ}(e:¬p.1=k):Yd (p::r) k=Yd r k:=by simp[Yd,e]
theorem G0(k:κ):∀kvs:List (κ×V),(kvs.any λa=>decide (a.1=k))=(Yd kvs k).isSome
 |[]=>rfl
 |p::r=>by
  rw[qH0];by_cases e:p.1=k
  .simp only[N5 e,decide_eq_true e,Bool.true_or,Option.isSome_some]
  .rw[N4 e,decide_eq_false e,Bool.false_or];exact G0 k r
theorem Ls(kvs:List (κ×V))(k:κ)(v:V):(YN kvs k v).length<=kvs.length+1:=by
 unfold YN;split
 .rw[qA6];lia
 .simp_all
theorem Yq.isSome_eq(r:Yq o u):o.isSome=u.isSome:=by
 cases o with
 |none=>cases u with
  |none=>rfl
  |some _=>exact(r).elim
 |some _=>cases u with
  |none=>exact(r).elim
  |some _=>rfl
theorem KV.val(r:KV kvs vs)(k:κ):Yq (Yd kvs k) (wZ vs k):=by
 induction r with
 |nil=>exact True.intro
 |@cons p q i c h t g =>
  obtain⟨d,f⟩:=h;by_cases e:p.1=k
  .have a:=d.symm.trans e;have b:wZ (q::c) k=Z9 q.2:=by simp[wZ,a]
   rw[N5 e,b];exact f
  .have a:¬q.1=k:=λz=>e (d.trans z);have b:wZ (q::c) k=wZ c k:=by simp[wZ,a]
   rw[N4 e,b];exact g
theorem KV.any(r:KV kvs vs)(k:κ):(kvs.any λa=>decide (a.1=k))=vs.any λa=>decide (a.1=k):=by
 induction r with
 |nil=>rfl
 |cons h t b=>rw[qH0,qH0,b,h.1]
theorem KV.repl(r:KV kvs vs)(k:κ)(f:ZF y u):
  KV (kvs.map λa=>if a.1=k then(a.1,y)else a) (vs.map λa=>if a.1=k then(a.1,u)else a):=by
 induction r with
 |nil=>exact .nil
 |@cons p q g i h t d =>
  rw[qB2,qB2];refine .cons ?_ d;obtain⟨b,c⟩:=h;by_cases e:p.1=k
  .rw[if_pos e,if_pos (b.symm.trans e)];exact⟨b,f⟩
  .rw[if_neg e,if_neg (λz=>e (b.trans z))];exact⟨b,c⟩
theorem KV.put(r:KV kvs vs)(k:κ)(a:ZF y u):KV (YN kvs k y) (dY vs k u):=by
 unfold YN dY;rw[r.any k];by_cases e:(vs.any λb=>decide (b.1=k))=Z7
 .rw[if_pos e,if_pos e];exact r.repl k a
 .rw[if_neg e,if_neg e];exact Paired.snoc r ⟨rfl,a⟩
theorem KV.length{vs:List (κ×yT)}(r:KV kvs vs):kvs.length=vs.length:=Paired.length r
end
theorem Tq(r:ZF (kV k) u):(Yy P w).is k u=Z7:=by
 cases k with
 |inl i=>obtain⟨t,e⟩:=(r);subst e;exact Cd P w i t
 |inr x=>obtain⟨t,e⟩:=(r);subst e;exact Mc P w x t
theorem GZ:∀{a:List ZA}{us:yB},ZK (a.map kV) us->ItemsAre (Yy P w) a us
 |[],_,r=>by cases r;exact .nil
 |k::a,_,r=>by
  cases r with
  |cons h t=>exact .cons (Tq h) (GZ t)
abbrev KT(H:Hp):List (List ZA×V)->List (List ZA×yQ×yT)->Prop:=mO λp q=>p.1=q.1/\H q.2.1=Z9 (.tup (p.1.map kV))/\ZF p.2 q.2.2
theorem KT.val(r:KT H kvs xs)(k:List ZA):Yq (Yd kvs k) ((atKey xs k).map (·.2)):=by
 induction r with
 |nil=>exact True.intro
 |@cons p q i c h t g =>
  obtain⟨d,_,f⟩:=h;by_cases e:p.1=k
  .have a:=d.symm.trans e;have b:atKey (q::c) k=Z9 q.2:=by simp[atKey,a]
   rw[N5 e,b];exact f
  .have a:¬q.1=k:=λz=>e (d.trans z);have b:atKey (q::c) k=atKey c k:=by simp[atKey,a]
   rw[N4 e,b];exact g
theorem KT.repl(r:KT H kvs xs)(k:List ZA)(f:ZF y u):
  KT H (kvs.map λb=>if b.1=k then(b.1,y)else b) (xs.map (putAt k u)):=by
 induction r with
 |nil=>exact .nil
 |@cons p q i j h t d =>
  rw[qB2,qB2];refine .cons ?_ d;obtain⟨a,c,g⟩:=h;unfold putAt;by_cases e:p.1=k
  .rw[if_pos e,if_pos (a.symm.trans e)];exact⟨a,c,f⟩
  .rw[if_neg e,if_neg (λz=>e (a.trans z))];exact⟨a,c,g⟩
theorem KT.put(r:KT H kvs xs)(k:List ZA)(c:H b=Z9 (.tup (k.map kV)))(a:ZF y u):
  KT H (YN kvs k y) (storedH xs k b u):=by
 have e:(kvs.any λd=>decide (d.1=k))=(atKey xs k).isSome:=by rw[G0,(r.val k).isSome_eq,qJ9]
 unfold YN storedH;rw[e];by_cases q:(atKey xs k).isSome=Z7
 .rw[if_pos q,if_pos q];exact r.repl k a
 .rw[if_neg q,if_neg q];exact Paired.snoc r ⟨rfl,c,a⟩
theorem KT.keeps(r:KT H kvs xs)(c:∀b ys,H b=Z9 (.tup ys)->a b=Z9 (.tup ys)):KT a kvs xs :=
 Paired.mapP r λ_ _ z=>⟨z.1,c _ _ z.2.1,z.2.2⟩
section
variable {P:yY}{w:jC}{H:Hp}{h:jB}{a:yQ}
theorem GY(ok:YB P w H h)(e:Rd H a u):XR P w H h a u:=e.ok ok
theorem Sj(ok:YB P w H h)(e:Rd H a (.dK kvs)):kvs.length<=yW/\(a == vA)=Z5/\∃vs,KV kvs vs/\h.DictOf (Yy P w) a vs :=
 show XR P w H h a (.dK kvs)from GY ok e
theorem N3(ok:YB P w H h)(e:H a=Z9 (.dK kvs)):kvs.length<=yW/\(a == vA)=Z5/\∃vs,KV kvs vs/\h.DictOf (Yy P w) a vs:=Sj ok (.inl e)
theorem Qb(ok:YB P w H h)(e:H a=Z9 (.tup (c.map kV))):(mV (Yy P w)).is h c a:=by
 obtain⟨_,b,r,o,g,d,n,f⟩:=(ok a _ e)
 exact⟨o,b.toArray,n,g,d,f,by simpa using GZ r⟩
theorem Qa(ok:YB P w H h)(e:Rd H a (.dT kvs)):kvs.length<=yW/\(a == vA)=Z5 /\
  ∃xs,KT H kvs xs/\h.DictOfH (mV (Yy P w)) a xs:=by
 obtain⟨z,y,xs,r,o,f,j,n,s,k,d,i⟩:=(GY ok e)
 refine⟨z,y,xs,r,o,f,j,n,s,k,d,λx b=>?_,i⟩;have all:∀{l:List (List ZA×V)}{m:List (List ZA×yQ×yT)},KT H l m->∀x∈m,(mV (Yy P w)).is h x.1 x.2.1:=by
  intro l m q
  induction q with
  |nil=>intro x b;exact nomatch b
  |@cons p q u v c t g =>
   intro x b;rcases qA8.mp b with e|b
   .subst e;exact Qb ok (by rw[<- c.1];exact c.2.1)
   .exact g x b
 exact all r x b
theorem zw(ok:YB P w H h)(e:H a=Z9 (.dT kvs)):kvs.length<=yW/\(a == vA)=Z5 /\
  ∃xs,KT H kvs xs/\h.DictOfH (mV (Yy P w)) a xs:=Qa ok (.inl e)
end
def XD(H:Hp)(a:yQ)(y:V)(r:Option V):Prop :=
 (∃c k,Rd H a (.dK c)/\y=kV k/\r=Yd c k)∨∃c k b,Rd H a (.dT c)/\y=.ref b/\H b=Z9 (.tup (k.map kV))/\r=Yd c k
def Vg(H:Hp)(a:yQ)(y v:V)(d:Hp):Prop :=
 (∃c k,H a=Z9 (.dK c)/\y=kV k/\c.length<yW/\d=ZE H a (.dK (YN c k v))) ∨
 ∃c k b,H a=Z9 (.dT c)/\y=.ref b/\H b=Z9 (.tup (k.map kV))/\c.length<yW/\d=ZE H a (.dT (YN c k v))
theorem XD.k{k:ZA}(e:H a=Z9 (.dK kvs)):XD H a (kV k) (Yd kvs k):=.inl ⟨kvs,k,.inl e,rfl,rfl⟩
theorem Vg.k{k:ZA}(e:H a=Z9 (.dK kvs))(b:kvs.length<yW):Vg H a (kV k) v (ZE H a (.dK (YN kvs k v))):=.inl ⟨kvs,k,e,rfl,b,rfl⟩
section
variable {X:Cx}{pins:yD}{Z:St}{H:Hp}{s:yR}{a:yQ}{y v:V}{u r:yT}{o:Option V}{A:jE}{E:yL}
theorem ZP.big(I:ZP X pins Z H s):vA<s.heap.objs.size:=by have h:=(I.mod.glob.keeps I.bk).lt;exact Nat.lt_trans (by decide) h
theorem zv{Q:yL}(w:A.units+1<vT)(I:ZP X pins Z H s)(g:XD H a y (Z9 v))(t:ZF y u)(h:∀f s',ZP X pins Z H s'->ZF v f->Q f s'):
  yZ (yX X.prog X.w) A (gO (.ref a) u) Q E s:=by
 rcases g with⟨m,k,e,i,l⟩| ⟨m,k,b,e,i,C,l⟩
 .subst i;obtain⟨z,B,D,c,q⟩:=Sj I.hok e;obtain⟨f,n,d⟩:=Yq.some_of (by rw[l];exact c.val k);exact wpAny_getItem_of (Tq t) q.mapOf n (h f _ (I.tok _) d)
 .subst i;cases (t);obtain⟨z,B,F,c,q⟩:=Qa I.hok e;obtain⟨f,n,d⟩:=Yq.some_of (by rw[l];exact c.val k);obtain⟨p,x,j⟩:=qA1.mp n;refine wpAny_getItem_heap (wP w) (Qb I.hok C) q x ?_;rw[j];exact h f _ (I.tok _) d
theorem Lr{Q:yL}(n:A.units+1<vT)(I:ZP X pins Z H s)(g:XD H a y o)(m:ZF y u)(h:∀s',ZP X pins Z H s'->Q (.bool o.isSome) s'):
  yZ (yX X.prog X.w) A (y8 .In u (.ref a)) Q E s:=by
 rcases g with⟨f,k,e,d,l⟩| ⟨f,k,b,e,d,p,l⟩
 .subst d;obtain⟨z,i,t,c,j⟩:=Sj I.hok e;refine wpAny_in_of (Tq m) i j.mapOf ?_;rw[<- (c.val k).isSome_eq,<- l];exact h _ (I.tok _)
 .subst d;cases (m);obtain⟨z,i,w,c,j⟩:=Qa I.hok e;refine wpAny_in_heap (wP n) (Qb I.hok p) i j ?_;have q:=(c.val k).isSome_eq;rw[qJ9]at q;rw[<- q,<- l];exact h _ (I.tok _)
theorem zu{Q:yL}(n:A.units+1<vT)(I:ZP X pins Z H s)(g:XD H a y o)(m:ZF y u)(h:∀s',ZP X pins Z H s'->Q (.bool (!o.isSome)) s'):
  yZ (yX X.prog X.w) A (y8 .NotIn u (.ref a)) Q E s:=by
 rcases g with⟨f,k,e,d,l⟩| ⟨f,k,b,e,d,p,l⟩
 .subst d;obtain⟨z,i,t,c,j⟩:=Sj I.hok e;refine wpAny_notIn_of (Tq m) i j.mapOf ?_;rw[<- (c.val k).isSome_eq,<- l];exact h _ (I.tok _)
 .subst d;cases (m);obtain⟨z,i,w,c,j⟩:=Qa I.hok e;refine wpAny_notIn_heap (wP n) (Qb I.hok p) i j ?_;have q:=(c.val k).isSome_eq;rw[qJ9]at q;rw[<- q,<- l];exact h _ (I.tok _)
theorem N2(I:ZP X pins Z H s)(f:Sv (H a))(g:qF2 a s.heap h')(he:∃q,h'.get? a=Z9 q)(c:XR X.prog X.w (ZE H a d) h' a d):
  ZP X pins Z (ZE H a d) { s with heap:=h',toks:=t' } :=
 I.write f (.inl rfl) (λb q e z=>(g.2 b e).trans z) he c
theorem P9(z:kvs.length<=yW)(d:(a == vA)=Z5)(b:KV kvs vs)(dd:h'.DictOf (Yy P w) a vs):
  XR P w c h' a (.dK kvs):=⟨z,d,vs,b,dd⟩
theorem zt(K:A.units+1<vT)(I:ZP X pins Z H s)(g:Vg H a y v B)(D:ZF y u)(F:ZF v r)(h:∀s',ZP X pins Z B s'->Q () s'):
  yZ (yX X.prog X.w) A (uF (.ref a) u r) Q E s:=by
 rcases g with⟨f,k,e,n,l,m⟩| ⟨f,k,b,e,n,J,l,m⟩
 .subst n m;obtain⟨z,w,L,d,x⟩:=N3 I.hok e;have N:L.length<=sizeLine:=by rw[<- d.length];exact z
  have p:(YN f k v).length<=sizeLine:=by have:=Ls f k v;lia
  refine wpAny_setItem_pairs (Tq D) x λG i t=>h _ ?_;have W:∃q,G.get? a=Z9 q:=let ⟨q,_,_,j,_⟩:=i;⟨q,j⟩
  exact N2 I (by rw[e];exact True.intro) t W (P9 p w (d.put k F) i)
 .subst n m;cases (D);obtain⟨z,w,P,d,x⟩:=zw I.hok e;have N:P.length<=sizeLine:=by rw[<- Paired.length d];exact z
  have p:(YN f k v).length<=sizeLine:=by have:=Ls f k v;lia
  refine wpAny_setItem_heap (wP K) (Qb I.hok J) x λG i t=>h _ ?_;obtain⟨q,O,S,j,U,T,M,_,R⟩:=i;refine N2 I (by rw[e];exact True.intro) t ⟨q,j⟩ ⟨p,w,_,(d.put k J F).keeps λc Y C=>?_,q,O,S,j,U,T,M,R⟩;rw[Zq (Cb C e (λz=>nomatch z))];exact C
end
theorem zr{Z:St}(I:ZP X c Z H s)(g:XD H a y o):s.TypeIs (.ref a) "dict":=by
 rcases g with⟨d,k,e,_,_⟩| ⟨d,k,b,e,_,_,_⟩
 .obtain⟨_,_,h,_,f⟩:=Sj I.hok e;exact f.typeIs
 .obtain⟨_,_,i,_,f⟩:=Qa I.hok e;exact f.typeIs
theorem Lq(h:jB)(a:vA<h.objs.size):XR P w H (h.push { cls:=.type "dict",data:=.dict #[] }) h.objs.size (.dK []) :=
 ⟨qF0 _,beq_eq_false_iff_ne.mpr (Ne.symm (qC0 a)),[],.nil,Heap.DictOf.new h⟩
def zq:TE:=λ_ H Q=>∀p,H p=Z8->Q (.ref p) (ZE H p (.dK []))
section
variable {X:Cx}{pos:Pos}
theorem GX:PE X (.Dict [] [] pos) zq:=λa s Z H Q I h =>
 wpAny_Dict_empty ⟨.ref s.heap.objs.size,_,I.laid (t':=s.toks) (λ_ _ q=>qA2 _ q) (qA4 _) (Lq s.heap I.big),rfl,h _ (I.hok.fresh (qA4 _))⟩
end
def Lp:List (TE×TE)->St->Hp->(List (V×V)->Hp->Prop)->Prop
 |[],_,H,Q=>Q [] H
 |(c,tv)::r,Z,H,Q=>c Z H λx a=>tv Z a λy d=>Lp r Z d λb e=>Q ((x,y)::b) e
abbrev VV:List (V×V)->List (yT×yT)->Prop:=mO λp q=>ZF p.1 q.1/\ZF p.2 q.2
def N1(X:Cx)(pos:Pos)(c:List (Option yV))(a:yE)(d:List (TE×TE)):Prop :=
 ∀(b:yD) (s:yR) (Z:St) (H:Hp) (Q:List (V×V)->Hp->Prop),ZP X b Z H s->Lp d Z H Q ->
  yZ (yX X.prog X.w) X.A (evalPairs (pairTrees c a X.env pos)) (λg h=>∃f e,ZP X b Z e h/\VV f g/\Q f e) X.xe s
theorem GW:N1 X pos [] [] []:=λa s Z H Q I h=>pairTrees_nil_walk ⟨[],H,I,.nil,h⟩
theorem Lo(hk:PE X k tk)(z:PE X v tv)(r:N1 X pos d vs b):
  N1 X pos (Z9 k::d) (v::vs) ((tk,tv)::b):=λa s Z H Q I h =>
 pairTrees_cons_walk (Zx (hk a s Z H _ I h) λu q ⟨x,m,l,A,o⟩=>Zx (z a q Z m _ l o) λC e ⟨y,f,i,j,w⟩ =>
  Zx (r a e Z f _ i w) λB D ⟨n,t,g,c,p⟩=>⟨(x,y)::n,t,g,.cons ⟨A,j⟩ c,p⟩)
def Wp(kvs a:List (ZA×V)):List (ZA×V):=a.foldl (λacc b=>YN acc b.1 b.2) kvs
theorem KV.merge:∀{a:List (ZA×V)}{rs:List (ZA×yT)}{kvs:List (ZA×V)}{vs:List (ZA×yT)},KV a rs->KV kvs vs->KV (Wp kvs a) (merged vs rs):=by
 intro a rs kvs vs r
 induction r generalizing kvs vs with
 |nil=>intro q;exact q
 |@cons p q d f h t b =>
  intro c;have e:KV (YN kvs p.1 p.2) (dY vs q.1 q.2):=by have:=c.put p.1 h.2;rw[<- h.1];exact this
  exact b e
theorem N0:∀(a kvs:List (ZA×V)),(Wp kvs a).length<=kvs.length+a.length
 |[],kvs=>by show kvs.length<=kvs.length+0;lia
 |p::r,kvs=>by have b:=N0 r (YN kvs p.1 p.2);have c:=Ls kvs p.1 p.2;show(Wp (YN kvs p.1 p.2) r).length<=_;rw[qB6];lia
theorem GV:∀{kvs:List (ZA×V)}{ws:List (yT×yT)},VV (kvs.map λd=>(kV d.1,d.2)) ws->∃rs,Carries (Yy P w) ws rs/\KV kvs rs
 |[],_,r=>by cases r;exact⟨[],True.intro,.nil⟩
 |p::kvs,_,r=>by
  cases r with
  |@cons a b g bs h t =>
   obtain⟨rs,c,q⟩:=GV t;obtain⟨f,e⟩:=b;exact⟨(p.1,e)::rs,⟨Tq h.1,rfl,c⟩,.cons ⟨rfl,h.2⟩ q⟩
def zp(b:List (TE×TE)):TE:=fun Z H Q=>∀p,H p=Z8->Lp b Z (ZE H p (.dK [])) λe d=>d p=Z9 (.dK [])/\∃a:List (ZA×V),e=a.map (λc=>(kV c.1,c.2))/\a.length<=15/\Q (.ref p) (ZE d p (.dK (Wp [] a)))
theorem GU(h:N1 X pos a b j)(d:a.all (·.isSome)=Z7)(p:a.length=b.length)(r:a≠[])
  (l:a.length<=15):PE X (.Dict a b pos) (zp j):=by
 intro g s Z H Q I q;have v:=I.hok.fresh (qA4 s.heap.objs.size);have u:=I.laid (h':=s.heap.push { cls:=.type "dict",data:=.dict #[] }) (t':=s.toks) (λ_ _ q=>qA2 _ q) (qA4 _) (Lq s.heap I.big);refine wpAny_Dict_walk (knd:=Yy X.prog X.w) d p r l (Zx (h g _ Z _ _ u (q _ v)) λJ F ⟨K,G,m,k,e,f,w,L,B⟩=>?_);subst w;obtain⟨rs,c,n⟩:=GV k;obtain⟨z,y,A,E,D⟩:=N3 m.hok e;cases E;refine⟨rs,c,D,λh' i t=>⟨.ref s.heap.objs.size,_,?_,rfl,B⟩⟩;have o:(Wp [] f).length<=sizeLine:=by have x:=N0 f [];rw[qO2]at x;rw[vY];lia
 have C:∃q,h'.get? s.heap.objs.size=Z9 q:=let ⟨q,_,_,hq,_⟩:=i;⟨q,hq⟩
 exact N2 m (by rw[e];exact True.intro) t C (P9 o y (n.merge .nil) i)
section
variable {X:Cx}{pins:yD}{Z:St}{H:Hp}{s:yR}{a:yQ}{kvs:List (ZA×V)}{A:jE}{E:yL}
theorem zo{Q:yL}(I:ZP X pins Z H s)(e:Rd H a (.dK kvs))(h:∀p s',H p=Z8->ZP X pins Z (ZE H p (.dK kvs)) s'->Q (.ref p) s'):yZ (yX X.prog X.w) A (call (.type "dict") [.ref a]) Q E s:=by obtain⟨z,g,k,c,i⟩:=Sj I.hok e;refine kt_call_dict g i (by rw[<- c.length];exact z) λl d j=>?_;refine h _ _ (I.hok.fresh (qA4 _)) (I.laid (a:=s.heap.objs.size) (o:=.dK kvs) (t':=s.toks) (λb q f=>?_) (qA4 _) (P9 z (beq_eq_false_iff_ne.mpr (Ne.symm (qC0 I.big))) c d));exact(j.2 b (qC0 (qB1 f))).trans (qA2 _ f)
end
def Uw(st a:St):Prop:=st.length=a.length/\∀(i:Nat) v,st[i]?=Z9 (Z9 v)->a[i]?=Z9 (Z9 v)
def XZ(X:Cx)(scope:jW)(N:yH)(cl:List (Str×yQ))(s:yR)(H:Hp)(C:yQ)(ex:yC):Cx where
 prog:=X.prog
 w:=X.w
 K:=X.K
 mg:=X.mg
 base:=X.base
 A:=X.A
 N:=N
 s₀:=s
 H₀:=H
 env:=dP scope cl C X.env
 outer:=X.stack
 stack:=X.stack
 ex:=ex
 fn:=λx=>decide ((x,NameKind.cell)∈scope.names)
 calm:=X.calm
 pn:=[]
 xe:=λ_ _=>False
def Yi(env:Env):List (Str×jQ)->List (Str×yQ)->List (Str×yQ)
 |[],acc=>acc
 |(n,k)::r,acc=>if k == .free then(match env.cells.lookup n with|some c=>Yi env r ((n,c)::acc)| none=>Yi env r acc)else Yi env r acc
theorem NZ{env:Env}:∀(ns:List (Str×jQ)) (acc:List (Str×yQ)),(∀x c,acc.lookup x=Z9 c->env.cells.lookup x=Z9 c)->∀x c,(Yi env ns acc).lookup x=Z9 c->env.cells.lookup x=Z9 c
 |[],_,h=>h
 |(n,k)::r,acc,h=>by
  unfold Yi;split
  .split
   .rename_i c b;refine NZ r _ λx d e=>?_;rw[qD4]at e;cases a:x == n with
    |true =>
     simp_all
    |false =>
     simp_all
   .exact NZ r _ h
  .exact NZ r _ h
theorem P8:∀(ns:List (Str×jQ)) (acc:List (Str×yQ)) (x:Str),((∃c,acc.lookup x=Z9 c)∨((x,NameKind.free)∈ns/\∃c,env.cells.lookup x=Z9 c))->∃c,(Yi env ns acc).lookup x=Z9 c
 |[],acc,x,h=>by
  rcases h with h|⟨h,_⟩
  .exact h
  .cases h
 |(n,k)::r,acc,x,h=>by
  unfold Yi;split
  .rename_i hk;split
   .rename_i c b;refine P8 r _ x ?_;by_cases f:x=n
    .simp_all
    .have e:(x == n)=Z5:=by simpa using f
     rcases h with⟨d,h⟩| ⟨h,d⟩
     .exact .inl ⟨d,by rw[qD4,e];exact h⟩
     .simp_all
   .rename_i b;refine P8 r _ x ?_;rcases h with h|⟨h,d,a⟩
    .exact .inl h
    .rcases qA8.mp h with h|h
     .cases h;rw[b]at a;cases a
     .exact .inr ⟨h,d,a⟩
  .rename_i hk;refine P8 r _ x ?_;rcases h with h|⟨h,d⟩
   .exact .inl h
   .rcases qA8.mp h with h|h
    .simp_all
    .exact .inr ⟨h,d⟩
theorem zm(h:env.cells.lookup x=Z9 c):cellOf env x=pure c:=by unfold cellOf;rw[h]
theorem Lm:∀(ns:List (Str×jQ)) (acc:List (Str×yQ)),(∀x,(x,NameKind.free)∈ns->∃c,env.cells.lookup x=Z9 c) ->
  (forIn ns acc fun(x:Str×jQ) (r:List (Str×yQ))=>(match x with
   | (a,kind)=>if kind == NameKind.free then(do let c <- cellOf env a;pure (ForInStep.yield ((a,c)::r)))else pure (ForInStep.yield r):Sem (ForInStep (List (Str×yQ)))))=pure (Yi env ns acc)
 |[],acc,_=>rfl
 |(n,k)::r,acc,h=>by
  rw[qG7];unfold Yi;have b:=λx f=>h x (qC5 _ f);by_cases hk:k=.free
  .subst hk;obtain⟨c,d⟩:=h n (qD1 ..);dsimp only;rw[d,zm d];exact Lm r _ b
  .have e:(k == NameKind.free)=Z5:=by simpa using hk
   simp only[e];exact Lm r _ b
theorem Ll(h:∀x,(x,NameKind.free)∈scope.names->∃c,env.cells.lookup x=Z9 c):closureFor scope env=pure (Yi env scope.names []):=by unfold closureFor;have q:=Lm scope.names [] h;simp only[bind_pure];congr 1
theorem Lk{ns:List (Str×jQ)}(h:ns.lookup x=Z9 k):(x,k)∈ns:=by
 induction ns with
 |nil=>cases h
 |cons a r b =>
  obtain⟨n,c⟩:=a;cases d:x == n with
  |true =>
   simp_all
  |false =>
   grind
theorem GT(h:(mX scope env).names.lookup x=Z9 k)(c:k=.cell∨k=.free):(x,NameKind.free)∈scope.names∨(x,NameKind.cell)∈scope.names:=by
 have m:=Lk h;obtain⟨⟨n,a⟩,b,e⟩:=qF4.mp m;dsimp only at e;split at e
 .simp_all
 .lia
theorem Si:∀(ns:List (Str×jQ)) (h:jB) (acc:List (Str×yQ)) {x:Str}{c:yQ},(vH h.objs.size ns acc).lookup x=Z9 c ->
  ((x,NameKind.cell)∈ns/\h.objs.size<=c/\(lG h ns).IsCell c Z8)∨((x,NameKind.cell)∉ns/\acc.lookup x=Z9 c)
 |[],h,acc,x,c,e=>.inr ⟨by simp,e⟩
 |(n,k)::r,h,acc,x,c,e=>by
  unfold vH at e;unfold lG;by_cases hk:(k == NameKind.cell)=Z7
  .rw[if_pos hk]at e ⊢;have d:=by simpa using hk
   rw[<- qE4 h { cls:=.type "cell",data:=.cell Z8 }]at e;rcases Si r _ _ e with⟨b,a,g⟩| ⟨b,a⟩
   .exact .inl ⟨qC5 _ b,by rw[qE4]at a;lia,g⟩
   .rw[qD4]at a;cases f:x == n with
    |true =>
     rw[f]at a;cases a;have:=by simpa using f
     subst this;subst d;exact .inl ⟨qD1 ..,qA4 _,_,fW _ _ _ _ (qB5 _ rfl),rfl⟩
    |false =>
     simp_all
  .rw[if_neg hk]at e ⊢;rcases Si r h acc e with⟨b,a,g⟩| ⟨b,a⟩
   .simp_all
   .grind
theorem Lj:∀(ns:List (Str×jQ)) (n:Nat) (acc:List (Str×yQ)),(∀x c,acc.lookup x=Z9 c->c<n)->(∀x y c,acc.lookup x=Z9 c->acc.lookup y=Z9 c->x=y) ->
  ∀x y c,(vH n ns acc).lookup x=Z9 c->(vH n ns acc).lookup y=Z9 c->x=y
 |[],n,acc,hb,hi=>hi
 |(m,k)::r,n,acc,hb,hi=>by
  unfold vH;split
  .refine Lj r (n+1) _ (λx c e=>?_) λx y c d b=>?_
   .rw[qD4]at e;cases a:x == m with
    |true=>rw[a]at e;cases e;exact qG4 _
    |false=>rw[a]at e;exact qG1 (hb x c e)
   .grind
  .exact Lj r n acc hb hi
theorem NY:∀(ns:List (Str×jQ)) (n:Nat) (acc:List (Str×yQ)) {x:Str},((x,NameKind.cell)∈ns∨∃c,acc.lookup x=Z9 c)->∃c,(vH n ns acc).lookup x=Z9 c
 |[],n,acc,x,h=>by
  rcases h with h|h
  .cases h
  .exact h
 |(m,k)::r,n,acc,x,h=>by
  unfold vH;split
  .refine NY r _ _ ?_;by_cases a:x=m
   .simp_all
   .grind
  .rename_i hk;refine NY r _ _ ?_
   grind
theorem zk{E:yL}
  (i:Q (newEnv scope s.heap.objs.size a (vH (s.heap.push { cls:=.type "dict",data:=.dict #[] }).objs.size scope.names b) d Z8 .none (Z9 c) dF) { s with heap:=lG (s.heap.push { cls:=.type "dict",data:=.dict #[] }) scope.names }) :
  yZ M A (gK scope a b [] d Z8 .none (Z9 c)) Q E s:=by refine yO (wpAny_alloc ?_);refine yO (wpAny_layCells _ (λh e f=>by cases g:e == NameKind.cell<;>simp[g]) _ _ _ _ ?_);exact yO (yS (yS i))
section
variable {X:Cx}{pins:yD}{Z:St}{H:Hp}{s:yR}{scope:jW}{N:yH}{C:yQ}{ex:yC}
structure Tp(X:Cx)(scope:jW)(N:yH)(k:Nat)(js:List Nat):Prop where
 calm:X.calm=Z7
 kind:scope.kind=.function
 cell:∀x,(x,NameKind.cell)∈scope.names->scope.names.lookup x=Z9 .cell
 free:∀x,(x,NameKind.free)∈scope.names->(X.env.kindOf x=Z9 .cell∨X.env.kindOf x=Z9 .free)
 names:∀x∈scope.names,x.2=.local->scope.names.lookup x.1=Z9 .local
 len:N.length=k+js.length
 js:∀i j,js[i]?=Z9 j->∃x,N[k+i]?=Z9 x/\X.N[j]?=Z9 x/\scope.names.lookup x=Z9 .free/\Vw X.env.scope x
theorem To(h:(Yi env ns []).lookup x=Z9 c):env.cells.lookup x=Z9 c:=NZ _ _ (λ_ _ z=>by cases z) x c h
theorem ZP.compOk(I:ZP X pins Z H s)(hk:scope.kind=.function)(p:∀x,(x,NameKind.free)∈scope.names->∃c,X.env.cells.lookup x=Z9 c){h:jB}(i:h.objs.size=C+1)(g:s.heap.objs.size<=C)(a:∀b∈ex,Yx X pins H b)(f:∀b∈ex,b<s.heap.objs.size):
  (XZ X scope N (vH h.objs.size scope.names (Yi X.env scope.names [])) s H C ex).Ok where
 mod:=I.ok.mod
 kind:=hk
 glob:=I.ok.glob
 blt:=I.ok.blt
 above:=g
 inj:=Lj _ _ _ (λx c e=>by
  obtain⟨v,q⟩:=I.cell x c (To e);rw[i];exact qG1 (qA9 q.lt g)) λx y c j n=>I.ok.inj x y c (To j) (To n)
 has:=λx h=>by
  have m:=GT (scope:=scope) (env:=X.env) (x:=x) (k:=.cell);have r:=GT (scope:=scope) (env:=X.env) (x:=x) (k:=.free);have q:(x,NameKind.free)∈scope.names∨(x,NameKind.cell)∈scope.names:=by
   rcases h with h|h
   .exact m h (.inl rfl)
   .exact r h (.inr rfl)
  refine NY _ _ _ ?_;rcases q with q|q
  .exact .inr (P8 _ _ x (.inr ⟨q,p x q⟩))
  .exact .inl q
 cab:=λx c h e=>by
  rcases Si _ _ _ e with⟨_,q,_⟩| ⟨q,_⟩
  .show s.heap.objs.size<=c;lia
  .exact absurd (of_decide_eq_true h) q
 hd:=I.ok.hd
 frames:=I.ok.frames
 stk:=.inl rfl
 exf:=λb d=>⟨λz=>by
   have l:=z;exact qG9 _ (qA9 (f b d) (by rw[l];exact g)),λx c e=>by
   rcases Si _ _ _ e with⟨_,q,_⟩| ⟨_,q⟩
   .exact qF3 (qA9 (f b d) (qC6 g (qF7 (qA9 (by rw[i];exact qG4 C) q))))
   .exact(a b d).2.2.2.2.1 x c (To q)⟩
 bs:=I.bs
 bsz:=qC6 I.ok.bsz I.sz
 noex:=λb o e d=>by
  rcases(a b d).2.2.2.1 with z|z
  .exact I.ok.noex b o e z
  .exact qG9 _ (qA9 (qB1 e) (qC6 I.ok.bsz z))
 exfs:=λb d z=>by
  rcases qA8.mp (I.stkSub b z)with q|q
  .exact(a b d).2.1 q
  .exact(a b d).2.2.1 q
 funs:=I.stack
 frf:=I.stkFree
theorem GS{d:yE}(f:Nat->yR->Prop)
  (g:∀n s,f n s->yZ (yX prog w) A (pyNext j) (λr l=>match r with
   |none=>R (.ok .next) l
   | some v=>yZ (yX prog w) A (mF a j v) (λ_ i=>yZ (yX prog w) A (gE a env v) (λ_ q =>
     yZ (yX prog w) A (forIn d Z7 λc r=>if r=Z7 then do let ok <- dS c env (jU c env);pure (ForInStep.yield ok)else pure (ForInStep.yield r)) (λok o =>
      if ok=Z7 then yZ (yX prog w) A (jU elt env) (λx t =>
       yZ (yX prog w) A (call (.builtin "list.append") [acc,x]) (λ_ p=>∃m,m<n/\f m p) (lW (yX prog w) A env λe s'=>R (.error e) s') t) (lW (yX prog w) A env λe s'=>R (.error e) s') o
      else ∃m,m<n/\f m o) (lW (yX prog w) A env λe s'=>R (.error e) s') q) (lW (yX prog w) A env λe s'=>R (.error e) s') i) (lW (yX prog w) A env λe s'=>R (.error e) s') l) (lW (yX prog w) A env λe s'=>R (.error e) s') s)
  (n:Nat) (h:f n s) :
  vO (yX prog w) A (.compLoop (.ListComp elt [⟨a,iter,d,0⟩] scope pos) 0 j acc env) R s:=by
 refine codeAny_loop rfl f (λn s E=>?_) n h;show yZ _ A ((compTurn (.ListComp elt [⟨a,iter,d,0⟩] scope pos) 0 j acc env).onRaise (λx=>do vM x env;theTreesLotGoes x)) _ _ s;refine wpAny_noted ?_;rw[compTurn_list];refine yO (gX (yO (jH (g n s E) (λr l y=>?_) λ_ _ b=>b)));cases r with
 |none=>exact yS y
 |some v =>
  refine yO (jH y (λ_ i k=>?_) λ_ _ b=>b);refine yO (jH k (λ_ q D=>yO (jH D (λok o u=>?_) λ_ _ b=>b)) λ_ _ b=>b);cases ok with
  |false=>exact yS ⟨rfl,u⟩
  |true =>
   exact yO (yO (jH u (λx t z=>yO (jH z (λ_ p B=>yS (yS ⟨rfl,B⟩)) λ_ _ b=>b)) λ_ _ b=>b))
def Uv(X:Cx)(b:yE)(t:TT):Prop :=
 ∀(a:yD) (s:yR) (Z:St) (H:Hp) (Q:Bool->Hp->Prop),ZP X a Z H s->t Z H Q ->
  yZ (yX X.prog X.w) X.A (forIn b Z7 λc r=>if r=Z7 then do let ok <- dS c X.env (jU c X.env);pure (ForInStep.yield ok)else pure (ForInStep.yield r)) (TP X a Z Q) X.xe s
def Uu:TT:=λ_ H Q=>Q Z7 H
theorem GR:Uv X [] Uu:=λa s Z H Q I h=>wpAny_tests_nil ⟨H,I,h⟩
theorem zj(h:PT X c t):Uv X [c] t:=λa s Z H Q I b=>wpAny_tests_one (h a s Z H Q I b)
def P7(d:It)(D:yQ)(W:Nat->Nat->List V->Hp->Prop)(Q:Hp->Prop)(g:TG)(tc:TT)(n:TE)(f:St)(i m:Nat)(ys:List V)(a:Hp):Prop :=
 a D=Z9 (.lst ys)/\((d.stop i a/\Q a)∨(d.go i a/\ys.length<yW/\∀x k,d.yld i a x k->g x f k fun e l=>Uw f e/\tc e l λb j =>
   if b=Z7 then n e j λy h=>h D=Z9 (.lst ys)/\∃c,c<m/\W (i+1) c (ys++[y]) (ZE h D (.lst (ys++[y])))else ∃c,c<m/\W (i+1) c ys j))
def W0(k:Nat)(js:List Nat)(Z:St):St:=qC3 k Option.none++js.map λj=>(Z[j]?).getD Option.none
def P6(f:TI)(k:Nat)(js:List Nat)(g:TG)(tc:TT)(d:TE):TE:=fun Z H Q =>
 f Z H λe a=>∀D,a D=Z8->∃W:Nat->Nat->List V->Hp->Prop,(∃m,W 0 m [] (ZE a D (.lst [])))/\∀i m b c,W i m b c->P7 e D W (Q (.ref D)) g tc d (W0 k js Z) i m b c
theorem GQ(h:(W0 k js Z)[i]?=Z9 (Z9 v)):∃j,k<=i/\js[i - k]?=Z9 j/\Z[j]?=Z9 (Z9 v):=by
 unfold W0 at h;by_cases a:i<k
 .rw[qB7 (by simpa using a),qF5]at h;simp at h
 .rw[qA5 (by simpa using a),qE7,qC1]at h;cases e:js[i - k]? with
  |none=>rw[e]at h;simp at h
  |some j =>
   rw[e]at h;simp only[qL1,Option.some.injEq]at h;refine⟨j,by lia,rfl,?_⟩;cases q:Z[j]? with
   |none=>rw[q]at h;simp at h
   |some z =>
    rw[q]at h;simp at h;rw[h]
theorem GP(h:scope.names.lookup x=Z9 .free):(mX scope env).names.lookup x=Z9 .cell∨(mX scope env).names.lookup x=Z9 .free:=by
 unfold mX;dsimp only;generalize scope.names=ns at h
 induction ns with
 |nil=>cases h
 |cons a r c =>
  obtain⟨n,k⟩:=a;rw[qD4]at h;rw[qB2];cases b:x == n with
  |true =>
   rw[b]at h;cases h;split
   .exact .inl (by rw[qD4,b])
   .exact .inr (by rw[qD4,b])
  |false =>
   rw[b]at h;split
   .rw[qD4,b];exact c h
   .rw[qD4,b];exact c h
inductive VR(Y:Cx)(Z0:St)(tn:Nat->jB->Prop)(fp:yC)(W:Nat->Nat->List V->Hp->Prop)(n:Nat)(s:yR):Prop
 |mk (i:Nat) (ys:List V) (H:Hp) (I:ZP Y [] Z0 H s) (st:tn i s.heap) (fr:∀b∈fp,H b=Z8) (w:W i n ys H)
theorem zi{Y:Cx}
  (hc:Y.calm=Z7) (hx:Y.xe=λ_ _=>False) (T:XQ Y.prog Y.w Y.K L JJ l it F) (a:∀K,(∀b∈l,K b=Z8)->∀b∈l,Yx Y [] K b)
  (hg:PG Y L g) (S:Uv Y h tc) (hte:PE Y elt te) (J:∀i m ys H2,W i m ys H2->P7 JJ D W Q g tc te p i m ys H2) (fin:∀k G,ZP Y [] p k G->Q k->R (.ok .next) G)
   (h0:VR Y p F l W n s) (st3:F 0 s.heap):vO (yX Y.prog Y.w) Y.A (.compStart (.ListComp elt [⟨L,iter,h,0⟩] scope pos) 0 (.ref it) (.ref D) Y.env) R s:=by
 have c:vO (yX Y.prog Y.w) Y.A (.compLoop (.ListComp elt [⟨L,iter,h,0⟩] scope pos) 0 (.ref it) (.ref D) Y.env) R s:=by
  refine GS (VR Y p F l W) ?_ n h0;rintro n s4 ⟨i,ys,k,I4,B,w,w4⟩;obtain⟨hD4,hd⟩:=J i n ys k w4;rcases hd with⟨I,q⟩| ⟨go,hz,step⟩
  .refine Zx (T.done Y rfl rfl rfl hc i [] s4 _ k _ I4 (a _ w) B I) λr G ⟨hr,I5⟩=>?_;subst hr;exact fin k G I5 q
  .refine Zx (T.item Y rfl rfl rfl hc i [] s4 _ k _ I4 (a _ w) B go) λr G ⟨u,hr,h5⟩=>?_;subst hr;refine Zx h5 λ_ s6 ⟨x,H6,I6,r6,y6,j,fr6⟩=>?_;have I6':=I6.pinned (a _ fr6) (T.obj _ _ j);have back:∀{f:St}{t:Hp}{s7:yR}{m:Nat}{zs:List V},ZP Y ([]++Re l s6.heap) f t s7->Uw p f->W (i+1) m zs t->VR Y p F l W m s7:=λ{f t s7 m zs} A hw w7=>by refine⟨i+1,zs,t,A.unpinned.weak hw.1 hw.2,T.keep _ _ _ j λb O o e=>(A.pin (b,o) (qD0 _ (qD0 _ (Sr O e)))).1,λb O=>?_,w7⟩;obtain⟨o,e,d⟩:=T.obj _ _ j b O;exact(A.pin (b,o) (qD0 _ (qD0 _ (Sr O e)))).2.1
   have P:∀{E:yL} e s',Y.xe e s'->E e s':=λe s' z=>by rw[hx]at z;exact z.elim
   refine jH (hg _ s6 _ H6 x u _ I6' r6 (step x H6 y6)) (λ_ s7 ⟨f,t,A,v,q7⟩=>?_) P;refine jH (S _ s7 f t _ A q7) (λb s8 ⟨H8,I8,q8⟩=>?_) P;cases b with
   |false =>
    obtain⟨M,U,w8⟩:=(by simpa using q8)
    exact⟨M,U,back I8 v w8⟩
   |true =>
    refine jH (hte _ s8 f H8 _ I8 q8) (λy s9 ⟨vy,H9,I9,r9,q9⟩=>?_) P;obtain⟨hD9,M,U,w9⟩:=q9;refine jH (Lz _ s9 f H9 (.ref D) [vy] (.ref D) [y] (λ_ K=>W (i+1) M (ys++[vy]) K) I9 rfl (.cons r9 .nil) ⟨_,ys,vy,rfl,rfl,hD9,hz,w9⟩) (λz s10 ⟨_,H10,I10,_,q10⟩=>?_) P;exact⟨M,U,back I10 v q10⟩
 exact lY c (T.self _ 0 _ _ _ st3 c)
theorem GO{elt iter V:yV}{F:yE}{RR:yT->yQ->g7->yR->Prop}
  (n:Tp X scope N k js) (d:ZP X pins Z B s2) (T:XQ X.prog X.w X.K V JJ O W tn) (J:tn 0 s2.heap) (f2:∀b∈O,Yx X pins B b)
  (h:∀(cl:List (Str×yQ)) (C:yQ) (E:yR),s2.heap.objs.size<=C->s2.heap.objs.size≠C->ZP (XZ X scope N cl s2 B C O) [] (W0 k js Z) (ZE B s2.heap.objs.size (.lst [])) E->tn 0 E.heap ->
   vO (yX X.prog X.w) X.A (.compStart (.ListComp elt [⟨V,iter,F,0⟩] scope pos) 0 (.ref W) (.ref s2.heap.objs.size) (dP scope cl C X.env)) (RR (.ref s2.heap.objs.size) C) E) :
  yZ (yX X.prog X.w) X.A (newList []) (λacc s3=>yZ (yX X.prog X.w) X.A (gK scope X.env.globals (Yi X.env scope.names []) [] X.env.qual Z8 .none (Z9 X.env)) (λg E =>
   vO (yX X.prog X.w) X.A (.compStart (.ListComp elt [⟨V,iter,F,0⟩] scope pos) 0 (.ref W) acc { g with scope:=mX scope X.env }) (RR acc g.locals) E) X.xe s3) X.xe s2:=by
 have l:=λx hx=>d.ok.has x (n.free x hx);refine jP (zk ?_);dsimp only;generalize hP:s2.heap.push { cls:=.type "list",dict:=Z8,data:=.seq ([]).toArray }=P;have M:P.objs.size=s2.heap.objs.size+1:=by rw[<- hP,qE4]
 have A:s2.heap.objs.size≠P.objs.size:=by rw[M];exact qC0 (qG4 _)
 have f:s2.heap.objs.size<=P.objs.size:=by rw[M];exact qL6 _
 generalize hP2:P.push { cls:=.type "dict",data:=.dict #[] }=P2;have G:P2.objs.size=P.objs.size+1:=by rw[<- hP2,qE4]
 have w:(lG P2 scope.names).Ns P.objs.size (λ_=>Z8):=(hP2▸Heap.Ns.new P (.type "dict")).keeps (fW _ _);have a:∀b o,s2.heap.get? b=Z9 o->(lG P2 scope.names).get? b=Z9 o:=λb o e=>fW _ _ _ _ (hP2▸qA2 _ (hP▸qA2 _ e));have t:(lG P2 scope.names).get? s2.heap.objs.size=Z9 { cls:=.type "list",dict:=Z8,data:=.seq ([]).toArray }:=fW _ _ _ _ (hP2▸qA2 _ (hP▸qB5 _ rfl));have U:∀b∈O,b<s2.heap.objs.size:=λb hb=>by obtain⟨o,e,_⟩:=T.obj _ _ J b hb;exact qB1 e
 have ok:=d.compOk (N:=N) n.kind l G f f2 U;refine h (vH P2.objs.size scope.names (Yi X.env scope.names [])) P.objs.size _ f A ?_ (T.keep _ _ _ J λb _ o e=>a b o e);refine⟨ok,rfl,d.bare,Un.laid a (qA4 _) (d.hok.fresh (qA4 _)),⟨_,w,λi x v e1 e2 e3=>?_⟩,λx c e=>?_,?_,λx c e=>?_,λp hp=>(by cases hp),d.hok.laid a (qA4 _) ?_,?_⟩
 .obtain⟨j,hki,hj,hv⟩:=GQ e2;obtain⟨y,n1,n2,R,n4⟩:=n.js _ j hj;have ei:k+(i - k)=i:=by lia
  rw[ei]at n1;have D:N[i]?=Z9 x:=e1;rw[n1]at D;cases D;obtain⟨m,hn,hl⟩:=d.loc;obtain⟨u,r,lk⟩:=hl j x v n2 hv n4;refine⟨u,r,?_⟩;have mem:=Lk R;rcases lk with⟨Y,_⟩| ⟨Y,c,ec,ce⟩
  .rcases n.free x mem with z|z
   .rw[z]at Y;cases Y
   .simp_all
  .obtain⟨c0,L⟩:=NY scope.names P2.objs.size _ (.inr (P8 scope.names [] x (.inr ⟨mem,c,ec⟩)));have S:c0=c:=by
    rcases Si _ _ _ L with⟨q,_⟩| ⟨_,q⟩
    .have:=n.cell x q;rw[R]at this;cases this
    .have:=To q;rw[ec]at this;cases this;rfl
   subst S;refine .inr ⟨GP R,c0,L,?_⟩;obtain⟨o,I,Q⟩:=ce;exact⟨o,a _ _ I,Q⟩
 .rcases Si _ _ _ e with⟨_,_,q⟩| ⟨_,q⟩
  .exact⟨_,q⟩
  .obtain⟨v,o,I,Q⟩:=d.cell x c (To q);exact⟨v,o,a _ _ I,Q⟩
 .show ZE B s2.heap.objs.size (.lst []) P.objs.size=Z8;rw[Zq (Ne.symm A)];exact d.hok.fresh f
 .rcases Si _ _ _ e with⟨_,q,_⟩| ⟨_,q⟩
  .have K:s2.heap.objs.size<c:=qA9 (by lia) q;rw[Zq (qF3 K)];exact d.hok.fresh (qF7 K)
  .obtain⟨v,o,I,Q⟩:=d.cell x c (To q);rw[Zq (qC0 (qB1 I))];exact d.freeC x c (To q)
 .exact⟨qF0 _,[],_,.nil,t⟩
 .unfold W0;rw[qC4,qE7,qA6];exact n.len.symm
theorem GN{K:yT->yQ->g7->yR->Prop}{Q:V->Hp->Prop}
  (I:Tp X scope N k js) (G:ZP X pins Z a s2) (T:XQ X.prog X.w X.K v B u A F) (j:F 0 s2.heap) (z:∀b∈u,Yx X pins a b)
  (hg:∀cl s H C ex,PG (XZ X scope N cl s H C ex) v g) (w:∀cl s H C ex,Uv (XZ X scope N cl s H C ex) f tc) (x:∀cl s H C ex,PE (XZ X scope N cl s H C ex) elt J)
  (P:∀D,a D=Z8->∃W:Nat->Nat->List V->Hp->Prop,(∃m,W 0 m [] (ZE a D (.lst [])))/\∀i m ys a,W i m ys a->P7 B D W (Q (.ref D)) g tc J (W0 k js Z) i m ys a)
  (y:∀cl C r n,s2.heap.objs.size<=C->s2.heap.objs.size≠C->ZP (XZ X scope N cl s2 a C u) [] (W0 k js Z) r n->Q (.ref s2.heap.objs.size) r->K (.ref s2.heap.objs.size) C (.ok .next) n) :
  yZ (yX X.prog X.w) X.A (newList []) (λacc s3=>yZ (yX X.prog X.w) X.A (gK scope X.env.globals (Yi X.env scope.names []) [] X.env.qual Z8 .none (Z9 X.env)) (λd E =>
   vO (yX X.prog X.w) X.A (.compStart (.ListComp elt [⟨v,iter,f,0⟩] scope pos) 0 (.ref A) acc { d with scope:=mX scope X.env }) (K acc d.locals) E) X.xe s3) X.xe s2:=by obtain⟨W,⟨m0,L⟩,h⟩:=P s2.heap.objs.size (G.hok.fresh (qA4 _));refine GO I G T j z λcl C E S U t l=>?_;refine zi (Y:=XZ X scope N cl s2 a C u) I.calm rfl T (λH' R b c=>⟨R b c,(t.ok.exf b c).1,t.ok.exfs b c,.inl c,(t.ok.exf b c).2,λp M=>by cases M⟩) (hg _ _ _ _ _) (w _ _ _ _ _) (x _ _ _ _ _) h (λr n O q=>y cl C r n S U O q) ⟨0,[],_,t,l,λb c=>?_,L⟩ l;obtain⟨o,e,_⟩:=T.obj _ _ j b c;rw[Zq (qC0 (qB1 e))];exact(z b c).1
theorem zh(w:Tp X scope N k js)(hi:PI X y iter J)
  (hg:∀cl s H C ex,PG (XZ X scope N cl s H C ex) y g) (A:∀cl s H C ex,Uv (XZ X scope N cl s H C ex) l tc) (B:∀cl s H C ex,PE (XZ X scope N cl s H C ex) elt L)
  (W:∀x,vN iter X.env x=pure x:=by intro _;rfl):PE X (.ListComp elt [⟨y,iter,l,0⟩] scope pos) (P6 J k js g tc L):=by
 intro r s Z H Q I h;refine wL rfl W (Ll λx f=>I.ok.has x (w.free x f)) w.kind w.names (Zx (hi r s Z H _ I h) λv s1 h1=>Zx h1 λV F h2=>?_);obtain⟨it,fp,tn,JJ,H2,e,K,T,D,j,Y⟩:=h2;subst e;refine GN w K T D j hg A B Y λcl C G M t R i q=>?_;obtain⟨m,hn,_⟩:=id i.loc;have P:G C=Z8:=i.free;refine⟨m,hn,λh' a=>⟨.ref F.heap.objs.size,G,?_,rfl,q⟩⟩;have E:∀b o,F.heap.get? b=Z9 o->b≠C:=λb o e=>qC0 (qA9 (qB1 e) t);refine K.call' (s':={ M with heap:=h' }) i.os ?_ (λb u e=>?_) i.bare (λb d=>⟨(j b d).2.2.2.1,(j b d).2.1,(j b d).2.2.2.2.1,(j b d).2.2.2.2.2⟩)
 .have U:=i.base;exact⟨λb o e n d f=>(a.2 b (E b o e)).trans (U.keep b o e n d f),λb o e n d f=>by
    obtain⟨sl,z⟩:=U.slot b o e n d f;exact⟨sl,(a.2 b (E b o e)).trans z⟩,U.free,λb o e f=>by
    obtain⟨O,z⟩:=U.there b o e f;exact⟨O,(a.2 b (E b o e)).trans z⟩,U.tups,U.frzs,U.tbls⟩
 .refine(i.hok b u e).stay (λc w' S p=>(a.2 c ?_).trans p) (λ_ p=>p) λ_ _ p=>p
  grind
end
theorem Li(h:H p=Z8)(o:HO):XP H (ZE H p o):=λb u q=>by rw[Zq (Vx q h)];exact q
theorem XP.tup{K:yP}(e:XP H b)(h:Zb K H a xs):Zb K b a xs:=by
 rcases h with(h|⟨o,h⟩)| h
 .exact .inl (.inl (e _ _ h))
 .exact .inl (.inr ⟨o,e _ _ h⟩)
 .exact .inr h
section
variable {X:Cx}{pins:yD}{Z:St}{H:Hp}{s:yR}
theorem ZP.yields{wr:yC}{T:yQ}(I:ZP X pins Z H s)(g:∀b∈wr,Yx X pins H b)(k:∀b o,b∉wr->s.heap.get? b=Z9 o->h'.get? b=Z9 o)
  (j:s.heap.objs.size<=T) (r:ZK xs its) (m:xs.length<=yW) (p:IsTup h' T its.toArray):ZP X pins Z (ZE H T (.tup xs)) { s with heap:=h',toks:=tk }:=by
 have l:∀b o,s.heap.get? b=Z9 o->b≠T:=λb o e=>qC0 (qA9 (qB1 e) j);have d:∀b u,H b=Z9 u->b≠T:=λb u e=>qC0 (qA9 (I.hok.lt e) j);have i:∀b u,H b=Z9 u->b∉wr:=λb u e a=>by rw[(g b a).1]at e;cases e
 refine I.call' (s':={ s with heap:=h',toks:=tk }) rfl ⟨λb o e n _ f=>k b o f e,λb o e n _ f=>⟨o.slots,k b o f e⟩,λb o e n _=>?_,λb o e f=>⟨o,k b o f e⟩,λb t e=>?_,λb o u e=>?_,λb w e=>⟨#[],?_⟩⟩ (λb u e=>?_) I.bare
  (λb a=>⟨(g b a).2.2.2.1,(g b a).2.1,(g b a).2.2.2.2.1,(g b a).2.2.2.2.2⟩)
 .rw[Zq (l b o e)];exact n
 .rw[Zq (d b _ e)];exact e
 .rw[Zq (d b _ e)];exact e
 .rw[Zq (d b _ e),e];simp
 .by_cases a:b=T
  .subst a;rw[YU]at e;cases e;exact⟨m,its,r,p⟩
  .rw[Zq a]at e;refine(I.hok b u e).stay (λc v h q=>k c v ?_ q) (λc q=>?_) λc t q=>?_
   .rcases h with rfl|h
    .exact i _ _ e
    .exact i _ _ h
   .rw[Zq (d c _ q)];exact q
   .rw[Zq (d c _ q)];exact q
theorem ZP.turnedL{wr:yC}(I:ZP X pins Z H s)(f:∀b∈wr,Yx X pins H b)(k:∀b o,b∉wr->s.heap.get? b=Z9 o->h'.get? b=Z9 o):ZP X pins Z H { s with heap:=h',toks:=tk }:=by
 have h:∀b u,H b=Z9 u->b∉wr:=λb u e a=>by rw[(f b a).1]at e;cases e
 refine I.call' (s':={ s with heap:=h',toks:=tk }) rfl ⟨λb o e n _ d=>k b o d e,λb o e n _ d=>⟨o.slots,k b o d e⟩,λb o e n _=>n,λb o e d=>⟨o,k b o d e⟩,λb i e=>e,λb o u e=>e,λb j e=>⟨#[],by rw[e];simp⟩⟩ (λb u e=>?_) I.bare
  (λb a=>⟨(f b a).2.2.2.1,(f b a).2.1,(f b a).2.2.2.2.1,(f b a).2.2.2.2.2⟩)
 refine(I.hok b u e).stay (λc v g q=>k c v ?_ q) (λc q=>q) λc i q=>q;rcases g with rfl|g
 .exact h _ _ e
 .exact h _ _ g
end
section
variable {X:Cx}
theorem zd:X1 X (.type "range") (λvs H Q=>∃i j:Int,vs=[.int i,.int j]/\∀p,H p=Z8->Q (.ref p) (ZE H p (.rng i j))):=by intro a s Z H k f Q I r h;obtain⟨i,j,rfl,q⟩:=h;obtain⟨u,v,rfl,c,d⟩:=Ra r;obtain⟨t,rfl⟩:=c;obtain⟨g,rfl⟩:=d;refine call_range_2 ⟨.ref s.heap.objs.size,_,I.laid (λb o e=>qA2 _ e) (qA4 _) ?_,rfl,q _ (I.hok.fresh (qA4 _))⟩;exact⟨_,_,_,qB5 _ rfl⟩
theorem za:X1 X (.type "range") (λvs H Q=>∃j:Int,vs=[.int j]/\∀p,H p=Z8->Q (.ref p) (ZE H p (.rng 0 j))):=by intro a s Z H f d Q I r h;obtain⟨j,rfl,q⟩:=h;obtain⟨u,rfl,c⟩:=WG r;obtain⟨t,rfl⟩:=c;refine call_range_1 ⟨.ref s.heap.objs.size,_,I.laid (λb o e=>qA2 _ e) (qA4 _) ?_,rfl,q _ (I.hok.fresh (qA4 _))⟩;exact⟨_,_,_,qB5 _ rfl⟩
def Q8(lo:Int)(n:Nat):List V:=(List.range n).map λk=>V.int (lo+(k:Nat))
theorem y1{lo:Int}{acc:yJ}(h:ItemsOf (λi v=>∃t,v=.int (lo+i*1) t) acc n):ZK (Q8 lo n) acc.toList:=by
 obtain⟨g,h⟩:=h;have c:∀k us lo,us.length=k->(∀i v,us[i]?=Z9 v->∃t,v=Value.int (lo+(i:Nat)) t)->ZK ((List.range k).map λj=>V.int (lo+(j:Nat))) us:=by
  intro k
  induction k with
  |zero=>intro us lo b _;cases us with
   |nil=>exact .nil
   |cons a r=>simp at b
  |succ k f =>
   intro us lo b d;cases us with
   |nil=>simp at b
   |cons a r =>
    rw[qK7,qB2,qE1];refine .cons ?_ ?_
    .obtain⟨t,e⟩:=d 0 a rfl;exact⟨t,e⟩
    .have:=f r (lo+1) (by simpa using b) λi v e=>by obtain⟨t,q⟩:=d (i+1) v (by simpa using e);exact⟨t,by rw[q];congr 1;lia⟩
     have e:((λj=>V.int (lo+(j:Nat)))∘Nat.succ)=λj=>V.int (lo+1+(j:Nat)):=by
      funext j;simp only[Function.comp];congr 1
      lia
     rw[e];exact this
 exact c n acc.toList lo (by simpa using g) λi v e=>by obtain⟨t,q⟩:=h i v (by simpa using e);exact⟨t,by rw[q,Int.mul_one]⟩
theorem y0(A:X.calm=Z7):X1 X (.type "list") (λvs H Q=>∃p i j,vs=[.ref p]/\H p=Z9 (.rng i j)/\-(2 ^ 62)<=i/\i<2 ^ 62/\-(2 ^ 62)<=j/\j<2 ^ 62/\(j - i).toNat<=1000/\∀l,H l=Z8->Q (.ref l) (ZE H l (.lst (Q8 i (j - i).toNat)))):=by
 intro c s Z H C B Q I r h;obtain⟨p,i,j,rfl,g,k,d,y,z,b,q⟩:=h;obtain⟨u,rfl,f⟩:=WG r;cases f;obtain⟨t,u,v,e⟩:=(I.hok _ _ g)
 refine call_list_range (I.ok.hd A) (e) (small_one k d y z) (by rw[rangeSize_one];split<;>lia) (qC6 b (by decide)) λD E a m hk x n=>?_;have w:=y1 n;refine⟨.ref s.heap.objs.size,_,I.laid (o:=.lst (Q8 i (j - i).toNat)) hk (qA4 _) ⟨?_,a.toList,m,w,by simpa using x⟩,rfl,q _ (I.hok.fresh (qA4 _))⟩;unfold Q8;rw[qA6,List.length_range];exact qC6 b (by decide)
def yz:V->List V->Hp->VK->Prop:=λx b H Q=>∃(l:yQ) (a:List V) (i:Nat) (y:V),x=.ref l/\b=[.int i,y]/\H l=Z9 (.lst a)/\a.length<1000/\i<=a.length/\Q .non (ZE H l (.lst (a.take i++y::a.drop i)))
theorem yx:Vh X "list.insert" yz:=by
 intro g s Z H x u v A Q I p k h;obtain⟨l,B,i,y,rfl,rfl,d,w,D,q⟩:=h;cases p;obtain⟨C,f,rfl,m,o⟩:=k.two;obtain⟨t,rfl⟩:=m;obtain⟨z,a,n,r,j,e⟩:=I.lstM d;generalize hx:(i:Int)=x;have b:¬(!Builtin.List.listFitsIndex x)=Z7:=by rw[fitsIndex_both (by lia) (by lia)];exact qB0
 have c:a.toArray.size<=sizeLine:=by rw[qB4,<- j];exact z
 refine vF F.slot_list_insert ⟨_,e,rfl⟩ F.entry_list_insert (F.args_list_insert_3 _ _ _) (PySem.AutoSeq1.list_insert_list_int_val_1 l _ n x t f b c) ⟨e,?_⟩;refine⟨.non,_,I.lset (its':=a.take i++f::a.drop i) d e ?_ ((r.take i).append (.cons o (r.drop i))) ?_,rfl,q⟩
 .have hk:(if x<0 then(x+(a.toArray.size:Int)).toNat else min x.toNat a.toArray.size)=i:=by
   rw[if_neg (by lia),qB4]
   lia
  rw[hk];simp;exact qD9 (by rw[qE8];exact qA4 _)
 .rw[qC4,qB6,qD2,qE8];have:1000<=sizeLine:=by decide
  lia
theorem yw{bs:List Bool}(r:ZK (bs.map V.bl) its):TruthOf prog w A (λi v=>its.toArray[i]?=Z9 v) (λi=>bs.getD i Z5):=by
 intro i v s Q E j g;have a:=by simpa using j
 have d:i<bs.length:=by
  have l:=(qA3.mp a).1;have h:=r.length;rw[qA6]at h
  lia
 obtain⟨u,e,f⟩:=ZK.get r (by rw[qC1,qA7 d];rfl);rw[e]at a;cases a;have c:=f;subst c;have k:bs.getD i Z5=bs[i]:=by simp[qP1,d]
 have b:Q (bs.getD i Z5) s:=g;rw[k]at b;exact jI b
theorem GM(bs:List Bool):(List.range bs.length).all (λi=>bs.getD i Z5)=bs.all id:=by
 induction bs with
 |nil=>rfl
 |cons b r a =>
  rw[qB6,qK7,qH7,qI9,qH7];rw[<- a];rfl
theorem yv(v:X.calm=Z7):X1 X (.builtin "all") (λvs H Q=>∃(p:yQ) (bs:List Bool),vs=[.ref p]/\Ys X.K H p (bs.map V.bl)/\Q (.bl (bs.all id)) H):=by
 intro j s Z H y x Q I r h;obtain⟨p,bs,rfl,n,q⟩:=h;obtain⟨u,rfl,l⟩:=WG r;cases l;obtain⟨c,g,d,w⟩:=I.list n;have f:p<s.heap.objs.size:=by obtain⟨_,e,_⟩:=d.isList;exact qB1 e
 have a:=g.length;rw[qA6]at a;refine call_all_walk (vE d.isList ?_);refine⟨s.heap.objs.size,_,[s.heap.objs.size],_,_,_,_,rfl,Walks.list (A:=X.A.in1) (I.ok.hd v) s.heap.objs.size p (qC0 f) c.toArray,⟨⟨_,qB5 _ rfl,rfl,rfl⟩,d.isList.push _⟩,yw g,λz t m=>?_⟩;have e:(List.range c.toArray.size).all (λi=>bs.getD i Z5)=bs.all id:=by rw[qB4,<- a];exact GM bs
 rw[e];refine⟨.bl (bs.all id),H,?_,rfl,q⟩;exact I.kept (t':=t) λb o k=>m b o (by simp only[qD7];exact qC0 (qB1 k)) (qA2 _ k)
theorem yu:Y3 X (y8 .Is) (λx y H Q=>∃a b,x=.bl a/\y=.bl b/\Q (.bl (a == b)) H):=by intro c s Z H x y v u Q I d e h;obtain⟨a,b,rfl,rfl,q⟩:=h;cases d;cases e;exact is_bool ⟨.bl (a == b),H,I,rfl,q⟩
theorem yt:Y3 X (y8 .IsNot) (λx y H Q=>∃a b,x=.bl a/\y=.bl b/\Q (.bl (a != b)) H):=by intro c s Z H x y v u Q I d e h;obtain⟨a,b,rfl,rfl,q⟩:=h;cases d;cases e;exact isnot_bool ⟨.bl (a != b),H,I,rfl,q⟩
end
section
variable {X:Cx}
def yr(K:yP):R2:=λx y H Q=>∃a b e c,x=.ref a/\y=.ref b/\H a=Z9 (.tup e)/\H b=Z9 (.tup c)/\e.length+c.length<=yW/\∀p d,XP H d->d p=Z9 (.tup (e++c))->Q (.ref p) d
theorem yq:Y3 X (jG .Add) (yr X.K):=by
 intro i s Z H x y v u Q I C t h;obtain⟨a,b,r,J,rfl,rfl,k,m,G,q⟩:=h;by_cases z:r=[]
 .subst z;cases C;cases t;obtain⟨F,L,M,_⟩:=I.tuple (Zb.of k);obtain⟨d,S,K,_⟩:=I.tuple (Zb.of m);have e:=(L.nil_iff).mpr rfl;subst e;obtain⟨⟨O,R,B,P⟩,w,D,n,A⟩:=id M;obtain⟨⟨o,j,data2,l⟩,f,g,N,c⟩:=id K;simp only at D A g c;subst D A g c;exact dN ⟨_,w,rfl⟩ ⟨_,f,rfl⟩ lF dC wX wS (wK _ _)
   (tuple_addW0 a b ([]).toArray d.toArray n N R j P l (by simp)) ⟨w,f,⟨.ref b,H,I,rfl,q b H (XP.refl H) m⟩⟩
 .refine z0 i s Z H (.ref a) (.ref b) v u Q I C t ⟨a,b,r,J,rfl,rfl,Zb.of k,Zb.of m,z,G,λe=>?_,λ_ p E=>q p _ (Li E _) YU⟩;subst e;exact q a H (XP.refl H) (by rw[qD6];exact k)
theorem yo(xs:List V)(lo hi:yG)(h:HT.sIx xs.length 0 lo=0/\HT.sIx xs.length xs.length hi=xs.length):W1 xs lo hi=xs:=by unfold W1;rw[h.1,h.2,qH3,Nat.sub_zero,qK3]
theorem ym{E:yL}{items:yJ}{lo hi:yG}{Q:yL}(a:IsTup s.heap t items)(i:s.heap.IsSliceOf e j g .none)(pl:g8 j lo)(n:g8 g hi)
  (k:HT.sIx items.size 0 lo=0/\HT.sIx items.size items.size hi=items.size)
  (h:Q (.ref t) s):yZ (yX prog w) A (gO (.ref t) (.ref e)) Q E s:=by
 obtain⟨l,d,c,m⟩:=id i;have f:s.TypeIs (.ref e) "slice":=⟨l,d,c⟩
 unfold gO
 try with_reducible refine jR ?_
 refine yO (wpAny_sequenceKey a.typeIs (by decide) ?_);refine yO (jK a.typeIs j7
  (jO j7 a.typeIs mZ ?_ (args_tuple_getitem _ _)))
 show yZ _ _ (Builtin.Tuple.tupleItemsOf (.ref t) >>= _) _ _ s;refine yO (tupleItemsOf_ a ?_);refine yO (wB f ?_);refine yO (HT.sliceApplied_gen i pl n ?_);have b:(((HT.sIx items.size 0 lo):Int) == 0&&(1:Int) == 1&&(HT.sIx items.size items.size hi - HT.sIx items.size 0 lo) == items.size)=Z7:=by rw[k.1,k.2];simp
 show yZ _ _ (if(((HT.sIx items.size 0 lo):Int) == 0&&1 == 1&&(HT.sIx items.size items.size hi - HT.sIx items.size 0 lo) == items.size)=Z7 then _ else _) _ _ s;rw[if_pos b];refine yO (yO (wB a.typeIs (yS ?_)));exact yO (gG (yS ⟨_,rfl,yS h⟩))
def yl(K:yP):V->yG->yG->Hp->VK->Prop:=λx lo d H Q=>∃a c,x=.ref a/\H a=Z9 (.tup c)/\∀p b,XP H b->b p=Z9 (.tup (W1 c lo d))->Q (.ref p) b
theorem yk:Sl X (yl X.K):=by
 intro d s Z H x v u t lo i w Q I n m k l h;obtain⟨a,b,rfl,f,q⟩:=h;by_cases g:HT.sIx b.length 0 lo=0/\HT.sIx b.length b.length i=b.length
 .cases n;obtain⟨e,r,j,y⟩:=I.tuple (Zb.of f);have c:e.toArray.size=b.length:=by exact r.length.symm
  refine⟨"tuple",_,PyProof.Rows.slot_tuple_getitem.lookup,j.typeIs,?_⟩;exact ym j m k l (by rw[c];exact g) ⟨.ref a,H,I,rfl,q a H (XP.refl H) (by rw[yo b lo i g];exact f)⟩
 .exact Ab d s Z H (.ref a) v u t lo i w Q I n m k l ⟨a,b,rfl,Zb.of f,g,λp o=>q p _ (Li o _) YU⟩
end
section
variable {X:Cx}{a b c d:yV}{ta tb tc td:TE}{pos:Pos}
theorem yj(ho:Y3 X (y8 A) r)(C:Y3 X (y8 g) M)(t:Y3 X (y8 i) m)(R:PE X a ta)(hb:PE X b tb)(hc:PE X c tc)(hd:PE X d td)
  (hm:fG [A,g,i] [b,c,d]=Z5:=by with_unfolding_all rfl):PT X (.Compare a [A,g,i] [b,c,d] pos) (fun Z H Q=>ta Z H λx B=>tb Z B λy o=>r x y o λz n=>∃k,z=.bl k /\
   (if k=Z7 then tc Z n λj p=>M y j p λJ l=>∃k2,J=.bl k2/\(if k2=Z7 then td Z l λv' q=>m j v' q λz3 w=>∃k3,z3=.bl k3/\Q k3 w else Q Z5 l)else Q Z5 n)):=by
 intro f s Z H Q I h;refine isTrue_chain (Zx (R f s Z H _ I h) λv s1 ⟨x,B,I1,r1,q1⟩=>test_link (Zx (hb f s1 Z B _ I1 q1) λu P ⟨y,o,I2,m,q2⟩ =>
  Zx (ho f P Z o x y v u _ I2 r1 m q2) λd s3 ⟨z,n,G,V,k,e,L⟩=>?_)) hm
 subst e;cases V;refine jI ?_;cases k with
 |false=>exact ite_ff ⟨n,G,L⟩
 |true =>
  refine ite_tt (test_link (Zx (hc f s3 Z n _ G L) λj U ⟨E,p,W,K,O⟩=>Zx (C f U Z p y E u j _ W m K O) λd' N ⟨J,l,F,T,k2,e2,D⟩=>?_));subst e2;cases T;refine jI ?_;cases k2 with
  |false=>exact ite_ff ⟨l,F,D⟩
  |true =>
   refine ite_tt (test_last (Zx (hd f N Z l _ F D) λY s6 ⟨z6,q,I6,r6,q6⟩=>Zx (t f s6 Z q E z6 j Y _ I6 K r6 q6) λd2 s7 ⟨z7,w,I7,r7,k3,e3,S⟩=>?_));subst e3;cases r7;exact jI ⟨w,I7,S⟩
end
def TK(K:yP)(H b:Hp):Prop:=∀p a,Zb K H p a->Zb K b p a
theorem TK.refl(K:yP)(H:Hp):TK K H H:=λ_ _ h=>h
theorem TK.trans{K:yP}(a:TK K H c)(b:TK K c H2):TK K H H2:=λp d h=>b p d (a p d h)
theorem dT{p:Prop}[Decidable p](h:p):decide p=Z7:=decide_eq_true h
theorem yi:jF "len"=Z9 (.builtin "len"):=by decide
theorem yh:jF "range"=Z9 (.type "range"):=by decide
theorem Lh:jF "list"=Z9 (.type "list"):=by decide
theorem GL:jF "tuple"=Z9 (.type "tuple"):=by decide
theorem yg:jF "min"=Z9 (.builtin "min"):=by decide
theorem yf:jF "max"=Z9 (.builtin "max"):=by decide
theorem ye:jF "zip"=Z9 (.type "zip"):=by decide
theorem yd:jF "isinstance"=Z9 (.builtin "isinstance"):=by decide
theorem yc:jF "all"=Z9 (.builtin "all"):=by decide
theorem GK:jF "int"=Z9 (.type "int"):=by decide
theorem yb:jF "bool"=Z9 (.type "bool"):=by decide
theorem ya:jF "enumerate"=Z9 (.type "enumerate"):=by decide
theorem GJ:jF "str"=Z9 (.type "str"):=by decide
section
variable {X:Cx}{scope:jW}{N:yH}{k:Nat}
def HJ(X:Cx)(scope:jW)(N:yH)(k:Nat)(js:List Nat):Prop:=∀i j,js[i]?=Z9 j->∃x,N[k+i]?=Z9 x/\X.N[j]?=Z9 x/\scope.names.lookup x=Z9 .free/\Vw X.env.scope x
theorem GI(e:N[k]?=Z9 a)(b0:X.N[b]?=Z9 a)(d:scope.names.lookup a=Z9 .free)(c:Vw X.env.scope a):HJ X scope N k [b]:=λi j h=>by
 match i,h with
 |0,h=>cases h;exact⟨a,e,b0,d,c⟩
 |i+1,h=>simp at h
theorem GH(n:N[k]?=Z9 b)(b0:X.N[c]?=Z9 b)(l:scope.names.lookup b=Z9 .free)(g:Vw X.env.scope b)
  (e:N[k+1]?=Z9 a) (b1:X.N[d]?=Z9 a) (f:scope.names.lookup a=Z9 .free) (m:Vw X.env.scope a):HJ X scope N k [c,d]:=λi j h=>by
 match i,h with
 |0,h=>cases h;exact⟨b,n,b0,l,g⟩
 |1,h=>cases h;exact⟨a,e,b1,f,m⟩
 |i+2,h=>simp at h
theorem GG(o:N[k]?=Z9 c)(b0:X.N[e]?=Z9 c)(l:scope.names.lookup c=Z9 .free)(n:Vw X.env.scope c)
  (p:N[k+1]?=Z9 b) (b1:X.N[d]?=Z9 b) (r:scope.names.lookup b=Z9 .free) (q:Vw X.env.scope b)
  (m:N[k+2]?=Z9 a) (b2:X.N[f]?=Z9 a) (s:scope.names.lookup a=Z9 .free) (g:Vw X.env.scope a):HJ X scope N k [e,d,f]:=λi j h=>by
 match i,h with
 |0,h=>cases h;exact⟨c,o,b0,l,n⟩
 |1,h=>cases h;exact⟨b,p,b1,r,q⟩
 |2,h=>cases h;exact⟨a,m,b2,s,g⟩
 |i+3,h=>simp at h
end
structure C4 where
 a:Int
 b:Int
 k:Int
 o:Int
def C4.ok(sw pl:Int)(c:C4):Prop:=0<=c.a/\c.a<c.b/\c.b<pl/\0<=c.k/\c.k<sw/\0<=c.o/\c.o<2
inductive UR(K:yP)(H:Hp):V->String->Prop where
 |non:UR K H .non "NoneType"
 |bl (x:Bool):UR K H (.bl x) "bool"
 |int (i:Int):UR K H (.int i) "int"
 |str (x:Str):UR K H (.str x) "str"
 |tup {a:yQ}{xs:List V} (e:Zb K H a xs):UR K H (.ref a) "tuple"
 |lst {a:yQ}{xs:List V} (e:Ys K H a xs):UR K H (.ref a) "list"
 |dk {a:yQ}{kvs:List (ZA×V)} (e:H a=Z9 (.dK kvs)):UR K H (.ref a) "dict"
def GF(t T:String):Bool:=t == T||(t == "bool"&&T == "int")
section
variable {X:Cx}
theorem xZ{E:yL}{Z:St}{Q:yL}(I:ZP X g Z H s)(d:ZF x u)(v:UR X.K H x t)(e:vP X.K (.type t) c=Z9 b)(h:∀tk,Q (.bool b) { s with toks:=tk }):
  yZ (yX X.prog X.w) A (call (.builtin "isinstance") [u,c]) Q E s:=by
 cases v with
 |non=>cases (d);exact wU W.kitx_none I.kIn True.intro e (λz=>nomatch z) h
 |bl y=>cases (d);exact wU W.kitx_bool I.kIn True.intro e (λz=>nomatch z) h
 |int i=>obtain⟨t,q⟩:=(d);cases q;exact wU W.kitx_int I.kIn True.intro e (λz=>nomatch z) h
 |str y=>obtain⟨t,q⟩:=(d);cases q;exact wU W.kitx_str I.kIn True.intro e (λz=>nomatch z) h
 |@lst a r f =>
  cases (show u=Value.ref a from d);obtain⟨l,_,m,_⟩:=I.list f;obtain⟨o,j,k,_⟩:=m.isList;exact wU W.kitx_list I.kIn ⟨o,j,k⟩ e (λz=>nomatch z) h
 |@tup a r f =>
  cases (show u=Value.ref a from d);obtain⟨l,_,m,_⟩:=I.tuple f;obtain⟨o,j,k,_⟩:=m;exact wU W.kitx_tuple I.kIn ⟨o,j,k⟩ e (λz=>nomatch z) h
 |@dk a n f =>
  cases (show u=Value.ref a from d);obtain⟨_,_,w,_,p⟩:=(I.hok a _ f)
  obtain⟨o,B,C,j,k,_⟩:=p;exact wU W.kitx_dict I.kIn ⟨o,j,k.1⟩ e (λz=>nomatch z) h
theorem xY:X1 X (.builtin "isinstance") (λvs H Q=>∃x t T b,vs=[x,.ty T]/\UR X.K H x t/\vP X.K (.type t) (.type T)=Z9 b/\Q (.bl b) H):=by intro a s Z H j i Q I r h;obtain⟨x,t,T,b,rfl,d,e,q⟩:=h;obtain⟨u,v,rfl,c,f⟩:=Ra r;cases f;exact xZ I c d e λg=>⟨.bl b,H,I.tok g,rfl,q⟩
end
theorem xX(K:yP):(∀t∈["NoneType","bool","int","str","tuple","list","dict"],∀T∈["bool","int","tuple","list","str","dict"],vP K (.type t) (.type T)=Z9 (GF t T)):=by intro t b T a;simp only[qA8,qB8,or_false]at b a;rcases b with rfl|rfl|rfl|rfl|rfl|rfl|rfl<;>rcases a with rfl|rfl|rfl|rfl|rfl|rfl<;>rfl
mutual
inductive Rp(K:yP)(H:Hp)(a0:yQ->Prop):V->vK->Prop where
 |non:Rp K H a0 .non .none
 |bl (b:Bool):Rp K H a0 (.bl b) (.bool b)
 |int (i:Int):Rp K H a0 (.int i) (.int i)
 |str (x:Str):Rp K H a0 (.str x) (.str x)
 |tup {p:yQ}{xs:List V}{ds:List vK} (h:Zb K H p xs) (r:RpL K H a0 xs ds):Rp K H a0 (.ref p) (.tuple ds)
 |lst {p:yQ}{xs:List V}{ds:List vK} (n:a0 p) (h:Ys K H p xs) (r:RpL K H a0 xs ds):Rp K H a0 (.ref p) (.list ds)
inductive RpL(K:yP)(H:Hp)(a0:yQ->Prop):List V->List vK->Prop where
 |nil:RpL K H a0 [] []
 |cons {x:V}{xs:List V}{d:vK}{ds:List vK} (h:Rp K H a0 x d) (t:RpL K H a0 xs ds):RpL K H a0 (x::xs) (d::ds)
end
def C4.d(c:C4):PyData:=.tuple [.int c.a,.int c.b,.int c.k,.int c.o]
section
variable {prog:yY}{w:jC}{A:jE}{E:yL}{s:yR}
theorem xW{vs:yJ}{Q:yL}(c:s.heap.IsTupleIter j t n)(e:s.heap.IsTuple t vs)(g:vs[n]?=Z9 v)
  (q:∀h',h'.IsTupleIter j t (n+1)->qF2 j s.heap h'->Q v { s with heap:=h' }):yZ (yX prog w) A (Builtin.SmallTypes.nextOf (.ref j)) Q E s:=by obtain⟨k,b,h,a⟩:=id c;obtain⟨i,f,_,m,d⟩:=e;refine yO (jK c.typeIs vI (jO vI c.typeIs gA ?_ (fX _)));show yZ _ _ (field (.ref j) 0 >>= _) _ _ s;refine yO (jJ b a (x:=.ref t) rfl ?_);refine yO (jJ b a (x:=.int n 0) rfl ?_);refine yO (vW f d ?_);simp only[g,qE6];refine yO (j3 b a (by simp) (yS ⟨v,rfl,yS (q _ ?_ (qF2.update ..))⟩));refine⟨_,qD3 _ b (jD (jA a _)),(fA ..).trans h,?_⟩;rw[jA a];simp[vZ]
theorem xV{vs:yJ}{Q:yL}(f:A.handled=Z8)(d:s.heap.IsTupleIter j t n)(h:s.heap.IsTuple t vs)(k:vs[n]?=Z8)
  (q:∀h' e,Heap.ExtBut j s.heap h'->(∃o,h'.get? e=Z9 o/\o.cls=.type "StopIteration")->E (.ref e) { s with heap:=h' }):yZ (yX prog w) A (Builtin.SmallTypes.nextOf (.ref j)) Q E s:=by
 obtain⟨r,b,p,c⟩:=id d;obtain⟨l,i,_,m,g⟩:=h;refine yO (jK d.typeIs vI (jO vI d.typeIs gA ?_ (fX _)));show yZ _ _ (field (.ref j) 0 >>= _) _ _ s;refine yO (jJ b c (x:=.ref t) rfl ?_);refine yO (jJ b c (x:=.int n 0) rfl ?_);refine yO (vW i g ?_);simp only[k,qE6];refine yO (gG (yO (j3 b c (by simp) ?_)));refine yO ?_;refine yO (m:=firstArgMember _ _) (wpAny_of_eq (a:=Value.none) (by first|(simp only[firstArgMember];rfl)| rfl) ?_);refine jP ?_ (by size_fits);refine yO (wpAny_handled ?_)
 first|rw[f]| rw[show A.in1.handled=Z8 from f]
 refine yO (yS (uD ?_));exact q _ _ (((qF2.update ..).extBut.push _).push _) ⟨_,qB5 _ rfl,rfl⟩
end
theorem xU{prog:yY}{w:jC}{A:jE}(k:A.handled=Z8)(j t:yQ)(b:t≠j)(vs:yJ):
  Draws prog w A j [j,t] vs.size (λi v=>vs[i]?=Z9 v) (λi h=>h.IsTupleIter j t i/\h.IsTuple t vs) where
 live:=λ_ _ a=>let ⟨o,ho,_⟩:=a.1;⟨o,ho⟩
 frame:=λ_ _ _ a c=>⟨a.1.at λo e=>c j (by simp) o e,let ⟨o,ho,r⟩:=a.2;⟨o,c t (by simp) o ho,r⟩⟩
 item:=λi s Q E n a g=>xW a.1 a.2 (v:=vs[i]) (by simp) λl m d=>g _ l s.toks (by simp) ⟨m,a.2.extBut d.extBut b⟩ d
 done:=λs Q E a f=>xV k a.1 a.2 (by simp) f
theorem xT(l:yQ)(items:yJ)(n:Nat)(b:Option yQ)(j:Array (yF)):
  Meets (Builtin.«enumerate.__new__» ⟨[.type "enumerate",.ref l],[]⟩) (λ_ R s=>s.heap.get? l=Z9 { cls:=.type "tuple",dict:=b,data:=.seq items n,slots:=j } /\
   R (.ok (.ret (.ref (s.heap.push { cls:=.type "tuple_iterator",data:=.fields #[.ref l,.int 0 0] }).objs.size)))
    { s with heap:=(s.heap.push { cls:=.type "tuple_iterator",data:=.fields #[.ref l,.int 0 0] }).push { cls:=.type "enumerate",data:=.fields #[.none,.bool Z5,.ref s.heap.objs.size,vZ 0,.none,.none] } }) :=
 .of_wp λi w A R s h=>by
  obtain⟨k,g,d,m,o⟩:=s;obtain⟨a,h⟩:=h;have f:=sub_enumerate;have e:qJ0 (Shared.heap ⟨k,g,d,m,o⟩) l items:=⟨_,a,rfl,n,rfl⟩
  wp_walk using AutoSeq1.wpAny_loadPart' a
  refine wpAny_stack_any λp=>yS ?_;split
  .rename_i c _ _ _ _ _;cases (c == Value.type "enumerate")<;>(wp_walk using AutoSeq1.wpAny_loadPart' a,jX e;exact⟨_,rfl,h⟩)
  .wp_walk using AutoSeq1.wpAny_loadPart' a,jX e
   exact⟨_,rfl,h⟩
section
variable {X:Cx}{pins:yD}{Z:St}{H:Hp}{s:yR}
mutual
theorem ZP.reads(I:ZP X pins Z H s){p:yQ->Prop}:∀{x:V}{d:vK}{u:yT},Rp X.K H p x d->ZF x u->∃c,Reads s.heap u d c
 |_,_,u,.non,r=>by cases (r);exact⟨_,.none⟩
 |_,_,u,.bl b,r=>by cases (r);exact⟨_,.bool b⟩
 |_,_,u,.int i,r=>by obtain⟨t,q⟩:=(r);cases q;exact⟨_,.int i t⟩
 |_,_,u,.str y,r=>by obtain⟨t,q⟩:=(r);cases q;exact⟨_,.str y t⟩
 |_,_,u,.tup h l,r=>by cases (r);obtain⟨a,e,⟨o,j,k,n,f⟩,_⟩:=I.tuple h;obtain⟨c,g⟩:=I.readsL l e;exact⟨_,.tuple j k f (by simpa using g)⟩
 |_,_,u,.lst _ h l,r=>by cases (r);obtain⟨a,e,m,_⟩:=I.list h;obtain⟨o,j,k,n,f⟩:=m.isList;obtain⟨c,g⟩:=I.readsL l e;exact⟨_,.list j k f (by simpa using g)⟩
theorem ZP.readsL(I:ZP X pins Z H s){e:yQ->Prop}:∀{xs:List V}{ds:List vK}{us:yB},RpL X.K H e xs ds->ZK xs us->∃c,ReadsAll s.heap us ds c
 |_,_,_,.nil,.nil=>⟨_,.nil⟩
 |_,_,_,.cons h t,.cons r d=>by obtain⟨g,a⟩:=I.reads h r;obtain⟨f,b⟩:=I.readsL t d;exact⟨_,.cons a b⟩
end
def Tj(d:vK):Prop:=d.canLay0=Z7/\d.depth<=60
theorem xS(n:X.A.units+64<vT):Y3 X (y8 .Eq) (λx y H Q=>∃(N c:yQ->Prop) (a b:vK),Rp X.K H N x a/\Rp X.K H c y b/\Tj a/\Tj b/\Q (.bl (PyData.eqv a b)) H):=by intro d s Z H x y v u Q I m i h;obtain⟨N,c,a,b,k,g,e,f,q⟩:=h;obtain⟨o,l⟩:=I.reads k m;obtain⟨bs,j⟩:=I.reads g i;exact SeqAt.compareEq_reads l j e.1 f.1 (by have:=e.2;lia) ⟨.bl _,H,I,rfl,q⟩
theorem xR(n:X.A.units+64<vT):Y3 X (y8 .NotEq) (λx y H Q=>∃(N c:yQ->Prop) (a b:vK),Rp X.K H N x a/\Rp X.K H c y b/\Tj a/\Tj b/\Q (.bl (!PyData.eqv a b)) H):=by intro d s Z H x y v u Q I m i h;obtain⟨N,c,a,b,k,g,e,f,q⟩:=h;obtain⟨o,l⟩:=I.reads k m;obtain⟨bs,j⟩:=I.reads g i;exact SeqAt.compareNe_reads l j e.1 f.1 (by have:=e.2;lia) ⟨.bl _,H,I,rfl,q⟩
end
def XG(b:Bool)(K:yP)(H:Hp)(a:yQ)(xs:List V):Prop:=match b with
 |true=>Zb K H a xs
 |false=>Ys K H a xs
def VQ(b:Bool)(h:jB)(a:yQ)(vs:yJ):Prop:=match b with
 |true=>h.IsTuple a vs
 |false=>h.IsList a vs
def Wk(b:Bool)(h:jB)(j a:yQ)(i:Nat):Prop:=match b with
 |true=>h.IsTupleIter j a i
 |false=>h.IsListIter j a i
theorem Wk.obj(x:Wk b h j a i):∃o,h.get? j=Z9 o/\∀v,o.data≠.cell v:=by
 cases b with
 |true=>obtain⟨o,d,_,c⟩:=x;exact⟨o,d,λv q=>by rw[c]at q;cases q⟩
 |false=>obtain⟨o,d,_,c⟩:=x;exact⟨o,d,λv q=>by rw[c]at q;cases q⟩
theorem Wk.keep(x:Wk b h j a i)(e:∀o,h.get? j=Z9 o->h'.get? j=Z9 o):Wk b h' j a i:=by
 cases b with
 |true=>exact Heap.IsTupleIter.at x e
 |false=>exact Heap.IsListIter.at x e
theorem VQ.lt(x:VQ b h a vs):a<h.objs.size:=by
 cases b with
 |true=>obtain⟨_,e,_⟩:=x;exact qB1 e
 |false=>obtain⟨_,e,_⟩:=x;exact qB1 e
theorem Q7(b:Bool)(c:A.handled=Z8)(j t:yQ)(a:t≠j)(vs:yJ):
  Draws prog w A j [j,t] vs.size (λi v=>vs[i]?=Z9 v) (λi h=>Wk b h j t i/\VQ b h t vs):=by
 cases b with
 |true=>exact xU c j t a vs
 |false=>exact Draws.list c j t a vs
section
variable {X:Cx}{pins:yD}{Z:St}{H:Hp}{s:yR}
theorem ZP.sqX(I:ZP X pins Z H s)(h:XG b X.K H a xs):∃its,ZK xs its/\VQ b s.heap a its.toArray:=by
 cases b with
 |true=>obtain⟨its,r,p,_⟩:=I.tuple h;exact⟨its,r,p⟩
 |false=>obtain⟨its,r,p,_⟩:=I.list h;exact⟨its,r,p.isList⟩
theorem ZP.sqX_inj(I:ZP X pins Z H s)(h:XG b X.K H a xs)(h':XG b X.K H a ys):xs=ys:=by
 cases b with
 |true=>exact I.tuple_inj h h'
 |false=>exact I.list_inj h h'
end
def Vf(b:Bool)(K:yP)(a:yQ):It :=
  ⟨λi H=>∃c x,XG b K H a c/\c[i]?=Z9 x,
   λi H v d=>∃T,H T=Z8/\v=.ref T/\∀c x,XG b K H a c->c[i]?=Z9 x->d=ZE H T (.tup [.int i,x]),
   λi H=>∃c,XG b K H a c/\i=c.length⟩
theorem Sh{P:yQ->Prop}:∀x∈([]:yC),P x:=λ_ h=>by cases h
theorem XO{P:yQ->Prop}{l:yC}(h:P a)(t:∀x∈l,P x):∀x∈a::l,P x:=by grind
theorem GE{ws:yC}(h:∀b∈ws,Yx X a H b)(n:∀b∈ws,b≠T):∀b∈ws,Yx X a (ZE H T o) b:=λb c=>⟨by rw[Zq (n b c)];exact(h b c).1,(h b c).2⟩
structure P5(b:Bool)(e it a:yQ)(i:Nat)(h:jB):Prop where
 a1:∃old,IsEnum h e it (i:Nat) old
 a2:Wk b h it a i
theorem P5.obj(st:P5 b e d a i h):∀c∈[e,d],∃o,h.get? c=Z9 o/\∀v,o.data≠.cell v:=by obtain⟨_,f⟩:=st.a1;exact XO ⟨_,f,λv q=>by cases q⟩ (XO st.a2.obj Sh)
theorem P5.ne(st:P5 b e d a i h){T:yQ}(f:h.objs.size<=T):∀c∈[e,d],c≠T:=λc g=>by obtain⟨o,z,_⟩:=st.obj c g;exact qC0 (qA9 (qB1 z) f)
theorem xQ{i:Nat}{Z:St}(I:ZP X d Z H s)(f:XG b X.K H a xs)(ex:xs[i]?=Z9 x)(c:List V)(e:V)(g:XG b X.K H a c)(h:c[i]?=Z9 e):ZE H T (.tup [.int i,x])=ZE H T (.tup [.int i,e]):=by
 have j:=I.sqX_inj f g
 simp_all
theorem xP{c:yB}{a:yJ}(f:c[i]?=Z9 d)(e:∃b v,c.toArray[i]?=Z9 v/\a=#[.int (i:Nat) b,v]):∃b,a=#[.int (i:Nat) b,d]:=by simp_all
theorem GD{P:yY}{w:jC}{K:PySem.W.Frag}{q:yE}{k:Nat}{pos:Pos}(b:Bool)(e l a:yQ)(g:e≠l)(p:e≠a)(u:a≠l):
  XQ P w K (.Tuple q k pos) (Vf b K a) [e,l] e (P5 b e l a) where
 mem:=by simp
 obj:=λi h f=>f.obj
 keep:=λi h y ⟨⟨B,h1⟩,h2⟩ m=>⟨⟨B,m e (by simp) _ h1⟩,h2.keep λo z=>m l (by simp) o z⟩
 item:=by intro X U O F n i j s Z H E I t f S;subst U O F;obtain⟨xs,x,v,ex⟩:=S;obtain⟨d,G,L⟩:=I.sqX v;obtain⟨u1,Y,M⟩:=G.get ex;have D:=Q7 (prog:=X.prog) (w:=X.w) (A:=X.A.in1) b (I.ok.hd n) l a u d.toArray;have W:=WalksT.enumerateD D e g (by simp[g,p]) (by simp);have hl1:=(qA3.mp Y).1;refine W.item i s _ _ (by omega) ⟨f.1,f.2,L⟩ λT V y Q hv C R hM m=>?_;obtain⟨tt,J⟩:=xP Y hv;subst J;have nT:=f.ne C;refine⟨_,rfl,W.go _ _ _ i T { s with heap:=y,toks:=Q } _ _ hM λh2 r N=>?_⟩;have I1:ZP X j Z (ZE H T (.tup [.int i,x])) { s with heap:=y,toks:=Q }:=I.yields t m C (.cons ⟨tt,rfl⟩ (.cons M .nil)) (by show 2<=yW;decide) R;exact⟨.ref T,_,I1.turnedL (GE t nT) N,rfl,⟨T,I.hok.fresh C,rfl,xQ I v ex⟩,⟨r.1,r.2.1⟩,λc n=>by rw[Zq (nT c n)];exact(t c n).1⟩
 done:=by
  intro X U O F n i j s Z H E I t f S;subst U O F;obtain⟨xs,v,ei⟩:=S;obtain⟨d,G,L⟩:=I.sqX v;have D:=Q7 (prog:=X.prog) (w:=X.w) (A:=X.A.in1) b (I.ok.hd n) l a u d.toArray;have W:=WalksT.enumerateD D e g (by simp[g,p]) (by simp);have en:i=d.toArray.size:=by rw[qB4,<- G.length];exact ei
  refine W.done s _ _ (by rw[<- en];exact⟨f.1,f.2,L⟩) λy Q m=>?_;exact⟨rfl,I.turnedL t m⟩
 self:=λ_ _ _ _ _ f h=>let ⟨⟨_,z⟩,_⟩:=f;gU z h
section
variable {X:Cx}
def GC(K:yP)(d:TA):TI:=fun Z H R=>d Z H λe b=>∃a,e=[.ref a]/\((∃c,Zb K b a c)/\R (Vf Z7 K a) b∨(∃c,Ys K b a c)/\R (Vf Z5 K a) b)
theorem xO{u:yE}(W:Gl X "enumerate")(N:X.mg "enumerate"=Z8)(K:PA X [a] J)(P:y7 [a] X.env=[(Z5,jU a X.env)]:=by rfl):
  PI X (.Tuple u k m) (.Call (.Name "enumerate" p) [a] [] pos) (GC X.K J):=by
 intro v s Z H R I h;refine Call_ (Su I W N ya (jZ (Zx (K pos v s Z H _ I h) λus d ⟨vs,G,j,F,Q⟩=>?_) (by rw[P];rfl) (by rfl)));obtain⟨t,e,q⟩:=Q;subst e;rcases q with⟨⟨O,A⟩,q⟩| ⟨⟨O,A⟩,q⟩
 .cases F with
  |cons r C =>
   cases C;cases r;obtain⟨f,M,w,Y⟩:=j.tuple A;obtain⟨⟨c,y,T,V⟩,D,hc,n,B⟩:=id w
   replace B:T=.seq f.toArray n:=B
   subst hc B;have i:=qB1 D;refine callType_new PySem.F.called_enumerate (by decide) (PySem.F.typeCall_enumerate_1 _) (PySem.F.newCall_enumerate_1 _) (λobj=>PySem.F.args_object_init_2 obj _) PySem.F.entry_enumerate_new (xT t f.toArray n y V) ⟨D,?_⟩;have E:(d.heap.push { cls:=.type "tuple_iterator",data:=.fields #[.ref t,.int 0 0] }).objs.size=d.heap.objs.size+1:=qE4 ..;show _/\_;rw[E];have l:=by have z:=qB5 (d.heap.push { cls:=.type "tuple_iterator",data:=.fields #[.ref t,.int 0 0] }) (o:={ cls:=.type "enumerate",data:=.fields #[.none,.bool Z5,.ref d.heap.objs.size,vZ 0,.none,.none] }) rfl;rw[E]at z;exact z
   refine⟨⟨_,l,rfl⟩,?_⟩;refine gU l ?_;have kp:∀b o,d.heap.get? b=Z9 o->((d.heap.push { cls:=.type "tuple_iterator",data:=.fields #[.ref t,.int 0 0] }).push { cls:=.type "enumerate",data:=.fields #[.none,.bool Z5,.ref d.heap.objs.size,vZ 0,.none,.none] }).get? b=Z9 o:=λb o x=>qA2 _ (qA2 _ x);refine⟨_,_,_,_,G,rfl,j.kept (t':=d.toks) kp,GD Z7 (d.heap.objs.size+1) d.heap.objs.size t (qN4 _) (qF3 (qG1 i)) (qC0 i),⟨⟨_,l⟩,⟨_,qA2 _ (qB5 _ rfl),rfl,rfl⟩⟩,λb S=>?_,q⟩;have g:d.heap.objs.size<=b:=by
    grind
   exact j.fpOk g (j.hok.fresh g)
 .cases F with
  |cons r C =>
   cases C;cases r;obtain⟨f,M,w,Y⟩:=j.list A;have i:t<d.heap.objs.size:=by obtain⟨_,e,_⟩:=w.isList;exact qB1 e
   refine call_enumerate_list w.isList λh' l U L hk=>?_;refine gU l ?_;refine⟨_,_,_,_,G,rfl,j.kept (t':=d.toks) hk,GD Z5 (d.heap.objs.size+1) d.heap.objs.size t (qN4 _) (qF3 (qG1 i)) (qC0 i),⟨⟨_,l⟩,U⟩,λb S=>?_,q⟩;have g:d.heap.objs.size<=b:=by
    grind
   exact j.fpOk g (j.hok.fresh g)
end
section
variable {X:Cx}
def xN(K:yP):V->List V->Hp->VK->Prop:=λx c H Q=>∃(l:yQ) (b:List V) (y:V) (N e:yQ->Prop) (dx:vK) (a:List vK) (j:Nat),
 x=.ref l/\c=[y]/\H l=Z9 (.lst b)/\Rp K H N y dx/\Tj dx/\RpL K H e b a/\(∀d∈a,Tj d)/\b.length<1000000/\(∃d,a[j]?=Z9 d/\PyData.eqv d dx=Z7)/\(∀m d,m<j->a[m]?=Z9 d->PyData.eqv d dx=Z5)/\Q (.int j) H
theorem P4{h:jB}:∀{ds:List vK}{us:yB}{c:yC}{i:Nat}{u:yT},ReadsAll h us ds c->us[i]?=Z9 u->∃d bs,ds[i]?=Z9 d/\Reads h u d bs
 |_,_,_,i,u,.nil,e=>by simp at e
 |_,_,_,0,u,.cons r a,e=>by simp at e;subst e;exact⟨_,_,rfl,r⟩
 |_,_,_,i+1,u,.cons r a,e=>by obtain⟨d,bs,f,b⟩:=P4 a e;exact⟨d,bs,by exact f,b⟩
open Classical in
def P0(h:jB)(dx:vK)(y:yT):Bool:=decide (∃d a,Reads h y d a/\d.canLay0=Z7/\PyData.eqv d dx=Z7)
theorem NX{b:yC}(r:Reads h y d b)(c:d.canLay0=Z7):P0 h dx y=PyData.eqv d dx:=by
 classical
 cases q:PyData.eqv d dx with
 |true=>exact decide_eq_true ⟨d,b,r,c,q⟩
 |false =>
  refine decide_eq_false ?_;rintro⟨f,a,e,g,i⟩;have:=SeqAt.Reads.unique d f y b a c r e
  simp_all
theorem xM(Y:X.A.units+64<vT):Vh X "list.index" (xN X.K):=by
 intro G s Z H x vs v us Q I W P h;obtain⟨l,xs,y,N,N',dx,O,j,rfl,rfl,L,M,V,E,i,F,⟨d0,k,t⟩,C,q⟩:=h;cases W;obtain⟨u,rfl,K⟩:=P.one;obtain⟨z,a,n,r,hl,e⟩:=I.lstM L;obtain⟨bs,S⟩:=I.reads M K;obtain⟨as,B⟩:=I.readsL E r;have T:=SeqAt.ReadsAll.length _ _ _ B;have J:j<a.length:=by rw[T];exact(qA3.mp k).1
 have p:∀m (g:m<a.length),∃d,O[m]?=Z9 d/\P0 s.heap dx a[m]=PyData.eqv d dx:=λm g=>by obtain⟨d,R,c,f⟩:=P4 B (qA7 g);exact⟨d,c,NX f (i d (qC2 c)).1⟩
 refine vF lH ⟨_,e,rfl⟩ PySem.F.entry_list_index (PySem.F.args_list_index_2 _ _)
  (SeqAt.list_indexAt l a.toArray n _ _ u (P0 s.heap dx) j (by simpa using J) (by lia) ?_ ?_) ⟨e,λw U=>?_,?_⟩
 .obtain⟨d,c,f⟩:=p j J;rw[k]at c;cases c;rw[<- t,<- f];simp
 .intro m g A;obtain⟨d,c,f⟩:=p m (by simpa using g);rw[<- C m d A c,<- f];simp
 .obtain⟨m,g,rfl⟩:=qM1 (by simpa using U:w∈a);obtain⟨d,R,c,f⟩:=P4 B (qA7 g);have D:=i d (qC2 c);rw[NX f D.1];refine SeqAt.eqAt_reads d dx _ s _ _ _ _ f S D.1 V.1 ?_;have:=D.2;show X.A.units+1+min d.depth dx.depth<vT
  lia
 .exact⟨.int j,H,I.kept (t':=s.toks+1) λb o q=>q,⟨_,rfl⟩,q⟩
end
structure NW(z TI TO i1 i2:yQ)(f1 f2:yC):Prop where
 TIz:TI≠z
 TOz:TO≠z
 i1z:i1≠z
 i2z:i2≠z
 TITO:TI≠TO
 TIi1:TI≠i1
 TIi2:TI≠i2
 TOi1:TO≠i1
 TOi2:TO≠i2
 i12:i1≠i2
 z1:z∉f1
 z2:z∉f2
 O1:TO∉f1
 O2:TO∉f2
 j1:i2∉f1
 j2:i1∉f2
section
variable {prog:yY}{w:jC}{A:jE}{E:yL}{s:yR}
variable {z TI TO i1 i2:yQ}{f1 f2:yC}{n1 n2 k:Nat}{P1 P2:Nat->yT->Prop}{S1 S2:Nat->jB->Prop}
theorem Draws.sb{a:yC}{St:Nat->jB->Prop}(D:Draws prog w A j a n P St)(st:St i h)(sb:qF2 c h h')(f:c∉a):St i h' :=
 D.frame _ _ _ st λb d o e=>sb.extBut b o (λq=>f (q▸d)) e
theorem GB(J:dD s.heap z TI TO .none)(hTI:fJ s.heap TI (.ref i1) (.ref i2))(hTO:fJ s.heap TO a b)(g:A.handled=Z8)
  (t:∀A:jE,A.handled=Z8->Draws prog w A i1 f1 n1 P1 S1) (r:∀A:jE,A.handled=Z8->Draws prog w A i2 f2 n2 P2 S2) (d:NW z TI TO i1 i2 f1 f2) (h1:S1 k s.heap) (h2:S2 k s.heap)
  (hQ:k<n1->k<n2->∀x y h' tk,P1 k x->P2 k y->dD h' z TI TO (vZ s.heap.objs.size)->fJ h' TO x y->S1 (k+1) h'->S2 (k+1) h'->fJ h' s.heap.objs.size x y->h'.objs.size=s.heap.objs.size+1 ->
   (∀c o,c≠z->c≠TO->c≠i1->c≠i2->s.heap.get? c=Z9 o->h'.get? c=Z9 o)->Q (.done (.ret (.ref s.heap.objs.size))) { s with heap:=h',toks:=tk })
  (hE:(k=n1∨k=n2)->∀h' e tk,(∀c o,c≠z->c≠TO->c≠i1->c≠i2->s.heap.get? c=Z9 o->h'.get? c=Z9 o)->(∃o,h'.get? e=Z9 o/\o.cls=.type "StopIteration")->E (.ref e) { s with heap:=h',toks:=tk })
  (V:k<=n1) (W:k<=n2):yZ (yX prog w) A (Builtin.«zip.__next__» ⟨[.ref z],[]⟩) Q E s:=by
 show yZ _ _ (field (.ref z) 2 >>= _) _ _ _;refine yO (jJ J rfl (x:=.bool Z5) rfl ?_);refine yO (jJ J rfl (x:=.ref TI) rfl ?_);refine yO (vW hTI rfl ?_);refine yO ?_;refine yO (jJ J rfl (x:=.none) rfl (yS ?_));refine yO (gG ?_);refine yO (jJ J rfl (x:=.ref TO) rfl ?_);refine yO (wC J (by simp) λha N n=>?_)
 replace N:dD ha z TI TO .ellipsis:=N
 have I:=Draws.sb (t A g) h1 n d.z1;have s2a:=Draws.sb (r A g) h2 n d.z2;have oa:=n.extBut _ _ d.TOz hTO;refine yO ?_;simp only[List.zipIdx_cons,List.zipIdx_nil,qG7,List.forIn_nil];refine yO (yO (wpAny_onRaise ?_));by_cases l1:k<n1
 .refine yO ((t _ g).item k _ _ _ l1 I λx O tb px s1b sb=>yS ?_);have ob:=sb.extBut _ _ d.TOi1 oa;have s2b:=Draws.sb (r A g) s2a sb d.j2;have zb:=sb.extBut _ _ d.i1z.symm N;refine yO (vW ob rfl ?_);refine yO (mS ob λhc oc B=>?_);have U:=Draws.sb (t A g) s1b B d.O1;have L:=Draws.sb (r A g) s2b B d.O2;have zc:=B.extBut _ _ d.TOz.symm zb;refine yO (wpAny_letGo (yS ?_));refine yO (yO (wpAny_onRaise ?_));by_cases Z:k<n2
  .refine yO ((r _ g).item k _ _ _ Z L λy hd td py s2d l=>yS ?_);have od:fJ hd TO x b:=l.extBut _ _ d.TOi2 oc;have s1d:=Draws.sb (t A g) U l d.j1;have u:=l.extBut _ _ d.i2z.symm zc;refine yO (vW od rfl ?_);refine yO (mS od λi m K=>?_)
   replace m:fJ i TO x y:=m
   have R:=Draws.sb (t A g) s1d K d.O1;have s2e:=Draws.sb (r A g) s2d K d.O2;have ze:=K.extBut _ _ d.TOz.symm u;refine yO (wpAny_letGo (yS (yS ?_)));refine yO (vW m rfl ?_);refine yO (wpAny_newTuple ?_);have G:i.objs.size=s.heap.objs.size:=by rw[K.1,l.1,B.1,sb.1,n.1]
   have kp:∀c o,c≠z->c≠TO->c≠i1->c≠i2->s.heap.get? c=Z9 o->i.get? c=Z9 o:=λc o h C v H e =>
    K.extBut _ _ C (l.extBut _ _ H (B.extBut _ _ C (sb.extBut _ _ v (n.extBut _ _ h e))))
   have D:=qB1 ze;refine yO ?_;have zf:dD (i.push { cls:=.type "tuple",data:=.seq #[x,y] }) z TI TO .ellipsis:=qA2 _ ze;refine yO (wC zf (by simp) λhg zg T=>?_)
   replace zg:dD hg z TI TO (vZ i.objs.size):=zg
   refine wC zg (by simp) λM P si=>?_
   replace P:dD M z TI TO (vZ i.objs.size):=P
   have up:∀c o,c≠z->i.get? c=Z9 o->M.get? c=Z9 o:=λc o h e=>si.extBut _ _ h (T.extBut _ _ h (qA2 _ e));have tz:=si.extBut _ _ (qF3 D) (T.extBut _ _ (qF3 D) (qB5 _ rfl));have zz:M.objs.size=i.objs.size+1:=by rw[si.1,T.1,qE4]
   have Y:=(t A g).frame _ _ _ R λb O o e=>up b o (λq=>d.z1 (q▸O)) e;have S:=(r A g).frame _ _ _ s2e λb O o e=>up b o (λq=>d.z2 (q▸O)) e;rw[G]at P tz zz;refine yS ?_;rw[G];exact hQ l1 Z x y M td px py P (up _ _ d.TOz m) Y S tz zz λc o h C v H e=>up c o h (kp c o h C v H e)
  .have e2:=qO3 W (qK2 Z);refine yO ((r _ g).done _ _ _ (e2▸L) λhd e l i=>?_);obtain⟨m,f,j⟩:=i;have u:=l _ _ d.i2z.symm zc;have p:e≠z:=λq=>by subst q;rw[u]at f;cases f;simp at j
   refine wC u (by simp) λX _ F=>hE (.inr e2) X e tb (λc o h C v H q=>F.extBut _ _ h (l _ _ H (B.extBut _ _ C (sb.extBut _ _ v (n.extBut _ _ h q))))) ⟨m,F.extBut _ _ p f,j⟩
 .have e1:=qO3 V (qK2 l1);refine yO ((t _ g).done _ _ _ (e1▸I) λhd e l i=>?_);obtain⟨m,f,j⟩:=i;have u:=l _ _ d.i1z.symm N;have p:e≠z:=λq=>by subst q;rw[u]at f;cases f;simp at j
  exact wC u (by simp) λX _ F=>hE (.inl e1) X e s.toks (λc o h _ v _ q=>F.extBut _ _ h (l _ _ v (n.extBut _ _ h q))) ⟨m,F.extBut _ _ p f,j⟩
theorem WalksT.zipD(r:A.handled=Z8)(G:∀A:jE,A.handled=Z8->Draws prog w A i1 f1 n1 P1 S1)(D:∀A:jE,A.handled=Z8->Draws prog w A i2 f2 n2 P2 S2)(n:NW z TI TO i1 i2 f1 f2)(Z:i1∈f1)(m2:i2∈f2):
  WalksT prog w A z (z::TI::TO::f1++f2) [z,TO,i1,i2] (min n1 n2) (λi B=>∃x y,P1 i x/\P2 i y/\B=#[x,y])
   (λi h=>dD h z TI TO .none/\fJ h TI (.ref i1) (.ref i2)/\(∃a b,fJ h TO a b)/\S1 i h/\S2 i h)
   (λi T h=>dD h z TI TO (vZ T)/\fJ h TI (.ref i1) (.ref i2)/\(∃a b,fJ h TO a b)/\S1 (i+1) h/\S2 (i+1) h/\T≠z/\T≠TO/\T≠i1/\T≠i2) where
 sub:=λc g=>by simp at g ⊢;rcases g with rfl|rfl|rfl|rfl<;>simp[Z,m2]
 frame:=λi h C j hk=>by obtain⟨m,d,⟨a,b,f⟩,t,u⟩:=j;exact⟨hk z (by simp) _ m,hk TI (by simp) _ d,⟨a,b,hk TO (by simp) _ f⟩,(G A r).frame _ _ _ t λb I o e=>hk b (by simp[I]) o e,(D A r).frame _ _ _ u λb I o e=>hk b (by simp[I]) o e⟩
 item:=λi s Q E hi j v=>by
  obtain⟨m,d,⟨a,b,f⟩,t,u⟩:=j;have p:s.TypeIs (.ref z) "zip":=⟨_,m,rfl⟩
  have lt:∀{c o},s.heap.get? c=Z9 o->s.heap.objs.size≠c:=λe=>qF3 (qB1 e);refine yO (vS (jK p fY
   (jO fY p F.entry_zip_next (GB m d f r G D n t u (λ_ _ x y C L R py Y O S N a5 a6 hk=>⟨_,rfl,yS ?_⟩) (λq=>by lia) (by lia) (by lia)) (F.args_zip_next_1 _))))
  refine v s.heap.objs.size #[x,y] C L ⟨x,y,R,py,rfl⟩ (qA4 _) ⟨_,a5,rfl,_,rfl⟩ ⟨Y,hk _ _ n.TIz n.TITO n.TIi1 n.TIi2 d,⟨_,_,O⟩,S,N,lt m,lt f,?_,?_⟩
   λc o g e=>hk c o (λx=>g (by simp[x])) (λx=>g (by simp[x])) (λx=>g (by simp[x])) (λx=>g (by simp[x])) e
  .obtain⟨_,e⟩:=(G A r).live _ _ t;exact lt e
  .obtain⟨_,e⟩:=(D A r).live _ _ u;exact lt e
 go:=λK k M i T s Q E H v=>by obtain⟨m,d,⟨a,b,f⟩,t,u,_⟩:=H;refine wpAny_letOwnedTupleGo_zip m λC J l=>v C ⟨J,l.extBut _ _ n.TIz d,⟨a,b,l.extBut _ _ n.TOz f⟩,Draws.sb (G A r) t l n.z1,Draws.sb (D A r) u l n.z2⟩ λc o g e=>l.extBut _ _ (λx=>g (by simp[x])) e
 apart:=λi T h H p=>by
  obtain⟨_,_,_,_,_,W,V,U,P⟩:=H;simp at p;rcases p with rfl|rfl|rfl|rfl
  .exact W rfl
  .exact V rfl
  .exact U rfl
  .exact P rfl
 done:=λs Q E j v=>by
  obtain⟨m,d,⟨a,b,f⟩,t,u⟩:=j;have p:s.TypeIs (.ref z) "zip":=⟨_,m,rfl⟩
  refine yO (vS (jK p fY
   (jO fY p F.entry_zip_next (GB m d f r G D n t u (λq1 q2=>by lia) (λ_ C e L hk he=>?_) (by lia) (by lia)) (F.args_zip_next_1 _))))
  obtain⟨o,X,g⟩:=he;refine yO (fL ⟨o,X,g⟩ isSubtype_stop ?_);exact yS (v _ _ λc o g e=>hk c o (λx=>g (by simp[x])) (λx=>g (by simp[x])) (λx=>g (by simp[x])) (λx=>g (by simp[x])) e)
 self:=λi s Q E j v=>lK j.1 v
end
def Ut(b:Bool)(l:yQ):Obj:={ cls:=.type (if b then "tuple_iterator" else "list_iterator"),data:=.fields #[.ref l,.int 0 0] }
abbrev NV(h:jB)(b1 b2:Bool)(b a:yQ):Heap:=(h.push (Ut b1 b)).push (Ut b2 a)
abbrev NU(h:jB)(b1 b2:Bool)(a b:yQ):Heap:=(NV h b1 b2 a b).push { cls:=.type "tuple",data:=.seq #[.ref h.objs.size,.ref (h.push (Ut b1 a)).objs.size] }
abbrev Ti(h:jB)(b1 b2:Bool)(b a:yQ):Heap:=(NU h b1 b2 b a).push { cls:=.type "tuple",data:=.seq #[.none,.none] }
abbrev UQ(h:jB)(b1 b2:Bool)(b a:yQ):Heap:=(Ti h b1 b2 b a).push { cls:=.type "zip",data:=.fields #[.none,.bool Z5,.bool Z5,.ref (NV h b1 b2 b a).objs.size,.ref (NU h b1 b2 b a).objs.size] }
theorem xK(b a:yQ)(xs ys:yJ):
  Meets (Builtin.«zip.__new__» ⟨[.type "zip",.ref b,.ref a],[]⟩) (λ_ R s=>s.heap.IsTuple b xs/\s.heap.IsTuple a ys /\
   R (.ok (.ret (.ref (Ti s.heap Z7 Z7 b a).objs.size))) { s with heap:=UQ s.heap Z7 Z7 b a }) :=
 .of_wp λk w A R s h=>by
  obtain⟨l,g,d,m,n⟩:=s;obtain⟨e,i,h⟩:=h;have j:=sub_zip;have c:=e;have f:qJ0 (Shared.heap ⟨l.push { cls:=.type "tuple_iterator",data:=.fields #[.ref b,.int 0 0] },g,d,m,n⟩) a ys:=qJ0.push i _
  wp_walk using jX c,jX f
  exact⟨_,rfl,h⟩
theorem xI(b a:yQ)(xs ys:yJ):
  Meets (Builtin.«zip.__new__» ⟨[.type "zip",.ref b,.ref a],[]⟩) (λ_ R s=>s.heap.IsTuple b xs/\s.heap.IsList a ys /\
   R (.ok (.ret (.ref (Ti s.heap Z7 Z5 b a).objs.size))) { s with heap:=UQ s.heap Z7 Z5 b a }) :=
 .of_wp λk w A R s h=>by
  obtain⟨l,g,d,m,n⟩:=s;obtain⟨e,i,h⟩:=h;have j:=sub_zip;have c:=e;have f:qI5 (Shared.heap ⟨l.push { cls:=.type "tuple_iterator",data:=.fields #[.ref b,.int 0 0] },g,d,m,n⟩) a ys:=qI5.push i _
  wp_walk using jX c,vE f
  exact⟨_,rfl,h⟩
theorem xG(b a:yQ)(xs ys:yJ):
  Meets (Builtin.«zip.__new__» ⟨[.type "zip",.ref b,.ref a],[]⟩) (λ_ R s=>s.heap.IsList b xs/\s.heap.IsTuple a ys /\
   R (.ok (.ret (.ref (Ti s.heap Z5 Z7 b a).objs.size))) { s with heap:=UQ s.heap Z5 Z7 b a }) :=
 .of_wp λk w A R s h=>by
  obtain⟨l,g,d,m,n⟩:=s;obtain⟨e,i,h⟩:=h;have j:=sub_zip;have c:=e;have f:qJ0 (Shared.heap ⟨l.push { cls:=.type "list_iterator",data:=.fields #[.ref b,.int 0 0] },g,d,m,n⟩) a ys:=qJ0.push i _
  wp_walk using vE c,jX f
  exact⟨_,rfl,h⟩
theorem xF(b a:yQ)(xs ys:yJ):
  Meets (Builtin.«zip.__new__» ⟨[.type "zip",.ref b,.ref a],[]⟩) (λ_ R s=>s.heap.IsList b xs/\s.heap.IsList a ys /\
   R (.ok (.ret (.ref (Ti s.heap Z5 Z5 b a).objs.size))) { s with heap:=UQ s.heap Z5 Z5 b a }) :=
 .of_wp λk w A R s h=>by
  obtain⟨l,g,d,m,n⟩:=s;obtain⟨e,i,h⟩:=h;have j:=sub_zip;have c:=e;have f:qI5 (Shared.heap ⟨l.push { cls:=.type "list_iterator",data:=.fields #[.ref b,.int 0 0] },g,d,m,n⟩) a ys:=qI5.push i _
  wp_walk using vE c,vE f
  exact⟨_,rfl,h⟩
theorem xE(b1 b2:Bool)(b a:yQ)(xs ys:yJ):
  Meets (Builtin.«zip.__new__» ⟨[.type "zip",.ref b,.ref a],[]⟩) (λ_ R s=>VQ b1 s.heap b xs/\VQ b2 s.heap a ys /\
   R (.ok (.ret (.ref (Ti s.heap b1 b2 b a).objs.size))) { s with heap:=UQ s.heap b1 b2 b a }):=by
 cases b1 with
 |true=>cases b2 with
  |true=>exact xK b a xs ys
  |false=>exact xI b a xs ys
 |false=>cases b2 with
  |true=>exact xG b a xs ys
  |false=>exact xF b a xs ys
theorem GA(e:h.get? j=Z9 (Ut b l)):Wk b h j l 0:=by
 cases b with
 |true=>exact⟨_,e,rfl,rfl⟩
 |false=>exact⟨_,e,rfl,rfl⟩
theorem Gz(b:Bool)(l:yQ):(Ut b l).isFreed=Z5:=by cases b<;>rfl
section
variable {prog:yY}{w:jC}{A:jE}{E:yL}{s:yR}
theorem xD{Q:yL}(g:VQ b1 s.heap a xs)(d:VQ b2 s.heap b ys)
  (h:∀h',dD h' (s.heap.objs.size+4) (s.heap.objs.size+2) (s.heap.objs.size+3) .none->fJ h' (s.heap.objs.size+2) (.ref s.heap.objs.size) (.ref (s.heap.objs.size+1)) ->
   fJ h' (s.heap.objs.size+3) .none .none->Wk b1 h' s.heap.objs.size a 0->Wk b2 h' (s.heap.objs.size+1) b 0 ->
   (∀c o,s.heap.get? c=Z9 o->h'.get? c=Z9 o)->Q (.ref (s.heap.objs.size+4)) { s with heap:=h' }) :
  yZ (yX prog w) A (call (.type "zip") [.ref a,.ref b]) Q E s:=by
 refine callType_new F.called_zip (by decide) (F.typeCall_zip_2 _ _) (F.newCall_zip_2 _ _) (λobj=>F.args_object_init_3 obj _ _) F.entry_zip_new (xE b1 b2 a b xs ys) ⟨g,d,?_⟩;have j:(s.heap.push (Ut b1 a)).objs.size=s.heap.objs.size+1:=qE4 ..;have e:(NV s.heap b1 b2 a b).objs.size=s.heap.objs.size+2:=by rw[qE4,j]
 have f:(NU s.heap b1 b2 a b).objs.size=s.heap.objs.size+3:=by rw[qE4,e]
 have k:(Ti s.heap b1 b2 a b).objs.size=s.heap.objs.size+4:=by rw[qE4,f]
 have i:(UQ s.heap b1 b2 a b).get? (Ti s.heap b1 b2 a b).objs.size=Z9 _:=qB5 _ rfl;have m:(UQ s.heap b1 b2 a b).get? (NU s.heap b1 b2 a b).objs.size=Z9 _:=qA2 _ (qB5 _ rfl);have l:(UQ s.heap b1 b2 a b).get? (NV s.heap b1 b2 a b).objs.size=Z9 _:=qA2 _ (qA2 _ (qB5 _ rfl));have n:(UQ s.heap b1 b2 a b).get? (s.heap.push (Ut b1 a)).objs.size=Z9 (Ut b2 b):=qA2 _ (qA2 _ (qA2 _ (qB5 _ (Gz _ _))));have p:(UQ s.heap b1 b2 a b).get? s.heap.objs.size=Z9 (Ut b1 a):=qA2 _ (qA2 _ (qA2 _ (qA2 _ (qB5 _ (Gz _ _)))));rw[e,f,k]at i;rw[j,e]at l;rw[f]at m;rw[j]at n;rw[k];exact⟨⟨_,i,rfl⟩,h _ i l m (GA p) (GA n) λc o x =>
  qA2 _ (qA2 _ (qA2 _ (qA2 _ (qA2 _ x))))⟩
end
theorem xC(d:b<n)(c:a<n):NW (n+4) (n+2) (n+3) n (n+1) [n,b] [n+1,a]:=by constructor<;>(try simp only[qA8,qB8,or_false,not_or])<;>(try refine⟨?_,?_⟩)<;>(show ¬(_=_))<;>(simp only[yQ]at *;lia)
inductive PZ(b1 b2:Bool)(K:yP)(H:Hp)(a b:yQ)(i:Nat):Prop
 |mk (xs ys:List V) (x y:V) (q1:XG b1 K H a xs) (q2:XG b2 K H b ys) (ex:xs[i]?=Z9 x) (ey:ys[i]?=Z9 y)
inductive Lg(b1 b2:Bool)(K:yP)(H:Hp)(a b:yQ)(i:Nat):Prop
 |mk (xs ys:List V) (q1:XG b1 K H a xs) (q2:XG b2 K H b ys) (ei:i=min xs.length ys.length)
def Sg(b1 b2:Bool)(K:yP)(a b:yQ):It :=
  ⟨λi H=>PZ b1 b2 K H a b i,
   λi H v e=>∃T,H T=Z8/\v=.ref T/\∀d c x y,XG b1 K H a d->XG b2 K H b c->d[i]?=Z9 x->c[i]?=Z9 y->e=ZE H T (.tup [x,y]),
   λi H=>Lg b1 b2 K H a b i⟩
structure PY(b1 b2:Bool)(z TI TO i1 i2 l1 l2:yQ)(i:Nat)(h:jB):Prop where
 a1:dD h z TI TO .none
 a2:fJ h TI (.ref i1) (.ref i2)
 a3:∃a b,fJ h TO a b
 a4:Wk b1 h i1 l1 i
 a5:Wk b2 h i2 l2 i
section
variable {b1 b2:Bool}{z TI TO i1 i2 l1 l2:yQ}{i:Nat}{h:jB}
theorem PY.obj(st:PY b1 b2 z TI TO i1 i2 l1 l2 i h):∀b∈[z,TI,TO,i1,i2],∃o,h.get? b=Z9 o/\∀v,o.data≠.cell v:=by obtain⟨_,_,a⟩:=st.a3;exact XO ⟨_,st.a1,λv q=>by cases q⟩ (XO ⟨_,st.a2,λv q=>by cases q⟩ (XO ⟨_,a,λv q=>by cases q⟩ (XO st.a4.obj (XO st.a5.obj Sh))))
theorem PY.ne(st:PY b1 b2 z TI TO i1 i2 l1 l2 i h){T:yQ}(a:h.objs.size<=T):∀b∈[z,TI,TO,i1,i2],b≠T:=λb c=>by obtain⟨o,e,_⟩:=st.obj b c;exact qC0 (qA9 (qB1 e) a)
theorem Sf:∀b∈[z,TO,i1,i2],b∈[z,TI,TO,i1,i2]:=by simp_all
inductive xB(b1 b2:Bool)(X:Cx)(s:yR)(H:Hp)(l1 l2:yQ)(i:Nat):Prop
 |mk (xs ys:List V) (x y:V) (t1 t2:yB) (u1 u2:yT) (q1:XG b1 X.K H l1 xs) (q2:XG b2 X.K H l2 ys) (ex:xs[i]?=Z9 x) (ey:ys[i]?=Z9 y) (p1:VQ b1 s.heap l1 t1.toArray) (p2:VQ b2 s.heap l2 t2.toArray)
  (e1:t1[i]?=Z9 u1) (e2:t2[i]?=Z9 u2) (r1:ZF x u1) (r2:ZF y u2)
variable {X:Cx}{pins:yD}{Z:St}{H:Hp}{s:yR}
theorem xA(I:ZP X pins Z H s)(u:PZ b1 b2 X.K H l1 l2 i):xB b1 b2 X s H l1 l2 i:=by obtain⟨m,k,x,y,f,g,ex,e⟩:=u;obtain⟨a,n,p⟩:=I.sqX f;obtain⟨b,r,l⟩:=I.sqX g;obtain⟨t,j,d⟩:=n.get ex;obtain⟨o,q,c⟩:=r.get e;exact⟨m,k,x,y,a,b,t,o,f,g,ex,e,p,l,j,q,d,c⟩
theorem xy{b c:yB}{a:yJ}(g:b[i]?=Z9 d)(f:c[i]?=Z9 e)(j:∃v1 v2,b.toArray[i]?=Z9 v1/\c.toArray[i]?=Z9 v2/\a=#[v1,v2]):a=#[d,e]:=by simp_all
theorem xw(I:ZP X pins Z H s)(f:XG b1 X.K H l1 xs)(j:XG b2 X.K H l2 ys)(ex:xs[i]?=Z9 x)(k:ys[i]?=Z9 y)(a b:List V)(d c:V)(g:XG b1 X.K H l1 a)(e:XG b2 X.K H l2 b)(m:a[i]?=Z9 d)(l:b[i]?=Z9 c):ZE H T (.tup [x,y])=ZE H T (.tup [d,c]):=by
 have n:=I.sqX_inj f g;have o:=I.sqX_inj j e
 simp_all
end
theorem xu{P:yY}{w:jC}{K:PySem.W.Frag}{t:yE}{k:Nat}{pos:Pos}(b1 b2:Bool)(z TI TO l j r q:yQ)(D:NW z TI TO l j [l,r] [j,q])(d1:r≠l)(d2:q≠j):
  XQ P w K (.Tuple t k pos) (Sg b1 b2 K r q) [z,TI,TO,l,j] z (PY b1 b2 z TI TO l j r q) where
 mem:=by simp
 obj:=λi h a=>a.obj
 keep:=λi h B ⟨a1,a2,⟨x,y,a3⟩,a4,a5⟩ g =>
  ⟨g z (by simp) _ a1,g TI (by simp) _ a2,⟨x,y,g TO (by simp) _ a3⟩,a4.keep λo e=>g l (by simp) o e,a5.keep λo e=>g j (by simp) o e⟩
 item:=by intro X S O M F i m s Z H E I v a R;subst S O M;obtain⟨xs,ys,x,y,c,d,u1,u2,Y,q2,ex,ey,V,L,e1,e2,N,G⟩:=xA I R;have W:=WalksT.zipD (prog:=X.prog) (w:=X.w) (I.ok.hd F) (λA p=>Q7 b1 p l r d1 c.toArray) (λA p=>Q7 b2 p j q d2 d.toArray) D (by simp) (by simp);have hl1:=(qA3.mp e1).1;have hl2:=(qA3.mp e2).1;have u:=λb n=>v b (Sf b n);refine W.item i s _ _ (by simp only[qB4];lia) ⟨a.a1,a.a2,a.a3,⟨a.a4,V⟩,a.a5,L⟩ λT vals B tk hv J Q hM g=>?_;have U:=xy e1 e2 hv;subst U;have nT:=a.ne J;refine⟨_,rfl,W.go _ _ _ i T { s with heap:=B,toks:=tk } _ _ hM λh2 f C=>?_⟩;have I1:ZP X m Z (ZE H T (.tup [x,y])) { s with heap:=B,toks:=tk }:=I.yields u g J (.cons N (.cons G .nil)) (by show 2<=yW;decide) Q;have I2:=I1.turnedL (tk:=tk) (GE u λb n=>nT b (Sf b n)) C;exact⟨.ref T,_,I2,rfl,⟨T,I.hok.fresh J,rfl,xw I Y q2 ex ey⟩,⟨f.1,f.2.1,f.2.2.1,f.2.2.2.1.1,f.2.2.2.2.1⟩,λb n=>by rw[Zq (nT b n)];exact(v b n).1⟩
 done:=by
  intro X S O M F i m s Z H E I v a R;subst S O M;obtain⟨xs,ys,Y,q2,ei⟩:=R;obtain⟨c,r1,V⟩:=I.sqX Y;obtain⟨d,r2,L⟩:=I.sqX q2;have W:=WalksT.zipD (prog:=X.prog) (w:=X.w) (I.ok.hd F) (λA p=>Q7 b1 p l r d1 c.toArray) (λA p=>Q7 b2 p j q d2 d.toArray) D (by simp) (by simp);have en:i=min c.toArray.size d.toArray.size:=by simp only[qB4,<- r1.length,<- r2.length];exact ei
  refine W.done s _ _ (by rw[<- en];exact⟨a.a1,a.a2,a.a3,⟨a.a4,V⟩,a.a5,L⟩) λB tk g=>?_;exact⟨rfl,I.turnedL (λb n=>v b (Sf b n)) g⟩
 self:=λ_ _ _ _ _ a h=>lK a.a1 h
section
variable {X:Cx}
def Gy(K:yP)(g:TA):TI:=fun Z H R=>g Z H λh c=>∃a b e d,h=[.ref a,.ref b]/\(∃i,XG e K c a i)/\(∃f,XG d K c b f)/\R (Sg e d K a b) c
theorem xt{g:yE}{k:Nat}{c:Pos}{p pos:Pos}(Q:Gl X "zip")(E:X.mg "zip"=Z8)(C:PA X [a,b] z)(J:y7 [a,b] X.env=[(Z5,jU a X.env),(Z5,jU b X.env)]:=by rfl)(d:y7 [b] X.env=[(Z5,jU b X.env)]:=by rfl):
  PI X (.Tuple g k c) (.Call (.Name "zip" p) [a,b] [] pos) (Gy X.K z):=by
 intro i s Z H R I h;refine Call_ (Su I Q E ye (jZ (Zx (C pos i s Z H _ I h) λV y ⟨T,K,f,F,L⟩=>?_) (by rw[J,d]) (by rw[d];rfl)));obtain⟨B,P,D,A,e,⟨Y,M⟩,⟨W,N⟩,q⟩:=L;subst e;cases F with
 |cons r o =>
  cases o with
  |cons O o =>
   cases o;cases r;cases O;obtain⟨u,U,n⟩:=f.sqX M;obtain⟨w,S,l⟩:=f.sqX N;refine xD n l λh' v m t hi1 hi2 hk=>?_;refine lK v ?_;have G:=f.kept (t':=y.toks) hk;refine⟨_,_,_,_,K,rfl,G,xu D A _ _ _ _ _ B P (xC n.lt l.lt) (qC0 n.lt) (qC0 (qG1 l.lt)),⟨v,m,⟨_,_,t⟩,hi1,hi2⟩,λb x=>?_,q⟩;have j:y.heap.objs.size<=b:=by
    simp only[qA8,qB8,or_false]at x;rcases x with rfl|rfl|rfl|rfl|rfl
    .exact qI3 _ _
    .exact qI3 _ _
    .exact qI3 _ _
    .exact qA4 _
    .exact qI3 _ _
   exact f.fpOk j (f.hok.fresh j)
end
section
variable {X:Cx}{pins:yD}{Z:St}{H:Hp}{s:yR}{scope:jW}{N:yH}{C:yQ}{ex:yC}
theorem xr{f:yE}(L:PG X (.Name B pos') y)(K:wI (.ListComp elt [⟨t,iter,f,0⟩] scope pos) (Z9 (.Name B pos')) a.line X.env=pure Z7)
  (u:Tp X scope N k js) (hi:PI X t iter P)
  (hg:∀cl s H C ex,PG (XZ X scope N cl s H C ex) t g) (A:∀cl s H C ex,Uv (XZ X scope N cl s H C ex) f tc) (E:∀cl s H C ex,PE (XZ X scope N cl s H C ex) elt R)
  (hs:∀x,vN iter X.env x=pure x:=by intro _;rfl):PS X (.Assign [.Name B pos'] (.ListComp elt [⟨t,iter,f,0⟩] scope pos) a) (Vj (P6 P k js g tc R) y):=by
 intro c s Z H D0 I h;rw[exec_Assign_Name_used _ _ _ _ K];refine yO (gX (yO ?_));refine yO (jH (wL rfl hs (Ll λx hx=>I.ok.has x (u.free x hx)) u.kind u.names (Zx (hi c s Z H _ I h) λv s1 h1=>Zx h1 λitv S h2=>?_)) (λ_ s' hq=>yS (yS hq)) λ_ _ e=>e);obtain⟨it,fp,tn,JJ,H2,e,F,T,J,j,hW⟩:=h2;subst e;refine GN (Q:=λx H1=>y x Z H1 D0.nx) u F T J j hg A E hW λcl C W w p hDC i q=>?_;obtain⟨m,r,_⟩:=id i.loc;have D:W C=Z8:=i.free;have IA:=F.call' (s':=w) i.os i.base i.hok i.bare (λb d=>⟨(j b d).2.2.2.1,(j b d).2.1,(j b d).2.2.2.2.1,(j b d).2.2.2.2.2⟩);have U:∀{M:Hp},M C=Z8->∀b∈[C],Yx X c M b:=λr b d=>by
  have:=by simpa using d
  subst this;exact F.fpOk p r
 have O:∀b∈[C],∃o,w.heap.get? b=Z9 o/\∀v,o.data≠.cell v:=λb d=>by
  have:=by simpa using d
  subst this;obtain⟨o,_,_,ho,hd,_⟩:=id r;exact⟨o,ho,λv z=>by rw[hd]at z;cases z⟩
 have IB:=IA.pinned (U D) O;refine Zx (L _ w Z W (.ref S.heap.objs.size) (.ref S.heap.objs.size) _ IB rfl q) λ_ s6 ⟨Z6,H6,Y,q6⟩=>?_;obtain⟨oc,n,_⟩:=O C (by simp);have l:=Y.pin (C,oc) (qD0 _ (qD0 _ (Sr (by simp) n)));refine⟨m,r.at' λo e=>?_,λh' G=>⟨Z6,H6,?_,q6⟩⟩
 .have V:w.heap.get? C=Z9 o:=e;rw[n]at V;cases V;exact l.1
 .exact Y.unpinned.turnedL (U l.2.1) λb o nb e=>G.extBut b o (by simpa using nb) e
end
abbrev Gx(h:jB)(T:yQ)(a b c:yT):Prop:=h.get? T=Z9 { cls:=.type "tuple",data:=.seq #[a,b,c] }
structure xq(z TI TO i1 i2 i3:yQ)(f1 f2 f3:yC):Prop where
 TIz:TI≠z
 TOz:TO≠z
 i1z:i1≠z
 i2z:i2≠z
 i3z:i3≠z
 TITO:TI≠TO
 TIi1:TI≠i1
 TIi2:TI≠i2
 TIi3:TI≠i3
 TOi1:TO≠i1
 TOi2:TO≠i2
 TOi3:TO≠i3
 z1:z∉f1
 z2:z∉f2
 z3:z∉f3
 O1:TO∉f1
 O2:TO∉f2
 O3:TO∉f3
 a12:i1∉f2
 a13:i1∉f3
 a21:i2∉f1
 a23:i2∉f3
 a31:i3∉f1
 a32:i3∉f2
inductive xp(K:yP)(H:Hp)(a b c:yQ)(i:Nat):Prop
 |mk (xs ys us:List V) (x y u:V) (q1:Ys K H a xs) (q2:Zb K H b ys) (q3:Zb K H c us) (ex:xs[i]?=Z9 x) (ey:ys[i]?=Z9 y) (eu:us[i]?=Z9 u)
inductive xo(K:yP)(H:Hp)(a b c:yQ)(i:Nat):Prop
 |mk (xs ys us:List V) (q1:Ys K H a xs) (q2:Zb K H b ys) (q3:Zb K H c us) (ei:i=min xs.length (min ys.length us.length))
structure NT(z TI TO i1 i2 i3 l1 l2 l3:yQ)(i:Nat)(h:jB):Prop where
 a1:dD h z TI TO .none
 a2:Gx h TI (.ref i1) (.ref i2) (.ref i3)
 a3:∃a b c,Gx h TO a b c
 a4:Wk Z5 h i1 l1 i
 a5:Wk Z7 h i2 l2 i
 a6:Wk Z7 h i3 l3 i
section
variable {z TI TO i1 i2 i3 l1 l2 l3:yQ}{i:Nat}{h:jB}
theorem NT.obj(st:NT z TI TO i1 i2 i3 l1 l2 l3 i h):∀b∈[z,TI,TO,i1,i2,i3],∃o,h.get? b=Z9 o/\∀v,o.data≠.cell v:=by obtain⟨_,_,_,a⟩:=st.a3;exact XO ⟨_,st.a1,λv q=>by cases q⟩ (XO ⟨_,st.a2,λv q=>by cases q⟩ (XO ⟨_,a,λv q=>by cases q⟩ (XO st.a4.obj (XO st.a5.obj (XO st.a6.obj Sh)))))
theorem NT.ne(st:NT z TI TO i1 i2 i3 l1 l2 l3 i h){T:yQ}(a:h.objs.size<=T):∀b∈[z,TI,TO,i1,i2,i3],b≠T:=λb c=>by obtain⟨o,e,_⟩:=st.obj b c;exact qC0 (qA9 (qB1 e) a)
inductive eP(X:Cx)(s:yR)(H:Hp)(l1 l2 l3:yQ)(i:Nat):Prop
 |mk (xs ys us:List V) (x y u:V) (t1 t2 t3:yB) (u1 u2 u3:yT) (q1:Ys X.K H l1 xs) (q2:Zb X.K H l2 ys) (q3:Zb X.K H l3 us) (ex:xs[i]?=Z9 x) (ey:ys[i]?=Z9 y) (eu:us[i]?=Z9 u)
  (p1:VQ Z5 s.heap l1 t1.toArray) (p2:VQ Z7 s.heap l2 t2.toArray) (p3:VQ Z7 s.heap l3 t3.toArray) (e1:t1[i]?=Z9 u1) (e2:t2[i]?=Z9 u2) (e3:t3[i]?=Z9 u3) (r1:ZF x u1) (r2:ZF y u2) (r3:ZF u u3)
variable {X:Cx}{pins:yD}{Z:St}{H:Hp}{s:yR}
end
section
variable {X:Cx}
theorem xl:∀{us:yB}{ns:yA},mW us ns->ZK (ns.map V.int) us
 |_,_,h=>by
  induction h with
  |nil=>exact .nil
  |cons _ _ _ a=>exact .cons ⟨_,rfl⟩ a
theorem xj:X1 X (.builtin "sorted") (λvs H Q=>∃(p:yQ) (ns:yA),vs=[.ref p]/\Ys X.K H p (ns.map V.int)/\ns.length<64/\∀(l:yQ) (d:yA),H l=Z8->d.Perm ns->d.Pairwise (·<=·)->Q (.ref l) (ZE H l (.lst (d.map V.int)))):=by intro g s Z H B A Q I r h;obtain⟨p,ns,rfl,n,t,q⟩:=h;obtain⟨u,rfl,j⟩:=WG r;cases j;obtain⟨c,f,m,z⟩:=I.list n;have a:=f.length;rw[qA6]at a;refine sorted_ints m.isList (Ag f) (by lia) λout x w i v=>?_;obtain⟨e,y⟩:=sortedAll_at s.heap c out;have k:=i.length_eq;refine⟨.ref (s.heap.objs.size+1),_,I.laid (t':=s.toks) (λb o e=>sortedAll_old e) (qL6 _) ?_,rfl,q _ _ (I.hok.fresh (qL6 _)) i v⟩;exact⟨by rw[qA6,k];exact qC6 (qF7 t) (by decide),out.toList,e,xl w,by simpa using y⟩
theorem xh{ns:yA}(r:ZK (ns.map V.int) its):TruthOf prog w A (λi v=>its.toArray[i]?=Z9 v) (λi=>(ns.map (· != 0)).getD i Z5):=by
 intro i v s Q E g f;have a:=by simpa using g
 have c:i<ns.length:=by
  have j:=(qA3.mp a).1;have k:=r.length
  simp_all
 obtain⟨u,e,d⟩:=ZK.get r (by rw[qC1,qA7 c];rfl);rw[e]at a;cases a;obtain⟨t,rfl⟩:=d;have h:(ns.map (· != 0)).getD i Z5=(ns[i] != 0):=by simp[qP1,c]
 have b:Q ((ns.map (· != 0)).getD i Z5) s:=f;rw[h]at b;exact PyProof.Rows.truthy_int b
theorem xf(w:X.calm=Z7):X1 X (.builtin "all") (λvs H Q=>∃(p:yQ) (ns:yA),vs=[.ref p]/\Zb X.K H p (ns.map V.int)/\Q (.bl (ns.all (· != 0))) H):=by
 intro j s Z H z y Q I r h;obtain⟨p,ns,rfl,t,q⟩:=h;obtain⟨u,rfl,l⟩:=WG r;cases l;obtain⟨d,g,m,x⟩:=I.tuple t;have c:=m;have f:p<s.heap.objs.size:=by obtain⟨_,e,_⟩:=c;exact qB1 e
 have a:=g.length;rw[qA6]at a;refine call_all_walk (jX c ?_);refine⟨s.heap.objs.size,_,[s.heap.objs.size],_,_,_,_,rfl,Walks.tuple (A:=X.A.in1) (I.ok.hd w) s.heap.objs.size p (qC0 f) d.toArray,⟨⟨_,qB5 _ rfl,rfl,rfl⟩,c.push _⟩,xh g,λB v n=>?_⟩;have e:(List.range d.toArray.size).all (λi=>(ns.map (· != 0)).getD i Z5)=ns.all (· != 0):=by rw[qB4,<- a,show ns.length=(ns.map (· != 0)).length by simp,GM,qI9];rfl
 rw[e];refine⟨.bl (ns.all (· != 0)),H,?_,rfl,q⟩;exact I.kept (t':=v) λb o k=>n b o (by simp only[qD7];exact qC0 (qB1 k)) (qA2 _ k)
theorem xb:Q9 X "int.bit_length" (λx vs H Q=>∃i:Int,x=.int i/\vs=[]/\Q (.int ((Builtin.Int.intBits i:Nat):Int)) H):=by intro a s Z H x c v d Q I b rs h;obtain⟨i,rfl,rfl,q⟩:=h;obtain⟨t,rfl⟩:=b;have:=rs.zero;subst this;exact call_int_bit_length ⟨.int _,H,I.tok _,⟨_,rfl⟩,q⟩
end
def Lf(h:jB)(d:yQ)(es:Array wH)(a:Nat):Prop:=∃o,h.get? d=Z9 o/\o.cls=.type "dict"/\o.data=.dict es a
section
variable {prog:yY}{w:jC}{A:jE}{E:yL}{s:yR}{z TI TO:yQ}{f0:yT}
theorem Gw:isSubtype (.type "AttributeError") (.type "AttributeError")=pure Z7:=by kernel_rfl
end
section
variable {prog:yY}{w:jC}{A:jE}{z TI TO i1 i2 d:yQ}{f1 f2:yC}{n1 n2:Nat}{P1 P2:Nat->yT->Prop}{S1 S2:Nat->jB->Prop}
theorem Gv:entryFor table "dict.update.loop"=Z9 Builtin.«dict.update.loop»:=by kernel_rfl
theorem Gu(a:Args):(Code.builtin "dict.update.loop" a).quiet=Z7:=by kernel_rfl
end
section
variable {prog:yY}{w:jC}{A:jE}{E:yL}{s:yR}{it d:yQ}{i ep:Nat}{es:Array wH}
theorem w6{Q:yF->yR->Prop}(a:s.heap.IsKeyIter it d i es.size ep)(m:Lf s.heap d es ep)(l:es[i]?=Z9 e)
  (q:∀h',h'.IsKeyIter it d (i+1) es.size ep->qF2 it s.heap h'->Q (Z9 e.key) { s with heap:=h' }):yZ (yX prog w) A (pyNext (.ref it)) Q E s:=by
 have g:=a.typeIs;obtain⟨o,k,p,h⟩:=id a;obtain⟨r,b,_,c⟩:=m;refine yO (vS (jK g vG (jO vG g fT ?_ (fM _))));refine yO (yS (yO (yO (yO (vD g (yS (yO (wpAny_fieldsOf k h ?_))))))));refine yO (yS (yO (gV b c ?_)));rw[if_neg (by simp)];refine yO (yS (yO (mG b c ?_)));rw[if_neg (by simp)];refine yS ?_;have n:¬((i:Int)<0):=by lia
 simp only[n,if_false,qE6,l];refine yO (yO (vD g (yS (yO (mK g ?_)))));show yZ _ _ (setField (.ref it) 1 (vZ (i+1)) >>= _) _ _ s;refine yO (j3 k h (by simp) ?_);have f:(s.heap.update it (jL (·.setIfInBounds 1 (vZ (i+1))))).IsKeyIter it d (i+1) es.size ep :=
  ⟨_,qD3 _ k (jD (jA h _)),(fA ..).trans p,by rw[jA h];simp[vZ]⟩
 have j:Shared.TypeIs { s with heap:=s.heap.update it (jL (·.setIfInBounds 1 (vZ (i+1)))) } (.ref it) "dict_keyiterator":=f.typeIs;refine yO (jR (yO (mK j ?_)));exact yS (yS ⟨_,rfl,yS (q _ f (qF2.update ..))⟩)
theorem Le{Q:yF->yR->Prop}(k:A.handled=Z8)(a:s.heap.IsKeyIter it d i es.size ep)(j:Lf s.heap d es ep)(h:es[i]?=Z8)
  (m:∀h',Heap.ExtBut it s.heap h'->Q Z8 { s with heap:=h' }):yZ (yX prog w) A (pyNext (.ref it)) Q E s:=by
 have e:=a.typeIs;obtain⟨o,g,p,f⟩:=id a;obtain⟨n,b,_,c⟩:=j;refine yO (vS (jK e vG (jO vG e fT ?_ (fM _))));refine yO (yS (yO (yO (yO (vD e (yS (yO (wpAny_fieldsOf g f ?_))))))));refine yO (yS (yO (gV b c ?_)));rw[if_neg (by simp)];refine yO (yS (yO (mG b c ?_)));rw[if_neg (by simp)];refine yS ?_;have l:¬((i:Int)<0):=by lia
 simp only[l,if_false,qE6,h];refine yO (yO (vD e (yS ?_)));refine yO (j3 (i:=0) g f (by simp) ?_);refine wpAny_raiseNew_none k ?_;refine yO (fL ⟨_,qB5 _ rfl,rfl⟩ isSubtype_stop ?_);exact yS (m _ (((qF2.update ..).extBut.push _).push _))
theorem w5{Q:yL}(lo:(d == vA)=Z5)(e:Lf s.heap d es ep)
  (g:Q (.ref s.heap.objs.size) { s with heap:=s.heap.push { cls:=.type "dict_keyiterator",data:=.fields #[.ref d,.int 0 0,.int es.size 0,.int ep 0] } }):yZ (yX prog w) A (pyIter (.ref d)) Q E s:=by
 obtain⟨o,b,f,a⟩:=e;have c:s.TypeIs (.ref d) "dict":=⟨o,b,f⟩
 refine wpAny_pyIter_slot c F.slot_dict_iter (jO F.slot_dict_iter c F.entry_dict_iter ?_ (F.args_dict_iter_1 _));refine yO (yO (mL c (yO (yS (yS ?_)))));refine yO (yS ?_);unfold Builtin.Dict.showsAll;rw[if_neg (by rw[lo];exact qB0)];refine yO (yS (yO (gV b a (yO (mG b a ?_)))));refine yO (jP (yS ⟨_,rfl,"dict_keyiterator",_,⟨_,qB5 _ rfl,rfl⟩,F.slot_dict_keyiterator_next.lookup,?_⟩));simpa[vZ]using g
end
theorem Gs{xs:List b}{ys:List a}(r:mO R xs ys):∀{i:Nat}{y:a},ys[i]?=Z9 y->∃x,xs[i]?=Z9 x/\R x y:=by
 induction r with
 |nil=>intro i y e;simp at e
 |cons h t c =>
  intro i y e;cases i with
  |zero=>simp at e;subst e;exact⟨_,rfl,h⟩
  |succ i=>exact c (by simpa using e)
def one(a:yA)(z:Int):yA:=if z∈a then a else z::a
def gallop':Bool->j9->Array j9->Nat->Nat->Nat->StateT SortSt Sem (yK):=sortPriv% PySem.Builtin.gallop
section
variable {prog:yY}{w:jC}{A:jE}{E:yL}{s:yR}{κ:SortKind}{lt:j9->j9->Bool}{G:j9->Prop}{st:SortSt}
def setG':Nat->StateT SortSt Sem Unit:=sortPriv% PySem.Builtin.setMinGallop
abbrev w1:=Option (Array j9)×Array j9×Nat×Nat×Nat×Nat×Nat
abbrev Q6:=StateT SortSt Sem (ForInStep w1)
abbrev PX(a b out:Array j9)(c d:Nat):Array Keyed:=out++a.extract c a.size++b.extract d b.size
abbrev Gr(a b out:Array j9)(c d:Nat):Array Keyed:=out++b.extract d b.size++a.extract c a.size
abbrev Se(r out:Array j9)(b a g p q:Nat):Q6:=pure (.done (Z9 r,out,b,a,g,p,q))
def Gq(a b:Array j9)(g p q:Nat)(out:Array j9)(c d:Nat):Q6:=elem' a c >>= λv =>
 if(c+1+1 == a.size)=Z7 then Se (Gr a b (out.push v) (c+1) d) (out.push v) (c+1) d g p q
 else if(decide (p<7)&&decide (q<7))=Z7 then pure (.done (Z8,out.push v,c+1,d,g,p,q))else pure (.yield (Z8,out.push v,c+1,d,g,p,q))
def Ld(a b:Array j9)(g p q:Nat)(out:Array j9)(d c:Nat):yK->Q6
 |some k=>if k>0 then(if(c+k == b.size)=Z7 then Se (PX a b (out++b.extract c (c+k)) d (c+k)) (out++b.extract c (c+k)) d (c+k) g p k else Gq a b g p k (out++b.extract c (c+k)) d (c+k))else Gq a b g p k out d c
 |_=>Se (PX a b out d c) out d c g p q
def NS(a b:Array j9)(g p q:Nat)(out:Array j9)(d c:Nat):Q6:=elem' b c >>= λv =>
 if(c+1 == b.size)=Z7 then Se (PX a b (out.push v) d (c+1)) (out.push v) d (c+1) g p q
 else elem' a d >>= λu=>gallop' Z7 u b (c+1) (b.size - (c+1)) 0 >>= Ld a b g p q (out.push v) d (c+1)
def Lc(a b:Array j9)(g p q:Nat)(out:Array j9)(c d:Nat):yK->Q6
 | some k=>if k>0 then(if(c+k+1 == a.size)=Z7 then Se (Gr a b (out++a.extract c (c+k)) (c+k) d) (out++a.extract c (c+k)) (c+k) d g k q
   else if(c+k == a.size)=Z7 then Se (PX a b (out++a.extract c (c+k)) (c+k) d) (out++a.extract c (c+k)) (c+k) d g k q else NS a b g k q (out++a.extract c (c+k)) (c+k) d)else NS a b g k q out c d
 |_=>Se (PX a b out c d) out c d g p q
def Lb(a b:Array j9)(g p q:Nat)(out:Array j9)(c d:Nat):Q6:=setG' g >>= λ_=>elem' b d >>= λv=>gallop' Z5 v a c (a.size - c) 0 >>= Lc a b g p q out c d
end
section
variable {prog:yY}{w:jC}{A:jE}{E:yL}{s:yR}{κ:SortKind}{lt:j9->j9->Bool}{G:j9->Prop}{st:SortSt}
abbrev wz:=Option (Array j9)×Nat×Nat×Array j9×Nat×Nat×Nat
abbrev Q5:=StateT SortSt Sem (ForInStep wz)
abbrev PV(a b out:Array j9)(c d:Nat):Array Keyed:=a.extract 0 c++b.extract 0 d++out.reverse
abbrev Gn(a b out:Array j9)(c d:Nat):Array Keyed:=b.extract 0 d++a.extract 0 c++out.reverse
abbrev Sd(r out:Array j9)(a b g p q:Nat):Q5:=pure (.done (Z9 r,a,b,out,g,p,q))
def NR(a b:Array j9)(g p q:Nat)(out:Array j9)(c d:Nat):Q5:=elem' a (c - 1) >>= λv =>
 if(c - 1 == 0)=Z7 then Sd (PV a b (out.push v) (c - 1) d) (out.push v) (c - 1) d g p q
 else if(decide (p<7)&&decide (q<7))=Z7 then pure (.done (Z8,c - 1,d,out.push v,g,p,q))else pure (.yield (Z8,c - 1,d,out.push v,g,p,q))
def La(a b:Array j9)(g p q:Nat)(out:Array j9)(d c:Nat):yK->Q5
 | some k=>if c - k>0 then(if(k == 1)=Z7 then Sd (Gn a b (out++(b.extract k c).reverse) d k) (out++(b.extract k c).reverse) d k g p (c - k)
   else if(k == 0)=Z7 then Sd (PV a b (out++(b.extract k c).reverse) d k) (out++(b.extract k c).reverse) d k g p (c - k)else NR a b g p (c - k) (out++(b.extract k c).reverse) d k)else NR a b g p (c - k) out d c
 |_=>Sd (PV a b out d c) out d c g p q
def hi2(a b:Array j9)(g p q:Nat)(out:Array j9)(d c:Nat):Q5:=elem' b (c - 1) >>= λv =>
 if(c - 1 == 1)=Z7 then Sd (Gn a b (out.push v) d (c - 1)) (out.push v) d (c - 1) g p q
 else elem' a (d - 1) >>= λu=>gallop' Z7 u b 0 (c - 1) (c - 1 - 1) >>= La a b g p q (out.push v) d (c - 1)
def K9(a b:Array j9)(g p q:Nat)(out:Array j9)(c d:Nat):yK->Q5
 |some k=>if c - k>0 then(if(k == 0)=Z7 then Sd (PV a b (out++(a.extract k c).reverse) k d) (out++(a.extract k c).reverse) k d g (c - k) q else hi2 a b g (c - k) q (out++(a.extract k c).reverse) k d)else hi2 a b g (c - k) q out c d
 |_=>Sd (PV a b out c d) out c d g p q
def hi1(a b:Array j9)(g p q:Nat)(out:Array j9)(c d:Nat):Q5:=setG' g >>= λ_=>elem' b (d - 1) >>= λv=>gallop' Z5 v a 0 c (c - 1) >>= K9 a b g p q out c d
end
abbrev wy:=Nat×Nat×Nat
def Us(a:yQ)(o:Obj):It :=
 ⟨λi H=>∃b,H a=Z9 (.frz o (.dK b))/\i<b.length,λi H x c=>c=H/\∀b,H a=Z9 (.frz o (.dK b))->∃p,b[i]?=Z9 p/\x=kV p.1,λi H=>∃b,H a=Z9 (.frz o (.dK b))/\b.length<=i⟩
theorem wx{prog:yY}{w:jC}:∀{es:List wH}{vs:List (ZA×yT)},Pairs (Yy prog w) es vs->∀{i:Nat}{q:ZA×yT},vs[i]?=Z9 q->∃e,es[i]?=Z9 e/\(Yy prog w).is q.1 e.key=Z7:=by
 intro es vs h
 induction h with
 |nil=>intro i q e;simp at e
 |cons b c _ a =>
  intro i q e;cases i with
  |zero=>simp at e;subst e;exact⟨_,rfl,b⟩
  |succ i=>exact a (by simpa using e)
theorem wu:∀{es:List wH}{vs:List (ZA×yT)},Pairs (Yy prog w) es vs->es.length=vs.length:=by
 intro es vs h
 induction h with
 |nil=>rfl
 |cons _ _ _ a=>simp[a]
inductive wt(X:Cx)(H:Hp)(h:jB)(a:yQ)(o:Obj)(kvs:List (ZA×V)):Prop
 |mk (es:Array wH) (ep:Nat) (vs:List (ZA×yT)) (g:h.get? a=Z9 o) (c:o.cls=.type "dict") (d:o.data=.dict es ep) (r:KV kvs vs) (p:Pairs (Yy X.prog X.w) es.toList vs) (lo:(a == vA)=Z5) (z:kvs.length<=yW)
theorem K8{Z:St}(I:ZP X b Z H s)(e:H a=Z9 (.frz o (.dK kvs))):wt X H s.heap a o kvs:=by
 obtain⟨g,z,lo,d,r,l,f,h,c,k,i,n,j,m⟩:=(I.hok a _ e)
 rw[g]at c;cases c;exact⟨f,h,d,g,k.1,i,r,j,lo,z⟩
theorem wq(h:Ts k v=Z7):ZF (kV k) v:=by
 rcases UU h with⟨i,t,rfl,rfl⟩| ⟨x,t,rfl,rfl⟩
 .exact⟨t,rfl⟩
 .exact⟨t,rfl⟩
theorem wm{P:yY}{w:jC}{K:yP}{tg:yV}(a m:yQ)(o:Obj)(es:Array wH)(U:Nat)(y:o.data=.dict es U):XQ P w K tg (Us a o) [m] m (λi h=>h.IsKeyIter m a i es.size U) where
 mem:=by simp
 obj:=λi h f b l=>by
  have e:=by simpa using l
  subst e;obtain⟨o,e,c,d⟩:=f;exact⟨o,e,λv z=>by rw[d]at z;cases z⟩
 keep:=λi h V f k=>f.at λo e=>k m (by simp) o e
 item:=by
  intro X hP W T hc i t s Z H E I A f O;obtain⟨F,x,M⟩:=O;obtain⟨C,G,B,g,c,d,r,p,lo,z⟩:=K8 I x;rw[y]at d;cases d;obtain⟨Q,D,f2,L,R,N⟩:=A m (by simp);have J:i<B.length:=by rw[<- Paired.length r];exact M
  obtain⟨q,n⟩:∃q,B[i]?=Z9 q:=⟨_,qA7 J⟩
  obtain⟨e,he,hk⟩:=wx p n;have j:es[i]?=Z9 e:=by rw[<- vJ];exact he
  refine w6 f ⟨o,g,c,y⟩ j λV u sb=>?_;have I1:=I.turned (t':=s.toks) (λb o l e=>(sb.2 b l).trans e) Q D L R N;obtain⟨oi,ei,ci,di⟩:=id u;refine⟨_,rfl,Qj ei ci di (by decide) ⟨kV q.1,H,I1,wq hk,⟨rfl,λkvs' Y=>?_⟩,u,λb l=>(A b l).1⟩⟩;rw[x]at Y;cases Y;obtain⟨p',S,hr⟩:=Gs r n;exact⟨p',S,by rw[hr.1]⟩
 done:=by
  intro X hP W T hc i t s Z H E I A f O;subst hP W T;obtain⟨F,x,M⟩:=O;obtain⟨C,G,B,g,c,d,r,p,lo,z⟩:=K8 I x;rw[y]at d;cases d;obtain⟨Q,D,f2,L,R,N⟩:=A m (by simp);have j:es[i]?=Z8:=by rw[<- vJ,List.getElem?_eq_none];rw[wu p,<- Paired.length r];exact M
  exact Le (I.ok.hd hc) f ⟨o,g,c,y⟩ j λV eb=>⟨rfl,I.turned (t':=s.toks) (λb o l e=>eb b o l e) Q D L R N⟩
 self:=λ_ _ _ _ _ f h=>wpAny_pyIter_keyiter f h
theorem ZP.freeze{Z:St}(I:ZP X c Z H s)(e:H a=Z9 (.dK kvs)):∃o,ZP X c Z (ZE H a (.frz o (.dK kvs))) s:=by
 obtain⟨z,lo,h,r,o,i,k,d,p,l,n,m,j⟩:=(I.hok a _ e)
 refine⟨o,?_⟩;have g:Sv (H a):=by rw[e];trivial
 have f:YB X.prog X.w (ZE H a (.frz o (.dK kvs))) s.heap:=I.hok.write g (.inl rfl) (λb u _ q=>q) ⟨o,d⟩ ⟨d,z,lo,h,r,o,i,k,d,p,l,n,m,j⟩;exact I.un (t':=s.toks) (Un.write g (.inl rfl) (λb u _ q=>q) ⟨o,d⟩) f
section
variable {X:Cx}{tg e:yV}
theorem wj{Z:St}(m:ZP X f Z k s1)(q:∃kvs,((k a=Z9 (.dK kvs)/\∀o,R (Us a o) (ZE k a (.frz o (.dK kvs))))∨∃o,k a=Z9 (.frz o (.dK kvs))/\R (Us a o) k)):yZ (yX X.prog X.w) X.A (pyIter (.ref a)) (Ob X f Z tg R) X.xe s1:=by
 obtain⟨kvs,q⟩:=q;have l:∀{i:Hp}{o:Obj},ZP X f Z i s1->i a=Z9 (.frz o (.dK kvs))->R (Us a o) i->yZ (yX X.prog X.w) X.A (pyIter (.ref a)) (Ob X f Z tg R) X.xe s1:=by
  intro i o h j q;obtain⟨n,s,u,g,c,d,r,p,lo,z⟩:=K8 h j;refine w5 lo ⟨o,g,c,d⟩ ?_;refine⟨s1.heap.objs.size,[s1.heap.objs.size],_,_,i,rfl,h.kept (t':=s1.toks) λb o e=>qA2 _ e,wm a _ o n s d,⟨_,qB5 _ rfl,rfl,rfl⟩,λb t=>?_,q⟩;have e:=by simpa using t
  subst e;exact h.fpOk (qA4 _) (h.hok.fresh (qA4 _))
 rcases q with⟨j,q⟩| ⟨o,j,q⟩
 .obtain⟨o,h⟩:=m.freeze j;exact l h YU (q o)
 .exact l m j q
end
section
variable {X:Cx}
theorem wi:Q9 X "dict.update" (λx vs H Q=>∃a b kvs c,x=.ref a/\vs=[.ref b]/\a≠b/\H a=Z9 (.dK kvs)/\Rd H b (.dK c)/\kvs.length+c.length<=yW/\Q .non (ZE H a (.dK (Wp kvs c)))):=by
 intro k s Z H x vs v A Q I z r h;obtain⟨a,b,kvs,c,rfl,rfl,d,g,t,f,q⟩:=h;cases z;obtain⟨u,rfl,n⟩:=WG r;cases n;obtain⟨C,Lb,vs,i,l⟩:=N3 I.hok g;obtain⟨B,NS,p,j,m⟩:=Sj I.hok t;refine call_meetsIn g9 l.typeIs PySem.F.entry_dict_update (PySem.F.args_dict_update_2 _ _) (meets_dict_update (Yy X.prog X.w) a b d NS) ⟨vs,p,l,m,by rw[<- Paired.length i,<- Paired.length j];exact f,λw e D sb=>?_⟩;have o:=qC6 (N0 c kvs) f;have y:∃q,w.get? a=Z9 q:=let ⟨q,_,_,hq,_⟩:=e;⟨q,hq⟩
 exact⟨.non,ZE H a (.dK (Wp kvs c)),N2 (t':=s.toks) I (by rw[g];exact True.intro) sb y (P9 o Lb (KV.merge j i) e),rfl,q⟩
end
section
variable {prog:yY}{w:jC}{A:jE}{E:yL}{s:yR}{z:yQ}
theorem wh{Q:yF->yR->Prop}{xs:yJ}{f:Array (yF)}(a:s.heap.get? z=Z9 { cls:=.type "list",dict:=Z8,data:=.seq xs n,slots:=f })(i:A.handled=Z8)(h:∀h' tk,(∀b o,s.heap.get? b=Z9 o->h'.get? b=Z9 o)->Q Z8 { s with heap:=h',toks:=tk }):
  yZ (yX prog w) A (getAttr? (.ref z) (Str.ofString "keys")) Q E s:=by
 refine yO (wpAny_mkText ?_);refine yO (vS (jR (yO (wB ⟨_,a,rfl⟩ ?_))));refine yO (yS ?_);refine yO (yS ?_);refine yO (vS (jR ?_));refine jO F.slot_list_getattribute ⟨_,a,rfl⟩ am_entry_list_getattribute ?_ (F.args_list_getattribute_2 _ _);refine yO (yS ?_);refine yO (yS ?_);refine yO (wB ⟨_,a,rfl⟩ ?_);refine yO (yO (yS (yO (yS (yO (yS ?_))))));refine yO (yO (yO (wpAny_load a ?_)));refine yO (mR a ?_);refine yS ?_;refine yS ?_;refine yO (yS ?_);refine yO (gG (yS ?_));refine yO (yO (yO (wB ⟨_,a,rfl⟩ (yS ?_))));refine yS ?_;refine wpAny_raiseAttrError i (λh' tk e ne=>?_) (by size_fits);have c:∀g d os,Shared.TypeIs { heap:=h',gens:=g,drawn:=d,toks:=tk,os:=os } (.ref e) "AttributeError":=λg d os=>let ⟨_,_,q⟩:=ne.there;⟨_,q,rfl⟩
 refine yO (fL (c _ _ _) Gw ?_);refine yO (yS ?_);refine yO (uD ?_);refine yO (fL (c _ _ _) Gw ?_);exact yS (h h' tk ne.keeps)
structure VP where
 t:yQ
 k:ZA
 key:yT
 v:yT
def VP.at(q:VP)(h:jB):Prop:=∃o n,h.get? q.t=Z9 o/\o.cls=.type "tuple"/\o.data=.seq #[q.key,q.v] n
structure DL(prog:yY)(w:jC)(it l d:yQ)(items:yJ)(qs:List VP)(h0:jB):Prop where
 n:items.size=qs.length
 e:∀(i:Nat) (q:VP),qs[i]?=Z9 q->items[i]?=Z9 (Value.ref q.t)
 k:∀q∈qs,(Yy prog w).is q.k q.key=Z7
 p:∀q∈qs,q.at h0
 l:h0.IsList l items
 fr:∀c o,h0.get? c=Z9 o->c≠it/\c≠d
 nd:it≠d
abbrev Ur(xs:List (ZA×yT))(b:List VP):List (ZA×yT):=b.foldl (λa q=>dY a q.k q.v) xs
theorem wg(xs:List (ZA×yT))(k:ZA)(v:yT):(dY xs k v).length<=xs.length+1:=by
 unfold dY;split
 .rw[qA6];lia
 .simp
theorem we{g l d:yQ}{items:yJ}{b:List VP}{u:jB}(a:DL prog w g l d items b u)(L:A.handled=Z8){R:g7->yR->Prop}:∀(m k:Nat) (s:yR) (xs:List (ZA×yT)),k+m=b.length->xs.length+m<=yW->s.heap.IsListIter g l k->s.heap.DictOf (Yy prog w) d xs->(∀c o,u.get? c=Z9 o->s.heap.get? c=Z9 o) ->
  (∀h' tk,h'.DictOf (Yy prog w) d (Ur xs (b.drop k))->(∀c o,u.get? c=Z9 o->h'.get? c=Z9 o)->R (.ok (.ret .none)) { s with heap:=h',toks:=tk }) ->
  vO (yX prog w) A (.builtin "dict.update.loop" ⟨[.ref d,.ref g,vZ (k:Int),.none],[]⟩) R s:=by
 intro m
 induction m with
 |zero =>
  intro k s xs hk J C p f h;refine mH Gv ?_;have T:=a.n;refine yO (mI L C (qI5.at a.l λo q=>f _ o q) (by simp;lia) λh' I=>?_);refine yS ?_;have N:b.drop k=[]:=qK8 (by lia);rw[N]at h;refine h h' s.toks ?_ λc o q=>I c o (a.fr c o q).1 (f c o q);obtain⟨o,t,x,B,r⟩:=p;exact⟨o,t,x,I _ _ (Ne.symm a.nd) B,r⟩
 |succ m K =>
  intro k s xs hk J C p f h;refine mH Gv ?_;have j:k<b.length:=by lia
  have M:=qA7 j;have G:=qI4 j;refine yO (lN C (qI5.at a.l λo q=>f _ o q) (a.e k _ M) λO i sb=>?_);have F:=λc o q=>(sb.2 c (a.fr c o q).1).trans (f c o q);obtain⟨o,n,B,S,P⟩:=a.p _ G;have e:=F _ _ B;have v:O.DictOf (Yy prog w) d xs:=by obtain⟨o,t,x,q,r⟩:=p;exact⟨o,t,x,(sb.2 d (Ne.symm a.nd)).trans q,r⟩
  refine yO (jR (yO (wpAny_tryCatch ?_)));refine yO (wB ⟨_,e,S⟩ ?_);refine yO (vW e P (yS ?_));refine jR (wpAny_dictSet_pairs (a.k _ G) v (λU Q H=>?_) (by lia));refine yS ⟨Gu _,?_⟩;refine K (k+1) _ _ (by lia) (by have:=wg xs b[k].k b[k].v;lia) (i.at λo q=>(H.2 g a.nd).trans q) Q (λc o q=>(H.2 c (a.fr c o q).2).trans (F c o q)) λh' D y ex=>h h' D ?_ ex;rw[qF9 j];exact y
theorem wc{items:yJ}{N:Array (yF)}{Q:yL}(t:A.handled=Z8)(m:s.heap.get? l=Z9 { cls:=.type "list",dict:=Z8,data:=.seq items n,slots:=N })(K:items.size=a.length)(he:∀(i:Nat) (q:VP),a[i]?=Z9 q->items[i]?=Z9 (Value.ref q.t))(hk:∀q∈a,(Yy prog w).is q.k q.key=Z7)(y:∀q∈a,q.at s.heap)(G:a.length<=yW)
  (I:∀h' tk,h'.DictOf (Yy prog w) s.heap.objs.size (Ur [] a)->(∀c o,s.heap.get? c=Z9 o->h'.get? c=Z9 o)->Q (.ref s.heap.objs.size) { s with heap:=h',toks:=tk }) :
  yZ (yX prog w) A (call (.type "dict") [.ref l]) Q E s:=by
 refine callType_codes F.kt_called_dict (F.kt_typeCall_dict_1 _) F.entry_dict_init (kt_code_dict_new (Q₁:=λobj v=>obj=.ref s.heap.objs.size/\v={ s with heap:=s.heap.push { cls:=.type "dict",data:=.dict #[] } }) _ ⟨rfl,rfl⟩) λobj v J=>?_;obtain⟨rfl,rfl⟩:=J;have p:(s.heap.push { cls:=Value.type "dict",data:=Data.dict #[] }).get? s.heap.objs.size=Z9 { cls:=Value.type "dict",data:=Data.dict #[] }:=qB5 _ rfl;have u:Shared.TypeIs { s with heap:=s.heap.push { cls:=Value.type "dict",data:=Data.dict #[] } } (.ref s.heap.objs.size) "dict":=⟨_,p,rfl⟩
 refine⟨u,F.args_dict_init_2 _ _,?_⟩;refine yO (yO (mL u ?_));refine yO (yS (yS ?_));have b:=qA2 { cls:=Value.type "dict",data:=Data.dict #[] } m;refine yO (wB ⟨_,b,rfl⟩ ?_);refine yO (wh b t λg tk f=>?_);refine yO (gG ?_);have j:=f _ _ b;have B:g.IsList l items:=⟨_,j,rfl,n,rfl⟩
 refine yO (vE B ?_);refine yS ⟨Gu _,?_⟩;have d:∀c o,s.heap.get? c=Z9 o->c<s.heap.objs.size:=λc o e=>qB1 e;have M:=qB1 (f _ _ p);have ex:∀c o,s.heap.get? c=Z9 o->(g.push { cls:=.type "list_iterator",data:=.fields #[.ref l,.int 0 0] }).get? c=Z9 o:=λc o q=>qA2 _ (f _ _ (qA2 _ q));have x:g.DictOf (Yy prog w) s.heap.objs.size []:=by
  obtain⟨o,H,L,q,r⟩:=(Heap.DictOf.new (knd:=Yy prog w) s.heap)
  exact⟨o,H,L,f _ _ q,r⟩
 have D:DL prog w g.objs.size l s.heap.objs.size items a s.heap:=⟨K,he,hk,y,⟨_,m,rfl,n,rfl⟩,λc o e=>⟨by have:=d c o e;lia,by have:=d c o e;lia⟩,by lia⟩
 refine we (A:=A.in1) D t a.length 0 _ [] (by lia) (by simpa using G) ⟨_,qB5 _ rfl,rfl,rfl⟩ (x.push _) ex λh' k C h=>⟨rfl,I h' k (by simpa using C) h⟩
end
section
variable {X:Cx}
theorem Gm:∀(a:List VP) (ps:List (ZA×V)),a.map (·.k)=ps.map (·.1)->(∀(i:Nat) (q:VP) (p:ZA×V),a[i]?=Z9 q->ps[i]?=Z9 p->ZF p.2 q.v)->∀{kvs:List (ZA×V)}{vs:List (ZA×yT)},KV kvs vs->KV (Wp kvs ps) (Ur vs a)
 |[],[],_,_,kvs,vs,r=>r
 |[],_::_,h,_,_,_,_=>by cases h
 |_::_,[],h,_,_,_,_=>by cases h
 |q::a,p::ps,h,hr,kvs,vs,r=>by rw[qB2,qB2,qH4.injEq]at h;have:=Gm a ps h.2 (λi q p c b=>hr (i+1) q p (by simpa using c) (by simpa using b)) (r.put q.k (hr 0 q p rfl rfl));show KV (Wp (YN kvs p.1 p.2) ps) (Ur (dY vs q.k q.v) a);rw[<- h.1];exact this
def K5(H:Hp):List V->List (ZA×V)->Prop:=mO λv (p:ZA×V)=>∃t,v=.ref t/\H t=Z9 (.tup [kV p.1,p.2])
theorem wb{c:yD}{Z:St}{H:Hp}{s:yR}(I:ZP X c Z H s):∀{xs:List V}{ps:List (ZA×V)}{us:yB},K5 H xs ps->ZK xs us->∃a:List VP,us.length=a.length/\(∀(i:Nat) (q:VP),a[i]?=Z9 q->us[i]?=Z9 (Value.ref q.t))/\(∀q∈a,(Yy X.prog X.w).is q.k q.key=Z7)/\(∀q∈a,q.at s.heap)/\a.map (·.k)=ps.map (·.1)/\∀(i:Nat) (q:VP) (p:ZA×V),a[i]?=Z9 q->ps[i]?=Z9 p->ZF p.2 q.v:=by
 intro xs ps us h
 induction h generalizing us with
 |nil=>intro r;cases r;exact⟨[],rfl,λi q e=>(by simp at e),λq h=>(by cases h),λq h=>(by cases h),rfl,λi q p e=>(by simp at e)⟩
 |@cons x p xs ps F _ A =>
  intro r;obtain⟨t,rfl,z⟩:=F;cases r with
  |@cons _ u _ us j r =>
   cases (j);obtain⟨a,D,K,G,l,m,L⟩:=A r;obtain⟨w,C,⟨o,E,M,n,J⟩,_⟩:=I.tuple (Zb.of z);obtain⟨k,v,rfl,y,g⟩:=Ra C;refine⟨⟨t,p.1,k,v⟩::a,by simp[D],λi q e=>?_,λq b=>?_,λq b=>?_,by simp[m],λi q B d f=>?_⟩
   .cases i with
    |zero=>simp at e;subst e;rfl
    |succ i=>exact K i q (by simpa using e)
   .rcases qA8.mp b with rfl|b
    .exact Tq y
    .exact G q b
   .rcases qA8.mp b with rfl|b
    .exact⟨o,n,E,M,J⟩
    .exact l q b
   .cases i with
    |zero=>simp at d f;subst d f;exact g
    |succ i=>exact L i q B (by simpa using d) (by simpa using f)
theorem wa(D:X.calm=Z7):X1 X (.type "dict") (λvs H Q=>∃(l:yQ) (xs:List V) (ps:List (ZA×V)),vs=[.ref l]/\H l=Z9 (.lst xs)/\K5 H xs ps/\xs.length<=yW/\∀q,H q=Z8->Q (.ref q) (ZE H q (.dK (Wp [] ps)))):=by
 intro j s Z H vs E Q I r h;obtain⟨l,xs,ps,rfl,v,m,x,q⟩:=h;obtain⟨u,rfl,k⟩:=WG r;cases k;obtain⟨_,p,n,d,_,e⟩:=I.lstM v;obtain⟨g,f,A,z,o,c,C⟩:=wb I m d;have a:g.length<=sizeLine:=by rw[<- f,<- d.length];exact x
 refine wc (I.ok.hd D) e (by simpa using f) (λi q e=>by simpa using A i q e) z o a λF B t ex=>?_;have y:=Gm g ps c C .nil;have b:=(Lq (P:=X.prog) (w:=X.w) (H:=H) s.heap I.big).2.1;refine⟨.ref s.heap.objs.size,ZE H s.heap.objs.size (.dK (Wp [] ps)),I.laid (t':=B) ex (qA4 _) (P9 ?_ b y t),rfl,q _ (I.hok.fresh (qA4 _))⟩;refine qC6 (N0 ps []) ?_;have:=congrArg qG5 c;simp at this;simp;lia
end
def WA(a b:Str):Prop:=¬b.cps.toList<a.cps.toList
theorem WA.trans(h:WA a b)(k:WA b c):WA a c:=by unfold WA at *;rw[List.not_lt]at *;exact List.le_trans h k
theorem WA.anti(h:WA a b)(k:WA b a):a=b:=by unfold WA at *;rw[List.not_lt]at *;have:=List.le_antisymm h k;cases a;cases b;simpa using this
theorem Gk:∀(l:yH) (p:Str),risingS p l=Z7->(p::l).Pairwise WA
 |[],p,_=>List.pairwise_singleton _ _
 |x::l,p,h=>by
  unfold risingS at h;rw[qB3,qF6,ltCps_eq,decide_eq_false_iff_not]at h;have b:=Gk l x h.2;refine qG6.mpr ⟨λy a=>?_,b⟩;rcases qA8.mp a with rfl|a
  .exact h.1
  .exact WA.trans h.1 ((qG6.mp b).1 y a)
theorem vz{l:yH}(h:sortedS l=Z7):l.Pairwise WA:=by
 cases l with
 |nil=>exact List.Pairwise.nil
 |cons x l=>exact Gk l x h
section
variable {prog:yY}{w:jC}{A:jE}{E:yL}{s:yR}{r:yQ}
theorem vx{Q:yL}{ns:yH}(C:ns.length<64)
  (B:∀(A:jE) (E:yL) (R:yB->yR->Prop),A.handled=Z8->(∀(h':jB) (tk:Nat) (us:yB),(∀b o,s.heap.get? b=Z9 o->h'.get? b=Z9 o)->StrsAre us ns->R us { s with heap:=h',toks:=tk })->yZ (yX prog w) A (collect (.ref r)) R E s)
  (u:A.handled=Z8)
  (h:∀(k:jB) (l:yQ) (h':jB) (tk:Nat) (e:Nat) (us:yB) (i:yH),(∀b o,s.heap.get? b=Z9 o->k.get? b=Z9 o)->(∀b o,k.get? b=Z9 o->h'.get? b=Z9 o)->k.objs.size<=l->h'.get? l=Z9 (seqObj "list" us.toArray e)->StrsAre us i->i.Perm ns->sortedS i=Z7->Q (.ref l) { s with heap:=h',toks:=tk }) :
  yZ (yX prog w) A (call (.builtin "sorted") [.ref r]) Q E s:=by
 refine Calls.call_function_entry kind_sorted plain_sorted entry_sorted (args_sorted1 _) ?_;unfold Builtin.«sorted»;refine yO (m:=checkCount "sorted" 1 1 _) (yS ?_);refine yO (B _ _ _ u λh' tk us hk f=>?_);have c:us.length=ns.length:=by rw[<- f.strs,qA6]
 refine yO (wpAny_newList ?_ (by rw[c,vY];lia));have a:(h'.push (seqObj "list" us.toArray 0)).get? h'.objs.size=Z9 (seqObj "list" us.toArray 0):=qB5 _ rfl;show yZ _ _ _ _ _ { s with heap:=h'.push (seqObj "list" us.toArray 0),toks:=tk };refine yO (jR (jO slot_list_sort ⟨_,a,rfl⟩ entry_list_sort (list_sort_treeK strKind_oneLt a f.keysOf (λn p ZM e=>keyKind_strs (by rw[<- e];exact f)) (by lia) λd q x=>⟨_,rfl,?_⟩) (args_list_sort _)));obtain⟨j,y,t,v⟩:=sorted_out_str f q x;obtain⟨e,z⟩:=sortedHeap_at (out:=(arrOf d).map (·.2)) a;refine yS ⟨_,rfl,h h' h'.objs.size _ tk e ((arrOf d).map (·.2)).toList j hk (λb o g=>?_) (qA4 _) (by rw[Array.toArray_toList];exact z) y t v⟩;have lt:b<h'.objs.size:=qB1 g;rw[sortedHeap_old (qC0 lt) (by rw[size_push'];exact qG1 lt)];exact qA2 _ g
end
theorem Gj:∀(us:yB) (ns:yH),us.length=ns.length->(∀(j:Nat) (v:yT) (n:Str),us[j]?=Z9 v->ns[j]?=Z9 n->∃t,v=.str n t)->StrsAre us ns
 |[],[],_,_=>.nil
 |[],_::_,h,_=>by cases h
 |_::_,[],h,_=>by cases h
 |u::us,n::ns,h,k=>by obtain⟨t,rfl⟩:=k 0 u n rfl rfl;exact .cons n t (Gj us ns (by simpa using h) λj v m b a=>k (j+1) v m (by simpa using b) (by simpa using a))
theorem Gi:∀{us:yB}{ns:yH},StrsAre us ns->ZK (ns.map V.str) us
 |_,_,.nil=>.nil
 |_,_,.cons n t h=>.cons ⟨t,rfl⟩ (Gi h)
def Uq(a b:Str):Bool:=decide (¬b.cps.toList<a.cps.toList)
def Yc(ns:yH):yH:=ns.mergeSort Uq
theorem Q4:Uq a b=Z7↔WA a b:=decide_eq_true_iff
theorem PU(ns:yH):(Yc ns).Perm ns:=List.mergeSort_perm ns Uq
theorem vw(ns:yH):(Yc ns).Pairwise WA:=(List.pairwise_mergeSort (le:=Uq) (λa b c h k=>Q4.mpr (WA.trans (Q4.mp h) (Q4.mp k))) (λa b=>by
  rw[qG8,Q4,Q4];unfold WA;by_cases h:b.cps.toList<a.cps.toList
  .exact .inr λk=>absurd (List.lt_trans h k) (List.lt_irrefl _)
  .exact .inl h) ns).imp λh=>Q4.mp h
theorem vv{ns a:yH}(p:a.Perm ns)(h:sortedS a=Z7):a=Yc ns:=(p.trans (PU ns).symm).eq_of_pairwise (λ_ _ _ _ c b=>WA.anti c b) (vz h) (vw ns)
theorem vu(hc:X.calm=Z7):X1 X (.builtin "sorted") (λvs H Q=>∃(p:yQ) (kvs:List (ZA×V)) (ns:yH),vs=[.ref p]/\H p=Z9 (.dK kvs)/\kvs.map (·.1)=ns.map Sum.inr/\ns.length<64/\∀(l:yQ),H l=Z8->Q (.ref l) (ZE H l (.lst ((Yc ns).map V.str)))):=by
 intro d s Z H xs z Q I r h;obtain⟨p,kvs,ns,rfl,L,hk,D,q⟩:=h;obtain⟨u,rfl,J⟩:=WG r;cases J;obtain⟨hz,lo,vs,F,dd⟩:=N3 I.hok L;obtain⟨ep,g⟩:=dd.dictAt;have y:vs.length=ns.length:=by rw[<- Paired.length F,<- qA6,hk,qA6]
 refine vx D (λA E R K P=>W.kdu_collect (W.kdl_dict lo) K g (by rw[y,vY];lia) λh' tk acc m a=>P h' tk _ m ?_) (I.ok.hd hc) λh2 l2 h3 c e z ms O T G g3 hi f hw=>?_
 .refine Gj _ _ (by rw[j5,a.1,y]) λj v n M U=>?_;obtain⟨k,x,Y,w⟩:∃k x,vs[j]?=Z9 (k,x)/\(Yy X.prog X.w).is k v=Z7:=a.2 j v (by rw[<- vJ];exact M);obtain⟨q1,N,e6,_⟩:=Gs F Y;have B:(kvs.map (·.1))[j]?=Z9 k:=by rw[qC1,N];exact congrArg Z9 e6
  rw[hk,qC1,U]at B;cases B;cases v<;>first|exact absurd w qB0|skip
  rename_i i t;have:=by simpa[Yy,Ts,Value.isStrOf]using w
  subst this;exact⟨t,rfl⟩
 .have C:ZP X d Z H { s with heap:=h2,toks:=c }:=I.kept (t':=c) λb o e=>O b o e;have ln:=f.length_eq;have S:=vv f hw;subst S;refine⟨.ref l2,_,C.laid (t':=c) T G ?_,rfl,q _ (C.hok.fresh G)⟩;exact⟨by rw[qA6,ln];exact qC6 (qF7 D) (by decide),z,e,Gi hi,by simpa using g3⟩
section
variable {X:Cx}
theorem Gh:∀{a:yH}{its:yB},ZK (a.map V.str) its->∃l:List (Str×Tok),its=dZ l/\l.map (·.1)=a
 |[],its,h=>by cases h;exact⟨[],rfl,rfl⟩
 |z::a,its,h=>by obtain⟨u,r,rfl,b,c⟩:=h.cinv;obtain⟨t,rfl⟩:=b;obtain⟨l,rfl,e⟩:=Gh c;exact⟨(z,t)::l,rfl,by rw[qB2,e]⟩
theorem K4:∀l:List (Str×Tok),ZK ((l.map (·.1)).map V.str) (dZ l)
 |[]=>.nil
 |p::l=>.cons ⟨p.2,rfl⟩ (K4 l)
def vt:V->List V->Hp->VK->Prop:=λx b H Q=>∃z l a,x=.str z/\b=[.ref l]/\H l=Z9 (.lst (a.map V.str))/\dI z a=Z7/\Q (.str (Txt.join z a)) H
theorem vr:Vh X "str.join" vt:=by intro b s Z H x m v o Q I j i h;obtain⟨z,l,w,rfl,rfl,g,a,q⟩:=h;obtain⟨t,rfl⟩:=j;obtain⟨u,rfl,c⟩:=i.one;cases c;obtain⟨_,f,n,r,_,e⟩:=I.lstM g;obtain⟨y,rfl,d⟩:=Gh r;exact SC.join ⟨_,e,rfl,_,rfl⟩ d a λp k=>⟨.str _,H,I.tok k,⟨_,rfl⟩,q⟩
def vq:V->List V->Hp->VK->Prop:=λx a H Q=>∃z y,x=.str z/\a=[.str y]/\Q (.int (Txt.find z y)) H
theorem vp:Vh X "str.find" vq:=by intro a s Z H x f v g Q I e d h;obtain⟨z,y,rfl,rfl,q⟩:=h;obtain⟨t,rfl⟩:=e;obtain⟨u,rfl,b⟩:=d.one;obtain⟨c,rfl⟩:=b;exact call_gives mM (vR _ _ _) PySem.F.entry_str_find (PySem.F.args_str_find_2 _ _) (gives_str_find z y t c) ⟨.int _,H,I.tok _,⟨_,rfl⟩,q⟩
open Builtin Builtin.Str in
def vo:V->List V->Hp->VK->Prop:=λx a H Q=>∃z y,x=.str z/\a=[.str y]/\(y.length == 0)=Z5/\z.length<=yW/\(partsBetween z (occurrences z y 0 z.length (z.length+1)) y.length).length<=yW/\∀l,H l=Z8->Q (.ref l) (ZE H l (.lst ((Txt.split z y).map V.str)))
open Builtin Builtin.Str in
theorem vn:Vh X "str.split" vo:=by
 intro f s Z H x A v B Q I w p h;obtain⟨x,y,rfl,rfl,j,i,d,q⟩:=h;obtain⟨t,rfl⟩:=w;obtain⟨u,rfl,m⟩:=p.one;obtain⟨u,rfl⟩:=m;have q:=q _ (I.hok.fresh (qA4 s.heap.objs.size));have one:∀z:Str,((1:Nat)<=yW):=λ_=>by rw[vY];decide
 have a:∀(l:List (Str×Tok)) (k:Nat),l.length<=yW->l.map (·.1)=Txt.split x y->EP X f Z Q (.ref s.heap.objs.size) { s with heap:=s.heap.push { cls:=.type "list",data:=.seq (dZ l).toArray 0 },toks:=k }:=λl k n e=>by rw[<- e]at q;refine⟨.ref s.heap.objs.size,_,I.laid (t':=k) (λb o r=>qA2 _ r) (qA4 _) (show XR X.prog X.w _ _ _ (.lst ((l.map (·.1)).map V.str))from⟨by rw[qA6,qA6];exact n,_,_,K4 l,qB5 _ rfl⟩),rfl,q⟩
 cases c:(decide (x.length<y.length)||decide (strKind x<strKind y))
 .cases g:(occurrences x y 0 x.length (x.length+1)).isEmpty
  .refine vF jN (vR _ _ _) jY (wM _ _) (meets_str_split_sep x y t u c j g i d) ?_;show wants _ X.xe _ { s with toks:=_,heap:=s.heap.push { cls:=.type "list",data:=.seq (strsFrom s.toks (partsBetween x (occurrences x y 0 x.length (x.length+1)) y.length)).toArray } };rw[strsFrom_eq];have e:(numbered s.toks (partsBetween x (occurrences x y 0 x.length (x.length+1)) y.length)).map (·.1)=Txt.split x y:=(mT _ _).trans ((if_neg (ne_true_of_eq_false c)).trans (if_neg (ne_true_of_eq_false g))).symm;refine a _ _ ?_ e;have:=congrArg qG5 (mT s.toks (partsBetween x (occurrences x y 0 x.length (x.length+1)) y.length));rw[qA6]at this
   lia
  .exact vF jN (vR _ _ _) jY (wM _ _) (meets_str_split_not_found x y t u c j g)
    (a [(x,t)] s.toks (one x) ((if_neg (ne_true_of_eq_false c)).trans (if_pos g)).symm)
 .exact vF jN (vR _ _ _) jY (wM _ _) (meets_str_split_cannot_occur x y t u c)
   (a [(x,t)] s.toks (one x) (if_pos c).symm)
def K3(b:TE):TE:=fun Z H Q=>b Z H λx a=>(∃i,x=.int i/\i.natAbs.log2<1920/\Q (.str (toString i)) a)∨∃z,x=.str z/\z.length<=yW/\Q (.str z) a
theorem vm(k:PE X e f):PE X (.FormattedValue e (-1) Z8 pos) (K3 f):=by
 intro a s Z H Q I h;refine wpAny_FormattedValue_plain (Zx (k a s Z H _ I h) λv m ⟨x,c,b,d,l⟩=>?_);rcases l with⟨i,rfl,g,q⟩| ⟨z,rfl,j,q⟩
 .obtain⟨t,rfl⟩:=d;exact wpAny_formatField_int g ⟨.str _,c,b.tok _,⟨_,rfl⟩,q⟩
 .obtain⟨t,rfl⟩:=d;exact wpAny_formatField_str ⟨.str _,c,b,⟨_,rfl⟩,q⟩ ⟨.str _,c,b.tok _,⟨_,rfl⟩,q⟩ j
inductive Q3(X:Cx):yE->List TE->Prop
 |nil:Q3 X [] []
 |cons {e es t ts}:PE X e t->Q3 X es ts->Q3 X (e::es) (t::ts)
def NQ:List TE->Str->TE
 |[],acc=>λ_ H Q=>acc.length<=yW/\Q (.str acc) H
 |t::b,acc=>fun Z H Q=>t Z H λx a=>∃y,x=.str y/\(acc++y).length<=yW/\NQ b (acc++y) Z a Q
theorem Gg{b:yD}{Z:St}{Q:VK}:∀{es:yE}{d:List TE},Q3 X es d->∀(acc:Str) (H:Hp) (s:yR),ZP X b Z H s->NQ d acc Z H Q ->
  Joins (yX X.prog X.w) X.A X.xe (evalEach es X.env) acc (λout a=>out.length<=yW/\EP X b Z Q (.str out a.toks) { a with toks:=a.toks+1 }) s
 |_,_,.nil,acc,H,s,I,h=>⟨h.1,.str acc,H,I.tok _,⟨_,rfl⟩,h.2⟩
 |e::es,t::d,.cons j c,acc,H,s,I,h=>by show yZ _ _ (jU e X.env) _ _ s;refine Zx (j b s Z H _ I h) λv k ⟨x,f,l,g,y,i,m,q⟩=>?_;subst i;obtain⟨t,rfl⟩:=g;exact⟨y,t,rfl,m,Gg c _ f k l q⟩
theorem vl{es:yE}(h:Q3 X (b::a::es) d):PE X (.JoinedStr (b::a::es) pos) (NQ d Str.empty):=by intro c s Z H Q I q;exact wpAny_JoinedStr (Gg h _ H s I q)
end
section
variable {X:Cx}
def K2:V->yG->yG->Hp->VK->Prop:=λx lo a H Q=>∃z,x=.str z/\z.length<=yW/\Q (.str (Txt.slice z lo a)) H
theorem Gf{o:yG}(h:g8 v o):∃p:Option (Int×Tok),v=partValue p/\p.map (·.1)=o:=by
 cases h with
 |none=>exact⟨Z8,rfl,rfl⟩
 |int i t=>exact⟨Z9 (i,t),rfl,rfl⟩
theorem vk:Sl X K2:=by intro a s Z H x v j g lo m n Q I f e c d h;obtain⟨z,rfl,b,q⟩:=h;obtain⟨t,rfl⟩:=f;obtain⟨l,rfl,rfl⟩:=Gf c;obtain⟨u,rfl,rfl⟩:=Gf d;refine⟨"str",_,PySem.F.slot_str_getitem.lookup,vR _ _ _,wpAny_getItem_str_slice (l:=l) (u:=u) (st:=Z8) e rfl ?_⟩;exact post_val_or_str ⟨qC6 (Txt.slice_le z _ _) b,λi k=>⟨.str _,H,I.tok k,⟨_,rfl⟩,q⟩⟩
theorem vj:X1 X (.type "int") (λxs H Q=>∃z n,xs=[.str z]/\PySem.intText? z=Z9 n/\z.length<=640/\Q (.int n) H):=by intro a s Z H xs d Q I r h;obtain⟨z,n,rfl,b,c,q⟩:=h;obtain⟨u,rfl,t,rfl⟩:=WG r;exact W.KIN.call_text b c ⟨.int n,H,I.tok _,⟨_,rfl⟩,q⟩
end
section
variable {X:Cx}
open Builtin Builtin.Str in
def V5(z y:Str):Bool:=0+y.length<=z.length&&subAt z y 0
def vi:V->List V->Hp->VK->Prop:=λx a H Q=>∃z y,x=.str z/\a=[.str y]/\Q (.bl (V5 z y)) H
theorem vh:Vh X "str.startswith" vi:=by intro a s Z H x f v g Q I e d h;obtain⟨z,y,rfl,rfl,q⟩:=h;obtain⟨t,rfl⟩:=e;obtain⟨u,rfl,b⟩:=d.one;obtain⟨c,rfl⟩:=b;exact call_gives gC (vR _ _ _) PySem.F.entry_str_startswith (PySem.F.args_str_startswith_2 _ _) (gives_str_startswith z y t c) ⟨.bl _,H,I,rfl,q⟩
open Builtin Builtin.Str in
def Q2(x y:Str)(k:Int):yH :=
 if(decide (x.length<y.length)||decide (strKind x<strKind y))=Z7 then[x]else if(occurrences x y 0 x.length (gW x k)).isEmpty=Z7 then[x]else partsBetween x (occurrences x y 0 x.length (gW x k)) y.length
open Builtin Builtin.Str in
def vg:V->List V->Hp->VK->Prop:=λx a H Q=>∃z y k,x=.str z/\a=[.str y,.int k]/\(decide (k < -(2 ^ 63:Int))||decide (k≥2 ^ 63))=Z5/\(y.length == 0)=Z5/\z.length<=yW/\(partsBetween z (occurrences z y 0 z.length (gW z k)) y.length).length<=yW/\∀l,H l=Z8->Q (.ref l) (ZE H l (.lst ((Q2 z y k).map V.str)))
open Builtin Builtin.Str in
theorem vf:Vh X "str.split" vg:=by
 intro f s Z H x C v D Q I B z h;obtain⟨x,y,k,rfl,rfl,hk,p,n,d,q⟩:=h;obtain⟨t,rfl⟩:=B;obtain⟨u,g,rfl,r,j⟩:=z.two;obtain⟨u,rfl⟩:=r;obtain⟨g,rfl⟩:=j;have q:=q _ (I.hok.fresh (qA4 s.heap.objs.size));have one:(1:Nat)<=sizeLine:=by rw[vY];decide
 have a:∀(l:List (Str×Tok)) (m:Nat),l.length<=yW->l.map (·.1)=Q2 x y k->EP X f Z Q (.ref s.heap.objs.size) { s with heap:=s.heap.push { cls:=.type "list",data:=.seq (dZ l).toArray 0 },toks:=m }:=λl m w e=>by rw[<- e]at q;refine⟨.ref s.heap.objs.size,_,I.laid (t':=m) (λb o A=>qA2 _ A) (qA4 _) (show XR X.prog X.w _ _ _ (.lst ((l.map (·.1)).map V.str))from⟨by rw[qA6,qA6];exact w,_,_,K4 l,qB5 _ rfl⟩),rfl,q⟩
 unfold Q2 at a;cases c:(decide (x.length<y.length)||decide (strKind x<strKind y))
 .cases i:(occurrences x y 0 x.length (gW x k)).isEmpty
  .rw[if_neg (ne_true_of_eq_false c),if_neg (ne_true_of_eq_false i)]at a;refine vF jN (vR _ _ _) jY (wN _ _ _) (meets_str_split_sep_max x y k t u g hk c p i n d) ?_;show wants _ X.xe _ { s with toks:=_,heap:=s.heap.push { cls:=.type "list",data:=.seq (strsFrom s.toks (partsBetween x (occurrences x y 0 x.length (gW x k)) y.length)).toArray } };rw[strsFrom_eq];have e:(numbered s.toks (partsBetween x (occurrences x y 0 x.length (gW x k)) y.length)).map (·.1)=_:=mT _ _;refine a _ _ ?_ e;have:=congrArg qG5 e;rw[qA6]at this
   lia
  .rw[if_neg (ne_true_of_eq_false c),if_pos i]at a;exact vF jN (vR _ _ _) jY (wN _ _ _) (meets_str_split_max_not_found x y k t u g hk c p i) (a [(x,t)] s.toks one rfl)
 .rw[if_pos c]at a;exact vF jN (vR _ _ _) jY (wN _ _ _) (meets_str_split_max_cannot_occur x y k t u g hk c) (a [(x,t)] s.toks one rfl)
end
section
variable {P:yY}{w:jC}{h:jB}{X:Cx}{pins:yD}{Z:St}{H:Hp}{s:yR}{a C dx:yQ}{fs:List (Str×V)}{f:Str}{v:V}{A:jE}{E:yL}
theorem PR(c:YB P w H h)(e:Rd H a (.ins C dx fs)):∃b,WD h a dx C b/\∀f,Yq (fs.lookup f) (b f):=by
 obtain⟨d,z,ne,g,b,n,r,q⟩:=(show XR P w H h a (.ins C dx fs)from e.ok c)
 exact⟨b,⟨g,n,ne⟩,r⟩
theorem ve{Q:yL}(I:ZP X pins Z H s)(e:Rd H a (.ins C dx fs))(c:WQ X.K C)(n:Vv X.K C f)(l:fs.lookup f=Z9 v)
  (h:∀u s',ZP X pins Z H s'->ZF v u->Q u s'):yZ (yX X.prog X.w) A (getAttr (.ref a) f b) Q E s:=by obtain⟨i,O,r⟩:=PR I.hok e;obtain⟨u,g,d⟩:=Yq.some_of (v:=v) (o:=i f) (by rw[<- l];exact r f);exact AD I.kIn O (c.get f) c.hd n g (Az d) (h u _ (I.tok _) d)
theorem Ge{Q:yT×yB->yR->Prop}(I:ZP X pins Z H s)(e:Rd H a (.ins C dx fs))(c:WQ X.K C)(k:Uz X.K C m g)(l:fs.lookup m=Z8)
  (h:Q (.ref g,[.ref a]) s):yZ (yX X.prog X.w) A (dU (.ref a) m pl) Q E s:=by obtain⟨d,O,r⟩:=PR I.hok e;have b:d m=Z8:=Yq.none_of (by rw[<- l];exact r m);exact AC I.kIn O (c.get m) k.at_ k.fn b h
theorem ZP.freezeI(I:ZP X pins Z H s)(e:H a=Z9 (.ins C dx fs)):∃o,ZP X pins Z (ZE H a (.frz o (.ins C dx fs))) s:=by
 obtain⟨d,z,ne,c,j,n,r,q⟩:=(show XR X.prog X.w H s.heap a (.ins C dx fs)from I.hok a _ e)
 refine⟨wG C dx,?_⟩;have i:Sv (H a):=by rw[e];trivial
 have g:YB X.prog X.w (ZE H a (.frz (wG C dx) (.ins C dx fs))) s.heap:=I.hok.write i (.inl rfl) (λb u _ q=>q) ⟨_,c⟩ ⟨c,by rw[Zq ne];exact d,z,ne,c,j,n,r,q⟩;exact I.un (t':=s.toks) (Un.write i (.inl rfl) (λb u _ q=>q) ⟨_,c⟩) g
end
def vd(K:yP)(c:TE)(f:Str):TE:=fun Z H Q=>c Z H λx b=>∃a C dx fs v,x=.ref a/\Rd b a (.ins C dx fs)/\WQ K C/\Vv K C f/\fs.lookup f=Z9 v/\Q v b
def K1(C:yQ)(m:Str)(sp:Sp)(b:List V)(E:XK)(d:TE)(t:TA):TE:=fun Z H Q=>d Z H λx c=>∃a dx fs,x=.ref a/\Rd c a (.ins C dx fs)/\fs.lookup m=Z8 /\
 t Z c λe f=>sp (x::(e++b)) f Q E
section
variable {X:Cx}{CX:VS}{k:Nat}{f C:yQ}{fd:jT}{ps:yH}{sp:Sp}{dvs:List V}{ds:yB}{E:XK}{x m:Str}{p pos apos:Pos}{e o:yV}{es:yE}{ta:TE}{t:TA}
theorem vc(he:PE X e ta)(y:vB e d X.env (jU e X.env)=jU e X.env):PE X (.Attribute e d pos) (vd X.K ta d):=by intro b s Z H Q I h;refine Aw y (Zx (he b s Z H _ I h) λu B ⟨x,w,r,z,a,C,dx,fs,v,ex,i,c,n,l,q⟩=>?_);subst ex;obtain rfl:u=Value.ref a:=z;exact ve r i c n l λD A j g=>⟨v,w,j,g,q⟩
theorem Gd(he:PE X o ta)(c:WQ X.K C)(g:Uz X.K C m f)(F:YO X.prog X.w X.K X.mg X.base CX k f fd ps sp)(D:Zr k X.A)(z:WB X.K fd ps ds)(G:ZK dvs ds)(A:Wm CX X E)(v:PA X (e::es) t)
  (d:y7 (e::es) X.env=(Z5,jU e X.env)::y7 es X.env) (hpl:(vC pos (y7 es X.env)).any (·.1)=Z5)
  (w:jU (.Call (.Attribute o m apos) (e::es) [] pos) X.env=(do
   let ov <- jU o X.env
   gM apos.atName
   let (f,first) <- wJ [ov] (dU ov m pl)
   callWith pos f first (vC pos (y7 (e::es) X.env)) (wF pos (j6 [] X.env)))) :
  PE X (.Call (.Attribute o m apos) (e::es) [] pos) (K1 C m sp dvs E ta t):=by intro b s Z H Q I h;refine W.methodCall_KW (pl:=pl) (Zx (he b s Z H _ I h) λu B ⟨x,y,j,K,a,dx,fs,ex,n,l,q⟩=>?_) w;subst ex;obtain rfl:u=Value.ref a:=K;refine Ge j n c g l ?_;refine lQ (first:=[.ref a]) (h₀:=X.base) I.ok.mod.kin g.kp (Zx (v pos b B Z y _ j q) λus L ⟨vs,M,i,r,J⟩=>⟨i.kIn,?_⟩) d hpl;exact Hl (us:=.ref a::us) (vs:=.ref a::vs) F D z G A i (.cons rfl r) J
end
def K0(f:Str)(b c p3 a:Pos):List Stmt:=[.Assign [.Attribute (.Name "self" b) f c] (.Dict [] [] p3) a]
def Gc(C:yQ)(f:Str):Sp:=λa H Q _=>∃(p dx:yQ),a=[.ref p]/\H p=Z9 (.ins C dx [])/\∀d,H d=Z8->Q .non (ZE (ZE H d (.dK [])) p (.ins C dx [(f,.ref d)]))
structure Up(K:yP)(mg:Str->yF)(N f:Str)(C g:yQ):Prop where
 cl:WQ K C
 no:Vv K C f
 mgC:mg N=Z9 (.ref C)
 mak:Mk K C g
 ini:∃q st fd p1 p2 p3 p4,WN K "__init__" q st g fd/\Sm ["self"] ["self"] (Zd st)/\WB K fd ["self"] []/\X4 st=K0 f p1 p2 p3 p4/\(Zd st).names.lookup ("self":Str)=Z9 NameKind.local
section
variable {P:yY}{w:jC}{K:yP}{mg:Str->yF}{base:jB}
theorem vb{st:jV}(F:WN K "__init__" q st g c)(S:Sm ["self"] ["self"] (Zd st))(cl:WQ K C)(v:Vv K C f)(t:X4 st=K0 f r o p3 u)(m:(Zd st).names.lookup ("self":Str)=Z9 NameKind.local):YO P w K mg base US 1 g c ["self"] (Gc C f):=by
 refine F.ok S (λl H Q E h=>?_) (λn A a s H l Q E x h=>?_)
 .obtain⟨p,dx,rfl,_⟩:=h;rfl
 .obtain⟨p,dx,rfl,e,k⟩:=h;rw[t];refine⟨_,BI (Av (Rg (i:=0) rfl (.inl m) (by decide) (by decide)) GX rfl),?_⟩;intro d j;have b:p≠d:=Vx e j;exact⟨_,rfl,p,C,dx,[],rfl,(by rw[Zq b];exact e),cl,v,(by show 0<1000;decide),k d j⟩
end
def Gb(C:yQ)(f:Str):TE:=fun Z H Q=>∀x dx d,H x=Z8->H dx=Z8->H d=Z8->dx≠x->d≠x->d≠dx ->
 Q (.ref x) (ZE (ZE (ZE (ZE (ZE H dx (.own x)) x (.ins C dx [])) d (.dK [])) x (.ins C dx [(f,.ref d)])) x (.frz (wG C dx) (.ins C dx [(f,.ref d)])))
section
variable {X:Cx}{N f:Str}{C g:yQ}{p pos:Pos}
theorem ZP.freezeJ{Z:St}(I:ZP X b Z H s)(e:H a=Z9 (.ins C dx fs)):ZP X b Z (ZE H a (.frz (wG C dx) (.ins C dx fs))) s:=by
 obtain⟨o,c⟩:=I.freezeI e;have h:=(c.hok a _ YU)
 obtain⟨d,z,ne,j,k,n,r,q⟩:=(show XR X.prog X.w H s.heap a (.ins C dx fs)from I.hok a _ e)
 obtain⟨i,_⟩:=h;rw[j]at i;cases i;exact c
theorem va(D:Up X.K X.mg N f C g)(z:Zr 2 X.A)(L:Gl X N)(i:Wm US X E0)(hdb:XI N):PE X (.Call (.Name N p) [] [] pos) (Gb C f):=by
 obtain⟨q,R,l,O,M,p3,T,F,S,y,K,r⟩:=D.ini;have G:YO X.prog X.w X.K X.mg X.base US 1 g l ["self"] (Gc C f):=vb F S D.cl D.no K r;intro b s Z H Q I h;have m:=Am (p:=p) (pos:=pos) D.mak G z L D.mgC y .nil i hdb;refine Zx (m b s Z H (λv j=>∃x dx d,H x=Z8/\H dx=Z8/\H d=Z8/\dx≠x/\d≠x/\d≠dx/\v=.ref x/\j=ZE (ZE (ZE (ZE H dx (.own x)) x (.ins C dx [])) d (.dK [])) x (.ins C dx [(f,.ref d)])) I ?_) ?_
 .intro x dx i c ne;refine⟨x,dx,rfl,YU,λd a=>⟨rfl,x,dx,d,i,c,?_,ne,?_,?_,rfl,rfl⟩⟩
  .by_cases e:d=x
   .subst e;rw[YU]at a;cases a
   .rw[Zq e]at a;by_cases k:d=dx
    .subst k;rw[YU]at a;cases a
    .rw[Zq k]at a;exact a
  .rintro rfl;rw[YU]at a;cases a
  .rintro rfl;rw[Zq ne,YU]at a;cases a
 .rintro u P ⟨v,j,w,t,x,dx,d,E,J,A,n,B,o,rfl,rfl⟩;exact⟨_,_,w.freezeJ YU,t,h x dx d E J A n B o⟩
end
def Th(h:jB)(e T:yQ)(b:yT):Prop:=∃a c d f,h.get? e=Z9 a/\a.cls=b/\a.data=.fields c/\c[1]?=Z9 (.ref T)/\T≠e/\h.get? T=Z9 d/\d.data=.fields f/\f[3]?=Z9 .none
structure Q1(l:List Env)(wr:yC)(e:yQ)(cls:yT)(h h':jB):Prop where
 keep:∀b o,h.get? b=Z9 o->b∉wr->b∉X5 l->h'.get? b=Z9 o
 slot:∀b o,h.get? b=Z9 o->b∉wr->∃sl,h'.get? b=Z9 { o with slots:=sl }
 there:∀b o,h.get? b=Z9 o->∃o',h'.get? b=Z9 o'
 tr:∃T,h.objs.size<=T/\Th h' e T cls
section
variable {M:m4}{A:jE}{E:yL}{s:yR}{base:jB}{env:Env}{outer:List Env}{L e:yQ}{oe:Obj}{vs:yJ}{Q:Unit->yR->Prop}
theorem KZ{pl:yB}(hpl:IsPlace pl)(g:qO6 (X5 (env::outer)) h₀ a)(he:a.get? e=Z9 oe)(v:oe.data=.fields vs)(d:1<vs.size)(k:e∈wr)
  (w:∀h',Q1 (env::outer) wr e oe.cls h₀ h'->Q () { s with heap:=h' }) :
  yZ M A (EntryCells.newEntry head (.ref L) .none (vZ L) .none pl >>= λb=>setField (.ref e) 1 b) (λ_ s'=>yZ M A (mY (.ref e) Z8) Q E s') E { s with heap:=a }:=by
 obtain⟨ts,f⟩:∃ts,([head,.ref L,.none,vZ L,.none]++(if pl.isEmpty then qC3 6 Value.none else pl)).toArray=ts:=⟨_,rfl⟩
 have n:3<ts.size:=by rw[<- f,qB4,qC4];simp only[qB6];lia
 refine yO (jP ?_ (hpl.sizeOk5 _ _ _ _ _));rw[f];have p:=qA2 { cls:=.type "traceback",dict:=Z8,data:=.fields ts } he;refine j3 p v d ?_;have ne:=qF3 (qB1 he);have i:=jA v (·.setIfInBounds 1 (Value.ref a.objs.size));have r:=qD3 (jL (·.setIfInBounds 1 (Value.ref a.objs.size))) p (jD i);have t:=(qC8 (a.push { cls:=.type "traceback",dict:=Z8,data:=.fields ts }) (jL (·.setIfInBounds 1 (Value.ref a.objs.size))) (Ne.symm ne)).trans (qB5 a rfl);refine fU r i (by simp[d]) t rfl n (w _ ?_);have keep:∀b o,b≠e->a.get? b=Z9 o->(((a.push { cls:=.type "traceback",dict:=Z8,data:=.fields ts }).update e (jL (·.setIfInBounds 1 (Value.ref a.objs.size)))).update a.objs.size (jL (·.setIfInBounds 3 .none))).get? b=Z9 o:=λb o j c=>by rw[qC8 _ _ (qF3 (qB1 c)),qC8 _ _ (Ne.symm j)];exact qA2 _ c
 have m:=(qC8 ((a.push { cls:=.type "traceback",dict:=Z8,data:=.fields ts }).update e (jL (·.setIfInBounds 1 (Value.ref a.objs.size)))) (jL (·.setIfInBounds 3 .none)) ne).trans r;have l:∀b:yQ,b∉wr->b≠e:=λb c z=>c (z▸k);refine⟨λb o c h x=>keep b o (l b h) ((g.2.1 b x).trans c),λb o c h=>?_,λb o c=>?_,a.objs.size,qK6 g.1.symm,_,_,_,_,m,fA _ _,i,by simp[d],ne,qD3 _ t (jD (jA rfl _)),jA rfl _,by simp[n]⟩
 .obtain⟨u,q⟩:=g.2.2 b o c;exact⟨u,keep b _ (l b h) q⟩
 .obtain⟨u,q⟩:=g.2.2 b o c;by_cases z:b=e
  .exact⟨_,by rw[z];exact m⟩
  .exact⟨_,keep b _ z q⟩
theorem u7(c:A.frames=Z9 (env::outer))(g:s.heap.FunFrames base (env::outer))(d:env.frame=Z9 L)(he:s.heap.get? e=Z9 oe)(a:oe.data=.fields vs)(i:vs[1]?=Z9 .none)
  (n:∀h',Q1 (env::outer) [e] e oe.cls s.heap h'->Q () { s with heap:=h' }):yZ M A (vM (.ref e) env) (λ_ s'=>yZ M A (mY (.ref e) Z8) Q E s') E s:=by
 have l:e∉X5 (env::outer):=λm=>by obtain⟨_,o,f,k⟩:=g.mem m;rw[he]at f;cases f;exact k vs a
 unfold vM;simp only[d];refine yO (jJ he a i ?_);refine yO (fD c g d λh j=>yO (wQ λp b=>?_));exact KZ b j ((j.2.1 e l).trans he) a (Array.getElem?_eq_some_iff.mp i).1 (by simp) n
theorem Ga(p:A.frames=Z9 (env::outer))(H:s.heap.FunFrames base (env::outer))(B:env.frame=Z9 L)(I:Th s.heap e T l)
  (J:∀h',Q1 (env::outer) [e,T] e l s.heap h'->Q () { s with heap:=h' }):yZ M A (vM (.ref e) env) (λ_ s'=>yZ M A (mY (.ref e) Z8) Q E s') E s:=by
 obtain⟨U,D,V,R,C,rfl,t,y,G,m,f,x⟩:=I;have N:=(Array.getElem?_eq_some_iff.mp x).1;unfold vM;simp only[B];refine yO (jJ C t y ?_);refine yO (jJ m f x ?_);refine yO (j3 m f N ?_);obtain⟨h0,d⟩:∃h0,s.heap.update T (jL (·.setIfInBounds 3 Value.none))=h0:=⟨_,rfl⟩
 have c:∀b,b≠T->h0.get? b=s.heap.get? b:=λb a=>by rw[<- d];exact qC8 _ _ (Ne.symm a)
 have sz:h0.objs.size=s.heap.objs.size:=by rw[<- d];exact qK4 _ _ _
 have atT:∃o',h0.get? T=Z9 o':=⟨_,by rw[<- d];exact qD3 _ m (jD (jA f _))⟩
 rw[d];have j:=(c e (Ne.symm G)).trans C;have k:=H.of_keeps λb o a n=>⟨o,(c b λz=>by rw[z,m]at a;cases a;exact n R f).trans a,rfl⟩
 have F:e∉X5 (env::outer):=λK=>by obtain⟨_,o,w,O⟩:=k.mem K;rw[j]at w;cases w;exact O D t
 refine yO (fD p k B λu v=>yO (wQ λS r=>?_));refine KZ r v ((v.2.1 e F).trans j) t (Array.getElem?_eq_some_iff.mp y).1 (wr:=[e,T]) (by simp) λh' i=>J h' ?_;have h:∀b:yQ,b∉[e,T]->b≠T:=λb a z=>a (by rw[z];simp);refine⟨λb o a g P=>i.keep b o ((c b (h b g)).trans a) g P,λb o a g=>i.slot b o ((c b (h b g)).trans a) g,λb o a=>?_,by rw[<- sz];exact i.tr⟩;by_cases z:b=T
 .obtain⟨o',q⟩:=atT;exact i.there b o' (by rw[z];exact q)
 .exact i.there b o ((c b z).trans a)
end
inductive Xj(P:yY)(w:jC)(outer:List Env)(H:Hp)(s:yR)(E:XK)(ev:yT)(s':yR):Prop
 |mk (e T:yQ) (C:yT) (H':Hp) (eq:ev=.ref e) (tr:Th s'.heap e T C) (ne:s.heap.get? e=Z8) (nT:s.heap.get? T=Z8) (os:s'.os=s.os) (bare:wO s'.gens) (un:Un (X5 outer) [] H H' s.heap s'.heap) (hok:YB P w H' s'.heap) (he:H' e=Z8) (hT:H' T=Z8) (w:E C Z8 H')
theorem XR.here(x:XR P w H h a o):∃ob,h.get? a=Z9 ob:=by
 cases o with
 |lst c=>obtain⟨_,_,_,_,e⟩:=x;exact⟨_,e⟩
 |tup c=>obtain⟨_,_,_,ob,e,_⟩:=x;exact⟨ob,e⟩
 |dK b=>obtain⟨_,_,_,_,ob,_,_,e,_⟩:=x;exact⟨ob,e⟩
 |dT b=>obtain⟨_,_,_,_,ob,_,_,e,_⟩:=x;exact⟨ob,e⟩
 |set S n=>obtain⟨ob,_,_,_,e,_⟩:=x;exact⟨ob,e⟩
 |ins C dx fs=>obtain⟨_,_,_,e,_⟩:=x;exact⟨_,e⟩
 |own y=>exact x
 |xd fs=>obtain⟨_,⟨ob,_,_,e,_⟩,_⟩:=x;exact⟨ob,e⟩
 |rng lo i=>obtain⟨_,_,_,e⟩:=x;exact⟨_,e⟩
 |frz ob u=>exact⟨ob,x.1⟩
 |tbl g=>exact⟨_,x⟩
 |met f y=>exact⟨_,x⟩
 |ext d=>exact x.2.1
section
variable {X:Cx}{pins:yD}{Z:St}{H:Hp}{s:yR}{E:XK}{e T:yQ}{C:yT}{wr:yC}{h':jB}
structure Wz(X:Cx)(E:XK):Prop where
 xe:X.xe=λe s'=>yZ (yX X.prog X.w) X.A (leaving X.env e) (λ_ s''=>Xj X.prog X.w X.outer X.H₀ X.s₀ E e s'') (λe' s''=>Xj X.prog X.w X.outer X.H₀ X.s₀ E e' s'') s'
 stk:X.stack=X.env::X.outer
 fr:X.env.frame=Z9 X.env.locals
 ex:X.ex=[]
theorem u5(o:Wz X E):X5 X.stack=X.env.locals::X.fs:=by rw[o.stk];show List.filterMap (·.frame) (X.env::X.outer)=_;rw[qE9,o.fr];rfl
theorem u0(I:ZP X pins Z H s)(f:Q1 X.stack wr e C s.heap h')(g:∀b∈wr,H b=Z8):YB X.prog X.w H h':=λa o q=>(I.hok a o q).stay (λb u d r=>by
 have h:∃z,H b=Z9 z:=by
  rcases d with rfl|d
  .exact⟨o,q⟩
  .exact⟨_,d⟩
 obtain⟨z,c⟩:=h;refine f.keep b u r (λm=>?_) λm=>?_
 .rw[g b m]at c;cases c
 .rw[I.stkFree b m]at c;cases c) (λ_ r=>r) λ_ _ r=>r
theorem KY(o:Wz X E)(I:ZP X pins Z H s)(d:Q1 X.stack wr e C s.heap h')(f:∀b∈wr,X.s₀.heap.get? b=Z8/\H b=Z8)(he:e∈wr)(p:E C Z8 H):Xj X.prog X.w X.outer X.H₀ X.s₀ E (.ref e) { s with heap:=h' }:=by
 obtain⟨T,k,r⟩:=d.tr;have u:=u5 o;have ex:∀b,b∉X.ex:=λb c=>by rw[o.ex]at c;cases c
 have i:∀b a,X.s₀.heap.get? b=Z9 a->b∉wr:=λb a q m=>by rw[(f b m).1]at q;cases q
 have w:∀b a,X.s₀.heap.get? b=Z9 a->b≠X.env.locals:=λb a q=>qC0 (qA9 (qB1 q) I.ok.above);have l:X.s₀.heap.get? T=Z8:=by
  cases q:X.s₀.heap.get? T with
  |none=>rfl
  |some a =>
   obtain⟨j,t⟩:=I.base.there T a q (ex T);exact absurd (qB1 t) (qK9.mpr k)
 refine⟨e,T,C,H,rfl,r,(f e he).1,l,I.os,I.bare,⟨λb a q n c _=>?_,λb a q n c _=>?_,λb a q n _=>I.base.free b a q n (ex b),λb a q _=>?_,I.base.tups,I.base.frzs,I.base.tbls⟩,u0 I d λb m=>(f b m).2,(f e he).2,I.hok.fresh k,p⟩
 .refine d.keep b a (I.base.keep b a q n c (ex b)) (i b a q) ?_;rw[u];exact λm=>(qA8.mp m).elim (w b a q) c
 .obtain⟨x,h⟩:=I.base.slot b a q n c (ex b);obtain⟨g,v⟩:=d.slot b _ h (i b a q);exact⟨g,v⟩
 .obtain⟨j,h⟩:=I.base.there b a q (ex b);exact d.there b j h
theorem uZ(o:Wz X E):Wm (Xj X.prog X.w) X E:=by
 intro j Z H s A B I h;obtain⟨e,T,C,x,rfl,u,ne,m,p,a,un,f,w,t,n⟩:=h;have d:=I.call' p un f a λb z=>absurd z (by simp);rw[o.xe];have g:∀b,s.heap.get? b=Z8->X.s₀.heap.get? b=Z8:=λb c=>by
  cases q:X.s₀.heap.get? b with
  |none=>rfl
  |some r =>
   obtain⟨y,i⟩:=I.base.there b r q (by rw[o.ex];simp);rw[c]at i;cases i
 have l:=d.stack;have k:=d.ok.frames;rw[o.stk]at l k;refine yO (Ga k l o.fr u λD v=>KY o d (by rw[o.stk];exact v) (λb c=>?_) (by simp) n);simp only[qA8,qB8,or_false]at c;rcases c with rfl|rfl
 .exact⟨g _ ne,w⟩
 .exact⟨g _ m,t⟩
def KW(X:Cx)(E:XK):Prop:=∀(a:yD) (Z:St) (H:Hp) (s:yR) (b:jB) (e C:yQ) (c:yB),ZP X a Z H s->qO7 s.heap b e (.ref C) c->E (.ref C) Z8 H->X.xe (.ref e) { s with heap:=b }
theorem uY(o:Wz X E):KW X E:=by
 intro g Z H s x e C w I c k;have d:=I.kept (t':=s.toks) c.keeps;obtain⟨t,r,_,_⟩:=c.there;have p:X.s₀.heap.get? e=Z8:=by
  cases q:X.s₀.heap.get? e with
  |none=>rfl
  |some l =>
   obtain⟨j,a⟩:=I.base.there e l q (by rw[o.ex];simp);rw[c.new]at a;cases a
 have m:H e=Z8:=by
  cases q:H e with
  |none=>rfl
  |some u =>
   obtain⟨j,a⟩:=(I.hok e u q).here;rw[c.new]at a;cases a
 have i:=d.stack;have h:=d.ok.frames;rw[o.stk]at i h;rw[o.xe];refine yO (u7 h i o.fr r rfl rfl λv n=>KY o d (by rw[o.stk];exact n) (λb f=>?_) (by simp) k);simp only[qA8,qB8,or_false]at f;subst f;exact⟨p,m⟩
end
abbrev KU:yB:=[.type "ValueError",.type "Exception",.type "BaseException",.type "object"]
def Xi(K:yP)(C:yQ):Prop:=W.excIn K C KU "ValueError.__new__"=Z7
theorem uX{K:yP}(h:Xi K C):∃d N nm q bs hdct sn sub ab col dd k0 k1 k2 k3 k5,K.lookup C=Z9 (excClassObj nm q C N bs d hdct sn sub ab col dd k0 k1 k2 k3 k5 "ValueError.__new__")/\W.tailIn K KU d=Z7/\W.nsOkIn K N=Z7/\wD K N "__init__"=Z9 Z8:=by
 unfold Xi W.excIn at h;split at h
 .rename_i dd o p k;split at h
  .rename_i t d k0 k1 k2 k3 n k5 e i;simp only[qB3,beq_iff_eq,qF6]at h;obtain⟨⟨⟨⟨⟨rfl,rfl⟩,a⟩,g⟩,c⟩,b⟩:=h;obtain⟨nm,bs,j,r,f,s,sn,sub,ab,col,m⟩:=o;dsimp only at e a c b;subst e a;obtain⟨l⟩:=p;subst i;exact⟨d,r,nm,f,bs,s,sn,sub,ab,col,dd,k0,k1,k2,k3,k5,k,g,c,b⟩
  .cases h
 .cases h
section
variable {X:Cx}{E:XK}{x:Str}{C:yQ}{txt:Str}{j:Nat}{np p2 cpos pos:Pos}
def uW(C:yQ)(E:XK):TS:=λ_ _ H=>E (.ref C) Z8 H
theorem uV(r:X.calm=Z7)(p:Gl X x)(l:X.mg x=Z9 (.ref C))(hk:Xi X.K C)(g:KW X E)(n:XI x):PS X (.Raise (Z9 (.Call (.Name x np) [.Constant (.str txt) j p2] [] cpos)) Z8 pos) (uW C E):=by
 intro a s Z H D I h;obtain⟨t,N,nm,q,bs,hdct,sn,sub,ab,col,dd,k0,k1,k2,k3,k5,o,f,b,d⟩:=uX hk;have T:=W.tail_of_in I.kIn f;refine wpAny_Raise_call_subT (nm:=nm) (q:=q) (N:=N) (bs:=bs) (hdct:=hdct) (sn:=sn) (sub:=sub) (ab:=ab) (col:=col) (dd:=dd) (k0:=k0) (k1:=k1) (k2:=k2) (k3:=k3) (k5:=k5)
  PySem.F.excBase_ValueError (T.hasType (by decide)) (I.ok.hd r) rfl (W.nsMap_none_of_in I.kIn b d) (Rf I p l ⟨rfl,?_⟩ n)
 refine fS (Calls.spliced_cons (Calls.Constant_str (pos:=p2) (k:=j) (Calls.spliced_nil ?_)));have c:ZP X a Z H { s with toks:=s.toks+1 }:=I.tok _;exact⟨rfl,by show 1<=yW;decide,c.kIn _ _ o,.of_isNs (W.isNs_of_in c.kIn b),W.tail_of_in c.kIn f,λm e i=>g a Z H _ m e C _ c i h⟩
end
section
variable {X:Cx}{pins:yD}{Z:St}{H:Hp}{s:yR}{E:XK}{e T:yQ}{C:yT}{h':jB}
theorem uU(o:Wz X E)(I:ZP X pins Z H s)(keep:∀b c,s.heap.get? b=Z9 c->b≠T->h'.get? b=Z9 c)(i:∃o',h'.get? T=Z9 o')(m:Th h' e T C)(p:X.s₀.heap.get? e=Z8)(k:H e=Z8)(j:X.s₀.heap.get? T=Z8)(g:H T=Z8)(l:E C Z8 H):Xj X.prog X.w X.outer X.H₀ X.s₀ E (.ref e) { s with heap:=h' }:=by
 have ex:∀b,b∉X.ex:=λb d=>by rw[o.ex]at d;cases d
 have f:∀b c,X.s₀.heap.get? b=Z9 c->b≠T:=λb c q z=>by rw[z,j]at q;cases q
 refine⟨e,T,C,H,rfl,m,p,j,I.os,I.bare,⟨λb c q n d _=>keep b c (I.base.keep b c q n d (ex b)) (f b c q),λb c q n d _=>?_,λb c q n _=>I.base.free b c q n (ex b),λb c q _=>?_,I.base.tups,I.base.frzs,I.base.tbls⟩,λa o q=>(I.hok a o q).stay (λb u d r=>keep b u r λz=>?_) (λ_ r=>r) λ_ _ r=>r,k,g,l⟩
 .obtain⟨t,h⟩:=I.base.slot b c q n d (ex b);exact⟨t,keep b _ h (f b c q)⟩
 .obtain⟨o',h⟩:=I.base.there b c q (ex b);exact⟨o',keep b o' h (f b c q)⟩
 .subst z;rcases d with rfl|d
  .rw[g]at q;cases q
  .rw[g]at d;cases d
end
def Wy(h:jB)(e T:yQ)(b:yT):Prop:=∃a c d f v,h.get? e=Z9 a/\a.cls=b/\a.data=.fields c/\c[1]?=Z9 (.ref T)/\T≠e/\h.get? T=Z9 d/\d.data=.fields f/\f[3]?=Z9 v
theorem uT(h:env'.frame=env.frame):vM e env'=vM e env:=by unfold vM PySem.frameOf;rw[h]
section
variable {M:m4}{A:jE}{E:yL}{s:yR}{base:jB}{env:Env}{outer:List Env}{L e T:yQ}{cls:yT}{Q:Unit->yR->Prop}
theorem uS{vs:yJ}{pl:yB}{wr:yC}(hpl:IsPlace pl)(g:qO6 (X5 (env::outer)) h₀ a)(he:a.get? e=Z9 k)(u:k.data=.fields vs)(f:1<vs.size)(l:e∈wr)
  (v:∀h' m,(∀b o,h₀.get? b=Z9 o->b∉wr->b∉X5 (env::outer)->h'.get? b=Z9 o)->(∀b o,h₀.get? b=Z9 o->b∉wr->∃h,h'.get? b=Z9 { o with slots:=h })->(∀b o,h₀.get? b=Z9 o->∃o',h'.get? b=Z9 o')->h₀.objs.size<=m->Wy h' e m k.cls->Q () { s with heap:=h' }) :
  yZ M A (EntryCells.newEntry head (.ref L) .none (vZ L) .none pl >>= λb=>setField (.ref e) 1 b) Q E { s with heap:=a }:=by
 obtain⟨ts,d⟩:∃ts,([head,.ref L,.none,vZ L,.none]++(if pl.isEmpty then qC3 6 Value.none else pl)).toArray=ts:=⟨_,rfl⟩
 have w:3<ts.size:=by rw[<- d,qB4,qC4];simp only[qB6];lia
 refine yO (jP ?_ (hpl.sizeOk5 _ _ _ _ _));rw[d];have r:=qA2 { cls:=.type "traceback",dict:=Z8,data:=.fields ts } he;refine j3 r u f ?_;have ne:=qF3 (qB1 he);have p:=jA u (·.setIfInBounds 1 (Value.ref a.objs.size));have t:=qD3 (jL (·.setIfInBounds 1 (Value.ref a.objs.size))) r (jD p);have y:=(qC8 (a.push { cls:=.type "traceback",dict:=Z8,data:=.fields ts }) (jL (·.setIfInBounds 1 (Value.ref a.objs.size))) (Ne.symm ne)).trans (qB5 a rfl);have keep:∀b o,b≠e->a.get? b=Z9 o->((a.push { cls:=.type "traceback",dict:=Z8,data:=.fields ts }).update e (jL (·.setIfInBounds 1 (Value.ref a.objs.size)))).get? b=Z9 o:=λb o j c=>by rw[qC8 _ _ (Ne.symm j)];exact qA2 _ c
 have n:∀b:yQ,b∉wr->b≠e:=λb c z=>c (z▸l);refine v _ a.objs.size (λb o c i x=>keep b o (n b i) ((g.2.1 b x).trans c)) (λb o c i=>?_) (λb o c=>?_) (qK6 g.1.symm) ⟨_,_,_,_,_,t,fA _ _,p,by simp[f],ne,y,rfl,Array.getElem?_eq_getElem w⟩
 .obtain⟨h,q⟩:=g.2.2 b o c;exact⟨h,keep b _ (n b i) q⟩
 .obtain⟨h,q⟩:=g.2.2 b o c;by_cases z:b=e
  .exact⟨_,by rw[z];exact t⟩
  .exact⟨_,keep b _ z q⟩
theorem uR(m:A.frames=Z9 (env::outer))(G:s.heap.FunFrames base (env::outer))(y:env.frame=Z9 L)(I:Th s.heap e T cls)
  (J:∀h' j,(∀b o,s.heap.get? b=Z9 o->b∉[e,T]->b∉X5 (env::outer)->h'.get? b=Z9 o)->(∀b o,s.heap.get? b=Z9 o->b∉[e,T]->∃V,h'.get? b=Z9 { o with slots:=V })->(∀b o,s.heap.get? b=Z9 o->∃o',h'.get? b=Z9 o')->s.heap.objs.size<=j->Wy h' e j cls->Q () { s with heap:=h' }):yZ M A (vM (.ref e) env) Q E s:=by
 obtain⟨Y,C,Z,U,B,rfl,p,x,F,k,f,w⟩:=I;have P:=(Array.getElem?_eq_some_iff.mp w).1;unfold vM;simp only[y];refine yO (jJ B p x ?_);refine yO (jJ k f w ?_);refine yO (j3 k f P ?_);obtain⟨h0,d⟩:∃h0,s.heap.update T (jL (·.setIfInBounds 3 Value.none))=h0:=⟨_,rfl⟩
 have a:∀b,b≠T->h0.get? b=s.heap.get? b:=λb c=>by rw[<- d];exact qC8 _ _ (Ne.symm c)
 have sz:h0.objs.size=s.heap.objs.size:=by rw[<- d];exact qK4 _ _ _
 have atT:∃o',h0.get? T=Z9 o':=⟨_,by rw[<- d];exact qD3 _ k (jD (jA f _))⟩
 rw[d];have h:=(a e (Ne.symm F)).trans B;have i:=G.of_keeps λb o c l=>⟨o,(a b λz=>by rw[z,k]at c;cases c;exact l U f).trans c,rfl⟩
 have D:e∉X5 (env::outer):=λO=>by obtain⟨_,o,v,R⟩:=i.mem O;rw[h]at v;cases v;exact R C p
 refine yO (fD m i y λr u=>yO (wQ λX n=>?_));refine uS n u ((u.2.1 e D).trans h) p (Array.getElem?_eq_some_iff.mp x).1 (wr:=[e,T]) (by simp) λh' j N H t K W=>J h' j ?_ ?_ ?_ (by rw[<- sz];exact K) W
 .exact λb o c g S=>N b o ((a b λz=>g (by rw[z];simp)).trans c) g S
 .exact λb o c g=>H b o ((a b λz=>g (by rw[z];simp)).trans c) g
 .intro b o c;by_cases z:b=T
  .obtain⟨o',q⟩:=atT;exact t b o' (by rw[z];exact q)
  .exact t b o ((a b z).trans c)
theorem uQ(w:A.frames=Z9 (env::outer))(O:s.heap.FunFrames base (env::outer))(J:env.frame=Z9 L)(P:Wy s.heap e T cls)
  (y:∀h',Q1 (env::outer) [e,T] e cls s.heap h'->Q () { s with heap:=h' })
  (B:∀h',(∀b o,s.heap.get? b=Z9 o->b≠T->h'.get? b=Z9 o)->(∃o',h'.get? T=Z9 o')->Th h' e T cls->Q () { s with heap:=h' }):yZ M A (vM (.ref e) env) (λ_ s'=>yZ M A (mY (.ref e) Z8) Q E s') E s:=by
 obtain⟨U,D,Y,W,v,r,rfl,m,p,u,g,a,I⟩:=P;have x:=(Array.getElem?_eq_some_iff.mp I).1;unfold vM;simp only[J];refine yO (jJ r m p ?_);rw[if_pos (show(Value.ref T != Value.none)=Z7 from by simp)];refine yO (jJ g a I ?_);by_cases K:(v == vZ L)=Z7
 .rw[if_pos K];refine yS ?_;refine fU r m p g a x (B _ (λb o c n=>(qC8 _ _ (Ne.symm n)).trans c) ?_ ?_)
  .exact⟨_,qD3 _ g (jD (jA a _))⟩
  .exact⟨U,D,_,_,(qC8 _ _ u).trans r,rfl,m,p,u,qD3 _ g (jD (jA a _)),jA a _,by simp[x]⟩
 .rw[if_neg K];refine yO (j3 g a x ?_);obtain⟨h0,f⟩:∃h0,s.heap.update T (jL (·.setIfInBounds 3 Value.none))=h0:=⟨_,rfl⟩
  have d:∀b,b≠T->h0.get? b=s.heap.get? b:=λb c=>by rw[<- f];exact qC8 _ _ (Ne.symm c)
  have sz:h0.objs.size=s.heap.objs.size:=by rw[<- f];exact qK4 _ _ _
  have atT:∃o',h0.get? T=Z9 o':=⟨_,by rw[<- f];exact qD3 _ g (jD (jA a _))⟩
  rw[f];have k:=(d e (Ne.symm u)).trans r;have l:=O.of_keeps λb o c t=>⟨o,(d b λz=>by rw[z,g]at c;cases c;exact t W a).trans c,rfl⟩
  have N:e∉X5 (env::outer):=λR=>by obtain⟨_,o,H,S⟩:=l.mem R;rw[k]at H;cases H;exact S D m
  refine yO (fD w l J λF G=>yO (wQ λX C=>?_));refine KZ C G ((G.2.1 e N).trans k) m (Array.getElem?_eq_some_iff.mp p).1 (wr:=[e,T]) (by simp) λh' j=>y h' ?_;have i:∀b:yQ,b∉[e,T]->b≠T:=λb c z=>c (by rw[z];simp);refine⟨λb o c h V=>j.keep b o ((d b (i b h)).trans c) h V,λb o c h=>j.slot b o ((d b (i b h)).trans c) h,λb o c=>?_,by rw[<- sz];exact j.tr⟩;by_cases z:b=T
  .obtain⟨o',q⟩:=atT;exact j.there b o' (by rw[z];exact q)
  .exact j.there b o ((d b z).trans c)
end
section
variable {X:Cx}{pins:yD}{Z:St}{H:Hp}{s:yR}{E:XK}{e T:yQ}{C:yT}
def PQ(X:Cx)(a:yD)(ch:yC):Prop:=∀b∈ch,(b∈X.ex∨X.s₀.heap.objs.size<=b)/\b≠X.env.locals/\(∀x c,X.env.cells.lookup x=Z9 c->c≠b)/\∀p∈X.pn++a,p.1≠b
theorem uP(o:Wz X E)(I:ZP X pins Z H s)(w:Wy s'.heap e T C)(ne:e∈ch∨s.heap.get? e=Z8)(k:T∈ch∨s.heap.get? T=Z8)(u:s'.os=s.os)(d:wO s'.gens)(un:Un (X5 X.stack) ch H f s.heap s'.heap)(g:PQ X pins ch)(j:YB X.prog X.w f s'.heap)(he:f e=Z8)(m:f T=Z8)(l:E C Z8 f):X.xe (.ref e) s':=by
 have h:=I.call' u un j d g;rw[o.xe];have i:∀b,b∈ch∨s.heap.get? b=Z8->X.s₀.heap.get? b=Z8:=λb a=>by
  cases q:X.s₀.heap.get? b with
  |none=>rfl
  |some v =>
   rcases a with a|a
   .rcases(g b a).1 with z|z
    .rw[o.ex]at z;cases z
    .exact absurd (qB1 q) (qK9.mpr z)
   .obtain⟨A,n⟩:=I.base.there b v q (by rw[o.ex];simp);rw[a]at n;cases n
 have r:=h.stack;have p:=h.ok.frames;rw[o.stk]at r p;refine yO (uQ p r o.fr w (λy x=>KY o h (by rw[o.stk];exact x) (λb a=>?_) (by simp) l) λy keep c t=>uU o h keep c t (i _ ne) he (i _ k) m l);simp only[qA8,qB8,or_false]at a;rcases a with rfl|rfl
 .exact⟨i _ ne,he⟩
 .exact⟨i _ k,m⟩
end
structure Ve(X:Cx)(pins:yD)(H:Hp)(b:yQ):Prop where
 s0:X.s₀.heap.get? b=Z8
 h:H b=Z8
 l:b≠X.env.locals
 c:∀x c,X.env.cells.lookup x=Z9 c->c≠b
 p:∀p∈X.pn++pins,p.1≠b
section
variable {X:Cx}{pins:yD}{Z:St}{H H':Hp}{s:yR}
theorem ZP.new1(I:ZP X pins Z H s)(d:X.ex=[])(a:s.heap.get? b=Z8)(i:H' b=Z8):Ve X pins H' b:=by
 refine⟨?_,i,λz=>?_,λx c e z=>?_,λp g z=>?_⟩
 .cases q:X.s₀.heap.get? b with
  |none=>rfl
  |some h =>
   obtain⟨j,f⟩:=I.base.there b h q (by rw[d];simp);rw[a]at f;cases f
 .obtain⟨m,⟨o,k,l,e,_⟩,_⟩:=I.loc;rw[<- z,a]at e;cases e
 .obtain⟨v,o,q,_⟩:=I.cell x c e;rw[z,a]at q;cases q
 .have q:=(I.pin p g).1;rw[z,a]at q;cases q
theorem ZP.touch(I:ZP X pins Z H s)(D:X.ex=[]){wr:yC}(keep:∀b o,s.heap.get? b=Z9 o->b∉wr->b∉X5 X.stack->h'.get? b=Z9 o)
  (g:∀b o,s.heap.get? b=Z9 o->b∉wr->∃J,h'.get? b=Z9 { o with slots:=J }) (j:∀b o,s.heap.get? b=Z9 o->∃o',h'.get? b=Z9 o') (t:∀b∈wr,Ve X pins H b):ZP X pins Z H { s with heap:=h' }:=by
 have ex:∀b,b∉X.ex:=λb h=>by rw[D]at h;cases h
 have L:∀b f,X.s₀.heap.get? b=Z9 f->b∉wr:=λb f q m=>by rw[(t b m).s0]at q;cases q
 have nL:∀b f,X.s₀.heap.get? b=Z9 f->b≠X.env.locals:=λb f q=>qC0 (qA9 (qB1 q) I.ok.above);have O:∀b,b≠X.env.locals->b∉X.fs->b∉X5 X.stack:=λb G K m=>(qA8.mp (I.stkSub b m)).elim G K;refine⟨I.ok,I.os,I.bare,⟨λb f q n h _=>?_,λb f q n h _=>?_,λb f q n _=>I.base.free b f q n (ex b),λb f q _=>?_,I.base.tups,I.base.frzs,I.base.tbls⟩,?_,λx c e=>?_,I.free,I.freeC,λp M=>?_,?_,I.len⟩
 .exact keep b f (I.base.keep b f q n h (ex b)) (L b f q) (O b (nL b f q) h)
 .obtain⟨J,E⟩:=I.base.slot b f q n h (ex b);obtain⟨A,q2⟩:=g b _ E (L b f q);exact⟨A,q2⟩
 .obtain⟨o',E⟩:=I.base.there b f q (ex b);exact j b o' E
 .obtain⟨m,⟨o,S,V,e,d,r⟩,hv⟩:=I.loc;obtain⟨J,Q⟩:=g _ _ e λz=>(t _ z).l rfl;refine⟨m,⟨_,S,V,Q,d,r⟩,λi x v G K Y=>?_⟩;obtain⟨u,r,l⟩:=hv i x v G K Y;refine⟨u,r,?_⟩;rcases l with l|⟨k,c,N,R,C,y⟩
  .exact .inl l
  .obtain⟨B,F⟩:=g _ _ C λz=>(t _ z).c x c N rfl;exact .inr ⟨k,c,N,_,F,y⟩
 .obtain⟨v,R,C,y⟩:=I.cell x c e;obtain⟨B,F⟩:=g _ _ C λz=>(t _ z).c x c e rfl;exact⟨v,_,F,y⟩
 .obtain⟨W,T,p3,P,p5⟩:=I.pin p M;exact⟨keep _ _ W (λz=>(t _ z).p p M rfl) (O _ p3 P),T,p3,P,p5⟩
 .exact λa o q=>(I.hok a o q).stay (λb u h r=>by
   have U:∃z,H b=Z9 z:=by
    rcases h with rfl|h
    .exact⟨o,q⟩
    .exact⟨_,h⟩
   obtain⟨z,w⟩:=U;refine keep b u r (λm=>?_) λm=>?_
   .rw[(t b m).h]at w;cases w
   .rw[I.stkFree b m]at w;cases w) (λ_ r=>r) λ_ _ r=>r
def Cx.marked(X:Cx)(e:yQ):Cx:={ X with A:=X.A.mark (Z9 (.ref e)),calm:=Z5,xe:=λ_ _=>False }
theorem ZP.marked(I:ZP X pins Z H s)(e:yQ):ZP (X.marked e) pins Z H s :=
 ⟨⟨I.ok.mod,I.ok.kind,I.ok.glob,I.ok.blt,I.ok.above,I.ok.inj,I.ok.has,I.ok.cab,λz=>(by cases z),I.ok.frames,I.ok.stk,I.ok.exf,I.ok.bs,I.ok.bsz,I.ok.noex,I.ok.exfs,I.ok.funs,I.ok.frf⟩,I.os,I.bare,I.base,I.loc,I.cell,I.free,I.freeC,I.pin,I.hok,I.len⟩
theorem ZP.unmark(ok:X.Ok)(I:ZP (X.marked e) pins Z H s):ZP X pins Z H s:=⟨ok,I.os,I.bare,I.base,I.loc,I.cell,I.free,I.freeC,I.pin,I.hok,I.len⟩
end
structure VO(K:yP)(C:yQ):Prop where
 ga:j8 K (.ref C) "__getattribute__"=Z9 (Z9 (.builtin "BaseException.__getattribute__"))
 cl:j8 K (.ref C) "__class__"=Z9 (Z9 (.builtin "object.__class__"))
 mo:W.mroIn K C (.type "object")=Z9 Z7
 mb:W.mroIn K C (.type "BaseException")=Z9 Z7
 gn:j8 K (.ref C) "__getattr__"=Z9 Z8
 it:(W.clsIn K C).isSome=Z7
section
open PySem.W Builtin Builtin.ObjectAttr Builtin.Getset_descriptor
variable {prog:yY}{w:jC}{A:jE}{E:yL}{s:yR}{K:yP}{e C:yQ}{oe:Obj}
theorem PP(he:h.get? e=Z9 oe)(a:oe.cls=.ref C):W.Looks M h (dX (.ref e)) (.ref C):=a▸(W.Looks.ld he).andThen .now
theorem uO(X:K.In s.heap)(g:VO K C)(he:s.heap.get? e=Z9 oe)(a:oe.cls=.ref C)(h:R (.ok (.ret (.ref C))) s):
  vO (yX prog w) A (.call (.builtin "getset_descriptor.__get__") ⟨[.builtin "object.__class__",.ref e,b],[]⟩) R s:=by
 have c:=PP he a (M:=yX prog w);have d:=W.looks_mroIn (M:=yX prog w) X g.mo;refine mU KF.slot_gs.plain KF.entry_gs (KF.slot_gs.check _ _ _ _ _ _ _ _ KF.type_class (KF.args_gs _ _ _) ?_);unfold Builtin.«getset_descriptor.__get__» descrGet;rw[dga_obj];refine yO (yS ?_);unfold descrGetter descrCheckInstance descrNameAndClass isInstance;simp only[KF.owner_class]
 repeat lk
 refine⟨Code.quiet_builtin _ (by decide),mH KF.entry_class ?_⟩
 repeat lk
 exact h
theorem uN(X:K.In s.heap)(g:VO K C)(he:s.heap.get? e=Z9 oe)(d:oe.cls=.ref C)(f:Q () s):yZ M A (checkBuiltinCall "BaseException.__getattribute__" ⟨[.ref e,a],[]⟩) Q E s:=by
 have b:=PP he d (M:=M);have c:=W.looks_mroIn (M:=M) X g.mb;refine yO ?_;refine yO (b.at (c.at ?_))
 repeat (first|assumption|wp_step)
theorem uM(X:K.In s.heap)(g:VO K C)(he:s.heap.get? e=Z9 oe)(a:oe.cls=.ref C)(m:Q (.done (.ret (.ref C))) s):
  yZ (yX prog w) A (Builtin.«object.__getattribute__» ⟨[.ref e,.str "__class__" tk],[]⟩) Q E s:=by
 obtain⟨h,i,f,t,k⟩:=s;have j:=PP he a (M:=yX prog w);have l:=gH (M:=yX prog w) X g.cl;have b:=KF.type_class;have d:=F.slot_gs_get.lookup;have c:=F.slot_gs_set.lookup
 repeat (any_goals (first|assumption|with_reducible refine W.Looks.at (by assumption) ?_|wp_step))
 refine uO X g he a ?_
 repeat (any_goals (first|assumption|wp_step))
theorem uL{Q:yF->yR->Prop}(X:K.In s.heap)(g:VO K C)(he:s.heap.get? e=Z9 oe)(a:oe.cls=.ref C)(h:Q (Z9 (.ref C)) { s with toks:=s.toks+1 }):
  yZ (yX prog w) A (getAttr? (.ref e) "__class__") Q E s:=by
 obtain⟨c,d,b,t,i⟩:=s;have f:=PP he a (M:=yX prog w);have j:=gH (M:=yX prog w) X g.ga;have k:=gH (M:=yX prog w) X g.gn;refine yO (wpAny_mkText ?_);refine yO (vS (jR (yO (f.at (yO (j.at ?_))))));refine yO (k.at ?_);refine yO (vS (jR ?_));refine lP (mU F.attr_ValueError.ga.plain F.entry_bexc_ga (uN X g he a (uM (s:=⟨c,d,b,t+1,i⟩) X g he a ?_)))
 repeat (any_goals (first|assumption|wp_step))
theorem uK(g:VO K C):KitX K (.ref e) (.ref C) (λh=>∃b,h.get? e=Z9 b/\b.cls=.ref C) where
 ty:=λM h X p=>by obtain⟨b,j,l⟩:=p;exact PP j l
 it:=λ_ _ X _=>by
  have a:=g.it;unfold clsIn at a;split at a
  .rename_i r o d c i;intro B u x v k q;exact yO (mR (k _ _ (X _ _ i)) (yS q))
  .cases a
 ne:=λh t D m n y X f=>by
  have a:=g.it;refine qK0.mpr λq=>?_;have e:=Value.ref.inj (beq_iff_eq.mp q);subst e;unfold clsIn at a;split at a
  .rename_i r o d c i;have z:=(X _ _ i).symm.trans f;cases z
  .cases a
 ca:=λX p k=>by obtain⟨b,j,l⟩:=p;exact uL X g j l k
end
section
variable {X:Cx}{pins:yD}{Z:St}{H H':Hp}{s:yR}
def Uo(e:yQ)(a:Obj):HO:=.frz a (.ext λh=>h.get? e=Z9 a)
theorem ZP.adopt(I:ZP X pins Z H s)(l:X.ex=[])(n:Ve X pins H e)(he:s.heap.get? e=Z9 d):ZP X pins Z (ZE H e (Uo e d)) s:=by
 have ne:∀b u,H b=Z9 u->b≠e:=λb u q z=>by rw[z,n.h]at q;cases q
 have i:∀b g,X.s₀.heap.get? b=Z9 g->b≠e:=λb g q z=>by rw[z,n.s0]at q;cases q
 refine⟨I.ok,I.os,I.bare,⟨I.base.keep,I.base.slot,λb o q z v=>?_,I.base.there,λb h q=>?_,λb o u q=>?_,λb t q=>?_⟩,I.loc,I.cell,?_,λx c q=>?_,λp f=>?_,λa o q=>?_,I.len⟩
 .rw[Zq (i b o q)];exact I.base.free b o q z v
 .have:=I.base.tups b h q;rw[Zq (ne _ _ this)];exact this
 .have:=I.base.frzs b o u q;rw[Zq (ne _ _ this)];exact this
 .obtain⟨m,this⟩:=I.base.tbls b t q;exact⟨m,by rw[Zq (ne _ _ this)];exact this⟩
 .rw[Zq (Ne.symm n.l)];exact I.free
 .rw[Zq (n.c x c q)];exact I.freeC x c q
 .obtain⟨k,j,p3⟩:=I.pin p f;exact⟨k,by rw[Zq (n.p p f)];exact j,p3⟩
 .by_cases z:a=e
  .subst z;rw[YU]at q;cases q;exact⟨he,he,⟨d,he⟩,λy A p q=>q _ p⟩
  .rw[Zq z]at q;exact(I.hok a o q).stay (λb u w r=>r) (λb r=>by rw[Zq (ne _ _ r)];exact r) λb h r=>by rw[Zq (ne _ _ r)];exact r
theorem uJ{E:yL}(I:ZP X pins Z H s)(U:X.N.Nodup)(hi:X.N[i]?=Z9 x)(hk:X.env.scope.names.lookup x=Z9 .local)
  (h:∀s',ZP X pins (Z.set i Z8) H s'->Q () s'):yZ M A (do bindName X.env x .none;unbindBehindTheSuite X.env x pos) Q E s:=by
 obtain⟨m,L,J⟩:=id I.loc;have l:(X.env.scope.kind == .class||(X.env.scope.kind == .module&&X.env.locals != X.env.globals))=Z5:=by rw[I.ok.kind];rfl
 have S:i<Z.length:=by rw[I.len];exact(qA3.mp hi).1
 have cne:=I.cne;refine wpAny_nameGoes_keeps hk L l λO u v a=>?_;refine h { s with heap:=O,toks:=s.toks+1 } ⟨I.ok,I.os,I.bare,⟨λb o e n t g=>?_,λb o e n t g=>?_,I.base.free,λb o e g=>?_,I.base.tups,I.base.frzs,I.base.tbls⟩,⟨_,v,λj y T f B N=>?_⟩,λy c e=>?_,I.free,I.freeC,λp D=>?_,λb K e=>?_,by simpa using I.len⟩
 .exact(a.2 b (qC0 (qA9 (qB1 e) I.ok.above))).trans (I.base.keep b o e n t g)
 .obtain⟨P,f⟩:=I.base.slot b o e n t g;exact⟨P,(a.2 b (qC0 (qA9 (qB1 e) I.ok.above))).trans f⟩
 .obtain⟨G,f⟩:=I.base.there b o e g;exact⟨G,(a.2 b (qC0 (qA9 (qB1 e) I.ok.above))).trans f⟩
 .by_cases C:j=i
  .simp_all
  .rw[qC9 (Ne.symm C)]at B;obtain⟨V,R,q⟩:=J j y T f B N;refine⟨V,R,?_⟩;rcases q with⟨k,e⟩| ⟨k,c,e,z⟩
   .refine .inl ⟨k,?_⟩;have:y≠x:=λe=>C (Ma U f (e▸hi));simp[this,e]
   .exact .inr ⟨k,c,e,z.sameBut a (cne y c e)⟩
 .obtain⟨w,z⟩:=I.cell y c e;exact⟨w,z.sameBut a (cne y c e)⟩
 .obtain⟨e,n,ne,F,d⟩:=I.pin p D;exact⟨(a.2 p.1 ne).trans e,n,ne,F,d⟩
 .refine(I.hok b K e).stay (λc w r q=>(a.2 c ?_).trans q) (λ_ q=>q) λ_ _ q=>q;rintro rfl;rcases r with rfl|r
  .rw[I.free]at e;cases e
  .rw[I.free]at r;cases r
end
set_option genInjectivity true in
inductive D where
 |non|bl (b:Bool)| int (i:Int)| str (x:Str)| ty (n:String)| tup (xs:List D)| lst (n:Nat)| dct (n:Nat)| rol (xs:List D)
 |xc (c:Str)
 |ob (n:Nat)
 |ktp (xs:yH)
inductive O where
 |lst (xs:List D)| dk (kvs:List (ZA×D))| dt (kvs:List (List ZA×D))
 |fk (kvs:List (ZA×D))
abbrev ZU:=List O
abbrev ZR:=List (Option D)
def Um(K:yP)(H:Hp)(a:yQ)(xs:List V):Prop:=(∃o,H a=Z9 (.frz o (.lst xs))) ∨
  ∃(o:Obj) (b:yJ) (n:Nat),K.lookup a=Z9 o/\o.cls=.type "list"/\o.dict=Z8/\o.data=.seq b n/\b.size<=yW/\ZK xs b.toList
theorem Um.sq{K:yP}(h:Um K H a xs):Ys K H a xs:=by
 rcases h with⟨o,h⟩| h
 .exact .inl (.inr ⟨o,h⟩)
 .exact .inr h
structure TF(K:yP)(H H':Hp):Prop where
 t:TK K H H'
 f:∀a xs,Um K H a xs->Um K H' a xs
 u:∀a xs,H a=Z9 (.tup xs)->H' a=Z9 (.tup xs)
 z:∀a o u,H a=Z9 (.frz o u)->H' a=Z9 (.frz o u)
theorem TF.refl(K:yP)(H:Hp):TF K H H:=⟨TK.refl K H,λ_ _ h=>h,λ_ _ h=>h,λ_ _ _ h=>h⟩
theorem TF.trans{K:yP}(a:TF K H d)(b:TF K d H2):TF K H H2:=⟨a.t.trans b.t,λp c h=>b.f p c (a.f p c h),λp c h=>b.u p c (a.u p c h),λp o u h=>b.z p o u (a.z p o u h)⟩
theorem uI{K:yP}(h:∀q o,q≠p->H q=Z9 o->H' q=Z9 o)(c:∀xs,H p≠Z9 (.tup xs))(a:∀x y,H p≠Z9 (.frz x y)):TF K H H':=by
 refine⟨λq b e=>?_,λq b e=>?_,λq b e=>h _ _ (λz=>c _ (z▸e)) e,λq o u e=>h _ _ (λz=>a _ _ (z▸e)) e⟩
 .rcases e with(e|⟨w,e⟩)| e
  .exact .inl (.inl (h _ _ (λz=>c _ (z▸e)) e))
  .exact .inl (.inr ⟨w,h _ _ (λz=>a _ _ (z▸e)) e⟩)
  .exact .inr e
 .rcases e with⟨w,e⟩| e
  .exact .inl ⟨w,h _ _ (λz=>a _ _ (z▸e)) e⟩
  .exact .inr e
theorem Sb{K:yP}(e:H p=Z9 u)(a:∀xs,u≠.tup xs)(b:∀x y,u≠.frz x y):TF K H (ZE H p o) :=
 uI (λq v c h=>by rw[Zq c];exact h) (λxs h=>by rw[e]at h;exact a xs (Option.some.inj h)) (λx y h=>by rw[e]at h;exact b x y (Option.some.inj h))
theorem PN{K:yP}(e:H p=Z9 (.lst xs)):TF K H (ZE H p o):=Sb e (λ_ z=>by cases z) (λ_ _ z=>by cases z)
theorem F9{K:yP}(h:XP H H'):TF K H H':=⟨λp b e=>h.tup e,λq a e=>by
 rcases e with⟨w,e⟩| e
 .exact .inl ⟨w,h _ _ e⟩
 .exact .inr e,λ_ _ e=>h _ _ e,λ_ _ _ e=>h _ _ e⟩
mutual
def RV(K:yP)(H:Hp)(J:yC):D->V->Prop
 |.non,v=>v=.non
 |.bl b,v=>v=.bl b
 |.int i,v=>v=.int i
 |.str x,v=>v=.str x
 |.ty n,v=>v=.ty n
 |.tup f,v=>∃p d,v=.ref p/\H p=Z9 (.tup d)/\RVs K H J f d
 |.lst n,v=>∃a,v=.ref a/\J[n]?=Z9 a
 |.dct n,v=>∃a,v=.ref a/\J[n]?=Z9 a
 |.rol f,v=>∃p d,v=.ref p/\Um K H p d/\RVs K H J f d
 |.xc c,v=>∃e g C,v=.ref e/\H e=Z9 (.frz g (.ext λh=>h.get? e=Z9 g))/\g.cls=.ref C/\wD K y9 c=Z9 (Z9 (.ref C))
 |.ob n,v=>∃a o C dx b,v=.ref a/\H a=Z9 (.frz o (.ins C dx [("kept",.ref b)]))/\J[n]?=Z9 b/\wD K y9 "Desk"=Z9 (Z9 (.ref C))
 |.ktp f,v=>∃p,v=.ref p/\Zb K H p (f.map V.str)
def RVs(K:yP)(H:Hp)(J:yC):List D->List V->Prop
 |[],vs=>vs=[]
 |d::b,vs=>∃v a,vs=v::a/\RV K H J d v/\RVs K H J b a
end
def Y0{a:Type}(K:yP)(H:Hp)(J:yC)(kvs:List (a×D))(ws:List (a×V)):Prop:=kvs.map (·.1)=ws.map (·.1)/\RVs K H J (kvs.map (·.2)) (ws.map (·.2))
def OR(K:yP)(H:Hp)(J:yC)(a:yQ):O->Prop
 |.lst e=>∃d,H a=Z9 (.lst d)/\RVs K H J e d
 |.dk b=>∃c,H a=Z9 (.dK c)/\Y0 K H J b c
 |.dt b=>∃c,H a=Z9 (.dT c)/\Y0 K H J b c
 |.fk b=>∃o c,H a=Z9 (.frz o (.dK c))/\Y0 K H J b c
structure SR(K:yP)(J:yC)(S:ZU)(H:Hp):Prop where
 len:J.length=S.length
 nd:J.Nodup
 obj:∀(n:Nat) (a:yQ) (o:O),J[n]?=Z9 a->S[n]?=Z9 o->OR K H J a o
structure ZH(K:yP)(J J':yC)(H H':Hp):Prop where
 pre:∃ν,J'=J++ν/\∀b∈ν,H b=Z8
 fr:∀b o,b∉J->H b=Z9 o->H' b=Z9 o
 tk:TF K H H'
section
variable {K:yP}{H H' H1 H2:Hp}{J J' J1 J2:yC}{S S':ZU}
mutual
theorem RV.up(tk:TF K H H')(f:∃j,J'=J++j):∀(d:D) (v:V),RV K H J d v->RV K H' J' d v
 |.non,v,h=>by simpa[RV]using h
 |.bl b,v,h=>by simpa[RV]using h
 |.int i,v,h=>by simpa[RV]using h
 |.str x,v,h=>by simpa[RV]using h
 |.ty n,v,h=>by simpa[RV]using h
 |.tup l,v,h=>by obtain⟨p,g,e,q,r⟩:=h;exact⟨p,g,e,tk.u p g q,RVs.up tk f l g r⟩
 |.lst n,v,h=>by obtain⟨a,e,q⟩:=h;obtain⟨j,rfl⟩:=f;exact⟨a,e,by rw[qB7 (qA3.mp q).1];exact q⟩
 |.dct n,v,h=>by obtain⟨a,e,q⟩:=h;obtain⟨j,rfl⟩:=f;exact⟨a,e,by rw[qB7 (qA3.mp q).1];exact q⟩
 |.rol l,v,h=>by obtain⟨p,g,e,q,r⟩:=h;exact⟨p,g,e,tk.f p g q,RVs.up tk f l g r⟩
 |.xc c,v,h=>by unfold RV at h ⊢;obtain⟨e,s,C,r,q,k⟩:=h;exact⟨e,s,C,r,tk.z e s _ q,k⟩
 |.ob n,v,h=>by unfold RV at h ⊢;obtain⟨a,o,C,dx,b,r,q,m,k⟩:=h;obtain⟨j,rfl⟩:=f;exact⟨a,o,C,dx,b,r,tk.z a o _ q,by rw[qB7 (qA3.mp m).1];exact m,k⟩
 |.ktp l,v,h=>by unfold RV at h ⊢;obtain⟨p,r,q⟩:=h;exact⟨p,r,tk.t _ _ q⟩
theorem RVs.up(tk:TF K H H')(a:∃c,J'=J++c):∀(ds:List D) (vs:List V),RVs K H J ds vs->RVs K H' J' ds vs
 |[],vs,h=>by simpa[RVs]using h
 |d::ds,vs,h=>by obtain⟨v,b,e,r,q⟩:=h;exact⟨v,b,e,RV.up tk a d v r,RVs.up tk a ds b q⟩
end
theorem RVs.len:∀{ds:List D}{vs:List V},RVs K H J ds vs->ds.length=vs.length
 |[],vs,h=>by subst h;rfl
 |d::ds,vs,h=>by obtain⟨v,a,rfl,_,q⟩:=h;rw[qB6,qB6,RVs.len q]
theorem RVs.nil:RVs K H J [] []:=by rfl
theorem RVs.cons(h:RV K H J d v)(t:RVs K H J ds vs):RVs K H J (d::ds) (v::vs):=⟨v,vs,rfl,h,t⟩
theorem RVs.get:∀{ds:List D}{vs:List V}{i:Nat}{d:D},RVs K H J ds vs->ds[i]?=Z9 d->∃v,vs[i]?=Z9 v/\RV K H J d v
 |[],vs,i,d,h,e=>by simp at e
 |x::ds,vs,0,d,h,e=>by obtain⟨v,a,rfl,r,q⟩:=h;simp at e;subst e;exact⟨v,rfl,r⟩
 |x::ds,vs,i+1,d,h,e=>by obtain⟨v,a,rfl,r,q⟩:=h;obtain⟨u,c,b⟩:=RVs.get q (by simpa using e);exact⟨u,by simpa using c,b⟩
theorem RVs.append:∀{ds es:List D}{vs us:List V},RVs K H J ds vs->RVs K H J es us->RVs K H J (ds++es) (vs++us)
 |[],es,vs,us,h,g=>by subst h;exact g
 |d::ds,es,vs,us,h,g=>by obtain⟨v,a,rfl,r,q⟩:=h;exact .cons r (RVs.append q g)
theorem RVs.take:∀{ds:List D}{vs:List V} (n:Nat),RVs K H J ds vs->RVs K H J (ds.take n) (vs.take n)
 |_,_,0,_=>.nil
 |[],vs,n+1,h=>by subst h;exact .nil
 |d::ds,vs,n+1,h=>by obtain⟨v,a,rfl,r,q⟩:=h;exact .cons r (RVs.take n q)
theorem RVs.drop:∀{ds:List D}{vs:List V} (n:Nat),RVs K H J ds vs->RVs K H J (ds.drop n) (vs.drop n)
 |_,_,0,h=>by simpa using h
 |[],vs,n+1,h=>by subst h;exact .nil
 |d::ds,vs,n+1,h=>by obtain⟨v,a,rfl,r,q⟩:=h;exact RVs.drop n q
theorem RVs.set(g:RV K H J d v):∀{ds:List D}{vs:List V} (n:Nat),RVs K H J ds vs->RVs K H J (ds.set n d) (vs.set n v)
 |[],vs,n,h=>by subst h;exact .nil
 |x::ds,vs,0,h=>by obtain⟨u,a,rfl,r,q⟩:=h;exact .cons g q
 |x::ds,vs,n+1,h=>by obtain⟨u,a,rfl,r,q⟩:=h;exact .cons r (RVs.set g n q)
theorem RVs.ints{ns:yA}:RVs K H J (ns.map D.int) (ns.map V.int):=by
 induction ns with
 |nil=>exact .nil
 |cons a r b=>exact .cons (by rfl) b
theorem Y0.up(tk:TF K H H')(a:∃c,J'=J++c){ws:List (b×V)}(h:Y0 K H J kvs ws):Y0 K H' J' kvs ws:=⟨h.1,RVs.up tk a _ _ h.2⟩
theorem SR.isS(f:SR K J S H)(h:a∈J):∃o,H a=Z9 o:=by
 obtain⟨n,d⟩:=qI6 h;have g:n<S.length:=by rw[<- f.len];exact(qA3.mp d).1
 have q:=f.obj n a S[n] d (qA7 g);revert q;generalize S[n]=o;intro q;cases o with
 |lst i=>obtain⟨c,e,_⟩:=q;exact⟨_,e⟩
 |dk b=>obtain⟨c,e,_⟩:=q;exact⟨_,e⟩
 |dt b=>obtain⟨c,e,_⟩:=q;exact⟨_,e⟩
 |fk b=>obtain⟨o,c,e,_⟩:=q;exact⟨_,e⟩
theorem SR.out(b:SR K J S H)(h:H a=Z8):a∉J:=λm=>by
 obtain⟨o,e⟩:=b.isS m
 simp_all
theorem ZH.refl(K:yP)(J:yC)(H:Hp):ZH K J J H H:=⟨⟨[],by simp,by simp⟩,λ_ _ _ h=>h,TF.refl K H⟩
theorem ZH.mem(st:ZH K J J' H H')(h:a∈J):a∈J':=by obtain⟨b,rfl,_⟩:=st.pre;exact qH1 _ h
theorem ZH.ext(st:ZH K J J' H H'):∃ν,J'=J++ν:=let ⟨ν,e,_⟩:=st.pre;⟨ν,e⟩
theorem ZH.trans(a:ZH K J J1 H H1)(b:ZH K J1 J2 H1 H2)(m:J2.Nodup):ZH K J J2 H H2:=by
 obtain⟨j,e,l⟩:=a.pre;obtain⟨d,g,n⟩:=b.pre;have nd':(J++j++d).Nodup:=by rw[<- e,<- g];exact m
 refine⟨⟨j++d,by rw[g,e,qD8],λc f=>?_⟩,λc o f h=>?_,a.tk.trans b.tk⟩
 .rcases qE2.mp f with h|h
  .exact l c h
  .have i:=n c h;cases q:H c with
   |none=>rfl
   |some o =>
    have:=λk=>by have:=(qG2.mp nd').2.2 c (qH1 _ k) c h;exact this rfl
    rw[a.fr c o this q]at i;cases i
 .refine b.fr c o (λk=>?_) (a.fr c o f h)
  simp_all
theorem OR.up(tk:TF K H H')(b:∃f,J'=J++f)(e:H' a=H a):∀{o:O},OR K H J a o->OR K H' J' a o
 |.lst g,⟨d,h,r⟩=>⟨d,by rw[e];exact h,RVs.up tk b _ _ r⟩
 |.dk c,⟨ws,h,r⟩=>⟨ws,by rw[e];exact h,r.up tk b⟩
 |.dt c,⟨ws,h,r⟩=>⟨ws,by rw[e];exact h,r.up tk b⟩
 |.fk c,⟨o,ws,h,r⟩=>⟨o,ws,by rw[e];exact h,r.up tk b⟩
theorem R9(h:H p=Z8):TF K H (ZE H p o):=F9 (Li h o)
theorem SR.other(c:SR K J S H)(h:H p=Z8):SR K J S (ZE H p o)/\ZH K J J H (ZE H p o):=by
 have g:=c.out h;refine⟨⟨c.len,c.nd,λn a i d f=>?_⟩,⟨⟨[],by simp,by simp⟩,λb u k e=>?_,R9 h⟩⟩
 .have j:=qC2 d;have ne:a≠p:=λz=>g (z▸j);exact(c.obj n a i d f).up (R9 h) ⟨[],by simp⟩ (Zq ne)
 .rw[Zq (Vx e h)];exact e
theorem SR.push(d:SR K J S H)(h:H p=Z8)(q:OR K (ZE H p o) (J++[p]) p o'):SR K (J++[p]) (S++[o']) (ZE H p o)/\ZH K J (J++[p]) H (ZE H p o):=by
 have i:=d.out h;refine⟨⟨by simp[d.len],?_,λn a u c f=>?_⟩,⟨⟨[p],rfl,λb g=>?_⟩,λb u g e=>?_,R9 h⟩⟩
 .rw[qG2];refine⟨d.nd,by simp,λa l b g=>?_⟩;simp at g;subst g;exact λz=>i (z▸l)
 .by_cases j:n<J.length
  .rw[qB7 j]at c;rw[qB7 (by rw[<- d.len];exact j)]at f;have m:=qC2 c;have ne:a≠p:=λz=>i (z▸m);exact(d.obj n a u c f).up (R9 h) ⟨[p],rfl⟩ (Zq ne)
  .rw[qA5 (by lia)]at c;rw[qA5 (by rw[<- d.len];lia)]at f;have k:=by have:=(qA3.mp c).1;simp at this;omega
   rw[k]at c;rw[<- d.len,k]at f;simp at c f;subst c f;exact q
 .simp_all
 .rw[Zq (Vx e h)];exact e
theorem SR.put(f:SR K J S H)(h:J[n]?=Z9 p)(k:H p=Z9 u)(r:∀xs,u≠.tup xs)(l:∀x y,u≠.frz x y)(s:OR K (ZE H p o) J p o'):SR K J (S.set n o') (ZE H p o)/\ZH K J J H (ZE H p o):=by
 have j:TF K H (ZE H p o):=Sb k r l;have d:=qC2 h;refine⟨⟨by simp[f.len],f.nd,λm a w c g=>?_⟩,⟨⟨[],by simp,by simp⟩,λb w t e=>?_,j⟩⟩
 .by_cases i:m=n
  .subst i;rw[h]at c;cases c;have q:m<S.length:=by rw[<- f.len];exact(qA3.mp h).1
   rw[qC7 q]at g;cases g;exact s
  .rw[qC9 (λz=>i z.symm)]at g;have ne:a≠p:=λz=>by subst z;exact i ((qH9 (qA3.mp c).1 f.nd).mp (c.trans h.symm))
   exact(f.obj m a w c g).up j ⟨[],by simp⟩ (Zq ne)
 .have ne:b≠p:=λz=>t (z▸d);rw[Zq ne];exact e
end
inductive R(α:Type) where
 |bad|ok (a:α) (S:ZU)| er (c:Str) (S:ZU)
abbrev M(a:Type):=ZU->R a
def Zi{d β:Type}(m:M d)(f:d->M β):M β:=λS=>match m S with
 |.bad=>.bad
 |.er c b=>.er c b
 |.ok a b=>f a b
def ret{α:Type}(a:α):M α:=λS=>.ok a S
def bad{α:Type}:M α:=λ_=>.bad
inductive uH{α β:Type}(m:M α)(f:α->M β)(S:ZU)(b:β)(S2:ZU):Prop
 |mk (a:α) (S1:ZU) (e:m S=.ok a S1) (g:f a S1=.ok b S2)
theorem Zl{f:i->M d}(h:Zi m f S=.ok b S2):uH m f S b S2:=by
 unfold Zi at h;cases e:m S with
 |bad=>rw[e]at h;cases h
 |er c g=>rw[e]at h;cases h
 |ok a g=>rw[e]at h;exact⟨a,g,e,h⟩
theorem YA{a b:d}(h:ret a S=.ok b c):b=a/\c=S:=by cases h;exact⟨rfl,rfl⟩
abbrev C:=ZR->M D
abbrev CT:=ZR->M Bool
abbrev CA:=ZR->M (List D)
def RE(K:yP)(H:Hp)(J:yC)(B:ZR)(Z:St):Prop:=B.length=Z.length/\∀(i:Nat) (d:D),B[i]?=Z9 (Z9 d)->∃v,Z[i]?=Z9 (Z9 v)/\RV K H J d v
section
variable {K:yP}{H H':Hp}{J J':yC}{B:ZR}{Z:St}
theorem RE.up(h:RE K H J B Z)(st:ZH K J J' H H'):RE K H' J' B Z:=⟨h.1,λi d e=>let ⟨v,q,r⟩:=h.2 i d e;⟨v,q,RV.up st.tk st.ext d v r⟩⟩
theorem RE.set(h:RE K H J B Z)(r:RV K H J d v)(i:Nat):RE K H J (B.set i (Z9 d)) (Z.set i (Z9 v)):=by
 refine⟨by simp[h.1],λj c e=>?_⟩;by_cases a:i=j
 .subst a;have b:=by have:=(qA3.mp e).1;simpa using this
  rw[qC7 b]at e;cases e;exact⟨v,by rw[qC7 (by rw[<- h.1];exact b)],r⟩
 .rw[qC9 a]at e ⊢;exact h.2 j c e
end
def Yw(K:yP)(J:yC)(H:Hp)(d:D)(c:ZU)(Q:VK):Prop:=∀v a b,SR K b c a->ZH K J b H a->RV K a b d v->Q v a
def KS(K:yP)(J:yC)(H:Hp)(ds:List D)(d:ZU)(Q:List V->Hp->Prop):Prop:=∀c a b,SR K b d a->ZH K J b H a->RVs K a b ds c->Q c a
def Ul(K:yP)(J:yC)(H:Hp)(b:Bool)(d:ZU)(Q:Bool->Hp->Prop):Prop:=∀a c,SR K c d a->ZH K J c H a->Q b a
inductive ZD(K:yP)(c:C)(Z:St)(H:Hp)(Q:VK):Prop
 |mk (J:yC) (B:ZR) (S:ZU) (d:D) (S':ZU) (sr:SR K J S H) (re:RE K H J B Z) (e:c B S=.ok d S') (y:Yw K J H d S' Q)
inductive YS(K:yP)(c:CA)(Z:St)(H:Hp)(Q:List V->Hp->Prop):Prop
 |mk (J:yC) (B:ZR) (S:ZU) (d:List D) (S':ZU) (sr:SR K J S H) (re:RE K H J B Z) (e:c B S=.ok d S') (y:KS K J H d S' Q)
inductive YY(K:yP)(c:CT)(Z:St)(H:Hp)(Q:Bool->Hp->Prop):Prop
 |mk (J:yC) (B:ZR) (S:ZU) (d:Bool) (S':ZU) (sr:SR K J S H) (re:RE K H J B Z) (e:c B S=.ok d S') (y:Ul K J H d S' Q)
theorem Yw.self{K:yP}(h:Yw K J H d S Q)(a:SR K J S H)(r:RV K H J d v):Q v H:=h v H J a (ZH.refl K J H) r
theorem Yw.shift{K:yP}(h:Yw K J H d S Q)(st:ZH K J b H a):Yw K b a d S Q:=λv f e c g r=>h v f e c (st.trans g c.nd) r
theorem Ul.shift{K:yP}(h:Ul K J H d S Q)(st:ZH K J b H a):Ul K b a d S Q:=λf e c g=>h f e c (st.trans g c.nd)
theorem PE.weak(h:PE X e t)(w:∀Z H Q,t' Z H Q->t Z H Q):PE X e t':=λa s Z H Q I q=>h a s Z H Q I (w Z H Q q)
theorem PT.weak(h:PT X e t)(w:∀Z H Q,t' Z H Q->t Z H Q):PT X e t':=λa s Z H Q I q=>h a s Z H Q I (w Z H Q q)
theorem PW.weak(h:PW X e t)(w:∀Z H Q,t' Z H Q->t Z H Q):PW X e t':=λb a s Z H Q I q=>h b a s Z H Q I (w Z H Q q)
theorem PA.weak(h:PA X e t)(w:∀Z H Q,t' Z H Q->t Z H Q):PA X e t':=λb a s Z H Q I q=>h b a s Z H Q I (w Z H Q q)
theorem PS.weak(h:PS X e t)(w:∀D Z H,t' D Z H->t D Z H):PS X e t':=λa s Z H D I q=>h a s Z H D I (w D Z H q)
theorem XH.weak(h:XH X e t)(w:∀D Z H,t' D Z H->t D Z H):XH X e t':=λa s Z H D I q=>h a s Z H D I (w D Z H q)
def Zp(X:Cx)(f:yT->yT->Sem yT):R2:=λv u H Q=>∃r,Y3 X f r/\r v u H Q
theorem UP:Y3 X f (Zp X f):=λa s Z H x y v u Q I c d ⟨r,b,q⟩=>b a s Z H x y v u Q I c d q
def R8(X:Cx)(f:yT->Sem yT):V->Hp->VK->Prop:=λv H Q=>∃r,UnR X f r/\r v H Q
theorem uG:UnR X f (R8 X f):=λa s Z H x v Q I c ⟨r,b,q⟩=>b a s Z H x v Q I c q
def YG(X:Cx)(f:yT):List V->Hp->VK->Prop:=λa H Q=>∃r,X1 X f r/\r a H Q
theorem PM:X1 X f (YG X f):=λa s Z H x v Q I c ⟨r,b,q⟩=>b a s Z H x v Q I c q
def KR(X:Cx):R2:=λv u H Q=>∃r,Sk X r/\r v u H Q
theorem uz:Sk X (KR X):=λd f a s Z H x y v u Q I g b ⟨r,e,q⟩ c=>e d f a s Z H x y v u Q I g b q c
def KQ(X:Cx):V->yG->yG->Hp->VK->Prop:=λv lo a H Q=>∃r,Sl X r/\r v lo a H Q
theorem uy:Sl X (KQ X):=λd s Z H x v g e lo h i Q I j a b c ⟨r,f,q⟩=>f d s Z H x v g e lo h i Q I j a b c q
def WZ(X:Cx)(id:String):V->List V->Hp->VK->Prop:=λv a H Q=>∃r,Q9 X id r/\r v a H Q
theorem F8{id:String}:Q9 X id (WZ X id):=λa s Z H x c v e Q I d rs ⟨r,b,q⟩=>b a s Z H x c v e Q I d rs q
def F7(X:Cx):UC:=λo i v H Q=>∃r,Vk X r/\r o i v H Q
theorem ux:Vk X (F7 X):=λa s Z H o i v c b u Q I e g d ⟨r,f,q⟩=>f a s Z H o i v c b u Q I e g d q
def ZY(i:Nat):C:=fun B S=>match B[i]? with
 |some (Z9 d)=>.ok d S
 |_=>.bad
def ZX(d:D):C:=λ_ S=>.ok d S
def ZW(o:D->D->M D)(a b:C):C:=fun B=>Zi (a B) λx=>Zi (b B) λy=>o x y
def Xw(o:D->M D)(a:C):C:=fun B=>Zi (a B) o
def ZS:List C->CA
 |[]=>λ_=>ret []
 |c::a=>fun B=>Zi (c B) λx=>Zi (ZS a B) λb=>ret (x::b)
def ZT(o:List D->M D)(a:CA):C:=fun B=>Zi (a B) o
def Zg(a:CA):C:=ZT (λb=>ret (.tup b)) a
def Zv(a:CA):C:=ZT (λb S=>.ok (.lst S.length) (S++[.lst b])) a
def Uk(t:CT)(a b:C):C:=fun B=>Zi (t B) λk=>if k then a B else b B
def Zn(a:C):CT:=fun B=>Zi (a B) λx=>match x with
 |.bl b=>ret b
 |_=>bad
def R7(a b:C):C:=fun B=>Zi (Zn a B) λk=>if k then b B else ret (.bl Z5)
def Uj(a b:C):C:=fun B=>Zi (Zn a B) λk=>if k then ret (.bl Z7)else b B
def NP(a:C):C:=fun B=>Zi (Zn a B) λk=>ret (.bl (!k))
def Tf(a b:CT):CT:=fun B=>Zi (a B) λk=>if k then b B else ret Z5
def Yb(a b:CT):CT:=fun B=>Zi (a B) λk=>if k then ret Z7 else b B
def XC(a:CT):CT:=fun B=>Zi (a B) λk=>ret (!k)
def dB(x:D):M Bool:=match x with
 |.bl b=>ret b
 |_=>bad
def Vd(o o':D->D->M D)(a b c:C):C:=fun B=>Zi (a B) λx=>Zi (b B) λy=>Zi (o x y) λz=>Zi (dB z) λk=>if k then Zi (c B) λw=>o' y w else ret (.bl Z5)
def PL(o o' h:D->D->M D)(a b c d:C):CT:=fun B=>Zi (a B) λx=>Zi (b B) λy=>Zi (o x y) λz=>Zi (dB z) λk =>
 if k then Zi (c B) λw=>Zi (o' y w) λe=>Zi (dB e) λg=>if g then Zi (d B) λf=>Zi (h w f) dB else ret Z5 else ret Z5
section
variable {X:Cx}{a b c d:yV}{ca cb cc cd:C}{pos:Pos}
theorem NO(h:PE X (.Name x pos) (Qn i)):PE X (.Name x pos) (ZD X.K (ZY i)):=h.weak fun Z H Q ⟨J,B,S,d,l,f,j,e,y⟩=>by
 unfold ZY at e;split at e
 .rename_i k g;cases e;obtain⟨v,q,r⟩:=j.2 i _ g;exact⟨v,q,y.self f r⟩
 .cases e
theorem UO{d:D}(h:PE X e (tC v))(f:∀K H J,RV K H J d v):PE X e (ZD X.K (ZX d)):=h.weak fun Z H Q ⟨J,B,S,i,j,g,k,e,y⟩=>by cases e;exact y.self g (f _ _ _)
def YM(K:yP)(r:R2)(o:D->D->M D):Prop:=∀x y S d e H J v u Q,o x y S=.ok d e->SR K J S H->RV K H J x v->RV K H J y u->Yw K J H d e Q->r v u H Q
theorem NN(w:YM X.K r o):∀Z H Q,ZD X.K (ZW o ca cb) Z H Q->Qh r (ZD X.K ca) (ZD X.K cb) Z H Q:=by rintro Z H Q ⟨J,B,S,d,p,E,l,e,y⟩;obtain⟨x,k,m,e⟩:=Zl e;obtain⟨z,j,t,e⟩:=Zl e;refine⟨J,B,S,x,k,E,l,m,λv G n i g s=>⟨n,B,k,z,j,i,l.up g,t,λu q F h f A=>?_⟩⟩;exact w x z j d p q F v u Q e h (RV.up f.tk f.ext _ _ s) A (y.shift (g.trans f h.nd))
theorem F6(f:YM X.K (Zp X (jG e)) o)(h:PE X a (ZD X.K ca))(g:PE X b (ZD X.K cb)):PE X (.BinOp a e b pos) (ZD X.K (ZW o ca cb)):=(Bi UP h g).weak (NN f)
theorem uw(f:YM X.K (Zp X (y8 e)) o)(i:PE X a (ZD X.K ca))(g:PE X b (ZD X.K cb))(h:fP e b=Z5):PE X (.Compare a [e] [b] pos) (ZD X.K (ZW o ca cb)):=(AQ UP i g h).weak (NN f)
theorem F5{c:C}(h:∀Z H Q,ZD X.K c Z H Q->t Z H Q):∀Z H Q,YY X.K (Zn c) Z H Q->LP t Z H Q:=by
 rintro Z H Q ⟨J,B,S,d,q,o,p,e,y⟩;obtain⟨x,l,i,e⟩:=Zl e;refine h Z H _ ⟨J,B,S,x,l,o,p,i,λv n j g f m=>?_⟩;cases x with
 |bl k =>
  obtain⟨rfl,rfl⟩:=YA e;exact⟨_,m,y n j g f⟩
 |_=>cases e
theorem F4(f:YM X.K (Zp X (y8 e)) o)(i:PE X a (ZD X.K ca))(g:PE X b (ZD X.K cb))(h:fP e b=Z5):PT X (.Compare a [e] [b] pos) (YY X.K (Zn (ZW o ca cb))):=(AO UP i g h).weak (F5 (NN f))
theorem F3(ho:YM X.K r o)(s:YM X.K N o'):∀Z H Q,ZD X.K (Vd o o' ca cb cc) Z H Q->LO r N (ZD X.K ca) (ZD X.K cb) (ZD X.K cc) Z H Q:=by
 rintro Z H Q ⟨J,B,S,d,U,sr,A,e,y⟩;obtain⟨x,I,R,f1⟩:=Zl e;obtain⟨z,E,e2,P⟩:=Zl f1;obtain⟨t,S3,e3,f3⟩:=Zl P;obtain⟨k,S4,F,O⟩:=Zl f3;refine⟨J,B,S,x,I,sr,A,R,λv H1 T q l r1=>⟨T,B,I,z,E,q,A.up l,e2,λu W J2 n j L=>?_⟩⟩;have p:=l.trans j n.nd;refine ho x z E t S3 W J2 v u _ e3 n (RV.up j.tk j.ext _ _ r1) L λv3 H3 K i g r3=>?_;have f:=p.trans g i.nd;cases t with
 |bl k' =>
  obtain⟨rfl,rfl⟩:=YA F;refine⟨_,r3,?_⟩;cases k with
  |true =>
   obtain⟨w,G,V,f5⟩:=Zl O;refine⟨K,B,_,w,G,i,A.up f,V,λv5 H5 J5 m h Y=>?_⟩;exact s z w G d U H5 J5 u v5 Q f5 m (RV.up h.tk h.ext _ _ (RV.up g.tk g.ext _ _ L)) Y (y.shift (f.trans h m.nd))
  |false =>
   obtain⟨rfl,rfl⟩:=YA O;exact y _ H3 K i f (by rfl)
 |_=>cases F
theorem uv(h:YM X.K (Zp X (y8 f)) o)(g:YM X.K (Zp X (y8 e)) o')(k:PE X a (ZD X.K ca))(i:PE X b (ZD X.K cb))(l:PE X c (ZD X.K cc))(j:fG [f,e] [b,c]=Z5):
  PE X (.Compare a [f,e] [b,c] pos) (ZD X.K (Vd o o' ca cb cc)):=(AN UP UP k i l j).weak (F3 h g)
theorem uu(h:YM X.K (Zp X (y8 f)) o)(g:YM X.K (Zp X (y8 e)) o')(k:PE X a (ZD X.K ca))(i:PE X b (ZD X.K cb))(l:PE X c (ZD X.K cc))(j:fG [f,e] [b,c]=Z5):
  PT X (.Compare a [f,e] [b,c] pos) (YY X.K (Zn (Vd o o' ca cb cc))):=(AM UP UP k i l j).weak (F5 (F3 h g))
theorem uq{R h l:fR}(ho:YM X.K (Zp X (y8 R)) o)(U:YM X.K (Zp X (y8 h)) o')(T:YM X.K (Zp X (y8 l)) o2)(ha:PE X a (ZD X.K ca))(hb:PE X b (ZD X.K cb))(hc:PE X c (ZD X.K cc))(hd:PE X d (ZD X.K cd))
  (hm:fG [R,h,l] [b,c,d]=Z5):PT X (.Compare a [R,h,l] [b,c,d] pos) (YY X.K (PL o o' o2 ca cb cc cd)):=by
 refine(yj UP UP UP ha hb hc hd hm).weak ?_;rintro Z H Q ⟨J,B,S,d,S',sr,N,e,y⟩;obtain⟨x,S1,e1,f1⟩:=Zl e;obtain⟨z,S2,e2,f2⟩:=Zl f1;obtain⟨t,S3,e3,f3⟩:=Zl f2;obtain⟨k,S4,V,f4⟩:=Zl f3;refine⟨J,B,S,x,S1,sr,N,e1,λv H1 J1 O I r1=>⟨J1,B,S1,z,S2,O,N.up I,e2,λu H2 J2 A r r2=>?_⟩⟩;have E:=I.trans r A.nd;refine ho x z S2 t S3 H2 J2 v u _ e3 A (RV.up r.tk r.ext _ _ r1) r2 λv3 H3 J3 i j r3=>?_;have g:=E.trans j i.nd;cases t with
 |bl k' =>
  obtain⟨rfl,rfl⟩:=YA V;refine⟨_,r3,?_⟩;cases k with
  |true =>
   obtain⟨w,S5,e5,f5⟩:=Zl f4;obtain⟨t2,S6,e6,f6⟩:=Zl f5;obtain⟨k2,S7,e7,f7⟩:=Zl f6;refine⟨J3,B,_,w,S5,i,N.up g,e5,λv5 H5 J5 s n r5=>?_⟩;have F:=g.trans n s.nd;refine U z w S5 t2 S6 H5 J5 u v5 _ e6 s (RV.up n.tk n.ext _ _ (RV.up j.tk j.ext _ _ r2)) r5 λv6 H6 J6 q p r6=>?_;have f:=F.trans p q.nd;cases t2 with
   |bl k3 =>
    obtain⟨rfl,rfl⟩:=YA e7;refine⟨_,r6,?_⟩;cases k2 with
    |true =>
     obtain⟨W,S8,e8,f8⟩:=Zl f7;obtain⟨Y,S9,e9,f9⟩:=Zl f8;refine⟨J6,B,_,W,S8,q,N.up f,e8,λv8 H8 J8 L m r8=>?_⟩;have K:=f.trans m L.nd;refine T w W S8 Y S9 H8 J8 v5 v8 _ e9 L (RV.up m.tk m.ext _ _ (RV.up p.tk p.ext _ _ r5)) r8 λv9 H9 J9 G P r9=>?_;cases Y with
     |bl k4 =>
      obtain⟨rfl,rfl⟩:=YA f9;exact⟨_,r9,y H9 J9 G (K.trans P G.nd)⟩
     |_=>cases f9
    |false =>
     obtain⟨rfl,rfl⟩:=YA f7;exact y H6 J6 q f
   |_=>cases e7
  |false =>
   obtain⟨rfl,rfl⟩:=YA f4;exact y H3 J3 i g
 |_=>cases V
def F2(K:yP)(r:V->Hp->VK->Prop)(o:D->M D):Prop:=∀x S d e H J v Q,o x S=.ok d e->SR K J S H->RV K H J x v->Yw K J H d e Q->r v H Q
theorem uo(q:F2 X.K (R8 X (unaryOp i)) o)(m:PE X a (ZD X.K ca)):PE X (.UnaryOp i a pos) (ZD X.K (Xw o ca)):=(Bh uG m).weak (by
 rintro Z H Q ⟨J,B,S,d,l,r,s,e,y⟩;obtain⟨x,h,j,e⟩:=Zl e;exact⟨J,B,S,x,h,r,s,j,λv p k g f n=>q x h d l p k v Q e g n (y.shift f)⟩)
theorem KP(p:SR X.K J S H)(q:RE X.K H J B Z)(e:Zn ca B S=.ok k l)(h:∀f g,SR X.K g l f->ZH X.K J g H f->Q (.bl k) f):ZD X.K ca Z H Q:=by
 obtain⟨x,n,m,e⟩:=Zl e;refine⟨J,B,S,x,n,p,q,m,λv f g j i o=>?_⟩;cases x with
 |bl r =>
  obtain⟨rfl,rfl⟩:=YA e;subst o;exact h f g j i
 |_=>cases e
theorem um{ZM:yE}(m:PE X a (ZD X.K ca))(p:PE X (.BoolOp .And (b::ZM) pos) (ZD X.K cb)):PE X (.BoolOp .And (a::b::ZM) pos) (ZD X.K (R7 ca cb)):=(BQ m p).weak (by
 rintro Z H Q ⟨J,B,S,d,l,q,i,e,y⟩;obtain⟨k,n,j,e⟩:=Zl e;refine KP q i j λo h g f=>⟨k,rfl,?_⟩
 cases k with
 |true=>rw[if_pos rfl]at e ⊢;exact⟨h,B,n,d,l,g,i.up f,e,y.shift f⟩
 | false=>rw[if_neg qB0]at e ⊢;obtain⟨rfl,rfl⟩:=YA e;exact y _ o h g f (by rfl))
theorem uk{ZM:yE}(m:PE X a (ZD X.K ca))(p:PE X (.BoolOp .Or (b::ZM) pos) (ZD X.K cb)):PE X (.BoolOp .Or (a::b::ZM) pos) (ZD X.K (Uj ca cb)):=(BO m p).weak (by
 rintro Z H Q ⟨J,B,S,d,l,q,i,e,y⟩;obtain⟨k,n,j,e⟩:=Zl e;refine KP q i j λo h g f=>⟨k,rfl,?_⟩
 cases k with
 |false=>rw[if_neg qB0]at e ⊢;exact⟨h,B,n,d,l,g,i.up f,e,y.shift f⟩
 | true=>rw[if_pos rfl]at e ⊢;obtain⟨rfl,rfl⟩:=YA e;exact y _ o h g f (by rfl))
theorem uj(n:PE X a (ZD X.K ca)):PE X (.UnaryOp .Not a pos) (ZD X.K (NP ca)):=(BN n).weak (by
 rintro Z H Q ⟨J,B,S,d,o,l,m,e,y⟩;obtain⟨k,p,i,e⟩:=Zl e;obtain⟨rfl,rfl⟩:=YA e;exact KP l m i λh j g f=>⟨k,rfl,y _ h j g f (by rfl)⟩)
theorem F1(p:PT X t (YY X.K m))(o:PE X a (ZD X.K ca))(q:PE X b (ZD X.K cb)):PE X (.IfExp t a b pos) (ZD X.K (Uk m ca cb)):=(HI p o q).weak (by
 rintro Z H Q ⟨J,B,S,d,l,r,i,e,y⟩;obtain⟨k,h,n,e⟩:=Zl e;refine⟨J,B,S,k,h,r,i,n,λs j g f=>?_⟩;cases k with
 |true=>rw[if_pos rfl]at e ⊢;exact⟨j,B,h,d,l,g,i.up f,e,y.shift f⟩
 | false=>rw[if_neg qB0]at e ⊢;exact⟨j,B,h,d,l,g,i.up f,e,y.shift f⟩)
variable {ta tb:CT}
theorem ui{ZM:yE}(n:PT X a (YY X.K ta))(p:PW X (.BoolOp .And (b::ZM) pos) (YY X.K tb)):PW X (.BoolOp .And (a::b::ZM) pos) (YY X.K (Tf ta tb)):=(BX n p).weak (by
 rintro Z H Q ⟨J,B,S,d,m,q,j,e,y⟩;obtain⟨k,i,l,e⟩:=Zl e;refine⟨J,B,S,k,i,q,j,l,λo h g f=>?_⟩;cases k with
 |true=>rw[if_pos rfl]at e ⊢;exact⟨h,B,i,d,m,g,j.up f,e,y.shift f⟩
 | false=>rw[if_neg qB0]at e ⊢;obtain⟨rfl,rfl⟩:=YA e;exact y o h g f)
theorem uh{ZM:yE}(n:PT X a (YY X.K ta))(p:PW X (.BoolOp .Or (b::ZM) pos) (YY X.K tb)):PW X (.BoolOp .Or (a::b::ZM) pos) (YY X.K (Yb ta tb)):=(BW n p).weak (by
 rintro Z H Q ⟨J,B,S,d,m,q,j,e,y⟩;obtain⟨k,i,l,e⟩:=Zl e;refine⟨J,B,S,k,i,q,j,l,λo h g f=>?_⟩;cases k with
 |false=>rw[if_neg qB0]at e ⊢;exact⟨h,B,i,d,m,g,j.up f,e,y.shift f⟩
 | true=>rw[if_pos rfl]at e ⊢;obtain⟨rfl,rfl⟩:=YA e;exact y o h g f)
theorem F0(n:PT X a (YY X.K ta)):PT X (.UnaryOp .Not a pos) (YY X.K (XC ta)):=(BV n).weak (by
 rintro Z H Q ⟨J,B,S,d,o,l,m,e,y⟩;obtain⟨k,p,i,e⟩:=Zl e;obtain⟨rfl,rfl⟩:=YA e;exact⟨J,B,S,k,_,l,m,i,λh j g f=>y h j g f⟩)
def Wj(x:D):M Bool:=λS=>match x with
 |.non=>.ok Z5 S
 |.bl b=>.ok b S
 |.int i=>.ok (i != 0) S
 |.str y=>if y.length<=yW then .ok ((y.length:Int) != 0) S else .bad
 |.tup e=>.ok (!e.isEmpty) S
 |.lst n=>match S[n]? with
  |some (.lst e)=>.ok (!e.isEmpty) S
  |_=>.bad
 |.dct n=>match S[n]? with
  |some (.dk f)=>.ok (!f.isEmpty) S
  |_=>.bad
 |.ty _=>.bad
 |.rol e=>.ok (!e.isEmpty) S
 |.xc _=>.bad
 |.ob _=>.bad
 |.ktp _=>.bad
def Y2(a:C):CT:=fun B=>Zi (a B) Wj
theorem NM{K:yP}(h:RVs K H J ds vs):ds.isEmpty=vs.isEmpty:=by
 cases ds with
 |nil=>unfold RVs at h;subst h;rfl
 |cons d ds=>unfold RVs at h;obtain⟨v,e,rfl,_⟩:=h;rfl
theorem SR.get{K:yP}(f:SR K J S H){n:Nat}{a:yQ}(h:J[n]?=Z9 a)(e:S[n]?=Z9 o):OR K H J a o:=f.obj n a o h e
theorem ug{K:yP}(e:Wj x S=.ok k m)(s:SR K J S H)(r:RV K H J x v):m=S/\So K v H k:=by
 unfold Wj at e;cases x with
 |non=>cases e;subst r;exact⟨rfl,rfl⟩
 |bl b=>cases e;subst r;exact⟨rfl,rfl⟩
 |int i=>cases e;subst r;exact⟨rfl,rfl⟩
 |str y =>
  subst r;dsimp only at e;split at e
  .rename_i t;cases e;exact⟨rfl,t,rfl⟩
  .cases e
 |tup o =>
  cases e;obtain⟨p,g,rfl,q,f⟩:=r;exact⟨rfl,.inr (.inl ⟨g,Zb.of q,by rw[NM f]⟩)⟩
 |lst n =>
  obtain⟨a,rfl,h⟩:=r;dsimp only at e;split at e
  .rename_i o l;cases e;obtain⟨g,j,f⟩:=s.get h l;exact⟨rfl,.inl ⟨g,Ys.of j,by rw[NM f]⟩⟩
  .cases e
 |dct n =>
  obtain⟨a,rfl,h⟩:=r;dsimp only at e;split at e
  .rename_i w l;cases e;obtain⟨u,j,f⟩:=s.get h l;refine⟨rfl,.inr (.inr ⟨u,j,?_⟩)⟩;have:=NM f.2
   simp_all
  .cases e
 |ty _=>cases e
 |rol o =>
  cases e;obtain⟨p,g,rfl,q,f⟩:=r;exact⟨rfl,.inl ⟨g,q.sq,by rw[NM f]⟩⟩
 |xc _=>cases e
 |ob _=>cases e
 |ktp _=>cases e
theorem FZ(k:PE X a (ZD X.K ca))(he:∀f,dS a X.env f=(do let v <- f;gM a.pos;wJ [v] (truthy v))):PT X a (YY X.K (Y2 ca)):=(AJ k he).weak (by
 rintro Z H Q ⟨J,B,S,d,q,o,p,e,y⟩;obtain⟨x,l,i,e⟩:=Zl e;refine⟨J,B,S,x,l,o,p,i,λv n j g h m=>?_⟩;obtain⟨rfl,tv⟩:=ug e g m;exact⟨d,tv,y n j g h⟩)
variable {es:yE}{cs:List C}
theorem Te:PA X [] (YS X.K (ZS [])):=Sn.weak (by
 rintro Z H Q ⟨J,B,S,d,g,f,h,e,y⟩;obtain⟨rfl,rfl⟩:=YA e;exact y [] H J f (ZH.refl _ _ _) RVs.nil)
theorem UN(p:PE X a (ZD X.K ca))(z:PA X es (YS X.K (ZS cs)))(t:y7 (a::es) X.env=(Z5,jU a X.env)::y7 es X.env):PA X (a::es) (YS X.K (ZS (ca::cs))):=(Uy p z t).weak (by
 rintro Z H Q ⟨J,B,S,d,o,A,k,e,y⟩;obtain⟨x,j,m,e⟩:=Zl e;obtain⟨r,E,u,e⟩:=Zl e;obtain⟨rfl,rfl⟩:=YA e;exact⟨J,B,S,x,j,A,k,m,λv F n i g s=>⟨n,B,j,r,o,i,k.up g,u,λl q D h f w=>y (v::l) q D h (g.trans f h.nd) (.cons (RV.up f.tk f.ext _ _ s) w)⟩⟩)
theorem KO:∀{f:List C}{S S':ZU}{xs:List D},ZS f B S=.ok xs S'->xs.length=f.length
 |[],S,S',xs,e=>by obtain⟨rfl,rfl⟩:=YA e;rfl
 |c::f,S,S',xs,e=>by obtain⟨x,k,j,e⟩:=Zl e;obtain⟨h,i,g,e⟩:=Zl e;obtain⟨rfl,rfl⟩:=YA e;rw[qB6,qB6,KO g]
theorem NL{K:yP}(g:SR K J S H)(h:H p=Z8)(r:RVs K H J ds vs):SR K J S (ZE H p (.tup vs))/\ZH K J J H (ZE H p (.tup vs))/\RV K (ZE H p (.tup vs)) J (.tup ds) (.ref p):=by obtain⟨f,e⟩:=g.other h;exact⟨f,e,⟨p,vs,rfl,YU,RVs.up e.tk e.ext _ _ r⟩⟩
theorem uf{K:yP}(e:SR K J S H)(h:H p=Z8)(r:RVs K H J ds vs):SR K (J++[p]) (S++[.lst ds]) (ZE H p (.lst vs))/\ZH K J (J++[p]) H (ZE H p (.lst vs))/\RV K (ZE H p (.lst vs)) (J++[p]) (.lst S.length) (.ref p):=by obtain⟨f,g⟩:=e.push (o':=.lst ds) h ⟨vs,YU,RVs.up (R9 h) ⟨[p],rfl⟩ _ _ r⟩;exact⟨f,g,⟨p,rfl,by rw[<- e.len,qA5 (qA4 _),qD5];rfl⟩⟩
theorem Yw.newL{K:yP}(y:Yw K J H (.lst S.length) (S++[.lst ds]) Q)(g:SR K J S H)(h:H p=Z8)(r:RVs K H J ds vs):Q (.ref p) (ZE H p (.lst vs)):=by obtain⟨f,i,e⟩:=uf g h r;exact y _ _ _ f i e
theorem Yw.newT{K:yP}(y:Yw K J H (.tup ds) S Q)(g:SR K J S H)(h:H p=Z8)(r:RVs K H J ds vs):Q (.ref p) (ZE H p (.tup vs)):=by obtain⟨f,i,e⟩:=NL g h r;exact y _ _ _ f i e
theorem ue{l}(h:PA X es (YS X.K (ZS cs)))(t:cs.length<=1000):PE X (.Tuple es l pos) (ZD X.K (Zg (ZS cs))):=(Hm h).weak (by
 rintro Z H Q ⟨J,B,S,d,m,o,q,e,y⟩;obtain⟨n,u,i,e⟩:=Zl e;obtain⟨rfl,rfl⟩:=YA e;refine⟨J,B,S,n,m,o,q,i,λr v s g f j=>⟨?_,λp k=>(y.shift f).newT g k j⟩⟩;have w:=KO i;have x:=j.len;exact qF7 (Lu (by lia)))
theorem FY(h:PA X es (YS X.K (ZS cs)))(s:cs.length<=1000):PE X (.List es pos) (ZD X.K (Zv (ZS cs))):=(Aq h).weak (by
 rintro Z H Q ⟨J,B,S,d,t,n,o,e,y⟩;obtain⟨m,l,i,e⟩:=Zl e;cases e;refine⟨J,B,S,m,l,n,o,i,λq u r g f j=>⟨?_,λp k=>(y.shift f).newL g k j⟩⟩;have v:=KO i;have w:=j.len;exact qF7 (Lu (by lia)))
theorem ud(e:YM X.K (KR X) o)(g:PE X a (ZD X.K ca))(f:PE X b (ZD X.K cb))(h:LH b):PE X (.Subscript a b pos) (ZD X.K (ZW o ca cb)):=(zZ uz g f h).weak (NN e)
def CO:=ZR->M (yG)
def XF:CO:=λ_=>ret Z8
def R6(x:D):M Int:=match x with
 |.int i=>ret i
 |_=>bad
def X3(a:C):CO:=fun B=>Zi (a B) λx=>Zi (R6 x) λi=>ret (Z9 i)
def KN(K:yP)(J:yC)(H:Hp)(b:yG)(g:ZU)(Q:yG->Hp->Prop):Prop:=∀e f,SR K f g e->ZH K J f H e->Q b e
inductive Vc(K:yP)(c:CO)(Z:St)(H:Hp)(Q:yG->Hp->Prop):Prop
 |mk (J:yC) (B:ZR) (S:ZU) (d:yG) (S':ZU) (sr:SR K J S H) (re:RE K H J B Z) (e:c B S=.ok d S') (y:KN K J H d S' Q)
theorem PO.weak(h:PO X e t)(w:∀Z H Q,t' Z H Q->t Z H Q):PO X e t':=λf s Z H Q I q=>h f s Z H Q I (w Z H Q q)
theorem uc:PO X Z8 (Vc X.K XF):=Af.weak (by
 rintro Z H Q ⟨J,B,S,d,g,f,h,e,y⟩;obtain⟨rfl,rfl⟩:=YA e;exact y H J f (ZH.refl _ _ _))
theorem ub(m:PE X a (ZD X.K ca)):PO X (Z9 a) (Vc X.K (X3 ca)):=(Ae m).weak (by
 rintro Z H Q ⟨J,B,S,d,t,q,r,e,y⟩;obtain⟨x,n,k,e⟩:=Zl e;obtain⟨i,s,h,e⟩:=Zl e;obtain⟨rfl,rfl⟩:=YA e;refine⟨J,B,S,x,n,q,r,k,λv p l g f o=>?_⟩;cases x with
 |int j =>
  obtain⟨rfl,rfl⟩:=YA h;exact⟨_,o,y p l g f⟩
 | _=>cases h)
def XY(o:D->yG->yG->M D)(a:C)(lo hi:CO):C:=fun B=>Zi (a B) λx=>Zi (lo B) λl=>Zi (hi B) λh=>o x l h
def FX(K:yP)(r:V->yG->yG->Hp->VK->Prop)(o:D->yG->yG->M D):Prop:=∀x l h S d e H J v Q,o x l h S=.ok d e->SR K J S H->RV K H J x v->Yw K J H d e Q->r v l h H Q
theorem ua{lo hi:Option yV}(K:FX X.K (KQ X) o)(A:PE X a (ZD X.K ca))(w:PO X lo (Vc X.K cl))(F:PO X hi (Vc X.K ch)):PE X (.Subscript a (.Slice lo hi Z8 E) pos) (ZD X.K (XY o ca cl ch)):=(Ac uy A w F).weak (by
 rintro Z H Q ⟨J,B,S,d,z,O,p,e,y⟩;obtain⟨x,r,t,e⟩:=Zl e;obtain⟨l,q,I,e⟩:=Zl e;obtain⟨h,s,N,e⟩:=Zl e;refine⟨J,B,S,x,r,O,p,t,λv U u n j G=>⟨u,B,r,l,q,n,p.up j,I,λT R m i=>?_⟩⟩;have f:=j.trans i m.nd;refine⟨R,B,q,h,s,m,p.up f,N,λP L k g=>?_⟩;exact K x l h s d z P L v Q e k (RV.up g.tk g.ext _ _ (RV.up i.tk i.ext _ _ G)) (y.shift (f.trans g k.nd)))
def Wx(K:yP)(r:List V->Hp->VK->Prop)(o:List D->M D):Prop:=∀g S d f H J e Q,o g S=.ok d f->SR K J S H->RVs K H J g e->Yw K J H d f Q->r e H Q
variable {ca':CA}
theorem FW(q:Wx X.K r o):∀Z H Q,ZD X.K (ZT o ca') Z H Q->N9 r (YS X.K ca') Z H Q:=by rintro Z H Q ⟨J,B,S,d,m,s,t,e,y⟩;obtain⟨i,h,k,e⟩:=Zl e;exact⟨J,B,S,i,h,s,t,k,λj p l g f n=>q i h d m p l j Q e g n (y.shift f)⟩
end
def lim:Nat:=1048576
theorem Wo(h:n<=lim):n<=sizeLine:=qC6 h (by decide)
theorem NK(h:n<lim):n<sizeLine:=qA9 h (by decide)
section
variable {K:yP}{H H' H1:Hp}{J:yC}{S:ZU}
theorem SR.same(c:SR K J S H)(d:XP H H1):SR K J S H1/\ZH K J J H H1:=by have f:TF K H H1:=F9 d;refine⟨⟨c.len,c.nd,λn a o g i=>?_⟩,⟨⟨[],by simp,by simp⟩,λb o _ h=>d b o h,f⟩⟩;obtain⟨u,e⟩:=c.isS (qC2 g);exact(c.obj n a o g i).up f ⟨[],by simp⟩ (by rw[e];exact d _ _ e)
theorem Yw.oldT(y:Yw K J H (.tup ds) S Q)(c:SR K J S H)(d:XP H H1)(h:H1 p=Z9 (.tup vs))(r:RVs K H J ds vs):Q (.ref p) H1:=by obtain⟨b,a⟩:=c.same d;exact y _ _ _ b a (⟨p,vs,rfl,h,RVs.up a.tk a.ext _ _ r⟩)
theorem XN:RV K H J (.int i) (.int i):=by rfl
theorem Xh:RV K H J (.bl i) (.bl i):=by rfl
theorem Td:RV K H J .non .non:=by rfl
theorem Ww:RV K H J (.str i) (.str i):=by rfl
theorem SR.lst(c:SR K J S H){n:Nat}(h:J[n]?=Z9 a)(b:S[n]?=Z9 (.lst xs)):∃vs,H a=Z9 (.lst vs)/\RVs K H J xs vs:=c.obj n a _ h b
def ZC(S:ZU)(n:Nat):Option (List D):=match S[n]? with
 |some (.lst a)=>Z9 a
 |_=>Z8
theorem SR.sq(c:SR K J S H)(h:J[n]?=Z9 a)(b:ZC S n=Z9 xs):∃vs,Ys K H a vs/\RVs K H J xs vs:=by
 unfold ZC at b;split at b
 .rename_i d e;cases b;obtain⟨vs,q,r⟩:=c.get h e;exact⟨vs,Ys.of q,r⟩
 .cases b
def Q0(S:ZU):D->Option (List D)
 |.tup a=>Z9 a
 |.lst n=>ZC S n
 |.rol a=>Z9 a
 |_=>Z8
theorem SR.seq(d:SR K J S H)(r:RV K H J x v)(b:Q0 S x=Z9 xs):∃a vs,v=.ref a/\(Ys K H a vs∨Zb K H a vs)/\RVs K H J xs vs:=by
 unfold Q0 at b;split at b
 .cases b;obtain⟨p,vs,rfl,q,c⟩:=r;exact⟨p,vs,rfl,.inr (Zb.of q),c⟩
 .obtain⟨a,rfl,e⟩:=r;obtain⟨vs,q,c⟩:=d.sq e b;exact⟨a,vs,rfl,.inl q,c⟩
 .cases b;obtain⟨p,vs,rfl,q,c⟩:=r;exact⟨p,vs,rfl,.inl q.sq,c⟩
 .cases b
theorem RVs.rep(h:RVs K H J ds vs):∀k:Nat,RVs K H J (qC3 k ds).flatten (qC3 k vs).flatten
 |0=>.nil
 |k+1=>h.append (RVs.rep h k)
theorem RVs.cons_inv(h:RVs K H J (d::ds) vs):∃v ws,vs=v::ws/\RV K H J d v/\RVs K H J ds ws:=h
theorem RVs.nil_inv(h:RVs K H J [] vs):vs=[]:=h
end
def YZ(g:Int->Int->Int):D->D->M D
 |.int i,.int j=>ret (.int (g i j))
 |_,_=>bad
def ZQ:D->D->M D
 |.int i,.int j=>ret (.int (i+j))
 |.tup b,.tup a=>λS=>if b.length+a.length<=lim then .ok (.tup (b++a)) S else .bad
 |.lst n,.lst m=>λS=>match S[n]?,S[m]? with
  |some (.lst b),Z9 (.lst a)=>if b.length+a.length<=lim then .ok (.lst S.length) (S++[.lst (b++a)])else .bad
  |_,_=>.bad
 |.str x,.str y=>λS=>if x.length+y.length<=lim then .ok (.str (x++y)) S else .bad
 |_,_=>bad
def Tc(i j:Int):Bool:=(decide (-18446744073709551616<i)&&decide (i<18446744073709551616))||(decide (-18446744073709551616<j)&&decide (j<18446744073709551616))
def Vb:D->D->M D
 |.int i,.int j=>λS=>if Tc i j then .ok (.int (i*j)) S else .bad
 |.lst n,.int k=>λS=>match S[n]? with
  |some (.lst a)=>if -1000<k/\k<1000000/\a.length*k.toNat<=lim then .ok (.lst S.length) (S++[.lst (qC3 k.toNat a).flatten])else .bad
  |_=>.bad
 |_,_=>bad
def WY:D->D->M D
 |.int i,.int j=>λS=>if 0<j then .ok (.int (i % j)) S else .bad
 |_,_=>bad
def Wi:D->D->M D
 |.int i,.int j=>λS=>if 0<j/\j<1073741824 then .ok (.int (i / j)) S else .bad
 |_,_=>bad
def Va:D->D->M D
 |.int i,.int j=>λS=>if 0<=j/\j<=1000000/\i.natAbs<18446744073709551616 then .ok (.int (i ^ j.toNat)) S else .bad
 |_,_=>bad
def Ui:D->D->M D
 |.int i,.int j=>λS=>if 0<=j/\j<=1000000/\i.natAbs<18446744073709551616 then .ok (.int (i*2 ^ j.toNat)) S else .bad
 |_,_=>bad
def Uh:D->D->M D
 |.int i,.int j=>λS=>if 0<=j then .ok (.int (i / 2 ^ j.toNat)) S else .bad
 |_,_=>bad
def U9:D->M D
 |.int i=>ret (.int (-i))
 |_=>bad
section
variable {X:Cx}
theorem NJ(h:Y3 X (jG a) (VT λi j=>.int (g i j))):YM X.K (Zp X (jG a)) (YZ g):=by
 intro x y S d l H J v u Q e b k f c;unfold YZ at e;split at e
 .obtain⟨rfl,rfl⟩:=YA e;subst k f;exact⟨_,h,_,_,rfl,rfl,c.self b XN⟩
 .cases e
theorem t8:YM X.K (Zp X (jG .Sub)) (YZ λi j=>i - j):=NJ Be
theorem t7:YM X.K (Zp X (jG .BitAnd)) (YZ wV):=NJ A7
theorem t6:YM X.K (Zp X (jG .BitOr)) (YZ fO):=NJ A6
theorem t5:YM X.K (Zp X (jG .BitXor)) (YZ mP):=NJ A5
theorem FV:YM X.K (Zp X (jG .Add)) ZQ:=by
 intro x y S d z H J v u Q e a i g h;unfold ZQ at e;split at e
 .obtain⟨rfl,rfl⟩:=YA e;subst i g;exact⟨_,Bf,_,_,rfl,rfl,h.self a XN⟩
 .try dsimp only at e
  split at e
  .rename_i b;cases e;obtain⟨p,j,rfl,m,c⟩:=i;obtain⟨l,k,rfl,n,f⟩:=g;exact⟨_,yq,p,l,j,k,rfl,rfl,m,n,by rw[<- c.len,<- f.len];exact Wo b,λp3 C r sq=>h.oldT a r sq (c.append f)⟩
  .cases e
 .try dsimp only at e
  obtain⟨p,rfl,t⟩:=i;obtain⟨l,rfl,w⟩:=g;split at e
  .rename_i B A s q;split at e
   .rename_i b;cases e;obtain⟨j,m,c⟩:=a.lst t s;obtain⟨k,n,f⟩:=a.lst w q;exact⟨_,zF,p,l,j,k,rfl,rfl,m,n,by rw[<- c.len,<- f.len];exact Wo b,λp3 o=>h.newL a o (c.append f)⟩
   .cases e
  .cases e
 .try dsimp only at e
  split at e
  .rename_i b;cases e;subst i g;exact⟨_,AI,_,_,rfl,rfl,Wo b,h.self a Ww⟩
  .cases e
 .cases e
theorem t4(h:Tc i j=Z7):UA i j:=by unfold Tc at h;simp only[qG8,qB3,decide_eq_true_eq]at h;exact h
theorem tZ:YM X.K (Zp X (jG .Mult)) Vb:=by
 intro x y S d o H J v u Q e c f b h;unfold Vb at e;split at e
 .try dsimp only at e
  split at e
  .rename_i a;cases e;subst f b;exact⟨_,Bd,_,_,rfl,rfl,t4 a,h.self c XN⟩
  .cases e
 .try dsimp only at e
  split at e
  .rename_i q m;split at e
   .rename_i a;cases e;obtain⟨r,s,l⟩:=a;unfold RV at f b;obtain⟨p,rfl,n⟩:=f;subst b;obtain⟨i,k,g⟩:=c.lst n m;exact⟨_,zD,p,_,i,rfl,rfl,k,by lia,by lia,by rw[<- g.len];exact Wo l,λp j=>h.newL c j (g.rep _)⟩
   .cases e
  .cases e
 .cases e
theorem tY:YM X.K (Zp X (jG .Mod)) WY:=by
 intro x y S d g H J v u Q e a c f h;unfold WY at e;split at e
 .try dsimp only at e
  split at e
  .rename_i b;cases e;subst c f;exact⟨_,Bb,_,_,rfl,rfl,b,h.self a XN⟩
  .cases e
 .cases e
theorem tX:YM X.K (Zp X (jG .FloorDiv)) Wi:=by
 intro x y S d g H J v u Q e a c f h;unfold Wi at e;split at e
 .try dsimp only at e
  split at e
  .rename_i b;cases e;subst c f;exact⟨_,Bc,_,_,rfl,rfl,b,h.self a XN⟩
  .cases e
 .cases e
theorem tW:YM X.K (Zp X (jG .Pow)) Va:=by
 intro x y S d g H J v u Q e a c f h;unfold Va at e;split at e
 .try dsimp only at e
  split at e
  .rename_i b;cases e;subst c f;exact⟨_,Ba,_,_,rfl,rfl,b,h.self a XN⟩
  .cases e
 .cases e
theorem tV:YM X.K (Zp X (jG .LShift)) Ui:=by
 intro x y S d g H J v u Q e a c f h;unfold Ui at e;split at e
 .try dsimp only at e
  split at e
  .rename_i b;cases e;subst c f;exact⟨_,A9,_,_,rfl,rfl,b,h.self a XN⟩
  .cases e
 .cases e
theorem tU:YM X.K (Zp X (jG .RShift)) Uh:=by
 intro x y S d g H J v u Q e a c f h;unfold Uh at e;split at e
 .try dsimp only at e
  split at e
  .rename_i b;cases e;subst c f;exact⟨_,A8,_,_,rfl,rfl,b,h.self a XN⟩
  .cases e
 .cases e
theorem tT:F2 X.K (R8 X (unaryOp .USub)) U9:=by
 intro x S d c H J v Q e a b h;unfold U9 at e;split at e
 .obtain⟨rfl,rfl⟩:=YA e;subst b;exact⟨_,A3,_,rfl,h.self a XN⟩
 .cases e
def Y1(g:Int->Int->Bool):D->D->M D
 |.int i,.int j=>ret (.bl (g i j))
 |_,_=>bad
theorem KM(h:Y3 X (y8 a) (VT λi j=>.bl (g i j))):YM X.K (Zp X (y8 a)) (Y1 g):=by
 intro x y S d l H J v u Q e b k f c;unfold Y1 at e;split at e
 .obtain⟨rfl,rfl⟩:=YA e;subst k f;exact⟨_,h,_,_,rfl,rfl,c.self b Xh⟩
 .cases e
theorem tS:YM X.K (Zp X (y8 .LtE)) (Y1 λi j=>decide (i<=j)):=KM AX
theorem tR:YM X.K (Zp X (y8 .Gt)) (Y1 λi j=>decide (j<i)):=KM AW
theorem tQ:YM X.K (Zp X (y8 .GtE)) (Y1 λi j=>decide (j<=i)):=KM AV
def Tb:List D->Option (yA)
 |[]=>Z9 []
 |.int i::r=>(Tb r).map (i::·)
 |_::_=>Z8
theorem KL{K:yP}{H:Hp}{J:yC}:∀{ds:List D}{ns:yA}{vs:List V},Tb ds=Z9 ns->RVs K H J ds vs->vs=ns.map V.int
 |[],ns,vs,e,r=>by cases e;rw[r.nil_inv];rfl
 |.int i::ds,ns,vs,e,r=>by
  obtain⟨v,c,rfl,b,a⟩:=r.cons_inv;unfold Tb at e;cases q:Tb ds with
  |none=>rw[q]at e;cases e
  |some d =>
   rw[q]at e;cases e;subst b;rw[KL q a];rfl
 |.non::ds,ns,vs,e,r=>by cases e
 |.bl _::ds,ns,vs,e,r=>by cases e
 |.str _::ds,ns,vs,e,r=>by cases e
 |.ty _::ds,ns,vs,e,r=>by cases e
 |.tup _::ds,ns,vs,e,r=>by cases e
 |.lst _::ds,ns,vs,e,r=>by cases e
 |.dct _::ds,ns,vs,e,r=>by cases e
 |.rol _::ds,ns,vs,e,r=>by cases e
 |.xc _::ds,ns,vs,e,r=>by cases e
 |.ob _::ds,ns,vs,e,r=>by cases e
 |.ktp _::ds,ns,vs,e,r=>by cases e
def U8:D->D->M D
 |.int i,.int j=>ret (.bl (decide (i<j)))
 |_,_=>bad
theorem tP(f:X.A.units<vT):YM X.K (Zp X (y8 .Lt)) U8:=by
 intro x y S d g H J v u Q e a c b h;unfold U8 at e;split at e
 .obtain⟨rfl,rfl⟩:=YA e;subst c b;exact⟨_,AY,_,_,rfl,rfl,h.self a Xh⟩
 .cases e
def YR:Nat->ZU->D->Option vK
 |0,_,_=>Z8
 |n+1,S,d=>match d with
  |.non=>Z9 .none
  |.bl b=>Z9 (.bool b)
  |.int i=>Z9 (.int i)
  |.str x=>if PyData.strOk x then Z9 (.str x)else Z8
  |.tup a=>(a.mapM (YR n S)).map .tuple
  |.lst k=>match ZC S k with
   |some a=>(a.mapM (YR n S)).map .list
   |none=>Z8
  |_=>Z8
theorem PK{K:yP}{H:Hp}{J:yC}{S:ZU}{n:Nat}(c:∀d v p,YR n S d=Z9 p->RV K H J d v->Rp K H (λ_=>True) v p/\p.canLay0=Z7/\p.depth<=n):∀(xs:List D) (vs:List V) (ps:List vK),xs.mapM (YR n S)=Z9 ps->RVs K H J xs vs->RpL K H (λ_=>True) vs ps/\PyData.canLayAll0 ps=Z7/\PyData.depthAll ps<=n
 |[],vs,ps,e,r=>by simp at e;subst e;rw[r.nil_inv];exact⟨.nil,rfl,qF0 _⟩
 |d::f,vs,ps,e,r=>by
  obtain⟨v,g,rfl,i,k⟩:=r.cons_inv;rw[qJ5]at e;cases q:YR n S d with
  |none=>rw[q]at e;cases e
  |some p =>
   cases b:f.mapM (YR n S)with
   |none=>rw[q,b]at e;cases e
   |some a =>
    rw[q,b]at e;cases e;obtain⟨j,m,o⟩:=c d v p q i;obtain⟨h,l,s⟩:=PK c f g a b k;refine⟨.cons j h,?_,?_⟩
    .show(PyData.canLay0 p&&PyData.canLayAll0 a)=Z7
     simp_all
    .show max p.depth (PyData.depthAll a)<=n
     lia
theorem UM{K:yP}{H:Hp}{J:yC}{S:ZU}(m:SR K J S H):∀(n:Nat) (d:D) (v:V) (p:vK),YR n S d=Z9 p->RV K H J d v->Rp K H (λ_=>True) v p/\p.canLay0=Z7/\p.depth<=n
 |0,d,v,p,e,r=>by cases e
 |n+1,d,v,p,e,r=>by
  unfold YR at e;cases d with
  |non=>cases e;subst r;exact⟨.non,rfl,qF0 _⟩
  |bl b=>cases e;subst r;exact⟨.bl b,rfl,qF0 _⟩
  |int i=>cases e;subst r;exact⟨.int i,rfl,qF0 _⟩
  |str x =>
   dsimp only at e;split at e
   .rename_i u;cases e;subst r;exact⟨.str x,u,qF0 _⟩
   .cases e
  |tup c =>
   dsimp only at e;cases q:c.mapM (YR n S)with
   |none=>rw[q]at e;cases e
   |some l =>
    rw[q]at e;cases e;obtain⟨a,g,rfl,j,s⟩:=r;obtain⟨h,f,o⟩:=PK (λd v p e r=>UM m n d v p e r) c g l q s;exact⟨.tup (Zb.of j) h,f,qN5 o⟩
  |lst k =>
   dsimp only at e;split at e
   .rename_i c w;cases q:c.mapM (YR n S)with
    |none=>rw[q]at e;cases e
    |some l =>
     rw[q]at e;cases e;obtain⟨a,rfl,t⟩:=r;obtain⟨g,j,s⟩:=m.sq t w;obtain⟨h,f,o⟩:=PK (λd v p e r=>UM m n d v p e r) c g l q s;exact⟨.lst True.intro j h,f,qN5 o⟩
   .cases e
  |dct k=>cases e
  |ty k=>cases e
  |rol k=>cases e
  |xc _=>cases e
  |ob _=>cases e
  |ktp _=>cases e
def Ze:D->D->M D:=λx y S=>match x,y with
 |.str a,.str b=>.ok (.bl (decide (a=b))) S
 |_,_=>match YR 40 S x,YR 40 S y with
  |some p,Z9 q=>.ok (.bl (PyData.eqv p q)) S
  |_,_=>.bad
def Yh:D->D->M D:=λx y S=>match x,y with
 |.str a,.str b=>.ok (.bl (!decide (a=b))) S
 |_,_=>match YR 40 S x,YR 40 S y with
  |some p,Z9 q=>.ok (.bl (!PyData.eqv p q)) S
  |_,_=>.bad
theorem FU(i:X.A.units+64<vT):YM X.K (Zp X (y8 .Eq)) Ze:=by
 intro x y S d r H J v u Q e c g f h;unfold Ze at e;split at e
 .rename_i a b;cases e;subst g f;refine⟨_,A0,rfl,?_⟩;have z:decide (V.str a=V.str b)=decide (a=b):=by simp
  rw[z];exact h.self c Xh
 .split at e
  .rename_i p q k n;cases e;obtain⟨o,l,s⟩:=UM c 40 x v p k g;obtain⟨m,j,t⟩:=UM c 40 y u q n f;exact⟨_,xS i,_,_,p,q,o,m,⟨l,by lia⟩,⟨j,by lia⟩,h.self c Xh⟩
  .cases e
theorem tO(i:X.A.units+64<vT):YM X.K (Zp X (y8 .NotEq)) Yh:=by
 intro x y S d r H J v u Q e c g f h;unfold Yh at e;split at e
 .rename_i a b;cases e;unfold RV at g f;subst g f;refine⟨_,AZ,rfl,?_⟩;have z:decide (V.str a=V.str b)=decide (a=b):=by simp
  rw[z];exact h.self c Xh
 .split at e
  .rename_i p q k n;cases e;obtain⟨o,l,s⟩:=UM c 40 x v p k g;obtain⟨m,j,t⟩:=UM c 40 y u q n f;exact⟨_,xR i,_,_,p,q,o,m,⟨l,by lia⟩,⟨j,by lia⟩,h.self c Xh⟩
  .cases e
def D.isNon:D->Bool
 |.non=>Z7
 |_=>Z5
theorem FT{K:yP}(r:RV K H J x v):decide (v=.non)=x.isNon:=by
 cases x with
 |non=>unfold RV at r;subst r;rfl
 |bl _=>unfold RV at r;subst r;rfl
 |int _=>unfold RV at r;subst r;rfl
 |str _=>unfold RV at r;subst r;rfl
 |ty _=>unfold RV at r;subst r;rfl
 |tup _=>unfold RV at r;obtain⟨_,_,rfl,_⟩:=r;rfl
 |lst _=>unfold RV at r;obtain⟨_,rfl,_⟩:=r;rfl
 |dct _=>unfold RV at r;obtain⟨_,rfl,_⟩:=r;rfl
 |rol _=>unfold RV at r;obtain⟨_,_,rfl,_⟩:=r;rfl
 |xc _=>unfold RV at r;obtain⟨_,_,_,rfl,_⟩:=r;rfl
 |ob _=>unfold RV at r;obtain⟨_,_,_,_,_,rfl,_⟩:=r;rfl
 |ktp _=>unfold RV at r;obtain⟨_,rfl,_⟩:=r;rfl
def QZ:D->D->M D
 |x,.non=>ret (.bl x.isNon)
 |.bl a,.bl b=>ret (.bl (a == b))
 |_,_=>bad
def PJ:D->D->M D
 |x,.non=>ret (.bl (!x.isNon))
 |.bl a,.bl b=>ret (.bl (a != b))
 |_,_=>bad
theorem tN:YM X.K (Zp X (y8 .Is)) QZ:=by
 intro x y S d f H J v u Q e a b c h;unfold QZ at e;split at e
 .obtain⟨rfl,rfl⟩:=YA e;exact⟨_,AS,c,by rw[FT b];exact h.self a Xh⟩
 .obtain⟨rfl,rfl⟩:=YA e;subst b c;exact⟨_,yu,_,_,rfl,rfl,h.self a Xh⟩
 .cases e
theorem tM:YM X.K (Zp X (y8 .IsNot)) PJ:=by
 intro x y S d f H J v u Q e a b c h;unfold PJ at e;split at e
 .obtain⟨rfl,rfl⟩:=YA e;exact⟨_,AR,c,by rw[FT b];exact h.self a Xh⟩
 .obtain⟨rfl,rfl⟩:=YA e;subst b c;exact⟨_,yt,_,_,rfl,rfl,h.self a Xh⟩
 .cases e
def Xv:D->Option V
 |.non=>Z9 .non
 |.bl b=>Z9 (.bl b)
 |.int i=>Z9 (.int i)
 |.str x=>Z9 (.str x)
 |_=>Z8
theorem FS{K:yP}(e:Xv x=Z9 w)(r:RV K H J x v):v=w:=by
 cases x with
 |non=>cases e;exact r
 |bl _=>cases e;exact r
 |int _=>cases e;exact r
 |str _=>cases e;exact r
 |_=>cases e
theorem FR{K:yP}{H:Hp}{J:yC}:∀{ds:List D}{vs ws:List V},ds.mapM Xv=Z9 ws->RVs K H J ds vs->vs=ws
 |[],vs,ws,e,r=>by simp at e;subst e;exact r.nil_inv
 |d::ds,vs,ws,e,r=>by
  obtain⟨v,g,rfl,f,b⟩:=r.cons_inv;rw[qJ5]at e;cases q:Xv d with
  |none=>rw[q]at e;cases e
  |some w =>
   cases a:ds.mapM Xv with
   |none=>rw[q,a]at e;cases e
   |some c =>
    rw[q,a]at e;cases e;rw[FS q f,FR a b]
def VN:D->Option ZA
 |.int i=>Z9 (.inl i)
 |.str x=>Z9 (.inr x)
 |_=>Z8
theorem R5{K:yP}(e:VN x=Z9 k)(r:RV K H J x v):v=kV k:=by
 cases x with
 |int _=>cases e;exact r
 |str _=>cases e;exact r
 |_=>cases e
def Zh{a:Type}[DecidableEq a](kvs:List (a×D))(k:a):Option D:=(kvs.find? λb=>decide (b.1=k)).map (·.2)
def Zu{b:Type}[DecidableEq b](kvs:List (b×D))(k:b)(v:D):List (b×D) :=
 if(kvs.any λa=>decide (a.1=k))=Z7 then kvs.map (λa=>if a.1=k then(a.1,v)else a)else kvs++[(k,v)]
section
variable {κ:Type} [DecidableEq κ] {K:yP}{H:Hp}{J:yC}
theorem Y0.cons_inv{ws:List (κ×V)}(h:Y0 K H J (p::kvs) ws):∃q us,ws=q::us/\p.1=q.1/\RV K H J p.2 q.2/\Y0 K H J kvs us:=by
 obtain⟨a,b⟩:=h;rw[qB2]at a b;obtain⟨v,f,e,d,c⟩:=b.cons_inv;cases ws with
 |nil=>simp at a
 |cons q us =>
  rw[qB2]at a e;cases e;rw[qH4.injEq]at a;exact⟨q,us,rfl,a.1,d,a.2,c⟩
theorem Y0.val:∀{kvs:List (κ×D)}{ws:List (κ×V)},Y0 K H J kvs ws->(∀d,Zh kvs k=Z9 d->∃v,Yd ws k=Z9 v/\RV K H J d v)/\(Zh kvs k=Z8->Yd ws k=Z8)
 |[],ws,h=>by
  have:ws=[]:=by have:=h.1;cases ws with|nil=>rfl|cons a b=>simp at this
  subst this;exact⟨λd e=>(by cases e),λ_=>rfl⟩
 |p::kvs,ws,h=>by
  obtain⟨q,m,rfl,f,l,g⟩:=h.cons_inv;obtain⟨j,i⟩:=Y0.val g;by_cases hk:p.1=k
  .have c:Zh (p::kvs) k=Z9 p.2:=by simp[Zh,hk]
   rw[c,N5 (f▸hk)]
   simp_all
  .have c:Zh (p::kvs) k=Zh kvs k:=by simp[Zh,hk]
   rw[c,N4 (f▸hk)];exact⟨j,i⟩
theorem Y0.nil:Y0 K H J ([]:List (κ×D)) []:=⟨rfl,RVs.nil⟩
theorem Y0.cons{ws:List (κ×V)}(r:RV K H J d v)(h:Y0 K H J kvs ws):Y0 K H J ((k,d)::kvs) ((k,v)::ws):=⟨by rw[qB2,qB2,h.1],.cons r h.2⟩
theorem Y0.any:∀{kvs:List (κ×D)}{ws:List (κ×V)},Y0 K H J kvs ws->(kvs.any λc=>decide (c.1=k))=(ws.any λc=>decide (c.1=k))
 |[],ws,h=>by
  have:ws=[]:=by have:=h.1;cases ws with|nil=>rfl|cons a b=>simp at this
  subst this;rfl
 |p::kvs,ws,h=>by obtain⟨q,g,rfl,d,f,e⟩:=h.cons_inv;rw[qH0,qH0,Y0.any e,d]
theorem Y0.mapSet(e:RV K H J d v):∀{kvs:List (κ×D)}{ws:List (κ×V)},Y0 K H J kvs ws->Y0 K H J (kvs.map (λc=>if c.1=k then(c.1,d)else c)) (ws.map (λc=>if c.1=k then(c.1,v)else c))
 |[],ws,h=>by
  have:ws=[]:=by have:=h.1;cases ws with|nil=>rfl|cons a b=>simp at this
  subst this;exact .nil
 |p::kvs,ws,h=>by
  obtain⟨q,o,rfl,i,j,f⟩:=h.cons_inv;rw[qB2,qB2];obtain⟨g,m⟩:=p;obtain⟨l,n⟩:=q;subst i;by_cases hk:g=k
  .rw[if_pos hk,if_pos hk];exact .cons e (Y0.mapSet e f)
  .rw[if_neg hk,if_neg hk];exact .cons j (Y0.mapSet e f)
theorem Y0.append{ds:List (κ×V)}(h:Y0 K H J b bs)(g:Y0 K H J a ds):Y0 K H J (b++a) (bs++ds):=⟨by rw[qE3,qE3,h.1,g.1],by rw[qE3,qE3];exact h.2.append g.2⟩
theorem Y0.put(b:RV K H J d v){ws:List (κ×V)}(h:Y0 K H J kvs ws):Y0 K H J (Zu kvs k d) (YN ws k v):=by
 unfold Zu YN;rw[h.any];by_cases a:(ws.any λc=>decide (c.1=k))=Z7
 .rw[if_pos a,if_pos a];exact h.mapSet b
 .rw[if_neg a,if_neg a];exact h.append (.cons b .nil)
def WX(kvs a:List (κ×D)):List (κ×D):=a.foldl (λacc b=>Zu acc b.1 b.2) kvs
theorem Y0.len{ws:List (κ×V)}(h:Y0 K H J kvs ws):kvs.length=ws.length:=by have:=congrArg qG5 h.1;simpa using this
end
def dictAt(S:ZU)(n:Nat)(x:D):Option (Option D):=match S[n]? with
 |some (.dk a)=>(VN x).map λk=>Zh a k
 |some (.fk a)=>(VN x).map λk=>Zh a k
 |_=>Z8
theorem FQ{K:yP}(j:SR K J S H)(e:dictAt S n x=Z9 r)(i:J[n]?=Z9 a)(l:RV K H J x v):∃o,XD H a v o/\(∀d,r=Z9 d->∃w,o=Z9 w/\RV K H J d w)/\(r=Z8->o=Z8):=by
 unfold dictAt at e;split at e
 .rename_i f g;cases q:VN x with
  |none=>rw[q]at e;cases e
  |some k =>
   rw[q]at e;cases e;obtain⟨c,h,b⟩:=j.get i g;have:=R5 q l;subst this;exact⟨Yd c k,XD.k h,(b.val).1,(b.val).2⟩
 .rename_i f g;cases q:VN x with
  |none=>rw[q]at e;cases e
  |some k =>
   rw[q]at e;cases e;obtain⟨o,c,h,b⟩:=j.get i g;have:=R5 q l;subst this;exact⟨Yd c k,.inl ⟨_,_,.inr ⟨o,h⟩,rfl,rfl⟩,(b.val (k:=k)).1,(b.val (k:=k)).2⟩
 .cases e
def Ya(neg:Bool):D->D->M D:=λx y S=>match y with
 |.dct n=>match dictAt S n x with
  |some o=>.ok (.bl (if neg then !o.isSome else o.isSome)) S
  |none=>.bad
 |_=>match Q0 S y,Xv x with
  |some b,Z9 v=>match b.mapM Xv with
   |some a=>.ok (.bl (if neg then !N7 v a else N7 v a)) S
   |none=>.bad
  |_,_=>.bad
theorem FP(h:Xv x=Z9 v):UT v=Z7:=by cases x<;>first|(cases h;rfl)| cases h
theorem FO:∀{ds:List D}{vs:List V},ds.mapM Xv=Z9 vs->vs.all UT=Z7
 |[],vs,e=>by simp at e;subst e;rfl
 |d::ds,vs,e=>by
  rw[qJ5]at e;cases q:Xv d with
  |none=>rw[q]at e;cases e
  |some w =>
   cases a:ds.mapM Xv with
   |none=>rw[q,a]at e;cases e
   |some b =>
    rw[q,a]at e;cases e;rw[qH7,FP q,FO a];rfl
theorem tL(c:X.A.units+1<vT):Y3 X (y8 .In) (λy x H Q=>∃a o,x=.ref a/\XD H a y o/\Q (.bl o.isSome) H):=by intro b s Z H y x v u Q I e f h;obtain⟨a,o,rfl,g,q⟩:=h;obtain rfl:u=Value.ref a:=f;exact Lr c I g e λi d=>⟨.bl o.isSome,H,d,rfl,q⟩
theorem tK(c:X.A.units+1<vT):Y3 X (y8 .NotIn) (λy x H Q=>∃a o,x=.ref a/\XD H a y o/\Q (.bl (!o.isSome)) H):=by intro b s Z H y x v u Q I e f h;obtain⟨a,o,rfl,g,q⟩:=h;obtain rfl:u=Value.ref a:=f;exact zu c I g e λi d=>⟨.bl (!o.isSome),H,d,rfl,q⟩
theorem KJ{n:Nat}:∀{ps:List vK},PyData.canLayAll0 ps=Z7->PyData.depthAll ps<=n->∀d∈ps,d.canLay0=Z7/\d.depth<=n
 |[],_,_,d,h=>by cases h
 |p::ps,h1,h2,d,h=>by
  replace h1:(PyData.canLay0 p&&PyData.canLayAll0 ps)=Z7:=h1
  replace h2:max p.depth (PyData.depthAll ps)<=n:=h2
  rw[qB3]at h1;rcases qA8.mp h with rfl|h
  .exact⟨h1.1,by lia⟩
  .exact KJ h1.2 (by lia) d h
theorem FN(B:Y3 X (y8 i) (LB X.K neg))(C:Y3 X (y8 i) (λy x H Q=>∃a o,x=.ref a/\XD H a y o/\Q (.bl (if neg then !o.isSome else o.isSome)) H))
  : YM X.K (Zp X (y8 i)) (Ya neg):=by
 intro x y S d F H J v u Q e c l f h;unfold Ya at e;split at e
 .rename_i n;split at e
  .rename_i o A;cases e;unfold RV at f;obtain⟨a,rfl,s⟩:=f;obtain⟨j,g,q,r⟩:=FQ c A s l;have b:j.isSome=o.isSome:=by
    cases o with
    |none=>simp[r rfl]
    |some d=>obtain⟨w,rfl,_⟩:=q d rfl;rfl
   exact⟨_,C,a,j,rfl,g,by rw[b];exact h.self c Xh⟩
  .cases e
 .split at e
  .rename_i G w p b;split at e
   .rename_i I k;cases e;obtain⟨a,m,rfl,t,D⟩:=c.seq f p;have E:=FS b l;have z:=FR k D;subst E z;exact⟨_,B,a,m,rfl,t,FP b,FO k,h.self c Xh⟩
   .cases e
  .cases e
theorem tJ(a:X.A.units+64<vT):YM X.K (Zp X (y8 .In)) (Ya Z5):=FN zP (tL (by lia))
theorem tI(a:X.A.units+64<vT):YM X.K (Zp X (y8 .NotIn)) (Ya Z7):=FN zO (tK (by lia))
end
section
variable {X:Cx}
theorem tH(l:X.A.units+1<vT):Sk X (λx y H Q=>∃a v,x=.ref a/\XD H a y (Z9 v)/\Q v H):=by
 intro d e b s Z H x y v u Q I t n h p;obtain⟨a,z,rfl,g,q⟩:=h;obtain rfl:v=Value.ref a:=t;have m:=zr I g;have f:yZ (yX X.prog X.w) X.A (gO (.ref a) u) (EP X b Z Q) X.xe s:=zv l I g n λw A o j=>⟨z,H,o,j,q⟩
 refine yO ?_;refine yO (wpAny_specialOf m PySem.F.slot_dict_getitem.lookup ?_);have k:yZ (yX X.prog X.w) X.A (uC e Z5 (.ref a) u) (λr c=>yZ (yX X.prog X.w) X.A (letTemporaryGo d (.ref a) r >>= λ_=>pure r) (EP X b Z Q) X.xe c) X.xe s:=by rw[p];exact wpAny_operating (jH f (λr c i=>yO (wpAny_letTemporaryGo (yS i))) λ_ _ x=>x)
 exact yS (yO k)
def ZI:D->D->M D:=λx i S=>match x with
 |.dct n=>match dictAt S n i with
  |some (Z9 d)=>.ok d S
  |_=>.bad
 |.str z=>match i with
  |.int j=>match X0 z.cps.toList j with
   |some c=>if z.length<=lim then .ok (.str ⟨#[c]⟩) S else .bad
   |none=>.bad
  |_=>.bad
 |_=>match Q0 S x,i with
  |some a,.int j=>match X0 a j with
   |some d=>.ok d S
   |none=>.bad
  |_,_=>.bad
theorem RVs.at{K:yP}(r:RVs K H J ds vs)(e:X0 ds i=Z9 d):∃v,X0 vs i=Z9 v/\RV K H J d v:=by
 unfold X0 at e ⊢;rw[<- r.len];cases q:V6 ds.length i with
 |none=>rw[q]at e;cases e
 |some j =>
  rw[q]at e;obtain⟨v,b,a⟩:=r.get e;exact⟨v,b,a⟩
theorem tG(q:X.A.units+1<vT):YM X.K (KR X) ZI:=by
 intro x y S d G H J v u Q e f l i h;unfold ZI at e;split at e
 .rename_i n;split at e
  .rename_i s D;cases e;obtain⟨a,rfl,B⟩:=l;obtain⟨o,g,t,_⟩:=FQ f D B i;obtain⟨w,rfl,b⟩:=t _ rfl;exact⟨_,tH q,a,w,rfl,g,h.self f b⟩
  .cases e
 .rename_i z;split at e
  .rename_i j;split at e
   .rename_i c F;split at e
    .rename_i A;cases e;unfold RV at l i;subst l i;exact⟨_,zW,z,j,c,rfl,rfl,Wo A,F,h.self f Ww⟩
    .cases e
   .cases e
  .cases e
 .split at e
  .rename_i I j r;split at e
   .rename_i s C;cases e;obtain⟨a,m,rfl,k,E⟩:=f.seq l r;obtain⟨w,p,b⟩:=E.at C;unfold RV at i;subst i;rcases k with k|k
    .exact⟨_,zY,a,m,j,w,rfl,rfl,k,p,h.self f b⟩
    .exact⟨_,zX,a,m,j,w,rfl,rfl,k,p,h.self f b⟩
   .cases e
  .cases e
def Yv(xs:List D)(lo hi:yG):List D:=(xs.drop (HT.sIx xs.length 0 lo)).take (HT.sIx xs.length xs.length hi - HT.sIx xs.length 0 lo)
def YH:D->yG->yG->M D:=λx lo b S=>match x with
 |.tup a=>.ok (.tup (Yv a lo b)) S
 |.lst n=>match ZC S n with
  |some a=>.ok (.lst S.length) (S++[.lst (Yv a lo b)])
  |none=>.bad
 |.rol a=>.ok (.lst S.length) (S++[.lst (Yv a lo b)])
 |.str z=>if z.length<=lim then .ok (.str (Txt.slice z lo b)) S else .bad
 |_=>.bad
theorem RVs.cut{K:yP}(r:RVs K H J ds vs)(lo hi:yG):RVs K H J (Yv ds lo hi) (W1 vs lo hi):=by unfold Yv W1;rw[r.len];exact(r.drop _).take _
theorem tF:FX X.K (KQ X) YH:=by
 intro x lo j S d o H J v Q e f b h;unfold YH at e;split at e
 .cases e;obtain⟨p,c,rfl,q,g⟩:=b;exact⟨_,yk,p,c,rfl,q,λr t m sq=>h.oldT f m sq (g.cut lo j)⟩
 .split at e
  .rename_i s k;cases e;obtain⟨a,rfl,n⟩:=b;obtain⟨c,q,g⟩:=f.sq n k;exact⟨_,G8,a,c,rfl,q,λp i=>h.newL f i (g.cut lo j)⟩
  .cases e
 .cases e;unfold RV at b;obtain⟨p,c,rfl,q,g⟩:=b;exact⟨_,G8,p,c,rfl,q.sq,λp i=>h.newL f i (g.cut lo j)⟩
 .split at e
  .rename_i l;cases e;unfold RV at b;subst b;exact⟨_,vk,_,rfl,Wo l,h.self f Ww⟩
  .cases e
 .cases e
def Zt:List D->M D:=λb S=>match b with
 |[.str x]=>if x.length<=lim then .ok (.int x.length) S else .bad
 |[.dct n]=>.bad
 |[.ktp a]=>.ok (.int a.length) S
 |[x]=>match Q0 S x with
  |some a=>.ok (.int a.length) S
  |none=>.bad
 |_=>.bad
theorem RVs.one{K:yP}(h:RVs K H J [d] vs):∃v,vs=[v]/\RV K H J d v:=by obtain⟨v,c,rfl,b,a⟩:=h.cons_inv;rw[a.nil_inv];exact⟨v,rfl,b⟩
theorem RVs.two{K:yP}(h:RVs K H J [d,e] vs):∃v u,vs=[v,u]/\RV K H J d v/\RV K H J e u:=by obtain⟨v,f,rfl,c,a⟩:=h.cons_inv;obtain⟨u,rfl,b⟩:=a.one;exact⟨v,u,rfl,c,b⟩
theorem tE:Wx X.K (YG X (.builtin "len")) Zt:=by
 intro n S d l H J g Q e b f h;unfold Zt at e;split at e
 .split at e
  .rename_i j;cases e;obtain⟨v,rfl,r⟩:=f.one;subst r;exact⟨_,zN,_,rfl,Wo j,h.self b XN⟩
  .cases e
 .cases e
 .cases e;obtain⟨v,rfl,r⟩:=f.one;unfold RV at r;obtain⟨a,rfl,c⟩:=r;exact⟨_,G6,a,_,rfl,.inr c,by rw[qA6];exact h.self b XN⟩
 .split at e
  .rename_i m i;cases e;obtain⟨v,rfl,r⟩:=f.one;obtain⟨a,g,rfl,c,k⟩:=b.seq r i;exact⟨_,G6,a,g,rfl,c,by rw[<- k.len];exact h.self b XN⟩
  .cases e
 .cases e
def Ug:List D->M D:=λa S=>match a with
 |[.int i,.int j]=>.ok (.int (if j<i then j else i)) S
 |_=>.bad
def U7:List D->M D:=λa S=>match a with
 |[.int i,.int j]=>.ok (.int (if j>i then j else i)) S
 |_=>.bad
theorem tD(a:X.calm=Z7):Wx X.K (YG X (.builtin "min")) Ug:=by
 intro k S d j H J i Q e c f h;unfold Ug at e;split at e
 .cases e;obtain⟨v,u,rfl,g,b⟩:=f.two;subst g b;exact⟨_,AG a,_,_,rfl,h.self c XN⟩
 .cases e
theorem tB(a:X.calm=Z7):Wx X.K (YG X (.builtin "max")) U7:=by
 intro k S d j H J i Q e c f h;unfold U7 at e;split at e
 .cases e;obtain⟨v,u,rfl,g,b⟩:=f.two;subst g b;exact⟨_,AH a,_,_,rfl,h.self c XN⟩
 .cases e
def V4:List D->M D:=λb S=>match b with
 |[.tup a]=>.ok (.tup a) S
 |[.lst n]=>match ZC S n with
  |some a=>.ok (.tup a) S
  |none=>.bad
 |_=>.bad
theorem tw:Wx X.K (YG X (.type "tuple")) V4:=by
 intro t S d o H J n Q e c g h;unfold V4 at e;split at e
 .cases e;obtain⟨v,rfl,r⟩:=g.one;have m:=r;obtain⟨p,b,rfl,q,f⟩:=m;exact⟨_,G5,p,b,rfl,.inr ⟨Zb.of q,h.self c r⟩⟩
 .split at e
  .rename_i s i;cases e;obtain⟨v,rfl,r⟩:=g.one;obtain⟨a,rfl,k⟩:=r;obtain⟨b,q,f⟩:=c.sq k i;exact⟨_,G5,a,b,rfl,.inl ⟨q,λl j=>h.newT c j f⟩⟩
  .cases e
 .cases e
def VM:List D->M D:=λa S=>match a with
 |[.int i]=>.ok (.int i) S
 |[.bl b]=>.ok (.int (if b then 1 else 0)) S
 |[.str z]=>if z.length<=640 then(match PySem.intText? z with|some n=>.ok (.int n) S|none=>.bad)else .bad
 |_=>.bad
theorem tu:Wx X.K (YG X (.type "int")) VM:=by
 intro j S d i H J g Q e a b h;unfold VM at e;split at e
 .cases e;obtain⟨v,rfl,r⟩:=b.one;subst r;exact⟨_,Hq,.inl ⟨_,rfl,h.self a XN⟩⟩
 .cases e;obtain⟨v,rfl,r⟩:=b.one;subst r;exact⟨_,Hq,.inr ⟨_,rfl,h.self a XN⟩⟩
 .split at e
  .rename_i f;split at e
   .rename_i n c;cases e;obtain⟨v,rfl,r⟩:=b.one;unfold RV at r;subst r;exact⟨_,vj,_,_,rfl,c,f,h.self a XN⟩
   .cases e
  .cases e
 .cases e
def KI(S:ZU)(n:Nat):Option String:=match S[n]? with
 |some (.dk _)=>Z9 "dict"
 |_=>Z8
def KH(S:ZU):D->Option String
 |.non=>Z9 "NoneType"
 |.bl _=>Z9 "bool"
 |.int _=>Z9 "int"
 |.str _=>Z9 "str"
 |.tup _=>Z9 "tuple"
 |.lst n=>if(ZC S n).isSome then Z9 "list" else Z8
 |.dct n=>KI S n
 |_=>Z8
def Yo:List D->M D:=λa S=>match a with
 |[x,.ty T]=>match KH S x with
  |some t=>if T∈["bool","int","tuple","list","str","dict"]then .ok (.bl (GF t T)) S else .bad
  |none=>.bad
 |_=>.bad
theorem tm{K:yP}(d:SR K J S H)(e:KH S x=Z9 t)(r:RV K H J x v):UR K H v t/\t∈["NoneType","bool","int","str","tuple","list","dict"]:=by
 cases x with
 |non=>cases e;subst r;exact⟨.non,by decide⟩
 |bl b=>cases e;subst r;exact⟨.bl b,by decide⟩
 |int i=>cases e;subst r;exact⟨.int i,by decide⟩
 |str i=>cases e;subst r;exact⟨.str i,by decide⟩
 |tup h=>cases e;obtain⟨p,f,rfl,q,_⟩:=r;exact⟨.tup (Zb.of q),by decide⟩
 |lst n =>
  have e:(if(ZC S n).isSome then Z9 "list" else Z8)=Z9 t:=e;split at e
  .rename_i j;cases e;obtain⟨h,l⟩:=qH6.mp j;obtain⟨a,rfl,c⟩:=r;obtain⟨f,q,_⟩:=d.sq c l;exact⟨.lst q,by decide⟩
  .cases e
 |dct n =>
  have e:KI S n=Z9 t:=e;unfold KI at e;split at e
  .rename_i g k;cases e;obtain⟨a,rfl,c⟩:=r;obtain⟨o,m,_⟩:=d.get c k;exact⟨.dk m,by decide⟩
  .cases e
 |ty n=>cases e
 |rol n=>cases e
 |xc _=>cases e
 |ob _=>cases e
 |ktp _=>cases e
theorem tj:Wx X.K (YG X (.builtin "isinstance")) Yo:=by
 intro n S d m H J l Q e a k h;unfold Yo at e;split at e
 .rename_i x T;split at e
  .rename_i t b;split at e
   .rename_i f;cases e;obtain⟨v,u,rfl,i,j⟩:=k.two;subst j;obtain⟨g,c⟩:=tm a b i;exact⟨_,xY,v,t,T,_,rfl,g,xX X.K t c T f,h.self a Xh⟩
   .cases e
  .cases e
 .cases e
def Wh:List D->Option (List Bool)
 |[]=>Z9 []
 |.bl b::r=>(Wh r).map (b::·)
 |_::_=>Z8
theorem FM{K:yP}{H:Hp}{J:yC}:∀{ds:List D}{ns:List Bool}{vs:List V},Wh ds=Z9 ns->RVs K H J ds vs->vs=ns.map V.bl
 |[],ns,vs,e,r=>by cases e;rw[r.nil_inv];rfl
 |.bl i::ds,ns,vs,e,r=>by
  obtain⟨v,c,rfl,b,a⟩:=r.cons_inv;unfold Wh at e;cases q:Wh ds with
  |none=>rw[q]at e;cases e
  |some d =>
   rw[q]at e;cases e;subst b;rw[FM q a];rfl
 |.non::ds,ns,vs,e,r=>by cases e
 |.int _::ds,ns,vs,e,r=>by cases e
 |.str _::ds,ns,vs,e,r=>by cases e
 |.ty _::ds,ns,vs,e,r=>by cases e
 |.tup _::ds,ns,vs,e,r=>by cases e
 |.lst _::ds,ns,vs,e,r=>by cases e
 |.dct _::ds,ns,vs,e,r=>by cases e
 |.rol _::ds,ns,vs,e,r=>by cases e
 |.xc _::ds,ns,vs,e,r=>by cases e
 |.ob _::ds,ns,vs,e,r=>by cases e
 |.ktp _::ds,ns,vs,e,r=>by cases e
def W6(g:List Bool->Bool):List D->M D:=λb S=>match b with
 |[.tup ys]=>match Tb ys with
  |some a=>.ok (.bl (g (a.map (· != 0)))) S
  |none=>.bad
 |[.lst n]=>match (ZC S n).bind Wh with
  |some bs=>.ok (.bl (g bs)) S
  |none=>.bad
 |_=>.bad
theorem ti{id:String}(o:X1 X (.builtin id) (λvs H Q=>∃(p:yQ) (bs:List Bool),vs=[.ref p]/\Ys X.K H p (bs.map V.bl)/\Q (.bl (g bs)) H))(i:X1 X (.builtin id) (λvs H Q=>∃(p:yQ) (ns:yA),vs=[.ref p]/\Zb X.K H p (ns.map V.int)/\Q (.bl (g (ns.map (· != 0)))) H)):Wx X.K (YG X (.builtin id)) (W6 g):=by
 intro u S d s H J vs Q e c j h;unfold W6 at e;split at e
 .split at e
  .rename_i ns b;cases e;obtain⟨v,rfl,r⟩:=j.one;obtain⟨a,k,rfl,q,f⟩:=r;have z:=KL b f;subst z;exact⟨_,i,a,ns,rfl,Zb.of q,h.self c Xh⟩
  .cases e
 .split at e
  .rename_i bs b;cases e;obtain⟨t,m,n⟩:=qA0.mp b;obtain⟨v,rfl,r⟩:=j.one;obtain⟨a,rfl,l⟩:=r;obtain⟨k,q,f⟩:=c.sq l m;have z:=FM n f;subst z;exact⟨_,o,a,bs,rfl,q,h.self c Xh⟩
  .cases e
 .cases e
theorem X1.imp(h:X1 X f r)(w:∀vs H Q,r' vs H Q->r vs H Q):X1 X f r':=λa s Z H c d Q I b q=>h a s Z H c d Q I b (w _ _ _ q)
theorem tf(b:X.calm=Z7):Wx X.K (YG X (.builtin "all")) (W6 λbs=>bs.all id):=ti (yv b) ((xf b).imp λf H Q ⟨p,c,e,d,a⟩=>⟨p,c,e,d,by rw[qI9]at a;exact a⟩)
def WW(a:Int):yA->yA
 |[]=>[a]
 |b::r=>if a<=b then a::b::r else b::WW a r
def Ue:yA->yA
 |[]=>[]
 |a::r=>WW a (Ue r)
theorem KG(a:Int):∀l,(WW a l).Perm (a::l)
 |[]=>.refl _
 |b::r=>by
  unfold WW;split
  .exact .refl _
  .exact((KG a r).cons b).trans (.swap _ _ _)
theorem FL:∀l,(Ue l).Perm l
 |[]=>.refl _
 |a::r=>(KG a _).trans ((FL r).cons a)
theorem FK(a:Int):∀l:yA,l.Pairwise (·<=·)->(WW a l).Pairwise (·<=·)
 |[],_=>by simp[WW]
 |b::r,h=>by
  have f:=qG6.mp h;unfold WW;split
  .rename_i d;refine qG6.mpr ⟨λc e=>?_,h⟩;rcases qA8.mp e with rfl|e
   .exact d
   .exact Int.le_trans d (f.1 c e)
  .rename_i d;refine qG6.mpr ⟨λc e=>?_,FK a r f.2⟩;rcases qA8.mp ((KG a r).mem_iff.mp e)with rfl|e
   .lia
   .exact f.1 c e
theorem FJ:∀l:yA,(Ue l).Pairwise (·<=·)
 |[]=>.nil
 |a::r=>FK a _ (FJ r)
theorem sY(h:m.Perm l)(s:m.Pairwise (·<=·)):m=Ue l :=
 (h.trans (FL l).symm).eq_of_pairwise (λa b _ _ d c=>Int.le_antisymm d c) s (FJ l)
def NI:List D->M D:=λb S=>match b with
 |[x]=>match Q0 S x with
  |some a=>.ok (.lst S.length) (S++[.lst a])
  |none=>.bad
 |_=>.bad
theorem sX(p:X.calm=Z7):Wx X.K (YG X (.type "list")) NI:=by
 intro o S d m H J b Q e c k h;unfold NI at e;split at e
 .split at e
  .rename_i n f;cases e;obtain⟨v,rfl,r⟩:=k.one;obtain⟨a,b,rfl,i,j⟩:=c.seq r f;exact⟨_,zM,a,b,rfl,i,λl g=>h.newL c g j⟩
  .cases e
 .cases e
def R4:List D->M D:=λb S=>match b with
 |[.lst n]=>match (ZC S n).bind Tb with
  |some a=>if a.length<64 then .ok (.lst S.length) (S++[.lst ((Ue a).map D.int)])else .bad
  |none=>.bad
 |_=>.bad
theorem sW(B:X.calm=Z7)(s:X.A.units+64<vT):Wx X.K (YG X (.builtin "sorted")) R4:=by
 intro A S d u H J t Q e c p h;unfold R4 at e;split at e
 .split at e
  .rename_i n g;split at e
   .rename_i b;cases e;obtain⟨w,k,m⟩:=qA0.mp g;obtain⟨v,rfl,r⟩:=p.one;obtain⟨a,rfl,i⟩:=r;obtain⟨x,q,o⟩:=c.sq i k;have z:=KL m o;subst z;refine⟨_,xj,a,n,rfl,q,b,λl y b f j=>?_⟩;rw[sY f j];exact h.newL c b RVs.ints
   .cases e
  .cases e
 .cases e
def Wv(K:yP)(T:String)(r:V->List V->Hp->VK->Prop)(o:D->List D->M D):Prop:=∀x c S d b H J v a Q,o x c S=.ok d b->SR K J S H->RV K H J x v->RVs K H J c a->Yw K J H d b Q->r v a H Q
def YX(T:String)(x:D)(S:ZU):Bool:=match x with
 |.lst n=>decide (T = "list")&&(ZC S n).isSome
 |.dct n=>decide (T = "dict")&&(match S[n]? with|some (.dk _)=>Z7|some (.dt _)=>Z7|_=>Z5)
 |.int _=>decide (T = "int")
 |.str _=>decide (T = "str")
 |_=>Z5
theorem FI{K:yP}(i:SR K J S H)(h:YX T x S=Z7)(r:RV K H J x v):N6 K T v H:=by
 unfold YX at h;split at h
 .simp only[qB3,decide_eq_true_eq]at h;obtain⟨c,d⟩:=h;obtain⟨l,k⟩:=qH6.mp d;obtain⟨a,rfl,b⟩:=r;obtain⟨j,q,_⟩:=i.sq b k;exact .inl ⟨c,j,q⟩
 .simp only[qB3,decide_eq_true_eq]at h;obtain⟨c,d⟩:=h;obtain⟨a,rfl,b⟩:=r;split at d
  .rename_i f g;obtain⟨e,q,_⟩:=i.get b g;exact .inr (.inr (.inl ⟨c,.inl ⟨e,q⟩⟩))
  .rename_i f g;obtain⟨e,q,_⟩:=i.get b g;exact .inr (.inr (.inl ⟨c,.inr ⟨e,q⟩⟩))
  .cases d
 .subst r;exact(of_decide_eq_true h:T = "int")
 .subst r;exact(of_decide_eq_true h:T = "str")
 .cases h
def X9(T:String)(o:D->List D->M D)(a:C)(c:CA):C:=fun B=>Zi (a B) λx S=>if YX T x S then Zi (c B) (λb=>o x b) S else .bad
variable {o e:yV}{es:yE}{co:C}{ca:CA}{name:Str}{apos cpos:Pos}{T id:String}{m:D->List D->M D}
theorem Ud(K:dH T)(h:Slot T name id)(l:dX (.builtin id)=pure (.type "method_descriptor"))(F:Wv X.K T (WZ X id) m)(L:PE X o (ZD X.K co))(A:PA X (e::es) (YS X.K ca))
  (c:vB o name X.env (jU o X.env)=jU o X.env)
  (j:((vC cpos (y7 (e::es) X.env)).all (λx=>!x.1)&&(wF cpos (j6 [] X.env)).all (λx=>x.1.isSome)
   && decide ((e::es).length+([]:List vV).length+(if([]:List vV).isEmpty then 0 else 1)<30))=Z7)
  (b:(apos.endLine == cpos.line)=Z7) (G:y7 (e::es) X.env=(Z5,jU e X.env)::y7 es X.env) (a:(vC cpos (y7 es X.env)).any (·.1)=Z5) :
  PE X (.Call (.Attribute o name apos) (e::es) [] cpos) (ZD X.K (X9 T m co ca)):=(zJ K h l F8 L A c j b G a).weak (by
 rintro Z H Q ⟨J,B,S,d,z,O,s,e,y⟩;obtain⟨x,p,u,e⟩:=Zl e;split at e
 .rename_i hk;obtain⟨r,n,I,e⟩:=Zl e;refine⟨J,B,S,x,p,O,s,u,λv R w i g q=>⟨FI i hk q,w,B,p,r,n,i,s.up g,I,λt E P k f N=>?_⟩⟩;exact F x r n d z E P v t Q e k (RV.up f.tk f.ext _ _ q) N (y.shift (g.trans f k.nd))
 .cases e)
def UL(T:String)(o:D->List D->M D)(a:C):C:=fun B=>Zi (a B) λx S=>if YX T x S then o x [] S else .bad
theorem KC(r:dH T)(c:Slot T name id)(h:dX (.builtin id)=pure (.type "method_descriptor"))(p:Wv X.K T (WZ X id) m)(s:PE X o (ZD X.K co))
  (b:vB o name X.env (jU o X.env)=jU o X.env) (a:(apos.endLine == cpos.line)=Z7):PE X (.Call (.Attribute o name apos) [] [] cpos) (ZD X.K (UL T m co)):=(zK r c h F8 s b a).weak (by
 rintro Z H Q ⟨J,B,S,d,n,t,u,e,y⟩;obtain⟨x,i,k,e⟩:=Zl e;split at e
 .rename_i hk;exact⟨J,B,S,x,i,t,u,k,λv q l f g j=>⟨FI f hk j,p x [] i d n q l v [] Q e f j RVs.nil (y.shift g)⟩⟩
 .cases e)
def XB(g:List D->List D->Option (List D×D)):D->List D->M D:=λx b S=>match x with
 |.lst n=>match S[n]? with
  |some (.lst a)=>match g a b with
   |some (c,d)=>.ok d (S.set n (.lst c))
   |none=>.bad
  |_=>.bad
 |_=>.bad
theorem SR.putL{K:yP}(d:SR K J S H)(c:J[n]?=Z9 p)(a:H p=Z9 (.lst vs))(r:RVs K H J b ws):SR K J (S.set n (.lst b)) (ZE H p (.lst ws))/\ZH K J J H (ZE H p (.lst ws)) :=
 d.put c a (λ_ z=>by cases z) (λ_ _ z=>by cases z) ⟨ws,YU,RVs.up (PN a) ⟨[],by simp⟩ _ _ r⟩
theorem KB
  (h:∀(K:yP) H J ys xs a d vs us,g ys xs=Z9 (a,d)->RVs K H J ys vs->RVs K H J xs us->∃ws w,RVs K H J a ws/\RV K H J d w/\∀(p:yQ) (Q:VK),H p=Z9 (.lst vs)->Q w (ZE H p (.lst ws))->WZ X id (.ref p) us H Q):Wv X.K "list" (WZ X id) (XB g):=by
 intro x xs S d A H J v us Q e j u rs y;unfold XB at e;split at e
 .rename_i n;split at e
  .rename_i ys l;split at e
   .rename_i a z s;cases e;obtain⟨p,rfl,i⟩:=u;obtain⟨vs,f,t⟩:=j.lst i l;obtain⟨ws,w,k,q,c⟩:=h X.K H J ys xs a d vs us s t rs;obtain⟨r,b⟩:=j.putL i f k;exact c p Q f (y w _ J r b (RV.up b.tk b.ext _ _ q))
   .cases e
  .cases e
 .cases e
def Vt:List D->List D->Option (List D×D):=λa b=>match b with
 |[x]=>if a.length<lim then Z9 (a++[x],.non)else Z8
 |_=>Z8
theorem sV:Wv X.K "list" (WZ X "list.append") (XB Vt):=KB λK H J i j k d a l e b f=>by
 unfold Vt at e;split at e
 .split at e
  .rename_i h;cases e;obtain⟨v,rfl,g⟩:=f.one;exact⟨a++[v],.non,b.append (.cons g .nil),Td,λp Q c q=>⟨_,Lz,p,a,v,rfl,rfl,c,by rw[<- b.len];exact NK h,q⟩⟩
  .cases e
 .cases e
def Ta:List D->List D->Option (List D×D):=λa b=>match b with
 |[.int i,x]=>if a.length<1000/\0<=i/\i.toNat<=a.length then Z9 (a.take i.toNat++x::a.drop i.toNat,.non)else Z8
 |_=>Z8
theorem sU:Wv X.K "list" (WZ X "list.insert") (XB Ta):=KB λK H J s t w d b r e a k=>by
 unfold Ta at e;split at e
 .rename_i i x;split at e
  .rename_i f;cases e;obtain⟨n,y,l⟩:=f;obtain⟨v,u,rfl,g,h⟩:=k.two;subst g;have j:i=i.toNat:=by lia
   exact⟨b.take i.toNat++u::b.drop i.toNat,.non,(a.take _).append (.cons h (a.drop _)),Td,λp Q c q=>⟨_,yx,p,b,i.toNat,u,rfl,by rw[<- j],c,by rw[<- a.len];exact n,by rw[<- a.len];exact l,q⟩⟩
  .cases e
 .cases e
def VL:List D->List D->Option (List D×D):=λa b=>match b with
 |[]=>match a[a.length - 1]? with
  |some y=>Z9 (a.dropLast,y)
  |none=>Z8
 |_=>Z8
theorem RVs.dropLast{K:yP}(r:RVs K H J ds vs):RVs K H J ds.dropLast vs.dropLast:=by rw[qL4,qL4,r.len];exact r.take _
theorem sT:Wv X.K "list" (WZ X "list.pop") (XB VL):=KB λK H J k l n d b j e a i=>by
 unfold VL at e;split at e
 .split at e
  .rename_i y g;cases e;have:=i.nil_inv;subst this;obtain⟨v,f,h⟩:=a.get g;exact⟨b.dropLast,v,a.dropLast,h,λp Q c q=>⟨_,zG,p,b,v,rfl,rfl,c,by rw[<- a.len];exact f,q⟩⟩
  .cases e
 .cases e
def Uc:D->List D->M D:=λx b S=>match x,b with
 |.lst n,[y]=>match S[n]?,YR 40 S y with
  |some (.lst a),Z9 f=>match a.mapM (YR 40 S)with
   |some c=>match c.findIdx? (λd=>PyData.eqv d f)with
    |some j=>if a.length<1000000 then .ok (.int (j:Nat)) S else .bad
    |none=>.bad
   |none=>.bad
  |_,_=>.bad
 |_,_=>.bad
theorem sS(q:X.A.units+64<vT):Wv X.K "list" (WZ X "list.index") Uc:=by
 intro x U S d P H J v R Q e a O rs y;unfold Uc at e;split at e
 .rename_i n z;split at e
  .rename_i B i I F;split at e
   .rename_i c b;split at e
    .rename_i j k;split at e
     .rename_i A;cases e;obtain⟨p,rfl,f⟩:=O;obtain⟨h,w,l⟩:=a.lst f I;obtain⟨u,rfl,s⟩:=rs.one;obtain⟨K,E,V⟩:=UM a 40 z u i F s;obtain⟨G,t,N⟩:=PK (λd v p e r=>UM a 40 d v p e r) B h c b l;rw[List.findIdx?_eq_some_iff_getElem]at k;obtain⟨GI,GH,GG⟩:=k;refine⟨_,xM q,p,h,u,_,_,i,c,j,rfl,rfl,w,K,⟨E,by lia⟩,G,λd g=>?_,by rw[<- l.len];exact A,⟨c[j],qA7 GI,GH⟩,λm d f g=>?_,y.self a XN⟩
      .have:=KJ t N d g;exact⟨this.1,by lia⟩
      .obtain⟨W,L⟩:=qA3.mp g;have:=GG m f;rw[L]at this;simpa using this
     .cases e
    .cases e
   .cases e
  .cases e
 .cases e
def PH:D->List D->M D:=λx a S=>match x,a with
 |.int i,[]=>.ok (.int ((Builtin.Int.intBits i:Nat):Int)) S
 |_,_=>.bad
theorem sO:Wv X.K "int" (WZ X "int.bit_length") PH:=by
 intro x f S d c H J v g Q e a b rs y;unfold PH at e;split at e
 .cases e;subst b;exact⟨_,xb,_,rfl,rs.nil_inv,y.self a XN⟩
 .cases e
theorem Y0.merge{K:yP}{H:Hp}{J:yC}:∀{c:List (ZA×D)}{ws:List (ZA×V)}{kvs:List (ZA×D)}{us:List (ZA×V)},Y0 K H J c ws->Y0 K H J kvs us->Y0 K H J (WX kvs c) (Wp us ws)
 |[],ws,kvs,us,h,g=>by
  have:ws=[]:=by have:=h.1;cases ws with|nil=>rfl|cons a b=>simp at this
  subst this;exact g
 |p::c,ws,kvs,us,h,g=>by obtain⟨q,d,rfl,f,j,i⟩:=h.cons_inv;show Y0 K H J (WX (Zu kvs p.1 p.2) c) (Wp (YN us q.1 q.2) d);rw[<- f];exact Y0.merge i (g.put j)
def R3(S:ZU)(n:Nat):Option (List (ZA×D)):=match S[n]? with
 |some (.dk a)=>Z9 a
 |some (.fk a)=>Z9 a
 |_=>Z8
theorem sN{K:yP}(f:SR K J S H)(e:R3 S n=Z9 kvs)(g:J[n]?=Z9 a):∃ws,Rd H a (.dK ws)/\Y0 K H J kvs ws:=by
 unfold R3 at e;split at e
 .rename_i b;cases e;obtain⟨ws,d,c⟩:=f.get g b;exact⟨ws,.inl d,c⟩
 .rename_i b;cases e;obtain⟨o,ws,d,c⟩:=f.get g b;exact⟨ws,.inr ⟨o,d⟩,c⟩
 .cases e
def Ub:D->List D->M D:=λx c S=>match x,c with
 |.dct n,[.dct m]=>match S[n]?,R3 S m with
  |some (.dk b),Z9 a=>if n≠m/\b.length+a.length<=lim then .ok .non (S.set n (.dk (WX b a)))else .bad
  |_,_=>.bad
 |_,_=>.bad
theorem sM:Wv X.K "dict" (WZ X "dict.update") Ub:=by
 intro x L S d I H J v K Q e h G rs y;unfold Ub at e;split at e
 .rename_i n m;split at e
  .rename_i j c A hk;split at e
   .rename_i p;cases e;obtain⟨a,rfl,g⟩:=G;obtain⟨u,rfl,B⟩:=rs.one;obtain⟨b,rfl,s⟩:=B;obtain⟨q,k,t⟩:=h.get g A;obtain⟨r,i,f⟩:=sN h hk s;have l:a≠b:=λz=>by subst z;exact p.1 ((qH9 (qA3.mp g).1 h.nd).mp (g.trans s.symm))
    have F:TF X.K H (ZE H a (.dK (Wp q r))):=Sb k (λ_ z=>by cases z) (λ_ _ z=>by cases z);obtain⟨E,w⟩:=h.put (o':=.dk (WX j c)) g k (λ_ z=>by cases z) (λ_ _ z=>by cases z) ⟨_,YU,(f.merge t).up F ⟨[],by simp⟩⟩;exact⟨_,wi,a,b,q,r,rfl,rfl,l,k,i,by rw[<- t.len,<- f.len];exact Wo p.2,y _ _ J E w Td⟩
   .cases e
  .cases e
 .cases e
def Wg:List D->Option (List (ZA×D))
 |[]=>Z9 []
 |.tup [k,v]::r=>match VN k,Wg r with
  |some q,Z9 a=>Z9 ((q,v)::a)
  |_,_=>Z8
 |_=>Z8
theorem FH{K:yP}{H:Hp}{J:yC}:∀{ds:List D}{ps:List (ZA×D)}{vs:List V},Wg ds=Z9 ps->RVs K H J ds vs->∃c,K5 H vs c/\Y0 K H J ps c
 |[],ps,vs,e,r=>by cases e;rw[r.nil_inv];exact⟨[],.nil,.nil⟩
 |d::ds,ps,vs,e,r=>by
  obtain⟨v,y,rfl,j,u⟩:=r.cons_inv;unfold Wg at e;split at e
  .rename_i q;cases q
  .rename_i k x A q;cases q;split at e
   .rename_i q h i s;cases e;obtain⟨c,a,b⟩:=FH s u;obtain⟨p,w,rfl,f,g⟩:=j;obtain⟨z,n,rfl,t,l⟩:=g.two;rw[R5 i t]at f;exact⟨(q,n)::c,.cons ⟨p,rfl,f⟩ a,Y0.cons l b⟩
   .cases e
  .cases e
def PF:List D->M D:=λb S=>match b with
 |[.lst n]=>match S[n]? with
  |some (.lst a)=>match Wg a with
   |some c=>if a.length<=lim then .ok (.dct S.length) (S++[.dk (WX [] c)])else .bad
   |none=>.bad
  |_=>.bad
 |_=>.bad
theorem sL(s:X.calm=Z7):Wx X.K (YG X (.type "dict")) PF:=by
 intro F S d B H J A Q e b y h;unfold PF at e;split at e
 .split at e
  .rename_i E i;split at e
   .rename_i u t;split at e
    .rename_i j;cases e;obtain⟨v,rfl,r⟩:=y.one;obtain⟨a,rfl,n⟩:=r;obtain⟨l,g,c⟩:=b.get n i;obtain⟨w,q,z⟩:=FH t c;refine⟨_,wa s,a,l,w,rfl,g,q,by rw[<- c.len];exact Wo j,λp f=>?_⟩;obtain⟨x,k⟩:=b.push (o':=.dk (WX [] u)) f ⟨_,YU,(z.merge Y0.nil).up (R9 f) ⟨[p],rfl⟩⟩;exact h _ _ _ x k (⟨p,rfl,by rw[<- b.len,qA5 (qA4 _)];simp⟩)
    .cases e
   .cases e
  .cases e
 .cases e
def XM:D->D->D->ZU->Option ZU:=λx i v S=>match x with
 |.lst n=>match S[n]?,i with
  |some (.lst b),.int k=>match V6 b.length k with
   |some j=>Z9 (S.set n (.lst (b.set j v)))
   |none=>Z8
  |_,_=>Z8
 |.dct n=>match S[n]?,VN i with
  |some (.dk a),Z9 k=>if a.length<lim then Z9 (S.set n (.dk (Zu a k v)))else Z8
  |_,_=>Z8
 |_=>Z8
theorem sJ(d:X.A.units+1<vT):Vk X (λo i v H Q=>∃a b,o=.ref a/\Vg H a i v b/\Q b):=by intro c s Z H o i v f p u Q I n l k h;obtain⟨a,b,rfl,g,q⟩:=h;obtain rfl:f=Value.ref a:=n;exact zt d I g l k λr j=>⟨b,j,q⟩
theorem sI(B:X.A.units+1<vT)(e:XM x i v S=Z9 t)(d:SR X.K J S H)(A:RV X.K H J x s)(w:RV X.K H J i r)(u:RV X.K H J v q)(y:∀f ,SR X.K J t f->ZH X.K J J H f->Q f):F7 X s r q H Q:=by
 unfold XM at e;split at e
 .split at e
  .rename_i L k l;split at e
   .rename_i j K;cases e;obtain⟨p,rfl,b⟩:=A;subst w;obtain⟨E,a,c⟩:=d.lst b l;obtain⟨n,g⟩:=d.putL b a (c.set u j);exact⟨_,zT,p,E,k,j,rfl,rfl,a,by rw[<- c.len];exact K,y _ n g⟩
   .cases e
  .cases e
 .split at e
  .rename_i h k l hk;split at e
   .rename_i F;cases e;obtain⟨p,rfl,b⟩:=A;obtain⟨G,a,c⟩:=d.get b l;have z:=R5 hk w;subst z;have I:TF X.K H (ZE H p (.dK (YN G k q))):=Sb a (λ_ z=>by cases z) (λ_ _ z=>by cases z);obtain⟨n,g⟩:=d.put (o':=.dk (Zu h k v)) b a (λ_ z=>by cases z) (λ_ _ z=>by cases z) ⟨_,YU,(c.put u).up I ⟨[],by simp⟩⟩;exact⟨_,sJ B,p,_,rfl,Vg.k a (by rw[<- c.len];exact NK F),y _ n g⟩
   .cases e
  .cases e
 .cases e
end
inductive RS where
 |bad|nx (B:ZR) (S:ZU)| rt (d:D) (S:ZU)| bk (B:ZR) (S:ZU)| ct (B:ZR) (S:ZU)| er (c:Str) (S:ZU)
abbrev CS:=ZR->ZU->RS
def EX(X:Cx):XK:=λC _ c=>(∀(a:yD) (Z:St) (H:Hp) (s:yR) (e T:yQ) (b:yR),ZP X a Z H s->Th b.heap e T C->s.heap.get? e=Z8->s.heap.get? T=Z8->b.os=s.os->wO b.gens->Un (X5 X.stack) [] H c s.heap b.heap->YB X.prog X.w c b.heap->c e=Z8->c T=Z8->X.xe (.ref e) b) /\
 (∀(a:yD) (Z:St) (s:yR) (f:jB) (e D:yQ) (g:yB),C=.ref D->ZP X a Z c s->qO7 s.heap f e (.ref D) g->X.xe (.ref e) { s with heap:=f }) /\
 ∀(a:yD) (Z:St) (H:Hp) (s:yR) (e T:yQ) (b:yR) (d:yC),ZP X a Z H s->Wy b.heap e T C->(e∈d∨s.heap.get? e=Z8)->(T∈d∨s.heap.get? T=Z8)->b.os=s.os->wO b.gens->Un (X5 X.stack) d H c s.heap b.heap->PQ X a d->YB X.prog X.w c b.heap->c e=Z8->c T=Z8->X.xe (.ref e) b
theorem FG:Wm (Xj X.prog X.w) X (EX X):=by intro b Z H s n k I h;obtain⟨e,T,C,m,rfl,j,ne,d,g,a,un,c,l,i,f⟩:=h;exact f.1 b Z H s e T k I j ne d g a un c l i
theorem sH:KW X (EX X):=λa Z H s f e C b I c d=>d.2.1 a Z s f e C b rfl I c
theorem sG(o:Wz X E){C:yT}(h:E C Z8 H'):EX X C Z8 H':=by refine⟨λa Z H s e T k I i ne d f b un c j g=>uZ o a Z H s _ k I ⟨e,T,C,H',rfl,i,ne,d,f,b,un,c,j,g,h⟩,λa Z s n e D l p I m=>?_,λa Z H s e T k r I i ne d f b un q c j g=>uP o I i ne d f b un q c j g h⟩;subst p;exact uY o a Z H' s n e D l I m h
def X8(X:Cx)(J:yC)(H:Hp)(c:Str)(d:ZU):Prop:=∀a b,SR X.K b d a->ZH X.K J b H a->∀C,X.mg c=Z9 (.ref C)->EX X (.ref C) Z8 a
theorem X8.shift(h:X8 X J H c S')(st:ZH X.K J b H a):X8 X b a c S':=λf e d g=>h f e d (st.trans g d.nd)
def Ua(X:Cx)(J:yC)(H:Hp)(E:Xk):RS->Prop
 |.bad=>False
 |.er c e=>X8 X J H c e
 |.nx g e=>∀f a b,SR X.K b e a->ZH X.K J b H a->RE X.K a b g f->E.nx f a
 |.bk g e=>∀f a b,SR X.K b e a->ZH X.K J b H a->RE X.K a b g f->E.bk f a
 |.ct g e=>∀f a b,SR X.K b e a->ZH X.K J b H a->RE X.K a b g f->E.ct f a
 |.rt d e=>Yw X.K J H d e E.rt
inductive Zo(X:Cx)(c:CS)(E:Xk)(Z:St)(H:Hp):Prop
 |mk (J:yC) (B:ZR) (S:ZU) (sr:SR X.K J S H) (re:RE X.K H J B Z) (y:Ua X J H E (c B S))
theorem Ua.shift(h:Ua X J H E r)(st:ZH X.K J j H i):Ua X j i E r:=by
 cases r with
 |bad=>exact h
 |er _ _=>exact X8.shift h st
 |nx B S=>exact fun g b c a f e=>h g b c a (st.trans f a.nd) e
 |bk B S=>exact fun g b c a f e=>h g b c a (st.trans f a.nd) e
 |ct B S=>exact fun g b c a f e=>h g b c a (st.trans f a.nd) e
 |rt d S=>exact Yw.shift h st
def ZL:CS:=fun B S=>.nx B S
def R0:CS:=fun B S=>.bk B S
def RZ:CS:=fun B S=>.ct B S
def X7:CS:=λ_ _=>.bad
def Kz:CS:=λ_ S=>.rt .non S
def ZG(c:C):CS:=fun B S=>match c B S with
 |.ok d a=>.rt d a
 |.bad=>.bad
 |.er _ _=>.bad
def Wf(c:C):CS:=fun B S=>match c B S with
 |.ok _ a=>.nx B a
 |.bad=>.bad
 |.er _ _=>.bad
def ZV(a b:CS):CS:=fun B S=>match a B S with
 |.nx c d=>b c d
 |r=>r
def Zj(t:CT)(a b:CS):CS:=fun B S=>match t B S with
 |.ok k c=>if k then a B c else b B c
 |.bad=>.bad
 |.er _ _=>.bad
abbrev G:=D->ZR->M ZR
def ZJ(c:C)(g:G):CS:=fun B S=>match c B S with
 |.ok d e=>match g d B e with
  |.ok b a=>.nx b a
  |.bad=>.bad
  |.er _ _=>.bad
 |.bad=>.bad
 |.er _ _=>.bad
section
variable {X:Cx}{e a b tg:yV}{ce ca cb:C}{pos:Pos}
theorem sF:PS X (.Pass pos) (Zo X ZL):=BE.weak λE Z H ⟨J,B,S,c,d,p⟩=>p Z H J c (ZH.refl _ _ _) d
theorem sE:PS X (.Break pos) (Zo X R0):=BD.weak λE Z H ⟨J,B,S,c,d,p⟩=>p Z H J c (ZH.refl _ _ _) d
theorem sD:PS X (.Continue pos) (Zo X RZ):=BC.weak λE Z H ⟨J,B,S,c,d,p⟩=>p Z H J c (ZH.refl _ _ _) d
theorem FF{st:jV}:PS X st (Zo X X7):=Bv.weak λE Z H ⟨J,B,S,c,d,p⟩=>p
theorem sC:PS X (.Return Z8 pos) (Zo X Kz):=By.weak λE Z H ⟨J,B,S,c,d,p⟩=>p _ H J c (ZH.refl _ _ _) Td
theorem Ky(he:PE X e (ZD X.K ce)):PS X (.Return (Z9 e) pos) (Zo X (ZG ce)):=(HE he).weak (by
 rintro E Z H ⟨J,B,S,c,f,p⟩;unfold ZG at p;split at p
 .rename_i d g h;exact⟨J,B,S,d,g,c,f,h,p⟩
 .exact False.elim p
 .exact False.elim p)
theorem sA(he:PE X e (ZD X.K ce))(k:wI e Z8 pos.line X.env=pure Z5):PS X (.Expr e pos) (Zo X (Wf ce)):=(HG he k).weak (by
 rintro E Z H ⟨J,B,S,m,g,p⟩;unfold Wf at p;split at p
 .rename_i d j h;exact⟨J,B,S,d,j,m,g,h,λv l i f c n=>p Z l i f c (g.up c)⟩
 .exact False.elim p
 .exact False.elim p)
theorem NH:XH X [] (Zo X ZL):=BK.weak λE Z H ⟨J,B,S,c,d,p⟩=>p Z H J c (ZH.refl _ _ _) d
theorem RY{st:jV}{ZM:List jV}(k:PS X st (Zo X g))(m:XH X ZM (Zo X h)):XH X (st::ZM) (Zo X (ZV g h)):=(BJ k m).weak (by
 rintro E Z H ⟨J,B,S,j,o,p⟩;refine⟨J,B,S,j,o,?_⟩;unfold ZV at p;revert p;cases g B S with
 |nx n i=>exact λp r q l d f c=>⟨l,n,i,d,c,p.shift f⟩
 |bad=>exact λp=>p
 |er _ _=>exact λp=>p
 |rt _ _=>exact λp=>p
 |bk _ _=>exact λp=>p
 | ct _ _=>exact λp=>p)
theorem FE(o:PT X t (YY X.K j))(r:XH X l (Zo X m))(s:XH X bs (Zo X n)):PS X (.If t l bs pos) (Zo X (Zj j m n)):=(Bx o r s).weak (by
 rintro E Z H ⟨J,B,S,q,g,p⟩;unfold Zj at p;split at p
 .rename_i k f h;refine⟨J,B,S,k,f,q,g,h,λu i d c=>?_⟩;cases k with
  |true=>rw[if_pos rfl]at p ⊢;exact⟨i,B,f,d,g.up c,p.shift c⟩
  |false=>rw[if_neg qB0]at p ⊢;exact⟨i,B,f,d,g.up c,p.shift c⟩
 .exact False.elim p
 .exact False.elim p)
inductive Xg(K:yP)(g:G)(v:V)(Z:St)(H:Hp)(Q:St->Hp->Prop):Prop
 |mk (J:yC) (B:ZR) (S:ZU) (d:D) (B':ZR) (S':ZU) (sr:SR K J S H) (re:RE K H J B Z) (rv:RV K H J d v) (e:g d B S=.ok B' S') (y:∀Z' H' J',SR K J' S' H'->ZH K J J' H H'->RE K H' J' B' Z'->Q Z' H')
theorem PG.weak(h:PG X tg t)(w:∀v Z H Q,t' v Z H Q->t v Z H Q):PG X tg t':=λc s Z H v u Q I r q=>h c s Z H v u Q I r (w v Z H Q q)
def gN(i:Nat):G:=λd B S=>.ok (B.set i (Z9 d)) S
theorem FD(h:PG X (.Name x pos) (Ss i)):PG X (.Name x pos) (Xg X.K (gN i)):=h.weak (by
 rintro v Z H Q ⟨J,B,S,d,j,k,c,f,g,e,y⟩;unfold gN at e;cases e;exact y _ H J c (ZH.refl _ _ _) (f.set g i))
def gS(f c:C):G:=λd B=>Zi (f B) λo=>Zi (c B) λi S=>match XM o i d S with
 |some g=>.ok B g
 |none=>.bad
theorem sx(q:X.A.units+1<vT)(D:PE X a (ZD X.K ca))(hi:PE X b (ZD X.K cb))(t:∀v,gE (.Subscript a b pos) X.env v=(do
   let h <- wJ [v] (jU a X.env)
   let l <- wJ [v,h] (jU b X.env)
   gM pos
   wJ [v,h,l] (uF h l v)
   release [v,h,l] [])):PG X (.Subscript a b pos) (Xg X.K (gS ca cb)):=(Bu D hi ux t).weak (by
 rintro v Z H Q ⟨J,B,S,d,P,L,G,n,u,e,y⟩;obtain⟨x,o,r,e⟩:=Zl e;obtain⟨z,p,A,e⟩:=Zl e;split at e
 .rename_i O E;cases e;refine⟨J,B,S,x,o,G,n,r,λh N s m j w=>⟨s,B,o,z,p,m,n.up j,A,λl M K k g F=>?_⟩⟩;have c:=j.trans g k.nd;refine sI q E k (RV.up g.tk g.ext _ _ w) F (RV.up c.tk c.ext _ _ u) λI f i=>?_;exact y Z I K f (c.trans i f.nd) (n.up (c.trans i f.nd))
 .cases e)
def SZ:List G->List D->ZR->M ZR
 |[],[]=>fun B=>ret B
 |g::f,d::c=>fun B=>Zi (g d B) fun h=>SZ f c h
 |_,_=>λ_=>bad
def gT(f:List G):G:=λd B=>match d with
 |.tup c=>SZ f c B
 |_=>bad
inductive PD(K:yP)(gs:List G)(vs:List V)(Z:St)(H:Hp)(Q:St->Hp->Prop):Prop
 |mk (J:yC) (B:ZR) (S:ZU) (ds:List D) (B':ZR) (S':ZU) (sr:SR K J S H) (re:RE K H J B Z) (rv:RVs K H J ds vs) (e:SZ gs ds B S=.ok B' S') (y:∀Z' H' J',SR K J' S' H'->ZH K J J' H H'->RE K H' J' B' Z'->Q Z' H')
theorem VU.weak(h:VU X es t)(w:∀v Z H Q,t' v Z H Q->t v Z H Q):VU X es t':=λc s Z H v u Q I r q=>h c s Z H v u Q I r (w v Z H Q q)
theorem sv:VU X [] (PD X.K []):=HC.weak (by
 rintro v Z H Q ⟨J,B,S,c,i,j,f,g,h,e,y⟩;cases c with
 |nil =>
  obtain⟨rfl,rfl⟩:=YA e;exact⟨h.nil_inv,y Z H J f (ZH.refl _ _ _) g⟩
 | cons d c=>cases e)
theorem su(F:PG X e (Xg X.K g))(I:VU X es (PD X.K n))(A:(jM (e::es) X.env).map (·.2)=gE e X.env::(jM es X.env).map (·.2)):VU X (e::es) (PD X.K (g::n)):=(HB F I A).weak (by
 rintro v Z H Q ⟨J,B,S,i,K,r,E,M,x,e,y⟩;cases i with
 |nil=>cases e
 |cons d i =>
  obtain⟨o,m,p,e⟩:=Zl e;obtain⟨u,s,rfl,z,D⟩:=x.cons_inv;refine⟨u,s,rfl,J,B,S,d,o,m,E,M,z,p,fun O N q h c j=>?_⟩;exact⟨q,o,m,i,K,r,h,j,RVs.up c.tk c.ext _ _ D,e,fun w t L f k l=>y w t L f (c.trans k f.nd) l⟩)
theorem sm:∀{ds:List D}{B B':ZR}{S f:ZU},SZ c ds B S=.ok B' f->ds.length=c.length:=by
 induction c with
 |nil=>intro ds B B' S f e;cases ds with|nil=>rfl|cons _ _=>cases e
 |cons g c h =>
  intro ds B B' S f e;cases ds with
  |nil=>cases e
  |cons d ds =>
   obtain⟨j,k,i,e⟩:=Zl e;rw[qB6,qB6,h e]
theorem sk(t:X.calm=Z7)(h:VU X es (PD X.K f))(n:(jM es X.env).length=f.length)(c:(jM es X.env).findIdx? (·.1)=Z8):PG X (.Tuple es k pos) (Xg X.K (gT f)) :=
 (HA t h n c).weak (by
 rintro v Z H Q ⟨J,B,S,d,r,l,o,s,g,e,y⟩;unfold gT at e;split at e
 .rename_i m;unfold RV at g;obtain⟨p,j,rfl,q,i⟩:=g;exact⟨p,j,rfl,Zb.of q,by rw[<- i.len];exact sm e,J,B,S,m,r,l,o,s,i,e,y⟩
 .cases e)
theorem NG(he:PE X e (ZD X.K ce))(D:PG X tg (Xg X.K g))(t:gY [tg] e pos.line X.env=pure Z5)(w:jS [tg] e X.env=pure Z8)(x:(jM [tg] X.env).map (·.2)=[gE tg X.env]):PS X (.Assign [tg] e pos) (Zo X (ZJ ce g)):=(Hz he D t w x).weak (by
 rintro E Z H ⟨J,B,S,u,m,p⟩;unfold ZJ at p;split at p
 .rename_i d l h;split at p
  .rename_i z n y;refine⟨J,B,S,d,l,u,m,h,λv F o i c s=>⟨o,B,l,d,z,n,i,m.up c,s,y,fun r q A f j k=>?_⟩⟩;exact p r q A f (c.trans j f.nd) k
  .exact False.elim p
  .exact False.elim p
 .exact False.elim p
 .exact False.elim p)
theorem sj(h:PS X (.Assign [.Name x pos'] e pos) (Vj (ZD X.K ce) (Ss i))):PS X (.Assign [.Name x pos'] e pos) (Zo X (ZJ ce (gN i))):=h.weak (by
 rintro E Z H ⟨J,B,S,n,g,p⟩;unfold ZJ at p;split at p
 .rename_i d k h;exact⟨J,B,S,d,k,n,g,h,λv m j f c l=>p _ m j f c ((g.up c).set l i)⟩
 .exact False.elim p
 .exact False.elim p)
def Xu(i j:Nat)(a b:C):CS:=fun B S=>match a B S with
 |.ok x d=>match b B d with
  |.ok y c=>.nx ((B.set i (Z9 x)).set j (Z9 y)) c
  |.bad=>.bad
  |.er _ _=>.bad
 |.bad=>.bad
 |.er _ _=>.bad
theorem sh{m k2 f}(W:X.calm=Z7)(V:X.N.Nodup)(hi:X.N[i]?=Z9 x)(U:X.N[j]?=Z9 y)(k:i≠j)
  (O:X.env.scope.names.lookup x=Z9 .local) (F:X.env.scope.names.lookup y=Z9 .local) (E:PE X a (ZD X.K ca)) (N:PE X b (ZD X.K cb)) (A:y7 [a,b] X.env=(Z5,jU a X.env)::y7 [b] X.env) (sb:y7 [b] X.env=(Z5,jU b X.env)::y7 [] X.env)
  (Q:X.env.scope.kind=.function->jS [.Tuple [.Name x n,.Name y o] m pt] (.Tuple [a,b] k2 f) X.env=pure (Z9 [x,y])) :
  PS X (.Assign [.Tuple [.Name x n,.Name y o] m pt] (.Tuple [a,b] k2 f) pos) (Zo X (Xu i j ca cb)):=by
 intro g s Z H D I h;refine Bt W V hi U k O F (UN E (UN N Te sb) A) (Q I.ok.kind) rfl g s Z H D I ?_;obtain⟨J,B,S,P,q,p⟩:=h;unfold Xu at p;split at p
 .rename_i d G R;split at p
  .rename_i r t T;refine⟨J,B,S,[d,r],t,P,q,?_,λY M z l c L=>?_⟩
   .show Zi (ca B) _ S=_;unfold Zi;rw[R];show Zi (Zi (cb B) _) _ G=_;unfold Zi;rw[T];rfl
   .obtain⟨v,u,rfl,K,w⟩:=L.two;exact⟨v,u,rfl,p _ M z l c (((q.up c).set K i).set w j)⟩
  .exact False.elim p
  .exact False.elim p
 .exact False.elim p
 .exact False.elim p
def T9:Nat->CT->CS->CS
 |0,_,_=>λ_ _=>.bad
 |k+1,t,b=>fun B S=>match t B S with
  |.ok Z7 f=>match b B f with
   |.nx c d=>T9 k t b c d
   |.ct c d=>T9 k t b c d
   |.bk c d=>.nx c d
   |r=>r
  |.ok Z5 f=>.nx B f
  |.bad=>.bad
  |.er _ _=>.bad
theorem sg(k:Nat)(L:lC (yX X.prog X.w) X.A X.env X.xe)(N:PT X t (YY X.K ct))(O:XH X body (Zo X q)):PS X (.While t body [] pos) (Zo X (T9 k ct q)):=(Br L N O).weak (by
 rintro E T K ⟨A,R,Q,x,D,M⟩;refine⟨λm Z H=>∃J B S,SR X.K J S H/\ZH X.K A J K H/\RE X.K H J B Z/\Ua X J H E (T9 m ct q B S),⟨k,A,R,Q,x,ZH.refl _ _ _,D,M⟩,?_⟩;rintro m Z H ⟨J,B,S,G,P,v,p⟩;cases m with
 |zero=>exact False.elim p
 |succ m =>
  unfold T9 at p;split at p
  .rename_i r h;refine⟨J,B,S,Z7,r,G,v,h,λF w j c=>?_⟩;refine⟨fun I n=>∃J B S,SR X.K J S n/\ZH X.K A J K n/\RE X.K n J B I/\Ua X J n E (T9 m ct q B S),fun I n h=>⟨m,qG4 m,h⟩,w,B,r,j,v.up c,?_⟩;have l:=P.trans c j.nd;revert p;cases q B r with
   |nx u o=>exact λp z y s f g i=>⟨s,u,o,f,l.trans g f.nd,i,p.shift (c.trans g f.nd)⟩
   |ct u o=>exact λp z y s f g i=>⟨s,u,o,f,l.trans g f.nd,i,p.shift (c.trans g f.nd)⟩
   |bk u o=>exact λp z y s f g i=>p z y s f (c.trans g f.nd) i
   |rt d o=>exact λp=>Yw.shift p c
   |bad=>exact λp=>p
   |er _ _=>exact λp=>X8.shift p c
  .rename_i r h;refine⟨J,B,S,Z5,r,G,v,h,λF w j c=>?_⟩;dsimp only;rw[if_neg qB0];exact p Z F w j c (v.up c)
  .exact False.elim p
  .exact False.elim p)
abbrev XX:=List (Nat×List D)
def Ye(w:XX)(S:ZU):Prop:=∀p∈w,ZC S p.1=Z9 p.2
abbrev CI:=ZR->M (List D×XX)
structure Xf(K:yP)(JJ:It)(items:List D)(w:XX)(J0:yC)(H0:Hp):Prop where
 go:∀(i:Nat) H J S,SR K J S H->ZH K J0 J H0 H->Ye w S->i<items.length->JJ.go i H
 yld:∀(i:Nat) H J S x H',SR K J S H->ZH K J0 J H0 H->Ye w S->i<items.length->JJ.yld i H x H'->∃d,items[i]?=Z9 d/\SR K J S H'/\ZH K J J H H'/\RV K H' J d x
 stop:∀H J S,SR K J S H->ZH K J0 J H0 H->Ye w S->JJ.stop items.length H
inductive YQ(K:yP)(it:CI)(Z:St)(H:Hp)(R:It->Hp->Prop):Prop
 |mk (J:yC) (B:ZR) (S:ZU) (items:List D) (w:XX) (S':ZU) (sr:SR K J S H) (re:RE K H J B Z) (e:it B S=.ok (items,w) S') (y:∀JJ H' J',SR K J' S' H'->ZH K J J' H H'->Xf K JJ items w J' H'->R JJ H')
theorem PI.weak(h:PI X tg iter t)(w:∀Z H R,t' Z H R->t Z H R):PI X tg iter t':=λc s Z H R I q=>h c s Z H R I (w Z H R q)
theorem ZH.at{K:yP}(st:ZH K J c H d){n:Nat}{a:yQ}(h:J[n]?=Z9 a):c[n]?=Z9 a:=by obtain⟨f,rfl⟩:=st.ext;rw[qB7 (qA3.mp h).1];exact h
mutual
noncomputable def We:D->D->Bool
 |.non,.non=>Z7
 |.bl a,.bl b=>a == b
 |.int i,.int j=>i == j
 |.str x,.str y=>decide (x=y)
 |.ty a,.ty b=>a == b
 |.tup d,.tup c=>eqDs d c
 |.lst n,.lst m=>n == m
 |.dct n,.dct m=>n == m
 |.rol d,.rol c=>eqDs d c
 |.xc a,.xc b=>decide (a=b)
 |.ob a,.ob b=>a == b
 |.ktp a,.ktp b=>decide (a=b)
 |_,_=>Z5
noncomputable def eqDs:List D->List D->Bool
 |[],[]=>Z7
 |x::d,y::c=>We x y&&eqDs d c
 |_,_=>Z5
end
mutual
theorem FC(a b:D):We a b=Z7↔a=b:=by
 cases a with
 |tup d=>cases b<;>first|(simp[We];done)| (rename_i c;simp[We,eqDs_iff d c])
 |rol d=>cases b<;>first|(simp[We];done)| (rename_i c;simp[We,eqDs_iff d c])
 |_=>cases b<;>simp[We]
theorem eqDs_iff(a b:List D):eqDs a b=Z7↔a=b:=by
 cases a with
 |nil=>cases b<;>simp[eqDs]
 |cons x d=>cases b with
  |nil=>simp[eqDs]
  |cons y c=>simp[eqDs,FC x y,eqDs_iff d c]
end
noncomputable instance:DecidableEq D:=λa b=>decidable_of_iff _ (FC a b)
noncomputable instance (w:XX) (S:ZU):Decidable (Ye w S):=inferInstanceAs (Decidable (∀p∈w,ZC S p.1=Z9 p.2))
def Yr(w:XX)(g:G)(b:CS):List D->CS
 |[]=>fun B S=>if Ye w S then .nx B S else .bad
 | d::e=>fun B S=>if Ye w S then(match g d B S with
  |.ok f h=>match b f h with
   |.nx a c=>Yr w g b e a c
   |.ct a c=>Yr w g b e a c
   |.bk a c=>.nx a c
   |r=>r
  |.bad=>.bad
  | .er _ _=>.bad)else .bad
def Za(d:CI)(g:G)(b:CS):CS:=fun B S=>match d B S with
 |.ok (a,w) c=>Yr w g b a B c
 |.bad=>.bad
 |.er _ _=>.bad
theorem sf(U:SR X.K q S0 r)(re0:RE X.K r q B Z)(Q:Xf X.K F items w q r)(p:Ua X q r E (Yr w g s items B S0)):
  ∃W:Nat->Nat->St->Hp->Prop,(∃m,W 0 m Z r)/\∀i m Z H,W i m Z H->(F.stop i H/\E.nx Z H)∨(F.go i H/\∃N:St->Hp->Prop,(∀A h,N A h->∃m',m'<m/\W (i+1) m' A h)/\∀x h,F.yld i H x h->Xg X.K g x Z h fun Z2 T=>Zo X s { E with nx:=N,ct:=N,bk:=E.nx } Z2 T):=by
 refine⟨λi m Z H=>i+m=items.length/\∃J B S,SR X.K J S H/\ZH X.K q J r H/\RE X.K H J B Z/\Ua X J H E (Yr w g s (items.drop i) B S),⟨items.length,by simp,q,B,S0,U,ZH.refl _ _ _,re0,by exact p⟩,?_⟩;rintro i m Z1 L ⟨him,t,B1,K,l,k,v,f⟩;by_cases O:i<items.length
 .rw[qF9 O]at f;unfold Yr at f;split at f
  .rename_i M;refine .inr ⟨Q.go i L t K l k M O,fun A h=>i+1+(m - 1)=items.length/\∃J B S,SR X.K J S h/\ZH X.K q J r h/\RE X.K h J B A/\Ua X J h E (Yr w g s (items.drop (i+1)) B S),fun A h z=>⟨m - 1,by omega,z⟩,λx T hy=>?_⟩;obtain⟨d,hd,sr2,y,rv⟩:=Q.yld i L t K x T l k M O hy;have ed:=by rw[qA7 O]at hd;exact Option.some.inj hd
   rw[ed]at f;split at f
   .rename_i R S3 h3;refine⟨t,B1,K,d,R,S3,sr2,v.up y,rv,h3,fun Z3 H3 J3 o P re3=>⟨J3,R,S3,o,re3,?_⟩⟩;have b:=y.trans P o.nd;have n:=k.trans b o.nd;revert f;cases s R S3 with
    |nx I u=>exact λp Y V C a c j=>⟨by omega,C,I,u,a,n.trans c a.nd,j,p.shift (b.trans c a.nd)⟩
    |ct I u=>exact λp Y V C a c j=>⟨by omega,C,I,u,a,n.trans c a.nd,j,p.shift (b.trans c a.nd)⟩
    |bk I u=>exact λp Y V C a c j=>p Y V C a (b.trans c a.nd) j
    |rt d u=>exact λp=>Yw.shift p b
    |bad=>exact λp=>p
    |er _ _=>exact λp=>X8.shift p b
   .exact False.elim f
   .exact False.elim f
  .exact False.elim f
 .have e:i=items.length:=by omega
  subst e;rw[qK5]at f;unfold Yr at f;split at f
  .rename_i M;exact .inl ⟨Q.stop L t K l k M,f Z1 L t l (ZH.refl _ _ _) v⟩
  .exact False.elim f
theorem se{e:CI}(h:lC (yX X.prog X.w) X.A X.env X.xe)(q:X.calm=Z7)(hi:PI X tg iter (YQ X.K e))(o:PG X tg (Xg X.K g))(l:XH X body (Zo X d))
  (k:∀x,vN iter X.env x=pure x):PS X (.For tg iter body [] pos) (Zo X (Za e g d)):=(Bk h q hi o l k).weak (by
 rintro E Z H ⟨J,B,S,m,f,p⟩;unfold Za at p;split at p
 .rename_i a w n j;exact⟨J,B,S,a,w,n,m,f,j,λr t s c b i=>sf c (f.up b) i (p.shift b)⟩
 .exact False.elim p
 .exact False.elim p)
def WM(c:Str):CS:=λ_ S=>.er c S
theorem sd{b:Str}{np d a:Pos}(i:X.calm=Z7)(h:Gl X x)(e:∃C,X.mg x=Z9 (.ref C)/\Xi X.K C)(g:XI x):PS X (.Raise (Z9 (.Call (.Name x np) [.Constant (.str b) j d] [] a)) Z8 pos) (Zo X (WM x)):=by obtain⟨C,c,hk⟩:=e;refine(uV i h c hk sH g).weak ?_;rintro E Z H ⟨J,B,S,f,k,p⟩;exact p H J f (ZH.refl _ _ _) C c
inductive YL(X:Cx)(c:C)(Z:St)(H:Hp)(Q:VK):Prop
 |mk (J:yC) (B:ZR) (S:ZU) (sr:SR X.K J S H) (re:RE X.K H J B Z) (y:match c B S with|.ok d S'=>Yw X.K J H d S' Q|.er k S'=>X8 X J H k S'|.bad=>False)
def V3(c:C):CS:=fun B S=>match c B S with
 |.ok d a=>.rt d a
 |.bad=>.bad
 |.er k a=>.er k a
theorem rZ(he:PE X e (YL X ce)):PS X (.Return (Z9 e) pos) (Zo X (V3 ce)):=(HE he).weak (by
 rintro E Z H ⟨J,B,S,a,b,p⟩;refine⟨J,B,S,a,b,?_⟩;unfold V3 at p;revert p;cases ce B S with
 |ok d c=>exact λp=>p
 |bad=>exact λp=>p
 | er k c=>exact λp=>p)
def RX(c:C):CS:=fun B S=>match c B S with
 |.ok _ a=>.nx B a
 |.bad=>.bad
 |.er k a=>.er k a
theorem rY(he:PE X e (YL X ce))(j:wI e Z8 pos.line X.env=pure Z5):PS X (.Expr e pos) (Zo X (RX ce)):=(HG he j).weak (by
 rintro E Z H ⟨J,B,S,h,c,p⟩;refine⟨J,B,S,h,c,?_⟩;unfold RX at p;revert p;cases ce B S with
 |ok d i=>exact λp v f g b a l=>p Z f g b a (c.up a)
 |bad=>exact λp=>p
 | er k i=>exact λp=>p)
def Xo(K:yP)(h:Str->yF)(i:List D->M D)(n:Nat):Sp:=λf H Q E=>f.length=n/\∃J g S,SR K J S H/\RVs K H J g f/\match i g S with
 |.ok d b=>Yw K J H d b Q
 |.er c b=>∀a e,SR K e b a->ZH K J e H a->∀C,h c=Z9 (.ref C)->E (.ref C) Z8 a
 |.bad=>False
theorem rX{a:CA}(l:∀ds S,c ds S≠.bad->ds.length=n):∀Z H Q,ZD X.K (ZT c a) Z H Q->Oa (Xo X.K X.mg c n) [] E0 (YS X.K a) Z H Q:=by rintro Z H Q ⟨J,B,S,d,q,m,o,e,y⟩;obtain⟨h,g,j,e⟩:=Zl e;refine⟨J,B,S,h,g,m,o,j,λp r k f b i=>?_⟩;rw[qD6];refine⟨by rw[<- i.len];exact l _ g (by rw[e];exact λz=>by cases z),k,h,g,f,i,?_⟩;rw[e];exact y.shift b
def YF(d:List D->M D)(a:CA):C:=fun B S=>match a B S with
 |.ok c b=>d c b
 |_=>.bad
theorem FB{e:List D->M D}{a:CA}(m:∀ds S,e ds S≠.bad->ds.length=n):∀Z H Q,YL X (YF e a) Z H Q->Oa (Xo X.K X.mg e n) [] (EX X) (YS X.K a) Z H Q:=by
 rintro Z H Q ⟨J,B,S,o,p,y⟩;unfold YF at y;cases h:a B S with
 |bad=>rw[h]at y;exact y.elim
 |er c j=>rw[h]at y;exact y.elim
 |ok i f =>
  rw[h]at y;refine⟨J,B,S,i,f,o,p,h,λq r l g b k=>?_⟩;rw[qD6];dsimp only at y;refine⟨by rw[<- k.len];exact m _ f (λz=>by rw[z]at y;exact y),l,i,f,g,k,?_⟩;revert y;cases e i f with
  |ok d j=>exact λy=>Yw.shift y b
  |bad=>exact λy=>y
  |er c j=>exact λy=>X8.shift y b
structure QY(P:yY)(w:jC)(K:yP)(mg:Str->yF)(base:jB)(x:Str)(ps:yH)(k:Nat)(sp:Sp):Prop where
 ex:∃f fd,YO P w K mg base (Xj P w) k f fd ps sp/\WB K fd ps []/\wE K (.ref f)=Z7/\mg x=Z9 (.ref f)
theorem Kx{k b:Nat}{es:yE}(C:QY X.prog X.w X.K X.mg X.base x ps k sp)(i:Zr b X.A)(m:Gl X x)(h:Wm (Xj X.prog X.w) X E)(c:PA X (e::es) t)(hk:k<=b)(hdb:XI x)
  (j:y7 (e::es) X.env=(Z5,jU e X.env)::y7 es X.env) (l:(vC pos (y7 es X.env)).any (·.1)=Z5) :
  PE X (.Call (.Name x p) (e::es) [] pos) (Oa sp [] E t):=by obtain⟨f,n,F,g,a,d⟩:=C.ex;exact Ao (hdb:=hdb) (he:=j) (hpl:=l) F (i.mono hk) m d a g .nil h c
theorem FA:Wm (Xj X.prog X.w) X E0:=λ_ _ _ _ _ _ _ h=>by obtain⟨_,_,_,_,_,_,_,_,_,_,_,_,_,_,z⟩:=h;exact z.elim
end
section
variable {X:Cx}{tg e:yV}{ce:C}{pos:Pos}
def kD:ZA->D
 |.inl i=>.int i
 |.inr x=>.str x
def Zs(c:C):CI:=fun B=>Zi (c B) λx S=>match x with
 |.tup b=>.ok (b,[]) S
 |.lst n=>match ZC S n with
  |some b=>.ok (b,[(n,b)]) S
  |none=>.bad
 |.dct n=>match S[n]? with
  |some (.dk a)=>.ok (a.map λp=>kD p.1,[]) (S.set n (.fk a))
  |some (.fk a)=>.ok (a.map λp=>kD p.1,[]) S
  |_=>.bad
 |_=>.bad
theorem rW{K:yP}{f:Hp}{g:yC}{a:yQ}{xs:List D}{vs:List V}(q:Zb K f a vs)(r:RVs K f g xs vs):Xf K (LU K a) xs [] g f where
 go:=λi H J S d b _ c=>by obtain⟨v,e,_⟩:=r.get (qA7 c);exact⟨vs,v,b.tk.t _ _ q,e⟩
 yld:=λi H J S x j d b _ c y=>by obtain⟨rfl,y⟩:=y;obtain⟨v,e,h⟩:=r.get (qA7 c);have:=y vs (b.tk.t _ _ q);rw[e]at this;cases this;exact⟨xs[i],qA7 c,d,ZH.refl _ _ _,RV.up b.tk b.ext _ _ h⟩
 stop:=λH J S d b _=>⟨vs,b.tk.t _ _ q,by rw[r.len];exact qA4 _⟩
theorem rV{K:yP}{k:Hp}{h:yC}{a:yQ}{n:Nat}{xs:List D}(g:h[n]?=Z9 a):Xf K (LV K a) xs [(n,xs)] h k where
 go:=λi H J S b d w f=>by obtain⟨c,q,r⟩:=b.sq (d.at g) (w (n,xs) (by simp));obtain⟨v,e,_⟩:=r.get (qA7 f);exact⟨c,v,q,e⟩
 yld:=λi H J S x l b d w f y=>by obtain⟨rfl,y⟩:=y;obtain⟨c,q,r⟩:=b.sq (d.at g) (w (n,xs) (by simp));obtain⟨v,e,j⟩:=r.get (qA7 f);have:=y c q;rw[e]at this;cases this;exact⟨xs[i],qA7 f,b,ZH.refl _ _ _,j⟩
 stop:=λH J S b d w=>by obtain⟨c,q,r⟩:=b.sq (d.at g) (w (n,xs) (by simp));exact⟨c,q,by rw[r.len];exact qA4 _⟩
theorem Fz{K:yP}{f:Hp}{j:yC}{a:yQ}{o:Obj}{ws:List (ZA×V)}{kvs:List (ZA×D)}(q:f a=Z9 (.frz o (.dK ws)))(e:kvs.map (·.1)=ws.map (·.1)):Xf K (Us a o) (kvs.map λp=>kD p.1) [] j f where
 go:=λi H J S c b _ d=>⟨ws,b.tk.z _ _ _ q,by
  have:=congrArg qG5 e;simp at this d;lia⟩
 yld:=λi H J S x l c b _ d y=>by
  obtain⟨rfl,y⟩:=y;obtain⟨p,g,rfl⟩:=y ws (b.tk.z _ _ _ q);have h:(kvs.map (·.1))[i]?=Z9 p.1:=by rw[e,qC1,g];rfl
  have k:(kvs.map λp=>kD p.1)[i]?=Z9 (kD p.1):=by
   have:(kvs.map λp=>kD p.1)=(kvs.map (·.1)).map kD:=by rw[qE1];rfl
   rw[this,qC1,h];rfl
  refine⟨kD p.1,k,c,ZH.refl _ _ _,?_⟩;cases p.1<;>(unfold kD RV;rfl)
 stop:=λH J S c b _=>⟨ws,b.tk.z _ _ _ q,by
  have:=congrArg qG5 e;simp at this;simp;lia⟩
theorem rT(m:PE X e l):PI X tg e (fun Z H R=>l Z H λx c=>∃a,x=.ref a/\((∃xs,Ys X.K c a xs)/\R (LV X.K a) c∨(∃xs,Zb X.K c a xs)/\R (LU X.K a) c
  ∨ (∃kvs,((c a=Z9 (.dK kvs)/\∀o,R (Us a o) (ZE c a (.frz o (.dK kvs))))∨∃o,c a=Z9 (.frz o (.dK kvs))/\R (Us a o) c))
  ∨ False)):=by
 intro i s Z H R I h;refine Zx (m i s Z H _ I h) λv f ⟨x,c,d,t,u⟩=>?_;obtain⟨a,e,q⟩:=u;subst e;cases t;rcases q with⟨⟨xs,j⟩,q⟩| ⟨⟨xs,j⟩,q⟩| q
 .obtain⟨g,r,p,n⟩:=d.list j;refine vE p.isList ?_;refine⟨f.heap.objs.size,[f.heap.objs.size],_,_,c,rfl,d.kept (t':=f.toks) λb o e=>qA2 _ e,Bq a _,⟨_,qB5 _ rfl,rfl,rfl⟩,λb k=>?_,q⟩;have e:b=f.heap.objs.size:=by simpa using k
  subst e;exact d.fpOk (qA4 _) (d.hok.fresh (qA4 _))
 .obtain⟨g,r,p,n⟩:=d.tuple j;refine jX (show f.heap.IsTuple a g.toArray from p) ?_;refine⟨f.heap.objs.size,[f.heap.objs.size],_,_,c,rfl,d.kept (t':=f.toks) λb o e=>qA2 _ e,Bp a _,⟨_,qB5 _ rfl,rfl,rfl⟩,λb k=>?_,q⟩;have e:b=f.heap.objs.size:=by simpa using k
  subst e;exact d.fpOk (qA4 _) (d.hok.fresh (qA4 _))
 .skip
  rcases q with q|q
  .exact wj d q
  exact q.elim
theorem Fy(he:PE X e (ZD X.K ce)):PI X tg e (YQ X.K (Zs ce)):=(rT he).weak (by
 rintro Z H R ⟨J,B,S,t,w,M,I,L,e,y⟩;obtain⟨x,E,A,e⟩:=Zl e;refine⟨J,B,S,x,E,I,L,A,λv f l b d m=>?_⟩;split at e
 .rename_i F;cases e;have r:=m;obtain⟨a,p,rfl,q,g⟩:=r;exact⟨a,rfl,.inr (.inl ⟨⟨p,Zb.of q⟩,y _ f l b d (rW (Zb.of q) g)⟩)⟩
 .rename_i n;split at e
  .rename_i F G;cases e;obtain⟨a,rfl,h⟩:=m;obtain⟨p,q,g⟩:=b.sq h G;exact⟨a,rfl,.inl ⟨⟨p,q⟩,y _ f l b d (rV h)⟩⟩
  .cases e
 .rename_i n;unfold RV at m;obtain⟨a,rfl,h⟩:=m;have k:(∃c,((f a=Z9 (.dK c)/\∀o,R (Us a o) (ZE f a (.frz o (.dK c))))∨∃o,f a=Z9 (.frz o (.dK c))/\R (Us a o) f)):=by
   split at e
   .rename_i c s;cases e;obtain⟨j,i,g⟩:=b.get h s;refine⟨j,.inl ⟨i,λo=>?_⟩⟩;have K:TF X.K f (ZE f a (.frz o (.dK j))):=Sb i (λ_ z=>by cases z) (λ_ _ z=>by cases z);obtain⟨u,D⟩:=b.put (o:=.frz o (.dK j)) (o':=.fk c) h i (λ_ z=>by cases z) (λ_ _ z=>by cases z) ⟨_,_,YU,g.up K ⟨[],by simp⟩⟩;exact y _ _ l u (d.trans D u.nd) (Fz YU g.1)
   .rename_i c s;cases e;obtain⟨o,j,i,g⟩:=b.get h s;exact⟨j,.inr ⟨o,i,y _ f l b d (Fz i g.1)⟩⟩
   .cases e
  first
  |exact⟨a,rfl,.inr (.inr (.inr (.inl k)))⟩
  |exact⟨a,rfl,.inr (.inr (.inl k))⟩
 .cases e)
def Y7(lo:Int)(n:Nat):List D:=(List.range n).map λk=>D.int (lo+(k:Nat))
theorem Fx{K:yP}{f:Hp}{g:yC}{lo:Int}{n:Nat}:Xf K (Qi lo n) (Y7 lo n) [] g f where
 go:=λi H J S c d _ a=>by unfold Y7 at a;simp at a;exact a
 yld:=λi H J S x h c d _ a y=>by
  obtain⟨rfl,rfl⟩:=y;have b:=by unfold Y7 at a;simp at a;exact a
  exact⟨.int (lo+i),by unfold Y7;rw[qC1,qM2 b];rfl,c,ZH.refl _ _ _,XN⟩
 stop:=λH J S c d _=>by show n<=(Y7 lo n).length;unfold Y7;simp
def WV(a:CA):CI:=fun B=>Zi (a B) λb S=>match b with
 |[.int j]=>if -4611686018427387904<=j/\j<4611686018427387904 then .ok (Y7 0 j.toNat,[]) S else .bad
 |_=>.bad
def Kw(a:CA):CI:=fun B=>Zi (a B) λb S=>match b with
 |[.int i,.int j]=>if -4611686018427387904<=i/\i<4611686018427387904/\-4611686018427387904<=j/\j<4611686018427387904 then .ok (Y7 i (j - i).toNat,[]) S else .bad
 |_=>.bad
variable {a b:yV}{ca:CA}
theorem rS(h:PI X tg (.Call (.Name "range" p) [a] [] pos) (Hx (YS X.K ca))):PI X tg (.Call (.Name "range" p) [a] [] pos) (YQ X.K (WV ca)):=h.weak (by
 rintro Z H R ⟨J,B,S,f,w,u,r,s,e,y⟩;obtain⟨m,l,i,e⟩:=Zl e;refine⟨J,B,S,m,l,r,s,i,λt o k d c n=>?_⟩;split at e
 .rename_i j;split at e
  .rename_i g;cases e;obtain⟨v,rfl,q⟩:=n.one;subst q;exact⟨j,rfl,g.1,g.2,y _ o k d c Fx⟩
  .cases e
 .cases e)
theorem rR(h:PI X tg (.Call (.Name "range" p) [a,b] [] pos) (Hw (YS X.K ca))):PI X tg (.Call (.Name "range" p) [a,b] [] pos) (YQ X.K (Kw ca)):=h.weak (by
 rintro Z H R ⟨J,B,S,f,w,A,t,x,e,y⟩;obtain⟨o,n,g,e⟩:=Zl e;refine⟨J,B,S,o,n,t,x,g,λz r k d c q=>?_⟩;split at e
 .rename_i i j;split at e
  .rename_i l;cases e;obtain⟨v,u,rfl,s,m⟩:=q.two;subst s m;exact⟨i,j,rfl,l,y _ r k d c Fx⟩
  .cases e
 .cases e)
theorem Fw{d c:Type}{xs:List d}{ys:List c}(h:i<(xs.zip ys).length):∃x y,xs[i]?=Z9 x/\ys[i]?=Z9 y/\(xs.zip ys)[i]?=Z9 (x,y):=by simp_all
def zipD(xs ys:List D):List D:=(xs.zip ys).map λp=>.tup [p.1,p.2]
theorem Fv{K:yP}:∀c:yH,RVs K H J (c.map D.str) (c.map V.str)
 |[]=>RVs.nil
 |z::c=>.cons Ww (Fv c)
def WU(S:ZU):D->Option (List D)
 |.tup c=>Z9 c
 |.lst n=>ZC S n
 |.ktp c=>Z9 (c.map D.str)
 |_=>Z8
def T8(x:D)(xs:List D):XX:=match x with
 |.lst n=>[(n,xs)]
 |_=>[]
theorem Fu{K:yP}(k:SR K J S H)(r:RV K H J x v)(h:WU S x=Z9 xs):∃a b,v=.ref a/\(∃vs,XG b K H a vs) /\
  ∀f g S1,SR K g S1 f->ZH K J g H f->Ye (T8 x xs) S1->∃vs,XG b K f a vs/\RVs K f g xs vs:=by
 unfold WU at h;split at h
 .rename_i l;cases h;obtain⟨a,vs,rfl,q,j⟩:=r;exact⟨a,Z7,rfl,⟨vs,Zb.of q⟩,λf g S1 d c _=>⟨vs,c.tk.t _ _ (Zb.of q),RVs.up c.tk c.ext _ _ j⟩⟩
 .rename_i n;obtain⟨a,rfl,i⟩:=r;obtain⟨vs,q,j⟩:=k.sq i h;exact⟨a,Z5,rfl,⟨vs,q⟩,λf g S1 d c w=>d.sq (c.at i) (w (n,xs) (by simp[T8]))⟩
 .cases h;unfold RV at r;obtain⟨a,rfl,q⟩:=r;exact⟨a,Z7,rfl,⟨_,q⟩,λf g S1 d c _=>⟨_,c.tk.t _ _ q,Fv _⟩⟩
 .cases h
theorem QX:Ye (f++d) S↔Ye f S/\Ye d S:=by unfold Ye;simp only[qE2];exact⟨λh=>⟨λp c=>h p (.inl c),λp c=>h p (.inr c)⟩,λh p c=>c.elim (h.1 p) (h.2 p)⟩
theorem rQ{K:yP}{t:Hp}{s:yC}{a b:yQ}{b1 b2:Bool}{A z:XX}{xs ys:List D}
  (h:∀c g S1,SR K g S1 c->ZH K s g t c->Ye A S1->∃vs,XG b1 K c a vs/\RVs K c g xs vs) (j:∀c g S1,SR K g S1 c->ZH K s g t c->Ye z S1->∃vs,XG b2 K c b vs/\RVs K c g ys vs) :
  Xf K (Sg b1 b2 K a b) (zipD xs ys) (A++z) s t where
 go:=λi H J S d f w m=>by obtain⟨vs,q,r⟩:=h H J S d f (QX.mp w).1;obtain⟨k,n,l⟩:=j H J S d f (QX.mp w).2;obtain⟨x,y,o,p,_⟩:=Fw (by unfold zipD at m;simpa using m);obtain⟨v,h,_⟩:=r.get o;obtain⟨u,j,_⟩:=l.get p;exact⟨vs,k,v,u,q,n,h,j⟩
 yld:=λi H J S x O d f w m y=>by obtain⟨T,F,rfl,y⟩:=y;obtain⟨vs,q,r⟩:=h H J S d f (QX.mp w).1;obtain⟨k,n,l⟩:=j H J S d f (QX.mp w).2;obtain⟨x,G,o,p,L⟩:=Fw (by unfold zipD at m;simpa using m);obtain⟨v,h,I⟩:=r.get o;obtain⟨u,j,B⟩:=l.get p;have:=y vs k v u q n h j;subst this;obtain⟨M,E,N⟩:=NL d F (.cons I (.cons B .nil));exact⟨.tup [x,G],by unfold zipD;rw[qC1,L];rfl,M,E,N⟩
 stop:=λH J S d f w=>by obtain⟨vs,q,r⟩:=h H J S d f (QX.mp w).1;obtain⟨k,n,l⟩:=j H J S d f (QX.mp w).2;exact⟨vs,k,q,n,by unfold zipD;rw[qA6,List.length_zip,r.len,l.len]⟩
def QW(a:CA):CI:=fun B=>Zi (a B) λf S=>match f with
 |[x,y]=>match WU S x,WU S y with
  |some c,Z9 d=>.ok (zipD c d,T8 x c++T8 y d) S
  |_,_=>.bad
 |_=>.bad
theorem rP{d:yE}(h:PI X (.Tuple d k c) (.Call (.Name "zip" p) [a,b] [] pos) (Gy X.K (YS X.K ca))):PI X (.Tuple d k c) (.Call (.Name "zip" p) [a,b] [] pos) (YQ X.K (QW ca)):=h.weak (by
 rintro Z H R ⟨J,B,S,i,w,O,D,I,e,y⟩;obtain⟨s,r,l,e⟩:=Zl e;refine⟨J,B,S,s,r,D,I,l,λL x m f g t=>?_⟩;split at e
 .rename_i N M;split at e
  .rename_i P Q E F;cases e;obtain⟨v,u,rfl,A,q⟩:=t.two;obtain⟨a,o,rfl,z,n⟩:=Fu f A E;obtain⟨b,j,rfl,G,K⟩:=Fu f q F;exact⟨a,b,o,j,rfl,z,G,y _ x m f g (rQ n K)⟩
  .cases e
 .cases e)
def Vs(xs:List D):List D:=((List.range xs.length).zip xs).map λp=>.tup [.int (p.1:Nat),p.2]
theorem Kv(h:i<xs.length):(Vs xs)[i]?=Z9 (.tup [.int (i:Nat),xs[i]]):=by
 unfold Vs
 simp_all
theorem RW(xs:List D):(Vs xs).length=xs.length:=by unfold Vs;simp
theorem rO{K:yP}{g:Hp}{h:yC}{a:yQ}{xs:List D}{vs:List V}(q:Zb K g a vs)(r:RVs K g h xs vs):Xf K (Vf Z7 K a) (Vs xs) [] h g where
 go:=λi H J S f c _ d=>by rw[RW]at d;obtain⟨v,e,_⟩:=r.get (qA7 d);exact⟨vs,v,c.tk.t _ _ q,e⟩
 yld:=λi H J S x o f c _ d y=>by rw[RW]at d;obtain⟨T,k,rfl,y⟩:=y;obtain⟨v,e,l⟩:=r.get (qA7 d);have:=y vs v (c.tk.t _ _ q) e;subst this;obtain⟨m,j,n⟩:=NL f k (.cons XN (.cons (RV.up c.tk c.ext _ _ l) .nil));exact⟨_,Kv d,m,j,n⟩
 stop:=λH J S f c _=>⟨vs,c.tk.t _ _ q,by rw[RW,r.len]⟩
theorem rN{K:yP}{s:Hp}{j:yC}{a:yQ}{n:Nat}{xs:List D}(h:j[n]?=Z9 a):Xf K (Vf Z5 K a) (Vs xs) [(n,xs)] j s where
 go:=λi H J S c g w d=>by rw[RW]at d;obtain⟨f,q,r⟩:=c.sq (g.at h) (w (n,xs) (by simp));obtain⟨v,e,_⟩:=r.get (qA7 d);exact⟨f,v,q,e⟩
 yld:=λi H J S x t c g w d y=>by rw[RW]at d;obtain⟨T,l,rfl,y⟩:=y;obtain⟨f,q,r⟩:=c.sq (g.at h) (w (n,xs) (by simp));obtain⟨v,e,m⟩:=r.get (qA7 d);have:=y f v q e;subst this;obtain⟨o,k,p⟩:=NL c l (.cons XN (.cons m .nil));exact⟨_,Kv d,o,k,p⟩
 stop:=λH J S c g w=>by obtain⟨f,q,r⟩:=c.sq (g.at h) (w (n,xs) (by simp));exact⟨f,q,by rw[RW,r.len]⟩
def NF(a:CA):CI:=fun B=>Zi (a B) λd S=>match d with
 |[.tup c]=>.ok (Vs c,[]) S
 |[.lst n]=>match ZC S n with
  |some c=>.ok (Vs c,[(n,c)]) S
  |none=>.bad
 |_=>.bad
theorem rM{d:yE}(h:PI X (.Tuple d k c) (.Call (.Name "enumerate" p) [a] [] pos) (GC X.K (YS X.K ca))):PI X (.Tuple d k c) (.Call (.Name "enumerate" p) [a] [] pos) (YQ X.K (NF ca)):=h.weak (by
 rintro Z H R ⟨J,B,S,l,w,G,D,E,e,y⟩;obtain⟨z,x,t,e⟩:=Zl e;refine⟨J,B,S,z,x,D,E,t,λi s m f g r=>?_⟩;split at e
 .rename_i u;cases e;obtain⟨v,rfl,j⟩:=r.one;obtain⟨a,i,rfl,q,F⟩:=j;exact⟨a,rfl,.inl ⟨⟨i,Zb.of q⟩,y _ s m f g (rO (Zb.of q) F)⟩⟩
 .rename_i n;split at e
  .rename_i u A;cases e;obtain⟨v,rfl,j⟩:=r.one;obtain⟨a,rfl,o⟩:=j;obtain⟨i,q,_⟩:=f.sq o A;exact⟨a,rfl,.inr ⟨⟨i,q⟩,y _ s m f g (rN o)⟩⟩
  .cases e
 .cases e)
def W5(k:Nat)(js:List Nat)(B:ZR):ZR:=qC3 k Z8++js.map λj=>(B[j]?).getD Z8
theorem RE.comp{K:yP}(l:RE K H J B Z)(k:Nat)(js:List Nat):RE K H J (W5 k js B) (W0 k js Z):=by
 refine⟨by unfold W5 W0;simp,λi d e=>?_⟩;unfold W5 at e;unfold W0;by_cases f:i<k
 .rw[qB7 (by simpa using f),qF5]at e;simp at e
 .rw[qA5 (by simpa using f),qE7,qC1]at e;rw[qA5 (by simpa using f),qE7,qC1];cases q:js[i - k]? with
  |none=>rw[q]at e;simp at e
  |some j =>
   rw[q]at e;simp only[qL1,Option.some.injEq]at e;cases c:B[j]? with
   |none=>rw[c]at e;simp at e
   |some z =>
    rw[c]at e;subst e;obtain⟨v,h,g⟩:=l.2 j d c;exact⟨v,by simp[h],g⟩
inductive XA where
 |one|many (k:Nat)
def Ku:ZR->Nat->List D->ZR
 |B,_,[]=>B
 |B,s,x::c=>Ku (B.set s (Z9 x)) (s+1) c
def Wu(t:XA)(d:D)(B:ZR):Option ZR:=match t with
 |.one=>Z9 (B.set 0 (Z9 d))
 |.many k=>match d with
  |.tup c=>if c.length=k then Z9 (Ku B 0 c)else Z8
  |_=>Z8
def ND:Nat->Nat->UD
 |_,0=>Ql
 |s,n+1=>HD (Ss s) (ND (s+1) n)
def Wd:XA->Nat
 |.one=>1
 |.many k=>k
def tOfT'(K:yP):XA->TG
 |.one=>Ss 0
 |.many k=>Qk K k (ND 0 k)
theorem Fs(h:Uw (W0 k js Z) d)(hi:i<k)(v:V):Uw (W0 k js Z) (d.set i (Z9 v)):=by
 refine⟨by rw[qG0];exact h.1,λj u e=>?_⟩;by_cases c:i=j
 .subst c;obtain⟨_,f,_⟩:=GQ e
  lia
 .rw[qC9 c];exact h.2 j u e
theorem Fq(Z:St):Uw Z Z:=⟨rfl,λ_ _ h=>h⟩
theorem Fp{K:yP}{H:Hp}{J:yC}{k:Nat}{js:List Nat}{Z:St}{Q:St->Hp->Prop}:∀{n s:Nat}{xs:List D}{vs:List V}{B1:ZR}{Z1:St},RVs K H J xs vs->xs.length=n->s+n<=k->RE K H J B1 Z1->Uw (W0 k js Z) Z1->(∀c,RE K H J (Ku B1 s xs) c->Uw (W0 k js Z) c->Q c H)->ND s n vs Z1 H Q
 |0,s,xs,vs,B1,Z1,r,hl,hk,re,w,h=>by have:=List.length_eq_zero_iff.mp hl;subst this;exact⟨r.nil_inv,h Z1 re w⟩
 |n+1,s,[],vs,B1,Z1,r,hl,hk,re,w,h=>by simp at hl
 |n+1,s,x::xs,vs,B1,Z1,r,hl,hk,re,w,h=>by obtain⟨v,g,rfl,d,f⟩:=r.cons_inv;exact⟨v,g,rfl,Fp f (by simpa using hl) (by lia) (re.set d s) (Fs w (by lia) v) h⟩
theorem Fo{K:yP}(o:Wd t<=k)(j:RE K H J (W5 k js B) (W0 k js Z))(i:RV K H J d x)(e:Wu t d (W5 k js B)=Z9 g)(h:∀c,RE K H J g c->Uw (W0 k js Z) c->Q c H)(r:1<=k):tOfT' K t x (W0 k js Z) H Q:=by
 cases t with
 |one =>
  cases e;exact h _ (j.set i 0) (Fs (Fq _) r x)
 |many n =>
  unfold Wu at e;dsimp only at e;split at e
  .rename_i s;split at e
   .rename_i f;cases e;obtain⟨p,m,rfl,q,l⟩:=i;exact⟨p,m,rfl,Zb.of q,by rw[<- l.len];exact f,Fp l f (by have:n<=k:=o;lia) j (Fq _) h⟩
   .cases e
  .cases e
def Yz(w:XX)(t:XA)(tc:CT)(c:C)(B0:ZR):List D->M (List D)
 |[]=>λS=>if Ye w S then .ok [] S else .bad
 | d::g=>λS=>if Ye w S then(match Wu t d B0 with
  |some f=>Zi (tc f) (λk=>if k then Zi (c f) λy=>Zi (Yz w t tc c B0 g) λh=>ret (y::h)else Yz w t tc c B0 g) S
  | none=>.bad)else .bad
def XW(g:CI)(k:Nat)(js:List Nat)(t:XA)(tc:CT)(c:C):C:=fun B=>Zi (g B) λp S=>if p.1.length<lim then
  Zi (Yz p.2 t tc c (W5 k js B) p.1) (λf d=>.ok (.lst d.length) (d++[.lst f])) S
 else .bad
theorem SR.acc{K:yP}(c:SR K J S H)(g:A∉J)(h:H A=Z9 (.lst us)):SR K J S (ZE H A (.lst ws)) :=
 ⟨c.len,c.nd,λn a o d f=>(c.obj n a o d f).up (PN h) ⟨[],by simp⟩ (Zq λz=>g (z▸qC2 d))⟩
theorem ZH.acc{K:yP}(st:ZH K d J c H)(f:c A=Z8)(h:H A=Z9 (.lst us)):ZH K d J c (ZE H A (.lst ws)) :=
 ⟨st.pre,λb o g e=>by rw[Zq (Vx e f)];exact st.fr b o g e,st.tk.trans (PN h)⟩
theorem SR.adopt{K:yP}{acc:List D}(f:SR K J S H)(j:A∉J)(h:H A=Z9 (.lst us))(r:RVs K H J acc us):SR K (J++[A]) (S++[.lst acc]) H:=by
 refine⟨by simp[f.len],?_,λn a u c d=>?_⟩
 .rw[qG2];refine⟨f.nd,by simp,λa k b l=>?_⟩
  grind
 .by_cases g:n<J.length
  .rw[qB7 g]at c;rw[qB7 (by rw[<- f.len];exact g)]at d;exact(f.obj n a u c d).up (TF.refl _ _) ⟨[A],rfl⟩ rfl
  .rw[qA5 (by lia)]at c;rw[qA5 (by rw[<- f.len];lia)]at d;have i:=by have:=(qA3.mp c).1;simp at this;omega
   rw[i]at c;rw[<- f.len,i]at d;simp at c d;subst c d;exact⟨us,h,RVs.up (TF.refl _ _) ⟨[A],rfl⟩ _ _ r⟩
theorem ZH.adopt{K:yP}(st:ZH K d J c H)(g:c A=Z8):ZH K d (J++[A]) c H:=by
 obtain⟨f,e,n⟩:=st.pre;refine⟨⟨f++[A],by rw[e,qD8],λb h=>?_⟩,st.fr,st.tk⟩
 grind
theorem ZH.notIn{K:yP}(st:ZH K J J' H c)(d:A∉J)(h:H A=Z9 o):A∉J':=λz=>by
 obtain⟨f,rfl,n⟩:=st.pre
 simp_all
inductive rL(K:yP)(items:List D)(w:XX)(t:XA)(tc:CT)(c:C)(B0:ZR)(J0:yC)(H0:Hp)(A:yQ)(S1:ZU)(ys:List D)(i m:Nat)(us:List V)(H2:Hp):Prop
 |mk (him:i+m=items.length) (hus:us.length<=i) (J2:yC) (S2:ZU) (acc ZM:List D) (sr:SR K J2 S2 H2) (st:ZH K J0 J2 H0 H2) (nA:A∉J2) (hA:H2 A=Z9 (.lst us)) (ra:RVs K H2 J2 acc us) (el:Yz w t tc c B0 (items.drop i) S2=.ok ZM S1) (eys:acc++ZM=ys)
theorem Fm(ht:Wd t<=k)(h1:1<=k)(h:ZD X.K (XW it k js t tc c) Z H Q):P6 (YQ X.K it) k js (tOfT' X.K t) (YY X.K tc) (ZD X.K c) Z H Q:=by
 obtain⟨J,B,S,d,S',sr,re,e,y⟩:=h;obtain⟨⟨f,w⟩,S0,e0,f0⟩:=Zl e;dsimp only at f0;split at f0
 .rename_i hlim;obtain⟨ys,S1,e1,f1⟩:=Zl f0;cases f1;refine⟨J,B,S,f,w,S0,sr,re,e0,λJJ H0 J0 U F io A hA=>?_⟩;have reC:=(re.up F).comp k js;obtain⟨srA,stA⟩:=U.other hA;have nA:=U.out hA;refine⟨rL X.K f w t tc c (W5 k js B) J0 H0 A S1 ys,
   ⟨f.length,⟨by simp,qF0 _,J0,S0,[],ys,srA,stA,nA,YU,RVs.nil,e1,rfl⟩⟩,?_⟩
  rintro i m us H2 ⟨him,hus,Y,S2,acc,ZM,g,p,I,R,r,j,E⟩;refine And.intro R ?_;by_cases hi:i<f.length
  .rw[qF9 hi]at j;unfold Yz at j;split at j
   .rename_i hw;refine .inr ⟨io.go i H2 Y S2 g p hw hi,NK (by lia),λx H3 hy=>?_⟩;obtain⟨d,hd,u,N,rv⟩:=io.yld i H2 Y S2 x H3 g p hw hi hy;have ed:=by rw[qA7 hi]at hd;exact Option.some.inj hd
    rw[ed]at j;have V:=N.fr A _ I R;have K:=p.trans N u.nd;split at j
    .rename_i B4 h4;refine Fo ht (reC.up K) rv h4 (fun Z4 re4 wk=>⟨wk,?_⟩) h1;obtain⟨kb,S3,e3,f3⟩:=Zl j;refine⟨Y,B4,S2,kb,S3,u,re4,e3,λH5 J5 s l=>?_⟩;have O:=l.fr A _ I V;have T:=l.notIn I V;have L:=K.trans l s.nd;have n:=N.trans l s.nd;cases kb with
     |true =>
      obtain⟨z,S4,e4,f4⟩:=Zl f3;obtain⟨zs,S5,e5,f5⟩:=Zl f4;obtain⟨rfl,rfl⟩:=YA f5;refine⟨J5,B4,S3,z,S4,s,re4.up l,e4,λv H6 J6 P G rv6=>?_⟩;have D:=G.fr A _ T O;have W:=G.notIn T O;have M:=n.trans G P.nd;have tku:TF X.K H6 (ZE H6 A (.lst (us++[v]))):=PN D;refine⟨D,m - 1,by lia,⟨by lia,by rw[qC4];show us.length+1<=i+1;lia,J6,S4,acc++[z],zs,P.acc W D,(L.trans G P.nd).acc hA D,W,YU,?_,e5,by rw[qD8];exact E⟩⟩;exact RVs.up tku ⟨[],by simp⟩ _ _ ((RVs.up M.tk M.ext _ _ r).append (.cons rv6 .nil))
     |false =>
      exact⟨m - 1,by lia,⟨by lia,by lia,J5,S3,acc,ZM,s,L,T,O,RVs.up n.tk n.ext _ _ r,f3,E⟩⟩
    .cases j
   .cases j
  .have ei:i=f.length:=by lia
   subst ei;rw[qK5]at j;unfold Yz at j;split at j
   .rename_i hw;cases j;rw[qD6]at E;subst E;refine .inl ⟨io.stop H2 Y _ g p hw,?_⟩;have hA0:H A=Z8:=by
     cases q:H A with
     |none=>rfl
     |some o =>
      by_cases hm:A∈J
      .exact absurd (F.mem hm) nA
      .rw[F.fr A o hm q]at hA;cases hA
    have u:=g.adopt I R r;refine y (.ref A) H2 (Y++[A]) u ((F.trans p g.nd).adopt hA0) ?_;exact⟨A,rfl,by rw[<- g.len,qA5 (qA4 _),qD5];rfl⟩
   .cases j
 .cases f0
end
section
variable {K:yP}{H H0:Hp}{J J0:yC}{S:ZU}{a:yQ}{o:Obj}{ws:List (ZA×V)}
theorem U5(h:H a=Z9 (.frz o (.dK ws)))(e:H b=Z9 u)(n:∀o k,u≠.frz o (.dK k)):ZE H a (.dK ws) b=Z9 u:=by
 have c:b≠a:=λz=>by subst z;rw[h]at e;cases e;exact n _ _ rfl
 rw[Zq c];exact e
theorem Fl(h:H a=Z9 (.frz o (.dK ws)))(e:Zb K H p xs):Zb K (ZE H a (.dK ws)) p xs:=by
 rcases e with(e|⟨w,e⟩)| e
 .exact .inl (.inl (U5 h e λ_ _ z=>by cases z))
 .exact .inl (.inr ⟨w,U5 h e λ_ _ z=>by cases z⟩)
 .exact .inr e
theorem Fk(h:H a=Z9 (.frz o (.dK ws)))(e:Um K H p xs):Um K (ZE H a (.dK ws)) p xs:=by
 rcases e with⟨w,e⟩| e
 .exact .inl ⟨w,U5 h e λ_ _ z=>by cases z⟩
 .exact .inr e
mutual
theorem RV.thaw(h:H a=Z9 (.frz o (.dK ws))):∀(d:D) (v:V),RV K H J d v->RV K (ZE H a (.dK ws)) J d v:=λd v r=>by
 cases d with
 |tup g=>unfold RV at r ⊢;obtain⟨p,f,e,q,r⟩:=r;exact⟨p,f,e,U5 h q (λ_ _ z=>by cases z),RVs.thaw h g f r⟩
 |rol g=>unfold RV at r ⊢;obtain⟨p,f,e,q,r⟩:=r;exact⟨p,f,e,Fk h q,RVs.thaw h g f r⟩
 |xc c=>unfold RV at r ⊢;obtain⟨e,i,C,r,q,k⟩:=r;exact⟨e,i,C,r,U5 h q (λ_ _ z=>by cases z),k⟩
 |ob n=>unfold RV at r ⊢;obtain⟨p,q,C,dx,b,r,e,m,k⟩:=r;exact⟨p,q,C,dx,b,r,U5 h e (λ_ _ z=>by cases z),m,k⟩
 |ktp g=>unfold RV at r ⊢;obtain⟨p,r,q⟩:=r;exact⟨p,r,Fl h q⟩
 |_=>unfold RV at r ⊢;exact r
theorem RVs.thaw(h:H a=Z9 (.frz o (.dK ws))):∀(ds:List D) (vs:List V),RVs K H J ds vs->RVs K (ZE H a (.dK ws)) J ds vs:=λds vs r=>by
 cases ds with
 |nil=>unfold RVs at r ⊢;exact r
 |cons d ds =>
  unfold RVs at r ⊢;obtain⟨v,b,e,f,c⟩:=r;exact⟨v,b,e,RV.thaw h d v f,RVs.thaw h ds b c⟩
end
theorem OR.thaw(h:H a=Z9 (.frz o (.dK ws)))(d:b≠a):∀{x:O},OR K H J b x->OR K (ZE H a (.dK ws)) J b x
 |.lst g,⟨f,e,r⟩=>⟨f,by rw[Zq d];exact e,RVs.thaw h _ _ r⟩
 |.dk c,⟨us,e,r⟩=>⟨us,by rw[Zq d];exact e,r.1,RVs.thaw h _ _ r.2⟩
 |.dt c,⟨us,e,r⟩=>⟨us,by rw[Zq d];exact e,r.1,RVs.thaw h _ _ r.2⟩
 |.fk c,⟨w,us,e,r⟩=>⟨w,us,by rw[Zq d];exact e,r.1,RVs.thaw h _ _ r.2⟩
theorem SR.thaw(c:SR K J S H)(f:J[n]?=Z9 a)(h:H a=Z9 (.frz o (.dK ws)))(r:Y0 K H J kvs ws):SR K J (S.set n (.dk kvs)) (ZE H a (.dK ws)):=by
 refine⟨by rw[c.len,qG0],c.nd,λm b x d e=>?_⟩;by_cases g:m=n
 .subst g;rw[f]at d;cases d;have i:m<S.length:=by rw[<- c.len];exact(qA3.mp f).1
  rw[qC7 i]at e;cases e;exact⟨ws,YU,r.1,RVs.thaw h _ _ r.2⟩
 .rw[qC9 (Ne.symm g)]at e;refine(c.obj m b x d e).thaw h λz=>?_;subst z;exact g ((qH9 (qA3.mp d).1 c.nd).mp (d.trans f.symm))
theorem ZH.thaw(st:ZH K J0 J H0 H)(i:H0 a=Z9 (.dK d))(j:a∈J0)(h:H a=Z9 (.frz o (.dK ws))):ZH K J0 J H0 (ZE H a (.dK ws)):=by
 have ne:∀b u,H0 b=Z9 u->(∀k,u≠.dK k)->b≠a:=λb u e n z=>by subst z;rw[i]at e;cases e;exact n _ rfl
 refine⟨st.pre,λb u g e=>?_,⟨λp c e=>Fl h (st.tk.t p c e),λp c e=>Fk h (st.tk.f p c e),λp c e=>U5 h (st.tk.u p c e) λ_ _ z=>(by cases z),λp w u e=>?_⟩⟩
 .have f:b≠a:=λz=>g (by rw[z];exact j);rw[Zq f];exact st.fr b u g e
 .rw[Zq (ne p _ e λ_ z=>by cases z)];exact st.tk.z p w u e
end
section
variable {X:Cx}{pins:yD}{Z Z0:St}{H H0:Hp}{s s0:yR}{a:yQ}{o:Obj}{ws ws0:List (ZA×V)}
theorem ZP.thaw(A:ZP X pins Z0 H0 s0)(l:H0 a=Z9 (.dK ws0))(I:ZP X pins Z H s)(h:H a=Z9 (.frz o (.dK ws))):ZP X pins Z (ZE H a (.dK ws)) s:=by
 have f:∀b,H b=Z8->b≠a:=λb n z=>by rw[z,h]at n;cases n
 refine⟨I.ok,I.os,I.bare,⟨I.base.keep,I.base.slot,λb u q n y=>?_,I.base.there,λb j q=>U5 h (I.base.tups b j q) λ_ _ z=>(by cases z),λb w u q=>?_,λb t q=>?_⟩,I.loc,I.cell,?_,λx c q=>?_,λp k=>?_,λb u q=>?_,I.len⟩
 .have e:=I.base.free b u q n y;rw[Zq (f b e)];exact e
 .have g:b≠a:=λz=>by have:=A.base.frzs b w u q;rw[z,l]at this;cases this
  rw[Zq g];exact I.base.frzs b w u q
 .obtain⟨d,e⟩:=I.base.tbls b t q;exact⟨d,U5 h e λ_ _ z=>by cases z⟩
 .rw[Zq (f _ I.free)];exact I.free
 .rw[Zq (f _ (I.freeC x c q))];exact I.freeC x c q
 .obtain⟨m,i,p3⟩:=I.pin p k;exact⟨m,by rw[Zq (f _ i)];exact i,p3⟩
 .by_cases g:b=a
  .subst g;rw[YU]at q;cases q;exact(I.hok b _ h).2
  .rw[Zq g]at q;exact(I.hok b u q).stay (λc v B r=>r) (λc r=>U5 h r λ_ _ z=>by cases z) λc j r=>U5 h r λ_ _ z=>by cases z
end
def RU(i:Nat)(c:C):C:=fun B S=>match ZY i B S with
 |.ok (.dct n) _=>match S[n]? with
  |some (.dk _)=>match c B S with
   |.ok d b=>match b[n]? with
    |some (.fk a)=>.ok d (b.set n (.dk a))
    |_=>.bad
   |_=>.bad
  |_=>c B S
 |_=>c B S
theorem rK(w:PE X e (ZD X.K c)):PE X e (ZD X.K (RU i c)):=by
 rintro f s Z H Q I ⟨J,B,S,d,x,m,t,q,y⟩;unfold RU at q;split at q
 .rename_i n _ _;split at q
  .rename_i D A;split at q
   .rename_i T E F;split at q
    .rename_i K N;cases q;refine Zx (w f s Z H (λv k=>∃j,SR X.K j E k/\ZH X.K J j H k/\RV X.K k j d v) I ⟨J,B,S,d,E,m,t,F,λv k j g b r=>⟨j,g,b,r⟩⟩) λu R z=>?_;obtain⟨v,k,M,L,j,g,b,r⟩:=z;obtain⟨a,p⟩:∃a,J[n]?=Z9 a:=⟨_,qA7 (by rw[m.len];exact(qA3.mp A).1)⟩
     obtain⟨P,l,_⟩:=m.obj n a _ p A;obtain⟨o,O,h,G⟩:=g.obj n a _ (b.at p) N;exact⟨v,ZE k a (.dK O),I.thaw l M h,L,y v _ j (g.thaw (b.at p) h G) (b.thaw l (qC2 p) h) (RV.thaw h _ _ r)⟩
    .cases q
   .cases q
  .exact w f s Z H Q I ⟨J,B,S,d,x,m,t,q,y⟩
 .exact w f s Z H Q I ⟨J,B,S,d,x,m,t,q,y⟩
def rJ:V->List V->Hp->VK->Prop:=λx a H Q=>∃z,x=.str z/\a=[]/\Builtin.Str.tooLong (Txt.upper z).length=Z5/\Q (.str (Txt.upper z)) H
theorem rH:Vh X "str.upper" rJ:=by intro a s Z H x e v f Q I c d h;obtain⟨z,rfl,rfl,b,q⟩:=h;obtain⟨t,rfl⟩:=c;cases d;exact SC.upper b ⟨.str _,H,I.tok _,⟨_,rfl⟩,q⟩
def RT:D->List D->M D:=λx a S=>match x,a with
 |.str z,[]=>if z.length<=1000/\Builtin.Str.tooLong (Txt.upper z).length=Z5 then .ok (.str (Txt.upper z)) S else .bad
 |_,_=>.bad
theorem rG:Wv X.K "str" (WZ X "str.upper") RT:=by
 intro x f S d g H J v h Q e c a rs y;unfold RT at e;split at e
 .split at e
  .rename_i b;cases e;unfold RV at a;subst a;exact⟨_,rH,_,rfl,rs.nil_inv,b.2,y.self c Ww⟩
  .cases e
 .cases e
section
variable {K:yP}{H H0 H2:Hp}{J J2:yC}{S2:ZU}{p:yQ}{kvs:List (ZA×D)}{ws:List (ZA×V)}
theorem rF(c:SR K J2 S2 H2)(m:H2 p=Z9 (.dK []))(l:p∉J2)(j:H p=Z8)(st:ZH K J J2 H H2)(s:Y0 K H2 J2 kvs ws):SR K (J2++[p]) (S2++[.dk kvs]) (ZE H2 p (.dK ws))/\ZH K J (J2++[p]) H (ZE H2 p (.dK ws)):=by
 have g:TF K H2 (ZE H2 p (.dK ws)):=Sb m (λ_ z=>by cases z) (λ_ _ z=>by cases z);refine⟨⟨by simp[c.len],?_,λn a w d e=>?_⟩,?_⟩
 .rw[qG2];refine⟨c.nd,by simp,λa t b f=>?_⟩
  grind
 .by_cases h:n<J2.length
  .rw[qB7 h]at d;rw[qB7 (by rw[<- c.len];exact h)]at e;exact(c.obj n a w d e).up g ⟨[p],rfl⟩ (Zq λz=>l (z▸qC2 d))
  .rw[qA5 (by lia)]at d;rw[qA5 (by rw[<- c.len];lia)]at e;have i:=by have:=(qA3.mp d).1;simp at this;omega
   rw[i]at d;rw[<- c.len,i]at e;simp at d e;subst d e;exact⟨ws,YU,s.up g ⟨[p],rfl⟩⟩
 .obtain⟨r,k,n⟩:=st.pre;refine⟨⟨r++[p],by rw[k,qD8],λb f=>?_⟩,λb o f q=>by rw[Zq (Vx q j)];exact st.fr b o f q,st.tk.trans g⟩
  grind
end
def PC(a b c d:C):C:=fun B=>Zi (a B) λx=>Zi (b B) λy=>Zi (c B) λf=>Zi (d B) λg S=>match VN x,VN f with
 |some k,Z9 e=>if k=e then .bad else .ok (.dct S.length) (S++[.dk [(k,y),(e,g)]])
 |_,_=>.bad
theorem rE{V O I T:C}(ha:PE X a (ZD X.K V))(hb:PE X b (ZD X.K O))(hc:PE X c (ZD X.K I))(hd:PE X d (ZD X.K T)):PE X (.Dict [Z9 a,Z9 c] [b,d] pos) (ZD X.K (PC V O I T)):=(GU (Lo ha hb (Lo hc hd GW)) rfl rfl (by simp) (by simp)).weak (by
 rintro Z H Q ⟨J,B,S,dd,S',R,r,e,y⟩;obtain⟨x,U,Y,e⟩:=Zl e;obtain⟨z,L,e2,e⟩:=Zl e;obtain⟨x2,K,e3,e⟩:=Zl e;obtain⟨G,S4,e4,e⟩:=Zl e;split at e
 .rename_i k g hk w;split at e
  .cases e
  .rename_i A;cases e;intro p E;obtain⟨s1,q⟩:=R.other (o:=.dK []) E;refine⟨J,B,S,x,U,s1,r.up q,Y,λv H1 J1 s j r1=>⟨J1,B,U,z,L,s,(r.up q).up j,e2,λu H2 J2 n m r2=>⟨J2,B,L,x2,K,n,((r.up q).up j).up m,e3,λv3 H3 J3 t i r3=>⟨J3,B,K,G,S4,t,(((r.up q).up j).up m).up i,e4,λD H4 J4 f l r4=>?_⟩⟩⟩⟩;have M:=R.out E;have P:ZE H p (.dK []) p=Z9 (.dK []):=YU;have h:=(j.trans m n.nd).trans (i.trans l f.nd) f.nd;have N:=h.fr p _ M P;have n4:=h.notIn M P;have ev:=R5 hk r1;have F:=R5 w r3;subst ev F;have em:Wp [] [(k,u),(g,D)]=[(k,u),(g,D)]:=by simp[Wp,YN,A]
   refine⟨N,[(k,u),(g,D)],rfl,by simp,?_⟩;rw[em];obtain⟨f1,W⟩:=rF (kvs:=[(k,z),(g,G)]) f N n4 E (q.trans h f.nd) (Y0.cons (RV.up (i.trans l f.nd).tk (i.trans l f.nd).ext _ _ r2) (Y0.cons r4 .nil));exact y _ _ _ f1 W (⟨p,rfl,by rw[<- f.len,qA5 (qA4 _),qD5];rfl⟩)
 .cases e)
def X2:yH:=["TooMany","NoContact","NoBridge","NoName","BadNote","NoPlace","NoTable"]
def XU(K:yP)(c:Str):Option Addr:=match wD K y9 c with
 |some (Z9 (.ref C))=>Z9 C
 |_=>Z8
theorem Fj{K:yP}{C:yQ}(h:XU K c=Z9 C):wD K y9 c=Z9 (Z9 (.ref C)):=by
 unfold XU at h;split at h
 .rename_i q;cases h;exact q
 .cases h
theorem rD{K:yP}{C:yQ}(h:wD K y9 c=Z9 (Z9 (.ref C))):XU K c=Z9 C:=by unfold XU;rw[h]
def Fi(K:yP)(c:Str):Bool:=match XU K c with
 |some C=>j8 K (.ref C) "__getattribute__" == Z9 (Z9 (.builtin "BaseException.__getattribute__"))&&j8 K (.ref C) "__class__" == Z9 (Z9 (.builtin "object.__class__"))&&W.mroIn K C (.type "object") == Z9 Z7&&W.mroIn K C (.type "BaseException") == Z9 Z7
   && j8 K (.ref C) "__getattr__" == Z9 Z8&&(W.clsIn K C).isSome&&vP K (.ref C) (.type "ValueError") == Z9 Z7&&vP K (.type "NoneType") (.ref C) == Z9 Z5
 |none=>Z5
def Fh(K:yP)(c g:Str):Bool:=match XU K c,XU K g with
 |some C,Z9 G=>vP K (.ref C) (.ref G) == Z9 (c == g)
 |_,_=>Z5
def UK(K:yP):Bool:=X2.all λc=>Fi K c&&X2.all λg=>Fh K c g
theorem PB{K:yP}(h:UK K=Z7)(k:c∈X2):∃C,XU K c=Z9 C/\VO K C/\vP K (.ref C) (.type "ValueError")=Z9 Z7/\vP K (.type "NoneType") (.ref C)=Z9 Z5:=by
 have a:=(qL7.mp (qB9.mp h c k)).1;unfold Fi at a;split at a
 .rename_i C q;simp only[qB3,beq_iff_eq]at a;obtain⟨⟨⟨⟨⟨⟨⟨e,d⟩,j⟩,i⟩,f⟩,l⟩,b⟩,g⟩:=a;exact⟨C,q,⟨e,d,j,i,f,l⟩,b,g⟩
 .cases a
theorem rC{K:yP}(h:UK K=Z7)(f:c∈X2)(e:g∈X2){C G:yQ}(d:XU K c=Z9 C)(b:XU K g=Z9 G):vP K (.ref C) (.ref G)=Z9 (c == g):=by have a:=qB9.mp (qL7.mp (qB9.mp h c f)).2 g e;unfold Fh at a;rw[d,b]at a;exact beq_iff_eq.mp a
def Y8(g:Str):D->M D:=λx S=>match x with
 |.xc c=>if c∈X2 then .ok (.bl (c == g||g == ("ValueError":Str))) S else .bad
 |.non=>.ok (.bl Z5) S
 |_=>.bad
section
variable {X:Cx}{a:yV}{ca:C}{g:Str}{p p2 pos:Pos}
theorem rB{Z:St}{G:yT}(I:ZP X f Z H s)(r:ZF v u)(h:RV X.K H J d v)(n:UK X.K=Z7)
  (e:d=.non/\vP X.K (.type "NoneType") G=Z9 b∨∃c C,d=.xc c/\c∈X2/\XU X.K c=Z9 C/\vP X.K (.ref C) G=Z9 b) (q:Q (.bl b) H):yZ (yX X.prog X.w) X.A (call (.builtin "isinstance") [u,G]) (EP X f Z Q) X.xe s:=by
 rcases e with⟨rfl,e⟩| ⟨c,C,rfl,y,k,e⟩
 .subst h;cases (r);exact wU W.kitx_none I.kIn True.intro e (λz=>nomatch z) λi=>⟨.bl b,H,I.tok i,rfl,q⟩
 .unfold RV at h;obtain⟨l,o,B,rfl,w,x,t⟩:=h;have:=rD t;rw[k]at this;cases this;cases (r);obtain⟨A,j,m,_⟩:=PB n y;rw[k]at j;cases j;exact wU (uK m) I.kIn ⟨o,(I.hok l _ w).1,x⟩ e (λz=>nomatch z) λi=>⟨.bl b,H,I.tok i,rfl,q⟩
theorem Fg(U:PE X a (ZD X.K ca))(A:Gl X "isinstance")(D:X.mg "isinstance"=Z8)(m:UK X.K=Z7)
  (n:(g = "ValueError"/\Gl X g/\X.mg g=Z8)∨(g∈X2/\Gl X g/\(∃G,X.mg g=Z9 (.ref G)/\XU X.K g=Z9 G)/\XI g)) (O:y7 [a,.Name g p2] X.env=(Z5,jU a X.env)::y7 [.Name g p2] X.env) :
  PE X (.Call (.Name "isinstance" p) [a,.Name g p2] [] pos) (ZD X.K (Xw (Y8 g) ca)):=by
 obtain⟨t,j,E,w,kN,Y⟩:∃(t:V) (j:yT),(∀u,ZF t u->u=j)/\PE X (.Name g p2) (tC t)/\vP X.K (.type "NoneType") j=Z9 Z5/\∀c C,c∈X2->XU X.K c=Z9 C->vP X.K (.ref C) j=Z9 (c == g||g == ("ValueError")):=by
  rcases n with⟨rfl,n,z⟩| ⟨o,n,⟨G,z,L⟩,hd⟩
  .refine⟨.ty "ValueError",.type "ValueError",λu h=>h,HK n z (by decide) rfl (by decide) (by decide),rfl,λc C f F=>?_⟩;obtain⟨C',i,_,k3,_⟩:=PB m f;rw[F]at i;cases i;rw[k3,beq_self_eq_true,Bool.or_true]
  .obtain⟨G',i,_,_,W⟩:=PB m o;rw[L]at i;cases i;refine⟨.ref G,.ref G,λu h=>h,L8 n z rfl hd,W,λc C f F=>?_⟩;rw[rC m f o F L];have:(g == ("ValueError"))=Z5:=by simp only[X2,qA8,qB8,or_false]at o;rcases o with rfl|rfl|rfl|rfl|rfl|rfl|rfl<;>decide
   rw[this,qP0]
 have f:X1 X (.builtin "isinstance") (λR H Q=>∃v d J b,R=[v,t]/\RV X.K H J d v/\(d=.non/\vP X.K (.type "NoneType") j=Z9 b∨∃c C,d=.xc c/\c∈X2/\XU X.K c=Z9 C/\vP X.K (.ref C) j=Z9 b)/\Q (.bl b) H):=by intro N s Z H xs us Q I r h;obtain⟨v,d,J,b,rfl,rv,e,q⟩:=h;obtain⟨u,u2,rfl,P,r2⟩:=Ra r;have:=E u2 r2;subst this;exact rB I P rv m e q
 refine(Hd f A D (by decide) (Uy U (Uy w Sn) O) (by decide) (by decide) O rfl).weak ?_;rintro Z H Q ⟨J,B,S,d,S',sr,re,e,y⟩;obtain⟨x,S1,T,e⟩:=Zl e;refine⟨J,B,S,x,S1,sr,re,T,λv H1 K l k M=>?_⟩;unfold Y8 at e;split at e
 .rename_i c;split at e
  .rename_i f;cases e;obtain⟨C,i,_⟩:=PB m f;exact⟨v,_,K,_,rfl,M,.inr ⟨c,C,rfl,f,i,Y c C f i⟩,(y.shift k).self l Xh⟩
  .cases e
 .cases e;exact⟨v,_,K,_,rfl,M,.inl ⟨rfl,kN⟩,(y.shift k).self l Xh⟩
 .cases e
end
def Kt:RS->R D
 |.rt d S=>.ok d S
 |.nx _ S=>.ok .non S
 |_=>.bad
section
variable {X:Cx}
def YW:List D->M D:=λa S=>match a with
 |[.int i]=>if i.natAbs<1000000000000000000 then .ok (.str (toString i)) S else .bad
 |_=>.bad
theorem Ff{i:Int}(b:i.natAbs<1000000000000000000):i.natAbs.log2<1920:=by
 by_cases a:i.natAbs=0
 .rw[a];decide
 .exact(Nat.log2_lt a).mpr (Nat.lt_trans b (by decide))
theorem rA:Wx X.K (YG X (.type "str")) YW:=by
 intro i S d g H J f Q e a c h;unfold YW at e;split at e
 .split at e
  .rename_i b;cases e;obtain⟨v,rfl,r⟩:=c.one;unfold RV at r;subst r;exact⟨_,AF,_,rfl,Ff b,h.self a Ww⟩
  .cases e
 .cases e
def Pz:List D->Option (yH)
 |[]=>Z9 []
 |.str z::r=>(Pz r).map (z::·)
 |_=>Z8
theorem Fe{K:yP}{H:Hp}{J:yC}:∀{ds:List D}{ss:yH}{vs:List V},Pz ds=Z9 ss->RVs K H J ds vs->vs=ss.map V.str
 |[],ss,vs,e,r=>by cases e;rw[r.nil_inv];rfl
 |x::ds,ss,vs,e,r=>by
  cases x with
  |str z =>
   obtain⟨f,b,rfl⟩:=qA1.mp e;obtain⟨v,d,rfl,a,c⟩:=r.cons_inv;unfold RV at a;subst a;rw[Fe b c];rfl
  |_=>cases e
def W4:D->List D->M D:=λx c S=>match x,c with
 |.str z,[.lst n]=>match S[n]? with
  |some (.lst b)=>match Pz b with
   |some a=>if dI z a=Z7 then .ok (.str (Txt.join z a)) S else .bad
   |none=>.bad
  |_=>.bad
 |_,_=>.bad
theorem rz:Wv X.K "str" (WZ X "str.join") W4:=by
 intro x r S d n H J v o Q e b c rs y;unfold W4 at e;split at e
 .split at e
  .rename_i q g;split at e
   .rename_i i j;split at e
    .rename_i k;cases e;unfold RV at c;subst c;obtain⟨u,rfl,a⟩:=rs.one;unfold RV at a;obtain⟨p,rfl,h⟩:=a;obtain⟨m,f,l⟩:=b.lst h g;have:=Fe j l;subst this;exact⟨_,vr,_,p,i,rfl,rfl,f,k,y.self b Ww⟩
    .cases e
   .cases e
  .cases e
 .cases e
def Py:D->List D->M D:=λx a S=>match x,a with
 |.str z,[.str y]=>.ok (.int (Txt.find z y)) S
 |_,_=>.bad
theorem ry:Wv X.K "str" (WZ X "str.find") Py:=by
 intro x g S d f H J v h Q e c b rs y;unfold Py at e;split at e
 .cases e;unfold RV at b;subst b;obtain⟨u,rfl,a⟩:=rs.one;unfold RV at a;subst a;exact⟨_,vp,_,_,rfl,rfl,y.self c XN⟩
 .cases e
open Builtin Builtin.Str in
def VJ:D->List D->M D:=λx a S=>match x,a with
 |.str z,[.str y]=>if(y.length == 0)=Z5/\z.length<=lim/\(partsBetween z (occurrences z y 0 z.length (z.length+1)) y.length).length<=lim then .ok (.lst S.length) (S++[.lst ((Txt.split z y).map D.str)])else .bad
 |_,_=>.bad
theorem NC{K:yP}:∀a:yH,RVs K H J (a.map D.str) (a.map V.str)
 |[]=>.nil
 |_::a=>.cons Ww (NC a)
theorem rq:Wv X.K "str" (WZ X "str.split") VJ:=by
 intro x l S d j H J v k Q e c f rs y;unfold VJ at e;split at e
 .split at e
  .rename_i a;cases e;unfold RV at f;subst f;obtain⟨u,rfl,b⟩:=rs.one;unfold RV at b;subst b;refine⟨_,vn,_,_,rfl,rfl,a.1,Wo a.2.1,Wo a.2.2,λp g=>?_⟩;obtain⟨i,h⟩:=c.push (o:=.lst _) (o':=.lst _) g ⟨_,YU,NC _⟩;exact y _ _ _ i h (by unfold RV;exact⟨p,rfl,by rw[<- c.len,qA5 (qA4 _),qD5];rfl⟩)
  .cases e
 .cases e
def YK(a:C):C:=fun B=>Zi (a B) λx S=>match x with
 |.int i=>if i.natAbs<1000000000000000000 then .ok (.str (toString i)) S else .bad
 |.str z=>if z.length<=lim then .ok (.str z) S else .bad
 |_=>.bad
theorem rp(i:PE X e (ZD X.K g)):PE X (.FormattedValue e (-1) Z8 pos) (ZD X.K (YK g)):=(vm i).weak (by
 rintro Z H Q ⟨J,B,S,d,n,k,l,e,y⟩;obtain⟨x,j,h,e⟩:=Zl e;refine⟨J,B,S,x,j,k,l,h,λv o m b a c=>?_⟩
 try dsimp only at e
 split at e
 .split at e
  .rename_i f;cases e;unfold RV at c;subst c;exact .inl ⟨_,rfl,Ff f,(y.shift a).self b Ww⟩
  .cases e
 .split at e
  .rename_i f;cases e;unfold RV at c;subst c;exact .inr ⟨_,rfl,Wo f,(y.shift a).self b Ww⟩
  .cases e
 .cases e)
def V2:List C->Str->C
 |[],acc=>λ_ S=>if acc.length<=lim then .ok (.str acc) S else .bad
 |c::a,acc=>fun B=>Zi (c B) λx S=>match x with
  |.str y=>if(acc++y).length<=lim then V2 a (acc++y) B S else .bad
  |_=>.bad
theorem Fd{K:yP}:∀(b:List C) (acc:Str) (Z:St) (H:Hp) (Q:VK),ZD K (V2 b acc) Z H Q->NQ (b.map (ZD K)) acc Z H Q
 |[],acc,Z,H,Q,⟨J,B,S,d,S',sr,re,e,y⟩=>by
  unfold V2 at e;split at e
  .rename_i g;cases e;exact⟨Wo g,y.self sr Ww⟩
  .cases e
 |c::b,acc,Z,H,Q,⟨J,B,S,d,S',sr,re,e,y⟩=>by
  unfold V2 at e;obtain⟨x,h,k,e⟩:=Zl e;refine⟨J,B,S,x,h,sr,re,k,λv j l f a i=>?_⟩
  try dsimp only at e
  split at e
  .split at e
   .rename_i g;unfold RV at i;subst i;exact⟨_,rfl,Wo g,Fd b _ Z j Q ⟨l,B,h,d,S',f,re.up a,e,y.shift a⟩⟩
   .cases e
  .cases e
end
def Ks(x:Str):It:=⟨λi _=>i<x.cps.size,λi H v a=>a=H/\∃c,x.cps[i]?=Z9 c/\v=.str ⟨#[c]⟩,λi _=>x.cps.size<=i⟩
theorem ro{P:yY}{w:jC}{K:PySem.W.Frag}{M:yV}(x:Str)(t:Tok)(g:yQ):XQ P w K M (Ks x) [g] g (λi h=>h.IsStrIter g "str_ascii_iterator" x t i) where
 mem:=by simp
 obj:=λi h a b j=>by
  have e:=by simpa using j
  subst e;obtain⟨o,e,c,d⟩:=a;exact⟨o,e,λv z=>by rw[d]at z;cases z⟩
 keep:=λi h q a k=>by obtain⟨o,e,r⟩:=a;exact⟨o,k g (by simp) o e,r⟩
 item:=by intro X G y n J i f s Z H E I m a C;subst G y n;obtain⟨F,p,L,A,D,B⟩:=m g (by simp);have W:=Walks.strAscii (prog:=X.prog) (w:=X.w) (I.ok.hd J) g x t;refine W.item i s _ _ C a λv q T S l N=>?_;obtain⟨c,u,R,rfl⟩:=S;have Q:ZP X f Z H { s with heap:=q,toks:=T }:=I.turned (λb o j e=>N b o (by simpa using j) e) F p A D B;obtain⟨o,e,O,d⟩:=id l;exact⟨_,rfl,Qj e O d (by decide) ⟨.str ⟨#[c]⟩,H,Q,⟨u,rfl⟩,⟨rfl,c,R,rfl⟩,l,λb j=>(m b j).1⟩⟩
 done:=by intro X G y n J i f s Z H E I m a C;subst G y n;obtain⟨F,p,L,A,D,B⟩:=m g (by simp);exact wpAny_pyNext_ascii_end (I.ok.hd J) a (Array.getElem?_eq_none C) λq U=>⟨rfl,I.turned (t':=s.toks) (λb o j e=>U b o j e) F p A D B⟩
 self:=λ_ _ _ _ _ a h=>wpAny_pyIter_striter_ascii a h
def Kr(b:TE):TI:=fun Z H R=>b Z H λv a=>∃x,v=.str x/\x.cps.all (·<128)=Z7/\R (Ks x) a
theorem rn(he:PE X e f):PI X g e (Kr f):=by
 intro a s Z H R I h;refine Zx (he a s Z H _ I h) λu c ⟨v,k,d,j,x,ex,i,q⟩=>?_;subst ex;obtain⟨t,rfl⟩:=j;refine wpAny_pyIter_ascii i ?_;refine⟨c.heap.objs.size,[c.heap.objs.size],_,_,k,rfl,d.kept (t':=c.toks) λb o e=>qA2 _ e,ro x t _,⟨_,qB5 _ rfl,rfl,rfl⟩,λb l=>?_,q⟩;have e:b=c.heap.objs.size:=by simpa using l
 subst e;exact d.fpOk (qA4 _) (d.hok.fresh (qA4 _))
section
variable {X:Cx}{tg e:yV}{ce:C}
def UJ(x:Str):List D:=x.cps.toList.map λc=>.str ⟨#[c]⟩
theorem rm{K:yP}{g:Hp}{h:yC}{x:Str}:Xf K (Ks x) (UJ x) [] h g where
 go:=λi H J S b d _ a=>by unfold UJ at a;rw[qA6,j5]at a;exact a
 yld:=λi H J S v j b d _ a y=>by obtain⟨rfl,c,f,rfl⟩:=y;exact⟨.str ⟨#[c]⟩,by unfold UJ;rw[qC1,vJ,f];rfl,b,ZH.refl _ _ _,Ww⟩
 stop:=λH J S b d _=>by show x.cps.size<=(UJ x).length;unfold UJ;rw[qA6,j5];exact qA4 _
def Zm(c:C):CI:=fun B=>Zi (c B) λx S=>match x with
 |.str z=>if z.cps.all (·<128)then .ok (UJ z,[]) S else .bad
 |_=>.bad
theorem rl(he:PE X e (ZD X.K ce)):PI X tg e (YQ X.K (Zm ce)):=(rn he).weak (by
 rintro Z H R ⟨J,B,S,d,w,n,l,m,a,y⟩;obtain⟨x,j,g,a⟩:=Zl a;refine⟨J,B,S,x,j,l,m,g,λv k h c b f=>?_⟩;split at a
 .rename_i z;split at a
  .rename_i i;cases a;unfold RV at f;subst f;exact⟨z,rfl,i,y _ k h c b rm⟩
  .cases a
 .cases a)
def YI(a b:CI):CI:=fun B S=>match a B S with
 |.ok p c=>.ok p c
 |_=>b B S
theorem rk(m:PI X tg e (YQ X.K g))(l:PI X tg e (YQ X.K k)):PI X tg e (YQ X.K (YI g k)):=λb s Z H R I ⟨J,B,S,a,w,f,i,j,d,y⟩=>by
 unfold YI at d;cases h:g B S with
 |ok p n=>rw[h]at d;cases d;exact m b s Z H R I ⟨J,B,S,a,w,f,i,j,h,y⟩
 |bad=>rw[h]at d;exact l b s Z H R I ⟨J,B,S,a,w,f,i,j,d,y⟩
 |er c n=>rw[h]at d;exact l b s Z H R I ⟨J,B,S,a,w,f,i,j,d,y⟩
end
theorem rj(n:a≠b):ZE (ZE H a o) b u=ZE (ZE H b u) a o:=by
 funext c;by_cases e:c=a
 .subst e;rw[Zq n,YU,YU]
 .by_cases d:c=b
  .subst d;rw[YU,Zq e,YU]
  .rw[Zq d,Zq e,Zq e,Zq d]
def Wt(K:yP)(C:yQ):Prop:=wD K y9 "Desk"=Z9 (Z9 (.ref C))
theorem Wt.uniq{K:yP}{C D:yQ}(a:Wt K C)(b:Wt K D):C=D:=by unfold Wt at a b;rw[a]at b;cases b;rfl
def Px:C:=λ_ S=>.ok (.ob S.length) (S++[.dk []])
section
variable {X:Cx}{e:yV}{ce:C}
theorem ri{C:yQ}(h:PE X e (Gb C "kept"))(u:Wt X.K C):PE X e (ZD X.K Px):=h.weak fun Z H Q ⟨J,B,S,d,w,j,A,i,y⟩=>by unfold Px at i;cases i;intro x dx c s b v l f m;rw[HN,rj (a:=c) f,HN];obtain⟨t,r⟩:=j.other (o:=.own x) b;obtain⟨g,q⟩:=t.other (o:=.frz (wG C dx) (.ins C dx [("kept",.ref c)])) (p:=x) (by rw[Zq (λz=>l z.symm)];exact s);obtain⟨k,n⟩:=g.push (o:=.dK []) (o':=.dk []) (p:=c) (by rw[Zq f,Zq m];exact v) ⟨[],YU,rfl,RVs.nil⟩;refine y _ _ _ k ((r.trans q g.nd).trans n k.nd) ?_;unfold RV;exact⟨x,_,C,dx,c,rfl,by rw[Zq (λz=>f z.symm),YU],by rw[<- j.len,qA5 (qA4 _),qD5];rfl,u⟩
def U4:D->M D
 |.ob n=>ret (.dct n)
 |_=>bad
theorem rh(he:PE X e (ZD X.K ce))(k:vB e "kept" X.env (jU e X.env)=jU e X.env)(u:∀C,Wt X.K C->WQ X.K C/\Vv X.K C "kept"):PE X (.Attribute e "kept" pos) (ZD X.K (Xw U4 ce)):=(vc he k).weak fun Z H Q ⟨J,B,S,d,z,l,t,c,y⟩=>by
 obtain⟨x,j,i,c⟩:=Zl c;refine⟨J,B,S,x,j,l,t,i,λv A w g f h=>?_⟩;cases x with
 |ob n =>
  unfold U4 at c;obtain⟨rfl,rfl⟩:=YA c;unfold RV at h;obtain⟨a,o,C,dx,b,rfl,p,q,m⟩:=h;obtain⟨r,s⟩:=u C m;exact⟨a,C,dx,_,.ref b,rfl,.inr ⟨o,p⟩,r,s,rfl,y _ _ _ g f (by unfold RV;exact⟨b,rfl,q⟩)⟩
 |_=>cases c
def Pw(c:List D->M D)(o:C)(a:CA):C:=fun B=>Zi (o B) λx=>match x with
 |.ob n=>Zi (a B) λb=>c (.ob n::b)
 |_=>bad
def UI(f:List D->M D)(o:C)(a:CA):C:=fun B S=>match o B S with
 | .ok (.ob n) c=>(match a B c with
  |.ok d b=>f (.ob n::d) b
  | _=>.bad)
 |_=>.bad
theorem Kq{es:yE}(c:fE (es.length+([]:List vV).length) (vC pos (y7 es env)) (wF pos (j6 [] env))=Z7)(d:(a.endLine == pos.line)=Z7):
  jU (.Call (.Attribute (.Name y b) m a) es [] pos) env=(do
   let ov <- jU (.Name y b) env
   gM a.atName
   let (f,first) <- wJ [ov] (dU ov m (do return (<- importBound (.Name y b) env).getD Z7))
   callWith pos f first (vC pos (y7 es env)) (wF pos (j6 [] env))):=by
 show(do
  let ov <- vB (.Name y b) m env (jU (.Name y b) env)
  gM a.atName
  methodCall (.Name y b) m a pos env ov (es.length+([]:List vV).length) (vC pos (y7 es env)) (wF pos (j6 [] env)))=_
 unfold methodCall calleeOf methodCallPos;rw[c,d];rfl
structure RQ(P:yY)(w:jC)(K:yP)(mg:Str->yF)(base:jB)(m:Str)(k:Nat)(sp:Sp):Prop where
 ex:∃C f fd ps,Wt K C/\WQ K C/\Uz K C m f/\YO P w K mg base (Xj P w) k f fd ps sp/\WB K fd ps []/\m ≠ "kept"
theorem Ko{K:yP}{C:yQ}{m:Str}(r:RV K H J (.ob n) v)(d:Wt K C)(f:m ≠ "kept"):∃a dx fs,v=.ref a/\Rd H a (.ins C dx fs)/\fs.lookup m=Z8:=by unfold RV at r;obtain⟨a,o,i,dx,b,rfl,g,h,c⟩:=r;obtain rfl:=Wt.uniq d c;exact⟨a,dx,_,rfl,.inr ⟨o,g⟩,by rw[qD4,show(m == ("kept":Str))=Z5 by simpa using f];rfl⟩
theorem rf{n k K:Nat}{es:yE}{G:CA}(M:RQ X.prog X.w X.K X.mg X.base m k (Xo X.K X.mg o n))(hr:Zr K X.A)(hk:k<=K)(hn:∀ds S,o ds S≠.bad->ds.length=n)
  (ho:PE X (.Name y s) (ZD X.K E)) (V:PA X (a::es) (YS X.K G)) (h1:y7 (a::es) X.env=(Z5,jU a X.env)::y7 es X.env) (h2:(vC pos (y7 es X.env)).any (·.1)=Z5) (hf:fE ((a::es).length+([]:List vV).length) (vC pos (y7 (a::es) X.env)) (wF pos (j6 [] X.env))=Z7) (U:(b.endLine == pos.line)=Z7) :
  PE X (.Call (.Attribute (.Name y s) m b) (a::es) [] pos) (ZD X.K (Pw o E G)):=by
 obtain⟨C,f,fd,ps,Y,c,hm,F,hb,P⟩:=M.ex;refine(Gd ho c hm F (hr.mono hk) hb .nil FA V h1 h2 (Kq hf U)).weak fun Z H Q ⟨J,B,S,d,S',sr,L,g,q⟩=>?_;obtain⟨x,u,R,g⟩:=Zl g;refine⟨J,B,S,x,u,sr,L,R,λv H1 O r i A=>?_⟩;cases x with
 |ob n =>
  obtain⟨w,l,e2,g⟩:=Zl g;obtain⟨p,dx,fs,rfl,T,g2⟩:=Ko A Y P;refine⟨p,dx,fs,rfl,T,g2,O,B,u,w,l,r,L.up i,e2,λN W I j h r2=>?_⟩;rw[qD6];have t:RVs X.K W I (.ob n::w) (.ref p::N):=.cons (RV.up h.tk h.ext _ _ A) r2;refine⟨by rw[<- t.len];exact hn _ l (by rw[g];exact λz=>by cases z),I,_,l,j,t,?_⟩;rw[g];exact q.shift (i.trans h j.nd)
 |_=>cases g
end
section
variable {X:Cx}
def rb(K:yP):V->List V->Hp->VK->Prop:=λx c H Q=>∃(l:yQ) (b:List V) (y:V) (N e:yQ->Prop) (dx:vK) (a:List vK),
 x=.ref l/\c=[y]/\H l=Z9 (.lst b)/\Rp K H N y dx/\Tj dx/\RpL K H e b a/\(∀d∈a,Tj d)/\Q (.int (a.countP λd=>PyData.eqv d dx:Nat)) H
theorem Fc{d c:Type}{p:d->Bool}{q:c->Bool}:∀{xs:List d}{ys:List c},xs.length=ys.length->(∀(i:Nat) (x:d) (y:c),xs[i]?=Z9 x->ys[i]?=Z9 y->p x=q y)->xs.countP p=ys.countP q
 |[],[],_,_=>rfl
 |[],_::_,h,_=>by cases h
 |_::_,[],h,_=>by cases h
 |x::xs,y::ys,h,k=>by rw[qN6,qN6,Fc (by simpa using h) λi a b f e=>k (i+1) a b (by simpa using f) (by simpa using e),k 0 x y rfl rfl]
theorem qZ(T:X.A.units+64<vT):Vh X "list.count" (rb X.K):=by
 intro B s Z H x U v W Q I S K h;obtain⟨l,xs,y,N,Y,dx,t,rfl,rfl,E,F,R,p,c,q⟩:=h;cases S;obtain⟨u,rfl,C⟩:=K.one;obtain⟨z,a,n,r,V,e⟩:=I.lstM E;obtain⟨bs,M⟩:=I.reads F C;obtain⟨as,j⟩:=I.readsL p r;have O:=SeqAt.ReadsAll.length _ _ _ j;refine vF lL ⟨_,e,rfl⟩ PySem.F.entry_list_count (PySem.F.args_list_count_2 _ _)
  (SeqAt.list_countAt l a.toArray n _ _ u (P0 s.heap dx)) ⟨e,λw P=>?_,?_⟩
 .obtain⟨m,G,rfl⟩:=qM1 (by simpa using P:w∈a);obtain⟨d,L,f,g⟩:=P4 j (qA7 G);have k:=c d (qC2 f);rw[NX g k.1];refine SeqAt.eqAt_reads d dx _ s _ _ _ _ g M k.1 R.1 ?_;have:=k.2;show X.A.units+1+min d.depth dx.depth<vT
  lia
 .have J:a.countP (P0 s.heap dx)=t.countP λd=>PyData.eqv d dx:=Fc O λi x y D A=>by obtain⟨d,L,f,g⟩:=P4 j D;rw[A]at f;cases f;exact NX g (c y (qC2 A)).1
  exact⟨.int (t.countP λd=>PyData.eqv d dx:Nat),H,I.kept (t':=s.toks+1) λb o q=>q,⟨s.toks,by rw[<- J]⟩,q⟩
end
def T6:D->List D->M D:=λx b S=>match x,b with
 |.lst n,[y]=>match S[n]?,YR 40 S y with
  |some (.lst a),Z9 e=>match a.mapM (YR 40 S)with
   |some c=>.ok (.int (c.countP λd=>PyData.eqv d e:Nat)) S
   |none=>.bad
  |_,_=>.bad
 |_,_=>.bad
theorem qY(h:X.A.units+64<vT):Wv X.K "list" (WZ X "list.count") T6:=by
 intro x G S d E H J v F Q e a D rs y;unfold T6 at e;split at e
 .rename_i n z;split at e
  .rename_i l g t o;split at e
   .rename_i f b;cases e;obtain⟨p,rfl,s⟩:=D;obtain⟨c,k,C⟩:=a.lst s t;obtain⟨u,rfl,i⟩:=rs.one;obtain⟨w,m,I⟩:=UM a 40 z u g o i;obtain⟨q,j,B⟩:=PK (λd v p e r=>UM a 40 d v p e r) l c f b C;refine⟨_,qZ h,p,c,u,_,_,g,f,rfl,rfl,k,w,⟨m,by lia⟩,q,λd A=>?_,y.self a XN⟩;have:=KJ j B d A;exact⟨this.1,by lia⟩
   .cases e
  .cases e
 .cases e
def SY:CS:=ZV (ZJ (Zv (ZS [(Xw (Y8 "TooMany") (ZY 0)),(Xw (Y8 "NoContact") (ZY 0)),(Xw (Y8 "NoBridge") (ZY 0)),(Xw (Y8 "NoPlace") (ZY 0))])) (gN 1))
 (ZV (ZJ (ZW ZQ (ZY 1) (Zv (ZS [(Xw (Y8 "NoTable") (ZY 0)),(Xw (Y8 "NoName") (ZY 0)),(Xw (Y8 "BadNote") (ZY 0))]))) (gN 1))
 (ZV (Zj (XC (Y2 (Xw (Y8 "ValueError") (ZY 0)))) (ZV (ZG (ZX (.str "other"))) ZL) ZL)
 (ZV (ZG (Uk (Zn (ZW Ze (X9 "list" T6 (ZY 1) (ZS [(ZX (.bl Z7))])) (ZX (.int 1)))) (X9 "list" Uc (ZY 1) (ZS [(ZX (.bl Z7))])) (ZX (.str "other")))) ZL)))
def U3(c:Str)(S:ZU):R D:=if c∈X2 then Kt (SY [Z9 (.xc c),Z8] S)else .bad
inductive Pv(P:yY)(w:jC)(K:yP)(mg:Str->yF)(base:jB):Prop
 |mk (fa G:yQ) (m:mg "_law_flags"=Z9 (.ref fa)) (kp:wE K (.ref fa)=Z7) (hm:mg "NetError"=Z9 (.ref G)) (hx:∀c∈X2,∀D,XU K c=Z9 D->mg c=Z9 (.ref D)/\W.exmOne K (.ref D) (.ref G)=Z9 Z7)
   (run:∀(A:jE) (outer:List Env) (s:yR) (H:Hp) (e:yQ) (oe:Obj) (c:Str) (C:yQ) (J:yC) (S S':ZU) (d:D) (Q:VK),Zr 0 A->WC P w K mg base A outer s H->H e=Z9 (Uo e oe)->oe.cls=.ref C->XU K c=Z9 C->U3 c S=.ok d S'->SR K J S H->Yw K J H d S' Q ->
    vO (yX P w) (A.mark (Z9 (.ref e))) (.call (.ref fa) ⟨[.ref e],[]⟩) (CR US outer P w H s Q E0) s)
def TZ(e:C):CS:=fun B S=>match e B S with
 |.ok d a=>.rt d a
 | .er c a=>(match U3 c a with
  |.ok d b=>.rt d b
  | _=>.bad)
 |.bad=>.bad
section
variable {X:Cx}{pins:yD}{Z:St}{H H':Hp}{s:yR}
theorem qX{C:yQ}{i:Nat}{D:Xk}(F:Pv X.prog X.w X.K X.mg X.base)(hr:Zr 0 X.A)(R:XU X.K c=Z9 C)(j:X.ex=[])(hN:X.N.Nodup)(I:ZP X pins Z H s)(tr:Th s.heap e T (.ref C))(nT:Ve X pins H T)(U:Ve X pins H e)
  (hg:Gl X "NetError") (K:Gl X "_law_flags") (hi:X.N[i]?=Z9 g) (a:X.env.scope.names.lookup g=Z9 .local) (B:XI g) (E:(g == ("__classdict__":Str))=Z5) (sr:SR X.K J S H) (l:U3 c S=.ok d N) (y:Yw X.K J H d N D.rt) {E':yL} :
  yZ (yX X.prog X.w) X.A (handleBy (.ref e) X.env [.ExceptHandler (Z9 (.Name "NetError" p)) (Z9 g) [.Return (Z9 (.Call (.Name "_law_flags" q) [.Name g q2] [] q3)) q4] q5]) (SP X pins D) E' s:=by
 obtain⟨fa,G,m,kp,hm,hx,run⟩:=F;have w:c∈X2:=by
  unfold U3 at l;split at l
  .assumption
  .cases l
 obtain⟨Q,vs,oT,ts,P,f,hd,h1,M,Y,k,h3⟩:=tr;have LT:W.Looks (yX X.prog X.w) s.heap (dX (.ref e)) (.ref C):=f▸(W.Looks.ld P).andThen .now;refine wpAny_handleBy_cons (codeAny_handlers_test (Rf (I.marked e) hg hm ?_ (by decide))) (by intro q;cases q);refine W.exm_one I.kIn LT (hx c w C R).2 _ _ _ s (λ_ _ z=>z) ?_;refine codeAny_handlers_suite_as (fU P hd h1 Y k (Array.getElem?_eq_some_iff.mp h3).1 ?_);have up:∀b,b≠T->(s.heap.update T (jL (·.setIfInBounds 3 .none))).get? b=s.heap.get? b:=λb t=>qC8 _ _ (Ne.symm t);have I2:=by
  refine I.touch j (wr:=[T]) (λb o q n _=>(up b (by simpa using n)).trans q) (λb o q n=>⟨o.slots,(up b (by simpa using n)).trans q⟩) (λb o q=>?_) λb t=>by simp at t;subst t;exact nT
  by_cases z:b=T
  .subst z;exact⟨_,qD3 _ Y (jD (jA k _))⟩
  .exact⟨o,(up b z).trans q⟩
 have I3:=I2.adopt j U ((up e (Ne.symm M)).trans P);refine Oc (v:=.ref e) I3 hN hi (.inl a) rfl (λs4 O=>?_) (.inr a);have L:i<Z.length:=by rw[I.len];exact(qA3.mp hi).1
 obtain⟨x,A⟩:=sr.other (o:=Uo e Q) U.h;refine fF (gL (wA (Rf (O.marked e) K m ?_ (by decide))));refine lQ O.ok.mod.kin kp (jH (Uy (Rg (X:=X.marked e) hi (.inl a) B E) Sn rfl q3 pins s4 _ _ (λV H'=>V=[.ref e]/\H'=ZE H e (Uo e Q)) (O.marked e) ⟨.ref e,qC7 L,rfl,rfl⟩) (λV s5 z=>?_) λ_ _ z=>False.elim z) rfl rfl;obtain⟨ws,H5,I5,rv,rfl,rfl⟩:=z;obtain⟨u,rfl,ru⟩:=WG rv;cases ru;have I6:=I5.unmark I.ok;refine⟨I5.kIn,lP (wW (run X.A X.stack s5 _ e Q c C J S N d D.rt hr I6.env0 YU f R l x (y.shift A)) λr s' h=>?_)⟩;cases r with
 |error ev=>exact False.elim h
 |ok fl =>
  cases fl with
  |next=>exact False.elim h
  |brk=>exact False.elim h
  |cont=>exact False.elim h
  |ret u =>
   obtain⟨v,H7,I7,r7,q7⟩:=I6.after h;exact uJ I7 hN hi a λs8 I8=>⟨v,_,H7,I8,r7,q7⟩
theorem qW{C:yQ}{m:Str}(U:Wt X.K C)(N:m ≠ "kept")(V:∀ds S,k ds S≠.bad->ds.length=n)(Y:SR X.K J S H)(L:RE X.K H J B Z)
  (q:match UI k w y B S with|.ok d a=>Yw X.K J H d a Q|.er c a=>(∀e o,SR X.K o a e->ZH X.K J o H e->∀C,X.mg c=Z9 (.ref C)->E (.ref C) Z8 e)| .bad=>False) :
  K1 C m (Xo X.K X.mg k n) [] E (ZD X.K w) (YS X.K y) Z H Q:=by
 unfold UI at q;cases j:w B S with
 |bad=>rw[j]at q;exact q.elim
 |er c a=>rw[j]at q;exact q.elim
 |ok x t =>
  rw[j]at q;refine⟨J,B,S,x,t,Y,L,j,λv H1 P r f G=>?_⟩;cases x with
  |ob n =>
   dsimp only at q;cases l:y B t with
   |bad=>rw[l]at q;exact q.elim
   |er c a=>rw[l]at q;exact q.elim
   |ok u i =>
    rw[l]at q;dsimp only at q;obtain⟨p,dx,fs,rfl,R,g2⟩:=Ko G U N;refine⟨p,dx,fs,rfl,R,g2,P,B,t,u,i,r,L.up f,l,λO T K h b W=>?_⟩;rw[qD6];have F:RVs X.K T K (.ob n::u) (.ref p::O):=.cons (RV.up b.tk b.ext _ _ G) W;have I:=f.trans b h.nd;refine⟨by rw[<- F.len];exact V _ i (λz=>by rw[z]at q;exact q),K,_,i,h,F,?_⟩;revert q;cases k (.ob n::u) i with
    |ok d a=>exact λq=>Yw.shift q I
    |bad=>exact λq=>q
    |er c a=>exact λq e o g A=>q e o g (I.trans A g.nd)
  |_=>exact q.elim
theorem qV{n k k' i:Nat}(F:Pv X.prog X.w X.K X.mg X.base)(M:RQ X.prog X.w X.K X.mg X.base m k (Xo X.K X.mg N n))(hr:Zr k' X.A)(hk:k<=k')(hn:∀ds S,N ds S≠.bad->ds.length=n)
  (xm:∀c∈X2,∃C,X.mg c=Z9 (.ref C)/\XU X.K c=Z9 C) (stk:X.stack=X.env::X.outer) (fr:X.env.frame=Z9 X.env.locals) (h:X.ex=[]) (hN:X.N.Nodup) (ho:PE X.nox (.Name y yp) (ZD X.K co)) (ha:PE X.nox a (ZD X.K ca))
  (h2:y7 [a] X.env=[(Z5,jU a X.env)]) (hf:fE ([a].length+([]:List vV).length) (vC g (y7 [a] X.env)) (wF g (j6 [] X.env))=Z7) (hl:(o.endLine == g.line)=Z7)
  (hg:Gl X "NetError") (hgf:Gl X "_law_flags") (hi:X.N[i]?=Z9 L) (hle:X.env.scope.names.lookup L=Z9 .local) (hn1:XI L) (hn2:(L == ("__classdict__":Str))=Z5) :
  PS X (.Try [.Return (Z9 (.Call (.Attribute (.Name y yp) m o) [a] [] g)) q6] [.ExceptHandler (Z9 (.Name "NetError" p)) (Z9 L) [.Return (Z9 (.Call (.Name "_law_flags" q) [.Name L q2] [] q3)) q4] q5] [] [] pos) (Zo X (TZ (UI N co (ZS [ca])))):=by
 rintro t s Z H D I ⟨J,B,S,sr,re,z⟩;obtain⟨C,f,fd,ps,dc,c,hm,Fn,hb,nk⟩:=M.ex;have hr0:=hr.mono (qF0 _);have w:K1 C m (Xo X.K X.mg N n) [] (λCv _ K=>∃c A C Y d Q,Cv=.ref C/\XU X.K c=Z9 C/\SR X.K Q A K/\U3 c A=.ok d Y/\Yw X.K Q K d Y D.rt) (ZD X.K co) (YS X.K (ZS [ca])) Z H D.rt:=by
  refine qW dc nk hn sr re ?_;unfold TZ at z;revert z;cases UI N co (ZS [ca]) B S with
  |ok d A=>exact λz=>z
  |bad=>exact λz=>z
  |er c A =>
   dsimp only;intro z K Q G st' C hC;cases e:U3 c A with
   |bad=>rw[e]at z;exact z.elim
   |er _ _=>rw[e]at z;exact z.elim
   |ok d Y =>
    rw[e]at z;have hcl:c∈X2:=by
     unfold U3 at e;split at e
     .assumption
     .cases e
    obtain⟨C',q1,q2⟩:=xm c hcl;rw[hC]at q1;cases q1;exact⟨c,A,C,Y,d,Q,rfl,q2,G,e,Yw.shift z st'⟩
 refine wpAny_Try_except (fF (gL (W.methodCall_KW (jH (ho t s Z H _ (I.wish _) w) (λu s1 z=>?_) λ_ _ z=>False.elim z) (Kq hf hl))));obtain⟨x,H1,I1,rx,a1,dx,fs,rfl,ea,l,w⟩:=z;have I1:=I1.unwish;obtain rfl:u=Value.ref a1:=rx;refine Ge I1 ea c hm l ?_;refine lQ (first:=[.ref a1]) (h₀:=X.base) I.ok.mod.kin hm.kp (jH (UN ha Te h2 g t s1 Z H1 _ (I1.wish _) w) (λU s2 z=>?_) λ_ _ z=>False.elim z) h2 rfl;obtain⟨vs,H2,j,r2,w⟩:=z;have j:=j.unwish;refine⟨j.kIn,?_⟩;have rr:ZK (.ref a1::vs) (.ref a1::U):=.cons rfl r2;have hl2:(Value.ref a1::U).length=ps.length:=by have:=Fn.len _ _ _ _ w;rw[qD6]at this;rw[<- rr.length];exact this
 refine lP (wW (Fn.run X.A X.stack s2 H2 ⟨.ref a1::U,[]⟩ (.ref a1::U) (.ref a1::vs) D.rt _ (hr.mono hk) j.env0 (by have:=hb s2 (.ref a1::U) j.kIn (by rw[qD6];exact hl2);rw[qD6]at this;exact this) rr (by rw[qD6]at w;exact w)) λr s' P=>?_);cases r with
 |error ev =>
  obtain⟨e,T,Cv,K,rfl,tr,ne,nT,os,R,un,hok,he,hT,⟨c',A,C',Y,d,Q,rfl,hC,G,hfl,y⟩⟩:=P;have E:=j.call' os un hok R λb z=>absurd z (by simp);have fl:=E.stack;have O:=E.ok.frames;rw[stk]at fl O;refine Ga O fl fr tr λh' lf=>?_;rw[<- stk]at lf;obtain⟨T',V,tr'⟩:=lf.tr;have nE:=j.new1 h ne he;have I3:=E.touch h lf.keep lf.slot lf.there λb hb=>by
   simp only[qA8,qB8,or_false]at hb;rcases hb with rfl|rfl
   .exact nE
   .exact j.new1 h nT hT
  exact qX F hr0 hC h hN I3 tr' (E.new1 h (qL5 V) (E.hok.fresh V)) nE hg hgf hi hle hn1 hn2 G hfl y
 |ok fl =>
  cases fl with
  |ret u =>
   obtain⟨v,K,E,r,q⟩:=j.after P;exact⟨v,Z,K,E,r,q⟩
  |next=>exact False.elim P
  |brk=>exact False.elim P
  |cont=>exact False.elim P
end
mutual
noncomputable def V1(k:Nat):D->Bool
 |.lst n=>decide (n<k)
 |.dct n=>decide (n<k)
 |.ob n=>decide (n<k)
 |.tup a=>inDs k a
 |.rol a=>inDs k a
 |_=>Z7
noncomputable def inDs(k:Nat):List D->Bool
 |[]=>Z7
 |x::a=>V1 k x&&inDs k a
end
def UH(k:Nat):O->Bool
 |.lst b=>inDs k b
 |.dk a=>inDs k (a.map (·.2))
 |.dt a=>inDs k (a.map (·.2))
 |.fk a=>inDs k (a.map (·.2))
section
variable {K:yP}{H:Hp}{J J':yC}{k:Nat}
mutual
theorem RV.few(h:∀i,i<k->J[i]?=J'[i]?):∀(d:D) (v:V),V1 k d=Z7->RV K H J d v->RV K H J' d v:=λd v i r=>by
 cases d with
 |lst n=>unfold V1 at i;unfold RV at r ⊢;obtain⟨a,e,q⟩:=r;exact⟨a,e,by rw[<- h n (by simpa using i)];exact q⟩
 |dct n=>unfold V1 at i;unfold RV at r ⊢;obtain⟨a,e,q⟩:=r;exact⟨a,e,by rw[<- h n (by simpa using i)];exact q⟩
 |ob n=>unfold V1 at i;unfold RV at r ⊢;obtain⟨a,o,C,dx,b,e,z,q,w⟩:=r;exact⟨a,o,C,dx,b,e,z,by rw[<- h n (by simpa using i)];exact q,w⟩
 |tup f=>unfold V1 at i;unfold RV at r ⊢;obtain⟨p,c,e,q,r⟩:=r;exact⟨p,c,e,q,RVs.few h f c i r⟩
 |rol f=>unfold V1 at i;unfold RV at r ⊢;obtain⟨p,c,e,q,r⟩:=r;exact⟨p,c,e,q,RVs.few h f c i r⟩
 |_=>unfold RV at r ⊢;exact r
theorem RVs.few(h:∀i,i<k->J[i]?=J'[i]?):∀(ds:List D) (vs:List V),inDs k ds=Z7->RVs K H J ds vs->RVs K H J' ds vs:=λds vs i r=>by
 cases ds with
 |nil=>unfold RVs at r ⊢;exact r
 |cons d ds =>
  unfold inDs at i;rw[qB3]at i;unfold RVs at r ⊢;obtain⟨v,a,e,c,b⟩:=r;exact⟨v,a,e,RV.few h d v i.1 c,RVs.few h ds a i.2 b⟩
end
theorem OR.few(h:∀i,i<k->J[i]?=J'[i]?)(i:UH k o=Z7)(r:OR K H J a o):OR K H J' a o:=by
 cases o with
 |lst d=>unfold UH at i;unfold OR at r ⊢;obtain⟨b,e,r⟩:=r;exact⟨b,e,RVs.few h _ _ i r⟩
 |dk c=>unfold UH at i;unfold OR at r ⊢;obtain⟨b,e,r⟩:=r;exact⟨b,e,r.1,RVs.few h _ _ i r.2⟩
 |dt c=>unfold UH at i;unfold OR at r ⊢;obtain⟨b,e,r⟩:=r;exact⟨b,e,r.1,RVs.few h _ _ i r.2⟩
 |fk c=>unfold UH at i;unfold OR at r ⊢;obtain⟨o,b,e,r⟩:=r;exact⟨o,b,e,r.1,RVs.few h _ _ i r.2⟩
end
def RP:O->O->Bool
 |.lst b,.lst a=>decide (b=a)
 |.dk b,.dk a=>decide (b=a)
 |.dt b,.dt a=>decide (b=a)
 |_,_=>Z5
theorem qU(h:RP a b=Z7):a=b:=by cases a<;>cases b<;>simp_all [RP]
def Ws:List O->List O->Bool
 |[],[]=>Z7
 |a::r,b::t=>RP a b&&Ws r t
 |_,_=>Z5
theorem Kn:∀{a b:List O},Ws a b=Z7->a=b
 |[],[],_=>rfl
 |[],_::_,h=>by cases h
 |_::_,[],h=>by cases h
 |a::r,b::t,h=>by unfold Ws at h;rw[qB3]at h;rw[qU h.1,Kn h.2]
def RO(k:Nat)(b:List D->M D):List D->M D:=λa S =>
 if inDs k a&&(S.take k).all (UH k)&&decide (k<=S.length)then
  (match b a (S.take k)with
  |.ok d e=>if V1 0 d&&Ws (e.take k) (S.take k)then .ok d S else b a S
  |.er c e=>if Ws (e.take k) (S.take k)then .er c S else b a S
  | .bad=>b a S)
 else b a S
theorem qT(a:∀ds S,b ds S≠.bad->ds.length=n):∀ds S,RO k b ds S≠.bad->ds.length=n:=λds S h=>by
 unfold RO at h;split at h
 .cases e:b ds (S.take k)with
  |bad=>rw[e]at h;exact a ds S h
  |_=>exact a ds (S.take k) (by rw[e];exact λz=>by cases z)
 .exact a ds S h
section
variable {K:yP}{H H':Hp}{J J1:yC}{k:Nat}{S S1:ZU}
theorem SR.less(c:SR K J S H)(i:(S.take k).all (UH k)=Z7)(hk:k<=S.length):SR K (J.take k) (S.take k) H:=by
 have g:∀i,i<k->J[i]?=(J.take k)[i]?:=λi h=>by rw[qE0 h]
 refine⟨by rw[qD2,qD2,c.len],c.nd.sublist (qM9 ..),λn a o e b=>?_⟩;have d:n<k:=by
  have:=(qA3.mp b).1;rw[qD2]at this
  lia
 rw[<- g n d]at e;have f:=b;rw[qE0 d]at b;exact(c.obj n a o e b).few g (qB9.mp i _ (qC2 f))
theorem SR.back(c:SR K J S H)(hk:k<=S.length)(i:(S.take k).all (UH k)=Z7)(l:SR K J1 S1 H')(st:ZH K (J.take k) J1 H H')(e:S1.take k=S.take k):SR K J S H'/\ZH K J J H H':=by
 obtain⟨A,w,_⟩:=st.pre;have y:k<=J.length:=by rw[c.len];exact hk
 have lt:(J.take k).length=k:=by rw[qD2];lia
 have g:∀i,i<k->J1[i]?=J[i]?:=λi s=>by rw[w,qB7 (by rw[lt];exact s),qE0 s]
 have sub:∀b,b∈J.take k->b∈J:=λb p=>qG3 p;refine⟨⟨c.len,c.nd,λn a o d t=>?_⟩,⟨⟨[],by simp,by simp⟩,λb o p h=>st.fr b o (λz=>p (sub b z)) h,st.tk⟩⟩;by_cases m:n<k
 .have q:(S.take k)[n]?=Z9 o:=by rw[qE0 m];exact t
  have v:S1[n]?=Z9 o:=by rw[<- e,qE0 m]at q;exact q
  exact(l.obj n a o (by rw[g n m];exact d) v).few g (qB9.mp i _ (qC2 q))
 .have out:a∉J.take k:=λz=>by
   obtain⟨j,f⟩:=qI6 z;have x:j<k:=by have:=(qA3.mp f).1;rw[lt]at this;exact this
   rw[qE0 x]at f;have:=(qH9 (qA3.mp f).1 c.nd).mp (f.trans d.symm)
   lia
  obtain⟨u,r⟩:=c.isS (qC2 d);exact(c.obj n a o d t).up st.tk ⟨[],by simp⟩ ((st.fr a u out r).trans r.symm)
end
theorem qS{K:yP}(h:Xo K A (RO k t) n vs H Q E):Xo K A t n vs H Q E:=by
 obtain⟨m,J,b,S,f,o,y⟩:=h;unfold RO at y;by_cases r:(inDs k b&&(S.take k).all (UH k)&&decide (k<=S.length))=Z7
 .rw[if_pos r]at y;simp only[qB3,decide_eq_true_eq]at r;obtain⟨⟨B,q⟩,p⟩:=r;have g:∀i,i<k->J[i]?=(J.take k)[i]?:=λi z=>by rw[qE0 z]
  cases e:t b (S.take k)with
  |bad=>rw[e]at y;exact⟨m,J,b,S,f,o,y⟩
  |ok d w =>
   rw[e]at y;dsimp only at y;by_cases a:(V1 0 d&&Ws (w.take k) (S.take k))=Z7
   .rw[if_pos a]at y;rw[qB3]at a;refine⟨m,J.take k,b,S.take k,f.less q p,RVs.few g _ _ B o,?_⟩;rw[e];intro v s F l j I;obtain⟨x,u⟩:=f.back p q l j (Kn a.2);exact y v s J x u (RV.few (k:=0) (λi z=>absurd z (Nat.not_lt_zero _)) _ _ a.1 I)
   .rw[if_neg a]at y;exact⟨m,J,b,S,f,o,y⟩
  |er c w =>
   rw[e]at y;dsimp only at y;by_cases a:Ws (w.take k) (S.take k)=Z7
   .rw[if_pos a]at y;refine⟨m,J.take k,b,S.take k,f.less q p,RVs.few g _ _ B o,?_⟩;rw[e];intro s F l j C G;obtain⟨x,u⟩:=f.back p q l j (Kn a);exact y s J x u C G
   .rw[if_neg a]at y;exact⟨m,J,b,S,f,o,y⟩
 .rw[if_neg r]at y;exact⟨m,J,b,S,f,o,y⟩
def WT(X:Cx)(scope:jW)(N:yH)(cl:List (Str×yQ))(s:yR)(H:Hp)(C:yQ)(ex:yC)(xe:yL):Cx:={ XZ X scope N cl s H C ex with xe:=xe }
section
variable {X:Cx}{scope:jW}{N:yH}{cl:List (Str×yQ)}{s0:yR}{H0:Hp}{C:yQ}{ex:yC}{xe:yL}{pins:yD}{Z:St}{H:Hp}{s:yR}
theorem qR(h:(XZ X scope N cl s0 H0 C ex).Ok):(WT X scope N cl s0 H0 C ex xe).Ok:=⟨h.mod,h.kind,h.glob,h.blt,h.above,h.inj,h.has,h.cab,h.hd,h.frames,h.stk,h.exf,h.bs,h.bsz,h.noex,h.exfs,h.funs,h.frf⟩
theorem okE'(h:(WT X scope N cl s0 H0 C ex xe).Ok):(XZ X scope N cl s0 H0 C ex).Ok:=⟨h.mod,h.kind,h.glob,h.blt,h.above,h.inj,h.has,h.cab,h.hd,h.frames,h.stk,h.exf,h.bs,h.bsz,h.noex,h.exfs,h.funs,h.frf⟩
theorem TY(I:ZP (XZ X scope N cl s0 H0 C ex) pins Z H s):ZP (WT X scope N cl s0 H0 C ex xe) pins Z H s:=⟨qR I.ok,I.os,I.bare,I.base,I.loc,I.cell,I.free,I.freeC,I.pin,I.hok,I.len⟩
theorem invE'(I:ZP (WT X scope N cl s0 H0 C ex xe) pins Z H s):ZP (XZ X scope N cl s0 H0 C ex) pins Z H s:=⟨okE' I.ok,I.os,I.bare,I.base,I.loc,I.cell,I.free,I.freeC,I.pin,I.hok,I.len⟩
end
theorem qQ{U D:yQ}{C:Nat->jB->Prop}{R:g7->yR->Prop}
  (hc:Y.calm=Z7) (hx:∀e s',Y.xe e s'->lW (yX Y.prog Y.w) Y.A Y.env (λe s'=>R (.error e) s') e s') (T:XQ Y.prog Y.w Y.K I JJ l U C) (a:∀H,(∀b∈l,H b=Z8)->∀b∈l,Yx Y [] H b)
  (hg:PG Y I g) (M:Uv Y h tc) (X:PE Y elt te) (G:∀i m ys H2,W i m ys H2->P7 JJ D W Q g tc te p i m ys H2) (fin:∀k E,ZP Y [] p k E->Q k->R (.ok .next) E)
   (h0:VR Y p C l W n s) (P:C 0 s.heap):vO (yX Y.prog Y.w) Y.A (.compStart (.ListComp elt [⟨I,iter,h,0⟩] scope pos) 0 (.ref U) (.ref D) Y.env) R s:=by
 have c:vO (yX Y.prog Y.w) Y.A (.compLoop (.ListComp elt [⟨I,iter,h,0⟩] scope pos) 0 (.ref U) (.ref D) Y.env) R s:=by
  refine GS (VR Y p C l W) ?_ n h0;rintro n s4 ⟨i,ys,k,I4,B,w,w4⟩;obtain⟨hD4,hd⟩:=G i n ys k w4;rcases hd with⟨F,q⟩| ⟨go,hz,step⟩
  .refine Zx (T.done Y rfl rfl rfl hc i [] s4 _ k _ I4 (a _ w) B F) λr E ⟨Z,I5⟩=>?_;subst Z;exact fin k E I5 q
  .refine Zx (T.item Y rfl rfl rfl hc i [] s4 _ k _ I4 (a _ w) B go) λr E ⟨u,Z,h5⟩=>?_;subst Z;refine Zx h5 λ_ s6 ⟨x,H6,I6,r6,y6,j,S⟩=>?_;have I6':=I6.pinned (a _ S) (T.obj _ _ j);have back:∀{f:St}{t:Hp}{s7:yR}{m:Nat}{zs:List V},ZP Y ([]++Re l s6.heap) f t s7->Uw p f->W (i+1) m zs t->VR Y p C l W m s7:=λ{f t s7 m zs} A hw w7=>by refine⟨i+1,zs,t,A.unpinned.weak hw.1 hw.2,T.keep _ _ _ j λb K o e=>(A.pin (b,o) (qD0 _ (qD0 _ (Sr K e)))).1,λb K=>?_,w7⟩;obtain⟨o,e,d⟩:=T.obj _ _ j b K;exact(A.pin (b,o) (qD0 _ (qD0 _ (Sr K e)))).2.1
   have L:=hx;refine jH (hg _ s6 _ H6 x u _ I6' r6 (step x H6 y6)) (λ_ s7 ⟨f,t,A,v,q7⟩=>?_) L;refine jH (M _ s7 f t _ A q7) (λb s8 ⟨H8,I8,q8⟩=>?_) L;cases b with
   |false =>
    obtain⟨J,N,w8⟩:=(by simpa using q8)
    exact⟨J,N,back I8 v w8⟩
   |true =>
    refine jH (X _ s8 f H8 _ I8 q8) (λy s9 ⟨vy,H9,I9,r9,q9⟩=>?_) L;obtain⟨hD9,J,N,w9⟩:=q9;refine jH (Lz _ s9 f H9 (.ref D) [vy] (.ref D) [y] (λ_ H=>W (i+1) J (ys++[vy]) H) I9 rfl (.cons r9 .nil) ⟨_,ys,vy,rfl,rfl,hD9,hz,w9⟩) (λz s10 ⟨_,H10,O,_,q10⟩=>?_) L;exact⟨J,N,back O v q10⟩
 exact lY c (T.self _ 0 _ _ _ P c)
section
variable {X:Cx}{scope:jW}{N:yH}{pins:yD}{Z:St}
def RN(X:Cx)(scope:jW)(cl:List (Str×yQ))(C:yQ)(R:g7->yR->Prop):yL:=lW (yX X.prog X.w) X.A (dP scope cl C X.env) (λe a=>R (.error e) a)
theorem qP{u:yT->yQ->g7->yR->Prop}{Q:V->Hp->Prop}
  (L:Tp X scope N k js) (K:ZP X pins Z a s2) (T:XQ X.prog X.w X.K v F j E I) (l:I 0 s2.heap) (B:∀b∈j,Yx X pins a b)
  (hg:∀cl s H C ex y,PG (WT X scope N cl s H C ex y) v g) (w:∀cl s H C ex y,Uv (WT X scope N cl s H C ex y) f tc)
  (x:∀cl C,s2.heap.objs.size<=C->s2.heap.objs.size≠C->PE (WT X scope N cl s2 a C j (RN X scope cl C (u (.ref s2.heap.objs.size) C))) elt P)
  (hW:∀D,a D=Z8->∃W:Nat->Nat->List V->Hp->Prop,(∃m,W 0 m [] (ZE a D (.lst [])))/\∀i m ys a,W i m ys a->P7 F D W (Q (.ref D)) g tc P (W0 k js Z) i m ys a)
  (A:∀cl C t r,s2.heap.objs.size<=C->s2.heap.objs.size≠C->ZP (XZ X scope N cl s2 a C j) [] (W0 k js Z) t r->Q (.ref s2.heap.objs.size) t->u (.ref s2.heap.objs.size) C (.ok .next) r) :
  yZ (yX X.prog X.w) X.A (newList []) (λacc s3=>yZ (yX X.prog X.w) X.A (gK scope X.env.globals (Yi X.env scope.names []) [] X.env.qual Z8 .none (Z9 X.env)) (λd G =>
   vO (yX X.prog X.w) X.A (.compStart (.ListComp elt [⟨v,iter,f,0⟩] scope pos) 0 (.ref E) acc { d with scope:=mX scope X.env }) (u acc d.locals) G) X.xe s3) X.xe s2:=by obtain⟨W,⟨m0,R⟩,h⟩:=hW s2.heap.objs.size (K.hok.fresh (qA4 _));refine GO L K T l B λcl C G M O J n=>?_;have ok:=J.ok;refine qQ (Y:=WT X scope N cl s2 a C j (RN X scope cl C (u (.ref s2.heap.objs.size) C))) L.calm (λe s' z=>z) T (λH' hn b c=>⟨hn b c,(ok.exf b c).1,ok.exfs b c,.inl c,(ok.exf b c).2,λp S=>by cases S⟩) (hg _ _ _ _ _ _) (w _ _ _ _ _ _) (x _ _ M O) h (λt r U q=>A cl C t r M O (invE' U) q) ⟨0,[],_,TY J,n,λb c=>?_,R⟩ n;obtain⟨o,e,_⟩:=T.obj _ _ l b c;rw[Zq (qC0 (qB1 e))];exact(B b c).1
end
section
variable {M:m4}{A:jE}{E:yL}{s:yR}{e T:yQ}{cls:yT}
theorem qO(o:Wy s.heap e T cls)
  (n:∀h',(∀b,b≠T->h'.get? b=s.heap.get? b)->(∃o',h'.get? T=Z9 o')->Wy h' e T cls->E (.ref e) { s with heap:=h' }):yZ M A (PySem.passOn c (.ref e) d:Sem l) Q E s:=by obtain⟨q,m,u,t,v,i,rfl,h,g,j,f,a,r⟩:=o;have k:=(Array.getElem?_eq_some_iff.mp r).1;unfold PySem.passOn;refine yO (jJ i h g ?_);rw[if_neg (show ¬(Value.ref T == Value.none)=Z7 from by simp)];unfold mY;refine yO (yO (jJ i h g ?_));rw[if_pos (show(Value.ref T != Value.none)=Z7 from by simp)];refine j3 f a k (uD (n _ (λb p=>qC8 _ _ (Ne.symm p)) ⟨_,qD3 _ f (jD (jA a _))⟩ ?_));exact⟨q,m,_,_,_,(qC8 _ _ j).trans i,rfl,h,g,j,qD3 _ f (jD (jA a _)),jA a _,by simp[k];rfl⟩
end
section
variable {X:Cx}{scope:jW}{N:yH}{cl:List (Str×yQ)}{C:yQ}{fp:yC}{pins:yD}{Z:St}{H2:Hp}{s2:yR}{Q:yL}{acc:yT}
theorem qN(j:X.stack=X.env::X.outer)(W:X.env.frame=Z9 X.env.locals)(I2:ZP X pins Z H2 s2)(K:∀b∈fp,Yx X pins H2 b)(hC:s2.heap.objs.size<=C):
  Wm (Xj X.prog X.w) (WT X scope N cl s2 H2 C fp (RN X scope cl C (compPost (yX X.prog X.w) X.A X.xe Z8 Q acc C))) (EX X):=by
 intro pins' Z' H s ev R I h;obtain⟨e,T,Cc,S,rfl,tr,ne,nT,os,D,un,hok,he,hT,hE⟩:=h;have f:=I.call' os un hok D λb z=>absurd z (by simp);have fl:=f.stack;have fr:=f.ok.frames;have fl:R.heap.FunFrames X.base (X.env::X.outer):=by rw[<- j];exact fl
 have fr:X.A.frames=Z9 (X.env::X.outer):=by rw[<- j];exact fr
 have here:∀b o,s2.heap.get? b=Z9 o->b∉fp->∃o',s.heap.get? b=Z9 o':=λb o q a=>I.base.there b o q a;have old:∀b,s.heap.get? b=Z8->b∈fp∨s2.heap.get? b=Z8:=λb a=>by
  by_cases B:b∈fp
  .exact .inl B
  .cases q:s2.heap.get? b with
   |none=>exact .inr rfl
   |some o =>
    obtain⟨o',l⟩:=here b o q B;rw[a]at l;cases l
 obtain⟨m,L,_⟩:=id f.loc;have L:R.heap.Ns C m:=L;obtain⟨oC,es,ep,E,hC2⟩:=id L;have Cs:=I.loc;obtain⟨m0,hn0,_⟩:=Cs;obtain⟨oC0,_,_,x,_⟩:=id hn0;have Ce:C≠e:=λz=>by have:s.heap.get? C=Z9 oC0:=x;rw[z,ne]at this;cases this
 have CT:C≠T:=λz=>by have:s.heap.get? C=Z9 oC0:=x;rw[z,nT]at this;cases this
 have r:∀b∈X5 (X.env::X.outer),b<s2.heap.objs.size:=λb a=>by have f3:=I2.stack;rw[j]at f3;obtain⟨_,o,ho,_⟩:=f3.mem a;exact qB1 ho
 have Cf:C∉X5 (X.env::X.outer):=λz=>absurd (r C z) (qK9.mpr hC);show yZ _ _ (vM (.ref e) (dP scope cl C X.env)) _ _ _;rw[uT (env:=X.env) (e:=.ref e) (env':=dP scope cl C X.env) rfl];refine uR fr fl W tr λh' T' k1 k2 k3 Y t'=>?_;have hnC:h'.Ns C m:=L.at λo q=>k1 C o q (by simp[Ce,CT]) Cf;refine⟨m,hnC,λh'' sb cenv hce=>?_⟩;have G:R.heap.get? T'=Z8:=by
  cases q:R.heap.get? T' with
  |none=>rfl
  |some o=>exact absurd (qB1 q) (qK9.mpr Y)
 have V:C≠T':=λz=>by rw[z,G]at E;cases E
 have t2:Wy h'' e T' Cc:=by obtain⟨oe,vs,oT,ts,v,g,p,q3,q4,q5,q6,q7,q8⟩:=t';exact⟨oe,vs,oT,ts,v,(sb.2 e (Ne.symm Ce)).trans g,p,q3,q4,q5,(sb.2 T' (Ne.symm V)).trans q6,q7,q8⟩
 refine qO t2 λh3 P p2 t3=>?_;have A:S T'=Z8:=f.hok.fresh Y;have i:∀b o,s2.heap.get? b=Z9 o->b∉fp->b≠e/\b≠T/\b≠C/\b≠T':=λb o q B=>by
  obtain⟨o1,g⟩:=here b o q B;refine⟨λz=>?_,λz=>?_,qC0 (qA9 (qB1 q) hC),λz=>?_⟩
  .rw[z,ne]at g;cases g
  .rw[z,nT]at g;cases g
  .obtain⟨o2,p⟩:=f.base.there b o q B;rw[z,G]at p;cases p
 have U:=f.base;refine hE.2.2 pins Z H2 s2 e T' _ fp I2 t3 (old e ne) (.inr ?_) f.os f.bare ⟨λb o q n a k=>?_,λb o q n a k=>?_,U.free,λb o q k=>?_,U.tups,U.frzs,U.tbls⟩ (λb a=>⟨(K b a).2.2.2.1,(K b a).2.1,(K b a).2.2.2.2.1,(K b a).2.2.2.2.2⟩) ?_ he A
 .cases q:s2.heap.get? T' with
  |none=>rfl
  |some o=>exact absurd (qA9 (qB1 q) (qC6 f.sz (qA4 _))) (qK9.mpr Y)
 .obtain⟨O,M,w,J⟩:=i b o q k;have g:=U.keep b o q n a k;exact(P b J).trans ((sb.2 b w).trans (k1 b o g (by simp[O,M]) (by rw[<- j];exact a)))
 .obtain⟨O,M,w,J⟩:=i b o q k;obtain⟨sl,g⟩:=U.slot b o q n a k;obtain⟨sl',p⟩:=k2 b _ g (by simp[O,M]);exact⟨sl',(P b J).trans ((sb.2 b w).trans p)⟩
 .obtain⟨O,M,w,J⟩:=i b o q k;obtain⟨o1,g⟩:=U.there b o q k;obtain⟨o2,p⟩:=k3 b o1 g;exact⟨o2,(P b J).trans ((sb.2 b w).trans p)⟩
 .intro b u q;refine(f.hok b u q).stay (λc w' t l=>?_) (λ_ l=>l) λ_ _ l=>l;have hs:∃z,S c=Z9 z:=by
   rcases t with rfl|t
   .exact⟨u,q⟩
   .exact⟨_,t⟩
  obtain⟨z,hz⟩:=hs;have F:∀d:yQ,S d=Z8->c≠d:=λd hd y=>by rw[y,hd]at hz;cases hz
  refine(P c (F T' A)).trans ((sb.2 c (F C f.free)).trans (k1 c w' l (by simp[F e he,F T hT]) λy=>?_));exact F c (f.stkFree c (by show c∈X5 X.stack;rw[j];exact y)) rfl
end
section
variable {X:Cx}
def YE:D->D->M D:=λx y S=>match x,y with
 |.str i,.str j=>.ok (.bl (!(Builtin.Str.occurrences j i 0 j.length 1).isEmpty)) S
 |_,_=>Ya Z5 x y S
theorem qM(f:X.A.units+64<vT):YM X.K (Zp X (y8 .In)) YE:=by
 intro x y S d g H J v u Q e c b a h;unfold YE at e;split at e
 .cases e;unfold RV at b a;subst b a;exact⟨_,AU,_,_,rfl,rfl,h.self c Xh⟩
 .exact tJ f _ _ _ _ _ _ _ _ _ _ e c b a h
theorem qL:Y3 X (jG .Mult) (λx y H Q=>∃z k,x=.str z/\y=.int k/\z.length<=16/\0<=k/\k<=1000/\Q (.str (Txt.mul z k)) H):=by intro a s Z H x y v u Q I e c h;obtain⟨z,k,rfl,rfl,g,i,f,q⟩:=h;obtain⟨t,rfl⟩:=e;obtain⟨b,rfl⟩:=c;exact SB.mul (mulOk_of 16 1048576 (by lia) (by lia) (by lia) (by decide) (by decide)) λb d=>⟨.str _,H,I.tok d,⟨_,rfl⟩,q⟩
def V0:D->D->M D:=λx y S=>match x,y with
 |.str z,.int k=>if z.length<=16/\0<=k/\k<=1000 then .ok (.str (Txt.mul z k)) S else .bad
 |_,_=>Vb x y S
theorem qK:YM X.K (Zp X (jG .Mult)) V0:=by
 intro x y S d g H J v u Q e f a b h;unfold V0 at e;split at e
 .split at e
  .rename_i c;cases e;unfold RV at a b;subst a b;exact⟨_,qL,_,_,rfl,rfl,c.1,c.2.1,c.2.2,h.self f Ww⟩
  .cases e
 .exact tZ _ _ _ _ _ _ _ _ _ _ e f a b h
def QV:D->List D->M D:=λx a S=>match x,a with
 |.str z,[.str y]=>.ok (.bl (V5 z y)) S
 |_,_=>.bad
theorem qJ:Wv X.K "str" (WZ X "str.startswith") QV:=by
 intro x g S d f H J v h Q e c b rs y;unfold QV at e;split at e
 .cases e;unfold RV at b;subst b;obtain⟨u,rfl,a⟩:=rs.one;unfold RV at a;subst a;exact⟨_,vh,_,_,rfl,rfl,y.self c Xh⟩
 .cases e
open Builtin Builtin.Str in
def QU:D->List D->M D:=λx a S=>match x,a with
 |.str z,[.str y,.int k]=>if((decide (k < -(2 ^ 63:Int))||decide (k≥2 ^ 63))=Z5)/\(y.length == 0)=Z5/\z.length<=lim/\(partsBetween z (occurrences z y 0 z.length (gW z k)) y.length).length<=lim then .ok (.lst S.length) (S++[.lst ((Q2 z y k).map D.str)])else .bad
 |_,_=>.bad
theorem qI:Wv X.K "str" (WZ X "str.split") QU:=by
 intro x m S d k H J v l Q e f g rs y;unfold QU at e;split at e
 .split at e
  .rename_i b;cases e;unfold RV at g;subst g;obtain⟨u,n,rfl,c,a⟩:=rs.two;unfold RV at c a;subst c a;refine⟨_,vf,_,_,_,rfl,rfl,b.1,b.2.1,Wo b.2.2.1,Wo b.2.2.2,λp h=>?_⟩;obtain⟨j,i⟩:=f.push (o:=.lst _) (o':=.lst _) h ⟨_,YU,NC _⟩;exact y _ _ _ j i (by unfold RV;exact⟨p,rfl,by rw[<- f.len,qA5 (qA4 _),qD5];rfl⟩)
  .cases e
 .cases e
end
section
variable {X:Cx}
theorem qH:X1 X (.type "dict") (λvs H Q=>∃a kvs,vs=[.ref a]/\H a=Z9 (.dK kvs)/\∀p,H p=Z8->Q (.ref p) (ZE H p (.dK kvs))):=by intro b s Z H j i Q I g h;obtain⟨a,kvs,rfl,e,q⟩:=h;obtain⟨u,rfl,c⟩:=g.one;cases c;exact zo I (.inl e) λp k d f=>⟨.ref p,_,f,rfl,q p d⟩
def Vr:List D->M D:=λb S=>match b with
 |[.dct n]=>match S[n]? with
  |some (.dk a)=>.ok (.dct S.length) (S++[.dk a])
  |_=>.bad
 |_=>PF b S
theorem Fb(q:X.calm=Z7):Wx X.K (YG X (.type "dict")) Vr:=by
 intro u S d t H J s Q e c i h;unfold Vr at e;split at e
 .split at e
  .rename_i l j;cases e;obtain⟨v,rfl,r⟩:=i.one;unfold RV at r;obtain⟨a,rfl,m⟩:=r;obtain⟨f,b,g⟩:=c.get m j;refine⟨_,qH,a,f,rfl,b,λp b=>?_⟩;obtain⟨n,k⟩:=c.push (o:=.dK f) (o':=.dk _) b ⟨f,YU,g.1,RVs.up (R9 b) ⟨[p],rfl⟩ _ _ g.2⟩;exact h _ _ _ n k (by unfold RV;exact⟨p,rfl,by rw[<- c.len,qA5 (qA4 _),qD5];rfl⟩)
  .cases e
 .exact sL q _ _ _ _ _ _ _ _ e c i h
end
def QT:List (ZA×D)->Option (yH)
 |[]=>Z9 []
 |(.inr n,_)::r=>(QT r).map (n::·)
 |_=>Z8
theorem E9:∀{kvs:List (ZA×D)}{ns:yH},QT kvs=Z9 ns->kvs.map (·.1)=ns.map Sum.inr
 |[],ns,h=>by cases h;rfl
 |(.inr n,_)::r,ns,h=>by obtain⟨a,e,rfl⟩:=qA1.mp h;rw[qB2,qB2,E9 e]
 |(.inl n,_)::r,ns,h=>by cases h
def Xe:List D->M D:=λb S=>match b with
 |[.dct n]=>match S[n]? with
  |some (.dk a)=>match QT a with
   |some c=>if c.length<64 then .ok (.lst S.length) (S++[.lst ((Yc c).map D.str)])else .bad
   |none=>.bad
  |_=>.bad
 |_=>R4 b S
theorem qG(i:X.calm=Z7)(j:X.A.units+64<vT):Wx X.K (YG X (.builtin "sorted")) Xe:=by
 intro z S d y H J x Q e b g h;unfold Xe at e;split at e
 .split at e
  .rename_i n k;split at e
   .rename_i f t;split at e
    .rename_i s;cases e;obtain⟨v,rfl,r⟩:=g.one;unfold RV at r;obtain⟨a,rfl,q⟩:=r;obtain⟨m,c,w⟩:=b.get q k;refine⟨_,vu i,a,m,f,rfl,c,w.1.symm.trans (E9 t),s,λp c=>?_⟩;obtain⟨u,l⟩:=b.push (o:=.lst _) (o':=.lst _) c ⟨_,YU,NC (Yc f)⟩;exact h _ _ _ u l (by unfold RV;exact⟨p,rfl,by rw[<- b.len,qA5 (qA4 _),qD5];rfl⟩)
    .cases e
   .cases e
  .cases e
 .exact sW i j _ _ _ _ _ _ _ _ e b g h
def Xz:List (Str×yH):=[("net",["N","TEXT"]),("nets",[]),("show",["A"]),("function",["A"]),("lets",["A","S"]),("shut",["A","S"]),("pieces",["A","S"]),("row",["A","B","N"]),("side",["A","B","N"]),("about",["A","N"]),("cut",["A","C","N"]),("bridge",["A","C","N"]),("trim",["A","N"]),("alike",["A","B"]),("fewest",["A"]),("ways",["A"]),("bars",["A"])]
def TX(K:yP)(p:yQ)(b:yH):Prop:=∃(o:Obj) (a:yJ) (n:Nat),K.lookup p=Z9 o/\o.cls=.type "tuple"/\o.data=.seq a n/\a.size<=yW/\ZK (b.map V.str) a.toList
structure U2(w:jC)(K:yP)(mg:Str->yF):Prop where
 ex:∃(a:yQ) (o:Obj) (kvs:List (ZA×yT)),mg "FORMS"=Z9 (.ref a)/\(a == vA)=Z5/\K.lookup a=Z9 o/\o.cls=.type "dict"/\o.dict=Z8/\(∀P (h:jB),h.get? a=Z9 o->h.DictOf (Yy P w) a kvs) /\
  ∀z,match Xz.lookup z with
   |some ts=>∃p,wZ kvs (.inr z)=Z9 (.ref p)/\TX K p ts
   |none=>wZ kvs (.inr z)=Z8
section
variable {X:Cx}{a:yV}{ta:TA}{ca:C}{np apos cpos:Pos}
def qF(K:yP)(c:TA):TE:=fun Z H Q=>c Z H λd b=>∃z,d=[.str z]/\match Xz.lookup z with
 |some e=>∀p,TX K p e->Q (.ref p) b
 |none=>Q .non b
theorem qE(F:U2 X.w X.K X.mg)(V:Gl X "FORMS")(M:PA X [a] ta)(R:y7 [a] X.env=[(Z5,jU a X.env)])
  (i:((vC cpos (y7 [a] X.env)).all (λx=>!x.1)&&(wF cpos (j6 [] X.env)).all (λx=>x.1.isSome)
   && decide ([a].length+([]:List vV).length+(if([]:List vV).isEmpty then 0 else 1)<30))=Z7)
  (f:(apos.endLine == cpos.line)=Z7):PE X (.Call (.Attribute (.Name "FORMS" np) "get" apos) [a] [] cpos) (qF X.K ta):=by
 intro c s Z H Q I h;obtain⟨d,o,N,O,j,E,W,U,r,val⟩:=F.ex;have g:=L8 (pos:=np) (v:=.ref d) V O rfl (by decide) c s Z H (λv q=>v=.ref d/\q=H) I ⟨rfl,rfl⟩;refine lU rfl i f rfl (Zx g λv D ⟨x,q,A,P,ex,K⟩=>?_);subst ex K;cases P;have B:D.heap.get? d=Z9 o:=A.kIn _ _ E;refine⟨"dict","dict.get",lM,mN,PySem.F.type_dict_get,⟨o,B,W⟩,λb e=>by cases e;exact⟨o,B,U⟩,?_⟩;have t:=M cpos c D Z q _ A h;rw[R]at t ⊢;refine wY rfl (fS ?_);refine Zx t λus w ⟨Y,y,n,S,z,T,l⟩=>?_;subst T;obtain⟨u,rfl,J⟩:=S.one;have m:w.heap.get? d=Z9 o:=n.kIn _ _ E;have G:=r X.prog w.heap m;refine call_meetsIn mN G.typeIs PySem.F.entry_dict_get (PySem.F.args_dict_get_2 _ _) (meets_dict_get (Yy X.prog X.w) d (Tq (k:=.inr z) J) j) ⟨_,G.mapOf,?_⟩;have v:=val z;revert l v;cases Xz.lookup z with
 |some ts =>
  rintro l ⟨p,e,L⟩;rw[e];exact⟨.ref p,y,n.tok _,rfl,l p L⟩
 |none =>
  intro l e;rw[e];exact⟨.non,y,n.tok _,rfl,l⟩
def RM:List D->M D
 |[.str z]=>match Xz.lookup z with
  |some b=>ret (.ktp b)
  |none=>ret .non
 |_=>bad
theorem qD(F:U2 X.w X.K X.mg)(q:Gl X "FORMS")(k:PE X a (ZD X.K ca))(h:y7 [a] X.env=[(Z5,jU a X.env)])
  (g:((vC cpos (y7 [a] X.env)).all (λx=>!x.1)&&(wF cpos (j6 [] X.env)).all (λx=>x.1.isSome)
   && decide ([a].length+([]:List vV).length+(if([]:List vV).isEmpty then 0 else 1)<30))=Z7)
  (b:(apos.endLine == cpos.line)=Z7):PE X (.Call (.Attribute (.Name "FORMS" np) "get" apos) [a] [] cpos) (ZD X.K (ZT RM (ZS [ca]))):=(qE F q (UN k Te h) h g b).weak (by
 rintro Z H Q ⟨J,B,S,d,w,o,s,e,y⟩;obtain⟨m,l,i,e⟩:=Zl e;refine⟨J,B,S,m,l,o,s,i,λt A u f c n=>?_⟩;unfold RM at e;split at e
 .rename_i z;obtain⟨v,rfl,r⟩:=n.one;unfold RV at r;subst r;refine⟨z,rfl,?_⟩;revert e;cases Xz.lookup z with
  |some D =>
   intro e p j;obtain⟨rfl,rfl⟩:=YA e;exact y _ _ _ f c (by unfold RV;exact⟨p,rfl,.inr j⟩)
  |none =>
   intro e;obtain⟨rfl,rfl⟩:=YA e;exact y _ _ _ f c Td
 .cases e)
end
structure Sc where
 N:yH
 names:List (Str×jQ)
 fn:Option Str
def VI:List (Str×Str):=[("say","Desk.say"),("with_nets","Desk.with_nets")]
abbrev Wc:yH:=X2
def qC:yH:=["refuse_no_place","refuse_no_contact","net_within","in_row","side_by_side","cut","bridged","net_read","setting_read","number_read","name_read","word_read","words_of","line_read","refuse_unfit","net_made"]
def TV:Str := "law"
def Pu:yH:=["len","range","list","tuple","min","max","zip","isinstance","all","any","int","bool","enumerate","str","sorted","dict","sum","repr","set","abs"]
def NB:List (Str×Str):=[("FIGURES","0123456789"),("LETTERS","abcdefghijklmnopqrstuvwxyz")]
structure U1(ar:Str->yK)(mg:Str->yF):Prop where
 b:∀y:Str,y∈Pu->ar y=Z8->mg y=Z8
 t:∀x z,NB.lookup x=Z9 z->∃t,mg x=Z9 (.str z t)
structure Y5(X:Cx)(sc:Sc)(ar:Str->yK)(cl:Str->List D->M D)(k:Nat):Prop where
 calm:X.calm=Z7
 N:X.N=sc.N
 nd:sc.N.Nodup
 gl:∀x,sc.names.lookup x=Z9 .globalImplicit->Gl X x
 loc:∀x,sc.names.lookup x=Z9 .local->X.env.scope.names.lookup x=Z9 .local
 cel:∀x,sc.names.lookup x=Z9 .cell->X.env.scope.names.lookup x=Z9 .cell
 fre:∀x,sc.names.lookup x=Z9 .free->X.env.scope.names.lookup x=Z9 .cell∨X.env.scope.names.lookup x=Z9 .free
 fnn:sc.fn.isSome=Z7->∀x,X.fn x=Z7
 room:Zr (3*k) X.A
 roomT:sc.fn=Z9 TV->Zr (3*k+2) X.A
 xk:UK X.K=Z7
 xm:∀c∈X2,∃C,X.mg c=Z9 (.ref C)/\XU X.K c=Z9 C
 xv:X.mg "ValueError"=Z8
 fl:Pv X.prog X.w X.K X.mg X.base
 hex:sc.fn.isSome=Z7->X.ex=[]
 own:lC (yX X.prog X.w) X.A X.env X.xe
 exc:∀x∈Wc,∃C,X.mg x=Z9 (.ref C)/\Xi X.K C
 blt:U1 ar X.mg
 dkc:∀C,Wt X.K C->WQ X.K C/\Vv X.K C "kept"
 fm:U2 X.w X.K X.mg
 dkn:sc.fn=Z9 TV->∃C g,Up X.K X.mg "Desk" "kept" C g/\Wt X.K C
 mts:∀m q,VI.lookup m=Z9 q->RQ X.prog X.w X.K X.mg X.base m (3*k) (Xo X.K X.mg (cl q) 2)/\∀ds S,cl q ds S≠.bad->ds.length=2
 frm:sc.fn.isSome=Z7->X.stack=X.env::X.outer/\X.env.frame=Z9 X.env.locals
 fns:∀x n,ar x=Z9 n->(∃ps,QY X.prog X.w X.K X.mg X.base x ps (3*k) (Xo X.K X.mg (cl x) n))/\∀ds S,cl x ds S≠.bad->ds.length=n
section
variable {X:Cx}{sc:Sc}{ar:Str->yK}{cl:Str->List D->M D}{k:Nat}
theorem Y5.vis(h:Y5 X sc ar cl k)(a:sc.names.lookup x=Z9 .local∨sc.names.lookup x=Z9 .cell∨sc.names.lookup x=Z9 .free):Vw X.env.scope x:=by
 rcases a with q|q|q
 .exact .inl (h.loc x q)
 .exact .inr (.inl (h.cel x q))
 .exact .inr (h.fre x q)
def Pt(o:Option jQ):Bool:=o == Z9 .local||o == Z9 .cell||o == Z9 .free
theorem E8(h:Pt o=Z7):o=Z9 .local∨o=Z9 .cell∨o=Z9 .free:=by
 unfold Pt at h
 grind
def TU:yH->Str->Nat->yK
 |[],_,_=>Z8
 |y::r,x,i=>if y=x then Z9 i else TU r x (i+1)
theorem QS:∀{N:yH}{x:Str}{i j:Nat},TU N x i=Z9 j->i<=j/\N[j - i]?=Z9 x
 |[],_,_,_,h=>by cases h
 |y::r,x,i,j,h=>by
  unfold TU at h;split at h
  .simp_all
  .obtain⟨b,a⟩:=QS h;refine⟨by lia,?_⟩;have e:j - i=(j - (i+1))+1:=by lia
   rw[e,List.getElem?_cons_succ];exact a
def Km(a:Sc)(ar:Str->yK)(x:Str):Option C:=match TU a.N x 0 with
 |some i=>if Pt (a.names.lookup x)&&!(x == ("__debug__":Str))&&!(x == ("__classdict__":Str))then Z9 (ZY i)else Z8
 |none=>if a.names.lookup x=Z9 .globalImplicit/\ar x=Z8 then
   (if x=("int":Str)then Z9 (ZX (.ty "int"))else if x=("bool":Str)then Z9 (ZX (.ty "bool"))else if x=("tuple":Str)then Z9 (ZX (.ty "tuple"))
    else if x=("list":Str)then Z9 (ZX (.ty "list"))else if x=("str":Str)then Z9 (ZX (.ty "str"))
    else if XI x then(NB.lookup x).map λz=>ZX (.str z)
    else Z8)
  else Z8
theorem qB(h:Y5 X sc ar cl k)(e:Km sc ar x=Z9 c):PE X (.Name x pos) (ZD X.K c):=by
 unfold Km at e;split at e
 .rename_i i s;split at e
  .rename_i m;cases e;simp only[qB3,qF6]at m;obtain⟨⟨r,t⟩,p⟩:=m;have:=(QS s).2;exact NO (Rg (by rw[h.N];exact this) (h.vis (E8 r)) t p)
  .cases e
 .split at e
  .rename_i a;have g:=h.gl x a.1;have d:∀n b l j f,PE X (.Name x pos) (ZD X.K (ZX (.ty n))):=λn b l j f =>
    UO (HK (v:=.ty n) g f b rfl l j) λK H J=>by rfl
   split at e
   .rename_i q;subst q;cases e;exact d "int" GK (by decide) (by decide) (h.blt.b _ (by decide) a.2)
   .split at e
    .rename_i q;subst q;cases e;exact d "bool" yb (by decide) (by decide) (h.blt.b _ (by decide) a.2)
    .split at e
     .rename_i q;subst q;cases e;exact d "tuple" GL (by decide) (by decide) (h.blt.b _ (by decide) a.2)
     .split at e
      .rename_i q;subst q;cases e;exact d "list" Lh (by decide) (by decide) (h.blt.b _ (by decide) a.2)
      .split at e
       .rename_i q;subst q;cases e;exact d "str" GJ (by decide) (by decide) (h.blt.b _ (by decide) a.2)
       .split at e
        .rename_i j;obtain⟨z,o,rfl⟩:=qA1.mp e;obtain⟨u,f⟩:=h.blt.t x z o;exact UO (L8 (v:=.str z) g f ⟨u,rfl⟩ j) λ_ _ _=>Ww
        .cases e
  .cases e
def E7:Const->Option C
 |.none=>Z9 (ZX .non)
 |.bool b=>Z9 (ZX (.bl b))
 |.int i=>Z9 (ZX (.int i))
 |.str x=>Z9 (ZX (.str x))
 |_=>Z8
theorem qA(e:E7 v=Z9 c):PE X (.Constant v j pos) (ZD X.K c):=by
 cases v with
 |none=>cases e;exact UO B5 λ_ _ _=>Td
 |bool b=>cases e;exact UO HL λ_ _ _=>Xh
 |int i=>cases e;exact UO HM λ_ _ _=>XN
 |str x=>cases e;exact UO L9 λ_ _ _=>Ww
 |_=>cases e
def E6:dL->Option (D->D->M D)
 |.Add=>Z9 ZQ
 |.Sub=>Z9 (YZ λi j=>i - j)
 |.Mult=>Z9 V0
 |.Mod=>Z9 WY
 |.FloorDiv=>Z9 Wi
 |.Pow=>Z9 Va
 |.LShift=>Z9 Ui
 |.RShift=>Z9 Uh
 |.BitAnd=>Z9 (YZ wV)
 |.BitOr=>Z9 (YZ fO)
 |.BitXor=>Z9 (YZ mP)
 |_=>Z8
theorem Kl(e:E6 a=Z9 o):YM X.K (Zp X (jG a)) o:=by
 cases a with
 |Add=>cases e;exact FV
 |Sub=>cases e;exact t8
 |Mult=>cases e;exact qK
 |Mod=>cases e;exact tY
 |FloorDiv=>cases e;exact tX
 |Pow=>cases e;exact tW
 |LShift=>cases e;exact tV
 |RShift=>cases e;exact tU
 |BitAnd=>cases e;exact t7
 |BitOr=>cases e;exact t6
 |BitXor=>cases e;exact t5
 |_=>cases e
def RL:fR->Option (D->D->M D)
 |.Eq=>Z9 Ze
 |.NotEq=>Z9 Yh
 |.Lt=>Z9 U8
 |.LtE=>Z9 (Y1 λi j=>decide (i<=j))
 |.Gt=>Z9 (Y1 λi j=>decide (j<i))
 |.GtE=>Z9 (Y1 λi j=>decide (j<=i))
 |.Is=>Z9 QZ
 |.IsNot=>Z9 PJ
 |.In=>Z9 YE
 |.NotIn=>Z9 (Ya Z7)
theorem TR(h:Zr k X.A)(e:RL b=Z9 o):YM X.K (Zp X (y8 b)) o:=by
 have a:=h.units;have c:=h.units0;cases b with
 |Eq=>cases e;exact FU a
 |NotEq=>cases e;exact tO a
 |Lt=>cases e;exact tP c
 |LtE=>cases e;exact tS
 |Gt=>cases e;exact tR
 |GtE=>cases e;exact tQ
 |Is=>cases e;exact tN
 |IsNot=>cases e;exact tM
 |In=>cases e;exact qM a
 |NotIn=>cases e;exact tI a
def Yg:yV->Bool
 |.Starred _ _=>Z5
 |_=>Z7
theorem Yp{es:yE}(h:Yg a=Z7):y7 (a::es) env=(Z5,jU a env)::y7 es env:=by cases a<;>first|rfl|cases h
def zA1?(f:yV->Option C):yE->Option (List C)
 |[]=>Z9 []
 |e::a=>if Yg e then(f e).bind λc=>(zA1? f a).map (c::·)else Z8
def Yn(X:Cx)(f:yV->Option C):Prop:=∀e c,f e=Z9 c->PE X e (ZD X.K c)
variable {f:yV->Option C}
theorem VH(b:Yn X f):∀{es:yE}{cs:List C},zA1? f es=Z9 cs->PA X es (YS X.K (ZS cs))/\(∀e∈es,Yg e=Z7)
 |[],cs,e=>by cases e;exact⟨Te,by simp⟩
 |a::es,cs,e=>by
  unfold zA1? at e;split at e
  .rename_i j;obtain⟨c,g,e⟩:=qA0.mp e;obtain⟨h,d,e⟩:=qA1.mp e;subst e;obtain⟨i,l⟩:=VH b d;exact⟨UN (b a c g) i (Yp j),λe m=>by
    grind⟩
  .cases e
theorem Pr{es:yE}(h:∀e∈es,Yg e=Z7):(vC pos (y7 es env)).any (·.1)=Z5:=by
 induction es with
 |nil=>rfl
 |cons a es b =>
  rw[Yp (h a (by simp))];show(Z5||(vC pos (y7 es env)).any (·.1))=Z5;rw[b λe c=>h e (by simp[c])];rfl
def Pq:yV->Bool
 |.Slice _ _ _ _=>Z7
 |_=>Z5
theorem qz(h:Pq b=Z5):LH b:=by cases b<;>first|(intro o i;rfl)| cases h
def zB8?(f:yV->Option C):Option yV->Option CO
 |none=>Z9 XF
 |some e=>(f e).map X3
theorem E5(b:Yn X f)(h:zB8? f e=Z9 c):PO X e (Vc X.K c):=by
 cases e with
 |none=>cases h;exact uc
 |some a =>
  obtain⟨g,i,d⟩:=qA1.mp h;subst d;exact ub (b a g i)
def RK(f:yV->Option C)(a b:yV):Option C:=match b with
 |.Slice lo g Z8 _=>(f a).bind λc=>(zB8? f lo).bind λe=>(zB8? f g).map λh=>XY YH c e h
 |_=>if Pq b then Z8 else(f a).bind λc=>(f b).map λd=>ZW ZI c d
theorem qy(h:Zr k X.A)(d:Yn X f)(e:RK f a b=Z9 c):PE X (.Subscript a b pos) (ZD X.K c):=by
 unfold RK at e;split at e
 .obtain⟨i,j,e⟩:=qA0.mp e;obtain⟨o,g,e⟩:=qA0.mp e;obtain⟨p,l,e⟩:=qA1.mp e;subst e;exact ua tF (d a i j) (E5 d g) (E5 d l)
 .split at e
  .cases e
  .rename_i n;obtain⟨i,j,e⟩:=qA0.mp e;obtain⟨m,g,e⟩:=qA1.mp e;subst e;exact ud (tG (G1 h)) (d a i j) (d b m g) (qz (by simpa using n))
def Pp(f:yV->Option C)(a:yV)(g:List fR)(bs:yE):Option C:=match g with
 |[op]=>match bs with
  |[b]=>if fP op b then Z8 else(RL op).bind λo=>(f a).bind λd=>(f b).map λe=>ZW o d e
  |_=>Z8
 |[op,op']=>match bs with
  |[b,c]=>if fG [op,op'] [b,c]then Z8 else(RL op).bind λo=>(RL op').bind λi=>(f a).bind λd=>(f b).bind λe=>(f c).map λh=>Vd o i d e h
  |_=>Z8
 |_=>Z8
theorem qx(h:Zr k X.A)(g:Yn X f)(e:Pp f a d bs=Z9 c):PE X (.Compare a d bs pos) (ZD X.K c):=by
 unfold Pp at e;split at e
 .rename_i t;split at e
  .rename_i b;split at e
   .cases e
   .rename_i m;obtain⟨o,q,e⟩:=qA0.mp e;obtain⟨p,j,e⟩:=qA0.mp e;obtain⟨l,n,e⟩:=qA1.mp e;subst e;exact uw (TR h q) (g a p j) (g b l n) (by simpa using m)
  .cases e
 .rename_i t r;split at e
  .rename_i b c;split at e
   .cases e
   .rename_i m;obtain⟨o,q,e⟩:=qA0.mp e;obtain⟨v,i,e⟩:=qA0.mp e;obtain⟨p,j,e⟩:=qA0.mp e;obtain⟨l,n,e⟩:=qA0.mp e;obtain⟨s,u,e⟩:=qA1.mp e;subst e;exact uv (TR h q) (TR h i) (g a p j) (g b l n) (g c s u) (by simpa using m)
  .cases e
 .cases e
def Kk(f:yV->Option C)(a:yV)(ops:List fR)(bs:yE):Option CT:=match ops with
 |[op,op',op2]=>match bs with
  |[b,c,d]=>if fG [op,op',op2] [b,c,d]then Z8 else(RL op).bind λo=>(RL op').bind λi=>(RL op2).bind λj=>(f a).bind λe=>(f b).bind λh=>(f c).bind λg=>(f d).map λl=>PL o i j e h g l
  |_=>Z8
 |ops=>(Pp f a ops bs).map Zn
theorem qw(h:Zr k X.A)(i:Yn X f)(e:Kk f a r bs=Z9 c):PT X (.Compare a r bs pos) (YY X.K c):=by
 unfold Kk at e;split at e
 .rename_i E w z;split at e
  .rename_i b c d;split at e
   .cases e
   .rename_i m;obtain⟨o,q,e⟩:=qA0.mp e;obtain⟨x,j,e⟩:=qA0.mp e;obtain⟨B,u,e⟩:=qA0.mp e;obtain⟨p,g,e⟩:=qA0.mp e;obtain⟨l,n,e⟩:=qA0.mp e;obtain⟨s,v,e⟩:=qA0.mp e;obtain⟨A,y,e⟩:=qA1.mp e;subst e;exact uq (TR h q) (TR h j) (TR h u) (i a p g) (i b l n) (i c s v) (i d A y) (by simpa using m)
  .cases e
 .obtain⟨s,g,e⟩:=qA1.mp e;subst e;unfold Pp at g;split at g
  .split at g
   .split at g
    .cases g
    .rename_i m;obtain⟨o,q,e⟩:=qA0.mp g;obtain⟨p,t,e⟩:=qA0.mp e;obtain⟨l,n,e⟩:=qA1.mp e;subst e;exact F4 (TR h q) (i _ p t) (i _ l n) (by simpa using m)
   .cases g
  .split at g
   .split at g
    .cases g
    .rename_i m;obtain⟨o,q,e⟩:=qA0.mp g;obtain⟨x,j,e⟩:=qA0.mp e;obtain⟨p,t,e⟩:=qA0.mp e;obtain⟨l,n,e⟩:=qA0.mp e;obtain⟨s,v,e⟩:=qA1.mp e;subst e;exact uu (TR h q) (TR h j) (i _ p t) (i _ l n) (i _ s v) (by simpa using m)
   .cases g
  .cases g
def NA:yV->Bool
 |.Name _ _=>Z7
 |.Subscript _ _ _=>Z7
 |.Call _ (_::_) _ _=>Z7
 |.Constant (.str _) _ _=>Z7
 |_=>Z5
theorem E4(h:NA o=Z7):vB o c env (jU o env)=jU o env:=by
 cases o with
 |Call f b e d =>
  cases b with
  |nil=>cases h
  |cons a r=>cases f<;>rfl
 |Constant v j d=>cases v<;>first|rfl|cases h
 |_=>first|rfl|cases h
def E3(x:Str):Option (List D->M D):=if x=("str":Str)then Z9 YW else Z8
def E2(x:Str):Option (List D->M D) :=
 if x=("dict":Str)then Z9 Vr else
 E3 x
def Nz(x:Str):Option (List D->M D) :=
 if x=("len":Str)then Z9 Zt else
 if x=("isinstance":Str)then Z9 Yo else
 if x=("tuple":Str)then Z9 V4 else
 if x=("list":Str)then Z9 NI else
 if x=("min":Str)then Z9 Ug else
 if x=("max":Str)then Z9 U7 else
 if x=("all":Str)then Z9 (W6 λbs=>bs.all id)else
 if x=("int":Str)then Z9 VM else
 if x=("sorted":Str)then Z9 Xe else
 E2 x
def E1:yV->Option (yE)
 |.Call (.Name x _) as [] _=>if x=("range":Str)then Z9 as else Z8
 |_=>Z8
def Wb:List D->M D:=λa S=>match a with
 |[.int j]=>if -4611686018427387904<=j/\j<4611686018427387904/\j<=1000 then .ok (.lst S.length) (S++[.lst (Y7 0 j.toNat)])else .bad
 |[.int i,.int j]=>if -4611686018427387904<=i/\i<4611686018427387904/\-4611686018427387904<=j/\j<4611686018427387904/\j - i<=1000 then .ok (.lst S.length) (S++[.lst (Y7 i (j - i).toNat)])else .bad
 |_=>.bad
def Kj(c:Sc)(ar:Str->yK)(cl:Str->List D->M D)(f:yV->Option C)(x:Str)(es:yE):Option C :=
 if c.names.lookup x=Z9 .globalImplicit then
  match ar x with
  |some n=>if es.length=n/\es≠[]/\XI x then(zA1? f es).map λa=>ZT (cl x) (ZS a)else Z8
  |none=>match es with
   |[e] =>
    match E1 e with
    |some b=>if x=("list":Str)/\ar "range"=Z8/\c.names.lookup ("range":Str)=Z9 .globalImplicit/\(b.length=1∨b.length=2)then(zA1? f b).map λa=>ZT Wb (ZS a)else Z8
    |none=>(Nz x).bind λo=>(zA1? f es).map λa=>ZT o (ZS a)
   |_::_=>(Nz x).bind λo=>(zA1? f es).map λa=>ZT o (ZS a)
   |[]=>Z8
 else Z8
theorem qv{K:yP}(lo:Int)(n:Nat):RVs K H J (Y7 lo n) (Q8 lo n):=by
 unfold Y7 Q8;generalize List.range n=l
 induction l with
 |nil=>exact .nil
 |cons a r b=>exact .cons XN b
set_option maxHeartbeats 2000000 in
theorem EZ(h:Y5 X sc ar cl k)(w:sc.names.lookup x=Z9 .globalImplicit)(c:ar x=Z8)(b:Nz x=Z9 o){es:yE}(n:PA X (e::es) (YS X.K (ZS r)))(u:∀a∈e::es,Yg a=Z7):PE X (.Call (.Name x p) (e::es) [] pos) (ZD X.K (ZT o (ZS r))):=by
 have g:=h.gl x w;have v:=Yp (es:=es) (env:=X.env) (u e (by simp));have t:(vC pos (y7 es X.env)).any (·.1)=Z5:=Pr λa n=>u a (by simp[n]);unfold Nz at b;have i:∀(id:String) (l:jF x=Z9 (.builtin id)) (j:X.mg x=Z8) (d:x ≠ "__name__") (m:XI x) (o:List D->M D),Wx X.K (YG X (.builtin id)) o->PE X (.Call (.Name x p) (e::es) [] pos) (ZD X.K (ZT o (ZS r))):=λid l j d m o s =>
  (Hd PM g j l n d m v t).weak (FW s)
 have T:∀(id:String) (l:jF x=Z9 (.type id)) (j:X.mg x=Z8) (d:x ≠ "__name__") (m:XI x) (o:List D->M D),Wx X.K (YG X (.type id)) o->PE X (.Call (.Name x p) (e::es) [] pos) (ZD X.K (ZT o (ZS r))):=λid l j d m o s =>
  (N8 PM g j l n d m v t).weak (FW s)
 split at b
 .rename_i q;subst q;cases b;exact i "len" yi (h.blt.b _ (by decide) c) (by decide) (by decide) _ tE
 split at b
 .rename_i q;subst q;cases b;exact i "isinstance" yd (h.blt.b _ (by decide) c) (by decide) (by decide) _ tj
 split at b
 .rename_i q;subst q;cases b;exact T "tuple" GL (h.blt.b _ (by decide) c) (by decide) (by decide) _ tw
 split at b
 .rename_i q;subst q;cases b;exact T "list" Lh (h.blt.b _ (by decide) c) (by decide) (by decide) _ (sX h.calm)
 split at b
 .rename_i q;subst q;cases b;exact i "min" yg (h.blt.b _ (by decide) c) (by decide) (by decide) _ (tD h.calm)
 split at b
 .rename_i q;subst q;cases b;exact i "max" yf (h.blt.b _ (by decide) c) (by decide) (by decide) _ (tB h.calm)
 split at b
 .rename_i q;subst q;cases b;exact i "all" yc (h.blt.b _ (by decide) c) (by decide) (by decide) _ (tf h.calm)
 split at b
 .rename_i q;subst q;cases b;exact T "int" GK (h.blt.b _ (by decide) c) (by decide) (by decide) _ tu
 split at b
 .rename_i q;subst q;cases b;exact i "sorted" (by decide) (h.blt.b _ (by decide) c) (by decide) (by decide) _ (qG h.calm h.room.units)
 unfold E2 at b;split at b
 .rename_i q;subst q;cases b;exact T "dict" (by decide) (h.blt.b _ (by decide) c) (by decide) (by decide) _ (Fb h.calm)
 unfold E3 at b;split at b
 .rename_i q;subst q;cases b;exact T "str" GJ (h.blt.b _ (by decide) c) (by decide) (by decide) _ rA
 .cases b
theorem qu(h:Y5 X sc ar cl k)(hx:sc.names.lookup ("list":Str)=Z9 .globalImplicit)(hn:ar "list"=Z8)(hr:sc.names.lookup ("range":Str)=Z9 .globalImplicit)(w:ar "range"=Z8)(x:PA X g (YS X.K (ZS F)))(O:∀a∈g,Yg a=Z7)(t:g.length=1∨g.length=2){p pos K b:Pos}:
  PE X (.Call (.Name "list" p) [.Call (.Name "range" K) g [] b] [] pos) (ZD X.K (ZT Wb (ZS F))):=by
 have V:=h.gl _ hx;have g2:=h.gl _ hr;have R:PE X (.Call (.Name "range" K) g [] b) (N9 (YG X (.type "range")) (YS X.K (ZS F))):=by
  cases g with
  |nil=>simp at t
  |cons e es=>exact N8 PM g2 (h.blt.b _ (by decide) w) yh x (by decide) (by decide) (Yp (O e (by simp))) (Pr λa x=>O a (by simp[x]))
 have L:=N8 (p:=p) (pos:=pos) (PM) V (h.blt.b _ (by decide) hn) Lh (Uy R Sn rfl) (by decide) (by decide) rfl rfl;refine L.weak ?_;rintro Z H Q ⟨J,B,S,d,S',sr,re,e,y⟩;obtain⟨Y,A,T,e⟩:=Zl e;refine⟨J,B,S,Y,A,sr,re,T,λvs E U z s N=>?_⟩;have o:=y.shift s;have n:∀(i j),-4611686018427387904<=i->i<4611686018427387904->-4611686018427387904<=j->j<4611686018427387904->j - i<=1000->Yw X.K U E (.lst A.length) (A++[.lst (Y7 i (j - i).toNat)]) Q->∀q,E q=Z8->YG X (.type "list") [.ref q] (ZE E q (.rng i j)) Q:=by intro i j W P b3 b4 b5 o q m;obtain⟨G,I⟩:=z.other m;exact⟨_,y0 h.calm,q,i,j,rfl,YU,W,P,b3,b4,by lia,λl t=>(o.shift I).newL G t (qv _ _)⟩
 unfold Wb at e;split at e
 .rename_i j;split at e
  .rename_i c;cases e;obtain⟨v,rfl,r⟩:=N.one;subst r;refine⟨_,za,j,rfl,λq m=>?_⟩;have:=n 0 j (by decide) (by decide) c.1 c.2.1 (by lia) (by rw[Int.sub_zero];exact o) q m;exact this
  .cases e
 .rename_i i j;split at e
  .rename_i c;cases e;obtain⟨v,u,rfl,r,r'⟩:=N.two;subst r r';exact⟨_,zd,i,j,rfl,λq m=>n i j c.1 c.2.1 c.2.2.1 c.2.2.2.1 c.2.2.2.2 o q m⟩
  .cases e
 .cases e
theorem qt(h:Y5 X sc ar cl k)(s:Yn X f)(e:Kj sc ar cl f x es=Z9 c):PE X (.Call (.Name x p) es [] pos) (ZD X.K c):=by
 unfold Kj at e;split at e
 .rename_i r;split at e
  .rename_i n m;split at e
   .rename_i y;obtain⟨z,w,H⟩:=y;obtain⟨u,g,e⟩:=qA1.mp e;subst e;obtain⟨i,d⟩:=VH s g;obtain⟨⟨K,E⟩,l⟩:=h.fns x n m;cases es with
    |nil=>exact absurd rfl w
    |cons a es =>
     exact(Kx (p:=p) (pos:=pos) E h.room (h.gl x r) FA i (qA4 _) H (Yp (d a (by simp))) (Pr λb F=>d b (by simp[F]))).weak (rX l)
   .cases e
  .rename_i m;split at e
   .rename_i a;split at e
    .rename_i J j;split at e
     .rename_i y;obtain⟨rfl,t,G,z⟩:=y;obtain⟨u,g,e⟩:=qA1.mp e;subst e;obtain⟨i,d⟩:=VH s g;unfold E1 at j;split at j
      .rename_i L I B A;split at j
       .rename_i q;subst q;cases j;exact qu h r m G t i d z
       .cases j
      .cases j
     .cases e
    .obtain⟨o,v,e⟩:=qA0.mp e;obtain⟨u,g,e⟩:=qA1.mp e;subst e;obtain⟨i,d⟩:=VH s g;exact EZ h r m v i d
   .obtain⟨o,v,e⟩:=qA0.mp e;obtain⟨u,g,e⟩:=qA1.mp e;subst e;obtain⟨i,d⟩:=VH s g;exact EZ h r m v i d
   .cases e
 .cases e
end
section
variable {X:Cx}{sc:Sc}{ar:Str->yK}{cl:Str->List D->M D}{k:Nat}{f:yV->Option C}
def EY(m:Str)(a:C):Option C :=
 if m=("pop":Str)then Z9 (UL "list" (XB VL) a)else
 if m=("bit_length":Str)then Z9 (UL "int" PH a)else
 if m=("upper":Str)then Z9 (UL "str" RT a)else
 Z8
def EW(m:Str)(a b:C):Option C :=
 if m=("append":Str)then Z9 (X9 "list" (XB Vt) a (ZS [b]))else
 if m=("join":Str)then Z9 (X9 "str" W4 a (ZS [b]))else
 if m=("find":Str)then Z9 (X9 "str" Py a (ZS [b]))else
 if m=("split":Str)then Z9 (X9 "str" VJ a (ZS [b]))else
 if m=("startswith":Str)then Z9 (X9 "str" QV a (ZS [b]))else
 if m=("update":Str)then Z9 (X9 "dict" Ub a (ZS [b]))else
 Z8
def EV(m:Str)(a c b:C):Option C :=
 if m=("insert":Str)then Z9 (X9 "list" (XB Ta) a (ZS [c,b]))else
 if m=("split":Str)then Z9 (X9 "str" QU a (ZS [c,b]))else
 Z8
def Ki(f:yV->Option C)(o:yV)(m:Str)(es:yE)(d c:Pos):Option C :=
 if NA o&&(d.endLine == c.line)then(f o).bind λe=>match es with
  |[]=>EY m e
  |[a]=>if Yg a then(f a).bind λg=>EW m e g else Z8
  |[a,b]=>if Yg a&&Yg b then(f a).bind λg=>(f b).bind λh=>EV m e g h else Z8
  |_=>Z8
 else Z8
theorem qr(G:Zr k X.A)(j:Yn X f)(e:Ki f o m es u i=Z9 c):PE X (.Call (.Attribute o m u) es [] i) (ZD X.K c):=by
 unfold Ki at e;split at e
 .rename_i F;rw[qB3]at F;obtain⟨I,n⟩:=F;obtain⟨p,r,g⟩:=qA0.mp e;clear e;have s:∀v,vB o v X.env (jU o X.env)=jU o X.env:=λv=>E4 I;split at g
  .unfold EY at g;split at g
   .rename_i q;subst q;cases g;exact KC vX PySem.F.slot_list_pop PySem.F.type_list_pop sT (j o p r) (s _) n
   split at g
   .rename_i q;subst q;cases g;exact KC PySem.F.plainAttrs_int PySem.F.slot_int_bit_length PySem.F.type_int_bit_length sO (j o p r) (s _) n
   split at g
   .rename_i q;subst q;cases g;exact KC j4 PySem.F.slot_str_upper PySem.F.type_str_upper rG (j o p r) (s _) n
   cases g
  .rename_i a;split at g
   .rename_i w;obtain⟨y,A,h⟩:=qA0.mp g;clear g;have l:=Yp (es:=[]) (env:=X.env) w;have t:PA X [a] (YS X.K (ZS [y])):=UN (j a y A) Te l;have d:((vC i (y7 [a] X.env)).all (λx=>!x.1)&&(wF i (j6 [] X.env)).all (λx=>x.1.isSome)
     && decide ([a].length+([]:List vV).length+(if([]:List vV).isEmpty then 0 else 1)<30))=Z7:=by rw[l];rfl
    unfold EW at h;split at h
    .rename_i q;subst q;cases h;exact Ud vX PySem.F.slot_list_append PySem.F.type_list_append sV (j o p r) t (s _) d n l rfl
    split at h
    .rename_i q;subst q;cases h;exact Ud j4 PySem.F.slot_str_join PySem.F.type_str_join rz (j o p r) t (s _) d n l rfl
    split at h
    .rename_i q;subst q;cases h;exact Ud j4 mM PySem.F.type_str_find ry (j o p r) t (s _) d n l rfl
    split at h
    .rename_i q;subst q;cases h;exact Ud j4 jN lZ rq (j o p r) t (s _) d n l rfl
    split at h
    .rename_i q;subst q;cases h;exact Ud j4 gC PySem.F.type_str_startswith qJ (j o p r) t (s _) d n l rfl
    split at h
    .rename_i q;subst q;cases h;exact Ud lM g9 PySem.F.type_dict_update sM (j o p r) t (s _) d n l rfl
    cases h
   .cases g
  .rename_i a b;split at g
   .rename_i w;rw[qB3]at w;obtain⟨y,A,E⟩:=qA0.mp g;obtain⟨B,H,h⟩:=qA0.mp E;clear g E;have z:=Yp (es:=[]) (env:=X.env) w.2;have l:=Yp (es:=[b]) (env:=X.env) w.1;have t:PA X [a,b] (YS X.K (ZS [y,B])):=UN (j a y A) (UN (j b B H) Te z) l;have d:((vC i (y7 [a,b] X.env)).all (λx=>!x.1)&&(wF i (j6 [] X.env)).all (λx=>x.1.isSome)
     && decide ([a,b].length+([]:List vV).length+(if([]:List vV).isEmpty then 0 else 1)<30))=Z7:=by rw[l,z];rfl
    unfold EV at h;split at h
    .rename_i q;subst q;cases h;exact Ud vX PySem.F.slot_list_insert PySem.F.type_list_insert sU (j o p r) t (s _) d n l (by rw[z];rfl)
    split at h
    .rename_i q;subst q;cases h;exact Ud j4 jN lZ qI (j o p r) t (s _) d n l (by rw[z];rfl)
    cases h
   .cases g
  .cases g
 .cases e
def Kh(f:yV->Option C):yE->Option C
 |e1::a::c=>(zA1? f (e1::a::c)).map λb=>V2 b Str.empty
 |_=>Z8
theorem EU(b:Yn X f):∀{es:yE}{cs:List C},zA1? f es=Z9 cs->Q3 X es (cs.map (ZD X.K))
 |[],cs,e=>by cases e;exact .nil
 |a::es,cs,e=>by
  unfold zA1? at e;split at e
  .obtain⟨c,g,e⟩:=qA0.mp e;obtain⟨h,d,rfl⟩:=qA1.mp e;exact .cons (b a c g) (EU b d)
  .cases e
theorem qq(a:Yn X f)(e:Kh f es=Z9 c):PE X (.JoinedStr es pos) (ZD X.K c):=by
 unfold Kh at e;split at e
 .obtain⟨d,b,rfl⟩:=qA1.mp e;exact(vl (EU a b)).weak (Fd _ _)
 .cases e
def RJ:C:=λ_ S=>.ok (.dct S.length) (S++[.dk []])
theorem qp:PE X (.Dict [] [] pos) (ZD X.K RJ):=GX.weak (by
 rintro Z H Q ⟨J,B,S,d,h,a,i,e,y⟩;cases e;intro p b;obtain⟨c,g⟩:=a.push (o':=.dk []) b ⟨[],YU,Y0.nil⟩;exact y _ _ _ c g (⟨p,rfl,by rw[<- a.len,qA5 (qA4 _),qD5];rfl⟩))
def Ny(a b:C):C:=fun B=>Zi (a B) λx=>Zi (b B) λy S=>match VN x with
 |some k=>.ok (.dct S.length) (S++[.dk [(k,y)]])
 |none=>.bad
theorem qo{ca R:C}(U:PE X a (ZD X.K ca))(r:PE X b (ZD X.K R)):PE X (.Dict [Z9 a] [b] pos) (ZD X.K (Ny ca R)):=(GU (Lo U r GW) rfl rfl (by simp) (by simp)).weak (by
 rintro Z H Q ⟨J,B,S,d,S',sr,re,e,y⟩;obtain⟨x,W,e1,f1⟩:=Zl e;obtain⟨z,O,e2,K⟩:=Zl f1;split at K
 .rename_i g hk;cases K;intro p E;obtain⟨s1,F⟩:=sr.other E;refine⟨J,B,S,x,W,s1,re.up F,e1,λv H1 J1 G i r1=>⟨J1,B,W,z,O,G,(re.up F).up i,e2,λu t N c l r2=>?_⟩⟩;have P:=sr.out E;have V:ZE H p (.dK []) p=Z9 (.dK []):=YU;have Y:=i.fr p _ P V;have T:=i.notIn P V;have q2:=l.fr p _ T Y;have n2:=l.notIn T Y;have ev:=R5 hk r1;subst ev;refine⟨q2,[(g,u)],rfl,by simp,?_⟩;have L:TF X.K t (ZE t p (.dK [(g,u)])):=Sb q2 (λ_ z=>by cases z) (λ_ _ z=>by cases z);have s:=i.trans l c.nd;have h:=F.trans s c.nd;have I:SR X.K (N++[p]) (O++[.dk [(g,z)]]) (ZE t p (.dK [(g,u)])):=by
   refine⟨by simp[c.len],?_,λn a w j m=>?_⟩
   .rw[qG2];refine⟨c.nd,by simp,λa U b r=>?_⟩
    grind
   .by_cases hn:n<N.length
    .rw[qB7 hn]at j;rw[qB7 (by rw[<- c.len];exact hn)]at m;exact(c.obj n a w j m).up L ⟨[p],rfl⟩ (Zq λz=>n2 (z▸qC2 j))
    .rw[qA5 (by lia)]at j;rw[qA5 (by rw[<- c.len];lia)]at m;have h1:=by have:=(qA3.mp j).1;simp at this;omega
     rw[h1]at j;rw[<- c.len,h1]at m;simp at j m;subst j m;exact⟨[(g,u)],YU,Y0.cons (RV.up L ⟨[p],rfl⟩ _ _ r2) .nil⟩
  have A:ZH X.K J (N++[p]) H (ZE t p (.dK [(g,u)])):=by
   obtain⟨ν,e4,n⟩:=h.pre;refine⟨⟨ν++[p],by rw[e4,qD8],λb r=>?_⟩,λb o r q=>by rw[Zq (Vx q E)];exact h.fr b o r q,h.tk.trans L⟩
   grind
  exact y _ _ _ I A (⟨p,rfl,by rw[<- c.len,qA5 (qA4 _),qD5];rfl⟩)
 .cases K)
def Kg(f:yV->Option C)(h:List (Option yV))(vs:yE):Option C:=match h,vs with
 |[],[]=>Z9 RJ
 |[Z9 a],[b]=>(f a).bind λe=>(f b).map λg=>Ny e g
 |[Z9 a,Z9 c],[b,d]=>(f a).bind λe=>(f b).bind λg=>(f c).bind λi=>(f d).map λj=>PC e g i j
 |_,_=>Z8
theorem qm(a:Yn X f)(e:Kg f g vs=Z9 c):PE X (.Dict g vs pos) (ZD X.K c):=by
 unfold Kg at e;split at e
 .cases e;exact qp
 .obtain⟨h,d,e⟩:=qA0.mp e;obtain⟨i,b,e⟩:=qA1.mp e;subst e;exact qo (a _ _ d) (a _ _ b)
 .obtain⟨h,d,e⟩:=qA0.mp e;obtain⟨i,b,e⟩:=qA0.mp e;obtain⟨m,j,e⟩:=qA0.mp e;obtain⟨n,l,e⟩:=qA1.mp e;subst e;exact rE (a _ _ d) (a _ _ b) (a _ _ j) (a _ _ l)
 .cases e
def Kf(c:BoolOp)(f:yV->Option C):yE->Option C
 |[]=>Z8
 |[a]=>f a
 |a::b::r=>(f a).bind λd=>(Kf c f (b::r)).map λe=>match c with
  |.And=>R7 d e
  |.Or=>Uj d e
theorem Ke(d:Yn X f):∀{vs:yE}{c:C},Kf g f vs=Z9 c->PE X (.BoolOp g vs pos) (ZD X.K c)
 |[],c,e=>by cases e
 |[a],c,e=>BR (d a c e)
 |a::b::r,c,e=>by
  obtain⟨i,j,e⟩:=qA0.mp e;obtain⟨l,h,e⟩:=qA1.mp e;subst e;cases g with
  |And=>exact um (d a i j) (Ke d h)
  |Or=>exact uk (d a i j) (Ke d h)
def QR(X:Cx)(t:yV->Option CT):Prop:=∀e c,t e=Z9 c->PT X e (YY X.K c)
variable {t:yV->Option CT}
def Kd(c:BoolOp)(t:yV->Option CT):yE->Option CT
 |[]=>Z8
 |[a]=>t a
 |a::b::r=>(t a).bind λd=>(Kd c t (b::r)).map λe=>match c with
  |.And=>Tf d e
  |.Or=>Yb d e
theorem Kc(d:QR X t):∀{vs:yE}{c:CT},Kd g t vs=Z9 c->PW X (.BoolOp g vs pos) (YY X.K c)
 |[],c,e=>by cases e
 |[a],c,e=>by
  cases g with
  |And=>exact BZ (d a c e)
  |Or=>exact BY (d a c e)
 |a::b::r,c,e=>by
  obtain⟨i,j,e⟩:=qA0.mp e;obtain⟨l,h,e⟩:=qA1.mp e;subst e;cases g with
  |And=>exact ui (d a i j) (Kc d h)
  |Or=>exact uh (d a i j) (Kc d h)
def W3:yV->Bool
 |.Tuple _ _ _=>Z7
 |_=>Z5
def SX:yV->Bool
 |.Set _ _ _=>Z7
 |_=>Z5
theorem Nx(h:SX iter=Z5):∀x,vN iter env x=pure x:=by cases iter<;>first|(intro x;rfl)| cases h
def ET(o:Option (List C))(es:yE):Option CI:=o.bind λa=>match es with
 |[_]=>Z9 (WV (ZS a))
 |[_,_]=>Z9 (Kw (ZS a))
 |_=>Z8
def Kb(t:Bool)(o:Option (List C))(es:yE):Option CI:=if t=Z7 then o.bind λa=>match es with
  |[_,_]=>Z9 (QW (ZS a))
  |_=>Z8
 else Z8
def Ka(t:Bool)(o:Option (List C))(es:yE):Option CI:=if t=Z7 then o.bind λa=>match es with
  |[_]=>Z9 (NF (ZS a))
  |_=>Z8
 else Z8
def RI(b:Sc)(ar:Str->yK)(f:yV->Option C)(a iter:yV):Option CI:=if SX iter then Z8 else match iter with
 |.Call (.Name x _) es [] _=>if b.names.lookup x=Z9 .globalImplicit/\ar x=Z8 then
   (if x=("range":Str)then ET (zA1? f es) es else
    if x=("zip":Str)then Kb (W3 a) (zA1? f es) es else
    if x=("enumerate":Str)then Ka (W3 a) (zA1? f es) es else
    (f iter).map Zs)
  else(f iter).map Zs
 |_=>(f iter).map λc=>YI (Zs c) (Zm c)
theorem ql(h:Yn X f)(g:Gl X "range")(d:X.mg "range"=Z8)(e:ET (zA1? f es) es=Z9 c):PI X j (.Call (.Name "range" p) es [] pos) (YQ X.K c):=by
 obtain⟨l,i,e2⟩:=qA0.mp e;clear e;obtain⟨h1,h2⟩:=VH h i
 match es,h1,h2,e2 with
 |[a],h1,h2,e2 =>
  cases e2;exact rS (Bn g d h1 (by rw[Yp (h2 a (by simp))];rfl))
 |[a,b],h1,h2,e2 =>
  cases e2;exact rR (Bm g d h1 (by rw[Yp (h2 a (by simp)),Yp (h2 b (by simp))];rfl) (by rw[Yp (h2 b (by simp))];rfl))
 |[],h1,h2,e2=>cases e2
 |_::_::_::_,h1,h2,e2=>cases e2
theorem Po(h:W3 a=Z7):∃es k pos,a=.Tuple es k pos:=by cases a<;>first|exact⟨_,_,_,rfl⟩| cases h
theorem qk(i:Yn X f)(g:Gl X "zip")(l:X.mg "zip"=Z8)(e:Kb (W3 h) (zA1? f es) es=Z9 c):PI X h (.Call (.Name "zip" p) es [] pos) (YQ X.K c):=by
 unfold Kb at e;by_cases d:W3 h=Z7
 .rw[if_pos d]at e;obtain⟨o,n,pt,rfl⟩:=Po d;obtain⟨m,j,e2⟩:=qA0.mp e;clear e d;obtain⟨h1,h2⟩:=VH i j
  match es,h1,h2,e2 with
  |[a,b],h1,h2,e2 =>
   cases e2;exact rP (xt g l h1 (by rw[Yp (h2 a (by simp)),Yp (h2 b (by simp))];rfl) (by rw[Yp (h2 b (by simp))];rfl))
  |_::_::_::_,h1,h2,e2=>cases e2
  |[],h1,h2,e2=>cases e2
  |[_],h1,h2,e2=>cases e2
 .rw[if_neg d]at e;cases e
theorem qj(h:Yn X f)(g:Gl X "enumerate")(j:X.mg "enumerate"=Z8)(e:Ka (W3 b) (zA1? f es) es=Z9 c):PI X b (.Call (.Name "enumerate" p) es [] pos) (YQ X.K c):=by
 unfold Ka at e;by_cases d:W3 b=Z7
 .rw[if_pos d]at e;obtain⟨n,m,pt,rfl⟩:=Po d;obtain⟨l,i,e2⟩:=qA0.mp e;clear e d;obtain⟨h1,h2⟩:=VH h i
  match es,h1,h2,e2 with
  |[a],h1,h2,e2 =>
   cases e2;exact rM (xO g j h1 (by rw[Yp (h2 a (by simp))];rfl))
  |[],h1,h2,e2=>cases e2
  |_::_::_,h1,h2,e2=>cases e2
 .simp_all
theorem Nw(h:Y5 X sc ar cl k)(a:Yn X f)(e:RI sc ar f j iter=Z9 c):PI X j iter (YQ X.K c)/\SX iter=Z5:=by
 unfold RI at e;split at e
 .cases e
 rename_i b;refine⟨?_,by simpa using b⟩;have dflt:∀{c},(f iter).map Zs=Z9 c->PI X j iter (YQ X.K c):=λe=>by obtain⟨m,d,e⟩:=qA1.mp e;subst e;exact Fy (a _ _ d)
 split at e
 .rename_i x p n l;split at e
  .rename_i i;have g:=h.gl x i.1;split at e
   .rename_i q;subst q;exact ql a g (h.blt.b _ (by decide) i.2) e
   split at e
   .rename_i q;subst q;exact qk a g (h.blt.b _ (by decide) i.2) e
   split at e
   .rename_i q;subst q;exact qj a g (h.blt.b _ (by decide) i.2) e
   exact dflt e
  .exact dflt e
 .obtain⟨m,d,e⟩:=qA1.mp e;subst e;exact rk (Fy (a _ _ d)) (rl (a _ _ d))
def Pn:yE->Option (yH)
 |[]=>Z9 []
 |.Name x _::r=>(Pn r).map (x::·)
 |_::_=>Z8
def Pm:yV->Option (XA×yH)
 |.Name x _=>Z9 (.one,[x])
 |.Tuple b _ _=>(Pn b).map λa=>(.many a.length,a)
 |_=>Z8
def Xn(ns:List (Str×jQ)):yH:=(ns.filter λy=>y.2 == .free).map (·.1)
def slots(N:yH):yH->Option (List Nat)
 |[]=>Z9 []
 |x::r=>(TU N x 0).bind λj=>(slots N r).map (j::·)
def UG(xs:yH)(scope:jW):Sc:=⟨xs++Xn scope.names,scope.names,Z8⟩
def compOk(a:Sc)(xs:yH)(scope:jW):Bool :=
 decide (scope.kind=.function)&&scope.names.all (λy=>y.2 != .cell||scope.names.lookup y.1 == Z9 .cell)&&scope.names.all (λy=>y.2 != .local||scope.names.lookup y.1 == Z9 .local)
 && decide ((xs++Xn scope.names).Nodup)&&xs.all (λx=>scope.names.lookup x == Z9 .local||scope.names.lookup x == Z9 .cell)&&decide (1<=xs.length)
 && (Xn scope.names).all (λx=>(a.names.lookup x == Z9 .cell||a.names.lookup x == Z9 .free)&&scope.names.lookup x == Z9 .free)
def QQ(e:Sc)(i:Option CI)(l:Sc->yV->Option C)(g:Sc->yV->Option CT)(h elt:yV)(a:yE)(scope:jW):Option C :=
 (Pm h).bind λp=>if compOk e p.2 scope then(slots e.N (Xn scope.names)).bind λd=>i.bind λb=>(l (UG p.2 scope) elt).bind λc=>match a with
  |[]=>Z9 (XW b p.2.length d p.1 (λ_=>ret Z7) c)
  |[q]=>(g (UG p.2 scope) q).map λj=>XW b p.2.length d p.1 j c
  |_=>Z8
 else Z8
theorem ES:∀{xs:yH}{js:List Nat},slots N xs=Z9 js->js.length=xs.length/\∀(i j:Nat),js[i]?=Z9 j->∃x,xs[i]?=Z9 x/\N[j]?=Z9 x
 |[],js,e=>by cases e;exact⟨rfl,λi j h=>by simp at h⟩
 |x::r,js,e=>by
  obtain⟨l,b,e⟩:=qA0.mp e;obtain⟨c,a,e⟩:=qA1.mp e;subst e;obtain⟨d,g⟩:=ES a;refine⟨by simp[d],λi j h=>?_⟩;cases i with
  |zero=>simp at h;subst h;exact⟨x,rfl,(QS b).2⟩
  |succ i =>
   simp_all
theorem Nv{env:Env}:∀{names:List (Str×jQ)}{x:Str}{k:jQ},k≠.free->names.lookup x=Z9 k ->
  (names.map fun(n,k)=>if(k == NameKind.free&&env.scope.kind == .function&&env.kindOf n == Z9 .cell)then(n,NameKind.cell)else(n,k)).lookup x=Z9 k
 |[],_,_,_,h=>by simp at h
 |(n,k')::r,x,k,nf,h=>by
  have b:=@Nv env r x k nf;show qH2 x ((if(k' == NameKind.free&&env.scope.kind == .function&&env.kindOf n == Z9 .cell)=Z7 then(n,NameKind.cell)else(n,k'))::_)=_;cases a:x == n with
  |true =>
   simp only[qD4,a]at h;cases h;have e:=by simpa using nf
   simp[qD4,a,e]
  |false =>
   simp only[qD4,a]at h;by_cases c:(k' == NameKind.free&&env.scope.kind == .function&&env.kindOf n == Z9 .cell)=Z7
   .rw[if_pos c];simp only[qD4,a];exact b h
   .rw[if_neg c];simp only[qD4,a];exact b h
theorem qh{ns:List (Str×jQ)}{k:jQ}(h:ns.lookup x=Z9 k):(x,k)∈ns:=Lk h
theorem Y5.comp(h:Y5 X sc ar cl k)(c:compOk sc xs scope=Z7)(b:List (Str×yQ))(s:yR)(H:Hp)(C:yQ)(ex:yC):Y5 (XZ X scope (xs++Xn scope.names) b s H C ex) (UG xs scope) ar cl k:=by
 unfold compOk at c;simp only[qB3,decide_eq_true_eq]at c;obtain⟨⟨⟨⟨⟨⟨j,l⟩,g⟩,d⟩,m⟩,i⟩,e⟩:=c;exact{
  calm:=h.calm
  N:=rfl
  nd:=d
  gl:=λx a=>Nv (by decide) a
  loc:=λx a=>Nv (by decide) a
  cel:=λx a=>Nv (by decide) a
  fre:=λx a=>GP a
  fnn:=λz=>by cases z
  room:=h.room
  roomT:=λz=>by cases z
  xk:=h.xk
  xm:=h.xm
  xv:=h.xv
  fl:=h.fl
  hex:=λz=>by cases z
  own:=PassesOwn.never
  exc:=h.exc
  blt:=h.blt
  dkc:=h.dkc
  fm:=h.fm
  dkn:=λz=>by cases z
  mts:=h.mts
  frm:=λz=>by cases z
  fns:=h.fns }
theorem Nu:∀{es:yE}{xs:yH},Pn es=Z9 xs->es.length=xs.length/\∀(i:Nat) (e:yV),es[i]?=Z9 e->∃x pos,e=.Name x pos/\xs[i]?=Z9 x
 |[],xs,h=>by cases h;exact⟨rfl,λi e h=>by simp at h⟩
 |a::r,xs,h=>by
  cases a with
  |Name x pos =>
   obtain⟨g,c,e⟩:=qA1.mp h;subst e;obtain⟨d,j⟩:=Nu c;refine⟨by simp[d],λi e b=>?_⟩;cases i with
   |zero=>simp at b;subst b;exact⟨x,pos,rfl,rfl⟩
   |succ i =>
    simp_all
  |_=>cases h
theorem qg{es:yE}:jM (.Name x pos::es) env=(Z5,gE (.Name x pos) env)::jM es env:=rfl
theorem ER:∀{es:yE}{s:Nat},(∀(i:Nat) (e:yV),es[i]?=Z9 e->∃x pos,e=.Name x pos/\X.N[s+i]?=Z9 x/\Rh X.env.scope x/\(X.fn x=Z7∨X.env.scope.names.lookup x=Z9 .local))->X.N.Nodup->VU X es (ND s es.length)
 |[],s,h,nd=>HC
 |a::r,s,h,nd=>by obtain⟨x,pos,rfl,g,m,l⟩:=h 0 a rfl;refine HB (Qm nd (by simpa using g) m l) (ER (λi e d=>?_) nd) rfl;obtain⟨y,p,b,c,j⟩:=h (i+1) e (by exact d);exact⟨y,p,b,by rw[show s+1+i=s+(i+1) by lia];exact c,j⟩
theorem EO:∀{es:yE}{xs:yH},Pn es=Z9 xs->(jM es env).length=xs.length/\(jM es env).findIdx? (·.1)=Z8
 |[],xs,h=>by cases h;exact⟨rfl,rfl⟩
 |a::r,xs,h=>by
  cases a with
  |Name x c =>
   obtain⟨i,d,e⟩:=qA1.mp h;subst e;obtain⟨g,b⟩:=EO (env:=env) d;rw[qg];exact⟨by simp[g],by rw[qM7];simp[b]⟩
  |_=>cases h
theorem EM{t:XA}(e:Pm b=Z9 (t,xs)):Wd t=xs.length:=by
 cases b with
 |Name x a=>cases e;rfl
 |Tuple g n a =>
  obtain⟨c,d,e⟩:=qA1.mp e;cases e;rfl
 |_=>cases e
theorem EL(h:Y5 b a ar cl k)(g:a.names.lookup x=Z9 .local∨a.names.lookup x=Z9 .cell/\b.fn x=Z7):Rh b.env.scope x/\(b.fn x=Z7∨b.env.scope.names.lookup x=Z9 .local):=by
 rcases g with g|⟨g,f⟩
 .exact⟨.inl (h.loc x g),.inr (h.loc x g)⟩
 .exact⟨.inr (h.cel x g),.inl f⟩
theorem qf(h:Y5 c a ar cl k){t:XA}(e:Pm l=Z9 (t,xs))(r:∀(i:Nat) (x:Str),xs[i]?=Z9 x->a.N[i]?=Z9 x/\(a.names.lookup x=Z9 .local∨a.names.lookup x=Z9 .cell/\c.fn x=Z7)):PG c l (tOfT' c.K t)/\Wd t=xs.length:=by
 have q:c.N.Nodup:=by rw[h.N];exact h.nd
 cases l with
 |Name x b =>
  cases e;obtain⟨d,o⟩:=r 0 x rfl;obtain⟨j,m⟩:=EL h o;exact⟨Qm q (by rw[h.N];exact d) j m,rfl⟩
 |Tuple z n b =>
  obtain⟨A,p,e⟩:=qA1.mp e;cases e;obtain⟨v,u⟩:=EO p;obtain⟨s,w⟩:=Nu p;refine⟨?_,rfl⟩;have:=ER (λi e y=>by
   obtain⟨x,b,rfl,g⟩:=w i e y;obtain⟨d,o⟩:=r i x g;obtain⟨j,m⟩:=EL h o;exact⟨x,b,rfl,by rw[h.N,qJ1];exact d,j,m⟩) q
  rw[s]at this;exact HA h.calm this v u
 |_=>cases e
theorem J7(h:Y5 X sc ar cl k)(d:compOk sc xs scope=Z7)(n:slots sc.N (Xn scope.names)=Z9 js):Tp X scope (xs++Xn scope.names) xs.length js:=by
 obtain⟨o,v⟩:=ES n;unfold compOk at d;simp only[qB3,decide_eq_true_eq]at d;obtain⟨⟨⟨⟨⟨⟨u,w⟩,m⟩,z⟩,B⟩,A⟩,l⟩:=d;have b:=λx a=>by
  have c:x∈Xn scope.names:=by unfold Xn;rw[qF4];exact⟨(x,.free),by rw[qI7];exact⟨a,by simp⟩,rfl⟩
  have:=qB9.mp l x c;simpa using this
 refine⟨h.calm,u,λx a=>?_,λx a=>?_,λx a r=>?_,?_,λi j s=>?_⟩
 .have:=qB9.mp w _ a
  grind
 .rcases(b x a).1 with q|q
  .exact .inl (h.cel x q)
  .exact h.fre x q
 .have:=qB9.mp m x a
  simp_all
 .rw[qC4,o]
 .obtain⟨x,e,y⟩:=v i j s;have c:(x,NameKind.free)∈scope.names:=by
   have:=qC2 e;unfold Xn at this
   simp_all
  obtain⟨p,g⟩:=b x c;refine⟨x,?_,by rw[h.N];exact y,g,h.vis (.inr p)⟩;rw[qA5 (by lia),Nat.add_sub_cancel_left];exact e
theorem JZ(h:Y5 X sc ar cl k){t:XA}(b:compOk sc xs scope=Z7)(e:Pm d=Z9 (t,xs))(a:List (Str×yQ))(s:yR)(H:Hp)(C:yQ)(ex:yC):PG (XZ X scope (xs++Xn scope.names) a s H C ex) d (tOfT' X.K t) :=
 (qf (h.comp b a s H C ex) e λi x c=>by
  unfold compOk at b;simp only[qB3]at b;have j:=b.1.1.2;have g:=(qA3.mp c).1;refine⟨?_,?_⟩
  .show(xs++Xn scope.names)[i]?=Z9 x;rw[qB7 g];exact c
  .have:=qB9.mp j x (qC2 c);rw[qG8,beq_iff_eq,beq_iff_eq]at this;rcases this with z|z
   .exact .inl z
   .exact .inr ⟨z,decide_eq_true (qh z)⟩).1
inductive qe(X:Cx)(sc:Sc)(tg iter elt:yV)(ifs:yE)(scope:jW)(c:C):Prop
 |mk (t:XA) (xs:yH) (js:List Nat) (ci:CI) (ct:CT) (ce:C) (BB:Tp X scope (xs++Xn scope.names) xs.length js) (hi:PI X tg iter (YQ X.K ci)) (hs:SX iter=Z5)
  (hg:∀cl' s H C ex,PG (XZ X scope (xs++Xn scope.names) cl' s H C ex) tg (tOfT' X.K t)) (hT:∀cl' s H C ex,Uv (XZ X scope (xs++Xn scope.names) cl' s H C ex) ifs (YY X.K ct))
  (hE:∀cl' s H C ex,PE (XZ X scope (xs++Xn scope.names) cl' s H C ex) elt (ZD X.K ce)) (ht:Wd t<=xs.length) (h1:1<=xs.length) (hc:c=XW ci xs.length js t ct ce)
theorem EK(h:Y5 X sc ar cl k){O:Option CI}{R:Sc->yV->Option C}(e:QQ sc O R W u elt j scope=Z9 c)
  (hi:∀l,O=Z9 l->PI X u iter (YQ X.K l)/\SX iter=Z5) (x:∀m a,Y5 m a ar cl k->Yn m (R a)) (z:∀m a,Y5 m a ar cl k->QR m (W a)):qe X sc u iter elt j scope c:=by
 obtain⟨⟨t,o⟩,w,e⟩:=qA0.mp e;dsimp only at e;by_cases g:compOk sc o scope=Z7
 .rw[if_pos g]at e;obtain⟨V,E,T⟩:=qA0.mp e;obtain⟨l,e2,P⟩:=qA0.mp T;obtain⟨p,e3,v⟩:=qA0.mp P;clear e T P;obtain⟨K,F⟩:=hi l e2;have U:=by have i:=g;unfold compOk at i;simp only[qB3,decide_eq_true_eq]at i;exact i.1.2
  have G:=λb s H C ex=>x _ _ (h.comp g b s H C ex) elt p e3;have L:Wd t<=o.length:=by rw[EM w];exact qA4 _
  cases j with
  |nil =>
   cases v;exact⟨t,o,V,l,_,p,J7 h g E,K,F,JZ h g w,λb s H C ex n s' Z A Q I ⟨J,B,S,d,S',sr,re,e,y⟩=>GR n s' Z A Q I (by obtain⟨rfl,rfl⟩:=YA e;exact y A J sr (ZH.refl _ _ _)),G,L,U,rfl⟩
  |cons q r =>
   cases r with
   |nil =>
    obtain⟨N,Y,u4⟩:=qA1.mp v;exact⟨t,o,V,l,N,p,J7 h g E,K,F,JZ h g w,λb s H C ex=>zj (z _ _ (h.comp g b s H C ex) q N Y),G,L,U,u4.symm⟩
   |cons _ _=>cases v
 .simp_all
theorem qd(h:Y5 X sc ar cl k)(e:QQ sc m n o g elt d scope=Z9 c)
  (hi:∀j,m=Z9 j->PI X g iter (YQ X.K j)/\SX iter=Z5) (i:∀b a,Y5 b a ar cl k->Yn b (n a)) (l:∀b a,Y5 b a ar cl k->QR b (o a)):PE X (.ListComp elt [⟨g,iter,d,0⟩] scope pos) (ZD X.K c):=by obtain⟨t,B,E,j,A,z,w,s,p,y,v,r,u,x,rfl⟩:=EK h e hi i l;exact(zh w s y v r (Nx p)).weak fun Z H Q q=>Fm u x q
theorem qc(h:Y5 X sc ar cl k){d:yE}(p:PG X (.Name j pos') r)(l:wI (.ListComp elt [⟨i,iter,d,0⟩] scope pos) (Z9 (.Name j pos')) b.line X.env=pure Z7)(e:QQ sc s u v i elt d scope=Z9 c)
  (hi:∀n,s=Z9 n->PI X i iter (YQ X.K n)/\SX iter=Z5) (m:∀g a,Y5 g a ar cl k->Yn g (u a)) (o:∀g a,Y5 g a ar cl k->QR g (v a)):PS X (.Assign [.Name j pos'] (.ListComp elt [⟨i,iter,d,0⟩] scope pos) b) (Vj (ZD X.K c) r):=by obtain⟨t,J,K,n,I,G,B,y,w,F,A,x,z,E,rfl⟩:=EK h e hi m o;exact(xr p l B y F A x (Nx w)).weak λD Z H q=>Fm z E q
end
section
variable {X:Cx}{scope:jW}{N:yH}{cl:List (Str×yQ)}{s0:yR}{H0:Hp}{C0:yQ}{ex:yC}{xe:yL}{tg e:yV}{t:TE}{es:yE}
theorem JY(h:PE (XZ X scope N cl s0 H0 C0 ex) e t):PE (WT X scope N cl s0 H0 C0 ex xe) e t:=λa s Z H Q I q=>jH (h a s Z H Q (invE' I) q) (λu g ⟨v,b,c,r,d⟩=>⟨v,b,TY c,r,d⟩) λ_ _ f=>f.elim
theorem JX(h:PA (XZ X scope N cl s0 H0 C0 ex) es ta):PA (WT X scope N cl s0 H0 C0 ex xe) es ta:=λb a s Z H Q I q=>jH (h b a s Z H Q (invE' I) q) (λu i ⟨v,c,d,r,g⟩=>⟨v,c,TY d,r,g⟩) λ_ _ f=>f.elim
theorem JW(h:PG (XZ X scope N cl s0 H0 C0 ex) tg g):PG (WT X scope N cl s0 H0 C0 ex xe) tg g:=λa s Z H v u Q I r q=>jH (h a s Z H v u Q (invE' I) r q) (λ_ j ⟨i,b,c,d⟩=>⟨i,b,TY c,d⟩) λ_ _ f=>f.elim
end
section
variable {X:Cx}{scope:jW}{N:yH}
theorem qb{elt iter D:yV}{O:TI}(y:Tp X scope N k js)(A:X.stack=X.env::X.outer)(B:X.env.frame=Z9 X.env.locals)(hi:PI X D iter O)
  (hg:∀cl s H C ex,PG (XZ X scope N cl s H C ex) D g)
  (E:∀cl s H C ex G,Wm (Xj X.prog X.w) (WT X scope N cl s H C ex G) (EX X)->PE (WT X scope N cl s H C ex G) elt P)
  (Y:∀x,vN iter X.env x=pure x:=by intro _;rfl):PE X (.ListComp elt [⟨D,iter,[],0⟩] scope pos) (P6 O k js g Uu P):=by
 intro t s Z H Q I h;refine wL rfl Y (Ll λx i=>I.ok.has x (y.free x i)) y.kind y.names (Zx (hi t s Z H _ I h) λv s1 h1=>Zx h1 λW L h2=>?_);obtain⟨it,fp,tn,JJ,H2,e,F,T,J,j,hW⟩:=h2;subst e;refine qP y F T J j (λcl s H C ex G=>JW (hg cl s H C ex)) (λ_ _ _ _ _ _=>GR) (λcl C hC _=>E _ _ _ _ _ _ (qN A B F j hC)) hW λcl C M R w V l q=>?_;obtain⟨m,hn,_⟩:=id l.loc;have p:M C=Z8:=l.free;refine⟨m,hn,λh' d=>⟨.ref L.heap.objs.size,M,?_,rfl,q⟩⟩;have K:∀b o,L.heap.get? b=Z9 o->b≠C:=λb o e=>qC0 (qA9 (qB1 e) w);refine F.call' (s':={ R with heap:=h' }) l.os ?_ (λb u e=>?_) l.bare (λb f=>⟨(j b f).2.2.2.1,(j b f).2.1,(j b f).2.2.2.2.1,(j b f).2.2.2.2.2⟩)
 .have U:=l.base;exact⟨λb o e n f i=>(d.2 b (K b o e)).trans (U.keep b o e n f i),λb o e n f i=>by
    obtain⟨sl,z⟩:=U.slot b o e n f i;exact⟨sl,(d.2 b (K b o e)).trans z⟩,U.free,λb o e i=>by
    obtain⟨S,z⟩:=U.there b o e i;exact⟨S,(d.2 b (K b o e)).trans z⟩,U.tups,U.frzs,U.tbls⟩
 .refine(l.hok b u e).stay (λc w' a r=>(d.2 c ?_).trans r) (λ_ r=>r) λ_ _ r=>r;rintro rfl;rcases a with rfl|a
  .rw[p]at e;cases e
  .rw[p]at a;cases a
end
def Xd(w:XX)(t:XA)(c:C)(B0:ZR):List D->M (List D)
 |[]=>λS=>if Ye w S then .ok [] S else .bad
 | d::g=>λS=>if Ye w S then(match Wu t d B0 with
  | some f=>(match c f S with
   | .ok y b=>(match Xd w t c B0 g b with
    |.ok e a=>.ok (y::e) a
    |.er x a=>.er x a
    | .bad=>.bad)
   |.er x b=>.er x b
   | .bad=>.bad)
  | none=>.bad)else .bad
def QP(e:CI)(k:Nat)(js:List Nat)(t:XA)(c:C):C:=fun B S=>match e B S with
 | .ok p d=>if p.1.length<lim then(match Xd p.2 t c (W5 k js B) p.1 d with
  |.ok b a=>.ok (.lst a.length) (a++[.lst b])
  |.er x a=>.er x a
  | .bad=>.bad)else .bad
 |_=>.bad
def qa(acc:List D):R (List D)->R (List D)
 |.ok a S=>.ok (acc++a) S
 |.er x S=>.er x S
 |.bad=>.bad
inductive p9(K:yP)(items:List D)(w:XX)(t:XA)(c:C)(B0:ZR)(J0:yC)(H0:Hp)(A:yQ)(tot:R (List D))(i m:Nat)(us:List V)(H2:Hp):Prop
 |mk (him:i+m=items.length) (hus:us.length<=i) (J2:yC) (S2:ZU) (acc:List D) (sr:SR K J2 S2 H2) (st:ZH K J0 J2 H0 H2) (nA:A∉J2) (hA:H2 A=Z9 (.lst us)) (ra:RVs K H2 J2 acc us) (el:qa acc (Xd w t c B0 (items.drop i) S2)=tot)
section
variable {X:Cx}
theorem p8(ht:Wd t<=k)(h1:1<=k)(h:YL X (QP it k js t c) Z H Q):P6 (YQ X.K it) k js (tOfT' X.K t) Uu (YL X c) Z H Q:=by
 obtain⟨J,B,S,sr,re,y⟩:=h;unfold QP at y;cases Y:it B S with
 |bad=>rw[Y]at y;exact y.elim
 |er _ _=>rw[Y]at y;exact y.elim
 |ok p S0 =>
 obtain⟨a,w⟩:=p;rw[Y]at y;dsimp only at y;by_cases u:a.length<lim
 .rw[if_pos u]at y;obtain⟨tot,E⟩:∃tot,Xd w t c (W5 k js B) a S0=tot:=⟨_,rfl⟩
  rw[E]at y;refine⟨J,B,S,a,w,S0,sr,re,Y,λJJ H0 J0 M j io A T=>?_⟩;have reC:=(re.up j).comp k js;obtain⟨srA,stA⟩:=M.other T;have nA:=M.out T;refine⟨p9 X.K a w t c (W5 k js B) J0 H0 A tot,
   ⟨a.length,⟨by simp,qF0 _,J0,S0,[],srA,stA,nA,YU,RVs.nil,by rw[qH3,E];cases tot<;>rfl⟩⟩,?_⟩
  rintro i m us U ⟨him,hus,P,L,acc,e,l,s,K,F,b⟩;refine And.intro K ?_;by_cases V:i<a.length
  .rw[qF9 V]at b;unfold Xd at b;split at b
   .rename_i W;refine .inr ⟨io.go i U P L e l W V,NK (by lia),λx H3 hy=>?_⟩;obtain⟨d,hd,f,G,rv⟩:=io.yld i U P L x H3 e l W V hy;have ed:=by rw[qA7 V]at hd;exact Option.some.inj hd
    rw[ed]at b;have N:=G.fr A _ s K;have g:=l.trans G f.nd;split at b
    .rename_i B4 h4;refine Fo ht (reC.up g) rv h4 (fun Z4 re4 wk=>⟨wk,?_⟩) h1;unfold Uu;dsimp only;rw[if_pos rfl];refine⟨P,B4,L,f,re4,?_⟩;cases e4:c B4 L with
     |bad=>rw[e4]at b;subst b;exact y.elim
     |er xx S4 =>
      rw[e4]at b;subst b;exact X8.shift y (j.trans g f.nd)
     |ok z S4 =>
      rw[e4]at b;intro v H6 J6 I r rv6;have n:=r.fr A _ s N;have O:=r.notIn s N;have D:=G.trans r I.nd;have tku:TF X.K H6 (ZE H6 A (.lst (us++[v]))):=PN n;refine⟨n,m - 1,by lia,⟨by lia,by rw[qC4];show us.length+1<=i+1;lia,J6,S4,acc++[z],I.acc O n,(g.trans r I.nd).acc T n,O,YU,?_,?_⟩⟩
      .exact RVs.up tku ⟨[],by simp⟩ _ _ ((RVs.up D.tk D.ext _ _ F).append (.cons rv6 .nil))
      .rw[<- b];dsimp only;cases Xd w t c (W5 k js B) (a.drop (i+1)) S4 with
       |bad=>rfl
       |er _ _=>rfl
       |ok ys S5=>show R.ok _ _=R.ok _ _;rw[qD8];rfl
    .subst b;exact y.elim
   .subst b;exact y.elim
  .have ei:i=a.length:=by lia
   subst ei;rw[qK5]at b;unfold Xd at b;split at b
   .rename_i W;subst b;have y:Yw X.K J H (.lst L.length) (L++[.lst (acc++[])]) Q:=y;rw[qD6]at y;refine .inl ⟨io.stop U P _ e l W,?_⟩;have hA0:H A=Z8:=by
     cases q:H A with
     |none=>rfl
     |some o =>
      by_cases hm:A∈J
      .exact absurd (j.mem hm) nA
      .rw[j.fr A o hm q]at T;cases T
    have f:=e.adopt s K F;refine y (.ref A) U (P++[A]) f ((j.trans l e.nd).adopt hA0) ?_;exact⟨A,rfl,by rw[<- e.len,qA5 (qA4 _),qD5];rfl⟩
   .subst b;exact y.elim
 .rw[if_neg u]at y;exact y.elim
def Nt(a b:C):C:=fun B S=>match a B S with
 | .ok x d=>(match b B d with
  |.ok y c=>.ok (.tup [x,y]) c
  |.er k c=>.er k c
  | .bad=>.bad)
 |_=>.bad
theorem p7{t pos}(G:Y.K=X.K)(s:PE Y a (ZD X.K l))(A:PE Y b (YL X g))(r:Yg a=Z7)(sb:Yg b=Z7):PE Y (.Tuple [a,b] t pos) (YL X (Nt l g)):=(Hm (Uy s (Uy A Sn (Yp sb)) (Yp r))).weak (by
 rintro Z H Q ⟨J,B,S,E,m,y⟩;unfold Nt at y;cases f:l B S with
 |bad=>rw[f]at y;exact y.elim
 |er _ _=>rw[f]at y;exact y.elim
 |ok x i =>
  rw[f]at y;dsimp only at y;refine⟨J,B,S,x,i,E,m,f,λv I q h c w=>⟨q,B,i,h,m.up c,?_⟩⟩;cases j:g B i with
  |bad=>rw[j]at y;exact y
  |er k n=>rw[j]at y;exact X8.shift y c
  |ok z n =>
   rw[j]at y;intro u F K e d D;exact⟨qF7 (Lu (by simp)),λp o=>(Yw.shift y (c.trans d e.nd)).newT e o (.cons (RV.up d.tk d.ext _ _ w) (.cons D .nil))⟩)
def QO(a:C):C:=fun B S=>match a B S with
 | .ok x b=>(match Vr [x] b with
  |.ok d e=>.ok d e
  | _=>.bad)
 |.bad=>.bad
 |.er c b=>.er c b
theorem p6(u:X.calm=Z7)(s:Gl X "dict")(m:X.mg "dict"=Z8)(l:PE X a (YL X g))(i:Yg a=Z7):PE X (.Call (.Name "dict" p) [a] [] pos) (YL X (QO g)):=(N8 PM s m (by rfl) (Uy l Sn (Yp i)) (by decide) (by decide) (Yp i) rfl).weak (by
 rintro Z H Q ⟨J,B,S,r,t,y⟩;unfold QO at y;refine⟨J,B,S,r,t,?_⟩;revert y;cases g B S with
 |bad=>exact λy=>y
 |er c k=>exact λy=>y
 |ok x h =>
  dsimp only;intro y v o j f e n;cases b:Vr [x] h with
  |bad=>rw[b]at y;exact y.elim
  |er c k=>rw[b]at y;exact y.elim
  |ok d q =>
   rw[b]at y;exact Fb u [x] h d q o j [v] Q b f (.cons n .nil) (Yw.shift y e))
variable {sc:Sc}{ar:Str->yK}{cls:Str->List D->M D}{k:Nat}
def JV(ar:Str->yK)(f:Str->List D->M D)(h:Sc->yV->Option (Str×yE))(m:yV->yV->Option CI)(g:Sc->yV->Option C)(c:Sc)(e:yV):Option C:=match e with
 |.Call (.Name d _) [.ListComp (.Tuple [a,b] _ _) [⟨tg,iter,[],0⟩] scope _] [] _ =>
  if d=("dict":Str)/\c.fn.isSome=Z7/\c.names.lookup ("dict":Str)=Z9 .globalImplicit/\ar "dict"=Z8/\Yg a=Z7/\Yg b=Z7 then
   (Pm tg).bind λp=>if compOk c p.2 scope then(slots c.N (Xn scope.names)).bind λn=>(m tg iter).bind λi=>(g (UG p.2 scope) a).bind λl=>(h (UG p.2 scope) b).bind λq=>(zA1? (g (UG p.2 scope)) q.2).map λj =>
    QO (QP i p.2.length n p.1 (Nt l (YF (f q.1) (ZS j))))
   else Z8
  else Z8
 |_=>Z8
theorem JU(h:Y5 X sc ar cls k)(q:JV ar cls y B v sc e=Z9 c)
  (o:∀u iter x,B u iter=Z9 x->PI X u iter (YQ X.K x)/\SX iter=Z5) (w:∀A l,Y5 A l ar cls k->Yn A (v l))
  (r:∀scope xs,compOk sc xs scope=Z7->∀b g f m,y (UG xs scope) b=Z9 (g,f)->zA1? (v (UG xs scope)) f=Z9 m->∀cl s H C ex n,Wm (Xj X.prog X.w) (WT X scope (xs++Xn scope.names) cl s H C ex n) (EX X)->PE (WT X scope (xs++Xn scope.names) cl s H C ex n) b (YL X (YF (cls g) (ZS m)))):PE X e (YL X c)/\∃F es V p,e=.Call F es V p:=by
 unfold JV at q;split at q
 .split at q
  .rename_i d p0 a b _ _ u iter scope p1 p2 hc;obtain⟨rfl,Y,c2,G,K,c5⟩:=hc;obtain⟨⟨t,xs⟩,E,q⟩:=qA0.mp q;dsimp only at q;split at q
   .rename_i i;obtain⟨js,L,q⟩:=qA0.mp q;obtain⟨x,T,q⟩:=qA0.mp q;obtain⟨ca,U,q⟩:=qA0.mp q;obtain⟨⟨g,f⟩,N,q⟩:=qA0.mp q;obtain⟨m,P,q⟩:=qA1.mp q;subst q;obtain⟨R,O⟩:=o _ _ _ T;obtain⟨S,J⟩:=h.frm Y;have W:1<=xs.length:=by have j:=i;unfold compOk at j;simp only[qB3,decide_eq_true_eq]at j;exact j.1.2
    refine⟨p6 h.calm (h.gl _ c2) (h.blt.b _ (by decide) G) ((qb (J7 h i L) S J R (JZ h i E) (λcl s H C ex n I=>p7 (X:=X) rfl (JY (w _ _ (h.comp i cl s H C ex) _ _ U)) (r scope xs i b g f m N P cl s H C ex n I) K c5) (Nx O)).weak fun Z H Q z=>p8 (by rw[EM E];exact qA4 _) W z) rfl,_,_,_,_,rfl⟩
   .cases q
  .cases q
 .cases q
end
def Pl(w:jC)(K:yP)(a:Str->yF):Prop:=(∀C,Wt K C->WQ K C/\Vv K C "kept")/\(∃C g,Up K a "Desk" "kept" C g/\Wt K C)/\U2 w K a
section
variable {X:Cx}{sc:Sc}{ar:Str->yK}{cl:Str->List D->M D}{k:Nat}{f:yV->Option C}
theorem JT(h:Yg a=Z7):fE ([a].length+([]:List vV).length) (vC pos (y7 [a] env)) (wF pos (j6 [] env))=Z7:=by unfold fE;rw[Yp (es:=[]) h];rfl
def JS(cl:Str->List D->M D)(f:yV->Option C)(o:yV)(m:Str)(es:yE)(c b:Pos):Option C:=match o,es with
 |.Name y yp,[a]=>if Yg a&&(c.endLine == b.line)then(VI.lookup m).bind λq=>(f (.Name y yp)).bind λd=>(f a).map λe=>Pw (cl q) d (ZS [e])else Z8
 |_,_=>Z8
theorem pY(h:Y5 X sc ar cl k)(g:Yn X f)(e:JS cl f o m es b a=Z9 c):PE X (.Call (.Attribute o m b) es [] a) (ZD X.K c):=by
 unfold JS at e;split at e
 .split at e
  .rename_i d;rw[qB3]at d;obtain⟨q,l,e⟩:=qA0.mp e;obtain⟨p,i,e⟩:=qA0.mp e;obtain⟨r,j,e⟩:=qA1.mp e;subst e;obtain⟨M,n⟩:=h.mts _ _ l;exact rf M h.room (qA4 _) n (g _ _ i) (UN (g _ _ j) Te (Yp d.1)) (Yp d.1) rfl (JT d.1) d.2
  .cases e
 .cases e
def EJ(cl:Str->List D->M D)(f:yV->Option C)(e:yV):Option C:=match e with
 |.Call (.Attribute (.Name y yp) m apos) [a] [] cpos=>if Yg a&&(apos.endLine == cpos.line)then(VI.lookup m).bind λq=>(f (.Name y yp)).bind λb=>(f a).map λc=>UI (cl q) b (ZS [c])else Z8
 |_=>Z8
def TQ(e:List D->M D)(o a:C):C:=fun B S=>match o B S with
 | .ok (.ob n) d=>(match a B d with
  |.ok x b=>e [.ob n,x] b
  |.er c b=>.er c b
  | .bad=>.bad)
 |_=>.bad
theorem pX{n K:Nat}(M:RQ X.prog X.w X.K X.mg X.base m k (Xo X.K X.mg j n))(hr:Zr K X.A)(hk:k<=K)(hn:∀ds S,j ds S≠.bad->ds.length=n)
  (ho:PE X (.Name y A) (ZD X.K t)) (U:PE X a (YL X u)) (w:Yg a=Z7) (T:(b.endLine == pos.line)=Z7) :
  PE X (.Call (.Attribute (.Name y A) m b) [a] [] pos) (YL X (TQ j t u)):=by
 obtain⟨C,f,fd,ps,W,c,hm,F,hb,P⟩:=M.ex;refine(Gd ho c hm F (hr.mono hk) hb .nil FG (Uy U Sn (Yp w)) (Yp w) rfl (Kq (JT w) T)).weak fun Z H Q ⟨J,B,S,sr,L,q⟩=>?_;unfold TQ at q;cases i:t B S with
 |bad=>rw[i]at q;exact q.elim
 |er c o=>rw[i]at q;exact q.elim
 |ok x s =>
  rw[i]at q;refine⟨J,B,S,x,s,sr,L,i,λv H1 O r e E=>?_⟩;cases x with
  |ob n =>
   dsimp only at q;obtain⟨p,dx,fs,rfl,R,g2⟩:=Ko E W P;refine⟨p,dx,fs,rfl,R,g2,O,B,s,r,L.up e,?_⟩;revert q;cases e2:u B s with
   |bad=>exact λq=>q
   |er c o=>exact λq=>X8.shift q e
   |ok d l =>
    dsimp only;intro q N V I h g r2;have Y:RVs X.K V I [.ob n,d] [.ref p,N]:=.cons (RV.up g.tk g.ext _ _ E) (.cons r2 RVs.nil);have G:=e.trans g h.nd;refine⟨by rw[<- hn [.ob n,d] l (λz=>by rw[z]at q;exact q)];rfl,I,_,l,h,Y,?_⟩;revert q;cases j [.ob n,d] l with
    |ok d o=>exact λq=>Yw.shift q G
    |bad=>exact λq=>q
    |er c o=>exact λq=>X8.shift q G
  |_=>exact q.elim
theorem pW(h:Y5 X sc ar cl k)(a:sc.fn=Z9 TV)(d:sc.names.lookup ("Desk":Str)=Z9 .globalImplicit):PE X (.Call (.Name "Desk" p) [] [] pos) (ZD X.K Px):=by obtain⟨C,g,c,b⟩:=h.dkn a;exact ri (va c ((h.roomT a).mono (by lia)) (h.gl _ d) zx (by decide)) b
end
section
variable {X:Cx}{sc:Sc}{ar:Str->yK}{cl:Str->List D->M D}{k:Nat}
def Pk(b:Sc)(ar:Str->yK)(x:Str):yE->Option (yV×Str)
 |[a,.Name g _]=>if x = "isinstance"/\b.names.lookup x=Z9 .globalImplicit/\ar x=Z8/\b.names.lookup g=Z9 .globalImplicit/\(g = "ValueError"∨g∈X2)/\Yg a=Z7 then Z9 (a,g)else Z8
 |_=>Z8
theorem pV(h:Y5 X sc ar cl k)(l:Yn X f)(e:Pk sc ar x es=Z9 (a,g))(j:f a=Z9 c):PE X (.Call (.Name x p) es [] pos) (ZD X.K (Xw (Y8 g) c)):=by
 unfold Pk at e;split at e
 .rename_i q s r;split at e
  .rename_i o;obtain⟨rfl,n,i,d,b,m⟩:=o;cases e;refine Fg (l _ _ j) (h.gl _ n) (h.blt.b _ (by decide) i) h.xk ?_ (Yp m);rcases b with rfl|b
   .exact .inl ⟨rfl,h.gl _ d,h.xv⟩
   .refine .inr ⟨b,h.gl _ d,h.xm _ b,?_⟩;simp only[X2,qA8,qB8,or_false]at b;rcases b with rfl|rfl|rfl|rfl|rfl|rfl|rfl<;>decide
  .cases e
 .cases e
end
def pU:Str := "_law_stays"
def pT(b:Sc):yV->yK
 |.ListComp _ a _ _=>match a with
  |[⟨_,it,_,_⟩]=>match it with
   |.Name y _=>if b.fn=Z9 pU then TU b.N y 0 else Z8
   |_=>Z8
  |_=>Z8
 |_=>Z8
def JR(a:Sc)(f:yV->Option C)(e:yV):Option C:=match pT a e with
 |some i=>(f e).map (RU i)
 |none=>f e
theorem pS(h:Yn X f):Yn X (JR b f):=λe c q=>by
 unfold JR at q;split at q
 .obtain⟨d,a,q⟩:=qA1.mp q;subst q;exact rK (h _ _ a)
 .exact h _ _ q
def EI(a:Sc)(x:Str)(es:yE):Bool:=x == "Desk"&&es.isEmpty&&a.fn == Z9 TV&&a.names.lookup ("Desk":Str) == Z9 .globalImplicit
def JQ(ar:Str->yK)(cl:Str->List D->M D)(f:yV->Option C)(b:Sc)(x:Str)(es:yE):Option C:=if EI b x es then Z9 Px else match Pk b ar x es with
 |some (a,g)=>(f a).map λc=>Xw (Y8 g) c
 |none=>Kj b ar cl (JR b f) x es
theorem JP(h:Y5 X i ar cl k)(d:Yn X f)(e:JQ ar cl f i x es=Z9 c):PE X (.Call (.Name x p) es [] pos) (ZD X.K c):=by
 unfold JQ at e;split at e
 .rename_i b;cases e;unfold EI at b;simp only[qB3,beq_iff_eq,List.isEmpty_iff]at b;obtain⟨⟨⟨rfl,rfl⟩,m⟩,n⟩:=b;exact pW h m n
 .split at e
  .rename_i a g l;obtain⟨o,j,e⟩:=qA1.mp e;subst e;exact pV h d l j
  .exact qt h (pS d) e
def EH(e:Sc)(f:yV->Option C)(o:yV)(m:Str)(es:yE)(c b:Pos):Option C:=match o,es with
 |.Name y _,[a]=>if y = "FORMS"/\m = "get"/\e.names.lookup ("FORMS":Str)=Z9 .globalImplicit/\Yg a=Z7/\(c.endLine == b.line)=Z7 then(f a).map λd=>ZT RM (ZS [d])else Z8
 |_,_=>Z8
def JO(d:Sc)(cl:Str->List D->M D)(f:yV->Option C)(o:yV)(m:Str)(es:yE)(b a:Pos):Option C:=match EH d f o m es b a with
 |some c=>Z9 c
 |none=>match JS cl f o m es b a with
  |some c=>Z9 c
  |none=>Ki f o m es b a
section
variable {X:Cx}{sc:Sc}{ar:Str->yK}{cl:Str->List D->M D}{k:Nat}{f:yV->Option C}
theorem JN(h:Y5 X sc ar cl k)(g:Yn X f)(e:JO sc cl f o m es d b=Z9 c):PE X (.Call (.Attribute o m d) es [] b) (ZD X.K c):=by
 unfold JO at e;split at e
 .rename_i a;cases e;unfold EH at a;split at a
  .split at a
   .rename_i q;obtain⟨rfl,rfl,j,l,p⟩:=q;obtain⟨r,n,a⟩:=qA1.mp a;subst a;have i:=Yp (es:=[]) (env:=X.env) l;exact qD h.fm (h.gl _ j) (g _ _ n) i (by rw[i];rfl) p
   .cases a
  .cases a
 .split at e
  .rename_i a;cases e;exact pY h g a
  .exact qr h.room g e
end
section
variable (ar:Str->yK) (cl:Str->List D->M D)
mutual
noncomputable def cE:Nat->Sc->yV->Option C
 |0,_,_=>Z8
 |n+1,sc,e=>match e with
  |.Constant v _ _=>E7 v
  |.Name x _=>Km sc ar x
  |.BinOp a j b _=>(E6 j).bind λo=>(cE n sc a).bind λc=>(cE n sc b).map λp=>ZW o c p
  |.UnaryOp j a _=>match j with
   |.USub=>(cE n sc a).map λc=>Xw U9 c
   |.Not=>(cE n sc a).map λc=>NP c
   |_=>Z8
  |.BoolOp j l _=>Kf j (cE n sc) l
  |.IfExp t a b _=>(cT n sc t).bind λy=>(cE n sc a).bind λc=>(cE n sc b).map λp=>Uk y c p
  |.Compare a r bs _=>Pp (cE n sc) a r bs
  |.Tuple d _ _=>(zA1? (cE n sc) d).bind λk=>if k.length<=1000 then Z9 (Zg (ZS k))else Z8
  |.List d _=>(zA1? (cE n sc) d).bind λk=>if k.length<=1000 then Z9 (Zv (ZS k))else Z8
  |.Subscript a b _=>RK (cE n sc) a b
  |.FormattedValue a v s _=>if v=-1/\s=Z8 then(cE n sc a).map YK else Z8
  |.JoinedStr d _=>Kh (cE n sc) d
  |.Dict w l _=>Kg (cE n sc) w l
  |.Attribute a A _=>if A = "kept"/\NA a=Z7 then(cE n sc a).map λc=>Xw U4 c else Z8
  |.Call u d z i=>match z with
   |[]=>match u with
    |.Name x _=>JQ ar cl (cE n sc) sc x d
    |.Attribute o m h=>JO sc cl (cE n sc) o m d h i
    |_=>Z8
   |_::_=>Z8
  |.ListComp q g f _=>match g with
   |[⟨tg,iter,ifs,ia⟩]=>if ia=0 then QQ sc (RI sc ar (cE n sc) tg iter) (cE n) (cT n) tg q ifs f else Z8
   |_=>Z8
  |_=>Z8
noncomputable def cT:Nat->Sc->yV->Option CT
 |0,_,_=>Z8
 |n+1,sc,e=>match e with
  |.UnaryOp b a _=>match b with
   |.Not=>(cT n sc a).map λf=>XC f
   |_=>(cE n sc e).map Y2
  |.BoolOp b d _=>Kd b (cT n sc) d
  |.IfExp _ _ _ _=>Z8
  |.Compare a c bs _=>Kk (cE n sc) a c bs
  |_=>(cE n sc e).map Y2
end
end
section
variable {X:Cx}{sc:Sc}{ar:Str->yK}{cl:Str->List D->M D}{k:Nat}
theorem TN:∀n:Nat,(∀X l,Y5 X l ar cl k->Yn X (cE ar cl n l))/\(∀X l,Y5 X l ar cl k->QR X (cT ar cl n l))
 |0=>⟨λX l h e c q=>(by cases q),λX l h e c q=>(by cases q)⟩
 |n+1=>by
  obtain⟨A,B⟩:=TN n;refine⟨λX l h e c q=>?_,λX l h e c q=>?_⟩
  .have f:=A X l h;have F:=B X l h;cases e with
   |Constant v j d=>exact qA q
   |Name x d=>exact qB h q
   |BinOp a C b d =>
    obtain⟨o,N,u⟩:=qA0.mp q;obtain⟨w,i,r⟩:=qA0.mp u;obtain⟨Z,L,O⟩:=qA1.mp r;subst O;exact F6 (Kl N) (f _ _ i) (f _ _ L)
   |UnaryOp C a d =>
    cases C with
    |USub =>
     obtain⟨w,i,r⟩:=qA1.mp q;subst r;exact uo tT (f _ _ i)
    |Not =>
     obtain⟨w,i,r⟩:=qA1.mp q;subst r;exact uj (f _ _ i)
    |_=>cases q
   |BoolOp C S d=>exact Ke f q
   |IfExp t a b d =>
    obtain⟨ct,N,u⟩:=qA0.mp q;obtain⟨w,i,r⟩:=qA0.mp u;obtain⟨Z,L,O⟩:=qA1.mp r;subst O;exact F1 (F _ _ N) (f _ _ i) (f _ _ L)
   |Compare a Q bs d=>exact qx h.room f q
   |Tuple J j d =>
    obtain⟨cs,i,u⟩:=qA0.mp q;split at u
    .rename_i I;cases u;exact ue (VH f i).1 I
    .cases u
   |List J d =>
    obtain⟨cs,i,u⟩:=qA0.mp q;split at u
    .rename_i I;cases u;exact FY (VH f i).1 I
    .cases u
   |Subscript a b d=>exact qy h.room f q
   |FormattedValue a v W d =>
    change (if v=-1/\W=Z8 then(cE ar cl n l a).map YK else Z8)=Z9 c at q;split at q
    .rename_i R;obtain⟨rfl,rfl⟩:=R;obtain⟨w,i,r⟩:=qA1.mp q;subst r;exact rp (f _ _ i)
    .cases q
   |JoinedStr J d=>exact qq f q
   |Dict ks S d=>exact qm f q
   |Attribute a fl d =>
    change (if fl = "kept"/\NA a=Z7 then(cE ar cl n l a).map λw=>Xw U4 w else Z8)=Z9 c at q;split at q
    .rename_i R;obtain⟨rfl,hr⟩:=R;obtain⟨w,i,r⟩:=qA1.mp q;subst r;exact rh (f _ _ i) (E4 hr) h.dkc
    .cases q
   |Call Y J kw V =>
    cases kw with
    |cons _ _=>cases q
    |nil =>
     cases Y with
     |Name x p=>exact JP h f q
     |Attribute o m T=>exact JN h f q
     |_=>cases q
   |ListComp H E y d =>
    cases E with
    |nil=>cases q
    |cons g gs =>
     obtain⟨U,iter,K,ia⟩:=g;cases gs with
     |cons _ _=>cases q
     |nil =>
      change (if ia=0 then QQ l (RI l ar (cE ar cl n l) U iter) (cE ar cl n) (cT ar cl n) U H K y else Z8)=Z9 c at q;split at q
      .rename_i hz;subst hz;exact qd h q (λci e=>Nw h f e) (λG z P=>A G z P) (λG z P=>B G z P)
      .cases q
   |_=>cases q
  .have f:=A X l h;have F:=B X l h;have dflt:∀{c:CT},(cE ar cl n l e).map Y2=Z9 c->(∀s,dS e X.env s=(do let v <- s;gM e.pos;wJ [v] (truthy v)))->PT X e (YY X.K c):=λ{c} q he=>by obtain⟨w,i,r⟩:=qA1.mp q;subst r;exact FZ (f _ _ i) he
   cases e with
   |UnaryOp C a d =>
    cases C with
    |Not =>
     obtain⟨w,i,r⟩:=qA1.mp q;subst r;exact F0 (F _ _ i)
    |USub=>exact dflt q λ_=>rfl
    |UAdd=>exact dflt q λ_=>rfl
    |Invert=>exact dflt q λ_=>rfl
   |BoolOp C S d=>exact(Kc F q).pt
   |IfExp t a b d=>cases q
   |Compare a Q bs d=>exact qw h.room f q
   |_=>exact dflt q λ_=>rfl
def JM(b:Sc):List jV->List ExceptHandler->List jV->List jV->Option yV
 |[.Return (Z9 (.Call (.Attribute (.Name y yp) m apos) [a] [] cpos)) _],[.ExceptHandler (Z9 (.Name g _)) (Z9 en) [.Return (Z9 (.Call (.Name fl _) [.Name e2 _] [] _)) _] _],[],[] =>
  if b.fn.isSome=Z7/\g=("NetError":Str)/\fl=("_law_flags":Str)/\e2=en/\b.names.lookup ("NetError":Str)=Z9 .globalImplicit/\b.names.lookup ("_law_flags":Str)=Z9 .globalImplicit/\b.names.lookup en=Z9 .local/\en∈b.N/\XI en/\(en == ("__classdict__":Str))=Z5
  then Z9 (.Call (.Attribute (.Name y yp) m apos) [a] [] cpos)else Z8
 |_,_,_,_=>Z8
section
variable {X:Cx}{sc:Sc}{ar:Str->yK}{cl:Str->List D->M D}{k:Nat}
theorem Y5.nox(h:Y5 X sc ar cl k):Y5 X.nox sc ar cl k:=⟨h.calm,h.N,h.nd,h.gl,h.loc,h.cel,h.fre,h.fnn,h.room,h.roomT,h.xk,h.xm,h.xv,h.fl,h.hex,PassesOwn.never,h.exc,h.blt,h.dkc,h.fm,h.dkn,h.mts,h.frm,h.fns⟩
theorem pO(h:Y5 X sc ar cl k)(w:Yn X.nox f)(e:JM sc b t n s=Z9 r)(d:EJ cl f r=Z9 c):PS X (.Try b t n s pos) (Zo X (TZ c)):=by
 unfold JM at e;split at e
 .split at e
  .rename_i y H m l a o W g p T Y q O V U R S j;obtain⟨x,rfl,rfl,rfl,P,A,E,Q,N,B⟩:=j;cases e;change (if Yg a&&(l.endLine == o.line)then(VI.lookup m).bind λq=>(f (.Name y H)).bind λu=>(f a).map λv=>UI (cl q) u (ZS [v])else Z8)=Z9 c at d;split at d
   .rename_i j;rw[qB3]at j;obtain⟨g,K,d⟩:=qA0.mp d;obtain⟨u,z,d⟩:=qA0.mp d;obtain⟨v,G,d⟩:=qA1.mp d;subst d;obtain⟨M,J⟩:=h.mts _ _ K;obtain⟨I,F⟩:=h.frm x;obtain⟨i,L⟩:=qI6 Q;exact qV h.fl M h.room (qA4 _) J h.xm I F (h.hex x) (by rw[h.N];exact h.nd) (w _ _ z) (w _ _ G) (Yp j.1) (JT j.1) j.2 (h.gl _ P) (h.gl _ A) (by rw[h.N];exact L) (h.loc _ E) N B
   .cases d
  .cases e
 .cases e
end
section
variable (ar:Str->yK) (cl:Str->List D->M D)
def EG(a:Sc)(x:Str):Option G:=(TU a.N x 0).bind λi=>if a.names.lookup x=Z9 .local∨(a.fn.isSome=Z7/\a.names.lookup x=Z9 .cell)then Z9 (gN i)else Z8
mutual
noncomputable def cG:Nat->Sc->yV->Option G
 |0,_,_=>Z8
 |n+1,sc,e=>match e with
  |.Name x _=>EG sc x
  |.Subscript a b _=>match b with
   |_=>if Pq b then Z8 else(cE ar cl n sc a).bind λc=>(cE ar cl n sc b).map λd=>gS c d
  |.Tuple g _ _=>(cGs n sc g).map λf=>gT f
  |_=>Z8
noncomputable def cGs:Nat->Sc->yE->Option (List G)
 |0,_,_=>Z8
 |n+1,sc,es=>match es with
  |[]=>Z9 []
  |e::r=>if Yg e then(cG n sc e).bind λg=>(cGs n sc r).map λa=>g::a else Z8
end
end
theorem Y5.nd'(h:Y5 X sc ar cl k):X.N.Nodup:=by rw[h.N];exact h.nd
theorem Pj(h:Y5 X sc ar cl k)(e:EG sc x=Z9 g):∃i,g=gN i/\X.N[i]?=Z9 x/\Rh X.env.scope x/\(X.fn x=Z7∨X.env.scope.names.lookup x=Z9 .local):=by
 obtain⟨i,d,a⟩:=qA0.mp e;split at a
 .rename_i f;cases a;refine⟨i,rfl,by rw[h.N];exact(QS d).2,?_⟩;rcases f with q|⟨b,c⟩
  .exact⟨.inl (h.loc x q),.inr (h.loc x q)⟩
  .exact⟨.inr (h.cel x c),.inl (h.fnn b x)⟩
 .cases a
theorem pN(h:Pq b=Z5):∀v,gE (.Subscript a b pos) env v=(do
   let ov <- wJ [v] (jU a env)
   let iv <- wJ [v,ov] (jU b env)
   gM pos
   wJ [v,ov,iv] (uF ov iv v)
   release [v,ov,iv] []):=by cases b<;>first|(intro v;rfl)| cases h
theorem Nr{es:yE}(h:Yg e=Z7):jM (e::es) env=(Z5,gE e env)::jM es env:=by cases e<;>first|rfl|cases h
theorem EF:∀n:Nat,(∀X d,Y5 X d ar cl k->∀e g,cG ar cl n d e=Z9 g->PG X e (Xg X.K g))/\(∀X d,Y5 X d ar cl k->∀es f,cGs ar cl n d es=Z9 f->VU X es (PD X.K f)/\(jM es X.env).length=f.length/\(jM es X.env).findIdx? (·.1)=Z8)
 |0=>⟨λX d h e c q=>(by cases q),λX d h e c q=>(by cases q)⟩
 |n+1=>by
  obtain⟨D,t⟩:=EF n;refine⟨λX d h e g q=>?_,λX d h es f q=>?_⟩
  .cases e with
   |Name x l =>
    obtain⟨i,rfl,s,u,p⟩:=Pj h q;exact FD (Qm h.nd' s u p)
   |Subscript a b l =>
    change (if Pq b then Z8 else(cE ar cl n d a).bind λC=>(cE ar cl n d b).map λB=>gS C B)=_ at q;split at q
    .cases q
    .rename_i y;obtain⟨C,m,o⟩:=qA0.mp q;obtain⟨B,z,A⟩:=qA1.mp o;subst A;exact sx (G1 h.room) ((TN n).1 X d h _ _ m) ((TN n).1 X d h _ _ z) (pN (by simpa using y))
   |Tuple es j l =>
    obtain⟨f,m,o⟩:=qA1.mp q;subst o;obtain⟨s,u,p⟩:=t X d h es f m;exact sk h.calm s u p
   |_=>cases q
  .cases es with
   |nil=>cases q;exact⟨sv,rfl,rfl⟩
   |cons e r =>
    change (if Yg e=Z7 then(cG ar cl n d e).bind λg=>(cGs ar cl n d r).map λf=>g::f else Z8)=_ at q;split at q
    .rename_i y;obtain⟨g,m,o⟩:=qA0.mp q;obtain⟨v,z,A⟩:=qA1.mp o;subst A;obtain⟨s,u,p⟩:=t X d h r v z;have w:=Nr (es:=r) (env:=X.env) y;refine⟨su (D X d h e g m) s (by rw[w];rfl),by rw[w];simp[u],by rw[w,qM7];simp[p]⟩
    .cases q
def SW:yV->Bool
 |.ListComp _ _ _ _=>Z7
 |.SetComp _ _ _ _=>Z7
 |.DictComp _ _ _ _ _=>Z7
 |_=>Z5
theorem JL(h:SW e=Z5):wI e t n env=pure Z5:=by cases e<;>first|rfl|cases h
def JK:yV->yV->Bool
 |.Name _ _,.ListComp _ _ _ _=>Z5
 |.Tuple _ _ _,.ListComp _ _ _ _=>Z5
 |_,e=>SW e
theorem pM(h:Y5 X sc ar cl k):∀{n:Nat}{elt:yV}{gens:List dE}{scope:jW}{pos pos' a:Pos}{x:Str}{c:C}{i:Nat} (q:cE ar cl n sc (.ListComp elt gens scope pos)=Z9 c) (j:PG X (.Name x pos') (Ss i))
  (f:wI (.ListComp elt gens scope pos) (Z9 (.Name x pos')) a.line X.env=pure Z7),PS X (.Assign [.Name x pos'] (.ListComp elt gens scope pos) a) (Vj (ZD X.K c) (Ss i))
 |0,_,_,_,_,_,_,_,_,_,q,_,_=>by cases q
 |n+1,elt,gens,scope,pos,pos',a,x,c,i,q,j,f=>by
  obtain⟨d,p⟩:=TN (ar:=ar) (cl:=cl) (k:=k) n;cases gens with
  |nil=>cases q
  |cons g u =>
   obtain⟨r,iter,m,t⟩:=g;cases u with
   |cons _ _=>cases q
   |nil =>
    change (if t=0 then QQ sc (RI sc ar (cE ar cl n sc) r iter) (cE ar cl n) (cT ar cl n) r elt m scope else Z8)=Z9 c at q;split at q
    .rename_i s;subst s;exact qc h j f q (λv e=>Nw h (d X sc h) e) (λl b o=>d l b o) (λl b o=>p l b o)
    .cases q
theorem pL:∃b:Bool,wI (.ListComp elt gens scope pos) (Z9 (.Name x pos')) line env=pure b:=⟨_,rfl⟩
inductive CB(tg e:yV):Prop
 |no (h:∀n env,wI e (Z9 tg) n env=pure Z5)
 |yes (x:Str) (pos':Pos) (elt:yV) (gens:List dE) (scope:jW) (pos:Pos) (h1:tg=.Name x pos') (h2:e=.ListComp elt gens scope pos)
theorem CB.of(h:SW e=Z5):CB a e:=.no λ_ _=>JL h
theorem EE(h:JK g e=Z5):CB g e:=by
 cases g with
 |Name x f =>
  cases e with
  |ListComp d b a c=>exact .yes x f d b a c rfl rfl
  |_=>exact .of h
 |Tuple i k c =>
  cases e with
  |ListComp d b a c=>exact .no λ_ _=>rfl
  |_=>exact .of h
 |_=>exact .of h
def Nq:yV->Bool
 |.List _ _=>Z7
 |_=>Z5
theorem ED(h:(W3 a&&W3 e)=Z5)(c:Nq a=Z5):jS [a] e env=pure Z8:=by
 cases a with
 |Tuple d n b=>cases e<;>first|rfl|cases h
 |List d b=>cases c
 |_=>rfl
def EC:yV->yE
 |.Tuple a _ _=>a
 |_=>[]
def two?{c:Type}:List c->Option (c×c)
 |[a,b]=>Z9 (a,b)
 |_=>Z8
def EB(c:Sc)(a b:yV):Bool:=match a with
 |.Name x _=>match b with
  |.Name y _=>c.names.lookup x == Z9 .cell||c.names.lookup y == Z9 .cell
  |_=>Z5
 |.Subscript _ _ _=>match b with
  |.Subscript _ _ _=>Z7
  |_=>Z5
 |_=>Z5
def EA(c:Sc)(es:yE):Bool:=match es with
 |[a,b]=>EB c a b
 |_=>Z5
def QN(a:Sc)(e:yV):Bool:=match e with
 |.Tuple b _ _=>EA a b
 |_=>Z5
theorem pK(h:QN sc e=Z7):(∃x g y f k pos,e=.Tuple [.Name x g,.Name y f] k pos/\(sc.names.lookup x=Z9 .cell∨sc.names.lookup y=Z9 .cell))∨∃a b p c d q k pos,e=.Tuple [.Subscript a b p,.Subscript c d q] k pos:=by
 unfold QN at h;split at h
 .unfold EA at h;split at h
  .unfold EB at h;split at h
   .split at h
    .simp only[qG8,beq_iff_eq]at h;exact .inl ⟨_,_,_,_,_,_,rfl,h⟩
    .cases h
   .split at h
    .exact .inr ⟨_,_,_,_,_,_,_,_,rfl⟩
    .cases h
   .cases h
  .cases h
 .cases h
theorem pJ{vs:yE}:jS [.Tuple [.Subscript a b p,.Subscript c d q] k pos] (.Tuple vs k2 e) env=pure Z8:=by
 unfold jS;simp only[pure_bind];split
 .rfl
 .split
  .rfl
  .rw[if_pos];rfl
theorem pI{vs:yE}(h:env.scope.names.lookup x=Z9 .cell∨env.scope.names.lookup y=Z9 .cell):jS [.Tuple [.Name x c,.Name y b] k pos] (.Tuple vs k2 a) env=pure Z8:=by
 have f:(([Expr.Name x c,Expr.Name y b].filterMap λe=>match e with
  |.Name id p=>if(env.kindOf id == Z9 NameKind.local&&p.line == (([Expr.Name x c,Expr.Name y b].head?.map (·.pos.line)).getD 0))=Z7 then Z9 id else Z8
  | _=>Z8).length != 2)=Z7:=by
  have g:env.kindOf x=env.scope.names.lookup x:=rfl;have i:env.kindOf y=env.scope.names.lookup y:=rfl;have d:(Z9 NameKind.cell == Z9 NameKind.local)=Z5:=by decide
  rcases h with h|h
  .simp only[qE9,qJ6,g,h,d,qH8,qJ7,if_false];split<;>rfl
  .simp only[qE9,qJ6,i,h,d,qH8,qJ7,if_false];split<;>rfl
 unfold jS;simp only[pure_bind];split
 .rfl
 .split
  .rfl
  .rw[if_pos];rw[qG8];exact .inl f
theorem JI(h:Y5 X sc ar cl k)(f:(W3 a&&W3 e&&!QN sc a)=Z5)(c:Nq a=Z5):jS [a] e X.env=pure Z8:=by
 cases g:QN sc a with
 |false =>
  rw[g]at f;exact ED (by simpa using f) c
 |true =>
  cases d:W3 e with
  |false=>exact ED (by rw[d];simp) c
  |true =>
   obtain⟨l,p,j,rfl⟩:=Po d;rcases pK g with⟨x,o,y,n,m,i,rfl,b⟩| ⟨_,_,_,_,_,_,_,_,rfl⟩
   .exact pI (b.imp (h.cel x) (h.cel y))
   .exact pJ
theorem JH:∀{l:List a}{p:a×a},two? l=Z9 p->l=[p.1,p.2]
 |[_,_],_,h=>by cases h;rfl
def Np(a:Sc)(t v:yV×yV)(n:Str×Str):Option (Nat×Nat×yV×yV) :=
 if n.1≠n.2/\a.names.lookup n.1=Z9 .local/\a.names.lookup n.2=Z9 .local/\t.1.pos.line=t.2.pos.line/\Yg v.1=Z7/\Yg v.2=Z7/\([v.1,v.2].all (foldedForSure 8))=Z5/\([v.1,v.2].all (constantsAlone 8))=Z5 then
  (TU a.N n.1 0).bind λi=>(TU a.N n.2 0).map λj=>(i,j,v.1,v.2)
 else Z8
def JG(a:Sc)(t v:yV×yV):Option (Nat×Nat×yV×yV):=(Pn [t.1,t.2]).bind λb=>(two? b).bind (Np a t v)
def Pi(b:Sc)(a e:yV):Option (Nat×Nat×yV×yV):=if W3 a=Z7/\W3 e=Z7 then
  (two? (EC a)).bind λt=>(two? (EC e)).bind (JG b t)
 else Z8
theorem pH(hk:env.scope.kind=.function)(c:x≠y)(s:env.scope.names.lookup x=Z9 .local)(m:env.scope.names.lookup y=Z9 .local)(i:px.line=e.line)(l:Yg a=Z7)(r:Yg b=Z7)
  (t:([a,b].all (foldedForSure 8))=Z5) (u:([a,b].all (constantsAlone 8))=Z5):jS [.Tuple [.Name x px,.Name y e] k pt] (.Tuple [a,b] k2 d) env=pure (Z9 [x,y]):=by
 have h:env.blockKind=.function:=by unfold Env.blockKind;rw[hk];rfl
 have o:env.kindOf x=Z9 .local:=s;have k2:env.kindOf y=Z9 .local:=m;have p:(Expr.Name x px).pos=px:=rfl;have n:(Z9 NameKind.local == Z9 NameKind.local)=Z7:=by decide
 have g:(e.line == px.line)=Z7:=by rw[i];exact beq_self_eq_true _
 have v:(px.line == px.line)=Z7:=beq_self_eq_true _;have A:[x,y].eraseDups.length=2:=by simp[List.eraseDups_cons,Ne.symm c]
 unfold jS;simp only[qB6,qO2,h];rw[show(!((0+1+1 == 2)||(0+1+1 == 3))||(0+1+1 != 0+1+1)||(ScopeKind.function != ScopeKind.function))=Z5 from rfl];simp only[qJ7,if_false];rw[if_neg (λz=>by
  obtain⟨w,f,j⟩:=qN7.mp z;have q:Yg w=Z7:=by
   simp only[qA8,qB8,or_false]at f;rcases f with rfl|rfl
   .exact l
   .exact r
  cases w<;>first|exact absurd j qB0|exact absurd q qB0)]
 simp only[qE9,qJ6,List.head?_cons,qL1,Option.getD_some,o,k2,p,n,g,v,Bool.and_self,if_true,A,t,u];rfl
def Nn(a:Sc):Option yV->Option yV->Option Str
 |some (.Call (.Name x _) [.Constant (.str _) _ _] [] _),Z8=>if a.names.lookup x=Z9 .globalImplicit/\x∈Wc/\XI x then Z9 x else Z8
 |_,_=>Z8
theorem pG(h:Y5 X sc ar cl k)(e:Nn sc a b=Z9 x):PS X (.Raise a b pos) (Zo X (WM x)):=by
 unfold Nn at e;split at e
 .split at e
  .rename_i c;cases e;exact sd h.calm (h.gl _ c.1) (h.exc _ c.2.1) c.2.2
  .cases e
 .cases e
def Xt(a:Sc)(ar:Str->yK):yV->Option (Str×yE)
 |.Call (.Name g _) args [] _=>if g∈qC/\a.names.lookup g=Z9 .globalImplicit/\ar g=Z9 args.length/\args≠[]/\XI g then Z9 (g,args)else Z8
 |_=>Z8
theorem TM(h:Y5 X sc ar cl k)(s:Yn X f)(d:Xt sc ar e=Z9 (g,c))(n:zA1? f c=Z9 j):PE X e (YL X (YF (cl g) (ZS j))):=by
 unfold Xt at d;split at d
 .split at d
  .rename_i v;obtain⟨_,u,t,m,o⟩:=v;cases d;obtain⟨r,l⟩:=VH s n;obtain⟨⟨x,p⟩,i⟩:=h.fns g _ t;cases c with
   |nil=>exact absurd rfl m
   |cons a w=>exact(Kx p h.room (h.gl g u) FG r (qA4 _) o (Yp (l a (by simp))) (Pr λb q=>l b (by simp[q]))).weak (FB i)
  .cases d
 .cases d
theorem pF(h:Y5 X sc ar cl k)(o:compOk sc xs scope=Z7){f:Sc->yV->Option C}(B:∀p j,Y5 p j ar cl k->Yn p (f j))(i:Xt (UG xs scope) ar e=Z9 (g,c))(w:zA1? (f (UG xs scope)) c=Z9 q)
   (v:Wm (Xj X.prog X.w) (WT X scope (xs++Xn scope.names) d s H m ex n) (EX X)):PE (WT X scope (xs++Xn scope.names) d s H m ex n) e (YL X (YF (cl g) (ZS q))):=by
 have t:=h.comp o d s H m ex;unfold Xt at i;split at i
 .split at i
  .rename_i F;obtain⟨_,E,D,u,x⟩:=F;cases i;obtain⟨A,r⟩:=VH (B _ _ t) w;obtain⟨⟨I,y⟩,l⟩:=h.fns g _ D;cases c with
   |nil=>exact absurd rfl u
   |cons a G=>exact(Kx (X:=WT X scope (xs++Xn scope.names) d s H m ex n) y h.room (t.gl g E) v (JX A) (qA4 _) x (Yp (r a (by simp))) (Pr λb z=>r b (by simp[z]))).weak (FB l)
  .cases i
 .cases i
def UZ(t:CT)(a b:C):C:=fun B S=>match t B S with
 |.ok k c=>if k then a B c else b B c
 |_=>.bad
theorem pE(q:PT X t (YY X.K l))(p:PE X a (YL X m))(r:PE X b (YL X i)):PE X (.IfExp t a b pos) (YL X (UZ l m i)):=(HI q p r).weak (by
 rintro Z H Q ⟨J,B,S,s,n,y⟩;unfold UZ at y;cases h:l B S with
 |bad=>rw[h]at y;exact y.elim
 |er _ _=>rw[h]at y;exact y.elim
 |ok k g =>
  rw[h]at y;refine⟨J,B,S,k,g,s,n,h,λu o f e=>?_⟩;dsimp only at y;cases k with
  |true =>
   refine⟨o,B,g,f,n.up e,?_⟩;revert y;cases m B g with
   |ok d j=>exact λy=>Yw.shift y e
   |bad=>exact λy=>y
   |er c j=>exact λy=>X8.shift y e
  |false =>
   refine⟨o,B,g,f,n.up e,?_⟩;revert y;cases i B g with
   |ok d j=>exact λy=>Yw.shift y e
   |bad=>exact λy=>y
   | er c j=>exact λy=>X8.shift y e)
def TH(c:C)(g:G):CS:=fun B S=>match c B S with
 |.ok d a=>match g d B a with
  |.ok e b=>.nx e b
  |_=>.bad
 |.bad=>.bad
 |.er k a=>.er k a
theorem pD(he:PE X e (YL X f))(D:PG X a (Xg X.K g))(t:gY [a] e pos.line X.env=pure Z5)(w:jS [a] e X.env=pure Z8)(x:(jM [a] X.env).map (·.2)=[gE a X.env]):PS X (.Assign [a] e pos) (Zo X (TH f g)):=(Hz he D t w x).weak (by
 rintro E Z H ⟨J,B,S,u,m,p⟩;refine⟨J,B,S,u,m,?_⟩;unfold TH at p;revert p;cases f B S with
 |bad=>exact λp=>p
 |er k h=>exact λp=>p
 |ok d h =>
  dsimp only;cases y:g d B h with
  |bad=>exact λp=>False.elim p
  |er _ _=>exact λp=>False.elim p
  | ok z n=>exact λp v F o i b s=>⟨o,B,h,d,z,n,i,m.up b,s,y,fun r q A c j l=>p r q A c (b.trans j c.nd) l⟩)
def JF(ar:Str->yK)(cl:Str->List D->M D)(f:yV->Option C)(d:Sc)(e:yV):Option C:=match e with
 |.Call (.Attribute (.Name y yp) m apos) [a] [] cpos=>if Yg a&&(apos.endLine == cpos.line)then(Xt d ar a).bind λp=>(VI.lookup m).bind λq=>(f (.Name y yp)).bind λc=>(zA1? f p.2).map λb=>TQ (cl q) c (YF (cl p.1) (ZS b))else Z8
 |_=>Z8
theorem JE(h:Y5 X sc ar cl k)(b:Yn X f)(q:JF ar cl f sc e=Z9 c):PE X e (YL X c)/\SW e=Z5:=by
 unfold JF at q;split at q
 .split at q
  .rename_i a;rw[qB3]at a;obtain⟨p,z,q⟩:=qA0.mp q;obtain⟨g,j,q⟩:=qA0.mp q;obtain⟨m,d,q⟩:=qA0.mp q;obtain⟨n,i,q⟩:=qA1.mp q;subst q;obtain⟨M,l⟩:=h.mts _ _ j;exact⟨pX M h.room (qA4 _) l (b _ _ d) (TM h b z i) a.1 a.2,rfl⟩
  .cases q
 .cases q
def cX(ar:Str->yK)(cl:Str->List D->M D)(n:Nat)(d:Sc)(e:yV):Option C:=match JF ar cl (cE ar cl n d) d e with
 |some c=>Z9 c
 |none=>match JV ar cl (λs e=>Xt s ar e) (λk j=>RI d ar (cE ar cl n d) k j) (cE ar cl n) d e with
 |some c=>Z9 c
 |none=>match Xt d ar e with
 |some (g,args)=>(zA1? (cE ar cl n d) args).map λf=>YF (cl g) (ZS f)
 |none=>match e with
  |.IfExp t a b _=>(Xt d ar a).bind λp=>(Xt d ar b).bind λq=>(cT ar cl n d t).bind λl=>(zA1? (cE ar cl n d) p.2).bind λh=>(zA1? (cE ar cl n d) q.2).map λi=>UZ l (YF (cl p.1) (ZS h)) (YF (cl q.1) (ZS i))
  |_=>Z8
theorem pC(h:Xt sc ar e=Z9 p):SW e=Z5:=by
 unfold Xt at h;split at h
 .rfl
 .cases h
theorem RH(h:Y5 X sc ar cl k)(f:Yn X (cE ar cl n sc))(x:QR X (cT ar cl n sc))(q:cX ar cl n sc e=Z9 c):PE X e (YL X c)/\SW e=Z5:=by
 unfold cX at q;split at q
 .rename_i d;cases q;exact JE h f d
 split at q
 .rename_i d;cases q;obtain⟨z,_,_,_,_,rfl⟩:=JU h d (λJ iter P e=>Nw h f e) (λj a m=>(TN n).1 j a m) λl M o b g i y v w B s H C ex O r=>pF h o (λj a m=>(TN n).1 j a m) v w r;exact⟨z,rfl⟩
 split at q
 .rename_i g i d;obtain⟨y,t,A⟩:=qA1.mp q;subst A;exact⟨TM h f d t,pC d⟩
 .split at q
  .obtain⟨p,G,q⟩:=qA0.mp q;obtain⟨L,D,q⟩:=qA0.mp q;obtain⟨K,E,q⟩:=qA0.mp q;obtain⟨N,u,q⟩:=qA0.mp q;obtain⟨I,F,q⟩:=qA1.mp q;subst q;exact⟨pE (x _ _ E) (TM h f G u) (TM h f D F),rfl⟩
  .cases q
def Nm:Nat:=100000
def pB:Option CS->Option CS
 |some c=>Z9 c
 |none=>Z9 X7
section
variable (ar:Str->yK) (cl:Str->List D->M D)
mutual
noncomputable def JD:Nat->Sc->jV->Option CS
 |0,_,_=>Z8
 |n+1,sc,s=>match s with
  |.Return v _=>match v with
   |none=>Z9 Kz
   |some e=>match cX ar cl n sc e with
    |some c=>Z9 (V3 c)
    |none=>(cE ar cl n sc e).map λc=>ZG c
  |.Expr e _=>if SW e then Z8 else match cX ar cl n sc e with
   |some c=>Z9 (RX c)
   |none=>(cE ar cl n sc e).map λc=>Wf c
  |.Assign m e _=>match m with
   |[h] =>
    match Pi sc h e with
    |some (i,j,a,b)=>(cE ar cl n sc a).bind λl=>(cE ar cl n sc b).map λk=>Xu i j l k
    |none =>
    if JK h e||(W3 h&&W3 e&&!QN sc h)||Nq h||!Yg h then Z8 else match cX ar cl n sc e with
     |some c=>(cG ar cl n sc h).map λg=>TH c g
     |none=>(cE ar cl n sc e).bind λc=>(cG ar cl n sc h).map λg=>ZJ c g
   |_=>Z8
  |.If t a b _=>(cT ar cl n sc t).bind λp=>(cSts n sc a).bind λl=>(cSts n sc b).map λk=>Zj p l k
  |.For h u f d _=>match d with
   |[]=>(RI sc ar (cE ar cl n sc) h u).bind λq=>(cG ar cl n sc h).bind λg=>(cSts n sc f).map λk=>Za q g k
   |_::_=>Z8
  |.While t f d _=>match d with
   |[]=>(cT ar cl n sc t).bind λp=>(cSts n sc f).map λk=>T9 Nm p k
   |_::_=>Z8
  |.Pass _=>Z9 ZL
  |.Break _=>Z9 R0
  |.Continue _=>Z9 RZ
  |.Raise a b _=>match Nn sc a b with
   |some x=>Z9 (WM x)
   |none=>Z9 X7
  |.Try b w d o _=>(JM sc b w d o).bind λr=>(EJ cl (cE ar cl n sc) r).map TZ
  |_=>Z8
noncomputable def cSts:Nat->Sc->List jV->Option CS
 |0,_,_=>Z8
 |n+1,sc,ss=>match ss with
  |[]=>Z9 ZL
  |s::r=>(pB (JD n sc s)).bind λc=>(cSts n sc r).map λd=>ZV c d
end
end
theorem pA(h:Y5 X sc ar cl k)(c:Np sc (.Name x m,.Name y p) (v1,v2) (x,y)=Z9 (i,j,a,b))(B:PE X a (ZD X.K o))(E:PE X b (ZD X.K g)):
  PS X (.Assign [.Tuple [.Name x m,.Name y p] w pt] (.Tuple [v1,v2] k2 f) pos) (Zo X (Xu i j o g)):=by
 unfold Np at c;dsimp only at c;split at c
 .rename_i J;obtain⟨H,I,t,u,r,q,s,D⟩:=J;obtain⟨L,F,e⟩:=qA0.mp c;obtain⟨K,A,d⟩:=qA1.mp e;cases d;have v:=(QS F).2;have G:=(QS A).2;have n:=h.loc x I;have l:=h.loc y t;refine sh h.calm h.nd' (by rw[h.N];exact v) (by rw[h.N];exact G) (λz=>?_) n l B E (Yp r) (Yp q) λhk=>pH hk H n l u r q s D
  simp_all
 .cases c
inductive JC(sc:Sc)(tg e:yV)(r:Nat×Nat×yV×yV):Prop
 |mk (x y:Str) (px py pt pt2:Pos) (kt k2:Nat) (v1 v2:yV) (h1:tg=.Tuple [.Name x px,.Name y py] kt pt) (h2:e=.Tuple [v1,v2] k2 pt2) (hp:Np sc (.Name x px,.Name y py) (v1,v2) (x,y)=Z9 r)
theorem pz(d:Pi sc g e=Z9 r):JC sc g e r:=by
 unfold Pi at d;by_cases f:W3 g=Z7/\W3 e=Z7
 .rw[if_pos f]at d;obtain⟨u,t,pt,rfl⟩:=Po f.1;obtain⟨o,s,h,rfl⟩:=Po f.2;clear f;obtain⟨⟨m,l⟩,q,b⟩:=qA0.mp d;obtain⟨⟨k,j⟩,v,a⟩:=qA0.mp b;obtain⟨z,n,c⟩:=qA0.mp a;obtain⟨⟨x,y⟩,E,i⟩:=qA0.mp c;clear d b a c;have A:u=[m,l]:=JH q;have D:o=[k,j]:=JH v;have p:z=[x,y]:=JH E;subst A D p;obtain⟨H,w,rfl,F⟩:=(Nu n).2 0 m rfl;obtain⟨G,C,rfl,B⟩:=(Nu n).2 1 l rfl;cases F;cases B;exact⟨x,y,w,C,pt,h,t,s,k,j,rfl,rfl,i⟩
 .simp_all
theorem pw(h:Y5 X sc ar cl k)(c:Pi sc f e=Z9 (i,j,a,b))(l:PE X a (ZD X.K g))(m:PE X b (ZD X.K d)):PS X (.Assign [f] e pos) (Zo X (Xu i j g d)):=by obtain⟨x,y,s,t,pt,n,p,q,r,o,rfl,rfl,c⟩:=pz c;exact pA h c l m
theorem Ez(h:Y5 X sc ar cl k):lC (yX X.prog X.w) X.A X.env X.xe:=h.own
theorem Ph:∀n:Nat,(∀X d,Y5 X d ar cl k->∀s c,JD ar cl n d s=Z9 c->PS X s (Zo X c))/\(∀X d,Y5 X d ar cl k->∀s c,cSts ar cl n d s=Z9 c->XH X s (Zo X c))
 |0=>⟨λX d h e c q=>(by cases q),λX d h e c q=>(by cases q)⟩
 |n+1=>by
  obtain⟨Y,o⟩:=Ph n;refine⟨λX d h s c q=>?_,λX d h Z c q=>?_⟩
  .have u:=(TN n).1 X d h;have C:=(TN n).2 X d h;have I:=(EF n).1 X d h;cases s with
   |Return v pos =>
    cases v with
    |none=>cases q;exact sC
    |some e =>
     change (match cX ar cl n d e with|some c=>Z9 (V3 c)| none=>(cE ar cl n d e).map λc=>ZG c)=Z9 c at q;split at q
     .rename_i O B;cases q;exact rZ (RH h u C B).1
     obtain⟨P,f,m⟩:=qA1.mp q;subst m;exact Ky (u _ _ f)
   |Expr e pos =>
    change (if SW e=Z7 then Z8 else match cX ar cl n d e with|some c=>Z9 (RX c)| none=>(cE ar cl n d e).map λc=>Wf c)=Z9 c at q;split at q
    .cases q
    .rename_i G;split at q
     .rename_i O B;cases q;exact rY (RH h u C B).1 (JL (by simpa using G))
     obtain⟨P,f,m⟩:=qA1.mp q;subst m;exact sA (u _ _ f) (JL (by simpa using G))
   |Assign L e pos =>
    cases L with
    |nil=>cases q
    |cons w r =>
     cases r with
     |cons _ _=>cases q
     |nil =>
      change (match Pi d w e with|some (i,j,a,b)=>(cE ar cl n d a).bind λM=>(cE ar cl n d b).map λA=>Xu i j M A|none=>if JK w e||(W3 w&&W3 e&&!QN d w)||Nq w||!Yg w then Z8 else match cX ar cl n d e with|some c=>(cG ar cl n d w).map λg=>TH c g|none=>(cE ar cl n d e).bind λc=>(cG ar cl n d w).map λg=>ZJ c g)=Z9 c at q;split at q
      .rename_i i j a b T;obtain⟨M,f,m⟩:=qA0.mp q;obtain⟨A,l,p⟩:=qA1.mp m;subst p;exact pw h T (u _ _ f) (u _ _ l)
      split at q
      .cases q
      .rename_i G;simp only[qG8,not_or,Bool.not_eq_true,qF6,Bool.not_eq_false]at G;obtain⟨⟨⟨z,H⟩,J⟩,K⟩:=G;split at q
       .rename_i O B;obtain⟨g,l,p⟩:=qA1.mp q;subst p;obtain⟨z1,z2⟩:=RH h u C B;rcases EE z with z|⟨x,Q,elt,gens,scope,R,rfl,rfl⟩
        .exact pD z1 (I _ _ l) (z _ _) (JI h H J) (by rw[Nr (by simpa using K)];rfl)
        .cases z2
       obtain⟨P,f,m⟩:=qA0.mp q;obtain⟨g,l,p⟩:=qA1.mp m;subst p;rcases EE z with z|⟨x,Q,elt,gens,scope,R,rfl,rfl⟩
       .refine NG (u _ _ f) (I _ _ l) (z _ _) (JI h H J) ?_;rw[Nr (by simpa using K)];rfl
       .obtain⟨b,S⟩:=pL (elt:=elt) (gens:=gens) (scope:=scope) (pos:=R) (pos':=Q) (x:=x) (line:=pos.line) (env:=X.env);cases b with
        |false=>exact NG (u _ _ f) (I _ _ l) S (JI h H J) (by rw[Nr (by simpa using K)];rfl)
        |true =>
         cases n with
         |zero=>cases l
         |succ n =>
          obtain⟨i,rfl,h1,h2,h3⟩:=Pj h l;exact sj (pM h f (Qm h.nd' h1 h2 h3) S)
   |If t a b pos =>
    obtain⟨W,E,m⟩:=qA0.mp q;obtain⟨M,f,p⟩:=qA0.mp m;obtain⟨A,l,F⟩:=qA1.mp p;subst F;exact FE (C _ _ E) (o X d h _ _ f) (o X d h _ _ l)
   |For w it D y pos =>
    cases y with
    |cons _ _=>cases q
    |nil =>
     obtain⟨ci,E,m⟩:=qA0.mp q;obtain⟨g,f,p⟩:=qA0.mp m;obtain⟨A,l,F⟩:=qA1.mp p;subst F;obtain⟨V,U⟩:=Nw h u E;exact se (Ez h) h.calm V (I _ _ f) (o X d h _ _ l) (Nx U)
   |While t D y pos =>
    cases y with
    |cons _ _=>cases q
    |nil =>
     obtain⟨W,E,m⟩:=qA0.mp q;obtain⟨A,l,F⟩:=qA1.mp m;subst F;exact sg Nm (Ez h) (C _ _ E) (o X d h _ _ l)
   |Pass pos=>cases q;exact sF
   |Break pos=>cases q;exact sE
   |Continue pos=>cases q;exact sD
   |Try b hs y fin pos =>
    obtain⟨r,f,q⟩:=qA0.mp q;obtain⟨O,l,q⟩:=qA1.mp q;subst q;exact pO h ((TN n).1 X.nox d h.nox) f l
   |Raise a b pos =>
    change (match Nn d a b with|some x=>Z9 (WM x)| none=>Z9 X7)=Z9 c at q;split at q
    .rename_i x hx;cases q;exact pG h hx
    .cases q;exact FF
   |_=>cases q
  .cases Z with
   |nil=>cases q;exact NH
   |cons s r =>
    obtain⟨z,f,m⟩:=qA0.mp q;obtain⟨H,l,p⟩:=qA1.mp m;subst p;cases N:JD ar cl n d s with
    |none=>rw[N]at f;cases f;exact RY FF (o X d h _ _ l)
    |some c=>rw[N]at f;cases f;exact RY (Y X d h _ _ N) (o X d h _ _ l)
def Yu(n:Nat)(ds:List D):ZR:=ds.map Z9++qC3 (n - ds.length) Z8
def Zz(np nN:Nat)(b:CS):List D->M D:=λe S=>if e.length=np then(match b (Yu nN e) S with
 |.nx _ a=>.ok .non a
 |.rt d a=>.ok d a
 |.er c a=>.er c a
 | _=>.bad)else .bad
theorem RVs.begins{K:yP}(r:RVs K H J ds vs):RE K H J (Yu N.length ds) (start N vs):=by
 unfold Yu start;refine⟨by simp[r.len],λi d e=>?_⟩;by_cases a:i<ds.length
 .rw[qB7 (by simpa using a),qC1]at e;rw[qB7 (by rw[qA6,<- r.len];exact a),qC1];cases q:ds[i]? with
  |none=>rw[q]at e;cases e
  |some f =>
   rw[q]at e;cases e;obtain⟨v,c,b⟩:=r.get q;exact⟨v,by rw[c];rfl,b⟩
 .rw[qA5 (by simpa using a),qF5]at e;split at e<;>cases e
def YD(N ps:yH)(scope:jW):Bool :=
 decide (scope.kind=.function)&&!scope.isCoroutine&&!scope.isGenerator&&decide N.Nodup&&decide (N.take ps.length=ps)&&ps.all (λx=>scope.names.lookup x == Z9 .local||scope.names.lookup x == Z9 .cell)&&scope.names.all (λy=>y.2 != .free)
theorem JB(h:YD N ps scope=Z7):Sm N ps scope:=by
 unfold YD at h;simp only[qB3,decide_eq_true_eq,qF6]at h;obtain⟨⟨⟨⟨⟨⟨g,i⟩,b⟩,d⟩,j⟩,f⟩,c⟩:=h;refine⟨g,i,b,d,j,λx e=>?_,λy a=>?_⟩
 .have:=qB9.mp f x e;simpa using this
 .have:=qB9.mp c y a;simpa using this
def VG(P:yY)(w:jC)(K:yP)(a:Str->yF)(base:jB):Prop:=UK K=Z7/\(∀c∈X2,∃C,a c=Z9 (.ref C)/\XU K c=Z9 C)/\a "ValueError"=Z8/\Pv P w K a base
theorem WN.okX{K:yP}{st:jV}(F:WN K x b st f e)(S:Sm N ps (Zd st))(len:∀vs H Q E,sp vs H Q E->vs.length=ps.length)
  (d:∀(c:yT) (A:jE) (a:List Env) (s:yR) (H:Hp) (vs:List V) (Q:VK) (E:XK),e.code=c->Zr k (A.deeper (lR b (Zd st) s.heap.objs.size f c))->sp vs H Q E ->
   ∃t,XH (XE CX P w K i base N b (Zd st) f c A a s H E) (X4 st) t/\t { nx:=λ_ j=>Q .non j,rt:=Q } (start N vs) H):YO P w K i base CX (k+1) f e ps sp:=by obtain⟨p,v,kV,o,u,r,c,q,m,rfl,n,h⟩:=F.ex;exact He n h S len λA a s H vs Q E l g=>d c A a s H vs Q E rfl l g
theorem RG{K:yP}{st:jV}{G:jT}(F:WN K yn x st l G)
  (X:YD N ps (Zd st)=Z7) (hc:cSts ar cl e ⟨N,(Zd st).names,Z9 x⟩ (X4 st)=Z9 b)
  (O:U1 ar a) (v:∀x∈Wc,∃C,a x=Z9 (.ref C)/\Xi K C)
  (p:VG P w K a base)
  (u:Pl w K a) (t:∀m q,VI.lookup m=Z9 q->RQ P w K a base m (3*k) (Xo K a (cl q) 2)/\∀ds S,cl q ds S≠.bad->ds.length=2)
  (V:∀y n,ar y=Z9 n->(∃ps,QY P w K a base y ps (3*k) (Xo K a (cl y) n))/\∀ds S,cl y ds S≠.bad->ds.length=n):YO P w K a base (Xj P w) (3*k+2+1) l G ps (Xo K a (Zz ps.length N.length b) ps.length):=by
 have S:=JB X;refine F.okX (k:=3*k+2) S (λR H Q E h=>h.1) (λj A d s H R Q E Z L h=>?_);obtain⟨T,J,ds,M,Y,I,y⟩:=h;have o:Wz (XE (Xj P w) P w K a base N x (Zd st) l j A d s H E) E:=⟨rfl,rfl,rfl,rfl⟩
 have v:Y5 (XE (Xj P w) P w K a base N x (Zd st) l j A d s H E) ⟨N,(Zd st).names,Z9 x⟩ ar cl k:={
  calm:=rfl
  N:=rfl
  nd:=S.nd
  gl:=λx g=>g
  loc:=λx g=>g
  cel:=λx g=>g
  fre:=λx g=>.inr g
  fnn:=λ_ x=>rfl
  room:=L.mono (by omega)
  roomT:=λ_=>L
  xk:=p.1
  xm:=p.2.1
  xv:=p.2.2.1
  fl:=p.2.2.2
  hex:=λ_=>rfl
  own:=PassesOwn.leaving
  exc:=v
  blt:=O
  dkc:=u.1
  fm:=u.2.2
  dkn:=λ_=>u.2.1
  mts:=t
  frm:=λ_=>⟨o.stk,o.fr⟩
  fns:=V }
 refine⟨_,(Ph e).2 _ _ v _ _ hc,J,Yu N.length ds,M,Y,I.begins,?_⟩;unfold Zz at y;rw[if_pos (I.len.trans T)]at y;revert y;cases b (Yu N.length ds) M with
 |nx B D=>exact λy Z' r z f i U=>y _ r z f i Td
 |rt d' D=>exact λy=>y
 |er c D=>exact λy r z f i C W=>sG o (y r z f i C W)
 |bad=>exact λy=>y
 |bk _ _=>exact λy=>False.elim y
 |ct _ _=>exact λy=>False.elim y
theorem pv{K:yP}{a:Str->yF}{st:jV}(F:WN K x x st e d)(m:a x=Z9 (.ref e))(l:WB K d ps [])
  (j:YD N ps (Zd st)=Z7) (r:cSts ar cl c ⟨N,(Zd st).names,Z9 x⟩ (X4 st)=Z9 b)
  (g:U1 ar a) (p:∀x∈Wc,∃C,a x=Z9 (.ref C)/\Xi K C)
  (i:VG P w K a base)
  (o:Pl w K a) (f:∀m q,VI.lookup m=Z9 q->RQ P w K a base m (3*k) (Xo K a (cl q) 2)/\∀ds S,cl q ds S≠.bad->ds.length=2)
  (h:∀y n,ar y=Z9 n->(∃ps,QY P w K a base y ps (3*k) (Xo K a (cl y) n))/\∀ds S,cl y ds S≠.bad->ds.length=n):QY P w K a base x ps (3*(k+1)) (Xo K a (Zz ps.length N.length b) ps.length) :=
 ⟨e,d,RG F j r g p i o f h,l,F.kp,m⟩
end
abbrev ZO:=Str->List D->M D
abbrev TC:=List (Str×(Nat×Nat×(ZO->CS)))
def RF(x:Str):Bool:=VI.any λp=>p.2 == x
def VF(tbl:TC)(x:Str):yK:=if RF x then Z8 else(tbl.lookup x).map (·.1)
def VE(x:Str)(a:List D->M D):List D->M D:=if x=("fewest":Str)∨x=("function_of":Str)then RO 0 a else a
theorem Ey(a:∀ds S,b ds S≠.bad->ds.length=n):∀ds S,VE x b ds S≠.bad->ds.length=n:=by
 unfold VE;split
 .exact qT a
 .exact a
theorem Ew{K:yP}:Xo K a (VE x b) n vs H Q E->Xo K a b n vs H Q E:=by
 unfold VE;split
 .exact qS
 .exact id
def Yt(tbl:TC):Nat->ZO
 |0,_=>λ_ _=>.bad
 |n+1,x=>match tbl.lookup x with
  |some p=>VE x (Zz p.1 p.2.1 (p.2.2 (Yt tbl n)))
  |none=>λ_ _=>.bad
structure SV(K:yP)(mg:Str->yF)(ar:Str->yK)(x:Str)(p:Nat×Nat×(ZO->CS)):Prop where
 ex:∃(st:jV) (fa:yQ) (fd:jT) (N ps:yH) (fuel:Nat),WN K x x st fa fd/\mg x=Z9 (.ref fa)/\WB K fd ps []/\YD N ps (Zd st)=Z7/\ps.length=p.1/\N.length=p.2.1 /\
  ∀cl:ZO,cSts ar cl fuel ⟨N,(Zd st).names,Z9 x⟩ (X4 st)=Z9 (p.2.2 cl)
theorem Eu{a:Type}{tbl:List (Str×a)}{p:a}(h:tbl.lookup x=Z9 p):(x,p)∈tbl:=by
 induction tbl with
 |nil=>cases h
 |cons y r b =>
  grind
structure Nl(K:yP)(ar:Str->yK)(m q:Str)(p:Nat×Nat×(ZO->CS)):Prop where
 ex:∃(st:jV) (fa:yQ) (fd:jT) (N ps:yH) (fuel:Nat) (C:yQ),WN K m q st fa fd/\Wt K C/\WQ K C/\Uz K C m fa/\WB K fd ps []/\YD N ps (Zd st)=Z7/\ps.length=p.1/\N.length=p.2.1/\m ≠ "kept"/\q ≠ "law" /\
  ∀cl:ZO,cSts ar cl fuel ⟨N,(Zd st).names,Z9 q⟩ (X4 st)=Z9 (p.2.2 cl)
theorem Et(h:Zz np nN b ds S≠.bad):ds.length=np:=by
 unfold Zz at h;split at h
 .assumption
 .exact absurd rfl h
theorem Es{K:yP}(Y:∀x p,RF x=Z5->tbl.lookup x=Z9 p->SV K b (VF tbl) x p)(I:∀m q,VI.lookup m=Z9 q->∃p,tbl.lookup q=Z9 p/\p.1=2/\Nl K (VF tbl) m q p)(B:U1 (VF tbl) b)(W:∀x∈Wc,∃C,b x=Z9 (.ref C)/\Xi K C)
  (O:VG P w K b base) (V:Pl w K b) :
  ∀(k:Nat),(∀(x:Str) (n:Nat),VF tbl x=Z9 n->(∃ps,QY P w K b base x ps (3*k) (Xo K b (Yt tbl k x) n))/\∀ds S,Yt tbl k x ds S≠.bad->ds.length=n) /\
   ∀m q,VI.lookup m=Z9 q->RQ P w K b base m (3*k) (Xo K b (Yt tbl k q) 2)/\∀ds S,Yt tbl k q ds S≠.bad->ds.length=2
 |0=>by
  have z:∀x n d H Q E,¬Xo K b (Yt tbl 0 x) n d H Q E:=λx n d H Q E h=>by obtain⟨_,J,ds,S,_,_,y⟩:=h;exact y
  refine⟨λx n h=>?_,λm q h=>?_⟩
  .unfold VF at h;split at h
   .cases h
   .rename_i o;obtain⟨p,j,rfl⟩:=qA1.mp h;obtain⟨X,t,i,N,ps,a,F,m,r,_⟩:=(Y x p (by simpa using o) j).ex;exact⟨⟨ps,t,i,⟨λd H Q E h=>(z _ _ _ _ _ _ h).elim,λA l s H v us d Q E _ _ _ _ h=>(z _ _ _ _ _ _ h).elim⟩,r,F.kp,m⟩,λds S e=>absurd rfl e⟩
  .obtain⟨p,j,_,M⟩:=I m q h;obtain⟨X,t,i,N,ps,a,C,F,L,c,o,r,_,_,_,D,_⟩:=M.ex;exact⟨⟨C,t,i,ps,L,c,o,⟨λd H Q E h=>(z _ _ _ _ _ _ h).elim,λA l s H v us d Q E _ _ _ _ h=>(z _ _ _ _ _ _ h).elim⟩,r,D⟩,λds S e=>absurd rfl e⟩
 |k+1=>by
  obtain⟨ih,u⟩:=Es (P:=P) (w:=w) (base:=base) Y I B W O V k;refine⟨λx n h=>?_,λm q h=>?_⟩
  .unfold VF at h;split at h
   .cases h
   .rename_i o;obtain⟨p,j,rfl⟩:=qA1.mp h;obtain⟨X,t,i,N,ps,a,F,m,r,R,G,T,Z⟩:=(Y x p (by simpa using o) j).ex;have q:=pv (P:=P) (w:=w) (base:=base) (k:=k) F m r R (Z (Yt tbl k)) B W O V u ih;have U:Yt tbl (k+1) x=VE x (Zz p.1 p.2.1 (p.2.2 (Yt tbl k))):=by show(match tbl.lookup x with|some p=>VE x (Zz p.1 p.2.1 (p.2.2 (Yt tbl k)))| none=>λ_ _=>.bad)=_;rw[j]
    rw[G,T]at q;rw[U];obtain⟨f,i,q1,q2,q3,q4⟩:=q.ex;exact⟨⟨ps,f,i,q1.imp λd H Q E h=>Ew h,q2,q3,q4⟩,Ey λds S e=>Et e⟩
  .obtain⟨p,j,h2,M⟩:=I m q h;obtain⟨X,t,i,N,ps,a,C,F,L,c,o,r,R,G,T,D,nl,Z⟩:=M.ex;have g:=RG (P:=P) (w:=w) (base:=base) (k:=k) F R (Z (Yt tbl k)) B W O V u ih;rw[G,T,h2]at g;have U:Yt tbl (k+1) q=VE q (Zz 2 p.2.1 (p.2.2 (Yt tbl k))):=by show(match tbl.lookup q with|some p=>VE q (Zz p.1 p.2.1 (p.2.2 (Yt tbl k)))| none=>λ_ _=>.bad)=_;rw[j];dsimp only;rw[h2]
   rw[U];exact⟨⟨C,t,i,ps,L,c,o,g.imp λd H Q E h=>Ew h,r,D⟩,Ey λds S e=>Et e⟩
def Nk(K:yP):Sp:=λd H Q _=>∃(a:yQ) (b:yA),d=[.ref a]/\Um K H a (b.map V.int)/\b.length<=63/\∀c,Q (.bl Z7) c
theorem pq{K:yP}(o:Ux H)(h:Ys K H a xs):Um K H a xs:=by
 rcases h with(h|⟨w,h⟩)| h
 .rcases o a with q|⟨w,b,q⟩
  .rw[h]at q;cases q
  .simp_all
 .exact .inl ⟨w,h⟩
 .exact .inr h
theorem pk{K:yP}{st:jV}
  (S:∀x p,RF x=Z5->tbl.lookup x=Z9 p->SV K c (VF tbl) x p) (B:∀m q,VI.lookup m=Z9 q->∃p,tbl.lookup q=Z9 p/\p.1=2/\Nl K (VF tbl) m q p) (t:Pl w K c)
  (j:U1 (VF tbl) c) (u:∀x∈Wc,∃C,c x=Z9 (.ref C)/\Xi K C) (W:c "law"=Z9 (.ref g)) (s:VG P w K c base)
  (A:tbl.lookup ("law":Str)=Z9 (1,nN,b)) (F:WN K "law" "law" st g l) (J:YD N ["_law_script"] (Zd st)=Z7) (T:N.length=nN) (U:∀cl:ZO,cSts (VF tbl) cl f ⟨N,(Zd st).names,Z9 "law"⟩ (X4 st)=Z9 (b cl))
  (d:∀ns:yA,ns.length<=63->∃i,Yt tbl (L+1) "law" [.rol (ns.map D.int)] []=.ok (.bl Z7) i) :
  YO P w K c base (Xj P w) (3*(L+1)) g l ["_law_script"] (Nk K):=by
 have y:=Es (P:=P) (w:=w) (base:=base) S B j u s t L;have q:=RG (P:=P) (w:=w) (base:=base) (k:=L) F J (U (Yt tbl L)) j u s t y.2 y.1;refine q.imp λV H Q E h=>?_;obtain⟨a,ns,rfl,I,M,G⟩:=h;obtain⟨i,e⟩:=d ns M;have O:Yt tbl (L+1) "law"=Zz 1 nN (b (Yt tbl L)):=by show(match tbl.lookup ("law":Str)with|some p=>VE "law" (Zz p.1 p.2.1 (p.2.2 (Yt tbl L)))| none=>λ_ _=>.bad)=_;rw[A];exact if_neg (by decide)
 rw[O]at e;refine⟨rfl,[],[.rol (ns.map D.int)],[],⟨rfl,by simp,λn a o R X=>(by simp at R)⟩,.cons (by unfold RV;exact⟨a,_,rfl,I,RVs.ints⟩) .nil,?_⟩;rw[T,show Zz (["_law_script"]:yH).length nN (b (Yt tbl L)) [.rol (ns.map D.int)] []=.ok (.bl Z7) i from e];refine λv z Y _ _ r=>?_;unfold RV at r;subst r;exact G z
theorem walk_ev{l:W.OpenLaw}{b:yH}{A:(Str->yF)->jB->Prop}{K:Params->yP}(r:l.most=Z9 63)(e:d.params.defaults=[])(t:Zr L lV)
  (y:∀(w:jC) (h:jB),g w h->(K w.params).In h)
  (F:∀(w:jC) (c:Str->yF) (j:yQ) (h:jB),(K w.params).In h->h.Ns y9 c->c d.name=Z9 (.ref j) ->
   ∃i:jT,(∀(s:yR) (u:yT),dM s i ⟨[u],[]⟩ [("_law_script",u)])/\∀base:jB,(K w.params).In base->base.Ns y9 c->YO l.prog w (K w.params) c base (Xj l.prog w) L j i ["_law_script"] (Nk (K w.params))) :
  W.WalkO q b A g l.row.toRowW d [] (λf vs=>PySem.call f vs) :=
 Lake.walk_of (n:=63) (k:=L) (x := "_law_script") (CX:=λw=>Xj l.prog w) (sp:=λw=>Nk (K w.params)) r (by decide) e t y F (λ_ _ a v m o p=>⟨a,v,rfl,pq o p,m,λ_=>rfl⟩) λ_ _ _ _ _ z=>by obtain⟨_,_,_,_,_,_,_,_,_,_,_,_,_,_,z⟩:=z;exact z
open PySem
theorem pj{K:yP}{e:Str->yF}{st:jV}{a np nN:Nat}(F:WN K x x st d c)(m:e x=Z9 (.ref d))(g:WB K c ps [])(f:YD N ps (Zd st)=Z7)
  (j:(λcl:ZO=>cSts ar cl a ⟨N,(Zd st).names,Z9 x⟩ (X4 st))=λcl=>Z9 (b cl)) (h:ps.length=np:=by rfl) (i:N.length=nN:=by rfl):SV K e ar x (np,nN,b) :=
 ⟨st,d,c,N,ps,a,F,m,g,f,h,i,λcl=>congrFun j cl⟩
def Nj(a:Str->yF):yH->Prop
 |[]=>True
 |x::r=>a x=Z8/\Nj a r
theorem Nj.mem{c:Str->yF}:∀{l:yH},Nj c l->∀x∈l,c x=Z8
 |[],_,x,h=>by cases h
 |e::r,⟨a,b⟩,x,h=>by
  rcases qA8.mp h with q|q
  .subst q;exact a
  .exact b.mem x q
def QM(b:Sc)(e:yV):Option C:=match e with
 |.Call (.Name x _) es [] _=>match Pk b (λ_=>Z8) x es with
  |some (a,g)=>match a with
   |.Name y _=>if b.N[0]?=Z9 y/\Pt (b.names.lookup y)=Z7/\XI y/\(y == ("__classdict__":Str))=Z5 then Z9 (Xw (Y8 g) (ZY 0))else Z8
   |_=>Z8
  |none=>Z8
 |_=>Z8
def QL(c:Sc)(e:yV):Option C:=match e with
 |.List b _=>if b.all Yg then(zA1? (QM c) b).bind λa=>if a.length<=1000 then Z9 (Zv (ZS a))else Z8 else Z8
 |_=>Z8
def Ni(a:Sc)(m:Str)(o:D->List D->M D)(e:yV):Option C:=match e with
 |.Call (.Attribute r k apos) [.Constant (.bool b) _ _] [] cpos=>match r with
  |.Name y _=>if k=m/\a.N[1]?=Z9 y/\a.names.lookup y=Z9 .local/\(apos.endLine == cpos.line)=Z7/\XI y/\(y == ("__classdict__":Str))=Z5 then Z9 (X9 "list" o (ZY 1) (ZS [ZX (.bl b)]))else Z8
  |_=>Z8
 |_=>Z8
def Pg(a:Sc)(s:jV):Option CS:=match s with
 |.Assign [.Name y _] e _=>if a.N[1]?=Z9 y/\a.names.lookup y=Z9 .local then(QL a e).map λc=>ZJ c (gN 1)else Z8
 |_=>Z8
def Pf(a:Sc)(s:jV):Option CS:=match s with
 |.Assign [.Name y _] (.BinOp (.Name z _) .Add e _) _=>if a.N[1]?=Z9 y/\z=y/\a.names.lookup y=Z9 .local/\XI y/\(y == ("__classdict__":Str))=Z5 then(QL a e).map λc=>ZJ (ZW ZQ (ZY 1) c) (gN 1)else Z8
 |_=>Z8
def Pe(a:Sc)(s:jV):Option CS:=match s with
 |.If (.UnaryOp .Not t _) [.Return (Z9 (.Constant (.str o) _ _)) _] [] _=>(QM a t).map λc=>Zj (XC (Y2 c)) (ZV (ZG (ZX (.str o))) ZL) ZL
 |_=>Z8
def Pd(e:Sc)(s:jV):Option CS:=match s with
 |.Return (Z9 (.IfExp (.Compare a [.Eq] [.Constant (.int i) _ _] _) b (.Constant (.str o) _ _) _)) _=>(Ni e "count" T6 a).bind λc=>(Ni e "index" Uc b).map λd=>ZG (Uk (Zn (ZW Ze c (ZX (.int i)))) d (ZX (.str o)))
 |_=>Z8
def UY(a:Sc)(b:List jV):Option CS:=match b with
 |[s1,s2,s3,s4]=>(Pg a s1).bind λe=>(Pf a s2).bind λf=>(Pe a s3).bind λc=>(Pd a s4).map λd=>ZV e (ZV f (ZV c (ZV d ZL)))
 |_=>Z8
structure VD(X:Cx)(sc:Sc):Prop where
 hu:X.A.units+64<vT
 N:X.N=sc.N
 nd:sc.N.Nodup
 loc:∀x,sc.names.lookup x=Z9 .local->X.env.scope.names.lookup x=Z9 .local
 vis:∀x,Pt (sc.names.lookup x)=Z7->Vw X.env.scope x
 gl:∀x,sc.names.lookup x=Z9 .globalImplicit->Gl X x
 xk:UK X.K=Z7
 xm:∀c∈X2,∃C,X.mg c=Z9 (.ref C)/\XU X.K c=Z9 C
 xv:X.mg "ValueError"=Z8
 xi:X.mg "isinstance"=Z8
section
variable {X:Cx}{sc:Sc}
theorem Pc(h:VD X sc):Yn X (QM sc):=λe c q=>by
 unfold QM at q;split at q
 .split at q
  .rename_i a g b;split at q
   .split at q
    .rename_i f;obtain⟨n,o,l,m⟩:=f;cases q;unfold Pk at b;split at b
     .split at b
      .rename_i f;obtain⟨rfl,j,r,i,p,k⟩:=f;cases b;refine Fg (NO (Rg (by rw[h.N];exact n) (h.vis _ o) l m)) (h.gl _ j) h.xi h.xk ?_ (Yp k);rcases p with rfl|d
       .exact .inl ⟨rfl,h.gl _ i,h.xv⟩
       .refine .inr ⟨d,h.gl _ i,h.xm _ d,?_⟩;simp only[X2,qA8,qB8,or_false]at d;rcases d with rfl|rfl|rfl|rfl|rfl|rfl|rfl<;>decide
      .cases b
     .cases b
    .cases q
   .cases q
  .cases q
 .cases q
theorem Pb(h:VD X sc):Yn X (QL sc):=λe c q=>by
 unfold QL at q;split at q
 .split at q
  .obtain⟨d,a,q⟩:=qA0.mp q;split at q
   .rename_i b;cases q;exact FY (VH (Pc h) a).1 b
   .cases q
  .cases q
 .cases q
theorem Pa(h:VD X sc){id:String}(a:Slot "list" m id)(b:dX (.builtin id)=pure (.type "method_descriptor"))(j:Wv X.K "list" (WZ X id) o):Yn X (Ni sc m o):=λe c q=>by
 unfold Ni at q;split at q
 .split at q
  .split at q
   .rename_i l;obtain⟨rfl,g,i,d,f,k⟩:=l;cases q;exact Ud vX a b j (NO (Rg (by rw[h.N];exact g) (.inl (h.loc _ i)) f k)) (UN (UO HL λ_ _ _=>Xh) Te (Yp rfl)) rfl rfl d (Yp rfl) rfl
   .cases q
  .cases q
 .cases q
theorem O9(h:VD X sc)(b:sc.N[1]?=Z9 y)(a:sc.names.lookup y=Z9 .local):PG X (.Name y p) (Xg X.K (gN 1)):=FD (Qm (by rw[h.N];exact h.nd) (by rw[h.N];exact b) (.inl (h.loc _ a)) (.inr (h.loc _ a)))
theorem ph(q:QL sc e=Z9 c):∃es p,e=.List es p:=by
 unfold QL at q;split at q
 .exact⟨_,_,rfl⟩
 .cases q
theorem pf(q:QM sc e=Z9 c):∃a b d p,e=.Call a b d p:=by
 unfold QM at q;split at q
 .exact⟨_,_,_,_,rfl⟩
 .cases q
theorem pe(h:VD X sc)(q:UY sc b=Z9 c):XH X b (Zo X c):=by
 unfold UY at q;split at q
 .rename_i v r y t;obtain⟨z,a,q⟩:=qA0.mp q;obtain⟨A,g,q⟩:=qA0.mp q;obtain⟨m,i,q⟩:=qA0.mp q;obtain⟨n,f,q⟩:=qA1.mp q;subst q;have u:PS X v (Zo X z):=by
   unfold Pg at a;split at a
   .split at a
    .rename_i l;obtain⟨c,e,a⟩:=qA1.mp a;subst a;obtain⟨B,p,rfl⟩:=ph e;exact NG (Pb h _ _ e) (O9 h l.1 l.2) rfl rfl rfl
    .cases a
   .cases a
  have s:PS X r (Zo X A):=by
   unfold Pf at g;split at g
   .split at g
    .rename_i l;obtain⟨k,rfl,j,o,w⟩:=l;obtain⟨c,e,g⟩:=qA1.mp g;subst g;exact NG (F6 FV (NO (Rg (by rw[h.N];exact k) (.inl (h.loc _ j)) o w)) (Pb h _ _ e)) (O9 h k j) rfl rfl rfl
    .cases g
   .cases g
  have p3:PS X y (Zo X m):=by
   unfold Pe at i;split at i
   .obtain⟨c,e,i⟩:=qA1.mp i;subst i;obtain⟨_,_,_,_,rfl⟩:=pf e;exact FE (F0 (FZ (Pc h _ _ e) λ_=>rfl)) (RY (Ky (UO L9 λ_ _ _=>Ww)) NH) NH
   .cases i
  have x:PS X t (Zo X n):=by
   unfold Pd at f;split at f
   .obtain⟨c,k,f⟩:=qA0.mp f;obtain⟨d,j,f⟩:=qA1.mp f;subst f;exact Ky (F1 (F4 (FU h.hu) (Pa h lL PySem.F.type_list_count (qY h.hu) _ _ k) (UO HM λ_ _ _=>XN) rfl) (Pa h lH PySem.F.type_list_index (sS h.hu) _ _ j) (UO L9 λ_ _ _=>Ww))
   .cases f
  exact RY u (RY s (RY p3 (RY x NH)))
 .cases q
end
theorem pd{K:yP}{f:Str->yF}{st:jV}{r G:yQ}(F:WN K "_law_flags" "_law_flags" st r X)(m:f "_law_flags"=Z9 (.ref r))(bi:WB K X [p] [])
  (hs:YD [p,y] [p] (Zd st)=Z7) (hb:UY ⟨[p,y],(Zd st).names,Z8⟩ (X4 st)=Z9 SY) (xk:UK K=Z7) (xm:∀c∈X2,∃C,f c=Z9 (.ref C)/\XU K c=Z9 C) (xv:f "ValueError"=Z8) (xi:f "isinstance"=Z8)
  (hm:f "NetError"=Z9 (.ref G)) (k:∀c∈X2,∀D,XU K c=Z9 D->f c=Z9 (.ref D)/\W.exmOne K (.ref D) (.ref G)=Z9 Z7):Pv P w K f base:=by
 refine⟨r,G,m,F.kp,hm,k,λA a s H e oe c C J S S' d Q O E he N hC t T V=>?_⟩;obtain⟨oc,od,kV,doc,pm,an,l,ct,osl,rfl,lk,U⟩:=F.ex;have B:=JB hs;have R:=E.mod.kin.keeps λb o e=>(E.bs b o e).1;have lim:=E.mod.nolimit.keeps λb o e=>(E.bs b o e).1;have n:∀z∈[(p,Value.ref e)],(Zd st).names.lookup z.1=Z9 .local∨((Zd st).names.lookup z.1=Z9 .cell/\((vH (s.heap.objs.size+1) (Zd st).names []).lookup z.1).isSome=Z7):=λz Y=>by
  simp only[qA8,qB8,or_false]at Y;subst Y;rcases B.par p (by simp)with q|q
  .exact .inl q
  .exact .inr ⟨q,lD _ _ _ (.inl q)⟩
 refine mJ (by have:=O.dp;show A.depth<_;omega) (R _ _ lk) rfl B.co B.gen rfl (W.codeRec_of R U) (bi s [.ref e] R rfl _ _ _ _ (gJ B.kind n λenv L s1 z=>?_));subst L;refine⟨lim.keeps z.toInCall.keep,codeAny_func ?_⟩;have I:ZP (XE US P w K f base [p,y] "_law_flags" (Zd st) r l A a s H E0) [] (start [p,y] [.ref e]) H s1:=Hf B O.hd E rfl (.cons rfl .nil) z;have ok:VD ((XE US P w K f base [p,y] "_law_flags" (Zd st) r l A a s H E0).marked e) ⟨[p,y],(Zd st).names,Z8⟩:=⟨by have:=O.un;show A.units+3+64<_;omega,rfl,B.nd,λx k=>k,λx k=>(E8 k).elim .inl λq=>.inr (q.elim .inl .inr),λx k=>k,xk,xm,xv,xi⟩
 have w:Zo ((XE US P w K f base [p,y] "_law_flags" (Zd st) r l A a s H E0).marked e) SY { nx:=λ_ j=>Q .non j,rt:=Q } (start [p,y] [.ref e]) H:=by
  have M:c∈X2:=by
   unfold U3 at t;split at t
   .assumption
   .cases t
  unfold U3 at t;rw[if_pos M]at t;refine⟨J,[Z9 (.xc c),Z8],S,T,⟨rfl,λi d' e'=>?_⟩,?_⟩
  .match i,e' with
   |0,e'=>simp at e';subst e';exact⟨.ref e,rfl,e,oe,C,rfl,he,N,Fj hC⟩
   |1,e'=>simp at e'
   |i+2,e'=>simp at e'
  .revert t;cases SY [Z9 (.xc c),Z8] S with
   |rt d' S2=>intro h;cases h;exact V
   |nx B' S2=>intro h;cases h;exact fun Z j J' T st re=>V _ j J' T st Td
   |bad=>intro h;cases h
   |er _ _=>intro h;cases h
   |bk _ _=>intro h;cases h
   |ct _ _=>intro h;cases h
 refine jH (pe ok hb [] s1 _ H _ (I.marked e) w) (λfl s' q=>?_) λ_ _ z=>False.elim z;cases fl with
 |ret u =>
  obtain⟨v,Z,j,g,rv,q⟩:=q;exact⟨v,j,g.os,g.bare,g.base,g.hok,rv,q⟩
 |next =>
  obtain⟨Z,j,g,q⟩:=q;exact⟨.non,j,g.os,g.bare,g.base,g.hok,rfl,q⟩
 |brk =>
  obtain⟨_,_,_,q⟩:=q;exact False.elim q
 |cont =>
  obtain⟨_,_,_,q⟩:=q;exact False.elim q
def Nh:yB->yH->Bool
 |[],[]=>Z7
 |.str x _::r,y::t=>decide (x=y)&&Nh r t
 |_,_=>Z5
def JA(K:yP)(p:yQ)(b:yH):Bool:=match K.lookup p with
 |some ⟨.type c,_,.seq a _,_⟩=>c == "tuple"&&decide (a.size<=yW)&&Nh a.toList b
 |_=>Z5
def Ng(K:yP):List wH->List (Str×yH)->Bool
 |[],[]=>Z7
 |⟨_,.str x _,.ref p⟩::b,q::a=>decide (x=q.1)&&JA K p q.2&&Ng K b a
 |_,_=>Z5
def Jz(K:yP)(a:yQ):Bool:=match K.lookup a with
 |some ⟨.type c,Z8,.dict b _,sl⟩=>c == "dict"&&sl.isEmpty&&(a != vA)&&Ng K b.toList Xz
 |_=>Z5
def RD(K:yP)(a:yQ):yA:=match K.lookup a with
 |some ⟨_,_,.dict b _,_⟩=>b.toList.map (·.hash)
 |_=>[]
theorem Er:∀{us:yB}{a:yH},Nh us a=Z7->ZK (a.map V.str) us
 |[],[],_=>.nil
 |[],_::_,h=>by cases h
 |.str x t::r,y::a,h=>by unfold Nh at h;rw[qB3,decide_eq_true_eq]at h;obtain⟨rfl,b⟩:=h;exact .cons ⟨t,rfl⟩ (Er b)
 |u::r,[],h=>by cases u<;>cases h
theorem pb{K:yP}(h:JA K p ts=Z7):TX K p ts:=by
 unfold JA at h;split at h
 .rename_i c d a n g e;simp only[qB3,beq_iff_eq,decide_eq_true_eq]at h;obtain⟨⟨rfl,f⟩,b⟩:=h;exact⟨_,a,n,e,rfl,rfl,f,Er b⟩
 .cases h
def kvO:List wH->List (Str×yH)->List (ZA×yT)
 |e::b,q::a=>(.inr q.1,e.val)::kvO b a
 |_,_=>[]
theorem Ep{K:yP}{P:yY}{w:jC}:∀{es:List wH}{c:List (Str×yH)},Ng K es c=Z7->es.map (·.hash)=c.map (λp=>uE w p.1) ->
  Pairs (Yy P w) es (kvO es c)/\(kvO es c).map (·.1)=c.map (λq=>(.inr q.1:ZA))/\(∀e∈es,∃k,(Yy P w).is k e.key=Z7/\e.hash=(Yy P w).hash k) /\
  ∀z,match c.lookup z with
   |some n=>∃p,wZ (kvO es c) (.inr z)=Z9 (.ref p)/\TX K p n
   |none=>wZ (kvO es c) (.inr z)=Z8
 |[],[],_,_=>⟨.nil,rfl,λe f=>(by cases f),λz=>rfl⟩
 |[],_::_,h,_=>by cases h
 |⟨g,.str x t,.ref p⟩::es,q::c,h,hh=>by
  unfold Ng at h;simp only[qB3,decide_eq_true_eq]at h;obtain⟨⟨rfl,m⟩,o⟩:=h;rw[qB2,qB2]at hh;have i:g=uE w q.1:=(qH4.inj hh).1;obtain⟨j,s,l,r⟩:=Ep (K:=K) (P:=P) o (qH4.inj hh).2;refine⟨.cons (Mc P w q.1 t) rfl j,?_,λe f=>?_,λz=>?_⟩
  .show _::_=_::_;rw[s]
  .rcases qA8.mp f with rfl|f
   .exact⟨.inr q.1,Mc P w q.1 t,i⟩
   .exact l e f
  .rw[show(q::c).lookup z=if z == q.1 then Z9 q.2 else c.lookup z from by
    obtain⟨a,b⟩:=q;rw[qD4];cases z == a<;>rfl]
   have v:wZ (kvO (⟨g,.str q.1 t,.ref p⟩::es) (q::c)) (.inr z)=if z=q.1 then Z9 (.ref p)else wZ (kvO es c) (.inr z):=by
    show Option.map _ (List.find? _ ((.inr q.1,.ref p)::kvO es c))=_;rw[List.find?_cons];by_cases d:z=q.1
    .subst d;simp
    .have:((.inr q.1:ZA)=.inr z)=False:=eq_false λy=>d (Sum.inr.inj y).symm;simp only[this,decide_false,if_neg d];rfl
   rw[v];by_cases d:z=q.1
   .subst d;rw[if_pos rfl,if_pos (by simp)];exact⟨p,rfl,pb m⟩
   .rw[if_neg d,if_neg (by simpa using d)];exact r z
 |⟨_,k,v⟩::es,[],h,_=>by cases k<;>cases v<;>cases h
theorem pa(k:yY){w:jC}{K:yP}{h:jB}{mg:Str->yF}(X:K.In h)(G:h.Ns y9 mg){a:yQ}(n:wD K y9 "FORMS"=Z9 (Z9 (.ref a)))(b:Jz K a=Z7)(d:RD K a=Xz.map λp=>uE w p.1):U2 w K mg:=by
 have m:=dQ X G n;unfold Jz at b;unfold RD at d;split at b
 .rename_i c i o t e;rw[e]at d;simp only[qB3,beq_iff_eq,bne_iff_ne]at b;obtain⟨⟨⟨rfl,s⟩,u⟩,r⟩:=b;have f:t=#[]:=by simpa using s
  have g:=λP=>Ep (K:=K) (P:=P) r d;obtain⟨_,y,_,x⟩:=g k;refine⟨a,_,kvO i.toList Xz,m,by simpa using u,e,rfl,rfl,λP z j=>?_,x⟩;obtain⟨l,_,q,_⟩:=g P;exact⟨_,i,o,j,⟨rfl,rfl,f⟩,rfl,λe v=>q e (Array.mem_toList_iff.mpr v),l,by rw[y];decide⟩
 .cases b
def VC(K:yP)(a:Str->yF)(ar:Str->yK):TC->Prop
 |[]=>True
 |e::r=>(RF e.1=Z7∨SV K a ar e.1 e.2)/\VC K a ar r
theorem VC.mem{K:yP}{c:Str->yF}{ar:Str->yK}:∀{t:TC},VC K c ar t->∀x p,RF x=Z5->(x,p)∈t->SV K c ar x p
 |[],_,x,p,_,h=>by cases h
 |e::r,⟨a,b⟩,x,p,n,h=>by
  rcases qA8.mp h with q|q
  .subst q;rcases a with a|a
   .rw[show RF x=Z7 from a]at n;cases n
   .exact a
  .exact b.mem x p n q
theorem VC.look{K:yP}(h:VC K a ar t)(x:Str)(p:Nat×Nat×(ZO->CS))(n:RF x=Z5)(e:t.lookup x=Z9 p):SV K a ar x p:=h.mem x p n (Eu e)
inductive Tg{γ:Type}(f:γ):Type where
 |mk
def Zw{b β:Type}(r:R b)(f:b->ZU->R β)(_:Tg f):R β:=match r with
 |.bad=>.bad
 |.er c S=>.er c S
 |.ok a S=>f a S
@[simp]theorem Xy(a:b)(S:ZU)(f:b->ZU->R c):Zw (.ok a S) f .mk=f a S:=rfl
@[simp]theorem eO(f:b->ZU->R a):Zw .bad f .mk=.bad:=rfl
@[simp]theorem Xs(m:M a)(f:a->M b)(S:ZU):Zi m f S=Zw (m S) f .mk:=rfl
@[simp]theorem Eo(a:b)(S:ZU):ret a S=.ok a S:=rfl
@[simp]theorem eN(S:ZU):(bad:M a) S=.bad:=rfl
def rs{b:Type}(r:R b)(f:b->ZU->RS)(_:Tg f):RS:=match r with
 |.bad=>.bad
 |.er _ _=>.bad
 |.ok a S=>f a S
@[simp]theorem o9(a:b)(S:ZU)(f:b->ZU->RS):rs (.ok a S) f .mk=f a S:=rfl
@[simp]theorem eM(f:a->ZU->RS):rs .bad f .mk=.bad:=rfl
def sb(r:RS)(f:CS)(_:Tg f):RS:=match r with
 |.nx B S=>f B S
 |r=>r
@[simp]theorem o8(B:ZR)(S:ZU)(f:CS):sb (.nx B S) f .mk=f B S:=rfl
@[simp]theorem eJ(d:D)(S:ZU)(f:CS):sb (.rt d S) f .mk=.rt d S:=rfl
@[simp]theorem eI(B:ZR)(S:ZU)(f:CS):sb (.bk B S) f .mk=.bk B S:=rfl
@[simp]theorem eH(B:ZR)(S:ZU)(f:CS):sb (.ct B S) f .mk=.ct B S:=rfl
@[simp]theorem En(a b:CS)(B:ZR)(S:ZU):ZV a b B S=sb (a B S) b .mk:=rfl
@[simp]theorem eG(c:Str)(S:ZU)(f:CS):sb (.er c S) f .mk=.er c S:=rfl
def VB{b:Type}(r:R b)(f:b->ZU->RS)(_:Tg f):RS:=match r with
 |.bad=>.bad
 |.er k S=>.er k S
 |.ok a S=>f a S
@[simp]theorem eF(a:b)(S:ZU)(f:b->ZU->RS):VB (.ok a S) f .mk=f a S:=rfl
@[simp]theorem eE(k:Str)(S:ZU)(f:a->ZU->RS):VB (.er k S) f .mk=.er k S:=rfl
def O8{b β:Type}(r:R b)(f:b->ZU->R β)(_:Tg f):R β:=match r with
 |.ok a S=>f a S
 |_=>.bad
@[simp]theorem eD(a:b)(S:ZU)(f:b->ZU->R c):O8 (.ok a S) f .mk=f a S:=rfl
@[simp]theorem eC(b:List D->M D)(a:CA)(B:ZR)(S:ZU):YF b a B S=O8 (a B S) b .mk:=by unfold YF O8;cases a B S<;>rfl
@[simp]theorem eB(t:CT)(a b:C)(B:ZR)(S:ZU):UZ t a b B S=O8 (t B S) (λk S1=>if k then a B S1 else b B S1) .mk:=by unfold UZ O8;cases t B S<;>rfl
@[simp]theorem eA(c:C)(B:ZR)(S:ZU):V3 c B S=VB (c B S) (λd a=>.rt d a) .mk:=by unfold V3 VB;cases c B S<;>rfl
@[simp]theorem ez(c:C)(B:ZR)(S:ZU):RX c B S=VB (c B S) (λ_ a=>.nx B a) .mk:=by unfold RX VB;cases c B S<;>rfl
@[simp]theorem ew(c:C)(g:G)(B:ZR)(S:ZU):TH c g B S=VB (c B S) (λd S1=>rs (g d B S1) (fun B' S2=>.nx B' S2) .mk) .mk:=by
 unfold TH VB rs;cases c B S with
 |ok d S1=>dsimp only;cases g d B S1<;>rfl
 |_=>rfl
@[simp]theorem et(c:Str)(B:ZR)(S:ZU):WM c B S=.er c S:=rfl
@[simp]theorem ek(B:ZR)(S:ZU):ZL B S=.nx B S:=rfl
@[simp]theorem ej(B:ZR)(S:ZU):R0 B S=.bk B S:=rfl
@[simp]theorem eh(B:ZR)(S:ZU):RZ B S=.ct B S:=rfl
@[simp]theorem ef(B:ZR)(S:ZU):Kz B S=.rt .non S:=rfl
@[simp]theorem o7(c:C)(B:ZR)(S:ZU):ZG c B S=rs (c B S) (λd a=>.rt d a) .mk:=by unfold ZG rs;cases c B S<;>rfl
@[simp]theorem ee(c:C)(B:ZR)(S:ZU):Wf c B S=rs (c B S) (λ_ a=>.nx B a) .mk:=by unfold Wf rs;cases c B S<;>rfl
@[simp]theorem dV(c:C)(g:G)(B:ZR)(S:ZU):ZJ c g B S=rs (c B S) (λd S1=>rs (g d B S1) (fun B' S2=>.nx B' S2) .mk) .mk:=by
 unfold ZJ rs;cases c B S with
 |ok d S1=>dsimp only;cases g d B S1<;>rfl
 |_=>rfl
@[simp]theorem dz(t:CT)(a b:CS)(B:ZR)(S:ZU):Zj t a b B S=rs (t B S) (λk c=>if k then a B c else b B c) .mk:=by unfold Zj rs;cases t B S<;>rfl
@[simp]theorem o6(c:CI)(g:G)(b:CS)(B:ZR)(S:ZU):Za c g b B S=rs (c B S) (λp S1=>Yr p.2 g b p.1 B S1) .mk:=by
 unfold Za rs;cases c B S with
 |ok p S1=>obtain⟨a,b⟩:=p;rfl
 |_=>rfl
@[simp]theorem dy(i:Nat)(d:D)(B:ZR)(S:ZU):gN i d B S=.ok (B.set i (Z9 d)) S:=rfl
def mo{a:Type}(o:Option a)(b:a->ZU)(B:ZR):R ZR:=match o with
 |some x=>.ok B (b x)
 |none=>.bad
@[simp]theorem dw(b a:C)(d:D)(B:ZR)(S:ZU):gS b a d B S=Zw (b B S) (λo S1=>Zw (a B S1) (λi S2=>mo (XM o i d S2) (λx=>x) B) .mk) .mk:=by
 unfold gS;rw[Xs];cases b B S with
 |bad=>rfl
 |er _ _=>rfl
 |ok o S1 =>
  rw[Xy,Xy,Xs];cases a B S1 with
  |bad=>rfl
  |er _ _=>rfl
  |ok i S2 =>
   rw[Xy,Xy];cases h:XM o i d S2<;>rfl
@[simp]theorem dv(x:a)(f:a->ZU)(B:ZR):mo (Z9 x) f B=.ok B (f x):=rfl
@[simp]theorem du(a:List G)(xs:List D)(B:ZR)(S:ZU):gT a (.tup xs) B S=SZ a xs B S:=rfl
@[simp]theorem dq(B:ZR)(S:ZU):SZ [] [] B S=.ok B S:=rfl
@[simp]theorem dm(g:G)(a:List G)(x:D)(xs:List D)(B:ZR)(S:ZU):SZ (g::a) (x::xs) B S=Zw (g x B S) (fun b S1=>SZ a xs b S1) .mk:=rfl
@[simp]theorem o5(i:Nat)(B:ZR)(S:ZU):ZY i B S=match B[i]? with|some (Z9 d)=>.ok d S|_=>.bad:=rfl
@[simp]theorem oZ(d:D)(B:ZR)(S:ZU):ZX d B S=.ok d S:=rfl
@[simp]theorem oY(o:D->D->M D)(a b:C)(B:ZR)(S:ZU):ZW o a b B S=Zw (a B S) (λx S1=>Zw (b B S1) (λy S2=>o x y S2) .mk) .mk:=rfl
@[simp]theorem dj(o:D->M D)(a:C)(B:ZR)(S:ZU):Xw o a B S=Zw (a B S) o .mk:=rfl
@[simp]theorem oX(B:ZR)(S:ZU):ZS [] B S=.ok [] S:=rfl
@[simp]theorem oW(c:C)(a:List C)(B:ZR)(S:ZU):ZS (c::a) B S=Zw (c B S) (λx S1=>Zw (ZS a B S1) (λxs S2=>.ok (x::xs) S2) .mk) .mk:=rfl
@[simp]theorem oV(o:List D->M D)(a:CA)(B:ZR)(S:ZU):ZT o a B S=Zw (a B S) o .mk:=rfl
@[simp]theorem dh(a:CA)(B:ZR)(S:ZU):Zg a B S=Zw (a B S) (λxs S1=>.ok (.tup xs) S1) .mk:=rfl
@[simp]theorem oU(a:CA)(B:ZR)(S:ZU):Zv a B S=Zw (a B S) (λxs S1=>.ok (.lst S1.length) (S1++[.lst xs])) .mk:=rfl
@[simp]theorem dg(t:CT)(a b:C)(B:ZR)(S:ZU):Uk t a b B S=Zw (t B S) (λk S1=>if k then a B S1 else b B S1) .mk:=by
 unfold Uk;rw[Xs];cases t B S with
 |ok k S1=>cases k<;>rfl
 |bad=>rfl
 |er _ _=>rfl
@[simp]theorem df(a:C)(B:ZR)(S:ZU):Zn a B S=Zw (a B S) (λx S1=>dB x S1) .mk:=rfl
@[simp]theorem de(b:Bool)(S:ZU):dB (.bl b) S=.ok b S:=rfl
@[simp]theorem da(a b:C)(B:ZR)(S:ZU):R7 a b B S=Zw (Zn a B S) (λk S1=>if k then b B S1 else .ok (.bl Z5) S1) .mk:=by
 unfold R7;rw[Xs];cases Zn a B S with
 |ok k S1=>cases k<;>rfl
 |bad=>rfl
 |er _ _=>rfl
@[simp]theorem cY(a b:C)(B:ZR)(S:ZU):Uj a b B S=Zw (Zn a B S) (λk S1=>if k then .ok (.bl Z7) S1 else b B S1) .mk:=by
 unfold Uj;rw[Xs];cases Zn a B S with
 |ok k S1=>cases k<;>rfl
 |bad=>rfl
 |er _ _=>rfl
@[simp]theorem cW(a:C)(B:ZR)(S:ZU):NP a B S=Zw (Zn a B S) (λk S1=>.ok (.bl (!k)) S1) .mk:=rfl
@[simp]theorem cV(a b:CT)(B:ZR)(S:ZU):Tf a b B S=Zw (a B S) (λk S1=>if k then b B S1 else .ok Z5 S1) .mk:=by
 unfold Tf;rw[Xs];cases a B S with
 |ok k S1=>cases k<;>rfl
 |bad=>rfl
 |er _ _=>rfl
@[simp]theorem cU(a b:CT)(B:ZR)(S:ZU):Yb a b B S=Zw (a B S) (λk S1=>if k then .ok Z7 S1 else b B S1) .mk:=by
 unfold Yb;rw[Xs];cases a B S with
 |ok k S1=>cases k<;>rfl
 |bad=>rfl
 |er _ _=>rfl
@[simp]theorem cS(a:CT)(B:ZR)(S:ZU):XC a B S=Zw (a B S) (λk S1=>.ok (!k) S1) .mk:=rfl
@[simp]theorem cO(o o':D->D->M D)(a b c:C)(B:ZR)(S:ZU):Vd o o' a b c B S=Zw (a B S) (λx S1=>Zw (b B S1) (λy S2=>Zw (o x y S2) (λz S3=>Zw (dB z S3) (λk d=>if k then Zw (c B d) (λw S5=>o' y w S5) .mk else .ok (.bl Z5) d) .mk) .mk) .mk) .mk:=by
 unfold Vd;rw[Xs];cases a B S with
 |bad=>rfl
 |er _ _=>rfl
 |ok x S1 =>
  rw[Xy,Xy,Xs];cases b B S1 with
  |bad=>rfl
  |er _ _=>rfl
  |ok y S2 =>
   rw[Xy,Xy,Xs];cases o x y S2 with
   |bad=>rfl
   |er _ _=>rfl
   |ok z S3 =>
    rw[Xy,Xy,Xs];cases dB z S3 with
    |bad=>rfl
    |er _ _=>rfl
    |ok k d=>cases k<;>rfl
@[simp]theorem cN(a:C)(B:ZR)(S:ZU):Y2 a B S=Zw (a B S) (λx S1=>Wj x S1) .mk:=rfl
@[simp]theorem cM(b:Bool)(S:ZU):Wj (.bl b) S=.ok b S:=rfl
@[simp]theorem cL(i:Int)(S:ZU):Wj (.int i) S=.ok (i != 0) S:=rfl
@[simp]theorem cK(xs:List D)(S:ZU):Wj (.tup xs) S=.ok (!xs.isEmpty) S:=rfl
@[simp]theorem cJ(B:ZR)(S:ZU):XF B S=.ok Z8 S:=rfl
@[simp]theorem cI(a:C)(B:ZR)(S:ZU):X3 a B S=Zw (a B S) (λx S1=>Zw (R6 x S1) (λi S2=>.ok (Z9 i) S2) .mk) .mk:=rfl
@[simp]theorem cH(i:Int)(S:ZU):R6 (.int i) S=.ok i S:=rfl
@[simp]theorem cF(o:D->yG->yG->M D)(a:C)(lo hi:CO)(B:ZR)(S:ZU):XY o a lo hi B S=Zw (a B S) (λx S1=>Zw (lo B S1) (λl S2=>Zw (hi B S2) (λh S3=>o x l h S3) .mk) .mk) .mk:=rfl
@[simp]theorem cD(T:String)(o:D->List D->M D)(a:C)(b:CA)(B:ZR)(S:ZU):X9 T o a b B S=Zw (a B S) (λx S1=>if YX T x S1 then Zw (b B S1) (λxs S2=>o x xs S2) .mk else .bad) .mk:=rfl
@[simp]theorem cC(T:String)(o:D->List D->M D)(a:C)(B:ZR)(S:ZU):UL T o a B S=Zw (a B S) (λx S1=>if YX T x S1 then o x [] S1 else .bad) .mk:=rfl
@[simp]theorem oR(c:C)(B:ZR)(S:ZU):Zs c B S=Zw (c B S) (λx S1=>match x with
 |.tup xs=>.ok (xs,[]) S1
 |.lst n=>match ZC S1 n with
  |some xs=>.ok (xs,[(n,xs)]) S1
  |none=>.bad
 |.dct n=>match S1[n]? with
  |some (.dk kvs)=>.ok (kvs.map λp=>kD p.1,[]) (S1.set n (.fk kvs))
  |some (.fk kvs)=>.ok (kvs.map λp=>kD p.1,[]) S1
  |_=>.bad
 | _=>.bad) .mk:=rfl
@[simp]theorem cB(a:CA)(B:ZR)(S:ZU):WV a B S=Zw (a B S) (λxs S1=>match xs with
 |[.int j]=>if -4611686018427387904<=j/\j<4611686018427387904 then .ok (Y7 0 j.toNat,[]) S1 else .bad
 | _=>.bad) .mk:=rfl
@[simp]theorem cA(a:CA)(B:ZR)(S:ZU):Kw a B S=Zw (a B S) (λxs S1=>match xs with
 |[.int i,.int j]=>if -4611686018427387904<=i/\i<4611686018427387904/\-4611686018427387904<=j/\j<4611686018427387904 then .ok (Y7 i (j - i).toNat,[]) S1 else .bad
 | _=>.bad) .mk:=rfl
@[simp]theorem cz(a:CA)(B:ZR)(S:ZU):QW a B S=Zw (a B S) (λxs S1=>match xs with
 |[x,y]=>match WU S1 x,WU S1 y with
  |some ys,Z9 b=>.ok (zipD ys b,T8 x ys++T8 y b) S1
  |_,_=>.bad
 | _=>.bad) .mk:=rfl
@[simp]theorem cy(n:Nat)(xs:List D):T8 (.lst n) xs=[(n,xs)]:=rfl
@[simp]theorem cx(ys:List D)(xs:List D):T8 (.tup ys) xs=[]:=rfl
@[simp]theorem cw(S:ZU)(n:Nat):WU S (.lst n)=ZC S n:=rfl
@[simp]theorem cv(S:ZU)(xs:List D):WU S (.tup xs)=Z9 xs:=rfl
@[simp]theorem cu(a:CA)(B:ZR)(S:ZU):NF a B S=Zw (a B S) (λxs S1=>match xs with
 |[.tup ys]=>.ok (Vs ys,[]) S1
 |[.lst n]=>match ZC S1 n with
  |some ys=>.ok (Vs ys,[(n,ys)]) S1
  |none=>.bad
 | _=>.bad) .mk:=rfl
@[simp]theorem Em(b:CI)(k:Nat)(js:List Nat)(t:XA)(tc:CT)(c:C)(B:ZR)(S:ZU):XW b k js t tc c B S=Zw (b B S) (λp S1=>if p.1.length<lim then Zw (Yz p.2 t tc c (W5 k js B) p.1 S1) (λys a=>.ok (.lst a.length) (a++[.lst ys])) .mk else .bad) .mk:=rfl
@[simp]theorem cq(B:ZR)(S:ZU):RJ B S=.ok (.dct S.length) (S++[.dk []]):=rfl
@[simp]theorem cp(a b:C)(B:ZR)(S:ZU):Ny a b B S=Zw (a B S) (λx S1=>Zw (b B S1) (λy S2=>match VN x with
 |some k=>.ok (.dct S2.length) (S2++[.dk [(k,y)]])
 | none=>.bad) .mk) .mk:=rfl
@[simp]theorem cn(i j:Int)(S:ZU):ZQ (.int i) (.int j) S=.ok (.int (i+j)) S:=rfl
@[simp]theorem oQ(xs ys:List D)(S:ZU):ZQ (.tup xs) (.tup ys) S=if xs.length+ys.length<=lim then .ok (.tup (xs++ys)) S else .bad:=rfl
@[simp]theorem cm(g:Int->Int->Int)(i j:Int)(S:ZU):YZ g (.int i) (.int j) S=.ok (.int (g i j)) S:=rfl
@[simp]theorem ck(i j:Int)(S:ZU):Vb (.int i) (.int j) S=if Tc i j then .ok (.int (i*j)) S else .bad:=rfl
@[simp]theorem cj(i j:Int)(S:ZU):WY (.int i) (.int j) S=if 0<j then .ok (.int (i % j)) S else .bad:=rfl
@[simp]theorem cg(i j:Int)(S:ZU):Wi (.int i) (.int j) S=if 0<j/\j<1073741824 then .ok (.int (i / j)) S else .bad:=rfl
@[simp]theorem cf(i j:Int)(S:ZU):Va (.int i) (.int j) S=if 0<=j/\j<=1000000/\i.natAbs<18446744073709551616 then .ok (.int (i ^ j.toNat)) S else .bad:=rfl
@[simp]theorem b9(i j:Int)(S:ZU):Ui (.int i) (.int j) S=if 0<=j/\j<=1000000/\i.natAbs<18446744073709551616 then .ok (.int (i*2 ^ j.toNat)) S else .bad:=rfl
@[simp]theorem bZ(i j:Int)(S:ZU):Uh (.int i) (.int j) S=if 0<=j then .ok (.int (i / 2 ^ j.toNat)) S else .bad:=rfl
@[simp]theorem bY(i:Int)(S:ZU):U9 (.int i) S=.ok (.int (-i)) S:=rfl
@[simp]theorem bX(g:Int->Int->Bool)(i j:Int)(S:ZU):Y1 g (.int i) (.int j) S=.ok (.bl (g i j)) S:=rfl
@[simp]theorem bW(i j:Int)(S:ZU):U8 (.int i) (.int j) S=.ok (.bl (decide (i<j))) S:=rfl
theorem El(i j:Int):PyData.eqv (.int i) (.int j)=decide (i=j):=rfl
@[simp]theorem bV(i j:Int)(S:ZU):Ze (.int i) (.int j) S=.ok (.bl (decide (i=j))) S:=by show R.ok (D.bl (PyData.eqv (.int i) (.int j))) S=_;rw[El]
@[simp]theorem bU(i j:Int)(S:ZU):Yh (.int i) (.int j) S=.ok (.bl (!decide (i=j))) S:=by show R.ok (D.bl (!PyData.eqv (.int i) (.int j))) S=_;rw[El]
@[simp]theorem bT(i j:Bool)(S:ZU):Ze (.bl i) (.bl j) S=.ok (.bl (i == j)) S:=by show R.ok (D.bl (PyData.eqv (.bool i) (.bool j))) S=_;cases i<;>cases j<;>rfl
@[simp]theorem bS(i j:Bool)(S:ZU):Yh (.bl i) (.bl j) S=.ok (.bl (i != j)) S:=rfl
@[simp]theorem bR(x:D)(S:ZU):QZ x .non S=.ok (.bl x.isNon) S:=by cases x<;>rfl
@[simp]theorem bQ(x:D)(S:ZU):PJ x .non S=.ok (.bl (!x.isNon)) S:=by cases x<;>rfl
@[simp]theorem bP(a b:Bool)(S:ZU):QZ (.bl a) (.bl b) S=.ok (.bl (a == b)) S:=rfl
@[simp]theorem bO(a b:Bool)(S:ZU):PJ (.bl a) (.bl b) S=.ok (.bl (a != b)) S:=rfl
@[simp]theorem bN(i j:Int)(S:ZU):Ug [.int i,.int j] S=.ok (.int (if j<i then j else i)) S:=rfl
@[simp]theorem bM(i j:Int)(S:ZU):U7 [.int i,.int j] S=.ok (.int (if j>i then j else i)) S:=rfl
@[simp]theorem bL(i:Int)(S:ZU):VM [.int i] S=.ok (.int i) S:=rfl
@[simp]theorem bK(b:Bool)(S:ZU):VM [.bl b] S=.ok (.int (if b then 1 else 0)) S:=rfl
@[simp]theorem bJ(xs:List D)(S:ZU):V4 [.tup xs] S=.ok (.tup xs) S:=rfl
theorem O7(h:ZC S n=Z9 xs):V4 [.lst n] S=.ok (.tup xs) S:=by show(match ZC S n with|some a=>R.ok (D.tup a) S|none=>.bad)=_;rw[h]
@[simp]theorem bI(xs:List D)(S:ZU):Zt [.tup xs] S=.ok (.int xs.length) S:=rfl
@[simp]theorem bH(xs:List D)(S:ZU):Zt [.rol xs] S=.ok (.int xs.length) S:=rfl
theorem RC(h:ZC S n=Z9 xs):Zt [.lst n] S=.ok (.int xs.length) S:=by show(match ZC S n with|some a=>R.ok (D.int a.length) S|none=>.bad)=_;rw[h]
@[simp]theorem bG(xs:List D)(S:ZU):NI [.tup xs] S=.ok (.lst S.length) (S++[.lst xs]):=rfl
@[simp]theorem bF(xs:List D)(j:Int)(S:ZU):ZI (.tup xs) (.int j) S=match X0 xs j with|some d=>.ok d S|none=>.bad:=rfl
@[simp]theorem bE(xs:List D)(j:Int)(S:ZU):ZI (.rol xs) (.int j) S=match X0 xs j with|some d=>.ok d S|none=>.bad:=rfl
theorem Xc(h:ZC S n=Z9 xs)(j:Int):ZI (.lst n) (.int j) S=match X0 xs j with|some d=>.ok d S|none=>.bad:=by show(match ZC S n,D.int j with|some xs,.int j=>(match X0 xs j with|some d=>R.ok d S|none=>.bad)| _,_=>.bad)=_;rw[h]
@[simp]theorem bD(xs:List D)(lo hi:yG)(S:ZU):YH (.tup xs) lo hi S=.ok (.tup (Yv xs lo hi)) S:=rfl
theorem QK(h:ZC S n=Z9 xs)(lo hi:yG):YH (.lst n) lo hi S=.ok (.lst S.length) (S++[.lst (Yv xs lo hi)]):=by show(match ZC S n with|some xs=>R.ok (D.lst S.length) (S++[O.lst (Yv xs lo hi)])| none=>.bad)=_;rw[h]
@[simp]theorem Nf(x:a)(xs:List a):X0 (x::xs) 0=Z9 x:=WO rfl
@[simp]theorem bC(x y:a)(xs:List a):X0 (x::y::xs) 1=Z9 y:=WO rfl
@[simp]theorem bB(x y z:a)(xs:List a):X0 (x::y::z::xs) 2=Z9 z:=WO rfl
@[simp]theorem bA(x y z w:a)(xs:List a):X0 (x::y::z::w::xs) 3=Z9 w:=WO rfl
structure Kp(P:Nat->Prop)(S S':ZU):Prop where
 le:S.length<=S'.length
 eq:∀j,j<S.length->¬P j->S'[j]?=S[j]?
abbrev Ex:ZU->ZU->Prop:=Kp λ_=>False
inductive Xb{α:Type}(m:R α)(r:α)(S:ZU):Prop
 |mk (S1:ZU) (e:m=.ok r S1) (x:Ex S S1)
theorem Kp.refl(P:Nat->Prop)(S:ZU):Kp P S S:=⟨qA4 _,λ_ _ _=>rfl⟩
theorem Kp.trans(a:Kp P S S1)(b:Kp P S1 S2):Kp P S S2:=⟨qC6 a.le b.le,λj h n=>(b.eq j (qA9 h a.le) n).trans (a.eq j h n)⟩
theorem Ex.kp(h:Ex S S'):Kp P S S':=⟨h.le,λj a _=>h.eq j a (λz=>z)⟩
theorem Kp.kp(h:Kp (λ_=>False) S S'):Kp P S S':=⟨h.le,λj a _=>h.eq j a (λz=>z)⟩
theorem Kp.mono(h:Kp P S S')(m:∀j,j<S.length->P j->Q j):Kp Q S S':=⟨h.le,λj a n=>h.eq j a λz=>n (m j a z)⟩
theorem Zk(S T:ZU):Ex S (S++T):=⟨by simp,λj h _=>qB7 h⟩
theorem Vq(S:ZU)(o:O):Kp (·=i) S (S.set i o):=⟨by simp,λj h n=>qC9 λz=>n z.symm⟩
theorem Kp.at(h:Kp P S a)(e:S[j]?=Z9 o)(n:¬P j):a[j]?=Z9 o:=by rw[h.eq j (qA3.mp e).1 n];exact e
theorem VZ(h:ZC S n=Z9 xs):S[n]?=Z9 (.lst xs):=by
 unfold ZC at h;split at h
 .simp_all
 .cases h
theorem QJ(h:S[n]?=Z9 (.lst xs)):ZC S n=Z9 xs:=by unfold ZC;rw[h]
theorem Kp.lst(h:Kp P S a)(e:ZC S j=Z9 xs)(n:¬P j):ZC a j=Z9 xs:=QJ (h.at (VZ e) n)
theorem Jy(h:ZC S n=Z9 xs):n<S.length:=(qA3.mp (VZ h)).1
@[simp]theorem Y9(S:ZU)(xs:List D):ZC (S++[.lst xs]) S.length=Z9 xs:=QJ (by rw[qA5 (qA4 _),qD5];rfl)
theorem O6(h:ZC S n=Z9 xs):ZC (S++T) n=Z9 xs:=(Zk S T).lst h λz=>z
theorem SU(h:ZC S n=Z9 xs):ZC (S.set n (.lst ys)) n=Z9 ys:=QJ (qC7 (Jy h))
theorem QI(h:ZC S n=Z9 xs):YX "list" (.lst n) S=Z7:=by show(decide ("list" = "list")&&(ZC S n).isSome)=Z7;rw[h];rfl
theorem Jx{S:ZU}{n:Nat}{ys:List D}(h:ZC S n=Z9 ys)(g:List D->List D->Option (List D×D))(xs:List D):XB g (.lst n) xs S=match g ys xs with|some p=>.ok p.2 (S.set n (.lst p.1))| none=>.bad:=by
 unfold XB;dsimp only;rw[VZ h];dsimp only;cases g ys xs with
 |none=>rfl
 |some p=>rfl
@[simp]theorem oP(ys:List D)(x:D):Vt ys [x]=if ys.length<lim then Z9 (ys++[x],.non)else Z8:=rfl
@[simp]theorem bz(ys:List D)(i:Int)(x:D):Ta ys [.int i,x]=if ys.length<1000/\0<=i/\i.toNat<=ys.length then Z9 (ys.take i.toNat++x::ys.drop i.toNat,.non)else Z8:=rfl
theorem Ek{S:ZU}{n:Nat}{ys:List D}(h:ZC S n=Z9 ys)(k:Int)(v:D):XM (.lst n) (.int k) v S=match V6 ys.length k with|some j=>Z9 (S.set n (.lst (ys.set j v)))| none=>Z8:=by
 unfold XM;dsimp only;rw[VZ h]
 all_goals (dsimp only;cases V6 ys.length k<;>rfl)
theorem XJ(S:ZU):Ye [] S:=λp h=>by cases h
theorem UF(h:ZC S n=Z9 xs):Ye [(n,xs)] S:=λp a=>by simp at a;subst a;exact h
theorem Ej{w:XX}{g:G}{b:CS}:∀(items:List D) (P:Nat->ZR->ZU->Prop) {B:ZR}{S:ZU} (k:Nat),(∀i B S,P i B S->Ye w S)->P k B S ->
  (∀i d B S,items[i]?=Z9 d->P (k+i) B S->∃c S1,g d B S=.ok c S1/\∃a S2,(b c S1=.nx a S2∨b c S1=.ct a S2)/\P (k+i+1) a S2)->∃B' f,Yr w g b items B S=.nx B' f/\P (k+items.length) B' f
 |[],P,B,S,k,hw,h0,hs=>⟨B,S,by unfold Yr;rw[if_pos (hw k B S h0)],by simpa using h0⟩
 |d::h,P,B,S,k,hw,h0,hs=>by
  obtain⟨c,S1,m,a,S2,e,o⟩:=hs 0 d B S rfl (by simpa using h0);obtain⟨B',f,j,p3⟩:=Ej h P (k+1) hw (by simpa using o) (λi n B S r l=>by
   obtain⟨c,S1,p,a,S2,s,q⟩:=hs (i+1) n B S (by exact r) (by rw[show k+(i+1)=k+1+i by lia];exact l);exact⟨c,S1,p,a,S2,s,by rw[show k+1+i+1=k+(i+1)+1 by lia];exact q⟩)
  refine⟨B',f,?_,by rw[qB6,show k+(h.length+1)=k+1+h.length by lia];exact p3⟩;unfold Yr;rw[if_pos (hw k B S h0),m];dsimp only;rcases e with e|e
  .rw[e];exact j
  .rw[e];exact j
inductive oO(r:RS)(P:ZR->ZU->Prop):Prop
 |mk (B2:ZR) (S2:ZU) (h:r=.nx B2 S2∨r=.ct B2 S2) (p:P B2 S2)
inductive oN(g:G)(b:CS)(d:D)(B:ZR)(S:ZU)(P:ZR->ZU->Prop):Prop
 |mk (B1:ZR) (S1:ZU) (e:g d B S=.ok B1 S1) (t:oO (b B1 S1) P)
inductive oM(r:RS)(P:ZR->ZU->Prop):Prop
 |mk (B':ZR) (S':ZU) (e:r=.nx B' S') (p:P B' S')
theorem RB(P:Nat->ZR->ZU->Prop)(o:∀i B S,P i B S->Ye w S)(j:P 0 B S)
  (l:∀i d B S,items[i]?=Z9 d->P i B S->oN g b d B S (P (i+1))):oM (Yr w g b items B S) (P items.length):=by
 obtain⟨s,h,e,p⟩:=Ej items P 0 o j (λi d B S q f=>by
  obtain⟨t,k,m,a,c,r,n⟩:=l i d B S q (by simpa using f);exact⟨t,k,m,a,c,r,by simpa using n⟩)
 exact⟨s,h,e,by simpa using p⟩
inductive Ei(m:R (List D))(r:List D)(P:ZU->Prop):Prop
 |mk (S':ZU) (e:m=.ok r S') (p:P S')
theorem Nd{i:Type}(e:i->D){w:XX}{t:XA}{tc:CT}{c:C}{B0:ZR}(P:ZU->Prop)(g:∀S,P S->Ye w S)(p:i->Bool)(f:i->D):∀(l:List i) {S:ZU},P S ->
  (∀a∈l,∀S,P S->∃h,Wu t (e a) B0=Z9 h/\∃S1,tc h S=.ok (p a) S1/\(p a=Z5->P S1)/\(p a=Z7->∃S2,c h S1=.ok (f a) S2/\P S2))->Ei (Yz w t tc c B0 (l.map e) S) ((l.filter p).map f) P
 |[],S,h0,hs=>⟨S,by rw[qF8];unfold Yz;rw[if_pos (g S h0)];rfl,h0⟩
 |d::q,S,h0,hs=>by
  obtain⟨h,r,S1,x,y,v⟩:=hs d (by simp) S h0;rw[qB2];unfold Yz;rw[if_pos (g S h0),r];dsimp only;rw[Xs,x,Xy];cases b:p d with
  |false =>
   obtain⟨k,m,n⟩:=Nd e P g p f q (y b) λj o=>hs j (by simp[o]);exact⟨k,by rw[if_neg qB0,m,qN8,b];rfl,n⟩
  |true =>
   obtain⟨S2,u,s⟩:=v b;obtain⟨k,m,n⟩:=Nd e P g p f q s λj o=>hs j (by simp[o]);exact⟨k,by rw[if_pos rfl,Xs,u,Xy,Xs,m,Xy,qN8,b];rfl,n⟩
theorem Jw{g:Type}(e:g->D)(P:ZU->Prop)(o:∀S,P S->Ye w S)(f:g->D)(l:List g)(k:P S)
  (m:∀a∈l,∀S,P S->∃b,Wu t (e a) B0=Z9 b/\∃S2,c b S=.ok (f a) S2/\P S2):Ei (Yz w t (λ_=>ret Z7) c B0 (l.map e) S) (l.map f) P:=by
 obtain⟨j,e,h⟩:=Nd e (tc:=λ_=>ret Z7) P o (λ_=>Z7) f l k (λd p S h=>by
  obtain⟨b,i,S2,n,q⟩:=m d p S h;exact⟨b,i,S,rfl,(λz=>by cases z),λ_=>⟨S2,n,q⟩⟩)
 exact⟨j,by rw[e,qM3.mpr (by simp)],h⟩
theorem Eh{g:Type}(e:g->D)(o:Ye w S)(p:g->Bool)(f:g->D)(l:List g)
  (k:∀a∈l,∃d,Wu t (e a) B0=Z9 d/\tc d S=.ok (p a) S/\(p a=Z7->c d S=.ok (f a) S)):Yz w t tc c B0 (l.map e) S=.ok ((l.filter p).map f) S:=by
 obtain⟨b,i,h⟩:=Nd e (λb=>b=S) (λb z=>z▸o) p f l rfl (λa j b z=>by
  subst z;obtain⟨d,m,q,n⟩:=k a j;exact⟨d,m,b,q,λ_=>rfl,λz=>⟨b,n z,rfl⟩⟩)
 rw[i,h]
theorem O5{d:Type}(e:d->D)(i:Ye w S)(f:d->D)(l:List d)
  (k:∀a∈l,∃b,Wu t (e a) B0=Z9 b/\c b S=.ok (f a) S):Yz w t (λ_=>ret Z7) c B0 (l.map e) S=.ok (l.map f) S:=by
 have:=Eh e (tc:=λ_=>ret Z7) i (λ_=>Z7) f l (λa j=>by
  obtain⟨b,g,h⟩:=k a j;exact⟨b,g,rfl,λ_=>h⟩)
 rw[this,qM3.mpr (by simp)]
@[simp]theorem bx(d:D)(B:ZR):Wu .one d B=Z9 (B.set 0 (Z9 d)):=rfl
@[simp]theorem bw(x y:D)(B:ZR):Wu (.many 2) (.tup [x,y]) B=Z9 ((B.set 0 (Z9 x)).set 1 (Z9 y)):=rfl
@[simp]theorem bu(k:Nat)(js:List Nat)(B:ZR):W5 k js B=qC3 k Z8++js.map λj=>(B[j]?).getD Z8:=rfl
theorem Jv{np nN:Nat}{b:CS}{ds:List D}{S:ZU}(h:ds.length=np):Zz np nN b ds S=match b (Yu nN ds) S with
 |.nx _ a=>.ok .non a
 |.rt d a=>.ok d a
 |.er c a=>.er c a
 |_=>.bad:=by
 unfold Zz;rw[if_pos h]
 all_goals (cases b (Yu nN ds) S<;>rfl)
theorem YT{np nN:Nat}{b:CS}{ds:List D}{S S':ZU}{d:D}(h:ds.length=np)(e:b (Yu nN ds) S=.rt d S'):Zz np nN b ds S=.ok d S':=by rw[Jv h,e]
theorem WK(h:ds.length=np)(e:b (Yu nN ds) S=.er c S'):Zz np nN b ds S=.er c S':=by rw[Jv h,e]
theorem oK(h:ds.length=np)(e:b (Yu nN ds) S=.nx B S'):Zz np nN b ds S=.ok .non S':=by rw[Jv h,e]
def plain:Nat->D->Bool
 |0,_=>Z5
 |n+1,d=>match d with
  |.int _=>Z7
  |.non=>Z7
  |.str x=>PyData.strOk x
  |.tup a=>a.all (plain n)
  |_=>Z5
def YP:Nat->D->vK
 |0,_=>.none
 |n+1,d=>match d with
  |.int i=>.int i
  |.str x=>.str x
  |.tup a=>.tuple (a.map (YP n))
  |_=>.none
theorem Eg{b c:Type}{f:b->Option c}{g:b->c}{l:List b}(h:∀x∈l,f x=Z9 (g x)):l.mapM f=Z9 (l.map g):=by
 induction l with
 |nil=>rfl
 |cons a r d =>
  rw[qJ5,h a (by simp),d λx e=>h x (by simp[e])];rfl
theorem Ef:∀{n:Nat}{d:D} (S:ZU),plain n d=Z7->YR n S d=Z9 (YP n d)
 |0,d,S,h=>by cases h
 |n+1,d,S,h=>by
  unfold plain at h;unfold YR YP;cases d with
  |int i=>rfl
  |non=>rfl
  |str x=>dsimp only at h ⊢;rw[if_pos h]
  |tup b =>
   dsimp only at h ⊢;rw[Eg λx a=>Ef S (qB9.mp h x a)];rfl
  |_=>cases h
theorem Nc{n:Nat}(a:∀d e,plain n d=Z7->plain n e=Z7->(PyData.eqv (YP n d) (YP n e)=Z7↔d=e)):∀(xs ys:List D),xs.all (plain n)=Z7->ys.all (plain n)=Z7->(PyData.eqvAll (xs.map (YP n)) (ys.map (YP n))=Z7↔xs=ys)
 |[],[],_,_=>by simp[PyData.eqvAll]
 |[],y::ys,_,_=>by simp[PyData.eqvAll]
 |x::xs,[],_,_=>by simp[PyData.eqvAll]
 |x::xs,y::ys,h1,h2=>by rw[qH7,qB3]at h1 h2;show(PyData.eqv (YP n x) (YP n y)&&PyData.eqvAll (xs.map (YP n)) (ys.map (YP n)))=Z7↔_;rw[qB3,a x y h1.1 h2.1,Nc a xs ys h1.2 h2.2,qH4.injEq]
theorem Ju:∀(n:Nat) (d e:D),plain n d=Z7->plain n e=Z7->(PyData.eqv (YP n d) (YP n e)=Z7↔d=e)
 |0,d,e,h,_=>by cases h
 |n+1,d,e,h1,h2=>by
  unfold YP;cases d with
  |int i =>
   cases e with
   |int j=>simp[PyData.eqv]
   |non=>simp[PyData.eqv]
   |str y=>simp[PyData.eqv]
   |tup a=>simp[PyData.eqv]
   |_=>cases h2
  |non =>
   cases e with
   |int j=>simp[PyData.eqv]
   |non=>simp[PyData.eqv]
   |str y=>simp[PyData.eqv]
   |tup a=>simp[PyData.eqv]
   |_=>cases h2
  |str x =>
   cases e with
   |int j=>simp[PyData.eqv]
   |non=>simp[PyData.eqv]
   |str y=>simp[PyData.eqv]
   |tup a=>simp[PyData.eqv]
   |_=>cases h2
  |tup b =>
   cases e with
   |int j=>simp[PyData.eqv]
   |non=>simp[PyData.eqv]
   |str y=>simp[PyData.eqv]
   |tup a =>
    show PyData.eqvAll (b.map (YP n)) (a.map (YP n))=Z7↔_;rw[Nc (Ju n) b a h1 h2];simp
   |_=>cases h2
  |_=>cases h1
def SS{a:Type}(x y:a):Bool:=@decide (x=y) (Classical.propDecidable _)
theorem O4{x y:a}:SS x y=Z7↔x=y:=@decide_eq_true_iff _ (Classical.propDecidable _)
@[simp]theorem oJ(x:a):SS x x=Z7:=O4.mpr rfl
theorem oI{x y:a}(h:x≠y):SS x y=Z5:=by
 cases q:SS x y with
 |false=>rfl
 |true=>exact absurd (O4.mp q) h
theorem Ee(h:a=Z7↔b=Z7):a=b:=by simp_all
theorem Nb(h:ZC S k=Z9 xs)(a:xs.all (plain 39)=Z7):YR 40 S (.lst k)=Z9 (.list (xs.map (YP 39))):=by show(match ZC S k with|some xs=>(xs.mapM (YR 39 S)).map PyData.list|none=>Z8)=_;rw[h];dsimp only;rw[Eg (g:=YP 39) λx b=>Ef S (qB9.mp a x b)];rfl
theorem oH(f:ZC S a=Z9 xs)(e:ZC S b=Z9 ys)(c:xs.all (plain 39)=Z7)(d:ys.all (plain 39)=Z7):Ze (.lst a) (.lst b) S=.ok (.bl (SS xs ys)) S:=by unfold Ze;dsimp only;rw[Nb f c,Nb e d];dsimp only;rw[Ee ((show PyData.eqv (.list (xs.map (YP 39))) (.list (ys.map (YP 39)))=Z7↔xs=ys from Nc (Ju 39) xs ys c d).trans O4.symm)]
theorem oG(f:ZC S a=Z9 xs)(e:ZC S b=Z9 ys)(c:xs.all (plain 39)=Z7)(d:ys.all (plain 39)=Z7):Yh (.lst a) (.lst b) S=.ok (.bl (!SS xs ys)) S:=by unfold Yh;dsimp only;rw[Nb f c,Nb e d];dsimp only;rw[Ee ((show PyData.eqv (.list (xs.map (YP 39))) (.list (ys.map (YP 39)))=Z7↔xs=ys from Nc (Ju 39) xs ys c d).trans O4.symm)]
@[simp]theorem bt(i:Int)(S:ZU):Yo [.int i,.ty "bool"] S=.ok (.bl Z5) S:=rfl
@[simp]theorem br(i:Int)(S:ZU):Yo [.int i,.ty "int"] S=.ok (.bl Z7) S:=rfl
@[simp]theorem bq(i:Int)(S:ZU):Yo [.int i,.ty "tuple"] S=.ok (.bl Z5) S:=rfl
@[simp]theorem bp(i:Int)(S:ZU):Yo [.int i,.ty "list"] S=.ok (.bl Z5) S:=rfl
@[simp]theorem bo(b:Bool)(S:ZU):Yo [.bl b,.ty "bool"] S=.ok (.bl Z7) S:=rfl
@[simp]theorem bj(b:Bool)(S:ZU):Yo [.bl b,.ty "int"] S=.ok (.bl Z7) S:=rfl
@[simp]theorem bh(b:Bool)(S:ZU):Yo [.bl b,.ty "tuple"] S=.ok (.bl Z5) S:=rfl
@[simp]theorem bg(b:Bool)(S:ZU):Yo [.bl b,.ty "list"] S=.ok (.bl Z5) S:=rfl
@[simp]theorem bf  (S:ZU):Yo [.non,.ty "bool"] S=.ok (.bl Z5) S:=rfl
@[simp]theorem be  (S:ZU):Yo [.non,.ty "int"] S=.ok (.bl Z5) S:=rfl
@[simp]theorem bc  (S:ZU):Yo [.non,.ty "tuple"] S=.ok (.bl Z5) S:=rfl
@[simp]theorem bb  (S:ZU):Yo [.non,.ty "list"] S=.ok (.bl Z5) S:=rfl
@[simp]theorem aZ(x:Str)(S:ZU):Yo [.str x,.ty "bool"] S=.ok (.bl Z5) S:=rfl
@[simp]theorem aY(x:Str)(S:ZU):Yo [.str x,.ty "int"] S=.ok (.bl Z5) S:=rfl
@[simp]theorem aX(x:Str)(S:ZU):Yo [.str x,.ty "tuple"] S=.ok (.bl Z5) S:=rfl
@[simp]theorem aW(x:Str)(S:ZU):Yo [.str x,.ty "list"] S=.ok (.bl Z5) S:=rfl
@[simp]theorem aV(xs:List D)(S:ZU):Yo [.tup xs,.ty "bool"] S=.ok (.bl Z5) S:=rfl
@[simp]theorem aU(xs:List D)(S:ZU):Yo [.tup xs,.ty "int"] S=.ok (.bl Z5) S:=rfl
@[simp]theorem aT(xs:List D)(S:ZU):Yo [.tup xs,.ty "tuple"] S=.ok (.bl Z7) S:=rfl
@[simp]theorem aS(xs:List D)(S:ZU):Yo [.tup xs,.ty "list"] S=.ok (.bl Z5) S:=rfl
@[simp]theorem aR(i j:Nat)(a b:C)(B:ZR)(S:ZU):Xu i j a b B S=rs (a B S) (λx S1=>rs (b B S1) (λy S2=>.nx ((B.set i (Z9 x)).set j (Z9 y)) S2) .mk) .mk:=by
 unfold Xu rs;cases a B S with
 |ok x S1=>dsimp only;cases b B S1<;>rfl
 |_=>rfl
theorem oF(ns:yA):Tb (ns.map D.int)=Z9 ns:=by
 induction ns with
 |nil=>rfl
 |cons a r b=>show(Tb (r.map D.int)).map (a::·)=_;rw[b];rfl
theorem Ed(h:ZC S n=Z9 (ns.map D.int))(a:ns.length<64):R4 [.lst n] S=.ok (.lst S.length) (S++[.lst ((Ue ns).map D.int)]):=by unfold R4;simp only[h,Option.bind_some,oF,if_pos a]
@[simp]theorem aQ(i:Int)(S:ZU):PH (.int i) [] S=.ok (.int ((Builtin.Int.intBits i:Nat):Int)) S:=rfl
@[simp]theorem aP(i:Int)(S:ZU):YX "int" (.int i) S=Z7:=rfl
theorem oE(xs:List D)(a:0<=k):Yv xs Z8 (Z9 k)=xs.take k.toNat:=by
 unfold Yv;rw[show k=((k.toNat:Nat):Int) by lia,HT.sIx_nat,HT.sIx_none,Nat.sub_zero,qH3,qE6];by_cases h:k.toNat<=xs.length
 .rw[qO4 h]
 .rw[qN9 (by lia),qK3,qD9 (by lia)]
theorem Jt(xs:List D)(a:0<=k):Yv xs (Z9 k) Z8=xs.drop k.toNat:=by
 unfold Yv;rw[show k=(k.toNat:Int) by lia,HT.sIx_nat,HT.sIx_none,qE6];by_cases h:k.toNat<=xs.length
 .rw[qO4 h,qD9 (by simp)]
 .rw[qN9 (by lia),qD5,qO8,qK8 (by lia)]
theorem QH(b:ZC S n=Z9 xs)(a:ZC S m=Z9 ys)(h:xs.length+ys.length<=lim):ZQ (.lst n) (.lst m) S=.ok (.lst S.length) (S++[.lst (xs++ys)]):=by show(match S[n]?,S[m]? with|some (O.lst xs),Z9 (O.lst ys)=>(if xs.length+ys.length<=lim then R.ok (D.lst S.length) (S++[O.lst (xs++ys)])else .bad)| _,_=>.bad)=_;rw[VZ b,VZ a];dsimp only;rw[if_pos h]
@[simp]theorem aO(x:D)(n:Nat)(S:ZU):YE x (.dct n) S=Ya Z5 x (.dct n) S:=by cases x<;>rfl
@[simp]theorem aN(x:D)(n:Nat)(S:ZU):YE x (.lst n) S=Ya Z5 x (.lst n) S:=by cases x<;>rfl
@[simp]theorem aM(x:D)(ys:List D)(S:ZU):YE x (.tup ys) S=Ya Z5 x (.tup ys) S:=by cases x<;>rfl
@[simp]theorem aL(i:Int)(y:D)(S:ZU):YE (.int i) y S=Ya Z5 (.int i) y S:=by cases y<;>rfl
@[simp]theorem aK(xs:List D)(y:D)(S:ZU):YE (.tup xs) y S=Ya Z5 (.tup xs) y S:=by cases y<;>rfl
def Na{α:Type}(r a:R α):R α:=match r with
 |.ok p b=>.ok p b
 |_=>a
@[simp]theorem aJ(p:a)(S1:ZU)(b:R a):Na (.ok p S1) b=.ok p S1:=rfl
@[simp]theorem aI(r2:R a):Na .bad r2=r2:=rfl
@[simp]theorem oD(a b:CI)(B:ZR)(S:ZU):YI a b B S=Na (a B S) (b B S):=by unfold YI Na;cases a B S<;>rfl
@[simp]theorem aH(i j:Int)(S:ZU):V0 (.int i) (.int j) S=Vb (.int i) (.int j) S:=rfl
@[simp]theorem oB(n:Nat)(S:ZU):Vr [.lst n] S=PF [.lst n] S:=rfl
@[simp]theorem aG(n:Nat)(S:ZU):Xe [.lst n] S=R4 [.lst n] S:=rfl
@[simp]theorem aF(xs:List D)(S:ZU):Xe [.tup xs] S=R4 [.tup xs] S:=rfl
def O0(K:yP):Bool:=X2.all λx=>match XU K x with
 |some C=>W.excIn K C KU "ValueError.__new__"
 |none=>Z5
def Ec(K:yP)(C:yQ):Bool:=X2.all λx=>match XU K x with
 |some D=>W.exmOne K (.ref D) (.ref C) == Z9 Z7
 |none=>Z5
theorem Js{K:yP}{a:Str->yF}(X:K.In h)(G:h.Ns y9 a){D:yQ}(e:XU K x=Z9 D):a x=Z9 (.ref D):=dQ X G (Fj e)
theorem oA{K:yP}{a:Str->yF}(X:K.In h)(G:h.Ns y9 a)(hk:O0 K=Z7):∀x∈Wc,∃C,a x=Z9 (.ref C)/\Xi K C:=λx b=>by
 have q:=qB9.mp hk x b;split at q
 .rename_i C e;exact⟨C,Js X G e,q⟩
 .cases q
theorem oz{K:yP}{a:Str->yF}{st:jV}{g C:yQ}(X:K.In h)(G:h.Ns y9 a)(F:WN K "_law_flags" "_law_flags" st g d)(m:a "_law_flags"=Z9 (.ref g))(o:WB K d [p] [])
  (k:YD [p,y] [p] (Zd st)=Z7) (l:UY ⟨[p,y],(Zd st).names,Z8⟩ (X4 st)=Z9 SY) (i:wD K y9 "NetError"=Z9 (Z9 (.ref C)))
  (b:UK K=Z7) (r:Ec K C=Z7) (s:wD K y9 "ValueError"=Z9 Z8) (j:wD K y9 "isinstance"=Z9 Z8):VG P w K a base:=by
 have f:∀c∈X2,∃C,a c=Z9 (.ref C)/\XU K c=Z9 C:=λc t=>by obtain⟨C,e,_⟩:=PB b t;exact⟨C,Js X G e,e⟩
 have v:=dR X G s;refine⟨b,f,v,pd F m o k l b f v (dR X G j) (dQ X G i) λx n D e=>?_⟩;have q:=qB9.mp r x n;rw[e]at q;exact⟨Js X G e,beq_iff_eq.mp q⟩
end Lake
namespace Internal
open PySem Lake
def QG(cl:ZO):CS :=
 (ZV (ZG (R7 (ZT Yo (ZS [(ZY 0),(ZX (.ty "int"))])) (NP (ZT Yo (ZS [(ZY 0),(ZX (.ty "bool"))])))))
  ZL)
def OZ(cl:Nat->ZO):Prop:=∀n,cl (n+1) "is_whole"=Zz 1 1 (QG (cl n))
def RA(cl:ZO):CS :=
 (ZV (ZG (R7 (ZT (cl "is_whole") (ZS [(ZY 0)])) (Vd (Y1 λi j=>decide (i<=j)) (Y1 λi j=>decide (i<=j)) (ZX (.int 0)) (ZY 0) (ZX (.int 1)))))
  ZL)
def M9(cl:Nat->ZO):Prop:=∀n,cl (n+1) "is_bit"=Zz 1 1 (RA (cl n))
def M8(cl:ZO):C :=
 (ZT (cl "is_whole") (ZS [(ZY 0)]))
def Jr(cl:ZO):CS :=
 (ZV (Zj (Yb (XC (Y2 (ZT Yo (ZS [(ZY 2),(ZX (.ty "tuple"))])))) (Zn (ZW Yh (ZT Zt (ZS [(ZY 2)])) (ZX (.int 4))))) (ZV (ZG (ZX (.bl Z5)))
  ZL) ZL)
  (ZV (Zj (XC (Y2 (ZT (W6 λbs=>bs.all id) (ZS [(XW (YI (Zs (ZY 2)) (Zm (ZY 2))) 1 [] .one (λ_=>ret Z7) (M8 cl))])))) (ZV (ZG (ZX (.bl Z5)))
  ZL) ZL)
  (ZV (Zj (XC (PL (Y1 λi j=>decide (i<=j)) U8 U8 (ZX (.int 0)) (ZW ZI (ZY 2) (ZX (.int 0))) (ZW ZI (ZY 2) (ZX (.int 1))) (ZY 1))) (ZV (ZG (ZX (.bl Z5)))
  ZL) ZL)
  (ZV (ZG (R7 (Vd (Y1 λi j=>decide (i<=j)) U8 (ZX (.int 0)) (ZW ZI (ZY 2) (ZX (.int 2))) (ZY 0)) (ZT (cl "is_bit") (ZS [(ZW ZI (ZY 2) (ZX (.int 3)))]))))
  ZL))))
def Jq(cl:Nat->ZO):Prop:=∀n,cl (n+1) "is_contact"=Zz 3 3 (Jr (cl n))
def Jp(cl:ZO):C :=
 (ZT (cl "is_contact") (ZS [(ZY 1),(ZY 2),(ZY 0)]))
def Jo(cl:ZO):CS :=
 (ZV (Zj (Yb (XC (Y2 (ZT Yo (ZS [(ZY 0),(ZX (.ty "tuple"))])))) (Zn (ZW Yh (ZT Zt (ZS [(ZY 0)])) (ZX (.int 3))))) (ZV (ZG (ZX (.bl Z5)))
  ZL) ZL)
  (ZV (ZJ (ZW ZI (ZY 0) (ZX (.int 0))) (gN 1))
  (ZV (ZJ (ZW ZI (ZY 0) (ZX (.int 1))) (gN 2))
  (ZV (ZJ (ZW ZI (ZY 0) (ZX (.int 2))) (gN 3))
  (ZV (Zj (Yb (XC (Y2 (ZT (cl "is_whole") (ZS [(ZY 1)])))) (XC (Zn (Vd (Y1 λi j=>decide (i<=j)) (Y1 λi j=>decide (i<=j)) (ZX (.int 1)) (ZY 1) (ZX (.int 4)))))) (ZV (ZG (ZX (.bl Z5)))
  ZL) ZL)
  (ZV (Zj (Yb (XC (Y2 (ZT (cl "is_whole") (ZS [(ZY 2)])))) (XC (Zn (Vd (Y1 λi j=>decide (i<=j)) (Y1 λi j=>decide (i<=j)) (ZX (.int 2)) (ZY 2) (ZX (.int 7)))))) (ZV (ZG (ZX (.bl Z5)))
  ZL) ZL)
  (ZV (Zj (Yb (XC (Y2 (ZT Yo (ZS [(ZY 3),(ZX (.ty "tuple"))])))) (Zn (ZW (Y1 λi j=>decide (j<i)) (ZT Zt (ZS [(ZY 3)])) (ZX (.int 16))))) (ZV (ZG (ZX (.bl Z5)))
  ZL) ZL)
  (ZV (ZG (ZT (W6 λbs=>bs.all id) (ZS [(XW (YI (Zs (ZY 3)) (Zm (ZY 3))) 1 [1,2] .one (λ_=>ret Z7) (Jp cl))])))
  ZL))))))))
def Eb(cl:Nat->ZO):Prop:=∀n,cl (n+1) "is_net"=Zz 1 4 (Jo (cl n))
def oy(cl:ZO):C :=
 (ZW ZQ (Zg (ZS [(ZX (.int 0))])) (ZY 0))
def ox(cl:ZO):C :=
 (ZW ZQ (Zg (ZS [(ZX (.int 1))])) (ZY 0))
def ou(cl:ZO):CS :=
 (ZV (ZJ (ZW ZQ (XW (YI (Zs (ZY 1)) (Zm (ZY 1))) 1 [] .one (λ_=>ret Z7) (oy cl)) (XW (YI (Zs (ZY 1)) (Zm (ZY 1))) 1 [] .one (λ_=>ret Z7) (ox cl))) (gN 1))
  ZL)
def ot(cl:ZO):CS :=
 (ZV (ZJ (Zv (ZS [(Zg (ZS []))])) (gN 1))
  (ZV (Za (WV (ZS [(ZY 0)])) (gN 2) (ou cl))
  (ZV (ZG (ZY 1))
  ZL)))
def oq(cl:ZO):CS :=
 (ZV (ZG (ZW Ze (ZW ZI (ZY 1) (ZW ZI (ZY 0) (ZX (.int 2)))) (ZW ZI (ZY 0) (ZX (.int 3)))))
  ZL)
def om(cl:ZO):CS :=
 (ZV (Zj (Zn (ZW Yh (ZW YE (ZW ZI (ZY 4) (ZX (.int 0))) (ZY 2)) (ZW YE (ZW ZI (ZY 4) (ZX (.int 1))) (ZY 2)))) (ZV (ZJ (ZX (.bl Z7)) (gS (ZY 2) (ZW ZI (ZY 4) (ZX (.int 0)))))
  (ZV (ZJ (ZX (.bl Z7)) (gS (ZY 2) (ZW ZI (ZY 4) (ZX (.int 1)))))
  (ZV (ZJ (ZX (.bl Z7)) (gN 3))
  ZL))) ZL)
  ZL)
def oj(cl:ZO):CS :=
 (ZV (ZJ (ZX (.bl Z5)) (gN 3))
  (ZV (Za (YI (Zs (ZY 1)) (Zm (ZY 1))) (gN 4) (om cl))
  ZL))
def oh(cl:ZO):CS :=
 (ZV (ZJ (Ny (ZY 0) (ZX (.bl Z7))) (gN 2))
  (ZV (ZJ (ZX (.bl Z7)) (gN 3))
  (ZV (T9 Nm (Y2 (ZY 3)) (oj cl))
  (ZV (ZG (ZY 2))
  ZL))))
def og(cl:ZO):CS :=
 (ZV (ZG (ZW YE (ZX (.int 1)) (ZT (cl "places_from") (ZS [(ZX (.int 0)),(ZY 0)]))))
  ZL)
def n9(cl:ZO):CT :=
 (Y2 (ZT (cl "is_shut") (ZS [(ZY 0),(ZY 1)])))
def n7(cl:ZO):C :=
 (ZY 0)
def n5(cl:ZO):CS :=
 (ZV (ZG (XW (YI (Zs (ZW ZI (ZY 0) (ZX (.int 2)))) (Zm (ZW ZI (ZY 0) (ZX (.int 2))))) 1 [1] .one (n9 cl) (n7 cl)))
  ZL)
def n3(cl:ZO):CS :=
 (ZV (ZG (ZT (cl "joins") (ZS [(ZT (cl "shut_contacts") (ZS [(ZY 0),(ZY 1)]))])))
  ZL)
def nZ(cl:ZO):C :=
 (Uk (Y2 (ZT (cl "lets") (ZS [(ZY 1),(ZY 0)]))) (ZX (.int 1)) (ZX (.int 0)))
def nY(cl:ZO):CS :=
 (ZV (ZG (ZT V4 (ZS [(XW (Zs (ZT (cl "settings") (ZS [(ZW ZI (ZY 0) (ZX (.int 0)))]))) 1 [0] .one (λ_=>ret Z7) (nZ cl))])))
  ZL)
def nX(cl:ZO):CS :=
 (ZV (ZG (ZW (YZ λi j=>i - j) (UL "int" PH (ZT Zt (ZS [(ZY 0)]))) (ZX (.int 1))))
  ZL)
def Jn(cl:ZO):CS :=
 (ZV (ZG (ZW ZQ (ZT V4 (ZS [(ZT Xe (ZS [(Zv (ZS [(ZW ZI (ZY 1) (ZW ZI (ZY 0) (ZX (.int 0)))),(ZW ZI (ZY 1) (ZW ZI (ZY 0) (ZX (.int 1))))]))]))])) (XY YH (ZY 0) (X3 (ZX (.int 2))) XF)))
  ZL)
def Jm(cl:Nat->ZO):Prop:=∀n,cl (n+1) "moved_contact"=Zz 2 2 (Jn (cl n))
def Jl(cl:ZO):C :=
 (ZT (cl "moved_contact") (ZS [(ZY 0),(ZY 1)]))
def Jk(cl:ZO):CS :=
 (ZV (ZG (ZT V4 (ZS [(XW (YI (Zs (ZY 0)) (Zm (ZY 0))) 1 [1] .one (λ_=>ret Z7) (Jl cl))])))
  ZL)
def Ea(cl:Nat->ZO):Prop:=∀n,cl (n+1) "moved"=Zz 2 2 (Jk (cl n))
def M7(cl:ZO):CS :=
 (ZV (Zj (Zn (ZW (Y1 λi j=>decide (j<i)) (ZY 1) (ZX (.int 7)))) (ZV (WM "TooMany")
  ZL) ZL)
  (ZV (Zj (Zn (ZW (Y1 λi j=>decide (j<i)) (ZT Zt (ZS [(ZY 2)])) (ZX (.int 16)))) (ZV (WM "TooMany")
  ZL) ZL)
  (ZV (ZG (Zg (ZS [(ZY 0),(ZY 1),(ZY 2)])))
  ZL)))
def D9(cl:Nat->ZO):Prop:=∀n,cl (n+1) "net_within"=Zz 3 3 (M7 (cl n))
def M6(cl:ZO):CS :=
 (ZV (ZJ (ZW (YZ λi j=>i - j) (ZW ZQ (ZW ZI (ZY 0) (ZX (.int 1))) (ZW ZI (ZY 1) (ZX (.int 1)))) (ZX (.int 2))) (gN 2))
  (ZV (ZJ (ZT (cl "moved") (ZS [(ZW ZI (ZY 0) (ZX (.int 2))),(ZW ZQ (Zv (ZS [(ZX (.int 0)),(ZY 2)])) (ZT Wb (ZS [(ZX (.int 2)),(ZW ZI (ZY 0) (ZX (.int 1)))])))])) (gN 3))
  (ZV (ZJ (ZT (cl "moved") (ZS [(ZW ZI (ZY 1) (ZX (.int 2))),(ZW ZQ (Zv (ZS [(ZY 2),(ZX (.int 1))])) (ZT Wb (ZS [(ZW ZI (ZY 0) (ZX (.int 1))),(ZY 2)])))])) (gN 4))
  (ZV (V3 (YF (cl "net_within") (ZS [(ZW ZI (ZY 0) (ZX (.int 0))),(ZW ZQ (ZY 2) (ZX (.int 1))),(ZW ZQ (ZY 3) (ZY 4))])))
  ZL))))
def nV(cl:Nat->ZO):Prop:=∀n,cl (n+1) "in_row"=Zz 2 5 (M6 (cl n))
def M5(cl:ZO):CS :=
 (ZV (ZJ (ZW (YZ λi j=>i - j) (ZW ZQ (ZW ZI (ZY 0) (ZX (.int 1))) (ZW ZI (ZY 1) (ZX (.int 1)))) (ZX (.int 2))) (gN 2))
  (ZV (ZJ (ZT (cl "moved") (ZS [(ZW ZI (ZY 1) (ZX (.int 2))),(ZW ZQ (Zv (ZS [(ZX (.int 0)),(ZX (.int 1))])) (ZT Wb (ZS [(ZW ZI (ZY 0) (ZX (.int 1))),(ZY 2)])))])) (gN 3))
  (ZV (V3 (YF (cl "net_within") (ZS [(ZW ZI (ZY 0) (ZX (.int 0))),(ZY 2),(ZW ZQ (ZW ZI (ZY 0) (ZX (.int 2))) (ZY 3))])))
  ZL)))
def nU(cl:Nat->ZO):Prop:=∀n,cl (n+1) "side_by_side"=Zz 2 4 (M5 (cl n))
def nS(cl:ZO):CS :=
 (ZV (ZG (Zg (ZS [(ZY 0),(ZX (.int 2)),(Zg (ZS [(Zg (ZS [(ZX (.int 0)),(ZX (.int 1)),(ZW ZI (ZY 1) (ZX (.int 1))),(ZW ZI (ZY 1) (ZX (.int 2)))]))]))])))
  ZL)
def nR(cl:ZO):CS :=
 (ZV (ZJ (ZT (cl "tree_function") (ZS [(ZY 0),(ZY 3)])) (gN 4))
  (ZV X7
  ZL))
def nQ(cl:ZO):CS :=
 (ZV (Zj (Zn (ZW Ze (ZW ZI (ZY 1) (ZX (.int 0))) (ZX (.str (Str.ofString "at"))))) (ZV (ZG (ZT (cl "function_of") (ZS [(ZT (cl "lone_net") (ZS [(ZY 0),(ZY 1)]))])))
  ZL) ZL)
  (ZV (ZJ (ZT (cl "tree_function") (ZS [(ZY 0),(ZW ZI (ZW ZI (ZY 1) (ZX (.int 1))) (ZX (.int 0)))])) (gN 2))
  (ZV (Za (YI (Zs (XY YH (ZW ZI (ZY 1) (ZX (.int 1))) (X3 (ZX (.int 1))) XF)) (Zm (XY YH (ZW ZI (ZY 1) (ZX (.int 1))) (X3 (ZX (.int 1))) XF))) (gN 3) (nR cl))
  (ZV (ZG (ZY 2))
  ZL))))
def nP(cl:ZO):CS :=
 (ZV (ZJ (ZW ZQ (ZW V0 (ZY 1) (ZX (.int 2))) (ZY 2)) (gN 1))
  ZL)
def nO(cl:ZO):CS :=
 (ZV (ZJ (ZX (.int 0)) (gN 1))
  (ZV (Za (YI (Zs (ZY 0)) (Zm (ZY 0))) (gN 2) (nP cl))
  (ZV (ZG (ZY 1))
  ZL)))
def nM(cl:ZO):CS :=
 (ZV (ZJ (Zg (ZS [(ZX (.str (Str.ofString "at"))),(ZY 2),(ZY 3)])) (gN 4))
  (ZV (ZJ (ZY 4) (gS (ZY 1) (ZT (cl "number_of") (ZS [(ZT (cl "tree_function") (ZS [(ZY 0),(ZY 4)]))]))))
  ZL))
def nJ(cl:ZO):CS :=
 (ZV (Za (YI (Zs (Zg (ZS [(ZX (.int 0)),(ZX (.int 1))]))) (Zm (Zg (ZS [(ZX (.int 0)),(ZX (.int 1))])))) (gN 3) (nM cl))
  ZL)
def nI(cl:ZO):CS :=
 (ZV (ZJ RJ (gN 1))
  (ZV (Za (WV (ZS [(ZY 0)])) (gN 2) (nJ cl))
  (ZV (ZG (ZY 1))
  ZL)))
def nH(cl:ZO):CS :=
 (ZV (Zj (Tf (Zn (ZW (Ya Z7) (ZY 7) (ZY 3))) (Zn (ZW (Ya Z7) (ZY 7) (ZY 0)))) (ZV (ZJ (Zg (ZS [(ZY 6),(Zg (ZS [(ZW ZI (ZY 1) (ZY 4)),(ZW ZI (ZY 2) (ZY 5))]))])) (gS (ZY 0) (ZY 7)))
  ZL) ZL)
  ZL)
def nG(cl:ZO):CS :=
 (ZV (Za (YI (Zs (Zg (ZS [(Zg (ZS [(ZX (.str (Str.ofString "row"))),(ZW (YZ wV) (ZY 4) (ZY 5))])),(Zg (ZS [(ZX (.str (Str.ofString "side"))),(ZW (YZ fO) (ZY 4) (ZY 5))]))]))) (Zm (Zg (ZS [(Zg (ZS [(ZX (.str (Str.ofString "row"))),(ZW (YZ wV) (ZY 4) (ZY 5))])),(Zg (ZS [(ZX (.str (Str.ofString "side"))),(ZW (YZ fO) (ZY 4) (ZY 5))]))])))) (gT [(gN 6),(gN 7)]) (nH cl))
  ZL)
def nF(cl:ZO):CS :=
 (ZV (Za (YI (Zs (ZY 2)) (Zm (ZY 2))) (gN 5) (nG cl))
  ZL)
def nD(cl:ZO):CS :=
 (ZV (Za (YI (Zs (ZY 1)) (Zm (ZY 1))) (gN 4) (nF cl))
  ZL)
def nC(cl:ZO):CS :=
 (ZV (Wf (ZT (cl "add_made") (ZS [(ZY 3),(ZW ZI (ZY 0) (ZY 4)),(ZW ZI (ZY 0) (ZW (YZ λi j=>i - j) (ZW (YZ λi j=>i - j) (ZT Zt (ZS [(ZY 0)])) (ZX (.int 1))) (ZY 4))),(ZY 1)])))
  ZL)
def nB(cl:ZO):CS :=
 (ZV (Wf (X9 "dict" Ub (ZY 1) (ZS [(ZY 2)])))
  ZL)
def nz(cl:ZO):CS :=
 (ZV (ZJ RJ (gN 1))
  (ZV (Za (YI (Zs (ZY 0)) (Zm (ZY 0))) (gN 2) (nB cl))
  (ZV (ZJ RJ (gN 3))
  (ZV (Za (WV (ZS [(ZW Wi (ZW ZQ (ZT Zt (ZS [(ZY 0)])) (ZX (.int 1))) (ZX (.int 2)))])) (gN 4) (nC cl))
  (ZV (ZG (ZY 3))
  ZL)))))
def ny(cl:ZO):CS :=
 (ZV (Wf (X9 "list" (XB Vt) (ZY 2) (ZS [(ZT (cl "further_level") (ZS [(ZY 2)]))])))
  ZL)
def nv(cl:ZO):CS :=
 (ZV (ZJ (ZT (cl "switches_of") (ZS [(ZY 0)])) (gN 1))
  (ZV (Zj (Zn (ZW (Y1 λi j=>decide (j<i)) (ZY 1) (ZX (.int 3)))) (ZV (WM "TooMany")
  ZL) ZL)
  (ZV (ZJ (Zv (ZS [(ZT (cl "first_level") (ZS [(ZY 1)]))])) (gN 2))
  (ZV (T9 Nm (Zn (ZW (Ya Z7) (ZT (cl "number_of") (ZS [(ZY 0)])) (ZW ZI (ZY 2) (Xw U9 (ZX (.int 1)))))) (ny cl))
  (ZV (ZG (ZY 2))
  ZL)))))
def nj(cl:ZO):CS :=
 (ZV (ZG (ZT Zt (ZS [(ZT (cl "levels_to") (ZS [(ZY 0)]))])))
  ZL)
def OY(cl:ZO):CS :=
 (ZV (ZJ (ZW ZI (ZY 0) (ZX (.int 0))) (gN 1))
  (ZV (ZJ (ZW ZI (ZY 0) (ZX (.int 1))) (gN 2))
  (ZV (ZJ (ZW ZI (ZY 0) (ZX (.int 2))) (gN 3))
  (ZV (ZJ (Uk (Zn (ZW Ze (ZW ZI (ZY 0) (ZX (.int 3))) (ZX (.int 1)))) (ZX (.str (Str.ofString "+"))) (ZX (.str (Str.ofString "-")))) (gN 4))
  (ZV (ZG (V2 [(YK (ZY 1)),(ZX (.str (Str.ofString "-"))),(YK (ZY 2)),(ZX (.str (Str.ofString "/"))),(YK (ZY 3)),(YK (ZY 4))] Str.empty))
  ZL)))))
def Jj(cl:Nat->ZO):Prop:=∀n,cl (n+1) "contact_text"=Zz 1 5 (OY (cl n))
def M4(cl:ZO):C :=
 (ZT (cl "contact_text") (ZS [(ZY 0)]))
def M3(cl:ZO):CS :=
 (ZV (ZJ (ZW ZI (ZY 0) (ZX (.int 0))) (gN 1))
  (ZV (ZJ (ZW ZI (ZY 0) (ZX (.int 1))) (gN 2))
  (ZV (ZG (X9 "str" W4 (ZX (.str (Str.ofString " "))) (ZS [(ZW ZQ (Zv (ZS [(V2 [(YK (ZY 1)),(ZX (.str (Str.ofString " "))),(YK (ZY 2)),(ZX (.str (Str.ofString ":")))] Str.empty)])) (XW (YI (Zs (ZW ZI (ZY 0) (ZX (.int 2)))) (Zm (ZW ZI (ZY 0) (ZX (.int 2))))) 1 [] .one (λ_=>ret Z7) (M4 cl)))])))
  ZL)))
def D8(cl:Nat->ZO):Prop:=∀n,cl (n+1) "net_text"=Zz 1 3 (M3 (cl n))
def Ji(cl:ZO):CS :=
 (ZV (ZG (X9 "str" Py (ZX (.str (Str.ofString "0123456789"))) (ZS [(ZY 0)])))
  ZL)
def Jh(cl:Nat->ZO):Prop:=∀n,cl (n+1) "figure"=Zz 1 1 (Ji (cl n))
def M2(cl:ZO):C :=
 (ZW Ze (ZT Zt (ZS [(ZY 0)])) (ZX (.int 6)))
def Rz(cl:ZO):CS :=
 (ZV (Zj (Yb (Zn (ZW U8 (ZT Zt (ZS [(ZY 0)])) (ZX (.int 2)))) (Yb (Zn (ZW Yh (ZT Zt (ZS [(ZW ZI (ZY 0) (ZX (.int 0)))])) (ZX (.int 1)))) (Zn (ZW Yh (ZT Zt (ZS [(ZW ZI (ZY 0) (ZX (.int 1)))])) (ZX (.int 2)))))) (ZV (ZG (ZX (.bl Z5)))
  ZL) ZL)
  (ZV (ZG (ZT (W6 λbs=>bs.all id) (ZS [(XW (YI (Zs (XY YH (ZY 0) (X3 (ZX (.int 2))) XF)) (Zm (XY YH (ZY 0) (X3 (ZX (.int 2))) XF))) 1 [] .one (λ_=>ret Z7) (M2 cl))])))
  ZL))
def D7(cl:Nat->ZO):Prop:=∀n,cl (n+1) "has_lengths_of_net"=Zz 1 1 (Rz (cl n))
def M1(cl:ZO):CS :=
 (ZV (ZG (Zg (ZS [(ZT (cl "figure") (ZS [(ZW ZI (ZY 0) (ZX (.int 0)))])),(ZT (cl "figure") (ZS [(ZW ZI (ZY 0) (ZX (.int 2)))])),(ZT (cl "figure") (ZS [(ZW ZI (ZY 0) (ZX (.int 4)))])),(Uk (Zn (ZW Ze (ZW ZI (ZY 0) (ZX (.int 5))) (ZX (.str (Str.ofString "+"))))) (ZX (.int 1)) (ZX (.int 0)))])))
  ZL)
def D6(cl:Nat->ZO):Prop:=∀n,cl (n+1) "contact_read"=Zz 1 1 (M1 (cl n))
def OX(cl:ZO):C :=
 (ZT (cl "contact_read") (ZS [(ZY 0)]))
def QF(cl:ZO):CS :=
 (ZV (Zj (XC (Y2 (ZT Yo (ZS [(ZY 0),(ZX (.ty "str"))])))) (ZV (WM "BadNote")
  ZL) ZL)
  (ZV (ZJ (X9 "str" VJ (ZY 0) (ZS [(ZX (.str (Str.ofString " ")))])) (gN 1))
  (ZV (Zj (XC (Y2 (ZT (cl "has_lengths_of_net") (ZS [(ZY 1)])))) (ZV (WM "BadNote")
  ZL) ZL)
  (ZV (ZJ (Zg (ZS [(ZT (cl "figure") (ZS [(ZW ZI (ZY 1) (ZX (.int 0)))])),(ZT (cl "figure") (ZS [(ZW ZI (ZW ZI (ZY 1) (ZX (.int 1))) (ZX (.int 0)))])),(ZT V4 (ZS [(XW (YI (Zs (XY YH (ZY 1) (X3 (ZX (.int 2))) XF)) (Zm (XY YH (ZY 1) (X3 (ZX (.int 2))) XF))) 1 [] .one (λ_=>ret Z7) (OX cl))]))])) (gN 2))
  (ZV (Zj (Yb (XC (Y2 (ZT (cl "is_net") (ZS [(ZY 2)])))) (Zn (ZW Yh (ZT (cl "net_text") (ZS [(ZY 2)])) (ZY 0)))) (ZV (WM "BadNote")
  ZL) ZL)
  (ZV (ZG (ZY 2))
  ZL))))))
def ni(cl:Nat->ZO):Prop:=∀n,cl (n+1) "net_read"=Zz 1 3 (QF (cl n))
def Jg(cl:ZO):CS :=
 (ZV (Zj (Zn (ZW Ze (ZY 0) (ZT YW (ZS [(ZY 1)])))) (ZV (ZG (ZY 1))
  ZL) ZL)
  ZL)
def Jf(cl:ZO):CS :=
 (ZV (Za (WV (ZS [(ZX (.int 16))])) (gN 1) (Jg cl))
  (ZV (WM "BadNote")
  ZL))
def nh(cl:Nat->ZO):Prop:=∀n,cl (n+1) "number_read"=Zz 1 2 (Jf (cl n))
def M0(cl:ZO):C :=
 (ZW YE (ZY 0) (ZX (.str (Str.ofString "abcdefghijklmnopqrstuvwxyz"))))
def Ry(cl:ZO):CS :=
 (ZV (Zj (Yb (XC (Zn (Vd (Y1 λi j=>decide (i<=j)) (Y1 λi j=>decide (i<=j)) (ZX (.int 1)) (ZT Zt (ZS [(ZY 0)])) (ZX (.int 8))))) (XC (Y2 (ZT (W6 λbs=>bs.all id) (ZS [(XW (YI (Zs (ZY 0)) (Zm (ZY 0))) 1 [] .one (λ_=>ret Z7) (M0 cl))]))))) (ZV (WM "BadNote")
  ZL) ZL)
  (ZV (ZG (ZY 0))
  ZL))
def QE(cl:Nat->ZO):Prop:=∀n,cl (n+1) "name_read"=Zz 1 1 (Ry (cl n))
def SQ(cl:ZO):CS :=
 (ZV (Zj (Zn (ZW Ze (ZY 0) (ZX (.str (Str.ofString "TEXT"))))) (ZV (V3 (YF (cl "net_read") (ZS [(ZY 1)])))
  ZL) ZL)
  (ZV (Zj (Zn (ZW Ze (ZY 0) (ZX (.str (Str.ofString "S"))))) (ZV X7
  ZL) ZL)
  (ZV (Zj (Zn (ZW Ze (ZY 0) (ZX (.str (Str.ofString "C"))))) (ZV (V3 (YF (cl "number_read") (ZS [(ZY 1)])))
  ZL) ZL)
  (ZV (V3 (YF (cl "name_read") (ZS [(ZY 1)])))
  ZL))))
def MZ(cl:Nat->ZO):Prop:=∀n,cl (n+1) "word_read"=Zz 2 2 (SQ (cl n))
def QD(cl:ZO):CS :=
 (ZV (Zj (XC (Y2 (ZT Yo (ZS [(ZY 0),(ZX (.ty "str"))])))) (ZV (WM "BadNote")
  ZL) ZL)
  (ZV (Zj (Y2 (X9 "str" QV (ZY 0) (ZS [(ZX (.str (Str.ofString "net ")))]))) (ZV (ZG (X9 "str" QU (ZY 0) (ZS [(ZX (.str (Str.ofString " "))),(ZX (.int 2))])))
  ZL) ZL)
  (ZV (ZG (X9 "str" VJ (ZY 0) (ZS [(ZX (.str (Str.ofString " ")))])))
  ZL)))
def MY(cl:Nat->ZO):Prop:=∀n,cl (n+1) "words_of"=Zz 1 1 (QD (cl n))
def VY(cl:ZO):C :=
 (Nt (ZY 0) (YF (cl "word_read") (ZS [(ZY 0),(ZY 1)])))
def QC(cl:ZO):CS :=
 (ZV (ZJ (ZT RM (ZS [(ZW ZI (ZY 0) (ZX (.int 0)))])) (gN 1))
  (ZV (Zj (Yb (Zn (ZW QZ (ZY 1) (ZX .non))) (Zn (ZW Yh (ZT Zt (ZS [(ZY 0)])) (ZW ZQ (ZT Zt (ZS [(ZY 1)])) (ZX (.int 1)))))) (ZV (WM "BadNote")
  ZL) ZL)
  (ZV (V3 (QO (QP (QW (ZS [(ZY 1),(XY YH (ZY 0) (X3 (ZX (.int 1))) XF)])) 2 [] (.many 2) (VY cl))))
  ZL)))
def D5(cl:Nat->ZO):Prop:=∀n,cl (n+1) "line_read"=Zz 1 2 (QC (cl n))
def Rx(cl:ZO):CS :=
 (ZV (Zj (Tf (Zn (ZW YE (ZX (.str (Str.ofString "S"))) (ZY 0))) (Zn (ZW Yh (ZT Zt (ZS [(ZW ZI (ZY 0) (ZX (.str (Str.ofString "S"))))])) (ZW ZI (ZW ZI (ZY 0) (ZX (.str (Str.ofString "A")))) (ZX (.int 0)))))) (ZV (WM "BadNote")
  ZL) ZL)
  (ZV (Zj (Tf (Zn (ZW YE (ZX (.str (Str.ofString "B"))) (ZY 0))) (Zn (ZW Yh (ZW ZI (ZW ZI (ZY 0) (ZX (.str (Str.ofString "A")))) (ZX (.int 0))) (ZW ZI (ZW ZI (ZY 0) (ZX (.str (Str.ofString "B")))) (ZX (.int 0)))))) (ZV (WM "BadNote")
  ZL) ZL)
  ZL))
def Je(cl:Nat->ZO):Prop:=∀n,cl (n+1) "refuse_unfit"=Zz 1 1 (Rx (cl n))
def SO(cl:ZO):CS :=
 (ZV (Zj (Zn (ZW Ze (ZY 0) (ZX (.str (Str.ofString "net"))))) (ZV (ZG (ZW ZI (ZY 1) (ZX (.str (Str.ofString "TEXT")))))
  ZL) ZL)
  (ZV (Zj (Zn (ZW Ze (ZY 0) (ZX (.str (Str.ofString "row"))))) (ZV (V3 (YF (cl "in_row") (ZS [(ZW ZI (ZY 1) (ZX (.str (Str.ofString "A")))),(ZW ZI (ZY 1) (ZX (.str (Str.ofString "B"))))])))
  ZL) ZL)
  (ZV (Zj (Zn (ZW Ze (ZY 0) (ZX (.str (Str.ofString "side"))))) (ZV (V3 (YF (cl "side_by_side") (ZS [(ZW ZI (ZY 1) (ZX (.str (Str.ofString "A")))),(ZW ZI (ZY 1) (ZX (.str (Str.ofString "B"))))])))
  ZL) ZL)
  (ZV (Zj (Zn (ZW Ze (ZY 0) (ZX (.str (Str.ofString "about"))))) (ZV X7
  ZL) ZL)
  (ZV (Zj (Zn (ZW Ze (ZY 0) (ZX (.str (Str.ofString "cut"))))) (ZV X7
  ZL) ZL)
  (ZV (Zj (Zn (ZW Ze (ZY 0) (ZX (.str (Str.ofString "bridge"))))) (ZV X7
  ZL) ZL)
  (ZV X7
  ZL)))))))
def ng(cl:Nat->ZO):Prop:=∀n,cl (n+1) "net_made"=Zz 2 2 (SO (cl n))
def QB(cl:ZO):CS :=
 (ZV (Zj (Zn (ZW Ze (ZY 0) (ZX (.str (Str.ofString "show"))))) (ZV (ZG (ZT (cl "net_text") (ZS [(ZY 1)])))
  ZL) ZL)
  (ZV (Zj (Zn (ZW Ze (ZY 0) (ZX (.str (Str.ofString "function"))))) (ZV X7
  ZL) ZL)
  (ZV (Zj (Zn (ZW Ze (ZY 0) (ZX (.str (Str.ofString "fewest"))))) (ZV (ZG (ZT YW (ZS [(ZT (cl "fewest") (ZS [(ZT (cl "function_of") (ZS [(ZY 1)]))]))])))
  ZL) ZL)
  (ZV (Zj (Zn (ZW Ze (ZY 0) (ZX (.str (Str.ofString "ways"))))) (ZV X7
  ZL) ZL)
  (ZV X7
  ZL)))))
def mu(cl:Nat->ZO):Prop:=∀n,cl (n+1) "answer_of"=Zz 2 2 (QB (cl n))
def MX(cl:ZO):CS :=
 (ZV (Zj (Zn (ZW YE (ZX (.str (Str.ofString "S"))) (ZY 1))) (ZV X7
  ZL) ZL)
  (ZV (Zj (Zn (ZW YE (ZX (.str (Str.ofString "B"))) (ZY 1))) (ZV X7
  ZL) ZL)
  (ZV (ZG (ZT (cl "answer_of") (ZS [(ZY 0),(ZW ZI (ZY 1) (ZX (.str (Str.ofString "A"))))])))
  ZL)))
def mr(cl:Nat->ZO):Prop:=∀n,cl (n+1) "answer"=Zz 2 2 (MX (cl n))
def MW(cl:ZO):CS :=
 (ZV (Zj (Zn (ZW U8 (ZY 1) (ZT Zt (ZS [(ZY 0)])))) (ZV (ZG (ZW ZI (ZY 0) (ZY 1)))
  ZL) ZL)
  (ZV (ZG (ZX (.int 0)))
  ZL))
def D4(cl:Nat->ZO):Prop:=∀n,cl (n+1) "_law_cell_at"=Zz 2 2 (MW (cl n))
def Jd(cl:ZO):CS :=
 (ZV (ZJ (ZW WY (ZW ZQ (ZY 0) (ZX (.int 7919))) (ZX (.int 2147483647))) (gN 0))
  (ZV (ZG (ZW WY (ZW ZQ (ZW ZQ (ZW V0 (ZY 0) (ZY 0)) (ZW V0 (ZX (.int 48271)) (ZY 0))) (ZX (.int 12345))) (ZX (.int 2147483629))))
  ZL))
def D3(cl:Nat->ZO):Prop:=∀n,cl (n+1) "_law_next"=Zz 1 1 (Jd (cl n))
def Jc(cl:ZO):CS :=
 (ZV (ZJ (ZT U7 (ZS [(ZY 0),(ZW (YZ λi j=>i - j) (ZX (.int 0)) (ZY 0))])) (gN 1))
  (ZV (ZG (Zv (ZS [(ZY 1),(ZT VM (ZS [(ZW (Y1 λi j=>decide (j<=i)) (ZY 1) (ZW Va (ZX (.int 10)) (ZX (.int 18))))])),(ZW WY (ZY 1) (ZX (.int 1000003)))])))
  ZL))
def mq(cl:Nat->ZO):Prop:=∀n,cl (n+1) "_law_pen_of"=Zz 1 2 (Jc (cl n))
def MV(cl:ZO):CS :=
 (ZV (Zj (Zn (ZW Ze (ZW ZI (ZY 0) (ZX (.int 1))) (ZX (.int 1)))) (ZV (ZJ (ZW WY (ZW ZI (ZY 0) (ZX (.int 0))) (ZY 1)) (gN 2))
  (ZV (ZJ (ZW Wi (ZW ZI (ZY 0) (ZX (.int 0))) (ZY 1)) (gS (ZY 0) (ZX (.int 0))))
  (ZV (ZG (ZY 2))
  ZL))) ZL)
  (ZV (ZJ (ZT (cl "_law_next") (ZS [(ZW ZQ (ZT (cl "_law_next") (ZS [(ZW ZI (ZY 0) (ZX (.int 2)))])) (ZX (.int 7)))])) (gS (ZY 0) (ZX (.int 2))))
  (ZV (ZG (ZW WY (ZW Wi (ZW ZI (ZY 0) (ZX (.int 2))) (ZX (.int 64))) (ZY 1)))
  ZL)))
def mm(cl:Nat->ZO):Prop:=∀n,cl (n+1) "_law_draw"=Zz 2 3 (MV (cl n))
def OW(cl:ZO):CS :=
 (ZV (ZJ (ZT (cl "_law_draw") (ZS [(ZY 0),(ZW (YZ λi j=>i - j) (ZY 2) (ZX (.int 1)))])) (gN 6))
  (ZV (ZJ (ZW ZQ (ZW ZQ (ZY 6) (ZX (.int 1))) (ZT (cl "_law_draw") (ZS [(ZY 0),(ZW (YZ λi j=>i - j) (ZW (YZ λi j=>i - j) (ZY 2) (ZX (.int 1))) (ZY 6))]))) (gN 7))
  (ZV (Wf (X9 "list" (XB Vt) (ZY 4) (ZS [(Zg (ZS [(ZY 6),(ZY 7),(ZT (cl "_law_draw") (ZS [(ZY 0),(ZY 1)])),(ZT (cl "_law_draw") (ZS [(ZY 0),(ZX (.int 2))]))]))])))
  ZL)))
def MU(cl:ZO):CS :=
 (ZV (ZJ (Zv (ZS [])) (gN 4))
  (ZV (Za (WV (ZS [(ZY 3)])) (gN 5) (OW cl))
  (ZV (ZG (Zg (ZS [(ZY 1),(ZY 2),(ZT V4 (ZS [(ZY 4)]))])))
  ZL)))
def ml(cl:Nat->ZO):Prop:=∀n,cl (n+1) "_law_drawn_net"=Zz 4 8 (MU (cl n))
def OV(cl:ZO):CS :=
 (ZV (Wf (X9 "list" (XB Vt) (ZY 1) (ZS [(ZW ZQ (ZW ZQ (ZW ZQ (ZW ZQ (ZW ZQ (ZT YW (ZS [(ZY 2)])) (ZX (.str (Str.ofString "-")))) (ZT YW (ZS [(ZY 3)]))) (ZX (.str (Str.ofString "/")))) (ZT YW (ZS [(ZY 4)]))) (ZW ZI (Zv (ZS [(ZX (.str (Str.ofString "-"))),(ZX (.str (Str.ofString "+")))])) (ZY 5)))])))
  ZL)
def MT(cl:ZO):CS :=
 (ZV (ZJ (Zv (ZS [(ZT YW (ZS [(ZW ZI (ZY 0) (ZX (.int 0)))])),(ZW ZQ (ZT YW (ZS [(ZW ZI (ZY 0) (ZX (.int 1)))])) (ZX (.str (Str.ofString ":"))))])) (gN 1))
  (ZV (Za (YI (Zs (ZW ZI (ZY 0) (ZX (.int 2)))) (Zm (ZW ZI (ZY 0) (ZX (.int 2))))) (gT [(gN 2),(gN 3),(gN 4),(gN 5)]) (OV cl))
  (ZV (ZG (X9 "str" W4 (ZX (.str (Str.ofString " "))) (ZS [(ZY 1)])))
  ZL)))
def D2(cl:Nat->ZO):Prop:=∀n,cl (n+1) "_law_net_text"=Zz 1 6 (MT (cl n))
def OU(cl:ZO):C :=
 (ZW ZI (ZX (.str (Str.ofString "abcdefghijklmnopqrstuvwxyz"))) (ZT (cl "_law_draw") (ZS [(ZY 1),(ZX (.int 26))])))
def MS(cl:ZO):CS :=
 (ZV (ZJ (X9 "str" W4 (ZX (.str (Str.ofString ""))) (ZS [(XW (WV (ZS [(ZW ZQ (ZX (.int 1)) (ZT (cl "_law_draw") (ZS [(ZY 0),(ZX (.int 8))])))])) 1 [0] .one (λ_=>ret Z7) (OU cl))])) (gN 2))
  (ZV (Zj (Zn (ZW Ze (ZY 1) (Zv (ZS [])))) (ZV (ZG (ZY 2))
  ZL) ZL)
  (ZV (ZJ (ZW ZI (ZY 1) (ZT (cl "_law_draw") (ZS [(ZY 0),(ZT Zt (ZS [(ZY 1)]))]))) (gN 3))
  (ZV (ZG (ZW ZI (Zv (ZS [(ZY 2),(ZY 2),(XY YH (ZW ZQ (ZY 3) (ZY 2)) XF (X3 (ZX (.int 8)))),(XY YH (ZY 3) XF (X3 (ZW ZQ (ZX (.int 1)) (ZT (cl "_law_draw") (ZS [(ZY 0),(ZT Zt (ZS [(ZY 3)]))])))))])) (ZT (cl "_law_draw") (ZS [(ZY 0),(ZX (.int 4))]))))
  ZL))))
def D1(cl:Nat->ZO):Prop:=∀n,cl (n+1) "_law_name"=Zz 2 4 (MS (cl n))
def DZ(cl:ZO):CS :=
 (ZV (TZ (UI (cl "Desk.say") (ZY 0) (ZS [(ZY 1)])))
  ZL)
def Jb(cl:Nat->ZO):Prop:=∀n,cl (n+1) "_law_said"=Zz 2 3 (DZ (cl n))
def QA(cl:ZO):C :=
 (ZW Ze (ZT (cl "_law_said") (ZS [(ZY 1),(ZW ZQ (ZX (.str (Str.ofString "show "))) (ZY 0))])) (ZT (cl "_law_net_text") (ZS [(ZW ZI (ZY 2) (ZY 0))])))
def MR(cl:ZO):CS :=
 (ZV (Zj (Zn (ZW Yh (ZT (cl "_law_said") (ZS [(ZY 0),(ZX (.str (Str.ofString "nets")))])) (X9 "str" W4 (ZX (.str (Str.ofString " "))) (ZS [(ZT Xe (ZS [(ZY 1)]))])))) (ZV (ZG (ZX (.bl Z5)))
  ZL) ZL)
  (ZV (ZG (ZT (W6 λbs=>bs.all id) (ZS [(RU 1 (XW (YI (Zs (ZY 1)) (Zm (ZY 1))) 1 [0,1] .one (λ_=>ret Z7) (QA cl)))])))
  ZL))
def mj(cl:Nat->ZO):Prop:=∀n,cl (n+1) "_law_stays"=Zz 2 2 (MR (cl n))
def MQ(cl:ZO):CS :=
 (ZV (ZJ (ZX (.str (Str.ofString "!\"#$&'()*+,-./0123456789:;<=>?@ABCDEFGHIJKLMNOPQRSTUVWXYZ[\\]^_`{|}~ "))) (gN 2))
  (ZV (ZJ (ZT (cl "_law_draw") (ZS [(ZY 0),(ZW ZQ (ZT Zt (ZS [(ZY 1)])) (ZX (.int 1)))])) (gN 3))
  (ZV (ZJ (Zv (ZS [(ZW ZQ (ZW ZQ (XY YH (ZY 1) XF (X3 (ZY 3))) (ZW ZI (ZY 2) (ZT (cl "_law_draw") (ZS [(ZY 0),(ZT Zt (ZS [(ZY 2)]))])))) (XY YH (ZY 1) (X3 (ZY 3)) XF)),(ZX (.str (Str.ofString ""))),(XY YH (ZW V0 (ZY 1) (ZX (.int 9))) XF (X3 (ZX (.int 9)))),(UL "str" RT (ZY 1))])) (gN 4))
  (ZV (ZJ (ZW ZI (ZY 4) (ZT (cl "_law_draw") (ZS [(ZY 0),(ZX (.int 4))]))) (gN 4))
  (ZV (ZJ (Zv (ZS [(ZW ZQ (ZX (.str (Str.ofString "show "))) (ZY 4)),(ZW ZQ (ZW ZQ (ZW ZQ (ZX (.str (Str.ofString "trim "))) (ZY 1)) (ZX (.str (Str.ofString " ")))) (ZY 4)),(ZW ZQ (ZW ZQ (ZW ZQ (ZX (.str (Str.ofString "about "))) (ZY 4)) (ZX (.str (Str.ofString " ")))) (ZY 1)),(ZW ZQ (ZW ZQ (ZX (.str (Str.ofString "net "))) (ZY 4)) (ZX (.str (Str.ofString " 1 2:"))))])) (gN 5))
  (ZV (ZJ (ZW ZQ (ZY 5) (Zv (ZS [(ZW ZQ (ZW ZQ (ZW ZQ (ZW ZQ (ZX (.str (Str.ofString "row "))) (ZY 1)) (ZX (.str (Str.ofString " ")))) (ZY 4)) (ZX (.str (Str.ofString " c")))),(ZW ZQ (ZW ZQ (ZW ZQ (ZX (.str (Str.ofString "cut "))) (ZY 1)) (ZX (.str (Str.ofString " 0 ")))) (ZY 4)),(ZW ZQ (ZW ZQ (ZW ZQ (ZW ZQ (ZX (.str (Str.ofString "side "))) (ZY 4)) (ZX (.str (Str.ofString " ")))) (ZY 1)) (ZX (.str (Str.ofString " c"))))]))) (gN 5))
  (ZV (ZG (ZW ZI (ZW ZQ (ZY 5) (Zv (ZS [(ZW ZQ (ZW ZQ (ZW ZQ (ZX (.str (Str.ofString "alike "))) (ZY 1)) (ZX (.str (Str.ofString " ")))) (ZY 4)),(ZW ZQ (ZX (.str (Str.ofString "fewest "))) (ZY 4)),(ZW ZQ (ZX (.str (Str.ofString "ways "))) (ZY 4))]))) (ZT (cl "_law_draw") (ZS [(ZY 0),(ZX (.int 10))]))))
  ZL)))))))
def DY(cl:Nat->ZO):Prop:=∀n,cl (n+1) "_law_wrong"=Zz 2 6 (MQ (cl n))
def Rw(cl:ZO):C :=
 (ZT (cl "_law_said") (ZS [(ZY 1),(ZW ZQ (ZW ZQ (ZY 0) (ZY 2)) (ZX (.str (Str.ofString " c"))))]))
def OT(cl:ZO):CS :=
 (ZV (Zj (Zn (ZW Yh (XW (YI (Zs (Zg (ZS [(ZX (.str (Str.ofString "row p "))),(ZX (.str (Str.ofString "side q ")))]))) (Zm (Zg (ZS [(ZX (.str (Str.ofString "row p "))),(ZX (.str (Str.ofString "side q ")))])))) 1 [1,6] .one (λ_=>ret Z7) (Rw cl)) (ZW V0 (Zv (ZS [(ZX (.int 5))])) (ZX (.int 2))))) (ZV (ZG (ZX (.bl Z5)))
  ZL) ZL)
  ZL)
def MP(cl:ZO):CT :=
 (Zn (ZW (Ya Z7) (ZY 0) (ZY 1)))
def MO(cl:ZO):C :=
 (ZY 0)
def Ja(cl:ZO):CS :=
 (ZV (Zj (Zn (ZW Yh (ZT (cl "_law_said") (ZS [(ZY 1),(ZY 7)])) (ZX (.int 0)))) (ZV (ZG (ZX (.bl Z5)))
  ZL) ZL)
  ZL)
def I0(cl:ZO):CS :=
 (ZV (Zj (Zn (ZW Yh (ZT (cl "_law_said") (ZS [(ZY 1),(ZY 7)])) (ZX (.int 6)))) (ZV (ZG (ZX (.bl Z5)))
  ZL) ZL)
  ZL)
def OS(cl:ZO):CS :=
 (ZV (Zj (Zn (ZW Yh (ZT (cl "_law_said") (ZS [(ZY 1),(ZW ZQ (ZW ZQ (ZW ZQ (ZX (.str (Str.ofString "net "))) (ZY 6)) (ZX (.str (Str.ofString " ")))) (ZT (cl "_law_net_text") (ZS [(ZW ZI (ZY 5) (ZY 6))])))])) (ZX (.str (Str.ofString "ok"))))) (ZV (ZG (ZX (.bl Z5)))
  ZL) ZL)
  (ZV (ZJ (ZW ZI (ZY 5) (ZY 6)) (gS (ZY 2) (ZY 6)))
  ZL))
def MN(cl:ZO):CS :=
 (ZV (Xu 3 4 (ZW ZQ (ZX (.int 2)) (ZT (cl "_law_draw") (ZS [(ZY 0),(ZX (.int 3))]))) (ZW ZQ (ZX (.int 9)) (ZT (cl "_law_draw") (ZS [(ZY 0),(ZX (.int 8))]))))
  (ZV (ZJ (PC (ZX (.str (Str.ofString "p"))) (ZT (cl "_law_drawn_net") (ZS [(ZY 0),(ZX (.int 1)),(ZX (.int 2)),(ZY 4)])) (ZX (.str (Str.ofString "q"))) (ZT (cl "_law_drawn_net") (ZS [(ZY 0),(ZY 3),(ZX (.int 6)),(ZX (.int 1))]))) (gN 5))
  (ZV (ZJ (ZT (cl "_law_drawn_net") (ZS [(ZY 0),(ZY 3),(ZX (.int 3)),(ZY 4)])) (gS (ZY 5) (ZX (.str (Str.ofString "r")))))
  (ZV (ZJ (ZT (cl "_law_drawn_net") (ZS [(ZY 0),(ZX (.int 1)),(ZX (.int 7)),(ZX (.int 1))])) (gS (ZY 5) (ZX (.str (Str.ofString "s")))))
  (ZV (Za (YI (Zs (ZY 5)) (Zm (ZY 5))) (gN 6) (OS cl))
  (ZV (Za (YI (Zs (Zv (ZS [(ZX (.str (Str.ofString "row p r c"))),(ZX (.str (Str.ofString "side r p c"))),(ZX (.str (Str.ofString "row q s c"))),(ZX (.str (Str.ofString "side s q c"))),(ZX (.str (Str.ofString "row s q c")))]))) (Zm (Zv (ZS [(ZX (.str (Str.ofString "row p r c"))),(ZX (.str (Str.ofString "side r p c"))),(ZX (.str (Str.ofString "row q s c"))),(ZX (.str (Str.ofString "side s q c"))),(ZX (.str (Str.ofString "row s q c")))])))) (gN 7) (I0 cl))
  (ZV (Za (YI (Zs (Zv (ZS [(ZX (.str (Str.ofString "row p p c"))),(ZX (.str (Str.ofString "side s s c"))),(ZX (.str (Str.ofString "row q q c"))),(ZX (.str (Str.ofString "side r r c")))]))) (Zm (Zv (ZS [(ZX (.str (Str.ofString "row p p c"))),(ZX (.str (Str.ofString "side s s c"))),(ZX (.str (Str.ofString "row q q c"))),(ZX (.str (Str.ofString "side r r c")))])))) (gN 7) (Ja cl))
  (ZV (ZJ (XW (YI (Zs (Zv (ZS [(ZX (.str (Str.ofString "x"))),(ZX (.str (Str.ofString "yy"))),(ZX (.str (Str.ofString "zzz")))]))) (Zm (Zv (ZS [(ZX (.str (Str.ofString "x"))),(ZX (.str (Str.ofString "yy"))),(ZX (.str (Str.ofString "zzz")))])))) 1 [2] .one (MP cl) (MO cl)) (gN 8))
  (ZV (Za (YI (Zs (XY YH (ZY 8) XF (X3 (ZX (.int 1))))) (Zm (XY YH (ZY 8) XF (X3 (ZX (.int 1)))))) (gN 6) (OT cl))
  (ZV (ZG (ZT (cl "_law_stays") (ZS [(ZY 1),(ZY 2)])))
  ZL))))))))))
def DX(cl:Nat->ZO):Prop:=∀n,cl (n+1) "_law_unlike_right"=Zz 3 9 (MN (cl n))
def MM(cl:ZO):C :=
 (ZW ZQ (Zg (ZS [(ZW ZI (ZW ZI (ZY 1) (ZY 0)) (ZX (.int 0))),(ZW ZI (ZW ZI (ZY 1) (ZY 0)) (ZX (.int 1)))])) (XY YH (ZW ZI (ZY 2) (ZY 0)) (X3 (ZX (.int 2))) XF))
def ML(cl:ZO):C :=
 (ZT Xe (ZS [(XY YH (ZY 1) (X3 (ZY 0)) (X3 (ZW ZQ (ZY 0) (ZX (.int 2)))))]))
def OQ(cl:ZO):CS :=
 (ZV (Wf (X9 "list" (XB Vt) (ZY 4) (ZS [(Zg (ZS [(ZX (.int 0)),(ZX (.int 1)),(ZW ZI (ZY 2) (ZY 6)),(ZT (cl "_law_draw") (ZS [(ZY 0),(ZX (.int 2))]))]))])))
  ZL)
def MK(cl:ZO):CS :=
 (ZV (ZJ (Zv (ZS [(ZX (.int 0)),(ZX (.int 1)),(ZX (.int 2))])) (gN 2))
  (ZV (Wf (X9 "list" (XB Ta) (ZY 2) (ZS [(ZT (cl "_law_draw") (ZS [(ZY 0),(ZX (.int 3))])),(UL "list" (XB VL) (ZY 2))])))
  (ZV (ZJ (ZW ZQ (ZX (.int 1)) (ZT (cl "_law_draw") (ZS [(ZY 0),(ZX (.int 3))]))) (gN 3))
  (ZV (ZJ (Zv (ZS [])) (gN 4))
  (ZV (ZJ (ZX (.int 2)) (gN 5))
  (ZV (Za (WV (ZS [(ZY 3)])) (gN 6) (OQ cl))
  (ZV (Zj (Zn (ZW Ze (ZT (cl "_law_draw") (ZS [(ZY 0),(ZX (.int 2))])) (ZX (.int 0)))) (ZV (ZJ (ZW ZQ (ZY 3) (ZX (.int 1))) (gN 5))
  (ZV (ZJ (ZW ZQ (ZW ZQ (Zv (ZS [(ZX (.int 0))])) (ZT Wb (ZS [(ZX (.int 2)),(ZY 5)]))) (Zv (ZS [(ZX (.int 1))]))) (gN 7))
  (ZV (ZJ (XW (WV (ZS [(ZY 3)])) 1 [7] .one (λ_=>ret Z7) (ML cl)) (gN 8))
  (ZV (ZJ (XW (WV (ZS [(ZY 3)])) 1 [8,4] .one (λ_=>ret Z7) (MM cl)) (gN 4))
  ZL)))) ZL)
  (ZV (Zj (Zn (ZW Yh (ZT (cl "_law_said") (ZS [(ZY 1),(ZW ZQ (ZX (.str (Str.ofString "net g "))) (ZT (cl "_law_net_text") (ZS [(Zg (ZS [(ZX (.int 3)),(ZY 5),(ZT V4 (ZS [(ZY 4)]))]))])))])) (ZX (.str (Str.ofString "ok"))))) (ZV (ZG (ZX (.bl Z5)))
  ZL) ZL)
  (ZV (ZG (ZW Ze (ZT (cl "_law_said") (ZS [(ZY 1),(ZX (.str (Str.ofString "fewest g")))])) (ZT YW (ZS [(ZY 3)]))))
  ZL)))))))))
def DW(cl:Nat->ZO):Prop:=∀n,cl (n+1) "_law_fewest_right"=Zz 2 9 (MK (cl n))
def MJ(cl:ZO):CS :=
 (ZV (ZJ (ZT Xe (ZS [(ZY 5)])) (gN 9))
  (ZV (Zj (Zn (ZW Yh (ZT (cl "_law_said") (ZS [(ZY 4),(ZT (cl "_law_wrong") (ZS [(ZY 3),(ZW ZI (ZY 9) (ZT (cl "_law_draw") (ZS [(ZY 3),(ZT Zt (ZS [(ZY 9)]))])))]))])) (ZX (.int 6)))) (ZV (ZG (ZX (.bl Z5)))
  ZL) ZL)
  ZL))
def MI(cl:ZO):CS :=
 (ZV (ZJ (ZT (cl "_law_name") (ZS [(ZY 3),(ZT Xe (ZS [(ZY 5)]))])) (gN 7))
  (ZV (ZJ (ZT (cl "_law_drawn_net") (ZS [(ZY 3),(ZW ZQ (ZX (.int 1)) (ZT (cl "_law_draw") (ZS [(ZY 3),(ZX (.int 4))]))),(ZW ZQ (ZX (.int 2)) (ZT (cl "_law_draw") (ZS [(ZY 3),(ZX (.int 6))]))),(ZT (cl "_law_draw") (ZS [(ZY 3),(ZX (.int 6))]))])) (gN 8))
  (ZV (Zj (Zn (ZW Yh (ZT (cl "_law_said") (ZS [(ZY 4),(ZW ZQ (ZW ZQ (ZW ZQ (ZX (.str (Str.ofString "net "))) (ZY 7)) (ZX (.str (Str.ofString " ")))) (ZT (cl "_law_net_text") (ZS [(ZY 8)])))])) (ZX (.str (Str.ofString "ok"))))) (ZV (ZG (ZX (.bl Z5)))
  ZL) ZL)
  (ZV (ZJ (ZY 8) (gS (ZY 5) (ZY 7)))
  (ZV (Zj (XC (Y2 (ZT (cl "_law_stays") (ZS [(ZY 4),(ZY 5)])))) (ZV (ZG (ZX (.bl Z5)))
  ZL) ZL)
  ZL)))))
def OP(cl:ZO):CS :=
 (ZV (ZJ (ZT (cl "_law_pen_of") (ZS [(ZY 2)])) (gN 3))
  (ZV (ZJ Px (gN 4))
  (ZV (ZJ RJ (gN 5))
  (ZV (Za (WV (ZS [(ZW ZQ (ZX (.int 3)) (ZT (cl "_law_draw") (ZS [(ZY 3),(ZX (.int 5))])))])) (gN 6) (MI cl))
  (ZV (Za (WV (ZS [(ZX (.int 6))])) (gN 6) (MJ cl))
  (ZV (Zj (Yb (XC (Y2 (ZT (cl "_law_stays") (ZS [(ZY 4),(ZY 5)])))) (XC (Y2 (ZT (cl "_law_unlike_right") (ZS [(ZY 3),(ZY 4),(ZY 5)]))))) (ZV (ZG (ZX (.bl Z5)))
  ZL) ZL)
  (ZV (Zj (Tf (Zn (ZW Ze (ZY 1) (ZX (.int 0)))) (XC (Y2 (ZT (cl "_law_fewest_right") (ZS [(ZY 3),(ZY 4)]))))) (ZV (ZG (ZX (.bl Z5)))
  ZL) ZL)
  ZL)))))))
def OO(cl:ZO):CS :=
 (ZV (Za (NF (ZS [(ZW ZQ (Zv (ZS [(ZT (cl "_law_cell_at") (ZS [(ZY 0),(ZX (.int 0))]))])) (XY YH (ZY 0) (X3 (ZX (.int 1))) (X3 (ZX (.int 4)))))])) (gT [(gN 1),(gN 2)]) (OP cl))
  (ZV (ZG (ZX (.bl Z7)))
  ZL))
def mi(cl:Nat->ZO):Prop:=∀n,cl (n+1) "law"=Zz 1 10 (OO (cl n))
def Tz(cl:ZO):CS :=
 (ZV (Zj (Zn (ZW YE (ZY 3) (ZY 1))) (ZV (Zj (Zn (ZW (Ya Z7) (ZW ZI (ZY 1) (ZY 3)) (Xw U4 (ZY 0)))) (ZV (WM "NoName")
  ZL) ZL)
  (ZV (ZJ (ZW ZI (Xw U4 (ZY 0)) (ZW ZI (ZY 1) (ZY 3))) (gS (ZY 2) (ZY 3)))
  ZL)) ZL)
  ZL)
def ON(cl:ZO):CS :=
 (ZV (ZJ (ZT Vr (ZS [(ZY 1)])) (gN 2))
  (ZV (Za (YI (Zs (Zg (ZS [(ZX (.str (Str.ofString "A"))),(ZX (.str (Str.ofString "B")))]))) (Zm (Zg (ZS [(ZX (.str (Str.ofString "A"))),(ZX (.str (Str.ofString "B")))])))) (gN 3) (Tz cl))
  (ZV (ZG (ZY 2))
  ZL)))
def DV(cl:Nat->ZO):Prop:=∀n,cl (n+1) "Desk.with_nets"=Zz 2 4 (ON (cl n))
def Wa(cl:ZO):CS :=
 (ZV (TH (YF (cl "words_of") (ZS [(ZY 1)])) (gN 2))
  (ZV (TH (TQ (cl "Desk.with_nets") (ZY 0) (YF (cl "line_read") (ZS [(ZY 2)]))) (gN 3))
  (ZV (RX (YF (cl "refuse_unfit") (ZS [(ZY 3)])))
  (ZV (Zj (Zn (ZW Ze (ZW ZI (ZY 2) (ZX (.int 0))) (ZX (.str (Str.ofString "nets"))))) (ZV (ZG (X9 "str" W4 (ZX (.str (Str.ofString " "))) (ZS [(ZT Xe (ZS [(Xw U4 (ZY 0))]))])))
  ZL) ZL)
  (ZV (Zj (Zn (ZW YE (ZX (.str (Str.ofString "N"))) (ZY 3))) (ZV (TH (YF (cl "net_made") (ZS [(ZW ZI (ZY 2) (ZX (.int 0))),(ZY 3)])) (gS (Xw U4 (ZY 0)) (ZW ZI (ZY 3) (ZX (.str (Str.ofString "N"))))))
  (ZV (ZG (ZX (.str (Str.ofString "ok"))))
  ZL)) ZL)
  (ZV (ZG (ZT (cl "answer") (ZS [(ZW ZI (ZY 2) (ZX (.int 0))),(ZY 3)])))
  ZL))))))
def mh(cl:Nat->ZO):Prop:=∀n,cl (n+1) "Desk.say"=Zz 2 4 (Wa (cl n))
variable {cl:Nat->ZO}
theorem mf(h:D4 cl)(n:Nat)(ns:yA)(k:Int)(hk:0<=k)(S:ZU):∃c,cl (n+1) "_law_cell_at" [.rol (ns.map D.int),.int k] S=.ok (.int c) S:=by
 by_cases a:k<ns.length
 .refine⟨ns[k.toNat]'(by lia),?_⟩;have e:=by have q:=WO (xs:=ns.map D.int) (j:=k.toNat) (by rw[qC1,qA7 (by lia)];rfl);rw[show(k.toNat:Int)=k by lia]at q;exact q
  rw[h];refine YT rfl ?_;simp[MW,Yu,a,e]
 .refine⟨0,?_⟩;rw[h];refine YT rfl ?_;simp[MW,Yu,a]
theorem DU(a:-18446744073709551616<j)(b:j<18446744073709551616):Tc i j=Z7:=by unfold Tc;simp[a,b]
@[simp]theorem aE:V6 2 0=Z9 0:=rfl
structure Ct where
 a:Int
 b:Int
 k:Int
 o:Int
 deriving DecidableEq
abbrev yN:=List Ct
def Ct.d(c:Ct):D:=.tup [.int c.a,.int c.b,.int c.k,.int c.o]
def Ct.ok(sw pl:Int)(c:Ct):Prop:=0<=c.a/\c.a<c.b/\c.b<pl/\0<=c.k/\c.k<sw/\0<=c.o/\c.o<2
structure Zc where
 sw:Int
 pl:Int
 cs:yN
def Zc.d(n:Zc):D:=.tup [.int n.sw,.int n.pl,.tup (n.cs.map Ct.d)]
structure Zc.ok(ms mp mc:Int)(n:Zc):Prop where
 s1:1<=n.sw
 s2:n.sw<=ms
 p1:2<=n.pl
 p2:n.pl<=mp
 c1:(n.cs.length:Int)<=mc
 c2:∀c∈n.cs,c.ok n.sw n.pl
def Tx(n:Int):yA:=[0]++((List.range (n - 2).toNat).map fun(k:Nat)=>(2:Int)+(k:Nat))++[1]
theorem Vp(lo:Int)(n:Nat):(Y7 lo n).length=n:=by unfold Y7;simp
theorem X6:lim=1048576:=rfl
theorem me(g:B[j]?=Z9 (Z9 (.int n)))(h:2<=n)(i:n<=7)(S:ZU):∃k S1,ZW ZQ (ZW ZQ (Zv (ZS [(ZX (.int 0))])) (ZT Wb (ZS [(ZX (.int 2)),(ZY j)]))) (Zv (ZS [(ZX (.int 1))])) B S=.ok (.lst k) S1/\Ex S S1/\S.length<=k/\ZC S1 k=Z9 ((Tx n).map D.int):=by
 have b:Wb [.int 2,.int n] (S++[O.lst [D.int 0]])=.ok (.lst (S++[O.lst [D.int 0]]).length) (S++[O.lst [D.int 0]]++[.lst (Y7 2 (n - 2).toNat)]):=by unfold Wb;dsimp only;rw[if_pos (by lia)]
 generalize hA:S++[O.lst [D.int 0]]++[O.lst (Y7 2 (n - 2).toNat)]=A at b;have e:ZC A S.length=Z9 [.int 0]:=by rw[<- hA];exact O6 (Y9 _ _)
 have c:ZC A (S++[O.lst [D.int 0]]).length=Z9 (Y7 2 (n - 2).toNat):=by rw[<- hA];exact Y9 _ _
 have a:=QH e c (by rw[Vp,X6];simp;lia);generalize hB:A++[O.lst ([D.int 0]++Y7 2 (n - 2).toNat)]=BB at a;have d:ZC (BB++[O.lst [D.int 1]]) A.length=Z9 ([D.int 0]++Y7 2 (n - 2).toNat):=by rw[<- hB];exact O6 (Y9 _ _)
 have f:=QH d (Y9 BB [D.int 1]) (by rw[qC4,Vp,X6];simp;lia);refine⟨(BB++[O.lst [D.int 1]]).length,(BB++[O.lst [D.int 1]])++[O.lst ([D.int 0]++Y7 2 (n - 2).toNat++[D.int 1])],?_,?_,?_,?_⟩
 .simp only[oY,oU,oW,oX,oZ,Xy,oV,o5,g,b,a,f]
 .have:Ex S A:=by rw[<- hA];exact(Zk _ _).trans (Zk _ _)
  have:Ex S BB:=by rw[<- hB];exact this.trans (Zk _ _)
  exact(this.trans (Zk _ _)).trans (Zk _ _)
 .rw[qC4,<- hB,qC4,<- hA];simp;lia
 .rw[Y9];congr 1;unfold Tx Y7;simp
theorem _root_.Lake.Kp.setNew{P:Nat->Prop}{S0 S:ZU}{l:Nat}{o:O}(h:Kp P S0 S)(b:S0.length<=l):Kp P S0 (S.set l o) :=
 ⟨by rw[qG0];exact h.le,λj a n=>by rw[qC9 (by lia)];exact h.eq j a n⟩
@[simp]theorem Qz:(Y7 lo n)[i]?=Z9 d↔i<n/\d=.int (lo+i):=by
 unfold Y7;rw[qC1];by_cases h:i<n
 .rw[qM2 h];simp[h,eq_comm]
 .simp[h]
def kd(S:ZU)(d:D):Prop:=∃t,KH S d=Z9 t
theorem DT{w:XX}{t:XA}{c:C}{B0:ZR}(P:List D->ZU->Prop)(b:∀l S,P l S->Ye w S):∀(items:List D) (acc:List D) {S:ZU},P acc S ->
  (∀d∈items,∀acc S,P acc S->∃e,Wu t d B0=Z9 e/\∃y S1,c e S=.ok y S1/\P (acc++[y]) S1)->∃ds a,Yz w t (λ_=>ret Z7) c B0 items S=.ok ds a/\ds.length=items.length/\P (acc++ds) a
 |[],acc,S,h0,hs=>⟨[],S,by unfold Yz;rw[if_pos (b _ S h0)],rfl,by rw[qD6];exact h0⟩
 |d::ds,acc,S,h0,hs=>by obtain⟨e,g,y,S1,m,k⟩:=hs d (by simp) acc S h0;obtain⟨i,a,n,j,f⟩:=DT P b ds (acc++[y]) k λh o=>hs h (by simp[o]);unfold Yz;rw[if_pos (b _ S h0),g];dsimp only;rw[Xs,Eo,Xy,if_pos rfl,Xs,m,Xy,Xs,n,Xy];exact⟨y::i,a,rfl,by rw[qB6,qB6,j],by rw[qD8]at f;exact f⟩
def SN:D->Bool
 |.int i=>decide (0<=i)&&decide (i<=1)
 |_=>Z5
def Vo:D->Bool
 |.int _=>Z7
 |_=>Z5
def Rv(d:D):Prop:=(Xv d).isSome=Z7
theorem MH(h:OZ cl)(n:Nat)(a:Rv d)(S:ZU):cl (n+1) "is_whole" [d] S=.ok (.bl (Vo d)) S:=by
 rw[h];refine YT rfl ?_;cases d with
 |int i=>simp[QG,Yu,Vo]
 |bl b=>simp[QG,Yu,Vo]
 |non=>simp[QG,Yu,Vo]
 |str x=>simp[QG,Yu,Vo]
 |_=>cases a
theorem md(h:M9 cl)(f:OZ cl)(n:Nat)(a:Rv d)(S:ZU):cl (n+2) "is_bit" [d] S=.ok (.bl (SN d)) S:=by
 have e:=MH f n a S;rw[show n+2=(n+1)+1 from rfl,h];refine YT rfl ?_;cases d with
 |int i =>
  by_cases c:0<=i
  .simp[RA,Yu,e,Vo,SN,c]
  .simp[RA,Yu,e,Vo,SN,c]
 |bl b=>simp[RA,Yu,e,Vo,SN]
 |non=>simp[RA,Yu,e,Vo,SN]
 |str x=>simp[RA,Yu,e,Vo,SN]
 |_=>cases a
theorem DS:∀l:List Bool,Wh (l.map D.bl)=Z9 l
 |[]=>rfl
 |b::r=>by show(Wh (r.map D.bl)).map (b::·)=_;rw[DS r];rfl
theorem DR(h:ZC S k=Z9 (l.map D.bl))(g:List Bool->Bool):W6 g [.lst k] S=.ok (.bl (g l)) S:=by show(match (ZC S k).bind Wh with|some bs=>R.ok (D.bl (g bs)) S|none=>.bad)=_;rw[h];show(match Wh (l.map D.bl)with|some bs=>R.ok (D.bl (g bs)) S|none=>.bad)=_;rw[DS]
theorem MG(i:Int):Rv (.int i):=rfl
theorem lX(h:Jq cl)(r:M9 cl)(g:OZ cl)(n:Nat){c:Ct}(ok:c.ok sw pl)(S:ZU):Xb (cl (n+3) "is_contact" [.int sw,.int pl,c.d] S) ((.bl Z7)) S:=by
 obtain⟨t,v,u,p,o,w,x⟩:=ok;have q:Yz [] .one (λ_=>ret Z7) (M8 (cl (n+2))) [Z8] ([c.a,c.b,c.k,c.o].map D.int) S=.ok ([c.a,c.b,c.k,c.o].map λ_=>D.bl Z7) S:=by
  refine O5 D.int (XJ _) _ _ λy s=>⟨_,rfl,?_⟩
  have:=MH g (n+1) (MG y) S;simp[M8,this,Vo]
 have b:Yz [] .one (λ_=>ret Z7) (M8 (cl (n+2))) [Z8] [.int c.a,.int c.b,.int c.k,.int c.o] S=.ok [.bl Z7,.bl Z7,.bl Z7,.bl Z7] S:=q;have f:W6 (λbs=>bs.all id) [.lst S.length] (S++[.lst [.bl Z7,.bl Z7,.bl Z7,.bl Z7]])=.ok (.bl Z7) (S++[.lst [.bl Z7,.bl Z7,.bl Z7,.bl Z7]]):=DR (l:=[Z7,Z7,Z7,Z7]) (Y9 S _) _;have d:=Zk S [O.lst [.bl Z7,.bl Z7,.bl Z7,.bl Z7]];generalize hS1:S++[O.lst [.bl Z7,.bl Z7,.bl Z7,.bl Z7]]=S1 at f d;have e:=md r g n (MG c.o) S1;have k:SN (.int c.o)=Z7:=by simp[SN];lia
 rw[k]at e;have m:4<lim:=by decide
 have a:PL (Y1 λi j=>decide (i<=j)) U8 U8 (ZX (.int 0)) (ZW ZI (ZY 2) (ZX (.int 0))) (ZW ZI (ZY 2) (ZX (.int 1))) (ZY 1) [Z9 (.int sw),Z9 (.int pl),Z9 (.tup [.int c.a,.int c.b,.int c.k,.int c.o])] S1=.ok Z7 S1:=by
  unfold PL
  simp_all
 refine⟨S1,?_,d⟩;rw[show n+3=(n+2)+1 from rfl,h];refine YT rfl ?_;simp[Jr,Yu,Ct.d,b,m,hS1,f,a,p,o,e]
theorem lT(h:Eb cl)(A:Jq cl)(w:M9 cl)(i:OZ cl)(n:Nat){N:Zc}(ok:N.ok 4 7 16)(S:ZU):Xb (cl (n+4) "is_net" [N.d] S) ((.bl Z7)) S:=by
 have y:=ok.s1;have r:=ok.s2;have u:=ok.p1;have s:=ok.p2;have B:=ok.c1;have m:=MH i (n+2) (MG N.sw) S;have k:=MH i (n+2) (MG N.pl) S;obtain⟨d,l,o⟩:=Jw Ct.d (t:=.one) (c:=Jp (cl (n+3))) (B0:=[Z8,Z9 (.int N.sw),Z9 (.int N.pl)]) (λa=>Ex S a) (λa x=>XJ _) (λ_=>.bl Z7) N.cs (Kp.refl _ _)
  (λc j a x=>by
   obtain⟨f,v,b⟩:=lX A w i n (ok.c2 c j) a;refine⟨_,rfl,f,?_,x.trans b⟩;simp[Jp,v])
 have p:N.cs.map (λ_=>D.bl Z7)=(N.cs.map λ_=>Z7).map D.bl:=by rw[qE1];rfl
 rw[p]at l;have g:=DR (Y9 d ((N.cs.map λ_=>Z7).map D.bl)) (λbs=>bs.all id);have z:((N.cs.map λ_=>Z7).all id)=Z7:=by simp
 rw[z]at g;have b:=Zk d [O.lst ((N.cs.map λ_=>Z7).map D.bl)];generalize hS3:d++[O.lst ((N.cs.map λ_=>Z7).map D.bl)]=f at g b;have q:(N.cs.map Ct.d).length<lim:=by rw[qA6,X6];lia
 have e:¬((16:Int)<((N.cs.map Ct.d).length:Nat)):=by rw[qA6];lia
 refine⟨f,?_,o.trans b⟩;rw[show n+4=(n+3)+1 from rfl,h];refine YT rfl ?_;unfold Zc.d;generalize N.cs.map Ct.d=CS at *;simp only[Vo]at m k;generalize (N.cs.map λ_=>Z7).map D.bl=BB at *;simp[Jo,Yu,m,k,y,r,u,s,e,q,l,hS3,g]
abbrev yM:=List D
abbrev Zc.g(N:Zc):Prop:=N.ok 4 7 16
theorem DQ:(1000:Nat)<lim:=by decide
theorem IZ{ys:yM}(h:ZC S n=Z9 ys)(a:ys.length<lim):XB Vt (.lst n) [x] S=.ok .non (S.set n (.lst (ys++[x]))):=by rw[Jx h,oP,if_pos a]
end Internal
namespace Tactic
open PySem
def Ym(n:Nat):Str:=⟨#[48+n]⟩
theorem DP{i:Int}(b:0<=i)(a:i<10):i=0∨i=1∨i=2∨i=3∨i=4∨i=5∨i=6∨i=7∨i=8∨i=9:=by lia
theorem DO{i:Int}(b:0<=i)(a:i<10):Str.ofString (toString i)=Ym i.toNat:=by rcases DP b a with rfl|rfl|rfl|rfl|rfl|rfl|rfl|rfl|rfl|rfl<;>decide
theorem lJ(b:0<=i)(a:i<10):Txt.find (Str.ofString "0123456789") (Ym i.toNat)=i:=by rcases DP b a with rfl|rfl|rfl|rfl|rfl|rfl|rfl|rfl|rfl|rfl<;>decide
def Tw(c:Nat):List (List Nat)->List Nat
 |[]=>[]
 |[x]=>x
 |x::y::r=>x++c::Tw c (y::r)
theorem ME(c:Nat):∀ws:yH,(Str.join ⟨#[c]⟩ ws).cps.toList=Tw c (ws.map (·.cps.toList))
 |[]=>rfl
 |[x]=>rfl
 |x::y::r=>by show((x.cps++#[c])++(Str.join ⟨#[c]⟩ (y::r)).cps).toList=_;rw[fZ,fZ,ME c (y::r)];simp[Tw]
theorem DN{c:Nat}{A d:List Nat}:∀{x y:List Nat},c∉x->c∉y->x++c::A=y++c::d->x=y/\A=d
 |[],[],_,_,h=>⟨rfl,by simpa using h⟩
 |[],b::y,_,hy,h=>by simp only[qF1,qH5,qH4.injEq]at h;exact absurd (by rw[h.1];exact qD1) hy
 |a::x,[],hx,_,h=>by simp only[qF1,qH5,qH4.injEq]at h;exact absurd (by rw[h.1];exact qD1) hx
 |a::x,b::y,hx,hy,h=>by simp only[qH5,qH4.injEq]at h;obtain⟨f,e⟩:=DN (λz=>hx (qC5 _ z)) (λz=>hy (qC5 _ z)) h.2;exact⟨by rw[h.1,f],e⟩
theorem DM{c:Nat}:∀{us ws:List (List Nat)},us≠[]->ws≠[]->(∀u∈us,c∉u)->(∀w∈ws,c∉w)->Tw c us=Tw c ws->us=ws
 |[],_,h,_,_,_,_=>absurd rfl h
 |_,[],_,h,_,_,_=>absurd rfl h
 |[u],[w],_,_,_,_,h=>by rw[show u=w from h]
 |[u],w::a::r,_,_,hu,_,h=>by have:u=w++c::Tw c (a::r):=h;exact absurd (by rw[this];simp) (hu u qD1)
 |u::d::r,[w],_,_,_,hw,h=>by have:u++c::Tw c (d::r)=w:=h;exact absurd (by rw[<- this];simp) (hw w qD1)
 |u::d::us,w::a::ws,_,_,hu,hw,h=>by obtain⟨f,e⟩:=DN (hu u qD1) (hw w qD1) h;have:=DM (us:=d::us) (ws:=a::ws) (by simp) (by simp) (λz b=>hu z (qC5 _ b)) (λz b=>hw z (qC5 _ b)) e;rw[f,this]
theorem ly(x y:Str):Txt.split x y≠[]:=by
 unfold Txt.split;split
 .simp
 .split
  .simp
  .rw[StrLaws.partsBetween_eq];obtain⟨p,r,e⟩:=StrLaws.partsFrom_ne x y.length 0 (Builtin.Str.occurrences x y 0 x.length (x.length+1));rw[e];simp
theorem OM{a b:Str}(h:a.cps.toList=b.cps.toList):a=b:=Str.ext' (Array.toList_inj.mp h)
theorem DK{ws:yH}(g:ws≠[])(i:∀w∈ws,c∉w.cps.toList):Txt.split (Str.join ⟨#[c]⟩ ws) ⟨#[c]⟩=ws:=by
 have h:=congrArg (λs:Str=>s.cps.toList) (StrLaws.join_split (Str.join ⟨#[c]⟩ ws) ⟨#[c]⟩);rw[ME,ME]at h;have j:=DM (by simpa using ly _ _) (by simpa using g) (λu d=>by
  obtain⟨p,f,rfl⟩:=qF4.mp d;exact StrLaws.split_free _ c p f) (λu d=>by
  obtain⟨p,f,rfl⟩:=qF4.mp d;exact i p f) h
 exact(List.map_inj_right λa b e=>OM e).mp j
open Builtin Builtin.Str in
theorem DJ(h:2<=(Txt.split x y).length):(partsBetween x (occurrences x y 0 x.length (x.length+1)) y.length).length=(Txt.split x y).length:=by
 unfold Txt.split at h ⊢;split at h
 .simp at h
 .rename_i b;split at h
  .simp at h
  .rename_i a;rw[if_neg b,if_neg a]
theorem MD{ws:yH}(h:(ws.map (·.length)).sum+ws.length*a.length<=100000):dI a ws=Z7:=by
 unfold dI Builtin.Str.tooLong;have e:=StrLaws.joinTotal a ws;have:¬(ws.toArray.foldl (·+·.length+a.length) 0)>sizeLine:=by rw[show ws.toArray.foldl (·+·.length+a.length) 0=_ from e,vY];lia
 rw[decide_eq_false this];rfl
end Tactic
namespace Internal
open PySem Lake Tactic
variable {cl:Nat->ZO}
def YV(c:Ct):Str:=⟨#[48+c.a.toNat,45,48+c.b.toNat,47,48+c.k.toNat,if c.o=1 then 43 else 45]⟩
def Xr(N:Zc):Str:=⟨#[48+N.pl.toNat,58]⟩
def Yf(N:Zc):yH:=Ym N.sw.toNat::Xr N::N.cs.map YV
def bk:Str:=⟨#[32]⟩
def YC(N:Zc):Str:=Txt.join bk (Yf N)
theorem MC:Str.ofString " "=bk:=rfl
theorem DI:∀ws:yH,Pz (ws.map D.str)=Z9 ws
 |[]=>rfl
 |w::ws=>by show(Pz (ws.map D.str)).map (w::·)=_;rw[DI ws];rfl
theorem OL{ws:yH}(h:ZC S k=Z9 (ws.map D.str))(ok:dI z ws=Z7):W4 (.str z) [.lst k] S=.ok (.str (Txt.join z ws)) S:=by unfold W4;dsimp only;rw[VZ h];dsimp only;rw[DI];dsimp only;rw[if_pos ok]
theorem OK(b:0<=i)(a:i<10)(S:ZU):YW [.int i] S=.ok (.str (Ym i.toNat)) S:=by
 have:YW [.int i] S=if i.natAbs<1000000000000000000 then .ok (.str (Str.ofString (toString i))) S else .bad:=rfl
 rw[this,if_pos (by lia),DO b a]
theorem OJ(b:0<=i)(c:i<10)(h:a B S=.ok (.int i) S):YK a B S=.ok (.str (Ym i.toNat)) S:=by unfold YK;rw[Xs,h];show(if i.natAbs<1000000000000000000 then R.ok (D.str (Str.ofString (toString i))) S else .bad)=_;rw[if_pos (by lia),DO b c]
theorem lx(b:z.length<=lim)(h:a B S=.ok (.str z) S):YK a B S=.ok (.str z) S:=by unfold YK;rw[Xs,h];show(if z.length<=lim then R.ok (D.str z) S else .bad)=_;rw[if_pos b]
theorem IY{B:ZR}{S:ZU}:∀(a:List C) (ys:yH) (acc:Str),a.map (λc=>c B S)=ys.map (λy=>.ok (.str y) S)->acc.length+(ys.map (·.length)).sum<=lim->V2 a acc B S=.ok (.str (ys.foldl (·++·) acc)) S
 |[],[],acc,_,hl=>by unfold V2;rw[if_pos (by simpa using hl)];rfl
 |[],_::_,_,h,_=>by cases h
 |_::_,[],_,h,_=>by cases h
 |c::a,y::ys,acc,h,hl=>by rw[qB2,qB2,qH4.injEq]at h;have e:(acc++y).length=acc.length+y.length:=Str.length_append acc y;rw[qB2,qE5]at hl;unfold V2;rw[Xs,h.1];show(if(acc++y).length<=lim then V2 a (acc++y) B S else .bad)=_;rw[if_pos (by lia),IY a ys (acc++y) h.2 (by lia)];rfl
structure Cg(c:Ct):Prop where
 a:0<=c.a/\c.a<10
 b:0<=c.b/\c.b<10
 k:0<=c.k/\c.k<10
 o:c.o=0∨c.o=1
theorem IX{N:Zc}(ok:N.g)(a:c∈N.cs):Cg c:=by obtain⟨h,d,i,g,e,b,f⟩:=ok.c2 c a;have:=ok.p2;have:=ok.s2;exact⟨by lia,by lia,by lia,by lia⟩
def VA(o:Int):Str:=if o=1 then⟨#[43]⟩else⟨#[45]⟩
theorem IW(o:Int):(VA o).length=1:=by unfold VA;split<;>rfl
theorem lu(c:Ct):[Ym c.a.toNat,(⟨#[45]⟩:Str),Ym c.b.toNat,⟨#[47]⟩,Ym c.k.toNat,VA c.o].foldl (·++·) Str.empty=YV c:=by unfold VA YV Ym;split<;>rfl
theorem ls(c:ZO)(j:ZI d (.int 0) S=.ok (.int a) S)(l:ZI d (.int 1) S=.ok (.int b) S)(i:ZI d (.int 2) S=.ok (.int k) S)(h:ZI d (.int 3) S=.ok (.int o) S)(e:V2 [(YK (ZY 1)),(ZX (.str (Str.ofString "-"))),(YK (ZY 2)),(ZX (.str (Str.ofString "/"))),(YK (ZY 3)),(YK (ZY 4))] Str.empty [Z9 d,Z9 (.int a),Z9 (.int b),Z9 (.int k),Z9 (.str (VA o))] S=.ok (.str w) S):
  OY c [Z9 d,Z8,Z8,Z8,Z8] S=.rt (.str w) S:=by
 by_cases g:o=1
 .subst g;have f:VA 1=Str.ofString "+":=rfl;rw[f]at e;simp[OY,j,l,i,h,e]
 .have f:VA o=Str.ofString "-":=by unfold VA;rw[if_neg g];rfl
  rw[f]at e;simp[OY,j,l,i,h,g,e]
theorem lq(h:Jj cl)(n:Nat)(g:Cg c)(S:ZU):cl (n+1) "contact_text" [c.d] S=.ok (.str (YV c)) S:=by
 have d:c.d=.tup [.int c.a,.int c.b,.int c.k,.int c.o]:=rfl;rw[h];refine YT rfl (ls _ (a:=c.a) (b:=c.b) (k:=c.k) (o:=c.o) (by rw[d];simp) (by rw[d];simp) (by rw[d];simp) (by rw[d];simp) ?_);rw[IY _ [Ym c.a.toNat,(⟨#[45]⟩:Str),Ym c.b.toNat,⟨#[47]⟩,Ym c.k.toNat,VA c.o] Str.empty ?_ ?_,lu]
 .simp only[qB2,qF8];rw[OJ (i:=c.a) g.a.1 g.a.2 (by simp),OJ (i:=c.b) g.b.1 g.b.2 (by simp),OJ (i:=c.k) g.k.1 g.k.2 (by simp),lx (z:=VA c.o) (by rw[IW,X6];decide) (by simp)];rfl
 .simp only[qB2,qF8,qE5,List.sum_nil,IW];rw[X6];show 0+(1+(1+(1+(1+(1+(1+0))))))<=1048576;decide
def Vz(N:Zc):Str:=⟨#[48+N.sw.toNat,32,48+N.pl.toNat,58]⟩
theorem lj(N:Zc):[Ym N.sw.toNat,(⟨#[32]⟩:Str),Ym N.pl.toNat,⟨#[58]⟩].foldl (·++·) Str.empty=Vz N:=rfl
theorem lh(c:ZO){X:yM}{ws:yM}(n:∀S,ZI b (.int 0) S=.ok (.int sw) S)(f:∀S,ZI b (.int 1) S=.ok (.int pl) S)(e:∀S,ZI b (.int 2) S=.ok (.tup X) S)
  (d:V2 [(YK (ZY 1)),(ZX (.str (Str.ofString " "))),(YK (ZY 2)),(ZX (.str (Str.ofString ":")))] Str.empty [Z9 b,Z9 (.int sw),Z9 (.int pl)] S=.ok (.str a) S) (i:S++[O.lst [.str a]]=S1) (m:X.length<lim) (l:Yz [] .one (λ_=>ret Z7) (M4 c) [Z8] X S1=.ok ws S1) (k:S1++[O.lst ws]=S2) (g:ZQ (.lst S.length) (.lst S1.length) S2=.ok (.lst S2.length) (S2++[O.lst (.str a::ws)]))
  (j:W4 (.str (Str.ofString " ")) [.lst S2.length] (S2++[O.lst (.str a::ws)])=.ok (.str w) (S2++[O.lst (.str a::ws)])):M3 c [Z9 b,Z8,Z8] S=.rt (.str w) (S2++[O.lst (.str a::ws)]):=by have h:∀B:ZR,W5 1 [] B=[Z8]:=λ_=>rfl;simp[M3,n,f,e,d,i,h,m,l,k,g,j,YX]
theorem MB(c:Ct):(YV c).length=6:=rfl
theorem OI(a:yN):((a.map YV).map (·.length)).sum=6*a.length:=by
 induction a with
 |nil=>rfl
 |cons c a b=>rw[qB2,qB2,qE5,b,MB,qB6];lia
theorem DH(h:D8 cl)(s:Jj cl)(n:Nat)(ok:N.g)(S:ZU):Xb (cl (n+2) "net_text" [N.d] S) (.str (YC N)) S:=by
 have t:=ok.c1;have x:=ok.s1;have u:=ok.s2;have w:=ok.p1;have v:=ok.p2;obtain⟨S1,d⟩:∃S1,S++[O.lst [.str (Vz N)]]=S1:=⟨_,rfl⟩
 have k:V2 [(YK (ZY 1)),(ZX (.str (Str.ofString " "))),(YK (ZY 2)),(ZX (.str (Str.ofString ":")))] Str.empty [Z9 N.d,Z9 (.int N.sw),Z9 (.int N.pl)] S=.ok (.str (Vz N)) S:=by
  rw[IY _ [Ym N.sw.toNat,(⟨#[32]⟩:Str),Ym N.pl.toNat,⟨#[58]⟩] Str.empty ?_ ?_,lj]
  .simp only[qB2,qF8];rw[OJ (i:=N.sw) (by lia) (by lia) (by simp),OJ (i:=N.pl) (by lia) (by lia) (by simp)];rfl
  .rw[X6];show 4<=1048576;decide
 have p:Yz [] .one (λ_=>ret Z7) (M4 (cl (n+1))) [Z8] (N.cs.map Ct.d) S1=.ok ((N.cs.map YV).map D.str) S1:=by rw[qE1];exact O5 Ct.d (XJ S1) _ N.cs λc b=>⟨_,rfl,by simp[M4,lq s n (IX ok b) S1]⟩
 obtain⟨S2,a⟩:∃S2,S1++[O.lst ((N.cs.map YV).map D.str)]=S2:=⟨_,rfl⟩
 have l:ZC S2 S.length=Z9 [.str (Vz N)]:=by rw[<- a,<- d];exact O6 (Y9 _ _)
 have r:ZC S2 S1.length=Z9 ((N.cs.map YV).map D.str):=by rw[<- a];exact Y9 _ _
 have m:ZQ (.lst S.length) (.lst S1.length) S2=.ok (.lst S2.length) (S2++[O.lst (.str (Vz N)::(N.cs.map YV).map D.str)]):=by show(match S2[S.length]?,S2[S1.length]? with|some (.lst f),Z9 (.lst e)=>if f.length+e.length<=lim then R.ok (D.lst S2.length) (S2++[O.lst (f++e)])else .bad|_,_=>.bad)=_;rw[VZ l,VZ r];dsimp only;rw[if_pos (by simp[X6];lia)];rfl
 have j:W4 (.str (Str.ofString " ")) [.lst S2.length] (S2++[O.lst (.str (Vz N)::(N.cs.map YV).map D.str)])=.ok (.str (YC N)) (S2++[O.lst (.str (Vz N)::(N.cs.map YV).map D.str)]):=by
  have o:Txt.join (Str.ofString " ") (Vz N::N.cs.map YV)=YC N:=by unfold YC Yf Txt.join;rw[StrLaws.glued_eq_join,StrLaws.glued_eq_join,MC];exact StrLaws.join_shift bk (Ym N.sw.toNat) (Xr N) (N.cs.map YV)
  have g:dI (Str.ofString " ") (Vz N::N.cs.map YV)=Z7:=MD (by
   rw[qB2,qE5,OI,qB6,qA6,show(Vz N).length=4 from rfl,show(Str.ofString " ").length=1 from rfl]
   lia)
  have q:=OL (S:=S2++[O.lst (.str (Vz N)::(N.cs.map YV).map D.str)]) (ws:=Vz N::N.cs.map YV) (Y9 S2 _) g;rw[o]at q;exact q
 refine⟨S2++[O.lst (.str (Vz N)::(N.cs.map YV).map D.str)],?_,?_⟩
 .rw[show n+2=(n+1)+1 from rfl,h];exact YT rfl (lh _ (λS=>by simp[Zc.d]) (λS=>by simp[Zc.d]) (λS=>by simp[Zc.d]) k d (by rw[qA6,X6];lia) p a m j)
 .rw[<- a,<- d];exact((Zk _ _).trans (Zk _ _)).trans (Zk _ _)
theorem WJ(h:x.length+y.length<=1000)(S:ZU):ZQ (.str x) (.str y) S=.ok (.str (x++y)) S:=by show(if x.length+y.length<=lim then R.ok (D.str (x++y)) S else .bad)=_;rw[if_pos (by rw[X6];lia)]
def Qy:yM:=[.str (Str.ofString "-"),.str (Str.ofString "+")]
theorem IV(c:ZO){S S1 S2:ZU}(v:∀S,YW [.int a] S=.ok (.str j) S)(p:∀S,YW [.int b] S=.ok (.str e) S)(z:∀S,YW [.int k] S=.ok (.str n) S)(y:∀S,ZQ (.str j) (.str (Str.ofString "-")) S=.ok (.str i) S)(u:∀S,ZQ (.str i) (.str e) S=.ok (.str h) S)(x:∀S,ZQ (.str h) (.str (Str.ofString "/")) S=.ok (.str g) S)(r:∀S,ZQ (.str g) (.str n) S=.ok (.str f) S)
  (l:S++[O.lst Qy]=S1) (s:ZI (.lst S.length) (.int o) S1=.ok (.str d) S1) (A:∀S,ZQ (.str f) (.str d) S=.ok (.str w) S) (t:YX "list" (.lst q) S=Z7) (m:XB Vt (.lst q) [.str w] S1=.ok .non S2) :
  OV c [v0,Z9 (.lst q),Z9 (.int a),Z9 (.int b),Z9 (.int k),Z9 (.int o)] S=.nx [v0,Z9 (.lst q),Z9 (.int a),Z9 (.int b),Z9 (.int k),Z9 (.int o)] S2:=by unfold Qy at l;simp[OV,t,v,p,z,y,u,x,r,l,s,A,m]
theorem lg(c:ZO){X:yM}{S S1 S2:ZU}(n:∀S,ZI a (.int 0) S=.ok (.int sw) S)(h:∀S,ZI a (.int 1) S=.ok (.int pl) S)(g:∀S,ZI a (.int 2) S=.ok (.tup X) S)(i:∀S,YW [.int sw] S=.ok (.str d) S)(f:∀S,YW [.int pl] S=.ok (.str b) S)(l:∀S,ZQ (.str b) (.str (Str.ofString ":")) S=.ok (.str e) S)(m:S++[O.lst [.str d,.str e]]=S1)
  (k:Yr [] (gT [gN 2,gN 3,gN 4,gN 5]) (OV c) X [Z9 a,Z9 (.lst S.length),Z8,Z8,Z8,Z8] S1=.nx [Z9 a,Z9 (.lst S.length),v2,v3,v4,v5] S2) (t:YX "str" (.str (Str.ofString " ")) S2=Z7) (j:W4 (.str (Str.ofString " ")) [.lst S.length] S2=.ok (.str w) S2) :
  MT c [Z9 a,Z8,Z8,Z8,Z8,Z8] S=.rt (.str w) S2:=by simp[MT,n,h,g,i,f,l,m,k,t,j]
inductive lb(nd:D)(q:Nat)(S0:ZU)(N:Zc)(j:Nat)(B:ZR)(S:ZU):Prop
 |mk (v2 v3 v4 v5:Option D) (e:B=[Z9 nd,Z9 (.lst q),v2,v3,v4,v5]) (x:Ex S0 S) (l:ZC S q=Z9 ((Ym N.sw.toNat::Xr N::(N.cs.take j).map YV).map D.str))
theorem MA(h:D2 cl)(n:Nat)(ok:N.g)(S:ZU):Xb (cl (n+1) "_law_net_text" [N.d] S) (.str (YC N)) S:=by
 have J:=ok.c1;have P:=ok.s1;have K:=ok.s2;have M:=ok.p1;have L:=ok.p2;have R:=DQ;obtain⟨S1,p⟩:∃S1,S++[O.lst [.str (Ym N.sw.toNat),.str (Xr N)]]=S1:=⟨_,rfl⟩
 obtain⟨Q,S2,G,v,F,I,H,rfl,C,t⟩:=RB (w:=[]) (g:=gT [gN 2,gN 3,gN 4,gN 5]) (b:=OV (cl n)) (items:=N.cs.map Ct.d) (lb N.d S.length S N) (B:=[Z9 N.d,Z9 (.lst S.length),Z8,Z8,Z8,Z8]) (S:=S1)
  (λ_ _ _ _=>XJ _) ⟨Z8,Z8,Z8,Z8,rfl,p▸Zk _ _,by rw[<- p,Y9];rfl⟩
  (λj d B f r A=>by
   obtain⟨v,F,I,H,rfl,x,l⟩:=A;rw[qC1]at r;obtain⟨c,q,rfl⟩:=qA1.mp r;have g:=IX ok (qC2 q);have T:j<N.cs.length:=(qA3.mp q).1;obtain⟨T1,i⟩:∃T1,f++[O.lst Qy]=T1:=⟨_,rfl⟩
   have s:=(i▸Zk f [O.lst Qy]:Ex f T1).lst l λz=>z;have u:ZC T1 f.length=Z9 Qy:=by rw[<- i];exact Y9 _ _
   have E:ZI (.lst f.length) (.int c.o) T1=.ok (.str (VA c.o)) T1:=by rw[Xc u];rcases g.o with e|e<;>rw[e]<;>rfl
   have m:=IZ (x:=.str (YV c)) s (by rw[qA6,qB6,qB6,qA6,qD2];lia);have D:((((Ym c.a.toNat++(⟨#[45]⟩:Str))++Ym c.b.toNat)++(⟨#[47]⟩:Str))++Ym c.k.toNat)++VA c.o=YV c:=by unfold VA YV Ym;split<;>rfl
   refine⟨_,_,rfl,_,_,.inl (IV _ (a:=c.a) (b:=c.b) (k:=c.k) (o:=c.o) (OK g.a.1 g.a.2) (OK g.b.1 g.b.2) (OK g.k.1 g.k.2) (λS=>WJ (y:=⟨#[45]⟩) (by show 1+1<=1000;decide) S) (WJ (by show 2+1<=1000;decide)) (λS=>WJ (y:=⟨#[47]⟩) (by show 3+1<=1000;decide) S) (WJ (by show 4+1<=1000;decide)) i E (λS=>by rw[WJ (by rw[IW];show 5+1<=1000;decide),D]) (QI l) m),⟨_,_,_,_,rfl,?_,?_⟩⟩
   .exact(x.trans (i▸Zk f [O.lst Qy]:Ex f T1)).setNew (qA4 _)
   .rw[SU s,qN1,q];simp)
 rw[qA6,qK3]at t;have j:W4 (.str (Str.ofString " ")) [.lst S.length] S2=.ok (.str (YC N)) S2:=by
  rw[OL t (MD ?_)];rfl;rw[qB2,qB2,qE5,qE5,OI,qB6,qB6,qA6,show(Ym N.sw.toNat).length=1 from rfl,show(Xr N).length=2 from rfl,show(Str.ofString " ").length=1 from rfl]
  lia
 refine⟨S2,?_,C⟩;rw[h];exact YT rfl (lg _ (λS=>by simp[Zc.d]) (λS=>by simp[Zc.d]) (λS=>by simp[Zc.d]) (OK (by lia) (by lia)) (OK (by lia) (by lia)) (λS=>WJ (y:=⟨#[58]⟩) (by show 1+1<=1000;decide) S) p G rfl j)
theorem OH(h:Jh cl)(n:Nat)(a:0<=i)(b:i<10)(S:ZU):cl (n+1) "figure" [.str (Ym i.toNat)] S=.ok (.int i) S:=by
 rw[h];refine YT rfl ?_;have e:Py (.str (Str.ofString "0123456789")) [.str (Ym i.toNat)] S=.ok (.int i) S:=by show R.ok (D.int (Txt.find (Str.ofString "0123456789") (Ym i.toNat))) S=_;rw[lJ a b]
 generalize Ym i.toNat=z at *;simp[Ji,Yu,e,YX]
theorem OG(h:X0 z.cps.toList j=Z9 c)(a:z.length<=1000)(S:ZU):ZI (.str z) (.int j) S=.ok (.str ⟨#[c]⟩) S:=by show(match X0 z.cps.toList j with|some c=>if z.length<=lim then R.ok (D.str ⟨#[c]⟩) S else .bad|none=>.bad)=_;rw[h];dsimp only;rw[if_pos (by rw[X6];lia)]
theorem kZ(c:ZO)(n:ZI wd (.int 0) S=.ok (.str g) S)(l:ZI wd (.int 2) S=.ok (.str d) S)(j:ZI wd (.int 4) S=.ok (.str f) S)(p:ZI wd (.int 5) S=.ok (.str e) S)(i:c "figure" [.str g] S=.ok (.int a) S)(h:c "figure" [.str d] S=.ok (.int b) S)(m:c "figure" [.str f] S=.ok (.int k) S)(q:Ze (.str e) (.str (Str.ofString "+")) S=.ok (.bl o) S):
  M1 c [Z9 wd] S=.rt (.tup [.int a,.int b,.int k,.int (if o then 1 else 0)]) S:=by cases o<;>simp[M1,n,l,j,p,i,h,m,q]
theorem kY(h:D6 cl)(b:Jh cl)(n:Nat)(g:Cg c)(S:ZU):cl (n+2) "contact_read" [.str (YV c)] S=.ok c.d S:=by
 have d:c.d=.tup [.int c.a,.int c.b,.int c.k,.int c.o]:=rfl;have a:(YV c).length<=1000:=by rw[MB];decide
 have q:Ze (.str (⟨#[if c.o=1 then 43 else 45]⟩:Str)) (.str (Str.ofString "+")) S=.ok (.bl (decide (c.o=1))) S:=by show R.ok (D.bl (decide ((⟨#[if c.o=1 then 43 else 45]⟩:Str)=Str.ofString "+"))) S=_;rcases g.o with e|e<;>rw[e]<;>rfl
 have f:(if decide (c.o=1)=Z7 then(1:Int)else 0)=c.o:=by rcases g.o with e|e<;>rw[e]<;>rfl
 rw[show n+2=(n+1)+1 from rfl,h,d];have r:=kZ (cl (n+1)) (wd:=.str (YV c)) (OG (j:=0) rfl a S) (OG (j:=2) rfl a S) (OG (j:=4) rfl a S) (OG (j:=5) rfl a S) (OH b n g.a.1 g.a.2 S) (OH b n g.b.1 g.b.2 S) (OH b n g.k.1 g.k.2 S) q;rw[f]at r;exact YT rfl r
theorem IU(h:z.length<=1000)(S:ZU):Zt [.str z] S=.ok (.int (z.length:Int)) S:=by show(if z.length<=lim then R.ok (D.int (z.length:Int)) S else .bad)=_;rw[if_pos (by rw[X6];lia)]
theorem kX(c:ZO){X ws:yM}(f:Zt [.lst k] S=.ok (.int len) S)(l:¬len<2)(o:ZI (.lst k) (.int 0) S=.ok a S)(g:ZI (.lst k) (.int 1) S=.ok d S)(p:Zt [a] S=.ok (.int 1) S)(h:Zt [d] S=.ok (.int 2) S)(j:YH (.lst k) (Z9 2) Z8 S=.ok (.lst S.length) S1)(e:ZC S1 S.length=Z9 X)(n:X.length<lim)
  (m:Yz [(S.length,X)] .one (λ_=>ret Z7) (M2 c) [Z8] X S1=.ok ws S1) (b:W6 (λbs=>bs.all id) [.lst S1.length] (S1++[O.lst ws])=.ok (.bl Z7) (S1++[O.lst ws])) :
  Rz c [Z9 (.lst k)] S=.rt (.bl Z7) (S1++[O.lst ws]):=by have i:∀B:ZR,W5 1 [] B=[Z8]:=λ_=>rfl;simp[Rz,f,l,o,g,p,h,j,e,i,n,m,b]
theorem OF(a b:D)(r:yM):Yv (a::b::r) (Z9 2) Z8=r:=by have:=Jt (a::b::r) (k:=2) (by decide);rw[this];rfl
theorem DG:∀l:yH,Wh (l.map λ_=>D.bl Z7)=Z9 (l.map λ_=>Z7)
 |[]=>rfl
 |_::r=>by show(Wh (r.map λ_=>D.bl Z7)).map (_::·)=_;rw[DG r];rfl
theorem kW{l:yH}(h:ZC S n=Z9 (l.map λ_=>D.bl Z7)):W6 (λbs=>bs.all id) [.lst n] S=.ok (.bl Z7) S:=by
 unfold W6;dsimp only;rw[h];show(match Wh (l.map λ_=>D.bl Z7)with|some bs=>R.ok (D.bl (bs.all id)) S|none=>.bad)=_;rw[DG];have:(l.map λ_=>Z7).all id=Z7:=by rw[qI9];exact qB9.mpr λ_ _=>rfl
 dsimp only;rw[this]
theorem OE{r:yM}(l:ZC S k=Z9 (a::b::r)):ZI (.lst k) (.int 0) S=.ok a S/\ZI (.lst k) (.int 1) S=.ok b S:=by have c:=Xc l ((0:Nat):Int);have d:=Xc l ((1:Nat):Int);rw[WO (v:=a) rfl]at c;rw[WO (v:=b) rfl]at d;exact⟨c,d⟩
theorem kU(h:D7 cl)(n:Nat)(ok:N.g)(l:ZC S k=Z9 ((Yf N).map D.str)):∃S1,cl (n+1) "has_lengths_of_net" [.lst k] S=.ok (.bl Z7) S1/\Ex S S1:=by
 have j:=ok.c1;have g:(Yf N).map D.str=.str (Ym N.sw.toNat)::.str (Xr N)::(N.cs.map YV).map D.str:=rfl;rw[g]at l;have a:=QK l (Z9 2) Z8;rw[OF]at a;obtain⟨S1,d⟩:∃S1,S++[O.lst ((N.cs.map YV).map D.str)]=S1:=⟨_,rfl⟩
 rw[d]at a;have e:ZC S1 S.length=Z9 ((N.cs.map YV).map D.str):=by rw[<- d];exact Y9 _ _
 have f:Yz [(S.length,(N.cs.map YV).map D.str)] .one (λ_=>ret Z7) (M2 (cl n)) [Z8] ((N.cs.map YV).map D.str) S1=.ok ((N.cs.map YV).map λ_=>D.bl Z7) S1:=by
  refine O5 D.str (UF e) (λ_=>D.bl Z7) (N.cs.map YV) λw i=>⟨_,rfl,?_⟩
  obtain⟨c,_,rfl⟩:=qF4.mp i;have:=IU (z:=YV c) (by rw[MB];decide) S1;rw[MB]at this;generalize YV c=z at *;simp[M2,this]
 have b:W6 (λbs=>bs.all id) [.lst S1.length] (S1++[O.lst ((N.cs.map YV).map λ_=>D.bl Z7)])=.ok (.bl Z7) (S1++[O.lst ((N.cs.map YV).map λ_=>D.bl Z7)]):=by exact kW (Y9 S1 _)
 refine⟨S1++[O.lst ((N.cs.map YV).map λ_=>D.bl Z7)],?_,(d▸Zk _ _:Ex S S1).trans (Zk _ _)⟩;rw[h];exact YT rfl (kX _ (RC l) (by rw[qB6,qB6];lia) (OE l).1 (OE l).2 (IU (z:=Ym N.sw.toNat) (by show 1<=1000;decide) S) (IU (z:=Xr N) (by show 2<=1000;decide) S) a e (by rw[qA6,qA6,X6];lia) f b)
structure IT(cl:Nat->ZO):Prop where
 fi:Jh cl
 hl:D7 cl
 cr:D6 cl
 nr:ni cl
 nt:D8 cl
 ct:Jj cl
 ins:Eb cl
 ic:Jq cl
 ib:M9 cl
 iw:OZ cl
theorem DE(N:Zc):∀w∈Yf N,32∉w.cps.toList:=λw a=>by
 unfold Yf at a;rcases qA8.mp a with rfl|a
 .show 32∉[48+N.sw.toNat];simp only[qD7];lia
 .rcases qA8.mp a with rfl|a
  .show 32∉[48+N.pl.toNat,58];simp only[qA8,qB8,or_false];lia
  .obtain⟨c,_,rfl⟩:=qF4.mp a;show 32∉[48+c.a.toNat,45,48+c.b.toNat,47,48+c.k.toNat,if c.o=1 then 43 else 45];simp only[qA8,qB8,or_false];split<;>lia
theorem kR(N:Zc):Txt.split (YC N) bk=Yf N:=by unfold YC Txt.join;rw[StrLaws.glued_eq_join];exact DK (c:=32) (by simp[Yf]) (DE N)
theorem DD(ok:N.g):(YC N).length<=1000:=by
 have a:=ok.c1;unfold YC Txt.join;rw[StrLaws.glued_eq_join];refine qC6 (StrLaws.join_length_le bk (Yf N)) ?_;unfold Yf;rw[qB2,qB2,qE5,qE5,OI,qB6,qB6,qA6,show(Ym N.sw.toNat).length=1 from rfl,show(Xr N).length=2 from rfl,show bk.length=1 from rfl]
 lia
theorem kQ(ok:N.g)(S:ZU):VJ (.str (YC N)) [.str (Str.ofString " ")] S=.ok (.lst S.length) (S++[O.lst ((Yf N).map D.str)]):=by have e:=kR N;have p:=DJ (x:=YC N) (y:=bk) (by rw[e];simp[Yf]);have a:=DD ok;have b:=ok.c1;unfold VJ;dsimp only;rw[MC,if_pos ⟨rfl,by rw[X6];lia,by rw[p,e,X6];simp[Yf];lia⟩,e]
theorem kP(c:ZO){X ws:yM}(t:Yo [.str a,.ty "str"] S=.ok (.bl Z7) S)(p:YX "str" (.str a) S=Z7)(sp:VJ (.str a) [.str (Str.ofString " ")] S=.ok (.lst k) S1)(g:c "has_lengths_of_net" [.lst k] S1=.ok (.bl Z7) S2)(x:ZI (.lst k) (.int 0) S2=.ok (.str d) S2)(y:c "figure" [.str d] S2=.ok (.int sw) S2)(m:ZI (.lst k) (.int 1) S2=.ok (.str f) S2)(j:ZI (.str f) (.int 0) S2=.ok (.str e) S2)(n:c "figure" [.str e] S2=.ok (.int pl) S2)
  (u:YH (.lst k) (Z9 2) Z8 S2=.ok (.lst S2.length) S3) (r:ZC S3 S2.length=Z9 X) (w:X.length<lim) (v:Yz [(S2.length,X)] .one (λ_=>ret Z7) (OX c) [Z8] X S3=.ok ws S3) (h:S3++[O.lst ws]=b) (i:V4 [.lst S3.length] b=.ok (.tup ws) b) (l:c "is_net" [.tup [.int sw,.int pl,.tup ws]] b=.ok (.bl Z7) S5) (s:c "net_text" [.tup [.int sw,.int pl,.tup ws]] S5=.ok (.str a) S6) (q:Yh (.str a) (.str a) S6=.ok (.bl Z5) S6) :
  QF c [Z9 (.str a),Z8,Z8] S=.rt (.tup [.int sw,.int pl,.tup ws]) S6:=by have o:∀B:ZR,W5 1 [] B=[Z8]:=λ_=>rfl;simp[QF,t,p,sp,g,x,y,m,j,n,u,r,w,o,v,h,i,l,s,q]
theorem kO(H:IT cl)(n:Nat)(ok:N.g)(S:ZU):Xb (cl (n+5) "net_read" [.str (YC N)] S) N.d S:=by
 have B:=ok.c1;have G:=ok.s1;have C:=ok.s2;have F:=ok.p1;have E:=ok.p2;have j:=kQ ok S;obtain⟨S1,f⟩:∃S1,S++[O.lst ((Yf N).map D.str)]=S1:=⟨_,rfl⟩
 rw[f]at j;have l:ZC S1 S.length=Z9 ((Yf N).map D.str):=by rw[<- f];exact Y9 _ _
 obtain⟨a,o,k⟩:=kU H.hl (n+3) ok l;have h:ZC a S.length=Z9 (.str (Ym N.sw.toNat)::.str (Xr N)::(N.cs.map YV).map D.str):=k.lst l λz=>z;have g:=QK h (Z9 2) Z8;rw[OF]at g;obtain⟨S3,d⟩:∃S3,a++[O.lst ((N.cs.map YV).map D.str)]=S3:=⟨_,rfl⟩
 rw[d]at g;have m:ZC S3 a.length=Z9 ((N.cs.map YV).map D.str):=by rw[<- d];exact Y9 _ _
 have y:Yz [(a.length,(N.cs.map YV).map D.str)] .one (λ_=>ret Z7) (OX (cl (n+4))) [Z8] ((N.cs.map YV).map D.str) S3=.ok (N.cs.map Ct.d) S3:=by
  have:=O5 (λc=>D.str (YV c)) (w:=[(a.length,(N.cs.map YV).map D.str)]) (t:=.one) (c:=OX (cl (n+4))) (B0:=[Z8]) (S:=S3) (UF m) Ct.d N.cs λc A=>⟨_,rfl,by
   have e:=kY H.cr H.fi (n+2) (IX ok A) S3;generalize YV c=z at *;simp[OX,e]⟩
  rw[qE1]at this ⊢;exact this
 obtain⟨S4,b⟩:∃S4,S3++[O.lst (N.cs.map Ct.d)]=S4:=⟨_,rfl⟩
 have r:V4 [.lst S3.length] S4=.ok (.tup (N.cs.map Ct.d)) S4:=by rw[<- b];exact O7 (Y9 _ _)
 obtain⟨u,s,v⟩:=lT H.ins H.ic H.ib H.iw n (N:=N) ok S4;obtain⟨S6,x,p⟩:=DH H.nt H.ct (n+2) ok u;have q:Yh (.str (YC N)) (.str (YC N)) S6=.ok (.bl Z5) S6:=by show R.ok (D.bl (!decide (YC N=YC N))) S6=_;rw[decide_eq_true rfl];rfl
 refine⟨S6,?_,(f▸Zk _ _:Ex S S1).trans (k.trans ((d▸Zk _ _:Ex a S3).trans ((b▸Zk _ _:Ex S3 S4).trans (v.trans p))))⟩;rw[show n+5=(n+4)+1 from rfl,H.nr];exact YT rfl (kP _ rfl rfl j o (OE h).1 (OH H.fi (n+3) (by lia) (by lia) a) (OE h).2 (OG (c:=48+N.pl.toNat) rfl (by show 2<=1000;decide) a) (OH H.fi (n+3) (i:=N.pl) (by lia) (by lia) a) g m (by rw[qA6,qA6,X6];lia) y b r s x q)
open PySem Lake Tactic Builtin Builtin.Str StrLaws
def jn(ws:yH):Str:=Str.join bk ws
def Fr(w:Str):Prop:=32∉w.cps.toList
theorem IS(s sub:Str)(hi L:Nat):∀(l:List Nat) (st:Array Nat×Nat),∃t,(forIn l st (occBody s sub hi L)).run.1.toList=st.1.toList++t
 |[],st=>⟨[],by simp⟩
 |a::l,st=>by
  rw[qG7];unfold occBody;split
  .obtain⟨t,e⟩:=IS s sub hi L l (st.1.push a,a+sub.length);refine⟨a::t,e.trans ?_⟩;rw[Array.toList_push,qD8];rfl
  .exact IS s sub hi L l st
theorem DC(s sub:Str)(hi b:Nat):∀(l:List Nat) (st:Array Nat×Nat),b<=st.fst.size->(forIn l st (occBody s sub hi b)).run=st
 |[],st,h=>rfl
 |a::l,st,h=>by rw[qG7];unfold occBody;rw[if_neg (by omega)];exact DC s sub hi b l st h
theorem IR(s sub:Str)(hi L M:Nat)(b:L<=M):∀(l:List Nat) (st:Array Nat×Nat),st.1.size<=L->(forIn l st (occBody s sub hi L)).run.1.toList=((forIn l st (occBody s sub hi M)).run.1.toList).take L
 |[],st,h=>by show st.1.toList=st.1.toList.take L;rw[qD9 (by simpa using h)]
 |a::l,st,h=>by
  by_cases d:st.1.size=L
  .rw[DC s sub hi L _ st (by lia)];obtain⟨t,e⟩:=IS s sub hi M (a::l) st;rw[e,List.take_append_of_le_length (by simp[d]),qD9 (by simp[d])]
  .have f:st.1.size<L:=by lia
   rw[qG7,qG7];unfold occBody;by_cases c:(st.2<=a/\a+sub.length<=hi)/\subAt s sub a=Z7
   .rw[if_pos ⟨⟨⟨f,c.1.1⟩,c.1.2⟩,c.2⟩,if_pos ⟨⟨⟨by lia,c.1.1⟩,c.1.2⟩,c.2⟩];exact IR s sub hi L M b l (st.1.push a,a+sub.length) (by simp;lia)
   .rw[if_neg λz=>c ⟨⟨z.1.1.2,z.1.2⟩,z.2⟩,if_neg λz=>c ⟨⟨z.1.1.2,z.1.2⟩,z.2⟩];exact IR s sub hi L M b l st h
theorem DB{ws:yH}(a:ws≠[])(b:∀w∈ws,Fr w):Txt.split (jn ws) bk=ws:=DK (c:=32) a b
theorem kM(h:2<=(Txt.split x y).length):(decide (x.length<y.length)||decide (strKind x<strKind y))=Z5/\Txt.split x y=partsFrom x y.length 0 (occurrences x y 0 x.length (x.length+1)):=by
 unfold Txt.split at h ⊢;split at h
 .simp at h
 .rename_i a;split at h
  .simp at h
  .rename_i b;rw[if_neg a,if_neg b,partsBetween_eq];exact⟨qK0.mpr a,rfl⟩
theorem DA(x:Str)(w:Nat):∀(a:Nat) (b:List Nat),(partsFrom x w a b).length=b.length+1
 |_,[]=>rfl
 |a,c::r=>by show(strSub x a c::partsFrom x w (c+w) r).length=_;rw[qB6,DA x w (c+w) r];rfl
theorem kL{r:yH}(s:∀w∈a::b::c::r,Fr w):Q2 (jn (a::b::c::r)) bk 2=[a,b,jn (c::r)]/\partsBetween (jn (a::b::c::r)) (occurrences (jn (a::b::c::r)) bk 0 (jn (a::b::c::r)).length 2) 1=[a,b,jn (c::r)]:=by
 have l:=DB (ws:=a::b::c::r) (by simp) s;obtain⟨o,h2⟩:=kM (x:=jn (a::b::c::r)) (y:=bk) (by rw[l];simp);rw[l]at h2;generalize jn (a::b::c::r)=z at *;have i:occurrences z bk 0 z.length 2=(occurrences z bk 0 z.length (z.length+1)).take 2:=by
  rw[occ_eq,occ_eq];exact IR z bk z.length 2 (z.length+1) (by
   have:=occ_length_le z bk 0 z.length (z.length+1);have k:=congrArg qG5 h2;rw[DA]at k;simp only[qB6]at k
   lia) _ _ (by simp)
 obtain⟨f,h⟩:=occ_chain z bk (z.length+1);revert i h2 h;generalize occurrences z bk 0 z.length (z.length+1)=cuts;intro h2 i h
 match cuts,h2 with
 |[],h2=>simp[partsFrom]at h2
 |[c1],h2=>simp[partsFrom]at h2
 |c1::d::q,h2 =>
  have j:=join_partsFrom z bk q (d+bk.length) f h.2.2.2.2;have e:[a,b,jn (c::r)]=partsFrom z bk.length 0 [c1,d]:=by
   have n:partsFrom z bk.length 0 (c1::d::q)=strSub z 0 c1::strSub z (c1+bk.length) d::partsFrom z bk.length (d+bk.length) q:=rfl;rw[n]at h2;simp only[qH4.injEq]at h2;obtain⟨rfl,rfl,m⟩:=h2;show _=[strSub z 0 c1,strSub z (c1+bk.length) d,strSub z (d+bk.length) z.length]
   rw[<- j,<- m];rfl
  have p:partsBetween z [c1,d] 1=[a,b,jn (c::r)]:=by rw[partsBetween_eq];exact e.symm
  have g:occurrences z bk 0 z.length 2=[c1,d]:=i;refine⟨?_,by rw[g];exact p⟩;unfold Q2;rw[o,if_neg qB0,show gW z 2=2 from rfl,g,if_neg (by simp)];exact p
theorem Vn(ws:yH):(jn ws).cps.toList=Tw 32 (ws.map (·.cps.toList)):=ME 32 ws
theorem SM(ws:yH):(jn ws).length<=(ws.map (·.length)).sum+ws.length:=by have:=join_length_le bk ws;rw[show bk.length=1 from rfl,Nat.mul_one]at this;exact this
theorem IQ(a b:Str)(r:yH):jn (a::b::r)=a++bk++jn (b::r):=rfl
theorem UX(z:Str):V5 z (Str.ofString "net ")=(z.cps.toList.take 4 == [110,101,116,32]):=by
 have e:Str.ofString "net "=⟨#[110,101,116,32]⟩:=by decide
 rw[e];unfold V5;rw[subAt_eq];show(decide (0+4<=z.length)&&((z.cps.toList.drop 0).take 4 == [110,101,116,32]))=_;rw[qH3];have b:z.cps.toList.length=z.length:=by simp[Str.length]
 cases a:(z.cps.toList.take 4 == [110,101,116,32])
 .simp
 .have:=congrArg qG5 (eq_of_beq a);rw[qD2,b]at this;have c:4<=z.length:=by
   have:min 4 z.length=4:=this
   lia
  rw[decide_eq_true (by lia)];rfl
inductive Xm{α:Type}(m:R α)(c:Str)(S:ZU):Prop
 |mk (S1:ZU) (e:m=.er c S1) (x:Ex S S1)
def lo(c:Nat):Bool:=decide (97<=c/\c<=122)
def Zf(z:Str):Bool:=decide (1<=z.length/\z.length<=8)&&z.cps.toList.all lo
def LT:Str:=Str.ofString "abcdefghijklmnopqrstuvwxyz"
theorem kK(c:Nat):(!(occurrences LT ⟨#[c]⟩ 0 LT.length 1).isEmpty)=lo c:=by
 rw[found_one];have e:LT.cps.toList=(List.range 26).map (97+·):=by decide
 rw[e];unfold lo;congr 1;simp only[qF4,qJ2,eq_iff_iff];constructor
 .rintro⟨a,h,rfl⟩;lia
 .intro h;exact⟨c - 97,by lia,by lia⟩
theorem kJ(c:Nat)(S:ZU):YE (.str ⟨#[c]⟩) (.str LT) S=.ok (.bl (lo c)) S:=by show R.ok (D.bl (!(occurrences LT ⟨#[c]⟩ 0 LT.length 1).isEmpty)) S=_;rw[kK]
theorem Dz{a:Type}(p:a->Bool):∀l:List a,Wh (l.map λx=>D.bl (p x))=Z9 (l.map p)
 |[]=>rfl
 |_::r=>by show(Wh (r.map λx=>D.bl (p x))).map (_::·)=_;rw[Dz p r];rfl
theorem Dy{a:Type}{p:a->Bool}{l:List a}(h:ZC S n=Z9 (l.map λx=>D.bl (p x))):W6 (λbs=>bs.all id) [.lst n] S=.ok (.bl (l.all p)) S:=by unfold W6;dsimp only;rw[h];show(match Wh (l.map λx=>D.bl (p x))with|some bs=>R.ok (D.bl (bs.all id)) S|none=>.bad)=_;rw[Dz];dsimp only;rw[qI9];rfl
theorem Qx(h:z.length<=1000)(S:ZU):Zt [.str z] S=.ok (.int (z.length:Int)) S:=by show(if z.length<=lim then R.ok (D.int (z.length:Int)) S else .bad)=_;rw[if_pos (by rw[show lim=1048576 from rfl];lia)]
theorem kI(c:ZO)(l:Zt [.str z] S=.ok (.int L) S)(h:¬(1<=L/\L<=8)):Ry c [Z9 (.str z)] S=.er "BadNote" S:=by
 by_cases a:1<=L
 .have b:¬L<=8:=λq=>h ⟨a,q⟩;simp[Ry,l,a,b]
 .simp[Ry,l,a]
theorem kH(c:ZO){X bs:yM}(l:Zt [.str z] S=.ok (.int L) S)(h:1<=L)(j:L<=8)(i:YI (Zs (ZY 0)) (Zm (ZY 0)) [Z9 (.str z)] S=.ok (X,[]) S)(g:X.length<lim)(e:Yz [] .one (λ_=>ret Z7) (M0 c) [Z8] X S=.ok bs S)(d:S++[.lst bs]=S1)(f:W6 (λbs=>bs.all id) [.lst S.length] S1=.ok (.bl b) S1):
  Ry c [Z9 (.str z)] S=if b then .rt (.str z) S1 else .er "BadNote" S1:=by
 have k:W5 1 [] [Z9 (D.str z)]=[Z8]:=rfl;have a:L<9:=by lia
 cases b<;>simp[Ry,l,h,j,i,e,d,f,g,-oD,-oR]
theorem Dx(h:QE cl)(n:Nat)(j:z.cps.all (·<128)=Z7)(g:z.length<=1000)(S:ZU):∃S1,Ex S S1/\cl (n+1) "name_read" [.str z] S=if Zf z then .ok (.str z) S1 else .er "BadNote" S1:=by
 have l:=Qx g S;by_cases d:1<=z.length/\z.length<=8
 .have i:YI (Zs (ZY 0)) (Zm (ZY 0)) [Z9 (.str z)] S=.ok (UJ z,[]) S:=by show(if z.cps.all (·<128)then R.ok (UJ z,[]) S else .bad)=_;rw[if_pos j]
  have e:Yz [] .one (λ_=>ret Z7) (M0 (cl n)) [Z8] (UJ z) S=.ok (z.cps.toList.map λc=>D.bl (lo c)) S :=
   O5 (λc=>D.str ⟨#[c]⟩) (XJ S) (λc=>D.bl (lo c)) z.cps.toList λc k=>⟨_,rfl,by
    have:=kJ c S;unfold LT at this;simp[M0,this]⟩
  have f:=Dy (p:=lo) (Y9 S (z.cps.toList.map λc=>D.bl (lo c)));have r:=kH (cl n) l (by lia) (by lia) i (by unfold UJ;rw[qA6,j5,show lim=1048576 from rfl];show z.length<_;lia) e rfl f;refine⟨S++[O.lst (z.cps.toList.map λc=>D.bl (lo c))],Zk S _,?_⟩;have b:Zf z=z.cps.toList.all lo:=by unfold Zf;rw[decide_eq_true d,qK1]
  rw[h,b];cases a:z.cps.toList.all lo
  .rw[a,if_neg qB0]at r;rw[if_neg qB0];exact WK rfl r
  .rw[a,if_pos rfl]at r;rw[if_pos rfl];exact YT rfl r
 .refine⟨S,Kp.refl _ _,?_⟩;have b:Zf z=Z5:=by unfold Zf;rw[decide_eq_false d,qH8]
  rw[h,b,if_neg qB0];exact WK rfl (kI (cl n) l (by lia))
theorem Vm(h:Zf z=Z7):z.cps.all (·<128)=Z7/\z.length<=8/\1<=z.length/\Fr z/\∀c∈z.cps.toList,97<=c/\c<=122:=by
 unfold Zf at h;rw[qB3,decide_eq_true_eq,qB9]at h;have a:∀c∈z.cps.toList,97<=c/\c<=122:=λc b=>by have:=h.2 c b;unfold lo at this;simpa using this
 refine⟨?_,h.1.2,h.1.1,λq=>?_,a⟩
 .rw[vQ];intro c b;have:=a c (by simpa using b);simp;lia
 .have:=a 32 q;lia
theorem kG(h:QE cl)(n:Nat)(b:Zf z=Z7)(S:ZU):Xb (cl (n+1) "name_read" [.str z] S) (.str z) S:=by have a:=Vm b;obtain⟨c,x,e⟩:=Dx h n a.1 (by lia) S;rw[b,if_pos rfl]at e;exact⟨c,e,x⟩
theorem kF(h:QE cl)(n:Nat)(a:z.cps.all (·<128)=Z7)(b:z.length<=1000)(c:Zf z=Z5)(S:ZU):Xm (cl (n+1) "name_read" [.str z] S) "BadNote" S:=by obtain⟨d,x,e⟩:=Dx h n a b S;rw[c,if_neg qB0]at e;exact⟨d,e,x⟩
theorem kE(c:ZO){ws:yH}(b:V5 z (Str.ofString "net ")=Z7)(a:QU (.str z) [.str (Str.ofString " "),.int 2] S=.ok (.lst S.length) (S++[.lst (ws.map D.str)])):QD c [Z9 (.str z)] S=.rt (.lst S.length) (S++[.lst (ws.map D.str)]):=by
 have t:Yo [.str z,.ty "str"] S=.ok (.bl Z7) S:=rfl;have m:QV (.str z) [.str (Str.ofString "net ")] S=.ok (.bl Z7) S:=by show R.ok (D.bl (V5 z (Str.ofString "net "))) S=_;rw[b]
 have d:YX "str" (.str z) S=Z7:=rfl;simp[QD,t,m,d,a]
theorem Dw(c:ZO){ws:yH}(b:V5 z (Str.ofString "net ")=Z5)(a:VJ (.str z) [.str (Str.ofString " ")] S=.ok (.lst S.length) (S++[.lst (ws.map D.str)])):QD c [Z9 (.str z)] S=.rt (.lst S.length) (S++[.lst (ws.map D.str)]):=by
 have t:Yo [.str z,.ty "str"] S=.ok (.bl Z7) S:=rfl;have m:QV (.str z) [.str (Str.ofString "net ")] S=.ok (.bl Z5) S:=by show R.ok (D.bl (V5 z (Str.ofString "net "))) S=_;rw[b]
 have d:YX "str" (.str z) S=Z7:=rfl;simp[QD,t,m,d,a]
def WI(cl:Nat->ZO)(z:Str)(ws:yH):Prop:=∀n S,cl (n+1) "words_of" [.str z] S=.ok (.lst S.length) (S++[.lst (ws.map D.str)])
theorem Dv(a:2<=ws.length)(d:ws.length<=100)(b:∀w∈ws,Fr w)(c:(jn ws).length<=1000)(S:ZU):VJ (.str (jn ws)) [.str (Str.ofString " ")] S=.ok (.lst S.length) (S++[O.lst (ws.map D.str)]):=by have e:=DB (ws:=ws) (by rintro rfl;simp at a) b;have p:=DJ (x:=jn ws) (y:=bk) (by rw[e];exact a);unfold VJ;dsimp only;rw[MC,if_pos ⟨rfl,by rw[show lim=1048576 from rfl];lia,by rw[p,e,show lim=1048576 from rfl];lia⟩,e]
theorem IP(h:MY cl)(e:V5 (jn ws) (Str.ofString "net ")=Z5)(a:2<=ws.length)(d:ws.length<=100)(b:∀w∈ws,Fr w)(c:(jn ws).length<=1000):WI cl (jn ws) ws:=λn S=>by rw[h];exact YT rfl (Dw _ e (Dv a d b c S))
def nW:Str:=⟨#[110,101,116]⟩
theorem IM(h:MY cl){r:yH}(e:∀w∈b::c::r,Fr w)(j:(jn (nW::b::c::r)).length<=1000):WI cl (jn (nW::b::c::r)) [nW,b,jn (c::r)]:=λn S=>by
 have i:V5 (jn (nW::b::c::r)) (Str.ofString "net ")=Z7:=by rw[UX,Vn];rfl
 obtain⟨f,g⟩:=kL (a:=nW) (b:=b) (c:=c) (r:=r) λw d=>by
  rcases qA8.mp d with rfl|d
  .show 32∉[110,101,116];decide
  .exact e w d
 rw[h];refine YT rfl (kE _ i ?_);unfold QU;dsimp only;rw[show Str.ofString " "=bk from MC,if_pos ⟨by decide,rfl,by rw[show lim=1048576 from rfl];lia,by
  rw[show gW (jn (nW::b::c::r)) 2=2 from rfl,show bk.length=1 from rfl,g];show 3<=lim;decide⟩,f]
abbrev Wn:=Str×Str×D
def WR(c:ZO)(a:Wn):Prop:=∀S,Xb (c "word_read" [.str a.1,.str a.2.1] S) a.2.2 S
def WE(c:ZO)(k w:Str):Prop:=∀S,Xm (c "word_read" [.str k,.str w] S) "BadNote" S
section
variable (c:ZO) {k w:Str}{v:D}{S S1:ZU}
theorem OD(h:r≠.bad)(b:decide (k=Str.ofString "TEXT")=Z5)(l:decide (k=Str.ofString "S")=Z5)(j:decide (k=Str.ofString "C")=Z5)(e:c "name_read" [.str w] S=r):SQ c [Z9 (.str k),Z9 (.str w)] S=VB r (λd i=>.rt d i) .mk:=by
 have a:Ze (.str k) (.str (Str.ofString "TEXT")) S=.ok (.bl Z5) S:=by show R.ok (D.bl (decide (k=Str.ofString "TEXT"))) S=_;rw[b]
 have f:Ze (.str k) (.str (Str.ofString "S")) S=.ok (.bl Z5) S:=by show R.ok (D.bl (decide (k=Str.ofString "S"))) S=_;rw[l]
 have g:Ze (.str k) (.str (Str.ofString "C")) S=.ok (.bl Z5) S:=by show R.ok (D.bl (decide (k=Str.ofString "C"))) S=_;rw[j]
 cases r<;>first|exact absurd rfl h|simp[SQ,a,f,g,e]
theorem OC(b:r≠.bad)(e:c "net_read" [.str w] S=r):SQ c [Z9 (.str (Str.ofString "TEXT")),Z9 (.str w)] S=VB r (λd f=>.rt d f) .mk:=by
 have a:Ze (.str (Str.ofString "TEXT")) (.str (Str.ofString "TEXT")) S=.ok (.bl Z7) S:=by show R.ok (D.bl (decide _)) S=_;rw[decide_eq_true rfl]
 cases r<;>first|exact absurd rfl b|simp[SQ,a,e]
theorem IL(g:r≠.bad)(e:c "number_read" [.str w] S=r):SQ c [Z9 (.str (Str.ofString "C")),Z9 (.str w)] S=VB r (λd h=>.rt d h) .mk:=by
 have a:Ze (.str (Str.ofString "C")) (.str (Str.ofString "TEXT")) S=.ok (.bl Z5) S:=by show R.ok (D.bl (decide _)) S=_;rw[decide_eq_false (by decide)]
 have b:Ze (.str (Str.ofString "C")) (.str (Str.ofString "S")) S=.ok (.bl Z5) S:=by show R.ok (D.bl (decide _)) S=_;rw[decide_eq_false (by decide)]
 have f:Ze (.str (Str.ofString "C")) (.str (Str.ofString "C")) S=.ok (.bl Z7) S:=by show R.ok (D.bl (decide _)) S=_;rw[decide_eq_true rfl]
 cases r<;>first|exact absurd rfl g|simp[SQ,a,b,f,e]
end
def Qw(k:Str):Bool:=decide (k=Str.ofString "TEXT")||decide (k=Str.ofString "S")||decide (k=Str.ofString "C")
theorem Tv(h:MZ cl)(a:QE cl)(n:Nat)(hk:Qw k=Z5)(b:Zf z=Z7):WR (cl (n+2)) (k,z,.str z):=λS=>by unfold Qw at hk;simp only[qL8]at hk;obtain⟨c,e,x⟩:=kG a n b S;refine⟨c,?_,x⟩;rw[h];exact YT rfl (OD _ (by simp) hk.1.1 hk.1.2 hk.2 e)
theorem IK(h:MZ cl)(a:QE cl)(n:Nat)(hk:Qw k=Z5)(b:z.cps.all (·<128)=Z7)(c:z.length<=1000)(d:Zf z=Z5):WE (cl (n+2)) k z:=λS=>by unfold Qw at hk;simp only[qL8]at hk;obtain⟨f,e,x⟩:=kF a n b c d S;refine⟨f,?_,x⟩;rw[h];exact WK rfl (OD _ (by simp) hk.1.1 hk.1.2 hk.2 e)
theorem kC(h:MZ cl)(H:IT cl)(n:Nat)(ok:N.g):WR (cl (n+6)) (Str.ofString "TEXT",YC N,N.d):=λS=>by obtain⟨a,e,x⟩:=kO H n ok S;refine⟨a,?_,x⟩;rw[h];exact YT rfl (OC _ (by simp) e)
theorem Du:∀its:List Wn,Wg (its.map λa=>D.tup [.str a.1,a.2.2])=Z9 (its.map λa=>(.inr a.1,a.2.2))
 |[]=>rfl
 |a::r=>by show(match VN (D.str a.1),Wg (r.map λa=>D.tup [.str a.1,a.2.2])with|some q,Z9 b=>Z9 ((q,a.2.2)::b)| _,_=>Z8)=_;rw[Du r];rfl
theorem Dt:∀(l kvs:List (ZA×D)),((kvs++l).map (·.1)).Nodup->WX kvs l=kvs++l
 |[],kvs,_=>by unfold WX;simp
 |p::l,kvs,h=>by
  have b:=h;rw[qE3,qG2]at b;have c:(kvs.any λa=>decide (a.1=p.1))=Z5:=by rw[qM8];intro a hk;have:=b.2.2 a.1 (qM4 hk) p.1 (by simp);simpa using this
  have e:Zu kvs p.1 p.2=kvs++[p]:=by unfold Zu;rw[c,if_neg qB0]
  have:=Dt l (kvs++[p]) (by rw[qD8];exact h);rw[qD8]at this;rw[<- show kvs++([p]++l)=kvs++p::l from rfl,<- this];unfold WX;rw[qO1,e]
@[simp]theorem aD(S:ZU)(xs:yH):WU S (.ktp xs)=Z9 (xs.map D.str):=rfl
@[simp]theorem aB(ys:yH)(xs:yM):T8 (.ktp ys) xs=[]:=rfl
def Tu(a:Wn):D:=.tup [.str a.1,.str a.2.1]
def Mz(a:Wn):D:=.tup [.str a.1,a.2.2]
theorem Ds(e:c "word_read" [.str k,.str w] S=.ok v S1):VY c [Z9 (.str k),Z9 (.str w)] S=.ok (.tup [.str k,v]) S1:=by
 have q:YF (c "word_read") (ZS [(ZY 0),(ZY 1)]) [Z9 (.str k),Z9 (.str w)] S=.ok v S1:=by simp[e]
 show(match YF (c "word_read") (ZS [(ZY 0),(ZY 1)]) [Z9 (.str k),Z9 (.str w)] S with
  |.ok y a=>R.ok (D.tup [.str k,y]) a
  |.er k a=>.er k a
  | .bad=>.bad)=_
 rw[q]
theorem kz(e:c "word_read" [.str k,.str w] S=.er x S1):VY c [Z9 (.str k),Z9 (.str w)] S=.er x S1:=by
 have q:YF (c "word_read") (ZS [(ZY 0),(ZY 1)]) [Z9 (.str k),Z9 (.str w)] S=.er x S1:=by unfold YF;simp[e]
 show(match YF (c "word_read") (ZS [(ZY 0),(ZY 1)]) [Z9 (.str k),Z9 (.str w)] S with
  |.ok y a=>R.ok (D.tup [.str k,y]) a
  |.er k a=>.er k a
  | .bad=>.bad)=_
 rw[q]
inductive ky(m:R (yM))(r:yM)(S:ZU):Prop
 |mk (S1:ZU) (e:m=.ok r S1) (x:Ex S S1)
theorem Dr{w:XX}{c:ZO}:∀(its:List Wn) (S:ZU),(∀a∈its,WR c a)->(∀d,Ex S d->Ye w d)->ky (Xd w (.many 2) (VY c) [Z8,Z8] (its.map Tu) S) (its.map Mz) S
 |[],S,_,hw=>⟨S,if_pos (hw S (Kp.refl _ _)),Kp.refl _ _⟩
 |a::r,S,h,hw=>by obtain⟨l,k,e⟩:=h a qD1 S;obtain⟨f,g,i⟩:=Dr r l (λb j=>h b (qC5 _ j)) λd x=>hw d (e.trans x);refine⟨f,?_,e.trans i⟩;rw[qB2,qB2];unfold Xd;rw[if_pos (hw S (Kp.refl _ _)),show Wu (.many 2) (Tu a) [Z8,Z8]=Z9 [Z9 (.str a.1),Z9 (.str a.2.1)]from rfl];dsimp only;rw[Ds k];dsimp only;rw[g];rfl
theorem Dq{w:XX}{c:ZO}{k z:Str}{ZM:yM}(he:WE c k z):∀(its:List Wn) (S:ZU),(∀a∈its,WR c a)->(∀e,Ex S e->Ye w e)->Xm (Xd w (.many 2) (VY c) [Z8,Z8] (its.map Tu++.tup [.str k,.str z]::ZM) S) "BadNote" S
 |[],S,_,hw=>by obtain⟨g,f,d⟩:=he S;refine⟨g,?_,d⟩;show Xd w (.many 2) (VY c) [Z8,Z8] (.tup [.str k,.str z]::ZM) S=_;unfold Xd;rw[if_pos (hw S (Kp.refl _ _)),show Wu (.many 2) (.tup [.str k,.str z]) [Z8,Z8]=Z9 [Z9 (.str k),Z9 (.str z)]from rfl];dsimp only;rw[kz f]
 |a::r,S,h,hw=>by obtain⟨g,f,d⟩:=h a qD1 S;obtain⟨i,j,l⟩:=Dq (ZM:=ZM) he r g (λb m=>h b (qC5 _ m)) λe x=>hw e (d.trans x);refine⟨i,?_,d.trans l⟩;show Xd w (.many 2) (VY c) [Z8,Z8] (Tu a::(r.map Tu++.tup [.str k,.str z]::ZM)) S=_;unfold Xd;rw[if_pos (hw S (Kp.refl _ _)),show Wu (.many 2) (Tu a) [Z8,Z8]=Z9 [Z9 (.str a.1),Z9 (.str a.2.1)]from rfl];dsimp only;rw[Ds f];dsimp only;rw[j]
def dx(r:R (yM)):R D:=match r with
 | .ok P a=>(match Vr [.lst a.length] (a++[.lst P])with
  |.ok d b=>.ok d b
  | _=>.bad)
 |.er c a=>.er c a
 |.bad=>.bad
theorem Dp(c:ZO){W b:yM}(t:ZI (.lst k) (.int 0) S=.ok (.str v) S)(f:RM [.str v] S=.ok (.ktp a) S)(p:Zt [.lst k] S=.ok (.int L) S)(o:L=(a.length:Int)+1)
  (r:YH (.lst k) (Z9 1) Z8 S=.ok (.lst j) S1) (g:ZC S1 j=Z9 W) (h:zipD (a.map D.str) W=b) (l:b.length<lim) (s:dx (Xd [(j,W)] (.many 2) (VY c) [Z8,Z8] b S1)≠.bad) :
  QC c [Z9 (.lst k),Z8] S=VB (dx (Xd [(j,W)] (.many 2) (VY c) [Z8,Z8] b S1)) (λd m=>.rt d m) .mk:=by
 have n:Zt [.ktp a] S=.ok (.int a.length) S:=rfl;have i:QW (ZS [(ZY 1),(XY YH (ZY 0) (X3 (ZX (.int 1))) XF)]) [Z9 (.lst k),Z9 (.ktp a)] S=.ok (b,[(j,W)]) S1:=by simp[r,g,h]
 have q:QO (QP (QW (ZS [(ZY 1),(XY YH (ZY 0) (X3 (ZX (.int 1))) XF)])) 2 [] (.many 2) (VY c)) [Z9 (.lst k),Z9 (.ktp a)] S=dx (Xd [(j,W)] (.many 2) (VY c) [Z8,Z8] b S1):=by unfold QO QP;rw[i];dsimp only;rw[if_pos l,show W5 2 [] [Z9 (D.lst k),Z9 (D.ktp a)]=[Z8,Z8]from rfl];cases Xd [(j,W)] (.many 2) (VY c) [Z8,Z8] b S1<;>rfl
 subst o;cases e:dx (Xd [(j,W)] (.many 2) (VY c) [Z8,Z8] b S1)<;>rw[e]at q<;>first|exact absurd e s|simp[QC,t,f,p,n,D.isNon,q]
theorem kx(c:ZO)(e:ZI (.lst k) (.int 0) S=.ok (.str v) S)(f:RM [.str v] S=.ok (.ktp a) S)(d:Zt [.lst k] S=.ok (.int L) S)(g:L≠(a.length:Int)+1):QC c [Z9 (.lst k),Z8] S=.er "BadNote" S:=by have b:Zt [.ktp a] S=.ok (.int a.length) S:=rfl;simp[QC,e,f,d,b,D.isNon,g]
inductive OB(r:R D)(S:ZU)(kvs:List (ZA×D)):Prop
 |mk (m:Nat) (S1:ZU) (e:r=.ok (.dct m) S1) (d:S1[m]?=Z9 (.dk kvs)) (x:Ex S S1) (le:S.length<=m)
theorem Do{b:Type}(f:b->Str)(g:b->Str)(l:List b):zipD ((l.map f).map D.str) ((l.map g).map D.str)=l.map λa=>D.tup [.str (f a),.str (g a)]:=by unfold zipD;rw[qE1,qE1,List.zip_map',qE1];rfl
theorem IJ(b:Xz.lookup v=Z9 a)(S:ZU):RM [.str v] S=.ok (.ktp a) S:=by show(match Xz.lookup v with|some c=>ret (D.ktp c)| none=>ret .non) S=_;rw[b];rfl
section
variable (h:D5 cl) (n:Nat) {v:Str}{S:ZU}{k:Nat}
include h
theorem kv{a ws:yH}(c:Xz.lookup v=Z9 a)(d:ws.length≠a.length)(l:ZC S k=Z9 ((v::ws).map D.str)):Xm (cl (n+1) "line_read" [.lst k] S) "BadNote" S:=by have b:=Xc l 0;rw[qB2,Nf]at b;refine⟨S,?_,Kp.refl _ _⟩;rw[h];exact WK rfl (kx _ b (IJ c S) (RC l) (by simp;lia))
theorem Mx{its:List Wn}{ZM:List (Str×Str)}(o:Xz.lookup v=Z9 (its.map (·.1)++kb::ZM.map (·.1)))(m:∀a∈its,WR (cl n) a)(he:WE (cl n) kb z)(r:its.length+ZM.length<=3)
  (l:ZC S k=Z9 ((v::(its.map (·.2.1)++z::ZM.map (·.2))).map D.str)):Xm (cl (n+1) "line_read" [.lst k] S) "BadNote" S:=by
 have f:=Xc l 0;rw[qB2,Nf]at f;have c:=QK l (Z9 1) Z8;rw[Jt _ (by decide)]at c;obtain⟨S1,b⟩:∃S1,S++[O.lst ((its.map (·.2.1)++z::ZM.map (·.2)).map D.str)]=S1:=⟨_,rfl⟩
 rw[show(((v::(its.map (·.2.1)++z::ZM.map (·.2))).map D.str).drop (1:Int).toNat)=(its.map (·.2.1)++z::ZM.map (·.2)).map D.str from rfl,b]at c;have d:ZC S1 S.length=Z9 ((its.map (·.2.1)++z::ZM.map (·.2)).map D.str):=b▸Y9 _ _;have j:zipD ((its.map (·.1)++kb::ZM.map (·.1)).map D.str) ((its.map (·.2.1)++z::ZM.map (·.2)).map D.str)=its.map Tu++.tup [.str kb,.str z]::ZM.map λp=>.tup [.str p.1,.str p.2]:=by have:=Do (λp:Str×Str=>p.1) (λp=>p.2) (its.map (λa=>(a.1,a.2.1))++(kb,z)::ZM);simp only[qE3,qB2,qE1]at this ⊢;exact this
 obtain⟨g,e,i⟩:=Dq (w:=[(S.length,(its.map (·.2.1)++z::ZM.map (·.2)).map D.str)]) (ZM:=ZM.map λp=>.tup [.str p.1,.str p.2]) he its S1 m λq x=>UF (x.lst d λz=>z);refine⟨g,?_,(b▸Zk _ _:Ex S S1).trans i⟩;rw[h];refine WK rfl ((Dp _ f (IJ o S) (RC l) (by simp) c d j (by
  rw[qC4,qB6,qA6,qA6,show lim=1048576 from rfl];lia) (by rw[e];exact λz=>by cases z)).trans ?_)
 rw[e];rfl
theorem ku{its:List Wn}(A:Xz.lookup v=Z9 (its.map (·.1)))(y:∀a∈its,WR (cl n) a)(B:(its.map (·.1)).Nodup)(m:its.length<=3)(l:ZC S k=Z9 ((v::its.map (·.2.1)).map D.str)):
  OB (cl (n+1) "line_read" [.lst k] S) S (its.map λa=>(.inr a.1,a.2.2)):=by
 have o:=Xc l 0;rw[qB2,Nf]at o;have g:=QK l (Z9 1) Z8;rw[Jt _ (by decide)]at g;obtain⟨S1,f⟩:∃S1,S++[O.lst ((its.map (·.2.1)).map D.str)]=S1:=⟨_,rfl⟩
 rw[show(((v::its.map (·.2.1)).map D.str).drop (1:Int).toNat)=(its.map (·.2.1)).map D.str from rfl,f]at g;have j:ZC S1 S.length=Z9 ((its.map (·.2.1)).map D.str):=f▸Y9 _ _;obtain⟨d,u,s⟩:=Dr (w:=[(S.length,(its.map (·.2.1)).map D.str)]) its S1 y λE x=>UF (x.lst j λz=>z);obtain⟨S3,c⟩:∃S3,d++[O.lst (its.map Mz)]=S3:=⟨_,rfl⟩
 have t:Vr [.lst d.length] S3=.ok (.dct S3.length) (S3++[.dk (its.map λa=>(.inr a.1,a.2.2))]):=by
  have C:S3[d.length]?=Z9 (.lst (its.map Mz)):=by rw[<- c,qA5 (qA4 _),qD5];rfl
  rw[oB];unfold PF;dsimp only;rw[C];dsimp only;have p:Wg (its.map Mz)=Z9 (its.map λa=>(.inr a.1,a.2.2)):=Du its;rw[p];dsimp only;rw[if_pos (by rw[qA6];exact qC6 m (by decide)),Dt _ [] (by
   rw[qF1,qE1];have:=List.Pairwise.map (S:=λa b:ZA=>a≠b) (λk:Str=>(Sum.inr k:ZA)) (λa b i e=>i (Sum.inr.inj e)) B;rw[qE1]at this;exact this)]
  rfl
 have q:Ex S S3:=(f▸Zk _ _:Ex S S1).trans (s.trans (c▸Zk _ _:Ex d S3));refine⟨S3.length,S3++[.dk (its.map λa=>(.inr a.1,a.2.2))],?_,by rw[qA5 (qA4 _),qD5];rfl,q.trans (Zk _ _),q.le⟩;rw[h];have r:dx (Xd [(S.length,(its.map (·.2.1)).map D.str)] (.many 2) (VY (cl n)) [Z8,Z8] (its.map Tu) S1)=.ok (.dct S3.length) (S3++[.dk (its.map λa=>(.inr a.1,a.2.2))]):=by rw[u];unfold dx;dsimp only;rw[c,t]
 refine YT rfl ((Dp _ o (IJ A S) (RC l) (by simp) g j (Do (λa:Wn=>a.1) (λa=>a.2.1) its) (by rw[qA6];exact qJ4 m (by decide)) (λz=>by cases r.symm.trans z)).trans ?_);show VB (dx (Xd _ _ _ _ (its.map Tu) S1)) _ _=_;rw[r];rfl
end
abbrev KD:=List (ZA×D)
abbrev tv(kvs:KD)(x:Str):Option D:=Zh kvs (.inr x)
section
variable {S:ZU}{m:Nat}{kvs:KD} (h:S[m]?=some (.dk kvs)) (x:Str)
include h
theorem Dn:dictAt S m (.str x)=Z9 (tv kvs x):=by unfold dictAt;rw[h];rfl
theorem V9(neg:Bool):Ya neg (.str x) (.dct m) S=.ok (.bl (if neg then !(tv kvs x).isSome else(tv kvs x).isSome)) S:=by show(match dictAt S m (.str x)with|some o=>R.ok (D.bl (if neg then !o.isSome else o.isSome)) S|none=>.bad)=_;rw[Dn h]
theorem VX(e:tv kvs x=Z9 d):ZI (.dct m) (.str x) S=.ok d S:=by
 have q:=Dn h x;unfold ZI
 simp_all
theorem Qv(a:kvs.length<lim)(d:D):XM (.dct m) (.str x) d S=Z9 (S.set m (.dk (Zu kvs (.inr x) d))):=by unfold XM;dsimp only;rw[h];show(if kvs.length<lim then Z9 (S.set m (.dk (Zu kvs (.inr x) d)))else Z8)=_;rw[if_pos a]
theorem Dm:Vr [.dct m] S=.ok (.dct S.length) (S++[.dk kvs]):=by
 unfold Vr
 simp_all
end
inductive Tn(kept kvs:KD)(k:Str)(t t':KD):Prop
 |no (a:tv kvs k=Z8) (e:t'=t)
 |yes (x:Str) (d:D) (a:tv kvs k=Z9 (.str x)) (b:tv kept x=Z9 d) (e:t'=Zu t (.inr k) d)
theorem Qu(t:KD)(k:ZA)(d:D):(Zu t k d).length<=t.length+1:=by unfold Zu;split<;>simp
theorem Tn.len(h:Tn kept kvs k t t'):t'.length<=t.length+1:=by
 cases h with
 |no _ e=>rw[e];lia
 |yes x d _ _ e=>rw[e];exact Qu _ _ _
theorem kr(c:ZO)(q:Ya Z5 (.str k) (.dct m) S=.ok (.bl Z5) S):Tz c [Z9 (.ob i),Z9 (.dct m),Z9 (.dct t),Z9 (.str k)] S=.nx [Z9 (.ob i),Z9 (.dct m),Z9 (.dct t),Z9 (.str k)] S:=by simp[Tz,q]
theorem ko(c:ZO)(q:Ya Z5 (.str k) (.dct m) S=.ok (.bl Z7) S)(e:ZI (.dct m) (.str k) S=.ok (.str x) S)(a:Ya Z7 (.str x) (.dct i) S=.ok (.bl Z5) S)(b:ZI (.dct i) (.str x) S=.ok d S)(s:XM (.dct t) (.str k) d S=Z9 S1):
  Tz c [Z9 (.ob i),Z9 (.dct m),Z9 (.dct t),Z9 (.str k)] S=.nx [Z9 (.ob i),Z9 (.dct m),Z9 (.dct t),Z9 (.str k)] S1:=by have o:∀S,U4 (.ob i) S=.ok (.dct i) S:=λ_=>rfl;simp[Tz,q,e,a,b,s,o]
theorem kn(c:ZO)(q:Ya Z5 (.str k) (.dct m) S=.ok (.bl Z7) S)(b:ZI (.dct m) (.str k) S=.ok (.str x) S)(a:Ya Z7 (.str x) (.dct i) S=.ok (.bl Z7) S):
  Tz c [Z9 (.ob i),Z9 (.dct m),Z9 (.dct t),Z9 (.str k)] S=.er "NoName" S:=by have o:∀S,U4 (.ob i) S=.ok (.dct i) S:=λ_=>rfl;simp[Tz,q,b,a,o]
theorem II(c:ZO)(hk:S[i]?=Z9 (.dk kept))(h:S[m]?=Z9 (.dk kvs))(j:S[t]?=Z9 (.dk l))(o:l.length<100)(T:Tn kept kvs k l f):
  ∃g,Tz c [Z9 (.ob i),Z9 (.dct m),Z9 (.dct t),Z9 (.str k)] S=.nx [Z9 (.ob i),Z9 (.dct m),Z9 (.dct t),Z9 (.str k)] g/\Kp (·=t) S g/\g[t]?=Z9 (.dk f):=by
 cases T with
 |no a e =>
  subst e;have q:=V9 h k Z5;rw[a]at q;exact⟨S,kr c q,Kp.refl _ _,j⟩
 |yes x d a b e =>
  subst e;have q:=V9 h k Z5;rw[a]at q;have n:=V9 hk x Z7;rw[b]at n;exact⟨_,ko c q (VX h k a) n (VX hk x b) (Qv j k (qA9 o (by decide)) d),Vq _ _,qC7 (qA3.mp j).1⟩
theorem Dl(c:ZO)(f:Vr [.dct m] S=.ok (.dct t) S1):ON c [Z9 (.ob i),Z9 (.dct m),Z8,Z8] S=sb (Yr [] (gN 3) (Tz c) [.str (Str.ofString "A"),.str (Str.ofString "B")] [Z9 (.ob i),Z9 (.dct m),Z9 (.dct t),Z8] S1) (ZV (ZG (ZY 2)) ZL) .mk:=by simp[ON,f]
theorem Sz{ds:yM}(h:Ye w S)(f:g d B S=.ok c S1)(e:b c S1=.nx a S2):Yr w g b (d::ds) B S=Yr w g b ds a S2:=by
 conv=>lhs;unfold Yr
 simp_all
theorem km{ds:yM}(f:Ye w S)(e:g d B S=.ok a S1)(c:b a S1=.er x S2):Yr w g b (d::ds) B S=.er x S2:=by
 conv=>lhs;unfold Yr
 simp_all
section
variable (h:DV cl) (n:Nat) {i m:Nat}{kept kvs t1 t2:KD}{S:ZU} (hk:S[i]?=some (.dk kept)) (ha:S[m]?=some (.dk kvs)) (hl:kvs.length<=3)
include h hk ha hl
theorem kk(TA:Tn kept kvs "A" kvs t1)(u:Tn kept kvs "B" t1 t2):OB (cl (n+1) "Desk.with_nets" [.ob i,.dct m] S) S t2:=by
 have lt:∀{j:Nat}{o:O},S[j]?=Z9 o->j<S.length:=λe=>(qA3.mp e).1;obtain⟨S1,c⟩:∃S1,S++[O.dk kvs]=S1:=⟨_,rfl⟩
 have f:=Dm ha;rw[c]at f;have a:=c▸Zk _ _;have t:S1[S.length]?=Z9 (.dk kvs):=by rw[<- c,qA5 (qA4 _),qD5];rfl
 have y:=lt hk;have x:=lt ha;obtain⟨w,q,b,g⟩:=II (cl n) (a.at hk λz=>z) (a.at ha λz=>z) t (by lia) TA;obtain⟨S3,s,p,l⟩:=II (cl n) (b.at (a.at hk λz=>z) (by lia)) (b.at (a.at ha λz=>z) (by lia)) g (by have:=TA.len;lia) u;have v:Ex S S3:=by
  have k:=b.trans p;refine⟨qC6 a.le k.le,λj d r=>(k.eq j (qA9 d a.le) ?_).trans (a.eq j d r)⟩
  lia
 refine⟨S.length,S3,?_,l,v,qA4 _⟩;rw[h];refine YT rfl ((Dl _ f).trans ?_);rw[Sz (XJ _) rfl q,Sz (XJ _) rfl s];unfold Yr;rw[if_pos (XJ _)];rfl
theorem kj(TA:Tn kept kvs "A" kvs t1)(b:tv kvs "B"=Z9 (.str x))(v:tv kept x=Z8):Xm (cl (n+1) "Desk.with_nets" [.ob i,.dct m] S) "NoName" S:=by
 have lt:∀{j:Nat}{o:O},S[j]?=Z9 o->j<S.length:=λe=>(qA3.mp e).1;obtain⟨S1,k⟩:∃S1,S++[O.dk kvs]=S1:=⟨_,rfl⟩
 have f:=Dm ha;rw[k]at f;have a:=k▸Zk _ _;have u:S1[S.length]?=Z9 (.dk kvs):=by rw[<- k,qA5 (qA4 _),qD5];rfl
 have A:=lt hk;have y:=lt ha;obtain⟨S2,s,d,w⟩:=II (cl n) (a.at hk λz=>z) (a.at ha λz=>z) u (by lia) TA;have g:=d.at (a.at hk λz=>z) (by lia);have c:=d.at (a.at ha λz=>z) (by lia);have q:=V9 c "B" Z5;rw[b]at q;have l:=V9 g x Z7;rw[v]at l;have r:Ex S S2:=⟨qC6 a.le d.le,λj p t=>(d.eq j (qA9 p a.le) (by lia)).trans (a.eq j p t)⟩
 refine⟨S2,?_,r⟩;rw[h];refine WK rfl ((Dl _ f).trans ?_);rw[Sz (XJ _) rfl s,km (XJ _) rfl (kn _ q (VX c "B" b) l)];rfl
end
theorem ki(c:ZO)(a:Ya Z5 (.str (Str.ofString "S")) (.dct m) S=.ok (.bl Z5) S)(b:Ya Z5 (.str (Str.ofString "B")) (.dct m) S=.ok (.bl Z5) S):Rx c [Z9 (.dct m)] S=.nx [Z9 (.dct m)] S:=by simp[Rx,a,b]
theorem Dk(c:ZO)(b:Ya Z5 (.str (Str.ofString "S")) (.dct m) S=.ok (.bl Z5) S)(d:Ya Z5 (.str (Str.ofString "B")) (.dct m) S=.ok (.bl Z7) S)(g:ZI (.dct m) (.str (Str.ofString "A")) S=.ok i S)(e:ZI i (.int 0) S=.ok (.int sw) S)(f:ZI (.dct m) (.str (Str.ofString "B")) S=.ok nd' S)(j:ZI nd' (.int 0) S=.ok (.int a) S):Rx c [Z9 (.dct m)] S=if sw=a then .nx [Z9 (.dct m)] S else .er "BadNote" S:=by
 by_cases h:sw=a
 .subst h;simp[Rx,b,d,g,e,f,j]
 .simp[Rx,b,d,g,e,f,j,h]
theorem Mw(N:Zc)(S:ZU):ZI N.d (.int 0) S=.ok (.int N.sw) S:=by unfold Zc.d;simp
inductive Dj(t:KD):Prop
 |no (a:tv t "S"=Z8) (b:tv t "B"=Z8)
 |b (N N':Zc) (a:tv t "S"=Z8) (e:tv t "A"=Z9 N.d) (e':tv t "B"=Z9 N'.d) (l:N.sw=N'.sw)
theorem Mv(h:Je cl)(n:Nat)(d:S[m]?=Z9 (.dk t))(f:Dj t):cl (n+1) "refuse_unfit" [.dct m] S=.ok .non S:=by
 rw[h];refine oK rfl (B:=[Z9 (.dct m)]) ?_;have c:=V9 d "S" Z5;have g:=V9 d "B" Z5;cases f with
 |no a b=>rw[a]at c;rw[b]at g;exact ki _ c g
 |b N j a e i l =>
  rw[a]at c;rw[i]at g;have r:=Dk (cl n) c g (VX d "A" e) (Mw N S) (VX d "B" i) (Mw j S);rw[if_pos l]at r;exact r
theorem kh(h:Je cl)(n:Nat)(d:S[m]?=Z9 (.dk t)){N b:Zc}(a:tv t "S"=Z8)(e:tv t "A"=Z9 N.d)(c:tv t "B"=Z9 b.d)(l:N.sw≠b.sw):cl (n+1) "refuse_unfit" [.dct m] S=.er "BadNote" S:=by rw[h];refine WK rfl ?_;have f:=V9 d "S" Z5;have g:=V9 d "B" Z5;rw[a]at f;rw[c]at g;have r:=Dk (cl n) f g (VX d "A" e) (Mw N S) (VX d "B" c) (Mw b S);rw[if_neg l]at r;exact r
section
variable (c:ZO) {i k m t:Nat}{z v nm x:Str}{nd d:D}{S S1 S2 S3 S4 S5:ZU} (e1:c "words_of" [.str z] S=.ok (.lst k) S1)
theorem Di(S:ZU):U4 (.ob i) S=.ok (.dct i) S:=rfl
theorem Dh(a:c "line_read" [.lst k] S1=.ok (.dct m) S2)(b:c "Desk.with_nets" [.ob i,.dct m] S2=r):TQ (c "Desk.with_nets") (ZY 0) (YF (c "line_read") (ZS [(ZY 2)])) [Z9 (.ob i),Z9 (.str z),Z9 (.lst k),Z8] S1=r:=by
 have q:YF (c "line_read") (ZS [(ZY 2)]) [Z9 (.ob i),Z9 (.str z),Z9 (.lst k),Z8] S1=.ok (.dct m) S2:=by simp[a]
 show(match YF (c "line_read") (ZS [(ZY 2)]) [Z9 (.ob i),Z9 (.str z),Z9 (.lst k),Z8] S1 with
  |.ok x S2=>c "Desk.with_nets" [.ob i,x] S2
  |.er c S2=>.er c S2
  | .bad=>.bad)=_
 rw[q];exact b
theorem kg(a:c "line_read" [.lst k] S1=.er x S2):TQ (c "Desk.with_nets") (ZY 0) (YF (c "line_read") (ZS [(ZY 2)])) [Z9 (.ob i),Z9 (.str z),Z9 (.lst k),Z8] S1=.er x S2:=by
 have q:YF (c "line_read") (ZS [(ZY 2)]) [Z9 (.ob i),Z9 (.str z),Z9 (.lst k),Z8] S1=.er x S2:=by unfold YF;simp[a]
 show(match YF (c "line_read") (ZS [(ZY 2)]) [Z9 (.ob i),Z9 (.str z),Z9 (.lst k),Z8] S1 with
  |.ok x S2=>c "Desk.with_nets" [.ob i,x] S2
  |.er c S2=>.er c S2
  | .bad=>.bad)=_
 rw[q]
include e1
theorem Dg(w:TQ (c "Desk.with_nets") (ZY 0) (YF (c "line_read") (ZS [(ZY 2)])) [Z9 (.ob i),Z9 (.str z),Z9 (.lst k),Z8] S1=.er x S2):Wa c [Z9 (.ob i),Z9 (.str z),Z8,Z8] S=.er x S2:=by simp[Wa,e1,w]
variable (w:TQ (c "Desk.with_nets") (ZY 0) (YF (c "line_read") (ZS [(ZY 2)])) [some (.ob i),some (.str z),some (.lst k),none] S1=.ok (.dct t) S3)
include w
theorem kf(a:c "refuse_unfit" [.dct t] S3=.er x S4):Wa c [Z9 (.ob i),Z9 (.str z),Z8,Z8] S=.er x S4:=by simp[Wa,e1,w,a]
variable (e4:c "refuse_unfit" [.dct t] S3=.ok .non S3) (i0:ZI (.lst k) (.int 0) S3=.ok (.str v) S3)
include e4 i0
theorem ke(q:Ze (.str v) (.str (Str.ofString "nets")) S3=.ok (.bl Z5) S3)(b:Ya Z5 (.str (Str.ofString "N")) (.dct t) S3=.ok (.bl Z7) S3)(a:c "net_made" [.str v,.dct t] S3=.er x S4):
  Wa c [Z9 (.ob i),Z9 (.str z),Z8,Z8] S=.er x S4:=by simp[Wa,e1,w,e4,i0,q,b,a]
theorem j0(q:Ze (.str v) (.str (Str.ofString "nets")) S3=.ok (.bl Z5) S3)(a:Ya Z5 (.str (Str.ofString "N")) (.dct t) S3=.ok (.bl Z7) S3)(b:c "net_made" [.str v,.dct t] S3=.ok nd S4)(e:ZI (.dct t) (.str (Str.ofString "N")) S4=.ok (.str nm) S4)(s:XM (.dct i) (.str nm) nd S4=Z9 S5):
  Wa c [Z9 (.ob i),Z9 (.str z),Z8,Z8] S=.rt (.str (Str.ofString "ok")) S5:=by have o:=Di (i:=i);simp[Wa,e1,w,e4,i0,q,a,b,o,e,s]
theorem jz(q:Ze (.str v) (.str (Str.ofString "nets")) S3=.ok (.bl Z5) S3)(b:Ya Z5 (.str (Str.ofString "N")) (.dct t) S3=.ok (.bl Z5) S3)(a:c "answer" [.str v,.dct t] S3=.ok d S4):
  Wa c [Z9 (.ob i),Z9 (.str z),Z8,Z8] S=.rt d S4:=by simp[Wa,e1,w,e4,i0,q,b,a]
theorem jy(q:Ze (.str v) (.str (Str.ofString "nets")) S3=.ok (.bl Z7) S3)(f:Xe [.dct i] S3=.ok (.lst j) S4)(a:W4 (.str (Str.ofString " ")) [.lst j] S4=.ok d S5):
  Wa c [Z9 (.ob i),Z9 (.str z),Z8,Z8] S=.rt d S5:=by have o:=Di (i:=i);have b:YX "str" (.str (Str.ofString " ")) S3=Z7:=rfl;simp[Wa,e1,w,e4,i0,q,o,b,f,a]
end
structure Xl(cl:Nat->ZO):Prop where
 wo:MY cl
 lr:D5 cl
 wr:MZ cl
 nr:QE cl
 nu:nh cl
 wn:DV cl
 ru:Je cl
 sy:mh cl
 nm:ng cl
 an:mr cl
 ao:mu cl
 rd:IT cl
abbrev kvO(its:List Wn):KD:=its.map λa=>(.inr a.1,a.2.2)
structure Ln(cl:Nat->ZO)(n:Nat)(z v:Str)(its:List Wn):Prop where
 w:WI cl z (v::its.map (·.2.1))
 f:Xz.lookup v=Z9 (its.map (·.1))
 r:∀a∈its,WR (cl n) a
 nd:(its.map (·.1)).Nodup
 l:its.length<=3
theorem OA(H:Xl cl){ws:yH}(w:WI cl z (v::ws))(he:∀k S,ZC S k=Z9 ((v::ws).map D.str)->Xm (cl (n+1) "line_read" [.lst k] S) "BadNote" S)(S:ZU):Xm (cl (n+2) "Desk.say" [.ob i,.str z] S) "BadNote" S:=by have d:=w n S;obtain⟨a,b,c⟩:=he S.length (S++[.lst ((v::ws).map D.str)]) (Y9 _ _);refine⟨a,?_,(Zk _ _).trans c⟩;rw[show n+2=(n+1)+1 from rfl,H.sy];exact WK rfl (Dg _ d (kg _ b))
inductive IH(c:ZO)(i:Nat)(z v:Str)(its:List Wn)(S:ZU):Prop
 |mk (k m:Nat) (S1 S2:ZU) (e1:c "words_of" [.str z] S=.ok (.lst k) S1) (e2:c "line_read" [.lst k] S1=.ok (.dct m) S2) (d:S2[m]?=Z9 (.dk (kvO its))) (l:ZC S2 k=Z9 ((v::its.map (·.2.1)).map D.str)) (x:Ex S S2)
theorem Oz(H:Xl cl)(L:Ln cl n z v its)(S:ZU):IH (cl (n+1)) i z v its S:=by
 have c:=L.w n S;obtain⟨S1,a⟩:∃S1,S++[O.lst ((v::its.map (·.2.1)).map D.str)]=S1:=⟨_,rfl⟩
 rw[a]at c;have g:=a▸Zk _ _;have d:ZC S1 S.length=Z9 ((v::its.map (·.2.1)).map D.str):=by rw[<- a,Y9]
 obtain⟨m,h,f,e,b,_⟩:=ku H.lr n L.f L.r L.nd L.l d;exact⟨_,_,_,_,c,f,e,b.lst d λz=>z,g.trans b⟩
inductive IG(c:ZO)(i:Nat)(z v:Str)(S:ZU)(tt:KD):Prop
 |mk (k t:Nat) (S1 S3:ZU) (e1:c "words_of" [.str z] S=.ok (.lst k) S1) (w:TQ (c "Desk.with_nets") (ZY 0) (YF (c "line_read") (ZS [(ZY 2)])) [Z9 (.ob i),Z9 (.str z),Z9 (.lst k),Z8] S1=.ok (.dct t) S3) (i0:ZI (.lst k) (.int 0) S3=.ok (.str v) S3) (d:S3[t]?=Z9 (.dk tt)) (x:Ex S S3)
section
variable (H:Xl cl) {n i:Nat}{kept tt t1:KD}{z v nm:Str}{nd:D}{its:List Wn}{S:ZU} (L:Ln cl n z v its) (hk:S[i]?=some (.dk kept))
include H L hk
theorem Oy(TA:Tn kept (kvO its) "A" (kvO its) t1)(f:Tn kept (kvO its) "B" t1 tt):IG (cl (n+1)) i z v S tt:=by obtain⟨k,m,q,p,h,e,d,l,a⟩:=Oz H L (i:=i) S;obtain⟨t,o,g,j,c,_⟩:=kk H.wn n (a.at hk λz=>z) d (by rw[qA6];exact L.l) TA f;have b:=Xc (c.lst l λz=>z) 0;rw[qB2,Nf]at b;exact⟨_,_,_,_,h,Dh _ e g,b,j,a.trans c⟩
theorem jx(TA:Tn kept (kvO its) "A" (kvO its) t1)(b:tv (kvO its) "B"=Z9 (.str x))(e:tv kept x=Z8):Xm (cl (n+2) "Desk.say" [.ob i,.str z] S) "NoName" S:=by obtain⟨k,m,p,l,h,f,c,o,a⟩:=Oz H L (i:=i) S;obtain⟨d,g,j⟩:=kj H.wn n (a.at hk λz=>z) c (by rw[qA6];exact L.l) TA b e;refine⟨d,?_,a.trans j⟩;rw[show n+2=(n+1)+1 from rfl,H.sy];exact WK rfl (Dg _ h (Dh _ f g))
variable (TA:Tn kept (kvO its) "A" (kvO its) t1) (TB:Tn kept (kvO its) "B" t1 tt)
include TA TB
theorem jw{N b:Zc}(a:tv tt "S"=Z8)(e:tv tt "A"=Z9 N.d)(f:tv tt "B"=Z9 b.d)(l:N.sw≠b.sw):Xm (cl (n+2) "Desk.say" [.ob i,.str z] S) "BadNote" S:=by obtain⟨k,t,j,c,g,w,h,d,x⟩:=Oy H L hk TA TB;refine⟨c,?_,x⟩;rw[show n+2=(n+1)+1 from rfl,H.sy];exact WK rfl (kf _ g w (kh H.ru n d a e f l))
variable (fit:Dj tt)
include fit
theorem Df(e:decide (v=Str.ofString "nets")=Z5)(b:(tv tt "N").isSome=Z7)(made:∀(t:Nat) (S3:ZU),S3[t]?=Z9 (.dk tt)->Xm (cl (n+1) "net_made" [.str v,.dct t] S3) y S3):Xm (cl (n+2) "Desk.say" [.ob i,.str z] S) y S:=by obtain⟨k,t,l,S3,f,w,h,d,x⟩:=Oy H L hk TA TB;have a:=V9 d "N" Z5;rw[b]at a;obtain⟨g,j,c⟩:=made t S3 d;refine⟨g,?_,x.trans c⟩;rw[show n+2=(n+1)+1 from rfl,H.sy];exact WK rfl (ke _ f w (Mv H.ru n d fit) h (by show R.ok (D.bl (decide (v=_))) S3=_;rw[e]) a j)
theorem jv(j:kept.length<100)(h:decide (v=Str.ofString "nets")=Z5)(e:tv tt "N"=Z9 (.str nm))(made:∀(t:Nat) (S3:ZU),S3[t]?=Z9 (.dk tt)->Xb (cl (n+1) "net_made" [.str v,.dct t] S3) nd S3):
  ∃c,cl (n+2) "Desk.say" [.ob i,.str z] S=.ok (.str (Str.ofString "ok")) c/\Kp (·=i) S c/\c[i]?=Z9 (.dk (Zu kept (.inr nm) nd)):=by obtain⟨k,t,p,S3,g,w,m,d,x⟩:=Oy H L hk TA TB;have f:=V9 d "N" Z5;rw[e]at f;obtain⟨o,l,b⟩:=made t S3 d;have a:=b.at (x.at hk λz=>z) λz=>z;refine⟨_,?_,(x.trans b).kp.trans (Vq _ _),qC7 (qA3.mp a).1⟩;rw[show n+2=(n+1)+1 from rfl,H.sy];exact YT rfl (j0 _ g w (Mv H.ru n d fit) m (by show R.ok (D.bl (decide (v=_))) S3=_;rw[h]) f l (VX (b.at d λz=>z) "N" e) (Qv a nm (qA9 j (by decide)) nd))
theorem ju(g:decide (v=Str.ofString "nets")=Z5)(e:tv tt "N"=Z8)(a:∀(t:Nat) (S3:ZU),S3[t]?=Z9 (.dk tt)->Xb (cl (n+1) "answer" [.str v,.dct t] S3) d S3):Xb (cl (n+2) "Desk.say" [.ob i,.str z] S) d S:=by obtain⟨k,t,o,S3,h,w,l,b,x⟩:=Oy H L hk TA TB;have c:=V9 b "N" Z5;rw[e]at c;obtain⟨j,m,f⟩:=a t S3 b;refine⟨j,?_,x.trans f⟩;rw[show n+2=(n+1)+1 from rfl,H.sy];exact YT rfl (jz _ h w (Mv H.ru n b fit) l (by show R.ok (D.bl (decide (v=_))) S3=_;rw[g]) c m)
end
abbrev kA:ZA:=.inr (Str.ofString "A")
abbrev kB:ZA:=.inr (Str.ofString "B")
abbrev kN:ZA:=.inr (Str.ofString "N")
abbrev kS:ZA:=.inr (Str.ofString "S")
abbrev kT:ZA:=.inr (Str.ofString "TEXT")
theorem Qt(d e:D):Zh [(kN,d),(kT,e)] kA=Z8/\Zh [(kN,d),(kT,e)] kB=Z8/\Zh [(kN,d),(kT,e)] kS=Z8/\Zh [(kN,d),(kT,e)] kN=Z9 d/\Zh [(kN,d),(kT,e)] kT=Z9 e:=by refine⟨?_,?_,?_,?_,?_⟩<;>kernel_rfl
theorem Xq(d e f:D):Zh [(kA,d),(kB,e),(kN,f)] kA=Z9 d/\Zh [(kA,d),(kB,e),(kN,f)] kB=Z9 e/\Zh [(kA,d),(kB,e),(kN,f)] kS=Z8/\Zh [(kA,d),(kB,e),(kN,f)] kN=Z9 f:=by refine⟨?_,?_,?_,?_⟩<;>kernel_rfl
theorem Ru(d e f x y:D):Zu [(kA,d),(kB,e),(kN,f)] kA x=[(kA,x),(kB,e),(kN,f)]/\Zu [(kA,x),(kB,e),(kN,f)] kB y=[(kA,x),(kB,y),(kN,f)]:=by refine⟨?_,?_⟩<;>kernel_rfl
theorem Qs(d:D):Zh [(kA,d)] kA=Z9 d/\Zh [(kA,d)] kB=Z8/\Zh [(kA,d)] kS=Z8/\Zh [(kA,d)] kN=Z8:=by refine⟨?_,?_,?_,?_⟩<;>kernel_rfl
theorem jt(d x:D):Zu [(kA,d)] kA x=[(kA,x)]:=by kernel_rfl
section
variable {n:Nat}{z v:Str}{kept:KD}
theorem IF(H:Xl cl){x:Str}(c:Zf x=Z7)(w:WI cl z [v,x])(f:Xz.lookup v=Z9 [Str.ofString "A"]):Ln cl (n+2) z v [(Str.ofString "A",x,.str x)] where
 w:=w
 f:=f
 r:=λa b=>by simp only[qA8,qB8,or_false]at b;subst b;exact Tv H.wr H.nr n (by decide) c
 nd:=(by decide:([Str.ofString "A"]).Nodup)
 l:=qI1 rfl
theorem Mu(H:Xl cl){x y o:Str}(d:Zf x=Z7)(c:Zf y=Z7)(mo:Zf o=Z7)(w:WI cl z [v,x,y,o])(f:Xz.lookup v=Z9 [Str.ofString "A",Str.ofString "B",Str.ofString "N"]):
  Ln cl (n+2) z v [(Str.ofString "A",x,.str x),(Str.ofString "B",y,.str y),(Str.ofString "N",o,.str o)] where
 w:=w
 f:=f
 r:=λa b=>by
  simp only[qA8,qB8,or_false]at b;rcases b with rfl|rfl|rfl
  .exact Tv H.wr H.nr n (by decide) d
  .exact Tv H.wr H.nr n (by decide) c
  .exact Tv H.wr H.nr n (by decide) mo
 nd:=(by decide:([Str.ofString "A",Str.ofString "B",Str.ofString "N"]).Nodup)
 l:=qI1 rfl
theorem jr(H:Xl cl){x:Str}(c:Zf x=Z7){N:Zc}(ok:N.g)(w:WI cl z [nW,x,YC N]):Ln cl (n+6) z nW [(Str.ofString "N",x,.str x),(Str.ofString "TEXT",YC N,N.d)] where
 w:=w
 f:=by kernel_rfl
 r:=λa b=>by
  simp only[qA8,qB8,or_false]at b;rcases b with rfl|rfl
  .exact Tv H.wr H.nr (n+4) (by decide) c
  .exact kC H.wr H.rd n ok
 nd:=(by decide:([Str.ofString "N",Str.ofString "TEXT"]).Nodup)
 l:=qI1 rfl
end
section
variable (c:ZO) {v:Str}{t:Nat}{d a b:D}{r:R D}{S S1:ZU}
theorem IE(q:Ze (.str v) (.str (Str.ofString "net")) S=.ok (.bl Z7) S)(i:ZI (.dct t) (.str (Str.ofString "TEXT")) S=.ok d S):SO c [Z9 (.str v),Z9 (.dct t)] S=.rt d S:=by simp[SO,q,i]
theorem ID(q:Ze (.str v) (.str (Str.ofString "net")) S=.ok (.bl Z5) S)(f:Ze (.str v) (.str (Str.ofString "row")) S=.ok (.bl Z7) S)(i:ZI (.dct t) (.str (Str.ofString "A")) S=.ok a S)(j:ZI (.dct t) (.str (Str.ofString "B")) S=.ok b S)(e:c "in_row" [a,b] S=.er x S1):SO c [Z9 (.str v),Z9 (.dct t)] S=.er x S1:=by simp[SO,q,f,i,j,e]
theorem IC(q:Ze (.str v) (.str (Str.ofString "net")) S=.ok (.bl Z5) S)(f:Ze (.str v) (.str (Str.ofString "row")) S=.ok (.bl Z5) S)(g:Ze (.str v) (.str (Str.ofString "side")) S=.ok (.bl Z7) S)(i:ZI (.dct t) (.str (Str.ofString "A")) S=.ok a S)(j:ZI (.dct t) (.str (Str.ofString "B")) S=.ok b S)(e:c "side_by_side" [a,b] S=.er x S1):SO c [Z9 (.str v),Z9 (.dct t)] S=.er x S1:=by simp[SO,q,f,g,i,j,e]
theorem Iz(q:Ya Z5 (.str (Str.ofString "S")) (.dct t) S=.ok (.bl Z5) S)(f:Ya Z5 (.str (Str.ofString "B")) (.dct t) S=.ok (.bl Z5) S)(i:ZI (.dct t) (.str (Str.ofString "A")) S=.ok a S)(e:c "answer_of" [.str v,a] S=.ok d S1):MX c [Z9 (.str v),Z9 (.dct t)] S=.rt d S1:=by simp[MX,q,f,i,e]
theorem jm(q:Ze (.str v) (.str (Str.ofString "show")) S=.ok (.bl Z7) S)(e:c "net_text" [a] S=.ok d S1):QB c [Z9 (.str v),Z9 a] S=.rt d S1:=by simp[QB,q,e]
theorem jl(q:Ze (.str v) (.str (Str.ofString "show")) S=.ok (.bl Z5) S)(g:Ze (.str v) (.str (Str.ofString "function")) S=.ok (.bl Z5) S)(i:Ze (.str v) (.str (Str.ofString "fewest")) S=.ok (.bl Z7) S)(e:c "function_of" [a] S=.ok b S1)(f:c "fewest" [b] S1=.ok d S2)(h:YW [d] S2=.ok x S3):QB c [Z9 (.str v),Z9 a] S=.rt x S3:=by simp[QB,q,g,i,e,f,h]
end
theorem Xp(h:decide (a=b)=r)(S:ZU):Ze (.str a) (.str b) S=.ok (.bl r) S:=by show R.ok (D.bl (decide (a=b))) S=_;rw[h]
section
variable {n i:Nat}{kept:KD}{z:Str}{S:ZU}{N:Zc}
inductive De(r:R D)(i:Nat)(S:ZU)(kept:KD):Prop
 |mk (S':ZU) (e:r=.ok (.str (Str.ofString "ok")) S') (k:Kp (·=i) S S') (d:S'[i]?=Z9 (.dk kept))
theorem jk(H:Xl cl)(f:Zf x=Z7)(ok:N.g)(w:WI cl z [nW,x,YC N])(hk:S[i]?=Z9 (.dk kept))(b:kept.length<100):De (cl (n+8) "Desk.say" [.ob i,.str z] S) i S (Zu kept (.inr x) N.d):=by
 obtain⟨c,e,k,d⟩:=jv H (jr (n:=n) H f ok w) hk (.no (Qt _ _).1 rfl) (.no (Qt _ _).2.1 rfl) (.no (Qt _ _).2.2.1 (Qt _ _).2.1) b (by decide) (Qt _ _).2.2.2.1 λt a d=>⟨a,by
  rw[H.nm];exact YT rfl (IE _ (Xp (by decide) a) (VX d "TEXT" (Qt _ _).2.2.2.2)),Kp.refl _ _⟩
 exact⟨c,e,k,d⟩
theorem Dd(H:Xl cl)(l:Zf x=Z7)(w:WI cl z [v,x])(f:Xz.lookup v=Z9 [Str.ofString "A"])(h:decide (v=Str.ofString "nets")=Z5)(a:tv kept x=Z9 N.d)(hk:S[i]?=Z9 (.dk kept))(b:∀S3,Xb (cl (n+2) "answer_of" [.str v,N.d] S3) d S3):
  Xb (cl (n+4) "Desk.say" [.ob i,.str z] S) d S :=
 ju H (IF (n:=n) H l w f) hk (.yes _ _ (Qs _).1 a (jt _ _).symm) (.no (Qs _).2.1 rfl) (.no (Qs _).2.2.1 (Qs _).2.1) h (Qs _).2.2.2 λt S3 c=>by obtain⟨k,j,g⟩:=b S3;refine⟨k,?_,g⟩;have q:=V9 c "S" Z5;have e:=V9 c "B" Z5;rw[H.an];exact YT rfl (Iz _ q e (VX c "A" (Qs _).1) j)
theorem jj(H:Xl cl)(f:Zf x=Z7)(w:WI cl z [Str.ofString "show",x])(ok:N.g)(a:tv kept x=Z9 N.d)(hk:S[i]?=Z9 (.dk kept)):Xb (cl (n+5) "Desk.say" [.ob i,.str z] S) (.str (YC N)) S :=
 Dd (n:=n+1) H f w (by kernel_rfl) (by decide) a hk λb=>by obtain⟨e,d,c⟩:=DH H.rd.nt H.rd.ct n ok b;refine⟨e,?_,c⟩;rw[H.ao];exact YT rfl (jm _ (Xp (by decide) b) d)
end
theorem Dc{l:yA}{k:Int}(a:0<=k)(b:k<l.length):X0 (l.map D.int) k=Z9 (.int (l.getD k.toNat 0)):=by
 have e:l[k.toNat]?=Z9 (l.getD k.toNat 0):=by rw[qP1,qA7 (by lia)];rfl
 have q:=WO (xs:=l.map D.int) (by rw[qC1,e];rfl);rw[show(k.toNat:Int)=k by lia]at q;exact q
def Ct.mv(f:Int->Int)(c:Ct):Ct:=⟨if f c.b<f c.a then f c.b else f c.a,if f c.b>f c.a then f c.b else f c.a,c.k,c.o⟩
def Yl(a:yA)(p:Int):Int:=a.getD p.toNat 0
theorem jh(x y:Int):Ue [x,y]=[if y<x then y else x,if y>x then y else x]:=by
 show WW x [y]=_;unfold WW;by_cases h:x<=y
 .rw[if_pos h,if_neg (by lia)]
  grind
 .rw[if_neg h,if_pos (by lia),if_neg (by lia)];rfl
theorem jg(c:Ct):Yv [.int c.a,.int c.b,.int c.k,.int c.o] (Z9 2) Z8=[.int c.k,.int c.o]:=rfl
def Iy(a:yA)(c:Ct):Prop:=(0<=c.a/\c.a<a.length)/\0<=c.b/\c.b<a.length
theorem jf(h:Jm cl)(n:Nat)(d:Iy a c)(i:ZC S j=Z9 (a.map D.int)):Xb (cl (n+1) "moved_contact" [c.d,.lst j] S) ((c.mv (Yl a)).d) S:=by
 have e:=Xc i c.a;have f:=Xc i c.b;rw[Dc d.1.1 d.1.2]at e;rw[Dc d.2.1 d.2.2]at f;have k:=Zk S [.lst [.int (Yl a c.a),.int (Yl a c.b)]];have b:=Ed (ns:=[Yl a c.a,Yl a c.b]) (Y9 S [.int (Yl a c.a),.int (Yl a c.b)]) (by show 2<64;decide);rw[jh]at b;have g:=O7 (Y9 (S++[.lst [.int (Yl a c.a),.int (Yl a c.b)]]) (([if Yl a c.b<Yl a c.a then Yl a c.b else Yl a c.a,if Yl a c.b>Yl a c.a then Yl a c.b else Yl a c.a]).map D.int));refine⟨_,?_,k.trans (Zk _ [.lst (([if Yl a c.b<Yl a c.a then Yl a c.b else Yl a c.a,if Yl a c.b>Yl a c.a then Yl a c.b else Yl a c.a]).map D.int)])⟩;rw[h];refine YT rfl ?_;have l:(2+2)<=lim:=by decide
 unfold Ct.mv Ct.d;change ZI (.lst j) (.int c.a) S=.ok (.int (Yl a c.a)) S at e;change ZI (.lst j) (.int c.b) S=.ok (.int (Yl a c.b)) S at f;generalize Yl a c.a=A at *;generalize Yl a c.b=BB at *;generalize (if BB>A then BB else A)=ma at *;generalize hS1:S++[O.lst [.int A,.int BB]]=S1 at *;simp only[qB2,qF8]at b g;have b:Xe [.lst S.length] S1=_:=b;simp[Jn,Yu,e,f,hS1,b,g,jg,l]
theorem Iw(h:Ea cl)(k:Jm cl)(n:Nat){a:yN}(r:a.length<=100)(q:∀c∈a,Iy b c)(o:ZC S j=Z9 (b.map D.int)):
  ∃g S1,cl (n+2) "moved" [.tup (a.map Ct.d),.lst j] S=.ok (.tup g) S1/\Ex S S1/\g.length=a.length:=by
 obtain⟨f,s,i⟩:=Jw Ct.d (w:=[]) (t:=.one) (c:=Jl (cl (n+1))) (B0:=[Z8,Z9 (.lst j)]) (λd=>Ex S d) (λd _=>XJ d) (λc=>(c.mv (Yl b)).d) a (Kp.refl _ _)
  (λc e d x=>by
   obtain⟨l,m,p⟩:=jf k n (q c e) (x.lst o λz=>z);exact⟨_,rfl,l,by simp[Jl,m],x.trans p⟩)
 have u:=O7 (Y9 f (a.map λc=>(c.mv (Yl b)).d));have v:(a.map Ct.d).length<lim:=by rw[qA6];have:=DQ;lia
 refine⟨a.map λc=>(c.mv (Yl b)).d,_,?_,i.trans (Zk f [.lst (a.map λc=>(c.mv (Yl b)).d)]),qA6 _⟩;rw[show n+2=(n+1)+1 from rfl,h];refine YT rfl ?_;generalize (a.map λc=>(c.mv (Yl b)).d)=R1 at *;generalize a.map Ct.d=R at *
 simp_all [Jk,Yu]
theorem Iv{x y lo hi:Int}(g:lo<=hi)(d:hi - lo<=100)(f:-1000<=lo/\hi<=1000):
  ∃S1,Wb [.int lo,.int hi] (S++[.lst [.int x,.int y]])=.ok (.lst (S.length+1)) (S++[.lst [.int x,.int y]]++[.lst (Y7 lo (hi - lo).toNat)])/\ZQ (.lst S.length) (.lst (S.length+1)) (S++[.lst [.int x,.int y]]++[.lst (Y7 lo (hi - lo).toNat)])=.ok (.lst (S.length+2)) S1/\Ex S S1 /\
   ZC S1 (S.length+2)=Z9 (([x,y]++(List.range (hi - lo).toNat).map fun(k:Nat)=>lo+(k:Int)).map D.int):=by
 have e:([x,y]++(List.range (hi - lo).toNat).map fun(k:Nat)=>lo+(k:Int)).map D.int=[.int x,.int y]++Y7 lo (hi - lo).toNat:=by rw[qE3,qE1];rfl
 have c:ZC (S++[.lst [.int x,.int y]]++[.lst (Y7 lo (hi - lo).toNat)]) S.length=Z9 [.int x,.int y]:=O6 (Y9 _ _);have b:ZC (S++[.lst [.int x,.int y]]++[.lst (Y7 lo (hi - lo).toNat)]) (S.length+1)=Z9 (Y7 lo (hi - lo).toNat):=by have:=Y9 (S++[.lst [.int x,.int y]]) (Y7 lo (hi - lo).toNat);rw[show(S++[O.lst [.int x,.int y]]).length=S.length+1 by simp]at this;exact this
 have a:=QH c b (by rw[Vp,X6];show 2+_<=_;lia);have len:(S++[O.lst [.int x,.int y]]++[O.lst (Y7 lo (hi - lo).toNat)]).length=S.length+2:=by simp
 rw[len]at a;refine⟨_,?_,a,((Zk _ _).trans (Zk _ _)).trans (Zk _ _),?_⟩
 .unfold Wb;dsimp only;rw[if_pos (by lia),show(S++[O.lst [.int x,.int y]]).length=S.length+1 by simp]
 .rw[<- len,Y9,e]
structure Sy(cl:Nat->ZO):Prop where
 dn:Xl cl
 mo:Ea cl
 mc:Jm cl
 ir:nV cl
 ss:nU cl
 nw:D9 cl
theorem Da(h:D9 cl)(n:Nat){R:yM}(c:7<pl∨16<(R.length:Int))(S:ZU):cl (n+1) "net_within" [.int sw,.int pl,.tup R] S=.er "TooMany" S:=by
 rw[h];refine WK rfl ?_;by_cases a:7<pl
 .simp[M7,Yu,a]
 .have b:16<(R.length:Int):=c.resolve_left a;simp[M7,Yu,a,b]
theorem je(c:ZO){N M:D}{f R2 b d:yM}{S A g C T a BB2:ZU}(s:N=.tup [.int sw,.int p,.tup f])(r:∀T,ZI M (.int 1) T=.ok (.int q) T)(m:∀T,ZI M (.int 2) T=.ok (.tup R2) T)
  (k:Wb [.int 2,.int p] (S++[.lst [.int 0,.int (p+q - 2)]])=.ok (.lst (S.length+1)) A) (l:ZQ (.lst S.length) (.lst (S.length+1)) A=.ok (.lst k1) g) (n:c "moved" [.tup f,.lst k1] g=.ok (.tup b) a)
  (h:Wb [.int p,.int (p+q - 2)] (a++[.lst [.int (p+q - 2),.int 1]])=.ok (.lst (a.length+1)) C) (j:ZQ (.lst a.length) (.lst (a.length+1)) C=.ok (.lst k2) T) (o:c "moved" [.tup R2,.lst k2] T=.ok (.tup d) BB2)
  (i:b.length+d.length<=lim) (e:c "net_within" [.int sw,.int (p+q - 2+1),.tup (b++d)] BB2=.er x BB2):M6 c (Yu 5 [N,M]) S=.er x BB2:=by subst s;simp[M6,Yu,r,m,k,l,n,h,j,o,i,e]
theorem jd(c:ZO){N M:D}{b R2 a:yM}{S C T BB2:ZU}(k:N=.tup [.int sw,.int p,.tup b])(j:∀T,ZI M (.int 1) T=.ok (.int q) T)(h:∀T,ZI M (.int 2) T=.ok (.tup R2) T)
  (d:Wb [.int p,.int (p+q - 2)] (S++[.lst [.int 0,.int 1]])=.ok (.lst (S.length+1)) C) (g:ZQ (.lst S.length) (.lst (S.length+1)) C=.ok (.lst k2) T) (i:c "moved" [.tup R2,.lst k2] T=.ok (.tup a) BB2)
  (f:b.length+a.length<=lim) (e:c "net_within" [.int sw,.int (p+q - 2),.tup (b++a)] BB2=.er x BB2):M5 c (Yu 4 [N,M]) S=.er x BB2:=by subst k;simp[M5,Yu,j,h,d,g,i,f,e]
theorem Iu{N:Zc}(ok:N.g)(x y lo:Int):∀c∈N.cs,Iy ([x,y]++(List.range (N.pl - 2).toNat).map fun(k:Nat)=>lo+(k:Int)) c:=λc b=>by obtain⟨a,d,e,_⟩:=ok.c2 c b;have:=ok.p1;refine⟨⟨a,?_⟩,by lia,?_⟩<;>(simp;lia)
theorem jc(H:Sy cl)(n:Nat){N g:Zc}(ok:N.g)(h:g.g)(D:7<N.pl+g.pl - 2+1∨16<N.cs.length+g.cs.length)(S:ZU):Xm (cl (n+3) "in_row" [N.d,g.d] S) "TooMany" S:=by have a:=ok.p1;have b:=ok.p2;have c:=h.p1;have d:=h.p2;have e:=ok.c1;have f:=h.c1;obtain⟨B,s,u,v,t⟩:=Iv (S:=S) (x:=0) (y:=N.pl+g.pl - 2) (lo:=2) (hi:=N.pl) (by lia) (by lia) (by lia);obtain⟨r,l,z,k,E⟩:=Iw H.mo H.mc n (by lia) (Iu ok 0 (N.pl+g.pl - 2) 2) t;obtain⟨T,m,o,q,p⟩:=Iv (S:=l) (x:=N.pl+g.pl - 2) (y:=1) (lo:=N.pl) (hi:=N.pl+g.pl - 2) (by lia) (by lia) (by lia);rw[show N.pl+g.pl - 2 - N.pl=g.pl - 2 by lia]at p m o;obtain⟨w,i,A,j,C⟩:=Iw H.mo H.mc n (by lia) (Iu h (N.pl+g.pl - 2) 1 N.pl) p;refine⟨i,?_,((v.trans k).trans q).trans j⟩;rw[show n+3=(n+2)+1 from rfl,H.ir];exact WK rfl (je _ (sw:=N.sw) rfl (λ_=>rfl) (λ_=>rfl) s u z m o A (by rw[X6];lia) (Da H.nw (n+1) (by rw[qC4];lia) i))
theorem jb(H:Sy cl)(n:Nat){N h:Zc}(ok:N.g)(g:h.g)(s:7<N.pl+h.pl - 2∨16<N.cs.length+h.cs.length)(S:ZU):Xm (cl (n+3) "side_by_side" [N.d,h.d] S) "TooMany" S:=by have a:=ok.p1;have b:=ok.p2;have c:=g.p1;have d:=g.p2;have e:=ok.c1;have f:=g.c1;obtain⟨T,k,l,o,m⟩:=Iv (S:=S) (x:=0) (y:=1) (lo:=N.pl) (hi:=N.pl+h.pl - 2) (by lia) (by lia) (by lia);rw[show N.pl+h.pl - 2 - N.pl=h.pl - 2 by lia]at m k l;obtain⟨p,i,q,j,r⟩:=Iw H.mo H.mc n (by lia) (Iu g 0 1 N.pl) m;refine⟨i,?_,o.trans j⟩;rw[show n+3=(n+2)+1 from rfl,H.ss];exact WK rfl (jd _ (sw:=N.sw) rfl (λ_=>rfl) (λ_=>rfl) k l q (by rw[qA6,X6];lia) (Da H.nw (n+1) (by rw[qC4,qA6];lia) i))
abbrev oS:String->Str:=Str.ofString
def Ms(z:Str)(ws:yH):Bool:=!(V5 z (oS "net "))&&decide ((((oS " ").length == 0)=Z5)/\z.length<=100/\(Builtin.Str.partsBetween z (Builtin.Str.occurrences z (oS " ") 0 z.length (z.length+1)) (oS " ").length).length<=100)&&decide (Txt.split z (oS " ")=ws)
theorem Vy(h:MY cl)(b:Ms z ws=Z7):WI cl z ws:=λn S=>by unfold Ms at b;simp only[qB3,qF6]at b;obtain⟨⟨c,a⟩,e⟩:=b;obtain⟨f,g,d⟩:=of_decide_eq_true a;rw[h];refine YT rfl (Dw _ c ?_);unfold VJ;dsimp only;rw[if_pos ⟨f,qC6 g (by decide),qC6 d (by decide)⟩,of_decide_eq_true e]
section
variable (H:Sy cl) {n i:Nat}{x y o z v:Str}{kept:KD}{S:ZU}{N M:Zc} (mx:Zf x=true) (my:Zf y=true) (mo:Zf o=true) (hk:S[i]?=some (.dk kept)) (a:tv kept x=some N.d)
include H mx my mo hk a
theorem Ox(w:WI cl z [v,x,y,o])(f:Xz.lookup v=Z9 [oS "A",oS "B",oS "N"])(b:tv kept y=Z9 M.d)(c:N.sw≠M.sw):Xm (cl (n+4) "Desk.say" [.ob i,.str z] S) "BadNote" S :=
 jw H.dn (Mu (n:=n) H.dn mx my mo w f) hk (.yes _ _ (Xq _ _ _).1 a (Ru _ _ _ _ N.d).1.symm) (.yes _ _ (Xq _ _ _).2.1 b (Ru (.str x) _ _ _ M.d).2.symm) (Xq _ _ _).2.2.1 (Xq _ _ _).1 (Xq _ _ _).2.1 c
theorem C9(w:WI cl z [v,x,y,o])(f:Xz.lookup v=Z9 [oS "A",oS "B",oS "N"])(b:tv kept y=Z8):Xm (cl (n+4) "Desk.say" [.ob i,.str z] S) "NoName" S :=
 jx H.dn (Mu (n:=n) H.dn mx my mo w f) hk (.yes _ _ (Xq _ _ _).1 a (Ru _ _ _ _ N.d).1.symm) (Xq _ _ _).2.1 b
theorem C8(w:WI cl z [oS "row",x,y,o])(c:N.g)(f:M.g)(b:tv kept y=Z9 M.d)(l:N.sw=M.sw)(h:7<N.pl+M.pl - 2+1∨16<N.cs.length+M.cs.length):Xm (cl (n+8) "Desk.say" [.ob i,.str z] S) "TooMany" S :=
 Df H.dn (Mu (n:=n+4) H.dn mx my mo w (by kernel_rfl)) hk (.yes _ _ (Xq _ _ _).1 a (Ru _ _ _ _ N.d).1.symm) (.yes _ _ (Xq _ _ _).2.1 b (Ru (.str x) _ _ _ M.d).2.symm) (.b N M (Xq _ _ _).2.2.1 (Xq _ _ _).1 (Xq _ _ _).2.1 l) (by decide) (by rw[show tv _ _=_ from(Xq N.d M.d (.str o)).2.2.2];rfl) λt e d=>by obtain⟨k,j,g⟩:=jc H (n+3) c f h e;refine⟨k,?_,g⟩;rw[H.dn.nm];exact WK rfl (ID _ (Xp (by decide) e) (Xp (by decide) e) (VX d "A" (Xq _ _ _).1) (VX d "B" (Xq _ _ _).2.1) j)
theorem C7(w:WI cl z [oS "side",x,y,o])(e:N.g)(f:M.g)(b:tv kept y=Z9 M.d)(l:N.sw=M.sw)(h:7<N.pl+M.pl - 2∨16<N.cs.length+M.cs.length):Xm (cl (n+8) "Desk.say" [.ob i,.str z] S) "TooMany" S :=
 Df H.dn (Mu (n:=n+4) H.dn mx my mo w (by kernel_rfl)) hk (.yes _ _ (Xq _ _ _).1 a (Ru _ _ _ _ N.d).1.symm) (.yes _ _ (Xq _ _ _).2.1 b (Ru (.str x) _ _ _ M.d).2.symm) (.b N M (Xq _ _ _).2.2.1 (Xq _ _ _).1 (Xq _ _ _).2.1 l) (by decide) (by rw[show tv _ _=_ from(Xq N.d M.d (.str o)).2.2.2];rfl) λt c d=>by obtain⟨k,j,g⟩:=jb H (n+3) e f h c;refine⟨k,?_,g⟩;rw[H.dn.nm];exact WK rfl (IC _ (Xp (by decide) c) (Xp (by decide) c) (Xp (by decide) c) (VX d "A" (Xq _ _ _).1) (VX d "B" (Xq _ _ _).2.1) j)
end
theorem ja(H:Xl cl){kept:KD}(hk:S[i]?=Z9 (.dk kept))(o:QT kept=Z9 ns)(l:ns.length<64)(j:dI (oS " ") (Yc ns)=Z7):Xb (cl (n+2) "Desk.say" [.ob i,.str (oS "nets")] S) (.str (Txt.join (oS " ") (Yc ns))) S:=by
 have L:Ln cl n (oS "nets") (oS "nets") []:=⟨Vy H.wo (by decide),by kernel_rfl,λa e=>absurd e (by simp),.nil,qF0 _⟩
 obtain⟨k,t,m,b,c,w,h,d,x⟩:=Oy H L hk (.no rfl rfl) (.no rfl rfl);have g:=x.at hk λz=>z;have f:Xe [.dct i] b=.ok (.lst b.length) (b++[.lst ((Yc ns).map D.str)]):=by
  unfold Xe
  simp_all
 refine⟨b++[.lst ((Yc ns).map D.str)],?_,x.trans (Zk _ _)⟩;rw[show n+2=(n+1)+1 from rfl,H.sy];exact YT rfl (jy _ c w (Mv H.ru n d (.no rfl rfl)) h (Xp (by decide) b) f (OL (Y9 _ _) j))
def XT(S:ZU)(p:Nat):Prop:=∃a b c:Int,ZC S p=Z9 [.int a,.int b,.int c]
theorem XT.ex(h:XT S p)(e:Ex S d):XT d p:=by obtain⟨a,b,c,q⟩:=h;exact⟨a,b,c,e.lst q λz=>z⟩
theorem XT.kp(h:XT S p)(e:Kp P S d)(n:¬P p):XT d p:=by obtain⟨a,b,c,q⟩:=h;exact⟨a,b,c,e.lst q n⟩
theorem XT.lt(h:XT S p):p<S.length:=by obtain⟨a,b,c,q⟩:=h;exact Jy q
structure Tt(cl:Nat->ZO):Prop where
 nx:D3 cl
 po:mq cl
 dr:mm cl
 dn:ml cl
theorem C6(h:D3 cl)(n:Nat)(s:Int)(S:ZU):∃r,cl (n+1) "_law_next" [.int s] S=.ok (.int r) S:=by
 generalize hz:(s+7919) % 2147483647=z;have d:0<=z:=by rw[<- hz];exact qL2 _ (by decide)
 have c:z<2147483647:=by rw[<- hz];exact qJ8 _ (by decide)
 have a:Tc z z=Z7:=DU (by lia) (by lia);have b:Tc 48271 z=Z7:=DU (by lia) (by lia);refine⟨(z*z+48271*z+12345) % 2147483629,?_⟩;rw[h];refine YT rfl ?_;simp[Jd,Yu,hz,a,b]
inductive i9(c:ZO)(S:ZU)(p:Nat)(m:Int):Prop
 |mk (r:Int) (S1:ZU) (e:c "_law_draw" [.lst p,.int m] S=.ok (.int r) S1) (a:0<=r) (b:r<m) (k:Kp (·=p) S S1) (l:S1.length=S.length) (st:XT S1 p)
theorem Xx(H:Tt cl)(n:Nat)(i:XT S p)(e:0<m)(s:m<1073741824):i9 (cl (n+2)) S p m:=by
 obtain⟨a,b,c,l⟩:=i;have g:=Xc l;by_cases h:b=1
 .subst h;have t:V6 3 0=Z9 0:=rfl;refine⟨a % m,S.set p (.lst [.int (a / m),.int 1,.int c]),?_,qL2 _ (by lia),qJ8 _ e,Vq _ _,by simp,⟨_,_,_,SU l⟩⟩;rw[show n+2=(n+1)+1 from rfl,H.dr];refine YT rfl ?_;simp[MV,Yu,g,e,s,Ek l,t]
 .obtain⟨o,j⟩:=C6 H.nx n c S;obtain⟨d,q⟩:=C6 H.nx n (o+7) S;have k:V6 3 2=Z9 2:=rfl;have f:ZC (S.set p (.lst [.int a,.int b,.int d])) p=Z9 [.int a,.int b,.int d]:=SU l;have r:=Xc f;refine⟨d / 64 % m,S.set p (.lst [.int a,.int b,.int d]),?_,qL2 _ (by lia),qJ8 _ e,Vq _ _,by simp,⟨_,_,_,f⟩⟩;rw[show n+2=(n+1)+1 from rfl,H.dr];refine YT rfl ?_;simp[MV,Yu,g,h,j,q,Ek l,k,r,e]
theorem i7(H:Tt cl)(n:Nat)(c:Int)(S:ZU):∃S1,cl (n+1) "_law_pen_of" [.int c] S=.ok (.lst S.length) S1/\Ex S S1/\XT S1 S.length:=by refine⟨S++[.lst _],?_,Zk S _,⟨_,_,_,Y9 S [.int (if 0 - c>c then 0 - c else c),.int (if decide ((if 0 - c>c then 0 - c else c)≥1000000000000000000)then 1 else 0),.int ((if 0 - c>c then 0 - c else c) % 1000003)]⟩⟩;rw[H.po];refine YT rfl ?_;simp[Jc,Yu]
inductive Rt(r:R D)(S:ZU)(p:Nat)(sw pl:Int)(m:Nat):Prop
 |mk (N:Zc) (S1:ZU) (e:r=.ok N.d S1) (hs:N.sw=sw) (hp:N.pl=pl) (hc:N.cs.length=m) (ok:∀c∈N.cs,c.ok sw pl) (k:Kp (·=p) S S1) (st:XT S1 p)
inductive i6(p:Nat)(sw pl:Int)(m:Int)(S0:ZU)(j:Nat)(B:ZR)(S:ZU):Prop
 |mk (v5 v6 v7:Option D) (cs:yN) (e:B=[Z9 (.lst p),Z9 (.int sw),Z9 (.int pl),Z9 (.int m),Z9 (.lst S0.length),v5,v6,v7]) (l:ZC S S0.length=Z9 (cs.map Ct.d)) (hc:cs.length=j) (ok:∀c∈cs,c.ok sw pl) (k:Kp (·=p) S0 S) (st:XT S p)
theorem Ir(c:ZO)(e:c "_law_draw" [.lst p,.int (pl - 1)] S=.ok (.int a) S1)(h:c "_law_draw" [.lst p,.int (pl - 1 - a)] S1=.ok (.int b) S2)(g:YX "list" (.lst q) S2=Z7)
  (i:c "_law_draw" [.lst p,.int sw] S2=.ok (.int k) S3) (f:c "_law_draw" [.lst p,.int 2] S3=.ok (.int o) d) (m:XB Vt (.lst q) [.tup [.int a,.int (a+1+b),.int k,.int o]] d=.ok .non S5) :
  OW c [Z9 (.lst p),Z9 (.int sw),Z9 (.int pl),v3,Z9 (.lst q),v5,v6,v7] S=.nx [Z9 (.lst p),Z9 (.int sw),Z9 (.int pl),v3,Z9 (.lst q),v5,Z9 (.int a),Z9 (.int (a+1+b))] S5:=by simp[OW,e,h,g,i,f,m]
theorem iZ(c:ZO){ys:yM}{S S1 S2:ZU}(d:S++[.lst []]=S1)(g:0<=m)(h:m<=1000)(e:Yr [] (gN 5) (OW c) (Y7 0 m.toNat) [Z9 (.lst p),Z9 (.int sw),Z9 (.int pl),Z9 (.int m),Z9 (.lst S.length),Z8,Z8,Z8] S1=.nx [Z9 (.lst p),Z9 (.int sw),Z9 (.int pl),Z9 (.int m),Z9 (.lst S.length),v5,v6,v7] S2)(l:ZC S2 S.length=Z9 ys):
  MU c [Z9 (.lst p),Z9 (.int sw),Z9 (.int pl),Z9 (.int m),Z8,Z8,Z8,Z8] S=.rt (.tup [.int sw,.int pl,.tup ys]) S2:=by
 have t:=O7 l;have b:-4611686018427387904<=m:=by lia
 have a:m<4611686018427387904:=by lia
 have f:(Y7 0 m.toNat).length<lim:=by rw[Vp,X6];lia
 simp[MU,d,b,a,f,e,t]
theorem Ow(H:Tt cl)(n:Nat)(E:XT S p){m:Nat}(hs:1<=sw/\sw<=4)(hl:2<=pl/\pl<=7)(hm:m<=16):Rt (cl (n+3) "_law_drawn_net" [.lst p,.int sw,.int pl,.int m] S) S p sw pl m:=by
 have U:=E.lt;obtain⟨S1,A⟩:∃S1,S++[O.lst []]=S1:=⟨_,rfl⟩
 have G:Ex S S1:=A▸Zk _ _;obtain⟨B',N,v,v5,v6,Q,u,rfl,M,i,ok,f,e⟩:=RB (w:=[]) (g:=gN 5) (b:=OW (cl (n+2))) (items:=Y7 0 m) (i6 p sw pl m S) (B:=[Z9 (.lst p),Z9 (.int sw),Z9 (.int pl),Z9 (.int m),Z9 (.lst S.length),Z8,Z8,Z8]) (S:=S1)
  (λ_ _ _ _=>XJ _) ⟨Z8,Z8,Z8,[],rfl,by rw[<- A];exact Y9 _ _,rfl,λc h=>absurd h (by simp),G.kp,E.ex G⟩
  (λj d B T hd hP=>by
   obtain⟨v5,v6,Q,u,rfl,l,i,ok,k,st⟩:=hP;obtain⟨hj,rfl⟩:=Qz.mp hd;obtain⟨a,T1,P,W,a1,J,l1,t⟩:=Xx H n st (m:=pl - 1) (by lia) (by lia);obtain⟨b,T2,v,b0,b1,f,M,e⟩:=Xx H n t (m:=pl - 1 - a) (by lia) (by lia);obtain⟨s,T3,Y,V,Z,K,l3,r⟩:=Xx H n e (m:=sw) (by lia) (by lia);obtain⟨o,T4,R,X,o1,I,l4,C⟩:=Xx H n r (m:=2) (by lia) (by lia);have ne:¬S.length=p:=by lia
   have L:=(J.trans f).lst l ne;have F:=(K.trans I).lst L ne;have m:=IZ (x:=.tup [.int a,.int (a+1+b),.int s,.int o]) F (by rw[qA6,X6];lia);refine⟨_,T,rfl,_,_,.inl (Ir _ P v (QI L) Y R m),⟨_,_,_,u++[⟨a,a+1+b,s,o⟩],rfl,?_,by rw[qC4,i];rfl,λc D=>?_,?_,?_⟩⟩
   .rw[qE3];exact SU F
   .rcases qE2.mp D with q|q
    .exact ok c q
    .rw[qD7.mp q];exact⟨W,by show a<a+1+b;lia,by show a+1+b<pl;lia,V,Z,X,o1⟩
   .exact((k.trans ((J.trans f).trans (K.trans I)))).setNew (qA4 _)
   .obtain⟨x,y,z,q⟩:=C;exact⟨x,y,z,QJ (by rw[qC9 ne];exact VZ q)⟩)
 rw[Vp]at i;refine⟨⟨sw,pl,u⟩,N,?_,rfl,rfl,i,ok,f,e⟩;rw[show n+3=(n+2)+1 from rfl,H.dn];exact YT rfl (iZ _ A (by lia) (by lia) (by rw[qE6];exact v) M)
theorem Rt.g(i:1<=sw/\sw<=4)(f:2<=pl/\pl<=7)(g:m<=16)(h:Rt r S p sw pl m):∃N S1,r=.ok (Zc.d N) S1/\N.g/\N.sw=sw/\N.pl=pl/\N.cs.length=m/\Kp (·=p) S S1/\XT S1 p:=by obtain⟨N,S1,e,b,a,c,ok,k,d⟩:=h;exact⟨N,S1,e,⟨by lia,by lia,by lia,by lia,by lia,by rw[b,a];exact ok⟩,b,a,c,k,d⟩
open StrLaws in
theorem Mr(x:Str)(j:Nat):Txt.slice x Z8 (Z9 (j:Int))=⟨(x.cps.toList.take j).toArray⟩:=by
 have d:x.cps.toList.length=x.length:=by simp[Str.length]
 by_cases h:j<=x.length
 .have:=sliceText_to (x:=x) (j:=j) ⟨by lia,by lia⟩;rw[show Txt.slice x Z8 (Z9 (j:Int))=sliceText x Z8 (Z9 (j:Int))from rfl,this,qH3];congr 3
 .have e:Builtin.Str.strSliceIndices Z8 (Z9 (j:Int)) 1 x.length=Builtin.Str.strSliceIndices Z8 (Z9 (x.length:Int)) 1 x.length:=by
   have a:¬((j:Int)<0):=by lia
   have b:¬((x.length:Int)<0):=by lia
   have c:min (j:Int) (x.length:Int)=x.length:=by lia
   simp[Builtin.Str.strSliceIndices,a,b,c]
  have:=sliceText_to (x:=x) (j:=x.length) ⟨by lia,by lia⟩;rw[show Txt.slice x Z8 (Z9 (j:Int))=Txt.slice x Z8 (Z9 (x.length:Int)) by unfold Txt.slice;rw[e]];rw[show Txt.slice x Z8 (Z9 (x.length:Int))=sliceText x Z8 (Z9 (x.length:Int))from rfl,this,qH3,qD9 (by lia),qD9 (by lia)]
open StrLaws in
theorem iY(x:Str)(h:j<=x.length):Txt.slice x (Z9 (j:Int)) Z8=⟨(x.cps.toList.drop j).toArray⟩:=by
 have a:x.cps.toList.length=x.length:=by simp[Str.length]
 have:=sliceText_from (x:=x) (i:=j) ⟨by lia,by lia⟩
 rw[show Txt.slice x (Z9 (j:Int)) Z8=sliceText x (Z9 (j:Int)) Z8 from rfl,this,qD9 (by rw[qE8];lia)];congr 2
theorem Ov(h:z.length<=1000)(lo hi:yG)(S:ZU):YH (.str z) lo hi S=.ok (.str (Txt.slice z lo hi)) S:=by show(if z.length<=lim then R.ok (D.str (Txt.slice z lo hi)) S else .bad)=_;rw[if_pos (by rw[X6];lia)]
theorem Iq{l:List Nat}(h:∀c∈l,97<=c/\c<=122)(a:1<=l.length)(d:l.length<=8):Zf ⟨l.toArray⟩=Z7:=by
 unfold Zf;rw[qB3,decide_eq_true_eq,qB9];exact⟨⟨by show 1<=l.toArray.size;simpa using a,by show l.toArray.size<=8;simpa using d⟩,λc b=>by
  have:=h c (by simpa using b);unfold lo;simpa using this⟩
theorem WS{G:RS->Prop}{ZM:CS}(h:e B S=.ok d S1)(k:G (ZM (B.set i (Z9 d)) S1)):G (ZV (ZJ e (gN i)) ZM B S):=by
 have r:ZV (ZJ e (gN i)) ZM B S=ZM (B.set i (Z9 d)) S1:=by simp[h]
 rw[r];exact k
theorem C5:∀l:List Nat,(Str.join ⟨#[]⟩ (l.map λc=>⟨#[c]⟩)).cps.toList=l
 |[]=>rfl
 |[c]=>rfl
 |c::d::r=>by have a:=C5 (d::r);show((#[c]++#[])++(Str.join ⟨#[]⟩ ((d::r).map λc=>⟨#[c]⟩)).cps).toList=_;rw[fZ,a];rfl
theorem C3(h:X0 z.cps.toList j=Z9 c)(a:z.length<=1000)(S:ZU):ZI (.str z) (.int j) S=.ok (.str ⟨#[c]⟩) S:=by show(match X0 z.cps.toList j with|some c=>if z.length<=lim then R.ok (D.str ⟨#[c]⟩) S else .bad|none=>.bad)=_;rw[h];dsimp only;rw[if_pos (by rw[X6];lia)]
theorem Ip{l:List b}{j:Int}(d:0<=j)(e:j<l.length):∃c,X0 l j=Z9 c/\c∈l:=by
 obtain⟨n,rfl⟩:∃n:Nat,j=n:=⟨j.toNat,by lia⟩
 have a:n<l.length:=by lia
 exact⟨l[n],WO (qA7 a),qI4 a⟩
theorem iX{l:yH}(h:∀z∈l,Zf z=Z7):(l.map D.str).all (plain 39)=Z7:=qB9.mpr λx a=>by obtain⟨z,b,rfl⟩:=qF4.mp a;show PyData.strOk z=Z7;have:=(Vm (h z b)).2.2.2.2;unfold PyData.strOk;rw[vQ];intro c d;have:=this c (by simpa using d);simp;lia
theorem iW(c:ZO){W:yM}(b:c "_law_draw" [.lst p,.int 8] S=.ok (.int r) S1)(i:0<=r)(l:r<8)(e:Yz [] .one (λ_=>ret Z7) (OU c) [Z8,Z9 (.lst p)] (Y7 0 (1+r).toNat) S1=.ok W S2)(g:S2++[.lst W]=S3)
  (j:W4 (.str (Str.ofString "")) [.lst S2.length] S3=.ok (.str w) S3):X9 "str" W4 (ZX (.str (Str.ofString ""))) (ZS [(XW (WV (ZS [(ZW ZQ (ZX (.int 1)) (ZT (c "_law_draw") (ZS [(ZY 0),(ZX (.int 8))])))])) 1 [0] .one (λ_=>ret Z7) (OU c))]) [Z9 (.lst p),Z9 (.lst k),Z8,Z8] S=.ok (.str w) S3:=by
 have d:-4611686018427387904<=1+r:=by lia
 have a:1+r<4611686018427387904:=by lia
 have h:(Y7 0 (1+r).toNat).length<lim:=by rw[Vp,X6];lia
 have f:∀S,YX "str" (.str (Str.ofString "")) S=Z7:=λ_=>rfl;simp[b,d,a,h,e,g,j,f]
inductive iV(r:R D)(S:ZU)(p:Nat):Prop
 |mk (z:Str) (S1:ZU) (e:r=.ok (.str z) S1) (m:Zf z=Z7) (k:Kp (·=p) S S1) (st:XT S1 p)
def C2(S:ZU)(p:Nat)(r:RS):Prop:=∃z a,r=.rt (.str z) a/\Zf z=Z7/\Kp (·=p) S a/\XT a p
theorem Rq(h:Zf z=Z7):z.length<=8:=(Vm h).2.1
theorem iU(H:Tt cl)(h:D1 cl)(n:Nat)(hp:XT S p){ns:yH}(l:ZC S k=Z9 (ns.map D.str))(kp:k≠p)(hn:∀z∈ns,Zf z=Z7)(h64:ns.length<64):iV (cl (n+3) "_law_name" [.lst p,.lst k] S) S p:=by
 obtain⟨r,S1,Q,r0,r1,k1,_,st1⟩:=Xx H n hp (m:=8) (by lia) (by lia);obtain⟨W,N,cc,lw,⟨o,L,J,k2,st2⟩⟩:=DT (w:=[]) (t:=.one) (c:=OU (cl (n+2))) (B0:=[Z8,Z9 (.lst p)]) (λacc S'=>∃o:List Nat,acc=o.map (λc=>D.str ⟨#[c]⟩)/\(∀c∈o,97<=c/\c<=122)/\Kp (·=p) S S'/\XT S' p)
  (λ_ _ _=>XJ _) (Y7 0 (1+r).toNat) [] ⟨[],rfl,λc h=>absurd h (by simp),k1,st1⟩ λd _ acc S' ⟨o,Z,E,k,st⟩=>by
   obtain⟨q,T,e,q0,q1,kq,_,stq⟩:=Xx H n st (m:=26) (by lia) (by lia);have hl:LT.cps.toList.length=26:=by decide
   obtain⟨x,hx,hm⟩:=Ip (l:=LT.cps.toList) q0 (by rw[hl];lia);have i:=C3 (z:=LT) hx (by show LT.cps.size<=1000;decide) T;unfold LT at i;refine⟨_,rfl,.str ⟨#[x]⟩,T,by simp[OU,e,i],o++[x],by rw[Z,qE3];rfl,λy hy=>?_,k.trans kq,stq⟩;rcases qE2.mp hy with g|g
   .exact E y g
   .rw[qD7.mp g];have el:LT.cps.toList=(List.range 26).map (97+·):=by decide
    rw[el]at hm;obtain⟨a,Z,rfl⟩:=qF4.mp hm;have:=qJ2.mp Z;lia
 rw[qF1]at L;obtain⟨S3,V⟩:∃S3,N++[O.lst W]=S3:=⟨_,rfl⟩
 have lc:o.length=(1+r).toNat:=by rw[Vp]at lw;rw[<- lw,L,qA6]
 obtain⟨w,hw⟩:∃w:Str,(⟨o.toArray⟩:Str)=w:=⟨_,rfl⟩
 have mw:Zf w=Z7:=by rw[<- hw];exact Iq J (by lia) (by lia)
 have j:W4 (.str (Str.ofString "")) [.lst N.length] S3=.ok (.str w) S3:=by
  have q:ZC S3 N.length=Z9 ((o.map λc=>(⟨#[c]⟩:Str)).map D.str):=by rw[<- V,Y9,L,qE1];rfl
  have s1:((o.map λc=>(⟨#[c]⟩:Str)).map (·.length)).sum=o.length:=by
   rw[qE1];clear L J lc hw q
   induction o with
   |nil=>rfl
   |cons c r ih=>rw[qB2,qE5,ih,qB6];show 1+_=_;lia
  rw[OL q (MD (by rw[s1,qA6,show(Str.ofString "").length=0 from rfl];lia))];congr 2;rw[<- hw];apply OM;unfold Txt.join;rw[StrLaws.glued_eq_join];exact C5 o
 have x3:Ex N S3:=V▸Zk _ _;obtain⟨S4,M⟩:∃S4,S3++[O.lst []]=S4:=⟨_,rfl⟩
 have x4:Ex S3 S4:=M▸Zk _ _;have R:Kp (·=p) S S4:=k2.trans ((x3.trans x4).kp);have X:=R.lst l kp;have P:Ze (.lst k) (.lst S3.length) S4=.ok (.bl (SS (ns.map D.str) [])) S4:=oH X (by rw[<- M];exact Y9 _ _) (iX hn) rfl;have F:=st2.ex (x3.trans x4);have n1:=iW (cl (n+2)) (k:=k) Q r0 r1 cc V j
 suffices h5:C2 S p (MS (cl (n+2)) [Z9 (.lst p),Z9 (.lst k),Z8,Z8] S) by obtain⟨z,S9,e,m,k,st⟩:=h5;refine⟨z,S9,?_,m,k,st⟩;rw[show n+3=(n+2)+1 from rfl,h];exact YT rfl e
 unfold MS;refine WS (G:=C2 S p) n1 ?_;by_cases A:ns=[]
 .subst A;rw[show([].map D.str:yM)=[]from rfl,show SS ([]:yM) []=Z7 from O4.mpr rfl]at P;exact⟨w,S4,by simp[M,P],mw,R,F⟩
 .rw[oI (by simpa using A)]at P;have hpos:0<ns.length:=qM5.mpr A;have f4:=RC X;rw[qA6]at f4;obtain⟨r5,S5,e5,a5,b5,k5,_,st5⟩:=Xx H n F (m:=(ns.length:Nat)) (by lia) (by lia);have l5:=k5.lst X kp;obtain⟨one,h1,m1⟩:=Ip (l:=ns) a5 b5;have i5:=Xc l5 r5;obtain⟨B,rfl⟩:∃m:Nat,r5=m:=⟨r5.toNat,by lia⟩
  have g1:X0 (ns.map D.str) (B:Int)=Z9 (.str one):=by
   have s:B<ns.length:=by lia
   have Q:=WO (xs:=ns) (qA7 s);rw[Q]at h1;cases h1;exact WO (by rw[qC1,qA7 s];rfl)
  rw[g1]at i5;have mo:=hn one m1;have lo8:=Rq mo;have lw8:=Rq mw;obtain⟨ow,u⟩:∃ow,one++w=ow:=⟨_,rfl⟩
  have a6:=WJ (x:=one) (y:=w) (by lia) S5;rw[u]at a6;have Lb:=(Vm mo).2.2.1;have lz:ow.length<=16:=by rw[<- u,Str.length_append];lia
  have Y:=Ov (z:=ow) (by lia) Z8 (Z9 8) S5;have f7:=Qx (z:=one) (by lia) S5;obtain⟨r7,K,e7,a7,b7,k7,_,I⟩:=Xx H n st5 (m:=(one.length:Nat)) (by lia) (by lia);obtain⟨b,rfl⟩:∃m:Nat,r7=m:=⟨r7.toNat,by lia⟩
  have U:=Ov (z:=one) (by lia) Z8 (Z9 (1+(b:Int))) K;have z2:=Mr ow 8;have z3:=Mr one (1+b);rw[show((8:Nat):Int)=8 from rfl]at z2;rw[show((1+b:Nat):Int)=1+(b:Int) by lia]at z3;rw[z2]at Y;rw[z3]at U;have c1:=(Vm mo).2.2.2.2;have c2:=(Vm mw).2.2.2.2;have C:one.cps.toList.length=one.length:=by simp[Str.length]
  have hwl:ow.cps.toList.length=ow.length:=by simp[Str.length]
  have m2:Zf ⟨(ow.cps.toList.take 8).toArray⟩=Z7:=Iq (λc E=>by
   have:=qG3 E;rw[<- u]at this;rcases qE2.mp (show c∈one.cps.toList++w.cps.toList by simpa[Str.cps_append]using this)with g|g
   .exact c1 c g
   .exact c2 c g) (by rw[qD2,hwl,<- u,Str.length_append];lia) (by rw[qD2];lia)
  have m3:Zf ⟨(one.cps.toList.take (1+b)).toArray⟩=Z7:=Iq (λc E=>c1 c (qG3 E)) (by rw[qD2,C];lia) (by rw[qD2,C];lia);generalize (⟨(ow.cps.toList.take 8).toArray⟩:Str)=y2 at Y m2;generalize (⟨(one.cps.toList.take (1+b)).toArray⟩:Str)=y3 at U m3;obtain⟨S7,h7⟩:∃S7,K++[O.lst [.str w,.str w,.str y2,.str y3]]=S7:=⟨_,rfl⟩
  have x7:Ex K S7:=h7▸Zk _ _;obtain⟨r8,S8,e8,a8,b8,k8,_,st8⟩:=Xx H n (I.ex x7) (m:=4) (by lia) (by lia);have ne:¬K.length=p:=by have:=I.lt;lia
  have l8:ZC S8 K.length=Z9 ([w,w,y2,y3].map D.str):=k8.lst (by rw[<- h7];exact Y9 _ _) ne;obtain⟨f,rfl⟩:∃m:Nat,r8=m:=⟨r8.toNat,by lia⟩
  have s:f<[w,w,y2,y3].length:=by show f<4;lia
  have i8:=Xc l8 f;rw[WO (v:=.str ([w,w,y2,y3][f])) (by rw[qC1,qA7 s];rfl)]at i8;have mz:Zf ([w,w,y2,y3][f])=Z7:=by have:=qI4 s;simp only[qA8,qB8,or_false]at this;rcases this with g|g|g|g<;>rw[g]<;>assumption
  generalize [w,w,y2,y3][f]=z at i8 mz;refine⟨z,S8,?_,mz,R.trans (k5.trans (k7.trans (x7.kp.trans k8))),st8⟩;simp[M,P,f4,e5,i5,a6,Y,f7,e7,U,h7,e8,i8]
inductive Xa(z:Str):Prop
 |one (f:Fr z) (a:z.cps.all (·<128)=Z7) (m:Zf z=Z5) (l:z.length<=9)
 |two (a b:Str) (e:z=jn [a,b]) (fa:Fr a) (fb:Fr b) (aa:a.cps.all (·<128)=Z7) (ab:b.cps.all (·<128)=Z7) (l:a.length+b.length<=8)
theorem Xa.len(h:Xa z):z.length<=9:=by
 cases h with
 |one _ _ _ l=>exact l
 |two a b e _ _ _ _ l =>
  have:=SM [a,b];rw[<- e]at this;have c:z=a++bk++b:=e;rw[c,Str.length_append,Str.length_append,show bk.length=1 from rfl];lia
def SG:Str:=Str.ofString "!\"#$&'()*+,-./0123456789:;<=>?@ABCDEFGHIJKLMNOPQRSTUVWXYZ[\\]^_`{|}~ "
theorem Ou:SG.cps.toList.all (λc=>decide (c<128)&&!lo c)=Z7/\SG.length=68:=by refine⟨?_,?_⟩<;>decide
theorem Ot{l:List Nat}(h:∀c∈l,c<128):(⟨l.toArray⟩:Str).cps.all (·<128)=Z7:=by rw[vQ];intro c a;simpa using h c (by simpa using a)
theorem C1{l:List Nat}(h:c∈l)(a:lo c=Z5):Zf ⟨l.toArray⟩=Z5:=by unfold Zf;rw[Bool.and_eq_false_iff];right;rw[List.all_eq_false];exact⟨c,by simpa using h,by rw[a];exact qB0⟩
theorem iT(i:Zf z=Z7)(k:Nat)(hk:k<=z.length)(j:c<128)(g:lo c=Z5):Xa ⟨(z.cps.toList.take k++[c]++z.cps.toList.drop k).toArray⟩:=by
 obtain⟨_,l,m,_,f⟩:=Vm i;have b:z.cps.toList.length=z.length:=by simp[Str.length]
 have t:∀x∈z.cps.toList.take k,97<=x/\x<=122:=λx a=>f x (qG3 a);have d:∀x∈z.cps.toList.drop k,97<=x/\x<=122:=λx a=>f x (List.mem_of_mem_drop a);by_cases e:c=32
 .subst e;refine .two ⟨(z.cps.toList.take k).toArray⟩ ⟨(z.cps.toList.drop k).toArray⟩ ?_ (λq=>by have:=t 32 (by simpa using q);lia) (λq=>by have:=d 32 (by simpa using q);lia) (Ot λc h=>by have:=t c h;lia) (Ot λc h=>by have:=d c h;lia) ?_
  .apply OM;rw[Vn];simp[Tw]
  .show(z.cps.toList.take k).toArray.size+(z.cps.toList.drop k).toArray.size<=8;rw[qB4,qB4,qD2,qE8,b];omega
 .refine .one (λq=>?_) (Ot λx h=>?_) (C1 (c:=c) (by simp) g) ?_
  .have q:32∈z.cps.toList.take k++[c]++z.cps.toList.drop k:=by simpa using q
   simp only[qE2,qD7]at q;rcases q with(q|q)| q
   .have:=t 32 q;lia
   .exact e q.symm
   .have:=d 32 q;lia
  .simp only[qE2,qD7]at h;rcases h with(q|q)| q
   .have:=t x q;lia
   .rw[q];exact j
   .have:=d x q;lia
  .show(z.cps.toList.take k++[c]++z.cps.toList.drop k).toArray.size<=9;rw[qB4,qC4,qC4,qD2,qE8,b,qI0];omega
theorem iS:Xa (Str.ofString ""):=.one (by unfold Fr;decide) (by decide) (by decide) (by decide)
theorem iR(f:Zf z=Z7):Xa (Txt.slice (Txt.mul z 9) Z8 (Z9 9)):=by
 obtain⟨_,i,j,_,g⟩:=Vm f;have b:z.cps.toList.length=z.length:=by simp[Str.length]
 have e:(Txt.mul z 9).cps.toList=z.cps.toList++z.cps.toList++z.cps.toList++z.cps.toList++z.cps.toList++z.cps.toList++z.cps.toList++z.cps.toList++z.cps.toList:=by
  have d:¬(((9:Int) == 1||z.length == 0)=Z7):=by simp;lia
  unfold Txt.mul;rw[if_neg (by decide),if_neg d,show(9:Int).toNat=9 from rfl];simp[qC3]
 have s:=Mr (Txt.mul z 9) 9;rw[show((9:Nat):Int)=9 from rfl]at s;rw[s];have m:∀c∈(Txt.mul z 9).cps.toList.take 9,97<=c/\c<=122:=λc h=>by have:=qG3 h;rw[e]at this;simp only[qE2,or_self]at this;exact g c this
 have a:((Txt.mul z 9).cps.toList.take 9).length=9:=by
  rw[e,qD2];simp only[qC4,b]
  lia
 refine .one (λq=>by have:=m 32 (by simpa using q);lia) (Ot λc h=>by have:=m c h;lia) ?_ ?_
 .unfold Zf;rw[decide_eq_false,qH8];show ¬(1<=((Txt.mul z 9).cps.toList.take 9).toArray.size/\((Txt.mul z 9).cps.toList.take 9).toArray.size<=8);rw[qB4,a];decide
 .show((Txt.mul z 9).cps.toList.take 9).toArray.size<=9;rw[qB4,a];decide
theorem iQ:((List.range 26).all λi=>decide (Unicode.upperOf (97+i)=[65+i]))=Z7:=by decide
theorem iP(a:Zf z=Z7):(Txt.upper z).cps.toList=z.cps.toList.map λc=>c - 32:=by
 obtain⟨_,e,f,_,b⟩:=Vm a;have u:∀c∈z.cps.toList,Unicode.upperOf c=[c - 32]:=λc h=>by have:=b c h;have q:=qB9.mp iQ (c - 97) (qJ2.mpr (by lia));rw[decide_eq_true_eq,show 97+(c - 97)=c by lia]at q;rw[q];congr 1;lia
 unfold Txt.upper placed;rw[Array.toList_flatten,Array.toList_mapIdx];generalize z.cps.toList=l at *;have:(l.mapIdx λi c=>(Unicode.upperOf c).toArray)=l.map λc=>#[c - 32]:=by
  apply List.ext_getElem?;intro i;rw[List.getElem?_mapIdx,qC1];cases h:l[i]? with
  |none=>rfl
  |some c=>simp[u c (qC2 h)]
 rw[this,qE1];clear this u b f e a
 induction l with
 |nil=>rfl
 |cons c r d=>rw[qB2,qN0,d];rfl
theorem iO(d:Zf z=Z7):Xa (Txt.upper z)/\(Txt.upper z).length<=8:=by
 have e:=iP d;obtain⟨_,j,l,_,k⟩:=Vm d;have i:z.cps.toList.length=z.length:=by simp[Str.length]
 have g:Txt.upper z=⟨(z.cps.toList.map λc=>c - 32).toArray⟩:=OM (by rw[e]);rw[g];have m:∀x∈z.cps.toList.map λc=>c - 32,65<=x/\x<=90:=λx a=>by obtain⟨c,h,rfl⟩:=qF4.mp a;have:=k c h;lia
 have f:(z.cps.toList.map λc=>c - 32).length=z.length:=by rw[qA6,i]
 have b:(⟨(z.cps.toList.map λc=>c - 32).toArray⟩:Str).length<=8:=by show(z.cps.toList.map λc=>c - 32).toArray.size<=8;rw[qB4,f];exact j
 obtain⟨x,a⟩:∃x,x∈z.cps.toList.map λc=>c - 32:=List.exists_mem_of_length_pos (by rw[f];lia);refine⟨.one (λq=>by have:=m 32 (by simpa using q);lia) (Ot λc h=>by have:=m c h;lia) (C1 a (by have:=m x a;unfold lo;exact decide_eq_false (by lia))) (by lia),b⟩
theorem Mq(a b:Str):∀(X Y:yH),jn (X++jn [a,b]::Y)=jn (X++a::b::Y)
 |[],[]=>rfl
 |[],y::Y=>by
  show(a++bk++b)++bk++jn (y::Y)=a++bk++(b++bk++jn (y::Y))
  simp only[Str.append_assoc]
 |[x],Y=>by have d:=Mq a b [] Y;show x++bk++jn (jn [a,b]::Y)=x++bk++jn (a::b::Y);rw[show jn (jn [a,b]::Y)=_ from d];rfl
 |x::c::X,Y=>by have d:=Mq a b (c::X) Y;show x++bk++jn (c::(X++jn [a,b]::Y))=x++bk++jn (c::(X++a::b::Y));rw[show jn (c::(X++jn [a,b]::Y))=_ from d];rfl
theorem Qr(H:Xl cl){its:List Wn}{ZM:List (Str×Str)}(z:Xa d)(t:Xz.lookup v=Z9 (its.map (·.1)++kb::ZM.map (·.1)))(c:∀a∈its,WR (cl (n+2)) a)(hk:Qw kb=Z5)(C:its.length+ZM.length<=3)
  (p:∀w∈v::(its.map (·.2.1)++ZM.map (·.2)),Fr w/\w.length<=20) (st:∀X:yH,V5 (jn (v::X)) (Str.ofString "net ")=Z5) (S:ZU):Xm (cl (n+4) "Desk.say" [.ob i,.str (jn (v::(its.map (·.2.1)++d::ZM.map (·.2))))] S) "BadNote" S:=by
 have sum:∀L:yH,(∀w∈L,w.length<=20)->(L.map (·.length)).sum<=20*L.length:=λL=>by
  induction L with
  |nil=>intro _;simp
  |cons w r y=>intro h;have:=y λx A=>h x (qC5 _ A);have:=h w qD1;simp;lia
 have bound:∀L:yH,(∀w∈L,w.length<=20)->L.length<=10->(jn L).length<=1000:=λL h o=>by have:=SM L;have:=sum L h;lia
 have j:∀O:yH,(∀w∈O,Fr w/\w.length<=20)->∀w∈v::(its.map (·.2.1)++(O++ZM.map (·.2))),Fr w/\w.length<=20:=λO E w c=>by
  simp only[qA8,qE2]at c p;rcases c with q|q|q|q
  .exact p w (.inl q)
  .exact p w (.inr (.inl q))
  .exact E w q
  .exact p w (.inr (.inr q))
 cases z with
 |one f a m l =>
  have g:=j [d] λw c=>by rw[qD7.mp c];exact⟨f,by lia⟩
  have o:(v::(its.map (·.2.1)++d::ZM.map (·.2))).length<=10:=by simp;lia
  have w:=IP (cl:=cl) H.wo (st (its.map (·.2.1)++d::ZM.map (·.2))) (by simp;lia) (by lia) (λw c=>(g w c).1) (bound _ (λw c=>(g w c).2) o);exact OA (n:=n+2) H w (λk S s=>Mx H.lr (n+2) t c (IK H.wr H.nr n hk a (by lia) m) C s) S
 |two a b e u D G F l =>
  subst e;have g:=j [a,b] λw c=>by
   simp only[qA8,qB8,or_false]at c;rcases c with rfl|rfl
   .exact⟨u,by lia⟩
   .exact⟨D,by lia⟩
  have o:(v::(its.map (·.2.1)++a::b::ZM.map (·.2))).length<=10:=by simp;lia
  have B:jn (v::(its.map (·.2.1)++jn [a,b]::ZM.map (·.2)))=jn (v::(its.map (·.2.1)++a::b::ZM.map (·.2))):=Mq a b (v::its.map λx:Wn=>x.2.1) (ZM.map λx:Str×Str=>x.2);rw[B];have w:=IP (cl:=cl) H.wo (st (its.map (·.2.1)++a::b::ZM.map (·.2))) (by simp;lia) (by lia) (λw c=>(g w c).1) (bound _ (λw c=>(g w c).2) o);exact OA (n:=n+2) H w (λk S s=>kv H.lr (n+2) t (by simp) s) S
theorem iN(c:ZO)(f:Zt [.lst k] S=.ok (.int L) S)(b:¬L<2)(e:ZI (.lst k) (.int 0) S=.ok d S)(l:ZI (.lst k) (.int 1) S=.ok h S)(g:Zt [d] S=.ok (.int a) S)(j:Zt [h] S=.ok (.int 1) S):Rz c [Z9 (.lst k)] S=.rt (.bl Z5) S:=by
 by_cases i:a=1
 .subst i;simp[Rz,f,b,e,l,g,j]
 .simp[Rz,f,b,e,g,i]
theorem iM(c:ZO)(sp:VJ (.str a) [.str (Str.ofString " ")] S=.ok (.lst k) S1)(b:c "has_lengths_of_net" [.lst k] S1=.ok (.bl Z5) S2):QF c [Z9 (.str a),Z8,Z8] S=.er "BadNote" S2:=by have t:Yo [.str a,.ty "str"] S=.ok (.bl Z7) S:=rfl;have d:YX "str" (.str a) S=Z7:=rfl;simp[QF,t,d,sp,b]
def one:Str:=Str.ofString "1"
def two':Str:=Str.ofString "2:"
theorem iL(H:Xl cl)(n:Nat)(g:Fr b)(p:b.length<=20):WE (cl (n+4)) (Str.ofString "TEXT") (jn [b,one,two']):=λS=>by
 have h:∀w∈[b,one,two'],Fr w:=λw d=>by
  simp only[qA8,qB8,or_false]at d;rcases d with rfl|rfl|rfl
  .exact g
  .unfold Fr;decide
  .unfold Fr;decide
 have c:one.length=1:=by decide
 have k:two'.length=2:=by decide
 have m:(jn [b,one,two']).length<=1000:=by have:=SM [b,one,two'];simp[c,k]at this;lia
 have e:=Dv (ws:=[b,one,two']) (by show 2<=3;decide) (by show 3<=100;decide) h m S;have l:=Y9 S ([b,one,two'].map D.str);have i:=OE (a:=.str b) (b:=.str one) (r:=[.str two']) l;have o:=iN (cl (n+1)) (RC l) (by show ¬(3:Int)<2;decide) i.1 i.2 (Qx (by lia) _) (by have:=Qx (z:=one) (by lia) (S++[.lst ([b,one,two'].map D.str)]);rw[c]at this;exact this);have j:cl (n+2) "has_lengths_of_net" [.lst S.length] (S++[.lst ([b,one,two'].map D.str)])=.ok (.bl Z5) (S++[.lst ([b,one,two'].map D.str)]):=by rw[show n+2=(n+1)+1 from rfl,H.rd.hl];exact YT rfl o
 refine⟨S++[.lst ([b,one,two'].map D.str)],?_,Zk S _⟩;have f:cl (n+3) "net_read" [.str (jn [b,one,two'])] S=.er "BadNote" (S++[.lst ([b,one,two'].map D.str)]):=by rw[show n+3=(n+2)+1 from rfl,H.rd.nr];exact WK rfl (iM _ e j)
 rw[show n+4=(n+3)+1 from rfl,H.wr];exact WK rfl (OC _ (by simp) f)
theorem iK(H:Xl cl)(z:Xa d)(S:ZU):Xm (cl (n+6) "Desk.say" [.ob i,.str (jn [nW,d,one,two'])] S) "BadNote" S:=by
 have q:one.length=1:=by decide
 have v:two'.length=2:=by decide
 have t:nW.length=3:=by decide
 have s:Fr one:=by unfold Fr;decide
 have p:Fr two':=by unfold Fr;decide
 have o:Xz.lookup nW=Z9 [Str.ofString "N",Str.ofString "TEXT"]:=by kernel_rfl
 cases z with
 |one f a m l =>
  have w:=IM (cl:=cl) (b:=d) (c:=one) (r:=[two']) H.wo (λw j=>by
   simp only[qA8,qB8,or_false]at j;rcases j with rfl|rfl|rfl
   .exact f
   .exact s
   .exact p) (by
    have:=SM [nW,d,one,two'];simp[q,v,t]at this;lia)
  exact OA (n:=n+4) H w (λk S g=>Mx H.lr (n+4) (its:=[]) (kb:=Str.ofString "N") (ZM:=[(Str.ofString "TEXT",jn [one,two'])]) o (λa h=>absurd h (by simp)) (IK H.wr H.nr (n+2) (by decide) a (by lia) m) (by decide) g) S
 |two a b e y u C D l =>
  subst e;have w:=IM (cl:=cl) (b:=a) (c:=b) (r:=[one,two']) H.wo (λw j=>by
   simp only[qA8,qB8,or_false]at j;rcases j with rfl|rfl|rfl|rfl
   .exact y
   .exact u
   .exact s
   .exact p) (by
    have:=SM [nW,a,b,one,two'];simp[q,v,t]at this;lia)
  have B:jn [nW,jn [a,b],one,two']=jn [nW,a,b,one,two']:=Mq a b [nW] [one,two'];rw[B];by_cases m:Zf a=Z7
  .exact OA (n:=n+4) H w (λk S g=>Mx H.lr (n+4) (its:=[(Str.ofString "N",a,.str a)]) (kb:=Str.ofString "TEXT") (ZM:=[]) o (λx A=>by
    rw[qD7.mp A];exact Tv H.wr H.nr (n+2) (by decide) m) (iL H n u (by lia)) (by show 1+0<=3;decide) g) S
  .exact OA (n:=n+4) H w (λk S g=>Mx H.lr (n+4) (its:=[]) (kb:=Str.ofString "N") (ZM:=[(Str.ofString "TEXT",jn [b,one,two'])]) o (λa h=>absurd h (by simp)) (IK H.wr H.nr (n+2) (by decide) C (by lia) (qK0.mpr m)) (by show 0+1<=3;decide) g) S
theorem iJ{ds:yM}(f:Ye w S)(e:g d B S=.ok a S1)(c:b a S1=.rt x S2):Yr w g b (d::ds) B S=.rt x S2:=by
 conv=>lhs;unfold Yr
 simp_all
theorem iI(H:Xl cl)(n:Nat):WR (cl (n+2)) (Str.ofString "C",Str.ofString "0",.int 0):=λS=>by
 refine⟨S,?_,Kp.refl _ _⟩;rw[show n+2=(n+1)+1 from rfl,H.wr];refine YT rfl (IL _ (r:=.ok (.int 0) S) (by simp) ?_);rw[H.nu];refine YT rfl ?_;have l:Yr [] (gN 1) (Jg (cl n)) (Y7 0 16) [Z9 (.str (Str.ofString "0")),Z8] S=.rt (.int 0) S:=by
  have f:YW [.int 0] S=.ok (.str (Str.ofString "0")) S:=rfl;have q:Ze (.str (Str.ofString "0")) (.str (Str.ofString "0")) S=.ok (.bl Z7) S:=by show R.ok (D.bl (decide _)) S=_;rw[decide_eq_true rfl]
  exact iJ (ds:=(Y7 0 16).drop 1) (XJ _) rfl (by simp[Jg,f,q])
 have a:(Y7 0 16).length<lim:=by decide
 simp[Jf,Yu,a,l]
theorem iH{S S1 S2 S3:ZU}(e:∀S,Y8 "TooMany" (.xc c) S=.ok (.bl b0) S)(g:∀S,Y8 "NoContact" (.xc c) S=.ok (.bl b1) S)(o:∀S,Y8 "NoBridge" (.xc c) S=.ok (.bl b2) S)(j:∀S,Y8 "NoPlace" (.xc c) S=.ok (.bl b3) S)(b:∀S,Y8 "NoTable" (.xc c) S=.ok (.bl b4) S)(d:∀S,Y8 "NoName" (.xc c) S=.ok (.bl b5) S)(p:∀S,Y8 "BadNote" (.xc c) S=.ok (.bl b6) S)
  (h:∀S,Y8 "ValueError" (.xc c) S=.ok (.bl Z7) S) (l:S++[.lst [.bl b0,.bl b1,.bl b2,.bl b3]]=S1) (m:S1++[.lst [.bl b4,.bl b5,.bl b6]]=S2) (a:ZQ (.lst S.length) (.lst S1.length) S2=.ok (.lst S2.length) S3) (f:YX "list" (.lst S2.length) S3=Z7) (i:T6 (.lst S2.length) [.bl Z7] S3=.ok (.int 1) S3) (n:Uc (.lst S2.length) [.bl Z7] S3=.ok (.int k) S3) :
  SY [Z9 (.xc c),Z8] S=.rt (.int k) S3:=by simp[SY,e,g,o,j,b,d,p,h,l,m,a,f,i,n]
inductive Os(c:Str)(k:Int)(S:ZU):Prop
 |mk (S1:ZU) (e:U3 c S=.ok (.int k) S1) (x:Ex S S1)
theorem Io(w:c∈X2)(p:∀S,Y8 "TooMany" (.xc c) S=.ok (.bl b0) S)(q:∀S,Y8 "NoContact" (.xc c) S=.ok (.bl b1) S)(t:∀S,Y8 "NoBridge" (.xc c) S=.ok (.bl b2) S)(s:∀S,Y8 "NoPlace" (.xc c) S=.ok (.bl b3) S)(j:∀S,Y8 "NoTable" (.xc c) S=.ok (.bl b4) S)(l:∀S,Y8 "NoName" (.xc c) S=.ok (.bl b5) S)(u:∀S,Y8 "BadNote" (.xc c) S=.ok (.bl b6) S)
  (r:∀S,Y8 "ValueError" (.xc c) S=.ok (.bl Z7) S) (h:∀(n:Nat) (S:ZU),S[n]?=Z9 (.lst [.bl b0,.bl b1,.bl b2,.bl b3,.bl b4,.bl b5,.bl b6])->T6 (.lst n) [.bl Z7] S=.ok (.int 1) S/\Uc (.lst n) [.bl Z7] S=.ok (.int (k:Nat)) S) (S:ZU):Os c k S:=by
 obtain⟨S1,d⟩:∃S1,S++[.lst [.bl b0,.bl b1,.bl b2,.bl b3]]=S1:=⟨_,rfl⟩
 obtain⟨S2,e⟩:∃S2,S1++[.lst [.bl b4,.bl b5,.bl b6]]=S2:=⟨_,rfl⟩
 have m:Ex S S1:=d▸Zk _ _;have f:Ex S1 S2:=e▸Zk _ _;have o:ZC S2 S.length=Z9 [.bl b0,.bl b1,.bl b2,.bl b3]:=f.lst (d▸Y9 _ _) λz=>z;have v:ZC S2 S1.length=Z9 [.bl b4,.bl b5,.bl b6]:=e▸Y9 _ _;have a:=QH o v (by rw[X6];show 4+3<=1048576;decide);obtain⟨S3,b⟩:∃S3,S2++[.lst ([.bl b0,.bl b1,.bl b2,.bl b3]++[.bl b4,.bl b5,.bl b6])]=S3:=⟨_,rfl⟩
 rw[b]at a;have g:ZC S3 S2.length=Z9 [.bl b0,.bl b1,.bl b2,.bl b3,.bl b4,.bl b5,.bl b6]:=b▸Y9 _ _;have i:=VZ g;refine⟨S3,?_,m.trans (f.trans (b▸Zk _ _))⟩;unfold U3;rw[if_pos w,iH (k:=k) p q t s j l u r d e a (QI g) (h _ _ i).1 (h _ _ i).2];rfl
theorem Im(S:ZU):Os "TooMany" 0 S:=Io (k:=0) (by decide) (λ_=>by kernel_rfl) (λ_=>by kernel_rfl) (λ_=>by kernel_rfl) (λ_=>by kernel_rfl) (λ_=>by kernel_rfl) (λ_=>by kernel_rfl) (λ_=>by kernel_rfl) (λ_=>by kernel_rfl) (b0:=Z7) (b1:=Z5) (b2:=Z5) (b3:=Z5) (b4:=Z5) (b5:=Z5) (b6:=Z5) (λn S h=>by
 unfold T6 Uc;dsimp only;rw[h];exact⟨rfl,rfl⟩) S
theorem Oq(S:ZU):Os "NoName" 5 S:=Io (k:=5) (by decide) (λ_=>by kernel_rfl) (λ_=>by kernel_rfl) (λ_=>by kernel_rfl) (λ_=>by kernel_rfl) (λ_=>by kernel_rfl) (λ_=>by kernel_rfl) (λ_=>by kernel_rfl) (λ_=>by kernel_rfl) (b0:=Z5) (b1:=Z5) (b2:=Z5) (b3:=Z5) (b4:=Z5) (b5:=Z7) (b6:=Z5) (λn S h=>by
 unfold T6 Uc;dsimp only;rw[h];exact⟨rfl,rfl⟩) S
theorem Oo(S:ZU):Os "BadNote" 6 S:=Io (k:=6) (by decide) (λ_=>by kernel_rfl) (λ_=>by kernel_rfl) (λ_=>by kernel_rfl) (λ_=>by kernel_rfl) (λ_=>by kernel_rfl) (λ_=>by kernel_rfl) (λ_=>by kernel_rfl) (λ_=>by kernel_rfl) (b0:=Z5) (b1:=Z5) (b2:=Z5) (b3:=Z5) (b4:=Z5) (b5:=Z5) (b6:=Z7) (λn S h=>by
 unfold T6 Uc;dsimp only;rw[h];exact⟨rfl,rfl⟩) S
theorem CZ(c:ZO)(e:c "Desk.say" [.ob i,.str z] S=r):UI (c "Desk.say") (ZY 0) (ZS [(ZY 1)]) [Z9 (.ob i),Z9 (.str z),v2] S=r:=e
theorem Mp(h:Jb cl)(n:Nat)(e:cl n "Desk.say" [.ob i,.str z] S=.ok d S1):cl (n+1) "_law_said" [.ob i,.str z] S=.ok d S1:=by rw[h];refine YT rfl ?_;show sb (TZ (UI (cl n "Desk.say") (ZY 0) (ZS [(ZY 1)])) [Z9 (.ob i),Z9 (.str z),Z8] S) ZL .mk=_;unfold TZ;rw[CZ _ e];rfl
theorem On(h:Jb cl)(n:Nat)(e:Xm (cl n "Desk.say" [.ob i,.str z] S) c S)(f:∀S,Os c k S):Xb (cl (n+1) "_law_said" [.ob i,.str z] S) (.int k) S:=by obtain⟨l,g,j⟩:=e;obtain⟨b,a,d⟩:=f l;refine⟨b,?_,j.trans d⟩;rw[h];refine YT rfl ?_;show sb (TZ (UI (cl n "Desk.say") (ZY 0) (ZS [(ZY 1)])) [Z9 (.ob i),Z9 (.str z),Z8] S) ZL .mk=_;unfold TZ;rw[CZ _ g];dsimp only;rw[a];rfl
structure W9(c:C)(B:ZR)(z:Str)(b:Nat):Prop where
 e:∀S,c B S=.ok (.str z) S
 l:z.length<=b
section
variable {B:ZR}{a b:C}{x y:Str}{i j:Nat}
theorem W9.add(d:W9 a B x i)(c:W9 b B y j)(h:i+j<=1000:=by decide):W9 (ZW ZQ a b) B (x++y) (i+j):=by have f:=d.l;have e:=c.l;have q:=WJ (x:=x) (y:=y) (by lia);exact⟨λS=>by simp[d.e,c.e,q],by rw[Str.length_append];lia⟩
theorem W9.con(z:Str)(b:Nat)(h:z.length<=b:=by decide):W9 (ZX (.str z)) B z b:=⟨λS=>rfl,h⟩
theorem W9.var(k:Nat){b:Nat}(h:B[k]?=Z9 (Z9 (.str z)))(l:z.length<=b):W9 (ZY k) B z b:=⟨λS=>by simp[h],l⟩
end
def Sx(a:List C)(B:ZR)(b:yH):Prop:=∀S,ZS a B S=.ok (b.map D.str) S
theorem Il:Sx [] B []:=λS=>rfl
theorem UE(h:W9 c B z b)(t:Sx a B d):Sx (c::a) B (z::d):=λS=>by simp[h.e,t S]
theorem iG(h:Sx a B b)(S:ZU):Zv (ZS a) B S=.ok (.lst S.length) (S++[.lst (b.map D.str)]):=by simp[h S]
theorem CY(hk:B[k]?=Z9 (Z9 (.lst j)))(l:ZC S j=Z9 (xs.map D.str))(h:Sx c B b)(d:xs.length+b.length<=100):
  ZW ZQ (ZY k) (Zv (ZS c)) B S=.ok (.lst (S.length+1)) (S++[.lst (b.map D.str)]++[.lst ((xs++b).map D.str)]):=by have a:=QH (O6 (T:=[.lst (b.map D.str)]) l) (Y9 S (b.map D.str)) (by rw[qA6,qA6,X6];lia);rw[qC4,qI0,<- qE3]at a;simp[hk,h S,a]
def WL(cl:Nat->ZO)(n:Nat)(z:Str):Prop:=∀i S,Xm (cl n "Desk.say" [.ob i,.str z] S) "BadNote" S
def Mo(v:Str):Bool:=decide (32∉v.cps.toList)&&decide (v.length<=20)
theorem W8(h:Mo v=Z7):Fr v/\v.length<=20:=by unfold Mo at h;rw[qB3,decide_eq_true_eq,decide_eq_true_eq]at h;exact h
theorem V8(h:Zf v=Z7):Fr v/\v.length<=20:=by have:=Vm h;exact⟨this.2.2.2.1,by lia⟩
section
variable (H:Xl cl) (n:Nat) {nm odd:Str} (mn:Zf nm=true) (ho:Xa odd)
include H ho
theorem Ro(b:Xz.lookup v=Z9 [oS "A"])(c:Mo v=Z7)(st:∀X:yH,V5 (jn (v::X)) (Str.ofString "net ")=Z5):WL cl (n+6) (jn [v,odd]):=λi S =>
 Qr (n:=n+2) H ho (its:=[]) (ZM:=[]) b (λa h=>absurd h (by simp)) (by decide) (by decide) (λw d=>by
  rw[qD7.mp d];exact W8 c) st S
include mn
theorem CW(c:Xz.lookup v=Z9 [oS "A",kb])(hk:Qw kb=Z5)(d:Mo v=Z7)(st:∀X:yH,V5 (jn (v::X)) (Str.ofString "net ")=Z5):WL cl (n+6) (jn [v,nm,odd]):=λi S =>
 Qr (n:=n+2) H ho (its:=[(oS "A",nm,.str nm)]) (ZM:=[]) c (λa h=>by rw[qD7.mp h];exact Tv H.wr H.nr (n+2) (by decide) mn) hk (by show 1+0<=3;decide) (λw b=>by
  simp only[qB2,qF8,qD6,qA8,qB8,or_false]at b;rcases b with rfl|rfl
  .exact W8 d
  .exact V8 mn) st S
theorem iF:WL cl (n+6) (jn [oS "about",odd,nm]):=λi S =>
 Qr (n:=n+2) H ho (its:=[]) (ZM:=[(oS "N",nm)]) (kb:=oS "A") (by kernel_rfl) (λa h=>absurd h (by simp)) (by decide) (by show 0+1<=3;decide) (λw b=>by
  simp only[qB2,qF8,qF1,qA8,qB8,or_false]at b;rcases b with rfl|rfl
  .exact W8 (by decide)
  .exact V8 mn) (λX=>by rw[UX,Vn];cases X<;>rfl) S
theorem iE:WL cl (n+6) (jn [oS "row",nm,odd,oS "c"]):=λi S =>
 Qr (n:=n+2) H ho (its:=[(oS "A",nm,.str nm)]) (ZM:=[(oS "N",oS "c")]) (kb:=oS "B") (by kernel_rfl) (λa h=>by rw[qD7.mp h];exact Tv H.wr H.nr (n+2) (by decide) mn) (by decide) (by show 1+1<=3;decide) (λw b=>by
  simp only[qB2,qF8,qH5,qF1,qA8,qB8,or_false]at b;rcases b with rfl|rfl|rfl
  .exact W8 (by decide)
  .exact V8 mn
  .exact W8 (by decide)) (λX=>by rw[UX,Vn];cases X<;>rfl) S
theorem iD:WL cl (n+6) (jn [oS "cut",nm,oS "0",odd]):=λi S =>
 Qr (n:=n+2) H ho (its:=[(oS "A",nm,.str nm),(oS "C",oS "0",.int 0)]) (ZM:=[]) (kb:=oS "N") (by kernel_rfl) (λa h=>by
  simp only[qA8,qB8,or_false]at h;rcases h with rfl|rfl
  .exact Tv H.wr H.nr (n+2) (by decide) mn
  .exact iI H (n+2)) (by decide) (by show 2+0<=3;decide) (λw b=>by
  simp only[qB2,qF8,qD6,qA8,qB8,or_false]at b;rcases b with rfl|rfl|rfl
  .exact W8 (by decide)
  .exact V8 mn
  .exact W8 (by decide)) (λX=>by rw[UX,Vn];cases X<;>rfl) S
theorem iC:WL cl (n+6) (jn [oS "side",odd,nm,oS "c"]):=λi S =>
 Qr (n:=n+2) H ho (its:=[]) (ZM:=[(oS "B",nm),(oS "N",oS "c")]) (kb:=oS "A") (by kernel_rfl) (λa h=>absurd h (by simp)) (by decide) (by show 0+2<=3;decide) (λw b=>by
  simp only[qB2,qF8,qF1,qA8,qB8,or_false]at b;rcases b with rfl|rfl|rfl
  .exact W8 (by decide)
  .exact V8 mn
  .exact W8 (by decide)) (λX=>by rw[UX,Vn];cases X<;>rfl) S
def Wr(nm a:Str):yH:=[oS "show "++a,oS "trim "++nm++oS " "++a,oS "about "++a++oS " "++nm,oS "net "++a++oS " 1 2:"]++[oS "row "++nm++oS " "++a++oS " c",oS "cut "++nm++oS " 0 "++a,oS "side "++a++oS " "++nm++oS " c"]++[oS "alike "++nm++oS " "++a,oS "fewest "++a,oS "ways "++a]
omit mn ho H in
theorem iB(nm b:Str):Wr nm b=[jn [oS "show",b],jn [oS "trim",nm,b],jn [oS "about",b,nm],jn [nW,b,one,two'],jn [oS "row",nm,b,oS "c"],jn [oS "cut",nm,oS "0",b],jn [oS "side",b,nm,oS "c"],jn [oS "alike",nm,b],jn [oS "fewest",b],jn [oS "ways",b]]:=by
 have f:∀a:Str,jn [a]=a:=λ_=>rfl;have s:oS " "=bk:=rfl;have e:oS "show "=oS "show"++bk:=by kernel_rfl
 have c:oS "trim "=oS "trim"++bk:=by kernel_rfl
 have d:oS "about "=oS "about"++bk:=by kernel_rfl
 have h:oS "net "=nW++bk:=by kernel_rfl
 have l:oS " 1 2:"=bk++(one++(bk++two')):=by kernel_rfl
 have k:oS "row "=oS "row"++bk:=by kernel_rfl
 have j:oS " c"=bk++oS "c":=by kernel_rfl
 have o:oS "cut "=oS "cut"++bk:=by kernel_rfl
 have p:oS " 0 "=bk++(oS "0"++bk):=by kernel_rfl
 have g:oS "side "=oS "side"++bk:=by kernel_rfl
 have i:oS "alike "=oS "alike"++bk:=by kernel_rfl
 have m:oS "fewest "=oS "fewest"++bk:=by kernel_rfl
 have q:oS "ways "=oS "ways"++bk:=by kernel_rfl
 unfold Wr;rw[e,c,d,h,l,k,j,o,p,g,i,m,q,s];simp only[IQ,f,Str.append_assoc,qH5,qF1]
theorem iA:∀z∈Wr nm odd,WL cl (n+6) z:=λz a=>by
 rw[iB]at a;simp only[qA8,qB8,or_false]at a;rcases a with rfl|rfl|rfl|rfl|rfl|rfl|rfl|rfl|rfl|rfl
 .exact Ro H n ho (by kernel_rfl) (by decide) λX=>by rw[UX,Vn];cases X<;>rfl
 .exact CW H n mn ho (kb:=oS "N") (by kernel_rfl) (by decide) (by decide) λX=>by rw[UX,Vn];cases X<;>rfl
 .exact iF H n mn ho
 .exact λi S=>iK H ho S
 .exact iE H n mn ho
 .exact iD H n mn ho
 .exact iC H n mn ho
 .exact CW H n mn ho (kb:=oS "B") (by kernel_rfl) (by decide) (by decide) λX=>by rw[UX,Vn];cases X<;>rfl
 .exact Ro H n ho (by kernel_rfl) (by decide) λX=>by rw[UX,Vn];cases X<;>rfl
 .exact Ro H n ho (by kernel_rfl) (by decide) λX=>by rw[UX,Vn];cases X<;>rfl
end
inductive iy(cl:Nat->ZO)(r:R D)(S:ZU)(p:Nat):Prop
 |mk (z:Str) (S1:ZU) (e:r=.ok (.str z) S1) (w:∀n,WL cl (n+6) z) (k:Kp (·=p) S S1) (st:XT S1 p)
inductive Rn(cl:Nat->ZO)(S:ZU)(p:Nat)(r:RS):Prop
 |mk (z:Str) (S1:ZU) (e:r=.rt (.str z) S1) (w:∀n,WL cl (n+6) z) (k:Kp (·=p) S S1) (st:XT S1 p)
theorem Ik{l:yH}{r:Int}(b:0<=r)(c:r<l.length):∃z,z∈l/\X0 (l.map D.str) r=Z9 (.str z):=by
 obtain⟨n,rfl⟩:∃n:Nat,r=n:=⟨r.toNat,by lia⟩
 have a:n<l.length:=by lia
 exact⟨l[n],qI4 a,WO (by rw[qC1,qA7 a];rfl)⟩
theorem Ij(c:ZO)(o:∀S,YH (.str nm) Z8 (Z9 k) S=.ok (.str f) S)(h:∀S,Zt [.str SG] S=.ok (.int 68) S)(n:c "_law_draw" [.lst p,.int 68] S=.ok (.int e) S2)(i:∀S,ZI (.str SG) (.int e) S=.ok (.str d) S)(q:∀S,ZQ (.str f) (.str d) S=.ok (.str x) S)(m:∀S,YH (.str nm) (Z9 k) Z8 S=.ok (.str g) S)(j:∀S,ZQ (.str x) (.str g) S=.ok (.str y) S)
  (r:∀S,V0 (.str nm) (.int 9) S=.ok (.str b) S) (s:∀S,YH (.str b) Z8 (Z9 9) S=.ok (.str u) S) (up:∀S,RT (.str nm) [] S=.ok (.str a) S) :
  Zv (ZS [(ZW ZQ (ZW ZQ (XY YH (ZY 1) XF (X3 (ZY 3))) (ZW ZI (ZY 2) (ZT (c "_law_draw") (ZS [(ZY 0),(ZT Zt (ZS [(ZY 2)]))])))) (XY YH (ZY 1) (X3 (ZY 3)) XF)),(ZX (.str (Str.ofString ""))),(XY YH (ZW V0 (ZY 1) (ZX (.int 9))) XF (X3 (ZX (.int 9)))),(UL "str" RT (ZY 1))]) [Z9 (.lst p),Z9 (.str nm),Z9 (.str SG),Z9 (.int k),d4,d5] S=.ok (.lst S2.length) (S2++[.lst ([y,Str.ofString "",u,a].map D.str)]):=by have l:∀S,YX "str" (.str nm) S=Z7:=λ_=>rfl;simp[o,h,n,i,q,m,j,r,s,up,l]
theorem ix(P:Tt cl)(H:Xl cl)(h:DY cl)(n:Nat)(hp:XT S p)(t:Zf nm=Z7):iy cl (cl (n+3) "_law_wrong" [.lst p,.str nm] S) S p:=by
 obtain⟨_,l8,l1,_,hc⟩:=Vm t;have zl:nm.cps.toList.length=nm.length:=by simp[Str.length]
 suffices s:Rn cl S p (MQ (cl (n+2)) [Z9 (.lst p),Z9 (.str nm),Z8,Z8,Z8,Z8] S) by obtain⟨z,S9,e,w,k,st⟩:=s;refine⟨z,S9,?_,w,k,st⟩;rw[show n+3=(n+2)+1 from rfl,h];exact YT rfl e
 unfold MQ;refine WS (G:=Rn cl S p) (d:=.str SG) (S1:=S) rfl ?_;obtain⟨k0,S1,e1,a1,b1,k1,_,U⟩:=Xx P n hp (m:=(nm.length:Int)+1) (by lia) (by lia);obtain⟨k,rfl⟩:∃k:Nat,k0=k:=⟨k0.toNat,by lia⟩
 have f1:=Qx (z:=nm) (by lia) S;refine WS (G:=Rn cl S p) (d:=.int k) (S1:=S1) (by simp[f1,e1]) ?_;obtain⟨r2,g,e2,a2,b2,k2,_,A⟩:=Xx P n U (m:=68) (by lia) (by lia);have hl:SG.cps.toList.length=68:=by have:=Ou.2;simpa[Str.length]using this
 obtain⟨x,hx,hm⟩:=Ip (l:=SG.cps.toList) a2 (by rw[hl];exact b2);have I:=qB9.mp Ou.1 x hm;rw[qB3,decide_eq_true_eq,qF6]at I;have hk:k<=nm.length:=by lia
 have o1:=iT t k hk I.1 I.2;have t1:=λS=>Ov (z:=nm) (by lia) Z8 (Z9 (k:Int)) S;rw[Mr nm k]at t1;have Z:=λS=>Ov (z:=nm) (by lia) (Z9 (k:Int)) Z8 S;rw[iY nm hk]at Z;have le1:(⟨(nm.cps.toList.take k).toArray⟩:Str).length<=8:=by show(nm.cps.toList.take k).toArray.size<=8;rw[qB4,qD2];lia
 have le3:(⟨(nm.cps.toList.drop k).toArray⟩:Str).length<=8:=by show(nm.cps.toList.drop k).toArray.size<=8;rw[qB4,qE8];lia
 have ea:((⟨(nm.cps.toList.take k).toArray⟩:Str)++(⟨#[x]⟩:Str))++(⟨(nm.cps.toList.drop k).toArray⟩:Str)=⟨(nm.cps.toList.take k++[x]++nm.cps.toList.drop k).toArray⟩:=by apply OM;simp[Str.cps_append]
 have u:=iO t;have up:∀S,RT (.str nm) [] S=.ok (.str (Txt.upper nm)) S:=λS=>by show(if nm.length<=1000/\Builtin.Str.tooLong (Txt.upper nm).length=Z5 then R.ok (D.str (Txt.upper nm)) S else .bad)=_;rw[if_pos ⟨by lia,by unfold Builtin.Str.tooLong;exact decide_eq_false (by rw[vY];lia)⟩]
 have m9:∀S,V0 (.str nm) (.int 9) S=.ok (.str (Txt.mul nm 9)) S:=λS=>by show(if nm.length<=16/\(0:Int)<=9/\(9:Int)<=1000 then R.ok (D.str (Txt.mul nm 9)) S else .bad)=_;rw[if_pos ⟨by lia,by decide,by decide⟩]
 have lm:(Txt.mul nm 9).length<=1000:=by
  have n0:¬(((9:Int) == 1||nm.length == 0)=Z7):=by simp;lia
  have e:(Txt.mul nm 9).cps.toList.length=9*nm.length:=by unfold Txt.mul;rw[if_neg (by decide),if_neg n0,show(9:Int).toNat=9 from rfl];simp[qC3,Str.length];lia
  have:(Txt.mul nm 9).length=9*nm.length:=by rw[<- e];simp[Str.length]
  lia
 have o3:=iR t;have q:=Ij (cl (n+2)) (d4:=Z8) (d5:=Z8) t1 (λS=>by have:=Qx (z:=SG) (by rw[Ou.2];decide) S;rw[Ou.2]at this;exact this) e2 (λS=>C3 hx (by rw[Ou.2];decide) S) (λS=>WJ (by rw[show(⟨#[x]⟩:Str).length=1 from rfl];lia) S) Z (λS=>WJ (by rw[Str.length_append,show(⟨#[x]⟩:Str).length=1 from rfl];lia) S) m9 (λS=>Ov lm Z8 (Z9 9) S) up;rw[ea]at q;generalize (⟨(nm.cps.toList.take k++[x]++nm.cps.toList.drop k).toArray⟩:Str)=y at o1 q;generalize Txt.slice (Txt.mul nm 9) Z8 (Z9 9)=y3 at o3 q;have o4:=u.1;generalize Txt.upper nm=y4 at o4 q;refine WS (G:=Rn cl S p) q ?_;obtain⟨S3,J⟩:∃S3,g++[.lst ([y,Str.ofString "",y3,y4].map D.str)]=S3:=⟨_,rfl⟩
 have x3:Ex g S3:=J▸Zk _ _;rw[J];obtain⟨r4,b,e4,a4,b4,X,_,o⟩:=Xx P n (A.ex x3) (m:=4) (by lia) (by lia);have ne:¬g.length=p:=by have:=A.lt;lia
 have l4:ZC b g.length=Z9 ([y,Str.ofString "",y3,y4].map D.str):=X.lst (J▸Y9 _ _) ne;obtain⟨odd,ho,i4⟩:=Ik (l:=[y,Str.ofString "",y3,y4]) a4 b4;have v:=Xc l4 r4;rw[i4]at v;have oo:Xa odd:=by
  simp only[qA8,qB8,or_false]at ho;rcases ho with rfl|rfl|rfl|rfl
  .exact o1
  .exact iS
  .exact o3
  .exact o4
 refine WS (G:=Rn cl S p) (d:=.str odd) (S1:=b) (by simp[e4,v]) ?_;have lo:=oo.len;obtain⟨B,hB⟩:∃B:ZR,B=[Z9 (.lst p),Z9 (.str nm),Z9 (.str SG),Z9 (.int k),Z9 (.str odd),Z8]:=⟨_,rfl⟩
 have f:∀d5:Option D,W9 (ZY 1) [Z9 (.lst p),Z9 (.str nm),Z9 (.str SG),Z9 (.int k),Z9 (.str odd),d5] nm 8/\W9 (ZY 4) [Z9 (.lst p),Z9 (.str nm),Z9 (.str SG),Z9 (.int k),Z9 (.str odd),d5] odd 9:=λd5=>⟨.var 1 rfl l8,.var 4 rfl lo⟩
 have L1:∀d5,Sx [(ZW ZQ (ZX (.str (Str.ofString "show "))) (ZY 4)),(ZW ZQ (ZW ZQ (ZW ZQ (ZX (.str (Str.ofString "trim "))) (ZY 1)) (ZX (.str (Str.ofString " ")))) (ZY 4)),(ZW ZQ (ZW ZQ (ZW ZQ (ZX (.str (Str.ofString "about "))) (ZY 4)) (ZX (.str (Str.ofString " ")))) (ZY 1)),(ZW ZQ (ZW ZQ (ZX (.str (Str.ofString "net "))) (ZY 4)) (ZX (.str (Str.ofString " 1 2:"))))] [Z9 (.lst p),Z9 (.str nm),Z9 (.str SG),Z9 (.int k),Z9 (.str odd),d5] [oS "show "++odd,oS "trim "++nm++oS " "++odd,oS "about "++odd++oS " "++nm,oS "net "++odd++oS " 1 2:"]:=λd5=>by obtain⟨c,a⟩:=f d5;exact UE ((W9.con _ 20).add a) (UE ((((W9.con _ 20).add c).add (.con _ 20)).add a) (UE ((((W9.con _ 20).add a).add (.con _ 20)).add c) (UE (((W9.con _ 20).add a).add (.con _ 20)) Il)))
 have F:∀d5,Sx [(ZW ZQ (ZW ZQ (ZW ZQ (ZW ZQ (ZX (.str (Str.ofString "row "))) (ZY 1)) (ZX (.str (Str.ofString " ")))) (ZY 4)) (ZX (.str (Str.ofString " c")))),(ZW ZQ (ZW ZQ (ZW ZQ (ZX (.str (Str.ofString "cut "))) (ZY 1)) (ZX (.str (Str.ofString " 0 ")))) (ZY 4)),(ZW ZQ (ZW ZQ (ZW ZQ (ZW ZQ (ZX (.str (Str.ofString "side "))) (ZY 4)) (ZX (.str (Str.ofString " ")))) (ZY 1)) (ZX (.str (Str.ofString " c"))))] [Z9 (.lst p),Z9 (.str nm),Z9 (.str SG),Z9 (.int k),Z9 (.str odd),d5] [oS "row "++nm++oS " "++odd++oS " c",oS "cut "++nm++oS " 0 "++odd,oS "side "++odd++oS " "++nm++oS " c"]:=λd5=>by obtain⟨c,a⟩:=f d5;exact UE (((((W9.con _ 20).add c).add (.con _ 20)).add a).add (.con _ 20)) (UE ((((W9.con _ 20).add c).add (.con _ 20)).add a) (UE (((((W9.con _ 20).add a).add (.con _ 20)).add c).add (.con _ 20)) Il))
 have L3:∀d5,Sx [(ZW ZQ (ZW ZQ (ZW ZQ (ZX (.str (Str.ofString "alike "))) (ZY 1)) (ZX (.str (Str.ofString " ")))) (ZY 4)),(ZW ZQ (ZX (.str (Str.ofString "fewest "))) (ZY 4)),(ZW ZQ (ZX (.str (Str.ofString "ways "))) (ZY 4))] [Z9 (.lst p),Z9 (.str nm),Z9 (.str SG),Z9 (.int k),Z9 (.str odd),d5] [oS "alike "++nm++oS " "++odd,oS "fewest "++odd,oS "ways "++odd]:=λd5=>by obtain⟨c,a⟩:=f d5;exact UE ((((W9.con _ 20).add c).add (.con _ 20)).add a) (UE ((W9.con _ 20).add a) (UE ((W9.con _ 20).add a) Il))
 have q5:=iG (L1 Z8) b;obtain⟨S5,s⟩:∃S5,b++[.lst ([oS "show "++odd,oS "trim "++nm++oS " "++odd,oS "about "++odd++oS " "++nm,oS "net "++odd++oS " 1 2:"].map D.str)]=S5:=⟨_,rfl⟩
 have l5:ZC S5 b.length=Z9 ([oS "show "++odd,oS "trim "++nm++oS " "++odd,oS "about "++odd++oS " "++nm,oS "net "++odd++oS " 1 2:"].map D.str):=s▸Y9 _ _;have x5:Ex b S5:=s▸Zk _ _;rw[s]at q5;refine WS (G:=Rn cl S p) q5 ?_;have M:=CY (k:=5) (S:=S5) (j:=b.length) (B:=[Z9 (.lst p),Z9 (.str nm),Z9 (.str SG),Z9 (.int k),Z9 (.str odd),Z9 (.lst b.length)]) rfl l5 (F _) (by show 4+3<=100;decide);obtain⟨S6,N⟩:∃S6,S5++[.lst ([oS "row "++nm++oS " "++odd++oS " c",oS "cut "++nm++oS " 0 "++odd,oS "side "++odd++oS " "++nm++oS " c"].map D.str)]=S6:=⟨_,rfl⟩
 have W:Ex S5 S6:=N▸Zk _ _;rw[N]at M;have n6:S6.length=S5.length+1:=by rw[<- N];simp
 rw[<- n6]at M;refine WS (G:=Rn cl S p) M ?_;have Y:=Y9 S6 (([oS "show "++odd,oS "trim "++nm++oS " "++odd,oS "about "++odd++oS " "++nm,oS "net "++odd++oS " 1 2:"]++[oS "row "++nm++oS " "++odd++oS " c",oS "cut "++nm++oS " 0 "++odd,oS "side "++odd++oS " "++nm++oS " c"]).map D.str);have K:=Zk S6 [O.lst (([oS "show "++odd,oS "trim "++nm++oS " "++odd,oS "about "++odd++oS " "++nm,oS "net "++odd++oS " 1 2:"]++[oS "row "++nm++oS " "++odd++oS " c",oS "cut "++nm++oS " 0 "++odd,oS "side "++odd++oS " "++nm++oS " c"]).map D.str)];generalize S6++[O.lst (([oS "show "++odd,oS "trim "++nm++oS " "++odd,oS "about "++odd++oS " "++nm,oS "net "++odd++oS " 1 2:"]++[oS "row "++nm++oS " "++odd++oS " c",oS "cut "++nm++oS " 0 "++odd,oS "side "++odd++oS " "++nm++oS " c"]).map D.str)]=S7 at Y K ⊢;have E:=CY (k:=5) (S:=S7) (j:=S6.length) (B:=[Z9 (.lst p),Z9 (.str nm),Z9 (.str SG),Z9 (.int k),Z9 (.str odd),Z9 (.lst S6.length)]) rfl Y (L3 _) (by show 7+3<=100;decide);obtain⟨S8,L⟩:∃S8,S7++[.lst ([oS "alike "++nm++oS " "++odd,oS "fewest "++odd,oS "ways "++odd].map D.str)]=S8:=⟨_,rfl⟩
 have x8:Ex S7 S8:=L▸Zk _ _;have n8:S8.length=S7.length+1:=by rw[<- L];simp
 rw[L,<- n8]at E;have l9:=Y9 S8 ((Wr nm odd).map D.str);have x9:=Zk S8 [O.lst ((Wr nm odd).map D.str)];change ZW ZQ _ _ _ _=R.ok (.lst S8.length) (S8++[O.lst ((Wr nm odd).map D.str)])at E;generalize S8++[O.lst ((Wr nm odd).map D.str)]=S9 at E l9 x9;have xx:Ex b S9:=x5.trans (W.trans (K.trans (x8.trans x9)));obtain⟨ra,Sa,T,aa,ba,ka,_,Q⟩:=Xx P n (o.ex xx) (m:=10) (by lia) (by lia);have V:¬S8.length=p:=by have:=o.lt;have:=(x5.trans (W.trans (K.trans x8))).le;lia
 have la:=ka.lst l9 V;obtain⟨z,hz,iz⟩:=Ik (l:=Wr nm odd) aa ba;have i:=Xc la ra;rw[iz]at i;refine⟨z,Sa,?_,λm=>iA H m t oo z hz,k1.trans (k2.trans (x3.kp.trans (X.trans (xx.kp.trans ka)))),Q⟩;have e0:∀(cs:List C) (B:ZR),ZW ZI (ZW ZQ (ZY 5) (Zv (ZS cs))) (ZT (cl (n+2) "_law_draw") (ZS [(ZY 0),(ZX (.int 10))])) B S7=Zw (ZW ZQ (ZY 5) (Zv (ZS cs)) B S7) (λx S1=>Zw (ZT (cl (n+2) "_law_draw") (ZS [(ZY 0),(ZX (.int 10))]) B S1) (λy g=>ZI x y g) .mk) .mk:=λ_ _=>rfl;rw[En,o7,e0];have r:=E;simp only[List.set_cons_succ,List.set_cons_zero]at r ⊢;rw[r];simp[T,i]
def Vl(kd:KD):Prop:=∀p∈kd,∃x N,p=(.inr x,Zc.d N)/\Zf x=Z7/\N.g
theorem Vl.names:∀{kd:KD},Vl kd->∃ns,QT kd=Z9 ns/\kd.map (·.1)=ns.map Sum.inr/\ns.length=kd.length/\∀z∈ns,Zf z=Z7
 |[],_=>⟨[],rfl,rfl,rfl,λz h=>absurd h (by simp)⟩
 |p::r,h=>by
  obtain⟨x,N,rfl,e,i⟩:=h p qD1;obtain⟨ns,d,b,c,f⟩:=Vl.names (kd:=r) λq g=>h q (qC5 _ g);refine⟨x::ns,?_,by rw[qB2,qB2,b],by rw[qB6,qB6,c],λz a=>?_⟩
  .show(QT r).map (x::·)=_;rw[d];rfl
  .rcases qA8.mp a with rfl|a
   .exact e
   .exact f z a
theorem Vl.at:∀{kd:KD}{x:Str},Vl kd->(.inr x:ZA)∈kd.map (·.1)->∃N,tv kd x=Z9 (Zc.d N)/\N.g
 |[],x,_,h=>absurd h (by simp)
 |p::r,x,hk,h=>by
  obtain⟨y,N,rfl,f,c⟩:=hk p qD1;by_cases e:x=y
  .subst e;exact⟨N,by simp[tv,Zh],c⟩
  .obtain⟨M,b,a⟩:=Vl.at (kd:=r) (x:=x) (λq d=>hk q (qC5 _ d)) (by
    rw[qB2,qA8]at h;rcases h with h|h
    .exact absurd (Sum.inr.inj h) e
    .exact h)
   refine⟨M,?_,a⟩;have ne:¬y=x:=λz=>e z.symm;simpa[tv,Zh,ne]using b
theorem Vl.put{kd:KD}(h:Vl kd)(d:Zf x=Z7)(f:N.g):Vl (Zu kd (.inr x) (Zc.d N)):=λp b=>by
 unfold Zu at b;split at b
 .obtain⟨q,a,rfl⟩:=qF4.mp b;obtain⟨y,M,rfl,c,g⟩:=h q a;by_cases e:(.inr y:ZA)=.inr x
  .rw[if_pos (by simpa using e)];exact⟨_,N,by first|rfl|rw[e],by first|exact d|exact c,f⟩
  .rw[if_neg (by simpa using e)];exact⟨y,M,rfl,c,g⟩
 .rcases qE2.mp b with a|a
  .exact h p a
  .rw[qD7.mp a];exact⟨x,N,rfl,d,f⟩
theorem Ii(h:S[m]?=Z9 (.fk kvs))(e:tv kvs x=Z9 d):ZI (.dct m) (.str x) S=.ok d S:=by
 have q:dictAt S m (.str x)=Z9 (tv kvs x):=by unfold dictAt;rw[h];rfl
 unfold ZI
 simp_all
theorem iu{ns:yH}(h:∀z∈ns,Zf z=Z7)(c:ns.length<=60):dI (oS " ") ns=Z7:=MD (by
 have:∀L:yH,(∀z∈L,Zf z=Z7)->(L.map (·.length)).sum<=8*L.length:=λL=>by
  induction L with
  |nil=>intro _;simp
  |cons w r a=>intro h;have:=a λx b=>h x (qC5 _ b);have:=Rq (h w qD1);simp;lia
 have:=this ns h;rw[show(oS " ").length=1 from rfl];lia)
structure UW(cl:Nat->ZO):Prop where
 dn:Xl cl
 sa:Jb cl
 lt:D2 cl
 st:mj cl
theorem iq(x:Str):oS "show "++x=jn [oS "show",x]:=by
 have a:oS "show "=oS "show"++bk:=by kernel_rfl
 rw[a];rfl
theorem ij(H:Xl cl)(b:Zf x=Z7):WI cl (oS "show "++x) [oS "show",x]:=by
 rw[iq];have:=Rq b;exact IP H.wo (by rw[UX,Vn];rfl) (by show 2<=2;decide) (by show 2<=100;decide) (λw a=>by
  simp only[qA8,qB8,or_false]at a;rcases a with rfl|rfl
  .exact(W8 (by decide)).1
  .exact(V8 b).1) (by
  have:=SM [oS "show",x];have c:(oS "show").length=4:=by decide
  simp[c]at this;lia)
theorem ig(c:ZO){S S1 S2 S3 S4 S5:ZU}(a:c "_law_said" [.ob i,.str (oS "nets")] S=.ok (.str z) S1)(f:Xe [.dct k] S1=.ok (.lst j) S2)(d:W4 (.str (Str.ofString " ")) [.lst j] S2=.ok (.str z) S2)
  (t:RU 1 (XW (YI (Zs (ZY 1)) (Zm (ZY 1))) 1 [0,1] .one (λ_=>ret Z7) (QA c)) [Z9 (.ob i),Z9 (.dct k)] S2=.ok (.lst m) S4) (b:W6 (λbs=>bs.all id) [.lst m] S4=.ok (.bl Z7) S4):MR c [Z9 (.ob i),Z9 (.dct k)] S=.rt (.bl Z7) S4:=by
 have q:∀S,Yh (.str z) (.str z) S=.ok (.bl Z5) S:=λS=>by show R.ok (D.bl (!decide (z=z))) S=_;rw[decide_eq_true rfl];rfl
 have e:∀S,YX "str" (.str (Str.ofString " ")) S=Z7:=λ_=>rfl;simp[MR,a,f,d,q,e,t,b]
theorem Ih(H:UW cl)(n:Nat){kd:KD}(hi:S[i]?=Z9 (.dk kd))(hk:S[k]?=Z9 (.dk kd))(ik:i≠k)(ok:Vl kd)(hl:kd.length<=60):Xb (cl (n+7) "_law_stays" [.ob i,.dct k] S) (.bl Z7) S:=by
 obtain⟨ns,h1,P,h3,J⟩:=ok.names;have I:=iu (ns:=Yc ns) (λz U=>J z ((PU ns).mem_iff.mp U)) (by rw[(PU ns).length_eq];lia);obtain⟨u,Q,K⟩:=ja H.dn (n:=n+3) hi h1 (by lia) I;have B:=Mp H.sa (n+5) Q;have f:Xe [.dct k] u=.ok (.lst u.length) (u++[.lst ((Yc ns).map D.str)]):=by
  have:=K.at hk λz=>z;unfold Xe;have h6:ns.length<64:=by lia
  simp_all
 obtain⟨S2,G⟩:∃S2,u++[.lst ((Yc ns).map D.str)]=S2:=⟨_,rfl⟩
 have r:Ex S S2:=K.trans (G▸Zk _ _);have jo:W4 (.str (Str.ofString " ")) [.lst u.length] S2=.ok (.str (Txt.join (oS " ") (Yc ns))) S2:=OL (G▸Y9 _ _) I;rw[G]at f;have hi2:=r.at hi λz=>z;have h:=r.at hk λz=>z;have kl:=(qA3.mp h).1;obtain⟨S3,m⟩:∃S3,S2.set k (.fk kd)=S3:=⟨_,rfl⟩
 have NR:S3[i]?=Z9 (.dk kd):=by rw[<- m,qC9 ik.symm];exact hi2
 have v:S3[k]?=Z9 (.fk kd):=by rw[<- m];exact qC7 kl
 obtain⟨d,T,A⟩:=Jw D.str (w:=[]) (t:=.one) (c:=QA (cl (n+6))) (B0:=[Z8,Z9 (.ob i),Z9 (.dct k)]) (λs=>Ex S3 s) (λs _=>XJ s) (λ_=>D.bl Z7) ns (Kp.refl _ _)
  (λx M s E=>by
   obtain⟨N,t,g⟩:=ok.at (x:=x) (by rw[P];exact qM4 M);have F:=J x M;obtain⟨Z,q1,L⟩:=jj H.dn (n:=n) F (ij H.dn F) g t (E.at NR λz=>z);have C:=Mp H.sa (n+5) q1;obtain⟨T2,q2,V⟩:=MA H.lt (n+5) g Z;have W:=Ii ((E.trans L).at v λz=>z) t;have a1:=WJ (x:=oS "show ") (y:=x) (by have:=Rq F;have h5:(oS "show ").length=5:=(by decide);lia) s;have q:Ze (.str (YC N)) (.str (YC N)) T2=.ok (.bl Z7) T2:=by show R.ok (D.bl (decide _)) T2=_;rw[decide_eq_true rfl]
   exact⟨_,rfl,T2,by simp[QA,a1,C,W,q2,q],E.trans (L.trans V)⟩)
 have o:(kd.map λp=>kD p.1)=ns.map D.str:=by
  have:(kd.map λp=>kD p.1)=(kd.map (·.1)).map kD:=by rw[qE1];rfl
  rw[this,P,qE1];rfl
 have t:RU 1 (XW (YI (Zs (ZY 1)) (Zm (ZY 1))) 1 [0,1] .one (λ_=>ret Z7) (QA (cl (n+6)))) [Z9 (.ob i),Z9 (.dct k)] S2=.ok (.lst d.length) ((d++[O.lst (ns.map λ_=>D.bl Z7)]).set k (.dk kd)):=by
  have c1:XW (YI (Zs (ZY 1)) (Zm (ZY 1))) 1 [0,1] .one (λ_=>ret Z7) (QA (cl (n+6))) [Z9 (.ob i),Z9 (.dct k)] S2=.ok (.lst d.length) (d++[O.lst (ns.map λ_=>D.bl Z7)]):=by
   have ll:ns.length<lim:=by rw[X6];lia
   simp[h,o,m,ll,T]
  have X:(d++[O.lst (ns.map λ_=>D.bl Z7)])[k]?=Z9 (.fk kd):=(A.trans (Zk d _)).at v λz=>z;unfold RU;rw[show ZY 1 [Z9 (.ob i),Z9 (.dct k)] S2=.ok (.dct k) S2 from rfl];dsimp only;rw[h];dsimp only;rw[c1];dsimp only;rw[X]
 have Y:k<d.length:=by have:=A.le;rw[<- m,qG0]at this;lia
 have b:W6 (λbs=>bs.all id) [.lst d.length] ((d++[O.lst (ns.map λ_=>D.bl Z7)]).set k (.dk kd))=.ok (.bl Z7) ((d++[O.lst (ns.map λ_=>D.bl Z7)]).set k (.dk kd)):=by have:=Dy (p:=λ_:Str=>Z7) (l:=ns) (S:=(d++[O.lst (ns.map λ_=>D.bl Z7)]).set k (.dk kd)) (n:=d.length) (QJ (by rw[qC9 (by lia)];exact VZ (Y9 _ _)));rw[this];congr 2;exact qB9.mpr λ_ _=>rfl
 refine⟨(d++[O.lst (ns.map λ_=>D.bl Z7)]).set k (.dk kd),?_,?_⟩
 .rw[show n+7=(n+6)+1 from rfl,H.st];exact YT rfl (ig _ (S3:=S) (S5:=S) B f jo t b)
 .refine⟨?_,λj hj _=>?_⟩
  .have a:=r.le;have b:=A.le;rw[<- m,qG0]at b;simp;lia
  .by_cases e:j=k
   .subst e;rw[qC7 (by simp;lia),hk]
   .rw[qC9 (Ne.symm e)];have l4:j<S3.length:=by rw[<- m,qG0];have:=r.le;lia
    rw[qB7 (by have:=A.le;lia),A.eq j l4 λz=>z,<- m,qC9 (Ne.symm e)];exact r.eq j hj λz=>z
section
variable {Gp:RS->Prop}{ZM:CS}{B B':ZR}{S S1 S2:ZU}
theorem Ig(h:e B S=.ok d S1)(q:g d B S1=.ok B' S2)(k:Gp (ZM B' S2)):Gp (ZV (ZJ e g) ZM B S):=by
 have r:ZV (ZJ e g) ZM B S=ZM B' S2:=by simp[h,q]
 rw[r];exact k
theorem ie(d:a B S=.ok x S1)(c:b B S1=.ok y S2)(k:Gp (ZM ((B.set i (Z9 x)).set j (Z9 y)) S2)):Gp (ZV (Xu i j a b) ZM B S):=by
 have r:ZV (Xu i j a b) ZM B S=ZM ((B.set i (Z9 x)).set j (Z9 y)) S2:=by simp[d,c]
 rw[r];exact k
theorem Rm{items:yM}(h:a B S=.ok (items,w) S1)(l:Yr w g b items B S1=.nx B' S2)(k:Gp (ZM B' S2)):Gp (ZV (Za a g b) ZM B S):=by
 have r:ZV (Za a g b) ZM B S=ZM B' S2:=by rw[En,o6,h,o9,l,o8]
 rw[r];exact k
theorem Sw(h:t B S=.ok Z5 S1)(k:Gp (ZM B S1)):Gp (ZV (Zj t a ZL) ZM B S):=by
 have r:ZV (Zj t a ZL) ZM B S=ZM B S1:=by simp[h]
 rw[r];exact k
end
theorem Om(kd:KD)(x:Str)(d:D):tv (Zu kd (.inr x) d) x=Z9 d:=by
 unfold tv Zu;split
 .rename_i h
  induction kd with
  |nil=>simp at h
  |cons p r a =>
   by_cases e:p.1=.inr x
   .simp[Zh,e]
   .have:(r.any λb=>decide (b.1=(.inr x:ZA)))=Z7:=by simpa[e]using h
    have:=a this;simpa[Zh,e]using this
 .rename_i h
  induction kd with
  |nil=>simp[Zh]
  |cons p r a =>
   have e:¬p.1=.inr x:=λz=>h (by simp[z]);have:=a (λz=>h (by simp[z]));simpa[Zh,e]using this
theorem Qq(kd:KD)(d:D)(n:x≠y):tv (Zu kd (.inr x) d) y=tv kd y:=by
 have b:¬(.inr x:ZA)=.inr y:=λz=>n (Sum.inr.inj z);unfold tv Zu;split
 .induction kd with
  |nil=>rfl
  |cons p r g =>
   rename_i h;by_cases e:p.1=.inr x
   .have f:¬p.1=.inr y:=λz=>b (e.symm.trans z);by_cases c:(r.any λa=>decide (a.1=(.inr x:ZA)))=Z7
    .have:=g c;simpa[Zh,e,b]using this
    .have j:(r.map λa=>if a.1=(.inr x:ZA)then(a.1,d)else a)=r:=by refine(List.map_congr_left λq k=>?_).trans (List.map_id r);rw[if_neg λz=>c (qN7.mpr ⟨q,k,by simpa using z⟩)];rfl
     simp[Zh,e,b,j]
   .by_cases f:p.1=.inr y
    .have i:¬(.inr y:ZA)=.inr x:=λz=>b z.symm;simp[Zh,f,i]
    .have c:(r.any λa=>decide (a.1=(.inr x:ZA)))=Z7:=by simpa[e]using h
     have:=g c;simpa[Zh,e,f]using this
 .simp[Zh,b]
theorem CV(x:Str)(N:Zc):oS "net "++x++oS " "++YC N=jn (nW::x::Yf N):=by
 have a:oS "net "=nW++bk:=by kernel_rfl
 have b:YC N=jn (Yf N):=by unfold YC Txt.join;rw[StrLaws.glued_eq_join];rfl
 rw[a,b,show oS " "=bk from rfl];show _=jn (nW::x::Ym N.sw.toNat::Xr N::N.cs.map YV);rw[IQ,IQ];show nW++bk++x++bk++jn (Yf N)=nW++bk++(x++bk++jn (Yf N))
 simp only[Str.append_assoc]
theorem h9(H:Xl cl)(f:Zf x=Z7)(ok:N.g):WI cl (oS "net "++x++oS " "++YC N) [nW,x,YC N]:=by
 have g:=Rq f;have lt:=DD ok;have a:∀w∈x::Yf N,Fr w:=λw a=>by
  rcases qA8.mp a with rfl|a
  .exact(V8 f).1
  .exact DE N w a
 have d:YC N=jn (Yf N):=by unfold YC Txt.join;rw[StrLaws.glued_eq_join];rfl
 have i:(YC N).length<=900:=by
  rw[d];have:=SM (Yf N);have k:=ok.c1;have s:((Yf N).map (·.length)).sum=3+6*N.cs.length:=by
   unfold Yf;rw[qB2,qB2,qE5,qE5,OI];show 1+(2+_)=_
   lia
  have l:(Yf N).length=N.cs.length+2:=by simp[Yf]
  lia
 have:=IM (cl:=cl) (b:=x) (c:=Ym N.sw.toNat) (r:=Xr N::N.cs.map YV) H.wo a (by
  have e:=CV x N;show(jn (nW::x::Yf N)).length<=1000;rw[<- e,Str.length_append,Str.length_append,Str.length_append];have h:(oS "net ").length=4:=by decide
  have j:(oS " ").length=1:=by decide
  lia)
 rw[CV,d];exact this
theorem Ie(b:Zf x=Z7)(ok:N.g)(S:ZU):ZQ (.str (oS "net ")) (.str x) S=.ok (.str (oS "net "++x)) S/\ZQ (.str (oS "net "++x)) (.str (oS " ")) S=.ok (.str (oS "net "++x++oS " ")) S/\∀S1,ZQ (.str (oS "net "++x++oS " ")) (.str (YC N)) S1=.ok (.str (oS "net "++x++oS " "++YC N)) S1:=by
 have c:=Rq b;have d:(oS "net ").length=4:=by decide
 have f:(oS " ").length=1:=by decide
 have e:(YC N).length<=900:=by
  have a:YC N=jn (Yf N):=by unfold YC Txt.join;rw[StrLaws.glued_eq_join];rfl
  rw[a];have:=SM (Yf N);have g:=ok.c1;have s:((Yf N).map (·.length)).sum=3+6*N.cs.length:=by
   unfold Yf;rw[qB2,qB2,qE5,qE5,OI];show 1+(2+_)=_
   lia
  have l:(Yf N).length=N.cs.length+2:=by simp[Yf]
  lia
 refine⟨WJ (by lia) S,WJ (by rw[Str.length_append];lia) S,λS1=>WJ (by rw[Str.length_append,Str.length_append];lia) S1⟩
theorem CU(H:UW cl)(n:Nat){kd:KD}(a:Zf x=Z7)(ok:N.g)(hi:S[i]?=Z9 (.dk kd))(b:kd.length<100):De (cl (n+9) "_law_said" [.ob i,.str (oS "net "++x++oS " "++YC N)] S) i S (Zu kd (.inr x) N.d):=by obtain⟨c,e,k,d⟩:=jk (n:=n) H.dn a ok (h9 H.dn a ok) hi b;exact⟨c,Mp H.sa (n+8) e,k,d⟩
structure W7(p i k:Nat)(kd:KD)(S:ZU):Prop where
 di:S[i]?=Z9 (.dk kd)
 dk:S[k]?=Z9 (.dk kd)
 ne:i≠k
 ip:i≠p
 kp:k≠p
 st:XT S p
 ok:Vl kd
abbrev P3(p i k:Nat):Nat->Prop:=λj=>j=p∨j=i∨j=k
theorem W7.ex{kd:KD}(h:W7 p i k kd S)(x:Ex S S'):W7 p i k kd S':=⟨x.at h.di λz=>z,x.at h.dk λz=>z,h.ne,h.ip,h.kp,h.st.ex x,h.ok⟩
theorem W7.pen{kd:KD}(h:W7 p i k kd S)(x:Kp (·=p) S S')(st:XT S' p):W7 p i k kd S':=⟨x.at h.di h.ip,x.at h.dk h.kp,h.ne,h.ip,h.kp,st,h.ok⟩
theorem Kp.p3(h:Kp (·=p) S S'):Kp (P3 p i k) S S':=h.mono λj _ e=>.inl e
theorem CQ(H:UW cl)(n:Nat){kd:KD}(a:Zf x=Z7)(ok:N.g)(T:W7 p i k kd S)(c:kd.length<100):
  ∃S1 S2,cl (n+9) "_law_said" [.ob i,.str (oS "net "++x++oS " "++YC N)] S=.ok (.str (oS "ok")) S1/\XM (.dct k) (.str x) N.d S1=Z9 S2/\W7 p i k (Zu kd (.inr x) N.d) S2/\Kp (P3 p i k) S S2/\Kp (·=i) S S1:=by
 obtain⟨S1,e,q,d⟩:=CU H n a ok T.di c;have hk:=q.at T.dk (Ne.symm T.ne);have b:=(qA3.mp hk).1;refine⟨S1,_,e,Qv hk x (by rw[X6];lia) N.d,⟨?_,qC7 b,T.ne,T.ip,T.kp,?_,T.ok.put a ok⟩,?_,q⟩
 .rw[qC9 (Ne.symm T.ne)];exact d
 .exact(T.st.kp q (Ne.symm T.ip)).kp (Vq _ _) (Ne.symm T.kp)
 .exact(q.mono λj _ e=>.inr (.inl e)).trans ((Vq _ _).mono λj _ e=>.inr (.inr e))
theorem h8(c:ZO)(g:ZI (.dct m) (.str x) S=.ok a S)(e:c "_law_net_text" [a] S=.ok (.str t) S1)(n:ZQ (.str (oS "net ")) (.str x) S=.ok (.str b) S)(h:ZQ (.str b) (.str (oS " ")) S=.ok (.str d) S)(j:ZQ (.str d) (.str t) S1=.ok (.str z) S1)
  (l:c "_law_said" [.ob i,.str z] S1=.ok (.str (oS "ok")) S2) (f:ZI (.dct m) (.str x) S2=.ok a S2) (s:XM (.dct k) (.str x) a S2=Z9 S3) :
  OS c [Z9 (.lst p),Z9 (.ob i),Z9 (.dct k),v3,v4,Z9 (.dct m),Z9 (.str x),v7,v8] S=.nx [Z9 (.lst p),Z9 (.ob i),Z9 (.dct k),v3,v4,Z9 (.dct m),Z9 (.str x),v7,v8] S3:=by
 have q:∀S,Yh (.str (oS "ok")) (.str (oS "ok")) S=.ok (.bl Z5) S:=λS=>by show R.ok (D.bl (!decide _)) S=_;rw[decide_eq_true rfl];rfl
 simp[OS,g,e,n,h,j,l,q,f,s]
theorem Mn(H:UW cl)(n:Nat){kd c:KD}(h:Zf x=Z7){N:Zc}(ok:N.g)(T:W7 p i k kd S)(q:kd.length<100)(g:S[m]?=Z9 (.fk c))(t:tv c x=Z9 N.d)(j:m≠i)(u:m≠k):
  ∃S3,OS (cl (n+9)) [Z9 (.lst p),Z9 (.ob i),Z9 (.dct k),v3,v4,Z9 (.dct m),Z9 (.str x),v7,v8] S=.nx [Z9 (.lst p),Z9 (.ob i),Z9 (.dct k),v3,v4,Z9 (.dct m),Z9 (.str x),v7,v8] S3/\W7 p i k (Zu kd (.inr x) N.d) S3/\Kp (P3 p i k) S S3/\S3[m]?=Z9 (.fk c):=by
 obtain⟨v,o,b⟩:=MA H.lt (n+8) ok S;obtain⟨l,S3,A,s,C,y,f⟩:=CQ H n h ok (T.ex b) q;obtain⟨B,r,w⟩:=Ie h ok S;have e:=b.at g λz=>z;have a:=f.at e j;have E:S3=l.set k (.dk (Zu kd (.inr x) N.d)):=by have d:=f.at (T.ex b).dk (Ne.symm T.ne);have:=Qv d x (by rw[X6];lia) N.d;rw[s]at this;exact Option.some.inj this
 refine⟨S3,h8 _ (Ii g t) o B r (w v) A (Ii a t) s,C,b.kp.trans y,?_⟩;rw[E,qC9 (Ne.symm u)];exact a
abbrev Rr(p i k:Nat)(v3 v4 v5 v6 v7 v8:Option D):ZR:=[Z9 (.lst p),Z9 (.ob i),Z9 (.dct k),v3,v4,v5,v6,v7,v8]
theorem hZ(c:ZO)(e:c "_law_said" [.ob i,.str z] S=.ok (.int 6) S1):I0 c (Rr p i k v3 v4 v5 v6 (Z9 (.str z)) v8) S=.nx (Rr p i k v3 v4 v5 v6 (Z9 (.str z)) v8) S1:=by simp[I0,e]
theorem hY(c:ZO)(e:c "_law_said" [.ob i,.str z] S=.ok (.int 0) S1):Ja c (Rr p i k v3 v4 v5 v6 (Z9 (.str z)) v8) S=.nx (Rr p i k v3 v4 v5 v6 (Z9 (.str z)) v8) S1:=by simp[Ja,e]
theorem CP{c:ZO}{e:yH}(u:∀{z:Str}{S S1:ZU},c "_law_said" [.ob i,.str z] S=.ok (.int a) S1->body (Rr p i k v3 v4 v5 v6 (Z9 (.str z)) v8) S=.nx (Rr p i k v3 v4 v5 v6 (Z9 (.str z)) v8) S1)
  (q:Ex S0 S) (r:∀z∈e,∀S',Ex S0 S'->Xb (c "_law_said" [.ob i,.str z] S') (.int a) S'):∃f S',Yr [(S.length,e.map D.str)] (gN 7) body (e.map D.str) (Rr p i k v3 v4 v5 v6 v7 v8) (S++[.lst (e.map D.str)])=.nx (Rr p i k v3 v4 v5 v6 f v8) S'/\Ex S S':=by
 have v:=Y9 S (e.map D.str);have h:=Zk S [O.lst (e.map D.str)];obtain⟨E,m,s,f,rfl,n⟩:=RB (w:=[(S.length,e.map D.str)]) (g:=gN 7) (b:=body) (items:=e.map D.str) (λ_ B S'=>∃v7,B=Rr p i k v3 v4 v5 v6 v7 v8/\Ex (S++[.lst (e.map D.str)]) S') (λ_ B S' ⟨_,_,x⟩=>UF (x.lst v λz=>z)) ⟨v7,rfl,Kp.refl _ _⟩
  (λj d B S' l y=>by
   obtain⟨v7,rfl,x⟩:=y;rw[qC1]at l;obtain⟨z,o,rfl⟩:=qA1.mp l;obtain⟨C,t,A⟩:=r z (qC2 o) S' (q.trans (h.trans x));exact⟨_,S',rfl,_,_,.inl (u t),Z9 (.str z),rfl,x.trans A⟩)
 exact⟨f,m,s,h.trans n⟩
def XS:yH:=[oS "x",oS "yy",oS "zzz"]
theorem hX(c:ZO){S S1 S2 S3 S4:ZU}(e:Yz [] .one (λ_=>ret Z7) (Rw c) [Z8,Z9 (.ob i),Z9 (.str x)] [.str (oS "row p "),.str (oS "side q ")] S=.ok [.int 5,.int 5] S1)(d:S1++[.lst [.int 5,.int 5]]=S2)(b:S2++[.lst [.int 5]]=S3)(m:V0 (.lst S2.length) (.int 2) S3=.ok (.lst S3.length) S4)(q:Yh (.lst S1.length) (.lst S3.length) S4=.ok (.bl Z5) S4):
  OT c (Rr p i k v3 v4 v5 (Z9 (.str x)) v7 v8) S=.nx (Rr p i k v3 v4 v5 (Z9 (.str x)) v7 v8) S4:=by
 have a:(2:Nat)<lim:=by decide
 simp[OT,e,d,b,m,q,a]
theorem hV:XS.all (λx=>Zf x&&Ms (oS "row p "++x++oS " c") [oS "row",oS "p",x,oS "c"]&&Ms (oS "side q "++x++oS " c") [oS "side",oS "q",x,oS "c"]&&decide (x.length<=3))=Z7:=by decide
theorem hU(H:UW cl)(d:Sy cl)(n:Nat){kd:KD}(J:x∈XS){P Q:Zc}(hi:S[i]?=Z9 (.dk kd))(v:tv kd (oS "p")=Z9 P.d)(r:tv kd (oS "q")=Z9 Q.d)(o:tv kd x=Z8):
  ∃S4,OT (cl (n+9)) (Rr p i k v3 v4 v5 (Z9 (.str x)) v7 v8) S=.nx (Rr p i k v3 v4 v5 (Z9 (.str x)) v7 v8) S4/\Ex S S4:=by
 have h:=qB9.mp hV x J;simp only[qB3,decide_eq_true_eq]at h;obtain⟨⟨⟨j,U⟩,E⟩,X⟩:=h;have w:Zf (oS "p")=Z7:=by decide
 have L:Zf (oS "q")=Z7:=by decide
 have l:Zf (oS "c")=Z7:=by decide
 have W:(oS "row p ").length=6:=by decide
 have V:(oS "side q ").length=7:=by decide
 have K:(oS " c").length=2:=by decide
 obtain⟨T1,u,c⟩:=On H.sa (n+8) (C9 d (n:=n+4) w j l hi v (Vy H.dn.wo U) (by kernel_rfl) o) Oq;obtain⟨T2,G,t⟩:=On H.sa (n+8) (C9 d (n:=n+4) L j l (c.at hi λz=>z) r (Vy H.dn.wo E) (by kernel_rfl) o) Oq;have I:=WJ (x:=oS "row p ") (y:=x) (by lia) S;have B:=WJ (x:=oS "row p "++x) (y:=oS " c") (by rw[Str.length_append];lia) S;have C:=WJ (x:=oS "side q ") (y:=x) (by lia) T1;have s:=WJ (x:=oS "side q "++x) (y:=oS " c") (by rw[Str.length_append];lia) T1;have M:Rw (cl (n+9)) [Z9 (.str (oS "row p ")),Z9 (.ob i),Z9 (.str x)] S=.ok (.int 5) T1:=by simp[Rw,I,B,u]
 have T:Rw (cl (n+9)) [Z9 (.str (oS "side q ")),Z9 (.ob i),Z9 (.str x)] T1=.ok (.int 5) T2:=by simp[Rw,C,s,G]
 have e:Yz [] .one (λ_=>ret Z7) (Rw (cl (n+9))) [Z8,Z9 (.ob i),Z9 (.str x)] [.str (oS "row p "),.str (oS "side q ")] S=.ok [.int 5,.int 5] T2:=by unfold Yz;rw[if_pos (XJ _),show Wu .one (D.str (oS "row p ")) [Z8,Z9 (.ob i),Z9 (.str x)]=Z9 [Z9 (.str (oS "row p ")),Z9 (.ob i),Z9 (.str x)]from rfl];dsimp only;unfold Yz;unfold Yz;rw[show Wu .one (D.str (oS "side q ")) [Z8,Z9 (.ob i),Z9 (.str x)]=Z9 [Z9 (.str (oS "side q ")),Z9 (.ob i),Z9 (.str x)]from rfl];simp[M,T,XJ]
 obtain⟨S2,b⟩:∃S2,T2++[O.lst [.int 5,.int 5]]=S2:=⟨_,rfl⟩
 obtain⟨S3,a⟩:∃S3,S2++[O.lst [.int 5]]=S3:=⟨_,rfl⟩
 have A:Ex T2 S2:=b▸Zk _ _;have f:Ex S2 S3:=a▸Zk _ _;have N:ZC S2 T2.length=Z9 [.int 5,.int 5]:=b▸Y9 _ _;have F:ZC S3 S2.length=Z9 [.int 5]:=a▸Y9 _ _;have m:V0 (.lst S2.length) (.int 2) S3=.ok (.lst S3.length) (S3++[O.lst [.int 5,.int 5]]):=by
  show(match S3[S2.length]? with
   |some (.lst g)=>if -1000<(2:Int)/\(2:Int)<1000000/\g.length*(2:Int).toNat<=lim then R.ok (D.lst S3.length) (S3++[O.lst (qC3 (2:Int).toNat g).flatten])else .bad
   | _=>.bad)=_
  rw[VZ F];dsimp only;rw[if_pos (by decide)];rfl
 have q:Yh (.lst T2.length) (.lst S3.length) (S3++[O.lst [.int 5,.int 5]])=.ok (.bl Z5) (S3++[O.lst [.int 5,.int 5]]):=by rw[oG ((f.trans (Zk S3 _)).lst N λz=>z) (Y9 _ _) rfl rfl,oJ];rfl
 exact⟨_,hX _ e b a m q,c.trans (t.trans (A.trans (f.trans (Zk _ _))))⟩
structure Rl(kd:KD)(two:Int)(many:Nat):Prop where
 ex:∃P Q R ZZ:Zc,(tv kd (oS "p")=Z9 P.d/\tv kd (oS "q")=Z9 Q.d/\tv kd (oS "r")=Z9 R.d/\tv kd (oS "s")=Z9 ZZ.d)/\(P.g/\Q.g/\R.g/\ZZ.g)/\(P.sw=1/\Q.sw=two/\R.sw=two/\ZZ.sw=1)/\(P.cs.length=many/\R.cs.length=many/\Q.pl=6/\ZZ.pl=7)
def U6:yH:=[oS "row p r c",oS "side r p c",oS "row q s c",oS "side s q c",oS "row s q c"]
def U0:yH:=[oS "row p p c",oS "side s s c",oS "row q q c",oS "side r r c"]
theorem Ic:Zf (oS "p")=Z7/\Zf (oS "q")=Z7/\Zf (oS "r")=Z7/\Zf (oS "s")=Z7/\Zf (oS "c")=Z7:=by refine⟨?_,?_,?_,?_,?_⟩<;>decide
theorem hO(H:UW cl)(b:Sy cl)(n:Nat){i:Nat}{kd:KD}{two:Int}{c:Nat}(F:Rl kd two c)(t:2<=two){S:ZU}(hi:S[i]?=Z9 (.dk kd)):∀z∈U6,∀S',Ex S S'->Xb (cl (n+9) "_law_said" [.ob i,.str z] S') (.int 6) S':=λz e S' x=>by
 obtain⟨P,Q,R,p,⟨o,h,m,f⟩,_,⟨s,q,u,r⟩,_⟩:=F.ex;obtain⟨k,j,l,g,d⟩:=Ic;have a:=x.at hi λz=>z;refine On H.sa (n+8) ?_ Oo;unfold U6 at e;simp only[qA8,qB8,or_false]at e;rcases e with rfl|rfl|rfl|rfl|rfl
 .exact Ox b (n:=n+4) k l d a o (Vy H.dn.wo (by decide)) (v:=oS "row") (by kernel_rfl) m (by lia)
 .exact Ox b (n:=n+4) l k d a m (Vy H.dn.wo (by decide)) (v:=oS "side") (by kernel_rfl) o (by lia)
 .exact Ox b (n:=n+4) j g d a h (Vy H.dn.wo (by decide)) (v:=oS "row") (by kernel_rfl) f (by lia)
 .exact Ox b (n:=n+4) g j d a f (Vy H.dn.wo (by decide)) (v:=oS "side") (by kernel_rfl) h (by lia)
 .exact Ox b (n:=n+4) g j d a f (Vy H.dn.wo (by decide)) (v:=oS "row") (by kernel_rfl) h (by lia)
theorem hL(H:UW cl)(c:Sy cl)(n:Nat){i:Nat}{kd:KD}{two:Int}{b:Nat}(F:Rl kd two b)(y:9<=b){S:ZU}(hi:S[i]?=Z9 (.dk kd)):∀z∈U0,∀S',Ex S S'->Xb (cl (n+9) "_law_said" [.ob i,.str z] S') (.int 0) S':=λz e S' x=>by
 obtain⟨P,Q,R,v,⟨o,m,l,j⟩,⟨f,s,p,r⟩,_,⟨w,A,t,u⟩⟩:=F.ex;obtain⟨g,q,h,k,d⟩:=Ic;have a:=x.at hi λz=>z;refine On H.sa (n+8) ?_ Im;unfold U0 at e;simp only[qA8,qB8,or_false]at e;rcases e with rfl|rfl|rfl|rfl
 .exact C8 c (n:=n) g g d a o (Vy H.dn.wo (by decide)) f f o rfl (.inr (by lia))
 .exact C7 c (n:=n) k k d a j (Vy H.dn.wo (by decide)) r r j rfl (.inl (by lia))
 .exact C8 c (n:=n) q q d a m (Vy H.dn.wo (by decide)) s s m rfl (.inl (by lia))
 .exact C7 c (n:=n) h h d a l (Vy H.dn.wo (by decide)) p p l rfl (.inr (by lia))
inductive Ib(p i k:Nat)(kd:KD)(S:ZU)(r:RS):Prop
 |mk (kd':KD) (S':ZU) (e:r=.rt (.bl Z7) S') (T:W7 p i k kd' S') (l:kd'.length<=kd.length+4) (q:Kp (P3 p i k) S S')
inductive UnR(p i k:Nat)(kd:KD)(S:ZU)(r:R D):Prop
 |mk (kd':KD) (S':ZU) (e:r=.ok (.bl Z7) S') (T:W7 p i k kd' S') (l:kd'.length<=kd.length+4) (q:Kp (P3 p i k) S S')
theorem hI(c:ZO)(d:c "_law_drawn_net" [.lst p,.int 1,.int 2,.int a] S=.ok P S1)(b:c "_law_drawn_net" [.lst p,.int two,.int 6,.int 1] S1=.ok Q S2):
  PC (ZX (.str (Str.ofString "p"))) (ZT (c "_law_drawn_net") (ZS [(ZY 0),(ZX (.int 1)),(ZX (.int 2)),(ZY 4)])) (ZX (.str (Str.ofString "q"))) (ZT (c "_law_drawn_net") (ZS [(ZY 0),(ZY 3),(ZX (.int 6)),(ZX (.int 1))])) (Rr p i k (Z9 (.int two)) (Z9 (.int a)) v5 v6 v7 v8) S=.ok (.dct S2.length) (S2++[.dk [(.inr (oS "p"),P),(.inr (oS "q"),Q)]]):=by
 have n:¬(Str.ofString "p"=Str.ofString "q"):=by decide
 unfold PC;simp[d,b,VN,n]
theorem CN(P Q R a:D):Zu ([((.inr (oS "p"):ZA),P),(.inr (oS "q"),Q)]:KD) (.inr (oS "r")) R=[(.inr (oS "p"),P),(.inr (oS "q"),Q),(.inr (oS "r"),R)]/\Zu ([((.inr (oS "p"):ZA),P),(.inr (oS "q"),Q),(.inr (oS "r"),R)]:KD) (.inr (oS "s")) a=[(.inr (oS "p"),P),(.inr (oS "q"),Q),(.inr (oS "r"),R),(.inr (oS "s"),a)]:=by refine⟨?_,?_⟩<;>kernel_rfl
theorem hG(P Q R ZZ:D):tv [(.inr (oS "p"),P),(.inr (oS "q"),Q),(.inr (oS "r"),R),(.inr (oS "s"),ZZ)] (oS "p")=Z9 P/\tv [(.inr (oS "p"),P),(.inr (oS "q"),Q),(.inr (oS "r"),R),(.inr (oS "s"),ZZ)] (oS "q")=Z9 Q/\tv [(.inr (oS "p"),P),(.inr (oS "q"),Q),(.inr (oS "r"),R),(.inr (oS "s"),ZZ)] (oS "r")=Z9 R/\tv [(.inr (oS "p"),P),(.inr (oS "q"),Q),(.inr (oS "r"),R),(.inr (oS "s"),ZZ)] (oS "s")=Z9 ZZ:=by refine⟨?_,?_,?_,?_⟩<;>kernel_rfl
theorem hF(kd:KD){P Q R a:Zc}(g:P.g/\Q.g/\R.g/\a.g)(s:P.sw=1/\Q.sw=two/\R.sw=two/\a.sw=1)(c:P.cs.length=many/\R.cs.length=many/\Q.pl=6/\a.pl=7):Rl (Zu (Zu (Zu (Zu kd (.inr (oS "p")) P.d) (.inr (oS "q")) Q.d) (.inr (oS "r")) R.d) (.inr (oS "s")) a.d) two many:=by
 have d:oS "q"≠oS "p":=by decide
 have h:oS "r"≠oS "p":=by decide
 have b:oS "s"≠oS "p":=by decide
 have f:oS "r"≠oS "q":=by decide
 have e:oS "s"≠oS "q":=by decide
 have rs:oS "s"≠oS "r":=by decide
 exact⟨P,Q,R,a,⟨by rw[Qq _ _ b,Qq _ _ h,Qq _ _ d,Om],by rw[Qq _ _ e,Qq _ _ f,Om],by rw[Qq _ _ rs,Om],Om _ _ _⟩,g,s,c⟩
theorem g6(c:ZO){kd:KD}(hk:S[k]?=Z9 (.dk kd)):XW (YI (Zs (Zv (ZS [(ZX (.str (Str.ofString "x"))),(ZX (.str (Str.ofString "yy"))),(ZX (.str (Str.ofString "zzz")))]))) (Zm (Zv (ZS [(ZX (.str (Str.ofString "x"))),(ZX (.str (Str.ofString "yy"))),(ZX (.str (Str.ofString "zzz")))])))) 1 [2] .one (MP c) (MO c) (Rr p i k v3 v4 v5 v6 v7 v8) S=.ok (.lst (S.length+1)) (S++[.lst (XS.map D.str)]++[.lst ((XS.filter λx=>!(tv kd x).isSome).map D.str)]):=by
 have d:=Zk S [O.lst (XS.map D.str)];have b:=d.at hk λz=>z;have l:ZC (S++[O.lst (XS.map D.str)]) S.length=Z9 (XS.map D.str):=Y9 _ _;have f:=Eh D.str (w:=[(S.length,XS.map D.str)]) (t:=.one) (tc:=MP c) (c:=MO c) (B0:=[Z8,Z9 (.dct k)]) (S:=S++[O.lst (XS.map D.str)]) (UF l) (λx=>!(tv kd x).isSome) D.str XS λx _=>⟨_,rfl,by
  have q:=V9 b x Z7;simp[MP,q],λ_=>by simp[MO]⟩
 have a:YI (Zs (Zv (ZS [(ZX (.str (Str.ofString "x"))),(ZX (.str (Str.ofString "yy"))),(ZX (.str (Str.ofString "zzz")))]))) (Zm (Zv (ZS [(ZX (.str (Str.ofString "x"))),(ZX (.str (Str.ofString "yy"))),(ZX (.str (Str.ofString "zzz")))]))) (Rr p i k v3 v4 v5 v6 v7 v8) S=.ok (XS.map D.str,[(S.length,XS.map D.str)]) (S++[O.lst (XS.map D.str)]):=by have g:ZC (S++[O.lst [.str (Str.ofString "x"),.str (Str.ofString "yy"),.str (Str.ofString "zzz")]]) S.length=Z9 [.str (Str.ofString "x"),.str (Str.ofString "yy"),.str (Str.ofString "zzz")]:=Y9 _ _;simp[XS]
 have e:(XS.map D.str).length<lim:=by decide
 rw[Em,a,Xy];dsimp only;rw[if_pos e,show W5 1 [2] (Rr p i k v3 v4 v5 v6 v7 v8)=[Z8,Z9 (.dct k)]from rfl,f,Xy];simp
theorem g5(H:UW cl)(J:Sy cl)(c:Tt cl)(hu:DX cl)(n:Nat){kd:KD}(T:W7 p i k kd S)(hl:kd.length<=40):UnR p i k kd S (cl (n+10) "_law_unlike_right" [.lst p,.ob i,.dct k] S):=by
 suffices s:Ib p i k kd S (MN (cl (n+9)) (Rr p i k Z8 Z8 Z8 Z8 Z8 Z8) S) by obtain⟨L,S',e,T',l,q⟩:=s;refine⟨L,S',?_,T',l,q⟩;rw[show n+10=(n+9)+1 from rfl,hu];exact YT rfl e
 have pl:=T.st.lt;have il:=(qA3.mp T.di).1;have kl:=(qA3.mp T.dk).1;unfold MN;obtain⟨r1,S1,e1,a1,b1,k1,ln1,st1⟩:=Xx c (n+7) T.st (m:=3) (by lia) (by lia);obtain⟨v,S2,e2,a2,b2,k2,ln2,st2⟩:=Xx c (n+7) st1 (m:=8) (by lia) (by lia);obtain⟨v,rfl⟩:∃m:Nat,v=m:=⟨v.toNat,by lia⟩
 obtain⟨two,h2⟩:∃two,2+r1=two:=⟨_,rfl⟩
 obtain⟨many,hm⟩:∃many,9+v=many:=⟨_,rfl⟩
 refine ie (x:=.int two) (y:=.int many) (S1:=S1) (S2:=S2) (by rw[<- h2];simp[e1]) (by rw[<- hm];simp[e2]) ?_;obtain⟨P,S3,e3,gP,sP,pP,cP,k3,I⟩:=(Ow c (n+6) st2 (sw:=1) (pl:=2) (m:=many) (by lia) (by lia) (by lia)).g (by lia) (by lia) (by lia);obtain⟨Q,S4,e4,gQ,sQ,pQ,cQ,k4,r⟩:=(Ow c (n+6) I (sw:=two) (pl:=6) (m:=1) (by lia) (by lia) (by lia)).g (by lia) (by lia) (by lia);have d5:=hI (cl (n+9)) (i:=i) (k:=k) (v5:=Z8) (v6:=Z8) (v7:=Z8) (v8:=Z8) e3 e4;refine WS (G:=Ib p i k kd S) d5 ?_;obtain⟨S5,s⟩:∃S5,S4++[O.dk [(.inr (oS "p"),P.d),(.inr (oS "q"),Q.d)]]=S5:=⟨_,rfl⟩
 rw[s];have x5:Ex S4 S5:=s▸Zk _ _;have m5:S5[S4.length]?=Z9 (.dk [(.inr (oS "p"),P.d),(.inr (oS "q"),Q.d)]):=by rw[<- s,qA5 (qA4 _),qD5];rfl
 have g:Kp (·=p) S S4:=k1.trans (k2.trans (k3.trans k4));have p4:=r.lt;generalize hmm:S4.length=m at *;have u:m≠i:=by have:=g.le;lia
 have w:m≠k:=by have:=g.le;lia
 have t:m≠p:=by lia
 obtain⟨R,f,e6,gR,sR,pR,cR,k6,st6⟩:=(Ow c (n+6) (r.ex x5) (sw:=two) (pl:=3) (m:=many) (by lia) (by lia) (by lia)).g (by lia) (by lia) (by lia);have m6:=k6.at m5 t;have s6:=Qv m6 (oS "r") (by show 2<lim;decide) R.d;rw[(CN P.d Q.d R.d R.d).1]at s6;refine Ig (d:=R.d) (S1:=f) (B':=Rr p i k (Z9 (.int two)) (Z9 (.int many)) (Z9 (.dct m)) Z8 Z8 Z8) (S2:=f.set m (.dk [(.inr (oS "p"),P.d),(.inr (oS "q"),Q.d),(.inr (oS "r"),R.d)])) (by simp[e6]) (by simp[s6]) ?_;have m7:(f.set m (.dk [(.inr (oS "p"),P.d),(.inr (oS "q"),Q.d),(.inr (oS "r"),R.d)]))[m]?=Z9 (.dk [(.inr (oS "p"),P.d),(.inr (oS "q"),Q.d),(.inr (oS "r"),R.d)]):=qC7 (qA3.mp m6).1;have K7:Kp (·=m) f (f.set m (.dk [(.inr (oS "p"),P.d),(.inr (oS "q"),Q.d),(.inr (oS "r"),R.d)])):=Vq _ _;generalize f.set m (.dk [(.inr (oS "p"),P.d),(.inr (oS "q"),Q.d),(.inr (oS "r"),R.d)])=S7 at m7 K7 ⊢;have W:=st6.kp K7 t.symm;obtain⟨a,S8,N,gZ,sZ,pZ,cZ,k8,X⟩:=(Ow c (n+6) W (sw:=1) (pl:=7) (m:=1) (by lia) (by lia) (by lia)).g (by lia) (by lia) (by lia);have N:cl (n+9) "_law_drawn_net" [.lst p,.int 1,.int 7,.int 1] S7=.ok a.d S8:=N;have m8:=k8.at m7 t;have s8:=Qv m8 (oS "s") (by show 3<lim;decide) a.d;rw[(CN P.d Q.d R.d a.d).2]at s8;refine Ig (d:=a.d) (S1:=S8) (B':=Rr p i k (Z9 (.int two)) (Z9 (.int many)) (Z9 (.dct m)) Z8 Z8 Z8) (S2:=S8.set m (.dk [(.inr (oS "p"),P.d),(.inr (oS "q"),Q.d),(.inr (oS "r"),R.d),(.inr (oS "s"),a.d)])) (by simp[N]) (by simp[s8]) ?_;have U:(S8.set m (.dk [(.inr (oS "p"),P.d),(.inr (oS "q"),Q.d),(.inr (oS "r"),R.d),(.inr (oS "s"),a.d)]))[m]?=Z9 (.dk [(.inr (oS "p"),P.d),(.inr (oS "q"),Q.d),(.inr (oS "r"),R.d),(.inr (oS "s"),a.d)]):=qC7 (qA3.mp m8).1;have K:Kp (·=m) S8 (S8.set m (.dk [(.inr (oS "p"),P.d),(.inr (oS "q"),Q.d),(.inr (oS "r"),R.d),(.inr (oS "s"),a.d)])):=Vq _ _;generalize S8.set m (.dk [(.inr (oS "p"),P.d),(.inr (oS "q"),Q.d),(.inr (oS "r"),R.d),(.inr (oS "s"),a.d)])=S9 at U K ⊢;have KA:Kp (·=m) S9 (S9.set m (.fk [(.inr (oS "p"),P.d),(.inr (oS "q"),Q.d),(.inr (oS "r"),R.d),(.inr (oS "s"),a.d)])):=Vq _ _;have mA:(S9.set m (.fk [(.inr (oS "p"),P.d),(.inr (oS "q"),Q.d),(.inr (oS "r"),R.d),(.inr (oS "s"),a.d)]))[m]?=Z9 (.fk [(.inr (oS "p"),P.d),(.inr (oS "q"),Q.d),(.inr (oS "r"),R.d),(.inr (oS "s"),a.d)]):=qC7 (qA3.mp U).1;have it:YI (Zs (ZY 5)) (Zm (ZY 5)) (Rr p i k (Z9 (.int two)) (Z9 (.int many)) (Z9 (.dct m)) Z8 Z8 Z8) S9=.ok ([.str (oS "p"),.str (oS "q"),.str (oS "r"),.str (oS "s")],[]) (S9.set m (.fk [(.inr (oS "p"),P.d),(.inr (oS "q"),Q.d),(.inr (oS "r"),R.d),(.inr (oS "s"),a.d)])):=by simp[U,kD]
 generalize S9.set m (.fk [(.inr (oS "p"),P.d),(.inr (oS "q"),Q.d),(.inr (oS "r"),R.d),(.inr (oS "s"),a.d)])=SA at KA mA it;have KK:Kp (·=p) S SA:=by
  have c1:Kp (λj=>j=p∨j=m) S4 SA:=(x5.kp.trans ((k6.mono λj _ e=>.inl e).trans ((K7.mono λj _ e=>.inr e).trans ((k8.mono λj _ e=>.inl e).trans ((K.mono λj _ e=>.inr e).trans (KA.mono λj _ e=>.inr e))))))
  refine⟨qC6 g.le c1.le,λj hj hn=>?_⟩;have hjm:j≠m:=by have:=g.le;lia
  exact(c1.eq j (qA9 hj g.le) (λz=>z.elim hn hjm)).trans (g.eq j hj hn)
 have TA:W7 p i k kd SA:=T.pen KK (((X.kp K t.symm).kp KA t.symm));have B:=hG P.d Q.d R.d a.d;obtain⟨np,nq,nr,ns,nc⟩:=Ic;obtain⟨SB,l1,T1,q1,mB⟩:=Mn H n np gP (v3:=Z9 (.int two)) (v4:=Z9 (.int many)) (v7:=Z8) (v8:=Z8) TA (by lia) mA B.1 u w;have len1:=Qu kd (.inr (oS "p")) P.d;obtain⟨SC,l2,T2,q2,mC⟩:=Mn H n nq gQ (v3:=Z9 (.int two)) (v4:=Z9 (.int many)) (v7:=Z8) (v8:=Z8) T1 (by lia) mB B.2.1 u w;have len2:=Qu (Zu kd (.inr (oS "p")) P.d) (.inr (oS "q")) Q.d;obtain⟨SD,l3,T3,q3,mD⟩:=Mn H n nr gR (v3:=Z9 (.int two)) (v4:=Z9 (.int many)) (v7:=Z8) (v8:=Z8) T2 (by lia) mC B.2.2.1 u w;have len3:=Qu (Zu (Zu kd (.inr (oS "p")) P.d) (.inr (oS "q")) Q.d) (.inr (oS "r")) R.d;obtain⟨SE,l4,T4,q4,mE⟩:=Mn H n ns gZ (v3:=Z9 (.int two)) (v4:=Z9 (.int many)) (v7:=Z8) (v8:=Z8) T3 (by lia) mD B.2.2.2 u w;have len4:=Qu (Zu (Zu (Zu kd (.inr (oS "p")) P.d) (.inr (oS "q")) Q.d) (.inr (oS "r")) R.d) (.inr (oS "s")) a.d;have F:=hF kd ⟨gP,gQ,gR,gZ⟩ ⟨sP,sQ,sR,sZ⟩ ⟨cP,cR,pQ,pZ⟩;have lp:Yr [] (gN 6) (OS (cl (n+9))) [.str (oS "p"),.str (oS "q"),.str (oS "r"),.str (oS "s")] (Rr p i k (Z9 (.int two)) (Z9 (.int many)) (Z9 (.dct m)) Z8 Z8 Z8) SA=.nx (Rr p i k (Z9 (.int two)) (Z9 (.int many)) (Z9 (.dct m)) (Z9 (.str (oS "s"))) Z8 Z8) SE:=by rw[Sz (XJ _) rfl l1,Sz (XJ _) rfl l2,Sz (XJ _) rfl l3,Sz (XJ _) rfl l4];unfold Yr;rw[if_pos (XJ _)]
 refine Rm it lp ?_;generalize Zu (Zu (Zu (Zu kd (.inr (oS "p")) P.d) (.inr (oS "q")) Q.d) (.inr (oS "r")) R.d) (.inr (oS "s")) a.d=kd4 at *;have KE:Kp (P3 p i k) S SE:=(Kp.p3 KK).trans (q1.trans (q2.trans (q3.trans q4)));obtain⟨v7,SF,f6,x6⟩:=CP (v3:=Z9 (.int two)) (v4:=Z9 (.int many)) (v5:=Z9 (.dct m)) (v6:=Z9 (.str (oS "s"))) (v7:=Z8) (v8:=Z8) (p:=p) (k:=k) (S0:=SE) (S:=SE) (λe=>hZ (cl (n+9)) e) (Kp.refl _ _) (hO H J n F (by lia) T4.di);refine Rm (S1:=SE++[.lst (U6.map D.str)]) (by simp[U6]) f6 ?_;have TF:=T4.ex x6;obtain⟨v7,b,f0,x0⟩:=CP (v3:=Z9 (.int two)) (v4:=Z9 (.int many)) (v5:=Z9 (.dct m)) (v6:=Z9 (.str (oS "s"))) (v7:=v7) (v8:=Z8) (p:=p) (k:=k) (S0:=SF) (S:=SF) (λe=>hY (cl (n+9)) e) (Kp.refl _ _) (hL H J n F (by lia) TF.di);refine Rm (S1:=SF++[.lst (U0.map D.str)]) (by simp[U0]) f0 ?_;have TG:=TF.ex x0;have Y:=g6 (cl (n+9)) (p:=p) (i:=i) (v3:=Z9 (.int two)) (v4:=Z9 (.int many)) (v5:=Z9 (.dct m)) (v6:=Z9 (.str (oS "s"))) (v7:=v7) (v8:=Z8) TG.dk;refine WS (G:=Ib p i k kd S) Y ?_;obtain⟨SH,hH⟩:∃SH,b++[O.lst (XS.map D.str)]=SH:=⟨_,rfl⟩
 have xH:Ex b SH:=hH▸Zk _ _;obtain⟨M,hM⟩:∃M,XS.filter (λx=>!(tv kd4 x).isSome)=M:=⟨_,rfl⟩
 rw[hH,hM,show b.length+1=SH.length by rw[<- hH];simp];have lI:=Y9 SH (M.map D.str);have C:=Zk SH [O.lst (M.map D.str)];generalize SH++[O.lst (M.map D.str)]=SI at lI C ⊢;have TI:=TG.ex (xH.trans C);have V:=QK lI Z8 (Z9 1);rw[oE _ (by decide),show(1:Int).toNat=1 from rfl]at V;obtain⟨SJ,hJ⟩:∃SJ,SI++[O.lst ((M.map D.str).take 1)]=SJ:=⟨_,rfl⟩
 rw[hJ]at V;have xJ:Ex SI SJ:=hJ▸Zk _ _;have A:ZC SJ SI.length=Z9 ((M.map D.str).take 1):=hJ▸Y9 _ _;have TJ:=TI.ex xJ;have Z:YI (Zs (XY YH (ZY 8) XF (X3 (ZX (.int 1))))) (Zm (XY YH (ZY 8) XF (X3 (ZX (.int 1))))) (Rr p i k (Z9 (.int two)) (Z9 (.int many)) (Z9 (.dct m)) (Z9 (.str (oS "s"))) v7 (Z9 (.lst SH.length))) SI=.ok ((M.map D.str).take 1,[(SI.length,(M.map D.str).take 1)]) SJ:=by simp[V,A]
 obtain⟨v6,SK,fK,o⟩:∃v6 SK,Yr [(SI.length,(M.map D.str).take 1)] (gN 6) (OT (cl (n+9))) ((M.map D.str).take 1) (Rr p i k (Z9 (.int two)) (Z9 (.int many)) (Z9 (.dct m)) (Z9 (.str (oS "s"))) v7 (Z9 (.lst SH.length))) SJ=.nx (Rr p i k (Z9 (.int two)) (Z9 (.int many)) (Z9 (.dct m)) v6 v7 (Z9 (.lst SH.length))) SK/\Ex SJ SK:=by
  cases M with
  |nil =>
   refine⟨Z9 (.str (oS "s")),SJ,?_,Kp.refl _ _⟩;show Yr _ _ _ [] _ _=_;unfold Yr;rw[if_pos (UF A)]
  |cons x M =>
   have E:x∈XS.filter λx=>!(tv kd4 x).isSome:=by rw[hM];exact qD1
   rw[qI7]at E;have tx:tv kd4 x=Z8:=by
    have:=E.2;cases h:tv kd4 x with
    |none=>rfl
    |some d=>rw[h]at this;cases this
   obtain⟨P',Q',_,_,⟨tp,tq,_,_⟩,_⟩:=F.ex;obtain⟨SK,eK,o⟩:=hU H J n E.1 (v3:=Z9 (.int two)) (v4:=Z9 (.int many)) (v5:=Z9 (.dct m)) (v7:=v7) (v8:=Z9 (.lst SH.length)) (p:=p) (k:=k) TJ.di tp tq tx;refine⟨Z9 (.str x),SK,?_,o⟩;show Yr _ _ _ [.str x] _ _=_;rw[Sz (UF A) rfl eK];unfold Yr;rw[if_pos (UF (o.lst A λz=>z))]
 refine Rm Z fK ?_;have TK:=TJ.ex o;obtain⟨SL,eL,xL⟩:=Ih H (n+2) TK.di TK.dk TK.ne TK.ok (by lia);refine⟨kd4,SL,by simp[eL],TK.ex xL,by lia,KE.trans ((x6.trans (x0.trans ((xH.trans C).trans (xJ.trans (o.trans xL))))).kp)⟩
def Rk:List (yA):=[[2,0,1],[0,2,1],[0,1,2]]
def BL:Nat->List (yA)
 |0=>[[]]
 |j+1=>(BL j).flatMap λl=>[l++[0],l++[1]]
def EN(m:Nat):List (Int×Int):=if m=1 then[(0,1)]else if m=2 then[(0,2),(1,2)]else[(0,2),(2,3),(1,3)]
def Wq:List (Int×Int)->yA->yA->yN
 |e::E,k::a,o::bs=>⟨e.1,e.2,k,o⟩::Wq E a bs
 |_,_,_=>[]
def fN(m:Nat)(a bs:yA)(r:Bool):Zc:=⟨3,if r then(m:Int)+1 else 2,Wq (if r then EN m else qC3 m (0,1)) a bs⟩
theorem CM:∀(E:List (Int×Int)) (d bs:yA) (e:Int×Int) (k o:Int),E.length=bs.length->d[E.length]?=Z9 k->Wq (E++[e]) d (bs++[o])=Wq E d bs++[⟨e.1,e.2,k,o⟩]
 |[],k'::d,[],e,k,o,_,h=>by
  have:k'=k:=by simpa using h
  subst this;cases d<;>rfl
 |[],[],_,e,k,o,_,h=>by simp at h
 |[],_,_::_,_,_,_,h,_=>by simp at h
 |_::_,_,[],_,_,_,h,_=>by simp at h
 |_::_,[],_,_,_,_,_,h=>by simp at h
 |a::E,c::d,b::bs,e,k,o,h1,h2=>by show _::Wq (E++[e]) d (bs++[o])=_;rw[CM E d bs e k o (by simpa using h1) (by simpa using h2)];rfl
theorem Ia:∀(E:List (Int×Int)) (d bs:yA) (j:Nat) {e:Int×Int}{k o:Int},E[j]?=Z9 e->d[j]?=Z9 k->bs[j]?=Z9 o->(Wq E d bs)[j]?=Z9 ⟨e.1,e.2,k,o⟩
 |a::E,c::d,b::bs,0,e,k,o,h1,h2,h3=>by simp at h1 h2 h3;subst h1 h2 h3;rfl
 |a::E,c::d,b::bs,j+1,e,k,o,h1,h2,h3=>by show(Wq E d bs)[j]?=_;exact Ia E d bs j (by simpa using h1) (by simpa using h2) (by simpa using h3)
 |[],_,_,_,_,_,_,h,_,_=>by simp at h
 |_::_,[],_,_,_,_,_,_,h,_=>by simp at h
 |_::_,_::_,[],_,_,_,_,_,_,h=>by simp at h
theorem HZ:∀(E:List (Int×Int)) (d bs:yA),E.length<=d.length->E.length=bs.length->(Wq E d bs).length=E.length
 |[],_,_,_,_=>by unfold Wq;rfl
 |_::_,[],_,h,_=>by simp at h
 |_::_,_::_,[],_,h=>by simp at h
 |a::E,c::d,b::bs,h1,h2=>by show(_::Wq E d bs).length=_;rw[qB6,HZ E d bs (by simpa using h1) (by simpa using h2),qB6]
theorem HY:∀{j:Nat}{bs:yA},bs∈BL j->bs.length=j
 |0,bs,h=>by simp[BL]at h;subst h;rfl
 |j+1,bs,h=>by unfold BL at h;obtain⟨l,b,a⟩:=qO0.mp h;have:=HY b;simp only[qA8,qB8,or_false]at a;rcases a with rfl|rfl<;>simp[this]
theorem g4(h:bs∈BL j)(a:o=0∨o=1):bs++[o]∈BL (j+1):=by show _∈(BL j).flatMap _;refine qO0.mpr ⟨bs,h,?_⟩;rcases a with rfl|rfl<;>simp
theorem HX{w:XX}{t:XA}{c:C}{B0:ZR}(P:Nat->yM->ZU->Prop)(b:∀j l S,P j l S->Ye w S):∀(items:yM) (k:Nat) (acc:yM) {S:ZU},P k acc S ->
  (∀j d,items[j]?=Z9 d->∀acc S,P (k+j) acc S->∃e,Wu t d B0=Z9 e/\∃y S1,c e S=.ok y S1/\P (k+j+1) (acc++[y]) S1)->∃ds a,Yz w t (λ_=>ret Z7) c B0 items S=.ok ds a/\P (k+items.length) (acc++ds) a
 |[],k,acc,S,h0,hs=>⟨[],S,by unfold Yz;rw[if_pos (b _ _ S h0)],by rw[qD6];exact h0⟩
 |d::ds,k,acc,S,h0,hs=>by
  obtain⟨e,g,y,S1,o,n⟩:=hs 0 d rfl acc S h0;obtain⟨m,a,p,f⟩:=HX P b ds (k+1) (acc++[y]) n λj i q acc S h=>by have:=hs (j+1) i (by simpa using q) acc S (by rw[show k+(j+1)=k+1+j by lia];exact h);rw[show k+1+j+1=k+(j+1)+1 by lia];exact this
  refine⟨y::m,a,?_,?_⟩
  .unfold Yz;rw[if_pos (b _ _ S h0),g];dsimp only;rw[Xs,Eo,Xy,if_pos rfl,Xs,o,Xy,Xs,p,Xy];rfl
  .rw[qD8]at f;rw[qB6,show k+(ds.length+1)=k+1+ds.length by lia];exact f
theorem g0(b:m=1∨m=2∨m=3){t:Nat}(a:t<m):∃x y e,Yv ((Tx ((m:Int)+1)).map D.int) (Z9 (t:Int)) (Z9 ((t:Int)+2))=[.int x,.int y]/\(EN m)[t]?=Z9 e/\Ue [x,y]=[e.1,e.2]:=by
 rcases b with rfl|rfl|rfl
 .match t,a with
  |0,_=>exact⟨0,1,(0,1),rfl,rfl,by decide⟩
 .match t,a with
  |0,_=>exact⟨0,2,(0,2),rfl,rfl,by decide⟩
  |1,_=>exact⟨2,1,(1,2),rfl,rfl,by decide⟩
 .match t,a with
  |0,_=>exact⟨0,2,(0,2),rfl,rfl,by decide⟩
  |1,_=>exact⟨2,3,(2,3),rfl,rfl,by decide⟩
  |2,_=>exact⟨3,1,(1,3),rfl,rfl,by decide⟩
theorem HW(a:m=1∨m=2∨m=3):(EN m).length=m:=by rcases a with rfl|rfl|rfl<;>rfl
theorem CL(h:a∈Rk):a.length=3:=by unfold Rk at h;simp only[qA8,qB8,or_false]at h;rcases h with rfl|rfl|rfl<;>rfl
abbrev VW(p i q:Nat)(v3 v4 v5 v6 v7 v8:Option D):ZR:=[Z9 (.lst p),Z9 (.ob i),Z9 (.lst q),v3,v4,v5,v6,v7,v8]
theorem gz(c:ZO){p i q j t:Nat}(a:ZI (.lst q) (.int t) S=.ok (.int k) S)(b:YX "list" (.lst j) S=Z7)(e:c "_law_draw" [.lst p,.int 2] S=.ok (.int o) S1)(m:XB Vt (.lst j) [.tup [.int 0,.int 1,.int k,.int o]] S1=.ok .non S2):
  OQ c (VW p i q v3 (Z9 (.lst j)) v5 (Z9 (.int t)) v7 v8) S=.nx (VW p i q v3 (Z9 (.lst j)) v5 (Z9 (.int t)) v7 v8) S2:=by simp[OQ,a,b,e,m]
theorem gy(F:Tt cl)(n:Nat)(J:f∈Rk)(P:m<=3)(st:XT S p)(N:ZC S q=Z9 (f.map D.int))(G:ZC S j=Z9 [])(K:q≠p)(y:j≠p)(H:j≠q):
  ∃v6 bs S',Yr [] (gN 6) (OQ (cl (n+2))) (Y7 0 m) (VW p i q v3 (Z9 (.lst j)) v5 Z8 v7 v8) S=.nx (VW p i q v3 (Z9 (.lst j)) v5 v6 v7 v8) S'/\bs∈BL m/\ZC S' j=Z9 ((Wq (qC3 m (0,1)) f bs).map Ct.d)/\XT S' p/\Kp (λx=>x=p∨x=j) S S':=by
 have R:=CL J;obtain⟨W,S',e,v6,bs,rfl,r,l,h,k⟩:=RB (w:=[]) (g:=gN 6) (b:=OQ (cl (n+2))) (items:=Y7 0 m) (λx B S'=>∃v6 bs,B=VW p i q v3 (Z9 (.lst j)) v5 v6 v7 v8/\bs∈BL x/\ZC S' j=Z9 ((Wq (qC3 x (0,1)) f bs).map Ct.d)/\XT S' p/\Kp (λx=>x=p∨x=j) S S') (B:=VW p i q v3 (Z9 (.lst j)) v5 Z8 v7 v8) (S:=S)
  (λ_ _ _ _=>XJ _) ⟨Z8,[],rfl,by simp[BL],by rw[G];rfl,st,Kp.refl _ _⟩ (λx d B S' L O=>by
   obtain⟨v6,bs,rfl,r,l,h,k⟩:=O;obtain⟨U,rfl⟩:=Qz.mp L;rw[qN2];obtain⟨o,T,e,Q,V,kT,_,t⟩:=Xx F n h (m:=2) (by lia) (by lia);have s:x<f.length:=by lia
   have u:=k.lst N (λz=>z.elim K (λz=>H z.symm));have A:=Xc u x;rw[WO (v:=.int (f[x])) (by rw[qC1,qA7 s];rfl)]at A;have C:=kT.lst l y;have E:=HY r;have M:(Wq (qC3 x (0,1)) f bs).length=x:=by rw[HZ _ _ _ (by simp;lia) (by simp[E]),qE7]
   have m:=IZ (x:=.tup [.int 0,.int 1,.int (f[x]),.int o]) C (by rw[qA6,M,X6];lia);refine⟨_,S',rfl,_,_,.inl (gz _ A (QI l) e m),Z9 (.int x),bs++[o],rfl,g4 r (by lia),?_,?_,?_⟩
   .rw[List.replicate_succ',CM _ _ _ _ (f[x]) o (by simp[E]) (by rw[qE7,qA7 s]),qE3];exact SU C
   .obtain⟨a,b,c,I⟩:=t;exact⟨a,b,c,QJ (by rw[qC9 y];exact VZ I)⟩
   .exact k.trans ((kT.mono λ_ _ z=>.inl z).trans ((Vq _ _).mono λ_ _ z=>.inr z)))
 rw[Vp]at r l;exact⟨v6,bs,S',e,r,l,h,k⟩
theorem gx(h:ZC S n=Z9 [.int x,.int y]):Xe [.lst n] S=.ok (.lst S.length) (S++[.lst ((Ue [x,y]).map D.int)]):=Ed (ns:=[x,y]) h (by show 2<64;decide)
theorem gw(c:ZO){m w:Nat}(A:m=1∨m=2∨m=3)(B:ZC S w=Z9 ((Tx ((m:Int)+1)).map D.int)):∃ds f,Yz [] .one (λ_=>ret Z7) (ML c) [Z8,Z9 (.lst w)] (Y7 0 m) S=.ok ds f/\Ex S f/\ds.length=m/\∀t,t<m->∃q e,ds[t]?=Z9 (.lst q)/\ZC f q=Z9 [.int e.1,.int e.2]/\(EN m)[t]?=Z9 e:=by
 obtain⟨ds,f,e,g,H,i⟩:=HX (w:=[]) (t:=.one) (c:=ML c) (B0:=[Z8,Z9 (.lst w)]) (λj acc f=>acc.length=j/\Ex S f/\∀t,t<j->∃q e,acc[t]?=Z9 (.lst q)/\ZC f q=Z9 [.int e.1,.int e.2]/\(EN m)[t]?=Z9 e) (λ_ _ _ _=>XJ _) (Y7 0 m) 0 [] (S:=S) ⟨rfl,Kp.refl _ _,λt h=>absurd h (by lia)⟩
  (λj d G acc k F=>by
   obtain⟨g,x,i⟩:=F;obtain⟨J,rfl⟩:=Qz.mp G;rw[qJ1,qN2]at *;obtain⟨a,b,e,K,L,v⟩:=g0 A J;have l:=x.lst B λz=>z;have n:=QK l (Z9 (j:Int)) (Z9 ((j:Int)+2));rw[K]at n;obtain⟨S2,o⟩:∃S2,k++[O.lst [.int a,.int b]]=S2:=⟨_,rfl⟩
   rw[o]at n;have r:=gx (o▸Y9 k [.int a,.int b]);rw[v]at r;have p:Ex k S2:=o▸Zk _ _;have s:=Zk S2 [O.lst ([e.1,e.2].map D.int)];refine⟨_,rfl,.lst S2.length,S2++[.lst ([e.1,e.2].map D.int)],by simp[ML,n,r],by rw[qC4,g];rfl,x.trans (p.trans s),λt M=>?_⟩;by_cases y:t<j
   .obtain⟨q,u,C,I,E⟩:=i t y;exact⟨q,u,by rw[qB7 (by lia)];exact C,(p.trans s).lst I λz=>z,E⟩
   .have:t=j:=by lia
    subst this;exact⟨S2.length,e,by rw[qA5 (by lia),g,qD5];rfl,Y9 _ _,L⟩)
 rw[qJ1,Vp]at g i;exact⟨ds,f,e,H,g,i⟩
theorem gv(c:ZO)(h:m=1∨m=2∨m=3)(G:b∈Rk)(H:bs∈BL m){ds:yM}(E:ZC S A=Z9 ds)(M:∀t,t<m->∃q e,ds[t]?=Z9 (.lst q)/\ZC S q=Z9 [.int e.1,.int e.2]/\(EN m)[t]?=Z9 e)(C:ZC S i=Z9 ((Wq (qC3 m (0,1)) b bs).map Ct.d)):
  Yz [] .one (λ_=>ret Z7) (MM c) [Z8,Z9 (.lst A),Z9 (.lst i)] (Y7 0 m) S=.ok ((Wq (EN m) b bs).map Ct.d) S:=by
 have P:=CL G;have L:=HY H;have O:m<=3:=by lia
 obtain⟨rs,r,e,J,N⟩:=HX (w:=[]) (t:=.one) (c:=MM c) (B0:=[Z8,Z9 (.lst A),Z9 (.lst i)]) (λj acc r=>r=S/\acc=((Wq (EN m) b bs).take j).map Ct.d) (λ_ _ _ _=>XJ _) (Y7 0 m) 0 [] (S:=S) ⟨rfl,rfl⟩
  (λj d k acc S1 K=>by
   obtain⟨rfl,rfl⟩:=K;obtain⟨z,rfl⟩:=Qz.mp k;rw[qJ1,qN2];obtain⟨q,e,F,y,I⟩:=M j z;have s:=Xc E j;rw[WO F]at s;have p:=Xc y ((0:Nat):Int);rw[WO (v:=.int e.1) rfl]at p;have x:=Xc y ((1:Nat):Int);rw[WO (v:=.int e.2) rfl]at x;have g:b[j]?=Z9 (b[j]'(by lia)):=qA7 _;have f:bs[j]?=Z9 (bs[j]'(by lia)):=qA7 _;have D:=Ia (qC3 m (0,1)) b bs j (e:=(0,1)) (by rw[qF5,if_pos z]) g f;have B:=Ia (EN m) b bs j I g f;have n:=Xc C j;rw[WO (by rw[qC1,D];rfl)]at n;have u:∀S,YH (Ct.d ⟨0,1,b[j]'(by lia),bs[j]'(by lia)⟩) (Z9 2) Z8 S=.ok (.tup [.int (b[j]'(by lia)),.int (bs[j]'(by lia))]) S:=λ_=>rfl;have a:∀S,ZQ (.tup [.int e.1,.int e.2]) (.tup [.int (b[j]'(by lia)),.int (bs[j]'(by lia))]) S=.ok (.tup [.int e.1,.int e.2,.int (b[j]'(by lia)),.int (bs[j]'(by lia))]) S:=λS=>by rw[oQ,if_pos (by show 2+2<=lim;decide)];rfl
   have l:ZI (.lst q) (.int 0) S1=.ok (.int e.1) S1:=p;have o:ZI (.lst q) (.int 1) S1=.ok (.int e.2) S1:=x;generalize (⟨0,1,b[j]'(by lia),bs[j]'(by lia)⟩:Ct).d=dd at n u;refine⟨_,rfl,_,S1,by simp[MM,s,l,o,n,u,a];rfl,rfl,?_⟩;rw[qN1,B,qE3];rfl)
 subst J;rw[e,qJ1,Vp,qF1]at *;rw[N,qD9 (by rw[HZ _ _ _ (by rw[HW h];lia) (by rw[HW h,L]),HW h];exact qA4 _)]
def HV(cl:Nat->ZO)(n:Nat):Prop:=∀m a bs r,(m=1∨m=2∨m=3)->a∈Rk->bs∈BL m->(fN m a bs r).g/\∀S,∃b,cl (n+5) "function_of" [(fN m a bs r).d] S=.ok b S/\cl (n+5) "fewest" [b] S=.ok (.int (m:Nat)) S
section
variable {Gp:RS->Prop}{ZM:CS}{B B':ZR}{S S1 S2:ZU}
theorem gu(h:e B S=.ok d S1)(k:Gp (ZM B S1)):Gp (ZV (Wf e) ZM B S):=by
 have r:ZV (Wf e) ZM B S=ZM B S1:=by simp[h]
 rw[r];exact k
theorem gr(h:t B S=.ok Z7 S1)(q:a B S1=.nx B' S2)(k:Gp (ZM B' S2)):Gp (ZV (Zj t a ZL) ZM B S):=by
 have r:ZV (Zj t a ZL) ZM B S=ZM B' S2:=by simp[h,q]
 rw[r];exact k
end
theorem CK(h:B[k]?=Z9 (Z9 (.int m)))(d:0<=m)(c:m<=1000)(S:ZU):WV (ZS [(ZY k)]) B S=.ok (Y7 0 m.toNat,[]) S:=by
 have b:-4611686018427387904<=m:=by lia
 have a:m<4611686018427387904:=by lia
 simp[h,b,a]
theorem Mm{ZM:CS}(h:e B S=.ok d S1):ZV (ZJ e (gN i)) ZM B S=ZM (B.set i (Z9 d)) S1:=by simp[h]
theorem CJ{ds:yM}(h:B[k]?=Z9 (Z9 (.int (m:Nat))))(b:m<=1000)(e:Yz [] .one (λ_=>ret Z7) c (W5 1 js B) (Y7 0 m) S=.ok ds S1):XW (WV (ZS [(ZY k)])) 1 js .one (λ_=>ret Z7) c B S=.ok (.lst S1.length) (S1++[.lst ds]):=by
 have a:=CK h (by lia) (by lia) S;rw[qE6]at a;have l:(Y7 0 m).length<lim:=by rw[Vp,X6];lia
 rw[Em,a,Xy];dsimp only;rw[if_pos l,e,Xy]
inductive gq(p i:Nat)(S:ZU)(r:R D):Prop
 |mk (S':ZU) (e:r=.ok (.bl Z7) S') (k:Kp (λj=>j=p∨j=i) S S')
inductive Qp(p i:Nat)(S:ZU)(r:RS):Prop
 |mk (S':ZU) (e:r=.rt (.bl Z7) S') (k:Kp (λj=>j=p∨j=i) S S')
theorem gp(c:ZO)(m:ZC S q=Z9 [.int 0,.int 1,.int 2])(e:c "_law_draw" [.lst p,.int 3] S=.ok (.int r) S1)(s:0<=r)(o:r<3)(a:ZC S1 q=Z9 [.int 0,.int 1,.int 2]):
  ∃l,l∈Rk/\X9 "list" (XB Ta) (ZY 2) (ZS [(ZT (c "_law_draw") (ZS [(ZY 0),(ZX (.int 3))])),(UL "list" (XB VL) (ZY 2))]) (VW p i q v3 v4 v5 v6 v7 v8) S=.ok .non ((S1.set q (.lst [.int 0,.int 1])).set q (.lst (l.map D.int))):=by
 have f:=QI m;have d:=QI a;have g:XB VL (.lst q) [] S1=.ok (.int 2) (S1.set q (.lst [.int 0,.int 1])):=by rw[Jx a];rfl
 have n:ZC (S1.set q (.lst [.int 0,.int 1])) q=Z9 [.int 0,.int 1]:=SU a;have j:∀(k:Int) (b:yM),Ta [.int 0,.int 1] [.int k,.int 2]=Z9 (b,.non)->XB Ta (.lst q) [.int k,.int 2] (S1.set q (.lst [.int 0,.int 1]))=.ok .non ((S1.set q (.lst [.int 0,.int 1])).set q (.lst b)):=λk b h=>by rw[Jx n,h]
 have:r=0∨r=1∨r=2:=by lia
 rcases this with rfl|rfl|rfl
 .exact⟨[2,0,1],by decide,by simp[f,e,d,g,j 0 [.int 2,.int 0,.int 1] rfl]⟩
 .exact⟨[0,2,1],by decide,by simp[f,e,d,g,j 1 [.int 0,.int 2,.int 1] rfl]⟩
 .exact⟨[0,1,2],by decide,by simp[f,e,d,g,j 2 [.int 0,.int 1,.int 2] rfl]⟩
theorem gm(H:Xl cl):WI cl (oS "fewest g") [oS "fewest",oS "g"]:=Vy H.wo (by decide)
theorem gk(H:UW cl)(n:Nat){kd:KD}{N:Zc}(hi:S[i]?=Z9 (.dk kd))(t:tv kd (oS "g")=Z9 N.d)(l:m<1000)(j:∀S,∃b,cl (n+5) "function_of" [N.d] S=.ok b S/\cl (n+5) "fewest" [b] S=.ok (.int (m:Nat)) S)(h:∀S,YW [.int (m:Nat)] S=.ok (.str x) S):Xb (cl (n+9) "_law_said" [.ob i,.str (oS "fewest g")] S) (.str x) S:=by
 obtain⟨f,c,e⟩:=Dd (n:=n+4) H.dn (v:=oS "fewest") (d:=.str x) (by decide:Zf (oS "g")=Z7) (gm H.dn) (by kernel_rfl) (by decide) t hi λa=>by obtain⟨b,g,k⟩:=j a;refine⟨a,?_,Kp.refl _ _⟩;rw[H.dn.ao];exact YT rfl (jl _ (Xp (by decide) a) (Xp (by decide) a) (Xp (by decide) a) g k (h a))
 exact⟨f,Mp H.sa (n+8) c,e⟩
theorem gj(H:UW cl)(T:Tt cl)(hfr:DW cl)(n:Nat)(HF:HV cl n){kd:KD}(st:XT S p)(hi:S[i]?=Z9 (.dk kd))(ip:i≠p)(hl:kd.length<=50):gq p i S (cl (n+10) "_law_fewest_right" [.lst p,.ob i] S):=by
 suffices h5:Qp p i S (MK (cl (n+9)) [Z9 (.lst p),Z9 (.ob i),Z8,Z8,Z8,Z8,Z8,Z8,Z8] S) by obtain⟨S',e,k⟩:=h5;refine⟨S',?_,k⟩;rw[show n+10=(n+9)+1 from rfl,hfr];exact YT rfl e
 have pl:=st.lt;have il:=(qA3.mp hi).1;unfold MK;obtain⟨q,hq⟩:∃q,S.length=q:=⟨_,rfl⟩
 obtain⟨S0,h0⟩:∃S0,S++[O.lst [.int 0,.int 1,.int 2]]=S0:=⟨_,rfl⟩
 have v:Ex S S0:=h0▸Zk _ _;have l0:ZC S0 q=Z9 [.int 0,.int 1,.int 2]:=by rw[<- h0,<- hq];exact Y9 _ _
 refine WS (G:=Qp p i S) (d:=.lst q) (S1:=S0) (by rw[<- h0,<- hq];simp) ?_;have X:q≠p:=by lia
 have qi:q≠i:=by lia
 obtain⟨r1,S1,e1,a1,b1,Y,_,st1⟩:=Xx T (n+7) (st.ex v) (m:=3) (by lia) (by lia);have l1:=Y.lst l0 X;obtain⟨o,ho,eo⟩:=gp (cl (n+9)) (i:=i) (v3:=Z8) (v4:=Z8) (v5:=Z8) (v6:=Z8) (v7:=Z8) (v8:=Z8) l0 e1 a1 b1 l1;refine gu eo ?_;obtain⟨S2,h2⟩:∃S2,(S1.set q (.lst [.int 0,.int 1])).set q (.lst (o.map D.int))=S2:=⟨_,rfl⟩
 rw[h2];have lq2:ZC S2 q=Z9 (o.map D.int):=by rw[<- h2];exact SU (SU l1)
 have l:Kp (·=q) S1 S2:=by rw[<- h2];exact(Vq _ _).trans (Vq _ _)
 have st2:=st1.kp l X.symm;obtain⟨M,u,e3,a3,b3,Z,_,st3⟩:=Xx T (n+7) st2 (m:=3) (by lia) (by lia);obtain⟨M,rfl⟩:∃m:Nat,M=m:=⟨M.toNat,by lia⟩
 obtain⟨m,hm⟩:∃m,1+M=m:=⟨_,rfl⟩
 have m3:m=1∨m=2∨m=3:=by lia
 refine WS (G:=Qp p i S) (d:=.int m) (S1:=u) (by rw[<- hm];simp[e3]) ?_;have E:=Z.lst lq2 X;obtain⟨j,hj⟩:∃j,u.length=j:=⟨_,rfl⟩
 obtain⟨S4,h4⟩:∃S4,u++[O.lst []]=S4:=⟨_,rfl⟩
 have W:Ex u S4:=h4▸Zk _ _;have l4:ZC S4 j=Z9 []:=by rw[<- h4,<- hj];exact Y9 _ _
 refine WS (G:=Qp p i S) (d:=.lst j) (S1:=S4) (by rw[<- h4,<- hj];simp) ?_;refine WS (G:=Qp p i S) (d:=.int 2) (S1:=S4) rfl ?_;have L3:q<u.length:=Jy E;have SL:S.length<=u.length:=by have a:=v.le;have b:=Y.le;have c:=l.le;have d:=Z.le;lia
 have jp:j≠p:=by lia
 have jq:j≠q:=by lia
 have ji:j≠i:=by lia
 obtain⟨v6,bs,S5,e5,hb,l5,st5,k5⟩:=gy T (n+7) (i:=i) (v3:=Z9 (.int m)) (v5:=Z9 (.int 2)) (v7:=Z8) (v8:=Z8) ho (by lia:m<=3) (st3.ex W) (W.lst E λz=>z) l4 X jp jq;have rg:=CK (B:=VW p i q (Z9 (.int m)) (Z9 (.lst j)) (Z9 (.int 2)) Z8 Z8 Z8) (k:=3) (m:=(m:Int)) rfl (by lia) (by lia) S4;rw[qE6]at rg;refine Rm (S1:=S4) (items:=Y7 0 m) (w:=[]) rg e5 ?_;obtain⟨r7,S6,e6,a6,b6,k6,_,st6⟩:=Xx T (n+7) st5 (m:=2) (by lia) (by lia);have l6:=k6.lst l5 jp;have K6:Kp (λx=>x=p∨x=i) S S6:=by
  have c1:Kp (λx=>x=p∨x=q∨x=j) S0 S6:=(Y.mono λ_ _ z=>.inl z).trans ((l.mono λ_ _ z=>.inr (.inl z)).trans ((Z.mono λ_ _ z=>.inl z).trans (W.kp.trans ((k5.mono λ_ _ z=>z.elim .inl λz=>.inr (.inr z)).trans (k6.mono λ_ _ z=>.inl z)))));refine⟨qC6 v.le c1.le,λy hy hn=>(c1.eq y (qA9 hy v.le) λz=>?_).trans (v.eq y hy λz=>z)⟩;rcases z with z|z|z
  .exact hn (.inl z)
  .lia
  .lia
 have hi6:S6[i]?=Z9 (.dk kd):=by have c1:Kp (λx=>x=p∨x=q∨x=j) S0 S6:=(Y.mono λ_ _ z=>.inl z).trans ((l.mono λ_ _ z=>.inr (.inl z)).trans ((Z.mono λ_ _ z=>.inl z).trans (W.kp.trans ((k5.mono λ_ _ z=>z.elim .inl λz=>.inr (.inr z)).trans (k6.mono λ_ _ z=>.inl z)))));exact c1.at (v.at hi λz=>z) λz=>z.elim ip λz=>z.elim (λz=>qi z.symm) λz=>ji z.symm
 have J:∀(r:Bool) (j':Nat) (v6 v7 v8:Option D) (s:ZU),Ex S6 s->ZC s j'=Z9 ((fN m o bs r).cs.map Ct.d)->Qp p i S ((ZV (Zj (Zn (ZW Yh (ZT (cl (n+9) "_law_said") (ZS [(ZY 1),(ZW ZQ (ZX (.str (Str.ofString "net g "))) (ZT (cl (n+9) "_law_net_text") (ZS [(Zg (ZS [(ZX (.int 3)),(ZY 5),(ZT V4 (ZS [(ZY 4)]))]))])))])) (ZX (.str (Str.ofString "ok"))))) (ZV (ZG (ZX (.bl Z5))) ZL) ZL) (ZV (ZG (ZW Ze (ZT (cl (n+9) "_law_said") (ZS [(ZY 1),(ZX (.str (Str.ofString "fewest g")))])) (ZT YW (ZS [(ZY 3)])))) ZL)) (VW p i q (Z9 (.int m)) (Z9 (.lst j')) (Z9 (.int (fN m o bs r).pl)) v6 v7 v8) s):=λr j' v6 v7 v8 s A L=>by
  obtain⟨g,hf⟩:=HF m o bs r m3 ho hb;obtain⟨N,hN⟩:∃N,fN m o bs r=N:=⟨_,rfl⟩
  have sw:N.sw=3:=by rw[<- hN];rfl
  rw[hN]at L g hf ⊢;obtain⟨f,V,F⟩:=MA H.lt (n+8) g s;obtain⟨I,U,k9,d9⟩:=CU H n (x:=oS "g") (by decide) g ((A.trans F).at hi6 λz=>z) (by lia);have eg:oS "net g "=oS "net "++oS "g"++oS " ":=by kernel_rfl
  obtain⟨_,_,P⟩:=Ie (x:=oS "g") (by decide) g f;have P:=P f;rw[<- eg]at P U;have tl:=O7 L;have nd:D.tup [.int 3,.int N.pl,.tup (N.cs.map Ct.d)]=N.d:=by unfold Zc.d;rw[sw]
  rw[<- nd]at V;have q1:∀S,Yh (.str (Str.ofString "ok")) (.str (Str.ofString "ok")) S=.ok (.bl Z5) S:=λS=>by show R.ok (D.bl (!decide _)) S=_;rw[decide_eq_true rfl];rfl
  refine Sw (S1:=I) (by simp[tl,V,P,U,q1]) ?_;have t9:=Om kd (oS "g") N.d;have fx:∀S,YW [.int (m:Nat)] S=.ok (.str (toString ((m:Nat):Int))) S:=λS=>by show(if((m:Nat):Int).natAbs<1000000000000000000 then _ else _)=_;rw[if_pos (by lia)]
  obtain⟨Sa,ea,xa⟩:=gk H n d9 t9 (by lia) hf fx;have q2:∀z:Str,Ze (.str z) (.str z) Sa=.ok (.bl Z7) Sa:=λz=>by show R.ok (D.bl (decide _)) Sa=_;rw[decide_eq_true rfl]
  refine⟨Sa,by simp[ea,fx,q2],K6.trans ((A.trans F).kp.trans ((k9.mono λ_ _ z=>.inr z).trans xa.kp))⟩
 have C:∀b,decide (r7=0)=b->Zn (ZW Ze (ZT (cl (n+9) "_law_draw") (ZS [(ZY 0),(ZX (.int 2))])) (ZX (.int 0))) (VW p i q (Z9 (.int m)) (Z9 (.lst j)) (Z9 (.int 2)) v6 Z8 Z8) S5=.ok b S6:=λb h=>by simp[e6,h]
 by_cases h7:r7=0
 .obtain⟨Q,s,e7,A,_,L⟩:=me (B:=VW p i q (Z9 (.int m)) (Z9 (.lst j)) (Z9 (.int ((m:Int)+1))) v6 Z8 Z8) (j:=5) (n:=(m:Int)+1) rfl (by lia) (by lia) S6;obtain⟨ds,f,V,F,_,hds⟩:=gw (cl (n+9)) m3 L;have c8:=CJ (B:=VW p i q (Z9 (.int m)) (Z9 (.lst j)) (Z9 (.int ((m:Int)+1))) v6 (Z9 (.lst Q)) Z8) (k:=3) (m:=m) (js:=[7]) rfl (by lia) V;have lA:=Y9 f ds;have K:=Zk f [O.lst ds];generalize f++[O.lst ds]=I at c8 lA K;have lB:=(A.trans (F.trans K)).lst l6 λz=>z;have U:=gv (cl (n+9)) m3 ho hb lA (λt ht=>by
   obtain⟨q',e,q1,q2,q3⟩:=hds t ht;exact⟨q',e,q1,K.lst q2 λz=>z,q3⟩) lB
  have c9:=CJ (B:=VW p i q (Z9 (.int m)) (Z9 (.lst j)) (Z9 (.int ((m:Int)+1))) v6 (Z9 (.lst Q)) (Z9 (.lst f.length))) (k:=3) (m:=m) (js:=[8,4]) rfl (by lia) U;refine gr (B':=VW p i q (Z9 (.int m)) (Z9 (.lst I.length)) (Z9 (.int ((m:Int)+1))) v6 (Z9 (.lst Q)) (Z9 (.lst f.length))) (S2:=I++[.lst ((Wq (EN m) o bs).map Ct.d)]) (C Z7 (decide_eq_true h7)) ?_ (J Z7 I.length v6 (Z9 (.lst Q)) (Z9 (.lst f.length)) _ (A.trans (F.trans (K.trans (Zk _ _)))) (Y9 _ _));rw[Mm (d:=.int ((m:Int)+1)) (S1:=S6) (by simp)];exact(Mm e7).trans ((Mm c8).trans (Mm c9))
 .refine Sw (C Z5 (decide_eq_false h7)) ?_;exact J Z5 j v6 Z8 Z8 S6 (Kp.refl _ _) l6
abbrev UV(v0 v1 v2:Option D)(p i k:Nat)(v6 v7 v8 v9:Option D):ZR:=[v0,v1,v2,Z9 (.lst p),Z9 (.ob i),Z9 (.dct k),v6,v7,v8,v9]
structure Ml(cl:Nat->ZO):Prop where
 st:UW cl
 rw:Sy cl
 pn:Tt cl
 nm:D1 cl
 wr:DY cl
 ur:DX cl
 fr:DW cl
theorem CH{kd:KD}(ok:Vl kd)(h:kd.length<64)(hk:S[k]?=Z9 (.dk kd)):∃b:yH,Xe [.dct k] S=.ok (.lst S.length) (S++[.lst (b.map D.str)])/\(∀z∈b,Zf z=Z7)/\b.length=kd.length:=by
 obtain⟨a,i,f,e,c⟩:=ok.names;refine⟨Yc a,?_,λz d=>c z ((PU a).mem_iff.mp d),by rw[(PU a).length_eq,e]⟩;unfold Xe;have g:a.length<64:=by lia
 simp_all
inductive HU(v0 v1 v2:Option D)(p i k:Nat)(v6 v9:Option D)(kd:KD)(S:ZU)(r:RS):Prop
 |mk (v7 v8:Option D) (kd':KD) (S':ZU) (e:r=.nx (UV v0 v1 v2 p i k v6 v7 v8 v9) S') (T:W7 p i k kd' S') (l:kd'.length<=kd.length+1) (ne:kd'≠[]) (q:Kp (P3 p i k) S S')
theorem gi(t:KD)(k:ZA)(d:D):Zu t k d≠[]:=by
 unfold Zu;split
 .rename_i h;cases t with
  |nil=>simp at h
  |cons a b=>simp
 .simp
theorem gh(H:Ml cl)(n:Nat){kd:KD}(T:W7 p i k kd S)(hl:kd.length<=40):HU v0 v1 v2 p i k v6 v9 kd S (MI (cl (n+10)) (UV v0 v1 v2 p i k v6 v7 v8 v9) S):=by
 unfold MI;obtain⟨t,s,m1,m2⟩:=CH T.ok (by lia) T.dk;obtain⟨S1,j⟩:∃S1,S++[O.lst (t.map D.str)]=S1:=⟨_,rfl⟩
 rw[j]at s;have q:Ex S S1:=j▸Zk _ _;have pl:=T.st.lt;obtain⟨z,S2,W,l,J,f⟩:=iU H.pn H.nm (n+7) (T.st.ex q) (k:=S.length) (ns:=t) (j▸Y9 _ _) (by lia) m1 (by lia);refine WS (G:=HU v0 v1 v2 p i k v6 v9 kd S) (d:=.str z) (S1:=S2) (by simp[s,W]) ?_;obtain⟨L,S3,X,a3,b3,U,_,b⟩:=Xx H.pn (n+8) f (m:=4) (by lia) (by lia);obtain⟨V,S4,C,a4,b4,K,_,h⟩:=Xx H.pn (n+8) b (m:=6) (by lia) (by lia);obtain⟨r,S5,I,a5,b5,k5,_,c⟩:=Xx H.pn (n+8) h (m:=6) (by lia) (by lia);obtain⟨m,rfl⟩:∃m:Nat,r=m:=⟨r.toNat,by lia⟩
 obtain⟨N,S6,e6,g,_,_,_,B,e⟩:=(Ow H.pn (n+7) c (sw:=1+L) (pl:=2+V) (m:=m) (by lia) (by lia) (by lia)).g (by lia) (by lia) (by lia);refine WS (G:=HU v0 v1 v2 p i k v6 v9 kd S) (d:=N.d) (S1:=S6) (by simp[X,C,I,e6]) ?_;have u:Kp (·=p) S S6:=q.kp.trans (J.trans (U.trans (K.trans (k5.trans B))));have E:=T.pen u e;obtain⟨Q,P,w⟩:=MA H.st.lt (n+9) g S6;obtain⟨x,S9,e8,M,a,F,q8⟩:=CQ H.st (n+1) l g (E.ex w) (by lia);obtain⟨c1,c2,y⟩:=Ie l g S6;have Y:∀S,Yh (.str (Str.ofString "ok")) (.str (Str.ofString "ok")) S=.ok (.bl Z5) S:=λS=>by show R.ok (D.bl (!decide _)) S=_;rw[decide_eq_true rfl];rfl
 refine Sw (S1:=x) (by simp[c1,c2,P,y Q,e8,Y]) ?_;refine Ig (d:=N.d) (S1:=x) (B':=UV v0 v1 v2 p i k v6 (Z9 (.str z)) (Z9 N.d) v9) (S2:=S9) (by simp) (by simp[M]) ?_;have Z:=Qu kd (.inr z) N.d;obtain⟨o,A,v⟩:=Ih H.st (n+3) a.di a.dk a.ne a.ok (by lia);refine Sw (S1:=o) (by simp[A]) ?_;exact⟨Z9 (.str z),Z9 N.d,_,o,rfl,a.ex v,Z,gi _ _ _,(Kp.p3 u).trans (w.kp.trans (F.trans v.kp))⟩
inductive CG(v0 v1 v2:Option D)(p i k:Nat)(v6 v7 v8:Option D)(kd:KD)(S:ZU)(r:RS):Prop
 |mk (v9:Option D) (S':ZU) (e:r=.nx (UV v0 v1 v2 p i k v6 v7 v8 v9) S') (T:W7 p i k kd S') (q:Kp (P3 p i k) S S')
theorem gg(H:Ml cl)(n:Nat){kd:KD}(T:W7 p i k kd S)(P:kd.length<=40)(ne:kd≠[]):CG v0 v1 v2 p i k v6 v7 v8 kd S (MJ (cl (n+10)) (UV v0 v1 v2 p i k v6 v7 v8 v9) S):=by
 unfold MJ;obtain⟨a,r,K,L⟩:=CH T.ok (by lia) T.dk;obtain⟨S1,f⟩:∃S1,S++[O.lst (a.map D.str)]=S1:=⟨_,rfl⟩
 rw[f]at r;have h:Ex S S1:=f▸Zk _ _;have Q:=T.st.lt;have q:0<a.length:=by rw[L];exact qM5.mpr ne
 refine WS (G:=CG v0 v1 v2 p i k v6 v7 v8 kd S) (d:=.lst S.length) (S1:=S1) (by simp[r]) ?_;have j:ZC S1 S.length=Z9 (a.map D.str):=f▸Y9 _ _;have g:=RC j;rw[qA6]at g;obtain⟨J,N,C,A,v,o,_,e⟩:=Xx H.pn (n+8) (T.st.ex h) (m:=(a.length:Nat)) (by lia) (by lia);have M:=o.lst j (by lia);obtain⟨I,E,x⟩:=Ik (l:=a) A v;have b:=Xc M J;rw[x]at b;obtain⟨z,S3,F,w,B,c⟩:=ix H.pn H.st.dn H.wr (n+7) e (K I E);obtain⟨s,y,u⟩:=On H.st.sa (n+9) (w (n+3) i S3) Oo;refine Sw (S1:=s) (by simp[g,C,b,F,y]) ?_;have t:Kp (·=p) S S3:=h.kp.trans (o.trans B);exact⟨Z9 (.lst S.length),s,rfl,(T.pen t c).ex u,(Kp.p3 t).trans u.kp⟩
theorem CF(h:c B S=.ok (.int m) S1)(e:0<=m)(d:m<=1000):WV (ZS [c]) B S=.ok (Y7 0 m.toNat,[]) S1:=by
 have b:-4611686018427387904<=m:=by lia
 have a:m<4611686018427387904:=by lia
 simp[h,b,a]
inductive Mj(v0 v1 v2:Option D)(S:ZU)(r:RS):Prop
 |mk (v3 v4 v5 v6 v7 v8 v9:Option D) (S':ZU) (e:r=.nx [v0,v1,v2,v3,v4,v5,v6,v7,v8,v9] S') (x:Ex S S')
theorem gf(H:Ml cl)(n:Nat)(HF:HV cl (n+1))(S:ZU):Mj v0 (Z9 (.int at_)) (Z9 (.int c)) S (OP (cl (n+11)) [v0,Z9 (.int at_),Z9 (.int c),v3,v4,v5,v6,v7,v8,v9] S):=by
 unfold OP;obtain⟨S1,e1,x1,u⟩:=i7 H.pn (n+10) c S;refine WS (G:=Mj v0 (Z9 (.int at_)) (Z9 (.int c)) S) (d:=.lst S.length) (S1:=S1) (by simp[e1]) ?_;obtain⟨p,hp⟩:∃p,S.length=p:=⟨_,rfl⟩
 obtain⟨i,hi⟩:∃i,S1.length=i:=⟨_,rfl⟩
 rw[hp]at u ⊢;obtain⟨S2,C⟩:∃S2,S1++[O.dk []]=S2:=⟨_,rfl⟩
 have X:Ex S1 S2:=C▸Zk _ _;have d2:S2[i]?=Z9 (.dk []):=by rw[<- C,<- hi,qA5 (qA4 _),qD5];rfl
 refine WS (G:=Mj v0 (Z9 (.int at_)) (Z9 (.int c)) S) (d:=.ob i) (S1:=S2) (by rw[<- C,<- hi];rfl) ?_;obtain⟨k,hk⟩:∃k,S2.length=k:=⟨_,rfl⟩
 obtain⟨S3,E⟩:∃S3,S2++[O.dk []]=S3:=⟨_,rfl⟩
 have I:Ex S2 S3:=E▸Zk _ _;have d3:S3[k]?=Z9 (.dk []):=by rw[<- E,<- hk,qA5 (qA4 _),qD5];rfl
 refine WS (G:=Mj v0 (Z9 (.int at_)) (Z9 (.int c)) S) (d:=.dct k) (S1:=S3) (by rw[<- E,<- hk];rfl) ?_;have pl:=u.lt;have l2:S2.length=S1.length+1:=by rw[<- C];simp
 have T3:W7 p i k [] S3:=⟨I.at d2 λz=>z,d3,by lia,by lia,by lia,(u.ex X).ex I,λq hq=>absurd hq (by simp)⟩
 have V:Ex S S3:=x1.trans (X.trans I);obtain⟨t,y,e4,a4,b4,A,_,L⟩:=Xx H.pn (n+9) T3.st (m:=5) (by lia) (by lia);obtain⟨t,rfl⟩:∃m:Nat,t=m:=⟨t.toNat,by lia⟩
 have T4:=T3.pen A L;have rg:=CF (B:=UV v0 (Z9 (.int at_)) (Z9 (.int c)) p i k v6 v7 v8 v9) (c:=ZW ZQ (ZX (.int 3)) (ZT (cl (n+11) "_law_draw") (ZS [(ZY 3),(ZX (.int 5))]))) (m:=3+(t:Int)) (S:=S3) (S1:=y) (by simp[e4]) (by lia) (by lia);rw[show(3+(t:Int)).toNat=3+t by lia]at rg;obtain⟨B',S5,e5,o,s,r,kd,rfl,T5,ln5,f,q5⟩:=RB (w:=[]) (g:=gN 6) (b:=MI (cl (n+11))) (items:=Y7 0 (3+t)) (λj B h=>∃o s r kd,B=UV v0 (Z9 (.int at_)) (Z9 (.int c)) p i k o s r v9/\W7 p i k kd h/\kd.length<=j/\(j=0∨kd≠[])/\Kp (P3 p i k) y h) (B:=UV v0 (Z9 (.int at_)) (Z9 (.int c)) p i k v6 v7 v8 v9) (S:=y)
  (λ_ _ _ _=>XJ _) ⟨v6,v7,v8,[],rfl,T4,qF0 _,.inl rfl,Kp.refl _ _⟩ (λj d B h M N=>by
   obtain⟨o,s,r,kd,rfl,T,ln,_,q⟩:=N;obtain⟨hj,rfl⟩:=Qz.mp M;obtain⟨P,R,K,F,e,Q,l,ne,U⟩:=gh H (n+1) (v0:=v0) (v1:=Z9 (.int at_)) (v2:=Z9 (.int c)) (v6:=Z9 (.int (0+(j:Int)))) (v7:=s) (v8:=r) (v9:=v9) T (by lia);exact⟨_,h,rfl,_,_,.inl e,_,P,R,K,rfl,Q,by lia,.inr ne,q.trans U⟩)
 rw[Vp]at ln5 f;have f:kd≠[]:=f.resolve_left (by lia);refine Rm rg e5 ?_;have Z:WV (ZS [(ZX (.int 6))]) (UV v0 (Z9 (.int at_)) (Z9 (.int c)) p i k o s r v9) S5=.ok (Y7 0 6,[]) S5:=CF (m:=6) rfl (by decide) (by decide);obtain⟨B',S6,e6,u6,u9,rfl,x,q6⟩:=RB (w:=[]) (g:=gN 6) (b:=MJ (cl (n+11))) (items:=Y7 0 6) (λj B h=>∃o J,B=UV v0 (Z9 (.int at_)) (Z9 (.int c)) p i k o s r J/\W7 p i k kd h/\Kp (P3 p i k) S5 h) (B:=UV v0 (Z9 (.int at_)) (Z9 (.int c)) p i k o s r v9) (S:=S5)
  (λ_ _ _ _=>XJ _) ⟨o,v9,rfl,T5,Kp.refl _ _⟩ (λj d B h M N=>by
   obtain⟨o,J,rfl,T,q⟩:=N;obtain⟨hj,rfl⟩:=Qz.mp M;obtain⟨W,F,e,Q,U⟩:=gg H (n+1) (v0:=v0) (v1:=Z9 (.int at_)) (v2:=Z9 (.int c)) (v6:=Z9 (.int (0+(j:Int)))) (v7:=s) (v8:=r) (v9:=J) T (by lia) f;exact⟨_,h,rfl,_,_,.inl e,_,W,rfl,Q,q.trans U⟩)
 refine Rm Z e6 ?_;obtain⟨S7,e7,x7⟩:=Ih H.st (n+4) x.di x.dk x.ne x.ok (by lia);have T7:=x.ex x7;obtain⟨kd8,S8,e8,Y,l8,q8⟩:=g5 H.st H.rw H.pn H.ur (n+1) T7 (by lia);refine Sw (S1:=S8) (by simp[e7,e8]) ?_;have back:∀S9,Kp (P3 p i k) y S9->Ex S S9:=λS9 q=>by refine⟨qC6 V.le (qC6 A.le q.le),λj hj hn=>?_⟩;have a:=x1.le;have b:=X.le;have c:=V.le;exact(q.eq j (by have:=A.le;lia) (by rintro(z|z|z)<;>lia)).trans ((A.eq j (by lia) (by lia)).trans (V.eq j hj hn))
 have v:Kp (P3 p i k) y S8:=q5.trans (q6.trans (x7.kp.trans q8));by_cases ha:at_=0
 .obtain⟨S9,e9,q9⟩:=gj H.st H.pn H.fr (n+1) HF Y.st Y.di Y.ip (by lia);refine Sw (S1:=S9) (by simp[ha,e9]) ?_;exact⟨_,_,_,_,_,_,_,S9,rfl,back S9 (v.trans (q9.mono λj _ z=>z.elim .inl λz=>.inr (.inl z)))⟩
 .refine Sw (S1:=S8) (by simp[ha]) ?_;exact⟨_,_,_,_,_,_,_,S8,rfl,back S8 v⟩
open PySem Lake
def WH:TC:=[(("is_whole":Str),(1,1,QG)),
 (("is_bit":Str),(1,1,RA)),
 (("is_contact":Str),(3,3,Jr)),
 (("is_net":Str),(1,4,Jo)),
 (("settings":Str),(1,3,ot)),
 (("is_shut":Str),(2,2,oq)),
 (("places_from":Str),(2,5,oh)),
 (("joins":Str),(1,1,og)),
 (("shut_contacts":Str),(2,2,n5)),
 (("lets":Str),(2,2,n3)),
 (("function_of":Str),(1,1,nY)),
 (("switches_of":Str),(1,1,nX)),
 (("moved_contact":Str),(2,2,Jn)),
 (("moved":Str),(2,2,Jk)),
 (("net_within":Str),(3,3,M7)),
 (("in_row":Str),(2,5,M6)),
 (("side_by_side":Str),(2,4,M5)),
 (("lone_net":Str),(2,2,nS)),
 (("tree_function":Str),(2,5,nQ)),
 (("number_of":Str),(1,3,nO)),
 (("first_level":Str),(1,5,nI)),
 (("add_made":Str),(4,8,nD)),
 (("further_level":Str),(1,5,nz)),
 (("levels_to":Str),(1,3,nv)),
 (("fewest":Str),(1,1,nj)),
 (("contact_text":Str),(1,5,OY)),
 (("net_text":Str),(1,3,M3)),
 (("figure":Str),(1,1,Ji)),
 (("has_lengths_of_net":Str),(1,1,Rz)),
 (("contact_read":Str),(1,1,M1)),
 (("net_read":Str),(1,3,QF)),
 (("number_read":Str),(1,2,Jf)),
 (("name_read":Str),(1,1,Ry)),
 (("word_read":Str),(2,2,SQ)),
 (("words_of":Str),(1,1,QD)),
 (("line_read":Str),(1,2,QC)),
 (("refuse_unfit":Str),(1,1,Rx)),
 (("net_made":Str),(2,2,SO)),
 (("answer_of":Str),(2,2,QB)),
 (("answer":Str),(2,2,MX)),
 (("_law_cell_at":Str),(2,2,MW)),
 (("_law_next":Str),(1,1,Jd)),
 (("_law_pen_of":Str),(1,2,Jc)),
 (("_law_draw":Str),(2,3,MV)),
 (("_law_drawn_net":Str),(4,8,MU)),
 (("_law_net_text":Str),(1,6,MT)),
 (("_law_name":Str),(2,4,MS)),
 (("_law_said":Str),(2,3,DZ)),
 (("_law_stays":Str),(2,2,MR)),
 (("_law_wrong":Str),(2,6,MQ)),
 (("_law_unlike_right":Str),(3,9,MN)),
 (("_law_fewest_right":Str),(2,9,MK)),
 (("law":Str),(1,10,OO)),
 (("Desk.with_nets":Str),(2,4,ON)),
 (("Desk.say":Str),(2,4,Wa))]
def TL:List (Nat×yA):=[(1,[1,0,1,0,1,0,1,0]),(1,[0,1,0,1,0,1,0,1]),(1,[1,1,1,1,0,0,0,0]),(1,[0,0,0,0,1,1,1,1]),(2,[1,1,1,1,1,0,1,0]),(2,[1,0,1,0,0,0,0,0]),(2,[1,0,1,0,1,1,1,1]),(2,[0,0,0,0,1,0,1,0]),(2,[1,1,1,1,0,1,0,1]),(2,[0,1,0,1,0,0,0,0]),(2,[0,1,0,1,1,1,1,1]),(2,[0,0,0,0,0,1,0,1]),(2,[1,1,1,1,1,1,0,0]),(2,[1,1,0,0,0,0,0,0]),(2,[1,1,1,1,0,0,1,1]),(2,[0,0,1,1,0,0,0,0]),(2,[1,1,0,0,1,1,1,1]),(2,[0,0,0,0,1,1,0,0]),(2,[0,0,1,1,1,1,1,1]),(2,[0,0,0,0,0,0,1,1]),(3,[1,1,1,1,1,1,1,0]),(3,[1,0,0,0,0,0,0,0]),(3,[1,1,1,1,1,0,1,1]),(3,[0,0,1,0,0,0,0,0]),(3,[1,1,1,0,1,1,1,1]),(3,[0,0,0,0,1,0,0,0]),(3,[1,0,1,1,1,1,1,1]),(3,[0,0,0,0,0,0,1,0]),(3,[1,1,1,1,1,1,0,1]),(3,[0,1,0,0,0,0,0,0]),(3,[1,1,1,1,0,1,1,1]),(3,[0,0,0,1,0,0,0,0]),(3,[1,1,0,1,1,1,1,1]),(3,[0,0,0,0,0,1,0,0]),(3,[0,1,1,1,1,1,1,1]),(3,[0,0,0,0,0,0,0,1])]
def V7(p:Nat×yA):Bool:=match Yt WH 34 "fewest" [.tup (p.2.map D.int)] []with
 |.ok (.int k) S=>decide (k=(p.1:Nat))&&S.isEmpty
 |_=>Z5
theorem gc:(TL.take 10).all V7=Z7:=by decide
theorem gb:((TL.drop 10).take 10).all V7=Z7:=by decide
theorem fC:((TL.drop 20).take 8).all V7=Z7:=by decide
theorem fz:(TL.drop 28).all V7=Z7:=by decide
theorem HS:TL.all V7=Z7:=by rw[<- qI2 10 TL,qL3,gc,qK1,<- qI2 10 (TL.drop 10),qL3,gb,qK1,qO9,<- qI2 8 (TL.drop (10+10)),qL3,show((TL.drop (10+10)).take 8).all V7=Z7 from fC,qK1,qO9];exact fz
def gB(N:Zc):Bool:=decide (1<=N.sw/\N.sw<=4/\2<=N.pl/\N.pl<=7/\N.cs.length<=16)&&N.cs.all λc=>decide (0<=c.a/\c.a<c.b/\c.b<N.pl/\0<=c.k/\c.k<N.sw/\0<=c.o/\c.o<2)
theorem fy(h:gB N=Z7):N.g:=by
 unfold gB at h;rw[qB3,decide_eq_true_eq]at h;obtain⟨⟨a,b,c,d,e⟩,f⟩:=h;exact⟨a,b,c,d,by lia,λx g=>by
  have q:=qB9.mp f x g;rw[decide_eq_true_eq]at q;exact q⟩
def HR:yM->Option (yA)
 |[]=>Z9 []
 |.int i::r=>(HR r).map (i::·)
 |_=>Z8
theorem CC:∀{ds:yM}{l:yA},HR ds=Z9 l->ds=l.map D.int
 |[],l,h=>by cases h;rfl
 |.int i::r,l,h=>by obtain⟨t,e,rfl⟩:=qA1.mp h;rw[CC e];rfl
def Ol(m:Nat)(N:Zc):Bool:=gB N&&(match Yt WH 34 "function_of" [N.d] []with
 | .ok (.tup a) S=>S.isEmpty&&(match HR a with
  |some l=>decide ((m,l)∈TL)
  | none=>Z5)
 | _=>Z5)
theorem HQ:([1,2,3].all λm=>Rk.all λa=>(BL m).all λbs=>[Z7,Z5].all λr=>Ol m (fN m a bs r))=Z7:=by decide
theorem Cz(n:Nat)(x:Str)(h:x = "function_of"∨x = "fewest")(d:D)(k:V1 0 d=Z7)(he:V1 0 e=Z7)(a:Yt WH (n+1) x [d] []=.ok e S0)(S:ZU):Yt WH (n+1) x [d] S=.ok e S:=by
 obtain⟨p,j⟩:∃p,WH.lookup x=Z9 p:=by rcases h with rfl|rfl<;>exact⟨_,rfl⟩
 have l:∀S,Yt WH (n+1) x [d] S=RO 0 (Zz p.1 p.2.1 (p.2.2 (Yt WH n))) [d] S:=λS=>by
  show(match WH.lookup x with
   |some p=>VE x (Zz p.1 p.2.1 (p.2.2 (Yt WH n)))
   | none=>λ_ _=>.bad) [d] S=_
  rw[j];show VE x (Zz p.1 p.2.1 (p.2.2 (Yt WH n))) [d] S=_;unfold VE;rw[if_pos (h.symm)]
 rw[l]at a ⊢;have g:∀S:ZU,(inDs 0 [d]&&(S.take 0).all (UH 0)&&decide (0<=S.length))=Z7:=λS=>by
  have:inDs 0 [d]=Z7:=by unfold inDs inDs;rw[k];rfl
  rw[this];rfl
 unfold RO at a ⊢;rw[if_pos (g _)]at a ⊢;rw[qO8]at a ⊢;cases b:Zz p.1 p.2.1 (p.2.2 (Yt WH n)) [d] []with
 |bad=>rw[b]at a;cases a
 |er c i =>
  rw[b]at a;dsimp only at a;split at a
  .cases a
  .cases a
 |ok m i =>
  rw[b]at a;dsimp only at a ⊢;have t:Ws (qL9 0 i) []=Z7:=rfl;split at a
  .rename_i f;cases a;rw[if_pos f]
  .rename_i f;cases a;exact absurd (by rw[he];exact t) f
theorem fw(N:Zc):V1 0 N.d=Z7:=by
 have d:∀a:yN,inDs 0 (a.map Ct.d)=Z7:=λa=>by
  induction a with
  |nil=>rfl
  |cons c r b=>show(V1 0 c.d&&inDs 0 (r.map Ct.d))=Z7;rw[b];rfl
 show(Z7&&(Z7&&(inDs 0 (N.cs.map Ct.d)&&Z7)))=Z7;rw[d];rfl
theorem Cy(l:yA):V1 0 (.tup (l.map D.int))=Z7:=by
 show inDs 0 (l.map D.int)=Z7
 induction l with
 |nil=>rfl
 |cons c r a=>show(Z7&&inDs 0 (r.map D.int))=Z7;rw[a];rfl
theorem fv:HV (Yt WH) 29:=λm i bs r a f h=>by
 have q:=HQ;have d:m∈[1,2,3]:=by rcases a with rfl|rfl|rfl<;>decide
 have c:=qB9.mp (qB9.mp (qB9.mp (qB9.mp q m d) i f) bs h) r (by cases r<;>decide);unfold Ol at c;rw[qB3]at c;obtain⟨g,c⟩:=c;refine⟨fy g,λS=>?_⟩;split at c
 .rename_i p n e;rw[qB3]at c;obtain⟨_,c⟩:=c;split at c
  .rename_i l j;have a:(m,l)∈TL:=of_decide_eq_true c;rw[CC j]at e;have w:=qB9.mp HS (m,l) a;unfold V7 at w;split at w
   .rename_i k o b;rw[qB3,decide_eq_true_eq]at w;rw[w.1]at b;exact⟨_,Cz 33 "function_of" (.inl rfl) _ (fw _) (Cy l) e S,Cz 33 "fewest" (.inr rfl) _ (Cy l) rfl b S⟩
   .cases w
  .cases c
 .cases c
theorem fu(c:ZO){xs:yM}(f:c "_law_cell_at" [b,.int 0] S=.ok d S)(h:S++[.lst [d]]=S1)(g:YH b (Z9 1) (Z9 4) S1=.ok (.lst S1.length) S2)(a:ZQ (.lst S.length) (.lst S1.length) S2=.ok (.lst k) S3)(l:ZC S3 k=Z9 xs)
  (e:Yr [(k,xs)] (gT [gN 1,gN 2]) (OP c) (Vs xs) [Z9 b,Z8,Z8,Z8,Z8,Z8,Z8,Z8,Z8,Z8] S3=.nx [Z9 b,v1,v2,v3,v4,v5,v6,v7,v8,v9] S4):OO c [Z9 b,Z8,Z8,Z8,Z8,Z8,Z8,Z8,Z8,Z8] S=.rt (.bl Z7) S4:=by simp[OO,f,h,g,a,l,e]
theorem ft(k:mi (Yt WH))(T:D4 (Yt WH))(H:Ml (Yt WH))(ns:yA)(h:ns.length<=63):∃S',Yt WH 40 "law" [.rol (ns.map D.int)] []=.ok (.bl Z7) S':=by
 rw[show(40:Nat)=39+1 from rfl,k];obtain⟨i,t⟩:=mf T 38 ns 0 (by decide) [];obtain⟨sc,q⟩:∃sc,D.rol (ns.map D.int)=sc:=⟨_,rfl⟩
 have r:YH (.rol (ns.map D.int)) (Z9 1) (Z9 4) ([]++[.lst [.int i]])=.ok (.lst 1) ([]++[.lst [.int i]]++[.lst (Yv (ns.map D.int) (Z9 1) (Z9 4))]):=rfl;have J:∃f:yA,Yv (ns.map D.int) (Z9 1) (Z9 4)=f.map D.int/\f.length<=63:=by
  refine⟨((ns.drop (HT.sIx ns.length 0 (Z9 1))).take (HT.sIx ns.length ns.length (Z9 4) - HT.sIx ns.length 0 (Z9 1))),?_,?_⟩
  .unfold Yv;rw[qA6,List.map_take,List.map_drop]
  .rw[qD2,qE8];lia
 obtain⟨f,p,C⟩:=J;rw[p]at r;have a:=QH (S:=[]++[O.lst [.int i]]++[.lst (f.map D.int)]) (n:=0) (m:=1) (xs:=[.int i]) (ys:=f.map D.int) rfl rfl (by rw[qA6,X6];show 1+f.length<=1048576;lia);obtain⟨S3,y⟩:∃S3,([]++[O.lst [.int i]]++[.lst (f.map D.int)]++[.lst ([.int i]++f.map D.int)]:ZU)=S3:=⟨_,rfl⟩
 rw[y]at a;have v:ZC S3 2=Z9 ((i::f).map D.int):=by rw[<- y];rfl
 rw[q]at t r ⊢;obtain⟨U,I,E,o,l,v3,v4,v5,v6,v7,v8,v9,rfl,V⟩:=RB (w:=[(2,(i::f).map D.int)]) (g:=gT [gN 1,gN 2]) (b:=OP (Yt WH 39)) (items:=Vs ((i::f).map D.int)) (λ_ B S'=>∃o l v3 v4 v5 v6 v7 v8 v9,B=[Z9 sc,o,l,v3,v4,v5,v6,v7,v8,v9]/\Ex S3 S') (B:=[Z9 sc,Z8,Z8,Z8,Z8,Z8,Z8,Z8,Z8,Z8]) (S:=S3)
  (λ_ B S' ⟨_,_,_,_,_,_,_,_,_,_,x⟩=>UF (x.lst v λz=>z)) ⟨Z8,Z8,Z8,Z8,Z8,Z8,Z8,Z8,Z8,rfl,Kp.refl _ _⟩ (λj d B S' s Q=>by
   obtain⟨o,l,v3,v4,v5,v6,v7,v8,v9,rfl,x⟩:=Q;have u:j<((i::f).map D.int).length:=by have:=(qA3.mp s).1;rw[RW]at this;exact this
   rw[Kv u]at s;cases s;rw[List.getElem_map];obtain⟨A,R,M,G,L,F,K,P,e,N⟩:=gf H 28 fv (v0:=Z9 sc) (v3:=v3) (v4:=v4) (v5:=v5) (v6:=v6) (v7:=v7) (v8:=v8) (v9:=v9) (at_:=(j:Nat)) (c:=(i::f)[j]'(by simpa using u)) S';exact⟨_,S',rfl,_,_,.inl e,_,_,A,R,M,G,L,F,K,rfl,x.trans N⟩)
 exact⟨I,YT rfl (fu _ t rfl r a v E)⟩
end Internal
set_option maxHeartbeats 4000000
namespace Internal
open PySem Lake
def tbl:TC:=WH
def Y6(i:Nat):Stmt:=PySem.Challenge.pw_contactnets_k96_names_and_order_at_a_des.main.body.getD i (.Pass ⟨0,0,0,0⟩)
theorem hk{f g:Nat->yM->M D}(h:f=g)(n:Nat):f n=g n:=congrFun h n
def Rj(s:jV)(j:Nat):Stmt:=match s with
 |.ClassDef (body:=b) ..=>b.getD j (.Pass ⟨0,0,0,0⟩)
 |_=>.Pass ⟨0,0,0,0⟩
abbrev Qo:Stmt:=Y6 103
abbrev Oj:Stmt:=Rj (Y6 88) 1
abbrev Oi:Stmt:=Rj (Y6 88) 2
abbrev HP(x:Str)(N:yH)(st:jV)(b:ZO->CS):Prop:=(λa:ZO=>cSts (VF tbl) a 60 ⟨N,(Zd st).names,Z9 x⟩ (X4 st))=λa=>Z9 (b a)
theorem Cw:YD ["_law_script","_law_at","_law_cell","_law_pen","_law_desk","_law_kept","_law_turn","_law_name_here","_law_net","_law_names"] ["_law_script"] (Zd Qo)=Z7:=by decide
theorem Cu:HP "law" ["_law_script","_law_at","_law_cell","_law_pen","_law_desk","_law_kept","_law_turn","_law_name_here","_law_net","_law_names"] Qo OO:=by kernel_rfl
theorem fq:YD ["self","asked","told","kind"] ["self","asked"] (Zd Oj)=Z7:=by decide
theorem fo:HP "Desk.with_nets" ["self","asked","told","kind"] Oj ON:=by kernel_rfl
theorem fj:YD ["self","line","words","asked"] ["self","line"] (Zd Oi)=Z7:=by decide
theorem fh:HP "Desk.say" ["self","line","words","asked"] Oi Wa:=by kernel_rfl
theorem fg(ns:yA)(h:ns.length<=63):∃S',Yt tbl 40 "law" [.rol (ns.map D.int)] []=.ok (.bl Z7) S':=(λd:Xl (Yt tbl)=>ft (hk (by kernel_rfl)) (hk (by kernel_rfl)) ⟨⟨d,hk (by kernel_rfl),hk (by kernel_rfl),hk (by kernel_rfl)⟩,⟨d,hk (by kernel_rfl),hk (by kernel_rfl),hk (by kernel_rfl),hk (by kernel_rfl),hk (by kernel_rfl)⟩,⟨hk (by kernel_rfl),hk (by kernel_rfl),hk (by kernel_rfl),hk (by kernel_rfl)⟩,hk (by kernel_rfl),hk (by kernel_rfl),hk (by kernel_rfl),hk (by kernel_rfl)⟩ ns h) ⟨hk (by kernel_rfl),hk (by kernel_rfl),hk (by kernel_rfl),hk (by kernel_rfl),hk (by kernel_rfl),hk (by kernel_rfl),hk (by kernel_rfl),hk (by kernel_rfl),hk (by kernel_rfl),hk (by kernel_rfl),hk (by kernel_rfl),⟨hk (by kernel_rfl),hk (by kernel_rfl),hk (by kernel_rfl),hk (by kernel_rfl),hk (by kernel_rfl),hk (by kernel_rfl),hk (by kernel_rfl),hk (by kernel_rfl),hk (by kernel_rfl),hk (by kernel_rfl)⟩⟩
def DF(K:yP)(n:Str)(st:jV):Prop:=∃(f:yQ) (h b:Option yQ) (c:Array (yF)) (d kV g e a i:yT),wD K y9 n=Z9 (Z9 (.ref f))/\K.lookup f=Z9 ⟨d,h,.func (fI n n (Vu st) (X4 st) (Zd st) .none kV g e b a i),c⟩/\lE K a n=Z7/\wE K (.ref f)=Z7
theorem mkDF{e:Array (yF)}{g kV i h b m:yT}(a:wD K y9 n=Z9 (Z9 (.ref f)))(l:K.lookup f=Z9 ⟨g,j,.func (fI n n (Vu st) (X4 st) (Zd st) .none kV i h d b m),e⟩)(c:lE K b n=Z7)(k:wE K (.ref f)=Z7):DF K n st:=⟨f,j,d,e,g,kV,i,h,b,m,a,l,c,k⟩
theorem DF.in{m:Str->yF}(d:DF K n st)(X:K.In h)(G:h.Ns y9 m):∃(f:yQ) (kV i e:yT) (b:Option yQ) (j g:yT),m n=Z9 (.ref f)/\WN K n n st f (fI n n (Vu st) (X4 st) (Zd st) .none kV i e b j g):=by obtain⟨f,q,b,o,p,kV,i,e,j,g,a,l,c,k⟩:=d;exact⟨f,kV,i,e,b,j,g,dQ X G a,Lv l c k⟩
def ZN(K:yP):yH->Prop
 |[]=>True
 |x::r=>wD K y9 x=Z9 Z8/\ZN K r
theorem ZN.none(X:K.In h)(G:h.Ns y9 a):∀{l:yH},ZN K l->Nj a l
 |[],_=>True.intro
 |_::_,z=>⟨dR X G z.1,z.2.none X G⟩
def Oh(K:yP)(x z:Str):Bool:=match wD K y9 x with
 |some (Z9 (.str y _))=>decide (y=z)
 |_=>Z5
def Cr(K:yP):Bool:=NB.all (λp=>Oh K p.1 p.2)
theorem ff{c:Str->yF}(X:K.In h)(G:h.Ns y9 c)(a:Cr K=Z7)(x z:Str)(e:NB.lookup x=Z9 z):∃t,c x=Z9 (.str z t):=by
 have q:=qB9.mp a _ (Eu e);unfold Oh at q;dsimp only at q;split at q
 .rename_i y t b;rw[of_decide_eq_true q]at b;exact⟨t,dQ X G b⟩
 .cases q
def BP(st:jV)(n:Str)(ps:yH)(kV a d:yT)(c:Option yQ)(b e:yT)(us:yB):Prop:=bindArgs (fI n n (Vu st) (X4 st) (Zd st) .none kV a d c b e) ⟨us,[]⟩=pure (ps.zip us)
def BF(st:jV)(n:Str)(ps:yH):Prop:=∀(kV a e:yT) (d:Option yQ) (b f:yT) (c:yB),c.length=ps.length->BP st n ps kV a e d b f c
theorem fe{c:Str->yF}{a np nN:Nat}(d:DF K x st)(X:K.In h)(G:h.Ns y9 c)(f:BF st x ps)(e:YD N ps (Zd st)=Z7)
  (j:(λcl:ZO=>cSts ar cl a ⟨N,(Zd st).names,Z9 x⟩ (X4 st))=λcl=>Z9 (b cl)) (g:ps.length=np:=by rfl) (i:N.length=nN:=by rfl):SV K c ar x (np,nN,b):=by obtain⟨_,_,_,_,_,_,_,m,F⟩:=d.in X G;exact pj F m (F.binds (ps:=ps) f) e j g i
theorem Mi:∀us:yB,us.length=n+1->∃a r,us=a::r/\r.length=n
 |a::r,h=>⟨a,r,rfl,Nat.succ.inj h⟩
theorem fc{P:yB->Prop}(h:P [])(us:yB)(a:us.length=0):P us:=by rw[List.eq_nil_of_length_eq_zero a];exact h
theorem Mh{P:yB->Prop}(h:∀c:yT,P [c])(us:yB)(b:us.length=1):P us:=by obtain⟨a,r,rfl,d⟩:=Mi us b;exact fc (P:=λr=>P (a::r)) (h a) r d
theorem Mg{P:yB->Prop}(h:∀d b:yT,P [d,b])(us:yB)(c:us.length=2):P us:=by obtain⟨a,r,rfl,e⟩:=Mi us c;exact Mh (P:=λr=>P (a::r)) (h a) r e
theorem Cq{P:yB->Prop}(h:∀e c b:yT,P [e,c,b])(us:yB)(d:us.length=3):P us:=by obtain⟨a,r,rfl,f⟩:=Mi us d;exact Mg (P:=λr=>P (a::r)) (h a) r f
theorem eZ{P:yB->Prop}(h:∀g c b f:yT,P [g,c,b,f])(us:yB)(e:us.length=4):P us:=by obtain⟨a,r,rfl,d⟩:=Mi us e;exact Cq (P:=λr=>P (a::r)) (h a) r d
theorem eY {st n a}(h:∀c d p e f g b,BP st n [a] c d p e f g [b]):BF st n [a]:=λc d p e f g=>Mh (P:=BP st n [a] c d p e f g) (h c d p e f g)
theorem Y4{r:yH}(h:∀(kV a d:yT) (c:Option yQ) (b e:yT) (f:yT),BP st n [v0] kV a d c b e [f]):BF st n (qL9 1 (v0::r)):=λkV a d c b e=>Mh (P:=BP st n [v0] kV a d c b e) (h kV a d c b e)
theorem YJ{r:yH}(h:∀(kV a d:yT) (c:Option yQ) (b e:yT) (g f:yT),BP st n [v0,v1] kV a d c b e [g,f]):BF st n (qL9 2 (v0::v1::r)):=λkV a d c b e=>Mg (P:=BP st n [v0,v1] kV a d c b e) (h kV a d c b e)
theorem Ri{r:yH}(h:∀(kV a d:yT) (c:Option yQ) (b e:yT) (i g f:yT),BP st n [v0,v1,v2] kV a d c b e [i,g,f]):BF st n (qL9 3 (v0::v1::v2::r)):=λkV a d c b e=>Cq (P:=BP st n [v0,v1,v2] kV a d c b e) (h kV a d c b e)
theorem Og{r:yH}(h:∀(kV a d:yT) (c:Option yQ) (b e:yT) (i g f j:yT),BP st n [v0,v1,v2,v3] kV a d c b e [i,g,f,j]):BF st n (qL9 4 (v0::v1::v2::v3::r)):=λkV a d c b e=>eZ (P:=BP st n [v0,v1,v2,v3] kV a d c b e) (h kV a d c b e)
theorem Zy{a:Str->yF}{np nN:Nat}(N:yH)(d:DF K x st)(X:K.In h)(G:h.Ns y9 a)(f:BF st x (N.take np))(i:YD N (N.take np) (Zd st)=Z7)
  (c:(λcl:ZO=>cSts ar cl 60 ⟨N,(Zd st).names,Z9 x⟩ (X4 st))=λcl=>Z9 (b cl)) (g:(N.take np).length=np:=by rfl) (e:N.length=nN:=by rfl):SV K a ar x (np,nN,b):=fe (np:=np) (nN:=nN) d X G f i c g e
abbrev Of:Stmt:=Y6 94
theorem eX:BF Of "_law_flags" ["_law_e"]:=eY λ_ _ _ _ _ _ _=>rfl
theorem eW:YD ["_law_e","_law_found"] ["_law_e"] (Zd Of)=Z7:=by decide
theorem eV:UY ⟨["_law_e","_law_found"],(Zd Of).names,Z8⟩ (X4 Of)=Z9 SY:=by kernel_rfl
abbrev Mf:Stmt:=Rj (Y6 88) 0
def MF(K:yP)(C:yQ)(m q:Str)(st:jV):Prop:=∃(f:yQ) (h b:Option yQ) (c:Array (yF)) (d kV g e a i:yT),j8 K (.ref C) m=Z9 (Z9 (.ref f))/\W.isFn K (.ref f)=Z7/\K.lookup f=Z9 ⟨d,h,.func (fI m q (Vu st) (X4 st) (Zd st) .none kV g e b a i),c⟩/\lE K a q=Z7/\wE K (.ref f)=Z7
theorem mkMF{C:yQ}{e:Array (yF)}{g kV j h b o:yT}(a:j8 K (.ref C) m=Z9 (Z9 (.ref f)))(i:W.isFn K (.ref f)=Z7)(l:K.lookup f=Z9 ⟨g,n,.func (fI m q (Vu st) (X4 st) (Zd st) .none kV j h d b o),e⟩)(c:lE K b q=Z7)(k:wE K (.ref f)=Z7):MF K C m q st:=⟨f,n,d,e,g,kV,j,h,b,o,a,i,l,c,k⟩
def Me(st:jV)(n q:Str)(ps:yH)(kV a d:yT)(c:Option yQ)(b e:yT)(us:yB):Prop:=bindArgs (fI n q (Vu st) (X4 st) (Zd st) .none kV a d c b e) ⟨us,[]⟩=pure (ps.zip us)
def Oe(st:jV)(n q:Str)(ps:yH):Prop:=∀(kV a e:yT) (d:Option yQ) (b f:yT) (c:yB),c.length=ps.length->Me st n q ps kV a e d b f c
theorem Cp{C:yQ}{e np nN:Nat}(d:MF K C m q st)(h:Wt K C)(cl:WQ K C)(n:Oe st m q ps)(j:YD N ps (Zd st)=Z7)(g:m ≠ "kept")(o:q ≠ "law")
  (t:(λcl:ZO=>cSts ar cl e ⟨N,(Zd st).names,Z9 q⟩ (X4 st))=λcl=>Z9 (b cl)) (p:ps.length=np:=by rfl) (s:N.length=nN:=by rfl):Nl K ar m q (np,nN,b):=by obtain⟨f,A,w,y,u,kV,r,z,x,v,a,i,l,c,k⟩:=d;have F:=Lv (st:=st) l c k;exact⟨st,f,_,N,ps,e,C,F,h,cl,⟨a,i,k⟩,F.binds (ps:=ps) n,j,p,s,g,o,λcl=>congrFun t cl⟩
theorem eU{b:Str->yF}{C:yQ}(d:MF K C "__init__" q st)(cl:WQ K C)(t:Vv K C "kept")(m:b "Desk"=Z9 (.ref C))(p:dW K C=Z7)(v:wE K (.ref C)=Z7)(s:Oe st "__init__" q ["self"])(r:YD ["self"] ["self"] (Zd st)=Z7)(o:X4 st=K0 "kept" h e p3 j)(n:(Zd st).names.lookup ("self":Str)=Z9 NameKind.local):∃g,Up K b "Desk" "kept" C g:=by obtain⟨f,D,y,A,w,kV,u,B,z,x,a,i,l,c,k⟩:=d;have F:=Lv (st:=st) l c k;exact⟨f,cl,t,m,⟨p,a,i,v⟩,q,st,_,h,e,p3,j,F,JB r,F.binds (ps:=["self"]) s,o,n⟩
theorem eT:Oe Mf "__init__" "Desk.__init__" ["self"]:=λkV a d c b e=>Mh (P:=Me Mf "__init__" "Desk.__init__" ["self"] kV a d c b e) (λ_=>rfl)
theorem eS:Oe Oj "with_nets" "Desk.with_nets" ["self","asked"]:=λkV a d c b e=>Mg (P:=Me Oj "with_nets" "Desk.with_nets" ["self","asked"] kV a d c b e) (λ_ _=>rfl)
theorem eR:Oe Oi "say" "Desk.say" ["self","line"]:=λkV a d c b e=>Mg (P:=Me Oi "say" "Desk.say" ["self","line"] kV a d c b e) (λ_ _=>rfl)
theorem eQ:YD ["self"] ["self"] (Zd Mf)=Z7:=by decide
theorem all_mk{l:W.OpenLaw}{mg:Str->yF}{fa C CD U:yQ}(X:K.In h)(G:h.Ns y9 mg)(Y:mg "law"=Z9 (.ref fa))
  (d1:DF K "is_whole" (Y6 10)) (d2:DF K "is_bit" (Y6 11)) (d3:DF K "is_contact" (Y6 12)) (d4:DF K "is_net" (Y6 13)) (d5:DF K "settings" (Y6 14)) (d6:DF K "is_shut" (Y6 15)) (d7:DF K "places_from" (Y6 17)) (d8:DF K "joins" (Y6 18)) (d9:DF K "shut_contacts" (Y6 19)) (d10:DF K "lets" (Y6 20)) (P:DF K "function_of" (Y6 21)) (d12:DF K "switches_of" (Y6 22)) (J:DF K "moved_contact" (Y6 26)) (r:DF K "moved" (Y6 27)) (d15:DF K "net_within" (Y6 28)) (R:DF K "in_row" (Y6 29)) (I:DF K "side_by_side" (Y6 30)) (d18:DF K "lone_net" (Y6 41)) (d19:DF K "tree_function" (Y6 42)) (o:DF K "number_of" (Y6 44)) (d21:DF K "first_level" (Y6 45)) (Q:DF K "add_made" (Y6 46)) (d23:DF K "further_level" (Y6 47)) (j:DF K "levels_to" (Y6 48)) (d25:DF K "fewest" (Y6 49)) (O:DF K "contact_text" (Y6 52)) (d27:DF K "net_text" (Y6 53)) (i:DF K "figure" (Y6 55)) (D:DF K "has_lengths_of_net" (Y6 56)) (d30:DF K "contact_read" (Y6 57)) (u:DF K "net_read" (Y6 58)) (d32:DF K "number_read" (Y6 76)) (d:DF K "name_read" (Y6 77)) (g:DF K "word_read" (Y6 78)) (d35:DF K "words_of" (Y6 79)) (f:DF K "line_read" (Y6 80)) (d37:DF K "refuse_unfit" (Y6 81)) (d38:DF K "net_made" (Y6 82)) (E:DF K "answer_of" (Y6 86)) (N:DF K "answer" (Y6 87)) (M:DF K "_law_cell_at" (Y6 90)) (d42:DF K "_law_next" (Y6 91)) (t:DF K "_law_pen_of" (Y6 92)) (H:DF K "_law_draw" (Y6 93)) (d45:DF K "_law_drawn_net" (Y6 95)) (d46:DF K "_law_net_text" (Y6 96)) (V:DF K "_law_name" (Y6 97)) (S:DF K "_law_said" (Y6 98)) (B:DF K "_law_stays" (Y6 99)) (k:DF K "_law_wrong" (Y6 100)) (d51:DF K "_law_unlike_right" (Y6 101)) (T:DF K "_law_fewest_right" (Y6 102)) (b:DF K "law" Qo) (dt:DF K "_law_flags" Of) (z:ZN K Pu) (tx:Cr K=Z7) (xk:UK K=Z7) (xs:O0 K=Z7) (xg:wD K y9 "NetError"=Z9 (Z9 (.ref C))) (xn:Ec K C=Z7) (xv:wD K y9 "ValueError"=Z9 Z8) (xi:wD K y9 "isinstance"=Z9 Z8)
  (c:wD K y9 "Desk"=Z9 (Z9 (.ref CD))) (m0:MF K CD "__init__" "Desk.__init__" Mf) (m1:MF K CD "with_nets" "Desk.with_nets" Oj) (m2:MF K CD "say" "Desk.say" Oi)
  (pg:lO K CD Str.empty=Z7) (hd:mQ K CD=Z7) (po:uA K CD=Z7) (sa:j8 K (.ref CD) "__setattr__"=Z9 (Z9 (.builtin "object.__setattr__"))) (mk:dW K CD=Z7) (kc:wE K (.ref CD)=Z7) (nK:j8 K (.ref CD) "kept"=Z9 Z8)
  (fN:wD K y9 "FORMS"=Z9 (Z9 (.ref U))) (fB:Jz K U=Z7) (fH:RD K U=Xz.map λp=>uE w p.1)
  : ∃fd:jT,(∀(s:yR) (v:yT),dM s fd ⟨[v],[]⟩ [("_law_script",v)])/\∀base:jB,K.In base->base.Ns y9 mg->YO l.prog w K mg base (Xj l.prog w) (3*40) fa fd ["_law_script"] (Nk K):=by
 obtain⟨_,kV,dc,pm,an,cd,ct,m,F⟩:=b.in X G;have e:=Y.symm.trans m;cases e;have A:VC K mg (VF tbl) tbl:=And.intro (Or.inr (Zy ["thing"] d1 X G (Y4 λ_ _ _ _ _ _ _=>rfl) (by decide) (by kernel_rfl))) (And.intro (Or.inr (Zy ["thing"] d2 X G (Y4 λ_ _ _ _ _ _ _=>rfl) (by decide) (by kernel_rfl))) (And.intro (Or.inr (Zy ["switches","places","thing"] d3 X G (Ri λ_ _ _ _ _ _ _ _ _=>rfl) (by decide) (by kernel_rfl))) (And.intro (Or.inr (Zy ["thing","switches","places","contacts"] d4 X G (Y4 λ_ _ _ _ _ _ _=>rfl) (by decide) (by kernel_rfl))) (And.intro (Or.inr (Zy ["switches","told","switch"] d5 X G (Y4 λ_ _ _ _ _ _ _=>rfl) (by decide) (by kernel_rfl))) (And.intro (Or.inr (Zy ["contact","setting"] d6 X G (YJ λ_ _ _ _ _ _ _ _=>rfl) (by decide) (by kernel_rfl))) (And.intro (Or.inr (Zy ["start","contacts","found","grown","contact"] d7 X G (YJ λ_ _ _ _ _ _ _ _=>rfl) (by decide) (by kernel_rfl))) (And.intro (Or.inr (Zy ["contacts"] d8 X G (Y4 λ_ _ _ _ _ _ _=>rfl) (by decide) (by kernel_rfl))) (And.intro (Or.inr (Zy ["net","setting"] d9 X G (YJ λ_ _ _ _ _ _ _ _=>rfl) (by decide) (by kernel_rfl))) (And.intro (Or.inr (Zy ["net","setting"] d10 X G (YJ λ_ _ _ _ _ _ _ _=>rfl) (by decide) (by kernel_rfl))) (And.intro (Or.inr (Zy ["net"] P X G (Y4 λ_ _ _ _ _ _ _=>rfl) (by decide) (by kernel_rfl))) (And.intro (Or.inr (Zy ["function"] d12 X G (Y4 λ_ _ _ _ _ _ _=>rfl) (by decide) (by kernel_rfl))) (And.intro (Or.inr (Zy ["contact","new"] J X G (YJ λ_ _ _ _ _ _ _ _=>rfl) (by decide) (by kernel_rfl))) (And.intro (Or.inr (Zy ["contacts","new"] r X G (YJ λ_ _ _ _ _ _ _ _=>rfl) (by decide) (by kernel_rfl))) (And.intro (Or.inr (Zy ["switches","places","contacts"] d15 X G (Ri λ_ _ _ _ _ _ _ _ _=>rfl) (by decide) (by kernel_rfl))) (And.intro (Or.inr (Zy ["one","other","middle","first","second"] R X G (YJ λ_ _ _ _ _ _ _ _=>rfl) (by decide) (by kernel_rfl))) (And.intro (Or.inr (Zy ["one","other","places","second"] I X G (YJ λ_ _ _ _ _ _ _ _=>rfl) (by decide) (by kernel_rfl))) (And.intro (Or.inr (Zy ["switches","tree"] d18 X G (YJ λ_ _ _ _ _ _ _ _=>rfl) (by decide) (by kernel_rfl))) (And.intro (Or.inr (Zy ["switches","tree","told","part","bits"] d19 X G (YJ λ_ _ _ _ _ _ _ _=>rfl) (by decide) (by kernel_rfl))) (And.intro (Or.inr (Zy ["function","number","bit"] o X G (Y4 λ_ _ _ _ _ _ _=>rfl) (by decide) (by kernel_rfl))) (And.intro (Or.inr (Zy ["switches","level","switch","on","tree"] d21 X G (Y4 λ_ _ _ _ _ _ _=>rfl) (by decide) (by kernel_rfl))) (And.intro (Or.inr (Zy ["level","one","other","known","first","second","kind","made"] Q X G (Og λ_ _ _ _ _ _ _ _ _ _=>rfl) (by decide) (by kernel_rfl))) (And.intro (Or.inr (Zy ["levels","known","level","told","less"] d23 X G (Y4 λ_ _ _ _ _ _ _=>rfl) (by decide) (by kernel_rfl))) (And.intro (Or.inr (Zy ["function","switches","levels"] j X G (Y4 λ_ _ _ _ _ _ _=>rfl) (by decide) (by kernel_rfl))) (And.intro (Or.inr (Zy ["function"] d25 X G (Y4 λ_ _ _ _ _ _ _=>rfl) (by decide) (by kernel_rfl))) (And.intro (Or.inr (Zy ["contact","a","b","switch","sign"] O X G (Y4 λ_ _ _ _ _ _ _=>rfl) (by decide) (by kernel_rfl))) (And.intro (Or.inr (Zy ["net","switches","places"] d27 X G (Y4 λ_ _ _ _ _ _ _=>rfl) (by decide) (by kernel_rfl))) (And.intro (Or.inr (Zy ["sign"] i X G (Y4 λ_ _ _ _ _ _ _=>rfl) (by decide) (by kernel_rfl))) (And.intro (Or.inr (Zy ["words"] D X G (Y4 λ_ _ _ _ _ _ _=>rfl) (by decide) (by kernel_rfl))) (And.intro (Or.inr (Zy ["word"] d30 X G (Y4 λ_ _ _ _ _ _ _=>rfl) (by decide) (by kernel_rfl))) (And.intro (Or.inr (Zy ["text","words","net"] u X G (Y4 λ_ _ _ _ _ _ _=>rfl) (by decide) (by kernel_rfl))) (And.intro (Or.inr (Zy ["word","number"] d32 X G (Y4 λ_ _ _ _ _ _ _=>rfl) (by decide) (by kernel_rfl))) (And.intro (Or.inr (Zy ["word"] d X G (Y4 λ_ _ _ _ _ _ _=>rfl) (by decide) (by kernel_rfl))) (And.intro (Or.inr (Zy ["kind","word"] g X G (YJ λ_ _ _ _ _ _ _ _=>rfl) (by decide) (by kernel_rfl))) (And.intro (Or.inr (Zy ["line"] d35 X G (Y4 λ_ _ _ _ _ _ _=>rfl) (by decide) (by kernel_rfl))) (And.intro (Or.inr (Zy ["words","kinds"] f X G (Y4 λ_ _ _ _ _ _ _=>rfl) (by decide) (by kernel_rfl))) (And.intro (Or.inr (Zy ["asked"] d37 X G (Y4 λ_ _ _ _ _ _ _=>rfl) (by decide) (by kernel_rfl))) (And.intro (Or.inr (Zy ["verb","asked"] d38 X G (YJ λ_ _ _ _ _ _ _ _=>rfl) (by decide) (by kernel_rfl))) (And.intro (Or.inr (Zy ["verb","net"] E X G (YJ λ_ _ _ _ _ _ _ _=>rfl) (by decide) (by kernel_rfl))) (And.intro (Or.inr (Zy ["verb","asked"] N X G (YJ λ_ _ _ _ _ _ _ _=>rfl) (by decide) (by kernel_rfl))) (And.intro (Or.inr (Zy ["_law_script","_law_k"] M X G (YJ λ_ _ _ _ _ _ _ _=>rfl) (by decide) (by kernel_rfl))) (And.intro (Or.inr (Zy ["_law_seed"] d42 X G (Y4 λ_ _ _ _ _ _ _=>rfl) (by decide) (by kernel_rfl))) (And.intro (Or.inr (Zy ["_law_cell","_law_left"] t X G (Y4 λ_ _ _ _ _ _ _=>rfl) (by decide) (by kernel_rfl))) (And.intro (Or.inr (Zy ["_law_pen","_law_many","_law_found"] H X G (YJ λ_ _ _ _ _ _ _ _=>rfl) (by decide) (by kernel_rfl))) (And.intro (Or.inr (Zy ["_law_pen","_law_switches","_law_places","_law_many","_law_rows","_law_turn","_law_a","_law_b"] d45 X G (Og λ_ _ _ _ _ _ _ _ _ _=>rfl) (by decide) (by kernel_rfl))) (And.intro (Or.inr (Zy ["_law_net","_law_words","_law_a","_law_b","_law_switch","_law_on"] d46 X G (Y4 λ_ _ _ _ _ _ _=>rfl) (by decide) (by kernel_rfl))) (And.intro (Or.inr (Zy ["_law_pen","_law_names","_law_some","_law_one"] V X G (YJ λ_ _ _ _ _ _ _ _=>rfl) (by decide) (by kernel_rfl))) (And.intro (Or.inr (Zy ["_law_desk","_law_line","_law_e"] S X G (YJ λ_ _ _ _ _ _ _ _=>rfl) (by decide) (by kernel_rfl))) (And.intro (Or.inr (Zy ["_law_desk","_law_kept"] B X G (YJ λ_ _ _ _ _ _ _ _=>rfl) (by decide) (by kernel_rfl))) (And.intro (Or.inr (Zy ["_law_pen","_law_name_here","_law_signs","_law_at","_law_odd","_law_some"] k X G (YJ λ_ _ _ _ _ _ _ _=>rfl) (by decide) (by kernel_rfl))) (And.intro (Or.inr (Zy ["_law_pen","_law_desk","_law_kept","_law_two","_law_many","_law_nets","_law_name_here","_law_line","_law_names"] d51 X G (Ri λ_ _ _ _ _ _ _ _ _=>rfl) (by decide) (by kernel_rfl))) (And.intro (Or.inr (Zy ["_law_pen","_law_desk","_law_order","_law_many","_law_rows","_law_places","_law_turn","_law_ways","_law_ends"] T X G (YJ λ_ _ _ _ _ _ _ _=>rfl) (by decide) (by kernel_rfl))) (And.intro (Or.inr (Zy ["_law_script","_law_at","_law_cell","_law_pen","_law_desk","_law_kept","_law_turn","_law_name_here","_law_net","_law_names"] b X G (Y4 λ_ _ _ _ _ _ _=>rfl) Cw Cu)) (And.intro (Or.inl (by decide)) (And.intro (Or.inl (by decide)) (True.intro)))))))))))))))))))))))))))))))))))))))))))))))))))))));have a:WQ K CD:=⟨pg,hd,po,sa⟩
 obtain⟨gI,dk⟩:=eU m0 a nK (dQ X G c) mk kc eT eQ (by rfl) (by decide);have hD:Pl w K mg:=⟨λC hC=>by obtain rfl:=Wt.uniq c hC;exact⟨a,nK⟩,⟨CD,gI,dk,c⟩,pa l.prog X G fN fB fH⟩
 have hM:∀m q,VI.lookup m=Z9 q->∃p,tbl.lookup q=Z9 p/\p.1=2/\Nl K (VF tbl) m q p:=λm q e=>by
  unfold VI at e;rw[qD4]at e;split at e
  .rename_i Z;obtain rfl:m = "say":=by simpa using Z
   cases e;exact⟨_,by kernel_rfl,rfl,Cp m2 c a eR fj (by decide) (by decide) fh⟩
  rw[qD4]at e;split at e
  .rename_i Z;obtain rfl:m = "with_nets":=by simpa using Z
   cases e;exact⟨_,by kernel_rfl,rfl,Cp m1 c a eS fq (by decide) (by decide) fo⟩
  cases e
 obtain⟨_,_,_,_,_,_,_,mt,Ft⟩:=dt.in X G;have hR:∀base,VG l.prog w K mg base:=λbase=>oz X G Ft mt (Ft.binds (ps:=["_law_e"]) eX) eW eV xg xk xn xv xi;refine⟨fI "law" "law" (Vu Qo) (X4 Qo) (Zd Qo) .none kV dc pm an cd ct,λs v=>.of_eq rfl,λbase kb nb=>?_⟩;exact pk (L:=39) (λx p n e=>A.look x p n e) hM hD ⟨λy hy _=>(z.none X G).mem y hy,ff X G tx⟩ (oA X G xs) m (hR base) (by kernel_rfl) F Cw rfl (λa=>congrFun Cu a) (λns h=>fg ns h)
end Internal
open PySem PySem.W PyProof.Rows
namespace PySem.W.Fast
def tw12269197427489354408:=0
def tw15418328285937151836:=0
def tw3335653411378210262:=0
def tw16331567490055315327:=0
def tw8190741797570944673:=0
def tw7905342107598168134:=0
def tw3333017005910982209:=0
def tw14151755649636642590:=0
def tw14603120696020100697:=0
def tw16234480920071168925:=0
def tw5580517751928885616:=0
def tw11007167939091820071:=0
def tw8019734246684981327:=0
def tw16873800278956224903:=0
def tw14896990992030993868:=0
def tw12060208125882935161:=0
def tw4003580836531605340:=0
def tw3063926703593592213:=0
def tw15360279940610591199:=0
def tw15321100730097294762:=0
def tw4689138823545750270:=0
def tw17617017904570406228:=0
def tw7737232440663799090:=0
def tw18317640874962610511:=0
def tw1756850443183410678:=0
def tw16850920302422259282:=0
def tw15878839189472738120:=0
def tw6638659269737815202:=0
def tw2248580328461018302:=0
def tw8329619704682594419:=0
def tw7318227456902208185:=0
def tw11944425452708222872:=0
def tw13976906136070139862:=0
def tw5098375415652817121:=0
def tw13453532542484568589:=0
def tw11829961908449426320:=0
def tw17021657025819387287:=0
def tw14868110364363029989:=0
def tw894171495012669920:=0
def tw10380000863383851858:=0
def tw1195239902399156257:=0
def tw16528464907293292420:=0
def tw15562620039272513015:=0
def tw15437625873625161816:=0
def tw15342323331568212503:=0
def tw988202152255921902:=0
def tw4719196793835120835:=0
def tw12682666174016276971:=0
def tw18091783583974173416:=0
def tw8672755121893260819:=0
def tw15931904426966932846:=0
def tw15247702010872079506:=0
def tw10333347193990897566:=0
def tw15999215398735987098:=0
def tw13698386007965953650:=0
def tw10569262974139189699:=0
def tw9885165090334647323:=0
def tw15519447260313631987:=0
def tw13408744708776463940:=0
def tw1330515986954458927:=0
def tw17449605911962079069:=0
def tw11919545044722240536:=0
def tw7417475677372296221:=0
def tw14491586093550146316:=0
def tw12919250805802913776:=0
def tw4811647739706205664:=0
def tw16329104550694844553:=0
def tw6179401436293851628:=0
def tw6808966029158098351:=0
def tw2014785359969724744:=0
def tw1972809994453498945:=0
def tw11459677113829428666:=0
def tw6581863460329080470:=0
def tw14474012258300811005:=0
def tw1000155118394401185:=0
def tw12220378329819713728:=0
def tw14380324814359739380:=0
def tw16423739525109934220:=0
def tw13692091117940990739:=0
def tw10658250640047266492:=0
def tw16647740566201214255:=0
def tw16633168125091930205:=0
def tw15927077459438898642:=0
def tw13101317607085658456:=0
def tw5947943355511193872:=0
def tw2996903190562638257:=0
def tw10451195953544228987:=0
def tw9348732190156082487:=0
def tw13940999544807880794:=0
def tw9113812176328096103:=0
def tw8138816407696591998:=0
def tw3524975780413652614:=0
def tw11811120193295198622:=0
def tw987412086006020867:=0
def tw15653556821338144248:=0
def tw4508008548761590485:=0
def tw16417554102935158043:=0
def tw505881122834131222:=0
def tw13870861703751605758:=0
def tw14075076083522191228:=0
def tw1620804323461737910:=0
def tw15844961344917316439:=0
def tw4889434831664501153:=0
def tw6922259407529881137:=0
def tw13035118777057639577:=0
def tw9949897138054480060:=0
def tw14950304670175547415:=0
def tw7951522129963782929:=0
def tw5548462490310829245:=0
def tw4138540998988504403:=0
def tw12721278442427124284:=0
def tw12461640716999772136:=0
def tw17025633159039321699:=0
def tw18193935219992669066:=0
def tw15234159485854128067:=0
def tw4581587690107386885:=0
def tw16024954577525857752:=0
def tw12075534027218566312:=0
def tw6498916345446994298:=0
def tw4113805720386328559:=0
def tw11809694141245464462:=0
def tw4664747617880140569:=0
def tw9891188916483485737:=0
def tw13530019139895371864:=0
def tw3641263477697288190:=0
def tw9297006449106549731:=0
def tw1734083531799958217:=0
def tw167416457366786245:=0
def tw12503378141663344123:=0
def tw1152918083456858785:=0
def tw16163770914147879227:=0
def tw8818581465528417021:=0
def tw3387811375671690028:=0
def tw12817533572606946738:=0
def tw8693564278810695188:=0
def tw15191314081195046871:=0
def tw15021185368201323904:=0
def tw12218674099483413763:=0
def tw4109611337726187140:=0
def tw4491795063017191996:=0
def tw7616341204098290455:=0
def tw7461347715863638403:=0
def tw13810516731823710426:=0
def tw8155743652860981473:=0
def tw6756418926254775785:=0
def tw12333937822338866263:=0
def tw11381646686081233043:=0
def tw6907292403099568526:=0
def tw3966409873508891979:=0
def tw14013184550234143472:=0
def tw16682257001955907864:=0
def tw16155663926985378313:=0
def tw8545101074844253275:=0
def tw7503912756445102791:=0
def tw4706565017888179625:=0
def tw12503925083602248902:=0
def tw12697548276171747544:=0
def tw1799672156384886358:=0
def tw14525672344307647372:=0
def tw3967302756152933489:=0
def tw14103877186642837892:=0
def tw17118675641614322819:=0
def tw1818293061246022661:=0
def tw16762098248251466809:=0
def tw6995122497975213593:=0
def tw17331356369580773804:=0
def tw11659935704266853530:=0
def tw1220031445200995330:=0
def tw14379074905513473699:=0
def tw4928158807731928837:=0
def tw15345712721418728426:=0
def tw14149943688856954698:=0
def tw3166848147123145099:=0
def tw16052055075722211255:=0
def tw1835614008689859384:=0
def tw12268921850103256530:=0
def tw4897873757940891798:=0
def tw672117312661482644:=0
def tw15133130210126584800:=0
def tw3197183372762484209:=0
def tw9746086355100485101:=0
def tw10101794954537994369:=0
def tw11591768372016128528:=0
def tw14519913226748100069:=0
def tw18007928680946883397:=0
def tw11762209444291245941:=0
def tw12970172458830237295:=0
def tw6883920025930017788:=0
def tw2820682710247602396:=0
def tw6803745498245672459:=0
def tw5958768704619497837:=0
def tw4658680509596886511:=0
def tw12545525081145337487:=0
def tw10835314854358807147:=0
def tw2850041509808140338:=0
def tw9430244194206751289:=0
def tw13141686749376634133:=0
def tw14751836043415103862:=0
def tw14632140016486793947:=0
def tw9995648700322928837:=0
def tw11075672987233205949:=0
def tw14207068489447034656:=0
def tw16175570566888044286:=0
def tw16921848418637668316:=0
def tw345169583169389580:=0
def tw4513601680682785907:=0
def tw4071872258443789518:=0
def tw11392318856640315019:=0
def tw8765394652828135615:=0
def tw17270453686475290695:=0
def tw9985391622102864398:=0
def tw6129446842075032345:=0
def tw15646941444357892425:=0
def tw11824738983275530912:=0
def tw8112910407370786604:=0
def tw6796478714634257425:=0
def tw4245035384225990625:=0
def tw145350982823860973:=0
def tw13521967815159970897:=0
def tw11671157495178558113:=0
def tw16520050768424219064:=0
def tw11593451980958867711:=0
def tw17579571917233300017:=0
def tw12563479008449402739:=0
def tw11122454423236596718:=0
def tw13066933999658510532:=0
def tw15006752341354283366:=0
def tw4887225135541440227:=0
def tw4646250420924793970:=0
def tw4514737266335878604:=0
def tw14655505437195603956:=0
def tw1199860355333569690:=0
def tw13717936277753914249:=0
def tw3168685986181278376:=0
def tw9978201862794934818:=0
def tw9763808931477209698:=0
def tw18170612394071455112:=0
def tw3707426932208363176:=0
def tw17397958662145101899:=0
def tw13534561910328865899:=0
def tw16745424373449778647:=0
def tw1627178657767746834:=0
def tw13366188803584117309:=0
def tw5371944193940260101:=0
def tw7828249015136936513:=0
def tw717827663865714134:=0
def tw10649956810295811975:=0
def tw4473377176978009806:=0
def tw17142849865432083390:=0
def tw389576517204868103:=0
def tw9433907577264070859:=0
def tw9060569683616181046:=0
def tw4263584850346900217:=0
def tw7544831445001071511:=0
def tw5537842532534303505:=0
def tw3766798106159217632:=0
def tw17139543883340857504:=0
def tw14970601217575107340:=0
def tw14952802857709186114:=0
def tw10884018205173027543:=0
def tw5407973064199299720:=0
def tw2936354481161504743:=0
def tw16278941868011958828:=0
def tw14904858750892159687:=0
def tw13139797837930231096:=0
def tw10014918224349601233:=0
def tw14797419845090238785:=0
def tw10487232895817585804:=0
def tw15324520528490690911:=0
def tw1994247614835837235:=0
def tw5900406739547090397:=0
def tw9886113970354976531:=0
def tw12455235225723730718:=0
def tw13658482543597289314:=0
def tw9359976341491399441:=0
def tw629647732773491866:=0
def tw2387924309843621477:=0
def tw2906760051933673379:=0
def tw2512572314983087481:=0
def tw9743391087869591434:=0
def tw2409571219625354769:=0
def tw2990231714396937188:=0
def tw5504805697828887950:=0
def tw2957947288148339176:=0
def tw8095590692468042327:=0
def tw1821837646707130895:=0
def tw5408107183975546364:=0
def tw15795444785653782815:=0
def tw11031584038540002205:=0
def tw9062282134448802732:=0
def tw5866138953142828864:=0
def tw16690385230807956007:=0
def tw10699214796171257060:=0
def tw8686725301575592490:=0
def tw16908082467426737017:=0
def tw6338742388503043095:=0
def tw5607387449975062531:=0
def tw4875065798854448278:=0
def tw3996118677210398824:=0
def tw1856473362418163359:=0
def tw18227066710404213173:=0
def tw1658772391357220218:=0
def tw16246762790139346271:=0
def tw15521665569380538103:=0
def tw15219013322459288216:=0
def tw11173455288519293859:=0
def tw9533006599518340134:=0
def tw11127110464222657607:=0
def tw9856854617523535384:=0
def tw9723052113204664049:=0
def tw97075088172169713:=0
def tw9337799570531698545:=0
def tw8832164569932883368:=0
def tw8760910843808544248:=0
def tw8283352006683519504:=0
def tw8281836562845035073:=0
def tw7669351968416766003:=0
def tw7606573170735948246:=0
def tw7370498415467333278:=0
def tw7267177435254114112:=0
def tw7051706112261299235:=0
def tw649433987097353436:=0
def tw5965409005032929737:=0
def tw5866826662756317521:=0
def tw5523058812970652987:=0
def tw5246377342422500195:=0
def tw4880500717678247193:=0
def tw4553987841886541398:=0
def tw4201393006969968853:=0
def tw3868546280668089692:=0
def tw3838543500383834217:=0
def tw348080533986613066:=0
def tw346485054045035905:=0
def tw3449871366801742230:=0
def tw3101089407494157613:=0
def tw2965690490570445405:=0
def tw2932391376226873731:=0
def tw2858811570202745890:=0
def tw199535639451861591:=0
def tw1990579256444256017:=0
def tw1983452933807599200:=0
def tw18300750640919240848:=0
def tw18106452322739993979:=0
def tw17672759177350489104:=0
def tw17582705698744293362:=0
def tw17220451968207700359:=0
def tw17099626770355742379:=0
def tw16887020977339602642:=0
def tw16640028576538017480:=0
def tw16450309442564073352:=0
def tw1644446626349245731:=0
def tw1629673372344213017:=0
def tw15992967706272841147:=0
def tw15947350264015758962:=0
def tw15678472114215114092:=0
def tw15632147007218484121:=0
def tw15234119802508033244:=0
def tw15224826591134037218:=0
def tw15204444463657067126:=0
def tw15163521249564549496:=0
def tw15159348782334479418:=0
def tw1508138279572195270:=0
def tw15061128026806997107:=0
def tw14520789395006207271:=0
def tw14367799642633968487:=0
def tw14333658120147290357:=0
def tw13859077882766886687:=0
def tw13530713335554249896:=0
def tw13233446384038009076:=0
def tw12821775642038291326:=0
def tw12622238402783607468:=0
def tw12542445283668676032:=0
def tw12202333193258823716:=0
def tw12201359089366713969:=0
def tw11848516635234274669:=0
def tw11798103802137241232:=0
def tw11037504708856281650:=0
def tw10695652068549885405:=0
def tw10478881259608371580:=0
def tw10232271066893618930:=0
def tw8553515944599574018:=0
def tw11852351267652095449:=0
def tw955436963311913868:=0
def tw9709469676466066683:=0
def tw9227350625672914635:=0
def tw8941888833893005655:=0
def tw8639714179908933740:=0
def tw7714880474398076522:=0
def tw6776920394585395248:=0
def tw6567207934763395804:=0
def tw5829517841470011179:=0
def tw5784054626122536805:=0
def tw5632749063529879211:=0
def tw5296009438342158798:=0
def tw4638827294058252882:=0
def tw4232069308199099709:=0
def tw2599187626351615764:=0
def tw18202160413967643637:=0
def tw17243180503115238257:=0
def tw17192226605928960421:=0
def tw16237460812516301670:=0
def tw14626746934663047162:=0
def tw14609398904031195481:=0
def tw13305813413230145253:=0
def tw13238760970479350114:=0
def tw8364994764082034231:=0
def tw832852751811399301:=0
def tw13607539428727826521:=0
def tw13227929715081954182:=0
def tw11404407037471184716:=0
def tw1362516613192474972:=0
def tw1038638653690599580:=0
def tw6084903945239563902:=0
end PySem.W.Fast
set_option maxRecDepth 100000 in
set_option maxHeartbeats 0 in
theorem PySem.Challenge.cw_contactnets_k96_names_and_order_at_a_des_holds : PySem.Challenge.rw_contactnets_k96_names_and_order_at_a_des.Holds := by
 w_on; o_law; k_head; (case hw=>w_witness2)
 k_fill
 refine Lake.walk_ev (L:=3*40) (l:=PySem.Challenge.rw_contactnets_k96_names_and_order_at_a_des) rfl rfl ⟨rfl,by decide,by decide,rfl⟩ (fun w h Y=>PySem.W.kIn_of Y) ?F
 case F =>
  intro w mg fa h KX G hmg
  refine' Internal.all_mk KX G hmg (Internal.mkDF ?a1 ?l1 ?c1 ?k1) (Internal.mkDF ?a2 ?l2 ?c2 ?k2) (Internal.mkDF ?a3 ?l3 ?c3 ?k3) (Internal.mkDF ?a4 ?l4 ?c4 ?k4) (Internal.mkDF ?a5 ?l5 ?c5 ?k5) (Internal.mkDF ?a6 ?l6 ?c6 ?k6) (Internal.mkDF ?a7 ?l7 ?c7 ?k7) (Internal.mkDF ?a8 ?l8 ?c8 ?k8) (Internal.mkDF ?a9 ?l9 ?c9 ?k9) (Internal.mkDF ?a10 ?l10 ?c10 ?k10) (Internal.mkDF ?a11 ?l11 ?c11 ?k11) (Internal.mkDF ?a12 ?l12 ?c12 ?k12) (Internal.mkDF ?a13 ?l13 ?c13 ?k13) (Internal.mkDF ?a14 ?l14 ?c14 ?k14) (Internal.mkDF ?a15 ?l15 ?c15 ?k15) (Internal.mkDF ?a16 ?l16 ?c16 ?k16) (Internal.mkDF ?a17 ?l17 ?c17 ?k17) (Internal.mkDF ?a18 ?l18 ?c18 ?k18) (Internal.mkDF ?a19 ?l19 ?c19 ?k19) (Internal.mkDF ?a20 ?l20 ?c20 ?k20) (Internal.mkDF ?a21 ?l21 ?c21 ?k21) (Internal.mkDF ?a22 ?l22 ?c22 ?k22) (Internal.mkDF ?a23 ?l23 ?c23 ?k23) (Internal.mkDF ?a24 ?l24 ?c24 ?k24) (Internal.mkDF ?a25 ?l25 ?c25 ?k25) (Internal.mkDF ?a26 ?l26 ?c26 ?k26) (Internal.mkDF ?a27 ?l27 ?c27 ?k27) (Internal.mkDF ?a28 ?l28 ?c28 ?k28) (Internal.mkDF ?a29 ?l29 ?c29 ?k29) (Internal.mkDF ?a30 ?l30 ?c30 ?k30) (Internal.mkDF ?a31 ?l31 ?c31 ?k31) (Internal.mkDF ?a32 ?l32 ?c32 ?k32) (Internal.mkDF ?a33 ?l33 ?c33 ?k33) (Internal.mkDF ?a34 ?l34 ?c34 ?k34) (Internal.mkDF ?a35 ?l35 ?c35 ?k35) (Internal.mkDF ?a36 ?l36 ?c36 ?k36) (Internal.mkDF ?a37 ?l37 ?c37 ?k37) (Internal.mkDF ?a38 ?l38 ?c38 ?k38) (Internal.mkDF ?a39 ?l39 ?c39 ?k39) (Internal.mkDF ?a40 ?l40 ?c40 ?k40) (Internal.mkDF ?a41 ?l41 ?c41 ?k41) (Internal.mkDF ?a42 ?l42 ?c42 ?k42) (Internal.mkDF ?a43 ?l43 ?c43 ?k43) (Internal.mkDF ?a44 ?l44 ?c44 ?k44) (Internal.mkDF ?a45 ?l45 ?c45 ?k45) (Internal.mkDF ?a46 ?l46 ?c46 ?k46) (Internal.mkDF ?a47 ?l47 ?c47 ?k47) (Internal.mkDF ?a48 ?l48 ?c48 ?k48) (Internal.mkDF ?a49 ?l49 ?c49 ?k49) (Internal.mkDF ?a50 ?l50 ?c50 ?k50) (Internal.mkDF ?a51 ?l51 ?c51 ?k51) (Internal.mkDF ?a52 ?l52 ?c52 ?k52) (Internal.mkDF ?a53 ?l53 ?c53 ?k53) (Internal.mkDF ?ta ?tl ?tc ?tk) ⟨?z1,?z2,?z3,?z4,?z5,?z6,?z7,?z8,?z9,?z10,?z11,?z12,?z13,?z14,?z15,?z16,?z17,?z18,?z19,?z20,True.intro⟩ ?tx ?xk ?xs ?xg ?xn ?xv ?xi ?aC (Internal.mkMF ?ma0 ?mi0 ?ml0 ?mc0 ?mk0) (Internal.mkMF ?ma1 ?mi1 ?ml1 ?mc1 ?mk1) (Internal.mkMF ?ma2 ?mi2 ?ml2 ?mc2 ?mk2) ?pg ?hd ?po ?sa ?mk ?kc ?nK ?fN ?fB ?fH
  case a1 | l1 | c1 | k1 | a2 | l2 | c2 | k2 | a3 | l3 | c3 | k3 | a4 | l4 | c4 | k4 | a5 | l5 | c5 | k5 | a6 | l6 | c6 | k6 | a7 | l7 | c7 | k7 | a8 | l8 | c8 | k8 | a9 | l9 | c9 | k9 | a10 | l10 | c10 | k10 | a11 | l11 | c11 | k11 | a12 | l12 | c12 | k12 | a13 | l13 | c13 | k13 | a14 | l14 | c14 | k14 | a15 | l15 | c15 | k15 | a16 | l16 | c16 | k16 | a17 | l17 | c17 | k17 | a18 | l18 | c18 | k18 | a19 | l19 | c19 | k19 | a20 | l20 | c20 | k20 | a21 | l21 | c21 | k21 | a22 | l22 | c22 | k22 | a23 | l23 | c23 | k23 | a24 | l24 | c24 | k24 | a25 | l25 | c25 | k25 | a26 | l26 | c26 | k26 | a27 | l27 | c27 | k27 | a28 | l28 | c28 | k28 | a29 | l29 | c29 | k29 | a30 | l30 | c30 | k30 | a31 | l31 | c31 | k31 | a32 | l32 | c32 | k32 | a33 | l33 | c33 | k33 | a34 | l34 | c34 | k34 | a35 | l35 | c35 | k35 | a36 | l36 | c36 | k36 | a37 | l37 | c37 | k37 | a38 | l38 | c38 | k38 | a39 | l39 | c39 | k39 | a40 | l40 | c40 | k40 | a41 | l41 | c41 | k41 | a42 | l42 | c42 | k42 | a43 | l43 | c43 | k43 | a44 | l44 | c44 | k44 | a45 | l45 | c45 | k45 | a46 | l46 | c46 | k46 | a47 | l47 | c47 | k47 | a48 | l48 | c48 | k48 | a49 | l49 | c49 | k49 | a50 | l50 | c50 | k50 | a51 | l51 | c51 | k51 | a52 | l52 | c52 | k52 | a53 | l53 | c53 | k53 | ta | tl | tc | tk | z1 | z2 | z3 | z4 | z5 | z6 | z7 | z8 | z9 | z10 | z11 | z12 | z13 | z14 | z15 | z16 | z17 | z18 | z19 | z20=>k_is
  case tx=>kernel_rfl
  case xg | xv | xi=>k_is
  case xk | xs | xn=>kernel_rfl
  case aC | ma0 | mi0 | ml0 | mc0 | mk0 | ma1 | mi1 | ml1 | mc1 | mk1 | ma2 | mi2 | ml2 | mc2 | mk2 | pg | hd | po | sa | mk | kc | nK | fN=>k_is
  case fB | fH=>kernel_rfl
