import PyProof.Rows.All
import Wide.All
import OpenK.AllK
import Lean
import PySem.Challenge.RW_contactnets_k53_papers_told
set_option Elab.async false
set_option linter.all false
set_option genSizeOf false
set_option compiler.extract_closed false
set_option bootstrap.genMatcherCode false
set_option maxRecDepth 100000
set_option maxHeartbeats 1000000
open List renaming getElem?_append_right→qA0,getElem?_eq_some_iff→qA1,length_map→qA3,getElem?_eq_getElem→qA6,getElem?_append_left→qA8,mem_cons→qA9,getElem?_map→qB2,size_toArray→qB5,mem_of_getElem?→qB6,mem_singleton→qB8,mem_append→qB9,append_assoc→qC0,length_append→qC1,pairwise_append→qC2,length_cons→qC3,mem_append_right→qC4,map_cons→qC7,map_map→qC8,getElem?_set_self→qC9,mem_cons_of_mem→qD0,take_append_drop→qD1,all_eq_true→qD2,not_mem_nil→qD3,length_range→qD4,getElem?_set_ne→qD5,lookup_cons→qD6,getElem_mem→qD7,getElem?_toArray→qD8,mem_map→qD9,mem_range→qE0,map_append→qE1,getElem?_of_mem→qE2,mem_filter→qE3,pairwise_singleton→qE5,drop_eq_getElem_cons→qE6,replicate→qE7,mem_append_left→qE9,map_congr_left→qF0,nodup_append→qF3,getD→qF4,getElem?_eq_none→qF5,append_nil→qF6,mem_cons_self→qF7,getElem?_cons_succ→qF9,any_cons→qG0,take_sublist→qG1,getD_eq_getElem?_getD→qG3,getElem?_range→qG4,length_set→qG5,cons_append→qG7,filter_cons→qG8,mem_iff_getElem→qH2,getElem?_replicate→qH3,drop_sublist→qH4,filterMap_cons→qH6,take_of_length_le→qH8,length_take→qH9,length_replicate→qI0,perm_append_comm→qI1,mem_of_mem_drop→qI3,mem_of_mem_take→qI4,take_length→qI7,mem_singleton_self→qI8,mem_reverse→qI9,length_eq_zero_iff→qJ0,mem_flatMap→qJ2,range_succ_eq_map→qJ3,nodup_cons→qJ5,length_filter_le→qJ6,perm_ext_iff_of_nodup→qJ7,nodup_range→qJ9,getElem?_zip_eq_some→qK0,all_cons→qK1,pairwise_cons→qK2,length→qK4,reverse_cons→qK6,drop_of_length_le→qK7,pairwise_of_forall_mem_list→qK8,getElem?_inj→qK9,mapM_cons→qL0,ext_getElem?→qL1,pairwise_reverse→qL2,length_drop→qL3,drop_length→qL5,cons→qL6,take_append_of_le_length→qM0,of_mem_zip→qM1,length_nil→qM2,foldl_cons→qM3,length_zip→qM4,nil_append→qM5,range_succ→qM7,getElem_of_mem→qM8,filter_eq_self→qM9,pairwise_iff_getElem→qN3,getElem_drop→qN7,pairwise_map→qN8,getElem?_take_of_lt→qN9,length_erase_of_mem→qO0,filter_eq_nil_iff→qO4,dropLast_eq_take→qO9,drop_drop→qP1,reverse_append→qP6,toList_toArray→qP7,mem_filterMap→qP8,findIdx?_cons→qP9,filterMap_nil→qQ0,zip_cons_cons→qQ2,all_map→qQ4,any_map→qQ5,take_add_one→qQ6,map_nil→qR0,zipIdx_cons→qR3,map_snd_zip→qR4,isEmpty_map→qR5,forIn_cons→qR9,sum_append→qS2,drop_left'→qS3
open Option renaming bind_eq_some_iff→qA2,map_eq_some_iff→qA5,isSome_iff_exists→qI6,bind_some→qL7,isNone_iff_eq_none→qN4,isSome_map→qN5,getD_none→qR1,map_some→qS0
open Nat renaming le_refl→qA7,lt_of_lt_of_le→qB3,ne_of_lt→qB7,le_trans→qC6,lt_succ_of_lt→qF1,zero_le→qF8,lt_of_le_of_lt→qG6,lt_irrefl→qG9,le_of_lt→qH0,ne_of_gt→qH1,pow_le_pow_right→qI5,testBit_succ→qJ1,sub_self→qJ4,lt_succ_self→qJ8,add_sub_cancel_left→qK5,le_add_right→qL4,add_sub_cancel→qN2,le_succ→qN6,le_of_not_lt→qO1,pow_succ→qO3,min_eq_left→qO5,not_lt_zero→qO7,testBit_and→qO8,eq_of_testBit_eq→qP3,testBit_or→qP4,mul_le_mul_right→qP5,and_one_is_mod→qQ3,zero_add→qQ7,succ_ne_self→qR2,succ_le_succ→qR6,le_antisymm→qS1,add_le_add→qS5
open Bool renaming false_ne_true→qB4,and_eq_true→qC5,not_eq_true'→qH5,or_eq_true→qI2,false_and→qP0,and_eq_true_iff→qP2,false_eq_true→qQ1,eq_iff_iff→qR8
open Int renaming toNat_natCast→qF2,emod_lt_of_pos→qK3,emod_nonneg→qM6,fdiv_eq_ediv_of_nonneg→qN1,le_antisymm→qO6,le_trans→qQ9,toNat→qR7
open PySem.Heap renaming get?_push_of_some→qA4,lt_size→qB0,get?_push_size→qB1,get?_update_other→qE4,get?_update_self→qE8,size_push→qG2,SameBut→qH7,get?_none_of_le→qL8,IsList→qL9,IsTuple→qN0,size_update→qO2,get?_push_ne→qQ8,MadeExcOf→qS4
abbrev yA:=List Int
abbrev yB:=List PySem.Value
abbrev yC:=List PySem.Addr
abbrev yD:=List (PySem.Addr × PySem.Obj)
abbrev yE:=List PySem.Expr
abbrev yF:=Option PySem.Value
abbrev yG:=Option Int
abbrev yH:=List PySem.Str
abbrev yI:=List PyProof.Rows.Keyed
abbrev yJ:=Array PySem.Value
abbrev yK:=Option Nat
abbrev yL:=PySem.Value→PySem.Shared→Prop
open PySem renaming wpAny_bind→yO,wpAny_pure→yP,Addr→yR,Shared→yS,Value→yU,model→yW,Spec→yX,Expr→yZ,Program→y4,wpAny→y7,compareOp→y8,mainGlobals→y9,sizeLine→jA,Around→jC,World→jD,Heap→jE,starEach→jG,bootBuiltins→jH,binaryOp→jK,wpAny_mono→jL,wpAny_callSpecial?_slot→jM,wpAny_call_entry→jN,wpAny_holding→jO,assignEach→jP,Scope→jR,NameKind→jS,wpAny_pyIter_tuple→jU,ExceptHandler→jV,FuncData→jW,wpAny_truthy_bool→jX,wpAny_pyIter_list→jY,wpAny_field→j6,wpAny_newObj_type→j9,wpAny_Call_Name_kw→vB,wpAny_typeNameOfWhole_keyiter→vD,foldedSetIterable→vF,cellsFrom→vG,rawInt→vI,Stmt→vK,wpAny_attempt→vM,sysModules→vN,eval→vO,wpAny_rule→vP,wpAny_execs_nil→vT,wpAny_passesOwn→vU,Arguments→vV,codeAny_mono→vW,wpAny_typeOf→vX,mem_of_lookup→vZ,wpAny_seqItems→v0,codeAny→wB,wpAny_setField_rec→wD,swappedStores→wE,sizeLine_eq→wF,wpAny_newFunctionEnv_cells→wG,wpAny_setField→wH,cLine→wK,attributeBase→wM,codeAny_builtin→wN,backTo→wO,tupleKind_room_in1→wQ,PyData→wR,swapsWith→wS,sliceBounds→wU,holding→wW,codeAny_call_function→fA,codeAny_handlers_test→fB,IsPair→fE,wpAny_isInstance→fF,behindInMarks→fH,wpAny_setFlight_none→fL,pushCells_keeps→fN,wpAny_handleBy_cons→fQ,PassesOwn→fU,DictEntry→fV,assign→fX,CmpOp→fY,wpAny_call→fZ,getItem→gD,wpAny_pyIter_enum→gF,wpAny_dictEntries→gG,wpAny_comprehension_free→gJ,wpAny_newList→gK,wpAny_execs_cons→gO,noFill_tuple_add→gP,pushCells→gQ,wpAny_pyIter_zip→gR,codeAmong→gU,wpAny_pyNext_list_item→gZ,IsPart→lA,Keyword→lE,letOwnedTupleGo→lF,wpAny_loadPart'→lG,wpAny_dictEpoch→lH,wpAny_pyNext_list_end→lI,wpAny_isOneOf_keyiter→lJ,wpAny_notOrdered_dict→lK,Paired→lM,wpAny_Expr_any→lO,recursionLimit→lQ,keywordEach→lU,newFunctionEnv→lW,wpAny_updateSeq_pair→lX,preSum→lY,intItems→lZ,codeAny_call_builtin→mC,tupleKind→mE,lastMarks→mF,callerA→mG,noteFrame→mH,wpAny_standAt→mK,swapsWithSole→mL,seq_tuple_add→mM,IsZip→mN,Comprehension→mQ,builtinsNs→mR,PlainAttrs→mS,Model→mU,standAt→mV,Operator→mW,BindsTo→mX,codeAny_func→dA,concat_meets→dC,seqIndex_neg→dD,valueAt→dE,relabel→dF,notedBy→dG,isTrue→dJ,Result→dL,typeOf→dM,stored→dN,seqIndex_of→dP,subscripted→dQ,setItem→dU
open PySem.W renaming Frag→yQ,kitOne→vY,kia_one→wV,cellsFrom_some→fD,tabIn→fI,CodeHd→fM,nsIn→gA,exmOne→gB,fnOf→gI,keepIn→lS,findIn→mB,looks_findIn→mD,callWith_K→mY,codeIn→mZ,codeRec_of→m7
open PyProof.Rows renaming wpS_bind→yT,Keyed→yV,wpS_pure→yY,SortSt→jF,wpS_forRange→jT,callWith_type1→j7,slot_tuple_getitem→vA,wpS_mono→vE,pendingOf→vH,IntsAre→vR,SortKind→wA,seqObj→wI,wpS_modify→wJ,AllBare→fR,wpS_get→fT,wpS_lift→f8,setPending→f9,listUpdate_at→gL,subscriptTail_builtinR→lB,envOfC→lT,entry_tuple_getitem→mI,recsOf→mJ,elem'→mO,reverseSlice'→mP,size_push'→mT,listItems_at→dH,mem_zip_self→dI,IsTup→dO,numOf→dR,seqEpoch_at→dS
open PySem.Builtin renaming bitAnd→jI,bitOr→vC,bitNot→wZ,bitXor→lP
open Array renaming toList_append→jJ,length_toList→vL,getElem?_toList→vS,toList_reverse→fK,size_append→gH
open PySem.Obj renaming data_mapFields→jQ,isFreed_of_fields→jZ,mapFields→j8,mapSeq→wC,cls_mapFields→gE
open PySem.F renaming slot_dict_keyiterator_next→vJ,slot_tuple_iterator_next→vQ,args_tuple_add_2→wL,entry_tuple_add→wT,slot_tuple_add→wY,args_dict_keyiterator_next_1→fG,entry_dict_keyiterator_next→fJ,args_tuple_iterator_next_1→fO,slot_zip_next→fP,entry_tuple_iterator_next→fS,slot_dict_update→gM,plainAttrs_list→gV
open PySem.Calls renaming spliced_cons→wP,spliced_nil→wX,Name_function_global→fW,call_function_entry→gC,callWith_builtin→lC,evalArgs_plain→lV
open Option renaming some→Z9,none→Z8
open Bool renaming true→Z7,false→Z5
namespace L2
open PySem PySem.Spec PyProof.Rows
abbrev YL(x:Str):Prop:=(x == ("__debug__":Str))=Z5
abbrev ZJ:=Sum Int Str
noncomputable def U4:ZJ->yU->Bool
 |.inl k,v=>Value.isInt k v
 |.inr x,v=>Value.isStrOf x v
noncomputable def Mu(w:jD):ZJ->Int
 |.inl k=>hashInt k
 |.inr x=>hashStr w x
theorem U3:∀{k:ZJ}{v:yU},U4 k v=Z7->(∃i t,k=Sum.inl i/\v=Value.int i t)∨(∃x t,k=Sum.inr x/\v=Value.str x t)
 |.inl i,v,h=>by obtain⟨t,e⟩:=Value.isInt_shape h;exact .inl ⟨i,t,rfl,e⟩
 |.inr x,v,h=>by obtain⟨t,e⟩:=Value.isStrOf_shape h;exact .inr ⟨x,t,rfl,e⟩
theorem CH(i:Int)(t:Tok):U4 (.inl i) (.int i t)=Z7:=by simp[U4,Value.isInt]
theorem CG(x:Str)(t:Tok):U4 (.inr x) (.str x t)=Z7:=by simp[U4,Value.isStrOf]
theorem CF(a b:Int):decide ((Sum.inl a:ZJ)=Sum.inl b)=(a == b):=by grind
theorem CD(a b:Str):decide ((Sum.inr a:ZJ)=Sum.inr b)=decide (a=b):=by simp_all
theorem CC(a:Int)(b:Str):decide ((Sum.inl a:ZJ)=Sum.inr b)=Z5:=rfl
theorem Cz(a:Str)(b:Int):decide ((Sum.inr a:ZJ)=Sum.inl b)=Z5:=rfl
noncomputable def Yw(prog:y4)(w:jD):PySem.KeyKind prog w ZJ where
 is:=U4
 hash:=Mu w
 inj:=λv a b f d=>by
  rcases U3 f with⟨i,t,rfl,rfl⟩| ⟨x,t,rfl,rfl⟩
  .rcases U3 d with⟨j,u,rfl,e⟩| ⟨y,u,rfl,e⟩
   .injection e with e1 _;rw[e1]
   .exact nomatch e
  .rcases U3 d with⟨j,u,rfl,e⟩| ⟨y,u,rfl,e⟩
   .exact nomatch e
   .injection e with e1 _;rw[e1]
 byValue:=λk v h=>by rcases U3 h with⟨i,t,rfl,rfl⟩| ⟨x,t,rfl,rfl⟩<;>rfl
 pyHash:=λc h=>by
  rcases U3 c with⟨i,t,rfl,rfl⟩| ⟨x,t,rfl,rfl⟩
  .exact wpAny_pyHash_int h
  .exact wpAny_pyHash_str h
 eqBool:=λg c h=>by
  rcases U3 g with⟨i,t,rfl,rfl⟩| ⟨x,t,rfl,rfl⟩
  .rcases U3 c with⟨j,u,rfl,rfl⟩| ⟨y,u,rfl,rfl⟩
   .rw[CF]at h;exact wpAny_eqBool_int h
   .rw[CC]at h;exact SeqAt.EqAt.int_str i t y u _ _ _ _ h
  .rcases U3 c with⟨j,u,rfl,rfl⟩| ⟨y,u,rfl,rfl⟩
   .rw[Cz]at h;exact SeqAt.EqAt.str_int x t j u _ _ _ _ h
   .rw[CD]at h;exact wpAny_eqBool_str h
 «strs»:=λk x t v h=>by
  rcases U3 h with⟨i,u,rfl,e⟩| ⟨y,u,rfl,e⟩
  .exact nomatch e
  .injection e with e1 _;subst e1;cases v<;>rfl
theorem Cy(prog:y4)(w:jD)(i:Int)(t:Tok):(Yw prog w).is (.inl i) (.int i t)=Z7:=CH i t
theorem Cw(prog:y4)(w:jD)(x:Str)(t:Tok):(Yw prog w).is (.inr x) (.str x t)=Z7:=CG x t
inductive V where
 |non|bl (b:Bool)| int (i:Int)| str (x:Str)| byt (b:Array UInt8)| flt (b:UInt64)| ref (a:yR)| ty (n:String)
 deriving DecidableEq
def ZK:V->yU->Prop
 |.non,u=>u=Value.none
 |.bl b,u=>u=Value.bool b
 |.int i,u=>∃t,u=Value.int i t
 |.str x,u=>∃t,u=Value.str x t
 |.byt b,u=>∃t,u=Value.bytes b t
 |.flt b,u=>∃t,u=Value.float b t
 |.ref a,u=>u=Value.ref a
 |.ty n,u=>u=Value.type n
noncomputable abbrev ZO:List V->yB->Prop:=lM ZK
theorem ZO.length{xs:List V}{a:yB}(r:ZO xs a):xs.length=a.length:=Paired.length r
theorem ZO.get:∀{xs:List V}{a:yB}{i:Nat}{x:V},ZO xs a->xs[i]?=Z9 x->∃u,a[i]?=Z9 u/\ZK x u
 |_,_,_,_,.nil,e=>by simp at e
 |_,_,0,_,.cons r _,e=>by simp at e;subst e;exact⟨_,rfl,r⟩
 |_,_,i+1,x,.cons _ t,e=>by obtain⟨u,c,b⟩:=ZO.get t (by simpa using e);exact⟨u,by simpa using c,b⟩
theorem ZO.set{x:V}{u:yU}(r:ZK x u):∀{xs:List V}{a:yB} (i:Nat),ZO xs a->ZO (xs.set i x) (a.set i u)
 |_,_,_,.nil=>.nil
 |_,_,0,.cons _ t=>.cons r t
 |_,_,i+1,.cons q t=>.cons q (ZO.set r i t)
theorem ZO.append:∀{xs ys:List V}{a b:yB},ZO xs a->ZO ys b->ZO (xs++ys) (a++b)
 |_,_,_,_,.nil,s=>s
 |_,_,_,_,.cons r t,s=>.cons r (ZO.append t s)
theorem ZO.take:∀{xs:List V}{a:yB} (n:Nat),ZO xs a->ZO (xs.take n) (a.take n)
 |_,_,0,_=>.nil
 |_,_,_+1,.nil=>.nil
 |_,_,n+1,.cons r t=>.cons r (ZO.take n t)
theorem ZO.drop:∀{xs:List V}{a:yB} (n:Nat),ZO xs a->ZO (xs.drop n) (a.drop n)
 |_,_,0,r=>r
 |_,_,_+1,.nil=>.nil
 |_,_,n+1,.cons _ t=>ZO.drop n t
def Xe:Option V->yF->Prop
 |some v,Z9 u=>ZK v u
 |none,Z8=>True
 |_,_=>False
def KV{a:Type}:List (a×V)->List (a×yU)->Prop:=lM fun(p:a×V) (q:a×yU)=>p.1=q.1/\ZK p.2 q.2
noncomputable def kV:ZJ->V
 |.inl i=>.int i
 |.inr x=>.str x
inductive HO where
 /-- a list -/
 |lst (xs:List V)
 /-- a tuple (never changes) -/
 |tup (xs:List V)
 /-- a dict whose keys are ints and texts;one whose keys are tuples of ints and texts (the empty one is both) -/
 |dK (kvs:List (ZJ×V))| dT (kvs:List (List ZJ×V))
 /-- a set of ints: its members,its size -/
 |set (S:Int->Bool) (n:Nat)
 /-- an instance of the class at C,its dict at dx,its attributes -/
 |ins (C dx:yR) (fs:List (Str×V))
 /-- the dict of the instance at x -/
 |own (x:yR)
 /-- the dict of an exception -/
 |xd (fs:List (Str×V))
 /-- a bound method,f of x -/
 |met (f x:yR)
 /-- a range object lo,lo+1,.. below hi -/
 |rng (lo hi:Int)
 /-- a thing that is known to the object (the script;a dict while a loop walks it): read,never written while it is so -/
 |frz (o:Obj) (u:HO)
 /-- a code object's table -/
 |tbl (ps:yJ)
 /-- any other thing,by what is Z7 of its one object (a def of one's own: SetO a S n:=HO.ext λh=>..) -/
 |ext (φ:jE->Prop)
abbrev Hp:=yR->Option HO
noncomputable def ZD(H:Hp)(a:yR)(o:HO):Hp:=λb=>if b=a then Z9 o else H b
theorem XA{H:Hp}{a:yR}{o:HO}:ZD H a o a=Z9 o:=by unfold ZD;rw[if_pos rfl]
theorem Za{H:Hp}{a b:yR}{o:HO}(h:b≠a):ZD H a o b=H b:=by unfold ZD;rw[if_neg h]
theorem Cv{H:Hp}{a b:yR}{o u:HO}(h:H a=Z9 o)(h':H b=Z9 u)(d:o≠u):a≠b:=by grind
theorem U2{H:Hp}{a b:yR}{o:HO}(h:H a=Z9 o)(h':H b=Z8):a≠b:=by grind
section
variable (P:y4) (w:jD)
def Xd(H:Hp)(h:jE)(a:yR):HO->Prop
 |.lst d=>d.length<=jA/\∃(b:yB) (n:Nat),ZO d b/\h.get? a=Z9 { cls:=.type "list",data:=.seq b.toArray n }
 |.tup d=>d.length<=jA/\∃b:yB,ZO d b/\dO h a b.toArray
 |.dK c=>c.length<=jA/\(a == vN)=Z5/\∃l,KV c l/\h.DictOf (Yw P w) a l
 |.dT c=>c.length<=jA/\(a == vN)=Z5/\∃d:List (List ZJ×yR×yU),
   lM (fun(p:List ZJ×V) (q:List ZJ×yR×yU)=>p.1=q.1/\H q.2.1=Z9 (.tup (p.1.map kV))/\ZK p.2 q.2.2) c d /\
   ∃o m s,h.get? a=Z9 o/\o.ExactDict/\o.data=.dict m s/\m.toList=d.map (entryOfKey (mE (Yw P w)))/\(d.map (·.1)).Nodup
 |.set S n=>h.SetOf (intKind P w) a S n
 |.ins C g fs=>H g=Z9 (.own a)/\fs.length<=1000/\g≠a/\h.get? a=Z9 (W.instObj C g) /\
   ∃e,h.Ns1 g e/\(∀f,Xe (fs.lookup f) (e f))/\PySem.Within e (fs.map (·.1))
 |.own _=>∃o,h.get? a=Z9 o
 |.xd fs=>∃e,h.Ns1 a e/\∀f,Xe (fs.lookup f) (e f)
 |.rng y z=>∃t u v,h.get? a=Z9 { cls:=.type "range",data:=.fields #[.int y t,.int z u,.int 1 v] }
 |.frz o u=>h.get? a=Z9 o/\Xd H h a u
 |.tbl r=>h.get? a=Z9 { cls:=.none,data:=.fields r }
 |.met f x=>h.get? a=Z9 (W.methodObj (.ref f) (.ref x))
 |.ext i=>i h/\(∃o,h.get? a=Z9 o)/\∀j k:jE,i j->(∀o,j.get? a=Z9 o->k.get? a=Z9 o)->i k
def Yt(H:Hp)(h:jE):Prop:=∀a o,H a=Z9 o->Xd P w H h a o
end
section
variable {P:y4}{w:jD}{H H':Hp}{h h':jE}{a:yR}{o:HO}
theorem Xd.lt(x:Xd P w H h a o):a<h.objs.size:=by
 cases o with
 |lst c=>obtain⟨_,_,_,_,e⟩:=x;exact qB0 e
 |tup c=>obtain⟨_,_,_,p⟩:=x;exact p.lt
 |dK b=>obtain⟨_,_,_,_,o,_,_,e,_⟩:=x;exact qB0 e
 |dT b=>obtain⟨_,_,_,_,o,_,_,e,_⟩:=x;exact qB0 e
 |set S n=>obtain⟨o,_,_,_,e,_⟩:=x;exact qB0 e
 |ins C k fs=>obtain⟨_,_,_,e,_⟩:=x;exact qB0 e
 |own y=>obtain⟨_,e⟩:=x;exact qB0 e
 |xd fs=>obtain⟨_,⟨_,_,_,e,_⟩,_⟩:=x;exact qB0 e
 |rng i g=>obtain⟨_,_,_,e⟩:=x;exact qB0 e
 |frz d u=>obtain⟨e,_⟩:=x;exact qB0 e
 |tbl l=>exact qB0 (x)
 |met f y=>exact qB0 (x)
 |ext j=>obtain⟨_,⟨_,e⟩,_⟩:=x;exact qB0 e
theorem Paired.mapP{α c:Type}{F G:α->c->Prop}:∀{l₁:List α}{l₂:List c},lM F l₁ l₂->(∀a b,F a b->G a b)->lM G l₁ l₂
 |_,_,.nil,_=>.nil
 |_,_,.cons r t,f=>.cons (f _ _ r) (Paired.mapP t f)
theorem Xd.stay(x:Xd P w H h a o)(k:∀b u,(b=a∨H b=Z9 (.own a))->h.get? b=Z9 u->h'.get? b=Z9 u)
  (E:∀b,H b=Z9 (.own a)->H' b=Z9 (.own a)) (ht:∀b xs,H b=Z9 (.tup xs)->H' b=Z9 (.tup xs)):Xd P w H' h' a o:=by
 induction o with
 |lst xs=>obtain⟨z,l,n,r,e⟩:=x;exact⟨z,l,n,r,k _ _ (.inl rfl) e⟩
 |tup xs=>obtain⟨z,l,r,g,e,c⟩:=x;exact⟨z,l,r,g,k _ _ (.inl rfl) e,c⟩
 |dK A=>obtain⟨z,y,D,r,g,j,i,e,c⟩:=x;exact⟨z,y,D,r,g,j,i,k _ _ (.inl rfl) e,c⟩
 |dT A =>
  obtain⟨z,y,xs,r,g,j,i,e,c⟩:=x;exact⟨z,y,xs,Paired.mapP r λp q z=>⟨z.1,ht _ _ z.2.1,z.2.2⟩,g,j,i,k _ _ (.inl rfl) e,c⟩
 |set S n=>obtain⟨g,j,i,t,e,c⟩:=x;exact⟨g,j,i,t,k _ _ (.inl rfl) e,c⟩
 |ins C G fs =>
  obtain⟨d,z,ne,e,s,⟨m,j,i,B,c⟩,r⟩:=x;exact⟨E _ d,z,ne,k _ _ (.inl rfl) e,s,⟨m,j,i,k _ _ (.inr d) B,c⟩,r⟩
 |own y=>obtain⟨g,e⟩:=x;exact⟨g,k _ _ (.inl rfl) e⟩
 |xd fs=>obtain⟨s,⟨m,j,i,e,c⟩,r⟩:=x;exact⟨s,⟨m,j,i,k _ _ (.inl rfl) e,c⟩,r⟩
 |rng J L=>obtain⟨t,u,v,e⟩:=x;exact⟨t,u,v,k _ _ (.inl rfl) e⟩
 |frz g u F=>obtain⟨e,q⟩:=x;exact⟨k _ _ (.inl rfl) e,F q⟩
 |tbl I =>
  have e:=x;exact k a _ (.inl rfl) e
 |met f y =>
  have e:=x;exact k a _ (.inl rfl) e
 |ext K=>obtain⟨p,⟨o,e⟩,st⟩:=x;exact⟨st _ _ p λo q=>k _ _ (.inl rfl) q,⟨o,k _ _ (.inl rfl) e⟩,st⟩
theorem Yt.lt(x:Yt P w H h)(e:H a=Z9 o):a<h.objs.size:=(x a o e).lt
theorem Yt.fresh(x:Yt P w H h)(e:h.objs.size<=a):H a=Z8:=by
 cases q:H a with
 |none=>rfl
 |some u=>exact absurd (qB3 (x.lt q) e) (qG9 _)
theorem Yt.kept(x:Yt P w H h)(k:∀b u,h.get? b=Z9 u->h'.get? b=Z9 u):Yt P w H h':=λa o e =>
 (x a o e).stay (λb u _ q=>k b u q) (λ_ q=>q) λ_ _ q=>q
theorem Yt.laid(x:Yt P w H h)(k:∀b u,h.get? b=Z9 u->h'.get? b=Z9 u)(i:h.objs.size<=a)(d:Xd P w (ZD H a o) h' a o):Yt P w (ZD H a o) h':=λb u e=>by
 have g:=x.fresh i;by_cases f:b=a
 .subst f;rw[XA]at e;cases e;exact d
 .rw[Za f]at e;exact(x b u e).stay (λc v _ q=>k c v q) (λc q=>by rw[Za (U2 q g)];exact q) λc j q=>by rw[Za (U2 q g)];exact q
end
def Rd(H:Hp)(a:yR)(u:HO):Prop:=H a=Z9 u∨∃o,H a=Z9 (.frz o u)
theorem Rd.ok{P:y4}{w:jD}{H:Hp}{h:jE}{a:yR}{u:HO}(r:Rd H a u)(x:Yt P w H h):Xd P w H h a u:=by
 rcases r with r|⟨o,r⟩
 .exact x a u r
 .obtain⟨_,q⟩:=x a _ r;exact q
def R1:Option HO->Prop
 |some (.lst _)=>True
 |some (.dK _)=>True
 |some (.dT _)=>True
 |some (.set _ _)=>True
 |some (.ins _ _ _)=>True
 |some (.ext _)=>True
 |_=>False
section
variable {P:y4}{w:jD}{H:Hp}{h h':jE}{x e:yR}{o':HO}
theorem Yt.write(ok:Yt P w H h)(i:R1 (H x))(he:e=x∨H e=Z9 (.own x))(k:∀b u,b≠e->h.get? b=Z9 u->h'.get? b=Z9 u)(n:∃u,h'.get? e=Z9 u)
  (m:Xd P w (ZD H x o') h' x o'):Yt P w (ZD H x o') h':=λb u q=>by
 have d:∀c y,H c=Z9 (.own y)->c≠x:=λc y r z=>by subst z;rw[r]at i;exact i
 have f:∀c g,H c=Z9 (.tup g)->c≠x:=λc g r z=>by subst z;rw[r]at i;exact i
 by_cases l:b=x
 .subst l;rw[XA]at q;cases q;exact m
 .rw[Za l]at q;by_cases a:b=e
  .have o:H b=Z9 (.own x):=by
    rcases he with z|z
    .exact absurd (a.trans z) l
    .rw[a];exact z
   rw[q]at o;cases o;obtain⟨v,p⟩:=n;exact⟨v,by rw[a];exact p⟩
  .refine(ok b u q).stay (λc v j r=>k c v ?_ r) (λc r=>by rw[Za (d c b r)];exact r) λc g r=>by rw[Za (f c g r)];exact r
   rcases j with rfl|j
   .exact a
   .rintro rfl;rcases he with z|z
    .exact d c b j z
    .simp_all
end
structure Un(fs ex:yC)(H H':Hp)(h h':jE):Prop where
 keep:∀b o,h.get? b=Z9 o->H b=Z8->b∉fs->b∉ex->h'.get? b=Z9 o
 slot:∀b o,h.get? b=Z9 o->H b=Z8->b∈fs->b∉ex->∃sl,h'.get? b=Z9 { o with slots:=sl }
 free:∀b o,h.get? b=Z9 o->H b=Z8->b∉ex->H' b=Z8
 there:∀b o,h.get? b=Z9 o->b∉ex->∃o',h'.get? b=Z9 o'
 tups:∀b xs,H b=Z9 (.tup xs)->H' b=Z9 (.tup xs)
 frzs:∀b o u,H b=Z9 (.frz o u)->H' b=Z9 (.frz o u)
 tbls:∀b ps,H b=Z9 (.tbl ps)->∃more,H' b=Z9 (.tbl (ps++more))
section
variable {fs fs' ex ex':yC}{H H1 H2:Hp}{h h1 h2 h':jE}{a x e:yR}{o:HO}
theorem Un.any(u:Un fs ex H H1 h h1){b:yR}{c:Obj}(q:h.get? b=Z9 c)(n:H b=Z8)(d:b∉ex):∃g,h1.get? b=Z9 { c with slots:=g }:=by
 by_cases f:b∈fs
 .exact u.slot b c q n f d
 .exact⟨c.slots,u.keep b c q n f d⟩
theorem Un.kept(k:∀b u,h.get? b=Z9 u->h'.get? b=Z9 u):Un fs ex H H h h' :=
 ⟨λb c q _ _ _=>k b c q,λb c q _ _ _=>⟨c.slots,k b c q⟩,λ_ _ _ n _=>n,λb c q _=>⟨c,k b c q⟩,λ_ _ q=>q,λ_ _ _ q=>q,λ_ d q=>⟨#[],by rw[q];simp⟩⟩
theorem Un.refl:Un fs ex H H h h:=Un.kept λ_ _ q=>q
theorem Un.laid(k:∀b u,h.get? b=Z9 u->h'.get? b=Z9 u)(d:h.objs.size<=a)(c:H a=Z8):Un fs ex H (ZD H a o) h h' where
 keep:=λb u q _ _ _=>k b u q
 slot:=λb u q _ _ _=>⟨u.slots,k b u q⟩
 free:=λb u q n _=>by rw[Za (qB7 (qB3 (qB0 q) d))];exact n
 there:=λb u q _=>⟨u,k b u q⟩
 tups:=λb f q=>by rw[Za (U2 q c)];exact q
 frzs:=λb u f q=>by rw[Za (U2 q c)];exact q
 tbls:=λb g q=>⟨#[],by rw[Za (U2 q c),q];simp⟩
theorem Un.write(d:R1 (H x))(he:e=x∨H e=Z9 (.own x))(k:∀b u,b≠e->h.get? b=Z9 u->h'.get? b=Z9 u)(g:∃u,h'.get? e=Z9 u):Un fs ex H (ZD H x o) h h':=by
 have i:∀b,H b=Z8->b≠x:=λb n z=>by subst z;rw[n]at d;exact d
 have j:∀b,H b=Z8->b≠e:=λb n z=>by
  subst z;rcases he with r|r
  .exact i b n r
  .rw[n]at r;cases r
 have f:∀b u,H b=Z9 u->¬R1 (Z9 u)->b≠x:=λb u q l z=>by subst z;rw[q]at d;exact l d
 refine⟨λb u q n _ _=>k b u (j b n) q,λb u q n _ _=>⟨u.slots,k b u (j b n) q⟩,λb u q n _=>by rw[Za (i b n)];exact n,λb u q _=>?_,
  λb m q=>by rw[Za (f b _ q λz=>z)];exact q,λb u m q=>by rw[Za (f b _ q λz=>z)];exact q,λb p q=>⟨#[],by rw[Za (f b _ q λz=>z),q];simp⟩⟩
 by_cases c:b=e
 .subst c;exact g
 .exact⟨u,k b u c q⟩
end
noncomputable def OK(h:jE)(H:Hp):yC:=(List.range h.objs.size).filter λa=>(H a).isSome
noncomputable def Xc(h:jE)(H:Hp):Heap:=W.hideAll h (OK h H)
theorem Cu(h:jE)(H:Hp):(Xc h H).objs.size=h.objs.size:=W.hideAll_size _ _
theorem Cs{h:jE}{H:Hp}{b:yR}{o:Obj}(e:h.get? b=Z9 o)(n:H b=Z8):(Xc h H).get? b=Z9 o :=
 W.hideAll_get _ e λa=>by have q:=(qE3.mp a).2;rw[n]at q;simp at q
theorem Cr{h:jE}{H:Hp}{b:yR}{o:Obj}(e:(Xc h H).get? b=Z9 o):h.get? b=Z9 o/\H b=Z8:=by
 have a:=W.of_hideAll (OK h H) e;refine⟨a,?_⟩;cases q:H b with
 |none=>rfl
 |some x =>
  have c:b∈OK h H:=qE3.mpr ⟨qE0.mpr (qB0 a),by simp[q]⟩;have z:(Xc h H).get? b=Z8:=W.hideAll_none (OK h H) c;rw[z]at e;cases e
noncomputable def Cq(g h:jE)(L:yR):yD:=(List.range h.objs.size).filterMap λa=>if a=L∨(g.get? a).isSome=Z7 then Z8 else(h.get? a).map λo=>(a,o)
noncomputable def ZG(g h:jE)(L d:yR):yD:=(Cq g h L).filter λp=>decide (p.1≠d)
structure Mod(K:yQ)(mg:Str->yF)(base:jE):Prop where
 kin:K.In base
 glob:base.Ns y9 mg
 blt:∃mb,base.Ns mR mb/\∀x:Str,x ≠ "__name__"->mb x=jH x
 nolimit:base.NoLimit
structure Cx where
 prog:y4
 w:jD
 K:yQ
 mg:Str->yF
 base:jE
 A:jC
 N:yH
 s₀:yS
 H₀:Hp
 env:Env
 outer:List Env
 stack:List Env
 ex:yC
 fn:Str->Bool
 calm:Bool
 pn:yD
 xe:yL
noncomputable def Xl(l:List Env):yC:=l.filterMap (·.frame)
noncomputable abbrev Cx.fs(X:Cx):yC:=Xl X.outer
def VM(a:jR)(x:Str):Prop:=a.names.lookup x=Z9 .local∨a.names.lookup x=Z9 .cell∨a.names.lookup x=Z9 .free
def R0(a:jR)(x:Str):Prop:=a.names.lookup x=Z9 .local∨a.names.lookup x=Z9 .cell
def Ms(env:Env)(h:jE)(m:Str->yF)(x:Str)(u:yU):Prop :=
 (env.kindOf x=Z9 .local/\m x=Z9 u)∨((env.kindOf x=Z9 .cell∨env.kindOf x=Z9 .free)/\∃c,env.cells.lookup x=Z9 c/\h.IsCell c (Z9 u))
structure Cx.Ok(X:Cx):Prop where
 mod:Mod X.K X.mg X.base
 kind:X.env.scope.kind=.function
 glob:X.env.globals=y9
 blt:X.env.builtins=mR
 above:X.s₀.heap.objs.size<=X.env.locals
 inj:∀x y c,X.env.cells.lookup x=Z9 c->X.env.cells.lookup y=Z9 c->x=y
 has:∀x,(X.env.kindOf x=Z9 .cell∨X.env.kindOf x=Z9 .free)->∃c,X.env.cells.lookup x=Z9 c
 cab:∀x c,X.fn x=Z7->X.env.cells.lookup x=Z9 c->X.s₀.heap.objs.size<=c
 hd:X.calm=Z7->X.A.handled=Z8
 frames:X.A.frames=Z9 X.stack
 stk:X.stack=X.outer∨(X.stack=X.env::X.outer/\X.env.frame=Z9 X.env.locals)
 exf:∀b∈X.ex,b≠X.env.locals/\∀x c,X.env.cells.lookup x=Z9 c->c≠b
 bs:∀b o,X.base.get? b=Z9 o->X.s₀.heap.get? b=Z9 o/\X.H₀ b=Z8
 bsz:X.base.objs.size<=X.s₀.heap.objs.size
 noex:∀b o,X.base.get? b=Z9 o->b∉X.ex
 exfs:∀b∈X.ex,b∉X.fs
 funs:X.s₀.heap.FunFrames X.base X.outer
 frf:∀b∈X.fs,X.H₀ b=Z8
structure ZR(X:Cx)(pins:yD)(Z:List (Option V))(H:Hp)(s:yS):Prop where
 ok:X.Ok
 os:s.os=X.s₀.os
 bare:fR s.gens
 base:Un X.fs X.ex X.H₀ H X.s₀.heap s.heap
 loc:∃m,s.heap.Ns X.env.locals m/\∀(i:Nat) (x:Str) (v:V),X.N[i]?=Z9 x->Z[i]?=Z9 (Z9 v)->VM X.env.scope x->∃u,ZK v u/\Ms X.env s.heap m x u
 cell:∀x c,X.env.cells.lookup x=Z9 c->∃v,s.heap.IsCell c v
 free:H X.env.locals=Z8
 freeC:∀x c,X.env.cells.lookup x=Z9 c->H c=Z8
 pin:∀p∈X.pn++pins,s.heap.get? p.1=Z9 p.2/\H p.1=Z8/\p.1≠X.env.locals/\p.1∉X.fs/\∀v,p.2.data≠.cell v
 hok:Yt X.prog X.w H s.heap
 len:Z.length=X.N.length
section
variable {X:Cx}{pins:yD}{Z:List (Option V)}{H H':Hp}{s:yS}{h':jE}
theorem Cx.Ok.nofr(ok:X.Ok){b:yR}{o:Obj}(e:X.base.get? b=Z9 o):b∉X.fs:=λa=>by have:=(ok.funs.mem a).1;rw[e]at this;cases this
theorem ZR.bs(I:ZR X pins Z H s):∀b o,X.base.get? b=Z9 o->s.heap.get? b=Z9 o/\H b=Z8:=λb o e =>
 ⟨I.base.keep b o (I.ok.bs b o e).1 (I.ok.bs b o e).2 (I.ok.nofr e) (I.ok.noex b o e),I.base.free b o (I.ok.bs b o e).1 (I.ok.bs b o e).2 (I.ok.noex b o e)⟩
theorem ZR.bk(I:ZR X pins Z H s):∀b o,X.base.get? b=Z9 o->s.heap.get? b=Z9 o:=λb o e=>(I.bs b o e).1
theorem ZR.mod(I:ZR X pins Z H s):Mod X.K X.mg X.base:=I.ok.mod
theorem ZR.kIn(I:ZR X pins Z H s):X.K.In s.heap:=I.ok.mod.kin.keeps I.bk
theorem ZR.lt(I:ZR X pins Z H s):X.env.locals<s.heap.objs.size:=let ⟨_,hn,_⟩:=I.loc;hn.lt
theorem ZR.sz(I:ZR X pins Z H s):X.s₀.heap.objs.size<=s.heap.objs.size:=qC6 I.ok.above (qH0 I.lt)
theorem ZR.nofs(I:ZR X pins Z H s){a:yR}(h:s.heap.objs.size<=a):a∉X.fs:=λb=>by obtain⟨_,o,c,_⟩:=I.ok.funs.mem b;exact absurd (qB3 (qB0 c) (qC6 I.sz h)) (qG9 _)
theorem ZR.cne(I:ZR X pins Z H s):∀x c,X.env.cells.lookup x=Z9 c->c≠X.env.locals:=λx c e z=>by obtain⟨v,o,f,d⟩:=I.cell x c e;obtain⟨m,⟨i,g,h,b,a,_⟩,_⟩:=I.loc;rw[z,b]at f;cases f;rw[a]at d;cases d
theorem ZR.funs(I:ZR X pins Z H s):s.heap.FunFrames X.base X.outer:=by
 have all:∀l,(∀b∈Xl l,b∈X.fs)->X.s₀.heap.FunFrames X.base l->s.heap.FunFrames X.base l:=by
  intro l
  induction l with
  |nil=>intro _ _;trivial
  |cons k r n =>
   intro f i;obtain⟨hk,⟨L,o,d,h,j,m⟩,g⟩:=i;have c:=f L (by unfold Xl;rw[qH6,d];exact qF7);obtain⟨p,e⟩:=I.base.slot L o j (I.ok.frf L c) c λz=>I.ok.exfs L z c;exact⟨hk,⟨L,_,d,h,e,m⟩,n (λb a=>f b (by unfold Xl;rw[qH6,d];exact qD0 _ a)) g⟩
 exact all X.outer (λ_ a=>a) I.ok.funs
theorem ZR.stack(I:ZR X pins Z H s):s.heap.FunFrames X.base X.stack:=by
 rcases I.ok.stk with e|⟨e,b⟩
 .rw[e];exact I.funs
 .rw[e];obtain⟨m,a,_⟩:=I.loc;refine .cons (by rw[I.ok.kind];decide) b a ?_ I.funs;exact qL8 (qC6 I.ok.bsz I.ok.above)
theorem ZR.stkSub(I:ZR X pins Z H s):∀b∈Xl X.stack,b∈X.env.locals::X.fs:=λb a=>by
 rcases I.ok.stk with e|⟨e,c⟩
 .rw[e]at a;exact qD0 _ a
 .rw[e]at a;unfold Xl at a;rw[qH6,c]at a;exact a
theorem ZR.stkFree(I:ZR X pins Z H s):∀b∈Xl X.stack,H b=Z8:=λb a=>by
 rcases qA9.mp (I.stkSub b a)with e|a
 .rw[e];exact I.free
 .obtain⟨_,o,c,_⟩:=I.ok.funs.mem a;exact I.base.free b o c (I.ok.frf b a) λz=>I.ok.exfs b z a
theorem ZR.step{g':Array GenState}{t':Nat}{d':Drawn}{ch:yC}(I:ZR X pins Z H s)
  (h:∀b∈ch,(b∈X.ex∨X.s₀.heap.objs.size<=b)/\b≠X.env.locals/\(∀x c,X.env.cells.lookup x=Z9 c->c≠b)/\∀p∈X.pn++pins,p.1≠b)
  (keep:∀b o,b≠X.env.locals->b∉X.fs->b∉ch->s.heap.get? b=Z9 o->H b=Z8->h'.get? b=Z9 o)
  (y:∀b o,b≠X.env.locals->b∈X.fs->b∉ch->s.heap.get? b=Z9 o->H b=Z8->∃K,h'.get? b=Z9 { o with slots:=K }) (f:∀b o,b∉ch->s.heap.get? b=Z9 o->H b=Z8->H' b=Z8)
  (A:∀b o,b∉ch->s.heap.get? b=Z9 o->∃o',h'.get? b=Z9 o')
  (F:∀b xs,H b=Z9 (.tup xs)->H' b=Z9 (.tup xs)) (G:∀b o u,H b=Z9 (.frz o u)->H' b=Z9 (.frz o u)) (E:∀b ps,H b=Z9 (.tbl ps)->∃more,H' b=Z9 (.tbl (ps++more)))
  (S:∀m,s.heap.Ns X.env.locals m->h'.Ns X.env.locals m) (N:Yt X.prog X.w H' h') (hg:fR g') :
  ZR X pins Z H' { s with heap:=h',gens:=g',drawn:=d',toks:=t' }:=by
 have J:∀b o,X.s₀.heap.get? b=Z9 o->b≠X.env.locals:=λb o e=>qB7 (qB3 (qB0 e) I.ok.above);have t:∀b o,X.s₀.heap.get? b=Z9 o->b∉X.ex->b∉ch:=λb o e a B=>by
  rcases(h b B).1 with z|z
  .exact a z
  .exact absurd (qB3 (qB0 e) z) (qG9 _)
 have g:∀x c,X.env.cells.lookup x=Z9 c->∀v,s.heap.IsCell c v->h'.IsCell c v:=λx c e v ⟨o,C,M⟩=>by
  have j:=λz=>(h c z).2.2.1 x c e rfl;by_cases P:c∈X.fs
  .obtain⟨K,q⟩:=y c o (I.cne x c e) P j C (I.freeC x c e);exact⟨_,q,M⟩
  .exact⟨o,keep c o (I.cne x c e) P j C (I.freeC x c e),M⟩
 refine⟨I.ok,I.os,hg,⟨λb o e n B a=>?_,λb o e n B a=>?_,λb o e n a=>?_,λb o e a=>?_,λb xs e=>F b xs (I.base.tups b xs e),λb o xs e=>G b o xs (I.base.frzs b o xs e),λb ps e=>?_⟩,?_,λx c e=>?_,?_,λx c e=>?_,λp Q=>?_,N,I.len⟩
 .exact keep b o (J b o e) B (t b o e a) (I.base.keep b o e n B a) (I.base.free b o e n a)
 .obtain⟨K,w⟩:=I.base.slot b o e n B a;obtain⟨L,D⟩:=y b _ (J b o e) B (t b o e a) w (I.base.free b o e n a);exact⟨L,D⟩
 .obtain⟨o',w⟩:=I.base.there b o e a;exact f b o' (t b o e a) w (I.base.free b o e n a)
 .obtain⟨o',w⟩:=I.base.there b o e a;exact A b o' (t b o e a) w
 .obtain⟨R,w⟩:=I.base.tbls b ps e;obtain⟨W,D⟩:=E b _ w;exact⟨R++W,by rw[D,Array.append_assoc]⟩
 .obtain⟨m,T,Y⟩:=I.loc;refine⟨m,S m T,λi x v w D U=>?_⟩;obtain⟨u,r,l⟩:=Y i x v w D U;refine⟨u,r,?_⟩;rcases l with l|⟨k,c,e,z⟩
  .exact .inl l
  .exact .inr ⟨k,c,e,g x c e _ z⟩
 .obtain⟨v,z⟩:=I.cell x c e;exact⟨v,g x c e v z⟩
 .obtain⟨m,⟨o,_,_,C,_⟩,_⟩:=I.loc;exact f _ o (λz=>(h _ z).2.1 rfl) C I.free
 .obtain⟨v,o,C,M⟩:=I.cell x c e;exact f c o (λz=>(h c z).2.2.1 x c e rfl) C (I.freeC x c e)
 .obtain⟨e,n,ne,O,d⟩:=I.pin p Q;have j:=λz=>(h p.1 z).2.2.2 p Q rfl;exact⟨keep p.1 p.2 ne O j e n,f p.1 p.2 j e n,ne,O,d⟩
theorem ZR.un{t':Nat}(I:ZR X pins Z H s)(u:Un X.fs [] H H' s.heap h')(d:Yt X.prog X.w H' h'):ZR X pins Z H' { s with heap:=h',toks:=t' }:=by
 obtain⟨m,⟨o,t,p,h,r⟩,_⟩:=id I.loc;obtain⟨l,k⟩:=u.any h I.free (by simp);exact I.step (g':=s.gens) (d':=s.drawn) (ch:=[]) (λ_ z=>nomatch z) (λb o _ c _ e n=>u.keep b o e n c (by simp)) (λb o _ c _ e n=>u.slot b o e n c (by simp)) (λb o _ e n=>u.free b o e n (by simp)) (λb o _ e=>u.there b o e (by simp)) u.tups u.frzs u.tbls (λv i=>by
  obtain⟨q,f,g,a,j⟩:=i;rw[h]at a;cases a;exact⟨_,f,g,k,j⟩) d I.bare
theorem ZR.call{g':Array GenState}{t':Nat}{d':Drawn}{ch:yC}(I:ZR X pins Z H s)(u:Un (Xl X.stack) ch H H' s.heap h')(h:Yt X.prog X.w H' h')(v:fR g')
  (d:∀b∈ch,(b∈X.ex∨X.s₀.heap.objs.size<=b)/\b≠X.env.locals/\(∀x c,X.env.cells.lookup x=Z9 c->c≠b)/\∀p∈X.pn++pins,p.1≠b) :
  ZR X pins Z H' { s with heap:=h',gens:=g',drawn:=d',toks:=t' }:=by
 obtain⟨m,⟨o,B,y,k,r⟩,_⟩:=id I.loc;obtain⟨w,g⟩:=u.any k I.free λz=>(d _ z).2.1 rfl;exact I.step d (λb o g q a e n=>u.keep b o e n (λz=>(qA9.mp (I.stkSub b z)).elim g q) a) (λb o _ _ a e n=>u.any e n a) (λb o a e n=>u.free b o e n a) (λb o a e=>u.there b o e a) u.tups u.frzs u.tbls (λC l=>by
  obtain⟨A,i,j,f,t⟩:=l;rw[k]at f;cases f;exact⟨_,i,j,g,t⟩) h v
theorem ZR.turned{t':Nat}{it:yR}(I:ZR X pins Z H s)(k:∀b o,b≠it->s.heap.get? b=Z9 o->h'.get? b=Z9 o)(t:H it=Z8)(f:it≠X.env.locals)
  (j:it∈X.ex∨X.s₀.heap.objs.size<=it) (l:∀x c,X.env.cells.lookup x=Z9 c->c≠it) (y:∀p∈X.pn++pins,p.1≠it):ZR X pins Z H { s with heap:=h',toks:=t' }:=by
 have d:∀b u,H b=Z9 u->b≠it:=λb u e z=>by rw[z,t]at e;cases e
 refine I.step (g':=s.gens) (d':=s.drawn) (ch:=[it]) (λb i=>?_) (λb o _ _ a e _=>k b o (λz=>a (by simp[z])) e) (λb o _ _ a e _=>⟨o.slots,k b o (λz=>a (by simp[z])) e⟩) (λ_ _ _ _ n=>n)
  (λb o a e=>⟨o,k b o (λz=>a (by simp[z])) e⟩) (λ_ _ e=>e) (λ_ _ _ e=>e) (λb B e=>⟨#[],by rw[e];simp⟩) (λm g=>?_) (λb u e=>?_) I.bare
 .have e:=by simpa using i
  subst e;exact⟨j,f,l,y⟩
 .obtain⟨o,A,h,w,r⟩:=g;exact⟨o,A,h,k _ o (Ne.symm f) w,r⟩
 .refine(I.hok b u e).stay (λc v a q=>k c v ?_ q) (λ_ q=>q) λ_ _ q=>q;rcases a with z|z
  .rw[z];exact d b u e
  .exact d c _ z
theorem ZR.tok(I:ZR X pins Z H s)(t:Nat):ZR X pins Z H { s with toks:=t }:=I.un (h':=s.heap) (t':=t) Un.refl I.hok
theorem ZR.kept{t':Nat}(I:ZR X pins Z H s)(k:∀b u,s.heap.get? b=Z9 u->h'.get? b=Z9 u):ZR X pins Z H { s with heap:=h',toks:=t' }:=I.un (Un.kept k) (I.hok.kept k)
theorem ZR.laid{a:yR}{o:HO}{t':Nat}(I:ZR X pins Z H s)(k:∀b u,s.heap.get? b=Z9 u->h'.get? b=Z9 u)(d:s.heap.objs.size<=a)(c:Xd X.prog X.w (ZD H a o) h' a o):
  ZR X pins Z (ZD H a o) { s with heap:=h',toks:=t' }:=I.un (Un.laid k d (I.hok.fresh d)) (I.hok.laid k d c)
theorem ZR.write{x e:yR}{o:HO}{t':Nat}(I:ZR X pins Z H s)(d:R1 (H x))(he:e=x∨H e=Z9 (.own x))(k:∀b u,b≠e->s.heap.get? b=Z9 u->h'.get? b=Z9 u)(a:∃u,h'.get? e=Z9 u)
  (c:Xd X.prog X.w (ZD H x o) h' x o):ZR X pins Z (ZD H x o) { s with heap:=h',toks:=t' }:=I.un (Un.write d he k a) (I.hok.write d he k a c)
theorem ZR.weak{a:List (Option V)}(I:ZR X pins Z H s)(e:a.length=Z.length)(w:∀(i:Nat) v,a[i]?=Z9 (Z9 v)->Z[i]?=Z9 (Z9 v)):ZR X pins a H s :=
 ⟨I.ok,I.os,I.bare,I.base,let ⟨m,hn,hl'⟩:=I.loc;⟨m,hn,λi x v b d c=>hl' i x v b (w i v d) c⟩,I.cell,I.free,I.freeC,I.pin,I.hok,e.trans I.len⟩
theorem ZR.pins_of{a:yD}(I:ZR X pins Z H s)(h:∀p∈a,s.heap.get? p.1=Z9 p.2/\H p.1=Z8/\p.1≠X.env.locals/\p.1∉X.fs/\∀v,p.2.data≠.cell v):ZR X a Z H s :=
 ⟨I.ok,I.os,I.bare,I.base,I.loc,I.cell,I.free,I.freeC,λp b=>(qB9.mp b).elim (λz=>I.pin p (qE9 _ z)) (h p),I.hok,I.len⟩
theorem Mr{N:yH}(c:N.Nodup){i j:Nat}{x:Str}(a:N[i]?=Z9 x)(b:N[j]?=Z9 x):i=j:=by obtain⟨f,d⟩:=qA1.mp a;obtain⟨g,e⟩:=qA1.mp b;exact(List.getElem_inj c).mp (d.trans e.symm)
theorem Cp{M:mU}{A:jC}{E:yL}{i:Nat}{x:Str}{v:V}{u:yU}{Q:Unit->yS->Prop}(I:ZR X pins Z H s)(hN:X.N.Nodup)(hi:X.N[i]?=Z9 x)(w:R0 X.env.scope x)(r:ZK v u)
  (h:∀s',ZR X pins (Z.set i (Z9 v)) H s'->(∃a,qH7 a s.heap s'.heap/\(a=X.env.locals∨X.env.cells.lookup x=Z9 a))->Q () s') (hf:X.fn x=Z7∨X.env.scope.names.lookup x=Z9 .local:=by first|exact .inl rfl|exact .inr rfl|assumption):y7 M A (storeName X.env x u) Q E s:=by
 obtain⟨m,hn,hl⟩:=id I.loc;have L:(X.env.scope.kind == .class||(X.env.scope.kind == .module&&X.env.locals != X.env.globals))=Z5:=by rw[I.ok.kind];rfl
 have K:i<Z.length:=by rw[I.len];exact(qA1.mp hi).1
 have cne:=I.cne;have g:∀{a:yR}{h':jE},(∃o,s.heap.get? a=Z9 o/\H a=Z8)->qH7 a s.heap h'->Yt X.prog X.w H h':=λ{a h'} ha f b ob e=>by
  obtain⟨_,_,B⟩:=ha;refine(I.hok b ob e).stay (λc S t q=>(f.2 c ?_).trans q) (λ_ q=>q) λ_ _ q=>q;rintro rfl;rcases t with rfl|t
  .rw[B]at e;cases e
  .rw[B]at t;cases t
 rcases w with hk|hk
 .refine wpAny_storeName_local hk hn (λh' hn' f=>?_) L;obtain⟨oL,_,_,hoL,_⟩:=id hn;refine h _ ⟨I.ok,I.os,I.bare,⟨λb o e n F w=>?_,λb o e n F w=>?_,I.base.free,λb o e w=>?_,I.base.tups,I.base.frzs,I.base.tbls⟩,⟨_,hn',λj y U l C e3=>?_⟩,λy c e=>?_,I.free,I.freeC,λp hp=>?_,g ⟨oL,hoL,I.free⟩ f,by simpa using I.len⟩ ⟨_,f,.inl rfl⟩
  .exact(f.2 b (qB7 (qB3 (qB0 e) I.ok.above))).trans (I.base.keep b o e n F w)
  .obtain⟨W,l⟩:=I.base.slot b o e n F w;exact⟨W,(f.2 b (qB7 (qB3 (qB0 e) I.ok.above))).trans l⟩
  .obtain⟨o',l⟩:=I.base.there b o e w;exact⟨o',(f.2 b (qB7 (qB3 (qB0 e) I.ok.above))).trans l⟩
  .by_cases D:j=i
   .subst D;rw[hi]at l;cases l;rw[qC9 K]at C;cases C;exact⟨u,r,.inl ⟨hk,by simp⟩⟩
   .rw[qD5 (Ne.symm D)]at C;obtain⟨u',Y,q⟩:=hl j y U l C e3;refine⟨u',Y,?_⟩;rcases q with⟨k,e⟩| ⟨k,c,e,z⟩
    .refine .inl ⟨k,?_⟩;have:y≠x:=λe=>D (Mr hN l (e▸hi));simp[this,e]
    .exact .inr ⟨k,c,e,z.sameBut f (cne y c e)⟩
  .obtain⟨S,z⟩:=I.cell y c e;exact⟨S,z.sameBut f (cne y c e)⟩
  .obtain⟨e,n,ne,T,d⟩:=I.pin p hp;exact⟨(f.2 p.1 ne).trans e,n,ne,T,d⟩
 .have G:X.fn x=Z7:=by
   rcases hf with z|z
   .exact z
   .rw[z]at hk;cases hk
  obtain⟨c,t⟩:=I.ok.has x (.inl hk);obtain⟨S,z⟩:=I.cell x c t;refine wpAny_storeName_cell I.ok.kind hk t z (λh' N f=>?_);obtain⟨oc,J,O⟩:=id z;refine h { s with heap:=h' } ⟨I.ok,I.os,I.bare,⟨λb o e n F w=>?_,λb o e n F w=>?_,I.base.free,λb o e w=>?_,I.base.tups,I.base.frzs,I.base.tbls⟩,⟨m,hn.sameBut f (Ne.symm (cne x c t)),λj y U l C e3=>?_⟩,λy R e=>?_,I.free,I.freeC,λp hp=>?_,g ⟨oc,J,I.freeC x c t⟩ f,by simpa using I.len⟩ ⟨c,f,.inr t⟩
  .exact(f.2 b (qB7 (qB3 (qB0 e) (I.ok.cab x c G t)))).trans (I.base.keep b o e n F w)
  .obtain⟨W,l⟩:=I.base.slot b o e n F w;exact⟨W,(f.2 b (qB7 (qB3 (qB0 e) (I.ok.cab x c G t)))).trans l⟩
  .obtain⟨o',l⟩:=I.base.there b o e w;exact⟨o',(f.2 b (qB7 (qB3 (qB0 e) (I.ok.cab x c G t)))).trans l⟩
  .by_cases D:j=i
   .subst D;rw[hi]at l;cases l;rw[qC9 K]at C;cases C;exact⟨u,r,.inr ⟨.inl hk,c,t,N⟩⟩
   .rw[qD5 (Ne.symm D)]at C;obtain⟨u',Y,q⟩:=hl j y U l C e3;refine⟨u',Y,?_⟩;rcases q with q|⟨k,R,e,z'⟩
    .exact .inl q
    .refine .inr ⟨k,R,e,z'.sameBut f ?_⟩;rintro rfl;exact D (Mr hN l (I.ok.inj _ _ _ e t▸hi))
  .by_cases P:R=c
   .subst P;exact⟨_,N⟩
   .obtain⟨w2,z2⟩:=I.cell y R e;exact⟨w2,z2.sameBut f P⟩
  .obtain⟨e,n,ne,T,d⟩:=I.pin p hp;refine⟨(f.2 p.1 ?_).trans e,n,ne,T,d⟩;intro q;rw[q,J]at e;have q':=Option.some.inj e;exact d S (by rw[<- q'];exact O)
theorem HY{M:mU}{A:jC}{E:yL}{i:Nat}{x:Str}{v:V}{u:yU}{Q:Unit->yS->Prop}(I:ZR X pins Z H s)(b:X.N.Nodup)(hi:X.N[i]?=Z9 x)(a:R0 X.env.scope x)(r:ZK v u)
  (h:∀s',ZR X pins (Z.set i (Z9 v)) H s'->Q () s') (d:X.fn x=Z7∨X.env.scope.names.lookup x=Z9 .local:=by first|exact .inl rfl|exact .inr rfl|assumption):y7 M A (storeName X.env x u) Q E s :=
 Cp I b hi a r (λs' c _=>h s' c) d
theorem ZR.call'{s':yS}{ch:yC}(I:ZR X pins Z H s)(g:s'.os=s.os)(u:Un (Xl X.stack) ch H H' s.heap s'.heap)(d:Yt X.prog X.w H' s'.heap)(f:fR s'.gens)
  (a:∀b∈ch,(b∈X.ex∨X.s₀.heap.objs.size<=b)/\b≠X.env.locals/\(∀x c,X.env.cells.lookup x=Z9 c->c≠b)/\∀p∈X.pn++pins,p.1≠b):ZR X pins Z H' s':=by obtain⟨i,g',d',t',h⟩:=s';have e:h=s.os:=g;subst e;exact I.call (g':=g') (t':=t') (d':=d') u d f a
end
abbrev XK:=yU->Option yR->Hp->Prop
abbrev St:=List (Option V)
abbrev VK:=V->Hp->Prop
abbrev TE:=St->Hp->VK->Prop
abbrev TT:=St->Hp->(Bool->Hp->Prop)->Prop
abbrev TA:=St->Hp->(List V->Hp->Prop)->Prop
structure XF where
 nx:St->Hp->Prop
 rt:VK
 bk:St->Hp->Prop:=λ_ _=>False
 ct:St->Hp->Prop:=λ_ _=>False
abbrev TS:=XF->St->Hp->Prop
inductive EP(X:Cx)(pins:yD)(Z:St)(Q:VK)(u:yU)(s':yS):Prop
 |mk (v:V) (H':Hp) (I:ZR X pins Z H' s') (r:ZK v u) (q:Q v H')
inductive TP(X:Cx)(pins:yD)(Z:St)(Q:Bool->Hp->Prop)(b:Bool)(s':yS):Prop
 |mk (H':Hp) (I:ZR X pins Z H' s') (q:Q b H')
inductive AP(X:Cx)(pins:yD)(Z:St)(Q:List V->Hp->Prop)(us:yB)(s':yS):Prop
 |mk (vs:List V) (H':Hp) (I:ZR X pins Z H' s') (r:ZO vs us) (q:Q vs H')
def SP(X:Cx)(a:yD)(D:XF)(f:Flow)(s':yS):Prop :=
 match f with
 |.next=>∃c b,ZR X a c b s'/\D.nx c b
 |.brk=>∃c b,ZR X a c b s'/\D.bk c b
 |.cont=>∃c b,ZR X a c b s'/\D.ct c b
 |.ret u=>∃v c b,ZR X a c b s'/\ZK v u/\D.rt v b
def PE(X:Cx)(e:yZ)(t:TE):Prop :=
 ∀(a:yD) (s:yS) (Z:St) (H:Hp) (Q:VK),ZR X a Z H s->t Z H Q->y7 (yW X.prog X.w) X.A (vO e X.env) (EP X a Z Q) X.xe s
def PT(X:Cx)(e:yZ)(t:TT):Prop :=
 ∀(a:yD) (s:yS) (Z:St) (H:Hp) (Q:Bool->Hp->Prop),ZR X a Z H s->t Z H Q->y7 (yW X.prog X.w) X.A (dJ e X.env (vO e X.env)) (TP X a Z Q) X.xe s
def PW(X:Cx)(e:yZ)(t:TT):Prop :=
 ∀(b:Sem yU) (a:yD) (s:yS) (Z:St) (H:Hp) (Q:Bool->Hp->Prop),ZR X a Z H s->t Z H Q->y7 (yW X.prog X.w) X.A (dJ e X.env b) (TP X a Z Q) X.xe s
theorem PW.pt{X:Cx}{e:yZ}{t:TT}(h:PW X e t):PT X e t:=h _
def PA(X:Cx)(es:yE)(t:TA):Prop :=
 ∀(b:Pos) (a:yD) (s:yS) (Z:St) (H:Hp) (Q:List V->Hp->Prop),ZR X a Z H s->t Z H Q->y7 (yW X.prog X.w) X.A (spliced (wO b (jG es X.env))) (AP X a Z Q) X.xe s
def PS(X:Cx)(st:vK)(t:TS):Prop :=
 ∀(a:yD) (s:yS) (Z:St) (H:Hp) (D:XF),ZR X a Z H s->t D Z H->y7 (yW X.prog X.w) X.A (exec st X.env) (SP X a D) X.xe s
def XE(X:Cx)(st:List vK)(t:TS):Prop :=
 ∀(a:yD) (s:yS) (Z:St) (H:Hp) (D:XF),ZR X a Z H s->t D Z H->y7 (yW X.prog X.w) X.A (execs st X.env) (SP X a D) X.xe s
theorem Zo{α:Type}{t:Sem α}{Q b:α->yS->Prop}{M:mU}{A:jC}{E:yL}{s:yS}(h:y7 M A t Q E s)(c:∀a s,Q a s->b a s):y7 M A t b E s:=jL h c λ_ _ x=>x
section
variable {X:Cx}
def Tq(i:Nat):TE:=fun Z H Q=>∃v,Z[i]?=Z9 (Z9 v)/\Q v H
def tC(v:V):TE:=λ_ H Q=>Q v H
theorem QZ{i:Nat}{x:Str}{pos:Pos}(k:X.N[i]?=Z9 x)(n:VM X.env.scope x)(f:YL x:=by decide)(d:(x == ("__classdict__":Str))=Z5:=by decide):PE X (.Name x pos) (Tq i):=by
 intro b s Z H Q I h;obtain⟨v,e,h⟩:=h;obtain⟨m,o,p⟩:=I.loc;obtain⟨u,r,l⟩:=p i x v k e n;have fin:EP X b Z Q u s:=⟨v,H,I,r,h⟩
 rcases l with⟨hk,j⟩| ⟨hk,c,g,a⟩
 .exact wpAny_Name (wpAny_loadName_local I.ok.kind hk o j fin) f
 .rcases hk with hk|hk
  .exact wpAny_Name (wpAny_loadName_cell I.ok.kind hk g a fin) f
  .exact wpAny_Name (wpAny_loadName_free I.ok.kind hk g a fin d) f
theorem Co{i j pos}:PE X (.Constant (.int i) j pos) (tC (.int i)):=λ_ _ _ H _ I h=>wpAny_Constant_int ⟨.int i,H,I.tok _,⟨_,rfl⟩,h⟩
theorem Cn{b j pos}:PE X (.Constant (.bool b) j pos) (tC (.bl b)):=λ_ _ _ H _ I h=>Constant_bool ⟨.bl b,H,I,rfl,h⟩
theorem Mq{j pos}:PE X (.Constant .none j pos) (tC .non):=λ_ _ _ H _ I h=>Constant_none ⟨.non,H,I,rfl,h⟩
theorem HX{x j pos}:PE X (.Constant (.str x) j pos) (tC (.str x)):=λ_ _ _ H _ I h=>Calls.Constant_str ⟨.str x,H,I.tok _,⟨_,rfl⟩,h⟩
def Gl(X:Cx)(x:Str):Prop:=X.env.kindOf x=Z9 .globalImplicit
theorem Ub{E:yL}{a:yD}{s:yS}{Z:St}{H:Hp}{x:Str}{u:yU}{pos:Pos}{Q:yL}(I:ZR X a Z H s)(b:Gl X x)(hm:X.mg x=Z9 u)(h:Q u s)
  (c:YL x:=by decide):y7 (yW X.prog X.w) X.A (vO (.Name x pos) X.env) Q E s :=
 fW I.ok.kind b (Calls.loadGlobal_global (by rw[I.ok.glob];exact I.mod.glob.keeps I.bk) hm h) c
theorem Tp{E:yL}{a:yD}{s:yS}{Z:St}{H:Hp}{x:Str}{u:yU}{pos:Pos}{Q:yL}(I:ZR X a Z H s)(f:Gl X x)(hm:X.mg x=Z8)(d:jH x=Z9 u)(h:Q u s)
  (e:x ≠ "__name__":=by decide) (g:YL x:=by decide):y7 (yW X.prog X.w) X.A (vO (.Name x pos) X.env) Q E s:=by obtain⟨i,b,c⟩:=I.mod.blt;exact fW I.ok.kind f (Calls.loadGlobal_builtin (by rw[I.ok.glob];exact I.mod.glob.keeps I.bk) hm (by rw[I.ok.blt];exact b.keeps I.bk) ((c x e).trans d) h) g
theorem Cm{x:Str}{v:V}{u:yU}{pos:Pos}(a:Gl X x)(hm:X.mg x=Z9 u)(r:ZK v u)(b:YL x:=by decide):PE X (.Name x pos) (tC v) :=
 λ_ _ _ H _ I h=>Ub I a hm ⟨v,H,I,r,h⟩ b
theorem HW{x:Str}{v:V}{u:yU}{pos:Pos}(a:Gl X x)(hm:X.mg x=Z8)(d:jH x=Z9 u)(r:ZK v u)(c:x ≠ "__name__":=by decide)(b:YL x:=by decide):PE X (.Name x pos) (tC v) :=
 λ_ _ _ H _ I h=>Tp I a hm d ⟨v,H,I,r,h⟩ c b
variable {a b:yZ}{ta tb:TE}{pos:Pos}
variable {tA tB':TT}{ZG:yE}
def Mp(t u:TT):TT:=fun Z H Q=>t Z H λc d=>if c=Z7 then u Z d Q else Q Z5 d
def Ck(t u:TT):TT:=fun Z H Q=>t Z H λc d=>if c=Z7 then Q Z7 d else u Z d Q
def Mo(t:TT):TT:=fun Z H Q=>t Z H λc d=>Q (!c) d
theorem Cj(f:PT X a tA):PW X (.BoolOp .And [a] pos) tA:=by
 intro g d s Z H Q I h;refine isTrue_and (Zo (f d s Z H Q I h) λc i e=>?_);cases c with
 |true=>exact isTrue_and_nil e
 |false=>exact e
theorem Ci(f:PT X a tA):PW X (.BoolOp .Or [a] pos) tA:=by
 intro g d s Z H Q I h;refine isTrue_or (Zo (f d s Z H Q I h) λc i e=>?_);cases c with
 |false=>exact isTrue_or_nil e
 |true=>exact e
theorem Cg(k:PT X a tA)(i:PW X (.BoolOp .And (b::ZG) pos) tB'):PW X (.BoolOp .And (a::b::ZG) pos) (Mp tA tB'):=by
 intro j d s Z H Q I h;refine isTrue_and (Zo (k d s Z H _ I h) λc l ⟨g,e,f⟩=>?_);cases c with
 |true=>exact i j d l Z g Q e f
 |false=>exact⟨g,e,f⟩
theorem Cf(k:PT X a tA)(i:PW X (.BoolOp .Or (b::ZG) pos) tB'):PW X (.BoolOp .Or (a::b::ZG) pos) (Ck tA tB'):=by
 intro j d s Z H Q I h;refine isTrue_or (Zo (k d s Z H _ I h) λc l ⟨g,e,f⟩=>?_);cases c with
 |true=>exact⟨g,e,f⟩
 |false=>exact i j d l Z g Q e f
theorem Ce(f:PT X a tA):PT X (.UnaryOp .Not a pos) (Mo tA):=by intro d s Z H Q I h;exact isTrue_not (Zo (f d s Z H (λc i=>Q (!c) i) I h) λc j ⟨g,e,q⟩=>⟨g,e,q⟩)
def Cd(e f:TE):TE:=fun Z H Q=>e Z H λx d=>∃c,x=.bl c/\if c=Z7 then f Z d Q else Q (.bl Z5) d
def Mn(e f:TE):TE:=fun Z H Q=>e Z H λx d=>∃c,x=.bl c/\if c=Z7 then Q (.bl Z7) d else f Z d Q
def Cc(d:TE):TE:=fun Z H Q=>d Z H λx e=>∃c,x=.bl c/\Q (.bl (!c)) e
theorem Cb{op}{t:TE}(h:PE X a t):PE X (.BoolOp op [a] pos) t:=λc s Z H Q I d=>BoolOp_one (h c s Z H Q I d)
theorem B8(j:PE X a ta)(i:PE X (.BoolOp .And (b::ZG) pos) tb):PE X (.BoolOp .And (a::b::ZG) pos) (Cd ta tb):=by
 intro d s Z H Q I h;refine BoolOp_and (Zo (j d s Z H _ I h) λv l ⟨x,g,f,k,e⟩=>?_);obtain⟨c,rfl,e⟩:=e;cases k;refine jX ?_;cases c with
 |true=>exact i d l Z g Q f e
 |false=>exact⟨.bl Z5,g,f,rfl,e⟩
theorem B7(j:PE X a ta)(i:PE X (.BoolOp .Or (b::ZG) pos) tb):PE X (.BoolOp .Or (a::b::ZG) pos) (Mn ta tb):=by
 intro d s Z H Q I h;refine BoolOp_or (Zo (j d s Z H _ I h) λv l ⟨x,g,f,k,e⟩=>?_);obtain⟨c,rfl,e⟩:=e;cases k;refine jX ?_;cases c with
 |false=>exact i d l Z g Q f e
 |true=>exact⟨.bl Z7,g,f,rfl,e⟩
theorem B6(g:PE X a ta):PE X (.UnaryOp .Not a pos) (Cc ta):=by intro d s Z H Q I h;refine UnaryOp_ (Zo (g d s Z H _ I h) λv k ⟨x,j,f,i,e⟩=>?_);obtain⟨c,rfl,e⟩:=e;cases i;exact not_of (jX ⟨.bl (!c),j,f,rfl,e⟩)
def BZ(t:TT)(e f:TE):TE:=fun Z H Q=>t Z H λc d=>if c=Z7 then e Z d Q else f Z d Q
theorem HV{c:yZ}(m:PT X c tA)(l:PE X a ta)(k:PE X b tb):PE X (.IfExp c a b pos) (BZ tA ta tb):=by
 intro e s Z H Q I h;refine wpAny_IfExp (Zo (m e s Z H _ I h) λd j ⟨i,f,g⟩=>?_);cases d with
 |true=>exact l e j Z i Q f g
 |false=>exact k e j Z i Q f g
end
def YA(K:yQ)(H:Hp)(a:yR)(xs:List V):Prop :=
 Rd H a (.lst xs) ∨
  ∃(o:Obj) (b:yJ) (n:Nat),K.lookup a=Z9 o/\o.cls=.type "list"/\o.dict=Z8/\o.data=.seq b n/\b.size<=jA/\ZO xs b.toList
def Zg(K:yQ)(H:Hp)(a:yR)(xs:List V):Prop :=
 Rd H a (.tup xs) ∨
  ∃(o:Obj) (b:yJ) (n:Nat),K.lookup a=Z9 o/\o.cls=.type "tuple"/\o.data=.seq b n/\b.size<=jA/\ZO xs b.toList
noncomputable def Mm:yU->Option V
 |.none=>Z9 .non
 |.bool b=>Z9 (.bl b)
 |.int i _=>Z9 (.int i)
 |.str x _=>Z9 (.str x)
 |.bytes b _=>Z9 (.byt b)
 |.float b _=>Z9 (.flt b)
 |.ref a=>Z9 (.ref a)
 |.type n=>Z9 (.ty n)
 |_=>Z8
theorem ZK.abs{x:V}{u:yU}(r:ZK x u):Mm u=Z9 x:=by
 cases x with
 |non=>cases r;rfl
 |bl _=>cases r;rfl
 |int _=>obtain⟨t,rfl⟩:=r;rfl
 |str _=>obtain⟨t,rfl⟩:=r;rfl
 |byt _=>obtain⟨t,rfl⟩:=r;rfl
 |flt _=>obtain⟨t,rfl⟩:=r;rfl
 |ref _=>cases r;rfl
 |ty _=>cases r;rfl
theorem ZK.inj{x y:V}{u:yU}(r:ZK x u)(q:ZK y u):x=y:=Option.some.inj (r.abs.symm.trans q.abs)
theorem ZO.inj:∀{xs ys:List V}{a:yB},ZO xs a->ZO ys a->xs=ys
 |_,_,_,.nil,.nil=>rfl
 |_,_,_,.cons r t,.cons b c=>by rw[r.inj b,ZO.inj t c]
section
variable {X:Cx}{pins:yD}{Z:St}{H:Hp}{s:yS}{a:yR}{xs ys:List V}
theorem YA.of{K:yQ}(h:H a=Z9 (.lst xs)):YA K H a xs:=.inl (.inl h)
theorem Zg.of{K:yQ}(h:H a=Z9 (.tup xs)):Zg K H a xs:=.inl (.inl h)
theorem ZR.list(I:ZR X pins Z H s)(h:YA X.K H a xs):∃b:yB,ZO xs b/\PlainL s.heap a b.toArray/\xs.length<=sizeLine:=by
 rcases h with h|⟨o,b,n,hk,d,c,f,g,r⟩
 .obtain⟨z,b,n,r,e⟩:=h.ok I.hok;exact⟨b,r,⟨_,n,e,rfl,rfl,rfl⟩,z⟩
 .refine⟨b.toList,r,⟨o,n,I.kIn a o hk,d,c,by simpa using f⟩,?_⟩;have e:=r.length;simp only[vL]at e;omega
theorem ZR.tuple(I:ZR X pins Z H s)(h:Zg X.K H a xs):∃b:yB,ZO xs b/\dO s.heap a b.toArray/\xs.length<=sizeLine:=by
 rcases h with h|⟨o,b,n,hk,c,d,f,r⟩
 .obtain⟨z,b,r,p⟩:=h.ok I.hok;exact⟨b,r,p,z⟩
 .refine⟨b.toList,r,⟨o,I.kIn a o hk,c,n,by simpa using d⟩,?_⟩;have e:=r.length;simp only[vL]at e;omega
theorem ZR.list_inj(I:ZR X pins Z H s)(h:YA X.K H a xs)(h':YA X.K H a ys):xs=ys:=by
 obtain⟨i,r,⟨o,n,e,_,_,d⟩,_⟩:=I.list h;obtain⟨f,g,⟨k,j,b,_,_,c⟩,_⟩:=I.list h';rw[e]at b;cases b;rw[d]at c;injection c with d1 _;have:=by simpa using congrArg Array.toList d1
 subst this;exact r.inj g
theorem ZR.tuple_inj(I:ZR X pins Z H s)(h:Zg X.K H a xs)(h':Zg X.K H a ys):xs=ys:=by
 obtain⟨i,r,⟨o,e,_,n,d⟩,_⟩:=I.tuple h;obtain⟨f,g,⟨k,b,_,j,c⟩,_⟩:=I.tuple h';rw[e]at b;cases b;rw[d]at c;injection c with d1 _;have:=by simpa using congrArg Array.toList d1
 subst this;exact r.inj g
end
noncomputable abbrev Cx.wish(X:Cx)(E:yL):Cx:={ X with xe:=E }
noncomputable abbrev Cx.nox(X:Cx):Cx:=X.wish λ_ _=>False
theorem Cx.Ok.wish{X:Cx}(ok:X.Ok)(E:yL):(X.wish E).Ok :=
 ⟨ok.mod,ok.kind,ok.glob,ok.blt,ok.above,ok.inj,ok.has,ok.cab,ok.hd,ok.frames,ok.stk,ok.exf,ok.bs,ok.bsz,ok.noex,ok.exfs,ok.funs,ok.frf⟩
theorem Cx.Ok.unwish{X:Cx}{E:yL}(ok:(X.wish E).Ok):X.Ok :=
 ⟨ok.mod,ok.kind,ok.glob,ok.blt,ok.above,ok.inj,ok.has,ok.cab,ok.hd,ok.frames,ok.stk,ok.exf,ok.bs,ok.bsz,ok.noex,ok.exfs,ok.funs,ok.frf⟩
section
variable {X:Cx}{pins:yD}{Z:St}{H:Hp}{s:yS}{E:yL}
theorem ZR.wish(I:ZR X pins Z H s)(E:yL):ZR (X.wish E) pins Z H s:=⟨I.ok.wish E,I.os,I.bare,I.base,I.loc,I.cell,I.free,I.freeC,I.pin,I.hok,I.len⟩
theorem ZR.unwish(I:ZR (X.wish E) pins Z H s):ZR X pins Z H s:=⟨I.ok.unwish,I.os,I.bare,I.base,I.loc,I.cell,I.free,I.freeC,I.pin,I.hok,I.len⟩
end
section
variable {X:Cx}{st:vK}{ZG:List vK}{t u:TS}{e:yZ}{te:TE}{pos:Pos}
def OJ:TS:=λD Z H=>D.nx Z H
def To(t u:TS):TS:=λD Z H=>t { D with nx:=u D } Z H
theorem OI:XE X [] OJ:=λ_ _ Z H _ I h=>vT ⟨Z,H,I,h⟩
theorem Ua(i:PS X st t)(j:XE X ZG u):XE X (st::ZG) (To t u):=by
 intro a s Z H D I h;refine gO (Zo (i a s Z H { D with nx:=u D } I h) λf c q=>?_);cases f with
 |next =>
  obtain⟨d,g,b,q⟩:=q;exact j a c d g D b q
 |ret v=>exact q
 |brk=>exact q
 |cont=>exact q
def BY:TS:=λD Z H=>D.bk Z H
def BX:TS:=λD Z H=>D.ct Z H
theorem BW:PS X (.Pass pos) OJ:=λ_ _ Z H _ I h=>wpAny_Pass ⟨Z,H,I,h⟩
theorem BV:PS X (.Break pos) BY:=λ_ _ Z H _ I h=>wpAny_Break ⟨Z,H,I,h⟩
theorem BU:PS X (.Continue pos) BX:=λ_ _ Z H _ I h=>wpAny_Continue ⟨Z,H,I,h⟩
theorem ZR.quiet{a:yD}{Z:St}{H:Hp}{s:yS}(I:ZR X a Z H s):interactive X.env=Z5:=by simp[interactive,I.ok.kind]
def BS(b:TE):TS:=λD Z H=>b Z H λ_ a=>D.nx Z a
theorem HU(he:PE X e te)(d:wS e Z8 pos.line X.env=pure Z5:=by rfl):PS X (.Expr e pos) (BS te):=by intro a s Z H D I h;exact lO (Zo (he a s Z H _ I h) λv i ⟨x,f,b,g,c⟩=>⟨Z,f,b,c⟩) I.quiet d
def Ml(a:TE):TS:=λD Z H=>a Z H D.rt
theorem Mk(he:PE X e te):PS X (.Return (Z9 e) pos) (Ml te):=by intro a s Z H D I h;exact wpAny_Return_some (Zo (he a s Z H _ I h) λv g ⟨x,f,b,d,c⟩=>⟨x,Z,f,b,d,c⟩)
def BR:TS:=λD _ H=>D.rt .non H
theorem BQ:PS X (.Return Z8 pos) BR:=λ_ _ Z H _ I h=>wpAny_Return_none ⟨.non,Z,H,I,rfl,h⟩
def Mj(c:TT)(t u:TS):TS:=λD Z H=>c Z H λb a=>if b=Z7 then t D Z a else u D Z a
theorem BO{c:yZ}{a b:List vK}{tc:TT}(n:PT X c tc)(m:XE X a t)(l:XE X b u):PS X (.If c a b pos) (Mj tc t u):=by
 intro f s Z H D I h;refine wpAny_If (Zo (n f s Z H _ I h) λd k ⟨j,g,i⟩=>?_);cases d with
 |true=>exact m f k Z j D g i
 |false=>exact l f k Z j D g i
def BN:TS:=λ_ _ _=>False
theorem BM:PS X st BN:=λ_ _ _ _ _ _ h=>h.elim
end
abbrev TG:=V->St->Hp->(St->Hp->Prop)->Prop
abbrev UN:=List V->St->Hp->(St->Hp->Prop)->Prop
def PG(X:Cx)(a:yZ)(t:TG):Prop :=
 ∀(b:yD) (s:yS) (Z:St) (H:Hp) (v:V) (u:yU) (Q:St->Hp->Prop),ZR X b Z H s->ZK v u->t v Z H Q ->
  y7 (yW X.prog X.w) X.A (fX a X.env u) (λ_ e=>∃c d,ZR X b c d e/\Q c d) X.xe s
def VL(X:Cx)(g:yE)(t:UN):Prop :=
 ∀(a:yD) (s:yS) (Z:St) (H:Hp) (b:List V) (c:yB) (Q:St->Hp->Prop),ZR X a Z H s->ZO b c->t b Z H Q ->
  y7 (yW X.prog X.w) X.A (assignInOrder ((jP g X.env).map (·.2)) c) (λ_ f=>∃d e,ZR X a d e f/\Q d e) X.xe s
abbrev UM:=V->V->V->Hp->(Hp->Prop)->Prop
def Vk(X:Cx)(t:UM):Prop :=
 ∀(a:yD) (s:yS) (Z:St) (H:Hp) (o i v:V) (c b u:yU) (Q:Hp->Prop),ZR X a Z H s->ZK o c->ZK i b->ZK v u->t o i v H Q ->
  y7 (yW X.prog X.w) X.A (dU c b u) (λ_ e=>∃d,ZR X a Z d e/\Q d) X.xe s
section
variable {X:Cx}{pos:Pos}
def UL(i:Nat):TG:=λv Z H Q=>Q (Z.set i (Z9 v)) H
theorem T9{i:Nat}{x:Str}(c:X.N.Nodup)(hi:X.N[i]?=Z9 x)(b:R0 X.env.scope x)(e:X.fn x=Z7∨X.env.scope.names.lookup x=Z9 .local:=by first|exact .inl rfl|exact .inr rfl|assumption):PG X (.Name x pos) (UL i):=by intro a s Z H v u Q I r h;exact wpAny_assign_Name (HY I c hi b r (λf d=>⟨_,H,d,h⟩) e)
def QY:UN:=λa Z H Q=>a=[]/\Q Z H
def HS(t:TG)(u:UN):UN:=λa Z H Q=>∃v r,a=v::r/\t v Z H fun b c=>u r b c Q
theorem HR:VL X [] QY:=by intro a s Z H b c Q I r h;obtain⟨e,h⟩:=h;subst e;cases r;exact assignInOrder_nil ⟨Z,H,I,h⟩
theorem HQ{e:yZ}{es:yE}{t:TG}{u:UN}(i:PG X e t)(j:VL X es u)
  (g:(jP (e::es) X.env).map (·.2)=fX e X.env::(jP es X.env).map (·.2):=by rfl):VL X (e::es) (HS t u):=by
 intro a s Z H o p Q I r h;obtain⟨v,n,l,h⟩:=h;subst l;cases r with
 |cons r m =>
  rw[g];refine assignInOrder_cons (Zo (i a s Z H _ _ _ I r h) λ_ d ⟨f,c,b,k⟩=>?_);exact j a d f c _ _ Q b m k
def QX(K:yQ)(n:Nat)(t:UN):TG:=λv Z H Q=>∃a b,v=.ref a/\Zg K H a b/\b.length=n/\t b Z H Q
theorem HP{es:yE}{k:Nat}{t:UN}{n:Nat}(j:X.calm=Z7)(h:VL X es t)
  (w:(jP es X.env).length=n:=by rfl) (f:(jP es X.env).findIdx? (·.1)=Z8:=by rfl):PG X (.Tuple es k pos) (QX X.K n t):=by intro c s Z H v u Q I r d;obtain⟨a,l,x,m,y,d⟩:=d;subst x;cases r;obtain⟨q,g,ht,z⟩:=I.tuple m;refine assign_Tuple_tuple (I.ok.hd j) ht (by simp[w,<- y,g.length]) f λA p=>?_;have i:=I.kept (t':=s.toks) λb o e=>p b o (qB7 (qB0 e)) e;exact h c _ Z H l _ Q i (by simpa using g) d
def Mi(b a:TE)(t:UM):TG:=λv Z H Q=>b Z H λo e=>a Z e λi c=>t o i v c λd=>Q Z d
theorem BL{o i:yZ}{e d:TE}{t:UM}(E:PE X o e)(hi:PE X i d)(A:Vk X t)
  (D:∀v,fX (.Subscript o i pos) X.env v=(do
   let b <- wW [v] (vO o X.env)
   let c <- wW [v,b] (vO i X.env)
   mV pos
   wW [v,b,c] (dU b c v)
   release [v,b,c] []):=by intro _;rfl):PG X (.Subscript o i pos) (Mi e d t):=by intro a s Z H v u Q I r h;rw[D];refine yO (jO (Zo (E a s Z H _ I h) λb q ⟨x,p,f,w,B⟩=>?_));refine yO (jO (Zo (hi a q Z p _ f B) λc z ⟨y,l,k,m,g⟩=>?_));refine yO (mK (yO (jO (Zo (A a z Z l x y v b c u _ k w m r g) λ_ F ⟨C,j,n⟩=>?_))));exact wpAny_release ⟨Z,C,j,n⟩
def Wo(a:TE)(g:TG):TS:=λD Z H=>a Z H λx b=>g x Z b D.nx
theorem RZ{b e:yZ}{c:TE}{g:TG}(he:PE X e c)(o:PG X b g)(l:mL [b] e pos.line X.env=pure Z5:=by rfl)(f:wE [b] e X.env=pure Z8:=by rfl)
  (m:(jP [b] X.env).map (·.2)=[fX b X.env]:=by rfl):PS X (.Assign [b] e pos) (Wo c g):=by intro a s Z H D I h;refine wpAny_Assign_stores (Zo (he a s Z H _ I h) λv j ⟨x,i,d,k,n⟩=>?_) l f;rw[m];exact Zo (o a j Z i x v _ d k n) λ_ p q=>q
end
section
variable {X:Cx}{pos:Pos}
def BK(c:TT)(g:TS):TS:=λD Z H=>∃W:Nat->St->Hp->Prop,(∃m,W m Z H)/\∀m Z H,W m Z H ->
 c Z H λb d=>if b=Z7 then ∃N:St->Hp->Prop,(∀e f,N e f->∃a,a<m/\W a e f)/\g { D with nx:=N,ct:=N,bk:=D.nx } Z d else D.nx Z d
theorem BJ{c:yZ}{d:List vK}{tc:TT}{A:TS}(z:fU (yW X.prog X.w) X.A X.env X.xe)(G:PT X c tc)(K:XE X d A):PS X (.While c d [] pos) (BK tc A):=by
 intro a s Z H D I h;obtain⟨W,⟨O,M⟩,g⟩:=h;refine wpAny_While (codeAny_whileLoop (λn E=>∃w B,ZR X a w B E/\W n w B) ?_ O ⟨Z,H,I,M⟩);rintro n J ⟨l,x,C,F⟩;refine vU z (Zo (G a J l x _ C (g n l x F)) λb L ⟨u,t,j⟩=>?_);cases b with
 |true =>
  obtain⟨N,y,j⟩:=j;refine vU z (Zo (K a L l u _ t j) λf P k=>?_);cases f with
  |next =>
   obtain⟨e,i,m,r⟩:=k;obtain⟨p,o,q⟩:=y e i r;exact⟨p,o,e,i,m,q⟩
  |cont =>
   obtain⟨e,i,m,r⟩:=k;obtain⟨p,o,q⟩:=y e i r;exact⟨p,o,e,i,m,q⟩
  |brk=>exact k
  |ret v=>exact k
 |false =>
  exact vT ⟨l,u,t,j⟩
end
structure It where
 go:Nat->Hp->Prop
 yld:Nat->Hp->V->Hp->Prop
 stop:Nat->Hp->Prop
def Yf(X:Cx)(a:yD)(H:Hp)(b:yR):Prop :=
 H b=Z8/\b≠X.env.locals/\b∉X.fs/\(b∈X.ex∨X.s₀.heap.objs.size<=b)/\(∀x c,X.env.cells.lookup x=Z9 c->c≠b)/\∀p∈X.pn++a,p.1≠b
theorem ZR.fpOk{X:Cx}{a:yD}{Z:St}{H f:Hp}{s:yS}{b:yR}(I:ZR X a Z H s)(d:s.heap.objs.size<=b)(g:f b=Z8):Yf X a f b:=by
 refine⟨g,qH1 (qB3 I.lt d),I.nofs d,.inr (qC6 I.sz d),λx c e z=>?_,λp h z=>?_⟩
 .obtain⟨v,q⟩:=I.cell x c e;exact absurd (qB3 q.lt (by rw[z];exact d)) (qG9 _)
 .exact absurd (qB3 (qB0 (I.pin p h).1) (by rw[z];exact d)) (qG9 _)
structure Xb(P:y4)(w:jD)(K:yQ)(tg:yZ)(JJ:It)(fp:yC)(it:yR)(tn:Nat->jE->Prop):Prop where
 mem:it∈fp
 obj:∀i h,tn i h->∀b∈fp,∃o,h.get? b=Z9 o/\∀v,o.data≠.cell v
 keep:∀i h h',tn i h->(∀b∈fp,∀o,h.get? b=Z9 o->h'.get? b=Z9 o)->tn i h'
 item:∀(X:Cx),X.prog=P->X.w=w->X.K=K->X.calm=Z7->∀(i:Nat) (pins:yD) (s:yS) (Z:St) (H:Hp) (E:yL),ZR X pins Z H s->(∀b∈fp,Yf X pins H b)->tn i s.heap->JJ.go i H ->
  y7 (yW P w) X.A (pyNext (.ref it)) (λr s1=>∃u,r=Z9 u /\
   y7 (yW P w) X.A (lF tg (.ref it) u) (λ_ s2=>∃x H',ZR X pins Z H' s2/\ZK x u/\JJ.yld i H x H'/\tn (i+1) s2.heap/\∀b∈fp,H' b=Z8) E s1) E s
 done:∀(X:Cx),X.prog=P->X.w=w->X.K=K->X.calm=Z7->∀(i:Nat) (pins:yD) (s:yS) (Z:St) (H:Hp) (E:yL),ZR X pins Z H s->(∀b∈fp,Yf X pins H b)->tn i s.heap->JJ.stop i H ->
  y7 (yW P w) X.A (pyNext (.ref it)) (λr s1=>r=Z8/\ZR X pins Z H s1) E s
 self:∀(A:jC) (i:Nat) (s:yS) (Q:yL) (E:yL),tn i s.heap->Q (.ref it) s->y7 (yW P w) A (pyIter (.ref it)) Q E s
abbrev TI:=St->Hp->(It->Hp->Prop)->Prop
inductive OH(X:Cx)(pins:yD)(Z:St)(tg:yZ)(R:It->Hp->Prop)(itv:yU)(s2:yS):Prop
 |mk (it:yR) (fp:yC) (tn:Nat->jE->Prop) (JJ:It) (H':Hp) (e:itv=.ref it) (I:ZR X pins Z H' s2) (T:Xb X.prog X.w X.K tg JJ fp it tn) (t0:tn 0 s2.heap) (f:∀b∈fp,Yf X pins H' b) (r:R JJ H')
def PI(X:Cx)(b iter:yZ)(c:TI):Prop :=
 ∀(a:yD) (s:yS) (Z:St) (H:Hp) (R:It->Hp->Prop),ZR X a Z H s->c Z H R ->
  y7 (yW X.prog X.w) X.A (vO iter X.env) (λv d=>y7 (yW X.prog X.w) X.A (pyIter v) (OH X a Z b R) X.xe d) X.xe s
theorem OG{M:mU}{A:jC}{E:yL}{s:yS}{c:yZ}{d:yR}{u:yU}{o:Obj}{n:String}{b:yJ}{Q:Unit->yS->Prop}(i:s.heap.get? d=Z9 o)(g:o.cls=.type n)(e:o.data=.fields b)
    (f:["enumerate","zip","dict_itemiterator","dict_reverseitemiterator","odict_iterator","itertools.zip_longest","itertools.pairwise"].contains n=Z5) (a:Q () s):y7 M A (lF c (.ref d) u) Q E s:=by
  cases c<;>first
    |exact yP a
    | (cases u<;>first
        |exact yP a
        | (refine yO (wpAny_load i ?_)
           rw[g,e];show y7 M A (if(["enumerate","zip","dict_itemiterator","dict_reverseitemiterator","odict_iterator","itertools.zip_longest","itertools.pairwise"].contains n&&b[0]? == Z9 (vI _))=Z7 then _ else _) Q E s;rw[if_neg (by intro h;rw[f,qP0]at h;cases h)];exact yP a))
noncomputable def Mh(K:yQ)(a:yR):It :=
 ⟨λi H=>∃b x,YA K H a b/\b[i]?=Z9 x,λi H x c=>c=H/\∀b,YA K H a b->b[i]?=Z9 x,λi H=>∃b,YA K H a b/\b.length<=i⟩
noncomputable def Mf(K:yQ)(a:yR):It :=
 ⟨λi H=>∃b x,Zg K H a b/\b[i]?=Z9 x,λi H x c=>c=H/\∀b,Zg K H a b->b[i]?=Z9 x,λi H=>∃b,Zg K H a b/\b.length<=i⟩
noncomputable def QW(lo:Int)(n:Nat):It:=⟨λi _=>i<n,λi H x a=>a=H/\x=.int (lo+i),λi _=>n<=i⟩
theorem BI{P:y4}{w:jD}{K:yQ}{Q:yZ}(a g:yR):Xb P w K Q (Mh K a) [g] g (λi h=>h.IsListIter g a i) where
 mem:=by simp
 obj:=λi h st b f=>by
  have e:=by simpa using f
  subst e;obtain⟨o,e,c,d⟩:=st;exact⟨o,e,λv z=>by rw[d]at z;cases z⟩
 keep:=λi h N st k=>st.at λo e=>k g (by simp) o e
 item:=by intro X y q J M i l s Z H E I n st G;subst y q J;obtain⟨T,x,m,A⟩:=G;obtain⟨C,t,p,U⟩:=I.list m;obtain⟨u,W,Y⟩:=t.get A;obtain⟨D,B,V,r,F,L⟩:=n g (by simp);refine gZ st p.isList (by simpa using W) λN j sb=>?_;have O:=I.turned (t':=s.toks) (λb o f e=>(sb.2 b f).trans e) D B r F L;obtain⟨o,e,c,d⟩:=id j;exact⟨u,rfl,OG e c d (by decide) ⟨x,H,O,Y,⟨rfl,λys S=>by rw[I.list_inj S m];exact A⟩,j,λb f=>(n b f).1⟩⟩
 done:=by intro X y q J M i l s Z H E I n st G;subst y q J;obtain⟨T,m,A⟩:=G;obtain⟨C,t,p,U⟩:=I.list m;obtain⟨D,B,V,r,F,L⟩:=n g (by simp);have hl:=t.length;exact lI (I.ok.hd M) st p.isList (by simp;omega) λN R=>⟨rfl,I.turned (t':=s.toks) (λb o f e=>R b o f e) D B r F L⟩
 self:=λ_ _ _ _ _ st h=>wpAny_pyIter_listiter st h
theorem BH{P:y4}{w:jD}{K:yQ}{Q:yZ}(a g:yR):Xb P w K Q (Mf K a) [g] g (λi h=>h.IsTupleIter g a i) where
 mem:=by simp
 obj:=λi h st b f=>by
  have e:=by simpa using f
  subst e;obtain⟨o,e,c,d⟩:=st;exact⟨o,e,λv z=>by rw[d]at z;cases z⟩
 keep:=λi h N st k=>st.at λo e=>k g (by simp) o e
 item:=by intro X y q J M i l s Z H E I n st G;subst y q J;obtain⟨T,x,m,A⟩:=G;obtain⟨C,t,p,U⟩:=I.tuple m;obtain⟨u,W,Y⟩:=t.get A;obtain⟨D,B,V,r,F,L⟩:=n g (by simp);refine wpAny_pyNext_tuple_item st (p) (by simpa using W) λN j sb=>?_;have O:=I.turned (t':=s.toks) (λb o f e=>(sb.2 b f).trans e) D B r F L;obtain⟨o,e,c,d⟩:=id j;exact⟨u,rfl,OG e c d (by decide) ⟨x,H,O,Y,⟨rfl,λys S=>by rw[I.tuple_inj S m];exact A⟩,j,λb f=>(n b f).1⟩⟩
 done:=by intro X y q J M i l s Z H E I n st G;subst y q J;obtain⟨T,m,A⟩:=G;obtain⟨C,t,p,U⟩:=I.tuple m;obtain⟨D,B,V,r,F,L⟩:=n g (by simp);have hl:=t.length;exact wpAny_pyNext_tuple_end (I.ok.hd M) st (p) (by simp;omega) λN R=>⟨rfl,I.turned (t':=s.toks) (λb o f e=>R b o f e) D B r F L⟩
 self:=λ_ _ _ _ _ st h=>wpAny_pyIter_tupleiter st h
theorem BG{P:y4}{w:jD}{K:PySem.W.Frag}{D:yZ}(c:yR)(lo:Int)(n:Nat):Xb P w K D (QW lo n) [c] c (λi h=>IsRangeIter h c (lo+(i:Nat)*1) ((n:Int) - (i:Nat)) 1) where
 mem:=by simp
 obj:=λi h st b d=>by
  have e:=by simpa using d
  subst e;exact⟨_,st,λv z=>by
   have N:Data.fields _=Data.cell v:=z;cases N⟩
 keep:=λi h x st k=>k c (by simp) _ st
 item:=by intro X p j A m i a s Z H E I g st y;subst p j A;obtain⟨r,q,G,l,u,B⟩:=g c (by simp);have W:=Walks.range (prog:=X.prog) (w:=X.w) (I.ok.hd m) c lo 1 n;refine W.item i s _ _ y st λv x M L f J=>?_;obtain⟨t,rfl⟩:=L;have C:ZR X a Z H { s with heap:=x,toks:=M }:=I.turned (λb o d e=>J b o (by simpa using d) e) r q l u B;refine⟨_,rfl,OG f rfl rfl (by decide) ⟨.int (lo+i),H,C,⟨t,?_⟩,⟨rfl,rfl⟩,f,λb d=>(g b d).1⟩⟩;rw[Int.mul_one]
 done:=by intro X p j A m i a s Z H E I g st y;subst p j A;obtain⟨r,q,G,l,u,B⟩:=g c (by simp);exact wpAny_pyNext_range_end (I.ok.hd m) st (by have:n<=i:=y;omega) λx F=>⟨rfl,I.turned (t':=s.toks) (λb o d e=>F b o d e) r q l u B⟩
 self:=λ_ _ _ _ _ st h=>wpAny_pyIter_rangeiter st h
section
variable {X:Cx}{tg:yZ}
theorem HN{a:yD}{Z:St}{H:Hp}{s:yS}{R:It->Hp->Prop}{E:yL}{lo hi:Int}{t u v:Tok}{tk:Nat}(I:ZR X a Z H s)(h:-(2 ^ 62)<=lo)(i:lo<2 ^ 62)(k:-(2 ^ 62)<=hi)(g:hi<2 ^ 62)
  (q:R (QW lo (hi - lo).toNat) H):y7 (yW X.prog X.w) X.A (pyIter (.ref s.heap.objs.size)) (OH X a Z tg R) E { s with heap:=s.heap.push { cls:=.type "range",data:=.fields #[.int lo t,.int hi u,.int 1 v] },toks:=tk }:=by
 refine wpAny_pyIter_range (IsRange.new ..) (small_one h i k g) ?_;have c:ZR X a Z H { s with heap:=s.heap.push { cls:=.type "range",data:=.fields #[.int lo t,.int hi u,.int 1 v] },toks:=tk }:=I.kept λb o e=>qA4 _ e;refine⟨(s.heap.push { cls:=.type "range",data:=.fields #[.int lo t,.int hi u,.int 1 v] }).objs.size,[(s.heap.push { cls:=.type "range",data:=.fields #[.int lo t,.int hi u,.int 1 v] }).objs.size],_,_,H,rfl,
  c.kept (t':=tk) λb o e=>qA4 _ e,BG _ lo (hi - lo).toNat,?_,λb f=>?_,q⟩
 .have j:lo+((0:Nat):Int)*1=lo:=by simp
  have d:(((hi - lo).toNat:Nat):Int) - ((0:Nat):Int)=Builtin.Range.rangeSize lo hi 1:=by rw[rangeSize_one];split<;>omega
  rw[j,d];exact qB1 _ rfl
 .have e:b=(s.heap.push { cls:=.type "range",data:=.fields #[.int lo t,.int hi u,.int 1 v] }).objs.size:=by simpa using f
  subst e;exact c.fpOk (qA7 _) (c.hok.fresh (qA7 _))
def HM(b:TA):TI:=fun Z H R=>b Z H λa c=>∃j:Int,a=[.int j]/\-(2 ^ 62)<=j/\j<2 ^ 62/\R (QW 0 j.toNat) c
def HL(b:TA):TI:=fun Z H R=>b Z H λa c=>∃i j:Int,a=[.int i,.int j]/\(-(2 ^ 62)<=i/\i<2 ^ 62/\-(2 ^ 62)<=j/\j<2 ^ 62)/\R (QW i (j - i).toNat) c
theorem BE{a:yZ}{d:TA}{p pos:Pos}(n:Gl X "range")(hm:X.mg "range"=Z8)(l:PA X [a] d)(k:jG [a] X.env=[(Z5,vO a X.env)]:=by rfl):PI X tg (.Call (.Name "range" p) [a] [] pos) (HM d):=by
 intro b s Z H R I h;refine Call_ (Tp I n hm boot_range (j7 (Zo (l pos b s Z H _ I h) λw u ⟨v,o,f,i,c⟩=>?_) k rfl));obtain⟨j,e,c,g,q⟩:=c;subst e;cases i with
 |cons r m =>
  cases m;obtain⟨t,rfl⟩:=r;exact call_range_1 (HN f (by omega) (by omega) c g (by simpa using q))
theorem BD{a b:yZ}{k:TA}{p pos:Pos}(y:Gl X "range")(hm:X.mg "range"=Z8)(x:PA X [a,b] k)(v:jG [a,b] X.env=[(Z5,vO a X.env),(Z5,vO b X.env)]:=by rfl)(c:jG [b] X.env=[(Z5,vO b X.env)]:=by rfl):
  PI X tg (.Call (.Name "range" p) [a,b] [] pos) (HL k):=by
 intro d s Z H R I h;refine Call_ (Tp I y hm boot_range (j7 (Zo (x pos d s Z H _ I h) λD B ⟨C,A,l,u,f⟩=>?_) (by rw[v,c]) (by rw[c];rfl)));obtain⟨i,j,e,⟨f,m,n,w⟩,q⟩:=f;subst e;cases u with
 |cons r g =>
  cases g with
  |cons o g =>
   cases g;obtain⟨t,rfl⟩:=r;obtain⟨z,rfl⟩:=o;exact call_range_2 (HN l f m n w q)
def Me(k:TI)(g:TG)(e:TS):TS:=λD Z H=>k Z H λb j=>∃W:Nat->Nat->St->Hp->Prop,(∃m,W 0 m Z j)/\∀i m Z H,W i m Z H ->
 (b.stop i H/\D.nx Z H)∨(b.go i H/\∃N:St->Hp->Prop,(∀d a,N d a->∃c,c<m/\W (i+1) c d a)/\∀x a,b.yld i H x a->g x Z a fun h f=>e { D with nx:=N,ct:=N,bk:=D.nx } h f)
noncomputable def QV(a:yC)(h:jE):yD:=a.filterMap λb=>(h.get? b).map λo=>(b,o)
theorem QU{a:yC}{h:jE}{b:yR}{o:Obj}(c:b∈a)(e:h.get? b=Z9 o):(b,o)∈QV a h:=qP8.mpr ⟨b,c,by rw[e];rfl⟩
theorem BC{a:yC}{h:jE}{p:yR×Obj}(d:p∈QV a h):p.1∈a/\h.get? p.1=Z9 p.2:=by
 obtain⟨b,c,e⟩:=qP8.mp d;cases q:h.get? b with
 |none=>rw[q]at e;cases e
 |some o =>
  rw[q]at e;have f:=Option.some.inj e;subst f;exact⟨c,q⟩
theorem ZR.pinned{a:yD}{Z:St}{H:Hp}{s:yS}{c:yC}(I:ZR X a Z H s)(m:∀b∈c,Yf X a H b)(l:∀b∈c,∃o,s.heap.get? b=Z9 o/\∀v,o.data≠.cell v):ZR X (a++QV c s.heap) Z H s :=
 I.pins_of λp h=>(qB9.mp h).elim (λz=>I.pin p (qC4 _ z)) λz=>by obtain⟨g,e⟩:=BC z;obtain⟨k,i,j,_⟩:=m p.1 g;obtain⟨o,f,d⟩:=l p.1 g;rw[e]at f;cases f;exact⟨e,k,i,j,d⟩
theorem ZR.unpinned{a c:yD}{Z:St}{H:Hp}{s:yS}(I:ZR X (a++c) Z H s):ZR X a Z H s:=I.pins_of λp b=>I.pin p (qC4 _ (qE9 _ b))
theorem HK{iter:yZ}{t:List vK}{wi:TI}{g:TG}{tb:TS}{pos:Pos}(C:fU (yW X.prog X.w) X.A X.env X.xe)(V:X.calm=Z7)(hi:PI X tg iter wi)(hg:PG X tg g)(l:XE X t tb)
  (hs:∀x,vF iter X.env x=pure x:=by intro _;rfl):PS X (.For tg iter t [] pos) (Me wi g tb):=by
 intro a s Z H D I h;refine wpAny_For (Zo (hi a s Z H _ I h) λv s1 h1=>Zo h1 λitv s2 h2=>?_) hs;obtain⟨it,J,tn,JJ,H2,e,I2,T,O,Y,W,⟨m0,w0⟩,E⟩:=h2;subst e;have c:∀{H':Hp},(∀b∈J,H' b=Z8)->∀b∈J,Yf X a H' b:=λhn b l=>⟨hn b l,(Y b l).2⟩
 refine codeAny_forLoop_any (λn U=>∃i A H',ZR X a A H' U/\tn i U.heap/\(∀b∈J,H' b=Z8)/\W i n A H') ?_ m0 ⟨0,Z,H2,I2,O,λb l=>(Y b l).1,w0⟩;rintro n S ⟨i,B,K,I3,G,y,w3⟩;rcases E i n B K w3 with⟨F,qn⟩| ⟨go,N,hN,step⟩
 .refine vU C (Zo (T.done X rfl rfl rfl V i a S B K X.xe I3 (c y) G F) λr s4 ⟨Q,I4⟩=>?_);subst Q;exact vT ⟨B,K,I4,qn⟩
 .refine vU C (Zo (T.item X rfl rfl rfl V i a S B K X.xe I3 (c y) G go) λr s4 ⟨u,Q,h4⟩=>?_);subst Q;refine vU C (Zo h4 λ_ R ⟨x,H5,I5,r5,y5,w,M⟩=>?_);have L:=I5.pinned (c M) (T.obj _ _ w);refine vU C (Zo (hg _ R B H5 x u _ L r5 (step x H5 y5)) λ_ s6 ⟨Z6,H6,I6,q6⟩=>?_);refine vU C (Zo (l _ s6 Z6 H6 _ I6 q6) λf P q=>?_);have again:∀{k:St}{j:Hp},ZR X (a++QV J R.heap) k j P->N k j->∃m,m<n/\∃i A H',ZR X a A H' P/\tn i P.heap/\(∀b∈J,H' b=Z8)/\W i m A H':=λ{k j} p z=>by obtain⟨m',hm,w7⟩:=hN k j z;refine⟨m',hm,i+1,k,j,p.unpinned,T.keep _ _ _ w λb l o e=>(p.pin (b,o) (qC4 _ (qC4 _ (QU l e)))).1,λb l=>?_,w7⟩;obtain⟨o,e,d⟩:=T.obj _ _ w b l;exact(p.pin (b,o) (qC4 _ (qC4 _ (QU l e)))).2.1
  cases f with
  |next=>obtain⟨k,j,p,z⟩:=q;exact again p z
  |cont=>obtain⟨k,j,p,z⟩:=q;exact again p z
  |brk=>obtain⟨k,j,p,q⟩:=q;exact⟨k,j,p.unpinned,q⟩
  |ret v=>obtain⟨x7,k,j,p,r7,q⟩:=q;exact⟨x7,k,j,p.unpinned,r7,q⟩
end
abbrev R2:=V->V->Hp->VK->Prop
def Y0(X:Cx)(f:yU->yU->Sem yU)(r:R2):Prop :=
 ∀(a:yD) (s:yS) (Z:St) (H:Hp) (x y:V) (v u:yU) (Q:VK),ZR X a Z H s->ZK x v->ZK y u->r x y H Q ->
  y7 (yW X.prog X.w) X.A (f v u) (EP X a Z Q) X.xe s
def QT(X:Cx)(f:yU->Sem yU)(r:V->Hp->VK->Prop):Prop :=
 ∀(a:yD) (s:yS) (Z:St) (H:Hp) (x:V) (v:yU) (Q:VK),ZR X a Z H s->ZK x v->r x H Q ->
  y7 (yW X.prog X.w) X.A (f v) (EP X a Z Q) X.xe s
def Ys(X:Cx)(f:yU)(r:List V->Hp->VK->Prop):Prop :=
 ∀(a:yD) (s:yS) (Z:St) (H:Hp) (c:List V) (b:yB) (Q:VK),ZR X a Z H s->ZO c b->r c H Q ->
  y7 (yW X.prog X.w) X.A (call f b) (EP X a Z Q) X.xe s
def Md(X:Cx)(r:V->Hp->(Bool->Hp->Prop)->Prop):Prop :=
 ∀(a:yD) (s:yS) (Z:St) (H:Hp) (x:V) (v:yU) (Q:Bool->Hp->Prop),ZR X a Z H s->ZK x v->r x H Q ->
  y7 (yW X.prog X.w) X.A (truthy v) (TP X a Z Q) X.xe s
def QS(r:R2)(b d:TE):TE:=fun Z H Q=>b Z H λx c=>d Z c λy a=>r x y a Q
def BA(r:V->Hp->VK->Prop)(a:TE):TE:=fun Z H Q=>a Z H λx b=>r x b Q
def rI(C:Int->Int->Prop)(g:Int->Int->V):R2:=λx y H Q=>∃i j,x=.int i/\y=.int j/\C i j/\Q (g i j) H
def VJ(g:Int->Int->V):R2:=λx y H Q=>∃i j,x=.int i/\y=.int j/\Q (g i j) H
def rU(g:Int->V):V->Hp->VK->Prop:=λx H Q=>∃i,x=.int i/\Q (g i) H
section
variable {X:Cx}{a b c:yZ}{ta tb tc:TE}{pos:Pos}
theorem Tn(w:PE X a ta)(q:PE X b tb){d:yD}{s:yS}{Z:St}{H:Hp}{R:V->V->Hp->Prop}(I:ZR X d Z H s)
  (h:ta Z H λx k=>tb Z k λy e=>R x y e) {Q:yL}{f:yU->yU->Sem yU}
  (z:∀v u j x y e,ZR X d Z e j->ZK x v->ZK y u->R x y e->y7 (yW X.prog X.w) X.A (f v u) Q X.xe j) :
  y7 (yW X.prog X.w) X.A (vO a X.env) (λv i=>y7 (yW X.prog X.w) X.A (vO b X.env) (λu g=>y7 (yW X.prog X.w) X.A (f v u) Q X.xe g) X.xe i) X.xe s:=by refine Zo (w d s Z H _ I h) λv p ⟨x,k,l,r,t⟩=>?_;refine Zo (q d p Z k _ l t) λu j ⟨y,e,n,o,m⟩=>?_;exact z v u j x y e n r o m
theorem Bz{op:mW}{r:R2}(l:Y0 X (jK op) r)(k:PE X a ta)(g:PE X b tb):PE X (.BinOp a op b pos) (QS r ta tb):=by intro d s Z H Q I h;exact wpAny_BinOp (Tn k g I h λv u j x y f e i m q=>l d j Z f x y v u Q e i m q)
theorem By{op:UnaryOp}{r:V->Hp->VK->Prop}(k:QT X (unaryOp op) r)(g:PE X a ta):PE X (.UnaryOp op a pos) (BA r ta):=by intro d s Z H Q I h;exact UnaryOp_ (Zo (g d s Z H _ I h) λv l ⟨x,j,e,i,f⟩=>k d l Z j x v Q e i f)
theorem RY{f:yU->yU->Sem yU}{C:Int->Int->Prop}{g:Int->Int->Int}
  (rule:∀(i j:Int) (t u:Tok) (s:yS) (Q:yL) (E:yL),C i j->Q (.int (g i j) s.toks) { s with toks:=s.toks+1 }->y7 (yW X.prog X.w) X.A (f (.int i t) (.int j u)) Q E s) :
  Y0 X f (rI C λi j=>.int (g i j)):=by intro d s Z H x y v u Q I l m h;obtain⟨i,j,rfl,rfl,k,q⟩:=h;obtain⟨t,rfl⟩:=l;obtain⟨e,rfl⟩:=m;exact rule i j t e s _ _ k ⟨.int (g i j),H,I.tok _,⟨_,rfl⟩,q⟩
theorem Vj{f:yU->yU->Sem yU}{g:Int->Int->Int}
  (rule:∀(i j:Int) (t u:Tok) (s:yS) (Q:yL) (E:yL),Q (.int (g i j) s.toks) { s with toks:=s.toks+1 }->y7 (yW X.prog X.w) X.A (f (.int i t) (.int j u)) Q E s) :
  Y0 X f (VJ λi j=>.int (g i j)):=by intro d s Z H x y v u Q I k l h;obtain⟨i,j,rfl,rfl,q⟩:=h;obtain⟨t,rfl⟩:=k;obtain⟨e,rfl⟩:=l;exact rule i j t e s _ _ ⟨.int (g i j),H,I.tok _,⟨_,rfl⟩,q⟩
theorem UK{f:yU->yU->Sem yU}{g:Int->Int->Bool}
  (rule:∀(i j:Int) (t u:Tok) (s:yS) (Q:yL) (E:yL),Q (.bool (g i j)) s->y7 (yW X.prog X.w) X.A (f (.int i t) (.int j u)) Q E s) :
  Y0 X f (VJ λi j=>.bl (g i j)):=by intro d s Z H x y v u Q I k l h;obtain⟨i,j,rfl,rfl,q⟩:=h;obtain⟨t,rfl⟩:=k;obtain⟨e,rfl⟩:=l;exact rule i j t e s _ _ ⟨.bl (g i j),H,I,rfl,q⟩
def Mc(i j:Int):Prop:=0<j/\j<1073741824
def QR(i j:Int):Prop:=0<=j/\j<=1000000/\i.natAbs<2 ^ 64
def UJ(i j:Int):Prop:=(-(2 ^ 64)<i/\i<2 ^ 64)∨(-(2 ^ 64)<j/\j<2 ^ 64)
theorem UJ.ok{i j:Int}(h:UJ i j):IntMulOk i j:=by
 rcases h with⟨d,e⟩| ⟨d,e⟩
 .exact .of_left (intBits_le_64 d e)
 .exact .of_right (intBits_le_64 d e)
theorem Bx(k:Nat):(0:Int)<=2 ^ k:=by grind
theorem Bw:Y0 X (jK .Add) (VJ λi j=>.int (i+j)):=Vj λ_ _ _ _ _ _ _ q=>add_int q
theorem Bv:Y0 X (jK .Sub) (VJ λi j=>.int (i - j)):=Vj λ_ _ _ _ _ _ _ q=>sub_int q
theorem Bu:Y0 X (jK .Mult) (rI UJ λi j=>.int (i*j)):=RY λ_ _ _ _ _ _ _ d q=>mul_int q d.ok
theorem Bt:Y0 X (jK .FloorDiv) (rI Mc λi j=>.int (i / j)):=RY λi j _ _ _ _ _ d q=>by have e:=d.1;have f:=d.2;exact floordiv_int (by omega) (by rw[qN1 i (by omega)];exact q) (.inl (PyProof.noPylong_small (by omega)))
theorem Bs:Y0 X (jK .Mod) (rI (λ_ j=>0<j) λi j=>.int (i % j)):=RY λi j _ _ _ _ _ d q=>by exact mod_int' (by omega) (by rw[Int.fmod_eq_emod_of_nonneg i (by omega)];exact q)
theorem Br:Y0 X (jK .Pow) (rI QR λi j=>.int (i ^ j.toNat)):=RY λ_ _ _ _ _ _ _ d q=>pow_int_small d.1 d.2.1 d.2.2 q
theorem Bq:Y0 X (jK .LShift) (rI QR λi j=>.int (i*2 ^ j.toNat)):=RY λ_ _ _ _ _ _ _ d q=>lshift_int_small d.1 d.2.1 d.2.2 q
theorem Bp:Y0 X (jK .RShift) (rI (λ_ j=>0<=j) λi j=>.int (i / 2 ^ j.toNat)):=RY λi j _ _ _ _ _ d q =>
 rshift_int d (by rw[qN1 i (Bx _)];exact q)
theorem Bo:Y0 X (jK .BitAnd) (VJ λi j=>.int (jI i j)):=Vj λ_ _ _ _ _ _ _ q=>and_int q
theorem Bn:Y0 X (jK .BitOr) (VJ λi j=>.int (vC i j)):=Vj λ_ _ _ _ _ _ _ q=>or_int q
theorem Bm:Y0 X (jK .BitXor) (VJ λi j=>.int (lP i j)):=Vj λ_ _ _ _ _ _ _ q=>xor_int q
theorem Bl{f:yU->Sem yU}{g:Int->Int}
  (rule:∀(i:Int) (t:Tok) (s:yS) (Q:yL) (E:yL),Q (.int (g i) s.toks) { s with toks:=s.toks+1 }->y7 (yW X.prog X.w) X.A (f (.int i t)) Q E s) :
  QT X f (rU λi=>.int (g i)):=by intro d s Z H x v Q I e h;obtain⟨i,rfl,q⟩:=h;obtain⟨t,rfl⟩:=e;exact rule i t s _ _ ⟨.int (g i),H,I.tok _,⟨_,rfl⟩,q⟩
theorem Bk:QT X (unaryOp .USub) (rU λi=>.int (-i)):=Bl λ_ _ _ _ _ q=>neg_int q
end
noncomputable def QQ:V->V->Bool
 |.non,.non=>Z7|.non,.int _=>Z7|.int _,.non=>Z7|.non,.bl _=>Z7|.bl _,.non=>Z7|.non,.str _=>Z7|.str _,.non=>Z7
 |.int _,.int _=>Z7|.bl _,.bl _=>Z7|.str _,.str _=>Z7|.byt _,.byt _=>Z7
 |.int _,.str _=>Z7|.str _,.int _=>Z7|.bl _,.str _=>Z7|.str _,.bl _=>Z7
 |_,_=>Z5
def Bj:R2:=λx y H Q=>QQ x y=Z7/\Q (.bl (decide (x=y))) H
def Bi:R2:=λx y H Q=>QQ x y=Z7/\Q (.bl (!decide (x=y))) H
theorem HI{i j:Int}:decide (V.int i=V.int j)=(i == j):=by grind
theorem HH{i j:Bool}:decide (V.bl i=V.bl j)=(i == j):=by grind
theorem HG{i j:Str}:decide (V.str i=V.str j)=(i == j):=by grind
theorem HE{i j:Array UInt8}:decide (V.byt i=V.byt j)=(i.toList == j.toList):=by rw[qR8];cases i;cases j;simp
section
variable {X:Cx}{a b c:yZ}{ta tb tc:TE}{pos:Pos}
theorem Yi{d:yD}{Z:St}{H:Hp}{s:yS}{Q:VK}{k f:Bool}(I:ZR X d Z H s)(q:Q (.bl k) H)(e:k=f):EP X d Z Q (.bool f) s:=by subst e;exact⟨.bl k,H,I,rfl,q⟩
theorem Bh:Y0 X (y8 .Eq) Bj:=by
 intro k s Z H x y v u Q I g d h;obtain⟨f,q⟩:=h;cases x with
 |non =>
  cases g;cases y with
  |non=>cases d;exact PySem.EqNone.eq_none_none (Yi I q (by simp))
  |bl j=>cases d;exact PySem.EqNone.eq_none_bool (Yi I q (by simp))
  |int j=>obtain⟨e,rfl⟩:=d;exact PySem.EqNone.eq_none_int (Yi I q (by simp))
  |str j=>obtain⟨e,rfl⟩:=d;exact PySem.EqNone.eq_none_str (Yi I q (by simp))
  |_=>exact absurd (show Z5=Z7 from f) qB4
 |bl i =>
  cases g;cases y with
  |non=>cases d;exact PySem.EqNone.eq_bool_none (Yi I q (by simp))
  |bl j=>cases d;exact eq_bool (Yi I q HH)
  |str j=>obtain⟨e,rfl⟩:=d;exact PySem.EqMixed.eq_bool_str (Yi I q (by simp))
  |_=>exact absurd (show Z5=Z7 from f) qB4
 |int i =>
  obtain⟨t,rfl⟩:=g;cases y with
  |non=>cases d;exact PySem.EqNone.eq_int_none (Yi I q (by simp))
  |int j=>obtain⟨e,rfl⟩:=d;exact eq_int (Yi I q HI)
  |str j=>obtain⟨e,rfl⟩:=d;exact PySem.EqMixed.eq_int_str (Yi I q (by simp))
  |_=>exact absurd (show Z5=Z7 from f) qB4
 |str i =>
  obtain⟨t,rfl⟩:=g;cases y with
  |non=>cases d;exact PySem.EqNone.eq_str_none (Yi I q (by simp))
  |bl j=>cases d;exact PySem.EqMixed.eq_str_bool (Yi I q (by simp))
  |int j=>obtain⟨e,rfl⟩:=d;exact PySem.EqMixed.eq_str_int (Yi I q (by simp))
  |str j=>obtain⟨e,rfl⟩:=d;exact eq_str (Yi I q HG)
  |_=>exact absurd (show Z5=Z7 from f) qB4
 |byt i =>
  obtain⟨t,rfl⟩:=g;cases y with
  |byt j=>obtain⟨e,rfl⟩:=d;exact W.eq_bytes (Yi I q HE)
  |_=>exact absurd (show Z5=Z7 from f) qB4
 |_=>cases y<;>exact absurd (show Z5=Z7 from f) qB4
theorem Bg:Y0 X (y8 .NotEq) Bi:=by
 intro k s Z H x y v u Q I g d h;obtain⟨f,q⟩:=h;cases x with
 |non =>
  cases g;cases y with
  |non=>cases d;exact PySem.EqNone.ne_none_none (Yi I q (by simp))
  |bl j=>cases d;exact PySem.EqNone.ne_none_bool (Yi I q (by simp))
  |int j=>obtain⟨e,rfl⟩:=d;exact PySem.EqNone.ne_none_int (Yi I q (by simp))
  |str j=>obtain⟨e,rfl⟩:=d;exact PySem.EqNone.ne_none_str (Yi I q (by simp))
  |_=>exact absurd (show Z5=Z7 from f) qB4
 |bl i =>
  cases g;cases y with
  |non=>cases d;exact PySem.EqNone.ne_bool_none (Yi I q (by simp))
  |bl j=>cases d;exact ne_bool (Yi I q (congrArg not HH))
  |str j=>obtain⟨e,rfl⟩:=d;exact PySem.EqMixed.ne_bool_str (Yi I q (by simp))
  |_=>exact absurd (show Z5=Z7 from f) qB4
 |int i =>
  obtain⟨t,rfl⟩:=g;cases y with
  |non=>cases d;exact PySem.EqNone.ne_int_none (Yi I q (by simp))
  |int j=>obtain⟨e,rfl⟩:=d;exact ne_int (Yi I q (congrArg not HI))
  |str j=>obtain⟨e,rfl⟩:=d;exact PySem.EqMixed.ne_int_str (Yi I q (by simp))
  |_=>exact absurd (show Z5=Z7 from f) qB4
 |str i =>
  obtain⟨t,rfl⟩:=g;cases y with
  |non=>cases d;exact PySem.EqNone.ne_str_none (Yi I q (by simp))
  |bl j=>cases d;exact PySem.EqMixed.ne_str_bool (Yi I q (by simp))
  |int j=>obtain⟨e,rfl⟩:=d;exact PySem.EqMixed.ne_str_int (Yi I q (by simp))
  |str j=>obtain⟨e,rfl⟩:=d;exact ne_str (Yi I q (congrArg not HG))
  |_=>exact absurd (show Z5=Z7 from f) qB4
 |byt i =>
  obtain⟨t,rfl⟩:=g;cases y with
  |byt j=>obtain⟨e,rfl⟩:=d;exact W.ne_bytes (Yi I q (congrArg not HE))
  |_=>exact absurd (show Z5=Z7 from f) qB4
 |_=>cases y<;>exact absurd (show Z5=Z7 from f) qB4
theorem zJZ:Y0 X (y8 .Lt) (VJ λi j=>.bl (decide (i<j))):=UK λ_ _ _ _ _ _ _ q=>lt_int q
theorem Bf:Y0 X (y8 .LtE) (VJ λi j=>.bl (decide (i<=j))):=UK λ_ _ _ _ _ _ _ q=>le_int q
theorem Be:Y0 X (y8 .Gt) (VJ λi j=>.bl (decide (j<i))):=UK λ_ _ _ _ _ _ _ q=>gt_int q
theorem Bd:Y0 X (y8 .GtE) (VJ λi j=>.bl (decide (j<=i))):=UK λ_ _ _ _ _ _ _ q=>ge_int q
theorem Bc:Y0 X (y8 .Is) (λx y H Q=>y=.non/\Q (.bl (decide (x=.non))) H):=by
 intro d s Z H x y v u Q I e f h;obtain⟨rfl,q⟩:=h;cases f;refine is_none_gen (Yi I q ?_);cases x<;>first
  |(cases e;rfl)
  |(obtain⟨t,rfl⟩:=e;rfl)
theorem Bb:Y0 X (y8 .IsNot) (λx y H Q=>y=.non/\Q (.bl (!decide (x=.non))) H):=by
 intro d s Z H x y v u Q I e f h;obtain⟨rfl,q⟩:=h;cases f;refine isnot_none_gen (Yi I q ?_);cases x<;>first
  |(cases e;rfl)
  |(obtain⟨t,rfl⟩:=e;rfl)
theorem Ba{op:fY}{r:R2}(l:Y0 X (y8 op) r)(k:PE X a ta)(g:PE X b tb)(hm:fH op b=Z5):PE X (.Compare a [op] [b] pos) (QS r ta tb):=by intro d s Z H Q I h;exact wpAny_Compare1 (Tn k g I h λv u j x y f e i m q=>l d j Z f x y v u Q e i m q) hm
def Mb(t:TE):TT:=fun Z H Q=>t Z H λx d=>∃k,x=.bl k/\Q k d
theorem A9{op:fY}{r:R2}(E:Y0 X (y8 op) r)(D:PE X a ta)(q:PE X b tb)(hm:fH op b=Z5):PT X (.Compare a [op] [b] pos) (Mb (QS r ta tb)):=by
 intro d s Z H Q I h;refine wpAny_isTrue_Compare1 (Zo (D d s Z H _ I h) λv p ⟨x,o,f,t,B⟩=>Zo (q d p Z o _ f B) λu w ⟨y,l,j,m,g⟩ =>
  Zo (E d w Z l x y v u _ j t m g) λc F ⟨z,C,i,A,k,e,n⟩=>?_) hm
 subst e;cases A;exact jX ⟨C,i,n⟩
def Ma(r e:R2)(h l tc:TE):TE:=fun Z H Q=>h Z H λx g=>l Z g λy f=>r x y f λz d=>∃k,z=.bl k /\
 (if k=Z7 then tc Z d λi j=>e y i j Q else Q (.bl Z5) d)
theorem A8{op g:fY}{r n:R2}(R:Y0 X (y8 op) r)(i:Y0 X (y8 g) n)(N:PE X a ta)(E:PE X b tb)(B:PE X c tc)
  (hm:mF [op,g] [b,c]=Z5:=by with_unfolding_all rfl):PE X (.Compare a [op,g] [b,c] pos) (Ma r n ta tb tc):=by
 intro f s Z H Q I h;refine Compare_chain (Zo (N f s Z H _ I h) λv D ⟨x,C,p,F,M⟩=>chain_link (Zo (E f D Z C _ p M) λu G ⟨y,A,w,l,q⟩ =>
  Zo (R f G Z A x y v u _ w F l q) λd U ⟨z,o,j,K,k,e,m⟩=>?_)) hm
 subst e;cases K;refine jX ?_;cases k with
 |false=>exact ite_ff ⟨.bl Z5,o,j,rfl,m⟩
 |true=>exact ite_tt (chain_last (Zo (B f U Z o _ j m) λO T ⟨S,P,J,t,L⟩=>i f T Z P y S u O Q J l t L))
theorem A7{op g:fY}{r n:R2}(ho:Y0 X (y8 op) r)(i:Y0 X (y8 g) n)(U:PE X a ta)(J:PE X b tb)(D:PE X c tc)
  (hm:mF [op,g] [b,c]=Z5:=by with_unfolding_all rfl):PT X (.Compare a [op,g] [b,c] pos) (Mb (Ma r n ta tb tc)):=by
 intro f s Z H Q I h;refine isTrue_chain (Zo (U f s Z H _ I h) λv G ⟨x,F,p,M,T⟩=>test_link (Zo (J f G Z F _ p T) λu N ⟨y,B,A,l,q⟩ =>
  Zo (ho f N Z B x y v u _ A M l q) λd s3 ⟨z,o,j,R,k,e,m⟩=>?_)) hm
 subst e;cases R;refine jX ?_;cases k with
 |false =>
  obtain⟨k',C,L⟩:=m;cases C;exact ite_ff ⟨o,j,L⟩
 |true =>
  refine ite_tt (test_last (Zo (D f s3 Z o _ j m) λV s4 ⟨z',W,O,w,S⟩=>Zo (i f s4 Z W y z' u V _ O l w S) λd' s5 ⟨z2,Y,P,K,k2,E,t⟩=>?_));subst E;cases K;exact jX ⟨Y,P,t⟩
def Tj(K:yQ)(x:V)(H:Hp)(k:Bool):Prop :=
 match x with
 |.non=>k=Z5
 |.bl b=>k=b
 |.int i=>k=(i != 0)
 |.str y=>y.length<=jA/\k=((y.length:Int) != 0)
 |.byt y=>y.size<=jA/\k=((y.size:Int) != 0)
 |.ref p=>(∃d,YA K H p d/\k=!d.isEmpty)∨(∃d,Zg K H p d/\k=!d.isEmpty)∨∃e,H p=Z9 (.dK e)/\k=!e.isEmpty
 |_=>False
theorem A6{e:Type}{kvs:List (e×V)}{d:List (e×yU)}(r:KV kvs d):(!d.isEmpty)=!kvs.isEmpty:=by cases r<;>rfl
theorem HD{xs:List V}{d:yB}(r:ZO xs d):(!d.toArray.isEmpty)=!xs.isEmpty:=by cases r<;>simp
theorem QP:(jA:Nat)<2 ^ 63:=by decide
theorem A5:Md X (λx H Q=>∃k,Tj X.K x H k/\Q k H):=by
 intro w s Z H x v Q I g h;obtain⟨k,e,q⟩:=h;have C:=wF;cases x with
 |non =>
  cases g;have d:k=Z5:=e;subst d;exact truthy_none ⟨H,I,q⟩
 |bl b =>
  cases g;have d:k=b:=e;subst d;exact jX ⟨H,I,q⟩
 |int i =>
  obtain⟨t,rfl⟩:=g;have d:=e;subst d;exact PySem.P.truthy_int ⟨H,I,q⟩
 |str y =>
  obtain⟨t,rfl⟩:=g;obtain⟨B,d⟩:y.length<=jA/\k=((y.length:Int) != 0):=e;subst d;exact PySem.P.truthy_str (by omega) ⟨H,I.tok _,q⟩
 |byt y =>
  obtain⟨t,rfl⟩:=g;obtain⟨B,d⟩:y.size<=jA/\k=((y.size:Int) != 0):=e;subst d;exact W.truthy_bytes (by omega) ⟨H,I.tok _,q⟩
 |ref p =>
  cases g;have d:=e;rcases d with⟨A,j,d⟩| ⟨A,j,d⟩| ⟨l,j,d⟩
  .subst d;obtain⟨n,r,o,u⟩:=I.list j;have f:=r.length;exact wpAny_truthy_list o.isList (by simp only[qB5];omega) ⟨H,I.tok _,by rw[HD r];exact q⟩
  .subst d;obtain⟨n,r,o,u⟩:=I.tuple j;have f:=r.length;exact truthy_tuple o (by simp only[qB5];omega) ⟨H,I.tok _,by rw[HD r];exact q⟩
  .subst d;obtain⟨u,z,vs,r,m⟩:l.length<=jA/\(p == vN)=Z5/\∃vs,KV l vs/\s.heap.DictOf (Yw X.prog X.w) p vs:=I.hok p _ j;have f:=Paired.length r;exact wpAny_truthy_dict z m (by omega) ⟨H,I.tok _,by rw[A6 r];exact q⟩
 |_=>exact(e).elim
theorem A4(j:PE X a ta)(he:∀d,dJ a X.env d=(do let v <- d;mV a.pos;wW [v] (truthy v))):
  PT X a (fun Z H Q=>ta Z H λx f=>∃k,Tj X.K x f k/\Q k f):=by intro e s Z H Q I h;exact isTrue_plain (Zo (j e s Z H _ I h) λv n ⟨x,m,g,l,i⟩=>A5 e n Z m x v Q g l i) (he _)
theorem A3:Y0 X (jK .Add) (λx y H Q=>∃i j,x=.str i/\y=.str j/\i.length+j.length<=jA/\Q (.str (i++j)) H):=by intro d s Z H x y v u Q I g k h;obtain⟨i,j,rfl,rfl,f,q⟩:=h;obtain⟨t,rfl⟩:=g;obtain⟨e,rfl⟩:=k;exact add_str (λe l=>⟨.str (i++j),H,I.tok _,⟨_,rfl⟩,q⟩) f
theorem Xv{x:V}{d:yB}(r:ZO [x] d):∃u,d=[u]/\ZK x u:=by
 cases r with
 |cons e f=>cases f;exact⟨_,rfl,e⟩
theorem RX{x y:V}{d:yB}(r:ZO [x,y] d):∃u w',d=[u,w']/\ZK x u/\ZK y w':=by
 cases r with
 |cons g h =>
  cases h with
  |cons e f=>cases f;exact⟨_,_,rfl,g,e⟩
theorem A2(f:X.calm=Z7):Ys X (.builtin "max") (λxs H Q=>∃i j,xs=[.int i,.int j]/\Q (.int (if j>i then j else i)) H):=by
 intro e s Z H xs m Q I r h;obtain⟨i,j,rfl,q⟩:=h;obtain⟨u,o,rfl,⟨t,rfl⟩,⟨g,rfl⟩⟩:=RX r;refine max_two_ints (I.ok.hd f) λl n k=>⟨_,H,I.kept k,?_,q⟩
 by_cases d:j>i
 .rw[if_pos d,if_pos d];exact⟨_,rfl⟩
 .rw[if_neg d,if_neg d];exact⟨_,rfl⟩
theorem A1(f:X.calm=Z7):Ys X (.builtin "min") (λxs H Q=>∃i j,xs=[.int i,.int j]/\Q (.int (if j<i then j else i)) H):=by
 intro e s Z H xs m Q I r h;obtain⟨i,j,rfl,q⟩:=h;obtain⟨u,o,rfl,⟨t,rfl⟩,⟨g,rfl⟩⟩:=RX r;refine min_two_ints (I.ok.hd f) λl n k=>⟨_,H,I.kept k,?_,q⟩
 by_cases d:j<i
 .rw[if_pos d,if_pos d];exact⟨_,rfl⟩
 .rw[if_neg d,if_neg d];exact⟨_,rfl⟩
theorem HC:Ys X (.type "int") (λxs H Q=>(∃i,xs=[.int i]/\Q (.int i) H)∨∃k,xs=[.bl k]/\Q (.int (if k then 1 else 0)) H):=by
 intro d s Z H xs f Q I r h;rcases h with⟨i,rfl,q⟩| ⟨k,rfl,q⟩
 .obtain⟨u,rfl,t,rfl⟩:=Xv r;exact call_int_int ⟨.int i,H,I,⟨_,rfl⟩,q⟩
 .obtain⟨u,rfl,e⟩:=Xv r;cases e;exact call_int_bool ⟨.int (if k then 1 else 0),H,I.tok _,⟨_,rfl⟩,q⟩
end
theorem Xe.some_of{v:V}{o:yF}(r:Xe (Z9 v) o):∃u,o=Z9 u/\ZK v u:=by
 cases o with
 |none=>exact(r).elim
 |some u=>exact⟨u,rfl,r⟩
structure Zj(k:Nat)(A:jC):Prop where
 hd:A.handled=Z8
 dp:A.depth+3*k+5<lQ
 un:A.units+16*k+200<wK
 gd:A.guards=Z9 []
theorem Zj.mono{j k:Nat}{A:jC}(r:Zj k A)(h:j<=k):Zj j A:=⟨r.hd,by have:=r.dp;omega,by have:=r.un;omega,r.gd⟩
theorem Zj.deeper{k:Nat}{A:jC}(r:Zj (k+1) A)(env:Env):Zj k (A.deeper env) :=
 ⟨r.hd,by have:=r.dp;show A.depth+1+3*k+5<_;omega,by have:=r.un;show A.units+3+16*k+200<_;omega,r.gd⟩
theorem Zj.depth{k:Nat}{A:jC}(r:Zj k A):A.depth<recursionLimit:=by have:=r.dp;omega
theorem Zj.units{k:Nat}{A:jC}(r:Zj k A):A.units+64<cLine:=by have:=r.un;omega
theorem Zj.units0{k:Nat}{A:jC}(r:Zj k A):A.units<cLine:=by have:=r.un;omega
def L9:TA:=λ_ H Q=>Q [] H
def A0(c:TE)(a:TA):TA:=fun Z H Q=>c Z H λx e=>a Z e λd b=>Q (x::d) b
section
variable {X:Cx}{e:yZ}{es:yE}{te:TE}{t:TA}{pos:Pos}
theorem OF:PA X [] L9:=λ_ _ _ _ H Q I h=>wX ⟨[],H,I,.nil,h⟩
theorem QO(q:PE X e te)(m:PA X es t)(o:jG (e::es) X.env=(Z5,vO e X.env)::jG es X.env:=by rfl):PA X (e::es) (A0 te t):=by intro b a s Z H Q I h;rw[o];show y7 _ _ (spliced ((Z5,vO e X.env)::wO b (jG es X.env))) _ _ s;refine wP (Zo (q a s Z H _ I h) λu l ⟨x,k,c,n,p⟩=>?_);exact Zo (m b a l Z k _ c p) λv r ⟨j,g,f,i,d⟩=>⟨x::j,g,f,.cons n i,d⟩
def L8(t:TA):TE:=fun Z H Q=>t Z H λa b=>a.length<=jA/\∀p,b p=Z8->Q (.ref p) (ZD b p (.tup a))
def L7(t:TA):TE:=fun Z H Q=>t Z H λa b=>a.length<=jA/\∀p,b p=Z8->Q (.ref p) (ZD b p (.lst a))
theorem AZ{x1}(h:PA X es t):PE X (.Tuple es x1 pos) (L8 t):=by intro a s Z H Q I i;refine wpAny_Tuple_spliced (Zo (h pos a s Z H _ I i) λj c ⟨f,g,d,r,z,q⟩=>⟨by rw[<- r.length];exact z,?_⟩);have k:=d.hok.fresh (qA7 _);refine⟨.ref c.heap.objs.size,ZD g c.heap.objs.size (.tup f),d.laid (t':=c.toks) (λb u e=>qA4 _ e) (qA7 _) ?_,rfl,q _ k⟩;exact⟨z,j,r,⟨_,qB1 _ rfl,rfl,_,rfl⟩⟩
theorem AY(h:PA X es t):PE X (.List es pos) (L7 t):=by intro a s Z H Q I i;refine wpAny_List_spliced (Zo (h pos a s Z H _ I i) λj c ⟨f,g,d,r,z,q⟩=>⟨by rw[<- r.length];exact z,?_⟩);have k:=d.hok.fresh (qA7 _);refine⟨.ref c.heap.objs.size,ZD g c.heap.objs.size (.lst f),d.laid (t':=c.toks) (λb u e=>qA4 _ e) (qA7 _) ?_,rfl,q _ k⟩;exact⟨z,j,0,r,qB1 _ rfl⟩
end
abbrev Sp:=List V->Hp->VK->XK->Prop
abbrev U1:=List Env->Hp->yS->XK->yL
structure WG(P:y4)(w:jD)(K:yQ)(mg:Str->yF)(base:jE)(A:jC)(outer:List Env)(s:yS)(H:Hp):Prop where
 frames:A.frames=Z9 outer
 mod:Mod K mg base
 bs:∀b o,base.get? b=Z9 o->s.heap.get? b=Z9 o/\H b=Z8
 bsz:base.objs.size<=s.heap.objs.size
 funs:s.heap.FunFrames base outer
 frf:∀b∈Xl outer,H b=Z8
 hok:Yt P w H s.heap
 bare:fR s.gens
def CE(a:List Env)(P:y4)(w:jD)(H:Hp)(s:yS)(Q:VK)(u:yU)(s':yS):Prop :=
 ∃v b,s'.os=s.os/\fR s'.gens/\Un (Xl a) [] H b s.heap s'.heap/\Yt P w b s'.heap/\ZK v u/\Q v b
def CR(b:U1)(a:List Env)(P:y4)(w:jD)(H:Hp)(s:yS)(Q:VK)(E:XK)(r:dL)(s':yS):Prop :=
 match r with
 |.ok (.ret u)=>CE a P w H s Q u s'
 |.ok _=>False
 |.error e=>b a H s E e s'
structure XZ(P:y4)(w:jD)(K:yQ)(mg:Str->yF)(base:jE)(CX:U1)(k:Nat)(f:yR)(fd:jW)(ps:yH)(sp:Sp):Prop where
 len:∀vs H Q E,sp vs H Q E->vs.length=ps.length
 run:∀(A:jC) (outer:List Env) (s:yS) (H:Hp) (args:Args) (us:yB) (vs:List V) (Q:VK) (E:XK),Zj k A->WG P w K mg base A outer s H->mX s fd args (ps.zip us)->ZO vs us->sp vs H Q E ->
  wB (yW P w) A (.call (.ref f) args) (CR CX outer P w H s Q E) s
theorem XZ.imp{P:y4}{w:jD}{K:yQ}{d:Str->yF}{base:jE}{g:U1}{k:Nat}{f:yR}{i:jW}{ps:yH}{e sp':Sp}(F:XZ P w K d base g k f i ps e)
  (h:∀b H Q E,sp' b H Q E->e b H Q E):XZ P w K d base g k f i ps sp' :=
 ⟨λb H Q E q=>F.len b H Q E (h _ _ _ _ q),λA a s H c o b Q E j p l n m=>F.run A a s H c o b Q E j p l n (h _ _ _ _ m)⟩
section
variable {X:Cx}{pins:yD}{Z:St}{H:Hp}{s s':yS}
theorem ZR.env0(I:ZR X pins Z H s):WG X.prog X.w X.K X.mg X.base X.A X.stack s H :=
 ⟨I.ok.frames,I.ok.mod,I.bs,qC6 I.ok.bsz I.sz,I.stack,I.stkFree,I.hok,I.bare⟩
theorem ZR.after{Q:VK}{u:yU}(I:ZR X pins Z H s)(h:CE X.stack X.prog X.w H s Q u s'):EP X pins Z Q u s':=by obtain⟨v,f,i,a,un,e,r,q⟩:=h;obtain⟨j,g,d,t,c⟩:=s';obtain rfl:c=s.os:=i;exact⟨v,f,I.call (h':=j) (g':=g) (d':=d) (t':=t) un e a (λb z=>absurd z (by simp)),r,q⟩
end
def OE(c:Sp)(a:List V)(E:XK)(t:TA):TE:=fun Z H Q=>t Z H λb d=>c (b++a) d Q E
def VZ(K:yQ)(b:jW)(ps:yH)(ds:yB):Prop :=
 ∀(s:yS) (a:yB),K.In s.heap->(a++ds).length=ps.length->mX s b ⟨a,[]⟩ (ps.zip (a++ds))
theorem VZ.all{K:yQ}{b:jW}{ps:yH}(h:∀a:yB,a.length=ps.length->bindArgs b ⟨a,[]⟩=pure (ps.zip a)):VZ K b ps []:=λs a _ c=>by rw[qF6]at c ⊢;exact .of_eq (h a c)
def RW(c:U1)(X:Cx)(E:XK):Prop:=∀(a:yD) (Z:St) (H:Hp) (s:yS) (e:yU) (b:yS),ZR X a Z H s->c X.stack H s E e b->X.xe e b
section
variable {X:Cx}{CX:U1}{k:Nat}{f C:yR}{fd:jW}{ps:yH}{sp:Sp}{dvs:List V}{ds:yB}{E:XK}{x m:Str}{p pos apos:Pos}{e o:yZ}{es:yE}{ta:TE}{t:TA}
theorem AX{a:yD}{Z:St}{H:Hp}{s:yS}{Q:VK}{b:yB}{d:List V}(F:XZ X.prog X.w X.K X.mg X.base CX k f fd ps sp)(l:Zj k X.A)(q:VZ X.K fd ps ds)(w:ZO dvs ds)(n:RW CX X E)
  (I:ZR X a Z H s) (r:ZO d b) (h:sp (d++dvs) H Q E):y7 (yW X.prog X.w) X.A (call (.ref f) b) (EP X a Z Q) X.xe s:=by
 have g:=r.append w;have v:(b++ds).length=ps.length:=by rw[<- g.length];exact F.len _ _ _ _ h
 refine fZ (vW (F.run X.A X.stack s H ⟨b,[]⟩ (b++ds) (d++dvs) Q E l I.env0 (q s b I.kIn v) g h) λr i c=>?_);cases r with
 |error e=>exact n a Z H s e i I c
 |ok j =>
  cases j with
  |ret u=>exact I.after c
  |next=>exact False.elim c
  |brk=>exact False.elim c
  |cont=>exact False.elim c
theorem AW(F:XZ X.prog X.w X.K X.mg X.base CX k f fd ps sp)(c:Zj k X.A)(j:Gl X x)(hm:X.mg x=Z9 (.ref f))(hk:lS X.K (.ref f)=Z7)(g:VZ X.K fd ps ds)(l:ZO dvs ds)(d:RW CX X E)
  (i:PA X (e::es) t) (hdb:YL x:=by decide) (he:jG (e::es) X.env=(Z5,vO e X.env)::jG es X.env:=by rfl) (hpl:(wO pos (jG es X.env)).any (·.1)=Z5:=by rfl) :
  PE X (.Call (.Name x p) (e::es) [] pos) (OE sp dvs E t):=by intro a s Z H Q I h;refine vB (Ub I j hm ?_ hdb);refine mY I.ok.mod.kin hk (Zo (i pos a s Z H _ I h) λw u ⟨v,n,b,r,q⟩=>⟨b.kIn,?_⟩) he hpl;exact AX F c g l d b r q
end
structure Ti(N P:yH)(sc:jR):Prop where
 kind:sc.kind=.function
 co:sc.isCoroutine=Z5
 gen:sc.isGenerator=Z5
 nd:N.Nodup
 pre:N.take P.length=P
 par:∀x∈P,sc.names.lookup x=Z9 .local∨sc.names.lookup x=Z9 .cell
 nofree:∀y∈sc.names,y.2≠.free
theorem HB{kindOf:Str->Option jS}{x:Str}:∀{binds:List (Str×yU)}{m:Str->yF},(∀v,(x,v)∉binds)->bindL kindOf binds m x=m x
 |[],_,_=>rfl
 |(n,v)::r,m,h=>by
  unfold bindL;rw[HB λw a=>h w (qD0 _ a)];split
  .have:x≠n:=by rintro rfl;exact h v qF7
   simp[this]
  .rfl
theorem HA{kindOf:Str->Option jS}{x:Str}:∀{binds:List (Str×yU)}{m:Str->yF},(∀v,(x,v)∉binds)->bindC kindOf binds m x=m x
 |[],_,_=>rfl
 |(n,v)::r,m,h=>by
  unfold bindC;rw[HA λw a=>h w (qD0 _ a)];split
  .rfl
  .have:x≠n:=by rintro rfl;exact h v qF7
   simp[this]
theorem Hz{kindOf:Str->Option jS}{x:Str}{v:yU}:∀{P:yH}{a:yB}{i:Nat}{m:Str->yF},P.Nodup->P[i]?=Z9 x->a[i]?=Z9 v->kindOf x=Z9 .local ->
  bindL kindOf (P.zip a) m x=Z9 v
 |[],_,_,_,_,h,_,_=>by simp at h
 |_::_,[],_,_,_,_,h,_=>by simp at h
 |p::P,w::a,0,m,nd,h1,h2,hk=>by simp at h1 h2;subst h1;subst h2;show bindL kindOf ((p,w)::P.zip a) m p=_;unfold bindL;rw[HB λv b=>(qJ5.mp nd).1 (qM1 b).1,if_pos hk];simp
 |p::P,w::a,i+1,m,nd,h1,h2,hk=>by show bindL kindOf ((p,w)::P.zip a) m x=_;exact Hz (qJ5.mp nd).2 (by simpa using h1) (by simpa using h2) hk
theorem Hy{kindOf:Str->Option jS}{x:Str}{v:yU}:∀{P:yH}{a:yB}{i:Nat}{m:Str->yF},P.Nodup->P[i]?=Z9 x->a[i]?=Z9 v->kindOf x≠Z9 .local ->
  bindC kindOf (P.zip a) m x=Z9 v
 |[],_,_,_,_,h,_,_=>by simp at h
 |_::_,[],_,_,_,_,h,_=>by simp at h
 |p::P,w::a,0,m,nd,h1,h2,hk=>by simp at h1 h2;subst h1;subst h2;show bindC kindOf ((p,w)::P.zip a) m p=_;unfold bindC;rw[HA λv b=>(qJ5.mp nd).1 (qM1 b).1,if_neg hk];simp
 |p::P,w::a,i+1,m,nd,h1,h2,hk=>by show bindC kindOf ((p,w)::P.zip a) m x=_;exact Hy (qJ5.mp nd).2 (by simpa using h1) (by simpa using h2) hk
noncomputable def start(N:yH)(a:List V):St:=a.map Z9++qE7 (N.length - a.length) Z8
noncomputable def YQ(d:U1)(P:y4)(w:jD)(K:yQ)(mg:Str->yF)(base:jE)(N:yH)(a:Str)(scope:jR)(f:yR)(c:yU)(A:jC)(outer:List Env)(s:yS)(H:Hp)(E:XK):Cx where
 prog:=P
 w:=w
 K:=K
 mg:=mg
 base:=base
 A:=A.deeper (lT a scope s.heap.objs.size f c)
 N:=N
 s₀:=s
 H₀:=H
 env:=lT a scope s.heap.objs.size f c
 outer:=outer
 stack:=lT a scope s.heap.objs.size f c::outer
 ex:=[]
 calm:=Z7
 fn:=λ_=>Z7
 pn:=[]
 xe:=λe h=>y7 (yW P w) (A.deeper (lT a scope s.heap.objs.size f c)) (leaving (lT a scope s.heap.objs.size f c) e) (λ_ b=>d outer H s E e b) (λg b=>d outer H s E g b) h
theorem Hx{a:jR}{n:Nat}{x:Str}(h:a.names.lookup x=Z9 .cell):∃c,(vG n a.names []).lookup x=Z9 c:=by have q:=fD a.names n [] (.inl h);exact qI6.mp q
theorem L6{L:U1}{P:y4}{w:jD}{K:yQ}{I:Str->yF}{base:jE}{N ps:yH}{g:Str}{scope:jR}{f:yR}{D:yU}{A:jC}{d:List Env}{s s1:yS}{H:Hp}{E:XK}{G:yB}{o:List V}
  (S:Ti N ps scope) (R:A.handled=Z8) (l:WG P w K I base A d s H) (U:o.length=ps.length) (r:ZO o G)
  (x:InCallC s s.heap.objs.size (bindL (lT g scope s.heap.objs.size f D).kindOf (ps.zip G) λ_=>Z8) (vG (s.heap.objs.size+1) scope.names []) (bindC (lT g scope s.heap.objs.size f D).kindOf (ps.zip G) λ_=>Z8) s1) :
  ZR (YQ L P w K I base N g scope f D A d s H E) [] (start N o) H s1:=by
 have Q:=by have:=congrArg qK4 S.pre;rw[qH9]at this;omega
 obtain⟨C,T,rfl,hk⟩:=x.done;have m:∀b:yR,b∉(YQ L P w K I base N g scope f D A d s H E).ex:=λb z=>absurd (show b∈([])from z) (by simp);refine⟨⟨l.mod,S.kind,rfl,rfl,qA7 _,λy z c C j=>?_,λy n=>?_,λy c _ h=>?_,λ_=>R,Around.frames_deeper l.frames,.inr ⟨rfl,rfl⟩,λb z=>absurd z (m b),l.bs,l.bsz,λb _ _=>m b,λb z=>absurd z (m b),l.funs,l.frf⟩,
  rfl,l.bare,Un.kept hk,⟨_,x.toInCall.ns,λi y v C j W=>?_⟩,λy c h=>⟨_,x.cell y c h⟩,l.hok.fresh (qA7 _),λy c h=>?_,λp t=>absurd (show p∈([])from t) (by simp),l.hok.kept hk,?_⟩
 .exact name_of_addr x.apart (vZ C) (vZ j)
 .have n:=n;rcases n with n|n
  .exact Hx n
  .exact absurd rfl (S.nofree _ (vZ n))
 .exact qH0 (x.above y c (vZ h))
 .have F:i<o.length:=by
   unfold start at j;by_cases F:i<o.length
   .exact F
   .rw[qA0 (by simpa using F)]at j;rw[qH3]at j;split at j<;>cases j
  have O:o[i]?=Z9 v:=by
   unfold start at j;rw[qA8 (by simpa using F),qB2]at j;cases e:o[i]? with
   |none=>rw[e]at j;cases j
   |some a=>rw[e]at j;cases j;rfl
  obtain⟨u,J,M⟩:=r.get O;have t:ps[i]?=Z9 y:=by rw[<- S.pre,qN9 (by omega)];exact C
  have B:ps.Nodup:=by rw[<- S.pre];exact S.nd.sublist (qG1 _ _)
  refine⟨u,M,?_⟩;rcases S.par y (qB6 t)with k|k
  .exact .inl ⟨k,Hz B t J k⟩
  .obtain⟨c,e⟩:=Hx k;refine .inr ⟨.inl k,c,e,?_⟩;have q:=x.cell y c e;rw[Hy B t J (by show scope.names.lookup y≠_;rw[k];decide)]at q;exact q
 .exact l.hok.fresh (qH0 (x.above y c (vZ h)))
 .unfold start;show _=N.length;rw[qC1,qA3,qI0];omega
theorem AV{L:U1}{P:y4}{w:jD}{K:yQ}{J:Str->yF}{base:jE}{k:Nat}{f:yR}{j c:Str}{g:vV}{h:List vK}{scope:jR}{X kV D Z d ct oc:yU}{U od:Option yR}
  {O:Array (yF)}{N ps:yH}{sp:Sp} (lk:K.lookup f=Z9 ⟨oc,od,.func (gI j c g h scope X kV D Z U d ct),O⟩) (T:mZ K d c=Z7) (S:Ti N ps scope)
  (len:∀i H Q E,sp i H Q E->i.length=ps.length)
  (z:∀(A:jC) (a:List Env) (s:yS) (H:Hp) (i:List V) (Q:VK) (E:XK),Zj k (A.deeper (lT c scope s.heap.objs.size f d))->sp i H Q E ->
   ∃t,XE (YQ L P w K J base N c scope f d A a s H E) h t/\t { nx:=λ_ l=>Q .non l,rt:=Q } (start N i) H) :
  XZ P w K J base L (k+1) f (gI j c g h scope X kV D Z U d ct) ps sp:=by
 refine⟨len,λA a s H Y us i Q E R F hb r C=>?_⟩;have hl:=len _ _ _ _ C;have W:=F.mod.kin.keeps λb o e=>(F.bs b o e).1;have lim:=F.mod.nolimit.keeps λb o e=>(F.bs b o e).1;have p:∀y∈ps.zip us,scope.names.lookup y.1=Z9 .local∨(scope.names.lookup y.1=Z9 .cell/\((vG (s.heap.objs.size+1) scope.names []).lookup y.1).isSome=Z7):=λ⟨n,v⟩ hy=>by
  rcases S.par n (qM1 hy).1 with q|q
  .exact .inl q
  .exact .inr ⟨q,fD _ _ _ (.inl q)⟩
 refine fA R.depth (W _ _ lk) rfl S.co S.gen rfl (m7 W T) (hb _ _ _ _ ?_);refine wG S.kind p λenv he s1 x=>?_;subst he;refine⟨lim.keeps x.toInCall.keep,dA ?_⟩;obtain⟨t,ht,hq⟩:=z A a s H i Q E (R.deeper _) C;have I:ZR (YQ L P w K J base N c scope f d A a s H E) [] (start N i) H s1:=L6 S R.hd F hl r x;refine jL (ht [] s1 (start N i) H _ I hq) (λfl s' B=>?_) λe s' B=>B;have fin:∀{G:St}{l:Hp}{v:V}{u:yU},ZR (YQ L P w K J base N c scope f d A a s H E) [] G l s'->ZK v u->Q v l->CE a P w H s Q u s' :=
  λ{G l v u} m M q=>⟨v,l,m.os,m.bare,m.base,m.hok,M,q⟩
 cases fl with
 |ret u =>
  obtain⟨v,G,l,m,M,q⟩:=B;exact fin m M q
 |next =>
  obtain⟨G,l,m,q⟩:=B;exact fin (v:=V.non) m rfl q
 |brk =>
  obtain⟨_,_,_,q⟩:=B;exact False.elim q
 |cont =>
  obtain⟨_,_,_,q⟩:=B;exact False.elim q
section
variable {X:Cx}{x:Str}{p pos:Pos}{e:yZ}{es:yE}{t:TA}{id T:String}{r:List V->Hp->VK->Prop}
def OD(r:List V->Hp->VK->Prop)(t:TA):TE:=fun Z H Q=>t Z H λa b=>r a b Q
theorem L5(c:Ys X (.builtin id) r)(o:Gl X x)(hm:X.mg x=Z8)(i:jH x=Z9 (.builtin id))(n:PA X (e::es) t)(k:x ≠ "__name__":=by decide)(hdb:YL x:=by decide)
  (he:jG (e::es) X.env=(Z5,vO e X.env)::jG es X.env:=by rfl) (hpl:(wO pos (jG es X.env)).any (·.1)=Z5:=by rfl):PE X (.Call (.Name x p) (e::es) [] pos) (OD r t):=by intro a s Z H Q I h;refine vB (Tp I o hm i ?_ k hdb);exact PyProof.Rows.callWith_builtin1 (Zo (n pos a s Z H _ I h) λm f ⟨j,d,b,g,l⟩=>c a f Z d j m Q b g l) he hpl
theorem L4(c:Ys X (.type T) r)(o:Gl X x)(hm:X.mg x=Z8)(i:jH x=Z9 (.type T))(n:PA X (e::es) t)(k:x ≠ "__name__":=by decide)(hdb:YL x:=by decide)
  (he:jG (e::es) X.env=(Z5,vO e X.env)::jG es X.env:=by rfl) (hpl:(wO pos (jG es X.env)).any (·.1)=Z5:=by rfl):PE X (.Call (.Name x p) (e::es) [] pos) (OD r t):=by intro a s Z H Q I h;refine vB (Tp I o hm i ?_ k hdb);exact j7 (Zo (n pos a s Z H _ I h) λm f ⟨j,d,b,g,l⟩=>c a f Z d j m Q b g l) he hpl
end
end L2
namespace HT
open PySem PyProof.Rows
noncomputable def lexLt:yA->yA->Bool
 |[],[]=>Z5
 |[],_::_=>Z7
 |_::_,[]=>Z5
 |x::a,y::b=>if x=y then lexLt a b else decide (x<y)
theorem lexLt_cons(x y:Int)(xs ys:yA):lexLt (x::xs) (y::ys)=if x=y then lexLt xs ys else decide (x<y):=rfl
theorem AU(A:jC)(s:yS)(a:Int)(t:Tok)(c:Int)(u:Tok):∃e,SeqAt.EqAt A s (.int a t) (.int c u) e/\(e=Z7↔a=c) :=
 ⟨(a == c),SeqAt.EqAt.int_int a t c u,by simp⟩
theorem AS(A:jC)(s:yS)(a:Int)(t:Tok)(c:Int)(u:Tok)(prog:y4)(w:jD)(E:yL)(Q:yL)(h:Q (.bool (decide (a<c))) s):
  y7 (yW prog w) A (richCompare .Lt (.int a t) (.int c u)) Q E s :=
 (PyProof.Rows.lt_int h)
section
open PySem.SeqAt
open PySem.AutoSeq1 (wpAny_loadPart')
open PySem.MeetsSeq PySem.MeetsSeq2 PySem.MeetsSeq3
theorem AR(l b:yR)(items f:yJ)(n W:Nat)(dd N:Option yR)(T L:Array (yF))(F K:yA)(hi:vR items.toList F)(P:vR f.toList K):
  Meets (Builtin.«tuple.__lt__» ⟨[.ref l,.ref b],[]⟩)
   (λ_ R s=>s.heap.get? l=Z9 { cls:=.type "tuple",dict:=dd,data:=.seq items n,slots:=T }/\s.heap.get? b=Z9 { cls:=.type "tuple",dict:=N,data:=.seq f W,slots:=L } /\
    R (.ok (.ret (.bool (lexLt F K)))) s) :=
 .of_wp λo w A R s h=>by
  obtain⟨E,g,d,I,J⟩:=s;obtain⟨V,U,h⟩:=h;have Z:=AutoSeq1.sub_tuple_tuple;have Y:items.size=F.length:=by rw[<- hi.length];simp
  have z2:f.size=K.length:=by rw[<- P.length];simp
  wp_walk using lG V,lG U,wpAny_forIn_list _ (λZG b M=>b.1=Z8/\M=⟨E,g,d,I,J⟩/\∃(H G:yB) (j k:yA),ZG=H.zip G /\
   vR H j/\vR G k/\j.length+f.size=k.length+items.size/\R (.ok (.ret (.bool (lexLt j k)))) ⟨E,g,d,I,J⟩) _
  case turn =>
   rintro⟨y,x⟩ ZG b M ⟨C,rfl,H,G,j,k,v,z,m,i,r⟩;cases z with
   |nil=>rw[List.zip_nil_left]at v;cases v
   |cons a t D =>
    cases m with
    |nil=>rw[List.zip_nil_right]at v;cases v
    |cons c u B =>
     injection v with hyx hrest;injection hyx with hy hx;subst hy hx;rw[lexLt_cons]at r;simp only[qC3]at i;obtain⟨e,X,p⟩:=AU A.in1 ⟨E,g,d,I,J⟩ a t c u;refine yO (X o w _ _ ?_);cases e with
     |true =>
      rw[if_pos (p.mp rfl)]at r
      wp_walk
      exact⟨rfl,rfl,_,_,_,_,hrest,D,B,by omega,r⟩
     |false =>
      rw[if_neg (λq=>absurd (p.mpr q) qB4)]at r;have O:=AS A.in1 ⟨E,g,d,I,J⟩ a t c u o w
      wp_walk using O
      exact⟨_,rfl,by simpa using r⟩
  case fin =>
   rintro⟨b1,b2⟩ M ⟨C,rfl,H,G,j,k,v,z,m,i,r⟩;subst C;have Q:lexLt j k=decide (items.size<f.size):=by
    cases z with
    |nil =>
     cases m with
     |nil =>
      exact(decide_eq_false (by omega)).symm
     |cons c u S =>
      simp only[qM2,qC3]at i;exact(decide_eq_true (by omega)).symm
    |cons a t Q =>
     cases m with
     |nil =>
      simp only[qM2]at i;exact(decide_eq_false (by omega)).symm
     |cons c u S =>
      cases v
   rw[Q]at r
   wp_walk
   exact⟨_,rfl,by simpa[Builtin.Tuple.tupleCompareSizes]using r⟩
  case h =>
   exact⟨rfl,rfl,items.toList,f.toList,F,K,rfl,hi,P,by omega,h⟩
end
section
variable {prog:y4}{w:jD}{A:jC}{E:yL}{s:yS}
theorem lt_tupInts{l b:yR}{items a:yJ}{c g:yA}{Q:yL}(z:dO s.heap l items)(u:dO s.heap b a)(hi:vR items.toList c)(t:vR a.toList g)
  (v:A.units<wK) (h:Q (.bool (lexLt c g)) s):y7 (yW prog w) A (y8 .Lt (.ref l) (.ref b)) Q E s:=by
 obtain⟨⟨y,B,m,r⟩,o,k,n,p⟩:=id z;obtain⟨⟨q,j,data2,i⟩,f,e,C,d⟩:=id u;simp only at k p e d;subst k p e d;exact richCompare_meets_room (op:=.Lt) ⟨_,o,rfl⟩ ⟨_,f,rfl⟩ PySem.F.slot_tuple_lt PySem.F.entry_tuple_lt (PySem.F.args_tuple_lt_2 _ _) (AR l b items a n C B j r i c g hi t)
  ⟨o,f,show Value.bool (lexLt c g)≠Value.notImplemented/\Q (.bool (lexLt c g)) s from⟨(λx=>nomatch x),h⟩⟩ v
theorem cat_tup{t b:yR}{d a:yB}{Q:yL}(ht:dO s.heap t d.toArray)(x:dO s.heap b a.toArray)(p:d≠[])
  (y:a=[]->Q (.ref t) s) (z:a≠[]->Q (.ref s.heap.objs.size) { s with heap:=s.heap.push { cls:=.type "tuple",data:=.seq (d++a).toArray } })
  (l:d.length+a.length<=jA):y7 (yW prog w) A (jK .Add (.ref t) (.ref b)) Q E s:=by
 obtain⟨⟨cls,q,data,m⟩,k,o,n,r⟩:=id ht;obtain⟨⟨u,i,data2,f⟩,c,h,v,g⟩:=id x;simp only at o r h g;subst o r h g;have e:d.toArray++a.toArray=(d++a).toArray:=by simp
 by_cases j:a=[]
 .exact dC ⟨_,k,rfl⟩ ⟨_,c,rfl⟩ gP mM wY wT (wL _ _)
   (tuple_addW1 t b d.toArray a.toArray n v q i m f (by simpa using p) (by simp[j])) ⟨k,c,y j⟩
 .refine dC ⟨_,k,rfl⟩ ⟨_,c,rfl⟩ gP mM wY wT (wL _ _)
   (tuple_addW2 t b d.toArray a.toArray n v q i m f (by simpa using p) (by simpa using j) (by exact l)) ⟨k,c,?_⟩
  rw[e];exact z j
noncomputable def sIx(n d:Nat):yG->Nat
 |none=>d
 |some v=>if v<0 then(v+(n:Int)).toNat else min v.toNat n
theorem sIx_none(n d:Nat):sIx n d Z8=d:=rfl
theorem sIx_nat(n d k:Nat):sIx n d (Z9 (k:Int))=min k n:=rfl
theorem Hw(v:Int)(n d:Nat):(if v<0 then max (v+(n:Int)) 0 else min v (n:Int))=((sIx n d (Z9 v):Nat):Int):=by
 show(if v<0 then max (v+n) 0 else min v n)=(((if v<0 then(v+n).toNat else min v.toNat n):Nat):Int)
 by_cases a:v<0
 .simp only[if_pos a];omega
 .simp only[if_neg a];omega
theorem AQ(lo hi:yG)(n:Nat):Builtin.Slice.sliceAdjust lo hi 1 (n:Int)=(((sIx n 0 lo:Nat):Int),((sIx n n hi:Nat):Int)):=by
 refine Prod.ext ?_ ?_
 .cases lo with
  |none=>rfl
  |some v=>exact Hw v n 0
 .cases hi with
  |none=>rfl
  |some v=>exact Hw v n n
theorem AO(i j:Nat):Builtin.Slice.slicePlaces (i:Int) (j:Int) 1=j - i:=by unfold Builtin.Slice.slicePlaces;split<;>omega
theorem Hv{v:yU}{o:yG}{Q:yG->yS->Prop}(p:lA v o)(h:Q o s):y7 (yW prog w) A (Builtin.Slice.slicePartIndex v) Q E s:=by
 cases p with
 |none=>exact slicePart_none h
 |int i t=>exact slicePart_int h
theorem sliceApplied_gen{e:yR}{d c:yU}{lo hi:yG}{n:Nat}{Q:Int×Int×Nat->yS->Prop}(i:s.heap.IsSliceOf e d c .none)(j:lA d lo)(f:lA c hi)
  (h:Q (((sIx n 0 lo:Nat):Int),1,sIx n n hi - sIx n 0 lo) s):y7 (yW prog w) A (Builtin.Slice.sliceApplied (.ref e) (pure (n:Int))) Q E s:=by obtain⟨k,b,g,a⟩:=id i;refine yO (yO (j6 b a (x:=d) rfl (yO (j6 b a (x:=c) rfl (yO (j6 b a (x:=.none) rfl (yP ?_)))))));refine yO (slicePart_none ?_);refine yO (Hv j (yO (Hv f (yO (yP ?_)))));show y7 _ _ (match Builtin.Slice.sliceAdjust lo hi 1 n with|(lo,hi)=>pure (lo,(1:Int),Builtin.Slice.slicePlaces lo hi 1)) _ _ s;rw[AQ lo hi n];show y7 _ _ (pure (((sIx n 0 lo):Int),1,Builtin.Slice.slicePlaces ((sIx n 0 lo):Int) ((sIx n n hi):Int) 1)) _ _ s;rw[AO];exact yP h
theorem AN(xs:yJ)(i k:Nat):((List.range k).filterMap fun(m:Nat)=>xs[((i:Int)+(m:Int)*1).toNat]?).toArray=((xs.toList.drop i).take k).toArray:=by
 have e:(fun(m:Nat)=>xs[(i+(m:Int)*1).toNat]?)=λm=>xs[i+m]?:=by
  funext m;have:(i+(m:Int)*1).toNat=i+m:=by omega
  rw[this]
 rw[e];have:=pick_run xs i k;rw[List.filterMap_map]at this;have a:((λx=>xs[x]?)∘λx=>i+x)=λm=>xs[i+m]?:=rfl;rw[a]at this;rw[this]
theorem getItem_tuple_cut{t b:yR}{items:yJ}{g j:yU}{lo hi:yG}{Q:yL}(ht:dO s.heap t items)(i:s.heap.IsSliceOf b g j .none)(n:lA g lo)(k:lA j hi)
  (l:¬(sIx items.size 0 lo=0/\sIx items.size items.size hi=items.size))
  (h:Q (.ref s.heap.objs.size) { s with heap:=s.heap.push { cls:=.type "tuple",data:=.seq ((items.toList.drop (sIx items.size 0 lo)).take (sIx items.size items.size hi - sIx items.size 0 lo)).toArray } })
  (p:items.size<=jA):y7 (yW prog w) A (gD (.ref t) (.ref b)) Q E s:=by
 have a:=by show((items.toList.drop (sIx items.size 0 lo)).take (sIx items.size items.size hi - sIx items.size 0 lo)).toArray.size<=jA;rw[qB5,qH9,qL3,vL];omega
 obtain⟨o,e,d,m⟩:=id i;have f:s.TypeIs (.ref b) "slice":=⟨o,e,d⟩
 unfold gD
 try with_reducible refine jO ?_
 refine yO (wpAny_sequenceKey ht.typeIs (by decide) ?_);refine yO (jM ht.typeIs vA
  (jN vA ht.typeIs mI ?_ (args_tuple_getitem _ _)))
 show y7 _ _ (Builtin.Tuple.tupleItemsOf (.ref t) >>= _) _ _ s;refine yO (tupleItemsOf_ ht ?_);refine yO (vX f ?_);refine yO (sliceApplied_gen i n k ?_);have c:¬((((sIx items.size 0 lo):Int) == 0&&(1:Int) == 1&&(sIx items.size items.size hi - sIx items.size 0 lo) == items.size)=Z7):=by intro q;rw[qC5,qC5]at q;have u:=eq_of_beq q.1.1;have r:=eq_of_beq q.2;exact l ⟨by omega,by omega⟩
 show y7 _ _ (if(((sIx items.size 0 lo):Int) == 0&&1 == 1&&(sIx items.size items.size hi - sIx items.size 0 lo) == items.size)=Z7 then _ else _) _ _ s;rw[if_neg c,AN]
 first
  |exact yO (j9 (yP ⟨_,rfl,yP h⟩) a)
  |exact yO (j9 (yO (yP (yP ⟨_,rfl,yP h⟩))) a)
  |exact yO (yO (j9 (yP (yP ⟨_,rfl,yP h⟩)) a))
  |exact yO (yO (j9 (yP ⟨_,rfl,yP h⟩) a))
end
end HT
namespace L2
open PySem PySem.Spec PyProof.Rows
abbrev TO:=St->Hp->(yG->Hp->Prop)->Prop
def PO(X:Cx)(e:Option yZ)(t:TO):Prop :=
 ∀(a:yD) (s:yS) (Z:St) (H:Hp) (Q:yG->Hp->Prop),ZR X a Z H s->t Z H Q ->
  y7 (yW X.prog X.w) X.A (evalPart e X.env) (λu c=>∃o b,ZR X a Z b c/\lA u o/\Q o b) X.xe s
def AL:TO:=λ_ H Q=>Q Z8 H
def AK(t:TE):TO:=fun Z H Q=>t Z H λx a=>∃i,x=.int i/\Q (Z9 i) a
theorem OC{ns:yA}:∀{a:yB},ZO (ns.map V.int) a->vR a ns:=by
 induction ns with
 |nil=>intro a r;cases r;exact .nil
 |cons n ns b =>
  intro a r;cases r with
  |cons c d =>
   obtain⟨t,e⟩:=c;subst e;exact .cons n t (b d)
section
variable {X:Cx}{e:yZ}{te:TE}{lo hi:Option yZ}{tl th:TO}{pos p2:Pos}
theorem AJ:PO X Z8 AL:=by intro a s Z H Q I h;exact yP ⟨Z8,H,I,.none,h⟩
theorem AI(h:PE X e te):PO X (Z9 e) (AK te):=by intro a s Z H Q I c;refine Zo (h a s Z H _ I c) λu j ⟨x,g,b,f,d⟩=>?_;obtain⟨i,rfl,q⟩:=d;obtain⟨t,rfl⟩:=f;exact⟨Z9 i,g,b,.int i t,q⟩
def RU(X:Cx)(r:V->yG->yG->Hp->VK->Prop):Prop :=
 ∀(a:yD) (s:yS) (Z:St) (H:Hp) (x:V) (v g f:yU) (c b:yG) (d:yR) (Q:VK),ZR X a Z H s->ZK x v->s.heap.IsSliceOf d g f .none->lA g c->lA f b->r x c b H Q ->
  ∃T id,typeLookup (.type T) "__getitem__"=pure (Z9 (.builtin id))/\s.TypeIs v T/\y7 (yW X.prog X.w) X.A (gD v (.ref d)) (EP X a Z Q) X.xe s
def AG(r:V->yG->yG->Hp->VK->Prop)(a:TE)(c f:TO):TE:=fun Z H Q=>a Z H λx d=>c Z d λl b=>f Z b λu g=>r x l u g Q
theorem Hu{r:V->yG->yG->Hp->VK->Prop}(y:RU X r)(he:PE X e te)(G:PO X lo tl)(B:PO X hi th):PE X (.Subscript e (.Slice lo hi Z8 p2) pos) (AG r te tl th):=by intro a s Z H Q I h;refine Subscript_ (Zo (he a s Z H _ I h) λv w ⟨x,t,i,z,F⟩=>?_);refine wpAny_Slice (Zo (G a w Z t _ i F) λd A ⟨l,o,n,E,j⟩=>Zo (B a A Z o _ n j) λf c ⟨u,g,k,m,p⟩=>?_);refine yP ?_;have C:ZR X a Z g { c with heap:=c.heap.push { cls:=.type "slice",data:=.fields #[d,f,.none] } }:=k.kept (t':=c.toks) λb K q=>qA4 _ q;obtain⟨T,id,D,ht,J⟩:=y a { c with heap:=c.heap.push { cls:=.type "slice",data:=.fields #[d,f,.none] } } Z g x v d f l u c.heap.objs.size Q C z (Heap.IsSliceOf.new ..) E m p;exact tail_any ht D J (by with_unfolding_all rfl)
noncomputable def W0(xs:List V)(lo hi:yG):List V:=(xs.drop (HT.sIx xs.length 0 lo)).take (HT.sIx xs.length xs.length hi - HT.sIx xs.length 0 lo)
theorem Ht(xs:List V)(lo hi:yG):(W0 xs lo hi).length<=xs.length:=by unfold W0;rw[qH9,qL3];omega
def L3(K:yQ):V->yG->yG->Hp->VK->Prop:=λx d c H Q=>∃a b,x=.ref a/\Zg K H a b /\
 ¬(HT.sIx b.length 0 d=0/\HT.sIx b.length b.length c=b.length)/\∀p,H p=Z8->Q (.ref p) (ZD H p (.tup (W0 b d c)))
theorem AF:RU X (L3 X.K):=by
 intro j s Z H x v w z g k u Q I o p t l h;obtain⟨a,d,rfl,n,m,q⟩:=h;cases o;obtain⟨f,r,ht,i⟩:=I.tuple n;have c:f.toArray.size=d.length:=by exact r.length.symm
 refine⟨"tuple",_,PyProof.Rows.slot_tuple_getitem.lookup,ht.typeIs,?_⟩;refine HT.getItem_tuple_cut ht p t l (by rw[c];exact m) ?_ (by rw[c];exact i);rw[c];refine⟨.ref s.heap.objs.size,_,I.laid (t':=s.toks) (λb y q=>qA4 _ q) (qA7 _) ?_,rfl,q _ (I.hok.fresh (qA7 _))⟩;exact⟨qC6 (Ht d g k) i,_,(r.drop (HT.sIx d.length 0 g)).take (HT.sIx d.length d.length k - HT.sIx d.length 0 g),IsTup.new _ _⟩
def L1(K:yQ):R2:=λx y H Q=>∃a b c d,x=.ref a/\y=.ref b/\Zg K H a (c.map V.int)/\Zg K H b (d.map V.int)/\Q (.bl (HT.lexLt c d)) H
theorem AE(n:X.A.units<wK):Y0 X (y8 .Lt) (L1 X.K):=by intro d s Z H x y v u Q I j w h;obtain⟨a,b,k,z,rfl,rfl,p,i,q⟩:=h;cases j;cases w;obtain⟨m,l,o,_⟩:=I.tuple p;obtain⟨c,f,g,_⟩:=I.tuple i;have t:=OC l;have r:=OC f;exact HT.lt_tupInts o g t r n ⟨.bl (HT.lexLt k z),H,I,rfl,q⟩
def AD(K:yQ):R2:=λx y H Q=>∃a b d c,x=.ref a/\y=.ref b/\Zg K H a d/\Zg K H b c/\d≠[]/\d.length+c.length<=jA /\
 (c=[]->Q (.ref a) H)/\(c≠[]->∀p,H p=Z8->Q (.ref p) (ZD H p (.tup (d++c))))
theorem ZO.nil_iff{xs:List V}{a:yB}(r:ZO xs a):a=[]↔xs=[]:=by
 cases r with
 |nil=>simp
 |cons _ _=>simp
theorem AC:Y0 X (jK .Add) (AD X.K):=by intro i s Z H x y v u Q I n A h;obtain⟨a,b,B,C,rfl,rfl,t,m,l,g,r,j⟩:=h;cases n;cases A;obtain⟨o,d,p,_⟩:=I.tuple t;obtain⟨f,c,k,_⟩:=I.tuple m;refine HT.cat_tup p k (λz=>l (d.nil_iff.mp z)) (λz=>⟨.ref a,H,I,rfl,r (c.nil_iff.mp z)⟩) (λz=>?_) (by rw[<- d.length,<- c.length];exact g);refine⟨.ref s.heap.objs.size,_,I.laid (t':=s.toks) (λb D q=>qA4 _ q) (qA7 _) ?_,rfl,j (λw=>z (c.nil_iff.mpr w)) _ (I.hok.fresh (qA7 _))⟩;exact⟨by rw[qC1];exact g,_,d.append c,IsTup.new _ _⟩
end
noncomputable def Wn(n:Nat)(i:Int):yK:=if 0<=i then(if i<n then Z9 i.toNat else Z8)else if -(n:Int)<=i then Z9 (i+n).toNat else Z8
noncomputable def XW{α:Type}(xs:List α)(i:Int):Option α:=(Wn xs.length i).bind λj=>xs[j]?
theorem Hs{n:Nat}{i:Int}{j:Nat}(h:Wn n i=Z9 j):seqIndex? i n=Z9 j/\j<n/\-(n:Int)<=i/\i<n:=by
 unfold Wn at h;by_cases b:0<=i
 .rw[if_pos b]at h;by_cases a:i<n
  .rw[if_pos a]at h;have e:=Option.some.inj h;exact⟨by rw[dP b a,e],by omega,by omega,a⟩
  .rw[if_neg a]at h;cases h
 .rw[if_neg b]at h;by_cases a:-n<=i
  .rw[if_pos a]at h;have e:=Option.some.inj h;exact⟨by rw[dD (by omega) a,e],by omega,a,by omega⟩
  .rw[if_neg a]at h;cases h
theorem Hr{α:Type}{xs:List α}{i:Int}{v:α}(h:XW xs i=Z9 v):∃j,seqIndex? i xs.length=Z9 j/\xs[j]?=Z9 v/\j<xs.length/\-(xs.length:Int)<=i/\i<xs.length:=by
 unfold XW at h;cases e:Wn xs.length i with
 |none=>rw[e]at h;cases h
 |some j =>
  rw[e]at h;obtain⟨c,d,a,b⟩:=Hs e;exact⟨j,c,h,d,a,b⟩
theorem Vq{α:Type}{xs:List α}{j:Nat}{v:α}(h:xs[j]?=Z9 v):XW xs (j:Int)=Z9 v:=by
 have a:=(qA1.mp h).1;have e:Wn xs.length j=Z9 j:=by unfold Wn;rw[if_pos (by omega),if_pos (by omega)];simp
 unfold XW;rw[e];exact h
theorem zMK{α:Type}(xs:List α)(v:α):XW (xs++[v]) (-1)=Z9 v:=by
 have a:(xs++[v]).length=xs.length+1:=by simp
 have e:Wn (xs++[v]).length (-1)=Z9 xs.length:=by unfold Wn;rw[a,if_neg (by decide),if_pos (by omega)];congr 1;omega
 unfold XW;rw[e];simp
def OB(b:yZ):Prop:=∀o i,dQ b Z5 o i=operate [o,i] (gD o i)
def RT(X:Cx)(r:R2):Prop :=
 ∀(c a:yZ) (b:yD) (s:yS) (Z:St) (H:Hp) (x y:V) (v u:yU) (Q:VK),ZR X b Z H s->ZK x v->ZK y u->r x y H Q ->
  dQ a Z5 v u=operate [v,u] (gD v u)->y7 (yW X.prog X.w) X.A (subscriptTail c a v u) (EP X b Z Q) X.xe s
def RQ(X:Cx)(id:String)(r:V->List V->Hp->VK->Prop):Prop :=
 ∀(a:yD) (s:yS) (Z:St) (H:Hp) (x:V) (c:List V) (v:yU) (b:yB) (Q:VK),ZR X a Z H s->ZK x v->ZO c b->r x c H Q ->
  y7 (yW X.prog X.w) X.A (call (.builtin id) (v::b)) (EP X a Z Q) X.xe s
section
variable {X:Cx}{a b:yZ}{ta tb:TE}{pos:Pos}
theorem Hq{r:R2}(f:RT X r)(l:PE X a ta)(g:PE X b tb)(k:OB b):PE X (.Subscript a b pos) (QS r ta tb):=by intro c s Z H Q I h;exact Subscript_ (Tn l g I h λv u j x y e d i m q=>f a b c j Z e x y v u Q d i m q (k _ _))
def L0(K:yQ):R2:=λx y H Q=>∃p c i v,x=.ref p/\y=.int i/\YA K H p c/\XW c i=Z9 v/\Q v H
def LZ(K:yQ):R2:=λx y H Q=>∃p c i v,x=.ref p/\y=.int i/\Zg K H p c/\XW c i=Z9 v/\Q v H
theorem AB:RT X (L0 X.K):=by
 intro f m c s Z H x y v u Q I C J h o;obtain⟨p,L,i,z,rfl,rfl,B,K,q⟩:=h;cases C;obtain⟨t,rfl⟩:=J;obtain⟨g,r,k,M⟩:=I.list B;obtain⟨j,d,E,O,D,F⟩:=Hr K;obtain⟨w,n,l⟩:=r.get E;have G:=r.length;have N:=QP;have fin:EP X c Z Q w s:=⟨z,H,I,l,q⟩
 by_cases A:0<=i
 .have e:=by rw[dP A F]at d;exact Option.some.inj d
  exact item_listR k.isList A (by omega) (by rw[e];simpa using n) fin o
 .have e:(i+g.toArray.size).toNat=j:=by rw[dD (by omega) D]at d;rw[qB5,<- G];exact Option.some.inj d
  exact lB k.isList.typeIs slot_list_getitem.lookup
   (wpAny_getItem_list_neg k.isList (by omega) (by rw[qB5]<;>omega) (by omega) (by rw[e];simpa using n) ⟨rfl,fin⟩) o
theorem AA:RT X (LZ X.K):=by
 intro d f c s Z H x y v u Q I m D h o;obtain⟨p,F,i,z,rfl,rfl,l,E,q⟩:=h;cases m;obtain⟨t,rfl⟩:=D;obtain⟨n,r,g,G⟩:=I.tuple l;obtain⟨j,A,B,M,J,L⟩:=Hr E;obtain⟨w,k,e⟩:=r.get B;have C:=r.length;have K:=QP;have fin:EP X c Z Q w s:=⟨z,H,I,e,q⟩
 exact lB g.typeIs slot_tuple_getitem.lookup
  (getItem_tuple g (by omega) (by omega) (by rw[qB5,<- C];exact A) (by simpa using k) ⟨rfl,fin⟩) o
theorem Az(c:yB)(n j:Nat)(u:yU):wC (·.setIfInBounds j u) { cls:=.type "list",data:=.seq c.toArray n }={ cls:=.type "list",data:=.seq (c.set j u).toArray n }:=by simp[wC]
theorem ZR.lst{d:yD}{Z:St}{H:Hp}{s:yS}{p:yR}{xs:List V}(I:ZR X d Z H s)(h:H p=Z9 (.lst xs)):
  ∃(c:yB) (n:Nat),ZO xs c/\s.heap.get? p=Z9 { cls:=.type "list",data:=.seq c.toArray n }/\xs.length<=sizeLine:=by obtain⟨z,c,n,r,e⟩:=I.hok p _ h;exact⟨c,n,r,e,z⟩
theorem ZR.lstUpd{c:yD}{Z:St}{H:Hp}{s:yS}{p:yR}{xs ys:List V}{d its':yB}{n g:Nat}{f:Obj->Obj}(I:ZR X c Z H s)(h:H p=Z9 (.lst xs))
  (l:s.heap.get? p=Z9 { cls:=.type "list",data:=.seq d.toArray n }) (i:f { cls:=.type "list",data:=.seq d.toArray n }={ cls:=.type "list",data:=.seq its'.toArray g }) (r:ZO ys its') (j:ys.length<=jA) (t:Nat) :
  ZR X c Z (ZD H p (.lst ys)) { s with heap:=s.heap.update p f,toks:=t }:=by
 have e:(s.heap.update p f).get? p=Z9 { cls:=.type "list",data:=.seq its'.toArray g }:=by rw[qE8 f l (by rw[i]<;>rfl),i]
 refine I.write (by rw[h];trivial) (.inl rfl) (λb u k q=>(qE4 _ _ (Ne.symm k)).trans q) ⟨_,e⟩ ?_;exact⟨j,its',g,r,e⟩
def Ay:V->V->V->Hp->(Hp->Prop)->Prop:=λo i v H Q=>∃p c k j,o=.ref p/\i=.int k/\H p=Z9 (.lst c)/\Wn c.length k=Z9 j/\Q (ZD H p (.lst (c.set j v)))
theorem Ax:Vk X Ay:=by
 intro w s Z H o i v F K u Q I D C z h;obtain⟨p,E,k,j,rfl,rfl,g,A,q⟩:=h;cases D;obtain⟨t,rfl⟩:=C;obtain⟨c,n,r,f,B⟩:=I.lst g;obtain⟨d,G,x,l⟩:=Hs A;have e:=r.length;have J:=QP;have y :=
  I.lstUpd g f (Az c n j u) (r.set z j) (by rw[qG5];exact B) s.toks
 by_cases m:0<=k
 .have hk:=by rw[dP m l]at d;exact Option.some.inj d
  exact W.ki_setAt f m (by omega) (by rw[qB5,<- e];exact l) (by rw[hk];exact⟨_,y,q⟩)
 .have hk:(k+c.toArray.size).toNat=j:=by rw[dD (by omega) x]at d;rw[qB5,<- e];exact Option.some.inj d
  exact W.ki_setBack f (by omega) (by rw[qB5,<- e];exact x) (by omega) (by rw[hk];exact⟨_,y,q⟩)
theorem Aw(lo hi:yG)(n:Nat):(wU lo hi Z8 n).1=((HT.sIx n 0 lo:Nat):Int)/\(wU lo hi Z8 n).2.1=((HT.sIx n n hi:Nat):Int)/\(wU lo hi Z8 n).2.2=1:=by
 refine⟨?_,?_,rfl⟩
 .cases lo with
  |none=>simp[wU,HT.sIx]
  |some i =>
   simp only[wU,HT.sIx,qR1,show(1:Int)>0 by decide,if_true];by_cases h:i<0
   .simp only[h,if_true]<;>omega
   .simp only[h,if_false]<;>omega
 .cases hi with
  |none=>simp[wU,HT.sIx]
  |some i =>
   simp only[wU,HT.sIx,qR1,show(1:Int)>0 by decide,if_true];by_cases h:i<0
   .simp only[h,if_true]<;>omega
   .simp only[h,if_false]<;>omega
theorem Av(c:yB)(lo hi:yG):slicePick c.toArray lo hi Z8=((c.drop (HT.sIx c.length 0 lo)).take (HT.sIx c.length c.length hi - HT.sIx c.length 0 lo)).toArray:=by obtain⟨e,f,d⟩:=Aw lo hi c.toArray.size;unfold slicePick;rw[e,f,d];simp only[sliceRange_one,pick_run]<;>rfl
def LY(K:yQ):V->yG->yG->Hp->VK->Prop:=λx e d H Q=>∃a c,x=.ref a/\YA K H a c/\∀p,H p=Z8->Q (.ref p) (ZD H p (.lst (W0 c e d)))
theorem Au:RU X (LY X.K):=by intro f s Z H x v t w e g p Q I l n o i h;obtain⟨a,c,rfl,k,q⟩:=h;cases l;obtain⟨m,r,ht,j⟩:=I.list k;have d:=r.length;refine⟨"list",_,slot_list_getitem.lookup,ht.isList.typeIs,?_⟩;refine wpAny_getItem_list_slice ht.isList n o i .none (by simp) ?_ (by rw[qB5]<;>omega);rw[Av,<- d];refine⟨.ref s.heap.objs.size,_,I.laid (t':=s.toks) (λb u q=>qA4 _ q) (qA7 _) ?_,rfl,q _ (I.hok.fresh (qA7 _))⟩;exact⟨qC6 (Ht c e g) j,_,0,(r.drop (HT.sIx c.length 0 e)).take (HT.sIx c.length c.length g - HT.sIx c.length 0 e),qB1 _ rfl⟩
noncomputable def U0:V->Bool
 |.non=>Z7
 |.bl _=>Z7
 |.int _=>Z7
 |.str _=>Z7
 |_=>Z5
noncomputable def UZ:V->V->Bool
 |.non,.non=>Z7
 |.bl a,.bl b=>a == b
 |.bl a,.int b=>(if a then 1 else 0) == b
 |.int a,.bl b=>a == (if b then 1 else 0)
 |.int a,.int b=>a == b
 |.str a,.str b=>a == b
 |_,_=>Z5
theorem As{A:jC}{s:yS}{y x:V}{u v:yU}(e:ZK y u)(c:ZK x v)(g:U0 y=Z7)(f:U0 x=Z7):SeqAt.EqAt A s u v (UZ y x):=by
 cases y with
 |non =>
  cases e;cases x with
  |non=>cases c;exact SeqAt.EqAt.same _
  |bl b=>cases c;exact SeqAt.EqAt.none_bool b
  |int b=>obtain⟨t,rfl⟩:=c;exact SeqAt.EqAt.none_int b t
  |str b=>obtain⟨t,rfl⟩:=c;exact SeqAt.EqAt.none_str b t
  |_=>exact absurd (show Z5=Z7 from f) qB4
 |bl a =>
  cases e;cases x with
  |non=>cases c;exact SeqAt.EqAt.bool_none a
  |bl b=>cases c;exact SeqAt.EqAt.bool_bool a b
  |int b=>obtain⟨t,rfl⟩:=c;exact SeqAt.EqAt.bool_int a b t
  |str b=>obtain⟨t,rfl⟩:=c;exact SeqAt.EqAt.bool_str a b t
  |_=>exact absurd (show Z5=Z7 from f) qB4
 |int a =>
  obtain⟨d,rfl⟩:=e;cases x with
  |non=>cases c;exact SeqAt.EqAt.int_none a d
  |bl b=>cases c;exact SeqAt.EqAt.int_bool a d b
  |int b=>obtain⟨t,rfl⟩:=c;exact SeqAt.EqAt.int_int a d b t
  |str b=>obtain⟨t,rfl⟩:=c;exact SeqAt.EqAt.int_str a d b t
  |_=>exact absurd (show Z5=Z7 from f) qB4
 |str a =>
  obtain⟨d,rfl⟩:=e;cases x with
  |non=>cases c;exact SeqAt.EqAt.str_none a d
  |bl b=>cases c;exact SeqAt.EqAt.str_bool a d b
  |int b=>obtain⟨t,rfl⟩:=c;exact SeqAt.EqAt.str_int a d b t
  |str b=>obtain⟨t,rfl⟩:=c;exact SeqAt.EqAt.str_str a d b t
  |_=>exact absurd (show Z5=Z7 from f) qB4
 |_=>exact absurd (show Z5=Z7 from g) qB4
noncomputable def Wm(x:V)(u:yU):Bool:=match u with
 |.none=>UZ .non x
 |.bool b=>UZ (.bl b) x
 |.int i _=>UZ (.int i) x
 |.str z _=>UZ (.str z) x
 |_=>Z5
theorem Ho{x y:V}{u:yU}(r:ZK y u)(f:U0 y=Z7):Wm x u=UZ y x:=by
 cases y with
 |non=>cases r;rfl
 |bl b=>cases r;rfl
 |int i=>obtain⟨t,rfl⟩:=r;rfl
 |str z=>obtain⟨t,rfl⟩:=r;rfl
 |_=>exact absurd (show Z5=Z7 from f) qB4
theorem QN{x:V}:∀{xs:List V}{c:yB},ZO xs c->xs.all U0=Z7->c.any (Wm x)=xs.any λy=>UZ y x
 |_,_,.nil,_=>rfl
 |y::xs,u::c,.cons r t,f=>by rw[qK1,qC5]at f;rw[qG0,qG0,Ho r f.1,QN t f.2]
theorem QM{A:jC}{s:yS}{x:V}{v:yU}(e:ZK x v)(g:U0 x=Z7):∀{xs:List V}{d:yB},ZO xs d->xs.all U0=Z7->∀u∈d,SeqAt.EqAt A s u v (Wm x u)
 |_,_,.nil,_=>λu c=>by cases c
 |y::xs,u::d,.cons r t,f=>λh c=>by
  rw[qK1,qC5]at f;rcases qA9.mp c with rfl|c
  .rw[Ho r f.1];exact As r e f.1 g
  .exact QM e g t f.2 h c
noncomputable def T8(x:V)(xs:List V):Bool:=xs.any λy=>UZ y x
def LX(K:yQ)(neg:Bool):R2:=λx y H Q=>∃p c,y=.ref p/\(YA K H p c∨Zg K H p c)/\U0 x=Z7/\c.all U0=Z7/\Q (.bl (if neg then !T8 x c else T8 x c)) H
theorem Ar:Y0 X (y8 .In) (LX X.K Z5):=by
 intro j s Z H x y v u Q I g l h;obtain⟨p,m,rfl,d,i,fs,q⟩:=h;cases l;rcases d with d|d
 .obtain⟨c,r,f,k⟩:=I.list d;refine SeqAt.in_listAt (Wm x) f.isList (λw e=>QM g i r fs w (by simpa using e)) ⟨.bl _,H,I,rfl,?_⟩;rw[show c.toArray.any (Wm x)=c.any (Wm x) by simp,QN r fs];exact q
 .obtain⟨c,r,f,k⟩:=I.tuple d;refine SeqAt.in_tupleAt (Wm x) f (λw e=>QM g i r fs w (by simpa using e)) ⟨.bl _,H,I,rfl,?_⟩;rw[show c.toArray.any (Wm x)=c.any (Wm x) by simp,QN r fs];exact q
theorem Aq:Y0 X (y8 .NotIn) (LX X.K Z7):=by
 intro j s Z H x y v u Q I g l h;obtain⟨p,m,rfl,d,i,fs,q⟩:=h;cases l;rcases d with d|d
 .obtain⟨c,r,f,k⟩:=I.list d;refine SeqAt.notIn_listAt (Wm x) f.isList (λw e=>QM g i r fs w (by simpa using e)) ⟨.bl _,H,I,rfl,?_⟩;rw[show c.toArray.any (Wm x)=c.any (Wm x) by simp,QN r fs];exact q
 .obtain⟨c,r,f,k⟩:=I.tuple d;refine SeqAt.notIn_tupleAt (Wm x) f (λw e=>QM g i r fs w (by simpa using e)) ⟨.bl _,H,I,rfl,?_⟩;rw[show c.toArray.any (Wm x)=c.any (Wm x) by simp,QN r fs];exact q
theorem Ap:Ys X (.builtin "len") (λxs H Q=>∃p ys,xs=[.ref p]/\(YA X.K H p ys∨Zg X.K H p ys)/\Q (.int ys.length) H):=by
 intro i s Z H xs m Q I r h;obtain⟨p,ys,rfl,d,q⟩:=h;obtain⟨u,rfl,k⟩:=Xv r;cases k;have l:=QP;rcases d with d|d
 .obtain⟨f,e,g,j⟩:=I.list d;have c:=e.length;exact Calls.call_len_list g.isList (by simp only[qB5]<;>omega) ⟨.int ys.length,H,I.tok _,⟨s.toks+1,by rw[qB5,c]⟩,q⟩
 .obtain⟨f,e,g,j⟩:=I.tuple d;have c:=e.length;exact len_tuple g (by simp only[qB5]<;>omega) ⟨.int ys.length,H,I.tok _,⟨s.toks+1,by rw[qB5,c]⟩,q⟩
theorem Ao:Ys X (.builtin "len") (λxs H Q=>∃z,xs=[.str z]/\z.length<=jA/\Q (.int z.length) H):=by intro c s Z H xs e Q I r h;obtain⟨z,rfl,f,q⟩:=h;obtain⟨u,rfl,t,rfl⟩:=Xv r;have d:=QP;exact len_str (by omega) ⟨.int z.length,H,I.tok _,⟨_,rfl⟩,q⟩
theorem An:Ys X (.type "list") (λxs H Q=>∃p ys,xs=[.ref p]/\(YA X.K H p ys∨Zg X.K H p ys)/\∀l,H l=Z8->Q (.ref l) (ZD H l (.lst ys))):=by
 intro m s Z H xs A Q I r h;obtain⟨p,ys,rfl,i,q⟩:=h;obtain⟨u,rfl,z⟩:=Xv r;cases z;have fin:∀c,ZO ys c->ys.length<=jA->∀d g,(∀b y,s.heap.get? b=Z9 y->d.get? b=Z9 y) ->
   d.get? s.heap.objs.size=Z9 { cls:=.type "list",dict:=Z8,data:=.seq c.toArray g,slots:=#[] }->EP X m Z Q (.ref s.heap.objs.size) { s with heap:=d }:=λc f j d g kp e =>
  ⟨.ref s.heap.objs.size,_,I.laid (t':=s.toks) kp (qA7 _) (show Xd X.prog X.w _ d _ (.lst ys)from⟨j,c,g,f,e⟩),rfl,q _ (I.hok.fresh (qA7 _))⟩
 rcases i with i|i
 .obtain⟨c,f,v,j⟩:=I.list i;have k:=f.length;obtain⟨o,w,t,n,x⟩:=v.isList;exact call_list_seq p (.inl rfl) w t x (λd g kp e=>fin c f j d g kp e) (by simp only[qB5]<;>omega)
 .obtain⟨c,f,v,j⟩:=I.tuple i;have k:=f.length;obtain⟨o,w,t,n,x⟩:=v;exact call_list_seq p (.inr rfl) w t x (λd g kp e=>fin c f j d g kp e) (by simp only[qB5]<;>omega)
theorem Hn:Ys X (.type "tuple") (λxs H Q=>∃p ys,xs=[.ref p]/\((YA X.K H p ys/\∀l,H l=Z8->Q (.ref l) (ZD H l (.tup ys)))∨(Zg X.K H p ys/\Q (.ref p) H))):=by
 intro m s Z H xs w Q I r h;obtain⟨p,ys,rfl,h⟩:=h;obtain⟨u,rfl,t⟩:=Xv r;cases t;rcases h with⟨d,q⟩| ⟨d,q⟩
 .obtain⟨c,f,g,j⟩:=I.list d;have k:=f.length;refine call_tuple_list g.isList (λv kp=>?_) (by simp only[qB5]<;>omega);have i:=I.kept (t':=s.toks) kp;have n :=
   i.laid (t':=s.toks) (λb o e=>qA4 _ e) (qA7 _) (show Xd X.prog X.w _ _ _ (.tup ys)from⟨j,c,f,IsTup.new _ _⟩)
  exact⟨.ref v.objs.size,_,n,rfl,q _ (i.hok.fresh (qA7 _))⟩
 .obtain⟨c,f,g,j⟩:=I.tuple d;exact call_tuple_same g ⟨.ref p,H,I,rfl,q⟩
def OA(K:yQ)(T:String)(x:V)(H:Hp):Prop:=match x with
 |.str _=>T = "str"
 |.int _=>T = "int"
 |.ref p=>(T = "list"/\∃d,YA K H p d)∨(T = "tuple"/\∃o,K.lookup p=Z9 o/\o.cls=.type "tuple"/\o.dict=Z8) ∨
   (T = "dict"/\((∃c,H p=Z9 (.dK c))∨∃c,H p=Z9 (.dT c)))∨(T = "set"/\∃S n,H p=Z9 (.set S n))
 |_=>False
theorem Hm{d:yD}{Z:St}{H:Hp}{s:yS}{T:String}{x:V}{v:yU}(I:ZR X d Z H s)(r:ZK x v)(f:OA X.K T x H):
  s.TypeIs v T/\∀a,v=.ref a->∃l,s.heap.get? a=Z9 l/\l.dict=Z8:=by
 cases x with
 |str z =>
  obtain⟨t,rfl⟩:=r;cases (show T = "str" from f);exact⟨typeIs_str s z t,λ_ e=>nomatch e⟩
 |int i =>
  obtain⟨t,rfl⟩:=r;cases (show T = "int" from f);exact⟨typeIs_int s i t,λ_ e=>nomatch e⟩
 |ref p =>
  cases r;rcases f with⟨rfl,w,q⟩| ⟨rfl,o,hk,m,j⟩| ⟨rfl,hk⟩| ⟨rfl,S,n,hk⟩
  .obtain⟨u,_,k,_⟩:=I.list q;refine⟨k.isList.typeIs,λa e=>?_⟩;cases e;obtain⟨o,n,e,c,j,_⟩:=k;exact⟨o,e,j⟩
  .refine⟨⟨o,I.kIn p o hk,m⟩,λa e=>?_⟩;cases e;exact⟨o,I.kIn _ o hk,j⟩
  .have z:∃o,s.heap.get? p=Z9 o/\o.ExactDict:=by
    rcases hk with⟨h,hk⟩| ⟨h,hk⟩
    .obtain⟨_,_,_,_,o,_,_,e,ex,_⟩:=I.hok p _ hk;exact⟨o,e,ex⟩
    .obtain⟨_,_,_,_,o,_,_,e,ex,_⟩:=I.hok p _ hk;exact⟨o,e,ex⟩
   obtain⟨o,e,ex⟩:=z;refine⟨⟨o,e,ex.1⟩,λa g=>?_⟩;cases g;exact⟨o,e,ex.2.1⟩
  .obtain⟨o,_,_,_,e,ex,_⟩:=I.hok p _ hk;refine⟨⟨o,e,ex.1⟩,λa g=>?_⟩;cases g;exact⟨o,e,ex.2.1⟩
 |_=>exact False.elim f
def LW(K:yQ)(T:String)(r:V->List V->Hp->VK->Prop)(d:TE):TE:=fun Z H Q=>d Z H λx c=>OA K T x c/\r x [] c Q
def Am(K:yQ)(T:String)(r:V->List V->Hp->VK->Prop)(d:TE)(t:TA):TE:=fun Z H Q=>d Z H λx c=>OA K T x c/\t Z c λf e=>r x f e Q
variable {o e:yZ}{es:yE}{to:TE}{t:TA}{name:Str}{apos cpos:Pos}{T id:String}{r:V->List V->Hp->VK->Prop}
theorem Al(y:mS T)(g:Slot T name id)(i:dM (.builtin id)=pure (.type "method_descriptor"))(hm:RQ X id r)(w:PE X o to)
  (d:wM o name X.env (vO o X.env)=vO o X.env:=by rfl) (f:(apos.endLine == cpos.line)=Z7:=by rfl):PE X (.Call (.Attribute o name apos) [] [] cpos) (LW X.K T r to):=by intro c s Z H Q I h;refine wpAny_Call_method0_late d f (Zo (w c s Z H _ I h) λv m ⟨x,l,j,k,u,q⟩=>?_);obtain⟨n,p⟩:=Hm j k u;exact⟨T,id,y,g,i,n,p,lC rfl (PySem.evalArgs_none (hm c m Z l x [] v [] Q j k .nil q))⟩
theorem Ak(M:mS T)(j:Slot T name id)(k:dM (.builtin id)=pure (.type "method_descriptor"))(hm:RQ X id r)(L:PE X o to)(J:PA X (e::es) t)
  (f:wM o name X.env (vO o X.env)=vO o X.env:=by rfl)
  (i:((wO cpos (jG (e::es) X.env)).all (λx=>!x.1)&&(backToKw cpos (lU [] X.env)).all (λx=>x.1.isSome)
   && decide ((e::es).length+([]:List lE).length+(if([]:List lE).isEmpty then 0 else 1)<30))=Z7:=by rfl)
  (g:(apos.endLine == cpos.line)=Z7:=by rfl) (B:jG (e::es) X.env=(Z5,vO e X.env)::jG es X.env:=by rfl) (d:(wO cpos (jG es X.env)).any (·.1)=Z5:=by rfl) :
  PE X (.Call (.Attribute o name apos) (e::es) [] cpos) (Am X.K T r to t):=by intro c s Z H Q I h;refine wpAny_Call_method_late f i g rfl (Zo (L c s Z H _ I h) λv z ⟨x,y,l,m,K,F⟩=>?_);obtain⟨C,D⟩:=Hm l m K;refine⟨T,id,M,j,k,C,D,?_⟩;have n:=J cpos c z Z y _ l F;rw[B]at n ⊢;refine lC (by show(Z5||(wO cpos (jG es X.env)).any (·.1))=Z5;rw[d]<;>rfl) (lV ?_);exact Zo n λG A ⟨E,u,q,w,p⟩=>hm c A Z u x E v G Q q m w p
end
def Hl(X:Cx)(id:String)(r:V->List V->Hp->VK->Prop):Prop :=
 ∀(a:yD) (s:yS) (Z:St) (H:Hp) (x:V) (c:List V) (v:yU) (b:yB) (Q:VK),ZR X a Z H s->ZK x v->ZO c b->r x c H Q ->
  y7 (yW X.prog X.w) X.A (call (.builtin id) (v::b)) (EP X a Z Q) X.xe s
theorem ZO.cinv{x:V}{xs:List V}:∀{a:yB},ZO (x::xs) a->∃u r,a=u::r/\ZK x u/\ZO xs r
 |_,.cons r t=>⟨_,_,rfl,r,t⟩
theorem ZO.ninv:∀{a:yB},ZO [] a->a=[]
 |_,.nil=>rfl
theorem ZO.one{x:V}{b:yB}(h:ZO [x] b):∃u,b=[u]/\ZK x u:=by obtain⟨u,r,rfl,a,t⟩:=h.cinv;rw[t.ninv];exact⟨u,rfl,a⟩
theorem ZO.two{x y:V}{c:yB}(h:ZO [x,y] c):∃u v,c=[u,v]/\ZK x u/\ZK y v:=by obtain⟨u,r,rfl,a,t⟩:=h.cinv;obtain⟨v,rfl,b⟩:=t.one;exact⟨u,v,rfl,a,b⟩
theorem ZO.zero:∀{a:yB},ZO [] a->a=[]
 |_,.nil=>rfl
theorem ZO.dropLast{xs:List V}{a:yB}(h:ZO xs a):ZO xs.dropLast a.dropLast:=by
 induction h with
 |nil=>exact .nil
 |cons r t b =>
  cases t with
  |nil=>exact .nil
  |cons q c=>exact .cons r b
section
variable {X:Cx}{pins:yD}{Z:St}{H:Hp}{s:yS}{l b:yR}{xs ys zs:List V}
theorem ZR.lset{a its':yB}{n:Nat}{f:yJ->yJ}{t':Nat}(I:ZR X pins Z H s)(hH:H l=Z9 (.lst xs))
  (e:s.heap.get? l=Z9 { cls:=.type "list",data:=.seq a.toArray n }) (g:f a.toArray=its'.toArray) (d:ZO ys its') (i:ys.length<=jA) :
  ZR X pins Z (ZD H l (.lst ys)) { s with heap:=s.heap.update l (wC f),toks:=t' }:=by have q:=PySem.IsL.update e f;rw[g]at q;refine I.write (by rw[hH];exact trivial) (.inl rfl) (λj u c h=>(qE4 s.heap (wC f) (Ne.symm c)).trans h) ⟨_,q⟩ ?_;exact⟨i,its',_,d,q⟩
theorem ZR.lnew{a:yB}{t':Nat}(I:ZR X pins Z H s)(c:ZO ys a)(d:ys.length<=jA):
  ZR X pins Z (ZD H s.heap.objs.size (.lst ys)) { s with heap:=s.heap.push { cls:=.type "list",data:=.seq a.toArray },toks:=t' } :=
 I.laid (λ_ _ q=>qA4 _ q) (qA7 _) ⟨d,a,0,c,qB1 _ rfl⟩
theorem ZR.fresh(I:ZR X pins Z H s):H s.heap.objs.size=Z8:=I.hok.fresh (qA7 _)
theorem ZR.lstM(I:ZR X pins Z H s)(hH:H l=Z9 (.lst xs)):xs.length<=jA/\∃(a:yB) (n:Nat),ZO xs a/\xs.length=a.length/\s.heap.get? l=Z9 { cls:=.type "list",data:=.seq a.toArray n }:=by obtain⟨z,a,n,r,e⟩:=I.hok l _ hH;exact⟨z,a,n,r,r.length,e⟩
end
section
variable {X:Cx}
def Aj:V->List V->Hp->VK->Prop:=λx b H Q=>∃l a y,x=.ref l/\b=[y]/\H l=Z9 (.lst a)/\a.length<jA/\Q .non (ZD H l (.lst (a++[y])))
theorem Hk:Hl X "list.append" Aj:=by intro b s Z H x j v k Q I d c h;obtain⟨l,g,y,rfl,rfl,hH,i,q⟩:=h;cases d;obtain⟨u,rfl,f⟩:=c.one;obtain⟨z,a,n,r,m,e⟩:=I.lstM hH;refine call_meets F.slot_list_append ⟨_,e,rfl⟩ F.entry_list_append (F.args_list_append_2 _ _) (PySem.list_append l a.toArray n u (by rw[qB5];omega)) ⟨e,?_⟩;refine⟨.non,_,I.lset (its':=a++[u]) hH e (by simp) (r.append (.cons f .nil)) ?_,rfl,q⟩;rw[qC1,List.length_singleton];omega
def LV:R2:=λx y H Q=>∃l b a c,x=.ref l/\y=.ref b/\H l=Z9 (.lst a)/\H b=Z9 (.lst c)/\a.length+c.length<=jA/\∀p,H p=Z8->Q (.ref p) (ZD H p (.lst (a++c)))
theorem Ai:Y0 X (jK .Add) LV:=by
 intro d s Z H x y v u Q I i o h;obtain⟨l,b,p,A,rfl,rfl,hH,m,t,q⟩:=h;cases i;cases o;obtain⟨z,c,n,r,w,e⟩:=I.lstM hH;obtain⟨B,a,C,f,j,g⟩:=I.lstM m;refine PySem.P.add_list e g ?_ (by rw[qB5,qB5];omega);have k:c.toArray++a.toArray=(c++a).toArray:=by simp
 rw[k];exact⟨.ref _,_,I.lnew (t':=s.toks) (r.append f) (by rw[qC1];omega),rfl,q _ I.fresh⟩
end
end L2
namespace Att
open PySem PySem.W PySem.Calls PyProof.Rows
theorem Ah{P:Params}{h:jE}:∀(ns:yA) (c:yB),WellAll P h c (ns.map WData.int)->vR c ns:=by
 intro ns
 induction ns with
 |nil =>
  intro c w;cases w;exact .nil
 |cons n ns d =>
  intro c w;cases w with
  |cons a b =>
   cases a;exact .cons _ _ (d _ b)
theorem Ag{l:OpenLaw}{n:Nat}(x:l.most=Z9 n){P:Params}{h:jE}{args:List WData}{c:yB}
  (e:l.row.toRowW.claim.pre args=Z7) (m:WellAll P h c args) :
  ∃a o b,c=[Value.ref a]/\args=[WData.list (b.map WData.int)]/\h.get? a=Z9 { cls:=.type "list",data:=.seq o.toArray }/\vR o b/\b.length<=n:=by
 have k:WShape.hasAll [] args [.list .int]=Z7:=(pre_splitW e).1;have s:l.pre.holds [] { args:=args }=Z7:=(pre_splitW e).2;obtain⟨d,r,rfl,v,w⟩:=hasAllW_cons k;obtain rfl:=hasAllW_nil w;obtain⟨A,rfl,z⟩:=hasW_list v;obtain⟨b,rfl⟩:=items_int z;have f:b.length<=n:=by
  have i:=by have i:=(holds_andW s).1;rw[x]at i;exact i
  have j:=condW_of i (w_not (w_lt w_lit (w_len_list (w_arg rfl))));rw[qA3]at j;refine qO1 λq=>?_;have u:n<(b.length:Int):=by omega
  first
   |(rw[decide_eq_true u]at j;exact absurd j (by decide))
   |(simp at j)
 cases m with
 |cons p t =>
  cases t;cases p with
  |list y g=>exact⟨_,_,b,rfl,rfl,y,Ah b _ g,f⟩
theorem Af(l:OpenLaw)(a:List WData):l.row.toRowW.claim.post a (.bool Z7) a=Z7 :=
 postW_of
  (by first|rfl|decide|simp[WShape.arms])
  (w_eq_bool (w_res rfl) w_lit) rfl
theorem attach_call{l:OpenLaw}{n:Nat}{q:y4}{c:yH}{C:(Str->yF)->jE->Prop}{H:jD->jE->Prop}{d:DefRec}
  (Q:l.most=Z9 n) (v:d.params.defaults=[])
  (call:∀(w:jD) (e b:yS) (t y:Str->yF) (k:yR) (o:Obj) (A u g:yU) (a:yR) (i:yB) (s:yA),
   Ground q c [] C w e t y b.heap->H w b.heap ->
   b.heap.get? k=Z9 o->o.data=.func (docDef d.name d.params d.body d.scope A u g)->b.heap.CodeRec u d.name->t d.name=Z9 (.ref k) ->
   b.heap.get? a=Z9 { cls:=.type "list",data:=.seq i.toArray }->vR i s->s.length<=n->b.gens=#[] ->
   wB (yW l.prog w) mG (.call (.ref k) ⟨[.ref a],[]⟩) (λr s'=>r=.ok (.ret (.bool Z7))/\OldK b.heap s'.heap/\s'.os=b.os/\fR s'.gens) b) :
  WalkO q c C H l.row.toRowW d [] (λf i=>PySem.call f i):=by intro w e b t y G Y k o A u g L kV R T x F B S E I V p D M z N;obtain rfl:L=.none:=Dflts.none F v;obtain rfl:kV=.none:=Dflts.noKw F;obtain⟨a,i,s,rfl,rfl,j,h,m⟩:=Ag Q p z;refine enter_call (vW (call w e b t y k o A u g a i s G Y R (fd_plain T) x B j h m S) λr s' K=>?_);obtain⟨rfl,P,U,O⟩:=K;exact⟨.inl ⟨.bool Z7,.bool Z7,[],rfl,λ_=>rfl,.bool Z7,Af l _,λ_=>⟨List.Pairwise.nil,λ_ J=>(nomatch J)⟩⟩,P,U,O⟩
end Att
namespace L2
open PySem PySem.Spec PyProof.Rows
theorem Hj:∀{a:yB}{b:yA},vR a b->ZO (b.map V.int) a
 |_,_,.nil=>.nil
 |_,_,.cons n t h=>.cons ⟨t,rfl⟩ (Hj h)
noncomputable def UI(s:vK):Arguments:=match s with
 |.FunctionDef _ a _ _ _ _ _ _ _ _=>a
 |_=>{ posonlyargs:=[],args:=[],vararg:=Z8,kwonlyargs:=[],kw_defaults:=[],kwarg:=Z8,defaults:=[] }
noncomputable def Xk(s:vK):List Stmt:=match s with
 |.FunctionDef _ _ b _ _ _ _ _ _ _=>b
 |_=>[]
noncomputable def Zi(s:vK):Scope:=match s with
 |.FunctionDef _ _ _ _ _ _ a _ _ _=>a
 |_=>{ kind:=.function,names:=[],isGenerator:=Z5,isCoroutine:=Z5 }
noncomputable abbrev Wk:U1:=λ_ _ _ _ _ _=>False
noncomputable abbrev E0:XK:=λ_ _ _=>False
structure WZ(K:yQ)(x qual:Str)(st:vK)(f:yR)(fd:jW):Prop where
 ex:∃(oc:yU) (od:Option yR) (kV doc pm:yU) (an:Option yR) (cdv ct:yU) (osl:Array (yF)),
  fd=gI x qual (UI st) (Xk st) (Zi st) .none kV doc pm an cdv ct/\K.lookup f=Z9 ⟨oc,od,.func fd,osl⟩/\mZ K cdv qual=Z7
 kp:lS K (.ref f)=Z7
section
variable {P:y4}{w:jD}{K:yQ}{mg:Str->yF}{base:jE}
theorem WZ.binds{x a:Str}{st:vK}{f:yR}{j:jW}{ps:yH}(F:WZ K x a st f j)
  (h:∀(kV b d:yU) (i:Option yR) (c e:yU) (g:yB),g.length=ps.length->bindArgs (gI x a (UI st) (Xk st) (Zi st) .none kV b d i c e) ⟨g,[]⟩=pure (ps.zip g)):VZ K j ps []:=by obtain⟨o,n,kV,b,d,i,c,e,k,rfl,m,l⟩:=F.ex;exact .all (h kV b d i c e)
theorem Ae{x a:Str}{st:vK}{f:yR}{m:yU}{j i:Option yR}{e:Array (yF)}{kV d g b h:yU}(l:K.lookup f=Z9 ⟨m,j,.func (gI x a (UI st) (Xk st) (Zi st) .none kV d g i b h),e⟩)
  (c:mZ K b a=Z7) (k:lS K (.ref f)=Z7):WZ K x a st f (gI x a (UI st) (Xk st) (Zi st) .none kV d g i b h):=⟨⟨m,j,kV,d,g,i,b,h,e,rfl,l,c⟩,k⟩
end
theorem LU{A:jC}{k:Nat}(a:Zj k A):A.units+1<cLine:=qG6 (Nat.add_le_add_left (by decide:1<=64) _) a.units
theorem Hi{n:Nat}(h:n<=1000):n<sizeLine:=qG6 h (by decide)
def XS(H a:Hp):Prop:=∀b o,H b=Z9 o->a b=Z9 o
theorem XS.refl(H:Hp):XS H H:=λ_ _ h=>h
section
variable {κ:Type} [DecidableEq κ]
noncomputable def Ye(kvs:List (κ×V))(k:κ):Option V:=(kvs.find? λa=>decide (a.1=k)).map (·.2)
noncomputable def YK(kvs:List (κ×V))(k:κ)(v:V):List (κ×V) :=
 if(kvs.any λa=>decide (a.1=k))=Z7 then kvs.map (λa=>if a.1=k then(a.1,v)else a)else kvs++[(k,v)]
theorem Oz{p:κ×V}{r:List (κ×V)}{k:κ}(e:p.1=k):Ye (p::r) k=Z9 p.2:=by simp[Ye,e]
theorem Oy{p:κ×V}{r:List (κ×V)}{k:κ}(e:¬p.1=k):Ye (p::r) k=Ye r k:=by simp[Ye,e]
theorem Hh(k:κ):∀kvs:List (κ×V),(kvs.any λa=>decide (a.1=k))=(Ye kvs k).isSome
 |[]=>rfl
 |p::r=>by
  rw[qG0];by_cases e:p.1=k
  .simp only[Oz e,decide_eq_true e,Bool.true_or,Option.isSome_some]
  .rw[Oy e,decide_eq_false e,Bool.false_or];exact Hh k r
theorem LS(kvs:List (κ×V))(k:κ)(v:V):(YK kvs k v).length<=kvs.length+1:=by
 unfold YK;split
 .rw[qA3];omega
 .simp_all
theorem Xe.isSome_eq{o:Option V}{u:yF}(r:Xe o u):o.isSome=u.isSome:=by
 cases o with
 |none=>cases u with
  |none=>rfl
  |some _=>exact(r).elim
 |some _=>cases u with
  |none=>exact(r).elim
  |some _=>rfl
theorem KV.val{kvs:List (κ×V)}{d:List (κ×yU)}(r:KV kvs d)(k:κ):Xe (Ye kvs k) (dE d k):=by
 induction r with
 |nil=>exact True.intro
 |@cons p q j a h t g =>
  obtain⟨f,i⟩:=h;by_cases e:p.1=k
  .have c:=f.symm.trans e;have b:dE (q::a) k=Z9 q.2:=by simp[dE,c]
   rw[Oz e,b];exact i
  .have c:¬q.1=k:=λz=>e (f.trans z);have b:dE (q::a) k=dE a k:=by simp[dE,c]
   rw[Oy e,b];exact g
theorem KV.any{kvs:List (κ×V)}{b:List (κ×yU)}(r:KV kvs b)(k:κ):(kvs.any λa=>decide (a.1=k))=b.any λa=>decide (a.1=k):=by
 induction r with
 |nil=>rfl
 |cons h t c=>rw[qG0,qG0,c,h.1]
theorem KV.repl{kvs:List (κ×V)}{c:List (κ×yU)}(r:KV kvs c)(k:κ){y:V}{u:yU}(f:ZK y u):
  KV (kvs.map λa=>if a.1=k then(a.1,y)else a) (c.map λa=>if a.1=k then(a.1,u)else a):=by
 induction r with
 |nil=>exact .nil
 |@cons p q j i h t d =>
  rw[qC7,qC7];refine .cons ?_ d;obtain⟨b,g⟩:=h;by_cases e:p.1=k
  .rw[if_pos e,if_pos (b.symm.trans e)];exact⟨b,f⟩
  .rw[if_neg e,if_neg (λz=>e (b.trans z))];exact⟨b,g⟩
theorem KV.put{kvs:List (κ×V)}{a:List (κ×yU)}(r:KV kvs a)(k:κ){y:V}{u:yU}(b:ZK y u):KV (YK kvs k y) (dN a k u):=by
 unfold YK dN;rw[r.any k];by_cases e:(a.any λc=>decide (c.1=k))=Z7
 .rw[if_pos e,if_pos e];exact r.repl k b
 .rw[if_neg e,if_neg e];exact Paired.snoc r ⟨rfl,b⟩
theorem KV.length{kvs:List (κ×V)}{a:List (κ×yU)}(r:KV kvs a):kvs.length=a.length:=Paired.length r
end
theorem Th{P:y4}{w:jD}{k:ZJ}{u:yU}(r:ZK (kV k) u):(Yw P w).is k u=Z7:=by
 cases k with
 |inl i=>obtain⟨t,e⟩:=(r);subst e;exact Cy P w i t
 |inr x=>obtain⟨t,e⟩:=(r);subst e;exact Cw P w x t
theorem Hg{P:y4}{w:jD}:∀{a:List ZJ}{b:yB},ZO (a.map kV) b->ItemsAre (Yw P w) a b
 |[],_,r=>by cases r;exact .nil
 |k::a,_,r=>by
  cases r with
  |cons h t=>exact .cons (Th h) (Hg t)
noncomputable abbrev KT(H:Hp):List (List ZJ×V)->List (List ZJ×yR×yU)->Prop:=lM λp q=>p.1=q.1/\H q.2.1=Z9 (.tup (p.1.map kV))/\ZK p.2 q.2.2
theorem KT.val{H:Hp}{kvs:List (List ZJ×V)}{xs:List (List ZJ×yR×yU)}(r:KT H kvs xs)(k:List ZJ):Xe (Ye kvs k) ((atKey xs k).map (·.2)):=by
 induction r with
 |nil=>exact True.intro
 |@cons p q i a h t f =>
  obtain⟨d,_,g⟩:=h;by_cases e:p.1=k
  .have c:=d.symm.trans e;have b:atKey (q::a) k=Z9 q.2:=by simp[atKey,c]
   rw[Oz e,b];exact g
  .have c:¬q.1=k:=λz=>e (d.trans z);have b:atKey (q::a) k=atKey a k:=by simp[atKey,c]
   rw[Oy e,b];exact f
theorem KT.repl{H:Hp}{kvs:List (List ZJ×V)}{xs:List (List ZJ×yR×yU)}(r:KT H kvs xs)(k:List ZJ){y:V}{u:yU}(g:ZK y u):
  KT H (kvs.map λb=>if b.1=k then(b.1,y)else b) (xs.map (putAt k u)):=by
 induction r with
 |nil=>exact .nil
 |@cons p q i j h t f =>
  rw[qC7,qC7];refine .cons ?_ f;obtain⟨a,c,d⟩:=h;unfold putAt;by_cases e:p.1=k
  .rw[if_pos e,if_pos (a.symm.trans e)];exact⟨a,c,g⟩
  .rw[if_neg e,if_neg (λz=>e (a.trans z))];exact⟨a,c,d⟩
theorem KT.put{H:Hp}{kvs:List (List ZJ×V)}{xs:List (List ZJ×yR×yU)}(r:KT H kvs xs)(k:List ZJ){b:yR}{y:V}{u:yU}(c:H b=Z9 (.tup (k.map kV)))(a:ZK y u):
  KT H (YK kvs k y) (storedH xs k b u):=by
 have e:(kvs.any λd=>decide (d.1=k))=(atKey xs k).isSome:=by rw[Hh,(r.val k).isSome_eq,qN5]
 unfold YK storedH;rw[e];by_cases q:(atKey xs k).isSome=Z7
 .rw[if_pos q,if_pos q];exact r.repl k a
 .rw[if_neg q,if_neg q];exact Paired.snoc r ⟨rfl,c,a⟩
theorem KT.keeps{H a:Hp}{kvs:List (List ZJ×V)}{xs:List (List ZJ×yR×yU)}(r:KT H kvs xs)(ht:∀b ys,H b=Z9 (.tup ys)->a b=Z9 (.tup ys)):KT a kvs xs :=
 Paired.mapP r λ_ _ z=>⟨z.1,ht _ _ z.2.1,z.2.2⟩
section
variable {P:y4}{w:jD}{H:Hp}{h:jE}{a:yR}
theorem Hf{u:HO}(ok:Yt P w H h)(e:Rd H a u):Xd P w H h a u:=e.ok ok
theorem T7{kvs:List (ZJ×V)}(ok:Yt P w H h)(e:Rd H a (.dK kvs)):kvs.length<=jA/\(a == vN)=Z5/\∃vs,KV kvs vs/\h.DictOf (Yw P w) a vs :=
 show Xd P w H h a (.dK kvs)from Hf ok e
theorem QL{kvs:List (ZJ×V)}(ok:Yt P w H h)(e:H a=Z9 (.dK kvs)):kvs.length<=jA/\(a == vN)=Z5/\∃vs,KV kvs vs/\h.DictOf (Yw P w) a vs:=T7 ok (.inl e)
theorem QK{c:List ZJ}(ok:Yt P w H h)(e:H a=Z9 (.tup (c.map kV))):(mE (Yw P w)).is h c a:=by
 obtain⟨_,b,r,o,f,g,n,d⟩:=(ok a _ e)
 exact⟨o,b.toArray,n,f,g,d,by simpa using Hg r⟩
theorem QJ{kvs:List (List ZJ×V)}(ok:Yt P w H h)(e:Rd H a (.dT kvs)):kvs.length<=jA/\(a == vN)=Z5 /\
  ∃xs,KT H kvs xs/\h.DictOfH (mE (Yw P w)) a xs:=by
 obtain⟨z,y,xs,r,o,n,d,g,i,k,f,j⟩:=(Hf ok e)
 refine⟨z,y,xs,r,o,n,d,g,i,k,f,λx b=>?_,j⟩;have all:∀{l:List (List ZJ×V)}{m:List (List ZJ×yR×yU)},KT H l m->∀x∈m,(mE (Yw P w)).is h x.1 x.2.1:=by
  intro l m q
  induction q with
  |nil=>intro x b;exact nomatch b
  |@cons p q u v c t s =>
   intro x b;rcases qA9.mp b with e|b
   .subst e;exact QK ok (by rw[<- c.1];exact c.2.1)
   .exact s x b
 exact all r x b
theorem Ad{kvs:List (List ZJ×V)}(ok:Yt P w H h)(e:H a=Z9 (.dT kvs)):kvs.length<=jA/\(a == vN)=Z5 /\
  ∃xs,KT H kvs xs/\h.DictOfH (mE (Yw P w)) a xs:=QJ ok (.inl e)
end
def XD(H:Hp)(a:yR)(y:V)(r:Option V):Prop :=
 (∃c k,Rd H a (.dK c)/\y=kV k/\r=Ye c k)∨∃c k b,Rd H a (.dT c)/\y=.ref b/\H b=Z9 (.tup (k.map kV))/\r=Ye c k
def Vi(H:Hp)(a:yR)(y v:V)(d:Hp):Prop :=
 (∃c k,H a=Z9 (.dK c)/\y=kV k/\c.length<jA/\d=ZD H a (.dK (YK c k v))) ∨
 ∃c k b,H a=Z9 (.dT c)/\y=.ref b/\H b=Z9 (.tup (k.map kV))/\c.length<jA/\d=ZD H a (.dT (YK c k v))
theorem XD.k{H:Hp}{a:yR}{kvs:List (ZJ×V)}{k:ZJ}(e:H a=Z9 (.dK kvs)):XD H a (kV k) (Ye kvs k):=.inl ⟨kvs,k,.inl e,rfl,rfl⟩
theorem Vi.k{H:Hp}{a:yR}{kvs:List (ZJ×V)}{k:ZJ}{v:V}(e:H a=Z9 (.dK kvs))(b:kvs.length<jA):Vi H a (kV k) v (ZD H a (.dK (YK kvs k v))):=.inl ⟨kvs,k,e,rfl,b,rfl⟩
section
variable {X:Cx}{pins:yD}{Z:St}{H:Hp}{s:yS}{a:yR}{y v:V}{u r:yU}{o:Option V}{A:jC}{E:yL}
theorem ZR.big(I:ZR X pins Z H s):vN<s.heap.objs.size:=by have h:=(I.mod.glob.keeps I.bk).lt;exact Nat.lt_trans (by decide) h
theorem Ac{Q:yL}(B:A.units+1<wK)(I:ZR X pins Z H s)(g:XD H a y (Z9 v))(t:ZK y u)(h:∀f s',ZR X pins Z H s'->ZK v f->Q f s'):
  y7 (yW X.prog X.w) A (gD (.ref a) u) Q E s:=by
 rcases g with⟨m,k,e,j,l⟩| ⟨m,k,b,e,j,w,l⟩
 .subst j;obtain⟨z,C,F,c,n⟩:=T7 I.hok e;obtain⟨f,i,d⟩:=Xe.some_of (by rw[l];exact c.val k);exact wpAny_getItem_of (Th t) n.mapOf i (h f _ (I.tok _) d)
 .subst j;cases (t);obtain⟨z,C,D,c,n⟩:=QJ I.hok e;obtain⟨f,i,d⟩:=Xe.some_of (by rw[l];exact c.val k);obtain⟨p,x,q⟩:=qA5.mp i;refine wpAny_getItem_heap (wQ B) (QK I.hok w) n x ?_;rw[q];exact h f _ (I.tok _) d
theorem LR{Q:yL}(p:A.units+1<wK)(I:ZR X pins Z H s)(g:XD H a y o)(m:ZK y u)(h:∀s',ZR X pins Z H s'->Q (.bool o.isSome) s'):
  y7 (yW X.prog X.w) A (y8 .In u (.ref a)) Q E s:=by
 rcases g with⟨f,k,e,d,l⟩| ⟨f,k,b,e,d,n,l⟩
 .subst d;obtain⟨z,j,w,c,i⟩:=T7 I.hok e;refine wpAny_in_of (Th m) j i.mapOf ?_;rw[<- (c.val k).isSome_eq,<- l];exact h _ (I.tok _)
 .subst d;cases (m);obtain⟨z,j,t,c,i⟩:=QJ I.hok e;refine wpAny_in_heap (wQ p) (QK I.hok n) j i ?_;have q:=(c.val k).isSome_eq;rw[qN5]at q;rw[<- q,<- l];exact h _ (I.tok _)
theorem Ab{Q:yL}(p:A.units+1<wK)(I:ZR X pins Z H s)(g:XD H a y o)(m:ZK y u)(h:∀s',ZR X pins Z H s'->Q (.bool (!o.isSome)) s'):
  y7 (yW X.prog X.w) A (y8 .NotIn u (.ref a)) Q E s:=by
 rcases g with⟨f,k,e,d,l⟩| ⟨f,k,b,e,d,n,l⟩
 .subst d;obtain⟨z,j,w,c,i⟩:=T7 I.hok e;refine wpAny_notIn_of (Th m) j i.mapOf ?_;rw[<- (c.val k).isSome_eq,<- l];exact h _ (I.tok _)
 .subst d;cases (m);obtain⟨z,j,t,c,i⟩:=QJ I.hok e;refine wpAny_notIn_heap (wQ p) (QK I.hok n) j i ?_;have q:=(c.val k).isSome_eq;rw[qN5]at q;rw[<- q,<- l];exact h _ (I.tok _)
theorem Ox{h':jE}{t':Nat}{c:HO}(I:ZR X pins Z H s)(e:R1 (H a))(g:qH7 a s.heap h')(he:∃q,h'.get? a=Z9 q)(d:Xd X.prog X.w (ZD H a c) h' a c):
  ZR X pins Z (ZD H a c) { s with heap:=h',toks:=t' } :=
 I.write e (.inl rfl) (λb q f z=>(g.2 b f).trans z) he d
theorem Ow{P:y4}{w:jD}{e:Hp}{h':jE}{kvs:List (ZJ×V)}{b:List (ZJ×yU)}(z:kvs.length<=jA)(d:(a == vN)=Z5)(c:KV kvs b)(dd:h'.DictOf (Yw P w) a b):
  Xd P w e h' a (.dK kvs):=⟨z,d,b,c,dd⟩
theorem Aa{J:Hp}{Q:Unit->yS->Prop}(N:A.units+1<wK)(I:ZR X pins Z H s)(g:Vi H a y v J)(G:ZK y u)(B:ZK v r)(h:∀s',ZR X pins Z J s'->Q () s'):
  y7 (yW X.prog X.w) A (dU (.ref a) u r) Q E s:=by
 rcases g with⟨f,k,e,m,l,p⟩| ⟨f,k,b,e,m,C,l,p⟩
 .subst m p;obtain⟨z,x,R,d,t⟩:=QL I.hok e;have M:R.length<=sizeLine:=by rw[<- d.length];exact z
  have w:(YK f k v).length<=sizeLine:=by have:=LS f k v;omega
  refine wpAny_setItem_pairs (Th G) t λF i n=>h _ ?_;have W:∃q,F.get? a=Z9 q:=let ⟨q,_,_,j,_⟩:=i;⟨q,j⟩
  exact Ox I (by rw[e];exact True.intro) n W (Ow w x (d.put k B) i)
 .subst m p;cases (G);obtain⟨z,x,K,d,t⟩:=Ad I.hok e;have M:K.length<=sizeLine:=by rw[<- Paired.length d];exact z
  have w:(YK f k v).length<=sizeLine:=by have:=LS f k v;omega
  refine wpAny_setItem_heap (wQ N) (QK I.hok C) t λF i n=>h _ ?_;obtain⟨q,U,L,j,P,T,O,_,S⟩:=i;refine Ox I (by rw[e];exact True.intro) n ⟨q,j⟩ ⟨w,x,_,(d.put k C B).keeps λc Y D=>?_,q,U,L,j,P,T,O,S⟩;rw[Za (Cv D e (λz=>nomatch z))];exact D
end
section
variable {X:Cx}{pins:yD}{Z:St}{H:Hp}{s:yS}{a:yR}{kvs:List (ZJ×V)}{k:ZJ}{u:yU}{A:jC}{E:yL}
theorem z0{Q:yL}(I:ZR X pins Z H s)(e:Rd H a (.dK kvs))(h:∀t s',ZR X pins Z H s'->Q (.int kvs.length t) s'):y7 (yW X.prog X.w) A (call (.builtin "len") [.ref a]) Q E s:=by obtain⟨z,c,f,b,d⟩:=T7 I.hok e;refine call_len_dict c d (by rw[<- b.length];rw[wF]at z;omega) ?_;rw[<- b.length];exact h _ _ (I.tok _)
end
theorem zZ{X:Cx}{c:yD}{Z:St}{H:Hp}{s:yS}{a:yR}{y:V}{o:Option V}(I:ZR X c Z H s)(g:XD H a y o):s.TypeIs (.ref a) "dict":=by
 rcases g with⟨d,k,e,_,_⟩| ⟨d,k,b,e,_,_,_⟩
 .obtain⟨_,_,h,_,f⟩:=T7 I.hok e;exact f.typeIs
 .obtain⟨_,_,i,_,f⟩:=QJ I.hok e;exact f.typeIs
theorem LQ{P:y4}{w:jD}{H:Hp}(h:jE)(a:vN<h.objs.size):Xd P w H (h.push { cls:=.type "dict",data:=.dict #[] }) h.objs.size (.dK []) :=
 ⟨qF8 _,beq_eq_false_iff_ne.mpr (Ne.symm (qB7 a)),[],.nil,Heap.DictOf.new h⟩
def zY:TE:=λ_ H Q=>∀p,H p=Z8->Q (.ref p) (ZD H p (.dK []))
section
variable {X:Cx}{pos:Pos}
theorem zX:PE X (.Dict [] [] pos) zY:=λa s Z H Q I h =>
 wpAny_Dict_empty ⟨.ref s.heap.objs.size,_,I.laid (t':=s.toks) (λ_ _ q=>qA4 _ q) (qA7 _) (LQ s.heap I.big),rfl,h _ (I.hok.fresh (qA7 _))⟩
end
def LP:List (TE×TE)->St->Hp->(List (V×V)->Hp->Prop)->Prop
 |[],_,H,Q=>Q [] H
 |(b,tv)::r,Z,H,Q=>b Z H λx d=>tv Z d λy a=>LP r Z a λe c=>Q ((x,y)::e) c
noncomputable abbrev VV:List (V×V)->List (yU×yU)->Prop:=lM λp q=>ZK p.1 q.1/\ZK p.2 q.2
def Ov(X:Cx)(pos:Pos)(c:List (Option yZ))(a:yE)(d:List (TE×TE)):Prop :=
 ∀(b:yD) (s:yS) (Z:St) (H:Hp) (Q:List (V×V)->Hp->Prop),ZR X b Z H s->LP d Z H Q ->
  y7 (yW X.prog X.w) X.A (evalPairs (pairTrees c a X.env pos)) (λg h=>∃f e,ZR X b Z e h/\VV f g/\Q f e) X.xe s
theorem zW{X:Cx}{pos:Pos}:Ov X pos [] [] []:=λa s Z H Q I h=>pairTrees_nil_walk ⟨[],H,I,.nil,h⟩
theorem zV{X:Cx}{pos:Pos}{k v:yZ}{d:List (Option yZ)}{e:yE}{tk f:TE}{b:List (TE×TE)}(hk:PE X k tk)(z:PE X v f)(r:Ov X pos d e b):
  Ov X pos (Z9 k::d) (v::e) ((tk,f)::b):=λa s Z H Q I h =>
 pairTrees_cons_walk (Zo (hk a s Z H _ I h) λu q ⟨x,o,g,t,A⟩=>Zo (z a q Z o _ g A) λD w ⟨y,m,l,B,i⟩ =>
  Zo (r a w Z m _ l i) λE F ⟨p,C,j,c,n⟩=>⟨(x,y)::p,C,j,.cons ⟨t,B⟩ c,n⟩)
noncomputable def VY(kvs more:List (ZJ×V)):List (ZJ×V):=more.foldl (λacc a=>YK acc a.1 a.2) kvs
theorem KV.merge:∀{more:List (ZJ×V)}{rs:List (ZJ×yU)}{kvs:List (ZJ×V)}{a:List (ZJ×yU)},KV more rs->KV kvs a->KV (VY kvs more) (merged a rs):=by
 intro more rs kvs a r
 induction r generalizing kvs a with
 |nil=>intro q;exact q
 |@cons p q f d h t b =>
  intro c;have e:KV (YK kvs p.1 p.2) (dN a q.1 q.2):=by have:=c.put p.1 h.2;rw[<- h.1];exact this
  exact b e
theorem Ou:∀(more kvs:List (ZJ×V)),(VY kvs more).length<=kvs.length+more.length
 |[],kvs=>by show kvs.length<=kvs.length+0;omega
 |p::r,kvs=>by have a:=Ou r (YK kvs p.1 p.2);have b:=LS kvs p.1 p.2;show(VY (YK kvs p.1 p.2) r).length<=_;rw[qC3];omega
theorem He{P:y4}{w:jD}:∀{kvs:List (ZJ×V)}{e:List (yU×yU)},VV (kvs.map λd=>(kV d.1,d.2)) e->∃rs,Carries (Yw P w) e rs/\KV kvs rs
 |[],_,r=>by cases r;exact⟨[],True.intro,.nil⟩
 |p::kvs,_,r=>by
  cases r with
  |@cons a b g bs h t =>
   obtain⟨rs,c,q⟩:=He t;obtain⟨b1,f⟩:=b;exact⟨(p.1,f)::rs,⟨Th h.1,rfl,c⟩,.cons ⟨rfl,h.2⟩ q⟩
def zU(b:List (TE×TE)):TE:=fun Z H Q=>∀p,H p=Z8->LP b Z (ZD H p (.dK [])) λe d=>d p=Z9 (.dK [])/\∃a:List (ZJ×V),e=a.map (λc=>(kV c.1,c.2))/\a.length<=15/\Q (.ref p) (ZD d p (.dK (VY [] a)))
theorem zT{X:Cx}{pos:Pos}{a:List (Option yZ)}{b:yE}{i:List (TE×TE)}(h:Ov X pos a b i)(j:a.all (·.isSome)=Z7)(B:a.length=b.length)(y:a≠[])
  (k:a.length<=15):PE X (.Dict a b pos) (zU i):=by
 intro g s Z H Q I q;have A:=I.hok.fresh (qA7 s.heap.objs.size);have n:=I.laid (h':=s.heap.push { cls:=.type "dict",data:=.dict #[] }) (t':=s.toks) (λ_ _ q=>qA4 _ q) (qA7 _) (LQ s.heap I.big);refine wpAny_Dict_walk (knd:=Yw X.prog X.w) j B y k (Zo (h g _ Z _ _ n (q _ A)) λJ K ⟨G,F,m,l,e,f,t,L,o⟩=>?_);subst t;obtain⟨rs,c,v⟩:=He l;obtain⟨z,D,p,r,C⟩:=QL m.hok e;cases r;refine⟨rs,c,C,λh' d w=>⟨.ref s.heap.objs.size,_,?_,rfl,o⟩⟩;have u:(VY [] f).length<=sizeLine:=by have x:=Ou f [];rw[qM2]at x;rw[wF];omega
 have E:∃q,h'.get? s.heap.objs.size=Z9 q:=let ⟨q,_,_,hq,_⟩:=d;⟨q,hq⟩
 exact Ox m (by rw[e];exact True.intro) w E (Ow u D (v.merge .nil) d)
def T6(st a:St):Prop:=st.length=a.length/\∀(i:Nat) v,st[i]?=Z9 (Z9 v)->a[i]?=Z9 (Z9 v)
noncomputable def WQ(X:Cx)(scope:jR)(N:yH)(cl:List (Str×yR))(s:yS)(H:Hp)(C:yR)(ex:yC):Cx where
 prog:=X.prog
 w:=X.w
 K:=X.K
 mg:=X.mg
 base:=X.base
 A:=X.A
 N:=N
 s₀:=s
 H₀:=H
 env:=compEnvC scope cl C X.env
 outer:=X.stack
 stack:=X.stack
 ex:=ex
 fn:=λx=>decide ((x,NameKind.cell)∈scope.names)
 calm:=X.calm
 pn:=[]
 xe:=λ_ _=>False
noncomputable def Yn(env:Env):List (Str×jS)->List (Str×yR)->List (Str×yR)
 |[],acc=>acc
 |(n,k)::r,acc=>if k == .free then(match env.cells.lookup n with|some c=>Yn env r ((n,c)::acc)| none=>Yn env r acc)else Yn env r acc
theorem Ot{env:Env}:∀(b:List (Str×jS)) (acc:List (Str×yR)),(∀x c,acc.lookup x=Z9 c->env.cells.lookup x=Z9 c)->∀x c,(Yn env b acc).lookup x=Z9 c->env.cells.lookup x=Z9 c
 |[],_,h=>h
 |(n,k)::r,acc,h=>by
  unfold Yn;split
  .split
   .rename_i c f;refine Ot r _ λx d e=>?_;rw[qD6]at e;cases a:x == n with
    |true =>
     rw[a]at e;have:=by simpa using a
     subst this;cases e;exact f
    |false =>
     rw[a]at e;exact h x d e
   .exact Ot r _ h
  .exact Ot r _ h
theorem RP{env:Env}:∀(b:List (Str×jS)) (acc:List (Str×yR)) (x:Str),((∃c,acc.lookup x=Z9 c)∨((x,NameKind.free)∈b/\∃c,env.cells.lookup x=Z9 c))->∃c,(Yn env b acc).lookup x=Z9 c
 |[],acc,x,h=>by
  rcases h with h|⟨h,_⟩
  .exact h
  .cases h
 |(n,k)::r,acc,x,h=>by
  unfold Yn;split
  .rename_i hk;split
   .rename_i c e;refine RP r _ x ?_;by_cases f:x=n
    .simp_all
    .have g:(x == n)=Z5:=by simpa using f
     rcases h with⟨d,h⟩| ⟨h,d⟩
     .exact .inl ⟨d,by rw[qD6,g];exact h⟩
     .simp_all
   .rename_i e;refine RP r _ x ?_;rcases h with h|⟨h,d,a⟩
    .exact .inl h
    .rcases qA9.mp h with h|h
     .cases h;rw[e]at a;cases a
     .exact .inr ⟨h,d,a⟩
  .rename_i hk;refine RP r _ x ?_;rcases h with h|⟨h,d⟩
   .exact .inl h
   .rcases qA9.mp h with h|h
    .simp_all
    .exact .inr ⟨h,d⟩
theorem zS{env:Env}{x:Str}{c:yR}(h:env.cells.lookup x=Z9 c):cellOf env x=pure c:=by unfold cellOf;rw[h]
theorem LO{env:Env}:∀(b:List (Str×jS)) (acc:List (Str×yR)),(∀x,(x,NameKind.free)∈b->∃c,env.cells.lookup x=Z9 c) ->
  (forIn b acc fun(x:Str×jS) (r:List (Str×yR))=>(match x with
   | (a,kind)=>if kind == NameKind.free then(do let c <- cellOf env a;pure (ForInStep.yield ((a,c)::r)))else pure (ForInStep.yield r):Sem (ForInStep (List (Str×yR)))))=pure (Yn env b acc)
 |[],acc,_=>rfl
 |(n,k)::r,acc,h=>by
  rw[qR9];unfold Yn;have d:=λx f=>h x (qD0 _ f);by_cases hk:k=.free
  .subst hk;obtain⟨c,e⟩:=h n (qF7 ..);dsimp only;rw[e,zS e];exact LO r _ d
  .have g:(k == NameKind.free)=Z5:=by simpa using hk
   simp only[g];exact LO r _ d
theorem Os{scope:jR}{env:Env}(h:∀x,(x,NameKind.free)∈scope.names->∃c,env.cells.lookup x=Z9 c):closureFor scope env=pure (Yn env scope.names []):=by unfold closureFor;have q:=LO scope.names [] h;simp only[bind_pure];congr 1
theorem RO{ns:List (Str×jS)}{x:Str}{k:jS}(h:ns.lookup x=Z9 k):(x,k)∈ns:=by
 induction ns with
 |nil=>cases h
 |cons a r c =>
  obtain⟨n,d⟩:=a;rw[qD6]at h;cases b:x == n with
  |true =>
   rw[b]at h;have e:=by simpa using b
   subst e;cases h;exact qF7 ..
  |false =>
   rw[b]at h;exact qD0 _ (c h)
theorem Hd{scope:jR}{env:Env}{x:Str}{k:jS}(h:(dF scope env).names.lookup x=Z9 k)(b:k=.cell∨k=.free):(x,NameKind.free)∈scope.names∨(x,NameKind.cell)∈scope.names:=by
 have m:=RO h;obtain⟨⟨n,c⟩,a,e⟩:=qD9.mp m;dsimp only at e;split at e
 .simp_all
 .cases e;rcases b with rfl|rfl
  .exact .inr a
  .exact .inl a
theorem Tf:∀(f:List (Str×jS)) (h:jE) (acc:List (Str×yR)) {x:Str}{c:yR},(vG h.objs.size f acc).lookup x=Z9 c ->
  ((x,NameKind.cell)∈f/\h.objs.size<=c/\(gQ h f).IsCell c Z8)∨((x,NameKind.cell)∉f/\acc.lookup x=Z9 c)
 |[],h,acc,x,c,e=>.inr ⟨by simp,e⟩
 |(n,k)::r,h,acc,x,c,e=>by
  unfold vG at e;unfold gQ;by_cases hk:(k == NameKind.cell)=Z7
  .rw[if_pos hk]at e ⊢;have g:=by simpa using hk
   rw[<- qG2 h { cls:=.type "cell",data:=.cell Z8 }]at e;rcases Tf r _ _ e with⟨b,a,i⟩| ⟨b,a⟩
   .exact .inl ⟨qD0 _ b,by rw[qG2]at a;omega,i⟩
   .rw[qD6]at a;cases d:x == n with
    |true =>
     rw[d]at a;cases a;have:=by simpa using d
     subst this;subst g;exact .inl ⟨qF7 ..,qA7 _,_,fN _ _ _ _ (qB1 _ rfl),rfl⟩
    |false =>
     rw[d]at a;refine .inr ⟨λz=>?_,a⟩;rcases qA9.mp z with z|z
     .cases z;simp at d
     .exact b z
  .rw[if_neg hk]at e ⊢;rcases Tf r h acc e with⟨b,a,i⟩| ⟨b,a⟩
   .simp_all
   .refine .inr ⟨λz=>?_,a⟩;rcases qA9.mp z with z|z
    .cases z;exact hk rfl
    .exact b z
theorem LM:∀(g:List (Str×jS)) (n:Nat) (acc:List (Str×yR)),(∀x c,acc.lookup x=Z9 c->c<n)->(∀x y c,acc.lookup x=Z9 c->acc.lookup y=Z9 c->x=y) ->
  ∀x y c,(vG n g acc).lookup x=Z9 c->(vG n g acc).lookup y=Z9 c->x=y
 |[],n,acc,hb,hi=>hi
 |(m,k)::r,n,acc,hb,hi=>by
  unfold vG;split
  .refine LM r (n+1) _ (λx c e=>?_) λx y c d a=>?_
   .rw[qD6]at e;cases b:x == m with
    |true=>rw[b]at e;cases e;exact qJ8 _
    |false=>rw[b]at e;exact qF1 (hb x c e)
   .rw[qD6]at d a;cases b:x == m with
    |true =>
     rw[b]at d;cases d;cases f:y == m with
     |true=>rw[show x=m by simpa using b,show y=m by simpa using f]
     |false=>rw[f]at a;exact absurd (hb y _ a) (qG9 _)
    |false =>
     rw[b]at d;cases f:y == m with
     |true=>rw[f]at a;cases a;exact absurd (hb x _ d) (qG9 _)
     |false=>rw[f]at a;exact hi x y c d a
  .exact LM r n acc hb hi
theorem Oq:∀(a:List (Str×jS)) (n:Nat) (acc:List (Str×yR)) {x:Str},((x,NameKind.cell)∈a∨∃c,acc.lookup x=Z9 c)->∃c,(vG n a acc).lookup x=Z9 c
 |[],n,acc,x,h=>by
  rcases h with h|h
  .cases h
  .exact h
 |(m,k)::r,n,acc,x,h=>by
  unfold vG;split
  .refine Oq r _ _ ?_;by_cases b:x=m
   .simp_all
   .have d:(x == m)=Z5:=by simpa using b
    rcases h with h|⟨c,h⟩
    .simp_all
    .exact .inr ⟨c,by rw[qD6,d];exact h⟩
  .rename_i hk;refine Oq r _ _ ?_;rcases h with h|h
   .rcases qA9.mp h with h|h
    .cases h;exact absurd rfl hk
    .exact .inl h
   .exact .inr h
theorem zR{M:mU}{A:jC}{E:yL}{s:yS}{scope:jR}{b:yR}{a:List (Str×yR)}{d:Str}{c:Env}{Q:Env->yS->Prop}
  (i:Q (newEnv scope s.heap.objs.size b (vG (s.heap.push { cls:=.type "dict",data:=.dict #[] }).objs.size scope.names a) d Z8 .none (Z9 c) mR) { s with heap:=gQ (s.heap.push { cls:=.type "dict",data:=.dict #[] }) scope.names }) :
  y7 M A (lW scope b a [] d Z8 .none (Z9 c)) Q E s:=by refine yO (wpAny_alloc ?_);refine yO (wpAny_layCells _ (λh e g=>by cases f:e == NameKind.cell<;>simp[f]) _ _ _ _ ?_);exact yO (yP (yP i))
section
variable {X:Cx}{pins:yD}{Z:St}{H:Hp}{s:yS}{scope:jR}{N:yH}{C:yR}{ex:yC}
structure RN(X:Cx)(scope:jR)(N:yH)(k:Nat)(js:List Nat):Prop where
 calm:X.calm=Z7
 kind:scope.kind=.function
 cell:∀x,(x,NameKind.cell)∈scope.names->scope.names.lookup x=Z9 .cell
 free:∀x,(x,NameKind.free)∈scope.names->(X.env.kindOf x=Z9 .cell∨X.env.kindOf x=Z9 .free)
 names:∀x∈scope.names,x.2=.local->scope.names.lookup x.1=Z9 .local
 len:N.length=k+js.length
 js:∀i j,js[i]?=Z9 j->∃x,N[k+i]?=Z9 x/\X.N[j]?=Z9 x/\scope.names.lookup x=Z9 .free/\VM X.env.scope x
theorem Wj{env:Env}{a:List (Str×jS)}{x:Str}{c:yR}(h:(Yn env a []).lookup x=Z9 c):env.cells.lookup x=Z9 c:=Ot _ _ (λ_ _ z=>by cases z) x c h
theorem ZR.compOk(I:ZR X pins Z H s)(hk:scope.kind=.function)(r:∀x,(x,NameKind.free)∈scope.names->∃c,X.env.cells.lookup x=Z9 c){h:jE}(i:h.objs.size=C+1)(g:s.heap.objs.size<=C)(a:∀b∈ex,Yf X pins H b)(f:∀b∈ex,b<s.heap.objs.size):
  (WQ X scope N (vG h.objs.size scope.names (Yn X.env scope.names [])) s H C ex).Ok where
 mod:=I.ok.mod
 kind:=hk
 glob:=I.ok.glob
 blt:=I.ok.blt
 above:=g
 inj:=LM _ _ _ (λx c e=>by
  obtain⟨v,q⟩:=I.cell x c (Wj e);rw[i];exact qF1 (qB3 q.lt g)) λx y c l j=>I.ok.inj x y c (Wj l) (Wj j)
 has:=λx h=>by
  have m:=Hd (scope:=scope) (env:=X.env) (x:=x) (k:=.cell);have n:=Hd (scope:=scope) (env:=X.env) (x:=x) (k:=.free);have q:(x,NameKind.free)∈scope.names∨(x,NameKind.cell)∈scope.names:=by
   rcases h with h|h
   .exact m h (.inl rfl)
   .exact n h (.inr rfl)
  refine Oq _ _ _ ?_;rcases q with q|q
  .exact .inr (RP _ _ x (.inr ⟨q,r x q⟩))
  .exact .inl q
 cab:=λx c h e=>by
  rcases Tf _ _ _ e with⟨_,q,_⟩| ⟨q,_⟩
  .show s.heap.objs.size<=c;omega
  .exact absurd (of_decide_eq_true h) q
 hd:=I.ok.hd
 frames:=I.ok.frames
 stk:=.inl rfl
 exf:=λb d=>⟨λz=>by
   have p:=z;exact qG9 _ (qB3 (f b d) (by rw[p];exact g)),λx c e=>by
   rcases Tf _ _ _ e with⟨_,q,_⟩| ⟨_,q⟩
   .exact qH1 (qB3 (f b d) (qC6 g (qH0 (qB3 (by rw[i];exact qJ8 C) q))))
   .exact(a b d).2.2.2.2.1 x c (Wj q)⟩
 bs:=I.bs
 bsz:=qC6 I.ok.bsz I.sz
 noex:=λb o e d=>by
  rcases(a b d).2.2.2.1 with z|z
  .exact I.ok.noex b o e z
  .exact qG9 _ (qB3 (qB0 e) (qC6 I.ok.bsz z))
 exfs:=λb d z=>by
  rcases qA9.mp (I.stkSub b z)with q|q
  .exact(a b d).2.1 q
  .exact(a b d).2.2.1 q
 funs:=I.stack
 frf:=I.stkFree
theorem zQ{prog:y4}{w:jD}{A:jC}{R:dL->yS->Prop}{elt a iter:yZ}{d:yE}{scope:jR}{pos:Pos}{j acc:yU}{env:Env}{s:yS}(i:Nat->yS->Prop)
  (g:∀n s,i n s->y7 (yW prog w) A (pyNext j) (λr k=>match r with
   |none=>R (.ok .next) k
   | some v=>y7 (yW prog w) A (lF a j v) (λ_ f=>y7 (yW prog w) A (fX a env v) (λ_ p =>
     y7 (yW prog w) A (forIn d Z7 λc r=>if r=Z7 then do let ok <- dJ c env (vO c env);pure (ForInStep.yield ok)else pure (ForInStep.yield r)) (λok o =>
      if ok=Z7 then y7 (yW prog w) A (vO elt env) (λx y =>
       y7 (yW prog w) A (call (.builtin "list.append") [acc,x]) (λ_ t=>∃m,m<n/\i m t) (dG (yW prog w) A env λe s'=>R (.error e) s') y) (dG (yW prog w) A env λe s'=>R (.error e) s') o
      else ∃m,m<n/\i m o) (dG (yW prog w) A env λe s'=>R (.error e) s') p) (dG (yW prog w) A env λe s'=>R (.error e) s') f) (dG (yW prog w) A env λe s'=>R (.error e) s') k) (dG (yW prog w) A env λe s'=>R (.error e) s') s)
  (n:Nat) (h:i n s) :
  wB (yW prog w) A (.compLoop (.ListComp elt [⟨a,iter,d,0⟩] scope pos) 0 j acc env) R s:=by
 refine codeAny_loop rfl i (λn s D=>?_) n h;show y7 _ A ((compTurn (.ListComp elt [⟨a,iter,d,0⟩] scope pos) 0 j acc env).onRaise (λx=>do mH x env;theTreesLotGoes x)) _ _ s;refine wpAny_noted ?_;rw[compTurn_list];refine yO (mK (yO (jL (g n s D) (λr k q=>?_) λ_ _ b=>b)));cases r with
 |none=>exact yP q
 |some v =>
  refine yO (jL q (λ_ f l=>?_) λ_ _ b=>b);refine yO (jL l (λ_ p B=>yO (jL B (λok o u=>?_) λ_ _ b=>b)) λ_ _ b=>b);cases ok with
  |false=>exact yP ⟨rfl,u⟩
  |true =>
   exact yO (yO (jL u (λx y z=>yO (jL z (λ_ t E=>yP (yP ⟨rfl,E⟩)) λ_ _ b=>b)) λ_ _ b=>b))
def Te(X:Cx)(b:yE)(t:TT):Prop :=
 ∀(a:yD) (s:yS) (Z:St) (H:Hp) (Q:Bool->Hp->Prop),ZR X a Z H s->t Z H Q ->
  y7 (yW X.prog X.w) X.A (forIn b Z7 λc r=>if r=Z7 then do let ok <- dJ c X.env (vO c X.env);pure (ForInStep.yield ok)else pure (ForInStep.yield r)) (TP X a Z Q) X.xe s
def LL:TT:=λ_ H Q=>Q Z7 H
theorem zP{X:Cx}:Te X [] LL:=λa s Z H Q I h=>wpAny_tests_nil ⟨H,I,h⟩
theorem zO{X:Cx}{c:yZ}{t:TT}(h:PT X c t):Te X [c] t:=λa s Z H Q I b=>wpAny_tests_one (h a s Z H Q I b)
def LK(e:It)(D:yR)(W:Nat->Nat->List V->Hp->Prop)(Q:Hp->Prop)(g:TG)(tc:TT)(l:TE)(f:St)(i m:Nat)(ys:List V)(a:Hp):Prop :=
 a D=Z9 (.lst ys)/\((e.stop i a/\Q a)∨(e.go i a/\ys.length<jA/\∀x k,e.yld i a x k->g x f k fun d n=>T6 f d/\tc d n λb j =>
   if b=Z7 then l d j λy h=>h D=Z9 (.lst ys)/\∃c,c<m/\W (i+1) c (ys++[y]) (ZD h D (.lst (ys++[y])))else ∃c,c<m/\W (i+1) c ys j))
noncomputable def WY(k:Nat)(js:List Nat)(Z:St):St:=qE7 k Option.none++js.map λj=>(Z[j]?).getD Option.none
def LJ(e:TI)(k:Nat)(js:List Nat)(g:TG)(tc:TT)(d:TE):TE:=fun Z H Q =>
 e Z H λf b=>∀D,b D=Z8->∃W:Nat->Nat->List V->Hp->Prop,(∃m,W 0 m [] (ZD b D (.lst [])))/\∀i m c a,W i m c a->LK f D W (Q (.ref D)) g tc d (WY k js Z) i m c a
theorem LI{k:Nat}{js:List Nat}{Z:St}{i:Nat}{v:V}(h:(WY k js Z)[i]?=Z9 (Z9 v)):∃j,k<=i/\js[i - k]?=Z9 j/\Z[j]?=Z9 (Z9 v):=by
 unfold WY at h;by_cases a:i<k
 .rw[qA8 (by simpa using a),qH3]at h;simp at h
 .rw[qA0 (by simpa using a),qI0,qB2]at h;cases e:js[i - k]? with
  |none=>rw[e]at h;simp at h
  |some j =>
   rw[e]at h;simp only[qS0,Option.some.injEq]at h;refine⟨j,by omega,rfl,?_⟩;cases q:Z[j]? with
   |none=>rw[q]at h;simp at h
   |some z =>
    rw[q]at h;simp at h;rw[h]
theorem Hc{scope:jR}{env:Env}{x:Str}(h:scope.names.lookup x=Z9 .free):(dF scope env).names.lookup x=Z9 .cell∨(dF scope env).names.lookup x=Z9 .free:=by
 unfold dF;dsimp only;generalize scope.names=ns at h
 induction ns with
 |nil=>cases h
 |cons a r c =>
  obtain⟨n,k⟩:=a;rw[qD6]at h;rw[qC7];cases b:x == n with
  |true =>
   rw[b]at h;cases h;split
   .exact .inl (by rw[qD6,b])
   .exact .inr (by rw[qD6,b])
  |false =>
   rw[b]at h;split
   .rw[qD6,b];exact c h
   .rw[qD6,b];exact c h
inductive Td(Y:Cx)(Z0:St)(tn:Nat->jE->Prop)(fp:yC)(W:Nat->Nat->List V->Hp->Prop)(n:Nat)(s:yS):Prop
 |mk (i:Nat) (ys:List V) (H:Hp) (I:ZR Y [] Z0 H s) (st:tn i s.heap) (fr:∀b∈fp,H b=Z8) (w:W i n ys H)
theorem zN{Y:Cx}{elt iter L:yZ}{k:yE}{scope:jR}{pos:Pos}{g:TG}{tc:TT}{te:TE}{JJ:It}{l:yC}{it D:yR}{I:Nat->jE->Prop}{t:St}{W:Nat->Nat->List V->Hp->Prop}{Q:Hp->Prop}{R:dL->yS->Prop}
  (hc:Y.calm=Z7) (hx:Y.xe=λ_ _=>False) (T:Xb Y.prog Y.w Y.K L JJ l it I) (a:∀P,(∀b∈l,P b=Z8)->∀b∈l,Yf Y [] P b)
  (hg:PG Y L g) (htc:Te Y k tc) (S:PE Y elt te) (B:∀i m ys H2,W i m ys H2->LK JJ D W Q g tc te t i m ys H2) (fin:∀f A,ZR Y [] t f A->Q f->R (.ok .next) A)
  {s:yS}{n:Nat} (h0:Td Y t I l W n s) (st3:I 0 s.heap):wB (yW Y.prog Y.w) Y.A (.compStart (.ListComp elt [⟨L,iter,k,0⟩] scope pos) 0 (.ref it) (.ref D) Y.env) R s:=by
 have c:wB (yW Y.prog Y.w) Y.A (.compLoop (.ListComp elt [⟨L,iter,k,0⟩] scope pos) 0 (.ref it) (.ref D) Y.env) R s:=by
  refine zQ (Td Y t I l W) ?_ n h0;rintro n s4 ⟨i,ys,f,I4,J,w,w4⟩;obtain⟨hD4,hd⟩:=B i n ys f w4;rcases hd with⟨F,q⟩| ⟨go,hz,step⟩
  .refine Zo (T.done Y rfl rfl rfl hc i [] s4 _ f _ I4 (a _ w) J F) λr A ⟨hr,I5⟩=>?_;subst hr;exact fin f A I5 q
  .refine Zo (T.item Y rfl rfl rfl hc i [] s4 _ f _ I4 (a _ w) J go) λr A ⟨u,hr,h5⟩=>?_;subst hr;refine Zo h5 λ_ s6 ⟨x,H6,I6,r6,y6,h,fr6⟩=>?_;have I6':=I6.pinned (a _ fr6) (T.obj _ _ h);have back:∀{j:St}{p:Hp}{s7:yS}{m:Nat}{zs:List V},ZR Y ([]++QV l s6.heap) j p s7->T6 t j->W (i+1) m zs p->Td Y t I l W m s7:=λ{j p s7 m zs} G hw w7=>by refine⟨i+1,zs,p,G.unpinned.weak hw.1 hw.2,T.keep _ _ _ h λb O o e=>(G.pin (b,o) (qC4 _ (qC4 _ (QU O e)))).1,λb O=>?_,w7⟩;obtain⟨o,e,d⟩:=T.obj _ _ h b O;exact(G.pin (b,o) (qC4 _ (qC4 _ (QU O e)))).2.1
   have M:∀{E:yL} e s',Y.xe e s'->E e s':=λe s' z=>by rw[hx]at z;exact z.elim
   refine jL (hg _ s6 _ H6 x u _ I6' r6 (step x H6 y6)) (λ_ s7 ⟨j,p,G,v,q7⟩=>?_) M;refine jL (htc _ s7 j p _ G q7) (λb s8 ⟨H8,I8,q8⟩=>?_) M;cases b with
   |false =>
    obtain⟨K,hm,w8⟩:=(by simpa using q8)
    exact⟨K,hm,back I8 v w8⟩
   |true =>
    refine jL (S _ s8 j H8 _ I8 q8) (λy s9 ⟨U,H9,I9,r9,q9⟩=>?_) M;obtain⟨hD9,K,hm,w9⟩:=q9;refine jL (Hk _ s9 j H9 (.ref D) [U] (.ref D) [y] (λ_ P=>W (i+1) K (ys++[U]) P) I9 rfl (.cons r9 .nil) ⟨_,ys,U,rfl,rfl,hD9,hz,w9⟩) (λz s10 ⟨_,H10,I10,_,q10⟩=>?_) M;exact⟨K,hm,back I10 v q10⟩
 exact codeAny_compStart_list c (T.self _ 0 _ _ _ st3 c)
theorem zM{elt iter S:yZ}{w:yE}{pos:Pos}{k:Nat}{js:List Nat}{JJ:It}{Q:yC}{U:yR}{Y:Nat->jE->Prop}{t:Hp}{s2:yS}{RR:yU->yR->dL->yS->Prop}
  (n:RN X scope N k js) (a:ZR X pins Z t s2) (T:Xb X.prog X.w X.K S JJ Q U Y) (A:Y 0 s2.heap) (f2:∀b∈Q,Yf X pins t b)
  (h:∀(cl:List (Str×yR)) (C:yR) (E:yS),s2.heap.objs.size<=C->s2.heap.objs.size≠C->ZR (WQ X scope N cl s2 t C Q) [] (WY k js Z) (ZD t s2.heap.objs.size (.lst [])) E->Y 0 E.heap ->
   wB (yW X.prog X.w) X.A (.compStart (.ListComp elt [⟨S,iter,w,0⟩] scope pos) 0 (.ref U) (.ref s2.heap.objs.size) (compEnvC scope cl C X.env)) (RR (.ref s2.heap.objs.size) C) E) :
  y7 (yW X.prog X.w) X.A (newList []) (λacc s3=>y7 (yW X.prog X.w) X.A (lW scope X.env.globals (Yn X.env scope.names []) [] X.env.qual Z8 .none (Z9 X.env)) (λg E =>
   wB (yW X.prog X.w) X.A (.compStart (.ListComp elt [⟨S,iter,w,0⟩] scope pos) 0 (.ref U) acc { g with scope:=dF scope X.env }) (RR acc g.locals) E) X.xe s3) X.xe s2:=by
 have l:=λx hx=>a.ok.has x (n.free x hx);refine j9 (zR ?_);dsimp only;generalize hP:s2.heap.push { cls:=.type "list",dict:=Z8,data:=.seq ([]).toArray }=P;have G:P.objs.size=s2.heap.objs.size+1:=by rw[<- hP,qG2]
 have L:s2.heap.objs.size≠P.objs.size:=by rw[G];exact qB7 (qJ8 _)
 have f:s2.heap.objs.size<=P.objs.size:=by rw[G];exact qN6 _
 generalize hP2:P.push { cls:=.type "dict",data:=.dict #[] }=P2;have K:P2.objs.size=P.objs.size+1:=by rw[<- hP2,qG2]
 have O:(gQ P2 scope.names).Ns P.objs.size (λ_=>Z8):=(hP2▸Heap.Ns.new P (.type "dict")).keeps (fN _ _);have d:∀b o,s2.heap.get? b=Z9 o->(gQ P2 scope.names).get? b=Z9 o:=λb o e=>fN _ _ _ _ (hP2▸qA4 _ (hP▸qA4 _ e));have B:(gQ P2 scope.names).get? s2.heap.objs.size=Z9 { cls:=.type "list",dict:=Z8,data:=.seq ([]).toArray }:=fN _ _ _ _ (hP2▸qA4 _ (hP▸qB1 _ rfl));have hfx:∀b∈Q,b<s2.heap.objs.size:=λb hb=>by obtain⟨o,e,_⟩:=T.obj _ _ A b hb;exact qB0 e
 have ok:=a.compOk (N:=N) n.kind l K f f2 hfx;refine h (vG P2.objs.size scope.names (Yn X.env scope.names [])) P.objs.size _ f L ?_ (T.keep _ _ _ A λb _ o e=>d b o e);refine⟨ok,rfl,a.bare,Un.laid d (qA7 _) (a.hok.fresh (qA7 _)),⟨_,O,λi x v e1 e2 e3=>?_⟩,λx c e=>?_,?_,λx c e=>?_,λp hp=>(by cases hp),a.hok.laid d (qA7 _) ?_,?_⟩
 .obtain⟨j,hki,hj,hv⟩:=LI e2;obtain⟨y,n1,n2,W,n4⟩:=n.js _ j hj;have ei:k+(i - k)=i:=by omega
  rw[ei]at n1;have J:N[i]?=Z9 x:=e1;rw[n1]at J;cases J;obtain⟨m,hn,hl⟩:=a.loc;obtain⟨u,r,lk⟩:=hl j x v n2 hv n4;refine⟨u,r,?_⟩;have mem:=RO W;rcases lk with⟨F,_⟩| ⟨F,c,ec,ce⟩
  .rcases n.free x mem with z|z
   .rw[z]at F;cases F
   .rw[z]at F;cases F
  .obtain⟨c0,D⟩:=Oq scope.names P2.objs.size _ (.inr (RP scope.names [] x (.inr ⟨mem,c,ec⟩)));have V:c0=c:=by
    rcases Tf _ _ _ D with⟨q,_⟩| ⟨_,q⟩
    .have:=n.cell x q;rw[W]at this;cases this
    .have:=Wj q;rw[ec]at this;cases this;rfl
   subst V;refine .inr ⟨Hc W,c0,D,?_⟩;obtain⟨o,I,R⟩:=ce;exact⟨o,d _ _ I,R⟩
 .rcases Tf _ _ _ e with⟨_,_,q⟩| ⟨_,q⟩
  .exact⟨_,q⟩
  .obtain⟨v,o,I,R⟩:=a.cell x c (Wj q);exact⟨v,o,d _ _ I,R⟩
 .show ZD t s2.heap.objs.size (.lst []) P.objs.size=Z8;rw[Za (Ne.symm L)];exact a.hok.fresh f
 .rcases Tf _ _ _ e with⟨_,q,_⟩| ⟨_,q⟩
  .have M:s2.heap.objs.size<c:=qB3 (by omega) q;rw[Za (qH1 M)];exact a.hok.fresh (qH0 M)
  .obtain⟨v,o,I,R⟩:=a.cell x c (Wj q);rw[Za (qB7 (qB0 I))];exact a.freeC x c (Wj q)
 .exact⟨qF8 _,[],_,.nil,B⟩
 .unfold WY;rw[qC1,qI0,qA3];exact n.len.symm
theorem Hb{elt iter v:yZ}{f:yE}{pos:Pos}{k:Nat}{js:List Nat}{g:TG}{tc:TT}{A:TE}{J:It}{n:yC}{z:yR}{E:Nat->jE->Prop}{a:Hp}{s2:yS}{G:yU->yR->dL->yS->Prop}{Q:V->Hp->Prop}
  (F:RN X scope N k js) (y:ZR X pins Z a s2) (T:Xb X.prog X.w X.K v J n z E) (h:E 0 s2.heap) (B:∀b∈n,Yf X pins a b)
  (U:∀cl s H C ex,PG (WQ X scope N cl s H C ex) v g) (x:∀cl s H C ex,Te (WQ X scope N cl s H C ex) f tc) (w:∀cl s H C ex,PE (WQ X scope N cl s H C ex) elt A)
  (P:∀D,a D=Z8->∃W:Nat->Nat->List V->Hp->Prop,(∃m,W 0 m [] (ZD a D (.lst [])))/\∀i m ys a,W i m ys a->LK J D W (Q (.ref D)) g tc A (WY k js Z) i m ys a)
  (fin:∀cl C u t,s2.heap.objs.size<=C->s2.heap.objs.size≠C->ZR (WQ X scope N cl s2 a C n) [] (WY k js Z) u t->Q (.ref s2.heap.objs.size) u->G (.ref s2.heap.objs.size) C (.ok .next) t) :
  y7 (yW X.prog X.w) X.A (newList []) (λacc s3=>y7 (yW X.prog X.w) X.A (lW scope X.env.globals (Yn X.env scope.names []) [] X.env.qual Z8 .none (Z9 X.env)) (λc I =>
   wB (yW X.prog X.w) X.A (.compStart (.ListComp elt [⟨v,iter,f,0⟩] scope pos) 0 (.ref z) acc { c with scope:=dF scope X.env }) (G acc c.locals) I) X.xe s3) X.xe s2:=by obtain⟨W,⟨m0,S⟩,j⟩:=P s2.heap.objs.size (y.hok.fresh (qA7 _));refine zM F y T h B λcl C I L M r l=>?_;refine zN (Y:=WQ X scope N cl s2 a C n) F.calm rfl T (λH' R b d=>⟨R b d,(r.ok.exf b d).1,r.ok.exfs b d,.inl d,(r.ok.exf b d).2,λp K=>by cases K⟩) (U _ _ _ _ _) (x _ _ _ _ _) (w _ _ _ _ _) j (λu t O q=>fin cl C u t L M O q) ⟨0,[],_,r,l,λb d=>?_,S⟩ l;obtain⟨o,e,_⟩:=T.obj _ _ h b d;rw[Za (qB7 (qB0 e))];exact(B b d).1
theorem zL{elt iter B:yZ}{l:yE}{pos:Pos}{O:TI}{g:TG}{tc:TT}{K:TE}{k:Nat}{js:List Nat}(A:RN X scope N k js)(hi:PI X B iter O)
  (hg:∀cl s H C ex,PG (WQ X scope N cl s H C ex) B g) (F:∀cl s H C ex,Te (WQ X scope N cl s H C ex) l tc) (E:∀cl s H C ex,PE (WQ X scope N cl s H C ex) elt K)
  (S:∀x,vF iter X.env x=pure x:=by intro _;rfl):PE X (.ListComp elt [⟨B,iter,l,0⟩] scope pos) (LJ O k js g tc K):=by
 intro w s Z H Q I h;refine gJ rfl S (Os λx i=>I.ok.has x (A.free x i)) A.kind A.names (Zo (hi w s Z H _ I h) λv s1 V=>Zo V λR L W=>?_);obtain⟨it,fp,tn,JJ,H2,e,J,T,D,p,hW⟩:=W;subst e;refine Hb A J T D p hg F E hW λcl C M Y y hDC j q=>?_;obtain⟨m,hn,_⟩:=id j.loc;have t:M C=Z8:=j.free;refine⟨m,hn,λh' a=>⟨.ref L.heap.objs.size,M,?_,rfl,q⟩⟩;have G:∀b o,L.heap.get? b=Z9 o->b≠C:=λb o e=>qB7 (qB3 (qB0 e) y);refine J.call' (s':={ Y with heap:=h' }) j.os ?_ (λb u e=>?_) j.bare (λb f=>⟨(p b f).2.2.2.1,(p b f).2.1,(p b f).2.2.2.2.1,(p b f).2.2.2.2.2⟩)
 .have U:=j.base;exact⟨λb o e n f i=>(a.2 b (G b o e)).trans (U.keep b o e n f i),λb o e n f i=>by
    obtain⟨P,z⟩:=U.slot b o e n f i;exact⟨P,(a.2 b (G b o e)).trans z⟩,U.free,λb o e i=>by
    obtain⟨o',z⟩:=U.there b o e i;exact⟨o',(a.2 b (G b o e)).trans z⟩,U.tups,U.frzs,U.tbls⟩
 .refine(j.hok b u e).stay (λc w' d r=>(a.2 c ?_).trans r) (λ_ r=>r) λ_ _ r=>r;rintro rfl;rcases d with rfl|d
  .rw[t]at e;cases e
  .rw[t]at d;cases d
end
theorem LH{H:Hp}{p:yR}(h:H p=Z8)(o:HO):XS H (ZD H p o):=λb u q=>by rw[Za (U2 q h)];exact q
theorem XS.tup{K:yQ}{H b:Hp}{a:yR}{xs:List V}(e:XS H b)(h:Zg K H a xs):Zg K b a xs:=by
 rcases h with(h|⟨o,h⟩)| h
 .exact .inl (.inl (e _ _ h))
 .exact .inl (.inr ⟨o,e _ _ h⟩)
 .exact .inr h
section
variable {X:Cx}{pins:yD}{Z:St}{H:Hp}{s:yS}
theorem ZR.yields{wr:yC}{h':jE}{tk:Nat}{T:yR}{xs:List V}{d:yB}(I:ZR X pins Z H s)(g:∀b∈wr,Yf X pins H b)(k:∀b o,b∉wr->s.heap.get? b=Z9 o->h'.get? b=Z9 o)
  (i:s.heap.objs.size<=T) (r:ZO xs d) (m:xs.length<=jA) (ht:dO h' T d.toArray):ZR X pins Z (ZD H T (.tup xs)) { s with heap:=h',toks:=tk }:=by
 have p:∀b o,s.heap.get? b=Z9 o->b≠T:=λb o e=>qB7 (qB3 (qB0 e) i);have hH:∀b u,H b=Z9 u->b≠T:=λb u e=>qB7 (qB3 (I.hok.lt e) i);have j:∀b u,H b=Z9 u->b∉wr:=λb u e a=>by rw[(g b a).1]at e;cases e
 refine I.call' (s':={ s with heap:=h',toks:=tk }) rfl ⟨λb o e n _ f=>k b o f e,λb o e n _ f=>⟨o.slots,k b o f e⟩,λb o e n _=>?_,λb o e f=>⟨o,k b o f e⟩,λb l e=>?_,λb o u e=>?_,λb t e=>⟨#[],?_⟩⟩ (λb u e=>?_) I.bare
  (λb a=>⟨(g b a).2.2.2.1,(g b a).2.1,(g b a).2.2.2.2.1,(g b a).2.2.2.2.2⟩)
 .rw[Za (p b o e)];exact n
 .rw[Za (hH b _ e)];exact e
 .rw[Za (hH b _ e)];exact e
 .rw[Za (hH b _ e),e];simp
 .by_cases a:b=T
  .subst a;rw[XA]at e;cases e;exact⟨m,d,r,ht⟩
  .rw[Za a]at e;refine(I.hok b u e).stay (λc v h q=>k c v ?_ q) (λc q=>?_) λc l q=>?_
   .rcases h with rfl|h
    .exact j _ _ e
    .exact j _ _ h
   .rw[Za (hH c _ q)];exact q
   .rw[Za (hH c _ q)];exact q
theorem ZR.turnedL{wr:yC}{h':jE}{tk:Nat}(I:ZR X pins Z H s)(f:∀b∈wr,Yf X pins H b)(k:∀b o,b∉wr->s.heap.get? b=Z9 o->h'.get? b=Z9 o):ZR X pins Z H { s with heap:=h',toks:=tk }:=by
 have h:∀b u,H b=Z9 u->b∉wr:=λb u e a=>by rw[(f b a).1]at e;cases e
 refine I.call' (s':={ s with heap:=h',toks:=tk }) rfl ⟨λb o e n _ d=>k b o d e,λb o e n _ d=>⟨o.slots,k b o d e⟩,λb o e n _=>n,λb o e d=>⟨o,k b o d e⟩,λb i e=>e,λb o u e=>e,λb j e=>⟨#[],by rw[e];simp⟩⟩ (λb u e=>?_) I.bare
  (λb a=>⟨(f b a).2.2.2.1,(f b a).2.1,(f b a).2.2.2.2.1,(f b a).2.2.2.2.2⟩)
 refine(I.hok b u e).stay (λc v g q=>k c v ?_ q) (λc q=>q) λc i q=>q;rcases g with rfl|g
 .exact h _ _ e
 .exact h _ _ g
end
section
variable {X:Cx}
theorem zK:Ys X (.type "range") (λd H Q=>∃i j:Int,d=[.int i,.int j]/\∀p,H p=Z8->Q (.ref p) (ZD H p (.rng i j))):=by intro a s Z H k l Q I r h;obtain⟨i,j,rfl,q⟩:=h;obtain⟨u,v,rfl,f,c⟩:=RX r;obtain⟨t,rfl⟩:=f;obtain⟨g,rfl⟩:=c;refine call_range_2 ⟨.ref s.heap.objs.size,_,I.laid (λb o e=>qA4 _ e) (qA7 _) ?_,rfl,q _ (I.hok.fresh (qA7 _))⟩;exact⟨_,_,_,qB1 _ rfl⟩
theorem zJ:Ys X (.type "range") (λc H Q=>∃j:Int,c=[.int j]/\∀p,H p=Z8->Q (.ref p) (ZD H p (.rng 0 j))):=by intro a s Z H f g Q I r h;obtain⟨j,rfl,q⟩:=h;obtain⟨u,rfl,d⟩:=Xv r;obtain⟨t,rfl⟩:=d;refine call_range_1 ⟨.ref s.heap.objs.size,_,I.laid (λb o e=>qA4 _ e) (qA7 _) ?_,rfl,q _ (I.hok.fresh (qA7 _))⟩;exact⟨_,_,_,qB1 _ rfl⟩
noncomputable def RM(lo:Int)(n:Nat):List V:=(List.range n).map λk=>V.int (lo+(k:Nat))
theorem zI{lo:Int}{n:Nat}{acc:yJ}(h:ItemsOf (λi v=>∃t,v=.int (lo+i*1) t) acc n):ZO (RM lo n) acc.toList:=by
 obtain⟨g,h⟩:=h;have c:∀k us lo,us.length=k->(∀i v,us[i]?=Z9 v->∃t,v=Value.int (lo+(i:Nat)) t)->ZO ((List.range k).map λj=>V.int (lo+(j:Nat))) us:=by
  intro k
  induction k with
  |zero=>intro us lo b _;cases us with
   |nil=>exact .nil
   |cons a r=>simp at b
  |succ k f =>
   intro us lo b d;cases us with
   |nil=>simp at b
   |cons a r =>
    rw[qJ3,qC7,qC8];refine .cons ?_ ?_
    .obtain⟨t,e⟩:=d 0 a rfl;exact⟨t,e⟩
    .have:=f r (lo+1) (by simpa using b) λi v e=>by obtain⟨t,q⟩:=d (i+1) v (by simpa using e);exact⟨t,by rw[q];congr 1;omega⟩
     have e:((λj=>V.int (lo+(j:Nat)))∘Nat.succ)=λj=>V.int (lo+1+(j:Nat)):=by funext j;simp only[Function.comp];congr 1;omega
     rw[e];exact this
 exact c n acc.toList lo (by simpa using g) λi v e=>by obtain⟨t,q⟩:=h i v (by simpa using e);exact⟨t,by rw[q,Int.mul_one]⟩
theorem zH(d:X.calm=Z7):Ys X (.type "list") (λk H Q=>∃p i j,k=[.ref p]/\H p=Z9 (.rng i j)/\-(2 ^ 62)<=i/\i<2 ^ 62/\-(2 ^ 62)<=j/\j<2 ^ 62/\(j - i).toNat<=1000/\∀l,H l=Z8->Q (.ref l) (ZD H l (.lst (RM i (j - i).toNat)))):=by
 intro c s Z H B D Q I r h;obtain⟨p,i,j,rfl,f,b1,z,y,A,b,q⟩:=h;obtain⟨u,rfl,n⟩:=Xv r;cases n;obtain⟨t,u,v,e⟩:=(I.hok _ _ f)
 refine call_list_range (I.ok.hd d) (e) (small_one b1 z y A) (by rw[rangeSize_one];split<;>omega) (qC6 b (by decide)) λC E a m hk x w=>?_;have g:=zI w;refine⟨.ref s.heap.objs.size,_,I.laid (o:=.lst (RM i (j - i).toNat)) hk (qA7 _) ⟨?_,a.toList,m,g,by simpa using x⟩,rfl,q _ (I.hok.fresh (qA7 _))⟩;unfold RM;rw[qA3,qD4];exact qC6 b (by decide)
def zG:V->List V->Hp->VK->Prop:=λx b H Q=>∃(l:yR) (a:List V) (i:Nat) (y:V),x=.ref l/\b=[.int i,y]/\H l=Z9 (.lst a)/\a.length<1000/\i<=a.length/\Q .non (ZD H l (.lst (a.take i++y::a.drop i)))
theorem zF:Hl X "list.insert" zG:=by
 intro f s Z H x w v A Q I k g h;obtain⟨l,p,i,y,rfl,rfl,hH,u,C,q⟩:=h;cases k;obtain⟨B,d,rfl,m,j⟩:=g.two;obtain⟨t,rfl⟩:=m;obtain⟨z,a,n,r,o,e⟩:=I.lstM hH;generalize hx:(i:Int)=x;have b:¬(!Builtin.List.listFitsIndex x)=Z7:=by rw[fitsIndex_both (by omega) (by omega)];exact qB4
 have c:a.toArray.size<=sizeLine:=by rw[qB5,<- o];exact z
 refine call_meets F.slot_list_insert ⟨_,e,rfl⟩ F.entry_list_insert (F.args_list_insert_3 _ _ _) (PySem.AutoSeq1.list_insert_list_int_val_1 l _ n x t d b c) ⟨e,?_⟩;refine⟨.non,_,I.lset (its':=a.take i++d::a.drop i) hH e ?_ ((r.take i).append (.cons j (r.drop i))) ?_,rfl,q⟩
 .have hk:(if x<0 then(x+(a.toArray.size:Int)).toNat else min x.toNat a.toArray.size)=i:=by rw[if_neg (by omega),qB5];omega
  rw[hk];simp;exact qH8 (by rw[qL3];exact qA7 _)
 .rw[qC1,qC3,qH9,qL3];have:1000<=sizeLine:=by decide
  omega
theorem Ha{A:jC}{prog:y4}{w:jD}{bs:List Bool}{b:yB}(r:ZO (bs.map V.bl) b):TruthOf prog w A (λi v=>b.toArray[i]?=Z9 v) (λi=>bs.getD i Z5):=by
 intro i v s Q E k g;have a:=by simpa using k
 have f:i<bs.length:=by have m:=(qA1.mp a).1;have j:=r.length;rw[qA3]at j;omega
 obtain⟨u,e,l⟩:=ZO.get r (by rw[qB2,qA6 f];rfl);rw[e]at a;cases a;have d:=l;subst d;have h:bs.getD i Z5=bs[i]:=by simp[qF4,f]
 have c:Q (bs.getD i Z5) s:=g;rw[h]at c;exact jX c
theorem G9(bs:List Bool):(List.range bs.length).all (λi=>bs.getD i Z5)=bs.all id:=by
 induction bs with
 |nil=>rfl
 |cons b r a =>
  rw[qC3,qJ3,qK1,qQ4,qK1];rw[<- a];rfl
theorem G8(bs:List Bool):(List.range bs.length).any (λi=>bs.getD i Z5)=bs.any id:=by
 induction bs with
 |nil=>rfl
 |cons b r a =>
  rw[qC3,qJ3,qG0,qQ5,qG0];rw[<- a];rfl
theorem zE(l:X.calm=Z7):Ys X (.builtin "all") (λt H Q=>∃(p:yR) (bs:List Bool),t=[.ref p]/\YA X.K H p (bs.map V.bl)/\Q (.bl (bs.all id)) H):=by
 intro k s Z H x B Q I r h;obtain⟨p,bs,rfl,m,q⟩:=h;obtain⟨u,rfl,w⟩:=Xv r;cases w;obtain⟨c,g,d,y⟩:=I.list m;have f:p<s.heap.objs.size:=by obtain⟨_,e,_⟩:=d.isList;exact qB0 e
 have a:=g.length;rw[qA3]at a;refine call_all_walk (jY d.isList ?_);refine⟨s.heap.objs.size,_,[s.heap.objs.size],_,_,_,_,rfl,Walks.list (A:=X.A.in1) (I.ok.hd l) s.heap.objs.size p (qB7 f) c.toArray,⟨⟨_,qB1 _ rfl,rfl,rfl⟩,d.isList.push _⟩,Ha g,λz v n=>?_⟩;have e:(List.range c.toArray.size).all (λi=>bs.getD i Z5)=bs.all id:=by rw[qB5,<- a];exact G9 bs
 rw[e];refine⟨.bl (bs.all id),H,?_,rfl,q⟩;exact I.kept (t':=v) λb o j=>n b o (by simp only[qB8];exact qB7 (qB0 j)) (qA4 _ j)
theorem zD(l:X.calm=Z7):Ys X (.builtin "any") (λt H Q=>∃(p:yR) (bs:List Bool),t=[.ref p]/\YA X.K H p (bs.map V.bl)/\Q (.bl (bs.any id)) H):=by
 intro k s Z H x B Q I r h;obtain⟨p,bs,rfl,m,q⟩:=h;obtain⟨u,rfl,w⟩:=Xv r;cases w;obtain⟨c,g,d,y⟩:=I.list m;have f:p<s.heap.objs.size:=by obtain⟨_,e,_⟩:=d.isList;exact qB0 e
 have a:=g.length;rw[qA3]at a;refine call_any_walk (jY d.isList ?_);refine⟨s.heap.objs.size,_,[s.heap.objs.size],_,_,_,_,rfl,Walks.list (A:=X.A.in1) (I.ok.hd l) s.heap.objs.size p (qB7 f) c.toArray,⟨⟨_,qB1 _ rfl,rfl,rfl⟩,d.isList.push _⟩,Ha g,λz v n=>?_⟩;have e:(List.range c.toArray.size).any (λi=>bs.getD i Z5)=bs.any id:=by rw[qB5,<- a];exact G8 bs
 rw[e];refine⟨.bl (bs.any id),H,?_,rfl,q⟩;exact I.kept (t':=v) λb o j=>n b o (by simp only[qB8];exact qB7 (qB0 j)) (qA4 _ j)
theorem zC:Y0 X (y8 .Is) (λx y H Q=>∃a b,x=.bl a/\y=.bl b/\Q (.bl (a == b)) H):=by intro c s Z H x y v u Q I d e h;obtain⟨a,b,rfl,rfl,q⟩:=h;cases d;cases e;exact is_bool ⟨.bl (a == b),H,I,rfl,q⟩
theorem zB:Y0 X (y8 .IsNot) (λx y H Q=>∃a b,x=.bl a/\y=.bl b/\Q (.bl (a != b)) H):=by intro c s Z H x y v u Q I d e h;obtain⟨a,b,rfl,rfl,q⟩:=h;cases d;cases e;exact isnot_bool ⟨.bl (a != b),H,I,rfl,q⟩
end
section
variable {X:Cx}
def zA(K:yQ):R2:=λx y H Q=>∃a b c e,x=.ref a/\y=.ref b/\H a=Z9 (.tup c)/\H b=Z9 (.tup e)/\c.length+e.length<=jA/\∀p d,XS H d->d p=Z9 (.tup (c++e))->Q (.ref p) d
theorem zy:Y0 X (jK .Add) (zA X.K):=by
 intro i s Z H x y v u Q I z D h;obtain⟨a,b,r,G,rfl,rfl,l,k,J,q⟩:=h;by_cases t:r=[]
 .subst t;cases z;cases D;obtain⟨M,L,N,_⟩:=I.tuple (Zg.of l);obtain⟨c,S,F,_⟩:=I.tuple (Zg.of k);have e:=(L.nil_iff).mpr rfl;subst e;obtain⟨⟨O,P,w,E⟩,A,o,n,B⟩:=id N;obtain⟨⟨C,m,data2,j⟩,g,f,R,d⟩:=id F;simp only at o B f d;subst o B f d;exact dC ⟨_,A,rfl⟩ ⟨_,g,rfl⟩ gP mM wY wT (wL _ _)
   (tuple_addW0 a b ([]).toArray c.toArray n R P m E j (by simp)) ⟨A,g,⟨.ref b,H,I,rfl,q b H (XS.refl H) k⟩⟩
 .refine AC i s Z H (.ref a) (.ref b) v u Q I z D ⟨a,b,r,G,rfl,rfl,Zg.of l,Zg.of k,t,J,λe=>?_,λ_ p K=>q p _ (LH K _) XA⟩;subst e;exact q a H (XS.refl H) (by rw[qF6];exact l)
theorem zx(xs:List V)(lo hi:yG)(h:HT.sIx xs.length 0 lo=0/\HT.sIx xs.length xs.length hi=xs.length):W0 xs lo hi=xs:=by unfold W0;rw[h.1,h.2,List.drop_zero,Nat.sub_zero,qI7]
theorem zw{prog:y4}{w:jD}{A:jC}{E:yL}{s:yS}{t b:yR}{items:yJ}{g j:yU}{lo hi:yG}{Q:yL}(ht:dO s.heap t items)(i:s.heap.IsSliceOf b g j .none)(m:lA g lo)(k:lA j hi)
  (f:HT.sIx items.size 0 lo=0/\HT.sIx items.size items.size hi=items.size)
  (h:Q (.ref t) s):y7 (yW prog w) A (gD (.ref t) (.ref b)) Q E s:=by
 obtain⟨n,d,c,l⟩:=id i;have e:s.TypeIs (.ref b) "slice":=⟨n,d,c⟩
 unfold gD
 try with_reducible refine jO ?_
 refine yO (wpAny_sequenceKey ht.typeIs (by decide) ?_);refine yO (jM ht.typeIs vA
  (jN vA ht.typeIs mI ?_ (args_tuple_getitem _ _)))
 show y7 _ _ (Builtin.Tuple.tupleItemsOf (.ref t) >>= _) _ _ s;refine yO (tupleItemsOf_ ht ?_);refine yO (vX e ?_);refine yO (HT.sliceApplied_gen i m k ?_);have a:(((HT.sIx items.size 0 lo):Int) == 0&&(1:Int) == 1&&(HT.sIx items.size items.size hi - HT.sIx items.size 0 lo) == items.size)=Z7:=by rw[f.1,f.2];simp
 show y7 _ _ (if(((HT.sIx items.size 0 lo):Int) == 0&&1 == 1&&(HT.sIx items.size items.size hi - HT.sIx items.size 0 lo) == items.size)=Z7 then _ else _) _ _ s;rw[if_pos a];refine yO (yO (vX ht.typeIs (yP ?_)));exact yO (vP (yP ⟨_,rfl,yP h⟩))
def zv(K:yQ):V->yG->yG->Hp->VK->Prop:=λx e d H Q=>∃a c,x=.ref a/\H a=Z9 (.tup c)/\∀p b,XS H b->b p=Z9 (.tup (W0 c e d))->Q (.ref p) b
theorem zu:RU X (zv X.K):=by
 intro d s Z H x v u w i j o Q I l m n k h;obtain⟨a,b,rfl,f,q⟩:=h;by_cases e:HT.sIx b.length 0 i=0/\HT.sIx b.length b.length j=b.length
 .cases l;obtain⟨g,r,ht,y⟩:=I.tuple (Zg.of f);have c:g.toArray.size=b.length:=by exact r.length.symm
  refine⟨"tuple",_,PyProof.Rows.slot_tuple_getitem.lookup,ht.typeIs,?_⟩;exact zw ht m n k (by rw[c];exact e) ⟨.ref a,H,I,rfl,q a H (XS.refl H) (by rw[zx b i j e];exact f)⟩
 .exact AF d s Z H (.ref a) v u w i j o Q I l m n k ⟨a,b,rfl,Zg.of f,e,λp t=>q p _ (LH t _) XA⟩
end
def TK(K:yQ)(H b:Hp):Prop:=∀p a,Zg K H p a->Zg K b p a
theorem TK.refl(K:yQ)(H:Hp):TK K H H:=λ_ _ h=>h
theorem TK.trans{K:yQ}{H d H2:Hp}(a:TK K H d)(b:TK K d H2):TK K H H2:=λp c h=>b p c (a p c h)
theorem dT{p:Prop}[Decidable p](h:p):decide p=Z7:=decide_eq_true h
theorem G7:jH "len"=Z9 (.builtin "len"):=by decide +kernel
theorem zt:jH "range"=Z9 (.type "range"):=by decide +kernel
theorem LG:jH "list"=Z9 (.type "list"):=by decide +kernel
theorem G6:jH "tuple"=Z9 (.type "tuple"):=by decide +kernel
theorem zr:jH "min"=Z9 (.builtin "min"):=by decide +kernel
theorem zq:jH "max"=Z9 (.builtin "max"):=by decide +kernel
theorem zp:jH "zip"=Z9 (.type "zip"):=by decide +kernel
theorem zo:jH "isinstance"=Z9 (.builtin "isinstance"):=by decide +kernel
theorem zl:jH "all"=Z9 (.builtin "all"):=by decide +kernel
theorem zk:jH "any"=Z9 (.builtin "any"):=by decide +kernel
theorem G5:jH "int"=Z9 (.type "int"):=by decide +kernel
theorem zj:jH "bool"=Z9 (.type "bool"):=by decide +kernel
theorem zi:jH "enumerate"=Z9 (.type "enumerate"):=by decide +kernel
theorem zh:jH "str"=Z9 (.type "str"):=by decide +kernel
section
variable {X:Cx}{scope:jR}{N:yH}{k:Nat}
def HJ(X:Cx)(scope:jR)(N:yH)(k:Nat)(js:List Nat):Prop:=∀i j,js[i]?=Z9 j->∃x,N[k+i]?=Z9 x/\X.N[j]?=Z9 x/\scope.names.lookup x=Z9 .free/\VM X.env.scope x
theorem LF{b:Nat}{a:Str}(c:N[k]?=Z9 a)(b0:X.N[b]?=Z9 a)(d:scope.names.lookup a=Z9 .free)(e:VM X.env.scope a):HJ X scope N k [b]:=λi j h=>by
 match i,h with
 |0,h=>cases h;exact⟨a,c,b0,d,e⟩
 |i+1,h=>simp at h
theorem G4{b c:Nat}{a x1:Str}(d:N[k]?=Z9 a)(b0:X.N[b]?=Z9 a)(e:scope.names.lookup a=Z9 .free)(m:VM X.env.scope a)
  (l:N[k+1]?=Z9 x1) (b1:X.N[c]?=Z9 x1) (f:scope.names.lookup x1=Z9 .free) (g:VM X.env.scope x1):HJ X scope N k [b,c]:=λi j h=>by
 match i,h with
 |0,h=>cases h;exact⟨a,d,b0,e,m⟩
 |1,h=>cases h;exact⟨x1,l,b1,f,g⟩
 |i+2,h=>simp at h
end
structure C4 where
 a:Int
 b:Int
 k:Int
 o:Int
def C4.ok(sw a:Int)(c:C4):Prop:=0<=c.a/\c.a<c.b/\c.b<a/\0<=c.k/\c.k<sw/\0<=c.o/\c.o<2
inductive UY(K:yQ)(H:Hp):V->String->Prop where
 |non:UY K H .non "NoneType"
 |bl (x:Bool):UY K H (.bl x) "bool"
 |int (i:Int):UY K H (.int i) "int"
 |str (x:Str):UY K H (.str x) "str"
 |tup {a:yR}{xs:List V} (e:Zg K H a xs):UY K H (.ref a) "tuple"
 |lst {a:yR}{xs:List V} (e:YA K H a xs):UY K H (.ref a) "list"
 |dk {a:yR}{kvs:List (ZJ×V)} (e:H a=Z9 (.dK kvs)):UY K H (.ref a) "dict"
noncomputable def LD(t T:String):Bool:=t == T||(t == "bool"&&T == "int")
section
variable {X:Cx}
theorem zd{A:jC}{E:yL}{k:yD}{Z:St}{H:Hp}{s:yS}{Q:yL}{c:yU}{b:Bool}{x:V}{u:yU}{t:String}(I:ZR X k Z H s)(d:ZK x u)(v:UY X.K H x t)(e:vY X.K (.type t) c=Z9 b)(h:∀tk,Q (.bool b) { s with toks:=tk }):
  y7 (yW X.prog X.w) A (call (.builtin "isinstance") [u,c]) Q E s:=by
 cases v with
 |non=>cases (d);exact wV W.kitx_none I.kIn True.intro e (λz=>nomatch z) h
 |bl y=>cases (d);exact wV W.kitx_bool I.kIn True.intro e (λz=>nomatch z) h
 |int i=>obtain⟨t,q⟩:=(d);cases q;exact wV W.kitx_int I.kIn True.intro e (λz=>nomatch z) h
 |str y=>obtain⟨t,q⟩:=(d);cases q;exact wV W.kitx_str I.kIn True.intro e (λz=>nomatch z) h
 |@lst a n j =>
  cases (show u=Value.ref a from d);obtain⟨l,_,m,_⟩:=I.list j;obtain⟨o,f,g,_⟩:=m.isList;exact wV W.kitx_list I.kIn ⟨o,f,g⟩ e (λz=>nomatch z) h
 |@tup a n j =>
  cases (show u=Value.ref a from d);obtain⟨l,_,m,_⟩:=I.tuple j;obtain⟨o,f,g,_⟩:=m;exact wV W.kitx_tuple I.kIn ⟨o,f,g⟩ e (λz=>nomatch z) h
 |@dk a r j =>
  cases (show u=Value.ref a from d);obtain⟨_,_,B,_,p⟩:=(I.hok a _ j)
  obtain⟨o,C,w,f,g,_⟩:=p;exact wV W.kitx_dict I.kIn ⟨o,f,g.1⟩ e (λz=>nomatch z) h
theorem za:Ys X (.builtin "isinstance") (λd H Q=>∃x t T b,d=[x,.ty T]/\UY X.K H x t/\vY X.K (.type t) (.type T)=Z9 b/\Q (.bl b) H):=by intro a s Z H j k Q I r h;obtain⟨x,t,T,b,rfl,i,e,q⟩:=h;obtain⟨u,v,rfl,g,c⟩:=RX r;cases c;exact zd I g i e λf=>⟨.bl b,H,I.tok f,rfl,q⟩
end
theorem y0(K:yQ):(∀t∈["NoneType","bool","int","str","tuple","list","dict"],∀T∈["bool","int","tuple","list","str","dict"],vY K (.type t) (.type T)=Z9 (LD t T)):=by intro t ht T a;simp only[qA9,qD3,or_false]at ht a;rcases ht with rfl|rfl|rfl|rfl|rfl|rfl|rfl<;>rcases a with rfl|rfl|rfl|rfl|rfl|rfl<;>rfl
mutual
inductive Rp(K:yQ)(H:Hp)(a0:yR->Prop):V->wR->Prop where
 |non:Rp K H a0 .non .none
 |bl (b:Bool):Rp K H a0 (.bl b) (.bool b)
 |int (i:Int):Rp K H a0 (.int i) (.int i)
 |str (x:Str):Rp K H a0 (.str x) (.str x)
 |tup {p:yR}{xs:List V}{ds:List wR} (h:Zg K H p xs) (r:RpL K H a0 xs ds):Rp K H a0 (.ref p) (.tuple ds)
 |lst {p:yR}{xs:List V}{ds:List wR} (n:a0 p) (h:YA K H p xs) (r:RpL K H a0 xs ds):Rp K H a0 (.ref p) (.list ds)
inductive RpL(K:yQ)(H:Hp)(a0:yR->Prop):List V->List wR->Prop where
 |nil:RpL K H a0 [] []
 |cons {x:V}{xs:List V}{d:wR}{ds:List wR} (h:Rp K H a0 x d) (t:RpL K H a0 xs ds):RpL K H a0 (x::xs) (d::ds)
end
noncomputable def C4.d(c:C4):PyData:=.tuple [.int c.a,.int c.b,.int c.k,.int c.o]
section
variable {prog:y4}{w:jD}{A:jC}{E:yL}{s:yS}
theorem yz{j t:yR}{n:Nat}{d:yJ}{v:yU}{Q:yL}(c:s.heap.IsTupleIter j t n)(ht:s.heap.IsTuple t d)(h:d[n]?=Z9 v)
  (q:∀h',h'.IsTupleIter j t (n+1)->qH7 j s.heap h'->Q v { s with heap:=h' }):y7 (yW prog w) A (Builtin.SmallTypes.nextOf (.ref j)) Q E s:=by obtain⟨i,b,e,a⟩:=id c;obtain⟨k,f,_,m,g⟩:=ht;refine yO (jM c.typeIs vQ (jN vQ c.typeIs fS ?_ (fO _)));show y7 _ _ (field (.ref j) 0 >>= _) _ _ s;refine yO (j6 b a (x:=.ref t) rfl ?_);refine yO (j6 b a (x:=.int n 0) rfl ?_);refine yO (v0 f g ?_);simp only[h,qF2];refine yO (wH b a (by simp) (yP ⟨v,rfl,yP (q _ ?_ (qH7.update ..))⟩));refine⟨_,qE8 _ b (jZ (jQ a _)),(gE ..).trans e,?_⟩;rw[jQ a];simp[vI]
theorem yx{j t:yR}{n:Nat}{f:yJ}{Q:yL}(g:A.handled=Z8)(b:s.heap.IsTupleIter j t n)(ht:s.heap.IsTuple t f)(k:f[n]?=Z8)
  (q:∀h' e,Heap.ExtBut j s.heap h'->(∃o,h'.get? e=Z9 o/\o.cls=.type "StopIteration")->E (.ref e) { s with heap:=h' }):y7 (yW prog w) A (Builtin.SmallTypes.nextOf (.ref j)) Q E s:=by
 obtain⟨r,c,l,d⟩:=id b;obtain⟨p,h,_,m,i⟩:=ht;refine yO (jM b.typeIs vQ (jN vQ b.typeIs fS ?_ (fO _)));show y7 _ _ (field (.ref j) 0 >>= _) _ _ s;refine yO (j6 c d (x:=.ref t) rfl ?_);refine yO (j6 c d (x:=.int n 0) rfl ?_);refine yO (v0 h i ?_);simp only[k,qF2];refine yO (vP (yO (wH c d (by simp) ?_)));refine yO ?_;refine yO (m:=firstArgMember _ _) (wpAny_of_eq (a:=Value.none) (by first|(simp only[firstArgMember];rfl)| rfl) ?_);refine j9 ?_ (by size_fits);refine yO (wpAny_handled ?_)
 first|rw[g]| rw[show A.in1.handled=Z8 from g]
 refine yO (yP (wpAny_throw ?_));exact q _ _ (((qH7.update ..).extBut.push _).push _) ⟨_,qB1 _ rfl,rfl⟩
end
theorem yw{prog:y4}{w:jD}{A:jC}(m:A.handled=Z8)(j t:yR)(b:t≠j)(a:yJ):
  Draws prog w A j [j,t] a.size (λi v=>a[i]?=Z9 v) (λi h=>h.IsTupleIter j t i/\h.IsTuple t a) where
 live:=λ_ _ st=>let ⟨o,ho,_⟩:=st.1;⟨o,ho⟩
 frame:=λ_ _ _ st c=>⟨st.1.at λo e=>c j (by simp) o e,let ⟨o,ho,r⟩:=st.2;⟨o,c t (by simp) o ho,r⟩⟩
 item:=λi s Q E n st f=>yz st.1 st.2 (v:=a[i]) (by simp) λk g d=>f _ k s.toks (by simp) ⟨g,st.2.extBut d.extBut b⟩ d
 done:=λs Q E st l=>yx m st.1 st.2 (by simp) l
theorem yv(l:yR)(items:yJ)(n:Nat)(b:Option yR)(j:Array (yF)):
  Meets (Builtin.«enumerate.__new__» ⟨[.type "enumerate",.ref l],[]⟩) (λ_ R s=>s.heap.get? l=Z9 { cls:=.type "tuple",dict:=b,data:=.seq items n,slots:=j } /\
   R (.ok (.ret (.ref (s.heap.push { cls:=.type "tuple_iterator",data:=.fields #[.ref l,.int 0 0] }).objs.size)))
    { s with heap:=(s.heap.push { cls:=.type "tuple_iterator",data:=.fields #[.ref l,.int 0 0] }).push { cls:=.type "enumerate",data:=.fields #[.none,.bool Z5,.ref s.heap.objs.size,vI 0,.none,.none] } }) :=
 .of_wp λe w A R s h=>by
  obtain⟨k,g,d,m,o⟩:=s;obtain⟨a,h⟩:=h;have f:=sub_enumerate;have i:qN0 (Shared.heap ⟨k,g,d,m,o⟩) l items:=⟨_,a,rfl,n,rfl⟩
  wp_walk using AutoSeq1.wpAny_loadPart' a
  refine wpAny_stack_any λst=>yP ?_;split
  .rename_i c _ _ _ _ _;cases (c == Value.type "enumerate")<;>(wp_walk using AutoSeq1.wpAny_loadPart' a,jU i;exact⟨_,rfl,h⟩)
  .wp_walk using AutoSeq1.wpAny_loadPart' a,jU i
   exact⟨_,rfl,h⟩
section
variable {X:Cx}{pins:yD}{Z:St}{H:Hp}{s:yS}
mutual
theorem ZR.reads(I:ZR X pins Z H s){p:yR->Prop}:∀{x:V}{d:wR}{u:yU},Rp X.K H p x d->ZK x u->∃l,Reads s.heap u d l
 |_,_,u,.non,r=>by cases (r);exact⟨_,.none⟩
 |_,_,u,.bl b,r=>by cases (r);exact⟨_,.bool b⟩
 |_,_,u,.int i,r=>by obtain⟨t,q⟩:=(r);cases q;exact⟨_,.int i t⟩
 |_,_,u,.str y,r=>by obtain⟨t,q⟩:=(r);cases q;exact⟨_,.str y t⟩
 |_,_,u,.tup h j,r=>by cases (r);obtain⟨c,a,⟨o,e,g,n,k⟩,_⟩:=I.tuple h;obtain⟨l,f⟩:=I.readsL j a;exact⟨_,.tuple e g k (by simpa using f)⟩
 |_,_,u,.lst _ h j,r=>by cases (r);obtain⟨c,a,m,_⟩:=I.list h;obtain⟨o,e,g,n,k⟩:=m.isList;obtain⟨l,f⟩:=I.readsL j a;exact⟨_,.list e g k (by simpa using f)⟩
theorem ZR.readsL(I:ZR X pins Z H s){b:yR->Prop}:∀{xs:List V}{ds:List wR}{a:yB},RpL X.K H b xs ds->ZO xs a->∃f,ReadsAll s.heap a ds f
 |_,_,_,.nil,.nil=>⟨_,.nil⟩
 |_,_,_,.cons h t,.cons r e=>by obtain⟨g,d⟩:=I.reads h r;obtain⟨i,c⟩:=I.readsL t e;exact⟨_,.cons d c⟩
end
def Oo(d:wR):Prop:=d.canLay0=Z7/\d.depth<=60
theorem yu(n:X.A.units+64<wK):Y0 X (y8 .Eq) (λx y H Q=>∃(N c:yR->Prop) (a b:wR),Rp X.K H N x a/\Rp X.K H c y b/\Oo a/\Oo b/\Q (.bl (PyData.eqv a b)) H):=by intro e s Z H x y v u Q I i m h;obtain⟨N,c,a,b,g,f,d,k,q⟩:=h;obtain⟨o,j⟩:=I.reads g i;obtain⟨bs,l⟩:=I.reads f m;exact SeqAt.compareEq_reads j l d.1 k.1 (by have:=d.2;omega) ⟨.bl _,H,I,rfl,q⟩
theorem yt(n:X.A.units+64<wK):Y0 X (y8 .NotEq) (λx y H Q=>∃(N c:yR->Prop) (a b:wR),Rp X.K H N x a/\Rp X.K H c y b/\Oo a/\Oo b/\Q (.bl (!PyData.eqv a b)) H):=by intro e s Z H x y v u Q I i m h;obtain⟨N,c,a,b,g,f,d,k,q⟩:=h;obtain⟨o,j⟩:=I.reads g i;obtain⟨bs,l⟩:=I.reads f m;exact SeqAt.compareNe_reads j l d.1 k.1 (by have:=d.2;omega) ⟨.bl _,H,I,rfl,q⟩
end
def XI(b:Bool)(K:yQ)(H:Hp)(a:yR)(xs:List V):Prop:=match b with
 |true=>Zg K H a xs
 |false=>YA K H a xs
def VI(b:Bool)(h:jE)(a:yR)(c:yJ):Prop:=match b with
 |true=>h.IsTuple a c
 |false=>h.IsList a c
def Wi(b:Bool)(h:jE)(j a:yR)(i:Nat):Prop:=match b with
 |true=>h.IsTupleIter j a i
 |false=>h.IsListIter j a i
theorem Wi.obj{b:Bool}{h:jE}{j a:yR}{i:Nat}(x:Wi b h j a i):∃o,h.get? j=Z9 o/\∀v,o.data≠.cell v:=by
 cases b with
 |true=>obtain⟨o,c,_,d⟩:=x;exact⟨o,c,λv q=>by rw[d]at q;cases q⟩
 |false=>obtain⟨o,c,_,d⟩:=x;exact⟨o,c,λv q=>by rw[d]at q;cases q⟩
theorem Wi.keep{b:Bool}{h h':jE}{j a:yR}{i:Nat}(x:Wi b h j a i)(e:∀o,h.get? j=Z9 o->h'.get? j=Z9 o):Wi b h' j a i:=by
 cases b with
 |true=>exact Heap.IsTupleIter.at x e
 |false=>exact Heap.IsListIter.at x e
theorem VI.lt{b:Bool}{h:jE}{a:yR}{c:yJ}(x:VI b h a c):a<h.objs.size:=by
 cases b with
 |true=>obtain⟨_,e,_⟩:=x;exact qB0 e
 |false=>obtain⟨_,e,_⟩:=x;exact qB0 e
theorem RL{prog:y4}{w:jD}{A:jC}(b:Bool)(d:A.handled=Z8)(j t:yR)(a:t≠j)(c:yJ):
  Draws prog w A j [j,t] c.size (λi v=>c[i]?=Z9 v) (λi h=>Wi b h j t i/\VI b h t c):=by
 cases b with
 |true=>exact yw d j t a c
 |false=>exact Draws.list d j t a c
section
variable {X:Cx}{pins:yD}{Z:St}{H:Hp}{s:yS}
theorem ZR.sqX(I:ZR X pins Z H s){b:Bool}{a:yR}{xs:List V}(h:XI b X.K H a xs):∃c,ZO xs c/\VI b s.heap a c.toArray:=by
 cases b with
 |true=>obtain⟨c,r,p,_⟩:=I.tuple h;exact⟨c,r,p⟩
 |false=>obtain⟨c,r,p,_⟩:=I.list h;exact⟨c,r,p.isList⟩
theorem ZR.sqX_inj(I:ZR X pins Z H s){b:Bool}{a:yR}{xs ys:List V}(h:XI b X.K H a xs)(h':XI b X.K H a ys):xs=ys:=by
 cases b with
 |true=>exact I.tuple_inj h h'
 |false=>exact I.list_inj h h'
end
noncomputable def Vh(b:Bool)(K:yQ)(a:yR):It :=
  ⟨λi H=>∃c x,XI b K H a c/\c[i]?=Z9 x,
   λi H v d=>∃T,H T=Z8/\v=.ref T/\∀c x,XI b K H a c->c[i]?=Z9 x->d=ZD H T (.tup [.int i,x]),
   λi H=>∃c,XI b K H a c/\i=c.length⟩
theorem allN{P:yR->Prop}:∀x∈([]:yC),P x:=λ_ h=>by cases h
theorem XR{P:yR->Prop}{a:yR}{l:yC}(h:P a)(t:∀x∈l,P x):∀x∈a::l,P x:=by grind
theorem G3{X:Cx}{a:yD}{H:Hp}{T:yR}{o:HO}{d:yC}(h:∀b∈d,Yf X a H b)(n:∀b∈d,b≠T):∀b∈d,Yf X a (ZD H T o) b:=λb c=>⟨by rw[Za (n b c)];exact(h b c).1,(h b c).2⟩
structure QI(b:Bool)(e it a:yR)(i:Nat)(h:jE):Prop where
 a1:∃old,IsEnum h e it (i:Nat) old
 a2:Wi b h it a i
theorem QI.obj{b:Bool}{e d a:yR}{i:Nat}{h:jE}(st:QI b e d a i h):∀c∈[e,d],∃o,h.get? c=Z9 o/\∀v,o.data≠.cell v:=by obtain⟨_,f⟩:=st.a1;exact XR ⟨_,f,λv q=>by cases q⟩ (XR st.a2.obj allN)
theorem QI.ne{b:Bool}{e d a:yR}{i:Nat}{h:jE}(st:QI b e d a i h){T:yR}(g:h.objs.size<=T):∀c∈[e,d],c≠T:=λc f=>by obtain⟨o,z,_⟩:=st.obj c f;exact qB7 (qB3 (qB0 z) g)
theorem yr{b:Bool}{a:yR}{i:Nat}{X:Cx}{c:yD}{Z:St}{H:Hp}{s:yS}(I:ZR X c Z H s){xs:List V}{x:V}(g:XI b X.K H a xs)(ex:xs[i]?=Z9 x){T:yR}(d:List V)(e:V)(j:XI b X.K H a d)(f:d[i]?=Z9 e):ZD H T (.tup [.int i,x])=ZD H T (.tup [.int i,e]):=by have h:=I.sqX_inj g j;subst h;rw[ex]at f;cases f;rfl
theorem yq{d:yB}{c:yU}{i:Nat}{a:yJ}(e:d[i]?=Z9 c)(f:∃b v,d.toArray[i]?=Z9 v/\a=#[.int (i:Nat) b,v]):∃b,a=#[.int (i:Nat) b,c]:=by simp_all
theorem G2{P:y4}{w:jD}{K:PySem.W.Frag}{q:yE}{k:Nat}{pos:Pos}(b:Bool)(e j a:yR)(f:e≠j)(r:e≠a)(p:a≠j):
  Xb P w K (.Tuple q k pos) (Vh b K a) [e,j] e (QI b e j a) where
 mem:=by simp
 obj:=λi h st=>st.obj
 keep:=λi h u ⟨⟨B,h1⟩,U⟩ m=>⟨⟨B,m e (by simp) _ h1⟩,U.keep λo z=>m j (by simp) o z⟩
 item:=by intro X F y R l i g s Z H E I t st Q;subst F y R;obtain⟨xs,x,v,ex⟩:=Q;obtain⟨d,J,M⟩:=I.sqX v;obtain⟨u1,Y,N⟩:=J.get ex;have D:=RL (prog:=X.prog) (w:=X.w) (A:=X.A.in1) b (I.ok.hd l) j a p d.toArray;have W:=WalksT.enumerateD D e f (by simp[f,r]) (by simp);have hl1:=(qA1.mp Y).1;refine W.item i s _ _ (by omega) ⟨st.1,st.2,M⟩ λT V u O hv L G hM m=>?_;obtain⟨tt,C⟩:=yq Y hv;subst C;have nT:=st.ne L;refine⟨_,rfl,W.go _ _ _ i T { s with heap:=u,toks:=O } _ _ hM λU n S=>?_⟩;have I1:ZR X g Z (ZD H T (.tup [.int i,x])) { s with heap:=u,toks:=O }:=I.yields t m L (.cons ⟨tt,rfl⟩ (.cons N .nil)) (by show 2<=jA;decide) G;exact⟨.ref T,_,I1.turnedL (G3 t nT) S,rfl,⟨T,I.hok.fresh L,rfl,yr I v ex⟩,⟨n.1,n.2.1⟩,λc l=>by rw[Za (nT c l)];exact(t c l).1⟩
 done:=by
  intro X F y R l i g s Z H E I t st Q;subst F y R;obtain⟨xs,v,ei⟩:=Q;obtain⟨d,J,M⟩:=I.sqX v;have D:=RL (prog:=X.prog) (w:=X.w) (A:=X.A.in1) b (I.ok.hd l) j a p d.toArray;have W:=WalksT.enumerateD D e f (by simp[f,r]) (by simp);have en:i=d.toArray.size:=by rw[qB5,<- J.length];exact ei
  refine W.done s _ _ (by rw[<- en];exact⟨st.1,st.2,M⟩) λu O m=>?_;exact⟨rfl,I.turnedL t m⟩
 self:=λ_ _ _ _ _ st h=>let ⟨⟨_,z⟩,_⟩:=st;gF z h
section
variable {X:Cx}
def G1(K:yQ)(e:TA):TI:=fun Z H R=>e Z H λd b=>∃a,d=[.ref a]/\((∃c,Zg K b a c)/\R (Vh Z7 K a) b∨(∃c,YA K b a c)/\R (Vh Z5 K a) b)
theorem yp{v:yE}{k:Nat}{m:Pos}{a:yZ}{K:TA}{p pos:Pos}(W:Gl X "enumerate")(hm:X.mg "enumerate"=Z8)(T:PA X [a] K)(P:jG [a] X.env=[(Z5,vO a X.env)]:=by rfl):
  PI X (.Tuple v k m) (.Call (.Name "enumerate" p) [a] [] pos) (G1 X.K K):=by
 intro w s Z H R I h;refine Call_ (Tp I W hm zi (j7 (Zo (T pos w s Z H _ I h) λus d ⟨vs,E,j,G,S⟩=>?_) (by rw[P];rfl) (by rfl)));obtain⟨t,e,q⟩:=S;subst e;rcases q with⟨⟨O,B⟩,q⟩| ⟨⟨O,B⟩,q⟩
 .cases G with
  |cons r C =>
   cases C;cases r;obtain⟨f,Q,y,N⟩:=j.tuple B;obtain⟨⟨c,A,U,L⟩,J,M,n,D⟩:=id y
   replace D:U=.seq f.toArray n:=D
   subst M D;have i:=qB0 J;refine callType_new PySem.F.called_enumerate (by decide) (PySem.F.typeCall_enumerate_1 _) (PySem.F.newCall_enumerate_1 _) (λobj=>PySem.F.args_object_init_2 obj _) PySem.F.entry_enumerate_new (yv t f.toArray n A L) ⟨J,?_⟩;have F:(d.heap.push { cls:=.type "tuple_iterator",data:=.fields #[.ref t,.int 0 0] }).objs.size=d.heap.objs.size+1:=qG2 ..;show _/\_;rw[F];have l:=by have z:=qB1 (d.heap.push { cls:=.type "tuple_iterator",data:=.fields #[.ref t,.int 0 0] }) (o:={ cls:=.type "enumerate",data:=.fields #[.none,.bool Z5,.ref d.heap.objs.size,vI 0,.none,.none] }) rfl;rw[F]at z;exact z
   refine⟨⟨_,l,rfl⟩,?_⟩;refine gF l ?_;have kp:∀b o,d.heap.get? b=Z9 o->((d.heap.push { cls:=.type "tuple_iterator",data:=.fields #[.ref t,.int 0 0] }).push { cls:=.type "enumerate",data:=.fields #[.none,.bool Z5,.ref d.heap.objs.size,vI 0,.none,.none] }).get? b=Z9 o:=λb o x=>qA4 _ (qA4 _ x);refine⟨_,_,_,_,E,rfl,j.kept (t':=d.toks) kp,G2 Z7 (d.heap.objs.size+1) d.heap.objs.size t (qR2 _) (qH1 (qF1 i)) (qB7 i),⟨⟨_,l⟩,⟨_,qA4 _ (qB1 _ rfl),rfl,rfl⟩⟩,λb u=>?_,q⟩;have g:d.heap.objs.size<=b:=by
    simp only[qA9,qD3,or_false]at u;rcases u with rfl|rfl
    .exact qN6 _
    .exact qA7 _
   exact j.fpOk g (j.hok.fresh g)
 .cases G with
  |cons r C =>
   cases C;cases r;obtain⟨f,Q,y,N⟩:=j.list B;have i:t<d.heap.objs.size:=by obtain⟨_,e,_⟩:=y.isList;exact qB0 e
   refine call_enumerate_list y.isList λh' l Y V hk=>?_;refine gF l ?_;refine⟨_,_,_,_,E,rfl,j.kept (t':=d.toks) hk,G2 Z5 (d.heap.objs.size+1) d.heap.objs.size t (qR2 _) (qH1 (qF1 i)) (qB7 i),⟨⟨_,l⟩,Y⟩,λb u=>?_,q⟩;have g:d.heap.objs.size<=b:=by
    simp only[qA9,qD3,or_false]at u;rcases u with rfl|rfl
    .exact qN6 _
    .exact qA7 _
   exact j.fpOk g (j.hok.fresh g)
end
structure On(z TI TO i1 i2:yR)(f1 f2:yC):Prop where
 TIz:TI≠z
 TOz:TO≠z
 i1z:i1≠z
 i2z:i2≠z
 TITO:TI≠TO
 TIi1:TI≠i1
 TIi2:TI≠i2
 TOi1:TO≠i1
 TOi2:TO≠i2
 i12:i1≠i2
 z1:z∉f1
 z2:z∉f2
 O1:TO∉f1
 O2:TO∉f2
 j1:i2∉f1
 j2:i1∉f2
section
variable {prog:y4}{w:jD}{A:jC}{E:yL}{s:yS}
variable {z TI TO i1 i2:yR}{f1 f2:yC}{n1 n2 k:Nat}{P1 P2:Nat->yU->Prop}{S1 S2:Nat->jE->Prop}
theorem Draws.sb{j c:yR}{a:yC}{n i:Nat}{P:Nat->yU->Prop}{St:Nat->jE->Prop}{h h':jE}(D:Draws prog w A j a n P St)(st:St i h)(sb:qH7 c h h')(f:c∉a):St i h' :=
 D.frame _ _ _ st λb d o e=>sb.extBut b o (λq=>f (q▸d)) e
theorem G0{Q:Fin->yS->Prop}{a b:yU}(I:mN s.heap z TI TO .none)(hTI:fE s.heap TI (.ref i1) (.ref i2))(V:fE s.heap TO a b)(g:A.handled=Z8)
  (n:∀A:jC,A.handled=Z8->Draws prog w A i1 f1 n1 P1 S1) (u:∀A:jC,A.handled=Z8->Draws prog w A i2 f2 n2 P2 S2) (d:On z TI TO i1 i2 f1 f2) (h1:S1 k s.heap) (h2:S2 k s.heap)
  (hQ:k<n1->k<n2->∀x y h' tk,P1 k x->P2 k y->mN h' z TI TO (vI s.heap.objs.size)->fE h' TO x y->S1 (k+1) h'->S2 (k+1) h'->fE h' s.heap.objs.size x y->h'.objs.size=s.heap.objs.size+1 ->
   (∀c o,c≠z->c≠TO->c≠i1->c≠i2->s.heap.get? c=Z9 o->h'.get? c=Z9 o)->Q (.done (.ret (.ref s.heap.objs.size))) { s with heap:=h',toks:=tk })
  (hE:(k=n1∨k=n2)->∀h' e tk,(∀c o,c≠z->c≠TO->c≠i1->c≠i2->s.heap.get? c=Z9 o->h'.get? c=Z9 o)->(∃o,h'.get? e=Z9 o/\o.cls=.type "StopIteration")->E (.ref e) { s with heap:=h',toks:=tk })
  (U:k<=n1) (hk2:k<=n2):y7 (yW prog w) A (Builtin.«zip.__next__» ⟨[.ref z],[]⟩) Q E s:=by
 show y7 _ _ (field (.ref z) 2 >>= _) _ _ _;refine yO (j6 I rfl (x:=.bool Z5) rfl ?_);refine yO (j6 I rfl (x:=.ref TI) rfl ?_);refine yO (v0 hTI rfl ?_);refine yO ?_;refine yO (j6 I rfl (x:=.none) rfl (yP ?_));refine yO (vP ?_);refine yO (j6 I rfl (x:=.ref TO) rfl ?_);refine yO (wD I (by simp) λha M t=>?_)
 replace M:mN ha z TI TO .ellipsis:=M
 have K:=Draws.sb (n A g) h1 t d.z1;have X:=Draws.sb (u A g) h2 t d.z2;have oa:=t.extBut _ _ d.TOz V;refine yO ?_;simp only[qR3,List.zipIdx_nil,qR9,List.forIn_nil];refine yO (yO (wpAny_onRaise ?_));by_cases l1:k<n1
 .refine yO ((n _ g).item k _ _ _ l1 K λx P tb px W sb=>yP ?_);have ob:=sb.extBut _ _ d.TOi1 oa;have R:=Draws.sb (u A g) X sb d.j2;have zb:=sb.extBut _ _ d.i1z.symm M;refine yO (v0 ob rfl ?_);refine yO (lX ob λhc oc B=>?_);have s1c:=Draws.sb (n A g) W B d.O1;have D:=Draws.sb (u A g) R B d.O2;have zc:=B.extBut _ _ d.TOz.symm zb;refine yO (wpAny_letGo (yP ?_));refine yO (yO (wpAny_onRaise ?_));by_cases S:k<n2
  .refine yO ((u _ g).item k _ _ _ S D λy hd td py T l=>yP ?_);have od:fE hd TO x b:=l.extBut _ _ d.TOi2 oc;have s1d:=Draws.sb (n A g) s1c l d.j1;have v:=l.extBut _ _ d.i2z.symm zc;refine yO (v0 od rfl ?_);refine yO (lX od λi m F=>?_)
   replace m:fE i TO x y:=m
   have Y:=Draws.sb (n A g) s1d F d.O1;have s2e:=Draws.sb (u A g) T F d.O2;have ze:=F.extBut _ _ d.TOz.symm v;refine yO (wpAny_letGo (yP (yP ?_)));refine yO (v0 m rfl ?_);refine yO (wpAny_newTuple ?_);have J:i.objs.size=s.heap.objs.size:=by rw[F.1,l.1,B.1,sb.1,t.1]
   have kp:∀c o,c≠z->c≠TO->c≠i1->c≠i2->s.heap.get? c=Z9 o->i.get? c=Z9 o:=λc o h C r G e =>
    F.extBut _ _ C (l.extBut _ _ G (B.extBut _ _ C (sb.extBut _ _ r (t.extBut _ _ h e))))
   have L:=qB0 ze;refine yO ?_;have zf:mN (i.push { cls:=.type "tuple",data:=.seq #[x,y] }) z TI TO .ellipsis:=qA4 _ ze;refine yO (wD zf (by simp) λhg zg Z=>?_)
   replace zg:mN hg z TI TO (vI i.objs.size):=zg
   refine wD zg (by simp) λO N si=>?_
   replace N:mN O z TI TO (vI i.objs.size):=N
   have up:∀c o,c≠z->i.get? c=Z9 o->O.get? c=Z9 o:=λc o h e=>si.extBut _ _ h (Z.extBut _ _ h (qA4 _ e));have tz:=si.extBut _ _ (qH1 L) (Z.extBut _ _ (qH1 L) (qB1 _ rfl));have zz:O.objs.size=i.objs.size+1:=by rw[si.1,Z.1,qG2]
   have s1i:=(n A g).frame _ _ _ Y λb P o e=>up b o (λq=>d.z1 (q▸P)) e;have s2i:=(u A g).frame _ _ _ s2e λb P o e=>up b o (λq=>d.z2 (q▸P)) e;rw[J]at N tz zz;refine yP ?_;rw[J];exact hQ l1 S x y O td px py N (up _ _ d.TOz m) s1i s2i tz zz λc o h C r G e=>up c o h (kp c o h C r G e)
  .have e2:=qS1 hk2 (qO1 S);refine yO ((u _ g).done _ _ _ (e2▸D) λhd e l i=>?_);obtain⟨m,f,j⟩:=i;have v:=l _ _ d.i2z.symm zc;have p:e≠z:=λq=>by subst q;rw[v]at f;cases f;simp at j
   refine wD v (by simp) λhf _ H=>hE (.inr e2) hf e tb (λc o h C r G q=>H.extBut _ _ h (l _ _ G (B.extBut _ _ C (sb.extBut _ _ r (t.extBut _ _ h q))))) ⟨m,H.extBut _ _ p f,j⟩
 .have e1:=qS1 U (qO1 l1);refine yO ((n _ g).done _ _ _ (e1▸K) λhd e l i=>?_);obtain⟨m,f,j⟩:=i;have v:=l _ _ d.i1z.symm M;have p:e≠z:=λq=>by subst q;rw[v]at f;cases f;simp at j
  exact wD v (by simp) λhf _ H=>hE (.inl e1) hf e s.toks (λc o h _ r _ q=>H.extBut _ _ h (l _ _ r (t.extBut _ _ h q))) ⟨m,H.extBut _ _ p f,j⟩
theorem WalksT.zipD(u:A.handled=Z8)(C:∀A:jC,A.handled=Z8->Draws prog w A i1 f1 n1 P1 S1)(B:∀A:jC,A.handled=Z8->Draws prog w A i2 f2 n2 P2 S2)(n:On z TI TO i1 i2 f1 f2)(U:i1∈f1)(V:i2∈f2):
  WalksT prog w A z (z::TI::TO::f1++f2) [z,TO,i1,i2] (min n1 n2) (λi G=>∃x y,P1 i x/\P2 i y/\G=#[x,y])
   (λi h=>mN h z TI TO .none/\fE h TI (.ref i1) (.ref i2)/\(∃a b,fE h TO a b)/\S1 i h/\S2 i h)
   (λi T h=>mN h z TI TO (vI T)/\fE h TI (.ref i1) (.ref i2)/\(∃a b,fE h TO a b)/\S1 (i+1) h/\S2 (i+1) h/\T≠z/\T≠TO/\T≠i1/\T≠i2) where
 sub:=λc g=>by simp at g ⊢;rcases g with rfl|rfl|rfl|rfl<;>simp[U,V]
 frame:=λi h D j hk=>by obtain⟨m,f,⟨a,b,d⟩,r,t⟩:=j;exact⟨hk z (by simp) _ m,hk TI (by simp) _ f,⟨a,b,hk TO (by simp) _ d⟩,(C A u).frame _ _ _ r λb I o e=>hk b (by simp[I]) o e,(B A u).frame _ _ _ t λb I o e=>hk b (by simp[I]) o e⟩
 item:=λi s Q E hi j v=>by
  obtain⟨m,f,⟨a,b,d⟩,r,t⟩:=j;have p:s.TypeIs (.ref z) "zip":=⟨_,m,rfl⟩
  have lt:∀{c o},s.heap.get? c=Z9 o->s.heap.objs.size≠c:=λe=>qH1 (qB0 e);refine yO (vM (jM p fP
   (jN fP p F.entry_zip_next (G0 m f d u C B n r t (λ_ _ x y D L O py P a2 Y N a5 a6 hk=>⟨_,rfl,yP ?_⟩) (λq=>by omega) (by omega) (by omega)) (F.args_zip_next_1 _))))
  refine v s.heap.objs.size #[x,y] D L ⟨x,y,O,py,rfl⟩ (qA7 _) ⟨_,a5,rfl,_,rfl⟩ ⟨P,hk _ _ n.TIz n.TITO n.TIi1 n.TIi2 f,⟨_,_,a2⟩,Y,N,lt m,lt d,?_,?_⟩
   λc o g e=>hk c o (λx=>g (by simp[x])) (λx=>g (by simp[x])) (λx=>g (by simp[x])) (λx=>g (by simp[x])) e
  .obtain⟨_,e⟩:=(C A u).live _ _ r;exact lt e
  .obtain⟨_,e⟩:=(B A u).live _ _ t;exact lt e
 go:=λK k M i T s Q E H v=>by obtain⟨m,f,⟨a,b,d⟩,r,t,_⟩:=H;refine wpAny_letOwnedTupleGo_zip m λD J l=>v D ⟨J,l.extBut _ _ n.TIz f,⟨a,b,l.extBut _ _ n.TOz d⟩,Draws.sb (C A u) r l n.z1,Draws.sb (B A u) t l n.z2⟩ λc o g e=>l.extBut _ _ (λx=>g (by simp[x])) e
 apart:=λi T h H p=>by
  obtain⟨_,_,_,_,_,S,Z,R,W⟩:=H;simp at p;rcases p with rfl|rfl|rfl|rfl
  .exact S rfl
  .exact Z rfl
  .exact R rfl
  .exact W rfl
 done:=λs Q E j v=>by
  obtain⟨m,f,⟨a,b,d⟩,r,t⟩:=j;have p:s.TypeIs (.ref z) "zip":=⟨_,m,rfl⟩
  refine yO (vM (jM p fP
   (jN fP p F.entry_zip_next (G0 m f d u C B n r t (λq1 q2=>by omega) (λ_ D e L hk he=>?_) (by omega) (by omega)) (F.args_zip_next_1 _))))
  obtain⟨o,X,g⟩:=he;refine yO (fF ⟨o,X,g⟩ isSubtype_stop ?_);exact yP (v _ _ λc o g e=>hk c o (λx=>g (by simp[x])) (λx=>g (by simp[x])) (λx=>g (by simp[x])) (λx=>g (by simp[x])) e)
 self:=λi s Q E j v=>gR j.1 v
end
noncomputable def UH(b:Bool)(l:yR):Obj:={ cls:=.type (if b then "tuple_iterator" else "list_iterator"),data:=.fields #[.ref l,.int 0 0] }
noncomputable abbrev Om(h:jE)(b1 b2:Bool)(b a:yR):Heap:=(h.push (UH b1 b)).push (UH b2 a)
noncomputable abbrev Ol(h:jE)(b1 b2:Bool)(a b:yR):Heap:=(Om h b1 b2 a b).push { cls:=.type "tuple",data:=.seq #[.ref h.objs.size,.ref (h.push (UH b1 a)).objs.size] }
noncomputable abbrev T5(h:jE)(b1 b2:Bool)(b a:yR):Heap:=(Ol h b1 b2 b a).push { cls:=.type "tuple",data:=.seq #[.none,.none] }
noncomputable abbrev UX(h:jE)(b1 b2:Bool)(b a:yR):Heap:=(T5 h b1 b2 b a).push { cls:=.type "zip",data:=.fields #[.none,.bool Z5,.bool Z5,.ref (Om h b1 b2 b a).objs.size,.ref (Ol h b1 b2 b a).objs.size] }
theorem yo(a b:yR)(xs ys:yJ):
  Meets (Builtin.«zip.__new__» ⟨[.type "zip",.ref a,.ref b],[]⟩) (λ_ R s=>s.heap.IsTuple a xs/\s.heap.IsTuple b ys /\
   R (.ok (.ret (.ref (T5 s.heap Z7 Z7 a b).objs.size))) { s with heap:=UX s.heap Z7 Z7 a b }) :=
 .of_wp λj w A R s h=>by
  obtain⟨l,g,d,m,n⟩:=s;obtain⟨c,i,h⟩:=h;have k:=sub_zip;have e:=c;have f:qN0 (Shared.heap ⟨l.push { cls:=.type "tuple_iterator",data:=.fields #[.ref a,.int 0 0] },g,d,m,n⟩) b ys:=qN0.push i _
  wp_walk using jU e,jU f
  exact⟨_,rfl,h⟩
theorem yn(a b:yR)(xs ys:yJ):
  Meets (Builtin.«zip.__new__» ⟨[.type "zip",.ref a,.ref b],[]⟩) (λ_ R s=>s.heap.IsTuple a xs/\s.heap.IsList b ys /\
   R (.ok (.ret (.ref (T5 s.heap Z7 Z5 a b).objs.size))) { s with heap:=UX s.heap Z7 Z5 a b }) :=
 .of_wp λj w A R s h=>by
  obtain⟨l,g,d,m,n⟩:=s;obtain⟨c,i,h⟩:=h;have k:=sub_zip;have e:=c;have f:qL9 (Shared.heap ⟨l.push { cls:=.type "tuple_iterator",data:=.fields #[.ref a,.int 0 0] },g,d,m,n⟩) b ys:=qL9.push i _
  wp_walk using jU e,jY f
  exact⟨_,rfl,h⟩
theorem ym(a b:yR)(xs ys:yJ):
  Meets (Builtin.«zip.__new__» ⟨[.type "zip",.ref a,.ref b],[]⟩) (λ_ R s=>s.heap.IsList a xs/\s.heap.IsTuple b ys /\
   R (.ok (.ret (.ref (T5 s.heap Z5 Z7 a b).objs.size))) { s with heap:=UX s.heap Z5 Z7 a b }) :=
 .of_wp λj w A R s h=>by
  obtain⟨l,g,d,m,n⟩:=s;obtain⟨c,i,h⟩:=h;have k:=sub_zip;have e:=c;have f:qN0 (Shared.heap ⟨l.push { cls:=.type "list_iterator",data:=.fields #[.ref a,.int 0 0] },g,d,m,n⟩) b ys:=qN0.push i _
  wp_walk using jY e,jU f
  exact⟨_,rfl,h⟩
theorem yl(a b:yR)(xs ys:yJ):
  Meets (Builtin.«zip.__new__» ⟨[.type "zip",.ref a,.ref b],[]⟩) (λ_ R s=>s.heap.IsList a xs/\s.heap.IsList b ys /\
   R (.ok (.ret (.ref (T5 s.heap Z5 Z5 a b).objs.size))) { s with heap:=UX s.heap Z5 Z5 a b }) :=
 .of_wp λj w A R s h=>by
  obtain⟨l,g,d,m,n⟩:=s;obtain⟨c,i,h⟩:=h;have k:=sub_zip;have e:=c;have f:qL9 (Shared.heap ⟨l.push { cls:=.type "list_iterator",data:=.fields #[.ref a,.int 0 0] },g,d,m,n⟩) b ys:=qL9.push i _
  wp_walk using jY e,jY f
  exact⟨_,rfl,h⟩
theorem yj(b1 b2:Bool)(a b:yR)(xs ys:yJ):
  Meets (Builtin.«zip.__new__» ⟨[.type "zip",.ref a,.ref b],[]⟩) (λ_ R s=>VI b1 s.heap a xs/\VI b2 s.heap b ys /\
   R (.ok (.ret (.ref (T5 s.heap b1 b2 a b).objs.size))) { s with heap:=UX s.heap b1 b2 a b }):=by
 cases b1 with
 |true=>cases b2 with
  |true=>exact yo a b xs ys
  |false=>exact yn a b xs ys
 |false=>cases b2 with
  |true=>exact ym a b xs ys
  |false=>exact yl a b xs ys
theorem GZ{b:Bool}{h:jE}{j l:yR}(e:h.get? j=Z9 (UH b l)):Wi b h j l 0:=by
 cases b with
 |true=>exact⟨_,e,rfl,rfl⟩
 |false=>exact⟨_,e,rfl,rfl⟩
theorem GY(b:Bool)(l:yR):(UH b l).isFreed=Z5:=by cases b<;>rfl
section
variable {prog:y4}{w:jD}{A:jC}{E:yL}{s:yS}
theorem yi{b1 b2:Bool}{a b:yR}{xs ys:yJ}{Q:yL}(f:VI b1 s.heap a xs)(g:VI b2 s.heap b ys)
  (h:∀h',mN h' (s.heap.objs.size+4) (s.heap.objs.size+2) (s.heap.objs.size+3) .none->fE h' (s.heap.objs.size+2) (.ref s.heap.objs.size) (.ref (s.heap.objs.size+1)) ->
   fE h' (s.heap.objs.size+3) .none .none->Wi b1 h' s.heap.objs.size a 0->Wi b2 h' (s.heap.objs.size+1) b 0 ->
   (∀c o,s.heap.get? c=Z9 o->h'.get? c=Z9 o)->Q (.ref (s.heap.objs.size+4)) { s with heap:=h' }) :
  y7 (yW prog w) A (call (.type "zip") [.ref a,.ref b]) Q E s:=by
 refine callType_new F.called_zip (by decide) (F.typeCall_zip_2 _ _) (F.newCall_zip_2 _ _) (λobj=>F.args_object_init_3 obj _ _) F.entry_zip_new (yj b1 b2 a b xs ys) ⟨f,g,?_⟩;have d:(s.heap.push (UH b1 a)).objs.size=s.heap.objs.size+1:=qG2 ..;have j:(Om s.heap b1 b2 a b).objs.size=s.heap.objs.size+2:=by rw[qG2,d]
 have e:(Ol s.heap b1 b2 a b).objs.size=s.heap.objs.size+3:=by rw[qG2,j]
 have n:(T5 s.heap b1 b2 a b).objs.size=s.heap.objs.size+4:=by rw[qG2,e]
 have i:(UX s.heap b1 b2 a b).get? (T5 s.heap b1 b2 a b).objs.size=Z9 _:=qB1 _ rfl;have k:(UX s.heap b1 b2 a b).get? (Ol s.heap b1 b2 a b).objs.size=Z9 _:=qA4 _ (qB1 _ rfl);have m:(UX s.heap b1 b2 a b).get? (Om s.heap b1 b2 a b).objs.size=Z9 _:=qA4 _ (qA4 _ (qB1 _ rfl));have l:(UX s.heap b1 b2 a b).get? (s.heap.push (UH b1 a)).objs.size=Z9 (UH b2 b):=qA4 _ (qA4 _ (qA4 _ (qB1 _ (GY _ _))));have p:(UX s.heap b1 b2 a b).get? s.heap.objs.size=Z9 (UH b1 a):=qA4 _ (qA4 _ (qA4 _ (qA4 _ (qB1 _ (GY _ _)))));rw[j,e,n]at i;rw[d,j]at m;rw[e]at k;rw[d]at l;rw[n];exact⟨⟨_,i,rfl⟩,h _ i m k (GZ p) (GZ l) λc o x =>
  qA4 _ (qA4 _ (qA4 _ (qA4 _ (qA4 _ x))))⟩
end
theorem yh{n a b:yR}(c:a<n)(d:b<n):On (n+4) (n+2) (n+3) n (n+1) [n,a] [n+1,b]:=by constructor<;>(try simp only[qA9,qD3,or_false,not_or])<;>(try refine⟨?_,?_⟩)<;>(show ¬(_=_))<;>(simp only[yR]at *;omega)
inductive QH(b1 b2:Bool)(K:yQ)(H:Hp)(a b:yR)(i:Nat):Prop
 |mk (xs ys:List V) (x y:V) (q1:XI b1 K H a xs) (q2:XI b2 K H b ys) (ex:xs[i]?=Z9 x) (ey:ys[i]?=Z9 y)
inductive LC(b1 b2:Bool)(K:yQ)(H:Hp)(a b:yR)(i:Nat):Prop
 |mk (xs ys:List V) (q1:XI b1 K H a xs) (q2:XI b2 K H b ys) (ei:i=min xs.length ys.length)
noncomputable def Tc(b1 b2:Bool)(K:yQ)(a b:yR):It :=
  ⟨λi H=>QH b1 b2 K H a b i,
   λi H v e=>∃T,H T=Z8/\v=.ref T/\∀c d x y,XI b1 K H a c->XI b2 K H b d->c[i]?=Z9 x->d[i]?=Z9 y->e=ZD H T (.tup [x,y]),
   λi H=>LC b1 b2 K H a b i⟩
structure QG(b1 b2:Bool)(z TI TO i1 i2 l1 l2:yR)(i:Nat)(h:jE):Prop where
 a1:mN h z TI TO .none
 a2:fE h TI (.ref i1) (.ref i2)
 a3:∃a b,fE h TO a b
 a4:Wi b1 h i1 l1 i
 a5:Wi b2 h i2 l2 i
section
variable {b1 b2:Bool}{z TI TO i1 i2 l1 l2:yR}{i:Nat}{h:jE}
theorem QG.obj(st:QG b1 b2 z TI TO i1 i2 l1 l2 i h):∀b∈[z,TI,TO,i1,i2],∃o,h.get? b=Z9 o/\∀v,o.data≠.cell v:=by obtain⟨_,_,a⟩:=st.a3;exact XR ⟨_,st.a1,λv q=>by cases q⟩ (XR ⟨_,st.a2,λv q=>by cases q⟩ (XR ⟨_,a,λv q=>by cases q⟩ (XR st.a4.obj (XR st.a5.obj allN))))
theorem QG.ne(st:QG b1 b2 z TI TO i1 i2 l1 l2 i h){T:yR}(c:h.objs.size<=T):∀b∈[z,TI,TO,i1,i2],b≠T:=λb a=>by obtain⟨o,e,_⟩:=st.obj b a;exact qB7 (qB3 (qB0 e) c)
theorem Tb:∀b∈[z,TO,i1,i2],b∈[z,TI,TO,i1,i2]:=by simp_all
inductive yg(b1 b2:Bool)(X:Cx)(s:yS)(H:Hp)(l1 l2:yR)(i:Nat):Prop
 |mk (xs ys:List V) (x y:V) (t1 t2:yB) (u1 u2:yU) (q1:XI b1 X.K H l1 xs) (q2:XI b2 X.K H l2 ys) (ex:xs[i]?=Z9 x) (ey:ys[i]?=Z9 y) (p1:VI b1 s.heap l1 t1.toArray) (p2:VI b2 s.heap l2 t2.toArray)
  (e1:t1[i]?=Z9 u1) (e2:t2[i]?=Z9 u2) (r1:ZK x u1) (r2:ZK y u2)
variable {X:Cx}{pins:yD}{Z:St}{H:Hp}{s:yS}
theorem yf(I:ZR X pins Z H s)(u:QH b1 b2 X.K H l1 l2 i):yg b1 b2 X s H l1 l2 i:=by obtain⟨l,n,x,y,g,e,ex,f⟩:=u;obtain⟨b,p,q⟩:=I.sqX g;obtain⟨a,j,m⟩:=I.sqX e;obtain⟨t,r,d⟩:=p.get ex;obtain⟨o,k,c⟩:=j.get f;exact⟨l,n,x,y,b,a,t,o,g,e,ex,f,q,m,r,k,d,c⟩
theorem ye{g c:yB}{f b:yU}{a:yJ}(j:g[i]?=Z9 f)(k:c[i]?=Z9 b)(l:∃d e,g.toArray[i]?=Z9 d/\c.toArray[i]?=Z9 e/\a=#[d,e]):a=#[f,b]:=by simp_all
theorem yd(I:ZR X pins Z H s){xs ys:List V}{x y:V}(n:XI b1 X.K H l1 xs)(q2:XI b2 X.K H l2 ys)(ex:xs[i]?=Z9 x)(g:ys[i]?=Z9 y){T:yR}(b a:List V)(e d:V)(j:XI b1 X.K H l1 b)(k:XI b2 X.K H l2 a)(c:b[i]?=Z9 e)(f:a[i]?=Z9 d):ZD H T (.tup [x,y])=ZD H T (.tup [e,d]):=by have l:=I.sqX_inj n j;have m:=I.sqX_inj q2 k;subst l m;rw[ex]at c;rw[g]at f;cases c;cases f;rfl
end
theorem yc{P:y4}{w:jD}{K:PySem.W.Frag}{t:yE}{k:Nat}{pos:Pos}(b1 b2:Bool)(z TI TO g l q p:yR)(D:On z TI TO g l [g,q] [l,p])(d1:q≠g)(d2:p≠l):
  Xb P w K (.Tuple t k pos) (Tc b1 b2 K q p) [z,TI,TO,g,l] z (QG b1 b2 z TI TO g l q p) where
 mem:=by simp
 obj:=λi h st=>st.obj
 keep:=λi h u ⟨a1,a2,⟨x,y,a3⟩,a4,a5⟩ f =>
  ⟨f z (by simp) _ a1,f TI (by simp) _ a2,⟨x,y,f TO (by simp) _ a3⟩,a4.keep λo e=>f g (by simp) o e,a5.keep λo e=>f l (by simp) o e⟩
 item:=by intro X U R J S i m s Z H E I v st G;subst U R J;obtain⟨xs,ys,x,y,a,c,u1,u2,F,Y,ex,ey,N,L,e1,e2,O,B⟩:=yf I G;have W:=WalksT.zipD (prog:=X.prog) (w:=X.w) (I.ok.hd S) (λA n=>RL b1 n g q d1 a.toArray) (λA n=>RL b2 n l p d2 c.toArray) D (by simp) (by simp);have hl1:=(qA1.mp e1).1;have hl2:=(qA1.mp e2).1;have r:=λb j=>v b (Tb b j);refine W.item i s _ _ (by simp only[qB5];omega) ⟨st.a1,st.a2,st.a3,⟨st.a4,N⟩,st.a5,L⟩ λT vals u tk hv V M hM f=>?_;have C:=ye e1 e2 hv;subst C;have nT:=st.ne V;refine⟨_,rfl,W.go _ _ _ i T { s with heap:=u,toks:=tk } _ _ hM λh2 d Q=>?_⟩;have I1:ZR X m Z (ZD H T (.tup [x,y])) { s with heap:=u,toks:=tk }:=I.yields r f V (.cons O (.cons B .nil)) (by show 2<=jA;decide) M;have I2:=I1.turnedL (tk:=tk) (G3 r λb j=>nT b (Tb b j)) Q;exact⟨.ref T,_,I2,rfl,⟨T,I.hok.fresh V,rfl,yd I F Y ex ey⟩,⟨d.1,d.2.1,d.2.2.1,d.2.2.2.1.1,d.2.2.2.2.1⟩,λb j=>by rw[Za (nT b j)];exact(v b j).1⟩
 done:=by
  intro X U R J S i m s Z H E I v st G;subst U R J;obtain⟨xs,ys,F,Y,ei⟩:=G;obtain⟨a,r1,N⟩:=I.sqX F;obtain⟨c,r2,L⟩:=I.sqX Y;have W:=WalksT.zipD (prog:=X.prog) (w:=X.w) (I.ok.hd S) (λA n=>RL b1 n g q d1 a.toArray) (λA n=>RL b2 n l p d2 c.toArray) D (by simp) (by simp);have en:i=min a.toArray.size c.toArray.size:=by simp only[qB5,<- r1.length,<- r2.length];exact ei
  refine W.done s _ _ (by rw[<- en];exact⟨st.a1,st.a2,st.a3,⟨st.a4,N⟩,st.a5,L⟩) λu tk f=>?_;exact⟨rfl,I.turnedL (λb j=>v b (Tb b j)) f⟩
 self:=λ_ _ _ _ _ st h=>gR st.a1 h
section
variable {X:Cx}
def GX(K:yQ)(f:TA):TI:=fun Z H R=>f Z H λe c=>∃a b b1 d,e=[.ref a,.ref b]/\(∃g,XI b1 K c a g)/\(∃h,XI d K c b h)/\R (Tc b1 d K a b) c
theorem yb{i:yE}{k:Nat}{f:Pos}{a b:yZ}{z:TA}{p pos:Pos}(N:Gl X "zip")(hm:X.mg "zip"=Z8)(M:PA X [a,b] z)(F:jG [a,b] X.env=[(Z5,vO a X.env),(Z5,vO b X.env)]:=by rfl)(c:jG [b] X.env=[(Z5,vO b X.env)]:=by rfl):
  PI X (.Tuple i k f) (.Call (.Name "zip" p) [a,b] [] pos) (GX X.K z):=by
 intro j s Z H R I h;refine Call_ (Tp I N hm zp (j7 (Zo (M pos j s Z H _ I h) λV v ⟨S,B,d,E,L⟩=>?_) (by rw[F,c]) (by rw[c];rfl)));obtain⟨K,D,b1,O,e,⟨P,G⟩,⟨Q,J⟩,q⟩:=L;subst e;cases E with
 |cons r o =>
  cases o with
  |cons C o =>
   cases o;cases r;cases C;obtain⟨y,U,n⟩:=d.sqX G;obtain⟨u,W,m⟩:=d.sqX J;refine yi n m λT w t l hi1 hi2 hk=>?_;refine gR w ?_;have A:=d.kept (t':=v.toks) hk;refine⟨_,_,_,_,B,rfl,A,yc b1 O _ _ _ _ _ K D (yh n.lt m.lt) (qB7 n.lt) (qB7 (qF1 m.lt)),⟨w,t,⟨_,_,l⟩,hi1,hi2⟩,λb x=>?_,q⟩;have g:v.heap.objs.size<=b:=by
    simp only[qA9,qD3,or_false]at x;rcases x with rfl|rfl|rfl|rfl|rfl
    .exact qL4 _ _
    .exact qL4 _ _
    .exact qL4 _ _
    .exact qA7 _
    .exact qL4 _ _
   exact d.fpOk g (d.hok.fresh g)
end
section
variable {X:Cx}{pins:yD}{Z:St}{H:Hp}{s:yS}{scope:jR}{N:yH}{C:yR}{ex:yC}
theorem ya{elt iter w:yZ}{f:yE}{pos pos' c:Pos}{G:Str}{A:TG}(F:PG X (.Name G pos') A)(K:wS (.ListComp elt [⟨w,iter,f,0⟩] scope pos) (Z9 (.Name G pos')) c.line X.env=pure Z7){W:TI}{g:TG}{tc:TT}{V:TE}{k:Nat}{js:List Nat}
  (u:RN X scope N k js) (hi:PI X w iter W)
  (hg:∀cl s H C ex,PG (WQ X scope N cl s H C ex) w g) (J:∀cl s H C ex,Te (WQ X scope N cl s H C ex) f tc) (y:∀cl s H C ex,PE (WQ X scope N cl s H C ex) elt V)
  (hs:∀x,vF iter X.env x=pure x:=by intro _;rfl):PS X (.Assign [.Name G pos'] (.ListComp elt [⟨w,iter,f,0⟩] scope pos) c) (Wo (LJ W k js g tc V) A):=by
 intro d s Z H D0 I h;rw[exec_Assign_Name_used _ _ _ _ K];refine yO (mK (yO ?_));refine yO (jL (gJ rfl hs (Os λx hx=>I.ok.has x (u.free x hx)) u.kind u.names (Zo (hi d s Z H _ I h) λv s1 h1=>Zo h1 λitv O h2=>?_)) (λ_ s' hq=>yP (yP hq)) λ_ _ e=>e);obtain⟨it,fp,tn,JJ,H2,e,B,T,D,p,hW⟩:=h2;subst e;refine Hb (Q:=λx H1=>A x Z H1 D0.nx) u B T D p hg J y hW λcl C S r l hDC i q=>?_;obtain⟨m,t,_⟩:=id i.loc;have L:S C=Z8:=i.free;have IA:=B.call' (s':=r) i.os i.base i.hok i.bare (λb a=>⟨(p b a).2.2.2.1,(p b a).2.1,(p b a).2.2.2.2.1,(p b a).2.2.2.2.2⟩);have R:∀{Y:Hp},Y C=Z8->∀b∈[C],Yf X d Y b:=λt b a=>by
  have:=by simpa using a
  subst this;exact B.fpOk l t
 have P:∀b∈[C],∃o,r.heap.get? b=Z9 o/\∀v,o.data≠.cell v:=λb a=>by
  have:=by simpa using a
  subst this;obtain⟨o,_,_,ho,hd,_⟩:=id t;exact⟨o,ho,λv z=>by rw[hd]at z;cases z⟩
 have IB:=IA.pinned (R L) P;refine Zo (F _ r Z S (.ref O.heap.objs.size) (.ref O.heap.objs.size) _ IB rfl q) λ_ s6 ⟨Z6,H6,U,q6⟩=>?_;obtain⟨oc,j,_⟩:=P C (by simp);have n:=U.pin (C,oc) (qC4 _ (qC4 _ (QU (by simp) j)));refine⟨m,t.at' λo e=>?_,λh' E=>⟨Z6,H6,?_,q6⟩⟩
 .have M:r.heap.get? C=Z9 o:=e;rw[j]at M;cases M;exact n.1
 .exact U.unpinned.turnedL (R n.2.1) λb o nb e=>E.extBut b o (by simpa using nb) e
end
abbrev GW(h:jE)(T:yR)(a b c:yU):Prop:=h.get? T=Z9 { cls:=.type "tuple",data:=.seq #[a,b,c] }
structure x5(z TI TO i1 i2 i3:yR)(f1 f2 f3:yC):Prop where
 TIz:TI≠z
 TOz:TO≠z
 i1z:i1≠z
 i2z:i2≠z
 i3z:i3≠z
 TITO:TI≠TO
 TIi1:TI≠i1
 TIi2:TI≠i2
 TIi3:TI≠i3
 TOi1:TO≠i1
 TOi2:TO≠i2
 TOi3:TO≠i3
 z1:z∉f1
 z2:z∉f2
 z3:z∉f3
 O1:TO∉f1
 O2:TO∉f2
 O3:TO∉f3
 a12:i1∉f2
 a13:i1∉f3
 a21:i2∉f1
 a23:i2∉f3
 a31:i3∉f1
 a32:i3∉f2
inductive xZ(K:yQ)(H:Hp)(a b c:yR)(i:Nat):Prop
 |mk (xs ys us:List V) (x y u:V) (q1:YA K H a xs) (q2:Zg K H b ys) (q3:Zg K H c us) (ex:xs[i]?=Z9 x) (ey:ys[i]?=Z9 y) (eu:us[i]?=Z9 u)
inductive xY(K:yQ)(H:Hp)(a b c:yR)(i:Nat):Prop
 |mk (xs ys us:List V) (q1:YA K H a xs) (q2:Zg K H b ys) (q3:Zg K H c us) (ei:i=min xs.length (min ys.length us.length))
structure Oj(z TI TO i1 i2 i3 l1 l2 l3:yR)(i:Nat)(h:jE):Prop where
 a1:mN h z TI TO .none
 a2:GW h TI (.ref i1) (.ref i2) (.ref i3)
 a3:∃a b c,GW h TO a b c
 a4:Wi Z5 h i1 l1 i
 a5:Wi Z7 h i2 l2 i
 a6:Wi Z7 h i3 l3 i
section
variable {z TI TO i1 i2 i3 l1 l2 l3:yR}{i:Nat}{h:jE}
theorem Oj.obj(st:Oj z TI TO i1 i2 i3 l1 l2 l3 i h):∀b∈[z,TI,TO,i1,i2,i3],∃o,h.get? b=Z9 o/\∀v,o.data≠.cell v:=by obtain⟨_,_,_,a⟩:=st.a3;exact XR ⟨_,st.a1,λv q=>by cases q⟩ (XR ⟨_,st.a2,λv q=>by cases q⟩ (XR ⟨_,a,λv q=>by cases q⟩ (XR st.a4.obj (XR st.a5.obj (XR st.a6.obj allN)))))
theorem Oj.ne(st:Oj z TI TO i1 i2 i3 l1 l2 l3 i h){T:yR}(c:h.objs.size<=T):∀b∈[z,TI,TO,i1,i2,i3],b≠T:=λb a=>by obtain⟨o,e,_⟩:=st.obj b a;exact qB7 (qB3 (qB0 e) c)
inductive gg(X:Cx)(s:yS)(H:Hp)(l1 l2 l3:yR)(i:Nat):Prop
 |mk (xs ys us:List V) (x y u:V) (t1 t2 t3:yB) (u1 u2 u3:yU) (q1:YA X.K H l1 xs) (q2:Zg X.K H l2 ys) (q3:Zg X.K H l3 us) (ex:xs[i]?=Z9 x) (ey:ys[i]?=Z9 y) (eu:us[i]?=Z9 u)
  (p1:VI Z5 s.heap l1 t1.toArray) (p2:VI Z7 s.heap l2 t2.toArray) (p3:VI Z7 s.heap l3 t3.toArray) (e1:t1[i]?=Z9 u1) (e2:t2[i]?=Z9 u2) (e3:t3[i]?=Z9 u3) (r1:ZK x u1) (r2:ZK y u2) (r3:ZK u u3)
variable {X:Cx}{pins:yD}{Z:St}{H:Hp}{s:yS}
end
section
variable {X:Cx}
theorem ZO.rev{xs:List V}{a:yB}(r:ZO xs a):ZO xs.reverse a.reverse:=by
 induction r with
 |nil=>exact .nil
 |cons r t b=>rw[qK6,qK6];exact b.append (.cons r .nil)
theorem QF:∀{b:yB}{a:yA},vR b a->ZO (a.map V.int) b
 |_,_,h=>by
  induction h with
  |nil=>exact .nil
  |cons _ _ _ c=>exact .cons ⟨_,rfl⟩ c
theorem xX:Ys X (.builtin "sorted") (λv H Q=>∃(p:yR) (c:yA),v=[.ref p]/\YA X.K H p (c.map V.int)/\c.length<64/\∀(l:yR) (f:yA),H l=Z8->f.Perm c->f.Pairwise (·<=·)->Q (.ref l) (ZD H l (.lst (f.map V.int)))):=by intro j s Z H B D Q I r h;obtain⟨p,c,rfl,k,w,q⟩:=h;obtain⟨u,rfl,x⟩:=Xv r;cases x;obtain⟨d,g,n,C⟩:=I.list k;have a:=g.length;rw[qA3]at a;refine sorted_ints n.isList (OC g) (by omega) λout t m i z=>?_;obtain⟨e,A⟩:=sortedAll_at s.heap d out;have y:=i.length_eq;refine⟨.ref (s.heap.objs.size+1),_,I.laid (t':=s.toks) (λb o e=>sortedAll_old e) (qN6 _) ?_,rfl,q _ _ (I.hok.fresh (qN6 _)) i z⟩;exact⟨by rw[qA3,y];exact qC6 (qH0 w) (by decide),out.toList,e,QF m,by simpa using A⟩
theorem GV(a:yA):∀k,k<=a.length->lY (λi=>a.getD i 0) k=(a.take k).sum
 |0,_=>by simp[lY]
 |k+1,h=>by
  rw[qQ6,qA6 (by omega),qS2];show lY (λi=>a.getD i 0) k+a.getD k 0=_;rw[GV a k (by omega)];have:k<a.length:=by omega
  simp[this]
theorem xW(E:X.calm=Z7):Ys X (.builtin "sum") (λM H Q=>∃(p:yR) (a:yA),M=[.ref p]/\YA X.K H p (a.map V.int)/\(∀n∈a,0<=n/\n<=1000000)/\a.length<=1000000/\Q (.int a.sum) H):=by
 intro C s Z H P U Q I r h;obtain⟨p,a,rfl,G,B,W,q⟩:=h;obtain⟨u,rfl,w⟩:=Xv r;cases w;obtain⟨f,x,l,R⟩:=I.list G;have g:p<s.heap.objs.size:=by obtain⟨_,e,_⟩:=l.isList;exact qB0 e
 have c:=x.length;rw[qA3]at c;have O:∀k,k<=a.length->0<=lY (λi=>a.getD i 0) k/\lY (λi=>a.getD i 0) k<=1000000*k:=by
  intro k
  induction k with
  |zero=>intro _;simp[lY]
  |succ k Y =>
   intro hk;have K:=B (a.getD k 0) (by simp only[qF4];rw[qA6 (by omega)];exact qD7 _);show 0<=lY _ k+a.getD k 0/\lY _ k+a.getD k 0<=_;omega
 refine call_sum_walk (jY l.isList ?_);refine⟨s.heap.objs.size,_,[s.heap.objs.size],_,_,_,λi=>a.getD i 0,rfl,Walks.list (A:=X.A.in1) (I.ok.hd E) s.heap.objs.size p (qB7 g) f.toArray,⟨⟨_,qB1 _ rfl,rfl,rfl⟩,l.isList.push _⟩,λb z=>?_,λi v L=>?_,λj F=>?_,λT N t' J=>?_⟩
 .rw[mT];simp only[qA9,qD3,or_false]at z;rcases z with rfl|rfl
  .exact qJ8 _
  .exact qF1 g
 .have d:=by simpa using L
  have D:i<a.length:=by have:=(qA1.mp d).1;omega
  obtain⟨u,e,w⟩:=ZO.get x (by rw[qB2,qA6 D];rfl);rw[e]at d;cases d;obtain⟨t,rfl⟩:=w;exact⟨t,by simp[qF4,D]⟩
 .have m:j<a.length:=by rw[qB5]at F;omega
  have S:=O (j+1) (by omega);have K:=B (a.getD j 0) (by simp only[qF4];rw[qA6 m];exact qD7 _);dsimp only;refine⟨?_,?_⟩<;>(unfold InLong;omega)
 .have e:lY (λi=>a.getD i 0) f.toArray.size=a.sum:=by rw[qB5,<- c,GV a _ (qA7 _),qI7]
  rw[e];refine⟨.int a.sum,H,?_,⟨_,rfl⟩,q⟩;exact I.kept (t':=N) λb o y=>J b o (by simp only[qB8];exact qB7 (qB0 y)) (qA4 _ y)
theorem GU{A:jC}{prog:y4}{w:jD}{b:yA}{c:yB}(r:ZO (b.map V.int) c):TruthOf prog w A (λi v=>c.toArray[i]?=Z9 v) (λi=>(b.map (· != 0)).getD i Z5):=by
 intro i v s Q E k g;have a:=by simpa using k
 have f:i<b.length:=by have m:=(qA1.mp a).1;have j:=r.length;rw[qA3]at j;omega
 obtain⟨u,e,l⟩:=ZO.get r (by rw[qB2,qA6 f];rfl);rw[e]at a;cases a;obtain⟨t,rfl⟩:=l;have h:(b.map (· != 0)).getD i Z5=(b[i] != 0):=by simp[qF4,f]
 have d:Q ((b.map (· != 0)).getD i Z5) s:=g;rw[h]at d;exact PyProof.Rows.truthy_int d
theorem xV(m:X.calm=Z7):Ys X (.builtin "all") (λw H Q=>∃(p:yR) (a:yA),w=[.ref p]/\Zg X.K H p (a.map V.int)/\Q (.bl (a.all (· != 0))) H):=by
 intro l s Z H z D Q I r h;obtain⟨p,a,rfl,n,q⟩:=h;obtain⟨u,rfl,y⟩:=Xv r;cases y;obtain⟨f,j,v,B⟩:=I.tuple n;have d:=v;have g:p<s.heap.objs.size:=by obtain⟨_,e,_⟩:=d;exact qB0 e
 have c:=j.length;rw[qA3]at c;refine call_all_walk (jU d ?_);refine⟨s.heap.objs.size,_,[s.heap.objs.size],_,_,_,_,rfl,Walks.tuple (A:=X.A.in1) (I.ok.hd m) s.heap.objs.size p (qB7 g) f.toArray,⟨⟨_,qB1 _ rfl,rfl,rfl⟩,d.push _⟩,GU j,λC x t=>?_⟩;have e:(List.range f.toArray.size).all (λi=>(a.map (· != 0)).getD i Z5)=a.all (· != 0):=by rw[qB5,<- c,show a.length=(a.map (· != 0)).length by simp,G9,qQ4];rfl
 rw[e];refine⟨.bl (a.all (· != 0)),H,?_,rfl,q⟩;exact I.kept (t':=x) λb o k=>t b o (by simp only[qB8];exact qB7 (qB0 k)) (qA4 _ k)
theorem xU(m:X.calm=Z7):Ys X (.builtin "any") (λw H Q=>∃(p:yR) (a:yA),w=[.ref p]/\Zg X.K H p (a.map V.int)/\Q (.bl (a.any (· != 0))) H):=by
 intro l s Z H z D Q I r h;obtain⟨p,a,rfl,n,q⟩:=h;obtain⟨u,rfl,y⟩:=Xv r;cases y;obtain⟨f,j,v,B⟩:=I.tuple n;have d:=v;have g:p<s.heap.objs.size:=by obtain⟨_,e,_⟩:=d;exact qB0 e
 have c:=j.length;rw[qA3]at c;refine call_any_walk (jU d ?_);refine⟨s.heap.objs.size,_,[s.heap.objs.size],_,_,_,_,rfl,Walks.tuple (A:=X.A.in1) (I.ok.hd m) s.heap.objs.size p (qB7 g) f.toArray,⟨⟨_,qB1 _ rfl,rfl,rfl⟩,d.push _⟩,GU j,λC x t=>?_⟩;have e:(List.range f.toArray.size).any (λi=>(a.map (· != 0)).getD i Z5)=a.any (· != 0):=by rw[qB5,<- c,show a.length=(a.map (· != 0)).length by simp,G8,qQ5];rfl
 rw[e];refine⟨.bl (a.any (· != 0)),H,?_,rfl,q⟩;exact I.kept (t':=x) λb o k=>t b o (by simp only[qB8];exact qB7 (qB0 k)) (qA4 _ k)
theorem xT:RQ X "int.bit_length" (λx b H Q=>∃i:Int,x=.int i/\b=[]/\Q (.int ((Builtin.Int.intBits i:Nat):Int)) H):=by intro a s Z H x e v d Q I c rs h;obtain⟨i,rfl,rfl,q⟩:=h;obtain⟨t,rfl⟩:=c;have:=rs.zero;subst this;exact call_int_bit_length ⟨.int _,H,I.tok _,⟨_,rfl⟩,q⟩
end
def LB(h:jE)(d:yR)(es:Array fV)(a:Nat):Prop:=∃o,h.get? d=Z9 o/\o.cls=.type "dict"/\o.data=.dict es a
section
variable {prog:y4}{w:jD}{A:jC}{E:yL}{s:yS}{z TI TO:yR}{f0:yU}
theorem GT:isSubtype (.type "AttributeError") (.type "AttributeError")=pure Z7:=by kernel_rfl
end
section
variable {prog:y4}{w:jD}{A:jC}{z TI TO i1 i2 d:yR}{f1 f2:yC}{n1 n2:Nat}{P1 P2:Nat->yU->Prop}{S1 S2:Nat->jE->Prop}
theorem GS:entryFor table "dict.update.loop"=Z9 Builtin.«dict.update.loop»:=by kernel_rfl
theorem GR(a:Args):(Code.builtin "dict.update.loop" a).quiet=Z7:=by kernel_rfl
end
section
variable {prog:y4}{w:jD}{A:jC}{E:yL}{s:yS}{it d:yR}{i ep:Nat}{es:Array fV}
theorem xS{e:fV}{Q:yF->yS->Prop}(f:s.heap.IsKeyIter it d i es.size ep)(l:LB s.heap d es ep)(m:es[i]?=Z9 e)
  (n:∀h',h'.IsKeyIter it d (i+1) es.size ep->qH7 it s.heap h'->Q (Z9 e.key) { s with heap:=h' }):y7 (yW prog w) A (pyNext (.ref it)) Q E s:=by
 have b:=f.typeIs;obtain⟨o,k,p,h⟩:=id f;obtain⟨r,c,_,a⟩:=l;refine yO (vM (jM b vJ (jN vJ b fJ ?_ (fG _))));refine yO (yP (yO (yO (yO (vD b (yP (yO (wpAny_fieldsOf k h ?_))))))));refine yO (yP (yO (gG c a ?_)));rw[if_neg (by simp)];refine yO (yP (yO (lH c a ?_)));rw[if_neg (by simp)];refine yP ?_;have q:¬((i:Int)<0):=by omega
 simp only[q,if_false,qF2,m];refine yO (yO (vD b (yP (yO (lJ b ?_)))));show y7 _ _ (setField (.ref it) 1 (vI (i+1)) >>= _) _ _ s;refine yO (wH k h (by simp) ?_);have g:(s.heap.update it (j8 (·.setIfInBounds 1 (vI (i+1))))).IsKeyIter it d (i+1) es.size ep :=
  ⟨_,qE8 _ k (jZ (jQ h _)),(gE ..).trans p,by rw[jQ h];simp[vI]⟩
 have j:Shared.TypeIs { s with heap:=s.heap.update it (j8 (·.setIfInBounds 1 (vI (i+1)))) } (.ref it) "dict_keyiterator":=g.typeIs;refine yO (jO (yO (lJ j ?_)));exact yP (yP ⟨_,rfl,yP (n _ g (qH7.update ..))⟩)
theorem Lz{Q:yF->yS->Prop}(m:A.handled=Z8)(c:s.heap.IsKeyIter it d i es.size ep)(h:LB s.heap d es ep)(j:es[i]?=Z8)
  (k:∀h',Heap.ExtBut it s.heap h'->Q Z8 { s with heap:=h' }):y7 (yW prog w) A (pyNext (.ref it)) Q E s:=by
 have e:=c.typeIs;obtain⟨o,g,p,f⟩:=id c;obtain⟨n,b,_,a⟩:=h;refine yO (vM (jM e vJ (jN vJ e fJ ?_ (fG _))));refine yO (yP (yO (yO (yO (vD e (yP (yO (wpAny_fieldsOf g f ?_))))))));refine yO (yP (yO (gG b a ?_)));rw[if_neg (by simp)];refine yO (yP (yO (lH b a ?_)));rw[if_neg (by simp)];refine yP ?_;have l:¬((i:Int)<0):=by omega
 simp only[l,if_false,qF2,j];refine yO (yO (vD e (yP ?_)));refine yO (wH (i:=0) g f (by simp) ?_);refine wpAny_raiseNew_none m ?_;refine yO (fF ⟨_,qB1 _ rfl,rfl⟩ isSubtype_stop ?_);exact yP (k _ (((qH7.update ..).extBut.push _).push _))
theorem xR{Q:yL}(lo:(d == vN)=Z5)(e:LB s.heap d es ep)
  (f:Q (.ref s.heap.objs.size) { s with heap:=s.heap.push { cls:=.type "dict_keyiterator",data:=.fields #[.ref d,.int 0 0,.int es.size 0,.int ep 0] } }):y7 (yW prog w) A (pyIter (.ref d)) Q E s:=by
 obtain⟨o,c,g,a⟩:=e;have b:s.TypeIs (.ref d) "dict":=⟨o,c,g⟩
 refine wpAny_pyIter_slot b F.slot_dict_iter (jN F.slot_dict_iter b F.entry_dict_iter ?_ (F.args_dict_iter_1 _));refine yO (yO (lK b (yO (yP (yP ?_)))));refine yO (yP ?_);unfold Builtin.Dict.showsAll;rw[if_neg (by rw[lo];exact qB4)];refine yO (yP (yO (gG c a (yO (lH c a ?_)))));refine yO (j9 (yP ⟨_,rfl,"dict_keyiterator",_,⟨_,qB1 _ rfl,rfl⟩,F.slot_dict_keyiterator_next.lookup,?_⟩));simpa[vI]using f
end
theorem Oi{α a:Type}{R:α->a->Prop}{xs:List α}{ys:List a}(r:lM R xs ys):∀{i:Nat}{y:a},ys[i]?=Z9 y->∃x,xs[i]?=Z9 x/\R x y:=by
 induction r with
 |nil=>intro i y e;simp at e
 |cons h t b =>
  intro i y e;cases i with
  |zero=>simp at e;subst e;exact⟨_,rfl,h⟩
  |succ i=>exact b (by simpa using e)
noncomputable def one(a:yA)(z:Int):yA:=if z∈a then a else z::a
theorem ZR.dr{X:Cx}{a:yD}{Z:St}{H:Hp}{s:yS}(I:ZR X a Z H s)(d:Drawn):ZR X a Z H { s with drawn:=d } :=
 ⟨I.ok,I.os,I.bare,I.base,I.loc,I.cell,I.free,I.freeC,I.pin,I.hok,I.len⟩
section
variable {prog:y4}{w:jD}{A:jC}{E:yL}{s:yS}{r:yR}
theorem xQ{Q:yL}{i:yA}(B:i.length<64)
  (q:∀(A:jC) (E:yL) (R:yB->yS->Prop),A.handled=Z8->(∀(h':jE) (tk:Nat) (dr:Drawn) (a:yB) (d:yA),(∀b o,s.heap.get? b=Z9 o->h'.get? b=Z9 o)->vR a d->d.Perm i->R a { s with heap:=h',toks:=tk,drawn:=dr })->y7 (yW prog w) A (collect (.ref r)) R E s)
  (z:A.handled=Z8)
  (h:∀(k:jE) (l:yR) (h':jE) (tk:Nat) (dr:Drawn) (e:Nat) (a:yB) (d:yA),(∀b o,s.heap.get? b=Z9 o->k.get? b=Z9 o)->(∀b o,k.get? b=Z9 o->h'.get? b=Z9 o)->k.objs.size<=l->h'.get? l=Z9 (wI "list" a.toArray e)->vR a d->d.Perm i->d.Pairwise (·<=·)->Q (.ref l) { s with heap:=h',toks:=tk,drawn:=dr }) :
  y7 (yW prog w) A (call (.builtin "sorted") [.ref r]) Q E s:=by
 refine gC kind_sorted plain_sorted entry_sorted (args_sorted1 _) ?_;unfold Builtin.«sorted»;refine yO (m:=checkCount "sorted" 1 1 _) (yP ?_);refine yO (q _ _ _ z λh' tk dr a d hk p j=>?_);have f:a.length=i.length:=by
  rw[<- j.length_eq];clear hk j
  induction p with
  |nil=>rfl
  |cons _ _ _ v=>simp[v]
 refine yO (gK ?_ (by rw[f,wF];omega));have c:(h'.push (wI "list" a.toArray 0)).get? h'.objs.size=Z9 (wI "list" a.toArray 0):=qB1 _ rfl;show y7 _ _ _ _ _ { s with heap:=h'.push (wI "list" a.toArray 0),toks:=tk,drawn:=dr };refine yO (jO (jN slot_list_sort ⟨_,c,rfl⟩ entry_list_sort (list_sort_tree c p (by omega) λout n t x u=>⟨_,rfl,?_⟩) (args_list_sort _)));obtain⟨e,y⟩:=sortedHeap_at (out:=out) c;refine yP ⟨_,rfl,h h' h'.objs.size _ tk dr e out.toList n hk (λb o g=>?_) (qA7 _) (by simpa using y) t (x.trans j) u⟩;have lt:b<h'.objs.size:=qB0 g;rw[sortedHeap_old (qB7 lt) (by rw[mT];exact qF1 lt)];exact qA4 _ g
end
theorem Oh:∀(b:yB) (a:yA),b.length=a.length->(∀(j:Nat) (v:yU) (n:Int),b[j]?=Z9 v->a[j]?=Z9 n->∃t,v=.int n t)->vR b a
 |[],[],_,_=>.nil
 |[],_::_,h,_=>by cases h
 |_::_,[],h,_=>by cases h
 |u::b,n::a,h,k=>by obtain⟨t,rfl⟩:=k 0 u n rfl rfl;exact .cons n t (Oh b a (by simpa using h) λj v m c d=>k (j+1) v m (by simpa using c) (by simpa using d))
theorem xP{X:Cx}(O:X.calm=Z7):Ys X (.builtin "sorted") (λw H Q=>∃(p:yR) (kvs:List (ZJ×V)) (d:yA),w=[.ref p]/\H p=Z9 (.dK kvs)/\kvs.map (·.1)=d.map Sum.inl/\d.length<64/\∀(l:yR) (m:yA),H l=Z8->m.Perm d->m.Pairwise (·<=·)->Q (.ref l) (ZD H l (.lst (m.map V.int)))):=by
 intro g s Z H xs G Q I r h;obtain⟨p,kvs,d,rfl,T,hk,F,q⟩:=h;obtain⟨u,rfl,ru⟩:=Xv r;cases ru;obtain⟨hz,lo,w,D,dd⟩:=QL I.hok T;obtain⟨ep,B⟩:=dd.dictAt;have J:w.length=d.length:=by rw[<- Paired.length D,<- qA3,hk,qA3]
 refine xQ F (λA E R hA hR=>W.kdu_collect (W.kdl_dict lo) hA B (by rw[J,wF];omega) λY tk acc y a=>hR Y tk s.drawn _ d y ?_ (.refl _)) (I.ok.hd O) λU S h3 c dr e G m k2 k3 L g3 hi f N=>?_
 .refine Oh _ _ (by rw[vL,a.1,J]) λj v n e1 P=>?_;obtain⟨k,x,e3,M⟩:∃k x,w[j]?=Z9 (k,x)/\(Yw X.prog X.w).is k v=Z7:=a.2 j v (by rw[<- vS];exact e1);obtain⟨q1,e5,e6,_⟩:=Oi D e3;have K:(kvs.map (·.1))[j]?=Z9 k:=by rw[qB2,e5];exact congrArg Z9 e6
  rw[hk,qB2,P]at K;cases K;cases v<;>first|exact absurd M qB4|skip
  rename_i i t;have:=by simpa[Yw,U4,Value.isInt]using M
  subst this;exact⟨t,rfl⟩
 .have C:ZR X g Z H { s with heap:=U,toks:=c,drawn:=dr }:=(I.kept (t':=c) λb o e=>k2 b o e).dr dr;refine⟨.ref S,_,C.laid (t':=c) k3 L ?_,rfl,q _ _ (C.hok.fresh L) f N⟩;have z:m.length<64:=by rw[f.length_eq];exact F
  exact⟨by rw[qA3];exact qC6 (qH0 z) (by decide),G,e,QF hi,by simpa using g3⟩
structure Ym(lt:yV->yV->Bool):Prop where
 as:∀x y,lt x y=Z7->lt y x=Z5
 tr:∀x y z,lt y x=Z5->lt z y=Z5->lt z x=Z5
theorem Ym.flip{lt:yV->yV->Bool}(h:Ym lt):Ym λx y=>lt y x :=
 ⟨λx y e=>h.as y x e,λx y z a b=>h.tr z y x b a⟩
theorem Ym.rf{lt:yV->yV->Bool}(h:Ym lt)(x:yV):lt x x=Z5:=by
 cases e:lt x x with
 |false=>rfl
 |true=>exact e.symm.trans (h.as x x e)
abbrev Y6(lt:yV->yV->Bool)(l:yI):Prop:=l.Pairwise λx y=>lt y x=Z5
structure Zn(lt:yV->yV->Bool)(a b ra rb out:yI):Prop where
 pm:(out++(ra++rb)).Perm (a++b)
 so:Y6 lt out
 sa:Y6 lt ra
 sb:Y6 lt rb
 la:∀x∈out,∀y∈ra,lt y x=Z5
 lb:∀x∈out,∀y∈rb,lt y x=Z5
section
variable {lt:yV->yV->Bool}{a b ra rb out xs:yI}{x:yV}
theorem Zn.swap(h:Zn lt a b ra rb out):Zn lt b a rb ra out :=
 ⟨((List.Perm.refl out).append qI1).trans (h.pm.trans qI1),h.so,h.sb,h.sa,h.lb,h.la⟩
theorem Zn.push(h:Zn lt a b (xs++ra) rb out)(k:∀x∈xs,∀y∈rb,lt y x=Z5):Zn lt a b ra rb (out++xs):=by
 obtain⟨n,i,f,sb,e,g⟩:=h;obtain⟨l,j,m⟩:=qC2.mp f;refine⟨?_,qC2.mpr ⟨i,l,λx c y d=>e x c y (qE9 _ d)⟩,j,sb,λx c y d=>?_,λx c y d=>?_⟩
 .simp_all
 .rcases qB9.mp c with c|c
  .exact e x c y (qC4 _ d)
  .exact m x c y d
 .rcases qB9.mp c with c|c
  .exact g x c y d
  .exact k x c y d
structure Mg(lt:yV->yV->Bool)(a b out:yI):Prop where
 pm:out.Perm (a++b)
 so:Y6 lt out
theorem Zn.fin(h:Zn lt a b ra [] out):Mg lt a b (out++ra) :=
 ⟨by simpa using h.pm,qC2.mpr ⟨h.so,h.sa,h.la⟩⟩
theorem Zn.last(h:Zn lt a b [x] rb out)(k:∀y∈rb,lt x y=Z5):Mg lt a b (out++rb++[x]):=by
 refine⟨?_,qC2.mpr ⟨qC2.mpr ⟨h.so,h.sb,h.lb⟩,qE5 ..,λu c v d=>?_⟩⟩
 .rw[qC0];exact((List.Perm.refl out).append qI1).trans h.pm
 .have e:=qB8.mp d;subst e;rcases qB9.mp c with c|c
  .exact h.la u c v (qI8 _)
  .exact k u c
theorem Y6.rev(h:Y6 (λx y=>lt y x) out):Y6 lt out.reverse:=by grind
end
noncomputable def gallop':Bool->yV->Array yV->Nat->Nat->Nat->StateT jF Sem (yK):=sortPriv% PySem.Builtin.gallop
noncomputable def mergeLo':Array yV->Array yV->StateT jF Sem (Array yV):=sortPriv% PySem.Builtin.mergeLo
noncomputable def mergeHi':Array yV->Array yV->StateT jF Sem (Array yV):=sortPriv% PySem.Builtin.mergeHi
noncomputable def bq(lt:yV->yV->Bool)(left:Bool)(a x:yV):Bool:=if left then lt x a else !lt a x
def YP(prog:y4)(w:jD)(A:jC)(s:yS)(a:wA)(lt:yV->yV->Bool)(G:yV->Prop):Prop :=
 ∀x y,G x->G y->∀Q:Bool->yS->Prop,Q (lt x y) s->y7 (yW prog w) A (keyLt' a x.1 y.1) Q (λ_ _=>False) s
section
variable {prog:y4}{w:jD}{A:jC}{E:yL}{s:yS}{κ:wA}{lt:yV->yV->Bool}{G:yV->Prop}{st:jF}
theorem QE{x y:yV}{Q:Option Bool->jF->Prop}(d:YP prog w A s κ lt G)(hk:kindOf st=κ)(c:G x)(f:G y)(h:Q (Z9 (lt x y)) st):wpS (yW prog w) A E s (lt' x y) Q st:=by rw[lt'_eq];refine yT (fT ?_);rw[hk];refine yT (f8 (vM (jL (d x y c f (λb a=>a=s/\b=lt x y) ⟨rfl,rfl⟩) (λb a e=>?_) λ_ _ x=>x.elim)));obtain⟨rfl,rfl⟩:=e;exact⟨rfl,yY h⟩
theorem Xu{a:Array yV}{i:Nat}{x:yV}{Q:yV->jF->Prop}(b:a[i]?=Z9 x)(h:Q x st):wpS (yW prog w) A E s (mO a i) Q st:=by rw[elem'_eq,b];exact yY h
theorem xO{left:Bool}{a x:yV}{b:Array yV}{i:Nat}{Q:Option Bool->jF->Prop}(d:YP prog w A s κ lt G)(hk:kindOf st=κ)(f:b[i]?=Z9 x)(c:G x)(e:G a)(h:Q (Z9 (bq lt left a x)) st):
  wpS (yW prog w) A E s (do let x <- mO b i;if left then lt' x a else return (<- lt' a x).map (!·)) Q st:=by
 refine yT (Xu f ?_);cases left with
 |true=>exact QE d hk c e h
 |false=>exact yT (QE d hk e c (yY h))
def Ta(P:Nat->Bool)(n x:Nat)(c:Option (yK)×Nat×Nat)(d st:jF):Prop:=d=st/\∃b a,c=(Z8,b,a)/\b<=a/\a<=n/\a - b<=n - x/\(∀i,i<b->P i=Z7)/\(∀i,a<=i->i<n->P i=Z5)
theorem GQ{P:Nat->Bool}{n:Nat}{m:Nat->StateT jF Sem (Option Bool)}(bey:∀{i:Nat}{R:Option Bool->jF->Prop},i<n->R (Z9 (P i)) st->wpS (yW prog w) A E s (m i) R st)
  {c:Option (yK)×Nat×Nat} (h:Ta P n 0 c st st) (hm:∀i j,i<=j->j<n->P j=Z7->P i=Z7) :
  wpS (yW prog w) A E s (forIn [:n] c λ_ c=>if c.2.1≥c.2.2 then pure (ForInStep.done (Z8,c.2.1,c.2.2))else m (c.2.1+(c.2.2 - c.2.1) / 2) >>= λr=>match r with
   |some more=>if more=Z7 then pure (ForInStep.yield (Z8,c.2.1+(c.2.2 - c.2.1) / 2+1,c.2.2))else pure (ForInStep.yield (Z8,c.2.1,c.2.1+(c.2.2 - c.2.1) / 2))
   | _=>pure (ForInStep.done (Z9 Z8,c.2.1,c.2.2)))
   (λc a=>a=st/\∃k,c=(Z8,k,k)/\k<=n/\(∀i,i<k->P i=Z7)/\(∀i,k<=i->i<n->P i=Z5)) st:=by
 refine jT (I:=λx c a=>Ta P n x c a st) ?_ ?_ h
 .rintro x c a _ y ⟨rfl,b,hi,rfl,t,g,v,f,l⟩;dsimp only;by_cases d:b≥hi
  .rw[if_pos d];have e:b=hi:=by omega
   subst e;exact yY ⟨rfl,b,rfl,g,f,l⟩
  .rw[if_neg d];refine yT (bey (by omega) ?_);cases e:P (b+(hi - b) / 2)with
   |true=>exact yY ⟨rfl,_,_,rfl,by omega,g,by omega,λi u=>hm i _ (by omega) (by omega) e,l⟩
   |false =>
    refine yY ⟨rfl,_,_,rfl,by omega,by omega,by omega,f,λi q o=>?_⟩;cases p:P i with
    |false=>rfl
    |true=>rw[hm _ i q o p]at e;cases e
 .rintro c a ⟨rfl,b,hi,rfl,t,g,v,f,l⟩;have e:b=hi:=by omega
  subst e;exact⟨rfl,b,rfl,g,f,l⟩
theorem xN{left:Bool}{r:yV}{u:Array yV}{base n f:Nat}{Q:yK->jF->Prop}(P:Nat->Bool)(T:YP prog w A s κ lt G)(hk:kindOf st=κ)(L:G r)(V:f<n)
  (N:∀i,i<n->∃x,u[base+i]?=Z9 x/\G x/\bq lt left r x=P i) (hm:∀i j,i<=j->j<n->P j=Z7->P i=Z7)
  (h:∀k,k<=n->(∀i,i<k->P i=Z7)->(∀i,k<=i->i<n->P i=Z5)->Q (Z9 k) st) :
  wpS (yW prog w) A E s (gallop' left r u base n f) Q st:=by
 have bey:∀{i:Nat}{R:Option Bool->jF->Prop},i<n->R (Z9 (P i)) st->wpS (yW prog w) A E s (do let x <- mO u (base+i);if left then lt' x r else return (<- lt' r x).map (!·)) R st:=by intro i R hi U;obtain⟨x,C,S,e⟩:=N i hi;exact xO T hk C S L (by rw[e];exact U)
 refine yT (bey V ?_);have K:∀{lo hi:Nat},lo<=hi->hi<=n->(∀i,i<lo->P i=Z7)->(∀i,hi<=i->i<n->P i=Z5)->Ta P n 0 (Z8,lo,hi) st st:=λa b c d=>⟨rfl,_,_,rfl,a,b,by omega,c,d⟩
 cases J:P f with
 |true =>
  refine yT (vE (jT (I:=λx c g=>g=st/\∃l o,c=(Z8,l,o)/\l<o/\f+l<n/\x+1<=o/\P (f+l)=Z7)
   (Q:=λc g=>g=st/\∃l o,c=(Z8,l,o)/\l<o/\f+l<n/\P (f+l)=Z7/\(n - f<=o∨f+o<n/\P (f+o)=Z5)) ?_ ?_ ⟨rfl,0,1,rfl,by omega,by omega,by omega,J⟩) ?_)
  .rintro x c g _ C ⟨rfl,l,o,rfl,t,q,F,p⟩;dsimp only;by_cases m:o≥n - f
   .rw[if_pos m];exact yY ⟨rfl,l,o,rfl,t,q,p,.inl m⟩
   .rw[if_neg m];refine yT (bey (by omega) ?_);cases e:P (f+o)with
    |true=>exact yY ⟨rfl,o,2*o+1,rfl,by omega,by omega,by omega,e⟩
    |false=>exact yY ⟨rfl,l,o,rfl,t,q,p,.inr ⟨by omega,e⟩⟩
  .rintro c g ⟨rfl,l,o,rfl,t,q,F,p⟩;exact⟨rfl,l,o,rfl,t,q,p,.inl (by omega)⟩
  .rintro c g ⟨rfl,l,o,rfl,t,q,p,v⟩;refine yT (vE (GQ (bey:=bey) (hm:=hm) (K (lo:=f+l+1) (hi:=f+min o (n - f)) (by omega) (by omega) (λi hi=>hm i (f+l) (by omega) q p) λi M z=>?_)) ?_)
   .rcases v with v|⟨O,y⟩
    .omega
    .cases e:P i with
     |false=>rfl
     |true=>rw[hm (f+o) i (by omega) z e]at y;cases y
   .rintro c g ⟨rfl,k,rfl,B,H,D⟩;exact yY (h k B H D)
 |false =>
  refine yT (vE (jT (I:=λx c g=>g=st/\∃l o,c=(Z8,l,o)/\l<o/\l<=f/\x+1<=o/\P (f - l)=Z5)
   (Q:=λc g=>g=st/\∃l o,c=(Z8,l,o)/\l<o/\l<=f/\P (f - l)=Z5/\(f+1<=o∨o<=f/\P (f - o)=Z7)) ?_ ?_ ⟨rfl,0,1,rfl,by omega,by omega,by omega,J⟩) ?_)
  .rintro x c g _ C ⟨rfl,l,o,rfl,t,q,F,p⟩;dsimp only;by_cases m:o≥f+1
   .rw[if_pos m];exact yY ⟨rfl,l,o,rfl,t,q,p,.inl m⟩
   .rw[if_neg m];refine yT (bey (by omega) ?_);cases e:P (f - o)with
    |false=>exact yY ⟨rfl,o,2*o+1,rfl,by omega,by omega,by omega,e⟩
    |true=>exact yY ⟨rfl,l,o,rfl,t,q,p,.inr ⟨by omega,e⟩⟩
  .rintro c g ⟨rfl,l,o,rfl,t,q,F,p⟩;exact⟨rfl,l,o,rfl,t,q,p,.inl (by omega)⟩
  .rintro c g ⟨rfl,l,o,rfl,t,q,p,v⟩;refine yT (vE (GQ (bey:=bey) (hm:=hm) (K (lo:=f+1 - min o (f+1)) (hi:=f - l) (by omega) (by omega) (λi hi=>?_) λi M z=>?_)) ?_)
   .rcases v with v|⟨O,y⟩
    .omega
    .exact hm i (f - o) (by omega) (by omega) y
   .cases e:P i with
    |false=>rfl
    |true=>rw[hm (f - l) i (by omega) z e]at p;cases p
   .rintro c g ⟨rfl,k,rfl,B,H,D⟩;exact yY (h k B H D)
end
structure Sg(st st':jF):Prop where
 k:kindOf st'=kindOf st
 a:arrOf st'=arrOf st
 p:vH st'=vH st
 f:failedOf st'=failedOf st
theorem Sg.rfl(st:jF):Sg st st:=⟨Eq.refl _,Eq.refl _,Eq.refl _,Eq.refl _⟩
section
variable {lt:yV->yV->Bool}{a b ra rb out xs:yI}{x:yV}
theorem Og(a:yI)(i:Nat):(a.toArray.extract i a.toArray.size).toList=a.drop i:=by simp only[List.extract_toArray];exact qH8 (by simp)
theorem Of(a:yI)(i j:Nat):(a.toArray.extract i j).toList=(a.drop i).take (j - i):=by simp
theorem Oe{a:yI}{i:Nat}(h:i<a.length):a.drop i=[a[i]]++a.drop (i+1):=qE6 h
theorem xM{a:yI}{i j:Nat}(h:i<=j):a.drop i=(a.drop i).take (j - i)++a.drop j:=by
 conv=>lhs;rw[<- qD1 (j - i) (a.drop i)]
 rw[qP1];congr 2;omega
end
theorem UG{lt:yV->yV->Bool}{b:yI}{i:Nat}{x:yV}(c:Ym lt)(sb:Y6 lt b)(hi:i<b.length)(h:lt b[i] x=Z5):∀y∈b.drop i,lt y x=Z5:=by
 intro y a;rw[Oe hi]at a;rcases qB9.mp a with a|a
 .rw[qB8.mp a];exact h
 .have d:Y6 lt ([b[i]]++b.drop (i+1)):=by rw[<- Oe hi];exact sb.sublist (qH4 ..)
  exact c.tr x b[i] y h ((qC2.mp d).2.2 _ (qI8 _) y a)
section
variable {lt:yV->yV->Bool}{a b:yI}{ia ib k:Nat}{out:Array yV}
theorem xK(h:Zn lt a b (a.drop ia) (b.drop ib) out.toList)(c:ia<=a.length)(d:ib<=b.length):out.size=ia+ib:=by have e:=h.pm.length_eq;simp at e;omega
theorem QD(h:Zn lt a b (a.drop ia) (b.drop ib) out.toList)(e:ib=b.length∨ia=a.length):Mg lt a b (out++a.toArray.extract ia a.toArray.size++b.toArray.extract ib b.toArray.size).toList:=by
 rw[jJ,jJ,Og,Og];rcases e with rfl|rfl
 .rw[qL5]at h ⊢;simpa using h.fin
 .rw[qL5]at h ⊢;have:=h.swap.fin;exact⟨by simpa using this.pm.trans qI1,by simpa using this.so⟩
theorem Od(h:Zn lt a b (a.drop ia) (b.drop ib) out.toList)(e:ia+1=a.length)(d:∀y∈b,lt (a[a.length - 1]'(by omega)) y=Z5):Mg lt a b (out++b.toArray.extract ib b.toArray.size++a.toArray.extract ia a.toArray.size).toList:=by
 rw[jJ,jJ,Og,Og];have c:a.drop ia=[a[a.length - 1]'(by omega)]:=by rw[Oe (by omega),qK7 (by omega),qF6];congr 2;omega
 rw[c]at h ⊢;exact h.last λy f=>d y (qI3 f)
theorem UF(h:Zn lt a b (a.drop ia) (b.drop ib) out.toList)(d:ia<a.length)(k:∀y∈b.drop ib,lt y a[ia]=Z5):Zn lt a b (a.drop (ia+1)) (b.drop ib) (out.push a[ia]).toList:=by rw[Oe d]at h;rw[Array.toList_push];exact h.push λx c=>by rw[qB8.mp c];exact k
theorem GP(h:Zn lt a b (a.drop ia) (b.drop ib) out.toList)(hk:ia+k<=a.length)(q:∀i,(hi:i<k)->∀y∈b.drop ib,lt y (a[ia+i]'(by omega))=Z5):Zn lt a b (a.drop (ia+k)) (b.drop ib) (out++a.toArray.extract ia (ia+k)).toList:=by
 rw[xM (show ia<=ia+k by omega)]at h;rw[jJ,Of];refine h.push λx d=>?_;obtain⟨i,hi,e⟩:=qH2.mp d;have c:i<k:=by simp at hi;omega
 rw[<- e];simpa using q i c
end
section
variable {lt:yV->yV->Bool}{a b:yI}{ia ib k:Nat}{out:Array yV}
theorem SZ(h:Zn lt a b (a.drop ia) (b.drop ib) out.toList)(c:ib<b.length)(k:∀y∈a.drop ia,lt y b[ib]=Z5):Zn lt a b (a.drop ia) (b.drop (ib+1)) (out.push b[ib]).toList :=
 (UF h.swap c k).swap
theorem xJ(h:Zn lt a b (a.drop ia) (b.drop ib) out.toList)(hk:ib+k<=b.length)(q:∀i,(hi:i<k)->∀y∈a.drop ia,lt y (b[ib+i]'(by omega))=Z5):Zn lt a b (a.drop ia) (b.drop (ib+k)) (out++b.toArray.extract ib (ib+k)).toList :=
 (GP h.swap hk q).swap
structure Wl(lt:yV->yV->Bool)(a b:yI)(ia ib:Nat)(out:Array yV):Prop where
 m:Zn lt a b (a.drop ia) (b.drop ib) out.toList
 i:ia+1<a.length
 j:ib<b.length
theorem xI(g:Ym lt)(m:Y6 lt a)(left:Bool)(c:yV){i j:Nat}(d:i<=j)(o:j<a.length)(h:bq lt left c a[j]=Z7):bq lt left c (a[i]'(by omega))=Z7:=by
 rcases Nat.lt_or_eq_of_le d with f|rfl
 .have e:=qN3.mp m i j (by omega) o f;cases left with
  |true =>
   show lt a[i] c=Z7;cases n:lt a[i] c with
   |true=>rfl
   |false=>exact(g.tr c a[i] a[j] n e).symm.trans h
  |false =>
   have l:=by simpa[bq]using h
   show(!lt c a[i])=Z7;rw[g.tr a[i] a[j] c e l];rfl
 .exact h
end
section
variable {prog:y4}{w:jD}{A:jC}{E:yL}{s:yS}{κ:wA}{lt:yV->yV->Bool}{G:yV->Prop}{st:jF}
noncomputable def setG':Nat->StateT jF Sem Unit:=sortPriv% PySem.Builtin.setMinGallop
theorem GO{g:Nat}{Q:Unit->jF->Prop}(h:∀a,Sg st a->Q () a):wpS (yW prog w) A E s (setG' g) Q st :=
 wJ (h _ ⟨rfl,rfl,rfl,rfl⟩)
theorem WO{a:Type}{c:Prop}{b:Decidable c}{m m':StateT jF Sem a}{Q:a->jF->Prop}(h:c->wpS (yW prog w) A E s m Q st)(h':¬c->wpS (yW prog w) A E s m' Q st):wpS (yW prog w) A E s (if c then m else m') Q st:=by grind
theorem GN{b:Type}{lo hi:Nat}{f f':Nat->b->StateT jF Sem (ForInStep b)}(j:f'=f)(I:Nat->b->jF->Prop){Q:b->jF->Prop}(a:∀i c st,lo<=i->i<hi->I i c st->wpS (yW prog w) A E s (f' i c) (λr e=>match r with|.done g=>Q g e|.yield g=>I (i+1) g e) st)
  (d:∀c st,I (max lo hi) c st->Q c st) {c:b} (h:I lo c st):wpS (yW prog w) A E s (forIn [lo:hi] c f) Q st:=by subst j;exact jT I a d h
theorem Sg.trans{st a st'':jF}(h:Sg st a)(k:Sg a st''):Sg st st'':=⟨k.k.trans h.k,k.a.trans h.a,k.p.trans h.p,k.f.trans h.f⟩
theorem RK{left:Bool}{b:yV}{a:yI}{base n d:Nat}{Q:yK->jF->Prop}(q:Ym lt)(v:YP prog w A s κ lt G)(hk:kindOf st=κ)(r:G b)(t:∀x∈a,G x)(u:Y6 lt ((a.drop base).take n))(z:base+n<=a.length)(y:d<n)
  (h:∀k,k<=n->(∀i,(hi:i<k)->(c:i<n)->bq lt left b (a[base+i]'(by omega))=Z7)->(∀i,k<=i->(hi:i<n)->bq lt left b (a[base+i]'(by omega))=Z5)->Q (Z9 k) st) :
  wpS (yW prog w) A E s (gallop' left b a.toArray base n d) Q st:=by
 have p:∀i,(hi:i<n)->((a.drop base).take n)[i]'(by simp;omega)=a[base+i]'(by omega):=λi hi=>by simp
 refine xN (P:=λi=>if hi:i<n then bq lt left b (a[base+i]'(by omega))else Z5) v hk r y (λi hi=>⟨a[base+i]'(by omega),by rw[qD8];exact qA6 (by omega),t _ (qD7 _),by simp[hi]⟩) (λi j f o e=>?_) λk l g m=>h k l (λi hi c=>?_) λi hi c=>?_
 .have hi:i<n:=by omega
  simp only[hi,o,dif_pos]at e ⊢;rw[<- p j o]at e;rw[<- p i hi];exact xI q u left b f (by simp;omega) e
 .have:=g i hi;simpa[c]using this
 .have:=m i hi c;simpa[c]using this
abbrev QC:=Option (Array yV)×Array yV×Nat×Nat×Nat×Nat×Nat
noncomputable abbrev SY:=StateT jF Sem (ForInStep QC)
noncomputable abbrev QB(a b out:Array yV)(c d:Nat):Array Keyed:=out++a.extract c a.size++b.extract d b.size
noncomputable abbrev GM(a b out:Array yV)(c d:Nat):Array Keyed:=out++b.extract d b.size++a.extract c a.size
noncomputable abbrev T4(r out:Array yV)(b a g p q:Nat):SY:=pure (.done (Z9 r,out,b,a,g,p,q))
noncomputable def Ly(a b:Array yV)(g p q:Nat)(out:Array yV)(c d:Nat):SY:=mO a c >>= λv =>
 if(c+1+1 == a.size)=Z7 then T4 (GM a b (out.push v) (c+1) d) (out.push v) (c+1) d g p q
 else if(decide (p<7)&&decide (q<7))=Z7 then pure (.done (Z8,out.push v,c+1,d,g,p,q))else pure (.yield (Z8,out.push v,c+1,d,g,p,q))
noncomputable def Lx(a b:Array yV)(g p q:Nat)(out:Array yV)(d c:Nat):yK->SY
 |some k=>if k>0 then(if(c+k == b.size)=Z7 then T4 (QB a b (out++b.extract c (c+k)) d (c+k)) (out++b.extract c (c+k)) d (c+k) g p k else Ly a b g p k (out++b.extract c (c+k)) d (c+k))else Ly a b g p k out d c
 |_=>T4 (QB a b out d c) out d c g p q
noncomputable def QA(a b:Array yV)(g p q:Nat)(out:Array yV)(d c:Nat):SY:=mO b c >>= λv =>
 if(c+1 == b.size)=Z7 then T4 (QB a b (out.push v) d (c+1)) (out.push v) d (c+1) g p q
 else mO a d >>= λu=>gallop' Z7 u b (c+1) (b.size - (c+1)) 0 >>= Lx a b g p q (out.push v) d (c+1)
noncomputable def Lw(a b:Array yV)(g p q:Nat)(out:Array yV)(c d:Nat):yK->SY
 | some k=>if k>0 then(if(c+k+1 == a.size)=Z7 then T4 (GM a b (out++a.extract c (c+k)) (c+k) d) (out++a.extract c (c+k)) (c+k) d g k q
   else if(c+k == a.size)=Z7 then T4 (QB a b (out++a.extract c (c+k)) (c+k) d) (out++a.extract c (c+k)) (c+k) d g k q else QA a b g k q (out++a.extract c (c+k)) (c+k) d)else QA a b g k q out c d
 |_=>T4 (QB a b out c d) out c d g p q
noncomputable def RJ(a b:Array yV)(g p q:Nat)(out:Array yV)(c d:Nat):SY:=setG' g >>= λ_=>mO b d >>= λv=>gallop' Z5 v a c (a.size - c) 0 >>= Lw a b g p q out c d
noncomputable def xH(a b:Array yV)(c:QC):SY:=if c.2.2.2.2.1>1 then RJ a b (c.2.2.2.2.1 - 1) c.2.2.2.2.2.1 c.2.2.2.2.2.2 c.2.1 c.2.2.1 c.2.2.2.1 else RJ a b c.2.2.2.2.1 c.2.2.2.2.2.1 c.2.2.2.2.2.2 c.2.1 c.2.2.1 c.2.2.2.1
def GL(lt:yV->yV->Bool)(a b:yI)(st:jF)(x:Nat)(c:QC)(d:jF):Prop:=Sg st d/\((∃r o,c=(Z9 r,o)/\Mg lt a b r.toList)∨∃out f e g p q,c=(Z8,out,f,e,g,p,q)/\Wl lt a b f e out/\x+2<=out.size)
def GK(lt:yV->yV->Bool)(a b:yI)(st:jF)(x:Nat)(c:QC)(d:jF):Prop:=∃out f e g p q,c=(Z8,out,f,e,g,p,q)/\Sg st d/\Wl lt a b f e out/\x+2<=out.size
noncomputable abbrev Qz(lt:yV->yV->Bool)(a b:yI)(st:jF)(x:Nat):ForInStep QC->jF->Prop:=λr c=>match r with|.done d=>GL lt a b st x d c|.yield d=>GK lt a b st x d c
section
variable {st0:jF}{a b:yI}{x g p q ia ib:Nat}{out:Array yV}
theorem Qy{r:Array yV}(c:Sg st0 st)(h:Mg lt a b r.toList):wpS (yW prog w) A E s (T4 r out ia ib g p q) (Qz lt a b st0 x) st:=yY ⟨c,.inl ⟨_,_,rfl,h⟩⟩
theorem GJ(d:Sg st0 st)(j:0<a.length)(i:∀y∈b,lt (a[a.length - 1]'(by omega)) y=Z5)(k:ia+1<a.length)(h:ib<b.length)(l:x+2<=out.size)(e:Zn lt a b (a.drop (ia+1)) (b.drop ib) (out.push a[ia]).toList):wpS (yW prog w) A E s (Ly a.toArray b.toArray g p q out ia ib) (Qz lt a b st0 x) st:=by
 refine yT (Xu (by rw[qD8];exact qA6 (by omega)) (WO (λc=>Qy d (Od e (by simpa using c) i)) λc=>?_));have f:Wl lt a b (ia+1) ib (out.push a[ia]):=⟨e,by simp at c;omega,h⟩
 exact WO (λ_=>yY ⟨d,.inr ⟨_,_,_,_,_,_,rfl,f,by simp;omega⟩⟩) λ_=>yY ⟨_,_,_,_,_,_,rfl,d,f,by simp;omega⟩
theorem GI(f:Ym lt)(F:YP prog w A s κ lt G)(hk:kindOf st0=κ)(B:∀x∈a,G x)(H:∀x∈b,G x)(D:Y6 lt a)(sb:Y6 lt b)(d:Sg st0 st)(o:0<a.length)(h:∀y∈b,lt (a[a.length - 1]'(by omega)) y=Z5)(r:ia+1<a.length)(C:ib<b.length)(M:x+2<=out.size)(L:Zn lt a b (a.drop ia) (b.drop ib) out.toList)(z:∀y∈a.drop ia,lt y b[ib]=Z5):wpS (yW prog w) A E s (QA a.toArray b.toArray g p q out ia ib) (Qz lt a b st0 x) st:=by
 have l:=SZ L C z;refine yT (Xu (by simp) (WO (λn=>Qy d (QD l (.inl (by simpa using n)))) λn=>?_));have v:ib+1<b.length:=by simp at n;omega
 refine yT (Xu (by rw[qD8];exact qA6 (by omega)) (yT (RK f F (d.k.trans hk) (B _ (qD7 _)) H (sb.sublist ((qG1 ..).trans (qH4 ..))) (by simp;omega) (by simp;omega) λk I k2 t=>?_)));simp only[qB5]at I k2 t;have e:Zn lt a b (a.drop ia) (b.drop (ib+1+k)) ((out.push b[ib])++b.toArray.extract (ib+1) (ib+1+k)).toList :=
  xJ l (by omega) λi J=>UG f D (by omega) (f.as _ _ (by simpa[bq]using k2 i J (by omega)))
 have c:=λh=>UG f sb h (by simpa[bq]using t k (qA7 _) (by omega));refine WO (λj=>WO (λm=>Qy d (QD e (.inl (by simpa using m)))) λm=>?_) λj=>?_
 .have u:ib+1+k<b.length:=by simp at m;omega
  exact GJ d o h r u (by simp;omega) (UF e (by omega) (c u))
 .have K:k=0:=by omega
  subst K;exact GJ d o h r v (by simp;omega) (UF l (by omega) (c v))
theorem xG(d:Ym lt)(n:YP prog w A s κ lt G)(hk:kindOf st0=κ)(j:∀x∈a,G x)(o:∀x∈b,G x)(f:Y6 lt a)(sb:Y6 lt b)(F:Sg st0 st)(z:0<a.length)(e:∀y∈b,lt (a[a.length - 1]'(by omega)) y=Z5)(W:Wl lt a b ia ib out)(r:x+2<=out.size):wpS (yW prog w) A E s (RJ a.toArray b.toArray g p q out ia ib) (Qz lt a b st0 x) st:=by
 have J:=W.i;have l:=W.j;refine yT (GO λD C=>?_);have c:=F.trans C;refine yT (Xu (x:=b[ib]) (by simp) (yT (RK d n (c.k.trans hk) (o _ (qD7 _)) j (f.sublist ((qG1 ..).trans (qH4 ..))) (by simp;omega) (by simp;omega) λk I k2 B=>?_)));simp only[qB5]at I k2 B;have u:Zn lt a b (a.drop (ia+k)) (b.drop ib) (out++a.toArray.extract ia (ia+k)).toList :=
  GP W.m (by omega) λi K=>UG d sb l (by simpa[bq]using k2 i K (by omega))
 have v:=λe=>UG d f e (d.as _ _ (by simpa[bq]using B k (qA7 _) (by omega)));refine WO (λh=>WO (λm=>Qy c (Od u (by simpa using m) e)) λm=>WO (λt=>Qy c (QD u (.inr (by simpa using t)))) λt=>?_) λh=>?_
 .have H:ia+k+1<a.length:=by simp at m t;omega
  exact GI d n hk j o f sb c z e H l (by rw[gH];omega) u (v (by omega))
 .have L:k=0:=by omega
  subst L;exact GI d n hk j o f sb c z e J l r W.m (v (by omega))
end
theorem xF{a b:yI}{Q:Array yV->jF->Prop}(B:Ym lt)(R:YP prog w A s κ lt G)(hk:kindOf st=κ)(P:∀x∈a,G x)(S:∀x∈b,G x)(L:Y6 lt a)(sb:Y6 lt b)
  (X:0<a.length) (U:0<b.length) (V:∀x∈a,lt x b[0]=Z5) (M:∀y∈b,lt (a[a.length - 1]'(by omega)) y=Z5)
  (h:∀out f,Sg st f->Mg lt a b out.toList->Q out f):wpS (yW prog w) A E s (mergeLo' a.toArray b.toArray) Q st:=by
 refine yT (f8 (vP ⟨rfl,?_⟩));refine yT (Xu (x:=b[0]) (by simp) ?_);have Z:Zn lt a b (a.drop 0) (b.drop 0) (#[]).toList:=⟨by simp,.nil,by simpa using L,by simpa using sb,λx D=>(by simp at D),λx D=>(by simp at D)⟩
 have H:=SZ Z U λy N=>V y (by simpa using N);by_cases F:(1 == b.toArray.size)=Z7
 .rw[if_pos F];exact yY (h _ _ (.rfl _) (QD H (.inl (by simpa using F))))
 rw[if_neg F];by_cases C:(0+1 == a.toArray.size)=Z7
 .rw[if_pos C];exact yY (h _ _ (.rfl _) (Od H (by simpa using C) M))
 rw[if_neg C];have T:Wl lt a b 0 1 #[b[0]]:=⟨H,by simp at C;omega,by simp at F;omega⟩
 refine yT (fT ?_);refine yT (vE (jT (I:=λx c f=>∃out j d g,c=(Z8,out,j,d,g)/\Sg st f/\Wl lt a b j d out/\x+1<=out.size)
  (Q:=λc f=>∃r o,c=(Z9 r,o)/\Sg st f/\Mg lt a b r.toList) ?_ ?_ ⟨_,_,_,_,rfl,.rfl _,T,by simp⟩) ?_)
 .rintro x c l _ D ⟨out,j,d,g,rfl,t,W,i⟩;have J:=t.k.trans hk;refine yT (vE (jT (I:=λy c f=>∃out j d p q,c=(Z8,out,j,d,p,q)/\f=l/\Wl lt a b j d out/\x+1+y<=out.size)
   (Q:=λc f=>f=l/\((∃r o,c=(Z9 r,o)/\Mg lt a b r.toList)∨∃out j d p q,c=(Z8,out,j,d,p,q)/\Wl lt a b j d out/\x+2<=out.size)) ?_ ?_ ⟨_,_,_,_,_,rfl,rfl,W,by omega⟩) ?_)
  .rintro y c n _ N ⟨out,j,d,p,q,rfl,rfl,W,i⟩;dsimp only;have Y:=W.i;have K:=W.j;refine yT (Xu (x:=b[d]) (by simp) (yT (Xu (by rw[qD8];exact qA6 (by omega)) (yT (QE R J (S _ (qD7 _)) (P _ (qD7 _)) ?_)))));cases e:lt b[d] a[j]with
   |true =>
    refine yT (Xu (x:=b[d]) (by simp) ?_);have z:=SZ W.m K (UG B L (by omega) (B.as _ _ e));by_cases m:(d+1 == b.toArray.size)=Z7
    .rw[if_pos m];exact yY ⟨rfl,.inl ⟨_,_,rfl,QD z (.inl (by simpa using m))⟩⟩
    rw[if_neg m];have v:Wl lt a b j (d+1) (out.push b[d]):=⟨z,Y,by simp at m;omega⟩
    split
    .exact yY ⟨rfl,.inr ⟨_,_,_,_,_,rfl,v,by simp;omega⟩⟩
    .exact yY ⟨_,_,_,_,_,rfl,rfl,v,by simp;omega⟩
   |false =>
    refine yT (Xu (by rw[qD8];exact qA6 (by omega)) ?_);have z:=UF W.m (by omega) (UG B sb K e);by_cases m:(j+1+1 == a.toArray.size)=Z7
    .rw[if_pos m];exact yY ⟨rfl,.inl ⟨_,_,rfl,Od z (by simpa using m) M⟩⟩
    rw[if_neg m];have v:Wl lt a b (j+1) d (out.push a[j]):=⟨z,by simp at m;omega,K⟩
    split
    .exact yY ⟨rfl,.inr ⟨_,_,_,_,_,rfl,v,by simp;omega⟩⟩
    .exact yY ⟨_,_,_,_,_,rfl,rfl,v,by simp;omega⟩
  .rintro c n ⟨out,j,d,p,q,rfl,rfl,W,i⟩;exact⟨rfl,.inr ⟨_,_,_,_,_,rfl,W,by omega⟩⟩
  rintro c n ⟨rfl,⟨r,o,rfl,u⟩| ⟨out,j,d,p,q,rfl,W,i⟩⟩
  .exact yY ⟨r,_,rfl,t,u⟩
  dsimp only;refine yT (f8 (vP ⟨rfl,?_⟩));refine yT (vE (GN (f':=λ_ c=>xH a.toArray b.toArray c) (by kernel_rfl) (λ_=>GK lt a b st x) (Q:=GL lt a b st x) ?_ ?_ ⟨_,_,_,_,_,_,rfl,t,W,i⟩) ?_)
  .rintro y c st3 _ _ ⟨out,j,d,g,p,q,rfl,k,W,i⟩;have O:∀g,wpS (yW prog w) A E s (RJ a.toArray b.toArray g p q out j d) (Qz lt a b st x) st3:=λg=>xG B R hk P S L sb k X M W i;exact vE (WO (λ_=>O _) λ_=>O _) λr f h=>by cases r<;>exact h
  .rintro c n ⟨out,j,d,g,p,q,rfl,k,W,i⟩;exact⟨k,.inr ⟨_,_,_,_,_,_,rfl,W,i⟩⟩
  rintro c st3 ⟨k,⟨r,o,rfl,u⟩| ⟨out,j,d,g,p,q,rfl,W,i⟩⟩
  .exact yY ⟨r,_,rfl,k,u⟩
  exact yT (wJ (yY ⟨_,_,_,_,rfl,⟨k.k,k.a,k.p,k.f⟩,W,by omega⟩))
 .rintro c l ⟨out,j,d,g,rfl,t,W,i⟩;have:=xK W.m (by have:=W.i;omega) (by have:=W.j;omega);have:=W.i;have:=W.j;simp at i;omega
 .rintro c l ⟨r,o,rfl,t,u⟩;exact yY (h r l t u)
end
section
variable {lt:yV->yV->Bool}{a b:yI}{na nb t:Nat}{out:Array yV}
theorem GH(h:na - 1<a.length)(c:0<na):(a.take na).reverse=[a[na - 1]]++(a.take (na - 1)).reverse:=by
 obtain⟨m,rfl⟩:∃m,na=m+1:=⟨na - 1,by omega⟩
 simp only[qN2]at h ⊢;rw[List.take_succ_eq_append_getElem h,qP6];rfl
theorem xE(h:t<=na):(a.take na).reverse=((a.drop t).take (na - t)).reverse++(a.take t).reverse:=by
 rw[<- qP6];rw[<- List.drop_take]
 conv=>lhs;rw[<- qD1 t (a.take na)]
 rw[List.take_take,qO5 h]
abbrev MH(lt:yV->yV->Bool)(a b:yI)(d c:Nat)(out:Array yV):Prop:=Zn (λx y=>lt y x) a b (a.take d).reverse (b.take c).reverse out.toList
theorem SX{x:yV}(f:Ym lt)(sb:Y6 lt b)(hi:nb - 1<b.length)(h:lt x b[nb - 1]=Z5):∀y∈(b.take nb).reverse,lt x y=Z5:=by
 intro y c;rcases Nat.eq_zero_or_pos nb with rfl|e
 .simp at c
 .have g:Y6 lt (b.take nb):=sb.sublist (qG1 ..);have d:=qL2.mpr g;rw[GH hi e]at c d;rcases qB9.mp c with c|c
  .rw[qB8.mp c];exact h
  .exact f.tr y b[nb - 1] x ((qC2.mp d).2.2 _ (qI8 _) y c) h
theorem Oc(a:yI)(j:Nat):(a.toArray.extract 0 j).toList=a.take j:=by simp
theorem xD(h:MH lt a b na nb out)(c:na<=a.length)(d:nb<=b.length):out.size+na+nb=a.length+b.length:=by have e:=h.pm.length_eq;simp at e;omega
theorem Mg.rev{o:yI}(h:Mg (λx y=>lt y x) a b o):Mg lt a b o.reverse:=⟨o.reverse_perm.trans h.pm,h.so.rev⟩
theorem Mg.comm{o:yI}(h:Mg lt b a o):Mg lt a b o:=⟨h.pm.trans qI1,h.so⟩
theorem Qx(h:MH lt a b na nb out)(e:na=0∨nb=0):Mg lt a b (a.toArray.extract 0 na++b.toArray.extract 0 nb++out.reverse).toList:=by
 rw[jJ,jJ,Oc,Oc,fK];rcases e with rfl|rfl
 .have:=(Zn.fin (by simpa using h.swap)).rev.comm;simpa using this
 .unfold MH at h;have:=(Zn.fin (by simpa using h)).rev;simpa using this
theorem Ob(h:MH lt a b na nb out)(e:nb=1)(f:0<b.length)(d:∀x∈a,lt x b[0]=Z5):Mg lt a b (b.toArray.extract 0 nb++a.toArray.extract 0 na++out.reverse).toList:=by
 rw[jJ,jJ,Oc,Oc,fK];subst e;have g:b.take 1=[b[0]]:=by
  cases b with
  |nil=>simp at f
  |cons x b=>simp
 have c:=h.swap;rw[g]at c ⊢;have:=(Zn.last c λy i=>d y (qI4 (qI9.mp i))).rev.comm;simpa using this
theorem Vg(h:MH lt a b na nb out)(d:na - 1<a.length)(e:0<na)(k:∀y∈(b.take nb).reverse,lt a[na - 1] y=Z5):MH lt a b (na - 1) nb (out.push a[na - 1]):=by unfold MH at h ⊢;rw[GH d e]at h;rw[Array.toList_push];exact h.push λx c=>by rw[qB8.mp c];exact k
theorem GG(h:MH lt a b na nb out)(ht:t<=na)(f:na<=a.length)(q:∀i,t<=i->(hi:i<na)->∀y∈(b.take nb).reverse,lt (a[i]'(by omega)) y=Z5):MH lt a b t nb (out++(a.toArray.extract t na).reverse):=by
 unfold MH at h ⊢;rw[xE ht]at h;rw[jJ,fK,Of];refine h.push λx d=>?_;obtain⟨i,hi,e⟩:=qH2.mp (qI9.mp d);have c:t+i<na:=by simp at hi;omega
 rw[<- e];simpa using q (t+i) (by omega) c
end
section
variable {lt:yV->yV->Bool}{a b:yI}{na nb t:Nat}{out:Array yV}
theorem Qw(h:MH lt a b na nb out)(d:nb - 1<b.length)(c:0<nb)(k:∀y∈(a.take na).reverse,lt b[nb - 1] y=Z5):MH lt a b na (nb - 1) (out.push b[nb - 1]) :=
 Zn.swap (Vg (Zn.swap h) d c k)
theorem xC(h:MH lt a b na nb out)(ht:t<=nb)(c:nb<=b.length)(q:∀i,t<=i->(hi:i<nb)->∀y∈(a.take na).reverse,lt (b[i]'(by omega)) y=Z5):MH lt a b na t (out++(b.toArray.extract t nb).reverse) :=
 Zn.swap (GG (Zn.swap h) ht c q)
structure Wh(lt:yV->yV->Bool)(a b:yI)(na nb:Nat)(out:Array yV):Prop where
 m:MH lt a b na nb out
 i:0<na
 j:1<nb
 i':na<a.length
 j':nb<=b.length
end
section
variable {prog:y4}{w:jD}{A:jC}{E:yL}{s:yS}{κ:wA}{lt:yV->yV->Bool}{G:yV->Prop}{st:jF}
abbrev Qv:=Option (Array yV)×Nat×Nat×Array yV×Nat×Nat×Nat
noncomputable abbrev SW:=StateT jF Sem (ForInStep Qv)
noncomputable abbrev Qu(a b out:Array yV)(d c:Nat):Array Keyed:=a.extract 0 d++b.extract 0 c++out.reverse
noncomputable abbrev GF(a b out:Array yV)(d c:Nat):Array Keyed:=b.extract 0 c++a.extract 0 d++out.reverse
noncomputable abbrev T3(r out:Array yV)(b a g p q:Nat):SW:=pure (.done (Z9 r,b,a,out,g,p,q))
noncomputable def Lv(a b:Array yV)(g p q:Nat)(out:Array yV)(c d:Nat):SW:=mO a (c - 1) >>= λv =>
 if(c - 1 == 0)=Z7 then T3 (Qu a b (out.push v) (c - 1) d) (out.push v) (c - 1) d g p q
 else if(decide (p<7)&&decide (q<7))=Z7 then pure (.done (Z8,c - 1,d,out.push v,g,p,q))else pure (.yield (Z8,c - 1,d,out.push v,g,p,q))
noncomputable def Lu(a b:Array yV)(g p q:Nat)(out:Array yV)(d c:Nat):yK->SW
 | some k=>if c - k>0 then(if(k == 1)=Z7 then T3 (GF a b (out++(b.extract k c).reverse) d k) (out++(b.extract k c).reverse) d k g p (c - k)
   else if(k == 0)=Z7 then T3 (Qu a b (out++(b.extract k c).reverse) d k) (out++(b.extract k c).reverse) d k g p (c - k)else Lv a b g p (c - k) (out++(b.extract k c).reverse) d k)else Lv a b g p (c - k) out d c
 |_=>T3 (Qu a b out d c) out d c g p q
noncomputable def hi2(a b:Array yV)(g p q:Nat)(out:Array yV)(d c:Nat):SW:=mO b (c - 1) >>= λv =>
 if(c - 1 == 1)=Z7 then T3 (GF a b (out.push v) d (c - 1)) (out.push v) d (c - 1) g p q
 else mO a (d - 1) >>= λu=>gallop' Z7 u b 0 (c - 1) (c - 1 - 1) >>= Lu a b g p q (out.push v) d (c - 1)
noncomputable def Ls(a b:Array yV)(g p q:Nat)(out:Array yV)(c d:Nat):yK->SW
 |some k=>if c - k>0 then(if(k == 0)=Z7 then T3 (Qu a b (out++(a.extract k c).reverse) k d) (out++(a.extract k c).reverse) k d g (c - k) q else hi2 a b g (c - k) q (out++(a.extract k c).reverse) k d)else hi2 a b g (c - k) q out c d
 |_=>T3 (Qu a b out c d) out c d g p q
noncomputable def hi1(a b:Array yV)(g p q:Nat)(out:Array yV)(c d:Nat):SW:=setG' g >>= λ_=>mO b (d - 1) >>= λv=>gallop' Z5 v a 0 c (c - 1) >>= Ls a b g p q out c d
noncomputable def xB(a b:Array yV)(c:Qv):SW:=if c.2.2.2.2.1>1 then hi1 a b (c.2.2.2.2.1 - 1) c.2.2.2.2.2.1 c.2.2.2.2.2.2 c.2.2.2.1 c.2.1 c.2.2.1 else hi1 a b c.2.2.2.2.1 c.2.2.2.2.2.1 c.2.2.2.2.2.2 c.2.2.2.1 c.2.1 c.2.2.1
def GE(lt:yV->yV->Bool)(a b:yI)(st:jF)(x:Nat)(c:Qv)(d:jF):Prop:=Sg st d/\((∃r o,c=(Z9 r,o)/\Mg lt a b r.toList)∨∃f e out g p q,c=(Z8,f,e,out,g,p,q)/\Wh lt a b f e out/\x+2<=out.size)
def GD(lt:yV->yV->Bool)(a b:yI)(st:jF)(x:Nat)(c:Qv)(d:jF):Prop:=∃f e out g p q,c=(Z8,f,e,out,g,p,q)/\Sg st d/\Wh lt a b f e out/\x+2<=out.size
noncomputable abbrev Qt(lt:yV->yV->Bool)(a b:yI)(st:jF)(x:Nat):ForInStep Qv->jF->Prop:=λr c=>match r with|.done d=>GE lt a b st x d c|.yield d=>GD lt a b st x d c
section
variable {st0:jF}{a b:yI}{x g p q na nb:Nat}{out:Array yV}
theorem Oa{l:yI}{i:Nat}(hi:i<l.length):l.toArray[i]?=Z9 l[i]:=by grind
theorem Qs{r:Array yV}(c:Sg st0 st)(h:Mg lt a b r.toList):wpS (yW prog w) A E s (T3 r out na nb g p q) (Qt lt a b st0 x) st:=yY ⟨c,.inl ⟨_,_,rfl,h⟩⟩
theorem GC(d:Sg st0 st)(j:0<na)(k:na<a.length)(i:1<nb)(h:nb<=b.length)(l:x+2<=out.size)(e:MH lt a b (na - 1) nb (out.push (a[na - 1]'(by omega)))):wpS (yW prog w) A E s (Lv a.toArray b.toArray g p q out na nb) (Qt lt a b st0 x) st:=by
 refine yT (Xu (Oa (by omega)) (WO (λc=>Qs d (Qx e (.inl (by simpa using c)))) λc=>?_));have f:Wh lt a b (na - 1) nb _:=⟨e,by simp at c;omega,i,by omega,h⟩
 exact WO (λ_=>yY ⟨d,.inr ⟨_,_,_,_,_,_,rfl,f,by simp;omega⟩⟩) λ_=>yY ⟨_,_,_,_,_,_,rfl,d,f,by simp;omega⟩
theorem GB(f:Ym lt)(C:YP prog w A s κ lt G)(hk:kindOf st0=κ)(z:∀x∈a,G x)(D:∀x∈b,G x)(B:Y6 lt a)(sb:Y6 lt b)(t:0<b.length)(u:∀x∈a,lt x b[0]=Z5)(d:Sg st0 st)(j:0<na)(r:na<a.length)(N:1<nb)(P:nb<=b.length)(M:x+2<=out.size)(L:MH lt a b na nb out)(v:∀y∈(a.take na).reverse,lt (b[nb - 1]'(by omega)) y=Z5):wpS (yW prog w) A E s (hi2 a.toArray b.toArray g p q out na nb) (Qt lt a b st0 x) st:=by
 have m:=Qw L (by omega) (by omega) v;refine yT (Xu (Oa (by omega)) (WO (λo=>Qs d (Ob m (by simpa using o) t u)) λo=>?_));have K:1<nb - 1:=by simp at o;omega
 refine yT (Xu (Oa (by omega)) (yT (RK f C (d.k.trans hk) (z _ (qD7 _)) D (sb.sublist ((qG1 ..).trans (qH4 ..))) (by omega) (by omega) λk F k2 J=>?_)));have c :=
  xC m F (by omega) λi hi1 H=>SX f B (by omega) (by simpa[bq]using J i hi1 H)
 have e:0<k->∀y∈(b.take k).reverse,lt (a[na - 1]'(by omega)) y=Z5:=λO=>SX f sb (by omega) (f.as _ _ (by simpa[bq]using k2 (k - 1) (by omega) (by omega)));refine WO (λl=>WO (λn=>Qs d (Ob c (by simpa using n) t u)) λn=>WO (λh=>Qs d (Qx c (.inr (by simpa using h)))) λh=>?_) λl=>?_
 .exact GC d j r (by simp at n h;omega) (by omega) (by simp;omega) (Vg c (by omega) j (e (by simp at h;omega)))
 .have I:k=nb - 1:=by omega
  subst I;exact GC d j r K (by omega) (by simp;omega) (Vg m (by omega) j (e (by omega)))
theorem xA(d:Ym lt)(l:YP prog w A s κ lt G)(hk:kindOf st0=κ)(j:∀x∈a,G x)(n:∀x∈b,G x)(e:Y6 lt a)(sb:Y6 lt b)(t:0<b.length)(u:∀x∈a,lt x b[0]=Z5)(H:Sg st0 st)(W:Wh lt a b na nb out)(o:x+2<=out.size):wpS (yW prog w) A E s (hi1 a.toArray b.toArray g p q out na nb) (Qt lt a b st0 x) st:=by
 obtain⟨m,z,v,I,B⟩:=W;refine yT (GO λF D=>?_);have c:=H.trans D;refine yT (Xu (Oa (by omega)) (yT (RK d l (c.k.trans hk) (n _ (qD7 _)) j (e.sublist ((qG1 ..).trans (qH4 ..))) (by omega) (by omega) λk J k2 M=>?_)));have C:=GG m J (by omega) λi hi1 K=>SX d sb (by omega) (d.as _ _ (by simpa[bq]using M i hi1 K));have r:0<k->∀y∈(a.take k).reverse,lt (b[nb - 1]'(by omega)) y=Z5:=λN=>SX d e (by omega) (by simpa[bq]using k2 (k - 1) (by omega) (by omega));refine WO (λh=>WO (λf=>Qs c (Qx C (.inl (by simpa using f)))) λf=>?_) λh=>?_
 .exact GB d l hk j n e sb t u c (by simp at f;omega) (by omega) v B (by rw[gH];omega) C (r (by simp at f;omega))
 .have L:k=na:=by omega
  subst L;exact GB d l hk j n e sb t u c z I v B o m (r z)
end
theorem xy{a b:yI}{Q:Array yV->jF->Prop}(J:Ym lt)(X:YP prog w A s κ lt G)(hk:kindOf st=κ)(V:∀x∈a,G x)(Y:∀x∈b,G x)(S:Y6 lt a)(sb:Y6 lt b)
  (ha:0<a.length) (N:0<b.length) (R:∀x∈a,lt x b[0]=Z5) (hl:∀y∈b,lt (a[a.length - 1]'(by omega)) y=Z5)
  (h:∀out j,Sg st j->Mg lt a b out.toList->Q out j):wpS (yW prog w) A E s (mergeHi' a.toArray b.toArray) Q st:=by
 have v:∀i,(H:i<a.length)->a.toArray[i]?=Z9 a[i]:=λi H=>by rw[qD8];exact qA6 H
 have D:∀i,(H:i<b.length)->b.toArray[i]?=Z9 b[i]:=λi H=>by rw[qD8];exact qA6 H
 refine yT (f8 (vP ⟨rfl,?_⟩));rw[show a.toArray.size=a.length from rfl,show b.toArray.size=b.length from rfl];refine yT (Xu (v (a.length - 1) (by omega)) ?_);have m0:MH lt a b a.length b.length #[]:=by
  refine⟨?_,.nil,?_,?_,λx L=>(by simp at L),λx L=>(by simp at L)⟩
  .simpa using(a.reverse_perm.append b.reverse_perm)
  .rw[qI7];exact qL2.mpr S
  .rw[qI7];exact qL2.mpr sb
 have O:=Vg m0 (by omega) ha λy T=>hl y (qI4 (qI9.mp T));by_cases M:(a.length - 1 == 0)=Z7
 .rw[if_pos M];exact yY (h _ _ (.rfl _) (Qx O (.inl (by simpa using M))))
 rw[if_neg M];by_cases K:(b.length == 1)=Z7
 .rw[if_pos K];exact yY (h _ _ (.rfl _) (Ob O (by simpa using K) N R))
 rw[if_neg K];have w1:Wh lt a b (a.length - 1) b.length #[a[a.length - 1]]:=⟨O,by simp at M;omega,by simp at K;omega,by omega,by omega⟩
 refine yT (fT ?_);refine yT (vE (jT (I:=λx c j=>∃f d out g,c=(Z8,f,d,out,g)/\Sg st j/\Wh lt a b f d out/\x+1<=out.size)
  (Q:=λc j=>∃r o,c=(Z9 r,o)/\Sg st j/\Mg lt a b r.toList) ?_ ?_ ⟨_,_,_,_,rfl,.rfl _,w1,by simp⟩) ?_)
 .rintro x c n _ L ⟨f,d,out,g,rfl,z,W,k⟩;have P:=z.k.trans hk;refine yT (vE (jT (I:=λy c j=>∃f d out p q,c=(Z8,f,d,out,p,q)/\j=n/\Wh lt a b f d out/\x+1+y<=out.size)
   (Q:=λc j=>j=n/\((∃r o,c=(Z9 r,o)/\Mg lt a b r.toList)∨∃f d out p q,c=(Z8,f,d,out,p,q)/\Wh lt a b f d out/\x+2<=out.size)) ?_ ?_ ⟨_,_,_,_,_,rfl,rfl,W,by omega⟩) ?_)
  .rintro y c u _ T ⟨f,d,out,p,q,rfl,rfl,⟨m,Z,j1,i2,j2⟩,k⟩;dsimp only;refine yT (Xu (D (d - 1) (by omega)) (yT (Xu (v (f - 1) (by omega)) (yT (QE X P (Y _ (qD7 _)) (V _ (qD7 _)) ?_)))));cases e:lt b[d - 1] a[f - 1]with
   |true =>
    refine yT (Xu (v (f - 1) (by omega)) ?_);have F:=Vg m (by omega) Z (SX J sb (by omega) (J.as _ _ e));by_cases t:(f - 1 == 0)=Z7
    .rw[if_pos t];exact yY ⟨rfl,.inl ⟨_,_,rfl,Qx F (.inl (by simpa using t))⟩⟩
    rw[if_neg t];have C:Wh lt a b (f - 1) d (out.push a[f - 1]):=⟨F,by simp at t;omega,j1,by omega,j2⟩
    split
    .exact yY ⟨rfl,.inr ⟨_,_,_,_,_,rfl,C,by simp;omega⟩⟩
    .exact yY ⟨_,_,_,_,_,rfl,rfl,C,by simp;omega⟩
   |false =>
    refine yT (Xu (D (d - 1) (by omega)) ?_);have F:=Qw m (by omega) (by omega) (SX J S (by omega) e);by_cases t:(d - 1 == 1)=Z7
    .rw[if_pos t];exact yY ⟨rfl,.inl ⟨_,_,rfl,Ob F (by simpa using t) N R⟩⟩
    rw[if_neg t];have C:Wh lt a b f (d - 1) (out.push b[d - 1]):=⟨F,Z,by simp at t;omega,i2,by omega⟩
    split
    .exact yY ⟨rfl,.inr ⟨_,_,_,_,_,rfl,C,by simp;omega⟩⟩
    .exact yY ⟨_,_,_,_,_,rfl,rfl,C,by simp;omega⟩
  .rintro c u ⟨f,d,out,p,q,rfl,rfl,W,k⟩;exact⟨rfl,.inr ⟨_,_,_,_,_,rfl,W,by omega⟩⟩
  rintro c u ⟨rfl,⟨r,o,rfl,B⟩| ⟨f,d,out,p,q,rfl,W,k⟩⟩
  .exact yY ⟨r,_,rfl,z,B⟩
  refine yT (f8 (vP ⟨rfl,?_⟩));refine yT (vE (GN (f':=λ_ c=>xB a.toArray b.toArray c) (by kernel_rfl) (λ_=>GD lt a b st x) (Q:=GE lt a b st x) ?_ ?_ ⟨_,_,_,_,_,_,rfl,z,W,k⟩) ?_)
  .rintro y c st3 _ _ ⟨f,d,out,g,p,q,rfl,l,W,k⟩;have U:∀g,wpS (yW prog w) A E s (hi1 a.toArray b.toArray g p q out f d) (Qt lt a b st x) st3:=λg=>xA J X hk V Y S sb N R l W k;exact vE (WO (λ_=>U _) λ_=>U _) λr j h=>by cases r<;>exact h
  .rintro c u ⟨f,d,out,g,p,q,rfl,l,W,k⟩;exact⟨l,.inr ⟨_,_,_,_,_,_,rfl,W,k⟩⟩
  rintro c st3 ⟨l,⟨r,o,rfl,B⟩| ⟨f,d,out,g,p,q,rfl,W,k⟩⟩
  .exact yY ⟨r,_,rfl,l,B⟩
  exact yT (wJ (yY ⟨_,_,_,_,rfl,⟨l.k,l.a,l.p,l.f⟩,W,by omega⟩))
 .rintro c n ⟨f,d,out,g,rfl,z,W,k⟩;have:=xD W.m (by have:=W.i';omega) W.j';omega
 .rintro c n ⟨r,o,rfl,z,B⟩;exact yY (h r n z B)
end
noncomputable abbrev XY:=Nat×Nat×Nat
noncomputable abbrev SS(a:wA)(l:yI)(p:List XY)(g:Nat):SortSt:=SortSt.mk' a l.toArray p.toArray g Z8
theorem Sg.ss{e:wA}{l:yI}{p:List XY}{g:Nat}{d:jF}(h:Sg (SS e l p g) d):∃g',d=SS e l p g':=by obtain⟨k,a,b,c⟩:=h;cases d;cases k;cases a;cases b;cases c;exact⟨_,Eq.refl _⟩
theorem xw{M:mU}{A:jC}{E:yL}{s:yS}{Z:Type}{Q:PUnit->Z->Prop}{st a:Z}(h:Q ⟨⟩ a):wpS M A E s (set a:StateT Z Sem PUnit) Q st:=by unfold wpS;exact yP ⟨rfl,h⟩
theorem xu(p1 p2:List XY)(u v z:XY):((p1++u::v::p2).toArray.setIfInBounds p1.length z).eraseIdxIfInBounds (p1.length+1)=(p1++z::p2).toArray:=by simp[List.eraseIdx_append_of_length_le]
theorem xt(d M b:yI):∀(N:yI) (i:Nat) (c:yI),c.length=d.length+i->N.length=M.length ->
  (M.zipIdx i).foldl (fun(a:Array yV) (q:yV×Nat)=>a.setIfInBounds (d.length+q.2) q.1) (c++(N++b)).toArray=(c++(M++b)).toArray:=by
 induction M with
 |nil=>intro N i c g f;have:=qJ0.mp f;subst this;rfl
 |cons m M h =>
  intro N i c g f;cases N with
  |nil=>simp at f
  |cons n N =>
   rw[qR3,qM3];have e:((c++(n::N++b)).toArray.setIfInBounds (d.length+i) m)=((c++[m])++(N++b)).toArray:=by rw[<- g];simp
   rw[e,h N (i+1) (c++[m]) (by simp;omega) (by simpa using f)];simp
theorem xr{lt:yV->yV->Bool}{X Y M:yI}{k n:Nat}{d f:yV}(g:Ym lt)(j:Y6 lt X)(s:Y6 lt Y)(r:∀y∈Y,lt y d=Z5)(v:∀x∈X,lt f x=Z5)
  (i:∀x∈X.take k,lt d x=Z5) (w:∀y∈Y.drop n,lt y f=Z5) (b:Mg lt (X.drop k) (Y.take n) M):Mg lt X Y (X.take k++(M++Y.drop n)):=by
 have t:Y6 lt (X.take k++X.drop k):=by rw[qD1];exact j
 have z:Y6 lt (Y.take n++Y.drop n):=by rw[qD1];exact s
 obtain⟨u,B,l⟩:=qC2.mp t;obtain⟨A,o,p⟩:=qC2.mp z;refine⟨?_,qC2.mpr ⟨u,qC2.mpr ⟨b.so,o,λm a y c=>?_⟩,λx h m a=>?_⟩⟩
 .have e:X++Y=X.take k++(X.drop k++Y.take n++Y.drop n):=by rw[qC0,qD1,<- qC0,qD1]
  rw[e];exact(List.Perm.refl _).append (b.pm.append (List.Perm.refl _))
 .rcases qB9.mp (b.pm.mem_iff.mp a)with a|a
  .exact g.tr m f y (v m (qI3 a)) (w y c)
  .exact p m a y c
 .have q:=λy c=>g.tr x d y (i x h) (r y c);rcases qB9.mp a with a|a
  .rcases qB9.mp (b.pm.mem_iff.mp a)with a|a
   .exact l x h m a
   .exact q m (qI4 a)
  .exact q m (qI3 a)
theorem Lr{l:yI}{n:Nat}{x:yV}(h:x∈l.take n):∃i,∃hi:i<l.length,i<n/\l[i]=x:=by obtain⟨i,hi,e⟩:=qH2.mp h;refine⟨i,by simp at hi;omega,by simp at hi;omega,by simpa using e⟩
theorem Lq{l:yI}{n:Nat}{x:yV}(h:x∈l.drop n):∃i,∃hi:i<l.length,n<=i/\l[i]=x:=by obtain⟨i,hi,e⟩:=qH2.mp h;refine⟨n+i,by simp at hi;omega,by omega,by simpa using e⟩
theorem GA{lt:yV->yV->Bool}{l:yI}(a:Ym lt)(b:Y6 lt l)(h:0<l.length):∀y∈l,lt y l[0]=Z5:=λy c=>UG a b h (a.rf _) y (by simpa using c)
theorem N9{lt:yV->yV->Bool}{l:yI}(a:Ym lt)(b:Y6 lt l)(h:0<l.length):∀y∈l,lt (l[l.length - 1]'(by omega)) y=Z5:=λy c=>SX a b (by omega) (a.rf _) y (by simpa using c)
section
variable {prog:y4}{w:jD}{A:jC}{E:yL}{s:yS}{κ:wA}{lt:yV->yV->Bool}{G:yV->Prop}{st:jF}
theorem xq{b X Y c:yI}{p1 p2:List XY}{B q g i sb:Nat}{Q:Bool->jF->Prop}(m:Ym lt)(H:YP prog w A s κ lt G)(I:∀x∈b++(X++(Y++c)),G x)(t:Y6 lt X)(v:Y6 lt Y)(r:0<X.length)(R:0<Y.length)(L:sb=b.length+X.length)(hi:i=p1.length)
  (h:∀ZZ g',Mg lt X Y ZZ->Q Z7 (SS κ (b++(ZZ++c)) (p1++(b.length,X.length+Y.length,B)::p2) g')) :
  wpS (yW prog w) A E s (mergeAt' i) Q (SS κ (b++(X++(Y++c))) (p1++(b.length,X.length,B)::(sb,Y.length,q)::p2) g):=by
 subst hi L;have U:∀j x,(b++(X++(Y++c)))[j]?=Z9 x->(b++(X++(Y++c))).toArray[j]?=Z9 x:=λj x e=>by rw[qD8];exact e
 refine yT (fT ?_);have e1:(p1++(b.length,X.length,B)::(b.length+X.length,Y.length,q)::p2).toArray[p1.length]?=Z9 (b.length,X.length,B):=by simp
 have e2:(p1++(b.length,X.length,B)::(b.length+X.length,Y.length,q)::p2).toArray[p1.length+1]?=Z9 (b.length+X.length,Y.length,q):=by simp
 rw[e1,e2];dsimp only;rw[xu];refine yT (xw ?_);have Z:∀j,(p:j<Y.length)->(b++(X++(Y++c)))[b.length+X.length+j]?=Z9 Y[j]:=λj p=>by rw[qA0 (by omega),qA0 (by omega),qA8 (by omega),<- qA6 p];congr 1;omega
 have M:∀j,(p:j<X.length)->(b++(X++(Y++c)))[b.length+j]?=Z9 X[j]:=λj p=>by rw[qA0 (by omega),qA8 (by omega),<- qA6 p];congr 1;omega
 have S:(b++(X++(Y++c))).length=b.length+X.length+Y.length+c.length:=by simp;omega
 have D:=λj p=>(qA1.mp (Z j p)).2;have C:=λj p=>(qA1.mp (M j p)).2;have dX:((b++(X++(Y++c))).drop b.length).take X.length=X:=by simp
 have dY:((b++(X++(Y++c))).drop (b.length+X.length)).take Y.length=Y:=by simp
 have z:∀x∈X,G x:=λx r=>I x (by simp[r]);have u:∀x∈Y,G x:=λx r=>I x (by simp[r]);have fin:=λg' o=>by have:=h (X++Y) g' o;rwa[qC0]at this
 refine yT (Xu (U (b.length+X.length) Y[0] (Z 0 R)) ?_);refine yT (RK m H rfl (u _ (qD7 _)) I (by rw[dX];exact t) (by omega) r λk k1 k2 k3=>?_);dsimp only;have N:∀x∈X.take k,lt Y[0] x=Z5:=λx r=>by obtain⟨i,hi,f,rfl⟩:=Lr r;have:=k2 i f hi;rw[C i hi]at this;simpa[bq]using this
 have W:=GA m v R;have hl:=N9 m t r;by_cases F:(X.length - k == 0)=Z7
 .rw[if_pos F];have hk:X.length<=k:=by simp at F;omega
  refine yY (fin _ ⟨.refl _,qC2.mpr ⟨t,v,λx d y l=>m.tr x Y[0] y (N x ?_) (W y l)⟩⟩);rw[qH8 hk];exact d
 rw[if_neg F];have hk:=by simp at F;omega
 rw[show b.length+k+(X.length - k) - 1=b.length+(X.length - 1) by omega];refine yT (Xu (U _ (X[X.length - 1]) (M (X.length - 1) (by omega))) ?_);refine yT (RK m H rfl (z _ (qD7 _)) I (by rw[dY];exact v) (by omega) (by omega) λn n1 n2 n3=>?_);dsimp only;have c2:∀y∈Y.drop n,lt y X[X.length - 1]=Z5:=λy l=>by obtain⟨i,hi,f,rfl⟩:=Lq l;have:=n3 i f hi;rw[D i hi]at this;simpa[bq]using this
 by_cases J:(n == 0)=Z7
 .rw[if_pos J];have hn:=by simpa using J
  subst hn;exact yY (fin _ ⟨.refl _,qC2.mpr ⟨t,v,λx d y l=>m.tr x _ y (hl x d) (c2 y (by simpa using l))⟩⟩)
 rw[if_neg J];have hn:=by simp at J;omega
 have x2:(b++(X++(Y++c))).toArray.extract (b.length+k) (b.length+X.length)=(X.drop k).toArray:=by apply Array.ext';rw[Of,<- qP1];simp only[qS3];rw[List.drop_append_of_le_length (by omega),qM0 (by simp;omega)];exact qH8 (by simp;omega)
 have y1:(b++(X++(Y++c))).toArray.extract (b.length+X.length) (b.length+X.length+n)=(Y.take n).toArray:=by apply Array.ext';rw[Of,<- qP1];simp only[qS3];rw[show b.length+X.length+n - (b.length+X.length)=n by omega,qM0 n1]
 rw[x2,y1];have V:∀x∈X.drop k,lt x ((Y.take n)[0]'(by simp;omega))=Z5:=λx d=>by
  obtain⟨i,hi,f,rfl⟩:=Lq d;have:=k3 i f hi;rw[C i hi]at this;have e:(Y.take n)[0]'(by simp;omega)=Y[0]:=by simp
  rw[e];exact m.as _ _ (by simpa[bq]using this)
 have P:∀y∈Y.take n,lt ((X.drop k)[(X.drop k).length - 1]'(by simp;omega)) y=Z5:=λy l=>by
  obtain⟨i,hi,f,rfl⟩:=Lr l;have:=n2 i f hi;rw[D i hi]at this;have e:(X.drop k)[(X.drop k).length - 1]'(by simp;omega)=X[X.length - 1]:=by simp only[qN7];congr 1;simp;omega
  rw[e];exact m.as _ _ (by simpa[bq]using this)
 have after:∀(out:Array yV) g',Mg lt (X.drop k) (Y.take n) out.toList->Q Z7 (SS κ (b++((X.take k++(out.toList++Y.drop n))++c)) (p1++(b.length,X.length+Y.length,B)::p2) g'):=λout g' o=>h _ g' (xr m t v W hl N c2 o);have fo:∀(out:Array yV),Mg lt (X.drop k) (Y.take n) out.toList->out.toList.zipIdx.foldl (λa x=>a.setIfInBounds (b.length+k+x.2) x.1) (b++(X++(Y++c))).toArray=(b++((X.take k++(out.toList++Y.drop n))++c)).toArray:=λout o=>by
  have e:=xt (b++X.take k) out.toList (Y.drop n++c) (X.drop k++Y.take n) 0 (b++X.take k) (by simp) o.pm.length_eq.symm;have e5:(b++X.take k).length=b.length+k:=by simp;omega
  have e6:b++X.take k++(X.drop k++Y.take n++(Y.drop n++c))=b++(X++(Y++c)):=by
   conv=>rhs;rw[<- qD1 k X,<- qD1 n Y]
   simp only[qC0]
  have e7:b++X.take k++(out.toList++(Y.drop n++c))=b++((X.take k++(out.toList++Y.drop n))++c):=by simp only[qC0]
  rw[e5,e6,e7]at e;exact e
 by_cases O:X.length - k<=n
 case' pos =>
  rw[if_pos O];refine yT (xF m H rfl (λx d=>z x (qI3 d)) (λx d=>u x (qI4 d)) (t.sublist (qH4 ..)) (v.sublist (qG1 ..)) (by simp;omega) (by simp;omega) V P λout K T o=>?_)
 case' neg =>
  rw[if_neg O];refine yT (xy m H rfl (λx d=>z x (qI3 d)) (λx d=>u x (qI4 d)) (t.sublist (qH4 ..)) (v.sublist (qG1 ..)) (by simp;omega) (by simp;omega) V P λout K T o=>?_)
 all_goals
  obtain⟨g',rfl⟩:=T.ss;refine yT (wJ (yT (fT (yY ?_))));have:=after out g' o;rw[SS,<- fo out o]at this;exact this
end
theorem xp(P T U:yI):mirror (P++(T++U)).toArray P.length (P.length+T.length) ((P.length+T.length - P.length) / 2)=(P++(T.reverse++U)).toArray:=by
 apply Array.ext_getElem?;intro k;rw[getElem?_mirror_all (by simp)];simp only[qD8];by_cases h:P.length<=k/\k<P.length+T.length
 .rw[if_pos h,qA0 (by omega),qA8 (by omega),qA0 (by omega),qA8 (by simp;omega),List.getElem?_reverse (by omega)];congr 1;omega
 .rw[if_neg h];by_cases a:k<P.length
  .rw[qA8 a,qA8 a]
  .rw[qA0 (by omega),qA0 (by omega),qA0 (by omega),qA0 (by simp;omega)];simp
theorem xo(P T U:yI)(e:yV):bubble (P++(T++(e::U))).toArray (P.length+T.length) T.length=(P++(e::(T++U))).toArray:=by
 apply Array.ext_getElem?;intro k;rw[getElem?_bubble (by simp) _ (by omega)];simp only[qD8,qN2];by_cases h:k=P.length
 .rw[if_pos h,qA0 (by omega),qA0 (by omega),qA0 (by omega),h];simp
 .rw[if_neg h];by_cases a:P.length<k/\k<=P.length+T.length
  .rw[if_pos a,qA0 (by omega),qA8 (by omega),qA0 (by omega)];obtain⟨m,rfl⟩:∃m,k=P.length+m+1:=⟨k - P.length - 1,by omega⟩
   rw[show P.length+m+1 - P.length=m+1 by omega,qF9,qA8 (by omega)];congr 1;omega
  .rw[if_neg a];by_cases b:k<P.length
   .rw[qA8 b,qA8 b]
   .obtain⟨m,rfl⟩:∃m,k=P.length+T.length+m+1:=⟨k - P.length - T.length - 1,by omega⟩
    rw[qA0 (by omega),qA0 (by omega),qA0 (by omega),show P.length+T.length+m+1 - P.length - T.length=m+1 by omega,show P.length+T.length+m+1 - P.length=T.length+m+1 by omega,qF9,qF9,qA0 (by omega)];congr 1;omega
section
variable {prog:y4}{w:jD}{A:jC}{E:yL}{s:yS}{κ:wA}{lt:yV->yV->Bool}{G:yV->Prop}{p:List XY}{g:Nat}
theorem Qr{l:yI}{i j:Nat}{x y:yV}{Q:Option Bool->jF->Prop}(d:YP prog w A s κ lt G)(b:∀x∈l,G x)(a:l[i]?=Z9 x)(c:l[j]?=Z9 y)(h:Q (Z9 (lt x y)) (SS κ l p g)):wpS (yW prog w) A E s (ltAt' i j) Q (SS κ l p g):=by refine yT (fT ?_);refine yT (Xu (by rw[qD8];exact a) (yT (Xu (by rw[qD8];exact c) ?_)));exact QE d rfl (b x (qB6 a)) (b y (qB6 c)) h
theorem Qq{P T U:yI}{i j:Nat}{Q:Unit->jF->Prop}(hi:i=P.length)(a:j=P.length+T.length)(h:Q () (SS κ (P++(T.reverse++U)) p g)):wpS (yW prog w) A E s (mP i j) Q (SS κ (P++(T++U)) p g):=by
 subst hi a;rw[reverseSlice'_eq];refine wJ ?_;have e:setArr (SS κ (P++(T++U)) p g) (mirror (arrOf (SS κ (P++(T++U)) p g)) P.length (P.length+T.length) ((P.length+T.length - P.length) / 2))=SS κ (P++(T.reverse++U)) p g:=by rw[xp]
 rw[e];exact h
theorem xl{P T U:yI}{e:yV}{i j:Nat}{Q:Unit->jF->Prop}(hi:i=P.length+T.length)(b:j=P.length)(h:Q () (SS κ (P++(e::(T++U))) p g)):wpS (yW prog w) A E s (moveDown' i j) Q (SS κ (P++(T++(e::U))) p g):=by
 subst hi b;rw[moveDown'_eq];refine wJ ?_;have a:setArr (SS κ (P++(T++(e::U))) p g) (bubble (arrOf (SS κ (P++(T++(e::U))) p g)) (P.length+T.length) (P.length+T.length - P.length))=SS κ (P++(e::(T++U))) p g:=by rw[qK5,xo]
 rw[a];exact h
theorem Gz{a D U:yI}{lo n:Nat}{Q:Option (yK)×Nat->jF->Prop}(o:Ym lt)(K:YP prog w A s κ lt G)(L:∀x∈a++(D++U),G x)(l:lo=a.length)(H:n=D.length+U.length)(M:0<D.length)(t:Y6 lt D)
  (h:∀V W,U=V++W->Y6 lt (D++V)->(W=[]∨∃e J,W=e::J/\∃z,(D++V)[(D++V).length - 1]?=Z9 z/\lt e z=Z7)->Q (Z8,D.length+V.length) (SS κ (a++(D++U)) p g)) :
  wpS (yW prog w) A E s (forIn [D.length:n] (Z8,D.length) λ_ (c:Option (yK)×Nat)=>ltAt' (lo+c.2) (lo+c.2 - 1) >>= λr=>match r with
   |some b=>if b=Z7 then pure (ForInStep.done (Z8,c.2))else pure (ForInStep.yield (Z8,c.2+1))
   | _=>pure (ForInStep.done (Z9 Z8,c.2))) Q (SS κ (a++(D++U)) p g):=by
 subst l H;refine jT (I:=λx c d=>d=SS κ (a++(D++U)) p g/\c=(Z8,x)/\∃V W,U=V++W/\x=D.length+V.length/\Y6 lt (D++V)) ?_ ?_ ⟨rfl,rfl,[],U,rfl,rfl,by simpa using t⟩
 .rintro x c d _ j ⟨rfl,rfl,V,W,rfl,rfl,f⟩;cases W with
  |nil=>simp at j
  |cons e W =>
   have B:(D++V).length - 1<(D++V).length:=by simp;omega
   obtain⟨z,k⟩:∃z,(D++V)[(D++V).length - 1]?=Z9 z:=⟨_,qA6 B⟩
   have i:=k;rw[qC1]at i;refine yT (Qr K L (x:=e) (y:=z) ?_ ?_ ?_)
   .rw[qA0 (by omega),qA0 (by omega),qA0 (by omega)];rw[show a.length+(D.length+V.length) - a.length - D.length - V.length=0 by omega];rfl
   .rw[<- qC0 D,qA0 (by omega),qA8 (by simp;omega),<- i];congr 1;omega
   .cases m:lt e z with
    |true=>exact yY (h V (e::W) rfl f (.inr ⟨e,W,rfl,z,k,m⟩))
    |false =>
     refine yY ⟨rfl,rfl,V++[e],W,by simp,by simp;omega,?_⟩;rw[<- qC0];refine qC2.mpr ⟨f,qE5 ..,λu C v F=>?_⟩;have:=qB8.mp F;subst this;have q:=N9 o f (by omega) u C;rw[<- (qA1.mp k).2]at m;exact o.tr _ _ _ q m
 .rintro c d ⟨rfl,rfl,V,W,rfl,j,f⟩;have:W=[]:=by
   cases W with
   |nil=>rfl
   |cons e W=>simp at j
  subst this;rw[j];exact h V [] rfl f (.inl rfl)
end
structure WN(lt:yV->yV->Bool)(R D1 T U:yI):Prop where
 pm:(D1++(T++U)).Perm R
 ds:Y6 (λx y=>lt y x) (D1++T)
 t0:0<T.length
 eq:∀u∈T,∀v∈T,lt u v=Z5
section
variable {lt:yV->yV->Bool}{R D1 T U:yI}{e t:yV}
theorem WN.last(h:WN lt R D1 T (e::U))(a:Ym lt)(ht:(D1++T)[(D1++T).length - 1]?=Z9 t)(k:lt t e=Z5):∀d∈D1++T,lt d e=Z5:=by intro d b;have q:=N9 a.flip h.ds (by have:=h.t0;simp;omega) d b;rw[(qA1.mp ht).2]at q;exact a.tr e t d k q
theorem WN.rev(h:WN lt R D1 T U):Y6 (λx y=>lt y x) (D1++T.reverse):=by obtain⟨a,b,c⟩:=qC2.mp h.ds;refine qC2.mpr ⟨a,qK8 λu f v i=>h.eq u (by simpa using f) v (by simpa using i),λx d y g=>c x d y (by simpa using g)⟩
theorem WN.one(h:WN lt R D1 T (e::U))(q:∀d∈D1++T,lt d e=Z5)(b:Ym lt):WN lt R (D1++T) [e] U:=by
 refine⟨by simpa using h.pm,qC2.mpr ⟨h.ds,qE5 ..,λx a y f=>?_⟩,by simp,λu c v g=>?_⟩
 .rw[qB8.mp f];exact q x a
 .rw[qB8.mp c,qB8.mp g];exact b.rf _
theorem WN.oneR(h:WN lt R D1 T (e::U))(q:∀d∈D1++T,lt d e=Z5)(b:Ym lt):WN lt R (D1++T.reverse) [e] U:=by
 refine⟨?_,qC2.mpr ⟨h.rev,qE5 ..,λx a y f=>?_⟩,by simp,λu c v g=>?_⟩
 .rw[qC0];exact((List.Perm.refl D1).append (T.reverse_perm.append (List.Perm.refl _))).trans h.pm
 .rw[qB8.mp f];refine q x ?_;rcases qB9.mp a with a|a
  .exact qE9 _ a
  .exact qC4 _ (by simpa using a)
 .rw[qB8.mp c,qB8.mp g];exact b.rf _
theorem WN.more(h:WN lt R D1 T (e::U))(q:∀d∈D1++T,lt d e=Z5)(c:Ym lt)(ht:(D1++T)[(D1++T).length - 1]?=Z9 t)(k:lt e t=Z5):WN lt R D1 (T++[e]) U:=by
 have g:=by rw[qA0 (by have:=h.t0;simp;omega)]at ht;exact qB6 ht
 refine⟨by simpa using h.pm,?_,by simp,?_⟩
 .rw[<- qC0];exact qC2.mpr ⟨h.ds,qE5 ..,λx f y i=>by rw[qB8.mp i];exact q x f⟩
 .intro u a v b;rcases qB9.mp a with a|a<;>rcases qB9.mp b with b|b
  .exact h.eq u a v b
  .rw[qB8.mp b];exact q u (qC4 _ a)
  .rw[qB8.mp a];exact c.tr v t e (h.eq t g v b) k
  .rw[qB8.mp a,qB8.mp b];exact c.rf _
end
section
variable {prog:y4}{w:jD}{A:jC}{E:yL}{s:yS}{κ:wA}{lt:yV->yV->Bool}{G:yV->Prop}{p:List XY}{g:Nat}
def Gy(b:wA)(lt:yV->yV->Bool)(a R:yI)(p:List XY)(g:Nat)(Q:yK->jF->Prop):Prop :=
 ∀N W,(N++W).Perm R->0<N.length->Y6 lt N->Q (Z9 N.length) (SS b (a++(N++W)) p g)
theorem Gx{a R b:yI}(c:∀x∈a++R,G x)(h:b.Perm R):∀x∈a++b,G x:=by grind
noncomputable def Lp(lo a n:Nat):StateT jF Sem (Option (yK)×Nat):=forIn [a:n] (Z8,a) λ_ (c:Option (yK)×Nat)=>ltAt' (lo+c.2) (lo+c.2 - 1) >>= λr=>match r with
 |some b=>if b=Z7 then pure (ForInStep.done (Z8,c.2))else pure (ForInStep.yield (Z8,c.2+1))
 |_=>pure (ForInStep.done (Z9 Z8,c.2))
noncomputable def Lo(lo m n:Nat):StateT jF Sem (Option (yK)×Nat×Nat):=forIn [m:n] (Z8,m,0) λ_ (c:Option (yK)×Nat×Nat)=>ltAt' (lo+c.2.1) (lo+c.2.1 - 1) >>= λr=>match r with
 |some a=>if a=Z7 then ite (c.2.2>0) (mP (lo+c.2.1 - (c.2.2+1)) (lo+c.2.1) >>= λ_=>pure (ForInStep.yield (Z8,c.2.1+1,0))) (pure (ForInStep.yield (Z8,c.2.1+1,0)))
  else ltAt' (lo+c.2.1 - 1) (lo+c.2.1) >>= λr=>match r with
   |some b=>if b=Z7 then pure (ForInStep.done (Z8,c.2.1,c.2.2))else pure (ForInStep.yield (Z8,c.2.1+1,c.2.2+1))
   |_=>pure (ForInStep.done (Z9 Z8,c.2.1,c.2.2))
 |_=>pure (ForInStep.done (Z9 Z8,c.2.1,c.2.2))
theorem Gw{b R a T U:yI}{lo n:Nat}{Q:Option (yK)×Nat×Nat->jF->Prop}(j:Ym lt)(z:YP prog w A s κ lt G)(K:∀x∈b++R,G x)(r:lo=b.length)(H:n=R.length)(d:WN lt R a T U)(i:T.length=1)
  {m:Nat} (hm:m=(a++T).length) (h:∀a T U q,WN lt R a T U->T.length=q+1->Q (Z8,(a++T).length,q) (SS κ (b++(a++(T++U))) p g)):wpS (yW prog w) A E s (Lo lo m n) Q (SS κ (b++(a++(T++U))) p g):=by
 subst r H hm;refine vE (jT (I:=λx c f=>∃a T U q,c=(Z8,x,q)/\f=SS κ (b++(a++(T++U))) p g/\WN lt R a T U/\(a++T).length=x/\T.length=q+1)
  (Q:=λc f=>∃a T U q,c=(Z8,(a++T).length,q)/\f=SS κ (b++(a++(T++U))) p g/\WN lt R a T U/\T.length=q+1) ?_ ?_ ⟨a,T,U,0,rfl,rfl,d,rfl,i⟩) ?_
 .rintro x c f _ o ⟨a,T,U,q,rfl,rfl,d,rfl,i⟩;dsimp only;have L:=d.pm.length_eq;cases U with
  |nil=>simp at L o;omega
  |cons e U =>
   have F:(a++T).length - 1<(a++T).length:=by simp;omega
   obtain⟨t,l⟩:∃t,(a++T)[(a++T).length - 1]?=Z9 t:=⟨_,qA6 F⟩
   have B:(b++(a++(T++e::U)))[b.length+(a++T).length]?=Z9 e:=by rw[<- qC0 a,qA0 (by omega),qA0 (by omega),show b.length+(a++T).length - b.length - (a++T).length=0 by omega];rfl
   have C:(b++(a++(T++e::U)))[b.length+(a++T).length - 1]?=Z9 t:=by rw[<- qC0 a,qA0 (by omega),qA8 (by omega),<- l];congr 1;omega
   have k:=Gx K d.pm;refine yT (Qr z k B C ?_);cases y:lt e t with
   |true =>
    have v:=d.last j l (j.as _ _ y);simp only[if_true];by_cases u:q>0
    .rw[if_pos u];have J:b++(a++(T++e::U))=(b++a)++(T++e::U):=by simp
     rw[J];refine yT (Qq (by simp;omega) (by simp;omega) (yY ⟨a++T.reverse,[e],U,0,rfl,by simp,d.oneR v j,by simp;omega,rfl⟩))
    .rw[if_neg u];exact yY ⟨a++T,[e],U,0,rfl,by simp,d.one v j,by simp;omega,rfl⟩
   |false =>
    refine yT (Qr z k C B ?_);cases D:lt t e with
    |true=>exact yY ⟨a,T,e::U,q,rfl,rfl,d,i⟩
    |false=>exact yY ⟨a,T++[e],U,q+1,rfl,by simp,d.more (d.last j l D) j l y,by simp;omega,by simp[i]⟩
 .rintro c f ⟨a,T,U,q,rfl,rfl,d,o,i⟩;exact⟨a,T,U,q,by rw[o],rfl,d,i⟩
 rintro c f ⟨a,T,U,q,rfl,rfl,d,i⟩;exact h a T U q d i
theorem N8{b R D U:yI}{lo n a:Nat}{Q:yK->jF->Prop}{K:Option (yK)×Nat->StateT jF Sem (yK)}(u:∀m st,Q (Z9 m) st->wpS (yW prog w) A E s (K (Z8,m)) Q st)(f:Ym lt)(q:YP prog w A s κ lt G)(t:∀x∈b++R,G x)(d:lo=b.length)(o:n=R.length)(h:Gy κ lt b R p g Q)
  (i:Y6 (λx y=>lt y x) D) (k:a=D.length) (l:0<D.length) (v:(D++U).Perm R):wpS (yW prog w) A E s (mP lo (lo+a) >>= λ_=>Lp lo a n >>= K) Q (SS κ (b++(D++U)) p g):=by
 subst k d o;refine yT (Qq rfl rfl ?_);have c:=(D.reverse_perm.append (List.Perm.refl U)).trans v;have r:D.length=D.reverse.length:=by simp
 rw[r];refine yT (Gz f q (Gx t c) rfl (by rw[<- c.length_eq];simp) (by simp[l]) i.rev λV W e j _=>?_);subst e;have:=h (D.reverse++V) W (by simpa using c) (by simp;omega) j;simp only[qC0,qC1]at this;exact u _ _ this
theorem xj{f R:yI}{lo n:Nat}{Q:yK->jF->Prop}(j:Ym lt)(B:YP prog w A s κ lt G)(C:∀x∈f++R,G x)(i:lo=f.length)(t:n=R.length)(hR:0<R.length)(h:Gy κ lt f R p g Q):
  wpS (yW prog w) A E s (countRun' lo n) Q (SS κ (f++R) p g):=by
 obtain⟨r,R',rfl⟩:∃r R',R=r::R':=by cases R with
  |nil=>simp at hR
  |cons r R=>exact⟨r,R,rfl⟩
 refine yT (Gz j B C i (by rw[t];simp;omega) (by simp) (qE5 ..) λV W e L ho=>?_);subst e;dsimp only;by_cases N:([r].length+V.length == n)=Z7
 .rw[if_pos N];have:=h ([r]++V) W (by simp) (by simp) L;simp only[qC1]at this;exact yY this
 rw[if_neg N];rcases ho with rfl|⟨e,W',rfl,z,K,X⟩
 .exfalso;apply N;rw[t];simp;omega
 have P:∀x∈f++(([r]++V)++e::W'),G x:=by simpa using C
 rw[show f++([r]++(V++e::W'))=f++(([r]++V)++e::W') by simp];have Y:∀H,(H++e::W').Perm (r::(V++e::W'))->(∀u∈H,∀v∈H,lt u v=Z5)->(∀d∈H,lt d e=Z5)->WN lt (r::(V++e::W')) H [e] W':=λH a b c =>
  ⟨by simpa using a,qC2.mpr ⟨qK8 b,qE5 ..,λx hx y hy=>by rw[qB8.mp hy];exact c x hx⟩,by simp,λu o v F=>by rw[qB8.mp o,qB8.mp F];exact j.rf _⟩
 by_cases J:[r].length+V.length>1
 .rw[if_pos J];refine yT (Qr B P (x:=r) (by rw[i,qA0 (by omega)];simp) (by
   rw[i,qA0 (by omega),qA8 (by simp at J ⊢;omega),<- K];congr 1;simp;omega) ?_)
  cases e3:lt r z with
  |true =>
   have:=h ([r]++V) (e::W') (by simp) (by simp) L;simp only[qC1]at this ⊢;exact yY this
  |false =>
   have Z:=λu o=>by have:=N9 j L (by simp) u o;rwa[(qA1.mp K).2]at this
   have z2:=λu o=>GA j L (by simp) u o;have S:=λu o v F=>j.tr v r u (j.tr v z r (Z v F) e3) (z2 u o);have zm:=qB6 K;refine yT (Qq i (by simp;omega) ?_);have M:=Y ([r]++V).reverse (by
    have:=((([r]++V).reverse_perm).append (List.Perm.refl (e::W')))
    simpa using this) (λu o v F=>S u (qI9.mp o) v (qI9.mp F)) (λd O=>j.tr e z d (j.as _ _ X) (S d (qI9.mp O) z zm))
   refine yT (f8 (vP ⟨rfl,?_⟩));refine yT (Gw j B (by simpa using C) i t M rfl (by simp;omega) λk T U q l hT=>?_);dsimp only;by_cases I:q>0
   .rw[if_pos I,show f++(k++(T++U))=(f++k)++(T++U) by simp];refine yT (Qq (by simp;omega) (by simp;omega) ?_);rw[show(f++k)++(T.reverse++U)=f++((k++T.reverse)++U) by simp];exact N8 (λm st D=>yY D) j B (by simpa using C) i t h l.rev (by simp) (by have:=l.t0;simp;omega) (by rw[qC0];exact((List.Perm.refl k).append (T.reverse_perm.append (List.Perm.refl _))).trans l.pm)
   .rw[if_neg I,show f++(k++(T++U))=f++((k++T)++U) by simp];exact N8 (λm st D=>yY D) j B (by simpa using C) i t h l.ds rfl (by have:=l.t0;simp;omega) (by simpa using l.pm)
 .rw[if_neg J];have hV:V=[]:=by cases V with
   |nil=>rfl
   |cons v V=>simp at J
  subst hV;have M:=Y [r] (by simp) (λu o v F=>by rw[qB8.mp o,qB8.mp F];exact j.rf _) (λd O=>by
   rw[qB8.mp O];have:=by simpa using K.symm
   rw[<- this];exact j.as _ _ X)
  refine yT (f8 (vP ⟨rfl,?_⟩));refine yT (Gw j B (by simpa using C) i t M rfl (by simp) λk T U q l hT=>?_);dsimp only;by_cases I:q>0
  .rw[if_pos I,show f++(k++(T++U))=(f++k)++(T++U) by simp];refine yT (Qq (by simp;omega) (by simp;omega) ?_);rw[show(f++k)++(T.reverse++U)=f++((k++T.reverse)++U) by simp];exact N8 (λm st D=>yY D) j B (by simpa using C) i t h l.rev (by simp) (by have:=l.t0;simp;omega) (by rw[qC0];exact((List.Perm.refl k).append (T.reverse_perm.append (List.Perm.refl _))).trans l.pm)
  .rw[if_neg I,show f++(k++(T++U))=f++((k++T)++U) by simp];exact N8 (λm st D=>yY D) j B (by simpa using C) i t h l.ds rfl (by have:=l.t0;simp;omega) (by simpa using l.pm)
end
section
variable {prog:y4}{w:jD}{A:jC}{E:yL}{s:yS}{κ:wA}{lt:yV->yV->Bool}{G:yV->Prop}{p:List XY}{g:Nat}
theorem xi{S:yI}{e:yV}{l:Nat}(c:Ym lt)(m:Y6 lt S)(k:∀x∈S.take l,lt e x=Z5)(h:∀x∈S.drop l,lt e x=Z7):Y6 lt (S.take l++(e::S.drop l)):=by
 have f:Y6 lt (S.take l++S.drop l):=by rw[qD1];exact m
 obtain⟨i,j,d⟩:=qC2.mp f;refine qC2.mpr ⟨i,qK2.mpr ⟨λy a=>c.as _ _ (h y a),j⟩,λx b y a=>?_⟩;rcases qA9.mp a with rfl|a
 .exact k x b
 .exact d x b y a
theorem xh{d S U b:yI}{lo n ok:Nat}{Q:Bool->jF->Prop}(v:Ym lt)(Z:YP prog w A s κ lt G)(gl:∀x∈d++(S++(U++b)),G x)(J:lo=d.length)(Y:n=S.length+U.length)(M:ok=S.length)(h0:0<S.length)(sS:Y6 lt S)
  (h:∀N,N.Perm (S++U)->Y6 lt N->Q Z7 (SS κ (d++(N++b)) p g)):wpS (yW prog w) A E s (binarySort' lo n ok) Q (SS κ (d++(S++(U++b))) p g):=by
 subst J Y M;rw[binarySort'_eq];rw[show max S.length 1=S.length by omega];refine yT (vE (jT (I:=λk c o=>c=(Z8,())/\∃a j,k=a.length/\(a++j).Perm (S++U)/\Y6 lt a/\o=SS κ (d++(a++(j++b))) p g)
  (Q:=λc o=>c=(Z8,())/\∃N,N.Perm (S++U)/\Y6 lt N/\o=SS κ (d++(N++b)) p g) ?_ ?_ ⟨rfl,S,U,rfl,.refl _,sS,rfl⟩) ?_)
 .rintro k c o X V ⟨rfl,a,j,rfl,u,t,rfl⟩;have L:=u.length_eq;cases j with
  |nil=>simp at L;omega
  |cons e j =>
  have O:∀x∈d++(a++(e::j++b)),G x:=λx m=>gl x (by
   rcases qB9.mp m with m|m
   .exact qE9 _ m
   .refine qC4 _ ?_;rw[<- qC0]at m ⊢;rcases qB9.mp m with m|m
    .exact qE9 _ (u.mem_iff.mp m)
    .exact qC4 _ m)
  refine yT (vE (jT (I:=λx c f=>f=SS κ (d++(a++(e::j++b))) p g/\∃l r,c=(Z8,l,r)/\l<=r/\r<=a.length/\r - l<=a.length - x /\
    (∀i,(q:i<a.length)->i<l->lt e a[i]=Z5)/\(∀i,(q:i<a.length)->r<=i->lt e a[i]=Z7))
   (Q:=λc f=>f=SS κ (d++(a++(e::j++b))) p g/\∃l r,c=(Z8,l,r)/\l<=a.length /\
    (∀i,(q:i<a.length)->i<l->lt e a[i]=Z5)/\(∀i,(q:i<a.length)->l<=i->lt e a[i]=Z7)) ?_ ?_ ⟨rfl,0,a.length,rfl,by omega,by omega,by omega,λi q h=>(by omega),λi q h=>(by omega)⟩) ?_)
  .rintro x c f _ m ⟨rfl,l,r,rfl,H,B,P,D,C⟩;dsimp only;by_cases F:l≥r
   .rw[if_pos F];have:l=r:=by omega
    subst this;exact yY ⟨rfl,l,l,rfl,B,D,C⟩
   .rw[if_neg F];refine yT (Qr Z O (x:=e) (y:=a[(l+r) / 2]'(by omega)) ?_ ?_ ?_)
    .rw[qA0 (by omega),qA0 (by omega),show d.length+a.length - d.length - a.length=0 by omega];rfl
    .rw[qA0 (by omega),qA8 (by omega),qK5];exact qA6 (by omega)
    .cases K:lt e (a[(l+r) / 2]'(by omega))with
     |true =>
      refine yY ⟨rfl,l,(l+r) / 2,rfl,by omega,by omega,by omega,D,λi q W=>?_⟩;cases T:lt e a[i]with
      |true=>rfl
      |false =>
       have:=UG v t (i:=(l+r) / 2) (by omega) (v.rf _) a[i] (by
        rw[qH2];exact⟨i - (l+r) / 2,by simp;omega,by simp only[qN7];congr 1;omega⟩)
       rw[v.tr _ _ _ this T]at K;cases K
     |false =>
      refine yY ⟨rfl,(l+r) / 2+1,r,rfl,by omega,by omega,by omega,λi q W=>?_,C⟩;have:=UG v t q (v.rf _) (a[(l+r) / 2]'(by omega)) (by
        rw[qH2];exact⟨(l+r) / 2 - i,by simp;omega,by simp only[qN7];congr 1;omega⟩)
      exact v.tr _ _ _ this K
  .rintro c f ⟨rfl,l,r,rfl,H,B,P,D,C⟩;have:l=r:=by omega
   subst this;exact⟨rfl,l,l,rfl,B,D,C⟩
  .rintro c f ⟨rfl,l,r,rfl,hl,D,C⟩;have e0:d++(a++(e::j++b))=(d++a.take l)++(a.drop l++(e::(j++b))):=by
    conv=>lhs;rw[<- qD1 l a]
    simp only[qC0,qG7]
   rw[e0];refine yT (xl (by simp;omega) (by simp;omega) (yY ⟨rfl,a.take l++(e::a.drop l),j,by simp;omega,?_,xi v t (λx m=>?_) (λx m=>?_),by simp⟩))
   .refine List.Perm.trans ?_ u;have:(a++e::j)=a.take l++(a.drop l++(e::j)):=by rw[<- qC0,qD1]
    rw[this,qC0];refine(List.Perm.refl _).append ?_;exact List.perm_middle.symm
   .obtain⟨i,q,z,rfl⟩:=Lr m;exact D i q z
   .obtain⟨i,q,z,rfl⟩:=Lq m;exact C i q z
 .rintro c o ⟨rfl,a,j,hk,u,t,rfl⟩;have L:=u.length_eq;have:j=[]:=by
   cases j with
   |nil=>rfl
   |cons e j=>simp at L;omega
  subst this;exact⟨rfl,a,by simpa using u,t,by simp⟩
 .rintro c o ⟨rfl,N,u,R,rfl⟩;exact yY (h N u R)
end
abbrev Rn:=List (yI×Nat)
noncomputable def Zv:Rn->yI
 |[]=>[]
 |r::rs=>r.1++Zv rs
noncomputable def YO:Nat->Rn->List XY
 |_,[]=>[]
 |o,r::rs=>(o,r.1.length,r.2)::YO (o+r.1.length) rs
theorem UE:∀(a b:Rn),Zv (a++b)=Zv a++Zv b
 |[],_=>rfl
 |r::a,b=>by rw[qG7,Zv,UE a b,Zv,qC0]
theorem T2:∀(o:Nat) (a b:Rn),YO o (a++b)=YO o a++YO (o+(Zv a).length) b
 |o,[],b=>by simp[YO,Zv]
 |o,r::a,b=>by rw[qG7,YO,T2 (o+r.1.length) a b,YO,Zv,qC1,qG7,Nat.add_assoc]
theorem RI:∀(o:Nat) (a:Rn),(YO o a).length=a.length
 |_,[]=>rfl
 |o,r::a=>by rw[YO,qC3,RI,qC3]
structure Yd(lt:yV->yV->Bool)(rs:Rn):Prop where
 s:∀r∈rs,Y6 lt r.1
 p:∀r∈rs,0<r.1.length
theorem Yd.len{lt:yV->yV->Bool}:∀{rs:Rn},Yd lt rs->rs.length<=(Zv rs).length
 |[],_=>qA7 _
 |r::rs,h=>by have:=Yd.len (rs:=rs) ⟨λx a=>h.s x (qD0 _ a),λx a=>h.p x (qD0 _ a)⟩;have:=h.p r (qF7 ..);rw[Zv,qC1,qC3];omega
theorem xf{rs:Rn}{i:Nat}(h:i+1<rs.length):∃a x y b,rs=a++x::y::b/\a.length=i:=by refine⟨rs.take i,rs[i],rs[i+1],rs.drop (i+2),?_,by simp;omega⟩;rw[<- qE6,<- qE6,qD1]
theorem Gv{rs:Rn}(h:rs≠[]):∃a x,rs=a++[x]:=⟨rs.dropLast,rs.getLast h,(List.dropLast_concat_getLast h).symm⟩
theorem Gu:∀(l:List XY) (u:XY) (f:XY->XY),(l++[u]).modify l.length f=l++[f u]
 |[],u,f=>by simp
 |v::l,u,f=>by rw[qG7,qC3,List.modify_succ_cons,Gu l u f,qG7]
theorem xb{c:Prop}[Decidable c]{n:Nat}(h:1<n):(if c then n - 2 - 1 else n - 2)+1<n:=by split<;>omega
section
variable {prog:y4}{w:jD}{A:jC}{E:yL}{s:yS}{κ:wA}{lt:yV->yV->Bool}{G:yV->Prop}
noncomputable abbrev Xa(a:wA)(rs:Rn)(ZG:yI)(g:Nat):SortSt:=SS a (Zv rs++ZG) (YO 0 rs) g
end
section
variable {prog:y4}{w:jD}{A:jC}{E:yL}{s:yS}{κ:wA}{lt:yV->yV->Bool}{G:yV->Prop}
theorem Gs{rs:Rn}{ZG:yI}{g i:Nat}{Q:Bool->jF->Prop}(u:Ym lt)(y:YP prog w A s κ lt G)(t:∀x∈Zv rs++ZG,G x)(e:Yd lt rs)(hi:i+1<rs.length)
  (h:∀d g',Yd lt d->(Zv d).Perm (Zv rs)->d.length+1=rs.length->Q Z7 (Xa κ d ZG g')):wpS (yW prog w) A E s (mergeAt' i) Q (Xa κ rs ZG g):=by
 obtain⟨a,⟨X,c⟩,⟨Y,q⟩,r2,rfl,rfl⟩:=xf hi;have k:(X,c)∈a++(X,c)::(Y,q)::r2:=by simp
 have n:(Y,q)∈a++(X,c)::(Y,q)::r2:=by simp
 have p:Zv (a++(X,c)::(Y,q)::r2)++ZG=Zv a++(X++(Y++(Zv r2++ZG))):=by rw[UE,Zv,Zv];simp
 have v:YO 0 (a++(X,c)::(Y,q)::r2)=YO 0 a++((Zv a).length,X.length,c)::((Zv a).length+X.length,Y.length,q)::YO ((Zv a).length+X.length+Y.length) r2:=by rw[T2,YO,YO];simp
 have j:Xa κ (a++(X,c)::(Y,q)::r2) ZG g=SS κ (Zv a++(X++(Y++(Zv r2++ZG)))) (YO 0 a++((Zv a).length,X.length,c)::((Zv a).length+X.length,Y.length,q)::YO ((Zv a).length+X.length+Y.length) r2) g:=by unfold Xa;rw[p,v]
 rw[j];rw[p]at t;refine xq u y t (e.s _ k) (e.s _ n) (e.p _ k) (e.p _ n) rfl (RI ..).symm λZZ g' f=>?_;have o:=f.pm.length_eq;rw[qC1]at o;have b:=h (a++(ZZ,c)::r2) g' ⟨λr b=>?_,λr b=>?_⟩ ?_ (by simp;omega)
 .have l:Zv (a++(ZZ,c)::r2)++ZG=Zv a++(ZZ++(Zv r2++ZG)):=by rw[UE,Zv];simp
  have m:YO 0 (a++(ZZ,c)::r2)=YO 0 a++((Zv a).length,X.length+Y.length,c)::YO ((Zv a).length+X.length+Y.length) r2:=by rw[T2,YO];simp only[qQ7];rw[o,Nat.add_assoc]
  unfold Xa at b;rw[l,m]at b;exact b
 .rcases qB9.mp b with b|b
  .exact e.s r (by simp[b])
  .rcases qA9.mp b with rfl|b
   .exact f.so
   .exact e.s r (by simp[b])
 .rcases qB9.mp b with b|b
  .exact e.p r (by simp[b])
  .rcases qA9.mp b with rfl|b
   .have:=e.p _ k;show 0<ZZ.length;simp at this;omega
   .exact e.p r (by simp[b])
 .rw[UE,UE,Zv,Zv,Zv];refine(List.Perm.refl _).append ?_;rw[<- qC0];exact f.pm.append (List.Perm.refl _)
theorem xa{rs:Rn}{i:Nat}(h:i<rs.length):∃o,(YO 0 rs).toArray[i]?=Z9 (o,rs[i].1.length,rs[i].2):=by
 have e:rs=rs.take i++rs[i]::rs.drop (i+1):=by rw[<- qE6,qD1]
 refine⟨(Zv (rs.take i)).length,?_⟩;rw[qD8]
 conv=>lhs;rw[e]
 rw[T2,qA0 (by rw[RI,qH9];exact Nat.min_le_left ..),RI,YO];simp[qO5 (qH0 h)]
noncomputable def N7(n lo k:Nat):StateT jF Sem (ForInStep (Option Unit×Nat)):=get >>= λst=>match (vH st).back? with
 | some (a,n1,_)=>(forIn [:n] ((Z8,()):Option Unit×Unit) λ_ _=>get >>= λst=>match (if(vH st).size>1 then(vH st)[(vH st).size - 2]? else Z8)with
   |some (_,_,older)=>if older<=power' n (2*a+n1) (2*a+n1+n1+k) n then pure (ForInStep.done (Z8,()))else mergeAt' ((vH st).size - 2) >>= λb=>if(!b)=Z7 then pure (ForInStep.done (Z9 (),()))else pure (ForInStep.yield (Z8,()))
   | _=>pure (ForInStep.done (Z8,()))) >>= λc=>match c.1 with
   |some r=>pure (ForInStep.done (Z9 r,lo))
   |none=>(modify λs=>f9 s ((vH s).modify ((vH s).size - 1) λx=>(x.1,x.2.1,power' n (2*a+n1) (2*a+n1+n1+k) n))) >>= λ_=>(modify λs=>f9 s ((vH s).push (lo,k,0))) >>= λ_=>pure (ForInStep.yield (Z8,lo+k))
 |_=>(modify λs=>f9 s ((vH s).push (lo,k,0))) >>= λ_=>pure (ForInStep.yield (Z8,lo+k))
theorem Gr{α:Type}{m m':StateT jF Sem α}{Q:α->jF->Prop}{st:jF}(e:m=m')(h:wpS (yW prog w) A E s m' Q st):wpS (yW prog w) A E s m Q st:=e▸h
theorem Gq{rs:Rn}{M V:yI}{n g:Nat}{P:ForInStep (Option Unit×Nat)->jF->Prop}(C:Ym lt)(K:YP prog w A s κ lt G)(L:∀x∈Zv rs++(M++V),G x)(B:Yd lt rs)
  (h:∀a g',Yd lt a->(Zv a).Perm (Zv rs)->P (.yield (Z8,(Zv rs).length+M.length)) (SS κ (Zv a++(M++V)) (YO 0 a++[((Zv rs).length,M.length,0)]) g')):wpS (yW prog w) A E s (N7 n (Zv rs).length M.length) P (Xa κ rs (M++V) g):=by
 unfold N7;refine yT (fT ?_);by_cases m:rs=[]
 .subst m;exact yT (wJ (yY (h [] g B (.refl _))))
 obtain⟨H,y,e⟩:=Gv m;have D:(vH (Xa κ rs (M++V) g)).back?=Z9 ((Zv H).length,y.1.length,y.2):=by show(YO 0 rs).toArray.back?=_;rw[e,T2,YO,YO];simp
 rw[D];refine yT (vE (jT (I:=λ_ c f=>c=(Z8,())/\∃a g',f=Xa κ a (M++V) g'/\Yd lt a/\(Zv a).Perm (Zv rs)/\a≠[])
  (Q:=λc f=>c=(Z8,())/\∃a g',f=Xa κ a (M++V) g'/\Yd lt a/\(Zv a).Perm (Zv rs)/\a≠[]) ?_ (λc f h=>h) ⟨rfl,rs,g,rfl,B,.refl _,m⟩) ?_)
 .rintro i c f _ _ ⟨rfl,a,g',rfl,b,d,l⟩;refine yT (fT ?_);have O:(vH (Xa κ a (M++V) g')).size=a.length:=qB5.trans (RI ..);rw[O];by_cases z:a.length>1
  .rw[if_pos z];obtain⟨o,S⟩:=xa (rs:=a) (i:=a.length - 2) (by omega);rw[show(vH (Xa κ a (M++V) g'))[a.length - 2]?=_ from S];dsimp only;split
   .exact yY ⟨rfl,a,g',rfl,b,d,l⟩
   .refine yT (Gs C K (λx F=>L x (((d.append (List.Perm.refl _)).mem_iff).mp F)) b (by omega) λu N t v p=>?_);exact yY ⟨rfl,u,N,rfl,t,v.trans d,λe=>by subst e;simp at p;omega⟩
  .rw[if_neg z];exact yY ⟨rfl,a,g',rfl,b,d,l⟩
 .rintro c f ⟨rfl,a,g',rfl,b,d,l⟩;obtain⟨j,⟨Y,q⟩,rfl⟩:=Gv l;refine yT (wJ (yT (wJ (yY ?_))));generalize power' n _ _ n=pw;have J:(YO 0 (j++[(Y,q)])).toArray.modify ((YO 0 (j++[(Y,q)])).toArray.size - 1) (λx=>(x.1,x.2.1,pw))=(YO 0 (j++[(Y,pw)])).toArray:=by apply Array.ext';rw[T2,T2,YO,YO,YO,YO];simp[Gu]
  have R:f9 (Xa κ (j++[(Y,q)]) (M++V) g') ((YO 0 (j++[(Y,q)])).toArray.modify ((YO 0 (j++[(Y,q)])).toArray.size - 1) (λx=>(x.1,x.2.1,pw)))=Xa κ (j++[(Y,pw)]) (M++V) g':=by rw[J];unfold Xa;rw[UE,UE];rfl
  have:=h (j++[(Y,pw)]) g' ⟨λr k=>?_,λr k=>?_⟩ (by rw[UE]at d ⊢;exact d)
  .show P _ ((λst=>f9 st ((vH st).push ((Zv rs).length,M.length,0))) (f9 (Xa κ (j++[(Y,q)]) (M++V) g') ((YO 0 (j++[(Y,q)])).toArray.modify ((YO 0 (j++[(Y,q)])).toArray.size - 1) (λx=>(x.1,x.2.1,pw)))));rw[R];show P _ (SortSt.mk' κ _ ((YO 0 (j++[(Y,pw)])).toArray.push _) _ _);rw[List.push_toArray];exact this
  .rcases qB9.mp k with k|k
   .exact b.s r (by simp[k])
   .rw[qB8.mp k];exact b.s (Y,q) (by simp)
  .rcases qB9.mp k with k|k
   .exact b.p r (by simp[k])
   .rw[qB8.mp k];exact b.p (Y,q) (by simp)
theorem wz{l:yI}{Q:Unit->jF->Prop}(D:Ym lt)(H:YP prog w A s κ lt G)(gl:∀x∈l,G x)(h0:0<l.length)
  (h:∀C f,arrOf f=C.toArray->failedOf f=Z8->C.Perm l->Y6 lt C->Q () f):wpS (yW prog w) A E s sortRuns' Q (SS κ l [] 7):=by
 rw[sortRuns'_eq];refine yT (fT ?_);dsimp only;rw[show l.toArray.size=l.length from rfl];generalize minRun' l.length l.length 0=mr;have F:∀{C:yI},C.Perm l->∀x∈C,G x:=λU x S=>gl x (U.mem_iff.mp S);refine yT (vE (jT
  (I:=λx c f=>∃rs post g,c=(Z8,(Zv rs).length)/\f=Xa κ rs post g/\(Zv rs++post).Perm l/\Yd lt rs/\(x<=(Zv rs).length))
  (Q:=λc f=>∃rs g,c=(Z8,l.length)/\f=Xa κ rs [] g/\(Zv rs).Perm l/\Yd lt rs) ?_ ?_ ⟨[],l,7,rfl,rfl,.refl _,⟨λr k=>(by cases k),λr k=>(by cases k)⟩,qF8 _⟩) ?_)
 .rintro x c f _ S ⟨rs,post,g,rfl,rfl,o,u,U⟩;have Z:=o.length_eq;rw[qC1]at Z;by_cases J:(Zv rs).length≥l.length
  .rw[if_pos J];have e:post=[]:=qJ0.mp (by omega);subst e;refine yY ⟨rs,g,by rw[show(Zv rs).length=l.length by omega],rfl,by simpa using o,u⟩
  rw[if_neg J];refine yT (xj D H (F o) rfl (by omega) (by omega) λN W y P M=>?_);dsimp only;have lN:=y.length_eq;rw[qC1]at lN;have t:∀{N W:yI}{d:Rn}{n:Nat},(N++W).Perm post->0<N.length->Y6 lt N->Yd lt d->(Zv d).Perm (Zv rs)->∃m p g2,((Z8,(Zv rs).length+N.length):Option Unit×Nat)=(Z8,(Zv m).length)/\SS κ (Zv d++(N++W)) (YO 0 d++[((Zv rs).length,N.length,0)]) n=Xa κ m p g2/\(Zv m++p).Perm l/\Yd lt m/\x+1<=(Zv m).length:=by
   intro N W d n y P M j i;have O:Zv (d++[(N,0)])=Zv d++N:=by rw[UE,Zv,Zv,qF6]
   refine⟨d++[(N,0)],W,n,?_,?_,?_,⟨λr k=>?_,λr k=>?_⟩,?_⟩
   .rw[O,qC1,i.length_eq]
   .unfold Xa;rw[O,T2,YO,YO,qC0,qQ7,i.length_eq]
   .rw[O,qC0];exact(i.append y).trans o
   .rcases qB9.mp k with k|k
    .exact j.s r k
    .rw[qB8.mp k];exact M
   .rcases qB9.mp k with k|k
    .exact j.p r k
    .rw[qB8.mp k];exact P
   .rw[O,qC1,i.length_eq];omega
  by_cases K:N.length<mr
  .rw[if_pos K];refine yT (f8 (vP ⟨rfl,?_⟩));have eW:Zv rs++(N++W)=Zv rs++(N++(W.take (min (l.length - (Zv rs).length) mr - N.length)++W.drop (min (l.length - (Zv rs).length) mr - N.length))):=by rw[qD1]
   have gW:=F (((List.Perm.refl _).append y).trans o);rw[eW]at gW ⊢;refine yT (xh D H gW rfl (by simp;omega) rfl P M λL B X=>?_);have T:min (l.length - (Zv rs).length) mr=L.length:=by rw[B.length_eq];simp;omega
   have z:(L++W.drop (min (l.length - (Zv rs).length) mr - N.length)).Perm post:=by refine List.Perm.trans (B.append (List.Perm.refl _)) ?_;rw[qC0,qD1];exact y
   have hN2:0<L.length:=by rw[B.length_eq];simp;omega
   rw[T]at z ⊢;exact Gr (m':=N7 l.length (Zv rs).length L.length) (by kernel_rfl) (Gq D H (F (((List.Perm.refl _).append z).trans o)) u λd n a b=>t z hN2 X a b)
  .rw[if_neg K];exact Gr (m':=N7 l.length (Zv rs).length N.length) (by kernel_rfl) (Gq D H (F (((List.Perm.refl _).append y).trans o)) u λd n a b=>t y P M a b)
 .rintro c f ⟨rs,post,g,rfl,rfl,o,u,U⟩;have Z:=o.length_eq;rw[qC1]at Z;have e:post=[]:=qJ0.mp (by omega);subst e;exact⟨rs,g,by rw[show(Zv rs).length=l.length by omega],rfl,by simpa using o,u⟩
 rintro c f ⟨rs,g,rfl,rfl,o,u⟩;have l1:=u.len;rw[o.length_eq]at l1;refine yT (vE (jT (I:=λx c f=>c=(Z8,())/\∃d n,f=Xa κ d [] n/\Yd lt d/\(Zv d).Perm l/\d.length+x<=l.length+1)
  (Q:=λc f=>c=(Z8,())/\∃d n,f=Xa κ d [] n/\Yd lt d/\(Zv d).Perm l/\d.length<=1) ?_ ?_ ⟨rfl,rs,g,rfl,u,o,by omega⟩) ?_)
 .rintro x c f _ S ⟨rfl,d,n,rfl,j,i,v⟩;refine yT (fT ?_);have es:(YO 0 d).toArray.size=d.length:=qB5.trans (RI ..);rw[es];by_cases V:d.length<=1
  .rw[if_pos V];exact yY ⟨rfl,d,n,rfl,j,i,V⟩
  .rw[if_neg V];refine yT (Gs D H (F (by simpa using i)) j (xb (by omega)) λm g2 Y hp2 hl2=>?_);exact yY ⟨rfl,m,g2,rfl,Y,hp2.trans i,by omega⟩
 .rintro c f ⟨rfl,d,n,rfl,j,i,v⟩;exact⟨rfl,d,n,rfl,j,i,by omega⟩
 .rintro c f ⟨rfl,d,n,rfl,j,i,v⟩
  match d,v with
  |[],_ =>
   have:=i.length_eq;simp[Zv]at this;omega
  |[(R,q)],_ =>
   have hf:Zv [(R,q)]=R:=by simp[Zv]
   refine yY (h R _ ?_ rfl (by rw[hf]at i;exact i) (j.s (R,q) (qI8 _)));show(Zv [(R,q)]++[]).toArray=_;rw[hf,qF6]
end
section
variable {prog:y4}{w:jD}{A:jC}{E:yL}{s:yS}{r:yR}
theorem wy{T:String}{l:yR}{a:yB}{Q:yB->yS->Prop}{o:Obj}{n:Nat}(g:s.heap.get? l=Z9 o)(e:o.cls=.type T)(c:o.data=.seq a.toArray n)(f:T = "list"∨T = "tuple")
  (h:Q a { s with heap:=(s.heap.push (wI "list" #[] 0)).update s.heap.objs.size (wC (·++a.toArray)) }) (d:a.length<=jA) :
  y7 (yW prog w) A (collect (.ref l)) Q E s:=by
 refine yO (wpAny_runValue (wN entry_proto_collect' ?_));refine yO (gK (yP ⟨Code.quiet_builtin _ (by decide +kernel),wN entry_list_iadd' ?_⟩) (qF8 _));show y7 _ _ (Builtin.List.listExtendWith (.ref s.heap.objs.size) (.ref l) (.ref s.heap.objs.size)) _ _ { s with heap:=s.heap.push (wI "list" #[] 0) };have b:(s.heap.push (wI "list" #[] 0)).get? l=Z9 o:=qA4 _ g;refine yO (vX ⟨o,b,e⟩ ?_);have ht:(Builtin.List.listSameRef (.ref s.heap.objs.size) (.ref l)||Value.type T == Value.type "list"||Value.type T == Value.type "tuple")=Z7:=by
  rcases f with rfl|rfl
  .simp_all
  .simp_all
 rw[if_pos ht];refine yO (dH b c ?_);refine yO (dH (qB1 _ rfl) rfl ?_);refine yO (gL (qB1 _ rfl) rfl ?_ (qF8 _) (by simp only[gH,qB5,qM2];omega));refine yP ?_;refine yO (wpAny_load (get?_update_seq (qB1 _ rfl) _) ?_);show y7 _ _ (pure ((#[])++a.toArray).toList) Q E _;rw[show((#[]:yJ)++a.toArray).toList=a by simp];exact yP h
theorem wx(h:jE)(a:yB):∀b o,h.get? b=Z9 o->((h.push (wI "list" #[] 0)).update h.objs.size (wC (·++a.toArray))).get? b=Z9 o:=λb o g=>by rw[Heap.get?_update_ne _ _ _ _ (qB7 (qB0 g))];exact qA4 _ g
end
noncomputable def UD(a:yR)(o:Obj):It :=
 ⟨λi H=>∃b,H a=Z9 (.frz o (.dK b))/\i<b.length,λi H x c=>c=H/\∀b,H a=Z9 (.frz o (.dK b))->∃p,b[i]?=Z9 p/\x=kV p.1,λi H=>∃b,H a=Z9 (.frz o (.dK b))/\b.length<=i⟩
theorem wu{prog:y4}{w:jD}:∀{es:List fV}{a:List (ZJ×yU)},Pairs (Yw prog w) es a->∀{i:Nat}{q:ZJ×yU},a[i]?=Z9 q->∃e,es[i]?=Z9 e/\(Yw prog w).is q.1 e.key=Z7:=by
 intro es a h
 induction h with
 |nil=>intro i q e;simp at e
 |cons c d _ b =>
  intro i q e;cases i with
  |zero=>simp at e;subst e;exact⟨_,rfl,c⟩
  |succ i=>exact b (by simpa using e)
theorem wt{prog:y4}{w:jD}:∀{es:List fV}{a:List (ZJ×yU)},Pairs (Yw prog w) es a->es.length=a.length:=by
 intro es a h
 induction h with
 |nil=>rfl
 |cons _ _ _ b=>simp[b]
inductive wq(X:Cx)(H:Hp)(h:jE)(a:yR)(o:Obj)(kvs:List (ZJ×V)):Prop
 |mk (es:Array fV) (ep:Nat) (vs:List (ZJ×yU)) (g:h.get? a=Z9 o) (c:o.cls=.type "dict") (d:o.data=.dict es ep) (r:KV kvs vs) (p:Pairs (Yw X.prog X.w) es.toList vs) (lo:(a == vN)=Z5) (z:kvs.length<=jA)
theorem Ln{X:Cx}{b:yD}{Z:St}{H:Hp}{s:yS}{a:yR}{o:Obj}{kvs:List (ZJ×V)}(I:ZR X b Z H s)(e:H a=Z9 (.frz o (.dK kvs))):wq X H s.heap a o kvs:=by
 obtain⟨g,z,i,h,r,n,k,d,c,j,l,m,f,p⟩:=(I.hok a _ e)
 rw[g]at c;cases c;exact⟨k,d,h,g,j.1,l,r,f,i,z⟩
theorem wo{k:ZJ}{v:yU}(h:U4 k v=Z7):ZK (kV k) v:=by
 rcases U3 h with⟨i,t,rfl,rfl⟩| ⟨x,t,rfl,rfl⟩
 .exact⟨t,rfl⟩
 .exact⟨t,rfl⟩
theorem wm{P:y4}{w:jD}{K:yQ}{tg:yZ}(a l:yR)(o:Obj)(es:Array fV)(V:Nat)(x:o.data=.dict es V):Xb P w K tg (UD a o) [l] l (λi h=>h.IsKeyIter l a i es.size V) where
 mem:=by simp
 obj:=λi h st b f=>by
  have e:=by simpa using f
  subst e;obtain⟨o,e,c,d⟩:=st;exact⟨o,e,λv z=>by rw[d]at z;cases z⟩
 keep:=λi h h' st k=>st.at λo e=>k l (by simp) o e
 item:=by
  intro X W S hK U i t s Z H E I y st M;obtain⟨J,u,N⟩:=M;obtain⟨O,Q,F,g,c,d,r,p,lo,z⟩:=Ln I u;rw[x]at d;cases d;obtain⟨D,C,f2,A,G,B⟩:=y l (by simp);have R:i<F.length:=by rw[<- Paired.length r];exact N
  obtain⟨q,n⟩:∃q,F[i]?=Z9 q:=⟨_,qA6 R⟩
  obtain⟨e,he,hk⟩:=wu p n;have j:es[i]?=Z9 e:=by rw[<- vS];exact he
  refine xS st ⟨o,g,c,x⟩ j λh' m sb=>?_;have I1:=I.turned (t':=s.toks) (λb o f e=>(sb.2 b f).trans e) D C A G B;obtain⟨oi,ei,ci,di⟩:=id m;refine⟨_,rfl,OG ei ci di (by decide) ⟨kV q.1,H,I1,wo hk,⟨rfl,λT Y=>?_⟩,m,λb f=>(y b f).1⟩⟩;rw[u]at Y;cases Y;obtain⟨p',L,hr⟩:=Oi r n;exact⟨p',L,by rw[hr.1]⟩
 done:=by
  intro X W S hK U i t s Z H E I y st M;subst W S hK;obtain⟨J,u,N⟩:=M;obtain⟨O,Q,F,g,c,d,r,p,lo,z⟩:=Ln I u;rw[x]at d;cases d;obtain⟨D,C,f2,A,G,B⟩:=y l (by simp);have j:es[i]?=Z8:=by rw[<- vS,qF5];rw[wt p,<- Paired.length r];exact N
  exact Lz (I.ok.hd U) st ⟨o,g,c,x⟩ j λh' eb=>⟨rfl,I.turned (t':=s.toks) (λb o f e=>eb b o f e) D C A G B⟩
 self:=λ_ _ _ _ _ st h=>wpAny_pyIter_keyiter st h
theorem ZR.freeze{X:Cx}{c:yD}{Z:St}{H:Hp}{s:yS}{a:yR}{kvs:List (ZJ×V)}(I:ZR X c Z H s)(e:H a=Z9 (.dK kvs)):∃o,ZR X c Z (ZD H a (.frz o (.dK kvs))) s:=by
 obtain⟨z,l,k,r,o,n,h,d,p,t,i,j,m⟩:=(I.hok a _ e)
 refine⟨o,?_⟩;have g:R1 (H a):=by rw[e];trivial
 have f:Yt X.prog X.w (ZD H a (.frz o (.dK kvs))) s.heap:=I.hok.write g (.inl rfl) (λb u _ q=>q) ⟨o,d⟩ ⟨d,z,l,k,r,o,n,h,d,p,t,i,j,m⟩;exact I.un (t':=s.toks) (Un.write g (.inl rfl) (λb u _ q=>q) ⟨o,d⟩) f
section
variable {X:Cx}{tg e:yZ}
theorem wj{f:yD}{Z:St}{j:Hp}{s1:yS}{a:yR}{R:It->Hp->Prop}(l:ZR X f Z j s1)(q:∃kvs,((j a=Z9 (.dK kvs)/\∀o,R (UD a o) (ZD j a (.frz o (.dK kvs))))∨∃o,j a=Z9 (.frz o (.dK kvs))/\R (UD a o) j)):y7 (yW X.prog X.w) X.A (pyIter (.ref a)) (OH X f Z tg R) X.xe s1:=by
 obtain⟨kvs,q⟩:=q;have m:∀{i:Hp}{o:Obj},ZR X f Z i s1->i a=Z9 (.frz o (.dK kvs))->R (UD a o) i->y7 (yW X.prog X.w) X.A (pyIter (.ref a)) (OH X f Z tg R) X.xe s1:=by
  intro i o h k q;obtain⟨u,n,v,g,c,d,r,p,t,z⟩:=Ln h k;refine xR t ⟨o,g,c,d⟩ ?_;refine⟨s1.heap.objs.size,[s1.heap.objs.size],_,_,i,rfl,h.kept (t':=s1.toks) λb o e=>qA4 _ e,wm a _ o u n d,⟨_,qB1 _ rfl,rfl,rfl⟩,λb s=>?_,q⟩;have e:=by simpa using s
  subst e;exact h.fpOk (qA7 _) (h.hok.fresh (qA7 _))
 rcases q with⟨k,q⟩| ⟨o,k,q⟩
 .obtain⟨o,h⟩:=l.freeze k;exact m h XA (q o)
 .exact m l k q
end
section
variable {X:Cx}
theorem wh:RQ X "dict.update" (λx c H Q=>∃a b kvs more,x=.ref a/\c=[.ref b]/\a≠b/\H a=Z9 (.dK kvs)/\Rd H b (.dK more)/\kvs.length+more.length<=jA/\Q .non (ZD H a (.dK (VY kvs more)))):=by
 intro l s Z H x c v B Q I o m h;obtain⟨a,b,kvs,more,rfl,rfl,d,i,n,f,q⟩:=h;cases o;obtain⟨u,rfl,w⟩:=Xv m;cases w;obtain⟨A,RJ,c,g,j⟩:=QL I.hok i;obtain⟨C,QA,p,e,r⟩:=T7 I.hok n;refine call_meetsIn gM j.typeIs PySem.F.entry_dict_update (PySem.F.args_dict_update_2 _ _) (meets_dict_update (Yw X.prog X.w) a b d QA) ⟨c,p,j,r,by rw[<- Paired.length g,<- Paired.length e];exact f,λt k D sb=>?_⟩;have y:=qC6 (Ou more kvs) f;have z:∃q,t.get? a=Z9 q:=let ⟨q,_,_,hq,_⟩:=k;⟨q,hq⟩
 exact⟨.non,ZD H a (.dK (VY kvs more)),Ox (t':=s.toks) I (by rw[i];exact True.intro) sb z (Ow y RJ (KV.merge e g) k),rfl,q⟩
theorem Gp:Ys X (.builtin "len") (λxs H Q=>∃a kvs,xs=[.ref a]/\Rd H a (.dK kvs)/\Q (.int (kvs.length:Int)) H):=by intro b s Z H xs g Q I r h;obtain⟨a,kvs,rfl,e,q⟩:=h;obtain⟨u,rfl,c⟩:=Xv r;cases c;exact z0 I e λt f d=>⟨.int _,H,d,⟨t,rfl⟩,q⟩
end
section
variable {prog:y4}{w:jD}{A:jC}{E:yL}{s:yS}{z:yR}
theorem wg{Q:yF->yS->Prop}{xs:yJ}{n:Nat}{f:Array (yF)}(a:s.heap.get? z=Z9 { cls:=.type "list",dict:=Z8,data:=.seq xs n,slots:=f })(i:A.handled=Z8)(h:∀h' tk,(∀b o,s.heap.get? b=Z9 o->h'.get? b=Z9 o)->Q Z8 { s with heap:=h',toks:=tk }):
  y7 (yW prog w) A (getAttr? (.ref z) (Str.ofString "keys")) Q E s:=by
 refine yO (wpAny_mkText ?_);refine yO (vM (jO (yO (vX ⟨_,a,rfl⟩ ?_))));refine yO (yP ?_);refine yO (yP ?_);refine yO (vM (jO ?_));refine jN F.slot_list_getattribute ⟨_,a,rfl⟩ am_entry_list_getattribute ?_ (F.args_list_getattribute_2 _ _);refine yO (yP ?_);refine yO (yP ?_);refine yO (vX ⟨_,a,rfl⟩ ?_);refine yO (yO (yP (yO (yP (yO (yP ?_))))));refine yO (yO (yO (wpAny_load a ?_)));refine yO (wpAny_loadPart a ?_);refine yP ?_;refine yP ?_;refine yO (yP ?_);refine yO (vP (yP ?_));refine yO (yO (yO (vX ⟨_,a,rfl⟩ (yP ?_))));refine yP ?_;refine wpAny_raiseAttrError i (λh' tk e ne=>?_) (by size_fits);have c:∀g d os,Shared.TypeIs { heap:=h',gens:=g,drawn:=d,toks:=tk,os:=os } (.ref e) "AttributeError":=λg d os=>let ⟨_,_,q⟩:=ne.there;⟨_,q,rfl⟩
 refine yO (fF (c _ _ _) GT ?_);refine yO (yP ?_);refine yO (wpAny_throw ?_);refine yO (fF (c _ _ _) GT ?_);exact yP (h h' tk ne.keeps)
structure VH where
 t:yR
 k:ZJ
 key:yU
 v:yU
def VH.at(q:VH)(h:jE):Prop:=∃o n,h.get? q.t=Z9 o/\o.cls=.type "tuple"/\o.data=.seq #[q.key,q.v] n
structure DL(prog:y4)(w:jD)(it l d:yR)(items:yJ)(qs:List VH)(h0:jE):Prop where
 n:items.size=qs.length
 e:∀(i:Nat) (q:VH),qs[i]?=Z9 q->items[i]?=Z9 (Value.ref q.t)
 k:∀q∈qs,(Yw prog w).is q.k q.key=Z7
 p:∀q∈qs,q.at h0
 l:h0.IsList l items
 fr:∀c o,h0.get? c=Z9 o->c≠it/\c≠d
 nd:it≠d
noncomputable abbrev UC(xs:List (ZJ×yU))(b:List VH):List (ZJ×yU):=b.foldl (λa q=>dN a q.k q.v) xs
theorem wd(xs:List (ZJ×yU))(k:ZJ)(v:yU):(dN xs k v).length<=xs.length+1:=by
 unfold dN;split
 .rw[qA3];omega
 .simp
theorem wc{f l d:yR}{items:yJ}{a:List VH}{p:jE}(ZZ:DL prog w f l d items a p)(O:A.handled=Z8){R:dL->yS->Prop}:∀(m k:Nat) (s:yS) (xs:List (ZJ×yU)),k+m=a.length->xs.length+m<=jA->s.heap.IsListIter f l k->s.heap.DictOf (Yw prog w) d xs->(∀c o,p.get? c=Z9 o->s.heap.get? c=Z9 o) ->
  (∀h' tk,h'.DictOf (Yw prog w) d (UC xs (a.drop k))->(∀c o,p.get? c=Z9 o->h'.get? c=Z9 o)->R (.ok (.ret .none)) { s with heap:=h',toks:=tk }) ->
  wB (yW prog w) A (.builtin "dict.update.loop" ⟨[.ref d,.ref f,vI (k:Int),.none],[]⟩) R s:=by
 intro m
 induction m with
 |zero =>
  intro k s xs hk K st dr e g;refine wN GS ?_;have Q:=ZZ.n;refine yO (lI O st (qL9.at ZZ.l λo q=>e _ o q) (by simp;omega) λh' B=>?_);refine yP ?_;have M:a.drop k=[]:=qK7 (by omega);rw[M]at g;refine g h' s.toks ?_ λc o q=>B c o (ZZ.fr c o q).1 (e c o q);obtain⟨o,v,i,u,r⟩:=dr;exact⟨o,v,i,B _ _ (Ne.symm ZZ.nd) u,r⟩
 |succ m N =>
  intro k s xs hk K st dr e g;refine wN GS ?_;have t:k<a.length:=by omega
  have H:=qA6 t;have F:=qD7 t;refine yO (gZ st (qL9.at ZZ.l λo q=>e _ o q) (ZZ.e k _ H) λI x sb=>?_);have D:=λc o q=>(sb.2 c (ZZ.fr c o q).1).trans (e c o q);obtain⟨o,n,u,G,L⟩:=ZZ.p _ F;have b:=D _ _ u;have j:I.DictOf (Yw prog w) d xs:=by obtain⟨o,v,i,q,r⟩:=dr;exact⟨o,v,i,(sb.2 d (Ne.symm ZZ.nd)).trans q,r⟩
  refine yO (jO (yO (wpAny_tryCatch ?_)));refine yO (vX ⟨_,b,G⟩ ?_);refine yO (v0 b L (yP ?_));refine jO (wpAny_dictSet_pairs (ZZ.k _ F) j (λP J C=>?_) (by omega));refine yP ⟨GR _,?_⟩;refine N (k+1) _ _ (by omega) (by have:=wd xs a[k].k a[k].v;omega) (x.at λo q=>(C.2 f ZZ.nd).trans q) J (λc o q=>(C.2 c (ZZ.fr c o q).2).trans (D c o q)) λh' h y ex=>g h' h ?_ ex;rw[qE6 t];exact y
theorem v9{l:yR}{items:yJ}{n:Nat}{v:Array (yF)}{a:List VH}{Q:yL}(u:A.handled=Z8)(m:s.heap.get? l=Z9 { cls:=.type "list",dict:=Z8,data:=.seq items n,slots:=v })(I:items.size=a.length)(he:∀(i:Nat) (q:VH),a[i]?=Z9 q->items[i]?=Z9 (Value.ref q.t))(hk:∀q∈a,(Yw prog w).is q.k q.key=Z7)(D:∀q∈a,q.at s.heap)(y:a.length<=jA)
  (G:∀h' tk,h'.DictOf (Yw prog w) s.heap.objs.size (UC [] a)->(∀c o,s.heap.get? c=Z9 o->h'.get? c=Z9 o)->Q (.ref s.heap.objs.size) { s with heap:=h',toks:=tk }) :
  y7 (yW prog w) A (call (.type "dict") [.ref l]) Q E s:=by
 refine callType_codes F.kt_called_dict (F.kt_typeCall_dict_1 _) F.entry_dict_init (kt_code_dict_new (Q₁:=λobj k=>obj=.ref s.heap.objs.size/\k={ s with heap:=s.heap.push { cls:=.type "dict",data:=.dict #[] } }) _ ⟨rfl,rfl⟩) λobj k B=>?_;obtain⟨rfl,rfl⟩:=B;have t:(s.heap.push { cls:=Value.type "dict",data:=Data.dict #[] }).get? s.heap.objs.size=Z9 { cls:=Value.type "dict",data:=Data.dict #[] }:=qB1 _ rfl;have p:Shared.TypeIs { s with heap:=s.heap.push { cls:=Value.type "dict",data:=Data.dict #[] } } (.ref s.heap.objs.size) "dict":=⟨_,t,rfl⟩
 refine⟨p,F.args_dict_init_2 _ _,?_⟩;refine yO (yO (lK p ?_));refine yO (yP (yP ?_));have b:=qA4 { cls:=Value.type "dict",data:=Data.dict #[] } m;refine yO (vX ⟨_,b,rfl⟩ ?_);refine yO (wg b u λf tk k2=>?_);refine yO (vP ?_);have h:=k2 _ _ b;have C:f.IsList l items:=⟨_,h,rfl,n,rfl⟩
 refine yO (jY C ?_);refine yP ⟨GR _,?_⟩;have d:∀c o,s.heap.get? c=Z9 o->c<s.heap.objs.size:=λc o e=>qB0 e;have K:=qB0 (k2 _ _ t);have ex:∀c o,s.heap.get? c=Z9 o->(f.push { cls:=.type "list_iterator",data:=.fields #[.ref l,.int 0 0] }).get? c=Z9 o:=λc o q=>qA4 _ (k2 _ _ (qA4 _ q));have H:f.DictOf (Yw prog w) s.heap.objs.size []:=by
  obtain⟨o,J,x,q,r⟩:=(Heap.DictOf.new (knd:=Yw prog w) s.heap)
  exact⟨o,J,x,k2 _ _ q,r⟩
 have ZZ:DL prog w f.objs.size l s.heap.objs.size items a s.heap:=⟨I,he,hk,D,⟨_,m,rfl,n,rfl⟩,λc o e=>⟨by have:=d c o e;simp only[yR]at *;omega,by have:=d c o e;simp only[yR]at *;omega⟩,by simp only[yR]at *;omega⟩
 refine wc (A:=A.in1) ZZ u a.length 0 _ [] (by omega) (by simpa using y) ⟨_,qB1 _ rfl,rfl,rfl⟩ (H.push _) ex λh' g dr j=>⟨rfl,G h' g (by simpa using dr) j⟩
end
section
variable {X:Cx}
theorem Gn:∀(a:List VH) (ps:List (ZJ×V)),a.map (·.k)=ps.map (·.1)->(∀(i:Nat) (q:VH) (p:ZJ×V),a[i]?=Z9 q->ps[i]?=Z9 p->ZK p.2 q.v)->∀{kvs:List (ZJ×V)}{vs:List (ZJ×yU)},KV kvs vs->KV (VY kvs ps) (UC vs a)
 |[],[],_,_,kvs,vs,r=>r
 |[],_::_,h,_,_,_,_=>by cases h
 |_::_,[],h,_,_,_,_=>by cases h
 |q::a,p::ps,h,hr,kvs,vs,r=>by rw[qC7,qC7,qL6.injEq]at h;have:=Gn a ps h.2 (λi q p b c=>hr (i+1) q p (by simpa using b) (by simpa using c)) (r.put q.k (hr 0 q p rfl rfl));show KV (VY (YK kvs p.1 p.2) ps) (UC (dN vs q.k q.v) a);rw[<- h.1];exact this
def Lm(H:Hp):List V->List (ZJ×V)->Prop:=lM λv (p:ZJ×V)=>∃t,v=.ref t/\H t=Z9 (.tup [kV p.1,p.2])
theorem vz{d:yD}{Z:St}{H:Hp}{s:yS}(I:ZR X d Z H s):∀{xs:List V}{ps:List (ZJ×V)}{c:yB},Lm H xs ps->ZO xs c->∃a:List VH,c.length=a.length/\(∀(i:Nat) (q:VH),a[i]?=Z9 q->c[i]?=Z9 (Value.ref q.t))/\(∀q∈a,(Yw X.prog X.w).is q.k q.key=Z7)/\(∀q∈a,q.at s.heap)/\a.map (·.k)=ps.map (·.1)/\∀(i:Nat) (q:VH) (p:ZJ×V),a[i]?=Z9 q->ps[i]?=Z9 p->ZK p.2 q.v:=by
 intro xs ps c h
 induction h generalizing c with
 |nil=>intro r;cases r;exact⟨[],rfl,λi q e=>(by simp at e),λq h=>(by cases h),λq h=>(by cases h),rfl,λi q p e=>(by simp at e)⟩
 |@cons x p xs ps C _ L =>
  intro r;obtain⟨t,rfl,ht⟩:=C;cases r with
  |@cons _ u _ c G r =>
   cases (G);obtain⟨a,F,l,A,E,m,y⟩:=L r;obtain⟨D,w,⟨o,J,z,n,K⟩,_⟩:=I.tuple (Zg.of ht);obtain⟨k,v,rfl,B,g⟩:=RX w;refine⟨⟨t,p.1,k,v⟩::a,by simp[F],λi q e=>?_,λq b=>?_,λq b=>?_,by simp[m],λi q M j f=>?_⟩
   .cases i with
    |zero=>simp at e;subst e;rfl
    |succ i=>exact l i q (by simpa using e)
   .rcases qA9.mp b with rfl|b
    .exact Th B
    .exact A q b
   .rcases qA9.mp b with rfl|b
    .exact⟨o,n,J,z,K⟩
    .exact E q b
   .cases i with
    |zero=>simp at j f;subst j f;exact g
    |succ i=>exact y i q M (by simpa using j) (by simpa using f)
theorem vy(p:X.calm=Z7):Ys X (.type "dict") (λg H Q=>∃(l:yR) (xs:List V) (ps:List (ZJ×V)),g=[.ref l]/\H l=Z9 (.lst xs)/\Lm H xs ps/\xs.length<=jA/\∀q,H q=Z8->Q (.ref q) (ZD H q (.dK (VY [] ps)))):=by
 intro k s Z H g F Q I r h;obtain⟨l,xs,ps,rfl,D,x,v,q⟩:=h;obtain⟨u,rfl,C⟩:=Xv r;cases C;obtain⟨_,z,n,d,_,e⟩:=I.lstM D;obtain⟨f,j,m,t,A,c,o⟩:=vz I x d;have a:f.length<=sizeLine:=by rw[<- j,<- d.length];exact v
 refine v9 (I.ok.hd p) e (by simpa using j) (λi q e=>by simpa using m i q e) t A a λE B dr ex=>?_;have y:=Gn f ps c o .nil;have b:=(LQ (P:=X.prog) (w:=X.w) (H:=H) s.heap I.big).2.1;refine⟨.ref s.heap.objs.size,ZD H s.heap.objs.size (.dK (VY [] ps)),I.laid (t':=B) ex (qA7 _) (Ow ?_ b y dr),rfl,q _ (I.hok.fresh (qA7 _))⟩;refine qC6 (Ou ps []) ?_;have:=congrArg qK4 c;simp at this;simp;omega
end
noncomputable def Ll(x y:yV):Bool:=decide (dR x.1<dR y.1)
theorem vx:Ym Ll:=⟨λx y h=>by
 have:=of_decide_eq_true h;exact decide_eq_false (by omega),λx y z h k=>by
 have:=of_decide_eq_false h;have:=of_decide_eq_false k;exact decide_eq_false (by omega)⟩
theorem Lk:∀{a:yB},(∀v∈a,∃i t,v=Value.int i t)->vR a (a.map dR)
 |[],_=>.nil
 |v::a,h=>by obtain⟨i,t,rfl⟩:=h v (qF7 ..);exact .cons i t (Lk λu b=>h u (qD0 _ b))
section
variable {prog:y4}{w:jD}{A:jC}{E:yL}{s:yS}
theorem vw:YP prog w A s oneType' Ll (λx=>∃i t,x.1=Value.int i t):=by rintro⟨x,d⟩ ⟨y,e⟩ ⟨i,t,a⟩ ⟨j,u,b⟩ Q c;subst a b;exact oneLt_int c
theorem vv{a:yR}{b:yB}{n:Nat}{P:Fin->yS->Prop}(j:s.heap.get? a=Z9 (wI "list" b.toArray n))(hv:∀v∈b,∃i t,v=Value.int i t)(F:b.length<=jA)
  (h:∀out:yB,out.Perm b->out.Pairwise (λx y=>decide (dR y<dR x)=Z5)->P (.done (.ret .none)) { s with heap:=sortedHeap s.heap a b out.toArray }) :
  y7 (yW prog w) A (Builtin.«list.sort» ⟨[.ref a],[]⟩) P E s:=by
 rw[list_sort_plain];have H:=qB0 j;refine yO (dH j rfl ?_);refine yO (gL j rfl ?_ (by exact F) (qF8 _));obtain⟨r,g⟩:∃r,(s.heap.update a (wC λ_=>#[])).get? a=Z9 (wI "list" #[] r):=⟨_,get?_update_seq j (λ_=>#[])⟩
 refine yO (dS g rfl ?_);refine yO (wpAny_newTuple ?_ F);refine yO (gK ?_ (qF8 _));refine jO ?_;obtain⟨h6,u⟩:∃h6,((s.heap.update a (wC λ_=>#[])).push (wI "tuple" b.toArray 0)).push (wI "list" #[] 0)=h6:=⟨_,rfl⟩
 have d:h6.get? a=Z9 (wI "list" #[] r):=by rw[<- u,qQ8 _ _ _ (by rw[mT,qO2];exact qB7 (qF1 H)),qQ8 _ _ _ (by rw[qO2];exact qB7 H)];exact g
 show y7 (yW prog w) A _ P E { s with heap:=((s.heap.update a (wC λ_=>#[])).push (wI "tuple" b.toArray 0)).push (wI "list" #[] 0) };rw[u];have fin:∀out:yB,out.Perm b->out.Pairwise (λx y=>decide (dR y<dR x)=Z5)->P (.done (.ret .none)) { s with heap:=h6.update a (wC λ_=>out.toArray) }:=λout k o=>by rw[<- u];exact h out k o
 have B:b.toArray.size=b.length:=by simp
 by_cases h2:b.toArray.size<2
 .rw[if_pos h2,if_pos h2];refine yO (yP ?_);refine yO (yP ?_);dsimp only;refine yO (dS d rfl ?_);have C:((b.toArray.zip b.toArray).map (·.2))=b.toArray:=by simp;exact qR4 (qA7 _)
  rw[C];refine yO (gL d rfl ?_ (hsz2:=by omega));simp only[bne_self_eq_false];refine yP (fin b (.refl _) ?_)
  match b,B,h2 with
  |[],_,_=>exact .nil
  |[v],_,_=>exact qE5 ..
  |_::_::_,hs,h2=>exact absurd h2 (by simp)
 .rw[if_neg h2,if_neg h2];have p:keyKind' b.toArray=pure oneType':=by
   match b,hv,h2 with
   |[],_,h2=>exact absurd (by simp) h2
   |[_],_,h2=>exact absurd (by simp) h2
   |v₁::G::ZG,hv,_=>exact keyKind_ints (Lk hv)
  rw[p];refine yO (yP ?_);have J:b.toArray.zip b.toArray=(b.zip b).toArray:=by simp
  rw[J];refine yO (jL (wz (Q:=λ_ c=>∃f,arrOf c=f.toArray/\failedOf c=Z8/\f.Perm (b.zip b)/\Y6 Ll f) vx (vw) (λx l=>hv _ (dI l).2) (by simp;omega)
   λf c k o N I=>⟨f,k,o,N,I⟩) ?_ λ_ _ e=>e)
  rintro⟨⟨⟩,c⟩ R ⟨rfl,f,z,O,m,hs⟩;refine yO (dS d rfl ?_);have C:(arrOf c).map (·.2)=(f.map (·.2)).toArray:=by rw[z];simp
  have D:=by have:=m.map (·.2);rwa[qR4 (qA7 _)]at this
  rw[C];refine yO (gL d rfl ?_ (hsz2:=by rw[qB5,D.length_eq];omega));rw[O];simp only[bne_self_eq_false];refine yP (fin _ D ?_);rw[qN8];refine hs.imp_of_mem λ{x y} l K q=>?_;have L:=dI (m.mem_iff.mp l);have M:=dI (m.mem_iff.mp K);rw[<- L.1,<- M.1];exact q
variable {r:yR}
theorem Gm{Q:yL}{i:yA}(z:i.length<=5000)
  (q:∀(A:jC) (E:yL) (R:yB->yS->Prop),A.handled=Z8->(∀(h':jE) (tk:Nat) (dr:Drawn) (a:yB) (f:yA),(∀b o,s.heap.get? b=Z9 o->h'.get? b=Z9 o)->vR a f->f.Perm i->R a { s with heap:=h',toks:=tk,drawn:=dr })->y7 (yW prog w) A (collect (.ref r)) R E s)
  (y:A.handled=Z8)
  (h:∀(m:jE) (l:yR) (h':jE) (tk:Nat) (dr:Drawn) (e:Nat) (a:yB) (f:yA),(∀b o,s.heap.get? b=Z9 o->m.get? b=Z9 o)->(∀b o,m.get? b=Z9 o->h'.get? b=Z9 o)->m.objs.size<=l->h'.get? l=Z9 (wI "list" a.toArray e)->vR a f->f.Perm i->f.Pairwise (·<=·)->Q (.ref l) { s with heap:=h',toks:=tk,drawn:=dr }) :
  y7 (yW prog w) A (call (.builtin "sorted") [.ref r]) Q E s:=by
 refine gC kind_sorted plain_sorted entry_sorted (args_sorted1 _) ?_;refine yO (yP ?_);refine yO (q _ _ _ y λh' tk dr a f hk j k=>?_);have c:a.length=i.length:=by
  rw[<- k.length_eq];clear hk k
  induction j with
  |nil=>rfl
  |cons _ _ _ t=>simp[t]
 refine yO (gK ?_ (by rw[c,wF];omega));have d:(h'.push (wI "list" a.toArray 0)).get? h'.objs.size=Z9 (wI "list" a.toArray 0):=qB1 _ rfl;refine yO (jO (jN slot_list_sort ⟨_,d,rfl⟩ entry_list_sort (vv d (λv n=>j.all v n) (by rw[c,wF];omega) λout p u=>⟨_,rfl,?_⟩) (args_list_sort _)));obtain⟨e,x⟩:=sortedHeap_at d;refine yP ⟨_,rfl,h h' h'.objs.size _ tk dr e out (out.map dR) hk (λb o g=>?_) (qA7 _) (by simpa using x) (Lk λv n=>j.all v (p.mem_iff.mp n)) ((p.map dR).trans (by rw[j.nums];exact k)) (by rw[qN8];exact u.imp λh=>by have:=of_decide_eq_false h;omega)⟩;have lt:=qB0 g;rw[sortedHeap_old (qB7 lt) (by rw[mT];exact qF1 lt)];exact qA4 _ g
end
theorem vu{X:Cx}(O:X.calm=Z7):Ys X (.builtin "sorted") (λw H Q=>∃(p:yR) (kvs:List (ZJ×V)) (d:yA),w=[.ref p]/\H p=Z9 (.dK kvs)/\kvs.map (·.1)=d.map Sum.inl/\d.length<=5000/\∀(l:yR) (m:yA),H l=Z8->m.Perm d->m.Pairwise (·<=·)->Q (.ref l) (ZD H l (.lst (m.map V.int)))):=by
 intro g s Z H xs G Q I r h;obtain⟨p,kvs,d,rfl,T,hk,F,q⟩:=h;obtain⟨u,rfl,ru⟩:=Xv r;cases ru;obtain⟨hz,lo,w,D,dd⟩:=QL I.hok T;obtain⟨ep,B⟩:=dd.dictAt;have J:w.length=d.length:=by rw[<- Paired.length D,<- qA3,hk,qA3]
 refine Gm F (λA E R hA hR=>W.kdu_collect (W.kdl_dict lo) hA B (by rw[J,wF];omega) λY tk acc y a=>hR Y tk s.drawn _ d y ?_ (.refl _)) (I.ok.hd O) λU S h3 c dr e G m k2 k3 L g3 hi f N=>?_
 .refine Oh _ _ (by rw[vL,a.1,J]) λj v n e1 P=>?_;obtain⟨k,x,e3,M⟩:∃k x,w[j]?=Z9 (k,x)/\(Yw X.prog X.w).is k v=Z7:=a.2 j v (by rw[<- vS];exact e1);obtain⟨q1,e5,e6,_⟩:=Oi D e3;have K:(kvs.map (·.1))[j]?=Z9 k:=by rw[qB2,e5];exact congrArg Z9 e6
  rw[hk,qB2,P]at K;cases K;cases v<;>first|exact absurd M qB4|skip
  rename_i i t;have:=by simpa[Yw,U4,Value.isInt]using M
  subst this;exact⟨t,rfl⟩
 .have C:ZR X g Z H { s with heap:=U,toks:=c,drawn:=dr }:=(I.kept (t':=c) λb o e=>k2 b o e).dr dr;refine⟨.ref S,_,C.laid (t':=c) k3 L ?_,rfl,q _ _ (C.hok.fresh L) f N⟩;have z:m.length<=5000:=by rw[f.length_eq];exact F
  exact⟨by rw[qA3];exact qC6 z (by decide),G,e,QF hi,by simpa using g3⟩
theorem Lj:∀{a:yA}{us:yB},ZO (a.map V.int) us->∃xs:List (Int×Tok),us=xs.map (λp=>Value.int p.1 p.2)/\xs.map (·.1)=a
 |[],us,h=>by cases h;exact⟨[],rfl,rfl⟩
 |n::a,us,h=>by
  cases h with
  |cons b c =>
   obtain⟨t,rfl⟩:=b;obtain⟨xs,rfl,e⟩:=Lj c;exact⟨(n,t)::xs,rfl,by simp[e]⟩
section
variable {X:Cx}
theorem Gk{xs:List (Int×Tok)}{ns:yA}{j:Nat}{v:yU}(e:xs.map (·.1)=ns)(h:(lZ xs.toArray)[j]?=Z9 v):∃M t,v=Value.int M t/\M=numAt xs.toArray j/\M∈ns:=by
 obtain⟨t,rfl⟩:=intItems_at h;refine⟨_,t,rfl,rfl,?_⟩;have a:=by have:=(Array.getElem?_eq_some_iff.mp h).1;simpa[lZ]using this
 rw[numAt_eq];subst e;simp only[qF4];rw[qA6 (by simpa using a)];exact qD7 _
theorem vt(m:X.calm=Z7):Ys X (.builtin "min") (λz H Q=>∃(p:yR) (b:yA),z=[.ref p]/\YA X.K H p (b.map V.int)/\0<b.length/\∀M,M∈b->(∀a∈b,M<=a)->Q (.int M) H):=by
 intro f s Z H D G Q I r h;obtain⟨p,b,rfl,o,K,q⟩:=h;obtain⟨u,rfl,B⟩:=Xv r;cases B;obtain⟨w,l,x,E⟩:=I.list o;obtain⟨c,rfl,e⟩:=Lj l;have d:c.length=b.length:=by rw[<- e];simp
 have C:s.heap.IsList p (lZ c.toArray):=by have:=x.isList;simpa[lZ]using this
 refine min_intList (I.ok.hd m) C (by simp;omega) λv F J y k=>?_;obtain⟨M,t,rfl,i,g⟩:=Gk e y;refine⟨.int M,H,I.kept k,⟨t,rfl⟩,q M g λa A=>?_⟩;obtain⟨j,n,rfl⟩:=qM8 A;have:=(argBest_lt (numAt c.toArray) (c.toArray.size - 1)).2 j (by simp;omega);rw[i];refine qQ9 this ?_;rw[numAt_eq,qP7,e];simp[qF4,n]
theorem vr(m:X.calm=Z7):Ys X (.builtin "max") (λz H Q=>∃(p:yR) (b:yA),z=[.ref p]/\YA X.K H p (b.map V.int)/\0<b.length/\∀M,M∈b->(∀a∈b,a<=M)->Q (.int M) H):=by
 intro f s Z H D G Q I r h;obtain⟨p,b,rfl,o,K,q⟩:=h;obtain⟨u,rfl,B⟩:=Xv r;cases B;obtain⟨w,l,x,E⟩:=I.list o;obtain⟨c,rfl,e⟩:=Lj l;have d:c.length=b.length:=by rw[<- e];simp
 have C:s.heap.IsList p (lZ c.toArray):=by have:=x.isList;simpa[lZ]using this
 refine max_intList (I.ok.hd m) C (by simp;omega) λv F J y k=>?_;obtain⟨M,t,rfl,i,g⟩:=Gk e y;refine⟨.int M,H,I.kept k,⟨t,rfl⟩,q M g λa A=>?_⟩;obtain⟨j,n,rfl⟩:=qM8 A;have:=(argBest_gt (numAt c.toArray) (c.toArray.size - 1)).2 j (by simp;omega);rw[i];refine qQ9 ?_ this;rw[numAt_eq,qP7,e];simp[qF4,n]
end
section
variable {X:Cx}
theorem vq(B:X.calm=Z7):Ys X (.builtin "sorted") (λJ H Q=>∃(p:yR) (c:yA),J=[.ref p]/\YA X.K H p (c.map V.int)/\c.length<=5000/\∀(l:yR) (f:yA),H l=Z8->f.Perm c->f.Pairwise (·<=·)->Q (.ref l) (ZD H l (.lst (f.map V.int)))):=by
 intro x s Z H S w Q I r h;obtain⟨p,c,rfl,C,v,q⟩:=h;obtain⟨u,rfl,K⟩:=Xv r;cases K;obtain⟨i,m,⟨o,n,M,j,G,N⟩,D⟩:=I.list C;have k:=OC m;refine Gm v (λA E R U L=>wy M j N (.inl rfl) (L _ s.toks s.drawn i c (wx _ _) k (.refl _)) (by rw[<- m.length];exact D)) (I.ok.hd B) λT F W d dr e w f k2 O y P k a z=>?_;have t:=(I.kept (t':=d) λb o e=>k2 b o e).dr dr;refine⟨.ref F,_,t.laid (t':=d) O y ?_,rfl,q _ _ (t.hok.fresh y) a z⟩;have g:f.length<=5000:=by rw[a.length_eq];exact v
 exact⟨by rw[qA3];exact qC6 g (by decide),w,e,QF k,by simpa using P⟩
theorem Gj(A:X.calm=Z7):Ys X (.type "list") (λd H Q=>∃(p:yR) (kvs:List (ZJ×V)) (e:yA),d=[.ref p]/\Rd H p (.dK kvs)/\kvs.map (·.1)=e.map Sum.inl/\∀l,H l=Z8->Q (.ref l) (ZD H l (.lst (e.map V.int)))):=by
 intro y s Z H R Y Q I r h;obtain⟨p,kvs,e,rfl,D,hk,q⟩:=h;obtain⟨u,rfl,K⟩:=Xv r;cases K;obtain⟨C,F,d,f,N⟩:=T7 I.hok D;obtain⟨S,m⟩:=N.dictAt;have w:d.length=e.length:=by rw[<- Paired.length f,<- qA3,hk,qA3]
 have b:d.length<=sizeLine:=by rw[<- Paired.length f];exact C
 refine W.kdl_call (W.kdl_dict F) (I.ok.hd A) m b λT J acc c g E a=>?_;have O:=by
  refine Oh _ _ (by rw[vL,a.1,w]) λj v n G B=>?_;obtain⟨k,x,L,z⟩:∃k x,d[j]?=Z9 (k,x)/\(Yw X.prog X.w).is k v=Z7:=a.2 j v (by rw[<- vS];exact G);obtain⟨U,P,M,_⟩:=Oi f L;have o:(kvs.map (·.1))[j]?=Z9 k:=by rw[qB2,P];exact congrArg Z9 M
  rw[hk,qB2,B]at o;cases o;cases v<;>first|exact absurd z qB4|skip
  rename_i i t;have:=by simpa[Yw,U4,Value.isInt]using z
  subst this;exact⟨t,rfl⟩
 refine⟨.ref s.heap.objs.size,_,I.laid (t':=J) g (qA7 _) ?_,rfl,q _ (I.hok.fresh (qA7 _))⟩;exact⟨by rw[qA3,<- w];exact b,acc.toList,c,QF O,by exact E⟩
end
def RH(h:jE)(e T:yR)(a:yU):Prop:=∃b c f d,h.get? e=Z9 b/\b.cls=a/\b.data=.fields c/\c[1]?=Z9 (.ref T)/\T≠e/\h.get? T=Z9 f/\f.data=.fields d/\d[3]?=Z9 .none
structure Qp(l:List Env)(wr:yC)(e:yR)(cls:yU)(h h':jE):Prop where
 keep:∀b o,h.get? b=Z9 o->b∉wr->b∉Xl l->h'.get? b=Z9 o
 slot:∀b o,h.get? b=Z9 o->b∉wr->∃sl,h'.get? b=Z9 { o with slots:=sl }
 there:∀b o,h.get? b=Z9 o->∃o',h'.get? b=Z9 o'
 tr:∃T,h.objs.size<=T/\RH h' e T cls
section
variable {M:mU}{A:jC}{E:yL}{s:yS}{base:jE}{env:Env}{outer:List Env}{L e:yR}{oe:Obj}{vs:yJ}{Q:Unit->yS->Prop}
theorem Gi{a:jE}{h:yB}{head:yU}{wr:yC}{d:jE}(hpl:IsPlace h)(g:Heap.SlotsOnly (Xl (env::outer)) d a)(he:a.get? e=Z9 oe)(w:oe.data=.fields vs)(f:1<vs.size)(i:e∈wr)
  (x:∀h',Qp (env::outer) wr e oe.cls d h'->Q () { s with heap:=h' }) :
  y7 M A (EntryCells.newEntry head (.ref L) .none (vI L) .none h >>= λb=>setField (.ref e) 1 b) (λ_ s'=>y7 M A (setFlight (.ref e) Z8) Q E s') E { s with heap:=a }:=by
 obtain⟨ts,hts⟩:∃ts,([head,.ref L,.none,vI L,.none]++(if h.isEmpty then qE7 6 Value.none else h)).toArray=ts:=⟨_,rfl⟩
 have r:3<ts.size:=by rw[<- hts,qB5,qC1];simp only[qC3];omega
 refine yO (j9 ?_ (hpl.sizeOk5 _ _ _ _ _));rw[hts];have p:=qA4 { cls:=.type "traceback",dict:=Z8,data:=.fields ts } he;refine wH p w f ?_;have ne:=qH1 (qB0 he);have l:=jQ w (·.setIfInBounds 1 (Value.ref a.objs.size));have u:=qE8 (j8 (·.setIfInBounds 1 (Value.ref a.objs.size))) p (jZ l);have t:=(qE4 (a.push { cls:=.type "traceback",dict:=Z8,data:=.fields ts }) (j8 (·.setIfInBounds 1 (Value.ref a.objs.size))) (Ne.symm ne)).trans (qB1 a rfl);refine fL u l (by simp[f]) t rfl r (x _ ?_);have keep:∀b o,b≠e->a.get? b=Z9 o->(((a.push { cls:=.type "traceback",dict:=Z8,data:=.fields ts }).update e (j8 (·.setIfInBounds 1 (Value.ref a.objs.size)))).update a.objs.size (j8 (·.setIfInBounds 3 .none))).get? b=Z9 o:=λb o k c=>by rw[qE4 _ _ (qH1 (qB0 c)),qE4 _ _ (Ne.symm k)];exact qA4 _ c
 have v:=(qE4 ((a.push { cls:=.type "traceback",dict:=Z8,data:=.fields ts }).update e (j8 (·.setIfInBounds 1 (Value.ref a.objs.size)))) (j8 (·.setIfInBounds 3 .none)) ne).trans u;have n:∀b:yR,b∉wr->b≠e:=λb c z=>c (z▸i);refine⟨λb o c j y=>keep b o (n b j) ((g.2.1 b y).trans c),λb o c j=>?_,λb o c=>?_,a.objs.size,Nat.le_of_eq g.1.symm,_,_,_,_,v,gE _ _,l,by simp[f],ne,qE8 _ t (jZ (jQ rfl _)),jQ rfl _,by simp[r]⟩
 .obtain⟨m,q⟩:=g.2.2 b o c;exact⟨m,keep b _ (n b j) q⟩
 .obtain⟨m,q⟩:=g.2.2 b o c;by_cases z:b=e
  .exact⟨_,by rw[z];exact v⟩
  .exact⟨_,keep b _ z q⟩
theorem vp(b:A.frames=Z9 (env::outer))(i:s.heap.FunFrames base (env::outer))(f:env.frame=Z9 L)(he:s.heap.get? e=Z9 oe)(a:oe.data=.fields vs)(g:vs[1]?=Z9 .none)
  (n:∀h',Qp (env::outer) [e] e oe.cls s.heap h'->Q () { s with heap:=h' }):y7 M A (mH (.ref e) env) (λ_ s'=>y7 M A (setFlight (.ref e) Z8) Q E s') E s:=by
 have k:e∉Xl (env::outer):=λm=>by obtain⟨_,o,j,l⟩:=i.mem m;rw[he]at j;cases j;exact l vs a
 unfold mH;simp only[f];refine yO (j6 he a g ?_);refine yO (wpAny_frameOf_fun b i f λd h=>yO (wpAny_entryPlaceOf λp c=>?_));exact Gi c h ((h.2.1 e k).trans he) a (Array.getElem?_eq_some_iff.mp g).1 (by simp) n
theorem Li{T:yR}{i:yU}(p:A.frames=Z9 (env::outer))(O:s.heap.FunFrames base (env::outer))(B:env.frame=Z9 L)(ht:RH s.heap e T i)
  (I:∀h',Qp (env::outer) [e,T] e i s.heap h'->Q () { s with heap:=h' }):y7 M A (mH (.ref e) env) (λ_ s'=>y7 M A (setFlight (.ref e) Z8) Q E s') E s:=by
 obtain⟨R,J,S,G,C,rfl,t,w,N,m,f,y⟩:=ht;have H:=(Array.getElem?_eq_some_iff.mp y).1;unfold mH;simp only[B];refine yO (j6 C t w ?_);refine yO (j6 m f y ?_);refine yO (wH m f H ?_);obtain⟨h0,d⟩:∃h0,s.heap.update T (j8 (·.setIfInBounds 3 Value.none))=h0:=⟨_,rfl⟩
 have c:∀b,b≠T->h0.get? b=s.heap.get? b:=λb a=>by rw[<- d];exact qE4 _ _ (Ne.symm a)
 have sz:h0.objs.size=s.heap.objs.size:=by rw[<- d];exact qO2 _ _ _
 have atT:∃o',h0.get? T=Z9 o':=⟨_,by rw[<- d];exact qE8 _ m (jZ (jQ f _))⟩
 rw[d];have j:=(c e (Ne.symm N)).trans C;have g:=O.of_keeps λb o a n=>⟨o,(c b λz=>by rw[z,m]at a;cases a;exact n G f).trans a,rfl⟩
 have D:e∉Xl (env::outer):=λF=>by obtain⟨_,o,x,K⟩:=g.mem F;rw[j]at x;cases x;exact K J t
 refine yO (wpAny_frameOf_fun p g B λu v=>yO (wpAny_entryPlaceOf λU r=>?_));refine Gi r v ((v.2.1 e D).trans j) t (Array.getElem?_eq_some_iff.mp w).1 (wr:=[e,T]) (by simp) λh' l=>I h' ?_;have h:∀b:yR,b∉[e,T]->b≠T:=λb a z=>a (by rw[z];simp);refine⟨λb o a k P=>l.keep b o ((c b (h b k)).trans a) k P,λb o a k=>l.slot b o ((c b (h b k)).trans a) k,λb o a=>?_,by rw[<- sz];exact l.tr⟩;by_cases z:b=T
 .obtain⟨o',q⟩:=atT;exact l.there b o' (by rw[z];exact q)
 .exact l.there b o ((c b z).trans a)
end
inductive W3(P:y4)(w:jD)(outer:List Env)(H:Hp)(s:yS)(E:XK)(ev:yU)(s':yS):Prop
 |mk (e T:yR) (C:yU) (H':Hp) (eq:ev=.ref e) (tr:RH s'.heap e T C) (ne:s.heap.get? e=Z8) (nT:s.heap.get? T=Z8) (os:s'.os=s.os) (bare:fR s'.gens) (un:Un (Xl outer) [] H H' s.heap s'.heap) (hok:Yt P w H' s'.heap) (he:H' e=Z8) (hT:H' T=Z8) (w:E C Z8 H')
theorem Xd.here{P:y4}{w:jD}{H:Hp}{h:jE}{a:yR}{o:HO}(x:Xd P w H h a o):∃ob,h.get? a=Z9 ob:=by
 cases o with
 |lst c=>obtain⟨_,_,_,_,e⟩:=x;exact⟨_,e⟩
 |tup c=>obtain⟨_,_,_,ob,e,_⟩:=x;exact⟨ob,e⟩
 |dK b=>obtain⟨_,_,_,_,ob,_,_,e,_⟩:=x;exact⟨ob,e⟩
 |dT b=>obtain⟨_,_,_,_,ob,_,_,e,_⟩:=x;exact⟨ob,e⟩
 |set S n=>obtain⟨ob,_,_,_,e,_⟩:=x;exact⟨ob,e⟩
 |ins C d fs=>obtain⟨_,_,_,e,_⟩:=x;exact⟨_,e⟩
 |own y=>exact x
 |xd fs=>obtain⟨_,⟨ob,_,_,e,_⟩,_⟩:=x;exact⟨ob,e⟩
 |rng i k=>obtain⟨_,_,_,e⟩:=x;exact⟨_,e⟩
 |frz ob u=>exact⟨ob,x.1⟩
 |tbl g=>exact⟨_,x⟩
 |met f y=>exact⟨_,x⟩
 |ext j=>exact x.2.1
section
variable {X:Cx}{pins:yD}{Z:St}{H:Hp}{s:yS}{E:XK}{e T:yR}{C:yU}{wr:yC}{h':jE}
structure Wg(X:Cx)(E:XK):Prop where
 xe:X.xe=λe s'=>y7 (yW X.prog X.w) X.A (leaving X.env e) (λ_ s''=>W3 X.prog X.w X.outer X.H₀ X.s₀ E e s'') (λe' s''=>W3 X.prog X.w X.outer X.H₀ X.s₀ E e' s'') s'
 stk:X.stack=X.env::X.outer
 fr:X.env.frame=Z9 X.env.locals
 ex:X.ex=[]
theorem vn(o:Wg X E):Xl X.stack=X.env.locals::X.fs:=by rw[o.stk];show List.filterMap (·.frame) (X.env::X.outer)=_;rw[qH6,o.fr];rfl
theorem vm(I:ZR X pins Z H s)(f:Qp X.stack wr e C s.heap h')(g:∀b∈wr,H b=Z8):Yt X.prog X.w H h':=λa o q=>(I.hok a o q).stay (λb u d r=>by
 have h:∃z,H b=Z9 z:=by
  rcases d with rfl|d
  .exact⟨o,q⟩
  .exact⟨_,d⟩
 obtain⟨z,c⟩:=h;refine f.keep b u r (λm=>?_) λm=>?_
 .rw[g b m]at c;cases c
 .rw[I.stkFree b m]at c;cases c) (λ_ r=>r) λ_ _ r=>r
theorem Gh(o:Wg X E)(I:ZR X pins Z H s)(d:Qp X.stack wr e C s.heap h')(f:∀b∈wr,X.s₀.heap.get? b=Z8/\H b=Z8)(he:e∈wr)(v:E C Z8 H):W3 X.prog X.w X.outer X.H₀ X.s₀ E (.ref e) { s with heap:=h' }:=by
 obtain⟨T,j,p⟩:=d.tr;have u:=vn o;have ex:∀b,b∉X.ex:=λb c=>by rw[o.ex]at c;cases c
 have i:∀b a,X.s₀.heap.get? b=Z9 a->b∉wr:=λb a q m=>by rw[(f b m).1]at q;cases q
 have r:∀b a,X.s₀.heap.get? b=Z9 a->b≠X.env.locals:=λb a q=>qB7 (qB3 (qB0 q) I.ok.above);have w:X.s₀.heap.get? T=Z8:=by
  cases q:X.s₀.heap.get? T with
  |none=>rfl
  |some a =>
   obtain⟨k,t⟩:=I.base.there T a q (ex T);exact absurd (qB0 t) (Nat.not_lt.mpr j)
 refine⟨e,T,C,H,rfl,p,(f e he).1,w,I.os,I.bare,⟨λb a q n c _=>?_,λb a q n c _=>?_,λb a q n _=>I.base.free b a q n (ex b),λb a q _=>?_,I.base.tups,I.base.frzs,I.base.tbls⟩,vm I d λb m=>(f b m).2,(f e he).2,I.hok.fresh j,v⟩
 .refine d.keep b a (I.base.keep b a q n c (ex b)) (i b a q) ?_;rw[u];exact λm=>(qA9.mp m).elim (r b a q) c
 .obtain⟨x,h⟩:=I.base.slot b a q n c (ex b);obtain⟨g,l⟩:=d.slot b _ h (i b a q);exact⟨g,l⟩
 .obtain⟨k,h⟩:=I.base.there b a q (ex b);exact d.there b k h
theorem vl(o:Wg X E):RW (W3 X.prog X.w) X E:=by
 intro l Z H s x y I h;obtain⟨e,T,C,D,rfl,m,ne,r,t,a,un,f,w,n,u⟩:=h;have d:=I.call' t un f a λb z=>absurd z (by simp);rw[o.xe];have k:∀b,s.heap.get? b=Z8->X.s₀.heap.get? b=Z8:=λb c=>by
  cases q:X.s₀.heap.get? b with
  |none=>rfl
  |some p =>
   obtain⟨B,i⟩:=I.base.there b p q (by rw[o.ex];simp);rw[c]at i;cases i
 have g:=d.stack;have j:=d.ok.frames;rw[o.stk]at g j;refine yO (Li j g o.fr m λA v=>Gh o d (by rw[o.stk];exact v) (λb c=>?_) (by simp) u);simp only[qA9,qD3,or_false]at c;rcases c with rfl|rfl
 .exact⟨k _ ne,w⟩
 .exact⟨k _ r,n⟩
def Lh(X:Cx)(E:XK):Prop:=∀(a:yD) (Z:St) (H:Hp) (s:yS) (b:jE) (e C:yR) (c:yB),ZR X a Z H s->qS4 s.heap b e (.ref C) c->E (.ref C) Z8 H->X.xe (.ref e) { s with heap:=b }
theorem vk(o:Wg X E):Lh X E:=by
 intro i Z H s w e C v I c k;have d:=I.kept (t':=s.toks) c.keeps;obtain⟨t,r,_,_⟩:=c.there;have n:X.s₀.heap.get? e=Z8:=by
  cases q:X.s₀.heap.get? e with
  |none=>rfl
  |some j =>
   obtain⟨l,a⟩:=I.base.there e j q (by rw[o.ex];simp);rw[c.new]at a;cases a
 have hH:H e=Z8:=by
  cases q:H e with
  |none=>rfl
  |some u =>
   obtain⟨l,a⟩:=(I.hok e u q).here;rw[c.new]at a;cases a
 have f:=d.stack;have h:=d.ok.frames;rw[o.stk]at f h;rw[o.xe];refine yO (vp h f o.fr r rfl rfl λp m=>Gh o d (by rw[o.stk];exact m) (λb g=>?_) (by simp) k);simp only[qA9,qD3,or_false]at g;subst g;exact⟨n,hH⟩
end
noncomputable abbrev Lg:yB:=[.type "ValueError",.type "Exception",.type "BaseException",.type "object"]
def W9(K:yQ)(C:yR):Prop:=W.excIn K C Lg "ValueError.__new__"=Z7
theorem vj{K:yQ}{C:yR}(h:W9 K C):∃d N nm q bs hdct sn sub ab col dd k0 k1 k2 k3 k5,K.lookup C=Z9 (excClassObj nm q C N bs d hdct sn sub ab col dd k0 k1 k2 k3 k5 "ValueError.__new__")/\W.tailIn K Lg d=Z7/\W.nsOkIn K N=Z7/\gA K N "__init__"=Z9 Z8:=by
 unfold W9 W.excIn at h;split at h
 .rename_i dd p f o;split at h
  .rename_i s d k0 k1 k2 k3 n k5 e k;simp only[qC5,beq_iff_eq,qH5]at h;obtain⟨⟨⟨⟨⟨rfl,rfl⟩,a⟩,ht⟩,c⟩,b⟩:=h;obtain⟨nm,bs,m,i,j,r,sn,sub,ab,col,g⟩:=p;dsimp only at e a c b;subst e a;obtain⟨l⟩:=f;subst k;exact⟨d,i,nm,j,bs,r,sn,sub,ab,col,dd,k0,k1,k2,k3,k5,o,ht,c,b⟩
  .cases h
 .cases h
section
variable {X:Cx}{E:XK}{x:Str}{C:yR}{txt:Str}{j:Nat}{np p2 cpos pos:Pos}
def vi(C:yR)(E:XK):TS:=λ_ _ H=>E (.ref C) Z8 H
theorem vh(f:X.calm=Z7)(m:Gl X x)(hm:X.mg x=Z9 (.ref C))(hk:W9 X.K C)(l:Lh X E)(n:YL x):PS X (.Raise (Z9 (.Call (.Name x np) [.Constant (.str txt) j p2] [] cpos)) Z8 pos) (vi C E):=by
 intro a s Z H D I h;obtain⟨p,N,nm,q,bs,hdct,sn,sub,ab,col,dd,k0,k1,k2,k3,k5,i,ht,b,d⟩:=vj hk;have T:=W.tail_of_in I.kIn ht;refine wpAny_Raise_call_subT (nm:=nm) (q:=q) (N:=N) (bs:=bs) (hdct:=hdct) (sn:=sn) (sub:=sub) (ab:=ab) (col:=col) (dd:=dd) (k0:=k0) (k1:=k1) (k2:=k2) (k3:=k3) (k5:=k5)
  PySem.F.excBase_ValueError (T.hasType (by decide)) (I.ok.hd f) rfl (W.nsMap_none_of_in I.kIn b d) (Ub I m hm ⟨rfl,?_⟩ n)
 refine lV (wP (Calls.Constant_str (pos:=p2) (k:=j) (wX ?_)));have c:ZR X a Z H { s with toks:=s.toks+1 }:=I.tok _;exact⟨rfl,by show 1<=jA;decide,c.kIn _ _ i,.of_isNs (W.isNs_of_in c.kIn b),W.tail_of_in c.kIn ht,λg e o=>l a Z H _ g e C _ c o h⟩
end
noncomputable def UB(P:y4)(w:jD)(K:yQ)(mg:Str->yF)(base:jE)(N:yH)(a:Str)(scope:jR)(f:yR)(c:yU)(cl:List (Str×yR))(A:jC)(outer:List Env)(s:yS)(H:Hp)(E:XK):Cx where
 prog:=P
 w:=w
 K:=K
 mg:=mg
 base:=base
 A:=A.deeper (W.envX a scope s.heap.objs.size f c cl)
 N:=N
 s₀:=s
 H₀:=H
 env:=W.envX a scope s.heap.objs.size f c cl
 outer:=outer
 stack:=W.envX a scope s.heap.objs.size f c cl::outer
 ex:=[]
 calm:=Z7
 fn:=λ_=>Z5
 pn:=[]
 xe:=λe g=>y7 (yW P w) (A.deeper (W.envX a scope s.heap.objs.size f c cl)) (leaving (W.envX a scope s.heap.objs.size f c cl) e) (λ_ b=>W3 P w outer H s E e b) (λd b=>W3 P w outer H s E d b) g
structure Lf(N:yH)(Z:St)(scope:jR)(cl:List (Str×yR))(H:Hp)(h:jE):Prop where
 inj:∀x y c,cl.lookup x=Z9 c->cl.lookup y=Z9 c->x=y
 has:∀x,(scope.names.lookup x=Z9 .cell∨scope.names.lookup x=Z9 .free)->∃c,cl.lookup x=Z9 c
 val:∀(i:Nat) (x:Str) (v:V),N[i]?=Z9 x->Z[i]?=Z9 (Z9 v)->∃u c,ZK v u/\scope.names.lookup x=Z9 .free/\cl.lookup x=Z9 c/\h.IsCell c (Z9 u)
 cell:∀x c,cl.lookup x=Z9 c->(∃v,h.IsCell c v)/\H c=Z8
 len:Z.length=N.length
section
variable {P:y4}{w:jD}{K:yQ}{mg:Str->yF}{base:jE}{N:yH}{Z:St}{qual:Str}{scope:jR}{f:yR}{cd:yU}{cl:List (Str×yR)}{A:jC}{outer:List Env}{s:yS}{H:Hp}{E:XK}
theorem Gg{h h':jE}{c:yR}{v:yF}(x:h.IsCell c v)(k:∀o,h.get? c=Z9 o->h'.get? c=Z9 o):h'.IsCell c v:=let ⟨o,e,d⟩:=x;⟨o,k o e,d⟩
theorem vg(e:WG P w K mg base A outer s H)(C:A.handled=Z8)(hk:scope.kind=.function)(L:Lf N Z scope cl H s.heap){d:jE}{tk:Tok}{m:Str->yF}(j:d.Ns s.heap.objs.size m)(a:∀b o,s.heap.get? b=Z9 o->d.get? b=Z9 o):
  ZR (UB P w K mg base N qual scope f cd cl A outer s H E) [] Z H { s with heap:=d,toks:=tk }:=by
 have g:∀b:yR,b∉(UB P w K mg base N qual scope f cd cl A outer s H E).ex:=λb z=>absurd (show b∈([])from z) (by simp);refine⟨⟨e.mod,hk,rfl,rfl,qA7 _,L.inj,L.has,λ_ _ z=>(by cases z),λ_=>C,Around.frames_deeper e.frames,.inr ⟨rfl,rfl⟩,λb z=>absurd z (g b),e.bs,e.bsz,λb _ _=>g b,λb z=>absurd z (g b),e.funs,e.frf⟩,
  rfl,e.bare,Un.kept a,⟨m,j,λi y v n q D=>?_⟩,λy c h=>?_,e.hok.fresh (qA7 _),λy c h=>(L.cell y c h).2,λp l=>absurd (show p∈([])from l) (by simp),e.hok.kept a,L.len⟩
 .obtain⟨u,c,r,t,k,B⟩:=L.val i y v n q;exact⟨u,r,.inr ⟨.inr t,c,k,Gg B λo=>a c o⟩⟩
 .obtain⟨v,x⟩:=(L.cell y c h).1;exact⟨v,Gg x λo=>a c o⟩
theorem Gf:Wg (UB P w K mg base N qual scope f cd cl A outer s H E) E:=⟨rfl,rfl,rfl,rfl⟩
theorem Ge{k:Nat}{d:Str}{c:vV}{a:yZ}{J p:yU}{t:TE}{Q:VK}(O:Zj k A)(D:1<=k)(G:WG P w K mg base A outer s H)
  (S:s.heap.get? f=Z9 { cls:=.type "function",data:=.func (W.kla_fn d qual c a scope cl J cd p) }) (C:s.heap.CodeRec cd qual)
  (hk:scope.kind=.function) (F:scope.isCoroutine=Z5) (m:scope.isGenerator=Z5) (j:∀x∈scope.names,x.2≠.cell)
  (R:bindArgs (W.kla_fn d qual c a scope cl J cd p) ⟨[],[]⟩=pure []) (L:Lf N Z scope cl H s.heap)
  (g:PE (UB P w K mg base N qual scope f cd cl A outer s H E) a t) (ht:t Z H Q) :
  wB (yW P w) A (.call (.ref f) ⟨[],[]⟩) (CR (W3 P w) outer P w H s Q E) s:=by have lim:=G.mod.nolimit.keeps λb o e=>(G.bs b o e).1;have n:=O.mono D;refine W.kla_callFunE n.depth S rfl F m rfl C ?_;rw[R];refine yP (wpAny_newFunctionEnv j (λ_ z=>nomatch z) (λI B l=>⟨lim.fresh _ l,?_⟩) hk);show wB _ _ (.expr a (W.envX qual scope s.heap.objs.size f cd cl)) _ _;have i:=λb o e=>l.extBut b o (qB7 (qB0 e)) (qA4 _ e);refine W.kla_codeExpr (jL (g [] _ Z H Q (vg G n.hd hk L B i) ht) (λv U h=>?_) λ_ _ y=>y);obtain⟨M,T,u,r,q⟩:=h;exact⟨M,T,u.os,u.bare,u.base,u.hok,r,q⟩
end
structure VG(X:Cx)(pins:yD)(H:Hp)(b:yR):Prop where
 s0:X.s₀.heap.get? b=Z8
 h:H b=Z8
 l:b≠X.env.locals
 c:∀x c,X.env.cells.lookup x=Z9 c->c≠b
 p:∀p∈X.pn++pins,p.1≠b
section
variable {X:Cx}{pins:yD}{Z:St}{H H':Hp}{s:yS}
theorem ZR.new1(I:ZR X pins Z H s)(d:X.ex=[]){b:yR}(a:s.heap.get? b=Z8)(hH:H' b=Z8):VG X pins H' b:=by
 refine⟨?_,hH,λz=>?_,λx c e z=>?_,λp g z=>?_⟩
 .cases q:X.s₀.heap.get? b with
  |none=>rfl
  |some h =>
   obtain⟨j,f⟩:=I.base.there b h q (by rw[d];simp);rw[a]at f;cases f
 .obtain⟨m,⟨o,k,i,e,_⟩,_⟩:=I.loc;rw[<- z,a]at e;cases e
 .obtain⟨v,o,q,_⟩:=I.cell x c e;rw[z,a]at q;cases q
 .have q:=(I.pin p g).1;rw[z,a]at q;cases q
theorem ZR.touch(I:ZR X pins Z H s)(K:X.ex=[]){h':jE}{wr:yC}(keep:∀b o,s.heap.get? b=Z9 o->b∉wr->b∉Xl X.stack->h'.get? b=Z9 o)
  (g:∀b o,s.heap.get? b=Z9 o->b∉wr->∃y,h'.get? b=Z9 { o with slots:=y }) (j:∀b o,s.heap.get? b=Z9 o->∃o',h'.get? b=Z9 o') (t:∀b∈wr,VG X pins H b):ZR X pins Z H { s with heap:=h' }:=by
 have ex:∀b,b∉X.ex:=λb h=>by rw[K]at h;cases h
 have P:∀b f,X.s₀.heap.get? b=Z9 f->b∉wr:=λb f q m=>by rw[(t b m).s0]at q;cases q
 have V:∀b f,X.s₀.heap.get? b=Z9 f->b≠X.env.locals:=λb f q=>qB7 (qB3 (qB0 q) I.ok.above);have M:∀b,b≠X.env.locals->b∉X.fs->b∉Xl X.stack:=λb C D m=>(qA9.mp (I.stkSub b m)).elim C D;refine⟨I.ok,I.os,I.bare,⟨λb f q n h _=>?_,λb f q n h _=>?_,λb f q n _=>I.base.free b f q n (ex b),λb f q _=>?_,I.base.tups,I.base.frzs,I.base.tbls⟩,?_,λx c e=>?_,I.free,I.freeC,λp N=>?_,?_,I.len⟩
 .exact keep b f (I.base.keep b f q n h (ex b)) (P b f q) (M b (V b f q) h)
 .obtain⟨y,G⟩:=I.base.slot b f q n h (ex b);obtain⟨F,R⟩:=g b _ G (P b f q);exact⟨F,R⟩
 .obtain⟨o',G⟩:=I.base.there b f q (ex b);exact j b o' G
 .obtain⟨m,⟨o,es,U,e,d,r⟩,W⟩:=I.loc;obtain⟨y,S⟩:=g _ _ e λz=>(t _ z).l rfl;refine⟨m,⟨_,es,U,S,d,r⟩,λi x v C D h3=>?_⟩;obtain⟨u,r,l⟩:=W i x v C D h3;refine⟨u,r,?_⟩;rcases l with l|⟨k,c,Q,Y,B,E⟩
  .exact .inl l
  .obtain⟨A,J⟩:=g _ _ B λz=>(t _ z).c x c Q rfl;exact .inr ⟨k,c,Q,_,J,E⟩
 .obtain⟨v,Y,B,E⟩:=I.cell x c e;obtain⟨A,J⟩:=g _ _ B λz=>(t _ z).c x c e rfl;exact⟨v,_,J,E⟩
 .obtain⟨p1,T,L,O,p5⟩:=I.pin p N;exact⟨keep _ _ p1 (λz=>(t _ z).p p N rfl) (M _ L O),T,L,O,p5⟩
 .exact λa o q=>(I.hok a o q).stay (λb u h r=>by
   have hs:∃z,H b=Z9 z:=by
    rcases h with rfl|h
    .exact⟨o,q⟩
    .exact⟨_,h⟩
   obtain⟨z,w⟩:=hs;refine keep b u r (λm=>?_) λm=>?_
   .rw[(t b m).h]at w;cases w
   .rw[I.stkFree b m]at w;cases w) (λ_ r=>r) λ_ _ r=>r
noncomputable def Cx.marked(X:Cx)(e:yR):Cx:={ X with A:=X.A.mark (Z9 (.ref e)),calm:=Z5,xe:=λ_ _=>False }
theorem ZR.marked(I:ZR X pins Z H s)(e:yR):ZR (X.marked e) pins Z H s :=
 ⟨⟨I.ok.mod,I.ok.kind,I.ok.glob,I.ok.blt,I.ok.above,I.ok.inj,I.ok.has,I.ok.cab,λz=>(by cases z),I.ok.frames,I.ok.stk,I.ok.exf,I.ok.bs,I.ok.bsz,I.ok.noex,I.ok.exfs,I.ok.funs,I.ok.frf⟩,I.os,I.bare,I.base,I.loc,I.cell,I.free,I.freeC,I.pin,I.hok,I.len⟩
theorem ZR.unmark{e:yR}(ok:X.Ok)(I:ZR (X.marked e) pins Z H s):ZR X pins Z H s:=⟨ok,I.os,I.bare,I.base,I.loc,I.cell,I.free,I.freeC,I.pin,I.hok,I.len⟩
theorem SP.unmark{e:yR}{D:XF}{f:Flow}(ok:X.Ok)(h:SP (X.marked e) pins D f s):SP X pins D f s:=by
 cases f with
 |next=>obtain⟨a,b,I,q⟩:=h;exact⟨a,b,I.unmark ok,q⟩
 |brk=>obtain⟨a,b,I,q⟩:=h;exact⟨a,b,I.unmark ok,q⟩
 |cont=>obtain⟨a,b,I,q⟩:=h;exact⟨a,b,I.unmark ok,q⟩
 |ret u=>obtain⟨v,a,b,I,r,q⟩:=h;exact⟨v,a,b,I.unmark ok,r,q⟩
inductive WE(X:Cx)(j:Nat):List jV->List (yR×Str)->Prop
 |nil:WE X j [] []
 |cons {x y w:Str}{p q q2 q3 q4:Pos}{jj:Nat}{C:yR}{r:List jV}{ws:List (yR×Str)} (hg:Gl X x) (hm:X.mg x=Z9 (.ref C)) (hd:YL x) (hy:X.N[j]?=Z9 y) (hl:X.env.scope.names.lookup y=Z9 .local) (t:WE X j r ws) :
   WE X j (.ExceptHandler (Z9 (.Name x p)) Z8 [.Assign [.Name y q] (.Constant (.str w) jj q2) q3] q4::r) ((C,w)::ws)
inductive TZ(K:yQ)(cls:yU):List (yR×Str)->Str->Prop
 |here {C:yR}{w:Str}{r:List (yR×Str)} (h:gB K cls (.ref C)=Z9 Z7):TZ K cls ((C,w)::r) w
 |there {C:yR}{v w:Str}{r:List (yR×Str)} (h:gB K cls (.ref C)=Z9 Z5) (t:TZ K cls r w):TZ K cls ((C,v)::r) w
theorem vf{e T:yR}{cls:yU}{j:Nat}{i:List (yR×Str)}{w:Str}(R:TZ X.K cls i w)(A:X.ex=[])(Q:X.N.Nodup)(I:ZR X pins Z H s)(O:RH s.heap e T cls)(Y:VG X pins H T){D:XF}(G:D.nx (Z.set j (Z9 (.str w))) H){E':yL}:
  ∀{k:List jV},WE X j k i->y7 (yW X.prog X.w) X.A (handleBy (.ref e) X.env k) (SP X pins D) E' s:=by
 obtain⟨oe,vs,oT,ts,M,d,hd,U,S,J,c,h3⟩:=O;have L:W.Looks (yW X.prog X.w) s.heap (dM (.ref e)) cls:=d▸(W.Looks.ld M).andThen .now
 induction R with
 |@here C w r h =>
  intro k hk;cases hk with
  |@cons x y w p q B E V K C r i u l a F m t =>
   refine fQ (fB (Ub (I.marked e) u l ?_ a)) (by intro q;cases q);refine W.exm_one I.kIn L h _ _ _ s (λ_ _ z=>z) ?_;refine codeAny_handlers_suite (fL M hd U J c (Array.getElem?_eq_some_iff.mp h3).1 ?_);have up:∀b,b≠T->(s.heap.update T (j8 (·.setIfInBounds 3 .none))).get? b=s.heap.get? b:=λb g=>qE4 _ _ (Ne.symm g);have N:=by
    refine I.touch A (wr:=[T]) (λb o q n _=>(up b (by simpa using n)).trans q) (λb o q n=>⟨o.slots,(up b (by simpa using n)).trans q⟩) (λb o q=>?_) λb g=>by simp at g;subst g;exact Y
    by_cases z:b=T
    .subst z;exact⟨_,qE8 _ J (jZ (jQ c _))⟩
    .exact⟨o,(up b z).trans q⟩
   have P:XE (X.marked e) [.Assign [.Name y q] (.Constant (.str w) K B) E] (To (Wo (tC (.str w)) (UL j)) OJ):=Ua (RZ HX (T9 Q F (.inl m) (.inr m))) OI;exact jL (P pins _ Z H D (N.marked e) G) (λf s2 z=>z.unmark I.ok) λ_ _ z=>False.elim z
 |@there C v w r h t ih =>
  intro k hk;cases hk with
  |@cons x y w' p q B E V K C r i u l a F m tl =>
   refine fQ (fB (Ub (I.marked e) u l ?_ a)) (by intro q;cases q);refine W.exm_one I.kIn L h _ _ _ s (λ_ _ z=>z) ?_;exact ih G tl
def Vf(X:Cx)(f:yR)(H:Hp)(Q:VK)(E:XK):Prop:=∀a Z s,ZR X a Z H s->W.FnAt f s.heap/\wB (yW X.prog X.w) X.A (.call (.ref f) ⟨[],[]⟩) (CR (W3 X.prog X.w) X.stack X.prog X.w H s Q E) s
def ve(X:Cx)(i j:Nat)(b:List (yR×Str))(f:yR):TS:=λD Z H=>Z[i]?=Z9 (Z9 (.ref f))/\Vf X f H (λ_ a=>D.nx Z a) λC _ a=>∃w,TZ X.K C b w/\D.nx (Z.set j (Z9 (.str w))) a
theorem vd{i j:Nat}{x:Str}{p1 p2 p3 p4:Pos}{J:jV}{G:List jV}{F:List (yR×Str)}{f:yR}(l:X.stack=X.env::X.outer)(U:X.env.frame=Z9 X.env.locals)(a:X.ex=[])(P:X.N.Nodup)(hi:X.N[i]?=Z9 x)(Y:VM X.env.scope x)
  (hdb:YL x) (t:(x == ("__classdict__":Str))=Z5) (hk:WE X j (J::G) F):PS X (.Try [.Expr (.Call (.Name x p1) [] [] p2) p3] (J::G) [] [] p4) (ve X i j F f):=by
 intro c s Z H D I h;obtain⟨hf,lc⟩:=h;refine wpAny_Try_except (gO (lO (vB ?_) I.quiet (by rfl)));refine jL (QZ (X:=X.nox) hi Y hdb t c s Z H (λv B=>v=.ref f/\B=H) (I.wish _) ⟨.ref f,hf,rfl,rfl⟩) (λu O z=>?_) λ_ _ z=>False.elim z
 .obtain⟨v,B,d,r,e1,N⟩:=z;have d:=d.unwish;subst e1 N;have eu:=r;subst eu;obtain⟨S,run⟩:=lc c Z O d;refine W.callWith_F0 S (fZ (vW run λr s2 h=>?_));cases r with
  |error ev =>
   obtain⟨e,T,C,K,rfl,L,ne,nT,os,n,un,A,he,V,w,Q,R⟩:=h;have g:=d.call' os un A n λb z=>absurd z (by simp);have p:=g.stack;have k:=g.ok.frames;rw[l]at p k;refine Li k p U L λh' o=>?_;rw[<- l]at o;obtain⟨T',m,y⟩:=o.tr;have M:=g.touch a o.keep o.slot o.there λb E=>by
    simp only[qA9,qD3,or_false]at E;rcases E with rfl|rfl
    .exact d.new1 a ne he
    .exact d.new1 a nT V
   exact vf Q a P M y (g.new1 a (qL8 m) (g.hok.fresh m)) R hk
  |ok p =>
   cases p with
   |ret u =>
    obtain⟨v,K,g,_,q⟩:=d.after h;exact vT (vT ⟨Z,K,g,q⟩)
   |next=>exact False.elim h
   |brk=>exact False.elim h
   |cont=>exact False.elim h
end
noncomputable def Le(c y e:Str)(a:jV)(h:List jV)(p1 p2 p3 p4 g i b f d:Pos)(j:Nat):List vK :=
 [.Assign [.Name y p1] (.Constant .none j p2) p3,.Try [.Expr (.Call (.Name c p4) [] [] g) i] (a::h) [] [] b,.Return (Z9 (.Name e f)) d]
section
variable {X:Cx}
theorem vc{c y:Str}{J:jV}{G:List jV}{p1 p2 p3 p4 L B E N A:Pos}{j:Nat}{F:List (yR×Str)}{f:yR}{H:Hp}{D:XF}(m:X.stack=X.env::X.outer)(V:X.env.frame=Z9 X.env.locals)(z:X.ex=[])(l:X.N=[c,y])(nd:c≠y)
  (Y:VM X.env.scope c) (k:YL c) (n:(c == ("__classdict__":Str))=Z5) (t:X.env.scope.names.lookup y=Z9 .local) (o:YL y) (x:(y == ("__classdict__":Str))=Z5) (hk:WE X 1 (J::G) F)
  (lc:Vf X f H (λ_ i=>D.rt .non i) λC _ i=>∃w,TZ X.K C F w/\D.rt (.str w) i) {d:yD}{s:yS} (I:ZR X d (start [c,y] [.ref f]) H s) :
  y7 (yW X.prog X.w) X.A (execs (Le c y y J G p1 p2 p3 p4 L B E N A j) X.env) (SP X d D) X.xe s:=by
 have P:X.N[0]?=Z9 c:=by rw[l];rfl
 have M:X.N[1]?=Z9 y:=by rw[l];rfl
 have K:X.N.Nodup:=by rw[l];simp[nd]
 have a:=RZ (pos:=p3) (Mq (j:=j) (pos:=p2)) (T9 (pos:=p1) K M (.inl t) (.inr t));have b:=vd (p1:=p4) (p2:=L) (p3:=B) (p4:=E) (f:=f) m V z K P Y k n hk;have r:=Mk (pos:=A) (QZ (pos:=N) M (.inl t) o x);refine Ua a (Ua b (Ua r OI)) d s _ H D I ⟨rfl,λd Z s I=>?_⟩;obtain⟨Q,z2⟩:=lc d Z s I;refine⟨Q,vW z2 λr s' q=>?_⟩;cases r with
 |error ev =>
  obtain⟨e,T,C,i,rfl,O,ne,nT,p,g,un,h,he,W,w,S,U⟩:=q;exact⟨e,T,C,i,rfl,O,ne,nT,p,g,un,h,he,W,w,S,.str w,rfl,U⟩
 |ok R =>
  cases R with
  |ret u =>
   obtain⟨v,i,p,g,un,h,r,q⟩:=q;exact⟨v,i,p,g,un,h,r,.non,rfl,q⟩
  |next=>exact q
  |brk=>exact q
  |cont=>exact q
end
section
variable {P:y4}{w:jD}{K:yQ}{mg:Str->yF}{base:jE}
theorem vb{x c y:Str}{st:vK}{l f:yR}{N:jW}{M:jV}{L:List jV}{p1 p2 p3 p4 p5 W Z p8 O:Pos}{j:Nat}{J:List (yR×Str)}{A:jC}{a:List Env}{s:yS}{H:Hp}{Q:VK}(F:WZ K x x st l N)(S:Ti [c,y] [c] (Zi st))(Y:VZ K N [c] [])
  (k:Xk st=Le c y y M L p1 p2 p3 p4 p5 W Z p8 O j) (n:YL c) (t:(c == ("__classdict__":Str))=Z5) (hl:(Zi st).names.lookup y=Z9 .local) (B:YL y) (E:(y == ("__classdict__":Str))=Z5)
  (hd:A.depth<lQ) (hh:A.handled=Z8) (m:WG P w K mg base A a s H)
  (hk:∀d,WE (YQ Wk P w K mg base [c,y] x (Zi st) l d A a s H E0) 1 (M::L) J)
  (lc:∀d,Vf (YQ Wk P w K mg base [c,y] x (Zi st) l d A a s H E0) f H (λ_ g=>Q .non g) λC _ g=>∃w,TZ K C J w/\Q (.str w) g) :
  wB (yW P w) A (.call (.ref l) ⟨[.ref f],[]⟩) (CR Wk a P w H s Q E0) s:=by
 obtain⟨oc,od,kV,doc,pm,an,d,ct,X,rfl,lk,r⟩:=F.ex;have p:=m.mod.kin.keeps λb o e=>(m.bs b o e).1;have lim:=m.mod.nolimit.keeps λb o e=>(m.bs b o e).1;have i:∀z∈[(c,Value.ref f)],(Zi st).names.lookup z.1=Z9 .local∨((Zi st).names.lookup z.1=Z9 .cell/\((vG (s.heap.objs.size+1) (Zi st).names []).lookup z.1).isSome=Z7):=λz G=>by
  simp only[qA9,qD3,or_false]at G;subst G;rcases S.par c (by simp)with q|q
  .exact .inl q
  .exact .inr ⟨q,fD _ _ _ (.inl q)⟩
 refine fA hd (p _ _ lk) rfl S.co S.gen rfl (m7 p r) (Y s [.ref f] p rfl _ _ _ _ (wG S.kind i λenv he s1 z=>?_));subst he;refine⟨lim.keeps z.toInCall.keep,dA ?_⟩;have I:ZR (YQ Wk P w K mg base [c,y] x (Zi st) l d A a s H E0) [] (start [c,y] [.ref f]) H s1:=L6 S hh m rfl (.cons rfl .nil) z;rw[k];have nd:=by have:=S.nd;simp at this;exact this
 have hv:VM (Zi st) c:=(S.par c (by simp)).elim .inl λq=>.inr (.inl q);refine jL (vc (D:={ nx:=λ_ g=>Q .non g,rt:=Q }) rfl rfl rfl rfl nd hv n t hl B E (hk d) (lc d) I) (λV T q=>?_) λe T q=>q;cases V with
 |ret u =>
  obtain⟨v,U,g,h,R,q⟩:=q;exact⟨v,g,h.os,h.bare,h.base,h.hok,R,q⟩
 |next =>
  obtain⟨U,g,h,q⟩:=q;exact⟨.non,g,h.os,h.bare,h.base,h.hok,rfl,q⟩
 |brk =>
  obtain⟨_,_,_,q⟩:=q;exact False.elim q
 |cont =>
  obtain⟨_,_,_,q⟩:=q;exact False.elim q
end
structure VF(K:yQ)(C:yR):Prop where
 ga:mB K (.ref C) "__getattribute__"=Z9 (Z9 (.builtin "BaseException.__getattribute__"))
 cl:mB K (.ref C) "__class__"=Z9 (Z9 (.builtin "object.__class__"))
 mo:W.mroIn K C (.type "object")=Z9 Z7
 mb:W.mroIn K C (.type "BaseException")=Z9 Z7
 gn:mB K (.ref C) "__getattr__"=Z9 Z8
 it:(W.clsIn K C).isSome=Z7
section
open PySem.W Builtin Builtin.ObjectAttr Builtin.Getset_descriptor
variable {prog:y4}{w:jD}{A:jC}{E:yL}{s:yS}{K:yQ}{e C:yR}{oe:Obj}
theorem Qo{h:jE}(he:h.get? e=Z9 oe)(a:oe.cls=.ref C){M:mU}:W.Looks M h (dM (.ref e)) (.ref C):=a▸(W.Looks.ld he).andThen .now
theorem u9{R:dL->yS->Prop}{a:yU}(X:K.In s.heap)(g:VF K C)(he:s.heap.get? e=Z9 oe)(b:oe.cls=.ref C)(h:R (.ok (.ret (.ref C))) s):
  wB (yW prog w) A (.call (.builtin "getset_descriptor.__get__") ⟨[.builtin "object.__class__",.ref e,a],[]⟩) R s:=by
 have d:=Qo he b (M:=yW prog w);have c:=W.looks_mroIn (M:=yW prog w) X g.mo;refine mC KF.slot_gs.plain KF.entry_gs (KF.slot_gs.check _ _ _ _ _ _ _ _ KF.type_class (KF.args_gs _ _ _) ?_);unfold Builtin.«getset_descriptor.__get__» descrGet;rw[dga_obj];refine yO (yP ?_);unfold descrGetter descrCheckInstance descrNameAndClass isInstance;simp only[KF.owner_class]
 repeat lk
 refine⟨Code.quiet_builtin _ (by decide +kernel),wN KF.entry_class ?_⟩
 repeat lk
 exact h
theorem u5{M:mU}{a:yU}{Q:Unit->yS->Prop}(X:K.In s.heap)(g:VF K C)(he:s.heap.get? e=Z9 oe)(c:oe.cls=.ref C)(f:Q () s):y7 M A (checkBuiltinCall "BaseException.__getattribute__" ⟨[.ref e,a],[]⟩) Q E s:=by
 have d:=Qo he c (M:=M);have b:=W.looks_mroIn (M:=M) X g.mb;refine yO ?_;refine yO (d.at (b.at ?_))
 repeat (first|assumption|wp_step)
theorem u0{tk:Tok}{Q:Fin->yS->Prop}(X:K.In s.heap)(g:VF K C)(he:s.heap.get? e=Z9 oe)(a:oe.cls=.ref C)(k:Q (.done (.ret (.ref C))) s):
  y7 (yW prog w) A (Builtin.«object.__getattribute__» ⟨[.ref e,.str "__class__" tk],[]⟩) Q E s:=by
 obtain⟨l,i,dr,t,h⟩:=s;have j:=Qo he a (M:=yW prog w);have c:=mD (M:=yW prog w) X g.cl;have b:=KF.type_class;have f:=F.slot_gs_get.lookup;have d:=F.slot_gs_set.lookup
 repeat (any_goals (first|assumption|with_reducible refine W.Looks.at (by assumption) ?_|wp_step))
 refine u9 X g he a ?_
 repeat (any_goals (first|assumption|wp_step))
theorem uZ{Q:yF->yS->Prop}(X:K.In s.heap)(g:VF K C)(he:s.heap.get? e=Z9 oe)(a:oe.cls=.ref C)(h:Q (Z9 (.ref C)) { s with toks:=s.toks+1 }):
  y7 (yW prog w) A (getAttr? (.ref e) "__class__") Q E s:=by
 obtain⟨j,f,dr,t,d⟩:=s;have i:=Qo he a (M:=yW prog w);have c:=mD (M:=yW prog w) X g.ga;have b:=mD (M:=yW prog w) X g.gn;refine yO (wpAny_mkText ?_);refine yO (vM (jO (yO (i.at (yO (c.at ?_))))));refine yO (b.at ?_);refine yO (vM (jO ?_));refine fZ (mC F.attr_ValueError.ga.plain F.entry_bexc_ga (u5 X g he a (u0 (s:=⟨j,f,dr,t+1,d⟩) X g he a ?_)))
 repeat (any_goals (first|assumption|wp_step))
theorem uY(g:VF K C):KitX K (.ref e) (.ref C) (λh=>∃b,h.get? e=Z9 b/\b.cls=.ref C) where
 ty:=λM h X p=>by obtain⟨b,l,c⟩:=p;exact Qo l c
 it:=λ_ _ X _=>by
  have a:=g.it;unfold clsIn at a;split at a
  .rename_i r m d i j;intro y v D u k q;exact yO (wpAny_loadPart (k _ _ (X _ _ j)) (yP q))
  .cases a
 ne:=λh x B o n t X f=>by
  have a:=g.it;refine Bool.eq_false_iff.mpr λq=>?_;have e:=Value.ref.inj (beq_iff_eq.mp q);subst e;unfold clsIn at a;split at a
  .rename_i r m d i j;have z:=(X _ _ j).symm.trans f;cases z
  .cases a
 ca:=λX p k=>by obtain⟨b,l,c⟩:=p;exact uZ X g l c k
end
section
variable {X:Cx}{pins:yD}{Z:St}{H H':Hp}{s:yS}
noncomputable def Ve(e:yR)(a:Obj):HO:=.frz a (.ext λh=>h.get? e=Z9 a)
theorem ZR.adopt(I:ZR X pins Z H s)(w:X.ex=[]){e:yR}{d:Obj}(n:VG X pins H e)(he:s.heap.get? e=Z9 d):ZR X pins Z (ZD H e (Ve e d)) s:=by
 have ne:∀b u,H b=Z9 u->b≠e:=λb u q z=>by rw[z,n.h]at q;cases q
 have t:∀b h,X.s₀.heap.get? b=Z9 h->b≠e:=λb h q z=>by rw[z,n.s0]at q;cases q
 refine⟨I.ok,I.os,I.bare,⟨I.base.keep,I.base.slot,λb o q z l=>?_,I.base.there,λb f q=>?_,λb o u q=>?_,λb j q=>?_⟩,I.loc,I.cell,?_,λx c q=>?_,λp g=>?_,λa o q=>?_,I.len⟩
 .rw[Za (t b o q)];exact I.base.free b o q z l
 .have:=I.base.tups b f q;rw[Za (ne _ _ this)];exact this
 .have:=I.base.frzs b o u q;rw[Za (ne _ _ this)];exact this
 .obtain⟨m,this⟩:=I.base.tbls b j q;exact⟨m,by rw[Za (ne _ _ this)];exact this⟩
 .rw[Za (Ne.symm n.l)];exact I.free
 .rw[Za (n.c x c q)];exact I.freeC x c q
 .obtain⟨v,i,k⟩:=I.pin p g;exact⟨v,by rw[Za (n.p p g)];exact i,k⟩
 .by_cases z:a=e
  .subst z;rw[XA]at q;cases q;exact⟨he,he,⟨d,he⟩,λA B p q=>q _ p⟩
  .rw[Za z]at q;exact(I.hok a o q).stay (λb u y r=>r) (λb r=>by rw[Za (ne _ _ r)];exact r) λb f r=>by rw[Za (ne _ _ r)];exact r
theorem uX{M:mU}{A:jC}{E:yL}{i:Nat}{x:Str}{pos:Pos}{Q:Unit->yS->Prop}(I:ZR X pins Z H s)(L:X.N.Nodup)(hi:X.N[i]?=Z9 x)(hk:X.env.scope.names.lookup x=Z9 .local)
  (h:∀s',ZR X pins (Z.set i Z8) H s'->Q () s'):y7 M A (do bindName X.env x .none;unbindBehindTheSuite X.env x pos) Q E s:=by
 obtain⟨m,S,U⟩:=id I.loc;have l:(X.env.scope.kind == .class||(X.env.scope.kind == .module&&X.env.locals != X.env.globals))=Z5:=by rw[I.ok.kind];rfl
 have J:i<Z.length:=by rw[I.len];exact(qA1.mp hi).1
 have cne:=I.cne;refine wpAny_nameGoes_keeps hk S l λP u v a=>?_;refine h { s with heap:=P,toks:=s.toks+1 } ⟨I.ok,I.os,I.bare,⟨λb o e n t g=>?_,λb o e n t g=>?_,I.base.free,λb o e g=>?_,I.base.tups,I.base.frzs,I.base.tbls⟩,⟨_,v,λj y F f w T=>?_⟩,λy c e=>?_,I.free,I.freeC,λp N=>?_,λb R e=>?_,by simpa using I.len⟩
 .exact(a.2 b (qB7 (qB3 (qB0 e) I.ok.above))).trans (I.base.keep b o e n t g)
 .obtain⟨G,f⟩:=I.base.slot b o e n t g;exact⟨G,(a.2 b (qB7 (qB3 (qB0 e) I.ok.above))).trans f⟩
 .obtain⟨V,f⟩:=I.base.there b o e g;exact⟨V,(a.2 b (qB7 (qB3 (qB0 e) I.ok.above))).trans f⟩
 .by_cases B:j=i
  .simp_all
  .rw[qD5 (Ne.symm B)]at w;obtain⟨O,K,q⟩:=U j y F f w T;refine⟨O,K,?_⟩;rcases q with⟨k,e⟩| ⟨k,c,e,z⟩
   .refine .inl ⟨k,?_⟩;have:y≠x:=λe=>B (Mr L f (e▸hi));simp[this,e]
   .exact .inr ⟨k,c,e,z.sameBut a (cne y c e)⟩
 .obtain⟨C,z⟩:=I.cell y c e;exact⟨C,z.sameBut a (cne y c e)⟩
 .obtain⟨e,n,ne,D,d⟩:=I.pin p N;exact⟨(a.2 p.1 ne).trans e,n,ne,D,d⟩
 .refine(I.hok b R e).stay (λc C r q=>(a.2 c ?_).trans q) (λ_ q=>q) λ_ _ q=>q;rintro rfl;rcases r with rfl|r
  .rw[I.free]at e;cases e
  .rw[I.free]at r;cases r
theorem uW{e T C:yR}{cls:yU}{i j:Nat}{x en y:Str}{p q q2 q3 q4:Pos}(P:gB X.K cls (.ref C)=Z9 Z7)(h:X.ex=[])(r:X.N.Nodup)(I:ZR X pins Z H s)(M:RH s.heap e T cls)(U:VG X pins H T)(nE:VG X pins H e)
  (Y:Gl X x) (hm:X.mg x=Z9 (.ref C)) (hdb:YL x) (hi:X.N[i]?=Z9 en) (a:X.env.scope.names.lookup en=Z9 .local) (w:YL en) (m:(en == ("__classdict__":Str))=Z5) (N:X.N[j]?=Z9 y) (G:X.env.scope.names.lookup y=Z9 .local)
  {D:XF} (Q:∀d,d.cls=cls->D.nx (((Z.set i (Z9 (.ref e))).set j (Z9 (.ref e))).set i Z8) (ZD H e (Ve e d))) {E':yL} :
  y7 (yW X.prog X.w) X.A (handleBy (.ref e) X.env [.ExceptHandler (Z9 (.Name x p)) (Z9 en) [.Assign [.Name y q] (.Name en q2) q3] q4]) (SP X pins D) E' s:=by
 obtain⟨d,vs,oT,ts,B,c,hd,S,t,F,g,V⟩:=M;have LT:W.Looks (yW X.prog X.w) s.heap (dM (.ref e)) cls:=c▸(W.Looks.ld B).andThen .now;refine fQ (fB (Ub (I.marked e) Y hm ?_ hdb)) (by intro q;cases q);refine W.exm_one I.kIn LT P _ _ _ s (λ_ _ z=>z) ?_;refine codeAny_handlers_suite_as (fL B hd S F g (Array.getElem?_eq_some_iff.mp V).1 ?_);have up:∀b,b≠T->(s.heap.update T (j8 (·.setIfInBounds 3 .none))).get? b=s.heap.get? b:=λb k=>qE4 _ _ (Ne.symm k);have L:=by
  refine I.touch h (wr:=[T]) (λb o q n _=>(up b (by simpa using n)).trans q) (λb o q n=>⟨o.slots,(up b (by simpa using n)).trans q⟩) (λb o q=>?_) λb k=>by simp at k;subst k;exact U
  by_cases z:b=T
  .subst z;exact⟨_,qE8 _ F (jZ (jQ g _))⟩
  .exact⟨o,(up b z).trans q⟩
 have K:=L.adopt h nE ((up e (Ne.symm t)).trans B);refine HY (v:=.ref e) K r hi (.inl a) rfl (λs4 R=>?_) (.inr a);have O:XE (X.marked e) [.Assign [.Name y q] (.Name en q2) q3] (To (Wo (Tq i) (UL j)) OJ):=Ua (RZ (QZ hi (.inl a) w m) (T9 r N (.inl G) (.inr G))) OI;have l:i<Z.length:=by rw[I.len];exact(qA1.mp hi).1
 refine jL (O pins s4 _ _ { nx:=fun E J=>E=(Z.set i (Z9 (.ref e))).set j (Z9 (.ref e))/\J=ZD H e (Ve e d),rt:=λ_ _=>False } (R.marked e) ⟨.ref e,by rw[qC9 l],rfl,rfl⟩) (λf s5 z=>?_) λ_ _ z=>False.elim z;cases f with
 |next =>
  obtain⟨E,J,JJ,rfl,rfl⟩:=z;exact uX (JJ.unmark I.ok) r hi a λs6 A=>⟨_,_,A,Q d c⟩
 |brk=>obtain⟨_,_,_,z⟩:=z;exact False.elim z
 |cont=>obtain⟨_,_,_,z⟩:=z;exact False.elim z
 |ret u=>obtain⟨_,_,_,_,_,z⟩:=z;exact False.elim z
def uV(X:Cx)(i k j:Nat)(C:yR)(f:yR):TS:=λD Z H=>Z[i]?=Z9 (Z9 (.ref f))/\Vf X f H (λ_ a=>D.nx Z a) λc _ a=>gB X.K c (.ref C)=Z9 Z7/\∀e b,a e=Z8->b.cls=c->D.nx (((Z.set k (Z9 (.ref e))).set j (Z9 (.ref e))).set k Z8) (ZD a e (Ve e b))
theorem uU{i k j:Nat}{x en y g:Str}{p1 p2 p3 p4 p q q2 q3 q4:Pos}{C f:yR}(t:X.stack=X.env::X.outer)(fr:X.env.frame=Z9 X.env.locals)(a:X.ex=[])(R:X.N.Nodup)(hi:X.N[i]?=Z9 x)(U:VM X.env.scope x)
  (hdb:YL x) (E:(x == ("__classdict__":Str))=Z5) (hg:Gl X g) (hm:X.mg g=Z9 (.ref C)) (J:YL g) (hk:X.N[k]?=Z9 en) (F:X.env.scope.names.lookup en=Z9 .local) (G:YL en) (L:(en == ("__classdict__":Str))=Z5) (hy:X.N[j]?=Z9 y) (hl:X.env.scope.names.lookup y=Z9 .local) :
  PS X (.Try [.Expr (.Call (.Name x p1) [] [] p2) p3] [.ExceptHandler (Z9 (.Name g p)) (Z9 en) [.Assign [.Name y q] (.Name en q2) q3] q4] [] [] p4) (uV X i k j C f):=by
 intro d s Z H D I h;obtain⟨hf,lc⟩:=h;refine wpAny_Try_except (gO (lO (vB ?_) I.quiet (by rfl)));refine jL (QZ (X:=X.nox) hi U hdb E d s Z H (λv O=>v=.ref f/\O=H) (I.wish _) ⟨.ref f,hf,rfl,rfl⟩) (λu s1 z=>?_) λ_ _ z=>False.elim z
 .obtain⟨v,O,l,r,V,e2⟩:=z;have l:=l.unwish;subst V e2;have eu:=r;subst eu;obtain⟨fa,run⟩:=lc d Z s1 l;refine W.callWith_F0 fa (fZ (vW run λr s2 h=>?_));cases r with
  |error ev =>
   obtain⟨e,T,c,Q,rfl,tr,ne,Y,os,n,un,M,N,hT,hx,S⟩:=h;have m:=l.call' os un M n λb z=>absurd z (by simp);have B:=m.stack;have A:=m.ok.frames;rw[t]at B A;refine Li A B fr tr λh' o=>?_;rw[<- t]at o;obtain⟨T',w,K⟩:=o.tr;have nE:=l.new1 a ne N;have I2:=m.touch a o.keep o.slot o.there λb P=>by
    simp only[qA9,qD3,or_false]at P;rcases P with rfl|rfl
    .exact nE
    .exact l.new1 a Y hT
   exact uW hx a R I2 K (m.new1 a (qL8 w) (m.hok.fresh w)) nE hg hm J hk F G L hy hl λoe q=>S e oe N q
  |ok B =>
   cases B with
   |ret u =>
    obtain⟨v,Q,m,_,q⟩:=l.after h;exact vT (vT ⟨Z,Q,m,q⟩)
   |next=>exact False.elim h
   |brk=>exact False.elim h
   |cont=>exact False.elim h
end
inductive D where
 |non|bl (b:Bool)| int (i:Int)| str (x:Str)| ty (n:String)| tup (xs:List D)| lst (n:Nat)| dct (n:Nat)| rol (xs:List D)
 |xc (c:Str)
inductive O where
 |lst (xs:List D)| dk (kvs:List (ZJ×D))| dt (kvs:List (List ZJ×D))
 |tb (x:Str)
 |fk (kvs:List (ZJ×D))
abbrev ZX:=List O
abbrev ZT:=List (Option D)
def TY(K:yQ)(H:Hp)(a:yR)(xs:List V):Prop:=(∃o,H a=Z9 (.frz o (.lst xs))) ∨
  ∃(o:Obj) (b:yJ) (n:Nat),K.lookup a=Z9 o/\o.cls=.type "list"/\o.dict=Z8/\o.data=.seq b n/\b.size<=jA/\ZO xs b.toList
theorem TY.sq{K:yQ}{H:Hp}{a:yR}{xs:List V}(h:TY K H a xs):YA K H a xs:=by
 rcases h with⟨o,h⟩| h
 .exact .inl (.inr ⟨o,h⟩)
 .exact .inr h
structure TF(K:yQ)(H H':Hp):Prop where
 t:TK K H H'
 f:∀a xs,TY K H a xs->TY K H' a xs
 u:∀a xs,H a=Z9 (.tup xs)->H' a=Z9 (.tup xs)
 z:∀a o u,H a=Z9 (.frz o u)->H' a=Z9 (.frz o u)
theorem TF.refl(K:yQ)(H:Hp):TF K H H:=⟨TK.refl K H,λ_ _ h=>h,λ_ _ h=>h,λ_ _ _ h=>h⟩
theorem TF.trans{K:yQ}{H d H2:Hp}(a:TF K H d)(b:TF K d H2):TF K H H2:=⟨a.t.trans b.t,λp c h=>b.f p c (a.f p c h),λp c h=>b.u p c (a.u p c h),λp o u h=>b.z p o u (a.z p o u h)⟩
theorem Gd{K:yQ}{H H':Hp}{p:yR}(h:∀q o,q≠p->H q=Z9 o->H' q=Z9 o)(b:∀xs,H p≠Z9 (.tup xs))(a:∀x y,H p≠Z9 (.frz x y)):TF K H H':=by
 refine⟨λq c e=>?_,λq c e=>?_,λq c e=>h _ _ (λz=>b _ (z▸e)) e,λq o u e=>h _ _ (λz=>a _ _ (z▸e)) e⟩
 .rcases e with(e|⟨w,e⟩)| e
  .exact .inl (.inl (h _ _ (λz=>b _ (z▸e)) e))
  .exact .inl (.inr ⟨w,h _ _ (λz=>a _ _ (z▸e)) e⟩)
  .exact .inr e
 .rcases e with⟨w,e⟩| e
  .exact .inl ⟨w,h _ _ (λz=>a _ _ (z▸e)) e⟩
  .exact .inr e
theorem RG{K:yQ}{H:Hp}{p:yR}{u o:HO}(e:H p=Z9 u)(b:∀xs,u≠.tup xs)(a:∀x y,u≠.frz x y):TF K H (ZD H p o) :=
 Gd (λq v c h=>by rw[Za c];exact h) (λxs h=>by rw[e]at h;exact b xs (Option.some.inj h)) (λx y h=>by rw[e]at h;exact a x y (Option.some.inj h))
theorem N6{K:yQ}{H:Hp}{p:yR}{xs:List V}{o:HO}(e:H p=Z9 (.lst xs)):TF K H (ZD H p o):=RG e (λ_ z=>by cases z) (λ_ _ z=>by cases z)
theorem Gc{K:yQ}{H H':Hp}(h:XS H H'):TF K H H':=⟨λp a e=>h.tup e,λq b e=>by
 rcases e with⟨w,e⟩| e
 .exact .inl ⟨w,h _ _ e⟩
 .exact .inr e,λ_ _ e=>h _ _ e,λ_ _ _ e=>h _ _ e⟩
mutual
def RV(K:yQ)(H:Hp)(J:yC):D->V->Prop
 |.non,v=>v=.non
 |.bl b,v=>v=.bl b
 |.int i,v=>v=.int i
 |.str x,v=>v=.str x
 |.ty n,v=>v=.ty n
 |.tup f,v=>∃p d,v=.ref p/\H p=Z9 (.tup d)/\RVs K H J f d
 |.lst n,v=>∃a,v=.ref a/\J[n]?=Z9 a
 |.dct n,v=>∃a,v=.ref a/\J[n]?=Z9 a
 |.rol f,v=>∃p d,v=.ref p/\TY K H p d/\RVs K H J f d
 |.xc c,v=>∃e g C,v=.ref e/\H e=Z9 (.frz g (.ext λh=>h.get? e=Z9 g))/\g.cls=.ref C/\gA K y9 c=Z9 (Z9 (.ref C))
def RVs(K:yQ)(H:Hp)(J:yC):List D->List V->Prop
 |[],vs=>vs=[]
 |d::ds,vs=>∃v a,vs=v::a/\RV K H J d v/\RVs K H J ds a
end
def YU{b:Type}(K:yQ)(H:Hp)(J:yC)(kvs:List (b×D))(a:List (b×V)):Prop:=kvs.map (·.1)=a.map (·.1)/\RVs K H J (kvs.map (·.2)) (a.map (·.2))
def Lc(q:Str)(H:Hp)(b:yU):Prop:=∃c o a t,b=.ref c/\H c=Z9 (.frz o (.ext λh=>h.get? c=Z9 o))/\o.data=.fields a/\a[1]?=Z9 (.str q t)
noncomputable def Wf(x:Str):Str:=x ++ ".<locals>." ++ "<lambda>"
structure UA(K:yQ)(q:Str)(H:Hp)(a:yR)(x:Str)(ps:yJ):Prop where
 tab:∃c,fI K x=Z9 (c,a)
 ok:TriplesOk ps.toList
 code:∀pos cv,gU pos ps.toList=Z9 cv->Lc q H cv
def OR(K:yQ)(H:Hp)(J:yC)(a:yR):O->Prop
 |.lst f=>∃d,H a=Z9 (.lst d)/\RVs K H J f d
 |.dk b=>∃c,H a=Z9 (.dK c)/\YU K H J b c
 |.dt b=>∃c,H a=Z9 (.dT c)/\YU K H J b c
 |.tb x=>∃e,H a=Z9 (.tbl e)/\UA K (Wf x) H a x e
 |.fk b=>∃o c,H a=Z9 (.frz o (.dK c))/\YU K H J b c
structure SR(K:yQ)(J:yC)(S:ZX)(H:Hp):Prop where
 len:J.length=S.length
 nd:J.Nodup
 obj:∀(n:Nat) (a:yR) (o:O),J[n]?=Z9 a->S[n]?=Z9 o->OR K H J a o
structure ZM(K:yQ)(J J':yC)(H H':Hp):Prop where
 pre:∃ν,J'=J++ν/\∀b∈ν,H b=Z8
 fr:∀b o,b∉J->H b=Z9 o->H' b=Z9 o
 tk:TF K H H'
section
variable {K:yQ}{H H' H1 H2:Hp}{J J' J1 J2:yC}{S S':ZX}
mutual
theorem RV.up(tk:TF K H H')(f:∃j,J'=J++j):∀(d:D) (v:V),RV K H J d v->RV K H' J' d v
 |.non,v,h=>by simpa[RV]using h
 |.bl b,v,h=>by simpa[RV]using h
 |.int i,v,h=>by simpa[RV]using h
 |.str x,v,h=>by simpa[RV]using h
 |.ty n,v,h=>by simpa[RV]using h
 |.tup l,v,h=>by obtain⟨p,g,e,q,r⟩:=h;exact⟨p,g,e,tk.u p g q,RVs.up tk f l g r⟩
 |.lst n,v,h=>by obtain⟨a,e,q⟩:=h;obtain⟨j,rfl⟩:=f;exact⟨a,e,by rw[qA8 (qA1.mp q).1];exact q⟩
 |.dct n,v,h=>by obtain⟨a,e,q⟩:=h;obtain⟨j,rfl⟩:=f;exact⟨a,e,by rw[qA8 (qA1.mp q).1];exact q⟩
 |.rol l,v,h=>by obtain⟨p,g,e,q,r⟩:=h;exact⟨p,g,e,tk.f p g q,RVs.up tk f l g r⟩
 |.xc c,v,h=>by unfold RV at h ⊢;obtain⟨e,m,C,r,q,k⟩:=h;exact⟨e,m,C,r,tk.z e m _ q,k⟩
theorem RVs.up(tk:TF K H H')(a:∃c,J'=J++c):∀(ds:List D) (vs:List V),RVs K H J ds vs->RVs K H' J' ds vs
 |[],vs,h=>by simpa[RVs]using h
 |d::ds,vs,h=>by obtain⟨v,b,e,r,q⟩:=h;exact⟨v,b,e,RV.up tk a d v r,RVs.up tk a ds b q⟩
end
theorem RVs.len:∀{ds:List D}{vs:List V},RVs K H J ds vs->ds.length=vs.length
 |[],vs,h=>by subst h;rfl
 |d::ds,vs,h=>by obtain⟨v,a,rfl,_,q⟩:=h;rw[qC3,qC3,RVs.len q]
theorem RVs.nil:RVs K H J [] []:=by rfl
theorem RVs.cons{d:D}{v:V}{ds:List D}{a:List V}(h:RV K H J d v)(t:RVs K H J ds a):RVs K H J (d::ds) (v::a):=by exact⟨v,a,rfl,h,t⟩
theorem RVs.get:∀{ds:List D}{vs:List V}{i:Nat}{d:D},RVs K H J ds vs->ds[i]?=Z9 d->∃v,vs[i]?=Z9 v/\RV K H J d v
 |[],vs,i,d,h,e=>by simp at e
 |x::ds,vs,0,d,h,e=>by obtain⟨v,b,rfl,r,q⟩:=h;simp at e;subst e;exact⟨v,rfl,r⟩
 |x::ds,vs,i+1,d,h,e=>by obtain⟨v,b,rfl,r,q⟩:=h;obtain⟨u,a,c⟩:=RVs.get q (by simpa using e);exact⟨u,by simpa using a,c⟩
theorem RVs.append:∀{ds es:List D}{vs us:List V},RVs K H J ds vs->RVs K H J es us->RVs K H J (ds++es) (vs++us)
 |[],es,vs,us,h,g=>by subst h;exact g
 |d::ds,es,vs,us,h,g=>by obtain⟨v,a,rfl,r,q⟩:=h;exact .cons r (RVs.append q g)
theorem RVs.take:∀{ds:List D}{a:List V} (n:Nat),RVs K H J ds a->RVs K H J (ds.take n) (a.take n)
 |_,_,0,_=>by exact .nil
 |[],a,n+1,h=>by subst h;exact .nil
 |d::ds,a,n+1,h=>by obtain⟨v,b,rfl,r,q⟩:=h;exact .cons r (RVs.take n q)
theorem RVs.drop:∀{ds:List D}{a:List V} (n:Nat),RVs K H J ds a->RVs K H J (ds.drop n) (a.drop n)
 |_,_,0,h=>by simpa using h
 |[],a,n+1,h=>by subst h;exact .nil
 |d::ds,a,n+1,h=>by obtain⟨v,b,rfl,r,q⟩:=h;exact RVs.drop n q
theorem RVs.set{d:D}{v:V}(g:RV K H J d v):∀{ds:List D}{vs:List V} (n:Nat),RVs K H J ds vs->RVs K H J (ds.set n d) (vs.set n v)
 |[],vs,n,h=>by subst h;exact .nil
 |x::ds,vs,0,h=>by obtain⟨u,a,rfl,r,q⟩:=h;exact .cons g q
 |x::ds,vs,n+1,h=>by obtain⟨u,a,rfl,r,q⟩:=h;exact .cons r (RVs.set g n q)
theorem RVs.ints{b:yA}:RVs K H J (b.map D.int) (b.map V.int):=by
 induction b with
 |nil=>exact .nil
 |cons a r c=>exact .cons (by rfl) c
theorem YU.up{b:Type}(tk:TF K H H')(a:∃c,J'=J++c){kvs:List (b×D)}{ws:List (b×V)}(h:YU K H J kvs ws):YU K H' J' kvs ws:=⟨h.1,RVs.up tk a _ _ h.2⟩
theorem SR.isS(f:SR K J S H){a:yR}(h:a∈J):∃o,H a=Z9 o:=by
 obtain⟨n,d⟩:=qE2 h;have g:n<S.length:=by rw[<- f.len];exact(qA1.mp d).1
 have q:=f.obj n a S[n] d (qA6 g);revert q;generalize S[n]=o;intro q;cases o with
 |lst j=>obtain⟨c,e,_⟩:=q;exact⟨_,e⟩
 |dk b=>obtain⟨c,e,_⟩:=q;exact⟨_,e⟩
 |dt b=>obtain⟨c,e,_⟩:=q;exact⟨_,e⟩
 |tb i=>obtain⟨c,e,_⟩:=q;exact⟨_,e⟩
 |fk b=>obtain⟨o,c,e,_⟩:=q;exact⟨_,e⟩
theorem SR.out(b:SR K J S H){a:yR}(h:H a=Z8):a∉J:=λm=>by obtain⟨o,e⟩:=b.isS m;rw[h]at e;cases e
theorem ZM.refl(K:yQ)(J:yC)(H:Hp):ZM K J J H H:=⟨⟨[],by simp,by simp⟩,λ_ _ _ h=>h,TF.refl K H⟩
theorem ZM.mem(st:ZM K J J' H H'){a:yR}(h:a∈J):a∈J':=by obtain⟨b,rfl,_⟩:=st.pre;exact qE9 _ h
theorem ZM.ext(st:ZM K J J' H H'):∃ν,J'=J++ν:=let ⟨ν,e,_⟩:=st.pre;⟨ν,e⟩
theorem ZM.trans(a:ZM K J J1 H H1)(b:ZM K J1 J2 H1 H2)(n:J2.Nodup):ZM K J J2 H H2:=by
 obtain⟨k,e,m⟩:=a.pre;obtain⟨d,l,p⟩:=b.pre;have nd':(J++k++d).Nodup:=by rw[<- e,<- l];exact n
 refine⟨⟨k++d,by rw[l,e,qC0],λc g=>?_⟩,λc o g h=>?_,a.tk.trans b.tk⟩
 .rcases qB9.mp g with h|h
  .exact m c h
  .have j:=p c h;cases q:H c with
   |none=>rfl
   |some o =>
    have:=λf=>by have:=(qF3.mp nd').2.2 c (qE9 _ f) c h;exact this rfl
    rw[a.fr c o this q]at j;cases j
 .refine b.fr c o (λf=>?_) (a.fr c o g h);rw[e]at f;rcases qB9.mp f with i|i
  .exact g i
  .rw[m c i]at h;cases h
theorem OR.up(tk:TF K H H')(b:∃j,J'=J++j){a:yR}(e:H' a=H a):∀{o:O},OR K H J a o->OR K H' J' a o
 |.lst m,⟨f,h,r⟩=>⟨f,by rw[e];exact h,RVs.up tk b _ _ r⟩
 |.dk d,⟨ws,h,r⟩=>⟨ws,by rw[e];exact h,r.up tk b⟩
 |.dt d,⟨ws,h,r⟩=>⟨ws,by rw[e];exact h,r.up tk b⟩
 | .tb q,⟨k,h,t⟩=>⟨k,by rw[e];exact h,t.tab,t.ok,λg l z=>by
  obtain⟨c,o,f,i,rfl,x,y⟩:=t.code g l z;exact⟨c,o,f,i,rfl,tk.z _ _ _ x,y⟩⟩
 |.fk d,⟨o,ws,h,r⟩=>⟨o,ws,by rw[e];exact h,r.up tk b⟩
theorem RF{p:yR}{o:HO}(h:H p=Z8):TF K H (ZD H p o):=Gc (LH h o)
theorem SR.other(c:SR K J S H){p:yR}{o:HO}(h:H p=Z8):SR K J S (ZD H p o)/\ZM K J J H (ZD H p o):=by
 have g:=c.out h;refine⟨⟨c.len,c.nd,λn a j d i=>?_⟩,⟨⟨[],by simp,by simp⟩,λb u k e=>?_,RF h⟩⟩
 .have f:=qB6 d;have ne:a≠p:=λz=>g (z▸f);exact(c.obj n a j d i).up (RF h) ⟨[],by simp⟩ (Za ne)
 .rw[Za (U2 e h)];exact e
theorem SR.push(d:SR K J S H){p:yR}{o:HO}{o':O}(h:H p=Z8)(q:OR K (ZD H p o) (J++[p]) p o'):SR K (J++[p]) (S++[o']) (ZD H p o)/\ZM K J (J++[p]) H (ZD H p o):=by
 have i:=d.out h;refine⟨⟨by simp[d.len],?_,λn a u c f=>?_⟩,⟨⟨[p],rfl,λb g=>?_⟩,λb u g e=>?_,RF h⟩⟩
 .rw[qF3];refine⟨d.nd,by simp,λa m b g=>?_⟩;simp at g;subst g;exact λz=>i (z▸m)
 .by_cases k:n<J.length
  .rw[qA8 k]at c;rw[qA8 (by rw[<- d.len];exact k)]at f;have l:=qB6 c;have ne:a≠p:=λz=>i (z▸l);exact(d.obj n a u c f).up (RF h) ⟨[p],rfl⟩ (Za ne)
  .rw[qA0 (by omega)]at c;rw[qA0 (by rw[<- d.len];omega)]at f;have j:=by have:=(qA1.mp c).1;simp at this;omega
   rw[j]at c;rw[<- d.len,j]at f;simp at c f;subst c f;exact q
 .simp_all
 .rw[Za (U2 e h)];exact e
theorem SR.put(c:SR K J S H){n:Nat}{p:yR}{o u:HO}{o':O}(h:J[n]?=Z9 p)(q:H p=Z9 u)(t:∀xs,u≠.tup xs)(k:∀x y,u≠.frz x y)(s:OR K (ZD H p o) J p o'):SR K J (S.set n o') (ZD H p o)/\ZM K J J H (ZD H p o):=by
 have j:TF K H (ZD H p o):=RG q t k;have f:=qB6 h;refine⟨⟨by simp[c.len],c.nd,λm a w d g=>?_⟩,⟨⟨[],by simp,by simp⟩,λb w l e=>?_,j⟩⟩
 .by_cases i:m=n
  .subst i;rw[h]at d;cases d;have r:m<S.length:=by rw[<- c.len];exact(qA1.mp h).1
   rw[qC9 r]at g;cases g;exact s
  .rw[qD5 (λz=>i z.symm)]at g;have ne:a≠p:=λz=>by subst z;exact i ((qK9 (qA1.mp d).1 c.nd).mp (d.trans h.symm))
   exact(c.obj m a w d g).up j ⟨[],by simp⟩ (Za ne)
 .have ne:b≠p:=λz=>l (z▸f);rw[Za ne];exact e
end
inductive R(α:Type) where
 |bad|ok (a:α) (S:ZX)| er (c:Str) (S:ZX)
noncomputable abbrev M(α:Type):=ZX->R α
noncomputable def YT{α β:Type}(m:M α)(f:α->M β):M β:=λS=>match m S with
 |.bad=>.bad
 |.er c b=>.er c b
 |.ok a b=>f a b
noncomputable def ret{α:Type}(a:α):M α:=λS=>.ok a S
noncomputable def bad{α:Type}:M α:=λ_=>.bad
inductive uT{α β:Type}(m:M α)(f:α->M β)(S:ZX)(b:β)(S2:ZX):Prop
 |mk (a:α) (S1:ZX) (e:m S=.ok a S1) (g:f a S1=.ok b S2)
theorem Y8{α d:Type}{m:M α}{f:α->M d}{S S2:ZX}{b:d}(h:YT m f S=.ok b S2):uT m f S b S2:=by
 unfold YT at h;cases e:m S with
 |bad=>rw[e]at h;cases h
 |er c g=>rw[e]at h;cases h
 |ok a g=>rw[e]at h;exact⟨a,g,e,h⟩
theorem X4{α:Type}{a b:α}{S c:ZX}(h:ret a S=.ok b c):b=a/\c=S:=by unfold ret at h;cases h;exact⟨rfl,rfl⟩
abbrev C:=ZT->M D
abbrev CT:=ZT->M Bool
abbrev CA:=ZT->M (List D)
def RE(K:yQ)(H:Hp)(J:yC)(B:ZT)(Z:St):Prop:=B.length=Z.length/\∀(i:Nat) (d:D),B[i]?=Z9 (Z9 d)->∃v,Z[i]?=Z9 (Z9 v)/\RV K H J d v
section
variable {K:yQ}{H H':Hp}{J J':yC}{B:ZT}{Z:St}
theorem RE.up(h:RE K H J B Z)(st:ZM K J J' H H'):RE K H' J' B Z:=⟨h.1,λi d e=>let ⟨v,q,r⟩:=h.2 i d e;⟨v,q,RV.up st.tk st.ext d v r⟩⟩
theorem RE.set(h:RE K H J B Z){d:D}{v:V}(r:RV K H J d v)(i:Nat):RE K H J (B.set i (Z9 d)) (Z.set i (Z9 v)):=by
 refine⟨by simp[h.1],λj c e=>?_⟩;by_cases a:i=j
 .subst a;have b:=by have:=(qA1.mp e).1;simpa using this
  rw[qC9 b]at e;cases e;exact⟨v,by rw[qC9 (by rw[<- h.1];exact b)],r⟩
 .rw[qD5 a]at e ⊢;exact h.2 j c e
end
def Yc(K:yQ)(J:yC)(H:Hp)(d:D)(c:ZX)(Q:VK):Prop:=∀v a b,SR K b c a->ZM K J b H a->RV K a b d v->Q v a
def Lb(K:yQ)(J:yC)(H:Hp)(ds:List D)(d:ZX)(Q:List V->Hp->Prop):Prop:=∀c a b,SR K b d a->ZM K J b H a->RVs K a b ds c->Q c a
def Uz(K:yQ)(J:yC)(H:Hp)(b:Bool)(d:ZX)(Q:Bool->Hp->Prop):Prop:=∀a c,SR K c d a->ZM K J c H a->Q b a
inductive Zz(K:yQ)(c:C)(Z:St)(H:Hp)(Q:VK):Prop
 |mk (J:yC) (B:ZT) (S:ZX) (d:D) (S':ZX) (sr:SR K J S H) (re:RE K H J B Z) (e:c B S=.ok d S') (y:Yc K J H d S' Q)
inductive YH(K:yQ)(c:CA)(Z:St)(H:Hp)(Q:List V->Hp->Prop):Prop
 |mk (J:yC) (B:ZT) (S:ZX) (d:List D) (S':ZX) (sr:SR K J S H) (re:RE K H J B Z) (e:c B S=.ok d S') (y:Lb K J H d S' Q)
inductive YS(K:yQ)(c:CT)(Z:St)(H:Hp)(Q:Bool->Hp->Prop):Prop
 |mk (J:yC) (B:ZT) (S:ZX) (d:Bool) (S':ZX) (sr:SR K J S H) (re:RE K H J B Z) (e:c B S=.ok d S') (y:Uz K J H d S' Q)
theorem Yc.self{K:yQ}{J:yC}{H:Hp}{d:D}{S:ZX}{Q:VK}(h:Yc K J H d S Q)(a:SR K J S H){v:V}(r:RV K H J d v):Q v H:=h v H J a (ZM.refl K J H) r
theorem Yc.shift{K:yQ}{J b:yC}{H a:Hp}{d:D}{S:ZX}{Q:VK}(h:Yc K J H d S Q)(st:ZM K J b H a):Yc K b a d S Q:=λv g f c e r=>h v g f c (st.trans e c.nd) r
theorem Uz.shift{K:yQ}{J b:yC}{H a:Hp}{d:Bool}{S:ZX}{Q:Bool->Hp->Prop}(h:Uz K J H d S Q)(st:ZM K J b H a):Uz K b a d S Q:=λg f c e=>h g f c (st.trans e c.nd)
theorem PE.weak{X:Cx}{e:yZ}{t t':TE}(h:PE X e t)(w:∀Z H Q,t' Z H Q->t Z H Q):PE X e t':=λa s Z H Q I q=>h a s Z H Q I (w Z H Q q)
theorem PT.weak{X:Cx}{e:yZ}{t t':TT}(h:PT X e t)(w:∀Z H Q,t' Z H Q->t Z H Q):PT X e t':=λa s Z H Q I q=>h a s Z H Q I (w Z H Q q)
theorem PW.weak{X:Cx}{e:yZ}{t t':TT}(h:PW X e t)(w:∀Z H Q,t' Z H Q->t Z H Q):PW X e t':=λb a s Z H Q I q=>h b a s Z H Q I (w Z H Q q)
theorem PA.weak{X:Cx}{e:yE}{t t':TA}(h:PA X e t)(w:∀Z H Q,t' Z H Q->t Z H Q):PA X e t':=λb a s Z H Q I q=>h b a s Z H Q I (w Z H Q q)
theorem PS.weak{X:Cx}{e:vK}{t t':TS}(h:PS X e t)(w:∀D Z H,t' D Z H->t D Z H):PS X e t':=λa s Z H D I q=>h a s Z H D I (w D Z H q)
theorem XE.weak{X:Cx}{e:List vK}{t t':TS}(h:XE X e t)(w:∀D Z H,t' D Z H->t D Z H):XE X e t':=λa s Z H D I q=>h a s Z H D I (w D Z H q)
def Zm(X:Cx)(f:yU->yU->Sem yU):R2:=λv u H Q=>∃r,Y0 X f r/\r v u H Q
theorem SV{X:Cx}{f:yU->yU->Sem yU}:Y0 X f (Zm X f):=λa s Z H x y v u Q I b c ⟨r,d,q⟩=>d a s Z H x y v u Q I b c q
def SU(X:Cx)(f:yU->Sem yU):V->Hp->VK->Prop:=λv H Q=>∃r,QT X f r/\r v H Q
theorem uS{X:Cx}{f:yU->Sem yU}:QT X f (SU X f):=λa s Z H x v Q I b ⟨r,c,q⟩=>c a s Z H x v Q I b q
def Yz(X:Cx)(f:yU):List V->Hp->VK->Prop:=λa H Q=>∃r,Ys X f r/\r a H Q
theorem Qn{X:Cx}{f:yU}:Ys X f (Yz X f):=λa s Z H x v Q I b ⟨r,c,q⟩=>c a s Z H x v Q I b q
def La(X:Cx):R2:=λv u H Q=>∃r,RT X r/\r v u H Q
theorem Gb{X:Cx}:RT X (La X):=λe b a s Z H x y v u Q I c g ⟨r,f,q⟩ d=>f e b a s Z H x y v u Q I c g q d
def K9(X:Cx):V->yG->yG->Hp->VK->Prop:=λv b a H Q=>∃r,RU X r/\r v b a H Q
theorem Ga{X:Cx}:RU X (K9 X):=λd s Z H x v g i h k e Q I f a b c ⟨r,j,q⟩=>j d s Z H x v g i h k e Q I f a b c q
def Uy(X:Cx)(id:String):V->List V->Hp->VK->Prop:=λv a H Q=>∃r,RQ X id r/\r v a H Q
theorem F9{X:Cx}{id:String}:RQ X id (Uy X id):=λa s Z H x d v c Q I b rs ⟨r,e,q⟩=>e a s Z H x d v c Q I b rs q
noncomputable def F8(X:Cx):UM:=λo i v H Q=>∃r,Vk X r/\r o i v H Q
theorem uR{X:Cx}:Vk X (F8 X):=λa s Z H o i v c g u Q I d b e ⟨r,f,q⟩=>f a s Z H o i v c g u Q I d b e q
noncomputable def ZY(i:Nat):C:=fun B S=>match B[i]? with
 |some (Z9 d)=>.ok d S
 |_=>.bad
noncomputable def ZW(d:D):C:=λ_ S=>.ok d S
noncomputable def ZU(o:D->D->M D)(a b:C):C:=fun B=>YT (a B) λx=>YT (b B) λy=>o x y
noncomputable def Xj(o:D->M D)(a:C):C:=fun B=>YT (a B) o
noncomputable def ZP:List C->CA
 |[]=>λ_=>ret []
 |c::a=>fun B=>YT (c B) λx=>YT (ZP a B) λb=>ret (x::b)
noncomputable def ZS(o:List D->M D)(a:CA):C:=fun B=>YT (a B) o
noncomputable def Y2(a:CA):C:=ZS (λb=>ret (.tup b)) a
noncomputable def YN(a:CA):C:=ZS (λb S=>.ok (.lst S.length) (S++[.lst b])) a
noncomputable def RD(t:CT)(a b:C):C:=fun B=>YT (t B) λk=>if k then a B else b B
noncomputable def Y5(a:C):CT:=fun B=>YT (a B) λx=>match x with
 |.bl b=>ret b
 |_=>bad
noncomputable def RC(a b:C):C:=fun B=>YT (Y5 a B) λk=>if k then b B else ret (.bl Z5)
noncomputable def Ux(a b:C):C:=fun B=>YT (Y5 a B) λk=>if k then ret (.bl Z7)else b B
noncomputable def N5(a:C):C:=fun B=>YT (Y5 a B) λk=>ret (.bl (!k))
noncomputable def RB(a b:CT):CT:=fun B=>YT (a B) λk=>if k then b B else ret Z5
noncomputable def Xt(a b:CT):CT:=fun B=>YT (a B) λk=>if k then ret Z7 else b B
noncomputable def VX(a:CT):CT:=fun B=>YT (a B) λk=>ret (!k)
noncomputable def dB(x:D):M Bool:=match x with
 |.bl b=>ret b
 |_=>bad
noncomputable def RA(o o':D->D->M D)(a b c:C):C:=fun B=>YT (a B) λx=>YT (b B) λy=>YT (o x y) λz=>YT (dB z) λk=>if k then YT (c B) λw=>o' y w else ret (.bl Z5)
section
variable {X:Cx}{a b c d:yZ}{ca cb cc cd:C}{pos:Pos}
theorem uQ{i:Nat}{x:Str}(h:PE X (.Name x pos) (Tq i)):PE X (.Name x pos) (Zz X.K (ZY i)):=h.weak fun Z H Q ⟨J,B,S,d,l,g,f,e,y⟩=>by
 unfold ZY at e;split at e
 .rename_i k j;cases e;obtain⟨v,q,r⟩:=f.2 i _ j;exact⟨v,q,y.self g r⟩
 .cases e
theorem Qm{e:yZ}{v:V}{d:D}(h:PE X e (tC v))(f:∀K H J,RV K H J d v):PE X e (Zz X.K (ZW d)):=h.weak fun Z H Q ⟨J,B,S,j,k,g,i,e,y⟩=>by unfold ZW at e;cases e;exact y.self g (f _ _ _)
def YD(K:yQ)(r:R2)(o:D->D->M D):Prop:=∀x y S d e H J v u Q,o x y S=.ok d e->SR K J S H->RV K H J x v->RV K H J y u->Yc K J H d e Q->r v u H Q
theorem N4{r:R2}{o:D->D->M D}(A:YD X.K r o):∀Z H Q,Zz X.K (ZU o ca cb) Z H Q->QS r (Zz X.K ca) (Zz X.K cb) Z H Q:=by rintro Z H Q ⟨J,B,S,d,F,q,j,e,y⟩;obtain⟨x,l,w,e⟩:=Y8 e;obtain⟨z,k,p,e⟩:=Y8 e;refine⟨J,B,S,x,l,q,j,w,λv G E i h t=>⟨E,B,l,z,k,i,j.up h,p,λu m s g f n=>?_⟩⟩;exact A x z k d F m s v u Q e g (RV.up f.tk f.ext _ _ t) n (y.shift (h.trans f g.nd))
theorem uP{op:mW}{o:D->D->M D}(g:YD X.K (Zm X (jK op)) o)(f:PE X a (Zz X.K ca))(e:PE X b (Zz X.K cb)):PE X (.BinOp a op b pos) (Zz X.K (ZU o ca cb)):=(Bz SV f e).weak (N4 g)
theorem uO{op:fY}{o:D->D->M D}(g:YD X.K (Zm X (y8 op)) o)(f:PE X a (Zz X.K ca))(e:PE X b (Zz X.K cb))(hm:fH op b=Z5):PE X (.Compare a [op] [b] pos) (Zz X.K (ZU o ca cb)):=(Ba SV f e hm).weak (N4 g)
theorem F7{t:TE}{c:C}(h:∀Z H Q,Zz X.K c Z H Q->t Z H Q):∀Z H Q,YS X.K (Y5 c) Z H Q->Mb t Z H Q:=by
 rintro Z H Q ⟨J,B,S,d,q,l,i,e,y⟩;obtain⟨x,p,n,e⟩:=Y8 e;refine h Z H _ ⟨J,B,S,x,p,l,i,n,λv j o g f m=>?_⟩;cases x with
 |bl k =>
  obtain⟨rfl,rfl⟩:=X4 e;exact⟨_,m,y j o g f⟩
 |_=>cases e
theorem uN{op:fY}{o:D->D->M D}(g:YD X.K (Zm X (y8 op)) o)(f:PE X a (Zz X.K ca))(e:PE X b (Zz X.K cb))(hm:fH op b=Z5):PT X (.Compare a [op] [b] pos) (YS X.K (Y5 (ZU o ca cb))):=(A9 SV f e hm).weak (F7 (N4 g))
theorem F6{r G:R2}{o o':D->D->M D}(ho:YD X.K r o)(s:YD X.K G o'):∀Z H Q,Zz X.K (RA o o' ca cb cc) Z H Q->Ma r G (Zz X.K ca) (Zz X.K cb) (Zz X.K cc) Z H Q:=by
 rintro Z H Q ⟨J,B,S,d,S',W,q,e,y⟩;obtain⟨x,O,e1,Y⟩:=Y8 e;obtain⟨z,I,U,f2⟩:=Y8 Y;obtain⟨t,V,e3,R⟩:=Y8 f2;obtain⟨k,S4,N,K⟩:=Y8 R;refine⟨J,B,S,x,O,W,q,e1,λv H1 J1 A p r1=>⟨J1,B,O,z,I,A,q.up p,U,λu T J2 m h F=>?_⟩⟩;have n:=p.trans h m.nd;refine ho x z I t V T J2 v u _ e3 m (RV.up h.tk h.ext _ _ r1) F λv3 H3 L g j r3=>?_;have f:=n.trans j g.nd;cases t with
 |bl k' =>
  obtain⟨rfl,rfl⟩:=X4 N;refine⟨_,r3,?_⟩;cases k with
  |true =>
   obtain⟨w,E,e5,f5⟩:=Y8 K;refine⟨L,B,_,w,E,g,q.up f,e5,λP H5 J5 l i r5=>?_⟩;exact s z w E d S' H5 J5 u P Q f5 l (RV.up i.tk i.ext _ _ (RV.up j.tk j.ext _ _ F)) r5 (y.shift (f.trans i l.nd))
  |false =>
   obtain⟨rfl,rfl⟩:=X4 K;exact y _ H3 L g f (by rfl)
 |_=>cases N
theorem uM{op e:fY}{o o':D->D->M D}(j:YD X.K (Zm X (y8 op)) o)(f:YD X.K (Zm X (y8 e)) o')(h:PE X a (Zz X.K ca))(g:PE X b (Zz X.K cb))(i:PE X c (Zz X.K cc))(hm:mF [op,e] [b,c]=Z5):
  PE X (.Compare a [op,e] [b,c] pos) (Zz X.K (RA o o' ca cb cc)):=(A8 SV SV h g i hm).weak (F6 j f)
theorem uL{op e:fY}{o o':D->D->M D}(j:YD X.K (Zm X (y8 op)) o)(f:YD X.K (Zm X (y8 e)) o')(h:PE X a (Zz X.K ca))(g:PE X b (Zz X.K cb))(i:PE X c (Zz X.K cc))(hm:mF [op,e] [b,c]=Z5):
  PT X (.Compare a [op,e] [b,c] pos) (YS X.K (Y5 (RA o o' ca cb cc))):=(A7 SV SV h g i hm).weak (F7 (F6 j f))
def F5(K:yQ)(r:V->Hp->VK->Prop)(o:D->M D):Prop:=∀x S d e H J v Q,o x S=.ok d e->SR K J S H->RV K H J x v->Yc K J H d e Q->r v H Q
theorem uK{op:UnaryOp}{o:D->M D}(p:F5 X.K (SU X (unaryOp op)) o)(n:PE X a (Zz X.K ca)):PE X (.UnaryOp op a pos) (Zz X.K (Xj o ca)):=(By uS n).weak (by
 rintro Z H Q ⟨J,B,S,d,r,j,i,e,y⟩;obtain⟨x,h,m,e⟩:=Y8 e;exact⟨J,B,S,x,h,j,i,m,λv k q g f l=>p x h d r k q v Q e g l (y.shift f)⟩)
theorem K8{Z:St}{H:Hp}{J:yC}{B:ZT}{S l:ZX}{k:Bool}(n:SR X.K J S H)(m:RE X.K H J B Z)(e:Y5 ca B S=.ok k l){Q:VK}(h:∀f g,SR X.K g l f->ZM X.K J g H f->Q (.bl k) f):Zz X.K ca Z H Q:=by
 obtain⟨x,q,p,e⟩:=Y8 e;refine⟨J,B,S,x,q,n,m,p,λv f g j i o=>?_⟩;cases x with
 |bl r =>
  obtain⟨rfl,rfl⟩:=X4 e;subst o;exact h f g j i
 |_=>cases e
theorem uJ{ZG:yE}(o:PE X a (Zz X.K ca))(m:PE X (.BoolOp .And (b::ZG) pos) (Zz X.K cb)):PE X (.BoolOp .And (a::b::ZG) pos) (Zz X.K (RC ca cb)):=(B8 o m).weak (by
 rintro Z H Q ⟨J,B,S,d,q,l,h,e,y⟩;obtain⟨k,p,n,e⟩:=Y8 e;refine K8 l h n λj i g f=>⟨k,rfl,?_⟩
 cases k with
 |true=>rw[if_pos rfl]at e ⊢;exact⟨i,B,p,d,q,g,h.up f,e,y.shift f⟩
 | false=>rw[if_neg qB4]at e ⊢;obtain⟨rfl,rfl⟩:=X4 e;exact y _ j i g f (by rfl))
theorem uI{ZG:yE}(o:PE X a (Zz X.K ca))(m:PE X (.BoolOp .Or (b::ZG) pos) (Zz X.K cb)):PE X (.BoolOp .Or (a::b::ZG) pos) (Zz X.K (Ux ca cb)):=(B7 o m).weak (by
 rintro Z H Q ⟨J,B,S,d,q,l,h,e,y⟩;obtain⟨k,p,n,e⟩:=Y8 e;refine K8 l h n λj i g f=>⟨k,rfl,?_⟩
 cases k with
 |false=>rw[if_neg qB4]at e ⊢;exact⟨i,B,p,d,q,g,h.up f,e,y.shift f⟩
 | true=>rw[if_pos rfl]at e ⊢;obtain⟨rfl,rfl⟩:=X4 e;exact y _ j i g f (by rfl))
theorem uH(j:PE X a (Zz X.K ca)):PE X (.UnaryOp .Not a pos) (Zz X.K (N5 ca)):=(B6 j).weak (by
 rintro Z H Q ⟨J,B,S,d,p,n,h,e,y⟩;obtain⟨k,o,i,e⟩:=Y8 e;obtain⟨rfl,rfl⟩:=X4 e;exact K8 n h i λm l g f=>⟨k,rfl,y _ m l g f (by rfl)⟩)
theorem uG{t:yZ}{j:CT}(ht:PT X t (YS X.K j))(q:PE X a (Zz X.K ca))(o:PE X b (Zz X.K cb)):PE X (.IfExp t a b pos) (Zz X.K (RD j ca cb)):=(HV ht q o).weak (by
 rintro Z H Q ⟨J,B,S,d,m,n,h,e,y⟩;obtain⟨k,i,p,e⟩:=Y8 e;refine⟨J,B,S,k,i,n,h,p,λr l g f=>?_⟩;cases k with
 |true=>rw[if_pos rfl]at e ⊢;exact⟨l,B,i,d,m,g,h.up f,e,y.shift f⟩
 | false=>rw[if_neg qB4]at e ⊢;exact⟨l,B,i,d,m,g,h.up f,e,y.shift f⟩)
variable {ta tb:CT}
theorem uF{ZG:yE}(p:PT X a (YS X.K ta))(n:PW X (.BoolOp .And (b::ZG) pos) (YS X.K tb)):PW X (.BoolOp .And (a::b::ZG) pos) (YS X.K (RB ta tb)):=(Cg p n).weak (by
 rintro Z H Q ⟨J,B,S,d,q,m,h,e,y⟩;obtain⟨k,j,o,e⟩:=Y8 e;refine⟨J,B,S,k,j,m,h,o,λl i g f=>?_⟩;cases k with
 |true=>rw[if_pos rfl]at e ⊢;exact⟨i,B,j,d,q,g,h.up f,e,y.shift f⟩
 | false=>rw[if_neg qB4]at e ⊢;obtain⟨rfl,rfl⟩:=X4 e;exact y l i g f)
theorem uE{ZG:yE}(p:PT X a (YS X.K ta))(n:PW X (.BoolOp .Or (b::ZG) pos) (YS X.K tb)):PW X (.BoolOp .Or (a::b::ZG) pos) (YS X.K (Xt ta tb)):=(Cf p n).weak (by
 rintro Z H Q ⟨J,B,S,d,q,m,h,e,y⟩;obtain⟨k,j,o,e⟩:=Y8 e;refine⟨J,B,S,k,j,m,h,o,λl i g f=>?_⟩;cases k with
 |false=>rw[if_neg qB4]at e ⊢;exact⟨i,B,j,d,q,g,h.up f,e,y.shift f⟩
 | true=>rw[if_pos rfl]at e ⊢;obtain⟨rfl,rfl⟩:=X4 e;exact y l i g f)
theorem uD(j:PT X a (YS X.K ta)):PT X (.UnaryOp .Not a pos) (YS X.K (VX ta)):=(Ce j).weak (by
 rintro Z H Q ⟨J,B,S,d,p,n,h,e,y⟩;obtain⟨k,o,i,e⟩:=Y8 e;obtain⟨rfl,rfl⟩:=X4 e;exact⟨J,B,S,k,_,n,h,i,λm l g f=>y m l g f⟩)
noncomputable def We(x:D):M Bool:=λS=>match x with
 |.non=>.ok Z5 S
 |.bl b=>.ok b S
 |.int i=>.ok (i != 0) S
 |.str y=>if y.length<=jA then .ok ((y.length:Int) != 0) S else .bad
 |.tup e=>.ok (!e.isEmpty) S
 |.lst n=>match S[n]? with
  |some (.lst e)=>.ok (!e.isEmpty) S
  |_=>.bad
 |.dct n=>match S[n]? with
  |some (.dk f)=>.ok (!f.isEmpty) S
  |_=>.bad
 |.ty _=>.bad
 |.rol e=>.ok (!e.isEmpty) S
 |.xc _=>.bad
noncomputable def YZ(a:C):CT:=fun B=>YT (a B) We
theorem N3{K:yQ}{H:Hp}{J:yC}{ds:List D}{e:List V}(h:RVs K H J ds e):ds.isEmpty=e.isEmpty:=by
 cases ds with
 |nil=>unfold RVs at h;subst h;rfl
 |cons d ds=>unfold RVs at h;obtain⟨v,f,rfl,_⟩:=h;rfl
theorem SR.get{K:yQ}{H:Hp}{J:yC}{S:ZX}(e:SR K J S H){n:Nat}{a:yR}{o:O}(h:J[n]?=Z9 a)(f:S[n]?=Z9 o):OR K H J a o:=e.obj n a o h f
theorem uC{K:yQ}{H:Hp}{J:yC}{S s:ZX}{x:D}{v:V}{k:Bool}(e:We x S=.ok k s)(o:SR K J S H)(r:RV K H J x v):s=S/\Tj K v H k:=by
 unfold We at e;cases x with
 |non=>cases e;subst r;exact⟨rfl,rfl⟩
 |bl b=>cases e;subst r;exact⟨rfl,rfl⟩
 |int i=>cases e;subst r;exact⟨rfl,rfl⟩
 |str y =>
  subst r;dsimp only at e;split at e
  .rename_i w;cases e;exact⟨rfl,w,rfl⟩
  .cases e
 |tup m =>
  cases e;obtain⟨p,g,rfl,q,f⟩:=r;exact⟨rfl,.inr (.inl ⟨g,Zg.of q,by rw[N3 f]⟩)⟩
 |lst n =>
  obtain⟨a,rfl,h⟩:=r;dsimp only at e;split at e
  .rename_i m l;cases e;obtain⟨g,j,f⟩:=o.get h l;exact⟨rfl,.inl ⟨g,YA.of j,by rw[N3 f]⟩⟩
  .cases e
 |dct n =>
  obtain⟨a,rfl,h⟩:=r;dsimp only at e;split at e
  .rename_i u l;cases e;obtain⟨t,j,f⟩:=o.get h l;refine⟨rfl,.inr (.inr ⟨t,j,?_⟩)⟩;have:=N3 f.2;rw[qR5,qR5]at this;rw[this]
  .cases e
 |ty _=>cases e
 |rol m =>
  cases e;obtain⟨p,g,rfl,q,f⟩:=r;exact⟨rfl,.inl ⟨g,q.sq,by rw[N3 f]⟩⟩
 |xc _=>cases e
theorem uB(o:PE X a (Zz X.K ca))(he:∀f,dJ a X.env f=(do let v <- f;mV a.pos;wW [v] (truthy v))):PT X a (YS X.K (YZ ca)):=(A4 o he).weak (by
 rintro Z H Q ⟨J,B,S,d,r,k,i,e,y⟩;obtain⟨x,q,n,e⟩:=Y8 e;refine⟨J,B,S,x,q,k,i,n,λv j p g h l=>?_⟩;obtain⟨rfl,m⟩:=uC e g l;exact⟨d,m,y j p g h⟩)
variable {es:yE}{cs:List C}
theorem K7:PA X [] (YH X.K (ZP [])):=OF.weak (by
 rintro Z H Q ⟨J,B,S,d,h,f,g,e,y⟩;obtain⟨rfl,rfl⟩:=X4 e;exact y [] H J f (ZM.refl _ _ _) RVs.nil)
theorem N2(z:PE X a (Zz X.K ca))(q:PA X es (YH X.K (ZP cs)))(t:jG (a::es) X.env=(Z5,vO a X.env)::jG es X.env):PA X (a::es) (YH X.K (ZP (ca::cs))):=(QO z q t).weak (by
 rintro Z H Q ⟨J,B,S,d,D,p,j,e,y⟩;obtain⟨x,k,w,e⟩:=Y8 e;obtain⟨o,F,n,e⟩:=Y8 e;obtain⟨rfl,rfl⟩:=X4 e;exact⟨J,B,S,x,k,p,j,w,λv E A i h s=>⟨A,B,k,o,D,i,j.up h,n,λu l r g f m=>y (v::u) l r g (h.trans f g.nd) (.cons (RV.up f.tk f.ext _ _ s) m)⟩⟩)
theorem K6{B:ZT}:∀{f:List C}{S S':ZX}{xs:List D},ZP f B S=.ok xs S'->xs.length=f.length
 |[],S,S',xs,e=>by obtain⟨rfl,rfl⟩:=X4 e;rfl
 |c::f,S,S',xs,e=>by obtain⟨x,j,h,e⟩:=Y8 e;obtain⟨k,i,g,e⟩:=Y8 e;obtain⟨rfl,rfl⟩:=X4 e;rw[qC3,qC3,K6 g]
theorem N1{K:yQ}{H:Hp}{J:yC}{S:ZX}{ds:List D}{e:List V}{p:yR}(g:SR K J S H)(h:H p=Z8)(r:RVs K H J ds e):SR K J S (ZD H p (.tup e))/\ZM K J J H (ZD H p (.tup e))/\RV K (ZD H p (.tup e)) J (.tup ds) (.ref p):=by obtain⟨i,f⟩:=g.other h;exact⟨i,f,by exact⟨p,e,rfl,XA,RVs.up f.tk f.ext _ _ r⟩⟩
theorem uA{K:yQ}{H:Hp}{J:yC}{S:ZX}{ds:List D}{e:List V}{p:yR}(f:SR K J S H)(h:H p=Z8)(r:RVs K H J ds e):SR K (J++[p]) (S++[.lst ds]) (ZD H p (.lst e))/\ZM K J (J++[p]) H (ZD H p (.lst e))/\RV K (ZD H p (.lst e)) (J++[p]) (.lst S.length) (.ref p):=by obtain⟨i,g⟩:=f.push (o':=.lst ds) h ⟨e,XA,RVs.up (RF h) ⟨[p],rfl⟩ _ _ r⟩;exact⟨i,g,by exact⟨p,rfl,by rw[<- f.len,qA0 (qA7 _),qJ4];rfl⟩⟩
theorem Yc.newL{K:yQ}{H:Hp}{J:yC}{S:ZX}{ds:List D}{e:List V}{p:yR}{Q:VK}(y:Yc K J H (.lst S.length) (S++[.lst ds]) Q)(i:SR K J S H)(h:H p=Z8)(r:RVs K H J ds e):Q (.ref p) (ZD H p (.lst e)):=by obtain⟨j,f,g⟩:=uA i h r;exact y _ _ _ j f g
theorem Yc.newT{K:yQ}{H:Hp}{J:yC}{S:ZX}{ds:List D}{e:List V}{p:yR}{Q:VK}(y:Yc K J H (.tup ds) S Q)(i:SR K J S H)(h:H p=Z8)(r:RVs K H J ds e):Q (.ref p) (ZD H p (.tup e)):=by obtain⟨j,f,g⟩:=N1 i h r;exact y _ _ _ j f g
theorem uz{x1}(h:PA X es (YH X.K (ZP cs)))(u:cs.length<=1000):PE X (.Tuple es x1 pos) (Zz X.K (Y2 (ZP cs))):=(AZ h).weak (by
 rintro Z H Q ⟨J,B,S,d,o,m,k,e,y⟩;obtain⟨l,w,j,e⟩:=Y8 e;obtain⟨rfl,rfl⟩:=X4 e;refine⟨J,B,S,l,o,m,k,j,λt q v g f i=>⟨?_,λp n=>(y.shift f).newT g n i⟩⟩;have r:=K6 j;have s:=i.len;exact qH0 (Hi (by omega)))
theorem uy(h:PA X es (YH X.K (ZP cs)))(u:cs.length<=1000):PE X (.List es pos) (Zz X.K (YN (ZP cs))):=(AY h).weak (by
 rintro Z H Q ⟨J,B,S,d,w,m,k,e,y⟩;obtain⟨l,o,j,e⟩:=Y8 e;cases e;refine⟨J,B,S,l,o,m,k,j,λt q v g f i=>⟨?_,λp n=>(y.shift f).newL g n i⟩⟩;have r:=K6 j;have s:=i.len;exact qH0 (Hi (by omega)))
theorem ux{o:D->D->M D}(h:YD X.K (La X) o)(f:PE X a (Zz X.K ca))(e:PE X b (Zz X.K cb))(g:OB b):PE X (.Subscript a b pos) (Zz X.K (ZU o ca cb)):=(Hq Gb f e g).weak (N4 h)
noncomputable def CO:=ZT->M (yG)
noncomputable def SQ:CO:=λ_=>ret Z8
noncomputable def SO(x:D):M Int:=match x with
 |.int i=>ret i
 |_=>bad
noncomputable def SN(a:C):CO:=fun B=>YT (a B) λx=>YT (SO x) λi=>ret (Z9 i)
def K5(K:yQ)(J:yC)(H:Hp)(b:yG)(g:ZX)(Q:yG->Hp->Prop):Prop:=∀e f,SR K f g e->ZM K J f H e->Q b e
inductive Wd(K:yQ)(c:CO)(Z:St)(H:Hp)(Q:yG->Hp->Prop):Prop
 |mk (J:yC) (B:ZT) (S:ZX) (d:yG) (S':ZX) (sr:SR K J S H) (re:RE K H J B Z) (e:c B S=.ok d S') (y:K5 K J H d S' Q)
theorem PO.weak{e:Option yZ}{t t':TO}(h:PO X e t)(w:∀Z H Q,t' Z H Q->t Z H Q):PO X e t':=λf s Z H Q I q=>h f s Z H Q I (w Z H Q q)
theorem uw:PO X Z8 (Wd X.K SQ):=AJ.weak (by
 rintro Z H Q ⟨J,B,S,d,h,f,g,e,y⟩;obtain⟨rfl,rfl⟩:=X4 e;exact y H J f (ZM.refl _ _ _))
theorem uv(p:PE X a (Zz X.K ca)):PO X (Z9 a) (Wd X.K (SN ca)):=(AI p).weak (by
 rintro Z H Q ⟨J,B,S,d,t,m,k,e,y⟩;obtain⟨x,r,o,e⟩:=Y8 e;obtain⟨i,s,h,e⟩:=Y8 e;obtain⟨rfl,rfl⟩:=X4 e;refine⟨J,B,S,x,r,m,k,o,λv l q g f n=>?_⟩;cases x with
 |int j =>
  obtain⟨rfl,rfl⟩:=X4 h;exact⟨_,n,y l q g f⟩
 | _=>cases h)
noncomputable def Ql(o:D->yG->yG->M D)(a:C)(lo hi:CO):C:=fun B=>YT (a B) λx=>YT (lo B) λl=>YT (hi B) λh=>o x l h
def F4(K:yQ)(r:V->yG->yG->Hp->VK->Prop)(o:D->yG->yG->M D):Prop:=∀x l h S d e H J v Q,o x l h S=.ok d e->SR K J S H->RV K H J x v->Yc K J H d e Q->r v l h H Q
theorem uu{lo hi:Option yZ}{cl ch:CO}{p2:Pos}{o:D->yG->yG->M D}(K:F4 X.K (K9 X) o)(F:PE X a (Zz X.K ca))(I:PO X lo (Wd X.K cl))(O:PO X hi (Wd X.K ch)):PE X (.Subscript a (.Slice lo hi Z8 p2) pos) (Zz X.K (Ql o ca cl ch)):=(Hu Ga F I O).weak (by
 rintro Z H Q ⟨J,B,S,d,P,u,n,e,y⟩;obtain⟨x,s,A,e⟩:=Y8 e;obtain⟨l,r,t,e⟩:=Y8 e;obtain⟨h,q,E,e⟩:=Y8 e;refine⟨J,B,S,x,s,u,n,A,λv T L p m z=>⟨L,B,s,l,r,p,n.up m,t,λR w k g=>?_⟩⟩;have f:=m.trans g k.nd;refine⟨w,B,r,h,q,k,n.up f,E,λN G j i=>?_⟩;exact K x l h q d P N G v Q e j (RV.up i.tk i.ext _ _ (RV.up g.tk g.ext _ _ z)) (y.shift (f.trans i j.nd)))
def Wu(K:yQ)(r:List V->Hp->VK->Prop)(o:List D->M D):Prop:=∀f S d g H J e Q,o f S=.ok d g->SR K J S H->RVs K H J f e->Yc K J H d g Q->r e H Q
variable {ca':CA}
theorem F3{r:List V->Hp->VK->Prop}{o:List D->M D}(q:Wu X.K r o):∀Z H Q,Zz X.K (ZS o ca') Z H Q->OD r (YH X.K ca') Z H Q:=by rintro Z H Q ⟨J,B,S,d,t,k,j,e,y⟩;obtain⟨h,i,p,e⟩:=Y8 e;exact⟨J,B,S,h,i,k,j,p,λn l s g f m=>q h i d t l s n Q e g m (y.shift f)⟩
end
noncomputable def lim:Nat:=1048576
theorem Rz{n:Nat}(h:n<=lim):n<=sizeLine:=qC6 h (by decide)
theorem K4{n:Nat}(h:n<lim):n<sizeLine:=qB3 h (by decide)
section
variable {K:yQ}{H H' H1:Hp}{J:yC}{S:ZX}
theorem SR.same(c:SR K J S H)(d:XS H H1):SR K J S H1/\ZM K J J H H1:=by have f:TF K H H1:=Gc d;refine⟨⟨c.len,c.nd,λn a o e i=>?_⟩,⟨⟨[],by simp,by simp⟩,λb o _ h=>d b o h,f⟩⟩;obtain⟨u,g⟩:=c.isS (qB6 e);exact(c.obj n a o e i).up f ⟨[],by simp⟩ (by rw[g];exact d _ _ g)
theorem Yc.oldT{ds:List D}{a:List V}{p:yR}{Q:VK}(y:Yc K J H (.tup ds) S Q)(d:SR K J S H)(c:XS H H1)(h:H1 p=Z9 (.tup a))(r:RVs K H J ds a):Q (.ref p) H1:=by obtain⟨e,b⟩:=d.same c;exact y _ _ _ e b (by exact⟨p,a,rfl,h,RVs.up b.tk b.ext _ _ r⟩)
theorem XH{i:Int}:RV K H J (.int i) (.int i):=by rfl
theorem WX{i:Bool}:RV K H J (.bl i) (.bl i):=by rfl
theorem Uw:RV K H J .non .non:=by rfl
theorem K3{i:Str}:RV K H J (.str i) (.str i):=by rfl
theorem SR.lst(b:SR K J S H){n:Nat}{a:yR}{xs:List D}(h:J[n]?=Z9 a)(c:S[n]?=Z9 (.lst xs)):∃vs,H a=Z9 (.lst vs)/\RVs K H J xs vs:=b.obj n a _ h c
noncomputable def ZL(S:ZX)(n:Nat):Option (List D):=match S[n]? with
 |some (.lst a)=>Z9 a
 |_=>Z8
theorem SR.sq(c:SR K J S H){n:Nat}{a:yR}{xs:List D}(h:J[n]?=Z9 a)(b:ZL S n=Z9 xs):∃vs,YA K H a vs/\RVs K H J xs vs:=by
 unfold ZL at b;split at b
 .rename_i d e;cases b;obtain⟨vs,q,r⟩:=c.get h e;exact⟨vs,YA.of q,r⟩
 .cases b
noncomputable def SM(S:ZX):D->Option (List D)
 |.tup a=>Z9 a
 |.lst n=>ZL S n
 |.rol a=>Z9 a
 |_=>Z8
theorem SR.seq(e:SR K J S H){x:D}{v:V}{xs:List D}(r:RV K H J x v)(b:SM S x=Z9 xs):∃a vs,v=.ref a/\(YA K H a vs∨Zg K H a vs)/\RVs K H J xs vs:=by
 unfold SM at b;split at b
 .cases b;obtain⟨p,vs,rfl,q,c⟩:=r;exact⟨p,vs,rfl,.inr (Zg.of q),c⟩
 .obtain⟨a,rfl,d⟩:=r;obtain⟨vs,q,c⟩:=e.sq d b;exact⟨a,vs,rfl,.inl q,c⟩
 .cases b;obtain⟨p,vs,rfl,q,c⟩:=r;exact⟨p,vs,rfl,.inl q.sq,c⟩
 .cases b
theorem RVs.cons_inv{d:D}{ds:List D}{a:List V}(h:RVs K H J (d::ds) a):∃v ws,a=v::ws/\RV K H J d v/\RVs K H J ds ws:=by exact h
theorem RVs.nil_inv{a:List V}(h:RVs K H J [] a):a=[]:=by exact h
end
noncomputable def Zq(g:Int->Int->Int):D->D->M D
 |.int i,.int j=>ret (.int (g i j))
 |_,_=>bad
noncomputable def YY:D->D->M D
 |.int i,.int j=>ret (.int (i+j))
 |.tup a,.tup b=>λS=>if a.length+b.length<=lim then .ok (.tup (a++b)) S else .bad
 |.lst n,.lst m=>λS=>match S[n]?,S[m]? with
  |some (.lst a),Z9 (.lst b)=>if a.length+b.length<=lim then .ok (.lst S.length) (S++[.lst (a++b)])else .bad
  |_,_=>.bad
 |.str x,.str y=>λS=>if x.length+y.length<=lim then .ok (.str (x++y)) S else .bad
 |_,_=>bad
noncomputable def Wc(i j:Int):Bool:=(decide (-18446744073709551616<i)&&decide (i<18446744073709551616))||(decide (-18446744073709551616<j)&&decide (j<18446744073709551616))
noncomputable def XC:D->D->M D
 |.int i,.int j=>λS=>if Wc i j then .ok (.int (i*j)) S else .bad
 |_,_=>bad
noncomputable def W8:D->D->M D
 |.int i,.int j=>λS=>if 0<j then .ok (.int (i % j)) S else .bad
 |_,_=>bad
noncomputable def WW:D->D->M D
 |.int i,.int j=>λS=>if 0<j/\j<1073741824 then .ok (.int (i / j)) S else .bad
 |_,_=>bad
noncomputable def VE:D->D->M D
 |.int i,.int j=>λS=>if 0<=j/\j<=1000000/\i.natAbs<18446744073709551616 then .ok (.int (i ^ j.toNat)) S else .bad
 |_,_=>bad
noncomputable def Yr:D->D->M D
 |.int i,.int j=>λS=>if 0<=j/\j<=1000000/\i.natAbs<18446744073709551616 then .ok (.int (i*2 ^ j.toNat)) S else .bad
 |_,_=>bad
noncomputable def VD:D->D->M D
 |.int i,.int j=>λS=>if 0<=j then .ok (.int (i / 2 ^ j.toNat)) S else .bad
 |_,_=>bad
noncomputable def Xs:D->M D
 |.int i=>ret (.int (-i))
 |_=>bad
section
variable {X:Cx}
theorem N0{op:mW}{g:Int->Int->Int}(h:Y0 X (jK op) (VJ λi j=>.int (g i j))):YD X.K (Zm X (jK op)) (Zq g):=by
 intro x y S d k H J v u Q e f b c a;unfold Zq at e;split at e
 .obtain⟨rfl,rfl⟩:=X4 e;subst b c;exact⟨_,h,_,_,rfl,rfl,a.self f XH⟩
 .cases e
theorem ur:YD X.K (Zm X (jK .Sub)) (Zq λi j=>i - j):=N0 Bv
theorem uq:YD X.K (Zm X (jK .BitAnd)) (Zq jI):=N0 Bo
theorem uo:YD X.K (Zm X (jK .BitOr)) (Zq vC):=N0 Bn
theorem um:YD X.K (Zm X (jK .BitXor)) (Zq lP):=N0 Bm
theorem uk:YD X.K (Zm X (jK .Add)) YY:=by
 intro x y S d D H J v u Q e a g i h;unfold YY at e;split at e
 .obtain⟨rfl,rfl⟩:=X4 e;subst g i;exact⟨_,Bw,_,_,rfl,rfl,h.self a XH⟩
 .try dsimp only at e
  split at e
  .rename_i f;cases e;obtain⟨p,m,rfl,n,c⟩:=g;obtain⟨k,l,rfl,j,b⟩:=i;exact⟨_,zy,p,k,m,l,rfl,rfl,n,j,by rw[<- c.len,<- b.len];exact Rz f,λo B z sq=>h.oldT a z sq (c.append b)⟩
  .cases e
 .try dsimp only at e
  obtain⟨p,rfl,q⟩:=g;obtain⟨k,rfl,t⟩:=i;split at e
  .rename_i A C w s;split at e
   .rename_i f;cases e;obtain⟨m,n,c⟩:=a.lst q w;obtain⟨l,j,b⟩:=a.lst t s;exact⟨_,Ai,p,k,m,l,rfl,rfl,n,j,by rw[<- c.len,<- b.len];exact Rz f,λo r=>h.newL a r (c.append b)⟩
   .cases e
  .cases e
 .try dsimp only at e
  split at e
  .rename_i f;cases e;subst g i;exact⟨_,A3,_,_,rfl,rfl,Rz f,h.self a K3⟩
  .cases e
 .cases e
theorem uj{i j:Int}(h:Wc i j=Z7):UJ i j:=by unfold Wc at h;simp only[qI2,qC5,decide_eq_true_eq]at h;exact h
theorem ui:YD X.K (Zm X (jK .Mult)) XC:=by
 intro x y S d g H J v u Q e f a b h;unfold XC at e;split at e
 .try dsimp only at e
  split at e
  .rename_i c;cases e;subst a b;exact⟨_,Bu,_,_,rfl,rfl,uj c,h.self f XH⟩
  .cases e
 .cases e
theorem uh:YD X.K (Zm X (jK .Mod)) W8:=by
 intro x y S d g H J v u Q e f a b h;unfold W8 at e;split at e
 .try dsimp only at e
  split at e
  .rename_i c;cases e;subst a b;exact⟨_,Bs,_,_,rfl,rfl,c,h.self f XH⟩
  .cases e
 .cases e
theorem ug:YD X.K (Zm X (jK .FloorDiv)) WW:=by
 intro x y S d g H J v u Q e f a b h;unfold WW at e;split at e
 .try dsimp only at e
  split at e
  .rename_i c;cases e;subst a b;exact⟨_,Bt,_,_,rfl,rfl,c,h.self f XH⟩
  .cases e
 .cases e
theorem uf:YD X.K (Zm X (jK .Pow)) VE:=by
 intro x y S d g H J v u Q e f a b h;unfold VE at e;split at e
 .try dsimp only at e
  split at e
  .rename_i c;cases e;subst a b;exact⟨_,Br,_,_,rfl,rfl,c,h.self f XH⟩
  .cases e
 .cases e
theorem ue:YD X.K (Zm X (jK .LShift)) Yr:=by
 intro x y S d g H J v u Q e f a b h;unfold Yr at e;split at e
 .try dsimp only at e
  split at e
  .rename_i c;cases e;subst a b;exact⟨_,Bq,_,_,rfl,rfl,c,h.self f XH⟩
  .cases e
 .cases e
theorem ud:YD X.K (Zm X (jK .RShift)) VD:=by
 intro x y S d g H J v u Q e f a b h;unfold VD at e;split at e
 .try dsimp only at e
  split at e
  .rename_i c;cases e;subst a b;exact⟨_,Bp,_,_,rfl,rfl,c,h.self f XH⟩
  .cases e
 .cases e
theorem uc:F5 X.K (SU X (unaryOp .USub)) Xs:=by
 intro x S d c H J v Q e b a h;unfold Xs at e;split at e
 .obtain⟨rfl,rfl⟩:=X4 e;subst a;exact⟨_,Bk,_,rfl,h.self b XH⟩
 .cases e
noncomputable def Yq(g:Int->Int->Bool):D->D->M D
 |.int i,.int j=>ret (.bl (g i j))
 |_,_=>bad
theorem K2{op:fY}{g:Int->Int->Bool}(h:Y0 X (y8 op) (VJ λi j=>.bl (g i j))):YD X.K (Zm X (y8 op)) (Yq g):=by
 intro x y S d k H J v u Q e f b c a;unfold Yq at e;split at e
 .obtain⟨rfl,rfl⟩:=X4 e;subst b c;exact⟨_,h,_,_,rfl,rfl,a.self f WX⟩
 .cases e
theorem ub:YD X.K (Zm X (y8 .LtE)) (Yq λi j=>decide (i<=j)):=K2 Bf
theorem ua:YD X.K (Zm X (y8 .Gt)) (Yq λi j=>decide (j<i)):=K2 Be
theorem t9:YD X.K (Zm X (y8 .GtE)) (Yq λi j=>decide (j<=i)):=K2 Bd
noncomputable def Wb:List D->Option (yA)
 |[]=>Z9 []
 |.int i::r=>(Wb r).map (i::·)
 |_::_=>Z8
theorem Uv{K:yQ}{H:Hp}{J:yC}:∀{ds:List D}{ns:yA}{vs:List V},Wb ds=Z9 ns->RVs K H J ds vs->vs=ns.map V.int
 |[],ns,vs,e,r=>by cases e;rw[r.nil_inv];rfl
 |.int i::ds,ns,vs,e,r=>by
  obtain⟨v,c,rfl,a,b⟩:=r.cons_inv;unfold Wb at e;cases q:Wb ds with
  |none=>rw[q]at e;cases e
  |some d =>
   rw[q]at e;cases e;subst a;rw[Uv q b];rfl
 |.non::ds,ns,vs,e,r=>by cases e
 |.bl _::ds,ns,vs,e,r=>by cases e
 |.str _::ds,ns,vs,e,r=>by cases e
 |.ty _::ds,ns,vs,e,r=>by cases e
 |.tup _::ds,ns,vs,e,r=>by cases e
 |.lst _::ds,ns,vs,e,r=>by cases e
 |.dct _::ds,ns,vs,e,r=>by cases e
 |.rol _::ds,ns,vs,e,r=>by cases e
 |.xc _::ds,ns,vs,e,r=>by cases e
noncomputable def VW:D->D->M D
 |.int i,.int j=>ret (.bl (decide (i<j)))
 |.tup c,.tup d=>λS=>match Wb c,Wb d with
  |some a,Z9 b=>.ok (.bl (HT.lexLt a b)) S
  |_,_=>.bad
 |_,_=>bad
theorem t8(n:X.A.units<wK):YD X.K (Zm X (y8 .Lt)) VW:=by
 intro x y S d z H J v u Q e c a b h;unfold VW at e;split at e
 .obtain⟨rfl,rfl⟩:=X4 e;subst a b;exact⟨_,zJZ,_,_,rfl,rfl,h.self c WX⟩
 .split at e
  .rename_i l s q g;cases e;unfold RV at a b;obtain⟨p,w,rfl,o,m⟩:=a;obtain⟨k,t,rfl,f,i⟩:=b;have j:=Uv q m;have r:=Uv g i;subst j r;exact⟨_,AE n,p,k,l,s,rfl,rfl,Zg.of o,Zg.of f,h.self c WX⟩
  .cases e
 .cases e
noncomputable def YM:Nat->ZX->D->Option wR
 |0,_,_=>Z8
 |n+1,S,d=>match d with
  |.non=>Z9 .none
  |.bl b=>Z9 (.bool b)
  |.int i=>Z9 (.int i)
  |.str x=>if PyData.strOk x then Z9 (.str x)else Z8
  |.tup a=>(a.mapM (YM n S)).map .tuple
  |.lst k=>match ZL S k with
   |some a=>(a.mapM (YM n S)).map .list
   |none=>Z8
  |_=>Z8
theorem K1{K:yQ}{H:Hp}{J:yC}{S:ZX}{n:Nat}(c:∀d v p,YM n S d=Z9 p->RV K H J d v->Rp K H (λ_=>True) v p/\p.canLay0=Z7/\p.depth<=n):∀(xs:List D) (vs:List V) (ps:List wR),xs.mapM (YM n S)=Z9 ps->RVs K H J xs vs->RpL K H (λ_=>True) vs ps/\PyData.canLayAll0 ps=Z7/\PyData.depthAll ps<=n
 |[],vs,ps,e,r=>by simp at e;subst e;rw[r.nil_inv];exact⟨.nil,rfl,qF8 _⟩
 |d::ds,vs,ps,e,r=>by
  obtain⟨v,h,rfl,i,f⟩:=r.cons_inv;rw[qL0]at e;cases q:YM n S d with
  |none=>rw[q]at e;cases e
  |some p =>
   cases b:ds.mapM (YM n S)with
   |none=>rw[q,b]at e;cases e
   |some a =>
    rw[q,b]at e;cases e;obtain⟨g,k,l⟩:=c d v p q i;obtain⟨b1,j,m⟩:=K1 c ds h a b f;refine⟨.cons g b1,?_,?_⟩
    .show(PyData.canLay0 p&&PyData.canLayAll0 a)=Z7;rw[k,j];rfl
    .show max p.depth (PyData.depthAll a)<=n;omega
theorem Ry{K:yQ}{H:Hp}{J:yC}{S:ZX}(g:SR K J S H):∀(n:Nat) (d:D) (v:V) (p:wR),YM n S d=Z9 p->RV K H J d v->Rp K H (λ_=>True) v p/\p.canLay0=Z7/\p.depth<=n
 |0,d,v,p,e,r=>by cases e
 |n+1,d,v,p,e,r=>by
  unfold YM at e;cases d with
  |non=>cases e;subst r;exact⟨.non,rfl,qF8 _⟩
  |bl b=>cases e;subst r;exact⟨.bl b,rfl,qF8 _⟩
  |int i=>cases e;subst r;exact⟨.int i,rfl,qF8 _⟩
  |str x =>
   dsimp only at e;split at e
   .rename_i u;cases e;subst r;exact⟨.str x,u,qF8 _⟩
   .cases e
  |tup c =>
   dsimp only at e;cases q:c.mapM (YM n S)with
   |none=>rw[q]at e;cases e
   |some f =>
    rw[q]at e;cases e;obtain⟨a,j,rfl,h,l⟩:=r;obtain⟨b1,o,m⟩:=K1 (λd v p e r=>Ry g n d v p e r) c j f q l;exact⟨.tup (Zg.of h) b1,o,qR6 m⟩
  |lst k =>
   dsimp only at e;split at e
   .rename_i c t;cases q:c.mapM (YM n S)with
    |none=>rw[q]at e;cases e
    |some f =>
     rw[q]at e;cases e;obtain⟨a,rfl,s⟩:=r;obtain⟨j,h,l⟩:=g.sq s t;obtain⟨b1,o,m⟩:=K1 (λd v p e r=>Ry g n d v p e r) c j f q l;exact⟨.lst True.intro h b1,o,qR6 m⟩
   .cases e
  |dct k=>cases e
  |ty k=>cases e
  |rol k=>cases e
  |xc _=>cases e
noncomputable def WD:D->D->M D:=λx y S=>match x,y with
 |.str a,.str b=>.ok (.bl (decide (a=b))) S
 |_,_=>match YM 40 S x,YM 40 S y with
  |some p,Z9 q=>.ok (.bl (PyData.eqv p q)) S
  |_,_=>.bad
noncomputable def WM:D->D->M D:=λx y S=>match x,y with
 |.str a,.str b=>.ok (.bl (!decide (a=b))) S
 |_,_=>match YM 40 S x,YM 40 S y with
  |some p,Z9 q=>.ok (.bl (!PyData.eqv p q)) S
  |_,_=>.bad
theorem t7(k:X.A.units+64<wK):YD X.K (Zm X (y8 .Eq)) WD:=by
 intro x y S d s H J v u Q e c f g h;unfold WD at e;split at e
 .rename_i a b;cases e;subst f g;refine⟨_,Bh,rfl,?_⟩;have z:decide (V.str a=V.str b)=decide (a=b):=by simp
  rw[z];exact h.self c WX
 .split at e
  .rename_i p q l i;cases e;obtain⟨j,n,o⟩:=Ry c 40 x v p l f;obtain⟨b1,m,r⟩:=Ry c 40 y u q i g;exact⟨_,yu k,_,_,p,q,j,b1,⟨n,by omega⟩,⟨m,by omega⟩,h.self c WX⟩
  .cases e
theorem t6(k:X.A.units+64<wK):YD X.K (Zm X (y8 .NotEq)) WM:=by
 intro x y S d s H J v u Q e c f g h;unfold WM at e;split at e
 .rename_i a b;cases e;subst f g;refine⟨_,Bg,rfl,?_⟩;have z:decide (V.str a=V.str b)=decide (a=b):=by simp
  rw[z];exact h.self c WX
 .split at e
  .rename_i p q l i;cases e;obtain⟨j,n,o⟩:=Ry c 40 x v p l f;obtain⟨b1,m,r⟩:=Ry c 40 y u q i g;exact⟨_,yt k,_,_,p,q,j,b1,⟨n,by omega⟩,⟨m,by omega⟩,h.self c WX⟩
  .cases e
noncomputable def D.isNon:D->Bool
 |.non=>Z7
 |_=>Z5
theorem F2{K:yQ}{H:Hp}{J:yC}{x:D}{v:V}(r:RV K H J x v):decide (v=.non)=x.isNon:=by
 cases x with
 |non=>unfold RV at r;subst r;rfl
 |bl _=>unfold RV at r;subst r;rfl
 |int _=>unfold RV at r;subst r;rfl
 |str _=>unfold RV at r;subst r;rfl
 |ty _=>unfold RV at r;subst r;rfl
 |tup _=>unfold RV at r;obtain⟨_,_,rfl,_⟩:=r;rfl
 |lst _=>unfold RV at r;obtain⟨_,rfl,_⟩:=r;rfl
 |dct _=>unfold RV at r;obtain⟨_,rfl,_⟩:=r;rfl
 |rol _=>unfold RV at r;obtain⟨_,_,rfl,_⟩:=r;rfl
 |xc _=>unfold RV at r;obtain⟨_,_,_,rfl,_⟩:=r;rfl
noncomputable def Qk:D->D->M D
 |x,.non=>ret (.bl x.isNon)
 |.bl a,.bl b=>ret (.bl (a == b))
 |_,_=>bad
noncomputable def Qj:D->D->M D
 |x,.non=>ret (.bl (!x.isNon))
 |.bl a,.bl b=>ret (.bl (a != b))
 |_,_=>bad
theorem tZ:YD X.K (Zm X (y8 .Is)) Qk:=by
 intro x y S d f H J v u Q e c a b h;unfold Qk at e;split at e
 .obtain⟨rfl,rfl⟩:=X4 e;exact⟨_,Bc,b,by rw[F2 a];exact h.self c WX⟩
 .obtain⟨rfl,rfl⟩:=X4 e;subst a b;exact⟨_,zC,_,_,rfl,rfl,h.self c WX⟩
 .cases e
theorem tY:YD X.K (Zm X (y8 .IsNot)) Qj:=by
 intro x y S d f H J v u Q e c a b h;unfold Qj at e;split at e
 .obtain⟨rfl,rfl⟩:=X4 e;exact⟨_,Bb,b,by rw[F2 a];exact h.self c WX⟩
 .obtain⟨rfl,rfl⟩:=X4 e;subst a b;exact⟨_,zB,_,_,rfl,rfl,h.self c WX⟩
 .cases e
noncomputable def XQ:D->Option V
 |.non=>Z9 .non
 |.bl b=>Z9 (.bl b)
 |.int i=>Z9 (.int i)
 |.str x=>Z9 (.str x)
 |_=>Z8
theorem F1{K:yQ}{H:Hp}{J:yC}{x:D}{v w:V}(e:XQ x=Z9 w)(r:RV K H J x v):v=w:=by
 cases x with
 |non=>cases e;exact r
 |bl _=>cases e;exact r
 |int _=>cases e;exact r
 |str _=>cases e;exact r
 |_=>cases e
theorem F0{K:yQ}{H:Hp}{J:yC}:∀{ds:List D}{vs ws:List V},ds.mapM XQ=Z9 ws->RVs K H J ds vs->vs=ws
 |[],vs,ws,e,r=>by simp at e;subst e;exact r.nil_inv
 |d::ds,vs,ws,e,r=>by
  obtain⟨v,g,rfl,f,c⟩:=r.cons_inv;rw[qL0]at e;cases q:XQ d with
  |none=>rw[q]at e;cases e
  |some w =>
   cases a:ds.mapM XQ with
   |none=>rw[q,a]at e;cases e
   |some b =>
    rw[q,a]at e;cases e;rw[F1 q f,F0 a c]
noncomputable def Vp:D->Option ZJ
 |.int i=>Z9 (.inl i)
 |.str x=>Z9 (.inr x)
 |_=>Z8
theorem Qi{K:yQ}{H:Hp}{J:yC}{x:D}{v:V}{k:ZJ}(e:Vp x=Z9 k)(r:RV K H J x v):v=kV k:=by
 cases x with
 |int _=>cases e;exact r
 |str _=>cases e;exact r
 |_=>cases e
noncomputable def Yy{a:Type}[DecidableEq a](kvs:List (a×D))(k:a):Option D:=(kvs.find? λb=>decide (b.1=k)).map (·.2)
noncomputable def Yx{b:Type}[DecidableEq b](kvs:List (b×D))(k:b)(v:D):List (b×D) :=
 if(kvs.any λa=>decide (a.1=k))=Z7 then kvs.map (λa=>if a.1=k then(a.1,v)else a)else kvs++[(k,v)]
section
variable {κ:Type} [DecidableEq κ] {K:yQ}{H:Hp}{J:yC}
theorem YU.cons_inv{p:κ×D}{kvs:List (κ×D)}{b:List (κ×V)}(h:YU K H J (p::kvs) b):∃q us,b=q::us/\p.1=q.1/\RV K H J p.2 q.2/\YU K H J kvs us:=by
 obtain⟨a,c⟩:=h;rw[qC7]at a c;obtain⟨v,g,e,f,d⟩:=c.cons_inv;cases b with
 |nil=>simp at a
 |cons q us =>
  rw[qC7]at a e;cases e;rw[qL6.injEq]at a;exact⟨q,us,rfl,a.1,f,a.2,d⟩
theorem YU.val{k:κ}:∀{kvs:List (κ×D)}{ws:List (κ×V)},YU K H J kvs ws->(∀d,Yy kvs k=Z9 d->∃v,Ye ws k=Z9 v/\RV K H J d v)/\(Yy kvs k=Z8->Ye ws k=Z8)
 |[],ws,h=>by
  have:ws=[]:=by have:=h.1;cases ws with|nil=>rfl|cons a b=>simp at this
  subst this;exact⟨λd e=>(by cases e),λ_=>rfl⟩
 |p::kvs,ws,h=>by
  obtain⟨q,m,rfl,f,l,j⟩:=h.cons_inv;obtain⟨g,i⟩:=YU.val j;by_cases hk:p.1=k
  .have c:Yy (p::kvs) k=Z9 p.2:=by simp[Yy,hk]
   rw[c,Oz (f▸hk)];exact⟨λd e=>by cases e;exact⟨_,rfl,l⟩,λe=>by cases e⟩
  .have c:Yy (p::kvs) k=Yy kvs k:=by simp[Yy,hk]
   rw[c,Oy (f▸hk)];exact⟨g,i⟩
theorem YU.nil:YU K H J ([]:List (κ×D)) []:=⟨rfl,RVs.nil⟩
theorem YU.cons{k:κ}{d:D}{v:V}{kvs:List (κ×D)}{a:List (κ×V)}(r:RV K H J d v)(h:YU K H J kvs a):YU K H J ((k,d)::kvs) ((k,v)::a):=⟨by rw[qC7,qC7,h.1],by exact .cons r h.2⟩
theorem YU.any{k:κ}:∀{kvs:List (κ×D)}{ws:List (κ×V)},YU K H J kvs ws->(kvs.any λc=>decide (c.1=k))=(ws.any λc=>decide (c.1=k))
 |[],ws,h=>by
  have:ws=[]:=by have:=h.1;cases ws with|nil=>rfl|cons a b=>simp at this
  subst this;rfl
 |p::kvs,ws,h=>by obtain⟨q,f,rfl,d,g,e⟩:=h.cons_inv;rw[qG0,qG0,YU.any e,d]
theorem YU.mapSet{k:κ}{d:D}{v:V}(e:RV K H J d v):∀{kvs:List (κ×D)}{ws:List (κ×V)},YU K H J kvs ws->YU K H J (kvs.map (λc=>if c.1=k then(c.1,d)else c)) (ws.map (λc=>if c.1=k then(c.1,v)else c))
 |[],ws,h=>by
  have:ws=[]:=by have:=h.1;cases ws with|nil=>rfl|cons a b=>simp at this
  subst this;exact .nil
 |p::kvs,ws,h=>by
  obtain⟨q,n,rfl,g,i,f⟩:=h.cons_inv;rw[qC7,qC7];obtain⟨j,o⟩:=p;obtain⟨m,l⟩:=q;subst g;by_cases hk:j=k
  .rw[if_pos hk,if_pos hk];exact .cons e (YU.mapSet e f)
  .rw[if_neg hk,if_neg hk];exact .cons i (YU.mapSet e f)
theorem YU.append{a:List (κ×D)}{bs:List (κ×V)}{b:List (κ×D)}{ds:List (κ×V)}(h:YU K H J a bs)(g:YU K H J b ds):YU K H J (a++b) (bs++ds):=⟨by rw[qE1,qE1,h.1,g.1],by rw[qE1,qE1];exact h.2.append g.2⟩
theorem YU.put{k:κ}{d:D}{v:V}(c:RV K H J d v){kvs:List (κ×D)}{b:List (κ×V)}(h:YU K H J kvs b):YU K H J (Yx kvs k d) (YK b k v):=by
 unfold Yx YK;rw[h.any];by_cases a:(b.any λe=>decide (e.1=k))=Z7
 .rw[if_pos a,if_pos a];exact h.mapSet c
 .rw[if_neg a,if_neg a];exact h.append (.cons c .nil)
noncomputable def YJ(kvs more:List (κ×D)):List (κ×D):=more.foldl (λacc a=>Yx acc a.1 a.2) kvs
theorem YU.len{kvs:List (κ×D)}{a:List (κ×V)}(h:YU K H J kvs a):kvs.length=a.length:=by have:=congrArg qK4 h.1;simpa using this
end
noncomputable def dictAt(S:ZX)(n:Nat)(x:D):Option (Option D):=match S[n]? with
 |some (.dk a)=>(Vp x).map λk=>Yy a k
 |some (.fk a)=>(Vp x).map λk=>Yy a k
 |_=>Z8
theorem FZ{K:yQ}{H:Hp}{J:yC}{S:ZX}{n:Nat}{x:D}{v:V}{a:yR}{r:Option D}(i:SR K J S H)(e:dictAt S n x=Z9 r)(hm:J[n]?=Z9 a)(j:RV K H J x v):∃o,XD H a v o/\(∀d,r=Z9 d->∃w,o=Z9 w/\RV K H J d w)/\(r=Z8->o=Z8):=by
 unfold dictAt at e;split at e
 .rename_i g h;cases q:Vp x with
  |none=>rw[q]at e;cases e
  |some k =>
   rw[q]at e;cases e;obtain⟨f,c,b⟩:=i.get hm h;have:=Qi q j;subst this;exact⟨Ye f k,XD.k c,(b.val).1,(b.val).2⟩
 .rename_i g h;cases q:Vp x with
  |none=>rw[q]at e;cases e
  |some k =>
   rw[q]at e;cases e;obtain⟨o,f,c,b⟩:=i.get hm h;have:=Qi q j;subst this;exact⟨Ye f k,.inl ⟨_,_,.inr ⟨o,c⟩,rfl,rfl⟩,(b.val (k:=k)).1,(b.val (k:=k)).2⟩
 .cases e
noncomputable def YG(neg:Bool):D->D->M D:=λx y S=>match y with
 |.dct n=>match dictAt S n x with
  |some o=>.ok (.bl (if neg then !o.isSome else o.isSome)) S
  |none=>.bad
 |_=>match SM S y,XQ x with
  |some b,Z9 v=>match b.mapM XQ with
   |some a=>.ok (.bl (if neg then !T8 v a else T8 v a)) S
   |none=>.bad
  |_,_=>.bad
theorem FY{x:D}{v:V}(h:XQ x=Z9 v):U0 v=Z7:=by cases x<;>first|(cases h;rfl)| cases h
theorem FX:∀{ds:List D}{vs:List V},ds.mapM XQ=Z9 vs->vs.all U0=Z7
 |[],vs,e=>by simp at e;subst e;rfl
 |d::ds,vs,e=>by
  rw[qL0]at e;cases q:XQ d with
  |none=>rw[q]at e;cases e
  |some w =>
   cases a:ds.mapM XQ with
   |none=>rw[q,a]at e;cases e
   |some b =>
    rw[q,a]at e;cases e;rw[qK1,FY q,FX a];rfl
theorem tX(e:X.A.units+1<wK):Y0 X (y8 .In) (λy x H Q=>∃a o,x=.ref a/\XD H a y o/\Q (.bl o.isSome) H):=by intro b s Z H y x v u Q I f d h;obtain⟨a,o,rfl,g,q⟩:=h;obtain rfl:u=Value.ref a:=d;exact LR e I g f λi c=>⟨.bl o.isSome,H,c,rfl,q⟩
theorem tW(e:X.A.units+1<wK):Y0 X (y8 .NotIn) (λy x H Q=>∃a o,x=.ref a/\XD H a y o/\Q (.bl (!o.isSome)) H):=by intro b s Z H y x v u Q I f d h;obtain⟨a,o,rfl,g,q⟩:=h;obtain rfl:u=Value.ref a:=d;exact Ab e I g f λi c=>⟨.bl (!o.isSome),H,c,rfl,q⟩
theorem FW{neg:Bool}{op:fY}(q:Y0 X (y8 op) (LX X.K neg))(r:Y0 X (y8 op) (λy x H Q=>∃a o,x=.ref a/\XD H a y o/\Q (.bl (if neg then !o.isSome else o.isSome)) H))
  : YD X.K (Zm X (y8 op)) (YG neg):=by
 intro x y S d G H J v u Q e c i f h;unfold YG at e;split at e
 .rename_i n;split at e
  .rename_i o B;cases e;unfold RV at f;obtain⟨a,rfl,l⟩:=f;obtain⟨k,g,A,D⟩:=FZ c B l i;have b:k.isSome=o.isSome:=by
    cases o with
    |none=>simp[D rfl]
    |some d=>obtain⟨w,rfl,_⟩:=A d rfl;rfl
   exact⟨_,r,a,k,rfl,g,by rw[b];exact h.self c WX⟩
  .cases e
 .split at e
  .rename_i E w t b;split at e
   .rename_i F j;cases e;obtain⟨a,s,rfl,p,z⟩:=c.seq f t;have m:=F1 b i;have C:=F0 j z;subst m C;exact⟨_,q,a,s,rfl,p,FY b,FX j,h.self c WX⟩
   .cases e
  .cases e
theorem tV(a:X.A.units+64<wK):YD X.K (Zm X (y8 .In)) (YG Z5):=FW Ar (tX (by omega))
theorem tU(a:X.A.units+64<wK):YD X.K (Zm X (y8 .NotIn)) (YG Z7):=FW Aq (tW (by omega))
end
section
variable {X:Cx}
theorem tT(m:X.A.units+1<wK):RT X (λx y H Q=>∃a v,x=.ref a/\XD H a y (Z9 v)/\Q v H):=by
 intro d e c s Z H x y v u Q I l p h n;obtain⟨a,z,rfl,g,q⟩:=h;obtain rfl:v=Value.ref a:=l;have o:=zZ I g;have i:y7 (yW X.prog X.w) X.A (gD (.ref a) u) (EP X c Z Q) X.xe s:=Ac m I g p λt w k j=>⟨z,H,k,j,q⟩
 refine yO ?_;refine yO (wpAny_specialOf o PySem.F.slot_dict_getitem.lookup ?_);have fin:y7 (yW X.prog X.w) X.A (dQ e Z5 (.ref a) u) (λr b=>y7 (yW X.prog X.w) X.A (letTemporaryGo d (.ref a) r >>= λ_=>pure r) (EP X c Z Q) X.xe b) X.xe s:=by rw[n];exact wpAny_operating (jL i (λr b f=>yO (wpAny_letTemporaryGo (yP f))) λ_ _ x=>x)
 exact yP (yO fin)
noncomputable def Zu:D->D->M D:=λx i S=>match x with
 |.dct n=>match dictAt S n i with
  |some (Z9 d)=>.ok d S
  |_=>.bad
 |_=>match SM S x,i with
  |some a,.int j=>match XW a j with
   |some d=>.ok d S
   |none=>.bad
  |_,_=>.bad
theorem RVs.at{K:yQ}{H:Hp}{J:yC}{ds:List D}{a:List V}{i:Int}{d:D}(r:RVs K H J ds a)(e:XW ds i=Z9 d):∃v,XW a i=Z9 v/\RV K H J d v:=by
 unfold XW at e ⊢;rw[<- r.len];cases q:Wn ds.length i with
 |none=>rw[q]at e;cases e
 |some j =>
  rw[q]at e;obtain⟨v,b,c⟩:=r.get e;exact⟨v,b,c⟩
theorem FV(s:X.A.units+1<wK):YD X.K (La X) Zu:=by
 intro x y S d D H J v u Q e c i m h;unfold Zu at e;split at e
 .rename_i n;split at e
  .rename_i q B;cases e;obtain⟨a,rfl,p⟩:=i;obtain⟨o,g,A,_⟩:=FZ c B p m;obtain⟨w,rfl,b⟩:=A _ rfl;exact⟨_,tT s,a,w,rfl,g,h.self c b⟩
  .cases e
 .split at e
  .rename_i C j t;split at e
   .rename_i q r;cases e;obtain⟨a,k,rfl,f,z⟩:=c.seq i t;obtain⟨w,l,b⟩:=z.at r;subst m;rcases f with f|f
    .exact⟨_,AB,a,k,j,w,rfl,rfl,f,l,h.self c b⟩
    .exact⟨_,AA,a,k,j,w,rfl,rfl,f,l,h.self c b⟩
   .cases e
  .cases e
noncomputable def Yb(xs:List D)(lo hi:yG):List D:=(xs.drop (HT.sIx xs.length 0 lo)).take (HT.sIx xs.length xs.length hi - HT.sIx xs.length 0 lo)
noncomputable def Vo:D->yG->yG->M D:=λx c b S=>match x with
 |.tup a=>.ok (.tup (Yb a c b)) S
 |.lst n=>match ZL S n with
  |some a=>.ok (.lst S.length) (S++[.lst (Yb a c b)])
  |none=>.bad
 |_=>.bad
theorem RVs.cut{K:yQ}{H:Hp}{J:yC}{ds:List D}{a:List V}(r:RVs K H J ds a)(lo hi:yG):RVs K H J (Yb ds lo hi) (W0 a lo hi):=by unfold Yb W0;rw[r.len];exact(r.drop _).take _
theorem FU:F4 X.K (K9 X) Vo:=by
 intro x i j S d t H J v Q e b g h;unfold Vo at e;split at e
 .cases e;obtain⟨p,c,rfl,q,f⟩:=g;exact⟨_,zu,p,c,rfl,q,λr s n sq=>h.oldT b n sq (f.cut i j)⟩
 .split at e
  .rename_i o m;cases e;obtain⟨a,rfl,k⟩:=g;obtain⟨c,q,f⟩:=b.sq k m;exact⟨_,Au,a,c,rfl,q,λp l=>h.newL b l (f.cut i j)⟩
  .cases e
 .cases e
theorem RVs.reverse{K:yQ}{H:Hp}{J:yC}:∀{ds:List D}{vs:List V},RVs K H J ds vs->RVs K H J ds.reverse vs.reverse
 |[],vs,r=>by rw[r.nil_inv];exact .nil
 |d::ds,vs,r=>by obtain⟨v,c,rfl,a,b⟩:=r.cons_inv;rw[qK6,qK6];exact b.reverse.append (.cons a .nil)
noncomputable def Zr:List D->M D:=λb S=>match b with
 |[.str x]=>if x.length<=lim then .ok (.int x.length) S else .bad
 |[.dct n]=>match S[n]? with
  |some (.dk a)=>.ok (.int a.length) S
  |some (.fk a)=>.ok (.int a.length) S
  |_=>.bad
 |[x]=>match SM S x with
  |some c=>.ok (.int c.length) S
  |none=>.bad
 |_=>.bad
theorem RVs.one{K:yQ}{H:Hp}{J:yC}{d:D}{a:List V}(h:RVs K H J [d] a):∃v,a=[v]/\RV K H J d v:=by obtain⟨v,e,rfl,b,c⟩:=h.cons_inv;rw[c.nil_inv];exact⟨v,rfl,b⟩
theorem RVs.two{K:yQ}{H:Hp}{J:yC}{d e:D}{a:List V}(h:RVs K H J [d,e] a):∃v u,a=[v,u]/\RV K H J d v/\RV K H J e u:=by obtain⟨v,g,rfl,c,f⟩:=h.cons_inv;obtain⟨u,rfl,b⟩:=f.one;exact⟨v,u,rfl,c,b⟩
theorem FT:Wu X.K (Yz X (.builtin "len")) Zr:=by
 intro s S d u H J m Q e b g h;unfold Zr at e;split at e
 .split at e
  .rename_i q;cases e;obtain⟨v,rfl,r⟩:=g.one;subst r;exact⟨_,Ao,_,rfl,Rz q,h.self b XH⟩
  .cases e
 .obtain⟨v,rfl,r⟩:=g.one;unfold RV at r;obtain⟨a,rfl,l⟩:=r;split at e
  .rename_i j k;cases e;obtain⟨i,f,c⟩:=b.get l k;exact⟨_,Gp,a,i,rfl,.inl f,by rw[<- c.len];exact h.self b XH⟩
  .rename_i j k;cases e;obtain⟨o,i,f,c⟩:=b.get l k;exact⟨_,Gp,a,i,rfl,.inr ⟨o,f⟩,by rw[<- c.len];exact h.self b XH⟩
  .cases e
 .split at e
  .rename_i t p;cases e;obtain⟨v,rfl,r⟩:=g.one;obtain⟨a,m,rfl,n,c⟩:=b.seq r p;exact⟨_,Ap,a,m,rfl,n,by rw[<- c.len];exact h.self b XH⟩
  .cases e
 .cases e
noncomputable def SL(a:Int):yA->Int
 |[]=>a
 |b::r=>if b<a then SL b r else SL a r
noncomputable def SK(a:Int):yA->Int
 |[]=>a
 |b::r=>if a<b then SK b r else SK a r
theorem K0:∀(a:Int) (r:yA),SL a r∈a::r/\∀x∈a::r,SL a r<=x
 |a,[]=>by simp[SL]
 |a,b::r=>by
  unfold SL;split
  .have h:=K0 b r;refine⟨qD0 _ h.1,λx c=>?_⟩;rcases qA9.mp c with rfl|c
   .have:=h.2 b (by simp);omega
   .exact h.2 x c
  .have h:=K0 a r;refine⟨?_,λx c=>?_⟩
   .rcases qA9.mp h.1 with e|e
    .rw[e];simp
    .simp_all
   .have:=h.2 a (by simp);rcases qA9.mp c with rfl|c
    .omega
    rcases qA9.mp c with rfl|c
    .omega
    .simp_all
theorem KZ:∀(a:Int) (r:yA),SK a r∈a::r/\∀x∈a::r,x<=SK a r
 |a,[]=>by simp[SK]
 |a,b::r=>by
  unfold SK;split
  .have h:=KZ b r;refine⟨qD0 _ h.1,λx c=>?_⟩;rcases qA9.mp c with rfl|c
   .have:=h.2 b (by simp);omega
   .exact h.2 x c
  .have h:=KZ a r;refine⟨?_,λx c=>?_⟩
   .rcases qA9.mp h.1 with e|e
    .rw[e];simp
    .simp_all
   .have:=h.2 a (by simp);rcases qA9.mp c with rfl|c
    .omega
    rcases qA9.mp c with rfl|c
    .omega
    .simp_all
noncomputable def Wa:List D->M D:=λb S=>match b with
 |[.int i,.int j]=>.ok (.int (if j<i then j else i)) S
 |[.lst n]=>match (ZL S n).bind Wb with
  |some (a::r)=>.ok (.int (SL a r)) S
  |_=>.bad
 |_=>.bad
noncomputable def Vd:List D->M D:=λb S=>match b with
 |[.int i,.int j]=>.ok (.int (if j>i then j else i)) S
 |[.lst n]=>match (ZL S n).bind Wb with
  |some (a::r)=>.ok (.int (SK a r)) S
  |_=>.bad
 |_=>.bad
theorem tS(g:X.calm=Z7):Wu X.K (Yz X (.builtin "min")) Wa:=by
 intro w S d A H J B Q e f i h;unfold Wa at e;split at e
 .cases e;obtain⟨v,u,rfl,c,k⟩:=i.two;subst c k;exact⟨_,A1 g,_,_,rfl,h.self f XH⟩
 .split at e
  .rename_i b r n;cases e;obtain⟨x,l,o⟩:=qA2.mp n;obtain⟨v,rfl,c⟩:=i.one;unfold RV at c;obtain⟨a,rfl,j⟩:=c;obtain⟨y,q,p⟩:=f.sq j l;have z:=Uv o p;subst z;refine⟨_,vt g,a,b::r,rfl,q,by simp,λM m t=>?_⟩;have s:=K0 b r;rw[qO6 (t _ s.1) (s.2 _ m)];exact h.self f XH
  .cases e
 .cases e
theorem tR(g:X.calm=Z7):Wu X.K (Yz X (.builtin "max")) Vd:=by
 intro w S d A H J B Q e f i h;unfold Vd at e;split at e
 .cases e;obtain⟨v,u,rfl,c,k⟩:=i.two;subst c k;exact⟨_,A2 g,_,_,rfl,h.self f XH⟩
 .split at e
  .rename_i b r n;cases e;obtain⟨x,l,o⟩:=qA2.mp n;obtain⟨v,rfl,c⟩:=i.one;unfold RV at c;obtain⟨a,rfl,j⟩:=c;obtain⟨y,q,p⟩:=f.sq j l;have z:=Uv o p;subst z;refine⟨_,vr g,a,b::r,rfl,q,by simp,λM m t=>?_⟩;have s:=KZ b r;rw[qO6 (s.2 _ m) (t _ s.1)];exact h.self f XH
  .cases e
 .cases e
noncomputable def W7:List D->M D:=λb S=>match b with
 |[.tup a]=>.ok (.tup a) S
 |[.lst n]=>match ZL S n with
  |some a=>.ok (.tup a) S
  |none=>.bad
 |_=>.bad
theorem tQ:Wu X.K (Yz X (.type "tuple")) W7:=by
 intro n S d t H J s Q e b f h;unfold W7 at e;split at e
 .cases e;obtain⟨v,rfl,r⟩:=f.one;have j:=r;obtain⟨p,c,rfl,q,g⟩:=j;exact⟨_,Hn,p,c,rfl,.inr ⟨Zg.of q,h.self b r⟩⟩
 .split at e
  .rename_i o k;cases e;obtain⟨v,rfl,r⟩:=f.one;obtain⟨a,rfl,i⟩:=r;obtain⟨c,q,g⟩:=b.sq i k;exact⟨_,Hn,a,c,rfl,.inl ⟨q,λl m=>h.newT b m g⟩⟩
  .cases e
 .cases e
noncomputable def VC:List D->M D:=λa S=>match a with
 |[.int i]=>.ok (.int i) S
 |[.bl b]=>.ok (.int (if b then 1 else 0)) S
 |_=>.bad
theorem tP:Wu X.K (Yz X (.type "int")) VC:=by
 intro f S d g H J c Q e b a h;unfold VC at e;split at e
 .cases e;obtain⟨v,rfl,r⟩:=a.one;subst r;exact⟨_,HC,.inl ⟨_,rfl,h.self b XH⟩⟩
 .cases e;obtain⟨v,rfl,r⟩:=a.one;subst r;exact⟨_,HC,.inr ⟨_,rfl,h.self b XH⟩⟩
 .cases e
noncomputable def KY(S:ZX)(n:Nat):Option String:=match S[n]? with
 |some (.dk _)=>Z9 "dict"
 |_=>Z8
noncomputable def FS(S:ZX):D->Option String
 |.non=>Z9 "NoneType"
 |.bl _=>Z9 "bool"
 |.int _=>Z9 "int"
 |.str _=>Z9 "str"
 |.tup _=>Z9 "tuple"
 |.lst n=>if(ZL S n).isSome then Z9 "list" else Z8
 |.dct n=>KY S n
 |_=>Z8
noncomputable def Yl:List D->M D:=λa S=>match a with
 |[x,.ty T]=>match FS S x with
  |some t=>if T∈["bool","int","tuple","list","str","dict"]then .ok (.bl (LD t T)) S else .bad
  |none=>.bad
 |_=>.bad
theorem tO{K:yQ}{H:Hp}{J:yC}{S:ZX}{x:D}{v:V}{t:String}(d:SR K J S H)(e:FS S x=Z9 t)(r:RV K H J x v):UY K H v t/\t∈["NoneType","bool","int","str","tuple","list","dict"]:=by
 cases x with
 |non=>cases e;subst r;exact⟨.non,by decide⟩
 |bl b=>cases e;subst r;exact⟨.bl b,by decide⟩
 |int i=>cases e;subst r;exact⟨.int i,by decide⟩
 |str i=>cases e;subst r;exact⟨.str i,by decide⟩
 |tup g=>cases e;obtain⟨p,k,rfl,q,_⟩:=r;exact⟨.tup (Zg.of q),by decide⟩
 |lst n =>
  have e:(if(ZL S n).isSome then Z9 "list" else Z8)=Z9 t:=e;split at e
  .rename_i j;cases e;obtain⟨g,h⟩:=qI6.mp j;obtain⟨a,rfl,c⟩:=r;obtain⟨k,q,_⟩:=d.sq c h;exact⟨.lst q,by decide⟩
  .cases e
 |dct n =>
  have e:KY S n=Z9 t:=e;unfold KY at e;split at e
  .rename_i l m;cases e;obtain⟨a,rfl,c⟩:=r;obtain⟨o,f,_⟩:=d.get c m;exact⟨.dk f,by decide⟩
  .cases e
 |ty n=>cases e
 |rol n=>cases e
 |xc _=>cases e
theorem tN:Wu X.K (Yz X (.builtin "isinstance")) Yl:=by
 intro k S d l H J m Q e a c h;unfold Yl at e;split at e
 .rename_i x T;split at e
  .rename_i t i;split at e
   .rename_i g;cases e;obtain⟨v,u,rfl,f,b⟩:=c.two;subst b;obtain⟨j,k2⟩:=tO a i f;exact⟨_,za,v,t,T,_,rfl,j,y0 X.K t k2 T g,h.self a WX⟩
   .cases e
  .cases e
 .cases e
noncomputable def TX:List D->Option (List Bool)
 |[]=>Z9 []
 |.bl b::r=>(TX r).map (b::·)
 |_::_=>Z8
theorem FR{K:yQ}{H:Hp}{J:yC}:∀{ds:List D}{ns:List Bool}{vs:List V},TX ds=Z9 ns->RVs K H J ds vs->vs=ns.map V.bl
 |[],ns,vs,e,r=>by cases e;rw[r.nil_inv];rfl
 |.bl i::ds,ns,vs,e,r=>by
  obtain⟨v,c,rfl,a,b⟩:=r.cons_inv;unfold TX at e;cases q:TX ds with
  |none=>rw[q]at e;cases e
  |some d =>
   rw[q]at e;cases e;subst a;rw[FR q b];rfl
 |.non::ds,ns,vs,e,r=>by cases e
 |.int _::ds,ns,vs,e,r=>by cases e
 |.str _::ds,ns,vs,e,r=>by cases e
 |.ty _::ds,ns,vs,e,r=>by cases e
 |.tup _::ds,ns,vs,e,r=>by cases e
 |.lst _::ds,ns,vs,e,r=>by cases e
 |.dct _::ds,ns,vs,e,r=>by cases e
 |.rol _::ds,ns,vs,e,r=>by cases e
 |.xc _::ds,ns,vs,e,r=>by cases e
noncomputable def WL(g:List Bool->Bool):List D->M D:=λb S=>match b with
 |[.tup ys]=>match Wb ys with
  |some a=>.ok (.bl (g (a.map (· != 0)))) S
  |none=>.bad
 |[.lst n]=>match (ZL S n).bind TX with
  |some bs=>.ok (.bl (g bs)) S
  |none=>.bad
 |_=>.bad
theorem FQ{id:String}{g:List Bool->Bool}(o:Ys X (.builtin id) (λc H Q=>∃(p:yR) (bs:List Bool),c=[.ref p]/\YA X.K H p (bs.map V.bl)/\Q (.bl (g bs)) H))(k:Ys X (.builtin id) (λc H Q=>∃(p:yR) (b:yA),c=[.ref p]/\Zg X.K H p (b.map V.int)/\Q (.bl (g (b.map (· != 0)))) H)):Wu X.K (Yz X (.builtin id)) (WL g):=by
 intro u S d x H J c Q e f l h;unfold WL at e;split at e
 .split at e
  .rename_i b i;cases e;obtain⟨v,rfl,r⟩:=l.one;obtain⟨a,s,rfl,q,j⟩:=r;have z:=Uv i j;subst z;exact⟨_,k,a,b,rfl,Zg.of q,h.self f WX⟩
  .cases e
 .split at e
  .rename_i bs i;cases e;obtain⟨w,n,t⟩:=qA2.mp i;obtain⟨v,rfl,r⟩:=l.one;obtain⟨a,rfl,m⟩:=r;obtain⟨s,q,j⟩:=f.sq m n;have z:=FR t j;subst z;exact⟨_,o,a,bs,rfl,q,h.self f WX⟩
  .cases e
 .cases e
theorem Ys.imp{f:yU}{r r':List V->Hp->VK->Prop}(h:Ys X f r)(w:∀b H Q,r' b H Q->r b H Q):Ys X f r':=λa s Z H e d Q I c q=>h a s Z H e d Q I c (w _ _ _ q)
theorem tM(b:X.calm=Z7):Wu X.K (Yz X (.builtin "all")) (WL λbs=>bs.all id):=FQ (zE b) ((xV b).imp λf H Q ⟨p,c,d,e,a⟩=>⟨p,c,d,e,by rw[qQ4]at a;exact a⟩)
theorem tL(b:X.calm=Z7):Wu X.K (Yz X (.builtin "any")) (WL λbs=>bs.any id):=FQ (zD b) ((xU b).imp λf H Q ⟨p,c,d,e,a⟩=>⟨p,c,d,e,by rw[qQ5]at a;exact a⟩)
noncomputable def V9(a:Int):yA->yA
 |[]=>[a]
 |b::r=>if a<=b then a::b::r else b::V9 a r
noncomputable def V8:yA->yA
 |[]=>[]
 |a::r=>V9 a (V8 r)
theorem KW(a:Int):∀l,(V9 a l).Perm (a::l)
 |[]=>.refl _
 |b::r=>by
  unfold V9;split
  .exact .refl _
  .exact((KW a r).cons b).trans (.swap _ _ _)
theorem KU:∀l,(V8 l).Perm l
 |[]=>.refl _
 |a::r=>(KW a _).trans ((KU r).cons a)
theorem FP(a:Int):∀l:yA,l.Pairwise (·<=·)->(V9 a l).Pairwise (·<=·)
 |[],_=>by simp[V9]
 |b::r,h=>by
  have f:=qK2.mp h;unfold V9;split
  .rename_i d;refine qK2.mpr ⟨λc e=>?_,h⟩;rcases qA9.mp e with rfl|e
   .exact d
   .exact qQ9 d (f.1 c e)
  .rename_i d;refine qK2.mpr ⟨λc e=>?_,FP a r f.2⟩;rcases qA9.mp ((KW a r).mem_iff.mp e)with rfl|e
   .omega
   .exact f.1 c e
theorem KS:∀l:yA,(V8 l).Pairwise (·<=·)
 |[]=>.nil
 |a::r=>FP a _ (KS r)
theorem NZ{l m:yA}(h:m.Perm l)(s:m.Pairwise (·<=·)):m=V8 l :=
 (h.trans (KU l).symm).eq_of_pairwise (λa b _ _ c d=>qO6 c d) s (KS l)
noncomputable def SJ:List (ZJ×D)->Option (yA)
 |[]=>Z9 []
 |(.inl n,_)::r=>(SJ r).map (n::·)
 |_::_=>Z8
theorem Qh:∀{kvs:List (ZJ×D)}{ns:yA},SJ kvs=Z9 ns->kvs.map (·.1)=ns.map Sum.inl
 |[],ns,e=>by cases e;rfl
 |(.inl n,d)::r,ns,e=>by obtain⟨c,a,b⟩:=qA5.mp e;subst b;simp[Qh a]
 |(.inr x,d)::r,ns,e=>by cases e
noncomputable def TV:List D->M D:=λc S=>match c with
 |[.dct n]=>match S[n]? with
  |some (.dk a)=>match SJ a with
   |some b=>.ok (.lst S.length) (S++[.lst (b.map D.int)])
   |none=>.bad
  |some (.fk a)=>match SJ a with
   |some b=>.ok (.lst S.length) (S++[.lst (b.map D.int)])
   |none=>.bad
  |_=>.bad
 |[x]=>match SM S x with
  |some d=>.ok (.lst S.length) (S++[.lst d])
  |none=>.bad
 |_=>.bad
theorem tK(q:X.calm=Z7):Wu X.K (Yz X (.type "list")) TV:=by
 intro x S d z H J t Q e b s h;unfold TV at e;split at e
 .obtain⟨v,rfl,r⟩:=s.one;unfold RV at r;obtain⟨a,rfl,p⟩:=r;split at e
  .rename_i m n;split at e
   .rename_i j i;cases e;obtain⟨k,g,c⟩:=b.get p n;exact⟨_,Gj q,a,k,j,rfl,.inl g,by rw[<- c.1];exact Qh i,λl f=>h.newL b f RVs.ints⟩
   .cases e
  .rename_i m n;split at e
   .rename_i j i;cases e;obtain⟨o,k,g,c⟩:=b.get p n;exact⟨_,Gj q,a,k,j,rfl,.inr ⟨o,g⟩,by rw[<- c.1];exact Qh i,λl f=>h.newL b f RVs.ints⟩
   .cases e
  .cases e
 .split at e
  .rename_i y w;cases e;obtain⟨v,rfl,r⟩:=s.one;obtain⟨a,t,rfl,u,c⟩:=b.seq r w;exact⟨_,An,a,t,rfl,u,λl f=>h.newL b f c⟩
  .cases e
 .cases e
noncomputable def WC:List D->M D:=λc S=>match c with
 |[.lst n]=>match (ZL S n).bind Wb with
  |some a=>if a.length<64 then .ok (.lst S.length) (S++[.lst ((V8 a).map D.int)])else if a.length<=5000 then .ok (.lst S.length) (S++[.lst ((V8 a).map D.int)])else .bad
  |none=>.bad
 |[.dct n]=>match S[n]? with
  |some (.dk b)=>match SJ b with
   |some a=>if a.length<64 then .ok (.lst S.length) (S++[.lst ((V8 a).map D.int)])else if a.length<=5000 then .ok (.lst S.length) (S++[.lst ((V8 a).map D.int)])else .bad
   |none=>.bad
  |_=>.bad
 |_=>.bad
theorem tJ(t:X.calm=Z7)(B:X.A.units+64<wK):Wu X.K (Yz X (.builtin "sorted")) WC:=by
 intro A S d D H J C Q e c p h;unfold WC at e;split at e
 .split at e
  .rename_i m o;split at e
   .rename_i b;cases e;obtain⟨x,k,u⟩:=qA2.mp o;obtain⟨v,rfl,r⟩:=p.one;obtain⟨a,rfl,f⟩:=r;obtain⟨n,q,j⟩:=c.sq f k;have z:=Uv u j;subst z;refine⟨_,xX,a,m,rfl,q,b,λl w b g i=>?_⟩;rw[NZ g i];exact h.newL c b RVs.ints
   .split at e
    .rename_i b;cases e;obtain⟨x,k,u⟩:=qA2.mp o;obtain⟨v,rfl,r⟩:=p.one;unfold RV at r;obtain⟨a,rfl,f⟩:=r;obtain⟨n,q,j⟩:=c.sq f k;have z:=Uv u j;subst z;refine⟨_,vq t,a,m,rfl,q,b,λl w b g i=>?_⟩;rw[NZ g i];exact h.newL c b RVs.ints
    .cases e
  .cases e
 .split at e
  .rename_i y o;split at e
   .rename_i m k;split at e
    .rename_i b;cases e;obtain⟨v,rfl,r⟩:=p.one;unfold RV at r;obtain⟨a,rfl,f⟩:=r;obtain⟨n,s,j⟩:=c.get f o;refine⟨_,xP t,a,n,m,rfl,s,by rw[<- j.1];exact Qh k,b,λl w b g i=>?_⟩;rw[NZ g i];exact h.newL c b RVs.ints
    .split at e
     .rename_i b;cases e;obtain⟨v,rfl,r⟩:=p.one;unfold RV at r;obtain⟨a,rfl,f⟩:=r;obtain⟨n,s,j⟩:=c.get f o;refine⟨_,vu t,a,n,m,rfl,s,by rw[<- j.1];exact Qh k,b,λl w b g i=>?_⟩;rw[NZ g i];exact h.newL c b RVs.ints
     .cases e
   .cases e
  .cases e
 .cases e
noncomputable def WV:List D->M D:=λb S=>match b with
 |[.lst n]=>match (ZL S n).bind Wb with
  |some a=>if(a.all λi=>decide (0<=i)&&decide (i<=1000000))=Z7/\a.length<=1000000 then .ok (.int a.sum) S else .bad
  |none=>.bad
 |_=>.bad
theorem tI(g:X.calm=Z7):Wu X.K (Yz X (.builtin "sum")) WV:=by
 intro s S d x H J w Q e b j h;unfold WV at e;split at e
 .split at e
  .rename_i k m;split at e
   .rename_i c;cases e;obtain⟨t,i,o⟩:=qA2.mp m;obtain⟨v,rfl,r⟩:=j.one;obtain⟨a,rfl,f⟩:=r;obtain⟨u,q,p⟩:=b.sq f i;have z:=Uv o p;subst z;refine⟨_,xW g,a,k,rfl,q,λn l=>?_,c.2,h.self b XH⟩;have:=qD2.mp c.1 n l;simpa using this
   .cases e
  .cases e
 .cases e
def SI(K:yQ)(T:String)(r:V->List V->Hp->VK->Prop)(o:D->List D->M D):Prop:=∀x b S d c H J v a Q,o x b S=.ok d c->SR K J S H->RV K H J x v->RVs K H J b a->Yc K J H d c Q->r v a H Q
noncomputable def Yk(T:String)(x:D)(S:ZX):Bool:=match x with
 |.lst n=>decide (T = "list")&&(ZL S n).isSome
 |.dct n=>decide (T = "dict")&&(match S[n]? with|some (.dk _)=>Z7|some (.dt _)=>Z7|_=>Z5)
 |.int _=>decide (T = "int")
 |.str _=>decide (T = "str")
 |_=>Z5
theorem FO{K:yQ}{H:Hp}{J:yC}{S:ZX}{T:String}{x:D}{v:V}(e:SR K J S H)(h:Yk T x S=Z7)(r:RV K H J x v):OA K T v H:=by
 unfold Yk at h;split at h
 .simp only[qC5,decide_eq_true_eq]at h;obtain⟨c,d⟩:=h;obtain⟨l,j⟩:=qI6.mp d;obtain⟨a,rfl,b⟩:=r;obtain⟨k,q,_⟩:=e.sq b j;exact .inl ⟨c,k,q⟩
 .simp only[qC5,decide_eq_true_eq]at h;obtain⟨c,d⟩:=h;obtain⟨a,rfl,b⟩:=r;split at d
  .rename_i g i;obtain⟨f,q,_⟩:=e.get b i;exact .inr (.inr (.inl ⟨c,.inl ⟨f,q⟩⟩))
  .rename_i g i;obtain⟨f,q,_⟩:=e.get b i;exact .inr (.inr (.inl ⟨c,.inr ⟨f,q⟩⟩))
  .cases d
 .subst r;exact(of_decide_eq_true h:T = "int")
 .subst r;exact(of_decide_eq_true h:T = "str")
 .cases h
noncomputable def Wt(T:String)(o:D->List D->M D)(a:C)(c:CA):C:=fun B=>YT (a B) λx S=>if Yk T x S then YT (c B) (λb=>o x b) S else .bad
variable {o e:yZ}{es:yE}{co:C}{ca:CA}{name:Str}{apos cpos:Pos}{T id:String}{m:D->List D->M D}
theorem KR(L:mS T)(i:Slot T name id)(l:dM (.builtin id)=pure (.type "method_descriptor"))(hm:SI X.K T (Uy X id) m)(K:PE X o (Zz X.K co))(I:PA X (e::es) (YH X.K ca))
  (c:wM o name X.env (vO o X.env)=vO o X.env)
  (g:((wO cpos (jG (e::es) X.env)).all (λx=>!x.1)&&(backToKw cpos (lU [] X.env)).all (λx=>x.1.isSome)
   && decide ((e::es).length+([]:List lE).length+(if([]:List lE).isEmpty then 0 else 1)<30))=Z7)
  (f:(apos.endLine == cpos.line)=Z7) (E:jG (e::es) X.env=(Z5,vO e X.env)::jG es X.env) (a:(wO cpos (jG es X.env)).any (·.1)=Z5) :
  PE X (.Call (.Attribute o name apos) (e::es) [] cpos) (Zz X.K (Wt T m co ca)):=(Ak L i l F9 K I c g f E a).weak (by
 rintro Z H Q ⟨J,B,S,d,O,z,n,e,y⟩;obtain⟨x,s,G,e⟩:=Y8 e;split at e
 .rename_i hk;obtain⟨p,r,w,e⟩:=Y8 e;refine⟨J,B,S,x,s,z,n,G,λv P N k j q=>⟨FO k hk q,N,B,s,p,r,k,n.up j,w,λF t A h b u=>?_⟩⟩;exact hm x p r d O t A v F Q e h (RV.up b.tk b.ext _ _ q) u (y.shift (j.trans b h.nd))
 .cases e)
noncomputable def NY(T:String)(o:D->List D->M D)(a:C):C:=fun B=>YT (a B) λx S=>if Yk T x S then o x [] S else .bad
theorem tH(r:mS T)(c:Slot T name id)(g:dM (.builtin id)=pure (.type "method_descriptor"))(hm:SI X.K T (Uy X id) m)(q:PE X o (Zz X.K co))
  (a:wM o name X.env (vO o X.env)=vO o X.env) (b:(apos.endLine == cpos.line)=Z7):PE X (.Call (.Attribute o name apos) [] [] cpos) (Zz X.K (NY T m co)):=(Al r c g F9 q a b).weak (by
 rintro Z H Q ⟨J,B,S,d,t,l,k,e,y⟩;obtain⟨x,j,p,e⟩:=Y8 e;split at e
 .rename_i hk;exact⟨J,B,S,x,j,l,k,p,λv n s f h i=>⟨FO f hk i,hm x [] j d t n s v [] Q e f i RVs.nil (y.shift h)⟩⟩
 .cases e)
noncomputable def X3(g:List D->List D->Option (List D×D)):D->List D->M D:=λx a S=>match x with
 |.lst n=>match S[n]? with
  |some (.lst c)=>match g c a with
   |some (b,d)=>.ok d (S.set n (.lst b))
   |none=>.bad
  |_=>.bad
 |_=>.bad
theorem SR.putL{K:yQ}{H:Hp}{J:yC}{S:ZX}{n:Nat}{p:yR}{d a:List V}{c:List D}(g:SR K J S H)(f:J[n]?=Z9 p)(b:H p=Z9 (.lst d))(r:RVs K H J c a):SR K J (S.set n (.lst c)) (ZD H p (.lst a))/\ZM K J J H (ZD H p (.lst a)) :=
 g.put f b (λ_ z=>by cases z) (λ_ _ z=>by cases z) ⟨a,XA,RVs.up (N6 b) ⟨[],by simp⟩ _ _ r⟩
theorem FN{g:List D->List D->Option (List D×D)}
  (h:∀(K:yQ) H J ys xs c d a b,g ys xs=Z9 (c,d)->RVs K H J ys a->RVs K H J xs b->∃f w,RVs K H J c f/\RV K H J d w/\∀(p:yR) (Q:VK),H p=Z9 (.lst a)->Q w (ZD H p (.lst f))->Uy X id (.ref p) b H Q):SI X.K "list" (Uy X id) (X3 g):=by
 intro x xs S d E H J v b Q e k s rs y;unfold X3 at e;split at e
 .rename_i n;split at e
  .rename_i ys z;split at e
   .rename_i c B A;cases e;obtain⟨p,rfl,j⟩:=s;obtain⟨a,l,u⟩:=k.lst j z;obtain⟨f,w,t,q,fin⟩:=h X.K H J ys xs c d a b A u rs;obtain⟨r,i⟩:=k.putL j l t;exact fin p Q l (y w _ J r i (RV.up i.tk i.ext _ _ q))
   .cases e
  .cases e
 .cases e
noncomputable def XU:List D->List D->Option (List D×D):=λa b=>match b with
 |[x]=>if a.length<lim then Z9 (a++[x],.non)else Z8
 |_=>Z8
theorem tG:SI X.K "list" (Uy X "list.append") (X3 XU):=FN λK H J l j k d a i e b g=>by
 unfold XU at e;split at e
 .split at e
  .rename_i h;cases e;obtain⟨v,rfl,c⟩:=g.one;exact⟨a++[v],.non,b.append (.cons c .nil),Uw,λp Q f q=>⟨_,Hk,p,a,v,rfl,rfl,f,by rw[<- b.len];exact K4 h,q⟩⟩
  .cases e
 .cases e
noncomputable def NX:List D->List D->Option (List D×D):=λa b=>match b with
 |[.int i,x]=>if a.length<1000/\0<=i/\i.toNat<=a.length then Z9 (a.take i.toNat++x::a.drop i.toNat,.non)else Z8
 |_=>Z8
theorem tF:SI X.K "list" (Uy X "list.insert") (X3 NX):=FN λK H J s r y d b w e a f=>by
 unfold NX at e;split at e
 .rename_i i x;split at e
  .rename_i l;cases e;obtain⟨h,t,n⟩:=l;obtain⟨v,u,rfl,j,c⟩:=f.two;subst j;have k:i=(i.toNat:Int):=by omega
   exact⟨b.take i.toNat++u::b.drop i.toNat,.non,(a.take _).append (.cons c (a.drop _)),Uw,λp Q g q=>⟨_,zF,p,b,i.toNat,u,rfl,by rw[<- k],g,by rw[<- a.len];exact h,by rw[<- a.len];exact n,q⟩⟩
  .cases e
 .cases e
theorem RVs.dropLast{K:yQ}{H:Hp}{J:yC}{ds:List D}{a:List V}(r:RVs K H J ds a):RVs K H J ds.dropLast a.dropLast:=by rw[qO9,qO9,r.len];exact r.take _
noncomputable def Qg:D->List D->M D:=λx a S=>match x,a with
 |.int i,[]=>.ok (.int ((Builtin.Int.intBits i:Nat):Int)) S
 |_,_=>.bad
theorem tE:SI X.K "int" (Uy X "int.bit_length") Qg:=by
 intro x f S d g H J v c Q e b a rs y;unfold Qg at e;split at e
 .cases e;subst a;exact⟨_,xT,_,rfl,rs.nil_inv,y.self b XH⟩
 .cases e
theorem YU.merge{K:yQ}{H:Hp}{J:yC}:∀{more:List (ZJ×D)}{ws:List (ZJ×V)}{kvs:List (ZJ×D)}{us:List (ZJ×V)},YU K H J more ws->YU K H J kvs us->YU K H J (YJ kvs more) (VY us ws)
 |[],ws,kvs,us,h,g=>by
  have:ws=[]:=by have:=h.1;cases ws with|nil=>rfl|cons a b=>simp at this
  subst this;exact g
 |p::more,ws,kvs,us,h,g=>by obtain⟨q,c,rfl,d,f,i⟩:=h.cons_inv;show YU K H J (YJ (Yx kvs p.1 p.2) more) (VY (YK us q.1 q.2) c);rw[<- d];exact YU.merge i (g.put f)
noncomputable def Zt(S:ZX)(n:Nat):Option (List (ZJ×D)):=match S[n]? with
 |some (.dk a)=>Z9 a
 |some (.fk a)=>Z9 a
 |_=>Z8
theorem tD{K:yQ}{H:Hp}{J:yC}{S:ZX}{n:Nat}{a:yR}{kvs:List (ZJ×D)}(f:SR K J S H)(e:Zt S n=Z9 kvs)(hm:J[n]?=Z9 a):∃ws,Rd H a (.dK ws)/\YU K H J kvs ws:=by
 unfold Zt at e;split at e
 .rename_i d;cases e;obtain⟨ws,b,c⟩:=f.get hm d;exact⟨ws,.inl b,c⟩
 .rename_i d;cases e;obtain⟨o,ws,b,c⟩:=f.get hm d;exact⟨ws,.inr ⟨o,b⟩,c⟩
 .cases e
noncomputable def W6:D->List D->M D:=λx b S=>match x,b with
 |.dct n,[.dct m]=>match S[n]?,Zt S m with
  |some (.dk a),Z9 more=>if n≠m/\a.length+more.length<=lim then .ok .non (S.set n (.dk (YJ a more)))else .bad
  |_,_=>.bad
 |_,_=>.bad
theorem tB:SI X.K "dict" (Uy X "dict.update") W6:=by
 intro x G S d K H J v I Q e g A rs y;unfold W6 at e;split at e
 .rename_i n m;split at e
  .rename_i i more F hk;split at e
   .rename_i r;cases e;obtain⟨a,rfl,f⟩:=A;obtain⟨u,rfl,t⟩:=rs.one;obtain⟨b,rfl,l⟩:=t;obtain⟨p,h,q⟩:=g.get f F;obtain⟨s,k,c⟩:=tD g hk l;have j:a≠b:=λz=>by subst z;exact r.1 ((qK9 (qA1.mp f).1 g.nd).mp (f.trans l.symm))
    have E:TF X.K H (ZD H a (.dK (VY p s))):=RG h (λ_ z=>by cases z) (λ_ _ z=>by cases z);obtain⟨w,B⟩:=g.put (o':=.dk (YJ i more)) f h (λ_ z=>by cases z) (λ_ _ z=>by cases z) ⟨_,XA,(c.merge q).up E ⟨[],by simp⟩⟩;exact⟨_,wh,a,b,p,s,rfl,rfl,j,h,k,by rw[<- q.len,<- c.len];exact Rz r.2,y _ _ J w B Uw⟩
   .cases e
  .cases e
 .cases e
noncomputable def WB:List D->Option (List (ZJ×D))
 |[]=>Z9 []
 |.tup [k,v]::r=>match Vp k,WB r with
  |some q,Z9 a=>Z9 ((q,v)::a)
  |_,_=>Z8
 |_=>Z8
theorem FM{K:yQ}{H:Hp}{J:yC}:∀{ds:List D}{ps:List (ZJ×D)}{vs:List V},WB ds=Z9 ps->RVs K H J ds vs->∃c,Lm H vs c/\YU K H J ps c
 |[],ps,vs,e,r=>by cases e;rw[r.nil_inv];exact⟨[],.nil,.nil⟩
 |d::ds,ps,vs,e,r=>by
  obtain⟨v,y,rfl,n,i⟩:=r.cons_inv;unfold WB at e;split at e
  .rename_i q;cases q
  .rename_i k x w q;cases q;split at e
   .rename_i q g s h;cases e;obtain⟨c,a,b⟩:=FM h i;obtain⟨p,z,rfl,f,t⟩:=n;obtain⟨A,l,rfl,j,u⟩:=t.two;rw[Qi s j]at f;exact⟨(q,l)::c,.cons ⟨p,rfl,f⟩ a,YU.cons u b⟩
   .cases e
  .cases e
noncomputable def Vc:List D->M D:=λb S=>match b with
 |[.lst n]=>match S[n]? with
  |some (.lst a)=>match WB a with
   |some c=>if a.length<=lim then .ok (.dct S.length) (S++[.dk (YJ [] c)])else .bad
   |none=>.bad
  |_=>.bad
 |_=>.bad
theorem tw(i:X.calm=Z7):Wu X.K (Yz X (.type "dict")) Vc:=by
 intro A S d F H J E Q e b s h;unfold Vc at e;split at e
 .split at e
  .rename_i B w;split at e
   .rename_i k j;split at e
    .rename_i y;cases e;obtain⟨v,rfl,r⟩:=s.one;obtain⟨a,rfl,g⟩:=r;obtain⟨x,u,f⟩:=b.get g w;obtain⟨q,l,z⟩:=FM j f;refine⟨_,vy i,a,x,q,rfl,u,l,by rw[<- f.len];exact Rz y,λp c=>?_⟩;obtain⟨n,t⟩:=b.push (o':=.dk (YJ [] k)) c ⟨_,XA,(z.merge YU.nil).up (RF c) ⟨[p],rfl⟩⟩;exact h _ _ _ n t (by exact⟨p,rfl,by rw[<- b.len,qA0 (qA7 _)];simp⟩)
    .cases e
   .cases e
  .cases e
 .cases e
noncomputable def Ya:D->D->D->ZX->Option ZX:=λx i v S=>match x with
 |.lst n=>match S[n]?,i with
  |some (.lst b),.int k=>match Wn b.length k with
   |some j=>Z9 (S.set n (.lst (b.set j v)))
   |none=>Z8
  |_,_=>Z8
 |.dct n=>match S[n]?,Vp i with
  |some (.dk a),Z9 k=>if a.length<lim then Z9 (S.set n (.dk (Yx a k v)))else Z8
  |_,_=>Z8
 |_=>Z8
theorem tu(k:X.A.units+1<wK):Vk X (λo i v H Q=>∃a b,o=.ref a/\Vi H a i v b/\Q b):=by intro c s Z H o i v f p u Q I n l d h;obtain⟨a,b,rfl,g,q⟩:=h;obtain rfl:f=Value.ref a:=n;exact Aa k I g l d λr j=>⟨b,j,q⟩
theorem tp(F:X.A.units+1<wK){x i v:D}{S A:ZX}{H:Hp}{J:yC}{t u h:V}{Q:Hp->Prop}(e:Ya x i v S=Z9 A)(d:SR X.K J S H)(s:RV X.K H J x t)(w:RV X.K H J i u)(r:RV X.K H J v h)(y:∀q ,SR X.K J A q->ZM X.K J J H q->Q q):F8 X t u h H Q:=by
 unfold Ya at e;split at e
 .split at e
  .rename_i L k n;split at e
   .rename_i j B;cases e;obtain⟨p,rfl,b⟩:=s;subst w;obtain⟨G,a,c⟩:=d.lst b n;obtain⟨f,g⟩:=d.putL b a (c.set r j);exact⟨_,Ax,p,G,k,j,rfl,rfl,a,by rw[<- c.len];exact B,y _ f g⟩
   .cases e
  .cases e
 .split at e
  .rename_i l k n hk;split at e
   .rename_i K;cases e;obtain⟨p,rfl,b⟩:=s;obtain⟨E,a,c⟩:=d.get b n;have z:=Qi hk w;subst z;have I:TF X.K H (ZD H p (.dK (YK E k h))):=RG a (λ_ z=>by cases z) (λ_ _ z=>by cases z);obtain⟨f,g⟩:=d.put (o':=.dk (Yx l k v)) b a (λ_ z=>by cases z) (λ_ _ z=>by cases z) ⟨_,XA,(c.put r).up I ⟨[],by simp⟩⟩;exact⟨_,tu F,p,_,rfl,Vi.k a (by rw[<- c.len];exact K4 K),y _ f g⟩
   .cases e
  .cases e
 .cases e
end
inductive RS where
 |bad|nx (B:ZT) (S:ZX)| rt (d:D) (S:ZX)| bk (B:ZT) (S:ZX)| ct (B:ZT) (S:ZX)| er (c:Str) (S:ZX)
abbrev CS:=ZT->ZX->RS
noncomputable def EX(X:Cx):XK:=λC _ c=>(∀(a:yD) (Z:St) (H:Hp) (s:yS) (e T:yR) (b:yS),ZR X a Z H s->RH b.heap e T C->s.heap.get? e=Z8->s.heap.get? T=Z8->b.os=s.os->fR b.gens->Un (Xl X.stack) [] H c s.heap b.heap->Yt X.prog X.w c b.heap->c e=Z8->c T=Z8->X.xe (.ref e) b) /\
 ∀(a:yD) (Z:St) (s:yS) (d:jE) (e D:yR) (f:yB),C=.ref D->ZR X a Z c s->qS4 s.heap d e (.ref D) f->X.xe (.ref e) { s with heap:=d }
theorem KQ{X:Cx}:RW (W3 X.prog X.w) X (EX X):=by intro b Z H s m f I h;obtain⟨e,T,C,n,rfl,d,ne,i,j,a,un,c,l,g,k⟩:=h;exact k.1 b Z H s e T f I d ne i j a un c l g
theorem tm{X:Cx}:Lh X (EX X):=λa Z H s c e C b I d f=>f.2 a Z s c e C b rfl I d
theorem KP{X:Cx}{E:XK}(o:Wg X E){C:yU}{H':Hp}(h:E C Z8 H'):EX X C Z8 H':=by refine⟨λa Z H s e T f I d ne l m b un c p i=>vl o a Z H s _ f I ⟨e,T,C,H',rfl,d,ne,l,m,b,un,c,p,i,h⟩,λa Z s k e D j g I n=>?_⟩;subst g;exact vk o a Z H' s k e D j I n h
def Xr(X:Cx)(J:yC)(H:Hp)(c:Str)(d:ZX):Prop:=∀a b,SR X.K b d a->ZM X.K J b H a->∀C,X.mg c=Z9 (.ref C)->EX X (.ref C) Z8 a
theorem Xr.shift{X:Cx}{J a:yC}{H b:Hp}{c:Str}{S':ZX}(h:Xr X J H c S')(st:ZM X.K J a H b):Xr X a b c S':=λg f d e=>h g f d (st.trans e d.nd)
def UW(X:Cx)(J:yC)(H:Hp)(E:XF):RS->Prop
 |.bad=>False
 |.er c e=>Xr X J H c e
 |.nx g e=>∀f a b,SR X.K b e a->ZM X.K J b H a->RE X.K a b g f->E.nx f a
 |.bk g e=>∀f a b,SR X.K b e a->ZM X.K J b H a->RE X.K a b g f->E.bk f a
 |.ct g e=>∀f a b,SR X.K b e a->ZM X.K J b H a->RE X.K a b g f->E.ct f a
 |.rt d e=>Yc X.K J H d e E.rt
inductive Zl(X:Cx)(c:CS)(E:XF)(Z:St)(H:Hp):Prop
 |mk (J:yC) (B:ZT) (S:ZX) (sr:SR X.K J S H) (re:RE X.K H J B Z) (y:UW X J H E (c B S))
theorem UW.shift{X:Cx}{J j:yC}{H i:Hp}{E:XF}{r:RS}(h:UW X J H E r)(st:ZM X.K J j H i):UW X j i E r:=by
 cases r with
 |bad=>exact h
 |er _ _=>exact Xr.shift h st
 |nx B S=>exact fun f c g a e b=>h f c g a (st.trans e a.nd) b
 |bk B S=>exact fun f c g a e b=>h f c g a (st.trans e a.nd) b
 |ct B S=>exact fun f c g a e b=>h f c g a (st.trans e a.nd) b
 |rt d S=>exact Yc.shift h st
noncomputable def ZH:CS:=fun B S=>.nx B S
noncomputable def SH:CS:=fun B S=>.bk B S
noncomputable def SG:CS:=fun B S=>.ct B S
noncomputable def SF:CS:=λ_ _=>.bad
noncomputable def KO:CS:=λ_ S=>.rt .non S
noncomputable def ZF(c:C):CS:=fun B S=>match c B S with
 |.ok d a=>.rt d a
 |.bad=>.bad
 |.er _ _=>.bad
noncomputable def WK(c:C):CS:=fun B S=>match c B S with
 |.ok _ a=>.nx B a
 |.bad=>.bad
 |.er _ _=>.bad
noncomputable def ZV(a b:CS):CS:=fun B S=>match a B S with
 |.nx c d=>b c d
 |r=>r
noncomputable def X9(t:CT)(a b:CS):CS:=fun B S=>match t B S with
 |.ok k c=>if k then a B c else b B c
 |.bad=>.bad
 |.er _ _=>.bad
abbrev G:=D->ZT->M ZT
noncomputable def ZI(c:C)(g:G):CS:=fun B S=>match c B S with
 |.ok d e=>match g d B e with
  |.ok a b=>.nx a b
  |.bad=>.bad
  |.er _ _=>.bad
 |.bad=>.bad
 |.er _ _=>.bad
section
variable {X:Cx}{e a b tg:yZ}{ce ca cb:C}{pos:Pos}
theorem tj:PS X (.Pass pos) (Zl X ZH):=BW.weak λE Z H ⟨J,B,S,d,c,p⟩=>p Z H J d (ZM.refl _ _ _) c
theorem ti:PS X (.Break pos) (Zl X SH):=BV.weak λE Z H ⟨J,B,S,d,c,p⟩=>p Z H J d (ZM.refl _ _ _) c
theorem sZ:PS X (.Continue pos) (Zl X SG):=BU.weak λE Z H ⟨J,B,S,d,c,p⟩=>p Z H J d (ZM.refl _ _ _) c
theorem sY{st:vK}:PS X st (Zl X SF):=BM.weak λE Z H ⟨J,B,S,d,c,p⟩=>p
theorem sX:PS X (.Return Z8 pos) (Zl X KO):=BQ.weak λE Z H ⟨J,B,S,c,d,p⟩=>p _ H J c (ZM.refl _ _ _) Uw
theorem sW(he:PE X e (Zz X.K ce)):PS X (.Return (Z9 e) pos) (Zl X (ZF ce)):=(Mk he).weak (by
 rintro E Z H ⟨J,B,S,f,c,p⟩;unfold ZF at p;split at p
 .rename_i d g h;exact⟨J,B,S,d,g,f,c,h,p⟩
 .exact False.elim p
 .exact False.elim p)
theorem sV(he:PE X e (Zz X.K ce))(k:wS e Z8 pos.line X.env=pure Z5):PS X (.Expr e pos) (Zl X (WK ce)):=(HU he k).weak (by
 rintro E Z H ⟨J,B,S,i,g,p⟩;unfold WK at p;split at p
 .rename_i d m h;exact⟨J,B,S,d,m,i,g,h,λv j l f c n=>p Z j l f c (g.up c)⟩
 .exact False.elim p
 .exact False.elim p)
theorem sU:XE X [] (Zl X ZH):=OI.weak λE Z H ⟨J,B,S,d,c,p⟩=>p Z H J d (ZM.refl _ _ _) c
theorem sT{st:vK}{ZG:List vK}{c h:CS}(m:PS X st (Zl X c))(n:XE X ZG (Zl X h)):XE X (st::ZG) (Zl X (ZV c h)):=(Ua m n).weak (by
 rintro E Z H ⟨J,B,S,l,i,p⟩;refine⟨J,B,S,l,i,?_⟩;unfold ZV at p;revert p;cases c B S with
 |nx j o=>exact λp q r k g f d=>⟨k,j,o,g,d,p.shift f⟩
 |bad=>exact λp=>p
 |er _ _=>exact λp=>p
 |rt _ _=>exact λp=>p
 |bk _ _=>exact λp=>p
 | ct _ _=>exact λp=>p)
theorem sR{t:yZ}{l:CT}{n bs:List vK}{i j:CS}(ht:PT X t (YS X.K l))(q:XE X n (Zl X i))(r:XE X bs (Zl X j)):PS X (.If t n bs pos) (Zl X (X9 l i j)):=(BO ht q r).weak (by
 rintro E Z H ⟨J,B,S,o,f,p⟩;unfold X9 at p;split at p
 .rename_i k g h;refine⟨J,B,S,k,g,o,f,h,λs m d c=>?_⟩;cases k with
  |true=>rw[if_pos rfl]at p ⊢;exact⟨m,B,g,d,f.up c,p.shift c⟩
  |false=>rw[if_neg qB4]at p ⊢;exact⟨m,B,g,d,f.up c,p.shift c⟩
 .exact False.elim p
 .exact False.elim p)
inductive W5(K:yQ)(g:G)(v:V)(Z:St)(H:Hp)(Q:St->Hp->Prop):Prop
 |mk (J:yC) (B:ZT) (S:ZX) (d:D) (B':ZT) (S':ZX) (sr:SR K J S H) (re:RE K H J B Z) (rv:RV K H J d v) (e:g d B S=.ok B' S') (y:∀Z' H' J',SR K J' S' H'->ZM K J J' H H'->RE K H' J' B' Z'->Q Z' H')
theorem PG.weak{t t':TG}(h:PG X tg t)(w:∀v Z H Q,t' v Z H Q->t v Z H Q):PG X tg t':=λc s Z H v u Q I r q=>h c s Z H v u Q I r (w v Z H Q q)
noncomputable def gN(i:Nat):G:=λd B S=>.ok (B.set i (Z9 d)) S
theorem sQ{i:Nat}{x:Str}(h:PG X (.Name x pos) (UL i)):PG X (.Name x pos) (W5 X.K (gN i)):=h.weak (by
 rintro v Z H Q ⟨J,B,S,d,j,k,g,f,c,e,y⟩;unfold gN at e;cases e;exact y _ H J g (ZM.refl _ _ _) (f.set c i))
noncomputable def gS(c f:C):G:=λd B=>YT (c B) λo=>YT (f B) λi S=>match Ya o i d S with
 |some g=>.ok B g
 |none=>.bad
theorem sP(w:X.A.units+1<wK)(F:PE X a (Zz X.K ca))(hi:PE X b (Zz X.K cb))(E:∀v,fX (.Subscript a b pos) X.env v=(do
   let h <- wW [v] (vO a X.env)
   let l <- wW [v,h] (vO b X.env)
   mV pos
   wW [v,h,l] (dU h l v)
   release [v,h,l] [])):PG X (.Subscript a b pos) (W5 X.K (gS ca cb)):=(BL F hi uR E).weak (by
 rintro v Z H Q ⟨J,B,S,d,M,P,s,m,p,e,y⟩;obtain⟨x,o,D,e⟩:=Y8 e;obtain⟨z,I,r,e⟩:=Y8 e;split at e
 .rename_i N A;cases e;refine⟨J,B,S,x,o,s,m,D,λh O G n k u=>⟨G,B,o,z,I,n,m.up k,r,λl L t i g q=>?_⟩⟩;have c:=k.trans g i.nd;refine tp w A i (RV.up g.tk g.ext _ _ u) q (RV.up c.tk c.ext _ _ p) λK f j=>?_;exact y Z K t f (c.trans j f.nd) (m.up (c.trans j f.nd))
 .cases e)
noncomputable def TU:List G->List D->ZT->M ZT
 |[],[]=>fun B=>ret B
 |g::c,d::ds=>fun B=>YT (g d B) fun f=>TU c ds f
 |_,_=>λ_=>bad
noncomputable def gT(c:List G):G:=λd B=>match d with
 |.tup f=>TU c f B
 |_=>bad
inductive Qf(K:yQ)(gs:List G)(vs:List V)(Z:St)(H:Hp)(Q:St->Hp->Prop):Prop
 |mk (J:yC) (B:ZT) (S:ZX) (ds:List D) (B':ZT) (S':ZX) (sr:SR K J S H) (re:RE K H J B Z) (rv:RVs K H J ds vs) (e:TU gs ds B S=.ok B' S') (y:∀Z' H' J',SR K J' S' H'->ZM K J J' H H'->RE K H' J' B' Z'->Q Z' H')
theorem VL.weak{es:yE}{t t':UN}(h:VL X es t)(w:∀v Z H Q,t' v Z H Q->t v Z H Q):VL X es t':=λc s Z H v u Q I r q=>h c s Z H v u Q I r (w v Z H Q q)
theorem sO:VL X [] (Qf X.K []):=HR.weak (by
 rintro v Z H Q ⟨J,B,S,ds,h,i,g,f,c,e,y⟩;cases ds with
 |nil =>
  obtain⟨rfl,rfl⟩:=X4 e;exact⟨c.nil_inv,y Z H J g (ZM.refl _ _ _) f⟩
 | cons d ds=>cases e)
theorem sN{es:yE}{g:G}{m:List G}(E:PG X e (W5 X.K g))(F:VL X es (Qf X.K m))(D:(jP (e::es) X.env).map (·.2)=fX e X.env::(jP es X.env).map (·.2)):VL X (e::es) (Qf X.K (g::m)):=(HQ E F D).weak (by
 rintro v Z H Q ⟨J,B,S,ds,s,A,w,p,o,e,y⟩;cases ds with
 |nil=>cases e
 |cons d ds =>
  obtain⟨l,n,I,e⟩:=Y8 e;obtain⟨u,K,rfl,z,t⟩:=o.cons_inv;refine⟨u,K,rfl,J,B,S,d,l,n,w,p,z,I,fun N M L k c j=>?_⟩;exact⟨L,l,n,ds,s,A,k,j,RVs.up c.tk c.ext _ _ t,e,fun r q x f i h=>y r q x f (c.trans i f.nd) h⟩)
theorem sM{c:List G}:∀{ds:List D}{B f:ZT}{S h:ZX},TU c ds B S=.ok f h->ds.length=c.length:=by
 induction c with
 |nil=>intro ds B f S h e;cases ds with|nil=>rfl|cons _ _=>cases e
 |cons g c i =>
  intro ds B f S h e;cases ds with
  |nil=>cases e
  |cons d ds =>
   obtain⟨j,l,k,e⟩:=Y8 e;rw[qC3,qC3,i e]
theorem sL{es:yE}{k:Nat}{f:List G}(m:X.calm=Z7)(h:VL X es (Qf X.K f))(s:(jP es X.env).length=f.length)(c:(jP es X.env).findIdx? (·.1)=Z8):PG X (.Tuple es k pos) (W5 X.K (gT f)) :=
 (HP m h s c).weak (by
 rintro v Z H Q ⟨J,B,S,d,l,t,o,j,g,e,y⟩;unfold gT at e;split at e
 .rename_i n;unfold RV at g;obtain⟨p,r,rfl,q,i⟩:=g;exact⟨p,r,rfl,Zg.of q,by rw[<- i.len];exact sM e,J,B,S,n,l,t,o,j,i,e,y⟩
 .cases e)
theorem FL{g:G}(he:PE X e (Zz X.K ce))(z:PG X tg (W5 X.K g))(w:mL [tg] e pos.line X.env=pure Z5)(n:wE [tg] e X.env=pure Z8)(x:(jP [tg] X.env).map (·.2)=[fX tg X.env]):PS X (.Assign [tg] e pos) (Zl X (ZI ce g)):=(RZ he z w n x).weak (by
 rintro E Z H ⟨J,B,S,s,l,p⟩;unfold ZI at p;split at p
 .rename_i d m h;split at p
  .rename_i r D y;refine⟨J,B,S,d,m,s,l,h,λv F A k f u=>⟨A,B,m,d,r,D,k,l.up f,u,y,fun q o t c j i=>?_⟩⟩;exact p q o t c (f.trans j c.nd) i
  .exact False.elim p
  .exact False.elim p
 .exact False.elim p
 .exact False.elim p)
theorem sJ{i:Nat}{x:Str}{pos':Pos}(h:PS X (.Assign [.Name x pos'] e pos) (Wo (Zz X.K ce) (UL i))):PS X (.Assign [.Name x pos'] e pos) (Zl X (ZI ce (gN i))):=h.weak (by
 rintro E Z H ⟨J,B,S,k,g,p⟩;unfold ZI at p;split at p
 .rename_i d n h;exact⟨J,B,S,d,n,k,g,h,λv j m f c l=>p _ j m f c ((g.up c).set l i)⟩
 .exact False.elim p
 .exact False.elim p)
noncomputable def Ws:Nat->CT->CS->CS
 |0,_,_=>λ_ _=>.bad
 |k+1,t,b=>fun B S=>match t B S with
  |.ok Z7 f=>match b B f with
   |.nx c d=>Ws k t b c d
   |.ct c d=>Ws k t b c d
   |.bk c d=>.nx c d
   |r=>r
  |.ok Z5 f=>.nx B f
  |.bad=>.bad
  |.er _ _=>.bad
theorem sI{t:yZ}{ct:CT}{n:List vK}{cb:CS}(k:Nat)(N:fU (yW X.prog X.w) X.A X.env X.xe)(ht:PT X t (YS X.K ct))(M:XE X n (Zl X cb)):PS X (.While t n [] pos) (Zl X (Ws k ct cb)):=(BJ N ht M).weak (by
 rintro E Q K ⟨A,P,O,y,z,L⟩;refine⟨λm Z H=>∃J B S,SR X.K J S H/\ZM X.K A J K H/\RE X.K H J B Z/\UW X J H E (Ws m ct cb B S),⟨k,A,P,O,y,ZM.refl _ _ _,z,L⟩,?_⟩;rintro m Z H ⟨J,B,S,I,st,u,p⟩;cases m with
 |zero=>exact False.elim p
 |succ m =>
  unfold Ws at p;split at p
  .rename_i s h;refine⟨J,B,S,Z7,s,I,u,h,λG D j f=>?_⟩;refine⟨fun F q=>∃J B S,SR X.K J S q/\ZM X.K A J K q/\RE X.K q J B F/\UW X J q E (Ws m ct cb B S),fun F q h=>⟨m,qJ8 m,h⟩,D,B,s,j,u.up f,?_⟩;have l:=st.trans f j.nd;revert p;cases cb B s with
   |nx v r=>exact λp x w o c g i=>⟨o,v,r,c,l.trans g c.nd,i,p.shift (f.trans g c.nd)⟩
   |ct v r=>exact λp x w o c g i=>⟨o,v,r,c,l.trans g c.nd,i,p.shift (f.trans g c.nd)⟩
   |bk v r=>exact λp x w o c g i=>p x w o c (f.trans g c.nd) i
   |rt d r=>exact λp=>Yc.shift p f
   |bad=>exact λp=>p
   |er _ _=>exact λp=>Xr.shift p f
  .rename_i s h;refine⟨J,B,S,Z5,s,I,u,h,λG D j f=>?_⟩;dsimp only;rw[if_neg qB4];exact p Z G D j f (u.up f)
  .exact False.elim p
  .exact False.elim p)
abbrev Xi:=List (Nat×List D)
def XT(w:Xi)(S:ZX):Prop:=∀p∈w,ZL S p.1=Z9 p.2
abbrev CI:=ZT->M (List D×Xi)
structure WU(K:yQ)(JJ:It)(items:List D)(w:Xi)(J0:yC)(H0:Hp):Prop where
 go:∀(i:Nat) H J S,SR K J S H->ZM K J0 J H0 H->XT w S->i<items.length->JJ.go i H
 yld:∀(i:Nat) H J S x H',SR K J S H->ZM K J0 J H0 H->XT w S->i<items.length->JJ.yld i H x H'->∃d,items[i]?=Z9 d/\SR K J S H'/\ZM K J J H H'/\RV K H' J d x
 stop:∀H J S,SR K J S H->ZM K J0 J H0 H->XT w S->JJ.stop items.length H
inductive Yj(K:yQ)(it:CI)(Z:St)(H:Hp)(R:It->Hp->Prop):Prop
 |mk (J:yC) (B:ZT) (S:ZX) (items:List D) (w:Xi) (S':ZX) (sr:SR K J S H) (re:RE K H J B Z) (e:it B S=.ok (items,w) S') (y:∀JJ H' J',SR K J' S' H'->ZM K J J' H H'->WU K JJ items w J' H'->R JJ H')
theorem PI.weak{iter:yZ}{t t':TI}(h:PI X tg iter t)(w:∀Z H R,t' Z H R->t Z H R):PI X tg iter t':=λc s Z H R I q=>h c s Z H R I (w Z H R q)
theorem ZM.at{K:yQ}{J c:yC}{H d:Hp}(st:ZM K J c H d){n:Nat}{a:yR}(h:J[n]?=Z9 a):c[n]?=Z9 a:=by obtain⟨f,rfl⟩:=st.ext;rw[qA8 (qA1.mp h).1];exact h
open Classical in
noncomputable def Y4(w:Xi)(g:G)(b:CS):List D->CS
 |[]=>fun B S=>if XT w S then .nx B S else .bad
 | d::ds=>fun B S=>if XT w S then(match g d B S with
  |.ok h i=>match b h i with
   |.nx c f=>Y4 w g b ds c f
   |.ct c f=>Y4 w g b ds c f
   |.bk c f=>.nx c f
   |r=>r
  |.bad=>.bad
  | .er _ _=>.bad)else .bad
noncomputable def Zk(d:CI)(g:G)(b:CS):CS:=fun B S=>match d B S with
 |.ok (c,w) f=>Y4 w g b c B f
 |.bad=>.bad
 |.er _ _=>.bad
theorem FK{items:List D}{w:Xi}{g:G}{cb:CS}{E:XF}{Z:St}{L:It}{s:Hp}{t:yC}{B:ZT}{S0:ZX}(sr0:SR X.K t S0 s)(re0:RE X.K s t B Z)(Y:WU X.K L items w t s)(p:UW X t s E (Y4 w g cb items B S0)):
  ∃W:Nat->Nat->St->Hp->Prop,(∃m,W 0 m Z s)/\∀i m Z H,W i m Z H->(L.stop i H/\E.nx Z H)∨(L.go i H/\∃N:St->Hp->Prop,(∀u l,N u l->∃m',m'<m/\W (i+1) m' u l)/\∀x l,L.yld i H x l->W5 X.K g x Z l fun Z2 R=>Zl X cb { E with nx:=N,ct:=N,bk:=E.nx } Z2 R):=by
 refine⟨λi m Z H=>i+m=items.length/\∃J B S,SR X.K J S H/\ZM X.K t J s H/\RE X.K H J B Z/\UW X J H E (Y4 w g cb (items.drop i) B S),⟨items.length,by simp,t,B,S0,sr0,ZM.refl _ _ _,re0,by exact p⟩,?_⟩;rintro i m Z1 M ⟨him,F,B1,Q,o,n,I,j⟩;by_cases O:i<items.length
 .rw[qE6 O]at j;unfold Y4 at j;split at j
  .rename_i K;refine .inr ⟨Y.go i M F Q o n K O,fun u l=>i+1+(m - 1)=items.length/\∃J B S,SR X.K J S l/\ZM X.K t J s l/\RE X.K l J B u/\UW X J l E (Y4 w g cb (items.drop (i+1)) B S),fun u l z=>⟨m - 1,by omega,z⟩,λx R hy=>?_⟩;obtain⟨d,hd,sr2,v,rv⟩:=Y.yld i M F Q x R o n K O hy;have ed:=by rw[qA6 O]at hd;exact Option.some.inj hd
   rw[ed]at j;split at j
   .rename_i U V h3;refine⟨F,B1,Q,d,U,V,sr2,I.up v,rv,h3,fun Z3 H3 J3 r st3 re3=>⟨J3,U,V,r,re3,?_⟩⟩;have f:=v.trans st3 r.nd;have q:=n.trans f r.nd;revert j;cases cb U V with
    |nx P y=>exact λp T H4 A c h k=>⟨by omega,A,P,y,c,q.trans h c.nd,k,p.shift (f.trans h c.nd)⟩
    |ct P y=>exact λp T H4 A c h k=>⟨by omega,A,P,y,c,q.trans h c.nd,k,p.shift (f.trans h c.nd)⟩
    |bk P y=>exact λp T H4 A c h k=>p T H4 A c (f.trans h c.nd) k
    |rt d y=>exact λp=>Yc.shift p f
    |bad=>exact λp=>p
    |er _ _=>exact λp=>Xr.shift p f
   .exact False.elim j
   .exact False.elim j
  .exact False.elim j
 .have e:i=items.length:=by omega
  subst e;rw[qL5]at j;unfold Y4 at j;split at j
  .rename_i K;exact .inl ⟨Y.stop M F Q o n K,j Z1 M F o (ZM.refl _ _ _) I⟩
  .exact False.elim j
theorem sH{iter:yZ}{c:List vK}{j:CI}{g:G}{cb:CS}(o:fU (yW X.prog X.w) X.A X.env X.xe)(k:X.calm=Z7)(hi:PI X tg iter (Yj X.K j))(t:PG X tg (W5 X.K g))(n:XE X c (Zl X cb))
  (q:∀x,vF iter X.env x=pure x):PS X (.For tg iter c [] pos) (Zl X (Zk j g cb)):=(HK o k hi t n q).weak (by
 rintro E Z H ⟨J,B,S,l,i,p⟩;unfold Zk at p;split at p
 .rename_i d w s r;exact⟨J,B,S,d,w,s,l,i,r,λy u v h f m=>FK h (i.up f) m (p.shift f)⟩
 .exact False.elim p
 .exact False.elim p)
noncomputable def Rx(c:Str):CS:=λ_ S=>.er c S
theorem sG{x:Str}{d:Str}{j:Nat}{k p2 c:Pos}(g:X.calm=Z7)(l:Gl X x)(i:∃C,X.mg x=Z9 (.ref C)/\W9 X.K C)(m:YL x):PS X (.Raise (Z9 (.Call (.Name x k) [.Constant (.str d) j p2] [] c)) Z8 pos) (Zl X (Rx x)):=by obtain⟨C,f,hk⟩:=i;refine(vh g l f hk tm m).weak ?_;rintro E Z H ⟨J,B,S,h,n,p⟩;exact p H J h (ZM.refl _ _ _) C f
inductive Y3(X:Cx)(c:C)(Z:St)(H:Hp)(Q:VK):Prop
 |mk (J:yC) (B:ZT) (S:ZX) (sr:SR X.K J S H) (re:RE X.K H J B Z) (y:match c B S with|.ok d S'=>Yc X.K J H d S' Q|.er k S'=>Xr X J H k S'|.bad=>False)
noncomputable def Rw(c:C):CS:=fun B S=>match c B S with
 |.ok d f=>.rt d f
 |.bad=>.bad
 |.er k f=>.er k f
theorem sF(he:PE X e (Y3 X ce)):PS X (.Return (Z9 e) pos) (Zl X (Rw ce)):=(Mk he).weak (by
 rintro E Z H ⟨J,B,S,f,c,p⟩;refine⟨J,B,S,f,c,?_⟩;unfold Rw at p;revert p;cases ce B S with
 |ok d g=>exact λp=>p
 |bad=>exact λp=>p
 | er k g=>exact λp=>p)
noncomputable def Rv(c:C):CS:=fun B S=>match c B S with
 |.ok _ d=>.nx B d
 |.bad=>.bad
 |.er k d=>.er k d
theorem sD(he:PE X e (Y3 X ce))(j:wS e Z8 pos.line X.env=pure Z5):PS X (.Expr e pos) (Zl X (Rv ce)):=(HU he j).weak (by
 rintro E Z H ⟨J,B,S,i,g,p⟩;refine⟨J,B,S,i,g,?_⟩;unfold Rv at p;revert p;cases ce B S with
 |ok d m=>exact λp v l h f c n=>p Z l h f c (g.up c)
 |bad=>exact λp=>p
 | er k m=>exact λp=>p)
noncomputable def Uu(K:yQ)(k:Str->yF)(j:List D->M D)(n:Nat):Sp:=λh H Q E=>h.length=n/\∃J ds S,SR K J S H/\RVs K H J ds h/\match j ds S with
 |.ok d g=>Yc K J H d g Q
 |.er c g=>∀f i,SR K i g f->ZM K J i H f->∀C,k c=Z9 (.ref C)->E (.ref C) Z8 f
 |.bad=>False
theorem sC{f:List D->M D}{n:Nat}{c:CA}(o:∀ds S,f ds S≠.bad->ds.length=n):∀Z H Q,Zz X.K (ZS f c) Z H Q->OE (Uu X.K X.mg f n) [] E0 (YH X.K c) Z H Q:=by rintro Z H Q ⟨J,B,S,d,t,m,l,e,y⟩;obtain⟨j,h,p,e⟩:=Y8 e;refine⟨J,B,S,j,h,m,l,p,λs r q i g k=>?_⟩;rw[qF6];refine⟨by rw[<- k.len];exact o _ h (by rw[e];exact λz=>by cases z),q,j,h,i,k,?_⟩;rw[e];exact y.shift g
noncomputable def Xz(c:List D->M D)(g:CA):C:=fun B S=>match g B S with
 |.ok d f=>c d f
 |_=>.bad
theorem KN{i:List D->M D}{n:Nat}{f:CA}(r:∀ds S,i ds S≠.bad->ds.length=n):∀Z H Q,Y3 X (Xz i f) Z H Q->OE (Uu X.K X.mg i n) [] (EX X) (YH X.K f) Z H Q:=by
 rintro Z H Q ⟨J,B,S,q,p,y⟩;unfold Xz at y;cases h:f B S with
 |bad=>rw[h]at y;exact y.elim
 |er c o=>rw[h]at y;exact y.elim
 |ok k j =>
  rw[h]at y;refine⟨J,B,S,k,j,q,p,h,λu t s l g m=>?_⟩;rw[qF6];dsimp only at y;refine⟨by rw[<- m.len];exact r _ j (λz=>by rw[z]at y;exact y),s,k,j,l,m,?_⟩;revert y;cases i k j with
  |ok d o=>exact λy=>Yc.shift y g
  |bad=>exact λy=>y
  |er c o=>exact λy=>Xr.shift y g
structure Ru(P:y4)(w:jD)(K:yQ)(mg:Str->yF)(base:jE)(x:Str)(ps:yH)(k:Nat)(sp:Sp):Prop where
 ex:∃f fd,XZ P w K mg base (W3 P w) k f fd ps sp/\VZ K fd ps []/\lS K (.ref f)=Z7/\mg x=Z9 (.ref f)
theorem NW{x:Str}{ps:yH}{k d:Nat}{g:Sp}{E:XK}{e:yZ}{es:yE}{t:TA}{p:Pos}(C:Ru X.prog X.w X.K X.mg X.base x ps k g)(i:Zj d X.A)(q:Gl X x)(j:RW (W3 X.prog X.w) X E)(o:PA X (e::es) t)(hk:k<=d)(hdb:YL x)
  (m:jG (e::es) X.env=(Z5,vO e X.env)::jG es X.env) (n:(wO pos (jG es X.env)).any (·.1)=Z5) :
  PE X (.Call (.Name x p) (e::es) [] pos) (OE g [] E t):=by obtain⟨f,r,F,l,c,h⟩:=C.ex;exact AW (hdb:=hdb) (he:=m) (hpl:=n) F (i.mono hk) q h c l .nil j o
theorem sA:RW (W3 X.prog X.w) X E0:=λ_ _ _ _ _ _ _ h=>by obtain⟨_,_,_,_,_,_,_,_,_,_,_,_,_,_,z⟩:=h;exact z.elim
end
section
variable {X:Cx}{tg e:yZ}{ce:C}{pos:Pos}
noncomputable def kD:ZJ->D
 |.inl i=>.int i
 |.inr x=>.str x
noncomputable def Zy(c:C):CI:=fun B=>YT (c B) λx S=>match x with
 |.tup b=>.ok (b,[]) S
 |.lst n=>match ZL S n with
  |some b=>.ok (b,[(n,b)]) S
  |none=>.bad
 |.dct n=>match S[n]? with
  |some (.dk a)=>.ok (a.map λp=>kD p.1,[]) (S.set n (.fk a))
  |some (.fk a)=>.ok (a.map λp=>kD p.1,[]) S
  |_=>.bad
 |_=>.bad
theorem sy{K:yQ}{f:Hp}{g:yC}{a:yR}{xs:List D}{b:List V}(q:Zg K f a b)(r:RVs K f g xs b):WU K (Mf K a) xs [] g f where
 go:=λi H J S d st _ c=>by obtain⟨v,e,_⟩:=r.get (qA6 c);exact⟨b,v,st.tk.t _ _ q,e⟩
 yld:=λi H J S x j d st _ c y=>by obtain⟨rfl,y⟩:=y;obtain⟨v,e,h⟩:=r.get (qA6 c);have:=y b (st.tk.t _ _ q);rw[e]at this;cases this;exact⟨xs[i],qA6 c,d,ZM.refl _ _ _,RV.up st.tk st.ext _ _ h⟩
 stop:=λH J S d st _=>⟨b,st.tk.t _ _ q,by rw[r.len];exact qA7 _⟩
theorem FJ{K:yQ}{h:Hp}{f:yC}{a:yR}{n:Nat}{xs:List D}(hm:f[n]?=Z9 a):WU K (Mh K a) xs [(n,xs)] f h where
 go:=λi H J S b st w d=>by obtain⟨c,q,r⟩:=b.sq (st.at hm) (w (n,xs) (by simp));obtain⟨v,e,_⟩:=r.get (qA6 d);exact⟨c,v,q,e⟩
 yld:=λi H J S x j b st w d y=>by obtain⟨rfl,y⟩:=y;obtain⟨c,q,r⟩:=b.sq (st.at hm) (w (n,xs) (by simp));obtain⟨v,e,g⟩:=r.get (qA6 d);have:=y c q;rw[e]at this;cases this;exact⟨xs[i],qA6 d,b,ZM.refl _ _ _,g⟩
 stop:=λH J S b st w=>by obtain⟨c,q,r⟩:=b.sq (st.at hm) (w (n,xs) (by simp));exact⟨c,q,by rw[r.len];exact qA7 _⟩
theorem FI{K:yQ}{d:Hp}{k:yC}{a:yR}{o:Obj}{b:List (ZJ×V)}{kvs:List (ZJ×D)}(q:d a=Z9 (.frz o (.dK b)))(e:kvs.map (·.1)=b.map (·.1)):WU K (UD a o) (kvs.map λp=>kD p.1) [] k d where
 go:=λi H J S c st _ f=>⟨b,st.tk.z _ _ _ q,by
  have:=congrArg qK4 e;simp at this f;omega⟩
 yld:=λi H J S x l c st _ f y=>by
  obtain⟨rfl,y⟩:=y;obtain⟨p,g,rfl⟩:=y b (st.tk.z _ _ _ q);have h:(kvs.map (·.1))[i]?=Z9 p.1:=by rw[e,qB2,g];rfl
  have j:(kvs.map λp=>kD p.1)[i]?=Z9 (kD p.1):=by
   have:(kvs.map λp=>kD p.1)=(kvs.map (·.1)).map kD:=by rw[qC8];rfl
   rw[this,qB2,h];rfl
  refine⟨kD p.1,j,c,ZM.refl _ _ _,?_⟩;cases p.1<;>(unfold kD RV;rfl)
 stop:=λH J S c st _=>⟨b,st.tk.z _ _ _ q,by
  have:=congrArg qK4 e;simp at this;simp;omega⟩
theorem FH{l:TE}(u:PE X e l):PI X tg e (fun Z H R=>l Z H λx c=>∃a,x=.ref a/\((∃xs,YA X.K c a xs)/\R (Mh X.K a) c∨(∃xs,Zg X.K c a xs)/\R (Mf X.K a) c
  ∨ (∃kvs,((c a=Z9 (.dK kvs)/\∀o,R (UD a o) (ZD c a (.frz o (.dK kvs))))∨∃o,c a=Z9 (.frz o (.dK kvs))/\R (UD a o) c))
  ∨ False)):=by
 intro i s Z H R I h;refine Zo (u i s Z H _ I h) λv f ⟨x,c,d,r,t⟩=>?_;obtain⟨a,e,q⟩:=t;subst e;cases r;rcases q with⟨⟨xs,j⟩,q⟩| ⟨⟨xs,j⟩,q⟩| q
 .obtain⟨g,m,p,n⟩:=d.list j;refine jY p.isList ?_;refine⟨f.heap.objs.size,[f.heap.objs.size],_,_,c,rfl,d.kept (t':=f.toks) λb o e=>qA4 _ e,BI a _,⟨_,qB1 _ rfl,rfl,rfl⟩,λb k=>?_,q⟩;have e:b=f.heap.objs.size:=by simpa using k
  subst e;exact d.fpOk (qA7 _) (d.hok.fresh (qA7 _))
 .obtain⟨g,m,p,n⟩:=d.tuple j;refine jU (show f.heap.IsTuple a g.toArray from p) ?_;refine⟨f.heap.objs.size,[f.heap.objs.size],_,_,c,rfl,d.kept (t':=f.toks) λb o e=>qA4 _ e,BH a _,⟨_,qB1 _ rfl,rfl,rfl⟩,λb k=>?_,q⟩;have e:b=f.heap.objs.size:=by simpa using k
  subst e;exact d.fpOk (qA7 _) (d.hok.fresh (qA7 _))
 .skip
  rcases q with q|q
  .exact wj d q
  exact q.elim
theorem sx(he:PE X e (Zz X.K ce)):PI X tg e (Yj X.K (Zy ce)):=(FH he).weak (by
 rintro Z H R ⟨J,B,S,m,w,L,D,u,e,y⟩;obtain⟨x,K,G,e⟩:=Y8 e;refine⟨J,B,S,x,K,D,u,G,λv d l b f k=>?_⟩;split at e
 .rename_i A;cases e;have p:=k;obtain⟨a,r,rfl,q,g⟩:=p;exact⟨a,rfl,.inr (.inl ⟨⟨r,Zg.of q⟩,y _ d l b f (sy (Zg.of q) g)⟩)⟩
 .rename_i n;split at e
  .rename_i A E;cases e;obtain⟨a,rfl,i⟩:=k;obtain⟨r,q,g⟩:=b.sq i E;exact⟨a,rfl,.inl ⟨⟨r,q⟩,y _ d l b f (FJ i)⟩⟩
  .cases e
 .rename_i n;unfold RV at k;obtain⟨a,rfl,i⟩:=k;have fin:(∃c,((d a=Z9 (.dK c)/\∀o,R (UD a o) (ZD d a (.frz o (.dK c))))∨∃o,d a=Z9 (.frz o (.dK c))/\R (UD a o) d)):=by
   split at e
   .rename_i c s;cases e;obtain⟨j,h,g⟩:=b.get i s;refine⟨j,.inl ⟨h,λo=>?_⟩⟩;have I:TF X.K d (ZD d a (.frz o (.dK j))):=RG h (λ_ z=>by cases z) (λ_ _ z=>by cases z);obtain⟨t,F⟩:=b.put (o:=.frz o (.dK j)) (o':=.fk c) i h (λ_ z=>by cases z) (λ_ _ z=>by cases z) ⟨_,_,XA,g.up I ⟨[],by simp⟩⟩;exact y _ _ l t (f.trans F t.nd) (FI XA g.1)
   .rename_i c s;cases e;obtain⟨o,j,h,g⟩:=b.get i s;exact⟨j,.inr ⟨o,h,y _ d l b f (FI h g.1)⟩⟩
   .cases e
  first
  |exact⟨a,rfl,.inr (.inr (.inr (.inl fin)))⟩
  |exact⟨a,rfl,.inr (.inr (.inl fin))⟩
 .cases e)
noncomputable def Zc(lo:Int)(n:Nat):List D:=(List.range n).map λk=>D.int (lo+(k:Nat))
theorem FG{K:yQ}{f:Hp}{d:yC}{lo:Int}{n:Nat}:WU K (QW lo n) (Zc lo n) [] d f where
 go:=λi H J S b st _ a=>by unfold Zc at a;simp at a;exact a
 yld:=λi H J S x g b st _ a y=>by
  obtain⟨rfl,rfl⟩:=y;have c:=by unfold Zc at a;simp at a;exact a
  exact⟨.int (lo+i),by unfold Zc;rw[qB2,qG4 c];rfl,b,ZM.refl _ _ _,XH⟩
 stop:=λH J S b st _=>by show n<=(Zc lo n).length;unfold Zc;simp
noncomputable def WA(a:CA):CI:=fun B=>YT (a B) λb S=>match b with
 |[.int j]=>if -4611686018427387904<=j/\j<4611686018427387904 then .ok (Zc 0 j.toNat,[]) S else .bad
 |_=>.bad
noncomputable def NV(a:CA):CI:=fun B=>YT (a B) λb S=>match b with
 |[.int i,.int j]=>if -4611686018427387904<=i/\i<4611686018427387904/\-4611686018427387904<=j/\j<4611686018427387904 then .ok (Zc i (j - i).toNat,[]) S else .bad
 |_=>.bad
variable {a b:yZ}{ca:CA}
theorem sv{p:Pos}(h:PI X tg (.Call (.Name "range" p) [a] [] pos) (HM (YH X.K ca))):PI X tg (.Call (.Name "range" p) [a] [] pos) (Yj X.K (WA ca)):=h.weak (by
 rintro Z H R ⟨J,B,S,c,w,u,n,i,e,y⟩;obtain⟨l,s,q,e⟩:=Y8 e;refine⟨J,B,S,l,s,n,i,q,λt m r f d o=>?_⟩;split at e
 .rename_i j;split at e
  .rename_i g;cases e;obtain⟨v,rfl,k⟩:=o.one;subst k;exact⟨j,rfl,g.1,g.2,y _ m r f d FG⟩
  .cases e
 .cases e)
theorem su{p:Pos}(h:PI X tg (.Call (.Name "range" p) [a,b] [] pos) (HL (YH X.K ca))):PI X tg (.Call (.Name "range" p) [a,b] [] pos) (Yj X.K (NV ca)):=h.weak (by
 rintro Z H R ⟨J,B,S,c,w,z,n,g,e,y⟩;obtain⟨l,x,r,e⟩:=Y8 e;refine⟨J,B,S,l,x,n,g,r,λA m t f d o=>?_⟩;split at e
 .rename_i i j;split at e
  .rename_i s;cases e;obtain⟨v,u,rfl,k,q⟩:=o.two;subst k q;exact⟨i,j,rfl,s,y _ m t f d FG⟩
  .cases e
 .cases e)
theorem FF{α f:Type}{xs:List α}{ys:List f}{i:Nat}(h:i<(xs.zip ys).length):∃x y,xs[i]?=Z9 x/\ys[i]?=Z9 y/\(xs.zip ys)[i]?=Z9 (x,y):=by
 rw[qM4]at h;have d:i<xs.length:=by omega
 have c:i<ys.length:=by omega
 exact⟨xs[i],ys[i],qA6 d,qA6 c,by rw[qK0];exact⟨qA6 d,qA6 c⟩⟩
noncomputable def zipD(xs ys:List D):List D:=(xs.zip ys).map λp=>.tup [p.1,p.2]
noncomputable def Wz(S:ZX):D->Option (List D)
 |.tup c=>Z9 c
 |.lst n=>ZL S n
 |_=>Z8
noncomputable def TR(x:D)(xs:List D):Xi:=match x with
 |.lst n=>[(n,xs)]
 |_=>[]
theorem FE{K:yQ}{J:yC}{S:ZX}{H:Hp}{x:D}{v:V}{xs:List D}(l:SR K J S H)(r:RV K H J x v)(f:Wz S x=Z9 xs):∃a b,v=.ref a/\(∃vs,XI b K H a vs) /\
  ∀d g i,SR K g i d->ZM K J g H d->XT (TR x xs) i->∃vs,XI b K d a vs/\RVs K d g xs vs:=by
 unfold Wz at f;split at f
 .rename_i m;cases f;obtain⟨a,vs,rfl,q,k⟩:=r;exact⟨a,Z7,rfl,⟨vs,Zg.of q⟩,λd g i h c _=>⟨vs,c.tk.t _ _ (Zg.of q),RVs.up c.tk c.ext _ _ k⟩⟩
 .rename_i n;obtain⟨a,rfl,j⟩:=r;obtain⟨vs,q,k⟩:=l.sq j f;exact⟨a,Z5,rfl,⟨vs,q⟩,λd g i h c w=>h.sq (c.at j) (w (n,xs) (by simp[TR]))⟩
 .cases f
theorem Rt{f d:Xi}{S:ZX}:XT (f++d) S↔XT f S/\XT d S:=by unfold XT;simp only[qB9];exact⟨λh=>⟨λp c=>h p (.inl c),λp c=>h p (.inr c)⟩,λh p c=>c.elim (h.1 p) (h.2 p)⟩
theorem sm{K:yQ}{s:Hp}{z:yC}{a b:yR}{b1 b2:Bool}{A B:Xi}{xs ys:List D}
  (g:∀d j o,SR K j o d->ZM K z j s d->XT A o->∃c,XI b1 K d a c/\RVs K d j xs c) (h:∀d j o,SR K j o d->ZM K z j s d->XT B o->∃c,XI b2 K d b c/\RVs K d j ys c) :
  WU K (Tc b1 b2 K a b) (zipD xs ys) (A++B) z s where
 go:=λi H J S f st w n=>by obtain⟨c,q,r⟩:=g H J S f st (Rt.mp w).1;obtain⟨m,k,l⟩:=h H J S f st (Rt.mp w).2;obtain⟨x,y,t,p,_⟩:=FF (by unfold zipD at n;simpa using n);obtain⟨v,g,_⟩:=r.get t;obtain⟨u,h,_⟩:=l.get p;exact⟨c,m,v,u,q,k,g,h⟩
 yld:=λi H J S x P f st w n y=>by obtain⟨T,L,rfl,y⟩:=y;obtain⟨c,q,r⟩:=g H J S f st (Rt.mp w).1;obtain⟨m,k,l⟩:=h H J S f st (Rt.mp w).2;obtain⟨x,G,t,p,M⟩:=FF (by unfold zipD at n;simpa using n);obtain⟨v,g,E⟩:=r.get t;obtain⟨u,h,N⟩:=l.get p;have:=y c m v u q k g h;subst this;obtain⟨F,I,O⟩:=N1 f L (.cons E (.cons N .nil));exact⟨.tup [x,G],by unfold zipD;rw[qB2,M];rfl,F,I,O⟩
 stop:=λH J S f st w=>by obtain⟨c,q,r⟩:=g H J S f st (Rt.mp w).1;obtain⟨m,k,l⟩:=h H J S f st (Rt.mp w).2;exact⟨c,m,q,k,by unfold zipD;rw[qA3,qM4,r.len,l.len]⟩
noncomputable def TQ(a:CA):CI:=fun B=>YT (a B) λf S=>match f with
 |[x,y]=>match Wz S x,Wz S y with
  |some d,Z9 c=>.ok (zipD d c,TR x d++TR y c) S
  |_,_=>.bad
 |_=>.bad
theorem sk{d:yE}{k:Nat}{c p:Pos}(h:PI X (.Tuple d k c) (.Call (.Name "zip" p) [a,b] [] pos) (GX X.K (YH X.K ca))):PI X (.Tuple d k c) (.Call (.Name "zip" p) [a,b] [] pos) (Yj X.K (TQ ca)):=h.weak (by
 rintro Z H R ⟨J,B,S,g,w,L,q,l,e,y⟩;obtain⟨n,I,A,e⟩:=Y8 e;refine⟨J,B,S,n,I,q,l,A,λN o F f i r=>?_⟩;split at e
 .rename_i O M;split at e
  .rename_i K P s t;cases e;obtain⟨v,u,rfl,m,x⟩:=r.two;obtain⟨a,b1,rfl,z,D⟩:=FE f m s;obtain⟨b,G,rfl,j,E⟩:=FE f x t;exact⟨a,b,b1,G,rfl,z,j,y _ o F f i (sm D E)⟩
  .cases e
 .cases e)
noncomputable def VU(xs:List D):List D:=((List.range xs.length).zip xs).map λp=>.tup [.int (p.1:Nat),p.2]
theorem NU{xs:List D}{i:Nat}(h:i<xs.length):(VU xs)[i]?=Z9 (.tup [.int (i:Nat),xs[i]]):=by
 unfold VU;rw[qB2];have:((List.range xs.length).zip xs)[i]?=Z9 (i,xs[i]):=by rw[qK0];exact⟨qG4 h,qA6 h⟩
 rw[this];rfl
theorem TN(xs:List D):(VU xs).length=xs.length:=by unfold VU;simp
theorem sj{K:yQ}{g:Hp}{h:yC}{a:yR}{xs:List D}{d:List V}(q:Zg K g a d)(r:RVs K g h xs d):WU K (Vh Z7 K a) (VU xs) [] h g where
 go:=λi H J S f st _ c=>by rw[TN]at c;obtain⟨v,e,_⟩:=r.get (qA6 c);exact⟨d,v,st.tk.t _ _ q,e⟩
 yld:=λi H J S x o f st _ c y=>by rw[TN]at c;obtain⟨T,m,rfl,y⟩:=y;obtain⟨v,e,j⟩:=r.get (qA6 c);have:=y d v (st.tk.t _ _ q) e;subst this;obtain⟨k,l,n⟩:=N1 f m (.cons XH (.cons (RV.up st.tk st.ext _ _ j) .nil));exact⟨_,NU c,k,l,n⟩
 stop:=λH J S f st _=>⟨d,st.tk.t _ _ q,by rw[TN,r.len]⟩
theorem sh{K:yQ}{m:Hp}{g:yC}{a:yR}{n:Nat}{xs:List D}(hm:g[n]?=Z9 a):WU K (Vh Z5 K a) (VU xs) [(n,xs)] g m where
 go:=λi H J S c st w d=>by rw[TN]at d;obtain⟨f,q,r⟩:=c.sq (st.at hm) (w (n,xs) (by simp));obtain⟨v,e,_⟩:=r.get (qA6 d);exact⟨f,v,q,e⟩
 yld:=λi H J S x p c st w d y=>by rw[TN]at d;obtain⟨T,l,rfl,y⟩:=y;obtain⟨f,q,r⟩:=c.sq (st.at hm) (w (n,xs) (by simp));obtain⟨v,e,h⟩:=r.get (qA6 d);have:=y f v q e;subst this;obtain⟨j,k,o⟩:=N1 c l (.cons XH (.cons h .nil));exact⟨_,NU d,j,k,o⟩
 stop:=λH J S c st w=>by obtain⟨f,q,r⟩:=c.sq (st.at hm) (w (n,xs) (by simp));exact⟨f,q,by rw[TN,r.len]⟩
noncomputable def Qe(a:CA):CI:=fun B=>YT (a B) λd S=>match d with
 |[.tup c]=>.ok (VU c,[]) S
 |[.lst n]=>match ZL S n with
  |some c=>.ok (VU c,[(n,c)]) S
  |none=>.bad
 |_=>.bad
theorem sg{d:yE}{k:Nat}{c p:Pos}(h:PI X (.Tuple d k c) (.Call (.Name "enumerate" p) [a] [] pos) (G1 X.K (YH X.K ca))):PI X (.Tuple d k c) (.Call (.Name "enumerate" p) [a] [] pos) (Yj X.K (Qe ca)):=h.weak (by
 rintro Z H R ⟨J,B,S,l,w,G,x,t,e,y⟩;obtain⟨u,F,A,e⟩:=Y8 e;refine⟨J,B,S,u,F,x,t,A,λi o s f g r=>?_⟩;split at e
 .rename_i z;cases e;obtain⟨v,rfl,j⟩:=r.one;obtain⟨a,i,rfl,q,D⟩:=j;exact⟨a,rfl,.inl ⟨⟨i,Zg.of q⟩,y _ o s f g (sj (Zg.of q) D)⟩⟩
 .rename_i n;split at e
  .rename_i z E;cases e;obtain⟨v,rfl,j⟩:=r.one;obtain⟨a,rfl,m⟩:=j;obtain⟨i,q,_⟩:=f.sq m E;exact⟨a,rfl,.inr ⟨⟨i,q⟩,y _ o s f g (sh m)⟩⟩
  .cases e
 .cases e)
noncomputable def W2(k:Nat)(js:List Nat)(B:ZT):ZT:=qE7 k Z8++js.map λj=>(B[j]?).getD Z8
theorem RE.comp{K:yQ}{H:Hp}{J:yC}{B:ZT}{Z:St}(g:RE K H J B Z)(k:Nat)(js:List Nat):RE K H J (W2 k js B) (WY k js Z):=by
 refine⟨by unfold W2 WY;simp,λi d e=>?_⟩;unfold W2 at e;unfold WY;by_cases f:i<k
 .rw[qA8 (by simpa using f),qH3]at e;simp at e
 .rw[qA0 (by simpa using f),qI0,qB2]at e;rw[qA0 (by simpa using f),qI0,qB2];cases q:js[i - k]? with
  |none=>rw[q]at e;simp at e
  |some j =>
   rw[q]at e;simp only[qS0,Option.some.injEq]at e;cases c:B[j]? with
   |none=>rw[c]at e;simp at e
   |some z =>
    rw[c]at e;subst e;obtain⟨v,h,l⟩:=g.2 j d c;exact⟨v,by simp[h],l⟩
inductive Xh where
 |one|many (k:Nat)
noncomputable def KM:ZT->Nat->List D->ZT
 |B,_,[]=>B
 |B,s,x::c=>KM (B.set s (Z9 x)) (s+1) c
noncomputable def VB(t:Xh)(d:D)(B:ZT):Option ZT:=match t with
 |.one=>Z9 (B.set 0 (Z9 d))
 |.many k=>match d with
  |.tup c=>if c.length=k then Z9 (KM B 0 c)else Z8
  |_=>Z8
noncomputable def NT:Nat->Nat->UN
 |_,0=>QY
 |s,n+1=>HS (UL s) (NT (s+1) n)
noncomputable def VA:Xh->Nat
 |.one=>1
 |.many k=>k
noncomputable def tOfT'(K:yQ):Xh->TG
 |.one=>UL 0
 |.many k=>QX K k (NT 0 k)
theorem FD{k:Nat}{js:List Nat}{Z c:St}(h:T6 (WY k js Z) c){i:Nat}(hi:i<k)(v:V):T6 (WY k js Z) (c.set i (Z9 v)):=by
 refine⟨by rw[qG5];exact h.1,λj u e=>?_⟩;by_cases d:i=j
 .subst d;obtain⟨_,f,_⟩:=LI e;omega
 .rw[qD5 d];exact h.2 j u e
theorem FC(Z:St):T6 Z Z:=⟨rfl,λ_ _ h=>h⟩
theorem FB{K:yQ}{H:Hp}{J:yC}{k:Nat}{js:List Nat}{Z:St}{Q:St->Hp->Prop}:∀{n s:Nat}{xs:List D}{vs:List V}{B1:ZT}{Z1:St},RVs K H J xs vs->xs.length=n->s+n<=k->RE K H J B1 Z1->T6 (WY k js Z) Z1->(∀c,RE K H J (KM B1 s xs) c->T6 (WY k js Z) c->Q c H)->NT s n vs Z1 H Q
 |0,s,xs,vs,B1,Z1,r,hl,hk,re,w,h=>by have:=qJ0.mp hl;subst this;exact⟨r.nil_inv,h Z1 re w⟩
 |n+1,s,[],vs,B1,Z1,r,hl,hk,re,w,h=>by simp at hl
 |n+1,s,x::xs,vs,B1,Z1,r,hl,hk,re,w,h=>by obtain⟨v,d,rfl,g,f⟩:=r.cons_inv;exact⟨v,d,rfl,FB f (by simpa using hl) (by omega) (re.set g s) (FD w (by omega) v) h⟩
theorem sf{K:yQ}{H:Hp}{J:yC}{k:Nat}{js:List Nat}{Z:St}{B l:ZT}{t:Xh}{d:D}{x:V}{Q:St->Hp->Prop}(ht:VA t<=k)(g:RE K H J (W2 k js B) (WY k js Z))(f:RV K H J d x)(e:VB t d (W2 k js B)=Z9 l)(h:∀c,RE K H J l c->T6 (WY k js Z) c->Q c H)(m:1<=k):tOfT' K t x (WY k js Z) H Q:=by
 cases t with
 |one =>
  cases e;exact h _ (g.set f 0) (FD (FC _) m x)
 |many n =>
  unfold VB at e;dsimp only at e;split at e
  .rename_i r;split at e
   .rename_i j;cases e;obtain⟨p,o,rfl,q,i⟩:=f;exact⟨p,o,rfl,Zg.of q,by rw[<- i.len];exact j,FB i j (by have:n<=k:=ht;omega) g (FC _) h⟩
   .cases e
  .cases e
open Classical in
noncomputable def Zf(w:Xi)(t:Xh)(tc:CT)(c:C)(B0:ZT):List D->M (List D)
 |[]=>λS=>if XT w S then .ok [] S else .bad
 | d::ds=>λS=>if XT w S then(match VB t d B0 with
  |some f=>YT (tc f) (λk=>if k then YT (c f) λy=>YT (Zf w t tc c B0 ds) λg=>ret (y::g)else Zf w t tc c B0 ds) S
  | none=>.bad)else .bad
noncomputable def Yv(f:CI)(k:Nat)(js:List Nat)(t:Xh)(tc:CT)(c:C):C:=fun B=>YT (f B) λp S=>if p.1.length<lim then
  YT (Zf p.2 t tc c (W2 k js B) p.1) (λg d=>.ok (.lst d.length) (d++[.lst g])) S
 else .bad
theorem SR.acc{K:yQ}{H:Hp}{J:yC}{S:ZX}{A:yR}{f g:List V}(c:SR K J S H)(j:A∉J)(h:H A=Z9 (.lst f)):SR K J S (ZD H A (.lst g)) :=
 ⟨c.len,c.nd,λn a o d i=>(c.obj n a o d i).up (N6 h) ⟨[],by simp⟩ (Za λz=>j (z▸qB6 d))⟩
theorem ZM.acc{K:yQ}{c H:Hp}{d J:yC}{A:yR}{i j:List V}(st:ZM K d J c H)(f:c A=Z8)(h:H A=Z9 (.lst i)):ZM K d J c (ZD H A (.lst j)) :=
 ⟨st.pre,λb o g e=>by rw[Za (U2 e f)];exact st.fr b o g e,st.tk.trans (N6 h)⟩
theorem SR.adopt{K:yQ}{H:Hp}{J:yC}{S:ZX}{A:yR}{g:List V}{acc:List D}(f:SR K J S H)(m:A∉J)(h:H A=Z9 (.lst g))(r:RVs K H J acc g):SR K (J++[A]) (S++[.lst acc]) H:=by
 refine⟨by simp[f.len],?_,λn a u c d=>?_⟩
 .rw[qF3];refine⟨f.nd,by simp,λa l b i=>?_⟩;simp at i;subst i;exact λz=>m (z▸l)
 .by_cases k:n<J.length
  .rw[qA8 k]at c;rw[qA8 (by rw[<- f.len];exact k)]at d;exact(f.obj n a u c d).up (TF.refl _ _) ⟨[A],rfl⟩ rfl
  .rw[qA0 (by omega)]at c;rw[qA0 (by rw[<- f.len];omega)]at d;have j:=by have:=(qA1.mp c).1;simp at this;omega
   rw[j]at c;rw[<- f.len,j]at d;simp at c d;subst c d;exact⟨g,h,RVs.up (TF.refl _ _) ⟨[A],rfl⟩ _ _ r⟩
theorem ZM.adopt{K:yQ}{c H:Hp}{d J:yC}{A:yR}(st:ZM K d J c H)(f:c A=Z8):ZM K d (J++[A]) c H:=by
 obtain⟨i,e,n⟩:=st.pre;refine⟨⟨i++[A],by rw[e,qC0],λb g=>?_⟩,st.fr,st.tk⟩;rcases qB9.mp g with h|h
 .exact n b h
 .simp at h;subst h;exact f
theorem ZM.notIn{K:yQ}{H d:Hp}{J J':yC}{A:yR}{o:HO}(st:ZM K J J' H d)(c:A∉J)(h:H A=Z9 o):A∉J':=λz=>by
 obtain⟨f,rfl,n⟩:=st.pre;rcases qB9.mp z with q|q
 .exact c q
 .rw[n A q]at h;cases h
inductive sd(K:yQ)(items:List D)(w:Xi)(t:Xh)(tc:CT)(c:C)(B0:ZT)(J0:yC)(H0:Hp)(A:yR)(S1:ZX)(ys:List D)(i m:Nat)(us:List V)(H2:Hp):Prop
 |mk (him:i+m=items.length) (hus:us.length<=i) (J2:yC) (S2:ZX) (acc ZG:List D) (sr:SR K J2 S2 H2) (st:ZM K J0 J2 H0 H2) (nA:A∉J2) (hA:H2 A=Z9 (.lst us)) (ra:RVs K H2 J2 acc us) (el:Zf w t tc c B0 (items.drop i) S2=.ok ZG S1) (eys:acc++ZG=ys)
theorem FA{Z:St}{H:Hp}{Q:VK}{it:CI}{k:Nat}{js:List Nat}{t:Xh}{tc:CT}{c:C}(ht:VA t<=k)(h1:1<=k)(h:Zz X.K (Yv it k js t tc c) Z H Q):LJ (Yj X.K it) k js (tOfT' X.K t) (YS X.K tc) (Zz X.K c) Z H Q:=by
 obtain⟨J,B,S,d,S',sr,re,e,y⟩:=h;obtain⟨⟨f,w⟩,S0,e0,f0⟩:=Y8 e;dsimp only at f0;split at f0
 .rename_i hlim;obtain⟨ys,S1,e1,f1⟩:=Y8 f0;cases f1;refine⟨J,B,S,f,w,S0,sr,re,e0,λJJ H0 J0 V G io A W=>?_⟩;have reC:=(re.up G).comp k js;obtain⟨srA,stA⟩:=V.other W;have nA:=V.out W;refine⟨sd X.K f w t tc c (W2 k js B) J0 H0 A S1 ys,
   ⟨f.length,⟨by simp,qF8 _,J0,S0,[],ys,srA,stA,nA,XA,RVs.nil,by exact e1,rfl⟩⟩,?_⟩
  rintro i m us H2 ⟨him,hus,J2,S2,acc,ZG,j,n,F,T,r,g,I⟩;refine And.intro T ?_;by_cases hi:i<f.length
  .rw[qE6 hi]at g;unfold Zf at g;split at g
   .rename_i hw;refine .inr ⟨io.go i H2 J2 S2 j n hw hi,K4 (by omega),λx H3 hy=>?_⟩;obtain⟨d,hd,u,P,rv⟩:=io.yld i H2 J2 S2 x H3 j n hw hi hy;have ed:=by rw[qA6 hi]at hd;exact Option.some.inj hd
    rw[ed]at g;have Y:=P.fr A _ F T;have L:=n.trans P u.nd;split at g
    .rename_i B4 h4;refine sf ht (reC.up L) rv h4 (fun Z4 U wk=>⟨wk,?_⟩) h1;obtain⟨kb,S3,e3,f3⟩:=Y8 g;refine⟨J2,B4,S2,kb,S3,u,U,e3,λH5 J5 s l=>?_⟩;have O:=l.fr A _ F Y;have N:=l.notIn F Y;have M:=L.trans l s.nd;have p:=P.trans l s.nd;cases kb with
     |true =>
      obtain⟨z,S4,e4,f4⟩:=Y8 f3;obtain⟨zs,S5,e5,f5⟩:=Y8 f4;obtain⟨rfl,rfl⟩:=X4 f5;refine⟨J5,B4,S3,z,S4,s,U.up l,e4,λv H6 J6 R D rv6=>?_⟩;have E:=D.fr A _ N O;have nA6:=D.notIn N O;have K:=p.trans D R.nd;have tku:TF X.K H6 (ZD H6 A (.lst (us++[v]))):=N6 E;refine⟨E,m - 1,by omega,⟨by omega,by rw[qC1];show us.length+1<=i+1;omega,J6,S4,acc++[z],zs,R.acc nA6 E,(M.trans D R.nd).acc W E,nA6,XA,?_,e5,by rw[qC0];exact I⟩⟩;exact RVs.up tku ⟨[],by simp⟩ _ _ ((RVs.up K.tk K.ext _ _ r).append (.cons rv6 .nil))
     |false =>
      exact⟨m - 1,by omega,⟨by omega,by omega,J5,S3,acc,ZG,s,M,N,O,RVs.up p.tk p.ext _ _ r,f3,I⟩⟩
    .cases g
   .cases g
  .have ei:i=f.length:=by omega
   subst ei;rw[qL5]at g;unfold Zf at g;split at g
   .rename_i hw;cases g;rw[qF6]at I;subst I;refine .inl ⟨io.stop H2 J2 _ j n hw,?_⟩;have hA0:H A=Z8:=by
     cases q:H A with
     |none=>rfl
     |some o =>
      by_cases hm:A∈J
      .exact absurd (G.mem hm) nA
      .rw[G.fr A o hm q]at W;cases W
    have u:=j.adopt F T r;refine y (.ref A) H2 (J2++[A]) u ((G.trans n j.nd).adopt hA0) ?_;exact⟨A,rfl,by rw[<- j.len,qA0 (qA7 _),qJ4];rfl⟩
   .cases g
 .cases f0
end
theorem r8{pos:Pos}{a b:Int}{c f:yU}(l:yB)(h:TriplesOk l)(e:gU pos (l++[vI a,vI b,c])=Z9 f):gU pos l=Z9 f∨f=c:=by
 fun_induction TriplesOk l with
 |case1 =>
  right;simp only[qM5,gU,vI]at e;split at e
  .exact(Option.some.inj e).symm
  .cases e
 |case2 j t m u x ZG g =>
  simp only[qG7,gU]at e ⊢;split at e
  .rename_i d;rw[if_pos d];exact .inl e
  .rename_i d;rw[if_neg d];exact g h e
 |case3 l k i=>exact h.elim
section
variable {P:y4}{w:jD}{H:Hp}{h h':jE}{T c':yR}{ps qs:yJ}{oc:Obj}
noncomputable def UV(H:Hp)(T a:yR)(b:Obj)(c:yJ):Hp:=ZD (ZD H a (.frz b (.ext λh=>h.get? a=Z9 b))) T (.tbl c)
theorem KJ:UV H T c' oc qs T=Z9 (.tbl qs):=XA
theorem Fz(n:c'≠T):UV H T c' oc qs c'=Z9 (.frz oc (.ext λh=>h.get? c'=Z9 oc)):=by unfold UV;rw[Za n,XA]
theorem UU{b:yR}(c:b≠T)(a:b≠c'):UV H T c' oc qs b=H b:=by unfold UV;rw[Za c,Za a]
theorem rZ{fs:yC}(g:H T=Z9 (.tbl ps))(r:h.objs.size<=c')(l:H c'=Z8)(k:∀b o,b≠T->h.get? b=Z9 o->h'.get? b=Z9 o)(f:∃o,h'.get? T=Z9 o)(p:∃more,d=ps++more):Un fs [] H (UV H T c' oc d) h h':=by
 have i:∀b,H b=Z8->b≠T:=λb n z=>by rw[z,g]at n;cases n
 have j:∀b o,h.get? b=Z9 o->b≠c':=λb o e=>qB7 (qB3 (qB0 e) r);have a:∀b u,H b=Z9 u->b≠c':=λb u e z=>by rw[z,l]at e;cases e
 have c:∀b u,H b=Z9 u->(∀d,u≠.tbl d)->b≠T:=λb u e z y=>by rw[y,g]at e;exact z _ (Option.some.inj e).symm
 refine⟨λb o e n _ _=>k b o (i b n) e,λb o e n _ _=>⟨o.slots,k b o (i b n) e⟩,λb o e n _=>?_,λb o e _=>?_,λb s e=>?_,λb o u e=>?_,λb q e=>?_⟩
 .rw[UU (i b n) (j b o e)];exact n
 .by_cases z:b=T
  .rw[z];exact f
  .exact⟨o,k b o z e⟩
 .rw[UU (c b _ e λ_ z=>by cases z) (a b _ e)];exact e
 .rw[UU (c b _ e λ_ z=>by cases z) (a b _ e)];exact e
 .by_cases z:b=T
  .subst z;rw[g]at e;cases e;obtain⟨m,rfl⟩:=p;exact⟨m,KJ⟩
  .exact⟨#[],by rw[UU z (a b _ e),e];simp⟩
theorem rY(ok:Yt P w H h)(n:H T=Z9 (.tbl ps))(t:h.objs.size<=c')(g:H c'=Z8)(k:∀b o,b≠T->h.get? b=Z9 o->h'.get? b=Z9 o)(l:h'.get? T=Z9 { cls:=.none,data:=.fields j })(c:h'.get? c'=Z9 oc):Yt P w (UV H T c' oc j) h':=by
 have m:c'≠T:=λz=>by rw[z,n]at g;cases g
 have f:∀b u,H b=Z9 u->b≠c':=λb u e z=>by rw[z,g]at e;cases e
 have d:∀b u,H b=Z9 u->(∀j,u≠.tbl j)->b≠T:=λb u e z y=>by rw[y,n]at e;exact z _ (Option.some.inj e).symm
 intro a o e;by_cases z:a=T
 .subst z;rw[KJ]at e;cases e;exact l
 .by_cases y:a=c'
  .subst y;rw[Fz m]at e;cases e;exact⟨c,c,⟨oc,c⟩,λv x p q=>q _ p⟩
  .rw[UU z y]at e;refine(ok a o e).stay (λb u i r=>k b u ?_ r) (λb q=>?_) λb s q=>?_
   .rcases i with rfl|i
    .exact z
    .exact d b _ i λ_ z=>by cases z
   .rw[UU (d b _ q λ_ z=>by cases z) (f b _ q)];exact q
   .rw[UU (d b _ q λ_ z=>by cases z) (f b _ q)];exact q
end
inductive Ut(X:Cx)(x:Str):Prop
 |mk (c T:yR) (tab:fI X.K x=Z9 (c,T)) (code:X.env.code=.ref c) (qual:X.env.qual=x ++ ".<locals>.") (hd:fM X.base c T) (blt:X.base.BuiltinsAt X.mg T) (ne:y9≠T)
structure rX(X:Cx)(K:yQ)(x:Str)(params:vV)(body:yZ)(scope:jR)(cl:List (Str×yR))(T f:yR)(H H':Hp)(h:jE):Prop where
 tab:∃ps,H' T=Z9 (.tbl ps)/\UA K (Wf x) H' T x ps
 ch:∀b o,b≠T->H b=Z9 o->H' b=Z9 o
 fn:∃cv ctv pm,h.get? f=Z9 { cls:=.type "function",data:=.func (W.kla_fn "<lambda>" (Wf x) params body scope cl pm cv ctv) }/\Lc (Wf x) H' cv
 free:H' f=Z8
 fr:f∉Xl X.stack
section
variable {X:Cx}{pins:yD}{Z:St}{H:Hp}{s:yS}
theorem rW{h h':jE}{a:Str->yF}{T:yR}(f:h.BuiltinsAt a T)(k:∀b o,h.get? b=Z9 o->h'.get? b=Z9 o):h'.BuiltinsAt a T:=by obtain⟨d,o,i,j,c,g,e,r⟩:=f;exact⟨d,o,i,j,c,g,k _ _ e,r⟩
theorem Fy{x:Str}{T:yR}{ps:yJ}{d:vV}{j:yZ}{scope:jR}{cl:List (Str×yR)}{pos:Pos}{Q:yL}{E:yL}(I:ZR X pins Z H s)(L:Ut X x)(l:H T=Z9 (.tbl ps))(t:UA X.K (Wf x) H T x ps)
  (J:closureFor scope X.env=pure cl) (K:defaultsOf d X.env=([],[]))
  (h:∀f H' s',rX X X.K x d j scope cl T f H H' s'.heap->ZR X pins Z H' s'->(∀b o,s.heap.get? b=Z9 o->H b=Z8->s'.heap.get? b=Z9 o/\H' b=Z8)->Q (.ref f) s') :
  y7 (yW X.prog X.w) X.A (vO (.Lambda d j scope pos) X.env) Q E s:=by
 obtain⟨c,T',tab,code,F,C,BB,ne⟩:=L;obtain⟨c2,t1⟩:=t.tab;rw[tab]at t1;cases t1;have eq:X.env.qual ++ "<lambda>"=Wf x:=by rw[F];rfl
 have oT:=I.hok T _ l;have G:=I.ok.mod.glob.keeps I.bk;have C':=C.keeps I.bk;have D:=rW BB I.bk;have ge:=I.ok.glob;have w:∀a:yR,s.heap.objs.size<=a->a∉Xl X.stack:=λa ha m=>by
  rcases qA9.mp (I.stkSub a m)with z|z
  .exact absurd I.lt (by rw[<- z];exact Nat.not_lt.mpr ha)
  .exact I.nofs ha z
 refine W.kla_eval K ?_;rw[eq];cases hf:gU pos ps.toList with
 |some R =>
  refine W.kla_makeFunctionHit J ge G code C' oT t.ok hf D λq B V k i=>?_;have k2:∀o b u,s.heap.get? b=Z9 u->(B.push o).get? b=Z9 u:=λo b u e=>qA4 _ (k b u e);refine h B.objs.size H _ ⟨⟨ps,l,t⟩,λ_ _ _ e=>e,⟨R,q,_,qB1 _ rfl,t.code _ _ hf⟩,I.hok.fresh i,w _ i⟩ (I.kept (t':=V) (k2 _)) λb o e n=>⟨k2 _ b o e,n⟩
 |none =>
  refine W.kla_makeFunction J ge G code C' oT t.ok hf ne D λg q B V k i M r A=>?_;obtain⟨c3,N,vs,tq,e3,O,hd,hq⟩:=r;cases e3;have v:=I.hok.fresh i;have Y:g≠T:=λz=>by rw[z,l]at v;cases v
  have sz:=qC6 i (qH0 M);have k2:∀o b u,b≠T->s.heap.get? b=Z9 u->(B.push o).get? b=Z9 u:=λo b u n e=>qA4 _ (k b u n e);have fresh:=I.hok.fresh sz;have cT:Lc (Wf x) (UV H T g N (ps++#[vI pos.line,vI pos.col,.ref g])) (.ref g):=⟨g,N,vs,tq,rfl,Fz Y,hd,hq⟩
  have U:∀b,H b=Z8->b≠T:=λb n z=>by rw[z,l]at n;cases n
  have ch:∀b o,b≠T->H b=Z9 o->UV H T g N (ps++#[vI pos.line,vI pos.col,.ref g]) b=Z9 o:=λb o n e=>by rw[UU n λz=>by rw[z,v]at e;cases e];exact e
  refine h B.objs.size (UV H T g N (ps++#[vI pos.line,vI pos.col,.ref g])) _ ⟨⟨_,KJ,t.tab,?_,λp R z=>?_⟩,ch,⟨.ref g,q,_,qB1 _ rfl,cT⟩,?_,w _ sz⟩ ?_ λb o e n=>⟨k2 _ b o (U b n) e,?_⟩
  .rw[jJ];exact TriplesOk_snoc _ _ _ _ t.ok
  .rw[jJ]at z;rcases r8 _ t.ok z with z|rfl
   .obtain⟨c4,o4,S,t4,rfl,P,r4⟩:=t.code p R z;exact⟨c4,o4,S,t4,rfl,ch _ _ (λy=>by rw[y,l]at P;cases P) P,r4⟩
   .exact cT
  .rw[UU (U _ fresh) (qH1 M)];exact fresh
  .exact I.un (t':=V) (rZ l i v (k2 _) ⟨_,qA4 _ A⟩ ⟨_,rfl⟩) (rY I.hok l i v (k2 _) (qA4 _ A) (qA4 _ O))
  .rw[UU (U b n) (qB7 (qB3 (qB0 e) i))];exact n
end
noncomputable def Vz(S:ZX):Option Str:=match (S[0]?:Option O)with
 |some (O.tb x)=>Z9 x
 |_=>Z8
theorem Fx{S:ZX}{x:Str}(h:Vz S=Z9 x):S[0]?=Z9 (.tb x):=by
 unfold Vz at h;split at h
 .rename_i e;cases h;exact e
 .cases h
theorem rV{S:ZX}{x:Str}(h:S[0]?=Z9 (.tb x)):Vz S=Z9 x:=by unfold Vz;rw[h]
noncomputable def Qd(x:Str)(b:List (Str×Str))(js:List Nat)(cb:C):C:=fun B S=>if Vz S=Z9 x then(match cb (W2 0 js B) S with
 |.ok _ a=>.ok .non a
 | .er c a=>(match b.lookup c with
  |some w=>.ok (.str w) a
  | none=>.bad)
 | .bad=>.bad)else .bad
inductive Rr(K:yQ)(mg:Str->yF)(tk:Str)(ws:List (Str×Str)):Prop
 |mk (st:vK) (fa:yR) (fd:jW) (c y:Str) (h0:jV) (hs:List jV) (p1 p2 p3 p4 p5 p6 p7 p8 p9:Pos) (j:Nat) (wa:List (yR×Str)) (F:WZ K tk tk st fa fd) (m:mg tk=Z9 (.ref fa)) (b:VZ K fd [c] []) (S:Ti [c,y] [c] (Zi st))
   (body:Xk st=Le c y y h0 hs p1 p2 p3 p4 p5 p6 p7 p8 p9 j) (hc1:YL c) (hc2:(c == ("__classdict__":Str))=Z5) (hl:(Zi st).names.lookup y=Z9 .local) (hy1:YL y) (hy2:(y == ("__classdict__":Str))=Z5)
   (hs:∀X:Cx,X.mg=mg->X.env.scope=Zi st->X.N=[c,y]->WE X 1 (h0::hs) wa) (pk:∀c w C,ws.lookup c=Z9 w->mg c=Z9 (.ref C)->TZ K (.ref C) wa w)
section
variable {X:Cx}{pins:yD}{Z:St}{H H':Hp}{s:yS}{K:yQ}{J:yC}{S:ZX}
theorem SR.made(d:SR K J S H){T:yR}{x:Str}{ps:yJ}(g:J[0]?=Z9 T)(l:S[0]?=Z9 (.tb x))(h:H T=Z9 (.tbl ps))(ch:∀b o,b≠T->H b=Z9 o->H' b=Z9 o)(t:∃ps,H' T=Z9 (.tbl ps)/\UA K (Wf x) H' T x ps):SR K J S H'/\ZM K J J H H':=by
 have k:=qB6 g;have j:TF K H H':=Gd (λq o n e=>ch q o n e) (λr e=>by rw[h]at e;cases e) λa b e=>by rw[h]at e;cases e
 refine⟨⟨d.len,d.nd,λn a o c f=>?_⟩,⟨⟨[],by simp,by simp⟩,λb o m e=>ch b o (λz=>m (z▸k)) e,j⟩⟩;by_cases i:n=0
 .subst i;rw[g]at c;cases c;rw[l]at f;cases f;exact t
 .have ne:a≠T:=λz=>by subst z;exact i ((qK9 (qA1.mp c).1 d.nd).mp (c.trans g.symm))
  obtain⟨p,q⟩:=d.isS (qB6 c);exact(d.obj n a o c f).up j ⟨[],by simp⟩ (by rw[ch a p ne q,q])
structure KI(X:Cx)(params:vV)(scope:jR)(N:yH)(js:List Nat):Prop where
 kind:scope.kind=.function
 co:scope.isCoroutine=Z5
 gen:scope.isGenerator=Z5
 nocell:∀x∈scope.names,x.2≠.cell
 args:params={ posonlyargs:=[],args:=[],vararg:=Z8,kwonlyargs:=[],kw_defaults:=[],kwarg:=Z8,defaults:=[] }
 frees:∀x,(x,NameKind.free)∈scope.names->X.env.scope.names.lookup x=Z9 .cell
 len:js.length=N.length
 slot:∀(i j:Nat),js[i]?=Z9 j->∃x,N[i]?=Z9 x/\X.N[j]?=Z9 x/\scope.names.lookup x=Z9 .free
theorem Fw{f:vV}{scope:jR}{N:yH}{js:List Nat}{h:jE}(I:ZR X pins Z H s)(L:KI X f scope N js)(k:∀b o,s.heap.get? b=Z9 o->H b=Z8->∃A,h.get? b=Z9 { o with slots:=A }):Lf N (WY 0 js Z) scope (Yn X.env scope.names []) H h:=by
 have B:∀x c v,X.env.cells.lookup x=Z9 c->s.heap.IsCell c v->h.IsCell c v:=λx c v e z=>by obtain⟨o,w,d⟩:=z;obtain⟨A,n⟩:=k c o w (I.freeC x c e);exact⟨_,n,d⟩
 have M:=λx a=>I.ok.has x (.inl (L.frees x a));have g:=λx a=>RP scope.names [] x (.inr ⟨a,M x a⟩);refine⟨λx y c q t=>I.ok.inj x y c (Wj q) (Wj t),λx a=>?_,λi x v q t=>?_,λx c e=>?_,by unfold WY;simp[L.len]⟩
 .rcases a with a|a
  .exact absurd rfl (L.nocell _ (RO a))
  .exact g x (RO a)
 .obtain⟨j,_,w,n⟩:=LI t;obtain⟨Q,G,P,D⟩:=L.slot i j w;rw[q]at G;cases G;have a:=RO D;have C:=L.frees x a;obtain⟨m,R,O⟩:=I.loc;obtain⟨u,r,l⟩:=O j x v P n (.inr (.inl C));obtain⟨c,p⟩:=g x a;refine⟨u,c,r,D,p,?_⟩;rcases l with⟨l,_⟩| ⟨_,T,F,z⟩
  .have E:X.env.scope.names.lookup x=Z9 .local:=l;rw[C]at E;cases E
  .rw[Wj p]at F;cases F;exact B x c _ (Wj p) z
 .obtain⟨v,z⟩:=I.cell x c (Wj e);exact⟨⟨v,B x c v (Wj e) z⟩,I.freeC x c (Wj e)⟩
theorem rT{tk x:Str}{ws:List (Str×Str)}{js:List Nat}{cb:C}{a:vV}{i:yZ}{scope:jR}{N:yH}{p O pos:Pos}(Tk:Rr X.K X.mg tk ws)(L:Ut X x)(hg:Gl X tk)(hdb:YL tk)(hr:Zj 2 X.A)(lt:KI X a scope N js)
  (l:∀(f:yR) (cd:yU) (cl:List (Str×yR)) (e1:Env) (g:List Env) (s:yS) (H:Hp) (E:XK),PE (UB X.prog X.w X.K X.mg X.base N (Wf x) scope f cd cl (X.A.deeper e1) g s H E) i (Y3 (UB X.prog X.w X.K X.mg X.base N (Wf x) scope f cd cl (X.A.deeper e1) g s H E) cb)) :
  PE X (.Call (.Name tk p) [.Lambda a i scope O] [] pos) (Zz X.K (Qd x ws js cb)):=by
 rintro pins s Z H Q I ⟨J,B,S,d,S',V,re,e,y⟩;obtain⟨st,fa,fd,c,yy,h0,hs,p1,p2,p3,p4,p5,p6,p7,p8,p9,j,wa,F,m,bi,Sc,bod,hc1,hc2,hl,hy1,hy2,W,pk⟩:=Tk;unfold Qd at e;split at e
 .rename_i A;have A:=Fx A;obtain⟨T,G⟩:∃T,J[0]?=Z9 T:=by
   have:0<J.length:=by rw[V.len];exact(qA1.mp A).1
   exact⟨_,qA6 this⟩
  obtain⟨ps,hT,tt⟩:=V.obj 0 T _ G A;have hcl:=Os λx hx=>I.ok.has x (.inl (lt.frees x hx));refine vB (Ub I hg m ?_ hdb);refine mY I.ok.mod.kin F.kp (wP (Fy I L hT tt hcl (by rw[lt.args];rfl) λf H1 s1 M P kp=>wX ⟨P.kIn,?_⟩)) rfl rfl;obtain⟨sr1,t⟩:=V.made G A hT M.ch M.tab;obtain⟨cv,ctv,pm,hf,cT⟩:=M.fn;have Y:=(re.up t).comp 0 js;refine fZ (vW (vb (Q:=Q) F Sc bi bod hc1 hc2 hl hy1 hy2 hr.depth hr.hd P.env0 (λU=>W _ rfl rfl rfl) λU=>?_) λr s' D=>?_)
  .intro pins2 Z2 s2 R;have z:=R.base.keep f _ hf M.free M.fr (by show f∉([]);simp);refine⟨⟨_,_,_,_,z⟩,?_⟩;have hcd:s2.heap.CodeRec cv (Wf x):=by obtain⟨c3,o3,vs3,t3,rfl,h3,d3,q3⟩:=cT;exact⟨c3,o3,vs3,t3,rfl,(R.hok c3 _ h3).1,d3,q3⟩
   have ls:=Fw P lt λb o e n=>R.base.any e n (by show b∉([]);simp);refine Ge (hr.deeper _) (qA7 _) R.env0 z hcd lt.kind lt.co lt.gen lt.nocell (by rw[lt.args];rfl) ls (l _ _ _ _ _ _ _ _) ⟨J,W2 0 js B,S,sr1,Y,?_⟩;revert e;cases cb (W2 0 js B) S with
   |bad=>exact λe=>by cases e
   |ok d' S2 =>
    intro e;cases e;exact λv H2 J2 h q rv=>y _ H2 J2 h (t.trans q h.nd) Uw
   |er k S2 =>
    intro e H2 J2 h q C hC;dsimp only at e;split at e
    .rename_i w hw;cases e;exact KP Gf ⟨w,pk k w C hw hC,y _ H2 J2 h (t.trans q h.nd) K3⟩
    .cases e
  .cases r with
   |error e=>exact False.elim D
   |ok fl =>
    cases fl with
    |ret u=>exact P.after D
    |next=>exact False.elim D
    |brk=>exact False.elim D
    |cont=>exact False.elim D
 .cases e
end
noncomputable def XO:yH:=["TooMany","NoContact","NoBridge","NoName","BadNote","NoPlace","NoTable"]
noncomputable def Xq(K:yQ)(c:Str):Option Addr:=match gA K y9 c with
 |some (Z9 (.ref C))=>Z9 C
 |_=>Z8
theorem Fv{K:yQ}{c:Str}{C:yR}(h:Xq K c=Z9 C):gA K y9 c=Z9 (Z9 (.ref C)):=by
 unfold Xq at h;split at h
 .rename_i q;cases h;exact q
 .cases h
theorem rS{K:yQ}{c:Str}{C:yR}(h:gA K y9 c=Z9 (Z9 (.ref C))):Xq K c=Z9 C:=by unfold Xq;rw[h]
noncomputable def Fu(K:yQ)(c:Str):Bool:=match Xq K c with
 |some C=>mB K (.ref C) "__getattribute__" == Z9 (Z9 (.builtin "BaseException.__getattribute__"))&&mB K (.ref C) "__class__" == Z9 (Z9 (.builtin "object.__class__"))&&W.mroIn K C (.type "object") == Z9 Z7&&W.mroIn K C (.type "BaseException") == Z9 Z7
   && mB K (.ref C) "__getattr__" == Z9 Z8&&(W.clsIn K C).isSome&&vY K (.ref C) (.type "ValueError") == Z9 Z7&&vY K (.type "NoneType") (.ref C) == Z9 Z5
 |none=>Z5
noncomputable def Fs(K:yQ)(c g:Str):Bool:=match Xq K c,Xq K g with
 |some C,Z9 G=>vY K (.ref C) (.ref G) == Z9 (c == g)
 |_,_=>Z5
noncomputable def Us(K:yQ):Bool:=XO.all λc=>Fu K c&&XO.all λg=>Fs K c g
theorem Qc{K:yQ}(h:Us K=Z7){c:Str}(i:c∈XO):∃C,Xq K c=Z9 C/\VF K C/\vY K (.ref C) (.type "ValueError")=Z9 Z7/\vY K (.type "NoneType") (.ref C)=Z9 Z5:=by
 have a:=(qP2.mp (qD2.mp h c i)).1;unfold Fu at a;split at a
 .rename_i C q;simp only[qC5,beq_iff_eq]at a;obtain⟨⟨⟨⟨⟨⟨⟨j,k⟩,b⟩,g⟩,d⟩,f⟩,e⟩,l⟩:=a;exact⟨C,q,⟨j,k,b,g,d,f⟩,e,l⟩
 .cases a
theorem rR{K:yQ}(h:Us K=Z7){c g:Str}(e:c∈XO)(b:g∈XO){C G:yR}(d:Xq K c=Z9 C)(f:Xq K g=Z9 G):vY K (.ref C) (.ref G)=Z9 (c == g):=by have a:=qD2.mp (qP2.mp (qD2.mp h c e)).2 g b;unfold Fs at a;rw[d,f]at a;exact beq_iff_eq.mp a
noncomputable def YX(g:Str):D->M D:=λx S=>match x with
 |.xc c=>if c∈XO then .ok (.bl (c == g||g == ("ValueError":Str))) S else .bad
 |.non=>.ok (.bl Z5) S
 |_=>.bad
section
variable {X:Cx}{a:yZ}{ca:C}{g:Str}{p p2 pos:Pos}
theorem rQ{f:yD}{Z:St}{H:Hp}{s:yS}{Q:VK}{G:yU}{d:D}{v:V}{u:yU}{b:Bool}{J:yC}(I:ZR X f Z H s)(r:ZK v u)(h:RV X.K H J d v)(xk:Us X.K=Z7)
  (e:d=.non/\vY X.K (.type "NoneType") G=Z9 b∨∃c C,d=.xc c/\c∈XO/\Xq X.K c=Z9 C/\vY X.K (.ref C) G=Z9 b) (q:Q (.bl b) H):y7 (yW X.prog X.w) X.A (call (.builtin "isinstance") [u,G]) (EP X f Z Q) X.xe s:=by
 rcases e with⟨rfl,e⟩| ⟨c,C,rfl,l,j,e⟩
 .subst h;cases (r);exact wV W.kitx_none I.kIn True.intro e (λz=>nomatch z) λi=>⟨.bl b,H,I.tok i,rfl,q⟩
 .unfold RV at h;obtain⟨t,m,x,rfl,n,o,w⟩:=h;have:=rS w;rw[j]at this;cases this;cases (r);obtain⟨y,k,k2,_⟩:=Qc xk l;rw[j]at k;cases k;exact wV (uY k2) I.kIn ⟨m,(I.hok t _ n).1,o⟩ e (λz=>nomatch z) λi=>⟨.bl b,H,I.tok i,rfl,q⟩
theorem rP(ha:PE X a (Zz X.K ca))(E:Gl X "isinstance")(D:X.mg "isinstance"=Z8)(xk:Us X.K=Z7)
  (k:(g = "ValueError"/\Gl X g/\X.mg g=Z8)∨(g∈XO/\Gl X g/\(∃G,X.mg g=Z9 (.ref G)/\Xq X.K g=Z9 G)/\YL g)) (L:jG [a,.Name g p2] X.env=(Z5,vO a X.env)::jG [.Name g p2] X.env) :
  PE X (.Call (.Name "isinstance" p) [a,.Name g p2] [] pos) (Zz X.K (Xj (YX g) ca)):=by
 obtain⟨o,j,w,A,W,kX⟩:∃(o:V) (j:yU),(∀u,ZK o u->u=j)/\PE X (.Name g p2) (tC o)/\vY X.K (.type "NoneType") j=Z9 Z5/\∀c C,c∈XO->Xq X.K c=Z9 C->vY X.K (.ref C) j=Z9 (c == g||g == ("ValueError")):=by
  rcases k with⟨rfl,k,t⟩| ⟨n,k,⟨G,t,K⟩,hd⟩
  .refine⟨.ty "ValueError",.type "ValueError",λu h=>h,HW k t (by decide +kernel) rfl (by decide +kernel) (by decide +kernel),rfl,λc C f z=>?_⟩;obtain⟨C',i,_,k3,_⟩:=Qc xk f;rw[z]at i;cases i;rw[k3,beq_self_eq_true,Bool.or_true]
  .obtain⟨G',i,_,_,k4⟩:=Qc xk n;rw[K]at i;cases i;refine⟨.ref G,.ref G,λu h=>h,Cm k t rfl hd,k4,λc C f z=>?_⟩;rw[rR xk f n z K];have:(g == ("ValueError"))=Z5:=by simp only[XO,qA9,qD3,or_false]at n;rcases n with rfl|rfl|rfl|rfl|rfl|rfl|rfl<;>decide +kernel
   rw[this,Bool.or_false]
 have f:Ys X (.builtin "isinstance") (λY H Q=>∃v d J b,Y=[v,o]/\RV X.K H J d v/\(d=.non/\vY X.K (.type "NoneType") j=Z9 b∨∃c C,d=.xc c/\c∈XO/\Xq X.K c=Z9 C/\vY X.K (.ref C) j=Z9 b)/\Q (.bl b) H):=by intro M s Z H xs us Q I r h;obtain⟨v,d,J,b,rfl,O,e,q⟩:=h;obtain⟨u,U,rfl,ru,R⟩:=RX r;have:=w U R;subst this;exact rQ I ru O xk e q
 refine(L5 f E D (by decide +kernel) (QO ha (QO A OF) L) (by decide +kernel) (by decide +kernel) L rfl).weak ?_;rintro Z H Q ⟨J,B,S,d,S',T,P,e,y⟩;obtain⟨x,S1,e1,e⟩:=Y8 e;refine⟨J,B,S,x,S1,T,P,e1,λv H1 N m l F=>?_⟩;unfold YX at e;split at e
 .rename_i c;split at e
  .rename_i f;cases e;obtain⟨C,i,_⟩:=Qc xk f;exact⟨v,_,N,_,rfl,F,.inr ⟨c,C,rfl,f,i,kX c C f i⟩,(y.shift l).self m WX⟩
  .cases e
 .cases e;exact⟨v,_,N,_,rfl,F,.inl ⟨rfl,W⟩,(y.shift l).self m WX⟩
 .cases e
end
noncomputable def Vb(n:Nat)(d:D):ZT:=Z8::some d::qE7 (n - 2) Z8
noncomputable def V7:RS->R D
 |.rt d S=>.ok d S
 |.nx _ S=>.ok .non S
 |_=>.bad
noncomputable def UT(x:Str)(n:Nat)(b:CS)(js:List Nat)(cb:C):C:=fun B S=>if Vz S=Z9 x then(match cb (W2 0 js B) S with
 |.ok _ a=>V7 (b (Vb n .non) a)
 |.er c a=>if c∈XO then V7 (b (Vb n (.xc c)) a)else .bad
 | .bad=>.bad)else .bad
noncomputable def Fq(c y en g:Str)(p1 p2 p3 p4 e f b d q2 q3 q4 a:Pos)(j:Nat)(ZG:List vK):List vK :=
 .Assign [.Name y p1] (.Constant .none j p2) p3::.Try [.Expr (.Call (.Name c p4) [] [] e) f] [.ExceptHandler (Z9 (.Name g d)) (Z9 en) [.Assign [.Name y q2] (.Name en q3) q4] a] [] [] b::ZG
structure Qb(st:vK)(c y en g:Str)(N:yH)(ZG:List vK):Prop where
 body:∃p1 p2 p3 p4 p5 p6 p7 q1 q2 q3 q4 q5 j,Xk st=Fq c y en g p1 p2 p3 p4 p5 p6 p7 q1 q2 q3 q4 q5 j ZG
 sc:Ti N [c] (Zi st)
 n:∃more,N=c::y::en::more
 ly:(Zi st).names.lookup y=Z9 .local
 le:(Zi st).names.lookup en=Z9 .local
 lg:(Zi st).names.lookup g=Z9 .globalImplicit
 c1:YL c
 c2:(c == ("__classdict__":Str))=Z5
 e1:YL en
 e2:(en == ("__classdict__":Str))=Z5
 g1:YL g
inductive KH(P:y4)(w:jD)(K:yQ)(mg:Str->yF)(base:jE)(tk:Str)(n:Nat)(b:CS):Prop
 |mk (st:vK) (fa:yR) (fd:jW) (c y en g:Str) (N:yH) (ZG:List vK) (C:yR) (F:WZ K tk tk st fa fd) (m:mg tk=Z9 (.ref fa)) (bi:VZ K fd [c] []) (tx:Qb st c y en g N ZG) (hl:N.length=n) (hm:mg g=Z9 (.ref C))
   (hx:∀x∈XO,∀D,Xq K x=Z9 D->mg x=Z9 (.ref D)/\gB K (.ref D) (.ref C)=Z9 Z7)
   (rs:∀(cdv:yU) (A:jC) (outer:List Env) (s:yS) (H:Hp),Zj 1 A->XE (YQ Wk P w K mg base N tk (Zi st) fa cdv A outer s H E0) ZG (Zl (YQ Wk P w K mg base N tk (Zi st) fa cdv A outer s H E0) b))
section
variable {P:y4}{w:jD}{K:yQ}{mg:Str->yF}{base:jE}
theorem rO{tk c y en g:Str}{st:vK}{n f C:yR}{fd:jW}{N:yH}{ZG:List vK}{b:CS}{A:jC}{d:List Env}{s:yS}{H:Hp}{Q:VK}(F:WZ K tk tk st n fd)(bi:VZ K fd [c] [])(m:Qb st c y en g N ZG)(hm:mg g=Z9 (.ref C))
  (rs:∀(h:yU),XE (YQ Wk P w K mg base N tk (Zi st) n h A d s H E0) ZG (Zl (YQ Wk P w K mg base N tk (Zi st) n h A d s H E0) b))
  (hd:A.depth<lQ) (hh:A.handled=Z8) (M:WG P w K mg base A d s H)
  (lc:∀h,Vf (YQ Wk P w K mg base N tk (Zi st) n h A d s H E0) f H (λ_ i=>Zl (YQ Wk P w K mg base N tk (Zi st) n h A d s H E0) b { nx:=λ_ i=>Q .non i,rt:=Q } (Z9 (.ref f)::some .non::qE7 (N.length - 2) Z8) i)
   λD _ i=>gB K D (.ref C)=Z9 Z7/\∀e W,i e=Z8->W.cls=D->Zl (YQ Wk P w K mg base N tk (Zi st) n h A d s H E0) b { nx:=λ_ i=>Q .non i,rt:=Q } (Z9 (.ref f)::some (.ref e)::qE7 (N.length - 2) Z8) (ZD i e (Ve e W))) :
  wB (yW P w) A (.call (.ref n) ⟨[.ref f],[]⟩) (CR Wk d P w H s Q E0) s:=by
 obtain⟨oc,od,kV,doc,pm,an,h,ct,osl,rfl,lk,hcd⟩:=F.ex;have S:=m.sc;obtain⟨more,U⟩:=m.n;obtain⟨p1,p2,p3,p4,p5,p6,p7,q1,q2,q3,q4,q5,j,E⟩:=m.body;have KX:=M.mod.kin.keeps λb o e=>(M.bs b o e).1;have lim:=M.mod.nolimit.keeps λb o e=>(M.bs b o e).1;have G:∀z∈[(c,Value.ref f)],(Zi st).names.lookup z.1=Z9 .local∨((Zi st).names.lookup z.1=Z9 .cell/\((vG (s.heap.objs.size+1) (Zi st).names []).lookup z.1).isSome=Z7):=λz hz=>by
  simp only[qA9,qD3,or_false]at hz;subst hz;rcases S.par c (by simp)with q|q
  .exact .inl q
  .exact .inr ⟨q,fD _ _ _ (.inl q)⟩
 refine fA hd (KX _ _ lk) rfl S.co S.gen rfl (m7 KX hcd) (bi s [.ref f] KX rfl _ _ _ _ (wG S.kind G λenv he s1 z=>?_));subst he;refine⟨lim.keeps z.toInCall.keep,dA ?_⟩;have I:ZR (YQ Wk P w K mg base N tk (Zi st) n h A d s H E0) [] (start N [.ref f]) H s1:=L6 S hh M rfl (.cons rfl .nil) z;rw[E];obtain⟨X,k⟩:∃X,YQ Wk P w K mg base N tk (Zi st) n h A d s H E0=X:=⟨_,rfl⟩
 have x:X.N=N:=by rw[<- k];rfl
 have i0:X.N[0]?=Z9 c:=by rw[x,U];rfl
 have i1:X.N[1]?=Z9 y:=by rw[x,U];rfl
 have i2:X.N[2]?=Z9 en:=by rw[x,U];rfl
 have hn:X.N.Nodup:=by rw[x];exact S.nd
 have hv:VM X.env.scope c:=by rw[<- k];exact(S.par c (by simp)).elim .inl λq=>.inr (.inl q)
 have ly:X.env.scope.names.lookup y=Z9 .local:=by rw[<- k];exact m.ly
 have le:X.env.scope.names.lookup en=Z9 .local:=by rw[<- k];exact m.le
 have lg:Gl X g:=by rw[<- k];exact m.lg
 have mg':X.mg g=Z9 (.ref C):=by rw[<- k];exact hm
 have a:=RZ (pos:=p3) (Mq (j:=j) (pos:=p2)) (T9 (pos:=p1) hn i1 (.inl ly) (.inr ly));have t:=uU (p1:=p4) (p2:=p5) (p3:=p6) (p4:=p7) (p:=q1) (q:=q2) (q2:=q3) (q3:=q4) (q4:=q5) (f:=f) (by rw[<- k];rfl) (by rw[<- k];rfl) (by rw[<- k];rfl) hn i0 hv m.c1 m.c2 lg mg' m.g1 i2 le m.e1 m.e2 i1 ly;have O:=rs h;have L:=lc h;have ln:N.length=more.length+3:=by rw[U];simp
 have e1:(start N [V.ref f]).set 1 (Z9 .non)=Z9 (.ref f)::some .non::qE7 (N.length - 2) Z8:=by unfold start;rw[ln];rfl
 have e2:∀e:yR,((((start N [V.ref f]).set 1 (Z9 .non)).set 2 (Z9 (.ref e))).set 1 (Z9 (.ref e))).set 2 Z8=Z9 (.ref f)::some (.ref e)::qE7 (N.length - 2) Z8:=λe=>by rw[e1,ln];rfl
 have e3:X.K=K:=by rw[<- k];rfl
 rw[k]at O L I;have run:=Ua a (Ua t O) [] s1 _ H { nx:=λ_ i=>Q .non i,rt:=Q } I ⟨by rfl,λR Z s2 I2=>?_⟩
 .rw[<- k]at run;refine jL run (λY s' q=>?_) λe s' q=>q;cases Y with
  |ret u =>
   obtain⟨v,Z',i,B,rv,q⟩:=q;exact⟨v,i,B.os,B.bare,B.base,B.hok,rv,q⟩
  |next =>
   obtain⟨Z',i,B,q⟩:=q;exact⟨.non,i,B.os,B.bare,B.base,B.hok,rfl,q⟩
  |brk =>
   obtain⟨_,_,_,q⟩:=q;exact False.elim q
  |cont =>
   obtain⟨_,_,_,q⟩:=q;exact False.elim q
 .obtain⟨z1,z2⟩:=L R Z s2 I2;refine⟨z1,vW z2 λr s' q=>?_⟩;cases r with
  |error ev =>
   obtain⟨e,T,D,i,rfl,tr,ne,nT,os,l,un,J,he,hT,hx,hD⟩:=q;refine⟨e,T,D,i,rfl,tr,ne,nT,os,l,un,J,he,hT,by rw[e3];exact hx,λe W q1 q2=>?_⟩;rw[e2];exact hD e W q1 q2
  |ok Y =>
   cases Y with
   |ret u =>
    obtain⟨v,i,os,l,un,J,r,q⟩:=q;refine⟨v,i,os,l,un,J,r,?_⟩;rw[e1];exact q
   |next=>exact q
   |brk=>exact q
   |cont=>exact q
end
section
variable {X:Cx}{pins:yD}{Z:St}{H H':Hp}{s:yS}{K:yQ}{J:yC}{S:ZX}
theorem Fp{n:Nat}{d:D}{v w:V}(r:RV K H J d v):RE K H J (Vb n d) (Z9 w::some v::qE7 (n - 2) Z8):=by
 refine⟨by simp[Vb],λi a e=>?_⟩;unfold Vb at e
 match i,e with
 |0,e=>simp at e
 |1,e=>simp at e;subst e;exact⟨v,rfl,r⟩
 |i+2,e =>
  simp only[qF9]at e;rw[qH3]at e;split at e<;>cases e
theorem Fo{b:CS}{Q:VK}{d:D}{B:ZT}{S c:ZX}(e:V7 (b B S)=.ok d c)(y:Yc X.K J H d c Q):UW X J H { nx:=λ_ a=>Q .non a,rt:=Q } (b B S):=by
 revert e;cases b B S with
 |rt j f=>intro e;cases e;exact y
 |nx k f=>intro e;cases e;exact fun l a g h st i=>y _ a g h st Uw
 |bad=>intro e;cases e
 |er _ _=>intro e;cases e
 |bk _ _=>intro e;cases e
 |ct _ _=>intro e;cases e
theorem rN{tk x:Str}{n:Nat}{b:CS}{js:List Nat}{cb:C}{a:vV}{j:yZ}{scope:jR}{N:yH}{p P pos:Pos}(Rk:KH X.prog X.w X.K X.mg X.base tk n b)(xe:∀c∈XO,∀C,X.mg c=Z9 (.ref C)->Xq X.K c=Z9 C)(L:Ut X x)(hg:Gl X tk)(hdb:YL tk)(W:Zj 2 X.A)(lt:KI X a scope N js)
  (l:∀(f:yR) (cd:yU) (cl:List (Str×yR)) (e1:Env) (h:List Env) (s:yS) (H:Hp) (E:XK),PE (UB X.prog X.w X.K X.mg X.base N (Wf x) scope f cd cl (X.A.deeper e1) h s H E) j (Y3 (UB X.prog X.w X.K X.mg X.base N (Wf x) scope f cd cl (X.A.deeper e1) h s H E) cb)) :
  PE X (.Call (.Name tk p) [.Lambda a j scope P] [] pos) (Zz X.K (UT x n b js cb)):=by
 rintro pins s Z H Q I ⟨J,B,S,d,S',Y,re,e,y⟩;obtain⟨st,fa,fd,c,yy,en,g,N',ZG,C,F,m,bi,tx,hl,hm,hx,rs⟩:=Rk;unfold UT at e;split at e
 .rename_i A;have A:=Fx A;obtain⟨T,M⟩:∃T,J[0]?=Z9 T:=by
   have:0<J.length:=by rw[Y.len];exact(qA1.mp A).1
   exact⟨_,qA6 this⟩
  obtain⟨ps,hT,tt⟩:=Y.obj 0 T _ M A;have hcl:=Os λx hx=>I.ok.has x (.inl (lt.frees x hx));refine vB (Ub I hg m ?_ hdb);refine mY I.ok.mod.kin F.kp (wP (Fy I L hT tt hcl (by rw[lt.args];rfl) λf H1 s1 O U kp=>wX ⟨U.kIn,?_⟩)) rfl rfl;obtain⟨sr1,t⟩:=Y.made M A hT O.ch O.tab;obtain⟨cv,ctv,pm,hf,cT⟩:=O.fn;have re1:=(re.up t).comp 0 js;refine fZ (vW (rO (Q:=Q) F bi tx hm (λw=>rs w _ _ _ _ (W.mono (by omega))) W.depth W.hd U.env0 λw=>?_) λr s' G=>?_)
  .intro pins2 Z2 s2 V;have z:=V.base.keep f _ hf O.free O.fr (by show f∉([]);simp);refine⟨⟨_,_,_,_,z⟩,?_⟩;have hcd:s2.heap.CodeRec cv (Wf x):=by obtain⟨c3,o3,vs3,t3,rfl,h3,d3,q3⟩:=cT;exact⟨c3,o3,vs3,t3,rfl,(V.hok c3 _ h3).1,d3,q3⟩
   have ls:=Fw U lt λb o e n=>V.base.any e n (by show b∉([]);simp);refine Ge (W.deeper _) (qA7 _) V.env0 z hcd lt.kind lt.co lt.gen lt.nocell (by rw[lt.args];rfl) ls (l _ _ _ _ _ _ _ _) ⟨J,W2 0 js B,S,sr1,re1,?_⟩;revert e;cases cb (W2 0 js B) S with
   |bad=>exact λe=>by cases e
   |ok d' S2 =>
    intro e v H2 J2 i q rv;refine⟨J2,Vb n .non,S2,i,by rw[hl];exact Fp Uw,?_⟩;exact Fo e (y.shift (t.trans q i.nd))
   |er k S2 =>
    intro e H2 J2 i q C' hC;dsimp only at e;split at e
    .rename_i hk;have R:=xe k hk C' hC;refine KP Gf ⟨(hx k hk C' R).2,λea oe hn hoc=>?_⟩;obtain⟨D,st3⟩:=i.other hn;refine⟨J2,Vb n (.xc k),S2,D,?_,?_⟩
     .rw[hl];refine Fp ?_;exact⟨ea,oe,C',rfl,XA,hoc,Fv R⟩
     .exact Fo e (y.shift ((t.trans q i.nd).trans st3 D.nd))
    .cases e
  .cases r with
   |error e=>exact False.elim G
   |ok fl =>
    cases fl with
    |ret u=>exact U.after G
    |next=>exact False.elim G
    |brk=>exact False.elim G
    |cont=>exact False.elim G
 .cases e
end
structure Sc where
 N:yH
 names:List (Str×jS)
 fn:Option Str
noncomputable abbrev V6:yH:=XO
noncomputable def rM:yH:=["refuse_no_place","refuse_no_contact","net_within","in_row","side_by_side","net_of","levels_to"]
noncomputable def Zw:Str := "law"
noncomputable def SE:List (Str×List (Str×Str)):=[]
noncomputable def V5:CS:=(ZV (ZI (YN (ZP [(Xj (YX "TooMany") (ZY 1)),(Xj (YX "NoContact") (ZY 1)),(Xj (YX "NoBridge") (ZY 1))])) (gN 3)) (ZV (ZI (ZU YY (ZY 3) (YN (ZP [(Xj (YX "NoName") (ZY 1)),(Xj (YX "BadNote") (ZY 1)),(Xj (YX "NoPlace") (ZY 1))]))) (gN 3)) (ZV (WK (Wt "list" (X3 XU) (ZY 3) (ZP [(Xj (YX "NoTable") (ZY 1))]))) (ZV (X9 (VX (YZ (Xj (YX "ValueError") (ZY 1)))) (ZV (ZF (ZW .non)) ZH) ZH) (ZV (ZF (Yv (WA (ZP [(ZW (.int 7))])) 1 [3] .one ((YZ (ZU Zu (ZY 1) (ZY 0)))) ((ZY 0)))) ZH)))))
noncomputable def NS:yH:=["_law_refused"]
noncomputable def Qa:yH:=["len","range","list","tuple","min","max","zip","isinstance","all","any","int","bool","enumerate","str","sorted","dict","sum","repr","set","abs"]
structure Vy(ar:Str->yK)(mg:Str->yF):Prop where
 b:∀y:Str,y∈Qa->ar y=Z8->mg y=Z8
structure Y9(X:Cx)(sc:Sc)(ar:Str->yK)(cl:Str->List D->M D)(k:Nat):Prop where
 calm:X.calm=Z7
 N:X.N=sc.N
 nd:sc.N.Nodup
 gl:∀x,sc.names.lookup x=Z9 .globalImplicit->Gl X x
 loc:∀x,sc.names.lookup x=Z9 .local->X.env.scope.names.lookup x=Z9 .local
 cel:∀x,sc.names.lookup x=Z9 .cell->X.env.scope.names.lookup x=Z9 .cell
 fre:∀x,sc.names.lookup x=Z9 .free->X.env.scope.names.lookup x=Z9 .cell∨X.env.scope.names.lookup x=Z9 .free
 fnn:sc.fn.isSome=Z7->∀x,X.fn x=Z7
 room:Zj (3*k) X.A
 roomT:sc.fn=Z9 Zw->Zj (3*k+2) X.A
 lam:sc.fn=Z9 Zw->Ut X Zw
 tk:sc.fn=Z9 Zw->∀t ws,SE.lookup t=Z9 ws->Rr X.K X.mg t ws
 rf:sc.fn=Z9 Zw->∀t∈NS,KH X.prog X.w X.K X.mg X.base t 4 V5
 xk:Us X.K=Z7
 xm:∀c∈XO,∃C,X.mg c=Z9 (.ref C)/\Xq X.K c=Z9 C
 xv:X.mg "ValueError"=Z8
 own:fU (yW X.prog X.w) X.A X.env X.xe
 exc:∀x∈V6,∃C,X.mg x=Z9 (.ref C)/\W9 X.K C
 blt:Vy ar X.mg
 fns:∀x n,ar x=Z9 n->(∃ps,Ru X.prog X.w X.K X.mg X.base x ps (3*k) (Uu X.K X.mg (cl x) n))/\∀ds S,cl x ds S≠.bad->ds.length=n
section
variable {X:Cx}{sc:Sc}{ar:Str->yK}{cl:Str->List D->M D}{k:Nat}
theorem Y9.vis(h:Y9 X sc ar cl k){x:Str}(a:sc.names.lookup x=Z9 .local∨sc.names.lookup x=Z9 .cell∨sc.names.lookup x=Z9 .free):VM X.env.scope x:=by
 rcases a with q|q|q
 .exact .inl (h.loc x q)
 .exact .inr (.inl (h.cel x q))
 .exact .inr (h.fre x q)
noncomputable def KG(o:Option jS):Bool:=o == Z9 .local||o == Z9 .cell||o == Z9 .free
theorem rL{o:Option jS}(h:KG o=Z7):o=Z9 .local∨o=Z9 .cell∨o=Z9 .free:=by
 unfold KG at h;simp only[qI2,beq_iff_eq]at h;rcases h with(h|h)| h
 .exact .inl h
 .exact .inr (.inl h)
 .exact .inr (.inr h)
noncomputable def TM:yH->Str->Nat->yK
 |[],_,_=>Z8
 |y::r,x,i=>if y=x then Z9 i else TM r x (i+1)
theorem NR:∀{N:yH}{x:Str}{i j:Nat},TM N x i=Z9 j->i<=j/\N[j - i]?=Z9 x
 |[],_,_,_,h=>by cases h
 |y::r,x,i,j,h=>by
  unfold TM at h;split at h
  .simp_all
  .obtain⟨b,a⟩:=NR h;refine⟨by omega,?_⟩;have e:j - i=(j - (i+1))+1:=by omega
   rw[e,qF9];exact a
noncomputable def KE(a:Sc)(ar:Str->yK)(x:Str):Option C:=match TM a.N x 0 with
 |some i=>if KG (a.names.lookup x)&&!(x == ("__debug__":Str))&&!(x == ("__classdict__":Str))then Z9 (ZY i)else Z8
 |none=>if a.names.lookup x=Z9 .globalImplicit/\ar x=Z8 then
   (if x=("int":Str)then Z9 (ZW (.ty "int"))else if x=("bool":Str)then Z9 (ZW (.ty "bool"))else if x=("tuple":Str)then Z9 (ZW (.ty "tuple"))
    else if x=("list":Str)then Z9 (ZW (.ty "list"))else if x=("str":Str)then Z9 (ZW (.ty "str"))
    else Z8)
  else Z8
theorem rK(h:Y9 X sc ar cl k){x:Str}{pos:Pos}{c:C}(e:KE sc ar x=Z9 c):PE X (.Name x pos) (Zz X.K c):=by
 unfold KE at e;split at e
 .rename_i i s;split at e
  .rename_i j;cases e;simp only[qC5,qH5]at j;obtain⟨⟨o,p⟩,r⟩:=j;have:=(NR s).2;exact uQ (QZ (by rw[h.N];exact this) (h.vis (rL o)) p r)
  .cases e
 .split at e
  .rename_i a;have g:=h.gl x a.1;have d:∀n b l m f,PE X (.Name x pos) (Zz X.K (ZW (.ty n))):=λn b l m f =>
    Qm (HW (v:=.ty n) g f b rfl l m) λK H J=>by rfl
   split at e
   .rename_i q;subst q;cases e;exact d "int" G5 (by decide +kernel) (by decide +kernel) (h.blt.b _ (by decide +kernel) a.2)
   .split at e
    .rename_i q;subst q;cases e;exact d "bool" zj (by decide +kernel) (by decide +kernel) (h.blt.b _ (by decide +kernel) a.2)
    .split at e
     .rename_i q;subst q;cases e;exact d "tuple" G6 (by decide +kernel) (by decide +kernel) (h.blt.b _ (by decide +kernel) a.2)
     .split at e
      .rename_i q;subst q;cases e;exact d "list" LG (by decide +kernel) (by decide +kernel) (h.blt.b _ (by decide +kernel) a.2)
      .split at e
       .rename_i q;subst q;cases e;exact d "str" zh (by decide +kernel) (by decide +kernel) (h.blt.b _ (by decide +kernel) a.2)
       .cases e
  .cases e
noncomputable def Fn:Const->Option C
 |.none=>Z9 (ZW .non)
 |.bool b=>Z9 (ZW (.bl b))
 |.int i=>Z9 (ZW (.int i))
 |.str x=>Z9 (ZW (.str x))
 |_=>Z8
theorem rJ{v:Const}{j:Nat}{pos:Pos}{c:C}(e:Fn v=Z9 c):PE X (.Constant v j pos) (Zz X.K c):=by
 cases v with
 |none=>cases e;exact Qm Mq λ_ _ _=>Uw
 |bool b=>cases e;exact Qm Cn λ_ _ _=>WX
 |int i=>cases e;exact Qm Co λ_ _ _=>XH
 |str x=>cases e;exact Qm HX λ_ _ _=>K3
 |_=>cases e
noncomputable def Fm:mW->Option (D->D->M D)
 |.Add=>Z9 YY
 |.Sub=>Z9 (Zq λi j=>i - j)
 |.Mult=>Z9 XC
 |.Mod=>Z9 W8
 |.FloorDiv=>Z9 WW
 |.Pow=>Z9 VE
 |.LShift=>Z9 Yr
 |.RShift=>Z9 VD
 |.BitAnd=>Z9 (Zq jI)
 |.BitOr=>Z9 (Zq vC)
 |.BitXor=>Z9 (Zq lP)
 |_=>Z8
theorem KD{op:mW}{o:D->D->M D}(e:Fm op=Z9 o):YD X.K (Zm X (jK op)) o:=by
 cases op with
 |Add=>cases e;exact uk
 |Sub=>cases e;exact ur
 |Mult=>cases e;exact ui
 |Mod=>cases e;exact uh
 |FloorDiv=>cases e;exact ug
 |Pow=>cases e;exact uf
 |LShift=>cases e;exact ue
 |RShift=>cases e;exact ud
 |BitAnd=>cases e;exact uq
 |BitOr=>cases e;exact uo
 |BitXor=>cases e;exact um
 |_=>cases e
noncomputable def NQ:fY->Option (D->D->M D)
 |.Eq=>Z9 WD
 |.NotEq=>Z9 WM
 |.Lt=>Z9 VW
 |.LtE=>Z9 (Yq λi j=>decide (i<=j))
 |.Gt=>Z9 (Yq λi j=>decide (j<i))
 |.GtE=>Z9 (Yq λi j=>decide (j<=i))
 |.Is=>Z9 Qk
 |.IsNot=>Z9 Qj
 |.In=>Z9 (YG Z5)
 |.NotIn=>Z9 (YG Z7)
theorem Rq(h:Zj k X.A){op:fY}{o:D->D->M D}(e:NQ op=Z9 o):YD X.K (Zm X (y8 op)) o:=by
 have a:=h.units;have b:=h.units0;cases op with
 |Eq=>cases e;exact t7 a
 |NotEq=>cases e;exact t6 a
 |Lt=>cases e;exact t8 b
 |LtE=>cases e;exact ub
 |Gt=>cases e;exact ua
 |GtE=>cases e;exact t9
 |Is=>cases e;exact tZ
 |IsNot=>cases e;exact tY
 |In=>cases e;exact tV a
 |NotIn=>cases e;exact tU a
noncomputable def WT:yZ->Bool
 |.Starred _ _=>Z5
 |_=>Z7
theorem Xg{a:yZ}{es:yE}{env:Env}(h:WT a=Z7):jG (a::es) env=(Z5,vO a env)::jG es env:=by cases a<;>first|rfl|cases h
noncomputable def zA1?(f:yZ->Option C):yE->Option (List C)
 |[]=>Z9 []
 |e::a=>if WT e then(f e).bind λc=>(zA1? f a).map (c::·)else Z8
def XN(X:Cx)(f:yZ->Option C):Prop:=∀e c,f e=Z9 c->PE X e (Zz X.K c)
variable {f:yZ->Option C}
theorem Vx(d:XN X f):∀{es:yE}{cs:List C},zA1? f es=Z9 cs->PA X es (YH X.K (ZP cs))/\(∀e∈es,WT e=Z7)
 |[],cs,e=>by cases e;exact⟨K7,by simp⟩
 |a::es,cs,e=>by
  unfold zA1? at e;split at e
  .rename_i g;obtain⟨c,h,e⟩:=qA2.mp e;obtain⟨m,i,e⟩:=qA5.mp e;subst e;obtain⟨j,l⟩:=Vx d i;exact⟨N2 (d a c h) j (Xg g),λe b=>by
    rcases qA9.mp b with rfl|b
    .exact g
    .exact l e b⟩
  .cases e
theorem Ro{es:yE}{env:Env}{pos:Pos}(h:∀e∈es,WT e=Z7):(wO pos (jG es env)).any (·.1)=Z5:=by
 induction es with
 |nil=>rfl
 |cons a es b =>
  rw[Xg (h a (by simp))];show(Z5||(wO pos (jG es env)).any (·.1))=Z5;rw[b λe c=>h e (by simp[c])];rfl
noncomputable def Rm:yZ->Bool
 |.Slice _ _ _ _=>Z7
 |_=>Z5
theorem Fl{b:yZ}(h:Rm b=Z5):OB b:=by cases b<;>first|(intro o i;rfl)| cases h
noncomputable def zFB?(f:yZ->Option C):Option yZ->Option CO
 |none=>Z9 SQ
 |some e=>(f e).map SN
theorem NP(d:XN X f){e:Option yZ}{c:CO}(h:zFB? f e=Z9 c):PO X e (Wd X.K c):=by
 cases e with
 |none=>cases h;exact uw
 |some a =>
  obtain⟨i,b,g⟩:=qA5.mp h;subst g;exact uv (d a i b)
noncomputable def SD(f:yZ->Option C)(a b:yZ):Option C:=match b with
 |.Slice g e Z8 _=>(f a).bind λc=>(zFB? f g).bind λi=>(zFB? f e).map λd=>Ql Vo c i d
 |_=>if Rm b then Z8 else(f a).bind λc=>(f b).map λh=>ZU Zu c h
theorem rH(h:Zj k X.A)(d:XN X f){a b:yZ}{pos:Pos}{c:C}(e:SD f a b=Z9 c):PE X (.Subscript a b pos) (Zz X.K c):=by
 unfold SD at e;split at e
 .obtain⟨j,g,e⟩:=qA2.mp e;obtain⟨p,i,e⟩:=qA2.mp e;obtain⟨o,l,e⟩:=qA5.mp e;subst e;exact uu FU (d a j g) (NP d i) (NP d l)
 .split at e
  .cases e
  .rename_i n;obtain⟨j,g,e⟩:=qA2.mp e;obtain⟨m,i,e⟩:=qA5.mp e;subst e;exact ux (FV (LU h)) (d a j g) (d b m i) (Fl (by simpa using n))
noncomputable def P9(f:yZ->Option C)(a:yZ)(e:List fY)(bs:yE):Option C:=match e,bs with
 |[op],[b]=>if fH op b then Z8 else(NQ op).bind λo=>(f a).bind λg=>(f b).map λd=>ZU o g d
 |[op,op'],[b,c]=>if mF [op,op'] [b,c]then Z8 else(NQ op).bind λo=>(NQ op').bind λi=>(f a).bind λg=>(f b).bind λd=>(f c).map λh=>RA o i g d h
 |_,_=>Z8
theorem rG(h:Zj k X.A)(g:XN X f){a:yZ}{d:List fY}{bs:yE}{pos:Pos}{c:C}(e:P9 f a d bs=Z9 c):PE X (.Compare a d bs pos) (Zz X.K c):=by
 unfold P9 at e;split at e
 .rename_i s b;split at e
  .cases e
  .rename_i i;obtain⟨o,q,e⟩:=qA2.mp e;obtain⟨m,n,e⟩:=qA2.mp e;obtain⟨p,j,e⟩:=qA5.mp e;subst e;exact uO (Rq h q) (g a m n) (g b p j) (by simpa using i)
 .rename_i s t b c;split at e
  .cases e
  .rename_i i;obtain⟨o,q,e⟩:=qA2.mp e;obtain⟨v,l,e⟩:=qA2.mp e;obtain⟨m,n,e⟩:=qA2.mp e;obtain⟨p,j,e⟩:=qA2.mp e;obtain⟨r,u,e⟩:=qA5.mp e;subst e;exact uM (Rq h q) (Rq h l) (g a m n) (g b p j) (g c r u) (by simpa using i)
 .cases e
noncomputable def KC(f:yZ->Option C)(a:yZ)(ops:List fY)(bs:yE):Option CT:=match ops,bs with
 |ops,bs=>(P9 f a ops bs).map Y5
theorem rF(h:Zj k X.A)(g:XN X f){a:yZ}{d:List fY}{bs:yE}{pos:Pos}{c:CT}(e:KC f a d bs=Z9 c):PT X (.Compare a d bs pos) (YS X.K c):=by
 unfold KC at e;split at e
 .obtain⟨r,b,e⟩:=qA5.mp e;subst e;unfold P9 at b;split at b
  .split at b
   .cases b
   .rename_i i;obtain⟨o,q,e⟩:=qA2.mp b;obtain⟨m,p,e⟩:=qA2.mp e;obtain⟨n,j,e⟩:=qA5.mp e;subst e;exact uN (Rq h q) (g _ m p) (g _ n j) (by simpa using i)
  .split at b
   .cases b
   .rename_i i;obtain⟨o,q,e⟩:=qA2.mp b;obtain⟨t,l,e⟩:=qA2.mp e;obtain⟨m,p,e⟩:=qA2.mp e;obtain⟨n,j,e⟩:=qA2.mp e;obtain⟨r,s,e⟩:=qA5.mp e;subst e;exact uL (Rq h q) (Rq h l) (g _ m p) (g _ n j) (g _ r s) (by simpa using i)
  .cases b
noncomputable def Fk:yZ->Bool
 |.Name _ _=>Z7
 |.Subscript _ _ _=>Z7
 |.Call _ (_::_) _ _=>Z7
 |_=>Z5
theorem rE{o:yZ}{c:Str}{env:Env}(h:Fk o=Z7):wM o c env (vO o env)=vO o env:=by
 cases o with
 |Call f b kw d =>
  cases b with
  |nil=>cases h
  |cons a r=>cases f<;>rfl
 |_=>first|rfl|cases h
noncomputable def Fj(x:Str):Option (List D->M D) :=
 if x=("dict":Str)then Z9 Vc else
 Z8
noncomputable def NO(x:Str):Option (List D->M D) :=
 if x=("len":Str)then Z9 Zr else
 if x=("isinstance":Str)then Z9 Yl else
 if x=("tuple":Str)then Z9 W7 else
 if x=("list":Str)then Z9 TV else
 if x=("min":Str)then Z9 Wa else
 if x=("max":Str)then Z9 Vd else
 if x=("all":Str)then Z9 (WL λbs=>bs.all id)else
 if x=("any":Str)then Z9 (WL λbs=>bs.any id)else
 if x=("int":Str)then Z9 VC else
 if x=("sorted":Str)then Z9 WC else
 if x=("sum":Str)then Z9 WV else
 Fj x
noncomputable def Fi:yZ->Option (yE)
 |.Call (.Name x _) as [] _=>if x=("range":Str)then Z9 as else Z8
 |_=>Z8
noncomputable def KB:List D->M D:=λa S=>match a with
 |[.int j]=>if -4611686018427387904<=j/\j<4611686018427387904/\j<=1000 then .ok (.lst S.length) (S++[.lst (Zc 0 j.toNat)])else .bad
 |[.int i,.int j]=>if -4611686018427387904<=i/\i<4611686018427387904/\-4611686018427387904<=j/\j<4611686018427387904/\j - i<=1000 then .ok (.lst S.length) (S++[.lst (Zc i (j - i).toNat)])else .bad
 |_=>.bad
noncomputable def NM(c:Sc)(ar:Str->yK)(cl:Str->List D->M D)(f:yZ->Option C)(x:Str)(es:yE):Option C :=
 if c.names.lookup x=Z9 .globalImplicit then
  match ar x with
  |some n=>if es.length=n/\es≠[]/\YL x then(zA1? f es).map λa=>ZS (cl x) (ZP a)else Z8
  |none=>match es with
   |[e] =>
    match Fi e with
    |some b=>if x=("list":Str)/\ar "range"=Z8/\c.names.lookup ("range":Str)=Z9 .globalImplicit/\(b.length=1∨b.length=2)then(zA1? f b).map λa=>ZS KB (ZP a)else Z8
    |none=>(NO x).bind λo=>(zA1? f es).map λa=>ZS o (ZP a)
   |_::_=>(NO x).bind λo=>(zA1? f es).map λa=>ZS o (ZP a)
   |[]=>Z8
 else Z8
theorem rD{K:yQ}{H:Hp}{J:yC}(lo:Int)(n:Nat):RVs K H J (Zc lo n) (RM lo n):=by
 unfold Zc RM;generalize List.range n=l
 induction l with
 |nil=>exact .nil
 |cons a r b=>exact .cons XH b
set_option maxHeartbeats 2000000 in
theorem Fh(h:Y9 X sc ar cl k){x:Str}(w:sc.names.lookup x=Z9 .globalImplicit)(c:ar x=Z8){o:List D->M D}(b:NO x=Z9 o){e:yZ}{es:yE}{n:List C}(r:PA X (e::es) (YH X.K (ZP n)))(v:∀a∈e::es,WT a=Z7){p pos:Pos}:PE X (.Call (.Name x p) (e::es) [] pos) (Zz X.K (ZS o (ZP n))):=by
 have g:=h.gl x w;have t:=Xg (es:=es) (env:=X.env) (v e (by simp));have u:(wO pos (jG es X.env)).any (·.1)=Z5:=Ro λa r=>v a (by simp[r]);unfold NO at b;have i:∀(id:String) (l:jH x=Z9 (.builtin id)) (j:X.mg x=Z8) (d:x ≠ "__name__") (m:YL x) (o:List D->M D),Wu X.K (Yz X (.builtin id)) o->PE X (.Call (.Name x p) (e::es) [] pos) (Zz X.K (ZS o (ZP n))):=λid l j d m o s =>
  (L5 Qn g j l r d m t u).weak (F3 s)
 have T:∀(id:String) (l:jH x=Z9 (.type id)) (j:X.mg x=Z8) (d:x ≠ "__name__") (m:YL x) (o:List D->M D),Wu X.K (Yz X (.type id)) o->PE X (.Call (.Name x p) (e::es) [] pos) (Zz X.K (ZS o (ZP n))):=λid l j d m o s =>
  (L4 Qn g j l r d m t u).weak (F3 s)
 split at b
 .rename_i q;subst q;cases b;exact i "len" G7 (h.blt.b _ (by decide +kernel) c) (by decide +kernel) (by decide +kernel) _ FT
 split at b
 .rename_i q;subst q;cases b;exact i "isinstance" zo (h.blt.b _ (by decide +kernel) c) (by decide +kernel) (by decide +kernel) _ tN
 split at b
 .rename_i q;subst q;cases b;exact T "tuple" G6 (h.blt.b _ (by decide +kernel) c) (by decide +kernel) (by decide +kernel) _ tQ
 split at b
 .rename_i q;subst q;cases b;exact T "list" LG (h.blt.b _ (by decide +kernel) c) (by decide +kernel) (by decide +kernel) _ (tK h.calm)
 split at b
 .rename_i q;subst q;cases b;exact i "min" zr (h.blt.b _ (by decide +kernel) c) (by decide +kernel) (by decide +kernel) _ (tS h.calm)
 split at b
 .rename_i q;subst q;cases b;exact i "max" zq (h.blt.b _ (by decide +kernel) c) (by decide +kernel) (by decide +kernel) _ (tR h.calm)
 split at b
 .rename_i q;subst q;cases b;exact i "all" zl (h.blt.b _ (by decide +kernel) c) (by decide +kernel) (by decide +kernel) _ (tM h.calm)
 split at b
 .rename_i q;subst q;cases b;exact i "any" zk (h.blt.b _ (by decide +kernel) c) (by decide +kernel) (by decide +kernel) _ (tL h.calm)
 split at b
 .rename_i q;subst q;cases b;exact T "int" G5 (h.blt.b _ (by decide +kernel) c) (by decide +kernel) (by decide +kernel) _ tP
 split at b
 .rename_i q;subst q;cases b;exact i "sorted" (by decide +kernel) (h.blt.b _ (by decide +kernel) c) (by decide +kernel) (by decide +kernel) _ (tJ h.calm h.room.units)
 split at b
 .rename_i q;subst q;cases b;exact i "sum" (by decide +kernel) (h.blt.b _ (by decide +kernel) c) (by decide +kernel) (by decide +kernel) _ (tI h.calm)
 unfold Fj at b;split at b
 .rename_i q;subst q;cases b;exact T "dict" (by decide +kernel) (h.blt.b _ (by decide +kernel) c) (by decide +kernel) (by decide +kernel) _ (tw h.calm)
 cases b
theorem rC(h:Y9 X sc ar cl k)(W:sc.names.lookup ("list":Str)=Z9 .globalImplicit)(Y:ar "list"=Z8)(V:sc.names.lookup ("range":Str)=Z9 .globalImplicit)(E:ar "range"=Z8){g:yE}{s:List C}(z:PA X g (YH X.K (ZP s)))(O:∀a∈g,WT a=Z7)(A:g.length=1∨g.length=2){p pos p2 b:Pos}:
  PE X (.Call (.Name "list" p) [.Call (.Name "range" p2) g [] b] [] pos) (Zz X.K (ZS KB (ZP s))):=by
 have g1:=h.gl _ W;have g2:=h.gl _ V;have R:PE X (.Call (.Name "range" p2) g [] b) (OD (Yz X (.type "range")) (YH X.K (ZP s))):=by
  cases g with
  |nil=>simp at A
  |cons e es=>exact L4 Qn g2 (h.blt.b _ (by decide +kernel) E) zt z (by decide +kernel) (by decide +kernel) (Xg (O e (by simp))) (Ro λa z=>O a (by simp[z]))
 have L:=L4 (p:=p) (pos:=pos) (Qn (X:=X) (f:=.type "list")) g1 (h.blt.b _ (by decide +kernel) Y) LG (QO R OF rfl) (by decide +kernel) (by decide +kernel) rfl rfl;refine L.weak ?_;rintro Z H Q ⟨J,B,S,d,S',U,P,e,y⟩;obtain⟨T,G,e1,e⟩:=Y8 e;refine⟨J,B,S,T,G,U,P,e1,λvs t J1 I F N=>?_⟩;have n:=y.shift F;have fin:∀(i j:Int),-4611686018427387904<=i->i<4611686018427387904->-4611686018427387904<=j->j<4611686018427387904->j - i<=1000->Yc X.K J1 t (.lst G.length) (G++[.lst (Zc i (j - i).toNat)]) Q->∀q,t q=Z8->Yz X (.type "list") [.ref q] (ZD t q (.rng i j)) Q:=by intro i j b1 b2 b3 b4 b5 n q m;obtain⟨x,w⟩:=I.other (o:=.rng i j) m;exact⟨_,zH h.calm,q,i,j,rfl,XA,b1,b2,b3,b4,by omega,λl A=>(n.shift w).newL x A (rD _ _)⟩
 unfold KB at e;split at e
 .rename_i j;split at e
  .rename_i c;cases e;obtain⟨v,rfl,r⟩:=N.one;unfold RV at r;subst r;refine⟨_,zJ,j,rfl,λq m=>?_⟩;have:=fin 0 j (by decide) (by decide) c.1 c.2.1 (by omega) (by rw[Int.sub_zero];exact n) q m;exact this
  .cases e
 .rename_i i j;split at e
  .rename_i c;cases e;obtain⟨v,u,rfl,r,K⟩:=N.two;unfold RV at r K;subst r K;exact⟨_,zK,i,j,rfl,λq m=>fin i j c.1 c.2.1 c.2.2.1 c.2.2.2.1 c.2.2.2.2 n q m⟩
  .cases e
 .cases e
theorem rB(h:Y9 X sc ar cl k)(s:XN X f){x:Str}{es:yE}{c:C}{p pos:Pos}(e:NM sc ar cl f x es=Z9 c):PE X (.Call (.Name x p) es [] pos) (Zz X.K c):=by
 unfold NM at e;split at e
 .rename_i r;split at e
  .rename_i n m;split at e
   .rename_i t;obtain⟨A,v,H⟩:=t;obtain⟨u,i,e⟩:=qA5.mp e;subst e;obtain⟨g,d⟩:=Vx s i;obtain⟨⟨I,G⟩,l⟩:=h.fns x n m;cases es with
    |nil=>exact absurd rfl v
    |cons a es =>
     exact(NW (p:=p) (pos:=pos) G h.room (h.gl x r) sA g (qA7 _) H (Xg (d a (by simp))) (Ro λb F=>d b (by simp[F]))).weak (sC l)
   .cases e
  .rename_i m;split at e
   .rename_i a;split at e
    .rename_i L j;split at e
     .rename_i t;obtain⟨rfl,w,E,A⟩:=t;obtain⟨u,i,e⟩:=qA5.mp e;subst e;obtain⟨g,d⟩:=Vx s i;unfold Fi at j;split at j
      .rename_i J K B z;split at j
       .rename_i q;subst q;cases j;exact rC h r m E w g d A
       .cases j
      .cases j
     .cases e
    .obtain⟨o,y,e⟩:=qA2.mp e;obtain⟨u,i,e⟩:=qA5.mp e;subst e;obtain⟨g,d⟩:=Vx s i;exact Fh h r m y g d
   .obtain⟨o,y,e⟩:=qA2.mp e;obtain⟨u,i,e⟩:=qA5.mp e;subst e;obtain⟨g,d⟩:=Vx s i;exact Fh h r m y g d
   .cases e
 .cases e
end
section
variable {X:Cx}{sc:Sc}{ar:Str->yK}{cl:Str->List D->M D}{k:Nat}{f:yZ->Option C}
noncomputable def Fg(m:Str)(a:C):Option C :=
 if m=("bit_length":Str)then Z9 (NY "int" Qg a)else
 Z8
noncomputable def Ff(m:Str)(a b:C):Option C :=
 if m=("append":Str)then Z9 (Wt "list" (X3 XU) a (ZP [b]))else
 if m=("update":Str)then Z9 (Wt "dict" W6 a (ZP [b]))else
 Z8
noncomputable def Fe(m:Str)(a b cb:C):Option C :=
 if m=("insert":Str)then Z9 (Wt "list" (X3 NX) a (ZP [b,cb]))else
 Z8
noncomputable def KA(f:yZ->Option C)(o:yZ)(m:Str)(es:yE)(d c:Pos):Option C :=
 if Fk o&&(d.endLine == c.line)then(f o).bind λe=>match es with
  |[]=>Fg m e
  |[a]=>if WT a then(f a).bind λg=>Ff m e g else Z8
  |[a,b]=>if WT a&&WT b then(f a).bind λg=>(f b).bind λh=>Fe m e g h else Z8
  |_=>Z8
 else Z8
theorem rA(I:Zj k X.A)(p:XN X f){o:yZ}{m:Str}{es:yE}{n d:Pos}{c:C}(e:KA f o m es n d=Z9 c):PE X (.Call (.Attribute o m n) es [] d) (Zz X.K c):=by
 unfold KA at e;split at e
 .rename_i B;rw[qC5]at B;obtain⟨H,v⟩:=B;obtain⟨y,w,g⟩:=qA2.mp e;clear e;have t:∀j,wM o j X.env (vO o X.env)=vO o X.env:=λj=>rE H;split at g
  .unfold Fg at g;split at g
   .rename_i q;subst q;cases g;exact tH PySem.F.plainAttrs_int PySem.F.slot_int_bit_length PySem.F.type_int_bit_length tE (p o y w) (t _) v
   cases g
  .rename_i a;split at g
   .rename_i r;obtain⟨s,A,i⟩:=qA2.mp g;clear g;have l:=Xg (es:=[]) (env:=X.env) r;have u:PA X [a] (YH X.K (ZP [s])):=N2 (p a s A) K7 l;have h:((wO d (jG [a] X.env)).all (λx=>!x.1)&&(backToKw d (lU [] X.env)).all (λx=>x.1.isSome)
     && decide ([a].length+([]:List lE).length+(if([]:List lE).isEmpty then 0 else 1)<30))=Z7:=by rw[l];rfl
    unfold Ff at i;split at i
    .rename_i q;subst q;cases i;exact KR gV PySem.F.slot_list_append PySem.F.type_list_append tG (p o y w) u (t _) h v l rfl
    split at i
    .rename_i q;subst q;cases i;exact KR PySem.F.plainAttrs_dict gM PySem.F.type_dict_update tB (p o y w) u (t _) h v l rfl
    cases i
   .cases g
  .rename_i a b;split at g
   .rename_i r;rw[qC5]at r;obtain⟨s,A,F⟩:=qA2.mp g;obtain⟨E,G,i⟩:=qA2.mp F;clear g F;have z:=Xg (es:=[]) (env:=X.env) r.2;have l:=Xg (es:=[b]) (env:=X.env) r.1;have u:PA X [a,b] (YH X.K (ZP [s,E])):=N2 (p a s A) (N2 (p b E G) K7 z) l;have h:((wO d (jG [a,b] X.env)).all (λx=>!x.1)&&(backToKw d (lU [] X.env)).all (λx=>x.1.isSome)
     && decide ([a,b].length+([]:List lE).length+(if([]:List lE).isEmpty then 0 else 1)<30))=Z7:=by rw[l,z];rfl
    unfold Fe at i;split at i
    .rename_i q;subst q;cases i;exact KR gV PySem.F.slot_list_insert PySem.F.type_list_insert tF (p o y w) u (t _) h v l (by rw[z];rfl)
    cases i
   .cases g
  .cases g
 .cases e
noncomputable def SC:C:=λ_ S=>.ok (.dct S.length) (S++[.dk []])
theorem rz{pos:Pos}:PE X (.Dict [] [] pos) (Zz X.K SC):=zX.weak (by
 rintro Z H Q ⟨J,B,S,d,i,a,h,e,y⟩;cases e;intro p b;obtain⟨g,c⟩:=a.push (o':=.dk []) b ⟨[],XA,YU.nil⟩;exact y _ _ _ g c (by exact⟨p,rfl,by rw[<- a.len,qA0 (qA7 _),qJ4];rfl⟩))
noncomputable def NL(a b:C):C:=fun B=>YT (a B) λx=>YT (b B) λy S=>match Vp x with
 |some k=>.ok (.dct S.length) (S++[.dk [(k,y)]])
 |none=>.bad
theorem ry{a b:yZ}{ca cb:C}{pos:Pos}(L:PE X a (Zz X.K ca))(l:PE X b (Zz X.K cb)):PE X (.Dict [Z9 a] [b] pos) (Zz X.K (NL ca cb)):=(zT (zV L l zW) rfl rfl (by simp) (by simp)).weak (by
 rintro Z H Q ⟨J,B,S,d,S',U,T,e,y⟩;obtain⟨x,S1,e1,f1⟩:=Y8 e;obtain⟨z,V,e2,I⟩:=Y8 f1;split at I
 .rename_i g hk;cases I;intro p E;obtain⟨s1,K⟩:=U.other E;refine⟨J,B,S,x,S1,s1,T.up K,e1,λv H1 J1 P j r1=>⟨J1,B,S1,z,V,P,(T.up K).up j,e2,λu A G c r r2=>?_⟩⟩;have W:=U.out E;have q0:ZD H p (.dK []) p=Z9 (.dK []):=XA;have q1:=j.fr p _ W q0;have n1:=j.notIn W q0;have R:=r.fr p _ n1 q1;have n2:=r.notIn n1 q1;have ev:=Qi hk r1;subst ev;refine⟨R,[(g,u)],rfl,by simp,?_⟩;have N:TF X.K A (ZD A p (.dK [(g,u)])):=RG R (λ_ z=>by cases z) (λ_ _ z=>by cases z);have t:=j.trans r c.nd;have i:=K.trans t c.nd;have F:SR X.K (G++[p]) (V++[.dk [(g,z)]]) (ZD A p (.dK [(g,u)])):=by
   refine⟨by simp[c.len],?_,λn a w m s=>?_⟩
   .rw[qF3];refine⟨c.nd,by simp,λa L b l=>?_⟩;simp at l;subst l;exact λz=>n2 (z▸L)
   .by_cases hn:n<G.length
    .rw[qA8 hn]at m;rw[qA8 (by rw[<- c.len];exact hn)]at s;exact(c.obj n a w m s).up N ⟨[p],rfl⟩ (Za λz=>n2 (z▸qB6 m))
    .rw[qA0 (by omega)]at m;rw[qA0 (by rw[<- c.len];omega)]at s;have Y:=by have:=(qA1.mp m).1;simp at this;omega
     rw[Y]at m;rw[<- c.len,Y]at s;simp at m s;subst m s;exact⟨[(g,u)],XA,YU.cons (RV.up N ⟨[p],rfl⟩ _ _ r2) .nil⟩
  have O:ZM X.K J (G++[p]) H (ZD A p (.dK [(g,u)])):=by
   obtain⟨ν,e4,n⟩:=i.pre;refine⟨⟨ν++[p],by rw[e4,qC0],λb l=>?_⟩,λb o l q=>by rw[Za (U2 q E)];exact i.fr b o l q,i.tk.trans N⟩;rcases qB9.mp l with h|h
   .exact n b h
   .simp at h;subst h;exact E
  exact y _ _ _ F O (by exact⟨p,rfl,by rw[<- c.len,qA0 (qA7 _),qJ4];rfl⟩)
 .cases I)
noncomputable def Kz(f:yZ->Option C)(e:List (Option yZ))(c:yE):Option C:=match e,c with
 |[],[]=>Z9 SC
 |[Z9 a],[b]=>(f a).bind λg=>(f b).map λd=>NL g d
 |_,_=>Z8
theorem rx(d:XN X f){b:List (Option yZ)}{a:yE}{pos:Pos}{c:C}(e:Kz f b a=Z9 c):PE X (.Dict b a pos) (Zz X.K c):=by
 unfold Kz at e;split at e
 .cases e;exact rz
 .obtain⟨j,g,e⟩:=qA2.mp e;obtain⟨i,h,e⟩:=qA5.mp e;subst e;exact ry (d _ _ g) (d _ _ h)
 .cases e
noncomputable def Ky(op:BoolOp)(f:yZ->Option C):yE->Option C
 |[]=>Z8
 |[a]=>f a
 |a::b::r=>(f a).bind λd=>(Ky op f (b::r)).map λc=>match op with
  |.And=>RC d c
  |.Or=>Ux d c
theorem Kx(d:XN X f){op:BoolOp}{pos:Pos}:∀{g:yE}{c:C},Ky op f g=Z9 c->PE X (.BoolOp op g pos) (Zz X.K c)
 |[],c,e=>by cases e
 |[a],c,e=>Cb (d a c e)
 |a::b::r,c,e=>by
  obtain⟨j,h,e⟩:=qA2.mp e;obtain⟨l,i,e⟩:=qA5.mp e;subst e;cases op with
  |And=>exact uJ (d a j h) (Kx d i)
  |Or=>exact uI (d a j h) (Kx d i)
def Rl(X:Cx)(t:yZ->Option CT):Prop:=∀e c,t e=Z9 c->PT X e (YS X.K c)
variable {t:yZ->Option CT}
noncomputable def Kw(op:BoolOp)(t:yZ->Option CT):yE->Option CT
 |[]=>Z8
 |[a]=>t a
 |a::b::r=>(t a).bind λd=>(Kw op t (b::r)).map λc=>match op with
  |.And=>RB d c
  |.Or=>Xt d c
theorem Kv(ht:Rl X t){op:BoolOp}{pos:Pos}:∀{d:yE}{c:CT},Kw op t d=Z9 c->PW X (.BoolOp op d pos) (YS X.K c)
 |[],c,e=>by cases e
 |[a],c,e=>by
  cases op with
  |And=>exact Cj (ht a c e)
  |Or=>exact Ci (ht a c e)
 |a::b::r,c,e=>by
  obtain⟨i,g,e⟩:=qA2.mp e;obtain⟨j,h,e⟩:=qA5.mp e;subst e;cases op with
  |And=>exact uF (ht a i g) (Kv ht h)
  |Or=>exact uE (ht a i g) (Kv ht h)
noncomputable def Wr:yZ->Bool
 |.Tuple _ _ _=>Z7
 |_=>Z5
noncomputable def SB:yZ->Bool
 |.Set _ _ _=>Z7
 |_=>Z5
theorem Ku{iter:yZ}{env:Env}(h:SB iter=Z5):∀x,vF iter env x=pure x:=by cases iter<;>first|(intro x;rfl)| cases h
noncomputable def Fd(o:Option (List C))(es:yE):Option CI:=o.bind λa=>match es with
 |[_]=>Z9 (WA (ZP a))
 |[_,_]=>Z9 (NV (ZP a))
 |_=>Z8
noncomputable def Kt(t:Bool)(o:Option (List C))(es:yE):Option CI:=if t=Z7 then o.bind λa=>match es with
  |[_,_]=>Z9 (TQ (ZP a))
  |_=>Z8
 else Z8
noncomputable def Ks(t:Bool)(o:Option (List C))(es:yE):Option CI:=if t=Z7 then o.bind λa=>match es with
  |[_]=>Z9 (Qe (ZP a))
  |_=>Z8
 else Z8
noncomputable def SA(b:Sc)(ar:Str->yK)(f:yZ->Option C)(a iter:yZ):Option CI:=if SB iter then Z8 else match iter with
 |.Call (.Name x _) es [] _=>if b.names.lookup x=Z9 .globalImplicit/\ar x=Z8 then
   (if x=("range":Str)then Fd (zA1? f es) es else
    if x=("zip":Str)then Kt (Wr a) (zA1? f es) es else
    if x=("enumerate":Str)then Ks (Wr a) (zA1? f es) es else
    (f iter).map Zy)
  else(f iter).map Zy
 |_=>(f iter).map Zy
theorem rq(i:XN X f){d:yZ}{es:yE}{c:CI}{p pos:Pos}(g:Gl X "range")(hm:X.mg "range"=Z8)(e:Fd (zA1? f es) es=Z9 c):PI X d (.Call (.Name "range" p) es [] pos) (Yj X.K c):=by
 obtain⟨j,h,e2⟩:=qA2.mp e;clear e;obtain⟨h1,h2⟩:=Vx i h
 match es,h1,h2,e2 with
 |[a],h1,h2,e2 =>
  cases e2;exact sv (BE g hm h1 (by rw[Xg (h2 a (by simp))];rfl))
 |[a,b],h1,h2,e2 =>
  cases e2;exact su (BD g hm h1 (by rw[Xg (h2 a (by simp)),Xg (h2 b (by simp))];rfl) (by rw[Xg (h2 b (by simp))];rfl))
 |[],h1,h2,e2=>cases e2
 |_::_::_::_,h1,h2,e2=>cases e2
theorem Kr{a:yZ}(h:Wr a=Z7):∃es k pos,a=.Tuple es k pos:=by cases a<;>first|exact⟨_,_,_,rfl⟩| cases h
theorem rp(i:XN X f){d:yZ}{es:yE}{c:CI}{p pos:Pos}(g:Gl X "zip")(hm:X.mg "zip"=Z8)(e:Kt (Wr d) (zA1? f es) es=Z9 c):PI X d (.Call (.Name "zip" p) es [] pos) (Yj X.K c):=by
 unfold Kt at e;by_cases ht:Wr d=Z7
 .rw[if_pos ht]at e;obtain⟨l,j,pt,rfl⟩:=Kr ht;obtain⟨m,h,e2⟩:=qA2.mp e;clear e ht;obtain⟨h1,h2⟩:=Vx i h
  match es,h1,h2,e2 with
  |[a,b],h1,h2,e2 =>
   cases e2;exact sk (yb g hm h1 (by rw[Xg (h2 a (by simp)),Xg (h2 b (by simp))];rfl) (by rw[Xg (h2 b (by simp))];rfl))
  |_::_::_::_,h1,h2,e2=>cases e2
  |[],h1,h2,e2=>cases e2
  |[_],h1,h2,e2=>cases e2
 .rw[if_neg ht]at e;cases e
theorem ro(h:XN X f){b:yZ}{es:yE}{c:CI}{p pos:Pos}(g:Gl X "enumerate")(hm:X.mg "enumerate"=Z8)(e:Ks (Wr b) (zA1? f es) es=Z9 c):PI X b (.Call (.Name "enumerate" p) es [] pos) (Yj X.K c):=by
 unfold Ks at e;by_cases ht:Wr b=Z7
 .rw[if_pos ht]at e;obtain⟨j,i,pt,rfl⟩:=Kr ht;obtain⟨l,d,e2⟩:=qA2.mp e;clear e ht;obtain⟨h1,h2⟩:=Vx h d
  match es,h1,h2,e2 with
  |[a],h1,h2,e2 =>
   cases e2;exact sg (yp g hm h1 (by rw[Xg (h2 a (by simp))];rfl))
  |[],h1,h2,e2=>cases e2
  |_::_::_,h1,h2,e2=>cases e2
 .rw[if_neg ht]at e;cases e
theorem Kq(h:Y9 X sc ar cl k)(d:XN X f){i iter:yZ}{c:CI}(e:SA sc ar f i iter=Z9 c):PI X i iter (Yj X.K c)/\SB iter=Z5:=by
 unfold SA at e;split at e
 .cases e
 rename_i a;refine⟨?_,by simpa using a⟩;have dflt:∀{c},(f iter).map Zy=Z9 c->PI X i iter (Yj X.K c):=λe=>by obtain⟨n,l,e⟩:=qA5.mp e;subst e;exact sx (d _ _ l)
 split at e
 .rename_i x p m j;split at e
  .rename_i b;have g:=h.gl x b.1;split at e
   .rename_i q;subst q;exact rq d g (h.blt.b _ (by decide +kernel) b.2) e
   split at e
   .rename_i q;subst q;exact rp d g (h.blt.b _ (by decide +kernel) b.2) e
   split at e
   .rename_i q;subst q;exact ro d g (h.blt.b _ (by decide +kernel) b.2) e
   exact dflt e
  .exact dflt e
 .exact dflt e
noncomputable def NK:yE->Option (yH)
 |[]=>Z9 []
 |.Name x _::r=>(NK r).map (x::·)
 |_::_=>Z8
noncomputable def NJ:yZ->Option (Xh×yH)
 |.Name x _=>Z9 (.one,[x])
 |.Tuple b _ _=>(NK b).map λa=>(.many a.length,a)
 |_=>Z8
noncomputable def Xy(a:List (Str×jS)):yH:=(a.filter λy=>y.2 == .free).map (·.1)
noncomputable def slots(N:yH):yH->Option (List Nat)
 |[]=>Z9 []
 |x::r=>(TM N x 0).bind λj=>(slots N r).map (j::·)
noncomputable def Ko(xs:yH)(scope:jR):Sc:=⟨xs++Xy scope.names,scope.names,Z8⟩
noncomputable def compOk(a:Sc)(xs:yH)(scope:jR):Bool :=
 decide (scope.kind=.function)&&scope.names.all (λy=>y.2 != .cell||scope.names.lookup y.1 == Z9 .cell)&&scope.names.all (λy=>y.2 != .local||scope.names.lookup y.1 == Z9 .local)
 && decide ((xs++Xy scope.names).Nodup)&&xs.all (λx=>scope.names.lookup x == Z9 .local||scope.names.lookup x == Z9 .cell)&&decide (1<=xs.length)
 && (Xy scope.names).all (λx=>(a.names.lookup x == Z9 .cell||a.names.lookup x == Z9 .free)&&scope.names.lookup x == Z9 .free)
noncomputable def Rj(b:Sc)(i:Option CI)(j:Sc->yZ->Option C)(l:Sc->yZ->Option CT)(h elt:yZ)(a:yE)(scope:jR):Option C :=
 (NJ h).bind λp=>if compOk b p.2 scope then(slots b.N (Xy scope.names)).bind λc=>i.bind λd=>(j (Ko p.2 scope) elt).bind λe=>match a with
  |[]=>Z9 (Yv d p.2.length c p.1 (λ_=>ret Z7) e)
  |[q]=>(l (Ko p.2 scope) q).map λg=>Yv d p.2.length c p.1 g e
  |_=>Z8
 else Z8
theorem NI{N:yH}:∀{xs:yH}{js:List Nat},slots N xs=Z9 js->js.length=xs.length/\∀(i j:Nat),js[i]?=Z9 j->∃x,xs[i]?=Z9 x/\N[j]?=Z9 x
 |[],js,e=>by cases e;exact⟨rfl,λi j h=>by simp at h⟩
 |x::r,js,e=>by
  obtain⟨n,c,e⟩:=qA2.mp e;obtain⟨b,d,e⟩:=qA5.mp e;subst e;obtain⟨l,m⟩:=NI d;refine⟨by simp[l],λi j h=>?_⟩;cases i with
  |zero=>simp at h;subst h;exact⟨x,rfl,(NR c).2⟩
  |succ i =>
   obtain⟨y,g,a⟩:=m i j h;exact⟨y,by exact g,a⟩
theorem NH{env:Env}:∀{a:List (Str×jS)}{x:Str}{k:jS},k≠.free->a.lookup x=Z9 k ->
  (a.map fun(n,k)=>if(k == NameKind.free&&env.scope.kind == .function&&env.kindOf n == Z9 .cell)then(n,NameKind.cell)else(n,k)).lookup x=Z9 k
 |[],_,_,_,h=>by simp at h
 |(n,k')::r,x,k,nf,h=>by
  have c:=@NH env r x k nf;show List.lookup x ((if(k' == NameKind.free&&env.scope.kind == .function&&env.kindOf n == Z9 .cell)=Z7 then(n,NameKind.cell)else(n,k'))::_)=_;cases b:x == n with
  |true =>
   simp only[qD6,b]at h;cases h;have e:=by simpa using nf
   simp[qD6,b,e]
  |false =>
   simp only[qD6,b]at h;by_cases d:(k' == NameKind.free&&env.scope.kind == .function&&env.kindOf n == Z9 .cell)=Z7
   .rw[if_pos d];simp only[qD6,b];exact c h
   .rw[if_neg d];simp only[qD6,b];exact c h
theorem rn{ns:List (Str×jS)}{x:Str}{k:jS}(h:ns.lookup x=Z9 k):(x,k)∈ns:=RO h
theorem Y9.comp(h:Y9 X sc ar cl k){xs:yH}{scope:jR}(c:compOk sc xs scope=Z7)(b:List (Str×yR))(s:yS)(H:Hp)(C:yR)(ex:yC):Y9 (WQ X scope (xs++Xy scope.names) b s H C ex) (Ko xs scope) ar cl k:=by
 unfold compOk at c;simp only[qC5,decide_eq_true_eq]at c;obtain⟨⟨⟨⟨⟨⟨g,j⟩,i⟩,d⟩,e⟩,l⟩,m⟩:=c;exact{
  calm:=h.calm
  N:=rfl
  nd:=d
  gl:=λx a=>NH (by decide) a
  loc:=λx a=>NH (by decide) a
  cel:=λx a=>NH (by decide) a
  fre:=λx a=>Hc a
  fnn:=λz=>by cases z
  room:=h.room
  roomT:=λz=>by cases z
  lam:=λz=>by cases z
  tk:=λz=>by cases z
  rf:=λz=>by cases z
  xk:=h.xk
  xm:=h.xm
  xv:=h.xv
  own:=PassesOwn.never
  exc:=h.exc
  blt:=h.blt
  fns:=h.fns }
theorem Fc:∀{es:yE}{xs:yH},NK es=Z9 xs->es.length=xs.length/\∀(i:Nat) (e:yZ),es[i]?=Z9 e->∃x pos,e=.Name x pos/\xs[i]?=Z9 x
 |[],xs,h=>by cases h;exact⟨rfl,λi e h=>by simp at h⟩
 |a::r,xs,h=>by
  cases a with
  |Name x pos =>
   obtain⟨m,d,e⟩:=qA5.mp h;subst e;obtain⟨l,g⟩:=Fc d;refine⟨by simp[l],λi e b=>?_⟩;cases i with
   |zero=>simp at b;subst b;exact⟨x,pos,rfl,rfl⟩
   |succ i =>
    obtain⟨y,p,j,c⟩:=g i e b;exact⟨y,p,j,by exact c⟩
  |_=>cases h
theorem rm{x:Str}{pos:Pos}{es:yE}{env:Env}:jP (.Name x pos::es) env=(Z5,fX (.Name x pos) env)::jP es env:=rfl
theorem Fb:∀{es:yE}{s:Nat},(∀(i:Nat) (e:yZ),es[i]?=Z9 e->∃x pos,e=.Name x pos/\X.N[s+i]?=Z9 x/\R0 X.env.scope x/\(X.fn x=Z7∨X.env.scope.names.lookup x=Z9 .local))->X.N.Nodup->VL X es (NT s es.length)
 |[],s,h,nd=>HR
 |a::r,s,h,nd=>by obtain⟨x,pos,rfl,g,c,l⟩:=h 0 a rfl;refine HQ (T9 nd (by simpa using g) c l) (Fb (λi e m=>?_) nd) rfl;obtain⟨y,p,d,b,j⟩:=h (i+1) e (by exact m);exact⟨y,p,d,by rw[show s+1+i=s+(i+1) by omega];exact b,j⟩
theorem E9{env:Env}:∀{es:yE}{xs:yH},NK es=Z9 xs->(jP es env).length=xs.length/\(jP es env).findIdx? (·.1)=Z8
 |[],xs,h=>by cases h;exact⟨rfl,rfl⟩
 |a::r,xs,h=>by
  cases a with
  |Name x b =>
   obtain⟨i,c,e⟩:=qA5.mp h;subst e;obtain⟨g,d⟩:=E9 (env:=env) c;rw[rm];exact⟨by simp[g],by rw[qP9];simp[d]⟩
  |_=>cases h
theorem rk{b:yZ}{t:Xh}{xs:yH}(e:NJ b=Z9 (t,xs)):VA t=xs.length:=by
 cases b with
 |Name x a=>cases e;rfl
 |Tuple c n a =>
  obtain⟨g,d,e⟩:=qA5.mp e;cases e;rfl
 |_=>cases e
theorem E8{b:Cx}{a:Sc}(h:Y9 b a ar cl k){x:Str}(g:a.names.lookup x=Z9 .local∨a.names.lookup x=Z9 .cell/\b.fn x=Z7):R0 b.env.scope x/\(b.fn x=Z7∨b.env.scope.names.lookup x=Z9 .local):=by
 rcases g with g|⟨g,f⟩
 .exact⟨.inl (h.loc x g),.inr (h.loc x g)⟩
 .exact⟨.inr (h.cel x g),.inl f⟩
theorem rj{c:Cx}{a:Sc}(h:Y9 c a ar cl k){d:yZ}{t:Xh}{xs:yH}(e:NJ d=Z9 (t,xs))(p:∀(i:Nat) (x:Str),xs[i]?=Z9 x->a.N[i]?=Z9 x/\(a.names.lookup x=Z9 .local∨a.names.lookup x=Z9 .cell/\c.fn x=Z7)):PG c d (tOfT' c.K t)/\VA t=xs.length:=by
 have r:c.N.Nodup:=by rw[h.N];exact h.nd
 cases d with
 |Name x b =>
  cases e;obtain⟨m,o⟩:=p 0 x rfl;obtain⟨l,j⟩:=E8 h o;exact⟨T9 r (by rw[h.N];exact m) l j,rfl⟩
 |Tuple A n b =>
  obtain⟨z,q,e⟩:=qA5.mp e;cases e;obtain⟨s,u⟩:=E9 q;obtain⟨v,w⟩:=Fc q;refine⟨?_,rfl⟩;have:=Fb (λi e y=>by
   obtain⟨x,b,rfl,g⟩:=w i e y;obtain⟨m,o⟩:=p i x g;obtain⟨l,j⟩:=E8 h o;exact⟨x,b,rfl,by rw[h.N,qQ7];exact m,l,j⟩) r
  rw[v]at this;exact HP h.calm this s u
 |_=>cases e
theorem E7(h:Y9 X sc ar cl k){xs:yH}{scope:jR}{js:List Nat}(e:compOk sc xs scope=Z7)(v:slots sc.N (Xy scope.names)=Z9 js):RN X scope (xs++Xy scope.names) xs.length js:=by
 obtain⟨s,p⟩:=NI v;unfold compOk at e;simp only[qC5,decide_eq_true_eq]at e;obtain⟨⟨⟨⟨⟨⟨n,B⟩,r⟩,G⟩,F⟩,H⟩,E⟩:=e;have b:=λx a=>by
  have d:x∈Xy scope.names:=by unfold Xy;rw[qD9];exact⟨(x,.free),by rw[qE3];exact⟨a,by simp⟩,rfl⟩
  have:=qD2.mp E x d;simpa using this
 refine⟨h.calm,n,λx a=>?_,λx a=>?_,λx a c=>?_,?_,λi j o=>?_⟩
 .have:=qD2.mp B _ a;simpa using this
 .rcases(b x a).1 with q|q
  .exact .inl (h.cel x q)
  .exact h.fre x q
 .have:=qD2.mp r x a;simp only[qI2,bne_iff_ne,beq_iff_eq]at this;rcases this with z|z
  .exact absurd c z
  .exact z
 .rw[qC1,s]
 .obtain⟨x,m,A⟩:=p i j o;have d:(x,NameKind.free)∈scope.names:=by
   have:=qB6 m;unfold Xy at this;rw[qD9]at this;obtain⟨⟨y,I⟩,g,l⟩:=this;rw[qE3]at g;dsimp only at l;subst l;have:=by simpa using g.2
   subst this;exact g.1
  obtain⟨u,w⟩:=b x d;refine⟨x,?_,by rw[h.N];exact A,w,h.vis (.inr u)⟩;rw[qA0 (by omega),qK5];exact m
theorem E6(h:Y9 X sc ar cl k){xs:yH}{scope:jR}{d:yZ}{t:Xh}(b:compOk sc xs scope=Z7)(g:NJ d=Z9 (t,xs))(a:List (Str×yR))(s:yS)(H:Hp)(C:yR)(ex:yC):PG (WQ X scope (xs++Xy scope.names) a s H C ex) d (tOfT' X.K t) :=
 (rj (h.comp b a s H C ex) g λi x c=>by
  unfold compOk at b;simp only[qC5]at b;have e:=b.1.1.2;have j:=(qA1.mp c).1;refine⟨?_,?_⟩
  .show(xs++Xy scope.names)[i]?=Z9 x;rw[qA8 j];exact c
  .have:=qD2.mp e x (qB6 c);rw[qI2,beq_iff_eq,beq_iff_eq]at this;rcases this with z|z
   .exact .inl z
   .exact .inr ⟨z,decide_eq_true (rn z)⟩).1
inductive ri(X:Cx)(sc:Sc)(tg iter elt:yZ)(ifs:yE)(scope:jR)(c:C):Prop
 |mk (t:Xh) (xs:yH) (js:List Nat) (ci:CI) (ct:CT) (ce:C) (BB:RN X scope (xs++Xy scope.names) xs.length js) (hi:PI X tg iter (Yj X.K ci)) (hs:SB iter=Z5)
  (hg:∀cl' s H C ex,PG (WQ X scope (xs++Xy scope.names) cl' s H C ex) tg (tOfT' X.K t)) (hT:∀cl' s H C ex,Te (WQ X scope (xs++Xy scope.names) cl' s H C ex) ifs (YS X.K ct))
  (hE:∀cl' s H C ex,PE (WQ X scope (xs++Xy scope.names) cl' s H C ex) elt (Zz X.K ce)) (ht:VA t<=xs.length) (h1:1<=xs.length) (hc:c=Yv ci xs.length js t ct ce)
theorem E5(h:Y9 X sc ar cl k){A:Option CI}{P:Sc->yZ->Option C}{E:Sc->yZ->Option CT}{p iter elt:yZ}{i:yE}{scope:jR}{c:C}(e:Rj sc A P E p elt i scope=Z9 c)
  (hi:∀l,A=Z9 l->PI X p iter (Yj X.K l)/\SB iter=Z5) (u:∀m a,Y9 m a ar cl k->XN m (P a)) (x:∀m a,Y9 m a ar cl k->Rl m (E a)):ri X sc p iter elt i scope c:=by
 obtain⟨⟨t,o⟩,z,e⟩:=qA2.mp e;dsimp only at e;by_cases b:compOk sc o scope=Z7
 .rw[if_pos b]at e;obtain⟨G,K,O⟩:=qA2.mp e;obtain⟨l,Y,F⟩:=qA2.mp O;obtain⟨v,e3,w⟩:=qA2.mp F;clear e O F;obtain⟨T,L⟩:=hi l Y;have N:=by have j:=b;unfold compOk at j;simp only[qC5,decide_eq_true_eq]at j;exact j.1.2
  have R:=λg s H C ex=>u _ _ (h.comp b g s H C ex) elt v e3;have ht:VA t<=o.length:=by rw[rk z];exact qA7 _
  cases i with
  |nil =>
   cases w;exact⟨t,o,G,l,_,v,E7 h b K,T,L,E6 h b z,λg s H C ex n W Z V Q I ⟨J,B,S,d,S',sr,re,e,y⟩=>zP n W Z V Q I (by obtain⟨rfl,rfl⟩:=X4 e;exact y V J sr (ZM.refl _ _ _)),R,ht,N,rfl⟩
  |cons q r =>
   cases r with
   |nil =>
    obtain⟨U,e4,u4⟩:=qA5.mp w;exact⟨t,o,G,l,U,v,E7 h b K,T,L,E6 h b z,λg s H C ex=>zO (x _ _ (h.comp b g s H C ex) q U e4),R,ht,N,u4.symm⟩
   |cons _ _=>cases w
 .rw[if_neg b]at e;cases e
theorem rh(h:Y9 X sc ar cl k){m:Option CI}{o:Sc->yZ->Option C}{n:Sc->yZ->Option CT}{g iter elt:yZ}{b:yE}{scope:jR}{pos:Pos}{c:C}(e:Rj sc m o n g elt b scope=Z9 c)
  (hi:∀j,m=Z9 j->PI X g iter (Yj X.K j)/\SB iter=Z5) (i:∀d a,Y9 d a ar cl k->XN d (o a)) (l:∀d a,Y9 d a ar cl k->Rl d (n a)):PE X (.ListComp elt [⟨g,iter,b,0⟩] scope pos) (Zz X.K c):=by obtain⟨t,y,A,j,B,z,x,w,s,v,r,u,ht,p,rfl⟩:=E5 h e hi i l;exact(zL x w v r u (Ku s)).weak fun Z H Q q=>FA ht p q
theorem rg(h:Y9 X sc ar cl k){s:Option CI}{v:Sc->yZ->Option C}{u:Sc->yZ->Option CT}{i iter elt:yZ}{d:yE}{scope:jR}{pos pos' b:Pos}{l:Str}{r:TG}(p:PG X (.Name l pos') r)(n:wS (.ListComp elt [⟨i,iter,d,0⟩] scope pos) (Z9 (.Name l pos')) b.line X.env=pure Z7){c:C}(e:Rj sc s v u i elt d scope=Z9 c)
  (hi:∀m,s=Z9 m->PI X i iter (Yj X.K m)/\SB iter=Z5) (j:∀g a,Y9 g a ar cl k->XN g (v a)) (o:∀g a,Y9 g a ar cl k->Rl g (u a)):PS X (.Assign [.Name l pos'] (.ListComp elt [⟨i,iter,d,0⟩] scope pos) b) (Wo (Zz X.K c) r):=by obtain⟨t,F,I,m,J,G,E,B,y,A,x,z,ht,w,rfl⟩:=E5 h e hi j o;exact(ya p n E B A x z (Ku y)).weak λD Z H q=>FA ht w q
end
noncomputable def TL(scope:jR):Sc:=⟨Xy scope.names,scope.names,Z8⟩
noncomputable def Km(p:vV):Bool:=p.posonlyargs.isEmpty&&p.args.isEmpty&&p.vararg.isNone&&p.kwonlyargs.isEmpty&&p.kw_defaults.isEmpty&&p.kwarg.isNone&&p.defaults.isEmpty
theorem E4{p:vV}(h:Km p=Z7):p={ posonlyargs:=[],args:=[],vararg:=Z8,kwonlyargs:=[],kw_defaults:=[],kwarg:=Z8,defaults:=[] }:=by obtain⟨a,b,c,d,e,f,g⟩:=p;unfold Km at h;simp only[qC5,List.isEmpty_iff,qN4]at h;obtain⟨⟨⟨⟨⟨⟨rfl,rfl⟩,rfl⟩,rfl⟩,rfl⟩,rfl⟩,rfl⟩:=h;rfl
noncomputable def NG(b:Sc)(a:vV)(scope:jR):Bool :=
 Km a&&decide (scope.kind=.function)&&!scope.isCoroutine&&!scope.isGenerator&&scope.names.all (λy=>y.2 != .cell)&&decide (Xy scope.names).Nodup
 && (Xy scope.names).all (λx=>b.names.lookup x == Z9 .cell&&scope.names.lookup x == Z9 .free)
noncomputable def NF(a:Sc)(ar:Str->yK)(t:Str):yE->Option (List (Str×Str)×List Nat×jR×Str×yE)
 |[.Lambda params (.Call (.Name g _) args [] _) scope _] =>
  if a.fn=Z9 Zw/\NG a params scope=Z7/\a.names.lookup t=Z9 .globalImplicit/\YL t/\scope.names.lookup g=Z9 .globalImplicit/\ar g=Z9 args.length/\args≠[]/\YL g then
   (SE.lookup t).bind λb=>(slots a.N (Xy scope.names)).map λc=>(b,c,scope,g,args)
  else Z8
 |_=>Z8
section
variable {X:Cx}{sc:Sc}{ar:Str->yK}{cl:Str->List D->M D}{k:Nat}
theorem E3{ns:List (Str×jS)}{x:Str}(h:(x,NameKind.free)∈ns):x∈Xy ns:=qD9.mpr ⟨(x,.free),qE3.mpr ⟨h,by simp⟩,rfl⟩
theorem rd(h:Y9 X sc ar cl k){t g:Str}{es c:yE}{F:List (Str×Str)}{js:List Nat}{scope:jR}{f:yZ->Option C}{A:List C}{p pos:Pos}(e:NF sc ar t es=Z9 (F,js,scope,g,c))(hf:∀I,Y9 I (TL scope) ar cl k->XN I f)(e1:zA1? f c=Z9 A):
  PE X (.Call (.Name t p) es [] pos) (Zz X.K (Qd Zw F js (Xz (cl g) (ZP A)))):=by
 unfold NF at e;split at e
 .rename_i r g' Z u R q p3;split at e
  .rename_i P;obtain⟨v,y,Y,c4,L,c6,c7,c8⟩:=P;obtain⟨ws',O,e⟩:=qA2.mp e;obtain⟨js',U,e⟩:=qA5.mp e;cases e;unfold NG at y;simp only[qC5,decide_eq_true_eq,qH5,qD2,beq_iff_eq,bne_iff_ne]at y;obtain⟨⟨⟨⟨⟨⟨d1,d2⟩,d3⟩,d4⟩,d5⟩,d6⟩,K⟩:=y;obtain⟨S,V⟩:=NI U;have B:=h.roomT v;refine rT (h.tk v _ _ O) (h.lam v) (h.gl _ Y) c4 (B.mono (by omega)) ⟨d2,d3,d4,d5,E4 d1,λx d=>h.cel x (K x (E3 d)).1,S,λi j Q=>?_⟩ λW cd w n l s H E=>?_
   .obtain⟨x,J,n2⟩:=V i j Q;exact⟨x,J,by rw[h.N];exact n2,(K x (qB6 J)).2⟩
   .have o:Y9 (UB X.prog X.w X.K X.mg X.base (Xy scope.names) (Wf Zw) scope W cd w (X.A.deeper n) l s H E) (TL scope) ar cl k:={
     calm:=rfl
     N:=rfl
     nd:=d6
     gl:=λx d=>d
     loc:=λx d=>d
     cel:=λx d=>d
     fre:=λx d=>.inr d
     fnn:=λz=>by cases z
     room:=(B.deeper n).deeper _
     roomT:=λz=>by cases z
     lam:=λz=>by cases z
     tk:=λz=>by cases z
     rf:=λz=>by cases z
     xk:=h.xk
     xm:=h.xm
     xv:=h.xv
     own:=PassesOwn.leaving
     exc:=h.exc
     blt:=h.blt
     fns:=h.fns }
    obtain⟨h1,G⟩:=Vx (hf _ o) e1;obtain⟨⟨ps,Ca⟩,m⟩:=o.fns g _ c6;cases c with
    |nil=>exact absurd rfl c7
    |cons a es=>exact(NW (p:=Z) (pos:=R) Ca o.room (o.gl g L) KQ h1 (qA7 _) c8 (Xg (G a (by simp))) (Ro λb T=>G b (by simp[T]))).weak (KN m)
  .cases e
 .cases e
noncomputable def Kl(b:Sc)(t:Str)(a:vV)(scope:jR):Bool:=decide (b.fn=Z9 Zw)&&NG b a scope&&decide (b.names.lookup t=Z9 .globalImplicit)&&!(t == ("__debug__":Str))&&decide (t∈NS)
theorem qZ(h:Y9 X sc ar cl k){t:Str}{a:vV}{d:yZ}{scope:jR}{js:List Nat}{cb:C}{p f pos:Pos}(e:Kl sc t a scope=Z7)(I:slots sc.N (Xy scope.names)=Z9 js)(G:∀m,Y9 m (TL scope) ar cl k->PE m d (Y3 m cb)):
  PE X (.Call (.Name t p) [.Lambda a d scope f] [] pos) (Zz X.K (UT Zw 4 V5 js cb)):=by
 unfold Kl at e;simp only[qC5,decide_eq_true_eq,qH5]at e;obtain⟨⟨⟨⟨g,o⟩,K⟩,O⟩,T⟩:=e;unfold NG at o;simp only[qC5,decide_eq_true_eq,qH5,qD2,beq_iff_eq,bne_iff_ne]at o;obtain⟨⟨⟨⟨⟨⟨P,L⟩,Q⟩,V⟩,R⟩,S⟩,v⟩:=o;obtain⟨F,J⟩:=NI I;have q:=h.roomT g;refine rN (h.rf g _ T) (λc e C y=>?_) (h.lam g) (h.gl _ K) O (q.mono (by omega)) ⟨L,Q,V,R,E4 P,λx b=>h.cel x (v x (E3 b)).1,F,λi j A=>?_⟩ λY Z B n l s H E=>G _ {
   calm:=rfl
   N:=rfl
   nd:=S
   gl:=λx b=>b
   loc:=λx b=>b
   cel:=λx b=>b
   fre:=λx b=>.inr b
   fnn:=λz=>by cases z
   room:=(q.deeper n).deeper _
   roomT:=λz=>by cases z
   lam:=λz=>by cases z
   tk:=λz=>by cases z
   rf:=λz=>by cases z
   xk:=h.xk
   xm:=h.xm
   xv:=h.xv
   own:=PassesOwn.leaving
   exc:=h.exc
   blt:=h.blt
   fns:=h.fns }
 .obtain⟨W,r,w⟩:=h.xm c e;rw[y]at r;cases r;exact w
 .obtain⟨x,u,U⟩:=J i j A;exact⟨x,u,by rw[h.N];exact U,(v x (qB6 u)).2⟩
noncomputable def Ur(a:Sc)(ar:Str->yK)(t:Str):yE->Option (List Nat×jR×Str×yE)
 |[.Lambda params (.Call (.Name g _) args [] _) scope _] =>
  if Kl a t params scope=Z7/\scope.names.lookup g=Z9 .globalImplicit/\ar g=Z9 args.length/\args≠[]/\YL g then
   (slots a.N (Xy scope.names)).map λb=>(b,scope,g,args)
  else Z8
 |_=>Z8
theorem qY(h:Y9 X sc ar cl k){t g:Str}{es c:yE}{js:List Nat}{scope:jR}{f:yZ->Option C}{o:List C}{p pos:Pos}(e:Ur sc ar t es=Z9 (js,scope,g,c))(F:∀n,Y9 n (TL scope) ar cl k->XN n f)(z:zA1? f c=Z9 o):
  PE X (.Call (.Name t p) es [] pos) (Zz X.K (UT Zw 4 V5 js (Xz (cl g) (ZP o)))):=by
 unfold Ur at e;split at e
 .rename_i l L K m H j J;split at e
  .rename_i u;obtain⟨s,r,A,G,B⟩:=u;obtain⟨E,w,e⟩:=qA5.mp e;cases e;refine qZ h s w λn i=>?_;obtain⟨x,q⟩:=Vx (F _ i) z;obtain⟨⟨I,y⟩,d⟩:=i.fns g _ A;cases c with
   |nil=>exact absurd rfl G
   |cons a es=>exact(NW y i.room (i.gl g r) KQ x (qA7 _) B (Xg (q a (by simp))) (Ro λb v=>q b (by simp[v]))).weak (KN d)
  .cases e
 .cases e
noncomputable def ND(b:Sc)(ar:Str->yK)(x:Str):yE->Option (yZ×Str)
 |[a,.Name g _]=>if x = "isinstance"/\b.names.lookup x=Z9 .globalImplicit/\ar x=Z8/\b.names.lookup g=Z9 .globalImplicit/\(g = "ValueError"∨g∈XO)/\WT a=Z7 then Z9 (a,g)else Z8
 |_=>Z8
theorem qX(h:Y9 X sc ar cl k){x g:Str}{es:yE}{a:yZ}{f:yZ->Option C}(o:XN X f){c:C}{p pos:Pos}(e:ND sc ar x es=Z9 (a,g))(l:f a=Z9 c):PE X (.Call (.Name x p) es [] pos) (Zz X.K (Xj (YX g) c)):=by
 unfold ND at e;split at e
 .rename_i r s q;split at e
  .rename_i i;obtain⟨rfl,n,j,d,b,m⟩:=i;cases e;refine rP (o _ _ l) (h.gl _ n) (h.blt.b _ (by decide +kernel) j) h.xk ?_ (Xg m);rcases b with rfl|b
   .exact .inl ⟨rfl,h.gl _ d,h.xv⟩
   .refine .inr ⟨b,h.gl _ d,h.xm _ b,?_⟩;simp only[XO,qA9,qD3,or_false]at b;rcases b with rfl|rfl|rfl|rfl|rfl|rfl|rfl<;>decide +kernel
  .cases e
 .cases e
end
section
variable (ar:Str->yK) (cl:Str->List D->M D)
mutual
noncomputable def cE:Nat->Sc->yZ->Option C
 |0,_,_=>Z8
 |n+1,sc,e=>match e with
  |.Constant v _ _=>Fn v
  |.Name x _=>KE sc ar x
  |.BinOp a i b _=>(Fm i).bind λo=>(cE n sc a).bind λd=>(cE n sc b).map λp=>ZU o d p
  |.UnaryOp i a _=>match i with
   |.USub=>(cE n sc a).map λd=>Xj Xs d
   |.Not=>(cE n sc a).map λd=>N5 d
   |_=>Z8
  |.BoolOp i l _=>Ky i (cE n sc) l
  |.IfExp t a b _=>(cT n sc t).bind λy=>(cE n sc a).bind λd=>(cE n sc b).map λp=>RD y d p
  |.Compare a r bs _=>P9 (cE n sc) a r bs
  |.Tuple f _ _=>(zA1? (cE n sc) f).bind λc=>if c.length<=1000 then Z9 (Y2 (ZP c))else Z8
  |.List f _=>(zA1? (cE n sc) f).bind λc=>if c.length<=1000 then Z9 (YN (ZP c))else Z8
  |.Subscript a b _=>SD (cE n sc) a b
  |.Dict s l _=>Kz (cE n sc) s l
  |.Call w f kw j=>match kw with
   |[]=>match w with
    |.Name x _=>match NF sc ar x f with
     |some (u,js,scope,g,args)=>(zA1? (cE n (TL scope)) args).map λc=>Qd Zw u js (Xz (cl g) (ZP c))
     |none=>match Ur sc ar x f with
      |some (js,scope,g,args)=>(zA1? (cE n (TL scope)) args).map λc=>UT Zw 4 V5 js (Xz (cl g) (ZP c))
      |none=>match ND sc ar x f with
       |some (a,g)=>(cE n sc a).map λd=>Xj (YX g) d
       |none=>NM sc ar cl (cE n sc) x f
    |.Attribute o m h=>KA (cE n sc) o m f h j
    |_=>Z8
   |_::_=>Z8
  |.ListComp q k scope _=>match k with
   |[⟨tg,iter,ifs,ia⟩]=>if ia=0 then Rj sc (SA sc ar (cE n sc) tg iter) (cE n) (cT n) tg q ifs scope else Z8
   |_=>Z8
  |_=>Z8
noncomputable def cT:Nat->Sc->yZ->Option CT
 |0,_,_=>Z8
 |n+1,sc,e=>match e with
  |.UnaryOp c a _=>match c with
   |.Not=>(cT n sc a).map λf=>VX f
   |_=>(cE n sc e).map YZ
  |.BoolOp c d _=>Kw c (cT n sc) d
  |.IfExp _ _ _ _=>Z8
  |.Compare a b bs _=>KC (cE n sc) a b bs
  |_=>(cE n sc e).map YZ
end
end
section
variable {X:Cx}{sc:Sc}{ar:Str->yK}{cl:Str->List D->M D}{k:Nat}
theorem Ri:∀n:Nat,(∀X f,Y9 X f ar cl k->XN X (cE ar cl n f))/\(∀X f,Y9 X f ar cl k->Rl X (cT ar cl n f))
 |0=>⟨λX f h e c q=>(by cases q),λX f h e c q=>(by cases q)⟩
 |n+1=>by
  obtain⟨w,A⟩:=Ri n;refine⟨λX f h e c q=>?_,λX f h e c q=>?_⟩
  .have l:=w X f h;have ht:=A X f h;cases e with
   |Constant v j d=>exact rJ q
   |Name x d=>exact rK h q
   |BinOp a G b d =>
    obtain⟨o,N,r⟩:=qA2.mp q;obtain⟨z,i,s⟩:=qA2.mp r;obtain⟨W,J,K⟩:=qA5.mp s;subst K;exact uP (KD N) (l _ _ i) (l _ _ J)
   |UnaryOp G a d =>
    cases G with
    |USub =>
     obtain⟨z,i,s⟩:=qA5.mp q;subst s;exact uK uc (l _ _ i)
    |Not =>
     obtain⟨z,i,s⟩:=qA5.mp q;subst s;exact uH (l _ _ i)
    |_=>cases q
   |BoolOp G T d=>exact Kx l q
   |IfExp t a b d =>
    obtain⟨ct,N,r⟩:=qA2.mp q;obtain⟨z,i,s⟩:=qA2.mp r;obtain⟨W,J,K⟩:=qA5.mp s;subst K;exact uG (ht _ _ N) (l _ _ i) (l _ _ J)
   |Compare a P bs d=>exact rG h.room l q
   |Tuple H j d =>
    obtain⟨B,i,r⟩:=qA2.mp q;split at r
    .rename_i y;cases r;exact uz (Vx l i).1 y
    .cases r
   |List H d =>
    obtain⟨B,i,r⟩:=qA2.mp q;split at r
    .rename_i y;cases r;exact uy (Vx l i).1 y
    .cases r
   |Subscript a b d=>exact rH h.room l q
   |Dict ks T d=>exact rx l q
   |Call Y H kw U =>
    cases kw with
    |cons _ _=>cases q
    |nil =>
     cases Y with
     |Name x p =>
      change (match NF f ar x H with|some (R,js,scope,g,args)=>(zA1? (cE ar cl n (TL scope)) args).map λB=>Qd Zw R js (Xz (cl g) (ZP B))| none=>match Ur f ar x H with|some (js,scope,g,args)=>(zA1? (cE ar cl n (TL scope)) args).map λB=>UT Zw 4 V5 js (Xz (cl g) (ZP B))| none=>match ND f ar x H with|some (a,g)=>(cE ar cl n f a).map λz=>Xj (YX g) z|none=>NM f ar cl (cE ar cl n f) x H)=Z9 c at q;split at q
      .rename_i R js scope g args y;obtain⟨B,i,r⟩:=qA5.mp q;subst r;exact rd h y (λF E=>w F _ E) i
      .split at q
       .rename_i js scope g args y;obtain⟨B,i,r⟩:=qA5.mp q;subst r;exact qY h y (λF E=>w F _ E) i
       .split at q
        .rename_i a g y;obtain⟨z,i,r⟩:=qA5.mp q;subst r;exact qX h l y i
        .exact rB h l q
     |Attribute o m S=>exact rA h.room l q
     |_=>cases q
   |ListComp O I scope d =>
    cases I with
    |nil=>cases q
    |cons g Z =>
     obtain⟨Q,iter,L,ia⟩:=g;cases Z with
     |cons _ _=>cases q
     |nil =>
      change (if ia=0 then Rj f (SA f ar (cE ar cl n f) Q iter) (cE ar cl n) (cT ar cl n) Q O L scope else Z8)=Z9 c at q;split at q
      .rename_i V;subst V;exact rh h q (λci e=>Kq h l e) (λF C E=>w F C E) (λF C E=>A F C E)
      .cases q
   |_=>cases q
  .have l:=w X f h;have ht:=A X f h;have dflt:∀{c:CT},(cE ar cl n f e).map YZ=Z9 c->(∀u,dJ e X.env u=(do let v <- u;mV e.pos;wW [v] (truthy v)))->PT X e (YS X.K c):=λ{c} q he=>by obtain⟨z,i,s⟩:=qA5.mp q;subst s;exact uB (l _ _ i) he
   cases e with
   |UnaryOp G a d =>
    cases G with
    |Not =>
     obtain⟨z,i,s⟩:=qA5.mp q;subst s;exact uD (ht _ _ i)
    |USub=>exact dflt q λ_=>rfl
    |UAdd=>exact dflt q λ_=>rfl
    |Invert=>exact dflt q λ_=>rfl
   |BoolOp G T d=>exact(Kv ht q).pt
   |IfExp t a b d=>cases q
   |Compare a P bs d=>exact rF h.room l q
   |_=>exact dflt q λ_=>rfl
section
variable (ar:Str->yK) (cl:Str->List D->M D)
noncomputable def E2(a:Sc)(x:Str):Option G:=(TM a.N x 0).bind λi=>if a.names.lookup x=Z9 .local∨(a.fn.isSome=Z7/\a.names.lookup x=Z9 .cell)then Z9 (gN i)else Z8
mutual
noncomputable def cG:Nat->Sc->yZ->Option G
 |0,_,_=>Z8
 |n+1,sc,e=>match e with
  |.Name x _=>E2 sc x
  |.Subscript a b _=>match b with
   |_=>if Rm b then Z8 else(cE ar cl n sc a).bind λg=>(cE ar cl n sc b).map λf=>gS g f
  |.Tuple d _ _=>(cGs n sc d).map λc=>gT c
  |_=>Z8
noncomputable def cGs:Nat->Sc->yE->Option (List G)
 |0,_,_=>Z8
 |n+1,sc,es=>match es with
  |[]=>Z9 []
  |e::r=>if WT e then(cG n sc e).bind λg=>(cGs n sc r).map λa=>g::a else Z8
end
end
theorem Y9.nd'(h:Y9 X sc ar cl k):X.N.Nodup:=by rw[h.N];exact h.nd
theorem P8(h:Y9 X sc ar cl k){x:Str}{g:G}(e:E2 sc x=Z9 g):∃i,g=gN i/\X.N[i]?=Z9 x/\R0 X.env.scope x/\(X.fn x=Z7∨X.env.scope.names.lookup x=Z9 .local):=by
 obtain⟨i,d,a⟩:=qA2.mp e;split at a
 .rename_i f;cases a;refine⟨i,rfl,by rw[h.N];exact(NR d).2,?_⟩;rcases f with q|⟨c,b⟩
  .exact⟨.inl (h.loc x q),.inr (h.loc x q)⟩
  .exact⟨.inr (h.cel x b),.inl (h.fnn c x)⟩
 .cases a
theorem qW{a b:yZ}{pos:Pos}{env:Env}(h:Rm b=Z5):∀v,fX (.Subscript a b pos) env v=(do
   let ov <- wW [v] (vO a env)
   let iv <- wW [v,ov] (vO b env)
   mV pos
   wW [v,ov,iv] (dU ov iv v)
   release [v,ov,iv] []):=by cases b<;>first|(intro v;rfl)| cases h
theorem NC{e:yZ}{es:yE}{env:Env}(h:WT e=Z7):jP (e::es) env=(Z5,fX e env)::jP es env:=by cases e<;>first|rfl|cases h
theorem E1:∀n:Nat,(∀X d,Y9 X d ar cl k->∀e g,cG ar cl n d e=Z9 g->PG X e (W5 X.K g))/\(∀X d,Y9 X d ar cl k->∀es f,cGs ar cl n d es=Z9 f->VL X es (Qf X.K f)/\(jP es X.env).length=f.length/\(jP es X.env).findIdx? (·.1)=Z8)
 |0=>⟨λX d h e c q=>(by cases q),λX d h e c q=>(by cases q)⟩
 |n+1=>by
  obtain⟨D,m⟩:=E1 n;refine⟨λX d h e g q=>?_,λX d h es f q=>?_⟩
  .cases e with
   |Name x l =>
    obtain⟨i,rfl,o,p,u⟩:=P8 h q;exact sQ (T9 h.nd' o p u)
   |Subscript a b l =>
    change (if Rm b then Z8 else(cE ar cl n d a).bind λB=>(cE ar cl n d b).map λC=>gS B C)=_ at q;split at q
    .cases q
    .rename_i z;obtain⟨B,t,s⟩:=qA2.mp q;obtain⟨C,w,v⟩:=qA5.mp s;subst v;exact sP (LU h.room) ((Ri n).1 X d h _ _ t) ((Ri n).1 X d h _ _ w) (qW (by simpa using z))
   |Tuple es j l =>
    obtain⟨f,t,s⟩:=qA5.mp q;subst s;obtain⟨o,p,u⟩:=m X d h es f t;exact sL h.calm o p u
   |_=>cases q
  .cases es with
   |nil=>cases q;exact⟨sO,rfl,rfl⟩
   |cons e r =>
    change (if WT e=Z7 then(cG ar cl n d e).bind λg=>(cGs ar cl n d r).map λf=>g::f else Z8)=_ at q;split at q
    .rename_i z;obtain⟨g,t,s⟩:=qA2.mp q;obtain⟨y,w,v⟩:=qA5.mp s;subst v;obtain⟨o,p,u⟩:=m X d h r y w;have A:=NC (es:=r) (env:=X.env) z;refine⟨sN (D X d h e g t) o (by rw[A];rfl),by rw[A];simp[p],by rw[A,qP9];simp[u]⟩
    .cases q
noncomputable def TJ:yZ->Bool
 |.ListComp _ _ _ _=>Z7
 |.SetComp _ _ _ _=>Z7
 |.DictComp _ _ _ _ _=>Z7
 |_=>Z5
theorem Kk{e:yZ}{t:Option yZ}{n:Nat}{env:Env}(h:TJ e=Z5):wS e t n env=pure Z5:=by cases e<;>first|rfl|cases h
noncomputable def Kj:yZ->yZ->Bool
 |.Name _ _,.ListComp _ _ _ _=>Z5
 |.Tuple _ _ _,.ListComp _ _ _ _=>Z5
 |_,e=>TJ e
theorem qV(h:Y9 X sc ar cl k):∀{n:Nat}{elt:yZ}{gens:List mQ}{scope:jR}{pos pos' a:Pos}{x:Str}{c:C}{i:Nat} (q:cE ar cl n sc (.ListComp elt gens scope pos)=Z9 c) (f:PG X (.Name x pos') (UL i))
  (d:wS (.ListComp elt gens scope pos) (Z9 (.Name x pos')) a.line X.env=pure Z7),PS X (.Assign [.Name x pos'] (.ListComp elt gens scope pos) a) (Wo (Zz X.K c) (UL i))
 |0,_,_,_,_,_,_,_,_,_,q,_,_=>by cases q
 |n+1,elt,gens,scope,pos,pos',a,x,c,i,q,f,d=>by
  obtain⟨j,l⟩:=Ri (ar:=ar) (cl:=cl) (k:=k) n;cases gens with
  |nil=>cases q
  |cons g t =>
   obtain⟨r,iter,m,u⟩:=g;cases t with
   |cons _ _=>cases q
   |nil =>
    change (if u=0 then Rj sc (SA sc ar (cE ar cl n sc) r iter) (cE ar cl n) (cT ar cl n) r elt m scope else Z8)=Z9 c at q;split at q
    .rename_i s;subst s;exact rg h f d q (λv e=>Kq h (j X sc h) e) (λp b o=>j p b o) (λp b o=>l p b o)
    .cases q
theorem qU{elt:yZ}{gens:List mQ}{scope:jR}{pos pos':Pos}{x:Str}{line:Nat}{env:Env}:∃b:Bool,wS (.ListComp elt gens scope pos) (Z9 (.Name x pos')) line env=pure b:=⟨_,rfl⟩
inductive CB(tg e:yZ):Prop
 |no (h:∀n env,wS e (Z9 tg) n env=pure Z5)
 |yes (x:Str) (pos':Pos) (elt:yZ) (gens:List mQ) (scope:jR) (pos:Pos) (h1:tg=.Name x pos') (h2:e=.ListComp elt gens scope pos)
theorem CB.of{a e:yZ}(h:TJ e=Z5):CB a e:=.no λ_ _=>Kk h
theorem EZ{g e:yZ}(h:Kj g e=Z5):CB g e:=by
 cases g with
 |Name x d =>
  cases e with
  |ListComp f b a c=>exact .yes x d f b a c rfl rfl
  |_=>exact .of h
 |Tuple i k c =>
  cases e with
  |ListComp f b a c=>exact .no λ_ _=>rfl
  |_=>exact .of h
 |_=>exact .of h
noncomputable def NB:yZ->Bool
 |.List _ _=>Z7
 |_=>Z5
theorem EY{a e:yZ}{env:Env}(h:(Wr a&&Wr e)=Z5)(d:NB a=Z5):wE [a] e env=pure Z8:=by
 cases a with
 |Tuple c n b=>cases e<;>first|rfl|cases h
 |List c b=>cases d
 |_=>rfl
noncomputable def Rh(a:Sc):yZ->Bool
 |.Tuple [.Name x _,.Name y _] _ _=>a.names.lookup x == Z9 .cell||a.names.lookup y == Z9 .cell
 |_=>Z5
theorem qT{c:yZ}(h:Rh sc c=Z7):∃x b y a k pos,c=.Tuple [.Name x b,.Name y a] k pos/\(sc.names.lookup x=Z9 .cell∨sc.names.lookup y=Z9 .cell):=by
 unfold Rh at h;split at h
 .rename_i x b y a k pos;simp only[qI2,beq_iff_eq]at h;exact⟨x,b,y,a,k,pos,rfl,h⟩
 .cases h
theorem qS{x y:Str}{c b pos a:Pos}{k k2:Nat}{f:yE}{env:Env}(h:env.scope.names.lookup x=Z9 .cell∨env.scope.names.lookup y=Z9 .cell):wE [.Tuple [.Name x c,.Name y b] k pos] (.Tuple f k2 a) env=pure Z8:=by
 have g:(([Expr.Name x c,Expr.Name y b].filterMap λe=>match e with
  |.Name id p=>if(env.kindOf id == Z9 NameKind.local&&p.line == (([Expr.Name x c,Expr.Name y b].head?.map (·.pos.line)).getD 0))=Z7 then Z9 id else Z8
  | _=>Z8).length != 2)=Z7:=by
  have i:env.kindOf x=env.scope.names.lookup x:=rfl;have j:env.kindOf y=env.scope.names.lookup y:=rfl;have d:(Z9 NameKind.cell == Z9 NameKind.local)=Z5:=by decide
  rcases h with h|h
  .simp only[qH6,qQ0,i,h,d,qP0,qQ1,if_false];split<;>rfl
  .simp only[qH6,qQ0,j,h,d,qP0,qQ1,if_false];split<;>rfl
 unfold wE;simp only[pure_bind];split
 .rfl
 .split
  .rfl
  .rw[if_pos];rw[qI2];exact .inl g
theorem Ki(h:Y9 X sc ar cl k){a e:yZ}(c:(Wr a&&Wr e&&!Rh sc a)=Z5)(f:NB a=Z5):wE [a] e X.env=pure Z8:=by
 cases d:Rh sc a with
 |false =>
  rw[d]at c;exact EY (by simpa using c) f
 |true =>
  cases g:Wr e with
  |false=>exact EY (by rw[g];simp) f
  |true =>
   obtain⟨l,k2,j,rfl⟩:=Kr g;obtain⟨x,n,y,m,o,i,rfl,b⟩:=qT d;exact qS (b.imp (h.cel x) (h.cel y))
noncomputable def qR(a:Sc)(t v:yZ×yZ)(n:Str×Str):Option (Nat×Nat×yZ×yZ) :=
 if n.1≠n.2/\a.names.lookup n.1=Z9 .local/\a.names.lookup n.2=Z9 .local/\t.1.pos.line=t.2.pos.line/\WT v.1=Z7/\WT v.2=Z7/\([v.1,v.2].all (foldedForSure 8))=Z5/\([v.1,v.2].all (constantsAlone 8))=Z5 then
  (TM a.N n.1 0).bind λi=>(TM a.N n.2 0).map λj=>(i,j,v.1,v.2)
 else Z8
noncomputable def NA(a:Sc):Option yZ->Option yZ->Option Str
 |some (.Call (.Name x _) [.Constant (.str _) _ _] [] _),Z8=>if a.names.lookup x=Z9 .globalImplicit/\x∈V6/\YL x then Z9 x else Z8
 |_,_=>Z8
theorem qQ(h:Y9 X sc ar cl k){a b:Option yZ}{x:Str}{pos:Pos}(e:NA sc a b=Z9 x):PS X (.Raise a b pos) (Zl X (Rx x)):=by
 unfold NA at e;split at e
 .split at e
  .rename_i c;cases e;exact sG h.calm (h.gl _ c.1) (h.exc _ c.2.1) c.2.2
  .cases e
 .cases e
noncomputable def Wy(a:Sc)(ar:Str->yK):yZ->Option (Str×yE)
 |.Call (.Name g _) args [] _=>if g∈rM/\a.names.lookup g=Z9 .globalImplicit/\ar g=Z9 args.length/\args≠[]/\YL g then Z9 (g,args)else Z8
 |_=>Z8
theorem Uq(h:Y9 X sc ar cl k){f:yZ->Option C}(u:XN X f){e:yZ}{g:Str}{c:yE}{j:List C}(d:Wy sc ar e=Z9 (g,c))(r:zA1? f c=Z9 j):PE X e (Y3 X (Xz (cl g) (ZP j))):=by
 unfold Wy at d;split at d
 .split at d
  .rename_i n;obtain⟨_,m,s,v,t⟩:=n;cases d;obtain⟨p,l⟩:=Vx u r;obtain⟨⟨w,q⟩,i⟩:=h.fns g _ s;cases c with
   |nil=>exact absurd rfl v
   |cons a x=>exact(NW q h.room (h.gl g m) KQ p (qA7 _) t (Xg (l a (by simp))) (Ro λb o=>l b (by simp[o]))).weak (KN i)
  .cases d
 .cases d
noncomputable def Va(t:CT)(a b:C):C:=fun B S=>match t B S with
 |.ok k c=>if k then a B c else b B c
 |_=>.bad
theorem qP{t a b:yZ}{pos:Pos}{l:CT}{j cb:C}(ht:PT X t (YS X.K l))(q:PE X a (Y3 X j))(p:PE X b (Y3 X cb)):PE X (.IfExp t a b pos) (Y3 X (Va l j cb)):=(HV ht q p).weak (by
 rintro Z H Q ⟨J,B,S,o,i,y⟩;unfold Va at y;cases h:l B S with
 |bad=>rw[h]at y;exact y.elim
 |er _ _=>rw[h]at y;exact y.elim
 |ok k f =>
  rw[h]at y;refine⟨J,B,S,k,f,o,i,h,λr n g e=>?_⟩;dsimp only at y;cases k with
  |true =>
   refine⟨n,B,f,g,i.up e,?_⟩;revert y;cases j B f with
   |ok d m=>exact λy=>Yc.shift y e
   |bad=>exact λy=>y
   |er c m=>exact λy=>Xr.shift y e
  |false =>
   refine⟨n,B,f,g,i.up e,?_⟩;revert y;cases cb B f with
   |ok d m=>exact λy=>Yc.shift y e
   |bad=>exact λy=>y
   | er c m=>exact λy=>Xr.shift y e)
noncomputable def Rg(c:C)(g:G):CS:=fun B S=>match c B S with
 |.ok d a=>match g d B a with
  |.ok b e=>.nx b e
  |_=>.bad
 |.bad=>.bad
 |.er k a=>.er k a
theorem qO{a e:yZ}{pos:Pos}{i:C}{g:G}(he:PE X e (Y3 X i))(z:PG X a (W5 X.K g))(w:mL [a] e pos.line X.env=pure Z5)(n:wE [a] e X.env=pure Z8)(x:(jP [a] X.env).map (·.2)=[fX a X.env]):PS X (.Assign [a] e pos) (Zl X (Rg i g)):=(RZ he z w n x).weak (by
 rintro E Z H ⟨J,B,S,s,m,p⟩;refine⟨J,B,S,s,m,?_⟩;unfold Rg at p;revert p;cases i B S with
 |bad=>exact λp=>p
 |er k l=>exact λp=>p
 |ok d l =>
  dsimp only;cases y:g d B l with
  |bad=>exact λp=>False.elim p
  |er _ _=>exact λp=>False.elim p
  | ok r D=>exact λp v F A j c u=>⟨A,B,l,d,r,D,j,m.up c,u,y,fun q o t b h f=>p q o t b (c.trans h b.nd) f⟩)
noncomputable def Sz(a b:C):C:=fun B S=>match a B S with
 |.ok x e=>match b B e with
  |.ok y g=>match Zu x y g with
   |.ok d f=>.ok d f
   |_=>.bad
  |_=>.bad
 |.bad=>.bad
 |.er c e=>.er c e
noncomputable def Sy(o:List D->M D)(a:C):C:=fun B S=>match a B S with
 |.ok x b=>match o [x] b with
  |.ok d e=>.ok d e
  |_=>.bad
 |.bad=>.bad
 |.er c b=>.er c b
theorem qN{a b:yZ}{j cb:C}{pos:Pos}(D:X.A.units+1<wK)(F:PE X a (Y3 X j))(t:PE X b (Zz X.K cb))(E:OB b):PE X (.Subscript a b pos) (Y3 X (Sz j cb)):=(Hq Gb F t E).weak (by
 rintro Z H Q ⟨J,B,S,s,m,y⟩;unfold Sz at y;refine⟨J,B,S,s,m,?_⟩;revert y;cases j B S with
 |bad=>exact λy=>y
 |er c n=>exact λy=>y
 |ok x o =>
  dsimp only;intro y v I G l g A;cases h:cb B o with
  |bad=>rw[h]at y;exact y.elim
  |er c n=>rw[h]at y;exact y.elim
  |ok z k =>
   rw[h]at y;dsimp only at y;refine⟨G,B,o,z,k,l,m.up g,h,λu p w f e q=>?_⟩;cases i:Zu x z k with
   |bad=>rw[i]at y;exact y.elim
   |er c n=>rw[i]at y;exact y.elim
   |ok d r =>
    rw[i]at y;exact FV D x z k d r p w v u Q i f (RV.up e.tk e.ext _ _ A) q (Yc.shift y (g.trans e f.nd)))
theorem qM{a:yZ}{e:C}{p pos:Pos}(q:Gl X "len")(hm:X.mg "len"=Z8)(o:PE X a (Y3 X e))(h:WT a=Z7):PE X (.Call (.Name "len" p) [a] [] pos) (Y3 X (Sy Zr e)):=(L5 Qn q hm G7 (QO o OF (Xg h)) (by decide +kernel) (by decide +kernel) (Xg h) rfl).weak (by
 rintro Z H Q ⟨J,B,S,m,j,y⟩;unfold Sy at y;refine⟨J,B,S,m,j,?_⟩;revert y;cases e B S with
 |bad=>exact λy=>y
 |er c s=>exact λy=>y
 |ok x i =>
  dsimp only;intro y v l r g f n;cases b:Zr [x] i with
  |bad=>rw[b]at y;exact y.elim
  |er c s=>rw[b]at y;exact y.elim
  |ok d k =>
   rw[b]at y;exact FT [x] i d k l r [v] Q b g (.cons n .nil) (Yc.shift y f))
noncomputable def cY(ar:Str->yK)(cl:Str->List D->M D)(f:yZ->Option C)(a:Sc)(e:yZ):Option C:=match Wy a ar e with
 |some (g,args)=>(zA1? f args).map λb=>Xz (cl g) (ZP b)
 |none=>Z8
noncomputable def P7(f:yZ->Option C)(a:Option C)(b:yZ):Option C:=if Rm b then Z8 else a.bind λd=>(f b).map λc=>Sz d c
theorem Nz(h:Y9 X sc ar cl k){f:yZ->Option C}(i:XN X f){e:yZ}{c:C}(q:cY ar cl f sc e=Z9 c):PE X e (Y3 X c):=by
 unfold cY at q;split at q
 .rename_i g a j;obtain⟨l,d,b⟩:=qA5.mp q;subst b;exact Uq h i j d
 .cases q
theorem Kh(h:Y9 X sc ar cl k){f:yZ->Option C}(e:XN X f){a b:yZ}{pos:Pos}{o:Option C}(j:∀c,o=Z9 c->PE X a (Y3 X c)){c:C}(q:P7 f o b=Z9 c):PE X (.Subscript a b pos) (Y3 X c):=by
 unfold P7 at q;split at q
 .cases q
 .rename_i i;obtain⟨m,d,q⟩:=qA2.mp q;obtain⟨l,g,q⟩:=qA5.mp q;subst q;exact qN (LU h.room) (j _ d) (e _ _ g) (Fl (by simpa using i))
noncomputable def Kg(ar:Str->yK)(cl:Str->List D->M D)(f:yZ->Option C)(c:Sc)(e:yZ):Option C:=match e with
 |.Subscript a b _=>P7 f (cY ar cl f c a) b
 |_=>Z8
noncomputable def Kf(ar:Str->yK)(cl:Str->List D->M D)(f:yZ->Option C)(c:Sc)(e:yZ):Option C:=match e with
 |.Subscript a b _=>match cY ar cl f c a with
  |some d=>P7 f (Z9 d) b
  |none=>P7 f (Kg ar cl f c a) b
 |.Call (.Name x _) [a] [] _=>if x=("len":Str)/\c.names.lookup ("len":Str)=Z9 .globalImplicit/\ar "len"=Z8/\WT a=Z7 then(cY ar cl f c a).map λd=>Sy Zr d else Z8
 |_=>Z8
theorem Ke(h:Y9 X sc ar cl k){f:yZ->Option C}(a:XN X f){e:yZ}{c:C}(q:Kg ar cl f sc e=Z9 c):PE X e (Y3 X c):=by
 unfold Kg at q;split at q
 .exact Kh h a (λc b=>Nz h a b) q
 .cases q
theorem Kd(h:Y9 X sc ar cl k){f:yZ->Option C}(b:XN X f){e:yZ}{c:C}(q:Kf ar cl f sc e=Z9 c):PE X e (Y3 X c)/\TJ e=Z5:=by
 unfold Kf at q;split at q
 .split at q
  .rename_i l a;exact⟨Kh h b (λc e=>by cases e;exact Nz h b a) q,rfl⟩
  .exact⟨Kh h b (λc a=>Ke h b a) q,rfl⟩
 .split at q
  .rename_i a;obtain⟨rfl,d,g,j⟩:=a;obtain⟨l,i,q⟩:=qA5.mp q;subst q;exact⟨qM (h.gl _ d) (h.blt.b _ (by decide +kernel) g) (Nz h b i) j,rfl⟩
  .cases q
 .cases q
noncomputable def V4(a:C)(lo hi:CO):C:=fun B S=>match a B S with
 |.ok x b=>match lo B b with
  |.ok l g=>match hi B g with
   |.ok h f=>match Vo x l h f with
    |.ok d e=>.ok d e
    |_=>.bad
   |_=>.bad
  |_=>.bad
 |.bad=>.bad
 |.er c b=>.er c b
theorem qL{a:yZ}{q:C}{lo hi:Option yZ}{cl ch:CO}{p2 pos:Pos}(F:PE X a (Y3 X q))(I:PO X lo (Wd X.K cl))(L:PO X hi (Wd X.K ch)):PE X (.Subscript a (.Slice lo hi Z8 p2) pos) (Y3 X (V4 q cl ch)):=(Hu Ga F I L).weak (by
 rintro Z H Q ⟨J,B,S,w,o,y⟩;unfold V4 at y;refine⟨J,B,S,w,o,?_⟩;revert y;cases q B S with
 |bad=>exact λy=>y
 |er c t=>exact λy=>y
 |ok x u =>
  dsimp only;intro y v N K s j D;cases m:cl B u with
  |bad=>rw[m]at y;exact y.elim
  |er c t=>rw[m]at y;exact y.elim
  |ok l r =>
   rw[m]at y;dsimp only at y;refine⟨K,B,u,l,r,s,o.up j,m,λM A i e=>?_⟩;have b:=j.trans e i.nd;cases n:ch B r with
   |bad=>rw[n]at y;exact y.elim
   |er c t=>rw[n]at y;exact y.elim
   |ok h p =>
    rw[n]at y;dsimp only at y;refine⟨A,B,r,h,p,i,o.up b,n,λE G g f=>?_⟩;cases k:Vo x l h p with
    |bad=>rw[k]at y;exact y.elim
    |er c t=>rw[k]at y;exact y.elim
    |ok d z =>
     rw[k]at y;exact FU x l h p d z E G v Q k g (RV.up f.tk f.ext _ _ (RV.up e.tk e.ext _ _ D)) (Yc.shift y (b.trans f g.nd)))
noncomputable def Up(c:C)(g:G)(b:CS):CS:=fun B S=>match c B S with
 |.ok x a=>match x with
  |.lst n=>match ZL a n with
   |some d=>Y4 [(n,d)] g b d B a
   |none=>.bad
  |_=>.bad
 |.bad=>.bad
 |.er k a=>.er k a
theorem qK{l e:yZ}{b:List vK}{c:C}{g:G}{cb:CS}{pos:Pos}(s:fU (yW X.prog X.w) X.A X.env X.xe)(m:X.calm=Z7)(he:PE X e (Y3 X c))(y:PG X l (W5 X.K g))(r:XE X b (Zl X cb))
  (u:∀x,vF e X.env x=pure x):PS X (.For l e b [] pos) (Zl X (Up c g cb)):=(HK s m (FH he) y r u).weak (by
 rintro E Z H ⟨J,B,S,o,j,p⟩;unfold Up at p;refine⟨J,B,S,o,j,?_⟩;revert p;cases c B S with
 |bad=>exact λp=>p
 |er k K=>exact λp=>p
 |ok x z =>
  intro p v D I f d t;cases x with
  |lst n =>
   dsimp only at p;cases h:ZL z n with
   |none=>rw[h]at p;exact p.elim
   |some A =>
    rw[h]at p;obtain⟨a,rfl,i⟩:=t;obtain⟨w,q,F⟩:=f.sq i h;exact⟨a,rfl,.inl ⟨⟨w,q⟩,FK f (j.up d) (FJ i) (p.shift d)⟩⟩
  | _=>exact p.elim)
noncomputable def P6(ar:Str->yK)(cl:Str->List D->M D)(f:yZ->Option C)(g:Sc)(e:yZ):Option C:=match e with
 |.Subscript a (.Slice h c Z8 _) _=>(cY ar cl f g a).bind λi=>(zFB? f h).bind λb=>(zFB? f c).map λd=>V4 i b d
 |_=>Z8
theorem Kc(h:Y9 X sc ar cl k){f:yZ->Option C}(a:XN X f){e:yZ}{c:C}(q:P6 ar cl f sc e=Z9 c):PE X e (Y3 X c)/\∀x,vF e X.env x=pure x:=by
 unfold P6 at q;split at q
 .obtain⟨l,b,q⟩:=qA2.mp q;obtain⟨i,g,q⟩:=qA2.mp q;obtain⟨j,d,q⟩:=qA5.mp q;subst q;exact⟨qL (Nz h a b) (NP a g) (NP a d),λ_=>rfl⟩
 .cases q
noncomputable def cX(ar:Str->yK)(cl:Str->List D->M D)(n:Nat)(c:Sc)(e:yZ):Option C:=match Wy c ar e with
 |some (g,args)=>(zA1? (cE ar cl n c) args).map λh=>Xz (cl g) (ZP h)
 |none=>match e with
  |.IfExp t a b _=>(Wy c ar a).bind λp=>(Wy c ar b).bind λq=>(cT ar cl n c t).bind λd=>(zA1? (cE ar cl n c) p.2).bind λi=>(zA1? (cE ar cl n c) q.2).map λf=>Va d (Xz (cl p.1) (ZP i)) (Xz (cl q.1) (ZP f))
  |e=>Kf ar cl (cE ar cl n c) c e
theorem qJ{e:yZ}{p:Str×yE}(h:Wy sc ar e=Z9 p):TJ e=Z5:=by
 unfold Wy at h;split at h
 .rfl
 .cases h
theorem Sx(h:Y9 X sc ar cl k){n:Nat}(a:XN X (cE ar cl n sc))(ht:Rl X (cT ar cl n sc)){e:yZ}{c:C}(q:cX ar cl n sc e=Z9 c):PE X e (Y3 X c)/\TJ e=Z5:=by
 unfold cX at q;split at q
 .rename_i g d b;obtain⟨s,l,j⟩:=qA5.mp q;subst j;exact⟨Uq h a b l,qJ b⟩
 .split at q
  .obtain⟨p,f,q⟩:=qA2.mp q;obtain⟨w,m,q⟩:=qA2.mp q;obtain⟨v,i,q⟩:=qA2.mp q;obtain⟨t,o,q⟩:=qA2.mp q;obtain⟨u,r,q⟩:=qA5.mp q;subst q;exact⟨qP (ht _ _ i) (Uq h a f o) (Uq h a m r),rfl⟩
  .exact Kd h a q
noncomputable def Vw:Nat:=100000
section
variable (ar:Str->yK) (cl:Str->List D->M D)
mutual
noncomputable def EW:Nat->Sc->vK->Option CS
 |0,_,_=>Z8
 |n+1,sc,s=>match s with
  |.Return v _=>match v with
   |none=>Z9 KO
   |some e=>match cX ar cl n sc e with
    |some c=>Z9 (Rw c)
    |none=>(cE ar cl n sc e).map λc=>ZF c
  |.Expr e _=>if TJ e then Z8 else match cX ar cl n sc e with
   |some c=>Z9 (Rv c)
   |none=>(cE ar cl n sc e).map λc=>WK c
  |.Assign j e _=>match j with
   |[f] =>
    if Kj f e||(Wr f&&Wr e&&!Rh sc f)||NB f||!WT f then Z8 else match cX ar cl n sc e with
     |some c=>(cG ar cl n sc f).map λg=>Rg c g
     |none=>(cE ar cl n sc e).bind λc=>(cG ar cl n sc f).map λg=>ZI c g
   |_=>Z8
  |.If t a b _=>(cT ar cl n sc t).bind λk=>(cSts n sc a).bind λo=>(cSts n sc b).map λi=>X9 k o i
  |.For f l d h _=>match h with
   |[]=>match P6 ar cl (cE ar cl n sc) sc l with
    |some c=>(cG ar cl n sc f).bind λg=>(cSts n sc d).map λi=>Up c g i
    |none=>(SA sc ar (cE ar cl n sc) f l).bind λm=>(cG ar cl n sc f).bind λg=>(cSts n sc d).map λi=>Zk m g i
   |_::_=>Z8
  |.While t d h _=>match h with
   |[]=>(cT ar cl n sc t).bind λk=>(cSts n sc d).map λi=>Ws Vw k i
   |_::_=>Z8
  |.Pass _=>Z9 ZH
  |.Break _=>Z9 SH
  |.Continue _=>Z9 SG
  |.Raise a b _=>match NA sc a b with
   |some x=>Z9 (Rx x)
   |none=>Z9 SF
  |_=>Z8
noncomputable def cSts:Nat->Sc->List vK->Option CS
 |0,_,_=>Z8
 |n+1,sc,ss=>match ss with
  |[]=>Z9 ZH
  |s::r=>(EW n sc s).bind λc=>(cSts n sc r).map λd=>ZV c d
end
end
inductive qI(sc:Sc)(tg e:yZ)(r:Nat×Nat×yZ×yZ):Prop
 |mk (x y:Str) (px py pt pt2:Pos) (kt k2:Nat) (v1 v2:yZ) (h1:tg=.Tuple [.Name x px,.Name y py] kt pt) (h2:e=.Tuple [v1,v2] k2 pt2) (hp:qR sc (.Name x px,.Name y py) (v1,v2) (x,y)=Z9 r)
theorem Kb(h:Y9 X sc ar cl k):fU (yW X.prog X.w) X.A X.env X.xe:=h.own
theorem Sw:∀n:Nat,(∀X d,Y9 X d ar cl k->∀s c,EW ar cl n d s=Z9 c->PS X s (Zl X c))/\(∀X d,Y9 X d ar cl k->∀s c,cSts ar cl n d s=Z9 c->XE X s (Zl X c))
 |0=>⟨λX d h e c q=>(by cases q),λX d h e c q=>(by cases q)⟩
 |n+1=>by
  obtain⟨ih,l⟩:=Sw n;refine⟨λX d h s c q=>?_,λX d h ss c q=>?_⟩
  .have w:=(Ri n).1 X d h;have ht:=(Ri n).2 X d h;have F:=(E1 n).1 X d h;cases s with
   |Return v pos =>
    cases v with
    |none=>cases q;exact sX
    |some e =>
     change (match cX ar cl n d e with|some c=>Z9 (Rw c)| none=>(cE ar cl n d e).map λc=>ZF c)=Z9 c at q;split at q
     .rename_i S D;cases q;exact sF (Sx h w ht D).1
     obtain⟨Q,j,m⟩:=qA5.mp q;subst m;exact sW (w _ _ j)
   |Expr e pos =>
    change (if TJ e=Z7 then Z8 else match cX ar cl n d e with|some c=>Z9 (Rv c)| none=>(cE ar cl n d e).map λc=>WK c)=Z9 c at q;split at q
    .cases q
    .rename_i C;split at q
     .rename_i S D;cases q;exact sD (Sx h w ht D).1 (Kk (by simpa using C))
     obtain⟨Q,j,m⟩:=qA5.mp q;subst m;exact sV (w _ _ j) (Kk (by simpa using C))
   |Assign N e pos =>
    cases N with
    |nil=>cases q
    |cons p r =>
     cases r with
     |cons _ _=>cases q
     |nil =>
      change (if Kj p e||(Wr p&&Wr e&&!Rh d p)||NB p||!WT p then Z8 else match cX ar cl n d e with|some c=>(cG ar cl n d p).map λg=>Rg c g|none=>(cE ar cl n d e).bind λc=>(cG ar cl n d p).map λg=>ZI c g)=Z9 c at q;split at q
      .cases q
      .rename_i C;simp only[qI2,not_or,Bool.not_eq_true,qH5,Bool.not_eq_false]at C;obtain⟨⟨⟨y,H⟩,J⟩,K⟩:=C;split at q
       .rename_i S D;obtain⟨g,f,o⟩:=qA5.mp q;subst o;obtain⟨U,Y⟩:=Sx h w ht D;rcases EZ y with y|⟨x,O,elt,gens,scope,T,rfl,rfl⟩
        .exact qO U (F _ _ f) (y _ _) (Ki h H J) (by rw[NC (by simpa using K)];rfl)
        .cases Y
       obtain⟨Q,j,m⟩:=qA2.mp q;obtain⟨g,f,o⟩:=qA5.mp m;subst o;rcases EZ y with y|⟨x,O,elt,gens,scope,T,rfl,rfl⟩
       .refine FL (w _ _ j) (F _ _ f) (y _ _) (Ki h H J) ?_;rw[NC (by simpa using K)];rfl
       .obtain⟨b,R⟩:=qU (elt:=elt) (gens:=gens) (scope:=scope) (pos:=T) (pos':=O) (x:=x) (line:=pos.line) (env:=X.env);cases b with
        |false=>exact FL (w _ _ j) (F _ _ f) R (Ki h H J) (by rw[NC (by simpa using K)];rfl)
        |true =>
         cases n with
         |zero=>cases f
         |succ n =>
          obtain⟨i,rfl,V,W,Z⟩:=P8 h f;exact sJ (qV h j (T9 h.nd' V W Z) R)
   |If t a b pos =>
    obtain⟨ct,G,m⟩:=qA2.mp q;obtain⟨ca,j,o⟩:=qA2.mp m;obtain⟨B,f,z⟩:=qA5.mp o;subst z;exact sR (ht _ _ G) (l X d h _ _ j) (l X d h _ _ f)
   |For p I u A pos =>
    cases A with
    |cons _ _=>cases q
    |nil =>
     change (match P6 ar cl (cE ar cl n d) d I with
      |some c=>(cG ar cl n d p).bind λg=>(cSts ar cl n d u).map λB=>Up c g B
      | none=>(SA d ar (cE ar cl n d) p I).bind λP=>(cG ar cl n d p).bind λg=>(cSts ar cl n d u).map λB=>Zk P g B)=_ at q
     cases E:P6 ar cl (cE ar cl n d) d I with
     |some cx =>
      rw[E]at q;obtain⟨g,j,o⟩:=qA2.mp q;obtain⟨B,f,z⟩:=qA5.mp o;subst z;obtain⟨M,L⟩:=Kc h w E;exact qK (Kb h) h.calm M (F _ _ j) (l X d h _ _ f) L
     |none =>
     rw[E]at q;obtain⟨P,G,m⟩:=qA2.mp q;obtain⟨g,j,o⟩:=qA2.mp m;obtain⟨B,f,z⟩:=qA5.mp o;subst z;obtain⟨M,L⟩:=Kq h w G;exact sH (Kb h) h.calm M (F _ _ j) (l X d h _ _ f) (Ku L)
   |While t u A pos =>
    cases A with
    |cons _ _=>cases q
    |nil =>
     obtain⟨ct,G,m⟩:=qA2.mp q;obtain⟨B,f,z⟩:=qA5.mp m;subst z;exact sI Vw (Kb h) (ht _ _ G) (l X d h _ _ f)
   |Pass pos=>cases q;exact tj
   |Break pos=>cases q;exact ti
   |Continue pos=>cases q;exact sZ
   |Raise a b pos =>
    change (match NA d a b with|some x=>Z9 (Rx x)| none=>Z9 SF)=Z9 c at q;split at q
    .rename_i x E;cases q;exact qQ h E
    .cases q;exact sY
   |_=>cases q
  .cases ss with
   |nil=>cases q;exact sU
   |cons s r =>
    obtain⟨y,j,m⟩:=qA2.mp q;obtain⟨H,f,o⟩:=qA5.mp m;subst o;exact sT (ih X d h _ _ j) (l X d h _ _ f)
noncomputable def XB(n:Nat)(ds:List D):ZT:=ds.map Z9++qE7 (n - ds.length) Z8
noncomputable def ZC(e f:Nat)(b:CS):List D->M D:=λds S=>if ds.length=e then(match b (XB f ds) S with
 |.nx _ a=>.ok .non a
 |.rt d a=>.ok d a
 |.er c a=>.er c a
 | _=>.bad)else .bad
theorem RVs.begins{K:yQ}{H:Hp}{J:yC}{N:yH}{ds:List D}{b:List V}(r:RVs K H J ds b):RE K H J (XB N.length ds) (start N b):=by
 unfold XB start;refine⟨by simp[r.len],λi d e=>?_⟩;by_cases a:i<ds.length
 .rw[qA8 (by simpa using a),qB2]at e;rw[qA8 (by rw[qA3,<- r.len];exact a),qB2];cases q:ds[i]? with
  |none=>rw[q]at e;cases e
  |some g =>
   rw[q]at e;cases e;obtain⟨v,c,f⟩:=r.get q;exact⟨v,by rw[c];rfl,f⟩
 .rw[qA0 (by simpa using a),qH3]at e;split at e<;>cases e
noncomputable def Xp(N ps:yH)(scope:jR):Bool :=
 decide (scope.kind=.function)&&!scope.isCoroutine&&!scope.isGenerator&&decide N.Nodup&&decide (N.take ps.length=ps)&&ps.all (λx=>scope.names.lookup x == Z9 .local||scope.names.lookup x == Z9 .cell)&&scope.names.all (λy=>y.2 != .free)
theorem EV{N ps:yH}{scope:jR}(h:Xp N ps scope=Z7):Ti N ps scope:=by
 unfold Xp at h;simp only[qC5,decide_eq_true_eq,qH5]at h;obtain⟨⟨⟨⟨⟨⟨c,d⟩,i⟩,e⟩,a⟩,f⟩,g⟩:=h;refine⟨c,d,i,e,a,λx b=>?_,λy j=>?_⟩
 .have:=qD2.mp f x b;simpa using this
 .have:=qD2.mp g y j;simpa using this
inductive U9(K:yQ)(mg:Str->yF)(base:jE)(fd:jW)(x:Str):Prop
 |mk (c T:yR) (tab:fI K x=Z9 (c,T)) (code:fd.code=.ref c) (hd:fM base c T) (blt:base.BuiltinsAt mg T) (ne:y9≠T)
def Vv(P:y4)(w:jD)(K:yQ)(a:Str->yF)(base:jE):Prop:=(∀t∈NS,KH P w K a base t 4 V5)/\Us K=Z7/\(∀c∈XO,∃C,a c=Z9 (.ref C)/\Xq K c=Z9 C)/\a "ValueError"=Z8
theorem WZ.okX{l:U1}{P:y4}{w:jD}{K:yQ}{j:Str->yF}{base:jE}{x c:Str}{st:vK}{f:yR}{h:jW}{N ps:yH}{k:Nat}{sp:Sp}(F:WZ K x c st f h)(S:Ti N ps (Zi st))(len:∀e H Q E,sp e H Q E->e.length=ps.length)
  (d:∀(b:yU) (A:jC) (a:List Env) (s:yS) (H:Hp) (e:List V) (Q:VK) (E:XK),h.code=b->Zj k (A.deeper (lT c (Zi st) s.heap.objs.size f b))->sp e H Q E ->
   ∃t,XE (YQ l P w K j base N c (Zi st) f b A a s H E) (Xk st) t/\t { nx:=λ_ o=>Q .non o,rt:=Q } (start N e) H):XZ P w K j base l (k+1) f h ps sp:=by obtain⟨v,u,kV,q,y,r,b,z,n,rfl,p,g⟩:=F.ex;exact AV p g S len λA a s H e Q E m i=>d b A a s H e Q E rfl m i
theorem P5{P:y4}{w:jD}{K:yQ}{d:Str->yF}{base:jE}{x:Str}{st:vK}{l:yR}{u:jW}{N ps:yH}{e:Nat}{b:CS}(F:WZ K x x st l u)
  (hs:Xp N ps (Zi st)=Z7) (V:cSts ar cl e ⟨N,(Zi st).names,Z9 x⟩ (Xk st)=Z9 b)
  (hB:Vy ar d) (p:∀x∈V6,∃C,d x=Z9 (.ref C)/\W9 K C)
  (Z:x=Zw->U9 K d base u x) (hT:∀t I,SE.lookup t=Z9 I->Rr K d t I)
  (m:Vv P w K d base)
  (ih:∀y n,ar y=Z9 n->(∃ps,Ru P w K d base y ps (3*k) (Uu K d (cl y) n))/\∀ds S,cl y ds S≠.bad->ds.length=n):XZ P w K d base (W3 P w) (3*k+2+1) l u ps (Uu K d (ZC ps.length N.length b) ps.length):=by
 have S:=EV hs;refine F.okX (k:=3*k+2) S (λvs H Q E h=>h.1) (λj A a s H vs Q E r G h=>?_);obtain⟨hl,J,ds,L,X,D,y⟩:=h;have o:Wg (YQ (W3 P w) P w K d base N x (Zi st) l j A a s H E) E:=⟨rfl,rfl,rfl,rfl⟩
 have p:Y9 (YQ (W3 P w) P w K d base N x (Zi st) l j A a s H E) ⟨N,(Zi st).names,Z9 x⟩ ar cl k:={
  calm:=rfl
  N:=rfl
  nd:=S.nd
  gl:=λx g=>g
  loc:=λx g=>g
  cel:=λx g=>g
  fre:=λx g=>.inr g
  fnn:=λ_ x=>rfl
  room:=G.mono (by omega)
  roomT:=λ_=>G
  lam:=λz=>by have M:x=Zw:=Option.some.inj z;obtain⟨c,T,Y,t2,W,t4,t5⟩:=Z M;rw[<- M];exact⟨c,T,Y,r.symm.trans t2,rfl,W,t4,t5⟩
  tk:=λ_=>hT
  rf:=λ_=>m.1
  xk:=m.2.1
  xm:=m.2.2.1
  xv:=m.2.2.2
  own:=PassesOwn.leaving
  exc:=p
  blt:=hB
  fns:=ih }
 refine⟨_,(Sw e).2 _ _ p _ _ V,J,XB N.length ds,L,X,D.begins,?_⟩;unfold ZC at y;rw[if_pos (D.len.trans hl)]at y;revert y;cases b (XB N.length ds) L with
 |nx B O=>exact λy Z' v q i f U=>y _ v q i f Uw
 |rt d' O=>exact λy=>y
 |er c O=>exact λy v q i f C R=>KP o (y v q i f C R)
 |bad=>exact λy=>y
 |bk _ _=>exact λy=>False.elim y
 |ct _ _=>exact λy=>False.elim y
theorem qH{P:y4}{w:jD}{K:yQ}{a:Str->yF}{base:jE}{x:Str}{st:vK}{e:yR}{d:jW}{N ps:yH}{c:Nat}{b:CS}(F:WZ K x x st e d)(m:a x=Z9 (.ref e))(i:VZ K d ps [])
  (l:Xp N ps (Zi st)=Z7) (g:cSts ar cl c ⟨N,(Zi st).names,Z9 x⟩ (Xk st)=Z9 b)
  (q:Vy ar a) (h:∀x∈V6,∃C,a x=Z9 (.ref C)/\W9 K C)
  (j:x=Zw->U9 K a base d x) (o:∀t f,SE.lookup t=Z9 f->Rr K a t f)
  (p:Vv P w K a base)
  (r:∀y n,ar y=Z9 n->(∃ps,Ru P w K a base y ps (3*k) (Uu K a (cl y) n))/\∀ds S,cl y ds S≠.bad->ds.length=n):Ru P w K a base x ps (3*(k+1)) (Uu K a (ZC ps.length N.length b) ps.length) :=
 ⟨e,d,P5 F l g q h j o p r,i,F.kp,m⟩
end
abbrev ZQ:=Str->List D->M D
abbrev TH:=List (Str×(Nat×Nat×(ZQ->CS)))
noncomputable def TC(tbl:TH)(x:Str):yK:=(tbl.lookup x).map (·.1)
noncomputable def Yh(tbl:TH):Nat->ZQ
 |0,_=>λ_ _=>.bad
 |n+1,x=>match tbl.lookup x with
  |some p=>ZC p.1 p.2.1 (p.2.2 (Yh tbl n))
  |none=>λ_ _=>.bad
structure Sv(K:yQ)(mg:Str->yF)(ar:Str->yK)(x:Str)(p:Nat×Nat×(ZQ->CS)):Prop where
 ex:∃(st:vK) (fa:yR) (fd:jW) (N ps:yH) (fuel:Nat),WZ K x x st fa fd/\mg x=Z9 (.ref fa)/\VZ K fd ps []/\Xp N ps (Zi st)=Z7/\ps.length=p.1/\N.length=p.2.1 /\
  ∀cl:ZQ,cSts ar cl fuel ⟨N,(Zi st).names,Z9 x⟩ (Xk st)=Z9 (p.2.2 cl)
theorem qG{α:Type}{tbl:List (Str×α)}{x:Str}{p:α}(h:tbl.lookup x=Z9 p):(x,p)∈tbl:=by
 induction tbl with
 |nil=>cases h
 |cons y r a =>
  obtain⟨b,c⟩:=y;rw[qD6]at h;split at h
  .simp_all
  .exact qD0 _ (a h)
theorem qF{np a:Nat}{b:CS}{ds:List D}{S:ZX}(h:ZC np a b ds S≠.bad):ds.length=np:=by
 unfold ZC at h;split at h
 .assumption
 .exact absurd rfl h
theorem EU{P:y4}{w:jD}{K:yQ}{a:Str->yF}{base:jE}{tbl:TH}(l:∀x p,tbl.lookup x=Z9 p->Sv K a (TC tbl) x p)(G:Vy (TC tbl) a)(o:∀x∈V6,∃C,a x=Z9 (.ref C)/\W9 K C)
  (u:∀x st b c,WZ K x x st b c->a x=Z9 (.ref b)->x=Zw->U9 K a base c x) (B:∀t v,SE.lookup t=Z9 v->Rr K a t v)
  (D:Vv P w K a base)
  :
  ∀(k:Nat) (x:Str) (n:Nat),TC tbl x=Z9 n->(∃ps,Ru P w K a base x ps (3*k) (Uu K a (Yh tbl k x) n))/\∀ds S,Yh tbl k x ds S≠.bad->ds.length=n
 |0,x,n,h=>by
  obtain⟨p,f,rfl⟩:=qA5.mp h;obtain⟨st,b,c,N,ps,d,F,m,j,_⟩:=(l x p f).ex;have z:∀g H Q E,¬Uu K a (Yh tbl 0 x) p.1 g H Q E:=λg H Q E h=>by obtain⟨_,J,ds,S,_,_,y⟩:=h;exact y
  exact⟨⟨ps,b,c,⟨λg H Q E h=>(z _ _ _ _ h).elim,λA i s H r U g Q E _ _ _ _ h=>(z _ _ _ _ h).elim⟩,j,F.kp,m⟩,λds S e=>absurd rfl e⟩
 |k+1,x,n,h=>by
  obtain⟨p,f,rfl⟩:=qA5.mp h;obtain⟨st,b,c,N,ps,d,F,m,j,M,O,L,I⟩:=(l x p f).ex;have T:=EU (P:=P) (w:=w) (base:=base) l G o u B D k;have q:=qH (P:=P) (w:=w) (base:=base) (k:=k) F m j M (I (Yh tbl k)) G o (u x st b c F m) B D T;have R:Yh tbl (k+1) x=ZC p.1 p.2.1 (p.2.2 (Yh tbl k)):=by show(match tbl.lookup x with|some p=>ZC p.1 p.2.1 (p.2.2 (Yh tbl k))| none=>λ_ _=>.bad)=_;rw[f]
  rw[O,L]at q;rw[R];exact⟨⟨ps,q⟩,λds S e=>qF e⟩
noncomputable def Ny(K:yQ):Sp:=λd H Q _=>∃(a:yR) (b:yA) (T c:yR),d=[.ref a]/\TY K H a (b.map V.int)/\b.length<=63/\H T=Z9 (.tbl #[])/\fI K Zw=Z9 (c,T)/\∀e,Q (.bl Z7) e
theorem qE{P:y4}{w:jD}{K:yQ}{d:Str->yF}{base:jE}{tbl:TH}{f:yR}{i:jW}{st:vK}{L m j:Nat}{N:yH}{b:ZQ->CS}(hd:∀x p,tbl.lookup x=Z9 p->Sv K d (TC tbl) x p)(R:Vy (TC tbl) d)(B:∀x∈V6,∃C,d x=Z9 (.ref C)/\W9 K C)
  (G:∀x st f i,WZ K x x st f i->d x=Z9 (.ref f)->x=Zw->U9 K d base i x) (J:∀t I,SE.lookup t=Z9 I->Rr K d t I) (hm:d "law"=Z9 (.ref f))
  (O:Vv P w K d base)
  (hl:tbl.lookup ("law":Str)=Z9 (1,m,b)) (F:WZ K "law" "law" st f i) (Y:Xp N ["_law_script"] (Zi st)=Z7) (W:N.length=m) (V:∀cl:ZQ,cSts (TC tbl) cl j ⟨N,(Zi st).names,Z9 "law"⟩ (Xk st)=Z9 (b cl))
  (l:∀g:yA,g.length<=63->∃A,Yh tbl (L+1) "law" [.rol (g.map D.int)] [.tb Zw]=.ok (.bl Z7) A) :
  XZ P w K d base (W3 P w) (3*(L+1)) f i ["_law_script"] (Ny K):=by
 have q:=P5 (P:=P) (w:=w) (base:=base) (k:=L) F Y (V (Yh tbl L)) R B (G "law" st f i F hm) J O (EU (P:=P) (w:=w) (base:=base) hd R B G J O L);refine q.imp λvs H Q E h=>?_;obtain⟨a,g,T,c,rfl,U,Z,s,y,X⟩:=h;obtain⟨A,e⟩:=l g Z;have e3:Yh tbl (L+1) "law"=ZC 1 m (b (Yh tbl L)):=by show(match tbl.lookup ("law":Str)with|some p=>ZC p.1 p.2.1 (p.2.2 (Yh tbl L))| none=>λ_ _=>.bad)=_;rw[hl]
 rw[e3]at e;refine⟨rfl,[T],[.rol (g.map D.int)],[.tb Zw],⟨rfl,by simp,λn a o u M=>?_⟩,.cons (by unfold RV;exact⟨a,_,rfl,U,RVs.ints⟩) .nil,?_⟩
 .cases n with
  |succ n=>simp at u
  |zero =>
   simp at u M;subst u M;exact⟨#[],s,⟨c,y⟩,trivial,λS cv z=>by cases z⟩
 rw[W,show ZC (["_law_script"]:yH).length m (b (Yh tbl L)) [.rol (g.map D.int)] [.tb Zw]=.ok (.bl Z7) A from e];refine λv H' J' _ _ r=>?_;unfold RV at r;subst r;exact X H'
theorem qD{K:yQ}{b:Str->yF}{base:jE}{c T:yR}(g:K.In base)(h:base.Ns y9 b)(a:fI K Zw=Z9 (c,T))(l:fM base c T)(blt:base.BuiltinsAt b T)(ne:y9≠T):
  ∀x st d f,WZ K x x st d f->b x=Z9 (.ref d)->x=Zw->U9 K b base f x:=λx st d f F m e=>by subst e;obtain⟨q,p,kV,n,r,o,i,s,j,e,k,_⟩:=F.ex;exact⟨c,T,a,W.law_code g h a m (g _ _ k) rfl,l,blt,ne⟩
noncomputable def hH(K:yQ)(T a:yR)(o:Obj)(xs:List V):Hp:=λb=>if b=T then Z9 (.tbl #[])else if b=a then(if K.lookup a=Z8 then Z9 (.frz o (.lst xs))else Z8)else Z8
theorem qC{P:y4}{w:jD}{K:yQ}{y mb:Str->yF}{k:Nat}{fa a c T:yR}{fd:jW}{x:Str}{sp:Sp}{s₁:yS}{D:yB}{J:yA}
  (KX:K.In s₁.heap) (U:s₁.heap.Ns y9 y) (hb:s₁.heap.Ns mR mb) (hbb:∀x:Str,x ≠ "__name__"->mb x=jH x) (O:s₁.heap.NoLimit) (hg:s₁.gens=#[])
  (t:s₁.heap.get? a=Z9 { cls:=.type "list",data:=.seq D.toArray }) (hi:vR D J) (hl:J.length<=jA) (hr:Zj k mG)
  (C:fM s₁.heap c T) (Z:s₁.heap.get? T=Z9 (W.tabObj #[])) (BB:s₁.heap.BuiltinsAt y T) (nK:K.lookup T=Z8)
  (F:∀base:jE,K.In base->base.Ns y9 y->fM base c T->base.BuiltinsAt y T->XZ P w K y base (W3 P w) k fa fd [x] sp) (L:∀(s:yS) (u:yU),mX s fd ⟨[u],[]⟩ [(x,u)])
  (hsp:∀H:Hp,TY K H a (J.map V.int)->H T=Z9 (.tbl #[])->sp [.ref a] H (λv _=>v=.bl Z7) λ_ _ _=>False) :
  wB (yW P w) mG (.call (.ref fa) ⟨[.ref a],[]⟩) (λr s'=>r=.ok (.ret (.bool Z7))/\OldK s₁.heap s'.heap/\s'.os=s₁.os/\fR s'.gens) s₁:=by
 have rv:=Hj hi;have lenV:=hi.length;have aT:a≠T:=λz=>by rw[z,Z]at t;cases t
 obtain⟨H,I⟩:∃H,hH K T a { cls:=.type "list",data:=.seq D.toArray } (J.map V.int)=H:=⟨_,rfl⟩
 have G:H T=Z9 (.tbl #[]):=by rw[<- I];unfold hH;rw[if_pos rfl]
 have l:H a=if K.lookup a=Z8 then Z9 (.frz { cls:=.type "list",data:=.seq D.toArray } (.lst (J.map V.int)))else Z8:=by rw[<- I];unfold hH;rw[if_neg aT,if_pos rfl]
 have g:∀b,b≠T->b≠a->H b=Z8:=λb j A=>by rw[<- I];unfold hH;rw[if_neg j,if_neg A]
 have sq:TY K H a (J.map V.int):=by
  cases hk:K.lookup a with
  |none=>exact .inl ⟨_,by rw[l,if_pos hk]⟩
  |some o =>
   have e:=KX a o hk;rw[t]at e;cases e;exact .inr ⟨_,D.toArray,_,hk,rfl,rfl,rfl,by rw[qB5,lenV];exact hl,by simpa using rv⟩
 have hok:Yt P w H s₁.heap:=λb u e=>by
  by_cases j:b=T
  .subst j;rw[G]at e;cases e;exact Z
  .by_cases A:b=a
   .subst A;rw[l]at e;split at e
    .cases e;exact⟨t,by rw[qA3];exact hl,D,_,rv,t⟩
    .cases e
   .rw[g b j A]at e;cases e
 have f:∀{b:yR}{o:Obj},s₁.heap.get? b=Z9 o->H b=Z8->(Xc s₁.heap H).get? b=Z9 o:=λe n=>Cs e n;have R:∀{b:yR}{o:Obj},s₁.heap.get? b=Z9 o->b≠T->o.cls≠.type "list"->H b=Z8:=λ{b o} e j A=>g b j λz=>by rw[z,t]at e;cases e;exact A rfl
 have i:∀{b:yR}{m:Str->yF},s₁.heap.Ns b m->(Xc s₁.heap H).Ns b m:=λ{b m} ⟨o,es,ep,e,d,r⟩=>⟨o,es,ep,f e (g b (λz=>by rw[z,Z]at e;cases e;cases d) λz=>by rw[z,t]at e;cases e;cases d),d,r⟩
 have S:=λb o e=>f (KX b o e) (by
  by_cases j:b=T
  .rw[j,nK]at e;cases e
  .by_cases A:b=a
   .simp_all
   .exact g b j A)
 have hM:Mod K y (Xc s₁.heap H):=⟨S,i U,⟨mb,i hb,hbb⟩,let ⟨mc,h1,h2⟩:=O;⟨mc,i h1,h2⟩⟩
 have e0:WG P w K y (Xc s₁.heap H) mG [] s₁ H:=⟨rfl,hM,λb o e=>Cr e,Nat.le_of_eq (Cu _ _),trivial,λb hb=>absurd (show b∈([])from hb) (by simp),hok,.of_eq hg⟩
 have C':fM (Xc s₁.heap H) c T:=by obtain⟨o,vs',X,tf,E,tg,inF,M,tt,e1,e2,e3,e4,f3,f4,f5,f6,f7,N⟩:=C;exact⟨o,vs',X,tf,E,tg,inF,M,tt,f e1 (R e1 N (by rw[e2];exact λz=>absurd (Value.type.inj z) (by decide))),e2,e3,e4,f3,f4,f5,f6,f7,N⟩
 have BB':(Xc s₁.heap H).BuiltinsAt y T:=by obtain⟨bm,o,b1,b2,b3,b4,b5,b6,b7,b8⟩:=BB;exact⟨bm,o,b1,b2,b3,b4,f b5 (R b5 b4 (by rw[b6];exact λz=>absurd (Value.type.inj z) (by decide))),b6,b7,b8⟩
 refine vW ((F _ S (i U) C' BB').run mG [] s₁ H ⟨[.ref a],[]⟩ [.ref a] [.ref a] _ _ hr e0 (L s₁ (.ref a)) (.cons rfl .nil) (hsp H sq G)) λr s' h=>?_;cases r with
 |error e =>
  obtain⟨_,_,_,_,_,_,_,_,_,_,_,_,_,_,z⟩:=h;exact z.elim
 |ok fl =>
  cases fl with
  |next=>exact False.elim h
  |brk=>exact False.elim h
  |cont=>exact False.elim h
  |ret u =>
   obtain⟨v,H',os,Q,un,p,r',q⟩:=h;have q':=q;subst q';obtain rfl:u=Value.bool Z7:=r';have fin:=λb o B e=>by
    cases q:H b with
    |none=>exact un.keep b o e q (by intro z;exact absurd (show b∈([])from z) (by simp)) (by simp)
    |some u =>
     have nba:=Classical.byContradiction λz=>by rw[g b B z]at q;cases q
     subst nba;rw[l]at q;split at q
     .rename_i hk;have z:H b=Z9 (.frz { cls:=.type "list",data:=.seq D.toArray } (.lst (J.map V.int))):=by rw[l,if_pos hk]
      obtain⟨e2,_⟩:=p b _ (un.frzs b _ _ z);rw[t]at e;cases e;exact e2
     .cases q
   obtain⟨more,hm⟩:=un.tbls T _ G;have Y:=p T _ hm;refine⟨rfl,⟨λb o e=>?_,λb o e=>?_⟩,os,Q⟩
   .by_cases B:b=T
    .subst B;rw[Z]at e;cases e;exact .inr (.inl ⟨(C.tab Z).isCodeTable,rfl,#[],more,rfl,Y⟩)
    .exact .inl (fin b o B e)
   .by_cases B:b=T
    .subst B;exact⟨_,Y⟩
    .exact⟨o,fin b o B e⟩
theorem qB{l:W.OpenLaw}{q:y4}{i:yH}{XP:(Str->yF)->jE->Prop}{O:jD->jE->Prop}{d dl:DefRec}{K:Params->yQ}{L:Nat}(hn:l.most=Z9 63)(A:d.params.defaults=[])(hr:Zj L mG)
  (hY:∀(w:jD) (h:jE),O w h->(K w.params).In h) (m:(mJ q).find? (λe=>e.name == Zw)=Z9 dl) (z:∀w:jD,∃c T,fI (K w.params) Zw=Z9 (c,T)/\(K w.params).lookup T=Z8)
  (F:∀(w:jD) (j:Str->yF) (r c T:yR) (h:jE),(K w.params).In h->h.Ns y9 j->j d.name=Z9 (.ref r)->fI (K w.params) Zw=Z9 (c,T) ->
   ∃N:jW,(∀(s:yS) (u:yU),mX s N ⟨[u],[]⟩ [("_law_script",u)])/\∀base:jE,(K w.params).In base->base.Ns y9 j->fM base c T->base.BuiltinsAt j T->y9≠T->XZ l.prog w (K w.params) j base (W3 l.prog w) L r N ["_law_script"] (Ny (K w.params))) :
  W.WalkO q i XP O l.row.toRowW d [] (λf P=>PySem.call f P):=by
 refine Att.attach_call hn A λw Q S j mb r o pm cd V a P ns G Y ho t hcd I n g b hg=>?_;have y:=hY w _ Y;obtain⟨c,T,k,nK⟩:=z w;obtain⟨C,D⟩:=W.tab_of G.T y m k;obtain⟨x,ob,b1,b2,p,R,b5,v⟩:=G.T.bmain;have J:y9≠T:=λq=>by obtain⟨o,es,ep,e,t,_⟩:=G.T.g;rw[q,D]at e;cases e;cases t
 have B:x≠T:=λq=>by rw[q,D]at p;cases p;cases R
 have E:x≠mainGlobals:=λq=>by obtain⟨o,es,ep,e,t,_⟩:=G.T.g;rw[q,e]at p;cases p;rw[t]at v;cases v
 obtain⟨N,hb,hF⟩:=F w j r c T _ y G.T.g I k;exact qC y G.T.g G.T.b G.T.builtins G.T.nolimit hg n g (qC6 b (by decide)) hr C D ⟨x,ob,b1,b2,E,B,p,R,b5,v⟩ nK (λbase kb U X M=>hF base kb U X M J) hb λH Z h1=>⟨a,ns,T,c,rfl,Z,b,h1,k,λ_=>rfl⟩
open PySem
def Rf(K:yQ)(a:Str->yF)(ar:Str->yK):TH->Prop
 |[]=>True
 |e::r=>Sv K a ar e.1 e.2/\Rf K a ar r
theorem Rf.mem{K:yQ}{c:Str->yF}{ar:Str->yK}:∀{t:TH},Rf K c ar t->∀x p,(x,p)∈t->Sv K c ar x p
 |[],_,x,p,h=>by cases h
 |e::r,⟨a,b⟩,x,p,h=>by
  rcases qA9.mp h with q|q
  .subst q;exact a
  .exact b.mem x p q
theorem Rf.look{K:yQ}{a:Str->yF}{ar:Str->yK}{t:TH}(h:Rf K a ar t)(x:Str)(p:Nat×Nat×(ZQ->CS))(e:t.lookup x=Z9 p):Sv K a ar x p:=h.mem x p (qG e)
theorem qA{K:yQ}{e:Str->yF}{ar:Str->yK}{x:Str}{st:vK}{c:yR}{d:jW}{N ps:yH}{a np nN:Nat}{b:ZQ->CS}(F:WZ K x x st c d)(m:e x=Z9 (.ref c))(g:VZ K d ps [])(h:Xp N ps (Zi st)=Z7)
  (f:(λcl:ZQ=>cSts ar cl a ⟨N,(Zi st).names,Z9 x⟩ (Xk st))=λcl=>Z9 (b cl)) (i:ps.length=np:=by rfl) (j:N.length=nN:=by rfl):Sv K e ar x (np,nN,b) :=
 ⟨st,c,d,N,ps,a,F,m,g,h,i,j,λcl=>congrFun f cl⟩
def Nx(a:Str->yF):yH->Prop
 |[]=>True
 |x::r=>a x=Z8/\Nx a r
theorem Nx.mem{c:Str->yF}:∀{l:yH},Nx c l->∀x∈l,c x=Z8
 |[],_,x,h=>by cases h
 |e::r,⟨a,b⟩,x,h=>by
  rcases qA9.mp h with q|q
  .subst q;exact a
  .exact b.mem x q
inductive Tg{γ:Type}(f:γ):Type where
 |mk
noncomputable def Zx{α β:Type}(r:R α)(f:α->ZX->R β)(_:Tg f):R β:=match r with
 |.bad=>.bad
 |.er c S=>.er c S
 |.ok a S=>f a S
@[simp]theorem X2{α b:Type}(a:α)(S:ZX)(f:α->ZX->R b):Zx (.ok a S) f .mk=f a S:=rfl
@[simp]theorem gf{α a:Type}(f:α->ZX->R a):Zx .bad f .mk=.bad:=rfl
@[simp]theorem Xo{α a:Type}(m:M α)(f:α->M a)(S:ZX):YT m f S=Zx (m S) f .mk:=rfl
@[simp]theorem ET{α:Type}(a:α)(S:ZX):ret a S=.ok a S:=rfl
@[simp]theorem gc{α:Type}(S:ZX):(bad:M α) S=.bad:=rfl
noncomputable def rs{α:Type}(r:R α)(f:α->ZX->RS)(_:Tg f):RS:=match r with
 |.bad=>.bad
 |.er _ _=>.bad
 |.ok a S=>f a S
@[simp]theorem ES{α:Type}(a:α)(S:ZX)(f:α->ZX->RS):rs (.ok a S) f .mk=f a S:=rfl
@[simp]theorem gb{α:Type}(f:α->ZX->RS):rs .bad f .mk=.bad:=rfl
noncomputable def sb(r:RS)(f:CS)(_:Tg f):RS:=match r with
 |.nx B S=>f B S
 |r=>r
@[simp]theorem ER(B:ZT)(S:ZX)(f:CS):sb (.nx B S) f .mk=f B S:=rfl
@[simp]theorem fC(d:D)(S:ZX)(f:CS):sb (.rt d S) f .mk=.rt d S:=rfl
@[simp]theorem fz(B:ZT)(S:ZX)(f:CS):sb (.bk B S) f .mk=.bk B S:=rfl
@[simp]theorem fy(B:ZT)(S:ZX)(f:CS):sb (.ct B S) f .mk=.ct B S:=rfl
@[simp]theorem P4(a b:CS)(B:ZT)(S:ZX):ZV a b B S=sb (a B S) b .mk:=rfl
@[simp]theorem fx(c:Str)(S:ZX)(f:CS):sb (.er c S) f .mk=.er c S:=rfl
noncomputable def TB{α:Type}(r:R α)(f:α->ZX->RS)(_:Tg f):RS:=match r with
 |.bad=>.bad
 |.er k S=>.er k S
 |.ok a S=>f a S
@[simp]theorem fv{α:Type}(a:α)(S:ZX)(f:α->ZX->RS):TB (.ok a S) f .mk=f a S:=rfl
@[simp]theorem ft{α:Type}(k:Str)(S:ZX)(f:α->ZX->RS):TB (.er k S) f .mk=.er k S:=rfl
noncomputable def P3{α β:Type}(r:R α)(f:α->ZX->R β)(_:Tg f):R β:=match r with
 |.ok a S=>f a S
 |_=>.bad
@[simp]theorem fq{α b:Type}(a:α)(S:ZX)(f:α->ZX->R b):P3 (.ok a S) f .mk=f a S:=rfl
@[simp]theorem fj(b:List D->M D)(a:CA)(B:ZT)(S:ZX):Xz b a B S=P3 (a B S) b .mk:=by unfold Xz P3;cases a B S<;>rfl
@[simp]theorem fi(t:CT)(a b:C)(B:ZT)(S:ZX):Va t a b B S=P3 (t B S) (λk c=>if k then a B c else b B c) .mk:=by unfold Va P3;cases t B S<;>rfl
@[simp]theorem fh(c:C)(B:ZT)(S:ZX):Rw c B S=TB (c B S) (λd a=>.rt d a) .mk:=by unfold Rw TB;cases c B S<;>rfl
@[simp]theorem fg(c:C)(B:ZT)(S:ZX):Rv c B S=TB (c B S) (λ_ a=>.nx B a) .mk:=by unfold Rv TB;cases c B S<;>rfl
@[simp]theorem ff(c:C)(g:G)(B:ZT)(S:ZX):Rg c g B S=TB (c B S) (λd a=>rs (g d B a) (fun b e=>.nx b e) .mk) .mk:=by
 unfold Rg TB rs;cases c B S with
 |ok d a=>dsimp only;cases g d B a<;>rfl
 |_=>rfl
@[simp]theorem fc(c:Str)(B:ZT)(S:ZX):Rx c B S=.er c S:=rfl
@[simp]theorem fb(B:ZT)(S:ZX):ZH B S=.nx B S:=rfl
@[simp]theorem e8(B:ZT)(S:ZX):SH B S=.bk B S:=rfl
@[simp]theorem eZ(B:ZT)(S:ZX):SG B S=.ct B S:=rfl
@[simp]theorem eY(B:ZT)(S:ZX):KO B S=.rt .non S:=rfl
@[simp]theorem qz(c:C)(B:ZT)(S:ZX):ZF c B S=rs (c B S) (λd a=>.rt d a) .mk:=by unfold ZF rs;cases c B S<;>rfl
@[simp]theorem eX(c:C)(B:ZT)(S:ZX):WK c B S=rs (c B S) (λ_ a=>.nx B a) .mk:=by unfold WK rs;cases c B S<;>rfl
@[simp]theorem qy(c:C)(g:G)(B:ZT)(S:ZX):ZI c g B S=rs (c B S) (λd a=>rs (g d B a) (fun b e=>.nx b e) .mk) .mk:=by
 unfold ZI rs;cases c B S with
 |ok d a=>dsimp only;cases g d B a<;>rfl
 |_=>rfl
@[simp]theorem eV(t:CT)(a b:CS)(B:ZT)(S:ZX):X9 t a b B S=rs (t B S) (λk c=>if k then a B c else b B c) .mk:=by unfold X9 rs;cases t B S<;>rfl
@[simp]theorem Nw(c:CI)(g:G)(b:CS)(B:ZT)(S:ZX):Zk c g b B S=rs (c B S) (λp d=>Y4 p.2 g b p.1 B d) .mk:=by
 unfold Zk rs;cases c B S with
 |ok p d=>obtain⟨a,b⟩:=p;rfl
 |_=>rfl
@[simp]theorem qx(i:Nat)(d:D)(B:ZT)(S:ZX):gN i d B S=.ok (B.set i (Z9 d)) S:=rfl
noncomputable def mo{α:Type}(o:Option α)(a:α->ZX)(B:ZT):R ZT:=match o with
 |some x=>.ok B (a x)
 |none=>.bad
@[simp]theorem eU(b e:C)(d:D)(B:ZT)(S:ZX):gS b e d B S=Zx (b B S) (λo c=>Zx (e B c) (λi a=>mo (Ya o i d a) (λx=>x) B) .mk) .mk:=by
 unfold gS;rw[Xo];cases b B S with
 |bad=>rfl
 |er _ _=>rfl
 |ok o c =>
  rw[X2,X2,Xo];cases e B c with
  |bad=>rfl
  |er _ _=>rfl
  |ok i a =>
   rw[X2,X2];cases h:Ya o i d a<;>rfl
@[simp]theorem eT{α:Type}(x:α)(f:α->ZX)(B:ZT):mo (Z9 x) f B=.ok B (f x):=rfl
@[simp]theorem eS(a:List G)(xs:List D)(B:ZT)(S:ZX):gT a (.tup xs) B S=TU a xs B S:=rfl
@[simp]theorem eQ(B:ZT)(S:ZX):TU [] [] B S=.ok B S:=rfl
@[simp]theorem eP(g:G)(a:List G)(x:D)(xs:List D)(B:ZT)(S:ZX):TU (g::a) (x::xs) B S=Zx (g x B S) (fun b c=>TU a xs b c) .mk:=rfl
@[simp]theorem EO(i:Nat)(B:ZT)(S:ZX):ZY i B S=match B[i]? with|some (Z9 d)=>.ok d S|_=>.bad:=rfl
@[simp]theorem qw(d:D)(B:ZT)(S:ZX):ZW d B S=.ok d S:=rfl
@[simp]theorem qv(o:D->D->M D)(a b:C)(B:ZT)(S:ZX):ZU o a b B S=Zx (a B S) (λx d=>Zx (b B d) (λy c=>o x y c) .mk) .mk:=rfl
@[simp]theorem eO(o:D->M D)(a:C)(B:ZT)(S:ZX):Xj o a B S=Zx (a B S) o .mk:=rfl
@[simp]theorem EN(B:ZT)(S:ZX):ZP [] B S=.ok [] S:=rfl
@[simp]theorem qu(c:C)(a:List C)(B:ZT)(S:ZX):ZP (c::a) B S=Zx (c B S) (λx d=>Zx (ZP a B d) (λxs b=>.ok (x::xs) b) .mk) .mk:=rfl
@[simp]theorem eN(o:List D->M D)(a:CA)(B:ZT)(S:ZX):ZS o a B S=Zx (a B S) o .mk:=rfl
@[simp]theorem eM(a:CA)(B:ZT)(S:ZX):Y2 a B S=Zx (a B S) (λxs b=>.ok (.tup xs) b) .mk:=rfl
@[simp]theorem qt(a:CA)(B:ZT)(S:ZX):YN a B S=Zx (a B S) (λxs b=>.ok (.lst b.length) (b++[.lst xs])) .mk:=rfl
@[simp]theorem eL(t:CT)(a b:C)(B:ZT)(S:ZX):RD t a b B S=Zx (t B S) (λk c=>if k then a B c else b B c) .mk:=by
 unfold RD;rw[Xo];cases t B S with
 |ok k c=>cases k<;>rfl
 |bad=>rfl
 |er _ _=>rfl
@[simp]theorem eK(a:C)(B:ZT)(S:ZX):Y5 a B S=Zx (a B S) (λx b=>dB x b) .mk:=rfl
@[simp]theorem eJ(b:Bool)(S:ZX):dB (.bl b) S=.ok b S:=rfl
@[simp]theorem eI(a b:C)(B:ZT)(S:ZX):RC a b B S=Zx (Y5 a B S) (λk c=>if k then b B c else .ok (.bl Z5) c) .mk:=by
 unfold RC;rw[Xo];cases Y5 a B S with
 |ok k c=>cases k<;>rfl
 |bad=>rfl
 |er _ _=>rfl
@[simp]theorem eH(a b:C)(B:ZT)(S:ZX):Ux a b B S=Zx (Y5 a B S) (λk c=>if k then .ok (.bl Z7) c else b B c) .mk:=by
 unfold Ux;rw[Xo];cases Y5 a B S with
 |ok k c=>cases k<;>rfl
 |bad=>rfl
 |er _ _=>rfl
@[simp]theorem eG(a:C)(B:ZT)(S:ZX):N5 a B S=Zx (Y5 a B S) (λk b=>.ok (.bl (!k)) b) .mk:=rfl
@[simp]theorem eF(a b:CT)(B:ZT)(S:ZX):RB a b B S=Zx (a B S) (λk c=>if k then b B c else .ok Z5 c) .mk:=by
 unfold RB;rw[Xo];cases a B S with
 |ok k c=>cases k<;>rfl
 |bad=>rfl
 |er _ _=>rfl
@[simp]theorem eE(a b:CT)(B:ZT)(S:ZX):Xt a b B S=Zx (a B S) (λk c=>if k then .ok Z7 c else b B c) .mk:=by
 unfold Xt;rw[Xo];cases a B S with
 |ok k c=>cases k<;>rfl
 |bad=>rfl
 |er _ _=>rfl
@[simp]theorem eC(a:CT)(B:ZT)(S:ZX):VX a B S=Zx (a B S) (λk b=>.ok (!k) b) .mk:=rfl
@[simp]theorem eB(o o':D->D->M D)(a b c:C)(B:ZT)(S:ZX):RA o o' a b c B S=Zx (a B S) (λx g=>Zx (b B g) (λy e=>Zx (o x y e) (λz f=>Zx (dB z f) (λk d=>if k then Zx (c B d) (λw h=>o' y w h) .mk else .ok (.bl Z5) d) .mk) .mk) .mk) .mk:=by
 unfold RA;rw[Xo];cases a B S with
 |bad=>rfl
 |er _ _=>rfl
 |ok x g =>
  rw[X2,X2,Xo];cases b B g with
  |bad=>rfl
  |er _ _=>rfl
  |ok y e =>
   rw[X2,X2,Xo];cases o x y e with
   |bad=>rfl
   |er _ _=>rfl
   |ok z f =>
    rw[X2,X2,Xo];cases dB z f with
    |bad=>rfl
    |er _ _=>rfl
    |ok k d=>cases k<;>rfl
@[simp]theorem eA(a:C)(B:ZT)(S:ZX):YZ a B S=Zx (a B S) (λx b=>We x b) .mk:=rfl
@[simp]theorem ez(b:Bool)(S:ZX):We (.bl b) S=.ok b S:=rfl
@[simp]theorem ew(i:Int)(S:ZX):We (.int i) S=.ok (i != 0) S:=rfl
@[simp]theorem et(xs:List D)(S:ZX):We (.tup xs) S=.ok (!xs.isEmpty) S:=rfl
@[simp]theorem eo(B:ZT)(S:ZX):SQ B S=.ok Z8 S:=rfl
@[simp]theorem ek(a:C)(B:ZT)(S:ZX):SN a B S=Zx (a B S) (λx c=>Zx (SO x c) (λi b=>.ok (Z9 i) b) .mk) .mk:=rfl
@[simp]theorem ej(i:Int)(S:ZX):SO (.int i) S=.ok i S:=rfl
@[simp]theorem eh(o:D->yG->yG->M D)(a:C)(lo hi:CO)(B:ZT)(S:ZX):Ql o a lo hi B S=Zx (a B S) (λx d=>Zx (lo B d) (λl c=>Zx (hi B c) (λh b=>o x l h b) .mk) .mk) .mk:=rfl
@[simp]theorem eg(T:String)(o:D->List D->M D)(a:C)(b:CA)(B:ZT)(S:ZX):Wt T o a b B S=Zx (a B S) (λx c=>if Yk T x c then Zx (b B c) (λxs d=>o x xs d) .mk else .bad) .mk:=rfl
@[simp]theorem ef(T:String)(o:D->List D->M D)(a:C)(B:ZT)(S:ZX):NY T o a B S=Zx (a B S) (λx b=>if Yk T x b then o x [] b else .bad) .mk:=rfl
@[simp]theorem qr(c:C)(B:ZT)(S:ZX):Zy c B S=Zx (c B S) (λx a=>match x with
 |.tup xs=>.ok (xs,[]) a
 |.lst n=>match ZL a n with
  |some xs=>.ok (xs,[(n,xs)]) a
  |none=>.bad
 |.dct n=>match a[n]? with
  |some (.dk kvs)=>.ok (kvs.map λp=>kD p.1,[]) (a.set n (.fk kvs))
  |some (.fk kvs)=>.ok (kvs.map λp=>kD p.1,[]) a
  |_=>.bad
 | _=>.bad) .mk:=rfl
@[simp]theorem qq(a:CA)(B:ZT)(S:ZX):WA a B S=Zx (a B S) (λxs b=>match xs with
 |[.int j]=>if -4611686018427387904<=j/\j<4611686018427387904 then .ok (Zc 0 j.toNat,[]) b else .bad
 | _=>.bad) .mk:=rfl
@[simp]theorem ee(a:CA)(B:ZT)(S:ZX):NV a B S=Zx (a B S) (λxs b=>match xs with
 |[.int i,.int j]=>if -4611686018427387904<=i/\i<4611686018427387904/\-4611686018427387904<=j/\j<4611686018427387904 then .ok (Zc i (j - i).toNat,[]) b else .bad
 | _=>.bad) .mk:=rfl
@[simp]theorem d0(a:CA)(B:ZT)(S:ZX):TQ a B S=Zx (a B S) (λxs b=>match xs with
 |[x,y]=>match Wz b x,Wz b y with
  |some ys,Z9 c=>.ok (zipD ys c,TR x ys++TR y c) b
  |_,_=>.bad
 | _=>.bad) .mk:=rfl
@[simp]theorem dZ(n:Nat)(xs:List D):TR (.lst n) xs=[(n,xs)]:=rfl
@[simp]theorem dW(ys:List D)(xs:List D):TR (.tup ys) xs=[]:=rfl
@[simp]theorem dV(S:ZX)(n:Nat):Wz S (.lst n)=ZL S n:=rfl
@[simp]theorem dz(S:ZX)(xs:List D):Wz S (.tup xs)=Z9 xs:=rfl
@[simp]theorem dy(a:CA)(B:ZT)(S:ZX):Qe a B S=Zx (a B S) (λxs b=>match xs with
 |[.tup ys]=>.ok (VU ys,[]) b
 |[.lst n]=>match ZL b n with
  |some ys=>.ok (VU ys,[(n,ys)]) b
  |none=>.bad
 | _=>.bad) .mk:=rfl
@[simp]theorem dw(a:CI)(k:Nat)(js:List Nat)(t:Xh)(tc:CT)(c:C)(B:ZT)(S:ZX):Yv a k js t tc c B S=Zx (a B S) (λp d=>if p.1.length<lim then Zx (Zf p.2 t tc c (W2 k js B) p.1 d) (λys b=>.ok (.lst b.length) (b++[.lst ys])) .mk else .bad) .mk:=rfl
@[simp]theorem dv(B:ZT)(S:ZX):SC B S=.ok (.dct S.length) (S++[.dk []]):=rfl
@[simp]theorem du(a b:C)(B:ZT)(S:ZX):NL a b B S=Zx (a B S) (λx d=>Zx (b B d) (λy c=>match Vp x with
 |some k=>.ok (.dct c.length) (c++[.dk [(k,y)]])
 | none=>.bad) .mk) .mk:=rfl
@[simp]theorem dq(i j:Int)(S:ZX):YY (.int i) (.int j) S=.ok (.int (i+j)) S:=rfl
@[simp]theorem dn(xs ys:List D)(S:ZX):YY (.tup xs) (.tup ys) S=if xs.length+ys.length<=lim then .ok (.tup (xs++ys)) S else .bad:=rfl
@[simp]theorem dm(g:Int->Int->Int)(i j:Int)(S:ZX):Zq g (.int i) (.int j) S=.ok (.int (g i j)) S:=rfl
@[simp]theorem dj(i j:Int)(S:ZX):XC (.int i) (.int j) S=if Wc i j then .ok (.int (i*j)) S else .bad:=rfl
@[simp]theorem dh(i j:Int)(S:ZX):W8 (.int i) (.int j) S=if 0<j then .ok (.int (i % j)) S else .bad:=rfl
@[simp]theorem dg(i j:Int)(S:ZX):WW (.int i) (.int j) S=if 0<j/\j<1073741824 then .ok (.int (i / j)) S else .bad:=rfl
@[simp]theorem df(i j:Int)(S:ZX):VE (.int i) (.int j) S=if 0<=j/\j<=1000000/\i.natAbs<18446744073709551616 then .ok (.int (i ^ j.toNat)) S else .bad:=rfl
@[simp]theorem qp(i j:Int)(S:ZX):Yr (.int i) (.int j) S=if 0<=j/\j<=1000000/\i.natAbs<18446744073709551616 then .ok (.int (i*2 ^ j.toNat)) S else .bad:=rfl
@[simp]theorem de(i j:Int)(S:ZX):VD (.int i) (.int j) S=if 0<=j then .ok (.int (i / 2 ^ j.toNat)) S else .bad:=rfl
@[simp]theorem da(i:Int)(S:ZX):Xs (.int i) S=.ok (.int (-i)) S:=rfl
@[simp]theorem cZ(g:Int->Int->Bool)(i j:Int)(S:ZX):Yq g (.int i) (.int j) S=.ok (.bl (g i j)) S:=rfl
@[simp]theorem cW(i j:Int)(S:ZX):VW (.int i) (.int j) S=.ok (.bl (decide (i<j))) S:=rfl
theorem EM(i j:Int):PyData.eqv (.int i) (.int j)=decide (i=j):=rfl
@[simp]theorem cV(i j:Int)(S:ZX):WD (.int i) (.int j) S=.ok (.bl (decide (i=j))) S:=by show R.ok (D.bl (PyData.eqv (.int i) (.int j))) S=_;rw[EM]
@[simp]theorem cU(i j:Int)(S:ZX):WM (.int i) (.int j) S=.ok (.bl (!decide (i=j))) S:=by show R.ok (D.bl (!PyData.eqv (.int i) (.int j))) S=_;rw[EM]
@[simp]theorem cS(i j:Bool)(S:ZX):WD (.bl i) (.bl j) S=.ok (.bl (i == j)) S:=by show R.ok (D.bl (PyData.eqv (.bool i) (.bool j))) S=_;cases i<;>cases j<;>rfl
@[simp]theorem cR(i j:Bool)(S:ZX):WM (.bl i) (.bl j) S=.ok (.bl (i != j)) S:=rfl
@[simp]theorem cQ(x:D)(S:ZX):Qk x .non S=.ok (.bl x.isNon) S:=by cases x<;>rfl
@[simp]theorem cP(x:D)(S:ZX):Qj x .non S=.ok (.bl (!x.isNon)) S:=by cases x<;>rfl
@[simp]theorem cO(a b:Bool)(S:ZX):Qk (.bl a) (.bl b) S=.ok (.bl (a == b)) S:=rfl
@[simp]theorem cN(a b:Bool)(S:ZX):Qj (.bl a) (.bl b) S=.ok (.bl (a != b)) S:=rfl
@[simp]theorem cM(i j:Int)(S:ZX):Wa [.int i,.int j] S=.ok (.int (if j<i then j else i)) S:=rfl
@[simp]theorem cL(i j:Int)(S:ZX):Vd [.int i,.int j] S=.ok (.int (if j>i then j else i)) S:=rfl
@[simp]theorem cK(i:Int)(S:ZX):VC [.int i] S=.ok (.int i) S:=rfl
@[simp]theorem cJ(b:Bool)(S:ZX):VC [.bl b] S=.ok (.int (if b then 1 else 0)) S:=rfl
@[simp]theorem cI(xs:List D)(S:ZX):W7 [.tup xs] S=.ok (.tup xs) S:=rfl
theorem Su{n:Nat}{xs:List D}{S:ZX}(h:ZL S n=Z9 xs):W7 [.lst n] S=.ok (.tup xs) S:=by show(match ZL S n with|some a=>R.ok (D.tup a) S|none=>.bad)=_;rw[h]
@[simp]theorem qo(xs:List D)(S:ZX):Zr [.tup xs] S=.ok (.int xs.length) S:=rfl
@[simp]theorem qm(xs:List D)(S:ZX):Zr [.rol xs] S=.ok (.int xs.length) S:=rfl
theorem Ka{n:Nat}{xs:List D}{S:ZX}(h:ZL S n=Z9 xs):Zr [.lst n] S=.ok (.int xs.length) S:=by show(match ZL S n with|some a=>R.ok (D.int a.length) S|none=>.bad)=_;rw[h]
@[simp]theorem cH(xs:List D)(S:ZX):TV [.tup xs] S=.ok (.lst S.length) (S++[.lst xs]):=rfl
@[simp]theorem cF(xs:List D)(j:Int)(S:ZX):Zu (.tup xs) (.int j) S=match XW xs j with|some d=>.ok d S|none=>.bad:=rfl
@[simp]theorem cD(xs:List D)(j:Int)(S:ZX):Zu (.rol xs) (.int j) S=match XW xs j with|some d=>.ok d S|none=>.bad:=rfl
theorem VS{n:Nat}{xs:List D}{S:ZX}(h:ZL S n=Z9 xs)(j:Int):Zu (.lst n) (.int j) S=match XW xs j with|some d=>.ok d S|none=>.bad:=by show(match ZL S n,D.int j with|some xs,.int j=>(match XW xs j with|some d=>R.ok d S|none=>.bad)| _,_=>.bad)=_;rw[h]
@[simp]theorem cC(xs:List D)(lo hi:yG)(S:ZX):Vo (.tup xs) lo hi S=.ok (.tup (Yb xs lo hi)) S:=rfl
theorem EL{n:Nat}{xs:List D}{S:ZX}(h:ZL S n=Z9 xs)(lo hi:yG):Vo (.lst n) lo hi S=.ok (.lst S.length) (S++[.lst (Yb xs lo hi)]):=by show(match ZL S n with|some xs=>R.ok (D.lst S.length) (S++[O.lst (Yb xs lo hi)])| none=>.bad)=_;rw[h]
@[simp]theorem qk{α:Type}(x:α)(xs:List α):XW (x::xs) 0=Z9 x:=Vq rfl
@[simp]theorem cB{α:Type}(x y:α)(xs:List α):XW (x::y::xs) 1=Z9 y:=Vq rfl
@[simp]theorem cA{α:Type}(x y z:α)(xs:List α):XW (x::y::z::xs) 2=Z9 z:=Vq rfl
@[simp]theorem cz{α:Type}(x y z w:α)(xs:List α):XW (x::y::z::w::xs) 3=Z9 w:=Vq rfl
structure Kp(P:Nat->Prop)(S S':ZX):Prop where
 le:S.length<=S'.length
 eq:∀j,j<S.length->¬P j->S'[j]?=S[j]?
noncomputable abbrev Ex:ZX->ZX->Prop:=Kp λ_=>False
inductive VR{α:Type}(m:R α)(r:α)(S:ZX):Prop
 |mk (S1:ZX) (e:m=.ok r S1) (x:Ex S S1)
theorem Kp.refl(P:Nat->Prop)(S:ZX):Kp P S S:=⟨qA7 _,λ_ _ _=>rfl⟩
theorem Kp.trans{P:Nat->Prop}{S c S2:ZX}(a:Kp P S c)(b:Kp P c S2):Kp P S S2:=⟨qC6 a.le b.le,λj h n=>(b.eq j (qB3 h a.le) n).trans (a.eq j h n)⟩
theorem Ex.kp{P:Nat->Prop}{S S':ZX}(h:Ex S S'):Kp P S S':=⟨h.le,λj a _=>h.eq j a (λz=>z)⟩
theorem Kp.kp{P:Nat->Prop}{S S':ZX}(h:Kp (λ_=>False) S S'):Kp P S S':=⟨h.le,λj a _=>h.eq j a (λz=>z)⟩
theorem Kp.mono{P Q:Nat->Prop}{S S':ZX}(h:Kp P S S')(m:∀j,j<S.length->P j->Q j):Kp Q S S':=⟨h.le,λj a n=>h.eq j a λz=>n (m j a z)⟩
theorem Zh(S T:ZX):Ex S (S++T):=⟨by simp,λj h _=>qA8 h⟩
theorem WJ{i:Nat}(S:ZX)(o:O):Kp (·=i) S (S.set i o):=⟨by simp,λj h n=>qD5 λz=>n z.symm⟩
theorem Kp.at{P:Nat->Prop}{S a:ZX}(h:Kp P S a){j:Nat}{o:O}(e:S[j]?=Z9 o)(n:¬P j):a[j]?=Z9 o:=by rw[h.eq j (qA1.mp e).1 n];exact e
theorem U8{S:ZX}{n:Nat}{xs:List D}(h:ZL S n=Z9 xs):S[n]?=Z9 (.lst xs):=by
 unfold ZL at h;split at h
 .simp_all
 .cases h
theorem J9{S:ZX}{n:Nat}{xs:List D}(h:S[n]?=Z9 (.lst xs)):ZL S n=Z9 xs:=by unfold ZL;rw[h]
theorem Kp.lst{P:Nat->Prop}{S a:ZX}(h:Kp P S a){j:Nat}{xs:List D}(e:ZL S j=Z9 xs)(n:¬P j):ZL a j=Z9 xs:=J9 (h.at (U8 e) n)
theorem US{S:ZX}{n:Nat}{xs:List D}(h:ZL S n=Z9 xs):n<S.length:=(qA1.mp (U8 h)).1
@[simp]theorem Y7(S:ZX)(xs:List D):ZL (S++[.lst xs]) S.length=Z9 xs:=J9 (by rw[qA0 (qA7 _),qJ4];rfl)
theorem Ss{S T:ZX}{n:Nat}{xs:List D}(h:ZL S n=Z9 xs):ZL (S++T) n=Z9 xs:=(Zh S T).lst h λz=>z
theorem UR{S:ZX}{n:Nat}{xs ys:List D}(h:ZL S n=Z9 xs):ZL (S.set n (.lst ys)) n=Z9 ys:=J9 (qC9 (US h))
theorem Uo{S:ZX}{n:Nat}{xs:List D}(h:ZL S n=Z9 xs):Yk "list" (.lst n) S=Z7:=by show(decide ("list" = "list")&&(ZL S n).isSome)=Z7;rw[h];rfl
theorem Um{S:ZX}{n:Nat}{ys:List D}(h:ZL S n=Z9 ys)(g:List D->List D->Option (List D×D))(xs:List D):X3 g (.lst n) xs S=match g ys xs with|some p=>.ok p.2 (S.set n (.lst p.1))| none=>.bad:=by
 unfold X3;dsimp only;rw[U8 h];dsimp only;cases g ys xs with
 |none=>rfl
 |some p=>rfl
@[simp]theorem Tz(ys:List D)(x:D):XU ys [x]=if ys.length<lim then Z9 (ys++[x],.non)else Z8:=rfl
@[simp]theorem cy(ys:List D)(i:Int)(x:D):NX ys [.int i,x]=if ys.length<1000/\0<=i/\i.toNat<=ys.length then Z9 (ys.take i.toNat++x::ys.drop i.toNat,.non)else Z8:=rfl
theorem EK{S:ZX}{n:Nat}{ys:List D}(h:ZL S n=Z9 ys)(k:Int)(v:D):Ya (.lst n) (.int k) v S=match Wn ys.length k with|some j=>Z9 (S.set n (.lst (ys.set j v)))| none=>Z8:=by
 unfold Ya;dsimp only;rw[U8 h]
 all_goals (dsimp only;cases Wn ys.length k<;>rfl)
theorem Yg(S:ZX):XT [] S:=λp h=>by cases h
theorem Xx{S:ZX}{n:Nat}{xs:List D}(h:ZL S n=Z9 xs):XT [(n,xs)] S:=λp a=>by simp at a;subst a;exact h
theorem qj{S:ZX}{n m:Nat}{xs ys:List D}(h:ZL S n=Z9 xs)(b:ZL S m=Z9 ys):XT [(n,xs),(m,ys)] S:=λp a=>by
 simp at a;rcases a with rfl|rfl
 .exact h
 .exact b
theorem EJ{w:Xi}{g:G}{b:CS}:∀(items:List D) (P:Nat->ZT->ZX->Prop) {B:ZT}{S:ZX} (k:Nat),(∀i B S,P i B S->XT w S)->P k B S ->
  (∀i d B S,items[i]?=Z9 d->P (k+i) B S->∃c f,g d B S=.ok c f/\∃a e,(b c f=.nx a e∨b c f=.ct a e)/\P (k+i+1) a e)->∃j l,Y4 w g b items B S=.nx j l/\P (k+items.length) j l
 |[],P,B,S,k,hw,h0,hs=>⟨B,S,by unfold Y4;rw[if_pos (hw k B S h0)],by simpa using h0⟩
 |d::ds,P,B,S,k,hw,h0,hs=>by
  obtain⟨c,f,u,a,e,h,q⟩:=hs 0 d B S rfl (by simpa using h0);obtain⟨j,l,m,r⟩:=EJ ds P (k+1) hw (by simpa using q) (λi o B S v s=>by
   obtain⟨c,f,t,a,e,n,p⟩:=hs (i+1) o B S (by exact v) (by rw[show k+(i+1)=k+1+i by omega];exact s);exact⟨c,f,t,a,e,n,by rw[show k+1+i+1=k+(i+1)+1 by omega];exact p⟩)
  refine⟨j,l,?_,by rw[qC3,show k+(ds.length+1)=k+1+ds.length by omega];exact r⟩;unfold Y4;rw[if_pos (hw k B S h0),u];dsimp only;rcases h with h|h
  .rw[h];exact m
  .rw[h];exact m
inductive qi(r:RS)(P:ZT->ZX->Prop):Prop
 |mk (B2:ZT) (S2:ZX) (h:r=.nx B2 S2∨r=.ct B2 S2) (p:P B2 S2)
inductive UQ(g:G)(b:CS)(d:D)(B:ZT)(S:ZX)(P:ZT->ZX->Prop):Prop
 |mk (B1:ZT) (S1:ZX) (e:g d B S=.ok B1 S1) (t:qi (b B1 S1) P)
inductive Sr(r:RS)(P:ZT->ZX->Prop):Prop
 |mk (B':ZT) (S':ZX) (e:r=.nx B' S') (p:P B' S')
theorem Wq{w:Xi}{g:G}{b:CS}{items:List D}(P:Nat->ZT->ZX->Prop){B:ZT}{S:ZX}(a:∀i B S,P i B S->XT w S)(n:P 0 B S)
  (m:∀i d B S,items[i]?=Z9 d->P i B S->UQ g b d B S (P (i+1))):Sr (Y4 w g b items B S) (P items.length):=by
 obtain⟨f,t,e,p⟩:=EJ items P 0 a n (λi d B S q l=>by
  obtain⟨k,s,o,h,r,c,j⟩:=m i d B S q (by simpa using l);exact⟨k,s,o,h,r,c,by simpa using j⟩)
 exact⟨f,t,e,by simpa using p⟩
inductive Nv(m:R (List D))(r:List D)(P:ZX->Prop):Prop
 |mk (S':ZX) (e:m=.ok r S') (p:P S')
theorem J8{w:Xi}{t:Xh}{tc:CT}{c:C}{B0:ZT}(P:ZX->Prop)(a:∀S,P S->XT w S):∀(items:List D) (p:D->Bool) (f:D->D) {S:ZX},P S ->
  (∀d∈items,∀S,P S->∃b,VB t d B0=Z9 b/\∃g,tc b S=.ok (p d) g/\(p d=Z5->P g)/\(p d=Z7->∃i,c b g=.ok (f d) i/\P i))->Nv (Zf w t tc c B0 items S) ((items.filter p).map f) P
 |[],p,f,S,h0,hs=>⟨S,by unfold Zf;rw[if_pos (a S h0)];rfl,h0⟩
 |d::ds,p,f,S,h0,hs=>by
  obtain⟨b,q,g,n,r,ht⟩:=hs d (by simp) S h0;unfold Zf;rw[if_pos (a S h0),q];dsimp only;rw[Xo,n,X2];cases e:p d with
  |false =>
   obtain⟨m,j,k⟩:=J8 P a ds p f (r e) λh l=>hs h (by simp[l]);exact⟨m,by rw[if_neg qB4,j,qG8,e];rfl,k⟩
  |true =>
   obtain⟨i,s,o⟩:=ht e;obtain⟨m,j,k⟩:=J8 P a ds p f o λh l=>hs h (by simp[l]);exact⟨m,by rw[if_pos rfl,Xo,s,X2,Xo,j,X2,qG8,e];rfl,k⟩
theorem qh{w:Xi}{t:Xh}{c:C}{B0:ZT}(P:ZX->Prop)(g:∀S,P S->XT w S)(items:List D)(f:D->D){S:ZX}(l:P S)
  (j:∀d∈items,∀S,P S->∃a,VB t d B0=Z9 a/\∃b,c a S=.ok (f d) b/\P b):Nv (Zf w t (λ_=>ret Z7) c B0 items S) (items.map f) P:=by
 obtain⟨o,e,h⟩:=J8 (tc:=λ_=>ret Z7) P g items (λ_=>Z7) f l (λd n S h=>by
  obtain⟨a,m,b,i,k⟩:=j d n S h;exact⟨a,m,S,rfl,(λz=>by cases z),λ_=>⟨b,i,k⟩⟩)
 exact⟨o,by rw[e,qM9.mpr (by simp)],h⟩
theorem Nu{α:Type}(e:α->D){w:Xi}{t:Xh}{tc:CT}{c:C}{B0:ZT}(P:ZX->Prop)(b:∀S,P S->XT w S)(p:α->Bool)(f:α->D):∀(l:List α) {S:ZX},P S ->
  (∀a∈l,∀S,P S->∃g,VB t (e a) B0=Z9 g/\∃i,tc g S=.ok (p a) i/\(p a=Z5->P i)/\(p a=Z7->∃k,c g i=.ok (f a) k/\P k))->Nv (Zf w t tc c B0 (l.map e) S) ((l.filter p).map f) P
 |[],S,h0,hs=>⟨S,by rw[qR0];unfold Zf;rw[if_pos (b S h0)];rfl,h0⟩
 |d::ds,S,h0,hs=>by
  obtain⟨g,u,i,r,v,ht⟩:=hs d (by simp) S h0;rw[qC7];unfold Zf;rw[if_pos (b S h0),u];dsimp only;rw[Xo,r,X2];cases h:p d with
  |false =>
   obtain⟨q,m,n⟩:=Nu e P b p f ds (v h) λj o=>hs j (by simp[o]);exact⟨q,by rw[if_neg qB4,m,qG8,h];rfl,n⟩
  |true =>
   obtain⟨k,x,s⟩:=ht h;obtain⟨q,m,n⟩:=Nu e P b p f ds s λj o=>hs j (by simp[o]);exact⟨q,by rw[if_pos rfl,Xo,x,X2,Xo,m,X2,qG8,h];rfl,n⟩
theorem J7{α:Type}(e:α->D){w:Xi}{t:Xh}{c:C}{B0:ZT}(P:ZX->Prop)(i:∀S,P S->XT w S)(f:α->D)(l:List α){S:ZX}(n:P S)
  (k:∀a∈l,∀S,P S->∃b,VB t (e a) B0=Z9 b/\∃g,c b S=.ok (f a) g/\P g):Nv (Zf w t (λ_=>ret Z7) c B0 (l.map e) S) (l.map f) P:=by
 obtain⟨q,e,h⟩:=Nu e (tc:=λ_=>ret Z7) P i (λ_=>Z7) f l n (λd p S h=>by
  obtain⟨b,o,g,j,m⟩:=k d p S h;exact⟨b,o,S,rfl,(λz=>by cases z),λ_=>⟨g,j,m⟩⟩)
 exact⟨q,by rw[e,qM9.mpr (by simp)],h⟩
theorem P0{α:Type}(e:α->D){w:Xi}{t:Xh}{tc:CT}{c:C}{B0:ZT}{S:ZX}(g:XT w S)(p:α->Bool)(f:α->D)(l:List α)
  (k:∀a∈l,∃d,VB t (e a) B0=Z9 d/\tc d S=.ok (p a) S/\(p a=Z7->c d S=.ok (f a) S)):Zf w t tc c B0 (l.map e) S=.ok ((l.filter p).map f) S:=by
 obtain⟨b,n,h⟩:=Nu e (λb=>b=S) (λb z=>z▸g) p f l rfl (λa o b z=>by
  subst z;obtain⟨d,m,i,j⟩:=k a o;exact⟨d,m,b,i,λ_=>rfl,λz=>⟨b,j z,rfl⟩⟩)
 rw[n,h]
theorem VQ{α:Type}(e:α->D){w:Xi}{t:Xh}{c:C}{B0:ZT}{S:ZX}(d:XT w S)(f:α->D)(l:List α)
  (j:∀a∈l,∃b,VB t (e a) B0=Z9 b/\c b S=.ok (f a) S):Zf w t (λ_=>ret Z7) c B0 (l.map e) S=.ok (l.map f) S:=by
 have:=P0 e (tc:=λ_=>ret Z7) d (λ_=>Z7) f l (λa i=>by
  obtain⟨b,h,g⟩:=j a i;exact⟨b,h,rfl,λ_=>g⟩)
 rw[this,qM9.mpr (by simp)]
theorem PZ{t:CT}{b:CS}(P:Nat->ZT->ZX->Prop)(Q:ZT->ZX->Prop)(l:∀m B S,P m B S->(∃a,t B S=.ok Z5 a/\Q B a)∨∃a,t B S=.ok Z7 a/\∃d g,(b B a=.nx d g∨b B a=.ct d g)/\∃m',m'<m/\P m' d g):
  ∀(k m:Nat) (B:ZT) (S:ZX),m<k->P m B S->∃c i,Ws k t b B S=.nx c i/\Q c i
 |0,m,B,S,hk,h=>absurd hk (qO7 _)
 |k+1,m,B,S,hk,h=>by
  unfold Ws;rcases l m B S h with⟨a,e,q⟩| ⟨a,e,d,g,f,m',o,n⟩
  .rw[e];exact⟨B,a,rfl,q⟩
  .obtain⟨c,i,j,q⟩:=PZ P Q l k m' d g (by omega) n;rw[e];dsimp only;rcases f with f|f
   .rw[f];exact⟨c,i,j,q⟩
   .rw[f];exact⟨c,i,j,q⟩
noncomputable def Ze(fs:yA):List (ZJ×D):=fs.map λx=>((Sum.inl x:ZJ),D.bl Z7)
noncomputable def YW(fs:yA)(a:Int):yA:=if a∈fs then fs else fs++[a]
theorem qg(fs:yA)(a:Int):((Ze fs).any λb=>decide (b.1=(Sum.inl a:ZJ)))=decide (a∈fs):=by
 induction fs with
 |nil=>rfl
 |cons x r c =>
  show(decide ((Sum.inl x:ZJ)=Sum.inl a)||(Ze r).any _)=_;rw[c];by_cases h:x=a
  .subst h;simp
  .have:(Sum.inl x:ZJ)≠Sum.inl a:=λz=>h (Sum.inl.inj z);simp[this,Ne.symm h]
theorem qf(fs:yA)(a:Int):Yx (Ze fs) (.inl a) (.bl Z7)=Ze (YW fs a):=by
 unfold Yx YW;rw[qg];by_cases h:a∈fs
 .rw[if_pos (by simpa using h),if_pos h];unfold Ze;rw[qC8];refine qF0 λx _=>?_;show(if(Sum.inl x:ZJ)=Sum.inl a then((Sum.inl x),D.bl Z7)else(Sum.inl x,D.bl Z7))=_;split<;>rfl
 .rw[if_neg (by simpa using h),if_neg h];unfold Ze;simp
theorem qe(fs:yA)(a:Int):Yy (Ze fs) (.inl a)=if a∈fs then Z9 (.bl Z7)else Z8:=by
 unfold Yy
 induction fs with
 |nil=>rfl
 |cons x r b =>
  show Option.map _ (List.find? _ (((Sum.inl x),D.bl Z7)::Ze r))=_;rw[List.find?_cons];by_cases h:x=a
  .subst h;simp
  .have:(Sum.inl x:ZJ)≠Sum.inl a:=λz=>h (Sum.inl.inj z);simp only[this,decide_false];rw[b];simp[Ne.symm h]
theorem J4{S:ZX}{m:Nat}{fs:yA}(h:S[m]?=Z9 (.dk (Ze fs)))(neg:Bool)(a:Int):YG neg (.int a) (.dct m) S=.ok (.bl (if neg then !decide (a∈fs)else decide (a∈fs))) S:=by
 have e:dictAt S m (.int a)=Z9 (if a∈fs then Z9 (.bl Z7)else Z8):=by unfold dictAt;rw[h];show Z9 (Yy (Ze fs) (.inl a))=_;rw[qe]
 show(match dictAt S m (.int a)with|some o=>R.ok (D.bl (if neg then !o.isSome else o.isSome)) S|none=>.bad)=_;rw[e];by_cases b:a∈fs
 .simp[b]
 .simp[b]
theorem EI{S:ZX}{m:Nat}{fs:yA}(h:S[m]?=Z9 (.dk (Ze fs)))(b:fs.length<lim)(a:Int):Ya (.dct m) (.int a) (.bl Z7) S=Z9 (S.set m (.dk (Ze (YW fs a)))):=by unfold Ya;dsimp only;rw[h];show(if(Ze fs).length<lim then Z9 (S.set m (.dk (Yx (Ze fs) (.inl a) (.bl Z7))))else Z8)=_;rw[if_pos (by unfold Ze;rw[qA3];exact b),qf]
theorem EH{fs:yA}{a x:Int}:x∈YW fs a↔x∈fs∨x=a:=by
 unfold YW;split
 .simp_all
 .simp
@[simp]theorem cw(d:D)(B:ZT):VB .one d B=Z9 (B.set 0 (Z9 d)):=rfl
@[simp]theorem cu(x y:D)(B:ZT):VB (.many 2) (.tup [x,y]) B=Z9 ((B.set 0 (Z9 x)).set 1 (Z9 y)):=rfl
@[simp]theorem cq(k:Nat)(js:List Nat)(B:ZT):W2 k js B=qE7 k Z8++js.map λj=>(B[j]?).getD Z8:=rfl
theorem JZ{f e:Nat}{b:CS}{ds:List D}{S:ZX}(h:ds.length=f):ZC f e b ds S=match b (XB e ds) S with
 |.nx _ a=>.ok .non a
 |.rt d a=>.ok d a
 |.er c a=>.er c a
 |_=>.bad:=by
 unfold ZC;rw[if_pos h]
 all_goals (cases b (XB e ds) S<;>rfl)
theorem YC{a c:Nat}{b:CS}{ds:List D}{S S':ZX}{d:D}(h:ds.length=a)(e:b (XB c ds) S=.rt d S'):ZC a c b ds S=.ok d S':=by rw[JZ h,e]
theorem EG{a d:Nat}{b:CS}{ds:List D}{S S':ZX}{c:Str}(h:ds.length=a)(e:b (XB d ds) S=.er c S'):ZC a d b ds S=.er c S':=by rw[JZ h,e]
theorem qd{a c:Nat}{b:CS}{ds:List D}{S S':ZX}{B:ZT}(h:ds.length=a)(e:b (XB c ds) S=.nx B S'):ZC a c b ds S=.ok .non S':=by rw[JZ h,e]
noncomputable def plain:Nat->D->Bool
 |0,_=>Z5
 |n+1,d=>match d with
  |.int _=>Z7
  |.non=>Z7
  |.str x=>PyData.strOk x
  |.tup a=>a.all (plain n)
  |_=>Z5
noncomputable def YR:Nat->D->wR
 |0,_=>.none
 |n+1,d=>match d with
  |.int i=>.int i
  |.str x=>.str x
  |.tup a=>.tuple (a.map (YR n))
  |_=>.none
theorem EF{α b:Type}{f:α->Option b}{g:α->b}{l:List α}(h:∀x∈l,f x=Z9 (g x)):l.mapM f=Z9 (l.map g):=by
 induction l with
 |nil=>rfl
 |cons a r d =>
  rw[qL0,h a (by simp),d λx c=>h x (by simp[c])];rfl
theorem EE:∀{n:Nat}{d:D} (S:ZX),plain n d=Z7->YM n S d=Z9 (YR n d)
 |0,d,S,h=>by cases h
 |n+1,d,S,h=>by
  unfold plain at h;unfold YM YR;cases d with
  |int i=>rfl
  |non=>rfl
  |str x=>dsimp only at h ⊢;rw[if_pos h]
  |tup b =>
   dsimp only at h ⊢;rw[EF λx a=>EE S (qD2.mp h x a)];rfl
  |_=>cases h
theorem Nt{n:Nat}(a:∀d e,plain n d=Z7->plain n e=Z7->(PyData.eqv (YR n d) (YR n e)=Z7↔d=e)):∀(xs ys:List D),xs.all (plain n)=Z7->ys.all (plain n)=Z7->(PyData.eqvAll (xs.map (YR n)) (ys.map (YR n))=Z7↔xs=ys)
 |[],[],_,_=>by simp[PyData.eqvAll]
 |[],y::ys,_,_=>by simp[PyData.eqvAll]
 |x::xs,[],_,_=>by simp[PyData.eqvAll]
 |x::xs,y::ys,h1,h2=>by rw[qK1,qC5]at h1 h2;show(PyData.eqv (YR n x) (YR n y)&&PyData.eqvAll (xs.map (YR n)) (ys.map (YR n)))=Z7↔_;rw[qC5,a x y h1.1 h2.1,Nt a xs ys h1.2 h2.2,qL6.injEq]
theorem JY:∀(n:Nat) (d e:D),plain n d=Z7->plain n e=Z7->(PyData.eqv (YR n d) (YR n e)=Z7↔d=e)
 |0,d,e,h,_=>by cases h
 |n+1,d,e,h1,h2=>by
  unfold YR;cases d with
  |int i =>
   cases e with
   |int j=>simp[PyData.eqv]
   |non=>simp[PyData.eqv]
   |str y=>simp[PyData.eqv]
   |tup a=>simp[PyData.eqv]
   |_=>cases h2
  |non =>
   cases e with
   |int j=>simp[PyData.eqv]
   |non=>simp[PyData.eqv]
   |str y=>simp[PyData.eqv]
   |tup a=>simp[PyData.eqv]
   |_=>cases h2
  |str x =>
   cases e with
   |int j=>simp[PyData.eqv]
   |non=>simp[PyData.eqv]
   |str y=>simp[PyData.eqv]
   |tup a=>simp[PyData.eqv]
   |_=>cases h2
  |tup b =>
   cases e with
   |int j=>simp[PyData.eqv]
   |non=>simp[PyData.eqv]
   |str y=>simp[PyData.eqv]
   |tup a =>
    show PyData.eqvAll (b.map (YR n)) (a.map (YR n))=Z7↔_;rw[Nt (JY n) b a h1 h2];simp
   |_=>cases h2
  |_=>cases h1
noncomputable def Re{α:Type}(x y:α):Bool:=@decide (x=y) (Classical.propDecidable _)
theorem Nr{α:Type}{x y:α}:Re x y=Z7↔x=y:=@decide_eq_true_iff _ (Classical.propDecidable _)
@[simp]theorem JX{α:Type}(x:α):Re x x=Z7:=Nr.mpr rfl
theorem qc{α:Type}{x y:α}(h:x≠y):Re x y=Z5:=by
 cases q:Re x y with
 |false=>rfl
 |true=>exact absurd (Nr.mp q) h
theorem ED{a b:Bool}(h:a=Z7↔b=Z7):a=b:=by simp_all
theorem Nq{S:ZX}{k:Nat}{xs:List D}(h:ZL S k=Z9 xs)(b:xs.all (plain 39)=Z7):YM 40 S (.lst k)=Z9 (.list (xs.map (YR 39))):=by show(match ZL S k with|some xs=>(xs.mapM (YM 39 S)).map PyData.list|none=>Z8)=_;rw[h];dsimp only;rw[EF (g:=YR 39) λx a=>EE S (qD2.mp b x a)];rfl
theorem qb{S:ZX}{a b:Nat}{xs ys:List D}(c:ZL S a=Z9 xs)(d:ZL S b=Z9 ys)(p1:xs.all (plain 39)=Z7)(p2:ys.all (plain 39)=Z7):WD (.lst a) (.lst b) S=.ok (.bl (Re xs ys)) S:=by unfold WD;dsimp only;rw[Nq c p1,Nq d p2];dsimp only;rw[ED ((show PyData.eqv (.list (xs.map (YR 39))) (.list (ys.map (YR 39)))=Z7↔xs=ys from Nt (JY 39) xs ys p1 p2).trans Nr.symm)]
theorem JW{S:ZX}{a b:Nat}{xs ys:List D}(c:ZL S a=Z9 xs)(d:ZL S b=Z9 ys)(p1:xs.all (plain 39)=Z7)(p2:ys.all (plain 39)=Z7):WM (.lst a) (.lst b) S=.ok (.bl (!Re xs ys)) S:=by unfold WM;dsimp only;rw[Nq c p1,Nq d p2];dsimp only;rw[ED ((show PyData.eqv (.list (xs.map (YR 39))) (.list (ys.map (YR 39)))=Z7↔xs=ys from Nt (JY 39) xs ys p1 p2).trans Nr.symm)]
theorem qa{n:Nat}{xs:List D}(h:∀x∈xs,plain n x=Z7):plain (n+1) (.tup xs)=Z7:=qD2.mpr h
theorem EC{S:ZX}{k:Nat}{xs:List D}(h:ZL S k=Z9 xs):Yl [.lst k,.ty "list"] S=.ok (.bl Z7) S:=by show(match (if(ZL S k).isSome then Z9 "list" else Z8)with|some t=>(if "list"∈["bool","int","tuple","list"]then R.ok (D.bl (LD t "list")) S else .bad)| none=>.bad)=_;rw[h];rfl
@[simp]theorem cp(i:Int)(S:ZX):Yl [.int i,.ty "bool"] S=.ok (.bl Z5) S:=rfl
@[simp]theorem cn(i:Int)(S:ZX):Yl [.int i,.ty "int"] S=.ok (.bl Z7) S:=rfl
@[simp]theorem cm(i:Int)(S:ZX):Yl [.int i,.ty "tuple"] S=.ok (.bl Z5) S:=rfl
@[simp]theorem ck(i:Int)(S:ZX):Yl [.int i,.ty "list"] S=.ok (.bl Z5) S:=rfl
@[simp]theorem cj(b:Bool)(S:ZX):Yl [.bl b,.ty "bool"] S=.ok (.bl Z7) S:=rfl
@[simp]theorem cg(b:Bool)(S:ZX):Yl [.bl b,.ty "int"] S=.ok (.bl Z7) S:=rfl
@[simp]theorem cf(b:Bool)(S:ZX):Yl [.bl b,.ty "tuple"] S=.ok (.bl Z5) S:=rfl
@[simp]theorem b9(b:Bool)(S:ZX):Yl [.bl b,.ty "list"] S=.ok (.bl Z5) S:=rfl
@[simp]theorem bZ  (S:ZX):Yl [.non,.ty "bool"] S=.ok (.bl Z5) S:=rfl
@[simp]theorem bY  (S:ZX):Yl [.non,.ty "int"] S=.ok (.bl Z5) S:=rfl
@[simp]theorem bX  (S:ZX):Yl [.non,.ty "tuple"] S=.ok (.bl Z5) S:=rfl
@[simp]theorem bW  (S:ZX):Yl [.non,.ty "list"] S=.ok (.bl Z5) S:=rfl
@[simp]theorem bV(x:Str)(S:ZX):Yl [.str x,.ty "bool"] S=.ok (.bl Z5) S:=rfl
@[simp]theorem bU(x:Str)(S:ZX):Yl [.str x,.ty "int"] S=.ok (.bl Z5) S:=rfl
@[simp]theorem bT(x:Str)(S:ZX):Yl [.str x,.ty "tuple"] S=.ok (.bl Z5) S:=rfl
@[simp]theorem bS(x:Str)(S:ZX):Yl [.str x,.ty "list"] S=.ok (.bl Z5) S:=rfl
@[simp]theorem bR(xs:List D)(S:ZX):Yl [.tup xs,.ty "bool"] S=.ok (.bl Z5) S:=rfl
@[simp]theorem bQ(xs:List D)(S:ZX):Yl [.tup xs,.ty "int"] S=.ok (.bl Z5) S:=rfl
@[simp]theorem bP(xs:List D)(S:ZX):Yl [.tup xs,.ty "tuple"] S=.ok (.bl Z7) S:=rfl
@[simp]theorem bO(xs:List D)(S:ZX):Yl [.tup xs,.ty "list"] S=.ok (.bl Z5) S:=rfl
theorem Np(ns:yA):Wb (ns.map D.int)=Z9 ns:=by
 induction ns with
 |nil=>rfl
 |cons a r b=>show(Wb (r.map D.int)).map (a::·)=_;rw[b];rfl
theorem EB{n:Nat}{a:yA}{S:ZX}(h:ZL S n=Z9 (a.map D.int))(b:a.length<64):WC [.lst n] S=.ok (.lst S.length) (S++[.lst ((V8 a).map D.int)]):=by unfold WC;simp only[h,qL7,Np,if_pos b]
theorem pZ{n:Nat}{a:yA}{S:ZX}(h:ZL S n=Z9 (a.map D.int))(c:∀i∈a,0<=i/\i<=1000000)(d:a.length<=1000000):WV [.lst n] S=.ok (.int a.sum) S:=by
 unfold WV;have:(a.all λi=>decide (0<=i)&&decide (i<=1000000))=Z7:=qD2.mpr λi b=>by simpa using c i b
 simp only[h,qL7,Np,this,d,and_self,if_true]
@[simp]theorem bN(i:Int)(S:ZX):Qg (.int i) [] S=.ok (.int ((Builtin.Int.intBits i:Nat):Int)) S:=rfl
@[simp]theorem bM(i:Int)(S:ZX):Yk "int" (.int i) S=Z7:=rfl
theorem EA(xs:List D){k:Int}(a:0<=k):Yb xs (Z9 k) Z8=xs.drop k.toNat:=by
 unfold Yb;rw[show k=(k.toNat:Int) by omega,HT.sIx_nat,HT.sIx_none,qF2];by_cases h:k.toNat<=xs.length
 .rw[qO5 h,qH8 (by simp)]
 .rw[Nat.min_eq_right (by omega),qJ4,List.take_zero,qK7 (by omega)]
theorem pY{a:List D->M D}{b:CA}{B:ZT}{S S1:ZX}{xs:List D}(e:b B S=.ok xs S1):Xz a b B S=a xs S1:=by unfold Xz;rw[e]
noncomputable def JV(K:yQ):Bool:=match fI K Zw with
 |some (_,T)=>(K.lookup T).isNone
 |none=>Z5
theorem pX{K:yQ}(h:JV K=Z7):∃c T,fI K Zw=Z9 (c,T)/\K.lookup T=Z8:=by
 unfold JV at h;split at h
 .rename_i c T e;exact⟨c,T,e,qN4.mp h⟩
 .cases h
theorem walk_evS{l:W.OpenLaw}{q:y4}{a:yH}{p:(Str->yF)->jE->Prop}{n:jD->jE->Prop}{d:DefRec}{K:Params->yQ}{L:Nat}(v:l.most=Z9 63)(j:d.params.defaults=[])(r:Zj L mG)
  (x:∀(w:jD) (h:jE),n w h->(K w.params).In h) (b:((mJ q).find? (λe=>e.name == Zw)).isSome=Z7) (i:∀w:jD,JV (K w.params)=Z7)
  (F:∀(w:jD) (g:Str->yF) (m c T:yR) (h:jE),(K w.params).In h->h.Ns y9 g->g d.name=Z9 (.ref m)->fI (K w.params) Zw=Z9 (c,T) ->
   ∃o:jW,(∀(s:yS) (u:yU),mX s o ⟨[u],[]⟩ [("_law_script",u)])/\∀base:jE,(K w.params).In base->base.Ns y9 g->fM base c T->base.BuiltinsAt g T->y9≠T->XZ l.prog w (K w.params) g base (W3 l.prog w) L m o ["_law_script"] (Ny (K w.params))) :
  W.WalkO q a p n l.row.toRowW d [] (λf t=>PySem.call f t):=by obtain⟨y,k⟩:=qI6.mp b;exact qB v j r x k (λw=>pX (i w)) F
noncomputable def Sq(K:yQ):Bool:=XO.all λx=>match Xq K x with
 |some C=>W.excIn K C Lg "ValueError.__new__"
 |none=>Z5
noncomputable def JU(K:yQ)(C:yR):Bool:=XO.all λx=>match Xq K x with
 |some D=>gB K (.ref D) (.ref C) == Z9 Z7
 |none=>Z5
theorem JT{K:yQ}{h:jE}{a:Str->yF}(X:K.In h)(G:h.Ns y9 a){x:Str}{D:yR}(e:Xq K x=Z9 D):a x=Z9 (.ref D):=W.mg_of X G (Fv e)
theorem Ez{K:yQ}{h:jE}{a:Str->yF}(X:K.In h)(G:h.Ns y9 a)(hk:Sq K=Z7):∀x∈V6,∃C,a x=Z9 (.ref C)/\W9 K C:=λx b=>by
 have q:=qD2.mp hk x b;split at q
 .rename_i C e;exact⟨C,JT X G e,q⟩
 .cases q
theorem pW{K:yQ}{h:jE}{a:Str->yF}{C:yR}(X:K.In h)(G:h.Ns y9 a)(hk:JU K C=Z7):∀x∈XO,∀D,Xq K x=Z9 D->a x=Z9 (.ref D)/\gB K (.ref D) (.ref C)=Z9 Z7:=λx b D e=>by have q:=qD2.mp hk x b;rw[e]at q;exact⟨JT X G e,beq_iff_eq.mp q⟩
theorem pV{K:yQ}{h:jE}{a:Str->yF}(X:K.In h)(G:h.Ns y9 a)(xk:Us K=Z7):∀c∈XO,∃C,a c=Z9 (.ref C)/\Xq K c=Z9 C:=λc b=>by obtain⟨C,e,_⟩:=Qc xk b;exact⟨C,JT X G e,e⟩
theorem pU{P:y4}{w:jD}{K:yQ}{i:Str->yF}{base h:jE}{c y en g:Str}{st:vK}{k C:yR}{l:jW}{more:yH}{ZG:List vK}{p1 p2 p3 p4 u p q r q2 q3 q4 o:Pos}{j:Nat}(X:K.In h)(G:h.Ns y9 i)(F:WZ K "_law_refused" "_law_refused" st k l)(m:i "_law_refused"=Z9 (.ref k))(V:VZ K l [c] [])
  (f:Xk st=Fq c y en g p1 p2 p3 p4 u p q r q2 q3 q4 o j ZG) (J:Xp (c::y::en::more) [c] (Zi st)=Z7) (O:more.length=1) (L:(Zi st).names.lookup y=Z9 .local/\(Zi st).names.lookup en=Z9 .local/\(Zi st).names.lookup g=Z9 .globalImplicit)
  (R:YL c/\(c == ("__classdict__":Str))=Z5/\YL en/\(en == ("__classdict__":Str))=Z5/\YL g) (hm:gA K y9 g=Z9 (Z9 (.ref C))) (a:("_law_refused":Str)≠Zw)
  (xk:Us K=Z7) (xs:Sq K=Z7) (Y:JU K C=Z7) (xv:gA K y9 "ValueError"=Z9 Z8) (T:Vy (λ_=>Z8) i)
  (B:cSts (λ_=>Z8) (λ_ _ _=>.bad) 60 ⟨c::y::en::more,(Zi st).names,Z9 "_law_refused"⟩ ZG=Z9 V5):Vv P w K i base:=by
 have S:=EV J;have xm:=pV X G xk;have v:=W.mg_none_of X G xv;refine⟨λt ht=>?_,xk,xm,v⟩;have e:=by simpa[NS]using ht
 subst e;obtain⟨D,a2,Q⟩:=L;obtain⟨b1,Z,U,b4,M⟩:=R;refine⟨st,k,l,c,y,en,g,_,ZG,C,F,m,V,⟨⟨p1,p2,p3,p4,u,p,q,r,q2,q3,q4,o,j,f⟩,S,⟨more,rfl⟩,D,a2,Q,b1,Z,U,b4,M⟩,by simp[O],W.mg_of X G hm,pW X G Y,λn A b s H E=>?_⟩;have I:Y9 (YQ Wk P w K i base (c::y::en::more) "_law_refused" (Zi st) k n A b s H E0) ⟨c::y::en::more,(Zi st).names,Z9 "_law_refused"⟩ (λ_=>Z8) (λ_ _ _=>.bad) 0:={
  calm:=rfl
  N:=rfl
  nd:=S.nd
  gl:=λx d=>d
  loc:=λx d=>d
  cel:=λx d=>d
  fre:=λx d=>.inr d
  fnn:=λ_ x=>rfl
  room:=(E.deeper _).mono (by omega)
  roomT:=λz=>absurd (Option.some.inj z) a
  lam:=λz=>absurd (Option.some.inj z) a
  tk:=λz=>absurd (Option.some.inj z) a
  rf:=λz=>absurd (Option.some.inj z) a
  xk:=xk
  xm:=xm
  xv:=v
  own:=PassesOwn.leaving
  exc:=Ez X G xs
  blt:=T
  fns:=λ_ _ z=>by cases z }
 exact(Sw 60).2 _ _ I _ _ B
end L2
namespace My
open PySem L2
noncomputable def JS(cl:ZQ):C :=
 (ZU YY (Y2 (ZP [(ZW (.int 0))])) (ZY 0))
noncomputable def JR(cl:ZQ):C :=
 (ZU YY (Y2 (ZP [(ZW (.int 1))])) (ZY 0))
noncomputable def JQ(cl:ZQ):CS :=
 (ZV (ZI (ZU YY (Yv (Zy (ZY 1)) 1 [] .one (λ_=>ret Z7) (JS cl)) (Yv (Zy (ZY 1)) 1 [] .one (λ_=>ret Z7) (JR cl))) (gN 1))
  ZH)
noncomputable def Nn(cl:ZQ):CS :=
 (ZV (ZI (YN (ZP [(Y2 (ZP []))])) (gN 1))
  (ZV (Zk (WA (ZP [(ZY 0)])) (gN 2) (JQ cl))
  (ZV (ZF (ZY 1))
  ZH)))
def PY(cl:Nat->ZQ):Prop:=∀n,cl (n+1) "settings"=ZC 1 3 (Nn (cl n))
noncomputable def Nm(cl:ZQ):CS :=
 (ZV (ZF (ZU WD (ZU Zu (ZY 1) (ZU Zu (ZY 0) (ZW (.int 2)))) (ZU Zu (ZY 0) (ZW (.int 3)))))
  ZH)
def Rc(cl:Nat->ZQ):Prop:=∀n,cl (n+1) "is_shut"=ZC 2 2 (Nm (cl n))
noncomputable def Nl(cl:ZQ):CS :=
 (ZV (X9 (Y5 (ZU WM (ZU (YG Z5) (ZU Zu (ZY 4) (ZW (.int 0))) (ZY 2)) (ZU (YG Z5) (ZU Zu (ZY 4) (ZW (.int 1))) (ZY 2)))) (ZV (ZI (ZW (.bl Z7)) (gS (ZY 2) (ZU Zu (ZY 4) (ZW (.int 0)))))
  (ZV (ZI (ZW (.bl Z7)) (gS (ZY 2) (ZU Zu (ZY 4) (ZW (.int 1)))))
  (ZV (ZI (ZW (.bl Z7)) (gN 3))
  ZH))) ZH)
  ZH)
noncomputable def Nk(cl:ZQ):CS :=
 (ZV (ZI (ZW (.bl Z5)) (gN 3))
  (ZV (Zk (Zy (ZY 1)) (gN 4) (Nl cl))
  ZH))
noncomputable def Nj(cl:ZQ):CS :=
 (ZV (ZI (NL (ZY 0) (ZW (.bl Z7))) (gN 2))
  (ZV (ZI (ZW (.bl Z7)) (gN 3))
  (ZV (Ws Vw (YZ (ZY 3)) (Nk cl))
  (ZV (ZF (ZY 2))
  ZH))))
def So(cl:Nat->ZQ):Prop:=∀n,cl (n+1) "places_from"=ZC 2 5 (Nj (cl n))
noncomputable def Ni(cl:ZQ):CS :=
 (ZV (ZF (ZU (YG Z5) (ZW (.int 1)) (ZS (cl "places_from") (ZP [(ZW (.int 0)),(ZY 0)]))))
  ZH)
def PX(cl:Nat->ZQ):Prop:=∀n,cl (n+1) "joins"=ZC 1 1 (Ni (cl n))
noncomputable def JP(cl:ZQ):CT :=
 (YZ (ZS (cl "is_shut") (ZP [(ZY 0),(ZY 1)])))
noncomputable def JO(cl:ZQ):C :=
 (ZY 0)
noncomputable def Nh(cl:ZQ):CS :=
 (ZV (ZF (Yv (Zy (ZU Zu (ZY 0) (ZW (.int 2)))) 1 [1] .one (JP cl) (JO cl)))
  ZH)
def PV(cl:Nat->ZQ):Prop:=∀n,cl (n+1) "shut_contacts"=ZC 2 2 (Nh (cl n))
noncomputable def Ng(cl:ZQ):CS :=
 (ZV (ZF (ZS (cl "joins") (ZP [(ZS (cl "shut_contacts") (ZP [(ZY 0),(ZY 1)]))])))
  ZH)
def Nf(cl:Nat->ZQ):Prop:=∀n,cl (n+1) "lets"=ZC 2 2 (Ng (cl n))
noncomputable def JN(cl:ZQ):C :=
 (RD (YZ (ZS (cl "lets") (ZP [(ZY 1),(ZY 0)]))) (ZW (.int 1)) (ZW (.int 0)))
noncomputable def Nd(cl:ZQ):CS :=
 (ZV (ZF (ZS W7 (ZP [(Yv (Zy (ZS (cl "settings") (ZP [(ZU Zu (ZY 0) (ZW (.int 0)))]))) 1 [0] .one (λ_=>ret Z7) (JN cl))])))
  ZH)
def JM(cl:Nat->ZQ):Prop:=∀n,cl (n+1) "function_of"=ZC 1 1 (Nd (cl n))
noncomputable def PU(cl:ZQ):CS :=
 (ZV (ZF (ZU (Zq λi j=>i - j) (NY "int" Qg (ZS Zr (ZP [(ZY 0)]))) (ZW (.int 1))))
  ZH)
def JL(cl:Nat->ZQ):Prop:=∀n,cl (n+1) "switches_of"=ZC 1 1 (PU (cl n))
noncomputable def Ey(cl:ZQ):C :=
 (ZU (Zq jI) (ZY 0) (ZY 1))
noncomputable def JK(cl:ZQ):CS :=
 (ZV (ZF (ZS W7 (ZP [(Yv (TQ (ZP [(ZY 0),(ZY 1)])) 2 [] (.many 2) (λ_=>ret Z7) (Ey cl))])))
  ZH)
def JI(cl:Nat->ZQ):Prop:=∀n,cl (n+1) "where_both"=ZC 2 2 (JK (cl n))
noncomputable def Ew(cl:ZQ):C :=
 (ZU (Zq vC) (ZY 0) (ZY 1))
noncomputable def JH(cl:ZQ):CS :=
 (ZV (ZF (ZS W7 (ZP [(Yv (TQ (ZP [(ZY 0),(ZY 1)])) 2 [] (.many 2) (λ_=>ret Z7) (Ew cl))])))
  ZH)
def JG(cl:Nat->ZQ):Prop:=∀n,cl (n+1) "where_either"=ZC 2 2 (JH (cl n))
noncomputable def Nc(cl:ZQ):CS :=
 (ZV (ZF (Y2 (ZP [(ZY 0),(ZW (.int 2)),(Y2 (ZP [(Y2 (ZP [(ZW (.int 0)),(ZW (.int 1)),(ZU Zu (ZY 1) (ZW (.int 1))),(ZU Zu (ZY 1) (ZW (.int 2)))]))]))])))
  ZH)
def JF(cl:Nat->ZQ):Prop:=∀n,cl (n+1) "lone_net"=ZC 2 2 (Nc (cl n))
noncomputable def PR(cl:ZQ):CS :=
 (ZV (ZI (ZS (cl "tree_function") (ZP [(ZY 0),(ZY 3)])) (gN 4))
  (ZV (ZI (RD (Y5 (ZU WD (ZU Zu (ZY 1) (ZW (.int 0))) (ZW (.str (Str.ofString "row"))))) (ZS (cl "where_both") (ZP [(ZY 2),(ZY 4)])) (ZS (cl "where_either") (ZP [(ZY 2),(ZY 4)]))) (gN 2))
  ZH))
noncomputable def Sm(cl:ZQ):CS :=
 (ZV (X9 (Y5 (ZU WD (ZU Zu (ZY 1) (ZW (.int 0))) (ZW (.str (Str.ofString "at"))))) (ZV (ZF (ZS (cl "function_of") (ZP [(ZS (cl "lone_net") (ZP [(ZY 0),(ZY 1)]))])))
  ZH) ZH)
  (ZV (ZI (ZS (cl "tree_function") (ZP [(ZY 0),(ZU Zu (ZU Zu (ZY 1) (ZW (.int 1))) (ZW (.int 0)))])) (gN 2))
  (ZV (Zk (Zy (Ql Vo (ZU Zu (ZY 1) (ZW (.int 1))) (SN (ZW (.int 1))) SQ)) (gN 3) (PR cl))
  (ZV (ZF (ZY 2))
  ZH))))
def Eu(cl:Nat->ZQ):Prop:=∀n,cl (n+1) "tree_function"=ZC 2 5 (Sm (cl n))
noncomputable def PQ(cl:ZQ):CS :=
 (ZV (ZI (ZU YY (ZU XC (ZY 1) (ZW (.int 2))) (ZY 2)) (gN 1))
  ZH)
noncomputable def PP(cl:ZQ):CS :=
 (ZV (ZI (ZW (.int 0)) (gN 1))
  (ZV (Zk (Zy (ZY 0)) (gN 2) (PQ cl))
  (ZV (ZF (ZY 1))
  ZH)))
def Rb(cl:Nat->ZQ):Prop:=∀n,cl (n+1) "number_of"=ZC 1 3 (PP (cl n))
noncomputable def PN(cl:ZQ):C :=
 (ZU (Zq jI) (ZU VD (ZY 1) (ZU (Zq λi j=>i - j) (ZU (Zq λi j=>i - j) (ZY 2) (ZW (.int 1))) (ZY 0))) (ZW (.int 1)))
noncomputable def PM(cl:ZQ):CS :=
 (ZV (ZF (ZS W7 (ZP [(Yv (WA (ZP [(ZY 1)])) 1 [0,1] .one (λ_=>ret Z7) (PN cl))])))
  ZH)
def JE(cl:Nat->ZQ):Prop:=∀n,cl (n+1) "function_with"=ZC 2 2 (PM (cl n))
noncomputable def PL(cl:ZQ):CS :=
 (ZV (ZI (Y2 (ZP [(ZW (.str (Str.ofString "at"))),(ZY 2),(ZY 3)])) (gN 4))
  (ZV (ZI (ZY 4) (gS (ZY 1) (ZS (cl "number_of") (ZP [(ZS (cl "tree_function") (ZP [(ZY 0),(ZY 4)]))]))))
  ZH))
noncomputable def Nb(cl:ZQ):CS :=
 (ZV (Zk (Zy (Y2 (ZP [(ZW (.int 0)),(ZW (.int 1))]))) (gN 3) (PL cl))
  ZH)
noncomputable def PK(cl:ZQ):CS :=
 (ZV (ZI SC (gN 1))
  (ZV (Zk (WA (ZP [(ZY 0)])) (gN 2) (Nb cl))
  (ZV (ZF (ZY 1))
  ZH)))
def JD(cl:Nat->ZQ):Prop:=∀n,cl (n+1) "first_level"=ZC 1 5 (PK (cl n))
noncomputable def Ra(cl:ZQ):CS :=
 (ZV (X9 (RB (Y5 (ZU (YG Z7) (ZY 7) (ZY 3))) (Y5 (ZU (YG Z7) (ZY 7) (ZY 0)))) (ZV (ZI (Y2 (ZP [(ZY 6),(Y2 (ZP [(ZU Zu (ZY 1) (ZY 4)),(ZU Zu (ZY 2) (ZY 5))]))])) (gS (ZY 0) (ZY 7)))
  ZH) ZH)
  ZH)
noncomputable def JC(cl:ZQ):CS :=
 (ZV (Zk (Zy (Y2 (ZP [(Y2 (ZP [(ZW (.str (Str.ofString "row"))),(ZU (Zq jI) (ZY 4) (ZY 5))])),(Y2 (ZP [(ZW (.str (Str.ofString "side"))),(ZU (Zq vC) (ZY 4) (ZY 5))]))]))) (gT [(gN 6),(gN 7)]) (Ra cl))
  ZH)
noncomputable def JB(cl:ZQ):CS :=
 (ZV (Zk (Zy (ZY 2)) (gN 5) (JC cl))
  ZH)
noncomputable def PJ(cl:ZQ):CS :=
 (ZV (Zk (Zy (ZY 1)) (gN 4) (JB cl))
  ZH)
def Sl(cl:Nat->ZQ):Prop:=∀n,cl (n+1) "add_made"=ZC 4 8 (PJ (cl n))
noncomputable def PH(cl:ZQ):CS :=
 (ZV (WK (ZS (cl "add_made") (ZP [(ZY 3),(ZU Zu (ZY 0) (ZY 4)),(ZU Zu (ZY 0) (ZU (Zq λi j=>i - j) (ZU (Zq λi j=>i - j) (ZS Zr (ZP [(ZY 0)])) (ZW (.int 1))) (ZY 4))),(ZY 1)])))
  ZH)
noncomputable def PF(cl:ZQ):CS :=
 (ZV (WK (Wt "dict" W6 (ZY 1) (ZP [(ZY 2)])))
  ZH)
noncomputable def PD(cl:ZQ):CS :=
 (ZV (ZI SC (gN 1))
  (ZV (Zk (Zy (ZY 0)) (gN 2) (PF cl))
  (ZV (ZI SC (gN 3))
  (ZV (Zk (WA (ZP [(ZU WW (ZU YY (ZS Zr (ZP [(ZY 0)])) (ZW (.int 1))) (ZW (.int 2)))])) (gN 4) (PH cl))
  (ZV (ZF (ZY 3))
  ZH)))))
def PC(cl:Nat->ZQ):Prop:=∀n,cl (n+1) "further_level"=ZC 1 5 (PD (cl n))
noncomputable def Q9(cl:ZQ):CS :=
 (ZV (WK (Wt "list" (X3 XU) (ZY 2) (ZP [(ZS (cl "further_level") (ZP [(ZY 2)]))])))
  ZH)
noncomputable def Sk(cl:ZQ):CS :=
 (ZV (ZI (ZS (cl "switches_of") (ZP [(ZY 0)])) (gN 1))
  (ZV (X9 (Y5 (ZU (Yq λi j=>decide (j<i)) (ZY 1) (ZW (.int 3)))) (ZV (Rx "TooMany")
  ZH) ZH)
  (ZV (ZI (YN (ZP [(ZS (cl "first_level") (ZP [(ZY 1)]))])) (gN 2))
  (ZV (Ws Vw (Y5 (ZU (YG Z7) (ZS (cl "number_of") (ZP [(ZY 0)])) (ZU Zu (ZY 2) (Xj Xs (ZW (.int 1)))))) (Q9 cl))
  (ZV (ZF (ZY 2))
  ZH)))))
def Et(cl:Nat->ZQ):Prop:=∀n,cl (n+1) "levels_to"=ZC 1 3 (Sk (cl n))
noncomputable def Na(cl:ZQ):C :=
 (ZS (cl "function_with") (ZP [(ZY 0),(ZS Zr (ZP [(ZY 1)]))]))
noncomputable def Tx(cl:ZQ):CS :=
 (ZV (ZI (ZS WC (ZP [(ZU YY (ZY 1) (ZS TV (ZP [(ZY 3)])))])) (gN 1))
  (ZV (WK (Wt "list" (X3 XU) (ZY 2) (ZP [(Yv (Zy (ZY 1)) 1 [0] .one (λ_=>ret Z7) (Na cl))])))
  ZH))
noncomputable def Sj(cl:ZQ):CS :=
 (ZV (ZI (YN (ZP [])) (gN 1))
  (ZV (ZI (YN (ZP [])) (gN 2))
  (ZV (Up (V4 (Xz (cl "levels_to") (ZP [(ZY 0)])) SQ (SN (Xj Xs (ZW (.int 1))))) (gN 3) (Tx cl))
  (ZV (ZF (ZS W7 (ZP [(ZY 2)])))
  ZH))))
def pT(cl:Nat->ZQ):Prop:=∀n,cl (n+1) "paper_of"=ZC 1 4 (Sj (cl n))
noncomputable def PB(cl:ZQ):CS :=
 (ZV (ZI (ZU XC (ZY 1) (ZW (.int 2))) (gN 1))
  ZH)
noncomputable def Pz(cl:ZQ):CS :=
 (ZV (ZI (ZW (.int 1)) (gN 1))
  (ZV (Zk (Zy (ZS (cl "settings") (ZP [(ZY 0)]))) (gN 2) (PB cl))
  (ZV (ZF (ZY 1))
  ZH)))
def Es(cl:Nat->ZQ):Prop:=∀n,cl (n+1) "how_many_functions"=ZC 1 3 (Pz (cl n))
noncomputable def M9(cl:ZQ):C :=
 (ZS Zr (ZP [(ZY 0)]))
noncomputable def Py(cl:ZQ):C :=
 (ZS Zr (ZP [(ZY 0)]))
noncomputable def Px(cl:ZQ):CS :=
 (ZV (WK (Wt "list" (X3 XU) (ZY 1) (ZP [(ZS (cl "further_level") (ZP [(ZY 1)]))])))
  ZH)
noncomputable def Pw(cl:ZQ):CS :=
 (ZV (ZI (YN (ZP [(ZS (cl "first_level") (ZP [(ZY 0)]))])) (gN 1))
  (ZV (Ws Vw (Y5 (ZU VW (ZS WV (ZP [(Yv (Zy (ZY 1)) 1 [] .one (λ_=>ret Z7) (Py cl))])) (ZS (cl "how_many_functions") (ZP [(ZY 0)])))) (Px cl))
  (ZV (ZF (Yv (Zy (ZY 1)) 1 [] .one (λ_=>ret Z7) (M9 cl)))
  ZH)))
def pS(cl:Nat->ZQ):Prop:=∀n,cl (n+1) "fewest_many"=ZC 1 2 (Pw (cl n))
noncomputable def Pv(cl:ZQ):CS :=
 (ZV (X9 (Y5 (ZU VW (ZY 1) (ZS Zr (ZP [(ZY 0)])))) (ZV (ZF (ZU Zu (ZY 0) (ZY 1)))
  ZH) ZH)
  (ZV (ZF (ZW (.int 0)))
  ZH))
def JA(cl:Nat->ZQ):Prop:=∀n,cl (n+1) "_law_cell_at"=ZC 2 2 (Pv (cl n))
noncomputable def Pu(cl:ZQ):CS :=
 (ZV (ZI (ZS (cl "_law_cell_at") (ZP [(ZY 0),(ZY 1)])) (gN 2))
  (ZV (X9 (Y5 (ZU (Yq λi j=>decide (j<=i)) (ZY 2) (ZU VE (ZW (.int 10)) (ZW (.int 18))))) (ZV (ZF (YN (ZP [(ZU (Zq λi j=>i - j) (ZY 2) (ZU VE (ZW (.int 10)) (ZW (.int 18)))),(ZW (.bl Z7))])))
  ZH) ZH)
  (ZV (ZF (YN (ZP [(ZU W8 (ZY 2) (ZW (.int 2147483647))),(ZW (.bl Z5))])))
  ZH)))
def Er(cl:Nat->ZQ):Prop:=∀n,cl (n+1) "_law_state"=ZC 2 3 (Pu (cl n))
noncomputable def Pt(cl:ZQ):CS :=
 (ZV (X9 (YZ (ZU Zu (ZY 0) (ZW (.int 1)))) (ZV (ZI (ZU W8 (ZU Zu (ZY 0) (ZW (.int 0))) (ZY 1)) (gN 2))
  (ZV (ZI (ZU WW (ZU Zu (ZY 0) (ZW (.int 0))) (ZY 1)) (gS (ZY 0) (ZW (.int 0))))
  (ZV (ZF (ZY 2))
  ZH))) ZH)
  (ZV (ZI (ZU W8 (ZU YY (ZU XC (ZU Zu (ZY 0) (ZW (.int 0))) (ZW (.int 48271))) (ZW (.int 29))) (ZW (.int 2147483647))) (gS (ZY 0) (ZW (.int 0))))
  (ZV (ZI (ZU W8 (ZU YY (ZU YY (ZU XC (ZU Zu (ZY 0) (ZW (.int 0))) (ZU Zu (ZY 0) (ZW (.int 0)))) (ZU XC (ZW (.int 39373)) (ZU Zu (ZY 0) (ZW (.int 0))))) (ZW (.int 7))) (ZW (.int 2147483629))) (gN 3))
  (ZV (ZI (ZU W8 (ZU YY (ZU XC (ZY 3) (ZY 3)) (ZU XC (ZW (.int 16807)) (ZY 3))) (ZW (.int 2147483587))) (gN 3))
  (ZV (ZF (ZU W8 (ZU WW (ZY 3) (ZW (.int 8))) (ZY 1)))
  ZH)))))
def Jz(cl:Nat->ZQ):Prop:=∀n,cl (n+1) "_law_take"=ZC 2 4 (Pt (cl n))
noncomputable def Jy(cl:ZQ):C :=
 (ZU (Zq jI) (ZU VD (ZY 1) (ZU (Zq λi j=>i - j) (ZU (Zq λi j=>i - j) (ZY 2) (ZW (.int 1))) (ZY 0))) (ZW (.int 1)))
noncomputable def Jx(cl:ZQ):CS :=
 (ZV (WK (Wt "list" (X3 XU) (ZY 1) (ZP [(ZS W7 (ZP [(Yv (WA (ZP [(ZY 0)])) 1 [2,0] .one (λ_=>ret Z7) (Jy cl))]))])))
  ZH)
noncomputable def M8(cl:ZQ):CS :=
 (ZV (ZI (YN (ZP [])) (gN 1))
  (ZV (Zk (WA (ZP [(ZU Yr (ZW (.int 1)) (ZY 0))])) (gN 2) (Jx cl))
  (ZV (ZF (ZY 1))
  ZH)))
def M7(cl:Nat->ZQ):Prop:=∀n,cl (n+1) "_law_settings"=ZC 1 3 (M8 (cl n))
noncomputable def Pr(cl:ZQ):C :=
 (ZS VC (ZP [(ZU WD (ZU Zu (ZY 0) (ZY 1)) (ZY 2))]))
noncomputable def Pq(cl:ZQ):CS :=
 (ZV (WK (Wt "list" (X3 XU) (ZY 1) (ZP [(ZS W7 (ZP [(Yv (Zy (ZS (cl "_law_settings") (ZP [(ZY 0)]))) 1 [2,3] .one (λ_=>ret Z7) (Pr cl))]))])))
  ZH)
noncomputable def M6(cl:ZQ):CS :=
 (ZV (Zk (Zy (Y2 (ZP [(ZW (.int 0)),(ZW (.int 1))]))) (gN 3) (Pq cl))
  ZH)
noncomputable def Pp(cl:ZQ):CS :=
 (ZV (ZI (YN (ZP [])) (gN 1))
  (ZV (Zk (WA (ZP [(ZY 0)])) (gN 2) (M6 cl))
  (ZV (ZF (ZY 1))
  ZH)))
def Ep(cl:Nat->ZQ):Prop:=∀n,cl (n+1) "_law_singles"=ZC 1 4 (Pp (cl n))
noncomputable def M5(cl:ZQ):CS :=
 (ZV (ZI (ZU YY (ZU XC (ZW (.int 2)) (ZY 1)) (ZY 2)) (gN 1))
  ZH)
noncomputable def Po(cl:ZQ):CS :=
 (ZV (ZI (ZW (.int 0)) (gN 1))
  (ZV (Zk (Zy (ZY 0)) (gN 2) (M5 cl))
  (ZV (ZF (ZY 1))
  ZH)))
def M4(cl:Nat->ZQ):Prop:=∀n,cl (n+1) "_law_number_of"=ZC 1 3 (Po (cl n))
noncomputable def Si(cl:ZQ):CS :=
 (ZV (X9 (Y5 (ZU (YG Z7) (ZY 8) (ZY 2))) (ZV (ZI (ZY 3) (gS (ZY 4) (ZY 8)))
  ZH) ZH)
  ZH)
noncomputable def Pn(cl:ZQ):CS :=
 (ZV (Zk (Zy (Y2 (ZP [(ZU (Zq jI) (ZY 6) (ZY 7)),(ZU (Zq vC) (ZY 6) (ZY 7))]))) (gN 8) (Si cl))
  ZH)
noncomputable def M3(cl:ZQ):CS :=
 (ZV (Zk (Zy (ZU Zu (ZY 1) (ZU (Zq λi j=>i - j) (ZU (Zq λi j=>i - j) (ZY 3) (ZY 5)) (ZW (.int 1))))) (gN 7) (Pn cl))
  ZH)
noncomputable def Pm(cl:ZQ):CS :=
 (ZV (Zk (Zy (ZU Zu (ZY 1) (ZU (Zq λi j=>i - j) (ZY 5) (ZW (.int 1))))) (gN 6) (M3 cl))
  ZH)
noncomputable def Pl(cl:ZQ):CS :=
 (ZV (ZI (ZU YY (ZS Zr (ZP [(ZY 1)])) (ZW (.int 1))) (gN 3))
  (ZV (ZI SC (gN 4))
  (ZV (Zk (NV (ZP [(ZW (.int 1)),(ZU YY (ZU WW (ZY 3) (ZW (.int 2))) (ZW (.int 1)))])) (gN 5) (Pm cl))
  (ZV (WK (Wt "dict" W6 (ZY 2) (ZP [(ZY 4)])))
  (ZV (WK (Wt "list" (X3 XU) (ZY 1) (ZP [(ZS WC (ZP [(ZY 4)]))])))
  ZH)))))
noncomputable def M2(cl:ZQ):C :=
 (Y2 (ZP [(ZY 0),(ZW (.int 1))]))
noncomputable def M1(cl:ZQ):C :=
 (ZS (cl "_law_number_of") (ZP [(ZY 0)]))
noncomputable def Pk(cl:ZQ):CS :=
 (ZV (ZI (YN (ZP [(ZS WC (ZP [(Yv (Zy (ZS (cl "_law_singles") (ZP [(ZY 0)]))) 1 [] .one (λ_=>ret Z7) (M1 cl))]))])) (gN 1))
  (ZV (ZI (ZS Vc (ZP [(Yv (Zy (ZU Zu (ZY 1) (ZW (.int 0)))) 1 [] .one (λ_=>ret Z7) (M2 cl))])) (gN 2))
  (ZV (Ws Vw (Y5 (ZU VW (ZS Zr (ZP [(ZY 2)])) (ZU Yr (ZW (.int 1)) (ZU Yr (ZW (.int 1)) (ZY 0))))) (Pl cl))
  (ZV (ZF (ZY 1))
  ZH))))
def pR(cl:Nat->ZQ):Prop:=∀n,cl (n+1) "_law_levels"=ZC 1 9 (Pk (cl n))
noncomputable def Pj(cl:ZQ):CT :=
 (Y5 (ZU (YG Z5) (ZY 2) (ZY 1)))
noncomputable def Pi(cl:ZQ):C :=
 (ZY 0)
noncomputable def Ph(cl:ZQ):CS :=
 (ZV (ZI (ZS (cl "_law_number_of") (ZP [(ZY 1)])) (gN 2))
  (ZV (ZF (ZU YY (ZU Zu (Yv (Qe (ZP [(ZY 0)])) 2 [2] (.many 2) (Pj cl) (Pi cl)) (ZW (.int 0))) (ZW (.int 1))))
  ZH))
def Eo(cl:Nat->ZQ):Prop:=∀n,cl (n+1) "_law_fewest"=ZC 2 3 (Ph (cl n))
noncomputable def M0(cl:ZQ):C :=
 (ZS (cl "_law_take") (ZP [(ZY 1),(ZW (.int 2))]))
noncomputable def Pg(cl:ZQ):CS :=
 (ZV (ZF (ZS W7 (ZP [(Yv (WA (ZP [(ZU Yr (ZW (.int 1)) (ZY 1))])) 1 [0] .one (λ_=>ret Z7) (M0 cl))])))
  ZH)
def En(cl:Nat->ZQ):Prop:=∀n,cl (n+1) "_law_some_function"=ZC 2 2 (Pg (cl n))
noncomputable def MZ(cl:ZQ):C :=
 (RC (ZS Yl (ZP [(ZY 0),(ZW (.ty "int"))])) (RC (N5 (ZS Yl (ZP [(ZY 0),(ZW (.ty "bool"))]))) (ZU (YG Z5) (ZY 0) (Y2 (ZP [(ZW (.int 0)),(ZW (.int 1))])))))
noncomputable def Pf(cl:ZQ):CS :=
 (ZV (X9 (Xt (VX (YZ (ZS Yl (ZP [(ZY 1),(ZW (.ty "tuple"))])))) (Y5 (ZU WM (ZS Zr (ZP [(ZY 1)])) (ZU Yr (ZW (.int 1)) (ZY 0))))) (ZV (ZF (ZW (.bl Z5)))
  ZH) ZH)
  (ZV (ZF (ZS (WL λbs=>bs.all id) (ZP [(Yv (Zy (ZY 1)) 1 [] .one (λ_=>ret Z7) (MZ cl))])))
  ZH))
def Jw(cl:Nat->ZQ):Prop:=∀n,cl (n+1) "_law_is_function"=ZC 2 2 (Pf (cl n))
noncomputable def Pe(cl:ZQ):C :=
 (ZU VW (ZY 0) (ZY 1))
noncomputable def MY(cl:ZQ):C :=
 (ZS (cl "_law_is_function") (ZP [(ZY 1),(ZY 0)]))
noncomputable def Pd(cl:ZQ):CS :=
 (ZV (X9 (Xt (VX (YZ (ZS Yl (ZP [(ZY 1),(ZW (.ty "list"))])))) (Xt (Y5 (ZU WD (ZY 1) (YN (ZP [])))) (VX (YZ (ZS (WL λbs=>bs.all id) (ZP [(Yv (Zy (ZY 1)) 1 [0] .one (λ_=>ret Z7) (MY cl))])))))) (ZV (ZF (ZW (.bl Z5)))
  ZH) ZH)
  (ZV (ZF (ZS (WL λbs=>bs.all id) (ZP [(Yv (TQ (ZP [(ZY 1),(Ql Vo (ZY 1) (SN (ZW (.int 1))) SQ)])) 2 [] (.many 2) (λ_=>ret Z7) (Pe cl))])))
  ZH))
def Em(cl:Nat->ZQ):Prop:=∀n,cl (n+1) "_law_is_list"=ZC 2 2 (Pd (cl n))
noncomputable def Pc(cl:ZQ):CS :=
 (ZV (X9 (Xt (Y5 (ZU (YG Z7) (ZU (Zq jI) (ZY 3) (ZY 4)) (ZY 0))) (Y5 (ZU (YG Z7) (ZU (Zq vC) (ZY 3) (ZY 4)) (ZY 0)))) (ZV (ZF (ZW (.bl Z5)))
  ZH) ZH)
  ZH)
noncomputable def MX(cl:ZQ):CS :=
 (ZV (Zk (Zy (ZY 2)) (gN 4) (Pc cl))
  ZH)
noncomputable def Pb(cl:ZQ):CS :=
 (ZV (Zk (Zy (ZY 1)) (gN 3) (MX cl))
  (ZV (ZF (ZW (.bl Z7)))
  ZH))
def El(cl:Nat->ZQ):Prop:=∀n,cl (n+1) "_law_has_all"=ZC 3 5 (Pb (cl n))
noncomputable def Q8(cl:ZQ):CS :=
 (ZV (X9 (VX (YZ (ZS (cl "_law_has_all") (ZP [(ZY 6),(ZU Zu (ZY 3) (ZY 7)),(ZU Zu (ZY 3) (ZU (Zq λi j=>i - j) (ZU (Zq λi j=>i - j) (ZY 5) (ZY 7)) (ZW (.int 1))))])))) (ZV (ZF (ZW (.bl Z5)))
  ZH) ZH)
  ZH)
noncomputable def Pa(cl:ZQ):C :=
 (ZU (YG Z5) (ZS (cl "_law_number_of") (ZP [(ZY 0)])) (ZY 1))
noncomputable def Sh(cl:ZQ):CS :=
 (ZV (X9 (RB (Y5 (ZU WD (ZY 5) (ZW (.int 0)))) (VX (YZ (ZS (WL λbs=>bs.all id) (ZP [(Yv (Zy (ZS (cl "_law_singles") (ZP [(ZY 0)]))) 1 [6] .one (λ_=>ret Z7) (Pa cl))]))))) (ZV (ZF (ZW (.bl Z5)))
  ZH) ZH)
  (ZV (Zk (WA (ZP [(ZU WW (ZU YY (ZY 5) (ZW (.int 1))) (ZW (.int 2)))])) (gN 7) (Q8 cl))
  ZH))
noncomputable def O9(cl:ZQ):CT :=
 (Y5 (ZU (YG Z5) (ZS (cl "_law_number_of") (ZP [(ZY 1)])) (ZY 0)))
noncomputable def Jv(cl:ZQ):C :=
 (ZY 0)
noncomputable def MW(cl:ZQ):C :=
 (Y2 (ZP [(ZY 0),(ZW (.bl Z7))]))
noncomputable def O8(cl:ZQ):C :=
 (ZS Vc (ZP [(Yv (Zy (ZY 0)) 1 [] .one (λ_=>ret Z7) (MW cl))]))
noncomputable def MV(cl:ZQ):C :=
 (ZS (cl "_law_number_of") (ZP [(ZY 0)]))
noncomputable def O7(cl:ZQ):C :=
 (Yv (Zy (ZY 0)) 1 [] .one (λ_=>ret Z7) (MV cl))
noncomputable def MU(cl:ZQ):C :=
 (ZS (cl "_law_is_list") (ZP [(ZY 1),(ZY 0)]))
noncomputable def O6(cl:ZQ):CS :=
 (ZV (X9 (Xt (VX (YZ (ZS Yl (ZP [(ZY 2),(ZW (.ty "tuple"))])))) (VX (YZ (ZS (WL λbs=>bs.all id) (ZP [(Yv (Zy (ZY 2)) 1 [0] .one (λ_=>ret Z7) (MU cl))]))))) (ZV (ZF (ZW (.bl Z5)))
  ZH) ZH)
  (ZV (ZI (Yv (Zy (ZY 2)) 1 [] .one (λ_=>ret Z7) (O7 cl)) (gN 3))
  (ZV (ZI (Yv (Zy (ZY 3)) 1 [] .one (λ_=>ret Z7) (O8 cl)) (gN 4))
  (ZV (X9 (Y5 (ZU WM (Yv (Zy (ZY 4)) 1 [1] .one (O9 cl) (Jv cl)) (YN (ZP [])))) (ZV (ZF (ZW (.bl Z5)))
  ZH) ZH)
  (ZV (Zk (Qe (ZP [(ZY 4)])) (gT [(gN 5),(gN 6)]) (Sh cl))
  (ZV (ZF (ZW (.bl Z7)))
  ZH))))))
def pQ(cl:Nat->ZQ):Prop:=∀n,cl (n+1) "_law_is_paper"=ZC 3 8 (O6 (cl n))
noncomputable def O5(cl:ZQ):C :=
 (ZS Zr (ZP [(ZY 0)]))
noncomputable def Q7(cl:ZQ):CS :=
 (ZV (ZI (ZS (cl "fewest_many") (ZP [(ZY 3)])) (gN 9))
  (ZV (X9 (Xt (VX (YZ (ZS Yl (ZP [(ZY 9),(ZW (.ty "list"))])))) (Y5 (ZU WM (ZY 9) (Yv (Zy (ZY 4)) 1 [] .one (λ_=>ret Z7) (O5 cl))))) (ZV (ZF (ZW (.bl Z5)))
  ZH) ZH)
  (ZV (WK (Wt "list" (X3 XU) (ZY 9) (ZP [(ZW (.int 0))])))
  ZH)))
noncomputable def O4(cl:ZQ):CS :=
 (ZV (WK (Wt "list" (X3 XU) (ZY 8) (ZP [(ZW .non)])))
  ZH)
noncomputable def O0(cl:ZQ):CS :=
 (ZV (ZI (ZS (cl "paper_of") (ZP [(ZY 5)])) (gN 7))
  (ZV (X9 (Xt (VX (YZ (ZS Yl (ZP [(ZY 7),(ZW (.ty "tuple"))])))) (Y5 (ZU WM (ZS Zr (ZP [(ZY 7)])) (ZU (Zq λi j=>i - j) (ZS (cl "_law_fewest") (ZP [(ZY 4),(ZY 5)])) (ZW (.int 1)))))) (ZV (ZF (ZW (.bl Z5)))
  ZH) ZH)
  (ZV (X9 (VX (YZ (ZS (cl "_law_is_paper") (ZP [(ZY 3),(ZY 5),(ZY 7)])))) (ZV (ZF (ZW (.bl Z5)))
  ZH) ZH)
  (ZV (Zk (Zy (ZY 7)) (gN 8) (O4 cl))
  ZH))))
noncomputable def OZ(cl:ZQ):CS :=
 (ZV (ZI (ZS (cl "_law_state") (ZP [(ZY 0),(ZY 1)])) (gN 2))
  (ZV (ZI (ZS Wa (ZP [(ZU Zu (YN (ZP [(ZW (.int 1)),(ZW (.int 2)),(ZW (.int 2)),(ZW (.int 3))])) (ZS (cl "_law_take") (ZP [(ZY 2),(ZW (.int 4))]))),(ZU (Zq λi j=>i - j) (ZW (.int 3)) (ZS Wa (ZP [(ZY 1),(ZW (.int 1))])))])) (gN 3))
  (ZV (ZI (ZS (cl "_law_levels") (ZP [(ZY 3)])) (gN 4))
  (ZV (ZI (ZS (cl "_law_some_function") (ZP [(ZY 2),(ZY 3)])) (gN 5))
  (ZV (X9 (Y5 (ZU (Yq λi j=>decide (j<i)) (ZS (cl "_law_fewest") (ZP [(ZY 4),(ZY 5)])) (ZW (.int 6)))) (ZV (ZI (ZU Zu (ZS (cl "_law_singles") (ZP [(ZY 3)])) (ZW (.int 0))) (gN 5))
  ZH) ZH)
  (ZV (Zk (WA (ZP [(ZU Zu (YN (ZP [(ZW (.int 0)),(ZW (.int 2)),(ZW (.int 2)),(ZW (.int 1))])) (ZY 3))])) (gN 6) (O0 cl))
  (ZV (Zk (WA (ZP [(ZU Zu (YN (ZP [(ZW (.int 0)),(ZW (.int 2)),(ZW (.int 2)),(ZW (.int 1))])) (ZY 3))])) (gN 6) (Q7 cl))
  (ZV (ZI (ZS (cl "_law_some_function") (ZP [(ZY 2),(ZW (.int 4))])) (gN 10))
  (ZV (X9 (Y5 (ZU WM (UT Zw 4 V5 [10] (Xz (cl "paper_of") (ZP [(ZY 0)]))) (YN (ZP [(ZW (.int 0))])))) (ZV (ZF (ZW (.bl Z5)))
  ZH) ZH)
  ZH)))))))))
noncomputable def OY(cl:ZQ):CS :=
 (ZV (Zk (WA (ZP [(ZS Vd (ZP [(ZW (.int 1)),(ZS Wa (ZP [(ZS Zr (ZP [(ZY 0)])),(ZW (.int 2))]))]))])) (gN 1) (OZ cl))
  (ZV (ZF (ZW (.bl Z7)))
  ZH))
def pP(cl:Nat->ZQ):Prop:=∀n,cl (n+1) "law"=ZC 1 11 (OY (cl n))
variable {cl:Nat->ZQ}
theorem pO(h:JA cl)(n:Nat)(a:yA)(k:Int)(hk:0<=k)(S:ZX):∃c,cl (n+1) "_law_cell_at" [.rol (a.map D.int),.int k] S=.ok (.int c) S:=by
 by_cases b:k<a.length
 .refine⟨a[k.toNat]'(by omega),?_⟩;have e:=by have q:=Vq (xs:=a.map D.int) (j:=k.toNat) (by rw[qB2,qA6 (by omega)];rfl);rw[show(k.toNat:Int)=k by omega]at q;exact q
  rw[h];refine YC rfl ?_;simp[Pv,XB,b,e]
 .refine⟨0,?_⟩;rw[h];refine YC rfl ?_;simp[Pv,XB,b]
def XM(S:ZX)(i:Nat):Prop:=∃s b,ZL S i=Z9 [.int s,.bl b]/\(b=Z5->0<=s/\s<2147483647)
theorem XM.lt{S:ZX}{i:Nat}(h:XM S i):i<S.length:=by obtain⟨s,b,e,_⟩:=h;exact US e
theorem XM.ex{S a:ZX}{i:Nat}(h:XM S i)(e:Ex S a):XM a i:=by obtain⟨s,b,q,r⟩:=h;exact⟨s,b,e.lst q (λz=>z),r⟩
theorem pN(h:Er cl)(f:JA cl)(n:Nat)(d:yA)(k:Int)(hk:0<=k)(S:ZX):∃a,cl (n+2) "_law_state" [.rol (d.map D.int),.int k] S=.ok (.lst S.length) a/\Ex S a/\XM a S.length:=by
 obtain⟨c,e⟩:=pO f n d k hk S;rw[show n+2=(n+1)+1 from rfl,h];by_cases b:1000000000000000000<=c
 .refine⟨S++[.lst [.int (c - 1000000000000000000),.bl Z7]],YC rfl ?_,Zh _ _,_,_,Y7 _ _,λz=>by cases z⟩;simp[Pu,XB,e,b]
 .refine⟨S++[.lst [.int (c % 2147483647),.bl Z5]],YC rfl ?_,Zh _ _,_,_,Y7 _ _,λ_=>⟨qM6 _ (by decide),qK3 _ (by decide)⟩⟩;simp[Pu,XB,e,b]
theorem OX{i j:Int}(a:-18446744073709551616<j)(b:j<18446744073709551616):Wc i j=Z7:=by unfold Wc;simp[a,b]
@[simp]theorem bL:Wn 2 0=Z9 0:=rfl
inductive pM(c:ZQ)(S:ZX)(i:Nat)(m:Int):Prop
 |mk (r:Int) (S1:ZX) (e:c "_law_take" [.lst i,.int m] S=.ok (.int r) S1) (a:0<=r) (b:r<m) (k:Kp (·=i) S S1) (l:S1.length=S.length) (st:XM S1 i)
theorem Ek(h:Jz cl)(n:Nat){S:ZX}{i:Nat}(e:XM S i){m:Int}(c:0<m)(g:m<1073741824):pM (cl (n+1)) S i m:=by
 obtain⟨s,b,a,r⟩:=e;have d:=VS a;cases b with
 |true =>
  refine⟨s % m,S.set i (.lst [.int (s / m),.bl Z7]),?_,qM6 _ (by omega),qK3 _ c,WJ _ _,by simp,⟨_,_,UR a,λz=>by cases z⟩⟩;rw[h];refine YC rfl ?_;simp[Pt,XB,d,c,g,EK a]
 |false =>
  generalize hz:(s*48271+29) % 2147483647=z;have j:0<=z:=by rw[<- hz];exact qM6 _ (by decide)
  have f:z<2147483647:=by rw[<- hz];exact qK3 _ (by decide)
  generalize hy:(z*z+39373*z+7) % 2147483629=y;generalize hx:(y*y+16807*y) % 2147483587=x;refine⟨x / 8 % m,S.set i (.lst [.int z,.bl Z5]),?_,qM6 _ (by omega),qK3 _ c,WJ _ _,by simp,⟨_,_,UR a,λ_=>⟨j,f⟩⟩⟩;rw[h];refine YC rfl ?_;have k:=VS (UR (ys:=[.int z,.bl Z5]) a);have l:Wc s 48271=Z7:=OX (by decide) (by decide);have k2:Wc z z=Z7:=OX (by omega) (by omega);have q:Wc 39373 z=Z7:=OX (by omega) (by omega);have o:Wc y y=Z7:=OX (by omega) (by omega);have p:Wc 16807 y=Z7:=OX (by omega) (by omega);simp[Pt,XB,d,EK a,l,hz,k,k2,q,hy,o,p,hx,c]
structure Ct where
 a:Int
 b:Int
 k:Int
 o:Int
 deriving DecidableEq
abbrev yN:=List Ct
noncomputable def Ct.d(c:Ct):D:=.tup [.int c.a,.int c.b,.int c.k,.int c.o]
def Ct.ok(sw a:Int)(c:Ct):Prop:=0<=c.a/\c.a<c.b/\c.b<a/\0<=c.k/\c.k<sw/\0<=c.o/\c.o<2
structure XJ where
 sw:Int
 pl:Int
 cs:yN
noncomputable def XJ.d(n:XJ):D:=.tup [.int n.sw,.int n.pl,.tup (n.cs.map Ct.d)]
structure XJ.ok(ms mp mc:Int)(n:XJ):Prop where
 s1:1<=n.sw
 s2:n.sw<=ms
 p1:2<=n.pl
 p2:n.pl<=mp
 c1:(n.cs.length:Int)<=mc
 c2:∀c∈n.cs,c.ok n.sw n.pl
theorem Ju{S:ZX}{n m:Nat}{xs ys:List D}(a:ZL S n=Z9 xs)(b:ZL S m=Z9 ys)(h:xs.length+ys.length<=lim):YY (.lst n) (.lst m) S=.ok (.lst S.length) (S++[.lst (xs++ys)]):=by show(match S[n]?,S[m]? with|some (O.lst xs),Z9 (O.lst ys)=>(if xs.length+ys.length<=lim then R.ok (D.lst S.length) (S++[O.lst (xs++ys)])else .bad)| _,_=>.bad)=_;rw[U8 a,U8 b];dsimp only;rw[if_pos h]
theorem Ej(lo:Int)(n:Nat):(Zc lo n).length=n:=by unfold Zc;simp
theorem YB:lim=1048576:=rfl
theorem _root_.L2.Kp.setNew{P:Nat->Prop}{a S:ZX}{l:Nat}{o:O}(h:Kp P a S)(c:a.length<=l):Kp P a (S.set l o) :=
 ⟨by rw[qG5];exact h.le,λj b n=>by rw[qD5 (by omega)];exact h.eq j b n⟩
@[simp]theorem Q6{lo:Int}{n i:Nat}{d:D}:(Zc lo n)[i]?=Z9 d↔i<n/\d=.int (lo+i):=by
 unfold Zc;rw[qB2];by_cases h:i<n
 .rw[qG4 h];simp[h,eq_comm]
 .simp[h]
noncomputable def nE(i:Nat)(h j g sw k:Int)(l:Nat)(a b c d e f:Option D):ZT:=[Z9 (.lst i),Z9 (.int h),Z9 (.int j),Z9 (.int g),Z9 (.int sw),Z9 (.int k),Z9 (.lst l),a,b,c,d,e,f]
end My
namespace Mt
def OW(es:List (Int×Int)):Prop:=∀C:Int->Prop,C 0->(∀e∈es,(C e.1↔C e.2))->C 1
structure MT(es:List (Int×Int))(s:Int)(F:Int->Prop):Prop where
 start:F s
 closed:∀e∈es,(F e.1↔F e.2)
 least:∀C:Int->Prop,C s->(∀e∈es,(C e.1↔C e.2))->∀x,F x->C x
theorem MT.joined{es:List (Int×Int)}{F:Int->Prop}(h:MT es 0 F):F 1↔OW es:=⟨λf C a b=>h.least C a b 1 f,λj=>j F h.start h.closed⟩
theorem pL{α:Type}{p q:α->Bool}{l:List α}(h:∀x,p x=Z7->q x=Z7){a:α}(d:a∈l)(g:q a=Z7)(f:p a=Z5):(l.filter p).length<(l.filter q).length:=by
 induction l with
 |nil=>cases d
 |cons x r b =>
  have i:(r.filter p).length<=(r.filter q).length:=by
   clear b d
   induction r with
   |nil=>simp
   |cons y r b =>
    rw[qG8,qG8];cases c:p y with
    |true=>rw[h y c];simpa using b
    |false =>
     cases q y with
     |true=>simp;omega
     |false=>simpa using b
  rw[qG8,qG8];rcases qA9.mp d with e|e
  .subst e;rw[g,f];simp;omega
  .have:=b e;cases c:p x with
   |true=>rw[h x c];simpa using this
   |false =>
    cases q x with
    |true=>simp;omega
    |false=>simpa using this
def ZZ(a:yA)(x:Int):Prop:=0<=x/\a[x.toNat]?=Z9 0
end Mt
namespace My
open PySem L2 Mt
variable {cl:Nat->ZQ}
noncomputable def Zb(st:yA):D:=.tup (st.map D.int)
noncomputable def Ul(c:Ct)(st:yA):Bool:=decide (st.getD c.k.toNat 0=c.o)
theorem Ei{l:yA}{k:Int}(a:0<=k)(b:k<l.length):XW (l.map D.int) k=Z9 (.int (l.getD k.toNat 0)):=by
 have e:l[k.toNat]?=Z9 (l.getD k.toNat 0):=by rw[qF4,qA6 (by omega)];rfl
 have q:=Vq (xs:=l.map D.int) (by rw[qB2,e];rfl);rw[show(k.toNat:Int)=k by omega]at q;exact q
theorem pK(h:Rc cl)(n:Nat)(c:Ct)(st:yA)(a:0<=c.k)(b:c.k<st.length)(S:ZX):cl (n+1) "is_shut" [c.d,Zb st] S=.ok (.bl (Ul c st)) S:=by rw[h];refine YC rfl ?_;simp[Nm,XB,Ct.d,Zb,Ei a b,Ul]
theorem Eh:(1000:Nat)<lim:=by decide
noncomputable def W4(a:yN):List (Int×Int):=a.map λc=>(c.a,c.b)
noncomputable def Xn(a:Nat)(fs:yA):Nat:=((List.range a).filter fun(v:Nat)=>decide ((v:Int)∈fs)).length
theorem Jt(BB:Nat)(fs:yA):Xn BB fs<=BB:=by unfold Xn;have:=qJ6 (fun(v:Nat)=>decide ((v:Int)∈fs)) (List.range BB);simpa using this
theorem Eg{b:Nat}{fs gs:yA}(h:∀x,x∈fs->x∈gs){x:Int}(d:x∈gs)(e:x∉fs)(f:0<=x)(g:x<b):Xn b fs<Xn b gs:=by
 refine pL (a:=x.toNat) (λv c=>?_) ?_ ?_ ?_
 .simp only[decide_eq_true_eq]at c ⊢;exact h _ c
 .rw[qE0];omega
 .simp only[decide_eq_true_eq];rw[show(x.toNat:Int)=x by omega];exact d
 .simp only[decide_eq_false_iff_not];rw[show(x.toNat:Int)=x by omega];exact e
theorem Js(fs:yA)(a:Int):(YW fs a).length<=fs.length+1:=by unfold YW;split<;>simp
noncomputable def pE(s:Int)(k l:Nat)(g:Bool)(v:Option D):ZT:=[Z9 (.int s),Z9 (.lst k),Z9 (.dct l),Z9 (.bl g),v]
def Jr(a:yN)(s:Int)(fs:yA):Prop:=∀C:Int->Prop,C s->(∀e∈W4 a,(C e.1↔C e.2))->∀x∈fs,C x
inductive pJ(cs:yN)(s:Int)(k:Nat)(S:ZX)(m:Nat)(B:ZT)(S':ZX):Prop
 |mk (fs:yA) (g:Bool) (v4:Option D) (e:B=pE s k S.length g v4) (kp:Kp (·=S.length) (S++[.dk (Ze [s])]) S') (hf:S'[S.length]?=Z9 (.dk (Ze fs))) (r1:s∈fs) (r2:Jr cs s fs) (r3:g=Z5->∀e∈W4 cs,(e.1∈fs↔e.2∈fs)) (r4:g=Z7->m+Xn 7 fs=9) (r5:fs.length+200*m<=2000) (nd:fs.Nodup)
inductive pI(cs:yN)(s:Int)(k:Nat)(S:ZX)(B:ZT)(S':ZX):Prop
 |mk (fs:yA) (v4:Option D) (e:B=pE s k S.length Z5 v4) (kp:Kp (·=S.length) (S++[.dk (Ze [s])]) S') (hf:S'[S.length]?=Z9 (.dk (Ze fs))) (r1:s∈fs) (r2:Jr cs s fs) (r3:∀e∈W4 cs,(e.1∈fs↔e.2∈fs)) (nd:fs.Nodup)
inductive pH(cs:yN)(s:Int)(k:Nat)(S:ZX)(fs:yA)(j:Nat)(B:ZT)(S2:ZX):Prop
 |mk (fs2:yA) (g2:Bool) (v4:Option D) (e:B=pE s k S.length g2 v4) (kp:Kp (·=S.length) (S++[.dk (Ze [s])]) S2) (hf:S2[S.length]?=Z9 (.dk (Ze fs2))) (q1:∀x∈fs,x∈fs2) (q2:Jr cs s fs2)
  (q3:g2=Z5->fs2=fs/\∀i c,i<j->cs[i]?=Z9 c->(c.a∈fs↔c.b∈fs)) (q4:g2=Z7->Xn 7 fs<Xn 7 fs2) (q5:fs2.length<=fs.length+2*j) (nd:fs2.Nodup)
theorem Ef{fs:yA}(h:fs.Nodup)(a:Int):(YW fs a).Nodup:=by
 unfold YW;split
 .exact h
 .rename_i d;exact qF3.mpr ⟨h,by simp,λx c y b e=>d (by rw[qB8]at b;subst b;subst e;exact c)⟩
theorem pG(h:So cl)(n:Nat)(cs:yN)(s:Int)(hs:0<=s/\s<7)(hc:cs.length<=100)(hb:∀c∈cs,(0<=c.a/\c.a<7)/\0<=c.b/\c.b<7){S:ZX}{k:Nat}(hk:ZL S k=Z9 (cs.map Ct.d)):
  ∃m Y fs,cl (n+1) "places_from" [.int s,.lst k] S=.ok (.dct m) Y/\Ex S Y/\Y[m]?=Z9 (.dk (Ze fs))/\MT (W4 cs) s (·∈fs)/\fs.Nodup:=by
 have km:k≠S.length:=by have:=US hk;omega
 obtain⟨B',H,e,fs,K,rfl,kp,q,P,U,r3,W⟩:=PZ (t:=YZ (ZY 3)) (b:=Nk (cl n)) (pJ cs s k S) (pI cs s k S)
  (λm B H Q=>by
   obtain⟨fs,g,K,rfl,kp,q,P,U,r3,r4,r5,W⟩:=Q;cases g with
   |false=>exact .inl ⟨H,by simp[pE],⟨fs,K,rfl,kp,q,P,U,r3 rfl,W⟩⟩
   |true =>
    refine .inr ⟨H,by simp[pE],?_⟩;have hl:ZL H k=Z9 (cs.map Ct.d):=kp.lst (Ss hk) km;obtain⟨B2,S2,e2,fs2,N,A,rfl,o,r,M,R,G,V,q5,p⟩:=Wq (w:=[(k,cs.map Ct.d)]) (g:=gN 4) (b:=Nl (cl n)) (items:=cs.map Ct.d)
     (pH cs s k S fs) (B:=pE s k S.length Z5 K) (S:=H)
     (λj B S2 Q=>by
      obtain⟨_,_,_,_,kp⟩:=Q;exact Xx (kp.lst (Ss hk) km))
     ⟨fs,Z5,K,rfl,kp,q,λx a=>a,U,λ_=>⟨rfl,λi c X=>by omega⟩,(λz=>by cases z),by omega,W⟩
     (λj d B S2 hd Q=>by
      obtain⟨fs2,N,K,rfl,o,l,M,R,G,V,q5,p⟩:=Q;rw[qB2]at hd;obtain⟨c,E,rfl⟩:=qA5.mp hd;have hm:c∈cs:=qB6 E;have hj:j<cs.length:=(qA1.mp E).1;obtain⟨ba,bb⟩:=hb c hm;have Z:(c.a,c.b)∈W4 cs:=qD9.mpr ⟨c,hm,rfl⟩;refine⟨_,_,rfl,?_⟩;have i1:=J4 l Z5 c.a;have i2:=J4 l Z5 c.b;have hlim:fs2.length+2<lim:=by have:=Eh;rw[YB];omega
      by_cases f:(c.a∈fs2↔c.b∈fs2)
      .refine⟨_,S2,.inl ?_,⟨fs2,N,Z9 c.d,rfl,o,l,M,R,λJ=>⟨(G J).1,λi c' X y=>?_⟩,V,by omega,p⟩⟩
       .have:(decide (c.a∈fs2) != decide (c.b∈fs2))=Z5:=by simp[f]
        simp[pE,Nl,Ct.d,i1,i2,this]
       .by_cases hij:i=j
        .subst hij;rw[E]at y;cases y;rw[(G J).1]at f;exact f
        .exact(G J).2 i c' (by omega) y
      .have s1:=EI l (by omega) c.a;have f3:(S2.set S.length (.dk (Ze (YW fs2 c.a))))[S.length]?=Z9 (.dk (Ze (YW fs2 c.a))):=qC9 (qA1.mp l).1;have s2:=EI f3 (by have:=Js fs2 c.a;omega) c.b;have f4:((S2.set S.length (.dk (Ze (YW fs2 c.a)))).set S.length (.dk (Ze (YW (YW fs2 c.a) c.b))))[S.length]?=Z9 (.dk (Ze (YW (YW fs2 c.a) c.b))):=qC9 (qA1.mp f3).1;have mem:∀x,x∈YW (YW fs2 c.a) c.b↔x∈fs2∨x=c.a∨x=c.b:=λx=>by rw[EH,EH,or_assoc]
       refine⟨_,_,.inl ?_,⟨YW (YW fs2 c.a) c.b,Z7,Z9 c.d,rfl,(o.trans (WJ _ _)).trans (WJ _ _),f4,λx a=>(mem x).mpr (.inl (M x a)),λC I T x a=>?_,(λz=>by cases z),λ_=>?_,by have:=Js fs2 c.a;have:=Js (YW fs2 c.a) c.b;omega,Ef (Ef p _) _⟩⟩
       .have:(decide (c.a∈fs2) != decide (c.b∈fs2))=Z7:=by by_cases u:c.a∈fs2<;>by_cases v:c.b∈fs2<;>simp[u,v]at f ⊢
        simp[pE,Nl,Ct.d,i1,i2,this,s1,s2]
       .have L:=R C I T;have F:=T _ Z;dsimp only at F;have one:C c.a/\C c.b:=by
         by_cases u:c.a∈fs2
         .exact⟨L _ u,F.mp (L _ u)⟩
         .by_cases v:c.b∈fs2
          .exact⟨F.mpr (L _ v),L _ v⟩
          .exact absurd (iff_of_false u v) f
        rcases(mem x).mp a with z|z|z
        .exact L x z
        .subst z;exact one.1
        .subst z;exact one.2
       .have lt:Xn 7 fs2<Xn 7 (YW (YW fs2 c.a) c.b):=by
         by_cases u:c.a∈fs2
         .have v:c.b∉fs2:=λz=>f (iff_of_true u z);exact Eg (λx a=>(mem x).mpr (.inl a)) ((mem c.b).mpr (.inr (.inr rfl))) v bb.1 bb.2
         .exact Eg (λx a=>(mem x).mpr (.inl a)) ((mem c.a).mpr (.inr (.inl rfl))) u ba.1 ba.2
        cases N with
        |true=>have:=V rfl;omega
        | false=>rw[(G rfl).1]at lt ⊢;exact lt)
    have I:=Jt 7 fs;have c1:=r4 rfl;rw[qA3]at q5;have step:Nk (cl n) (pE s k S.length Z7 K) H=.nx (pE s k S.length N A) S2:=by unfold pE at e2 ⊢;simp[Nk,hl,e2]
    cases N with
    |true =>
     have c2:=Jt 7 fs2;have c3:=V rfl;exact⟨_,S2,.inl step,9 - Xn 7 fs2,by omega,⟨fs2,Z7,A,rfl,o,r,M s P,R,(λz=>by cases z),λ_=>by omega,by omega,p⟩⟩
    |false =>
     refine⟨_,S2,.inl step,0,by omega,⟨fs2,Z5,A,rfl,o,r,M s P,R,λJ e Z=>?_,(λz=>by cases z),by omega,p⟩⟩;obtain⟨c,hc1,rfl⟩:=qD9.mp Z;obtain⟨i,X⟩:=qE2 hc1;rw[(G J).1];exact(G J).2 i c (by rw[qA3];exact(qA1.mp X).1) X)
  Vw (9 - Xn 7 [s]) (pE s k S.length Z7 Z8) (S++[.dk (Ze [s])]) (qG6 (Nat.sub_le _ _) (by decide))
   ⟨[s],Z7,Z8,rfl,Kp.refl _ _,by rw[qA0 (qA7 _),qJ4];rfl,by simp,λC I _ x a=>(by simp at a;subst a;exact I),(λz=>by cases z),λ_=>(by have:=Jt 7 [s];omega),by simp;omega,by simp⟩
 refine⟨S.length,H,fs,?_,⟨?_,λj hj _=>?_⟩,q,⟨P,r3,λC I T x a=>U C I T x a⟩,W⟩
 .rw[h];refine YC rfl ?_;have e0:(S++[O.dk [((Sum.inl s:ZJ),D.bl Z7)]])=S++[O.dk (Ze [s])]:=rfl;unfold pE at e;simp[Nj,XB,Vp,e0,e]
 .have:=kp.le;simp at this;omega
 .rw[kp.eq j (by simp;omega) (by omega),qA8 hj]
theorem pF(h:So cl)(n:Nat)(f:yN)(s:Int)(j:0<=s/\s<7)(i:f.length<=100)(g:∀c∈f,(0<=c.a/\c.a<7)/\0<=c.b/\c.b<7){S:ZX}{k:Nat}(hk:ZL S k=Z9 (f.map Ct.d)):
  ∃m e fs,cl (n+1) "places_from" [.int s,.lst k] S=.ok (.dct m) e/\Ex S e/\e[m]?=Z9 (.dk (Ze fs))/\MT (W4 f) s (·∈fs):=by obtain⟨m,e,fs,a,b,c,d,_⟩:=pG h n f s j i g hk;exact⟨m,e,fs,a,b,c,d⟩
noncomputable def jB(es:List (Int×Int)):Bool:=@decide (OW es) (Classical.propDecidable _)
theorem Jq{es:List (Int×Int)}:jB es=Z7↔OW es:=@decide_eq_true_iff _ (Classical.propDecidable _)
theorem pD{es:List (Int×Int)}{b:Bool}(h:b=Z7↔OW es):b=jB es:=by
 cases b with
 |true=>exact(Jq.mpr (h.mp rfl)).symm
 |false =>
  cases q:jB es with
  |false=>rfl
  |true=>exact absurd (h.mpr (Jq.mp q)) qB4
def Sf(a:yN):Prop:=∀c∈a,(0<=c.a/\c.a<7)/\0<=c.b/\c.b<7
theorem pC(h:PX cl)(c:So cl)(n:Nat)(a:yN)(d:a.length<=100)(b:Sf a){S:ZX}{k:Nat}(hk:ZL S k=Z9 (a.map Ct.d)):VR (cl (n+2) "joins" [.lst k] S) ((.bl (jB (W4 a)))) S:=by obtain⟨m,i,fs,e,x,f,r⟩:=pF c n a 0 (by decide) d b hk;refine⟨i,?_,x⟩;rw[show n+2=(n+1)+1 from rfl,h];refine YC rfl ?_;have q:=J4 f Z5 1;have g:decide (1∈fs)=jB (W4 a):=pD (by rw[decide_eq_true_eq];exact r.joined);simp[Ni,XB,e,q,g]
noncomputable def UP(N:XJ)(st:yA):Bool:=jB (W4 (N.cs.filter λc=>Ul c st))
theorem XJ.ok.in7{d a b:Int}{N:XJ}(h:N.ok d a b)(hm:a<=7):Sf N.cs:=λc e=>by obtain⟨g,i,f,_⟩:=h.c2 c e;have:=h.p2;omega
theorem Sf.filter{a:yN}(h:Sf a)(p:Ct->Bool):Sf (a.filter p):=λc b=>h c (qE3.mp b).1
theorem XJ.ok.len{b c a:Int}{N:XJ}(h:N.ok b c a)(hm:a<=16):N.cs.length<=100:=by have:=h.c1;omega
theorem pB(h:PV cl)(hi:Rc cl)(n:Nat)(N:XJ)(st:yA)(e:N.cs.length<=100)(hk:∀c∈N.cs,0<=c.k/\c.k<st.length)(S:ZX):cl (n+2) "shut_contacts" [N.d,Zb st] S=.ok (.lst S.length) (S++[.lst ((N.cs.filter λc=>Ul c st).map Ct.d)]):=by
 have b:Zf [] .one (JP (cl (n+1))) (JO (cl (n+1))) [Z8,Z9 (Zb st)] (N.cs.map Ct.d) S=.ok ((N.cs.filter λc=>Ul c st).map Ct.d) S:=by
  refine P0 Ct.d (Yg S) _ _ _ λc a=>⟨_,rfl,?_,λ_=>?_⟩
  .have:=pK hi n c st (hk _ a).1 (hk _ a).2 S;simp[JP,this]
  .simp[JO]
 rw[show n+2=(n+1)+1 from rfl,h];refine YC rfl ?_;have d:N.cs.length<lim:=by have:=Eh;omega
 simp[Nh,XB,XJ.d,b,d]
theorem pA(h:Nf cl)(i:PX cl)(e:So cl)(l:PV cl)(hi:Rc cl)(n:Nat){N:XJ}{st:yA}(a:N.cs.length<=100)(b:Sf N.cs)(hk:∀c∈N.cs,0<=c.k/\c.k<st.length)(S:ZX):VR (cl (n+3) "lets" [N.d,Zb st] S) ((.bl (UP N st))) S:=by have g:=pB l hi n N st a hk S;have k:(N.cs.filter λc=>Ul c st).length<=100:=qC6 (qJ6 _ _) a;obtain⟨d,j,f⟩:=pC i e n _ k (b.filter _) (Y7 S ((N.cs.filter λc=>Ul c st).map Ct.d));refine⟨d,?_,(Zh _ _).trans f⟩;rw[show n+3=(n+2)+1 from rfl,h];refine YC rfl ?_;simp[Ng,XB,g,j,UP]
@[simp]theorem bK(w x y z:D):Yb [w,x,y,z] Z8 (Z9 2)=[w,x]:=rfl
noncomputable def ZE:Nat->List (yA)
 |0=>[[]]
 |n+1=>(ZE n).map (0::·)++(ZE n).map (1::·)
theorem Uk:∀n,(ZE n).length=2 ^ n
 |0=>rfl
 |n+1=>by unfold ZE;rw[qC1,qA3,qA3,Uk n,qO3];omega
theorem MS:∀n,∀st∈ZE n,st.length=n/\∀b∈st,b=0∨b=1
 |0,st,h=>by simp[ZE]at h;subst h;simp
 |n+1,st,h=>by
  rcases qB9.mp h with q|q
  .obtain⟨t,ht,rfl⟩:=qD9.mp q;obtain⟨c,d⟩:=MS n t ht;exact⟨by simp[c],λb a=>by rcases qA9.mp a with z|z;exact .inl z;exact d b z⟩
  .obtain⟨t,ht,rfl⟩:=qD9.mp q;obtain⟨c,d⟩:=MS n t ht;exact⟨by simp[c],λb a=>by rcases qA9.mp a with z|z;exact .inr z;exact d b z⟩
theorem Jp{j:Nat}(h:j<=4):2 ^ j<=16:=qC6 (qI5 (by decide) h) (by decide)
theorem Ee(h:PY cl)(n:Nat){sw:Int}(H:0<=sw)(G:sw<=4)(S:ZX):∃k l,cl (n+1) "settings" [.int sw] S=.ok (.lst k) l/\Ex S l/\S.length<=k/\ZL l k=Z9 ((ZE sw.toNat).map Zb):=by
 obtain⟨E,l,y,k,r,rfl,m,hk,c⟩:=Wq (g:=gN 2) (b:=JQ (cl n)) (items:=Zc 0 sw.toNat)
  (λj B a=>∃k r,B=[Z9 (.int sw),Z9 (.lst k),r]/\Ex S a/\S.length<=k/\ZL a k=Z9 ((ZE j).map Zb))
  (S:=S++[.lst [.tup []]])
  (λj B a t=>Yg _) ⟨S.length,Z8,rfl,Zh _ _,qA7 _,by rw[Y7];rfl⟩
  (λj d B a C t=>by
   obtain⟨k,r,rfl,m,hk,c⟩:=t;rw[Q6]at C;have u:(ZE j).length<=16:=by rw[Uk];exact Jp (by omega)
   have comp:∀b e (v:∀i B S,e (Z9 (.tup i)::B) S=if 1+i.length<=lim then .ok (.tup (.int b::i)) S else .bad) S2,ZL S2 k=Z9 ((ZE j).map Zb)->Zf [(k,(ZE j).map Zb)] .one (λ_=>ret Z7) e [Z8] ((ZE j).map Zb) S2=.ok (((ZE j).map (b::·)).map Zb) S2:=by
    intro b e v S2 f;rw[qC8];refine VQ Zb (Xx f) _ _ λst q=>⟨_,rfl,?_⟩
    have:=(MS j st q).1;show e [Z9 (Zb st)] S2=_;unfold Zb;rw[v,if_pos (by rw[qA3,YB];omega)];rfl
   have p:=comp 0 (JS (cl n)) (λi B S=>by simp[JS]) a c;have f:=(Zh a [.lst (((ZE j).map (0::·)).map Zb)]).lst c (λz=>z);have o:=comp 1 (JR (cl n)) (λi B S=>by simp[JR]) (a++[.lst (((ZE j).map (0::·)).map Zb)]) f;generalize hA:a++[O.lst (((ZE j).map (0::·)).map Zb)]=A at o f;generalize hX0:((ZE j).map (0::·)).map Zb=X0 at p hA;generalize hX1:((ZE j).map (1::·)).map Zb=X1 at o;have w:ZL (A++[.lst X1]) a.length=Z9 X0:=by rw[<- hA];exact Ss (Y7 _ _)
   have F:X0.length<=16:=by rw[<- hX0];simpa using u
   have I:X1.length<=16:=by rw[<- hX1];simpa using u
   have D:=Ju w (Y7 A X1) (by rw[YB];omega);refine⟨_,_,rfl,_,A++[.lst X1]++[.lst (X0++X1)],.inl ?_,(A++[O.lst X1]).length,Z9 d,rfl,?_,?_,?_⟩
   .have s:((ZE j).map Zb).length<lim:=by rw[qA3,YB];omega
    generalize hB:(ZE j).map Zb=BB at c f p o s;simp[JQ,c,p,hA,f,o,s,D]
   .rw[<- hA];exact((m.trans (Zh _ _)).trans (Zh _ _)).trans (Zh _ _)
   .rw[<- hA];have:=m.le;simp;omega
   .rw[Y7,<- hX0,<- hX1,show ZE (j+1)=(ZE j).map (0::·)++(ZE j).map (1::·)from rfl,qE1])
 rw[Ej]at c;refine⟨k,l,?_,m,hk,c⟩;rw[h];refine YC rfl ?_;have x:-4611686018427387904<=sw/\sw<4611686018427387904:=by omega
 simp[Nn,XB,x,y]
noncomputable def pz(sw:Int):List (yA):=(List.range (1*2 ^ sw.toNat:Int).toNat).map fun(m:Nat)=>(List.range sw.toNat).map fun(k:Nat)=>jI ((0+(m:Int)) / 2 ^ (sw - 1 - (0+(k:Int))).toNat) 1
theorem pv{sw:Int}(b:1<=sw)(a:sw<=4):pz sw=ZE sw.toNat:=by
 have:sw=1∨sw=2∨sw=3∨sw=4:=by omega
 rcases this with rfl|rfl|rfl|rfl<;>decide +kernel
theorem pq(h:M7 cl)(n:Nat){sw:Int}(I:1<=sw)(H:sw<=4)(S:ZX):∃k c,cl (n+1) "_law_settings" [.int sw] S=.ok (.lst k) c/\Ex S c/\S.length<=k/\ZL c k=Z9 ((ZE sw.toNat).map Zb):=by
 rw[<- pv I H];have r:(1*2 ^ sw.toNat:Int)<=16:=by
  have:sw=1∨sw=2∨sw=3∨sw=4:=by omega
  rcases this with rfl|rfl|rfl|rfl<;>decide
 have L:(0:Int)<=1*2 ^ sw.toNat:=by
  have:sw=1∨sw=2∨sw=3∨sw=4:=by omega
  rcases this with rfl|rfl|rfl|rfl<;>decide
 let f:Nat->yA:=fun(m:Nat)=>(List.range sw.toNat).map fun(k:Nat)=>jI ((0+(m:Int)) / 2 ^ (sw - 1 - (0+(k:Int))).toNat) 1
 obtain⟨O,c,M,s,rfl,t,a⟩:=Wq (w:=[]) (g:=gN 2) (b:=Jx (cl n)) (items:=Zc 0 (1*2 ^ sw.toNat:Int).toNat)
  (λj B S'=>∃s,B=[Z9 (.int sw),Z9 (.lst S.length),s]/\Ex S S'/\ZL S' S.length=Z9 (((List.range j).map f).map Zb))
  (B:=[Z9 (.int sw),Z9 (.lst S.length),Z8]) (S:=S++[.lst []])
  (λj B S' r=>Yg _) ⟨Z8,rfl,Zh _ _,by rw[Y7];rfl⟩
  (λj d B S' C r=>by
   obtain⟨s,rfl,t,a⟩:=r;rw[Q6]at C;obtain⟨P,rfl⟩:=C;have u:Zf [] .one (λ_=>ret Z7) (Jy (cl n)) [Z8,Z9 (.int (0+(j:Int))),Z9 (.int sw)] ((List.range sw.toNat).map fun(k:Nat)=>D.int (0+(k:Nat))) S'=.ok ((List.range sw.toNat).map fun(k:Nat)=>D.int (jI ((0+(j:Int)) / 2 ^ (sw - 1 - (0+(k:Int))).toNat) 1)) S':=by
    refine VQ (fun(k:Nat)=>D.int (0+(k:Nat))) (Yg S') _ _ λk hk=>⟨_,rfl,?_⟩
    rw[qE0]at hk;have q:(0:Int)<=sw - 1 - (0+(k:Int)):=by omega
    generalize (0+(k:Int))=kk at q ⊢;generalize (0+(j:Int))=jj;have G:kk<=sw - 1:=by omega
    simp[Jy,G]
   have N:(List.range sw.toNat).map (fun(k:Nat)=>D.int (jI ((0+(j:Int)) / 2 ^ (sw - 1 - (0+(k:Int))).toNat) 1))=(f j).map D.int:=by rw[qC8];rfl
   rw[N]at u;have x:=Zh S' [.lst ((f j).map D.int)];have v:=x.lst a (λz=>z);have E:=Su (Y7 S' ((f j).map D.int));have i:=Um v XU [.tup ((f j).map D.int)];have K:=Uo a;have y:(((List.range j).map f).map Zb).length<lim:=by rw[qA3,qA3,qD4,YB];omega
   refine⟨_,_,rfl,_,_,.inl ?_,Z9 (.int (0+(j:Int))),rfl,((t.trans x).setNew (l:=S.length) (o:=.lst (((List.range j).map f).map Zb++[.tup ((f j).map D.int)])) (qA7 _)),?_⟩
   .have p:-4611686018427387904<=sw/\sw<4611686018427387904:=by omega
    have e:sw.toNat<lim:=by rw[YB];omega
    generalize hB:((List.range j).map f).map Zb=BB at i y;generalize (f j).map D.int=F at *;rw[Tz,if_pos y]at i;dsimp only at i;unfold Zc at *;simp only[List.set_cons_succ,List.set_cons_zero];generalize (0+(j:Int))=jj at *;simp[Jx,K,p,Zc,e,-Int.zero_add,u,E,i]
   .rw[UR v,qM7,qE1,qE1];rfl)
 rw[Ej]at a;refine⟨S.length,c,?_,t,qA7 _,a⟩;rw[h];refine YC rfl ?_;have p:-4611686018427387904<=(1*2 ^ sw.toNat:Int)/\(1*2 ^ sw.toNat:Int)<4611686018427387904:=by omega
 have e:0<=sw/\sw<=1000000/\(1:Int).natAbs<18446744073709551616:=⟨by omega,by omega,by decide⟩
 generalize hpw:(1*2 ^ sw.toNat:Int)=pw at *;have A:Yr (.int 1) (.int sw) (S++[.lst []])=.ok (.int pw) (S++[.lst []]):=by rw[qp,if_pos e,hpw]
 have J:WA (ZP [ZU Yr (ZW (.int 1)) (ZY 0)]) [Z9 (.int sw),Z9 (.lst S.length),Z8] (S++[.lst []])=.ok (Zc 0 pw.toNat,[]) (S++[.lst []]):=by rw[qq,qu,qv,qw,X2,EO];dsimp only[List.getElem?_cons_zero];rw[X2,A,X2,EN,X2,X2];dsimp only;rw[if_pos p]
 clear A e p;simp only[M8,XB,qC7,qR0,P4,qy,qt,EN,X2,ES,qx,ER,Nw];rw[show(List.set ([Z9 (D.int sw)]++qE7 (3 - [D.int sw].length) Z8) 1 (Z9 (D.lst (qK4 S))))=[Z9 (.int sw),Z9 (.lst S.length),Z8]from rfl,J,ES];dsimp only;rw[M,ER,P4,qz,EO];rfl
noncomputable def Wx(N:XJ):yA:=(ZE N.sw.toNat).map λst=>if UP N st then 1 else 0
theorem pj{sw:Int}(a:sw<=4):((ZE sw.toNat).map Zb).length<lim:=by rw[qA3,Uk,YB];have:=Jp (j:=sw.toNat) (by omega);omega
theorem ph(h:JM cl)(e:Nf cl)(s:PX cl)(y:So cl)(C:PV cl)(hi:Rc cl)(f:PY cl)(n:Nat){N:XJ}(o:0<=N.sw)(i:N.sw<=4)(b:N.cs.length<=100)(m:Sf N.cs)(hk:∀c∈N.cs,0<=c.k/\c.k<N.sw)(S:ZX):
  VR (cl (n+4) "function_of" [N.d] S) ((Zb (Wx N))) S:=by
 obtain⟨k,H,F,G,_,j⟩:=Ee f (n+2) o i S;obtain⟨l,g,B⟩:=J7 Zb (t:=.one) (c:=JN (cl (n+3))) (B0:=[Z8,Z9 N.d]) (λa=>Ex H a) (λa x=>Xx (x.lst j λz=>z)) (λst=>.int (if UP N st then 1 else 0)) (ZE N.sw.toNat) (Kp.refl _ _)
  (λst d a x=>by
   have I:=(MS _ st d).1;obtain⟨q,E,p⟩:=pA e s y C hi n b m (st:=st) (λc b=>by have:=hk c b;omega) a;refine⟨_,rfl,q,?_,x.trans p⟩;cases v:UP N st<;>simp[JN,E,v])
 have w:(ZE N.sw.toNat).map (λst=>D.int (if UP N st then 1 else 0))=(Wx N).map D.int:=by unfold Wx;rw[qC8];rfl
 rw[w]at g;refine⟨_,?_,(G.trans B).trans (Zh l [.lst ((Wx N).map D.int)])⟩;rw[show n+4=(n+3)+1 from rfl,h];refine YC rfl ?_;have r:=pj i;have u:=Su (Y7 l ((Wx N).map D.int));have A:Zu N.d (.int 0) S=.ok (.int N.sw) S:=by simp[XJ.d]
 generalize (ZE N.sw.toNat).map Zb=BB at *;simp[Nd,XB,A,F,j,r,g,u,Zb]
theorem pg(a:Int)(l:yA):T8 (.int a) (l.map V.int)=decide (a∈l):=by
 unfold T8
 induction l with
 |nil=>rfl
 |cons x r b =>
  rw[qC7,qG0,b];by_cases h:x=a
  .subst h;simp[UZ]
  .have c:¬a=x:=λz=>h z.symm;simp[UZ,h,c]
theorem pe(l:yA):(l.map D.int).mapM XQ=Z9 (l.map V.int):=by
 induction l with
 |nil=>rfl
 |cons x r a=>rw[qC7,qL0,a];rfl
@[simp]theorem bJ(w x y z:D):Yb [w,x,y,z] Z8 (Z9 3)=[w,x,y]:=rfl
structure HF(cl:Nat->ZQ):Prop where
 se:PY cl
 is:Rc cl
 pf:So cl
 jo:PX cl
 sc:PV cl
 le:Nf cl
 fo:JM cl
abbrev yM:=List D
abbrev XJ.g(N:XJ):Prop:=N.ok 4 7 16
theorem XJ.ok.k2{e g d:Int}{N:XJ}(h:N.ok e g d):∀c∈N.cs,0<=c.k/\c.k<N.sw:=λc f=>by obtain⟨_,_,_,a,b,_⟩:=h.c2 c f;exact⟨a,b⟩
theorem HF.fun(F:HF cl)(n:Nat){N:XJ}(ok:N.g)(S:ZX):VR (cl (n+4) "function_of" [N.d] S) ((Zb (Wx N))) S :=
 ph F.fo F.le F.jo F.pf F.sc F.is F.se n (by have:=ok.s1;omega) ok.s2 (ok.len (by decide)) (ok.in7 (by decide)) ok.k2 S
noncomputable def b1(b:Bool):Int:=if b then 1 else 0
noncomputable def Ct.mv(f:Int->Int)(c:Ct):Ct:=⟨if f c.b<f c.a then f c.b else f c.a,if f c.b>f c.a then f c.b else f c.a,c.k,c.o⟩
theorem pd{N:XJ}{st:yA}:UP N st=Z7↔∀C:Int->Prop,C 0->(∀c∈N.cs,Ul c st=Z7->(C c.a↔C c.b))->C 1:=by
 unfold UP;rw[Jq];unfold OW W4;constructor
 .intro h C b d;refine h C b λe g=>?_;obtain⟨c,a,rfl⟩:=qD9.mp g;rw[qE3]at a;exact d c a.1 a.2
 .intro h C b d;refine h C b λc a f=>?_;exact d (c.a,c.b) (qD9.mpr ⟨c,qE3.mpr ⟨a,f⟩,rfl⟩)
noncomputable def pb(a:Int)(p:Int):Int:=if p=1 then a else p
noncomputable def o9(p1 a:Int)(k:Int):Int:=if k=0 then a else if k=1 then 1 else k+p1 - 2
noncomputable def XJ.row(N M:XJ):XJ:=⟨N.sw,N.pl+M.pl - 2+1,N.cs.map (Ct.mv (pb (N.pl+M.pl - 2)))++M.cs.map (Ct.mv (o9 N.pl (N.pl+M.pl - 2)))⟩
theorem o8(N:XJ):Wx N=(ZE N.sw.toNat).map λst=>b1 (UP N st):=rfl
open PySem L2
inductive Tr where
 |lf (k o:Int)
 |nd (r:Bool) (ps:List Tr)
noncomputable def kw(r:Bool):Str:=if r then Str.ofString "row" else Str.ofString "side"
mutual
noncomputable def Tr.d:Tr->D
 |.lf k o=>.tup [.str (Str.ofString "at"),.int k,.int o]
 |.nd r a=>.tup [.str (kw r),.tup (Tr.ds a)]
noncomputable def Tr.ds:List Tr->yM
 |[]=>[]
 |t::r=>t.d::Tr.ds r
end
mutual
noncomputable def Tr.ht:Tr->Nat
 |.lf _ _=>0
 |.nd _ a=>Tr.hts a+1
noncomputable def Tr.hts:List Tr->Nat
 |[]=>0
 |t::r=>max t.ht (Tr.hts r)
end
mutual
noncomputable def Tr.sz:Tr->Nat
 |.lf _ _=>1
 |.nd _ a=>Tr.szs a+1
noncomputable def Tr.szs:List Tr->Nat
 |[]=>0
 |t::r=>t.sz+Tr.szs r
end
theorem Ed:∀ps,Tr.ds ps=ps.map Tr.d
 |[]=>rfl
 |t::r=>by show t.d::Tr.ds r=_;rw[Ed r];rfl
theorem Ec:∀{ps:List Tr}{t:Tr},t∈ps->t.ht<=Tr.hts ps
 |p::r,t,h=>by
  show t.ht<=max p.ht (Tr.hts r);rcases qA9.mp h with rfl|h
  .omega
  .have:=Ec h;omega
theorem o7:∀t:Tr,1<=t.sz
 |.lf _ _=>qA7 _
 |.nd _ a=>by show 1<=Tr.szs a+1;omega
theorem Eb:∀{ps:List Tr}{t:Tr},t∈ps->t.sz<=Tr.szs ps
 |p::r,t,h=>by
  show t.sz<=p.sz+Tr.szs r;rcases qA9.mp h with rfl|h
  .omega
  .have:=Eb h;omega
theorem Ea:∀ps:List Tr,ps.length<=Tr.szs ps
 |[]=>qA7 _
 |p::r=>by show r.length+1<=p.sz+Tr.szs r;have:=Ea r;have:=o7 p;omega
theorem o6(r:Bool):(kw r=Str.ofString "at")=False:=by cases r<;>simp only[eq_iff_iff,iff_false]<;>decide +kernel
theorem D9(r:Bool):(kw r=Str.ofString "row")=(r=Z7):=by
 cases r
 .simp only[eq_iff_iff];constructor<;>intro h<;>revert h<;>decide +kernel
 .simp only[eq_iff_iff];constructor<;>intro h<;>first|rfl|trivial
@[simp]theorem bI(a b:Str)(S:ZX):WD (.str a) (.str b) S=.ok (.bl (decide (a=b))) S:=rfl
noncomputable def Tr.un(r:Bool):Tr->List Tr
 |.nd a b=>if a=r then b else[.nd a b]
 |.lf k o=>[.lf k o]
mutual
noncomputable def Tr.lv:Tr->Nat
 |.lf _ _=>1
 |.nd _ a=>Tr.lvs a
noncomputable def Tr.lvs:List Tr->Nat
 |[]=>0
 |t::r=>t.lv+Tr.lvs r
end
mutual
def Tr.wf(sw:Int):Tr->Prop
 |.lf k o=>0<=k/\k<sw/\0<=o/\o<2
 |.nd _ a=>2<=a.length/\Tr.wfs sw a
def Tr.wfs(sw:Int):List Tr->Prop
 |[]=>True
 |t::r=>t.wf sw/\Tr.wfs sw r
end
theorem D8{sw:Int}:∀{ps:List Tr},Tr.wfs sw ps->∀t∈ps,t.wf sw
 |p::r,h,t,ht=>by
  rcases qA9.mp ht with rfl|ht
  .exact h.1
  .exact D8 h.2 t ht
noncomputable def isS:D->Bool|.str _=>Z7|_=>Z5
theorem D7{w:Xi}{t:Xh}{c:C}{B0:ZT}(P:yM->ZX->Prop)(b:∀l S,P l S->XT w S):∀(items:yM) (acc:yM) {S:ZX},P acc S ->
  (∀d∈items,∀acc S,P acc S->∃e,VB t d B0=Z9 e/\∃y f,c e S=.ok y f/\P (acc++[y]) f)->∃ds a,Zf w t (λ_=>ret Z7) c B0 items S=.ok ds a/\ds.length=items.length/\P (acc++ds) a
 |[],acc,S,h0,hs=>⟨[],S,by unfold Zf;rw[if_pos (b _ S h0)],rfl,by rw[qF6];exact h0⟩
 |d::ds,acc,S,h0,hs=>by obtain⟨e,m,y,f,i,k⟩:=hs d (by simp) acc S h0;obtain⟨j,a,n,o,g⟩:=D7 P b ds (acc++[y]) k λh p=>hs h (by simp[p]);unfold Zf;rw[if_pos (b _ S h0),m];dsimp only;rw[Xo,ET,X2,if_pos rfl,Xo,i,X2,Xo,n,X2];exact⟨y::j,a,rfl,by rw[qC3,qC3,o],by rw[qC0]at g;exact g⟩
noncomputable def MR(l m:yA):yA:=(l.zip m).map λp=>if 0<p.1+p.2 then 1 else 0
noncomputable def sE(x:Str):D->Bool
 |.str y=>decide (y=x)
 |_=>Z5
def Sn(d:D):Prop:=∃p,(∀S,YM 40 S d=Z9 p)/\(∀x,p=.str x->d=.str x)/\(isS d=Z5->XQ d=Z8->∃a,d=.tup a)
theorem o5{p:wR}{x:Str}(h:∀y,p≠.str y):PyData.eqv p (.str x)=Z5/\PyData.eqv (.str x) p=Z5:=by
 cases p with
 |str y=>exact absurd rfl (h y)
 |_=>exact⟨rfl,rfl⟩
theorem ne_str{d:D}{x:Str}(h:Sn d)(a:PyData.strOk x=Z7)(S:ZX):WD d (.str x) S=.ok (.bl (sE x d)) S/\WM d (.str x) S=.ok (.bl (!sE x d)) S:=by
 obtain⟨p,f,g,_⟩:=h;cases d with
 |str y=>exact⟨rfl,rfl⟩
 |_ =>
  have b:∀y,p≠.str y:=λy e=>by have:=g y e;cases this
  have c:YM 40 S (.str x)=Z9 (.str x):=by unfold YM;dsimp only;rw[if_pos a]
  have:=(o5 (x:=x) b).1;unfold WD WM;dsimp only;rw[f S,c];dsimp only;rw[this];exact⟨rfl,rfl⟩
noncomputable def Uj(l m:yA):yA:=(l.zip m).map λp=>p.1*p.2
theorem D6{x:Int}(h:0<=x/\x<2):x=0∨x=1:=by omega
theorem oZ(c:ZQ){x y:Int}(a:x=0∨x=1)(b:y=0∨y=1)(S:ZX):Ey c [Z9 (.int x),Z9 (.int y)] S=.ok (.int (x*y)) S:=by rcases a with rfl|rfl<;>rcases b with rfl|rfl<;>simp<;>rfl
theorem Jo(c:ZQ){x y:Int}(a:x=0∨x=1)(b:y=0∨y=1)(S:ZX):Ew c [Z9 (.int x),Z9 (.int y)] S=.ok (.int (if 0<x+y then 1 else 0)) S:=by rcases a with rfl|rfl<;>rcases b with rfl|rfl<;>simp<;>rfl
theorem oY{e:C}{X Y R:yM}{S S1:ZX}(a:(zipD X Y).length<lim)(b:Zf [] (.many 2) (λ_=>ret Z7) e [Z8,Z8] (zipD X Y) S=.ok R S)(c:S++[.lst R]=S1)(t:W7 [.lst S.length] S1=.ok (.tup R) S1):
  (ZV (ZF (ZS W7 (ZP [(Yv (TQ (ZP [(ZY 0),(ZY 1)])) 2 [] (.many 2) (λ_=>ret Z7) e)]))) ZH) [Z9 (.tup X),Z9 (.tup Y)] S=.rt (.tup R) S1:=by simp[a,b,c,t]
theorem D5{e:C}(f:Int->Int->Int)(l m:yA)(d:l.length<=16)(S:ZX)(he:∀p∈l.zip m,e [Z9 (.int p.1),Z9 (.int p.2)] S=.ok (.int (f p.1 p.2)) S):
  ∃S1,(ZV (ZF (ZS W7 (ZP [(Yv (TQ (ZP [(ZY 0),(ZY 1)])) 2 [] (.many 2) (λ_=>ret Z7) e)]))) ZH) [Z9 (Zb l),Z9 (Zb m)] S=.rt (Zb ((l.zip m).map λp=>f p.1 p.2)) S1/\Ex S S1:=by
 have z:zipD (l.map D.int) (m.map D.int)=(l.zip m).map λp=>.tup [.int p.1,.int p.2]:=by unfold zipD;rw[List.zip_map,qC8];rfl
 have c:Zf [] (.many 2) (λ_=>ret Z7) e [Z8,Z8] (zipD (l.map D.int) (m.map D.int)) S=.ok (((l.zip m).map λp=>f p.1 p.2).map D.int) S:=by rw[z,qC8];exact VQ (fun(p:Int×Int)=>D.tup [.int p.1,.int p.2]) (Yg _) _ _ λp b=>⟨[Z9 (.int p.1),Z9 (.int p.2)],rfl,he p b⟩
 obtain⟨S1,a⟩:∃S1,S++[O.lst (((l.zip m).map λp=>f p.1 p.2).map D.int)]=S1:=⟨_,rfl⟩
 refine⟨S1,oY ?_ c a (by rw[<- a];exact Su (Y7 _ _)),by rw[<- a];exact Zh _ _⟩;rw[z,qA3,qM4,YB];omega
def Se(l:yA):Prop:=∀i∈l,0<=i/\i<2
theorem MQ{l m:yA}(b:Se l)(hm:Se m){p:Int×Int}(a:p∈l.zip m):(p.1=0∨p.1=1)/\(p.2=0∨p.2=1):=by have:=qM1 a;exact⟨D6 (b _ this.1),D6 (hm _ this.2)⟩
theorem oX(h:JI cl)(n:Nat){l m:yA}(f:l.length<=16)(a:Se l)(c:Se m)(S:ZX):VR (cl (n+1) "where_both" [Zb l,Zb m] S) (Zb (Uj l m)) S:=by obtain⟨d,e,x⟩:=D5 (λx y=>x*y) l m f S λp b=>oZ _ (MQ a c b).1 (MQ a c b).2 S;exact⟨d,by rw[h];exact YC rfl e,x⟩
theorem oW(h:JG cl)(n:Nat){l m:yA}(f:l.length<=16)(a:Se l)(c:Se m)(S:ZX):VR (cl (n+1) "where_either" [Zb l,Zb m] S) (Zb (MR l m)) S:=by obtain⟨d,e,x⟩:=D5 (λx y=>if 0<x+y then 1 else 0) l m f S λp b=>Jo _ (MQ a c b).1 (MQ a c b).2 S;exact⟨d,by rw[h];exact YC rfl e,x⟩
mutual
noncomputable def Tr.on(st:yA):Tr->Bool
 |.lf k o=>decide (st.getD k.toNat 0=o)
 |.nd r a=>if r then Tr.onA st a else Tr.onO st a
noncomputable def Tr.onA(st:yA):List Tr->Bool
 |[]=>Z7
 |t::r=>t.on st&&Tr.onA st r
noncomputable def Tr.onO(st:yA):List Tr->Bool
 |[]=>Z5
 |t::r=>t.on st||Tr.onO st r
end
noncomputable def Q5(sw:Int)(t:Tr):yA:=(ZE sw.toNat).map λst=>b1 (t.on st)
noncomputable def Ui(r:Bool)(a b:Bool):Bool:=if r then a&&b else a||b
noncomputable def VP(r:Bool)(st:yA):Bool->List Tr->Bool
 |a,[]=>a
 |a,t::b=>VP r st (Ui r a (t.on st)) b
theorem D4(r:Bool)(st:yA):∀(ps:List Tr) (a:Bool),VP r st a ps=Ui r a (if r then Tr.onA st ps else Tr.onO st ps)
 |[],a=>by cases r<;>cases a<;>rfl
 |t::ps,a=>by show VP r st (Ui r a (t.on st)) ps=_;rw[D4 r st ps];cases r<;>simp[Ui,Tr.onA,Tr.onO,Bool.and_assoc,Bool.or_assoc]
theorem oV(r:Bool)(st:yA)(t:Tr)(ps:List Tr):(Tr.nd r (t::ps)).on st=VP r st (t.on st) ps:=by rw[D4];cases r<;>simp[Tr.on,Tr.onA,Tr.onO,Ui]
theorem oU(l:List (yA))(f g:yA->Bool):Uj (l.map λst=>b1 (f st)) (l.map λst=>b1 (g st))=l.map λst=>b1 (f st&&g st):=by
 unfold Uj
 induction l with
 |nil=>rfl
 |cons a l b =>
  simp only[qC7,qQ2]at b ⊢;rw[b];cases f a<;>cases g a<;>rfl
theorem oS(l:List (yA))(f g:yA->Bool):MR (l.map λst=>b1 (f st)) (l.map λst=>b1 (g st))=l.map λst=>b1 (f st||g st):=by
 unfold MR
 induction l with
 |nil=>rfl
 |cons a l b =>
  simp only[qC7,qQ2]at b ⊢;rw[b];cases f a<;>cases g a<;>rfl
theorem oR(r:Bool)(l:List (yA))(f g:yA->Bool):(if r then Uj (l.map λst=>b1 (f st)) (l.map λst=>b1 (g st))else MR (l.map λst=>b1 (f st)) (l.map λst=>b1 (g st)))=l.map λst=>b1 (Ui r (f st) (g st)):=by
 cases r
 .rw[if_neg qB4,oS];rfl
 .rw[if_pos rfl,oU];rfl
noncomputable def WR(sw k o:Int):XJ:=⟨sw,2,[⟨0,1,k,o⟩]⟩
theorem oQ{sw k o:Int}(i:1<=sw)(e:sw<=4)(h:(Tr.lf k o).wf sw):(WR sw k o).g:=by obtain⟨f,g,b,d⟩:=h;refine⟨i,e,by show 2<=2;decide,by show 2<=7;decide,by simp[WR],λc a=>?_⟩;simp only[WR,qA9,qD3,or_false]at a;subst a;exact⟨by show 0<=0;decide,by show 0<1;decide,by show 1<2;decide,f,g,b,d⟩
theorem oP(sw k o:Int)(st:yA):UP (WR sw k o) st=(Tr.lf k o).on st:=by
 have e:(Tr.lf k o).on st=Ul ⟨0,1,k,o⟩ st:=rfl;rw[e,qR8,pd];constructor
 .intro h;refine Classical.byContradiction λn=>?_;have:=h (λx=>x=0) rfl λc a f=>by simp only[WR,qA9,qD3,or_false]at a;subst a;exact absurd f n
  cases this
 .intro h C b d;exact(d ⟨0,1,k,o⟩ (by simp[WR]) h).mp b
theorem oO(sw k o:Int):Wx (WR sw k o)=Q5 sw (.lf k o):=by rw[o8];exact qF0 λst _=>by rw[oP]
theorem MP(l:List (yA))(f:yA->Bool):Se (l.map λst=>b1 (f st)):=λi a=>by obtain⟨st,_,rfl⟩:=qD9.mp a;unfold b1;split<;>decide
structure MO(cl:Nat->ZQ):Prop where
 f:HF cl
 ln:JF cl
 tf:Eu cl
 wb:JI cl
 we:JG cl
theorem oN(c:ZQ){sw k o:Int}{b a:D}{S S1:ZX}(d:c "lone_net" [.int sw,.tup [.str (Str.ofString "at"),.int k,.int o]] S=.ok b S)(e:c "function_of" [b] S=.ok a S1):Sm c [Z9 (.int sw),Z9 (.tup [.str (Str.ofString "at"),.int k,.int o]),Z8,Z8,Z8] S=.rt a S1:=by simp[Sm,d,e]
theorem oM(h:JF cl)(n:Nat)(sw k o:Int)(S:ZX):cl (n+1) "lone_net" [.int sw,(Tr.lf k o).d] S=.ok (WR sw k o).d S:=by rw[h];exact YC rfl (by simp[Nc,XB,Tr.d,WR,XJ.d,Ct.d])
theorem Jn(c:ZQ){r:Bool}{sw:D}{X:yM}{a p b d:D}{w4:Option D}{S g S2:ZX}(f:c "tree_function" [sw,p] S=.ok b g)(e:c (if r then "where_both" else "where_either") [a,b] g=.ok d S2):PR c [Z9 sw,Z9 (.tup [.str (kw r),.tup X]),Z9 a,Z9 p,w4] S=.nx [Z9 sw,Z9 (.tup [.str (kw r),.tup X]),Z9 d,Z9 p,Z9 b] S2:=by
 cases r
 .rw[if_neg qB4]at e;simp[PR,f,D9,e]
 .rw[if_pos rfl]at e;simp[PR,f,D9,e]
theorem oK(c:ZQ){r:Bool}{sw p0 a d:D}{ps:yM}{w3 w4:Option D}{S b S2:ZX}(f:Yb (p0::ps) (Z9 1) Z8=ps)(i:ps.length<lim)(g:c "tree_function" [sw,p0] S=.ok a b)(e:Y4 [] (gN 3) (PR c) ps [Z9 sw,Z9 (.tup [.str (kw r),.tup (p0::ps)]),Z9 a,Z8,Z8] b=.nx [Z9 sw,Z9 (.tup [.str (kw r),.tup (p0::ps)]),Z9 d,w3,w4] S2):
  Sm c [Z9 sw,Z9 (.tup [.str (kw r),.tup (p0::ps)]),Z8,Z8,Z8] S=.rt d S2:=by have h:XW (p0::ps) 0=Z9 p0:=Vq rfl;simp[Sm,o6,h,g,f,e]
inductive oJ(sw:Int)(r:Bool)(X:yM)(t0:Tr)(ps:List Tr)(S0:ZX)(j:Nat)(B:ZT)(S:ZX):Prop
 |mk (w3 w4:Option D) (e:B=[Z9 (.int sw),Z9 (.tup [.str (kw r),.tup X]),Z9 (Zb ((ZE sw.toNat).map λst=>b1 (VP r st (t0.on st) (ps.take j)))),w3,w4]) (x:Ex S0 S)
theorem D3(r:Bool)(st:yA):∀(ps:List Tr) (a:Bool) (t:Tr),VP r st a (ps++[t])=Ui r (VP r st a ps) (t.on st)
 |[],_,_=>rfl
 |p::ps,a,t=>D3 r st ps (Ui r a (p.on st)) t
theorem oI(H:MO cl){sw:Int}(I:1<=sw)(X:sw<=4):∀(K:Nat) (t:Tr),t.ht<=K->t.wf sw->t.sz<=1000->∀(n:Nat) (S:ZX),VR (cl (n+K+5) "tree_function" [.int sw,t.d] S) (Zb (Q5 sw t)) S:=by
 have b:∀(k o),(Tr.lf k o).wf sw->∀n S,VR (cl (n+5) "tree_function" [.int sw,(Tr.lf k o).d] S) (Zb (Q5 sw (.lf k o))) S:=λk o e n S=>by obtain⟨v,m,u⟩:=H.f.fun n (oQ I X e) S;rw[oO]at m;refine⟨v,?_,u⟩;rw[show n+5=(n+4)+1 from rfl,H.tf];exact YC rfl (oN _ (oM H.ln (n+3) sw k o S) m)
 intro K
 induction K with
 |zero =>
  intro t ht e z n S;cases t with
  |lf k o=>exact b k o e n S
  |nd r ps=>simp[Tr.ht]at ht
 |succ K V =>
  intro t ht e z n S;cases t with
  |lf k o=>exact b k o e (n+(K+1)) S
  |nd r ps =>
   have O:Tr.hts ps+1<=K+1:=ht;have R:Tr.szs ps+1<=1000:=z;have h:2<=ps.length/\Tr.wfs sw ps:=e;cases ps with
   |nil=>simp at h
   |cons a ps =>
    have c:=λt s S=>V t (by have:=Ec s;omega) (D8 h.2 t s) (by have:=Eb s;omega) n S;obtain⟨v,m,u⟩:=c a (by simp) S;obtain⟨Y,M,F,W,G,A,Q⟩:=Wq (g:=gN 3) (items:=ps.map Tr.d) (oJ sw r (a.d::ps.map Tr.d) a ps v)
     (λ_ _ _ _=>Yg _) ⟨_,_,rfl,Kp.refl _ _⟩
     (λj d B P p N=>by
      obtain⟨W,G,rfl,x⟩:=N;rw[qB2]at p;obtain⟨t,w,rfl⟩:=qA5.mp p;obtain⟨l,T,D⟩:=c t (qD0 _ (qB6 w)) P;have J:ps.take (j+1)=ps.take j++[t]:=by rw[qQ6,w];rfl
      have y:((ZE sw.toNat).map λst=>b1 (VP r st (a.on st) (ps.take j))).length<=16:=by rw[qA3,Uk];have:=Jp (j:=sw.toNat) (by omega);omega
      have E:∃S4,cl (n+K+5) (if r then "where_both" else "where_either") [Zb ((ZE sw.toNat).map λst=>b1 (VP r st (a.on st) (ps.take j))),Zb (Q5 sw t)] l=.ok (Zb ((ZE sw.toNat).map λst=>b1 (VP r st (a.on st) (ps.take (j+1))))) S4/\Ex l S4:=by
       have q:=oR r (ZE sw.toNat) (λst=>VP r st (a.on st) (ps.take j)) (λst=>t.on st);have C:((ZE sw.toNat).map λst=>b1 (VP r st (a.on st) (ps.take (j+1))))=(ZE sw.toNat).map λst=>b1 (Ui r (VP r st (a.on st) (ps.take j)) (t.on st)):=qF0 λst _=>by rw[J,D3]
       rw[C,<- q];cases r
       .obtain⟨S4,i,f⟩:=oW H.we (n+K+4) y (MP _ _) (MP (ZE sw.toNat) λst=>t.on st) l;exact⟨S4,i,f⟩
       .obtain⟨S4,i,f⟩:=oX H.wb (n+K+4) y (MP _ _) (MP (ZE sw.toNat) λst=>t.on st) l;exact⟨S4,i,f⟩
      obtain⟨S4,i,f⟩:=E;exact⟨_,_,rfl,_,S4,.inl (Jn _ T i),⟨_,_,rfl,(x.trans D).trans f⟩⟩)
    rw[qA3,qI7]at A;subst A;have p:(Tr.nd r (a::ps)).d=.tup [.str (kw r),.tup (a.d::ps.map Tr.d)]:=by simp[Tr.d,Tr.ds,Ed]
    have L:Q5 sw (.nd r (a::ps))=(ZE sw.toNat).map λst=>b1 (VP r st (a.on st) ps):=by exact qF0 λst _=>by rw[oV]
    have U:Yb (a.d::ps.map Tr.d) (Z9 1) Z8=ps.map Tr.d:=by rw[EA _ (by decide)];rfl
    refine⟨M,?_,u.trans Q⟩;rw[show n+(K+1)+5=(n+K+5)+1 by omega,H.tf,p,L];exact YC rfl (oK _ U (by rw[qA3,YB];have:=Ea (a::ps);simp at this;omega) m F)
noncomputable def ZA(a:Nat)(bs:List Bool):Nat:=bs.foldl (λn b=>2*n+b.toNat) a
theorem Vu(a:Nat)(x:Bool):(2*a+x.toNat) / 2=a:=by cases x<;>simp<;>omega
theorem oH(a b:Nat)(x y:Bool):(2*a+x.toNat) &&& (2*b+y.toNat)=2*(a &&& b)+(x&&y).toNat:=by
 apply qP3;intro i;cases i with
 |zero=>cases x<;>cases y<;>simp[qO8]
 |succ i=>rw[qO8,qJ1,qJ1,qJ1,Vu,Vu,Vu,qO8]
theorem oG(a b:Nat)(x y:Bool):(2*a+x.toNat)||| (2*b+y.toNat)=2*(a ||| b)+(x||y).toNat:=by
 apply qP3;intro i;cases i with
 |zero=>cases x<;>cases y<;>simp[qP4]
 |succ i=>rw[qP4,qJ1,qJ1,qJ1,Vu,Vu,Vu,qP4]
section
variable {α:Type}
theorem D2(f g:α->Bool):∀(l:List α) (a b:Nat),ZA a (l.map f) &&& ZA b (l.map g)=ZA (a &&& b) (l.map λs=>f s&&g s)
 |[],a,b=>rfl
 |s::l,a,b=>by show ZA (2*a+(f s).toNat) (l.map f) &&& ZA (2*b+(g s).toNat) (l.map g)=ZA (2*(a &&& b)+(f s&&g s).toNat) _;rw[D2 f g l,oH]
theorem DZ(f g:α->Bool):∀(l:List α) (a b:Nat),ZA a (l.map f)||| ZA b (l.map g)=ZA (a ||| b) (l.map λs=>f s||g s)
 |[],a,b=>rfl
 |s::l,a,b=>by show ZA (2*a+(f s).toNat) (l.map f)||| ZA (2*b+(g s).toNat) (l.map g)=ZA (2*(a ||| b)+(f s||g s).toNat) _;rw[DZ f g l,oG]
end
theorem OV:∀(bs:List Bool) (a:Nat),ZA a bs<(a+1)*2 ^ bs.length
 |[],a=>by simp[ZA]
 |x::bs,a=>by have h:=OV bs (2*a+x.toNat);refine qB3 h ?_;rw[qC3,qO3,Nat.mul_comm (2 ^ bs.length) 2,<- Nat.mul_assoc];exact qP5 _ (by cases x<;>simp<;>omega)
noncomputable def X8(sw:Nat)(k o:Int):Nat:=ZA 0 ((ZE sw).map λst=>decide (st.getD k.toNat 0=o))
noncomputable def Zd(sw:Nat):List Nat:=(List.range sw).flatMap fun(k:Nat)=>[X8 sw k 0,X8 sw k 1]
noncomputable def NN(sw:Nat):Nat:=2 ^ 2 ^ sw
open Classical in
noncomputable def OU(sw:Nat)(T:List (List Nat)):List Nat:=(List.range (NN sw)).filter λz=>decide ((∀x∈T,z∉x)/\∃l,l<(T.length+1) / 2/\∃a∈T.getD l [],∃b∈T.getD (T.length - 1 - l) [],z=a &&& b∨z=a ||| b)
noncomputable def Vt(sw:Nat):Nat->List (List Nat)
 |0=>[Zd sw]
 |m+1=>Vt sw m++[OU sw (Vt sw m)]
noncomputable def lv(sw m:Nat):List Nat:=(Vt sw m).getD m []
theorem OT(sw:Nat):∀m,(Vt sw m).length=m+1
 |0=>rfl
 |m+1=>by simp[Vt,OT sw m]
theorem Sd(sw:Nat):∀(m i:Nat),i<=m->(Vt sw m).getD i []=lv sw i
 |0,i,h=>by
  have:i=0:=by omega
  subst this;rfl
 |m+1,i,h=>by
  by_cases a:i=m+1
  .subst a;rfl
  .have b:=OT sw m;show(Vt sw m++[OU sw (Vt sw m)]).getD i []=_;rw[qG3,qA8 (by omega),<- qG3];exact Sd sw m i (by omega)
theorem oF(sw:Nat){m:Nat}{x:List Nat}(h:x∈Vt sw m):∃i,i<=m/\x=lv sw i:=by obtain⟨i,a,rfl⟩:=qM8 h;have b:=OT sw m;refine⟨i,by omega,?_⟩;rw[<- Sd sw m i (by omega),qG3,qA6 a];rfl
theorem oE(sw:Nat){m i:Nat}(h:i<=m):lv sw i∈Vt sw m:=by have a:=OT sw m;rw[<- Sd sw m i h,qG3,qA6 (by omega)];exact qD7 _
theorem OS(sw z:Nat):z∈lv sw 0↔z∈Zd sw:=Iff.rfl
def DY(T:Nat->List Nat)(m z:Nat):Prop:=∃l,l<(m+1) / 2/\∃a∈T l,∃b∈T (m - 1 - l),z=a &&& b∨z=a ||| b
theorem Q4(sw m z:Nat):z∈lv sw (m+1)↔z<NN sw/\(∀i,i<=m->z∉lv sw i)/\DY (lv sw) (m+1) z:=by
 have d:=OT sw m;have e:lv sw (m+1)=OU sw (Vt sw m):=by show(Vt sw m++[OU sw (Vt sw m)]).getD (m+1) []=_;rw[qG3,qA0 (by omega),d,qJ4];rfl
 rw[e];unfold OU DY;rw[qE3,qE0];simp only[decide_eq_true_eq,d];refine and_congr_right λ_=>and_congr ⟨λh i b=>h _ (oE sw b),λh x f=>?_⟩ ?_
 .obtain⟨i,b,rfl⟩:=oF sw f;exact h i b
 .refine⟨λ⟨l,c,a⟩=>⟨l,c,?_⟩,λ⟨l,c,a⟩=>⟨l,c,?_⟩⟩
  .rw[Sd sw m l (by omega),Sd sw m _ (by omega)]at a;exact a
  .rw[Sd sw m l (by omega),Sd sw m _ (by omega)];exact a
theorem oD(sw:Nat){z:Nat}(h:z∈Zd sw):z<NN sw:=by
 obtain⟨k,_,h⟩:=qJ2.mp h;have g:=λo=>by have:=OV ((ZE sw).map λst=>decide (st.getD (k:Int).toNat 0=o)) 0;rw[qA3,Uk]at this;simpa[NN]using this
 simp at h;rcases h with rfl|rfl<;>exact g _
theorem V3(sw:Nat):∀(m:Nat) {z:Nat},z∈lv sw m->z<NN sw
 |0,z,h=>oD sw h
 |m+1,z,h=>((Q4 sw m z).mp h).1
theorem Q3(sw:Nat){i j z:Nat}(a:z∈lv sw i)(b:z∈lv sw j):i=j:=by
 rcases Nat.lt_trichotomy i j with h|h|h
 .cases j with
  |zero=>omega
  |succ j=>exact absurd a (((Q4 sw j z).mp b).2.1 i (by omega))
 .exact h
 .cases i with
  |zero=>omega
  |succ i=>exact absurd b (((Q4 sw i z).mp a).2.1 j (by omega))
theorem zJZ{sw a b z:Nat}(c:a<NN sw)(d:b<NN sw)(h:z=a &&& b∨z=a ||| b):z<NN sw:=by
 rcases h with rfl|rfl
 .exact qG6 Nat.and_le_left c
 .exact Nat.or_lt_two_pow c d
def Kn(sw m z:Nat):Prop:=∃i,i<=m/\z∈lv sw i
theorem MN{sw m k z:Nat}(h:Kn sw m z)(hk:m<=k):Kn sw k z:=let ⟨i,hi,h⟩:=h;⟨i,by omega,h⟩
theorem Q2{sw i j a b z:Nat}(f:Kn sw i a)(d:Kn sw j b)(h:z=a &&& b∨z=a ||| b):Kn sw (i+j+1) z:=by
 obtain⟨e,o,f⟩:=f;obtain⟨c,p,d⟩:=d;refine Classical.byContradiction λg=>?_;have n:=zJZ (V3 sw _ f) (V3 sw _ d) h;refine g ⟨e+c+1,by omega,(Q4 sw _ z).mpr ⟨n,λk hk l=>g ⟨k,by omega,l⟩,?_⟩⟩;by_cases m:e<=c
 .refine⟨e,by omega,a,f,b,?_,h⟩;rw[show e+c+1 - 1 - e=c by omega];exact d
 .refine⟨c,by omega,b,d,a,?_,?_⟩
  .simp_all
  .rw[Nat.and_comm,Nat.or_comm b a];exact h
theorem OQ{sw z:Nat}(h:z∈Zd sw):Kn sw 0 z:=⟨0,qA7 _,h⟩
theorem oC{sw a b c:Nat}(e:a∈Zd sw)(d:b∈Zd sw)(f:c∈Zd sw):Kn sw 2 (a &&& b &&& c):=Q2 (Q2 (OQ e) (OQ d) (.inl rfl)) (OQ f) (.inl rfl)
noncomputable def Uh(n x:Nat):List Nat:=(List.range n).filter λj=>x.testBit j
noncomputable def OP(js:List Nat)(a:Nat):Nat:=js.foldl (λn j=>n ||| 2 ^ j) a
theorem DX{sw:Nat}(b:∀j,j<2 ^ sw->Kn sw 2 (2 ^ j)):∀(js:List Nat) (a m:Nat),(∀j∈js,j<2 ^ sw)->Kn sw m a->Kn sw (m+3*js.length) (OP js a)
 |[],a,m,_,h=>h
 |j::js,a,m,hs,h=>by have d:=Q2 h (b j (hs j (by simp))) (.inr rfl);have e:=DX b js (a ||| 2 ^ j) (m+2+1) (λi c=>hs i (by simp[c])) d;exact MN e (by simp;omega)
theorem Jm:∀j,j<2 ^ 1->∃a∈Zd 1,∃b∈Zd 1,∃c∈Zd 1,2 ^ j=a &&& b &&& c:=by decide +kernel
theorem Jl:∀j,j<2 ^ 2->∃a∈Zd 2,∃b∈Zd 2,∃c∈Zd 2,2 ^ j=a &&& b &&& c:=by decide +kernel
theorem Jk:∀j,j<2 ^ 3->∃a∈Zd 3,∃b∈Zd 3,∃c∈Zd 3,2 ^ j=a &&& b &&& c:=by decide +kernel
theorem oB:∃a∈Zd 1,∃b∈Zd 1,0=a &&& b:=by decide +kernel
theorem oA:∃a∈Zd 2,∃b∈Zd 2,0=a &&& b:=by decide +kernel
theorem oz:∃a∈Zd 3,∃b∈Zd 3,0=a &&& b:=by decide +kernel
theorem oy:∀x,x<256->x=OP (Uh 8 x) 0/\(Uh 8 x).length<=8:=by decide +kernel
theorem DW:∀x,x<16->x=OP (Uh 4 x) 0/\(Uh 4 x).length<=4:=by decide +kernel
theorem DV:∀x,x<4->x=OP (Uh 2 x) 0/\(Uh 2 x).length<=2:=by decide +kernel
theorem Jj{sw:Nat}(l:∀j,j<2 ^ sw->∃a∈Zd sw,∃b∈Zd sw,∃c∈Zd sw,2 ^ j=a &&& b &&& c)(m:∃a∈Zd sw,∃b∈Zd sw,0=a &&& b){x:Nat}(h:x=OP (Uh (2 ^ sw) x) 0/\(Uh (2 ^ sw) x).length<=8):Kn sw 25 x:=by
 obtain⟨a,f,b,d,e⟩:=m;have i:Kn sw 1 0:=Q2 (OQ f) (OQ d) (.inl e);have:=DX (λj g=>by
  obtain⟨a,f,b,d,c,k,e⟩:=l j g;rw[e];exact oC f d k) (Uh (2 ^ sw) x) 0 1 (λj g=>by exact qE0.mp (qE3.mp g).1) i
 rw[h.1];exact MN this (by omega)
theorem DU{sw x:Nat}(c:1<=sw)(b:sw<=3)(a:x<NN sw):Kn sw 25 x:=by
 have:sw=1∨sw=2∨sw=3:=by omega
 rcases this with rfl|rfl|rfl
 .exact Jj Jm oB ⟨(DV x a).1,by have:=(DV x a).2;exact qC6 this (by decide)⟩
 .exact Jj Jl oA ⟨(DW x a).1,by have:=(DW x a).2;exact qC6 this (by decide)⟩
 .exact Jj Jk oz (oy x a)
noncomputable def YF(z:Nat):ZJ:=.inl (z:Int)
def Y1(kvs:List (ZJ×D))(xs:List Nat):Prop:=kvs.map (·.1)=xs.map YF
theorem MM{a b:Nat}(h:YF a=YF b):a=b:=by have:=Sum.inl.inj h;omega
theorem DT:∀{kvs:List (ZJ×D)}{xs:List Nat},Y1 kvs xs->∀z:Nat,(kvs.any λa=>decide (a.1=YF z))=decide (z∈xs)
 |[],[],_,z=>rfl
 |[],x::xs,h,z=>by simp[Y1]at h
 |p::kvs,[],h,z=>by simp[Y1]at h
 |p::kvs,x::xs,h,z=>by
  simp only[Y1,qC7,qL6.injEq]at h;rw[qG0,DT h.2,h.1];by_cases e:x=z
  .subst e;simp
  .have:YF x≠YF z:=λq=>e (MM q);simp[this,Ne.symm e]
theorem ML:∀{kvs:List (ZJ×D)}{xs:List Nat},Y1 kvs xs->∀z:Nat,(z∉xs->Yy kvs (YF z)=Z8)/\(z∈xs->∃d,Yy kvs (YF z)=Z9 d/\(YF z,d)∈kvs)
 |[],[],_,z=>⟨λ_=>rfl,λh=>by cases h⟩
 |[],x::xs,h,z=>by simp[Y1]at h
 |p::kvs,[],h,z=>by simp[Y1]at h
 |p::kvs,x::xs,h,z=>by
  simp only[Y1,qC7,qL6.injEq]at h;obtain⟨g,i⟩:=ML h.2 z;obtain⟨k,v⟩:=p;dsimp only at h;have e:Yy ((k,v)::kvs) (YF z)=if k=YF z then Z9 v else Yy kvs (YF z):=by
   unfold Yy;by_cases q:k=YF z
   .simp[q]
   .simp[q]
  rw[e,h.1];by_cases q:x=z
  .simp_all
  .have:=λw=>q (MM w);rw[if_neg this];refine⟨λf=>g λc=>f (qD0 _ c),λc=>?_⟩;rcases qA9.mp c with rfl|c
   .exact absurd rfl q
   .obtain⟨d,a,b⟩:=i c;exact⟨d,a,qD0 _ b⟩
noncomputable def X7(xs:List Nat)(z:Nat):List Nat:=if z∈xs then xs else xs++[z]
theorem Sb{xs:List Nat}{z x:Nat}:x∈X7 xs z↔x∈xs∨x=z:=by
 unfold X7;split
 .simp_all
 .simp
theorem MK{xs:List Nat}{z:Nat}(h:xs.Nodup):(X7 xs z).Nodup:=by
 unfold X7;split
 .exact h
 .rename_i f;rw[qF3];refine⟨h,by simp,λa d b c=>?_⟩;simp at c;subst c;exact λe=>f (e▸d)
theorem MJ{kvs:List (ZJ×D)}{xs:List Nat}(h:Y1 kvs xs)(z:Nat)(d:D):Y1 (Yx kvs (YF z) d) (X7 xs z)/\∀p∈Yx kvs (YF z) d,p∈kvs∨p=(YF z,d):=by
 unfold Yx X7;rw[DT h];by_cases a:z∈xs
 .rw[if_pos (by simpa using a),if_pos a];refine⟨?_,λp b=>?_⟩
  .unfold Y1 at h ⊢;rw[<- h,qC8];refine qF0 λq _=>?_;show(if q.1=YF z then(q.1,d)else q).1=q.1;split<;>rfl
  .obtain⟨q,c,rfl⟩:=qD9.mp b;by_cases e:q.1=YF z
   .rw[if_pos e,e];exact .inr rfl
   .rw[if_neg e];exact .inl c
 .rw[if_neg (by simpa using a),if_neg a];refine⟨by unfold Y1 at h ⊢;rw[qE1,qE1,h];rfl,λp b=>?_⟩;rcases qB9.mp b with q|q
  .exact .inl q
  .simp at q;exact .inr q
theorem Ug{kvs:List (ZJ×D)}{xs:List Nat}(h:Y1 kvs xs):kvs.length=xs.length:=by have:=congrArg qK4 h;simpa using this
theorem OO:∀{more kvs:List (ZJ×D)}{c xs:List Nat},Y1 more c->Y1 kvs xs->∃ys,Y1 (YJ kvs more) ys/\(∀z,z∈ys↔z∈xs∨z∈c)/\(xs.Nodup->ys.Nodup)
 |[],kvs,c,xs,h,g=>by
  have:c=[]:=by cases c with|nil=>rfl|cons a b=>simp[Y1]at h
  subst this;exact⟨xs,g,by simp,id⟩
 |p::more,kvs,[],xs,h,g=>by simp[Y1]at h
 |p::more,kvs,m::c,xs,h,g=>by
  simp only[Y1,qC7,qL6.injEq]at h;obtain⟨ys,f,i,e⟩:=OO h.2 (MJ g m p.2).1;refine⟨ys,?_,λz=>?_,λd=>e (MK d)⟩
  .show Y1 (YJ (Yx kvs p.1 p.2) more) ys;rw[h.1];exact f
  .rw[i,Sb,qA9];constructor
   .rintro((h|h)| h)
    .exact .inl h
    .exact .inr (.inl h)
    .exact .inr (.inr h)
   .rintro(h|h|h)
    .exact .inl (.inl h)
    .exact .inl (.inr h)
    .exact .inr h
theorem DS:∀{kvs:List (ZJ×D)}{xs:List Nat},Y1 kvs xs->(kvs.map λp=>kD p.1)=xs.map λz=>D.int ((z:Nat):Int)
 |kvs,xs,h=>by
  have:(kvs.map λp=>kD p.1)=(kvs.map (·.1)).map kD:=by rw[qC8];rfl
  rw[this,h,qC8];rfl
theorem DR{S:ZX}{m:Nat}{kvs:List (ZJ×D)}(h:Zt S m=Z9 kvs)(z:Nat):dictAt S m (.int z)=Z9 (Yy kvs (YF z)):=by
 unfold Zt at h;unfold dictAt;split at h
 .rename_i e;cases h;first|rfl|(rw[e];rfl)
 .rename_i e;cases h;first|rfl|(rw[e];rfl)
 .cases h
theorem Tw{S:ZX}{m:Nat}{kvs:List (ZJ×D)}{xs:List Nat}(h:Zt S m=Z9 kvs)(hk:Y1 kvs xs)(neg:Bool)(z:Nat):YG neg (.int z) (.dct m) S=.ok (.bl (if neg then !decide (z∈xs)else decide (z∈xs))) S:=by
 show(match dictAt S m (.int z)with|some o=>R.ok (D.bl (if neg then !o.isSome else o.isSome)) S|none=>.bad)=_;rw[DR h];dsimp only;by_cases a:z∈xs
 .obtain⟨d,e,_⟩:=(ML hk z).2 a;rw[e];simp[a]
 .rw[(ML hk z).1 a];simp[a]
theorem DQ{S:ZX}{m:Nat}{kvs:List (ZJ×D)}{xs:List Nat}(h:Zt S m=Z9 kvs)(hk:Y1 kvs xs){z:Nat}(a:z∈xs):∃d,Zu (.dct m) (.int z) S=.ok d S/\(YF z,d)∈kvs:=by obtain⟨d,e,q⟩:=(ML hk z).2 a;refine⟨d,?_,q⟩;show(match dictAt S m (.int z)with|some (Z9 d)=>R.ok d S|_=>.bad)=_;rw[DR h,e]
theorem Ji{S:ZX}{m:Nat}{kvs:List (ZJ×D)}(h:S[m]?=Z9 (.dk kvs))(a:kvs.length<lim)(z:Nat)(d:D):Ya (.dct m) (.int z) d S=Z9 (S.set m (.dk (Yx kvs (YF z) d))):=by unfold Ya;dsimp only;rw[h];show(if kvs.length<lim then Z9 (S.set m (.dk (Yx kvs (.inl z) d)))else Z8)=_;rw[if_pos a];rfl
theorem Sa{S:ZX}{m:Nat}{kvs:List (ZJ×D)}(h:S[m]?=Z9 (.dk kvs)):Zt S m=Z9 kvs:=by unfold Zt;rw[h]
theorem DP{S:ZX}{m:Nat}{kvs:List (ZJ×D)}(h:S[m]?=Z9 (.fk kvs)):Zt S m=Z9 kvs:=by unfold Zt;rw[h]
theorem U7{P:Nat->Prop}{S a:ZX}(h:Kp P S a){m:Nat}{kvs:List (ZJ×D)}(e:Zt S m=Z9 kvs)(n:¬P m):Zt a m=Z9 kvs:=by
 unfold Zt at e ⊢;split at e
 .rename_i q;rw[h.at q n];exact e
 .rename_i q;rw[h.at q n];exact e
 .cases e
theorem ox{S:ZX}{m:Nat}{kvs:List (ZJ×D)}(e:Zt S m=Z9 kvs):m<S.length:=by
 unfold Zt at e;split at e
 .rename_i q;exact(qA1.mp q).1
 .rename_i q;exact(qA1.mp q).1
 .cases e
theorem DO{c:C}{B:ZT}{S:ZX}{m:Nat}{kvs:List (ZJ×D)}{xs:List Nat}(b:c B S=.ok (.dct m) S)(h:Zt S m=Z9 kvs)(hk:Y1 kvs xs):∃a,Zy c B S=.ok (xs.map λz=>D.int ((z:Nat):Int),[]) a/\Kp (·=m) S a/\Zt a m=Z9 kvs/\a.length=S.length:=by
 unfold Zt at h;rw[qr,b];split at h
 .rename_i e;cases h;refine⟨S.set m (.fk kvs),?_,WJ S _,DP (qC9 (qA1.mp e).1),by simp⟩;simp only[X2,e,DS hk]
 .rename_i e;cases h;refine⟨S,?_,Kp.refl _ _,DP e,rfl⟩;simp only[X2,e,DS hk]
 .cases h
theorem Vn{α Z:Type}(e:α->D)(f:Z->α->Z)(P:Z->ZT->ZX->Prop){w:Xi}{g:G}{b:CS}(d:∀s B S,P s B S->XT w S):∀(l:List α) {s:Z}{B:ZT}{S:ZX},P s B S->(∀s a B S,a∈l->P s B S->UQ g b (e a) B S (P (f s a)))->Sr (Y4 w g b (l.map e) B S) (P (l.foldl f s))
 |[],s,B,S,h0,hs=>⟨B,S,by rw[qR0];unfold Y4;rw[if_pos (d s B S h0)],h0⟩
 |a::l,s,B,S,h0,hs=>by
  obtain⟨q,t,m,p,r,c,j⟩:=hs s a B S (by simp) h0;obtain⟨i,o,h,k⟩:=Vn e f P d l j λs a B S n=>hs s a B S (by simp[n]);refine⟨i,o,?_,k⟩;rw[qC7];unfold Y4;rw[if_pos (d s B S h0),m];dsimp only;rcases c with c|c
  .rw[c];exact h
  .rw[c];exact h
theorem MI(a b:Nat):jI a b=((a &&& b:Nat):Int):=rfl
theorem Jh(a b:Nat):vC a b=((a ||| b:Nat):Int):=by
 have c:∀x:Int,wZ (wZ x)=x:=λx=>by unfold wZ;omega
 have d:∀x:Nat,decide (0<=wZ x)=Z5:=λx=>by rw[decide_eq_false_iff_not];unfold wZ;omega
 unfold vC jI;rw[d,d];rw[c,c,c];rfl
theorem Vm:∀(n:Nat) {l:List Nat},l.Nodup->(∀z∈l,z<n)->l.length<=n
 |0,l,_,h=>by
  cases l with
  |nil=>simp
  |cons a r=>exact absurd (h a (by simp)) (qO7 _)
 |n+1,l,nd,h=>by
  by_cases c:n∈l
  .have d:=Vm n (nd.erase n) λz b=>by
    have g:=h z (List.mem_of_mem_erase b);have f:z≠n:=λe=>by subst e;exact(List.Nodup.not_mem_erase nd) b
    omega
   rw[qO0 c]at d;omega
  .have d:=Vm n nd λz b=>by have g:=h z b;have f:z≠n:=λe=>c (e▸b);omega
   omega
noncomputable def X6(xk acc:List Nat)(z:Nat):List Nat:=if z∈xk then acc else X7 acc z
theorem DN{xk acc:List Nat}{z x:Nat}:x∈X6 xk acc z↔x∈acc∨(x=z/\z∉xk):=by
 unfold X6;split
 .simp_all
 .rename_i h;rw[Sb];simp[h]
noncomputable def Xm(xk:List Nat)(a:Nat)(acc:List Nat)(b:Nat):List Nat:=X6 xk (X6 xk acc (a &&& b)) (a ||| b)
noncomputable def allN(xk x1 x2 acc:List Nat):List Nat:=x1.foldl (λs a=>x2.foldl (Xm xk a) s) acc
theorem DM{xk:List Nat}{a:Nat}:∀{x2 acc:List Nat}{x:Nat},x∈x2.foldl (Xm xk a) acc↔x∈acc∨(x∉xk/\∃b∈x2,x=a &&& b∨x=a ||| b)
 |[],acc,x=>by simp
 |b::x2,acc,x=>by
  rw[qM3,DM,Xm,DN,DN];constructor
  .rintro(((h|⟨rfl,h⟩)| ⟨rfl,h⟩)| ⟨h,c,d,q⟩)
   .exact .inl h
   .simp_all
   .simp_all
   .exact .inr ⟨h,c,by simp[d],q⟩
  .rintro(h|⟨h,c,d,q⟩)
   .exact .inl (.inl (.inl h))
   .rcases qA9.mp d with rfl|d
    .rcases q with rfl|rfl
     .simp_all
     .exact .inl (.inr ⟨rfl,h⟩)
    .exact .inr ⟨h,c,d,q⟩
theorem Jg{xk x2:List Nat}:∀{x1 acc:List Nat}{x:Nat},x∈allN xk x1 x2 acc↔x∈acc∨(x∉xk/\∃a∈x1,∃b∈x2,x=a &&& b∨x=a ||| b)
 |[],acc,x=>by simp[allN]
 |a::x1,acc,x=>by
  have e:=Jg (xk:=xk) (x2:=x2) (x1:=x1) (acc:=x2.foldl (Xm xk a) acc) (x:=x);unfold allN at e ⊢;rw[qM3,e,DM];constructor
  .rintro((h|⟨h,q⟩)| ⟨h,c,d,q⟩)
   .exact .inl h
   .simp_all
   .exact .inr ⟨h,c,by simp[d],q⟩
  .rintro(h|⟨h,c,d,q⟩)
   .exact .inl (.inl h)
   .rcases qA9.mp d with rfl|d
    .exact .inl (.inr ⟨h,q⟩)
    .exact .inr ⟨h,c,d,q⟩
inductive AM(S0:ZX)(L n1 n2 nk:Nat)(k1 k2 kk:List (ZJ×D))(V:Nat->D->Prop)(acc:List Nat)(S:ZX):Prop
 |mk (kl:List (ZJ×D)) (hL:S[L]?=Z9 (.dk kl)) (ky:Y1 kl acc) (v:∀z d,(YF z,d)∈kl->V z d) (nd:acc.Nodup) (bd:∀z∈acc,z<256) (h1:Zt S n1=Z9 k1) (h2:Zt S n2=Z9 k2) (hk:Zt S nk=Z9 kk) (kp:Kp (λj=>j=L∨j=n1∨j=n2) S0 S)
structure AH(L n1 n2 nk:Nat)(k1 k2 kk:List (ZJ×D))(x1 x2 xk:List Nat)(V1 V2 V:Nat->D->Prop):Prop where
 l1:n1≠L
 l2:n2≠L
 lk:nk≠L
 ky1:Y1 k1 x1
 ky2:Y1 k2 x2
 kyk:Y1 kk xk
 b1:∀z∈x1,z<256
 b2:∀z∈x2,z<256
 v1:∀z d,(YF z,d)∈k1->V1 z d
 v2:∀z d,(YF z,d)∈k2->V2 z d
 va:∀a b d e,V1 a d->V2 b e->V (a &&& b) (.tup [.str (Str.ofString "row"),.tup [d,e]])
 vo:∀a b d e,V1 a d->V2 b e->V (a ||| b) (.tup [.str (Str.ofString "side"),.tup [d,e]])
section
variable {S0:ZX}{L n1 n2 nk:Nat}{k1 k2 kk:List (ZJ×D)}{x1 x2 xk:List Nat}{V1 V2 V:Nat->D->Prop}
theorem AM.put{acc:List Nat}{S:ZX}(h:AM S0 L n1 n2 nk k1 k2 kk V acc S)(H:AH L n1 n2 nk k1 k2 kk x1 x2 xk V1 V2 V){z:Nat}(s:z<256){d:D}(x:V z d)(hk:z∉xk):∃S1,Ya (.dct L) (.int z) d S=Z9 S1/\AM S0 L n1 n2 nk k1 k2 kk V (X6 xk acc z) S1:=by
 obtain⟨c,g,l,v,k,m,u,w,b,kp⟩:=h;have B:c.length<lim:=by rw[Ug l];exact qG6 (Vm 256 k m) (by decide)
 have f:=(qA1.mp g).1;have a:=WJ (i:=L) S (.dk (Yx c (YF z) d));obtain⟨t,r⟩:=MJ l z d;have C:X6 xk acc z=X7 acc z:=by unfold X6;rw[if_neg hk]
 rw[C];refine⟨_,Ji g B z d,Yx c (YF z) d,qC9 f,t,λy e o=>?_,MK k,λy p=>?_,U7 a u H.l1,U7 a w H.l2,U7 a b H.lk,kp.trans (a.mono λj _ e=>.inl e)⟩
 .rcases r _ o with q|q
  .exact v y e q
  .have A:=MM (congrArg Prod.fst q);have n:e=d:=congrArg Prod.snd q;rw[A,n];exact x
 .rcases Sb.mp p with q|rfl
  .exact m y q
  .exact s
noncomputable def XX(L b c a:Nat)(w4 w5 w6 w7:Option D):ZT:=[Z9 (.dct L),Z9 (.dct b),Z9 (.dct c),Z9 (.dct a),w4,w5,w6,w7]
theorem DK(c:ZQ){w4 w5 w6:Option D}{z:Int}{S:ZX}{p q:Bool}(a:YG Z7 (.int z) (.dct nk) S=.ok (.bl p) S)(b:YG Z7 (.int z) (.dct L) S=.ok (.bl q) S)(h:(p&&q)=Z5):Ra c (XX L n1 n2 nk w4 w5 w6 (Z9 (.int z))) S=.nx (XX L n1 n2 nk w4 w5 w6 (Z9 (.int z))) S:=by cases p<;>cases q<;>simp[XX]at h ⊢<;>simp[Ra,a,b]
theorem ow(c:ZQ){x y z:Int}{a:Str}{d e:D}{S S1:ZX}(g:YG Z7 (.int z) (.dct nk) S=.ok (.bl Z7) S)(h:YG Z7 (.int z) (.dct L) S=.ok (.bl Z7) S)(f:Zu (.dct n1) (.int x) S=.ok d S)(i:Zu (.dct n2) (.int y) S=.ok e S)(b:Ya (.dct L) (.int z) (.tup [.str a,.tup [d,e]]) S=Z9 S1):Ra c (XX L n1 n2 nk (Z9 (.int x)) (Z9 (.int y)) (Z9 (.str a)) (Z9 (.int z))) S=.nx (XX L n1 n2 nk (Z9 (.int x)) (Z9 (.int y)) (Z9 (.str a)) (Z9 (.int z))) S1:=by simp[XX,Ra,g,h,f,i,b]
theorem DJ(c:ZQ)(H:AH L n1 n2 nk k1 k2 kk x1 x2 xk V1 V2 V){acc:List Nat}{S:ZX}(h:AM S0 L n1 n2 nk k1 k2 kk V acc S){a b z:Nat}(C:a∈x1)(p:b∈x2){j:Str}(o:z<256)(t:∀d e,V1 a d->V2 b e->V z (.tup [.str j,.tup [d,e]]))(w6 w7:Option D):
  UQ (gT [(gN 6),(gN 7)]) (Ra c) (.tup [.str j,.int (z:Nat)]) (XX L n1 n2 nk (Z9 (.int (a:Nat))) (Z9 (.int (b:Nat))) w6 w7) S (fun B l=>∃w6 w7,B=XX L n1 n2 nk (Z9 (.int (a:Nat))) (Z9 (.int (b:Nat))) w6 w7/\AM S0 L n1 n2 nk k1 k2 kk V (X6 xk acc z) l):=by
 have x:=h;obtain⟨G,q,E,v,F,I,r,s,i,kp⟩:=x;have k:=Tw i H.kyk Z7 z;have g:=Tw (Sa q) E Z7 z;refine⟨XX L n1 n2 nk (Z9 (.int a)) (Z9 (.int b)) (Z9 (.str j)) (Z9 (.int z)),S,by simp[XX],?_⟩;by_cases hk:z∈xk
 .refine⟨_,_,.inl (DK c k g (by simp[hk])),_,_,rfl,?_⟩;unfold X6;rw[if_pos hk];exact h
 by_cases f:z∈acc
 .refine⟨_,_,.inl (DK c k g (by simp[f])),_,_,rfl,?_⟩;unfold X6 X7;rw[if_neg hk,if_pos f];exact h
 .obtain⟨d,n,u⟩:=DQ r H.ky1 C;obtain⟨e,w,y⟩:=DQ s H.ky2 p;obtain⟨l,m,A⟩:=h.put H o (t d e (H.v1 _ _ u) (H.v2 _ _ y)) hk;exact⟨_,l,.inl (ow c (by simpa[hk]using k) (by simpa[f]using g) n w m),_,_,rfl,A⟩
theorem ou(c:ZQ)(H:AH L n1 n2 nk k1 k2 kk x1 x2 xk V1 V2 V){acc:List Nat}{S:ZX}(h:AM S0 L n1 n2 nk k1 k2 kk V acc S){a b:Nat}(i:a∈x1)(g:b∈x2)(w6 w7:Option D):
  Sr (JC c (XX L n1 n2 nk (Z9 (.int (a:Nat))) (Z9 (.int (b:Nat))) w6 w7) S) (fun B j=>∃w6 w7,B=XX L n1 n2 nk (Z9 (.int (a:Nat))) (Z9 (.int (b:Nat))) w6 w7/\AM S0 L n1 n2 nk k1 k2 kk V (Xm xk a acc b) j):=by
 have A:=H.b1 a i;have n:=H.b2 b g;have lt:∀z,z=a &&& b∨z=a ||| b->z<256:=λz h=>zJZ (sw:=3) A n h;obtain⟨l,o,e,p⟩:=Vn (λp:Str×Nat=>D.tup [.str p.1,.int p.2]) (λs p=>X6 xk s p.2) (λs B j=>∃w6 w7,B=XX L n1 n2 nk (Z9 (.int a)) (Z9 (.int b)) w6 w7/\AM S0 L n1 n2 nk k1 k2 kk V s j) (λ_ _ S _=>Yg S) [(Str.ofString "row",a &&& b),(Str.ofString "side",a ||| b)] ⟨w6,w7,rfl,h⟩ (λs p B S k f=>by
  obtain⟨w6,w7,rfl,f⟩:=f;simp at k;rcases k with rfl|rfl
  .exact DJ c H f i g (lt _ (.inl rfl)) (λd e=>H.va a b d e) w6 w7
  .exact DJ c H f i g (lt _ (.inr rfl)) (λd e=>H.vo a b d e) w6 w7)
 refine⟨l,o,?_,p⟩;have m:Zy (Y2 (ZP [(Y2 (ZP [(ZW (.str (Str.ofString "row"))),(ZU (Zq jI) (ZY 4) (ZY 5))])),(Y2 (ZP [(ZW (.str (Str.ofString "side"))),(ZU (Zq vC) (ZY 4) (ZY 5))]))])) (XX L n1 n2 nk (Z9 (.int a)) (Z9 (.int b)) w6 w7) S=.ok ([(Str.ofString "row",a &&& b),(Str.ofString "side",a ||| b)].map (λp:Str×Nat=>D.tup [.str p.1,.int p.2]),[]) S:=by simp[XX,Jh,MI]
 unfold JC;rw[P4,Nw,m];show sb (Y4 [] _ _ _ _ S) ZH .mk=_;rw[e];rfl
theorem AM.froze{acc:List Nat}{S S1:ZX}(h:AM S0 L n1 n2 nk k1 k2 kk V acc S)(H:AH L n1 n2 nk k1 k2 kk x1 x2 xk V1 V2 V){m:Nat}(hm:m=n1∨m=n2)(kp:Kp (·=m) S S1){d:List (ZJ×D)}(s:Zt S m=Z9 d)(r:Zt S1 m=Z9 d):AM S0 L n1 n2 nk k1 k2 kk V acc S1:=by
 obtain⟨n,g,o,v,l,p,i,k,c,b⟩:=h;have a:∀{j:Nat}{ks':List (ZJ×D)},Zt S j=Z9 ks'->Zt S1 j=Z9 ks':=λ{j ks'} f=>by
  by_cases e:j=m
  .simp_all
  .exact U7 kp f e
 refine⟨n,kp.at g (λe=>?_),o,v,l,p,a i,a k,a c,b.trans (kp.mono λj _ e=>?_)⟩
 .rcases hm with q|q
  .exact H.l1 (q▸e.symm)
  .exact H.l2 (q▸e.symm)
 .omega
theorem ot(c:ZQ)(H:AH L n1 n2 nk k1 k2 kk x1 x2 xk V1 V2 V){acc:List Nat}{S:ZX}(h:AM S0 L n1 n2 nk k1 k2 kk V acc S){a:Nat}(o:a∈x1)(w5 w6 w7:Option D):
  Sr (JB c (XX L n1 n2 nk (Z9 (.int (a:Nat))) w5 w6 w7) S) (fun B d=>∃w5 w6 w7,B=XX L n1 n2 nk (Z9 (.int (a:Nat))) w5 w6 w7/\AM S0 L n1 n2 nk k1 k2 kk V (x2.foldl (Xm xk a) acc) d):=by
 have f:Zt S n2=Z9 k2:=by obtain⟨_,_,_,_,_,_,_,f,_,_⟩:=h;exact f
 obtain⟨d,t,kp,q,_⟩:=DO (c:=ZY 2) (B:=XX L n1 n2 nk (Z9 (.int a)) w5 w6 w7) (by simp[XX]) f H.ky2;have r:=h.froze H (.inr rfl) kp f q;obtain⟨j,v,e,p⟩:=Vn (λz:Nat=>D.int z) (Xm xk a) (λs B d=>∃w5 w6 w7,B=XX L n1 n2 nk (Z9 (.int a)) w5 w6 w7/\AM S0 L n1 n2 nk k1 k2 kk V s d) (g:=gN 5) (λ_ _ S _=>Yg S) x2 ⟨w5,w6,w7,rfl,r⟩ (λs b B S k i=>by
  obtain⟨w5,w6,w7,rfl,i⟩:=i;obtain⟨w,d,n,l,u,rfl,m⟩:=ou c H i o k w6 w7;exact⟨XX L n1 n2 nk (Z9 (.int a)) (Z9 (.int b)) w6 w7,S,by simp[XX],_,d,.inl n,_,_,_,rfl,m⟩)
 refine⟨j,v,?_,p⟩;unfold JB;rw[P4,Nw,t];show sb (Y4 [] _ _ _ _ d) ZH .mk=_;rw[e];rfl
theorem oq(hm:Sl cl)(n:Nat)(H:AH L n1 n2 nk k1 k2 kk x1 x2 xk V1 V2 V){acc:List Nat}{S:ZX}(h:AM S0 L n1 n2 nk k1 k2 kk V acc S):∃S1,cl (n+1) "add_made" [.dct L,.dct n1,.dct n2,.dct nk] S=.ok .non S1/\AM S0 L n1 n2 nk k1 k2 kk V (allN xk x1 x2 acc) S1:=by
 have j:Zt S n1=Z9 k1:=by obtain⟨_,_,_,_,_,_,j,_,_,_⟩:=h;exact j
 obtain⟨S1,v,kp,r,_⟩:=DO (c:=ZY 1) (B:=XX L n1 n2 nk Z8 Z8 Z8 Z8) (by simp[XX]) j H.ky1;have t:=h.froze H (.inl rfl) kp j r;obtain⟨y,x,e,i,b,f,d,rfl,p⟩:=Vn (λz:Nat=>D.int z) (λs a=>x2.foldl (Xm xk a) s) (λs B S1=>∃i b f d,B=XX L n1 n2 nk i b f d/\AM S0 L n1 n2 nk k1 k2 kk V s S1) (g:=gN 4) (λ_ _ S _=>Yg S) x1 ⟨Z8,Z8,Z8,Z8,rfl,t⟩ (λs a B S q k=>by
  obtain⟨i,b,f,d,rfl,k⟩:=k;obtain⟨A,S1,o,u,l,w,rfl,m⟩:=ot (cl n) H k q b f d;exact⟨XX L n1 n2 nk (Z9 (.int a)) b f d,S,by simp[XX],_,S1,.inl o,_,_,_,_,rfl,m⟩)
 refine⟨x,?_,p⟩;rw[hm];refine qd (B:=XX L n1 n2 nk i b f d) rfl ?_;show PJ (cl n) (XX L n1 n2 nk Z8 Z8 Z8 Z8) S=_;unfold PJ;rw[P4,Nw,v];show sb (Y4 [] _ _ _ _ S1) ZH .mk=_;rw[e];rfl
end
theorem DI{S:ZX}{n:Nat}{o:O}(h:S[n]?=Z9 o)(a:(match o with|.dk _=>Z7|.dt _=>Z7|_=>Z5)=Z7):Yk "dict" (.dct n) S=Z7:=by show(decide ("dict" = "dict")&&(match S[n]? with|some (.dk _)=>Z7|some (.dt _)=>Z7|_=>Z5))=Z7;rw[h];cases o<;>first|rfl|cases a
def VT(sw i z:Nat)(d:D):Prop:=∃t:Tr,d=t.d/\t.wf (sw:Int)/\t.lv=i+1/\t.ht<=i/\z=ZA 0 ((ZE sw).map t.on)
theorem DH(r:Bool){sw i j a b m:Nat}{d e:D}(hm:i+j+1=m)(g:VT sw i a d)(h:VT sw j b e):VT sw m (if r then a &&& b else a ||| b) (.tup [.str (kw r),.tup [d,e]]):=by
 obtain⟨t,rfl,c,n,k,rfl⟩:=g;obtain⟨u,rfl,f,l,o,rfl⟩:=h;refine⟨.nd r [t,u],rfl,⟨by simp,c,f,trivial⟩,?_,?_,?_⟩
 .show t.lv+(u.lv+0)=m+1;omega
 .show max t.ht (max u.ht 0)+1<=m;omega
 .cases r
  .rw[if_neg qB4,DZ];congr 1;refine qF0 λst _=>?_;simp[Tr.on,Tr.onO]
  .rw[if_pos rfl,D2];congr 1;refine qF0 λst _=>?_;simp[Tr.on,Tr.onA]
inductive Ue(sw i:Nat)(S:ZX)(id:Nat):Prop
 |mk (ks:List (ZJ×D)) (xs:List Nat) (h:Zt S id=Z9 ks) (ky:Y1 ks xs) (s:∀z,z∈xs↔z∈lv sw i) (nd:xs.Nodup) (v:∀z d,(YF z,d)∈ks->VT sw i z d)
def Q1(sw:Nat)(S:ZX)(a:List Nat):Prop:=∀i id,a[i]?=Z9 id->Ue sw i S id
theorem Ue.kp{sw i:Nat}{S e:ZX}{id:Nat}(h:Ue sw i S id){P:Nat->Prop}(kp:Kp P S e)(n:¬P id):Ue sw i e id:=by obtain⟨f,g,h,a,b,c,d⟩:=h;exact⟨f,g,U7 kp h n,a,b,c,d⟩
theorem Ue.lt{sw i:Nat}{S:ZX}{id:Nat}(h:Ue sw i S id):id<S.length:=by obtain⟨a,b,h,_⟩:=h;exact ox h
theorem MG{sw:Nat}(h:sw<=3):NN sw<=256:=by
 have:sw=0∨sw=1∨sw=2∨sw=3:=by omega
 rcases this with rfl|rfl|rfl|rfl<;>decide
theorem Ud{sw i z:Nat}(a:sw<=3)(h:z∈lv sw i):z<256:=qB3 (V3 sw i h) (MG a)
noncomputable def W1(k:Nat)(b a w3 w4:Option D):ZT:=[Z9 (.lst k),b,a,w3,w4]
inductive Jf(sw j nk:Nat)(S1 S:ZX):Prop
 |mk (kk:List (ZJ×D)) (yk:List Nat) (h:S[nk]?=Z9 (.dk kk)) (ky:Y1 kk yk) (s:∀z,z∈yk↔∃i,i<j/\z∈lv sw i) (nd:yk.Nodup) (kp:Kp (·=nk) S1 S)
theorem oo(c:ZQ){sw j a k id:Nat}{m S:ZX}(t:sw<=3)(h:Jf sw j a m S)(A:Ue sw j m id)(p:id≠a)(g:Option D):UQ (gN 2) (PF c) (.dct id) (W1 k (Z9 (.dct a)) g Z8 Z8) S (fun B H=>(∃g,B=W1 k (Z9 (.dct a)) g Z8 Z8)/\Jf sw (j+1) a m H):=by
 obtain⟨d,K,hk,r,s,q,kp⟩:=h;obtain⟨b,J,F,n,o,E,I⟩:=A.kp kp p;obtain⟨w,u,v,y⟩:=OO n r;have C:d.length<=256:=by rw[Ug r];refine Vm 256 q λz f=>?_;obtain⟨i,_,l⟩:=(s z).mp f;exact Ud t l
 have x:b.length<=256:=by rw[Ug n];exact Vm 256 E λz f=>Ud t ((o z).mp f)
 have e:W6 (.dct a) [.dct id] S=.ok .non (S.set a (.dk (YJ d b))):=by unfold W6;dsimp only;rw[hk,F];dsimp only;rw[if_pos ⟨λz=>p z.symm,qC6 (qS5 C x) (by decide)⟩]
 have G:=DI hk rfl;refine⟨W1 k (Z9 (.dct a)) (Z9 (.dct id)) Z8 Z8,S,by simp[W1],W1 k (Z9 (.dct a)) (Z9 (.dct id)) Z8 Z8,S.set a (.dk (YJ d b)),.inl ?_,⟨_,rfl⟩,YJ d b,w,qC9 (qA1.mp hk).1,u,λz=>?_,y q,kp.trans (WJ S _)⟩
 .simp[PF,W1,G,e]
 .rw[v,s,o];constructor
  .rintro(⟨i,l,h⟩| h)
   .exact⟨i,by omega,h⟩
   .exact⟨j,by omega,h⟩
  .rintro⟨i,l,h⟩;by_cases e:i=j
   .subst e;exact .inr h
   .exact .inl ⟨i,by omega,h⟩
inductive MF(sw m j L nk:Nat)(kk:List (ZJ×D))(yk:List Nat)(ids:List Nat)(S3 S:ZX):Prop
 |mk (kl:List (ZJ×D)) (acc:List Nat) (hL:S[L]?=Z9 (.dk kl)) (ky:Y1 kl acc) (v:∀z d,(YF z,d)∈kl->VT sw m z d) (nd:acc.Nodup) (bd:∀z∈acc,z<256) (s:∀z,z∈acc↔z∉yk/\∃l,l<j/\∃a∈lv sw l,∃b∈lv sw (m - 1 - l),z=a &&& b∨z=a ||| b) (hk:Zt S nk=Z9 kk) (lvs:Q1 sw S ids) (kp:Kp (λi=>i=L∨i∈ids) S3 S)
theorem om(hm:Sl cl)(n:Nat){sw m j L g:Nat}{o:List (ZJ×D)}{u c:List Nat}{O S:ZX}(U:sw<=3)(w:Y1 o u)(J:c.length=m)(G:L∉c)(E:g≠L)(hj:j<(m+1) / 2)(h:MF sw m j L g o u c O S){t p:Nat}(N:c[j]?=Z9 t)(T:c[m - 1 - j]?=Z9 p):∃S1,cl (n+1) "add_made" [.dct L,.dct t,.dct p,.dct g] S=.ok .non S1/\MF sw m (j+1) L g o u c O S1:=by
 obtain⟨kl,acc,F,ky,v,nd,bd,s,hk,lvs,kp⟩:=h;obtain⟨Z,x1,a1,a2,I,a4,a5⟩:=lvs _ _ N;obtain⟨k2,x2,b1,b2,y,b4,Y⟩:=lvs _ _ T;have P:=qB6 N;have M:=qB6 T;have H:AH L t p g Z k2 o x1 x2 u (VT sw j) (VT sw (m - 1 - j)) (VT sw m):=⟨λe=>G (e▸P),λe=>G (e▸M),E,a2,b2,w,λz C=>Ud U ((I z).mp C),λz C=>Ud U ((y z).mp C),a5,Y,λa b d e f x=>DH Z7 (by omega) f x,λa b d e f x=>DH Z5 (by omega) f x⟩
 obtain⟨S1,W,B,c1,c2,c3,X,c5,c6,c7,c8,K⟩:=oq hm n H ⟨kl,F,ky,v,nd,bd,a1,b1,hk,Kp.refl _ _⟩;refine⟨S1,W,B,_,c1,c2,c3,X,c5,λz=>?_,c8,λi id Q=>?_,kp.trans (K.mono λi _ q=>?_)⟩
 .rw[Jg,s];constructor
  .rintro(⟨f,l,J,q⟩| ⟨f,a,k,b,r,q⟩)
   .exact⟨f,l,by omega,q⟩
   .exact⟨f,j,by omega,a,(I a).mp k,b,(y b).mp r,q⟩
  .rintro⟨f,l,J,a,k,b,r,q⟩;by_cases e:l=j
   .subst e;exact .inr ⟨f,a,(I a).mpr k,b,(y b).mpr r,q⟩
   .exact .inl ⟨f,l,by omega,a,k,b,r,q⟩
 .obtain⟨ks,xs,A,d2,d3,d4,d5⟩:=lvs i id Q;refine⟨ks,xs,?_,d2,d3,d4,d5⟩;by_cases V:id=t
  .simp_all
  by_cases R:id=p
  .subst R;rw[b1]at A;cases A;exact c7
  .exact U7 K A λq=>by
    rcases q with q|q|q
    .exact G (q▸qB6 Q)
    .exact V q
    .exact R q
 .rcases q with q|q|q
  .exact .inl q
  .exact .inr (q▸P)
  .exact .inr (q▸M)
theorem oj(c:ZQ){k a L d f:Nat}{b:Option D}{j len:Int}{S S1:ZX}(g:Zr [.lst k] S=.ok (.int len) S)(h:Zu (.lst k) (.int j) S=.ok (.dct d) S)(i:Zu (.lst k) (.int (len - 1 - j)) S=.ok (.dct f) S)(e:c "add_made" [.dct L,.dct d,.dct f,.dct a] S=.ok .non S1):PH c (W1 k (Z9 (.dct a)) b (Z9 (.dct L)) (Z9 (.int j))) S=.nx (W1 k (Z9 (.dct a)) b (Z9 (.dct L)) (Z9 (.int j))) S1:=by simp[PH,W1,g,h,i,e]
theorem oh(c:ZQ){k a L:Nat}{e w4:Option D}{len:Int}{X:yM}{S g f b S4:ZX}(l:ZL g k=Z9 X)(d:S.length=a)(n:S++[.dk []]=g)(i:Y4 [(k,X)] (gN 2) (PF c) X (W1 k (Z9 (.dct a)) Z8 Z8 Z8) g=.nx (W1 k (Z9 (.dct a)) e Z8 Z8) f)(m:f.length=L)(o:f++[.dk []]=b)(j:Zr [.lst k] b=.ok (.int len) b)(b0:-4611686018427387904<=(len+1) / 2/\(len+1) / 2<4611686018427387904)
  (h:Y4 [] (gN 4) (PH c) (Zc 0 ((len+1) / 2).toNat) (W1 k (Z9 (.dct a)) e (Z9 (.dct L)) Z8) b=.nx (W1 k (Z9 (.dct a)) e (Z9 (.dct L)) w4) S4):PD c [Z9 (.lst k),Z8,Z8,Z8,Z8] S=.rt (.dct L) S4:=by simp only[W1]at i h;simp[PD,d,n,l,i,m,o,j,b0,h]
theorem DG(hf:PC cl)(hm:Sl cl)(n:Nat){sw m k:Nat}{ids:List Nat}{S:ZX}(h3:sw<=3)(m1:1<=m)(m2:m<=1000)(v:ids.length=m)(hk:ZL S k=Z9 (ids.map D.dct))(lvs:Q1 sw S ids):∃L S1,cl (n+2) "further_level" [.lst k] S=.ok (.dct L) S1/\S.length<=L/\Kp (·∈ids) S S1/\Q1 sw S1 (ids++[L])/\S1[L]?.isSome:=by
 obtain⟨nk,r⟩:∃nk,S.length=nk:=⟨_,rfl⟩
 obtain⟨S1,K⟩:∃S1,S++[O.dk []]=S1:=⟨_,rfl⟩
 have Q:Ex S S1:=K▸Zh S _;have o:∀id∈ids,id<nk:=λid h=>by obtain⟨i,c⟩:=qE2 h;rw[<- r];exact(lvs i id c).lt
 have n1:S1[nk]?=Z9 (.dk []):=by rw[<- K,<- r,qA0 (qA7 _)];simp
 have klt:k<nk:=by rw[<- r];exact US hk
 have G:Q1 sw S1 ids:=λi id c=>(lvs i id c).kp Q (λz=>z);have N:ZL S1 k=Z9 (ids.map D.dct):=Q.lst hk λz=>z;obtain⟨B2,E,e1,⟨y,rfl⟩,kk,yk,q1,q2,R,q4,u⟩:=Wq (w:=[(k,ids.map D.dct)]) (g:=gN 2) (b:=PF (cl (n+1))) (items:=ids.map D.dct) (P:=λj B S'=>(∃y,B=W1 k (Z9 (.dct nk)) y Z8 Z8)/\Jf sw j nk S1 S') (B:=W1 k (Z9 (.dct nk)) Z8 Z8 Z8) (S:=S1) (λj B S' h=>by
   obtain⟨_,_,_,_,_,_,_,kp⟩:=h;exact Xx (kp.lst N (by omega))) ⟨⟨Z8,rfl⟩,[],[],n1,rfl,λz=>by simp,.nil,Kp.refl _ _⟩ (λj d B S' C t=>by
   obtain⟨⟨y,rfl⟩,t⟩:=t;rw[qB2]at C;obtain⟨id,c,rfl⟩:=qA5.mp C;have:=o id (qB6 c);exact oo _ h3 t (G _ _ c) (by omega) y)
 rw[qA3,v]at R;obtain⟨L,hL⟩:∃L,E.length=L:=⟨_,rfl⟩
 obtain⟨S3,x⟩:∃S3,E++[O.dk []]=S3:=⟨_,rfl⟩
 have A:Ex E S3:=x▸Zh E _;have l1:S1.length=nk+1:=by rw[<- K,<- r];simp
 have lL:nk+1<=L:=by have:=u.le;omega
 have k2:ZL E k=Z9 (ids.map D.dct):=u.lst N (by omega);have Z:ZL S3 k=Z9 (ids.map D.dct):=A.lst k2 λz=>z;have LN:L∉ids:=λh=>by have:=o L h;omega
 have V:∀{S':ZX},ZL S' k=Z9 (ids.map D.dct)->Zr [.lst k] S'=.ok (.int m) S':=λh=>by rw[Ka h,qA3,v]
 have kL:∀{S':ZX},Kp (λi=>i=L∨i∈ids) S3 S'->ZL S' k=Z9 (ids.map D.dct):=λkp=>kp.lst Z λq=>by
  rcases q with q|q
  .omega
  .obtain⟨i,c⟩:=qE2 q;obtain⟨ks,xs,W,_⟩:=lvs i k c;rw[Zt,U8 hk]at W;cases W
 have start:MF sw m 0 L nk kk yk ids S3 S3:=by
  refine⟨[],[],?_,rfl,λz d h=>(by cases h),.nil,λz h=>(by cases h),λz=>by simp,U7 A (Sa q1) (λz=>z),λi id c=>((G i id c).kp u ?_).kp A (λz=>z),Kp.refl _ _⟩
  .rw[<- x,<- hL,qA0 (qA7 _)];simp
  .have:=o id (qB6 c);omega
 have s:(((m:Int)+1) / 2).toNat=(m+1) / 2:=by omega
 obtain⟨B4,S4,e2,⟨M,rfl⟩,gr⟩:=Wq (w:=[]) (g:=gN 4) (b:=PH (cl (n+1))) (items:=Zc 0 (((m:Int)+1) / 2).toNat) (P:=λj B S'=>(∃M,B=W1 k (Z9 (.dct nk)) y (Z9 (.dct L)) M)/\MF sw m j L nk kk yk ids S3 S') (B:=W1 k (Z9 (.dct nk)) y (Z9 (.dct L)) Z8) (S:=S3) (λ_ _ S' _=>Yg S') ⟨⟨Z8,rfl⟩,start⟩ (λj d B S' C t=>by
   obtain⟨⟨M,rfl⟩,t⟩:=t;unfold Zc at C;rw[qB2]at C;obtain⟨f,hj,rfl⟩:=qA5.mp C;obtain⟨LF,G4⟩:=qA1.mp hj;rw[qD4,s]at LF;have e':f=j:=by rw[<- G4];simp
   subst e';have U:=t;obtain⟨_,_,_,_,_,_,_,_,_,_,kp⟩:=U;have T:=kL kp;have Y:ids[f]?=Z9 (ids[f]'(by omega)):=qA6 _;have i2:ids[m - 1 - f]?=Z9 (ids[m - 1 - f]'(by omega)):=qA6 _;obtain⟨S5,e5,g5⟩:=om hm n h3 q2 v LN (by omega) LF t Y i2;have o1:Zu (.lst k) (.int (0+(f:Int))) S'=.ok (.dct (ids[f]'(by omega))) S':=by rw[VS T,show(0+(f:Int))=((f:Nat):Int) by omega,Vq (by rw[qB2,Y];rfl)]
   have o2:Zu (.lst k) (.int ((m:Int) - 1 - (0+(f:Int)))) S'=.ok (.dct (ids[m - 1 - f]'(by omega))) S':=by rw[VS T,show((m:Int) - 1 - (0+(f:Int)))=((m - 1 - f:Nat):Int) by omega,Vq (by rw[qB2,i2];rfl)]
   exact⟨W1 k (Z9 (.dct nk)) y (Z9 (.dct L)) (Z9 (.int (0+(f:Int)))),S',by simp[W1],_,S5,.inl (oj _ (V T) o1 o2 e5),⟨_,rfl⟩,g5⟩)
 have F:(Zc 0 (((m:Int)+1) / 2).toNat).length=(m+1) / 2:=by unfold Zc;rw[qA3,qD4,s]
 rw[F]at gr;obtain⟨kl,acc,X,g2,g3,g4,g5,g6,g7,g8,g9⟩:=gr;refine⟨L,S4,?_,by omega,?_,λi id c=>?_,by rw[X];rfl⟩
 .rw[hf];exact YC rfl (oh _ N r K e1 hL x (V Z) ⟨by omega,by omega⟩ e2)
 .refine⟨by have:=g9.le;have:=A.le;have:=u.le;omega,λi c hn=>?_⟩;rw[g9.eq i (by have:=A.le;have:=u.le;omega) (λq=>q.elim (λe=>by omega) hn),A.eq i (by have:=u.le;omega) (λz=>z),u.eq i (by omega) (by omega),Q.eq i (by omega) (λz=>z)]
 .by_cases q:i<ids.length
  .rw[qA8 q]at c;exact g8 i id c
  .rw[qA0 (by omega)]at c;have:i - ids.length=0:=by have:=(qA1.mp c).1;simp at this;omega
   rw[this]at c;simp at c;subst c;have im:i=m:=by omega
   subst im;refine⟨kl,acc,Sa X,g2,λz=>?_,g4,g3⟩;obtain⟨p,rfl⟩:∃p,i=p+1:=⟨i - 1,by omega⟩
   rw[g6,Q4];constructor
   .rintro⟨h,l,v,a,I,b,J,q⟩;refine⟨zJZ (V3 sw _ I) (V3 sw _ J) q,λi c H=>h ((R z).mpr ⟨i,by omega,H⟩),l,v,a,I,b,J,q⟩
   .rintro⟨_,h,l,v,a,I,b,J,q⟩;refine⟨λH=>?_,l,v,a,I,b,J,q⟩;obtain⟨i,c,H⟩:=(R z).mp H;exact h i (by omega) H
noncomputable def Xw(bs:List Bool):yM:=bs.map λb=>D.int (b1 b)
noncomputable def Zp(bs:List Bool):D:=.tup (Xw bs)
theorem og(bs:List Bool):Zb (bs.map b1)=Zp bs:=by unfold Zb Zp Xw;rw[qC8];rfl
theorem DE(b:Bool):b1 b=((b.toNat:Nat):Int):=by cases b<;>simp[b1]
theorem n9(c:ZQ){a:D}{s:Int}{b:Int}{S:ZX}:PQ c [Z9 a,Z9 (.int s),Z9 (.int b)] S=.nx [Z9 a,Z9 (.int (s*2+b)),Z9 (.int b)] S:=by
 have:Wc s 2=Z7:=by simp[Wc]
 simp[PQ,this]
theorem n6(c:ZQ){a:D}{s:Int}{b:Int}{S:ZX}:M5 c [Z9 a,Z9 (.int s),Z9 (.int b)] S=.nx [Z9 a,Z9 (.int (2*s+b)),Z9 (.int b)] S:=rfl
theorem nZ(c:ZQ){X:yM}{z:Int}{w:Option D}{S:ZX}(e:Y4 [] (gN 2) (PQ c) X [Z9 (.tup X),Z9 (.int 0),Z8] S=.nx [Z9 (.tup X),Z9 (.int z),w] S):PP c [Z9 (.tup X),Z8,Z8] S=.rt (.int z) S:=by simp[PP,e]
theorem DD(h:Rb cl)(n:Nat)(bs:List Bool)(S:ZX):cl (n+1) "number_of" [Zp bs] S=.ok (.int (ZA 0 bs:Nat)) S:=by
 rw[h];obtain⟨d,f,e,⟨w,rfl⟩,rfl⟩:=Vn (λb:Bool=>D.int (b1 b)) (λs b=>2*s+b.toNat) (λs B a=>(∃w,B=[Z9 (Zp bs),Z9 (.int s),w])/\a=S) (g:=gN 2) (b:=PQ (cl n)) (λ_ _ S _=>Yg S) bs ⟨⟨_,rfl⟩,rfl⟩ (λs b B a _ c=>by
  obtain⟨⟨w,rfl⟩,rfl⟩:=c;refine⟨[Z9 (Zp bs),Z9 (.int s),Z9 (.int (b1 b))],a,by simp,_,a,.inl (n9 _),⟨Z9 (.int (b1 b)),?_⟩,rfl⟩;rw[show(s:Int)*2+b1 b=((2*s+b.toNat:Nat):Int) by rw[DE];omega])
 exact YC rfl (nZ _ e)
theorem nY(c:ZQ){X:yM}{z:Int}{w:Option D}{S:ZX}(e:Y4 [] (gN 2) (M5 c) X [Z9 (.tup X),Z9 (.int 0),Z8] S=.nx [Z9 (.tup X),Z9 (.int z),w] S):Po c [Z9 (.tup X),Z8,Z8] S=.rt (.int z) S:=by simp[Po,e]
theorem ON(h:M4 cl)(n:Nat)(bs:List Bool)(S:ZX):cl (n+1) "_law_number_of" [Zp bs] S=.ok (.int (ZA 0 bs:Nat)) S:=by
 rw[h];obtain⟨d,f,e,⟨w,rfl⟩,rfl⟩:=Vn (λb:Bool=>D.int (b1 b)) (λs b=>2*s+b.toNat) (λs B a=>(∃w,B=[Z9 (Zp bs),Z9 (.int s),w])/\a=S) (g:=gN 2) (b:=M5 (cl n)) (λ_ _ S _=>Yg S) bs ⟨⟨_,rfl⟩,rfl⟩ (λs b B a _ c=>by
  obtain⟨⟨w,rfl⟩,rfl⟩:=c;refine⟨[Z9 (Zp bs),Z9 (.int s),Z9 (.int (b1 b))],a,by simp,_,a,.inl (n6 _),⟨Z9 (.int (b1 b)),?_⟩,rfl⟩;rw[show 2*(s:Int)+b1 b=((2*s+b.toNat:Nat):Int) by rw[DE];omega])
 exact YC rfl (nY _ e)
inductive ME(sw Ld:Nat)(acc:List Nat)(S1 S:ZX):Prop
 |mk (kl:List (ZJ×D)) (h:S[Ld]?=Z9 (.dk kl)) (ky:Y1 kl acc) (v:∀z d,(YF z,d)∈kl->VT sw 0 z d) (nd:acc.Nodup) (bd:∀z∈acc,z<256) (kp:Kp (·=Ld) S1 S)
noncomputable def Vs(sw a:Nat)(b w3 w4:Option D):ZT:=[Z9 (.int (sw:Nat)),Z9 (.dct a),b,w3,w4]
theorem nX(c:ZQ){sw b:Nat}{k o:Int}{d:D}{z:Int}{w4:Option D}{S a S2:ZX}(e:c "tree_function" [.int (sw:Nat),.tup [.str (Str.ofString "at"),.int k,.int o]] S=.ok d a)(g:c "number_of" [d] a=.ok (.int z) a)(f:Ya (.dct b) (.int z) (.tup [.str (Str.ofString "at"),.int k,.int o]) a=Z9 S2):PL c (Vs sw b (Z9 (.int k)) (Z9 (.int o)) w4) S=.nx (Vs sw b (Z9 (.int k)) (Z9 (.int o)) (Z9 (.tup [.str (Str.ofString "at"),.int k,.int o]))) S2:=by simp[PL,Vs,e,g,f]
theorem nW(H:MO cl)(y:Rb cl)(n:Nat){sw b:Nat}(K:1<=sw)(G:sw<=3){acc:List Nat}{l S:ZX}(h:ME sw b acc l S){k:Nat}(hk:k<sw){o:Int}(L:o=0∨o=1)(w3 w4:Option D):UQ (gN 3) (PL (cl (n+5))) (.int o) (Vs sw b (Z9 (.int (k:Nat))) w3 w4) S (fun B I=>(∃w3 w4,B=Vs sw b (Z9 (.int (k:Nat))) w3 w4)/\ME sw b (X7 acc (X8 sw k o)) l I):=by
 obtain⟨E,w,f,v,e,i,kp⟩:=h;have wf:(Tr.lf k o).wf sw:=⟨by omega,by omega,by omega,by omega⟩
 obtain⟨j,c,g⟩:=oI H (by omega) (by omega) 0 (.lf k o) (qA7 _) wf (by simp[Tr.sz]) n S;have s:Zb (Q5 sw (.lf k o))=Zp ((ZE sw).map (Tr.lf k o).on):=by rw[<- og,qC8];rfl
 rw[s]at c;have r:=DD y (n+4) ((ZE sw).map (Tr.lf k o).on) j;have J:ZA 0 ((ZE sw).map (Tr.lf k o).on)=X8 sw k o:=rfl;have a:=g.at w λz=>z;have F:E.length<lim:=by rw[Ug f];exact qG6 (Vm 256 e i) (by decide)
 have C:=Ji a F (X8 sw k o) (.tup [.str (Str.ofString "at"),.int k,.int o]);obtain⟨x,t⟩:=MJ f (X8 sw k o) (.tup [.str (Str.ofString "at"),.int k,.int o]);have lt:X8 sw k o<256:=by have:=OV ((ZE sw).map (Tr.lf k o).on) 0;rw[qA3,Uk]at this;have:=MG G;unfold NN at this;omega
 refine⟨Vs sw b (Z9 (.int k)) (Z9 (.int o)) w4,S,by simp[Vs],_,_,.inl (nX _ c r C),⟨_,_,rfl⟩,_,qC9 (qA1.mp a).1,x,λz d p=>?_,MK e,λz u=>?_,kp.trans ((g.kp).trans (WJ j _))⟩
 .rcases t _ p with q|q
  .exact v z d q
  .have A:=MM (congrArg Prod.fst q);have m:d=_:=congrArg Prod.snd q;rw[A,m];exact⟨.lf k o,rfl,wf,rfl,qA7 _,rfl⟩
 .rcases Sb.mp u with q|rfl
  .exact i z q
  .exact lt
noncomputable def DC(sw:Nat)(s:List Nat)(k:Nat):List Nat:=[(0:Int),1].foldl (λs o=>X7 s (X8 sw k o)) s
theorem DB{sw:Nat}:∀{b acc:List Nat}{z:Nat},z∈b.foldl (DC sw) acc↔z∈acc∨∃k∈b,z=X8 sw k 0∨z=X8 sw k 1
 |[],acc,z=>by simp
 |k::b,acc,z=>by
  rw[qM3,DB];show z∈X7 (X7 acc (X8 sw k 0)) (X8 sw k 1)∨_↔_;rw[Sb,Sb];constructor
  .rintro(((h|h)| h)| ⟨c,a,h⟩)
   .exact .inl h
   .simp_all
   .simp_all
   .exact .inr ⟨c,by simp[a],h⟩
  .rintro(h|⟨c,a,h⟩)
   .exact .inl (.inl (.inl h))
   .rcases qA9.mp a with rfl|a
    .omega
    .exact .inr ⟨c,a,h⟩
theorem nV(c:ZQ){sw a:Nat}{k:D}{w3 w4:Option D}{b:ZT}{S S':ZX}(e:Y4 [] (gN 3) (PL c) [.int 0,.int 1] (Vs sw a (Z9 k) w3 w4) S=.nx b S'):Nb c (Vs sw a (Z9 k) w3 w4) S=.nx b S':=by simp[Nb,e]
theorem nU(c:ZQ){s:Int}{L:Nat}{d w3 w4:Option D}{S a S2:ZX}(b:-4611686018427387904<=s/\s<4611686018427387904)(f:S.length=L)(g:S++[.dk []]=a)(e:Y4 [] (gN 2) (Nb c) (Zc 0 s.toNat) [Z9 (.int s),Z9 (.dct L),Z8,Z8,Z8] a=.nx [Z9 (.int s),Z9 (.dct L),d,w3,w4] S2):PK c [Z9 (.int s),Z8,Z8,Z8,Z8] S=.rt (.dct L) S2:=by simp[PK,f,g,b,e]
theorem DA(K:JD cl)(H:MO cl)(C:Rb cl)(n:Nat){sw:Nat}(v:1<=sw)(N:sw<=3)(S:ZX):∃L S1,cl (n+6) "first_level" [.int (sw:Nat)] S=.ok (.dct L) S1/\S.length=L/\Ex S S1/\Ue sw 0 S1 L:=by
 obtain⟨L,i⟩:∃L,S.length=L:=⟨_,rfl⟩
 obtain⟨S1,l⟩:∃S1,S++[O.dk []]=S1:=⟨_,rfl⟩
 have G:S1[L]?=Z9 (.dk []):=by rw[<- l,<- i,qA0 (qA7 _)];simp
 obtain⟨R,M,e,⟨m,b,a,rfl⟩,I,E,q,u,A,P,p⟩:=Vn (λk:Nat=>D.int (0+k)) (DC sw) (λs B f=>(∃m b a,B=Vs sw L m b a)/\ME sw L s S1 f) (g:=gN 2) (λ_ _ S _=>Yg S) (List.range sw) (s:=[]) ⟨⟨_,_,_,rfl⟩,[],G,rfl,λz d h=>(by cases h),.nil,λz h=>(by cases h),Kp.refl _ _⟩ (λs k B f hk c=>by
  obtain⟨⟨m,b,a,rfl⟩,c⟩:=c;obtain⟨Q,r,F,⟨y,x,rfl⟩,w⟩:=Vn (λo:Int=>D.int o) (λs o=>X7 s (X8 sw k o)) (λs B f=>(∃b a,B=Vs sw L (Z9 (.int k)) b a)/\ME sw L s S1 f) (λ_ _ S _=>Yg S) [0,1] ⟨⟨_,_,rfl⟩,c⟩ (λs o B f J c=>by
   obtain⟨⟨b,a,rfl⟩,c⟩:=c;exact nW H C n v N c (qE0.mp hk) (by simpa using J) b a)
  refine⟨Vs sw L (Z9 (.int k)) b a,f,by simp[Vs],_,r,.inl (nV _ F),⟨_,_,_,rfl⟩,w⟩)
 refine⟨L,M,?_,i,?_,I,_,Sa E,q,λz=>?_,A,u⟩
 .rw[K];exact YC rfl (nU _ ⟨by omega,by omega⟩ i l (by exact e))
 .have T:S1.length=L+1:=by rw[<- l,<- i];simp
  refine⟨by have:=p.le;omega,λj t _=>?_⟩;rw[p.eq j (by omega) (by omega),<- l,qA8 t]
 .rw[DB,OS];unfold Zd;simp
theorem zMK{α:Type}(l:List α)(d:α):XW (l++[d]) (-1)=Z9 d:=by
 unfold XW Wn;rw[if_neg (by omega),if_pos (by simp;omega),qL7];have:((-1:Int)+((l++[d]).length:Nat)).toNat=l.length:=by simp;omega
 rw[this];simp
theorem nS(c:ZQ){X:yM}{z:Int}{S:ZX}(h:((Builtin.Int.intBits (X.length:Int):Nat):Int) - 1=z):PU c [Z9 (.tup X)] S=.rt (.int z) S:=by simp[PU,h]
theorem Dz(h:JL cl)(n:Nat){sw:Nat}(b:sw<=4){bs:List Bool}(a:bs.length=2 ^ sw)(S:ZX):cl (n+1) "switches_of" [Zp bs] S=.ok (.int (sw:Nat)) S:=by
 rw[h];refine YC rfl (nS _ ?_);have:(Xw bs).length=2 ^ sw:=by unfold Xw;rw[qA3,a]
 rw[this];have:sw=0∨sw=1∨sw=2∨sw=3∨sw=4:=by omega
 rcases this with rfl|rfl|rfl|rfl|rfl<;>decide +kernel
noncomputable def VO(bs:D)(sw:Nat)(k:Nat):ZT:=[Z9 bs,Z9 (.int (sw:Nat)),Z9 (.lst k)]
theorem nR(c:ZQ){a:D}{sw k id:Nat}{x:Int}{b:Bool}{S:ZX}(e:c "number_of" [a] S=.ok (.int x) S)(f:Zu (.lst k) (.int (-1)) S=.ok (.dct id) S)(d:YG Z7 (.int x) (.dct id) S=.ok (.bl b) S):(Y5 (ZU (YG Z7) (ZS (c "number_of") (ZP [(ZY 0)])) (ZU Zu (ZY 2) (Xj Xs (ZW (.int 1)))))) (VO a sw k) S=.ok b S:=by simp[VO,e,f,d]
theorem nQ(c:ZQ){b:D}{sw k L:Nat}{X:yM}{S a:ZX}(f:Yk "list" (.lst k) S=Z7)(d:c "further_level" [.lst k] S=.ok (.dct L) a)(e:X3 XU (.lst k) [.dct L] a=.ok .non (a.set k (.lst X))):Q9 c (VO b sw k) S=.nx (VO b sw k) (a.set k (.lst X)):=by simp[Q9,VO,f,d,e]
inductive V0(sw:Nat)(S0:ZX)(k j:Nat)(S:ZX):Prop
 |mk (ids:List Nat) (hl:ids.length=j+1) (hk:ZL S k=Z9 (ids.map D.dct)) (lvs:Q1 sw S ids) (hi:∀i∈ids,S0.length<=i) (kn:S0.length<=k) (x:Ex S0 S)
theorem nP(w:PC cl)(hm:Sl cl)(n:Nat){sw k j:Nat}{m S:ZX}(y:sw<=3)(A:j<=900)(h:V0 sw m k j S)(r:D):∃S1,Q9 (cl (n+2)) (VO r sw k) S=.nx (VO r sw k) S1/\V0 sw m k (j+1) S1:=by
 obtain⟨ids,g,hk,lvs,c,u,x⟩:=h;obtain⟨L,S1,v,C,kp,f,_⟩:=DG w hm n y (by omega) (by omega) g hk lvs;have b:k∉ids:=λq=>by obtain⟨i,c⟩:=qE2 q;obtain⟨E,B,o,_⟩:=lvs i k c;rw[Zt,U8 hk]at o;cases o
 have p:=kp.lst hk b;have t:=US hk;have s:X3 XU (.lst k) [.dct L] S1=.ok .non (S1.set k (.lst (ids.map D.dct++[.dct L]))):=by rw[Um p,Tz,if_pos (by rw[qA3,g,YB];omega)]
 refine⟨_,nQ _ (Uo hk) v s,ids++[L],by simp[g],?_,λi id a=>(f i id a).kp (WJ S1 _) (λe=>?_),λi d=>?_,u,⟨?_,λi l _=>?_⟩⟩
 .rw[UR p,qE1];rfl
 .subst e;rcases qB9.mp (qB6 a)with q|q
  .exact b q
  .simp at q;omega
 .rcases qB9.mp d with q|q
  .exact c i q
  .simp at q;have:=x.le;omega
 .rw[qG5];have:=kp.le;have:=x.le;omega
 .rw[qD5 (by omega),kp.eq i (by have:=x.le;omega) (λq=>by have:=c i q;omega),x.eq i l (λz=>z)]
structure HLv(cl:Nat->ZQ):Prop where
 tf:MO cl
 so:JL cl
 no:Rb cl
 fl:JD cl
 am:Sl cl
 fu:PC cl
 lt:Et cl
theorem nO(l:Rb cl)(n:Nat){sw k j ix:Nat}{o S:ZX}(h:V0 sw o k j S){bs:List Bool}(c:ZA 0 bs∈lv sw ix):(Y5 (ZU (YG Z7) (ZS (cl (n+1) "number_of") (ZP [(ZY 0)])) (ZU Zu (ZY 2) (Xj Xs (ZW (.int 1)))))) (VO (Zp bs) sw k) S=.ok (!decide (j=ix)) S:=by
 obtain⟨a,v,hk,lvs,y,u,x⟩:=h;have b:j<a.length:=by omega
 obtain⟨t,i,p,m,q,z,w⟩:=lvs j a[j] (qA6 b);have r:a=a.take j++[a[j]]:=by rw[List.take_append_getElem b,show j+1=a.length by omega,qI7]
 have g:Zu (.lst k) (.int (-1)) S=.ok (.dct a[j]) S:=by rw[VS hk,(congrArg (List.map D.dct) r).trans (qE1 (l₁:=a.take j) (l₂:=[a[j]]))];show(match XW (_++[D.dct _]) (-1)with|some d=>R.ok d S|none=>.bad)=_;rw[zMK]
 have f:=Tw p m Z7 (ZA 0 bs);have s:decide (ZA 0 bs∈i)=decide (j=ix):=by rw[decide_eq_decide,q];exact⟨λh=>Q3 sw h c,λe=>e▸c⟩
 rw[if_pos rfl,s]at f;exact nR _ (DD l n bs S) g f
theorem nM(c:ZQ){a:D}{s:Int}{sw L k:Nat}{S b d S3:ZX}(i:((sw:Nat):Int)=s)(g:c "switches_of" [a] S=.ok (.int s) S)(f:¬3<s)(h:c "first_level" [.int s] S=.ok (.dct L) b)(hk:b.length=k)(j:b++[.lst [.dct L]]=d)(e:Ws Vw (Y5 (ZU (YG Z7) (ZS (c "number_of") (ZP [(ZY 0)])) (ZU Zu (ZY 2) (Xj Xs (ZW (.int 1)))))) (Q9 c) (VO a sw k) d=.nx (VO a sw k) S3):Sk c [Z9 a,Z8,Z8] S=.rt (.lst k) S3:=by subst i;simp only[VO]at e;simp[Sk,g,f,h,hk,j,e]
theorem nL(c:ZQ){a:D}{S:ZX}(b:c "switches_of" [a] S=.ok (.int 4) S):Sk c [Z9 a,Z8,Z8] S=.er "TooMany" S:=by simp[Sk,b]
theorem nJ(H:HLv cl)(n:Nat){sw ix:Nat}(s:1<=sw)(o:sw<=3){bs:List Bool}(y:bs.length=2 ^ sw)(u:ZA 0 bs∈lv sw ix)(hi:ix<=800)(S:ZX):∃k S1,cl (n+7) "levels_to" [Zp bs] S=.ok (.lst k) S1/\V0 sw S k ix S1:=by
 obtain⟨L,S1,w,E,l,r⟩:=DA H.fl H.tf H.no n s o S;obtain⟨k,hk⟩:∃k,S1.length=k:=⟨_,rfl⟩
 obtain⟨S2,c⟩:∃S2,S1++[O.lst [.dct L]]=S2:=⟨_,rfl⟩
 have g:Ex S1 S2:=c▸Zh S1 _;have k2:ZL S2 k=Z9 ([L].map D.dct):=by rw[<- c,<- hk];exact Y7 _ _
 have st:V0 sw S k 0 S2:=by
  refine⟨[L],rfl,k2,λi id h=>?_,λi h=>?_,by have:=l.le;omega,l.trans g⟩
  .have:i=0:=by have:=(qA1.mp h).1;simp at this;omega
   subst this;simp at h;subst h;exact r.kp g λz=>z
  .simp at h;omega
 obtain⟨C,p,x,rfl,q⟩:=PZ (t:=Y5 (ZU (YG Z7) (ZS (cl (n+6) "number_of") (ZP [(ZY 0)])) (ZU Zu (ZY 2) (Xj Xs (ZW (.int 1)))))) (b:=Q9 (cl (n+6))) (P:=λm B a=>B=VO (Zp bs) sw k/\∃j,V0 sw S k j a/\j<=ix/\m=ix - j) (Q:=fun B a=>B=VO (Zp bs) sw k/\V0 sw S k ix a) (λm B a h=>by
  obtain⟨rfl,j,d,c,rfl⟩:=h;have f:=nO H.no (n+5) d u;by_cases e:j=ix
  .subst e;exact .inl ⟨a,by simpa using f,rfl,d⟩
  .obtain⟨v,b1,A⟩:=nP H.fu H.am (n+4) o (by omega) d (Zp bs);exact .inr ⟨a,by simpa[e]using f,_,v,.inl b1,ix - (j+1),by omega,rfl,j+1,A,by omega,rfl⟩) Vw ix (VO (Zp bs) sw k) S2 (by show ix<100000;omega) ⟨rfl,0,st,by omega,by omega⟩
 refine⟨k,p,?_,q⟩;rw[H.lt];exact YC rfl (nM _ rfl (Dz H.so (n+5) (by omega) y S) (by omega) w hk c x)
theorem nI(H:HLv cl)(n:Nat){bs:List Bool}(a:bs.length=2 ^ 4)(S:ZX):cl (n+2) "levels_to" [Zp bs] S=.er "TooMany" S:=by rw[H.lt];exact EG rfl (nL _ (Dz H.so n (qA7 4) a S))
noncomputable def X5(sw:Nat)(k:Nat)(o:Int):List Bool:=(ZE sw).map λst=>decide (st.getD k 0=o)
theorem R9(sw k:Nat)(o:Int):ZA 0 (X5 sw k o)=X8 sw k o:=rfl
theorem Je:∀(n:Nat) {st:yA},st∈ZE n->st.length=n
 |0,st,h=>by simp[ZE]at h;subst h;rfl
 |n+1,st,h=>by
  rcases qB9.mp h with h|h
  .obtain⟨x,a,rfl⟩:=qD9.mp h;simp[Je n a]
  .obtain⟨x,a,rfl⟩:=qD9.mp h;simp[Je n a]
noncomputable def Vl(sw:Nat)(f:Nat)(a w3:Option D):ZT:=[Z9 (.int (sw:Nat)),Z9 (.lst f),a,w3]
theorem nH(c:ZQ){X:yM}{k o v:Int}{S:ZX}(h:XW X k=Z9 (.int v)):Pr c [Z9 (.tup X),Z9 (.int k),Z9 (.int o)] S=.ok (.int (b1 (decide (v=o)))) S:=by by_cases e:v=o<;>simp[Pr,h,b1]
theorem nG(c:ZQ){sw f m:Nat}{k o:D}{X R:yM}{S b d S3:ZX}(l:Yk "list" (.lst f) S=Z7)(g:c "_law_settings" [.int (sw:Nat)] S=.ok (.lst m) b)(e:ZL b m=Z9 X)(j:X.length<lim)(i:Zf [(m,X)] .one (λ_=>ret Z7) (Pr c) [Z8,Z9 k,Z9 o] X b=.ok R b)(h:b++[.lst R]=d)(t:W7 [.lst b.length] d=.ok (.tup R) d)(a:X3 XU (.lst f) [.tup R] d=.ok .non S3):Pq c (Vl sw f (Z9 k) (Z9 o)) S=.nx (Vl sw f (Z9 k) (Z9 o)) S3:=by simp[Pq,Vl,l,g,e,j,i,h,t,a]
inductive Jd(S0:ZX)(f:Nat)(acc:List (List Bool))(S:ZX):Prop
 |mk (h:ZL S f=Z9 (acc.map Zp)) (l:acc.length<=1000) (x:Ex S0 S)
theorem Dy(s:M7 cl)(n:Nat){sw f:Nat}(A:1<=sw)(w:sw<=3){i S:ZX}(E:i.length<=f){acc:List (List Bool)}(h:Jd i f acc S)(C:acc.length<1000){k:Nat}(hk:k<sw)(o:Int)(w3:Option D):UQ (gN 3) (Pq (cl (n+1))) (.int o) (Vl sw f (Z9 (.int (k:Nat))) w3) S (fun B y=>(∃w3,B=Vl sw f (Z9 (.int (k:Nat))) w3)/\Jd i f (acc++[X5 sw k o]) y):=by
 obtain⟨q,_,x⟩:=h;obtain⟨m,S1,u,c,_,p⟩:=pq s n (sw:=sw) (by omega) (by omega) S;have l:Zf [(m,(ZE sw).map Zb)] .one (λ_=>ret Z7) (Pr (cl (n+1))) [Z8,Z9 (.int k),Z9 (.int o)] ((ZE sw).map Zb) S1=.ok ((ZE sw).map λst=>D.int (b1 (decide (st.getD k 0=o)))) S1:=by
  refine VQ Zb (Xx p) _ _ λst d=>⟨_,rfl,?_⟩
  have len:=Je sw d;exact nH _ (by rw[Ei (by omega) (by omega),qF2])
 have v:((ZE sw).map λst=>D.int (b1 (decide (st.getD k 0=o))))=Xw (X5 sw k o):=by unfold Xw X5;rw[qC8];rfl
 rw[v]at l;obtain⟨S2,g⟩:∃S2,S1++[O.lst (Xw (X5 sw k o))]=S2:=⟨_,rfl⟩
 have e:=g▸Zh S1 _;have t:W7 [.lst S1.length] S2=.ok (.tup (Xw (X5 sw k o))) S2:=by rw[<- g];exact Su (Y7 _ _)
 have b:=e.lst (c.lst q λz=>z) λz=>z;have a:X3 XU (.lst f) [.tup (Xw (X5 sw k o))] S2=.ok .non (S2.set f (.lst (acc.map Zp++[.tup (Xw (X5 sw k o))]))):=by rw[Um b,Tz,if_pos (by rw[qA3,YB];omega)]
 have len:((ZE sw).map Zb).length<lim:=by rw[qA3,Uk,YB];have:2 ^ sw<=2 ^ 3:=qI5 (by decide) w;omega
 refine⟨Vl sw f (Z9 (.int k)) (Z9 (.int o)),S,by simp[Vl],_,_,.inl (nG _ (Uo q) u p len l g t a),⟨_,rfl⟩,?_,by simp;omega,⟨?_,λj r _=>?_⟩⟩
 .rw[UR b,qE1];rfl
 .rw[qG5];have:=x.le;have:=c.le;have:=e.le;omega
 .rw[qD5 (by omega),e.eq j (by have:=x.le;have:=c.le;omega) (λz=>z),c.eq j (by have:=x.le;omega) (λz=>z),x.eq j r (λz=>z)]
noncomputable def YI(sw j:Nat):List (List Bool):=(List.range j).flatMap λk=>[X5 sw k 0,X5 sw k 1]
theorem Dx(sw j:Nat):YI sw (j+1)=YI sw j++[X5 sw j 0]++[X5 sw j 1]:=by unfold YI;rw[qM7,List.flatMap_append];simp
theorem MD(sw:Nat):∀j,(YI sw j).length=2*j
 |0=>rfl
 |j+1=>by rw[Dx];simp[MD sw j];omega
theorem nF(c:ZQ){sw f:Nat}{k:D}{w3:Option D}{a:ZT}{S S':ZX}(e:Y4 [] (gN 3) (Pq c) [.int 0,.int 1] (Vl sw f (Z9 k) w3) S=.nx a S'):M6 c (Vl sw f (Z9 k) w3) S=.nx a S':=by simp[M6,e]
theorem nD(c:ZQ){s:Int}{f:Nat}{d w3:Option D}{S a S2:ZX}(b:-4611686018427387904<=s/\s<4611686018427387904)(g:S.length=f)(h:S++[.lst []]=a)(e:Y4 [] (gN 2) (M6 c) (Zc 0 s.toNat) [Z9 (.int s),Z9 (.lst f),Z8,Z8] a=.nx [Z9 (.int s),Z9 (.lst f),d,w3] S2):Pp c [Z9 (.int s),Z8,Z8,Z8] S=.rt (.lst f) S2:=by simp[Pp,g,h,b,e]
theorem Dw{g:G}{b:CS}{x y:D}{B:ZT}{S:ZX}{P Q:ZT->ZX->Prop}(h:UQ g b x B S P)(i:∀B S,P B S->UQ g b y B S Q):Sr (Y4 [] g b [x,y] B S) Q:=by
 obtain⟨n,o,k,e,f,a,p⟩:=h;obtain⟨l,m,j,d,S4,c,q⟩:=i _ _ p;refine⟨d,S4,?_,q⟩;unfold Y4;rw[if_pos (Yg _),k];dsimp only;have t:Y4 [] g b [y] e f=.nx d S4:=by
  unfold Y4;rw[if_pos (Yg _),j];dsimp only;rcases c with c|c
  .rw[c];unfold Y4;dsimp only;rw[if_pos (Yg _)]
  .rw[c];unfold Y4;dsimp only;rw[if_pos (Yg _)]
 rcases a with a|a
 .rw[a];exact t
 .rw[a];exact t
theorem Jc(h:Ep cl)(r:M7 cl)(n:Nat){sw:Nat}(o:1<=sw)(u:sw<=3)(S:ZX):∃f S1,cl (n+2) "_law_singles" [.int (sw:Nat)] S=.ok (.lst f) S1/\S.length<=f/\Ex S S1/\ZL S1 f=Z9 ((YI sw sw).map Zp):=by
 obtain⟨f,q⟩:∃f,S.length=f:=⟨_,rfl⟩
 obtain⟨S1,k⟩:∃S1,S++[O.lst []]=S1:=⟨_,rfl⟩
 have A:ZL S1 f=Z9 []:=by rw[<- k,<- q];exact Y7 _ _
 have C:=k▸Zh S _;have D:(Zc 0 sw).length=sw:=by unfold Zc;simp
 obtain⟨G,x,e,⟨i,a,rfl⟩,s,E,w⟩:=Wq (items:=Zc 0 sw) (P:=λj B l=>(∃i a,B=Vl sw f i a)/\Jd S f (YI sw j) l) (g:=gN 2) (λ_ _ S _=>Yg S) ⟨⟨_,_,rfl⟩,⟨A,by simp[YI],C⟩⟩ (λj d B l t b=>by
  obtain⟨⟨i,a,rfl⟩,b⟩:=b;rw[Q6]at t;obtain⟨m,rfl⟩:=t;have H:=MD sw j;obtain⟨F,v,z,⟨y,rfl⟩,p⟩:=Dw (Dy r n o u (by omega) b (by omega) m 0 a) (fun B S c=>by
   obtain⟨⟨a,rfl⟩,c⟩:=c;exact Dy r n o u (by omega) c (by simp;omega) m 1 a)
  rw[<- Dx]at p;exact⟨Vl sw f (Z9 (.int j)) a,l,by simp[Vl],_,v,.inl (nF _ z),⟨_,_,rfl⟩,p⟩)
 rw[D]at s;refine⟨f,x,?_,by omega,w,s⟩;rw[h];exact YC rfl (nD _ ⟨by omega,by omega⟩ q k (by exact e))
noncomputable def Zs(z:Nat):D:=.int (z:Nat)
inductive MC(sw i:Nat)(S:ZX)(id:Nat):Prop
 |mk (xs:List Nat) (h:ZL S id=Z9 (xs.map Zs)) (s:∀z,z∈xs↔z∈lv sw i) (nd:xs.Nodup)
def Dv(sw:Nat)(S:ZX)(a:List Nat):Prop:=∀i id,a[i]?=Z9 id->MC sw i S id
theorem MC.kp{sw i:Nat}{S b:ZX}{id:Nat}(h:MC sw i S id){P:Nat->Prop}(kp:Kp P S b)(n:¬P id):MC sw i b id:=by obtain⟨c,h,a,d⟩:=h;exact⟨c,kp.lst h n,a,d⟩
noncomputable def YV(sw kr a:Nat)(w3 w4 w5 w6 w7 w8:Option D):ZT:=[Z9 (.int (sw:Nat)),Z9 (.lst kr),Z9 (.dct a),w3,w4,w5,w6,w7,w8]
inductive LA(S0:ZX)(L nk:Nat)(kk:List (ZJ×D))(acc:List Nat)(S:ZX):Prop
 |mk (kl:List (ZJ×D)) (hL:S[L]?=Z9 (.dk kl)) (ky:Y1 kl acc) (nd:acc.Nodup) (bd:∀z∈acc,z<256) (hk:Zt S nk=Z9 kk) (kp:Kp (·=L) S0 S)
section
variable {S0:ZX}{L nk sw kr:Nat}{kk:List (ZJ×D)}{xk:List Nat}
theorem nC(c:ZQ){w3 w5 w6 w7:Option D}{z:Int}{S:ZX}(a:YG Z7 (.int z) (.dct nk) S=.ok (.bl Z5) S):Si c (YV sw kr nk w3 (Z9 (.dct L)) w5 w6 w7 (Z9 (.int z))) S=.nx (YV sw kr nk w3 (Z9 (.dct L)) w5 w6 w7 (Z9 (.int z))) S:=by simp[YV,Si,a]
theorem nB(c:ZQ){d:D}{w5 w6 w7:Option D}{z:Int}{S S1:ZX}(a:YG Z7 (.int z) (.dct nk) S=.ok (.bl Z7) S)(b:Ya (.dct L) (.int z) d S=Z9 S1):Si c (YV sw kr nk (Z9 d) (Z9 (.dct L)) w5 w6 w7 (Z9 (.int z))) S=.nx (YV sw kr nk (Z9 d) (Z9 (.dct L)) w5 w6 w7 (Z9 (.int z))) S1:=by simp[YV,Si,a,b]
theorem Du(c:ZQ)(b:Y1 kk xk)(t:nk≠L){acc:List Nat}{S:ZX}(h:LA S0 L nk kk acc S){z:Nat}(p:z<256)(d:D)(w5 w6 w7 w8:Option D):
  UQ (gN 8) (Si c) (Zs z) (YV sw kr nk (Z9 d) (Z9 (.dct L)) w5 w6 w7 w8) S (fun B w=>(∃w8,B=YV sw kr nk (Z9 d) (Z9 (.dct L)) w5 w6 w7 w8)/\LA S0 L nk kk (X6 xk acc z) w):=by
 have s:=h;obtain⟨l,e,k,j,m,hk,kp⟩:=s;have g:=Tw hk b Z7 z;refine⟨YV sw kr nk (Z9 d) (Z9 (.dct L)) w5 w6 w7 (Z9 (Zs z)),S,by simp[YV],?_⟩;by_cases a:z∈xk
 .refine⟨_,_,.inl (nC c (by simpa[a]using g)),⟨_,rfl⟩,?_⟩;unfold X6;rw[if_pos a];exact h
 .have u:l.length<lim:=by rw[Ug k];exact qG6 (Vm 256 j m) (by decide)
  have n:=Ji e u z d;obtain⟨r,_⟩:=MJ k z d;have f:=WJ (i:=L) S (.dk (Yx l (YF z) d));refine⟨_,_,.inl (nB c (by simpa[a]using g) n),⟨_,rfl⟩,?_⟩;have v:X6 xk acc z=X7 acc z:=by unfold X6;rw[if_neg a]
  rw[v];refine⟨_,qC9 (qA1.mp e).1,r,MK j,λy o=>?_,U7 f hk t,kp.trans f⟩;rcases Sb.mp o with q|rfl
  .exact m y q
  .exact p
theorem nz(c:ZQ){d:D}{a b:Nat}{w5 w8:Option D}{f:ZT}{S S':ZX}(e:Y4 [] (gN 8) (Si c) [Zs (a &&& b),Zs (a ||| b)] (YV sw kr nk (Z9 d) (Z9 (.dct L)) w5 (Z9 (Zs a)) (Z9 (Zs b)) w8) S=.nx f S'):Pn c (YV sw kr nk (Z9 d) (Z9 (.dct L)) w5 (Z9 (Zs a)) (Z9 (Zs b)) w8) S=.nx f S':=by unfold YV Zs at e ⊢;simp[Pn,MI,Jh,e]
theorem ny(c:ZQ)(f:Y1 kk xk)(j:nk≠L){acc:List Nat}{S:ZX}(h:LA S0 L nk kk acc S){a b:Nat}(k:a<256)(i:b<256)(d:D)(w5 w8:Option D):
  Sr (Pn c (YV sw kr nk (Z9 d) (Z9 (.dct L)) w5 (Z9 (Zs a)) (Z9 (Zs b)) w8) S) (fun B m=>(∃w8,B=YV sw kr nk (Z9 d) (Z9 (.dct L)) w5 (Z9 (Zs a)) (Z9 (Zs b)) w8)/\LA S0 L nk kk (Xm xk a acc b) m):=by
 obtain⟨l,n,e,p⟩:=Dw (Du c f j h (zJZ (sw:=3) k i (.inl rfl)) d w5 (Z9 (Zs a)) (Z9 (Zs b)) w8) (fun B S g=>by
  obtain⟨⟨w8,rfl⟩,g⟩:=g;exact Du (sw:=sw) (kr:=kr) c f j g (zJZ (sw:=3) k i (.inr rfl)) d w5 (Z9 (Zs a)) (Z9 (Zs b)) w8)
 exact⟨l,n,nz c e,p⟩
theorem nv(c:ZQ){d:D}{b a:Int}{f:Nat}{X:yM}{w6 w7 w8:Option D}{g:ZT}{S S':ZX}(i:Zu (.lst kr) (.int (a - b - 1)) S=.ok (.lst f) S)(l:ZL S f=Z9 X)(e:Y4 [(f,X)] (gN 7) (Pn c) X (YV sw kr nk (Z9 (.int a)) (Z9 (.dct L)) (Z9 (.int b)) w6 w7 w8) S=.nx g S'):M3 c (YV sw kr nk (Z9 (.int a)) (Z9 (.dct L)) (Z9 (.int b)) w6 w7 w8) S=.nx g S':=by unfold YV at e ⊢;simp[M3,i,l,e]
theorem nt(c:ZQ){a:Int}{b:Nat}{X:yM}{w3 w6 w7 w8:Option D}{d:ZT}{S S':ZX}(i:Zu (.lst kr) (.int (a - 1)) S=.ok (.lst b) S)(l:ZL S b=Z9 X)(e:Y4 [(b,X)] (gN 6) (M3 c) X (YV sw kr nk w3 (Z9 (.dct L)) (Z9 (.int a)) w6 w7 w8) S=.nx d S'):Pm c (YV sw kr nk w3 (Z9 (.dct L)) (Z9 (.int a)) w6 w7 w8) S=.nx d S':=by unfold YV at e ⊢;simp[Pm,i,l,e]
theorem nr(c:ZQ)(r:Y1 kk xk)(J:nk≠L){acc:List Nat}{S:ZX}(h:LA S0 L nk kk acc S){i f:Int}{q n:Nat}{R:yM}{x1 x2:List Nat}(t:ZL S0 kr=Z9 R)(O:XW R (i - 1)=Z9 (.lst q))(M:XW R (f - i - 1)=Z9 (.lst n))(w:ZL S0 q=Z9 (x1.map Zs))(u:ZL S0 n=Z9 (x2.map Zs))(v:kr≠L)(x:q≠L)(y:n≠L)(b1:∀z∈x1,z<256)(b2:∀z∈x2,z<256)(w6 w7 w8:Option D):
  Sr (Pm c (YV sw kr nk (Z9 (.int f)) (Z9 (.dct L)) (Z9 (.int i)) w6 w7 w8) S) (fun B l=>(∃w6 w7 w8,B=YV sw kr nk (Z9 (.int f)) (Z9 (.dct L)) (Z9 (.int i)) w6 w7 w8)/\LA S0 L nk kk (allN xk x1 x2 acc) l):=by
 have k:∀{acc:List Nat}{S:ZX},LA S0 L nk kk acc S->Kp (·=L) S0 S:=λh=>by obtain⟨_,_,_,_,_,_,kp⟩:=h;exact kp
 have kp:=k h;obtain⟨A,T,e,p⟩:=Vn Zs (λs a=>x2.foldl (Xm xk a) s) (λs B l=>(∃w6 w7 w8,B=YV sw kr nk (Z9 (.int f)) (Z9 (.dct L)) (Z9 (.int i)) w6 w7 w8)/\LA S0 L nk kk s l) (g:=gN 6) (λs B l j=>Xx ((k j.2).lst w x)) x1 ⟨⟨_,_,_,rfl⟩,h⟩ (λs a B l N j=>by
  obtain⟨⟨w6,w7,w8,rfl⟩,j⟩:=j;have m:=k j;obtain⟨U,C,K,⟨P,o,rfl⟩,E⟩:=Vn Zs (Xm xk a) (λs B l=>(∃w7 w8,B=YV sw kr nk (Z9 (.int f)) (Z9 (.dct L)) (Z9 (.int i)) (Z9 (Zs a)) w7 w8)/\LA S0 L nk kk s l) (g:=gN 7) (λs B l j=>Xx ((k j.2).lst u y)) x2 ⟨⟨_,_,rfl⟩,j⟩ (λs b B G F j=>by
   obtain⟨⟨w7,w8,rfl⟩,j⟩:=j;obtain⟨V,H,Q,⟨o,rfl⟩,I⟩:=ny c r J j (b1 a N) (b2 b F) (.int f) (Z9 (.int i)) w8;exact⟨YV sw kr nk (Z9 (.int f)) (Z9 (.dct L)) (Z9 (.int i)) (Z9 (Zs a)) (Z9 (Zs b)) w8,G,by simp[YV],_,H,.inl Q,⟨_,_,rfl⟩,I⟩)
  refine⟨YV sw kr nk (Z9 (.int f)) (Z9 (.dct L)) (Z9 (.int i)) (Z9 (Zs a)) w7 w8,l,by simp[YV],_,C,.inl (nv (d:=.non) c ?_ (m.lst u y) K),⟨_,_,_,rfl⟩,E⟩;rw[VS (m.lst t v),M])
 refine⟨A,T,nt c ?_ (kp.lst w x) e,p⟩;rw[VS (kp.lst t v),O]
end
theorem MB:∀{kvs:List (ZJ×D)}{xs:List Nat},Y1 kvs xs->SJ kvs=Z9 (xs.map λz=>((z:Nat):Int))
 |[],[],_=>rfl
 |[],x::xs,h=>by simp[Y1]at h
 |p::kvs,[],h=>by simp[Y1]at h
 |(k,v)::kvs,x::xs,h=>by simp only[Y1,qC7,qL6.injEq]at h;have:=MB h.2;rw[h.1];show(SJ kvs).map _=_;rw[this];rfl
theorem Jb(xs:List Nat):∃ys:List Nat,ys.Perm xs/\V8 (xs.map λz=>((z:Nat):Int))=ys.map λz=>((z:Nat):Int):=by
 have a:=KU (xs.map λz=>((z:Nat):Int));refine⟨(V8 (xs.map λz=>((z:Nat):Int))).map qR7,?_,?_⟩
 .have:=a.map qR7;rw[qC8]at this;have e:xs.map (qR7∘λz:Nat=>z)=xs:=by rw[show(qR7∘λz:Nat=>z)=id from funext λz=>by simp];simp
  rw[e]at this;exact this
 .rw[qC8]
  conv=>lhs;rw[<- List.map_id (V8 (xs.map λz=>((z:Nat):Int)))]
  refine qF0 λx b=>?_;obtain⟨z,_,rfl⟩:=qD9.mp (a.mem_iff.mp b);simp
theorem nq{S:ZX}{L:Nat}{b:List (ZJ×D)}{acc:List Nat}(h:S[L]?=Z9 (.dk b))(c:Y1 b acc)(g:acc.length<=256):∃ys:List Nat,ys.Perm acc/\WC [.dct L] S=.ok (.lst S.length) (S++[.lst (ys.map Zs)]):=by
 obtain⟨ys,d,f⟩:=Jb acc;refine⟨ys,d,?_⟩;have e:(V8 (acc.map λz=>((z:Nat):Int))).map D.int=ys.map Zs:=by rw[f,qC8];rfl
 have a:(acc.map λz=>((z:Nat):Int)).length<=5000:=by rw[qA3];omega
 unfold WC;dsimp only;rw[h];dsimp only;rw[MB c];dsimp only;rw[e];by_cases q:(acc.map λz=>((z:Nat):Int)).length<64
 .rw[if_pos q]
 .rw[if_neg q,if_pos a]
inductive WS(sw:Nat)(S0:ZX)(kr nk m:Nat)(S:ZX):Prop
 |mk (ids:List Nat) (kk:List (ZJ×D)) (yk:List Nat) (hl:ids.length=m) (hr:ZL S kr=Z9 (ids.map D.lst)) (rw':Dv sw S ids) (hk:S[nk]?=Z9 (.dk kk)) (ky:Y1 kk yk) (s:∀z,z∈yk↔∃i,i<m/\z∈lv sw i) (nd:yk.Nodup) (hi:∀i∈ids,S0.length<=i/\i≠kr) (n1:S0.length<=kr) (n2:S0.length<=nk) (x:Ex S0 S)
theorem nj(c:ZQ){sw kr a L r:Nat}{len:Int}{w3 w4 w5 w6 w7 w8 f g k i:Option D}{S j d b h S5:ZX}(m:Zr [.lst kr] S=.ok (.int len) S)(n:S.length=L)(o:S++[.dk []]=j)(b0:-4611686018427387904<=(len+1) / 2+1/\(len+1) / 2+1<4611686018427387904)
  (e:Y4 [] (gN 5) (Pm c) (Zc 1 ((len+1) / 2+1 - 1).toNat) (YV sw kr a (Z9 (.int (len+1))) (Z9 (.dct L)) w5 w6 w7 w8) j=.nx (YV sw kr a (Z9 (.int (len+1))) (Z9 (.dct L)) f g k i) d) (tk:Yk "dict" (.dct a) d=Z7) (l:W6 (.dct a) [.dct L] d=.ok .non b) (q:Yk "list" (.lst kr) b=Z7) (p:WC [.dct L] b=.ok (.lst r) h) (s:X3 XU (.lst kr) [.lst r] h=.ok .non S5) :
  Pl c (YV sw kr a w3 w4 w5 w6 w7 w8) S=.nx (YV sw kr a (Z9 (.int (len+1))) (Z9 (.dct L)) f g k i) S5:=by rw[Int.add_sub_cancel]at e;unfold YV at e ⊢;simp[Pl,m,n,o,b0,e,tk,l,q,p,s]
theorem ni(n:Nat){sw kr nk m:Nat}{S0 S:ZX}(s3:sw<=3)(m1:1<=m)(m2:m<=900)(h:WS sw S0 kr nk m S)(c:ZQ)(w3 w4 w5 w6 w7 w8:Option D):∃S1 v3 v4 v5 v6 v7 v8,Pl c (YV sw kr nk w3 w4 w5 w6 w7 w8) S=.nx (YV sw kr nk v3 v4 v5 v6 v7 v8) S1/\WS sw S0 kr nk (m+1) S1:=by
 obtain⟨f,J,yk,w,hr,o,hk,ky,s,nd,v,n1,n2,x⟩:=h;obtain⟨L,K⟩:∃L,S.length=L:=⟨_,rfl⟩
 obtain⟨S1,u⟩:∃S1,S++[O.dk []]=S1:=⟨_,rfl⟩
 have F:=u▸Zh S _;have krl:kr<L:=by rw[<- K];exact US hr
 have nkl:nk<L:=by rw[<- K];exact(qA1.mp hk).1
 have G:∀i∈f,i<L:=λi h=>by obtain⟨j,Z⟩:=qE2 h;obtain⟨xs,q,_⟩:=o j i Z;rw[<- K];exact US q
 have R:=F.lst hr λz=>z;have l1:S1.length=L+1:=by rw[<- u,<- K];simp
 have hd:(((m:Int)+1) / 2+1 - 1).toNat=(m+1) / 2:=by omega
 have bdk:∀z∈yk,z<256:=λz t=>by obtain⟨i,_,v⟩:=(s z).mp t;exact Ud s3 v
 obtain⟨B2,Y,e1,⟨v5,v6,v7,v8,rfl⟩,acc,la,sa⟩:=Wq (g:=gN 5) (items:=Zc 1 (((m:Int)+1) / 2+1 - 1).toNat) (P:=λj B X=>(∃w5 w6 w7 w8,B=YV sw kr nk (Z9 (.int (m+1))) (Z9 (.dct L)) w5 w6 w7 w8)/\∃acc,LA S1 L nk J acc X/\∀z,z∈acc↔z∉yk/\∃l,l<j/\∃a∈lv sw l,∃b∈lv sw (m - 1 - l),z=a &&& b∨z=a ||| b) (B:=YV sw kr nk (Z9 (.int (m+1))) (Z9 (.dct L)) w5 w6 w7 w8) (λ_ _ X _=>Yg X) ⟨⟨_,_,_,_,rfl⟩,[],⟨[],by rw[<- u,<- K,qA0 (qA7 _)];simp,rfl,.nil,λz h=>(by cases h),Sa (F.at hk λz=>z),Kp.refl _ _⟩,λz=>by simp⟩ (λj d B X W hP=>by
  obtain⟨⟨w5,w6,w7,w8,rfl⟩,acc,la,sa⟩:=hP;rw[Q6,hd]at W;obtain⟨Z,rfl⟩:=W;have i1:f[j]?=Z9 (f[j]'(by omega)):=qA6 _;have i2:f[m - 1 - j]?=Z9 (f[m - 1 - j]'(by omega)):=qA6 _;obtain⟨x1',a1,a2⟩:=o _ _ i1;obtain⟨x2',b1,b2⟩:=o _ _ i2;have d1:=G _ (qB6 i1);have d2:=G _ (qB6 i2);obtain⟨B3,S3,e3,⟨u6,u7,u8,rfl⟩,p3⟩:=nr c ky (by omega) la R (by rw[show(1+j - 1)=(j:Int) by omega];exact Vq (by rw[qB2,i1];rfl)) (by rw[show(m+1 - (1+j) - 1)=((m - 1 - j:Nat):Int) by omega];exact Vq (by rw[qB2,i2];rfl)) (F.lst a1 λz=>z) (F.lst b1 λz=>z) (by omega) (by omega) (by omega) (λz t=>Ud s3 ((a2 z).mp t)) (λz t=>Ud s3 ((b2 z).mp t)) w6 w7 w8;refine⟨YV sw kr nk (Z9 (.int (m+1))) (Z9 (.dct L)) (Z9 (.int (1+j))) w6 w7 w8,X,by simp[YV],_,S3,.inl e3,⟨_,_,_,_,rfl⟩,_,p3,λz=>?_⟩;rw[Jg,sa];constructor
  .rintro(⟨u,l,w,q⟩| ⟨u,a,y,b,A,q⟩)
   .exact⟨u,l,by omega,q⟩
   .exact⟨u,j,by omega,a,(a2 a).mp y,b,(b2 b).mp A,q⟩
  .rintro⟨u,l,w,a,y,b,A,q⟩;by_cases e:l=j
   .subst e;exact .inr ⟨u,a,(a2 a).mpr y,b,(b2 b).mpr A,q⟩
   .exact .inl ⟨u,l,by omega,a,y,b,A,q⟩)
 have ul:(Zc 1 (((m:Int)+1) / 2+1 - 1).toNat).length=(m+1) / 2:=by unfold Zc;rw[qA3,qD4,hd]
 rw[ul]at sa;obtain⟨kl,q1,q2,q3,q4,q5,I⟩:=la;have C:∀z,z∈acc↔z∈lv sw m:=λz=>by
  obtain⟨p,rfl⟩:∃p,m=p+1:=⟨m - 1,by omega⟩
  rw[sa,Q4];constructor
  .rintro⟨h,l,w,a,y,b,A,q⟩;exact⟨zJZ (V3 sw _ y) (V3 sw _ A) q,λi v t=>h ((s z).mpr ⟨i,by omega,t⟩),l,w,a,y,b,A,q⟩
  .rintro⟨_,h,l,w,a,y,b,A,q⟩;refine⟨λt=>?_,l,w,a,y,b,A,q⟩;obtain⟨i,v,t⟩:=(s z).mp t;exact h i (by omega) t
 have H:=I.at (F.at hk λz=>z) (by omega);have lk:J.length<=256:=by rw[Ug ky];exact Vm 256 nd bdk
 have ll:=Vm 256 q3 q4;have e2:W6 (.dct nk) [.dct L] Y=.ok .non (Y.set nk (.dk (YJ J kl))):=by unfold W6;dsimp only;rw[H,Sa q1];dsimp only;rw[if_pos ⟨by omega,qC6 (qS5 lk (by rw[Ug q2];exact ll)) (by decide)⟩]
 obtain⟨S3,h3⟩:∃S3,Y.set nk (O.dk (YJ J kl))=S3:=⟨_,rfl⟩
 rw[h3]at e2;have T:=h3▸WJ Y _;obtain⟨ys,y1,y2,y3⟩:=OO q2 ky;have hk3:S3[nk]?=Z9 (.dk (YJ J kl)):=by rw[<- h3];exact qC9 (qA1.mp H).1
 have E:kr≠nk:=λe=>by subst e;rw[U8 hr]at hk;cases hk
 have U:∀i∈f,i≠nk:=λi v e=>by obtain⟨j,Z⟩:=qE2 v;obtain⟨xs,q,_⟩:=o j i Z;rw[e,ZL,hk]at q;cases q
 have V:=T.lst (I.lst R (by omega)) E;obtain⟨zs,z1,z2⟩:=nq (T.at q1 (by omega)) q2 ll;obtain⟨r,N⟩:∃r,S3.length=r:=⟨_,rfl⟩
 obtain⟨S4,h4⟩:∃S4,S3++[O.lst (zs.map Zs)]=S4:=⟨_,rfl⟩
 rw[N,h4]at z2;have Q:=h4▸Zh S3 _;have M:=Q.lst V λz=>z;have e4:X3 XU (.lst kr) [.lst r] S4=.ok .non (S4.set kr (.lst (f.map D.lst++[.lst r]))):=by rw[Um M,Tz,if_pos (by rw[qA3,w,YB];omega)]
 have lr:L<r:=by have:=I.le;have:=T.le;omega
 refine⟨_,_,_,_,_,_,_,nj c (by rw[Ka hr,qA3,w]) K u ⟨by omega,by omega⟩ e1 (DI H rfl) e2 (Uo V) z2 e4,f++[r],YJ J kl,ys,by simp[w],?_,λi id k=>?_,?_,y1,λz=>?_,y3 nd,λi hi'=>?_,n1,n2,⟨?_,λi hlt _=>?_⟩⟩
 .rw[UR M,qE1];rfl
 .by_cases q:i<f.length
  .rw[qA8 q]at k;have mem:=qB6 k;exact(((((o i id k).kp F (λz=>z)).kp I (by have:=G id mem;omega)).kp T (U id mem)).kp Q (λz=>z)).kp (WJ S4 _) (v id mem).2
  .rw[qA0 (by omega)]at k;have:=by have:=(qA1.mp k).1;simp at this;omega
   rw[this]at k;simp at k;subst k;have im:i=m:=by omega
   subst im;refine⟨zs,?_,λz=>by rw[z1.mem_iff];exact C z,z1.nodup_iff.mpr q3⟩;refine(WJ S4 _).lst ?_ (by omega);rw[<- h4,<- N];exact Y7 _ _
 .exact(WJ S4 _).at (Q.at hk3 λz=>z) (λe=>E e.symm)
 .rw[y2,s,C];constructor
  .rintro(⟨i,v,h⟩| h)
   .exact⟨i,by omega,h⟩
   .exact⟨m,by omega,h⟩
  .rintro⟨i,v,h⟩;by_cases e:i=m
   .subst e;exact .inr h
   .exact .inl ⟨i,by omega,h⟩
 .rcases qB9.mp hi' with q|q
  .exact v i q
  .simp at q;omega
 .rw[qG5];have:=Q.le;omega
 .have:=x.le;have:=I.le;rw[qD5 (by omega),Q.eq i (by omega) (λz=>z),T.eq i (by omega) (by omega),I.eq i (by omega) (by omega),F.eq i (by omega) (λz=>z),x.eq i hlt (λz=>z)]
theorem MA:∀{l m:List Nat},l.Nodup->(∀x∈l,x∈m)->l.length<=m.length
 |[],m,_,_=>by simp
 |a::l,m,nd,h=>by have nd':=qJ5.mp nd;have c:=h a (by simp);have d:=MA nd'.2 (λx b=>(List.mem_erase_of_ne (λe:x=a=>nd'.1 (e▸b))).mpr (h x (by simp[b])));rw[qO0 c]at d;have:=List.length_pos_of_mem c;simp;omega
theorem Dt{N:Nat}{yk:List Nat}(e:yk.Nodup)(c:∀z∈yk,z<N)(h:¬yk.length<N){x:Nat}(b:x<N):x∈yk:=by
 refine Classical.byContradiction λd=>?_;have:=Vm N (qJ5.mpr ⟨d,e⟩) (λz a=>by
  rcases qA9.mp a with rfl|a
  .exact b
  .exact c z a)
 simp at this;omega
theorem nh{sw kr b:Nat}{w3 w4 w5 w6 w7 w8:Option D}{len:Nat}{S:ZX}(c:1<=sw)(d:sw<=3)(a:Zr [.dct b] S=.ok (.int (len:Nat)) S):(Y5 (ZU VW (ZS Zr (ZP [(ZY 2)])) (ZU Yr (ZW (.int 1)) (ZU Yr (ZW (.int 1)) (ZY 0))))) (YV sw kr b w3 w4 w5 w6 w7 w8) S=.ok (decide (len<NN sw)) S:=by
 have:sw=1∨sw=2∨sw=3:=by omega
 rcases this with rfl|rfl|rfl
 .have q:decide (len<NN 1)=decide ((len:Int)<4):=by rw[decide_eq_decide];show len<4↔_;omega
  rw[q];simp[YV,a]
 .have q:decide (len<NN 2)=decide ((len:Int)<16):=by rw[decide_eq_decide];show len<16↔_;omega
  rw[q];simp[YV,a]
 .have q:decide (len<NN 3)=decide ((len:Int)<256):=by rw[decide_eq_decide];show len<256↔_;omega
  rw[q];simp[YV,a]
theorem ng{S:ZX}{m:Nat}{kvs:List (ZJ×D)}(h:S[m]?=Z9 (.dk kvs)):Zr [.dct m] S=.ok (.int (kvs.length:Nat)) S:=by unfold Zr;dsimp only;rw[h]
theorem Ds:∀ys:List Nat,WB (ys.map λz=>D.tup [Zs z,.int 1])=Z9 (ys.map λz=>(YF z,D.int 1))
 |[]=>rfl
 |y::ys=>by show(match Vp (Zs y),WB (ys.map λz=>D.tup [Zs z,.int 1])with|some q,Z9 a=>Z9 ((q,D.int 1)::a)| _,_=>Z8)=_;rw[Ds ys];rfl
theorem nc{S:ZX}{n:Nat}{ys:List Nat}(h:S[n]?=Z9 (.lst (ys.map λz=>D.tup [Zs z,.int 1])))(a:ys.length<=lim):Vc [.lst n] S=.ok (.dct S.length) (S++[.dk (YJ [] (ys.map λz=>(YF z,D.int 1)))]):=by unfold Vc;dsimp only;rw[h];dsimp only;rw[Ds];dsimp only;rw[if_pos (by rw[qA3];exact a)]
theorem m6(c:ZQ){s:Int}{g k d kr i e:Nat}{X R Y:yM}{w3 w4 w5 w6 w7 w8:Option D}{S b j f a h l S7:ZX}(x:c "_law_singles" [.int s] S=.ok (.lst g) b)(w:ZL b g=Z9 X)(q:X.length<lim)(m:Zf [(g,X)] .one (λ_=>ret Z7) (M1 c) [Z8] X b=.ok R b)(v:b.length=k)(u:b++[.lst R]=j)(p:WC [.lst k] j=.ok (.lst d) f)(B:f.length=kr)(t:f++[.lst [.lst d]]=a)
  (n:Zu (.lst kr) (.int 0) a=.ok (.lst d) a) (o:ZL a d=Z9 Y) (A:Y.length<lim) {P:yM} (C:Zf [(d,Y)] .one (λ_=>ret Z7) (M2 c) [Z8] Y a=.ok P a) (y:a.length=i) (r:a++[.lst P]=h) (z:Vc [.lst i] h=.ok (.dct e) l)
  (E:Ws Vw (Y5 (ZU VW (ZS Zr (ZP [(ZY 2)])) (ZU Yr (ZW (.int 1)) (ZU Yr (ZW (.int 1)) (ZY 0))))) (Pl c) [Z9 (.int s),Z9 (.lst kr),Z9 (.dct e),Z8,Z8,Z8,Z8,Z8,Z8] l=.nx [Z9 (.int s),Z9 (.lst kr),Z9 (.dct e),w3,w4,w5,w6,w7,w8] S7) :
  Pk c [Z9 (.int s),Z8,Z8,Z8,Z8,Z8,Z8,Z8,Z8] S=.rt (.lst kr) S7:=by simp[Pk,x,w,q,m,v,u,p,B,t,n,o,A,C,y,r,z,E]
theorem m4{sw:Nat}(b:1<=sw)(a:sw<=3):((YI sw sw).map (ZA 0)).Nodup:=by
 have:sw=1∨sw=2∨sw=3:=by omega
 rcases this with rfl|rfl|rfl<;>decide +kernel
def Ww(sw j:Nat):Prop:=∀x,x<NN sw->∃i,i<j/\x∈lv sw i
structure Dr(cl:Nat->ZQ):Prop where
 st:M7 cl
 si:Ep cl
 nu:M4 cl
 le:pR cl
inductive UO(sw:Nat)(S0:ZX)(kr:Nat)(S:ZX):Prop
 |mk (ids:List Nat) (m:Nat) (hl:ids.length=m) (m2:m<=900) (hr:ZL S kr=Z9 (ids.map D.lst)) (rw':Dv sw S ids) (full:Ww sw m) (ls:∀j,1<=j->j<m->¬Ww sw j)
theorem m3(H:Dr cl)(n:Nat){sw:Nat}(L:1<=sw)(u:sw<=3)(S:ZX):∃kr S1,cl (n+3) "_law_levels" [.int (sw:Nat)] S=.ok (.lst kr) S1/\S.length<=kr/\Ex S S1/\UO sw S kr S1:=by
 obtain⟨f0,S1,e1,g1,x1,l1⟩:=Jc H.si H.st n L u S;have c1:Zf [(f0,(YI sw sw).map Zp)] .one (λ_=>ret Z7) (M1 (cl (n+2))) [Z8] ((YI sw sw).map Zp) S1=.ok ((YI sw sw).map λb=>Zs (ZA 0 b)) S1:=by
  refine VQ Zp (Xx l1) _ _ λb _=>⟨_,rfl,?_⟩
  have:=ON H.nu (n+1) b S1;simp[M1,this,Zs]
 have d:=MD sw sw;obtain⟨ns,a⟩:∃ns:List Nat,(YI sw sw).map (ZA 0)=ns:=⟨_,rfl⟩
 have nsl:ns.length=2*sw:=by rw[<- a,qA3,d]
 have v:∀z,z∈ns↔z∈lv sw 0:=λz=>by
  rw[OS,<- a];unfold YI Zd;simp only[qD9,qJ2];constructor
  .rintro⟨b,⟨k,hk,hb⟩,rfl⟩;refine⟨k,hk,?_⟩;simp at hb;rcases hb with rfl|rfl
   .simp[R9]
   .simp[R9]
  .rintro⟨k,hk,M⟩;simp at M;rcases M with rfl|rfl
   .exact⟨_,⟨k,hk,by simp⟩,R9 sw k 0⟩
   .exact⟨_,⟨k,hk,by simp⟩,R9 sw k 1⟩
 have eR:((YI sw sw).map λb=>Zs (ZA 0 b))=(ns.map λz=>((z:Nat):Int)).map D.int:=by rw[<- a,qC8,qC8];rfl
 rw[eR]at c1;obtain⟨n0,h0⟩:∃n0,S1.length=n0:=⟨_,rfl⟩
 obtain⟨S2,V⟩:∃S2,S1++[O.lst ((ns.map λz=>((z:Nat):Int)).map D.int)]=S2:=⟨_,rfl⟩
 obtain⟨ys,K,y2⟩:=Jb ns;have e2:WC [.lst n0] S2=.ok (.lst S2.length) (S2++[.lst (ys.map Zs)]):=by rw[EB (by rw[<- V,<- h0];exact Y7 _ _) (by rw[qA3];omega),y2,qC8];rfl
 obtain⟨r0,f⟩:∃r0,S2.length=r0:=⟨_,rfl⟩
 obtain⟨S3,R⟩:∃S3,S2++[O.lst (ys.map Zs)]=S3:=⟨_,rfl⟩
 rw[f,R]at e2;obtain⟨kr,C⟩:∃kr,S3.length=kr:=⟨_,rfl⟩
 obtain⟨S4,U⟩:∃S4,S3++[O.lst [.lst r0]]=S4:=⟨_,rfl⟩
 have F:=V▸Zh S1 _;have x23:=R▸Zh S2 _;have l:=U▸Zh S3 _;have Y:ZL S3 r0=Z9 (ys.map Zs):=by rw[<- R,<- f];exact Y7 _ _
 have o:=l.lst Y λz=>z;have J:ZL S4 kr=Z9 ([r0].map D.lst):=by rw[<- U,<- C];exact Y7 _ _
 have c2:Zf [(r0,ys.map Zs)] .one (λ_=>ret Z7) (M2 (cl (n+2))) [Z8] (ys.map Zs) S4=.ok (ys.map λz=>D.tup [Zs z,.int 1]) S4:=by
  refine VQ Zs (Xx o) _ _ λz _=>⟨_,rfl,?_⟩
  simp[M2]
 obtain⟨n5,h5⟩:∃n5,S4.length=n5:=⟨_,rfl⟩
 obtain⟨S5,T⟩:∃S5,S4++[O.lst (ys.map λz=>D.tup [Zs z,.int 1])]=S5:=⟨_,rfl⟩
 have Z:ys.length=2*sw:=by rw[K.length_eq,nsl]
 have e3:=nc (S:=S5) (n:=n5) (ys:=ys) (by rw[<- T,<- h5,qA0 (qA7 _)];simp) (by rw[YB];omega);obtain⟨nk,y⟩:∃nk,S5.length=nk:=⟨_,rfl⟩
 obtain⟨S6,h7⟩:∃S6,S5++[O.dk (YJ [] (ys.map λz=>(YF z,D.int 1)))]=S6:=⟨_,rfl⟩
 rw[y,h7]at e3;have c:=T▸Zh S4 _;have g:=h7▸Zh S5 _;have hk6:S6[nk]?=Z9 (.dk (YJ [] (ys.map λz=>(YF z,D.int 1)))):=by rw[<- h7,<- y,qA0 (qA7 _)];simp
 obtain⟨zs,z1,z2,z3⟩:=OO (more:=ys.map λz=>(YF z,D.int 1)) (kvs:=[]) (xs:=[]) (by unfold Y1;rw[qC8];rfl) rfl;have st:WS sw S kr nk 1 S6:=by
  have:=x1.le;have:=F.le;have:=l.le;have:=c.le;have sl3:S3.length=r0+1:=by rw[<- R,<- f];simp
  refine⟨[r0],_,zs,rfl,g.lst (c.lst J λz=>z) λz=>z,λi id p=>?_,hk6,z1,λz=>?_,z3 .nil,λi N=>?_,by omega,by omega,((((x1.trans F).trans x23).trans l).trans c).trans g⟩
  .have:=by have:=(qA1.mp p).1;simp at this;omega
   subst this;simp at p;subst p;exact⟨ys,g.lst (c.lst o λz=>z) λz=>z,λz=>by rw[K.mem_iff,v],K.nodup_iff.mpr (a▸m4 L u)⟩
  .rw[z2,K.mem_iff,v];constructor
   .simp_all
   .simp_all
  .simp at N;omega
 obtain⟨B',S7,e4,⟨w3,w4,w5,w6,w7,w8,rfl⟩,⟨m,q,mle,G,ls⟩⟩:=PZ (t:=Y5 (ZU VW (ZS Zr (ZP [(ZY 2)])) (ZU Yr (ZW (.int 1)) (ZU Yr (ZW (.int 1)) (ZY 0))))) (P:=λk B r=>(∃w3 w4 w5 w6 w7 w8,B=YV sw kr nk w3 w4 w5 w6 w7 w8)/\∃m,WS sw S kr nk m r/\1<=m/\m<=26/\(∀j,1<=j->j<m->¬Ww sw j)/\k=26 - m) (Q:=fun B r=>(∃w3 w4 w5 w6 w7 w8,B=YV sw kr nk w3 w4 w5 w6 w7 w8)/\∃m,WS sw S kr nk m r/\m<=26/\Ww sw m/\∀j,1<=j->j<m->¬Ww sw j) (λk B r h=>by
  obtain⟨⟨w3,w4,w5,w6,w7,w8,rfl⟩,m,ws,m1,X,nf,rfl⟩:=h;have W:=ws;obtain⟨I,kk,yk,a1,a2,a3,a4,a5,s,a7,a8,a9,a10,E⟩:=W;have tt:=nh (kr:=kr) (w3:=w3) (w4:=w4) (w5:=w5) (w6:=w6) (w7:=w7) (w8:=w8) L u (ng a4);have kl:=Ug a5;have bd:∀z∈yk,z<NN sw:=λz M=>by obtain⟨i,_,N⟩:=(s z).mp M;exact V3 sw i N
  by_cases A:kk.length<NN sw
  .have m25:m<26:=by
    refine Classical.byContradiction λhm=>?_;have:=MA qJ9 λx w=>by obtain⟨i,N,h⟩:=DU L u (qE0.mp w);exact(s x).mpr ⟨i,by omega,h⟩
    rw[qD4]at this;omega
   obtain⟨S8,v3,v4,v5,v6,v7,v8,b1,b2⟩:=ni n u m1 (by omega) ws (cl (n+2)) w3 w4 w5 w6 w7 w8;refine .inr ⟨r,by simpa[A]using tt,_,S8,.inl b1,26 - (m+1),by omega,⟨_,_,_,_,_,_,rfl⟩,m+1,b2,by omega,by omega,λj j1 j2 hf=>?_,rfl⟩;by_cases e:j=m
   .subst e;have:=MA qJ9 λx w=>(s x).mpr (hf x (qE0.mp w));rw[qD4]at this;omega
   .exact nf j j1 (by omega) hf
  .exact .inl ⟨r,by simpa[A]using tt,⟨_,_,_,_,_,_,rfl⟩,m,ws,X,λx w=>(s x).mp (Dt a7 bd (by omega) w),nf⟩) Vw 25 (YV sw kr nk Z8 Z8 Z8 Z8 Z8 Z8) S6 (by show 25<100000;omega) ⟨⟨_,_,_,_,_,_,rfl⟩,1,st,by omega,by omega,λj j1 j2=>by omega,rfl⟩
 obtain⟨I,kk,yk,a1,a2,a3,a4,a5,s,a7,a8,a9,a10,E⟩:=q;refine⟨kr,S7,?_,a9,E,I,m,a1,by omega,a2,a3,G,ls⟩;rw[H.le];exact YC rfl (m6 _ e1 l1 (by rw[qA3,d,YB];omega) c1 h0 V e2 C U (by rw[VS J];rfl) o (by rw[qA3,Z,YB];omega) c2 h5 T e3 e4)
theorem mA{S:ZX}{q:Nat}{l:yA}(h:ZL S q=Z9 (l.map D.int))(neg:Bool)(a:Int):YG neg (.int a) (.lst q) S=.ok (.bl (if neg then !decide (a∈l)else decide (a∈l))) S:=by have e:SM S (.lst q)=Z9 (l.map D.int):=h;unfold YG;dsimp only;rw[e];show(match (l.map D.int).mapM XQ with|some b=>R.ok (D.bl (if neg then !T8 (.int a) b else T8 (.int a) b)) S|none=>.bad)=_;rw[pe];dsimp only;rw[pg]
theorem Dq{ix:Nat}:∀(m:Nat),ix<m->(List.range m).filter (λi=>decide (i=ix))=[ix]
 |0,h=>absurd h (qO7 _)
 |m+1,h=>by
  rw[qM7,List.filter_append];by_cases e:ix=m
  .subst e;have:(List.range ix).filter (λi=>decide (i=ix))=[]:=qO4.mpr λa b=>by have:=qE0.mp b;simp;omega
   rw[this];simp
  .rw[Dq m (by omega)];simp[Ne.symm e]
theorem mz(a:List Nat):VU (a.map D.lst)=(List.range a.length).map λi=>.tup [.int (i:Nat),.lst (a.getD i 0)]:=by
 refine qL1 λi=>?_;by_cases h:i<a.length
 .rw[NU (by simpa using h),qB2,qG4 h];simp[qF4,h]
 .rw[qF5 (by rw[TN];simp;omega),qF5 (by simp;omega)]
theorem mx(c:ZQ){i:Int}{r:Nat}{x:Int}{b:Bool}{S:ZX}(e:YG Z5 (.int x) (.lst r) S=.ok (.bl b) S):Pj c [Z9 (.int i),Z9 (.lst r),Z9 (.int x)] S=.ok b S/\Pi c [Z9 (.int i),Z9 (.lst r),Z9 (.int x)] S=.ok (.int i) S:=by
 constructor
 .simp[Pj,e]
 .simp[Pi]
theorem mw(c:ZQ){kr:Nat}{a:D}{x ix:Int}{X E:yM}{S S1:ZX}(e:c "_law_number_of" [a] S=.ok (.int x) S)(l:ZL S kr=Z9 X)(g:VU X=E)(h:E.length<lim)(b:Zf [(kr,X)] (.many 2) (Pj c) (Pi c) [Z8,Z8,Z9 (.int x)] E S=.ok [.int ix] S)(f:S++[.lst [.int ix]]=S1)(d:Zu (.lst S.length) (.int 0) S1=.ok (.int ix) S1):Ph c [Z9 (.lst kr),Z9 a,Z8] S=.rt (.int (ix+1)) S1:=by simp[Ph,e,l,g,h,b,f,d]
theorem Dp(h:Eo cl)(x:M4 cl)(n:Nat){sw kr ix:Nat}{y S:ZX}(R:UO sw y kr S){bs:List Bool}(c:ZA 0 bs∈lv sw ix):VR (cl (n+2) "_law_fewest" [.lst kr,Zp bs] S) (.int ((ix+1:Nat):Int)) S:=by
 obtain⟨a,m,p,B,o,d,b⟩:=R;have g:ix<m:=by obtain⟨i,r,h⟩:=b _ (V3 sw ix c);have:=Q3 sw h c;omega
 have j:Zf [(kr,a.map D.lst)] (.many 2) (Pj (cl (n+1))) (Pi (cl (n+1))) [Z8,Z8,Z9 (.int (ZA 0 bs))] ((List.range a.length).map λi=>D.tup [.int (i:Nat),.lst (a.getD i 0)]) S=.ok (((List.range a.length).filter λi=>decide (i=ix)).map λi=>D.int (i:Nat)) S:=by
  refine P0 (λi:Nat=>D.tup [.int i,.lst (a.getD i 0)]) (Xx o) _ _ _ λi r=>⟨_,rfl,?_⟩
  have f:=qE0.mp r;have v:a[i]?=Z9 (a.getD i 0):=by simp[qF4,f]
  obtain⟨k,t,s⟩:=d _ _ v;have e:=mA (l:=k.map λz=>((z:Nat):Int)) (by rw[qC8];exact t) Z5 (ZA 0 bs);have u:decide (((ZA 0 bs):Int)∈k.map λz=>((z:Nat):Int))=decide (i=ix):=by
   rw[decide_eq_decide];constructor
   .intro q;obtain⟨z,w,A⟩:=qD9.mp q;have:z=ZA 0 bs:=by omega
    exact Q3 sw ((s z).mp w) (this▸c)
   .rintro rfl;exact qD9.mpr ⟨_,(s _).mpr c,rfl⟩
  rw[if_neg qB4,u]at e;have:=mx (cl (n+1)) (i:=i) e;exact⟨this.1,λ_=>this.2⟩
 rw[p,Dq m g]at j;refine⟨S++[O.lst [.int ix]],?_,Zh _ _⟩;rw[h,show((ix+1:Nat):Int)=ix+1 by omega];exact YC rfl (mw _ (ON x n bs S) o (mz a) (by rw[qA3,qD4,YB];omega) (by rw[p];exact j) rfl (by rw[VS (Y7 _ _)];rfl))
theorem mu(c:ZQ){a:Option D}{i:Nat}{r:Int}{S S1:ZX}(e:c "_law_take" [.lst i,.int 2] S=.ok (.int r) S1):M0 c [a,Z9 (.lst i)] S=.ok (.int r) S1:=by simp[M0,e]
theorem mq(c:ZQ){i:Nat}{s p:Int}{R:yM}{S a S2:ZX}(g:0<=s/\s<=4)(d:1*2 ^ s.toNat=p)(b:-4611686018427387904<=p/\p<4611686018427387904)(h:(Zc 0 p.toNat).length<lim)(e:Zf [] .one (λ_=>ret Z7) (M0 c) [Z8,Z9 (.lst i)] (Zc 0 p.toNat) S=.ok R a)(j:a++[.lst R]=S2)(t:W7 [.lst a.length] S2=.ok (.tup R) S2):Pg c [Z9 (.lst i),Z9 (.int s)] S=.rt (.tup R) S2:=by
 have f:s<=1000000:=by omega
 simp[Pg,g.1,f,d,b,h,e,j,t]
theorem Do(h:En cl)(ht:Jz cl)(n:Nat){sw i:Nat}(z:sw<=4){S:ZX}(p:XM S i):∃bs c,cl (n+2) "_law_some_function" [.lst i,.int (sw:Nat)] S=.ok (Zp bs) c/\bs.length=2 ^ sw/\Kp (·=i) S c/\XM c i:=by
 have w:(1*2 ^ ((sw:Nat):Int).toNat)=((2 ^ sw:Nat):Int):=by simp
 have k:2 ^ sw<=2 ^ 4:=qI5 (by decide) z;obtain⟨ds,c,e,l,⟨bs,v,kp,st⟩⟩:=D7 (t:=.one) (B0:=[Z8,Z9 (.lst i)]) (P:=λacc g=>∃bs,acc=Xw bs/\Kp (·=i) S g/\XM g i) (λ_ S _=>Yg S) (Zc 0 ((2 ^ sw:Nat):Int).toNat) [] ⟨[],rfl,Kp.refl _ _,p⟩ (λd _ acc g u=>by
  obtain⟨bs,rfl,kp,st⟩:=u;obtain⟨r,y,q,a,b,k2,_,f⟩:=Ek ht n st (m:=2) (by decide) (by decide);refine⟨_,rfl,.int r,y,mu _ q,bs++[decide (r=1)],?_,kp.trans k2,f⟩;have:r=0∨r=1:=by omega
  unfold Xw;rcases this with rfl|rfl<;>simp[b1])
 subst v;have j:(Zc 0 ((2 ^ sw:Nat):Int).toNat).length=2 ^ sw:=by unfold Zc;rw[qA3,qD4,qF2]
 refine⟨bs,c++[O.lst (Xw bs)],?_,?_,kp.trans (Zh _ _).kp,?_⟩
 .rw[h];refine YC rfl (mq _ ⟨by omega,by omega⟩ w ⟨by omega,by omega⟩ (by rw[j,YB];omega) e rfl (Su (Y7 _ _)))
 .rw[j]at l;unfold Xw at l;rw[qA3]at l;exact l
 .obtain⟨s,b,x,o⟩:=st;exact⟨s,b,Ss x,o⟩
theorem Tv{c g:Str}(a:c∈XO)(S:ZX):YX g (.xc c) S=.ok (.bl (c == g||g == ("ValueError":Str))) S:=by unfold YX;dsimp only;rw[if_pos a]
noncomputable def Mz:List (Str×Int):=[("TooMany",0),("NoContact",1),("NoBridge",2),("NoName",3),("BadNote",4),("NoPlace",5),("NoTable",6)]
noncomputable abbrev Mx(b0 b1 b2 b3 b4 b5 b6:Bool):List (Int×Bool):=[(0,b0),(1,b1),(2,b2),(3,b3),(4,b4),(5,b5),(6,b6)]
theorem mn{S:ZX}{n:Nat}{b0 b1 b2 b3 b4 b5 b6:Bool}{B:ZT}(h:ZL S n=Z9 [.bl b0,.bl b1,.bl b2,.bl b3,.bl b4,.bl b5,.bl b6])(c:B[3]?=Z9 (Z9 (.lst n))):
  Zf [] .one (YZ (ZU Zu (ZY 1) (ZY 0))) (ZY 0) (W2 1 [3] B) (Zc 0 7) S=.ok ((((Mx b0 b1 b2 b3 b4 b5 b6).filter (·.2)).map (·.1)).map D.int) S:=by
 have e:Zc 0 7=(Mx b0 b1 b2 b3 b4 b5 b6).map λp=>D.int p.1:=rfl;rw[e,qC8];refine P0 (λp:Int×Bool=>D.int p.1) (Yg _) (·.2) (λp=>D.int p.1) _ λp a=>?_;have b:W2 1 [3] B=[Z8,Z9 (.lst n)]:=by unfold W2;simp[c]
 rw[b];refine⟨[Z9 (.int p.1),Z9 (.lst n)],rfl,?_,λ_=>rfl⟩;have ex:Zu (.lst n) (.int p.1) S=.ok (.bl p.2) S:=by rw[VS h];simp only[qA9,qD3,or_false]at a;rcases a with rfl|rfl|rfl|rfl|rfl|rfl|rfl<;>rfl
 simp[ex]
theorem R7{c:Str}{S:ZX}{b0 b1 b2 b3 b4 b5 b6:Bool}(d:c∈XO)(I:(c == ("TooMany":Str)||("TooMany":Str) == "ValueError")=b0)(F:(c == ("NoContact":Str)||("NoContact":Str) == "ValueError")=b1)(G:(c == ("NoBridge":Str)||("NoBridge":Str) == "ValueError")=b2)(P:(c == ("NoName":Str)||("NoName":Str) == "ValueError")=b3)
  (E:(c == ("BadNote":Str)||("BadNote":Str) == "ValueError")=b4) (L:(c == ("NoPlace":Str)||("NoPlace":Str) == "ValueError")=b5) (w:(c == ("NoTable":Str)||("NoTable":Str) == "ValueError")=b6) :
  ∃n S',V7 (V5 (Vb 4 (.xc c)) S)=.ok (.lst n) S'/\ZL S' n=Z9 ((((Mx b0 b1 b2 b3 b4 b5 b6).filter (·.2)).map (·.1)).map D.int)/\Ex S S':=by
 obtain⟨S1,b⟩:∃S1,S++[O.lst [.bl b0,.bl b1,.bl b2]]=S1:=⟨_,rfl⟩
 obtain⟨S2,a⟩:∃S2,S1++[O.lst [.bl b3,.bl b4,.bl b5]]=S2:=⟨_,rfl⟩
 obtain⟨S3,f⟩:∃S3,S2++[O.lst [.bl b0,.bl b1,.bl b2,.bl b3,.bl b4,.bl b5]]=S3:=⟨_,rfl⟩
 obtain⟨S4,e⟩:∃S4,S3.set S2.length (O.lst [.bl b0,.bl b1,.bl b2,.bl b3,.bl b4,.bl b5,.bl b6])=S4:=⟨_,rfl⟩
 have J:ZL S1 S.length=Z9 [.bl b0,.bl b1,.bl b2]:=by rw[<- b];exact Y7 _ _
 have h:ZL S2 S.length=Z9 [.bl b0,.bl b1,.bl b2]:=by rw[<- a];exact Ss J
 have x:ZL S2 S1.length=Z9 [.bl b3,.bl b4,.bl b5]:=by rw[<- a];exact Y7 _ _
 have m:ZL S3 S2.length=Z9 [.bl b0,.bl b1,.bl b2,.bl b3,.bl b4,.bl b5]:=by rw[<- f];exact Y7 _ _
 have u:ZL S4 S2.length=Z9 [.bl b0,.bl b1,.bl b2,.bl b3,.bl b4,.bl b5,.bl b6]:=by rw[<- e];exact UR m
 have l:(6:Nat)<lim:=by decide
 have i:(Zc 0 7).length<lim:=by decide
 have o:=Ju h x (show 3+3<=lim by decide);simp only[qG7,qM5]at o;rw[f]at o;have v:=Um m XU [.bl b6];have t:=Uo m;obtain⟨W,r⟩:∃W,(((Mx b0 b1 b2 b3 b4 b5 b6).filter (·.2)).map (·.1)).map D.int=W:=⟨_,rfl⟩
 have q:=mn (B:=[Z8,Z9 (.xc c),Z8,Z9 (.lst S2.length)]) u rfl;rw[r,show W2 1 [3] [Z8,Z9 (D.xc c),Z8,Z9 (.lst S2.length)]=[Z8,Z9 (.lst S2.length)]from rfl]at q;rw[r];have s:Ex S S4:=by
  have k:Kp (·=S2.length) S3 S4:=by rw[<- e];exact WJ _ _
  have g:Ex S S3:=((b▸Zh _ _:Ex S S1).trans (a▸Zh _ _:Ex S1 S2)).trans (f▸Zh _ _:Ex S2 S3);refine⟨qC6 g.le k.le,λj p K=>(k.eq j (qB3 p g.le) ?_).trans (g.eq j p K)⟩;intro z;have:S.length<=S2.length:=((b▸Zh _ _:Ex S S1).trans (a▸Zh _ _:Ex S1 S2)).le;omega
 have H:YX "ValueError" (.xc c)=λS=>.ok (.bl Z7) S:=by funext S;rw[Tv d,beq_self_eq_true,Bool.or_true]
 have N:YX "TooMany" (.xc c)=λS=>.ok (.bl b0) S:=by funext S;rw[Tv d,I]
 have M:YX "NoContact" (.xc c)=λS=>.ok (.bl b1) S:=by funext S;rw[Tv d,F]
 have Q:YX "NoBridge" (.xc c)=λS=>.ok (.bl b2) S:=by funext S;rw[Tv d,G]
 have A:YX "NoName" (.xc c)=λS=>.ok (.bl b3) S:=by funext S;rw[Tv d,P]
 have y:YX "BadNote" (.xc c)=λS=>.ok (.bl b4) S:=by funext S;rw[Tv d,E]
 have C:YX "NoPlace" (.xc c)=λS=>.ok (.bl b5) S:=by funext S;rw[Tv d,L]
 have R:YX "NoTable" (.xc c)=λS=>.ok (.bl b6) S:=by funext S;rw[Tv d,w]
 refine⟨S4.length,S4++[.lst W],?_,Y7 _ _,s.trans (Zh _ _)⟩;have T:Vb 4 (.xc c)=[Z8,Z9 (.xc c),Z8,Z8]:=rfl;rw[T];simp[V5,N,M,Q,A,y,C,R,H,b,a,o,v,t,e,q,V7,l,i]
theorem mm{c:Str}{k:Int}(a:(c,k)∈Mz)(S:ZX):∃n S',V7 (V5 (Vb 4 (.xc c)) S)=.ok (.lst n) S'/\ZL S' n=Z9 [.int k]/\Ex S S':=by
 simp only[Mz,qA9,qD3,or_false,Prod.mk.injEq]at a;rcases a with⟨rfl,rfl⟩| ⟨rfl,rfl⟩| ⟨rfl,rfl⟩| ⟨rfl,rfl⟩| ⟨rfl,rfl⟩| ⟨rfl,rfl⟩| ⟨rfl,rfl⟩
 .exact R7 (b0:=Z7) (b1:=Z5) (b2:=Z5) (b3:=Z5) (b4:=Z5) (b5:=Z5) (b6:=Z5) (by decide +kernel) (by decide +kernel) (by decide +kernel) (by decide +kernel) (by decide +kernel) (by decide +kernel) (by decide +kernel) (by decide +kernel)
 .exact R7 (b0:=Z5) (b1:=Z7) (b2:=Z5) (b3:=Z5) (b4:=Z5) (b5:=Z5) (b6:=Z5) (by decide +kernel) (by decide +kernel) (by decide +kernel) (by decide +kernel) (by decide +kernel) (by decide +kernel) (by decide +kernel) (by decide +kernel)
 .exact R7 (b0:=Z5) (b1:=Z5) (b2:=Z7) (b3:=Z5) (b4:=Z5) (b5:=Z5) (b6:=Z5) (by decide +kernel) (by decide +kernel) (by decide +kernel) (by decide +kernel) (by decide +kernel) (by decide +kernel) (by decide +kernel) (by decide +kernel)
 .exact R7 (b0:=Z5) (b1:=Z5) (b2:=Z5) (b3:=Z7) (b4:=Z5) (b5:=Z5) (b6:=Z5) (by decide +kernel) (by decide +kernel) (by decide +kernel) (by decide +kernel) (by decide +kernel) (by decide +kernel) (by decide +kernel) (by decide +kernel)
 .exact R7 (b0:=Z5) (b1:=Z5) (b2:=Z5) (b3:=Z5) (b4:=Z7) (b5:=Z5) (b6:=Z5) (by decide +kernel) (by decide +kernel) (by decide +kernel) (by decide +kernel) (by decide +kernel) (by decide +kernel) (by decide +kernel) (by decide +kernel)
 .exact R7 (b0:=Z5) (b1:=Z5) (b2:=Z5) (b3:=Z5) (b4:=Z5) (b5:=Z7) (b6:=Z5) (by decide +kernel) (by decide +kernel) (by decide +kernel) (by decide +kernel) (by decide +kernel) (by decide +kernel) (by decide +kernel) (by decide +kernel)
 .exact R7 (b0:=Z5) (b1:=Z5) (b2:=Z5) (b3:=Z5) (b4:=Z5) (b5:=Z5) (b6:=Z7) (by decide +kernel) (by decide +kernel) (by decide +kernel) (by decide +kernel) (by decide +kernel) (by decide +kernel) (by decide +kernel) (by decide +kernel)
inductive Ja(r:R D)(k:Int)(S:ZX):Prop
 |mk (n:Nat) (S1:ZX) (e:r=.ok (.lst n) S1) (l:ZL S1 n=Z9 [.int k]) (x:Ex S S1)
theorem ml{c:Str}{k:Int}{js:List Nat}{cb:C}{B:ZT}{S S1:ZX}(a:(c,k)∈Mz)(h:S[0]?=Z9 (.tb Zw))(e:cb (W2 0 js B) S=.er c S1):Ja (UT Zw 4 V5 js cb B S) k S1:=by
 have d:c∈XO:=by simp only[Mz,qA9,qD3,or_false,Prod.mk.injEq]at a;rcases a with⟨rfl,_⟩| ⟨rfl,_⟩| ⟨rfl,_⟩| ⟨rfl,_⟩| ⟨rfl,_⟩| ⟨rfl,_⟩| ⟨rfl,_⟩<;>decide +kernel
 obtain⟨n,i,f,b,g⟩:=mm a S1;refine⟨n,i,?_,b,g⟩;unfold UT;rw[if_pos (rV h),e];show(if c∈XO then V7 (V5 (Vb 4 (.xc c)) S1)else .bad)=_;rw[if_pos d,f]
abbrev Tu(S:ZX):Prop:=S[0]?=Z9 (.tb Zw)
theorem Tu.ex{S S':ZX}(h:Tu S)(x:Ex S S'):Tu S':=x.at h λz=>z
theorem Tu.kp{S S':ZX}{i:Nat}(h:Tu S)(st:XM S i)(k:Kp (·=i) S S'):Tu S':=k.at h λz=>by obtain⟨s,b,e,_⟩:=st;have q:=U8 e;rw[<- z]at q;rw[show S[0]?=_ from h]at q;cases q
theorem UO.ex{sw kr:Nat}{j S S1:ZX}(h:UO sw j kr S)(x:Ex S S1):UO sw j kr S1:=by obtain⟨e,m,a,b,c,d,f,g⟩:=h;exact⟨e,m,a,b,x.lst c λz=>z,λi id k=>(d i id k).kp x λz=>z,f,g⟩
theorem UO.st{sw kr i:Nat}{n S S1:ZX}(h:UO sw n kr S)(st:XM S i)(k:Kp (·=i) S S1):UO sw n kr S1:=by
 obtain⟨l,m,a,b,c,d,f,g⟩:=h;obtain⟨s,t,e,_⟩:=st;refine⟨l,m,a,b,k.lst c λz=>?_,λj id o=>(d j id o).kp k λz=>?_,f,g⟩
 .subst z;rw[c]at e;cases l with
  |nil=>cases e
  |cons x r=>cases e
 .subst z;obtain⟨p,q,_⟩:=d j id o;rw[q]at e
  match p,e with
  |[],e=>cases e
  |[x],e=>cases e
  |x::y::r,e=>cases e
noncomputable def XG(sw z:Nat):List Bool:=(List.range (2 ^ sw)).map λp=>z.testBit (2 ^ sw - 1 - p)
theorem I7(sw z:Nat):(XG sw z).length=2 ^ sw:=by unfold XG;rw[qA3,qD4]
theorem mj:∀z,z<256->ZA 0 (XG 3 z)=z:=by decide +kernel
theorem mi:∀z,z<16->ZA 0 (XG 2 z)=z:=by decide +kernel
theorem mh:∀z,z<4->ZA 0 (XG 1 z)=z:=by decide +kernel
theorem I0{sw z:Nat}(b:1<=sw)(a:sw<=3)(h:z<NN sw):ZA 0 (XG sw z)=z:=by
 have:sw=1∨sw=2∨sw=3:=by omega
 rcases this with rfl|rfl|rfl
 .exact mh z h
 .exact mi z h
 .exact mj z h
theorem mf(c:ZQ){z p L:Int}{b:Bool}{S:ZX}(h:0<=L - 1 - p)(e:jI (z / 2 ^ (L - 1 - p).toNat) 1=b1 b):PN c [Z9 (.int p),Z9 (.int z),Z9 (.int L)] S=.ok (.int (b1 b)) S:=by
 have a:p<=L - 1:=by omega
 simp[PN,a,e]
theorem me(c:ZQ){z L:Int}{R:yM}{S S1:ZX}(b:-4611686018427387904<=L/\L<4611686018427387904)(a:(Zc 0 L.toNat).length<lim)(e:Zf [] .one (λ_=>ret Z7) (PN c) [Z8,Z9 (.int z),Z9 (.int L)] (Zc 0 L.toNat) S=.ok R S)(d:S++[.lst R]=S1)(t:W7 [.lst S.length] S1=.ok (.tup R) S1):PM c [Z9 (.int z),Z9 (.int L)] S=.rt (.tup R) S1:=by simp[PM,b,a,e,d,t]
theorem md(z k:Nat):jI ((z:Int) / 2 ^ k) 1=b1 (z.testBit k):=by
 have a:(z / 2 ^ k)=((z / 2 ^ k:Nat):Int):=by simp
 rw[a,show 1=((1:Nat):Int)from rfl,MI,qQ3,Nat.testBit,Nat.shiftRight_eq_div_pow,Nat.and_comm,qQ3];have:z / 2 ^ k % 2=0∨z / 2 ^ k % 2=1:=by omega
 rcases this with h|h<;>rw[h]<;>simp[b1]
theorem ma(h:JE cl)(n:Nat){sw:Nat}(c:sw<=3)(z:Nat)(S:ZX):VR (cl (n+1) "function_with" [.int (z:Nat),.int ((2 ^ sw:Nat):Int)] S) (Zp (XG sw z)) S:=by
 have d:2 ^ sw<=2 ^ 3:=qI5 (by decide) c;obtain⟨L,f⟩:∃L,2 ^ sw=L:=⟨_,rfl⟩
 have b:(Zc 0 ((2 ^ sw:Nat):Int).toNat)=(List.range (2 ^ sw)).map λp:Nat=>D.int (0+p):=by unfold Zc;rw[qF2]
 have e:Zf [] .one (λ_=>ret Z7) (PN (cl n)) [Z8,Z9 (.int z),Z9 (.int ((2 ^ sw:Nat):Int))] (Zc 0 ((2 ^ sw:Nat):Int).toNat) S=.ok (Xw (XG sw z)) S:=by
  rw[b,show Xw (XG sw z)=(List.range (2 ^ sw)).map λp=>D.int (b1 (z.testBit (2 ^ sw - 1 - p))) by unfold Xw XG;rw[qC8];rfl];refine VQ (λp:Nat=>D.int (0+p)) (Yg S) _ _ λp a=>⟨_,rfl,?_⟩
  have:=qE0.mp a;refine mf _ (by omega) ?_;rw[show(((2 ^ sw:Nat):Int) - 1 - (0+p)).toNat=2 ^ sw - 1 - p by omega];exact md z _
 refine⟨S++[O.lst (Xw (XG sw z))],?_,Zh _ _⟩;rw[h];exact YC rfl (me _ ⟨by omega,by omega⟩ (by rw[b,qA3,qD4,YB];omega) e rfl (Su (Y7 _ _)))
open Classical in
noncomputable def KL(sw i:Nat):List Nat:=(List.range (NN sw)).filter λz=>decide (Kn sw i z)
open Classical in
theorem WI{sw i z:Nat}:z∈KL sw i↔Kn sw i z:=by unfold KL;rw[qE3,qE0,decide_eq_true_eq];exact⟨λh=>h.2,λh=>⟨let ⟨j,_,hj⟩:=h;V3 sw j hj,h⟩⟩
theorem R6(sw i:Nat):(KL sw i).Pairwise (·<·):=List.Pairwise.filter _ List.pairwise_lt_range
theorem Q0{sw i:Nat}(a:sw<=3):(KL sw i).length<=256:=qC6 (qJ6 ..) (by rw[qD4];exact MG a)
theorem l0:∀{l m:List Nat},l.Pairwise (·<·)->m.Pairwise (·<·)->(∀z,z∈l↔z∈m)->l=m:=λ{l m} d c h =>
 ((qJ7 (d.imp λh=>qB7 h) (c.imp λh=>qB7 h)).mpr h).eq_of_pairwise (λa b _ _ e f=>absurd e (Nat.lt_asymm f)) d c
theorem lR{l:List Nat}(j:l.Nodup){sw i:Nat}(h:∀z,z∈l↔z∈KL sw i):(V8 (l.map λz=>((z:Nat):Int))).map D.int=(KL sw i).map Zs:=by
 obtain⟨k,d,g⟩:=Jb l;have f:=KS (l.map λz=>((z:Nat):Int));rw[g,qN8]at f;have c:=d.nodup_iff.mpr j;have lt:k.Pairwise (·<·):=(f.and c).imp λ{a b} h=>by have:=h.1;omega
 have e:=l0 lt (R6 sw i) λz=>by rw[d.mem_iff,h]
 rw[g,e,qC8];rfl
theorem lD{S:ZX}{n:Nat}{ns:yA}(h:ZL S n=Z9 (ns.map D.int))(b:ns.length<=5000):WC [.lst n] S=.ok (.lst S.length) (S++[.lst ((V8 ns).map D.int)]):=by
 by_cases a:ns.length<64
 .exact EB h a
 .have e:(ZL S n).bind Wb=Z9 ns:=by rw[h,qL7,Np]
  unfold WC;dsimp only;rw[e];dsimp only;rw[if_neg a,if_pos b]
theorem lz{S:ZX}{m:Nat}{kvs:List (ZJ×D)}{xs:List Nat}(h:Zt S m=Z9 kvs)(hk:Y1 kvs xs):TV [.dct m] S=.ok (.lst S.length) (S++[.lst (xs.map Zs)]):=by
 have e:(xs.map λz=>((z:Nat):Int)).map D.int=xs.map Zs:=by rw[qC8];rfl
 unfold Zt at h;unfold TV;dsimp only;split at h
 .cases h;rw[MB hk];dsimp only;rw[e]
 .cases h;rw[MB hk];dsimp only;rw[e]
 .cases h
noncomputable def Xf(sw i:Nat):yM:=(KL sw i).map λz=>Zp (XG sw z)
noncomputable def Tt(b:D)(a c:Nat)(w:Option D):ZT:=[Z9 b,Z9 (.lst a),Z9 (.lst c),w]
inductive IZ(sw:Nat)(S0:ZX)(kt j kk:Nat)(S:ZX):Prop
 |mk (ks:List Nat) (hk:ZL S kk=Z9 (ks.map Zs)) (nd:ks.Nodup) (mem:∀z,z∈ks↔∃i,i<j/\z∈lv sw i) (rs:List Nat) (hl:rs.length=j) (ht:ZL S kt=Z9 (rs.map D.lst)) (hr:∀i r,rs[i]?=Z9 r->ZL S r=Z9 (Xf sw i)/\S0.length<=r) (rnd:rs.Nodup) (x:Ex S0 S)
theorem lx(c:ZQ){h:D}{j f l o e k:Nat}{d:D}{ZZ R:yM}{S n m b g i S6:ZX}(t:TV [d] S=.ok (.lst l) n)(q:YY (.lst j) (.lst l) n=.ok (.lst o) m)(u:WC [.lst o] m=.ok (.lst e) b)(x:Yk "list" (.lst f) b=Z7)(w:ZL b e=Z9 ZZ)(r:ZZ.length<lim)(p:Zf [(e,ZZ)] .one (λ_=>ret Z7) (Na c) [Z8,Z9 h] ZZ b=.ok R g)(s:g.length=k)(v:g++[.lst R]=i)(a:X3 XU (.lst f) [.lst k] i=.ok .non S6):
  Tx c (Tt h j f (Z9 d)) S=.nx (Tt h e f (Z9 d)) S6:=by simp[Tx,Tt,t,q,u,x,w,r,p,s,v,a]
theorem lu(c:ZQ){a b:D}{z L:Int}{S S1:ZX}(d:Zr [a] S=.ok (.int L) S)(e:c "function_with" [.int z,.int L] S=.ok b S1):Na c [Z9 (.int z),Z9 a] S=.ok b S1:=by simp[Na,d,e]
theorem lq(bs:List Bool)(S:ZX):Zr [Zp bs] S=.ok (.int (bs.length:Nat)) S:=by unfold Zp;rw[qo];unfold Xw;rw[qA3]
theorem lp(h:JE cl)(n:Nat){sw:Nat}(s1:1<=sw)(s:sw<=3){bs:List Bool}(G:bs.length=2 ^ sw){X S:ZX}{kt j N id:Nat}(hj:j<=900)(gt:X.length<=kt)(hp:IZ sw X kt j N S)(Q:Ue sw j S id)(w:Option D):
  UQ (gN 3) (Tx (cl (n+1))) (.dct id) (Tt (Zp bs) N kt w) S (fun B g=>∃p,B=Tt (Zp bs) p kt (Z9 (.dct id))/\IZ sw X kt (j+1) p g/\Kp (·=kt) S g):=by
 obtain⟨ks,hk,nd,mem,rs,hl,ht,v,R,x⟩:=hp;obtain⟨kvs,T,d1,d2,Y,d4,d5⟩:=Q;have e1:=lz d1 d2;obtain⟨S1,W⟩:∃S1,S++[O.lst (T.map Zs)]=S1:=⟨_,rfl⟩
 rw[W]at e1;have K:=W▸Zh _ _;have b1':=Vm 256 nd λz u=>by obtain⟨i,_,c⟩:=(mem z).mp u;exact Ud s c
 have b2:=Vm 256 d4 λz u=>Ud s ((Y z).mp u);have H:=Ju (K.lst hk λz=>z) (by rw[<- W];exact Y7 _ _) (by rw[qA3,qA3,YB];omega);rw[<- qE1]at H;obtain⟨S2,C⟩:∃S2,S1++[O.lst ((ks++T).map Zs)]=S2:=⟨_,rfl⟩
 rw[C]at H;have x2:=C▸Zh _ _;have M:=qF3.mpr ⟨nd,d4,λa J b U e=>by
  subst e;obtain⟨i,c,hm⟩:=(mem a).mp J;have:=Q3 sw hm ((Y a).mp U);omega⟩
 have o:∀z,z∈ks++T↔z∈KL sw j:=λz=>by
  rw[qB9,mem,Y,WI];constructor
  .rintro(⟨i,c,h⟩| h)
   .exact⟨i,by omega,h⟩
   .exact⟨j,by omega,h⟩
  .rintro⟨i,c,h⟩;by_cases e:i=j
   .subst e;exact .inr h
   .exact .inl ⟨i,by omega,h⟩
 have e3:WC [.lst S1.length] S2=.ok (.lst S2.length) (S2++[.lst ((KL sw j).map Zs)]):=by rw[lD (by rw[<- C,qC8];exact Y7 _ _) (by rw[qA3,qC1];omega),lR M o]
 obtain⟨S3,Z⟩:∃S3,S2++[O.lst ((KL sw j).map Zs)]=S3:=⟨_,rfl⟩
 rw[Z]at e3;have x3:=Z▸Zh _ _;have k:=(K.trans x2).trans x3;have E:ZL S3 S2.length=Z9 ((KL sw j).map Zs):=by rw[<- Z];exact Y7 _ _
 obtain⟨m,c1,F⟩:=J7 Zs (t:=.one) (B0:=[Z8,Z9 (Zp bs)]) (λg=>Ex S3 g) (λg x=>Xx (x.lst E λz=>z)) (λz=>Zp (XG sw z)) (KL sw j) (Kp.refl _ _) (λz u g x=>by
  obtain⟨S5,e5,A⟩:=ma h n s z g;rw[<- G]at e5;exact⟨_,rfl,S5,lu _ (lq bs g) e5,x.trans A⟩)
 obtain⟨S5,P⟩:∃S5,m++[O.lst (Xf sw j)]=S5:=⟨_,rfl⟩
 have A:=P▸Zh _ _;have d:=(k.trans F).trans A;have t5:=d.lst ht λz=>z;have a:X3 XU (.lst kt) [.lst m.length] S5=.ok .non (S5.set kt (.lst (rs.map D.lst++[.lst m.length]))):=by rw[Um t5,Tz,if_pos (by rw[qA3,YB];omega)]
 have ktl:=US ht;have g3:S.length<=S2.length:=by have:=K.le;have:=x2.le;omega
 have g4:S.length<=m.length:=by have:=k.le;have:=F.le;omega
 have f:=WJ (i:=kt) S5 (.lst (rs.map D.lst++[.lst m.length]));have L:=λi r c=>US (v i r c).1;have V:∀i r,rs[i]?=Z9 r->r≠kt:=λi r c e=>by
  subst e;have:=(v i r c).1;rw[ht]at this;cases rs with
  |nil=>cases c
  |cons q rs =>
   replace this:=Option.some.inj this
   unfold Xf at this;generalize KL sw i=l at this;cases l with
   |nil=>cases this
   |cons y ys =>
    rw[qC7,qC7,qL6.injEq]at this;cases this.1
 refine⟨Tt (Zp bs) N kt (Z9 (.dct id)),S,by simp[Tt],_,_,.inl (lx _ e1 H e3 (Uo (k.lst ht λz=>z)) E (by rw[qA3,YB];have:=Q0 (i:=j) s;omega) c1 rfl P a),S2.length,rfl,⟨KL sw j,?_,(R6 sw j).imp λh=>qB7 h,λz=>?_,rs++[m.length],by simp[hl],?_,λi r c=>?_,?_,⟨?_,λi c _=>?_⟩⟩,d.kp.trans f⟩
 .exact f.lst ((F.trans A).lst E λz=>z) (by omega)
 .rw[WI];exact⟨λ⟨i,a,b⟩=>⟨i,by omega,b⟩,λ⟨i,a,b⟩=>⟨i,by omega,b⟩⟩
 .rw[UR t5,qE1];rfl
 .by_cases I:i<rs.length
  .rw[qA8 I]at c;exact⟨f.lst (d.lst (v i r c).1 λz=>z) (V i r c),(v i r c).2⟩
  .rw[qA0 (by omega)]at c;have:=by have:=(qA1.mp c).1;simp at this;omega
   rw[this]at c;simp at c;subst c;have:i=j:=by omega
   subst this;refine⟨f.lst (by rw[<- P];exact Y7 _ _) (by omega),by omega⟩
 .refine qF3.mpr ⟨R,by simp,λa J b U e=>?_⟩;simp at U;obtain⟨i,c⟩:=qE2 J;have:=L i _ c;omega
 .rw[qG5];have:=d.le;omega
 .rw[qD5 (by omega),d.eq i (by omega) (λz=>z),x.eq i c (λz=>z)]
structure IY(cl:Nat->ZQ):Prop extends HLv cl where
 fw:JE cl
 pa:pT cl
noncomputable abbrev Ts(c:ZQ):C:=V4 (Xz (c "levels_to") (ZP [(ZY 0)])) SQ (SN (Xj Xs (ZW (.int 1))))
theorem lj(c:ZQ){b:D}{k:Nat}{Y:yM}{B:ZT}{S a:ZX}(d:c "levels_to" [b] S=.ok (.lst k) a)(e:Vo (.lst k) Z8 (Z9 (-1)) a=.ok (.lst a.length) (a++[.lst Y])):Ts c (Z9 b::B) S=.ok (.lst a.length) (a++[.lst Y]):=by unfold Ts V4 Xz;simp[d,e]
theorem lh(c:ZQ){a:D}{x:Str}{B:ZT}{S S1:ZX}(b:c "levels_to" [a] S=.er x S1):Ts c (Z9 a::B) S=.er x S1:=by unfold Ts V4 Xz;simp[b]
theorem kZ(c:ZQ){b:D}{f a h d:Nat}{X Y:yM}{w:Option D}{S j i g S5:ZX}(o:S.length=f)(m:S++[.lst []]=j)(hk:j.length=a)(n:j++[.lst []]=i)(e:Ts c [Z9 b,Z9 (.lst f),Z9 (.lst a),Z8] i=.ok (.lst h) g)(k:ZL g h=Z9 X)
  (p:Y4 [(h,X)] (gN 3) (Tx c) X [Z9 b,Z9 (.lst f),Z9 (.lst a),Z8] g=.nx [Z9 b,Z9 (.lst d),Z9 (.lst a),w] S5) (t:W7 [.lst a] S5=.ok (.tup Y) S5):Sj c [Z9 b,Z8,Z8,Z8] S=.rt (.tup Y) S5:=by
 have l:Up (Ts c) (gN 3) (Tx c) [Z9 b,Z9 (.lst f),Z9 (.lst a),Z8] i=.nx [Z9 b,Z9 (.lst d),Z9 (.lst a),w] S5:=by unfold Up;rw[e];dsimp only;rw[k];exact p
 simp[Sj,o,m,hk,n,l,t]
theorem kY(c:ZQ){a:D}{x:Str}{g b:Nat}{S f d S3:ZX}(i:S.length=g)(j:S++[.lst []]=f)(hk:f.length=b)(k:f++[.lst []]=d)(e:Ts c [Z9 a,Z9 (.lst g),Z9 (.lst b),Z8] d=.er x S3):Sj c [Z9 a,Z8,Z8,Z8] S=.er x S3:=by
 have h:Up (Ts c) (gN 3) (Tx c) [Z9 a,Z9 (.lst g),Z9 (.lst b),Z8] d=.er x S3:=by unfold Up;rw[e]
 simp[Sj,i,j,hk,k,h]
theorem kW{α:Type}(l:yM)(h:1<=l.length):Yb l Z8 (Z9 (-1))=l.take (l.length - 1):=by unfold Yb HT.sIx;simp;omega
inductive U6(sw ix:Nat)(S0:ZX)(rs:List Nat)(S:ZX):Prop
 |mk (hl:rs.length=ix) (hr:∀i r,rs[i]?=Z9 r->ZL S r=Z9 (Xf sw i)/\S0.length<=r) (rnd:rs.Nodup) (x:Ex S0 S)
theorem kU(H:IY cl)(n:Nat){sw ix:Nat}(F:1<=sw)(M:sw<=3){bs:List Bool}(K:bs.length=2 ^ sw)(X:ZA 0 bs∈lv sw ix)(hi:ix<=800)(S:ZX):∃rs S1,cl (n+8) "paper_of" [Zp bs] S=.ok (.tup (rs.map D.lst)) S1/\U6 sw ix S rs S1:=by
 obtain⟨kk,t⟩:∃kk,S.length=kk:=⟨_,rfl⟩
 obtain⟨S1,m⟩:∃S1,S++[O.lst []]=S1:=⟨_,rfl⟩
 obtain⟨kt,hk⟩:∃kt,S1.length=kt:=⟨_,rfl⟩
 obtain⟨S2,l⟩:∃S2,S1++[O.lst []]=S2:=⟨_,rfl⟩
 have x1:=m▸Zh _ _;have I:=l▸Zh _ _;have l1:S1.length=kk+1:=by rw[<- m,<- t];simp
 have l2:S2.length=kt+1:=by rw[<- l,<- hk];simp
 obtain⟨k,E,e3,c,Y,ik,lvs,ig,kg,A⟩:=nJ H.toHLv n F M K X hi S2;have G:=EL ik Z8 (Z9 (-1));rw[kW (α:=Nat) _ (by rw[qA3];omega),qA3,<- List.map_take,Y,qN2]at G;obtain⟨S4,q⟩:∃S4,E++[O.lst ((c.take ix).map D.dct)]=S4:=⟨_,rfl⟩
 have y:=q▸Zh _ _;have L:=lj (cl (n+7)) (B:=[Z9 (.lst kk),Z9 (.lst kt),Z8]) e3 G;rw[q]at L;have C:ZL S4 E.length=Z9 ((c.take ix).map D.dct):=by rw[<- q];exact Y7 _ _
 have e:=A.trans y;have k0:ZL S4 kk=Z9 (([]).map Zs):=e.lst (I.lst (by rw[<- m,<- t];exact Y7 _ _) λz=>z) λz=>z;have t0:ZL S4 kt=Z9 (([]).map D.lst):=e.lst (by rw[<- l,<- hk];exact Y7 _ _) λz=>z;have g3:=by have:=A.le;omega
 have s:((c.take ix).map D.dct).length=ix:=by rw[qA3,qH9];omega
 obtain⟨B5,N,e6,⟨a,w,rfl,⟨ks,_,_,_,rs,J,U,rr,v,xx⟩⟩,kp⟩:=Wq (b:=Tx (cl (n+7))) (P:=λj B o=>(∃a w,B=Tt (Zp bs) a kt w/\IZ sw S kt j a o)/\Kp (·=kt) S4 o) (λj B o p=>Xx (p.2.lst C (by omega))) ⟨⟨kk,Z8,rfl,[],k0,.nil,λz=>by simp,[],rfl,t0,λi r h=>by simp at h,.nil,(x1.trans I).trans e⟩,Kp.refl _ _⟩ (λj d B o g W=>by
  obtain⟨⟨a,w,rfl,p⟩,kp⟩:=W;rw[qB2]at g;cases f:(c.take ix)[j]? with
  |none=>rw[f]at g;cases g
  |some id =>
   rw[f]at g;cases g;have u:j<ix:=by have:=(qA1.mp f).1;rw[qH9]at this;omega
   rw[qN9 u]at f;have gi:=ig id (qB6 f);obtain⟨Z,S6,V,T,Q,a2,x,a3,R,a5⟩:=lp H.fw (n+6) F M K (by omega) (by omega) p (((lvs j id f).kp y λz=>z).kp kp (by omega)) w;exact⟨Z,S6,V,T,Q,a2,⟨x,_,a3,R⟩,kp.trans a5⟩)
 rw[s]at J;refine⟨rs,N,?_,J,rr,v,xx⟩;rw[H.pa];exact YC rfl (kZ _ t m hk l L C e6 (Su U))
theorem kT(H:IY cl)(n:Nat){bs:List Bool}(a:bs.length=2 ^ 4)(S:ZX):∃S1,cl (n+3) "paper_of" [Zp bs] S=.er "TooMany" S1/\Ex S S1:=by refine⟨S++[.lst []]++[.lst []],?_,(Zh _ _).trans (Zh _ _)⟩;rw[H.pa];exact EG rfl (kY _ rfl rfl rfl rfl (lh _ (nI H.toHLv n a _)))
theorem IX(c:ZQ){a d:D}{z:Int}{S:ZX}:PB c [Z9 a,Z9 (.int z),Z9 d] S=.nx [Z9 a,Z9 (.int (z*2)),Z9 d] S:=by
 have:Wc z 2=Z7:=by simp[Wc]
 simp[PB,this]
theorem kS(c:ZQ){s z:Int}{k:Nat}{X:yM}{w:Option D}{S S1:ZX}(b:c "settings" [.int s] S=.ok (.lst k) S1)(a:ZL S1 k=Z9 X)(d:Y4 [(k,X)] (gN 2) (PB c) X [Z9 (.int s),Z9 (.int 1),Z8] S1=.nx [Z9 (.int s),Z9 (.int z),w] S1):Pz c [Z9 (.int s),Z8,Z8] S=.rt (.int z) S1:=by simp[Pz,b,a,d]
theorem kR(h:Es cl)(l:PY cl)(n:Nat){sw:Nat}(r:1<=sw)(t:sw<=3)(S:ZX):VR (cl (n+2) "how_many_functions" [.int (sw:Nat)] S) (.int (NN sw:Nat)) S:=by
 obtain⟨k,p,m,o,_,e⟩:=Ee l n (sw:=sw) (by omega) (by omega) S;obtain⟨q,a,c,⟨w,rfl⟩,rfl⟩:=Wq (items:=(ZE sw).map Zb) (w:=[(k,(ZE sw).map Zb)]) (g:=gN 2) (b:=PB (cl (n+1))) (P:=λj B a=>(∃w,B=[Z9 (.int sw),Z9 (.int ((2 ^ j:Nat):Int)),w])/\a=p) (λj B a i=>Xx (i.2▸e)) ⟨⟨_,rfl⟩,rfl⟩ (λj d B a s f=>by
  obtain⟨⟨w,rfl⟩,rfl⟩:=f;refine⟨_,a,rfl,_,a,.inl (IX _),⟨Z9 d,?_⟩,rfl⟩;rw[show((2 ^ (j+1):Nat):Int)=((2 ^ j:Nat):Int)*2 by rw[qO3];simp])
 rw[qA3,Uk]at c;refine⟨a,?_,o⟩;rw[h];exact YC rfl (kS _ m e c)
open Classical in
noncomputable def ln(sw i:Nat):Nat:=((List.range (NN sw)).filter λz=>decide (z∈lv sw i)).length
open Classical in
theorem IW{sw i:Nat}{xs:List Nat}(a:xs.Nodup)(h:∀z,z∈xs↔z∈lv sw i):xs.length=ln sw i:=by refine List.Perm.length_eq ((qJ7 a (qJ9.filter _)).mpr λz=>?_);rw[qE3,qE0,decide_eq_true_eq,h];exact⟨λq=>⟨V3 sw i q,q⟩,λq=>q.2⟩
open Classical in
theorem Dn(sw:Nat):∀j,((List.range (j+1)).map (ln sw)).sum=(KL sw j).length
 |0=>by show ln sw 0+0=_;refine(IW ((R6 sw 0).imp λh=>qB7 h) λz=>?_).symm;rw[WI];exact⟨λ⟨i,c,h⟩=>(show i=0 by omega)▸h,λh=>⟨0,qA7 _,h⟩⟩
 |j+1=>by
  rw[qM7,qE1,qS2,Dn sw j];have k:(KL sw j++(List.range (NN sw)).filter λz=>decide (z∈lv sw (j+1))).Nodup:=qF3.mpr ⟨(R6 sw j).imp λh=>qB7 h,qJ9.filter _,λa g b d e=>by
   subst e;obtain⟨i,c,h⟩:=WI.mp g;rw[qE3,decide_eq_true_eq]at d;have:=Q3 sw h d.2;omega⟩
  have f:=(qJ7 k ((R6 sw (j+1)).imp λh=>qB7 h)).mpr λz=>by
   rw[qB9,WI,WI,qE3,qE0,decide_eq_true_eq];constructor
   .rintro(⟨i,c,h⟩| ⟨_,h⟩)
    .exact⟨i,by omega,h⟩
    .exact⟨j+1,by omega,h⟩
   .rintro⟨i,c,h⟩;by_cases e:i=j+1
    .subst e;exact .inr ⟨V3 sw _ h,h⟩
    .exact .inl ⟨i,by omega,h⟩
  rw[<- f.length_eq,qC1];simp[ln]
theorem Dm{sw j:Nat}:NN sw<=(KL sw j).length↔Ww sw (j+1):=by
 constructor
 .intro h x a;obtain⟨i,b,q⟩:=WI.mp (Dt ((R6 sw j).imp λh=>qB7 h) (λz c=>by obtain⟨i,_,q⟩:=WI.mp c;exact V3 sw i q) (by omega) a);exact⟨i,by omega,q⟩
 .intro h;have:=MA (m:=KL sw j) qJ9 λx a=>by obtain⟨i,b,q⟩:=h x (qE0.mp a);exact WI.mpr ⟨i,by omega,q⟩
  rwa[qD4]at this
theorem kQ{S:ZX}{m:Nat}{kvs:List (ZJ×D)}(h:Zt S m=Z9 kvs):Zr [.dct m] S=.ok (.int (kvs.length:Nat)) S:=by
 unfold Zt at h;unfold Zr;dsimp only;split at h
 .cases h;first|rfl|rw[e]
 .cases h;first|rfl|rw[e]
 .cases h
noncomputable def Vr(sw:Nat)(n:Nat):yM:=(List.range n).map λi=>D.int (ln sw i:Nat)
theorem Dl{sw k:Nat}{a:List Nat}{S:ZX}{c:C}{B0:ZT}(g:∀id len S,Zr [.dct id] S=.ok (.int len) S->c ((B0.set 0 (Z9 (.dct id)))) S=.ok (.int len) S)(hk:ZL S k=Z9 (a.map D.dct))(lvs:Q1 sw S a):Zf [(k,a.map D.dct)] .one (λ_=>ret Z7) c B0 (a.map D.dct) S=.ok (Vr sw a.length) S:=by
 have f:a.map D.dct=(List.range a.length).map λi=>D.dct (a.getD i 0):=by
  refine qL1 λi=>?_;by_cases h:i<a.length
  .rw[qB2,qB2,qG4 h];simp[qF4,h]
  .simp_all
 have w:=Xx hk;rw[f]at w ⊢;refine VQ (λi:Nat=>D.dct (a.getD i 0)) w _ _ λi d=>⟨_,rfl,?_⟩
 have b:=qE0.mp d;obtain⟨n,o,j,l,m,e,_⟩:=lvs i (a.getD i 0) (by simp[qF4,b]);refine g _ _ _ ?_;rw[kQ j,Ug l,IW e m]
theorem kP{sw i:Nat}(a:sw<=3):ln sw i<=256:=qC6 (qJ6 ..) (by rw[qD4];exact MG a)
theorem kO(sw n:Nat):(Vr sw n).length=n:=by unfold Vr;rw[qA3,qD4]
noncomputable abbrev IV(c:ZQ):CT:=Y5 (ZU VW (ZS WV (ZP [(Yv (Zy (ZY 1)) 1 [] .one (λ_=>ret Z7) (Py c))])) (ZS (c "how_many_functions") (ZP [(ZY 0)])))
theorem kN(c:ZQ){e:D}{k:Nat}{X R:yM}{a b:Int}{S d S2:ZX}(l:ZL S k=Z9 X)(i:X.length<lim)(g:Zf [(k,X)] .one (λ_=>ret Z7) (Py c) [Z8] X S=.ok R S)(j:S++[.lst R]=d)(h:WV [.lst S.length] d=.ok (.int a) d)(f:c "how_many_functions" [e] d=.ok (.int b) S2):IV c [Z9 e,Z9 (.lst k)] S=.ok (decide (a<b)) S2:=by simp_all
theorem kM(c:ZQ){b:D}{k L:Nat}{X:yM}{S a:ZX}(f:Yk "list" (.lst k) S=Z7)(d:c "further_level" [.lst k] S=.ok (.dct L) a)(e:X3 XU (.lst k) [.dct L] a=.ok .non (a.set k (.lst X))):Px c [Z9 b,Z9 (.lst k)] S=.nx [Z9 b,Z9 (.lst k)] (a.set k (.lst X)):=by simp[Px,f,d,e]
theorem kK(c:ZQ){b:D}{L k:Nat}{X R:yM}{S d e a S4:ZX}(h:c "first_level" [b] S=.ok (.dct L) d)(hk:d.length=k)(m:d++[.lst [.dct L]]=e)(g:Ws Vw (IV c) (Px c) [Z9 b,Z9 (.lst k)] e=.nx [Z9 b,Z9 (.lst k)] a)(l:ZL a k=Z9 X)(j:X.length<lim)(f:Zf [(k,X)] .one (λ_=>ret Z7) (M9 c) [Z8] X a=.ok R a)(i:a++[.lst R]=S4):Pw c [Z9 b,Z8] S=.rt (.lst a.length) S4:=by simp[Pw,h,hk,m,g,l,j,f,i]
theorem kJ(w:PC cl)(hm:Sl cl)(n:Nat){sw k j:Nat}{o S:ZX}(y:sw<=3)(A:j<=900)(h:V0 sw o k j S):∃L a X,Yk "list" (.lst k) S=Z7/\cl (n+2) "further_level" [.lst k] S=.ok (.dct L) a/\X3 XU (.lst k) [.dct L] a=.ok .non (a.set k (.lst X))/\V0 sw o k (j+1) (a.set k (.lst X)):=by
 obtain⟨ids,l,hk,lvs,d,u,x⟩:=h;obtain⟨L,a,v,C,kp,g,_⟩:=DG w hm n y (by omega) (by omega) l hk lvs;have c:k∉ids:=λq=>by obtain⟨i,d⟩:=qE2 q;obtain⟨E,B,p,_⟩:=lvs i k d;rw[Zt,U8 hk]at p;cases p
 have r:=kp.lst hk c;have t:=US hk;have s:X3 XU (.lst k) [.dct L] a=.ok .non (a.set k (.lst (ids.map D.dct++[.dct L]))):=by rw[Um r,Tz,if_pos (by rw[qA3,l,YB];omega)]
 refine⟨L,a,_,Uo hk,v,s,ids++[L],by simp[l],?_,λi id b=>(g i id b).kp (WJ a _) (λe=>?_),λi f=>?_,u,⟨?_,λi m _=>?_⟩⟩
 .rw[UR r,qE1];rfl
 .subst e;rcases qB9.mp (qB6 b)with q|q
  .exact c q
  .simp at q;omega
 .rcases qB9.mp f with q|q
  .exact d i q
  .simp at q;omega
 .rw[qG5];have:=kp.le;omega
 .rw[qD5 (by omega),kp.eq i (by omega) (λq=>by have:=d i q;omega),x.eq i m (λz=>z)]
theorem V0.ex{sw k j:Nat}{b S S1:ZX}(h:V0 sw b k j S)(x:Ex S S1):V0 sw b k j S1:=by obtain⟨a,f,hk,lvs,c,d,e⟩:=h;exact⟨a,f,x.lst hk λz=>z,λi id q=>(lvs i id q).kp x λz=>z,c,d,e.trans x⟩
structure Dk(cl:Nat->ZQ):Prop where
 lv:HLv cl
 hm:Es cl
 fm:pS cl
theorem kI(H:Dk cl)(n:Nat){sw m:Nat}(G:1<=sw)(v:sw<=3)(m1:1<=m)(m9:m<=900)(o:Ww sw m)(R:∀j,1<=j->j<m->¬Ww sw j)(S:ZX):∃r f,cl (n+7) "fewest_many" [.int (sw:Nat)] S=.ok (.lst r) f/\S.length<=r/\Ex S f/\ZL f r=Z9 (Vr sw m):=by
 obtain⟨L,f,T,hL,M,N⟩:=DA H.lv.fl H.lv.tf H.lv.no n G v S;obtain⟨k,hk⟩:∃k,f.length=k:=⟨_,rfl⟩
 obtain⟨S2,u⟩:∃S2,f++[O.lst [.dct L]]=S2:=⟨_,rfl⟩
 have I:=u▸Zh f _;have k2:ZL S2 k=Z9 ([L].map D.dct):=by rw[<- u,<- hk];exact Y7 _ _
 have st:V0 sw S k 0 S2:=by
  refine⟨[L],rfl,k2,λi id h=>?_,λi h=>?_,by have:=M.le;omega,M.trans I⟩
  .have:=by have:=(qA1.mp h).1;simp at this;omega
   subst this;simp at h;subst h;exact N.kp I λz=>z
  .simp at h;omega
 obtain⟨B',F,U,rfl,q⟩:=PZ (t:=IV (cl (n+6))) (b:=Px (cl (n+6))) (P:=λp B d=>B=[Z9 (.int sw),Z9 (.lst k)]/\∃j,V0 sw S k j d/\j+1<=m/\p=m - 1 - j) (Q:=fun B d=>B=[Z9 (.int sw),Z9 (.lst k)]/\V0 sw S k (m - 1) d) (λp B d h=>by
  obtain⟨rfl,j,w,u,rfl⟩:=h;have y:=w;obtain⟨x,g,s,lvs,_⟩:=y;have A:=Dl (c:=Py (cl (n+6))) (B0:=[Z8]) (λid len S e=>by simp[Py,e]) s lvs;rw[g]at A;have eD:Vr sw (j+1)=((List.range (j+1)).map λi=>((ln sw i):Int)).map D.int:=by rw[qC8];rfl
  have e5:WV [.lst d.length] (d++[O.lst (Vr sw (j+1))])=.ok (.int ((KL sw j).length:Nat)) (d++[O.lst (Vr sw (j+1))]):=by
   rw[pZ (by rw[<- eD];exact Y7 _ _) (λi W=>by
    obtain⟨q,_,rfl⟩:=qD9.mp W;have:=kP (i:=q) v;omega) (by rw[qA3,qD4];omega),<- Dn sw j]
   congr 2;generalize List.range (j+1)=l
   induction l with
   |nil=>rfl
   |cons a l Z=>simp[Z]
  obtain⟨C,V,Y⟩:=kR H.hm H.lv.tf.f.se (n+4) G v (d++[O.lst (Vr sw (j+1))]);have t:=kN (cl (n+6)) s (by rw[qA3,g,YB];omega) A rfl e5 V;have J:=(Zh d [O.lst (Vr sw (j+1))]).trans Y;by_cases e:j+1=m
  .refine .inl ⟨C,?_,rfl,?_⟩
   .rw[t,decide_eq_false];have:=Dm.mpr (e▸o);omega
   .rw[show m - 1=j by omega];exact w.ex J
  .obtain⟨L',S6,X,b1,b2,b3,b4⟩:=kJ H.lv.fu H.lv.am (n+4) v (by omega) (w.ex J);refine .inr ⟨C,?_,_,_,.inl (kM _ b1 b2 b3),m - 1 - (j+1),by omega,rfl,j+1,b4,by omega,rfl⟩;rw[t,decide_eq_true];have:¬NN sw<=(KL sw j).length:=λh=>R (j+1) (by omega) (by omega) (Dm.mp h);omega) Vw (m - 1) [Z9 (.int sw),Z9 (.lst k)] S2 (by show m - 1<100000;omega) ⟨rfl,0,st,by omega,by omega⟩
 obtain⟨x,g,s,lvs,_,kn,E⟩:=q;have K:=Dl (c:=M9 (cl (n+6))) (B0:=[Z8]) (λid len S e=>by simp[M9,e]) s lvs;rw[g,show m - 1+1=m by omega]at K;refine⟨F.length,F++[O.lst (Vr sw m)],?_,E.le,E.trans (Zh _ _),Y7 _ _⟩;rw[H.fm];exact YC rfl (kK _ T hk u U s (by rw[qA3,g,YB];omega) K rfl)
theorem OM{α:Type}{S:ZX}{n:Nat}{l:List α}(h:ZL S n=Z9 (l.map λ_=>D.bl Z7)):WL (λbs=>bs.all id) [.lst n] S=.ok (.bl Z7) S:=by
 have e:∀l:List α,TX (l.map λ_=>D.bl Z7)=Z9 (l.map λ_=>Z7):=by
  intro l
  induction l with
  |nil=>rfl
  |cons a l b =>
   show(TX _).map _=_;rw[b];rfl
 unfold WL;dsimp only;rw[h];show(match TX (l.map λ_=>D.bl Z7)with|some bs=>R.ok (D.bl (bs.all id)) S|none=>.bad)=_;rw[e];simp
theorem kH(c:ZQ)(b:Bool)(S:ZX):MZ c [Z9 (.int (b1 b))] S=.ok (.bl Z7) S:=by cases b<;>(simp[b1];rfl)
theorem kG(c:ZQ){s:Int}{X R:yM}{S S1:ZX}(a:0<=s/\s<=4)(b:(X.length:Int)=2 ^ s.toNat)(d:X.length<lim)(e:Zf [] .one (λ_=>ret Z7) (MZ c) [Z8] X S=.ok R S)(g:S++[.lst R]=S1)(t:WL (λbs=>bs.all id) [.lst S.length] S1=.ok (.bl Z7) S1):Pf c [Z9 (.int s),Z9 (.tup X)] S=.rt (.bl Z7) S1:=by
 have f:s<=1000000:=by omega
 simp[Pf,a.1,f,b,d,e,g,t]
theorem kF(h:Jw cl)(n:Nat){sw:Nat}(d:sw<=3){bs:List Bool}(c:bs.length=2 ^ sw)(S:ZX):VR (cl (n+1) "_law_is_function" [.int (sw:Nat),Zp bs] S) (.bl Z7) S:=by
 have e:Zf [] .one (λ_=>ret Z7) (MZ (cl n)) [Z8] (Xw bs) S=.ok (bs.map λ_=>D.bl Z7) S :=
  VQ (λb:Bool=>D.int (b1 b)) (Yg S) _ _ λb _=>⟨_,rfl,kH _ b S⟩
 have a:(Xw bs).length=2 ^ sw:=by unfold Xw;rw[qA3,c]
 have:2 ^ sw<=2 ^ 3:=qI5 (by decide) d;refine⟨S++[O.lst (bs.map λ_=>D.bl Z7)],?_,Zh _ _⟩;rw[h];exact YC rfl (kG _ ⟨by omega,by omega⟩ (by rw[a,qF2];simp) (by rw[a,YB];omega) e rfl (OM (Y7 _ _)))
theorem IU:∀(bs cs:List Bool) (a:Nat),bs.length=cs.length->ZA a bs<ZA a cs->HT.lexLt (bs.map b1) (cs.map b1)=Z7
 |[],[],a,_,h=>absurd h (qG9 _)
 |[],c::cs,a,h,_=>by simp at h
 |b::bs,[],_,h,_=>by simp at h
 |x::bs,y::cs,a,hl,h=>by
  have d:=by simpa using hl
  rw[qC7,qC7,HT.lexLt_cons];cases x<;>cases y
  .exact IU bs cs _ d h
  .simp[b1]
  .exfalso;have g:∀l m,m*2 ^ l.length<=ZA m l:=λl=>by
    induction l with
    |nil=>intro m;simp[ZA]
    |cons z l e =>
     intro m;refine qC6 ?_ (e (2*m+z.toNat));rw[qC3,qO3,Nat.mul_comm (2 ^ l.length) 2,<- Nat.mul_assoc];exact qP5 _ (by omega)
   have j:=d▸g bs (2*a+1);have f:=OV cs (2*a);have i:ZA (2*a+1) bs<ZA (2*a) cs:=h;omega
  .exact IU bs cs _ d h
theorem Dj(bs:List Bool):Wb (Xw bs)=Z9 (bs.map b1):=by
 have:Xw bs=(bs.map b1).map D.int:=by rw[qC8];rfl
 rw[this,Np]
theorem kE(c:ZQ){sw a b:Nat}(f:1<=sw)(d:sw<=3)(i:a<NN sw)(g:b<NN sw)(h:a<b)(S:ZX):Pe c [Z9 (Zp (XG sw a)),Z9 (Zp (XG sw b))] S=.ok (.bl Z7) S:=by
 have e:VW (Zp (XG sw a)) (Zp (XG sw b)) S=.ok (.bl Z7) S:=by unfold Zp VW;dsimp only;rw[Dj,Dj];dsimp only;rw[IU _ _ 0 (by rw[I7,I7]) (by rw[I0 f d i,I0 f d g];exact h)]
 simp[Pe,e]
theorem kC(c:ZQ){s:Int}{r:Nat}{X Y R P ZZ:yM}{S d e a b S6:ZX}(l:ZL S r=Z9 X)(i:Yl [.lst r,.ty "list"] S=.ok (.bl Z7) S)(o:S++[.lst []]=d)(q:WD (.lst r) (.lst S.length) d=.ok (.bl Z5) d)(p:ZL d r=Z9 X)(j:X.length<lim)(h:Zf [(r,X)] .one (λ_=>ret Z7) (MY c) [Z8,Z9 (.int s)] X d=.ok R e)(v:e++[.lst R]=a)(t:WL (λbs=>bs.all id) [.lst e.length] a=.ok (.bl Z7) a)
  (f:Vo (.lst r) (Z9 1) Z8 a=.ok (.lst a.length) b) (g:ZL b r=Z9 X) (u:ZL b a.length=Z9 Y) (n:zipD X Y=ZZ) (k:ZZ.length<lim) (x:Zf [(r,X),(a.length,Y)] (.many 2) (λ_=>ret Z7) (Pe c) [Z8,Z8] ZZ b=.ok P b) (m:b++[.lst P]=S6) (w:WL (λbs=>bs.all id) [.lst b.length] S6=.ok (.bl Z7) S6):Pd c [Z9 (.int s),Z9 (.lst r)] S=.rt (.bl Z7) S6:=by simp[Pd,i,o,q,p,j,h,v,t,f,g,u,n,k,x,m,w]
theorem kB(h:Em cl)(X:Jw cl)(n:Nat){sw i r:Nat}(N:1<=sw)(f:sw<=3){S:ZX}(l:ZL S r=Z9 (Xf sw i)):VR (cl (n+2) "_law_is_list" [.int (sw:Nat),.lst r] S) (.bl Z7) S:=by
 have len:(Xf sw i).length<=256:=by unfold Xf;rw[qA3];exact Q0 f
 have V:(Xf sw i).all (plain 39)=Z7:=qD2.mpr λd W=>by obtain⟨z,_,rfl⟩:=qD9.mp W;exact qa λx P=>by obtain⟨b,_,rfl⟩:=qD9.mp P;rfl
 have ne:Xf sw i≠[]:=λe=>by have:X8 sw 0 0∈KL sw i:=WI.mpr ⟨0,qF8 _,(OS sw _).mpr (by exact qJ2.mpr ⟨0,qE0.mpr (by omega),by simp⟩)⟩;unfold Xf at e;rw[List.map_eq_nil_iff]at e;rw[e]at this;cases this
 obtain⟨S1,o⟩:∃S1,S++[O.lst []]=S1:=⟨_,rfl⟩
 have G:=o▸Zh _ _;have a:=G.lst l λz=>z;have q:=qb a (by rw[<- o];exact Y7 _ _) V rfl;rw[qc ne]at q;obtain⟨U,M,E⟩:=J7 (λz=>Zp (XG sw z)) (t:=.one) (c:=MY (cl (n+1))) (B0:=[Z8,Z9 (.int sw)]) (λg=>Ex S1 g) (λg x=>Xx (x.lst a λz=>z)) (λ_=>D.bl Z7) (KL sw i) (Kp.refl _ _) (λz C g x=>by
  obtain⟨K,u,Q⟩:=kF X n f (I7 sw z) g;exact⟨_,rfl,K,by simp[MY,u],x.trans Q⟩)
 obtain⟨S3,s⟩:∃S3,U++[O.lst ((KL sw i).map λ_=>D.bl Z7)]=S3:=⟨_,rfl⟩
 have y:=s▸Zh _ _;have H:=(E.trans y).lst a λz=>z;obtain⟨S4,m⟩:∃S4,S3++[O.lst ((Xf sw i).drop 1)]=S4:=⟨_,rfl⟩
 have v:=m▸Zh _ _;have L:Vo (.lst r) (Z9 1) Z8 S3=.ok (.lst S3.length) S4:=by rw[EL H,EA _ (by decide),<- m];rfl
 have A:=v.lst H λz=>z;have I:ZL S4 S3.length=Z9 ((Xf sw i).drop 1):=by rw[<- m];exact Y7 _ _
 have R:zipD (Xf sw i) ((Xf sw i).drop 1)=((KL sw i).zip ((KL sw i).drop 1)).map λp=>D.tup [Zp (XG sw p.1),Zp (XG sw p.2)]:=by unfold zipD Xf;rw[<- List.map_drop,List.zip_map,qC8];rfl
 have Y:((KL sw i).zip ((KL sw i).drop 1)).length<=256:=by rw[qM4];have:=Q0 (i:=i) f;omega
 have u:Zf [(r,Xf sw i),(S3.length,(Xf sw i).drop 1)] (.many 2) (λ_=>ret Z7) (Pe (cl (n+1))) [Z8,Z8] (((KL sw i).zip ((KL sw i).drop 1)).map λp=>D.tup [Zp (XG sw p.1),Zp (XG sw p.2)]) S4=.ok (((KL sw i).zip ((KL sw i).drop 1)).map λ_=>D.bl Z7) S4:=by
  refine VQ (λp:Nat×Nat=>D.tup [Zp (XG sw p.1),Zp (XG sw p.2)]) (qj A I) _ _ λp T=>⟨_,rfl,?_⟩
  obtain⟨k,hk⟩:=qE2 T;rw[qK0,List.getElem?_drop]at hk;obtain⟨B,F⟩:=qA1.mp hk.1;obtain⟨J,w⟩:=qA1.mp hk.2;have lt:=qN3.mp (R6 sw i) k (1+k) B J (by omega);have b:∀z∈KL sw i,z<NN sw:=λz C=>by obtain⟨j,_,h⟩:=WI.mp C;exact V3 sw j h
  exact kE _ N f (b _ (F▸qD7 B)) (b _ (w▸qD7 J)) (by rw[F,w]at lt;exact lt) S4
 refine⟨S4++[O.lst (((KL sw i).zip ((KL sw i).drop 1)).map λ_=>D.bl Z7)],?_,((((G.trans E).trans y).trans v).trans (Zh _ _))⟩;rw[h];exact YC rfl (kC _ l (EC l) o q a (by rw[YB];omega) M s (OM (by rw[<- s];exact Y7 _ _)) L A I R (by rw[qA3,YB];omega) u rfl (OM (Y7 _ _)))
noncomputable def VN(id a b:Nat)(d c:Option D):ZT:=[Z9 (.dct id),Z9 (.lst a),Z9 (.lst b),d,c]
theorem kA(c:ZQ){id a b x z:Nat}{S:ZX}(d:YG Z7 (.int ((x &&& z:Nat):Int)) (.dct id) S=.ok (.bl Z5) S)(e:YG Z7 (.int ((x ||| z:Nat):Int)) (.dct id) S=.ok (.bl Z5) S):Pc c (VN id a b (Z9 (Zs x)) (Z9 (Zs z))) S=.nx (VN id a b (Z9 (Zs x)) (Z9 (Zs z))) S:=by simp[Pc,VN,Zs,MI,Jh,d,e]
theorem kz(c:ZQ){id a b:Nat}{x:D}{ZZ:yM}{d:Option D}{B:ZT}{S:ZX}(l:ZL S b=Z9 ZZ)(e:Y4 [(b,ZZ)] (gN 4) (Pc c) ZZ (VN id a b (Z9 x) d) S=.nx B S):MX c (VN id a b (Z9 x) d) S=.nx B S:=by unfold VN at e ⊢;simp[MX,l,e]
theorem kx(c:ZQ){id a b:Nat}{ZZ:yM}{B:ZT}{S:ZX}(l:ZL S a=Z9 ZZ)(e:Y4 [(a,ZZ)] (gN 3) (MX c) ZZ (VN id a b Z8 Z8) S=.nx B S):Pb c [Z9 (.dct id),Z9 (.lst a),Z9 (.lst b),Z8,Z8] S=.rt (.bl Z7) S:=by unfold VN at e;simp[Pb,l,e]
theorem kv(h:El cl)(n:Nat){id a b:Nat}{kvs:List (ZJ×D)}{xs j ys:List Nat}{S:ZX}(hk:Zt S id=Z9 kvs)(t:Y1 kvs ys)(q:ZL S a=Z9 (xs.map Zs))(p:ZL S b=Z9 (j.map Zs))(H:∀x∈xs,∀z∈j,(x &&& z)∈ys/\(x ||| z)∈ys):cl (n+1) "_law_has_all" [.dct id,.lst a,.lst b] S=.ok (.bl Z7) S:=by
 obtain⟨w,i,e,_,rfl⟩:=Vn Zs (λ_ _=>()) (λ_ B i=>(∃l f,B=VN id a b l f)/\i=S) (g:=gN 3) (λ_ _ i d=>Xx (d.2▸q)) xs (s:=()) ⟨⟨_,_,rfl⟩,rfl⟩ (λ_ x B i o d=>by
  obtain⟨⟨l,f,rfl⟩,rfl⟩:=d;obtain⟨y,c,u,⟨v,rfl⟩,rfl⟩:=Vn Zs (λ_ _=>()) (λ_ B c=>(∃f,B=VN id a b (Z9 (Zs x)) f)/\c=i) (g:=gN 4) (b:=Pc (cl n)) (λ_ _ c d=>Xx (d.2▸p)) j (s:=()) ⟨⟨_,rfl⟩,rfl⟩ (λ_ z B c m d=>by
   obtain⟨⟨f,rfl⟩,rfl⟩:=d;have r:=Tw hk t Z7 (x &&& z);have k:=Tw hk t Z7 (x ||| z);rw[decide_eq_true (H x o z m).1]at r;rw[decide_eq_true (H x o z m).2]at k;exact⟨VN id a b (Z9 (Zs x)) (Z9 (Zs z)),c,by simp[VN],_,c,.inl (kA _ r k),⟨_,rfl⟩,rfl⟩)
  exact⟨VN id a b (Z9 (Zs x)) f,c,by simp[VN],_,c,.inl (kz _ p u),⟨_,_,rfl⟩,rfl⟩)
 rw[h];exact YC rfl (kx _ q e)
theorem IT{w:Xi}{t:Xh}{c:C}{B0:ZT}{all:yM}(P:yM->ZX->Prop)(b:∀l S,P l S->XT w S)(g:∀acc d S,all[acc.length]?=Z9 d->P acc S->∃e,VB t d B0=Z9 e/\∃y f,c e S=.ok y f/\P (acc++[y]) f):
  ∀(items acc:yM) {S:ZX},(∀i,items[i]?=all[acc.length+i]?)->P acc S->∃ds a,Zf w t (λ_=>ret Z7) c B0 items S=.ok ds a/\ds.length=items.length/\P (acc++ds) a
 |[],acc,S,_,h0=>⟨[],S,by unfold Zf;rw[if_pos (b _ S h0)],rfl,by rw[qF6];exact h0⟩
 |d::ds,acc,S,hi,h0=>by
  obtain⟨e,n,y,f,j,m⟩:=g acc d S (hi 0).symm h0;obtain⟨k,a,o,p,h⟩:=IT P b g ds (acc++[y]) (λi=>by
   have:=hi (i+1);rw[qF9]at this;rw[this,qC1];congr 1;simp;omega) m
  unfold Zf;rw[if_pos (b _ S h0),n];dsimp only;rw[Xo,ET,X2,if_pos rfl,Xo,j,X2,Xo,o,X2];exact⟨y::k,a,rfl,by rw[qC3,qC3,p],by rw[qC0]at h;exact h⟩
theorem Di:∀ys:List Nat,WB (ys.map λz=>D.tup [Zs z,.bl Z7])=Z9 (ys.map λz=>(YF z,D.bl Z7))
 |[]=>rfl
 |y::ys=>by show(match Vp (Zs y),WB (ys.map λz=>D.tup [Zs z,.bl Z7])with|some q,Z9 a=>Z9 ((q,D.bl Z7)::a)| _,_=>Z8)=_;rw[Di ys];rfl
def U5(sw m:Nat)(S:ZX)(b:List Nat):Prop:=b.length=m/\∀i a,b[i]?=Z9 a->ZL S a=Z9 ((KL sw i).map Zs)
def Uc(sw m:Nat)(S:ZX)(ds:List Nat):Prop:=ds.length=m/\∀i d,ds[i]?=Z9 d->∃a b,Zt S d=Z9 a/\Y1 a b/\∀z,z∈b↔z∈KL sw i
theorem U5.ex{sw m:Nat}{S b:ZX}{as:List Nat}(h:U5 sw m S as)(x:Ex S b):U5 sw m b as:=⟨h.1,λi a c=>x.lst (h.2 i a c) λz=>z⟩
theorem Uc.ex{sw m:Nat}{S e:ZX}{ds:List Nat}(h:Uc sw m S ds)(x:Ex S e):Uc sw m e ds:=⟨h.1,λi d f=>by
 obtain⟨c,g,a,b⟩:=h.2 i d f;exact⟨c,g,U7 x a λz=>z,b⟩⟩
theorem Dh{α:Type}{l:List α}{y x:α}{i:Nat}(h:(l++[y])[i]?=Z9 x):l[i]?=Z9 x∨(i=l.length/\x=y):=by grind
theorem ku(c:ZQ){r:Nat}{X R:yM}{S:ZX}(l:ZL S r=Z9 X)(a:X.length<lim)(e:Zf [(r,X)] .one (λ_=>ret Z7) (MV c) [Z8] X S=.ok R S):O7 c [Z9 (.lst r)] S=.ok (.lst S.length) (S++[.lst R]):=by simp[O7,l,a,e]
theorem kq(y:M4 cl)(n:Nat){sw ix:Nat}(s:1<=sw)(p:sw<=3){A S:ZX}{rs:List Nat}(h:U6 sw ix A rs S):∃b S',Zf [] .one (λ_=>ret Z7) (O7 (cl (n+1))) [Z8] (rs.map D.lst) S=.ok (b.map D.lst) S'/\U5 sw ix S' b/\Ex S S':=by
 obtain⟨C,v,_,_⟩:=h;obtain⟨ds,S',e,ln,b,c,o,m,x⟩:=IT (t:=.one) (B0:=[Z8]) (all:=rs.map D.lst) (λacc S'=>∃b,acc=b.map D.lst/\b.length=acc.length/\(∀i a,b[i]?=Z9 a->ZL S' a=Z9 ((KL sw i).map Zs))/\Ex S S') (λ_ S' _=>Yg S') (λacc d S' f w=>by
  obtain⟨b,rfl,_,m,x⟩:=w;rw[qA3,qB2]at f;cases g:rs[b.length]? with
  |none=>rw[g]at f;cases f
  |some r =>
   rw[g]at f;cases f;have l:=x.lst (v _ r g).1 λz=>z;have e:Zf [(r,Xf sw b.length)] .one (λ_=>ret Z7) (MV (cl (n+1))) [Z8] (Xf sw b.length) S'=.ok ((KL sw b.length).map Zs) S':=VQ (λz=>Zp (XG sw z)) (Xx l) _ _ λz u=>⟨_,rfl,by
    obtain⟨j,_,k⟩:=WI.mp u;have:=ON y n (XG sw z) S';rw[I0 s p (V3 sw j k)]at this;simp[MV,this,Zs]⟩
   refine⟨_,rfl,_,_,ku _ l (by unfold Xf;rw[qA3,YB];have:=Q0 (i:=b.length) p;omega) e,b++[S'.length],by simp,by simp,λi a B=>?_,x.trans (Zh _ _)⟩;rcases Dh B with q|⟨rfl,rfl⟩
   .exact Ss (m i a q)
   .exact Y7 _ _) (rs.map D.lst) [] (λi=>by simp) ⟨[],rfl,rfl,λi a h=>by simp at h,Kp.refl _ _⟩
 rw[qC1,ln]at o;rw[qM5]at c;exact⟨b,S',by rw[e,c],⟨by simp at o;omega,m⟩,x⟩
theorem ko(c:ZQ){a d:Nat}{X R:yM}{S b S2:ZX}(l:ZL S a=Z9 X)(g:X.length<lim)(e:Zf [(a,X)] .one (λ_=>ret Z7) (MW c) [Z8] X S=.ok R S)(h:S++[.lst R]=b)(f:Vc [.lst S.length] b=.ok (.dct d) S2):O8 c [Z9 (.lst a)] S=.ok (.dct d) S2:=by simp[O8,l,g,e,h,f]
theorem kj(n:Nat){sw ix k:Nat}(H:sw<=3){S:ZX}{c:List Nat}(h:U5 sw ix S c)(hk:ZL S k=Z9 (c.map D.lst)):∃b S',Zf [(k,c.map D.lst)] .one (λ_=>ret Z7) (O8 (cl n)) [Z8] (c.map D.lst) S=.ok (b.map D.dct) S'/\Uc sw ix S' b/\Ex S S':=by
 obtain⟨K,C⟩:=h;obtain⟨ds,S',e,ln,b,g,v,u,x⟩:=IT (t:=.one) (B0:=[Z8]) (all:=c.map D.lst) (λacc S'=>∃b,acc=b.map D.dct/\b.length=acc.length/\(∀i d,b[i]?=Z9 d->∃kvs m,Zt S' d=Z9 kvs/\Y1 kvs m/\∀z,z∈m↔z∈KL sw i)/\Ex S S') (λ_ S' p=>Xx (let ⟨_,_,_,_,x⟩:=p;x.lst hk λz=>z)) (λacc d S' j p=>by
  obtain⟨b,rfl,_,u,x⟩:=p;rw[qA3,qB2]at j;cases o:c[b.length]? with
  |none=>rw[o]at j;cases j
  |some r =>
   rw[o]at j;cases j;have l:=x.lst (C _ r o) λz=>z;have J:=Q0 (i:=b.length) H;have e:Zf [(r,(KL sw b.length).map Zs)] .one (λ_=>ret Z7) (MW (cl n)) [Z8] ((KL sw b.length).map Zs) S'=.ok ((KL sw b.length).map λz=>D.tup [Zs z,.bl Z7]) S':=VQ Zs (Xx l) _ _ λz I=>⟨_,rfl,by simp[MW]⟩
   obtain⟨S1,s⟩:∃S1,S'++[O.lst ((KL sw b.length).map λz=>D.tup [Zs z,.bl Z7])]=S1:=⟨_,rfl⟩
   have f:Vc [.lst S'.length] S1=.ok (.dct S1.length) (S1++[.dk (YJ [] ((KL sw b.length).map λz=>(YF z,D.bl Z7)))]):=by unfold Vc;dsimp only;rw[show S1[S'.length]?=Z9 (O.lst ((KL sw b.length).map λz=>D.tup [Zs z,.bl Z7])) by rw[<- s,qA0 (qA7 _)];simp];dsimp only;rw[Di];dsimp only;rw[if_pos (by rw[qA3,YB];omega)]
   obtain⟨m,y,B,_⟩:=OO (more:=(KL sw b.length).map λz=>(YF z,D.bl Z7)) (kvs:=[]) (xs:=[]) (by unfold Y1;rw[qC8];rfl) rfl;have w:Ex S' (S1++[O.dk (YJ [] ((KL sw b.length).map λz=>(YF z,D.bl Z7)))]):=(s▸Zh S' _).trans (Zh _ _);refine⟨_,rfl,_,_,ko _ l (by rw[qA3,YB];omega) e s f,b++[S1.length],by simp,by simp,λi a F=>?_,x.trans w⟩;rcases Dh F with q|⟨rfl,rfl⟩
   .obtain⟨kvs,E,A,G⟩:=u i a q;exact⟨kvs,E,U7 w A λz=>z,G⟩
   .exact⟨_,m,Sa (by rw[qA0 (qA7 _)];simp),y,λz=>by rw[B];simp⟩) (c.map D.lst) [] (λi=>by simp) ⟨[],rfl,rfl,λi a h=>by simp at h,Kp.refl _ _⟩
 rw[qC1,ln]at v;rw[qM5]at g;exact⟨b,S',by rw[e,g],⟨by simp at v;omega,u⟩,x⟩
structure Dg(cl:Nat->ZQ):Prop where
 le:Dr cl
 fn:Jw cl
 li:Em cl
 ha:El cl
 ip:pQ cl
noncomputable def WH(d b a:D)(kr c:Nat)(w5 w6 w7:Option D):ZT:=[Z9 d,Z9 b,Z9 a,Z9 (.lst kr),Z9 (.lst c),w5,w6,w7]
theorem ki(c:ZQ){k i h:D}{kr j d a b:Nat}{g f:Int}{S:ZX}(l:Zu (.lst kr) (.int f) S=.ok (.lst a) S)(m:Zu (.lst kr) (.int (g - f - 1)) S=.ok (.lst b) S)(e:c "_law_has_all" [.dct d,.lst a,.lst b] S=.ok (.bl Z7) S):Q8 c (WH k i h kr j (Z9 (.int g)) (Z9 (.dct d)) (Z9 (.int f))) S=.nx (WH k i h kr j (Z9 (.int g)) (Z9 (.dct d)) (Z9 (.int f))) S:=by simp[Q8,WH,l,m,e]
theorem IS(c:ZQ){b i g:D}{kr e d f:Nat}{X R:yM}{w7:Option D}{B:ZT}{S a S2:ZX}(n:c "_law_singles" [b] S=.ok (.lst f) a)(m:ZL a f=Z9 X)(k:X.length<lim)(j:Zf [(f,X)] .one (λ_=>ret Z7) (Pa c) [Z8,Z9 (.dct d)] X a=.ok R a)(l:a++[.lst R]=S2)(t:WL (λbs=>bs.all id) [.lst a.length] S2=.ok (.bl Z7) S2)(h:Y4 [] (gN 7) (Q8 c) [] (WH b i g kr e (Z9 (.int 0)) (Z9 (.dct d)) w7) S2=.nx B S2):
  Sh c (WH b i g kr e (Z9 (.int 0)) (Z9 (.dct d)) w7) S=.nx B S2:=by unfold WH at h ⊢;simp[Sh,n,m,k,j,l,t,h,Zc]
theorem IR(c:ZQ){i f e:D}{kr h d:Nat}{a p:Int}{w7:Option D}{B:ZT}{S:ZX}(k:a≠0)(j:(a+1) / 2=p)(b:-4611686018427387904<=p/\p<4611686018427387904)(g:Y4 [] (gN 7) (Q8 c) (Zc 0 p.toNat) (WH i f e kr h (Z9 (.int a)) (Z9 (.dct d)) w7) S=.nx B S):
  Sh c (WH i f e kr h (Z9 (.int a)) (Z9 (.dct d)) w7) S=.nx B S:=by unfold WH at g ⊢;simp[Sh,k,j,b,g]
theorem kh(c:ZQ){s:Int}{f:D}{kr a:Nat}{T R A M E:yM}{w5 w6 w7:Option D}{S k e i j g b h d S9:ZX}(r:T.length<lim)(w:Zf [] .one (λ_=>ret Z7) (MU c) [Z8,Z9 (.int s)] T S=.ok R k)(u:k++[.lst R]=e)(t:WL (λbs=>bs.all id) [.lst k.length] e=.ok (.bl Z7) e)(p:Zf [] .one (λ_=>ret Z7) (O7 c) [Z8] T e=.ok A i)(hk:i.length=kr)(C:i++[.lst A]=j)(o:ZL j kr=Z9 A)(z:A.length<lim)(H:Zf [(kr,A)] .one (λ_=>ret Z7) (O8 c) [Z8] A j=.ok M g)(hm:g.length=a)(x:g++[.lst M]=b)(F:ZL b a=Z9 M)(n:M.length<lim)
  (y:Zf [(a,M)] .one (O9 c) (Jv c) [Z8,Z9 f] M b=.ok [] b) (m:b++[.lst []]=h) (v:h++[.lst []]=d) (q:WM (.lst b.length) (.lst h.length) d=.ok (.bl Z5) d) (G:ZL d a=Z9 M) (B:VU M=E) (l:Y4 [(a,M)] (gT [(gN 5),(gN 6)]) (Sh c) E (WH (.int s) f (.tup T) kr a Z8 Z8 Z8) d=.nx (WH (.int s) f (.tup T) kr a w5 w6 w7) S9) :
  O6 c [Z9 (.int s),Z9 f,Z9 (.tup T),Z8,Z8,Z8,Z8,Z8] S=.rt (.bl Z7) S9:=by unfold WH at l;simp[O6,r,w,u,t,p,hk,C,o,z,H,hm,x,F,n,y,m,v,q,G,B,l]
theorem kf(c:ZQ){a:D}{x:Int}{d:Nat}{S:ZX}(b:c "_law_number_of" [a] S=.ok (.int x) S)(e:YG Z5 (.int x) (.dct d) S=.ok (.bl Z5) S):O9 c [Z9 (.dct d),Z9 a] S=.ok Z5 S:=by simp[O9,b,e]
theorem ke(c:ZQ){a:D}{x:Int}{d:Nat}{S:ZX}(b:c "_law_number_of" [a] S=.ok (.int x) S)(e:YG Z5 (.int x) (.dct d) S=.ok (.bl Z7) S):Pa c [Z9 a,Z9 (.dct d)] S=.ok (.bl Z7) S:=by simp[Pa,b,e]
theorem kd(a:List Nat):VU (a.map D.dct)=(List.range a.length).map λi=>.tup [.int (i:Nat),.dct (a.getD i 0)]:=by
 refine qL1 λi=>?_;by_cases h:i<a.length
 .rw[NU (by simpa using h),qB2,qG4 h];simp[qF4,h]
 .rw[qF5 (by rw[TN];simp;omega),qF5 (by simp;omega)]
theorem Df{S:ZX}{k i a:Nat}{b:List Nat}(h:ZL S k=Z9 (b.map D.lst))(hi:b[i]?=Z9 a):Zu (.lst k) (.int (i:Nat)) S=.ok (.lst a) S:=by rw[VS h,Vq (by rw[qB2,hi];rfl)]
theorem kc(H:Dg cl)(n:Nat){sw ix:Nat}(s1:1<=sw)(K:sw<=3)(hix:ix<=800){bs:List Bool}(hx:ZA 0 bs∈lv sw ix){S0 S:ZX}{rs:List Nat}(h:U6 sw ix S0 rs S):VR (cl (n+4) "_law_is_paper" [.int (sw:Nat),Zp bs,.tup (rs.map D.lst)] S) (.bl Z7) S:=by
 obtain⟨hl,hr,rnd,x0⟩:=id h;obtain⟨S1,e1,x1⟩:=qh (t:=.one) (c:=MU (cl (n+3))) (B0:=[Z8,Z9 (.int sw)]) (λm=>Ex S m) (λm _=>Yg m) (rs.map D.lst) (λ_=>D.bl Z7) (Kp.refl _ _) (λd e m x=>by
  obtain⟨r,y,rfl⟩:=qD9.mp e;obtain⟨i,w⟩:=qE2 y;obtain⟨E,e5,A⟩:=kB H.li H.fn (n+1) s1 K (x.lst (hr i r w).1 λz=>z);exact⟨_,rfl,E,by simp[MU,e5],x.trans A⟩)
 obtain⟨S2,U⟩:∃S2,S1++[O.lst ((rs.map D.lst).map λ_=>D.bl Z7)]=S2:=⟨_,rfl⟩
 have Z:=U▸Zh _ _;have p2:U6 sw ix S0 rs S2:=⟨hl,λi r w=>⟨(x1.trans Z).lst (hr i r w).1 λz=>z,(hr i r w).2⟩,rnd,(x0.trans x1).trans Z⟩
 obtain⟨o,S3,e3,n3,x3⟩:=kq H.le.nu (n+2) s1 K p2;obtain⟨kr,hk⟩:∃kr,S3.length=kr:=⟨_,rfl⟩
 obtain⟨S4,R⟩:∃S4,S3++[O.lst (o.map D.lst)]=S4:=⟨_,rfl⟩
 have Y:=R▸Zh _ _;have N:ZL S4 kr=Z9 (o.map D.lst):=by rw[<- R,<- hk];exact Y7 _ _
 obtain⟨a,E,e5,m5,A⟩:=kj (n+3) K (n3.ex Y) N;obtain⟨km,y⟩:∃km,E.length=km:=⟨_,rfl⟩
 obtain⟨S6,Q⟩:∃S6,E++[O.lst (a.map D.dct)]=S6:=⟨_,rfl⟩
 have F:=Q▸Zh _ _;have l6:ZL S6 km=Z9 (a.map D.dct):=by rw[<- Q,<- y];exact Y7 _ _
 have X:=m5.ex F;have e6:=by
  have:=P0 D.dct (Xx l6) (t:=.one) (tc:=O9 (cl (n+3))) (c:=Jv (cl (n+3))) (B0:=[Z8,Z9 (Zp bs)]) (λ_=>Z5) (λd=>D.dct d) a (λd e=>⟨_,rfl,by
   obtain⟨i,w⟩:=qE2 e;obtain⟨kvs,ys,L,J,C⟩:=X.2 i d w;have il:=(qA1.mp w).1;rw[X.1]at il;have q:=Tw L J Z5 (ZA 0 bs);rw[decide_eq_false (λy=>by
    obtain⟨j,G,hh⟩:=WI.mp ((C _).mp y);have:=Q3 sw hh hx;omega)]at q
   exact kf _ (ON H.le.nu (n+2) bs S6) q,λz=>by cases z⟩)
  rw[qO4.mpr (by simp)]at this;exact this
 obtain⟨S7,h7⟩:∃S7,S6++[O.lst []]=S7:=⟨_,rfl⟩
 obtain⟨S8,h8⟩:∃S8,S7++[O.lst []]=S8:=⟨_,rfl⟩
 have x7:=h7▸Zh _ _;have x8:=h8▸Zh _ _;have q:=JW (x8.lst (by rw[<- h7];exact Y7 _ _) λz=>z) (by rw[<- h8];exact Y7 _ _) rfl rfl;rw[JX]at q;have l:=x7.trans x8;have l8:=l.lst l6 λz=>z;have k8:=(((A.trans F).trans l)).lst N λz=>z;have m8:=X.ex l;have n8:=(n3.ex Y).ex ((A.trans F).trans l);obtain⟨B9,S9,e9,⟨w5,w6,s,rfl⟩,x9⟩:=Wq (items:=(List.range a.length).map λi=>D.tup [.int (i:Nat),.dct (a.getD i 0)]) (g:=gT [(gN 5),(gN 6)]) (b:=Sh (cl (n+3))) (P:=λj B m=>(∃w5 w6 s,B=WH (.int sw) (Zp bs) (.tup (rs.map D.lst)) kr km w5 w6 s)/\Ex S8 m) (λj B m hp=>Xx (hp.2.lst l8 λz=>z)) ⟨⟨_,_,_,rfl⟩,Kp.refl _ _⟩ (λj d B m e hP=>by
  obtain⟨⟨w5,w6,s,rfl⟩,x⟩:=hP;rw[qB2]at e;cases G:(List.range a.length)[j]? with
  |none=>rw[G]at e;cases e
  |some i =>
   rw[G]at e;cases e;obtain⟨jl,je⟩:=qA1.mp G;rw[List.getElem_range]at je;subst je;rw[qD4]at jl;have jx:j<ix:=by rw[<- m8.1];exact jl
   have V:a[j]?=Z9 (a.getD j 0):=by simp[qF4,jl]
   obtain⟨kvs,ys,L,J,C⟩:=(m8.ex x).2 j _ V;have W:=n8.ex x;have kk:=x.lst k8 λz=>z;refine⟨WH (.int sw) (Zp bs) (.tup (rs.map D.lst)) kr km (Z9 (.int j)) (Z9 (.dct (a.getD j 0))) s,m,by simp[WH],?_⟩;by_cases j0:j=0
   .subst j0;obtain⟨f,T1,I,_,y1,z1⟩:=Jc H.le.si H.le.st (n+1) s1 K m;have c1:Zf [(f,(YI sw sw).map Zp)] .one (λ_=>ret Z7) (Pa (cl (n+3))) [Z8,Z9 (.dct (a.getD 0 0))] ((YI sw sw).map Zp) T1=.ok ((YI sw sw).map λ_=>D.bl Z7) T1:=VQ Zp (Xx z1) _ _ λb M=>⟨_,rfl,by
     have q:=Tw (U7 y1 L λz=>z) J Z5 (ZA 0 b);rw[decide_eq_true ((C _).mpr (WI.mpr ⟨0,qA7 _,(OS sw _).mpr (by
      obtain⟨k,hk,M⟩:=qJ2.mp M;refine qJ2.mpr ⟨k,hk,?_⟩;simp at M;rcases M with rfl|rfl
      .simp[R9]
      .simp[R9])⟩))]at q
     exact ke _ (ON H.le.nu (n+2) b T1) q⟩
    exact⟨_,_,.inl (IS _ I z1 (by rw[qA3,MD,YB];omega) c1 rfl (OM (Y7 _ _)) (by unfold Y4;rw[if_pos (Yg _)])),⟨_,_,_,rfl⟩,x.trans (y1.trans (Zh _ _))⟩
   .obtain⟨B3,S3',e3',⟨w7',rfl⟩,rfl⟩:=Wq (items:=Zc 0 ((j+1) / 2)) (g:=gN 7) (b:=Q8 (cl (n+3))) (P:=λ_ B T=>(∃s,B=WH (.int sw) (Zp bs) (.tup (rs.map D.lst)) kr km (Z9 (.int j)) (Z9 (.dct (a.getD j 0))) s)/\T=m) (λ_ _ T _=>Yg T) ⟨⟨_,rfl⟩,rfl⟩ (λk d B T e hP=>by
     obtain⟨⟨s,rfl⟩,rfl⟩:=hP;rw[Q6]at e;obtain⟨hkl,rfl⟩:=e;have al:=W.1;have I:o[k]?=Z9 (o.getD k 0):=by simp[qF4,show k<o.length by omega]
     have g2:o[j - k - 1]?=Z9 (o.getD (j - k - 1) 0):=by simp[qF4,show j - k - 1<o.length by omega]
     have i1:=Df kk I;have i2:=Df kk g2;have ha:=kv H.ha (n+2) L J (W.2 _ _ I) (W.2 _ _ g2) λu hu v hv=>by
      have b1:=WI.mp hu;have b2:=WI.mp hv;refine⟨(C _).mpr (WI.mpr ?_),(C _).mpr (WI.mpr ?_)⟩
      .exact MN (Q2 b1 b2 (.inl rfl)) (by omega)
      .exact MN (Q2 b1 b2 (.inr rfl)) (by omega)
     refine⟨WH (.int sw) (Zp bs) (.tup (rs.map D.lst)) kr km (Z9 (.int j)) (Z9 (.dct (a.getD j 0))) (Z9 (.int k)),T,by simp[WH],_,T,.inl (ki _ i1 (by rw[show(j:Int) - k - 1=((j - k - 1:Nat):Int) by omega];exact i2) ha),⟨_,rfl⟩,rfl⟩)
    exact⟨_,_,.inl (IR _ (p:=(((j+1) / 2:Nat):Int)) (by omega) (by omega) ⟨by omega,by omega⟩ (by exact e3')),⟨_,_,_,rfl⟩,x⟩)
 refine⟨S9,?_,((((((x1.trans Z).trans x3).trans Y).trans A).trans F).trans l).trans x9⟩;rw[H.ip];have rl:(rs.map D.lst).length<lim:=by rw[qA3,YB];omega
 exact YC rfl (kh _ rl e1 U (OM (by rw[<- U];exact Y7 _ _)) e3 hk R N (by rw[qA3,YB,n3.1];omega) e5 y Q l6 (by rw[qA3,YB,m5.1];omega) e6 h7 h8 q l8 (kd a) e9)
structure Mw(cl:Nat->ZQ):Prop where
 st:Er cl
 ce:JA cl
 ta:Jz cl
 so:En cl
 fe:Eo cl
 pa:IY cl
 my:Dk cl
 ip:Dg cl
noncomputable def YE(b d:D)(i sw kr:Nat)(c:D)(w6 w7 w8 e a:Option D):ZT:=[Z9 b,Z9 d,Z9 (.lst i),Z9 (.int (sw:Nat)),Z9 (.lst kr),Z9 c,w6,w7,w8,e,a]
theorem ka(c:ZQ){b f d:D}{i sw kr r:Nat}{w6 w7 g a:Option D}{X:yM}{S:ZX}(l:ZL S r=Z9 X)(h:X.length<lim):O4 c (YE b f i sw kr d w6 w7 (Z9 (.lst r)) g a) S=.nx (YE b f i sw kr d w6 w7 (Z9 (.lst r)) g a) (S.set r (.lst (X++[.non]))):=by
 have e:X3 XU (.lst r) [.non] S=.ok .non (S.set r (.lst (X++[.non]))):=by rw[Um l,Tz,if_pos h]
 simp[O4,YE,Uo l,e]
theorem j5(c:ZQ){d f b:D}{i sw kr:Nat}{ix:Int}{w6 w7 w8 e a j:Option D}{T:yM}{S l k g S4:ZX}(o:c "paper_of" [b] S=.ok (.tup T) l)(m:c "_law_fewest" [.lst kr,b] l=.ok (.int (ix+1)) k)(n:(T.length:Int)=ix)(p:c "_law_is_paper" [.int (sw:Nat),b,.tup T] k=.ok (.bl Z7) g)(h:Y4 [] (gN 8) (O4 c) T (YE d f i sw kr b w6 (Z9 (.tup T)) w8 e a) g=.nx (YE d f i sw kr b w6 (Z9 (.tup T)) j e a) S4):
  O0 c (YE d f i sw kr b w6 w7 w8 e a) S=.nx (YE d f i sw kr b w6 (Z9 (.tup T)) j e a) S4:=by subst n;unfold YE at h ⊢;simp[O0,o,m,p,h]
theorem j4(c:ZQ){f j h:D}{i sw kr r:Nat}{w6 w7 w8 s d:Option D}{X R L:yM}{S a b:ZX}(p:c "fewest_many" [.int (sw:Nat)] S=.ok (.lst r) a)(t:Yl [.lst r,.ty "list"] a=.ok (.bl Z7) a)(o:ZL a kr=Z9 X)(l:X.length<lim)(k:Zf [(kr,X)] .one (λ_=>ret Z7) (O5 c) [Z8] X a=.ok R a)(n:a++[.lst R]=b)(q:WM (.lst r) (.lst a.length) b=.ok (.bl Z5) b)(g:ZL b r=Z9 L)(m:L.length<lim):
  Q7 c (YE f j i sw kr h w6 w7 w8 s d) S=.nx (YE f j i sw kr h w6 w7 w8 (Z9 (.lst r)) d) (b.set r (.lst (L++[.int 0]))):=by
 have e:X3 XU (.lst r) [.int 0] b=.ok .non (b.set r (.lst (L++[.int 0]))):=by rw[Um g,Tz,if_pos m]
 simp[Q7,YE,p,t,o,l,k,n,q,Uo g,e]
theorem De{S a:ZX}(x:Ex S a){r:Nat}(h:S.length<=r)(o:O):Ex S (a.set r o):=⟨by rw[qG5];exact x.le,λj b _=>by rw[qD5 (by omega)];exact x.eq j b λz=>z⟩
theorem j3(H:Mw cl)(n:Nat){sw ix:Nat}(I:1<=sw)(E:sw<=3)(hi:ix<=800){bs:List Bool}(W:bs.length=2 ^ sw)(y:ZA 0 bs∈lv sw ix){V S:ZX}{kr:Nat}(R:UO sw V kr S)(t w:D)(i:Nat)(w6 w7 w8 v c:Option D):∃Y p S',O0 (cl (n+8)) (YE t w i sw kr (Zp bs) w6 w7 w8 v c) S=.nx (YE t w i sw kr (Zp bs) w6 Y p v c) S'/\Ex S S':=by
 obtain⟨rs,S1,Q,O⟩:=kU H.pa n I E W y hi S;obtain⟨h,s,o,A⟩:=id O;obtain⟨S2,K,u⟩:=Dp H.fe H.ip.le.nu (n+6) (R.ex A) y;have L:U6 sw ix S rs S2:=⟨h,λj r q=>⟨u.lst (s j r q).1 λz=>z,(s j r q).2⟩,o,A.trans u⟩
 obtain⟨Z,U,F⟩:=kc H.ip (n+4) I E hi y L;have C:=(A.trans u).trans F;obtain⟨B4,N,X,⟨p,rfl⟩,J,_⟩:=Wq (items:=rs.map D.lst) (g:=gN 8) (b:=O4 (cl (n+8))) (P:=λj B S'=>(∃p,B=YE t w i sw kr (Zp bs) w6 (Z9 (.tup (rs.map D.lst))) p v c)/\Ex S S'/\∀k r,j<=k->rs[k]?=Z9 r->ZL S' r=Z9 (Xf sw k)) (λ_ _ T _=>Yg T) ⟨⟨_,rfl⟩,C,λk r _ q=>(u.trans F).lst (s k r q).1 λz=>z⟩ (λj d B T m M=>by
  obtain⟨⟨p,rfl⟩,x,a⟩:=M;rw[qB2]at m;cases f:rs[j]? with
  |none=>rw[f]at m;cases m
  |some r =>
   rw[f]at m;cases m;have l:=a j r (qA7 _) f;refine⟨YE t w i sw kr (Zp bs) w6 (Z9 (.tup (rs.map D.lst))) (Z9 (.lst r)) v c,T,by simp[YE],_,_,.inl (ka _ l (by unfold Xf;rw[qA3,YB];have:=Q0 (i:=j) E;omega)),⟨_,rfl⟩,De x (s j r f).2 _,λk q hk G=>?_⟩;refine(WJ T _).lst (a k q (by omega) G) λe=>?_;subst e;have:=(qK9 (qA1.mp f).1 o).mp (f.trans G.symm);omega)
 refine⟨_,_,N,j5 _ Q (ix:=ix) (by rw[K];simp) (by rw[qA3,h]) U X,J⟩
theorem IQ(c:ZQ){r:Nat}{z:Int}{S:ZX}(e:Zr [.lst r] S=.ok (.int z) S):O5 c [Z9 (.lst r)] S=.ok (.int z) S:=by simp[O5,e]
theorem jz(H:Mw cl)(n:Nat){sw:Nat}(E:1<=sw)(W:sw<=3){J S:ZX}{kr:Nat}(R:UO sw J kr S)(o y x:D)(i:Nat)(w6 w7 w8 K c:Option D):∃G S',Q7 (cl (n+7)) (YE o y i sw kr x w6 w7 w8 K c) S=.nx (YE o y i sw kr x w6 w7 w8 G c) S'/\Ex S S':=by
 obtain⟨a,m,l,U,M,e,b,C⟩:=R;have F:1<=m:=by obtain⟨j,X,_⟩:=b 0 (by exact Nat.two_pow_pos _);omega
 obtain⟨r,S1,I,L,k,u⟩:=kI H.my n E W F U b C S;have v:=k.lst M λz=>z;have A:Zf [(kr,a.map D.lst)] .one (λ_=>ret Z7) (O5 (cl (n+7))) [Z8] (a.map D.lst) S1=.ok (Vr sw m) S1:=by
  have T:a.map D.lst=(List.range a.length).map λi=>D.lst (a.getD i 0):=by
   refine qL1 λi=>?_;by_cases h:i<a.length
   .rw[qB2,qB2,qG4 h];simp[qF4,h]
   .rw[qF5 (by simp;omega),qF5 (by simp;omega)]
  have w:=Xx v;rw[T]at w ⊢;rw[<- l];refine VQ (λi:Nat=>D.lst (a.getD i 0)) w _ _ λi Q=>⟨_,rfl,?_⟩
  have g:=qE0.mp Q;obtain⟨Y,B,V,N⟩:=e i (a.getD i 0) (by simp[qF4,g]);have:=Ka (k.lst B λz=>z);rw[qA3,IW N V]at this;exact IQ _ this
 obtain⟨S2,f⟩:∃S2,S1++[O.lst (Vr sw m)]=S2:=⟨_,rfl⟩
 have s:=f▸Zh _ _;have p:=s.lst u λz=>z;have t:(Vr sw m).all (plain 39)=Z7:=qD2.mpr λd P=>by obtain⟨z,_,rfl⟩:=qD9.mp P;rfl
 have q:=JW p (by rw[<- f];exact Y7 _ _) t t;rw[JX]at q;exact⟨_,_,j4 _ I (EC u) v (by rw[qA3,l,YB];omega) A f q p (by rw[kO,YB];omega),De (k.trans s) L _⟩
theorem jy(c:ZQ){d h L:D}{b r mo k:Int}{sw i kr O W V U:Nat}{w2 w3 w4 w5 w6 w7 w8 l a X T R w N J B:Option D}{f:Int}{I:D}{S M Y s P t S6 u q G e o p g S14:ZX}(e1:c "_law_state" [d,.int b] S=.ok (.lst i) M)(z:M.length=W)(h2:M++[.lst [.int 1,.int 2,.int 2,.int 3]]=Y)(e3:c "_law_take" [.lst i,.int 4] Y=.ok (.int r) s)(Z:Zu (.lst W) (.int r) s=.ok (.int mo) s)(hs:(if 3 - (if 1<b then 1 else b)<mo then 3 - (if 1<b then 1 else b)else mo)=(sw:Int))(e4:c "_law_levels" [.int (sw:Nat)] s=.ok (.lst kr) P)(e5:c "_law_some_function" [.lst i,.int (sw:Nat)] P=.ok I t)(e6:c "_law_fewest" [.lst kr,I] t=.ok (.int f) S6)
  (C:(X9 (Y5 (ZU (Yq λi j=>decide (j<i)) (ZS (c "_law_fewest") (ZP [(ZY 4),(ZY 5)])) (ZW (.int 6)))) (ZV (ZI (ZU Zu (ZS (c "_law_singles") (ZP [(ZY 3)])) (ZW (.int 0))) (gN 5)) ZH) ZH) [Z9 d,Z9 (.int b),Z9 (.lst i),Z9 (.int (sw:Nat)),Z9 (.lst kr),Z9 I,w6,w7,w8,l,a] t=.nx (YE d (.int b) i sw kr h w6 w7 w8 l a) u) (A:u.length=V) (h8:u++[.lst [.int 0,.int 2,.int 2,.int 1]]=q) (ec:Zu (.lst V) (.int (sw:Nat)) q=.ok (.int k) q) (b0:-4611686018427387904<=k/\k<4611686018427387904)
  (Q:Y4 [] (gN 6) (O0 c) (Zc 0 k.toNat) (YE d (.int b) i sw kr h w6 w7 w8 l a) q=.nx (YE d (.int b) i sw kr h X T R l a) G) (y:G.length=U) (K:G++[.lst [.int 0,.int 2,.int 2,.int 1]]=e) (H:Zu (.lst U) (.int (sw:Nat)) e=.ok (.int k) e)
  (n:Y4 [] (gN 6) (Q7 c) (Zc 0 k.toNat) (YE d (.int b) i sw kr h X T R l a) e=.nx (YE d (.int b) i sw kr h w N J B a) o) (E:c "_law_some_function" [.lst i,.int 4] o=.ok L p)
  (m:UT Zw 4 V5 [10] (Xz (c "paper_of") (ZP [(ZY 0)])) (YE d (.int b) i sw kr h w N J B (Z9 L)) p=.ok (.lst O) g) (v:g++[.lst [.int 0]]=S14) (x:WM (.lst O) (.lst g.length) S14=.ok (.bl Z5) S14) :
  OZ c [Z9 d,Z9 (.int b),w2,w3,w4,w5,w6,w7,w8,l,a] S=.nx (YE d (.int b) i sw kr h w N J B (Z9 L)) S14:=by generalize hF:(X9 (Y5 (ZU (Yq λi j=>decide (j<i)) (ZS (c "_law_fewest") (ZP [(ZY 4),(ZY 5)])) (ZW (.int 6)))) (ZV (ZI (ZU Zu (ZS (c "_law_singles") (ZP [(ZY 3)])) (ZW (.int 0))) (gN 5)) ZH) ZH)=F at C;unfold OZ;rw[hF];unfold YE at C Q n m ⊢;simp[e1,z,h2,e3,Z,hs,e4,e5,C,A,h8,ec,b0,Q,y,K,H,n,E,m,v,x]
theorem jw(c:ZQ){d g b:D}{i sw kr:Nat}{f:Int}{w6 w7 w8 h a:Option D}{S S1:ZX}(e:c "_law_fewest" [.lst kr,b] S=.ok (.int f) S1)(k:¬6<f):(X9 (Y5 (ZU (Yq λi j=>decide (j<i)) (ZS (c "_law_fewest") (ZP [(ZY 4),(ZY 5)])) (ZW (.int 6)))) (ZV (ZI (ZU Zu (ZS (c "_law_singles") (ZP [(ZY 3)])) (ZW (.int 0))) (gN 5)) ZH) ZH) [Z9 d,Z9 g,Z9 (.lst i),Z9 (.int (sw:Nat)),Z9 (.lst kr),Z9 b,w6,w7,w8,h,a] S=.nx (YE d g i sw kr b w6 w7 w8 h a) S1:=by unfold YE;simp[e,k]
theorem jv(c:ZQ){b l h k:D}{i sw kr g:Nat}{f:Int}{w6 w7 w8 d a:Option D}{S m S2:ZX}(e:c "_law_fewest" [.lst kr,h] S=.ok (.int f) m)(p:6<f)(o:c "_law_singles" [.int (sw:Nat)] m=.ok (.lst g) S2)(n:Zu (.lst g) (.int 0) S2=.ok k S2):(X9 (Y5 (ZU (Yq λi j=>decide (j<i)) (ZS (c "_law_fewest") (ZP [(ZY 4),(ZY 5)])) (ZW (.int 6)))) (ZV (ZI (ZU Zu (ZS (c "_law_singles") (ZP [(ZY 3)])) (ZW (.int 0))) (gN 5)) ZH) ZH) [Z9 b,Z9 l,Z9 (.lst i),Z9 (.int (sw:Nat)),Z9 (.lst kr),Z9 h,w6,w7,w8,d,a] S=.nx (YE b l i sw kr k w6 w7 w8 d a) S2:=by unfold YE;simp[e,p,o,n]
inductive Dd(sc:D)(B:ZT)(S:ZX):Prop
 |mk (w1 w2 w3 w4 w5 w6 w7 w8 w9 w10:Option D) (e:B=[Z9 sc,w1,w2,w3,w4,w5,w6,w7,w8,w9,w10]) (tb:Tu S)
theorem ju(H:Mw cl)(n:Nat)(ns:yA){f:D}(hsc:D.rol (ns.map D.int)=f)(a:Int)(hj:0<=a){S:ZX}(tb:Tu S)(w2 w3 w4 w5 w6 w7 w8 I c:Option D):∃B S',OZ (cl (n+8)) [Z9 f,Z9 (.int a),w2,w3,w4,w5,w6,w7,w8,I,c] S=.nx B S'/\Dd f B S':=by
 obtain⟨S1,e1,x1,F⟩:=pN H.st H.ce (n+6) ns a hj S;rw[hsc]at e1;obtain⟨i,hi⟩:∃i,S.length=i:=⟨_,rfl⟩
 rw[hi]at e1 F;obtain⟨n1,M⟩:∃n1,S1.length=n1:=⟨_,rfl⟩
 obtain⟨S2,h2⟩:∃S2,S1++[O.lst [.int 1,.int 2,.int 2,.int 3]]=S2:=⟨_,rfl⟩
 have x2:=h2▸Zh _ _;have tb2:=(tb.ex x1).ex x2;have J:=F.ex x2;obtain⟨r,Y,e3,b1,b2,k3,_,st3⟩:=Ek H.ta (n+7) J (m:=4) (by decide) (by decide);have tb3:=tb2.kp J k3;have l3:ZL Y n1=Z9 [.int 1,.int 2,.int 2,.int 3]:=k3.lst (by rw[<- h2,<- M];exact Y7 _ _) (by have:=F.lt;omega);obtain⟨mo,em,mo1,mo2⟩:∃mo:Int,Zu (.lst n1) (.int r) Y=.ok (.int mo) Y/\1<=mo/\mo<=3:=by
  have e:=VS l3 r;have:r=0∨r=1∨r=2∨r=3:=by omega
  rcases this with rfl|rfl|rfl|rfl
  .exact⟨1,by rw[e];rfl,by decide,by decide⟩
  .exact⟨2,by rw[e];rfl,by decide,by decide⟩
  .exact⟨2,by rw[e];rfl,by decide,by decide⟩
  .exact⟨3,by rw[e];rfl,by decide,by decide⟩
 obtain⟨sw,hs,L,K⟩:∃sw:Nat,(if 3 - (if 1<a then 1 else a)<mo then 3 - (if 1<a then 1 else a)else mo)=sw/\1<=sw/\sw<=3:=by
  have h:∃z:Int,(if 3 - (if 1<a then 1 else a)<mo then 3 - (if 1<a then 1 else a)else mo)=z/\1<=z/\z<=3:=⟨_,rfl,by split<;>(try split)<;>omega,by split<;>(try split)<;>omega⟩
  obtain⟨z,hz,z1,z3⟩:=h;exact⟨z.toNat,by omega,by omega,by omega⟩
 obtain⟨A,S4,e4,_,x4,R4⟩:=m3 H.ip.le (n+5) L K Y;have tb4:=tb3.ex x4;have E:=st3.ex x4;obtain⟨Z,S5,e5,gl,k5,st5⟩:=Do H.so H.ta (n+6) (sw:=sw) (by omega) E;have tb5:=tb4.kp E k5;have R5:=R4.st E k5;obtain⟨gx,ghi,V⟩:∃gx,gx<=25/\ZA 0 Z∈lv sw gx:=DU L K (by have:=OV Z 0;rw[gl]at this;simpa[NN]using this);obtain⟨S6,e6,x6⟩:=Dp H.fe H.ip.le.nu (n+6) R5 V;obtain⟨bs,ix,S7,e7,hl,hx,hix,x7⟩:∃(bs:List Bool) (ix:Nat) (S7:ZX),(X9 (Y5 (ZU (Yq λi j=>decide (j<i)) (ZS (cl (n+8) "_law_fewest") (ZP [(ZY 4),(ZY 5)])) (ZW (.int 6)))) (ZV (ZI (ZU Zu (ZS (cl (n+8) "_law_singles") (ZP [(ZY 3)])) (ZW (.int 0))) (gN 5)) ZH) ZH) [Z9 f,Z9 (.int a),Z9 (.lst i),Z9 (.int sw),Z9 (.lst A),Z9 (Zp Z),w6,w7,w8,I,c] S5=.nx (YE f (.int a) i sw A (Zp bs) w6 w7 w8 I c) S7/\bs.length=2 ^ sw/\ZA 0 bs∈lv sw ix/\ix<=800/\Ex S5 S7:=by
  by_cases h6:6<((gx+1:Nat):Int)
  .obtain⟨g,T,f1,_,y1,z1⟩:=Jc H.ip.le.si H.ip.le.st (n+6) L K S6;have hd:(YI sw sw).map Zp=Zp (X5 sw 0 0)::((YI sw sw).map Zp).tail:=by
    obtain⟨p,rfl⟩:∃p,sw=p+1:=⟨sw - 1,by omega⟩
    unfold YI;rw[qJ3];simp
   rw[hd]at z1;refine⟨X5 sw 0 0,0,T,jv _ e6 h6 f1 (by rw[VS z1,qk]),by unfold X5;rw[qA3,Uk],(OS sw _).mpr ?_,by omega,x6.trans y1⟩;rw[R9];exact qJ2.mpr ⟨0,qE0.mpr (by omega),by simp⟩
  .exact⟨Z,gx,S6,jw _ e6 h6,gl,V,by omega,x6⟩
 obtain⟨n4,N⟩:∃n4,S7.length=n4:=⟨_,rfl⟩
 obtain⟨S8,h8⟩:∃S8,S7++[O.lst [.int 0,.int 2,.int 2,.int 1]]=S8:=⟨_,rfl⟩
 have x8:=h8▸Zh _ _;have o:∀{S:ZX}{k:Nat},ZL S k=Z9 [.int 0,.int 2,.int 2,.int 1]->Zu (.lst k) (.int sw) S=.ok (.int (if sw=3 then 1 else 2)) S:=λ{S k} l=>by
  have e:=VS l sw;have:sw=1∨sw=2∨sw=3:=by omega
  rcases this with rfl|rfl|rfl<;>(rw[e];rfl)
 obtain⟨W,hcc,c0,c2⟩:∃W:Int,(if sw=3 then 1 else 2)=W/\0<=W/\W<=2:=⟨_,rfl,by split<;>omega,by split<;>omega⟩
 rw[hcc]at o;have R8:=(R5.ex x7).ex x8;obtain⟨B9,S9,e9,⟨u6,t,s,rfl⟩,x9⟩:=Wq (g:=gN 6) (P:=λ_ B S'=>(∃u6 t s,B=YE f (.int a) i sw A (Zp bs) u6 t s I c)/\Ex S8 S') (λ_ _ S _=>Yg S) ⟨⟨_,_,_,rfl⟩,Kp.refl _ _⟩ (λj d B S' hd hP=>by
  obtain⟨⟨u6,t,s,rfl⟩,x⟩:=hP;obtain⟨v7,v8,T,g,y⟩:=j3 H n L K hix hl hx (R8.ex x) f (.int a) i (Z9 d) t s I c;exact⟨YE f (.int a) i sw A (Zp bs) (Z9 d) t s I c,S',by simp[YE],_,T,.inl g,⟨_,_,_,rfl⟩,x.trans y⟩)
 obtain⟨n7,R⟩:∃n7,S9.length=n7:=⟨_,rfl⟩
 obtain⟨S10,C⟩:∃S10,S9++[O.lst [.int 0,.int 2,.int 2,.int 1]]=S10:=⟨_,rfl⟩
 have Q:=C▸Zh _ _;have R10:=(R8.ex x9).ex Q;obtain⟨B11,S11,e11,⟨X,G,rfl⟩,x11⟩:=Wq (g:=gN 6) (b:=Q7 (cl (n+8))) (P:=λ_ B S'=>(∃X G,B=YE f (.int a) i sw A (Zp bs) X t s G c)/\Ex S10 S') (λ_ _ S _=>Yg S) ⟨⟨_,_,rfl⟩,Kp.refl _ _⟩ (λj d B S' hd hP=>by
  obtain⟨⟨X,G,rfl⟩,x⟩:=hP;obtain⟨v9',T,g,y⟩:=jz H (n+1) L K (R10.ex x) f (.int a) (Zp bs) i (Z9 d) t s G c;exact⟨YE f (.int a) i sw A (Zp bs) (Z9 d) t s G c,S',by simp[YE],_,T,.inl g,⟨_,_,rfl⟩,x.trans y⟩)
 have v:=(((x7.trans x8).trans x9).trans Q).trans x11;have w:=st5.ex v;have U:=tb5.ex v;obtain⟨qs,S12,e12,ql,k12,st12⟩:=Do H.so H.ta (n+6) (qA7 _) w;have u:=U.kp w k12;obtain⟨S13,e13,x13⟩:=kT H.pa (n+5) ql S12;obtain⟨m1,S14,e14,l14,x14⟩:=ml (k:=0) (js:=[10]) (B:=YE f (.int a) i sw A (Zp bs) X t s G (Z9 (Zp qs))) (cb:=Xz (cl (n+8) "paper_of") (ZP [(ZY 0)])) (by decide +kernel) u ((pY (by simp[YE])).trans e13);have q:=JW (Ss l14) (Y7 S14 [.int 0]) rfl rfl;rw[JX]at q;exact⟨_,_,jy _ e1 M h2 e3 em hs e4 e5 e6 e7 N h8 (o (by rw[<- h8,<- N];exact Y7 _ _)) ⟨by omega,by omega⟩ e9 R C (o (by rw[<- C,<- R];exact Y7 _ _)) e11 e12 e14 rfl q,⟨_,_,_,_,_,_,_,_,_,_,rfl,((u.ex x13).ex x14).ex (Zh _ _)⟩⟩
theorem jt(c:ZQ){a:D}{S S3:ZX}{q:Int}{len:Nat}{e h w3 w4 w5 w6 w7 w8 j b:Option D}(d:Zr [a] S=.ok (.int len) S)(g:(if(if(2:Int)<(len:Int)then 2 else(len:Int))>1 then(if(2:Int)<(len:Int)then 2 else(len:Int))else 1)=q)(i:-4611686018427387904<=q/\q<4611686018427387904)(f:Y4 [] (gN 1) (OZ c) (Zc 0 q.toNat) [Z9 a,Z8,Z8,Z8,Z8,Z8,Z8,Z8,Z8,Z8,Z8] S=.nx [Z9 a,e,h,w3,w4,w5,w6,w7,w8,j,b] S3):
  OY c [Z9 a,Z8,Z8,Z8,Z8,Z8,Z8,Z8,Z8,Z8,Z8] S=.rt (.bl Z7) S3:=by simp[OY,d,g,i,f]
theorem jr(h:pP cl)(H:Mw cl)(n:Nat)(a:yA):∃S',cl (n+9) "law" [.rol (a.map D.int)] [.tb Zw]=.ok (.bl Z7) S':=by
 rw[show n+9=(n+8)+1 from rfl,h];generalize hsc:D.rol (a.map D.int)=sc;have u:∃q:Int,(if(if 2<(a.length:Int)then 2 else(a.length:Int))>1 then(if 2<(a.length:Int)then 2 else(a.length:Int))else 1)=q/\0<=q/\q<=2:=⟨_,rfl,by split<;>(try split)<;>omega,by split<;>(try split)<;>omega⟩
 obtain⟨q,x,G,A⟩:=u;obtain⟨C,w,z,v,m,t,i,f,o,k,c,r,b,rfl,_⟩:=Wq (g:=gN 1) (items:=Zc 0 q.toNat) (λj B S=>Dd sc B S) (S:=[.tb Zw])
  (λj B S l=>Yg _) ⟨_,_,_,_,_,_,_,_,_,_,rfl,rfl⟩
  (λj d B S s l=>by
   obtain⟨v,m,t,i,f,o,k,c,r,b,rfl,y⟩:=l;rw[Q6]at s;obtain⟨F,rfl⟩:=s;obtain⟨E,S',e,p⟩:=ju H n a hsc (0+j) (by omega) y m t i f o k c r b;exact⟨_,_,rfl,_,S',.inl e,p⟩)
 exact⟨w,YC rfl (jt _ (by rw[<- hsc,qm,qA3]) x (by omega) z)⟩
end My
set_option maxHeartbeats 4000000
namespace My
open PySem L2
noncomputable def tbl:TH:=[(("settings":Str),(1,3,Nn)),
 (("is_shut":Str),(2,2,Nm)),
 (("places_from":Str),(2,5,Nj)),
 (("joins":Str),(1,1,Ni)),
 (("shut_contacts":Str),(2,2,Nh)),
 (("lets":Str),(2,2,Ng)),
 (("function_of":Str),(1,1,Nd)),
 (("switches_of":Str),(1,1,PU)),
 (("where_both":Str),(2,2,JK)),
 (("where_either":Str),(2,2,JH)),
 (("lone_net":Str),(2,2,Nc)),
 (("tree_function":Str),(2,5,Sm)),
 (("number_of":Str),(1,3,PP)),
 (("function_with":Str),(2,2,PM)),
 (("first_level":Str),(1,5,PK)),
 (("add_made":Str),(4,8,PJ)),
 (("further_level":Str),(1,5,PD)),
 (("levels_to":Str),(1,3,Sk)),
 (("paper_of":Str),(1,4,Sj)),
 (("how_many_functions":Str),(1,3,Pz)),
 (("fewest_many":Str),(1,2,Pw)),
 (("_law_cell_at":Str),(2,2,Pv)),
 (("_law_state":Str),(2,3,Pu)),
 (("_law_take":Str),(2,4,Pt)),
 (("_law_settings":Str),(1,3,M8)),
 (("_law_singles":Str),(1,4,Pp)),
 (("_law_number_of":Str),(1,3,Po)),
 (("_law_levels":Str),(1,9,Pk)),
 (("_law_fewest":Str),(2,3,Ph)),
 (("_law_some_function":Str),(2,2,Pg)),
 (("_law_is_function":Str),(2,2,Pf)),
 (("_law_is_list":Str),(2,2,Pd)),
 (("_law_has_all":Str),(3,5,Pb)),
 (("_law_is_paper":Str),(3,8,O6)),
 (("law":Str),(1,11,OY))]
noncomputable def Yu(i:Nat):Stmt:=PySem.Challenge.pw_contactnets_k53_papers_told.main.body.getD i (.Pass ⟨0,0,0,0⟩)
theorem hk{f g:Nat->yM->M D}(h:f=g)(n:Nat):f n=g n:=congrFun h n
noncomputable abbrev IP:Stmt:=Yu 10
noncomputable abbrev IM:Stmt:=Yu 11
noncomputable abbrev IL:Stmt:=Yu 12
noncomputable abbrev IK:Stmt:=Yu 13
noncomputable abbrev IJ:Stmt:=Yu 14
noncomputable abbrev II:Stmt:=Yu 15
noncomputable abbrev IH:Stmt:=Yu 16
noncomputable abbrev IG:Stmt:=Yu 17
noncomputable abbrev IF:Stmt:=Yu 18
noncomputable abbrev IE:Stmt:=Yu 19
noncomputable abbrev ID:Stmt:=Yu 21
noncomputable abbrev IC:Stmt:=Yu 22
noncomputable abbrev Iz:Stmt:=Yu 24
noncomputable abbrev Iy:Stmt:=Yu 25
noncomputable abbrev Iw:Stmt:=Yu 26
noncomputable abbrev Iv:Stmt:=Yu 27
noncomputable abbrev Iu:Stmt:=Yu 28
noncomputable abbrev Ir:Stmt:=Yu 29
noncomputable abbrev Iq:Stmt:=Yu 30
noncomputable abbrev Ip:Stmt:=Yu 31
noncomputable abbrev Io:Stmt:=Yu 32
noncomputable abbrev Im:Stmt:=Yu 34
noncomputable abbrev Il:Stmt:=Yu 35
noncomputable abbrev Ik:Stmt:=Yu 36
noncomputable abbrev Ij:Stmt:=Yu 37
noncomputable abbrev Ii:Stmt:=Yu 38
noncomputable abbrev Ih:Stmt:=Yu 39
noncomputable abbrev Ig:Stmt:=Yu 40
noncomputable abbrev Ie:Stmt:=Yu 42
noncomputable abbrev Ic:Stmt:=Yu 43
noncomputable abbrev Ib:Stmt:=Yu 44
noncomputable abbrev Ia:Stmt:=Yu 45
noncomputable abbrev H7:Stmt:=Yu 46
noncomputable abbrev HZ:Stmt:=Yu 47
noncomputable abbrev R3:Stmt:=Yu 49
noncomputable abbrev OL:Stmt:=Yu 48
abbrev Yp(x:Str)(N:yH)(st:vK)(b:ZQ->CS):Prop:=(λa:ZQ=>cSts (TC tbl) a 60 ⟨N,(Zi st).names,Z9 x⟩ (Xk st))=λa=>Z9 (b a)
theorem Dc:PY (Yh tbl):=hk (by kernel_rfl)
theorem jq:Yp "settings" ["switches","told","switch"] IP Nn:=by kernel_rfl
theorem Da:Rc (Yh tbl):=hk (by kernel_rfl)
theorem jn:Yp "is_shut" ["contact","setting"] IM Nm:=by kernel_rfl
theorem C9:So (Yh tbl):=hk (by kernel_rfl)
theorem jm:Yp "places_from" ["start","contacts","found","grown","contact"] IL Nj:=by kernel_rfl
theorem C8:PX (Yh tbl):=hk (by kernel_rfl)
theorem jk:Yp "joins" ["contacts"] IK Ni:=by kernel_rfl
theorem C7:PV (Yh tbl):=hk (by kernel_rfl)
theorem ji:Yp "shut_contacts" ["net","setting"] IJ Nh:=by kernel_rfl
theorem C6:Nf (Yh tbl):=hk (by kernel_rfl)
theorem jh:Yp "lets" ["net","setting"] II Ng:=by kernel_rfl
theorem C5:JM (Yh tbl):=hk (by kernel_rfl)
theorem jg:Yp "function_of" ["net"] IH Nd:=by kernel_rfl
theorem C3:JL (Yh tbl):=hk (by kernel_rfl)
theorem jf:Yp "switches_of" ["function"] IG PU:=by kernel_rfl
theorem C2:JI (Yh tbl):=hk (by kernel_rfl)
theorem jd:Yp "where_both" ["one","other"] IF JK:=by kernel_rfl
theorem C1:JG (Yh tbl):=hk (by kernel_rfl)
theorem jc:Yp "where_either" ["one","other"] IE JH:=by kernel_rfl
theorem C0:JF (Yh tbl):=hk (by kernel_rfl)
theorem jb:Yp "lone_net" ["switches","tree"] ID Nc:=by kernel_rfl
theorem CZ:Eu (Yh tbl):=hk (by kernel_rfl)
theorem ja:Yp "tree_function" ["switches","tree","told","part","bits"] IC Sm:=by kernel_rfl
theorem CY:Rb (Yh tbl):=hk (by kernel_rfl)
theorem i9:Yp "number_of" ["function","number","bit"] Iz PP:=by kernel_rfl
theorem i8:Yp "function_with" ["number","size"] Iy PM:=by kernel_rfl
theorem CW:JD (Yh tbl):=hk (by kernel_rfl)
theorem i7:Yp "first_level" ["switches","level","switch","on","tree"] Iw PK:=by kernel_rfl
theorem CV:Sl (Yh tbl):=hk (by kernel_rfl)
theorem i6:Yp "add_made" ["level","one","other","known","first","second","kind","made"] Iv PJ:=by kernel_rfl
theorem CU:PC (Yh tbl):=hk (by kernel_rfl)
theorem i5:Yp "further_level" ["levels","known","level","told","less"] Iu PD:=by kernel_rfl
theorem CQ:Et (Yh tbl):=hk (by kernel_rfl)
theorem i4:Yp "levels_to" ["function","switches","levels"] Ir Sk:=by kernel_rfl
theorem iZ:Yp "paper_of" ["function","known","told","level"] Iq Sj:=by kernel_rfl
theorem iY:Yp "how_many_functions" ["switches","count","setting"] Ip Pz:=by kernel_rfl
theorem iX:Yp "fewest_many" ["switches","levels"] Io Pw:=by kernel_rfl
theorem iW:Yp "_law_cell_at" ["_law_script","_law_k"] Im Pv:=by kernel_rfl
theorem iV:Yp "_law_state" ["_law_script","_law_k","_law_cell"] Il Pu:=by kernel_rfl
theorem iU:Yp "_law_take" ["_law_state_here","_law_many","_law_found","_law_mixed"] Ik Pt:=by kernel_rfl
theorem iT:Yp "_law_settings" ["_law_switches","_law_found","_law_number"] Ij M8:=by kernel_rfl
theorem iS:Yp "_law_singles" ["_law_switches","_law_found","_law_switch","_law_on"] Ii Pp:=by kernel_rfl
theorem iR:Yp "_law_number_of" ["_law_function","_law_found","_law_bit"] Ih Po:=by kernel_rfl
theorem iQ:Yp "_law_levels" ["_law_switches","_law_rows","_law_known","_law_many","_law_fresh","_law_few","_law_one","_law_other","_law_found"] Ig Pk:=by kernel_rfl
theorem iP:Yp "_law_fewest" ["_law_rows","_law_function","_law_number"] Ie Ph:=by kernel_rfl
theorem iO:Yp "_law_some_function" ["_law_state_here","_law_switches"] Ic Pg:=by kernel_rfl
theorem iN:Yp "_law_is_function" ["_law_switches","_law_thing"] Ib Pf:=by kernel_rfl
theorem iM:Yp "_law_is_list" ["_law_switches","_law_thing"] Ia Pd:=by kernel_rfl
theorem iL:Yp "_law_has_all" ["_law_there","_law_one","_law_other","_law_first","_law_second"] H7 Pb:=by kernel_rfl
theorem iK:Yp "_law_is_paper" ["_law_switches","_law_function","_law_thing","_law_rows","_law_marks","_law_at","_law_row","_law_few"] HZ O6:=by kernel_rfl
theorem CP:Xp ["_law_script","_law_k","_law_state_here","_law_switches","_law_rows","_law_function","_law_turn","_law_found","_law_row","_law_numbers","_law_great"] ["_law_script"] (Zi R3)=Z7:=by decide +kernel
theorem CN:Yp "law" ["_law_script","_law_k","_law_state_here","_law_switches","_law_rows","_law_function","_law_turn","_law_found","_law_row","_law_numbers","_law_great"] R3 OY:=by kernel_rfl
theorem iJ(a:yA)(h:a.length<=63):∃S',Yh tbl 40 "law" [.rol (a.map D.int)] [.tb Zw]=.ok (.bl Z7) S':=jr (hk (by kernel_rfl)) ⟨hk (by kernel_rfl),hk (by kernel_rfl),hk (by kernel_rfl),hk (by kernel_rfl),hk (by kernel_rfl),⟨⟨⟨⟨Dc,Da,C9,C8,C7,C6,C5⟩,C0,CZ,C2,C1⟩,C3,CY,CW,CV,CU,CQ⟩,hk (by kernel_rfl),hk (by kernel_rfl)⟩,⟨⟨⟨⟨Dc,Da,C9,C8,C7,C6,C5⟩,C0,CZ,C2,C1⟩,C3,CY,CW,CV,CU,CQ⟩,hk (by kernel_rfl),hk (by kernel_rfl)⟩,⟨⟨hk (by kernel_rfl),hk (by kernel_rfl),hk (by kernel_rfl),hk (by kernel_rfl)⟩,hk (by kernel_rfl),hk (by kernel_rfl),hk (by kernel_rfl),hk (by kernel_rfl)⟩⟩ 31 a
def DF(K:yQ)(n:Str)(st:vK):Prop:=∃(f:yR) (c h:Option yR) (d:Array (yF)) (i kV g b a e:yU),gA K y9 n=Z9 (Z9 (.ref f))/\K.lookup f=Z9 ⟨i,c,.func (gI n n (UI st) (Xk st) (Zi st) .none kV g b h a e),d⟩/\mZ K a n=Z7/\lS K (.ref f)=Z7
theorem mkDF{K:yQ}{n:Str}{st:vK}{f:yR}{e j:Option yR}{g:Array (yF)}{m kV i d b h:yU}(a:gA K y9 n=Z9 (Z9 (.ref f)))(l:K.lookup f=Z9 ⟨m,e,.func (gI n n (UI st) (Xk st) (Zi st) .none kV i d j b h),g⟩)(c:mZ K b n=Z7)(k:lS K (.ref f)=Z7):DF K n st:=⟨f,e,j,g,m,kV,i,d,b,h,a,l,c,k⟩
theorem DF.in{K:yQ}{h:jE}{m:Str->yF}{n:Str}{st:vK}(d:DF K n st)(X:K.In h)(G:h.Ns y9 m):∃(f:yR) (kV i b:yU) (j:Option yR) (e g:yU),m n=Z9 (.ref f)/\WZ K n n st f (gI n n (UI st) (Xk st) (Zi st) .none kV i b j e g):=by obtain⟨f,o,j,p,q,kV,i,b,e,g,a,l,c,k⟩:=d;exact⟨f,kV,i,b,j,e,g,W.mg_of X G a,Ae l c k⟩
def ZN(K:yQ):yH->Prop
 |[]=>True
 |x::r=>gA K y9 x=Z9 Z8/\ZN K r
theorem ZN.none{K:yQ}{h:jE}{a:Str->yF}(X:K.In h)(G:h.Ns y9 a):∀{l:yH},ZN K l->Nx a l
 |[],_=>True.intro
 |_::_,z=>⟨W.mg_none_of X G z.1,z.2.none X G⟩
def BP(st:vK)(n:Str)(ps:yH)(kV b d:yU)(f:Option yR)(a e:yU)(c:yB):Prop:=bindArgs (gI n n (UI st) (Xk st) (Zi st) .none kV b d f a e) ⟨c,[]⟩=pure (ps.zip c)
def BF(st:vK)(n:Str)(ps:yH):Prop:=∀(kV b d:yU) (f:Option yR) (a e:yU) (c:yB),c.length=ps.length->BP st n ps kV b d f a e c
theorem Yo{K:yQ}{h:jE}{c:Str->yF}{ar:Str->yK}{x:Str}{st:vK}{N ps:yH}{a np nN:Nat}{b:ZQ->CS}(d:DF K x st)(X:K.In h)(G:h.Ns y9 c)(f:BF st x ps)(g:Xp N ps (Zi st)=Z7)
  (e:(λcl:ZQ=>cSts ar cl a ⟨N,(Zi st).names,Z9 x⟩ (Xk st))=λcl=>Z9 (b cl)) (i:ps.length=np:=by rfl) (j:N.length=nN:=by rfl):Sv K c ar x (np,nN,b):=by obtain⟨_,_,_,_,_,_,_,m,F⟩:=d.in X G;exact qA F m (F.binds (ps:=ps) f) g e i j
theorem Mv{n:Nat}:∀b:yB,b.length=n+1->∃a r,b=a::r/\r.length=n
 |a::r,h=>⟨a,r,rfl,Nat.succ.inj h⟩
theorem iI{P:yB->Prop}(h:P [])(us:yB)(a:us.length=0):P us:=by rw[List.eq_nil_of_length_eq_zero a];exact h
theorem CM{P:yB->Prop}(h:∀b:yU,P [b])(us:yB)(c:us.length=1):P us:=by obtain⟨a,r,rfl,d⟩:=Mv us c;exact iI (P:=λr=>P (a::r)) (h a) r d
theorem CL{P:yB->Prop}(h:∀b c:yU,P [b,c])(us:yB)(d:us.length=2):P us:=by obtain⟨a,r,rfl,e⟩:=Mv us d;exact CM (P:=λr=>P (a::r)) (h a) r e
theorem CK{P:yB->Prop}(h:∀b c d:yU,P [b,c,d])(us:yB)(e:us.length=3):P us:=by obtain⟨a,r,rfl,f⟩:=Mv us e;exact CL (P:=λr=>P (a::r)) (h a) r f
theorem iH{P:yB->Prop}(h:∀b d e c:yU,P [b,d,e,c])(us:yB)(f:us.length=4):P us:=by obtain⟨a,r,rfl,g⟩:=Mv us f;exact CK (P:=λr=>P (a::r)) (h a) r g
theorem Wv {st n a}(h:∀c d p e f g b,BP st n [a] c d p e f g [b]):BF st n [a]:=λc d p e f g=>CM (P:=BP st n [a] c d p e f g) (h c d p e f g)
theorem Wp {st n a b}(h:∀c d p e f g i j,BP st n [a,b] c d p e f g [i,j]):BF st n [a,b]:=λc d p e f g=>CL (P:=BP st n [a,b] c d p e f g) (h c d p e f g)
theorem CJ {st n a b i}(h:∀c d p e f g k l j,BP st n [a,b,i] c d p e f g [k,l,j]):BF st n [a,b,i]:=λc d p e f g=>CK (P:=BP st n [a,b,i] c d p e f g) (h c d p e f g)
theorem iG {st n a i j b}(h:∀c d p e f g m o k l,BP st n [a,i,j,b] c d p e f g [m,o,k,l]):BF st n [a,i,j,b]:=λc d p e f g=>iH (P:=BP st n [a,i,j,b] c d p e f g) (h c d p e f g)
theorem iF:BF IP "settings" ["switches"]:=Wv λ_ _ _ _ _ _ _=>rfl
theorem iE:BF IM "is_shut" ["contact","setting"]:=Wp λ_ _ _ _ _ _ _ _=>rfl
theorem iD:BF IL "places_from" ["start","contacts"]:=Wp λ_ _ _ _ _ _ _ _=>rfl
theorem iC:BF IK "joins" ["contacts"]:=Wv λ_ _ _ _ _ _ _=>rfl
theorem iB:BF IJ "shut_contacts" ["net","setting"]:=Wp λ_ _ _ _ _ _ _ _=>rfl
theorem iA:BF II "lets" ["net","setting"]:=Wp λ_ _ _ _ _ _ _ _=>rfl
theorem iz:BF IH "function_of" ["net"]:=Wv λ_ _ _ _ _ _ _=>rfl
theorem iy:BF IG "switches_of" ["function"]:=Wv λ_ _ _ _ _ _ _=>rfl
theorem iw:BF IF "where_both" ["one","other"]:=Wp λ_ _ _ _ _ _ _ _=>rfl
theorem iu:BF IE "where_either" ["one","other"]:=Wp λ_ _ _ _ _ _ _ _=>rfl
theorem ir:BF ID "lone_net" ["switches","tree"]:=Wp λ_ _ _ _ _ _ _ _=>rfl
theorem iq:BF IC "tree_function" ["switches","tree"]:=Wp λ_ _ _ _ _ _ _ _=>rfl
theorem ij:BF Iz "number_of" ["function"]:=Wv λ_ _ _ _ _ _ _=>rfl
theorem ie:BF Iy "function_with" ["number","size"]:=Wp λ_ _ _ _ _ _ _ _=>rfl
theorem ic:BF Iw "first_level" ["switches"]:=Wv λ_ _ _ _ _ _ _=>rfl
theorem h9:BF Iv "add_made" ["level","one","other","known"]:=iG λ_ _ _ _ _ _ _ _ _ _=>rfl
theorem hZ:BF Iu "further_level" ["levels"]:=Wv λ_ _ _ _ _ _ _=>rfl
theorem hX:BF Ir "levels_to" ["function"]:=Wv λ_ _ _ _ _ _ _=>rfl
theorem hU:BF Iq "paper_of" ["function"]:=Wv λ_ _ _ _ _ _ _=>rfl
theorem hS:BF Ip "how_many_functions" ["switches"]:=Wv λ_ _ _ _ _ _ _=>rfl
theorem hO:BF Io "fewest_many" ["switches"]:=Wv λ_ _ _ _ _ _ _=>rfl
theorem hJ:BF Im "_law_cell_at" ["_law_script","_law_k"]:=Wp λ_ _ _ _ _ _ _ _=>rfl
theorem hI:BF Il "_law_state" ["_law_script","_law_k"]:=Wp λ_ _ _ _ _ _ _ _=>rfl
theorem hG:BF Ik "_law_take" ["_law_state_here","_law_many"]:=Wp λ_ _ _ _ _ _ _ _=>rfl
theorem g0:BF Ij "_law_settings" ["_law_switches"]:=Wv λ_ _ _ _ _ _ _=>rfl
theorem gY:BF Ii "_law_singles" ["_law_switches"]:=Wv λ_ _ _ _ _ _ _=>rfl
theorem gX:BF Ih "_law_number_of" ["_law_function"]:=Wv λ_ _ _ _ _ _ _=>rfl
theorem gz:BF Ig "_law_levels" ["_law_switches"]:=Wv λ_ _ _ _ _ _ _=>rfl
theorem gy:BF Ie "_law_fewest" ["_law_rows","_law_function"]:=Wp λ_ _ _ _ _ _ _ _=>rfl
theorem gw:BF Ic "_law_some_function" ["_law_state_here","_law_switches"]:=Wp λ_ _ _ _ _ _ _ _=>rfl
theorem gv:BF Ib "_law_is_function" ["_law_switches","_law_thing"]:=Wp λ_ _ _ _ _ _ _ _=>rfl
theorem gu:BF Ia "_law_is_list" ["_law_switches","_law_thing"]:=Wp λ_ _ _ _ _ _ _ _=>rfl
theorem gq:BF H7 "_law_has_all" ["_law_there","_law_one","_law_other"]:=CJ λ_ _ _ _ _ _ _ _ _=>rfl
theorem gp:BF HZ "_law_is_paper" ["_law_switches","_law_function","_law_thing"]:=CJ λ_ _ _ _ _ _ _ _ _=>rfl
theorem gm:BF R3 "law" ["_law_script"]:=Wv λ_ _ _ _ _ _ _=>rfl
theorem gk:BF OL "_law_refused" ["_law_call"]:=Wv λ_ _ _ _ _ _ _=>rfl
theorem gj:Xp ["_law_call","_law_error","e","_law_sorts"] ["_law_call"] (Zi OL)=Z7:=by decide +kernel
theorem gh:cSts (λ_=>Z8) (λ_ _ _=>.bad) 60 ⟨["_law_call","_law_error","e","_law_sorts"],(Zi OL).names,Z9 "_law_refused"⟩ ((Xk OL).drop 2)=Z9 V5:=by kernel_rfl
theorem all_mk{l:W.OpenLaw}{w:jD}{K:yQ}{h:jE}{a:Str->yF}{fa c T C:yR}(X:K.In h)(G:h.Ns y9 a)(q:a "law"=Z9 (.ref fa))(Q:fI K Zw=Z9 (c,T))
  (d1:DF K "settings" IP) (d2:DF K "is_shut" IM) (d3:DF K "places_from" IL) (d4:DF K "joins" IK) (d5:DF K "shut_contacts" IJ) (d6:DF K "lets" II) (d7:DF K "function_of" IH) (d8:DF K "switches_of" IG) (d9:DF K "where_both" IF) (R:DF K "where_either" IE) (j:DF K "lone_net" ID) (N:DF K "tree_function" IC) (Z:DF K "number_of" Iz) (n:DF K "function_with" Iy) (d15:DF K "first_level" Iw) (O:DF K "add_made" Iv) (J:DF K "further_level" Iu) (U:DF K "levels_to" Ir) (E:DF K "paper_of" Iq) (B:DF K "how_many_functions" Ip) (i:DF K "fewest_many" Io) (P:DF K "_law_cell_at" Im) (d23:DF K "_law_state" Il) (f:DF K "_law_take" Ik) (d:DF K "_law_settings" Ij) (V:DF K "_law_singles" Ii) (I:DF K "_law_number_of" Ih) (M:DF K "_law_levels" Ig) (D:DF K "_law_fewest" Ie) (u:DF K "_law_some_function" Ic) (o:DF K "_law_is_function" Ib) (r:DF K "_law_is_list" Ia) (Y:DF K "_law_has_all" H7) (S:DF K "_law_is_paper" HZ) (b:DF K "law" R3) (dt:DF K "_law_refused" OL) (z:ZN K Qa) (xk:Us K=Z7) (xs:Sq K=Z7) (xg:gA K y9 "NetError"=Z9 (Z9 (.ref C))) (xn:JU K C=Z7) (xv:gA K y9 "ValueError"=Z9 Z8)
  : ∃fd:jW,(∀(s:yS) (v:yU),mX s fd ⟨[v],[]⟩ [("_law_script",v)])/\∀base:jE,K.In base->base.Ns y9 a->fM base c T->base.BuiltinsAt a T->y9≠T->XZ l.prog w K a base (W3 l.prog w) (3*40) fa fd ["_law_script"] (Ny K):=by obtain⟨_,kV,dc,pm,an,cd,ct,m,F⟩:=b.in X G;have e:=q.symm.trans m;cases e;have A:Rf K a (TC tbl) tbl:=And.intro (Yo d1 X G iF (by decide +kernel) jq) (And.intro (Yo d2 X G iE (by decide +kernel) jn) (And.intro (Yo d3 X G iD (by decide +kernel) jm) (And.intro (Yo d4 X G iC (by decide +kernel) jk) (And.intro (Yo d5 X G iB (by decide +kernel) ji) (And.intro (Yo d6 X G iA (by decide +kernel) jh) (And.intro (Yo d7 X G iz (by decide +kernel) jg) (And.intro (Yo d8 X G iy (by decide +kernel) jf) (And.intro (Yo d9 X G iw (by decide +kernel) jd) (And.intro (Yo R X G iu (by decide +kernel) jc) (And.intro (Yo j X G ir (by decide +kernel) jb) (And.intro (Yo N X G iq (by decide +kernel) ja) (And.intro (Yo Z X G ij (by decide +kernel) i9) (And.intro (Yo n X G ie (by decide +kernel) i8) (And.intro (Yo d15 X G ic (by decide +kernel) i7) (And.intro (Yo O X G h9 (by decide +kernel) i6) (And.intro (Yo J X G hZ (by decide +kernel) i5) (And.intro (Yo U X G hX (by decide +kernel) i4) (And.intro (Yo E X G hU (by decide +kernel) iZ) (And.intro (Yo B X G hS (by decide +kernel) iY) (And.intro (Yo i X G hO (by decide +kernel) iX) (And.intro (Yo P X G hJ (by decide +kernel) iW) (And.intro (Yo d23 X G hI (by decide +kernel) iV) (And.intro (Yo f X G hG (by decide +kernel) iU) (And.intro (Yo d X G g0 (by decide +kernel) iT) (And.intro (Yo V X G gY (by decide +kernel) iS) (And.intro (Yo I X G gX (by decide +kernel) iR) (And.intro (Yo M X G gz (by decide +kernel) iQ) (And.intro (Yo D X G gy (by decide +kernel) iP) (And.intro (Yo u X G gw (by decide +kernel) iO) (And.intro (Yo o X G gv (by decide +kernel) iN) (And.intro (Yo r X G gu (by decide +kernel) iM) (And.intro (Yo Y X G gq (by decide +kernel) iL) (And.intro (Yo S X G gp (by decide +kernel) iK) (And.intro (Yo b X G gm CP CN) (True.intro)))))))))))))))))))))))))))))))))));obtain⟨_,_,_,_,_,_,_,mt,Ft⟩:=dt.in X G;have hR:∀base,Vv l.prog w K a base:=λbase=>pU (c := "_law_call") (y := "_law_error") (en := "e") (g := "NetError") (more:=["_law_sorts"]) X G Ft mt (Ft.binds (ps:=["_law_call"]) gk) rfl gj rfl (by decide +kernel) (by decide +kernel) xg (by decide +kernel) xk xs xn xv ⟨λy H _=>(z.none X G).mem y H⟩ gh;refine⟨gI "law" "law" (UI R3) (Xk R3) (Zi R3) .none kV dc pm an cd ct,λs v=>.of_eq rfl,λbase kb nb hc hb k=>?_⟩;exact qE (L:=39) (λx p e=>A.look x p e) ⟨λy H _=>(z.none X G).mem y H⟩ (Ez X G xs) (qD kb nb Q hc hb k) (λt ws ht=>by unfold SE at ht;cases ht) m (hR base) (by kernel_rfl) F CP rfl (λcl=>congrFun CN cl) (λns h=>iJ ns h)
end My
open PySem PySem.W PyProof.Rows
namespace PySem.W.Fast
theorem tw15766347597709547085:True:=trivial
theorem tw9627051831438001358:True:=trivial
theorem tw6577398247496775234:True:=trivial
theorem tw7807488468520685926:True:=trivial
theorem tw12669210577215022771:True:=trivial
theorem tw5878951581778423509:True:=trivial
theorem tw14562960114892836716:True:=trivial
theorem tw429374397001882252:True:=trivial
theorem tw16352404788957215913:True:=trivial
theorem tw18281285674676240631:True:=trivial
theorem tw12512794848741980482:True:=trivial
theorem tw855264043897505072:True:=trivial
theorem tw13427680336757811923:True:=trivial
theorem tw403363761200400608:True:=trivial
theorem tw3824353959122950517:True:=trivial
theorem tw13839599932223742671:True:=trivial
theorem tw1970145370621223604:True:=trivial
theorem tw11532870024441954802:True:=trivial
theorem tw2627927858452154517:True:=trivial
theorem tw15585035972948073840:True:=trivial
theorem tw12784569746863159731:True:=trivial
theorem tw4625234277804624438:True:=trivial
theorem tw7214671753326110886:True:=trivial
theorem tw8567411684572509802:True:=trivial
theorem tw194618529724245781:True:=trivial
theorem tw15833133626973798229:True:=trivial
theorem tw9859639777682387429:True:=trivial
theorem tw4574852985799845045:True:=trivial
theorem tw8465878643043685601:True:=trivial
theorem tw10880708913177907852:True:=trivial
theorem tw7098660416040701735:True:=trivial
theorem tw9592106831790890832:True:=trivial
theorem tw3757907569476150062:True:=trivial
theorem tw712920560434665004:True:=trivial
theorem tw11386823483493362074:True:=trivial
theorem tw1810047529933207764:True:=trivial
theorem tw13257950580173100011:True:=trivial
theorem tw10463842972450804634:True:=trivial
theorem tw13688035116224937807:True:=trivial
theorem tw15769950812823449679:True:=trivial
theorem tw17954584118609143602:True:=trivial
theorem tw9340402304633659985:True:=trivial
theorem tw16540185434807458021:True:=trivial
theorem tw1249932405737049423:True:=trivial
theorem tw13940975466282524886:True:=trivial
theorem tw9187123996660112068:True:=trivial
theorem tw16127221245193659849:True:=trivial
theorem tw10534694991244449087:True:=trivial
theorem tw15735545278477247491:True:=trivial
theorem tw13339990026613480388:True:=trivial
theorem tw8718455318010533416:True:=trivial
theorem tw9644538951931313386:True:=trivial
theorem tw671756010428784341:True:=trivial
theorem tw13399924525645689154:True:=trivial
theorem tw15030807980966951786:True:=trivial
theorem tw4944170925084289692:True:=trivial
theorem tw9979188943851722931:True:=trivial
theorem tw15562491185001177987:True:=trivial
theorem tw14543752235442555067:True:=trivial
theorem tw8466412599348661967:True:=trivial
theorem tw6073273179777272033:True:=trivial
theorem tw5044558214543764881:True:=trivial
theorem tw1806689719456142677:True:=trivial
theorem tw13093565575826769547:True:=trivial
theorem tw18065129828974562513:True:=trivial
theorem tw13023908155354480629:True:=trivial
theorem tw16077114229763272862:True:=trivial
theorem tw10153800152450952917:True:=trivial
theorem tw8382579472127975144:True:=trivial
theorem tw2431042248158647357:True:=trivial
theorem tw3901481134963016065:True:=trivial
theorem tw487025640913472022:True:=trivial
theorem tw6960154180300534356:True:=trivial
theorem tw10008128697709676629:True:=trivial
theorem tw4274225707998993262:True:=trivial
theorem tw15317796777643633509:True:=trivial
theorem tw13993328122870221561:True:=trivial
theorem tw18253157489668117106:True:=trivial
theorem tw11756345462533000583:True:=trivial
theorem tw15261583019060086954:True:=trivial
theorem tw2136369675464630358:True:=trivial
theorem tw14519091667233299477:True:=trivial
theorem tw12897926628362848166:True:=trivial
theorem tw6443789931490182260:True:=trivial
theorem tw12293038681562217704:True:=trivial
theorem tw5737793143495301468:True:=trivial
theorem tw10964044475157243576:True:=trivial
theorem tw17890925627795076238:True:=trivial
theorem tw16179889771921393892:True:=trivial
theorem tw7019254484219915063:True:=trivial
theorem tw18236847549148753889:True:=trivial
theorem tw6767514712164796263:True:=trivial
theorem tw18313172248990683235:True:=trivial
theorem tw11063324649981139549:True:=trivial
theorem tw8877667395163544785:True:=trivial
theorem tw12291477734676595570:True:=trivial
theorem tw8969367636840696562:True:=trivial
theorem tw17831509552737118776:True:=trivial
theorem tw7233995650723582795:True:=trivial
theorem tw15597066634779031299:True:=trivial
theorem tw12917132583821662531:True:=trivial
theorem tw2439586994622777570:True:=trivial
theorem tw15481597919801859519:True:=trivial
theorem tw4680945627029009570:True:=trivial
theorem tw8280625349825186484:True:=trivial
theorem tw17708838298156820595:True:=trivial
theorem tw11147727135926657870:True:=trivial
theorem tw5624914264830242178:True:=trivial
theorem tw14242559520969640127:True:=trivial
theorem tw3744753855308791667:True:=trivial
theorem tw2012670453562851070:True:=trivial
theorem tw13699553023811969715:True:=trivial
theorem tw3034536399362931310:True:=trivial
theorem tw1526185622717088607:True:=trivial
theorem tw5679873042426225424:True:=trivial
theorem tw4745074012236860982:True:=trivial
theorem tw3847387180567688475:True:=trivial
theorem tw2193736552980369502:True:=trivial
theorem tw13487416422217871354:True:=trivial
theorem tw10963724483516123594:True:=trivial
theorem tw10170218379070514289:True:=trivial
theorem tw5133504469790568265:True:=trivial
theorem tw1534519655173195613:True:=trivial
theorem tw2262944740570276299:True:=trivial
theorem tw11124387221366535888:True:=trivial
theorem tw17101973343937663209:True:=trivial
theorem tw3587317254653748848:True:=trivial
theorem tw2013554187844533461:True:=trivial
theorem tw9032188334690388903:True:=trivial
theorem tw240080224650647845:True:=trivial
theorem tw16103646092702311699:True:=trivial
theorem tw9707382495625186576:True:=trivial
theorem tw15881007300564880661:True:=trivial
theorem tw14545547697814834267:True:=trivial
theorem tw4972360308240465826:True:=trivial
theorem tw4273120048470702549:True:=trivial
theorem tw14977555142870179907:True:=trivial
theorem tw13521776066333842676:True:=trivial
theorem tw13141884264173576990:True:=trivial
theorem tw10296913567728717538:True:=trivial
theorem tw8428345182963474863:True:=trivial
theorem tw8306392992962909340:True:=trivial
theorem tw17746700664423135660:True:=trivial
theorem tw17816619886966273685:True:=trivial
theorem tw8801398622481877263:True:=trivial
theorem tw15843015931716235469:True:=trivial
theorem tw9102429060008817342:True:=trivial
theorem tw12652672295400395527:True:=trivial
theorem tw73583986589267889:True:=trivial
theorem tw10398984088805816986:True:=trivial
theorem tw2869600893893290410:True:=trivial
theorem tw17871242161634982726:True:=trivial
theorem tw15242244746471808870:True:=trivial
theorem tw14727242152219855793:True:=trivial
theorem tw5288294291383042523:True:=trivial
theorem tw18145240781878263429:True:=trivial
theorem tw18068911955321765502:True:=trivial
theorem tw16687318837631395906:True:=trivial
theorem tw13967638395012441153:True:=trivial
theorem tw12103795208705058648:True:=trivial
theorem tw7723080420896573507:True:=trivial
theorem tw6679091498253189309:True:=trivial
theorem tw4888909407361243140:True:=trivial
theorem tw462846691358781276:True:=trivial
theorem tw10277647307296818287:True:=trivial
theorem tw13432744860827704393:True:=trivial
theorem tw17573916751609790797:True:=trivial
theorem tw7604698534651159141:True:=trivial
theorem tw7279034648350211802:True:=trivial
theorem tw3995017944769784001:True:=trivial
theorem tw3559314590464739339:True:=trivial
theorem tw3505714756344173610:True:=trivial
theorem tw3263101390471410151:True:=trivial
theorem tw3241731591449155920:True:=trivial
theorem tw2425115294543506351:True:=trivial
theorem tw2420054632770356285:True:=trivial
theorem tw2347475106045406563:True:=trivial
theorem tw2210399523939739489:True:=trivial
theorem tw1980165747126601298:True:=trivial
theorem tw18292725375751863688:True:=trivial
theorem tw18192013372958330459:True:=trivial
theorem tw18173083259366217475:True:=trivial
theorem tw1788458321380371462:True:=trivial
theorem tw17127095570071283232:True:=trivial
theorem tw17099543717231138404:True:=trivial
theorem tw16969084841823338056:True:=trivial
theorem tw16620509272224100938:True:=trivial
theorem tw16066248759652017171:True:=trivial
theorem tw15853178398815723528:True:=trivial
theorem tw14696058964429666552:True:=trivial
theorem tw14383208886698800626:True:=trivial
theorem tw14327152452531208154:True:=trivial
theorem tw13535583469368883821:True:=trivial
theorem tw134804874128160290:True:=trivial
theorem tw12971611188050298590:True:=trivial
theorem tw12925696841836140178:True:=trivial
theorem tw11959341098153558234:True:=trivial
theorem tw11842415635869848112:True:=trivial
theorem tw10459853924540241244:True:=trivial
theorem tw1447428414436945630:True:=trivial
theorem tw1410816640800008743:True:=trivial
theorem tw10878014473553592949:True:=trivial
theorem tw876692892628988044:True:=trivial
theorem tw17799887827452063118:True:=trivial
theorem tw98549503311884966:True:=trivial
theorem tw15040135621044811519:True:=trivial
theorem tw15028836649413067433:True:=trivial
theorem tw9409766094668373755:True:=trivial
theorem tw2369032502084600484:True:=trivial
theorem tw16536711148549973710:True:=trivial
theorem tw18211885703244747892:True:=trivial
theorem tw13473276541445379356:True:=trivial
theorem tw6052446902119064377:True:=trivial
theorem tw5024487784972511766:True:=trivial
theorem tw8768272058829098557:True:=trivial
theorem tw7981213882160680611:True:=trivial
theorem tw6859015431614790011:True:=trivial
theorem tw3458133064374927096:True:=trivial
theorem tw15798030454481064374:True:=trivial
theorem tw13969785208391279808:True:=trivial
theorem tw12587247808813877202:True:=trivial
theorem tw5037255471948194660:True:=trivial
theorem tw9536481776473023578:True:=trivial
theorem tw11596789301377873230:True:=trivial
theorem tw4284153335646532549:True:=trivial
theorem tw4222959923989193091:True:=trivial
theorem tw1758704542283878859:True:=trivial
theorem tw16152405011901465108:True:=trivial
theorem tw15769635649928976231:True:=trivial
end PySem.W.Fast
set_option maxRecDepth 100000 in
set_option maxHeartbeats 0 in
theorem PySem.Challenge.cw_contactnets_k53_papers_told_holds : PySem.Challenge.rw_contactnets_k53_papers_told.Holds := by
 w_on; o_law; k_head; (case hw=>w_witness2)
 k_fill
 refine L2.walk_evS (L:=3*40) (l:=PySem.Challenge.rw_contactnets_k53_papers_told) rfl rfl ⟨rfl,by decide,by decide,rfl⟩ (fun w h Y=>PySem.W.km_in_of Y) ?R ?T ?F
 case R=>decide +kernel
 case T =>
  intro w
  kernel_rfl
 case F =>
  intro w mg fa c T h KX G hmg tab
  refine' My.all_mk KX G hmg tab (My.mkDF ?a1 ?l1 ?c1 ?k1) (My.mkDF ?a2 ?l2 ?c2 ?k2) (My.mkDF ?a3 ?l3 ?c3 ?k3) (My.mkDF ?a4 ?l4 ?c4 ?k4) (My.mkDF ?a5 ?l5 ?c5 ?k5) (My.mkDF ?a6 ?l6 ?c6 ?k6) (My.mkDF ?a7 ?l7 ?c7 ?k7) (My.mkDF ?a8 ?l8 ?c8 ?k8) (My.mkDF ?a9 ?l9 ?c9 ?k9) (My.mkDF ?a10 ?l10 ?c10 ?k10) (My.mkDF ?a11 ?l11 ?c11 ?k11) (My.mkDF ?a12 ?l12 ?c12 ?k12) (My.mkDF ?a13 ?l13 ?c13 ?k13) (My.mkDF ?a14 ?l14 ?c14 ?k14) (My.mkDF ?a15 ?l15 ?c15 ?k15) (My.mkDF ?a16 ?l16 ?c16 ?k16) (My.mkDF ?a17 ?l17 ?c17 ?k17) (My.mkDF ?a18 ?l18 ?c18 ?k18) (My.mkDF ?a19 ?l19 ?c19 ?k19) (My.mkDF ?a20 ?l20 ?c20 ?k20) (My.mkDF ?a21 ?l21 ?c21 ?k21) (My.mkDF ?a22 ?l22 ?c22 ?k22) (My.mkDF ?a23 ?l23 ?c23 ?k23) (My.mkDF ?a24 ?l24 ?c24 ?k24) (My.mkDF ?a25 ?l25 ?c25 ?k25) (My.mkDF ?a26 ?l26 ?c26 ?k26) (My.mkDF ?a27 ?l27 ?c27 ?k27) (My.mkDF ?a28 ?l28 ?c28 ?k28) (My.mkDF ?a29 ?l29 ?c29 ?k29) (My.mkDF ?a30 ?l30 ?c30 ?k30) (My.mkDF ?a31 ?l31 ?c31 ?k31) (My.mkDF ?a32 ?l32 ?c32 ?k32) (My.mkDF ?a33 ?l33 ?c33 ?k33) (My.mkDF ?a34 ?l34 ?c34 ?k34) (My.mkDF ?a35 ?l35 ?c35 ?k35) (My.mkDF ?ta ?tl ?tc ?tk) ⟨?z1,?z2,?z3,?z4,?z5,?z6,?z7,?z8,?z9,?z10,?z11,?z12,?z13,?z14,?z15,?z16,?z17,?z18,?z19,?z20,True.intro⟩ ?xk ?xs ?xg ?xn ?xv
  case a1=>k_is
  case l1=>k_is
  case c1=>k_is
  case k1=>k_is
  case a2=>k_is
  case l2=>k_is
  case c2=>k_is
  case k2=>k_is
  case a3=>k_is
  case l3=>k_is
  case c3=>k_is
  case k3=>k_is
  case a4=>k_is
  case l4=>k_is
  case c4=>k_is
  case k4=>k_is
  case a5=>k_is
  case l5=>k_is
  case c5=>k_is
  case k5=>k_is
  case a6=>k_is
  case l6=>k_is
  case c6=>k_is
  case k6=>k_is
  case a7=>k_is
  case l7=>k_is
  case c7=>k_is
  case k7=>k_is
  case a8=>k_is
  case l8=>k_is
  case c8=>k_is
  case k8=>k_is
  case a9=>k_is
  case l9=>k_is
  case c9=>k_is
  case k9=>k_is
  case a10=>k_is
  case l10=>k_is
  case c10=>k_is
  case k10=>k_is
  case a11=>k_is
  case l11=>k_is
  case c11=>k_is
  case k11=>k_is
  case a12=>k_is
  case l12=>k_is
  case c12=>k_is
  case k12=>k_is
  case a13=>k_is
  case l13=>k_is
  case c13=>k_is
  case k13=>k_is
  case a14=>k_is
  case l14=>k_is
  case c14=>k_is
  case k14=>k_is
  case a15=>k_is
  case l15=>k_is
  case c15=>k_is
  case k15=>k_is
  case a16=>k_is
  case l16=>k_is
  case c16=>k_is
  case k16=>k_is
  case a17=>k_is
  case l17=>k_is
  case c17=>k_is
  case k17=>k_is
  case a18=>k_is
  case l18=>k_is
  case c18=>k_is
  case k18=>k_is
  case a19=>k_is
  case l19=>k_is
  case c19=>k_is
  case k19=>k_is
  case a20=>k_is
  case l20=>k_is
  case c20=>k_is
  case k20=>k_is
  case a21=>k_is
  case l21=>k_is
  case c21=>k_is
  case k21=>k_is
  case a22=>k_is
  case l22=>k_is
  case c22=>k_is
  case k22=>k_is
  case a23=>k_is
  case l23=>k_is
  case c23=>k_is
  case k23=>k_is
  case a24=>k_is
  case l24=>k_is
  case c24=>k_is
  case k24=>k_is
  case a25=>k_is
  case l25=>k_is
  case c25=>k_is
  case k25=>k_is
  case a26=>k_is
  case l26=>k_is
  case c26=>k_is
  case k26=>k_is
  case a27=>k_is
  case l27=>k_is
  case c27=>k_is
  case k27=>k_is
  case a28=>k_is
  case l28=>k_is
  case c28=>k_is
  case k28=>k_is
  case a29=>k_is
  case l29=>k_is
  case c29=>k_is
  case k29=>k_is
  case a30=>k_is
  case l30=>k_is
  case c30=>k_is
  case k30=>k_is
  case a31=>k_is
  case l31=>k_is
  case c31=>k_is
  case k31=>k_is
  case a32=>k_is
  case l32=>k_is
  case c32=>k_is
  case k32=>k_is
  case a33=>k_is
  case l33=>k_is
  case c33=>k_is
  case k33=>k_is
  case a34=>k_is
  case l34=>k_is
  case c34=>k_is
  case k34=>k_is
  case a35=>k_is
  case l35=>k_is
  case c35=>k_is
  case k35=>k_is
  case ta=>k_is
  case tl=>k_is
  case tc=>k_is
  case tk=>k_is
  case z1=>k_is
  case z2=>k_is
  case z3=>k_is
  case z4=>k_is
  case z5=>k_is
  case z6=>k_is
  case z7=>k_is
  case z8=>k_is
  case z9=>k_is
  case z10=>k_is
  case z11=>k_is
  case z12=>k_is
  case z13=>k_is
  case z14=>k_is
  case z15=>k_is
  case z16=>k_is
  case z17=>k_is
  case z18=>k_is
  case z19=>k_is
  case z20=>k_is
  case xg=>k_is
  case xv=>k_is
  case xk=>kernel_rfl
  case xs=>kernel_rfl
  case xn=>kernel_rfl
