import PyProof.Rows.All
import Wide.All
import OpenK.AllK
import Wide.FinOn
import Lean
import PyProof.EqAt
import PyProof.EqKinds
import PyProof.TupleCall
import PySem.Challenge.RW_daysheet_k06_whole_moved_as_one
set_option Elab.async false
set_option linter.all false
set_option maxRecDepth 100000
set_option maxHeartbeats 4000000
open PySem renaming wpAny_bind→q8,PyData→j0,wpAny_pure→j3,starEach→j4,sizeLine→j5,mainGlobals→j6,wpAny_newObj_type→j7,SetTable→j8,wpAny_holding→j9,cellsFrom→k8,backTo→k9,wpAny_Call_Name_kw→v0,wpAny_mono→v6,rawInt→v7,wpAny_call_entry→v8,wpAny_setField_rec→v9,wpAny_callSpecial?_slot→wc,codeAny_builtin→we,wpAny_field→wf,wpAny_seqItems→wg,foldedSetIterable→wj,wpAny_truthy_bool→wl,bootBuiltins→wm,sizeLine_eq→wo,compareOp→wp,assignEach→wq,plainId_quiet→wt,keywordEach→wu,wpAny_rule→ww,codeAny→wx,codeAny_mono→wy,swapsWith→wz,FuncData→w5,wpAny_attempt→w9,IsPair→ya,wpAny_newFunctionEnv_cells→yb,wpAny_passesOwn→yc,NameKind→yd,attributeBase→ye,wpAny_standAt→yf,binaryOp→yg,pickOrder→yh,pyNext→yi,wpAny_askSetting→yj,wpAny_execs_cons→yk,backToKw→yo,firstArgMember→yq,sliceBounds→yr,wpAny_letGo→yt,wpAny_typeOf→yw,behindInMarks→yx,bindArgs→yy,wpAny_updateSeq→yz,seqItems?→y6,wpAny_of_eq→y7,newFunctionEnv→y9,wpAny_pyIter_list→ua,wpAny_tryCatch→ub,builtinLookup_eq_fast→ud,codeAny_call_function→ue,builtinsNs→uf,scanBound→ug,wpAny_call→uh,wpAny_isInstance→ui,wpAny_pyIter_zip→uj,swappedStores→uk,swapsWithSole→ul,wpAny_newList→um,codeAny_call_builtin→uo,wpAny_updateSeq_pair→uq,wpAny_execs_nil→ur,setNext→uu,TriplesOk→uv,recursionLimit→ux,setEntries→uy,wpAny_pyIter_tuple→uz,wpAny_Return_some→u5,wpAny_loadPart_at→u6,wpAny_onRaise→u7,checkBuiltinCall→u8,codeAmong→u9,noFill_tuple_add→QA,noteFrame→QB,call_meets→QD,closureFor→QE,concat_meets→QF,sysModules→QH,GenState→QI,ZipApart→QJ,boot_len→QK,compEnvC→QL,numAt_eq→QM,argBest→QO,callerA→QP,intKind→QQ,lastMarks→QR,pushCells→QS,IsPart→QT
open PyProof.Rows renaming seqObj→k7,listUpdate_at→w8,IntsAre→ym,envOfC→yn,get?_update_seq→yp,listItems_at→yu,AllBare→ut,assignInOrder_cons→uw,seqEpoch_at→u0,boot_tuple→QC,sortedHeap→QG,StrsAre→QN
open Option.some renaming inj→qA
open PySem.Heap renaming get?_push_of_some→qB,lt_size→qG,get?_push_size→qJ,get?_update_other→qX,size_push→jB,get?_update_self→jG,SameBut→kP,get?_none_of_le→zH,get?_update_ne→zN,size_update→vj
open PySem.W renaming Frag→qC,mg_none_of→qm,nsIn→jL,tabIn→jM,kia_one→jQ,fnOf→jk,codeHdIn→jl,keepIn→kB,cellsFrom_some→kK,subIn→kZ,kitOne→zS,hideAll_none→zX,mg_of→zi,callWith_K→zu,kla_fn→zy,findIn→zz,codeIn→vA,kla_obj→vO,hideAll→vP,tabObj→vh,hideAll_get→vm,of_hideAll→vo,codeRec_of→vp,methodObj→wD,kitx_list→wE
open List renaming mem_cons_of_mem→qD,length_map→qE,mem_cons→qF,mem_map→qH,size_toArray→qI,getElem?_eq_getElem→qK,map_map→qP,mem_singleton→qQ,mem_cons_self→qS,map_cons→qU,getElem?_map→qW,getElem?_eq_some_iff→qY,length_cons→qZ,getElem?_eq_none→qb,getD_eq_getElem?_getD→qd,mem_append_right→qe,pairwise_cons→qg,length_append→qh,range→qi,all_eq_true→qk,getElem?_set_ne→qo,getElem?_toArray→qp,pairwise_map→qr,mem_append→qu,mem_map_of_mem→qz,getElem?_append_left→jA,not_mem_nil→jC,length_singleton→jD,filter_cons_of_pos→jE,map_append→jS,ext_getElem?→jT,append_assoc→jU,getElem?_append_right→jV,mem_append_left→jW,length_take→jZ,getElem_mem→ja,reverse_cons→jd,filter_cons_of_neg→jh,append_nil→ji,map_congr_left→jq,flatten_cons→jt,foldl_cons→jx,lookup_cons→jy,nodup_append→kD,getElem?_take_of_lt→kF,getElem?_replicate→kH,getElem?_range→kI,take_of_length_le→kM,getElem?_set_self→kN,nodup_cons→kT,mem_filter→kU,length_range→kj,filter_congr→km,pairwise_append→ko,mem_range→kr,mem_flatten→ku,toList_toArray→ky,filterMap_cons→kz,getElem?_cons_succ→zK,all_cons→zL,getElem?_set→zR,replicate→zT,toArray→zU,mem_iff_getElem→zY,any_cons→zm,of_mem_zip→zn,nil_append→zo,filter_map→zp,map_inj_right→zw,lookup_append→zx,pairwise_iff_getElem→vB,pairwise_singleton→vI,pairwise_mergeSort→vJ,length_drop→vL,length_filter_le→vS,forIn_cons→vT,take_succ→vi,mergeSort_perm→vn,mem_filterMap→vt,getElem?_drop→vv,getD→vw,filterMap_map→vx,take_sublist→wF,eraseIdx_eq_take_drop_succ→wG,Nodup→wH,take_length→wQ,mem_reverse→wR,getElem_map→wS,ext_getElem→wT
open Bool renaming and_eq_true→qM,false_ne_true→qc,false_eq_true→jX,eq_iff_iff→ju,not_eq_true'→kG,noConfusion→zW,or_eq_true→vc,or_false→wA
open Array renaming length_toList→qN,getElem?_eq_getElem→jK,getElem?_toList→kX,perm_iff_toList_perm→zr,getElem?_eq_some_iff→zt,getD→vH,any_toList→vM,toList→wM,toList_inj→wU
open Option renaming map_eq_some_iff→qO
open Nat renaming le_refl→qR,lt_of_lt_of_le→qT,ne_of_lt→qa,le_trans→ql,le_of_lt→qv,lt_irrefl→jN,zero_le→jR,ne_of_gt→jc,lt_succ_of_lt→jp,le_succ→jw,lt_of_le_of_lt→kO,lt_succ_self→zV,not_lt_of_le→vK,zero_add→vR,lt_trans→wJ,not_lt_of_lt→wO,le_add_right→wP
open PySem.SeqAt renaming shaped→qV,canLay_of_shaped→kY
open PySem.SetTable renaming below→qf,grown→zI
open PySem renaming mem_of_lookup→qj,strKind→zc
open PySem.PyData renaming eqvAll→qt,eqv→jI,strOk→jP,int→jY,depth→jf,canLay0→jv,depthAll→kq,list→zj,str→vE,canLayAll0→vQ
open False renaming elim→qw
open PySem.Around renaming under_plainId→qx
open PySem.Obj renaming mapSeq→qy,data_mapFields→kn,isFreed_of_fields→vq
open PySem.Str renaming ofString→jF
open PySem.Value renaming none→jH,ref→jb,bool→je,type→vD,builtin→vd
open Int renaming toNat_natCast→jJ,le_refl→jj,le_of_lt→zF,le_trans→vU,le_antisymm→vV,emod_lt_of_pos→vy
open PySem.Builtin.SmallTypes renaming nextOf→jO,ownedTupleIsFree→kA,ownedTupleHandOut→wL
open Or renaming inr→jg,inl→kC
open Ne renaming symm→jm
open PySem.Builtin.List renaming listExtendWith→jo,listTooLong→va
open PySem.Heap.SameBut renaming update→jz
open PySem.PassesOwn renaming never→kJ
open PySem.NameKind renaming free→kQ,cell→vg
open PyProof.Rows renaming callWith_type1→kR,slot_tuple_getitem→zQ
open PySem.F renaming plain_max_loop→kW,slot_tuple_iterator_next→zG,plainAttrs_list→zJ,called_set→zO,type_list_append→vF,slot_list_append→vG,slot_list_getattribute→vW,slot_list_count→vX,plain_list_iadd→vY,slot_zip_next→vz
open PySem.Builtin.Slice renaming slicePlaces→zM,sliceAdjust→vN
open PySem.Builtin.Tuple renaming tupleExact→zP
open PySem.SetTable.below renaming go→zZ
open PySem.Challenge renaming rw_daysheet_k06_whole_moved_as_one→zq
open Classical renaming byContradiction→vC
open PySem.Calls renaming spliced_nil→vZ
open PySem.Shared renaming TypeIs→vf
open Sum renaming inr→vk
open True renaming intro→wB
open PySem.SeqAt.EqAt renaming bool_bool→wC
open Function renaming comp_def→wI
open PyProof.Rows.F renaming plain_set_update_loop→wK
open PySem.Spec renaming lookup→wN
open PySem in
abbrev T0a:=Value→Shared→Prop
open PySem in
abbrev T0b:=List (Addr×Obj)
open PySem in
abbrev T0d:=Str→Option Value
open PySem in
abbrev T0e:=List (Option Nat)
open PySem in
abbrev T0f:=List (Str×Addr)
open PySem in
abbrev T0i:=Option Addr
open PySem in
abbrev T0j:=List j0
open PySem in
abbrev T0k:=List Value
open PySem in
abbrev T0l:=List Expr
open PySem in
abbrev T0m:=List Addr
open PySem in
abbrev T0o:=List Str
open PySem in
abbrev T0q:=List Int
open PySem in
abbrev T0r:=List Nat
namespace L2
open PySem PySem.Spec PyProof.Rows
abbrev Key:=Sum Int Str
def a0Y:Key→Value→Bool
 | .inl k,v=>Value.isInt k v
 | .inr x,v=>Value.isStrOf x v
def c0d (w:World):Key→Int
 | .inl k=>hashInt k
 | .inr x=>hashStr w x
theorem cA:∀ {k:Key} {v:Value},a0Y k v=true→(∃ i t,k=Sum.inl i∧v=Value.int i t)∨(∃ x t,k=vk x∧v=Value.str x t)
 | .inl i,v,h=>by
  obtain ⟨t,e⟩:=Value.isInt_shape (k:=i) (v:=v) h;exact .inl ⟨i,t,rfl,e⟩
 | .inr x,v,h=>by
  obtain ⟨t,e⟩:=Value.isStrOf_shape (x:=x) (v:=v) h;exact .inr ⟨x,t,rfl,e⟩
theorem a8S (i:Int) (t:Tok):a0Y (.inl i) (.int i t)=true:=by simp [a0Y,Value.isInt]
theorem a8R (x:Str) (t:Tok):a0Y (.inr x) (.str x t)=true:=by simp [a0Y,Value.isStrOf]
theorem b7g (a b:Int):decide ((Sum.inl a:Key)=Sum.inl b)=(a==b):=by
 by_cases e:a=b
 ·subst e;simp
 ·have h:¬(Sum.inl a:Key)=Sum.inl b:=fun q=>e (Sum.inl.inj q)
  rw [decide_eq_false h];exact (beq_eq_false_iff_ne.mpr e).symm
theorem b7d (a b:Str):decide ((vk a:Key)=vk b)=decide (a=b):=by
 by_cases e:a=b
 ·subst e;simp
 ·have h:¬(vk a:Key)=vk b:=fun q=>e (Sum.inr.inj q)
  rw [decide_eq_false h,decide_eq_false e]
theorem b7f (a:Int) (b:Str):decide ((Sum.inl a:Key)=vk b)=false:=decide_eq_false (fun q=>nomatch q)
theorem b7e (a:Str) (b:Int):decide ((vk a:Key)=Sum.inl b)=false:=decide_eq_false (fun q=>nomatch q)
def gQ (prog:Program) (w:World):PySem.KeyKind prog w Key where
 is:=a0Y
 hash:=c0d w
 inj:=fun v a b ha hb=>by
  rcases cA ha with ⟨i,t,rfl,rfl⟩ | ⟨x,t,rfl,rfl⟩
  ·rcases cA hb with ⟨j,u,rfl,e⟩ | ⟨y,u,rfl,e⟩
   ·injection e with e1 _;rw [e1]
   ·exact nomatch e
  ·rcases cA hb with ⟨j,u,rfl,e⟩ | ⟨y,u,rfl,e⟩
   ·exact nomatch e
   ·injection e with e1 _;rw [e1]
 byValue:=fun k v h=>by
  rcases cA h with ⟨i,t,rfl,rfl⟩ | ⟨x,t,rfl,rfl⟩<;>rfl
 pyHash:=fun hv h=>by
  rcases cA hv with ⟨i,t,rfl,rfl⟩ | ⟨x,t,rfl,rfl⟩
  ·exact wpAny_pyHash_int h
  ·exact wpAny_pyHash_str h
 eqBool:=fun hu hv h=>by
  rcases cA hu with ⟨i,t,rfl,rfl⟩ | ⟨x,t,rfl,rfl⟩
  ·rcases cA hv with ⟨j,u,rfl,rfl⟩ | ⟨y,u,rfl,rfl⟩
   ·rw [b7g] at h;exact wpAny_eqBool_int h
   ·rw [b7f] at h;exact SeqAt.EqAt.int_str i t y u _ _ _ _ h
  ·rcases cA hv with ⟨j,u,rfl,rfl⟩ | ⟨y,u,rfl,rfl⟩
   ·rw [b7e] at h;exact SeqAt.EqAt.str_int x t j u _ _ _ _ h
   ·rw [b7d] at h;exact wpAny_eqBool_str h
 «strs»:=fun k x t v h=>by
  rcases cA h with ⟨i,u,rfl,e⟩ | ⟨y,u,rfl,e⟩
  ·exact nomatch e
  ·injection e with e1 _
   subst e1;cases v<;>rfl
theorem a4I (prog:Program) (w:World) (i:Int) (t:Tok):(gQ prog w).is (.inl i) (.int i t)=true:=a8S i t
theorem a4H (prog:Program) (w:World) (x:Str) (t:Tok):(gQ prog w).is (.inr x) (.str x t)=true:=a8R x t
inductive V where
 | non | bl (b:Bool) | int (i:Int) | str (x:Str) | byt (b:Array UInt8) | flt (b:UInt64) | ref (a:Addr) | ty (n:String)
 deriving DecidableEq
def RelV:V→Value→Prop
 | .non,u=>u=jH
 | .bl b,u=>u=je b
 | .int i,u=>∃ t,u=Value.int i t
 | .str x,u=>∃ t,u=Value.str x t
 | .byt b,u=>∃ t,u=Value.bytes b t
 | .flt b,u=>∃ t,u=Value.float b t
 | .ref a,u=>u=jb a
 | .ty n,u=>u=vD n
abbrev aY:List V→List Value→Prop:=Paired RelV
theorem aY.length {xs:List V} {us:T0k} (r:aY xs us):xs.length=us.length:=Paired.length r
theorem aY.get:∀ {xs:List V} {us:T0k} {i:Nat} {x:V},aY xs us→xs[i]?=some x→∃ u,us[i]?=some u∧RelV x u
 | _,_,_,_,.nil,e=>by simp at e
 | _,_,0,_,.cons r _,e=>by simp at e;subst e;exact ⟨_,rfl,r⟩
 | _,_,i+1,x,.cons _ t,e=>by
  obtain ⟨u,h1,h2⟩:=aY.get (i:=i) (x:=x) t (by simpa using e);exact ⟨u,by simpa using h1,h2⟩
theorem aY.set {x:V} {u:Value} (r:RelV x u):∀ {xs:List V} {us:T0k} (i:Nat),aY xs us→aY (xs.set i x) (us.set i u)
 | _,_,_,.nil=>.nil
 | _,_,0,.cons _ t=>.cons r t
 | _,_,i+1,.cons q t=>.cons q (aY.set r i t)
theorem aY.append:∀ {xs ys:List V} {us ws:T0k},aY xs us→aY ys ws→aY (xs++ys) (us++ws)
 | _,_,_,_,.nil,s=>s
 | _,_,_,_,.cons r t,s=>.cons r (aY.append t s)
theorem aY.take:∀ {xs:List V} {us:T0k} (n:Nat),aY xs us→aY (xs.take n) (us.take n)
 | _,_,0,_=>.nil
 | _,_,_+1,.nil=>.nil
 | _,_,n+1,.cons r t=>.cons r (aY.take n t)
theorem aY.drop:∀ {xs:List V} {us:T0k} (n:Nat),aY xs us→aY (xs.drop n) (us.drop n)
 | _,_,0,r=>r
 | _,_,_+1,.nil=>.nil
 | _,_,n+1,.cons _ t=>aY.drop n t
def b8d:Option V→Option Value→Prop
 | some v,some u=>RelV v u
 | none,none=>True
 | _,_=>False
def KV {κ:Type}:List (κ×V)→List (κ×Value)→Prop:=Paired fun (p:κ×V) (q:κ×Value)=>p.1=q.1∧RelV p.2 q.2
def kV:Key→V
 | .inl i=>.int i
 | .inr x=>.str x
inductive HO where
 | lst (xs:List V)
 | tup (xs:List V)
 | dK (kvs:List (Key×V)) | dT (kvs:List (List Key×V))
 | set (S:Int→Bool) (n:Nat)
 | ins (C dx:Addr) (fs:List (Str×V))
 | own (x:Addr)
 | xd (fs:List (Str×V))
 | met (f x:Addr)
 | rng (lo hi:Int)
 | frz (o:Obj) (u:HO)
 | tbl (ps:Str×Array Value)
 | ext (φ:Heap→Prop)
abbrev Hp:=Addr→Option HO
def upd (H:Hp) (a:Addr) (o:HO):Hp:=fun b=>if b=a then some o else H b
theorem aL {H:Hp} {a:Addr} {o:HO}:upd H a o a=some o:=by unfold upd;rw [if_pos rfl]
theorem aF {H:Hp} {a b:Addr} {o:HO} (h:b≠a):upd H a o b=H b:=by unfold upd;rw [if_neg h]
theorem fZ {H:Hp} {a b:Addr} {o u:HO} (h:H a=some o) (h':H b=some u) (d:o≠u):a≠b:=by
 intro e;subst e;rw [h] at h';exact d (qA h')
theorem aS {H:Hp} {a b:Addr} {o:HO} (h:H a=some o) (h':H b=none):a≠b:=by
 intro e;subst e;rw [h] at h';cases h'
section
variable (P:Program) (w:World)
def cW (H:Hp) (h:Heap) (a:Addr):HO→Prop
 | .lst xs=>xs.length≤j5∧∃ (its:T0k) (n:Nat),aY xs its∧h.get? a=some { cls:=.type "list", data:=.seq its.toArray n }
 | .tup xs=>xs.length≤j5∧∃ its:List Value,aY xs its∧IsTup h a its.toArray
 | .dK kvs=>kvs.length≤j5∧(a==QH)=false∧∃ vs,KV kvs vs∧h.DictOf (gQ P w) a vs
 | .dT kvs=>kvs.length≤j5∧(a==QH)=false∧∃ xs:List (List Key×Addr×Value),
   Paired (fun (p:List Key×V) (q:List Key×Addr×Value)=>p.1=q.1∧H q.2.1=some (.tup (p.1.map kV))∧RelV p.2 q.2.2) kvs xs ∧
   ∃ o es ep,h.get? a=some o∧o.ExactDict∧o.data=.dict es ep∧es.toList=xs.map (entryOfKey (tupleKind (gQ P w)))∧(xs.map (·.1)).Nodup
 | .set S n=>h.SetOf (QQ P w) a S n
 | .ins C dx fs=>H dx=some (.own a)∧fs.length≤1000∧dx≠a∧h.get? a=some (PySem.W.instObj C dx) ∧
   ∃ mA,h.Ns1 dx mA∧(∀ f,b8d (fs.lookup f) (mA f))∧PySem.Within mA (fs.map (·.1))
 | .own _=>∃ o,h.get? a=some o
 | .xd fs=>∃ mA,h.Ns1 a mA∧∀ f,b8d (fs.lookup f) (mA f)
 | .rng lo hi=>∃ t u v,h.get? a=some { cls:=.type "range", data:=.fields #[.int lo t,.int hi u,.int 1 v] }
 | .frz o u=>h.get? a=some o∧cW H h a u
 | .tbl ps=>h.get? a=some { cls:=.none,data:=.fields ps.2 }
 | .met f x=>h.get? a=some (wD (.ref f) (.ref x))
 | .ext φ=>φ h∧(∃ o,h.get? a=some o)∧∀ h1 h2:Heap,φ h1→(∀ o,h1.get? a=some o→h2.get? a=some o)→φ h2
def HOk (H:Hp) (h:Heap):Prop:=∀ a o,H a=some o→cW P w H h a o
end
section
variable {P:Program} {w:World} {H H':Hp} {h h':Heap} {a:Addr} {o:HO}
theorem cW.lt (x:cW P w H h a o):a<h.objs.size:=by
 cases o with
 | lst xs=>obtain ⟨_,_,_,_,e⟩:=x;exact qG e
 | tup xs=>obtain ⟨_,_,_,p⟩:=x;exact p.lt
 | dK kvs=>obtain ⟨_,_,_,_,o,_,_,e,_⟩:=x;exact qG e
 | dT kvs=>obtain ⟨_,_,_,_,o,_,_,e,_⟩:=x;exact qG e
 | set S n=>obtain ⟨o,_,_,_,e,_⟩:=x;exact qG e
 | ins C dx fs=>obtain ⟨_,_,_,e,_⟩:=x;exact qG e
 | own y=>obtain ⟨_,e⟩:=x;exact qG e
 | xd fs=>obtain ⟨_,⟨_,_,_,e,_⟩,_⟩:=x;exact qG e
 | rng lo hi=>obtain ⟨_,_,_,e⟩:=x;exact qG e
 | frz ob u=>obtain ⟨e,_⟩:=x;exact qG e
 | tbl ps=>exact qG (show h.get? a=some _ from x)
 | met f y=>exact qG (show h.get? a=some _ from x)
 | ext φ=>obtain ⟨_,⟨_,e⟩,_⟩:=x;exact qG e
theorem Paired.mapP {α β:Type} {F G:α→β→Prop}:∀ {l₁:List α} {l₂:List β},Paired F l₁ l₂→(∀ a b,F a b→G a b)→Paired G l₁ l₂
 | _,_,.nil,_=>.nil
 | _,_,.cons r t,f=>.cons (f _ _ r) (Paired.mapP t f)
theorem cW.stay (x:cW P w H h a o) (k:∀ b u,(b=a∨H b=some (.own a))→h.get? b=some u→h'.get? b=some u)
  (ho:∀ b,H b=some (.own a)→H' b=some (.own a)) (ht:∀ b xs,H b=some (.tup xs)→H' b=some (.tup xs)):cW P w H' h' a o:=by
 induction o with
 | lst xs=>obtain ⟨z,its,n,r,e⟩:=x;exact ⟨z,its,n,r,k _ _ (.inl rfl) e⟩
 | tup xs=>obtain ⟨z,its,r,ob,e,c⟩:=x;exact ⟨z,its,r,ob,k _ _ (.inl rfl) e,c⟩
 | dK kvs=>obtain ⟨z,y,vs,r,ob,es,ep,e,c⟩:=x;exact ⟨z,y,vs,r,ob,es,ep,k _ _ (.inl rfl) e,c⟩
 | dT kvs=>
  obtain ⟨z,y,xs,r,ob,es,ep,e,c⟩:=x;exact ⟨z,y,xs,Paired.mapP r fun p q z=>⟨z.1,ht _ _ z.2.1,z.2.2⟩,ob,es,ep,k _ _ (.inl rfl) e,c⟩
 | set S n=>obtain ⟨ob,es,ep,t,e,c⟩:=x;exact ⟨ob,es,ep,t,k _ _ (.inl rfl) e,c⟩
 | ins C dx fs=>
  obtain ⟨d,z,ne,e,mA,⟨od,es,ep,e2,c⟩,r⟩:=x;exact ⟨ho _ d,z,ne,k _ _ (.inl rfl) e,mA,⟨od,es,ep,k _ _ (.inr d) e2,c⟩,r⟩
 | own y=>obtain ⟨ob,e⟩:=x;exact ⟨ob,k _ _ (.inl rfl) e⟩
 | xd fs=>obtain ⟨mA,⟨od,es,ep,e,c⟩,r⟩:=x;exact ⟨mA,⟨od,es,ep,k _ _ (.inl rfl) e,c⟩,r⟩
 | rng lo hi=>obtain ⟨t,u,v,e⟩:=x;exact ⟨t,u,v,k _ _ (.inl rfl) e⟩
 | frz ob u ih=>obtain ⟨e,q⟩:=x;exact ⟨k _ _ (.inl rfl) e,ih q⟩
 | tbl ps=>
  have e:h.get? a=some { cls:=.none,data:=.fields ps.2 }:=x;show h'.get? a=some { cls:=.none,data:=.fields ps.2 };exact k a _ (.inl rfl) e
 | met f y=>
  have e:h.get? a=some (wD (.ref f) (.ref y)):=x;show h'.get? a=some (wD (.ref f) (.ref y));exact k a _ (.inl rfl) e
 | ext φ=>obtain ⟨p,⟨o,e⟩,st⟩:=x;exact ⟨st _ _ p fun o q=>k _ _ (.inl rfl) q,⟨o,k _ _ (.inl rfl) e⟩,st⟩
theorem HOk.lt (x:HOk P w H h) (e:H a=some o):a<h.objs.size:=(x a o e).lt
theorem HOk.fresh (x:HOk P w H h) (e:h.objs.size≤a):H a=none:=by
 cases q:H a with
 | none=>rfl
 | some u=>exact absurd (qT (x.lt q) e) (jN _)
theorem HOk.kept (x:HOk P w H h) (k:∀ b u,h.get? b=some u→h'.get? b=some u):HOk P w H h':=fun a o e=>
 (x a o e).stay (fun b u _ q=>k b u q) (fun _ q=>q) fun _ _ q=>q
theorem HOk.laid (x:HOk P w H h) (k:∀ b u,h.get? b=some u→h'.get? b=some u) (hp:h.objs.size≤a) (new:cW P w (upd H a o) h' a o):HOk P w (upd H a o) h':=fun b u e=>by
 have hn:=x.fresh hp;by_cases hb:b=a
 ·subst hb;rw [aL] at e;cases e;exact new
 ·rw [aF hb] at e
  exact (x b u e).stay (fun c v _ q=>k c v q) (fun c q=>by rw [aF (aS q hn)];exact q) fun c xs q=>by rw [aF (aS q hn)];exact q
end
def Rd (H:Hp) (a:Addr) (u:HO):Prop:=H a=some u∨∃ o,H a=some (.frz o u)
theorem Rd.ok {P:Program} {w:World} {H:Hp} {h:Heap} {a:Addr} {u:HO} (r:Rd H a u) (x:HOk P w H h):cW P w H h a u:=by
 rcases r with r | ⟨o,r⟩
 ·exact x a u r
 ·obtain ⟨_,q⟩:=x a _ r
  exact q
def Mut:Option HO→Prop
 | some (.lst _)=>True
 | some (.dK _)=>True
 | some (.dT _)=>True
 | some (.set _ _)=>True
 | some (.ins _ _ _)=>True
 | some (.ext _)=>True
 | _=>False
section
variable {P:Program} {w:World} {H:Hp} {h h':Heap} {x e:Addr} {o':HO}
theorem HOk.write (ok:HOk P w H h) (mu:Mut (H x)) (he:e=x∨H e=some (.own x)) (k:∀ b u,b≠e→h.get? b=some u→h'.get? b=some u) (heo:∃ u,h'.get? e=some u)
  (new:cW P w (upd H x o') h' x o'):HOk P w (upd H x o') h':=fun b u q=>by
 have nown:∀ c y,H c=some (.own y)→c≠x:=fun c y r z=>by subst z;rw [r] at mu;exact mu
 have ntup:∀ c xs,H c=some (.tup xs)→c≠x:=fun c xs r z=>by subst z;rw [r] at mu;exact mu
 by_cases hb:b=x
 ·subst hb;rw [aL] at q;cases q;exact new
 ·rw [aF hb] at q
  by_cases hbe:b=e
  ·have q':H b=some (.own x):=by
    rcases he with z | z
    ·exact absurd (hbe.trans z) hb
    ·rw [hbe];exact z
   rw [q] at q';cases q';obtain ⟨v,hv⟩:=heo;exact ⟨v,by rw [hbe];exact hv⟩
  ·refine (ok b u q).stay (fun c v hc r=>k c v ?_ r) (fun c r=>by rw [aF (nown c b r)];exact r) fun c xs r=>by rw [aF (ntup c xs r)];exact r
   rcases hc with rfl | hc
   ·exact hbe
   ·rintro rfl
    rcases he with z | z
    ·exact nown c b hc z
    ·rw [hc] at z;cases z;exact hb rfl
end
structure Un (fs ex:T0m) (H H':Hp) (h h':Heap):Prop where
 keep:∀ b o,h.get? b=some o→H b=none→b∉fs→b∉ex→h'.get? b=some o
 slot:∀ b o,h.get? b=some o→H b=none→b∈fs→b∉ex→∃ sl,h'.get? b=some { o with slots:=sl }
 free:∀ b o,h.get? b=some o→H b=none→b∉ex→H' b=none
 there:∀ b o,h.get? b=some o→b∉ex→∃ o',h'.get? b=some o'
 tups:∀ b xs,H b=some (.tup xs)→H' b=some (.tup xs)
 frzs:∀ b o u,H b=some (.frz o u)→H' b=some (.frz o u)
 tbls:∀ b ps,H b=some (.tbl ps)→∃ more,H' b=some (.tbl (ps.1,ps.2++more))
section
variable {fs fs' ex ex':T0m} {H H1 H2:Hp} {h h1 h2 h':Heap} {a x e:Addr} {o:HO}
theorem Un.any (u:Un fs ex H H1 h h1) {b:Addr} {ob:Obj} (q:h.get? b=some ob) (n:H b=none) (hx:b∉ex):∃ sl,h1.get? b=some { ob with slots:=sl }:=by
 by_cases hb:b∈fs
 ·exact u.slot b ob q n hb hx
 ·exact ⟨ob.slots,u.keep b ob q n hb hx⟩
theorem Un.trans (a:Un fs ex H H1 h h1) (b:Un fs ex H1 H2 h1 h2):Un fs ex H H2 h h2 where
 keep:=fun c ob q n hc hx=>b.keep c ob (a.keep c ob q n hc hx) (a.free c ob q n hx) hc hx
 slot:=fun c ob q n hc hx=>by
  obtain ⟨sl,e1⟩:=a.slot c ob q n hc hx;obtain ⟨sl',e2⟩:=b.slot c _ e1 (a.free c ob q n hx) hc hx;exact ⟨sl',e2⟩
 free:=fun c ob q n hx=>by
  obtain ⟨o',e1⟩:=a.there c ob q hx;exact b.free c o' e1 (a.free c ob q n hx) hx
 there:=fun c ob q hx=>by
  obtain ⟨o',e1⟩:=a.there c ob q hx;exact b.there c o' e1 hx
 tups:=fun c xs q=>b.tups c xs (a.tups c xs q)
 frzs:=fun c ob xs q=>b.frzs c ob xs (a.frzs c ob xs q)
 tbls:=fun c ps q=>by
  obtain ⟨m1,e1⟩:=a.tbls c ps q;obtain ⟨m2,e2⟩:=b.tbls c _ e1;exact ⟨m1++m2,by rw [e2];simp [Array.append_assoc]⟩
theorem Un.kept (k:∀ b u,h.get? b=some u→h'.get? b=some u):Un fs ex H H h h':=
 ⟨fun b ob q _ _ _=>k b ob q,fun b ob q _ _ _=>⟨ob.slots,k b ob q⟩,fun _ _ _ n _=>n,fun b ob q _=>⟨ob,k b ob q⟩,fun _ _ q=>q,fun _ _ _ q=>q,fun _ ps q=>⟨#[],by rw [q];simp⟩⟩
theorem Un.refl:Un fs ex H H h h:=Un.kept fun _ _ q=>q
theorem Un.laid (k:∀ b u,h.get? b=some u→h'.get? b=some u) (hp:h.objs.size≤a) (hn:H a=none):Un fs ex H (upd H a o) h h' where
 keep:=fun b u q _ _ _=>k b u q
 slot:=fun b u q _ _ _=>⟨u.slots,k b u q⟩
 free:=fun b u q n _=>by rw [aF (qa (qT (qG q) hp))];exact n
 there:=fun b u q _=>⟨u,k b u q⟩
 tups:=fun b xs q=>by rw [aF (aS q hn)];exact q
 frzs:=fun b u xs q=>by rw [aF (aS q hn)];exact q
 tbls:=fun b ps q=>⟨#[],by rw [aF (aS q hn),q];simp⟩
theorem Un.write (mu:Mut (H x)) (he:e=x∨H e=some (.own x)) (k:∀ b u,b≠e→h.get? b=some u→h'.get? b=some u) (heo:∃ u,h'.get? e=some u):Un fs ex H (upd H x o) h h':=by
 have hx:∀ b,H b=none→b≠x:=fun b n z=>by subst z;rw [n] at mu;exact mu
 have hb:∀ b,H b=none→b≠e:=fun b n z=>by
  subst z;rcases he with r | r
  ·exact hx b n r
  ·rw [n] at r;cases r
 have hm:∀ b u,H b=some u→¬Mut (some u)→b≠x:=fun b u q nm z=>by subst z;rw [q] at mu;exact nm mu
 refine ⟨fun b u q n _ _=>k b u (hb b n) q,fun b u q n _ _=>⟨u.slots,k b u (hb b n) q⟩,fun b u q n _=>by rw [aF (hx b n)];exact n,fun b u q _=>?_,
  fun b xs q=>by rw [aF (hm b _ q fun z=>z)];exact q,fun b u xs q=>by rw [aF (hm b _ q fun z=>z)];exact q,fun b ps q=>⟨#[],by rw [aF (hm b _ q fun z=>z),q];simp⟩⟩
 by_cases hbe:b=e
 ·subst hbe;exact heo
 ·exact ⟨u,k b u hbe q⟩
theorem Un.mono (u:Un fs ex H H1 h h1) (hs:∀ b∈fs,b∈fs') (hx:∀ b∈ex,b∈ex'):Un fs' ex' H H1 h h1:=
 ⟨fun b ob q n hb he=>u.keep b ob q n (fun z=>hb (hs b z)) fun z=>he (hx b z),fun _ _ q n _ he=>u.any q n fun z=>he (hx _ z),fun b ob q n he=>u.free b ob q n fun z=>he (hx b z),fun b ob q he=>u.there b ob q fun z=>he (hx b z),u.tups,u.frzs,u.tbls⟩
end
def trk (h:Heap) (H:Hp):List Addr:=(qi h.objs.size).filter fun a=>(H a).isSome
def a1I (h:Heap) (H:Hp):Heap:=vP h (trk h H)
theorem a8V (h:Heap) (H:Hp):(a1I h H).objs.size=h.objs.size:=PySem.W.hideAll_size _ _
theorem b1A {h:Heap} {H:Hp} {b:Addr} {o:Obj} (e:h.get? b=some o) (n:H b=none):(a1I h H).get? b=some o:=
 vm _ e fun hm=>by
  have q:(H b).isSome=true:=(kU.mp hm).2;rw [n] at q;simp at q
theorem b3G {h:Heap} {H:Hp} {b:Addr} {o:Obj} (e:(a1I h H).get? b=some o):h.get? b=some o∧H b=none:=by
 have e':h.get? b=some o:=vo (trk h H) e;refine ⟨e',?_⟩;cases q:H b with
 | none=>rfl
 | some x=>
  have hm:b∈trk h H:=kU.mpr ⟨kr.mpr (qG e'),by simp [q]⟩;have z:(a1I h H).get? b=none:=zX (trk h H) hm;rw [z] at e;cases e
def b5f (g h:Heap) (L:Addr):List (Addr×Obj):=(qi h.objs.size).filterMap fun a=>if a=L∨(g.get? a).isSome=true then none else (h.get? a).map fun o=>(a,o)
def rest (g h:Heap) (L d:Addr):List (Addr×Obj):=(b5f g h L).filter fun p=>decide (p.1≠d)
structure Mod (K:qC) (mg:T0d) (base:Heap):Prop where
 kin:K.In base
 glob:base.Ns j6 mg
 blt:∃ mb,base.Ns uf mb∧∀ x:Str,x ≠ "__name__" → mb x=wm x
 nolimit:base.NoLimit
structure Cx where
 prog:Program
 w:World
 K:qC
 mg:Str→Option Value
 base:Heap
 A:Around
 N:List Str
 s₀:Shared
 H₀:Hp
 env:Env
 outer:List Env
 stack:List Env
 ex:List Addr
 fn:Str→Bool
 calm:Bool
 pn:List (Addr×Obj)
 xe:Value→Shared→Prop
def frs (l:List Env):List Addr:=l.filterMap (·.frame)
abbrev Cx.fs (X:Cx):List Addr:=frs X.outer
def Vis (sc:Scope) (x:Str):Prop:=sc.names.lookup x=some .local∨sc.names.lookup x=some .cell∨sc.names.lookup x=some .free
def Loc (sc:Scope) (x:Str):Prop:=sc.names.lookup x=some .local∨sc.names.lookup x=some .cell
def Look (env:Env) (h:Heap) (m:T0d) (x:Str) (u:Value):Prop:=
 (env.kindOf x=some .local∧m x=some u)∨((env.kindOf x=some .cell∨env.kindOf x=some .free)∧∃ c,env.cells.lookup x=some c∧h.IsCell c (some u))
structure Cx.Ok (X:Cx):Prop where
 mod:Mod X.K X.mg X.base
 kind:X.env.scope.kind=.function
 glob:X.env.globals=j6
 blt:X.env.builtins=uf
 above:X.s₀.heap.objs.size≤X.env.locals
 inj:∀ x y c,X.env.cells.lookup x=some c→X.env.cells.lookup y=some c→x=y
 has:∀ x,(X.env.kindOf x=some .cell∨X.env.kindOf x=some .free)→∃ c,X.env.cells.lookup x=some c
 cab:∀ x c,X.fn x=true→X.env.cells.lookup x=some c→X.s₀.heap.objs.size≤c
 hd:X.calm=true→X.A.handled=none
 frames:X.A.frames=some X.stack
 stk:X.stack=X.outer∨(X.stack=X.env::X.outer∧X.env.frame=some X.env.locals)
 exf:∀ b∈X.ex,b≠X.env.locals∧∀ x c,X.env.cells.lookup x=some c→c≠b
 bs:∀ b o,X.base.get? b=some o→X.s₀.heap.get? b=some o∧X.H₀ b=none
 bsz:X.base.objs.size≤X.s₀.heap.objs.size
 noex:∀ b o,X.base.get? b=some o→b∉X.ex
 exfs:∀ b∈X.ex,b∉X.fs
 funs:X.s₀.heap.FunFrames X.base X.outer
 frf:∀ b∈X.fs,X.H₀ b=none
structure Inv (X:Cx) (pins:T0b) (σ:List (Option V)) (H:Hp) (s:Shared):Prop where
 ok:X.Ok
 os:s.os=X.s₀.os
 bare:ut s.gens
 base:Un X.fs X.ex X.H₀ H X.s₀.heap s.heap
 loc:∃ m,s.heap.Ns X.env.locals m∧∀ (i:Nat) (x:Str) (v:V),X.N[i]?=some x→σ[i]?=some (some v)→Vis X.env.scope x→∃ u,RelV v u∧Look X.env s.heap m x u
 cell:∀ x c,X.env.cells.lookup x=some c→∃ v,s.heap.IsCell c v
 free:H X.env.locals=none
 freeC:∀ x c,X.env.cells.lookup x=some c→H c=none
 pin:∀ p∈X.pn++pins,s.heap.get? p.1=some p.2∧H p.1=none∧p.1≠X.env.locals∧p.1∉X.fs∧∀ v,p.2.data≠.cell v
 hok:HOk X.prog X.w H s.heap
 len:σ.length=X.N.length
section
variable {X:Cx} {pins:T0b} {σ:List (Option V)} {H H':Hp} {s:Shared} {h':Heap}
theorem Cx.Ok.nofr (ok:X.Ok) {b:Addr} {o:Obj} (e:X.base.get? b=some o):b∉X.fs:=fun hb=>by
 have:=(ok.funs.mem hb).1;rw [e] at this;cases this
theorem Inv.bs (I:Inv X pins σ H s):∀ b o,X.base.get? b=some o→s.heap.get? b=some o∧H b=none:=fun b o e=>
 ⟨I.base.keep b o (I.ok.bs b o e).1 (I.ok.bs b o e).2 (I.ok.nofr e) (I.ok.noex b o e),I.base.free b o (I.ok.bs b o e).1 (I.ok.bs b o e).2 (I.ok.noex b o e)⟩
theorem Inv.bk (I:Inv X pins σ H s):∀ b o,X.base.get? b=some o→s.heap.get? b=some o:=fun b o e=>(I.bs b o e).1
theorem Inv.mod (I:Inv X pins σ H s):Mod X.K X.mg X.base:=I.ok.mod
theorem Inv.kIn (I:Inv X pins σ H s):X.K.In s.heap:=I.ok.mod.kin.keeps I.bk
theorem Inv.lt (I:Inv X pins σ H s):X.env.locals<s.heap.objs.size:=let ⟨_,hn,_⟩:=I.loc;hn.lt
theorem Inv.sz (I:Inv X pins σ H s):X.s₀.heap.objs.size≤s.heap.objs.size:=ql I.ok.above (qv I.lt)
theorem Inv.nofs (I:Inv X pins σ H s) {a:Addr} (h:s.heap.objs.size≤a):a∉X.fs:=fun hb=>by
 obtain ⟨_,o,ho,_⟩:=I.ok.funs.mem hb;exact absurd (qT (qG ho) (ql I.sz h)) (jN _)
theorem Inv.cne (I:Inv X pins σ H s):∀ x c,X.env.cells.lookup x=some c→c≠X.env.locals:=fun x c e z=>by
 obtain ⟨v,o,ho,hd⟩:=I.cell x c e;obtain ⟨m,⟨o',es,ep,ho',hd',_⟩,_⟩:=I.loc;rw [z,ho'] at ho;cases ho;rw [hd'] at hd;cases hd
theorem Inv.funs (I:Inv X pins σ H s):s.heap.FunFrames X.base X.outer:=by
 have all:∀ (l:List Env),(∀ b∈frs l,b∈X.fs)→X.s₀.heap.FunFrames X.base l→s.heap.FunFrames X.base l:=by
  intro l
  induction l with
  | nil=>intro _ _;trivial
  | cons env r ih=>
   intro hs hl;obtain ⟨hk,⟨L,o,hf,hn,ho,hd⟩,hr⟩:=hl;have hL:L∈X.fs:=hs L (by unfold frs;rw [kz,hf];exact qS);obtain ⟨sl,e⟩:=I.base.slot L o ho (I.ok.frf L hL) hL fun z=>I.ok.exfs L z hL;exact ⟨hk,⟨L,_,hf,hn,e,hd⟩,ih (fun b hb=>hs b (by unfold frs;rw [kz,hf];exact qD _ hb)) hr⟩
 exact all X.outer (fun _ hb=>hb) I.ok.funs
theorem Inv.stack (I:Inv X pins σ H s):s.heap.FunFrames X.base X.stack:=by
 rcases I.ok.stk with e | ⟨e,hf⟩
 ·rw [e];exact I.funs
 ·rw [e]
  obtain ⟨m,hn,_⟩:=I.loc;refine .cons (by rw [I.ok.kind];decide) hf hn ?_ I.funs;exact zH (ql I.ok.bsz I.ok.above)
theorem Inv.stkSub (I:Inv X pins σ H s):∀ b∈frs X.stack,b∈X.env.locals::X.fs:=fun b hb=>by
 rcases I.ok.stk with e | ⟨e,hf⟩
 ·rw [e] at hb;exact qD _ hb
 ·rw [e] at hb
  unfold frs at hb;rw [kz,hf] at hb;exact hb
theorem Inv.stkFree (I:Inv X pins σ H s):∀ b∈frs X.stack,H b=none:=fun b hb=>by
 rcases qF.mp (I.stkSub b hb) with e | hb
 ·rw [e];exact I.free
 ·obtain ⟨_,o,ho,_⟩:=I.ok.funs.mem hb
  exact I.base.free b o ho (I.ok.frf b hb) fun z=>I.ok.exfs b z hb
theorem Inv.step {g':Array QI} {t':Nat} {d':Drawn} {ch:T0m} (I:Inv X pins σ H s)
  (hch:∀ b∈ch,(b∈X.ex∨X.s₀.heap.objs.size≤b)∧b≠X.env.locals∧(∀ x c,X.env.cells.lookup x=some c→c≠b)∧∀ p∈X.pn++pins,p.1≠b)
  (keep:∀ b o,b≠X.env.locals→b∉X.fs→b∉ch→s.heap.get? b=some o→H b=none→h'.get? b=some o)
  (slot:∀ b o,b≠X.env.locals→b∈X.fs→b∉ch→s.heap.get? b=some o→H b=none→∃ sl,h'.get? b=some { o with slots:=sl }) (free:∀ b o,b∉ch→s.heap.get? b=some o→H b=none→H' b=none)
  (there:∀ b o,b∉ch→s.heap.get? b=some o→∃ o',h'.get? b=some o')
  (tups:∀ b xs,H b=some (.tup xs)→H' b=some (.tup xs)) (frzs:∀ b o u,H b=some (.frz o u)→H' b=some (.frz o u)) (tbls:∀ b ps,H b=some (.tbl ps)→∃ more,H' b=some (.tbl (ps.1,ps.2++more)))
  (ns:∀ m,s.heap.Ns X.env.locals m→h'.Ns X.env.locals m) (hok:HOk X.prog X.w H' h') (hg:ut g') :
  Inv X pins σ H' { s with heap:=h',gens:=g',drawn:=d',toks:=t' }:=by
 have neL:∀ b o,X.s₀.heap.get? b=some o→b≠X.env.locals:=fun b o e=>qa (qT (qG e) I.ok.above);have neC:∀ b o,X.s₀.heap.get? b=some o→b∉X.ex→b∉ch:=fun b o e hx hb=>by
  rcases (hch b hb).1 with z | z
  ·exact hx z
  ·exact absurd (qT (qG e) z) (jN _)
 have cellK:∀ x c,X.env.cells.lookup x=some c→∀ v,s.heap.IsCell c v→h'.IsCell c v:=fun x c e v ⟨o,ho,hd⟩=>by
  have nch:c∉ch:=fun z=>(hch c z).2.2.1 x c e rfl;by_cases hc:c∈X.fs
  ·obtain ⟨sl,q⟩:=slot c o (I.cne x c e) hc nch ho (I.freeC x c e)
   exact ⟨_,q,hd⟩
  ·exact ⟨o,keep c o (I.cne x c e) hc nch ho (I.freeC x c e),hd⟩
 refine ⟨I.ok,I.os,hg,⟨fun b o e n hb hx=>?_,fun b o e n hb hx=>?_,fun b o e n hx=>?_,fun b o e hx=>?_,fun b xs e=>tups b xs (I.base.tups b xs e),fun b o xs e=>frzs b o xs (I.base.frzs b o xs e),fun b ps e=>?_⟩,?_,fun x c e=>?_,?_,fun x c e=>?_,fun p hp=>?_,hok,I.len⟩
 ·exact keep b o (neL b o e) hb (neC b o e hx) (I.base.keep b o e n hb hx) (I.base.free b o e n hx)
 ·obtain ⟨sl,e1⟩:=I.base.slot b o e n hb hx
  obtain ⟨sl',e2⟩:=slot b _ (neL b o e) hb (neC b o e hx) e1 (I.base.free b o e n hx);exact ⟨sl',e2⟩
 ·obtain ⟨o',e1⟩:=I.base.there b o e hx
  exact free b o' (neC b o e hx) e1 (I.base.free b o e n hx)
 ·obtain ⟨o',e1⟩:=I.base.there b o e hx
  exact there b o' (neC b o e hx) e1
 ·obtain ⟨m1,e1⟩:=I.base.tbls b ps e
  obtain ⟨m2,e2⟩:=tbls b _ e1;exact ⟨m1++m2,by rw [e2];simp [Array.append_assoc]⟩
 ·obtain ⟨m,hn,hl⟩:=I.loc
  refine ⟨m,ns m hn,fun i x v e1 e2 e3=>?_⟩;obtain ⟨u,r,l⟩:=hl i x v e1 e2 e3;refine ⟨u,r,?_⟩;rcases l with l | ⟨k,c,e,z⟩
  ·exact .inl l
  ·exact .inr ⟨k,c,e,cellK x c e _ z⟩
 ·obtain ⟨v,z⟩:=I.cell x c e
  exact ⟨v,cellK x c e v z⟩
 ·obtain ⟨m,⟨o,_,_,ho,_⟩,_⟩:=I.loc
  exact free _ o (fun z=>(hch _ z).2.1 rfl) ho I.free
 ·obtain ⟨v,o,ho,hd⟩:=I.cell x c e
  exact free c o (fun z=>(hch c z).2.2.1 x c e rfl) ho (I.freeC x c e)
 ·obtain ⟨e,n,ne,nf,d⟩:=I.pin p hp
  have nch:p.1∉ch:=fun z=>(hch p.1 z).2.2.2 p hp rfl;exact ⟨keep p.1 p.2 ne nf nch e n,free p.1 p.2 nch e n,ne,nf,d⟩
theorem Inv.un {t':Nat} (I:Inv X pins σ H s) (u:Un X.fs [] H H' s.heap h') (hok:HOk X.prog X.w H' h'):Inv X pins σ H' { s with heap:=h',toks:=t' }:=by
 obtain ⟨m,⟨o,es,ep,ho,r⟩,_⟩:=id I.loc;obtain ⟨sl,hL⟩:=u.any ho I.free (by simp)
 exact I.step (g':=s.gens) (d':=s.drawn) (ch:=[]) (fun _ z=>nomatch z) (fun b o _ hb _ e n=>u.keep b o e n hb (by simp)) (fun b o _ hb _ e n=>u.slot b o e n hb (by simp)) (fun b o _ e n=>u.free b o e n (by simp)) (fun b o _ e=>u.there b o e (by simp)) u.tups u.frzs u.tbls (fun m' hm=>by
  obtain ⟨o',es',ep',ho',r'⟩:=hm;rw [ho] at ho';cases ho'
  exact ⟨_,es',ep',hL,r'⟩) hok I.bare
theorem Inv.call {g':Array QI} {t':Nat} {d':Drawn} {ch:T0m} (I:Inv X pins σ H s) (u:Un (frs X.stack) ch H H' s.heap h') (hok:HOk X.prog X.w H' h') (hg:ut g')
  (hch:∀ b∈ch,(b∈X.ex∨X.s₀.heap.objs.size≤b)∧b≠X.env.locals∧(∀ x c,X.env.cells.lookup x=some c→c≠b)∧∀ p∈X.pn++pins,p.1≠b) :
  Inv X pins σ H' { s with heap:=h',gens:=g',drawn:=d',toks:=t' }:=by
 obtain ⟨m,⟨o,es,ep,ho,r⟩,_⟩:=id I.loc;obtain ⟨sl,hL⟩:=u.any ho I.free fun z=>(hch _ z).2.1 rfl
 exact I.step (ch:=ch) hch (fun b o hL hb hc e n=>u.keep b o e n (fun z=>(qF.mp (I.stkSub b z)).elim hL hb) hc) (fun b o _ _ hc e n=>u.any e n hc) (fun b o hc e n=>u.free b o e n hc) (fun b o hc e=>u.there b o e hc) u.tups u.frzs u.tbls (fun m' hm=>by
  obtain ⟨o',es',ep',ho',r'⟩:=hm;rw [ho] at ho';cases ho'
  exact ⟨_,es',ep',hL,r'⟩) hok hg
theorem Inv.turned {t':Nat} {it:Addr} (I:Inv X pins σ H s) (k:∀ b o,b≠it→s.heap.get? b=some o→h'.get? b=some o) (hn:H it=none) (hL:it≠X.env.locals)
  (h1:it∈X.ex∨X.s₀.heap.objs.size≤it) (h2:∀ x c,X.env.cells.lookup x=some c→c≠it) (h3:∀ p∈X.pn++pins,p.1≠it):Inv X pins σ H { s with heap:=h',toks:=t' }:=by
 have nit:∀ b u,H b=some u→b≠it:=fun b u e z=>by rw [z,hn] at e;cases e
 refine I.step (g':=s.gens) (d':=s.drawn) (ch:=[it]) (fun b hb=>?_) (fun b o _ _ hc e _=>k b o (fun z=>hc (by simp [z])) e) (fun b o _ _ hc e _=>⟨o.slots,k b o (fun z=>hc (by simp [z])) e⟩) (fun _ _ _ _ n=>n)
  (fun b o hc e=>⟨o,k b o (fun z=>hc (by simp [z])) e⟩) (fun _ _ e=>e) (fun _ _ _ e=>e) (fun b ps e=>⟨#[],by rw [e];simp⟩) (fun m hm=>?_) (fun b u e=>?_) I.bare
 ·have e:b=it:=by simpa using hb
  subst e;exact ⟨h1,hL,h2,h3⟩
 ·obtain ⟨o,es,ep,ho,r⟩:=hm
  exact ⟨o,es,ep,k _ o (jm hL) ho,r⟩
 ·refine (I.hok b u e).stay (fun c v hc q=>k c v ?_ q) (fun _ q=>q) fun _ _ q=>q
  rcases hc with z | z
  ·rw [z];exact nit b u e
  ·exact nit c _ z
theorem Inv.tok (I:Inv X pins σ H s) (t:Nat):Inv X pins σ H { s with toks:=t }:=I.un (h':=s.heap) (t':=t) Un.refl I.hok
theorem Inv.kept {t':Nat} (I:Inv X pins σ H s) (k:∀ b u,s.heap.get? b=some u→h'.get? b=some u):Inv X pins σ H { s with heap:=h',toks:=t' }:=I.un (Un.kept k) (I.hok.kept k)
theorem Inv.laid {a:Addr} {o:HO} {t':Nat} (I:Inv X pins σ H s) (k:∀ b u,s.heap.get? b=some u→h'.get? b=some u) (hp:s.heap.objs.size≤a) (new:cW X.prog X.w (upd H a o) h' a o) :
  Inv X pins σ (upd H a o) { s with heap:=h',toks:=t' }:=I.un (Un.laid k hp (I.hok.fresh hp)) (I.hok.laid k hp new)
theorem Inv.write {x e:Addr} {o:HO} {t':Nat} (I:Inv X pins σ H s) (mu:Mut (H x)) (he:e=x∨H e=some (.own x)) (k:∀ b u,b≠e→s.heap.get? b=some u→h'.get? b=some u) (heo:∃ u,h'.get? e=some u)
  (new:cW X.prog X.w (upd H x o) h' x o):Inv X pins σ (upd H x o) { s with heap:=h',toks:=t' }:=I.un (Un.write mu he k heo) (I.hok.write mu he k heo new)
theorem Inv.pins_of {pins':T0b} (I:Inv X pins σ H s) (h:∀ p∈pins',s.heap.get? p.1=some p.2∧H p.1=none∧p.1≠X.env.locals∧p.1∉X.fs∧∀ v,p.2.data≠.cell v):Inv X pins' σ H s:=
 ⟨I.ok,I.os,I.bare,I.base,I.loc,I.cell,I.free,I.freeC,fun p hp=>(qu.mp hp).elim (fun z=>I.pin p (jW _ z)) (h p),I.hok,I.len⟩
theorem a0Q {N:T0o} (hN:N.Nodup) {i j:Nat} {x:Str} (a:N[i]?=some x) (b:N[j]?=some x):i=j:=by
 obtain ⟨h1,e1⟩:=qY.mp a;obtain ⟨h2,e2⟩:=qY.mp b;exact (List.getElem_inj hN).mp (e1.trans e2.symm)
theorem a1R {M:Model} {A:Around} {E:T0a} {i:Nat} {x:Str} {v:V} {u:Value} {Q:Unit→Shared→Prop} (I:Inv X pins σ H s) (hN:X.N.Nodup) (hi:X.N[i]?=some x) (hx:Loc X.env.scope x) (r:RelV v u)
  (h:∀ s',Inv X pins (σ.set i (some v)) H s'→(∃ a,kP a s.heap s'.heap∧(a=X.env.locals∨X.env.cells.lookup x=some a))→Q () s') (hf:X.fn x=true∨X.env.scope.names.lookup x=some .local:=by first | exact .inl rfl | exact .inr rfl | assumption):wpAny M A (storeName X.env x u) Q E s:=by
 obtain ⟨m,hn,hl⟩:=id I.loc;have hcls:(X.env.scope.kind==.class || (X.env.scope.kind==.module&&X.env.locals != X.env.globals))=false:=by rw [I.ok.kind];rfl
 have hiσ:i<σ.length:=by rw [I.len];exact (qY.mp hi).1
 have cne:=I.cne;have tracked:∀ {a:Addr} {h':Heap},(∃ o,s.heap.get? a=some o∧H a=none)→kP a s.heap h'→HOk X.prog X.w H h':=fun {a h'} ha hs b ob e=>by
  obtain ⟨_,_,hfree⟩:=ha;refine (I.hok b ob e).stay (fun c w' hc q=>(hs.2 c ?_).trans q) (fun _ q=>q) fun _ _ q=>q;rintro rfl;rcases hc with rfl | hc
  ·rw [hfree] at e;cases e
  ·rw [hfree] at hc;cases hc
 rcases hx with hk | hk
 ·refine wpAny_storeName_local hk hn (fun h' hn' hs=>?_) hcls
  obtain ⟨oL,_,_,hoL,_⟩:=id hn;refine h _ ⟨I.ok,I.os,I.bare,⟨fun b o e n hb hx=>?_,fun b o e n hb hx=>?_,I.base.free,fun b o e hx=>?_,I.base.tups,I.base.frzs,I.base.tbls⟩,⟨_,hn',fun j y v' e1 e2 e3=>?_⟩,fun y c e=>?_,I.free,I.freeC,fun p hp=>?_,tracked ⟨oL,hoL,I.free⟩ hs,by simpa using I.len⟩ ⟨_,hs,.inl rfl⟩
  ·exact (hs.2 b (qa (qT (qG e) I.ok.above))).trans (I.base.keep b o e n hb hx)
  ·obtain ⟨sl,e1⟩:=I.base.slot b o e n hb hx
   exact ⟨sl,(hs.2 b (qa (qT (qG e) I.ok.above))).trans e1⟩
  ·obtain ⟨o',e1⟩:=I.base.there b o e hx
   exact ⟨o',(hs.2 b (qa (qT (qG e) I.ok.above))).trans e1⟩
  ·by_cases hj:j=i
   ·subst hj
    rw [hi] at e1;cases e1;rw [kN hiσ] at e2;cases e2;exact ⟨u,r,.inl ⟨hk,by simp⟩⟩
   ·rw [qo (jm hj)] at e2
    obtain ⟨u',r',q⟩:=hl j y v' e1 e2 e3;refine ⟨u',r',?_⟩;rcases q with ⟨k,e⟩ | ⟨k,c,e,z⟩
    ·refine .inl ⟨k,?_⟩
     have:y≠x:=fun e=>hj (a0Q hN e1 (e▸hi));simp [this,e]
    ·exact .inr ⟨k,c,e,z.sameBut hs (cne y c e)⟩
  ·obtain ⟨w',z⟩:=I.cell y c e
   exact ⟨w',z.sameBut hs (cne y c e)⟩
  ·obtain ⟨e,n,ne,nf,d⟩:=I.pin p hp
   exact ⟨(hs.2 p.1 ne).trans e,n,ne,nf,d⟩
 ·have hfn:X.fn x=true:=by
   rcases hf with z | z
   ·exact z
   ·rw [z] at hk;cases hk
  obtain ⟨c,hc⟩:=I.ok.has x (.inl hk);obtain ⟨w',z⟩:=I.cell x c hc;refine wpAny_storeName_cell I.ok.kind hk hc z (fun h' hc' hs=>?_);obtain ⟨oc,hoc,hocd⟩:=id z;refine h { s with heap:=h' } ⟨I.ok,I.os,I.bare,⟨fun b o e n hb hx=>?_,fun b o e n hb hx=>?_,I.base.free,fun b o e hx=>?_,I.base.tups,I.base.frzs,I.base.tbls⟩,⟨m,hn.sameBut hs (jm (cne x c hc)),fun j y v' e1 e2 e3=>?_⟩,fun y c' e=>?_,I.free,I.freeC,fun p hp=>?_,tracked ⟨oc,hoc,I.freeC x c hc⟩ hs,by simpa using I.len⟩ ⟨c,hs,.inr hc⟩
  ·exact (hs.2 b (qa (qT (qG e) (I.ok.cab x c hfn hc)))).trans (I.base.keep b o e n hb hx)
  ·obtain ⟨sl,e1⟩:=I.base.slot b o e n hb hx
   exact ⟨sl,(hs.2 b (qa (qT (qG e) (I.ok.cab x c hfn hc)))).trans e1⟩
  ·obtain ⟨o',e1⟩:=I.base.there b o e hx
   exact ⟨o',(hs.2 b (qa (qT (qG e) (I.ok.cab x c hfn hc)))).trans e1⟩
  ·by_cases hj:j=i
   ·subst hj
    rw [hi] at e1;cases e1;rw [kN hiσ] at e2;cases e2;exact ⟨u,r,.inr ⟨.inl hk,c,hc,hc'⟩⟩
   ·rw [qo (jm hj)] at e2
    obtain ⟨u',r',q⟩:=hl j y v' e1 e2 e3;refine ⟨u',r',?_⟩;rcases q with q | ⟨k,c',e,z'⟩
    ·exact .inl q
    ·refine .inr ⟨k,c',e,z'.sameBut hs ?_⟩
     rintro rfl;exact hj (a0Q hN e1 (I.ok.inj _ _ _ e hc▸hi))
  ·by_cases hcc:c'=c
   ·subst hcc;exact ⟨_,hc'⟩
   ·obtain ⟨w2,z2⟩:=I.cell y c' e
    exact ⟨w2,z2.sameBut hs hcc⟩
  ·obtain ⟨e,n,ne,nf,d⟩:=I.pin p hp
   refine ⟨(hs.2 p.1 ?_).trans e,n,ne,nf,d⟩;intro q;rw [q,hoc] at e;have q':oc=p.2:=qA e;exact d w' (by rw [←q'];exact hocd)
theorem mT {M:Model} {A:Around} {E:T0a} {i:Nat} {x:Str} {v:V} {u:Value} {Q:Unit→Shared→Prop} (I:Inv X pins σ H s) (hN:X.N.Nodup) (hi:X.N[i]?=some x) (hx:Loc X.env.scope x) (r:RelV v u)
  (h:∀ s',Inv X pins (σ.set i (some v)) H s'→Q () s') (hf:X.fn x=true∨X.env.scope.names.lookup x=some .local:=by first | exact .inl rfl | exact .inr rfl | assumption):wpAny M A (storeName X.env x u) Q E s:=
 a1R I hN hi hx r (fun s' I' _=>h s' I') hf
theorem Inv.call' {s':Shared} {ch:T0m} (I:Inv X pins σ H s) (ho:s'.os=s.os) (u:Un (frs X.stack) ch H H' s.heap s'.heap) (hok:HOk X.prog X.w H' s'.heap) (hg:ut s'.gens)
  (hch:∀ b∈ch,(b∈X.ex∨X.s₀.heap.objs.size≤b)∧b≠X.env.locals∧(∀ x c,X.env.cells.lookup x=some c→c≠b)∧∀ p∈X.pn++pins,p.1≠b):Inv X pins σ H' s':=by
 obtain ⟨h',g',d',t',o'⟩:=s';have e:o'=s.os:=ho;subst e;exact I.call (g':=g') (t':=t') (d':=d') u hok hg hch
end
abbrev XK:=Value→Option Addr→Hp→Prop
abbrev St:=List (Option V)
abbrev VK:=V→Hp→Prop
abbrev TE:=St→Hp→VK→Prop
abbrev TT:=St→Hp→(Bool→Hp→Prop)→Prop
abbrev TA:=St→Hp→(List V→Hp→Prop)→Prop
structure Ends where
 nx:St→Hp→Prop
 rt:VK
 bk:St→Hp→Prop:=fun _ _=>False
 ct:St→Hp→Prop:=fun _ _=>False
abbrev TS:=Ends→St→Hp→Prop
def EP (X:Cx) (pins:T0b) (σ:St) (Q:VK) (u:Value) (s':Shared):Prop:=∃ v H',Inv X pins σ H' s'∧RelV v u∧Q v H'
def TP (X:Cx) (pins:T0b) (σ:St) (Q:Bool→Hp→Prop) (b:Bool) (s':Shared):Prop:=∃ H',Inv X pins σ H' s'∧Q b H'
def AP (X:Cx) (pins:T0b) (σ:St) (Q:List V→Hp→Prop) (us:T0k) (s':Shared):Prop:=∃ vs H',Inv X pins σ H' s'∧aY vs us∧Q vs H'
def SP (X:Cx) (pins:T0b) (D:Ends) (f:Flow) (s':Shared):Prop:=
 match f with
 | .next=>∃ σ' H',Inv X pins σ' H' s'∧D.nx σ' H'
 | .brk=>∃ σ' H',Inv X pins σ' H' s'∧D.bk σ' H'
 | .cont=>∃ σ' H',Inv X pins σ' H' s'∧D.ct σ' H'
 | .ret u=>∃ v σ' H',Inv X pins σ' H' s'∧RelV v u∧D.rt v H'
def PE (X:Cx) (e:Expr) (t:TE):Prop:=
 ∀ (pins:T0b) (s:Shared) (σ:St) (H:Hp) (Q:VK),Inv X pins σ H s→t σ H Q→wpAny (model X.prog X.w) X.A (eval e X.env) (EP X pins σ Q) X.xe s
def PT (X:Cx) (e:Expr) (t:TT):Prop:=
 ∀ (pins:T0b) (s:Shared) (σ:St) (H:Hp) (Q:Bool→Hp→Prop),Inv X pins σ H s→t σ H Q→wpAny (model X.prog X.w) X.A (isTrue e X.env (eval e X.env)) (TP X pins σ Q) X.xe s
def PW (X:Cx) (e:Expr) (t:TT):Prop:=
 ∀ (whole:Sem Value) (pins:T0b) (s:Shared) (σ:St) (H:Hp) (Q:Bool→Hp→Prop),Inv X pins σ H s→t σ H Q→wpAny (model X.prog X.w) X.A (isTrue e X.env whole) (TP X pins σ Q) X.xe s
def PA (X:Cx) (es:T0l) (t:TA):Prop:=
 ∀ (pos:Pos) (pins:T0b) (s:Shared) (σ:St) (H:Hp) (Q:List V→Hp→Prop),Inv X pins σ H s→t σ H Q→wpAny (model X.prog X.w) X.A (spliced (k9 pos (j4 es X.env))) (AP X pins σ Q) X.xe s
def PS (X:Cx) (st:Stmt) (t:TS):Prop:=
 ∀ (pins:T0b) (s:Shared) (σ:St) (H:Hp) (D:Ends),Inv X pins σ H s→t D σ H→wpAny (model X.prog X.w) X.A (exec st X.env) (SP X pins D) X.xe s
def PSs (X:Cx) (st:List Stmt) (t:TS):Prop:=
 ∀ (pins:T0b) (s:Shared) (σ:St) (H:Hp) (D:Ends),Inv X pins σ H s→t D σ H→wpAny (model X.prog X.w) X.A (execs st X.env) (SP X pins D) X.xe s
theorem thn {α:Type} {t:Sem α} {Q Q':α→Shared→Prop} {M:Model} {A:Around} {E:T0a} {s:Shared} (h:wpAny M A t Q E s) (hQ:∀ a s,Q a s→Q' a s):wpAny M A t Q' E s:=v6 h hQ fun _ _ x=>x
section
variable {X:Cx}
def b8n (i:Nat):TE:=fun σ H Q=>∃ v,σ[i]?=some (some v)∧Q v H
def tC (v:V):TE:=fun _ H Q=>Q v H
theorem hZ {i:Nat} {x:Str} {pos:Pos} (hN:X.N[i]?=some x) (hv:Vis X.env.scope x) (hd:(x==("__debug__" : Str))=false:=by decide) (hcd:(x==("__classdict__" : Str))=false:=by decide):PE X (.Name x pos) (b8n i):=by
 intro pins s σ H Q I h;obtain ⟨v,e,h⟩:=h;obtain ⟨m,hn,hl⟩:=I.loc;obtain ⟨u,r,l⟩:=hl i x v hN e hv;have fin:EP X pins σ Q u s:=⟨v,H,I,r,h⟩;rcases l with ⟨hk,hm⟩ | ⟨hk,c,hc,hcell⟩
 ·exact wpAny_Name (wpAny_loadName_local I.ok.kind hk hn hm fin) hd
 ·rcases hk with hk | hk
  ·exact wpAny_Name (wpAny_loadName_cell I.ok.kind hk hc hcell fin) hd
  ·exact wpAny_Name (wpAny_loadName_free I.ok.kind hk hc hcell fin hcd) hd
theorem b0N {i j pos}:PE X (.Constant (.int i) j pos) (tC (.int i)):=fun _ _ _ H _ I h=>wpAny_Constant_int ⟨.int i,H,I.tok _,⟨_,rfl⟩,h⟩
theorem b8L {b j pos}:PE X (.Constant (.bool b) j pos) (tC (.bl b)):=fun _ _ _ H _ I h=>Constant_bool ⟨.bl b,H,I,rfl,h⟩
theorem b0L {x j pos}:PE X (.Constant (.str x) j pos) (tC (.str x)):=fun _ _ _ H _ I h=>Calls.Constant_str ⟨.str x,H,I.tok _,⟨_,rfl⟩,h⟩
def Gl (X:Cx) (x:Str):Prop:=X.env.kindOf x=some .globalImplicit
theorem oE {E:T0a} {pins:T0b} {s:Shared} {σ:St} {H:Hp} {x:Str} {u:Value} {pos:Pos} {Q:T0a} (I:Inv X pins σ H s) (hg:Gl X x) (hm:X.mg x=some u) (h:Q u s)
  (hd:(x==("__debug__" : Str))=false:=by decide):wpAny (model X.prog X.w) X.A (eval (.Name x pos) X.env) Q E s:=
 Calls.Name_function_global I.ok.kind hg (Calls.loadGlobal_global (by rw [I.ok.glob];exact I.mod.glob.keeps I.bk) hm h) hd
theorem mM {E:T0a} {pins:T0b} {s:Shared} {σ:St} {H:Hp} {x:Str} {u:Value} {pos:Pos} {Q:T0a} (I:Inv X pins σ H s) (hg:Gl X x) (hm:X.mg x=none) (hv:wm x=some u) (h:Q u s)
  (hn:x ≠ "__name__":=by decide) (hd:(x==("__debug__" : Str))=false:=by decide):wpAny (model X.prog X.w) X.A (eval (.Name x pos) X.env) Q E s:=by
 obtain ⟨mb,h1,h2⟩:=I.mod.blt;exact Calls.Name_function_global I.ok.kind hg (Calls.loadGlobal_builtin (by rw [I.ok.glob];exact I.mod.glob.keeps I.bk) hm (by rw [I.ok.blt];exact h1.keeps I.bk) ((h2 x hn).trans hv) h) hd
theorem a7b {x:Str} {v:V} {u:Value} {pos:Pos} (hg:Gl X x) (hm:X.mg x=some u) (r:RelV v u) (hd:(x==("__debug__" : Str))=false:=by decide):PE X (.Name x pos) (tC v):=
 fun _ _ _ H _ I h=>oE I hg hm ⟨v,H,I,r,h⟩ hd
theorem a7d {x:Str} {v:V} {u:Value} {pos:Pos} (hg:Gl X x) (hm:X.mg x=none) (hv:wm x=some u) (r:RelV v u) (hn:x ≠ "__name__":=by decide) (hd:(x==("__debug__" : Str))=false:=by decide):PE X (.Name x pos) (tC v):=
 fun _ _ _ H _ I h=>mM I hg hm hv ⟨v,H,I,r,h⟩ hn hd
variable {a b:Expr} {ta tb:TE} {pos:Pos}
def tB (t:TE):TT:=fun σ H Q=>t σ H fun x H1=>∃ c,x=.bl c∧Q c H1
variable {tA tB':TT} {rest:T0l}
def b9G (t u:TT):TT:=fun σ H Q=>t σ H fun c H1=>if c=true then u σ H1 Q else Q false H1
def tOr (t u:TT):TT:=fun σ H Q=>t σ H fun c H1=>if c=true then Q true H1 else u σ H1 Q
def b9A (t:TT):TT:=fun σ H Q=>t σ H fun c H1=>Q (!c) H1
theorem b3g (ha:PT X a tA):PW X (.BoolOp .And [a] pos) tA:=by
 intro wh pins s σ H Q I h;refine isTrue_and (thn (ha pins s σ H Q I h) fun c s1 e=>?_);cases c with
 | true=>exact isTrue_and_nil e
 | false=>exact e
theorem b6k (ha:PT X a tA):PW X (.BoolOp .Or [a] pos) tA:=by
 intro wh pins s σ H Q I h;refine isTrue_or (thn (ha pins s σ H Q I h) fun c s1 e=>?_);cases c with
 | false=>exact isTrue_or_nil e
 | true=>exact e
theorem b6l (ha:PT X a tA) (hb:PW X (.BoolOp .And (b::rest) pos) tB'):PW X (.BoolOp .And (a::b::rest) pos) (b9G tA tB'):=by
 intro wh pins s σ H Q I h;refine isTrue_and (thn (ha pins s σ H _ I h) fun c s1 ⟨H1,I1,q1⟩=>?_);cases c with
 | true=>exact hb wh pins s1 σ H1 Q I1 q1
 | false=>exact ⟨H1,I1,q1⟩
theorem b8J (ha:PT X a tA) (hb:PW X (.BoolOp .Or (b::rest) pos) tB'):PW X (.BoolOp .Or (a::b::rest) pos) (tOr tA tB'):=by
 intro wh pins s σ H Q I h;refine isTrue_or (thn (ha pins s σ H _ I h) fun c s1 ⟨H1,I1,q1⟩=>?_);cases c with
 | true=>exact ⟨H1,I1,q1⟩
 | false=>exact hb wh pins s1 σ H1 Q I1 q1
theorem b6m (ha:PT X a tA):PT X (.UnaryOp .Not a pos) (b9A tA):=by
 intro pins s σ H Q I h;exact isTrue_not (ha pins s σ H (fun c H1=>Q (!c) H1) I h)
def b8v (ta tb:TE):TE:=fun σ H Q=>ta σ H fun x H1=>∃ c,x=.bl c∧if c=true then tb σ H1 Q else Q (.bl false) H1
def b8q (ta:TE):TE:=fun σ H Q=>ta σ H fun x H1=>∃ c,x=.bl c∧Q (.bl (!c)) H1
theorem b6w {op} {t:TE} (h:PE X a t):PE X (.BoolOp op [a] pos) t:=fun pins s σ H Q I hw=>BoolOp_one (h pins s σ H Q I hw)
theorem b6y (ha:PE X a ta) (hb:PE X (.BoolOp .And (b::rest) pos) tb):PE X (.BoolOp .And (a::b::rest) pos) (b8v ta tb):=by
 intro pins s σ H Q I h;refine BoolOp_and (thn (ha pins s σ H _ I h) fun v s1 ⟨x,H1,I1,r1,q1⟩=>?_);obtain ⟨c,rfl,q1⟩:=q1;cases r1;refine wl ?_;cases c with
 | true=>exact hb pins s1 σ H1 Q I1 q1
 | false=>exact ⟨.bl false,H1,I1,rfl,q1⟩
theorem b6x (ha:PE X a ta):PE X (.UnaryOp .Not a pos) (b8q ta):=by
 intro pins s σ H Q I h;refine UnaryOp_ (thn (ha pins s σ H _ I h) fun v s1 ⟨x,H1,I1,r1,q1⟩=>?_);obtain ⟨c,rfl,q1⟩:=q1;cases r1;exact not_of (wl ⟨.bl (!c),H1,I1,rfl,q1⟩)
end
def SqL (K:qC) (H:Hp) (a:Addr) (xs:List V):Prop:=
 Rd H a (.lst xs) ∨
  ∃ (o:Obj) (its:Array Value) (n:Nat),K.lookup a=some o∧o.cls=.type "list" ∧ o.dict=none∧o.data=.seq its n∧its.size≤j5∧aY xs its.toList
def SqT (K:qC) (H:Hp) (a:Addr) (xs:List V):Prop:=
 Rd H a (.tup xs) ∨
  ∃ (o:Obj) (its:Array Value) (n:Nat),K.lookup a=some o∧o.cls=.type "tuple" ∧ o.data=.seq its n∧its.size≤j5∧aY xs its.toList
def c0w:Value→Option V
 | .none=>some .non
 | .bool b=>some (.bl b)
 | .int i _=>some (.int i)
 | .str x _=>some (.str x)
 | .bytes b _=>some (.byt b)
 | .float b _=>some (.flt b)
 | .ref a=>some (.ref a)
 | .type n=>some (.ty n)
 | _=>none
theorem RelV.abs {x:V} {u:Value} (r:RelV x u):c0w u=some x:=by
 cases x with
 | non=>cases r;rfl
 | bl _=>cases r;rfl
 | int _=>obtain ⟨t,rfl⟩:=r;rfl
 | str _=>obtain ⟨t,rfl⟩:=r;rfl
 | byt _=>obtain ⟨t,rfl⟩:=r;rfl
 | flt _=>obtain ⟨t,rfl⟩:=r;rfl
 | ref _=>cases r;rfl
 | ty _=>cases r;rfl
theorem RelV.inj {x y:V} {u:Value} (r:RelV x u) (q:RelV y u):x=y:=qA (r.abs.symm.trans q.abs)
theorem aY.inj:∀ {xs ys:List V} {us:T0k},aY xs us→aY ys us→xs=ys
 | _,_,_,.nil,.nil=>rfl
 | _,_,_,.cons r t,.cons r' t'=>by rw [r.inj r',aY.inj t t']
section
variable {X:Cx} {pins:T0b} {σ:St} {H:Hp} {s:Shared} {a:Addr} {xs ys:List V}
theorem SqL.of {K:qC} (h:H a=some (.lst xs)):SqL K H a xs:=.inl (.inl h)
theorem SqT.of {K:qC} (h:H a=some (.tup xs)):SqT K H a xs:=.inl (.inl h)
theorem Inv.list (I:Inv X pins σ H s) (h:SqL X.K H a xs):∃ its:List Value,aY xs its∧PlainL s.heap a its.toArray∧xs.length≤j5:=by
 rcases h with h | ⟨o,its,n,hk,hc,hd,hs,hz,r⟩
 ·obtain ⟨z,its,n,r,e⟩:=h.ok I.hok
  exact ⟨its,r,⟨_,n,e,rfl,rfl,rfl⟩,z⟩
 ·refine ⟨its.toList,r,⟨o,n,I.kIn a o hk,hc,hd,by simpa using hs⟩,?_⟩
  have e:=r.length;simp only [qN] at e;omega
theorem Inv.tuple (I:Inv X pins σ H s) (h:SqT X.K H a xs):∃ its:List Value,aY xs its∧IsTup s.heap a its.toArray∧xs.length≤j5:=by
 rcases h with h | ⟨o,its,n,hk,hc,hs,hz,r⟩
 ·obtain ⟨z,its,r,p⟩:=h.ok I.hok
  exact ⟨its,r,p,z⟩
 ·refine ⟨its.toList,r,⟨o,I.kIn a o hk,hc,n,by simpa using hs⟩,?_⟩
  have e:=r.length;simp only [qN] at e;omega
theorem Inv.list_inj (I:Inv X pins σ H s) (h:SqL X.K H a xs) (h':SqL X.K H a ys):xs=ys:=by
 obtain ⟨its,r,⟨o,n,e,_,_,d⟩,_⟩:=I.list h;obtain ⟨its',r',⟨o',n',e',_,_,d'⟩,_⟩:=I.list h';rw [e] at e';cases e';rw [d] at d';injection d' with d1 _;have:its=its':=by simpa using congrArg wM d1
 subst this;exact r.inj r'
theorem Inv.tuple_inj (I:Inv X pins σ H s) (h:SqT X.K H a xs) (h':SqT X.K H a ys):xs=ys:=by
 obtain ⟨its,r,⟨o,e,_,n,d⟩,_⟩:=I.tuple h;obtain ⟨its',r',⟨o',e',_,n',d'⟩,_⟩:=I.tuple h';rw [e] at e';cases e';rw [d] at d';injection d' with d1 _;have:its=its':=by simpa using congrArg wM d1
 subst this;exact r.inj r'
end
abbrev Cx.wish (X:Cx) (E:T0a):Cx:={ X with xe:=E }
abbrev Cx.nox (X:Cx):Cx:=X.wish fun _ _=>False
theorem Cx.Ok.wish {X:Cx} (ok:X.Ok) (E:T0a):(X.wish E).Ok:=
 ⟨ok.mod,ok.kind,ok.glob,ok.blt,ok.above,ok.inj,ok.has,ok.cab,ok.hd,ok.frames,ok.stk,ok.exf,ok.bs,ok.bsz,ok.noex,ok.exfs,ok.funs,ok.frf⟩
theorem Cx.Ok.unwish {X:Cx} {E:T0a} (ok:(X.wish E).Ok):X.Ok:=
 ⟨ok.mod,ok.kind,ok.glob,ok.blt,ok.above,ok.inj,ok.has,ok.cab,ok.hd,ok.frames,ok.stk,ok.exf,ok.bs,ok.bsz,ok.noex,ok.exfs,ok.funs,ok.frf⟩
section
variable {X:Cx} {pins:T0b} {σ:St} {H:Hp} {s:Shared} {E:T0a}
theorem Inv.wish (I:Inv X pins σ H s) (E:T0a):Inv (X.wish E) pins σ H s:=⟨I.ok.wish E,I.os,I.bare,I.base,I.loc,I.cell,I.free,I.freeC,I.pin,I.hok,I.len⟩
theorem Inv.unwish (I:Inv (X.wish E) pins σ H s):Inv X pins σ H s:=⟨I.ok.unwish,I.os,I.bare,I.base,I.loc,I.cell,I.free,I.freeC,I.pin,I.hok,I.len⟩
theorem SP.unwish {D:Ends} {f:Flow} {s':Shared} (h:SP (X.wish E) pins D f s'):SP X pins D f s':=by
 cases f with
 | next=>obtain ⟨σ',H',I,q⟩:=h;exact ⟨σ',H',I.unwish,q⟩
 | brk=>obtain ⟨σ',H',I,q⟩:=h;exact ⟨σ',H',I.unwish,q⟩
 | cont=>obtain ⟨σ',H',I,q⟩:=h;exact ⟨σ',H',I.unwish,q⟩
 | ret u=>obtain ⟨v,σ',H',I,r,q⟩:=h;exact ⟨v,σ',H',I.unwish,r,q⟩
theorem PSs.nox {st:List Stmt} {t:TS} (h:PSs X.nox st t):PSs X st t:=fun pins s σ H D I hw=>
 v6 (h pins s σ H D (I.wish _) hw) (fun _ _ q=>q.unwish) fun _ _ z=>qw z
end
section
variable {X:Cx} {st:Stmt} {rest:List Stmt} {t u:TS} {e:Expr} {te:TE} {pos:Pos}
def b8s:TS:=fun D σ H=>D.nx σ H
theorem b3m:PSs X [] b8s:=fun _ _ σ H _ I h=>ur ⟨σ,H,I,h⟩
theorem b3l (h1:PS X st t):PSs X [st] t:=by
 intro pins s σ H D I h;refine yk (thn (h1 pins s σ H D I h) fun f s1 q=>?_);cases f with
 | next=>exact ur q
 | ret v=>exact q
 | brk=>exact q
 | cont=>exact q
theorem Inv.quiet {pins:T0b} {σ:St} {H:Hp} {s:Shared} (I:Inv X pins σ H s):interactive X.env=false:=by simp [interactive,I.ok.kind]
def b8t (te:TE):TS:=fun D σ H=>te σ H fun _ H1=>D.nx σ H1
theorem tM (he:PE X e te) (hs:wz e none pos.line X.env=pure false:=by rfl):PS X (.Expr e pos) (b8t te):=by
 intro pins s σ H D I h;exact wpAny_Expr_any (thn (he pins s σ H _ I h) fun v s1 ⟨x,H1,I1,r1,q1⟩=>⟨σ,H1,I1,q1⟩) I.quiet hs
def b9y (te:TE):TS:=fun D σ H=>te σ H D.rt
theorem b6n (he:PE X e te):PS X (.Return (some e) pos) (b9y te):=by
 intro pins s σ H D I h;exact u5 (thn (he pins s σ H _ I h) fun v s1 ⟨x,H1,I1,r1,q1⟩=>⟨x,σ,H1,I1,r1,q1⟩)
def b9C (c:TT) (t u:TS):TS:=fun D σ H=>c σ H fun b H1=>if b=true then t D σ H1 else u D σ H1
theorem b8K {c:Expr} {a b:List Stmt} {tc:TT} (hc:PT X c tc) (ha:PSs X a t) (hb:PSs X b u):PS X (.If c a b pos) (b9C tc t u):=by
 intro pins s σ H D I h;refine wpAny_If (thn (hc pins s σ H _ I h) fun d s1 ⟨H1,I1,q1⟩=>?_);cases d with
 | true=>exact ha pins s1 σ H1 D I1 q1
 | false=>exact hb pins s1 σ H1 D I1 q1
end
abbrev TG:=V→St→Hp→(St→Hp→Prop)→Prop
abbrev TGs:=List V→St→Hp→(St→Hp→Prop)→Prop
def PG (X:Cx) (target:Expr) (t:TG):Prop:=
 ∀ (pins:T0b) (s:Shared) (σ:St) (H:Hp) (v:V) (u:Value) (Q:St→Hp→Prop),Inv X pins σ H s→RelV v u→t v σ H Q →
  wpAny (model X.prog X.w) X.A (assign target X.env u) (fun _ s'=>∃ σ' H',Inv X pins σ' H' s'∧Q σ' H') X.xe s
def PGs (X:Cx) (ts:T0l) (t:TGs):Prop:=
 ∀ (pins:T0b) (s:Shared) (σ:St) (H:Hp) (vs:List V) (us:T0k) (Q:St→Hp→Prop),Inv X pins σ H s→aY vs us→t vs σ H Q →
  wpAny (model X.prog X.w) X.A (assignInOrder ((wq ts X.env).map (·.2)) us) (fun _ s'=>∃ σ' H',Inv X pins σ' H' s'∧Q σ' H') X.xe s
abbrev b8c:=V→V→V→Hp→(Hp→Prop)→Prop
def b9j (X:Cx) (t:b8c):Prop:=
 ∀ (pins:T0b) (s:Shared) (σ:St) (H:Hp) (o i v:V) (ov iv u:Value) (Q:Hp→Prop),Inv X pins σ H s→RelV o ov→RelV i iv→RelV v u→t o i v H Q →
  wpAny (model X.prog X.w) X.A (setItem ov iv u) (fun _ s'=>∃ H',Inv X pins σ H' s'∧Q H') X.xe s
abbrev TIp:=V→V→Hp→VK→Prop
def PIp (X:Cx) (op:Operator) (t:TIp):Prop:=
 ∀ (pins:T0b) (s:Shared) (σ:St) (H:Hp) (x y:V) (v u:Value) (Q:VK),Inv X pins σ H s→RelV x v→RelV y u→t x y H Q →
  wpAny (model X.prog X.w) X.A (inplaceOp op v u) (EP X pins σ Q) X.xe s
section
variable {X:Cx} {pos:Pos}
def b1J (i:Nat):TG:=fun v σ H Q=>Q (σ.set i (some v)) H
theorem b3t {i:Nat} {x:Str} (hN:X.N.Nodup) (hi:X.N[i]?=some x) (hx:Loc X.env.scope x) (hf:X.fn x=true∨X.env.scope.names.lookup x=some .local:=by first | exact .inl rfl | exact .inr rfl | assumption):PG X (.Name x pos) (b1J i):=by
 intro pins s σ H v u Q I r h;exact wpAny_assign_Name (mT I hN hi hx r (fun s' I'=>⟨_,H,I',h⟩) hf)
def c0q:TGs:=fun vs σ H Q=>vs=[]∧Q σ H
def b9d (t:TG) (u:TGs):TGs:=fun vs σ H Q=>∃ v r,vs=v::r∧t v σ H fun σ' H'=>u r σ' H' Q
theorem b3r:PGs X [] c0q:=by
 intro pins s σ H vs us Q I r h;obtain ⟨e,h⟩:=h;subst e;cases r;exact assignInOrder_nil ⟨σ,H,I,h⟩
theorem b0K {e:Expr} {es:T0l} {t:TG} {u:TGs} (h1:PG X e t) (h2:PGs X es u)
  (hs:(wq (e::es) X.env).map (·.2)=assign e X.env::(wq es X.env).map (·.2):=by rfl):PGs X (e::es) (b9d t u):=by
 intro pins s σ H vs us Q I r h;obtain ⟨v,vr,e1,h⟩:=h;subst e1;cases r with
 | cons r rr=>
  rw [hs];refine uw (thn (h1 pins s σ H _ _ _ I r h) fun _ s1 ⟨σ1,H1,I1,q1⟩=>?_);exact h2 pins s1 σ1 H1 _ _ Q I1 rr q1
def c0o (K:qC) (n:Nat) (t:TGs):TG:=fun v σ H Q=>∃ a xs,v=.ref a∧SqT K H a xs∧xs.length=n∧t xs σ H Q
theorem b6s {es:T0l} {k:Nat} {t:TGs} {n:Nat} (hc:X.calm=true) (h:PGs X es t)
  (hn:(wq es X.env).length=n:=by rfl) (hst:(wq es X.env).findIdx? (·.1)=none:=by rfl):PG X (.Tuple es k pos) (c0o X.K n t):=by
 intro pins s σ H v u Q I r hw;obtain ⟨a,xs,e1,hq,hl,hw⟩:=hw;subst e1;cases r;obtain ⟨its,rv,ht,hz⟩:=I.tuple hq;refine assign_Tuple_tuple (I.ok.hd hc) ht (by simp [hn,←hl,rv.length]) hst fun h' hx=>?_;have I1:Inv X pins σ H { s with heap:=h' }:=I.kept (t':=s.toks) fun b o e=>hx b o (qa (qG e)) e;exact h pins _ σ H xs _ Q I1 (by simpa using rv) hw
def c0p (to ti:TE) (t:b8c):TG:=fun v σ H Q=>to σ H fun o H1=>ti σ H1 fun i H2=>t o i v H2 fun H3=>Q σ H3
theorem b6t {o i:Expr} {to ti:TE} {t:b8c} (ho:PE X o to) (hi:PE X i ti) (hs:b9j X t)
  (ha:∀ v,assign (.Subscript o i pos) X.env v=(do
   let ov ←holding [v] (eval o X.env)
   let iv ←holding [v,ov] (eval i X.env)
   standAt pos
   holding [v,ov,iv] (setItem ov iv v)
   release [v,ov,iv] []):=by intro _;rfl):PG X (.Subscript o i pos) (c0p to ti t):=by
 intro pins s σ H v u Q I r h;rw [ha];refine q8 (j9 (thn (ho pins s σ H _ I h) fun ov s1 ⟨x,H1,I1,r1,q1⟩=>?_));refine q8 (j9 (thn (hi pins s1 σ H1 _ I1 q1) fun iv s2 ⟨y,H2,I2,r2,q2⟩=>?_));refine q8 (yf (q8 (j9 (thn (hs pins s2 σ H2 x y v ov iv u _ I2 r1 r2 r q2) fun _ s3 ⟨H3,I3,q3⟩=>?_))));exact wpAny_release ⟨σ,H3,I3,q3⟩
def b6c (te:TE) (g:TG):TS:=fun D σ H=>te σ H fun x H1=>g x σ H1 D.nx
theorem b0F {tg e:Expr} {te:TE} {g:TG} (he:PE X e te) (hg:PG X tg g) (hs:ul [tg] e pos.line X.env=pure false:=by rfl) (hw:uk [tg] e X.env=pure none:=by rfl)
  (h1:(wq [tg] X.env).map (·.2)=[assign tg X.env]:=by rfl):PS X (.Assign [tg] e pos) (b6c te g):=by
 intro pins s σ H D I h;refine wpAny_Assign_stores (thn (he pins s σ H _ I h) fun v s1 ⟨x,H1,I1,r1,q1⟩=>?_) hs hw;rw [h1];exact thn (hg pins s1 σ H1 x v _ I1 r1 q1) fun _ s2 q=>q
theorem a3j {i:Nat} {x:Str} {e:Expr} {te:TE} {pos':Pos} (hN:X.N.Nodup) (hi:X.N[i]?=some x) (hx:Loc X.env.scope x) (he:PE X e te) (hs:wz e (some (.Name x pos')) pos.line X.env=pure false:=by rfl) (hf:X.fn x=true∨X.env.scope.names.lookup x=some .local:=by first | exact .inl rfl | exact .inr rfl | assumption) :
  PS X (.Assign [.Name x pos'] e pos) (b6c te (b1J i)):=by
 intro pins s σ H D I h;refine wpAny_Assign_Name (thn (he pins s σ H _ I h) fun v s1 ⟨y,H1,I1,r1,q1⟩=>?_) hs;exact mT I1 hN hi hx r1 (fun s2 I2=>⟨_,H1,I2,q1⟩) hf
def b9z (i j:Nat) (ta:TA):TS:=fun D σ H=>ta σ H fun vs H1=>∃ v w,vs=[v,w]∧D.nx ((σ.set i (some v)).set j (some w)) H1
theorem b6o {i j:Nat} {x y:Str} {a b:Expr} {ta:TA} {px py pt:Pos} {kt k2 pt2} (hc:X.calm=true) (hN:X.N.Nodup) (hi:X.N[i]?=some x) (hj:X.N[j]?=some y) (hij:i≠j)
  (hx:X.env.scope.names.lookup x=some .local) (hy:X.env.scope.names.lookup y=some .local) (ha:PA X [a,b] ta)
  (hw:uk [.Tuple [.Name x px,.Name y py] kt pt] (.Tuple [a,b] k2 pt2) X.env=pure (some [x,y]))
  (hs:ul [.Tuple [.Name x px,.Name y py] kt pt] (.Tuple [a,b] k2 pt2) pos.line X.env=pure false:=by rfl) :
  PS X (.Assign [.Tuple [.Name x px,.Name y py] kt pt] (.Tuple [a,b] k2 pt2) pos) (b9z i j ta):=by
 intro pins s σ H D I h;rw [exec_Assign_arm];refine q8 (yf ?_);rw [hs];refine q8 (j3 ?_);rw [if_neg (by decide)];refine q8 (Tuple_ (thn (ha _ pins s σ H _ I h) fun us s1 ⟨vs,H1,I1,r1,q1⟩=>?_));obtain ⟨v,w,e1,q1⟩:=q1;subst e1;obtain ⟨u1,u2,rfl,rv,rw'⟩:∃ u1 u2,us=[u1,u2]∧RelV v u1∧RelV w u2:=by
  cases r1 with
  | cons p q=>
   cases q with
   | cons p' q'=>
    cases q';exact ⟨_,_,rfl,p,p'⟩
 refine j7 ?_ (by show 2≤j5;decide);have I2:Inv X pins σ H1 { s1 with heap:=s1.heap.push { cls:=.type "tuple", data:=.seq [u1,u2].toArray } }:=I1.kept (t':=s1.toks) fun b o e=>qB _ e;rw [hw];refine q8 (j3 ?_);show wpAny (model X.prog X.w) X.A (do rule "assign.swapped-stores"; let items ←unpackItems (.ref s1.heap.objs.size) 2 none;assignInOrder [fun v=>bindName X.env y v,fun v=>bindName X.env x v] items.reverse;pure Flow.next) _ _ _;refine q8 (ww (q8 (unpackItems_tuple (items:=#[u1,u2]) (I.ok.hd hc) (IsTup.new s1.heap _) fun h' hx'=>?_)));have I3:=I2.kept (h':=h') (t':=s1.toks) fun b o e=>hx' b o (qa (qG e)) e;show wpAny _ _ (assignInOrder [fun v=>bindName X.env y v,fun v=>bindName X.env x v] [u2,u1]>>=fun _=>pure Flow.next) _ _ _;refine q8 (uw (wpAny_bindName (mT I3 hN hj (.inl hy) rw' (fun s2 I4=>?_) (.inr hy))));refine uw (wpAny_bindName (mT I4 hN hi (.inl hx) rv (fun s3 I5=>assignInOrder_nil (j3 ?_)) (.inr hx)));rw [List.set_comm _ _ (jm hij)] at I5;exact ⟨_,H1,I5,q1⟩
def b9F (i:Nat) (te:TE) (ti:TIp):TS:=fun D σ H=>∃ x,σ[i]?=some (some x)∧te σ H fun y H1=>ti x y H1 fun z H2=>D.nx (σ.set i (some z)) H2
theorem b0E {i:Nat} {x:Str} {e:Expr} {te:TE} {op:Operator} {ti:TIp} {pos':Pos} (hN:X.N.Nodup) (hi:X.N[i]?=some x) (hx:Loc X.env.scope x) (he:PE X e te) (ho:PIp X op ti) (hf:X.fn x=true∨X.env.scope.names.lookup x=some .local:=by first | exact .inl rfl | exact .inr rfl | assumption) :
  PS X (.AugAssign (.Name x pos') op e pos) (b9F i te ti):=by
 intro pins s σ H D I h;obtain ⟨v,e1,h⟩:=h;obtain ⟨m,hn,hl⟩:=I.loc;have vis:Vis X.env.scope x:=by rcases hx with k | k;exact .inl k;exact .inr (.inl k)
 obtain ⟨u,r,l⟩:=hl i x v hi e1 vis;refine wpAny_AugAssign_Name ?_;have go:wpAny (model X.prog X.w) X.A (eval e X.env) (fun w s₂=>wpAny (model X.prog X.w) X.A (inplaceOp op u w) (fun r s₃=>wpAny (model X.prog X.w) X.A (storeName X.env x r) (fun _=>SP X pins D .next) X.xe s₃) X.xe s₂) X.xe s:=by
  refine thn (he pins s σ H _ I h) fun w s1 ⟨y,H1,I1,r1,q1⟩=>?_;refine thn (ho pins s1 σ H1 v y u w _ I1 r r1 q1) fun z s2 ⟨zv,H2,I2,r2,q2⟩=>?_;exact mT I2 hN hi hx r2 (fun s3 I3=>⟨_,H2,I3,q2⟩) hf
 rcases l with ⟨hk,hm⟩ | ⟨hk,c,hc,hcell⟩
 ·exact wpAny_loadName_local I.ok.kind hk hn hm go
 ·rcases hk with hk | hk
  ·exact wpAny_loadName_cell I.ok.kind hk hc hcell go
  ·rcases hx with k | k
   ·have:X.env.scope.names.lookup x=some .free:=hk
    rw [k] at this;cases this
   ·have:X.env.scope.names.lookup x=some .free:=hk
    rw [k] at this;cases this
def ipI (f:Int→Int→Int):TIp:=fun x y H Q=>∃ i j,x=.int i∧y=.int j∧Q (.int (f i j)) H
theorem b7q:PIp X .Add (ipI fun i j=>i+j):=by
 intro pins s σ H x y v u Q I r1 r2 h;obtain ⟨i,j,e1,e2,q⟩:=h;subst e1;subst e2;obtain ⟨t,rfl⟩:=r1;obtain ⟨t',rfl⟩:=r2;exact iadd_int ⟨.int _,H,I.tok _,⟨_,rfl⟩,q⟩
theorem b7p:PIp X .Sub (ipI fun i j=>i - j):=by
 intro pins s σ H x y v u Q I r1 r2 h;obtain ⟨i,j,e1,e2,q⟩:=h;subst e1;subst e2;obtain ⟨t,rfl⟩:=r1;obtain ⟨t',rfl⟩:=r2;exact isub_int ⟨.int _,H,I.tok _,⟨_,rfl⟩,q⟩
end
section
variable {X:Cx} {pos:Pos}
def b6b (c:TT) (tb:TS):TS:=fun D σ H=>∃ W:Nat→St→Hp→Prop,(∃ m,W m σ H)∧∀ m σ H,W m σ H →
 c σ H fun b H1=>if b=true then ∃ N:St→Hp→Prop,(∀ σ' H',N σ' H'→∃ m',m'<m∧W m' σ' H')∧tb { D with nx:=N,ct:=N,bk:=D.nx } σ H1 else D.nx σ H1
theorem b0D {c:Expr} {body:List Stmt} {tc:TT} {tb:TS} (hp:PassesOwn (model X.prog X.w) X.A X.env X.xe) (hc:PT X c tc) (hb:PSs X body tb):PS X (.While c body [] pos) (b6b tc tb):=by
 intro pins s σ H D I h;obtain ⟨W,⟨m0,w0⟩,turn⟩:=h;refine wpAny_While (codeAny_whileLoop (fun n s'=>∃ σ' H',Inv X pins σ' H' s'∧W n σ' H') ?_ m0 ⟨σ,H,I,w0⟩);rintro n s1 ⟨σ1,H1,I1,w1⟩;refine yc hp (thn (hc pins s1 σ1 H1 _ I1 (turn n σ1 H1 w1)) fun b s2 ⟨H2,I2,q2⟩=>?_);cases b with
 | true=>
  obtain ⟨N,hN,q2⟩:=q2;rw [if_pos rfl];refine yc hp (thn (hb pins s2 σ1 H2 _ I2 q2) fun f s3 q3=>?_);cases f with
  | next=>
   obtain ⟨σ3,H3,I3,n3⟩:=q3;obtain ⟨m',hm,w3⟩:=hN σ3 H3 n3;exact ⟨m',hm,σ3,H3,I3,w3⟩
  | cont=>
   obtain ⟨σ3,H3,I3,n3⟩:=q3;obtain ⟨m',hm,w3⟩:=hN σ3 H3 n3;exact ⟨m',hm,σ3,H3,I3,w3⟩
  | brk=>exact q3
  | ret v=>exact q3
 | false=>
  rw [if_neg qc];exact ur ⟨σ1,H2,I2,q2⟩
end
structure It where
 go:Nat→Hp→Prop
 yld:Nat→Hp→V→Hp→Prop
 stop:Nat→Hp→Prop
def tE (X:Cx) (pins:T0b) (H:Hp) (b:Addr):Prop:=
 H b=none∧b≠X.env.locals∧b∉X.fs∧(b∈X.ex∨X.s₀.heap.objs.size≤b)∧(∀ x c,X.env.cells.lookup x=some c→c≠b)∧∀ p∈X.pn++pins,p.1≠b
theorem Inv.fpOk {X:Cx} {pins:T0b} {σ:St} {H H':Hp} {s:Shared} {b:Addr} (I:Inv X pins σ H s) (hb:s.heap.objs.size≤b) (hn:H' b=none):tE X pins H' b:=by
 refine ⟨hn,jc (qT I.lt hb),I.nofs hb,.inr (ql I.sz hb),fun x c e z=>?_,fun p hp z=>?_⟩
 ·obtain ⟨v,q⟩:=I.cell x c e
  exact absurd (qT q.lt (by rw [z];exact hb)) (jN _)
 ·exact absurd (qT (qG (I.pin p hp).1) (by rw [z];exact hb)) (jN _)
structure Turn (P:Program) (w:World) (K:qC) (tg:Expr) (J:It) (fp:T0m) (it:Addr) (tn:Nat→Heap→Prop):Prop where
 mem:it∈fp
 obj:∀ i h,tn i h→∀ b∈fp,∃ o,h.get? b=some o∧∀ v,o.data≠.cell v
 keep:∀ i h h',tn i h→(∀ b∈fp,∀ o,h.get? b=some o→h'.get? b=some o)→tn i h'
 item:∀ (X:Cx),X.prog=P→X.w=w→X.K=K→X.calm=true→∀ (i:Nat) (pins:T0b) (s:Shared) (σ:St) (H:Hp) (E:T0a),Inv X pins σ H s→(∀ b∈fp,tE X pins H b)→tn i s.heap→J.go i H →
  wpAny (model P w) X.A (yi (.ref it)) (fun r s1=>∃ u,r=some u ∧
   wpAny (model P w) X.A (letOwnedTupleGo tg (.ref it) u) (fun _ s2=>∃ x H',Inv X pins σ H' s2∧RelV x u∧J.yld i H x H'∧tn (i+1) s2.heap∧∀ b∈fp,H' b=none) E s1) E s
 done:∀ (X:Cx),X.prog=P→X.w=w→X.K=K→X.calm=true→∀ (i:Nat) (pins:T0b) (s:Shared) (σ:St) (H:Hp) (E:T0a),Inv X pins σ H s→(∀ b∈fp,tE X pins H b)→tn i s.heap→J.stop i H →
  wpAny (model P w) X.A (yi (.ref it)) (fun r s1=>r=none∧Inv X pins σ H s1) E s
 self:∀ (A:Around) (i:Nat) (s:Shared) (Q:T0a) (E:T0a),tn i s.heap→Q (.ref it) s→wpAny (model P w) A (pyIter (.ref it)) Q E s
abbrev TI:=St→Hp→(It→Hp→Prop)→Prop
def PIE (X:Cx) (pins:T0b) (σ:St) (tg:Expr) (R:It→Hp→Prop) (itv:Value) (s2:Shared):Prop:=
 ∃ (it:Addr) (fp:T0m) (tn:Nat→Heap→Prop) (J:It) (H':Hp),itv=.ref it∧Inv X pins σ H' s2∧Turn X.prog X.w X.K tg J fp it tn∧tn 0 s2.heap∧(∀ b∈fp,tE X pins H' b)∧R J H'
def PI (X:Cx) (tg iter:Expr) (wi:TI):Prop:=
 ∀ (pins:T0b) (s:Shared) (σ:St) (H:Hp) (R:It→Hp→Prop),Inv X pins σ H s→wi σ H R →
  wpAny (model X.prog X.w) X.A (eval iter X.env) (fun v s1=>wpAny (model X.prog X.w) X.A (pyIter v) (PIE X pins σ tg R) X.xe s1) X.xe s
theorem b1G {M:Model} {A:Around} {E:T0a} {s:Shared} {tg:Expr} {it:Addr} {u:Value} {o:Obj} {n:String} {vs:Array Value} {Q:Unit→Shared→Prop} (ho:s.heap.get? it=some o) (hc:o.cls=.type n) (hd:o.data=.fields vs)
  (hn:["enumerate", "zip", "dict_itemiterator", "dict_reverseitemiterator", "odict_iterator", "itertools.zip_longest", "itertools.pairwise"].contains n=false) (hQ:Q () s):wpAny M A (letOwnedTupleGo tg (.ref it) u) Q E s:=by
 unfold letOwnedTupleGo;cases tg<;>first
  | exact j3 hQ
  | (cases u<;>first
    | exact j3 hQ
    | (refine q8 (wpAny_load ho ?_);rw [hc,hd];show wpAny M A (if (["enumerate", "zip", "dict_itemiterator", "dict_reverseitemiterator", "odict_iterator", "itertools.zip_longest", "itertools.pairwise"].contains n&&vs[0]?==some (v7 _))=true then _ else _) Q E s;rw [if_neg (by intro h;rw [hn,Bool.false_and] at h;cases h)];exact j3 hQ))
def Itl (K:qC) (a:Addr):It:=
 ⟨fun i H=>∃ xs x,SqL K H a xs∧xs[i]?=some x,fun i H x H'=>H'=H∧∀ xs,SqL K H a xs→xs[i]?=some x,fun i H=>∃ xs,SqL K H a xs∧xs.length≤i⟩
def Itt (K:qC) (a:Addr):It:=
 ⟨fun i H=>∃ xs x,SqT K H a xs∧xs[i]?=some x,fun i H x H'=>H'=H∧∀ xs,SqT K H a xs→xs[i]?=some x,fun i H=>∃ xs,SqT K H a xs∧xs.length≤i⟩
def Itr (lo:Int) (n:Nat):It:=⟨fun i _=>i<n,fun i H x H'=>H'=H∧x=.int (lo+i),fun i _=>n≤i⟩
theorem a7Y {P:Program} {w:World} {K:qC} {tg:Expr} (a it:Addr):Turn P w K tg (Itl K a) [it] it (fun i h=>h.IsListIter it a i) where
 mem:=by simp
 obj:=fun i h st b hb=>by
  have e:b=it:=by simpa using hb
  subst e;obtain ⟨o,e,c,d⟩:=st;exact ⟨o,e,fun v z=>by rw [d] at z;cases z⟩
 keep:=fun i h h' st k=>st.at fun o e=>k it (by simp) o e
 item:=by
  intro X hP hw hK hc i pins s σ H E I hf st hg;subst hP hw hK;obtain ⟨xs,x,hq,hx⟩:=hg;obtain ⟨its,rv,p,hz⟩:=I.list hq;obtain ⟨u,hu,ru⟩:=rv.get hx;obtain ⟨f0,f1,f2,f3,f4,f5⟩:=hf it (by simp);refine wpAny_pyNext_list_item st p.isList (x:=u) (by simpa using hu) fun h' st' sb=>?_;have I1:Inv X pins σ H { s with heap:=h' }:=I.turned (t':=s.toks) (fun b o hb e=>(sb.2 b hb).trans e) f0 f1 f3 f4 f5;obtain ⟨o,e,c,d⟩:=id st';exact ⟨u,rfl,b1G (s:={ s with heap:=h' }) e c d (by decide) ⟨x,H,I1,ru,⟨rfl,fun ys hy=>by rw [I.list_inj hy hq];exact hx⟩,st',fun b hb=>(hf b hb).1⟩⟩
 done:=by
  intro X hP hw hK hc i pins s σ H E I hf st hg;subst hP hw hK;obtain ⟨xs,hq,hx⟩:=hg;obtain ⟨its,rv,p,hz⟩:=I.list hq;obtain ⟨f0,f1,f2,f3,f4,f5⟩:=hf it (by simp);have hl:=rv.length;exact wpAny_pyNext_list_end (I.ok.hd hc) st p.isList (by simp;omega) fun h' eb=>⟨rfl,I.turned (t':=s.toks) (fun b o hb e=>eb b o hb e) f0 f1 f3 f4 f5⟩
 self:=fun _ _ _ _ _ st h=>wpAny_pyIter_listiter st h
theorem a5F {P:Program} {w:World} {K:qC} {tg:Expr} (a it:Addr):Turn P w K tg (Itt K a) [it] it (fun i h=>h.IsTupleIter it a i) where
 mem:=by simp
 obj:=fun i h st b hb=>by
  have e:b=it:=by simpa using hb
  subst e;obtain ⟨o,e,c,d⟩:=st;exact ⟨o,e,fun v z=>by rw [d] at z;cases z⟩
 keep:=fun i h h' st k=>st.at fun o e=>k it (by simp) o e
 item:=by
  intro X hP hw hK hc i pins s σ H E I hf st hg;subst hP hw hK;obtain ⟨xs,x,hq,hx⟩:=hg;obtain ⟨its,rv,p,hz⟩:=I.tuple hq;obtain ⟨u,hu,ru⟩:=rv.get hx;obtain ⟨f0,f1,f2,f3,f4,f5⟩:=hf it (by simp);refine wpAny_pyNext_tuple_item st (show s.heap.IsTuple a its.toArray from p) (x:=u) (by simpa using hu) fun h' st' sb=>?_;have I1:Inv X pins σ H { s with heap:=h' }:=I.turned (t':=s.toks) (fun b o hb e=>(sb.2 b hb).trans e) f0 f1 f3 f4 f5;obtain ⟨o,e,c,d⟩:=id st';exact ⟨u,rfl,b1G (s:={ s with heap:=h' }) e c d (by decide) ⟨x,H,I1,ru,⟨rfl,fun ys hy=>by rw [I.tuple_inj hy hq];exact hx⟩,st',fun b hb=>(hf b hb).1⟩⟩
 done:=by
  intro X hP hw hK hc i pins s σ H E I hf st hg;subst hP hw hK;obtain ⟨xs,hq,hx⟩:=hg;obtain ⟨its,rv,p,hz⟩:=I.tuple hq;obtain ⟨f0,f1,f2,f3,f4,f5⟩:=hf it (by simp);have hl:=rv.length;exact wpAny_pyNext_tuple_end (I.ok.hd hc) st (show s.heap.IsTuple a its.toArray from p) (by simp;omega) fun h' eb=>⟨rfl,I.turned (t':=s.toks) (fun b o hb e=>eb b o hb e) f0 f1 f3 f4 f5⟩
 self:=fun _ _ _ _ _ st h=>wpAny_pyIter_tupleiter st h
theorem a5G {P:Program} {w:World} {K:qC} {tg:Expr} (it:Addr) (lo:Int) (n:Nat):Turn P w K tg (Itr lo n) [it] it (fun i h=>IsRangeIter h it (lo+(i:Nat)*1) ((n:Int) - (i:Nat)) 1) where
 mem:=by simp
 obj:=fun i h st b hb=>by
  have e:b=it:=by simpa using hb
  subst e
  exact ⟨_,st,fun v z=>by
   have z':Data.fields _=Data.cell v:=z
   cases z'⟩
 keep:=fun i h h' st k=>k it (by simp) _ st
 item:=by
  intro X hP hw hK hc i pins s σ H E I hf st hg;subst hP hw hK;obtain ⟨f0,f1,f2,f3,f4,f5⟩:=hf it (by simp);have W:=Walks.range (prog:=X.prog) (w:=X.w) (I.ok.hd hc) it lo 1 n;refine W.item i s _ _ hg st fun v h' tk hv st' kk=>?_;obtain ⟨t,rfl⟩:=hv;have I1:Inv X pins σ H { s with heap:=h',toks:=tk }:=I.turned (fun b o hb e=>kk b o (by simpa using hb) e) f0 f1 f3 f4 f5;refine ⟨_,rfl,b1G (s:={ s with heap:=h',toks:=tk }) (n := "range_iterator") st' rfl rfl (by decide) ⟨.int (lo+i),H,I1,⟨t,?_⟩,⟨rfl,rfl⟩,st',fun b hb=>(hf b hb).1⟩⟩;rw [Int.mul_one]
 done:=by
  intro X hP hw hK hc i pins s σ H E I hf st hg;subst hP hw hK;obtain ⟨f0,f1,f2,f3,f4,f5⟩:=hf it (by simp);exact wpAny_pyNext_range_end (I.ok.hd hc) st (by have:n≤i:=hg;omega) fun h' eb=>⟨rfl,I.turned (t':=s.toks) (fun b o hb e=>eb b o hb e) f0 f1 f3 f4 f5⟩
 self:=fun _ _ _ _ _ st h=>wpAny_pyIter_rangeiter st h
section
variable {X:Cx} {tg:Expr}
def b9c (K:qC) (tl:TE):TI:=fun σ H R=>tl σ H fun x H1=>∃ a,x=.ref a∧(∃ xs,SqL K H1 a xs)∧R (Itl K a) H1
def c0n (K:qC) (tl:TE):TI:=fun σ H R=>tl σ H fun x H1=>∃ a,x=.ref a∧(∃ xs,SqT K H1 a xs)∧R (Itt K a) H1
theorem a7a {l:Expr} {tl:TE} (hl:PE X l tl):PI X tg l (b9c X.K tl):=by
 intro pins s σ H R I h;refine thn (hl pins s σ H _ I h) fun v s1 ⟨x,H1,I1,r1,q1⟩=>?_;obtain ⟨a,e,⟨xs,hq⟩,q⟩:=q1;subst e;cases r1;obtain ⟨its,rv,p,hz⟩:=I1.list hq;refine ua p.isList ?_;refine ⟨s1.heap.objs.size,[s1.heap.objs.size],_,_,H1,rfl,I1.kept (t':=s1.toks) fun b o e=>qB _ e,a7Y a _,⟨_,qJ _ rfl,rfl,rfl⟩,fun b hb=>?_,q⟩;have e:b=s1.heap.objs.size:=by simpa using hb
 subst e;exact I1.fpOk (qR _) (I1.hok.fresh (qR _))
theorem b6r {l:Expr} {tl:TE} (hl:PE X l tl):PI X tg l (c0n X.K tl):=by
 intro pins s σ H R I h;refine thn (hl pins s σ H _ I h) fun v s1 ⟨x,H1,I1,r1,q1⟩=>?_;obtain ⟨a,e,⟨xs,hq⟩,q⟩:=q1;subst e;cases r1;obtain ⟨its,rv,p,hz⟩:=I1.tuple hq;refine uz (show s1.heap.IsTuple a its.toArray from p) ?_;refine ⟨s1.heap.objs.size,[s1.heap.objs.size],_,_,H1,rfl,I1.kept (t':=s1.toks) fun b o e=>qB _ e,a5F a _,⟨_,qJ _ rfl,rfl,rfl⟩,fun b hb=>?_,q⟩;have e:b=s1.heap.objs.size:=by simpa using hb
 subst e;exact I1.fpOk (qR _) (I1.hok.fresh (qR _))
theorem b0y {pins:T0b} {σ:St} {H:Hp} {s:Shared} {R:It→Hp→Prop} {E:T0a} {lo hi:Int} {t u v:Tok} {tk:Nat} (I:Inv X pins σ H s) (h1:-(2 ^ 62)≤lo) (h2:lo<2 ^ 62) (h3:-(2 ^ 62)≤hi) (h4:hi<2 ^ 62)
  (q:R (Itr lo (hi - lo).toNat) H):wpAny (model X.prog X.w) X.A (pyIter (.ref s.heap.objs.size)) (PIE X pins σ tg R) E { s with heap:=s.heap.push { cls:=.type "range", data:=.fields #[.int lo t,.int hi u,.int 1 v] },toks:=tk }:=by
 refine wpAny_pyIter_range (IsRange.new ..) (small_one h1 h2 h3 h4) ?_;have I1:Inv X pins σ H { s with heap:=s.heap.push { cls:=.type "range", data:=.fields #[.int lo t,.int hi u,.int 1 v] },toks:=tk }:=I.kept fun b o e=>qB _ e
 refine ⟨(s.heap.push { cls:=.type "range", data:=.fields #[.int lo t,.int hi u,.int 1 v] }).objs.size,[(s.heap.push { cls:=.type "range", data:=.fields #[.int lo t,.int hi u,.int 1 v] }).objs.size],_,_,H,rfl,
  I1.kept (t':=tk) fun b o e=>qB _ e,a5G _ lo (hi - lo).toNat,?_,fun b hb=>?_,q⟩
 ·have e1:lo+((0:Nat):Int)*1=lo:=by simp
  have e2:(((hi - lo).toNat:Nat):Int) - ((0:Nat):Int)=Builtin.Range.rangeSize lo hi 1:=by rw [rangeSize_one];split<;>omega
  show IsRangeIter _ _ (lo+((0:Nat):Int)*1) ((((hi - lo).toNat:Nat):Int) - ((0:Nat):Int)) 1;rw [e1,e2];exact qJ _ rfl
 ·have e:b=(s.heap.push { cls:=.type "range", data:=.fields #[.int lo t,.int hi u,.int 1 v] }).objs.size:=by simpa using hb
  subst e;exact I1.fpOk (qR _) (I1.hok.fresh (qR _))
def b9b (ta:TA):TI:=fun σ H R=>ta σ H fun vs H1=>∃ j:Int,vs=[.int j]∧-(2 ^ 62)≤j∧j<2 ^ 62∧R (Itr 0 j.toNat) H1
theorem a8t {a:Expr} {ta:TA} {p pos:Pos} (hg:Gl X "range") (hm:X.mg "range" = none) (ha:PA X [a] ta) (hs:j4 [a] X.env=[(false,eval a X.env)]:=by rfl):PI X tg (.Call (.Name "range" p) [a] [] pos) (b9b ta):=by
 intro pins s σ H R I h;refine Call_ (mM I hg hm boot_range (kR (thn (ha pos pins s σ H _ I h) fun us s1 ⟨vs,H1,I1,r1,q1⟩=>?_) hs rfl));obtain ⟨j,e,q1,q2,q⟩:=q1;subst e;cases r1 with
 | cons r rr=>
  cases rr;obtain ⟨t,rfl⟩:=r;exact call_range_1 (b0y I1 (by omega) (by omega) q1 q2 (by simpa using q))
def b9E (wi:TI) (g:TG) (tb:TS):TS:=fun D σ H=>wi σ H fun J H1=>∃ W:Nat→Nat→St→Hp→Prop,(∃ m,W 0 m σ H1)∧∀ i m σ H,W i m σ H →
 (J.stop i H∧D.nx σ H)∨(J.go i H∧∃ N:St→Hp→Prop,(∀ σ' H',N σ' H'→∃ m',m'<m∧W (i+1) m' σ' H')∧∀ x H',J.yld i H x H'→g x σ H' fun σ2 H2=>tb { D with nx:=N,ct:=N,bk:=D.nx } σ2 H2)
def a0M (fp:T0m) (h:Heap):List (Addr×Obj):=fp.filterMap fun b=>(h.get? b).map fun o=>(b,o)
theorem oD {fp:T0m} {h:Heap} {b:Addr} {o:Obj} (hb:b∈fp) (e:h.get? b=some o):(b,o)∈a0M fp h:=vt.mpr ⟨b,hb,by rw [e];rfl⟩
theorem a8w {fp:T0m} {h:Heap} {p:Addr×Obj} (hp:p∈a0M fp h):p.1∈fp∧h.get? p.1=some p.2:=by
 obtain ⟨b,hb,e⟩:=vt.mp hp;cases q:h.get? b with
 | none=>rw [q] at e;cases e
 | some o=>
  rw [q] at e;have e':(b,o)=p:=qA e;subst e';exact ⟨hb,q⟩
theorem Inv.pinned {pins:T0b} {σ:St} {H:Hp} {s:Shared} {fp:T0m} (I:Inv X pins σ H s) (hf:∀ b∈fp,tE X pins H b) (ho:∀ b∈fp,∃ o,s.heap.get? b=some o∧∀ v,o.data≠.cell v):Inv X (pins++a0M fp s.heap) σ H s:=
 I.pins_of fun p hp=>(qu.mp hp).elim (fun z=>I.pin p (qe _ z)) fun z=>by
  obtain ⟨hb,e⟩:=a8w z;obtain ⟨f0,f1,f2,_⟩:=hf p.1 hb;obtain ⟨o,e',d⟩:=ho p.1 hb;rw [e] at e';cases e';exact ⟨e,f0,f1,f2,d⟩
theorem Inv.unpinned {pins pl:T0b} {σ:St} {H:Hp} {s:Shared} (I:Inv X (pins++pl) σ H s):Inv X pins σ H s:=I.pins_of fun p hp=>I.pin p (qe _ (jW _ hp))
theorem b6p {iter:Expr} {body:List Stmt} {wi:TI} {g:TG} {tb:TS} {pos:Pos} (hp:PassesOwn (model X.prog X.w) X.A X.env X.xe) (hc:X.calm=true) (hi:PI X tg iter wi) (hg:PG X tg g) (hb:PSs X body tb)
  (hs:∀ x,wj iter X.env x=pure x:=by intro _;rfl):PS X (.For tg iter body [] pos) (b9E wi g tb):=by
 intro pins s σ H D I h;refine wpAny_For (thn (hi pins s σ H _ I h) fun v s1 h1=>thn h1 fun itv s2 h2=>?_) hs;obtain ⟨it,fp,tn,J,H2,e,I2,T,st2,f2,W,⟨m0,w0⟩,turn⟩:=h2;subst e
 -- what stays true of the iterator's objects through the loop
 have stat:∀ {H':Hp},(∀ b∈fp,H' b=none)→∀ b∈fp,tE X pins H' b:=fun hn b hb=>⟨hn b hb,(f2 b hb).2⟩;refine codeAny_forLoop_any (fun n s'=>∃ i σ' H',Inv X pins σ' H' s'∧tn i s'.heap∧(∀ b∈fp,H' b=none)∧W i n σ' H') ?_ m0 ⟨0,σ,H2,I2,st2,fun b hb=>(f2 b hb).1,w0⟩;rintro n s3 ⟨i,σ3,H3,I3,st3,fr3,w3⟩;rcases turn i n σ3 H3 w3 with ⟨stop,qn⟩ | ⟨go,N,hN,step⟩
 ·refine yc hp (thn (T.done X rfl rfl rfl hc i pins s3 σ3 H3 X.xe I3 (stat fr3) st3 stop) fun r s4 ⟨hr,I4⟩=>?_)
  subst hr;exact ur ⟨σ3,H3,I4,qn⟩
 ·refine yc hp (thn (T.item X rfl rfl rfl hc i pins s3 σ3 H3 X.xe I3 (stat fr3) st3 go) fun r s4 ⟨u,hr,h4⟩=>?_)
  subst hr;refine yc hp (thn h4 fun _ s5 ⟨x,H5,I5,r5,y5,st5,fr5⟩=>?_);have I5':=I5.pinned (stat fr5) (T.obj _ _ st5);refine yc hp (thn (hg _ s5 σ3 H5 x u _ I5' r5 (step x H5 y5)) fun _ s6 ⟨σ6,H6,I6,q6⟩=>?_);refine yc hp (thn (hb _ s6 σ6 H6 _ I6 q6) fun f s7 q7=>?_);have again:∀ {σ7:St} {H7:Hp},Inv X (pins++a0M fp s5.heap) σ7 H7 s7→N σ7 H7→∃ m,m<n∧∃ i σ' H',Inv X pins σ' H' s7∧tn i s7.heap∧(∀ b∈fp,H' b=none)∧W i m σ' H':=fun {σ7 H7} I7 n7=>by
   obtain ⟨m',hm,w7⟩:=hN σ7 H7 n7;refine ⟨m',hm,i+1,σ7,H7,I7.unpinned,T.keep _ _ _ st5 fun b hb o e=>(I7.pin (b,o) (qe _ (qe _ (oD hb e)))).1,fun b hb=>?_,w7⟩;obtain ⟨o,e,d⟩:=T.obj _ _ st5 b hb;exact (I7.pin (b,o) (qe _ (qe _ (oD hb e)))).2.1
  cases f with
  | next=>obtain ⟨σ7,H7,I7,n7⟩:=q7;exact again I7 n7
  | cont=>obtain ⟨σ7,H7,I7,n7⟩:=q7;exact again I7 n7
  | brk=>obtain ⟨σ7,H7,I7,q7⟩:=q7;exact ⟨σ7,H7,I7.unpinned,q7⟩
  | ret v=>obtain ⟨x7,σ7,H7,I7,r7,q7⟩:=q7;exact ⟨x7,σ7,H7,I7.unpinned,r7,q7⟩
end
abbrev R2:=V→V→Hp→VK→Prop
def OpR (X:Cx) (f:Value→Value→Sem Value) (r:R2):Prop:=
 ∀ (pins:T0b) (s:Shared) (σ:St) (H:Hp) (x y:V) (v u:Value) (Q:VK),Inv X pins σ H s→RelV x v→RelV y u→r x y H Q →
  wpAny (model X.prog X.w) X.A (f v u) (EP X pins σ Q) X.xe s
def UnR (X:Cx) (f:Value→Sem Value) (r:V→Hp→VK→Prop):Prop:=
 ∀ (pins:T0b) (s:Shared) (σ:St) (H:Hp) (x:V) (v:Value) (Q:VK),Inv X pins σ H s→RelV x v→r x H Q →
  wpAny (model X.prog X.w) X.A (f v) (EP X pins σ Q) X.xe s
def eJ (X:Cx) (f:Value) (r:List V→Hp→VK→Prop):Prop:=
 ∀ (pins:T0b) (s:Shared) (σ:St) (H:Hp) (xs:List V) (us:T0k) (Q:VK),Inv X pins σ H s→aY xs us→r xs H Q →
  wpAny (model X.prog X.w) X.A (call f us) (EP X pins σ Q) X.xe s
def c0x (X:Cx) (r:V→Hp→(Bool→Hp→Prop)→Prop):Prop:=
 ∀ (pins:T0b) (s:Shared) (σ:St) (H:Hp) (x:V) (v:Value) (Q:Bool→Hp→Prop),Inv X pins σ H s→RelV x v→r x H Q →
  wpAny (model X.prog X.w) X.A (truthy v) (TP X pins σ Q) X.xe s
def tOp (r:R2) (ta tb:TE):TE:=fun σ H Q=>ta σ H fun x H1=>tb σ H1 fun y H2=>r x y H2 Q
def tUn (r:V→Hp→VK→Prop) (ta:TE):TE:=fun σ H Q=>ta σ H fun x H1=>r x H1 Q
def rI (C:Int→Int→Prop) (g:Int→Int→V):R2:=fun x y H Q=>∃ i j,x=.int i∧y=.int j∧C i j∧Q (g i j) H
def rI0 (g:Int→Int→V):R2:=fun x y H Q=>∃ i j,x=.int i∧y=.int j∧Q (g i j) H
def rU (g:Int→V):V→Hp→VK→Prop:=fun x H Q=>∃ i,x=.int i∧Q (g i) H
section
variable {X:Cx} {a b c:Expr} {ta tb tc:TE} {pos:Pos}
theorem b7W (ha:PE X a ta) (hb:PE X b tb) {pins:T0b} {s:Shared} {σ:St} {H:Hp} {R:V→V→Hp→Prop} (I:Inv X pins σ H s)
  (h:ta σ H fun x H1=>tb σ H1 fun y H2=>R x y H2) {Q:T0a} {f:Value→Value→Sem Value}
  (hf:∀ v u s2 x y H2,Inv X pins σ H2 s2→RelV x v→RelV y u→R x y H2→wpAny (model X.prog X.w) X.A (f v u) Q X.xe s2) :
  wpAny (model X.prog X.w) X.A (eval a X.env) (fun v s₁=>wpAny (model X.prog X.w) X.A (eval b X.env) (fun u s₂=>wpAny (model X.prog X.w) X.A (f v u) Q X.xe s₂) X.xe s₁) X.xe s:=by
 refine thn (ha pins s σ H _ I h) fun v s1 ⟨x,H1,I1,r1,q1⟩=>?_;refine thn (hb pins s1 σ H1 _ I1 q1) fun u s2 ⟨y,H2,I2,r2,q2⟩=>?_;exact hf v u s2 x y H2 I2 r1 r2 q2
theorem b5r {op:Operator} {r:R2} (ho:OpR X (yg op) r) (ha:PE X a ta) (hb:PE X b tb):PE X (.BinOp a op b pos) (tOp r ta tb):=by
 intro pins s σ H Q I h;exact wpAny_BinOp (b7W ha hb I h fun v u s2 x y H2 I2 rx ry q=>ho pins s2 σ H2 x y v u Q I2 rx ry q)
theorem b5q {op:UnaryOp} {r:V→Hp→VK→Prop} (ho:UnR X (unaryOp op) r) (ha:PE X a ta):PE X (.UnaryOp op a pos) (tUn r ta):=by
 intro pins s σ H Q I h;exact UnaryOp_ (thn (ha pins s σ H _ I h) fun v s1 ⟨x,H1,I1,r1,q1⟩=>ho pins s1 σ H1 x v Q I1 r1 q1)
theorem opI {f:Value→Value→Sem Value} {C:Int→Int→Prop} {g:Int→Int→Int}
  (rule:∀ (i j:Int) (t u:Tok) (s:Shared) (Q:T0a) (E:T0a),C i j→Q (.int (g i j) s.toks) { s with toks:=s.toks+1 }→wpAny (model X.prog X.w) X.A (f (.int i t) (.int j u)) Q E s) :
  OpR X f (rI C fun i j=>.int (g i j)):=by
 intro pins s σ H x y v u Q I rx ry h;obtain ⟨i,j,rfl,rfl,hc,q⟩:=h;obtain ⟨t,rfl⟩:=rx;obtain ⟨t',rfl⟩:=ry;exact rule i j t t' s _ _ hc ⟨.int (g i j),H,I.tok _,⟨_,rfl⟩,q⟩
theorem b8R {f:Value→Value→Sem Value} {g:Int→Int→Int}
  (rule:∀ (i j:Int) (t u:Tok) (s:Shared) (Q:T0a) (E:T0a),Q (.int (g i j) s.toks) { s with toks:=s.toks+1 }→wpAny (model X.prog X.w) X.A (f (.int i t) (.int j u)) Q E s) :
  OpR X f (rI0 fun i j=>.int (g i j)):=by
 intro pins s σ H x y v u Q I rx ry h;obtain ⟨i,j,rfl,rfl,q⟩:=h;obtain ⟨t,rfl⟩:=rx;obtain ⟨t',rfl⟩:=ry;exact rule i j t t' s _ _ ⟨.int (g i j),H,I.tok _,⟨_,rfl⟩,q⟩
theorem b6K {f:Value→Value→Sem Value} {g:Int→Int→Bool}
  (rule:∀ (i j:Int) (t u:Tok) (s:Shared) (Q:T0a) (E:T0a),Q (.bool (g i j)) s→wpAny (model X.prog X.w) X.A (f (.int i t) (.int j u)) Q E s) :
  OpR X f (rI0 fun i j=>.bl (g i j)):=by
 intro pins s σ H x y v u Q I rx ry h;obtain ⟨i,j,rfl,rfl,q⟩:=h;obtain ⟨t,rfl⟩:=rx;obtain ⟨t',rfl⟩:=ry;exact rule i j t t' s _ _ ⟨.bl (g i j),H,I,rfl,q⟩
def c0C (i j:Int):Prop:=0<j∧j<1073741824
def b8g (i j:Int):Prop:=(-(2 ^ 64)<i∧i<2 ^ 64)∨(-(2 ^ 64)<j∧j<2 ^ 64)
theorem b8g.ok {i j:Int} (h:b8g i j):IntMulOk i j:=by
 rcases h with ⟨h1,h2⟩ | ⟨h1,h2⟩
 ·exact .of_left (intBits_le_64 h1 h2)
 ·exact .of_right (intBits_le_64 h1 h2)
theorem b6J:OpR X (yg .Add) (rI0 fun i j=>.int (i+j)):=b8R fun _ _ _ _ _ _ _ q=>add_int q
theorem b6C:OpR X (yg .Sub) (rI0 fun i j=>.int (i - j)):=b8R fun _ _ _ _ _ _ _ q=>sub_int q
theorem b6F:OpR X (yg .Mult) (rI b8g fun i j=>.int (i*j)):=opI fun _ _ _ _ _ _ _ hc q=>mul_int q hc.ok
theorem b3B:OpR X (yg .FloorDiv) (rI c0C fun i j=>.int (i / j)):=opI fun i j _ _ _ _ _ hc q=>by
 have h1:(0:Int)<j:=hc.1;have h2:j<1073741824:=hc.2;exact floordiv_int (by omega) (by rw [Int.fdiv_eq_ediv_of_nonneg i (by omega)];exact q) (.inl (PyProof.noPylong_small (by omega)))
theorem b6G:OpR X (yg .Mod) (rI (fun _ j=>0<j) fun i j=>.int (i % j)):=opI fun i j _ _ _ _ _ hc q=>by
 have h1:(0:Int)<j:=hc;exact mod_int' (by omega) (by rw [Int.fmod_eq_emod_of_nonneg i (by omega)];exact q)
theorem unI {f:Value→Sem Value} {g:Int→Int}
  (rule:∀ (i:Int) (t:Tok) (s:Shared) (Q:T0a) (E:T0a),Q (.int (g i) s.toks) { s with toks:=s.toks+1 }→wpAny (model X.prog X.w) X.A (f (.int i t)) Q E s) :
  UnR X f (rU fun i=>.int (g i)):=by
 intro pins s σ H x v Q I rx h;obtain ⟨i,rfl,q⟩:=h;obtain ⟨t,rfl⟩:=rx;exact rule i t s _ _ ⟨.int (g i),H,I.tok _,⟨_,rfl⟩,q⟩
theorem a9P:UnR X (unaryOp .USub) (rU fun i=>.int (-i)):=unI fun _ _ _ _ _ q=>neg_int q
end
def b8y:V→V→Bool
 | .non,.non=>true | .non,.int _=>true | .int _,.non=>true | .non,.bl _=>true | .bl _,.non=>true | .non,.str _=>true | .str _,.non=>true
 | .int _,.int _=>true | .bl _,.bl _=>true | .str _,.str _=>true | .byt _,.byt _=>true
 | .int _,.str _=>true | .str _,.int _=>true | .bl _,.str _=>true | .str _,.bl _=>true
 | _,_=>false
def rEq:R2:=fun x y H Q=>b8y x y=true∧Q (.bl (decide (x=y))) H
def rNe:R2:=fun x y H Q=>b8y x y=true∧Q (.bl (!decide (x=y))) H
theorem a7O {i j:Int}:decide (V.int i=V.int j)=(i==j):=by
 rw [ju];simp
theorem b2i {i j:Bool}:decide (V.bl i=V.bl j)=(i==j):=by
 rw [ju];simp
theorem a7N {i j:Str}:decide (V.str i=V.str j)=(i==j):=by
 rw [ju];simp
theorem a7P {i j:Array UInt8}:decide (V.byt i=V.byt j)=(i.toList==j.toList):=by
 rw [ju];cases i;cases j;simp
section
variable {X:Cx} {a b c:Expr} {ta tb tc:TE} {pos:Pos}
theorem bI {pins:T0b} {σ:St} {H:Hp} {s:Shared} {Q:VK} {k k':Bool} (I:Inv X pins σ H s) (q:Q (.bl k) H) (e:k=k'):EP X pins σ Q (.bool k') s:=by
 subst e;exact ⟨.bl k,H,I,rfl,q⟩
theorem b0U:OpR X (wp .Eq) rEq:=by
 intro pins s σ H x y v u Q I rx ry h;obtain ⟨hs,q⟩:=h;cases x with
 | non=>
  cases rx;cases y with
  | non=>cases ry;exact PySem.EqNone.eq_none_none (bI I q (by simp))
  | bl j=>cases ry;exact PySem.EqNone.eq_none_bool (bI I q (by simp))
  | int j=>obtain ⟨t',rfl⟩:=ry;exact PySem.EqNone.eq_none_int (bI I q (by simp))
  | str j=>obtain ⟨t',rfl⟩:=ry;exact PySem.EqNone.eq_none_str (bI I q (by simp))
  | _=>exact absurd (show false=true from hs) qc
 | bl i=>
  cases rx;cases y with
  | non=>cases ry;exact PySem.EqNone.eq_bool_none (bI I q (by simp))
  | bl j=>cases ry;exact eq_bool (bI I q b2i)
  | str j=>obtain ⟨t',rfl⟩:=ry;exact PySem.EqMixed.eq_bool_str (bI I q (by simp))
  | _=>exact absurd (show false=true from hs) qc
 | int i=>
  obtain ⟨t,rfl⟩:=rx;cases y with
  | non=>cases ry;exact PySem.EqNone.eq_int_none (bI I q (by simp))
  | int j=>obtain ⟨t',rfl⟩:=ry;exact eq_int (bI I q a7O)
  | str j=>obtain ⟨t',rfl⟩:=ry;exact PySem.EqMixed.eq_int_str (bI I q (by simp))
  | _=>exact absurd (show false=true from hs) qc
 | str i=>
  obtain ⟨t,rfl⟩:=rx;cases y with
  | non=>cases ry;exact PySem.EqNone.eq_str_none (bI I q (by simp))
  | bl j=>cases ry;exact PySem.EqMixed.eq_str_bool (bI I q (by simp))
  | int j=>obtain ⟨t',rfl⟩:=ry;exact PySem.EqMixed.eq_str_int (bI I q (by simp))
  | str j=>obtain ⟨t',rfl⟩:=ry;exact eq_str (bI I q a7N)
  | _=>exact absurd (show false=true from hs) qc
 | byt i=>
  obtain ⟨t,rfl⟩:=rx;cases y with
  | byt j=>obtain ⟨t',rfl⟩:=ry;exact PySem.W.eq_bytes (bI I q a7P)
  | _=>exact absurd (show false=true from hs) qc
 | _=>cases y<;>exact absurd (show false=true from hs) qc
theorem b0T:OpR X (wp .NotEq) rNe:=by
 intro pins s σ H x y v u Q I rx ry h;obtain ⟨hs,q⟩:=h;cases x with
 | non=>
  cases rx;cases y with
  | non=>cases ry;exact PySem.EqNone.ne_none_none (bI I q (by simp))
  | bl j=>cases ry;exact PySem.EqNone.ne_none_bool (bI I q (by simp))
  | int j=>obtain ⟨t',rfl⟩:=ry;exact PySem.EqNone.ne_none_int (bI I q (by simp))
  | str j=>obtain ⟨t',rfl⟩:=ry;exact PySem.EqNone.ne_none_str (bI I q (by simp))
  | _=>exact absurd (show false=true from hs) qc
 | bl i=>
  cases rx;cases y with
  | non=>cases ry;exact PySem.EqNone.ne_bool_none (bI I q (by simp))
  | bl j=>cases ry;exact ne_bool (bI I q (congrArg not b2i))
  | str j=>obtain ⟨t',rfl⟩:=ry;exact PySem.EqMixed.ne_bool_str (bI I q (by simp))
  | _=>exact absurd (show false=true from hs) qc
 | int i=>
  obtain ⟨t,rfl⟩:=rx;cases y with
  | non=>cases ry;exact PySem.EqNone.ne_int_none (bI I q (by simp))
  | int j=>obtain ⟨t',rfl⟩:=ry;exact ne_int (bI I q (congrArg not a7O))
  | str j=>obtain ⟨t',rfl⟩:=ry;exact PySem.EqMixed.ne_int_str (bI I q (by simp))
  | _=>exact absurd (show false=true from hs) qc
 | str i=>
  obtain ⟨t,rfl⟩:=rx;cases y with
  | non=>cases ry;exact PySem.EqNone.ne_str_none (bI I q (by simp))
  | bl j=>cases ry;exact PySem.EqMixed.ne_str_bool (bI I q (by simp))
  | int j=>obtain ⟨t',rfl⟩:=ry;exact PySem.EqMixed.ne_str_int (bI I q (by simp))
  | str j=>obtain ⟨t',rfl⟩:=ry;exact ne_str (bI I q (congrArg not a7N))
  | _=>exact absurd (show false=true from hs) qc
 | byt i=>
  obtain ⟨t,rfl⟩:=rx;cases y with
  | byt j=>obtain ⟨t',rfl⟩:=ry;exact PySem.W.ne_bytes (bI I q (congrArg not a7P))
  | _=>exact absurd (show false=true from hs) qc
 | _=>cases y<;>exact absurd (show false=true from hs) qc
theorem b8O:OpR X (wp .Lt) (rI0 fun i j=>.bl (decide (i<j))):=b6K fun _ _ _ _ _ _ _ q=>lt_int q
theorem b8P:OpR X (wp .LtE) (rI0 fun i j=>.bl (decide (i≤j))):=b6K fun _ _ _ _ _ _ _ q=>le_int q
theorem b8Q:OpR X (wp .Gt) (rI0 fun i j=>.bl (decide (j<i))):=b6K fun _ _ _ _ _ _ _ q=>gt_int q
theorem b0Y (b:Expr) {op:CmpOp} (h:op≠.In:=by decide) (h2:op≠.NotIn:=by decide):yx op b=false:=by
 have e1:(op==CmpOp.In)=false:=by cases op<;>first | rfl | exact absurd rfl h
 have e2:(op==CmpOp.NotIn)=false:=by cases op<;>first | rfl | exact absurd rfl h2
 cases b<;>simp [yx,e1,e2]
theorem b3v {op:CmpOp} {r:R2} (ho:OpR X (wp op) r) (ha:PE X a ta) (hb:PE X b tb) (hm:yx op b=false):PE X (.Compare a [op] [b] pos) (tOp r ta tb):=by
 intro pins s σ H Q I h;exact wpAny_Compare1 (b7W ha hb I h fun v u s2 x y H2 I2 rx ry q=>ho pins s2 σ H2 x y v u Q I2 rx ry q) hm
def b5k (t:TE):TT:=fun σ H Q=>t σ H fun x H'=>∃ k,x=.bl k∧Q k H'
theorem b3k {op:CmpOp} {r:R2} (ho:OpR X (wp op) r) (ha:PE X a ta) (hb:PE X b tb) (hm:yx op b=false):PT X (.Compare a [op] [b] pos) (b5k (tOp r ta tb)):=by
 intro pins s σ H Q I h
 refine wpAny_isTrue_Compare1 (thn (ha pins s σ H _ I h) fun v s1 ⟨x,H1,I1,r1,q1⟩=>thn (hb pins s1 σ H1 _ I1 q1) fun u s2 ⟨y,H2,I2,r2,q2⟩=>
  thn (ho pins s2 σ H2 x y v u _ I2 r1 r2 q2) fun c s3 ⟨z,H3,I3,r3,k,e,q3⟩=>?_) hm
 subst e;cases r3;exact wl ⟨H3,I3,q3⟩
def a9Y (r r':R2) (ta tb tc:TE):TE:=fun σ H Q=>ta σ H fun x H1=>tb σ H1 fun y H2=>r x y H2 fun z H3=>∃ k,z=.bl k ∧
 (if k=true then tc σ H3 fun w' H4=>r' y w' H4 Q else Q (.bl false) H3)
theorem b0O {op op':CmpOp} {r r':R2} (ho:OpR X (wp op) r) (ho':OpR X (wp op') r') (ha:PE X a ta) (hb:PE X b tb) (hc:PE X c tc)
  (hm:QR [op,op'] [b,c]=false:=by with_unfolding_all rfl):PE X (.Compare a [op,op'] [b,c] pos) (a9Y r r' ta tb tc):=by
 intro pins s σ H Q I h
 refine Compare_chain (thn (ha pins s σ H _ I h) fun v s1 ⟨x,H1,I1,r1,q1⟩=>chain_link (thn (hb pins s1 σ H1 _ I1 q1) fun u s2 ⟨y,H2,I2,r2,q2⟩=>
  thn (ho pins s2 σ H2 x y v u _ I2 r1 r2 q2) fun d s3 ⟨z,H3,I3,r3,k,e,q3⟩=>?_)) hm
 subst e;cases r3;refine wl ?_;cases k with
 | false=>exact ite_ff ⟨.bl false,H3,I3,rfl,q3⟩
 | true=>exact ite_tt (chain_last (thn (hc pins s3 σ H3 _ I3 q3) fun w' s4 ⟨z',H4,I4,r4,q4⟩=>ho' pins s4 σ H4 y z' u w' Q I4 r2 r4 q4))
theorem b0B {op op':CmpOp} {r r':R2} (ho:OpR X (wp op) r) (ho':OpR X (wp op') r') (ha:PE X a ta) (hb:PE X b tb) (hc:PE X c tc)
  (hm:QR [op,op'] [b,c]=false:=by with_unfolding_all rfl):PT X (.Compare a [op,op'] [b,c] pos) (b5k (a9Y r r' ta tb tc)):=by
 intro pins s σ H Q I h
 refine isTrue_chain (thn (ha pins s σ H _ I h) fun v s1 ⟨x,H1,I1,r1,q1⟩=>test_link (thn (hb pins s1 σ H1 _ I1 q1) fun u s2 ⟨y,H2,I2,r2,q2⟩=>
  thn (ho pins s2 σ H2 x y v u _ I2 r1 r2 q2) fun d s3 ⟨z,H3,I3,r3,k,e,q3⟩=>?_)) hm
 subst e;cases r3;refine wl ?_;cases k with
 | false=>
  obtain ⟨k',e',q'⟩:=q3;cases e';exact ite_ff ⟨H3,I3,q'⟩
 | true=>
  refine ite_tt (test_last (thn (hc pins s3 σ H3 _ I3 q3) fun w' s4 ⟨z',H4,I4,r4,q4⟩=>thn (ho' pins s4 σ H4 y z' u w' _ I4 r2 r4 q4) fun d' s5 ⟨z2,H5,I5,r5,k2,e2,q5⟩=>?_));subst e2;cases r5;exact wl ⟨H5,I5,q5⟩
def b8b (K:qC) (x:V) (H:Hp) (k:Bool):Prop:=
 match x with
 | .non=>k=false
 | .bl b=>k=b
 | .int i=>k=(i != 0)
 | .str y=>y.length≤j5∧k=((y.length:Int) != 0)
 | .byt y=>y.size≤j5∧k=((y.size:Int) != 0)
 | .ref p=>(∃ xs,SqL K H p xs∧k=!xs.isEmpty)∨(∃ xs,SqT K H p xs∧k=!xs.isEmpty)∨∃ kvs,H p=some (.dK kvs)∧k=!kvs.isEmpty
 | _=>False
theorem a6k {κ:Type} {kvs:List (κ×V)} {vs:List (κ×Value)} (r:KV kvs vs):(!vs.isEmpty)=!kvs.isEmpty:=by
 cases r<;>rfl
theorem a1a {xs:List V} {its:T0k} (r:aY xs its):(!its.toArray.isEmpty)=!xs.isEmpty:=by
 cases r<;>simp
theorem sM:(j5:Nat)<2 ^ 63:=by rw [wo];decide
theorem b5U:c0x X (fun x H Q=>∃ k,b8b X.K x H k∧Q k H):=by
 intro pins s σ H x v Q I rx h;obtain ⟨k,e,q⟩:=h;have hl:=sM;have hs:j5=16777216:=wo;cases x with
 | non=>
  cases rx;have e':k=false:=e;subst e';exact truthy_none ⟨H,I,q⟩
 | bl b=>
  cases rx;have e':k=b:=e;subst e';exact wl ⟨H,I,q⟩
 | int i=>
  obtain ⟨t,rfl⟩:=rx;have e':k=(i != 0):=e;subst e';exact PySem.P.truthy_int ⟨H,I,q⟩
 | str y=>
  obtain ⟨t,rfl⟩:=rx;obtain ⟨hy,e'⟩:y.length≤j5∧k=((y.length:Int) != 0):=e;subst e';exact PySem.P.truthy_str (by omega) ⟨H,I.tok _,q⟩
 | byt y=>
  obtain ⟨t,rfl⟩:=rx;obtain ⟨hy,e'⟩:y.size≤j5∧k=((y.size:Int) != 0):=e;subst e';exact PySem.W.truthy_bytes (by omega) ⟨H,I.tok _,q⟩
 | ref p=>
  cases rx;have e':(∃ xs,SqL X.K H p xs∧k=!xs.isEmpty)∨(∃ xs,SqT X.K H p xs∧k=!xs.isEmpty)∨∃ kvs,H p=some (.dK kvs)∧k=!kvs.isEmpty:=e;rcases e' with ⟨xs,hx,e'⟩ | ⟨xs,hx,e'⟩ | ⟨kvs,hx,e'⟩
  ·subst e'
   obtain ⟨its,r,pl,hz⟩:=I.list hx;have hlen:=r.length;exact wpAny_truthy_list pl.isList (by simp only [qI];omega) ⟨H,I.tok _,by rw [a1a r];exact q⟩
  ·subst e'
   obtain ⟨its,r,pl,hz⟩:=I.tuple hx;have hlen:=r.length;exact truthy_tuple pl (by simp only [qI];omega) ⟨H,I.tok _,by rw [a1a r];exact q⟩
  ·subst e'
   obtain ⟨hz,hS,vs,r,m⟩:kvs.length≤j5∧(p==QH)=false∧∃ vs,KV kvs vs∧s.heap.DictOf (gQ X.prog X.w) p vs:=I.hok p _ hx;have hlen:kvs.length=vs.length:=Paired.length r;exact wpAny_truthy_dict hS m (by omega) ⟨H,I.tok _,by rw [a6k r];exact q⟩
 | _=>exact (show False from e).elim
theorem a4x (ha:PE X a ta) (he:∀ whole,isTrue a X.env whole=(do let v ←whole;standAt a.pos;holding [v] (truthy v))) :
  PT X a (fun σ H Q=>ta σ H fun x H'=>∃ k,b8b X.K x H' k∧Q k H'):=by
 intro pins s σ H Q I h;exact isTrue_plain (thn (ha pins s σ H _ I h) fun v s1 ⟨x,H1,I1,r1,q1⟩=>b5U pins s1 σ H1 x v Q I1 r1 q1) (he _)
theorem a5U:OpR X (yg .Add) (fun x y H Q=>∃ i j,x=.str i∧y=.str j∧i.length+j.length≤j5∧Q (.str (i++j)) H):=by
 intro pins s σ H x y v u Q I rx ry h;obtain ⟨i,j,rfl,rfl,hz,q⟩:=h;obtain ⟨t,rfl⟩:=rx;obtain ⟨t',rfl⟩:=ry;exact add_str (fun t' tk=>⟨.str (i++j),H,I.tok _,⟨_,rfl⟩,q⟩) hz
theorem vals1 {x:V} {us:T0k} (r:aY [x] us):∃ u,us=[u]∧RelV x u:=by
 cases r with
 | cons r1 r2=>cases r2;exact ⟨_,rfl,r1⟩
theorem vals2 {x y:V} {us:T0k} (r:aY [x,y] us):∃ u w',us=[u,w']∧RelV x u∧RelV y w':=by
 cases r with
 | cons r1 r2=>
  cases r2 with
  | cons r3 r4=>cases r4;exact ⟨_,_,rfl,r1,r3⟩
theorem a9m (hc:X.calm=true):eJ X (.builtin "max") (fun xs H Q=>∃ i j,xs=[.int i,.int j]∧Q (.int (if j > i then j else i)) H):=by
 intro pins s σ H xs us Q I r h;obtain ⟨i,j,rfl,q⟩:=h;obtain ⟨u,w',rfl,⟨t,rfl⟩,⟨t',rfl⟩⟩:=vals2 r;refine max_two_ints (I.ok.hd hc) fun h' tk k=>⟨_,H,I.kept k,?_,q⟩;by_cases hj:j > i
 ·rw [if_pos hj,if_pos hj];exact ⟨_,rfl⟩
 ·rw [if_neg hj,if_neg hj];exact ⟨_,rfl⟩
theorem a9k (hc:X.calm=true):eJ X (.builtin "min") (fun xs H Q=>∃ i j,xs=[.int i,.int j]∧Q (.int (if j<i then j else i)) H):=by
 intro pins s σ H xs us Q I r h;obtain ⟨i,j,rfl,q⟩:=h;obtain ⟨u,w',rfl,⟨t,rfl⟩,⟨t',rfl⟩⟩:=vals2 r;refine min_two_ints (I.ok.hd hc) fun h' tk k=>⟨_,H,I.kept k,?_,q⟩;by_cases hj:j<i
 ·rw [if_pos hj,if_pos hj];exact ⟨_,rfl⟩
 ·rw [if_neg hj,if_neg hj];exact ⟨_,rfl⟩
end
structure ObjM (h:Heap) (x dx C:Addr) (mA:T0d):Prop where
 obj:h.get? x=some (PySem.W.instObj C dx)
 ns:h.Ns1 dx mA
 ne:dx≠x
theorem a8K {h:Heap} {dx:Addr} {mA:T0d} (n:h.Ns1 dx mA):∃ od,h.get? dx=some od∧∀ name,PySem.W.lookIn name od=some (mA name):=by
 obtain ⟨o,es,ep,ho,hd,hk,_,hm⟩:=n;refine ⟨o,ho,fun name=>?_⟩;have e:=hm name;unfold nsFind findBy at e;rw [←Array.find?_toList] at e;unfold PySem.W.lookIn;rw [hd];dsimp only;split
 ·rename_i y q
  rw [q] at e;exact congrArg some e
 ·rename_i q
  rw [q] at e;have a:es.toList.any (·.refKey)=false:=by
   rw [List.any_eq_false];intro y hy;obtain ⟨z,t,hkey⟩:=hk y (Array.mem_toList_iff.mp hy);simp [DictEntry.refKey,hkey]
  have a':¬es.toList.any (·.refKey)=true:=by rw [a];exact qc
  rw [if_neg a'];exact congrArg some e
theorem ObjM.look {h:Heap} {x dx C:Addr} {mA:T0d} (I:ObjM h x dx C mA):∃ od,PySem.W.InstAt h x (PySem.W.instObj C dx) C (some od)∧∀ name,PySem.W.lookIn name od=some (mA name):=
 let ⟨od,ho,hl⟩:=a8K I.ns
 ⟨od,⟨I.obj,rfl,rfl,ho⟩,hl⟩
section
variable {prog:Program} {w:World} {A:Around} {E:T0a} {s:Shared} {K:qC} {x dx C f:Addr} {mA:T0d} {name:Str} {v:Value}
end
section
variable {P:Program} {w:World} {H H':Hp} {h h':Heap} {a C dx:Addr} {fs fs':List (Str×V)}
theorem b4j (hok:HOk P w H h) (e:H a=some (.ins C dx fs)):∃ mA,ObjM h a dx C mA∧(∀ f,b8d (fs.lookup f) (mA f))∧PySem.Within mA (fs.map (·.1))∧fs.length≤1000∧H dx=some (.own a):=by
 obtain ⟨d,z,ne,ob,mA,n,r,q⟩:=(show cW P w H h a (.ins C dx fs) from hok a _ e);exact ⟨mA,⟨ob,n,ne⟩,r,q,z,d⟩
end
structure Cls (K:qC) (C:Addr):Prop where
 pg:PySem.W.plainGet K C Str.empty=true
 hd:PySem.W.hasDictIn K C=true
 po:PySem.W.plainOver K C=true
 sa:zz K (.ref C) "__setattr__" = some (some (.builtin "object.__setattr__"))
theorem Cls.get {K:qC} {C:Addr} (c:Cls K C) (f:Str):PySem.W.plainGet K C f=true:=c.pg
section
variable {X:Cx} {pins:T0b} {σ:St} {H:Hp} {s:Shared} {a C dx:Addr} {fs:List (Str×V)} {f:Str} {v:V} {A:Around} {E:T0a}
end
section
variable {X:Cx} {o e value:Expr} {f:Str} {pos pos' tpos:Pos} {ta tv:TE}
end
section
variable {X:Cx} {pins:T0b} {σ:St} {H:Hp} {s:Shared} {A:Around} {E:T0a} {Q:T0a} {c:Value} {b:Bool}
inductive TyOf (K:qC) (H:Hp):V→Value→Prop where
 | non:TyOf K H .non (.type "NoneType")
 | bl (x:Bool):TyOf K H (.bl x) (.type "bool")
 | int (i:Int):TyOf K H (.int i) (.type "int")
 | str (x:Str):TyOf K H (.str x) (.type "str")
 | flt (x:UInt64):TyOf K H (.flt x) (.type "float")
 | lst {a:Addr} {xs:List V} (e:H a=some (.lst xs)):TyOf K H (.ref a) (.type "list")
 | frz {a:Addr} {o:Obj} {xs:List V} (e:H a=some (.frz o (.lst xs))):TyOf K H (.ref a) (.type "list")
 | tup {a:Addr} {xs:List V} (e:H a=some (.tup xs)):TyOf K H (.ref a) (.type "tuple")
 | dK {a:Addr} {kvs:List (Key×V)} (e:H a=some (.dK kvs)):TyOf K H (.ref a) (.type "dict")
 | dT {a:Addr} {kvs:List (List Key×V)} (e:H a=some (.dT kvs)):TyOf K H (.ref a) (.type "dict")
 | ins {a C dx:Addr} {fs:List (Str×V)} (e:H a=some (.ins C dx fs)) (cl:Cls K C) (ha:zz K (.ref C) "__class__" = some (some (.builtin "object.__class__")))
   (hn:PySem.W.specialIn K (.builtin "object.__class__") "__get__" = some (some (.builtin "getset_descriptor.__get__"))) (htk:PySem.W.takesIn K (.builtin "object.__class__")=some true)
   (hm:PySem.W.mroIn K C (.type "object")=some true):TyOf K H (.ref a) (.ref C)
theorem mX {x:V} {u t:Value} (I:Inv X pins σ H s) (rx:RelV x u) (ty:TyOf X.K H x t) (e:zS X.K t c=some b) (h:∀ tk,Q (.bool b) { s with toks:=tk }) :
  wpAny (model X.prog X.w) A (call (.builtin "isinstance") [u,c]) Q E s:=by
 cases ty with
 | non=>cases (show u=jH from rx);exact jQ PySem.W.kitx_none I.kIn wB e (fun z=>nomatch z) h
 | bl y=>cases (show u=je y from rx);exact jQ PySem.W.kitx_bool I.kIn wB e (fun z=>nomatch z) h
 | int i=>obtain ⟨t,q⟩:=(show ∃ t,u=Value.int i t from rx);cases q;exact jQ PySem.W.kitx_int I.kIn wB e (fun z=>nomatch z) h
 | str y=>obtain ⟨t,q⟩:=(show ∃ t,u=Value.str y t from rx);cases q;exact jQ PySem.W.kitx_str I.kIn wB e (fun z=>nomatch z) h
 | flt y=>obtain ⟨t,q⟩:=(show ∃ t,u=Value.float y t from rx);cases q;exact jQ PySem.W.kitx_float I.kIn wB e (fun z=>nomatch z) h
 | @lst a xs ea=>
  cases (show u=jb a from rx);obtain ⟨_,_,n,_,h1⟩:=(show cW X.prog X.w H s.heap a (.lst xs) from I.hok a _ ea);exact jQ wE I.kIn ⟨_,h1,rfl⟩ e (fun z=>nomatch z) h
 | @frz a ob xs ea=>
  cases (show u=jb a from rx);obtain ⟨_,_,_,n,_,h1⟩:=(show cW X.prog X.w H s.heap a (.frz ob (.lst xs)) from I.hok a _ ea);exact jQ wE I.kIn ⟨_,h1,rfl⟩ e (fun z=>nomatch z) h
 | @tup a xs ea=>
  cases (show u=jb a from rx);obtain ⟨_,_,_,p⟩:=(show cW X.prog X.w H s.heap a (.tup xs) from I.hok a _ ea);obtain ⟨o,h1,h2,_⟩:=p;exact jQ PySem.W.kitx_tuple I.kIn ⟨o,h1,h2⟩ e (fun z=>nomatch z) h
 | @dK a kvs ea=>
  cases (show u=jb a from rx);obtain ⟨_,_,vs,_,p⟩:=(show cW X.prog X.w H s.heap a (.dK kvs) from I.hok a _ ea);obtain ⟨o,es,ep,h1,h2,_⟩:=p;exact jQ PySem.W.kitx_dict I.kIn ⟨o,h1,h2.1⟩ e (fun z=>nomatch z) h
 | @dT a kvs ea=>
  cases (show u=jb a from rx);obtain ⟨_,_,xs,_,o,es,ep,h1,h2,_⟩:=(show cW X.prog X.w H s.heap a (.dT kvs) from I.hok a _ ea);exact jQ PySem.W.kitx_dict I.kIn ⟨o,h1,h2.1⟩ e (fun z=>nomatch z) h
 | @ins a C dx fs ea cl ha hn htk hm=>
  cases (show u=jb a from rx);obtain ⟨mA,O,_⟩:=b4j I.hok ea;obtain ⟨od,J,_⟩:=O.look;exact jQ (PySem.W.kitx_own (cl.get _) cl.hd ha hn htk hm) I.kIn J e (fun z=>nomatch z) h
end
structure Room (k:Nat) (A:Around):Prop where
 hd:A.handled=none
 dp:A.depth+3*k+5<ux
 un:A.units+16*k+200<cLine
theorem Room.mono {j k:Nat} {A:Around} (r:Room k A) (h:j≤k):Room j A:=⟨r.hd,by have:=r.dp;omega,by have:=r.un;omega⟩
theorem Room.deeper {k:Nat} {A:Around} (r:Room (k+1) A) (env:Env):Room k (A.deeper env):=
 ⟨r.hd,by have:=r.dp;show A.depth+1+3*k+5<_;omega,by have:=r.un;show A.units+3+16*k+200<_;omega⟩
theorem Room.in1 {k:Nat} {A:Around} (r:Room (k+1) A):Room k A.in1:=
 ⟨r.hd,by have:=r.dp;show A.depth+3*k+5<_;omega,by have:=r.un;show A.units+1+16*k+200<_;omega⟩
theorem Room.depth {k:Nat} {A:Around} (r:Room k A):A.depth<ux:=by have:=r.dp;omega
theorem Room.units {k:Nat} {A:Around} (r:Room k A):A.units+64<cLine:=by have:=r.un;omega
def b8r:TA:=fun _ H Q=>Q [] H
def b5l (ta:TE) (tr:TA):TA:=fun σ H Q=>ta σ H fun x H1=>tr σ H1 fun xs H2=>Q (x::xs) H2
section
variable {X:Cx} {e:Expr} {es:T0l} {te:TE} {t:TA} {pos:Pos}
theorem gG:PA X [] b8r:=fun _ _ _ _ H Q I h=>vZ ⟨[],H,I,.nil,h⟩
theorem dC (ha:PE X e te) (hr:PA X es t) (hs:j4 (e::es) X.env=(false,eval e X.env)::j4 es X.env:=by rfl):PA X (e::es) (b5l te t):=by
 intro pos pins s σ H Q I h;rw [hs];show wpAny _ _ (spliced ((false,eval e X.env)::k9 pos (j4 es X.env))) _ _ s;refine Calls.spliced_cons (thn (ha pins s σ H _ I h) fun u s1 ⟨x,H1,I1,r1,q1⟩=>?_);exact thn (hr pos pins s1 σ H1 _ I1 q1) fun us s2 ⟨xs,H2,I2,r2,q2⟩=>⟨x::xs,H2,I2,.cons r1 r2,q2⟩
def b9x (t:TA):TE:=fun σ H Q=>t σ H fun xs H1=>xs.length≤j5∧∀ p,H1 p=none→Q (.ref p) (upd H1 p (.tup xs))
def b9B (t:TA):TE:=fun σ H Q=>t σ H fun xs H1=>xs.length≤j5∧∀ p,H1 p=none→Q (.ref p) (upd H1 p (.lst xs))
theorem b6u {x1} (h:PA X es t):PE X (.Tuple es x1 pos) (b9x t):=by
 intro pins s σ H Q I hq;refine wpAny_Tuple_spliced (thn (h pos pins s σ H _ I hq) fun us s1 ⟨xs,H1,I1,r,z,q⟩=>⟨by rw [←r.length];exact z,?_⟩);have hf:H1 s1.heap.objs.size=none:=I1.hok.fresh (qR _);refine ⟨.ref s1.heap.objs.size,upd H1 s1.heap.objs.size (.tup xs),I1.laid (t':=s1.toks) (fun b u e=>qB _ e) (qR _) ?_,rfl,q _ hf⟩;exact ⟨z,us,r,⟨_,qJ _ rfl,rfl,_,rfl⟩⟩
theorem a3m (h:PA X es t):PE X (.List es pos) (b9B t):=by
 intro pins s σ H Q I hq;refine wpAny_List_spliced (thn (h pos pins s σ H _ I hq) fun us s1 ⟨xs,H1,I1,r,z,q⟩=>⟨by rw [←r.length];exact z,?_⟩);have hf:H1 s1.heap.objs.size=none:=I1.hok.fresh (qR _);refine ⟨.ref s1.heap.objs.size,upd H1 s1.heap.objs.size (.lst xs),I1.laid (t':=s1.toks) (fun b u e=>qB _ e) (qR _) ?_,rfl,q _ hf⟩;exact ⟨z,us,0,r,qJ _ rfl⟩
end
abbrev Sp:=List V→Hp→VK→XK→Prop
abbrev CXT:=List Env→Hp→Shared→XK→Value→Shared→Prop
structure Env0 (P:Program) (w:World) (K:qC) (mg:T0d) (base:Heap) (A:Around) (outer:List Env) (s:Shared) (H:Hp):Prop where
 frames:A.frames=some outer
 mod:Mod K mg base
 bs:∀ b o,base.get? b=some o→s.heap.get? b=some o∧H b=none
 bsz:base.objs.size≤s.heap.objs.size
 funs:s.heap.FunFrames base outer
 frf:∀ b∈frs outer,H b=none
 hok:HOk P w H s.heap
 bare:ut s.gens
def CE (outer:List Env) (P:Program) (w:World) (H:Hp) (s:Shared) (Q:VK) (u:Value) (s':Shared):Prop:=
 ∃ v H',s'.os=s.os∧ut s'.gens∧Un (frs outer) [] H H' s.heap s'.heap∧HOk P w H' s'.heap∧RelV v u∧Q v H'
def CR (CX:CXT) (outer:List Env) (P:Program) (w:World) (H:Hp) (s:Shared) (Q:VK) (E:XK) (r:Result) (s':Shared):Prop:=
 match r with
 | .ok (.ret u)=>CE outer P w H s Q u s'
 | .ok _=>False
 | .error e=>CX outer H s E e s'
structure FnOk (P:Program) (w:World) (K:qC) (mg:T0d) (base:Heap) (CX:CXT) (k:Nat) (f:Addr) (fd:w5) (ps:T0o) (sp:Sp):Prop where
 len:∀ vs H Q E,sp vs H Q E→vs.length=ps.length
 run:∀ (A:Around) (outer:List Env) (s:Shared) (H:Hp) (args:Args) (us:T0k) (vs:List V) (Q:VK) (E:XK),Room k A→Env0 P w K mg base A outer s H→BindsTo s fd args (ps.zip us)→aY vs us→sp vs H Q E →
  wx (model P w) A (.call (.ref f) args) (CR CX outer P w H s Q E) s
theorem Env0.in1 {P:Program} {w:World} {K:qC} {mg:T0d} {base:Heap} {A:Around} {outer:List Env} {s:Shared} {H:Hp} (e:Env0 P w K mg base A outer s H) :
  Env0 P w K mg base A.in1 outer s H:=⟨e.frames,e.mod,e.bs,e.bsz,e.funs,e.frf,e.hok,e.bare⟩
section
variable {X:Cx} {pins:T0b} {σ:St} {H:Hp} {s s':Shared}
theorem Inv.env0 (I:Inv X pins σ H s):Env0 X.prog X.w X.K X.mg X.base X.A X.stack s H:=
 ⟨I.ok.frames,I.ok.mod,I.bs,ql I.ok.bsz I.sz,I.stack,I.stkFree,I.hok,I.bare⟩
theorem Inv.after {Q:VK} {u:Value} (I:Inv X pins σ H s) (h:CE X.stack X.prog X.w H s Q u s'):EP X pins σ Q u s':=by
 obtain ⟨v,H',os,bare,un,hok,r,q⟩:=h;obtain ⟨hh,g,d,t,os'⟩:=s';obtain rfl:os'=s.os:=os;exact ⟨v,H',I.call (h':=hh) (g':=g) (d':=d) (t':=t) (ch:=[]) un hok bare (fun b z=>absurd z (by simp)),r,q⟩
end
def b8u (sp:Sp) (dvs:List V) (E:XK) (t:TA):TE:=fun σ H Q=>t σ H fun vs H1=>sp (vs++dvs) H1 Q E
def Binds (K:qC) (fd:w5) (ps:T0o) (ds:T0k):Prop:=
 ∀ (s:Shared) (us:T0k),K.In s.heap→(us++ds).length=ps.length→BindsTo s fd ⟨us,[]⟩ (ps.zip (us++ds))
theorem Binds.all {K:qC} {fd:w5} {ps:T0o} (h:∀ us:List Value,us.length=ps.length→yy fd ⟨us,[]⟩=pure (ps.zip us)):Binds K fd ps []:=fun s us _ hl=>by
 rw [ji] at hl ⊢;exact .of_eq (h us hl)
def a6K (CX:CXT) (X:Cx) (E:XK):Prop:=∀ (pins:T0b) (σ:St) (H:Hp) (s:Shared) (e:Value) (s':Shared),Inv X pins σ H s→CX X.stack H s E e s'→X.xe e s'
section
variable {X:Cx} {CX:CXT} {k:Nat} {f C:Addr} {fd:w5} {ps:T0o} {sp:Sp} {dvs:List V} {ds:T0k} {E:XK} {x m:Str} {p pos apos:Pos} {e o:Expr} {es:T0l} {ta:TE} {t:TA}
theorem b6i {pins:T0b} {σ:St} {H:Hp} {s:Shared} {Q:VK} {us:T0k} {vs:List V} (F:FnOk X.prog X.w X.K X.mg X.base CX k f fd ps sp) (hr:Room k X.A) (hb:Binds X.K fd ps ds) (hd:aY dvs ds) (hx:a6K CX X E)
  (I:Inv X pins σ H s) (r:aY vs us) (h:sp (vs++dvs) H Q E):wpAny (model X.prog X.w) X.A (call (.ref f) us) (EP X pins σ Q) X.xe s:=by
 have r2:aY (vs++dvs) (us++ds):=r.append hd;have hl:(us++ds).length=ps.length:=by rw [←r2.length];exact F.len _ _ _ _ h
 refine uh (wy (F.run X.A X.stack s H ⟨us,[]⟩ (us++ds) (vs++dvs) Q E hr I.env0 (hb s us I.kIn hl) r2 h) fun r s' hq=>?_);cases r with
 | error e=>exact hx pins σ H s e s' I hq
 | ok fl=>
  cases fl with
  | ret u=>exact I.after hq
  | next=>exact qw hq
  | brk=>exact qw hq
  | cont=>exact qw hq
theorem b3w (F:FnOk X.prog X.w X.K X.mg X.base CX k f fd ps sp) (hr:Room k X.A) (hg:Gl X x) (hm:X.mg x=some (.ref f)) (hk:kB X.K (.ref f)=true) (hb:Binds X.K fd ps ds) (hd:aY dvs ds) (hx:a6K CX X E)
  (ha:PA X (e::es) t) (hdb:(x==("__debug__" : Str))=false:=by decide) (he:j4 (e::es) X.env=(false,eval e X.env)::j4 es X.env:=by rfl) (hpl:(k9 pos (j4 es X.env)).any (·.1)=false:=by rfl) :
  PE X (.Call (.Name x p) (e::es) [] pos) (b8u sp dvs E t):=by
 intro pins s σ H Q I h;refine v0 (oE I hg hm ?_ hdb);refine zu (h₀:=X.base) I.ok.mod.kin hk (thn (ha pos pins s σ H _ I h) fun us s1 ⟨vs,H1,I1,r,q⟩=>⟨I1.kIn,?_⟩) he hpl;exact b6i F hr hb hd hx I1 r q
end
def PK (X:Cx) (kws:List Keyword) (t:TA):Prop:=
 ∀ (pos:Pos) (pins:T0b) (s:Shared) (σ:St) (H:Hp) (Q:List V→Hp→Prop),Inv X pins σ H s→t σ H Q→wpAny (model X.prog X.w) X.A (evalAll ((yo pos (wu kws X.env)).map (·.2))) (AP X pins σ Q) X.xe s
section
variable {X:Cx} {CX:CXT} {k:Nat} {f C:Addr} {fd:w5} {ps ks:T0o} {sp:Sp} {E:XK} {x m:Str} {p pos apos kpos:Pos} {e o:Expr} {es:T0l} {kws:List Keyword} {te ta:TE} {t tk:TA} {nm:Option Str}
theorem b6q:PK X [] b8r:=fun _ _ _ _ H Q I h=>wpAny_evalAll_nil ⟨[],H,I,.nil,h⟩
theorem b3p (ha:PE X e te) (hr:PK X kws t):PK X (⟨nm,e,kpos⟩::kws) (b5l te t):=by
 intro pos pins s σ H Q I h;show wpAny _ _ (evalAll ((do let v ←eval e X.env;standAt pos;pure v)::(yo pos (wu kws X.env)).map (·.2))) _ _ s;refine wpAny_evalAll_cons (q8 (thn (ha pins s σ H _ I h) fun u s1 ⟨x,H1,I1,r1,q1⟩=>q8 (yf (j3 ?_))));exact thn (hr pos pins s1 σ H1 _ I1 q1) fun us s2 ⟨xs,H2,I2,r2,q2⟩=>⟨x::xs,H2,I2,.cons r1 r2,q2⟩
variable {g:List Value→List Value→List Value} {gV:List V→List V→List V}
end
structure FnScope (N P:T0o) (sc:Scope):Prop where
 kind:sc.kind=.function
 co:sc.isCoroutine=false
 gen:sc.isGenerator=false
 nd:N.Nodup
 pre:N.take P.length=P
 par:∀ x∈P,sc.names.lookup x=some .local∨sc.names.lookup x=some .cell
 nofree:∀ y∈sc.names,y.2≠.free
theorem a2P {kindOf:Str→Option yd} {x:Str}:∀ {binds:List (Str×Value)} {m:T0d},(∀ v,(x,v)∉binds)→bindL kindOf binds m x=m x
 | [],_,_=>rfl
 | (n,v)::r,m,h=>by
  unfold bindL;rw [a2P fun w hw=>h w (qD _ hw)];split
  ·have:x≠n:=by rintro rfl;exact h v qS
   simp [this]
  ·rfl
theorem a2R {kindOf:Str→Option yd} {x:Str}:∀ {binds:List (Str×Value)} {m:T0d},(∀ v,(x,v)∉binds)→bindC kindOf binds m x=m x
 | [],_,_=>rfl
 | (n,v)::r,m,h=>by
  unfold bindC;rw [a2R fun w hw=>h w (qD _ hw)];split
  ·rfl
  ·have:x≠n:=by rintro rfl;exact h v qS
   simp [this]
theorem a2Q {kindOf:Str→Option yd} {x:Str} {v:Value}:∀ {P:T0o} {vs:T0k} {i:Nat} {m:T0d},P.Nodup→P[i]?=some x→vs[i]?=some v→kindOf x=some .local →
  bindL kindOf (P.zip vs) m x=some v
 | [],_,_,_,_,h,_,_=>by simp at h
 | _::_,[],_,_,_,_,h,_=>by simp at h
 | p::P,w::vs,0,m,nd,h1,h2,hk=>by
  simp at h1 h2;subst h1;subst h2;show bindL kindOf ((p,w)::P.zip vs) m p=_;unfold bindL;rw [a2P fun v hv=>(kT.mp nd).1 (zn hv).1,if_pos hk];simp
 | p::P,w::vs,i+1,m,nd,h1,h2,hk=>by
  show bindL kindOf ((p,w)::P.zip vs) m x=_;unfold bindL;exact a2Q (i:=i) (kT.mp nd).2 (by simpa using h1) (by simpa using h2) hk
theorem a2S {kindOf:Str→Option yd} {x:Str} {v:Value}:∀ {P:T0o} {vs:T0k} {i:Nat} {m:T0d},P.Nodup→P[i]?=some x→vs[i]?=some v→kindOf x≠some .local →
  bindC kindOf (P.zip vs) m x=some v
 | [],_,_,_,_,h,_,_=>by simp at h
 | _::_,[],_,_,_,_,h,_=>by simp at h
 | p::P,w::vs,0,m,nd,h1,h2,hk=>by
  simp at h1 h2;subst h1;subst h2;show bindC kindOf ((p,w)::P.zip vs) m p=_;unfold bindC;rw [a2R fun v hv=>(kT.mp nd).1 (zn hv).1,if_neg hk];simp
 | p::P,w::vs,i+1,m,nd,h1,h2,hk=>by
  show bindC kindOf ((p,w)::P.zip vs) m x=_;unfold bindC;exact a2S (i:=i) (kT.mp nd).2 (by simpa using h1) (by simpa using h2) hk
def start (N:T0o) (vs:List V):St:=vs.map some++zT (N.length - vs.length) none
def a0a (CX:CXT) (P:Program) (w:World) (K:qC) (mg:T0d) (base:Heap) (N:T0o) (qual:Str) (scope:Scope) (f:Addr) (cd:Value) (A:Around) (outer:List Env) (s:Shared) (H:Hp) (E:XK):Cx where
 prog:=P
 w:=w
 K:=K
 mg:=mg
 base:=base
 A:=A.deeper (yn qual scope s.heap.objs.size f cd)
 N:=N
 s₀:=s
 H₀:=H
 env:=yn qual scope s.heap.objs.size f cd
 outer:=outer
 stack:=yn qual scope s.heap.objs.size f cd::outer
 ex:=[]
 calm:=true
 fn:=fun _=>true
 pn:=[]
 xe:=fun e s'=>wpAny (model P w) (A.deeper (yn qual scope s.heap.objs.size f cd)) (leaving (yn qual scope s.heap.objs.size f cd) e) (fun _ s''=>CX outer H s E e s'') (fun e' s''=>CX outer H s E e' s'') s'
theorem uG {sc:Scope} {n:Nat} {x:Str} (h:sc.names.lookup x=some .cell):∃ c,(k8 n sc.names []).lookup x=some c:=by
 have q:=kK sc.names n [] (.inl h);exact Option.isSome_iff_exists.mp q
theorem rD {CX:CXT} {P:Program} {w:World} {K:qC} {mg:T0d} {base:Heap} {N ps:T0o} {qual:Str} {scope:Scope} {f:Addr} {cd:Value} {A:Around} {outer:List Env} {s s1:Shared} {H:Hp} {E:XK} {us:T0k} {vs:List V}
  (S:FnScope N ps scope) (hd:A.handled=none) (e0:Env0 P w K mg base A outer s H) (hl:vs.length=ps.length) (r:aY vs us)
  (x:InCallC s s.heap.objs.size (bindL (yn qual scope s.heap.objs.size f cd).kindOf (ps.zip us) fun _=>none) (k8 (s.heap.objs.size+1) scope.names []) (bindC (yn qual scope s.heap.objs.size f cd).kindOf (ps.zip us) fun _=>none) s1) :
  Inv (a0a CX P w K mg base N qual scope f cd A outer s H E) [] (start N vs) H s1:=by
 have hpl:ps.length≤N.length:=by have:=congrArg List.length S.pre;rw [jZ] at this;omega
 obtain ⟨h1,tk,rfl,hk⟩:=x.done;have noA:∀ b:Addr,b∉(a0a CX P w K mg base N qual scope f cd A outer s H E).ex:=fun b z=>absurd (show b∈([]:T0m) from z) (by simp)
 refine ⟨⟨e0.mod,S.kind,rfl,rfl,qR _,fun y z c h1 h2=>?_,fun y hy=>?_,fun y c _ h=>?_,fun _=>hd,Around.frames_deeper e0.frames,.inr ⟨rfl,rfl⟩,fun b z=>absurd z (noA b),e0.bs,e0.bsz,fun b _ _=>noA b,fun b z=>absurd z (noA b),e0.funs,e0.frf⟩,
  rfl,e0.bare,Un.kept hk,⟨_,x.toInCall.ns,fun i y v h1 h2 h3=>?_⟩,fun y c h=>⟨_,x.cell y c h⟩,e0.hok.fresh (qR _),fun y c h=>?_,fun p hp=>absurd (show p∈([]:T0b) from hp) (by simp),e0.hok.kept hk,?_⟩
 ·exact name_of_addr x.apart (qj h1) (qj h2)
 ·have hy:scope.names.lookup y=some .cell∨scope.names.lookup y=some .free:=hy
  rcases hy with hy | hy
  ·exact uG hy
  ·exact absurd rfl (S.nofree _ (qj hy))
 ·exact qv (x.above y c (qj h))
 ·have hi:i<vs.length:=by
   unfold start at h2;by_cases hi:i<vs.length
   ·exact hi
   ·rw [jV (by simpa using hi)] at h2
    rw [kH] at h2;split at h2<;>cases h2
  have ha:vs[i]?=some v:=by
   unfold start at h2;rw [jA (by simpa using hi),qW] at h2;cases e:vs[i]? with
   | none=>rw [e] at h2;cases h2
   | some a=>rw [e] at h2;cases h2;rfl
  obtain ⟨u,hu,rv⟩:=r.get ha;have hp:ps[i]?=some y:=by
   rw [←S.pre,kF (by omega)];exact h1
  have ndP:ps.Nodup:=by rw [←S.pre];exact S.nd.sublist (wF _ _)
  refine ⟨u,rv,?_⟩;rcases S.par y (List.mem_of_getElem? hp) with k | k
  ·exact .inl ⟨k,a2Q ndP hp hu k⟩
  ·obtain ⟨c,e⟩:=uG (n:=s.heap.objs.size+1) k
   refine .inr ⟨.inl k,c,e,?_⟩;have q:=x.cell y c e;rw [a2S ndP hp hu (by show scope.names.lookup y≠_;rw [k];decide)] at q;exact q
 ·exact e0.hok.fresh (qv (x.above y c (qj h)))
 ·unfold start
  show _=N.length;rw [qh,qE,List.length_replicate];omega
theorem b1M {CX:CXT} {P:Program} {w:World} {K:qC} {mg:T0d} {base:Heap} {k:Nat} {f:Addr} {name qual:Str} {params:Arguments} {body:List Stmt} {scope:Scope} {dV kV doc pm cdv ct oc:Value} {an od:T0i}
  {osl:Array (Option Value)} {N ps:T0o} {sp:Sp} (lk:K.lookup f=some ⟨oc,od,.func (jk name qual params body scope dV kV doc pm an cdv ct),osl⟩) (hcd:vA K cdv qual=true) (S:FnScope N ps scope)
  (len:∀ vs H Q E,sp vs H Q E→vs.length=ps.length)
  (hbody:∀ (A:Around) (outer:List Env) (s:Shared) (H:Hp) (vs:List V) (Q:VK) (E:XK),Room k (A.deeper (yn qual scope s.heap.objs.size f cdv))→sp vs H Q E →
   ∃ t,PSs (a0a CX P w K mg base N qual scope f cdv A outer s H E) body t∧t { nx:=fun _ H'=>Q .non H',rt:=Q } (start N vs) H) :
  FnOk P w K mg base CX (k+1) f (jk name qual params body scope dV kV doc pm an cdv ct) ps sp:=by
 refine ⟨len,fun A outer s H args us vs Q E hr e0 hb r hsp=>?_⟩;have hl:=len _ _ _ _ hsp;have KX:K.In s.heap:=e0.mod.kin.keeps fun b o e=>(e0.bs b o e).1;have lim:s.heap.NoLimit:=e0.mod.nolimit.keeps fun b o e=>(e0.bs b o e).1;have hkind:∀ y∈ps.zip us,scope.names.lookup y.1=some .local∨(scope.names.lookup y.1=some .cell∧((k8 (s.heap.objs.size+1) scope.names []).lookup y.1).isSome=true):=fun ⟨n,v⟩ hy=>by
  rcases S.par n (zn hy).1 with q | q
  ·exact .inl q
  ·exact .inr ⟨q,kK _ _ _ (.inl q)⟩
 refine ue hr.depth (KX _ _ lk) rfl S.co S.gen rfl (vp KX hcd) (hb _ _ _ _ ?_);refine yb S.kind hkind fun env he s1 x=>?_;subst he;refine ⟨lim.keeps x.toInCall.keep,codeAny_func ?_⟩;obtain ⟨t,ht,hq⟩:=hbody A outer s H vs Q E (hr.deeper _) hsp;have I:Inv (a0a CX P w K mg base N qual scope f cdv A outer s H E) [] (start N vs) H s1:=rD S hr.hd e0 hl r x;refine v6 (ht [] s1 (start N vs) H _ I hq) (fun fl s' hs=>?_) fun e s' hs=>hs;have fin:∀ {σ':St} {H':Hp} {v:V} {u:Value},Inv (a0a CX P w K mg base N qual scope f cdv A outer s H E) [] σ' H' s'→RelV v u→Q v H'→CE outer P w H s Q u s':=
  fun {σ' H' v u} J rv q=>⟨v,H',J.os,J.bare,J.base,J.hok,rv,q⟩
 cases fl with
 | ret u=>
  obtain ⟨v,σ',H',J,rv,q⟩:=hs;exact fin J rv q
 | next=>
  obtain ⟨σ',H',J,q⟩:=hs;exact fin (v:=V.non) (u:=jH) J rfl q
 | brk=>
  obtain ⟨_,_,_,q⟩:=hs;exact qw q
 | cont=>
  obtain ⟨_,_,_,q⟩:=hs;exact qw q
section
variable {X:Cx} {x:Str} {p pos:Pos} {e:Expr} {es:T0l} {t:TA} {id T:String} {r:List V→Hp→VK→Prop}
def tCB (r:List V→Hp→VK→Prop) (t:TA):TE:=fun σ H Q=>t σ H fun vs H1=>r vs H1 Q
theorem tN (hc:eJ X (.builtin id) r) (hg:Gl X x) (hm:X.mg x=none) (hv:wm x=some (.builtin id)) (ha:PA X (e::es) t) (hn:x ≠ "__name__":=by decide) (hdb:(x==("__debug__" : Str))=false:=by decide)
  (he:j4 (e::es) X.env=(false,eval e X.env)::j4 es X.env:=by rfl) (hpl:(k9 pos (j4 es X.env)).any (·.1)=false:=by rfl):PE X (.Call (.Name x p) (e::es) [] pos) (tCB r t):=by
 intro pins s σ H Q I h;refine v0 (mM I hg hm hv ?_ hn hdb);exact PyProof.Rows.callWith_builtin1 (thn (ha pos pins s σ H _ I h) fun us s1 ⟨vs,H1,I1,r1,q1⟩=>hc pins s1 σ H1 vs us Q I1 r1 q1) he hpl
theorem a8v (hc:eJ X (.type T) r) (hg:Gl X x) (hm:X.mg x=none) (hv:wm x=some (.type T)) (ha:PA X (e::es) t) (hn:x ≠ "__name__":=by decide) (hdb:(x==("__debug__" : Str))=false:=by decide)
  (he:j4 (e::es) X.env=(false,eval e X.env)::j4 es X.env:=by rfl) (hpl:(k9 pos (j4 es X.env)).any (·.1)=false:=by rfl):PE X (.Call (.Name x p) (e::es) [] pos) (tCB r t):=by
 intro pins s σ H Q I h;refine v0 (mM I hg hm hv ?_ hn hdb);exact kR (thn (ha pos pins s σ H _ I h) fun us s1 ⟨vs,H1,I1,r1,q1⟩=>hc pins s1 σ H1 vs us Q I1 r1 q1) he hpl
end
end L2
namespace HT
open PySem PyProof.Rows
section
open PySem.SeqAt
open PySem.AutoSeq1 (wpAny_loadPart')
open PySem.MeetsSeq PySem.MeetsSeq2 PySem.MeetsSeq3
end
section
variable {prog:Program} {w:World} {A:Around} {E:T0a} {s:Shared}
theorem cat_tup {t b:Addr} {vs ws:T0k} {Q:T0a} (ht:IsTup s.heap t vs.toArray) (hb:IsTup s.heap b ws.toArray) (hv:vs≠[])
  (h1:ws=[]→Q (.ref t) s) (h2:ws≠[]→Q (.ref s.heap.objs.size) { s with heap:=s.heap.push { cls:=.type "tuple", data:=.seq (vs++ws).toArray } })
  (hsz:vs.length+ws.length≤j5):wpAny (model prog w) A (yg .Add (.ref t) (.ref b)) Q E s:=by
 obtain ⟨⟨cls,dd,data,sl⟩,ho,hc,n,hd⟩:=id ht;obtain ⟨⟨cls2,dd2,data2,sl2⟩,ho2,hc2,n2,hd2⟩:=id hb;simp only at hc hd hc2 hd2;subst hc hd hc2 hd2;have e:vs.toArray++ws.toArray=(vs++ws).toArray:=by simp
 by_cases hw:ws=[]
 ·exact QF ⟨_,ho,rfl⟩ ⟨_,ho2,rfl⟩ QA seq_tuple_add PySem.F.slot_tuple_add PySem.F.entry_tuple_add (PySem.F.args_tuple_add_2 _ _)
   (tuple_addW1 t b vs.toArray ws.toArray n n2 dd dd2 sl sl2 (by simpa using hv) (by simp [hw])) ⟨ho,ho2,h1 hw⟩
 ·refine QF ⟨_,ho,rfl⟩ ⟨_,ho2,rfl⟩ QA seq_tuple_add PySem.F.slot_tuple_add PySem.F.entry_tuple_add (PySem.F.args_tuple_add_2 _ _)
   (tuple_addW2 t b vs.toArray ws.toArray n n2 dd dd2 sl sl2 (by simpa using hv) (by simpa using hw) (by rw [qI,qI];exact hsz)) ⟨ho,ho2,?_⟩
  rw [e];exact h2 hw
def sIx (n d:Nat):Option Int→Nat
 | none=>d
 | some v=>if v<0 then (v+(n:Int)).toNat else min v.toNat n
theorem b6h (n d:Nat) (hd:d≤n) (o:Option Int):sIx n d o≤n:=by
 cases o with
 | none=>exact hd
 | some v=>
  show (if v<0 then (v+(n:Int)).toNat else min v.toNat n)≤n;by_cases hv:v<0
  ·rw [if_pos hv];omega
  ·rw [if_neg hv];exact Nat.min_le_right _ _
theorem a7R (v:Int) (n d:Nat):(if v<0 then max (v+(n:Int)) 0 else min v (n:Int))=((sIx n d (some v):Nat):Int):=by
 show (if v<0 then max (v+(n:Int)) 0 else min v (n:Int))=(((if v<0 then (v+(n:Int)).toNat else min v.toNat n):Nat):Int);by_cases hv:v<0
 ·simp only [if_pos hv];omega
 ·simp only [if_neg hv];omega
theorem a6J (lo hi:Option Int) (n:Nat):vN lo hi 1 (n:Int)=(((sIx n 0 lo:Nat):Int),((sIx n n hi:Nat):Int)):=by
 have h1:¬((1:Int)<0):=by omega
 unfold vN;simp only [h1,if_false];refine Prod.ext ?_ ?_
 ·cases lo with
  | none=>rfl
  | some v=>exact a7R v n 0
 ·cases hi with
  | none=>rfl
  | some v=>exact a7R v n n
theorem a5R (i j:Nat):zM (i:Int) (j:Int) 1=j - i:=by
 unfold zM;have h1:(1:Int) > 0:=by omega
 simp only [h1,if_true,Int.ediv_one];split<;>omega
theorem a0y {v:Value} {o:Option Int} {Q:Option Int→Shared→Prop} (p:QT v o) (h:Q o s):wpAny (model prog w) A (Builtin.Slice.slicePartIndex v) Q E s:=by
 cases p with
 | none=>exact slicePart_none h
 | int i t=>exact slicePart_int h
theorem uY {sl:Addr} {vl vu:Value} {lo hi:Option Int} {n:Nat} {Q:Int×Int×Nat→Shared→Prop} (hs:s.heap.IsSliceOf sl vl vu .none) (pl:QT vl lo) (pu:QT vu hi)
  (h:Q (((sIx n 0 lo:Nat):Int),1,sIx n n hi - sIx n 0 lo) s):wpAny (model prog w) A (Builtin.Slice.sliceApplied (.ref sl) (pure (n:Int))) Q E s:=by
 obtain ⟨os,hos,hcs,hds⟩:=id hs;unfold Builtin.Slice.sliceApplied Builtin.Slice.sliceFields;refine q8 (q8 (wf hos hds (x:=vl) rfl (q8 (wf hos hds (x:=vu) rfl (q8 (wf hos hds (x:=.none) rfl (j3 ?_)))))));refine q8 (slicePart_none ?_);show wpAny _ _ (if ((1:Int)==0)=true then _ else _) _ _ s;rw [if_neg (by decide)];refine q8 (a0y pl (q8 (a0y pu (q8 (j3 ?_)))));show wpAny _ _ (match vN lo hi 1 (n:Int) with | (lo,hi)=>pure (lo,(1:Int),zM lo hi 1)) _ _ s;rw [a6J lo hi n];show wpAny _ _ (pure (((sIx n 0 lo:Nat):Int),(1:Int),zM ((sIx n 0 lo:Nat):Int) ((sIx n n hi:Nat):Int) 1)) _ _ s;rw [a5R];exact j3 h
theorem b0I (xs:Array Value) (i k:Nat):((qi k).filterMap fun (m:Nat)=>xs[((i:Int)+(m:Int)*1).toNat]?).toArray=((xs.toList.drop i).take k).toArray:=by
 have e:(fun (m:Nat)=>xs[((i:Int)+(m:Int)*1).toNat]?)=fun m=>xs[i+m]?:=by
  funext m
  have:((i:Int)+(m:Int)*1).toNat=i+m:=by omega
  rw [this]
 rw [e];have:=pick_run xs i k;rw [vx] at this;have e2:((fun x=>xs[x]?)∘fun x=>i+x)=fun m=>xs[i+m]?:=rfl;rw [e2] at this;rw [this]
theorem getItem_tuple_cut {t sl:Addr} {items:Array Value} {vl vu:Value} {lo hi:Option Int} {Q:T0a} (ht:IsTup s.heap t items) (hs:s.heap.IsSliceOf sl vl vu .none) (pl:QT vl lo) (pu:QT vu hi)
  (hw:¬(sIx items.size 0 lo=0∧sIx items.size items.size hi=items.size))
  (h:Q (.ref s.heap.objs.size) { s with heap:=s.heap.push { cls:=.type "tuple", data:=.seq ((items.toList.drop (sIx items.size 0 lo)).take (sIx items.size items.size hi - sIx items.size 0 lo)).toArray } })
  (hsz:items.size≤j5):wpAny (model prog w) A (getItem (.ref t) (.ref sl)) Q E s:=by
 have htake:sizeOk (.seq ((items.toList.drop (sIx items.size 0 lo)).take (sIx items.size items.size hi - sIx items.size 0 lo)).toArray):=by
  show ((items.toList.drop (sIx items.size 0 lo)).take (sIx items.size items.size hi - sIx items.size 0 lo)).toArray.size≤j5;rw [qI,jZ,vL,qN];omega
 have hj:sIx items.size items.size hi≤items.size:=b6h _ _ (qR _) hi;obtain ⟨os,hos,hcs,hds⟩:=id hs;have hTs:s.TypeIs (.ref sl) "slice" := ⟨os,hos,hcs⟩;unfold getItem
 try with_reducible refine j9 ?_
 first | refine q8 (j3 ?_) | skip
 refine q8 (wpAny_sequenceKey ht.typeIs (by decide) ?_)
 refine q8 (wc (name:=jF "__getitem__") ht.typeIs zQ
  (v8 zQ ht.typeIs entry_tuple_getitem ?_ (args_tuple_getitem _ _)))
 show wpAny _ _ (Builtin.Tuple.tupleItemsOf (.ref t)>>=_) _ _ s;refine q8 (tupleItemsOf_ ht ?_);refine q8 (yw hTs ?_);rw [if_pos (by decide)];refine q8 (uY hs pl pu ?_);have hno:¬((((sIx items.size 0 lo:Nat):Int)==0&&(1:Int)==1&&(sIx items.size items.size hi - sIx items.size 0 lo)==items.size)=true):=by
  intro q;rw [qM,qM] at q;have q1:((sIx items.size 0 lo:Nat):Int)=0:=eq_of_beq q.1.1;have q2:sIx items.size items.size hi - sIx items.size 0 lo=items.size:=eq_of_beq q.2;exact hw ⟨by omega,by omega⟩
 show wpAny _ _ (if (((sIx items.size 0 lo:Nat):Int)==0&&(1:Int)==1&&(sIx items.size items.size hi - sIx items.size 0 lo)==items.size)=true then _ else _) _ _ s;rw [if_neg hno,b0I]
 first
  | exact q8 (m:=zP _) (j7 (j3 ⟨_,rfl,j3 h⟩) htake)
  | exact q8 (m:=zP _) (j7 (q8 (j3 (j3 ⟨_,rfl,j3 h⟩))) htake)
  | exact q8 (q8 (m:=zP _) (j7 (j3 (j3 ⟨_,rfl,j3 h⟩)) htake))
  | exact q8 (q8 (m:=zP _) (j7 (j3 ⟨_,rfl,j3 h⟩) htake))
end
end HT
namespace L2
open PySem PySem.Spec PyProof.Rows
abbrev TO:=St→Hp→(Option Int→Hp→Prop)→Prop
def PO (X:Cx) (e:Option Expr) (t:TO):Prop:=
 ∀ (pins:T0b) (s:Shared) (σ:St) (H:Hp) (Q:Option Int→Hp→Prop),Inv X pins σ H s→t σ H Q →
  wpAny (model X.prog X.w) X.A (evalPart e X.env) (fun u s'=>∃ o H',Inv X pins σ H' s'∧QT u o∧Q o H') X.xe s
def b2Q:TO:=fun _ H Q=>Q none H
def b8p (t:TE):TO:=fun σ H Q=>t σ H fun x H1=>∃ i,x=.int i∧Q (some i) H1
theorem intsAre_of {ns:T0q}:∀ {us:T0k},aY (ns.map V.int) us→ym us ns:=by
 induction ns with
 | nil=>intro us r;rw [List.map_nil] at r;cases r;exact .nil
 | cons n ns ih=>
  intro us r;rw [qU] at r;cases r with
  | cons r1 r2=>
   obtain ⟨t,e⟩:=r1;subst e;exact .cons n t (ih r2)
section
variable {X:Cx} {e:Expr} {te:TE} {lo hi:Option Expr} {tl th:TO} {pos p2:Pos}
theorem b3o:PO X none b2Q:=by
 intro pins s σ H Q I h;rw [evalPart_none];exact j3 ⟨none,H,I,.none,h⟩
theorem b3n (h:PE X e te):PO X (some e) (b8p te):=by
 intro pins s σ H Q I hw;rw [evalPart_some];refine thn (h pins s σ H _ I hw) fun u s1 ⟨x,H1,I1,r1,q1⟩=>?_;obtain ⟨i,rfl,q⟩:=q1;obtain ⟨t,rfl⟩:=r1;exact ⟨some i,H1,I1,.int i t,q⟩
def SlR (X:Cx) (r:V→Option Int→Option Int→Hp→VK→Prop):Prop:=
 ∀ (pins:T0b) (s:Shared) (σ:St) (H:Hp) (x:V) (v vl vu:Value) (lo hi:Option Int) (sl:Addr) (Q:VK),Inv X pins σ H s→RelV x v→s.heap.IsSliceOf sl vl vu .none→QT vl lo→QT vu hi→r x lo hi H Q →
  ∃ T id,typeLookup (.type T) "__getitem__" = pure (some (.builtin id))∧s.TypeIs v T∧wpAny (model X.prog X.w) X.A (getItem v (.ref sl)) (EP X pins σ Q) X.xe s
theorem SlR.or {r r':V→Option Int→Option Int→Hp→VK→Prop} (h:SlR X r) (h':SlR X r'):SlR X (fun x lo hi H Q=>r x lo hi H Q∨r' x lo hi H Q):=by
 intro pins s σ H x v vl vu lo hi sl Q I rx hs pl pu q;rcases q with q | q
 ·exact h pins s σ H x v vl vu lo hi sl Q I rx hs pl pu q
 ·exact h' pins s σ H x v vl vu lo hi sl Q I rx hs pl pu q
def tSl (r:V→Option Int→Option Int→Hp→VK→Prop) (te:TE) (tl th:TO):TE:=fun σ H Q=>te σ H fun x H1=>tl σ H1 fun l H2=>th σ H2 fun u H3=>r x l u H3 Q
theorem b0M {r:V→Option Int→Option Int→Hp→VK→Prop} (hr:SlR X r) (he:PE X e te) (hl:PO X lo tl) (hu:PO X hi th):PE X (.Subscript e (.Slice lo hi none p2) pos) (tSl r te tl th):=by
 intro pins s σ H Q I h;refine Subscript_ (thn (he pins s σ H _ I h) fun v s1 ⟨x,H1,I1,r1,q1⟩=>?_);refine wpAny_Slice (thn (hl pins s1 σ H1 _ I1 q1) fun vl s2 ⟨l,H2,I2,pl,q2⟩=>thn (hu pins s2 σ H2 _ I2 q2) fun vu s3 ⟨u,H3,I3,pu,q3⟩=>?_);rw [evalPart_none];refine j3 ?_;have I4:Inv X pins σ H3 { s3 with heap:=s3.heap.push { cls:=.type "slice", data:=.fields #[vl,vu,.none] } }:=I3.kept (t':=s3.toks) fun b ob q=>qB _ q;obtain ⟨T,id,hT,ht,hg⟩:=hr pins { s3 with heap:=s3.heap.push { cls:=.type "slice", data:=.fields #[vl,vu,.none] } } σ H3 x v vl vu l u s3.heap.objs.size Q I4 r1 (Heap.IsSliceOf.new ..) pl pu q3;show wpAny (model X.prog X.w) X.A (subscriptTail e (.Slice lo hi none p2) v (.ref s3.heap.objs.size)) (EP X pins σ Q) X.xe { s3 with heap:=s3.heap.push { cls:=.type "slice", data:=.fields #[vl,vu,.none] } };exact tail_any (ops:=[.ref s3.heap.objs.size,v]) ht hT hg (by with_unfolding_all rfl)
def a5r (xs:List V) (lo hi:Option Int):List V:=(xs.drop (HT.sIx xs.length 0 lo)).take (HT.sIx xs.length xs.length hi - HT.sIx xs.length 0 lo)
theorem yT (xs:List V) (lo hi:Option Int):(a5r xs lo hi).length≤xs.length:=by
 unfold a5r;rw [jZ,vL];omega
def b9T (K:qC):V→Option Int→Option Int→Hp→VK→Prop:=fun x lo hi H Q=>∃ a xs,x=.ref a∧SqT K H a xs ∧
 ¬(HT.sIx xs.length 0 lo=0∧HT.sIx xs.length xs.length hi=xs.length)∧∀ p,H p=none→Q (.ref p) (upd H p (.tup (a5r xs lo hi)))
theorem b6f:SlR X (b9T X.K):=by
 intro pins s σ H x v vl vu lo hi sl Q I rx hs pl pu h;obtain ⟨a,xs,rfl,hx,hw,q⟩:=h;cases rx;obtain ⟨its,r,ht,hz⟩:=I.tuple hx;have hlen:its.toArray.size=xs.length:=by rw [qI];exact r.length.symm
 refine ⟨"tuple", _,zQ.lookup,ht.typeIs,?_⟩;refine HT.getItem_tuple_cut ht hs pl pu (by rw [hlen];exact hw) ?_ (by rw [hlen];exact hz);rw [hlen];refine ⟨.ref s.heap.objs.size,_,I.laid (t':=s.toks) (o:=.tup (a5r xs lo hi)) (fun b ob q=>qB _ q) (qR _) ?_,rfl,q _ (I.hok.fresh (qR _))⟩;exact ⟨ql (yT xs lo hi) hz,_,(r.drop (HT.sIx xs.length 0 lo)).take (HT.sIx xs.length xs.length hi - HT.sIx xs.length 0 lo),IsTup.new _ _⟩
def b8H (K:qC):R2:=fun x y H Q=>∃ a b xs ys,x=.ref a∧y=.ref b∧SqT K H a xs∧SqT K H b ys∧xs≠[]∧xs.length+ys.length≤j5 ∧
 (ys=[]→Q (.ref a) H)∧(ys≠[]→∀ p,H p=none→Q (.ref p) (upd H p (.tup (xs++ys))))
theorem aY.nil_iff {xs:List V} {us:T0k} (r:aY xs us):us=[]↔xs=[]:=by
 cases r with
 | nil=>simp
 | cons _ _=>simp
theorem b3D:OpR X (yg .Add) (b8H X.K):=by
 intro pins s σ H x y v u Q I rx ry h;obtain ⟨a,b,xs,ys,rfl,rfl,ha,hb,hx,hz,q1,q2⟩:=h;cases rx;cases ry;obtain ⟨its,r1,p1,_⟩:=I.tuple ha;obtain ⟨its2,r2,p2,_⟩:=I.tuple hb;refine HT.cat_tup p1 p2 (fun z=>hx (r1.nil_iff.mp z)) (fun z=>⟨.ref a,H,I,rfl,q1 (r2.nil_iff.mp z)⟩) (fun z=>?_) (by rw [←r1.length,←r2.length];exact hz);refine ⟨.ref s.heap.objs.size,_,I.laid (t':=s.toks) (o:=.tup (xs++ys)) (fun b ob q=>qB _ q) (qR _) ?_,rfl,q2 (fun w=>z (r2.nil_iff.mpr w)) _ (I.hok.fresh (qR _))⟩;exact ⟨by rw [qh];exact hz,_,r1.append r2,IsTup.new _ _⟩
end
def ixN (n:Nat) (i:Int):Option Nat:=if 0≤i then (if i<n then some i.toNat else none) else if -(n:Int)≤i then some (i+n).toNat else none
def atI {α:Type} (xs:List α) (i:Int):Option α:=(ixN xs.length i).bind fun j=>xs[j]?
theorem a7s {n:Nat} {i:Int} {j:Nat} (h:ixN n i=some j):seqIndex? i n=some j∧j<n∧-(n:Int)≤i∧i<n:=by
 unfold ixN at h;by_cases h0:0≤i
 ·rw [if_pos h0] at h
  by_cases h1:i<n
  ·rw [if_pos h1] at h
   have e:i.toNat=j:=qA h;exact ⟨by rw [seqIndex_of h0 h1,e],by omega,by omega,h1⟩
  ·rw [if_neg h1] at h;cases h
 ·rw [if_neg h0] at h
  by_cases h1:-(n:Int)≤i
  ·rw [if_pos h1] at h
   have e:(i+n).toNat=j:=qA h;exact ⟨by rw [seqIndex_neg (by omega) h1,e],by omega,h1,by omega⟩
  ·rw [if_neg h1] at h;cases h
theorem a4c {α:Type} {xs:List α} {i:Int} {v:α} (h:atI xs i=some v):∃ j,seqIndex? i xs.length=some j∧xs[j]?=some v∧j<xs.length∧-(xs.length:Int)≤i∧i<xs.length:=by
 unfold atI at h;cases e:ixN xs.length i with
 | none=>rw [e] at h;cases h
 | some j=>
  rw [e] at h;obtain ⟨h1,h2,h3,h4⟩:=a7s e;exact ⟨j,h1,h,h2,h3,h4⟩
def a4g (b:Expr):Prop:=∀ o i,subscripted b false o i=operate [o,i] (getItem o i)
def IxR (X:Cx) (r:R2):Prop:=
 ∀ (value slice:Expr) (pins:T0b) (s:Shared) (σ:St) (H:Hp) (x y:V) (v u:Value) (Q:VK),Inv X pins σ H s→RelV x v→RelV y u→r x y H Q →
  subscripted slice false v u=operate [v,u] (getItem v u)→wpAny (model X.prog X.w) X.A (subscriptTail value slice v u) (EP X pins σ Q) X.xe s
def MtR (X:Cx) (id:String) (r:V→List V→Hp→VK→Prop):Prop:=
 ∀ (pins:T0b) (s:Shared) (σ:St) (H:Hp) (x:V) (xs:List V) (v:Value) (us:T0k) (Q:VK),Inv X pins σ H s→RelV x v→aY xs us→r x xs H Q →
  wpAny (model X.prog X.w) X.A (call (.builtin id) (v::us)) (EP X pins σ Q) X.xe s
section
variable {X:Cx} {a b:Expr} {ta tb:TE} {pos:Pos}
theorem IxR.or {r r':R2} (h:IxR X r) (h':IxR X r'):IxR X (fun x y H Q=>r x y H Q∨r' x y H Q):=by
 intro value slice pins s σ H x y v u Q I rx ry q hs;rcases q with q | q
 ·exact h value slice pins s σ H x y v u Q I rx ry q hs
 ·exact h' value slice pins s σ H x y v u Q I rx ry q hs
theorem b5s {r:R2} (hr:IxR X r) (ha:PE X a ta) (hb:PE X b tb) (hs:a4g b):PE X (.Subscript a b pos) (tOp r ta tb):=by
 intro pins s σ H Q I h;exact Subscript_ (b7W ha hb I h fun v u s2 x y H2 I2 rx ry q=>hr a b pins s2 σ H2 x y v u Q I2 rx ry q (hs _ _))
def b8C (K:qC):R2:=fun x y H Q=>∃ p xs i v,x=.ref p∧y=.int i∧SqL K H p xs∧atI xs i=some v∧Q v H
def b8A (K:qC):R2:=fun x y H Q=>∃ p xs i v,x=.ref p∧y=.int i∧SqT K H p xs∧atI xs i=some v∧Q v H
def b8B:R2:=fun x y H Q=>∃ z i c,x=.str z∧y=.int i∧z.length≤j5∧atI z.cps.toList i=some c∧Q (.str ⟨#[c]⟩) H
theorem a7r:IxR X (b8C X.K):=by
 intro value slice pins s σ H x y v u Q I rx ry h hs;obtain ⟨p,xs,i,z,rfl,rfl,hq,he,q⟩:=h;cases rx;obtain ⟨t,rfl⟩:=ry;obtain ⟨its,r,pl,hz⟩:=I.list hq;obtain ⟨j,h1,h2,h3,h4,h5⟩:=a4c he;obtain ⟨w,ew,rw'⟩:=r.get h2;have hl:=r.length;have hn:=sM;have fin:EP X pins σ Q w s:=⟨z,H,I,rw',q⟩;by_cases h0:0≤i
 ·have hj:i.toNat=j:=by
   rw [seqIndex_of h0 h5] at h1;exact qA h1
  exact item_listR pl.isList h0 (by omega) (by rw [hj];simpa using ew) fin hs
 ·have hj:(i+(its.toArray.size:Int)).toNat=j:=by
   rw [seqIndex_neg (by omega) h4] at h1;rw [qI,←hl];exact qA h1
  exact subscriptTail_builtinR (x:=w) pl.isList.typeIs slot_list_getitem.lookup
   (wpAny_getItem_list_neg (Q:=fun r s'=>r=w∧EP X pins σ Q r s') pl.isList (by omega) (by rw [qI]<;>omega) (by omega) (by rw [hj];simpa using ew) ⟨rfl,fin⟩) hs
theorem b7k:IxR X (b8A X.K):=by
 intro value slice pins s σ H x y v u Q I rx ry h hs;obtain ⟨p,xs,i,z,rfl,rfl,hq,he,q⟩:=h;cases rx;obtain ⟨t,rfl⟩:=ry;obtain ⟨its,r,pl,hz⟩:=I.tuple hq;obtain ⟨j,h1,h2,h3,h4,h5⟩:=a4c he;obtain ⟨w,ew,rw'⟩:=r.get h2;have hl:=r.length;have hn:=sM;have fin:EP X pins σ Q w s:=⟨z,H,I,rw',q⟩;exact subscriptTail_builtinR (x:=w) pl.typeIs slot_tuple_getitem.lookup
  (getItem_tuple (j:=j) (Q:=fun r s'=>r=w∧EP X pins σ Q r s') pl (by omega) (by omega) (by rw [qI,←hl];exact h1) (by simpa using ew) ⟨rfl,fin⟩) hs
theorem b7l:IxR X b8B:=by
 intro value slice pins s σ H x y v u Q I rx ry h hs;obtain ⟨z,i,c,rfl,rfl,hz,he,q⟩:=h;obtain ⟨t,rfl⟩:=rx;obtain ⟨t',rfl⟩:=ry;obtain ⟨j,h1,h2,h3,h4,h5⟩:=a4c he;have hl:z.cps.toList.length=z.length:=by simp [Str.length]
 rw [hl] at h1 h4 h5;have hn:=sM
 exact tail_any (typeIs_str s z t) slot_str_getitem.lookup (getItem_str (c:=c) (by
  have e1:decide (i < -(2 ^ 63:Int))=false:=decide_eq_false (by omega);have e2:decide (i≥2 ^ 63)=false:=decide_eq_false (by omega)
  rw [e1,e2,wA]) (by rw [h1];simpa using h2) ⟨.str ⟨#[c]⟩,H,I.tok _,⟨_,rfl⟩,q⟩) hs
def rIx (K:qC):R2:=fun x y H Q=>b8C K x y H Q∨b8A K x y H Q∨b8B x y H Q
theorem b7m:IxR X (rIx X.K):=a7r.or (b7k.or b7l)
theorem a6b (its:T0k) (n j:Nat) (u:Value):qy (·.setIfInBounds j u) { cls:=.type "list", data:=.seq its.toArray n }={ cls:=.type "list", data:=.seq (its.set j u).toArray n }:=by
 simp [qy]
theorem Inv.lst {pins:T0b} {σ:St} {H:Hp} {s:Shared} {p:Addr} {xs:List V} (I:Inv X pins σ H s) (h:H p=some (.lst xs)) :
  ∃ (its:T0k) (n:Nat),aY xs its∧s.heap.get? p=some { cls:=.type "list", data:=.seq its.toArray n }∧xs.length≤j5:=by
 obtain ⟨z,its,n,r,e⟩:=I.hok p _ h;exact ⟨its,n,r,e,z⟩
theorem Inv.lstUpd {pins:T0b} {σ:St} {H:Hp} {s:Shared} {p:Addr} {xs ys:List V} {its its':T0k} {n n':Nat} {f:Obj→Obj} (I:Inv X pins σ H s) (h:H p=some (.lst xs))
  (ho:s.heap.get? p=some { cls:=.type "list", data:=.seq its.toArray n }) (hf:f { cls:=.type "list", data:=.seq its.toArray n }={ cls:=.type "list", data:=.seq its'.toArray n' }) (r:aY ys its') (hz:ys.length≤j5) (t:Nat) :
  Inv X pins σ (upd H p (.lst ys)) { s with heap:=s.heap.update p f,toks:=t }:=by
 have e:(s.heap.update p f).get? p=some { cls:=.type "list", data:=.seq its'.toArray n' }:=by
  rw [jG f ho (by rw [hf]<;>rfl),hf]
 refine I.write (x:=p) (e:=p) (by rw [h];trivial) (.inl rfl) (fun b u hb q=>(qX _ _ (jm hb)).trans q) ⟨_,e⟩ ?_;exact ⟨hz,its',n',r,e⟩
def b8z:V→V→V→Hp→(Hp→Prop)→Prop:=fun o i v H Q=>∃ p xs k j,o=.ref p∧i=.int k∧H p=some (.lst xs)∧ixN xs.length k=some j∧Q (upd H p (.lst (xs.set j v)))
theorem set_list:b9j X b8z:=by
 intro pins s σ H o i v ov iv u Q I ro ri rv h;obtain ⟨p,xs,k,j,rfl,rfl,hp,hj,q⟩:=h;cases ro;obtain ⟨t,rfl⟩:=ri;obtain ⟨its,n,r,ho,hz⟩:=I.lst hp;obtain ⟨h1,h2,h3,h4⟩:=a7s hj;have hl:=r.length;have hn:=sM;have I':Inv X pins σ (upd H p (.lst (xs.set j v))) { s with heap:=s.heap.update p (qy (·.setIfInBounds j u)) }:=
  I.lstUpd hp ho (a6b its n j u) (r.set rv j) (by rw [List.length_set];exact hz) s.toks
 by_cases h0:0≤k
 ·have hk:k.toNat=j:=by
   rw [seqIndex_of h0 h4] at h1;exact qA h1
  exact PySem.W.ki_setAt ho h0 (by omega) (by rw [qI,←hl];exact h4) (by rw [hk];exact ⟨_,I',q⟩)
 ·have hk:(k+(its.toArray.size:Int)).toNat=j:=by
   rw [seqIndex_neg (by omega) h3] at h1;rw [qI,←hl];exact qA h1
  exact PySem.W.ki_setBack ho (by omega) (by rw [qI,←hl];exact h3) (by omega) (by rw [hk];exact ⟨_,I',q⟩)
theorem a3c (lo hi:Option Int) (n:Nat):(yr lo hi none n).1=((HT.sIx n 0 lo:Nat):Int)∧(yr lo hi none n).2.1=((HT.sIx n n hi:Nat):Int)∧(yr lo hi none n).2.2=1:=by
 refine ⟨?_,?_,rfl⟩
 ·cases lo with
  | none=>simp [yr,HT.sIx]
  | some i=>
   simp only [yr,HT.sIx,Option.getD_none,show (1:Int) > 0 by decide,if_true];by_cases h:i<0
   ·simp only [h,if_true]<;>omega
   ·simp only [h,if_false]<;>omega
 ·cases hi with
  | none=>simp [yr,HT.sIx]
  | some i=>
   simp only [yr,HT.sIx,Option.getD_none,show (1:Int) > 0 by decide,if_true];by_cases h:i<0
   ·simp only [h,if_true]<;>omega
   ·simp only [h,if_false]<;>omega
theorem a1D (its:T0k) (lo hi:Option Int):slicePick its.toArray lo hi none=((its.drop (HT.sIx its.length 0 lo)).take (HT.sIx its.length its.length hi - HT.sIx its.length 0 lo)).toArray:=by
 obtain ⟨h1,h2,h3⟩:=a3c lo hi its.toArray.size;unfold slicePick;rw [h1,h2,h3];simp only [sliceRange_one,pick_run,qI]<;>rfl
def b9U (K:qC):V→Option Int→Option Int→Hp→VK→Prop:=fun x lo hi H Q=>∃ a xs,x=.ref a∧SqL K H a xs∧∀ p,H p=none→Q (.ref p) (upd H p (.lst (a5r xs lo hi)))
theorem b2Z:SlR X (b9U X.K):=by
 intro pins s σ H x v vl vu lo hi sl Q I rx hs pl pu h;obtain ⟨a,xs,rfl,hx,q⟩:=h;cases rx;obtain ⟨its,r,ht,hz⟩:=I.list hx;have hlen:=r.length;refine ⟨"list", _,slot_list_getitem.lookup,ht.isList.typeIs,?_⟩;refine wpAny_getItem_list_slice ht.isList hs pl pu .none (by simp) ?_ (by rw [qI]<;>omega);rw [a1D,←hlen];refine ⟨.ref s.heap.objs.size,_,I.laid (t':=s.toks) (o:=.lst (a5r xs lo hi)) (fun b ob q=>qB _ q) (qR _) ?_,rfl,q _ (I.hok.fresh (qR _))⟩;exact ⟨ql (yT xs lo hi) hz,_,0,(r.drop (HT.sIx xs.length 0 lo)).take (HT.sIx xs.length xs.length hi - HT.sIx xs.length 0 lo),qJ _ rfl⟩
def oQ:V→Bool
 | .non=>true
 | .bl _=>true
 | .int _=>true
 | .str _=>true
 | _=>false
def eqV:V→V→Bool
 | .non,.non=>true
 | .bl a,.bl b=>a==b
 | .bl a,.int b=>(if a then 1 else 0)==b
 | .int a,.bl b=>a==(if b then 1 else 0)
 | .int a,.int b=>a==b
 | .str a,.str b=>a==b
 | _,_=>false
theorem b7B {A:Around} {s:Shared} {y x:V} {u v:Value} (ry:RelV y u) (rx:RelV x v) (fy:oQ y=true) (fx:oQ x=true):SeqAt.EqAt A s u v (eqV y x):=by
 cases y with
 | non=>
  cases ry;cases x with
  | non=>cases rx;exact SeqAt.EqAt.same _
  | bl b=>cases rx;exact SeqAt.EqAt.none_bool b
  | int b=>obtain ⟨t,rfl⟩:=rx;exact SeqAt.EqAt.none_int b t
  | str b=>obtain ⟨t,rfl⟩:=rx;exact SeqAt.EqAt.none_str b t
  | _=>exact absurd (show false=true from fx) qc
 | bl a=>
  cases ry;cases x with
  | non=>cases rx;exact SeqAt.EqAt.bool_none a
  | bl b=>cases rx;exact wC a b
  | int b=>obtain ⟨t,rfl⟩:=rx;exact SeqAt.EqAt.bool_int a b t
  | str b=>obtain ⟨t,rfl⟩:=rx;exact SeqAt.EqAt.bool_str a b t
  | _=>exact absurd (show false=true from fx) qc
 | int a=>
  obtain ⟨t',rfl⟩:=ry;cases x with
  | non=>cases rx;exact SeqAt.EqAt.int_none a t'
  | bl b=>cases rx;exact SeqAt.EqAt.int_bool a t' b
  | int b=>obtain ⟨t,rfl⟩:=rx;exact SeqAt.EqAt.int_int a t' b t
  | str b=>obtain ⟨t,rfl⟩:=rx;exact SeqAt.EqAt.int_str a t' b t
  | _=>exact absurd (show false=true from fx) qc
 | str a=>
  obtain ⟨t',rfl⟩:=ry;cases x with
  | non=>cases rx;exact SeqAt.EqAt.str_none a t'
  | bl b=>cases rx;exact SeqAt.EqAt.str_bool a t' b
  | int b=>obtain ⟨t,rfl⟩:=rx;exact SeqAt.EqAt.str_int a t' b t
  | str b=>obtain ⟨t,rfl⟩:=rx;exact SeqAt.EqAt.str_str a t' b t
  | _=>exact absurd (show false=true from fx) qc
 | _=>exact absurd (show false=true from fy) qc
def eqU (x:V) (u:Value):Bool:=match u with
 | .none=>eqV .non x
 | .bool b=>eqV (.bl b) x
 | .int i _=>eqV (.int i) x
 | .str z _=>eqV (.str z) x
 | _=>false
theorem b1R {x y:V} {u:Value} (r:RelV y u) (f:oQ y=true):eqU x u=eqV y x:=by
 cases y with
 | non=>cases r;rfl
 | bl b=>cases r;rfl
 | int i=>obtain ⟨t,rfl⟩:=r;rfl
 | str z=>obtain ⟨t,rfl⟩:=r;rfl
 | _=>exact absurd (show false=true from f) qc
theorem a4d {x:V}:∀ {xs:List V} {us:T0k},aY xs us→xs.all oQ=true→us.any (eqU x)=xs.any fun y=>eqV y x
 | _,_,.nil,_=>rfl
 | y::xs,u::us,.cons r t,f=>by
  rw [zL,qM] at f;rw [zm,zm,b1R r f.1,a4d t f.2]
theorem a0S {A:Around} {s:Shared} {x:V} {v:Value} (rx:RelV x v) (fx:oQ x=true):∀ {xs:List V} {us:T0k},aY xs us→xs.all oQ=true→∀ u∈us,SeqAt.EqAt A s u v (eqU x u)
 | _,_,.nil,_=>fun u hu=>by cases hu
 | y::xs,u::us,.cons r t,f=>fun u' hu=>by
  rw [zL,qM] at f;rcases qF.mp hu with rfl | hu
  ·rw [b1R r f.1];exact b7B r rx f.1 fx
  ·exact a0S rx fx t f.2 u' hu
def inV (x:V) (xs:List V):Bool:=xs.any fun y=>eqV y x
def rIn (K:qC) (neg:Bool):R2:=fun x y H Q=>∃ p xs,y=.ref p∧(SqL K H p xs∨SqT K H p xs)∧oQ x=true∧xs.all oQ=true∧Q (.bl (if neg then !inV x xs else inV x xs)) H
theorem a2f:OpR X (wp .In) (rIn X.K false):=by
 intro pins s σ H x y v u Q I rx ry h;obtain ⟨p,xs,rfl,hq,fx,fs,q⟩:=h;cases ry;rcases hq with hq | hq
 ·obtain ⟨its,r,pl,hz⟩:=I.list hq
  refine SeqAt.in_listAt (eqU x) pl.isList (fun w hw=>a0S rx fx r fs w (by simpa using hw)) ⟨.bl _,H,I,rfl,?_⟩;rw [show its.toArray.any (eqU x)=its.any (eqU x) by simp,a4d r fs];exact q
 ·obtain ⟨its,r,pl,hz⟩:=I.tuple hq
  refine SeqAt.in_tupleAt (eqU x) pl (fun w hw=>a0S rx fx r fs w (by simpa using hw)) ⟨.bl _,H,I,rfl,?_⟩;rw [show its.toArray.any (eqU x)=its.any (eqU x) by simp,a4d r fs];exact q
theorem uI:eJ X (.builtin "len") (fun xs H Q=>∃ p ys,xs=[.ref p]∧(SqL X.K H p ys∨SqT X.K H p ys)∧Q (.int ys.length) H):=by
 intro pins s σ H xs us Q I r h;obtain ⟨p,ys,rfl,hq,q⟩:=h;obtain ⟨u,rfl,rx⟩:=vals1 r;cases rx;have hn:=sM;rcases hq with hq | hq
 ·obtain ⟨its,r',pl,hz⟩:=I.list hq
  have hlen:=r'.length;exact Calls.call_len_list pl.isList (by simp only [qI]<;>omega) ⟨.int ys.length,H,I.tok _,⟨s.toks+1,by rw [qI,hlen]⟩,q⟩
 ·obtain ⟨its,r',pl,hz⟩:=I.tuple hq
  have hlen:=r'.length;exact len_tuple pl (by simp only [qI]<;>omega) ⟨.int ys.length,H,I.tok _,⟨s.toks+1,by rw [qI,hlen]⟩,q⟩
theorem a3W:eJ X (.builtin "len") (fun xs H Q=>∃ z,xs=[.str z]∧z.length≤j5∧Q (.int z.length) H):=by
 intro pins s σ H xs us Q I r h;obtain ⟨z,rfl,hz,q⟩:=h;obtain ⟨u,rfl,t,rfl⟩:=vals1 r;have hn:=sM;exact len_str (by omega) ⟨.int z.length,H,I.tok _,⟨_,rfl⟩,q⟩
theorem rW:eJ X (.type "tuple") (fun xs H Q=>∃ p ys,xs=[.ref p]∧((SqL X.K H p ys∧∀ l,H l=none→Q (.ref l) (upd H l (.tup ys)))∨(SqT X.K H p ys∧Q (.ref p) H))):=by
 intro pins s σ H xs us Q I r h;obtain ⟨p,ys,rfl,h⟩:=h;obtain ⟨u,rfl,rx⟩:=vals1 r;cases rx;rcases h with ⟨hq,q⟩ | ⟨hq,q⟩
 ·obtain ⟨its,r',pl,hz⟩:=I.list hq
  have hlen:=r'.length;refine call_tuple_list pl.isList (fun h' kp=>?_) (by simp only [qI]<;>omega);have I1:Inv X pins σ H { s with heap:=h' }:=I.kept (t':=s.toks) kp;have I2:Inv X pins σ (upd H h'.objs.size (.tup ys)) { s with heap:=h'.push { cls:=.type "tuple", data:=.seq its.toArray } }:=
   I1.laid (t':=s.toks) (fun b o e=>qB _ e) (qR _) (show cW X.prog X.w _ _ _ (.tup ys) from ⟨hz,its,r',IsTup.new _ _⟩)
  exact ⟨.ref h'.objs.size,_,I2,rfl,q _ (I1.hok.fresh (qR _))⟩
 ·obtain ⟨its,r',pl,hz⟩:=I.tuple hq
  exact call_tuple_same pl ⟨.ref p,H,I,rfl,q⟩
def tyV (K:qC) (T:String) (x:V) (H:Hp):Prop:=match x with
 | .str _=>T = "str"
 | .int _=>T = "int"
 | .ref p=>(T = "list" ∧ ∃ xs,SqL K H p xs)∨(T = "tuple" ∧ ∃ o,K.lookup p=some o∧o.cls=.type "tuple" ∧ o.dict=none) ∨
   (T = "dict" ∧ ((∃ kvs,H p=some (.dK kvs))∨∃ kvs,H p=some (.dT kvs)))∨(T = "set" ∧ ∃ S n,H p=some (.set S n))
 | _=>False
theorem b5T {pins:T0b} {σ:St} {H:Hp} {s:Shared} {T:String} {x:V} {v:Value} (I:Inv X pins σ H s) (r:RelV x v) (ty:tyV X.K T x H) :
  s.TypeIs v T∧∀ a,v=.ref a→∃ ob,s.heap.get? a=some ob∧ob.dict=none:=by
 cases x with
 | str z=>
  obtain ⟨t,rfl⟩:=r;cases (show T = "str" from ty);exact ⟨typeIs_str s z t,fun _ e=>nomatch e⟩
 | int i=>
  obtain ⟨t,rfl⟩:=r;cases (show T = "int" from ty);exact ⟨typeIs_int s i t,fun _ e=>nomatch e⟩
 | ref p=>
  cases r;rcases ty with ⟨rfl,xs,hq⟩ | ⟨rfl,o,hk,hc,hd⟩ | ⟨rfl,hk⟩ | ⟨rfl,S,n,hk⟩
  ·obtain ⟨its,_,pl,_⟩:=I.list hq
   refine ⟨pl.isList.typeIs,fun a e=>?_⟩;cases e;obtain ⟨o,n,e,c,hd,_⟩:=pl;exact ⟨o,e,hd⟩
  ·refine ⟨⟨o,I.kIn p o hk,hc⟩,fun a e=>?_⟩
   cases e;exact ⟨o,I.kIn _ o hk,hd⟩
  ·have z:∃ o,s.heap.get? p=some o∧o.ExactDict:=by
    rcases hk with ⟨kvs,hk⟩ | ⟨kvs,hk⟩
    ·obtain ⟨_,_,_,_,o,_,_,e,ex,_⟩:=I.hok p _ hk
     exact ⟨o,e,ex⟩
    ·obtain ⟨_,_,_,_,o,_,_,e,ex,_⟩:=I.hok p _ hk
     exact ⟨o,e,ex⟩
   obtain ⟨o,e,ex⟩:=z;refine ⟨⟨o,e,ex.1⟩,fun a e2=>?_⟩;cases e2;exact ⟨o,e,ex.2.1⟩
  ·obtain ⟨o,_,_,_,e,ex,_⟩:=I.hok p _ hk
   refine ⟨⟨o,e,ex.1⟩,fun a e2=>?_⟩;cases e2;exact ⟨o,e,ex.2.1⟩
 | _=>exact qw ty
def tBM (K:qC) (T:String) (r:V→List V→Hp→VK→Prop) (to:TE) (t:TA):TE:=fun σ H Q=>to σ H fun x H1=>tyV K T x H1∧t σ H1 fun xs H2=>r x xs H2 Q
variable {o e:Expr} {es:T0l} {to:TE} {t:TA} {name:Str} {apos cpos:Pos} {T id:String} {r:V→List V→Hp→VK→Prop}
theorem a4z (pa:PlainAttrs T) (slot:Slot T name id) (hty:typeOf (.builtin id)=pure (.type "method_descriptor")) (hm:MtR X id r) (ho:PE X o to) (ha:PA X (e::es) t)
  (hbase:ye o name X.env (eval o X.env)=eval o X.env:=by rfl)
  (hfew:((k9 cpos (j4 (e::es) X.env)).all (fun x=>!x.1)&&(yo cpos (wu [] X.env)).all (fun x=>x.1.isSome)
   && decide ((e::es).length+([]:List Keyword).length+(if ([]:List Keyword).isEmpty then 0 else 1)<30))=true:=by rfl)
  (hline:(apos.endLine==cpos.line)=true:=by rfl) (hs:j4 (e::es) X.env=(false,eval e X.env)::j4 es X.env:=by rfl) (hplain:(k9 cpos (j4 es X.env)).any (·.1)=false:=by rfl) :
  PE X (.Call (.Attribute o name apos) (e::es) [] cpos) (tBM X.K T r to t):=by
 intro pins s σ H Q I h;refine wpAny_Call_method_late hbase hfew hline rfl (thn (ho pins s σ H _ I h) fun v s1 ⟨x,H1,I1,r1,ty,q1⟩=>?_);obtain ⟨h1,h2⟩:=b5T I1 r1 ty;refine ⟨T,id,pa,slot,hty,h1,h2,?_⟩;have hA:=ha cpos pins s1 σ H1 _ I1 q1;rw [hs] at hA ⊢;refine Calls.callWith_builtin (by show (false || (k9 cpos (j4 es X.env)).any (·.1))=false;rw [hplain]<;>rfl) (Calls.evalArgs_plain ?_);exact thn hA fun us s2 ⟨vs,H2,I2,r2,q2⟩=>hm pins s2 σ H2 x vs v us Q I2 r1 r2 q2
end
def MtM (X:Cx) (id:String) (r:V→List V→Hp→VK→Prop):Prop:=
 ∀ (pins:T0b) (s:Shared) (σ:St) (H:Hp) (x:V) (xs:List V) (v:Value) (us:T0k) (Q:VK),Inv X pins σ H s→RelV x v→aY xs us→r x xs H Q →
  wpAny (model X.prog X.w) X.A (call (.builtin id) (v::us)) (EP X pins σ Q) X.xe s
theorem aY.one:∀ {x:V} {us:T0k},aY [x] us→∃ u,us=[u]∧RelV x u
 | _,_,.cons r .nil=>⟨_,rfl,r⟩
theorem aY.reverse {xs:List V} {us:T0k} (h:aY xs us):aY xs.reverse us.reverse:=by
 induction h with
 | nil=>exact .nil
 | cons r t ih=>rw [jd,jd];exact aY.append ih (.cons r .nil)
section
variable {X:Cx} {pins:T0b} {σ:St} {H:Hp} {s:Shared} {l b:Addr} {xs ys zs:List V}
theorem Inv.lset {its its':T0k} {n:Nat} {f:Array Value→Array Value} {t':Nat} (I:Inv X pins σ H s) (hH:H l=some (.lst xs))
  (e:s.heap.get? l=some { cls:=.type "list", data:=.seq its.toArray n }) (hf:f its.toArray=its'.toArray) (hv:aY ys its') (hz:ys.length≤j5) :
  Inv X pins σ (upd H l (.lst ys)) { s with heap:=s.heap.update l (qy f),toks:=t' }:=by
 have q:=PySem.IsL.update e f;rw [hf] at q;refine I.write (x:=l) (e:=l) (by rw [hH];exact trivial) (.inl rfl) (fun b' u hb hu=>(qX s.heap (qy f) (jm hb)).trans hu) ⟨_,q⟩ ?_;exact ⟨hz,its',_,hv,q⟩
theorem Inv.lnew {its:T0k} {t':Nat} (I:Inv X pins σ H s) (hv:aY ys its) (hz:ys.length≤j5) :
  Inv X pins σ (upd H s.heap.objs.size (.lst ys)) { s with heap:=s.heap.push { cls:=.type "list", data:=.seq its.toArray },toks:=t' }:=
 I.laid (fun _ _ q=>qB _ q) (qR _) ⟨hz,its,0,hv,qJ _ rfl⟩
theorem Inv.fresh (I:Inv X pins σ H s):H s.heap.objs.size=none:=I.hok.fresh (qR _)
theorem Inv.lstM (I:Inv X pins σ H s) (hH:H l=some (.lst xs)):xs.length≤j5∧∃ (its:T0k) (n:Nat),aY xs its∧xs.length=its.length∧s.heap.get? l=some { cls:=.type "list", data:=.seq its.toArray n }:=by
 obtain ⟨z,its,n,r,e⟩:=I.hok l _ hH;exact ⟨z,its,n,r,r.length,e⟩
theorem b0X {n:Nat} (h:n≤j5):va n=false:=by
 unfold va;exact decide_eq_false (by omega)
end
section
variable {X:Cx}
def b3f:V→List V→Hp→VK→Prop:=fun x vs H Q=>∃ l xs y,x=.ref l∧vs=[y]∧H l=some (.lst xs)∧xs.length<j5∧Q .non (upd H l (.lst (xs++[y])))
theorem pY:MtM X "list.append" b3f:=by
 intro pins s σ H x vs v us Q I rx rv h;obtain ⟨l,xs,y,rfl,rfl,hH,hz,q⟩:=h;cases rx;obtain ⟨u,rfl,ru⟩:=rv.one;obtain ⟨z,its,n,r,hl,e⟩:=I.lstM hH;refine QD F.slot_list_append ⟨_,e,rfl⟩ F.entry_list_append (F.args_list_append_2 _ _) (PySem.list_append l its.toArray n u (by rw [qI];omega)) ⟨e,?_⟩;refine ⟨.non,_,I.lset (its':=its++[u]) hH e (by simp) (r.append (.cons ru .nil)) ?_,rfl,q⟩;rw [qh,jD];omega
end
section
variable {prog:Program} {w:World} {A:Around} {E:T0a} {s:Shared}
end
section
variable {X:Cx}
end
end L2
namespace Att
open PySem PySem.W PySem.Calls PyProof.Rows
theorem yY {P:Params} {h:Heap}:∀ (ns:T0q) (vs:T0k),WellAll P h vs (ns.map WData.int)→ym vs ns:=by
 intro ns
 induction ns with
 | nil=>
  intro vs w;rw [List.map_nil] at w;cases w;exact .nil
 | cons n ns ih=>
  intro vs w;rw [qU] at w;cases w with
  | cons a b=>
   cases a;exact .cons _ _ (ih _ b)
theorem a8m {l:OpenLaw} {n:Nat} (hn:l.most=some n) {P:Params} {h:Heap} {args:List WData} {vals:T0k}
  (hpre:l.row.toRowW.claim.pre args=true) (hwl:WellAll P h vals args) :
  ∃ a vs ns,vals=[jb a]∧args=[WData.list (ns.map WData.int)]∧h.get? a=some { cls:=.type "list", data:=.seq vs.toArray }∧ym vs ns∧ns.length≤n:=by
 have hsh:WShape.hasAll [] args [.list .int]=true:=(pre_splitW hpre).1;have hc:l.pre.holds [] { args:=args }=true:=(pre_splitW hpre).2;obtain ⟨d,r,rfl,h1,h2⟩:=hasAllW_cons hsh;obtain rfl:=hasAllW_nil h2;obtain ⟨xs,rfl,h3⟩:=hasW_list h1;obtain ⟨ns,rfl⟩:=items_int h3;have hlen:ns.length≤n:=by
  unfold OpenLaw.pre at hc;have h4:(WTm.not (.lt (.lit (.int (n:Int))) (.len (.arg 0)))).holds [] { args:=[.list (ns.map .int)] }=true:=by
   have h4:=(holds_andW hc).1;rw [hn] at h4;exact h4
  have h5:=condW_of h4 (w_not (w_lt w_lit (w_len_list (w_arg rfl))));rw [qE] at h5;refine Nat.le_of_not_lt fun q=>?_;have q':(n:Int)<((ns.length:Nat):Int):=by omega
  first
   | (rw [decide_eq_true q'] at h5;exact absurd h5 (by decide))
   | (simp at h5;omega)
 cases hwl with
 | cons w1 w2=>
  cases w2;cases w1 with
  | list ho hall=>exact ⟨_,_,ns,rfl,rfl,ho,yY ns _ hall,hlen⟩
theorem a8s (l:OpenLaw) (args:List WData):l.row.toRowW.claim.post args (.bool true) args=true:=
 postW_of (r:=l.row.toRowW) (X:=(true==true))
  (show WShape.has [] (.bool true) .bool=true by first | rfl | decide | simp [WShape.has,WShape.arms,WShape.armsAll])
  (show (WTm.eq .res (.lit (.bool true))).value [] { args:=args,res:=some (.bool true),after:=args }=some (.bool (true==true)) from w_eq_bool (w_res rfl) w_lit) rfl
theorem attach_call {l:OpenLaw} {n:Nat} {q:Program} {loose:T0o} {XP:(Str→Option Value)→Heap→Prop} {YP:World→Heap→Prop} {d:DefRec}
  (hn:l.most=some n) (hdf:d.params.defaults=[])
  (call:∀ (w:World) (s₀ s₁:Shared) (mg mb:T0d) (fa:Addr) (o:Obj) (pm cd doc:Value) (a:Addr) (vs:T0k) (ns:T0q),
   Ground q loose [] XP w s₀ mg mb s₁.heap→YP w s₁.heap →
   s₁.heap.get? fa=some o→o.data=.func (docDef d.name d.params d.body d.scope pm cd doc)→s₁.heap.CodeRec cd d.name→mg d.name=some (.ref fa) →
   s₁.heap.get? a=some { cls:=.type "list", data:=.seq vs.toArray }→ym vs ns→ns.length≤n→s₁.gens=#[] →
   wx (model l.prog w) QP (.call (.ref fa) ⟨[.ref a],[]⟩) (fun r s'=>r=.ok (.ret (.bool true))∧OldK s₁.heap s'.heap∧s'.os=s₁.os∧ut s'.gens) s₁) :
  WalkO q loose XP YP l.row.toRowW d [] (fun f vs=>PySem.call f vs):=by
 intro w s₀ s₁ mg mb G Y fa o pm cd doc dV kV ho hd hcd hD hmg hg args vals as hpre hlay hrd hwl hlo;obtain rfl:dV=.none:=Dflts.none hD hdf;obtain rfl:kV=.none:=Dflts.noKw hD;obtain ⟨a,vs,ns,rfl,rfl,hobj,hints,hlen⟩:=a8m hn hpre hwl;refine enter_call (wy (call w s₀ s₁ mg mb fa o pm cd doc a vs ns G Y ho (fd_plain hd) hcd hmg hobj hints hlen hg) fun r s' hq=>?_);obtain ⟨rfl,h2,h3,h4⟩:=hq;exact ⟨.inl ⟨.bool true,.bool true,[],rfl,fun _=>rfl,.bool true,a8s l _,fun _=>⟨List.Pairwise.nil,fun _ hm=>(nomatch hm)⟩⟩,h2,h3,h4⟩
section
variable {prog:Program} {w:World} {A:Around} {E:T0a} {s:Shared} {K:Frag}
end
end Att
namespace L2
open PySem PySem.Spec PyProof.Rows
theorem mS:∀ {vs:T0k} {ns:T0q},ym vs ns→aY (ns.map V.int) vs
 | _,_,.nil=>.nil
 | _,_,.cons n t h=>.cons ⟨t,rfl⟩ (mS h)
def c0y (H:Hp):Prop:=∀ b,H b=none∨∃ o xs,H b=some (.frz o (.lst xs))
def eY (s:Stmt):Arguments:=match s with
 | .FunctionDef _ a _ _ _ _ _ _ _ _=>a
 | _=>{ posonlyargs:=[],args:=[],vararg:=none,kwonlyargs:=[],kw_defaults:=[],kwarg:=none,defaults:=[] }
def bL (s:Stmt):List Stmt:=match s with
 | .FunctionDef _ _ b _ _ _ _ _ _ _=>b
 | _=>[]
def aD (s:Stmt):Scope:=match s with
 | .FunctionDef _ _ _ _ _ _ sc _ _ _=>sc
 | _=>{ kind:=.function,names:=[],isGenerator:=false,isCoroutine:=false }
abbrev CX0:CXT:=fun _ _ _ _ _ _=>False
abbrev E0:XK:=fun _ _ _=>False
theorem b8M {X:Cx}:a6K CX0 X E0:=fun _ _ _ _ _ _ _ h=>h.elim
structure Fun (K:qC) (x qual:Str) (st:Stmt) (f:Addr) (fd:w5):Prop where
 ex:∃ (oc:Value) (od:T0i) (kV doc pm:Value) (an:T0i) (cdv ct:Value) (osl:Array (Option Value)),
  fd=jk x qual (eY st) (bL st) (aD st) .none kV doc pm an cdv ct∧K.lookup f=some ⟨oc,od,.func fd,osl⟩∧vA K cdv qual=true
 kp:kB K (.ref f)=true
section
variable {P:Program} {w:World} {K:qC} {mg:T0d} {base:Heap}
theorem Fun.ok {x qual:Str} {st:Stmt} {f:Addr} {fd:w5} {N ps:T0o} {k:Nat} {sp:Sp} (F:Fun K x qual st f fd) (S:FnScope N ps (aD st)) (len:∀ vs H Q E,sp vs H Q E→vs.length=ps.length)
  (hbody:∀ (cdv:Value) (A:Around) (outer:List Env) (s:Shared) (H:Hp) (vs:List V) (Q:VK) (E:XK),Room k (A.deeper (yn qual (aD st) s.heap.objs.size f cdv))→sp vs H Q E →
   ∃ t,PSs (a0a CX0 P w K mg base N qual (aD st) f cdv A outer s H E).nox (bL st) t∧t { nx:=fun _ H'=>Q .non H',rt:=Q } (start N vs) H):FnOk P w K mg base CX0 (k+1) f fd ps sp:=by
 obtain ⟨oc,od,kV,doc,pm,an,cdv,ct,osl,rfl,lk,hcd⟩:=F.ex;refine b1M lk hcd S len fun A outer s H vs Q E hr hsp=>?_;obtain ⟨t,h,q⟩:=hbody cdv A outer s H vs Q E hr hsp;exact ⟨t,h.nox,q⟩
theorem Fun.binds {x qual:Str} {st:Stmt} {f:Addr} {fd:w5} {ps:T0o} (F:Fun K x qual st f fd)
  (h:∀ (kV doc pm:Value) (an:T0i) (cdv ct:Value) (us:T0k),us.length=ps.length→yy (jk x qual (eY st) (bL st) (aD st) .none kV doc pm an cdv ct) ⟨us,[]⟩=pure (ps.zip us)):Binds K fd ps []:=by
 obtain ⟨oc,od,kV,doc,pm,an,cdv,ct,osl,rfl,lk,hcd⟩:=F.ex;exact .all (h kV doc pm an cdv ct)
theorem b1K {x qual:Str} {st:Stmt} {f:Addr} {oc:Value} {od an:T0i} {osl:Array (Option Value)} {kV doc pm cdv ct:Value} (l:K.lookup f=some ⟨oc,od,.func (jk x qual (eY st) (bL st) (aD st) .none kV doc pm an cdv ct),osl⟩)
  (c:vA K cdv qual=true) (k:kB K (.ref f)=true):Fun K x qual st f (jk x qual (eY st) (bL st) (aD st) .none kV doc pm an cdv ct):=⟨⟨oc,od,kV,doc,pm,an,cdv,ct,osl,rfl,l,c⟩,k⟩
end
theorem fE {n:Nat} (h:n≤1000):n<j5:=kO h (by decide)
section
variable {X:Cx}
theorem pv (i:Nat) {x:Str} {pos:Pos} (hN:X.N[i]?=some x:=by rfl) (hv:Vis X.env.scope x:=by first | exact kC rfl | exact jg (kC rfl) | exact jg (jg rfl)) (hd:(x==("__debug__" : Str))=false:=by decide)
  (hcd:(x==("__classdict__" : Str))=false:=by decide):PE X (.Name x pos) (b8n i):=hZ hN hv hd hcd
end
theorem c0f {A B:Prop} (h:B):if false=true then A else B:=by
 rw [if_neg qc];exact h
theorem c0e {A B:Prop} (h:A):if true=true then A else B:=by
 rw [if_pos rfl];exact h
def bB (H H':Hp):Prop:=∀ b o,H b=some o→H' b=some o
theorem bB.refl (H:Hp):bB H H:=fun _ _ h=>h
theorem bB.trans {H H1 H2:Hp} (a:bB H H1) (b:bB H1 H2):bB H H2:=fun c o h=>b c o (a c o h)
theorem bB.free {H H':Hp} (e:bB H H') {l:Addr} (h:H' l=Option.none):H l=Option.none:=by
 cases q:H l with
 | none=>rfl
 | some o=>
  rw [e l o q] at h;cases h
theorem bB.seq {K:qC} {H H':Hp} {a:Addr} {xs:List V} (e:bB H H') (h:SqL K H a xs):SqL K H' a xs:=by
 rcases h with (h | ⟨o,h⟩) | h
 ·exact .inl (.inl (e _ _ h))
 ·exact .inl (.inr ⟨o,e _ _ h⟩)
 ·exact .inr h
theorem a6o {α β:Type} {l:List α} {f:α→β→Sem (ForInStep β)} {g:α→β→β}:∀ (c:β),(∀ x∈l,∀ c,f x c=pure (.yield (g x c)))→(forIn l c f:Sem β)=pure (l.foldl (fun c x=>g x c) c):=by
 induction l with
 | nil=>intro c _;rfl
 | cons x r ih=>
  intro c h;rw [vT,h x qS];exact ih _ fun y hy=>h y (qD _ hy)
def mQ (env:Env) (p:Str×yd) (cs:T0f):List (Str×Addr):=
 if p.2=.free then (match env.cells.lookup p.1 with | some a=>(p.1,a)::cs | none=>cs) else cs
def xY (scope:Scope) (env:Env):List (Str×Addr):=scope.names.foldl (fun cs p=>mQ env p cs) []
theorem iO {scope:Scope} {env:Env} (h:∀ p∈scope.names,p.2=.free→∃ c,env.cells.lookup p.1=some c):QE scope env=pure (xY scope env):=by
 simp only [QE]
 rw [a6o (g:=mQ env) [] (fun x hx c=>by
  obtain ⟨n,kind⟩:=x;by_cases hk:kind=.free
  ·subst hk
   obtain ⟨a,e⟩:=h _ hx rfl;have e':env.cells.lookup n=some a:=e;simp [mQ,e',cellOf]
   try rfl
  ·have hb:(kind==kQ)=false:=by simpa using hk
   simp [mQ,hb,hk])]
 rfl
theorem b5H {env:Env}:∀ (names:List (Str×yd)) (cs:T0f),(∀ x c,(x,c)∈cs→env.cells.lookup x=some c) →
  ∀ x c,(x,c)∈names.foldl (fun cs p=>mQ env p cs) cs→env.cells.lookup x=some c
 | [],cs,h=>h
 | p::r,cs,h=>by
  refine b5H r _ ?_;intro x c hx;unfold mQ at hx;dsimp only at hx;split at hx
  ·split at hx
   ·rename_i a e
    rcases qF.mp hx with z | z
    ·cases z;exact e
    ·exact h x c z
   ·exact h x c hx
  ·exact h x c hx
theorem a7S {env:Env} {q:Str×Addr}:∀ (names:List (Str×yd)) (cs:T0f),q∈cs→q∈names.foldl (fun cs p=>mQ env p cs) cs
 | [],_,h=>h
 | p::r,cs,h=>by
  refine a7S r _ ?_;unfold mQ;dsimp only;split
  ·split
   ·exact qD _ h
   ·exact h
  ·exact h
theorem b2r {env:Env} {x:Str} {c:Addr} (e:env.cells.lookup x=some c):∀ (names:List (Str×yd)) (cs:T0f),(x,kQ)∈names→(x,c)∈names.foldl (fun cs p=>mQ env p cs) cs
 | [],_,h=>by simp at h
 | p::r,cs,h=>by
  rcases qF.mp h with z | z
  ·subst z
   refine a7S r _ ?_;unfold mQ;dsimp only;rw [if_pos rfl,e];exact qS
  ·exact b2r e r _ z
theorem iV {α:Type} {x:Str} {c:α}:∀ {l:List (Str×α)},(x,c)∈l→∃ c',l.lookup x=some c'
 | [],h=>by simp at h
 | (y,d)::r,h=>by
  by_cases e:x=y
  ·subst e;exact ⟨d,by simp [jy]⟩
  ·have hb:(x==y)=false:=by simpa using e
   rcases qF.mp h with z | z
   ·cases z;exact absurd rfl e
   ·obtain ⟨c',q⟩:=iV z
    exact ⟨c',by simp [jy,hb,q]⟩
theorem a3Q {scope:Scope} {env:Env} {x:Str} {c:Addr} (h:(xY scope env).lookup x=some c):env.cells.lookup x=some c:=
 b5H scope.names [] (fun _ _ z=>by simp at z) x c (qj h)
theorem uF {scope:Scope} {env:Env} {x:Str} {c:Addr} (hx:(x,kQ)∈scope.names) (e:env.cells.lookup x=some c):(xY scope env).lookup x=some c:=by
 obtain ⟨c',q⟩:=iV (b2r e scope.names [] hx);have:=a3Q (scope:=scope) q;rw [e] at this;cases this;exact q
theorem iE {env:Env} (hf:env.scope.kind=.function):∀ {names:List (Str×yd)} {x:Str},names.lookup x=some .free→env.kindOf x=some .cell →
  (names.map fun (n,k)=>if (k==kQ&&env.scope.kind==.function&&env.kindOf n==some .cell) then (n,vg) else (n,k)).lookup x=some .cell
 | [],_,h,_=>by simp at h
 | (n,k)::r,x,h,hk=>by
  have ih:=@iE env hf r x;show List.lookup x ((if (k==kQ&&env.scope.kind==.function&&env.kindOf n==some .cell)=true then (n,vg) else (n,k))::_)=_;cases hx:x==n with
  | true=>
   simp only [jy,hx] at h;have e:x=n:=by simpa using hx
   subst e;cases h;have hc:(kQ==kQ&&env.scope.kind==.function&&env.kindOf x==some vg)=true:=by rw [hf,hk];rfl
   rw [if_pos hc];simp [jy]
  | false=>
   simp only [jy,hx] at h;by_cases hc:(k==kQ&&env.scope.kind==.function&&env.kindOf n==some .cell)=true
   ·rw [if_pos hc];simp only [jy,hx];exact ih h hk
   ·rw [if_neg hc];simp only [jy,hx];exact ih h hk
theorem iR:∀ (names:List (Str×yd)) (n:Nat) (acc cl:T0f),k8 n names (acc++cl)=k8 n names acc++cl
 | [],_,_,_=>rfl
 | (x,k)::r,n,acc,cl=>by
  unfold k8;split
  ·exact iR r (n+1) ((x,n)::acc) cl
  ·exact iR r n acc cl
theorem fG (names:List (Str×yd)) (n:Nat) (cl:T0f) {x:Str} {c:Addr} (h:(k8 n names cl).lookup x=some c) :
  (k8 n names []).lookup x=some c∨((k8 n names []).lookup x=none∧cl.lookup x=some c):=by
 have e:=iR names n [] cl;rw [zo] at e;rw [e,zx] at h;cases q:(k8 n names []).lookup x with
 | some d=>rw [q] at h;exact .inl h
 | none=>rw [q] at h;exact .inr ⟨rfl,h⟩
theorem a5v (names:List (Str×yd)) (n:Nat) (cl:T0f) {x:Str} {c:Addr} (h:cl.lookup x=some c):∃ d,(k8 n names cl).lookup x=some d:=by
 have e:=iR names n [] cl;rw [zo] at e;rw [e,zx];cases q:(k8 n names []).lookup x with
 | some d=>exact ⟨d,rfl⟩
 | none=>exact ⟨c,h⟩
theorem a5w (names:List (Str×yd)) (n:Nat) (cl:T0f) {x:Str} {c:Addr} (h0:(k8 n names []).lookup x=none) (h:cl.lookup x=some c):(k8 n names cl).lookup x=some c:=by
 have e:=iR names n [] cl;rw [zo] at e;rw [e,zx,h0];exact h
theorem a5x (names:List (Str×yd)) (n:Nat) (cl:T0f) {x:Str} {c:Addr} (h:(k8 n names []).lookup x=some c):(k8 n names cl).lookup x=some c:=by
 have e:=iR names n [] cl;rw [zo] at e;rw [e,zx,h];rfl
theorem xZ:∀ (names:List (Str×yd)) (n:Nat) (acc:T0f) {x:Str} {c:Addr},(x,c)∈k8 n names acc→(x,c)∈acc∨(x,vg)∈names
 | [],_,_,_,_,h=>.inl h
 | (y,k)::r,n,acc,x,c,h=>by
  unfold k8 at h;split at h
  ·rename_i hk
   have hk':k=.cell:=by simpa using hk
   rcases xZ r (n+1) ((y,n)::acc) h with z | z
   ·rcases qF.mp z with z | z
    ·cases z;subst hk';exact .inr qS
    ·exact .inl z
   ·exact .inr (qD _ z)
  ·rcases xZ r n acc h with z | z
   ·exact .inl z
   ·exact .inr (qD _ z)
theorem b5c {M:Model} {A:Around} {E:T0a} {s:Shared} {scope:Scope} {globals:Addr} {cl:T0f} {qual:Str} {env:Env} {Q:Env→Shared→Prop}
  (hQ:Q (newEnv scope s.heap.objs.size globals (k8 (s.heap.objs.size+1) scope.names cl) qual none .none (some env) uf) { s with heap:=QS (s.heap.push { cls:=.type "dict", data:=.dict #[] }) scope.names }) :
  wpAny M A (y9 scope globals cl [] qual none .none (some env)) Q E s:=by
 simp only [y9,Option.isSome_some,if_true];refine q8 (wpAny_alloc ?_);refine q8 (wpAny_layCells _ (fun name kind cells=>by cases hkc:kind==vg<;>simp [hkc]) _ _ _ _ ?_);rw [show ({ s with heap:=s.heap.push { cls:=.type "dict", data:=.dict #[] } }:Shared).heap.objs.size=s.heap.objs.size+1 from jB ..];refine q8 (j3 ?_);exact j3 hQ
structure Blk (X:Cx) (scope:Scope) (N':T0o) (cap:T0e):Prop where
 kind:scope.kind=.function
 cells:∀ y∈scope.names,y.2=.cell→scope.names.lookup y.1=some .cell
 names:∀ y∈scope.names,y.2=.local→scope.names.lookup y.1=some .local
 free:∀ y∈scope.names,y.2=.free→X.env.kindOf y.1=some .cell
 caps:∀ (i j:Nat),cap[i]?=some (some j)→∃ x,N'[i]?=some x∧X.N[j]?=some x∧scope.names.lookup x=some .free
 len:cap.length=N'.length
 nd:N'.Nodup
def fU (cap:T0e) (σ:St):St:=cap.map fun o=>match o with
 | some j=>(σ[j]?).getD none
 | none=>none
def bH (X:Cx) (scope:Scope) (N':T0o) (C:Addr) (s₃:Shared) (H₃:Hp) (fp:T0m):Cx:=
 { X with env:=QL scope (k8 (C+1) scope.names (xY scope X.env)) C X.env,N:=N',s₀:=s₃,H₀:=H₃,outer:=X.stack,ex:=fp,fn:=fun x=>decide (scope.names.lookup x=some .cell),pn:=[],xe:=fun _ _=>False }
theorem b5b {X:Cx} {scope:Scope} {N':T0o} {cap:T0e} {pins:T0b} {σ:St} {H:Hp} {s:Shared} {fp:T0m} {h':Heap} {tk:Nat} {m':T0d}
  (B:Blk X scope N' cap) (I:Inv X pins σ H s) (hf:∀ b∈fp,tE X pins H b) (hlt:∀ b∈fp,b<s.heap.objs.size)
  (hn:h'.Ns s.heap.objs.size m') (hk:∀ b o,s.heap.get? b=some o→h'.get? b=some o) (ow:CellsOk h' (s.heap.objs.size+1) (k8 (s.heap.objs.size+1) scope.names [])) :
  Inv (bH X scope N' s.heap.objs.size s H fp) [] (fU cap σ) H { s with heap:=h',toks:=tk }:=by
 have cl:∀ x c,(xY scope X.env).lookup x=some c→X.env.cells.lookup x=some c:=fun x c h=>a3Q h;have hsz:∀ x c,X.env.cells.lookup x=some c→c<s.heap.objs.size:=fun x c e=>by
  obtain ⟨v,q⟩:=I.cell x c e;exact q.lt
 have own:∀ x c,(k8 (s.heap.objs.size+1) scope.names []).lookup x=some c→h'.IsCell c none∧s.heap.objs.size<c:=fun x c e=>by
  obtain ⟨q1,q2⟩:=ow.empty x c (qj e);exact ⟨q1,qT (zV _) q2⟩
 refine ⟨⟨I.ok.mod,B.kind,I.ok.glob,I.ok.blt,qR _,?_,?_,?_,I.ok.hd,I.ok.frames,.inl rfl,?_,I.bs,ql I.ok.bsz I.sz,?_,?_,I.stack,I.stkFree⟩,
  rfl,I.bare,Un.kept hk,⟨m',hn,?_⟩,?_,I.hok.fresh (qR _),?_,?_,I.hok.kept hk,?_⟩
 ·intro x y c h1 h2
  rcases fG _ _ _ h1 with a1 | ⟨_,a1⟩<;>rcases fG _ _ _ h2 with a2 | ⟨_,a2⟩
  ·exact name_of_addr ow.apart (qj a1) (qj a2)
  ·exact absurd (hsz y c (cl y c a2)) (wO (own x c a1).2)
  ·exact absurd (hsz x c (cl x c a1)) (wO (own y c a2).2)
  ·exact I.ok.inj x y c (cl x c a1) (cl y c a2)
 ·intro x hx
  have hx:(relabel scope X.env).names.lookup x=some .cell∨(relabel scope X.env).names.lookup x=some .free:=hx;have key:∃ k,(relabel scope X.env).names.lookup x=some k∧(k=.cell∨k=.free):=by
   rcases hx with h | h
   ·exact ⟨_,h,.inl rfl⟩
   ·exact ⟨_,h,.inr rfl⟩
  obtain ⟨k,hk1,hk2⟩:=key;obtain ⟨⟨n,k0⟩,hm,he⟩:=qH.mp (qj hk1);have fr:(k0=.free∨k0=.cell)∧n=x:=by
   dsimp only at he;by_cases hc:(k0==kQ&&X.env.scope.kind==.function&&X.env.kindOf n==some .cell)=true
   ·rw [if_pos hc] at he
    cases he;simp only [qM] at hc;exact ⟨.inl (by simpa using hc.1.1),rfl⟩
   ·rw [if_neg hc] at he
    cases he;rcases hk2 with z | z
    ·exact ⟨.inr z,rfl⟩
    ·exact ⟨.inl z,rfl⟩
  obtain ⟨hk0,rfl⟩:=fr;rcases hk0 with rfl | rfl
  ·obtain ⟨c,e⟩:=I.ok.has n (.inl (B.free _ hm rfl))
   exact a5v _ _ _ (uF hm e)
  ·obtain ⟨c,e⟩:=uG (sc:=scope) (n:=s.heap.objs.size+1) (B.cells _ hm rfl)
   exact ⟨c,a5x _ _ _ e⟩
 ·intro x c hx e
  have hx:scope.names.lookup x=some .cell:=of_decide_eq_true hx;rcases fG _ _ _ e with e | ⟨n0,_⟩
  ·exact qv (own x c e).2
  ·obtain ⟨d,q⟩:=uG (sc:=scope) (n:=s.heap.objs.size+1) hx
   rw [q] at n0;cases n0
 ·intro b hb
  refine ⟨qa (hlt b hb),fun x c e=>?_⟩;rcases fG _ _ _ e with e | ⟨_,e⟩
  ·exact fun z=>absurd (hlt b hb) (wO (by rw [←z];exact (own x c e).2))
  ·exact (hf b hb).2.2.2.2.1 x c (cl x c e)
 ·intro b o e hb
  rcases (hf b hb).2.2.2.1 with z | z
  ·exact I.ok.noex b o e z
  ·exact absurd (qT (qG e) (ql I.ok.bsz z)) (jN _)
 ·intro b hb hfs
  rcases qF.mp (I.stkSub b hfs) with z | z
  ·exact (hf b hb).2.1 z
  ·exact (hf b hb).2.2.1 z
 ·intro i x v e1 e2 _
  have e1:N'[i]?=some x:=e1;have e2:(fU cap σ)[i]?=some (some v):=e2;unfold fU at e2;rw [qW] at e2;cases hc:cap[i]? with
  | none=>rw [hc] at e2;cases e2
  | some o=>
   rw [hc] at e2;cases o with
   | none=>cases e2
   | some j=>
    have e3:(σ[j]?).getD none=some v:=qA e2;have e4:σ[j]?=some (some v):=by
     cases q:σ[j]? with
     | none=>rw [q] at e3;cases e3
     | some w'=>rw [q] at e3;have:w'=some v:=e3;rw [this]
    obtain ⟨y,h1,h2,h3⟩:=B.caps i j hc;rw [e1] at h1;cases h1;have hcell:X.env.kindOf x=some .cell:=B.free _ (qj h3) rfl;obtain ⟨m,_,hl⟩:=I.loc;obtain ⟨u,r,l⟩:=hl j x v h2 e4 (.inr (.inl hcell));refine ⟨u,r,?_⟩;rcases l with ⟨k,_⟩ | ⟨_,c,e,z⟩
    ·rw [hcell] at k;cases k
    ·refine .inr ⟨.inl ?_,c,a5w _ _ _ ?_ (uF (qj h3) e),?_⟩
     ·exact iE I.ok.kind h3 hcell
     ·cases q:(k8 (s.heap.objs.size+1) scope.names []).lookup x with
      | none=>rfl
      | some d=>
       rcases xZ _ _ _ (qj q) with z | z
       ·cases z
       ·rw [B.cells _ z rfl] at h3;cases h3
     ·obtain ⟨o,q1,q2⟩:=z
      exact ⟨o,hk c o q1,q2⟩
 ·intro x c e
  rcases fG _ _ _ e with e | ⟨_,e⟩
  ·exact ⟨none,(own x c e).1⟩
  ·obtain ⟨v,o,q1,q2⟩:=I.cell x c (cl x c e)
   exact ⟨v,o,hk c o q1,q2⟩
 ·intro x c e
  rcases fG _ _ _ e with e | ⟨_,e⟩
  ·exact I.hok.fresh (qv (own x c e).2)
  ·exact I.freeC x c (cl x c e)
 ·intro p hp
  exact absurd (show p∈([]:T0b) from hp) (by simp)
 ·show (fU cap σ).length=N'.length
  unfold fU;rw [qE];exact B.len
def PTs (X:Cx) (ifs:T0l) (t:TT):Prop:=
 ∀ (pins:T0b) (s:Shared) (σ:St) (H:Hp) (Q:Bool→Hp→Prop),Inv X pins σ H s→t σ H Q →
  wpAny (model X.prog X.w) X.A (forIn ifs true fun c r=>if r=true then do let ok ←isTrue c X.env (eval c X.env);pure (ForInStep.yield ok) else pure (ForInStep.yield r)) (TP X pins σ Q) X.xe s
def b9H:TT:=fun _ H Q=>Q true H
theorem b3j {X:Cx}:PTs X [] b9H:=fun _ _ _ H _ I h=>wpAny_tests_nil ⟨H,I,h⟩
theorem b3i {X:Cx} {c:Expr} {t:TT} (h:PT X c t):PTs X [c] t:=fun pins s σ H Q I hw=>wpAny_tests_one (h pins s σ H Q I hw)
def uO (J:It) (g:TG) (tc:TT) (te:TE) (σ₀:St) (H:Hp) (Q:VK):Prop:=
 ∃ W:Addr→Nat→Nat→List V→St→Hp→Prop,∀ D,H D=none→(∃ m,W D 0 m [] σ₀ (upd H D (.lst [])))∧∀ i m ys σ1 H1,W D i m ys σ1 H1→H1 D=some (.lst ys) →
  (J.stop i H1∧Q (.ref D) H1)∨(J.go i H1∧∀ x H2,J.yld i H1 x H2→g x σ1 H2 fun σ3 H3=>tc σ3 H3 fun b H4=>
   if b=true then te σ3 H4 fun v H5=>H5 D=some (.lst ys)∧ys.length<j5∧∃ m',m'<m∧W D (i+1) m' (ys++[v]) σ3 (upd H5 D (.lst (ys++[v])))
   else H4 D=some (.lst ys)∧∃ m',m'<m∧W D (i+1) m' ys σ3 H4)
theorem a2M {X:Cx} (XE:Addr→Shared→Hp→List Addr→Value→Shared→Prop) {elt iter tg:Expr} {ifs:T0l} {scope:Scope} {pos:Pos} {N':T0o} {cap:T0e} {pins:T0b} {σ:St} {H:Hp} {s:Shared} {J:It} {it:Addr} {fp:T0m} {tn:Nat→Heap→Prop}
  {g:TG} {tc:TT} {te:TE} {Q:VK} {RR:Value→Addr→Result→Shared→Prop} (hc:X.calm=true) (B:Blk X scope N' cap) (I:Inv X pins σ H s) (T:Turn X.prog X.w X.K tg J fp it tn) (st:tn 0 s.heap) (hf:∀ b∈fp,tE X pins H b)
  (hg:∀ C s₃ H₃ fp,PG (bH X scope N' C s₃ H₃ fp) tg g) (ht:∀ C s₃ H₃ fp,PTs (bH X scope N' C s₃ H₃ fp) ifs tc) (he:∀ C s₃ H₃ fp,PE ((bH X scope N' C s₃ H₃ fp).wish (XE C s₃ H₃ fp)) elt te)
  (w:uO J g tc te (fU cap σ) H Q)
  (hx:∀ D s₃ H₃ e s',Inv X pins σ H₃ s₃→(∀ b∈fp,tE X pins H₃ b)→H D=none→H₃=upd H D (.lst [])→s.heap.objs.size≤s₃.heap.objs.size→XE s₃.heap.objs.size s₃ H₃ fp e s' →
   notedBy (model X.prog X.w) X.A (QL scope (k8 (s₃.heap.objs.size+1) scope.names (xY scope X.env)) s₃.heap.objs.size X.env) (fun x s'=>RR (.ref D) s₃.heap.objs.size (.error x) s') e s')
  (fin:∀ D C s' H' m',s.heap.get? C=none→s.heap.objs.size≤C→s'.heap.Ns C m'→H' C=none→Inv X pins σ H' s'→Q (.ref D) H'→RR (.ref D) C (.ok .next) s') :
  wpAny (model X.prog X.w) X.A (newList []) (fun acc s₃=>wpAny (model X.prog X.w) X.A (y9 scope X.env.globals (xY scope X.env) [] X.env.qual none .none (some X.env)) (fun cenv s₄=>
   cenv.frame=X.env.frame∧wx (model X.prog X.w) X.A (.compStart (.ListComp elt [⟨tg,iter,ifs,0⟩] scope pos) 0 (.ref it) acc { cenv with scope:=relabel scope X.env }) (RR acc cenv.locals) s₄) X.xe s₃) X.xe s:=by
 refine j7 (b5c ?_);dsimp only;obtain ⟨W,hW⟩:=w;have hD:H s.heap.objs.size=none:=I.hok.fresh (qR _);obtain ⟨⟨m0,w0⟩,turn⟩:=hW s.heap.objs.size hD;have I3:Inv X pins σ (upd H s.heap.objs.size (.lst [])) { s with heap:=s.heap.push { cls:=.type "list", data:=.seq ([]:T0k).toArray } }:=I.lnew (its:=[]) (ys:=[]) (t':=s.toks) .nil (jR _);generalize hH2:s.heap.push { cls:=.type "list", dict:=none,data:=.seq ([]:T0k).toArray }=H2 at I3 ⊢;have hC:H2.objs.size=s.heap.objs.size+1:=by rw [←hH2,jB]
 have lt3:∀ b∈fp,b<s.heap.objs.size:=fun b hb=>by
  obtain ⟨o,e,_⟩:=T.obj 0 _ st b hb;exact qG e
 have hf3:∀ b∈fp,tE X pins (upd H s.heap.objs.size (.lst [])) b:=fun b hb=>by
  refine ⟨?_,(hf b hb).2⟩;rw [aF (qa (lt3 b hb))];exact (hf b hb).1
 have ow:CellsOk (QS (H2.push { cls:=.type "dict", data:=.dict #[] }) scope.names) (H2.objs.size+1) (k8 (H2.objs.size+1) scope.names []):=by
  have ok:=cellsFrom_ok scope.names (H2.push { cls:=.type "dict", data:=.dict #[] }) (H2.objs.size+1) [] ⟨fun _ _ hm=>(nomatch hm),List.Pairwise.nil⟩ (by rw [jB];exact qR _);rw [jB] at ok;exact ok
 have hns₁:(QS (H2.push { cls:=.type "dict", data:=.dict #[] }) scope.names).Ns H2.objs.size fun _=>none:=(Heap.Ns.new H2 (.type "dict")).keeps (pushCells_keeps _ _);have keep:∀ b o,H2.get? b=some o→(QS (H2.push { cls:=.type "dict", data:=.dict #[] }) scope.names).get? b=some o:=fun b o e=>pushCells_keeps _ _ b o (qB _ e);generalize QS (H2.push { cls:=.type "dict", data:=.dict #[] }) scope.names=h₁ at ow hns₁ keep ⊢;have I4:Inv (bH X scope N' H2.objs.size { s with heap:=H2 } (upd H s.heap.objs.size (.lst [])) fp) [] (fU cap σ) (upd H s.heap.objs.size (.lst [])) { s with heap:=h₁ }:=
  b5b (s:={ s with heap:=H2 }) B I3 hf3 (fun b hb=>by show b<H2.objs.size;rw [hC];exact jp (lt3 b hb)) hns₁ keep ow
 have st4:tn 0 h₁:=T.keep 0 _ _ st fun b hb o e=>keep b o (by rw [←hH2];exact qB _ e);have loop:∀ s₅:Shared,s₅={ s with heap:=h₁ } →
   wx (model X.prog X.w) X.A (.compLoop (.ListComp elt [⟨tg,iter,ifs,0⟩] scope pos) 0 (.ref it) (.ref s.heap.objs.size) (QL scope (k8 (H2.objs.size+1) scope.names (xY scope X.env)) H2.objs.size X.env))
    (RR (.ref s.heap.objs.size) H2.objs.size) s₅:=by
  rintro s₅ rfl;refine codeAny_loop rfl (fun n s'=>∃ i ys σ' H',Inv (bH X scope N' H2.objs.size { s with heap:=H2 } (upd H s.heap.objs.size (.lst [])) fp) [] σ' H' s'∧tn i s'.heap∧(∀ b∈fp,H' b=none)∧H' s.heap.objs.size=some (.lst ys)∧W s.heap.objs.size i n ys σ' H') ?_ m0
   ⟨0,[],_,_,I4,st4,fun b hb=>(hf3 b hb).1,aL,w0⟩
  rintro n s6 ⟨i,ys,σ6,H6,I6,st6,fr6,hD6,w6⟩;show wpAny _ X.A ((compTurn (.ListComp elt [⟨tg,iter,ifs,0⟩] scope pos) 0 (.ref it) (.ref s.heap.objs.size) (QL scope (k8 (H2.objs.size+1) scope.names (xY scope X.env)) H2.objs.size X.env)).onRaise (fun x=>do QB x (QL scope (k8 (H2.objs.size+1) scope.names (xY scope X.env)) H2.objs.size X.env);theTreesLotGoes x)) _ _ s6;refine wpAny_noted ?_;rw [compTurn_list];have stat:∀ {H':Hp},(∀ b∈fp,H' b=none)→∀ b∈fp,tE (bH X scope N' H2.objs.size { s with heap:=H2 } (upd H s.heap.objs.size (.lst [])) fp) [] H' b:=fun hn b hb=>
   ⟨hn b hb,qa (by show b<H2.objs.size;rw [hC];exact jp (lt3 b hb)),I4.ok.exfs b hb,.inl hb,fun x c e=>(I4.ok.exf b hb).2 x c e,fun p hp=>absurd (show p∈([]:T0b) from hp) (by simp)⟩
  rcases turn i n ys σ6 H6 w6 hD6 with ⟨stop,qn⟩ | ⟨go,step⟩
  ·refine q8 (yf (q8 (thn (T.done (bH X scope N' H2.objs.size { s with heap:=H2 } (upd H s.heap.objs.size (.lst [])) fp) rfl rfl rfl hc i [] s6 _ H6 _ I6 (stat fr6) st6 stop) fun r s7 ⟨hr,I7⟩=>?_)))
   subst hr;refine j3 ?_;obtain ⟨m7,hn7,_⟩:=I7.loc;refine fin _ _ s7 H6 m7 ?_ ?_ hn7 I7.free ?_ qn
   ·exact zH (by rw [hC];exact jw _)
   ·rw [hC];exact jw _
   ·refine I3.call' (ch:=fp) ?_ ?_ I7.hok I7.bare fun b hb=>?_
    ·exact I7.os
    ·exact I7.base
    ·obtain ⟨f0,f1,f2,f3,f4,f5⟩:=hf3 b hb
     exact ⟨f3,f1,f4,f5⟩
  ·refine q8 (yf (q8 (thn (T.item (bH X scope N' H2.objs.size { s with heap:=H2 } (upd H s.heap.objs.size (.lst [])) fp) rfl rfl rfl hc i [] s6 _ H6 _ I6 (stat fr6) st6 go) fun r s7 ⟨u,hr,h7⟩=>?_)))
   subst hr;refine q8 (thn h7 fun _ s8 ⟨x,H8,I8,r8,y8,st8,fr8⟩=>?_);have I8':=I8.pinned (stat fr8) (T.obj _ _ st8);have bad:∀ {α:Type} {t:Sem α} {Q':α→Shared→Prop} {s':Shared} {E:T0a},wpAny (model X.prog X.w) X.A t Q' (fun _ _=>False) s'→wpAny (model X.prog X.w) X.A t Q' E s':=fun h=>v6 h (fun _ _ q=>q) fun _ _ z=>z.elim;refine q8 (bad (thn (hg _ _ _ _ _ s8 _ H8 x u _ I8' r8 (step x H8 y8)) fun _ s9 ⟨σ9,H9,I9,q9⟩=>?_));refine q8 (bad (thn (ht _ _ _ _ _ s9 σ9 H9 _ I9 q9) fun ok s10 ⟨H10,I10,q10⟩=>?_));have again:∀ {σ':St} {H':Hp} {ys':List V} {s':Shared} {m':Nat},Inv (bH X scope N' H2.objs.size { s with heap:=H2 } (upd H s.heap.objs.size (.lst [])) fp) ([]++a0M fp s8.heap) σ' H' s'→H' s.heap.objs.size=some (.lst ys') →
     m'<n→W s.heap.objs.size (i+1) m' ys' σ' H' →
     ∃ m,m<n∧∃ i ys σ' H',Inv (bH X scope N' H2.objs.size { s with heap:=H2 } (upd H s.heap.objs.size (.lst [])) fp) [] σ' H' s'∧tn i s'.heap∧(∀ b∈fp,H' b=none)∧H' s.heap.objs.size=some (.lst ys)∧W s.heap.objs.size i m ys σ' H':=fun {σ' H' ys' s' m'} J' hD' hm' w'=>by
    refine ⟨m',hm',i+1,ys',σ',H',J'.unpinned,T.keep _ _ _ st8 fun b hb o e=>(J'.pin (b,o) (qe _ (qe _ (oD hb e)))).1,fun b hb=>?_,hD',w'⟩;obtain ⟨o,e,d⟩:=T.obj _ _ st8 b hb;exact (J'.pin (b,o) (qe _ (qe _ (oD hb e)))).2.1
   cases ok with
   | false=>
    obtain ⟨hD10,m',hm',w'⟩:=q10;exact j3 ⟨rfl,again I10 hD10 hm' w'⟩
   | true=>
    refine q8 (q8 (v6 (he _ _ _ _ _ s10 σ9 H10 _ (I10.wish _) q10) (fun y s11 ⟨v,H11,I11w,r11,hD11,hlen,m',hm',w'⟩=>?_) fun e s' z=>hx _ { s with heap:=H2 } _ e s' I3 hf3 hD rfl (by show s.heap.objs.size≤H2.objs.size;rw [hC];exact jw _) z));have I11:=I11w.unwish;refine q8 (bad <| thn (pY (X:=bH X scope N' H2.objs.size { s with heap:=H2 } (upd H s.heap.objs.size (.lst [])) fp) _ s11 σ9 H11 (.ref s.heap.objs.size) [v] (.ref s.heap.objs.size) [y] (fun _ H'=>H'=upd H11 s.heap.objs.size (.lst (ys++[v]))) I11 rfl (.cons r11 .nil) ⟨_,_,_,rfl,rfl,hD11,hlen,rfl⟩) fun _ s12 ⟨_,H12,I12,_,e12⟩=>?_);subst e12;exact j3 (j3 ⟨rfl,again I12 aL hm' w'⟩)
 exact ⟨rfl,codeAny_compStart_list (loop _ rfl) (T.self _ 0 _ _ _ st4 (loop _ rfl))⟩
theorem a5t {X:Cx} {elt iter tg:Expr} {ifs:T0l} {scope:Scope} {pos:Pos} {N':T0o} {cap:T0e} {pins:T0b} {σ:St} {H:Hp} {s:Shared} {J:It} {it:Addr} {fp:T0m} {tn:Nat→Heap→Prop}
  {g:TG} {tc:TT} {te:TE} {Q:VK} {RR:Value→Addr→Result→Shared→Prop} (hc:X.calm=true) (B:Blk X scope N' cap) (I:Inv X pins σ H s) (T:Turn X.prog X.w X.K tg J fp it tn) (st:tn 0 s.heap) (hf:∀ b∈fp,tE X pins H b)
  (hg:∀ C s₃ H₃ fp,PG (bH X scope N' C s₃ H₃ fp) tg g) (ht:∀ C s₃ H₃ fp,PTs (bH X scope N' C s₃ H₃ fp) ifs tc) (he:∀ C s₃ H₃ fp,PE (bH X scope N' C s₃ H₃ fp) elt te)
  (w:uO J g tc te (fU cap σ) H Q)
  (fin:∀ D C s' H' m',s.heap.get? C=none→s.heap.objs.size≤C→s'.heap.Ns C m'→H' C=none→Inv X pins σ H' s'→Q (.ref D) H'→RR (.ref D) C (.ok .next) s') :
  wpAny (model X.prog X.w) X.A (newList []) (fun acc s₃=>wpAny (model X.prog X.w) X.A (y9 scope X.env.globals (xY scope X.env) [] X.env.qual none .none (some X.env)) (fun cenv s₄=>
   wx (model X.prog X.w) X.A (.compStart (.ListComp elt [⟨tg,iter,ifs,0⟩] scope pos) 0 (.ref it) acc { cenv with scope:=relabel scope X.env }) (RR acc cenv.locals) s₄) X.xe s₃) X.xe s:=
 v6 (a2M (fun _ _ _ _ _ _=>False) hc B I T st hf hg ht he w (fun _ _ _ _ _ _ _ _ _ _ z=>z.elim) fin) (fun _ _ h=>v6 h (fun _ _ z=>z.2) fun _ _ z=>z) fun _ _ z=>z
def b5m (wi:TI) (cap:T0e) (g:TG) (tc:TT) (te:TE):TE:=fun σ H Q=>wi σ H fun J H1=>uO J g tc te (fU cap σ) H1 Q
section
variable {X:Cx} {elt iter tg:Expr} {ifs:T0l} {scope:Scope} {pos spos:Pos} {N':T0o} {cap:T0e} {wi:TI} {g:TG} {tc:TT} {te:TE}
theorem a7c (hc:X.calm=true) (B:Blk X scope N' cap) (hi:PI X tg iter wi)
  (hg:∀ C s₃ H₃ fp,PG (bH X scope N' C s₃ H₃ fp) tg g) (ht:∀ C s₃ H₃ fp,PTs (bH X scope N' C s₃ H₃ fp) ifs tc) (he:∀ C s₃ H₃ fp,PE (bH X scope N' C s₃ H₃ fp) elt te)
  (hs:∀ x,wj iter X.env x=pure x:=by intro _;rfl):PE X (.ListComp elt [⟨tg,iter,ifs,0⟩] scope pos) (b5m wi cap g tc te):=by
 intro pins s σ H Q I h;rw [eval_ListComp];refine wpAny_comprehension_free (use:=none) rfl hs (iO fun p hp hk=>I.ok.has p.1 (.inl (B.free p hp hk))) B.kind B.names ?_;refine thn (hi pins s σ H _ I h) fun v s1 h1=>thn h1 fun itv s2 ⟨it,fp,tn,J,H2,e,I2,T,st2,f2,w⟩=>?_;subst e;refine a5t (RR:=fun acc C=>compPost (model X.prog X.w) X.A X.xe none (EP X pins σ Q) acc C) hc B I2 T st2 f2 hg ht he w ?_;intro D C s' H' m' hC hCs hn hCf I' q;refine ⟨m',hn,fun h'' hs''=>⟨.ref D,H',?_,rfl,q⟩⟩;refine I'.turned (t':=s'.toks) (it:=C) (fun b o hb e=>hs''.extBut b o hb e) hCf ?_ (.inr (ql I2.sz hCs)) ?_ ?_
 ·exact jc (qT I2.lt hCs)
 ·intro x c e z
  obtain ⟨v,q⟩:=I2.cell x c e;exact absurd (qT q.lt (by rw [z];exact hCs)) (jN _)
 ·intro p hp z
  exact absurd (qT (qG (I2.pin p hp).1) (by rw [z];exact hCs)) (jN _)
theorem a3i {i:Nat} {x:Str} {pos':Pos} (hN:X.N.Nodup) (hxi:X.N[i]?=some x) (hx:X.env.scope.names.lookup x=some .local) (hc:X.calm=true) (B:Blk X scope N' cap) (hi:PI X tg iter wi)
  (hg:∀ C s₃ H₃ fp,PG (bH X scope N' C s₃ H₃ fp) tg g) (ht:∀ C s₃ H₃ fp,PTs (bH X scope N' C s₃ H₃ fp) ifs tc) (he:∀ C s₃ H₃ fp,PE (bH X scope N' C s₃ H₃ fp) elt te)
  (hsw:wz (.ListComp elt [⟨tg,iter,ifs,0⟩] scope pos) (some (.Name x pos')) spos.line X.env=pure true)
  (hs:∀ x,wj iter X.env x=pure x:=by intro _;rfl) :
  PS X (.Assign [.Name x pos'] (.ListComp elt [⟨tg,iter,ifs,0⟩] scope pos) spos) (b6c (b5m wi cap g tc te) (b1J i)):=by
 intro pins s σ H Dn I h;rw [exec_Assign_Name_used _ _ _ _ hsw];refine q8 (yf (q8 ?_));show wpAny _ X.A (do let _ ←comprehension (.ListComp elt [⟨tg,iter,ifs,0⟩] scope pos) scope X.env _ (newList []) false (eval iter X.env) (some (assign (.Name x pos') X.env))) _ _ s;refine q8 (v6 (wpAny_comprehension_free (use:=some (assign (.Name x pos') X.env)) (Q:=fun _ s'=>SP X pins Dn .next s') rfl hs (iO fun p hp hk=>I.ok.has p.1 (.inl (B.free p hp hk))) B.kind B.names ?_) (fun _ s' hq=>j3 (j3 hq)) fun _ _ e=>e);refine thn (hi pins s σ H _ I h) fun v s1 h1=>thn h1 fun itv s2 ⟨it,fp,tn,J,H2,e,I2,T,st2,f2,w⟩=>?_;subst e;refine a5t (RR:=fun acc C=>compPost (model X.prog X.w) X.A X.xe (some (assign (.Name x pos') X.env)) (fun _ s'=>SP X pins Dn .next s') acc C) hc B I2 T st2 f2 hg ht he w ?_;intro D C s' H' m' hC hCs hn hCf I' q;have nL:C≠X.env.locals:=jc (qT I2.lt hCs);have nC:∀ y c,X.env.cells.lookup y=some c→c≠C:=fun y c e z=>by
  obtain ⟨v,q⟩:=I2.cell y c e;exact absurd (qT q.lt (by rw [z];exact hCs)) (jN _)
 show wpAny _ X.A (assign (.Name x pos') X.env (.ref D)) _ _ _;refine wpAny_assign_Name (a1R (v:=.ref D) I' hN hxi (.inl hx) rfl (fun s3 I3 ⟨a,hsb,ha⟩=>?_) (.inr hx));have ne:C≠a:=by
  rcases ha with z | z
  ·rw [z];exact nL
  ·exact fun y=>nC x a z y.symm
 refine ⟨m',hn.sameBut hsb ne,fun h'' hs''=>⟨_,H',?_,q⟩⟩;refine I3.turned (t':=s3.toks) (it:=C) (fun b o hb e=>hs''.extBut b o hb e) hCf nL (.inr (ql I2.sz hCs)) nC ?_;intro p hp z;exact absurd (qT (qG (I2.pin p hp).1) (by rw [z];exact hCs)) (jN _)
end
end L2
namespace L2.L3
open PySem PySem.Spec PyProof.Rows PySem.W
def gJ (K:Frag) (c:Str):Option Addr:=match nsIn K j6 c with
 | some (some (.ref C))=>some C
 | _=>none
theorem a3J {K:Frag} {c:Str} {C:Addr} (h:gJ K c=some C):nsIn K j6 c=some (some (.ref C)):=by
 unfold gJ at h;split at h
 ·rename_i e;cases h;exact e
 ·cases h
structure ExO (h:Heap) (a C:Addr) (ox:Obj):Prop where
 at_:h.get? a=some ox
 cls:ox.cls=.ref C
theorem ExO.type {h:Heap} {a C:Addr} {ox:Obj} {M:Model} (I:ExO h a C ox):Looks M h (typeOf (.ref a)) (.ref C):=I.cls▸(Looks.ld I.at_).andThen .now
end L2.L3
namespace L2.L3
open PySem PySem.Spec PyProof.Rows
def dU:Key→j0
 | .inl i=>.int i
 | .inr x=>.str x
mutual
inductive Rep (K:qC) (G:Hp):V→j0→Prop
 | none:Rep K G .non .none
 | bool (b:Bool):Rep K G (.bl b) (.bool b)
 | int (i:Int):Rep K G (.int i) (.int i)
 | str (x:Str):Rep K G (.str x) (.str x)
 | list {a:Addr} {xs:List V} {ds:T0j}:SqL K G a xs→RepAll K G xs ds→Rep K G (.ref a) (.list ds)
 | tuple {a:Addr} {xs:List V} {ds:T0j}:SqT K G a xs→RepAll K G xs ds→Rep K G (.ref a) (.tuple ds)
 | dict {a:Addr} {kvs:List (Key×V)} {D:List (j0×j0)}:G a=some (.dK kvs)→D.map (·.1)=kvs.map (fun p=>dU p.1)→RepAll K G (kvs.map (·.2)) (D.map (·.2))→Rep K G (.ref a) (.dict D)
inductive RepAll (K:qC) (G:Hp):List V→List j0→Prop
 | nil:RepAll K G [] []
 | cons {v:V} {vs:List V} {d:j0} {ds:T0j}:Rep K G v d→RepAll K G vs ds→RepAll K G (v::vs) (d::ds)
end
theorem mU {K:qC} {H H':Hp} {a:Addr} {xs:List V} (e:bB H H') (h:SqT K H a xs):SqT K H' a xs:=by
 rcases h with (h | ⟨o,h⟩) | h
 ·exact .inl (.inl (e _ _ h))
 ·exact .inl (.inr ⟨o,e _ _ h⟩)
 ·exact .inr h
section
variable {K:qC} {G G':Hp}
mutual
theorem Rep.mono (s:bB G G'):∀ {v:V} {d:j0},Rep K G v d→Rep K G' v d
 | _,_,.none=>.none
 | _,_,.bool b=>.bool b
 | _,_,.int i=>.int i
 | _,_,.str x=>.str x
 | _,_,.list h r=>.list (s.seq h) (RepAll.mono s r)
 | _,_,.tuple h r=>.tuple (mU s h) (RepAll.mono s r)
 | _,_,.dict h e r=>.dict (s _ _ h) e (RepAll.mono s r)
theorem RepAll.mono (s:bB G G'):∀ {vs:List V} {ds:T0j},RepAll K G vs ds→RepAll K G' vs ds
 | _,_,.nil=>.nil
 | _,_,.cons r t=>.cons (Rep.mono s r) (RepAll.mono s t)
end
theorem RepAll.length:∀ {vs:List V} {ds:T0j},RepAll K G vs ds→vs.length=ds.length
 | _,_,.nil=>rfl
 | _,_,.cons _ t=>by simp [RepAll.length t]
theorem RepAll.get:∀ {vs:List V} {ds:T0j} {i:Nat} {d:j0},RepAll K G vs ds→ds[i]?=some d→∃ v,vs[i]?=some v∧Rep K G v d
 | _,_,_,_,.nil,e=>by simp at e
 | _,_,0,_,.cons r _,e=>by simp at e;subst e;exact ⟨_,rfl,r⟩
 | _,_,i+1,d,.cons _ t,e=>by
  obtain ⟨u,h1,h2⟩:=RepAll.get (i:=i) (d:=d) t (by simpa using e);exact ⟨u,by simpa using h1,h2⟩
theorem RepAll.append:∀ {vs ws:List V} {ds es:T0j},RepAll K G vs ds→RepAll K G ws es→RepAll K G (vs++ws) (ds++es)
 | _,_,_,_,.nil,h=>h
 | _,_,_,_,.cons r t,h=>.cons r (RepAll.append t h)
theorem RepAll.set {v:V} {d:j0} (r:Rep K G v d):∀ {vs:List V} {ds:T0j} (i:Nat),RepAll K G vs ds→RepAll K G (vs.set i v) (ds.set i d)
 | _,_,_,.nil=>.nil
 | _,_,0,.cons _ t=>.cons r t
 | _,_,i+1,.cons q t=>.cons q (RepAll.set r i t)
theorem RepAll.take:∀ {vs:List V} {ds:T0j} (n:Nat),RepAll K G vs ds→RepAll K G (vs.take n) (ds.take n)
 | _,_,0,_=>.nil
 | _,_,_+1,.nil=>.nil
 | _,_,n+1,.cons r t=>.cons r (RepAll.take n t)
theorem RepAll.drop:∀ {vs:List V} {ds:T0j} (n:Nat),RepAll K G vs ds→RepAll K G (vs.drop n) (ds.drop n)
 | _,_,0,r=>r
 | _,_,_+1,.nil=>.nil
 | _,_,n+1,.cons _ t=>RepAll.drop n t
theorem RepAll.ints:∀ {vs:List V} {ns:T0q},RepAll K G vs (ns.map .int)→vs=ns.map V.int
 | [],[],_=>rfl
 | _,[],.nil=>rfl
 | _,n::r,.cons (.int _) t=>by rw [RepAll.ints (ns:=r) t];rfl
theorem RepAll.strs:∀ {vs:List V} {ns:T0o},RepAll K G vs (ns.map .str)→vs=ns.map V.str
 | [],[],_=>rfl
 | _,[],.nil=>rfl
 | _,n::r,.cons (.str _) t=>by rw [RepAll.strs (ns:=r) t];rfl
theorem RepAll.bools:∀ {vs:List V} {ns:List Bool},RepAll K G vs (ns.map .bool)→vs=ns.map V.bl
 | [],[],_=>rfl
 | _,[],.nil=>rfl
 | _,n::r,.cons (.bool _) t=>by rw [RepAll.bools (ns:=r) t];rfl
end
section
variable {P:Program} {w:World}
theorem tW:∀ {kvs:List (Key×V)} {vs:List (Key×Value)},KV kvs vs→kvs.map (·.1)=vs.map (·.1)∧aY (kvs.map (·.2)) (vs.map (·.2))
 | _,_,.nil=>⟨rfl,.nil⟩
 | _,_,.cons h t=>by
  obtain ⟨a,b⟩:=tW t;exact ⟨by rw [qU,qU,a,h.1],.cons h.2 b⟩
theorem yF {h:Heap}:∀ {es:List DictEntry} {vs:List (Key×Value)},Pairs (gQ P w) es vs→(∃ as,ReadsAll h (es.map (·.key)) (vs.map fun p=>dU p.1) as)∧es.map (·.val)=vs.map (·.2)
 | _,_,.nil=>⟨⟨_,.nil⟩,rfl⟩
 | e::es,kv::vs,.cons hk hv t=>by
  obtain ⟨⟨as,a⟩,b⟩:=yF (h:=h) t;refine ⟨?_,by rw [qU,qU,b,hv]⟩;rcases cA (show a0Y kv.1 e.key=true from hk) with ⟨i,t,e1,e2⟩ | ⟨x,t,e1,e2⟩
  ·refine ⟨_,.cons (as:=[]) (by dsimp only;rw [e1,e2];exact .int i t) a⟩
  ·refine ⟨_,.cons (as:=[]) (by dsimp only;rw [e1,e2];exact .str x t) a⟩
end
section
variable {X:Cx} {pins:T0b} {σ:St} {H:Hp} {s:Shared}
mutual
theorem Rep.reads (I:Inv X pins σ H s):∀ {v:V} {d:j0} {u:Value},Rep X.K H v d→RelV v u→∃ as,Reads s.heap u d as
 | _,_,_,.none,r=>by cases r;exact ⟨_,.none⟩
 | _,_,_,.bool b,r=>by cases r;exact ⟨_,.bool b⟩
 | _,_,_,.int i,r=>by obtain ⟨t,rfl⟩:=r;exact ⟨_,.int i t⟩
 | _,_,_,.str x,r=>by obtain ⟨t,rfl⟩:=r;exact ⟨_,.str x t⟩
 | _,_,_,.list h q,r=>by
  cases r;obtain ⟨its,rv,⟨o,n,e,hc,_,hd⟩,_⟩:=I.list h;obtain ⟨as,z⟩:=RepAll.reads I q rv;exact ⟨_,.list e hc hd (by simpa using z)⟩
 | _,_,_,.tuple h q,r=>by
  cases r;obtain ⟨its,rv,⟨o,e,hc,n,hd⟩,_⟩:=I.tuple h;obtain ⟨as,z⟩:=RepAll.reads I q rv;exact ⟨_,.tuple e hc hd (by simpa using z)⟩
 | _,_,_,.dict h e0 q,r=>by
  cases r;obtain ⟨hz,hS,vs,kv,o,es,ep,e,hex,hd,_,hp,_⟩:=I.hok _ _ h;obtain ⟨a1,a2⟩:=tW kv;obtain ⟨⟨as,b1⟩,b2⟩:=yF (h:=s.heap) hp;obtain ⟨bs,z⟩:=RepAll.reads I q a2;refine ⟨_,.dict e hex.1 hd (as:=as) (bs:=bs) ?_ (by rw [b2];exact z)⟩;rw [e0,show (fun p:Key×V=>dU p.1)=dU∘(·.1) from rfl,←qP,a1,qP];exact b1
theorem RepAll.reads (I:Inv X pins σ H s):∀ {vs:List V} {ds:T0j} {us:T0k},RepAll X.K H vs ds→aY vs us→∃ as,ReadsAll s.heap us ds as
 | _,_,_,.nil,.nil=>⟨_,.nil⟩
 | _,_,_,.cons r t,.cons q w=>by
  obtain ⟨as,a⟩:=Rep.reads I r q;obtain ⟨bs,b⟩:=RepAll.reads I t w;exact ⟨_,.cons a b⟩
end
end
def dX:List Str:=["in_ending_order", "in_laying_order", "law", "_law_did", "by_heads", "best_choice"]
def lamQ (x:Str):Str:=x ++ ".<locals>." ++ "<lambda>"
def cdO (c:Addr) (q:Str):HO:=.ext fun h=>h.CodeRec (.ref c) q
def Tab (P:Addr) (q:Str) (H:Hp):Prop:=
 ∃ ps,H P=some (.tbl (q,ps))∧uv ps.toList∧∀ pos cv,u9 pos ps.toList=some cv→∃ c,cv=.ref c∧H c=some (cdO c q)
def NoT (G:Hp):Prop:=∀ b ps,G b≠some (.tbl ps)
def nB (K:qC) (G H:Hp):Prop:=(∀ x∈dX,∀ c P,jM K x=some (c,P)→Tab P (lamQ x) H)∧NoT G
theorem NoT.upd {G:Hp} {a:Addr} {o:HO} (n:NoT G) (h:∀ ps,o≠.tbl ps):NoT (L2.upd G a o):=fun b ps e=>by
 by_cases hb:b=a
 ·subst hb;rw [aL] at e;cases e;exact h _ rfl
 ·rw [aF hb] at e;exact n b ps e
theorem Tab.same {P:Addr} {q:Str} {H H':Hp} (t:Tab P q H) (s:bB H H'):Tab P q H':=by
 obtain ⟨ps,h1,h2,h3⟩:=t;refine ⟨ps,s _ _ h1,h2,fun pos cv e=>?_⟩;obtain ⟨c,e1,e2⟩:=h3 pos cv e;exact ⟨c,e1,s _ _ e2⟩
theorem Tab.wr {P a:Addr} {q:Str} {H:Hp} {xs:List V} {o:HO} (t:Tab P q H) (h:H a=some (.lst xs)):Tab P q (upd H a o):=by
 obtain ⟨ps,h1,h2,h3⟩:=t;refine ⟨ps,by rw [aF (fZ h1 h (by nofun))];exact h1,h2,fun pos cv e=>?_⟩;obtain ⟨c,e1,e2⟩:=h3 pos cv e;exact ⟨c,e1,by rw [aF (fZ e2 h (by unfold cdO;nofun))];exact e2⟩
structure Sm (H H':Hp):Prop where
 keep:∀ b o,H b=some o→(∀ ps,o≠.tbl ps)→H' b=some o
 tbl:∀ b ps,H b=some (.tbl ps)→∃ ps',H' b=some (.tbl ps')
 tab:∀ P q,Tab P q H→Tab P q H'
theorem Sm.of {H H':Hp} (s:bB H H'):Sm H H':=⟨fun b o h _=>s b o h,fun b ps h=>⟨ps,s _ _ h⟩,fun P q t=>t.same s⟩
theorem Sm.refl (H:Hp):Sm H H:=.of (.refl _)
theorem Sm.trans {H H1 H2:Hp} (a:Sm H H1) (b:Sm H1 H2):Sm H H2:=⟨fun c o h n=>b.keep c o (a.keep c o h n) n,fun c ps h=>by
 obtain ⟨p1,h1⟩:=a.tbl c ps h
 exact b.tbl c p1 h1,fun P q t=>b.tab P q (a.tab P q t)⟩
theorem Sm.ne {H H':Hp} (s:Sm H H') {b:Addr} {o:HO} (h:H b=some o):∃ o',H' b=some o':=by
 cases o with
 | tbl ps=>obtain ⟨p,e⟩:=s.tbl b ps h;exact ⟨_,e⟩
 | _=>exact ⟨_,s.keep b _ h (by nofun)⟩
theorem Sm.free {H H':Hp} (s:Sm H H') {l:Addr} (h:H' l=none):H l=none:=by
 cases q:H l with
 | none=>rfl
 | some o=>
  obtain ⟨o',e⟩:=s.ne q;rw [h] at e;cases e
theorem Sm.lst {H H':Hp} (s:Sm H H') {l:Addr} {xs:List V} (h:H l=some (.lst xs)):H' l=some (.lst xs):=s.keep l _ h (by nofun)
theorem Sm.wr {H H':Hp} (s:Sm H H') {l:Addr} {xs:List V} {o:HO} (h0:H l=none) (h:H' l=some (.lst xs)):Sm H (upd H' l o):=
 ⟨fun b u e n=>by rw [aF (aS e h0)];exact s.keep b u e n,fun b ps e=>by rw [aF (aS e h0)];exact s.tbl b ps e,fun P q t=>(s.tab P q t).wr h⟩
theorem nB.wr {K:qC} {G H:Hp} {a:Addr} {xs:List V} {o:HO} (t:nB K G H) (h:H a=some (.lst xs)):nB K G (upd H a o):=⟨fun x hx c P e=>(t.1 x hx c P e).wr h,t.2⟩
structure Grow (G H G' H':Hp):Prop where
 gg:bB G G'
 hh:Sm H H'
 sub:bB G' H'
 new:∀ a,G a=none→H a≠none→G' a=none
 nt:NoT G→NoT G'
theorem nB.more {K:qC} {G H G' H':Hp} (t:nB K G H) (g:Grow G H G' H'):nB K G' H':=⟨fun x hx c P e=>g.hh.tab _ _ (t.1 x hx c P e),g.nt t.2⟩
theorem Grow.refl {G H:Hp} (s:bB G H):Grow G H G H:=⟨.refl _,.refl _,s,fun _ e _=>e,id⟩
theorem Grow.trans {G H G1 H1 G2 H2:Hp} (a:Grow G H G1 H1) (b:Grow G1 H1 G2 H2):Grow G H G2 H2:=
 ⟨a.gg.trans b.gg,a.hh.trans b.hh,b.sub,fun c e n=>b.new c (a.new c e n) (fun z=>by
  cases q:H c with
  | none=>exact n q
  | some o=>obtain ⟨o',e'⟩:=a.hh.ne q;rw [e'] at z;cases z),fun n=>b.nt (a.nt n)⟩
theorem bD {H:Hp} {p:Addr} {o:HO} (h:H p=none):bB H (upd H p o):=fun b u e=>by rw [aF (aS e h)];exact e
theorem a8r {G H:Hp} {p:Addr} {o:HO} (s:bB G H):bB (upd G p o) (upd H p o):=fun b u e=>by
 by_cases hb:b=p
 ·subst hb;rw [aL] at e ⊢;exact e
 ·rw [aF hb] at e ⊢;exact s b u e
theorem Grow.put {G H:Hp} {p:Addr} {o:HO} (s:bB G H) (h:H p=none) (ho:∀ ps,o≠.tbl ps:=by nofun):Grow G H (upd G p o) (upd H p o):=
 ⟨bD (s.free h),.of (bD h),a8r s,fun a e n=>by rw [aF (fun z=>n (by rw [z];exact h))];exact e,fun n=>n.upd ho⟩
theorem Grow.side {G H:Hp} {p:Addr} {o:HO} (s:bB G H) (h:H p=none):Grow G H G (upd H p o):=
 ⟨.refl _,.of (bD h),s.trans (bD h),fun a e _=>e,id⟩
inductive Ent where
 | no
 | val (d:j0)
 | lst (ds:T0j)
 | exc (c:Str)
 | nst (dss:List (List j0))
 | dct (kvs:List (Key×j0))
def xcO (a C:Addr):HO:=.ext fun h=>∃ ox,ExO h a C ox
def b8e (K:qC) (H0 G H:Hp) (b:Addr) (ds:T0j):Prop:=∃ xs,H b=some (.lst xs)∧G b=none∧H0 b=none∧RepAll K G xs ds
def a5D (K:qC) (G:Hp) (vs:List (Key×V)) (kvs:List (Key×j0)):Prop:=vs.map (·.1)=kvs.map (·.1)∧RepAll K G (vs.map (·.2)) (kvs.map (·.2))
theorem a5D.mono {K:qC} {G G':Hp} {vs:List (Key×V)} {kvs:List (Key×j0)} (h:a5D K G vs kvs) (s:bB G G'):a5D K G' vs kvs:=⟨h.1,h.2.mono s⟩
def a5B (K:qC) (H0 G H:Hp) (o:Option V):Ent→Prop
 | .no=>True
 | .val d=>∃ v,o=some v∧Rep K G v d
 | .lst ds=>∃ a xs,o=some (.ref a)∧H a=some (.lst xs)∧G a=none∧H0 a=none∧RepAll K G xs ds
 | .exc c=>∃ a C,o=some (.ref a)∧gJ K c=some C∧H a=some (xcO a C)
 | .nst dss=>∃ a bs,o=some (.ref a)∧H a=some (.lst (bs.map V.ref))∧G a=none∧H0 a=none∧a∉bs∧bs.Nodup∧Paired (b8e K H0 G H) bs dss
 | .dct kvs=>∃ a vs,o=some (.ref a)∧H a=some (.dK vs)∧G a=none∧H0 a=none∧a5D K G vs kvs
def a4Y:Ent→Bool
 | .lst _=>true
 | .nst _=>true
 | .dct _=>true
 | _=>false
structure Inj (H:Hp) (σ:St) (ρ:List Ent):Prop where
 two:∀ (i j:Nat) (a:Addr) (ds es:T0j),i≠j→σ[i]?=some (some (.ref a))→ρ[i]?=some (.lst ds)→σ[j]?=some (some (.ref a))→ρ[j]?=some (.lst es)→False
 mix:∀ (i j:Nat) (a a':Addr) (ds:T0j) (dss:List (List j0)),σ[i]?=some (some (.ref a))→ρ[i]?=some (.lst ds)→σ[j]?=some (some (.ref a'))→ρ[j]?=some (.nst dss)→a≠a'∧∀ vs,H a'=some (.lst vs)→V.ref a∉vs
 one:∀ (i j:Nat) (dss ess:List (List j0)),ρ[i]?=some (.nst dss)→ρ[j]?=some (.nst ess)→i=j
 oneD:∀ (i j:Nat) (ks ls:List (Key×j0)),ρ[i]?=some (.dct ks)→ρ[j]?=some (.dct ls)→i=j
theorem Inj.sub {H:Hp} {σ σ':St} {ρ ρ':List Ent} (I:Inj H σ ρ) (h:∀ (i:Nat) (e:Ent),ρ'[i]?=some e→a4Y e=true→ρ[i]?=some e∧σ'[i]?=σ[i]?):Inj H σ' ρ':=by
 refine ⟨fun i j a ds es n h1 h2 h3 h4=>?_,fun i j a a' ds dss h1 h2 h3 h4=>?_,fun i j dss ess h1 h2=>?_,fun i j ks ls h1 h2=>I.oneD i j ks ls (h i _ h1 rfl).1 (h j _ h2 rfl).1⟩
 ·obtain ⟨x1,x2⟩:=h i _ h2 rfl
  obtain ⟨y1,y2⟩:=h j _ h4 rfl;rw [x2] at h1;rw [y2] at h3;exact I.two i j a ds es n h1 x1 h3 y1
 ·obtain ⟨x1,x2⟩:=h i _ h2 rfl
  obtain ⟨y1,y2⟩:=h j _ h4 rfl;rw [x2] at h1;rw [y2] at h3;exact I.mix i j a a' ds dss h1 x1 h3 y1
 ·exact I.one i j dss ess (h i _ h1 rfl).1 (h j _ h2 rfl).1
theorem Inj.other {H H':Hp} {σ:St} {ρ:List Ent} (I:Inj H σ ρ) (h:∀ (j:Nat) (a':Addr) (dss:List (List j0)),σ[j]?=some (some (.ref a'))→ρ[j]?=some (.nst dss)→∀ vs,H' a'=some (.lst vs)→H a'=some (.lst vs)):Inj H' σ ρ:=
 ⟨I.two,fun i j a a' ds dss h1 h2 h3 h4=>⟨(I.mix i j a a' ds dss h1 h2 h3 h4).1,fun vs e=>(I.mix i j a a' ds dss h1 h2 h3 h4).2 vs (h j a' dss h3 h4 vs e)⟩,I.one,I.oneD⟩
theorem Inj.free {H:Hp} {σ:St} {ρ:List Ent} (h:∀ (i:Nat) (e:Ent),ρ[i]?=some e→a4Y e=false):Inj H σ ρ:=
 ⟨fun i j a ds es n h1 h2 h3 h4=>zW (h i _ h2),fun i j a a' ds dss h1 h2 h3 h4=>zW (h i _ h2),fun i j dss ess h1 h2=>zW (h i _ h1),fun i j ks ls h1 h2=>zW (h i _ h1)⟩
theorem gF {α β:Type} {F F':α→β→Prop}:∀ {l:List α} {m:List β},Paired F l m→(∀ a b,a∈l→F a b→F' a b)→Paired F' l m
 | _,_,.nil,_=>.nil
 | _,_,.cons r t,h=>.cons (h _ _ qS r) (gF t fun a b ha=>h a b (qD _ ha))
theorem pX {α β:Type} {F:α→β→Prop} {a:α}:∀ {l:List α} {m:List β},Paired F l m→a∈l→∃ b,F a b
 | _,_,.cons r t,h=>by
  rcases qF.mp h with rfl | h
  ·exact ⟨_,r⟩
  ·exact pX t h
structure RepS (K:qC) (H0 G₀ G H:Hp) (σ:St) (ρ:List Ent):Prop where
 grow:Grow G₀ H0 G H
 len:σ.length=ρ.length
 ent:∀ (i:Nat) (o:Option V) (e:Ent),σ[i]?=some o→ρ[i]?=some e→a5B K H0 G H o e
 inj:Inj H σ ρ
 tab:nB K G H
theorem a5B.more {K:qC} {H0 G H G' H':Hp} {o:Option V} {e:Ent} (g:Grow G H G' H') (h:a5B K H0 G H o e):a5B K H0 G' H' o e:=by
 cases e with
 | no=>trivial
 | val d=>obtain ⟨v,e,r⟩:=h;exact ⟨v,e,r.mono g.gg⟩
 | lst ds=>
  obtain ⟨a,xs,e,h1,h2,h3,r⟩:=h;exact ⟨a,xs,e,g.hh.lst h1,g.new a h2 (by rw [h1];simp),h3,r.mono g.gg⟩
 | exc c=>obtain ⟨a,C,e,h1,h2⟩:=h;exact ⟨a,C,e,h1,g.hh.keep a _ h2 (by unfold xcO;nofun)⟩
 | nst dss=>
  obtain ⟨a,bs,e,h1,h2,h3,h4,h5,r⟩:=h;exact ⟨a,bs,e,g.hh.lst h1,g.new a h2 (by rw [h1];simp),h3,h4,h5,Paired.mapP r fun b ds ⟨xs,x1,x2,x3,x4⟩=>⟨xs,g.hh.lst x1,g.new b x2 (by rw [x1];simp),x3,x4.mono g.gg⟩⟩
 | dct kvs=>
  obtain ⟨a,vs,e,h1,h2,h3,r⟩:=h;exact ⟨a,vs,e,g.hh.keep a _ h1 (by nofun),g.new a h2 (by rw [h1];simp),h3,r.mono g.gg⟩
section
variable {K:qC} {H0 G₀ G H G' H':Hp} {σ:St} {ρ:List Ent}
theorem RepS.more (R:RepS K H0 G₀ G H σ ρ) (g:Grow G H G' H'):RepS K H0 G₀ G' H' σ ρ:=
 ⟨R.grow.trans g,R.len,fun i o e h1 h2=>(R.ent i o e h1 h2).more g,R.inj.other (fun j a' dss h1 h2 vs e=>by
  obtain ⟨a,bs,e1,e2,_⟩:=R.ent j _ _ h1 h2;cases e1;rw [g.hh.lst e2] at e;cases e
  exact e2),R.tab.more g⟩
theorem RepS.sub (R:RepS K H0 G₀ G H σ ρ):bB G H:=R.grow.sub
theorem RepS.at {i:Nat} {e:Ent} (R:RepS K H0 G₀ G H σ ρ) (h:ρ[i]?=some e):∃ o,σ[i]?=some o∧a5B K H0 G H o e:=by
 have hi:i<σ.length:=by rw [R.len];exact (qY.mp h).1
 exact ⟨σ[i],by simp [hi],R.ent i _ e (by simp [hi]) h⟩
theorem RepS.val {i:Nat} {d:j0} (R:RepS K H0 G₀ G H σ ρ) (h:ρ[i]?=some (.val d)):∃ v,σ[i]?=some (some v)∧Rep K G v d:=by
 obtain ⟨o,e,v,rfl,r⟩:=R.at h;exact ⟨v,e,r⟩
theorem RepS.own {i:Nat} {ds:T0j} (R:RepS K H0 G₀ G H σ ρ) (h:ρ[i]?=some (.lst ds)):∃ a xs,σ[i]?=some (some (.ref a))∧H a=some (.lst xs)∧G a=none∧H0 a=none∧RepAll K G xs ds:=by
 obtain ⟨o,e,a,xs,rfl,r⟩:=R.at h;exact ⟨a,xs,e,r⟩
theorem aK {α:Type} {l:List α} {i j:Nat} {x y:α} (h:(l.set i x)[j]?=some y):(j=i∧y=x∧i<l.length)∨(j≠i∧l[j]?=some y):=by
 by_cases e:j=i
 ·subst e
  have hl:j<l.length:=by
   have:=(qY.mp h).1;simpa using this
  rw [kN hl] at h;exact .inl ⟨rfl,(qA h).symm,hl⟩
 ·rw [qo (jm e)] at h
  exact .inr ⟨e,h⟩
theorem RepS.set {i:Nat} {v:V} {d:j0} (R:RepS K H0 G₀ G H σ ρ) (r:Rep K G v d):RepS K H0 G₀ G H (σ.set i (some v)) (ρ.set i (.val d)):=by
 refine ⟨R.grow,by simp [R.len],fun j o e h1 h2=>?_,R.inj.sub fun j e h1 h2=>?_,R.tab⟩
 ·rcases aK h1 with ⟨rfl,rfl,_⟩ | ⟨n,h1⟩
  ·rcases aK h2 with ⟨_,rfl,_⟩ | ⟨n,_⟩
   ·exact ⟨v,rfl,r⟩
   ·exact absurd rfl n
  ·rcases aK h2 with ⟨z,_⟩ | ⟨_,h2⟩
   ·exact absurd z n
   ·exact R.ent j o e h1 h2
 ·rcases aK h1 with ⟨_,rfl,_⟩ | ⟨n,h1⟩
  ·cases h2
  ·exact ⟨h1,qo (jm n)⟩
theorem RepS.freeze {i:Nat} {ds:T0j} (R:RepS K H0 G₀ G H σ ρ) (h:ρ[i]?=some (.lst ds)):∃ G',bB G G'∧RepS K H0 G₀ G' H σ (ρ.set i (.val (.list ds))):=by
 obtain ⟨a,xs,e,h1,h2,h3,r⟩:=R.own h;have gg:bB G (upd G a (.lst xs)):=bD h2;refine ⟨upd G a (.lst xs),gg,⟨⟨R.grow.gg.trans gg,R.grow.hh,fun b o q=>?_,fun b q n=>?_,fun n=>(R.grow.nt n).upd (by nofun)⟩,by simp [R.len],fun j o e' q1 q2=>?_,R.inj.sub fun j e h1 h2=>?_,R.tab.1,R.tab.2.upd (by nofun)⟩⟩
 ·by_cases hb:b=a
  ·subst hb;rw [aL] at q;cases q;exact h1
  ·rw [aF hb] at q;exact R.sub b o q
 ·have nb:b≠a:=fun z=>n (by rw [z];exact h3)
  rw [aF nb];exact R.grow.new b q n
 ·rcases aK q2 with ⟨rfl,rfl,_⟩ | ⟨nj,q2⟩
  ·rw [e] at q1;cases q1
   exact ⟨.ref a,rfl,.list (.of aL) (r.mono gg)⟩
  ·have E:=R.ent j o e' q1 q2
   cases e' with
   | no=>trivial
   | val d=>obtain ⟨v,z,rv⟩:=E;exact ⟨v,z,rv.mono gg⟩
   | lst es=>
    obtain ⟨b,ys,z,g1,g2,g3,rv⟩:=E;have nb:b≠a:=fun w=>by
     subst w z;exact R.inj.two j i b es ds nj q1 q2 e h
    exact ⟨b,ys,z,g1,by rw [aF nb];exact g2,g3,rv.mono gg⟩
   | exc c=>exact E
   | nst dss=>
    obtain ⟨b,bs,z,g1,g2,g3,g4,g5,rv⟩:=E;subst z;obtain ⟨m1,m2⟩:=R.inj.mix i j a b ds dss e h q1 q2;have ni:∀ c∈bs,c≠a:=fun c hc w=>m2 _ g1 (by subst w;exact qH.mpr ⟨c,hc,rfl⟩);exact ⟨b,bs,rfl,g1,by rw [aF (jm m1)];exact g2,g3,g4,g5,gF rv fun c dd hc ⟨xs',x1,x2,x3,x4⟩=>⟨xs',x1,by rw [aF (ni c hc)];exact x2,x3,x4.mono gg⟩⟩
   | dct kvs=>
    obtain ⟨b,vs,z,g1,g2,g3,rv⟩:=E;exact ⟨b,vs,z,g1,by rw [aF (fZ g1 h1 (by nofun))];exact g2,g3,rv.mono gg⟩
 ·rcases aK h1 with ⟨_,rfl,_⟩ | ⟨n,h1⟩
  ·cases h2
  ·exact ⟨h1,rfl⟩
theorem RepS.wrote {i:Nat} {a:Addr} {ds ds':T0j} {xs:List V} (R:RepS K H0 G₀ G H σ ρ) (h:ρ[i]?=some (.lst ds)) (e:σ[i]?=some (some (.ref a))) (r:RepAll K G xs ds'):RepS K H0 G₀ G (upd H a (.lst xs)) σ (ρ.set i (.lst ds')):=by
 obtain ⟨a',xs',e',h1,h2,h3,_⟩:=R.own h;rw [e] at e';cases e';refine ⟨⟨R.grow.gg,R.grow.hh.wr h3 h1,fun b o q=>?_,fun b q n=>R.grow.new b q n,R.grow.nt⟩,by simp [R.len],fun j o e' q1 q2=>?_,⟨fun j k b es fs hjk q1 q2 q3 q4=>?_,fun j k b a' es dss q1 q2 q3 q4=>?_,fun j k dss ess q1 q2=>?_,fun j k ks ls q1 q2=>?_⟩,R.tab.wr h1⟩
 ·rw [aF (aS q h2)];exact R.sub b o q
 ·rcases aK q2 with ⟨rfl,rfl,_⟩ | ⟨nj,q2⟩
  ·rw [e] at q1;cases q1
   exact ⟨a,xs,rfl,aL,h2,h3,r⟩
  ·have E:=R.ent j o e' q1 q2
   cases e' with
   | no=>trivial
   | val d=>exact E
   | lst es=>
    obtain ⟨b,ys,z,g1,g2,g3,rv⟩:=E;have nb:b≠a:=fun w=>by
     subst w z;exact R.inj.two j i b es ds nj q1 q2 e h
    exact ⟨b,ys,z,by rw [aF nb];exact g1,g2,g3,rv⟩
   | exc c=>obtain ⟨b,C,z,g1,g2⟩:=E;exact ⟨b,C,z,g1,by rw [aF (fZ g2 h1 (by unfold xcO;nofun))];exact g2⟩
   | nst dss=>
    obtain ⟨b,bs,z,g1,g2,g3,g4,g5,rv⟩:=E;subst z;obtain ⟨m1,m2⟩:=R.inj.mix i j a b ds dss e h q1 q2;have ni:∀ c∈bs,c≠a:=fun c hc w=>m2 _ g1 (by subst w;exact qH.mpr ⟨c,hc,rfl⟩);exact ⟨b,bs,rfl,by rw [aF (jm m1)];exact g1,g2,g3,g4,g5,gF rv fun c dd hc ⟨xs',x1,x2,x3,x4⟩=>⟨xs',by rw [aF (ni c hc)];exact x1,x2,x3,x4⟩⟩
   | dct kvs=>
    obtain ⟨b,vs,z,g1,g2,g3,rv⟩:=E;exact ⟨b,vs,z,by rw [aF (fZ g1 h1 (by nofun))];exact g1,g2,g3,rv⟩
 ·rcases aK q2 with ⟨rfl,_,_⟩ | ⟨n2,q2⟩
  ·rcases aK q4 with ⟨z,_,_⟩ | ⟨n4,q4⟩
   ·exact hjk z.symm
   ·exact R.inj.two j k b ds fs hjk q1 h q3 q4
  ·rcases aK q4 with ⟨z,_,_⟩ | ⟨n4,q4⟩
   ·subst z;exact R.inj.two j k b es ds hjk q1 ‹ρ[j]?=some (Ent.lst es)› q3 h
   ·exact R.inj.two j k b es fs hjk q1 ‹ρ[j]?=some (Ent.lst es)› q3 q4
 ·rcases aK q4 with ⟨_,z,_⟩ | ⟨_,q4⟩
  ·cases z
  ·have old:∃ fs,ρ[j]?=some (.lst fs):=by
    rcases aK q2 with ⟨rfl,_,_⟩ | ⟨_,q2⟩
    ·exact ⟨_,h⟩
    ·exact ⟨_,q2⟩
   obtain ⟨fs,q2⟩:=old;obtain ⟨m1,m2⟩:=R.inj.mix j k b a' fs dss q1 q2 q3 q4;have m3:=(R.inj.mix i k a a' ds dss e h q3 q4).1;exact ⟨m1,fun vs z=>m2 vs (by rw [aF (jm m3)] at z;exact z)⟩
 ·rcases aK q1 with ⟨_,z,_⟩ | ⟨_,q1⟩
  ·cases z
  ·rcases aK q2 with ⟨_,z,_⟩ | ⟨_,q2⟩
   ·cases z
   ·exact R.inj.one j k dss ess q1 q2
 ·rcases aK q1 with ⟨_,z,_⟩ | ⟨_,q1⟩
  ·cases z
  ·rcases aK q2 with ⟨_,z,_⟩ | ⟨_,q2⟩
   ·cases z
   ·exact R.inj.oneD j k ks ls q1 q2
theorem RepS.fresh {i:Nat} {p:Addr} {ds:T0j} {xs:List V} (R:RepS K H0 G₀ G H σ ρ) (h:H p=none) (r:RepAll K G xs ds):RepS K H0 G₀ G (upd H p (.lst xs)) (σ.set i (some (.ref p))) (ρ.set i (.lst ds)):=by
 have R':=R.more (Grow.side (o:=.lst xs) R.sub h);refine ⟨R'.grow,by simp [R.len],fun j o e h1 h2=>?_,⟨fun j k a es fs hjk h1 h2 h3 h4=>?_,fun j k b a' es dss q1 q2 q3 q4=>?_,fun j k dss ess q1 q2=>?_,fun j k ks ls q1 q2=>?_⟩,R'.tab⟩
 ·rcases aK h1 with ⟨rfl,rfl,_⟩ | ⟨n,h1⟩
  ·rcases aK h2 with ⟨_,rfl,_⟩ | ⟨n,_⟩
   ·exact ⟨p,xs,rfl,aL,R.sub.free h,R.grow.hh.free h,r⟩
   ·exact absurd rfl n
  ·rcases aK h2 with ⟨z,_⟩ | ⟨_,h2⟩
   ·exact absurd z n
   ·exact R'.ent j o e h1 h2
 ·have old:∀ j es,j≠i→σ[j]?=some (some (.ref p))→ρ[j]?=some (.lst es)→False:=fun j es _ q1 q2=>by
   obtain ⟨b,ys,e,g1,_⟩:=R.own q2;rw [q1] at e;cases e;rw [h] at g1;cases g1
  rcases aK h2 with ⟨rfl,_,_⟩ | ⟨n2,h2⟩
  ·rcases aK h1 with ⟨_,z,_⟩ | ⟨n,_⟩
   ·cases z
    rcases aK h4 with ⟨z,_,_⟩ | ⟨n4,h4⟩
    ·exact hjk z.symm
    ·rw [qo (jm n4)] at h3
     exact old k fs n4 h3 h4
   ·exact absurd rfl n
  ·rw [qo (jm n2)] at h1
   rcases aK h4 with ⟨zk,_,_⟩ | ⟨n4,h4⟩
   ·subst zk
    rcases aK h3 with ⟨_,z,_⟩ | ⟨n,_⟩
    ·cases z;exact old j es n2 h1 ‹ρ[j]?=some (Ent.lst es)›
    ·exact absurd rfl n
   ·rw [qo (jm n4)] at h3
    exact R.inj.two j k a es fs hjk h1 h2 h3 h4
 ·rcases aK q4 with ⟨_,z,_⟩ | ⟨n4,q4⟩
  ·cases z
  ·rw [qo (jm n4)] at q3
   obtain ⟨a1,bs,z,g1,g2,g3,g4,g5,rv⟩:=R.ent k _ _ q3 q4;have z':a'=a1:=by cases z;rfl
   subst z';have pa:a'≠p:=aS g1 h;have pb:V.ref p∉bs.map V.ref:=fun z=>by
    obtain ⟨c,hc,e⟩:=qH.mp z;cases e;obtain ⟨dd,⟨xs',x1,_⟩⟩:=pX rv hc;rw [h] at x1;cases x1
   rcases aK q2 with ⟨rfl,_,_⟩ | ⟨n2,q2⟩
   ·rcases aK q1 with ⟨_,z,_⟩ | ⟨n,_⟩
    ·cases z
     exact ⟨jm pa,fun vs e=>by rw [aF pa,g1] at e;cases e;exact pb⟩
    ·exact absurd rfl n
   ·rw [qo (jm n2)] at q1
    obtain ⟨m1,m2⟩:=R.inj.mix j k b a' es dss q1 q2 q3 q4;exact ⟨m1,fun vs e=>m2 vs (by rw [aF pa] at e;exact e)⟩
 ·rcases aK q1 with ⟨_,z,_⟩ | ⟨_,q1⟩
  ·cases z
  ·rcases aK q2 with ⟨_,z,_⟩ | ⟨_,q2⟩
   ·cases z
   ·exact R.inj.one j k dss ess q1 q2
 ·rcases aK q1 with ⟨_,z,_⟩ | ⟨_,q1⟩
  ·cases z
  ·rcases aK q2 with ⟨_,z,_⟩ | ⟨_,q2⟩
   ·cases z
   ·exact R.inj.oneD j k ks ls q1 q2
theorem RepS.ownD {i:Nat} {kvs:List (Key×j0)} (R:RepS K H0 G₀ G H σ ρ) (h:ρ[i]?=some (.dct kvs)):∃ a vs,σ[i]?=some (some (.ref a))∧H a=some (.dK vs)∧G a=none∧H0 a=none∧a5D K G vs kvs:=by
 obtain ⟨o,e,a,vs,rfl,r⟩:=R.at h;exact ⟨a,vs,e,r⟩
theorem RepS.freezeD {i:Nat} {kvs:List (Key×j0)} (R:RepS K H0 G₀ G H σ ρ) (h:ρ[i]?=some (.dct kvs)):∃ G',bB G G'∧RepS K H0 G₀ G' H σ (ρ.set i (.val (.dict (kvs.map fun p=>(dU p.1,p.2))))):=by
 obtain ⟨a,vs,e,h1,h2,h3,r⟩:=R.ownD h;have gg:bB G (upd G a (.dK vs)):=bD h2;refine ⟨upd G a (.dK vs),gg,⟨⟨R.grow.gg.trans gg,R.grow.hh,fun b o q=>?_,fun b q n=>?_,fun n=>(R.grow.nt n).upd (by nofun)⟩,by simp [R.len],fun j o e' q1 q2=>?_,R.inj.sub fun j e h1 h2=>?_,R.tab.1,R.tab.2.upd (by nofun)⟩⟩
 ·by_cases hb:b=a
  ·subst hb;rw [aL] at q;cases q;exact h1
  ·rw [aF hb] at q;exact R.sub b o q
 ·have nb:b≠a:=fun z=>n (by rw [z];exact h3)
  rw [aF nb];exact R.grow.new b q n
 ·rcases aK q2 with ⟨rfl,rfl,_⟩ | ⟨nj,q2⟩
  ·rw [e] at q1;cases q1
   refine ⟨.ref a,rfl,.dict (kvs:=vs) aL ?_ ?_⟩
   ·rw [qP]
    have:=congrArg (List.map dU) r.1;rw [qP,qP] at this;exact this.symm
   ·rw [qP];exact r.2.mono gg
  ·have E:=R.ent j o e' q1 q2
   cases e' with
   | no=>trivial
   | val d=>obtain ⟨v,z,rv⟩:=E;exact ⟨v,z,rv.mono gg⟩
   | lst es=>
    obtain ⟨b,ys,z,g1,g2,g3,rv⟩:=E;exact ⟨b,ys,z,g1,by rw [aF (fZ g1 h1 (by nofun))];exact g2,g3,rv.mono gg⟩
   | exc c=>exact E
   | nst dss=>
    obtain ⟨b,bs,z,g1,g2,g3,g4,g5,rv⟩:=E;exact ⟨b,bs,z,g1,by rw [aF (fZ g1 h1 (by nofun))];exact g2,g3,g4,g5,gF rv fun c dd hc ⟨xs',x1,x2,x3,x4⟩=>⟨xs',x1,by rw [aF (fZ x1 h1 (by nofun))];exact x2,x3,x4.mono gg⟩⟩
   | dct ks=>exact absurd (R.inj.oneD j i ks kvs q2 h) nj
 ·rcases aK h1 with ⟨_,rfl,_⟩ | ⟨n,h1⟩
  ·cases h2
  ·exact ⟨h1,rfl⟩
end
structure PD (X:Cx) (e:Expr) (ρ:List Ent) (d:j0):Prop where
 run:∀ (H0 G₀ G:Hp) (pins:T0b) (s:Shared) (σ:St) (H:Hp) (Q:VK),Inv X pins σ H s→RepS X.K H0 G₀ G H σ ρ→(∀ v G' H',Grow G H G' H'→Rep X.K G' v d→Q v H') →
  wpAny (model X.prog X.w) X.A (eval e X.env) (EP X pins σ Q) X.xe s
structure PTD (X:Cx) (e:Expr) (ρ:List Ent) (b:Bool):Prop where
 run:∀ (H0 G₀ G:Hp) (pins:T0b) (s:Shared) (σ:St) (H:Hp) (Q:Bool→Hp→Prop),Inv X pins σ H s→RepS X.K H0 G₀ G H σ ρ→(∀ G' H',Grow G H G' H'→Q b H') →
  wpAny (model X.prog X.w) X.A (isTrue e X.env (eval e X.env)) (TP X pins σ Q) X.xe s
structure PAD (X:Cx) (es:T0l) (ρ:List Ent) (ds:T0j):Prop where
 run:∀ (H0 G₀ G:Hp) (pos:Pos) (pins:T0b) (s:Shared) (σ:St) (H:Hp) (Q:List V→Hp→Prop),Inv X pins σ H s→RepS X.K H0 G₀ G H σ ρ→(∀ vs G' H',Grow G H G' H'→RepAll X.K G' vs ds→Q vs H') →
  wpAny (model X.prog X.w) X.A (spliced (k9 pos (j4 es X.env))) (AP X pins σ Q) X.xe s
def tD (X:Cx) (ρ:List Ent) (d:j0):TE:=fun σ H Q=>∃ H0 G₀ G,RepS X.K H0 G₀ G H σ ρ∧∀ v G' H',Grow G H G' H'→Rep X.K G' v d→Q v H'
def tTD (X:Cx) (ρ:List Ent) (b:Bool):TT:=fun σ H Q=>∃ H0 G₀ G,RepS X.K H0 G₀ G H σ ρ∧∀ G' H',Grow G H G' H'→Q b H'
def tAD (X:Cx) (ρ:List Ent) (ds:T0j):TA:=fun σ H Q=>∃ H0 G₀ G,RepS X.K H0 G₀ G H σ ρ∧∀ vs G' H',Grow G H G' H'→RepAll X.K G' vs ds→Q vs H'
section
variable {X:Cx} {e a b c:Expr} {es:T0l} {ρ:List Ent} {d da db dc:j0} {ds:T0j} {pos p:Pos}
theorem PD.pe (h:PD X e ρ d):PE X e (tD X ρ d):=fun pins s σ H Q I ⟨H0,G₀,G,R,k⟩=>h.run H0 G₀ G pins s σ H Q I R k
theorem PTD.pt {b:Bool} (h:PTD X e ρ b):PT X e (tTD X ρ b):=fun pins s σ H Q I ⟨H0,G₀,G,R,k⟩=>h.run H0 G₀ G pins s σ H Q I R k
theorem PAD.pa (h:PAD X es ρ ds):PA X es (tAD X ρ ds):=fun pos pins s σ H Q I ⟨H0,G₀,G,R,k⟩=>h.run H0 G₀ G pos pins s σ H Q I R k
theorem PD.of {t:TE} (h:PE X e t) (k:∀ H0 G₀ G σ H Q,RepS X.K H0 G₀ G H σ ρ→(∀ v G' H',Grow G H G' H'→Rep X.K G' v d→Q v H')→t σ H Q):PD X e ρ d:=
 ⟨fun H0 G₀ G pins s σ H Q I R q=>h pins s σ H Q I (k H0 G₀ G σ H Q R q)⟩
theorem b6B {i:Int} {j}:PD X (.Constant (.int i) j pos) ρ (.int i):=.of b0N fun _ _ _ _ _ _ R q=>q _ _ _ (.refl R.sub) (.int i)
theorem b6A {x:Str} {j}:PD X (.Constant (.str x) j pos) ρ (.str x):=.of b0L fun _ _ _ _ _ _ R q=>q _ _ _ (.refl R.sub) (.str x)
theorem b3y {x:Bool} {j}:PD X (.Constant (.bool x) j pos) ρ (.bool x):=.of b8L fun _ _ _ _ _ _ R q=>q _ _ _ (.refl R.sub) (.bool x)
theorem b6z (i:Nat) {x:Str} (h:ρ[i]?=some (.val d)) (hN:X.N[i]?=some x:=by rfl) (hv:Vis X.env.scope x:=by first | exact kC rfl | exact jg (kC rfl) | exact jg (jg rfl)) (hd:(x==("__debug__" : Str))=false:=by decide)
  (hcd:(x==("__classdict__" : Str))=false:=by decide):PD X (.Name x pos) ρ d:=.of (hZ hN hv hd hcd) fun H0 G₀ G σ H Q R q=>by
 obtain ⟨v,e,r⟩:=R.val h;exact ⟨v,e,q v G H (.refl R.sub) r⟩
theorem b0P {x:Str} {i:Int} {t:Tok} (hg:Gl X x) (hm:X.mg x=some (.int i t)) (hd:(x==("__debug__" : Str))=false:=by decide):PD X (.Name x pos) ρ (.int i):=
 .of (a7b (v:=.int i) hg hm ⟨t,rfl⟩ hd) fun _ _ _ _ _ _ R q=>q _ _ _ (.refl R.sub) (.int i)
end
section
variable {X:Cx} {e a b c:Expr} {es:T0l} {ρ:List Ent} {d da db dc:j0} {ds:T0j} {pos p:Pos}
theorem lR:PAD X [] ρ []:=⟨fun H0 G₀ G pos pins s σ H Q I R q=>gG pos pins s σ H Q I (q [] G H (.refl R.sub) .nil)⟩
theorem eN (ha:PD X e ρ d) (hr:PAD X es ρ ds) (hs:j4 (e::es) X.env=(false,eval e X.env)::j4 es X.env:=by rfl):PAD X (e::es) ρ (d::ds):=by
 refine ⟨?_⟩;intro H0 G₀ G pos pins s σ H Q I R q;exact dC ha.pe hr.pa hs pos pins s σ H Q I ⟨H0,G₀,G,R,fun x G1 H1 g1 r1=>⟨H0,G₀,G1,R.more g1,fun xs G2 H2 g2 r2=>q _ G2 H2 (g1.trans g2) (.cons (r1.mono g2.gg) r2)⟩⟩
structure CmpD (X:Cx) (op:CmpOp) (da db:j0) (t:Bool):Prop where
 ex:∃ r:R2,OpR X (wp op) r∧∀ x y G H Q,bB G H→Rep X.K G x da→Rep X.K G y db→Q (V.bl t) H→r x y H Q
theorem b7R {i j:Int}:CmpD X .Lt (.int i) (.int j) (decide (i<j)):=⟨_,b8O,fun x y G H Q _ rx ry q=>by cases rx;cases ry;exact ⟨_,_,rfl,rfl,q⟩⟩
theorem b7S {i j:Int}:CmpD X .LtE (.int i) (.int j) (decide (i≤j)):=⟨_,b8P,fun x y G H Q _ rx ry q=>by cases rx;cases ry;exact ⟨_,_,rfl,rfl,q⟩⟩
theorem cmp_gt {i j:Int}:CmpD X .Gt (.int i) (.int j) (decide (j<i)):=⟨_,b8Q,fun x y G H Q _ rx ry q=>by cases rx;cases ry;exact ⟨_,_,rfl,rfl,q⟩⟩
def b8F (X:Cx) (da db:j0) (neg:Bool):R2:=fun x y H Q=>Rep X.K H x da∧Rep X.K H y db∧qV da=true∧qV db=true∧Q (.bl (if neg then !PyData.eqv da db else jI da db)) H
theorem b6I (hu:X.A.units+64<cLine) (da db:j0):OpR X (wp .Eq) (b8F X da db false):=by
 intro pins s σ H x y v u Q I rx ry ⟨r1,r2,h1,h2,q⟩;obtain ⟨as,w1⟩:=r1.reads I rx;obtain ⟨bs,w2⟩:=r2.reads I ry;exact eq_dataH w1 w2 h1 h2 hu ⟨.bl _,H,I,rfl,q⟩
theorem b6E (hu:X.A.units+64<cLine) (da db:j0):OpR X (wp .NotEq) (b8F X da db true):=by
 intro pins s σ H x y v u Q I rx ry ⟨r1,r2,h1,h2,q⟩;obtain ⟨as,w1⟩:=r1.reads I rx;obtain ⟨bs,w2⟩:=r2.reads I ry;exact ne_dataH w1 w2 h1 h2 hu ⟨.bl _,H,I,rfl,q⟩
theorem b7T (hu:X.A.units+64<cLine) (h1:qV da=true) (h2:qV db=true):CmpD X .Eq da db (jI da db):=
 ⟨_,b6I hu da db,fun x y G H Q s rx ry q=>⟨rx.mono s,ry.mono s,h1,h2,q⟩⟩
theorem b7Q (hu:X.A.units+64<cLine) (h1:qV da=true) (h2:qV db=true):CmpD X .NotEq da db (!PyData.eqv da db):=
 ⟨_,b6E hu da db,fun x y G H Q s rx ry q=>⟨rx.mono s,ry.mono s,h1,h2,q⟩⟩
variable {rest:T0l}
theorem a7V {K:qC} {G:Hp} {xs:List V} {ds:T0j} {i:Int} {d:j0} (r:RepAll K G xs ds) (h:atI ds i=some d):∃ v,atI xs i=some v∧Rep K G v d:=by
 unfold atI at h ⊢;rw [r.length];cases e:ixN ds.length i with
 | none=>rw [e] at h;cases h
 | some j=>
  rw [e] at h;exact r.get h
def spD (K:qC) (F:List j0→j0→Prop):Sp:=fun vs H Q _=>∃ G ds d,(bB G H∧nB K G H)∧RepAll K G vs ds∧F ds d∧∀ v G' H',Grow G H G' H'→Rep K G' v d→Q v H'
end
def Walk (K:qC) (J:It) (G:Hp) (ds:T0j):Prop:=
 ∀ (i:Nat) (G' H':Hp),bB G G'→bB G' H'→(∀ d,ds[i]?=some d→J.go i H'∧∀ x H2,J.yld i H' x H2→∃ G2,Grow G' H' G2 H2∧Rep K G2 x d)∧(ds.length≤i→J.stop i H')
def tID (K:qC) (ρ:List Ent) (ds:T0j):TI:=fun σ H R=>∃ H0 G₀ G,RepS K H0 G₀ G H σ ρ∧∀ J G' H',Grow G H G' H'→Walk K J G' ds→R J H'
structure PID (X:Cx) (tg iter:Expr) (ρ:List Ent) (ds:T0j):Prop where
 run:PI X tg iter (tID X.K ρ ds)
theorem a7W {K:qC} {G:Hp} {a:Addr} {xs:List V} {ds:T0j} (hq:SqL K G a xs) (r:RepAll K G xs ds):Walk K (Itl K a) G ds:=by
 intro i G' H' s1 s2;refine ⟨fun d e=>?_,fun hl=>⟨xs,(s1.trans s2).seq hq,by rw [r.length];exact hl⟩⟩;obtain ⟨v,ev,rv⟩:=r.get e;refine ⟨⟨xs,v,(s1.trans s2).seq hq,ev⟩,fun x H2 ⟨e2,y⟩=>?_⟩;subst e2;have z:=y xs ((s1.trans s2).seq hq);rw [ev] at z;cases z;exact ⟨G',.refl s2,rv.mono s1⟩
theorem a9L {K:qC} {G:Hp} {a:Addr} {xs:List V} {ds:T0j} (hq:SqT K G a xs) (r:RepAll K G xs ds):Walk K (Itt K a) G ds:=by
 intro i G' H' s1 s2;refine ⟨fun d e=>?_,fun hl=>⟨xs,mU (s1.trans s2) hq,by rw [r.length];exact hl⟩⟩;obtain ⟨v,ev,rv⟩:=r.get e;refine ⟨⟨xs,v,mU (s1.trans s2) hq,ev⟩,fun x H2 ⟨e2,y⟩=>?_⟩;subst e2;have z:=y xs (mU (s1.trans s2) hq);rw [ev] at z;cases z;exact ⟨G',.refl s2,rv.mono s1⟩
def sI (lo:Int) (n:Nat):List j0:=(qi n).map fun (k:Nat)=>.int (lo+(k:Int))
theorem a9M {K:qC} {G:Hp} (lo:Int) (n:Nat):Walk K (Itr lo n) G (sI lo n):=by
 intro i G' H' s1 s2;unfold sI;refine ⟨fun d e=>?_,fun hl=>by rw [qE,kj] at hl;exact hl⟩;rw [qW] at e;by_cases hi:i<n
 ·rw [kI hi] at e
  cases e;refine ⟨hi,fun x H2 ⟨e1,e2⟩=>?_⟩;subst e1 e2;exact ⟨G',.refl s2,.int _⟩
 ·rw [qb (by simpa using hi)] at e
  cases e
section
variable {X:Cx} {tg iter a b:Expr} {ρ:List Ent} {ds:T0j} {p pos:Pos}
theorem PI.imp {wi wi':TI} (h:PI X tg iter wi) (k:∀ σ H R,wi' σ H R→wi σ H R):PI X tg iter wi':=fun pins s σ H R I w=>h pins s σ H R I (k σ H R w)
theorem b0H (h:PD X iter ρ (.list ds)):PID X tg iter ρ ds:=⟨PI.imp (a7a h.pe) fun σ H R ⟨H0,G₀,G,S,q⟩=>⟨H0,G₀,G,S,fun v G1 H1 g1 r1=>by
 cases r1 with
 | list hq r=>exact ⟨_,rfl,⟨_,g1.sub.seq hq⟩,q _ _ _ g1 (a7W hq r)⟩⟩⟩
theorem b3q (h:PD X iter ρ (.tuple ds)):PID X tg iter ρ ds:=⟨PI.imp (b6r h.pe) fun σ H R ⟨H0,G₀,G,S,q⟩=>⟨H0,G₀,G,S,fun v G1 H1 g1 r1=>by
 cases r1 with
 | tuple hq r=>exact ⟨_,rfl,⟨_,mU g1.sub hq⟩,q _ _ _ g1 (a9L hq r)⟩⟩⟩
theorem a5S {n:Int} (hm:X.mg "range" = none) (ha:PD X a ρ (.int n)) (h1:-(2 ^ 62)≤n) (h2:n<2 ^ 62) (hs:j4 [a] X.env=[(false,eval a X.env)]:=by rfl) (hs':j4 [a] X.env=(false,eval a X.env)::j4 [] X.env:=by rfl) (hg:Gl X "range":=by rfl) :
  PID X tg (.Call (.Name "range" p) [a] [] pos) ρ (sI 0 n.toNat):=
 ⟨PI.imp (a8t hg hm (eN ha lR hs').pa hs) fun σ H R ⟨H0,G₀,G,S,q⟩=>⟨H0,G₀,G,S,fun vs G1 H1 g1 r1=>by
  cases r1 with
  | cons r rr=>
   cases rr;cases r
   exact ⟨n,rfl,h1,h2,q _ _ _ g1 (a9M 0 n.toNat)⟩⟩⟩
end
def tGD (K:qC) (ρ:List Ent) (d:j0) (ρ':List Ent):TG:=fun v σ H Q=>∃ H0 G₀ G,RepS K H0 G₀ G H σ ρ∧Rep K G v d∧∀ σ',RepS K H0 G₀ G H σ' ρ'→Q σ' H
def b9D (K:qC) (ρ:List Ent) (ds:T0j) (ρ':List Ent):TGs:=fun vs σ H Q=>∃ H0 G₀ G,RepS K H0 G₀ G H σ ρ∧RepAll K G vs ds∧∀ σ',RepS K H0 G₀ G H σ' ρ'→Q σ' H
structure PGD (X:Cx) (tg:Expr) (ρ:List Ent) (d:j0) (ρ':List Ent):Prop where
 run:PG X tg (tGD X.K ρ d ρ')
structure PGsD (X:Cx) (ts:T0l) (ρ:List Ent) (ds:T0j) (ρ':List Ent):Prop where
 run:PGs X ts (b9D X.K ρ ds ρ')
section
variable {X:Cx} {e:Expr} {es:T0l} {ρ ρ1 ρ2:List Ent} {d:j0} {ds:T0j} {pos:Pos}
theorem a4y (i:Nat) {x:Str} (hN:X.N.Nodup) (hi:X.N[i]?=some x:=by rfl) (hx:Loc X.env.scope x:=by first | exact kC rfl | exact jg rfl) (hf:X.fn x=true∨X.env.scope.names.lookup x=some .local:=by first | exact .inl rfl | exact .inr rfl) :
  PGD X (.Name x pos) ρ d (ρ.set i (.val d)):=⟨fun pins s σ H v u Q I r ⟨H0,G₀,G,S,rv,q⟩=>b3t hN hi hx hf pins s σ H v u Q I r (q _ (S.set rv))⟩
theorem b0J:PGsD X [] ρ [] ρ:=⟨fun pins s σ H vs us Q I r ⟨H0,G₀,G,S,rv,q⟩=>by
 cases rv
 exact b3r pins s σ H [] us Q I r ⟨rfl,q σ S⟩⟩
theorem a8u (h1:PGD X e ρ d ρ1) (h2:PGsD X es ρ1 ds ρ2) (hs:(wq (e::es) X.env).map (·.2)=assign e X.env::(wq es X.env).map (·.2):=by rfl):PGsD X (e::es) ρ (d::ds) ρ2:=⟨fun pins s σ H vs us Q I r ⟨H0,G₀,G,S,rv,q⟩=>by
 cases rv with
 | cons r1 r2=>exact b0K h1.run h2.run hs pins s σ H _ us Q I r ⟨_,_,rfl,H0,G₀,G,S,r1,fun σ' S'=>⟨H0,G₀,G,S',r2,q⟩⟩⟩
theorem b3s {k:Nat} (hc:X.calm=true) (h:PGsD X es ρ ds ρ1) (hn:(wq es X.env).length=ds.length:=by rfl) (hst:(wq es X.env).findIdx? (·.1)=none:=by rfl):PGD X (.Tuple es k pos) ρ (.tuple ds) ρ1:=⟨fun pins s σ H v u Q I r ⟨H0,G₀,G,S,rv,q⟩=>by
 cases rv with
 | tuple hq rr=>exact b6s hc h.run hn hst pins s σ H _ u Q I r ⟨_,_,rfl,mU S.sub hq,rr.length,H0,G₀,G,S,rr,q⟩⟩
end
inductive Out where
 | nx (ρ:List Ent)
 | rt (d:j0)
 | bk (ρ:List Ent)
 | ct (ρ:List Ent)
def b5J (K:qC) (H0 G₀ G:Hp) (D:Ends):Out→Prop
 | .nx ρ=>∀ G' H' σ',bB G G'→RepS K H0 G₀ G' H' σ' ρ→D.nx σ' H'
 | .rt d=>∀ v G' H',bB G G'→Grow G₀ H0 G' H'→Rep K G' v d→D.rt v H'
 | .bk ρ=>∀ G' H' σ',bB G G'→RepS K H0 G₀ G' H' σ' ρ→D.bk σ' H'
 | .ct ρ=>∀ G' H' σ',bB G G'→RepS K H0 G₀ G' H' σ' ρ→D.ct σ' H'
def tSD (K:qC) (ρ:List Ent) (o:Out):TS:=fun D σ H=>∃ H0 G₀ G,RepS K H0 G₀ G H σ ρ∧b5J K H0 G₀ G D o
structure PSD (X:Cx) (st:Stmt) (ρ:List Ent) (o:Out):Prop where
 run:PS X st (tSD X.K ρ o)
inductive Weak:List Ent→List Ent→Prop
 | nil:Weak [] []
 | keep {e:Ent} {a b:List Ent}:Weak a b→Weak (e::a) (e::b)
 | no {e:Ent} {a b:List Ent}:Weak a b→Weak (e::a) (.no::b)
theorem Weak.refl:∀ ρ:List Ent,Weak ρ ρ
 | []=>.nil
 | _::r=>.keep (Weak.refl r)
theorem Weak.at:∀ {a b:List Ent} {i:Nat} {e:Ent},Weak a b→b[i]?=some e→e=.no∨a[i]?=some e
 | _,_,_,_,.nil,h=>by simp at h
 | _,_,0,e,.keep _,h=>.inr (by simpa using h)
 | _,_,0,e,.no _,h=>.inl (by simpa using h.symm)
 | _,_,i+1,e,.keep w,h=>by
  rcases Weak.at (i:=i) w (by simpa using h) with z | z
  ·exact .inl z
  ·exact .inr (by simpa using z)
 | _,_,i+1,e,.no w,h=>by
  rcases Weak.at (i:=i) w (by simpa using h) with z | z
  ·exact .inl z
  ·exact .inr (by simpa using z)
theorem Weak.length:∀ {a b:List Ent},Weak a b→a.length=b.length
 | _,_,.nil=>rfl
 | _,_,.keep w=>by simp [Weak.length w]
 | _,_,.no w=>by simp [Weak.length w]
theorem RepS.weak {K:qC} {H0 G₀ G H:Hp} {σ:St} {ρ ρ':List Ent} (R:RepS K H0 G₀ G H σ ρ) (w:Weak ρ ρ'):RepS K H0 G₀ G H σ ρ':=by
 refine ⟨R.grow,R.len.trans w.length,fun i o e h1 h2=>?_,R.inj.sub fun i e h1 h2=>?_,R.tab⟩
 ·rcases w.at h2 with z | z
  ·subst z;trivial
  ·exact R.ent i o e h1 z
 ·rcases w.at h1 with z | z
  ·subst z;cases h2
  ·exact ⟨z,rfl⟩
section
variable {X:Cx} {st:Stmt} {rest:List Stmt} {ρ ρ1 ρ2:List Ent} {o:Out} {e c:Expr} {d:j0} {ds:T0j} {pos:Pos}
theorem PSD.of {t:TS} (h:PS X st t) (k:∀ H0 G₀ G σ H D,RepS X.K H0 G₀ G H σ ρ→b5J X.K H0 G₀ G D o→t D σ H):PSD X st ρ o:=⟨fun pins s σ H D I ⟨H0,G₀,G,S,q⟩=>h pins s σ H D I (k H0 G₀ G σ H D S q)⟩
end
def bS (cap:T0e) (ρ:List Ent):List Ent:=cap.map fun o=>match o with
 | some j=>(match ρ[j]? with | some (.val d)=>.val d | _=>.no)
 | none=>.no
theorem yA (cap:T0e) (ρ:List Ent):∀ (i:Nat) (e:Ent),(bS cap ρ)[i]?=some e→a4Y e=false:=fun i e h=>by
 unfold bS at h;rw [qW] at h;cases hc:cap[i]? with
 | none=>rw [hc] at h;cases h
 | some c=>
  rw [hc] at h;cases c with
  | none=>cases h;rfl
  | some j=>
   have h2:(match ρ[j]? with | some (Ent.val d)=>Ent.val d | _=>Ent.no)=e:=qA h;cases hr:ρ[j]? with
   | none=>rw [hr] at h2;subst h2;rfl
   | some q=>rw [hr] at h2;cases q<;>(subst h2;rfl)
theorem RepS.cap {K:qC} {H0 G₀ G H:Hp} {σ:St} {ρ:List Ent} (R:RepS K H0 G₀ G H σ ρ) (cap:T0e):RepS K H G G H (fU cap σ) (bS cap ρ):=by
 refine ⟨.refl R.sub,by simp [fU,bS],fun i o e h1 h2=>?_,Inj.free (yA cap ρ),R.tab⟩
 ·unfold fU at h1
  unfold bS at h2;rw [qW] at h1 h2;cases hc:cap[i]? with
  | none=>rw [hc] at h1;cases h1
  | some c=>
   rw [hc] at h1 h2;cases c with
   | none=>cases h2;trivial
   | some j=>
    have h1:(σ[j]?).getD none=o:=qA h1;have h2:(match ρ[j]? with | some (Ent.val d)=>Ent.val d | _=>Ent.no)=e:=qA h2;cases hr:ρ[j]? with
    | none=>rw [hr] at h2;subst h2;trivial
    | some q=>
     rw [hr] at h2;cases q with
     | no=>subst h2;trivial
     | lst ds=>subst h2;trivial
     | exc c=>subst h2;trivial
     | nst dss=>subst h2;trivial
     | dct kvs=>subst h2;trivial
     | val d=>
      subst h2;obtain ⟨v,e,r⟩:=R.val hr;rw [e] at h1;subst h1;exact ⟨v,rfl,r⟩
section
variable {X:Cx} {elt iter tg:Expr} {ifs:T0l} {scope:Scope} {pos spos:Pos} {N':T0o} {cap:T0e} {ρ ρb:List Ent} {α:Type} {xs:List α} {φ f:α→j0} {cnd:α→Bool} {ρx:α→List Ent}
structure PTsD (X:Cx) (ifs:T0l) (ρ:List Ent) (b:Bool):Prop where
 run:PTs X ifs (tTD X ρ b)
theorem b0A:PTsD X [] ρ true:=⟨fun pins s σ H Q I ⟨H0,G₀,G,R,q⟩=>b3j pins s σ H Q I (q G H (.refl R.sub))⟩
theorem b0z {c:Expr} {t:Bool} (h:PTD X c ρ t):PTsD X [c] ρ t:=⟨b3i h.pt⟩
def gU (K:qC) (xs:List α) (φ:α→j0) (ρb:List Ent) (ρx:α→List Ent):TG:=fun v σ H Q=>∃ x∈xs,tGD K ρb (φ x) (ρx x) v σ H Q
def tU (K:qC) (xs:List α) (ρx:α→List Ent) (cnd:α→Bool):TT:=fun σ H Q=>∃ x∈xs,∃ H0 G₀ G,RepS K H0 G₀ G H σ (ρx x)∧∀ G' H',Grow G H G' H'→Q (cnd x) H'
def eU (K:qC) (xs:List α) (ρx:α→List Ent) (cnd:α→Bool) (f:α→j0):TE:=fun σ H Q=>∃ x∈xs,cnd x=true∧∃ H0 G₀ G,RepS K H0 G₀ G H σ (ρx x)∧∀ v G' H',Grow G H G' H'→Rep K G' v (f x)→Q v H'
def eUF (K:qC) (xs:List α) (ρx:α→List Ent) (cnd:α→Bool) (f:α→j0) (H0 G₀:Hp):TE:=fun σ H Q=>∃ x∈xs,cnd x=true∧∃ G,RepS K H0 G₀ G H σ (ρx x)∧∀ v G' H',Grow G H G' H'→Rep K G' v (f x)→Q v H'
theorem a9V {J:It} {g:TG} {tc:TT} {te te':TE} {σ₀:St} {H:Hp} {Q:VK} (h:∀ σ H Q,te σ H Q→te' σ H Q) (hg:∀ x σ H Q Q',(∀ σ H,Q σ H→Q' σ H)→g x σ H Q→g x σ H Q') (ht:∀ σ H Q Q',(∀ b H,Q b H→Q' b H)→tc σ H Q→tc σ H Q') (t:uO J g tc te σ₀ H Q):uO J g tc te' σ₀ H Q:=by
 obtain ⟨W,hW⟩:=t;refine ⟨W,fun D hD=>⟨(hW D hD).1,fun i m ys σ1 H1 w h1=>?_⟩⟩;rcases (hW D hD).2 i m ys σ1 H1 w h1 with z | ⟨go,z⟩
 ·exact .inl z
 ·refine .inr ⟨go,fun x H2 y=>hg _ _ _ _ _ (fun σ3 H3 q3=>ht _ _ _ _ (fun b H4 q4=>?_) q3) (z x H2 y)⟩
  cases b with
  | true=>rw [if_pos rfl] at q4 ⊢;exact h _ _ _ q4
  | false=>rw [if_neg (by decide)] at q4 ⊢;exact q4
theorem b5Z {K:qC} {J:It} {H0 G₀ G H:Hp} {σ:St} {Q:VK} (R:RepS K H0 G₀ G H σ ρ) (wk:Walk K J G (xs.map φ)) (hb:Weak (bS cap ρ) ρb) (hw:∀ x∈xs,Weak (ρx x) ρb) (hz:xs.length≤j5)
  (q:∀ D ys G' H',Grow G H G' H'→G' D=some (.lst ys)→H D=none→RepAll K G' ys ((xs.filter cnd).map f)→Q (.ref D) H'):uO J (gU K xs φ ρb ρx) (tU K xs ρx cnd) (eUF K xs ρx cnd f H G) (fU cap σ) H Q:=by
 refine ⟨fun D i m ys σ' H'=>m=xs.length - i∧i≤xs.length∧∃ G',RepS K H G G' H' σ' ρb∧G' D=none∧RepAll K G' ys (((xs.take i).filter cnd).map f),fun D hD=>⟨⟨xs.length,by simp,jR _,G,?_,R.sub.free hD,by simpa using RepAll.nil⟩,?_⟩⟩
 ·exact ((R.cap cap).more (.side R.sub hD)).weak hb
 ·rintro i m ys σ1 H1 ⟨rfl,hi,G1,R1,hG1,ra⟩ hD1
  obtain ⟨wgo,wstop⟩:=wk i G1 H1 R1.grow.gg R1.sub;by_cases hlt:i<xs.length
  ·have hx:xs[i]?=some xs[i]:=qK hlt
   have hm:xs[i]∈xs:=ja hlt;obtain ⟨go,yl⟩:=wgo (φ xs[i]) (by rw [qW,hx];rfl);have tk:(xs.take (i+1)).filter cnd=(xs.take i).filter cnd++(if cnd xs[i]=true then [xs[i]] else []):=by
    rw [vi,hx,List.filter_append];cases hcx:cnd xs[i]<;>simp [hcx]
   refine .inr ⟨go,fun x H2 y=>?_⟩;obtain ⟨G2,g2,rx⟩:=yl x H2 y;refine ⟨xs[i],hm,H,G,G2,R1.more g2,rx,fun σ3 R3=>⟨xs[i],hm,H,G,G2,R3,fun G4 H4 g4=>?_⟩⟩;have g14:=g2.trans g4;have hD4:H4 D=some (.lst ys):=g14.hh.lst hD1;have hG4:G4 D=none:=g14.new D hG1 (by rw [hD1];simp);dsimp only;by_cases hcx:cnd xs[i]=true
   ·rw [if_pos hcx]
    refine ⟨xs[i],hm,hcx,G4,R3.more g4,fun v G5 H5 g5 rv=>?_⟩;have hD5:H5 D=some (.lst ys):=g5.hh.lst hD4;have hG5:G5 D=none:=g5.new D hG4 (by rw [hD4];simp);have hlen:ys.length<j5:=by
     have h1:=ra.length;have h2:(((xs.take i).filter cnd).map f).length≤i:=by
      rw [qE];exact ql (vS _ _) (by rw [jZ];omega)
     omega
    refine ⟨hD5,hlen,xs.length - (i+1),by omega,rfl,hlt,G5,?_,hG5,?_⟩
    ·have R5:RepS K H G G5 H5 σ3 ρb:=((R3.more g4).more g5).weak (hw _ hm)
     -- the list at D has one item more;nothing else speaks of D
     have noOwn:∀ (j:Nat) (e:Ent),ρb[j]?=some e→a4Y e=false:=fun j e h2=>by
      rcases hb.at h2 with z' | z'
      ·rw [z'];rfl
      ·exact yA cap ρ j e z'
     have hHD:H D=none:=hD;refine ⟨⟨R5.grow.gg,R5.grow.hh.wr hHD hD5,fun b o e=>?_,R5.grow.new,R5.grow.nt⟩,R5.len,fun j o e h1 h2=>?_,Inj.free (fun j e h2=>noOwn j e h2),R5.tab.wr hD5⟩
     ·rw [aF (aS e hG5)];exact R5.sub b o e
     ·have E:=R5.ent j o e h1 h2
      cases e with
      | no=>trivial
      | val d=>exact E
      | exc c=>obtain ⟨b,C,z,g1,g2⟩:=E;exact ⟨b,C,z,g1,by rw [aF (fZ g2 hD5 (by unfold xcO;nofun))];exact g2⟩
      | lst es=>have:=noOwn j _ h2;cases this
      | nst dss=>have:=noOwn j _ h2;cases this
      | dct kvs=>have:=noOwn j _ h2;cases this
    ·rw [tk,if_pos hcx,jS]
     exact (ra.mono ((g14.trans g5).gg)).append (.cons rv .nil)
   ·rw [if_neg hcx]
    refine ⟨hD4,xs.length - (i+1),by omega,rfl,hlt,G4,(R3.more g4).weak (hw _ hm),hG4,?_⟩;rw [tk,if_neg hcx,ji];exact ra.mono g14.gg
  ·refine .inl ⟨wstop (by rw [qE];omega),?_⟩
   have hi':i=xs.length:=by omega
   subst hi';rw [wQ] at ra;have sD:bB G1 (upd G1 D (.lst ys)):=bD hG1;refine q D ys (upd G1 D (.lst ys)) H1 ⟨R1.grow.gg.trans sD,R1.grow.hh,fun b o e=>?_,fun b e n=>?_,fun n=>(R1.grow.nt n).upd (by nofun)⟩ aL hD (ra.mono sD)
   ·by_cases hbD:b=D
    ·subst hbD;rw [aL] at e;cases e;exact hD1
    ·rw [aF hbD] at e;exact R1.sub b o e
   ·rw [aF (fun z=>n (by rw [z];exact hD))]
    exact R1.grow.new b e n
theorem a1P {K:qC} {J:It} {H0 G₀ G H:Hp} {σ:St} {Q:VK} (R:RepS K H0 G₀ G H σ ρ) (wk:Walk K J G (xs.map φ)) (hb:Weak (bS cap ρ) ρb) (hw:∀ x∈xs,Weak (ρx x) ρb) (hz:xs.length≤j5)
  (q:∀ D ys G' H',Grow G H G' H'→G' D=some (.lst ys)→H D=none→RepAll K G' ys ((xs.filter cnd).map f)→Q (.ref D) H'):uO J (gU K xs φ ρb ρx) (tU K xs ρx cnd) (eU K xs ρx cnd f) (fU cap σ) H Q:=
 a9V (t:=b5Z R wk hb hw hz q) (fun σ H' Q' ⟨x,hx,hc,G',R',q'⟩=>⟨x,hx,hc,H,G,G',R',q'⟩) (fun v σ H' Q1 Q2 h ⟨x,hx,H1,G1,G2,R2,r2,q2⟩=>⟨x,hx,H1,G1,G2,R2,r2,fun σ3 R3=>h _ _ (q2 σ3 R3)⟩)
  fun σ H' Q1 Q2 h ⟨x,hx,H1,G1,G2,R2,q2⟩=>⟨x,hx,H1,G1,G2,R2,fun G4 H4 g4=>h _ _ (q2 G4 H4 g4)⟩
theorem a4n {K:qC} {J:It} {H0 G₀ G H:Hp} {σ:St} {Q:VK} (R:RepS K H0 G₀ G H σ ρ) (wk:Walk K J G (xs.map φ)) (hb:Weak (bS cap ρ) ρb) (hw:∀ x∈xs,Weak (ρx x) ρb) (hz:xs.length≤j5)
  (q:∀ v G' H',Grow G H G' H'→Rep K G' v (.list ((xs.filter cnd).map f))→Q v H'):uO J (gU K xs φ ρb ρx) (tU K xs ρx cnd) (eU K xs ρx cnd f) (fU cap σ) H Q:=
 a1P R wk hb hw hz fun D ys G' H' g h _ ra=>q _ G' H' g (.list (.of h) ra)
theorem b3x (hc:X.calm=true) (B:Blk X scope N' cap) (hi:PID X tg iter ρ (xs.map φ)) (hb:Weak (bS cap ρ) ρb) (hw:∀ x∈xs,Weak (ρx x) ρb) (hz:xs.length≤j5)
  (hg:∀ C s₃ H₃ fp x,x∈xs→PGD (bH X scope N' C s₃ H₃ fp) tg ρb (φ x) (ρx x))
  (ht:∀ C s₃ H₃ fp x,x∈xs→PTsD (bH X scope N' C s₃ H₃ fp) ifs (ρx x) (cnd x))
  (he:∀ C s₃ H₃ fp x,x∈xs→cnd x=true→PD (bH X scope N' C s₃ H₃ fp) elt (ρx x) (f x))
  (hs:∀ x,wj iter X.env x=pure x:=by intro _;rfl):PD X (.ListComp elt [⟨tg,iter,ifs,0⟩] scope pos) ρ (.list ((xs.filter cnd).map f)):=
 .of (a7c (g:=gU X.K xs φ ρb ρx) (tc:=tU X.K xs ρx cnd) (te:=eU X.K xs ρx cnd f) hc B hi.run (fun C s₃ H₃ fp pins s σ H v u Q I r ⟨x,hx,q⟩=>(hg C s₃ H₃ fp x hx).run pins s σ H v u Q I r q)
  (fun C s₃ H₃ fp pins s σ H Q I ⟨x,hx,q⟩=>(ht C s₃ H₃ fp x hx).run pins s σ H Q I q) (fun C s₃ H₃ fp pins s σ H Q I ⟨x,hx,hcx,H0,G₀,G,R,q⟩=>(he C s₃ H₃ fp x hx hcx).run H0 G₀ G pins s σ H Q I R q) hs)
  fun H0 G₀ G σ H Q R q=>⟨H0,G₀,G,R,fun J G' H' g wk=>a4n (R.more g) wk hb hw hz fun v G2 H2 g2 r2=>q v G2 H2 (g.trans g2) r2⟩
theorem b0C (i:Nat) {x:Str} {p:Pos} (hN:X.N.Nodup) (hc:X.calm=true) (B:Blk X scope N' cap) (hi:PID X tg iter ρ (xs.map φ)) (hb:Weak (bS cap ρ) ρb) (hw:∀ x∈xs,Weak (ρx x) ρb) (hz:xs.length≤j5)
  (hg:∀ C s₃ H₃ fp x,x∈xs→PGD (bH X scope N' C s₃ H₃ fp) tg ρb (φ x) (ρx x))
  (ht:∀ C s₃ H₃ fp x,x∈xs→PTsD (bH X scope N' C s₃ H₃ fp) ifs (ρx x) (cnd x))
  (he:∀ C s₃ H₃ fp x,x∈xs→cnd x=true→PD (bH X scope N' C s₃ H₃ fp) elt (ρx x) (f x))
  (hxi:X.N[i]?=some x:=by rfl) (hx:X.env.scope.names.lookup x=some .local:=by rfl)
  (hsw:wz (.ListComp elt [⟨tg,iter,ifs,0⟩] scope pos) (some (.Name x p)) spos.line X.env=pure true:=by rfl)
  (hs:∀ x,wj iter X.env x=pure x:=by intro _;rfl):PSD X (.Assign [.Name x p] (.ListComp elt [⟨tg,iter,ifs,0⟩] scope pos) spos) ρ (.nx (ρ.set i (.val (.list ((xs.filter cnd).map f))))):=
 .of (a3i (g:=gU X.K xs φ ρb ρx) (tc:=tU X.K xs ρx cnd) (te:=eU X.K xs ρx cnd f) hN hxi hx hc B hi.run (fun C s₃ H₃ fp pins s σ H v u Q I r ⟨x,hx,q⟩=>(hg C s₃ H₃ fp x hx).run pins s σ H v u Q I r q)
  (fun C s₃ H₃ fp pins s σ H Q I ⟨x,hx,q⟩=>(ht C s₃ H₃ fp x hx).run pins s σ H Q I q) (fun C s₃ H₃ fp pins s σ H Q I ⟨x,hx,hcx,H0,G₀,G,R,q⟩=>(he C s₃ H₃ fp x hx hcx).run H0 G₀ G pins s σ H Q I R q) hsw hs)
  fun H0 G₀ G σ H D R q=>⟨H0,G₀,G,R,fun J G' H' g wk=>a4n (R.more g) wk hb hw hz fun v G2 H2 g2 r2=>q G2 H2 _ (g.gg.trans g2.gg) (((R.more g).more g2).set r2)⟩
end
def hV (N:T0o) (ds:T0j):List Ent:=ds.map .val++zT (N.length - ds.length) .no
theorem fD {K:qC} {G H:Hp} {N:T0o} {vs:List V} {ds:T0j} (s:bB G H∧nB K G H) (r:RepAll K G vs ds):RepS K H G G H (start N vs) (hV N ds):=by
 have hl:=r.length;refine ⟨.refl s.1,by simp [start,hV,hl],fun i o e h1 h2=>?_,Inj.free (fun i e h2=>?_),s.2⟩
 ·unfold hV at h2
  unfold start at h1;by_cases hi:i<ds.length
  ·rw [jA (by simpa using hi),qW] at h2
   rw [jA (by simp;omega),qW] at h1;rw [qK hi] at h2;obtain ⟨v,ev,rv⟩:=r.get (qK hi);rw [ev] at h1;cases h1;cases h2;exact ⟨v,rfl,rv⟩
  ·rw [jV (by simpa using hi),kH] at h2
   split at h2
   ·cases h2;trivial
   ·cases h2
 ·unfold hV at h2
  by_cases hi:i<ds.length
  ·rw [jA (by simpa using hi),qW,qK hi] at h2
   cases h2;rfl
  ·rw [jV (by simpa using hi),kH] at h2
   split at h2
   ·cases h2;rfl
   ·cases h2
section
variable {P:Program} {w:World} {K:qC} {mg:T0d} {base:Heap}
abbrev fcx (P:Program) (w:World) (K:qC) (mg:T0d) (base:Heap) (N:T0o) (qual:Str) (scope:Scope) (f:Addr) (cd:Value) (A:Around) (outer:List Env) (s:Shared) (H:Hp) (E:XK):Cx:=(a0a CX0 P w K mg base N qual scope f cd A outer s H E).nox
end
section
variable {prog:Program} {w:World} {A:Around} {E:T0a} {s:Shared} {l:Addr} {us:T0k} {ns:T0q} {Q:T0a}
theorem tX (hi:ym us ns):∃ xs:Array (Int×Tok),us.toArray=intItems xs∧ns=xs.toList.map (·.1):=by
 obtain ⟨xs,e⟩:=hi.allInts.items;exact ⟨xs,e,by rw [←hi.numsOf,←nums_intItems,←e]⟩
theorem b3M (hh:A.handled=none) (hl:s.heap.IsList l us.toArray) (hi:ym us ns) (hne:ns≠[])
  (h:∀ h' M t tk,(∀ b o,s.heap.get? b=some o→h'.get? b=some o)→M∈ns→(∀ a,a∈ns→a≤M)→Q (.int M t) { s with heap:=h',toks:=tk }) :
  wpAny (model prog w) A (call (.builtin "max") [.ref l]) Q E s:=by
 obtain ⟨xs,e,hns⟩:=tX hi;have hpos:0<xs.size:=by
  cases hx:ns with
  | nil=>exact absurd hx hne
  | cons a r=>
   have:ns.length=xs.size:=by rw [hns];simp
   rw [←this,hx];simp
 rw [e] at hl;refine max_intList hh hl hpos fun v h' tk hv kp=>?_;obtain ⟨t,rfl⟩:=intItems_at hv;have best:=argBest_gt (numAt xs) (xs.size - 1);refine h h' _ t tk kp ?_ fun a ha=>?_
 ·rw [hns,QM]
  exact getD_mem (by rw [qE,qN];have:=best.1;omega)
 ·rw [hns] at ha
  obtain ⟨j,hj,rfl⟩:=mem_getD ha;rw [qE,qN] at hj;rw [←QM];exact best.2 j (by omega)
theorem b3S (hh:A.handled=none) (hl:s.heap.IsList l us.toArray) (hi:ym us ns) (hne:ns≠[])
  (h:∀ h' M t tk,(∀ b o,s.heap.get? b=some o→h'.get? b=some o)→M∈ns→(∀ a,a∈ns→M≤a)→Q (.int M t) { s with heap:=h',toks:=tk }) :
  wpAny (model prog w) A (call (.builtin "min") [.ref l]) Q E s:=by
 obtain ⟨xs,e,hns⟩:=tX hi;have hpos:0<xs.size:=by
  cases hx:ns with
  | nil=>exact absurd hx hne
  | cons a r=>
   have:ns.length=xs.size:=by rw [hns];simp
   rw [←this,hx];simp
 rw [e] at hl;refine min_intList hh hl hpos fun v h' tk hv kp=>?_;obtain ⟨t,rfl⟩:=intItems_at hv;have best:=argBest_lt (numAt xs) (xs.size - 1);refine h h' _ t tk kp ?_ fun a ha=>?_
 ·rw [hns,QM]
  exact getD_mem (by rw [qE,qN];have:=best.1;omega)
 ·rw [hns] at ha
  obtain ⟨j,hj,rfl⟩:=mem_getD ha;rw [qE,qN] at hj;rw [←QM];exact best.2 j (by omega)
theorem b2Y (hh:A.handled=none) (hl:s.heap.IsList l us.toArray) (hi:ym us ns)
  (h:∀ h' t tk,(∀ b o,s.heap.get? b=some o→h'.get? b=some o)→Q (.int ns.sum t) { s with heap:=h',toks:=tk }) :
  wpAny (model prog w) A (call (.builtin "sum") [.ref l]) Q E s:=by
 obtain ⟨xs,e,hns⟩:=tX hi;rw [e] at hl;refine sum_intListG hh hl fun h' tk t' kp=>?_;have z:=h h' t' tk kp;rw [hns] at z;rw [preSum_eq,kM (by simp)];exact z
end
section
variable {X:Cx}
theorem a9l (hc:X.calm=true):eJ X (.builtin "max") (fun xs H Q=>∃ p ns,xs=[.ref p]∧SqL X.K H p (ns.map V.int)∧ns≠[]∧∀ M,M∈ns→(∀ a,a∈ns→a≤M)→Q (.int M) H):=by
 intro pins s σ H xs us Q I r ⟨p,ns,e,hq,hne,q⟩;subst e;obtain ⟨u,rfl,rx⟩:=vals1 r;cases rx;obtain ⟨its,rv,pl,hz⟩:=I.list hq;exact b3M (I.ok.hd hc) pl.isList (intsAre_of rv) hne fun h' M t tk kp m1 m2=>⟨.int M,H,I.kept kp,⟨t,rfl⟩,q M m1 m2⟩
theorem a9j (hc:X.calm=true):eJ X (.builtin "min") (fun xs H Q=>∃ p ns,xs=[.ref p]∧SqL X.K H p (ns.map V.int)∧ns≠[]∧∀ M,M∈ns→(∀ a,a∈ns→M≤a)→Q (.int M) H):=by
 intro pins s σ H xs us Q I r ⟨p,ns,e,hq,hne,q⟩;subst e;obtain ⟨u,rfl,rx⟩:=vals1 r;cases rx;obtain ⟨its,rv,pl,hz⟩:=I.list hq;exact b3S (I.ok.hd hc) pl.isList (intsAre_of rv) hne fun h' M t tk kp m1 m2=>⟨.int M,H,I.kept kp,⟨t,rfl⟩,q M m1 m2⟩
theorem a9i (hc:X.calm=true):eJ X (.builtin "sum") (fun xs H Q=>∃ (p:Addr) (ns:T0q),xs=[.ref p]∧SqL X.K H p (ns.map V.int)∧Q (.int ns.sum) H):=by
 intro pins s σ H xs us Q I r ⟨p,ns,e,hq,q⟩;subst e;obtain ⟨u,rfl,rx⟩:=vals1 r;cases rx;obtain ⟨its,rv,pl,hz⟩:=I.list hq;exact b2Y (I.ok.hd hc) pl.isList (intsAre_of rv) fun h' t tk kp=>⟨.int ns.sum,H,I.kept kp,⟨t,rfl⟩,q⟩
variable {e a b c:Expr} {es:T0l} {ρ:List Ent} {d:j0} {ds:T0j} {pos p:Pos}
def sL:List Int→Int
 | []=>0
 | a::r=>r.foldl max a
def b6W:List Int→Int
 | []=>0
 | a::r=>r.foldl min a
theorem iM:∀ (r:T0q) (a:Int),a≤r.foldl max a∧∀ b∈r,b≤r.foldl max a
 | [],a=>⟨jj _,fun _ h=>by cases h⟩
 | x::r,a=>by
  have ih:=iM r (max a x);rw [jx];refine ⟨by have:=ih.1;omega,fun b hb=>?_⟩;rcases qF.mp hb with rfl | hb
  ·have:=ih.1;omega
  ·exact ih.2 b hb
theorem mO:∀ (r:T0q) (a:Int),r.foldl max a=a∨r.foldl max a∈r
 | [],a=>.inl rfl
 | x::r,a=>by
  rw [jx];rcases mO r (max a x) with h | h
  ·by_cases hx:a≤x
   ·right;rw [h];simp [Int.max_def,hx]
   ·left;rw [h];simp [Int.max_def,hx]
  ·exact .inr (qD _ h)
theorem a7k {ns:T0q} {M:Int} (h1:M∈ns) (h2:∀ a,a∈ns→a≤M):M=sL ns:=by
 cases ns with
 | nil=>cases h1
 | cons a r=>
  show M=r.foldl max a;have g:=iM r a;have m:=mO r a;apply vV
  ·rcases qF.mp h1 with rfl | h1
   ·exact g.1
   ·exact g.2 M h1
  ·rcases m with m | m
   ·rw [m];exact h2 a qS
   ·exact h2 _ (qD _ m)
theorem uA:∀ (r:T0q) (a:Int),r.foldl min a≤a∧∀ b∈r,r.foldl min a≤b
 | [],a=>⟨jj _,fun _ h=>by cases h⟩
 | x::r,a=>by
  have ih:=uA r (min a x);rw [jx];refine ⟨by have:=ih.1;omega,fun b hb=>?_⟩;rcases qF.mp hb with rfl | hb
  ·have:=ih.1;omega
  ·exact ih.2 b hb
theorem rR:∀ (r:T0q) (a:Int),r.foldl min a=a∨r.foldl min a∈r
 | [],a=>.inl rfl
 | x::r,a=>by
  rw [jx];rcases rR r (min a x) with h | h
  ·by_cases hx:a≤x
   ·left;rw [h];simp [Int.min_def,hx]
   ·right;rw [h];simp [Int.min_def,hx]
  ·exact .inr (qD _ h)
theorem b3V {ns:T0q} {M:Int} (h1:M∈ns) (h2:∀ a,a∈ns→M≤a):M=b6W ns:=by
 cases ns with
 | nil=>cases h1
 | cons a r=>
  show M=r.foldl min a;have g:=uA r a;have m:=rR r a;apply vV
  ·rcases m with m | m
   ·rw [m];exact h2 a qS
   ·exact h2 _ (qD _ m)
  ·rcases qF.mp h1 with rfl | h1
   ·exact g.1
   ·exact g.2 M h1
theorem tQ {ns:T0q} (h:ns≠[]):sL ns∈ns:=by
 cases ns with
 | nil=>exact absurd rfl h
 | cons a r=>
  rcases mO r a with m | m
  ·show r.foldl max a∈_;rw [m];exact qS
  ·exact qD _ m
theorem tR {ns:T0q} {a:Int} (h:a∈ns):a≤sL ns:=by
 cases ns with
 | nil=>cases h
 | cons b r=>
  rcases qF.mp h with rfl | h
  ·exact (iM r a).1
  ·exact (iM r b).2 a h
def b8I (K:qC):R2:=fun x y H Q=>∃ l b xs zs,x=.ref l∧y=.ref b∧SqL K H l xs∧SqL K H b zs∧xs.length+zs.length≤j5∧∀ p,H p=none→Q (.ref p) (upd H p (.lst (xs++zs)))
end
def b5I (so:Scope) (NN:T0o) (scope:Scope) (N':T0o) (cap:T0e):Bool:=
 decide (scope.kind=.function)&&scope.names.all (fun y=>decide (y.2=.cell→scope.names.lookup y.1=some .cell))&&scope.names.all (fun y=>decide (y.2=.local→scope.names.lookup y.1=some .local))
  && scope.names.all (fun y=>decide (y.2=.free→so.names.lookup y.1=some .cell))
  && (qi cap.length).all (fun i=>match cap[i]? with
   | some (some j)=>(match N'[i]?,NN[j]? with | some x,some y=>decide (x=y∧scope.names.lookup x=some .free) | _,_=>false)
   | _=>true)
  && decide (cap.length=N'.length)&&decide N'.Nodup
theorem cI {X:Cx} {scope so:Scope} {N' NN:T0o} {cap:T0e} (hs:X.env.scope=so) (hN:X.N=NN) (h:b5I so NN scope N' cap=true):Blk X scope N' cap:=by
 unfold b5I at h;simp only [qM,decide_eq_true_eq,qk] at h;obtain ⟨⟨⟨⟨⟨⟨h1,h2⟩,h3⟩,h4⟩,h5⟩,h6⟩,h7⟩:=h;refine ⟨h1,h2,h3,fun y hy hk=>?_,fun i j hij=>?_,h6,h7⟩
 ·show X.env.scope.names.lookup y.1=some .cell
  rw [hs];exact h4 y hy hk
 ·have hi:i<cap.length:=(qY.mp hij).1
  have q:=h5 i (kr.mpr hi);rw [hij] at q;dsimp only at q;cases e1:N'[i]? with
  | none=>rw [e1] at q;cases q
  | some x=>
   rw [e1] at q;cases e2:NN[j]? with
   | none=>rw [e2] at q;cases q
   | some y=>
    rw [e2] at q;have q':x=y∧scope.names.lookup x=some .free:=of_decide_eq_true q;exact ⟨x,rfl,by rw [hN,e2,q'.1],q'.2⟩
section
variable {X:Cx} {e a b c:Expr} {es:T0l} {ρ:List Ent} {d da db dc:j0} {ds:T0j} {pos p:Pos}
end
abbrev Mt:=Str×Int×Int
abbrev dM (m:Mt):j0:=.tuple [.str m.1,.int m.2.1,.int m.2.2]
abbrev dS (s:List Mt):j0:=.tuple (s.map dM)
section
variable {prog:Program} {w:World} {A:Around} {R:Result→Shared→Prop} {I S:Addr} {fp wr:T0m} {n:Nat} {P:Nat→Value→Prop} {St:Nat→Heap→Prop} {kw:List (Str×Value)}
abbrev a7T (its:Array Value) (c:Nat):Obj:={ cls:=.type "list", dict:=none,data:=.seq its c,slots:=#[] }
theorem b1f (W:Walks prog w A.in1 I fp wr n P St) (bt:Nat→Nat→Bool) (hc:CmpOf prog w A.in1 .Gt P bt) (hS:S∉fp) :
  ∀ (k j:Nat) (s:Shared) (vb:Value) (c:Nat),n=j+1+k→St (j+1) s.heap→P (QO bt j) vb→s.heap.get? S=some (a7T #[vb,vb] c) →
   (∀ v h' tk,P (QO bt (n - 1)) v→(∀ b o,b∉wr→b≠S→s.heap.get? b=some o→h'.get? b=some o)→R (.ok (.ret v)) { s with heap:=h',toks:=tk }) →
   wx (model prog w) A (.builtin "max.loop" ⟨[.ref I,.none,.ref S],kw⟩) R s:=by
 have nS:S∉wr:=fun z=>hS (W.sub _ z);have nm:(toString "max" ++ toString ".loop" : String) = "max.loop":=by decide
 intro k
 induction k with
 | zero=>
  intro j s vb c en st pb eS fin;have en':j+1=n:=by omega
  apply we F.entry_max_loop;rw [qx kW _];show wpAny _ A.in1 (y6 (.ref S)>>=_) _ _ s;apply q8;apply wg eS rfl;show wpAny _ A.in1 (tryCatch (yi (.ref I)) _>>=_) _ _ s;apply q8;apply ub;refine W.done s _ _ (en'▸st) fun h' tk kp=>?_;have eS':=kp S _ nS eS;show wpAny _ A.in1 (updateSeq S (fun _=>#[])>>=_) _ _ _;apply q8;refine yz eS' rfl (q8 (yt (j3 ?_)));exact fin vb _ tk (by rw [←en'];exact pb) fun b o hb hbS e=>(qX _ _ (jm hbS)).trans (kp b o hb e)
 | succ k ih=>
  intro j s vb c en st pb eS fin;have jn:j+1<n:=by omega
  apply we F.entry_max_loop;rw [qx kW _];show wpAny _ A.in1 (y6 (.ref S)>>=_) _ _ s;apply q8;apply wg eS rfl;show wpAny _ A.in1 (tryCatch (yi (.ref I)) _>>=_) _ _ s;apply q8;apply ub;refine W.item (j+1) s _ _ jn st fun v h' tk pv st' kp=>?_;have eS':=kp S _ nS eS;show wpAny _ A.in1 (tryCatch (holding [v,v] (richCompare .Gt v vb>>=_)) _>>=_) _ _ _;apply q8;apply ub;apply j9;apply q8;refine hc (j+1) (QO bt j) v vb _ _ _ pv pb ?_;apply q8;apply j9;apply wl;refine q8 (yt (j3 ?_));cases hb:bt (j+1) (QO bt j) with
  | true=>
   simp only [if_true];apply q8;refine yz eS' rfl (q8 (yt ?_));rw [nm]
   refine j3 ⟨wt kW _,ih (j+1) _ v _ (by omega) (W.frame _ _ _ st' fun b hbf o e=>(qX _ _ (fun z:S=b=>hS (by rw [z];exact hbf))).trans e)
    (by simp only [QO,hb,if_true];exact pv) (jG _ eS' rfl) fun v' h'' tk'' pv' kp'=>?_⟩
   exact fin v' h'' tk'' pv' fun b o hbw hbS e=>kp' b o hbw hbS ((qX _ _ (jm hbS)).trans (kp b o hbw e))
  | false=>
   simp only [jX,if_false];apply q8;apply yt;rw [nm];refine j3 ⟨wt kW _,ih (j+1) _ vb c (by omega) st' (by simp only [QO,hb,jX,if_false];exact pb) eS' fun v' h'' tk'' pv' kp'=>?_⟩;exact fin v' h'' tk'' pv' fun b o hbw hbS e=>kp' b o hbw hbS (kp b o hbw e)
theorem a8B (W:Walks prog w A.in1 I fp wr n P St) (bt:Nat→Nat→Bool) (hc:CmpOf prog w A.in1 .Gt P bt) (hS:S∉fp) (dv:Value) (dn:Str) {s:Shared} {c:Nat} (st:St 0 s.heap) (eS:s.heap.get? S=some (a7T #[] c))
  (fin:∀ v h' tk,(∀ b o,b∉wr→b≠S→s.heap.get? b=some o→h'.get? b=some o)→(0<n→P (QO bt (n - 1)) v)→(n=0→v=dv)→R (.ok (.ret v)) { s with heap:=h',toks:=tk }) :
  wx (model prog w) A (.builtin "max.loop" ⟨[.ref I,.none,.ref S],[(dn,dv)]⟩) R s:=by
 have nS:S∉wr:=fun z=>hS (W.sub _ z);have nm:(toString "max" ++ toString ".loop" : String) = "max.loop":=by decide
 apply we F.entry_max_loop;rw [qx kW _];show wpAny _ A.in1 (y6 (.ref S)>>=_) _ _ s;apply q8;apply wg eS rfl;show wpAny _ A.in1 (tryCatch (yi (.ref I)) _>>=_) _ _ s;apply q8;apply ub;by_cases hn:n=0
 ·refine W.done s _ _ (by rw [hn];exact st) fun h' tk kp=>?_
  show wpAny _ A.in1 (rule _>>=_) _ _ _;exact q8 (ww (j3 (fin dv h' tk (fun b o hb _ e=>kp b o hb e) (fun z=>by omega) fun _=>rfl)))
 ·refine W.item 0 s _ _ (by omega) st fun v h' tk pv st' kp=>?_
  have eS':=kp S _ nS eS;show wpAny _ A.in1 (updateSeq S (fun _=>#[v,v])>>=_) _ _ _;apply q8;refine yz eS' rfl ?_;rw [nm]
  refine j3 ⟨wt kW _,b1f W bt hc hS (n - 1) 0 _ v _ (by omega) (W.frame _ _ _ st' fun b hbf o e=>(qX _ _ (fun z:S=b=>hS (by rw [z];exact hbf))).trans e) pv
   (jG _ eS' rfl) fun v' h'' tk'' pv' kp'=>?_⟩
  exact fin v' h'' tk'' (fun b o hbw hbS e=>kp' b o hbw hbS ((qX _ _ (jm hbS)).trans (kp b o hbw e))) (fun _=>pv') fun z=>absurd z hn
end
section
variable {prog:Program} {w:World} {A:Around} {E:T0a} {s:Shared} {l:Addr} {us:T0k} {ns:T0q} {Q:T0a}
theorem a9x (a v:Value):argsOk "max" ⟨[a],[(jF "default", v)]⟩:=by unfold argsOk;kernel_rfl
theorem a9v (dv:Value):Builtin.Builtins.bindParams "max" ["key", "default"] 0 ⟨[],[(jF "default", dv)]⟩=pure [none,some dv]:=by kernel_rfl
theorem b3N (hh:A.handled=none) (hl:s.heap.IsList l us.toArray) (hi:ym us ns) (dv:Value)
  (h:∀ h' v tk,(∀ b o,s.heap.get? b=some o→h'.get? b=some o)→(ns=[]→v=dv)→(ns≠[]→∃ t,v=.int (sL ns) t)→Q v { s with heap:=h',toks:=tk }) :
  wpAny (model prog w) A (call (.builtin "max") [.ref l] [(jF "default", dv)]) Q E s:=by
 have nm:(toString "max" ++ toString ".loop" : String) = "max.loop":=by decide
 obtain ⟨xs,e,hns⟩:=tX hi;rw [e] at hl;refine PyProof.Rows.kmk_tree F.kind_max F.plain_max F.entry_max (a9x _ _) ?_;show wpAny _ A.in1 (Builtin.Builtins.bindParams "max" ["key", "default"] 0 ⟨[],[(jF "default", dv)]⟩>>=_) _ _ s;refine q8 (y7 (a9v dv) ?_);refine q8 (j3 ?_);refine q8 (iter_intList hl fun s₂ e2 st hfp hlI=>?_);subst e2;refine q8 (j7 ?_);rw [nm];have W:=Walks.list (prog:=prog) (w:=w) (A:=A.in1) hh s.heap.objs.size l hlI (intItems xs);refine j3 ⟨wt kW _,a8B W _ (CmpOf.ints_gt (numAt xs) (fun _ _=>intItems_at)) (fun hm=>jN _ (hfp _ hm)) dv _ (W.frame _ _ _ st fun b _ o e=>qB _ e) (qJ _ rfl) fun v h' tk kp h1 h2=>?_⟩;have sz:(intItems xs).size=xs.size:=by simp [intItems]
 have len:ns.length=xs.size:=by rw [hns];simp
 refine h h' v tk (fun b o e=>?_) (fun z=>h2 ?_) fun z=>?_
 ·have lt:=qG e
  refine kp b o ?_ ?_ (qB _ (qB _ e))
  ·intro hb
   have z:b=s.heap.objs.size:=by simpa using hb
   exact absurd lt (by rw [z];exact jN _)
  ·intro hb
   rw [hb] at lt;exact absurd lt (vK (by rw [jB];exact jw _))
 ·rw [sz,←len,z];rfl
 ·have pos:0<xs.size:=by
   rw [←len];cases ns with
   | nil=>exact absurd rfl z
   | cons a r=>simp
  have pv:=h1 (by rw [sz];exact pos);obtain ⟨t,rfl⟩:=intItems_at pv;refine ⟨t,?_⟩;rw [sz];have best:=argBest_gt (numAt xs) (xs.size - 1);congr 1;refine a7k ?_ fun a ha=>?_
  ·rw [hns,QM]
   exact getD_mem (by rw [qE,qN];have:=best.1;omega)
  ·rw [hns] at ha
   obtain ⟨j,hj,rfl⟩:=mem_getD ha;rw [qE,qN] at hj;rw [←QM];exact best.2 j (by omega)
end
section
variable {X:Cx} {a b:Expr} {ρ:List Ent} {db:j0} {pos p kp:Pos}
theorem a7e {ns:T0q} (hc:X.calm=true) (hm:X.mg "max" = none) (ha:PD X a ρ (.list (ns.map .int))) (hb:PD X b ρ db) (he:j4 [a] X.env=(false,eval a X.env)::j4 [] X.env:=by rfl)
  (he':k9 pos (j4 [a] X.env)=(false,eval a X.env)::k9 pos (j4 [] X.env):=by rfl) (hpl:(k9 pos (j4 [a] X.env)).any (·.1)=false:=by rfl)
  (hk1:(yo pos (wu [⟨some "default", b,kp⟩] X.env)).filterMap (·.1)=[jF "default"]:=by rfl) (hg:Gl X "max":=by rfl) :
  PD X (.Call (.Name "max" p) [a] [⟨some "default", b,kp⟩] pos) ρ (if ns=[] then db else .int (sL ns)):=by
 refine ⟨?_⟩;intro H0 G₀ G pins s σ H Q I R q;refine v0 (mM I hg hm boot_max ?_ (by decide) (by decide));refine callWith_kw (thn ((eN ha lR he).run H0 G₀ G pos pins s σ H (fun vs H'=>∃ G',Grow G H G' H'∧RepAll X.K G' vs [.list (ns.map .int)]) I R fun vs G' H' g r=>⟨G',g,r⟩) fun us s1 ⟨vs,H1,I1,r1,G1,g1,w1⟩=>?_) he' hpl;refine thn (b3p (nm:=some "default") (kpos:=kp) hb.pe b6q pos pins s1 σ H1 (fun zs H'=>∃ G',Grow G1 H1 G' H'∧RepAll X.K G' zs [db]) I1 ⟨H0,G₀,G1,R.more g1,fun v G' H' g r=>⟨G',g,.cons r .nil⟩⟩) fun ws s2 ⟨zs,H2,I2,r2,G2,g2,w2⟩=>?_;rw [hk1];cases w1 with
 | cons wa wn=>
  cases wn;cases wa with
  | list hq ra=>
   have e:=ra.ints;subst e;obtain ⟨u,rfl,ru⟩:=vals1 r1;cases ru;cases w2 with
   | cons wb wn=>
    cases wn;obtain ⟨dv,rfl,rd⟩:=vals1 r2;obtain ⟨its,rv,pl,hz⟩:=I2.list ((g2.gg.trans g2.sub).seq hq);refine b3N (I2.ok.hd hc) pl.isList (intsAre_of rv) dv fun h' v tk kp' h1 h2=>?_;by_cases hn:ns=[]
    ·rw [h1 hn,if_pos hn] at *
     exact ⟨_,H2,I2.kept kp',rd,q _ G2 H2 (g1.trans g2) wb⟩
    ·obtain ⟨t,rfl⟩:=h2 hn
     rw [if_neg hn] at q;exact ⟨.int _,H2,I2.kept kp',⟨t,rfl⟩,q _ G2 H2 (g1.trans g2) (.int _)⟩
end
section
variable {X:Cx}
theorem a7f:OpR X (yg .Add) (b8I X.K):=by
 intro pins s σ H x y v u Q I rx ry ⟨l,b,xs,zs,e1,e2,h1,h2,hz,q⟩;subst e1 e2;cases rx;cases ry;obtain ⟨its,r1,p1,_⟩:=I.list h1;obtain ⟨its2,r2,p2,_⟩:=I.list h2;obtain ⟨⟨c1,d1,t1,sl1⟩,n1,g1,k1,_,m1⟩:=p1;obtain ⟨⟨c2,d2,t2,sl2⟩,n2,g2,k2,_,m2⟩:=p2;dsimp only at k1 m1 k2 m2;subst k1 m1 k2 m2;have hz':its.toArray.size+its2.toArray.size≤j5:=by rw [qI,qI,←r1.length,←r2.length];exact hz
 refine QF ⟨_,g1,rfl⟩ ⟨_,g2,rfl⟩ noFill_list_add seq_list_add F.slot_list_add F.entry_list_add (F.args_list_add_2 _ _) (list_addW l b _ _ n1 n2 d1 d2 sl1 sl2 hz') ⟨g1,g2,?_⟩;have ea:its.toArray++its2.toArray=(its++its2).toArray:=by simp
 rw [ea];exact ⟨.ref _,_,I.lnew (t':=s.toks) (r1.append r2) (by rw [qh];exact hz),rfl,q _ I.fresh⟩
def b8G (K:qC):R2:=fun x y H Q=>∃ l b xs zs,x=.ref l∧y=.ref b∧SqT K H l xs∧SqT K H b zs∧xs.length+zs.length≤j5 ∧
 (xs=[]→Q (.ref b) H)∧(xs≠[]→zs=[]→Q (.ref l) H)∧(xs≠[]→zs≠[]→∀ p,H p=none→Q (.ref p) (upd H p (.tup (xs++zs))))
theorem b3C:OpR X (yg .Add) (b8G X.K):=by
 intro pins s σ H x y v u Q I rx ry ⟨l,b,xs,zs,e1,e2,h1,h2,hz,q0,q1,q2⟩;by_cases hx:xs=[]
 ·subst e1 e2
  cases rx;cases ry;obtain ⟨its,r1,p1,_⟩:=I.tuple h1;obtain ⟨its2,r2,p2,_⟩:=I.tuple h2;obtain ⟨⟨c1,d1,t1,sl1⟩,g1,k1,n1,m1⟩:=p1;obtain ⟨⟨c2,d2,t2,sl2⟩,g2,k2,n2,m2⟩:=p2;dsimp only at k1 m1 k2 m2;subst k1 m1 k2 m2;have hi:its=[]:=by
   subst hx;cases r1;rfl
  refine QF ⟨_,g1,rfl⟩ ⟨_,g2,rfl⟩ QA seq_tuple_add F.slot_tuple_add F.entry_tuple_add (F.args_tuple_add_2 _ _) (tuple_addW0 l b _ _ n1 n2 d1 d2 sl1 sl2 (by rw [hi];rfl)) ⟨g1,g2,?_⟩;exact ⟨.ref b,H,I,rfl,q0 hx⟩
 ·exact b3D pins s σ H x y v u Q I rx ry ⟨l,b,xs,zs,e1,e2,h1,h2,hx,hz,q1 hx,q2 hx⟩
variable {e a b c o:Expr} {es:T0l} {ρ:List Ent} {d da db dc:j0} {ds:T0j} {pos p:Pos}
theorem b0Q {T id:String} {name:Str} {r:V→List V→Hp→VK→Prop} {apos cpos:Pos} (pa:PlainAttrs T) (slot:Slot T name id) (hty:typeOf (.builtin id)=pure (.type "method_descriptor")) (hm:MtR X id r)
  (ho:PD X o ρ da) (ha:PAD X (e::es) ρ ds) (ht:∀ x G H,bB G H→Rep X.K G x da→tyV X.K T x H)
  (k:∀ x vs G H Q,bB G H→Rep X.K G x da→RepAll X.K G vs ds→(∀ v G' H',Grow G H G' H'→Rep X.K G' v d→Q v H')→r x vs H Q)
  (hbase:ye o name X.env (eval o X.env)=eval o X.env:=by rfl)
  (hfew:((k9 cpos (j4 (e::es) X.env)).all (fun x=>!x.1)&&(yo cpos (wu [] X.env)).all (fun x=>x.1.isSome)
   && decide ((e::es).length+([]:List Keyword).length+(if ([]:List Keyword).isEmpty then 0 else 1)<30))=true:=by rfl)
  (hline:(apos.endLine==cpos.line)=true:=by rfl) (hs:j4 (e::es) X.env=(false,eval e X.env)::j4 es X.env:=by rfl) (hplain:(k9 cpos (j4 es X.env)).any (·.1)=false:=by rfl) :
  PD X (.Call (.Attribute o name apos) (e::es) [] cpos) ρ d:=
 .of (a4z pa slot hty hm ho.pe ha.pa hbase hfew hline hs hplain) fun H0 G₀ G σ H Q R q=>⟨H0,G₀,G,R,fun x G1 H1 g1 r1=>⟨ht x G1 H1 g1.sub r1,H0,G₀,G1,R.more g1,fun vs G2 H2 g2 r2=>
  k x vs G2 H2 Q g2.sub (r1.mono g2.gg) r2 fun v G3 H3 g3 r3=>q v G3 H3 (g1.trans (g2.trans g3)) r3⟩⟩
theorem b4R {i j:Int}:CmpD X .Eq (.int i) (.int j) (decide (i=j)):=⟨_,b0U,fun x y G H Q _ rx ry q=>by cases rx;cases ry;exact ⟨rfl,by simpa using q⟩⟩
theorem b4N {i j:Int}:CmpD X .NotEq (.int i) (.int j) (!decide (i=j)):=⟨_,b0T,fun x y G H Q _ rx ry q=>by cases rx;cases ry;exact ⟨rfl,by simpa using q⟩⟩
theorem b4Q {i j:Str}:CmpD X .Eq (.str i) (.str j) (decide (i=j)):=⟨_,b0U,fun x y G H Q _ rx ry q=>by cases rx;cases ry;exact ⟨rfl,by simpa using q⟩⟩
theorem b4M {i j:Str}:CmpD X .NotEq (.str i) (.str j) (!decide (i=j)):=⟨_,b0T,fun x y G H Q _ rx ry q=>by cases rx;cases ry;exact ⟨rfl,by simpa using q⟩⟩
theorem b4S {i j:Bool}:CmpD X .Eq (.bool i) (.bool j) (decide (i=j)):=⟨_,b0U,fun x y G H Q _ rx ry q=>by cases rx;cases ry;exact ⟨rfl,by simpa using q⟩⟩
theorem b4O {i j:Bool}:CmpD X .NotEq (.bool i) (.bool j) (!decide (i=j)):=⟨_,b0T,fun x y G H Q _ rx ry q=>by cases rx;cases ry;exact ⟨rfl,by simpa using q⟩⟩
end
structure Callee (P:Program) (w:World) (K:qC) (mg:T0d) (base:Heap) (x:Str) (k:Nat) (ps:T0o) (Fn:List j0→j0→Prop):Prop where
 ex:∃ f fd,mg x=some (.ref f)∧kB K (.ref f)=true∧Binds K fd ps []∧FnOk P w K mg base CX0 k f fd ps (spD K Fn)
structure Def (K:qC) (mg:T0d) (x:Str) (st:Stmt):Prop where
 ex:∃ f fd,Fun K x x st f fd∧mg x=some (.ref f)
theorem def_mk {K:qC} {h:Heap} {mg:T0d} {x:Str} {st:Stmt} {f:Addr} {oc:Value} {od an:T0i} {sl:Array (Option Value)} {kV doc pm cdv ct:Value} (X:K.In h) (G:h.Ns j6 mg)
  (a:jL K j6 x=some (some (.ref f))) (l:K.lookup f=some ⟨oc,od,.func (jk x x (eY st) (bL st) (aD st) .none kV doc pm an cdv ct),sl⟩) (c:vA K cdv x=true) (k:kB K (.ref f)=true) :
  Def K mg x st:=⟨f,_,b1K l c k,zi X G a⟩
section
variable {P:Program} {w:World} {K:qC} {mg:T0d} {base:Heap} {X:Cx} {e:Expr} {es:T0l} {ρ:List Ent} {d:j0} {ds:T0j} {pos p:Pos} {x:Str} {k:Nat} {ps N:T0o} {Fn:List j0→j0→Prop}
end
theorem a1o (a b:T0j):jI (.list a) (.list b)=qt a b:=by rw [jI]
theorem a9b (a b:T0j):jI (.tuple a) (.tuple b)=qt a b:=by rw [jI]
theorem pL:∀ a b:List Str,qt (a.map .str) (b.map .str)=decide (a=b)
 | [],[]=>by simp [qt]
 | [],_::_=>by simp [qt]
 | _::_,[]=>by simp [qt]
 | x::a,y::b=>by
  have ih:=pL a b;simp only [qU,qt,ih,jI];by_cases h:x=y
  ·subst h;by_cases h2:a=b<;>simp [h2]
  ·simp [h]
theorem b7A (a b:Mt):jI (dM a) (dM b)=decide (a=b):=by
 obtain ⟨a1,a2,a3⟩:=a;obtain ⟨b1,b2,b3⟩:=b;simp only [dM,jI,qt];by_cases h1:a1=b1<;>by_cases h2:a2=b2<;>by_cases h3:a3=b3<;>simp [h1,h2,h3]
theorem a2C:∀ a b:List Mt,qt (a.map dM) (b.map dM)=decide (a=b)
 | [],[]=>by simp [qt]
 | [],_::_=>by simp [qt]
 | _::_,[]=>by simp [qt]
 | x::a,y::b=>by
  have ih:=a2C a b;rw [qU,qU,qt,ih,b7A];by_cases h:x=y
  ·subst h;by_cases h2:a=b<;>simp [h2]
  ·simp [h]
theorem uH {ds:T0j} (h:∀ d∈ds,jv d=true):vQ ds=true:=by
 induction ds with
 | nil=>rfl
 | cons d r ih=>
  rw [vQ,h d qS,ih fun e he=>h e (qD _ he)];rfl
theorem lY {ds:T0j} {n:Nat} (h:∀ d∈ds,jf d≤n):kq ds≤n:=by
 induction ds with
 | nil=>simp [kq]
 | cons d r ih=>
  have h1:=h d qS;have h2:=ih fun e he=>h e (qD _ he);simp only [kq];omega
theorem a1V {d:j0} {n:Nat} (h1:jv d=true) (h2:jf d≤n) (h3:n≤64):qV d=true:=by
 unfold qV;rw [h1,Bool.true_and];exact decide_eq_true (ql h2 h3)
section
variable {X:Cx} {e a b c o:Expr} {es:T0l} {ρ:List Ent} {d da db dc:j0} {ds:T0j} {pos p p2:Pos}
def cutD (xs:T0j) (lo hi:Option Int):List j0:=(xs.drop (HT.sIx xs.length 0 lo)).take (HT.sIx xs.length xs.length hi - HT.sIx xs.length 0 lo)
theorem a5s {K:qC} {G:Hp} {xs:List V} (r:RepAll K G xs ds) (lo hi:Option Int):RepAll K G (a5r xs lo hi) (cutD ds lo hi):=by
 unfold a5r cutD;rw [r.length];exact (r.drop _).take _
theorem b1y {ns:T0q} {i:Int}:inV (.int i) (ns.map V.int)=decide (i∈ns):=by
 unfold inV
 induction ns with
 | nil=>rfl
 | cons a r ih=>
  rw [qU,zm,ih];have e:eqV (.int a) (.int i)=decide (a=i):=rfl;rw [e];by_cases h:a=i
  ·subst h;simp
  ·have h':¬i=a:=fun z=>h z.symm
   simp [h,h']
theorem b1x {ns:T0o} {i:Str}:inV (.str i) (ns.map V.str)=decide (i∈ns):=by
 unfold inV
 induction ns with
 | nil=>rfl
 | cons a r ih=>
  rw [qU,zm,ih];have e:eqV (.str a) (.str i)=(a==i):=rfl;rw [e];by_cases h:a=i
  ·subst h;simp
  ·have h':¬i=a:=fun z=>h z.symm
   simp [h,h']
theorem a8Y (ns:T0q):(ns.map V.int).all oQ=true:=by simp [oQ]
theorem a8X (ns:T0o):(ns.map V.str).all oQ=true:=by simp [oQ]
end
def tyD:j0→String
 | .none => "NoneType"
 | .bool _ => "bool"
 | .int _ => "int"
 | .str _ => "str"
 | .list _ => "list"
 | .tuple _ => "tuple"
 | .dict _ => "dict"
example (K:qC):zS K (.type "int") (.type "int")=some true:=by rfl
example (K:qC):zS K (.type "bool") (.type "int")=some true:=by rfl
example (K:qC):zS K (.type "str") (.type "int")=some false:=by rfl
section
variable {X:Cx} {e a b c o:Expr} {es:T0l} {ρ:List Ent} {d da db dc:j0} {ds:T0j} {pos p p2:Pos}
theorem b1u {pins:T0b} {σ:St} {H:Hp} {s:Shared} {A:Around} {E:T0a} {Q:T0a} {cv u:Value} {t:Bool} {v:V} (I:Inv X pins σ H s) (r:Rep X.K H v d) (rx:RelV v u)
  (e:zS X.K (.type (tyD d)) cv=some t) (h:∀ tk,Q (.bool t) { s with toks:=tk }):wpAny (model X.prog X.w) A (call (.builtin "isinstance") [u,cv]) Q E s:=by
 cases r with
 | none=>exact mX I rx .non e h
 | bool x=>exact mX I rx (.bl x) e h
 | int x=>exact mX I rx (.int x) e h
 | str x=>exact mX I rx (.str x) e h
 | list hq ra=>
  cases rx;obtain ⟨its,_,⟨o,n,e1,e2,_⟩,_⟩:=I.list hq;exact jQ wE I.kIn ⟨o,e1,e2⟩ e (fun z=>nomatch z) h
 | tuple hq ra=>
  cases rx;obtain ⟨its,_,⟨o,e1,e2,_⟩,_⟩:=I.tuple hq;exact jQ PySem.W.kitx_tuple I.kIn ⟨o,e1,e2⟩ e (fun z=>nomatch z) h
 | dict hq _ _=>exact mX I rx (.dK hq) e h
end
theorem a6P:∀ {bs:List Bool} {us:T0k},aY (bs.map V.bl) us→us=bs.map je
 | [],_,r=>by cases r;rfl
 | b::bs,_,r=>by
  cases r with
  | cons r1 r2=>cases r1;rw [a6P r2];rfl
section
variable {X:Cx} {e a b c o:Expr} {es:T0l} {ρ:List Ent} {d da db dc:j0} {ds:T0j} {pos p p2:Pos}
theorem fN {K:qC} {G:Hp}:∀ ns:List Int,RepAll K G (ns.map V.int) (ns.map .int)
 | []=>.nil
 | _::r=>.cons (.int _) (fN r)
def sortI (ns:T0q):List Int:=ns.mergeSort (fun a b=>decide (a≤b))
theorem sortI_perm (ns:T0q):(sortI ns).Perm ns:=vn _ _
theorem a3b (ns:T0q):(sortI ns).Pairwise (·≤·):=by
 have h:=vJ (le:=fun (a b:Int)=>decide (a≤b)) (fun a b c h1 h2=>by simp only [decide_eq_true_eq] at *;omega) (fun a b=>by simp only [vc,decide_eq_true_eq];omega) ns;exact h.imp fun h=>by simpa using h
theorem sortI_eq {ns ms:T0q} (hp:ms.Perm ns) (hs:ms.Pairwise (·≤·)):ms=sortI ns:=PySem.W.ksm_same (hp.trans (sortI_perm ns).symm) hs (a3b ns)
theorem a3V:eJ X (.builtin "sorted") (fun xs H Q=>∃ (p:Addr) (ns:T0q),xs=[.ref p]∧SqL X.K H p (ns.map V.int)∧ns.length<64∧∀ l,H l=none→Q (.ref l) (upd H l (.lst ((sortI ns).map V.int)))):=by
 intro pins s σ H xs us Q I r ⟨p,ns,e,hq,h64,q⟩;subst e;obtain ⟨u,rfl,rx⟩:=vals1 r;cases rx;obtain ⟨its,rv,pl,hz⟩:=I.list hq;have hi:=intsAre_of rv;refine sorted_ints pl.isList hi (by rw [hi.length];exact h64) fun out ns' ho hp hs=>?_;have e:=sortI_eq hp hs;subst e;obtain ⟨ep,g⟩:=sortedAll_at s.heap its out;have hf:H (s.heap.objs.size+1)=none:=I.hok.fresh (jw _);refine ⟨.ref (s.heap.objs.size+1),_,I.laid (t':=s.toks) (fun b o g=>sortedAll_old g) (jw _) ?_,rfl,q _ hf⟩;refine ⟨?_,out.toList,ep,mS ho,?_⟩
 ·rw [qE,(sortI_perm ns).length_eq]
  exact qv (fE (by omega))
 ·rw [g]
end
section
variable {X:Cx} {iter a b:Expr} {ρ:List Ent} {p pos px:Pos} {x:Str}
theorem b4P {i j:Str}:CmpD X .LtE (.str i) (.str j) (!decide (j.cps.toList<i.cps.toList)):=⟨fun x y H Q=>∃ i j,x=V.str i∧y=V.str j∧Q (.bl (!decide (j.cps.toList<i.cps.toList))) H,by
 intro pins s σ H x y v u Q I rx ry ⟨i,j,e1,e2,q⟩;subst e1 e2;obtain ⟨t,rfl⟩:=rx;obtain ⟨t',rfl⟩:=ry
 exact PySem.P.le_str ⟨.bl _,H,I,rfl,q⟩,fun x y G H Q _ rx ry q=>by cases rx;cases ry;exact ⟨_,_,rfl,rfl,q⟩⟩
end
theorem cW.there {P:Program} {w:World} {H:Hp} {h:Heap} {a:Addr} {o:HO} (x:cW P w H h a o):∃ u,h.get? a=some u:=by
 cases o with
 | lst xs=>obtain ⟨_,_,_,_,e⟩:=x;exact ⟨_,e⟩
 | tup xs=>obtain ⟨_,_,_,u,e,_⟩:=x;exact ⟨u,e⟩
 | dK kvs=>obtain ⟨_,_,_,_,o,_,_,e,_⟩:=x;exact ⟨_,e⟩
 | dT kvs=>obtain ⟨_,_,_,_,o,_,_,e,_⟩:=x;exact ⟨_,e⟩
 | set S n=>obtain ⟨o,_,_,_,e,_⟩:=x;exact ⟨_,e⟩
 | ins C dx fs=>obtain ⟨_,_,_,e,_⟩:=x;exact ⟨_,e⟩
 | own y=>exact x
 | xd fs=>obtain ⟨_,⟨_,_,_,e,_⟩,_⟩:=x;exact ⟨_,e⟩
 | rng lo hi=>obtain ⟨_,_,_,e⟩:=x;exact ⟨_,e⟩
 | frz ob u=>obtain ⟨e,_⟩:=x;exact ⟨_,e⟩
 | tbl ps=>exact ⟨_,show h.get? a=some _ from x⟩
 | met f y=>exact ⟨_,show h.get? a=some _ from x⟩
 | ext φ=>exact x.2.1
theorem b1z {P:Program} {w:World} {H:Hp} {h:Heap} {a:Addr} (x:HOk P w H h) (e:h.get? a=none):H a=none:=by
 cases q:H a with
 | none=>rfl
 | some u=>obtain ⟨v,z⟩:=cW.there (x a u q);rw [e] at z;cases z
def uP (X:Cx) (b:Addr):Prop:=(b∈X.ex∨X.s₀.heap.get? b=none)∧∀ p∈X.pn,p.1≠b
def tF (fr:Addr→Prop) (fl:Value) (H:Hp) (a C:Addr) (h:Heap):Prop:=
 fr a∧H a=none∧∃ oe vs a0 T oT ts,h.get? a=some oe∧oe.cls=.ref C∧oe.data=.fields vs∧vs[0]?=some a0 ∧
  vs[1]?=some (.ref T)∧fr T∧H T=none∧T≠a∧h.get? T=some oT∧oT.data=.fields ts∧ts[3]?=some fl
def ExcAt (fr:Addr→Prop) (H:Hp) (a C:Addr) (h:Heap):Prop:=
 (fr a∧H a=none∧∃ oe vs a0,h.get? a=some oe∧oe.cls=.ref C∧oe.data=.fields vs∧vs[0]?=some a0∧vs[1]?=some .none)∨tF fr .none H a C h
def mC (X:Cx) (fr:Addr→Prop) (H:Hp) (a C:Addr) (h:Heap):Prop:=ExcAt fr H a C h∨∃ L,X.env.frame=some L∧tF fr (v7 L) H a C h
def b5K (X:Cx) (c:Str) (e:Value) (H:Hp) (s:Shared):Prop:=∃ a C,e=.ref a∧gJ X.K c=some C∧mC X (uP X) H a C s.heap
theorem tF.mono {fr fr':Addr→Prop} {fl:Value} {H:Hp} {a C:Addr} {h:Heap} (x:tF fr fl H a C h) (k:∀ b,fr b→fr' b):tF fr' fl H a C h:=by
 obtain ⟨h1,h2,oe,vs,a0,T,oT,ts,e1,e2,e3,e4,e5,e6,e7⟩:=x;exact ⟨k _ h1,h2,oe,vs,a0,T,oT,ts,e1,e2,e3,e4,e5,k _ e6,e7⟩
theorem ExcAt.mono {fr fr':Addr→Prop} {H:Hp} {a C:Addr} {h:Heap} (x:ExcAt fr H a C h) (k:∀ b,fr b→fr' b):ExcAt fr' H a C h:=by
 rcases x with ⟨h1,h2⟩ | x
 ·exact .inl ⟨k _ h1,h2⟩
 ·exact .inr (x.mono k)
theorem mC.mono {X:Cx} {fr fr':Addr→Prop} {H:Hp} {a C:Addr} {h:Heap} (x:mC X fr H a C h) (k:∀ b,fr b→fr' b):mC X fr' H a C h:=by
 rcases x with x | ⟨L,h1,x⟩
 ·exact .inl (x.mono k)
 ·exact .inr ⟨L,h1,x.mono k⟩
theorem ExcAt.ob {fr:Addr→Prop} {H:Hp} {a C:Addr} {h:Heap} (x:ExcAt fr H a C h):fr a∧H a=none∧∃ oe vs,ExO h a C oe∧oe.data=.fields vs:=by
 rcases x with ⟨h1,h2,oe,vs,a0,e1,e2,e3,_⟩ | ⟨h1,h2,oe,vs,a0,T,oT,ts,e1,e2,e3,_⟩
 ·exact ⟨h1,h2,oe,vs,⟨e1,e2⟩,e3⟩
 ·exact ⟨h1,h2,oe,vs,⟨e1,e2⟩,e3⟩
structure Chg (X:Cx) (fr:Addr→Prop) (cs:T0m) (H:Hp) (h h':Heap):Prop where
 ch:∀ b∈cs,fr b∧H b=none∧∃ o vs,h.get? b=some o∧o.data=.fields vs
 un:Un (frs X.stack) cs H H h h'
 hok:HOk X.prog X.w H h'
section
variable {X:Cx} {pins:T0b} {σ:List (Option V)} {H H':Hp} {s:Shared} {h':Heap} {a C:Addr} {fr:Addr→Prop}
theorem a4B {base:Heap} {Ts:T0m} {a0 fl:Value} (I:Inv X pins σ H s) (hst:X.stack=X.env::X.outer) (ha:fr a∧H a=none∧∃ o vs,s.heap.get? a=some o∧o.data=.fields vs)
  (hT:∀ b∈Ts,fr b∧H b=none∧∃ o vs,s.heap.get? b=some o∧o.data=.fields vs) (hb:base=vP s.heap ((a::Ts)++frs X.stack)) (hnew:∀ b,s.heap.get? b=none→fr b)
  (N:Heap.NotedW base (X.env::X.outer) a (.ref C) a0 fl s.heap h'):Chg X fr (a::Ts) H s.heap h'∧tF fr fl H a C h':=by
 obtain ⟨st,ff,⟨oe,vs,T,oT,ts,e1,⟨e2,e3⟩,e4,e5,e6,e7,e8,e9,e10⟩,up⟩:=N;have hmem:∀ b∈frs X.stack,∃ o,s.heap.get? b=some o∧∀ vs,o.data≠.fields vs:=fun b hm=>by
  obtain ⟨_,o,ho,hd⟩:=I.stack.mem hm;exact ⟨o,ho,hd⟩
 have keep:∀ b o,s.heap.get? b=some o→b∉frs X.stack→b∉a::Ts→h'.get? b=some o:=fun b o e n1 n2=>
  st b o (by rw [hb];exact vm _ e fun z=>(qu.mp z).elim n2 n1)
 have slot:∀ b o,s.heap.get? b=some o→b∈frs X.stack→∃ sl,h'.get? b=some { o with slots:=sl }:=fun b o e hm=>by
  obtain ⟨o',ho',hd⟩:=hmem b hm;rw [e] at ho';cases ho';exact up b o e hd
 have hch:∀ b∈a::Ts,fr b∧H b=none∧∃ o vs,s.heap.get? b=some o∧o.data=.fields vs:=fun b hm=>by
  rcases qF.mp hm with rfl | hm
  ·exact ha
  ·exact hT b hm
 refine ⟨⟨hch,⟨fun b o e n n1 n2=>keep b o e n1 n2,fun b o e n n1 n2=>slot b o e n1,fun b o e n _=>n,fun b o e n2=>?_,fun _ _ q=>q,fun _ _ _ q=>q,fun _ ps q=>⟨#[],by rw [q];simp⟩⟩,fun b u q=>?_⟩,?_⟩
 ·by_cases hm:b∈frs X.stack
  ·obtain ⟨sl,z⟩:=slot b o e hm
   exact ⟨_,z⟩
  ·exact ⟨o,keep b o e hm n2⟩
 ·have tr:∀ c u,H c=some u→c∉frs X.stack∧c∉a::Ts:=fun c u q=>⟨fun z=>(by rw [I.stkFree c z] at q;cases q),fun z=>(by rw [(hch c z).2.1] at q;cases q)⟩
  refine (I.hok b u q).stay (fun c v hc z=>?_) (fun _ z=>z) fun _ _ z=>z;rcases hc with rfl | hc
  ·exact keep c v z (tr c u q).1 (tr c u q).2
  ·exact keep c v z (tr c _ hc).1 (tr c _ hc).2
 ·refine ⟨ha.1,ha.2.1,oe,vs,a0,T,oT,ts,e1,e2,e4,e3,e5,?_⟩
  have hh:fr T∧H T=none:=by
   cases q:s.heap.get? T with
   | none=>exact ⟨hnew T q,b1z I.hok q⟩
   | some o=>
    have hm:T∈(a::Ts)++frs X.stack:=vC fun z=>by
     have:=vm _ q z;rw [←hb,e6] at this;cases this
    rcases qu.mp hm with hm | hm
    ·exact ⟨(hch T hm).1,(hch T hm).2.1⟩
    ·exfalso
     obtain ⟨o',ho',hd⟩:=hmem T hm;obtain ⟨sl,z⟩:=slot T o' ho' hm;rw [e8] at z;cases z;exact hd ts e9
  exact ⟨hh.1,hh.2,e7,e8,e9,e10⟩
theorem b3J {M:Model} {A:Around} {E:T0a} {Q:Unit→Shared→Prop} (hfr:A.frames=some X.stack) (hst:X.stack=X.env::X.outer) (hf:X.env.frame=some X.env.locals) (I:Inv X pins σ H s) (x:ExcAt fr H a C s.heap) (hnew:∀ b,s.heap.get? b=none→fr b)
  (h:∀ h' ch,Chg X fr ch H s.heap h'→tF fr (v7 X.env.locals) H a C h'→Q () { s with heap:=h' }):wpAny M A (QB (.ref a) X.env) Q E s:=by
 have frm:∀ (l:T0m),∀ env∈X.env::X.outer,∀ b,env.frame=some b→b∈l++frs X.stack:=fun l env he b hb=>qe _ (by
  rw [hst];unfold frs
  exact vt.mpr ⟨env,he,hb⟩)
 have hl:=I.stack;rcases x with ⟨h1,h2,oe,vs,a0,e1,e2,e3,e4,e5⟩ | ⟨h1,h2,oe,vs,a0,T,oT,ts,e1,e2,e3,e4,e5,e6,e7,e8,e9,e10,e11⟩
 ·have hl':s.heap.FunFrames (vP s.heap ([a]++frs X.stack)) (X.env::X.outer):=PySem.W.funFrames_hide (hst▸hl) (frm [a])
  unfold QB;simp only [hf];refine q8 (wf e1 e3 e5 ?_);rw [if_neg (by decide)];refine wpAny_entryW (hst▸hfr) hl' hf e1 (fun b o e=>vo ([a]++frs X.stack) e) (zX ([a]++frs X.stack) (by simp)) e3 (zt.mp e5).1 e4 fun h' N=>?_;rw [e2] at N;obtain ⟨c1,c2⟩:=a4B (Ts:=[]) I hst ⟨h1,h2,oe,vs,e1,e3⟩ (fun _ z=>nomatch z) rfl hnew N;exact h h' _ c1 c2
 ·have hl':s.heap.FunFrames (vP s.heap ([a,T]++frs X.stack)) (X.env::X.outer):=PySem.W.funFrames_hide (hst▸hl) (frm [a,T])
  refine wpAny_noteFrame_onW (hst▸hfr) hl' hf ⟨oe,vs,T,oT,ts,e1,⟨e2,e4⟩,e3,e5,zX ([a,T]++frs X.stack) (by simp),e8,e9,e10,e11⟩ (fun b o e=>vo ([a,T]++frs X.stack) e) (zX ([a,T]++frs X.stack) (by simp)) fun h' N=>?_;obtain ⟨c1,c2⟩:=a4B (Ts:=[T]) I hst ⟨h1,h2,oe,vs,e1,e3⟩ (fun b z=>by cases qQ.mp z;exact ⟨e6,e7,oT,ts,e9,e10⟩) rfl hnew N;exact h h' _ c1 c2
theorem Chg.same {X:Cx} {fr:Addr→Prop} {H:Hp} {h:Heap} (hok:HOk X.prog X.w H h):Chg X fr [] H h h:=
 ⟨(fun _ z=>nomatch z),⟨fun _ _ e _ _ _=>e,fun _ o e _ _ _=>⟨o.slots,e⟩,fun _ _ _ n _=>n,fun _ o e _=>⟨o,e⟩,fun _ _ q=>q,fun _ _ _ q=>q,fun _ ps q=>⟨#[],by rw [q];simp⟩⟩,hok⟩
theorem a0O {M:Model} {A:Around} {E:T0a} {Q:Unit→Shared→Prop} (hfr:A.frames=some X.stack) (hst:X.stack=X.env::X.outer) (hf:X.env.frame=some X.env.locals) (I:Inv X pins σ H s) (x:mC X fr H a C s.heap) (hnew:∀ b,s.heap.get? b=none→fr b)
  (h:∀ h' ch,Chg X fr ch H s.heap h'→tF fr (v7 X.env.locals) H a C h'→Q () { s with heap:=h' }):wpAny M A (QB (.ref a) X.env) Q E s:=by
 rcases x with x | ⟨L,hL,x⟩
 ·exact b3J hfr hst hf I x hnew h
 ·rw [hf] at hL;cases hL
  have q:=h s.heap [] (Chg.same I.hok) x;obtain ⟨h1,h2,oe,vs,a0,T,oT,ts,e1,e2,e3,e4,e5,e6,e7,e8,e9,e10,e11⟩:=x;unfold QB;simp only [hf];refine q8 (wf e1 e3 e5 ?_);rw [if_pos (by simp)];refine q8 (wf e9 e10 e11 ?_);rw [if_pos (by simp [v7])];exact j3 q
theorem a6p {M:Model} {A:Around} {E:T0a} {Q:Unit→Shared→Prop} {fl:Value} (hok:HOk X.prog X.w H s.heap) (x:tF fr fl H a C s.heap)
  (h:∀ h' ch,Chg X fr ch H s.heap h'→tF fr .none H a C h'→Q () { s with heap:=h' }):wpAny M A (setFlight (.ref a) none) Q E s:=by
 obtain ⟨h1,h2,oe,vs,a0,T,oT,ts,e1,e2,e3,e4,e5,e6,e7,e8,e9,e10,e11⟩:=x;have sz:3<ts.size:=(zt.mp e11).1;refine wpAny_setFlight_none e1 e3 e5 e9 e10 sz (h _ [T] ⟨fun b z=>?_,⟨fun b o e n _ n2=>?_,fun b o e n _ n2=>?_,fun b o e n _=>n,fun b o e n2=>?_,fun _ _ q=>q,fun _ _ _ q=>q,fun _ ps q=>⟨#[],by rw [q];simp⟩⟩,fun b u q=>?_⟩ ?_)
 ·cases qQ.mp z;exact ⟨e6,e7,oT,ts,e9,e10⟩
 ·rw [qX _ _ (fun z=>n2 (by simp [z]))];exact e
 ·exact ⟨o.slots,by rw [qX _ _ (fun z=>n2 (by simp [z]))];exact e⟩
 ·exact ⟨o,by rw [qX _ _ (fun z=>n2 (by simp [z]))];exact e⟩
 ·have tr:∀ c u,H c=some u→T≠c:=fun c u q z=>by rw [←z,e7] at q;cases q
  refine (hok b u q).stay (fun c v hc z=>?_) (fun _ z=>z) fun _ _ z=>z;rcases hc with rfl | hc
  ·rw [qX _ _ (tr c u q)];exact z
  ·rw [qX _ _ (tr c _ hc)];exact z
 ·refine ⟨h1,h2,oe,vs,a0,T,_,_,?_,e2,e3,e4,e5,e6,e7,e8,jG _ e9 (vq (kn e10 _)),kn e10 _,by simp [sz]⟩
  rw [qX _ _ e8];exact e1
theorem a4Q {M:Model} {A:Around} {E:T0a} {Q:Unit→Shared→Prop} (hfr:A.frames=some X.stack) (hst:X.stack=X.env::X.outer) (hf:X.env.frame=some X.env.locals) (I:Inv X pins σ H s) (x:mC X fr H a C s.heap) (hnew:∀ b,s.heap.get? b=none→fr b)
  (h:∀ h' ch,Un (frs X.stack) ch H H s.heap h'→(∀ b∈ch,fr b)→HOk X.prog X.w H h'→ExcAt fr H a C h'→Q () { s with heap:=h' }):wpAny M A (leaving X.env (.ref a)) Q E s:=by
 unfold leaving;refine q8 (a0O hfr hst hf I x hnew fun h1 ch1 c1 x1=>?_);refine a6p (X:=X) (s:={ s with heap:=h1 }) c1.hok x1 fun h2 ch2 c2 x2=>?_;refine h h2 (ch1++ch2) ((c1.un.mono (fun _ z=>z) fun b z=>jW _ z).trans (c2.un.mono (fun _ z=>z) fun b z=>qe _ z)) (fun b z=>?_) c2.hok (.inr x2);rcases qu.mp z with z | z
 ·exact (c1.ch b z).1
 ·exact (c2.ch b z).1
theorem Inv.chg {ch:T0m} (I:Inv X pins σ H s) (c:Chg X (fun b=>uP X b∧∀ p∈pins,p.1≠b) ch H s.heap h'):Inv X pins σ H { s with heap:=h' }:=by
 obtain ⟨m,hn,hl⟩:=id I.loc;obtain ⟨oL,es,ep,hoL,rL⟩:=id hn;have cL:X.env.locals∉ch:=fun z=>by
  obtain ⟨_,_,o,vs,e1,e2⟩:=c.ch _ z;rw [hoL] at e1;cases e1;rw [rL.1] at e2;cases e2
 have cC:∀ x d,X.env.cells.lookup x=some d→d∉ch:=fun x d e z=>by
  obtain ⟨_,_,o,vs,e1,e2⟩:=c.ch _ z;obtain ⟨v,o',e3,e4⟩:=I.cell x d e;rw [e3] at e1;cases e1;rw [e4] at e2;cases e2
 have cS:∀ b o,X.s₀.heap.get? b=some o→b∉X.ex→b∉ch:=fun b o e n z=>by
  rcases (c.ch b z).1.1.1 with q | q
  ·exact n q
  ·rw [e] at q;cases q
 have cP:∀ p∈X.pn++pins,p.1∉ch:=fun p hp z=>by
  rcases qu.mp hp with hp | hp
  ·exact (c.ch _ z).1.1.2 p hp rfl
  ·exact (c.ch _ z).1.2 p hp rfl
 have neL:∀ b o,X.s₀.heap.get? b=some o→b≠X.env.locals:=fun b o e=>qa (qT (qG e) I.ok.above);have nst:∀ b,b≠X.env.locals→b∉X.fs→b∉frs X.stack:=fun b n1 n2 z=>(qF.mp (I.stkSub b z)).elim n1 n2;have cellK:∀ x d,X.env.cells.lookup x=some d→∀ v,s.heap.IsCell d v→h'.IsCell d v:=fun x d e v ⟨o,ho,hd⟩=>by
  obtain ⟨sl,q⟩:=c.un.any ho (I.freeC x d e) (cC x d e);exact ⟨_,q,hd⟩
 refine ⟨I.ok,I.os,I.bare,⟨fun b o e n hb hx=>?_,fun b o e n hb hx=>?_,I.base.free,fun b o e hx=>?_,I.base.tups,I.base.frzs,I.base.tbls⟩,⟨m,?_,fun i x v e1 e2 e3=>?_⟩,fun x d e=>?_,I.free,I.freeC,fun p hp=>?_,c.hok,I.len⟩
 ·exact c.un.keep b o (I.base.keep b o e n hb hx) (I.base.free b o e n hx) (nst b (neL b o e) hb) (cS b o e hx)
 ·obtain ⟨sl,e1⟩:=I.base.slot b o e n hb hx
  obtain ⟨sl',e2⟩:=c.un.any e1 (I.base.free b o e n hx) (cS b o e hx);exact ⟨sl',e2⟩
 ·obtain ⟨o',e1⟩:=I.base.there b o e hx
  exact c.un.there b o' e1 (cS b o e hx)
 ·obtain ⟨sl,q⟩:=c.un.any hoL I.free cL
  exact ⟨_,es,ep,q,rL⟩
 ·obtain ⟨u,r,l⟩:=hl i x v e1 e2 e3
  refine ⟨u,r,?_⟩;rcases l with l | ⟨k,d,e,z⟩
  ·exact .inl l
  ·exact .inr ⟨k,d,e,cellK x d e _ z⟩
 ·obtain ⟨v,z⟩:=I.cell x d e
  exact ⟨v,cellK x d e v z⟩
 ·obtain ⟨e,n,ne,nf,d⟩:=I.pin p hp
  exact ⟨c.un.keep p.1 p.2 e n (nst p.1 ne nf) (cP p hp),n,ne,nf,d⟩
theorem Inv.track {o:HO} (I:Inv X pins σ H s) (ha:uP X a∧∀ p∈pins,p.1≠a) (hn:H a=none) (hd:∃ u vs,s.heap.get? a=some u∧u.data=.fields vs) (ok:cW X.prog X.w (upd H a o) s.heap a o):Inv X pins σ (upd H a o) s:=by
 obtain ⟨u,vs,hu,hv⟩:=hd;have nL:X.env.locals≠a:=fun z=>by
  obtain ⟨m,⟨oL,es,ep,hoL,rL⟩,_⟩:=id I.loc;rw [z,hu] at hoL;cases hoL;rw [rL.1] at hv;cases hv
 have nC:∀ x d,X.env.cells.lookup x=some d→d≠a:=fun x d e z=>by
  obtain ⟨v,o',e3,e4⟩:=I.cell x d e;rw [z,hu] at e3;cases e3;rw [e4] at hv;cases hv
 refine ⟨I.ok,I.os,I.bare,⟨I.base.keep,I.base.slot,fun b o e n hx=>?_,I.base.there,fun b xs e=>?_,fun b o u e=>?_,fun b ps e=>?_⟩,I.loc,I.cell,?_,fun x d e=>?_,fun p hp=>?_,fun b v e=>?_,I.len⟩
 ·rw [aF (fun z=>by
   subst z;rcases ha.1.1 with q | q
   ·exact hx q
   ·rw [e] at q;cases q)]
  exact I.base.free b o e n hx
 ·have q:=I.base.tups b xs e
  rw [aF (aS q hn)];exact q
 ·have q:=I.base.frzs b o u e
  rw [aF (aS q hn)];exact q
 ·obtain ⟨more,q⟩:=I.base.tbls b ps e
  exact ⟨more,by rw [aF (aS q hn)];exact q⟩
 ·rw [aF nL];exact I.free
 ·rw [aF (nC x d e)];exact I.freeC x d e
 ·obtain ⟨e,n,ne,nf,d⟩:=I.pin p hp
  have np:p.1≠a:=by
   rcases qu.mp hp with hp | hp
   ·exact ha.1.2 p hp
   ·exact ha.2 p hp
  exact ⟨e,by rw [aF np];exact n,ne,nf,d⟩
 ·by_cases hb:b=a
  ·subst hb;rw [aL] at e;cases e;exact ok
  ·rw [aF hb] at e
   exact (I.hok b v e).stay (fun c w' _ q=>q) (fun c q=>by rw [aF (aS q hn)];exact q) fun c xs q=>by rw [aF (aS q hn)];exact q
end
inductive Re (α:Type) where
 | ok (a:α)
 | ex (c:Str)
abbrev Mm (α:Type):=Option (Re α)
abbrev ret {α:Type} (a:α):Mm α:=some (.ok a)
def bnd {α β:Type} (m:Mm α) (k:α→Mm β):Mm β:=match m with
 | some (.ok a)=>k a
 | some (.ex c)=>some (.ex c)
 | none=>none
def lft {α:Type} (o:Option α):Mm α:=match o with
 | some a=>some (.ok a)
 | none=>none
abbrev EF:=List Ent→Mm j0
abbrev TF:=List Ent→Mm Bool
abbrev AF:=List Ent→Mm (List j0)
section
variable {α β:Type}
theorem b5a (a:α) (k:α→Mm β):bnd (some (.ok a)) k=k a:=rfl
theorem bG {m:Mm α} {k:α→Mm β} {r:Re β} (h:bnd m k=some r):(∃ a,m=some (.ok a)∧k a=some r)∨∃ c,m=some (.ex c)∧r=.ex c:=by
 match m,h with
 | some (.ok a),h=>exact .inl ⟨a,rfl,h⟩
 | some (.ex c),h=>exact .inr ⟨c,rfl,(qA h).symm⟩
 | none,h=>cases h
theorem aZ {o:Option α} {r:Re α} (h:lft o=some r):∃ a,o=some a∧r=.ok a:=by
 match o,h with
 | some a,h=>exact ⟨a,rfl,(qA h).symm⟩
 | none,h=>cases h
end
def lJ (X:Cx) (H0 G₀ G:Hp) (ρ:List Ent) (c:Str):Prop:=
 ∀ (pins:T0b) (s':Shared) (σ:St) (H' G':Hp) (e:Value),Inv X pins σ H' s'→RepS X.K H0 G₀ G' H' σ ρ→bB G G'→b5K X c e H' s'→X.xe e s'
theorem lJ.mono {X:Cx} {H0 G₀ G G':Hp} {ρ:List Ent} {c:Str} (h:lJ X H0 G₀ G ρ c) (s:bB G G'):lJ X H0 G₀ G' ρ c:=
 fun pins s' σ H' G2 e I R g x=>h pins s' σ H' G2 e I R (s.trans g) x
def a5C (X:Cx) (H0 G₀ G:Hp) (ρ:List Ent) (H:Hp) (Q:VK):Re j0→Prop
 | .ok d=>∀ v G' H',Grow G H G' H'→Rep X.K G' v d→Q v H'
 | .ex c=>lJ X H0 G₀ G ρ c
def a9A (X:Cx) (H0 G₀ G:Hp) (ρ:List Ent) (H:Hp) (Q:Bool→Hp→Prop):Re Bool→Prop
 | .ok b=>∀ G' H',Grow G H G' H'→Q b H'
 | .ex c=>lJ X H0 G₀ G ρ c
def a9B (X:Cx) (H0 G₀ G:Hp) (ρ:List Ent) (H:Hp) (Q:List V→Hp→Prop):Re (List j0)→Prop
 | .ok ds=>∀ vs G' H',Grow G H G' H'→RepAll X.K G' vs ds→Q vs H'
 | .ex c=>lJ X H0 G₀ G ρ c
def rE (X:Cx) (f:EF):TE:=fun σ H Q=>∃ ρ r H0 G₀ G,f ρ=some r∧RepS X.K H0 G₀ G H σ ρ∧a5C X H0 G₀ G ρ H Q r
def rT (X:Cx) (f:TF):TT:=fun σ H Q=>∃ ρ r H0 G₀ G,f ρ=some r∧RepS X.K H0 G₀ G H σ ρ∧a9A X H0 G₀ G ρ H Q r
def rA (X:Cx) (f:AF):TA:=fun σ H Q=>∃ ρ r H0 G₀ G,f ρ=some r∧RepS X.K H0 G₀ G H σ ρ∧a9B X H0 G₀ G ρ H Q r
structure DE (X:Cx) (e:Expr) (f:EF):Prop where
 run:PE X e (rE X f)
structure DT (X:Cx) (e:Expr) (f:TF):Prop where
 run:PT X e (rT X f)
structure DW (X:Cx) (e:Expr) (f:TF):Prop where
 run:PW X e (rT X f)
structure DA (X:Cx) (es:T0l) (f:AF):Prop where
 run:PA X es (rA X f)
section
variable {X:Cx} {H0 G₀ G G1 H H1:Hp} {ρ:List Ent} {σ:St}
theorem a5C.more {Q:VK} {r:Re j0} (q:a5C X H0 G₀ G ρ H Q r) (g:Grow G H G1 H1):a5C X H0 G₀ G1 ρ H1 Q r:=by
 cases r with
 | ok d=>exact fun v G' H' g' rv=>q v G' H' (g.trans g') rv
 | ex c=>exact lJ.mono q g.gg
theorem a9A.more {Q:Bool→Hp→Prop} {r:Re Bool} (q:a9A X H0 G₀ G ρ H Q r) (g:Grow G H G1 H1):a9A X H0 G₀ G1 ρ H1 Q r:=by
 cases r with
 | ok d=>exact fun G' H' g'=>q G' H' (g.trans g')
 | ex c=>exact lJ.mono q g.gg
theorem a9B.more {Q:List V→Hp→Prop} {r:Re (List j0)} (q:a9B X H0 G₀ G ρ H Q r) (g:Grow G H G1 H1):a9B X H0 G₀ G1 ρ H1 Q r:=by
 cases r with
 | ok d=>exact fun v G' H' g' rv=>q v G' H' (g.trans g') rv
 | ex c=>exact lJ.mono q g.gg
theorem bE {fa:EF} {β:Type} {k:j0→Mm β} {r:Re β} (R:RepS X.K H0 G₀ G H σ ρ) (e:bnd (fa ρ) k=some r) {T:VK} (hx:∀ c,r=.ex c→lJ X H0 G₀ G ρ c)
  (h:∀ x v G1 H1,Grow G H G1 H1→RepS X.K H0 G₀ G1 H1 σ ρ→Rep X.K G1 v x→k x=some r→T v H1):rE X fa σ H T:=by
 rcases bG e with ⟨x,e1,e2⟩ | ⟨c,e1,e2⟩
 ·exact ⟨ρ,_,H0,G₀,G,e1,R,fun v G1 H1 g1 rv=>h x v G1 H1 g1 (R.more g1) rv e2⟩
 ·exact ⟨ρ,_,H0,G₀,G,e1,R,hx c e2⟩
theorem bT {fa:TF} {β:Type} {k:Bool→Mm β} {r:Re β} (R:RepS X.K H0 G₀ G H σ ρ) (e:bnd (fa ρ) k=some r) {T:Bool→Hp→Prop} (hx:∀ c,r=.ex c→lJ X H0 G₀ G ρ c)
  (h:∀ x G1 H1,Grow G H G1 H1→RepS X.K H0 G₀ G1 H1 σ ρ→k x=some r→T x H1):rT X fa σ H T:=by
 rcases bG e with ⟨x,e1,e2⟩ | ⟨c,e1,e2⟩
 ·exact ⟨ρ,_,H0,G₀,G,e1,R,fun G1 H1 g1=>h x G1 H1 g1 (R.more g1) e2⟩
 ·exact ⟨ρ,_,H0,G₀,G,e1,R,hx c e2⟩
theorem bA {fa:AF} {β:Type} {k:List j0→Mm β} {r:Re β} (R:RepS X.K H0 G₀ G H σ ρ) (e:bnd (fa ρ) k=some r) {T:List V→Hp→Prop} (hx:∀ c,r=.ex c→lJ X H0 G₀ G ρ c)
  (h:∀ x v G1 H1,Grow G H G1 H1→RepS X.K H0 G₀ G1 H1 σ ρ→RepAll X.K G1 v x→k x=some r→T v H1):rA X fa σ H T:=by
 rcases bG e with ⟨x,e1,e2⟩ | ⟨c,e1,e2⟩
 ·exact ⟨ρ,_,H0,G₀,G,e1,R,fun v G1 H1 g1 rv=>h x v G1 H1 g1 (R.more g1) rv e2⟩
 ·exact ⟨ρ,_,H0,G₀,G,e1,R,hx c e2⟩
theorem a5C.x {Q:VK} {r:Re j0} (q:a5C X H0 G₀ G ρ H Q r):∀ c,r=.ex c→lJ X H0 G₀ G ρ c:=fun c e=>by subst e;exact q
theorem a9A.x {Q:Bool→Hp→Prop} {r:Re Bool} (q:a9A X H0 G₀ G ρ H Q r):∀ c,r=.ex c→lJ X H0 G₀ G ρ c:=fun c e=>by subst e;exact q
theorem a9B.x {Q:List V→Hp→Prop} {r:Re (List j0)} (q:a9B X H0 G₀ G ρ H Q r):∀ c,r=.ex c→lJ X H0 G₀ G ρ c:=fun c e=>by subst e;exact q
end
section
variable {X:Cx} {e a b c:Expr} {es:T0l} {pos p:Pos} {fa fb fc:EF}
theorem yS {f:EF} (h:∀ ρ r,f ρ=some r→∃ d,r=.ok d∧PD X e ρ d):DE X e f:=⟨fun pins s σ H Q I ⟨ρ,r,H0,G₀,G,ef,R,q⟩=>by
 obtain ⟨d,rfl,hd⟩:=h ρ r ef
 exact hd.run H0 G₀ G pins s σ H Q I R q⟩
theorem DE.pd {f:EF} (h:DE X e f) {ρ:List Ent} {d:j0} (q:f ρ=some (.ok d)):PD X e ρ d:=⟨fun H0 G₀ G pins s σ H Q I R k=>h.run pins s σ H Q I ⟨ρ,_,H0,G₀,G,q,R,k⟩⟩
theorem DT.ptd {f:TF} (h:DT X e f) {ρ:List Ent} {d:Bool} (q:f ρ=some (.ok d)):PTD X e ρ d:=⟨fun H0 G₀ G pins s σ H Q I R k=>h.run pins s σ H Q I ⟨ρ,_,H0,G₀,G,q,R,k⟩⟩
def cst (d:j0):EF:=fun _=>some (.ok d)
def var (i:Nat):EF:=fun ρ=>match ρ[i]? with
 | some (.val d)=>some (.ok d)
 | _=>none
theorem aJ {i:Int} {j}:DE X (.Constant (.int i) j pos) (cst (.int i)):=yS fun ρ r e=>⟨_,(qA e).symm,b6B⟩
theorem cZ {x:Str} {j}:DE X (.Constant (.str x) j pos) (cst (.str x)):=yS fun ρ r e=>⟨_,(qA e).symm,b6A⟩
theorem gT {x:Bool} {j}:DE X (.Constant (.bool x) j pos) (cst (.bool x)):=yS fun ρ r e=>⟨_,(qA e).symm,b3y⟩
theorem b2l {x:Str} {i:Int} (hg:Gl X x) (hm:∃ t,X.mg x=some (.int i t)) (hd:(x==("__debug__" : Str))=false:=by decide):DE X (.Name x pos) (cst (.int i)):=yS fun ρ r e=>⟨_,(qA e).symm,by
 obtain ⟨t,hm⟩:=hm
 exact b0P hg hm hd⟩
theorem b5S {i:Nat} {ρ:List Ent} {r:Re j0} (h:var i ρ=some r):∃ d,r=.ok d∧ρ[i]?=some (.val d):=by
 unfold var at h;split at h
 ·rename_i d e;exact ⟨d,(qA h).symm,e⟩
 ·cases h
theorem aB (i:Nat) {x:Str} (hN:X.N[i]?=some x:=by rfl) (hv:Vis X.env.scope x:=by first | exact kC rfl | exact jg (kC rfl) | exact jg (jg rfl)) (hd:(x==("__debug__" : Str))=false:=by decide)
  (hcd:(x==("__classdict__" : Str))=false:=by decide):DE X (.Name x pos) (var i):=yS fun ρ r e=>by
 obtain ⟨d,e1,e2⟩:=b5S e;exact ⟨d,e1,b6z i e2 hN hv hd hcd⟩
structure OpD (X:Cx) (op:Operator) (x y d:j0):Prop where
 ex:∃ r:R2,OpR X (yg op) r∧∀ v u G H Q,bB G H→Rep X.K G v x→Rep X.K G u y→(∀ w G' H',Grow G H G' H'→Rep X.K G' w d→Q w H')→r v u H Q
def op2 (g:j0→j0→Option j0) (fa fb:EF):EF:=fun ρ=>bnd (fa ρ) fun x=>bnd (fb ρ) fun y=>lft (g x y)
theorem oB {f:Value→Value→Sem Value}:OpR X f (fun v u H Q=>∃ r,OpR X f r∧r v u H Q):=fun pins s σ H x y v u Q I rx ry ⟨_,h,q⟩=>h pins s σ H x y v u Q I rx ry q
theorem aV {op:Operator} {g:j0→j0→Option j0} (hg:∀ x y d,g x y=some d→OpD X op x y d) (ha:DE X a fa) (hb:DE X b fb):DE X (.BinOp a op b pos) (op2 g fa fb):=
 ⟨fun pins s σ H Q I ⟨ρ,r,H0,G₀,G,e,R,q⟩=>b5r oB ha.run hb.run pins s σ H Q I (bE R e q.x fun x v G1 H1 g1 R1 rv e1=>bE R1 e1 (q.more g1).x fun y u G2 H2 g2 R2 ru e2=>by
  obtain ⟨d,ed,rfl⟩:=aZ e2;obtain ⟨r,h1,h2⟩:=(hg x y d ed).ex
  exact ⟨r,h1,h2 v u G2 H2 Q g2.sub (rv.mono g2.gg) ru fun w G' H' g' rw'=>q w G' H' ((g1.trans g2).trans g') rw'⟩)⟩
def aH:AF:=fun _=>some (.ok [])
def aC (f:EF) (g:AF):AF:=fun ρ=>bnd (f ρ) fun x=>bnd (g ρ) fun xs=>some (.ok (x::xs))
theorem aE:DA X [] aH:=⟨fun pos pins s σ H Q I ⟨ρ,r,H0,G₀,G,e,R,q⟩=>gG pos pins s σ H Q I (by
 cases (qA e);exact q [] G H (.refl R.sub) .nil)⟩
theorem aA {f:AF} (ha:DE X e fa) (hr:DA X es f) (hs:j4 (e::es) X.env=(false,eval e X.env)::j4 es X.env:=by rfl):DA X (e::es) (aC fa f):=
 ⟨fun pos pins s σ H Q I ⟨ρ,r,H0,G₀,G,e,R,q⟩=>dC ha.run hr.run hs pos pins s σ H Q I (bE R e q.x fun x v G1 H1 g1 R1 rv e1=>bA R1 e1 (q.more g1).x fun ys us G2 H2 g2 R2 ru e2=>by
  cases (qA e2)
  exact q _ G2 H2 (g1.trans g2) (.cons (rv.mono g2.gg) ru))⟩
def dO (n:Nat):Bool:=decide (n≤100000)
theorem iC {n:Nat} (h:dO n=true):n≤j5:=ql (of_decide_eq_true h) (by decide)
theorem b0h {n:Nat} (h:dO n=true):n<j5:=kO (of_decide_eq_true h) (by decide)
def yG (ds:T0j):Option j0:=if dO ds.length then some (.tuple ds) else none
def a2k (ds:T0j):Option j0:=if dO ds.length then some (.list ds) else none
def fY (f:AF):EF:=fun ρ=>bnd (f ρ) fun xs=>lft (yG xs)
def tS (f:AF):EF:=fun ρ=>bnd (f ρ) fun xs=>lft (a2k xs)
theorem b1h {ds:T0j} {d:j0} (h:yG ds=some d):d=.tuple ds∧ds.length≤j5:=by
 unfold yG at h;split at h
 ·rename_i z;exact ⟨(qA h).symm,iC z⟩
 ·cases h
theorem b1i {ds:T0j} {d:j0} (h:a2k ds=some d):d=.list ds∧ds.length≤j5:=by
 unfold a2k at h;split at h
 ·rename_i z;exact ⟨(qA h).symm,iC z⟩
 ·cases h
theorem eL {x1} {f:AF} (h:DA X es f):DE X (.Tuple es x1 pos) (fY f):=⟨fun pins s σ H Q I ⟨ρ,r,H0,G₀,G,e,R,q⟩=>b6u h.run pins s σ H Q I (bA R e q.x fun xs vs G1 H1 g1 R1 rv e1=>by
 obtain ⟨d,ed,rfl⟩:=aZ e1;obtain ⟨rfl,hz⟩:=b1h ed
 exact ⟨by rw [rv.length];exact hz,fun p hp=>q _ _ _ (g1.trans (.put g1.sub hp)) (.tuple (.of aL) (rv.mono (bD (g1.sub.free hp))))⟩)⟩
theorem mP {f:AF} (h:DA X es f):DE X (.List es pos) (tS f):=⟨fun pins s σ H Q I ⟨ρ,r,H0,G₀,G,e,R,q⟩=>a3m h.run pins s σ H Q I (bA R e q.x fun xs vs G1 H1 g1 R1 rv e1=>by
 obtain ⟨d,ed,rfl⟩:=aZ e1;obtain ⟨rfl,hz⟩:=b1i ed
 exact ⟨by rw [rv.length];exact hz,fun p hp=>q _ _ _ (g1.trans (.put g1.sub hp)) (.list (.of aL) (rv.mono (bD (g1.sub.free hp))))⟩)⟩
def a3P (g:j0→j0→Option Bool) (fa fb:EF):EF:=fun ρ=>bnd (fa ρ) fun x=>bnd (fb ρ) fun y=>lft ((g x y).map .bool)
def dL (g:j0→j0→Option Bool) (fa fb:EF):TF:=fun ρ=>bnd (fa ρ) fun x=>bnd (fb ρ) fun y=>lft (g x y)
theorem a3O {op:CmpOp} {g:j0→j0→Option Bool} (hg:∀ x y t,g x y=some t→CmpD X op x y t) (ha:DE X a fa) (hb:DE X b fb) (hm:yx op b=false:=by first | exact b0Y _ | with_unfolding_all rfl):DE X (.Compare a [op] [b] pos) (a3P g fa fb):=
 ⟨fun pins s σ H Q I ⟨ρ,r,H0,G₀,G,e,R,q⟩=>b3v oB ha.run hb.run hm pins s σ H Q I (bE R e q.x fun x v G1 H1 g1 R1 rv e1=>bE R1 e1 (q.more g1).x fun y u G2 H2 g2 R2 ru e2=>by
  obtain ⟨d,ed,rfl⟩:=aZ e2;obtain ⟨t,et,rfl⟩:=qO.mp ed;obtain ⟨r,h1,h2⟩:=(hg x y t et).ex
  exact ⟨r,h1,h2 v u G2 H2 Q g2.sub (rv.mono g2.gg) ru (q _ _ _ (g1.trans g2) (.bool _))⟩)⟩
theorem bX {op:CmpOp} {g:j0→j0→Option Bool} (hg:∀ x y t,g x y=some t→CmpD X op x y t) (ha:DE X a fa) (hb:DE X b fb) (hm:yx op b=false:=by first | exact b0Y _ | with_unfolding_all rfl):DT X (.Compare a [op] [b] pos) (dL g fa fb):=
 ⟨fun pins s σ H Q I ⟨ρ,r,H0,G₀,G,e,R,q⟩=>b3k oB ha.run hb.run hm pins s σ H Q I (bE R e q.x fun x v G1 H1 g1 R1 rv e1=>bE R1 e1 (q.more g1).x fun y u G2 H2 g2 R2 ru e2=>by
  obtain ⟨t,et,rfl⟩:=aZ e2;obtain ⟨r,h1,h2⟩:=(hg x y t et).ex
  exact ⟨r,h1,h2 v u G2 H2 _ g2.sub (rv.mono g2.gg) ru ⟨_,rfl,q _ _ (g1.trans g2)⟩⟩)⟩
def b4V (g g':j0→j0→Option Bool) (fa fb fc:EF):EF:=fun ρ=>bnd (fa ρ) fun x=>bnd (fb ρ) fun y=>bnd (lft (g x y)) fun t=>if t then bnd (fc ρ) fun z=>lft ((g' y z).map .bool) else some (.ok (.bool false))
def b4U (g g':j0→j0→Option Bool) (fa fb fc:EF):TF:=fun ρ=>bnd (fa ρ) fun x=>bnd (fb ρ) fun y=>bnd (lft (g x y)) fun t=>if t then bnd (fc ρ) fun z=>lft (g' y z) else some (.ok false)
theorem b7O {op op':CmpOp} {g g':j0→j0→Option Bool} (hg:∀ x y t,g x y=some t→CmpD X op x y t) (hg':∀ x y t,g' x y=some t→CmpD X op' x y t) (ha:DE X a fa) (hb:DE X b fb) (hc:DE X c fc)
  (hm:QR [op,op'] [b,c]=false:=by with_unfolding_all rfl):DE X (.Compare a [op,op'] [b,c] pos) (b4V g g' fa fb fc):=
 ⟨fun pins s σ H Q I ⟨ρ,r,H0,G₀,G,e,R,q⟩=>b0O oB oB ha.run hb.run hc.run hm pins s σ H Q I (bE R e q.x fun x v G1 H1 g1 R1 rv e1=>bE R1 e1 (q.more g1).x fun y u G2 H2 g2 R2 ru e2=>by
  rcases bG e2 with ⟨t,et,e3⟩ | ⟨c,et,_⟩
  ·obtain ⟨t',et',z⟩:=aZ et
   cases z;obtain ⟨r1,h1,h2⟩:=(hg x y _ et').ex;refine ⟨r1,h1,h2 v u G2 H2 _ g2.sub (rv.mono g2.gg) ru ⟨_,rfl,?_⟩⟩;cases t with
   | false=>rw [if_neg (by decide)] at e3 ⊢;cases (qA e3);exact q _ _ _ (g1.trans g2) (.bool _)
   | true=>
    rw [if_pos rfl] at e3 ⊢;exact bE R2 e3 ((q.more g1).more g2).x fun z w G3 H3 g3 R3 rw' e4=>by
     obtain ⟨d,ed,rfl⟩:=aZ e4;obtain ⟨t,et,rfl⟩:=qO.mp ed;obtain ⟨r2,h3,h4⟩:=(hg' y z t et).ex;exact ⟨r2,h3,h4 u w G3 H3 Q g3.sub (ru.mono g3.gg) rw' (q _ _ _ ((g1.trans g2).trans g3) (.bool _))⟩
  ·obtain ⟨_,_,z⟩:=aZ et;cases z)⟩
theorem b7G {op op':CmpOp} {g g':j0→j0→Option Bool} (hg:∀ x y t,g x y=some t→CmpD X op x y t) (hg':∀ x y t,g' x y=some t→CmpD X op' x y t) (ha:DE X a fa) (hb:DE X b fb) (hc:DE X c fc)
  (hm:QR [op,op'] [b,c]=false:=by with_unfolding_all rfl):DT X (.Compare a [op,op'] [b,c] pos) (b4U g g' fa fb fc):=
 ⟨fun pins s σ H Q I ⟨ρ,r,H0,G₀,G,e,R,q⟩=>b0B oB oB ha.run hb.run hc.run hm pins s σ H Q I (bE R e q.x fun x v G1 H1 g1 R1 rv e1=>bE R1 e1 (q.more g1).x fun y u G2 H2 g2 R2 ru e2=>by
  rcases bG e2 with ⟨t,et,e3⟩ | ⟨c,et,_⟩
  ·obtain ⟨t',et',z⟩:=aZ et
   cases z;obtain ⟨r1,h1,h2⟩:=(hg x y _ et').ex;refine ⟨r1,h1,h2 v u G2 H2 _ g2.sub (rv.mono g2.gg) ru ⟨_,rfl,?_⟩⟩;cases t with
   | false=>rw [if_neg (by decide)] at e3;cases (qA e3);exact c0f ⟨false,rfl,q _ _ (g1.trans g2)⟩
   | true=>
    rw [if_pos rfl] at e3;refine c0e ?_;exact bE R2 e3 ((q.more g1).more g2).x fun z w G3 H3 g3 R3 rw' e4=>by
     obtain ⟨t,et,rfl⟩:=aZ e4;obtain ⟨r2,h3,h4⟩:=(hg' y z t et).ex;exact ⟨r2,h3,h4 u w G3 H3 _ g3.sub (ru.mono g3.gg) rw' ⟨_,rfl,q _ _ ((g1.trans g2).trans g3)⟩⟩
  ·obtain ⟨_,_,z⟩:=aZ et;cases z)⟩
end
section
variable {X:Cx} {e a b c:Expr} {es rest:T0l} {pos p:Pos} {fa fb fc:EF} {ft fu:TF}
def a0r:j0→Option Bool
 | .none=>some false
 | .bool b=>some b
 | .int i=>some (i != 0)
 | .str x=>if dO x.length then some ((x.length:Int) != 0) else none
 | .list ds=>some (!ds.isEmpty)
 | .tuple ds=>some (!ds.isEmpty)
 | .dict _=>none
theorem a2b {K:qC} {G:Hp} {vs:List V} {ds:T0j} (r:RepAll K G vs ds):ds.isEmpty=vs.isEmpty:=by
 have h:=r.length;cases vs<;>cases ds<;>simp at h ⊢
theorem b2O {K:qC} {G H:Hp} {v:V} {d:j0} {t:Bool} (s:bB G H) (r:Rep K G v d) (h:a0r d=some t):b8b K v H t:=by
 cases r with
 | none=>exact (qA h).symm
 | bool b=>exact (qA h).symm
 | int i=>exact (qA h).symm
 | str x=>
  have h:(if dO x.length=true then some ((x.length:Int) != 0) else none)=some t:=h;split at h
  ·rename_i z;exact ⟨iC z,(qA h).symm⟩
  ·cases h
 | list hq r=>exact .inl ⟨_,s.seq hq,by rw [←a2b r];exact (qA h).symm⟩
 | tuple hq r=>exact .inr (.inl ⟨_,mU s hq,by rw [←a2b r];exact (qA h).symm⟩)
 | dict _ _ _=>cases h
def uS (fa:EF):TF:=fun ρ=>bnd (fa ρ) fun x=>lft (a0r x)
theorem sX (ha:DE X a fa) (he:∀ whole,isTrue a X.env whole=(do let v ←whole;standAt a.pos;holding [v] (truthy v)):=by intro _;rfl):DT X a (uS fa):=
 ⟨fun pins s σ H Q I ⟨ρ,r,H0,G₀,G,e,R,q⟩=>a4x ha.run he pins s σ H Q I (bE R e q.x fun x v G1 H1 g1 R1 rv e1=>by
  obtain ⟨t,et,rfl⟩:=aZ e1
  exact ⟨t,b2O g1.sub rv et,q _ _ g1⟩)⟩
def a4C (ft:TF):TF:=fun ρ=>bnd (ft ρ) fun t=>some (.ok (!t))
theorem a1p (ha:DT X a ft):DT X (.UnaryOp .Not a pos) (a4C ft):=
 ⟨fun pins s σ H Q I ⟨ρ,r,H0,G₀,G,e,R,q⟩=>b6m ha.run pins s σ H Q I (bT R e q.x fun t G1 H1 g1 R1 e1=>by
  cases (qA e1);exact q _ _ g1)⟩
def rX:j0→Option Bool
 | .bool b=>some b
 | _=>none
def b6M (fa:EF):EF:=fun ρ=>bnd (fa ρ) fun x=>lft ((rX x).map fun t=>.bool (!t))
theorem a1w {d:j0} {t:Bool} (h:rX d=some t):d=.bool t:=by
 cases d<;>first | (cases h;done) | (cases (qA h);rfl)
theorem b7N (ha:DE X a fa):DE X (.UnaryOp .Not a pos) (b6M fa):=
 ⟨fun pins s σ H Q I ⟨ρ,r,H0,G₀,G,e,R,q⟩=>b6x ha.run pins s σ H Q I (bE R e q.x fun x v G1 H1 g1 R1 rv e1=>by
  obtain ⟨d,ed,rfl⟩:=aZ e1;obtain ⟨t,et,rfl⟩:=qO.mp ed;cases a1w et;cases rv
  exact ⟨_,rfl,q _ _ _ g1 (.bool _)⟩)⟩
def a5z (f g:TF):TF:=fun ρ=>bnd (f ρ) fun t=>if t then g ρ else some (.ok false)
def orT (f g:TF):TF:=fun ρ=>bnd (f ρ) fun t=>if t then some (.ok true) else g ρ
theorem a7I (ha:DT X a ft):DW X (.BoolOp .And [a] pos) ft:=⟨b3g ha.run⟩
theorem sW (ha:DT X a ft):DW X (.BoolOp .Or [a] pos) ft:=⟨b6k ha.run⟩
theorem b1X (ha:DT X a ft) (hb:DW X (.BoolOp .And (b::rest) pos) fu):DW X (.BoolOp .And (a::b::rest) pos) (a5z ft fu):=
 ⟨fun wh pins s σ H Q I ⟨ρ,r,H0,G₀,G,e,R,q⟩=>b6l ha.run hb.run wh pins s σ H Q I (bT R e q.x fun t G1 H1 g1 R1 e1=>by
  cases t with
  | true=>rw [if_pos rfl] at e1 ⊢;exact ⟨ρ,r,H0,G₀,G1,e1,R1,q.more g1⟩
  | false=>rw [if_neg (by decide)] at e1 ⊢;cases (qA e1);exact q _ _ g1)⟩
theorem uE (ha:DT X a ft) (hb:DW X (.BoolOp .Or (b::rest) pos) fu):DW X (.BoolOp .Or (a::b::rest) pos) (orT ft fu):=
 ⟨fun wh pins s σ H Q I ⟨ρ,r,H0,G₀,G,e,R,q⟩=>b8J ha.run hb.run wh pins s σ H Q I (bT R e q.x fun t G1 H1 g1 R1 e1=>by
  cases t with
  | true=>rw [if_pos rfl] at e1 ⊢;cases (qA e1);exact q _ _ g1
  | false=>rw [if_neg (by decide)] at e1 ⊢;exact ⟨ρ,r,H0,G₀,G1,e1,R1,q.more g1⟩)⟩
theorem DW.dt (h:DW X e ft):DT X e ft:=⟨h.run _⟩
def a6I (f g:EF):EF:=fun ρ=>bnd (f ρ) fun x=>bnd (lft (rX x)) fun t=>if t then g ρ else some (.ok (.bool false))
def orE (f g:EF):EF:=fun ρ=>bnd (f ρ) fun x=>bnd (lft (rX x)) fun t=>if t then some (.ok (.bool true)) else g ρ
theorem a3N {op} (ha:DE X a fa):DE X (.BoolOp op [a] pos) fa:=⟨b6w ha.run⟩
theorem a1s (ha:DE X a fa) (hb:DE X (.BoolOp .And (b::rest) pos) fb):DE X (.BoolOp .And (a::b::rest) pos) (a6I fa fb):=
 ⟨fun pins s σ H Q I ⟨ρ,r,H0,G₀,G,e,R,q⟩=>b6y ha.run hb.run pins s σ H Q I (bE R e q.x fun x v G1 H1 g1 R1 rv e1=>by
  rcases bG e1 with ⟨t,et,e2⟩ | ⟨c,et,_⟩
  ·obtain ⟨t',et',z⟩:=aZ et
   cases z;cases a1w et';cases rv;refine ⟨t,rfl,?_⟩;cases t with
   | true=>rw [if_pos rfl] at e2 ⊢;exact ⟨ρ,r,H0,G₀,G1,e2,R1,q.more g1⟩
   | false=>rw [if_neg (by decide)] at e2 ⊢;cases (qA e2);exact q _ _ _ g1 (.bool _)
  ·obtain ⟨_,_,z⟩:=aZ et;cases z)⟩
def ifE (f:TF) (fa fb:EF):EF:=fun ρ=>bnd (f ρ) fun t=>if t then fa ρ else fb ρ
def ixD (x i:j0):Option j0:=match x,i with
 | .tuple ds,.int k=>atI ds k
 | .list ds,.int k=>atI ds k
 | .str z,.int k=>if dO z.length then (atI z.cps.toList k).map fun c=>.str ⟨#[c]⟩ else none
 | _,_=>none
theorem b4d {K:qC} {G H:Hp} {v u:V} {x i d:j0} {Q:VK} (s:bB G H) (rv:Rep K G v x) (ru:Rep K G u i) (h:ixD x i=some d) (q:∀ w,Rep K G w d→Q w H):rIx K v u H Q:=by
 cases ru with
 | int k=>
  cases rv with
  | tuple hq r=>
   obtain ⟨w,e,rw'⟩:=a7V r (show atI _ k=some d from h);exact .inr (.inl ⟨_,_,_,w,rfl,rfl,mU s hq,e,q w rw'⟩)
  | list hq r=>
   obtain ⟨w,e,rw'⟩:=a7V r (show atI _ k=some d from h);exact .inl ⟨_,_,_,w,rfl,rfl,s.seq hq,e,q w rw'⟩
  | str z=>
   have h:(if dO z.length=true then (atI z.cps.toList k).map fun c=>vE ⟨#[c]⟩ else none)=some d:=h;split at h
   ·rename_i hz
    obtain ⟨c,ec,rfl⟩:=qO.mp h;exact .inr (.inr ⟨_,_,c,rfl,rfl,iC hz,ec,q _ (.str _)⟩)
   ·cases h
  | none=>cases h
  | bool b=>cases h
  | int j=>cases h
  | dict _ _ _=>cases h
 | none=>cases rv<;>cases h
 | bool b=>cases rv<;>cases h
 | str b=>cases rv<;>cases h
 | list _ _=>cases rv<;>cases h
 | tuple _ _=>cases rv<;>cases h
 | dict _ _ _=>cases rv<;>cases h
theorem cU (ha:DE X a fa) (hb:DE X b fb) (hs:a4g b:=by exact fun _ _=>rfl):DE X (.Subscript a b pos) (op2 ixD fa fb):=
 ⟨fun pins s σ H Q I ⟨ρ,r,H0,G₀,G,e,R,q⟩=>b5s b7m ha.run hb.run hs pins s σ H Q I (bE R e q.x fun x v G1 H1 g1 R1 rv e1=>bE R1 e1 (q.more g1).x fun y u G2 H2 g2 R2 ru e2=>by
  obtain ⟨d,ed,rfl⟩:=aZ e2
  exact b4d g2.sub (rv.mono g2.gg) ru ed fun w rw'=>q w _ _ (g1.trans g2) rw')⟩
structure CallD (X:Cx) (f:Value) (ds:T0j) (d:j0):Prop where
 ex:∃ r:List V→Hp→VK→Prop,eJ X f r∧∀ vs G H Q,bB G H→RepAll X.K G vs ds→(∀ w G' H',Grow G H G' H'→Rep X.K G' w d→Q w H')→r vs H Q
theorem a2O {f:Value}:eJ X f (fun vs H Q=>∃ r,eJ X f r∧r vs H Q):=fun pins s σ H vs us Q I rx ⟨_,h,q⟩=>h pins s σ H vs us Q I rx q
def fC (g:List j0→Option j0) (fa:AF):EF:=fun ρ=>bnd (fa ρ) fun xs=>lft (g xs)
theorem cM {id:String} {x:Str} {g:List j0→Option j0} {f:AF} (hd:∀ ds d,g ds=some d→CallD X (.builtin id) ds d) (hm:X.mg x=none) (hv:wm x=some (.builtin id)) (ha:DA X (e::es) f) (hg:Gl X x:=by rfl)
  (hn:x ≠ "__name__":=by decide) (hdb:(x==("__debug__" : Str))=false:=by decide)
  (he:j4 (e::es) X.env=(false,eval e X.env)::j4 es X.env:=by rfl) (hpl:(k9 pos (j4 es X.env)).any (·.1)=false:=by rfl):DE X (.Call (.Name x p) (e::es) [] pos) (fC g f):=
 ⟨fun pins s σ H Q I ⟨ρ,r,H0,G₀,G,e,R,q⟩=>tN a2O hg hm hv ha.run hn hdb he hpl pins s σ H Q I (bA R e q.x fun xs vs G1 H1 g1 R1 rv e1=>by
  obtain ⟨d,ed,rfl⟩:=aZ e1;obtain ⟨r,h1,h2⟩:=(hd xs d ed).ex
  exact ⟨r,h1,h2 vs G1 H1 Q g1.sub rv fun w G' H' g' rw'=>q w G' H' (g1.trans g') rw'⟩)⟩
theorem mZ {T:String} {x:Str} {g:List j0→Option j0} {f:AF} (hd:∀ ds d,g ds=some d→CallD X (.type T) ds d) (hm:X.mg x=none) (hv:wm x=some (.type T)) (ha:DA X (e::es) f) (hg:Gl X x:=by rfl)
  (hn:x ≠ "__name__":=by decide) (hdb:(x==("__debug__" : Str))=false:=by decide)
  (he:j4 (e::es) X.env=(false,eval e X.env)::j4 es X.env:=by rfl) (hpl:(k9 pos (j4 es X.env)).any (·.1)=false:=by rfl):DE X (.Call (.Name x p) (e::es) [] pos) (fC g f):=
 ⟨fun pins s σ H Q I ⟨ρ,r,H0,G₀,G,e,R,q⟩=>a8v a2O hg hm hv ha.run hn hdb he hpl pins s σ H Q I (bA R e q.x fun xs vs G1 H1 g1 R1 rv e1=>by
  obtain ⟨d,ed,rfl⟩:=aZ e1;obtain ⟨r,h1,h2⟩:=(hd xs d ed).ex
  exact ⟨r,h1,h2 vs G1 H1 Q g1.sub rv fun w G' H' g' rw'=>q w G' H' (g1.trans g') rw'⟩)⟩
def iL:Ent→Ent
 | .lst ds=>.val (.list ds)
 | .dct kvs=>.val (.dict (kvs.map fun p=>(dU p.1,p.2)))
 | e=>e
def frzAll (ρ:List Ent):List Ent:=ρ.map iL
def xB:j0→Bool
 | .none=>true
 | .bool _=>true
 | .int _=>true
 | .str _=>true
 | _=>false
theorem Rep.plain {K:qC} {G G':Hp} {v:V} {d:j0} (h:xB d=true) (r:Rep K G v d):Rep K G' v d:=by
 cases r with
 | none=>exact .none
 | bool b=>exact .bool b
 | int i=>exact .int i
 | str x=>exact .str x
 | list _ _=>cases h
 | tuple _ _=>cases h
 | dict _ _ _=>cases h
end
section
variable {K:qC} {H0 G₀ G H:Hp} {σ:St} {ρ:List Ent}
theorem b1L (ρ:List Ent) (n:Nat):(∃ e,ρ[n]?=some e∧(ρ.take (n+1)).map iL++ρ.drop (n+1)=((ρ.take n).map iL++ρ.drop n).set n (iL e))∨(ρ[n]?=none∧(ρ.take (n+1)).map iL++ρ.drop (n+1)=(ρ.take n).map iL++ρ.drop n):=by
 by_cases hn:n<ρ.length
 ·refine .inl ⟨ρ[n],by simp [hn],?_⟩
  apply jT;intro j;rw [zR];by_cases hj:j<n
  ·rw [if_neg (by omega),jA (by simp;omega),jA (by simp;omega),qW,qW,kF (by omega),kF (by omega)]
  ·by_cases hj2:j=n
   ·subst hj2
    rw [if_pos rfl,if_pos (by simp;omega),jA (by simp;omega),qW,kF (by omega)];simp [hn]
   ·rw [if_neg (by omega),jV (by simp;omega),jV (by simp;omega),vv,vv]
    simp only [qE,jZ];congr 1;omega
 ·refine .inr ⟨by simp;omega,?_⟩
  rw [kM (by omega),kM (by omega),List.drop_of_length_le (by omega),List.drop_of_length_le (by omega)]
theorem RepS.frzTo (R:RepS K H0 G₀ G H σ ρ):∀ n:Nat,∃ G',bB G G'∧RepS K H0 G₀ G' H σ ((ρ.take n).map iL++ρ.drop n)
 | 0=>⟨G,.refl _,by simpa using R⟩
 | n+1=>by
  obtain ⟨G1,s1,R1⟩:=R.frzTo n;rcases b1L ρ n with ⟨e,he,eq⟩ | ⟨_,eq⟩
  ·have hn:n<ρ.length:=(qY.mp he).1
   have at':((ρ.take n).map iL++ρ.drop n)[n]?=some e:=by
    rw [jV (by simp;omega),vv];simp only [qE,jZ];rw [show n+(n - min n ρ.length)=n by omega];exact he
   rw [eq];cases e with
   | lst ds=>
    obtain ⟨G2,s2,R2⟩:=R1.freeze at';exact ⟨G2,s1.trans s2,R2⟩
   | dct kvs=>
    obtain ⟨G2,s2,R2⟩:=R1.freezeD at';exact ⟨G2,s1.trans s2,R2⟩
   | val d=>
    refine ⟨G1,s1,?_⟩;have:((ρ.take n).map iL++ρ.drop n).set n (iL (.val d))=(ρ.take n).map iL++ρ.drop n:=by
     apply jT;intro j;rw [zR];split
     ·rename_i h;subst h
      rw [at'];have:=(qY.mp at').1;rw [if_pos this];rfl
     ·rfl
    rw [this];exact R1
   | no=>
    refine ⟨G1,s1,?_⟩;have:((ρ.take n).map iL++ρ.drop n).set n (iL .no)=(ρ.take n).map iL++ρ.drop n:=by
     apply jT;intro j;rw [zR];split
     ·rename_i h;subst h
      rw [at'];have:=(qY.mp at').1;rw [if_pos this];rfl
     ·rfl
    rw [this];exact R1
   | exc c=>
    refine ⟨G1,s1,?_⟩;have:((ρ.take n).map iL++ρ.drop n).set n (iL (.exc c))=(ρ.take n).map iL++ρ.drop n:=by
     apply jT;intro j;rw [zR];split
     ·rename_i h;subst h
      rw [at'];have:=(qY.mp at').1;rw [if_pos this];rfl
     ·rfl
    rw [this];exact R1
   | nst dss=>
    refine ⟨G1,s1,?_⟩;have:((ρ.take n).map iL++ρ.drop n).set n (iL (.nst dss))=(ρ.take n).map iL++ρ.drop n:=by
     apply jT;intro j;rw [zR];split
     ·rename_i h;subst h
      rw [at'];have:=(qY.mp at').1;rw [if_pos this];rfl
     ·rfl
    rw [this];exact R1
  ·rw [eq];exact ⟨G1,s1,R1⟩
theorem RepS.frzAll (R:RepS K H0 G₀ G H σ ρ):∃ G',bB G G'∧RepS K H0 G₀ G' H σ (frzAll ρ):=by
 obtain ⟨G',s,R'⟩:=R.frzTo ρ.length;refine ⟨G',s,?_⟩;have:(ρ.take ρ.length).map iL++ρ.drop ρ.length=L3.frzAll ρ:=by simp [L3.frzAll]
 rw [this] at R';exact R'
end
section
variable {X:Cx} {e a b c:Expr} {es rest:T0l} {pos p:Pos} {fa fb fc:EF} {ft fu:TF}
def thT (f:TF):TF:=fun ρ=>match f (frzAll ρ) with
 | some (.ok b)=>some (.ok b)
 | _=>none
def thE (f:EF):EF:=fun ρ=>match f (frzAll ρ) with
 | some (.ok d)=>if xB d then some (.ok d) else none
 | _=>none
theorem a7J (h:DT X e ft):DT X e (thT ft):=⟨fun pins s σ H Q I ⟨ρ,r,H0,G₀,G,ef,R,q⟩=>by
 unfold thT at ef;split at ef
 ·rename_i b eb
  cases (qA ef);obtain ⟨G',s',R'⟩:=R.frzAll;exact h.run pins s σ H Q I ⟨_,_,H0,G₀,G',eb,R',fun G2 H2 g2=>q G H2 ⟨.refl _,g2.hh,s'.trans (g2.gg.trans g2.sub),fun _ z _=>z,id⟩⟩
 ·cases ef⟩
theorem b9f (h:DE X e fa):DE X e (thE fa):=⟨fun pins s σ H Q I ⟨ρ,r,H0,G₀,G,ef,R,q⟩=>by
 unfold thE at ef;split at ef
 ·rename_i d eb
  split at ef
  ·rename_i hp
   cases (qA ef);obtain ⟨G',s',R'⟩:=R.frzAll;exact h.run pins s σ H Q I ⟨_,_,H0,G₀,G',eb,R',fun v G2 H2 g2 rv=>q v G H2 ⟨.refl _,g2.hh,s'.trans (g2.gg.trans g2.sub),fun _ z _=>z,id⟩ (rv.plain hp)⟩
  ·cases ef
 ·cases ef⟩
end
inductive So where
 | nx (ρ:List Ent)
 | rt (d:j0)
 | bk (ρ:List Ent)
 | ct (ρ:List Ent)
 | xc (c:Str) (ρ:List Ent)
abbrev SF:=List Ent→Option So
def bns {α:Type} (m:Mm α) (ρ:List Ent) (k:α→Option So):Option So:=match m with
 | some (.ok a)=>k a
 | some (.ex c)=>some (.xc c ρ)
 | none=>none
theorem pO {α:Type} {m:Mm α} {ρ:List Ent} {k:α→Option So} {r:So} (h:bns m ρ k=some r):(∃ a,m=some (.ok a)∧k a=some r)∨∃ c,m=some (.ex c)∧r=.xc c ρ:=by
 match m,h with
 | some (.ok a),h=>exact .inl ⟨a,rfl,h⟩
 | some (.ex c),h=>exact .inr ⟨c,rfl,(qA h).symm⟩
 | none,h=>cases h
def a0d (X:Cx) (H0 G₀ G:Hp) (D:Ends):So→Prop
 | .nx ρ=>∀ G' H' σ',bB G G'→RepS X.K H0 G₀ G' H' σ' ρ→D.nx σ' H'
 | .rt d=>∀ v G' H',bB G G'→Grow G₀ H0 G' H'→Rep X.K G' v d→D.rt v H'
 | .bk ρ=>∀ G' H' σ',bB G G'→RepS X.K H0 G₀ G' H' σ' ρ→D.bk σ' H'
 | .ct ρ=>∀ G' H' σ',bB G G'→RepS X.K H0 G₀ G' H' σ' ρ→D.ct σ' H'
 | .xc c ρ=>lJ X H0 G₀ G ρ c
theorem a0d.mono {X:Cx} {H0 G₀ G G':Hp} {D:Ends} {o:So} (h:a0d X H0 G₀ G D o) (s:bB G G'):a0d X H0 G₀ G' D o:=by
 cases o with
 | nx ρ=>exact fun G2 H' σ' s2 R=>h G2 H' σ' (s.trans s2) R
 | rt d=>exact fun v G2 H' s2 g r=>h v G2 H' (s.trans s2) g r
 | bk ρ=>exact fun G2 H' σ' s2 R=>h G2 H' σ' (s.trans s2) R
 | ct ρ=>exact fun G2 H' σ' s2 R=>h G2 H' σ' (s.trans s2) R
 | xc c ρ=>exact lJ.mono h s
def rS (X:Cx) (f:SF):TS:=fun D σ H=>∃ ρ o H0 G₀ G,f ρ=some o∧RepS X.K H0 G₀ G H σ ρ∧a0d X H0 G₀ G D o
structure DS (X:Cx) (st:Stmt) (f:SF):Prop where
 run:PS X st (rS X f)
structure DB (X:Cx) (sts:List Stmt) (f:SF):Prop where
 run:PSs X sts (rS X f)
section
variable {X:Cx} {H0 G₀ G H:Hp} {ρ:List Ent} {σ:St} {D:Ends} {o:So}
theorem sE {fa:EF} {k:j0→Option So} (R:RepS X.K H0 G₀ G H σ ρ) (e:bns (fa ρ) ρ k=some o) (q:a0d X H0 G₀ G D o) {T:VK}
  (h:∀ x v G1 H1,Grow G H G1 H1→RepS X.K H0 G₀ G1 H1 σ ρ→Rep X.K G1 v x→k x=some o→a0d X H0 G₀ G1 D o→T v H1):rE X fa σ H T:=by
 rcases pO e with ⟨x,e1,e2⟩ | ⟨c,e1,e2⟩
 ·exact ⟨ρ,_,H0,G₀,G,e1,R,fun v G1 H1 g1 rv=>h x v G1 H1 g1 (R.more g1) rv e2 (q.mono g1.gg)⟩
 ·subst e2;exact ⟨ρ,_,H0,G₀,G,e1,R,q⟩
theorem sA {fa:AF} {k:List j0→Option So} (R:RepS X.K H0 G₀ G H σ ρ) (e:bns (fa ρ) ρ k=some o) (q:a0d X H0 G₀ G D o) {T:List V→Hp→Prop}
  (h:∀ x v G1 H1,Grow G H G1 H1→RepS X.K H0 G₀ G1 H1 σ ρ→RepAll X.K G1 v x→k x=some o→a0d X H0 G₀ G1 D o→T v H1):rA X fa σ H T:=by
 rcases pO e with ⟨x,e1,e2⟩ | ⟨c,e1,e2⟩
 ·exact ⟨ρ,_,H0,G₀,G,e1,R,fun v G1 H1 g1 rv=>h x v G1 H1 g1 (R.more g1) rv e2 (q.mono g1.gg)⟩
 ·subst e2;exact ⟨ρ,_,H0,G₀,G,e1,R,q⟩
theorem sT {fa:TF} {k:Bool→Option So} (R:RepS X.K H0 G₀ G H σ ρ) (e:bns (fa ρ) ρ k=some o) (q:a0d X H0 G₀ G D o) {T:Bool→Hp→Prop}
  (h:∀ x G1 H1,Grow G H G1 H1→RepS X.K H0 G₀ G1 H1 σ ρ→k x=some o→a0d X H0 G₀ G1 D o→T x H1):rT X fa σ H T:=by
 rcases pO e with ⟨x,e1,e2⟩ | ⟨c,e1,e2⟩
 ·exact ⟨ρ,_,H0,G₀,G,e1,R,fun G1 H1 g1=>h x G1 H1 g1 (R.more g1) e2 (q.mono g1.gg)⟩
 ·subst e2;exact ⟨ρ,_,H0,G₀,G,e1,R,q⟩
end
section
variable {X:Cx} {st:Stmt} {rest:List Stmt} {f g:SF} {fa fb:EF} {ft:TF} {e c b:Expr} {pos:Pos}
def mL:SF:=fun ρ=>some (.nx ρ)
def bC (f g:SF):SF:=fun ρ=>match f ρ with
 | some (.nx ρ')=>g ρ'
 | r=>r
theorem eM:DB X [] mL:=⟨fun pins s σ H D I ⟨ρ,o,H0,G₀,G,e,R,q⟩=>b3m pins s σ H D I (by cases (qA e);exact q G H σ (.refl _) R)⟩
theorem aN (h1:DS X st f) (h2:DB X rest g):DB X (st::rest) (bC f g):=⟨fun pins s σ H D I ⟨ρ,o,H0,G₀,G,e,R,q⟩=>by
 unfold bC at e;split at e
 ·rename_i ρ' e1
  refine yk (thn (h1.run pins s σ H { D with nx:=fun σ' H'=>rS X g D σ' H' } I ⟨ρ,_,H0,G₀,G,e1,R,fun G' H' σ' s' R'=>⟨ρ',o,H0,G₀,G',e,R',q.mono s'⟩⟩) fun fl s1 z=>?_);cases fl with
  | next=>obtain ⟨σ',H',I',z⟩:=z;exact h2.run pins s1 σ' H' D I' z
  | ret v=>exact z
  | brk=>exact z
  | cont=>exact z
 ·rename_i z
  have hn:∀ ρ',o≠.nx ρ':=fun ρ' w=>z ρ' (by rw [e,w]);have q':a0d X H0 G₀ G { D with nx:=fun _ _=>False } o:=by
   cases o with
   | nx ρ'=>exact absurd rfl (hn ρ')
   | rt d=>exact q
   | bk ρ'=>exact q
   | ct ρ'=>exact q
   | xc c ρ'=>exact q
  refine yk (thn (h1.run pins s σ H { D with nx:=fun _ _=>False } I ⟨ρ,o,H0,G₀,G,e,R,q'⟩) fun fl s1 z=>?_);cases fl with
  | next=>obtain ⟨_,_,_,z⟩:=z;exact z.elim
  | ret v=>exact z
  | brk=>exact z
  | cont=>exact z⟩
theorem aO (h:DS X st f):DB X [st] f:=⟨b3l h.run⟩
def a1f (i:Nat) (f:SF):SF:=fun ρ=>match ρ[i]? with
 | some (.lst ds)=>f (ρ.set i (.val (.list ds)))
 | some (.dct kvs)=>f (ρ.set i (.val (.dict (kvs.map fun p=>(dU p.1,p.2)))))
 | _=>f ρ
theorem pN (i:Nat) (h:DB X rest f):DB X rest (a1f i f):=⟨fun pins s σ H D I ⟨ρ,o,H0,G₀,G,e,R,q⟩=>by
 unfold a1f at e;split at e
 ·rename_i ds hi
  obtain ⟨G',s',R'⟩:=R.freeze hi;exact h.run pins s σ H D I ⟨_,o,H0,G₀,G',e,R',q.mono s'⟩
 ·rename_i kvs hi
  obtain ⟨G',s',R'⟩:=R.freezeD hi;exact h.run pins s σ H D I ⟨_,o,H0,G₀,G',e,R',q.mono s'⟩
 ·exact h.run pins s σ H D I ⟨ρ,o,H0,G₀,G,e,R,q⟩⟩
def retS (fa:EF):SF:=fun ρ=>bns (fa ρ) ρ fun d=>some (.rt d)
theorem aW (h:DE X e fa):DS X (.Return (some e) pos) (retS fa):=⟨fun pins s σ H D I ⟨ρ,o,H0,G₀,G,e,R,q⟩=>b6n h.run pins s σ H D I (sE R e q fun x v G1 H1 g1 R1 rv e1 q1=>by
 cases (qA e1);exact q1 v G1 H1 (.refl _) R1.grow rv)⟩
def a2B (fa:EF):SF:=fun ρ=>bns (fa ρ) ρ fun _=>some (.nx ρ)
theorem b4B (h:DE X e fa) (hs:wz e none pos.line X.env=pure false:=by rfl):DS X (.Expr e pos) (a2B fa):=⟨fun pins s σ H D I ⟨ρ,o,H0,G₀,G,e,R,q⟩=>tM h.run hs pins s σ H D I (sE R e q fun x v G1 H1 g1 R1 rv e1 q1=>by
 cases (qA e1);exact q1 G1 H1 σ (.refl _) R1)⟩
def ifS (ft:TF) (f g:SF):SF:=fun ρ=>bns (ft ρ) ρ fun t=>if t then f ρ else g ρ
theorem gB {x y:List Stmt} (hc:DT X c ft) (ha:DB X x f) (hb:DB X y g):DS X (.If c x y pos) (ifS ft f g):=⟨fun pins s σ H D I ⟨ρ,o,H0,G₀,G,e,R,q⟩=>b8K hc.run ha.run hb.run pins s σ H D I (sT R e q fun t G1 H1 g1 R1 e1 q1=>by
 cases t with
 | true=>rw [if_pos rfl] at e1 ⊢;exact ⟨ρ,o,H0,G₀,G1,e1,R1,q1⟩
 | false=>rw [if_neg (by decide)] at e1 ⊢;exact ⟨ρ,o,H0,G₀,G1,e1,R1,q1⟩)⟩
def iG (i:Nat) (fa:EF):SF:=fun ρ=>bns (fa ρ) ρ fun d=>some (.nx (ρ.set i (.val d)))
theorem eK (i:Nat) {x:Str} {p:Pos} (hN:X.N.Nodup) (h:DE X e fa) (hi:X.N[i]?=some x:=by rfl) (hx:Loc X.env.scope x:=by first | exact kC rfl | exact jg rfl)
  (hs:wz e (some (.Name x p)) pos.line X.env=pure false:=by rfl) (hf:X.fn x=true∨X.env.scope.names.lookup x=some .local:=by first | exact .inl rfl | exact .inr rfl) :
  DS X (.Assign [.Name x p] e pos) (iG i fa):=⟨fun pins s σ H D I ⟨ρ,o,H0,G₀,G,e,R,q⟩=>a3j hN hi hx h.run hs hf pins s σ H D I (sE R e q fun x v G1 H1 g1 R1 rv e1 q1=>by
 cases (qA e1);exact q1 G1 H1 _ (.refl _) (R1.set rv))⟩
def a3q (i:Nat) (f:AF):SF:=fun ρ=>bns (f ρ) ρ fun ds=>if dO ds.length then some (.nx (ρ.set i (.lst ds))) else none
theorem xW (i:Nat) {x:Str} {p p2:Pos} {es:T0l} {f:AF} (hN:X.N.Nodup) (h:DA X es f) (hi:X.N[i]?=some x:=by rfl) (hx:Loc X.env.scope x:=by first | exact kC rfl | exact jg rfl)
  (hs:wz (.List es p2) (some (.Name x p)) pos.line X.env=pure false:=by rfl) (hf:X.fn x=true∨X.env.scope.names.lookup x=some .local:=by first | exact .inl rfl | exact .inr rfl) :
  DS X (.Assign [.Name x p] (.List es p2) pos) (a3q i f):=⟨fun pins s σ H D I ⟨ρ,o,H0,G₀,G,e,R,q⟩=>a3j hN hi hx (a3m h.run) hs hf pins s σ H D I (sA R e q fun ds vs G1 H1 g1 R1 rv e1 q1=>by
 split at e1
 ·rename_i hz
  cases (qA e1);exact ⟨by rw [rv.length];exact iC hz,fun a ha=>q1 G1 _ _ (.refl _) (R1.fresh ha rv)⟩
 ·cases e1)⟩
def uN (i:Nat) (fa:EF):SF:=fun ρ=>match ρ[i]? with
 | some (.lst ds)=>bns (fa ρ) ρ fun d=>if dO ds.length then some (.nx (ρ.set i (.lst (ds++[d])))) else none
 | _=>none
theorem a1q (i:Nat) {x:Str} {p ap cp:Pos} (h:DE X e fa) (hN:X.N[i]?=some x:=by rfl)
  (hv:Vis X.env.scope x:=by first | exact kC rfl | exact jg (kC rfl) | exact jg (jg rfl)) (hd:(x==("__debug__" : Str))=false:=by decide) (hcd:(x==("__classdict__" : Str))=false:=by decide)
  (hbase:ye (.Name x p) "append" X.env (eval (.Name x p) X.env)=eval (.Name x p) X.env:=by rfl)
  (hfew:((k9 cp (j4 (e::[]) X.env)).all (fun x=>!x.1)&&(yo cp (wu [] X.env)).all (fun x=>x.1.isSome)&&decide ((e::[]).length+([]:List Keyword).length+(if ([]:List Keyword).isEmpty then 0 else 1)<30))=true:=by rfl)
  (hline:(ap.endLine==cp.line)=true:=by rfl) (hst:j4 (e::[]) X.env=(false,eval e X.env)::j4 [] X.env:=by rfl) (hplain:(k9 cp (j4 [] X.env)).any (·.1)=false:=by rfl)
  (hsw:wz (.Call (.Attribute (.Name x p) "append" ap) [e] [] cp) none pos.line X.env=pure false:=by rfl) :
  DS X (.Expr (.Call (.Attribute (.Name x p) "append" ap) [e] [] cp) pos) (uN i fa):=⟨fun pins s σ H D I ⟨ρ,o,H0,G₀,G,ef,R,q⟩=>
 tM (a4z zJ vG vF pY (hZ hN hv hd hcd) (dC h.run gG hst) hbase hfew hline hst hplain) hsw pins s σ H D I (by
  unfold uN at ef;split at ef
  ·rename_i ds hi
   obtain ⟨a,xs,e1,h1,h2,h3,r⟩:=R.own hi;refine ⟨.ref a,e1,.inl ⟨rfl,xs,.of h1⟩,sE R ef q fun d v G1 H1 g1 R1 rv e2 q1=>?_⟩;split at e2
   ·rename_i hz
    cases (qA e2);exact ⟨a,xs,v,rfl,rfl,g1.hh.lst h1,by rw [r.length];exact b0h hz,q1 G1 _ σ (.refl _) (R1.wrote hi e1 ((r.mono g1.gg).append (.cons rv .nil)))⟩
   ·cases e2
  ·cases ef)⟩
def b3h (i:Nat) (fb fa:EF):SF:=fun ρ=>bns (fa ρ) ρ fun d=>match ρ[i]?,fb ρ with
 | some (.lst ds),some (.ok (.int k))=>(match ixN ds.length k with | some j=>some (.nx (ρ.set i (.lst (ds.set j d)))) | none=>none)
 | _,_=>none
end
section
variable {X:Cx} {st:Stmt} {rest:List Stmt} {f g:SF} {fa fb:EF} {ft:TF} {e c b:Expr} {pos p:Pos}
theorem b7I (i:Nat) {x:Str} {tp:Pos} (he:DE X e fa) (hb:DE X b fb) (hN:X.N[i]?=some x:=by rfl)
  (hv:Vis X.env.scope x:=by first | exact kC rfl | exact jg (kC rfl) | exact jg (jg rfl)) (hd:(x==("__debug__" : Str))=false:=by decide) (hcd:(x==("__classdict__" : Str))=false:=by decide)
  (ha:∀ v,assign (.Subscript (.Name x p) b tp) X.env v=(do
   let ov ←holding [v] (eval (.Name x p) X.env)
   let iv ←holding [v,ov] (eval b X.env)
   standAt tp
   holding [v,ov,iv] (setItem ov iv v)
   release [v,ov,iv] []):=by intro _;rfl)
  (hs:ul [.Subscript (.Name x p) b tp] e pos.line X.env=pure false:=by rfl) (hw:uk [.Subscript (.Name x p) b tp] e X.env=pure none:=by rfl)
  (h1:(wq [.Subscript (.Name x p) b tp] X.env).map (·.2)=[assign (.Subscript (.Name x p) b tp) X.env]:=by rfl) :
  DS X (.Assign [.Subscript (.Name x p) b tp] e pos) (b3h i fb fa):=⟨fun pins s σ H D I ⟨ρ,o,H0,G₀,G,ef,R,q⟩=>
 b0F he.run (b6t (hZ hN hv hd hcd) hb.run set_list ha) hs hw h1 pins s σ H D I (sE R ef q fun d v G1 H1 g1 R1 rv e1 q1=>by
  split at e1
  ·rename_i ds k hi ek
   split at e1
   ·rename_i j hj
    cases (qA e1);obtain ⟨a,xs,z1,z2,_,_,r⟩:=R1.own hi;refine ⟨_,z1,ρ,_,H0,G₀,G1,ek,R1,fun u G2 H2 g2 ru=>?_⟩;cases ru;refine ⟨a,xs,k,j,rfl,rfl,g2.hh.lst z2,by rw [r.length];exact hj,?_⟩;exact q1 G2 _ σ g2.gg ((R1.more g2).wrote hi z1 (RepAll.set (rv.mono g2.gg) j (r.mono g2.gg)))
   ·cases e1
  ·cases e1)⟩
def c0u (op:Operator) (x y:j0):Option j0:=match op,x,y with
 | .Add,.int i,.int j=>some (.int (i+j))
 | .Sub,.int i,.int j=>some (.int (i - j))
 | _,_,_=>none
def b5d (i:Nat) (op:Operator) (fa:EF):SF:=fun ρ=>match ρ[i]? with
 | some (.val x)=>bns (fa ρ) ρ fun y=>(match c0u op x y with | some d=>some (.nx (ρ.set i (.val d))) | none=>none)
 | _=>none
theorem b7K (i:Nat) {x:Str} {op:Operator} (hN:X.N.Nodup) (h:DE X e fa) (hi:X.N[i]?=some x:=by rfl) (hx:Loc X.env.scope x:=by first | exact kC rfl | exact jg rfl)
  (hf:X.fn x=true∨X.env.scope.names.lookup x=some .local:=by first | exact .inl rfl | exact .inr rfl) (ho:op=.Add∨op=.Sub:=by first | exact .inl rfl | exact .inr rfl):DS X (.AugAssign (.Name x p) op e pos) (b5d i op fa):=by
 rcases ho with rfl | rfl
 ·refine ⟨fun pins s σ H D I ⟨ρ,o,H0,G₀,G,ef,R,q⟩=>b0E hN hi hx h.run b7q hf pins s σ H D I ?_⟩
  unfold b5d at ef;split at ef
  ·rename_i x1 hx1
   obtain ⟨v,ev,rv⟩:=R.val hx1;refine ⟨v,ev,sE R ef q fun y u G1 H1 g1 R1 ru e1 q1=>?_⟩;cases rv with
   | int i'=>
    cases ru with
    | int j'=>cases (qA e1);exact ⟨_,_,rfl,rfl,q1 G1 H1 _ (.refl _) (R1.set (.int _))⟩
    | none=>cases e1
    | bool _=>cases e1
    | str _=>cases e1
    | list _ _=>cases e1
    | tuple _ _=>cases e1
    | dict _ _ _=>cases e1
   | none=>cases ru<;>cases e1
   | bool _=>cases ru<;>cases e1
   | str _=>cases ru<;>cases e1
   | list _ _=>cases ru<;>cases e1
   | tuple _ _=>cases ru<;>cases e1
   | dict _ _ _=>cases ru<;>cases e1
  ·cases ef
 ·refine ⟨fun pins s σ H D I ⟨ρ,o,H0,G₀,G,ef,R,q⟩=>b0E hN hi hx h.run b7p hf pins s σ H D I ?_⟩
  unfold b5d at ef;split at ef
  ·rename_i x1 hx1
   obtain ⟨v,ev,rv⟩:=R.val hx1;refine ⟨v,ev,sE R ef q fun y u G1 H1 g1 R1 ru e1 q1=>?_⟩;cases rv with
   | int i'=>
    cases ru with
    | int j'=>cases (qA e1);exact ⟨_,_,rfl,rfl,q1 G1 H1 _ (.refl _) (R1.set (.int _))⟩
    | none=>cases e1
    | bool _=>cases e1
    | str _=>cases e1
    | list _ _=>cases e1
    | tuple _ _=>cases e1
    | dict _ _ _=>cases e1
   | none=>cases ru<;>cases e1
   | bool _=>cases ru<;>cases e1
   | str _=>cases ru<;>cases e1
   | list _ _=>cases ru<;>cases e1
   | tuple _ _=>cases ru<;>cases e1
   | dict _ _ _=>cases ru<;>cases e1
  ·cases ef
inductive Tg where
 | nm (i:Nat)
 | tp (is:T0r)
 | nn (i:Nat) (js:T0r)
def nK:List Ent→List Nat→List j0→List Ent
 | ρ,i::is,d::ds=>nK (ρ.set i (.val d)) is ds
 | ρ,_,_=>ρ
def tgD (t:Tg) (ρ:List Ent) (d:j0):Option (List Ent):=match t,d with
 | .nm i,d=>some (ρ.set i (.val d))
 | .tp is,.tuple ds=>if is.length=ds.length then some (nK ρ is ds) else none
 | .nn i js,.tuple [d,.tuple ds]=>if js.length=ds.length then some (nK (ρ.set i (.val d)) js ds) else none
 | _,_=>none
structure DG (X:Cx) (tg:Expr) (t:Tg):Prop where
 run:∀ ρ d ρ',tgD t ρ d=some ρ'→PGD X tg ρ d ρ'
structure DGs (X:Cx) (ts:T0l) (is:T0r):Prop where
 run:∀ ρ ds,is.length=ds.length→PGsD X ts ρ ds (nK ρ is ds)
theorem lX (i:Nat) {x:Str} (hN:X.N.Nodup) (hi:X.N[i]?=some x:=by rfl) (hx:Loc X.env.scope x:=by first | exact kC rfl | exact jg rfl) (hf:X.fn x=true∨X.env.scope.names.lookup x=some .local:=by first | exact .inl rfl | exact .inr rfl) :
  DG X (.Name x pos) (.nm i):=⟨fun ρ d ρ' h=>by cases (qA h);exact a4y i hN hi hx hf⟩
theorem bP:DGs X [] []:=⟨fun ρ ds h=>by
 cases ds with
 | nil=>exact b0J
 | cons _ _=>cases h⟩
theorem aG (i:Nat) {x:Str} {es:T0l} {is:T0r} (hN:X.N.Nodup) (h:DGs X es is) (hi:X.N[i]?=some x:=by rfl) (hx:Loc X.env.scope x:=by first | exact kC rfl | exact jg rfl)
  (hf:X.fn x=true∨X.env.scope.names.lookup x=some .local:=by first | exact .inl rfl | exact .inr rfl)
  (hs:(wq (.Name x pos::es) X.env).map (·.2)=assign (.Name x pos) X.env::(wq es X.env).map (·.2):=by rfl):DGs X (.Name x pos::es) (i::is):=⟨fun ρ ds hl=>by
 cases ds with
 | nil=>cases hl
 | cons d ds=>exact a8u (a4y i hN hi hx hf) (h.run _ ds (by simpa using hl)) hs⟩
theorem cR {es:T0l} {is:T0r} {k:Nat} (hc:X.calm=true) (h:DGs X es is) (hn:(wq es X.env).length=is.length:=by rfl) (hst:(wq es X.env).findIdx? (·.1)=none:=by rfl):DG X (.Tuple es k pos) (.tp is):=⟨fun ρ d ρ' hq=>by
 cases d with
 | tuple ds=>
  have hq:(if is.length=ds.length then some (nK ρ is ds) else none)=some ρ':=hq;split at hq
  ·rename_i hl
   cases (qA hq);exact b3s hc (h.run ρ ds hl) (hn.trans hl) hst
  ·cases hq
 | none=>cases hq
 | bool _=>cases hq
 | int _=>cases hq
 | str _=>cases hq
 | list _=>cases hq
 | dict _=>cases hq⟩
theorem b5X {i:Nat} {js:T0r} {ρ ρ':List Ent} {d:j0} (h:tgD (.nn i js) ρ d=some ρ'):∃ a ds,d=.tuple [a,.tuple ds]∧js.length=ds.length∧ρ'=nK (ρ.set i (.val a)) js ds:=by
 unfold tgD at h;split at h
 ·rename_i e;cases e
 ·rename_i e;cases e
 ·rename_i i' js' a ds e
  cases e;split at h
  ·rename_i hl;exact ⟨a,ds,rfl,hl,(qA h).symm⟩
  ·cases h
 ·cases h
def rG (X:Cx) (t:Tg):TG:=fun v σ H Q=>∃ ρ d ρ' H0 G₀ G,tgD t ρ d=some ρ'∧RepS X.K H0 G₀ G H σ ρ∧Rep X.K G v d∧∀ σ',RepS X.K H0 G₀ G H σ' ρ'→Q σ' H
theorem DG.pg {tg:Expr} {t:Tg} (h:DG X tg t):PG X tg (rG X t):=fun pins s σ H v u Q I r ⟨ρ,d,ρ',H0,G₀,G,e,R,rv,q⟩=>(h.run ρ d ρ' e).run pins s σ H v u Q I r ⟨H0,G₀,G,R,rv,q⟩
def a7X (t:Tg) (fa:EF):SF:=fun ρ=>bns (fa ρ) ρ fun d=>(tgD t ρ d).map So.nx
theorem b7H {tg:Expr} {t:Tg} (h:DE X e fa) (hg:DG X tg t) (hs:ul [tg] e pos.line X.env=pure false:=by rfl) (hw:uk [tg] e X.env=pure none:=by rfl)
  (h1:(wq [tg] X.env).map (·.2)=[assign tg X.env]:=by rfl):DS X (.Assign [tg] e pos) (a7X t fa):=⟨fun pins s σ H D I ⟨ρ,o,H0,G₀,G,ef,R,q⟩=>
 b0F h.run hg.pg hs hw h1 pins s σ H D I (sE R ef q fun d v G1 H1 g1 R1 rv e1 q1=>by
  obtain ⟨ρ',e2,rfl⟩:=qO.mp e1
  exact ⟨ρ,d,ρ',H0,G₀,G1,e2,R1,rv,fun σ' R'=>q1 G1 H1 σ' (.refl _) R'⟩)⟩
def c0B (X:Cx) (H0 G₀ G:Hp) (ρ:List Ent) (H:Hp) (R:It→Hp→Prop):Re (List j0)→Prop
 | .ok ds=>∀ J G' H',Grow G H G' H'→Walk X.K J G' ds→R J H'
 | .ex c=>lJ X H0 G₀ G ρ c
def rIt (X:Cx) (f:AF):TI:=fun σ H R=>∃ ρ r H0 G₀ G,f ρ=some r∧RepS X.K H0 G₀ G H σ ρ∧c0B X H0 G₀ G ρ H R r
structure DI (X:Cx) (tg iter:Expr) (f:AF):Prop where
 run:PI X tg iter (rIt X f)
theorem DI.pid {tg iter:Expr} {f:AF} (h:DI X tg iter f) {ρ:List Ent} {ds:T0j} (e:f ρ=some (.ok ds)):PID X tg iter ρ ds:=⟨fun pins s σ H R I ⟨H0,G₀,G,S,q⟩=>h.run pins s σ H R I ⟨ρ,_,H0,G₀,G,e,S,q⟩⟩
theorem b2g {tg iter:Expr} {f:AF} (h:∀ ρ r,f ρ=some r→∃ ds,r=.ok ds∧PID X tg iter ρ ds):DI X tg iter f:=⟨fun pins s σ H R I ⟨ρ,r,H0,G₀,G,e,S,q⟩=>by
 obtain ⟨ds,rfl,hp⟩:=h ρ r e
 exact hp.run pins s σ H R I ⟨H0,G₀,G,S,q⟩⟩
def uZ:j0→Option (List j0)
 | .list ds=>some ds
 | .tuple ds=>some ds
 | _=>none
def dQ (fa:EF):AF:=fun ρ=>bnd (fa ρ) fun x=>lft (uZ x)
theorem bY {tg iter:Expr} (h:DE X iter fa):DI X tg iter (dQ fa):=⟨fun pins s σ H R I ⟨ρ,r,H0,G₀,G,e,S,q⟩=>by
 rcases bG e with ⟨x,e1,e2⟩ | ⟨c,e1,e2⟩
 ·obtain ⟨ds,e3,rfl⟩:=aZ e2
  cases x with
  | list es=>cases (qA e3);exact (b0H (h.pd e1)).run pins s σ H R I ⟨H0,G₀,G,S,q⟩
  | tuple es=>cases (qA e3);exact (b3q (h.pd e1)).run pins s σ H R I ⟨H0,G₀,G,S,q⟩
  | none=>cases e3
  | bool _=>cases e3
  | int _=>cases e3
  | str _=>cases e3
  | dict _=>cases e3
 ·subst e2
  exact a7a h.run pins s σ H R I ⟨ρ,_,H0,G₀,G,e1,S,q⟩⟩
def intD:j0→Option Int
 | .int i=>some i
 | _=>none
theorem gS {d:j0} {i:Int} (h:intD d=some i):d=.int i:=by
 cases d<;>first | (cases h;done) | (cases (qA h);rfl)
def a7u (n:Int):Bool:=decide (-(2 ^ 62)≤n)&&decide (n<2 ^ 62)
theorem a5b {n:Int} (h:a7u n=true):-(2 ^ 62)≤n∧n<2 ^ 62:=by
 unfold a7u at h;rw [qM] at h;exact ⟨of_decide_eq_true h.1,of_decide_eq_true h.2⟩
def a3g (fa:EF):AF:=fun ρ=>match fa ρ with
 | some (.ok (.int n))=>if a7u n then some (.ok (sI 0 n.toNat)) else none
 | _=>none
theorem a7M {tg a:Expr} (hm:X.mg "range" = none) (h:DE X a fa) (hs:j4 [a] X.env=[(false,eval a X.env)]:=by rfl) (hs':j4 [a] X.env=(false,eval a X.env)::j4 [] X.env:=by rfl) (hg:Gl X "range":=by rfl) :
  DI X tg (.Call (.Name "range" p) [a] [] pos) (a3g fa):=b2g fun ρ r e=>by
 unfold a3g at e;split at e
 ·rename_i n en
  split at e
  ·rename_i hr
   exact ⟨_,(qA e).symm,a5S hm (h.pd en) (a5b hr).1 (a5b hr).2 hs hs' hg⟩
  ·cases e
 ·cases e
def gA (t:Tg) (fb:SF):List j0→List Ent→Option So
 | [],ρ=>some (.nx ρ)
 | d::ds,ρ=>match tgD t ρ d with
  | none=>none
  | some ρ1=>(match fb ρ1 with
   | some (.nx ρ2)=>gA t fb ds ρ2
   | some (.ct ρ2)=>gA t fb ds ρ2
   | some (.bk ρ2)=>some (.nx ρ2)
   | some (.rt d)=>some (.rt d)
   | some (.xc c ρ2)=>some (.xc c ρ2)
   | none=>none)
def a1J (t:Tg) (fi:AF) (fb:SF):SF:=fun ρ=>bns (fi ρ) ρ fun ds=>gA t fb ds ρ
theorem sY {tg iter:Expr} {body:List Stmt} {t:Tg} {fi:AF} (hp:PassesOwn (model X.prog X.w) X.A X.env X.xe) (hc:X.calm=true) (hi:DI X tg iter fi) (hg:DG X tg t) (hb:DB X body g)
  (hs:∀ x,wj iter X.env x=pure x:=by intro _;rfl):DS X (.For tg iter body [] pos) (a1J t fi g):=⟨fun pins s σ H D I ⟨ρ,o,H0,G₀,G,ef,R,q⟩=>
 b6p hp hc hi.run hg.pg hb.run hs pins s σ H D I (by
  rcases pO ef with ⟨ds,e1,e2⟩ | ⟨c,e1,e2⟩
  ·refine ⟨ρ,_,H0,G₀,G,e1,R,fun J G1 H1 g1 wk=>?_⟩
   refine ⟨fun i m σ' H'=>m=ds.length - i∧i≤ds.length∧∃ ρ' G',bB G1 G'∧RepS X.K H0 G₀ G' H' σ' ρ'∧gA t g (ds.drop i) ρ'=some o,⟨ds.length,by simp,jR _,ρ,G1,.refl _,R.more g1,by simpa using e2⟩,?_⟩;rintro i m σ' H' ⟨rfl,hin,ρ',G',s',R',e'⟩;obtain ⟨wgo,wstop⟩:=wk i G' H' s' R'.sub;by_cases hlt:i<ds.length
   ·rw [List.drop_eq_getElem_cons hlt] at e'
    have hx:ds[i]?=some ds[i]:=qK hlt;refine .inr ⟨(wgo _ hx).1,fun σ2 H2=>∃ ρ2 G2,bB G1 G2∧RepS X.K H0 G₀ G2 H2 σ2 ρ2∧gA t g (ds.drop (i+1)) ρ2=some o,?_,fun x H2 y=>?_⟩
    ·rintro σ2 H2 ⟨ρ2,G2,s2,R2,e2⟩
     exact ⟨ds.length - (i+1),by omega,rfl,hlt,ρ2,G2,s2,R2,e2⟩
    ·obtain ⟨G2,g2,rx⟩:=(wgo _ hx).2 x H2 y
     unfold gA at e';split at e'
     ·cases e'
     ·rename_i ρ1 et
      refine ⟨ρ',ds[i],ρ1,H0,G₀,G2,et,R'.more g2,rx,fun σ3 R3=>?_⟩;have sg:bB G1 G2:=s'.trans g2.gg;split at e'
      ·rename_i ρ2 eb
       exact ⟨ρ1,_,H0,G₀,G2,eb,R3,fun G4 H4 σ4 s4 R4=>⟨ρ2,G4,sg.trans s4,R4,e'⟩⟩
      ·rename_i ρ2 eb
       exact ⟨ρ1,_,H0,G₀,G2,eb,R3,fun G4 H4 σ4 s4 R4=>⟨ρ2,G4,sg.trans s4,R4,e'⟩⟩
      ·rename_i ρ2 eb
       cases (qA e');exact ⟨ρ1,_,H0,G₀,G2,eb,R3,fun G4 H4 σ4 s4 R4=>q G4 H4 σ4 (g1.gg.trans (sg.trans s4)) R4⟩
      ·rename_i d' eb
       cases (qA e');exact ⟨ρ1,_,H0,G₀,G2,eb,R3,fun v G4 H4 s4 gr rv=>q v G4 H4 (g1.gg.trans (sg.trans s4)) gr rv⟩
      ·rename_i c' ρ2 eb
       cases (qA e');exact ⟨ρ1,_,H0,G₀,G2,eb,R3,lJ.mono q (g1.gg.trans sg)⟩
      ·cases e'
   ·have hi':i=ds.length:=by omega
    subst hi';rw [List.drop_length] at e';cases (qA e');exact .inl ⟨wstop (qR _),q G' H' σ' (g1.gg.trans s') R'⟩
  ·subst e2
   exact ⟨ρ,_,H0,G₀,G,e1,R,q⟩)⟩
def mD (ft:TF) (fb:SF):Nat→SF
 | 0=>fun _=>none
 | n+1=>fun ρ=>bns (ft ρ) ρ fun t=>if t then (match fb ρ with
   | some (.nx ρ2)=>mD ft fb n ρ2
   | some (.ct ρ2)=>mD ft fb n ρ2
   | some (.bk ρ2)=>some (.nx ρ2)
   | some (.rt d)=>some (.rt d)
   | some (.xc c ρ2)=>some (.xc c ρ2)
   | none=>none) else some (.nx ρ)
theorem b1Y (n:Nat) {body:List Stmt} (hp:PassesOwn (model X.prog X.w) X.A X.env X.xe) (hc:DT X c ft) (hb:DB X body g):DS X (.While c body [] pos) (mD ft g n):=⟨fun pins s σ H D I ⟨ρ,o,H0,G₀,G,ef,R,q⟩=>
 b0D hp hc.run hb.run pins s σ H D I (by
  refine ⟨fun m σ' H'=>∃ ρ' G',bB G G'∧RepS X.K H0 G₀ G' H' σ' ρ'∧mD ft g m ρ'=some o,⟨n,ρ,G,.refl _,R,ef⟩,?_⟩;rintro m σ' H' ⟨ρ',G',s',R',e'⟩;cases m with
  | zero=>cases e'
  | succ m=>
   unfold mD at e';refine sT R' e' (q.mono s') fun tt G1 H1 g1 R1 e1 q1=>?_;cases tt with
   | false=>
    rw [if_neg (by decide)] at e1 ⊢;cases (qA e1);exact q1 G1 H1 σ' (.refl _) R1
   | true=>
    rw [if_pos rfl] at e1 ⊢;refine ⟨fun σ2 H2=>∃ ρ2 G2,bB G G2∧RepS X.K H0 G₀ G2 H2 σ2 ρ2∧mD ft g m ρ2=some o,fun σ2 H2 z=>⟨m,zV m,z⟩,?_⟩;have sg:bB G G1:=s'.trans g1.gg;split at e1
    ·rename_i ρ2 eb
     exact ⟨ρ',_,H0,G₀,G1,eb,R1,fun G4 H4 σ4 s4 R4=>⟨ρ2,G4,sg.trans s4,R4,e1⟩⟩
    ·rename_i ρ2 eb
     exact ⟨ρ',_,H0,G₀,G1,eb,R1,fun G4 H4 σ4 s4 R4=>⟨ρ2,G4,sg.trans s4,R4,e1⟩⟩
    ·rename_i ρ2 eb
     cases (qA e1);exact ⟨ρ',_,H0,G₀,G1,eb,R1,fun G4 H4 σ4 s4 R4=>q1 G4 H4 σ4 s4 R4⟩
    ·rename_i d' eb
     cases (qA e1);exact ⟨ρ',_,H0,G₀,G1,eb,R1,fun v G4 H4 s4 gr rv=>q1 v G4 H4 s4 gr rv⟩
    ·rename_i c' ρ2 eb
     cases (qA e1);exact ⟨ρ',_,H0,G₀,G1,eb,R1,q1⟩
    ·cases e1)⟩
end
def tV (t:Tg) (ρb:List Ent) (ft:TF) (fe:EF):List j0→Option (List j0)
 | []=>some []
 | d::ds=>match tgD t ρb d with
  | none=>none
  | some ρx=>(match ft ρx with
   | some (.ok true)=>(match fe ρx with
    | some (.ok v)=>(tV t ρb ft fe ds).map (v::·)
    | _=>none)
   | some (.ok false)=>tV t ρb ft fe ds
   | _=>none)
def cN (t:Tg) (cap:T0e) (fi:AF) (ft:TF) (fe:EF):EF:=fun ρ=>bnd (fi ρ) fun ds=>if dO ds.length then lft ((tV t (bS cap ρ) ft fe ds).map .list) else none
def ttT:TF:=fun _=>some (.ok true)
def cX (t:Tg) (ρb:List Ent) (d:j0):List Ent:=(tgD t ρb d).getD []
def cT (t:Tg) (ρb:List Ent) (ft:TF) (d:j0):Bool:=match ft (cX t ρb d) with
 | some (.ok b)=>b
 | _=>false
def cV (t:Tg) (ρb:List Ent) (fe:EF) (d:j0):j0:=match fe (cX t ρb d) with
 | some (.ok v)=>v
 | _=>.none
theorem pG {t:Tg} {ρb:List Ent} {ft:TF} {fe:EF}:∀ {ds es:T0j},tV t ρb ft fe ds=some es →
  (∀ d∈ds,tgD t ρb d=some (cX t ρb d)∧ft (cX t ρb d)=some (.ok (cT t ρb ft d))∧(cT t ρb ft d=true→fe (cX t ρb d)=some (.ok (cV t ρb fe d))))∧es=(ds.filter (cT t ρb ft)).map (cV t ρb fe)
 | [],es,h=>by
  cases (qA h);exact ⟨fun _ z=>absurd z (by simp),rfl⟩
 | d::ds,es,h=>by
  unfold tV at h;split at h
  ·cases h
  ·rename_i ρx et
   have ex:cX t ρb d=ρx:=by unfold cX;rw [et];rfl
   split at h
   ·rename_i e1
    have e1':cT t ρb ft d=true:=by unfold cT;rw [ex,e1]
    split at h
    ·rename_i v ev
     obtain ⟨es',e3,rfl⟩:=qO.mp h;obtain ⟨i1,i2⟩:=pG e3;have evv:cV t ρb fe d=v:=by unfold cV;rw [ex,ev]
     refine ⟨fun d' hd=>?_,?_⟩
     ·rcases qF.mp hd with rfl | hd
      ·rw [ex,e1',evv];exact ⟨et,e1,fun _=>ev⟩
      ·exact i1 d' hd
     ·rw [jE e1',qU,evv,i2]
    ·cases h
   ·rename_i e1
    have e1':cT t ρb ft d=false:=by unfold cT;rw [ex,e1]
    obtain ⟨i1,i2⟩:=pG h;refine ⟨fun d' hd=>?_,?_⟩
    ·rcases qF.mp hd with rfl | hd
     ·rw [ex,e1'];exact ⟨et,e1,fun z=>by cases z⟩
     ·exact i1 d' hd
    ·rw [jh (by rw [e1'];decide),i2]
   ·cases h
def a0u (cap:T0e):Tg→Bool
 | .nm i=>(match cap[i]? with | some (some _)=>false | _=>true)
 | .tp is=>is.all fun i=>match cap[i]? with | some (some _)=>false | _=>true
 | .nn i js=>(match cap[i]? with | some (some _)=>false | _=>true)&&js.all fun i=>match cap[i]? with | some (some _)=>false | _=>true
theorem oV:∀ {a b:List Ent} {i:Nat} {e:Ent},Weak a b→(b[i]?=some .no∨b[i]?=none)→Weak (a.set i e) b
 | _,_,_,_,.nil,_=>.nil
 | _::_,_,0,_,.keep w,h=>by
  rcases h with h | h
  ·cases (qA h);exact .no w
  ·cases h
 | _::_,_,0,_,.no w,_=>.no w
 | _::_,_,i+1,_,.keep w,h=>.keep (oV w (by simpa using h))
 | _::_,_,i+1,_,.no w,h=>.no (oV w (by simpa using h))
theorem a3R {cap:T0e} {ρ:List Ent} {i:Nat} (h:(match cap[i]? with | some (some _)=>false | _=>true)=true):(bS cap ρ)[i]?=some .no∨(bS cap ρ)[i]?=none:=by
 unfold bS;rw [qW];cases e:cap[i]? with
 | none=>exact .inr rfl
 | some o=>
  rw [e] at h;cases o with
  | none=>exact .inl rfl
  | some j=>cases h
theorem a0n {cap:T0e} {ρ:List Ent}:∀ {is:T0r} {ds:T0j} {a:List Ent},(is.all fun i=>match cap[i]? with | some (some _)=>false | _=>true)=true→Weak a (bS cap ρ)→Weak (nK a is ds) (bS cap ρ)
 | [],ds,a,_,w=>by cases ds<;>exact w
 | i::is,[],a,_,w=>w
 | i::is,d::ds,a,h,w=>by
  rw [zL,qM] at h;exact a0n (is:=is) (ds:=ds) (a:=a.set i (.val d)) h.2 (oV w (a3R h.1))
theorem a0e {cap:T0e} {ρ ρx:List Ent} {t:Tg} {d:j0} (hf:a0u cap t=true) (h:tgD t (bS cap ρ) d=some ρx):Weak ρx (bS cap ρ):=by
 cases t with
 | nm i=>cases (qA h);exact oV (.refl _) (a3R hf)
 | tp is=>
  cases d with
  | tuple ds=>
   have h:(if is.length=ds.length then some (nK (bS cap ρ) is ds) else none)=some ρx:=h;split at h
   ·cases (qA h);exact a0n hf (.refl _)
   ·cases h
  | none=>cases h
  | bool _=>cases h
  | int _=>cases h
  | str _=>cases h
  | list _=>cases h
  | dict _=>cases h
 | nn i js=>
  obtain ⟨a,ds,rfl,hl,rfl⟩:=b5X h;have hf:((match cap[i]? with | some (some _)=>false | _=>true)&&js.all fun i=>match cap[i]? with | some (some _)=>false | _=>true)=true:=hf;rw [qM] at hf;exact a0n hf.2 (oV (.refl _) (a3R hf.1))
section
variable {X:Cx} {elt iter tg:Expr} {ifs:T0l} {scope:Scope} {pos spos p:Pos} {N':T0o} {cap:T0e} {t:Tg} {fi:AF} {ft:TF} {fe:EF}
structure DTs (X:Cx) (ifs:T0l) (f:TF):Prop where
 run:∀ ρ b,f ρ=some (.ok b)→PTsD X ifs ρ b
theorem cJ:DTs X [] ttT:=⟨fun ρ b e=>by cases (qA e);exact b0A⟩
theorem a0l {c:Expr} (h:DT X c ft):DTs X [c] ft:=⟨fun ρ b e=>b0z (h.ptd e)⟩
theorem cK (hc:X.calm=true) (B:Blk X scope N' cap) (hi:DI X tg iter fi) (hf:a0u cap t=true) (hg:∀ C s₃ H₃ fp,DG (bH X scope N' C s₃ H₃ fp) tg t) (ht:∀ C s₃ H₃ fp,DTs (bH X scope N' C s₃ H₃ fp) ifs ft)
  (he:∀ C s₃ H₃ fp,DE (bH X scope N' C s₃ H₃ fp) elt fe) (hs:∀ x,wj iter X.env x=pure x:=by intro _;rfl):DE X (.ListComp elt [⟨tg,iter,ifs,0⟩] scope pos) (cN t cap fi ft fe):=⟨fun pins s σ H Q I ⟨ρ,r,H0,G₀,G,e,R,q⟩=>by
 rcases bG e with ⟨ds,e1,e2⟩ | ⟨c,e1,e2⟩
 ·split at e2
  ·rename_i hz
   obtain ⟨d,ed,rfl⟩:=aZ e2;obtain ⟨es,e3,rfl⟩:=qO.mp ed;obtain ⟨k1,rfl⟩:=pG e3
   exact (b3x (xs:=ds) (φ:=fun d=>d) (ρb:=bS cap ρ) (ρx:=cX t (bS cap ρ)) (cnd:=cT t (bS cap ρ) ft) (f:=cV t (bS cap ρ) fe) hc B (by simpa using hi.pid e1) (.refl _) (fun x hx=>a0e hf (k1 x hx).1) (iC hz)
    (fun C s₃ H₃ fp x hx=>(hg C s₃ H₃ fp).run _ _ _ (k1 x hx).1) (fun C s₃ H₃ fp x hx=>(ht C s₃ H₃ fp).run _ _ (k1 x hx).2.1) (fun C s₃ H₃ fp x hx hcx=>(he C s₃ H₃ fp).pd ((k1 x hx).2.2 hcx)) hs).run H0 G₀ G pins s σ H Q I R q
  ·cases e2
 ·subst e2
  exact a7c (g:=fun _ _ _ _=>False) (tc:=fun _ _ _=>False) (te:=fun _ _ _=>False) hc B hi.run (fun _ _ _ _ _ _ _ _ _ _ _ _ _ z=>z.elim) (fun _ _ _ _ _ _ _ _ _ _ z=>z.elim) (fun _ _ _ _ _ _ _ _ _ _ z=>z.elim) hs pins s σ H Q I
   ⟨ρ,_,H0,G₀,G,e1,R,q⟩⟩
theorem a7K (i:Nat) {x:Str} (hN:X.N.Nodup) (hc:X.calm=true) (B:Blk X scope N' cap) (hi:DI X tg iter fi) (hf:a0u cap t=true) (hg:∀ C s₃ H₃ fp,DG (bH X scope N' C s₃ H₃ fp) tg t) (ht:∀ C s₃ H₃ fp,DTs (bH X scope N' C s₃ H₃ fp) ifs ft)
  (he:∀ C s₃ H₃ fp,DE (bH X scope N' C s₃ H₃ fp) elt fe)
  (hxi:X.N[i]?=some x:=by rfl) (hx:X.env.scope.names.lookup x=some .local:=by rfl)
  (hsw:wz (.ListComp elt [⟨tg,iter,ifs,0⟩] scope pos) (some (.Name x p)) spos.line X.env=pure true:=by rfl)
  (hs:∀ x,wj iter X.env x=pure x:=by intro _;rfl):DS X (.Assign [.Name x p] (.ListComp elt [⟨tg,iter,ifs,0⟩] scope pos) spos) (iG i (cN t cap fi ft fe)):=⟨fun pins s σ H D I ⟨ρ,o,H0,G₀,G,e,R,q⟩=>by
 rcases pO e with ⟨d,e1,e2⟩ | ⟨c,e1,e2⟩
 ·cases (qA e2)
  rcases bG e1 with ⟨ds,e3,e4⟩ | ⟨c,_,e4⟩
  ·split at e4
   ·rename_i hz
    obtain ⟨d',ed,z⟩:=aZ e4;cases z;obtain ⟨es,e5,rfl⟩:=qO.mp ed;obtain ⟨k1,rfl⟩:=pG e5
    exact (b0C i (xs:=ds) (φ:=fun d=>d) (ρb:=bS cap ρ) (ρx:=cX t (bS cap ρ)) (cnd:=cT t (bS cap ρ) ft) (f:=cV t (bS cap ρ) fe) hN hc B (by simpa using hi.pid e3) (.refl _) (fun x hx=>a0e hf (k1 x hx).1) (iC hz)
     (fun C s₃ H₃ fp x hx=>(hg C s₃ H₃ fp).run _ _ _ (k1 x hx).1) (fun C s₃ H₃ fp x hx=>(ht C s₃ H₃ fp).run _ _ (k1 x hx).2.1) (fun C s₃ H₃ fp x hx hcx=>(he C s₃ H₃ fp).pd ((k1 x hx).2.2 hcx)) hxi hx hsw hs).run pins s σ H D I ⟨H0,G₀,G,R,q⟩
   ·cases e4
  ·cases e4
 ·subst e2
  rcases bG e1 with ⟨ds,e3,e4⟩ | ⟨c',e3,e4⟩
  ·split at e4
   ·obtain ⟨_,_,z⟩:=aZ e4;cases z
   ·cases e4
  ·cases e4
   exact a3i (g:=fun _ _ _ _=>False) (tc:=fun _ _ _=>False) (te:=fun _ _ _=>False) hN hxi hx hc B hi.run (fun _ _ _ _ _ _ _ _ _ _ _ _ _ z=>z.elim) (fun _ _ _ _ _ _ _ _ _ _ z=>z.elim) (fun _ _ _ _ _ _ _ _ _ _ z=>z.elim) hsw hs pins s σ H D I
    ⟨ρ,_,H0,G₀,G,e3,R,q⟩⟩
end
def oW (m:Nat) (ds:T0j):List Ent:=ds.map .val++zT (m - ds.length) .no
def dB (m n:Nat) (f:SF) (ds:T0j):Mm j0:=if ds.length=n then (match f (oW m ds) with
 | some (.rt d)=>some (.ok d)
 | some (.nx _)=>some (.ok .none)
 | _=>none) else none
abbrev aI (P:Program) (w:World) (K:qC) (mg:T0d) (base:Heap) (x:Str) (k:Nat) (ps:T0o) (F:List j0→Mm j0):Prop:=
 Callee P w K mg base x k ps fun ds d=>F ds=some (.ok d)
section
variable {P:Program} {w:World} {K:qC} {mg:T0d} {base:Heap} {X:Cx} {e:Expr} {es:T0l} {pos p:Pos} {x:Str} {k:Nat} {ps N:T0o} {F:List j0→Mm j0}
def aP (F:List j0→Mm j0) (fa:AF):EF:=fun ρ=>bnd (fa ρ) fun ds=>match F ds with
 | some (.ok d)=>some (.ok d)
 | _=>none
theorem aM {fa:AF} (C:aI X.prog X.w X.K X.mg X.base x k ps F) (hr:Room k X.A) (ha:DA X (e::es) fa) (hg:Gl X x:=by rfl) (hdb:(x==("__debug__" : Str))=false:=by decide)
  (he:j4 (e::es) X.env=(false,eval e X.env)::j4 es X.env:=by rfl) (hpl:(k9 pos (j4 es X.env)).any (·.1)=false:=by rfl):DE X (.Call (.Name x p) (e::es) [] pos) (aP F fa):=⟨fun pins s σ H Q I ⟨ρ,r,H0,G₀,G,e',R,q⟩=>by
 obtain ⟨f,fd,a,b,c,Fk⟩:=C.ex;refine b3w Fk hr hg a b c .nil (b8M (X:=X)) ha.run hdb he hpl pins s σ H Q I (bA R e' q.x fun ds vs G1 H1 g1 R1 rv e1=>?_);split at e1
 ·rename_i d ed
  cases (qA e1);exact ⟨G1,ds,d,⟨g1.sub,R1.tab⟩,by simpa using rv,ed,fun v G2 H2 g2 r2=>q v G2 H2 (g1.trans g2) r2⟩
 ·cases e1⟩
theorem uU (N:T0o) (ds:T0j):hV N ds=oW N.length ds:=rfl
theorem b7v {st:Stmt} {f:SF} {fa:Addr} {fd:w5} (m n:Nat) (Fu:Fun K x x st fa fd) (S:FnScope N ps (aD st)) (hm:N.length=m) (hn:ps.length=n)
  (body:∀ (cdv:Value) (A:Around) (outer:List Env) (s:Shared) (H:Hp) (E:XK),Room k (A.deeper (yn x (aD st) s.heap.objs.size fa cdv))→DB (fcx P w K mg base N x (aD st) fa cdv A outer s H E) (bL st) f) :
  FnOk P w K mg base CX0 (k+1) fa fd ps (spD K fun ds d=>dB m n f ds=some (.ok d)):=by
 refine Fu.ok S (fun vs H Q E ⟨G,ds,d,s,r,hF,_⟩=>?_) (fun cdv A outer s H vs Q E hr ⟨G,ds,d,sm,r,hF,q⟩=>?_)
 ·have hF:dB m n f ds=some (.ok d):=hF
  unfold dB at hF;split at hF
  ·rename_i hl;rw [r.length,hl,hn]
  ·cases hF
 ·have hF:dB m n f ds=some (.ok d):=hF
  unfold dB at hF;split at hF
  ·rw [←hm,←uU] at hF
   split at hF
   ·rename_i d' e
    cases (qA hF);exact ⟨_,(body cdv A outer s H E hr).run,hV N ds,_,H,G,G,e,fD sm r,fun v G' H' _ g rv=>q v G' H' g rv⟩
   ·rename_i ρ' e
    cases (qA hF);exact ⟨_,(body cdv A outer s H E hr).run,hV N ds,_,H,G,G,e,fD sm r,fun G' H' σ' _ R'=>q .non G' H' R'.grow .none⟩
   ·cases hF
  ·cases hF
theorem aU {st:Stmt} {f:SF} (m n:Nat) (D:Def K mg x st) (S:FnScope N ps (aD st)) (hm:N.length=m) (hn:ps.length=n)
  (hb:∀ (kV doc pm:Value) (an:T0i) (cdv ct:Value) (us:T0k),us.length=ps.length→yy (jk x x (eY st) (bL st) (aD st) .none kV doc pm an cdv ct) ⟨us,[]⟩=pure (ps.zip us))
  (body:∀ (fa:Addr) (cdv:Value) (A:Around) (outer:List Env) (s:Shared) (H:Hp) (E:XK),Room k (A.deeper (yn x (aD st) s.heap.objs.size fa cdv))→DB (fcx P w K mg base N x (aD st) fa cdv A outer s H E) (bL st) f) :
  aI P w K mg base x (k+1) ps (dB m n f):=by
 obtain ⟨fa,fd,Fu,hmg⟩:=D.ex;exact ⟨fa,fd,hmg,Fu.kp,Fu.binds hb,b7v m n Fu S hm hn fun cdv A outer s H E hr=>body fa cdv A outer s H E hr⟩
end
def eT {α:Type} (f:j0→Option α):List j0→Option (List α)
 | []=>some []
 | d::ds=>match f d with
  | none=>none
  | some a=>(eT f ds).map (a::·)
def b0i:j0→Option Str
 | .str i=>some i
 | _=>none
theorem a2Y {d:j0} {i:Str} (h:b0i d=some i):d=.str i:=by
 cases d<;>first | (cases h;done) | (cases (qA h);rfl)
theorem cO {α:Type} {f:j0→Option α} {g:α→j0} (h:∀ d a,f d=some a→d=g a):∀ {ds:T0j} {as:List α},eT f ds=some as→ds=as.map g
 | [],as,e=>by cases (qA e);rfl
 | d::ds,as,e=>by
  unfold eT at e;split at e
  ·cases e
  ·rename_i a ea
   obtain ⟨as',e',rfl⟩:=qO.mp e;rw [qU,←h d a ea,cO h e']
theorem pP {α:Type} {f:j0→Option α} {g:α→j0} (h:∀ a,f (g a)=some a):∀ as:List α,eT f (as.map g)=some as
 | []=>rfl
 | a::as=>by rw [qU,eT,h a];show (eT f (as.map g)).map (a::·)=_;rw [pP h as];rfl
theorem mY (ns:T0q):eT intD (ns.map .int)=some ns:=pP (g:=.int) (fun _=>rfl) ns
section
variable {X:Cx} {x y d:j0}
theorem b0V {op:Operator} {g:Int→Int→Int} {i j:Int} (ho:OpR X (yg op) (rI0 fun i j=>.int (g i j))):OpD X op (.int i) (.int j) (.int (g i j)):=⟨_,ho,fun v u G H Q s rv ru q=>by
 cases rv;cases ru;exact ⟨_,_,rfl,rfl,q _ _ _ (.refl s) (.int _)⟩⟩
theorem a3n {op:Operator} {C:Int→Int→Prop} {g:Int→Int→Int} {i j:Int} (ho:OpR X (yg op) (rI C fun i j=>.int (g i j))) (hc:C i j):OpD X op (.int i) (.int j) (.int (g i j)):=⟨_,ho,fun v u G H Q s rv ru q=>by
 cases rv;cases ru;exact ⟨_,_,rfl,rfl,hc,q _ _ _ (.refl s) (.int _)⟩⟩
def cY (x y:j0):Option j0:=match x,y with
 | .int i,.int j=>some (.int (i+j))
 | .str i,.str j=>if dO (i.length+j.length) then some (.str (i++j)) else none
 | .list a,.list b=>if dO (a.length+b.length) then some (.list (a++b)) else none
 | .tuple a,.tuple b=>if dO (a.length+b.length) then some (.tuple (a++b)) else none
 | _,_=>none
theorem bQ (x y d:j0) (h:cY x y=some d):OpD X .Add x y d:=by
 unfold cY at h;split at h
 ·cases (qA h);exact b0V b6J
 ·split at h
  ·rename_i i j hz
   cases (qA h);exact ⟨_,a5U,fun v u G H Q s rv ru q=>by cases rv;cases ru;exact ⟨_,_,rfl,rfl,iC hz,q _ _ _ (.refl s) (.str _)⟩⟩
  ·cases h
 ·split at h
  ·rename_i a b hz
   cases (qA h)
   exact ⟨_,a7f,fun v u G H Q s rv ru q=>by
    cases rv with
    | list h1 r1=>cases ru with
     | list h2 r2=>exact ⟨_,_,_,_,rfl,rfl,s.seq h1,s.seq h2,by rw [r1.length,r2.length];exact iC hz,fun l hl=>q _ _ _ (.put s hl) (.list (.of aL) ((r1.append r2).mono (bD (s.free hl))))⟩⟩
  ·cases h
 ·split at h
  ·rename_i a b hz
   cases (qA h)
   exact ⟨_,b3C,fun v u G H Q s rv ru q=>by
    cases rv with
    | tuple h1 r1=>cases ru with
     | tuple h2 r2=>
      refine ⟨_,_,_,_,rfl,rfl,mU s h1,mU s h2,by rw [r1.length,r2.length];exact iC hz,fun z=>?_,fun z z2=>?_,fun _ _ l hl=>q _ _ _ (.put s hl) (.tuple (.of aL) ((r1.append r2).mono (bD (s.free hl))))⟩
      ·subst z
       cases r1;exact q _ G H (.refl s) (.tuple h2 r2)
      ·subst z2
       cases r2
       exact q _ G H (.refl s) (by rw [ji];exact .tuple h1 r1)⟩
  ·cases h
 ·cases h
def tH (x y:j0):Option j0:=match x,y with
 | .int i,.int j=>some (.int (i - j))
 | _,_=>none
theorem mG (x y d:j0) (h:tH x y=some d):OpD X .Sub x y d:=by
 unfold tH at h;split at h
 ·cases (qA h);exact b0V b6C
 ·cases h
def mH (i:Int):Bool:=decide (-(2 ^ 64)<i)&&decide (i<2 ^ 64)
theorem a1T {i:Int} (h:mH i=true):-(2 ^ 64)<i∧i<2 ^ 64:=by
 unfold mH at h;rw [qM] at h;exact ⟨of_decide_eq_true h.1,of_decide_eq_true h.2⟩
def oC (x y:j0):Option j0:=match x,y with
 | .int i,.int j=>if mH i || mH j then some (.int (i*j)) else none
 | _,_=>none
theorem sK (x y d:j0) (h:oC x y=some d):OpD X .Mult x y d:=by
 unfold oC at h;split at h
 ·split at h
  ·rename_i hz
   cases (qA h);rw [vc] at hz;exact a3n b6F (hz.imp a1T a1T)
  ·cases h
 ·cases h
def a5Y (x y:j0):Option j0:=match x,y with
 | .int i,.int j=>if 0<j then some (.int (i % j)) else none
 | _,_=>none
theorem a3u (x y d:j0) (h:a5Y x y=some d):OpD X .Mod x y d:=by
 unfold a5Y at h;split at h
 ·split at h
  ·rename_i hz
   cases (qA h);exact a3n b6G hz
  ·cases h
 ·cases h
def b4s (x y:j0):Option j0:=match x,y with
 | .int i,.int j=>if 0<j∧j<1073741824 then some (.int (i / j)) else none
 | _,_=>none
theorem b7x (x y d:j0) (h:b4s x y=some d):OpD X .FloorDiv x y d:=by
 unfold b4s at h;split at h
 ·split at h
  ·rename_i hz
   cases (qA h);exact a3n b3B hz
  ·cases h
 ·cases h
def ltD (x y:j0):Option Bool:=match x,y with
 | .int i,.int j=>some (decide (i<j))
 | _,_=>none
def leD (x y:j0):Option Bool:=match x,y with
 | .int i,.int j=>some (decide (i≤j))
 | .str i,.str j=>some (!decide (j.cps.toList<i.cps.toList))
 | _,_=>none
def gtD (x y:j0):Option Bool:=match x,y with
 | .int i,.int j=>some (decide (j<i))
 | _,_=>none
def geD (x y:j0):Option Bool:=match x,y with
 | .int i,.int j=>some (decide (j≤i))
 | _,_=>none
theorem a0T (x y:j0) (t:Bool) (h:ltD x y=some t):CmpD X .Lt x y t:=by
 unfold ltD at h;split at h
 ·cases (qA h);exact b7R
 ·cases h
theorem a4R (x y:j0) (t:Bool) (h:leD x y=some t):CmpD X .LtE x y t:=by
 unfold leD at h;split at h
 ·cases (qA h);exact b7S
 ·cases (qA h);exact b4P
 ·cases h
theorem b5A (x y:j0) (t:Bool) (h:gtD x y=some t):CmpD X .Gt x y t:=by
 unfold gtD at h;split at h
 ·cases (qA h);exact cmp_gt
 ·cases h
def eqD (x y:j0):Option Bool:=match x,y with
 | .int i,.int j=>some (decide (i=j))
 | .str i,.str j=>some (decide (i=j))
 | .bool i,.bool j=>some (decide (i=j))
 | x,y=>if qV x&&qV y then some (jI x y) else none
def neD (x y:j0):Option Bool:=match x,y with
 | .int i,.int j=>some (!decide (i=j))
 | .str i,.str j=>some (!decide (i=j))
 | .bool i,.bool j=>some (!decide (i=j))
 | x,y=>if qV x&&qV y then some (!PyData.eqv x y) else none
theorem a2D (hu:X.A.units+64<cLine) (x y:j0) (t:Bool) (h:eqD x y=some t):CmpD X .Eq x y t:=by
 unfold eqD at h;split at h
 ·cases (qA h);exact b4R
 ·cases (qA h);exact b4Q
 ·cases (qA h);exact b4S
 ·split at h
  ·rename_i hz
   rw [qM] at hz;cases (qA h);exact b7T hu hz.1 hz.2
  ·cases h
theorem lS (hu:X.A.units+64<cLine) (x y:j0) (t:Bool) (h:neD x y=some t):CmpD X .NotEq x y t:=by
 unfold neD at h;split at h
 ·cases (qA h);exact b4N
 ·cases (qA h);exact b4M
 ·cases (qA h);exact b4O
 ·split at h
  ·rename_i hz
   rw [qM] at hz;cases (qA h);exact b7Q hu hz.1 hz.2
  ·cases h
def inD (x y:j0):Option Bool:=match x,uZ y with
 | .int i,some ds=>(eT intD ds).map fun ns=>decide (i∈ns)
 | .str i,some ds=>(eT b0i ds).map fun ns=>decide (i∈ns)
 | _,_=>none
theorem nM {K:qC} {G H:Hp} {v:V} {y:j0} {ds:T0j} (s:bB G H) (h:uZ y=some ds) (r:Rep K G v y):∃ p vs,v=.ref p∧(SqL K H p vs∨SqT K H p vs)∧RepAll K G vs ds:=by
 cases r with
 | list hq r=>cases (qA h);exact ⟨_,_,rfl,.inl (s.seq hq),r⟩
 | tuple hq r=>cases (qA h);exact ⟨_,_,rfl,.inr (mU s hq),r⟩
 | dict _ _ _=>cases h
 | none=>cases h
 | bool _=>cases h
 | int _=>cases h
 | str _=>cases h
theorem b9a (x y:j0) (t:Bool) (h:inD x y=some t):CmpD X .In x y t:=by
 unfold inD at h;split at h
 ·rename_i i ds e
  obtain ⟨ns,e2,rfl⟩:=qO.mp h;have:=cO (g:=.int) (fun d a q=>gS q) e2;subst this
  exact ⟨_,a2f,fun v u G H Q s rv ru q=>by
   obtain ⟨p,vs,rfl,hq,r⟩:=nM s e ru;have e3:=r.ints;subst e3;cases rv
   exact ⟨p,_,rfl,hq,rfl,a8Y ns,by rw [b1y];simpa using q⟩⟩
 ·rename_i i ds e
  obtain ⟨ns,e2,rfl⟩:=qO.mp h;have:=cO (g:=.str) (fun d a q=>a2Y q) e2;subst this
  exact ⟨_,a2f,fun v u G H Q s rv ru q=>by
   obtain ⟨p,vs,rfl,hq,r⟩:=nM s e ru;have e3:=r.strs;subst e3;cases rv
   exact ⟨p,_,rfl,hq,rfl,a8X ns,by rw [b1x];simpa using q⟩⟩
 ·cases h
def xI (ds:T0j):Option j0:=match ds with
 | [.list xs]=>some (.int xs.length)
 | [.tuple xs]=>some (.int xs.length)
 | [.str z]=>if dO z.length then some (.int z.length) else none
 | _=>none
theorem xH (ds:T0j) (d:j0) (h:xI ds=some d):CallD X (.builtin "len") ds d:=by
 unfold xI at h;split at h
 ·cases (qA h)
  exact ⟨_,uI,fun vs G H Q s r q=>by
   cases r with | cons r rr=>cases rr;cases r with | list hq r=>exact ⟨_,_,rfl,.inl (s.seq hq),by rw [r.length];exact q _ G H (.refl s) (.int _)⟩⟩
 ·cases (qA h)
  exact ⟨_,uI,fun vs G H Q s r q=>by
   cases r with | cons r rr=>cases rr;cases r with | tuple hq r=>exact ⟨_,_,rfl,.inr (mU s hq),by rw [r.length];exact q _ G H (.refl s) (.int _)⟩⟩
 ·split at h
  ·rename_i hz
   cases (qA h)
   exact ⟨_,a3W,fun vs G H Q s r q=>by
    cases r with | cons r rr=>cases rr;cases r with | str z=>exact ⟨_,rfl,iC hz,q _ G H (.refl s) (.int _)⟩⟩
  ·cases h
 ·cases h
def a4L (ds:T0j):Option j0:=match ds with
 | [.int i,.int j]=>some (.int (max i j))
 | [.list xs]=>(match eT intD xs with | some (n::ns)=>some (.int (sL (n::ns))) | _=>none)
 | _=>none
def a8F (ds:T0j):Option j0:=match ds with
 | [.int i,.int j]=>some (.int (min i j))
 | [.list xs]=>(match eT intD xs with | some (n::ns)=>some (.int (b6W (n::ns))) | _=>none)
 | _=>none
theorem a6a (hc:X.calm=true) (ds:T0j) (d:j0) (h:a4L ds=some d):CallD X (.builtin "max") ds d:=by
 unfold a4L at h;split at h
 ·rename_i i j
  cases (qA h)
  exact ⟨_,a9m hc,fun vs G H Q s r q=>by
   cases r with | cons r rr=>cases rr with | cons r' rr=>cases rr;cases r;cases r';exact ⟨i,j,rfl,by rw [show (if j > i then j else i)=max i j by split<;>omega];exact q _ G H (.refl s) (.int _)⟩⟩
 ·split at h
  ·rename_i xs n ns e
   cases (qA h);have:=cO (g:=.int) (fun d a q=>gS q) e;subst this
   exact ⟨_,a9l hc,fun vs G H Q s r q=>by
    cases r with | cons r rr=>cases rr;cases r with | list hq r=>
     have e:=r.ints;subst e
     exact ⟨_,n::ns,rfl,s.seq hq,by simp,fun M m1 m2=>by rw [a7k m1 m2];exact q _ G H (.refl s) (.int _)⟩⟩
  ·cases h
 ·cases h
theorem b1j (hc:X.calm=true) (ds:T0j) (d:j0) (h:a8F ds=some d):CallD X (.builtin "min") ds d:=by
 unfold a8F at h;split at h
 ·rename_i i j
  cases (qA h)
  exact ⟨_,a9k hc,fun vs G H Q s r q=>by
   cases r with | cons r rr=>cases rr with | cons r' rr=>cases rr;cases r;cases r';exact ⟨i,j,rfl,by rw [show (if j<i then j else i)=min i j by split<;>omega];exact q _ G H (.refl s) (.int _)⟩⟩
 ·split at h
  ·rename_i xs n ns e
   cases (qA h);have:=cO (g:=.int) (fun d a q=>gS q) e;subst this
   exact ⟨_,a9j hc,fun vs G H Q s r q=>by
    cases r with | cons r rr=>cases rr;cases r with | list hq r=>
     have e:=r.ints;subst e
     exact ⟨_,n::ns,rfl,s.seq hq,by simp,fun M m1 m2=>by rw [b3V m1 m2];exact q _ G H (.refl s) (.int _)⟩⟩
  ·cases h
 ·cases h
def b2R (ds:T0j):Option j0:=match ds with
 | [.list xs]=>(eT intD xs).map fun ns=>.int ns.sum
 | _=>none
theorem b6d (hc:X.calm=true) (ds:T0j) (d:j0) (h:b2R ds=some d):CallD X (.builtin "sum") ds d:=by
 unfold b2R at h;split at h
 ·obtain ⟨ns,e,rfl⟩:=qO.mp h
  have:=cO (g:=.int) (fun d a q=>gS q) e;subst this
  exact ⟨_,a9i hc,fun vs G H Q s r q=>by
   cases r with | cons r rr=>cases rr;cases r with | list hq r=>
    have e:=r.ints;subst e
    exact ⟨_,ns,rfl,s.seq hq,q _ G H (.refl s) (.int _)⟩⟩
 ·cases h
def yV (ds:T0j):Option j0:=match ds with
 | [.list xs]=>some (.tuple xs)
 | [.tuple xs]=>some (.tuple xs)
 | _=>none
theorem a0o (ds:T0j) (d:j0) (h:yV ds=some d):CallD X (.type "tuple") ds d:=by
 unfold yV at h;split at h
 ·cases (qA h)
  exact ⟨_,rW,fun vs G H Q s r q=>by
   cases r with | cons r rr=>cases rr;cases r with | list hq r=>exact ⟨_,_,rfl,.inl ⟨s.seq hq,fun l hl=>q _ _ _ (.put s hl) (.tuple (.of aL) (r.mono (bD (s.free hl))))⟩⟩⟩
 ·cases (qA h)
  exact ⟨_,rW,fun vs G H Q s r q=>by
   cases r with | cons r rr=>cases rr;cases r with | tuple hq r=>exact ⟨_,_,rfl,.inr ⟨mU s hq,q _ G H (.refl s) (.tuple hq r)⟩⟩⟩
 ·cases h
def b8W (ds:T0j):Option j0:=match ds with
 | [.list xs]=>some (.list xs)
 | [.tuple xs]=>some (.list xs)
 | _=>none
def c0m (ds:T0j):Option j0:=match ds with
 | [.bool b]=>some (.int (if b then 1 else 0))
 | [.int i]=>some (.int i)
 | _=>none
def b2X (ds:T0j):Option j0:=match ds with
 | [.list xs]=>(match eT intD xs with | some ns=>if ns.length<64 then some (.list ((sortI ns).map .int)) else none | none=>none)
 | _=>none
theorem b6e (ds:T0j) (d:j0) (h:b2X ds=some d):CallD X (.builtin "sorted") ds d:=by
 unfold b2X at h;split at h
 ·split at h
  ·rename_i xs ns e
   split at h
   ·rename_i hl
    cases (qA h);have:=cO (g:=.int) (fun d a q=>gS q) e;subst this
    exact ⟨_,a3V,fun vs G H Q s r q=>by
     cases r with | cons r rr=>cases rr;cases r with | list hq r=>
      have e:=r.ints;subst e
      exact ⟨_,ns,rfl,s.seq hq,hl,fun l hn=>q _ _ _ (.put s hn) (.list (.of aL) (fN _))⟩⟩
   ·cases h
  ·cases h
 ·cases h
end
section
variable {X:Cx} {a b:Expr} {pos p p2:Pos} {fa fb:EF}
def pD:j0→Option j0
 | .int i=>some (.int (-i))
 | _=>none
def op1 (g:j0→Option j0) (fa:EF):EF:=fun ρ=>bnd (fa ρ) fun x=>lft (g x)
theorem pM (ha:DE X a fa):DE X (.UnaryOp .USub a pos) (op1 pD fa):=⟨fun pins s σ H Q I ⟨ρ,r,H0,G₀,G,e,R,q⟩=>b5q a9P ha.run pins s σ H Q I (bE R e q.x fun x v G1 H1 g1 R1 rv e1=>by
 obtain ⟨d,ed,rfl⟩:=aZ e1;cases x with
 | int i=>cases (qA ed);cases rv;exact ⟨_,rfl,q _ _ _ g1 (.int _)⟩
 | none=>cases ed
 | bool _=>cases ed
 | str _=>cases ed
 | list _=>cases ed
 | tuple _=>cases ed
 | dict _=>cases ed)⟩
end
def b2s (g1 g2 g3:j0→j0→Option Bool) (fa fb fc fd:EF):EF:=fun ρ=>bnd (fa ρ) fun x=>bnd (fb ρ) fun y=>bnd (lft (g1 x y)) fun t=>if t then bnd (fc ρ) fun z=>bnd (lft (g2 y z)) fun u=>if u then bnd (fd ρ) fun w=>lft ((g3 z w).map .bool) else some (.ok (.bool false)) else some (.ok (.bool false))
def isB (k x:j0):Option Bool:=match k,x with
 | .none,.none=>some true
 | .none,.bool _=>some false
 | .none,.int _=>some false
 | .none,.str _=>some false
 | .none,.list _=>some false
 | .none,.tuple _=>some false
 | .none,.dict _=>some false
 | .bool a,.bool b=>some (b==a)
 | _,_=>none
def isE (neg:Bool) (k:j0) (fa:EF):EF:=fun ρ=>bnd (fa ρ) fun x=>lft ((isB k x).map fun t=>.bool (neg != t))
def isT (neg:Bool) (k:j0) (fa:EF):TF:=fun ρ=>bnd (fa ρ) fun x=>lft ((isB k x).map fun t=>neg != t)
abbrev OF:=List Ent→Mm (Option Int)
def a2h:OF:=fun _=>some (.ok none)
def a2g (fa:EF):OF:=fun ρ=>bnd (fa ρ) fun x=>lft ((intD x).map some)
def slD (x:j0) (lo hi:Option Int):Option j0:=match x with
 | .list ds=>some (.list (cutD ds lo hi))
 | .tuple ds=>if HT.sIx ds.length 0 lo=0∧HT.sIx ds.length ds.length hi=ds.length then none else some (.tuple (cutD ds lo hi))
 | _=>none
def slE (fa:EF) (lo hi:OF):EF:=fun ρ=>bnd (fa ρ) fun x=>bnd (lo ρ) fun l=>bnd (hi ρ) fun h=>lft (slD x l h)
def b0w:j0→Option j0
 | .list ds=>some (.list ds.reverse)
 | _=>none
def a7l (x y:j0):Option j0:=match x with
 | .list xs=>(match eT intD xs with | some []=>some y | some (n::ns)=>some (.int (sL (n::ns))) | none=>none)
 | _=>none
def tyI:j0→Option Bool
 | .int _=>some true
 | .bool _=>some true
 | .dict _=>none
 | _=>some false
def tyB:j0→Option Bool
 | .bool _=>some true
 | .dict _=>none
 | _=>some false
def tyS:j0→Option Bool
 | .str _=>some true
 | .dict _=>none
 | _=>some false
def tyT:j0→Option Bool
 | .tuple _=>some true
 | .dict _=>none
 | _=>some false
def b4g (T:String) (x:j0):Option Bool:=if T = "int" then tyI x else if T = "bool" then tyB x else if T = "str" then tyS x else if T = "tuple" then tyT x else none
def isD (T:String) (x:j0):Option j0:=(b4g T x).map .bool
def a4h (a b:T0j):List j0:=(a.zip b).map fun p=>.tuple [p.1,p.2]
def a9D (fa fb:EF):AF:=fun ρ=>match fa ρ,fb ρ with
 | some (.ok (.list a)),some (.ok (.list b))=>some (.ok (a4h a b))
 | _,_=>none
def lA (ns:T0q):List Int:=ns.foldl (fun a n=>if n∈a then a else a++[n]) []
def a3M (ns:T0o):List Str:=ns.foldl (fun a n=>if n∈a then a else a++[n]) []
def cH (a b:Str):Bool:=!decide (b.cps.toList<a.cps.toList)
def iD (ns:T0o):List Str:=ns.mergeSort cH
def a1S (x:j0):Option j0:=match x with
 | .list xs=>(match eT intD xs with
  | some ns=>if ns.length<64 then some (.list ((sortI (lA ns)).map .int)) else none
  | none=>(match eT b0i xs with
   | some ns=>if ns.length<64 then some (.list ((iD (a3M ns)).map .str)) else none
   | none=>none))
 | _=>none
section
variable {X:Cx} {e a b c d:Expr} {es:T0l} {pos p p2:Pos} {fa fb fc fd:EF}
theorem b4H {o1 o2 o3:CmpOp} {g1 g2 g3:j0→j0→Option Bool} (h1:∀ x y t,g1 x y=some t→CmpD X o1 x y t) (h2:∀ x y t,g2 x y=some t→CmpD X o2 x y t) (h3:∀ x y t,g3 x y=some t→CmpD X o3 x y t)
  (ha:DE X a fa) (hb:DE X b fb) (hc:DE X c fc) (hd:DE X d fd) (hm:QR [o1,o2,o3] [b,c,d]=false:=by with_unfolding_all rfl):DE X (.Compare a [o1,o2,o3] [b,c,d] pos) (b2s g1 g2 g3 fa fb fc fd):=⟨fun pins s σ H Q I ⟨ρ,r,H0,G₀,G,ef,R,q⟩=>by
 refine Compare_chain (thn (ha.run pins s σ H (fun v H1=>rE X fb σ H1 fun u H2=>∃ x y G2 t,CmpD X o1 x y t∧Rep X.K G2 v x∧Rep X.K G2 u y∧RepS X.K H0 G₀ G2 H2 σ ρ∧a5C X H0 G₀ G2 ρ H2 Q r ∧
   (if t then bnd (fc ρ) fun z=>bnd (lft (g2 y z)) fun u=>if u then bnd (fd ρ) fun w=>lft ((g3 z w).map .bool) else some (.ok (.bool false)) else some (.ok (.bool false)))=some r) I
  (bE R ef q.x fun x v G1 H1 k1 R1 rv e1=>bE R1 e1 (q.more k1).x fun y u G2 H2 k2 R2 ru e2=>by
   rcases bG e2 with ⟨t,et,e3⟩ | ⟨_,et,_⟩
   ·obtain ⟨t',et',z⟩:=aZ et
    cases z;exact ⟨x,y,G2,_,h1 x y _ et',rv.mono k2.gg,ru,R2,(q.more k1).more k2,e3⟩
   ·obtain ⟨_,_,z⟩:=aZ et;cases z)) fun v s1 ⟨xv,H1,I1,r1,q1⟩=>chain_link (thn (hb.run pins s1 σ H1 _ I1 q1) fun u s2 ⟨yv,H2,I2,r2,x,y,G2,t,ct,rx,ry,R2,q2,e3⟩=>?_)) hm
 obtain ⟨rr,hr1,hr2⟩:=ct.ex;refine thn (hr1 pins s2 σ H2 xv yv v u (fun w H'=>w=.bl t∧H'=H2) I2 r1 r2 (hr2 xv yv G2 H2 _ R2.sub rx ry ⟨rfl,rfl⟩)) fun dv s3 ⟨z,H3,I3,r3,ez,eH⟩=>?_;subst ez eH;cases r3;refine wl ?_;cases t with
 | false=>
  refine ite_ff ?_;rw [if_neg (by decide)] at e3;cases (qA e3);exact ⟨.bl false,H3,I3,rfl,q2 _ _ _ (.refl R2.sub) (.bool _)⟩
 | true=>
  refine ite_tt ?_;rw [if_pos rfl] at e3
  refine chain_link (thn (hc.run pins s3 σ H3 (fun w H4=>∃ z G4 t,CmpD X o2 y z t∧Rep X.K G4 yv y∧Rep X.K G4 w z∧RepS X.K H0 G₀ G4 H4 σ ρ∧a5C X H0 G₀ G4 ρ H4 Q r ∧
    (if t then bnd (fd ρ) fun w=>lft ((g3 z w).map .bool) else some (.ok (.bool false)))=some r) I3
   (bE R2 e3 q2.x fun z w G4 H4 k4 R4 rw' e4=>by
    rcases bG e4 with ⟨t,et,e5⟩ | ⟨_,et,_⟩
    ·obtain ⟨t',et',z'⟩:=aZ et
     cases z';exact ⟨z,G4,_,h2 y z _ et',ry.mono k4.gg,rw',R4,q2.more k4,e5⟩
    ·obtain ⟨_,_,z'⟩:=aZ et;cases z')) fun w s4 ⟨wv,H4,I4,r4,z,G4,t,ct2,ry4,rz,R4,q4,e5⟩=>?_)
  obtain ⟨rr2,hr3,hr4⟩:=ct2.ex;refine thn (hr3 pins s4 σ H4 yv wv u w (fun w H'=>w=.bl t∧H'=H4) I4 r2 r4 (hr4 yv wv G4 H4 _ R4.sub ry4 rz ⟨rfl,rfl⟩)) fun dv2 s5 ⟨z2,H5,I5,r5,ez2,eH2⟩=>?_;subst ez2 eH2;cases r5;refine wl ?_;cases t with
  | false=>
   refine ite_ff ?_;rw [if_neg (by decide)] at e5;cases (qA e5);exact ⟨.bl false,H5,I5,rfl,q4 _ _ _ (.refl R4.sub) (.bool _)⟩
  | true=>
   refine ite_tt ?_;rw [if_pos rfl] at e5
   refine chain_last (thn (hd.run pins s5 σ H5 (fun k H6=>∃ rr,OpR X (wp o3) rr∧rr wv k H6 Q) I5
    (bE R4 e5 q4.x fun wd k G6 H6 k6 R6 rk e6=>by
     obtain ⟨d',ed,rfl⟩:=aZ e6;obtain ⟨t,et,rfl⟩:=qO.mp ed;obtain ⟨rr3,hr5,hr6⟩:=(h3 z wd t et).ex
     exact ⟨rr3,hr5,hr6 wv k G6 H6 Q k6.sub (rz.mono k6.gg) rk (q4 _ _ _ k6 (.bool _))⟩)) fun k s6 ⟨kv,H6,I6,r6,rr3,hr5,q6⟩=>hr5 pins s6 σ H6 wv kv w k Q I6 r4 r6 q6)⟩
end
theorem Inv.turnNew {X:Cx} {pins:T0b} {σ:St} {H:Hp} {s:Shared} {h':Heap} {t':Nat} {T:Addr} {xs:List V} (ch:T0m) (I:Inv X pins σ H s) (hf:∀ b∈ch,tE X pins H b)
  (k:∀ b o,b∉ch→s.heap.get? b=some o→h'.get? b=some o) (hT:s.heap.objs.size≤T) (new:cW X.prog X.w (upd H T (.tup xs)) h' T (.tup xs)):Inv X pins σ (upd H T (.tup xs)) { s with heap:=h',toks:=t' }:=by
 have nT:H T=none:=I.hok.fresh hT;have ne:∀ b o,s.heap.get? b=some o→b≠T:=fun b o e=>qa (qT (qG e) hT);have up:∀ b u,H b=some u→upd H T (.tup xs) b=some u:=fun b u e=>by rw [aF (aS e nT)];exact e
 refine I.step (g':=s.gens) (d':=s.drawn) (ch:=ch) (fun b hb=>?_) (fun b o _ _ hc e _=>k b o hc e) (fun b o _ _ hc e _=>⟨o.slots,k b o hc e⟩) (fun b o _ e n=>by rw [aF (ne b o e)];exact n)
  (fun b o hc e=>⟨o,k b o hc e⟩) (fun b u e=>up b _ e) (fun b o u e=>up b _ e) (fun b ps e=>⟨#[],by rw [up b _ e];simp⟩) (fun m hm=>?_) (fun b u e=>?_) I.bare
 ·obtain ⟨f0,f1,f2,f3,f4,f5⟩:=hf b hb
  exact ⟨f3,f1,f4,f5⟩
 ·obtain ⟨o,es,ep,ho,r⟩:=hm
  exact ⟨o,es,ep,k _ o (fun z=>(hf _ z).2.1 rfl) ho,r⟩
 ·by_cases hb:b=T
  ·subst hb
   rw [aL] at e;cases e;exact new
  ·rw [aF hb] at e
   refine (I.hok b u e).stay (fun c v hc q=>k c v (fun z=>?_) q) (fun q e'=>up _ _ e') fun c v q=>up _ _ q;have f0:=(hf c z).1;rcases hc with z' | z'
   ·rw [z',e] at f0;cases f0
   ·rw [z'] at f0;cases f0
theorem Inv.turnAll {X:Cx} {pins:T0b} {σ:St} {H:Hp} {s:Shared} {h':Heap} {t':Nat} (ch:T0m) (I:Inv X pins σ H s) (hf:∀ b∈ch,tE X pins H b)
  (k:∀ b o,b∉ch→s.heap.get? b=some o→h'.get? b=some o):Inv X pins σ H { s with heap:=h',toks:=t' }:=by
 refine I.step (g':=s.gens) (d':=s.drawn) (ch:=ch) (fun b hb=>?_) (fun b o _ _ hc e _=>k b o hc e) (fun b o _ _ hc e _=>⟨o.slots,k b o hc e⟩) (fun b o _ e n=>n)
  (fun b o hc e=>⟨o,k b o hc e⟩) (fun b u e=>e) (fun b o u e=>e) (fun b ps e=>⟨#[],by rw [e];simp⟩) (fun m hm=>?_) (fun b u e=>?_) I.bare
 ·obtain ⟨f0,f1,f2,f3,f4,f5⟩:=hf b hb
  exact ⟨f3,f1,f4,f5⟩
 ·obtain ⟨o,es,ep,ho,r⟩:=hm
  exact ⟨o,es,ep,k _ o (fun z=>(hf _ z).2.1 rfl) ho,r⟩
 ·refine (I.hok b u e).stay (fun c v hc q=>k c v (fun z=>?_) q) (fun q e'=>e') fun c v q=>q
  have f0:=(hf c z).1;rcases hc with z' | z'
  ·rw [z',e] at f0;cases f0
  ·rw [z'] at f0;cases f0
def Itz (K:qC) (l1 l2:Addr):It:=
 ⟨fun i H=>∃ xs ys x y,SqL K H l1 xs∧SqL K H l2 ys∧xs[i]?=some x∧ys[i]?=some y,
 fun i H v H'=>∃ T x y,H T=none∧v=.ref T∧H'=upd H T (.tup [x,y])∧(∀ xs,SqL K H l1 xs→xs[i]?=some x)∧∀ ys,SqL K H l2 ys→ys[i]?=some y,
 fun i H=>∃ xs ys,SqL K H l1 xs∧SqL K H l2 ys∧(xs.length≤i∨ys.length≤i)⟩
def b8m (z TI TO i1 i2 l1 l2:Addr) (i:Nat) (h:Heap):Prop:=IsZip h z TI TO .none∧ya h TI (.ref i1) (.ref i2)∧(∃ a b,ya h TO a b)∧h.IsListIter i1 l1 i∧h.IsListIter i2 l2 i
theorem a9Q {P:Program} {w:World} {K:qC} {elts:T0l} {k0:Nat} {p0:Pos} {z TI TO i1 i2 l1 l2:Addr} (D:QJ z TI TO i1 i2 l1 l2):Turn P w K (.Tuple elts k0 p0) (Itz K l1 l2) [z,TI,TO,i1,i2] z (b8m z TI TO i1 i2 l1 l2) where
 mem:=by simp
 obj:=fun i h ⟨hz,hTI,⟨a,b,hTO⟩,⟨o1,g1,_,d1⟩,⟨o2,g2,_,d2⟩⟩ c hc=>by
  simp only [qF,jC,or_false] at hc;rcases hc with rfl | rfl | rfl | rfl | rfl
  ·exact ⟨_,hz,fun v q=>by cases q⟩
  ·exact ⟨_,hTI,fun v q=>by cases q⟩
  ·exact ⟨_,hTO,fun v q=>by cases q⟩
  ·exact ⟨o1,g1,fun v q=>by rw [d1] at q;cases q⟩
  ·exact ⟨o2,g2,fun v q=>by rw [d2] at q;cases q⟩
 keep:=fun i h h' ⟨hz,hTI,⟨a,b,hTO⟩,h1,h2⟩ kp=>⟨kp z (by simp) _ hz,kp TI (by simp) _ hTI,⟨a,b,kp TO (by simp) _ hTO⟩,h1.at fun o e=>kp i1 (by simp) o e,h2.at fun o e=>kp i2 (by simp) o e⟩
 item:=by
  intro X hP hw hK hc i pins s σ H E I hf ⟨hz,hTI,⟨a,b,hTO⟩,h1,h2⟩ ⟨xs,ys,x,y,q1,q2,ex,ey⟩;subst hP hw hK;obtain ⟨its,r1,p1,_⟩:=I.list q1;obtain ⟨its2,r2,p2,_⟩:=I.list q2;obtain ⟨u,eu,ru⟩:=r1.get ex;obtain ⟨v,ev,rv⟩:=r2.get ey;refine wpAny_pyNext_zip_item D hz hTI hTO h1 h2 p1.isList p2.isList (x:=u) (y:=v) (by rw [qp];exact eu) (by rw [qp];exact ev) fun h' a1 a2 a3 a4 a5 a6 hk=>⟨_,rfl,?_⟩;refine wpAny_letOwnedTupleGo_zip a1 fun h2' hz' hs'=>?_;have hk2:∀ c o,c∉[z,TO,i1,i2]→s.heap.get? c=some o→h2'.get? c=some o:=fun c o hc e=>by
   simp only [qF,jC,or_false,not_or] at hc;exact hs'.extBut c o hc.1 (hk c o hc.1 hc.2.1 hc.2.2.1 hc.2.2.2 e)
  have nT:s.heap.objs.size≠z:=jc (qG hz);have new:cW X.prog X.w (upd H s.heap.objs.size (.tup [x,y])) h2' s.heap.objs.size (.tup [x,y]):=
   ⟨by show 2≤j5;decide,[u,v],.cons ru (.cons rv .nil),⟨_,hs'.extBut _ _ nT a5,rfl,_,rfl⟩⟩
  have hfT:H s.heap.objs.size=none:=I.hok.fresh (qR _)
  refine ⟨.ref s.heap.objs.size,upd H s.heap.objs.size (.tup [x,y]),Inv.turnNew (s:=s) (h':=h2') (t':=s.toks) [z,TO,i1,i2] I (fun c hc=>hf c (by simp only [qF,jC,or_false] at hc ⊢;rcases hc with h | h | h | h<;>simp [h])) hk2 (qR _) new,rfl,
   ⟨_,x,y,hfT,rfl,rfl,fun xs' q=>by rw [I.list_inj q q1];exact ex,fun ys' q=>by rw [I.list_inj q q2];exact ey⟩,⟨hz',hs'.extBut _ _ D.TIz (hk _ _ D.TIz D.TITO D.TIi1 D.TIi2 hTI),⟨_,_,hs'.extBut _ _ D.TOz a2⟩,a3.extBut hs'.extBut D.i1z,a4.extBut hs'.extBut D.i2z⟩,fun c hc=>?_⟩
  obtain ⟨o,e,_⟩:∃ o,s.heap.get? c=some o∧True:=by
   simp only [qF,jC,or_false] at hc;rcases hc with rfl | rfl | rfl | rfl | rfl
   ·exact ⟨_,hz,trivial⟩
   ·exact ⟨_,hTI,trivial⟩
   ·exact ⟨_,hTO,trivial⟩
   ·obtain ⟨o,g,_⟩:=h1;exact ⟨o,g,trivial⟩
   ·obtain ⟨o,g,_⟩:=h2;exact ⟨o,g,trivial⟩
  rw [aF (qa (qG e))];exact (hf c hc).1
 done:=by
  intro X hP hw hK hc i pins s σ H E I hf ⟨hz,hTI,⟨a,b,hTO⟩,h1,h2⟩ ⟨xs,ys,q1,q2,hend⟩;subst hP hw hK;obtain ⟨its,r1,p1,_⟩:=I.list q1;obtain ⟨its2,r2,p2,_⟩:=I.list q2;have l1':=r1.length;have l2':=r2.length;refine wpAny_pyNext_zip_end (I.ok.hd hc) D hz hTI hTO h1 h2 p1.isList p2.isList ?_ fun h' hk=>⟨rfl,Inv.turnAll (t':=s.toks) [z,TO,i1,i2] I (fun c hc=>hf c (by simp only [qF,jC,or_false] at hc ⊢;rcases hc with h | h | h | h<;>simp [h])) fun c o hc e=>?_⟩
  ·rcases hend with he | he
   ·exact .inl (by rw [qp];exact qb (by omega))
   ·exact .inr (by rw [qp];exact qb (by omega))
  ·simp only [qF,jC,or_false,not_or] at hc
   exact hk c o hc.1 hc.2.1 hc.2.2.1 hc.2.2.2 e
 self:=fun A i s Q E st h=>uj st.1 h
theorem a9K {K:qC} {G:Hp} {l1 l2:Addr} {xs ys:List V} {ds es:T0j} (h1:SqL K G l1 xs) (r1:RepAll K G xs ds) (h2:SqL K G l2 ys) (r2:RepAll K G ys es):Walk K (Itz K l1 l2) G (a4h ds es):=by
 intro i G' H' s1 s2;have a1:=(s1.trans s2).seq h1;have a2:=(s1.trans s2).seq h2;unfold a4h;refine ⟨fun d e=>?_,fun hl=>⟨xs,ys,a1,a2,?_⟩⟩
 ·rw [qW] at e
  obtain ⟨⟨p,q⟩,e1,rfl⟩:=qO.mp e;rw [List.getElem?_zip_eq_some] at e1;obtain ⟨v,ev,rv⟩:=r1.get e1.1;obtain ⟨u,eu,ru⟩:=r2.get e1.2;refine ⟨⟨xs,ys,v,u,a1,a2,ev,eu⟩,fun x H2 ⟨T,x',y',hT,ex,eH,b1,b2⟩=>?_⟩;subst ex eH;have b3:=b1 xs a1;have b4:=b2 ys a2;rw [ev] at b3;rw [eu] at b4;cases b3;cases b4;have hG:G' T=none:=s2.free hT;exact ⟨upd G' T (.tup [v,u]),.put s2 hT,.tuple (.of aL) (.cons ((rv.mono s1).mono (bD hG)) (.cons ((ru.mono s1).mono (bD hG)) .nil))⟩
 ·rw [qE,List.length_zip] at hl
  have e1:=r1.length;have e2:=r2.length;omega
section
variable {X:Cx} {a b:Expr} {elts:T0l} {k0:Nat} {p0 pos p:Pos} {fa fb:EF}
theorem b7M (hm:X.mg "zip" = none) (ha:DE X a fa) (hb:DE X b fb) (hv:wm "zip" = some (.type "zip"):=by decide +kernel) (hs:j4 [a,b] X.env=(false,eval a X.env)::j4 [b] X.env:=by rfl) (hs2:j4 [b] X.env=(false,eval b X.env)::j4 [] X.env:=by rfl)
  (hpl:(k9 pos (j4 [b] X.env)).any (·.1)=false:=by rfl) (hg:Gl X "zip":=by rfl):DI X (.Tuple elts k0 p0) (.Call (.Name "zip" p) [a,b] [] pos) (a9D fa fb):=b2g fun ρ r e=>by
 unfold a9D at e;split at e
 ·rename_i as bs e1 e3
  refine ⟨_,(qA e).symm,⟨?_⟩⟩;intro pins s σ H R I ⟨H0,G₀,G,S,q⟩;have pa:=eN (ha.pd e1) (eN (hb.pd e3) lR hs2) hs;refine v0 (mM I hg hm hv ?_ (by decide) (by decide));refine kR (thn (pa.run H0 G₀ G pos pins s σ H (fun vs H'=>∃ G',Grow G H G' H'∧RepAll X.K G' vs [.list as,.list bs]) I S fun vs G' H' g r=>⟨G',g,r⟩) fun us s1 ⟨vs,H1,I1,r1,G1,g1,w1⟩=>?_) hs hpl;cases w1 with
  | cons wa wn=>cases wn with
   | cons wb wn=>
    cases wn;cases wa with
    | list hq ra=>cases wb with
     | list hq2 rb=>
      obtain ⟨u,v,rfl,ru,rv⟩:=vals2 r1;cases ru;cases rv;obtain ⟨its,r1',p1,_⟩:=I1.list (g1.sub.seq hq);obtain ⟨its2,r2',p2,_⟩:=I1.list (g1.sub.seq hq2);refine call_zip_2 p1.isList p2.isList fun h' z1 z2 z3 z4 z5 z6 hk=>?_;refine uj z1 ?_;obtain ⟨o1,g1',_⟩:=p1.isList;obtain ⟨o2,g2',_⟩:=p2.isList;refine ⟨s1.heap.objs.size+4,[s1.heap.objs.size+4,s1.heap.objs.size+2,s1.heap.objs.size+3,s1.heap.objs.size,s1.heap.objs.size+1],_,_,H1,rfl,I1.kept (h':=h') (t':=s1.toks) (fun b o e=>hk b o e),a9Q (zipApart_new (qG g1') (qG g2')),⟨z1,z2,⟨_,_,z3⟩,z4,z5⟩,fun c hc=>?_,q _ G1 H1 g1 (a9K hq ra hq2 rb)⟩;have ge:s1.heap.objs.size≤c:=by
       simp only [qF,jC,or_false] at hc;rcases hc with h | h | h | h | h<;>rw [h]<;>first | exact wP _ _ | exact qR _
      exact I1.fpOk ge (I1.hok.fresh ge)
 ·cases e
end
end L2.L3
namespace L2.SX
open PySem
def rN (xs:Array Nat):Prop:=xs.toList.Pairwise (·<·)
theorem rN.lt {xs:Array Nat} (h:rN xs) {i j:Nat} (hij:i<j) (hj:j<xs.size):xs[i]<xs[j]:=by
 have:=vB.mp h i j (by simpa using wJ hij hj) (by simpa using hj) hij;simpa using this
theorem b1H {xs:Array Nat} {j:Nat} (h:rN xs):∀ (fuel lo hi:Nat),hi - lo≤fuel→lo≤hi→hi≤xs.size→(∀ i (hi':i<xs.size),i<lo→xs[i]<j)→(∀ i (hi':i<xs.size),hi≤i→j≤xs[i]) →
  zZ xs j fuel lo hi≤xs.size∧(∀ i (hi':i<xs.size),i<zZ xs j fuel lo hi→xs[i]<j)∧∀ i (hi':i<xs.size),zZ xs j fuel lo hi≤i→j≤xs[i]
 | 0,lo,hi,hf,hl,hs,h1,h2=>by
  have:lo=hi:=by omega
  subst this;unfold zZ;exact ⟨hs,h1,h2⟩
 | fuel+1,lo,hi,hf,hl,hs,h1,h2=>by
  unfold zZ;by_cases hlt:lo<hi
  ·rw [if_pos hlt]
   dsimp only;have hm:(lo+hi) / 2<xs.size:=by omega
   have hg:xs.getD ((lo+hi) / 2) j=xs[(lo+hi) / 2]:=by simp [vH,hm]
   rw [hg];by_cases hc:xs[(lo+hi) / 2]<j
   ·rw [if_pos hc]
    refine b1H h fuel _ hi (by omega) (by omega) hs (fun i hi' hlt'=>?_) h2;by_cases he:i=(lo+hi) / 2
    ·subst he;exact hc
    ·exact wJ (h.lt (by omega) hm) hc
   ·rw [if_neg hc]
    refine b1H h fuel lo _ (by omega) (by omega) (by omega) h1 (fun i hi' hge=>?_);by_cases he:i=(lo+hi) / 2
    ·subst he;omega
    ·have:=h.lt (i:=(lo+hi) / 2) (j:=i) (by omega) hi'
     omega
  ·rw [if_neg hlt]
   have:lo=hi:=by omega
   subst this;exact ⟨hs,h1,h2⟩
theorem a1x {xs:Array Nat} (h:rN xs) (j:Nat):qf xs j≤xs.size∧(∀ i (hi':i<xs.size),i<qf xs j→xs[i]<j)∧∀ i (hi':i<xs.size),qf xs j≤i→j≤xs[i]:=
 b1H h _ _ _ (by omega) (jR _) (qR _) (fun _ _ z=>absurd z (by omega)) (fun i hi' z=>absurd z (by omega))
theorem a6G {xs:Array Nat} (h:rN xs) {i:Nat} (hi:i<xs.size):qf xs (xs[i]+1)=i+1:=by
 obtain ⟨b1,b2,b3⟩:=a1x h (xs[i]+1);have c1:¬qf xs (xs[i]+1)≤i:=fun z=>by have:=b3 i hi z;omega
 have c2:¬i+1<qf xs (xs[i]+1):=fun z=>by
  have lt:i+1<xs.size:=by omega
  have:=b2 (i+1) lt z;have:=h.lt (i:=i) (j:=i+1) (by omega) lt;omega
 omega
theorem a6F (xs:Array Nat) (h:rN xs):qf xs 0=0:=by
 obtain ⟨b1,b2,b3⟩:=a1x h 0;cases e:qf xs 0 with
 | zero=>rfl
 | succ n=>
  have:=b2 0 (by omega) (by omega);omega
theorem b0v {xs:Array Nat} (h:rN xs) {j:Nat} (hn:xs[qf xs j]?≠some j):rN (j8.insertAt xs (qf xs j) j):=by
 obtain ⟨b1,b2,b3⟩:=a1x h j;unfold rN;rw [j8.toList_insertAt,ko];have ne:∀ i (hi':i<xs.size),qf xs j≤i→j<xs[i]:=fun i hi' hge=>by
  have a:=b3 i hi' hge;by_cases e:xs[i]=j
  ·exfalso
   by_cases e2:i=qf xs j
   ·exact hn (by rw [←e2];simp [hi',e])
   ·have lt:qf xs j<i:=by omega
    have:=h.lt (i:=qf xs j) (j:=i) lt hi';have:=b3 (qf xs j) (by omega) (qR _);omega
  ·omega
 refine ⟨h.sublist (wF _ _),?_,fun a ha b hb=>?_⟩
 ·rw [qg]
  refine ⟨fun a ha=>?_,h.sublist (List.drop_sublist _ _)⟩;obtain ⟨k,hk,e⟩:=zY.mp ha;rw [List.getElem_drop] at e;subst e;have:qf xs j+k<xs.size:=by simpa using (by rw [vL,qN] at hk;omega:qf xs j+k<xs.size)
  have:=ne (qf xs j+k) this (by omega);simpa using this
 ·obtain ⟨k,hk,e⟩:=zY.mp ha
  rw [List.getElem_take] at e;subst e;rw [jZ,qN] at hk;have k1:k<xs.size:=by omega
  have ak:=b2 k k1 (by omega);have ak':xs.toList[k]'(by simpa using k1)<j:=by simpa using ak
  rcases qF.mp hb with rfl | hb
  ·exact ak'
  ·obtain ⟨k',hk',e'⟩:=zY.mp hb
   rw [List.getElem_drop] at e';subst e';have k2:qf xs j+k'<xs.size:=by rw [vL,qN] at hk';omega
   have:=ne (qf xs j+k') k2 (by omega);have:j<xs.toList[qf xs j+k']'(by simpa using k2):=by simpa using this
   omega
structure TOk (t:j8) (led:Bool):Prop where
 led:t.led=led
 rise:t.plain=true→rN t.place
theorem TOk.fresh (led:Bool):TOk (j8.fresh 0 0 led) led:=⟨rfl,fun _=>by simp [j8.fresh,rN]⟩
theorem TOk.standIn {t:j8} {led:Bool} (h:TOk t led) (n:Nat):TOk (t.standIn n) led:=⟨h.led,fun z=>by cases z⟩
theorem TOk.off {t:j8} {led:Bool} (h:TOk t led):TOk { t with plain:=false } led:=⟨h.led,fun z=>by cases z⟩
theorem TOk.orStandIn {t:j8} {led:Bool} (h:TOk t led) (n:Nat):TOk (t.orStandIn n) led:=by
 unfold j8.orStandIn;split
 ·exact h
 ·exact h.standIn n
theorem a8k {t:j8} {j:Nat} (h:t.slot j=.empty∨t.slot j=.dummy):t.place[qf t.place j]?≠some j:=by
 intro z;have:t.slot j=.live (qf t.place j):=by
  unfold j8.slot;dsimp only;rw [if_pos (by rw [z];simp)]
 rcases h with h | h<;>(rw [this] at h;cases h)
theorem sJ {t:j8} {f:Nat→Int} {h:Int}:∀ (fuel:Nat) (p:j8.Probe) (j:Nat) (d:Option Nat),(∀ k,p.dummy=some k→t.slot k=.dummy)→j8.probe.go t f h fuel p=some (.empty j d) →
  (t.slot j=.empty)∧∀ k,d=some k→t.slot k=.dummy
 | 0,p,j,d,_,e=>by unfold j8.probe.go at e;cases e
 | fuel+1,p,j,d,hd,e=>by
  unfold j8.probe.go at e;split at e
  ·rename_i es
   cases (qA e);exact ⟨es,hd⟩
  ·rename_i es
   refine sJ fuel _ j d (fun k hk=>?_) e;have adv:∀ q:j8.Probe,(t.advance q).dummy=q.dummy:=fun q=>by unfold j8.advance;split<;>rfl
   rw [adv] at hk;cases hk;exact es
  ·split at e
   ·cases e
   ·refine sJ fuel _ j d (fun k hk=>?_) e
    have adv:∀ q:j8.Probe,(t.advance q).dummy=q.dummy:=fun q=>by unfold j8.advance;split<;>rfl
    rw [adv] at hk;exact hd k hk
theorem TOk.layNew {t:j8} {led:Bool} (h:TOk t led) (es:Array (Int×Value)) (hs:Int) (x:Value):TOk (layNew t es hs x).2.1 led:=by
 unfold PySem.layNew;split
 ·rename_i slot wd e
  dsimp only;have hput:TOk (t.put slot).1 led:=by
   refine ⟨h.led,fun hp=>?_⟩;have hr:rN t.place:=h.rise hp;refine b0v hr (a8k ?_);unfold j8.freeSlot j8.probe at e;split at e
   ·rename_i j d em
    obtain ⟨a,b⟩:=sJ _ _ j d (fun k hk=>by simp [j8.probeStart] at hk) em;cases (qA e);cases d with
    | none=>exact .inl a
    | some k=>exact .inr (b k rfl)
   ·cases e
  exact hput.orStandIn _
 ·exact h.standIn _
theorem TOk.relayAll {t:j8} {led:Bool} (h:TOk t led) (es:Array (Int×Value)) (wanted:Nat):TOk (relayAll t es wanted).2.1 led:=by
 unfold PySem.relayAll;split
 ·rename_i t' order e
  dsimp only;split
  ·unfold j8.relaid j8.laid at e
   cases ho:j8.layClean (j8.sizeAbove wanted - 1) (es.map (·.1)) with
   | none=>rw [ho] at e;cases e
   | some owner=>
    rw [ho] at e;have e:=qA e;have e1:=(congrArg Prod.fst e).symm;dsimp only at e1;subst e1;refine ⟨h.led,fun _=>?_⟩;show List.Pairwise (·<·) _;simp only [ky];rw [qr,List.pairwise_filterMap];refine List.pairwise_lt_range.imp ?_;intro a b hab x hx y hy;obtain ⟨u,_,rfl⟩:=qO.mp hx;obtain ⟨v,_,rfl⟩:=qO.mp hy;exact hab
  ·exact h.standIn _
 ·exact h.standIn _
end L2.SX
namespace L2.SX
open PySem PyProof.Rows
section
variable {prog:Program} {w:World} {K:Type} [DecidableEq K]
structure Good (knd:KeyKind prog w K) (h:Heap) (a:Addr) (ks:List K) (led:Bool):Prop where
 ex:∃ o es ep t,h.get? a=some o∧o.ExactSet∧o.data=.set es ep t∧ElemsOf knd es.toList∧(∀ k,k∈ks↔∃ e∈es.toList,knd.is k e.2=true)∧es.size=ks.length∧t.fits es.size=true∧TOk t led
 nd:ks.Nodup
 few:ks.length<ug
def addK (ks:List K) (k:K):List K:=if k∈ks then ks else ks++[k]
variable {knd:KeyKind prog w K} {A:Around} {E:T0a} {s:Shared} {a:Addr} {ks:List K} {led:Bool}
theorem Good.keeps {h h':Heap} (g:Good knd h a ks led) (k:∀ o,h.get? a=some o→h'.get? a=some o):Good knd h' a ks led:=by
 obtain ⟨o,es,ep,t,ho,r⟩:=g.ex;exact ⟨⟨o,es,ep,t,k o ho,r⟩,g.nd,g.few⟩
theorem stored {h:Heap} {o:Obj} {es es':Array (Int×Value)} {ep:Nat} {t t':j8} (ho:h.get? a=some o) (hd:o.data=.set es ep t):(h.update a (Obj.putSet es' t')).get? a=some { o with data:=.set es' (ep+1) t' }:=by
 have e:=putSet_of es' t' hd;have q:=jG (Obj.putSet es' t') ho (by rw [e];rfl);rw [e] at q;exact q
theorem bQ {k:K} {x:Value} {Q:Bool→Shared→Prop} (hkey:knd.is k x=true) (hsc:x.scannable=true) (g:Good knd s.heap a ks led) (hroom:ks.length+1<ug)
  (h:∀ h' b,kP a s.heap h'→Good knd h' a (addK ks k) led→Q b { s with heap:=h' }):wpAny (model prog w) A (setAddHashed a x (knd.hash k)) Q E s:=by
 obtain ⟨o,es,ep,t,ho,hex,hd,hel,hmem,hn,hf,hT⟩:=g.ex;have hb:es.size<ug:=by rw [hn];exact g.few
 unfold setAddHashed setAddHashedIn;refine j9 (q8 (wpAny_setState_of ho hd hf ?_));dsimp only;rw [byScan_of hsc hb hel];simp only [↓reduceIte];unfold setAddByScan;refine q8 (q8 (ww (q8 (wpAny_setScan_of hkey ho hd hf hel ?_))));cases hr:List.findIdx? (fun e=>knd.is k e.2) es.toList with
 | some j=>
  dsimp only;obtain ⟨hj,hpj,_⟩:=List.findIdx?_eq_some_iff_getElem.mp hr;have hk:k∈ks:=(hmem k).mpr ⟨es.toList[j],ja hj,hpj⟩;refine j3 (j3 ?_);have q:=h s.heap false (Heap.SameBut.refl a s.heap) (by unfold addK;rw [if_pos hk];exact g);exact q
 | none=>
  dsimp only;have hk:k∉ks:=fun z=>by
   obtain ⟨e,he,hp⟩:=(hmem k).mp z;have:=List.findIdx?_eq_none_iff.mp hr e he;rw [hp] at this;cases this
  have gone:∀ (b:Bool) {s₁:Shared} {Q':Unit→Shared→Prop},Q' () s₁→wpAny (model prog w) A (match b with | true=>rule "set.scan.the-table-gave-way" | false=>pure ()) Q' E s₁:=by
   intro b s₁ Q' q;cases b
   ·exact j3 q
   ·exact ww q
  have hperm:=layNew_perm t es (knd.hash k) x;have hfits:=layNew_fits t es (knd.hash k) x;have hTL:=hT.layNew es (knd.hash k) x;generalize layNew t es (knd.hash k) x=L at hperm hfits hTL ⊢;obtain ⟨es1,t1,wd,gave⟩:=L;dsimp only at hperm hfits hTL ⊢;rw [Array.toList_push] at hperm;have hel1:ElemsOf knd es1.toList:=(hel.push hkey hsc).perm hperm;have hmem1:∀ k',k'∈addK ks k↔∃ e∈es1.toList,knd.is k' e.2=true:=by
   intro k';unfold addK;rw [if_neg hk,qu,qQ,hmem k'];constructor
   ·rintro (⟨e,he,hp⟩ | rfl)
    ·exact ⟨e,hperm.mem_iff.mpr (jW _ he),hp⟩
    ·exact ⟨_,hperm.mem_iff.mpr (qe _ (qQ.mpr rfl)),hkey⟩
   ·rintro ⟨e,he,hp⟩
    rcases qu.mp (hperm.mem_iff.mp he) with he | he
    ·exact .inl ⟨e,he,hp⟩
    ·rw [qQ] at he
     subst he;exact .inr (knd.inj x k' k hp hkey)
  have hlen:(addK ks k).length=ks.length+1:=by unfold addK;rw [if_neg hk];simp
  have hsz1:es1.size=(addK ks k).length:=by rw [hlen,←hn,←qN,hperm.length_eq];simp
  have hb1:es1.size<ug:=by rw [hsz1,hlen];exact hroom
  have hnd:(addK ks k).Nodup:=by
   unfold addK;rw [if_neg hk,kD];exact ⟨g.nd,by simp,fun a ha b hb=>by rw [qQ] at hb;subst hb;exact fun z=>hk (z▸ha)⟩
  have tail:∀ {gv:Bool→Sem Unit} (hgv:∀ (b:Bool) (s₁:Shared) (Q':Unit→Shared→Prop),Q' () s₁→wpAny (model prog w) A (gv b) Q' E s₁) {t2:j8},t2.fits es1.size=true→TOk t2 led→∀ {R:Option Bool→Shared→Prop},(∀ h',kP a s.heap h'→Good knd h' a (addK ks k) led→R (some true) { s with heap:=h' }) →
    wpAny (model prog w) A (do
     storeSet a es1 t2
     if (!wd&&t2.tooFull)=true then do
       gv (relayAll t2 es1 (zI es1.size)).2.2
       storeSet a (relayAll t2 es1 (zI es1.size)).1 (relayAll t2 es1 (zI es1.size)).2.1
       pure (some true)
      else pure (some true)) R E s:=by
   intro gv hgv t2 hf2 hT2 R hR;refine q8 (wpAny_storeSet_of ho hd ?_ (fits_of_scanBound hb1));have ho1:=stored (es':=es1) (t':=t2) ho hd;have sb1:=jz s.heap a (Obj.putSet es1 t2);split
   ·have p2:=relayAll_perm t2 es1 (zI es1.size)
    have f2:=relayAll_fits t2 es1 (zI es1.size);have hT3:=hT2.relayAll es1 (zI es1.size);generalize relayAll t2 es1 (zI es1.size)=W at p2 f2 hT3 ⊢;obtain ⟨es2,t3,gv2⟩:=W;dsimp only at p2 f2 hT3 ⊢;have sz2:es2.size=es1.size:=by rw [←qN,p2.length_eq,qN]
    refine q8 (hgv _ _ _ ?_);refine q8 (wpAny_storeSet_of ho1 rfl ?_ (fits_of_scanBound (by rw [sz2];exact hb1)));have ho2:=stored (a:=a) (es':=es2) (t':=t3) ho1 rfl;refine j3 (hR _ (sb1.trans (jz _ a _)) ⟨⟨_,es2,_,t3,ho2,hex,rfl,hel1.perm p2,fun k'=>(hmem1 k').trans ⟨fun ⟨e,he,q⟩=>⟨e,p2.mem_iff.mpr he,q⟩,fun ⟨e,he,q⟩=>⟨e,p2.mem_iff.mp he,q⟩⟩,by rw [sz2];exact hsz1,f2,hT3⟩,hnd,by rw [hlen];exact hroom⟩)
   ·exact j3 (hR _ sb1 ⟨⟨_,es1,_,t2,ho1,hex,rfl,hel1,hmem1,hsz1,hf2,hT2⟩,hnd,by rw [hlen];exact hroom⟩)
  refine q8 (gone _ ?_);split
  ·refine q8 ?_
   rw [hashByValue_scannable 8 hsc];refine j3 ?_;split
   ·refine tail (fun b s₁ Q' q=>by cases b<;>first | exact j3 q | exact ww q) hfits hTL fun h' sb gg=>?_
    dsimp only;exact j3 (h h' true sb gg)
   ·refine tail (fun b s₁ Q' q=>by cases b<;>first | exact j3 q | exact ww q) (j8.fits_plain_off hfits) hTL.off fun h' sb gg=>?_
    dsimp only;exact j3 (h h' true sb gg)
  ·refine q8 (j3 ?_)
   simp only [↓reduceIte];refine tail (fun b s₁ Q' q=>by cases b<;>first | exact j3 q | exact ww q) hfits hTL fun h' sb gg=>?_;dsimp only;exact j3 (h h' true sb gg)
end
section
variable {prog:Program} {w:World} {K:Type} [DecidableEq K] {knd:KeyKind prog w K} {A:Around} {R:Result→Shared→Prop} {I:Addr} {fp wr:T0m} {G:Array QI→Array QI→Prop} {n:Nat} {P:Nat→Value→Prop} {St:Nat→Shared→Prop} {led:Bool}
def metK (val:Nat→K) (i:Nat):List K:=((qi i).map val).foldl addK []
theorem a2n (val:Nat→K) (i:Nat):metK val (i+1)=addK (metK val i) (val i):=by unfold metK;rw [List.range_succ,jS,List.foldl_append];rfl
theorem metK_len (val:Nat→K):∀ i,(metK val i).length≤i
 | 0=>by simp [metK]
 | i+1=>by
  have:=metK_len val i;rw [a2n];unfold addK;split
  ·omega
  ·simp;omega
theorem b3Y (W:WalksS prog w A.in1 I fp wr G n P St) (S:Addr) (hSf:S∉fp) (val:Nat→K) (hval:∀ i v,P i v→knd.is (val i) v=true∧v.scannable=true)
  (hpy:∀ i v (A':Around) (E':T0a) (s':Shared) (Q':Int→Shared→Prop),P i v→Q' (knd.hash (val i)) { s' with toks:=s'.toks+1 }→wpAny (model prog w) A' (pyHash v) Q' E' s') (hb:n+1<ug) :
  ∀ (m i:Nat) (s:Shared),n - i=m→i≤n→St i s→Good knd s.heap S (metK val i) led→(∀ s',Moved (S::wr) G s s'→Good knd s'.heap S (metK val n) led→R (.ok (.ret .none)) s') →
   wx (model prog w) A (.builtin "set.update.loop" ⟨[.ref S,.ref I],[]⟩) R s:=by
 have nw:S∉wr:=fun z=>hSf (W.sub _ z);have up:∀ b∈wr,b∈S::wr:=fun b hb=>qD _ hb;intro m
 induction m with
 | zero=>
  intro i s hm hi st g hR;obtain rfl:i=n:=by omega
  refine we F.entry_set_update_loop ?_;rw [qx wK _];show wpAny _ A.in1 (yi (.ref I)>>=_) _ _ s;refine q8 (W.done s _ _ st fun s' mv=>?_);exact j3 (hR s' (mv.mono up) (g.keeps fun o e=>mv.heap S o nw e))
 | succ m ih=>
  intro i s hm hi st g hR;have lt:i<n:=by omega
  refine we F.entry_set_update_loop ?_;rw [qx wK _];show wpAny _ A.in1 (yi (.ref I)>>=_) _ _ s;refine q8 (W.item i s _ _ lt st fun v s' pv st' mv=>?_);have g':=g.keeps (h':=s'.heap) fun o e=>mv.heap S o nw e;obtain ⟨hk,hsc⟩:=hval i v pv;show wpAny _ A.in1 (holding [v] (setAdd S v)>>=_) _ _ s';refine q8 (j9 ?_);unfold setAdd;refine j9 (q8 (hpy i v _ _ _ _ pv ?_));have room:(metK val i).length+1<ug:=by have:=metK_len val i;omega
  refine bQ (knd:=knd) (s:={ s' with toks:=s'.toks+1 }) hk hsc g' room fun h' b sb g2=>?_;rw [←a2n] at g2;refine j3 ⟨wt wK _,ih (i+1) _ (by omega) lt (W.frame _ s' _ _ st' (jw _) fun c hc o e=>?_) g2 fun s'' mv'' g''=>?_⟩
  ·rw [sb.2 c (fun z:c=S=>hSf (z▸hc))]
   exact e
  ·refine hR s'' (Moved.trans W.gtrans ((mv.mono up).then_heap (jw _) fun c o hc e=>?_) mv'') g''
   rw [sb.2 c (fun z:c=S=>hc (by rw [z];exact qS))];exact e
end
def ledOf (w:World):Bool:=!w.params.followText "set-order"
abbrev gP (w:World):Obj:={ cls:=.type "set", dict:=none,data:=.set #[] 0 (.fresh 0 0 (ledOf w)) }
section
variable {prog:Program} {w:World} {A:Around} {E:T0a} {s:Shared} {K:Type} [DecidableEq K] {knd:KeyKind prog w K}
theorem b1F (h:Heap):Good knd (h.push (gP w)) h.objs.size [] (ledOf w):=
 ⟨⟨_,#[],0,_,qJ _ rfl,⟨rfl,rfl,rfl⟩,rfl,fun e he=>by simp at he,fun k=>by simp,rfl,rfl,.fresh _⟩,List.nodup_nil,by show 0<ug;decide⟩
theorem new_one (v:Value) {Q1:T0a} (h:Q1 (.ref s.heap.objs.size) { s with heap:=s.heap.push (gP w) }):wx (model prog w) A (.call (.builtin "set.__new__") ⟨[.type "set", v],[]⟩) (wants Q1 E) s:=by
 refine codeAny_of_tree ?_;show wpAny _ A.in1 (u8 "set.__new__" ⟨[.type "set", v],[]⟩>>=fun _=>again (.builtin "set.__new__" ⟨[.type "set", v],[]⟩)) _ _ s;refine q8 (y7 (F.newCall_set_1 v) (j3 ⟨wt F.plain_set_new _,we F.entry_set_new ?_⟩));rw [qx F.plain_set_new _];unfold Builtin.«set.__new__» Builtin.Frozenset.newClass;have sub:=sub_set_self;obtain ⟨hp,gs,dr,tk,os⟩:=s;dsimp only
 wp_walk
 refine yj (j3 ?_);dsimp only [newObj];exact q8 (wpAny_alloc (j3 (j3 h)))
theorem set_of {l:Addr} {items:Array Value} {val:Nat→K} {Q:T0a} (hh:A.handled=none) (hl:s.heap.IsList l items) (hval:∀ i v,items[i]?=some v→knd.is (val i) v=true∧v.scannable=true)
  (hpy:∀ i v (A':Around) (E':T0a) (s':Shared) (Q':Int→Shared→Prop),items[i]?=some v→Q' (knd.hash (val i)) { s' with toks:=s'.toks+1 }→wpAny (model prog w) A' (pyHash v) Q' E' s') (hb:items.size+1<ug)
  (h:∀ (h':Heap) (tk:Nat),Good knd h' s.heap.objs.size (metK val items.size) (ledOf w)→(∀ b o,b<s.heap.objs.size→s.heap.get? b=some o→h'.get? b=some o)→Q (.ref s.heap.objs.size) { s with heap:=h',toks:=tk }) :
  wpAny (model prog w) A (call (.type "set") [.ref l]) Q E s:=by
 obtain ⟨c,tl,hmro⟩:=zO.mro;have hmade:=zO.made;have hsub:=zO.sub;refine uh (codeAny_of_tree ?_);show wpAny _ _ (callAny (.type "set") ⟨[.ref l],[]⟩) _ _ _;refine j3 ⟨Code.quiet_builtin _ (by decide +kernel),we F.entry_type_call ?_⟩;rw [Around.under_plain (weight_type_call_type "set" [.ref l] []) rfl];have n1:=zO.notType;have n2:=zO.canCreate;have n3:=F.typeCall_set_1 (.ref l)
 repeat (any_goals (first | assumption | wp_step))
 refine wy (new_one (.ref l) (E:=E) (Q1:=fun ob s1=>ob=.ref s.heap.objs.size∧s1={ s with heap:=s.heap.push (gP w) }) ⟨rfl,rfl⟩) fun r s1 hr=>?_;cases r with
 | error e=>exact hr
 | ok fl=>
  cases fl with
  | ret ob=>
   obtain ⟨rfl,rfl⟩:=hr;have hS:(s.heap.push (gP w)).get? s.heap.objs.size=some (gP w):=qJ _ rfl;have hT:vf { s with heap:=s.heap.push (gP w) } (.ref s.heap.objs.size) "set" := ⟨_,hS,rfl⟩;have k1:=zO.init.lookup;have k2:=zO.init.bind (.ref s.heap.objs.size)
   repeat (any_goals (first | assumption | wp_step))
   refine wy (uo (R:=wants (fun r s2=>r=.none∧∃ h' tk,s2={ s with heap:=h',toks:=tk }∧Good knd h' s.heap.objs.size (metK val items.size) (ledOf w)∧∀ b o,b<s.heap.objs.size→s.heap.get? b=some o→h'.get? b=some o) E)
    zO.init.plain F.entry_set_init (check_set_init_1 hT ?_)) fun r2 s2 hr2=>?_
   ·obtain ⟨ol,g0,c0,nl,d0⟩:=hl
    obtain ⟨ocl,odc,odt,osl⟩:=ol;dsimp only at c0 d0;subst c0 d0;have g1:(s.heap.push (gP w)).get? l=some { cls:=.type "list", dict:=odc,data:=.seq items nl,slots:=osl }:=qB _ g0;have s1:=F.sub_list_set;have s2:=F.sub_list_frozenset;have ne:(vD "list" == vD "dict")=false:=by decide
    have L1:(s.heap.push (gP w)).IsList l items:=⟨_,g1,rfl,nl,rfl⟩;unfold Builtin.«set.__init__» noKeywords Builtin.Frozenset.updateFrom;generalize hI:pyIter=PI
    wp_walk
    subst hI;refine ua L1 (q8 (wpAny_runValue ?_));have lt:l<s.heap.objs.size:=qG g0;have h3:A.in1.in1.in1.handled=none:=by simp [hh]
    have nI:l≠(s.heap.push (gP w)).objs.size:=by
     rw [jB];exact qa (jp lt)
    have nf:s.heap.objs.size∉[(s.heap.push (gP w)).objs.size,l]:=by
     rw [jB];intro z;rcases qF.mp z with z | z
     ·exact absurd z (qa (zV _))
     ·rw [qQ] at z
      exact absurd z (jc lt)
    refine b3Y (knd:=knd) (led:=ledOf w) ((Walks.list h3 _ l nI items).toS) s.heap.objs.size nf val hval hpy hb (items.size - 0) 0 _ (by omega) (jR _) ⟨⟨_,qJ _ rfl,rfl,rfl⟩,L1.push _⟩ ?g0 ?gR
    case g0=>exact (b1F (knd:=knd) s.heap).keeps fun o e=>qB _ e
    case gR=>
     intro s' mv g';obtain ⟨h',gs',dr',tk',os'⟩:=s';obtain rfl:gs'=s.gens:=mv.gens;obtain rfl:dr'=s.drawn:=mv.drawn;obtain rfl:os'=s.os:=mv.os;show wpAny _ _ _ _ _ _;refine j3 ?_;show wpAny _ _ (ret jH) _ _ _;refine j3 ⟨rfl,h',tk',rfl,g',fun b o hb' e=>?_⟩;refine mv.heap b o (fun z=>?_) (qB _ (qB _ e));rcases qF.mp z with z | z
     ·exact absurd z (qa hb')
     ·rw [qQ,jB] at z
      exact absurd z (qa (jp hb'))
   ·cases r2 with
    | error e=>exact hr2
    | ok fl2=>
     cases fl2 with
     | ret r=>
      obtain ⟨rfl,h',tk,rfl,g',kp⟩:=hr2
      repeat (any_goals (first | assumption | wp_step))
      exact h _ _ g' kp
     | _=>exact hr2.elim
  | _=>exact hr.elim
end
theorem slot_next:Slot "set_iterator" "__next__" "set_iterator.__next__" :=
 .of (owner := "set_iterator") (n := "__next__") (by rw [typeLookup_type,ud];kernel_rfl) (by decide +kernel) (by decide +kernel) (by decide +kernel) (by first | exact .inl (by decide +kernel) | exact .inr (by decide +kernel)) (by rw [isSubtype_type];kernel_rfl)
theorem entry_next:entryFor table "set_iterator.__next__" = some Builtin.«set_iterator.__next__»:=entryFor_of_fast (by kernel_rfl)
theorem args_next (v:Value):argsOk "set_iterator.__next__" ⟨[v],[]⟩:=by unfold argsOk;kernel_rfl
theorem a6u:entryFor table "set.__iter__" = some Builtin.«frozenset.__iter__»:=entryFor_alias (id' := "frozenset.__iter__") (by kernel_rfl) rfl (by decide +kernel) (by kernel_rfl)
abbrev itO (f0:Value) (i:Nat) (a:Addr) (n ep:Nat):Obj:={ cls:=.type "set_iterator", data:=.fields #[f0,v7 i,.ref a,v7 n,v7 ep] }
structure SetAt (h:Heap) (a:Addr) (es:Array (Int×Value)) (ep:Nat) (t:j8):Prop where
 ex:∃ o,h.get? a=some o∧o.cls=.type "set" ∧ o.data=.set es ep t
 fits:t.fits es.size=true
section
variable {prog:Program} {w:World} {A:Around} {E:T0a} {s:Shared} {a I:Addr} {es:Array (Int×Value)} {ep i:Nat} {t:j8}
theorem SetAt.keeps {h h':Heap} (g:SetAt h a es ep t) (k:∀ o,h.get? a=some o→h'.get? a=some o):SetAt h' a es ep t:=by
 obtain ⟨o,ho,r⟩:=g.ex;exact ⟨⟨o,k o ho,r⟩,g.fits⟩
theorem SetAt.state {Q:(Array (Int×Value)×Nat×j8)→Shared→Prop} (g:SetAt s.heap a es ep t) (h:Q (es,ep,t) s):wpAny (model prog w) A (setState a) Q E s:=by
 obtain ⟨o,ho,_,hd⟩:=g.ex;exact wpAny_setState_of ho hd g.fits h
theorem SetAt.entries {Q:Array (Int×Value)→Shared→Prop} (g:SetAt s.heap a es ep t) (h:Q es s):wpAny (model prog w) A (uy a) Q E s:=by
 unfold uy;exact q8 (g.state (j3 h))
theorem next_item {f0:Nat} {x:Value} {nx:Nat} {Q:Option Value→Shared→Prop} (hI:s.heap.get? I=some (itO (v7 f0) i a es.size ep)) (g:SetAt s.heap a es ep t)
  (hn:∀ (A':Around) (E':T0a) (Q':Option (Value×Nat)→Shared→Prop),Q' (some (x,nx)) s→wpAny (model prog w) A' (uu a f0 i ep) Q' E' s)
  (hQ:∀ h',h'.get? I=some (itO (v7 nx) (i+1) a es.size ep)→kP I s.heap h'→Q (some x) { s with heap:=h' }):wpAny (model prog w) A (yi (.ref I)) Q E s:=by
 have hT:s.TypeIs (.ref I) "set_iterator" := ⟨_,hI,rfl⟩;unfold yi;refine q8 (w9 (wc (name:=jF "__next__") hT slot_next (v8 slot_next hT entry_next ?_ (args_next _))));unfold Builtin.«set_iterator.__next__»;generalize hSE:uy=SE;generalize hSN:uu=SN;generalize hSF:setField=SF
 wp_walk
 subst hSE hSN hSF;refine g.entries ?_;dsimp only;rw [if_neg (by simp)];show wpAny _ A.in1 (uu a (f0:Int).toNat (i:Int).toNat (ep:Int).toNat>>=_) _ _ s;rw [jJ,jJ,jJ];refine q8 (hn _ _ _ ?_);dsimp only;refine q8 (v9 hI (by simp) fun h1 g1 s1=>?_);refine q8 (v9 g1 (by simp) fun h2 g2 s2=>?_);refine j3 ⟨x,rfl,j3 (hQ h2 ?_ (s1.trans s2))⟩;rw [g2];simp [itO,v7]
theorem next_end {f0:Nat} {Q:Option Value→Shared→Prop} (hh:A.handled=none) (hI:s.heap.get? I=some (itO (v7 f0) i a es.size ep)) (g:SetAt s.heap a es ep t)
  (hn:∀ (A':Around) (E':T0a) (Q':Option (Value×Nat)→Shared→Prop),Q' none s→wpAny (model prog w) A' (uu a f0 i ep) Q' E' s)
  (hQ:∀ h',Heap.ExtBut I s.heap h'→Q none { s with heap:=h' }):wpAny (model prog w) A (yi (.ref I)) Q E s:=by
 have hT:s.TypeIs (.ref I) "set_iterator" := ⟨_,hI,rfl⟩;unfold yi;refine q8 (w9 (wc (name:=jF "__next__") hT slot_next (v8 slot_next hT entry_next ?_ (args_next _))));unfold Builtin.«set_iterator.__next__»;generalize hSE:uy=SE;generalize hSN:uu=SN;generalize hSF:setField=SF;generalize hNE:newExc=NE;generalize hRN:@raiseNew=RN
 wp_walk
 subst hSE hSN hSF hNE hRN;refine g.entries ?_;dsimp only;rw [if_neg (by simp)];show wpAny _ A.in1 (uu a (f0:Int).toNat (i:Int).toNat (ep:Int).toNat>>=_) _ _ s;rw [jJ,jJ,jJ];refine q8 (hn _ _ _ ?_);dsimp only;refine q8 (v9 hI (by simp) fun h1 g1 s1=>?_);refine q8 ?_;dsimp only [newExc,newTuple];refine q8 (j7 ?_ (by size_fits));refine q8 (m:=yq _ _) (y7 (a:=jH) (by first | rfl | (simp only [yq];rfl)) ?_);refine j7 ?_ (by size_fits);dsimp only [raiseNew];refine q8 (wpAny_handled ?_);rw [show A.in1.handled=none from hh];refine q8 (j3 (wpAny_throw ?_));refine q8 (ui (T := "StopIteration") (b:=true) ⟨_,qJ _ rfl,rfl⟩ isSubtype_stop ?_);exact j3 (hQ _ ((s1.extBut.push _).push _))
end
section
variable {prog:Program} {w:World} {A:Around} {E:T0a} {s:Shared} {a I T:Addr} {es:Array (Int×Value)} {ep i:Nat} {t:j8}
abbrev plO (pl:T0r):Obj:={ cls:=.type "tuple", data:=.seq (pl.map fun (k:Nat)=>v7 k).toArray }
theorem a5W {pl:T0r} {p:Nat} {hx:Int} {x:Value} {Q:Option Value→Shared→Prop} (hI:s.heap.get? I=some (itO (.ref T) i a es.size ep)) (hT:s.heap.get? T=some (plO pl)) (g:SetAt s.heap a es ep t) (hp:pl[i]?=some p) (he:es[p]?=some (hx,x))
  (hQ:∀ h',h'.get? I=some (itO (.ref T) (i+1) a es.size ep)→kP I s.heap h'→Q (some x) { s with heap:=h' }):wpAny (model prog w) A (yi (.ref I)) Q E s:=by
 have hty:s.TypeIs (.ref I) "set_iterator" := ⟨_,hI,rfl⟩;unfold yi;refine q8 (w9 (wc (name:=jF "__next__") hty slot_next (v8 slot_next hty entry_next ?_ (args_next _))));unfold Builtin.«set_iterator.__next__»;generalize hSE:uy=SE;generalize hSN:setNextDrawn=SN;generalize hSF:setField=SF;generalize hSI:y6=SI
 wp_walk
 subst hSE hSN hSF hSI;refine g.entries ?_;dsimp only;rw [if_neg (by simp)];show wpAny _ A.in1 (y6 (.ref T)>>=_) _ _ s;refine q8 (wg hT rfl ?_);dsimp only;have e1:(pl.map fun (k:Nat)=>v7 k).toArray[(i:Int).toNat]?=some (v7 p):=by
  rw [jJ,qp,qW,hp];rfl
 rw [e1];show wpAny _ A.in1 (setNextDrawn a (p:Int).toNat (ep:Int).toNat>>=_) _ _ s;rw [jJ,jJ];unfold setNextDrawn;refine q8 (q8 (g.state ?_));dsimp only;rw [if_neg (by simp),he];refine j3 ?_;refine q8 (v9 hI (by simp) fun h1 g1 s1=>?_);refine j3 ⟨x,rfl,j3 (hQ h1 ?_ s1)⟩;rw [g1];simp [itO,v7]
theorem a8x {pl:T0r} {Q:Option Value→Shared→Prop} (hh:A.handled=none) (hI:s.heap.get? I=some (itO (.ref T) i a es.size ep)) (hT:s.heap.get? T=some (plO pl)) (g:SetAt s.heap a es ep t) (hp:pl[i]?=none)
  (hQ:∀ h',Heap.ExtBut I s.heap h'→Q none { s with heap:=h' }):wpAny (model prog w) A (yi (.ref I)) Q E s:=by
 have hty:s.TypeIs (.ref I) "set_iterator" := ⟨_,hI,rfl⟩;unfold yi;refine q8 (w9 (wc (name:=jF "__next__") hty slot_next (v8 slot_next hty entry_next ?_ (args_next _))));unfold Builtin.«set_iterator.__next__»;generalize hSE:uy=SE;generalize hSF:setField=SF;generalize hSI:y6=SI;generalize hNE:newExc=NE;generalize hRN:@raiseNew=RN
 wp_walk
 subst hSE hSF hSI hNE hRN;refine g.entries ?_;dsimp only;rw [if_neg (by simp)];show wpAny _ A.in1 (y6 (.ref T)>>=_) _ _ s;refine q8 (wg hT rfl ?_);dsimp only;have e1:(pl.map fun (k:Nat)=>v7 k).toArray[(i:Int).toNat]?=none:=by
  rw [jJ,qp,qW,hp];rfl
 rw [e1];dsimp only;refine q8 (v9 hI (by simp) fun h0 g0 s0=>?_);refine q8 (v9 g0 (by simp) fun h1 g1 s1=>?_);refine q8 ?_;dsimp only [newExc,newTuple];refine q8 (j7 ?_ (by size_fits));refine q8 (m:=yq _ _) (y7 (a:=jH) (by first | rfl | (simp only [yq];rfl)) ?_);refine j7 ?_ (by size_fits);dsimp only [raiseNew];refine q8 (wpAny_handled ?_);rw [show A.in1.handled=none from hh];refine q8 (j3 (wpAny_throw ?_));refine q8 (ui (T := "StopIteration") (b:=true) ⟨_,qJ _ rfl,rfl⟩ isSubtype_stop ?_);exact j3 (hQ _ (((s0.trans s1).extBut.push _).push _))
theorem a7z {α:Type} (next:Nat→Nat):∀ (fuel k:Nat) (left:List α) (out:Array α),left.length=fuel→(yh.go next fuel k left out).toList.Perm (out.toList++left)
 | 0,k,left,out,h=>by
  have:left=[]:=List.length_eq_zero_iff.mp h;subst this;simp [yh.go]
 | fuel+1,k,left,out,h=>by
  unfold yh.go;have lt:next k % left.length<left.length:=Nat.mod_lt _ (by omega);rw [qK lt];dsimp only;refine (a7z next fuel (k+1) _ _ (by rw [List.length_eraseIdx,if_pos lt];omega)).trans ?_;rw [Array.toList_push,jU];refine List.Perm.append_left _ ?_;show (left[next k % left.length]::left.eraseIdx (next k % left.length)).Perm left;generalize next k % left.length=m at lt;rw [wG];have e:left=left.take m++left[m]::left.drop (m+1):=by rw [List.getElem_cons_drop,List.take_append_drop]
  refine List.Perm.trans ?_ (List.Perm.of_eq e.symm);exact List.perm_middle.symm
theorem xE {α:Type} (next:Nat→Nat) (xs:Array α):(yh next xs).toList.Perm xs.toList:=by
 unfold yh;have:=a7z next xs.size 0 xs.toList #[] (by simp);simpa using this
theorem b8j (hb:w.params.followText "set-order" = true) {Q:Array (Int×Value)→Shared→Prop} (g:SetAt s.heap a es ep t) (h:Q (yh (w.params.setOrder a ep) es) s):wpAny (model prog w) A (setWalk a) Q E s:=by
 unfold setWalk;refine q8 (g.state ?_);dsimp only;unfold setsByText;refine q8 (q8 (yj (j3 ?_)));show wpAny _ _ (if w.params.followText "set-order" = true then _ else _) _ _ s;rw [if_pos hb];exact q8 (yj (j3 h))
theorem nextT (hb:w.params.followText "set-order" = true) {f0:Nat} {Q:Option (Value×Nat)→Shared→Prop} (g:SetAt s.heap a es ep t) (h:Q (((yh (w.params.setOrder a ep) es)[i]?).map fun e=>(e.2,f0)) s):wpAny (model prog w) A (uu a f0 i ep) Q E s:=by
 unfold uu;refine q8 (g.state ?_);dsimp only;refine q8 ?_;unfold setsByText;refine q8 (yj (j3 ?_));show wpAny _ _ (if w.params.followText "set-order" = true then _ else _) _ _ s;rw [if_pos hb,if_neg (by simp)];refine q8 ?_;exact b8j hb g (j3 h)
theorem b5v (hb:w.params.followText "set-order" = false) (hnd:(!t.plain&&decide (es.size > 1))=false) (hl:t.led=true) {f0:Nat} {Q:Option (Value×Nat)→Shared→Prop} (g:SetAt s.heap a es ep t)
  (h:Q (match es[qf t.place f0]?,t.place[qf t.place f0]? with | some (_,x),some j=>some (x,j+1) | _,_=>none) s):wpAny (model prog w) A (uu a f0 i ep) Q E s:=by
 unfold uu;refine q8 (g.state ?_);dsimp only;refine q8 ?_;unfold setsByText;refine q8 (yj (j3 ?_));show wpAny _ _ (if w.params.followText "set-order" = true then _ else (if (!t.plain&&decide (es.size > 1))=true then _ else _)) _ _ s;rw [hb,if_neg (by decide),hnd,if_neg (by decide)];show wpAny _ _ ((if (!t.led&&!es.isEmpty)=true then unsupported "set:maker-not-led" else pure PUnit.unit)>>=fun _=>_) _ _ s;rw [hl];rw [if_neg (by simp)];exact q8 (j3 (j3 h))
end
theorem a9h {M:Model} {A:Around} {E:T0a} {s:Shared} {src:Source} {n:Nat} {Q:Nat→Shared→Prop} (hn:n≠0) (h:∀ k,k<n→Q k { s with drawn:=s.drawn.bump src }):wpAny M A (choose src n) Q E s:=fun Γ p hΓ=>by
 unfold choose;rw [Sem.wp_choose];exact ⟨hn,h _ (Nat.mod_lt _ (by omega))⟩
theorem a7L {α:Type} {M:Model} {A:Around} {E:T0a}:∀ (n:Nat) (xs:List α) (s:Shared) (Q:List α→Shared→Prop),xs.length=n→(∀ ys d',ys.Perm xs→Q ys { s with drawn:=d' })→wpAny M A (drawOrder n xs) Q E s
 | 0,xs,s,Q,hn,h=>by
  have:xs=[]:=List.length_eq_zero_iff.mp hn;subst this;unfold drawOrder;exact j3 (h [] s.drawn .nil)
 | n+1,[],s,Q,hn,h=>by cases hn
 | n+1,x::xs,s,Q,hn,h=>by
  unfold drawOrder;refine q8 (a9h (by simp) fun k hk=>?_);rw [qK hk];dsimp only;refine q8 (a7L n _ _ _ (by rw [List.length_eraseIdx,if_pos hk];omega) fun ys d' hp=>j3 (h _ d' ?_));refine (hp.cons _).trans ?_;generalize hL:x::xs=left at hk ⊢;rw [wG];have e:left=left.take k++left[k]::left.drop (k+1):=by rw [List.getElem_cons_drop,List.take_append_drop]
  exact List.perm_middle.symm.trans (List.Perm.of_eq e.symm)
theorem slot_self:Slot "set_iterator" "__iter__" "set_iterator.__iter__" :=
 .of (owner := "set_iterator") (n := "__iter__") (by rw [typeLookup_type,ud];kernel_rfl) (by decide +kernel) (by decide +kernel) (by decide +kernel) (by first | exact .inl (by decide +kernel) | exact .inr (by decide +kernel)) (by rw [isSubtype_type];kernel_rfl)
theorem entry_self:entryFor table "set_iterator.__iter__" = some Builtin.«dict_keyiterator.__iter__»:=entryFor_alias (id' := "dict_keyiterator.__iter__") (by kernel_rfl) rfl (by decide +kernel) (by kernel_rfl)
theorem args_self (v:Value):argsOk "set_iterator.__iter__" ⟨[v],[]⟩:=by unfold argsOk;kernel_rfl
theorem wV {prog:Program} {w:World} {A:Around} {E:T0a} {s:Shared} {I:Addr} {Q:T0a} (hty:s.TypeIs (.ref I) "set_iterator") (h:Q (.ref I) s):wpAny (model prog w) A (pyIter (.ref I)) Q E s:=by
 refine wpAny_pyIter_slot hty slot_self (v8 slot_self hty entry_self ?_ (args_self _));show wpAny _ _ (ret (.ref I)) _ _ s;exact j3 ⟨_,rfl, "set_iterator", _,hty,slot_next.lookup,h⟩
section
variable {prog:Program} {w:World} {E:T0a} {a I T:Addr} {es:Array (Int×Value)} {ep:Nat} {t:j8}
theorem b5P (hb:w.params.followText "set-order" = true) (hne:a≠I) {A:Around} (hh:A.handled=none):Walks prog w A I [I,a] [I] es.size (fun i v=>((yh (w.params.setOrder a ep) es).toList.map (·.2))[i]?=some v)
  (fun i h=>h.get? I=some (itO (v7 0) i a es.size ep)∧SetAt h a es ep t) where
 sub:=fun b hb=>by simp at hb;simp [hb]
 frame:=fun i h h' st kp=>⟨kp I (by simp) _ st.1,st.2.keeps fun o e=>kp a (by simp) o e⟩
 item:=fun i s Q E hi st hQ=>by
  have hl:(yh (w.params.setOrder a ep) es).size=es.size:=by rw [←qN,(xE _ _).length_eq,qN]
  have hi':i<(yh (w.params.setOrder a ep) es).size:=by omega
  refine next_item st.1 st.2 (x:=(yh (w.params.setOrder a ep) es)[i].2) (nx:=0) (fun A' E' Q' q=>nextT hb st.2 (by rw [jK hi'];exact q)) fun h' g1 s1=>?_;refine hQ _ h' s.toks ?_ ⟨g1,st.2.keeps fun o e=>s1.extBut _ _ hne e⟩ fun b o hb e=>s1.extBut b o (by simpa using hb) e;rw [qW,kX,jK hi'];rfl
 done:=fun s Q E st hQ=>by
  have hl:(yh (w.params.setOrder a ep) es).size=es.size:=by rw [←qN,(xE _ _).length_eq,qN]
  refine next_end hh st.1 st.2 (fun A' E' Q' q=>nextT hb st.2 (by rw [Array.getElem?_eq_none (by omega)];exact q)) fun h' x=>hQ h' s.toks fun b o hb e=>x b o (by simpa using hb) e
 self:=fun i s Q E st hQ=>by
  have hty:s.TypeIs (.ref I) "set_iterator" := ⟨_,st.1,rfl⟩;exact wV hty hQ
def slotAt (t:j8):Nat→Nat
 | 0=>0
 | i+1=>t.place.getD i 0+1
theorem uL {n:Nat} (hr:rN t.place) (hn:t.place.size=n):∀ i,i≤n→qf t.place (slotAt t i)=i
 | 0,_=>a6F _ hr
 | i+1,h=>by
  have lt:i<t.place.size:=by omega
  show qf t.place (t.place.getD i 0+1)=i+1;have:t.place.getD i 0=t.place[i]:=by simp [vH,lt]
  rw [this];exact a6G hr lt
theorem b5R (hb:w.params.followText "set-order" = false) (hnd:(!t.plain&&decide (es.size > 1))=false) (hl:t.led=true) (hr:rN t.place) (hp:t.place.size=es.size) (hne:a≠I) {A:Around} (hh:A.handled=none) :
  Walks prog w A I [I,a] [I] es.size (fun i v=>(es.toList.map (·.2))[i]?=some v) (fun i h=>i≤es.size∧h.get? I=some (itO (v7 (slotAt t i)) i a es.size ep)∧SetAt h a es ep t) where
 sub:=fun b hb=>by simp at hb;simp [hb]
 frame:=fun i h h' st kp=>⟨st.1,kp I (by simp) _ st.2.1,st.2.2.keeps fun o e=>kp a (by simp) o e⟩
 item:=fun i s Q E hi st hQ=>by
  have hi':i<t.place.size:=by omega
  have bl:=uL hr hp i (by omega)
  refine next_item st.2.1 st.2.2 (x:=es[i].2) (nx:=slotAt t (i+1)) (fun A' E' Q' q=>b5v hb hnd hl st.2.2 (by
   rw [bl,jK hi,jK hi'];have:slotAt t (i+1)=t.place[i]+1:=by show t.place.getD i 0+1=_;simp [vH,hi']
   rw [this] at q
   exact q)) fun h' g1 s1=>?_
  refine hQ _ h' s.toks ?_ ⟨hi,g1,st.2.2.keeps fun o e=>s1.extBut _ _ hne e⟩ fun b o hb e=>s1.extBut b o (by simpa using hb) e;rw [qW,kX,jK hi];rfl
 done:=fun s Q E st hQ=>by
  have bl:=uL hr hp es.size (qR _)
  refine next_end hh st.2.1 st.2.2 (fun A' E' Q' q=>b5v hb hnd hl st.2.2 (by
   rw [bl,Array.getElem?_eq_none (qR _)]
   exact q)) fun h' x=>hQ h' s.toks fun b o hb e=>x b o (by simpa using hb) e
 self:=fun i s Q E st hQ=>wV ⟨_,st.2.1,rfl⟩ hQ
theorem b5Q {pl:T0r} (hpl:pl.Perm (qi es.size)) (hne:a≠I) (hTI:T≠I) {A:Around} (hh:A.handled=none) :
  Walks prog w A I [I,a,T] [I] es.size (fun i v=>(pl.map fun k=>(es.toList.map (·.2)).getD k .none)[i]?=some v) (fun i h=>h.get? I=some (itO (.ref T) i a es.size ep)∧h.get? T=some (plO pl)∧SetAt h a es ep t) where
 sub:=fun b hb=>by simp at hb;simp [hb]
 frame:=fun i h h' st kp=>⟨kp I (by simp) _ st.1,kp T (by simp) _ st.2.1,st.2.2.keeps fun o e=>kp a (by simp) o e⟩
 item:=fun i s Q E hi st hQ=>by
  have hlen:pl.length=es.size:=by rw [hpl.length_eq,kj]
  have hi':i<pl.length:=by omega
  have hm:pl[i]∈qi es.size:=hpl.mem_iff.mp (ja hi');have hlt:pl[i]<es.size:=kr.mp hm;refine a5W (p:=pl[i]) (hx:=es[pl[i]].1) (x:=es[pl[i]].2) st.1 st.2.1 st.2.2 (qK hi') (jK hlt) fun h' g1 s1=>?_;refine hQ _ h' s.toks ?_ ⟨g1,s1.extBut _ _ hTI st.2.1,st.2.2.keeps fun o e=>s1.extBut _ _ hne e⟩ fun b o hb e=>s1.extBut b o (by simpa using hb) e;rw [qW,qK hi'];simp [vw,hlt]
 done:=fun s Q E st hQ=>by
  have hlen:pl.length=es.size:=by rw [hpl.length_eq,kj]
  exact a8x hh st.1 st.2.1 st.2.2 (qb (by omega)) fun h' x=>hQ h' s.toks fun b o hb e=>x b o (by simpa using hb) e
 self:=fun i s Q E st hQ=>wV ⟨_,st.1,rfl⟩ hQ
theorem a5T {α:Type} (xs:List α) (d:α) {pl:T0r} (h:pl.Perm (qi xs.length)):(pl.map fun k=>xs.getD k d).Perm xs:=by
 refine (h.map _).trans (List.Perm.of_eq ?_);apply jT;intro i;rw [qW];by_cases hi:i<xs.length
 ·rw [kI hi,qK hi];simp [vw,hi]
 ·rw [qb (by simpa using hi),qb (by omega)];rfl
theorem b1t {A:Around} {s:Shared} {Q:T0a} (g:SetAt s.heap a es ep t) (hT:TOk t (ledOf w)) (few:es.size≤j5)
  (h:∀ (h':Heap) (d':Drawn) (I:Addr) (vs:T0k) (fp:T0m) (St:Nat→Heap→Prop),vs.Perm (es.toList.map (·.2))→(∀ b o,s.heap.get? b=some o→h'.get? b=some o)→s.heap.objs.size≤I→I∈fp→(∀ b∈fp,b=a∨s.heap.objs.size≤b) →
   (∀ A':Around,A'.handled=none→Walks prog w A' I fp [I] es.size (fun i v=>vs[i]?=some v) St)→St 0 h'→Q (.ref I) { s with heap:=h',drawn:=d' }) :
  wpAny (model prog w) A (pyIter (.ref a)) Q E s:=by
 obtain ⟨o,ho,hc,hd⟩:=g.ex;have hty:s.TypeIs (.ref a) "set" := ⟨o,ho,hc⟩;have lt:a<s.heap.objs.size:=qG ho;have hpl:t.place.size=es.size:=by
  have:=g.fits;simp only [j8.fits,qM,beq_iff_eq] at this;exact this.1
 refine wpAny_pyIter_slot hty F.slot_set_iter (v8 F.slot_set_iter hty a6u ?_ (F.args_set_iter_1 _));unfold Builtin.«frozenset.__iter__»;generalize hSD:setDrawn=SD;generalize hSE:setEpoch=SE;generalize hSZ:Builtin.Frozenset.sizeOf=SZ
 wp_walk
 subst hSD hSE hSZ;unfold Builtin.Frozenset.sizeOf;refine q8 (g.entries (j3 ?_));have fin:∀ (f0:Value) (s2:Shared),SetAt s2.heap a es ep t→Q (.ref s2.heap.objs.size) { s2 with heap:=s2.heap.push (itO f0 0 a es.size ep) } →
   wpAny (model prog w) A.in1 (setEpoch a>>=fun e=>newFields "set_iterator" [f0,v7 0,jb a,v7 (es.size:Nat),v7 (e:Nat)]>>=fun v=>ret v) (fun fin s'=>∃ v,fin=Fin.done (Flow.ret v)∧∃ T' r,s'.TypeIs v T'∧typeLookup (vD T') (jF "__next__")=pure (some r)∧Q v s') E s2:=by
  intro f0 s2 g2 q;refine q8 ?_;unfold setEpoch;refine q8 (g2.state (j3 ?_));refine q8 ?_;unfold newFields;exact j7 (j3 ⟨_,rfl, "set_iterator", _,⟨_,qJ _ rfl,rfl⟩,slot_next.lookup,q⟩) (by size_fits)
 have plain:∀ (vs:T0k) (St:Nat→Heap→Prop),vs.Perm (es.toList.map (·.2))→(∀ A':Around,A'.handled=none→Walks prog w A' s.heap.objs.size [s.heap.objs.size,a] [s.heap.objs.size] es.size (fun i v=>vs[i]?=some v) St) →
   St 0 (s.heap.push (itO (v7 0) 0 a es.size ep))→Q (.ref s.heap.objs.size) { s with heap:=s.heap.push (itO (v7 0) 0 a es.size ep) }:=by
  intro vs St hp W st;refine h _ s.drawn s.heap.objs.size vs [s.heap.objs.size,a] St hp (fun b o e=>qB _ e) (qR _) (by simp) (fun b hb=>?_) W st;rcases qF.mp hb with z | z
  ·exact .inr (by rw [z];exact qR _)
  ·exact .inl (qQ.mp z)
 have hne:a≠s.heap.objs.size:=qa lt;have g1:SetAt (s.heap.push (itO (v7 0) 0 a es.size ep)) a es ep t:=g.keeps fun o e=>qB _ e;refine q8 ?_;unfold setDrawn;refine q8 (g.state ?_);dsimp only;unfold setsByText;refine q8 (q8 (yj (j3 (j3 ?_))));show wpAny _ _ (if (!w.params.followText "set-order" && (!t.plain&&decide (es.size > 1)))=true then _ else _) _ _ s;cases hbt:w.params.followText "set-order" with
 | true=>
  rw [if_neg (by simp)];refine q8 (j3 ?_);exact fin (v7 0) s g (plain _ _ ((xE _ _).map _) (fun A' hA=>b5P hbt hne hA) ⟨qJ _ rfl,g1⟩)
 | false=>
  have hled:t.led=true:=by rw [hT.led];unfold ledOf;rw [hbt];rfl
  cases hdr:(!t.plain&&decide (es.size > 1)) with
  | false=>
   rw [if_neg (by simp)];refine q8 (j3 ?_);have hr:rN t.place:=by
    cases hp:t.plain with
    | true=>exact hT.rise hp
    | false=>
     rw [hp] at hdr;have:¬es.size > 1:=by simpa using hdr
     unfold rN;have hl:t.place.toList.length≤1:=by rw [qN];omega
     match t.place.toList,hl with
     | [],_=>exact .nil
     | [x],_=>exact vI _ _
   exact fin (v7 0) s g (plain _ _ (.refl _) (fun A' hA=>b5R hbt hdr hled hr hpl hne hA) ⟨jR _,qJ _ rfl,g1⟩)
  | true=>
   rw [if_pos (by simp)];refine q8 (a7L es.size (qi es.size) s _ (by simp) fun pl d' hpl'=>?_);refine q8 ?_;unfold newTuple
   refine j7 ?_ (by
    have h1:pl.length=es.size:=by rw [hpl'.length_eq,kj]
    show (pl.map fun (k:Nat)=>v7 k).toArray.size≤j5;rw [qI,qE,h1]
    exact few)
   have g2:SetAt (s.heap.push (plO pl)) a es ep t:=g.keeps fun o e=>qB _ e;refine fin (.ref s.heap.objs.size) { s with heap:=s.heap.push (plO pl),drawn:=d' } g2 ?_;have sz:(s.heap.push (plO pl)).objs.size=s.heap.objs.size+1:=jB ..;have hp2:(pl.map fun k=>(es.toList.map (·.2)).getD k jH).Perm (es.toList.map (·.2)):=a5T _ _ (by simpa using hpl');refine h _ d' (s.heap.push (plO pl)).objs.size _ [(s.heap.push (plO pl)).objs.size,a,s.heap.objs.size] _ hp2 (fun b o e=>qB _ (qB _ e)) (by rw [sz];exact jw _) (by simp) (fun b hb=>?_)
    (fun A' hA=>b5Q (ep:=ep) (t:=t) hpl' (by rw [sz];exact qa (jp lt)) (by rw [sz];exact qa (zV _)) hA) ⟨qJ _ rfl,qB _ (qJ _ rfl),g2.keeps fun o e=>qB _ e⟩
   rcases qF.mp hb with z | z
   ·exact .inr (by rw [z,sz];exact jw _)
   ·rcases qF.mp z with z | z
    ·exact .inl z
    ·rw [qQ] at z;exact .inr (by rw [z];exact qR _)
end
theorem b3b:typeLookup (.type "set") "__len__" = pure (some (.builtin "set.__len__")):=by rw [typeLookup_type,ud];kernel_rfl
section
variable {prog:Program} {w:World} {E:T0a} {a:Addr} {es:Array (Int×Value)} {ep:Nat} {t:j8}
theorem a5u {A:Around} {s:Shared} {Q:List Value→Shared→Prop} (hh:A.handled=none) (g:SetAt s.heap a es ep t) (hT:TOk t (ledOf w)) (few:es.size≤j5)
  (hQ:∀ (h':Heap) (d':Drawn) (tk:Nat) (vs:T0k),vs.Perm (es.toList.map (·.2))→(∀ b o,s.heap.get? b=some o→h'.get? b=some o)→s.heap.objs.size<h'.objs.size→Q vs { s with heap:=h',drawn:=d',toks:=tk }) :
  wpAny (model prog w) A (collect (.ref a)) Q E s:=by
 obtain ⟨o,ho,hc,_⟩:=g.ex;have lt:a<s.heap.objs.size:=qG ho;unfold collect;refine q8 (wpAny_runValue (we F.entry_proto_collect ?_));rw [qx F.plain_proto_collect _];show wpAny _ A.in1 (newList []>>=fun l=>again (.builtin "list.__iadd__" ⟨[l,.ref a],[]⟩)) _ _ s;refine q8 (j7 ?_);refine j3 ⟨wt vY _,we F.entry_list_iadd ?_⟩;rw [qx vY _];have g1:SetAt (s.heap.push { cls:=.type "list", data:=.seq ([]:T0k).toArray }) a es ep t:=g.keeps fun o e=>qB _ e;have hS1:(s.heap.push { cls:=.type "list", data:=.seq ([]:T0k).toArray }).get? s.heap.objs.size=some { cls:=.type "list", data:=.seq ([]:T0k).toArray }:=qJ _ rfl;have ty1:vf { s with heap:=s.heap.push { cls:=.type "list", data:=.seq ([]:T0k).toArray } } (.ref a) "set" := ⟨o,qB _ ho,hc⟩;show wpAny _ A.in1 (jo (.ref s.heap.objs.size) (.ref a) (.ref s.heap.objs.size)) _ _ _;unfold jo;refine q8 (yw ty1 ?_);have e1:Builtin.List.listSameRef (.ref s.heap.objs.size) (.ref a)=false:=by simp [Builtin.List.listSameRef,jc lt]
 have e2:(vD "set" == vD "list")=false:=by decide
 have e3:(vD "set" == vD "tuple")=false:=by decide
 simp only [e1,e2,e3,wA,jX,if_false];refine q8 (b1t (w:=w) g1 hT few fun h' d' I vs fp St hp kp hI hIf hfp W st=>?_);have ty2:vf { s with heap:=h',drawn:=d' } (.ref a) "set" := ⟨o,kp a o (qB _ ho),hc⟩;refine q8 (j9 ?_);have hint:∀ Q':Bool→Shared→Prop,Q' false { s with heap:=h',drawn:=d' }→wpAny (model prog w) A.in1 (Builtin.List.listLengthHint (.ref a)) Q' E { s with heap:=h',drawn:=d' }:=by
  intro Q' q;unfold Builtin.List.listLengthHint;refine q8 (wpAny_specialOf ty2 b3b ?_);generalize hid:("set.__len__" : String)=i0
  wp_delta
  rw [show splitId i0=some ("set", "__len__") from by rw [←hid];decide +kernel];rw [←hid];refine q8 (ui (T := "set") (b:=true) ty2 sub_set_self ?_);refine wpAny_ite_split (fun z=>absurd z (by decide)) fun _=>?_;refine wpAny_ite_split (fun _=>?_) fun z=>absurd (by decide +kernel) z;exact q8 (yw ty2 (j3 q))
 refine hint _ ?_;have hSf:s.heap.objs.size∉fp:=fun hm=>by
  rcases hfp _ hm with z | z
  ·exact absurd z (jc lt)
  ·rw [jB] at z;exact absurd z (Nat.not_succ_le_self _)
 refine wpAny_ite_split (fun _=>?_) fun z=>absurd (by decide +kernel) z;have hS2:=kp _ _ hS1;refine q8 (ww ?_);refine q8 ?_;show wpAny _ A.in1 (updateSeq s.heap.objs.size (·.push .none)>>=fun _=>updateSeq s.heap.objs.size (·.pop)) _ _ _;refine q8 (yz hS2 rfl ?_);have hS3:=jG (qy (·.push jH)) hS2 rfl;refine yz hS3 rfl ?_;have hS4:=jG (qy (·.pop)) hS3 rfl;have oth:∀ b o,b≠s.heap.objs.size→h'.get? b=some o→((h'.update s.heap.objs.size (qy (·.push jH))).update s.heap.objs.size (qy (·.pop))).get? b=some o:=
  fun b o hb e=>by rw [qX _ _ (jm hb),qX _ _ (jm hb)];exact e
 have W1:=W A.in1 hh
 refine j3 ⟨wt F.plain_extend_loop _,codeAny_extend_loopS W1.toS few _ hSf _ es.size 0 _ _ _ rfl (jR _)
  (W1.frame 0 _ _ st fun b hb o e=>oth b o (fun z=>hSf (z▸hb)) e) hS4 (ItemsOf.nil _) fun s' acc' c' hm hS' hacc=>?_⟩
 show wpAny _ A (load s.heap.objs.size>>=_) _ _ s';refine q8 (wpAny_load hS' (j3 ?_));have hv:acc'.toList=vs:=by
  have hl:vs.length=es.size:=by rw [hp.length_eq];simp
  refine jT fun i=>?_;by_cases hi:i<es.size
  ·have h1:i<acc'.size:=by rw [hacc.1];exact hi
   have h2:=hacc.2 i _ (jK h1);rw [h2,kX,jK h1]
  ·rw [qb (by rw [qN,hacc.1];omega),qb (by rw [hl];omega)]
 show Q acc'.toList s';rw [hv,Moved.eq_with hm];refine hQ s'.heap d' s'.toks vs hp (fun b o e=>?_) (qG hS');have hb:b≠s.heap.objs.size:=qa (qG e);refine hm.heap b o (fun hmem=>?_) (oth b o hb (kp b o (qB _ e)));rcases qF.mp hmem with z | z
 ·exact hb z
 ·rw [qQ] at z
  rw [jB] at hI;have q:=qG e;rw [z] at q;exact jN _ (qT (jp q) hI)
end
theorem perm_of {α:Type} [DecidableEq α]:∀ (ks qs:List α),ks.Nodup→(∀ k∈ks,k∈qs)→qs.length=ks.length→qs.Perm ks
 | [],[],_,_,_=>.refl _
 | k::ks,qs,hn,hm,hl=>by
  have h1:=List.perm_cons_erase (hm k (by simp));have hn':=kT.mp hn;refine h1.trans (.cons k (perm_of ks _ hn'.2 (fun x hx=>?_) ?_))
  ·exact (List.mem_erase_of_ne (fun z=>by rw [z] at hx;exact hn'.1 hx)).mpr (hm x (by simp [hx]))
  ·have:=h1.length_eq;simp only [qZ] at this hl;omega
section
variable {prog:Program} {w:World} {K:Type} [DecidableEq K] {knd:KeyKind prog w K}
inductive Keys (knd:KeyKind prog w K):List Value→List K→Prop
 | nil:Keys knd [] []
 | cons {v k vs ks}:knd.is k v=true→Keys knd vs ks→Keys knd (v::vs) (k::ks)
theorem Keys.len {vs ks} (h:Keys knd vs ks):ks.length=vs.length:=by induction h<;>simp [*]
theorem Keys.mem {vs ks} (h:Keys knd vs ks) {v:Value} {k:K} (hv:v∈vs) (e:knd.is k v=true):k∈ks:=by
 induction h with
 | nil=>cases hv
 | cons h1 _ ih=>
  rcases qF.mp hv with z | z
  ·subst z;rw [knd.inj _ _ _ e h1];simp
  ·exact qD _ (ih z)
theorem a7q:∀ (es:List (Int×Value)),ElemsOf knd es→∃ qs,Keys knd (es.map (·.2)) qs
 | [],_=>⟨[],.nil⟩
 | e::es,h=>by
  obtain ⟨qs,hq⟩:=a7q es fun x hx=>h x (qD _ hx);obtain ⟨⟨k,hk,_⟩,_⟩:=h e (by simp);exact ⟨k::qs,.cons hk hq⟩
theorem Keys.perm {vs us:T0k} (hp:us.Perm vs):∀ {ks},Keys knd vs ks→∃ qs,Keys knd us qs∧qs.Perm ks:=by
 induction hp with
 | nil=>intro ks h;exact ⟨ks,h,.refl _⟩
 | cons v _ ih=>
  intro ks h;cases h with
  | cons h1 h2=>obtain ⟨qs,a,b⟩:=ih h2;exact ⟨_::qs,.cons h1 a,.cons _ b⟩
 | swap x y l=>
  intro ks h;cases h with
  | cons h1 h2=>cases h2 with
   | cons h3 h4=>exact ⟨_,.cons h3 (.cons h1 h4),.swap ..⟩
 | trans _ _ i1 i2=>
  intro ks h;obtain ⟨q1,a1,b1⟩:=i2 h;obtain ⟨q2,a2,b2⟩:=i1 a1;exact ⟨q2,a2,b2.trans b1⟩
theorem Good.keys {h:Heap} {a:Addr} {ks:List K} {led:Bool} (g:Good knd h a ks led):∃ es ep t,SetAt h a es ep t∧TOk t led∧es.size=ks.length∧∀ vs,vs.Perm (es.toList.map (·.2))→∃ qs,Keys knd vs qs∧qs.Perm ks:=by
 obtain ⟨o,es,ep,t,ho,hx,hd,hE,hm,hl,hf,hT⟩:=g.ex;refine ⟨es,ep,t,⟨⟨o,ho,hx.1,hd⟩,hf⟩,hT,hl,fun vs hp=>?_⟩;obtain ⟨qs,hq⟩:=a7q es.toList hE
 have h1:qs.Perm ks:=perm_of ks qs g.nd (fun k hk=>by
  obtain ⟨e,he,hi⟩:=(hm k).mp hk
  exact hq.mem (qz he) hi) (by rw [hq.len,qE,qN,hl])
 obtain ⟨q2,a2,b2⟩:=Keys.perm hp.symm.symm hq;exact ⟨q2,a2,b2.trans h1⟩
theorem a8O {vs:T0k} {ks:T0q} (h:Keys (QQ prog w) vs ks):ym vs ks:=by
 induction h with
 | nil=>exact .nil
 | cons h1 _ ih=>obtain ⟨t,rfl⟩:=Value.isInt_shape h1;exact .cons _ t ih
theorem keys_strs {vs:T0k} {ks:T0o} (h:Keys (zc prog w) vs ks):QN vs ks:=by
 induction h with
 | nil=>exact .nil
 | cons h1 _ ih=>obtain ⟨t,rfl⟩:=Value.isStrOf_shape h1;exact .cons _ t ih
variable {A:Around} {E:T0a} {s:Shared} {a:Addr} {es:Array (Int×Value)} {ep:Nat} {t:j8}
theorem sorted_set {Out:Array Value→Prop} {Q:T0a} (hh:A.handled=none) (g:SetAt s.heap a es ep t) (hT:TOk t (ledOf w)) (few:es.size<64)
  (hsort:∀ (A':Around) (E':T0a) (s':Shared) (l:Addr) (vs:T0k) (n:Nat) (P:Fin→Shared→Prop),vs.Perm (es.toList.map (·.2))→s'.heap.get? l=some (k7 "list" vs.toArray n) →
   (∀ out,Out out→P (.done (.ret .none)) { s' with heap:=QG s'.heap l vs out })→wpAny (model prog w) A' (Builtin.«list.sort» ⟨[.ref l],[]⟩) P E' s')
  (h:∀ (h':Heap) (d':Drawn) (tk:Nat) (D:Addr) (out:Array Value) (e:Nat),(∀ b o,s.heap.get? b=some o→h'.get? b=some o)→s.heap.objs.size≤D→h'.get? D=some (k7 "list" out e)→Out out→Q (.ref D) { s with heap:=h',drawn:=d',toks:=tk }) :
  wpAny (model prog w) A (call (.builtin "sorted") [.ref a]) Q E s:=by
 have big:(64:Nat)≤j5:=by decide
 refine Calls.call_function_entry kind_sorted plain_sorted entry_sorted (args_sorted1 _) ?_;unfold Builtin.«sorted»;refine q8 (m:=checkCount "sorted" 1 1 _) (j3 ?_);refine q8 (a5u hh g hT (ql (qv few) big) fun h1 d1 tk vs hp kp hlt=>?_);have hl:vs.length=es.size:=by rw [hp.length_eq];simp
 refine q8 (um ?_ (by rw [hl];exact ql (qv few) big));have hoL:(h1.push (k7 "list" vs.toArray 0)).get? h1.objs.size=some (k7 "list" vs.toArray 0):=qJ _ rfl;refine q8 (j9 (v8 slot_list_sort ⟨_,hoL,rfl⟩ entry_list_sort (hsort _ _ _ _ vs 0 _ hp hoL fun out ho=>⟨_,rfl,?_⟩) (args_list_sort _)));obtain ⟨e,he⟩:=sortedHeap_at (out:=out) hoL;refine j3 ⟨_,rfl,h _ d1 tk h1.objs.size out e (fun b o g=>?_) (qv hlt) he ho⟩;have hb:b<h1.objs.size:=qG (kp b o g);rw [sortedHeap_old (qa hb) (by rw [jB];exact jp hb),qB _ (kp b o g)]
theorem sorted_setI {ks:T0q} {Q:T0a} (hh:A.handled=none) (g:Good (QQ prog w) s.heap a ks (ledOf w)) (few:ks.length<64)
  (h:∀ (h':Heap) (d':Drawn) (tk:Nat) (D:Addr) (out:Array Value) (e:Nat),(∀ b o,s.heap.get? b=some o→h'.get? b=some o)→s.heap.objs.size≤D→h'.get? D=some (k7 "list" out e)→ym out.toList (L3.sortI ks)→Q (.ref D) { s with heap:=h',drawn:=d',toks:=tk }) :
  wpAny (model prog w) A (call (.builtin "sorted") [.ref a]) Q E s:=by
 obtain ⟨es,ep,t,g1,hT,hl,hv⟩:=g.keys;refine sorted_set (Out:=fun out=>ym out.toList (L3.sortI ks)) hh g1 hT (by rw [hl];exact few) (fun A' E' s' l vs n P hp ho q=>?_) h;obtain ⟨qs,hk,hq⟩:=hv vs hp;refine list_sort_tree ho (a8O hk) (by rw [hp.length_eq,qE,qN,hl];exact few) fun out ns' h1 h2 h3=>q out ?_;rw [←L3.sortI_eq (h2.trans hq) h3];exact h1
end
end L2.SX
namespace L2.L3
open PySem PySem.Spec PyProof.Rows
def c0A (X:Cx) (H0 G₀ G:Hp) (ρ:List Ent) (H:Hp) (Q:Option Int→Hp→Prop):Re (Option Int)→Prop
 | .ok b=>∀ G' H',Grow G H G' H'→Q b H'
 | .ex c=>lJ X H0 G₀ G ρ c
def rO (X:Cx) (f:OF):TO:=fun σ H Q=>∃ ρ r H0 G₀ G,f ρ=some r∧RepS X.K H0 G₀ G H σ ρ∧c0A X H0 G₀ G ρ H Q r
structure DO (X:Cx) (e:Option Expr) (f:OF):Prop where
 run:PO X e (rO X f)
section
variable {X:Cx} {H0 G₀ G G1 H H1:Hp} {ρ:List Ent} {σ:St} {a b c d e:Expr} {lo hi:Option Expr} {pos p p2 pos2:Pos} {fa fb fc fd:EF} {fl fh:OF}
theorem bO {fa:OF} {β:Type} {k:Option Int→Mm β} {r:Re β} (R:RepS X.K H0 G₀ G H σ ρ) (e:bnd (fa ρ) k=some r) {T:Option Int→Hp→Prop} (hx:∀ c,r=.ex c→lJ X H0 G₀ G ρ c)
  (h:∀ x G1 H1,Grow G H G1 H1→RepS X.K H0 G₀ G1 H1 σ ρ→k x=some r→T x H1):rO X fa σ H T:=by
 rcases bG e with ⟨x,e1,e2⟩ | ⟨c,e1,e2⟩
 ·exact ⟨ρ,_,H0,G₀,G,e1,R,fun G1 H1 g1=>h x G1 H1 g1 (R.more g1) e2⟩
 ·exact ⟨ρ,_,H0,G₀,G,e1,R,hx c e2⟩
theorem b4J:DO X none a2h:=⟨fun pins s σ H Q I ⟨ρ,r,H0,G₀,G,e,R,q⟩=>by
 cases (qA e)
 exact b3o pins s σ H Q I (q G H (.refl R.sub))⟩
theorem a7Q (ha:DE X a fa):DO X (some a) (a2g fa):=⟨fun pins s σ H Q I ⟨ρ,r,H0,G₀,G,e,R,q⟩=>by
 refine b3n ha.run pins s σ H Q I (bE R e (fun c z=>by subst z;exact q) fun x v G1 H1 g1 R1 rv e1=>?_);obtain ⟨k,ek,rfl⟩:=aZ e1;cases x<;>simp only [intD,Option.map] at ek<;>cases ek
 cases rv
 exact ⟨_,rfl,q G1 H1 g1⟩⟩
theorem b9g (ha:DE X a fa) (hl:DO X lo fl) (hh:DO X hi fh):DE X (.Subscript a (.Slice lo hi none p2) pos) (slE fa fl fh):=⟨fun pins s σ H Q I ⟨ρ,r,H0,G₀,G,e,R,q⟩=>
 b0M (b2Z.or b6f) ha.run hl.run hh.run pins s σ H Q I (bE R e q.x fun x v G1 H1 g1 R1 rv e1=>bO R1 e1 (q.more g1).x fun l G2 H2 g2 R2 e2=>bO R2 e2 ((q.more g1).more g2).x fun h G3 H3 g3 R3 e3=>by
  obtain ⟨d,ed,rfl⟩:=aZ e3;have g23:=g2.trans g3;unfold slD at ed;split at ed
  ·cases (qA ed)
   cases rv with
   | list hq r=>
    refine .inl ⟨_,_,rfl,(g23.gg.trans g23.sub).seq hq,fun l hl=>q _ _ _ ((g1.trans g23).trans (.put g23.sub hl)) ?_⟩;exact .list (.of aL) (a5s (r.mono (g23.gg.trans (bD (g23.sub.free hl)))) _ _)
  ·split at ed
   ·cases ed
   ·rename_i hw
    cases (qA ed);cases rv with
    | tuple hq r=>
     refine .inr ⟨_,_,rfl,mU (g23.gg.trans g23.sub) hq,by rw [r.length];exact hw,fun l hl=>q _ _ _ ((g1.trans g23).trans (.put g23.sub hl)) ?_⟩;exact .tuple (.of aL) (a5s (r.mono (g23.gg.trans (bD (g23.sub.free hl)))) _ _)
  ·cases ed)⟩
theorem Inv.draws {pins:T0b} {s:Shared} {d':Drawn} (I:Inv X pins σ H s):Inv X pins σ H { s with drawn:=d' }:=⟨I.ok,I.os,I.bare,I.base,I.loc,I.cell,I.free,I.freeC,I.pin,I.hok,I.len⟩
def b8o (K:qC) (t:TA):TE:=fun σ H Q=>t σ H fun xs H1=>(∃ a ns,xs=[.ref a]∧SqL K H1 a (ns.map V.int)∧ns.length<64∧∀ l,H1 l=none→Q (.ref l) (upd H1 l (.lst ((sortI (lA ns)).map V.int)))) ∨
 ∃ a ns,xs=[.ref a]∧SqL K H1 a (ns.map V.str)∧ns.length<64∧∀ l,H1 l=none→Q (.ref l) (upd H1 l (.lst ((iD (a3M ns)).map V.str)))
theorem a1r {α:Type} [DecidableEq α] (d:α) (ns:List α):SX.metK (fun i=>ns.getD i d) ns.length=ns.foldl SX.addK []:=by
 unfold SX.metK;have:(qi ns.length).map (fun i=>ns.getD i d)=ns:=by
  refine jT fun i=>?_;rw [qW];by_cases h:i<ns.length
  ·rw [kI h,qK h];simp [h]
  ·rw [qb (by simp;omega),qb (by omega)];rfl
 rw [this]
theorem xX (ns:T0q):SX.metK (fun i=>ns.getD i 0) ns.length=lA ns:=a1r 0 ns
theorem sZ (ns:T0o):SX.metK (fun i=>ns.getD i "") ns.length=a3M ns:=a1r ("" : Str) ns
theorem a7t {vs:T0k} {ns:T0q} (h:ym vs ns):∀ (i:Nat) (v:Value),vs[i]?=some v→∃ t:Tok,v=Value.int (ns.getD i 0) t:=by
 induction h with
 | nil=>intro i v e;simp at e
 | cons n t _ ih=>
  intro i v e;cases i with
  | zero=>simp at e;exact ⟨t,by simp [←e]⟩
  | succ i=>simpa using ih i v (by simpa using e)
theorem a6R {vs:T0k} {ns:T0o} (h:QN vs ns):∀ (i:Nat) (v:Value),vs[i]?=some v→∃ t:Tok,v=Value.str (ns.getD i "") t:=by
 induction h with
 | nil=>intro i v e;simp at e
 | cons n t _ ih=>
  intro i v e;cases i with
  | zero=>simp at e;exact ⟨t,by simp [←e]⟩
  | succ i=>simpa using ih i v (by simpa using e)
theorem a0v {ns:T0o}:∀ {us:T0k},aY (ns.map V.str) us→QN us ns:=by
 induction ns with
 | nil=>intro us r;cases r;exact .nil
 | cons n ns ih=>intro us r;cases r with | cons r1 r2=>obtain ⟨t,rfl⟩:=r1;exact .cons n t (ih r2)
theorem uR:∀ {vs:T0k} {ns:T0o},QN vs ns→aY (ns.map V.str) vs
 | _,_,.nil=>.nil
 | _,_,.cons n t h=>.cons ⟨t,rfl⟩ (uR h)
theorem nZ {K:qC} {G:Hp}:∀ ns:List Str,RepAll K G (ns.map V.str) (ns.map .str)
 | []=>.nil
 | _::r=>.cons (.str _) (nZ r)
theorem yE {vs:T0k} {ns:T0o} (h:QN vs ns):vs.length=ns.length:=by induction h<;>simp [*]
theorem pH {a b c:Str} (h1:cH a b=true) (h2:cH b c=true):cH a c=true:=by
 unfold cH at *;simp only [kG,decide_eq_false_iff_not,List.not_lt] at *;exact List.le_trans h1 h2
theorem lT (a b:Str):(cH a b || cH b a)=true:=by
 unfold cH;simp only [vc,kG,decide_eq_false_iff_not,List.not_lt];exact List.le_total _ _
theorem a0X {a b:Str} (h1:cH a b=true) (h2:cH b a=true):a=b:=by
 unfold cH at *;simp only [kG,decide_eq_false_iff_not,List.not_lt] at *;have e:=List.le_antisymm h1 h2;cases a;cases b;congr 1;exact wU.mp e
theorem gC (ns:T0o):(iD ns).Perm ns:=vn _ _
theorem nG (ns:T0o):(iD ns).Pairwise (fun a b=>cH a b=true):=vJ (le:=cH) (fun a b c h1 h2=>pH h1 h2) lT ns
theorem a2a:∀ (l:T0o) (p:Str),risingS p l=true→(p::l).Pairwise (fun a b=>cH a b=true)
 | [],p,_=>vI _ _
 | x::r,p,h=>by
  have h':(!ltCps x.cps.toList p.cps.toList&&risingS x r)=true:=h;rw [qM] at h';have h1:cH p x=true:=by unfold cH;rw [←ltCps_eq];exact h'.1
  have ih:=a2a r x h'.2;refine qg.mpr ⟨fun y hy=>?_,ih⟩;rcases qF.mp hy with z | z
  ·rw [z];exact h1
  ·exact pH h1 ((qg.mp ih).1 y z)
theorem a8j (l:T0o) (h:sortedS l=true):l.Pairwise (fun a b=>cH a b=true):=by
 cases l with
 | nil=>exact .nil
 | cons x r=>exact a2a r x h
theorem sG:∀ {a b:T0o},a.Perm b→a.Pairwise (fun a b=>cH a b=true)→b.Pairwise (fun a b=>cH a b=true)→a=b
 | [],b,hp,_,_=>by rw [List.nil_perm.mp hp]
 | x::a,b,hp,ha,hb=>by
  match b,hp,hb with
  | [],hp,_=>exact absurd hp.length_eq (by simp)
  | y::b,hp,hb=>
   have h1:=qg.mp ha;have h2:=qg.mp hb;have e:x=y:=by
    rcases qF.mp (hp.mem_iff.mp (qS (a:=x) (l:=a))) with z | z
    ·exact z
    ·rcases qF.mp (hp.mem_iff.mpr (qS (a:=y) (l:=b))) with q | q
     ·exact q.symm
     ·exact a0X (h1.1 y q) (h2.1 x z)
   subst e;rw [sG (List.Perm.cons_inv hp) h1.2 h2.2]
theorem a4q {ns ms:T0o} (hp:ms.Perm ns) (hs:sortedS ms=true):ms=iD ns:=sG (hp.trans (gC ns).symm) (a8j ms hs) (nG ns)
theorem a4p {prog:Program} {w:World} {A:Around} {E:T0a} {s:Shared} {a:Addr} {ks:T0o} {Q:T0a} (hh:A.handled=none) (g:SX.Good (zc prog w) s.heap a ks (SX.ledOf w)) (few:ks.length<64)
  (h:∀ (h':Heap) (d':Drawn) (tk:Nat) (D:Addr) (out:Array Value) (e:Nat),(∀ b o,s.heap.get? b=some o→h'.get? b=some o)→s.heap.objs.size≤D→h'.get? D=some (k7 "list" out e)→QN out.toList (iD ks)→Q (.ref D) { s with heap:=h',drawn:=d',toks:=tk }) :
  wpAny (model prog w) A (call (.builtin "sorted") [.ref a]) Q E s:=by
 obtain ⟨es,ep,t,g1,hT,hl,hv⟩:=g.keys;refine SX.sorted_set (Out:=fun out=>QN out.toList (iD ks)) hh g1 hT (by rw [hl];exact few) (fun A' E' s' l vs n P hp ho q=>?_) h;obtain ⟨qs,hk,hq⟩:=hv vs hp;have hS:=SX.keys_strs hk;refine list_sort_treeK strKind_oneLt ho hS.keysOf (fun v₁ v₂ rest e=>keyKind_strs (by rw [←e];exact hS)) (by rw [hp.length_eq,qE,qN,hl];exact few) fun st' hp' hs'=>q _ ?_;obtain ⟨ss',h1,h2,h3⟩:=sorted_out_str hS hp' hs';rw [←a4q (h2.trans hq) h3];exact h1
theorem b3u {t:TA} (hc:X.calm=true) (h1:Gl X "sorted") (m1:X.mg "sorted" = none) (h2:Gl X "set") (m2:X.mg "set" = none) (b2:wm "set" = some (.type "set")) (ha:PA X [e] t) (he:j4 [e] X.env=(false,eval e X.env)::j4 [] X.env)
  (he2:j4 [.Call (.Name "set" p2) [e] [] pos2] X.env=(false,eval (.Call (.Name "set" p2) [e] [] pos2) X.env)::j4 [] X.env) (hpl:∀ q,(k9 q (j4 [] X.env)).any (·.1)=false) (hn:∀ q,k9 q (j4 [] X.env)=[]) :
  PE X (.Call (.Name "sorted" p) [.Call (.Name "set" p2) [e] [] pos2] [] pos) (b8o X.K t):=by
 intro pins s σ H Q I h;refine v0 (mM I h1 m1 boot_sorted ?_);refine callWith_builtin1 ?_ he2 (hpl _);rw [he2];show wpAny _ _ (spliced ((false,eval (.Call (.Name "set" p2) [e] [] pos2) X.env)::k9 pos (j4 [] X.env))) _ _ s;rw [hn];refine Calls.spliced_cons (v0 (mM I h2 m2 b2 ?_));refine callWith_type1 (thn (ha pos2 pins s σ H _ I h) fun us s1 ⟨vs,H1,I1,r1,qq⟩=>?_) he (hpl _);rcases qq with ⟨a,ns,e1,hq,h64,q⟩ | ⟨a,ns,e1,hq,h64,q⟩
 ·subst e1
  obtain ⟨u,rfl,rx⟩:=vals1 r1;cases rx;obtain ⟨its,rv,pl,hz⟩:=I1.list hq;have hi:=intsAre_of rv;have hd:=I1.ok.hd hc;have hl:its.length=ns.length:=hi.length;refine SX.set_of (knd:=QQ X.prog X.w) (val:=fun i=>ns.getD i 0) hd pl.isList (fun i v e=>?_) (fun i v A' E' s' Q' e q'=>?_) ?_ fun h' tk g kp=>?_
  ·obtain ⟨t,rfl⟩:=a7t hi i v (by simpa using e)
   exact ⟨by simp [QQ,Value.isInt],rfl⟩
  ·obtain ⟨t,rfl⟩:=a7t hi i v (by simpa using e)
   exact (QQ X.prog X.w).pyHash (k:=ns.getD i 0) (by simp [QQ,Value.isInt]) q'
  ·have hsz:its.toArray.size=ns.length:=by rw [qI,hl]
   rw [hsz];exact kO h64 (by decide)
  ·have hsz:its.toArray.size=ns.length:=by rw [qI,hl]
   rw [hsz,xX] at g;refine vZ (SX.sorted_setI hd g ?_ fun h2 d2 tk2 D out ep k2 hs2 ho hout=>?_)
   ·rw [←xX];exact kO (SX.metK_len _ _) h64
   ·have kk:∀ b o,s1.heap.get? b=some o→h2.get? b=some o:=fun b o z=>k2 b o (kp b o (qG z) z)
    obtain ⟨so,_,_,_,hso,_⟩:=g.ex;have lt:s1.heap.objs.size≤D:=ql (qv (qG hso)) hs2;have hf:H1 D=none:=I1.hok.fresh lt;refine ⟨.ref D,_,Inv.draws (I1.laid (t':=tk2) (a:=D) (o:=.lst ((sortI (lA ns)).map V.int)) kk lt ⟨?_,out.toList,ep,mS hout,?_⟩),rfl,q _ hf⟩
    ·rw [qE,(sortI_perm _).length_eq,←xX]
     exact ql (SX.metK_len _ _) (qv (fE (by omega)))
    ·rw [ho]
 ·subst e1
  obtain ⟨u,rfl,rx⟩:=vals1 r1;cases rx;obtain ⟨its,rv,pl,hz⟩:=I1.list hq;have hi:=a0v rv;have hd:=I1.ok.hd hc;have hl:its.length=ns.length:=yE hi;refine SX.set_of (knd:=zc X.prog X.w) (val:=fun i=>ns.getD i "") hd pl.isList (fun i v e=>?_) (fun i v A' E' s' Q' e q'=>?_) ?_ fun h' tk g kp=>?_
  ·obtain ⟨t,rfl⟩:=a6R hi i v (by simpa using e)
   exact ⟨by simp [zc,Value.isStrOf],rfl⟩
  ·obtain ⟨t,rfl⟩:=a6R hi i v (by simpa using e)
   exact (zc X.prog X.w).pyHash (k:=ns.getD i "") (by simp [zc,Value.isStrOf]) q'
  ·have hsz:its.toArray.size=ns.length:=by rw [qI,hl]
   rw [hsz];exact kO h64 (by decide)
  ·have hsz:its.toArray.size=ns.length:=by rw [qI,hl]
   rw [hsz,sZ] at g;refine vZ (a4p hd g ?_ fun h2 d2 tk2 D out ep k2 hs2 ho hout=>?_)
   ·rw [←sZ];exact kO (SX.metK_len _ _) h64
   ·have kk:∀ b o,s1.heap.get? b=some o→h2.get? b=some o:=fun b o z=>k2 b o (kp b o (qG z) z)
    obtain ⟨so,_,_,_,hso,_⟩:=g.ex;have lt:s1.heap.objs.size≤D:=ql (qv (qG hso)) hs2;have hf:H1 D=none:=I1.hok.fresh lt;refine ⟨.ref D,_,Inv.draws (I1.laid (t':=tk2) (a:=D) (o:=.lst ((iD (a3M ns)).map V.str)) kk lt ⟨?_,out.toList,ep,uR hout,?_⟩),rfl,q _ hf⟩
    ·rw [qE,(gC _).length_eq,←sZ]
     exact ql (SX.metK_len _ _) (qv (fE (by omega)))
    ·rw [ho]
theorem b4F (hc:X.calm=true) (m1:X.mg "sorted" = none) (m2:X.mg "set" = none) (ha:DE X e fa) (h1:Gl X "sorted":=by rfl) (h2:Gl X "set":=by rfl) (he:j4 [e] X.env=(false,eval e X.env)::j4 [] X.env:=by rfl)
  (he2:j4 [.Call (.Name "set" p2) [e] [] pos2] X.env=(false,eval (.Call (.Name "set" p2) [e] [] pos2) X.env)::j4 [] X.env:=by rfl):DE X (.Call (.Name "sorted" p) [.Call (.Name "set" p2) [e] [] pos2] [] pos) (op1 a1S fa):=
 ⟨fun pins s σ H Q I ⟨ρ,r,H0,G₀,G,ef,R,q⟩=>b3u hc h1 m1 h2 m2 boot_set (dC ha.run gG he) he he2 (fun _=>rfl) (fun _=>rfl) pins s σ H Q I (bE R ef q.x fun x v G1 H1 g1 R1 rv e1=>by
  obtain ⟨d,ed,rfl⟩:=aZ e1;unfold a1S at ed;split at ed
  ·split at ed
   ·rename_i xs ns e2
    split at ed
    ·rename_i h64
     cases (qA ed);have:=cO (g:=.int) (fun d a q=>gS q) e2;subst this;cases rv with
     | list hq r=>
      have e3:=r.ints;subst e3;refine .inl ⟨_,ns,rfl,g1.sub.seq hq,h64,fun l hl=>q _ _ _ (g1.trans (.put g1.sub hl)) (.list (.of aL) (fN _))⟩
    ·cases ed
   ·split at ed
    ·rename_i xs _ ns e2
     split at ed
     ·rename_i h64
      cases (qA ed);have:=cO (g:=.str) (fun d a q=>a2Y q) e2;subst this;cases rv with
      | list hq r=>
       have e3:=r.strs;subst e3;refine .inr ⟨_,ns,rfl,g1.sub.seq hq,h64,fun l hl=>q _ _ _ (g1.trans (.put g1.sub hl)) (.list (.of aL) (nZ _))⟩
     ·cases ed
    ·cases ed
  ·cases ed)⟩
end
theorem b1v {K:qC} {T:String} {x:j0} {t:Bool} (h:b4g T x=some t):zS K (.type (tyD x)) (.type T)=some t:=by
 unfold b4g at h;by_cases c:T = "int"
 ·rw [if_pos c] at h;subst c;cases x<;>first | (cases h;rfl) | cases h
 rw [if_neg c] at h;by_cases c:T = "bool"
 ·rw [if_pos c] at h;subst c;cases x<;>first | (cases h;rfl) | cases h
 rw [if_neg c] at h;by_cases c:T = "str"
 ·rw [if_pos c] at h;subst c;cases x<;>first | (cases h;rfl) | cases h
 rw [if_neg c] at h;by_cases c:T = "tuple"
 ·rw [if_pos c] at h;subst c;cases x<;>first | (cases h;rfl) | cases h
 rw [if_neg c] at h;cases h
section
variable {X:Cx} {H0 G₀ G G1 H H1:Hp} {ρ:List Ent} {σ:St} {a b c d e iter:Expr} {es:T0l} {pos p p2 pos2 px:Pos} {x:Str} {fa fb fc fd:EF}
theorem a2L {T:String} (hm:X.mg "isinstance" = none) (hx:X.mg x=none) (hv:wm x=some (.type T)) (ha:DE X a fa) (hn:x ≠ "__name__":=by decide) (hdb:(x==("__debug__" : Str))=false:=by decide)
  (he:j4 [a,.Name x p2] X.env=(false,eval a X.env)::j4 [.Name x p2] X.env:=by rfl) (he2:j4 [.Name x p2] X.env=(false,eval (.Name x p2) X.env)::j4 [] X.env:=by rfl)
  (hpl:(k9 pos (j4 [.Name x p2] X.env)).any (·.1)=false:=by rfl) (hg:Gl X "isinstance":=by rfl) (hgx:Gl X x:=by rfl):DE X (.Call (.Name "isinstance" p) [a,.Name x p2] [] pos) (op1 (isD T) fa):=by
 have hc:eJ X (.builtin "isinstance") (fun xs H Q=>∃ v d t,xs=[v,.ty T]∧Rep X.K H v d∧b4g T d=some t∧Q (.bl t) H):=by
  intro pins s σ H xs us Q I r ⟨v,d,t,e1,rv,ht,q⟩;subst e1;obtain ⟨u,w',rfl,r1,r2⟩:=vals2 r;cases r2;exact b1u I rv r1 (b1v ht) fun tk=>⟨.bl t,H,I.tok tk,rfl,q⟩
 exact ⟨fun pins s σ H Q I ⟨ρ,r,H0,G₀,G,e,R,q⟩=>tN hc hg hm boot_isinstance (dC ha.run (dC (a7d (v:=.ty T) hgx hx hv rfl hn hdb) gG he2) he) (by decide) (by decide) he hpl pins s σ H Q I (bE R e q.x fun x v G1 H1 g1 R1 rv e1=>by
  obtain ⟨d,ed,rfl⟩:=aZ e1;obtain ⟨t,et,rfl⟩:=qO.mp ed
  exact ⟨v,x,t,rfl,rv.mono g1.sub,et,q _ _ _ g1 (.bool t)⟩)⟩
end
def anyB (ds:T0j):Option j0:=match ds with
 | [.list xs]=>(eT rX xs).map fun ns=>.bool (ns.any id)
 | _=>none
theorem range_any (bs:List Bool):(qi bs.length).any (fun i=>bs.getD i false)=bs.any id:=by
 have:(qi bs.length).map (fun i=>bs.getD i false)=bs:=by
  refine jT fun i=>?_;rw [qW];by_cases h:i<bs.length
  ·rw [kI h,qK h];simp [h]
  ·rw [qb (by simp;omega),qb (by omega)];rfl
 conv=>rhs;rw [←this]
 rw [List.any_map];rfl
section
variable {X:Cx} {H0 G₀ G G1 H H1:Hp} {ρ:List Ent} {σ:St} {a b c d e iter:Expr} {es:T0l} {pos p p2 pos2 px:Pos} {x:Str} {fa fb fc fd:EF}
theorem a9o (hc:X.calm=true):eJ X (.builtin "any") (fun xs H Q=>∃ (p:Addr) (bs:List Bool),xs=[.ref p]∧SqL X.K H p (bs.map V.bl)∧Q (.bl (bs.any id)) H):=by
 intro pins s σ H xs us Q I r ⟨p,bs,e,hq,q⟩;subst e;obtain ⟨u,rfl,rx⟩:=vals1 r;cases rx;obtain ⟨its,rv,pl,hz⟩:=I.list hq;have ev:=a6P rv;subst ev;have hl:=pl.isList;have lt:p<s.heap.objs.size:=by obtain ⟨o,g,_⟩:=hl;exact qG g
 refine call_any_walk (ua hl ?_);refine ⟨s.heap.objs.size,_,_,_,_,_,fun i=>bs.getD i false,rfl,Walks.list (A:=X.A.in1) (I.ok.hd hc) _ p (qa lt) (bs.map je).toArray,⟨⟨_,qJ _ rfl,rfl,rfl⟩,hl.push _⟩,fun i v s' Q' E' hP hQ=>?_,fun h' tk kp=>?_⟩
 ·have hP:(bs.map je).toArray[i]?=some v:=hP
  rw [qp,qW] at hP;cases eb:bs[i]? with
  | none=>rw [eb] at hP;cases hP
  | some b=>
   rw [eb] at hP;cases hP;refine wl ?_;have:bs.getD i false=b:=by rw [vw,eb];rfl
   rw [←this];exact hQ
 ·have sz:(bs.map je).toArray.size=bs.length:=by simp
  rw [sz,range_any];refine ⟨.bl _,H,I.kept (fun b o g=>kp b o ?_ (qB _ g)),rfl,q⟩;intro hb;have z:b=s.heap.objs.size:=by simpa using hb
  exact absurd (qG g) (by rw [z];exact jN _)
theorem b7Y (hc:X.calm=true) (ds:T0j) (d:j0) (h:anyB ds=some d):CallD X (.builtin "any") ds d:=by
 unfold anyB at h;split at h
 ·obtain ⟨ns,e,rfl⟩:=qO.mp h
  have:=cO (g:=.bool) (fun d a q=>a1w q) e;subst this
  exact ⟨_,a9o hc,fun vs G H Q s r q=>by
   cases r with | cons r rr=>cases rr;cases r with | list hq r=>
    have e:=r.bools;subst e
    exact ⟨_,ns,rfl,s.seq hq,q _ G H (.refl s) (.bool _)⟩⟩
 ·cases h
def a7v (x:j0) (ds:T0j):Option Bool:=if qV x&&ds.all qV then some (ds.any fun d=>jI d x) else none
def inX (x y:j0):Option Bool:=match x with
 | .tuple _=>(match uZ y with | some ds=>a7v x ds | none=>none)
 | .list _=>(match uZ y with | some ds=>a7v x ds | none=>none)
 | _=>inD x y
def b8D (K:qC) (neg:Bool) (dx:j0) (ds:T0j):R2:=fun x y H Q=>∃ p xs,y=.ref p∧(SqL K H p xs∨SqT K H p xs)∧Rep K H x dx∧RepAll K H xs ds∧qV dx=true∧ds.all qV=true∧Q (.bl (if neg then !(ds.any fun d=>jI d dx) else ds.any fun d=>jI d dx)) H
open Classical in
theorem a1c {pins:T0b} {s:Shared} {A:Around} (I:Inv X pins σ H s) (hu:A.units+64<cLine) {v:Value} {dx:j0} {bs:T0m} (rx:Reads s.heap v dx bs) (hx:qV dx=true) :
  ∀ {xs:List V} {ds:T0j} {us:T0k},RepAll X.K H xs ds→aY xs us→ds.all qV=true →
   (∀ u∈us,SeqAt.EqAt A s u v (decide (∃ d as,Reads s.heap u d as∧qV d=true∧jI d dx=true)))∧us.any (fun u=>decide (∃ d as,Reads s.heap u d as∧qV d=true∧jI d dx=true))=ds.any fun d=>jI d dx
 | _,_,_,.nil,.nil,_=>⟨(fun u hm=>by cases hm),rfl⟩
 | _,_,_,.cons (d:=d) r rr,.cons t tt,hs=>by
  rw [zL,qM] at hs;obtain ⟨h1,h2⟩:=a1c I hu rx hx rr tt hs.2;obtain ⟨as,ra⟩:=r.reads I t;have key0:∀ u,Reads s.heap u d as→decide (∃ d as,Reads s.heap u d as∧qV d=true∧jI d dx=true)=jI d dx:=by
   intro u ra;cases e:jI d dx with
   | true=>exact decide_eq_true ⟨d,as,ra,hs.1,e⟩
   | false=>
    refine decide_eq_false fun ⟨d',as',r',s',e'⟩=>?_;rw [SeqAt.Reads.unique d d' _ _ _ (kY hs.1) ra r'] at e;rw [e] at e';cases e'
  have key:=key0 _ ra;refine ⟨fun u hu'=>?_,by rw [zm,zm,key,h2]⟩;rcases qF.mp hu' with z | z
  ·subst z
   rw [key];exact SeqAt.eqAt_reads d dx A s _ v as bs ra rx (kY hs.1) (kY hx) (SeqAt.room_of_shaped hs.1 hu)
  ·exact h1 u z
open Classical in
theorem b6H (hu:X.A.in1.units+64<cLine) (dx:j0) (ds:T0j):OpR X (wp .In) (b8D X.K false dx ds):=by
 intro pins s σ H x y v u Q I rx ry h;obtain ⟨p,xs,rfl,hq,r1,r2,h1,h2,q⟩:=h;cases ry;obtain ⟨bs,rb⟩:=r1.reads I rx;rcases hq with hq | hq
 ·obtain ⟨its,r,pl,hz⟩:=I.list hq
  obtain ⟨e1,e2⟩:=a1c (A:=X.A.in1) I hu rb h1 r2 r h2;refine SeqAt.in_listAt _ pl.isList (fun w hw=>e1 w (by simpa using hw)) ⟨.bl _,H,I,rfl,?_⟩;rw [←vM,e2];exact q
 ·obtain ⟨its,r,pl,hz⟩:=I.tuple hq
  obtain ⟨e1,e2⟩:=a1c (A:=X.A.in1) I hu rb h1 r2 r h2;refine SeqAt.in_tupleAt _ pl (fun w hw=>e1 w (by simpa using hw)) ⟨.bl _,H,I,rfl,?_⟩;rw [←vM,e2];exact q
open Classical in
theorem b3A (hu:X.A.in1.units+64<cLine) (dx:j0) (ds:T0j):OpR X (wp .NotIn) (b8D X.K true dx ds):=by
 intro pins s σ H x y v u Q I rx ry h;obtain ⟨p,xs,rfl,hq,r1,r2,h1,h2,q⟩:=h;cases ry;obtain ⟨bs,rb⟩:=r1.reads I rx;rcases hq with hq | hq
 ·obtain ⟨its,r,pl,hz⟩:=I.list hq
  obtain ⟨e1,e2⟩:=a1c (A:=X.A.in1) I hu rb h1 r2 r h2;refine SeqAt.notIn_listAt _ pl.isList (fun w hw=>e1 w (by simpa using hw)) ⟨.bl _,H,I,rfl,?_⟩;rw [←vM,e2];exact q
 ·obtain ⟨its,r,pl,hz⟩:=I.tuple hq
  obtain ⟨e1,e2⟩:=a1c (A:=X.A.in1) I hu rb h1 r2 r h2;refine SeqAt.notIn_tupleAt _ pl (fun w hw=>e1 w (by simpa using hw)) ⟨.bl _,H,I,rfl,?_⟩;rw [←vM,e2];exact q
theorem a5c {hu:X.A.in1.units+64<cLine} {x y:j0} {ds:T0j} {t:Bool} (e:uZ y=some ds) (h:a7v x ds=some t):CmpD X .In x y t∧CmpD X .NotIn x y (!t):=by
 unfold a7v at h;split at h
 ·rename_i hz
  rw [qM] at hz;cases (qA h);refine ⟨⟨_,b6H hu x ds,fun v u G H Q s rv ru q=>?_⟩,⟨_,b3A hu x ds,fun v u G H Q s rv ru q=>?_⟩⟩
  ·obtain ⟨p,vs,rfl,hq,r⟩:=nM s e ru
   exact ⟨p,vs,rfl,hq,rv.mono s,r.mono s,hz.1,hz.2,q⟩
  ·obtain ⟨p,vs,rfl,hq,r⟩:=nM s e ru
   exact ⟨p,vs,rfl,hq,rv.mono s,r.mono s,hz.1,hz.2,q⟩
 ·cases h
theorem b7s (hu:X.A.in1.units+64<cLine) (x y:j0) (t:Bool) (h:inX x y=some t):CmpD X .In x y t:=by
 unfold inX at h;split at h
 ·split at h
  ·rename_i ds e;exact (a5c (hu:=hu) e h).1
  ·cases h
 ·split at h
  ·rename_i ds e;exact (a5c (hu:=hu) e h).1
  ·cases h
 ·exact b9a x y t h
end
theorem _root_.L2.Room.units1 {k:Nat} {A:Around} (r:Room k A):A.in1.units+64<cLine:=by
 have:=r.un;show A.units+1+64<cLine;omega
section
variable {X:Cx} {H0 G₀ G G1 H H1:Hp} {ρ:List Ent} {σ:St} {a b c d e iter:Expr} {es:T0l} {pos p p2 pos2 px:Pos} {x:Str} {fa fb fc fd:EF}
end
section
variable {X:Cx} {a b e:Expr} {elts:T0l} {k0:Nat} {p0 pos p:Pos} {fa fb:EF} {st:Stmt}
end
end L2.L3
namespace L2.ZT
open PySem PyProof.Rows
section
variable {prog:Program} {w:World} {A:Around} {E:T0a} {s:Shared}
theorem a0p {c t:Addr} {i:Nat} {xs:Array Value} {x:Value} {Q:T0a} (hc:s.heap.IsTupleIter c t i) (ht:s.heap.IsTuple t xs) (hx:xs[i]?=some x)
  (q:∀ k,k.IsTupleIter c t (i+1)→kP c s.heap k→Q x { s with heap:=k }):wpAny (model prog w) A (jO (.ref c)) Q E s:=by
 obtain ⟨oc,gc,ec,dc⟩:=id hc;obtain ⟨ot,gt,_,nt,dt⟩:=ht;unfold jO;refine q8 (wc (name:=jF "__next__") hc.typeIs zG (v8 zG hc.typeIs F.entry_tuple_iterator_next ?_ (F.args_tuple_iterator_next_1 _)));show wpAny _ _ (field (.ref c) 0>>=_) _ _ s;refine q8 (wf gc dc (x:=.ref t) rfl ?_);show wpAny _ _ (if (jb t==jH)=true then _ else _) _ _ s;rw [if_neg (fun z=>by cases z)];show wpAny _ _ (field (.ref c) 1>>=_) _ _ s;refine q8 (wf gc dc (x:=.int i 0) rfl ?_);show wpAny _ _ (y6 (.ref t)>>=_) _ _ s;refine q8 (wg gt dt ?_);simp only [jJ,hx];refine q8 (wpAny_setField gc dc (by simp) (j3 ⟨x,rfl,j3 (q _ ?_ (jz ..))⟩));refine ⟨_,jG _ gc (vq (kn dc _)),(Obj.cls_mapFields ..).trans ec,?_⟩;rw [kn dc];simp [v7]
theorem a4l {c t:Addr} {i:Nat} {xs:Array Value} {Q:T0a} (hh:A.handled=none) (hc:s.heap.IsTupleIter c t i) (ht:s.heap.IsTuple t xs) (hx:xs[i]?=none)
  (q:∀ k e,Heap.ExtBut c s.heap k→(∃ o,k.get? e=some o∧o.cls=.type "StopIteration")→E (.ref e) { s with heap:=k }):wpAny (model prog w) A (jO (.ref c)) Q E s:=by
 obtain ⟨oc,gc,ec,dc⟩:=id hc;obtain ⟨ot,gt,_,nt,dt⟩:=ht;unfold jO;refine q8 (wc (name:=jF "__next__") hc.typeIs zG (v8 zG hc.typeIs F.entry_tuple_iterator_next ?_ (F.args_tuple_iterator_next_1 _)));show wpAny _ _ (field (.ref c) 0>>=_) _ _ s;refine q8 (wf gc dc (x:=.ref t) rfl ?_);show wpAny _ _ (if (jb t==jH)=true then _ else _) _ _ s;rw [if_neg (fun z=>by cases z)];show wpAny _ _ (field (.ref c) 1>>=_) _ _ s;refine q8 (wf gc dc (x:=.int i 0) rfl ?_);show wpAny _ _ (y6 (.ref t)>>=_) _ _ s;refine q8 (wg gt dt ?_);simp only [jJ,hx];refine q8 (ww (q8 (wpAny_setField gc dc (by simp) ?_)));unfold Builtin.SmallTypes.stopIteration;refine q8 ?_;simp only [newExc,newTuple];refine q8 (j7 ?_ (by size_fits));refine q8 (m:=yq _ _) (y7 (a:=jH) (by simp only [yq];rfl) ?_);refine j7 ?_ (by size_fits);simp only [raiseNew];refine q8 (wpAny_handled ?_);rw [show A.in1.handled=none from hh];refine q8 (j3 (wpAny_throw (q _ _ ?_ ⟨_,qJ _ rfl,rfl⟩)));exact ((jz ..).extBut.push _).push _
variable {z TI TO c d t u:Addr} {i j:Nat} {xs ys:Array Value} {a b:Value}
theorem b4e {x y:Value} {Q:T0a} (D:QJ z TI TO c d t u) (hz:IsZip s.heap z TI TO .none) (hI:ya s.heap TI (.ref c) (.ref d)) (hO:ya s.heap TO a b)
  (hc:s.heap.IsTupleIter c t i) (hd:s.heap.IsTupleIter d u j) (ht:s.heap.IsTuple t xs) (hu:s.heap.IsTuple u ys) (hx:xs[i]?=some x) (hy:ys[j]?=some y)
  (q:∀ k,IsZip k z TI TO (v7 s.heap.objs.size)→ya k TO x y→k.IsTupleIter c t (i+1)→k.IsTupleIter d u (j+1)→ya k s.heap.objs.size x y→k.objs.size=s.heap.objs.size+1 →
   (∀ e o,e≠z→e≠TO→e≠c→e≠d→s.heap.get? e=some o→k.get? e=some o)→Q (.ref s.heap.objs.size) { s with heap:=k }) :
  wpAny (model prog w) A (Builtin.«zip.__next__» ⟨[.ref z],[]⟩) (fun fin s'=>∃ v,fin=.done (.ret v)∧Q v s') E s:=by
 show wpAny _ _ (field (.ref z) 2>>=_) _ _ s;refine q8 (wf hz rfl (x:=je false) rfl ?_);show wpAny _ _ (field (.ref z) 3>>=_) _ _ s;refine q8 (wf hz rfl (x:=jb TI) rfl ?_);refine q8 (wg hI rfl ?_);show wpAny _ _ (kA (.ref z)>>=_) _ _ s;refine q8 ?_;unfold kA;refine q8 (wf hz rfl (x:=jH) rfl (j3 ?_));simp only [if_true];refine q8 (ww (q8 (wf hz rfl (x:=jb TO) rfl (q8 (v9 hz (by simp) fun ka za sa=>?_)))))
 replace za:IsZip ka z TI TO .ellipsis:=za
 refine q8 ?_;simp only [List.zipIdx_cons,List.zipIdx_nil,vT,List.forIn_nil];refine q8 (q8 (u7 ?_));show wpAny _ _ (jO (.ref c)>>=_) _ _ _;refine q8 (a0p (hc.extBut sa.extBut D.i1z) (ht.extBut sa.extBut D.l1z) hx fun kb cb sb=>j3 ?_);have ob:ya kb TO a b:=sb.extBut _ _ D.TOi1 (sa.extBut _ _ D.TOz hO);refine q8 (wg ob rfl (q8 (uq ob fun kc oc sc=>?_)))
 replace oc:ya kc TO x b:=oc
 refine q8 (yt (j3 (q8 (q8 (u7 ?_)))));show wpAny _ _ (jO (.ref d)>>=_) _ _ _;have dc:kc.IsTupleIter d u j:=((hd.extBut sa.extBut D.i2z).extBut sb.extBut D.i12.symm).extBut sc.extBut D.TOi2.symm;have uc:kc.IsTuple u ys:=((hu.extBut sa.extBut D.l2z).extBut sb.extBut D.l2i1).extBut sc.extBut D.l2TO;refine q8 (a0p dc uc hy fun kd dd sd=>j3 ?_);have od:ya kd TO x b:=sd.extBut _ _ D.TOi2 oc;refine q8 (wg od rfl (q8 (uq od fun ke oe se=>?_)))
 replace oe:ya ke TO x y:=oe
 refine q8 (yt (j3 (j3 (q8 (wg oe rfl (q8 (wpAny_newTuple ?_)))))));have sz:ke.objs.size=s.heap.objs.size:=by rw [se.1,sd.1,sc.1,sb.1,sa.1]
 have ze:IsZip ke z TI TO .ellipsis:=se.extBut _ _ D.TOz.symm (sd.extBut _ _ D.i2z.symm (sc.extBut _ _ D.TOz.symm (sb.extBut _ _ D.i1z.symm za)));have kp:∀ e o,e≠z→e≠TO→e≠c→e≠d→s.heap.get? e=some o→ke.get? e=some o:=fun e o n1 n2 n3 n4 g=>
  se.extBut _ _ n2 (sd.extBut _ _ n4 (sc.extBut _ _ n2 (sb.extBut _ _ n3 (sa.extBut _ _ n1 g))))
 have ce:ke.IsTupleIter c t (i+1):=((cb.extBut sc.extBut D.TOi1.symm).extBut sd.extBut D.i12).extBut se.extBut D.TOi1.symm;have de:ke.IsTupleIter d u (j+1):=dd.extBut se.extBut D.TOi2.symm;have zl:z<ke.objs.size:=qG ze;show wpAny _ _ (wL (.ref z) (.ref ke.objs.size)>>=_) _ _ _;refine q8 ?_;unfold wL;have zf:IsZip (ke.push { cls:=.type "tuple", data:=.seq #[x,y] }) z TI TO .ellipsis:=qB _ ze;refine q8 (v9 zf (by simp) fun kg zg sg=>?_)
 replace zg:IsZip kg z TI TO (v7 ke.objs.size):=zg
 refine v9 zg (by simp) fun kh zh sh=>?_
 replace zh:IsZip kh z TI TO (v7 ke.objs.size):=zh
 have up:∀ e o,e≠z→ke.get? e=some o→kh.get? e=some o:=fun e o n g=>sh.extBut _ _ n (sg.extBut _ _ n (qB _ g));have th:ya kh ke.objs.size x y:=sh.extBut _ _ (jc zl) (sg.extBut _ _ (jc zl) (qJ _ rfl));have lh:kh.objs.size=ke.objs.size+1:=by rw [sh.1,sg.1,jB]
 rw [sz] at zh th lh;refine j3 ⟨_,rfl,?_⟩;show Q (.ref ke.objs.size) _;rw [sz];exact q kh zh (up _ _ D.TOz oe) (ce.at fun o g=>up _ o D.i1z g) (de.at fun o g=>up _ o D.i2z g) th lh fun e o n1 n2 n3 n4 g=>up e o n1 (kp e o n1 n2 n3 n4 g)
theorem b2S {Q:Fin→Shared→Prop} (hh:A.handled=none) (D:QJ z TI TO c d t u) (hz:IsZip s.heap z TI TO .none) (hI:ya s.heap TI (.ref c) (.ref d)) (hO:ya s.heap TO a b)
  (hc:s.heap.IsTupleIter c t i) (hd:s.heap.IsTupleIter d u j) (ht:s.heap.IsTuple t xs) (hu:s.heap.IsTuple u ys) (hend:xs[i]?=none∨ys[j]?=none)
  (q:∀ k e,(∀ f o,f≠z→f≠TO→f≠c→f≠d→s.heap.get? f=some o→k.get? f=some o)→(∃ o,k.get? e=some o∧o.cls=.type "StopIteration")→E (.ref e) { s with heap:=k }) :
  wpAny (model prog w) A (Builtin.«zip.__next__» ⟨[.ref z],[]⟩) Q E s:=by
 show wpAny _ _ (field (.ref z) 2>>=_) _ _ s;refine q8 (wf hz rfl (x:=je false) rfl ?_);show wpAny _ _ (field (.ref z) 3>>=_) _ _ s;refine q8 (wf hz rfl (x:=jb TI) rfl ?_);refine q8 (wg hI rfl ?_);show wpAny _ _ (kA (.ref z)>>=_) _ _ s;refine q8 ?_;unfold kA;refine q8 (wf hz rfl (x:=jH) rfl (j3 ?_));simp only [if_true];refine q8 (ww (q8 (wf hz rfl (x:=jb TO) rfl (q8 (v9 hz (by simp) fun ka za sa=>?_)))))
 replace za:IsZip ka z TI TO .ellipsis:=za
 refine q8 ?_;simp only [List.zipIdx_cons,List.zipIdx_nil,vT,List.forIn_nil];refine q8 (q8 (u7 ?_));show wpAny _ _ (jO (.ref c)>>=_) _ _ _;cases hx:xs[i]? with
 | none=>
  refine q8 (a4l hh (hc.extBut sa.extBut D.i1z) (ht.extBut sa.extBut D.l1z) hx fun kb e sb he=>?_);obtain ⟨oe,ge,ee⟩:=he;have zb:IsZip kb z TI TO .ellipsis:=sb _ _ D.i1z.symm za;have ne:e≠z:=fun x=>by rw [x,zb] at ge;cases ge;simp at ee
  exact v9 zb (by simp) fun kc _ sc=>q kc e (fun f o n1 _ n3 _ g=>sc.extBut _ _ n1 (sb _ _ n3 (sa.extBut _ _ n1 g))) ⟨oe,sc.extBut _ _ ne ge,ee⟩
 | some x=>
  have hy:ys[j]?=none:=by
   rcases hend with h | h
   ·rw [hx] at h;cases h
   ·exact h
  refine q8 (a0p (hc.extBut sa.extBut D.i1z) (ht.extBut sa.extBut D.l1z) hx fun kb cb sb=>j3 ?_);have ob:ya kb TO a b:=sb.extBut _ _ D.TOi1 (sa.extBut _ _ D.TOz hO);refine q8 (wg ob rfl (q8 (uq ob fun kc oc sc=>?_)));refine q8 (yt (j3 (q8 (q8 (u7 ?_)))));show wpAny _ _ (jO (.ref d)>>=_) _ _ _;have dc:kc.IsTupleIter d u j:=((hd.extBut sa.extBut D.i2z).extBut sb.extBut D.i12.symm).extBut sc.extBut D.TOi2.symm;have uc:kc.IsTuple u ys:=((hu.extBut sa.extBut D.l2z).extBut sb.extBut D.l2i1).extBut sc.extBut D.l2TO;refine q8 (a4l hh dc uc hy fun kd e sd he=>?_);obtain ⟨oe,ge,ee⟩:=he;have zd:IsZip kd z TI TO .ellipsis:=sd _ _ D.i2z.symm (sc.extBut _ _ D.TOz.symm (sb.extBut _ _ D.i1z.symm za));have ne:e≠z:=fun x=>by rw [x,zd] at ge;cases ge;simp at ee
  exact v9 zd (by simp) fun ke _ se=>q ke e (fun f o n1 n2 n3 n4 g=>se.extBut _ _ n1 (sd _ _ n4 (sc.extBut _ _ n2 (sb.extBut _ _ n3 (sa.extBut _ _ n1 g))))) ⟨oe,se.extBut _ _ ne ge,ee⟩
theorem next_tt {x y:Value} {Q:Option Value→Shared→Prop} (D:QJ z TI TO c d t u) (hz:IsZip s.heap z TI TO .none) (hI:ya s.heap TI (.ref c) (.ref d)) (hO:ya s.heap TO a b)
  (hc:s.heap.IsTupleIter c t i) (hd:s.heap.IsTupleIter d u j) (ht:s.heap.IsTuple t xs) (hu:s.heap.IsTuple u ys) (hx:xs[i]?=some x) (hy:ys[j]?=some y)
  (q:∀ k,IsZip k z TI TO (v7 s.heap.objs.size)→ya k TO x y→k.IsTupleIter c t (i+1)→k.IsTupleIter d u (j+1)→ya k s.heap.objs.size x y→k.objs.size=s.heap.objs.size+1 →
   (∀ e o,e≠z→e≠TO→e≠c→e≠d→s.heap.get? e=some o→k.get? e=some o)→Q (some (.ref s.heap.objs.size)) { s with heap:=k }):wpAny (model prog w) A (yi (.ref z)) Q E s:=by
 have ty:s.TypeIs (.ref z) "zip" := ⟨_,hz,rfl⟩;unfold yi;exact q8 (w9 (wc (name:=jF "__next__") ty vz (v8 vz ty F.entry_zip_next (b4e D hz hI hO hc hd ht hu hx hy fun k a1 a2 a3 a4 a5 a6 a7=>j3 (q k a1 a2 a3 a4 a5 a6 a7)) (F.args_zip_next_1 _))))
theorem last_tt {Q:Option Value→Shared→Prop} (hh:A.handled=none) (D:QJ z TI TO c d t u) (hz:IsZip s.heap z TI TO .none) (hI:ya s.heap TI (.ref c) (.ref d)) (hO:ya s.heap TO a b)
  (hc:s.heap.IsTupleIter c t i) (hd:s.heap.IsTupleIter d u j) (ht:s.heap.IsTuple t xs) (hu:s.heap.IsTuple u ys) (hend:xs[i]?=none∨ys[j]?=none)
  (q:∀ k,(∀ f o,f≠z→f≠TO→f≠c→f≠d→s.heap.get? f=some o→k.get? f=some o)→Q none { s with heap:=k }):wpAny (model prog w) A (yi (.ref z)) Q E s:=by
 have ty:s.TypeIs (.ref z) "zip" := ⟨_,hz,rfl⟩;unfold yi;refine q8 (w9 (wc (name:=jF "__next__") ty vz (v8 vz ty F.entry_zip_next (b2S hh D hz hI hO hc hd ht hu hend fun k e hk he=>?_) (F.args_zip_next_1 _))));obtain ⟨oe,ge,ee⟩:=he;exact q8 (ui (T := "StopIteration") (b:=true) ⟨oe,ge,ee⟩ isSubtype_stop (j3 (q _ hk)))
end
abbrev itT (l:Addr):Obj:={ cls:=.type "tuple_iterator", data:=.fields #[.ref l,.int 0 0] }
abbrev zA (h:Heap) (l:Addr):Heap:=h.push (itT l)
abbrev zB (h:Heap) (l m:Addr):Heap:=(zA h l).push (itT m)
abbrev zC (h:Heap) (l m:Addr):Heap:=(zB h l m).push { cls:=.type "tuple", data:=.seq #[.ref h.objs.size,.ref (zA h l).objs.size] }
abbrev zD (h:Heap) (l m:Addr):Heap:=(zC h l m).push { cls:=.type "tuple", data:=.seq #[.none,.none] }
abbrev zE (h:Heap) (l m:Addr):Heap:=(zD h l m).push { cls:=.type "zip", data:=.fields #[.none,.bool false,.bool false,.ref (zB h l m).objs.size,.ref (zC h l m).objs.size] }
theorem b6O (l m:Addr) (xs ys:Array Value):Meets (Builtin.«zip.__new__» ⟨[.type "zip", .ref l,.ref m],[]⟩) (fun _ R s=>s.heap.IsTuple l xs∧s.heap.IsTuple m ys∧R (.ok (.ret (.ref (zD s.heap l m).objs.size))) { s with heap:=zE s.heap l m }):=
 .of_wp fun prog w A R s h=>by
  obtain ⟨hp,g,d,tk,os⟩:=s;obtain ⟨ha,hb,h⟩:=h;have sub:=sub_zip;have tA:Heap.IsTuple (Shared.heap ⟨hp,g,d,tk,os⟩) l xs:=ha;have tB:Heap.IsTuple (Shared.heap ⟨hp.push (itT l),g,d,tk,os⟩) m ys:=Heap.IsTuple.push hb _
  wp_walk using uz tA,uz tB
  exact ⟨_,rfl,h⟩
section
variable {prog:Program} {w:World} {A:Around} {E:T0a} {s:Shared}
theorem call_tt {l m:Addr} {xs ys:Array Value} {Q:T0a} (ha:s.heap.IsTuple l xs) (hb:s.heap.IsTuple m ys)
  (q:∀ k,IsZip k (s.heap.objs.size+4) (s.heap.objs.size+2) (s.heap.objs.size+3) .none→ya k (s.heap.objs.size+2) (.ref s.heap.objs.size) (.ref (s.heap.objs.size+1))→ya k (s.heap.objs.size+3) .none .none →
   k.IsTupleIter s.heap.objs.size l 0→k.IsTupleIter (s.heap.objs.size+1) m 0→(∀ c o,s.heap.get? c=some o→k.get? c=some o)→Q (.ref (s.heap.objs.size+4)) { s with heap:=k }) :
  wpAny (model prog w) A (call (.type "zip") [.ref l,.ref m]) Q E s:=by
 refine callType_new F.called_zip (by decide) (F.typeCall_zip_2 _ _) (F.newCall_zip_2 _ _) (fun obj=>F.args_object_init_3 obj _ _) F.entry_zip_new (b6O l m xs ys) ⟨ha,hb,?_⟩;have n1:(zA s.heap l).objs.size=s.heap.objs.size+1:=jB ..;have n2:(zB s.heap l m).objs.size=s.heap.objs.size+2:=by rw [jB,n1]
 have n3:(zC s.heap l m).objs.size=s.heap.objs.size+3:=by rw [jB,n2]
 have n4:(zD s.heap l m).objs.size=s.heap.objs.size+4:=by rw [jB,n3]
 have v5:(zE s.heap l m).get? (zD s.heap l m).objs.size=some _:=qJ _ rfl;have v4:(zE s.heap l m).get? (zC s.heap l m).objs.size=some _:=qB _ (qJ _ rfl);have v3:(zE s.heap l m).get? (zB s.heap l m).objs.size=some _:=qB _ (qB _ (qJ _ rfl));have v2:(zE s.heap l m).get? (zA s.heap l).objs.size=some _:=qB _ (qB _ (qB _ (qJ _ rfl)));have v1:(zE s.heap l m).get? s.heap.objs.size=some _:=qB _ (qB _ (qB _ (qB _ (qJ _ rfl))));show _∧_;rw [n2,n3,n4] at v5;rw [n1,n2] at v3;rw [n3] at v4;rw [n1] at v2;rw [n4];exact ⟨⟨_,v5,rfl⟩,q _ v5 v3 v4 ⟨_,v1,rfl,rfl⟩ ⟨_,v2,rfl,rfl⟩ fun c o g=>qB _ (qB _ (qB _ (qB _ (qB _ g))))⟩
end
end L2.ZT
namespace L2.L3
open PySem PySem.Spec PyProof.Rows
def Itt (K:qC) (l1 l2:Addr):It:=
 ⟨fun i H=>∃ xs ys x y,SqT K H l1 xs∧SqT K H l2 ys∧xs[i]?=some x∧ys[i]?=some y,
 fun i H v H'=>∃ T x y,H T=none∧v=.ref T∧H'=upd H T (.tup [x,y])∧(∀ xs,SqT K H l1 xs→xs[i]?=some x)∧∀ ys,SqT K H l2 ys→ys[i]?=some y,
 fun i H=>∃ xs ys,SqT K H l1 xs∧SqT K H l2 ys∧(xs.length≤i∨ys.length≤i)⟩
def b9t (z TI TO i1 i2 l1 l2:Addr) (i:Nat) (h:Heap):Prop:=IsZip h z TI TO .none∧ya h TI (.ref i1) (.ref i2)∧(∃ a b,ya h TO a b)∧h.IsTupleIter i1 l1 i∧h.IsTupleIter i2 l2 i
def b5L (fa fb:EF):AF:=fun ρ=>match fa ρ,fb ρ with
 | some (.ok (.tuple a)),some (.ok (.tuple b))=>some (.ok (a4h a b))
 | _,_=>none
theorem b2N {P:Program} {w:World} {K:qC} {elts:T0l} {k0:Nat} {p0:Pos} {z TI TO i1 i2 l1 l2:Addr} (D:QJ z TI TO i1 i2 l1 l2):Turn P w K (.Tuple elts k0 p0) (Itt K l1 l2) [z,TI,TO,i1,i2] z (b9t z TI TO i1 i2 l1 l2) where
 mem:=by simp
 obj:=fun i h ⟨hz,hTI,⟨a,b,hTO⟩,⟨o1,g1,_,d1⟩,⟨o2,g2,_,d2⟩⟩ c hc=>by
  simp only [qF,jC,or_false] at hc;rcases hc with rfl | rfl | rfl | rfl | rfl
  ·exact ⟨_,hz,fun v q=>by cases q⟩
  ·exact ⟨_,hTI,fun v q=>by cases q⟩
  ·exact ⟨_,hTO,fun v q=>by cases q⟩
  ·exact ⟨o1,g1,fun v q=>by rw [d1] at q;cases q⟩
  ·exact ⟨o2,g2,fun v q=>by rw [d2] at q;cases q⟩
 keep:=fun i h h' ⟨hz,hTI,⟨a,b,hTO⟩,h1,h2⟩ kp=>⟨kp z (by simp) _ hz,kp TI (by simp) _ hTI,⟨a,b,kp TO (by simp) _ hTO⟩,h1.at fun o e=>kp i1 (by simp) o e,h2.at fun o e=>kp i2 (by simp) o e⟩
 item:=by
  intro X hP hw hK hc i pins s σ H E I hf ⟨hz,hTI,⟨a,b,hTO⟩,h1,h2⟩ ⟨xs,ys,x,y,q1,q2,ex,ey⟩;subst hP hw hK;obtain ⟨its,r1,p1,_⟩:=I.tuple q1;obtain ⟨its2,r2,p2,_⟩:=I.tuple q2;obtain ⟨u,eu,ru⟩:=r1.get ex;obtain ⟨v,ev,rv⟩:=r2.get ey;refine ZT.next_tt D hz hTI hTO h1 h2 p1 p2 (x:=u) (y:=v) (by rw [qp];exact eu) (by rw [qp];exact ev) fun h' a1 a2 a3 a4 a5 a6 hk=>⟨_,rfl,?_⟩;refine wpAny_letOwnedTupleGo_zip a1 fun h2' hz' hs'=>?_;have hk2:∀ c o,c∉[z,TO,i1,i2]→s.heap.get? c=some o→h2'.get? c=some o:=fun c o hc e=>by
   simp only [qF,jC,or_false,not_or] at hc;exact hs'.extBut c o hc.1 (hk c o hc.1 hc.2.1 hc.2.2.1 hc.2.2.2 e)
  have nT:s.heap.objs.size≠z:=jc (qG hz);have new:cW X.prog X.w (upd H s.heap.objs.size (.tup [x,y])) h2' s.heap.objs.size (.tup [x,y]):=
   ⟨by show 2≤j5;decide,[u,v],.cons ru (.cons rv .nil),⟨_,hs'.extBut _ _ nT a5,rfl,_,rfl⟩⟩
  have hfT:H s.heap.objs.size=none:=I.hok.fresh (qR _)
  refine ⟨.ref s.heap.objs.size,upd H s.heap.objs.size (.tup [x,y]),Inv.turnNew (s:=s) (h':=h2') (t':=s.toks) [z,TO,i1,i2] I (fun c hc=>hf c (by simp only [qF,jC,or_false] at hc ⊢;rcases hc with h | h | h | h<;>simp [h])) hk2 (qR _) new,rfl,
   ⟨_,x,y,hfT,rfl,rfl,fun xs' q=>by rw [I.tuple_inj q q1];exact ex,fun ys' q=>by rw [I.tuple_inj q q2];exact ey⟩,⟨hz',hs'.extBut _ _ D.TIz (hk _ _ D.TIz D.TITO D.TIi1 D.TIi2 hTI),⟨_,_,hs'.extBut _ _ D.TOz a2⟩,a3.extBut hs'.extBut D.i1z,a4.extBut hs'.extBut D.i2z⟩,fun c hc=>?_⟩
  obtain ⟨o,e,_⟩:∃ o,s.heap.get? c=some o∧True:=by
   simp only [qF,jC,or_false] at hc;rcases hc with rfl | rfl | rfl | rfl | rfl
   ·exact ⟨_,hz,trivial⟩
   ·exact ⟨_,hTI,trivial⟩
   ·exact ⟨_,hTO,trivial⟩
   ·obtain ⟨o,g,_⟩:=h1;exact ⟨o,g,trivial⟩
   ·obtain ⟨o,g,_⟩:=h2;exact ⟨o,g,trivial⟩
  rw [aF (qa (qG e))];exact (hf c hc).1
 done:=by
  intro X hP hw hK hc i pins s σ H E I hf ⟨hz,hTI,⟨a,b,hTO⟩,h1,h2⟩ ⟨xs,ys,q1,q2,hend⟩;subst hP hw hK;obtain ⟨its,r1,p1,_⟩:=I.tuple q1;obtain ⟨its2,r2,p2,_⟩:=I.tuple q2;have l1':=r1.length;have l2':=r2.length;refine ZT.last_tt (I.ok.hd hc) D hz hTI hTO h1 h2 p1 p2 ?_ fun h' hk=>⟨rfl,Inv.turnAll (t':=s.toks) [z,TO,i1,i2] I (fun c hc=>hf c (by simp only [qF,jC,or_false] at hc ⊢;rcases hc with h | h | h | h<;>simp [h])) fun c o hc e=>?_⟩
  ·rcases hend with he | he
   ·exact .inl (by rw [qp];exact qb (by omega))
   ·exact .inr (by rw [qp];exact qb (by omega))
  ·simp only [qF,jC,or_false,not_or] at hc
   exact hk c o hc.1 hc.2.1 hc.2.2.1 hc.2.2.2 e
 self:=fun A i s Q E st h=>uj st.1 h
theorem b2M {K:qC} {G:Hp} {l1 l2:Addr} {xs ys:List V} {ds es:T0j} (h1:SqT K G l1 xs) (r1:RepAll K G xs ds) (h2:SqT K G l2 ys) (r2:RepAll K G ys es):Walk K (Itt K l1 l2) G (a4h ds es):=by
 intro i G' H' s1 s2;have a1:=mU (s1.trans s2) h1;have a2:=mU (s1.trans s2) h2;unfold a4h;refine ⟨fun d e=>?_,fun hl=>⟨xs,ys,a1,a2,?_⟩⟩
 ·rw [qW] at e
  obtain ⟨⟨p,q⟩,e1,rfl⟩:=qO.mp e;rw [List.getElem?_zip_eq_some] at e1;obtain ⟨v,ev,rv⟩:=r1.get e1.1;obtain ⟨u,eu,ru⟩:=r2.get e1.2;refine ⟨⟨xs,ys,v,u,a1,a2,ev,eu⟩,fun x H2 ⟨T,x',y',hT,ex,eH,b1,b2⟩=>?_⟩;subst ex eH;have b3:=b1 xs a1;have b4:=b2 ys a2;rw [ev] at b3;rw [eu] at b4;cases b3;cases b4;have hG:G' T=none:=s2.free hT;exact ⟨upd G' T (.tup [v,u]),.put s2 hT,.tuple (.of aL) (.cons ((rv.mono s1).mono (bD hG)) (.cons ((ru.mono s1).mono (bD hG)) .nil))⟩
 ·rw [qE,List.length_zip] at hl
  have e1:=r1.length;have e2:=r2.length;omega
section
variable {X:Cx} {a b:Expr} {elts:T0l} {k0:Nat} {p0 pos p:Pos} {fa fb:EF}
theorem b7L (hm:X.mg "zip" = none) (ha:DE X a fa) (hb:DE X b fb) (hv:wm "zip" = some (.type "zip"):=by decide +kernel) (hs:j4 [a,b] X.env=(false,eval a X.env)::j4 [b] X.env:=by rfl) (hs2:j4 [b] X.env=(false,eval b X.env)::j4 [] X.env:=by rfl)
  (hpl:(k9 pos (j4 [b] X.env)).any (·.1)=false:=by rfl) (hg:Gl X "zip":=by rfl):DI X (.Tuple elts k0 p0) (.Call (.Name "zip" p) [a,b] [] pos) (b5L fa fb):=b2g fun ρ r e=>by
 unfold b5L at e;split at e
 ·rename_i as bs e1 e3
  refine ⟨_,(qA e).symm,⟨?_⟩⟩;intro pins s σ H R I ⟨H0,G₀,G,S,q⟩;have pa:=eN (ha.pd e1) (eN (hb.pd e3) lR hs2) hs;refine v0 (mM I hg hm hv ?_ (by decide) (by decide));refine kR (thn (pa.run H0 G₀ G pos pins s σ H (fun vs H'=>∃ G',Grow G H G' H'∧RepAll X.K G' vs [.tuple as,.tuple bs]) I S fun vs G' H' g r=>⟨G',g,r⟩) fun us s1 ⟨vs,H1,I1,r1,G1,g1,w1⟩=>?_) hs hpl;cases w1 with
  | cons wa wn=>cases wn with
   | cons wb wn=>
    cases wn;cases wa with
    | tuple hq ra=>cases wb with
     | tuple hq2 rb=>
      obtain ⟨u,v,rfl,ru,rv⟩:=vals2 r1;cases ru;cases rv;obtain ⟨its,r1',p1,_⟩:=I1.tuple (mU g1.sub hq);obtain ⟨its2,r2',p2,_⟩:=I1.tuple (mU g1.sub hq2);refine ZT.call_tt p1 p2 fun h' z1 z2 z3 z4 z5 hk=>?_;refine uj z1 ?_;obtain ⟨o1,g1',_⟩:=p1;obtain ⟨o2,g2',_⟩:=p2;refine ⟨s1.heap.objs.size+4,[s1.heap.objs.size+4,s1.heap.objs.size+2,s1.heap.objs.size+3,s1.heap.objs.size,s1.heap.objs.size+1],_,_,H1,rfl,I1.kept (h':=h') (t':=s1.toks) (fun b o e=>hk b o e),b2N (zipApart_new (qG g1') (qG g2')),⟨z1,z2,⟨_,_,z3⟩,z4,z5⟩,fun c hc=>?_,q _ G1 H1 g1 (b2M hq ra hq2 rb)⟩;have ge:s1.heap.objs.size≤c:=by
       simp only [qF,jC,or_false] at hc;rcases hc with h | h | h | h | h<;>rw [h]<;>first | exact wP _ _ | exact qR _
      exact I1.fpOk ge (I1.hok.fresh ge)
 ·cases e
def a9C (fa fb:EF):AF:=fun ρ=>match a9D fa fb ρ with
 | some r=>some r
 | none=>b5L fa fb ρ
theorem b4D (hm:X.mg "zip" = none) (ha:DE X a fa) (hb:DE X b fb) (hs:j4 [a,b] X.env=(false,eval a X.env)::j4 [b] X.env:=by rfl) (hs2:j4 [b] X.env=(false,eval b X.env)::j4 [] X.env:=by rfl)
  (hpl:(k9 pos (j4 [b] X.env)).any (·.1)=false:=by rfl) (hg:Gl X "zip":=by rfl):DI X (.Tuple elts k0 p0) (.Call (.Name "zip" p) [a,b] [] pos) (a9C fa fb):=⟨fun pins s σ H R I ⟨ρ,r,H0,G₀,G,e,S,q⟩=>by
 unfold a9C at e;split at e
 ·rename_i r' e1
  cases (qA e);exact (b7M hm ha hb (by decide +kernel) hs hs2 hpl hg).run pins s σ H R I ⟨ρ,_,H0,G₀,G,e1,S,q⟩
 ·exact (b7L hm ha hb (by decide +kernel) hs hs2 hpl hg).run pins s σ H R I ⟨ρ,_,H0,G₀,G,e,S,q⟩⟩
end
end L2.L3
namespace L2.ST
open PySem PySem.W PyProof.Rows
section
variable {α β:Type} {lt:Nat→Nat→Bool} {n:Nat}
def run (lt:Nat→Nat→Bool):KasT α→α
 | .ret a=>a
 | .ask i j k=>run lt (k (lt i j))
def asks (n:Nat) (lt:Nat→Nat→Bool):KasT α→Prop
 | .ret _=>True
 | .ask i j k=>i<n∧j<n∧asks n lt (k (lt i j))
def Hq (n:Nat) (lt:Nat→Nat→Bool) (t:KasT α) (Q:α→Prop):Prop:=asks n lt t∧Q (run lt t)
theorem iX {a:α} {Q:α→Prop} (h:Q a):Hq n lt (.ret a) Q:=⟨trivial,h⟩
theorem xO {i j:Nat} {k:Bool→KasT α} {Q:α→Prop} (hi:i<n) (hj:j<n) (h:Hq n lt (k (lt i j)) Q):Hq n lt (.ask i j k) Q:=⟨⟨hi,hj,h.1⟩,h.2⟩
theorem rH {f:α→KasT β} {Q:β→Prop}:∀ {t:KasT α},Hq n lt t (fun a=>Hq n lt (f a) Q)→Hq n lt (t.bind f) Q
 | .ret _,h=>h.2
 | .ask i j k,h=>xO h.1.1 h.1.2.1 (rH (t:=k (lt i j)) ⟨h.1.2.2,h.2⟩)
theorem iK {t:KasT α} {Q Q':α→Prop} (h:Hq n lt t Q) (hq:∀ a,Q a→Q' a):Hq n lt t Q':=⟨h.1,hq _ h.2⟩
theorem wp_run {cmp:Nat→Nat→(Bool→Shared→Prop)→Shared→Prop} {s:Shared} (hc:∀ i j C,i<n→j<n→C (lt i j) s→cmp i j C s):∀ (t:KasT α) {Q:α→Shared→Prop},asks n lt t→Q (run lt t) s→t.kasWp cmp Q s
 | .ret _,_,_,h=>h
 | .ask i j k,Q,a,h=>hc i j _ a.1 a.2.1 (wp_run hc (k (lt i j)) a.2.2 h)
end
section
variable {r:Nat→Int} {n:Nat} {p:Array Nat}
def vl (r:Nat→Int) (p:Array Nat) (k:Nat):Int:=r (p.getD k 0)
def ltr (r:Nat→Int) (i j:Nat):Bool:=decide (r i<r j)
def Up (r:Nat→Int) (p:Array Nat) (k:Nat):Prop:=∀ i j,i≤j→j<k→vl r p i≤vl r p j
def tG (r:Nat→Int) (p:Array Nat) (k:Nat):Prop:=∀ i j,i≤j→j<k→vl r p j≤vl r p i
structure Pm (n:Nat) (p:Array Nat):Prop where
 size:p.size=n
 perm:p.Perm (qi n).toArray
theorem Pm.lt (h:Pm n p) (hn:0<n) (k:Nat):p.getD k 0<n:=by
 by_cases hk:k<p.size
 ·have e:p.getD k 0=p[k]:=by simp [vH,hk]
  rw [e];have:p[k]∈(qi n).toArray:=h.perm.mem_iff.mp (Array.getElem_mem hk);simpa using this
 ·have e:p.getD k 0=0:=by simp [vH,hk]
  rw [e];exact hn
theorem Pm.rev (h:Pm n p) (i j:Nat):Pm n (kas_rev p i j):=⟨by unfold kas_rev;rw [mirror_size];exact h.size,(mirror_perm _ _ _ _).trans h.perm⟩
theorem Pm.bub (h:Pm n p) (i j:Nat):Pm n (bubble p i j):=⟨by rw [bubble_size];exact h.size,(bubble_perm _ _ _).trans h.perm⟩
theorem tZ {p q:Array Nat} {i j:Nat} (h:p[i]?=q[j]?):p.getD i 0=q.getD j 0:=by
 rw [Array.getD_eq_getD_getElem?,Array.getD_eq_getD_getElem?,h]
theorem a5E {i j:Nat} (hj:j≤p.size) (k:Nat):vl r (kas_rev p i j) k=if i≤k∧k<j then vl r p (i+j - 1 - k) else vl r p k:=by
 have e:=getElem?_mirror_all (i:=i) hj k;unfold vl kas_rev;by_cases h:i≤k∧k<j
 ·rw [if_pos h] at e ⊢;rw [tZ e]
 ·rw [if_neg h] at e ⊢;rw [tZ e]
theorem a9N {src d:Nat} (hs:src<p.size) (hd:d≤src) (k:Nat):vl r (bubble p src d) k=if k=src - d then vl r p src else if src - d<k∧k≤src then vl r p (k - 1) else vl r p k:=by
 have e:=getElem?_bubble hs d hd k;unfold vl;by_cases h:k=src - d
 ·rw [if_pos h] at e ⊢;rw [tZ e]
 ·rw [if_neg h] at e ⊢
  by_cases h2:src - d<k∧k≤src
  ·rw [if_pos h2] at e ⊢;rw [tZ e]
  ·rw [if_neg h2] at e ⊢;rw [tZ e]
theorem Up.snoc {k:Nat} (h:Up r p k) (hk:0<k) (hl:vl r p (k - 1)≤vl r p k):Up r p (k+1):=fun i j hij hj=>by
 by_cases e:j=k
 ·subst e
  by_cases e2:i=j
  ·subst e2;exact jj _
  ·exact vU (h i (j - 1) (by omega) (by omega)) hl
 ·exact h i j hij (by omega)
theorem tG.snoc {k:Nat} (h:tG r p k) (hk:0<k) (hl:vl r p k≤vl r p (k - 1)):tG r p (k+1):=fun i j hij hj=>by
 by_cases e:j=k
 ·subst e
  by_cases e2:i=j
  ·subst e2;exact jj _
  ·exact vU hl (h i (j - 1) (by omega) (by omega))
 ·exact h i j hij (by omega)
theorem b1C (P:Pm n p) (hn:0<n):∀ (f m:Nat),0<m→Up r p m→Hq n (ltr r) (kas_asc p f m) (fun k=>m≤k∧k≤m+f∧Up r p k∧(k<m+f→vl r p k<vl r p (k - 1)))
 | 0,m,hm,h=>iX ⟨qR _,qR _,h,fun z=>absurd z (by omega)⟩
 | f+1,m,hm,h=>by
  refine xO (P.lt hn _) (P.lt hn _) ?_;by_cases c:r (p.getD m 0)<r (p.getD (m - 1) 0)
  ·rw [show ltr r (p.getD m 0) (p.getD (m - 1) 0)=true from decide_eq_true c,if_pos rfl]
   exact iX ⟨qR _,by omega,h,fun _=>c⟩
  ·rw [show ltr r (p.getD m 0) (p.getD (m - 1) 0)=false from decide_eq_false c,if_neg (by simp)]
   exact iK (b1C P hn f (m+1) (by omega) (h.snoc hm (Int.not_lt.mp c))) fun k ⟨a,b,c,d⟩=>⟨by omega,by omega,c,fun z=>d (by omega)⟩
theorem a2W {i j:Nat} (hj:j≤p.size) (he:∀ k,i≤k→k<j→vl r p k=vl r p (j - 1)) (k:Nat):vl r (kas_rev p i j) k=vl r p k:=by
 rw [a5E hj];by_cases h:i≤k∧k<j
 ·rw [if_pos h,he _ (by omega) (by omega),he k h.1 h.2]
 ·rw [if_neg h]
theorem tG.cong {p':Array Nat} {k:Nat} (e:∀ k,vl r p' k=vl r p k) (h:tG r p k):tG r p' k:=fun i j a b=>by rw [e,e];exact h i j a b
theorem a3F (hn:0<n):∀ (f:Nat) (p:Array Nat) (m q:Nat),Pm n p→q<m→m+f≤n→tG r p m→(∀ k,m - (q+1)≤k→k<m→vl r p k=vl r p (m - 1)) →
  Hq n (ltr r) (kas_desc f p m q) (fun x=>Pm n x.1∧m≤x.2.1∧x.2.1≤m+f∧x.2.2<x.2.1∧tG r x.1 x.2.1∧∀ k,x.2.1 - (x.2.2+1)≤k→k<x.2.1→vl r x.1 k=vl r x.1 (x.2.1 - 1))
 | 0,p,m,q,P,hq,hm,hd,he=>iX ⟨P,qR _,qR _,hq,hd,he⟩
 | f+1,p,m,q,P,hq,hm,hd,he=>by
  have one:∀ p':Array Nat,∀ k,m+1 - (0+1)≤k→k<m+1→vl r p' k=vl r p' (m+1 - 1):=fun p' k a b=>by rw [show k=m+1 - 1 by omega]
  refine xO (P.lt hn _) (P.lt hn _) ?_;by_cases c:r (p.getD m 0)<r (p.getD (m - 1) 0)
  ·rw [show ltr r (p.getD m 0) (p.getD (m - 1) 0)=true from decide_eq_true c,if_pos rfl]
   have hd':=hd.snoc (by omega) (zF c);by_cases q0:q > 0
   ·rw [if_pos q0]
    have e:=a2W (i:=m - (q+1)) (j:=m) (by rw [P.size];omega) he;exact iK (a3F hn f _ (m+1) 0 (P.rev _ _) (by omega) (by omega) (hd'.cong e) (one _)) fun x ⟨a,b,c,d,e,g⟩=>⟨a,by omega,by omega,d,e,g⟩
   ·rw [if_neg q0]
    exact iK (a3F hn f _ (m+1) 0 P (by omega) (by omega) hd' (one _)) fun x ⟨a,b,c,d,e,g⟩=>⟨a,by omega,by omega,d,e,g⟩
  ·rw [show ltr r (p.getD m 0) (p.getD (m - 1) 0)=false from decide_eq_false c,if_neg (by simp)]
   refine xO (P.lt hn _) (P.lt hn _) ?_;by_cases c2:r (p.getD (m - 1) 0)<r (p.getD m 0)
   ·rw [show ltr r (p.getD (m - 1) 0) (p.getD m 0)=true from decide_eq_true c2,if_pos rfl]
    exact iX ⟨P,qR _,wP _ _,hq,hd,he⟩
   ·rw [show ltr r (p.getD (m - 1) 0) (p.getD m 0)=false from decide_eq_false c2,if_neg (by simp)]
    have eq:vl r p m=vl r p (m - 1):=by unfold vl;omega
    refine iK (a3F hn f p (m+1) (q+1) P (by omega) (by omega) (hd.snoc (by omega) (by omega)) fun k a b=>?_) fun x ⟨a,b,c,d,e,g⟩=>⟨a,by omega,by omega,d,e,g⟩;rw [show m+1 - 1=m by omega,eq];by_cases e2:k=m
    ·rw [e2,eq]
    ·exact he k (by omega) (by omega)
theorem tG.rev {m:Nat} (P:Pm n p) (hm:m≤n) (h:tG r p m):Up r (kas_rev p 0 m) m:=fun i j hij hj=>by
 rw [a5E (by rw [P.size];omega),a5E (by rw [P.size];omega),if_pos (by omega),if_pos (by omega)];exact h _ _ (by omega) (by omega)
abbrev b8f (r:Nat→Int) (n:Nat) (x:Nat×Array Nat):Prop:=Pm n x.2∧0<x.1∧x.1≤n∧Up r x.2 x.1
theorem b1B (hn:0<n) {m:Nat} (P:Pm n p) (h0:0<m) (hm:m≤n) (hd:tG r p m):Hq n (ltr r) (kas_tail3 m n p) (b8f r n):=by
 unfold kas_tail3;refine rH (iK (b1C (P.rev 0 m) hn (n - m) m h0 (hd.rev P hm)) fun k ⟨a,b,c,d⟩=>iX ⟨P.rev 0 m,by show 0<k;omega,by show k≤n;omega,c⟩)
theorem a1d (hn:0<n) {m:Nat} (P:Pm n p) (hm:m+1≤n) (hd:tG r p (m+1)):Hq n (ltr r) (kas_descPart m n p) (b8f r n):=by
 unfold kas_descPart;refine rH (iK (a3F hn (n - (m+1)) p (m+1) 0 P (by omega) (by omega) hd (fun k a b=>by rw [show k=m+1 - 1 by omega])) fun x ⟨a,b,c,d,e,g⟩=>?_);by_cases h:x.2.2 > 0
 ·rw [if_pos h]
  exact b1B hn (a.rev _ _) (by omega) (by omega) (e.cong (a2W (by rw [a.size];omega) g))
 ·rw [if_neg h]
  exact b1B hn a (by omega) (by omega) e
theorem b4l (hn:0<n) (P:Pm n p):Hq n (ltr r) (kas_count n p) (b8f r n):=by
 unfold kas_count;refine rH (iK (b1C P hn (n - 1) 1 (by decide) (fun i j a b=>by rw [show i=j by omega];exact jj _)) fun m ⟨a,b,c,d⟩=>?_);by_cases h:(m==n)=true
 ·rw [if_pos h]
  exact iX ⟨P,by show 0<m;omega,by show m≤n;omega,c⟩
 ·rw [if_neg h]
  have hmn:m<n:=by have:m≠n:=fun z=>h (by rw [z];simp);omega
  have dr:=d (by omega);by_cases h1:m > 1
  ·rw [if_pos h1]
   refine xO (P.lt hn _) (P.lt hn _) ?_;by_cases c2:r (p.getD 0 0)<r (p.getD (m - 1) 0)
   ·rw [show ltr r (p.getD 0 0) (p.getD (m - 1) 0)=true from decide_eq_true c2,if_pos rfl]
    exact iX ⟨P,by show 0<m;omega,by show m≤n;omega,c⟩
   ·rw [show ltr r (p.getD 0 0) (p.getD (m - 1) 0)=false from decide_eq_false c2,if_neg (by simp)]
    have eqs:∀ k,k<m→vl r p k=vl r p (m - 1):=fun k hk=>by
     have a1:=c 0 k (jR _) hk;have a2:=c k (m - 1) (by omega) (by omega);have a3:vl r p (m - 1)≤vl r p 0:=Int.not_lt.mp c2;omega
    have e:=a2W (r:=r) (i:=0) (j:=m) (by rw [P.size];omega) (fun k _ hk=>eqs k hk);refine a1d hn (P.rev 0 m) (by omega) (tG.cong e ?_);refine tG.snoc (fun i j hij hj=>?_) (by omega) (zF dr);rw [eqs i (by omega),eqs j hj];exact jj _
  ·rw [if_neg h1]
   refine a1d hn P (by omega) (tG.snoc (fun i j hij hj=>?_) (by omega) (zF dr));rw [show i=j by omega];exact jj _
theorem a3E (hn:0<n) (P:Pm n p) {k:Nat} (hu:Up r p k):∀ (f l u:Nat),l≤u→u≤k→u - l≤f→(∀ i,i<l→vl r p i≤vl r p k)→(∀ i,u≤i→i<k→vl r p k<vl r p i) →
  Hq n (ltr r) (kas_place p k f l u) (fun x=>x≤k∧(∀ i,i<x→vl r p i≤vl r p k)∧∀ i,x≤i→i<k→vl r p k<vl r p i)
 | 0,l,u,h1,h2,h3,a,b=>iX ⟨by omega,a,fun i hi hk=>b i (by omega) hk⟩
 | f+1,l,u,h1,h2,h3,a,b=>by
  unfold kas_place;by_cases h:l≥u
  ·rw [if_pos h];exact iX ⟨by omega,a,fun i hi hk=>b i (by omega) hk⟩
  ·rw [if_neg h]
   refine xO (P.lt hn _) (P.lt hn _) ?_;by_cases c:r (p.getD k 0)<r (p.getD ((l+u) / 2) 0)
   ·rw [show ltr r (p.getD k 0) (p.getD ((l+u) / 2) 0)=true from decide_eq_true c,if_pos rfl]
    refine a3E hn P hu f l ((l+u) / 2) (by omega) (by omega) (by omega) a fun i hi hk=>?_;have c':vl r p k<vl r p ((l+u) / 2):=c;exact Int.lt_of_lt_of_le c' (hu _ _ hi hk)
   ·rw [show ltr r (p.getD k 0) (p.getD ((l+u) / 2) 0)=false from decide_eq_false c,if_neg (by simp)]
    refine a3E hn P hu f ((l+u) / 2+1) u (by omega) (by omega) (by omega) (fun i hi=>?_) b;have c':vl r p ((l+u) / 2)≤vl r p k:=Int.not_lt.mp c;exact vU (hu i ((l+u) / 2) (by omega) (by omega)) c'
theorem b5z (hn:0<n):∀ (f:Nat) (p:Array Nat) (k:Nat),Pm n p→0<k→k+f=n→Up r p k→Hq n (ltr r) (kas_bin f p k) (fun q=>Pm n q∧Up r q n)
 | 0,p,k,P,_,hk,hu=>iX ⟨P,by rw [show n=k by omega];exact hu⟩
 | f+1,p,k,P,h0,hk,hu=>by
  unfold kas_bin;refine rH (iK (a3E hn P hu k 0 k (jR _) (qR _) (by omega) (fun i hi=>absurd hi (by omega)) (fun i hi hk=>absurd hi (by omega))) fun l ⟨a,b,c⟩=>?_);refine b5z hn f _ (k+1) (P.bub _ _) (by omega) (by omega) fun i j hij hj=>?_;have hs:k<p.size:=by rw [P.size];omega
  have ei:=a9N (r:=r) hs (show k - l≤k by omega) i;have ej:=a9N (r:=r) hs (show k - l≤k by omega) j;rw [show k - (k - l)=l by omega] at ei ej;rw [ei,ej];by_cases i1:i=l
  ·rw [if_pos i1]
   by_cases j1:j=l
   ·rw [if_pos j1];exact jj _
   ·rw [if_neg j1,if_pos (by omega)];exact zF (c (j - 1) (by omega) (by omega))
  ·rw [if_neg i1]
   by_cases i2:l<i∧i≤k
   ·rw [if_pos i2,if_neg (by omega),if_pos (by omega)];exact hu _ _ (by omega) (by omega)
   ·rw [if_neg i2]
    by_cases j1:j=l
    ·rw [if_pos j1];exact b i (by omega)
    ·rw [if_neg j1]
     by_cases j2:l<j∧j≤k
     ·rw [if_pos j2];exact hu _ _ (by omega) (by omega)
     ·rw [if_neg j2];exact hu _ _ hij (by omega)
theorem h_sort (hn:2≤n):Hq n (ltr r) (kas_sort n) (fun q=>Pm n q∧Up r q n):=by
 unfold kas_sort;refine rH (iK (b4l (by omega) ⟨by simp,Array.Perm.refl _⟩) fun x ⟨a,b,c,d⟩=>?_);by_cases h:x.1<n
 ·rw [if_pos h,show max x.1 1=x.1 by omega]
  exact b5z (by omega) _ _ _ a b (by omega) d
 ·rw [if_neg h]
  exact iX ⟨a,by rw [show n=x.1 by omega];exact d⟩
end
end L2.ST
namespace L2.L3
open PySem PySem.Spec PyProof.Rows
def ltC:j0→j0→Bool
 | .int a,.int b=>decide (a<b)
 | .str a,.str b=>!cH b a
 | _,_=>false
def eqC:j0→j0→Bool
 | .int a,.int b=>a==b
 | .str a,.str b=>a==b
 | _,_=>false
def ltR:List j0→List j0→Bool
 | a::r,b::s=>if eqC a b then ltR r s else ltC a b
 | _,_=>false
def fO:List Bool→List j0→Bool
 | [],[]=>true
 | true::g,.int _::r=>fO g r
 | false::g,.str _::r=>fO g r
 | _,_=>false
theorem lN {a:T0j} (h:fO [] a=true):a=[]:=by
 cases a with
 | nil=>rfl
 | cons x r=>cases x<;>cases h
theorem sig_int {g:List Bool} {a:T0j} (h:fO (true::g) a=true):∃ i r,a=.int i::r∧fO g r=true:=by
 cases a with
 | nil=>cases h
 | cons x r=>cases x<;>first | exact ⟨_,_,rfl,h⟩ | cases h
theorem sig_str {g:List Bool} {a:T0j} (h:fO (false::g) a=true):∃ i r,a=.str i::r∧fO g r=true:=by
 cases a with
 | nil=>cases h
 | cons x r=>cases x<;>first | exact ⟨_,_,rfl,h⟩ | cases h
theorem a6d (a:Str):cH a a=true:=by have:=lT a a;rwa [Bool.or_self] at this
theorem a3z:∀ (g:List Bool) (a:T0j),fO g a=true→ltR a a=false
 | [],a,h=>by rw [lN h];rfl
 | true::g,a,h=>by
  obtain ⟨i,r,rfl,h⟩:=sig_int h;simp [ltR,eqC,a3z g r h]
 | false::g,a,h=>by
  obtain ⟨i,r,rfl,h⟩:=sig_str h;simp [ltR,eqC,a3z g r h]
theorem a3y:∀ (g:List Bool) (a b:T0j),fO g a=true→fO g b=true→ltR a b=true∨a=b∨ltR b a=true
 | [],a,b,h,h'=>by rw [lN h,lN h'];exact .inr (.inl rfl)
 | true::g,a,b,h,h'=>by
  obtain ⟨i,r,rfl,h⟩:=sig_int h;obtain ⟨j,q,rfl,h'⟩:=sig_int h';by_cases e:i=j
  ·subst e
   rcases a3y g r q h h' with z | z | z
   ·exact .inl (by simp [ltR,eqC,z])
   ·exact .inr (.inl (by rw [z]))
   ·exact .inr (.inr (by simp [ltR,eqC,z]))
  ·by_cases l:i<j
   ·exact .inl (by simp [ltR,eqC,e,ltC,l])
   ·exact .inr (.inr (by have:¬j=i:=fun z=>e z.symm;simp [ltR,eqC,this,ltC];omega))
 | false::g,a,b,h,h'=>by
  obtain ⟨i,r,rfl,h⟩:=sig_str h;obtain ⟨j,q,rfl,h'⟩:=sig_str h';by_cases e:i=j
  ·subst e
   rcases a3y g r q h h' with z | z | z
   ·exact .inl (by simp [ltR,eqC,z])
   ·exact .inr (.inl (by rw [z]))
   ·exact .inr (.inr (by simp [ltR,eqC,z]))
  ·have e':¬j=i:=fun z=>e z.symm
   cases l:cH j i with
   | false=>exact .inl (by simp [ltR,eqC,e,ltC,l])
   | true=>
    cases l2:cH i j with
    | false=>exact .inr (.inr (by simp [ltR,eqC,e',ltC,l2]))
    | true=>exact absurd (a0X l2 l) e
theorem a6c:∀ (g:List Bool) (a b c:T0j),fO g a=true→fO g b=true→fO g c=true→ltR a b=true→ltR b c=true→ltR a c=true
 | [],a,b,c,h,_,_,z,_=>by rw [lN h] at z;cases z
 | true::g,a,b,c,h,h',h'',z,z'=>by
  obtain ⟨i,r,rfl,h⟩:=sig_int h;obtain ⟨j,q,rfl,h'⟩:=sig_int h';obtain ⟨k,u,rfl,h''⟩:=sig_int h'';simp only [ltR,eqC,ltC,beq_iff_eq] at z z' ⊢;by_cases e:i=j
  ·subst e
   rw [if_pos rfl] at z;by_cases e2:i=k
   ·subst e2;rw [if_pos rfl] at z' ⊢;exact a6c g r q u h h' h'' z z'
   ·rw [if_neg e2] at z' ⊢;exact z'
  ·rw [if_neg e] at z
   by_cases e2:j=k
   ·subst e2;rw [if_neg e];exact z
   ·rw [if_neg e2] at z'
    rw [decide_eq_true_eq] at z z';rw [if_neg (by omega)];exact decide_eq_true (by omega)
 | false::g,a,b,c,h,h',h'',z,z'=>by
  obtain ⟨i,r,rfl,h⟩:=sig_str h;obtain ⟨j,q,rfl,h'⟩:=sig_str h';obtain ⟨k,u,rfl,h''⟩:=sig_str h'';simp only [ltR,eqC,ltC,beq_iff_eq] at z z' ⊢;by_cases e:i=j
  ·subst e
   rw [if_pos rfl] at z;by_cases e2:i=k
   ·subst e2;rw [if_pos rfl] at z' ⊢;exact a6c g r q u h h' h'' z z'
   ·rw [if_neg e2] at z' ⊢;exact z'
  ·rw [if_neg e] at z
   by_cases e2:j=k
   ·subst e2;rw [if_neg e];exact z
   ·rw [if_neg e2] at z'
    have z1:cH j i=false:=by simpa using z
    have z2:cH k j=false:=by simpa using z'
    have y1:cH i j=true:=by have:=lT i j;rw [z1,wA] at this;exact this
    have y2:cH j k=true:=by have:=lT j k;rw [z2,wA] at this;exact this
    have z3:cH k i=false:=by
     cases q3:cH k i with
     | false=>rfl
     | true=>rw [pH q3 y1] at z2;cases z2
    have e3:¬i=k:=fun w=>by subst w;rw [a6d] at z3;cases z3
    rw [if_neg e3,z3];rfl
def ltT:j0→j0→Bool
 | .tuple a,.tuple b=>ltR a b
 | _,_=>false
def bN (g:List Bool):j0→Bool
 | .tuple a=>fO g a
 | _=>false
theorem iF {g:List Bool} {d:j0} (h:bN g d=true):∃ a,d=.tuple a∧fO g a=true:=by
 cases d<;>first | exact ⟨_,rfl,h⟩ | cases h
section
variable {g:List Bool} {a b c:j0}
theorem a3x (h:bN g a=true):ltT a a=false:=by obtain ⟨x,rfl,h⟩:=iF h;exact a3z g x h
theorem a0h (h:bN g a=true) (h':bN g b=true):ltT a b=true∨a=b∨ltT b a=true:=by
 obtain ⟨x,rfl,h⟩:=iF h;obtain ⟨y,rfl,h'⟩:=iF h';exact (a3y g x y h h').imp id (Or.imp (fun e=>by rw [e]) id)
theorem a3w (h:bN g a=true) (h':bN g b=true) (h'':bN g c=true) (z:ltT a b=true) (z':ltT b c=true):ltT a c=true:=by
 obtain ⟨x,rfl,h⟩:=iF h;obtain ⟨y,rfl,h'⟩:=iF h';obtain ⟨u,rfl,h''⟩:=iF h'';exact a6c g x y u h h' h'' z z'
theorem b6Z (h:bN g a=true) (h':bN g b=true) (h'':bN g c=true) (z:ltT b a=false) (z':ltT c b=false):ltT c a=false:=by
 cases e:ltT c a with
 | false=>rfl
 | true=>
  rcases a0h h h' with q | q | q
  ·rw [a3w h'' h h' e q] at z';cases z'
  ·subst q;rw [e] at z';cases z'
  ·rw [q] at z;cases z
end
def a1H (x:j0):List j0→List j0
 | []=>[x]
 | y::l=>if ltT y x then y::a1H x l else x::y::l
def sB (l:T0j):List j0:=l.foldr a1H []
theorem xN (x:j0):∀ l:List j0,(a1H x l).Perm (x::l)
 | []=>.refl _
 | y::l=>by
  unfold a1H;split
  ·exact ((xN x l).cons y).trans (.swap x y l)
  ·exact .refl _
theorem uV:∀ l:List j0,(sB l).Perm l
 | []=>.refl _
 | x::l=>(xN x _).trans ((uV l).cons x)
abbrev pQ (l:T0j):Prop:=l.Pairwise fun a b=>ltT b a=false
theorem yM {g:List Bool} {x:j0} (hx:bN g x=true):∀ l:List j0,(∀ d∈l,bN g d=true)→pQ l→pQ (a1H x l)
 | [],_,_=>by simp [a1H]
 | y::l,h,hp=>by
  have hp':=qg.mp hp;have hy:=h y (by simp);unfold a1H;by_cases e:ltT y x=true
  ·rw [if_pos e,pQ,qg]
   refine ⟨fun z hz=>?_,yM hx l (fun d hd=>h d (qD _ hd)) hp'.2⟩;rcases qF.mp ((xN x l).mem_iff.mp hz) with rfl | hz
   ·cases q:ltT z y with
    | false=>rfl
    | true=>have:=a3w hx hy hx q e;rw [a3x hx] at this;cases this
   ·exact hp'.1 z hz
  ·rw [if_neg e,pQ,qg]
   have e':ltT y x=false:=by simpa using e
   refine ⟨fun z hz=>?_,hp⟩;rcases qF.mp hz with rfl | hz
   ·exact e'
   ·exact b6Z hx hy (h z (qD _ hz)) e' (hp'.1 z hz)
theorem lK {g:List Bool}:∀ l:List j0,(∀ d∈l,bN g d=true)→pQ (sB l)
 | [],_=>.nil
 | x::l,h=>yM (h x (by simp)) _ (fun d hd=>h d (qD _ ((uV l).mem_iff.mp hd))) (lK l fun d hd=>h d (qD _ hd))
theorem a4o {g:List Bool}:∀ (l m:T0j),l.Perm m→(∀ d∈l,bN g d=true)→pQ l→pQ m→l=m
 | [],m,hp,_,_,_=>by rw [List.nil_perm.mp hp]
 | x::l,[],hp,_,_,_=>by have:=hp.length_eq;simp at this
 | x::l,y::m,hp,h,h1,h2=>by
  have q1:=qg.mp h1;have q2:=qg.mp h2;have hy:y∈x::l:=hp.mem_iff.mpr (by simp);have hx:x∈y::m:=hp.mem_iff.mp (by simp);have e:x=y:=by
   rcases qF.mp hy with z | z
   ·exact z.symm
   ·rcases qF.mp hx with w | w
    ·exact w
    ·rcases a0h (h x (by simp)) (h y hy) with u | u | u
     ·rw [q2.1 x w] at u;cases u
     ·exact u
     ·rw [q1.1 y z] at u;cases u
  subst e;rw [a4o l m (List.Perm.cons_inv hp) (fun d hd=>h d (qD _ hd)) q1.2 q2.2]
theorem a6S {g:List Bool} {l m:T0j} (hp:l.Perm m) (h:∀ d∈m,bN g d=true) (hs:pQ l):l=sB m:=
 a4o (g:=g) l (sB m) (hp.trans (uV m).symm) (fun d hd=>h d (hp.mem_iff.mp hd)) hs (lK m h)
def rk (ds:T0j) (i:Nat):Int:=((ds.filter fun x=>ltT x (ds.getD i .none)).length:Nat)
theorem a3G {α:Type} {p q:α→Bool}:∀ l:List α,(∀ x∈l,p x=true→q x=true)→(l.filter p).length≤(l.filter q).length
 | [],_=>by simp
 | x::l,h=>by
  have ih:=a3G l fun y hy=>h y (qD _ hy);cases e:p x with
  | false=>
   rw [jh (by simp [e])];cases e2:q x with
   | false=>rw [jh (by simp [e2])];exact ih
   | true=>rw [jE e2,qZ];omega
  | true=>rw [jE e,jE (h x (by simp) e),qZ,qZ];omega
theorem a7C {α:Type} {p q:α→Bool}:∀ l:List α,(∀ x∈l,p x=true→q x=true)→(∃ x∈l,p x=false∧q x=true)→(l.filter p).length<(l.filter q).length
 | [],_,⟨x,hx,_⟩=>by cases hx
 | x::l,h,⟨y,hy,h1,h2⟩=>by
  have ih:=a3G l fun y hy=>h y (qD _ hy);rcases qF.mp hy with rfl | hy
  ·rw [jh (by simp [h1]),jE h2,qZ];omega
  ·have ih2:=a7C l (fun y hy=>h y (qD _ hy)) ⟨y,hy,h1,h2⟩
   cases e:p x with
   | false=>
    rw [jh (by simp [e])];cases e2:q x with
    | false=>rw [jh (by simp [e2])];exact ih2
    | true=>rw [jE e2,qZ];omega
   | true=>rw [jE e,jE (h x (by simp) e),qZ,qZ];omega
theorem b0u {g:List Bool} {ds:T0j} (h:∀ d∈ds,bN g d=true) {i j:Nat} (hi:i<ds.length) (hj:j<ds.length):ltT (ds.getD i .none) (ds.getD j .none)=ST.ltr (rk ds) i j:=by
 have mi:ds.getD i .none∈ds:=by rw [qd,qK hi];exact ja hi
 have mj:ds.getD j .none∈ds:=by rw [qd,qK hj];exact ja hj
 unfold ST.ltr rk;generalize ds.getD i j0.none=a at *;generalize ds.getD j j0.none=b at *;have ha:=h a mi;have hb:=h b mj;cases e:ltT a b with
 | true=>
  refine (decide_eq_true ?_).symm;have:=a7C (p:=fun x=>ltT x a) (q:=fun x=>ltT x b) ds (fun x hx z=>a3w (h x hx) ha hb z e) ⟨a,mi,a3x ha,e⟩;omega
 | false=>
  refine (decide_eq_false ?_).symm
  have:=a3G (p:=fun x=>ltT x b) (q:=fun x=>ltT x a) ds (fun x hx z=>by
   rcases a0h ha hb with q | q | q
   ·rw [e] at q;cases q
   ·subst q;exact z
   ·exact a3w (h x hx) hb ha z q)
  omega
theorem oA {g:List Bool} {ds:T0j} (h:∀ d∈ds,bN g d=true) {p:Array Nat} (P:ST.Pm ds.length p) (U:ST.Up (rk ds) p ds.length):(p.toList.map fun i=>ds.getD i .none)=sB ds:=by
 have hl:p.toList.length=ds.length:=by rw [qN];exact P.size
 have hr:(qi ds.length).map (fun i=>ds.getD i .none)=ds:=by
  refine wT (by simp) fun i h1 h2=>?_;simp [qd,h2]
 have hp:(p.toList.map fun i=>ds.getD i .none).Perm ds:=by
  have:=(zr.mp P.perm).map fun i=>ds.getD i j0.none;simp only [ky] at this;rw [hr] at this;exact this
 refine a6S hp h ?_;unfold pQ;rw [qr,vB];intro i j hi hj hij;have hi':i<p.size:=by simpa using hi
 have hj':j<p.size:=by simpa using hj
 have u:=U i j (qv hij) (by rw [P.size] at hj';exact hj');unfold ST.vl at u;have ei:p.toList[i]=p.getD i 0:=by simp [vH,hi']
 have ej:p.toList[j]=p.getD j 0:=by simp [vH,hj']
 rw [ei,ej];by_cases hn:0<ds.length
 ·rw [b0u h (P.lt hn j) (P.lt hn i)]
  exact decide_eq_false (by omega)
 ·rw [P.size] at hi';omega
end L2.L3
namespace L2.L3
open PySem PySem.W PyProof.Rows PySem.Calls
section
variable {prog:Program} {w:World} {A:Around} {E:T0a} {s:Shared}
theorem b3F {Q:Bool→Shared→Prop} (b:Bool) (m n:Int) (t u:Tok) (h:Q (decide (m<n)) s):wpAny (model prog w) A (oneLt' b (.int m t) (.int n u)) Q E s:=by
 cases b with
 | true=>exact oneLt_int h
 | false=>exact kat_one _ _ (lt_int h)
theorem b3E {Q:Bool→Shared→Prop} (b:Bool) (m n:Str) (t u:Tok) (h:Q (decide (m.cps.toList<n.cps.toList)) s):wpAny (model prog w) A (oneLt' b (.str m t) (.str n u)) Q E s:=by
 cases b with
 | true=>exact oneLt_str h
 | false=>exact kat_one _ _ (lt_str h)
theorem a1u {Q:Bool→Shared→Prop}:∀ (g:List Bool) (xs ys:T0k) (ds es:T0j) (as bs:T0m) (i:Nat),ReadsAll s.heap xs ds as→ReadsAll s.heap ys es bs→fO g ds=true→fO g es=true→Q (ltR ds es) s →
  KatLex prog w A true false Q (xs.zip ys) i s
 | [],xs,ys,ds,es,as,bs,i,r,r',h,h',q=>by
  have e1:=lN h;have e2:=lN h';subst e1;subst e2;cases r;cases r';exact kat_nil q
 | true::g,xs,ys,ds,es,as,bs,i,r,r',h,h',q=>by
  obtain ⟨m,r1,rfl,h⟩:=sig_int h;obtain ⟨n,r2,rfl,h'⟩:=sig_int h';cases r with | cons v rr=>
  cases r' with | cons v' rr'=>
  cases v;cases v';refine kat_cons (SeqAt.EqAt.int_int _ _ _ _ _ _ _ _ ?_);by_cases e:m=n
  ·subst e
   rw [beq_self_eq_true];refine kat_yes (a1u g _ _ _ _ _ _ _ rr rr' h h' ?_);simpa [ltR,eqC] using q
  ·rw [beq_eq_false_iff_ne.mpr e]
   refine kat_no (b3F _ _ _ _ _ ?_);simpa [ltR,eqC,e,ltC] using q
 | false::g,xs,ys,ds,es,as,bs,i,r,r',h,h',q=>by
  obtain ⟨m,r1,rfl,h⟩:=sig_str h;obtain ⟨n,r2,rfl,h'⟩:=sig_str h';cases r with | cons v rr=>
  cases r' with | cons v' rr'=>
  cases v;cases v';refine kat_cons (SeqAt.EqAt.str_str _ _ _ _ _ _ _ _ ?_);by_cases e:m=n
  ·subst e
   rw [beq_self_eq_true];refine kat_yes (a1u g _ _ _ _ _ _ _ rr rr' h h' ?_);simpa [ltR,eqC] using q
  ·rw [beq_eq_false_iff_ne.mpr e]
   refine kat_no (b3E _ _ _ _ _ ?_);have:ltR (.str m::r1) (.str n::r2)=decide (m.cps.toList<n.cps.toList):=by
    simp [ltR,eqC,e,ltC,cH]
   rw [←this];exact q
theorem b0t {Q:Bool→Shared→Prop} {g:List Bool} {v u:Value} {d e:j0} {as bs:T0m} (r:Reads s.heap v d as) (r':Reads s.heap u e bs) (h:bN g d=true) (h':bN g e=true) (q:Q (ltT d e) s) :
  wpAny (model prog w) A (keyLt' (tuples' true) v u) Q E s:=by
 obtain ⟨x,rfl,h⟩:=iF h;obtain ⟨y,rfl,h'⟩:=iF h';cases r with
 | tuple hg hc hd rr=>
  cases r' with
  | tuple hg' hc' hd' rr'=>
   refine kat_lt hg hd hg' hd' ?_;have sz:∀ (g:List Bool) (x y:T0j),fO g x=true→fO g y=true→x.length=y.length:=by
    intro g
    induction g with
    | nil=>intro x y h h';rw [lN h,lN h']
    | cons b g ih=>
     intro x y h h';cases b with
     | true=>obtain ⟨_,_,rfl,h⟩:=sig_int h;obtain ⟨_,_,rfl,h'⟩:=sig_int h';simp [ih _ _ h h']
     | false=>obtain ⟨_,_,rfl,h⟩:=sig_str h;obtain ⟨_,_,rfl,h'⟩:=sig_str h';simp [ih _ _ h h']
   have ln:∀ {vs:T0k} {ds:T0j} {as:T0m},ReadsAll s.heap vs ds as→vs.length=ds.length:=by
    intro vs
    induction vs with
    | nil=>intro ds as r;cases r;rfl
    | cons v vs ih=>intro ds as r;cases r with | cons _ r=>simp [ih r]
   have e1:=ln rr;have e2:=ln rr';have e3:=sz _ _ _ h h';rw [decide_eq_false (by rw [←qN,←qN];omega)];exact a1u g _ _ _ _ _ _ 0 rr rr' h h' q
inductive Rows (h:Heap):List Value→List j0→Prop
 | nil:Rows h [] []
 | cons {v:Value} {vs:T0k} {d:j0} {ds:T0j} {as:T0m}:Reads h v d as→Rows h vs ds→Rows h (v::vs) (d::ds)
theorem Rows.len {h:Heap} {vs:T0k} {ds:T0j} (r:Rows h vs ds):vs.length=ds.length:=by
 induction r with
 | nil=>rfl
 | cons _ _ ih=>simp [ih]
theorem Rows.keeps {h h':Heap} (k:∀ b o,h.get? b=some o→h'.get? b=some o) {vs:T0k} {ds:T0j} (r:Rows h vs ds):Rows h' vs ds:=by
 induction r with
 | nil=>exact .nil
 | cons r _ ih=>exact .cons (Reads.keeps k r) ih
theorem Rows.at {h:Heap} {vs:T0k} {ds:T0j} (r:Rows h vs ds):∀ i,i<vs.length→∃ as,Reads h (vs.getD i .none) (ds.getD i .none) as:=by
 induction r with
 | nil=>intro i hi;simp at hi
 | cons r _ ih=>
  intro i hi;cases i with
  | zero=>exact ⟨_,r⟩
  | succ i=>exact ih i (by simpa using hi)
theorem Rows.firsts {h:Heap} {g:List Bool} {k:Bool} {vs:T0k} {ds:T0j} (r:Rows h vs ds) (hs:∀ d∈ds,bN (k::g) d=true) :
  ∃ fs:List Value,KatTups h vs fs∧fs.length=vs.length∧∀ v∈fs,(k=true∧∃ i t,v=.int i t)∨(k=false∧∃ i t,v=.str i t):=by
 induction r with
 | nil=>exact ⟨[],.nil,rfl,fun v hv=>by cases hv⟩
 | @cons v vs d ds as r _ ih=>
  obtain ⟨fs,t,l,a⟩:=ih fun d hd=>hs d (qD _ hd);obtain ⟨x,rfl,hx⟩:=iF (hs d (by simp));cases r with
  | tuple hg hc hd rr=>
   cases k with
   | true=>
    obtain ⟨i,y,rfl,hy⟩:=sig_int hx;generalize hv:wM _=vl at rr;cases rr with | cons z rr=>
    cases z with | int _ tk=>
    refine ⟨.int i tk::fs,KatTups.cons hg hc hd (by rw [←kX,hv];rfl) t,by simp [l],fun v hv=>?_⟩
    ·rcases qF.mp hv with rfl | hv
     ·exact .inl ⟨rfl,_,_,rfl⟩
     ·exact a v hv
   | false=>
    obtain ⟨i,y,rfl,hy⟩:=sig_str hx;generalize hv:wM _=vl at rr;cases rr with | cons z rr=>
    cases z with | str _ tk=>
    refine ⟨.str i tk::fs,KatTups.cons hg hc hd (by rw [←kX,hv];rfl) t,by simp [l],fun v hv=>?_⟩
    ·rcases qF.mp hv with rfl | hv
     ·exact .inr ⟨rfl,_,_,rfl⟩
     ·exact a v hv
theorem a1Z {g:List Bool} {k:Bool} {vs:T0k} {ds:T0j} (r:Rows s.heap vs ds) (hs:∀ d∈ds,bN (k::g) d=true) (hne:0<vs.length) {Q:SortKind→Shared→Prop} (h:Q (tuples' true) s) :
  wpAny (model prog w) A (keyKind' vs.toArray) Q E s:=by
 obtain ⟨fs,t,l,a⟩:=r.firsts hs;cases k with
 | true=>
  refine kat_kind (T:=.type "int") t (by omega) (fun v hv=>?_) (by decide) h;rcases a v hv with ⟨_,i,t,rfl⟩ | ⟨z,_⟩
  ·exact Looks.of_pure rfl
  ·cases z
 | false=>
  refine kat_kind (T:=.type "str") t (by omega) (fun v hv=>?_) (by decide) h;rcases a v hv with ⟨z,_⟩ | ⟨_,i,t,rfl⟩
  ·cases z
  ·exact Looks.of_pure rfl
theorem a0W {a:Addr} {vs:T0k} {ds:T0j} {g:List Bool} {k:Bool} {n:Nat} {h0:Heap} {P:Fin→Shared→Prop} (ho:s.heap.get? a=some (k7 "list" vs.toArray n))
  (rd:Rows h0 vs ds) (hk:∀ b o,h0.get? b=some o→b≠a∧s.heap.get? b=some o) (hs:∀ d∈ds,bN (k::g) d=true) (h64:vs.length<64)
  (h:∀ p:Array Nat,ST.Pm ds.length p→(p.toList.map fun i=>ds.getD i .none)=sB ds→P (.done (.ret .none)) { s with heap:=QG s.heap a vs (p.toList.map fun i=>vs.getD i .none).toArray }) :
  wpAny (model prog w) A (Builtin.«list.sort» ⟨[.ref a],[]⟩) P E s:=by
 have ln:=rd.len;rw [list_sort_plain];have ha:a<s.heap.objs.size:=qG ho;refine q8 (yu ho rfl ?_);refine q8 (w8 ho rfl ?_);obtain ⟨e1,ho1⟩:∃ e1,(s.heap.update a (qy fun _=>#[])).get? a=some (k7 "list" #[] e1):=⟨_,yp ho (fun _=>#[])⟩;refine q8 (u0 ho1 rfl ?_);refine q8 (wpAny_newTuple ?_);refine q8 (um ?_);refine j9 ?_;have ho6:(((s.heap.update a (qy fun _=>#[])).push (k7 "tuple" vs.toArray 0)).push (k7 "list" #[] 0)).get? a=some (k7 "list" #[] e1):=by
  rw [Heap.get?_push_ne _ _ _ (by rw [size_push',vj];exact qa (jp ha)),Heap.get?_push_ne _ _ _ (by rw [vj];exact qa ha)];exact ho1
 have rd6:Rows (((s.heap.update a (qy fun _=>#[])).push (k7 "tuple" vs.toArray 0)).push (k7 "list" #[] 0)) vs ds:=rd.keeps fun b o q=>by
  obtain ⟨h1,h2⟩:=hk b o q;refine qB _ (qB _ ?_);rw [zN _ _ _ _ h1];exact h2
 show wpAny (model prog w) A _ P E { s with heap:=((s.heap.update a (qy fun _=>#[])).push (k7 "tuple" vs.toArray 0)).push (k7 "list" #[] 0) };dsimp only;have hsz:vs.toArray.size=vs.length:=by simp
 by_cases h2:vs.toArray.size<2
 ·rw [if_pos h2,if_pos h2]
  refine q8 (j3 ?_);rw [StateT.run_pure];refine q8 (j3 ?_);dsimp only;refine q8 (u0 ho6 rfl ?_);refine q8 (w8 ho6 rfl ?_ (hsz2:=by rw [Array.size_map];show (pairsOf vs).size≤_;rw [pairsOf_size,wo];omega));simp only [bne_self_eq_false,jX,if_false];refine j3 ?_;have hpm:ST.Pm ds.length (qi vs.length).toArray:=by rw [ln];exact ⟨by simp,Array.Perm.refl _⟩
  have hp:=h (qi vs.length).toArray hpm (oA hs hpm (fun i j hij hj=>by rw [show i=j by omega];exact jj _));have e:(qi vs.length).map (fun i=>vs.getD i jH)=vs:=by
   refine wT (by simp) fun i h1 h2=>?_;simp [qd,h2]
  have e2:((vs.toArray.zip vs.toArray).map (·.2))=vs.toArray:=by
   apply wU.mp;simp [Array.toList_zip,List.map_snd_zip]
  simp only [ky,e] at hp;rw [←e2] at hp;exact hp
 ·rw [if_neg h2,if_neg h2]
  refine q8 (a1Z (s:={ s with heap:=_ }) rd6 hs (by omega) ?_);have hq:=ST.h_sort (r:=rk ds) (n:=vs.length) (by omega)
  refine q8 (v6 (kat_run (κ:=tuples' true) (ks:=vs) (vs:=vs) (s:={ s with heap:=_ }) (G:=fun p s'=>s'={ s with heap:=((s.heap.update a (qy fun _=>#[])).push (k7 "tuple" vs.toArray 0)).push (k7 "list" #[] 0) }∧ST.Pm vs.length p∧ST.Up (rk ds) p vs.length)
   (Q:=fun st' s'=>∃ p:Array Nat,arrOf st'=p.map (kas_item (vs.toArray.zip vs.toArray))∧failedOf st'=none∧s'={ s with heap:=((s.heap.update a (qy fun _=>#[])).push (k7 "tuple" vs.toArray 0)).push (k7 "list" #[] 0) }∧ST.Pm vs.length p∧ST.Up (rk ds) p vs.length)
   rfl (by omega) h64 (fun p' st' s' a1 a2 a3 a4=>⟨p',a2,a3,a4⟩)
   (ST.wp_run (n:=vs.length) (lt:=ST.ltr (rk ds)) (fun i j C hi hj hC=>?_) _ hq.1 ⟨rfl,hq.2⟩)) ?_ fun _ _ e=>e)
  ·obtain ⟨as,ri⟩:=rd6.at i hi
   obtain ⟨bs,rj⟩:=rd6.at j hj;have mi:ds.getD i .none∈ds:=by rw [qd,qK (by omega)];exact ja (by omega)
   have mj:ds.getD j .none∈ds:=by rw [qd,qK (by omega)];exact ja (by omega)
   refine b0t ri rj (hs _ mi) (hs _ mj) ?_;rw [b0u hs (by omega) (by omega)];exact hC
  ·rintro ⟨⟨⟩,st'⟩ s' ⟨p,har,hf,rfl,hP,hU⟩
   dsimp only;have hout:=kat_snds rfl har;refine q8 (u0 ho6 rfl ?_);rw [hout];refine q8 (w8 ho6 rfl ?_ (hsz2:=by rw [qI,qE,qN,hP.size,wo];omega));rw [hf];simp only [bne_self_eq_false,jX,if_false];rw [ln] at hP hU;exact j3 (h p hP (oA hs hP hU))
theorem rV {l:Addr} {T:String} {o:Obj} {vs:T0k} {n:Nat} {Q:List Value→Shared→Prop} (hT:T = "list" ∨ T = "tuple") (ho:s.heap.get? l=some o) (hc:o.cls=.type T) (hd:o.data=.seq vs.toArray n) (few:vs.length≤j5)
  (hQ:∀ h',(∀ b o,s.heap.get? b=some o→h'.get? b=some o)→s.heap.objs.size≤h'.objs.size→Q vs { s with heap:=h' }):wpAny (model prog w) A (collect (.ref l)) Q E s:=by
 unfold collect;refine q8 (wpAny_runValue (we F.entry_proto_collect ?_));rw [qx F.plain_proto_collect _];show wpAny _ A.in1 (newList []>>=fun l'=>again (.builtin "list.__iadd__" ⟨[l',.ref l],[]⟩)) _ _ s;refine q8 (j7 ?_);refine j3 ⟨wt vY _,we F.entry_list_iadd ?_⟩;rw [qx vY _];have hS1:(s.heap.push { cls:=.type "list", data:=.seq ([]:T0k).toArray }).get? s.heap.objs.size=some { cls:=.type "list", data:=.seq ([]:T0k).toArray }:=qJ _ rfl;have ty1:vf { s with heap:=s.heap.push { cls:=.type "list", data:=.seq ([]:T0k).toArray } } (.ref l) T:=⟨o,qB _ ho,hc⟩;show wpAny _ A.in1 (jo (.ref s.heap.objs.size) (.ref l) (.ref s.heap.objs.size)) _ _ _;unfold jo;refine q8 (yw ty1 ?_);rw [if_pos (by rcases hT with rfl | rfl<;>simp)];refine q8 (yu (qB _ ho) hd ?_);refine q8 (yu hS1 rfl ?_);rw [if_neg (by simp)];refine q8 (w8 hS1 rfl ?_ (jR _) (by rw [Array.size_append,qI,qI,List.length_nil];omega));have hS₂:=jG (qy (·++vs.toArray)) hS1 rfl;refine j3 ?_;show wpAny _ A (load s.heap.objs.size>>=_) _ _ _;refine q8 (wpAny_load hS₂ (j3 ?_));have e:(([]:T0k).toArray++vs.toArray).toList=vs:=by simp
 show Q (([]:T0k).toArray++vs.toArray).toList _;rw [e];refine hQ _ (fun b o' hb=>?_) (by rw [vj,size_push'];omega);rw [zN _ _ _ _ (qa (qG hb))];exact qB _ hb
theorem a0w {l:Addr} {T:String} {o:Obj} {vs:T0k} {n:Nat} {Q:T0a} {R:Array Value→Prop} (hT:T = "list" ∨ T = "tuple") (ho:s.heap.get? l=some o) (hc:o.cls=.type T) (hd:o.data=.seq vs.toArray n) (h64:vs.length<64)
  (sort:∀ (A':Around) (E':T0a) (s':Shared) (a:Addr) (k:Nat) (P:Fin→Shared→Prop),s'.heap.get? a=some (k7 "list" vs.toArray k)→(∀ b o,s.heap.get? b=some o→b≠a∧s'.heap.get? b=some o) →
   (∀ out,R out→P (.done (.ret .none)) { s' with heap:=QG s'.heap a vs out })→wpAny (model prog w) A' (Builtin.«list.sort» ⟨[.ref a],[]⟩) P E' s')
  (h:∀ (a:Addr) (h2:Heap) (ep:Nat) (out:Array Value),R out→(∀ b o,s.heap.get? b=some o→h2.get? b=some o)→s.heap.objs.size≤a→h2.get? a=some (k7 "list" out ep)→Q (.ref a) { s with heap:=h2 }) :
  wpAny (model prog w) A (call (.builtin "sorted") [.ref l]) Q E s:=by
 refine Calls.call_function_entry kind_sorted plain_sorted entry_sorted (args_sorted1 _) ?_;unfold Builtin.«sorted»;refine q8 (m:=checkCount "sorted" 1 1 _) (j3 ?_);refine q8 (rV hT ho hc hd (by rw [wo];omega) fun h1 kp up=>?_);refine q8 (um ?_ (by rw [wo];omega));have hoL:(h1.push (k7 "list" vs.toArray 0)).get? h1.objs.size=some (k7 "list" vs.toArray 0):=qJ _ rfl;have keep:∀ b o,s.heap.get? b=some o→b≠h1.objs.size∧(h1.push (k7 "list" vs.toArray 0)).get? b=some o:=fun b o q=>⟨qa (qG (kp _ _ q)),qB _ (kp _ _ q)⟩;show wpAny _ _ _ _ _ { s with heap:=h1.push (k7 "list" vs.toArray 0) };refine q8 (j9 (v8 slot_list_sort ⟨_,hoL,rfl⟩ entry_list_sort (sort _ _ { s with heap:=h1.push (k7 "list" vs.toArray 0) } _ 0 _ hoL keep fun out hR=>⟨_,rfl,?_⟩) (args_list_sort _)));obtain ⟨e1,ho1⟩:∃ e1,((h1.push (k7 "list" vs.toArray 0)).update h1.objs.size (qy fun _=>#[])).get? h1.objs.size=some (k7 "list" #[] e1):=⟨_,yp hoL (fun _=>#[])⟩;have hz:h1.objs.size<((h1.push (k7 "list" vs.toArray 0)).update h1.objs.size (qy fun _=>#[])).objs.size:=qG ho1;have ho6:=qB (k7 "list" #[] 0) (qB (k7 "tuple" vs.toArray 0) ho1);obtain ⟨e2,ho2⟩:∃ e2,(QG (h1.push (k7 "list" vs.toArray 0)) h1.objs.size vs out).get? h1.objs.size=some (k7 "list" out e2):=⟨_,yp ho6 (fun _=>out)⟩;refine j3 ⟨_,rfl,h _ _ e2 out hR (fun b o q=>?_) up ho2⟩;obtain ⟨hb,hq⟩:=keep b o q;unfold QG;rw [zN _ _ _ _ hb];refine qB _ (qB _ ?_);rw [zN _ _ _ _ hb];exact hq
end
end L2.L3
namespace L2.L3
open PySem PySem.W PyProof.Rows
def b0p:List j0→Option (List Bool)
 | []=>some []
 | .int _::r=>(b0p r).map (true::·)
 | .str _::r=>(b0p r).map (false::·)
 | _=>none
def a8l:j0→Option (List Bool)
 | .tuple a=>b0p a
 | _=>none
def b0o (ds:T0j):Option j0:=match ds with
 | x::xs=>(match a8l x with
  | some (k::g)=>if (x::xs).all (bN (k::g))&&decide ((x::xs).length<64) then some (.list (sB (x::xs))) else none
  | _=>none)
 | _=>none
def b0n (ds:T0j):Option j0:=match b2X ds with
 | some d=>some d
 | none=>(match ds with
  | [.list xs]=>b0o xs
  | [.tuple xs]=>(match eT intD xs with
   | some ns=>if ns.length<64 then some (.list ((sortI ns).map .int)) else none
   | none=>b0o xs)
  | _=>none)
section
variable {X:Cx} {pins:T0b} {σ:List (Option V)} {H:Hp} {s:Shared}
theorem a3f (I:Inv X pins σ H s):∀ {xs:List V} {ds:T0j} {us:T0k},RepAll X.K H xs ds→aY xs us→Rows s.heap us ds
 | _,_,_,.nil,.nil=>.nil
 | _,_,_,.cons r rr,.cons t tt=>by
  obtain ⟨as,ra⟩:=r.reads I t;exact .cons ra (a3f I rr tt)
theorem RepAll.at {K:qC} {G:Hp}:∀ {vs:List V} {ds:T0j},RepAll K G vs ds→∀ i,i<vs.length→Rep K G (vs.getD i .non) (ds.getD i .none)
 | _,_,.nil,i,h=>by simp at h
 | _,_,.cons r rr,0,_=>r
 | _,_,.cons r rr,i+1,h=>RepAll.at rr i (by simpa using h)
theorem RepAll.len {K:qC} {G:Hp}:∀ {vs:List V} {ds:T0j},RepAll K G vs ds→vs.length=ds.length
 | _,_,.nil=>rfl
 | _,_,.cons _ rr=>by simp [RepAll.len rr]
theorem RepAll.pick {K:qC} {G:Hp} {vs:List V} {ds:T0j} (r:RepAll K G vs ds):∀ p:List Nat,(∀ i∈p,i<vs.length)→RepAll K G (p.map fun i=>vs.getD i .non) (p.map fun i=>ds.getD i .none)
 | [],_=>.nil
 | i::p,h=>.cons (r.at i (h i (by simp))) (RepAll.pick r p fun j hj=>h j (qD _ hj))
theorem aY.at':∀ {vs:List V} {us:T0k},aY vs us→∀ i,i<vs.length→RelV (vs.getD i .non) (us.getD i .none)
 | _,_,.nil,i,h=>by simp at h
 | _,_,.cons r rr,0,_=>r
 | _,_,.cons r rr,i+1,h=>aY.at' rr i (by simpa using h)
theorem aY.pick {vs:List V} {us:T0k} (r:aY vs us):∀ p:List Nat,(∀ i∈p,i<vs.length)→aY (p.map fun i=>vs.getD i .non) (p.map fun i=>us.getD i .none)
 | [],_=>.nil
 | i::p,h=>.cons (aY.at' r i (h i (by simp))) (aY.pick r p fun j hj=>h j (qD _ hj))
theorem pT (I:Inv X pins σ H s) {p:Addr} {vs:List V} (h:SqL X.K H p vs∨SqT X.K H p vs):∃ (its:T0k) (T:String) (o:Obj) (n:Nat),(T = "list" ∨ T = "tuple")∧s.heap.get? p=some o∧o.cls=.type T∧o.data=.seq its.toArray n∧aY vs its:=by
 rcases h with h | h
 ·obtain ⟨its,rv,pl,hz⟩:=I.list h
  obtain ⟨o,ho,hc,n,hd⟩:=pl.isList;exact ⟨its, "list", o,n,.inl rfl,ho,hc,hd,rv⟩
 ·obtain ⟨its,rv,⟨o,ho,hc,n,hd⟩,hz⟩:=I.tuple h
  exact ⟨its, "tuple", o,n,.inr rfl,ho,hc,hd,rv⟩
theorem a3T:eJ X (.builtin "sorted") (fun xs H Q=>∃ (p:Addr) (vs:List V) (ds:T0j) (k:Bool) (g:List Bool),xs=[.ref p]∧(SqL X.K H p vs∨SqT X.K H p vs)∧RepAll X.K H vs ds∧(∀ d∈ds,bN (k::g) d=true)∧ds.length<64 ∧
  ∀ (l:Addr) (ix:T0r),H l=none→(∀ i∈ix,i<vs.length)→(ix.map fun i=>ds.getD i .none)=sB ds→Q (.ref l) (upd H l (.lst (ix.map fun i=>vs.getD i .non)))):=by
 intro pins s σ H xs us Q I r ⟨p,vs,ds,k,g,e,hq,r2,hs,h64,q⟩;subst e;obtain ⟨u,rfl,rx⟩:=vals1 r;cases rx;obtain ⟨its,T,o,n,hT,ho,hc,hd,rv⟩:=pT I hq;have l1:=r2.len;have l2:=rv.length;have rd:=a3f I r2 rv;refine a0w (R:=fun out=>∃ ix:List Nat,(∀ i∈ix,i<vs.length)∧ix.length=ds.length∧(ix.map fun i=>ds.getD i j0.none)=sB ds∧out=(ix.map fun i=>its.getD i jH).toArray) hT ho hc hd (by omega) (fun A' E' s' a k' P ha keep hP=>a0W ha rd keep hs (by omega) fun ix hI he=>hP _ ⟨ix.toList,fun i hi=>?_,by rw [qN];exact hI.size,he,rfl⟩) (fun a h2 ep out ⟨ix,hr,hn,he,ho'⟩ kp hz g=>?_)
 ·have:=(zr.mp hI.perm).mem_iff.mp hi
  simp at this;omega
 ·subst ho'
  have hf:H a=none:=I.hok.fresh hz;refine ⟨.ref a,_,I.laid (t':=s.toks) kp hz ?_,rfl,q _ ix hf hr he⟩;refine ⟨?_,ix.map fun i=>its.getD i jH,ep,aY.pick rv _ hr,?_⟩
  ·rw [qE,hn]
   exact qv (fE (by omega))
  ·rw [g]
theorem a3U:eJ X (.builtin "sorted") (fun xs H Q=>∃ (p:Addr) (ns:T0q),xs=[.ref p]∧SqT X.K H p (ns.map V.int)∧ns.length<64∧∀ l,H l=none→Q (.ref l) (upd H l (.lst ((sortI ns).map V.int)))):=by
 intro pins s σ H xs us Q I r ⟨p,ns,e,hq,h64,q⟩;subst e;obtain ⟨u,rfl,rx⟩:=vals1 r;cases rx;obtain ⟨its,T,o,n,hT,ho,hc,hd,rv⟩:=pT I (.inr hq);have hi:=intsAre_of rv;have hl:=hi.length;refine a0w (R:=fun out=>ym out.toList (sortI ns)) hT ho hc hd (by omega) (fun A' E' s' a k' P ha keep hP=>list_sort_tree ha hi (by omega) fun out ns' h1 h2 h3=>?_) (fun a h2 ep out hR kp hz g=>?_)
 ·have e:=sortI_eq h2 h3
  subst e;exact hP _ h1
 ·have hf:H a=none:=I.hok.fresh hz
  refine ⟨.ref a,_,I.laid (t':=s.toks) kp hz ?_,rfl,q _ hf⟩;refine ⟨?_,out.toList,ep,mS hR,?_⟩
  ·rw [qE,(sortI_perm ns).length_eq]
   exact qv (fE (by omega))
  ·rw [g]
end
section
variable {X:Cx}
theorem b2V (ds:T0j) (d:j0) (h:b0n ds=some d):CallD X (.builtin "sorted") ds d:=by
 unfold b0n at h;split at h
 ·rename_i e
  cases (qA h);exact b6e ds _ e
 ·have key:∀ (y:j0) (xs:T0j),uZ y=some xs→∀ d,b0o xs=some d→CallD X (.builtin "sorted") [y] d:=fun y xs hy d h=>by
   unfold b0o at h;split at h
   ·rename_i x xs
    split at h
    ·rename_i k g e
     split at h
     ·rename_i hc
      rw [qM] at hc;cases (qA h);have hs:∀ d∈x::xs,bN (k::g) d=true:=fun d hd=>qk.mp hc.1 d hd
      exact ⟨_,a3T,fun vs G H Q s r q=>by
       obtain ⟨v,rfl,r0⟩:∃ v,vs=[v]∧Rep X.K G v y:=by
        cases r with
        | cons r rr=>cases rr;exact ⟨_,rfl,r⟩
       obtain ⟨p,us,rfl,hq,r⟩:=nM s hy r0
       exact ⟨_,_,x::xs,k,g,rfl,hq,r.mono s,hs,of_decide_eq_true hc.2,fun l ix hn hi he=>q _ _ _ (.put s hn) (.list (.of aL) (by
        rw [←he]
        exact (r.pick ix hi).mono (Grow.put s hn).gg))⟩⟩
     ·cases h
    ·cases h
   ·cases h
  split at h
  ·exact key _ _ rfl d h
  ·rename_i xs
   split at h
   ·rename_i ns e
    split at h
    ·rename_i hl
     cases (qA h);have:=cO (g:=.int) (fun d a q=>gS q) e;subst this
     exact ⟨_,a3U,fun vs G H Q s r q=>by
      cases r with | cons r rr=>cases rr;cases r with | tuple hq r=>
       have e:=r.ints;subst e
       exact ⟨_,ns,rfl,mU s hq,hl,fun l hn=>q _ _ _ (.put s hn) (.list (.of aL) (fN _))⟩⟩
    ·cases h
   ·exact key _ _ rfl d h
  ·cases h
end
end L2.L3
namespace L2.L3
open PySem PySem.Spec PyProof.Rows
theorem a4a {α β:Type} {m:Mm α} {a:α} {k:α→Mm β} (h:m=some (.ok a)):bnd m k=k a:=by rw [h];rfl
theorem iB {α:Type} {m:Mm α} {ρ:List Ent} {a:α} {k:α→Option So} (h:m=some (.ok a)):bns m ρ k=k a:=by rw [h];rfl
theorem a2p {α:Type} {t:Tg} {ρb:List Ent} {ft:TF} {fe:EF} (φ:α→j0) (ρx:α→List Ent) (c:α→Bool) (v:α→j0):∀ (xs:List α),(∀ x∈xs,tgD t ρb (φ x)=some (ρx x))→(∀ x∈xs,ft (ρx x)=some (.ok (c x)))→(∀ x∈xs,c x=true→fe (ρx x)=some (.ok (v x))) →
  tV t ρb ft fe (xs.map φ)=some ((xs.filter c).map v)
 | [],_,_,_=>rfl
 | x::xs,h1,h2,h3=>by
  have ih:=a2p φ ρx c v xs (fun y hy=>h1 y (qD _ hy)) (fun y hy=>h2 y (qD _ hy)) (fun y hy=>h3 y (qD _ hy));have e1:=h1 x qS;have e2:=h2 x qS;rw [qU,tV,e1];dsimp only;rw [e2];cases hc:c x with
  | true=>
   have e3:=h3 x qS hc;dsimp only;rw [e3];dsimp only;rw [ih,jE hc];rfl
  | false=>
   dsimp only;rw [ih,jh (by rw [hc];decide)]
theorem nA {α:Type} {t:Tg} {cap:T0e} {fi:AF} {ft:TF} {fe:EF} {ρ:List Ent} (φ:α→j0) (ρx:α→List Ent) (c:α→Bool) (v:α→j0) (xs:List α) (hi:fi ρ=some (.ok (xs.map φ))) (hz:xs.length≤100000)
  (h1:∀ x∈xs,tgD t (bS cap ρ) (φ x)=some (ρx x)) (h2:∀ x∈xs,ft (ρx x)=some (.ok (c x))) (h3:∀ x∈xs,c x=true→fe (ρx x)=some (.ok (v x))) :
  cN t cap fi ft fe ρ=some (.ok (.list ((xs.filter c).map v))):=by
 unfold cN;rw [a4a hi,qE,if_pos (by unfold dO;exact decide_eq_true hz),a2p φ ρx c v xs h1 h2 h3];rfl
theorem filter_all {α:Type} {c:α→Bool} {xs:List α} (h:∀ x∈xs,c x=true):xs.filter c=xs:=List.filter_eq_self.mpr h
theorem bM {α:Type} {t:Tg} {cap:T0e} {fi:AF} {fe:EF} {ρ:List Ent} (φ:α→j0) (ρx:α→List Ent) (v:α→j0) (xs:List α) (hi:fi ρ=some (.ok (xs.map φ))) (hz:xs.length≤100000)
  (h1:∀ x∈xs,tgD t (bS cap ρ) (φ x)=some (ρx x)) (h3:∀ x∈xs,fe (ρx x)=some (.ok (v x))) :
  cN t cap fi ttT fe ρ=some (.ok (.list (xs.map v))):=by
 rw [nA φ ρx (fun _=>true) v xs hi hz h1 (fun _ _=>rfl) (fun x hx _=>h3 x hx),filter_all (fun _ _=>rfl)]
section
variable {α β:Type} {ρ:List Ent} {fa fb fc fd:EF} {ft fu:TF} {aa:AF} {d e:j0} {i j k:Int}
@[simp] theorem cF (a:α) (k:α→Mm β):bnd (some (.ok a)) k=k a:=rfl
@[simp] theorem c0X (c:Str) (k:α→Mm β):bnd (some (.ex c)) k=some (.ex c):=rfl
@[simp] theorem lC (a:α) (k:α→Option So):bns (some (.ok a)) ρ k=k a:=rfl
@[simp] theorem c0W (c:Str) (k:α→Option So):bns (some (.ex c)) ρ k=some (.xc c ρ):=rfl
@[simp] theorem a4P (a:α):lft (some a)=some (.ok a):=rfl
@[simp] theorem b5F:cst d ρ=some (.ok d):=rfl
@[simp] theorem a4j (d:j0) (r:List Ent):var 0 (.val d::r)=some (.ok d):=rfl
@[simp] theorem a6O (n:Nat) (x:Ent) (r:List Ent):var (n+1) (x::r)=var n r:=rfl
@[simp] theorem a4A (g:j0→j0→Option j0):op2 g fa fb ρ=bnd (fa ρ) fun x=>bnd (fb ρ) fun y=>lft (g x y):=rfl
@[simp] theorem b0W (g:j0→Option j0):op1 g fa ρ=bnd (fa ρ) fun x=>lft (g x):=rfl
@[simp] theorem a1z:aH ρ=some (.ok []):=rfl
@[simp] theorem fX:aC fa aa ρ=bnd (fa ρ) fun x=>bnd (aa ρ) fun xs=>some (.ok (x::xs)):=rfl
@[simp] theorem a0q:fY aa ρ=bnd (aa ρ) fun xs=>lft (yG xs):=rfl
@[simp] theorem c0c:tS aa ρ=bnd (aa ρ) fun xs=>lft (a2k xs):=rfl
@[simp] theorem b9P (n:Nat):dO n=decide (n≤100000):=rfl
@[simp] theorem a7j (ds:T0j):yG ds=if ds.length≤100000 then some (.tuple ds) else none:=by unfold yG dO;by_cases h:ds.length≤100000<;>simp [h]
@[simp] theorem b9k (ds:T0j):a2k ds=if ds.length≤100000 then some (.list ds) else none:=by unfold a2k dO;by_cases h:ds.length≤100000<;>simp [h]
@[simp] theorem b2o (g:j0→j0→Option Bool):a3P g fa fb ρ=bnd (fa ρ) fun x=>bnd (fb ρ) fun y=>lft ((g x y).map .bool):=rfl
@[simp] theorem a6z (g:j0→j0→Option Bool):dL g fa fb ρ=bnd (fa ρ) fun x=>bnd (fb ρ) fun y=>lft (g x y):=rfl
theorem b4f (t u:Bool):(if t=true then (some (Re.ok u):Mm Bool) else some (.ok false))=some (.ok (t&&u)):=by cases t<;>rfl
theorem b7n (t u:Bool):(if t=true then (some (Re.ok true):Mm Bool) else some (.ok u))=some (.ok (t || u)):=by cases t<;>rfl
@[simp] theorem c0t (g g':j0→j0→Option Bool):b4V g g' fa fb fc ρ=bnd (fa ρ) fun x=>bnd (fb ρ) fun y=>bnd (lft (g x y)) fun t=>if t then bnd (fc ρ) fun z=>lft ((g' y z).map .bool) else some (.ok (.bool false)):=rfl
@[simp] theorem c0s (g g':j0→j0→Option Bool):b4U g g' fa fb fc ρ=bnd (fa ρ) fun x=>bnd (fb ρ) fun y=>bnd (lft (g x y)) fun t=>if t then bnd (fc ρ) fun z=>lft (g' y z) else some (.ok false):=rfl
@[simp] theorem b5V:uS fa ρ=bnd (fa ρ) fun x=>lft (a0r x):=rfl
@[simp] theorem b9s (b:Bool):a0r (.bool b)=some b:=rfl
@[simp] theorem b9q (ds:T0j):a0r (.list ds)=some (!ds.isEmpty):=rfl
@[simp] theorem b9o (ds:T0j):a0r (.tuple ds)=some (!ds.isEmpty):=rfl
@[simp] theorem b9r (i:Int):a0r (.int i)=some (i != 0):=rfl
@[simp] theorem b9p:a0r .none=some false:=rfl
@[simp] theorem b9X:a4C ft ρ=bnd (ft ρ) fun t=>some (.ok (!t)):=rfl
@[simp] theorem b9Y:b6M fa ρ=bnd (fa ρ) fun x=>lft ((rX x).map fun t=>.bool (!t)):=rfl
@[simp] theorem b9n (b:Bool):rX (.bool b)=some b:=rfl
@[simp] theorem b7r (i:Int):intD (.int i)=some i:=rfl
@[simp] theorem b9R (i:Str):b0i (.str i)=some i:=rfl
@[simp] theorem b7Z:a5z ft fu ρ=bnd (ft ρ) fun t=>if t then fu ρ else some (.ok false):=rfl
@[simp] theorem b0S:orT ft fu ρ=bnd (ft ρ) fun t=>if t then some (.ok true) else fu ρ:=rfl
@[simp] theorem b2H:a6I fa fb ρ=bnd (fa ρ) fun x=>bnd (lft (rX x)) fun t=>if t then fb ρ else some (.ok (.bool false)):=rfl
@[simp] theorem c0F:orE fa fb ρ=bnd (fa ρ) fun x=>bnd (lft (rX x)) fun t=>if t then some (.ok (.bool true)) else fb ρ:=rfl
@[simp] theorem c0S:ifE ft fa fb ρ=bnd (ft ρ) fun t=>if t then fa ρ else fb ρ:=rfl
@[simp] theorem b2C (g:List j0→Option j0):fC g aa ρ=bnd (aa ρ) fun xs=>lft (g xs):=rfl
@[simp] theorem a3X (F:List j0→Mm j0):aP F aa ρ=bnd (aa ρ) fun ds=>(match F ds with | some (.ok d)=>some (.ok d) | _=>none):=rfl
@[simp] theorem b2K:cY (.int i) (.int j)=some (.int (i+j)):=rfl
@[simp] theorem b9Q:tH (.int i) (.int j)=some (.int (i - j)):=rfl
@[simp] theorem c0G:pD (.int i)=some (.int (-i)):=rfl
@[simp] theorem c0v (a b:T0j):cY (.tuple a) (.tuple b)=if a.length+b.length≤100000 then some (.tuple (a++b)) else none:=by
 show (if dO (a.length+b.length)=true then _ else _)=_;by_cases h:a.length+b.length≤100000<;>simp [h]
@[simp] theorem b2J (a b:T0j):cY (.list a) (.list b)=if a.length+b.length≤100000 then some (.list (a++b)) else none:=by
 show (if dO (a.length+b.length)=true then _ else _)=_;by_cases h:a.length+b.length≤100000<;>simp [h]
@[simp] theorem b8V:ltD (.int i) (.int j)=some (decide (i<j)):=rfl
@[simp] theorem c0M:leD (.int i) (.int j)=some (decide (i≤j)):=rfl
@[simp] theorem b5B:gtD (.int i) (.int j)=some (decide (j<i)):=rfl
@[simp] theorem c0T:geD (.int i) (.int j)=some (decide (j≤i)):=rfl
@[simp] theorem b5D:eqD (.int i) (.int j)=some (decide (i=j)):=rfl
@[simp] theorem b1a:neD (.int i) (.int j)=some (!decide (i=j)):=rfl
@[simp] theorem c0U (a b:Str):eqD (.str a) (.str b)=some (decide (a=b)):=rfl
@[simp] theorem c0H (a b:Str):neD (.str a) (.str b)=some (!decide (a=b)):=rfl
@[simp] theorem c0V (a b:Bool):eqD (.bool a) (.bool b)=some (decide (a=b)):=rfl
@[simp] theorem c0I (a b:Bool):neD (.bool a) (.bool b)=some (!decide (a=b)):=rfl
@[simp] theorem b6V:a5Y (.int i) (.int j)=if 0<j then some (.int (i % j)) else none:=rfl
@[simp] theorem c0r:b4s (.int i) (.int j)=if 0<j∧j<1073741824 then some (.int (i / j)) else none:=rfl
theorem a3t (h1:-(2 ^ 64)<j) (h2:j<2 ^ 64):oC (.int i) (.int j)=some (.int (i*j)):=by
 show (if (mH i || mH j)=true then _ else _)=_;rw [if_pos];simp [mH];right;omega
theorem a7h (h1:-(2 ^ 64)<i) (h2:i<2 ^ 64):oC (.int i) (.int j)=some (.int (i*j)):=by
 show (if (mH i || mH j)=true then _ else _)=_;rw [if_pos];simp [mH];left;omega
@[simp] theorem b8X (xs:T0j):xI [.list xs]=some (.int xs.length):=rfl
@[simp] theorem c0L (xs:T0j):xI [.tuple xs]=some (.int xs.length):=rfl
@[simp] theorem b6Y:a4L [.int i,.int j]=some (.int (max i j)):=rfl
@[simp] theorem c0b:a8F [.int i,.int j]=some (.int (min i j)):=rfl
@[simp] theorem b5j (xs:T0j):yV [.list xs]=some (.tuple xs):=rfl
@[simp] theorem c0D (xs:T0j):yV [.tuple xs]=some (.tuple xs):=rfl
@[simp] theorem c0K (xs:T0j):b8W [.list xs]=some (.list xs):=rfl
@[simp] theorem c0J (xs:T0j):b8W [.tuple xs]=some (.list xs):=rfl
@[simp] theorem c0R (b:Bool):c0m [.bool b]=some (.int (if b then 1 else 0)):=rfl
theorem b8w (ns:T0q):b2R [.list (ns.map .int)]=some (.int ns.sum):=by show (eT intD (ns.map .int)).map _=_;rw [mY];rfl
@[simp] theorem a5L:dQ fa ρ=bnd (fa ρ) fun x=>lft (uZ x):=rfl
@[simp] theorem b6g (ds:T0j):uZ (.list ds)=some ds:=rfl
@[simp] theorem b9S (ds:T0j):uZ (.tuple ds)=some ds:=rfl
@[simp] theorem c0N (ds:T0j):ixD (.tuple ds) (.int i)=atI ds i:=rfl
@[simp] theorem c0O (ds:T0j):ixD (.list ds) (.int i)=atI ds i:=rfl
theorem b7X {xs:List α} (n:Nat):atI xs (n:Int)=xs[n]?:=by
 unfold atI ixN;rw [if_pos (by omega)];by_cases h:n<xs.length
 ·rw [if_pos (by omega)];simp
 ·rw [if_neg (by omega)];rw [qb (by omega)];rfl
@[simp] theorem c1d (a:α) (r:List α):atI (a::r) 0=some a:=by
 unfold atI ixN;rw [if_pos (by decide),if_pos (by simp<;>omega)];rfl
@[simp] theorem c1c (a b:α) (r:List α):atI (a::b::r) 1=some b:=by
 unfold atI ixN;rw [if_pos (by decide),if_pos (by simp<;>omega)];rfl
@[simp] theorem c1b (a b c:α) (r:List α):atI (a::b::c::r) 2=some c:=by
 unfold atI ixN;rw [if_pos (by decide),if_pos (by simp<;>omega)];rfl
@[simp] theorem c1a (a b c d:α) (r:List α):atI (a::b::c::d::r) 3=some d:=by
 unfold atI ixN;rw [if_pos (by decide),if_pos (by simp<;>omega)];rfl
theorem a7U (xs:List α) (a:α):atI (xs++[a]) (-1)=some a:=by
 unfold atI ixN;rw [if_neg (by decide),if_pos (by simp;omega)];have e:(-1+(((xs++[a]).length:Nat):Int)).toNat=xs.length:=by simp;omega
 rw [e];simp
@[simp] theorem b9Z:mL ρ=some (.nx ρ):=rfl
@[simp] theorem dW:retS fa ρ=bns (fa ρ) ρ fun d=>some (.rt d):=rfl
@[simp] theorem b9l:a2B fa ρ=bns (fa ρ) ρ fun _=>some (.nx ρ):=rfl
@[simp] theorem oZ (i:Nat):iG i fa ρ=bns (fa ρ) ρ fun d=>some (.nx (ρ.set i (.val d))):=rfl
@[simp] theorem a9O (t:Tg):a7X t fa ρ=bns (fa ρ) ρ fun d=>(tgD t ρ d).map So.nx:=rfl
@[simp] theorem lV (f g:SF):ifS ft f g ρ=bns (ft ρ) ρ fun t=>if t then f ρ else g ρ:=rfl
@[simp] theorem sQ (t:Tg) (fb:SF):a1J t aa fb ρ=bns (aa ρ) ρ fun ds=>gA t fb ds ρ:=rfl
@[simp] theorem c0a (i:Nat):a3q i aa ρ=bns (aa ρ) ρ fun ds=>if ds.length≤100000 then some (.nx (ρ.set i (.lst ds))) else none:=by
 unfold a3q dO;cases aa ρ with
 | none=>rfl
 | some r=>cases r with
  | ok ds=>by_cases h:ds.length≤100000<;>simp [bns,h]
  | ex c=>rfl
theorem aT {f g:SF} {ρ':List Ent} (h:f ρ=some (.nx ρ')):bC f g ρ=g ρ':=by unfold bC;rw [h]
theorem a0f {f g:SF} (h:f ρ=some (.rt d)):bC f g ρ=some (.rt d):=by unfold bC;rw [h]
@[simp] theorem c0E (i:Nat):tgD (.nm i) ρ d=some (ρ.set i (.val d)):=rfl
@[simp] theorem b9w (i j:Nat) (a b:j0):tgD (.tp [i,j]) ρ (.tuple [a,b])=some ((ρ.set i (.val a)).set j (.val b)):=rfl
@[simp] theorem b9v (i j k:Nat) (a b c:j0):tgD (.tp [i,j,k]) ρ (.tuple [a,b,c])=some (((ρ.set i (.val a)).set j (.val b)).set k (.val c)):=rfl
@[simp] theorem b9u (i j k l:Nat) (a b c d:j0):tgD (.tp [i,j,k,l]) ρ (.tuple [a,b,c,d])=some ((((ρ.set i (.val a)).set j (.val b)).set k (.val c)).set l (.val d)):=rfl
end
theorem rC {α:Type} {t:Tg} {fb:SF} (φ:α→j0) (P:Nat→List Ent→Prop):∀ (xs:List α) (i:Nat) (ρ:List Ent),P i ρ →
  (∀ (j:Nat) (x:α) (ρ:List Ent),xs[j]?=some x→P (i+j) ρ→∃ ρ1 ρ2,tgD t ρ (φ x)=some ρ1∧(fb ρ1=some (.nx ρ2)∨fb ρ1=some (.ct ρ2))∧P (i+j+1) ρ2) →
  ∃ ρ',gA t fb (xs.map φ) ρ=some (.nx ρ')∧P (i+xs.length) ρ'
 | [],i,ρ,h,_=>⟨ρ,rfl,by simpa using h⟩
 | x::xs,i,ρ,h,turn=>by
  obtain ⟨ρ1,ρ2,e1,e2,h2⟩:=turn 0 x ρ rfl (by simpa using h)
  obtain ⟨ρ',e3,h3⟩:=rC φ P xs (i+1) ρ2 (by simpa using h2) (fun j y ρ hy hp=>by
   have e:i+1+j=i+(j+1):=by omega
   rw [e] at hp ⊢
   exact turn (j+1) y ρ (by simpa using hy) hp)
  refine ⟨ρ',?_,by rw [qZ,show i+(xs.length+1)=i+1+xs.length by omega];exact h3⟩;rw [qU,gA,e1];dsimp only;rcases e2 with e2 | e2<;>(rw [e2];exact e3)
theorem a8I {α:Type} {t:Tg} {fb:SF} (φ:α→j0) (P:List Ent→Prop) (xs:List α) (ρ:List Ent) (h:P ρ)
  (turn:∀ x∈xs,∀ ρ,P ρ→∃ ρ1 ρ2,tgD t ρ (φ x)=some ρ1∧(fb ρ1=some (.nx ρ2)∨fb ρ1=some (.ct ρ2))∧P ρ2):∃ ρ',gA t fb (xs.map φ) ρ=some (.nx ρ')∧P ρ':=
 rC φ (fun _=>P) xs 0 ρ h fun j x ρ hx hp=>turn x (List.mem_of_getElem? hx) ρ hp
theorem uM {i:Nat} {fa:EF} {ρ:List Ent} {ds:T0j} {d:j0} (h:ρ[i]?=some (.lst ds)) (ha:fa ρ=some (.ok d)) (hz:ds.length≤100000):uN i fa ρ=some (.nx (ρ.set i (.lst (ds++[d])))):=by
 unfold uN;rw [h];dsimp only;rw [iB ha,if_pos (by unfold dO;exact decide_eq_true hz)]
theorem b3d {fa:EF} {ρ:List Ent} {n:Int} (h:fa ρ=some (.ok (.int n))) (h1:-1000000000≤n) (h2:n≤1000000000):a3g fa ρ=some (.ok (sI 0 n.toNat)):=by
 unfold a3g;rw [h];dsimp only;rw [if_pos];simp [a7u];omega
end L2.L3
namespace L2.L3
open PySem PySem.W PyProof.Rows
section
variable {X:Cx} {e:Expr} {fa:EF} {x:Str} {pos:Pos}
def dfE (g:j0→j0→Option j0) (fa fb:EF):EF:=fun ρ=>match fa ρ,fb ρ with
 | some (.ok x),some (.ok y)=>lft (g x y)
 | _,_=>none
theorem b2k {a b:Expr} {fb:EF} {p kp:Pos} (hc:X.calm=true) (hm:X.mg "max" = none) (ha:DE X a fa) (hb:DE X b fb) (he:j4 [a] X.env=(false,eval a X.env)::j4 [] X.env:=by rfl)
  (he':k9 pos (j4 [a] X.env)=(false,eval a X.env)::k9 pos (j4 [] X.env):=by rfl) (hpl:(k9 pos (j4 [a] X.env)).any (·.1)=false:=by rfl)
  (hk1:(yo pos (wu [⟨some "default", b,kp⟩] X.env)).filterMap (·.1)=[jF "default"]:=by rfl) (hg:Gl X "max":=by rfl) :
  DE X (.Call (.Name "max" p) [a] [⟨some "default", b,kp⟩] pos) (dfE a7l fa fb):=yS fun ρ r e=>by
 unfold dfE at e;split at e
 ·rename_i x y ea eb
  obtain ⟨d,ed,rfl⟩:=aZ e;refine ⟨d,rfl,?_⟩;unfold a7l at ed;split at ed
  ·rename_i xs
   split at ed
   ·rename_i ei
    have hx:=cO (g:=jY) (fun d a q=>gS q) ei;subst hx;have key:=a7e (p:=p) (ns:=[]) hc hm (ha.pd ea) (hb.pd eb) he he' hpl hk1 hg;cases (qA ed);exact key
   ·rename_i n ns ei
    have hx:=cO (g:=jY) (fun d a q=>gS q) ei;subst hx;have key:=a7e (p:=p) (ns:=n::ns) hc hm (ha.pd ea) (hb.pd eb) he he' hpl hk1 hg;cases (qA ed);rw [if_neg (by simp)] at key;exact key
   ·cases ed
  ·cases ed
 ·cases e
def b7z (i:Nat) (fa:EF):SF:=fun ρ=>match ρ[i]? with
 | some (.lst ds)=>bns (fa ρ) ρ fun d=>(match uZ d with
  | some es=>if dO (ds.length+es.length) then some (.nx (ρ.set i (.lst (ds++es)))) else none
  | none=>none)
 | _=>none
def b8E (K:qC):V→List V→Hp→VK→Prop:=fun x vs H Q=>∃ l b xs zs,x=.ref l∧vs=[.ref b]∧H l=some (.lst xs)∧(SqL K H b zs∨SqT K H b zs)∧xs.length+zs.length≤j5∧Q .non (upd H l (.lst (xs++zs)))
theorem b3O:MtM X "list.extend" (b8E X.K):=by
 intro pins s σ H x vs v us Q I rx rv h;obtain ⟨l,b,xs,zs,rfl,rfl,hH,hB,hz,q⟩:=h;cases rx;obtain ⟨u,rfl,ru⟩:=rv.one;cases ru;obtain ⟨z,its,n,r,hl,e⟩:=I.lstM hH;obtain ⟨its2,T,o,n2,hT,ho,hc,hd,r2⟩:=pT I hB;have hl2:=r2.length;have hl1:=r.length;have hsz:its.toArray.size+its2.toArray.size≤j5:=by rw [qI,qI];omega
 have hlong:¬(!its.toArray.isEmpty&&va (its.toArray.size+its2.toArray.size))=true:=by
  rw [b0X hsz,Bool.and_false];exact qc
 refine v8 F.slot_list_extend ⟨_,e,rfl⟩ F.entry_list_extend ?_ (F.args_list_extend_2 _ _);show wpAny _ _ (jo (.ref l) (.ref b) .none) _ _ s;unfold jo;refine q8 (yw (T:=T) ⟨o,ho,hc⟩ ?_);rw [if_pos (by rcases hT with rfl | rfl<;>simp)];refine q8 (yu ho hd ?_);refine q8 (yu e rfl ?_);rw [if_neg hlong];refine q8 (w8 e rfl ?_ (by rw [qI];omega) (by rw [Array.size_append];omega));refine j3 ⟨_,rfl,.non,_,I.lset (its':=its++its2) (t':=s.toks) hH e (by simp) (r.append r2) ?_,rfl,q⟩;rw [qh];omega
theorem b4A (i:Nat) {p ap cp:Pos} (h:DE X e fa) (hN:X.N[i]?=some x:=by rfl)
  (hv:Vis X.env.scope x:=by first | exact kC rfl | exact jg (kC rfl) | exact jg (jg rfl)) (hd:(x==("__debug__" : Str))=false:=by decide) (hcd:(x==("__classdict__" : Str))=false:=by decide)
  (hbase:ye (.Name x p) "extend" X.env (eval (.Name x p) X.env)=eval (.Name x p) X.env:=by rfl)
  (hfew:((k9 cp (j4 (e::[]) X.env)).all (fun x=>!x.1)&&(yo cp (wu [] X.env)).all (fun x=>x.1.isSome)&&decide ((e::[]).length+([]:List Keyword).length+(if ([]:List Keyword).isEmpty then 0 else 1)<30))=true:=by rfl)
  (hline:(ap.endLine==cp.line)=true:=by rfl) (hst:j4 (e::[]) X.env=(false,eval e X.env)::j4 [] X.env:=by rfl) (hplain:(k9 cp (j4 [] X.env)).any (·.1)=false:=by rfl)
  (hsw:wz (.Call (.Attribute (.Name x p) "extend" ap) [e] [] cp) none pos.line X.env=pure false:=by rfl) :
  DS X (.Expr (.Call (.Attribute (.Name x p) "extend" ap) [e] [] cp) pos) (b7z i fa):=⟨fun pins s σ H D I ⟨ρ,o,H0,G₀,G,ef,R,q⟩=>
 tM (a4z zJ PySem.F.slot_list_extend PySem.F.type_list_extend b3O (hZ hN hv hd hcd) (dC h.run gG hst) hbase hfew hline hst hplain) hsw pins s σ H D I (by
  unfold b7z at ef;split at ef
  ·rename_i ds hi
   obtain ⟨a,xs,e1,h1,h2,h3,r⟩:=R.own hi;refine ⟨.ref a,e1,.inl ⟨rfl,xs,.of h1⟩,sE R ef q fun d v G1 H1 g1 R1 rv e2 q1=>?_⟩;split at e2
   ·rename_i es he
    split at e2
    ·rename_i hz
     cases (qA e2);obtain ⟨b,zs,rfl,hq,r'⟩:=nM g1.sub he rv;exact ⟨a,_,xs,_,rfl,rfl,g1.hh.lst h1,hq,by rw [r.length,r'.length];exact iC hz,q1 G1 _ σ (.refl _) (R1.wrote hi e1 ((r.mono g1.gg).append r'))⟩
    ·cases e2
   ·cases e2
  ·cases ef)⟩
end
theorem b9e {g:j0→j0→Option j0} {fa fb:EF} {ρ:List Ent} {x y d:j0} (ha:fa ρ=some (.ok x)) (hb:fb ρ=some (.ok y)) (h:g x y=some d):dfE g fa fb ρ=some (.ok d):=by
 unfold dfE;rw [ha,hb];dsimp only;rw [h];rfl
end L2.L3
namespace L2.L3
open PySem PySem.Spec PySem.Calls PyProof.Rows
abbrev b8Z (qual:Str) (params:Arguments) (body:Expr) (scope:Scope) (pm:Value) (c:Addr) (ct:Value):Obj:=vO "<lambda>" qual params body scope [] pm c ct
section
variable {P:Program} {w:World} {K:qC} {mg:T0d} {base:Heap}
theorem b1l {k:Nat} {f c:Addr} {qual x:Str} {params:Arguments} {body:Expr} {scope:Scope} {pm ct u:Value} {fe:EF} {A:Around} {outer:List Env} {s:Shared} {H G:Hp} {v:V} {d kd:j0}
  (hr:Room (k+1) A) (e0:Env0 P w K mg base A outer s H) (ho:s.heap.get? f=some (b8Z qual params body scope pm c ct)) (hcd:s.heap.CodeRec (.ref c) qual) (S:FnScope [x] [x] scope)
  (hb:yy (zy "<lambda>" qual params body scope [] pm (.ref c) ct) ⟨[u],[]⟩=pure [(x,u)])
  (hbody:DE (fcx P w K mg base [x] qual scope f (.ref c) A outer s H E0) body fe)
  (sm:bB G H∧nB K G H) (rep:Rep K G v d) (rel:RelV v u) (hf:fe [.val d]=some (.ok kd)) :
  wx (model P w) A (.call (.ref f) ⟨[u],[]⟩) (CR CX0 outer P w H s (fun v' H'=>∃ G',Grow G H G' H'∧Rep K G' v' kd) E0) s:=by
 have lim:s.heap.NoLimit:=e0.mod.nolimit.keeps fun b o e=>(e0.bs b o e).1;refine PySem.W.kla_callFunE hr.depth ho rfl S.co S.gen rfl hcd ?_;rw [hb];have hkind:∀ y∈[(x,u)],scope.names.lookup y.1=some .local∨(scope.names.lookup y.1=some .cell∧((k8 (s.heap.objs.size+1) scope.names []).lookup y.1).isSome=true):=fun y hy=>by
  obtain rfl:=qQ.mp hy;rcases S.par x (by simp) with q | q
  ·exact .inl q
  ·exact .inr ⟨q,kK _ _ _ (.inl q)⟩
 refine j3 (yb S.kind hkind fun env he s1 xx=>?_);subst he;refine ⟨lim.keeps xx.toInCall.keep,PySem.W.kla_codeExpr ?_⟩;have I:Inv (fcx P w K mg base [x] qual scope f (.ref c) A outer s H E0) [] (start [x] [v]) H s1:=(rD (CX:=CX0) (E:=E0) (us:=[u]) S hr.hd e0 rfl (.cons rel .nil) xx).wish _;have R:RepS K H G G H (start [x] [v]) [.val d]:=fD (N:=[x]) (ds:=[d]) sm (.cons rep .nil);refine v6 (hbody.run [] s1 _ H (fun v' H'=>∃ G',Grow G H G' H'∧Rep K G' v' kd) I ⟨_,_,H,G,G,hf,R,fun v' G' H' g rv=>⟨G',g,rv⟩⟩) (fun u' s' hs=>?_) fun e s' hs=>hs.elim;obtain ⟨v',H',J,rv,q⟩:=hs;exact ⟨v',H',J.os,J.bare,J.base,J.hok,rv,q⟩
end
structure BM (mg:T0d) (base:Heap):Prop where
 ex:∃ bm ob,mg "__builtins__" = some (.ref bm)∧bm≠uf∧bm≠j6∧base.get? bm=some ob∧ob.cls=.type "module" ∧ ob.dict=some uf∧ob.data=.plain
theorem a0t (i j:Int) (t u:Tok) (v:Value):∀ (n:Nat) (l:T0k),l.length≤n→uv l→uv (l++[.int i t,.int j u,v]):=by
 intro n
 induction n with
 | zero=>
  intro l hl _;cases l with
  | nil=>trivial
  | cons a l=>cases hl
 | succ n ih=>
  intro l hl h;unfold uv at h;split at h
  ·trivial
  ·rename_i rest
   have hr:rest.length≤n:=by simp only [qZ] at hl;omega
   exact ih rest hr h
  ·cases h
theorem a2X (l:T0k) (i j:Int) (t u:Tok) (v:Value) (h:uv l):uv (l++[.int i t,.int j u,v]):=a0t i j t u v l.length l (qR _) h
theorem a1y {p:Pos} {c cv:Value} (i j:Int) (t u:Tok):∀ (l:T0k),uv l→u9 p (l++[.int i t,.int j u,c])=some cv→u9 p l=some cv∨cv=c
 | [],_,h=>by
  have h:(if (i==(p.line:Int)&&j==(p.col:Int))=true then some c else none)=some cv:=h;split at h
  ·exact .inr (qA h).symm
  ·cases h
 | .int a _::.int b _::d::r,ht,h=>by
  have h:(if (a==(p.line:Int)&&b==(p.col:Int))=true then some d else u9 p (r++[.int i t,.int j u,c]))=some cv:=h;show (if (a==(p.line:Int)&&b==(p.col:Int))=true then some d else u9 p r)=some cv∨_;split at h
  ·rename_i hc;rw [if_pos hc];exact .inl h
  ·rename_i hc;rw [if_neg hc];exact a1y i j t u r ht h
section
variable {X:Cx} {pins:T0b} {σ:St} {H H0 G₀ G:Hp} {s:Shared} {ρ:List Ent}
theorem a4T {x:Str} {cl:T0f} {c P:Addr} {params:Arguments} {body:Expr} {scope:Scope} {pos:Pos} {E:T0a} {Q:T0a} (hx:x∈dX) (ht:jM X.K x=some (c,P)) (hc:X.env.code=.ref c)
  (hq:X.env.qual ++ "<lambda>" = lamQ x) (C:jl X.K c P=true) (M:BM X.mg X.base) (hdef:defaultsOf params X.env=([],[])) (hcl:QE scope X.env=pure cl) (I:Inv X pins σ H s) (R:RepS X.K H0 G₀ G H σ ρ)
  (h:∀ f c' ct pm H' s',Inv X pins σ H' s'→Grow G H G H'→s'.heap.get? f=some (vO "<lambda>" (lamQ x) params body scope cl pm c' ct)→H' f=none→s.heap.objs.size≤f→H' c'=some (cdO c' (lamQ x))→Q (.ref f) s') :
  wpAny (model X.prog X.w) X.A (eval (.Lambda params body scope pos) X.env) Q E s:=by
 refine PySem.W.kla_eval hdef ?_;rw [hq];have hTab:=R.tab.1 x hx c P ht;generalize lamQ x=q at hTab h ⊢;obtain ⟨ps,hP,hT,hA⟩:=hTab;have hPo:s.heap.get? P=some (vh ps):=I.hok P _ hP;have C0:PySem.W.CodeHd s.heap c P:=PySem.W.codeHd_of_K I.kIn C;have hg:s.heap.Ns j6 X.mg:=I.mod.glob.keeps I.bk;have hgP:j6≠P:=fun z=>by
  obtain ⟨o,es,ep,e,hd,_⟩:=hg;rw [z,hPo] at e;cases e;cases hd
 have hB:s.heap.BuiltinsAt X.mg P:=by
  obtain ⟨bm,ob,b1,b2,b3,b4,b5,b6,b7⟩:=M.ex;refine ⟨bm,ob,b1,b2,b3,fun z=>?_,I.bk _ _ b4,b5,b6,b7⟩;have e:=I.bk _ _ b4;rw [z,hPo] at e;cases e;cases b5
 cases hm:u9 pos ps.toList with
 | some cv=>
  obtain ⟨c',rfl,hc'⟩:=hA pos cv hm;refine PySem.W.kla_makeFunctionHit hcl I.ok.glob hg hc C0 hPo hT hm hB fun ct h' tk kp sz=>?_;exact h _ c' ct _ H _ (I.kept fun b o e=>qB _ (kp b o e)) (.refl R.sub) (qJ _ rfl) (I.hok.fresh sz) sz hc'
 | none=>
  refine PySem.W.kla_makeFunction hcl I.ok.glob hg hc C0 hPo hT hm hgP hB fun c' ct h' tk ex ge lt rc tb=>?_;have hf:H c'=none:=I.hok.fresh ge;have cP:c'≠P:=fun z=>by rw [z,hP] at hf;cases hf
  have lP:P≠X.env.locals:=fun z=>by have:=I.free;rw [←z,hP] at this;cases this
  -- the heap beside the table
  have kp:∀ b o,b≠P→s.heap.get? b=some o→(h'.push (vO "<lambda>" q params body scope cl ((X.mg "__name__").getD .none) c' ct)).get? b=some o:=fun b o n e=>qB _ (ex b o n e);have hsz:s.heap.objs.size≤h'.objs.size:=ql ge (qv lt);have H1:∀ b,b≠P→b≠c'→upd (upd H P (.tbl (q,ps++#[v7 pos.line,v7 pos.col,.ref c']))) c' (cdO c' (q)) b=H b:=fun b n1 n2=>by rw [aF n2,aF n1]
  have HP:upd (upd H P (.tbl (q,ps++#[v7 pos.line,v7 pos.col,.ref c']))) c' (cdO c' (q)) P=some (.tbl (q,ps++#[v7 pos.line,v7 pos.col,.ref c'])):=by rw [aF (jm cP),aL]
  have nb:∀ b o,s.heap.get? b=some o→b≠c':=fun b o e=>qa (qT (qG e) ge);have nH:∀ b o,H b=some o→b≠c':=fun b o e z=>by rw [z,hf] at e;cases e
  have nP:∀ b,H b=none→b≠P:=fun b e z=>by rw [z,hP] at e;cases e
  have hsm:Sm H (upd (upd H P (.tbl (q,ps++#[v7 pos.line,v7 pos.col,.ref c']))) c' (cdO c' (q))):=by
   refine ⟨fun b o e n=>?_,fun b p e=>?_,fun P' q' t=>?_⟩
   ·rw [H1 b (fun z=>by rw [z,hP] at e;cases e;exact n _ rfl) (nH b o e)];exact e
   ·by_cases z:b=P
    ·rw [z];exact ⟨_,HP⟩
    ·exact ⟨p,by rw [H1 b z (nH b _ e)];exact e⟩
   ·obtain ⟨ps',g1,g2,g3⟩:=t
    have old:∀ d o,H d=some (cdO d o)→upd (upd H P (.tbl (q,ps++#[v7 pos.line,v7 pos.col,.ref c']))) c' (cdO c' (q)) d=some (cdO d o):=fun d o e=>by
     rw [H1 d (fun z=>by rw [z,hP] at e;unfold cdO at e;cases e) (nH d _ e)];exact e
    by_cases z:P'=P
    ·subst z
     rw [hP] at g1;cases g1;refine ⟨_,HP,?_,fun p cv e=>?_⟩
     ·rw [Array.toList_append];exact a2X _ _ _ _ _ _ g2
     ·rw [Array.toList_append] at e
      rcases a1y _ _ _ _ _ g2 e with e | rfl
      ·obtain ⟨d,e1,e2⟩:=g3 p cv e
       exact ⟨d,e1,old d _ e2⟩
      ·exact ⟨c',rfl,aL⟩
    ·refine ⟨ps',by rw [H1 P' z (nH P' _ g1)];exact g1,g2,fun p cv e=>?_⟩
     obtain ⟨d,e1,e2⟩:=g3 p cv e;exact ⟨d,e1,old d _ e2⟩
  have gw:Grow G H G (upd (upd H P (.tbl (q,ps++#[v7 pos.line,v7 pos.col,.ref c']))) c' (cdO c' (q))):=by
   refine ⟨.refl _,hsm,fun b o e=>?_,fun _ e _=>e,id⟩;rw [H1 b (fun z=>by have:=R.sub b o e;rw [z,hP] at this;cases this;exact R.tab.2 _ _ e) (nH b o (R.sub b o e))];exact R.sub b o e
  refine h h'.objs.size c' ct _ _ _ (I.step (ch:=[]) (g':=s.gens) (d':=s.drawn) (t':=tk) (h':=h'.push (vO "<lambda>" q params body scope cl ((X.mg "__name__").getD .none) c' ct)) (fun _ z=>nomatch z) (fun b o _ _ _ e n=>kp b o (nP b n) e) (fun b o _ _ _ e n=>⟨o.slots,kp b o (nP b n) e⟩)
   (fun b o _ e n=>by rw [H1 b (nP b n) (nb b o e)];exact n) (fun b o _ e=>?_) (fun b xs e=>by rw [H1 b (fZ e hP (by nofun)) (nH b _ e)];exact e) (fun b o u e=>by rw [H1 b (fZ e hP (by nofun)) (nH b _ e)];exact e) (fun b p e=>?_) (fun m hn=>(hn.extBut ex (jm lP)).push _) (fun b u e=>?_) I.bare) gw (qJ _ rfl) ?_ hsz aL
  ·by_cases z:b=P
   ·rw [z];exact ⟨_,qB _ tb⟩
   ·exact ⟨o,kp b o z e⟩
  ·by_cases z:b=P
   ·subst z
    rw [hP] at e;cases e;exact ⟨#[v7 pos.line,v7 pos.col,.ref c'],HP⟩
   ·exact ⟨#[],by rw [H1 b z (nH b _ e),e];simp⟩
  ·by_cases z:b=c'
   ·subst z
    rw [aL] at e;cases e;obtain ⟨c2,o2,vs,t,e1,e2,e3,e4⟩:=rc;cases e1;exact ⟨⟨_,o2,vs,t,rfl,qB _ e2,e3,e4⟩,⟨o2,qB _ e2⟩,fun h1 h2 ⟨c3,o3,vs3,t3,g1,g2,g3,g4⟩ k=>by cases g1;exact ⟨_,o3,vs3,t3,rfl,k _ g2,g3,g4⟩⟩
   ·by_cases z2:b=P
    ·subst z2
     rw [HP] at e;cases e;exact qB _ tb
    ·rw [H1 b z2 z] at e
     refine (I.hok b u e).stay (fun b' u' hb' e'=>kp b' u' (fun y=>?_) e') (fun b' e'=>by rw [H1 b' (fZ e' hP (by nofun)) (nH b' _ e')];exact e') fun b' xs e'=>by rw [H1 b' (fZ e' hP (by nofun)) (nH b' _ e')];exact e'
     rcases hb' with y' | y'
     ·exact z2 (y'.symm.trans y)
     ·rw [y,hP] at y';cases y'
  ·have:=jc lt
   rw [H1 _ (fun z=>absurd (qG hPo) (by rw [←z];exact vK hsz)) this];exact I.hok.fresh hsz
end
end L2.L3
namespace L2.L3
open PySem PySem.W PyProof.Rows PySem.Calls
section
variable {prog:Program} {w:World} {A:Around} {E:T0a} {s:Shared}
theorem a4V {kS a:Addr} {oa:Obj} {vs:T0k} {J:List Value→Shared→Prop} {body:Value→PUnit→Sem (ForInStep PUnit)} (h64:vs.length<64)
  (hb:∀ x ks e (s:Shared),ks.length<64→vs[ks.length]?=some x→s.heap.get? kS=some (k7 "list" (zU ks) e)→s.heap.get? a=some oa→J ks s →
   wpAny (model prog w) A (body x ⟨⟩) (fun r s'=>r=.yield ⟨⟩∧∃ k c,s'.heap.get? kS=some (k7 "list" (zU (ks++[k])) c)∧s'.heap.get? a=some oa∧J (ks++[k]) s') E s) :
  ∀ (r ks:T0k) (e:Nat) (s:Shared),vs=(vs.take ks.length)++r→ks.length+r.length=vs.length→s.heap.get? kS=some (k7 "list" (zU ks) e)→s.heap.get? a=some oa→J ks s →
   wpAny (model prog w) A (forIn r PUnit.unit body) (fun _ s'=>∃ ks e,s'.heap.get? kS=some (k7 "list" (zU ks) e)∧s'.heap.get? a=some oa∧ks.length=vs.length∧J ks s') E s
 | [],ks,e,s,hv,hl,hk,ha,hJ=>by
  rw [List.forIn_nil];exact j3 ⟨ks,e,hk,ha,by simpa using hl,hJ⟩
 | x::r,ks,e,s,hv,hl,hk,ha,hJ=>by
  rw [qZ] at hl;rw [vT];have hx:vs[ks.length]?=some x:=by
   rw [hv,jV (by rw [jZ];omega),jZ];rw [show ks.length - min ks.length vs.length=0 by omega];rfl
  refine q8 (v6 (hb x ks e s (by omega) hx hk ha hJ) (fun q s' hq=>?_) fun _ _ x=>x);obtain ⟨rfl,k,c,hk',ha',h2⟩:=hq;show wpAny (model prog w) A (forIn r PUnit.unit body) _ E s';refine a4V h64 hb r (ks++[k]) c s' ?_ (by rw [qh,jD];omega) hk' ha' h2;rw [qh,jD];have e1:vs.take (ks.length+1)=vs.take ks.length++[x]:=by rw [vi,hx];rfl
  rw [e1,jU];exact hv
theorem b1m {kS a:Addr} {f:Value} {e1:Nat} {vs:T0k} {kds:T0j} {k:Bool} {g:List Bool} {J:List Value→Shared→Prop} {P:PySem.Fin→Shared→Prop} (hka:kS≠a) (hk:s.heap.get? kS=some (k7 "list" #[] 0)) (ha:s.heap.get? a=some (k7 "list" #[] e1)) (h64:vs.length<64)
  (hs:∀ d∈kds,bN (k::g) d=true) (hlen:kds.length=vs.length) (hJ:J [] s)
  (mono:∀ ks s h',J ks s→(∀ b,b≠kS→h'.get? b=s.heap.get? b)→h'.objs.size=s.heap.objs.size→(∃ o,h'.get? kS=some o)→J ks { s with heap:=h' })
  (step:∀ ks s x,vs[ks.length]?=some x→J ks s→wpAny (model prog w) A (call f [x]) (fun k s'=>J (ks++[k]) s'∧s'.heap.get? a=s.heap.get? a∧s'.heap.get? kS=s.heap.get? kS) (fun _ _=>False) s)
  (fin:∀ ks s,ks.length=vs.length→J ks s→Rows s.heap ks kds)
  (h:∀ (p:Array Nat) ks s' h',ST.Pm kds.length p→(p.toList.map fun i=>kds.getD i .none)=sB kds→J ks s'→(∀ b,b≠kS→b≠a→h'.get? b=s'.heap.get? b)→h'.objs.size=s'.heap.objs.size →
   (∃ c,h'.get? a=some (k7 "list" (p.toList.map fun i=>vs.getD i .none).toArray c))→P (.done (.ret .none)) { s' with heap:=h' }) :
  wpAny (model prog w) A (ksk_rest a f false vs.toArray e1 (.ref kS)) P E s:=by
 unfold ksk_rest;refine q8 (ww ?_)
 first
  | rw [List.forIn_toArray]
  | (rw [←Array.forIn_toList];simp only [ky])
  | rw [←Array.forIn_toList]
 refine q8 (v6 (a4V (J:=J) (oa:=k7 "list" #[] e1) (a:=a) (kS:=kS) h64 (fun x ks e s' hz hx hk' ha' hj=>?_) vs [] 0 s (by simp) (by simp) hk ha hJ) (fun _ s' hd=>?_) fun _ _ x=>x)
 ·refine q8 (w9 (v6 (step ks s' x hx hj) (fun kv s'' hq=>?_) fun _ _ hF=>hF.elim))
  obtain ⟨j2,a2,k2⟩:=hq;rw [hk'] at k2;rw [ha'] at a2;have s1:=jz s''.heap kS (qy (·.push kv));have ea:(zU ks).push kv=zU (ks++[kv]):=by simp
  obtain ⟨c2,hc2⟩:∃ c2,(s''.heap.update kS (qy (·.push kv))).get? kS=some (k7 "list" (zU (ks++[kv])) c2):=⟨_,by rw [←ea];exact yp k2 (·.push kv)⟩
  try dsimp only
  refine q8 (w8 k2 rfl ?_ (by rw [qI,wo];omega) (ql (Nat.le_of_eq (Array.size_push ..)) (by rw [qI,wo];omega)));exact j3 ⟨rfl,kv,c2,hc2,(s1.2 a hka.symm).trans a2,mono _ _ _ j2 (fun b hb=>s1.2 b hb) s1.1 ⟨_,hc2⟩⟩
 ·obtain ⟨ks,e,hk',ha',hl,hj⟩:=hd
  try dsimp only
  refine q8 (yu hk' rfl ?_);have rd:=fin ks s' hl hj
  -- the end: the keys' list is emptied,the list is filled
  have tail:∀ (st:SortSt) (p:Array Nat),(arrOf st).map (·.2)=(p.toList.map fun i=>vs.getD i .none).toArray→failedOf st=none→ST.Pm kds.length p→(p.toList.map fun i=>kds.getD i .none)=sB kds →
    wpAny (model prog w) A (ksk_tail a false e1 (.ref kS) st) P E s':=by
   intro st p hout hf hP hS;have s1:=jz s'.heap kS (qy fun _=>(#[]:Array Value));have na:(s'.heap.update kS (qy fun _=>(#[]:Array Value))).get? a=some (k7 "list" #[] e1):=(s1.2 a hka.symm).trans ha';have s2:=jz (s'.heap.update kS (qy fun _=>(#[]:Array Value))) a (qy fun _=>(p.toList.map fun i=>vs.getD i jH).toArray);unfold ksk_tail
   try dsimp only
   rw [hout];refine q8 (w8 hk' rfl ?_ (by rw [qI,wo];omega) (jR _));refine q8 (yt ?_);refine q8 (u0 na rfl ?_);refine q8 (w8 na rfl ?_ (jR _) (by rw [if_neg (by decide),qI,qE,qN,hP.size,wo];omega));rw [hf];simp only [bne_self_eq_false,jX,if_false];refine j3 (h p ks s' _ hP hS hj (fun b h1 h2=>(s2.2 b h2).trans (s1.2 b h1)) (s2.1.trans s1.1) ⟨_,yp na fun _=>(p.toList.map fun i=>vs.getD i jH).toArray⟩)
  unfold ksk_end
  try dsimp only
  simp only [jX,if_false];by_cases h2:vs.toArray.size<2
  ·rw [if_pos h2,if_pos h2]
   refine q8 (j3 ?_);rw [StateT.run_pure];refine q8 (j3 ?_);have hsz:vs.toArray.size=vs.length:=by simp
   have hpm:ST.Pm kds.length (qi vs.length).toArray:=by rw [hlen];exact ⟨by simp,Array.Perm.refl _⟩
   refine tail _ (qi vs.length).toArray ?_ rfl hpm (oA hs hpm (fun i j hij hj=>by rw [show i=j by omega];exact jj _));show (ks.toArray.zip vs.toArray).map (·.2)=_;apply wU.mp;have e:(qi vs.length).map (fun i=>vs.getD i jH)=vs:=by
    refine wT (by simp) fun i h1 h2=>?_;simp [qd,h2]
   simp only [ky,e,Array.toList_map,Array.toList_zip];rw [List.map_snd_zip (by omega)]
  ·rw [if_neg h2,if_neg h2]
   have hsz:vs.toArray.size=vs.length:=by simp
   refine q8 (a1Z (s:=s') rd hs (by omega) ?_);have hq:=ST.h_sort (r:=rk kds) (n:=vs.length) (by omega)
   refine q8 (v6 (kat_run (κ:=tuples' true) (ks:=ks) (vs:=vs) (s:=s') (G:=fun p s2=>s2=s'∧ST.Pm vs.length p∧ST.Up (rk kds) p vs.length)
    (Q:=fun st' s2=>∃ p:Array Nat,arrOf st'=p.map (kas_item (ks.toArray.zip vs.toArray))∧failedOf st'=none∧s2=s'∧ST.Pm vs.length p∧ST.Up (rk kds) p vs.length)
    hl (by omega) h64 (fun p' st' s2 a1 a2 a3 a4=>⟨p',a2,a3,a4⟩)
    (ST.wp_run (n:=vs.length) (lt:=ST.ltr (rk kds)) (fun i j C hi hj hC=>?_) _ hq.1 ⟨rfl,hq.2⟩)) ?_ fun _ _ e=>e)
   ·obtain ⟨as,ri⟩:=rd.at i (by omega)
    obtain ⟨bs,rj⟩:=rd.at j (by omega);have mi:kds.getD i .none∈kds:=by rw [qd,qK (by omega)];exact ja (by omega)
    have mj:kds.getD j .none∈kds:=by rw [qd,qK (by omega)];exact ja (by omega)
    refine b0t ri rj (hs _ mi) (hs _ mj) ?_;rw [b0u hs (by omega) (by omega)];exact hC
   ·rintro ⟨⟨⟩,st'⟩ s2 ⟨p,har,hf,rfl,hP,hU⟩
    dsimp only;rw [←hlen] at hP hU;exact tail st' p (kat_snds hl har) hf hP (oA hs hP hU)
end
section
variable {prog:Program} {w:World} {A:Around} {E:T0a} {s:Shared}
theorem a5J {l q:Addr} {T:String} {o:Obj} {vs:T0k} {n:Nat} {Q:T0a} (hT:T = "list" ∨ T = "tuple") (ho:s.heap.get? l=some o) (hc:o.cls=.type T) (hd:o.data=.seq vs.toArray n) (h64:vs.length<64)
  (h:∀ (a kS:Addr) (e1:Nat) (h':Heap) (P:PySem.Fin→Shared→Prop) (E':T0a),(∀ s',Q (.ref a) s'→P (.done (.ret .none)) s')→s.heap.objs.size≤a→a<kS→(∀ b o,s.heap.get? b=some o→h'.get? b=some o) →
   h'.get? kS=some (k7 "list" #[] 0)→h'.get? a=some (k7 "list" #[] e1)→wpAny (model prog w) A.in1.in1 (ksk_rest a (.ref q) false vs.toArray e1 (.ref kS)) P E' { s with heap:=h' }) :
  wpAny (model prog w) A (call (.builtin "sorted") [.ref l] [(jF "key", .ref q)]) Q E s:=by
 refine call_function_entry_kw kind_sorted plain_sorted entry_sorted (ksk_s1 _ _) ?_;unfold Builtin.«sorted»;refine q8 (m:=checkCount "sorted" 1 1 _) (j3 ?_);refine q8 (rV hT ho hc hd (by rw [wo];omega) fun h1 kp up=>?_);refine q8 (um ?_ (by rw [wo];omega));have hoL:(h1.push (k7 "list" vs.toArray 0)).get? h1.objs.size=some (k7 "list" vs.toArray 0):=qJ _ rfl;have keep:∀ b o,s.heap.get? b=some o→b≠h1.objs.size∧(h1.push (k7 "list" vs.toArray 0)).get? b=some o:=fun b o q=>⟨qa (qG (kp _ _ q)),qB _ (kp _ _ q)⟩;show wpAny _ _ _ _ _ { s with heap:=h1.push (k7 "list" vs.toArray 0) };refine q8 (j9 (wpAny_call_entry_kw slot_list_sort ⟨_,hoL,rfl⟩ entry_list_sort ?body (ksk_l1 _ _)))
 case body=>
  show wpAny (model prog w) A.in1.in1 (Builtin.«list.sort» ⟨[.ref h1.objs.size],[(jF "key", .ref q)]⟩) _ _ _;rw [ksk_t1];unfold ksk_tree;obtain ⟨e1,ho1⟩:∃ e1,((h1.push (k7 "list" vs.toArray 0)).update h1.objs.size (qy fun _=>(#[]:Array Value))).get? h1.objs.size=some (k7 "list" #[] e1):=⟨_,yp hoL fun _=>#[]⟩;refine q8 (yu hoL rfl ?_);refine q8 (w8 hoL rfl ?_ (by rw [qI,wo];omega) (jR _));refine q8 (u0 ho1 rfl ?_);refine q8 (wpAny_newTuple ?_ (by show vs.length≤_;rw [wo];omega));refine q8 (um ?_ (jR _));refine j9 ?_;refine h h1.objs.size (((h1.push (k7 "list" vs.toArray 0)).update h1.objs.size (qy fun _=>(#[]:Array Value))).push (k7 "tuple" vs.toArray 0)).objs.size e1 ((((h1.push (k7 "list" vs.toArray 0)).update h1.objs.size (qy fun _=>(#[]:Array Value))).push (k7 "tuple" vs.toArray 0)).push (k7 "list" #[] 0)) _ _ (fun s' hq=>⟨_,rfl,j3 ⟨_,rfl,hq⟩⟩) up ?_ (fun b o e=>?_) (qJ _ rfl) (qB _ (qB _ ho1))
  ·rw [size_push',vj,size_push'];exact jp (zV _)
  ·obtain ⟨hb,hq⟩:=keep b o e
   refine qB _ (qB _ ?_);rw [zN _ _ _ _ hb];exact hq
end
end L2.L3
namespace L2.L3
open PySem PySem.Spec PySem.Calls PyProof.Rows
def yK (fe:EF):List j0→Option (List j0)
 | []=>some []
 | d::r=>match fe [.val d] with
  | some (.ok k)=>(yK fe r).map (k::·)
  | _=>none
def keyOk (ks:T0j):Bool:=match ks with
 | []=>true
 | x::xs=>(match a8l x with
  | some (k::g)=>(x::xs).all (bN (k::g))
  | _=>false)
def ixK (k:j0) (ks:T0j):Nat:=ks.findIdx fun k'=>!ltT k k'&&!ltT k' k
def a8i (ds ks:T0j):Option (List j0):=
 if (qi ks.length).all (fun i=>ixK (ks.getD i .none) ks==i) then some ((sB ks).map fun k=>ds.getD (ixK k ks) .none) else none
def uX (fe:EF) (ds:T0j):Option j0:=match yK fe ds with
 | some ks=>if keyOk ks&&decide (ks.length<64) then (a8i ds ks).map .list else none
 | none=>none
def uW (fa fe:EF):EF:=fun ρ=>match fa ρ with
 | some (.ok x)=>lft ((uZ x).bind (uX fe))
 | _=>none
theorem a2s {fe:EF}:∀ {ds ks:T0j},yK fe ds=some ks→ks.length=ds.length
 | [],ks,h=>by cases h;rfl
 | d::r,ks,h=>by
  unfold yK at h;split at h
  ·obtain ⟨l,e1,rfl⟩:=qO.mp h
   simp [a2s e1]
  ·cases h
theorem a4U {fe:EF}:∀ {ds ks:T0j} {i:Nat} {d:j0},yK fe ds=some ks→ds[i]?=some d→∃ k,ks[i]?=some k∧fe [.val d]=some (.ok k)
 | [],ks,i,d,h,e=>by simp at e
 | d'::r,ks,i,d,h,e=>by
  unfold yK at h;split at h
  ·rename_i k ek
   obtain ⟨l,e1,rfl⟩:=qO.mp h;cases i with
   | zero=>simp at e;subst e;exact ⟨k,rfl,ek⟩
   | succ i=>
    have e':r[i]?=some d:=by simpa using e
    exact a4U (ks:=l) e1 e'
  ·cases h
theorem a8P {ks:T0j} (h:keyOk ks=true):∃ k g,∀ d∈ks,bN (k::g) d=true:=by
 unfold keyOk at h;split at h
 ·exact ⟨true,[],fun d hd=>by cases hd⟩
 ·split at h
  ·rename_i k g _;exact ⟨k,g,fun d hd=>qk.mp h d hd⟩
  ·cases h
theorem a8h {ds ks out:T0j} {p:T0r} (h:a8i ds ks=some out) (hp:∀ i∈p,i<ks.length) (e:(p.map fun i=>ks.getD i .none)=sB ks):out=p.map fun i=>ds.getD i .none:=by
 unfold a8i at h;split at h
 ·rename_i hc
  cases (qA h);rw [←e,qP];refine jq fun i hi=>?_;have:=qk.mp hc i (kr.mpr (hp i hi));show ds.getD (ixK (ks.getD i .none) ks) .none=_;rw [beq_iff_eq.mp this]
 ·cases h
section
variable {X:Cx} {pins:T0b} {σ:St} {H H0 G₀ G:Hp} {s:Shared} {ρ:List Ent}
structure KJ (X:Cx) (pins:T0b) (σ:St) (G H:Hp) (N:Nat) (f c a kS:Addr) (qual:Str) (params:Arguments) (body:Expr) (scope:Scope) (pm ct:Value) (kds:T0j) (ks:T0k) (s:Shared):Prop where
 ex:∃ G' H' kvs,Inv X pins σ H' s∧Grow G H G' H'∧nB X.K G' H'∧RepAll X.K G' kvs (kds.take ks.length)∧aY kvs ks∧H' f=none∧H' a=none∧H' kS=none
 fo:s.heap.get? f=some (b8Z qual params body scope pm c ct)
 oa:∃ o,s.heap.get? a=some o
 okk:∃ o,s.heap.get? kS=some o
theorem a1b {N:Nat} {h':Heap} {ch:T0m} {s0:Shared} {H0:Hp} (I0:Inv X pins σ H0 s0) (I:Inv X pins σ H s) (hch:∀ b∈ch,s0.heap.objs.size≤b∧H b=none) (same:∀ b,b∉ch→h'.get? b=s.heap.get? b) :
  Inv X pins σ H { s with heap:=h' }:=by
 have nt:∀ b u,H b=some u→b∉ch:=fun b u e z=>by rw [(hch b z).2] at e;cases e
 have lt:∀ b∈ch,∀ d,d<s0.heap.objs.size→d≠b:=fun b hb d hd z=>absurd (hch b hb).1 (by rw [←z];exact Nat.not_le_of_lt hd);refine I.step (ch:=ch) (g':=s.gens) (d':=s.drawn) (t':=s.toks) (h':=h') (fun b hb=>⟨.inr (ql I0.sz (hch b hb).1),fun z=>lt b hb _ I0.lt z.symm,fun x c e=>lt b hb c (by obtain ⟨v,q⟩:=I0.cell x c e;exact q.lt),fun p hp=>lt b hb p.1 (qG (I0.pin p hp).1)⟩)
  (fun b o _ _ hc e n=>(same b hc).trans e) (fun b o _ _ hc e n=>⟨o.slots,(same b hc).trans e⟩) (fun b o _ _ n=>n) (fun b o hc e=>⟨o,(same b hc).trans e⟩) (fun _ _ e=>e) (fun _ _ _ e=>e) (fun b ps e=>⟨#[],by rw [e];simp⟩) (fun m ⟨o,es,ep,e,r⟩=>⟨o,es,ep,(same _ fun z=>lt _ z _ I0.lt rfl).trans e,r⟩)
  (fun b u e=>(I.hok b u e).stay (fun b' u' hb' e'=>(same b' ?_).trans e') (fun _ z=>z) fun _ _ z=>z) I.bare
 rcases hb' with rfl | z
 ·exact nt _ _ e
 ·exact nt _ _ z
theorem a8U {a:Addr} {o:HO} {s0:Shared} {H0:Hp} (I0:Inv X pins σ H0 s0) (I:Inv X pins σ H s) (ha:s0.heap.objs.size≤a) (hn:H a=none) (new:cW X.prog X.w (upd H a o) s.heap a o):Inv X pins σ (upd H a o) s:=by
 have lt:∀ d,d<s0.heap.objs.size→d≠a:=fun d hd z=>absurd ha (by rw [←z];exact Nat.not_le_of_lt hd);have nt:∀ b u,H b=some u→b≠a:=fun b u e z=>by rw [z,hn] at e;cases e
 refine I.step (ch:=[a]) (g':=s.gens) (d':=s.drawn) (t':=s.toks) (h':=s.heap) (fun b hb=>?_) (fun b o _ _ hc e n=>e) (fun b o _ _ hc e n=>⟨o.slots,e⟩) (fun b o hc e n=>by rw [aF (by simpa using hc)];exact n) (fun b o hc e=>⟨o,e⟩)
  (fun b xs e=>by rw [aF (nt b _ e)];exact e) (fun b o u e=>by rw [aF (nt b _ e)];exact e) (fun b ps e=>⟨#[],by rw [aF (nt b _ e),e];simp⟩) (fun m h=>h) (fun b u e=>?_) I.bare
 ·obtain rfl:=qQ.mp hb
  exact ⟨.inr (ql I0.sz ha),fun z=>lt _ I0.lt z.symm,fun x c e=>lt c (by obtain ⟨v,q⟩:=I0.cell x c e;exact q.lt),fun p hp=>lt p.1 (qG (I0.pin p hp).1)⟩
 ·by_cases z:b=a
  ·subst z;rw [aL] at e;cases e;exact new
  ·rw [aF z] at e
   exact (I.hok b u e).stay (fun _ _ _ e'=>e') (fun b' e'=>by rw [aF (nt b' _ e')];exact e') fun b' xs e'=>by rw [aF (nt b' _ e')];exact e'
theorem a3p (I:Inv X pins σ H s) {b:Addr} (h:s.heap.objs.size≤b):b∉frs X.stack:=fun z=>by
 rcases qF.mp (I.stkSub b z) with e | e
 ·exact absurd I.lt (by rw [←e];exact vK h)
 ·exact I.nofs h e
theorem a5o {k:Nat} {x y:Str} {c P:Addr} {params:Arguments} {body a:Expr} {scope:Scope} {lp kp p pos:Pos} {fa fe:EF} (hx:x∈dX) (ht:jM X.K x=some (c,P)) (hcode:X.env.code=.ref c)
  (hq:X.env.qual ++ "<lambda>" = lamQ x) (C:jl X.K c P=true) (M:BM X.mg X.base) (hr:Room (k+3) X.A) (hm:X.mg "sorted" = none) (ha:DE X a fa) (S:FnScope [y] [y] scope)
  (hbody:∀ (f c:Addr) (A:Around) (outer:List Env) (s:Shared) (H:Hp),Room k (A.deeper (yn (lamQ x) scope s.heap.objs.size f (.ref c)))→DE (fcx X.prog X.w X.K X.mg X.base [y] (lamQ x) scope f (.ref c) A outer s H E0) body fe)
  (hbind:∀ (pm ct u:Value) (c:Addr),yy (zy "<lambda>" (lamQ x) params body scope [] pm (.ref c) ct) ⟨[u],[]⟩=pure [(y,u)]:=by intros;rfl)
  (hdef:defaultsOf params X.env=([],[]):=by rfl) (hcl:QE scope X.env=pure []:=by rfl)
  (he:j4 [a] X.env=(false,eval a X.env)::j4 [] X.env:=by rfl)
  (he':k9 pos (j4 [a] X.env)=(false,eval a X.env)::k9 pos (j4 [] X.env):=by rfl) (hpl:(k9 pos (j4 [a] X.env)).any (·.1)=false:=by rfl)
  (hk1:(yo pos (wu [⟨some "key", .Lambda params body scope lp,kp⟩] X.env)).filterMap (·.1)=[jF "key"]:=by rfl) (hg:Gl X "sorted":=by rfl) :
  DE X (.Call (.Name "sorted" p) [a] [⟨some "key", .Lambda params body scope lp,kp⟩] pos) (uW fa fe):=⟨fun pins s σ H Q I ⟨ρ,r,H0,G₀,G,ef,R,q⟩=>by
 unfold uW at ef;refine v0 (mM I hg hm (by rfl:wm "sorted" = some (.builtin "sorted")) ?_ (by decide) (by decide));split at ef
 ·rename_i d e1
  obtain ⟨out0,e3,rfl⟩:=aZ ef;obtain ⟨ds,e4,e5⟩:=Option.bind_eq_some_iff.mp e3;unfold uX at e5;split at e5
  ·rename_i kds ek
   split at e5
   ·rename_i hok
    rw [qM] at hok;obtain ⟨out,e6,rfl⟩:=qO.mp e5;obtain ⟨kk,gg,hs⟩:=a8P hok.1;have k64:=of_decide_eq_true hok.2;have kl:=a2s ek;refine callWith_kw (thn ((eN (ha.pd e1) lR he).run H0 G₀ G pos pins s σ H (fun vs H'=>∃ G',Grow G H G' H'∧RepAll X.K G' vs [d]) I R fun vs G' H' g r=>⟨G',g,r⟩) fun us s1 ⟨vs,H1,I1,r1,G1,g1,w1⟩=>?_) he' hpl;show wpAny _ _ (evalAll ((do let v ←eval (.Lambda params body scope lp) X.env;standAt pos;pure v)::[])) _ _ s1;refine wpAny_evalAll_cons (q8 (a4T hx ht hcode hq C M hdef hcl I1 (R.more g1) fun f c' ct pm H2 s2 I2 g2 fo Hf sf hc'=>q8 (yf (j3 (j3 ?_)))));rw [hk1];cases w1 with | cons wa wn=>
    cases wn;obtain ⟨u,rfl,ru⟩:=vals1 r1;obtain ⟨l,ivs,rfl,hsq,ri⟩:=nM g2.sub e4 wa;cases ru;obtain ⟨its,T,o,n,hT,ho,hc,hd,rv⟩:=pT I2 hsq;have l1:=ri.len;have l2:=rv.length;have tb2:nB X.K G1 H2:=((R.more g1).more g2).tab;have nf:f∉frs X.stack:=a3p I1 sf;refine a5J hT ho hc hd (by omega) fun a kS e1' h' Pn E' hP ga gk kp' hk0 ha0=>?_;have gk':s2.heap.objs.size≤kS:=ql ga (qv gk);have na:a∉frs X.stack:=a3p I2 ga;have nk:kS∉frs X.stack:=a3p I2 gk';refine b1m (J:=KJ X pins σ G1 H2 0 f c' a kS (lamQ x) params body scope pm ct kds) (kds:=kds) (jc gk) hk0 ha0 (by omega) hs (by omega) ?start ?mono ?step ?fin ?done
    case start=>exact ⟨⟨G1,H2,[],I2.kept (t':=s2.toks) kp',.refl g2.sub,tb2,.nil,.nil,Hf,I2.hok.fresh ga,I2.hok.fresh gk'⟩,kp' _ _ fo,⟨_,ha0⟩,⟨_,hk0⟩⟩
    case mono=>
     intro ks s3 h3 ⟨⟨G3,H3,kvs,I3,g3,t3,w3,v3,f3,a3,k3⟩,fo3,oa3,ok3⟩ same sz ok;have fk:f≠kS:=fun z=>absurd (qG fo) (by rw [z];exact vK gk');refine ⟨⟨G3,H3,kvs,a1b (N:=0) (ch:=[kS]) I2 I3 (fun b hb=>?_) (fun b hb=>same b (by simpa using hb)),g3,t3,w3,v3,f3,a3,k3⟩,(same f fk).trans fo3,?_,ok⟩
     ·obtain rfl:=qQ.mp hb
      exact ⟨gk',k3⟩
     ·obtain ⟨oo,e⟩:=oa3
      exact ⟨oo,(same a (qa gk)).trans e⟩
    case step=>
     intro ks s3 xv hxv ⟨⟨G3,H3,kvs,I3,g3,t3,w3,v3,f3,a3,k3⟩,fo3,oa3,ok3⟩;have hi:ks.length<its.length:=(qY.mp hxv).1;have hdi:ds[ks.length]?=some (ds[ks.length]'(by omega)):=qK (by omega);obtain ⟨kd,ekd,efe⟩:=a4U ek hdi;obtain ⟨iv,eiv,riv⟩:=ri.get hdi;obtain ⟨xv',exv,rxv⟩:=rv.get eiv;rw [hxv] at exv;cases exv;have cr:s3.heap.CodeRec (.ref c') (lamQ x):=(I3.hok c' _ (g3.hh.keep c' _ hc' (by unfold cdO;nofun))).1;have r3:Room (k+1) X.A.in1.in1:=hr.in1.in1;refine uh (wy (b1l r3 I3.env0.in1.in1 fo3 cr S (hbind pm ct xv c') (hbody f c' _ _ _ _ (r3.deeper _)) ⟨g3.sub,t3⟩ (riv.mono g3.gg) rxv efe) fun r s4 h4=>?_);cases r with
     | error e=>exact qw h4
     | ok fl=>
      cases fl with
      | next=>exact qw h4
      | brk=>exact qw h4
      | cont=>exact qw h4
      | ret u4=>
       obtain ⟨v4,H4,os4,bare4,un4,hok4,rv4,G4,g4,w4⟩:=h4;obtain ⟨_,_,I4,_,rfl,rfl⟩:=I3.after (Q:=fun v H=>v=v4∧H=H4) (u:=u4) (s':=s4) ⟨v4,H4,os4,bare4,un4,hok4,rv4,rfl,rfl⟩;obtain ⟨oo,eoa⟩:=oa3;obtain ⟨ok',eok⟩:=ok3;have keepA:=un4.keep a oo eoa a3 na (by simp);have keepK:=un4.keep kS ok' eok k3 nk (by simp);refine ⟨⟨⟨G4,_,kvs++[_],I4,g3.trans g4,t3.more g4,?_,Paired.snoc v3 rv4,un4.free f _ fo3 f3 (by simp),un4.free a _ eoa a3 (by simp),un4.free kS _ eok k3 (by simp)⟩,un4.keep f _ fo3 f3 nf (by simp),⟨oo,keepA⟩,⟨ok',keepK⟩⟩,keepA.trans eoa.symm,keepK.trans eok.symm⟩;rw [qh,jD,vi,ekd];exact (w3.mono g4.gg).append (.cons w4 .nil)
    case fin=>
     intro ks s3 hl ⟨⟨G3,H3,kvs,I3,g3,t3,w3,v3,f3,a3,k3⟩,fo3,oa3,ok3⟩;rw [kM (by omega)] at w3;exact a3f I3 (w3.mono g3.sub) v3
    case done=>
     intro pp ks s3 h3 hPm hS ⟨⟨G3,H3,kvs,I3,g3,t3,w3,v3,f3,a3,k3⟩,fo3,oa3,ok3⟩ same sz ⟨cc,hca⟩;refine hP _ ?_;have pl:∀ i∈pp.toList,i<ivs.length:=fun i hi=>by
      have:=(zr.mp hPm.perm).mem_iff.mp hi;simp at this;omega
     have I5:Inv X pins σ H3 { s3 with heap:=h3 }:=a1b (N:=0) (ch:=[kS,a]) I2 I3 (fun b hb=>by
      rcases qF.mp hb with rfl | hb
      ·exact ⟨gk',k3⟩
      ·obtain rfl:=qQ.mp hb
       exact ⟨ga,a3⟩) (fun b hb=>same b (fun z=>hb (by simp [z])) fun z=>hb (by simp [z]))
     refine ⟨.ref a,_,a8U (o:=.lst (pp.toList.map fun i=>ivs.getD i .non)) I2 I5 ga a3 ⟨?_,pp.toList.map fun i=>its.getD i jH,cc,aY.pick rv _ pl,hca⟩,rfl,?_⟩
     ·rw [qE,qN,hPm.size]
      exact qv (fE (by omega))
     ·refine q (.ref a) _ _ ((g1.trans g2).trans (g3.trans (.put g3.sub a3))) (.list (.of aL) ?_)
      rw [a8h (p:=pp.toList) e6 (fun i hi=>by have:=pl i hi;omega) hS];exact (ri.pick _ pl).mono (g3.gg.trans (Grow.put g3.sub a3).gg)
   ·cases e5
  ·cases e5
 ·cases ef⟩
end
section
variable {P:Program} {w:World} {K:qC} {mg:T0d} {base:Heap} {x:Str} {k:Nat} {ps N:T0o}
theorem a7B {st:Stmt} {f:SF} {fa c T:Addr} {fd:w5} (m n:Nat) (Fu:Fun K x x st fa fd) (S:FnScope N ps (aD st)) (hm:N.length=m) (hn:ps.length=n) (kb:K.In base) (nb:base.Ns j6 mg) (hmg:mg x=some (.ref fa)) (ht:jM K x=some (c,T))
  (body:∀ (A:Around) (outer:List Env) (s:Shared) (H:Hp) (E:XK),Room k (A.deeper (yn x (aD st) s.heap.objs.size fa (.ref c)))→DB (fcx P w K mg base N x (aD st) fa (.ref c) A outer s H E) (bL st) f) :
  FnOk P w K mg base CX0 (k+1) fa fd ps (spD K fun ds d=>dB m n f ds=some (.ok d)):=by
 obtain ⟨oc,od,kV,doc,pm,an,cdv,ct,osl,rfl,lk,hcd⟩:=Fu.ex;have hc:cdv=.ref c:=PySem.W.law_code kb nb ht hmg (kb _ _ lk) rfl;subst hc;refine b1M lk hcd S (fun vs H Q E ⟨G,ds,d,s,r,hF,_⟩=>?_) (fun A outer s H vs Q E hr ⟨G,ds,d,sm,r,hF,q⟩=>?_)
 ·have hF:dB m n f ds=some (.ok d):=hF
  unfold dB at hF;split at hF
  ·rename_i hl;rw [r.length,hl,hn]
  ·cases hF
 ·have hF:dB m n f ds=some (.ok d):=hF
  unfold dB at hF;split at hF
  ·rw [←hm,←uU] at hF
   split at hF
   ·rename_i d' e
    cases (qA hF);exact ⟨_,(body A outer s H E hr).run.nox,hV N ds,_,H,G,G,e,fD sm r,fun v G' H' _ g rv=>q v G' H' g rv⟩
   ·rename_i ρ' e
    cases (qA hF);exact ⟨_,(body A outer s H E hr).run.nox,hV N ds,_,H,G,G,e,fD sm r,fun G' H' σ' _ R'=>q .non G' H' R'.grow .none⟩
   ·cases hF
  ·cases hF
theorem yU {st:Stmt} {f:SF} {c T:Addr} (m n:Nat) (D:Def K mg x st) (S:FnScope N ps (aD st)) (hm:N.length=m) (hn:ps.length=n) (kb:K.In base) (nb:base.Ns j6 mg) (ht:jM K x=some (c,T))
  (hb:∀ (kV doc pm:Value) (an:T0i) (cdv ct:Value) (us:T0k),us.length=ps.length→yy (jk x x (eY st) (bL st) (aD st) .none kV doc pm an cdv ct) ⟨us,[]⟩=pure (ps.zip us))
  (body:∀ (fa:Addr) (A:Around) (outer:List Env) (s:Shared) (H:Hp) (E:XK),Room k (A.deeper (yn x (aD st) s.heap.objs.size fa (.ref c)))→DB (fcx P w K mg base N x (aD st) fa (.ref c) A outer s H E) (bL st) f) :
  aI P w K mg base x (k+1) ps (dB m n f):=by
 obtain ⟨fa,fd,Fu,hmg⟩:=D.ex;exact ⟨fa,fd,hmg,Fu.kp,Fu.binds hb,a7B m n Fu S hm hn kb nb hmg ht fun A outer s H E hr=>body fa A outer s H E hr⟩
end
theorem a4N {β:Type}:∀ {l:List (Addr×β)} {a:Addr} {b:β},l.lookup a=some b→(a,b)∈l
 | [],_,_,e=>by cases e
 | (c,y)::r,a,b,e=>by
  rw [jy] at e;cases hb:a==c with
  | true=>rw [hb] at e;cases e;rw [eq_of_beq hb];exact .head _
  | false=>rw [hb] at e;exact .tail _ (a4N e)
theorem a8M {P:Program} {w:World} {K:qC} {mg mb:T0d} {k:Nat} {fa a:Addr} {fd:w5} {x:Str} {F:List j0→Mm j0} {s₁:Shared} {vs:T0k} {ns:T0q} {ts:List (Addr×Str)}
  (KX:K.In s₁.heap) (hns:s₁.heap.Ns j6 mg) (hb:s₁.heap.Ns uf mb) (hbb:∀ x:Str,x ≠ "__name__" → mb x=wm x) (hlim:s₁.heap.NoLimit) (hg:s₁.gens=#[])
  (ha:s₁.heap.get? a=some { cls:=.type "list", data:=.seq vs.toArray }) (hi:ym vs ns) (hl:ns.length≤j5) (hr:Room k QP) (hbm:BM mg s₁.heap)
  (htab:∀ T q,ts.lookup T=some q→s₁.heap.get? T=some (vh #[])∧isCodeTable s₁.heap T∧K.lookup T=none) (hts:∀ x∈dX,∀ c T,jM K x=some (c,T)→ts.lookup T=some (lamQ x))
  (Fn:∀ base:Heap,K.In base→base.Ns j6 mg→BM mg base→FnOk P w K mg base CX0 k fa fd [x] (spD K fun ds d=>F ds=some (.ok d))) (hbind:∀ (s:Shared) (u:Value),BindsTo s fd ⟨[u],[]⟩ [(x,u)]) (hF:F [.list (ns.map .int)]=some (.ok (.bool true))) :
  wx (model P w) QP (.call (.ref fa) ⟨[.ref a],[]⟩) (fun r s'=>r=.ok (.ret (.bool true))∧OldK s₁.heap s'.heap∧s'.os=s₁.os∧ut s'.gens) s₁:=by
 have rv:=mS hi;have lenV:=hi.length;have core:∀ S:Hp,c0y S→SqL K S a (ns.map V.int)→HOk P w S s₁.heap→(∀ b,S b≠none→b=a)→(S a≠none→K.lookup a=none) →
   wx (model P w) QP (.call (.ref fa) ⟨[.ref a],[]⟩) (fun r s'=>r=.ok (.ret (.bool true))∧OldK s₁.heap s'.heap∧s'.os=s₁.os∧ut s'.gens) s₁:=by
  intro S hO hS hok hA hK;generalize hH:(fun b=>match ts.lookup b with | some q=>some (HO.tbl (q,#[])) | none=>S b:Hp)=H;have H1:∀ b q,ts.lookup b=some q→H b=some (.tbl (q,#[])):=fun b q e=>by rw [←hH];simp [e]
  have H2:∀ b,ts.lookup b=none→H b=S b:=fun b e=>by rw [←hH];simp [e]
  have ta:∀ b,S b≠none→ts.lookup b=none:=fun b e=>by
   cases q:ts.lookup b with
   | none=>rfl
   | some q'=>
    have z:=hA b e;subst z;have:=(htab _ _ q).1;rw [ha] at this;cases this
  have SH:bB S H:=fun b o e=>by rw [H2 b (ta b (by rw [e];simp))];exact e
  have hokH:HOk P w H s₁.heap:=fun b u e=>by
   cases q:ts.lookup b with
   | some q'=>
    rw [H1 b q' q] at e;cases e;exact (htab _ _ q).1
   | none=>
    rw [H2 b q] at e;exact (hok b u e).stay (fun _ _ _ z=>z) (fun b' z=>SH b' _ z) fun b' xs z=>SH b' _ z
  have free:∀ {b:Addr} {o:Obj},s₁.heap.get? b=some o→o≠vh #[]→o≠{ cls:=.type "list", data:=.seq vs.toArray }→H b=none:=fun {b o} e n1 n2=>by
   cases q:ts.lookup b with
   | some q'=>exact absurd (qA (e.symm.trans (htab _ _ q).1)) n1
   | none=>
    rw [H2 b q];cases z:S b with
    | none=>rfl
    | some u=>
     have y:=hA b (by rw [z];simp);subst y;exact absurd (qA (e.symm.trans ha)) n2
  have base_of:∀ {b:Addr} {o:Obj},s₁.heap.get? b=some o→H b=none→(a1I s₁.heap H).get? b=some o:=fun e n=>b1A e n;have nsK:∀ {b:Addr} {m:T0d},s₁.heap.Ns b m→(a1I s₁.heap H).Ns b m:=fun {b m} ⟨o,es,ep,e,d,r⟩=>⟨o,es,ep,base_of e (free e (fun z=>by rw [z] at d;cases d) fun z=>by rw [z] at d;cases d),d,r⟩
  have hKb:K.In (a1I s₁.heap H):=fun b o e=>base_of (KX b o e) (by
   cases q:ts.lookup b with
   | some q'=>rw [(htab _ _ q).2.2] at e;cases e
   | none=>
    rw [H2 b q];cases z:S b with
    | none=>rfl
    | some u=>
     have y:=hA b (by rw [z];simp);subst y
     rw [hK (by rw [z];simp)] at e;cases e)
  have hM:Mod K mg (a1I s₁.heap H):=⟨hKb,nsK hns,⟨mb,nsK hb,hbb⟩,let ⟨mc,h1,h2⟩:=hlim;⟨mc,nsK h1,h2⟩⟩;have hB:BM mg (a1I s₁.heap H):=by
   obtain ⟨bm,ob,b1,b2,b3,b4,b5,b6,b7⟩:=hbm.ex;exact ⟨bm,ob,b1,b2,b3,base_of b4 (free b4 (fun z=>by rw [z] at b5;cases b5) fun z=>by rw [z] at b5;injection b5 with b5;exact absurd b5 (by decide)),b5,b6,b7⟩
  have e0:Env0 P w K mg (a1I s₁.heap H) QP [] s₁ H:=⟨rfl,hM,fun b o e=>b3G e,Nat.le_of_eq (a8V _ _),trivial,fun b hb=>absurd (show b∈([]:T0m) from hb) (by simp),hokH,.of_eq hg⟩
  have tabs:nB K S H:=⟨fun x hx c T e=>⟨#[],H1 _ _ (hts x hx c T e),trivial,fun pos cv e=>by cases e⟩,fun b ps e=>by
   rcases hO b with z | ⟨o,xs,z⟩<;>rw [z] at e<;>cases e⟩
  refine wy ((Fn _ hKb (nsK hns) hB).run QP [] s₁ H ⟨[.ref a],[]⟩ [.ref a] [.ref a] (fun v _=>v=.bl true) E0 hr e0 (hbind s₁ (.ref a)) (.cons rfl .nil) ⟨S,[.list (ns.map .int)],.bool true,⟨SH,tabs⟩,.cons (.list hS (fN ns)) .nil,hF,fun v G' H' _ r=>by cases r;rfl⟩) fun r s' h=>?_;cases r with
  | error e=>exact qw h
  | ok fl=>
   cases fl with
   | next=>exact qw h
   | brk=>exact qw h
   | cont=>exact qw h
   | ret u=>
    obtain ⟨v,H',os,bare,un,hok',r',q⟩:=h;have q':v=.bl true:=q;subst q';obtain rfl:u=je true:=r';refine ⟨rfl,⟨fun b o e=>?_,fun b o e=>un.there b o e (by simp)⟩,os,bare⟩;cases y:ts.lookup b with
    | some q2=>
     obtain ⟨t1,t2,t3⟩:=htab _ _ y;rw [e] at t1;cases t1;obtain ⟨more,em⟩:=un.tbls b _ (H1 b q2 y);exact .inr (.inl ⟨t2,rfl,#[],more,rfl,hok' b _ em⟩)
    | none=>
     cases q:S b with
     | none=>exact .inl (un.keep b o e (by rw [H2 b y];exact q) (by intro z;exact absurd (show b∈([]:T0m) from z) (by simp)) (by simp))
     | some u=>
      rcases hO b with z | ⟨ob,xs,z⟩
      ·rw [q] at z;cases z
      ·have z2:=un.frzs b ob _ (SH b _ z)
       obtain ⟨e1,_⟩:=hok b _ z;obtain ⟨e2,_⟩:=hok' b _ z2;rw [e] at e1;cases e1;exact .inl e2
 cases hk:K.lookup a with
 | some o=>
  have e:=KX a o hk;rw [ha] at e;cases e;refine core (fun _=>none) (fun _=>.inl rfl) (.inr ⟨_,vs.toArray,_,hk,rfl,rfl,rfl,by rw [qI,lenV];exact hl,by simpa using rv⟩) (fun b u z=>by have z':(none:Option HO)=some u:=z;cases z') (fun b z=>absurd rfl z) fun z=>absurd rfl z
 | none=>
  refine core (fun b=>if b=a then some (.frz { cls:=.type "list", data:=.seq vs.toArray } (.lst (ns.map V.int))) else none) (fun b=>?_) (.inl (.inr ⟨{ cls:=.type "list", data:=.seq vs.toArray },if_pos rfl⟩)) (fun b u z=>?_) (fun b z=>?_) fun _=>hk
  ·by_cases hb:b=a
   ·exact .inr ⟨_,_,if_pos hb⟩
   ·exact .inl (if_neg hb)
  ·by_cases hb:b=a
   ·have z':=(if_pos hb).symm.trans z
    cases z';subst hb;exact ⟨ha,by rw [qE];exact hl,vs,_,rv,ha⟩
   ·have z':=(if_neg hb).symm.trans z
    cases z'
  ·by_cases hb:b=a
   ·exact hb
   ·exact absurd (if_neg hb) z
theorem walkL {l:PySem.W.OpenLaw} {k:Nat} {q:Program} {loose:T0o} {XP:(Str→Option Value)→Heap→Prop} {YP:World→Heap→Prop} {d:DefRec} {K:Params→qC} {F:List j0→Mm j0} {x:Str} (ts:List (Addr×Str)) (hn:l.most=some 63) (hdf:d.params.defaults=[]) (hr:Room k QP)
  (hY:∀ (w:World) (h:Heap),YP w h→(K w.params).In h) (hT:∀ (w:World) (h:Heap),YP w h→∀ p∈ts.map (·.1),h.get? p=some (vh #[])) (hcd:∀ w:World,∀ p∈ts,(∃ c,jl (K w.params) c p.1=true)∧(K w.params).lookup p.1=none)
  (hts:∀ w:World,∀ x∈dX,∀ c T,jM (K w.params) x=some (c,T)→ts.lookup T=some (lamQ x))
  (Fn:∀ (w:World) (mg:T0d) (fa:Addr) (h:Heap),(K w.params).In h→h.Ns j6 mg→mg d.name=some (.ref fa) →
   ∃ fd:w5,(∀ (s:Shared) (u:Value),BindsTo s fd ⟨[u],[]⟩ [(x,u)])∧∀ base:Heap,(K w.params).In base→base.Ns j6 mg→BM mg base→FnOk l.prog w (K w.params) mg base CX0 k fa fd [x] (spD (K w.params) fun ds d=>F ds=some (.ok d)))
  (hF:∀ ns:List Int,ns.length≤63→F [.list (ns.map .int)]=some (.ok (.bool true))) :
  PySem.W.WalkO q loose XP YP l.row.toRowW d [] (fun f vs=>PySem.call f vs):=by
 refine Att.attach_call hn hdf fun w s₀ s₁ mg mb fa o pm cd doc a vs ns G Y ho hd hcd' hmg hobj hints hlen hg=>?_;have KX:=hY w _ Y;obtain ⟨fd,hb,hFn⟩:=Fn w mg fa _ KX G.T.g hmg;have hbm:BM mg s₁.heap:=by
  obtain ⟨bm,ob,b1,b2,b3,b4,b5,b6⟩:=G.T.bmain;refine ⟨bm,ob,b1,b2,fun z=>?_,b3,b4,b5,b6⟩;obtain ⟨o,es,ep,e,hd,_⟩:=G.T.g;rw [z,e] at b3;cases b3;rw [hd] at b6;cases b6
 refine a8M (ts:=ts) KX G.T.g G.T.b G.T.builtins G.T.nolimit hg hobj hints (ql hlen (by decide)) hr hbm (fun T q e=>?_) (hts w) hFn hb (hF ns hlen);have m:=a4N e;have e1:=hT w _ Y T (qz (f:=(·.1)) m);obtain ⟨⟨c,hc⟩,hn'⟩:=hcd w _ m;exact ⟨e1,((PySem.W.codeHd_of_K KX hc).tab e1).isCodeTable,hn'⟩
def b5w (K:qC) (ts:List (Addr×Str)) (x:Str):Bool:=match jM K x with
 | none=>true
 | some (_,T)=>ts.lookup T==some (lamQ x)
theorem lam_all {K:qC} {ts:List (Addr×Str)} (h:dX.all (b5w K ts)=true):∀ x∈dX,∀ c T,jM K x=some (c,T)→ts.lookup T=some (lamQ x):=fun x hx c T e=>by
 have:=qk.mp h x hx;unfold b5w at this;rw [e] at this;exact eq_of_beq this
theorem all_cons {α:Type} {p:α→Prop} {a:α} {l:List α} (h:p a) (t:∀ x∈l,p x):∀ x∈a::l,p x:=List.forall_mem_cons.mpr ⟨h,t⟩
end L2.L3
namespace L2.L3
open PySem PySem.Spec PyProof.Rows
theorem b2G {α:Type} {xs:List α} {p:Int} (h0:0≤p) (h1:p<xs.length) (dflt:α):atI xs p=some (xs.getD p.toNat dflt):=by
 have e:((p.toNat:Nat):Int)=p:=by omega
 have lt:p.toNat<xs.length:=by omega
 have q:=b7X (xs:=xs) p.toNat
 rw [e] at q;rw [q];simp [vw,qK lt]
theorem b1I {α β:Type} (f:α→β) (xs:List α) (i:Nat) (d:α):(xs.map f).getD i (f d)=f (xs.getD i d):=by
 simp only [vw,qW];cases xs[i]?<;>rfl
theorem a4b {α β:Type} (f:α→β) {xs:List α} {p:Int} (h0:0≤p) (h1:p<xs.length) (dflt:α):atI (xs.map f) p=some (f (xs.getD p.toNat dflt)):=by
 rw [b2G h0 (by rw [qE];exact h1) (f dflt),b1I]
def cellOf (ns:T0q) (k:Int):Int:=
 if k<ns.length then ns.getD k.toNat 0 else if ns=[] then 0 else ns.getD (k % (ns.length:Int)).toNat 0*31+k
def drawnOf (ns:T0q) (k:Int):Int:=(cellOf ns k+6151*(k+1))*40692 % 2147483399
def pickOf (ns:T0q) (k many:Int):Int:=(drawnOf ns k*drawnOf ns k+drawnOf ns k / 31) % 2147483629 % many
theorem iH (ns:T0q) (k:Int) {many:Int} (h:0<many):0≤pickOf ns k many:=Int.emod_nonneg _ (by omega)
theorem iI (ns:T0q) (k:Int) {many:Int} (h:0<many):pickOf ns k many<many:=vy _ h
def bK:List Str:=["a", "b", "cc", "d", "e", "fx", "g", "h", "i", "jjjj"]
def spanOf (ns:T0q) (at':Int):Int:=([12,30,30,200]:T0q).getD (pickOf ns at' 4).toNat 0
theorem a3a (ns:T0q) (at':Int):spanOf ns at'=12∨spanOf ns at'=30∨spanOf ns at'=200:=by
 have h0:=iH ns at' (many:=4) (by decide);have h1:=iI ns at' (many:=4) (by decide);unfold spanOf;generalize pickOf ns at' 4=p at h0 h1;have:p=0∨p=1∨p=2∨p=3:=by omega
 rcases this with rfl | rfl | rfl | rfl<;>simp
def lL (ns:T0q) (at':Int) (k:Nat):Int:=([3,8,spanOf ns at']:T0q).getD (pickOf ns (at'+12+3*(k:Int)) 3).toNat 0
theorem a0z (ns:T0q) (at':Int) (k:Nat):0<lL ns at' k∧lL ns at' k≤200:=by
 have h0:=iH ns (at'+12+3*(k:Int)) (many:=3) (by decide);have h1:=iI ns (at'+12+3*(k:Int)) (many:=3) (by decide);have hs:=a3a ns at';unfold lL;generalize pickOf ns (at'+12+3*(k:Int)) 3=p at h0 h1;have:p=0∨p=1∨p=2:=by omega
 rcases this with rfl | rfl | rfl<;>simp<;>omega
def gW (ns:T0q) (at':Int) (k:Nat):Int:=pickOf ns (at'+10+3*(k:Int)) (spanOf ns at')
def lM (ns:T0q) (at':Int) (k:Nat):Int:=1+pickOf ns (at'+11+3*(k:Int)) (lL ns at' k)
def yX (ns:T0q) (at':Int) (k:Nat):Mt:=(bK.getD k "", gW ns at' k,gW ns at' k+lM ns at' k)
def iU (ns:T0q) (at' most:Int):Nat:=(pickOf ns (at'+1) (most+1)).toNat
def nJ (ns:T0q) (at' most:Int):List Mt:=(qi (iU ns at' most)).map (yX ns at')
theorem a7m {ns:T0q} {at' most:Int} (h:0≤most):((iU ns at' most:Nat):Int)≤most:=by
 have h0:=iH ns (at'+1) (many:=most+1) (by omega);have h1:=iI ns (at'+1) (many:=most+1) (by omega);unfold iU;omega
theorem a1U (ns:T0q) (at' most:Int):(nJ ns at' most).length=iU ns at' most:=by simp [nJ]
theorem b2E (ns:T0q) (at':Int) (k:Nat):0≤gW ns at' k∧gW ns at' k<200:=by
 have hs:=a3a ns at';have h0:=iH ns (at'+10+3*(k:Int)) (many:=spanOf ns at') (by omega);have h1:=iI ns (at'+10+3*(k:Int)) (many:=spanOf ns at') (by omega);unfold gW;omega
theorem b3a (ns:T0q) (at':Int) (k:Nat):1≤lM ns at' k∧lM ns at' k≤200:=by
 have hs:=a0z ns at' k;have h0:=iH ns (at'+11+3*(k:Int)) (many:=lL ns at' k) hs.1;have h1:=iI ns (at'+11+3*(k:Int)) (many:=lL ns at' k) hs.1;unfold lM;omega
theorem a1E:bK.Nodup:=by decide +kernel
theorem a5X:∀ x∈bK,jP x=true:=by decide +kernel
structure SheetOk (s:List Mt):Prop where
 few:s.length≤10
 names:s.map (·.1)=bK.take s.length
 times:∀ m∈s,0≤m.2.1∧m.2.1<m.2.2∧m.2.2<400
theorem b0q (ns:T0q) (at':Int) {most:Int} (h0:0≤most) (h1:most≤10):SheetOk (nJ ns at' most):=by
 have hm:=a7m (ns:=ns) (at':=at') h0;refine ⟨by rw [a1U];omega,?_,fun m hm'=>?_⟩
 ·rw [a1U]
  have hl:iU ns at' most≤bK.length:=by show _≤10;omega
  unfold nJ;rw [qP];apply jT;intro i;rw [qW];by_cases hi:i<iU ns at' most
  ·rw [kI hi,kF hi]
   have hi':i<bK.length:=by omega
   simp [yX,vw,qK hi']
  ·rw [qb (by simpa using hi),qb (by simp;omega)]
   rfl
 ·unfold nJ at hm'
  obtain ⟨k,_,rfl⟩:=qH.mp hm';have hb:=b2E ns at' k;have hs:=b3a ns at' k;simp only [yX];omega
theorem SheetOk.name_ok {s:List Mt} (S:SheetOk s):∀ m∈s,jP m.1=true:=fun m hm=>by
 have:m.1∈s.map (·.1):=qH.mpr ⟨m,hm,rfl⟩;rw [S.names] at this;exact a5X _ (List.mem_of_mem_take this)
theorem SheetOk.nodup {s:List Mt} (S:SheetOk s):(s.map (·.1)).Nodup:=by
 rw [S.names];exact a1E.sublist (wF _ _)
abbrev dN (ns:T0q):j0:=.list (ns.map .int)
theorem tI {ds:T0j} {n:Nat} (h1:∀ d∈ds,jv d=true) (h2:∀ d∈ds,jf d≤n) (h3:n<64):qV (.list ds)=true:=by
 refine a1V (n:=n+1) ?_ ?_ h3
 ·rw [jv];exact uH h1
 ·rw [jf];have:=lY h2;omega
theorem a4r {ds:T0j} {n:Nat} (h1:∀ d∈ds,jv d=true) (h2:∀ d∈ds,jf d≤n) (h3:n<64):qV (.tuple ds)=true:=by
 refine a1V (n:=n+1) ?_ ?_ h3
 ·rw [jv];exact uH h1
 ·rw [jf];have:=lY h2;omega
theorem a6U (ns:T0q):qV (.list (ns.map .int))=true:=tI (n:=1) (fun d hd=>by obtain ⟨i,_,rfl⟩:=qH.mp hd;simp [jv]) (fun d hd=>by obtain ⟨i,_,rfl⟩:=qH.mp hd;simp [jf]) (by decide)
theorem b1Q {a b:T0j} (h1:qV (.list a)=true) (h2:qV (.list b)=true):eqD (.list a) (.list b)=some (qt a b):=by
 show (if (qV (.list a)&&qV (.list b))=true then some (jI (.list a) (.list b)) else none)=_;rw [h1,h2,if_pos (by rfl),a1o]
theorem pE {a b:T0j} (h1:qV (.list a)=true) (h2:qV (.list b)=true):neD (.list a) (.list b)=some (!PyData.eqvAll a b):=by
 show (if (qV (.list a)&&qV (.list b))=true then some (!PyData.eqv (.list a) (.list b)) else none)=_;rw [h1,h2,if_pos (by rfl),a1o]
theorem a8y {a b:T0j} (h1:qV (.tuple a)=true) (h2:qV (.tuple b)=true):neD (.tuple a) (.tuple b)=some (!PyData.eqvAll a b):=by
 show (if (qV (.tuple a)&&qV (.tuple b))=true then some (!PyData.eqv (.tuple a) (.tuple b)) else none)=_;rw [h1,h2,if_pos (by rfl),a9b]
theorem a5K:qV (.list [])=true:=by decide +kernel
theorem a7F (ds:T0j):qt ds []=ds.isEmpty:=by cases ds<;>simp [qt]
theorem eq_nil {ds:T0j} (h:qV (.list ds)=true):eqD (.list ds) (.list [])=some ds.isEmpty:=by rw [b1Q h a5K,a7F]
theorem b6Q {ds:T0j} (h:qV (.list ds)=true):neD (.list ds) (.list [])=some (!ds.isEmpty):=by rw [pE h a5K,a7F]
abbrev a8b:TF:=dL ltD (var 1) (fC xI (aC (var 0) aH))
abbrev a8a:TF:=dL eqD (var 0) (tS aH)
def a1k:SF:=(bC (ifS a8b (retS (op2 ixD (var 0) (var 1))) mL) (bC (ifS a8a (retS (cst (.int 0))) mL) (retS (op2 cY (op2 oC (op2 ixD (var 0) (op2 a5Y (var 1) (fC xI (aC (var 0) aH)))) (cst (.int 31))) (var 1)))))
def uQ:List j0→Mm j0:=dB 2 2 a1k
def a1j:SF:=(bC (iG 3 (op2 a5Y (op2 oC (op2 cY (aP uQ (aC (var 0) (aC (var 1) aH))) (op2 oC (cst (.int 6151)) (op2 cY (var 1) (cst (.int 1))))) (cst (.int 40692))) (cst (.int 2147483399)))) (retS (op2 a5Y (op2 a5Y (op2 cY (op2 oC (var 3) (var 3)) (op2 b4s (var 3) (cst (.int 31)))) (cst (.int 2147483629))) (var 2))))
def bR:List j0→Mm j0:=dB 4 3 a1j
abbrev a6H:SF:=bC (iG 7 (aP bR (aC (var 0) (aC (op2 cY (op2 cY (var 1) (cst (.int 10))) (op2 oC (cst (.int 3)) (var 6))) (aC (var 3) aH))))) (bC (iG 8 (op2 cY (cst (.int 1)) (aP bR (aC (var 0) (aC (op2 cY (op2 cY (var 1) (cst (.int 11))) (op2 oC (cst (.int 3)) (var 6))) (aC (op2 ixD (tS (aC (cst (.int 3)) (aC (cst (.int 8)) (aC (var 3) aH)))) (aP bR (aC (var 0) (aC (op2 cY (op2 cY (var 1) (cst (.int 12))) (op2 oC (cst (.int 3)) (var 6))) (aC (cst (.int 3)) aH))))) aH)))))) (uN 5 (fY (aC (op2 ixD (var 4) (var 6)) (aC (var 7) (aC (op2 cY (var 7) (var 8)) aH))))))
def xS:SF:=(bC (iG 3 (op2 ixD (tS (aC (cst (.int 12)) (aC (cst (.int 30)) (aC (cst (.int 30)) (aC (cst (.int 200)) aH))))) (aP bR (aC (var 0) (aC (var 1) (aC (cst (.int 4)) aH)))))) (bC (iG 4 (tS (aC (cst (.str "a")) (aC (cst (.str "b")) (aC (cst (.str "cc")) (aC (cst (.str "d")) (aC (cst (.str "e")) (aC (cst (.str "fx")) (aC (cst (.str "g")) (aC (cst (.str "h")) (aC (cst (.str "i")) (aC (cst (.str "jjjj")) aH)))))))))))) (bC (a3q 5 aH) (bC (a1J (.nm 6) (a3g (aP bR (aC (var 0) (aC (op2 cY (var 1) (cst (.int 1))) (aC (op2 cY (var 2) (cst (.int 1))) aH))))) a6H) (a1f 5 (retS (fC yV (aC (var 5) aH))))))))
def nD:List j0→Mm j0:=dB 9 3 xS
theorem bF {m n:Nat} {f:SF} {ds:T0j} {d:j0} (hl:ds.length=n) (h:f (oW m ds)=some (.rt d)):dB m n f ds=some (.ok d):=by
 unfold dB;rw [if_pos hl,h]
theorem a3D {ns:T0q} {p:Int} (h0:0≤p) (h1:p<ns.length):ixD (.list (ns.map .int)) (.int p)=some (.int (ns.getD p.toNat 0)):=by
 show atI (ns.map jY) p=_;rw [a4b jY h0 h1 0]
theorem b7F (ns:T0q) (k:Int) (h0:0≤k):uQ [dN ns,.int k]=some (.ok (.int (cellOf ns k))):=by
 refine bF rfl ?_;show a1k [.val (dN ns),.val (.int k)]=_;unfold a1k cellOf;by_cases h1:k<ns.length
 ·rw [a0f (d:=.int (ns.getD k.toNat 0)),if_pos h1]
  simp [h1];rw [a4b jY h0 h1 0];simp
 ·rw [aT (ρ':=[.val (dN ns),.val (.int k)]) (by simp [h1]),if_neg h1]
  by_cases h2:ns=[]
  ·subst h2
   rw [a0f (d:=.int 0),if_pos rfl];have h:eqD (dN []) (.list [])=some true:=eq_nil a5K;simp [h]
  ·have he:(ns.map jY).isEmpty=false:=by cases ns with
    | nil=>exact absurd rfl h2
    | cons a r=>rfl
   have h:eqD (dN ns) (.list [])=some false:=by rw [eq_nil (a6U ns),he]
   rw [aT (ρ':=[.val (dN ns),.val (.int k)]) (by simp [h]),if_neg h2];have lp:(0:Int)<(ns.length:Nat):=by cases ns with
    | nil=>exact absurd rfl h2
    | cons a r=>simp<;>omega
   have a1:=Int.emod_nonneg k (b:=(ns.length:Int)) (by omega);have a2:=vy k lp;have lp':0<ns.length:=by omega
   have ix:ixD (dN ns) (.int (k % (ns.length:Int)))=some (.int (ns.getD (k % (ns.length:Int)).toNat 0)):=a3D a1 a2;have ml:oC (.int (ns.getD (k % (ns.length:Int)).toNat 0)) (.int 31)=some (.int (ns.getD (k % (ns.length:Int)).toNat 0*31)):=a3t (by decide) (by decide);simp only [dW,a4A,a6O,a4j,cF,b2C,fX,a1z,b8X,a4P,b6V,qE,if_pos lp,ix,b5F,ml,b2K,lC]
theorem b2d (ns:T0q) (k:Int):0≤drawnOf ns k∧drawnOf ns k<2147483399:=⟨Int.emod_nonneg _ (by decide),vy _ (by decide)⟩
theorem xV (ns:T0q) (k many:Int) (h0:0≤k) (hm:0<many):bR [dN ns,.int k,.int many]=some (.ok (.int (pickOf ns k many))):=by
 refine bF rfl ?_;show a1j [.val (dN ns),.val (.int k),.val (.int many),.no]=_;have db:=b2d ns k;unfold a1j;rw [aT (ρ':=[.val (dN ns),.val (.int k),.val (.int many),.val (.int (drawnOf ns k))])]
 ·have hsq:oC (.int (drawnOf ns k)) (.int (drawnOf ns k))=some (.int (drawnOf ns k*drawnOf ns k)):=a3t (by omega) (by omega)
  simp [hsq,hm,pickOf]
 ·have h2:oC (.int 6151) (.int (k+1))=some (.int (6151*(k+1))):=a7h (by decide) (by decide)
  have h3:oC (.int (cellOf ns k+6151*(k+1))) (.int 40692)=some (.int ((cellOf ns k+6151*(k+1))*40692)):=a3t (by decide) (by decide);simp [b7F ns k h0,h2,h3,drawnOf]
theorem a5Q (n:Nat):sI 0 n=(qi n).map fun (k:Nat)=>jY (k:Int):=by simp [sI]
theorem b4w (ns:T0q) (at' most:Int) (h0:0≤at') (hm:0≤most) (hm2:most≤10):nD [dN ns,.int at',.int most]=some (.ok (dS (nJ ns at' most))):=by
 refine bF rfl ?_;show xS [.val (dN ns),.val (.int at'),.val (.int most),.no,.no,.no,.no,.no,.no]=_;have sp:=a3a ns at';have ml:=a7m (ns:=ns) (at':=at') hm;have p0:=iH ns (at'+1) (many:=most+1) (by omega);have p1:=iI ns (at'+1) (many:=most+1) (by omega);unfold xS;rw [aT (ρ':=[.val (dN ns),.val (.int at'),.val (.int most),.val (.int (spanOf ns at')),.no,.no,.no,.no,.no])]
 rotate_left
 ·have h:=a3D (ns:=[12,30,30,200]) (iH ns at' (many:=4) (by decide)) (iI ns at' (by decide))
  have h':atI [jY 12,.int 30,.int 30,.int 200] (pickOf ns at' 4)=some (.int (spanOf ns at')):=h;simp [xV ns at' 4 h0 (by decide),h']
 rw [aT (ρ':=[.val (dN ns),.val (.int at'),.val (.int most),.val (.int (spanOf ns at')),.val (.list (bK.map .str)),.no,.no,.no,.no])]
 rotate_left
 ·simp [bK]
 rw [aT (ρ':=[.val (dN ns),.val (.int at'),.val (.int most),.val (.int (spanOf ns at')),.val (.list (bK.map .str)),.lst [],.no,.no,.no])]
 rotate_left
 ·simp
 -- the turns
 have hr:a3g (aP bR (aC (var 0) (aC (op2 cY (var 1) (cst (.int 1))) (aC (op2 cY (var 2) (cst (.int 1))) aH)))) [.val (dN ns),.val (.int at'),.val (.int most),.val (.int (spanOf ns at')),.val (.list (bK.map .str)),.lst [],.no,.no,.no]=some (.ok ((qi (iU ns at' most)).map fun (k:Nat)=>jY (k:Int))):=by
  rw [b3d (n:=pickOf ns (at'+1) (most+1)) (by simp [xV ns (at'+1) (most+1) (by omega) (by omega)]) (by omega) (by omega),a5Q];rfl
 have turns:=rC (t:=.nm 6) (fun (k:Nat)=>jY (k:Int)) (fun m ρ=>m≤10→∃ x y z,ρ=[.val (dN ns),.val (.int at'),.val (.int most),.val (.int (spanOf ns at')),.val (.list (bK.map .str)),.lst ((qi m).map fun k=>dM (yX ns at' k)),x,y,z])
  (fb:=(bC (iG 7 (aP bR (aC (var 0) (aC (op2 cY (op2 cY (var 1) (cst (.int 10))) (op2 oC (cst (.int 3)) (var 6))) (aC (var 3) aH))))) (bC (iG 8 (op2 cY (cst (.int 1)) (aP bR (aC (var 0) (aC (op2 cY (op2 cY (var 1) (cst (.int 11))) (op2 oC (cst (.int 3)) (var 6))) (aC (op2 ixD (tS (aC (cst (.int 3)) (aC (cst (.int 8)) (aC (var 3) aH)))) (aP bR (aC (var 0) (aC (op2 cY (op2 cY (var 1) (cst (.int 12))) (op2 oC (cst (.int 3)) (var 6))) (aC (cst (.int 3)) aH))))) aH)))))) (uN 5 (fY (aC (op2 ixD (var 4) (var 6)) (aC (var 7) (aC (op2 cY (var 7) (var 8)) aH))))))))
  (qi (iU ns at' most)) 0 [.val (dN ns),.val (.int at'),.val (.int most),.val (.int (spanOf ns at')),.val (.list (bK.map .str)),.lst [],.no,.no,.no] (fun _=>⟨.no,.no,.no,rfl⟩) (by
  intro m k ρ hk hp;have hk':m<iU ns at' most∧k=m:=by
   obtain ⟨h1,h2⟩:=qY.mp hk;rw [kj] at h1;rw [List.getElem_range] at h2;exact ⟨h1,h2.symm⟩
  obtain ⟨hk1,rfl⟩:=hk';obtain ⟨x,y,z,rfl⟩:=hp (by omega);rw [vR];have st:=a0z ns at' k;have e1:=xV ns (at'+10+3*(k:Int)) (spanOf ns at') (by omega) (by omega);have e2:=xV ns (at'+12+3*(k:Int)) 3 (by omega) (by decide);have e3:=xV ns (at'+11+3*(k:Int)) (lL ns at' k) (by omega) st.1;have h:=a3D (ns:=[3,8,spanOf ns at']) (iH ns (at'+12+3*(k:Int)) (many:=3) (by decide)) (show pickOf ns _ 3<(3:Int) from iI ns _ (by decide));have h':atI [jY 3,.int 8,.int (spanOf ns at')] (pickOf ns (at'+12+3*(k:Int)) 3)=some (.int (lL ns at' k)):=h;have m3:oC (.int 3) (.int (k:Int))=some (.int (3*(k:Int))):=a7h (by decide) (by decide);have nm:atI (bK.map vE) (k:Int)=some (.str (bK.getD k "")):=by
   have:=a4b vE (xs:=bK) (p:=(k:Int)) (by omega) (by show _<(10:Int);omega) "";simpa using this
  have nm':ixD (.list (bK.map vE)) (.int (k:Int))=some (.str (bK.getD k "")):=nm;refine ⟨_,[.val (dN ns),.val (.int at'),.val (.int most),.val (.int (spanOf ns at')),.val (.list (bK.map .str)),.lst ((qi k).map (fun k=>dM (yX ns at' k))++[dM (yX ns at' k)]),.val (.int k),.val (.int (gW ns at' k)),.val (.int (lM ns at' k))],rfl,.inl ?_,fun _=>⟨.val (.int k),.val (.int (gW ns at' k)),.val (.int (lM ns at' k)),by rw [List.range_succ,jS];rfl⟩⟩;simp only [List.set];rw [aT (ρ':=[.val (dN ns),.val (.int at'),.val (.int most),.val (.int (spanOf ns at')),.val (.list (bK.map .str)),.lst ((qi k).map fun k=>dM (yX ns at' k)),.val (.int k),.val (.int (gW ns at' k)),z]) (by simp [m3,e1,gW])];rw [aT (ρ':=[.val (dN ns),.val (.int at'),.val (.int most),.val (.int (spanOf ns at')),.val (.list (bK.map .str)),.lst ((qi k).map fun k=>dM (yX ns at' k)),.val (.int k),.val (.int (gW ns at' k)),.val (.int (lM ns at' k))]) (by simp [m3,e2,h',e3,lM])];refine uM (ds:=(qi k).map fun k=>dM (yX ns at' k)) rfl (d:=dM (yX ns at' k)) ?_ (by simp;omega);simp only [a0q,fX,a4A,a6O,a4j,cF,nm',a4P,b2K,a1z,a7j]
  rfl)
 obtain ⟨ρ',e,hp⟩:=turns;rw [kj,vR] at hp;obtain ⟨x',y',z',rfl⟩:=hp (by omega);rw [aT (ρ':=[.val (dN ns),.val (.int at'),.val (.int most),.val (.int (spanOf ns at')),.val (.list (bK.map .str)),.lst ((qi (iU ns at' most)).map fun k=>dM (yX ns at' k)),x',y',z'])]
 rotate_left
 ·rw [sQ,iB hr]
  exact e
 show retS (fC yV (aC (var 5) aH)) [.val (dN ns),.val (.int at'),.val (.int most),.val (.int (spanOf ns at')),.val (.list (bK.map .str)),.val (.list ((qi (iU ns at' most)).map fun k=>dM (yX ns at' k))),x',y',z']=_;simp [nJ,qP,wI]
abbrev a4W:EF:=cN (.nm 0) [none] (dQ (var 0)) ttT (op2 ixD (var 0) (cst (.int 0)))
def sS:SF:=(retS a4W)
def gM:List j0→Mm j0:=dB 1 1 sS
def a6s:SF:=(retS (a6I (op1 (isD "int") (var 0)) (b6M (op1 (isD "bool") (var 0)))))
def cG:List j0→Mm j0:=dB 1 1 a6s
def pK:SF:=(retS (a6I (aP cG (aC (var 0) aH)) (a6I (aP cG (aC (var 1) aH)) (b2s leD ltD leD (cst (.int 0)) (var 0) (var 1) (cst (.int 480))))))
def fH:List j0→Mm j0:=dB 2 2 pK
@[simp] theorem c0Q (neg:Bool) (k:j0) (fa:EF) (ρ:List Ent):isE neg k fa ρ=bnd (fa ρ) fun x=>lft ((isB k x).map fun t=>.bool (neg != t)):=rfl
@[simp] theorem c0P (neg:Bool) (k:j0) (fa:EF) (ρ:List Ent):isT neg k fa ρ=bnd (fa ρ) fun x=>lft ((isB k x).map fun t=>neg != t):=rfl
@[simp] theorem c0k:isB (.bool true) (.bool true)=some true:=rfl
@[simp] theorem c0l:isB (.bool false) (.bool false)=some true:=rfl
@[simp] theorem c0g (ds:T0j):isD "tuple" (.tuple ds)=some (.bool true):=rfl
@[simp] theorem c0i (i:Int):isD "int" (.int i)=some (.bool true):=rfl
@[simp] theorem c0j (i:Int):isD "bool" (.int i)=some (.bool false):=rfl
@[simp] theorem c0h (i:Str):isD "str" (.str i)=some (.bool true):=rfl
@[simp] theorem b9m (g1 g2 g3:j0→j0→Option Bool) (fa fb fc fd:EF) (ρ:List Ent):b2s g1 g2 g3 fa fb fc fd ρ=bnd (fa ρ) fun x=>bnd (fb ρ) fun y=>bnd (lft (g1 x y)) fun t=>if t then bnd (fc ρ) fun z=>bnd (lft (g2 y z)) fun u=>if u then bnd (fd ρ) fun w=>lft ((g3 z w).map .bool) else some (.ok (.bool false)) else some (.ok (.bool false)):=rfl
theorem a3d {ns:T0o} (h:∀ x∈ns,jP x=true):qV (.list (ns.map .str))=true:=tI (n:=1) (fun d hd=>by obtain ⟨i,hi,rfl⟩:=qH.mp hd;simpa [jv] using h i hi) (fun d hd=>by obtain ⟨i,_,rfl⟩:=qH.mp hd;simp [jf]) (by decide)
theorem a7H (i:Int):cG [.int i]=some (.ok (.bool true)):=by kernel_rfl
@[simp] theorem c0Z (a b c d e:α) (r:List α):atI (a::b::c::d::e::r) 4=some e:=by
 unfold atI ixN;rw [if_pos (by decide),if_pos (by simp<;>omega)];rfl
@[simp] theorem c0Y (a b c d e f:α) (r:List α):atI (a::b::c::d::e::f::r) 5=some f:=by
 unfold atI ixN;rw [if_pos (by decide),if_pos (by simp<;>omega)];rfl
theorem aQ {F:List j0→Mm j0} {aa:AF} {ρ:List Ent} {ds:T0j} {d:j0} (ha:aa ρ=some (.ok ds)) (h:F ds=some (.ok d)):aP F aa ρ=some (.ok d):=by
 rw [a3X,ha,cF,h]
theorem a2e {ft fu:TF} {ρ:List Ent} (h1:ft ρ=some (.ok false)) (h2:fu ρ=some (.ok false)):orT ft fu ρ=some (.ok false):=by
 rw [b0S,h1,cF,if_neg (by decide),h2]
theorem mW {fa fb:EF} {ρ:List Ent} {x y:j0} {r:Bool} (ha:fa ρ=some (.ok x)) (hb:fb ρ=some (.ok y)) (h:neD x y=some r):dL neD fa fb ρ=some (.ok r):=by
 rw [a6z,ha,cF,hb,cF,h];rfl
theorem lD {g:List j0→Option j0} {aa:AF} {ρ:List Ent} {ds:T0j} {d:j0} (ha:aa ρ=some (.ok ds)) (h:g ds=some d):fC g aa ρ=some (.ok d):=by
 rw [b2C,ha,cF,h];rfl
theorem a9U {f:TF} {ρ:List Ent} {b:Bool} (h:f (frzAll ρ)=some (.ok b)):thT f ρ=some (.ok b):=by unfold thT;rw [h]
theorem nN {fa:EF} {ρ:List Ent} {d:j0} {ds:T0j} (ha:fa ρ=some (.ok d)) (hd:uZ d=some ds):dQ fa ρ=some (.ok ds):=by
 rw [a5L,ha,cF,hd];rfl
theorem lW:∀ (l:T0j),(∀ d∈l,jI d d=true)→qt l l=true
 | [],_=>by simp [qt]
 | d::l,h=>by simp [qt,h d (by simp),lW l fun x hx=>h x (qD _ hx)]
abbrev Row:=Int×Int×Int
abbrev dR (r:Row):j0:=.tuple [.int r.1,.int r.2.1,.int r.2.2]
def jr:List Row→Row→List Row
 | [],r=>[r]
 | a::t,r=>if a.2.2=r.2.2 then (a.1,r.2.1,r.2.2)::t else r::a::t
def fP (rows:List Row):List Row:=(rows.foldl jr []).reverse
def RCh (f:Int→Int) (lo:Int):Int→List Row→Prop
 | hi,[]=>hi=lo
 | hi,r::t=>r.2.1=hi∧r.1<r.2.1∧(∀ x,r.1≤x→x<r.2.1→f x=r.2.2)∧RCh f lo r.1 t
def FCh (f:Int→Int) (hi:Int):Int→List Row→Prop
 | lo,[]=>lo=hi
 | lo,r::t=>r.1=lo∧r.1<r.2.1∧(∀ x,r.1≤x→x<r.2.1→f x=r.2.2)∧FCh f hi r.2.1 t
def Alt:List Row→Prop
 | a::b::t=>a.2.2≠b.2.2∧Alt (b::t)
 | _=>True
theorem xL {a r:Row} {t:List Row} (h:a.2.2=r.2.2):jr (a::t) r=(a.1,r.2.1,r.2.2)::t:=if_pos h
theorem xM {a r:Row} {t:List Row} (h:¬a.2.2=r.2.2):jr (a::t) r=r::a::t:=if_neg h
theorem b5x {f:Int→Int} {lo b e m:Int} (hbe:b<e) (hv:∀ x,b≤x→x<e→f x=m):∀ {acc:List Row},RCh f lo b acc→RCh f lo e (jr acc (b,e,m))
 | [],h=>⟨rfl,hbe,hv,h⟩
 | a::t,⟨h1,h2,h3,h4⟩=>by
  by_cases he:a.2.2=m
  ·rw [xL he]
   refine ⟨rfl,?_,fun x hx1 hx2=>?_,h4⟩
   ·show a.1<e;omega
   ·have hx1:a.1≤x:=hx1
    have hx2:x<e:=hx2;by_cases hx:x<b
    ·rw [h3 x hx1 (by omega)];exact he
    ·exact hv x (by omega) hx2
  ·rw [xM he]
   exact ⟨rfl,hbe,hv,h1,h2,h3,h4⟩
theorem b7j {b e m:Int}:∀ {acc:List Row},Alt acc→Alt (jr acc (b,e,m))
 | [],_=>trivial
 | [a],_=>by
  by_cases he:a.2.2=m
  ·rw [xL he];trivial
  ·rw [xM he];exact ⟨fun z=>he z.symm,trivial⟩
 | a::c::t,⟨h1,h2⟩=>by
  by_cases he:a.2.2=m
  ·rw [xL he]
   exact ⟨by show m≠c.2.2;rw [←he];exact h1,h2⟩
  ·rw [xM he]
   exact ⟨fun z=>he z.symm,h1,h2⟩
theorem a3H {f:Int→Int} {lo hi2:Int}:∀ {acc:List Row} {hi:Int} {tail:List Row},RCh f lo hi acc→FCh f hi2 hi tail→FCh f hi2 lo (acc.reverse++tail)
 | [],hi,tail,h,ht=>by have h:hi=lo:=h;subst h;simpa using ht
 | r::t,hi,tail,⟨h1,h2,h3,h4⟩,ht=>by
  rw [jd,jU];exact a3H h4 ⟨rfl,h2,h3,by rw [h1];exact ht⟩
theorem a5A:∀ {l t:List Row} {a:Row},Alt (l++[a])→Alt (a::t)→Alt (l++a::t)
 | [],t,a,_,h=>h
 | [b],t,a,⟨h1,_⟩,h=>⟨h1,h⟩
 | b::c::l,t,a,⟨h1,h2⟩,h=>⟨h1,a5A (l:=c::l) h2 h⟩
theorem a4e:∀ {acc:List Row},Alt acc→Alt acc.reverse
 | [],_=>trivial
 | [a],_=>trivial
 | a::b::t,⟨h1,h2⟩=>by
  have ih:=a4e h2;rw [jd] at ih ⊢;rw [jd,jU];exact a5A ih ⟨fun z=>h1 z.symm,trivial⟩
def prs {α:Type}:List α→List (α×α)
 | a::b::r=>(a,b)::prs (b::r)
 | _=>[]
def rowsOf (f:Int→Int) (cuts:T0q):List Row:=(prs cuts).map fun p=>(p.1,p.2,f p.1)
def lastOf:Int→List Int→Int
 | a,[]=>a
 | _,b::r=>lastOf b r
def Flat (f:Int→Int) (cuts:T0q):Prop:=∀ p∈prs cuts,p.1<p.2∧∀ x,p.1≤x→x<p.2→f x=f p.1
theorem a7A {f:Int→Int} {lo:Int}:∀ {r:T0q} {a:Int} {acc:List Row},Flat f (a::r)→RCh f lo a acc→RCh f lo (lastOf a r) ((rowsOf f (a::r)).foldl jr acc)
 | [],a,acc,_,h=>h
 | b::r,a,acc,hf,h=>by
  have h0:=hf (a,b) qS;have h1:Flat f (b::r):=fun p hp=>hf p (qD _ hp);have h2:RCh f lo b (jr acc (a,b,f a)):=b5x h0.1 h0.2 h;exact a7A (a:=b) (r:=r) h1 h2
theorem a5g:∀ {rows acc:List Row},Alt acc→Alt (rows.foldl jr acc)
 | [],_,h=>h
 | r::t,acc,h=>a5g (rows:=t) (b7j (b:=r.1) (e:=r.2.1) (m:=r.2.2) h)
theorem a8T {f:Int→Int} {a:Int} {r:T0q} (hf:Flat f (a::r)):FCh f (lastOf a r) a (fP (rowsOf f (a::r))):=by
 have:=a3H (hi2:=lastOf a r) (tail:=[]) (a7A (lo:=a) (acc:=[]) hf rfl) rfl
 rwa [ji] at this
theorem oF (rows:List Row):Alt (fP rows):=a4e (a5g (acc:=[]) trivial)
theorem a5f {f g:Int→Int} {lo hi:Int} (k:Int→Int) (hg:∀ x,g x=k (f x)):∀ {rows:List Row} {a:Int} {acc:List Row},FCh f hi a rows→RCh g lo a acc→RCh g lo hi ((rows.map fun r=>(r.1,r.2.1,k r.2.2)).foldl jr acc)
 | [],a,acc,h,h2=>by have h:a=hi:=h;subst h;exact h2
 | r::t,a,acc,⟨h1,h2,h3,h4⟩,hr=>by
  subst h1;have q:RCh g lo r.2.1 (jr acc (r.1,r.2.1,k r.2.2)):=b5x h2 (fun x q1 q2=>by rw [hg,h3 x q1 q2]) hr;exact a5f (a:=r.2.1) (acc:=jr acc (r.1,r.2.1,k r.2.2)) k hg h4 q
theorem a6j {f:Int→Int} {lo hi:Int} (k:Int→Int) {rows:List Row} (h:FCh f hi lo rows):FCh (fun x=>k (f x)) hi lo (fP (rows.map fun r=>(r.1,r.2.1,k r.2.2))):=by
 have:=a3H (hi2:=hi) (tail:=[]) (a5f (g:=fun x=>k (f x)) (lo:=lo) (acc:=[]) k (fun _=>rfl) h rfl) rfl
 rwa [ji] at this
theorem a1h {f:Int→Int} {hi:Int}:∀ {rows:List Row} {lo:Int},FCh f hi lo rows→lo≤hi∧∀ r∈rows,lo≤r.1∧r.1<r.2.1∧r.2.1≤hi
 | [],lo,h=>⟨by have h:lo=hi:=h;omega,fun _ z=>absurd z (by simp)⟩
 | r::t,lo,⟨h1,h2,h3,h4⟩=>by
  obtain ⟨i1,i2⟩:=a1h h4;refine ⟨by omega,fun q hq=>?_⟩;rcases qF.mp hq with rfl | hq
  ·exact ⟨by omega,h2,i1⟩
  ·have:=i2 q hq;omega
def a3o (rows:List Row):List (Int×Int):=(rows.filter fun r=>decide (r.2.2=1)).map fun r=>(r.1,r.2.1)
theorem tP:∀ (ns acc:T0q) (x:Int),x∈ns.foldl (fun a n=>if n∈a then a else a++[n]) acc↔x∈acc∨x∈ns
 | [],acc,x=>by simp
 | n::ns,acc,x=>by
  rw [jx,tP ns];by_cases h:n∈acc
  ·rw [if_pos h];simp;constructor
   ·rintro (h1 | h1);exact .inl h1;exact .inr (.inr h1)
   ·rintro (h1 | rfl | h1);exact .inl h1;exact .inl h;exact .inr h1
  ·rw [if_neg h];simp;constructor
   ·rintro ((h1 | h1) | h1);exact .inl h1;exact .inr (.inl h1);exact .inr (.inr h1)
   ·rintro (h1 | h1 | h1);exact .inl (.inl h1);exact .inl (.inr h1);exact .inr h1
theorem a8G (ns:T0q) (x:Int):x∈lA ns↔x∈ns:=by unfold lA;rw [tP];simp
theorem pC:∀ (ns acc:T0q),acc.Nodup→(ns.foldl (fun a n=>if n∈a then a else a++[n]) acc).Nodup
 | [],acc,h=>h
 | n::ns,acc,h=>by
  rw [jx];refine pC ns _ ?_;by_cases hn:n∈acc
  ·rw [if_pos hn];exact h
  ·rw [if_neg hn,kD]
   refine ⟨h,by simp,fun a ha b hb=>?_⟩;rw [qQ] at hb;subst hb;exact fun z=>hn (z▸ha)
theorem a4D (ns:T0q):(lA ns).Nodup:=pC ns [] List.nodup_nil
def ssI (ns:T0q):List Int:=sortI (lA ns)
theorem oY (ns:T0q):(sortI ns).Perm ns:=vn _ _
theorem a1B (ns:T0q):(sortI ns).Pairwise (·≤·):=by
 have h:=vJ (le:=fun (a b:Int)=>decide (a≤b)) (fun a b c h1 h2=>by simp only [decide_eq_true_eq] at *;omega) (fun a b=>by simp only [vc,decide_eq_true_eq];omega) ns;exact h.imp fun h=>by simpa using h
theorem b3X (ns:T0q) (x:Int):x∈ssI ns↔x∈ns:=by unfold ssI;rw [(oY _).mem_iff,a8G]
theorem b0l (ns:T0q):(ssI ns).Pairwise (·<·):=by
 have h1:=a1B (lA ns);have h2:(sortI (lA ns)).Nodup:=(oY _).nodup_iff.mpr (a4D ns);exact (h1.and h2).imp fun ⟨a,b⟩=>by omega
theorem a3k {α:Type} {p:α×α}:∀ {l:List α},p∈prs l→p.1∈l∧p.2∈l
 | [],h=>absurd h (by simp [prs])
 | [a],h=>absurd h (by simp [prs])
 | a::b::r,h=>by
  have h:p=(a,b)∨p∈prs (b::r):=by simpa [prs] using h
  rcases h with rfl | h
  ·exact ⟨qS,qD _ qS⟩
  ·exact ⟨qD _ (a3k h).1,qD _ (a3k h).2⟩
theorem a0L:∀ {c:T0q},c.Pairwise (·<·)→∀ p∈prs c,p.1<p.2∧∀ x∈c,x≤p.1∨p.2≤x
 | [],_,p,h=>absurd h (by simp [prs])
 | [a],_,p,h=>absurd h (by simp [prs])
 | a::b::r,hc,p,h=>by
  have hc':=hc;rw [qg] at hc;obtain ⟨ha,hr⟩:=hc;have hr':=hr;rw [qg] at hr';have h:p=(a,b)∨p∈prs (b::r):=by simpa [prs] using h
  rcases h with rfl | hq
  ·refine ⟨ha b qS,fun x hx=>?_⟩
   rcases qF.mp hx with rfl | hx
   ·left;exact jj _
   ·right
    rcases qF.mp hx with rfl | hx
    ·exact jj _
    ·exact zF (hr'.1 x hx)
  ·obtain ⟨i1,i2⟩:=a0L hr p hq
   refine ⟨i1,fun x hx=>?_⟩;rcases qF.mp hx with rfl | hx
   ·left
    have:p.1∈b::r:=(a3k hq).1;exact zF (ha _ this)
   ·exact i2 x hx
theorem a6M {α:Type} (φ:α→j0):∀ xs:List α,a4h (xs.map φ) ((xs.map φ).drop 1)=(prs xs).map fun p=>.tuple [φ p.1,φ p.2]
 | []=>rfl
 | [a]=>rfl
 | a::b::r=>by
  have ih:=a6M φ (b::r);simp only [a4h,prs,qU,List.drop_one,List.tail_cons,List.zip_cons_cons] at ih ⊢;rw [ih]
theorem b9h (ds:T0j):cutD ds (some 1) none=ds.drop 1:=by
 unfold cutD;have e:HT.sIx ds.length 0 (some 1)=min 1 ds.length:=by
  unfold HT.sIx;dsimp only;rw [if_neg (by decide)];rfl
 have e2:HT.sIx ds.length ds.length none=ds.length:=rfl;rw [e,e2];by_cases h:1≤ds.length
 ·rw [Nat.min_eq_left h,kM (by simp)]
 ·have:ds=[]:=by cases ds with
   | nil=>rfl
   | cons a r=>simp at h
  subst this;rfl
theorem a8f {ns:T0q} (h:ns.length<64):a1S (.list (ns.map .int))=some (.list ((ssI ns).map .int)):=by
 unfold a1S;dsimp only;rw [mY];dsimp only;rw [if_pos h];rfl
theorem b5g {α:Type} {ρ:List Ent} {fa:EF} (φ:α→j0) {xs:List α} (h:fa ρ=some (.ok (.list (xs.map φ)))):a9D fa (slE fa (a2g (cst (.int 1))) a2h) ρ=some (.ok ((prs xs).map fun p=>.tuple [φ p.1,φ p.2])):=by
 have hs:slE fa (a2g (cst (.int 1))) a2h ρ=some (.ok (.list ((xs.map φ).drop 1))):=by
  unfold slE a2g a2h;rw [a4a h];simp only [b5F,cF,b7r,Option.map_some,a4P];unfold slD;dsimp only;rw [b9h];rfl
 unfold a9D;rw [h,hs];dsimp only;rw [a6M]
abbrev a8c:TF:=thT (a5z (uS (var 1)) (dL eqD (op2 ixD (op2 ixD (var 1) (op1 pD (cst (.int 1)))) (cst (.int 2))) (var 4)))
abbrev a9w:SF:=ifS a8c (b3h 1 (op1 pD (cst (.int 1))) (fY (aC (thE (op2 ixD (op2 ixD (var 1) (op1 pD (cst (.int 1)))) (cst (.int 0)))) (aC (var 3) (aC (var 4) aH))))) (uN 1 (fY (aC (var 2) (aC (var 3) (aC (var 4) aH)))))
def a1l:SF:=(bC (a3q 1 aH) (bC (a1J (.tp [2,3,4]) (dQ (var 0)) a9w) (a1f 1 (retS (var 1)))))
def nE:List j0→Mm j0:=dB 5 1 a1l
abbrev a4X:EF:=cN (.tp [0,1,2]) [none,none,none,some 1] (dQ (var 0)) (b4U leD ltD (var 1) (var 3) (var 2)) (var 0)
def sU:SF:=(retS a4X)
def oN:List j0→Mm j0:=dB 2 2 sU
def xR:SF:=(retS (fC xI (aC (aP oN (aC (var 0) (aC (var 1) aH))) aH)))
def dI:List j0→Mm j0:=dB 2 2 xR
abbrev b1s:EF:=cN (.tp [0,1,2]) [none,none,none] (dQ (var 0)) ttT (var 1)
abbrev b1r:EF:=cN (.tp [0,1,2]) [none,none,none] (dQ (var 0)) ttT (var 2)
abbrev b1p:EF:=cN (.tp [0,1]) [none,none,some 0] (a9C (var 3) (slE (var 3) (a2g (cst (.int 1))) a2h)) ttT (fY (aC (var 0) (aC (var 1) (aC (aP dI (aC (var 2) (aC (var 0) aH))) aH))))
def a3I:SF:=(bC (iG 1 b1s) (bC (iG 2 b1r) (bC (iG 3 (op1 a1S (op2 cY (var 1) (var 2)))) (retS (aP nE (aC b1p aH))))))
def mB:List j0→Mm j0:=dB 4 1 a3I
abbrev b4c:EF:=cN (.tp [0,1,2]) [none,none,none] (dQ (aP mB (aC (var 0) aH))) ttT (fY (aC (var 0) (aC (var 1) (aC (fC a8F (aC (var 2) (aC (cst (.int 1)) aH))) aH))))
abbrev b4b:EF:=cN (.tp [0,1,2]) [none,none,none] (dQ (var 1)) (dL eqD (var 2) (cst (.int 1))) (fY (aC (var 0) (aC (var 1) aH)))
def a6t:SF:=(bC (iG 1 (aP nE (aC b4c aH))) (retS b4b))
def a1A:List j0→Mm j0:=dB 2 1 a6t
theorem b2I {α:Type} {ρ:List Ent} {fa:EF} (φ:α→j0) {xs:List α} (h:fa ρ=some (.ok (.list (xs.map φ)))):a9C fa (slE fa (a2g (cst (.int 1))) a2h) ρ=some (.ok ((prs xs).map fun p=>.tuple [φ p.1,φ p.2])):=by
 have z:=b5g φ h;unfold a9C;rw [z]
def dZ (m:Int) (x:Mt):Bool:=decide (x.2.1≤m)&&decide (m<x.2.2)
def iJ (s:List Mt) (m:Int):List Str:=(s.filter (dZ m)).map (·.1)
def aX (s:List Mt) (m:Int):Int:=((iJ s m).length:Nat)
theorem a6v (s:List Mt) (m:Int) (h:s.length≤100000):oN [dS s,.int m]=some (.ok (.list ((iJ s m).map .str))):=by
 refine bF rfl ?_;show sU [.val (dS s),.val (.int m)]=_;unfold sU;have:=nA (t:=.tp [0,1,2]) (cap:=[none,none,none,some 1]) (fi:=dQ (var 0)) (ft:=b4U leD ltD (var 1) (var 3) (var 2)) (fe:=var 0) (ρ:=[.val (dS s),.val (.int m)]) dM (fun x=>[.val (.str x.1),.val (.int x.2.1),.val (.int x.2.2),.val (.int m)]) (dZ m) (fun x=>.str x.1) s rfl h (fun x _=>rfl) (fun x _=>by simp [b4f,dZ]) (fun x _ _=>rfl);rw [dW,iB this];simp [iJ]
theorem rJ (s:List Mt) (m:Int) (h:s.length≤100000):dI [dS s,.int m]=some (.ok (.int (aX s m))):=by
 refine bF rfl ?_;show xR [.val (dS s),.val (.int m)]=_;simp [xR,a6v s m h,aX]
theorem a5m (rows:List Row) (h:rows.length≤1000):nE [.list (rows.map dR)]=some (.ok (.list ((fP rows).map dR))):=by
 refine bF rfl ?_;show a1l [.val (.list (rows.map dR)),.no,.no,.no,.no]=_;unfold a1l;rw [aT (ρ':=[.val (.list (rows.map dR)),.lst [],.no,.no,.no]) (by simp)];have turns:=rC (t:=.tp [2,3,4]) dR (fun m ρ=>∃ x y z,ρ=[.val (.list (rows.map dR)),.lst (((rows.take m).foldl jr []).reverse.map dR),x,y,z])
  (fb:=(ifS (thT (a5z (uS (var 1)) (dL eqD (op2 ixD (op2 ixD (var 1) (op1 pD (cst (.int 1)))) (cst (.int 2))) (var 4)))) (b3h 1 (op1 pD (cst (.int 1))) (fY (aC (thE (op2 ixD (op2 ixD (var 1) (op1 pD (cst (.int 1)))) (cst (.int 0)))) (aC (var 3) (aC (var 4) aH))))) (uN 1 (fY (aC (var 2) (aC (var 3) (aC (var 4) aH)))))))
  rows 0 [.val (.list (rows.map dR)),.lst [],.no,.no,.no] ⟨.no,.no,.no,rfl⟩ (by
   intro k r ρ hk ⟨x,y,z,e⟩;subst e;have hk1:k<rows.length:=(qY.mp hk).1;have hj:∀ (acc:List Row) (a:Row),(jr acc a).length≤acc.length+1:=by
    intro acc a;cases acc with
    | nil=>simp [jr]
    | cons c t=>
     by_cases hc:c.2.2=a.2.2
     ·rw [xL hc];simp
     ·rw [xM hc];simp
   have hlen:∀ (l acc:List Row),(l.foldl jr acc).length≤acc.length+l.length:=by
    intro l
    induction l with
    | nil=>intro acc;simp
    | cons a l ih=>
     intro acc;have:=ih (jr acc a);have h2:=hj acc a;simp only [jx,qZ];omega
   have hl:=hlen (rows.take k) [];rw [jZ] at hl;have stp:(rows.take (k+1)).foldl jr []=jr ((rows.take k).foldl jr []) r:=by
    rw [vi,hk,List.foldl_append];rfl
   rw [vR,stp];generalize (rows.take k).foldl jr []=acc at hl ⊢;have ap:uN 1 (fY (aC (var 2) (aC (var 3) (aC (var 4) aH)))) [.val (.list (rows.map dR)),.lst (acc.reverse.map dR),.val (.int r.1),.val (.int r.2.1),.val (.int r.2.2)]=some (.nx [.val (.list (rows.map dR)),.lst (acc.reverse.map dR++[dR r]),.val (.int r.1),.val (.int r.2.1),.val (.int r.2.2)]):=
    uM rfl (by simp) (by simp at hl ⊢;omega)
   cases acc with
   | nil=>
    refine ⟨[.val (.list (rows.map dR)),.lst [],.val (.int r.1),.val (.int r.2.1),.val (.int r.2.2)],[.val (.list (rows.map dR)),.lst [dR r],.val (.int r.1),.val (.int r.2.1),.val (.int r.2.2)],rfl,.inl ?_,.val (.int r.1),.val (.int r.2.1),.val (.int r.2.2),rfl⟩;have ht:thT (a5z (uS (var 1)) (dL eqD (op2 ixD (op2 ixD (var 1) (op1 pD (cst (.int 1)))) (cst (.int 2))) (var 4))) [.val (.list (rows.map dR)),.lst [],.val (.int r.1),.val (.int r.2.1),.val (.int r.2.2)]=some (.ok false):=by
     simp [thT,frzAll,iL]
    rw [lV,iB ht];exact ap
   | cons a t=>
    have er:(a::t).reverse.map dR=t.reverse.map dR++[dR a]:=by simp
    have ll:(t.reverse.map dR).length=t.length:=by simp
    rw [er] at ap ⊢;generalize hL:t.reverse.map dR=L at ap ll ⊢;have hlast:atI (L++[dR a]) (-1)=some (dR a):=a7U _ _;have ht:thT (a5z (uS (var 1)) (dL eqD (op2 ixD (op2 ixD (var 1) (op1 pD (cst (.int 1)))) (cst (.int 2))) (var 4))) [.val (.list (rows.map dR)),.lst (L++[dR a]),.val (.int r.1),.val (.int r.2.1),.val (.int r.2.2)]=some (.ok (decide (a.2.2=r.2.2))):=by
     simp [thT,frzAll,iL,hlast]
    have ht0:thE (op2 ixD (op2 ixD (var 1) (op1 pD (cst (.int 1)))) (cst (.int 0))) [.val (.list (rows.map dR)),.lst (L++[dR a]),.val (.int r.1),.val (.int r.2.1),.val (.int r.2.2)]=some (.ok (.int a.1)):=by
     simp [thE,frzAll,iL,hlast,xB]
    by_cases he:a.2.2=r.2.2
    ·refine ⟨[.val (.list (rows.map dR)),.lst (L++[dR a]),.val (.int r.1),.val (.int r.2.1),.val (.int r.2.2)],[.val (.list (rows.map dR)),.lst (L++[dR (a.1,r.2.1,r.2.2)]),.val (.int r.1),.val (.int r.2.1),.val (.int r.2.2)],rfl,.inl ?_,.val (.int r.1),.val (.int r.2.1),.val (.int r.2.2),?_⟩
     ·rw [lV,iB ht,if_pos (by simpa using he)]
      have hix:ixN ((L++[dR a]).length) (-1)=some L.length:=by
       unfold ixN;rw [if_neg (by decide),if_pos (by simp;omega)];simp;omega
      unfold b3h;rw [iB (a:=dR (a.1,r.2.1,r.2.2)) (by simp only [a0q,fX,ht0,cF,a6O,a4j,a1z,a7j];rfl)];show (match ixN ((L++[dR a]).length) (-1) with | some j=>some (So.nx [.val (.list (rows.map dR)),.lst ((L++[dR a]).set j (dR (a.1,r.2.1,r.2.2))),.val (.int r.1),.val (.int r.2.1),.val (.int r.2.2)]) | none=>none)=_;rw [hix];simp
     ·rw [xL he,jd,jS,hL];rfl
    ·refine ⟨[.val (.list (rows.map dR)),.lst (L++[dR a]),.val (.int r.1),.val (.int r.2.1),.val (.int r.2.2)],[.val (.list (rows.map dR)),.lst (L++[dR a]++[dR r]),.val (.int r.1),.val (.int r.2.1),.val (.int r.2.2)],rfl,.inl ?_,.val (.int r.1),.val (.int r.2.1),.val (.int r.2.2),?_⟩
     ·rw [lV,iB ht,if_neg (by simpa using he)]
      exact ap
     ·rw [xM he,jd,jS,er,hL];rfl)
 obtain ⟨ρ',e,x,y,z,rfl⟩:=turns;rw [vR,wQ] at e;rw [aT (by rw [sQ];simp only [a5L,a4j,cF,b6g,a4P,lC];exact e)];show retS (var 1) [.val (.list (rows.map dR)),.val (.list ((rows.foldl jr []).reverse.map dR)),x,y,z]=_;simp [fP]
def cutsOf (s:List Mt):List Int:=ssI (s.map (·.2.1)++s.map (·.2.2))
def bU (s:List Mt):List Row:=fP (rowsOf (aX s) (cutsOf s))
def eR (s:List Mt):List Row:=fP ((bU s).map fun r=>(r.1,r.2.1,min r.2.2 1))
def lB (s:List Mt):List (Int×Int):=a3o (eR s)
abbrev dP (p:Int×Int):j0:=.tuple [.int p.1,.int p.2]
theorem a3l {α:Type}:∀ l:List α,(prs l).length≤l.length
 | []=>by simp [prs]
 | [a]=>by simp [prs]
 | a::b::r=>by have:=a3l (b::r);simp only [prs,qZ] at this ⊢;omega
theorem oM:∀ (ns acc:T0q),(ns.foldl (fun a n=>if n∈a then a else a++[n]) acc).length≤acc.length+ns.length
 | [],acc=>by simp
 | n::ns,acc=>by
  rw [jx];by_cases h:n∈acc
  ·rw [if_pos h];have:=oM ns acc;simp only [qZ];omega
  ·rw [if_neg h];have:=oM ns (acc++[n]);simp only [qh,qZ,List.length_nil] at this ⊢;omega
theorem b2T (ns:T0q):(ssI ns).length≤ns.length:=by
 unfold ssI;rw [(oY _).length_eq];have:=oM ns [];simpa [lA] using this
theorem sO (rows:List Row):(fP rows).length≤rows.length:=by
 have hj:∀ (acc:List Row) (a:Row),(jr acc a).length≤acc.length+1:=by
  intro acc a;cases acc with
  | nil=>simp [jr]
  | cons c t=>
   by_cases hc:c.2.2=a.2.2
   ·rw [xL hc];simp
   ·rw [xM hc];simp
 have hlen:∀ (l acc:List Row),(l.foldl jr acc).length≤acc.length+l.length:=by
  intro l
  induction l with
  | nil=>intro acc;simp
  | cons a l ih=>
   intro acc;have:=ih (jr acc a);have h2:=hj acc a;simp only [jx,qZ];omega
 have:=hlen rows [];unfold fP;simpa using this
theorem a5q (s:List Mt):(cutsOf s).length≤2*s.length:=by
 have:=b2T (s.map (·.2.1)++s.map (·.2.2));simp only [qh,qE] at this;unfold cutsOf;omega
theorem uT (s:List Mt):(bU s).length≤2*s.length:=by
 have h1:=sO (rowsOf (aX s) (cutsOf s));have h2:=a3l (cutsOf s);have h3:=a5q s;unfold bU;simp only [rowsOf,qE] at h1 ⊢;omega
theorem a3K (s:List Mt) (h:s.length≤30):mB [dS s]=some (.ok (.list ((bU s).map dR))):=by
 refine bF rfl ?_;show a3I [.val (dS s),.no,.no,.no]=_;unfold a3I;have c1:=bM (t:=.tp [0,1,2]) (cap:=[none,none,none]) (fi:=dQ (var 0)) (fe:=var 1) (ρ:=[.val (dS s),.no,.no,.no]) dM (fun x=>[.val (.str x.1),.val (.int x.2.1),.val (.int x.2.2)]) (fun x=>.int x.2.1) s rfl (by omega) (fun x _=>rfl) (fun x _=>rfl);rw [aT (ρ':=[.val (dS s),.val (.list ((s.map (·.2.1)).map .int)),.no,.no]) (by rw [oZ,iB c1];simp [qP,wI])];have c2:=bM (t:=.tp [0,1,2]) (cap:=[none,none,none]) (fi:=dQ (var 0)) (fe:=var 2) (ρ:=[.val (dS s),.val (.list ((s.map (·.2.1)).map .int)),.no,.no]) dM (fun x=>[.val (.str x.1),.val (.int x.2.1),.val (.int x.2.2)]) (fun x=>.int x.2.2) s rfl (by omega) (fun x _=>rfl) (fun x _=>rfl);rw [aT (ρ':=[.val (dS s),.val (.list ((s.map (·.2.1)).map .int)),.val (.list ((s.map (·.2.2)).map .int)),.no]) (by rw [oZ,iB c2];simp [qP,wI])];have c3:op1 a1S (op2 cY (var 1) (var 2)) [.val (dS s),.val (.list ((s.map (·.2.1)).map .int)),.val (.list ((s.map (·.2.2)).map .int)),.no]=some (.ok (.list ((cutsOf s).map .int))):=by
  have ha:cY (.list ((s.map (·.2.1)).map .int)) (.list ((s.map (·.2.2)).map .int))=some (.list ((s.map (·.2.1)++s.map (·.2.2)).map .int)):=by
   rw [b2J,if_pos (by simp;omega),jS]
  have hs:=a8f (ns:=s.map (·.2.1)++s.map (·.2.2)) (by simp;omega);simp only [b0W,a4A,a6O,a4j,cF,ha,a4P,hs];rfl
 rw [aT (ρ':=[.val (dS s),.val (.list ((s.map (·.2.1)).map .int)),.val (.list ((s.map (·.2.2)).map .int)),.val (.list ((cutsOf s).map .int))]) (by rw [oZ,iB c3];rfl)];have z:=b2I (fa:=var 3) (ρ:=[.val (dS s),.val (.list ((s.map (·.2.1)).map .int)),.val (.list ((s.map (·.2.2)).map .int)),.val (.list ((cutsOf s).map .int))]) jY (xs:=cutsOf s) rfl;have hl:=a3l (cutsOf s);have hc:=a5q s;have c4:=bM (t:=.tp [0,1]) (cap:=[none,none,some 0]) (fe:=fY (aC (var 0) (aC (var 1) (aC (aP dI (aC (var 2) (aC (var 0) aH))) aH)))) (fun p:Int×Int=>.tuple [.int p.1,.int p.2]) (fun p=>[.val (.int p.1),.val (.int p.2),.val (dS s)]) (fun p=>dR (p.1,p.2,aX s p.1)) (prs (cutsOf s)) z (by omega) (fun x _=>rfl) (fun x _=>by simp [rJ s x.1 (by omega)]);have c5:(prs (cutsOf s)).map (fun p=>dR (p.1,p.2,aX s p.1))=(rowsOf (aX s) (cutsOf s)).map dR:=by simp [rowsOf]
 rw [c5] at c4;have ej:=a5m (rowsOf (aX s) (cutsOf s)) (by simp [rowsOf];omega);simp only [dW,a3X,fX,a4a c4,a1z,cF,ej,lC];rfl
theorem b1W (s:List Mt) (h:s.length≤30):a1A [dS s]=some (.ok (.list ((lB s).map dP))):=by
 refine bF rfl ?_;show a6t [.val (dS s),.no]=_;unfold a6t;have hl:=uT s;have c1:=bM (t:=.tp [0,1,2]) (cap:=[none,none,none]) (fi:=dQ (aP mB (aC (var 0) aH))) (fe:=fY (aC (var 0) (aC (var 1) (aC (fC a8F (aC (var 2) (aC (cst (.int 1)) aH))) aH)))) (ρ:=[.val (dS s),.no]) dR (fun x=>[.val (.int x.1),.val (.int x.2.1),.val (.int x.2.2)]) (fun x=>dR (x.1,x.2.1,min x.2.2 1)) (bU s) (by simp [a3K s h]) (by omega) (fun x _=>rfl) (fun x _=>by simp);have c2:(bU s).map (fun x=>dR (x.1,x.2.1,min x.2.2 1))=((bU s).map fun r=>(r.1,r.2.1,min r.2.2 1)).map dR:=by simp
 rw [c2] at c1;have ej:=a5m ((bU s).map fun r=>(r.1,r.2.1,min r.2.2 1)) (by simp;omega);have hl2:=sO ((bU s).map fun r=>(r.1,r.2.1,min r.2.2 1));rw [qE] at hl2;rw [aT (ρ':=[.val (dS s),.val (.list ((eR s).map dR))]) (by simp only [oZ,a3X,fX,a4a c1,a1z,cF,ej,lC];rfl)];have c3:=nA (t:=.tp [0,1,2]) (cap:=[none,none,none]) (fi:=dQ (var 1)) (ft:=dL eqD (var 2) (cst (.int 1))) (fe:=fY (aC (var 0) (aC (var 1) aH))) (ρ:=[.val (dS s),.val (.list ((eR s).map dR))]) dR (fun x=>[.val (.int x.1),.val (.int x.2.1),.val (.int x.2.2)]) (fun r=>decide (r.2.2=1)) (fun r=>dP (r.1,r.2.1)) (eR s) rfl (by unfold eR;omega) (fun x _=>rfl) (fun x _=>by simp) (fun x _ _=>by simp);rw [dW,iB c3];simp [lB,a3o]
theorem iT {s:List Mt} (x:Int):x∈cutsOf s↔(∃ m∈s,m.2.1=x)∨∃ m∈s,m.2.2=x:=by
 unfold cutsOf;rw [b3X];simp
theorem a8L {s:List Mt}:Flat (aX s) (cutsOf s):=by
 intro p hp;obtain ⟨h1,h2⟩:=a0L (b0l _) p hp;refine ⟨h1,fun x q1 q2=>?_⟩;unfold aX iJ;have:s.filter (dZ x)=s.filter (dZ p.1):=by
  apply km;intro m hm;have b1:=h2 m.2.1 ((iT _).mpr (.inl ⟨m,hm,rfl⟩));have b2:=h2 m.2.2 ((iT _).mpr (.inr ⟨m,hm,rfl⟩));unfold dZ;have e1:(m.2.1≤x)=(m.2.1≤p.1):=propext ⟨fun _=>by omega,fun _=>by omega⟩;have e2:(x<m.2.2)=(p.1<m.2.2):=propext ⟨fun _=>by omega,fun _=>by omega⟩;simp only [e1,e2]
 rw [this]
structure Ends' (s:List Mt) (lo hi:Int) (r:T0q):Prop where
 eq:cutsOf s=lo::r
 last:lastOf lo r=hi
 lo_le:∀ x∈s,lo≤x.2.1
 hi_ge:∀ x∈s,x.2.2≤hi
theorem a4S:∀ (a:Int) (r:T0q),lastOf a r∈a::r
 | a,[]=>qS
 | a,b::r=>qD _ (a4S b r)
theorem a3C:∀ {a:Int} {r:T0q},(a::r).Pairwise (·<·)→∀ x∈a::r,x≤lastOf a r
 | a,[],_,x,hx=>by simp at hx;subst hx;exact jj _
 | a,b::r,h,x,hx=>by
  rw [qg] at h;rcases qF.mp hx with rfl | hx
  ·exact zF (Int.lt_of_lt_of_le (h.1 b qS) (a3C h.2 b qS))
  ·exact a3C h.2 x hx
theorem a0k {s:List Mt} (h:s≠[]):∃ lo hi r,Ends' s lo hi r:=by
 cases hc:cutsOf s with
 | nil=>
  exfalso;cases s with
  | nil=>exact h rfl
  | cons x s=>have:=(iT (s:=x::s) x.2.1).mpr (.inl ⟨x,qS,rfl⟩);rw [hc] at this;simp at this
 | cons lo r=>
  have hp:(lo::r).Pairwise (·<·):=by rw [←hc];exact b0l _
  refine ⟨lo,lastOf lo r,r,hc,rfl,fun x hx=>?_,fun x hx=>?_⟩
  ·have:=(iT (s:=s) x.2.1).mpr (.inl ⟨x,hx,rfl⟩)
   rw [hc] at this;rw [qg] at hp;rcases qF.mp this with h | h
   ·omega
   ·exact zF (hp.1 _ h)
  ·have:=(iT (s:=s) x.2.2).mpr (.inr ⟨x,hx,rfl⟩)
   rw [hc] at this;exact a3C hp _ this
section
variable {s:List Mt} {lo hi:Int} {r:T0q}
theorem Ends'.steps (E:Ends' s lo hi r):FCh (aX s) hi lo (bU s):=by
 unfold bU;have h:=a8L (s:=s);rw [E.eq] at h ⊢;rw [←E.last];exact a8T h
theorem Ends'.busy (E:Ends' s lo hi r):FCh (fun x=>min (aX s x) 1) hi lo (eR s):=a6j (fun v=>min v 1) E.steps
end
theorem b2A (s:List Mt):(lB s).length≤2*s.length:=by
 have bl:=sO ((bU s).map fun r=>(r.1,r.2.1,min r.2.2 1));have sl:=uT s;rw [qE] at bl;unfold lB a3o eR;rw [qE];exact ql (vS _ _) (by omega)
theorem b5p (l:List (Int×Int)):qV (.list (l.map dP))=true:=tI (n:=2) (fun d hd=>by obtain ⟨i,_,rfl⟩:=qH.mp hd;simp [jv,vQ]) (fun d hd=>by obtain ⟨i,_,rfl⟩:=qH.mp hd;simp [jf,kq]) (by decide)
theorem b5o (l:List Row):qV (.list (l.map dR))=true:=tI (n:=2) (fun d hd=>by obtain ⟨i,_,rfl⟩:=qH.mp hd;simp [jv,vQ]) (fun d hd=>by obtain ⟨i,_,rfl⟩:=qH.mp hd;simp [jf,kq]) (by decide)
theorem ifF {t:TF} {f:SF} {g:SF} {ρ:List Ent} (h:t ρ=some (.ok false)):bC (ifS t f mL) g ρ=g ρ:=aT (by rw [lV,iB h];rfl)
def gr:List Mt→Option Int→List Mt
 | [],_=>[]
 | m::r,none=>m::gr r (some m.2.2)
 | m::r,some e=>if e≤m.2.1 then m::gr r (some m.2.2) else gr r (some e)
def bef (a b:Mt):Prop:=a.2.2≤b.2.1
def yD (a b:Mt):Prop:=bef a b∨bef b a
def onT (m:Mt) (p:Int):Prop:=m.2.1≤p∧p<m.2.2
theorem xP:∀ (l:List Mt) (o:Option Int),(gr l o).Sublist l
 | [],_=>.slnil
 | m::r,none=>(xP r _).cons₂ m
 | m::r,some e=>by
  unfold gr;split
  ·exact (xP r _).cons₂ m
  ·exact (xP r _).cons m
theorem a7y:∀ (l:List Mt) (e:Int),(∀ m∈l,m.2.1<m.2.2)→∀ m∈gr l (some e),e≤m.2.1
 | [],_,_,m,h=>by cases h
 | x::r,e,hp,m,h=>by
  unfold gr at h;split at h
  ·rename_i hc
   rcases qF.mp h with rfl | h
   ·exact hc
   ·have:=a7y r x.2.2 (fun m hm=>hp m (qD _ hm)) m h
    have:=hp x (by simp);omega
  ·exact a7y r e (fun m hm=>hp m (qD _ hm)) m h
theorem tY:∀ (l:List Mt) (o:Option Int),(∀ m∈l,m.2.1<m.2.2)→(gr l o).Pairwise bef
 | [],_,_=>.nil
 | x::r,none,hp=>.cons (fun m hm=>a7y r _ (fun m hm=>hp m (qD _ hm)) m hm) (tY r _ fun m hm=>hp m (qD _ hm))
 | x::r,some e,hp=>by
  unfold gr;split
  ·exact .cons (fun m hm=>a7y r _ (fun m hm=>hp m (qD _ hm)) m hm) (tY r _ fun m hm=>hp m (qD _ hm))
  ·exact tY r _ fun m hm=>hp m (qD _ hm)
theorem a6n:∀ (l:List Mt) (e:Int),(∀ m∈l,m.2.1<m.2.2)→l.Pairwise (fun a b=>a.2.2≤b.2.2)→(∀ m∈l,e≤m.2.2)→∀ m∈l,onT m (e - 1)∨∃ c∈gr l (some e),onT m (c.2.2 - 1)
 | [],_,_,_,_,m,h=>by cases h
 | x::r,e,hp,hs,he,m,h=>by
  have hp':∀ m∈r,m.2.1<m.2.2:=fun m hm=>hp m (qD _ hm);cases hs with | cons h1 h2=>
  have hx:=hp x (by simp);unfold gr;split
  ·rename_i hc
   rcases qF.mp h with rfl | h
   ·exact .inr ⟨m,by simp,by unfold onT;omega⟩
   ·rcases a6n r x.2.2 hp' h2 (fun m hm=>h1 m hm) m h with z | ⟨c,hc,z⟩
    ·exact .inr ⟨x,by simp,z⟩
    ·exact .inr ⟨c,qD _ hc,z⟩
  ·rename_i hc
   rcases qF.mp h with rfl | h
   ·have:=he m (by simp)
    exact .inl (by unfold onT;omega)
   ·exact a6n r e hp' h2 (fun m hm=>he m (qD _ hm)) m h
theorem b4o {l:List Mt} (hp:∀ m∈l,m.2.1<m.2.2) (hs:l.Pairwise (fun a b=>a.2.2≤b.2.2)):∀ m∈l,∃ c∈gr l none,onT m (c.2.2 - 1):=by
 cases l with
 | nil=>intro m h;cases h
 | cons x r=>
  intro m h;cases hs with | cons h1 h2=>
  have hx:=hp x (by simp);show ∃ c∈x::gr r (some x.2.2),_;rcases qF.mp h with rfl | h
  ·exact ⟨m,by simp,by unfold onT;omega⟩
  ·rcases a6n r x.2.2 (fun m hm=>hp m (qD _ hm)) h2 (fun m hm=>h1 m hm) m h with z | ⟨c,hc,z⟩
   ·exact ⟨x,by simp,z⟩
   ·exact ⟨c,qD _ hc,z⟩
theorem a2T:∀ (ps:T0q) (F:List Mt),F.Pairwise yD→(∀ m∈F,∃ p∈ps,onT m p)→F.length≤ps.length
 | [],F,_,h=>by
  cases F with
  | nil=>simp
  | cons m r=>obtain ⟨p,hp,_⟩:=h m (by simp);cases hp
 | p::ps,F,ha,h=>by
  have:∀ F:List Mt,F.Pairwise yD→F.length≤(F.filter fun m=>!(decide (m.2.1≤p)&&decide (p<m.2.2))).length+1:=by
   intro F
   induction F with
   | nil=>intro _;simp
   | cons m r ih=>
    intro ha;cases ha with | cons h1 h2=>
    by_cases c:m.2.1≤p∧p<m.2.2
    ·have all:r.filter (fun m=>!(decide (m.2.1≤p)&&decide (p<m.2.2)))=r:=List.filter_eq_self.mpr fun n hn=>by
      have:=h1 n hn;unfold yD bef at this;have:¬(n.2.1≤p∧p<n.2.2):=by omega
      simp only [kG,Bool.and_eq_false_iff,decide_eq_false_iff_not];omega
     rw [List.filter_cons,all];simp only [qZ];split<;>simp<;>omega
    ·have e:(!(decide (m.2.1≤p)&&decide (p<m.2.2)))=true:=by
      simp only [kG,Bool.and_eq_false_iff,decide_eq_false_iff_not];omega
     rw [List.filter_cons,if_pos e];simp only [qZ];have:=ih h2;omega
  have h1:=this F ha
  have h2:=a2T ps (F.filter fun m=>!(decide (m.2.1≤p)&&decide (p<m.2.2))) (ha.filter _) (fun m hm=>by
   obtain ⟨hm,hc⟩:=kU.mp hm;obtain ⟨q,hq,hon⟩:=h m hm;rcases qF.mp hq with rfl | hq
   ·unfold onT at hon
    simp [hon.1,hon.2] at hc
   ·exact ⟨q,hq,hon⟩)
  simp only [qZ];omega
theorem b4n {l F:List Mt} (hp:∀ m∈l,m.2.1<m.2.2) (hs:l.Pairwise (fun a b=>a.2.2≤b.2.2)) (ha:F.Pairwise yD) (hF:∀ m∈F,m∈l):F.length≤(gr l none).length:=by
 have:=a2T ((gr l none).map fun c=>c.2.2 - 1) F ha (fun m hm=>by
  obtain ⟨c,hc,z⟩:=b4o hp hs m (hF m hm)
  exact ⟨_,qz hc,z⟩)
 simpa using this
theorem a7i {l l':List Mt} (hp:∀ m∈l,m.2.1<m.2.2) (hs:l'.Pairwise (fun a b=>a.2.2≤b.2.2)) (h:l'.Perm l):∃ F:List Mt,F.Pairwise yD∧(∀ m∈F,m∈l)∧F.length=(gr l' none).length∧∀ F:List Mt,F.Pairwise yD→(∀ m∈F,m∈l)→F.length≤(gr l' none).length:=by
 have hp':∀ m∈l',m.2.1<m.2.2:=fun m hm=>hp m (h.mem_iff.mp hm);exact ⟨gr l' none,(tY l' none hp').imp fun h=>.inl h,fun m hm=>h.mem_iff.mp ((xP l' none).subset hm),rfl,fun F a b=>b4n hp' hs a fun m hm=>h.mem_iff.mpr (b m hm)⟩
def a6l (kf:Mt→j0) (x:Mt):List Mt→List Mt
 | []=>[x]
 | y::l=>if ltT (kf y) (kf x) then y::a6l kf x l else x::y::l
def a2Z (kf:Mt→j0) (s:List Mt):List Mt:=s.foldr (a6l kf) []
section
variable {kf:Mt→j0}
theorem a5a (x:Mt):∀ l:List Mt,(a6l kf x l).map kf=a1H (kf x) (l.map kf)
 | []=>rfl
 | y::l=>by
  show List.map kf (if ltT (kf y) (kf x) then y::a6l kf x l else x::y::l)=(if ltT (kf y) (kf x) then kf y::a1H (kf x) (l.map kf) else kf x::kf y::l.map kf);split
  ·rw [qU,a5a x l]
  ·rfl
theorem oX:∀ s:List Mt,(a2Z kf s).map kf=sB (s.map kf)
 | []=>rfl
 | x::s=>by
  show (a6l kf x (a2Z kf s)).map kf=a1H (kf x) (sB (s.map kf));rw [a5a,oX s]
theorem a2v (x:Mt):∀ l:List Mt,(a6l kf x l).Perm (x::l)
 | []=>.refl _
 | y::l=>by
  unfold a6l;split
  ·exact ((a2v x l).cons y).trans (.swap x y l)
  ·exact .refl _
theorem pS:∀ s:List Mt,(a2Z kf s).Perm s
 | []=>.refl _
 | x::s=>(a2v x _).trans ((pS s).cons x)
theorem a6T {g:List Bool} {s s':List Mt} (inj:∀ a b,kf a=kf b→a=b) (hs:∀ m,bN g (kf m)=true) (hp:s'.Perm s) (h:pQ (s'.map kf)):s'=a2Z kf s:=by
 have e:s'.map kf=(a2Z kf s).map kf:=by
  rw [oX];exact a6S (g:=g) (hp.map kf) (fun d hd=>by obtain ⟨m,_,rfl⟩:=qH.mp hd;exact hs m) h
 exact (zw (f:=kf) fun a b=>inj a b).mp e
theorem b5y {g:List Bool} {s:List Mt} (hs:∀ m,bN g (kf m)=true) (nd:(s.map kf).Nodup) {i:Nat} (hi:i<s.length):ixK ((s.map kf).getD i .none) (s.map kf)=i:=by
 have hl:i<(s.map kf).length:=by simpa using hi
 have e:(s.map kf).getD i .none=(s.map kf)[i]:=by rw [qd,qK hl];rfl
 have sg:∀ j (hj:j<(s.map kf).length),bN g ((s.map kf)[j])=true:=fun j hj=>by rw [wS];exact hs _
 rw [e];unfold ixK;rw [List.findIdx_eq hl];refine ⟨by rw [a3x (sg i hl)];rfl,fun j hj=>?_⟩;have hj':j<(s.map kf).length:=by omega
 rcases a0h (sg i hl) (sg j hj') with z | z | z
 ·rw [z];rfl
 ·exact absurd z.symm (vB.mp nd j i hj' hl hj)
 ·rw [z];simp
theorem b2W {g:List Bool} {s:List Mt} (hs:∀ m,bN g (kf m)=true) (nd:(s.map kf).Nodup):a8i (s.map dM) (s.map kf)=some ((a2Z kf s).map dM):=by
 unfold a8i;rw [if_pos]
 ·rw [←oX,qP]
  refine congrArg some (jq fun m hm=>?_);have hm:=(pS s).mem_iff.mp hm;obtain ⟨i,hi,rfl⟩:=zY.mp hm;have e:(s.map kf).getD i .none=kf s[i]:=by rw [qd,qK (by simpa using hi),wS];rfl
  show (s.map dM).getD (ixK (kf s[i]) (s.map kf)) .none=_;rw [←e,b5y hs nd hi,qd,qK (by simpa using hi),wS];rfl
 ·rw [qk]
  intro i hi;have hi:i<s.length:=by simpa using kr.mp hi
  rw [beq_iff_eq];exact b5y hs nd hi
theorem a8Q {k:Bool} {g:List Bool} {s:List Mt} (hs:∀ m,bN (k::g) (kf m)=true) (ht:∀ m,a8l (kf m)=some (k::g)):keyOk (s.map kf)=true:=by
 cases s with
 | nil=>rfl
 | cons m r=>
  show (match a8l (kf m) with | some (k::g)=>((m::r).map kf).all (bN (k::g)) | _=>false)=true;rw [ht m];exact qk.mpr fun d hd=>by obtain ⟨n,_,rfl⟩:=qH.mp hd;exact hs n
theorem a2r {fe:EF} (h:∀ m:Mt,fe [.val (dM m)]=some (.ok (kf m))):∀ s:List Mt,yK fe (s.map dM)=some (s.map kf)
 | []=>rfl
 | m::s=>by
  show (match fe [.val (dM m)] with | some (.ok k)=>(yK fe (s.map dM)).map (k::·) | _=>none)=_;rw [h m,a2r h s];rfl
theorem a0x {fe:EF} {k:Bool} {g:List Bool} {s:List Mt} (h:∀ m:Mt,fe [.val (dM m)]=some (.ok (kf m))) (hs:∀ m,bN (k::g) (kf m)=true) (ht:∀ m,a8l (kf m)=some (k::g)) (nd:(s.map kf).Nodup) (hz:s.length<64) :
  uX fe (s.map dM)=some (.list ((a2Z kf s).map dM)):=by
 unfold uX;rw [a2r h s];show (if (keyOk (s.map kf)&&decide ((s.map kf).length<64))=true then (a8i (s.map dM) (s.map kf)).map zj else none)=_;rw [if_pos (by rw [a8Q hs ht,qE,decide_eq_true hz];rfl),b2W hs nd];rfl
end
abbrev kE (m:Mt):j0:=.tuple [.int m.2.2,.int m.2.1,.str m.1]
theorem b1o (a b:Mt) (h:kE a=kE b):a=b:=by
 obtain ⟨a1,a2,a3⟩:=a;obtain ⟨b1,b2,b3⟩:=b;injection h with h;injection h with h1 h;injection h with h2 h;injection h with h3 h;cases h1;cases h2;cases h3;rfl
theorem b7h (m:Mt):bN [true,true,false] (kE m)=true:=rfl
def fT (s:List Mt):List Mt:=a2Z kE s
theorem gK (s:List Mt):(fT s).Perm s:=pS s
theorem yQ (s:List Mt):pQ ((fT s).map kE):=by
 unfold fT;rw [oX];exact lK (g:=[true,true,false]) _ fun d hd=>by obtain ⟨m,_,rfl⟩:=qH.mp hd;rfl
theorem b4v {s s':List Mt} (hp:s'.Perm s) (h:pQ (s'.map kE)):s'=fT s:=a6T (g:=[true,true,false]) b1o b7h hp h
abbrev fB:EF:=fY (aC (op2 ixD (var 0) (cst (.int 2))) (aC (op2 ixD (var 0) (cst (.int 1))) (aC (op2 ixD (var 0) (cst (.int 0))) aH)))
def fR:SF:=(retS (uW (var 0) fB))
def bW:List j0→Mm j0:=dB 1 1 fR
abbrev mE:TF:=thT (orT (a4C (uS (var 1))) (dL leD (op2 ixD (op2 ixD (var 1) (op1 pD (cst (.int 1)))) (cst (.int 2))) (op2 ixD (var 2) (cst (.int 1)))))
abbrev mR:SF:=ifS mE (uN 1 (var 2)) mL
def oI:SF:=(bC (a3q 1 aH) (bC (a1J (.nm 2) (dQ (aP bW (aC (var 0) aH))) mR) (a1f 1 (retS (aP gM (aC (var 1) aH))))))
def cQ:List j0→Mm j0:=dB 3 1 oI
abbrev a2t:EF:=cN (.nm 0) [none,some 0] (dQ (var 1)) ttT (a6I (aP cG (aC (var 0) aH)) (b4V leD ltD (op2 ixD (var 1) (cst (.int 1))) (var 0) (op2 ixD (var 1) (cst (.int 2)))))
def a1m:SF:=(retS (fC anyB (aC a2t aH)))
def lH:List j0→Mm j0:=dB 2 2 a1m
abbrev fI:TF:=thT (a4C (uS (aP lH (aC (var 2) (aC (var 1) aH)))))
abbrev fW:SF:=ifS fI (uN 1 (op2 tH (op2 ixD (var 2) (cst (.int 2))) (cst (.int 1)))) mL
def gI:SF:=(bC (a3q 1 aH) (bC (a1J (.nm 2) (dQ (aP bW (aC (var 0) aH))) fW) (a1f 1 (retS (var 1)))))
def dA:List j0→Mm j0:=dB 3 1 gI
theorem iQ {t:Tg} {fb:SF} {d:j0} {ds:T0j} {ρ ρ1 ρ2:List Ent} (h1:tgD t ρ d=some ρ1) (h2:fb ρ1=some (.nx ρ2)):gA t fb (d::ds) ρ=gA t fb ds ρ2:=by
 rw [gA,h1];dsimp only;rw [h2]
theorem b8U {s:List Mt} (h:(s.map (·.1)).Nodup):(s.map kE).Nodup:=by
 rw [wH,qr] at h ⊢;exact h.imp fun {a b} n e=>n (by rw [b1o a b e])
theorem a5n {s:List Mt} (nd:(s.map (·.1)).Nodup) (hz:s.length<64):bW [dS s]=some (.ok (.list ((fT s).map dM))):=by
 refine bF rfl ?_;show fR [.val (dS s)]=_;have e:uW (var 0) fB [.val (dS s)]=some (.ok (.list ((fT s).map dM))):=by
  show lft (uX fB (s.map dM))=_;rw [a0x (kf:=kE) (k:=true) (g:=[true,false]) (fun m=>rfl) (fun m=>rfl) (fun m=>rfl) (b8U nd) hz];rfl
 unfold fR;rw [dW,e];rfl
def eO (ch:List Mt):Option Int:=ch.getLast?.map (·.2.2)
theorem b6a (S:Ent) (ch:List Mt) (m:Mt):mE [S,.lst (ch.map dM),.val (dM m)]=some (.ok (match eO ch with | none=>true | some e=>decide (e≤m.2.1))):=by
 refine a9U ?_;rcases List.eq_nil_or_concat ch with rfl | ⟨i,c,rfl⟩
 ·cases S<;>rfl
 ·rw [List.concat_eq_append]
  have e1:eO (i++[c])=some c.2.2:=by simp [eO]
  have e2:a0r (.list ((i++[c]).map dM))=some true:=by simp [a0r]
  rw [e1,b0S];show bnd (bnd (lft (a0r (.list ((i++[c]).map dM)))) _) _=_;rw [e2];show dL leD (op2 ixD (op2 ixD (var 1) (op1 pD (cst (.int 1)))) (cst (.int 2))) (op2 ixD (var 2) (cst (.int 1))) (frzAll [S,.lst ((i++[c]).map dM),.val (dM m)])=_;have e3:op2 ixD (var 1) (op1 pD (cst (.int 1))) (frzAll [S,.lst ((i++[c]).map dM),.val (dM m)])=some (.ok (dM c)):=by
   show lft (atI ((i++[c]).map dM) (-1))=_;rw [jS,qU,List.map_nil,a7U];rfl
  rw [a6z,a4A,e3];rfl
theorem rB (S:Ent):∀ (l ch:List Mt) (x:Ent),ch.length+l.length≤1000→∃ x',gA (.nm 2) mR (l.map dM) [S,.lst (ch.map dM),x]=some (.nx [S,.lst ((ch++gr l (eO ch)).map dM),x'])
 | [],ch,x,h=>⟨x,by rw [gr,ji];rfl⟩
 | m::l,ch,x,h=>by
  rw [qZ] at h;have step:mR [S,.lst (ch.map dM),.val (dM m)]=some (.nx [S,.lst ((if (match eO ch with | none=>true | some e=>decide (e≤m.2.1))=true then ch++[m] else ch).map dM),.val (dM m)]):=by
   show ifS mE (uN 1 (var 2)) mL _=_;rw [lV,b6a];generalize (match eO ch with | none=>true | some e=>decide (e≤m.2.1))=b;cases b with
   | true=>
    rw [lC,if_pos rfl,if_pos rfl,uM (i:=1) (fa:=var 2) (d:=dM m) rfl rfl (by rw [qE];omega)];simp
   | false=>rfl
  rw [qU];rw [iQ (t:=.nm 2) (ρ1:=[S,.lst (ch.map dM),.val (dM m)]) rfl step];cases he:eO ch with
  | none=>
   obtain ⟨x',e⟩:=rB S l (ch++[m]) (.val (dM m)) (by rw [qh,jD];omega);refine ⟨x',?_⟩;rw [if_pos rfl,e];have e1:eO (ch++[m])=some m.2.2:=by simp [eO]
   rw [e1,gr,jU];rfl
  | some z=>
   by_cases hc:z≤m.2.1
   ·obtain ⟨x',e⟩:=rB S l (ch++[m]) (.val (dM m)) (by rw [qh,jD];omega)
    refine ⟨x',?_⟩;dsimp only;rw [if_pos (decide_eq_true hc),e];have e1:eO (ch++[m])=some m.2.2:=by simp [eO]
    rw [e1,gr,if_pos hc,jU];rfl
   ·obtain ⟨x',e⟩:=rB S l ch (.val (dM m)) (by omega)
    refine ⟨x',?_⟩;dsimp only;rw [if_neg (by rw [decide_eq_false hc];decide),e,he,gr,if_neg hc]
theorem b1S (s:List Mt) (hz:s.length≤100000):gM [.list (s.map dM)]=some (.ok (.list ((s.map (·.1)).map .str))):=by
 refine bF rfl ?_;have:=bM (t:=.nm 0) (cap:=[none]) (fi:=dQ (var 0)) (fe:=op2 ixD (var 0) (cst (.int 0))) (ρ:=[.val (.list (s.map dM))]) dM (fun m=>[.val (dM m)]) (fun m=>.str m.1) s rfl hz (fun x _=>rfl) (fun x _=>rfl);show sS [.val (.list (s.map dM))]=_;unfold sS;rw [dW];show bns (cN (.nm 0) [none] (dQ (var 0)) ttT (op2 ixD (var 0) (cst (.int 0))) [.val (.list (s.map dM))]) _ _=_;rw [this,lC,qP];rfl
theorem iN {s:List Mt} (nd:(s.map (·.1)).Nodup) (hz:s.length<64):cQ [dS s]=some (.ok (.list (((gr (fT s) none).map (·.1)).map .str))):=by
 refine bF rfl ?_;show oI [.val (dS s),.no,.no]=_;unfold oI;rw [aT (ρ':=[.val (dS s),.lst [],.no]) (by simp)];have hl:(fT s).length=s.length:=(gK s).length_eq;obtain ⟨x',e⟩:=rB (.val (dS s)) (fT s) [] .no (by simp;omega)
 rw [aT (ρ':=[.val (dS s),.lst ((gr (fT s) none).map dM),x']) (by
  rw [sQ,nN (aQ (ds:=[dS s]) rfl (a5n nd hz)) rfl]
  exact e)]
 have hg:(gr (fT s) none).length≤100000:=by
  have:=(xP (fT s) none).length_le;omega
 show a1f 1 (retS (aP gM (aC (var 1) aH))) [.val (dS s),.lst ((gr (fT s) none).map dM),x']=_;show retS (aP gM (aC (var 1) aH)) [.val (dS s),.val (.list ((gr (fT s) none).map dM)),x']=_;rw [dW,aQ (ds:=[.list ((gr (fT s) none).map dM)]) rfl (b1S _ hg)];rfl
theorem b5e (bs:List Bool):anyB [.list (bs.map .bool)]=some (.bool (bs.any id)):=by
 show (eT rX (bs.map .bool)).map _=_;rw [pP (g:=.bool) (fun _=>rfl) bs];rfl
theorem b1U (m:Mt) (ms:T0q) (hz:ms.length≤1000):lH [dM m,.list (ms.map .int)]=some (.ok (.bool (ms.any fun p=>decide (m.2.1≤p)&&decide (p<m.2.2)))):=by
 refine bF rfl ?_;show a1m [.val (dM m),.val (.list (ms.map .int))]=_;have k1:a2t [.val (dM m),.val (.list (ms.map .int))]=some (.ok (.list ((ms.map fun p=>decide (m.2.1≤p)&&decide (p<m.2.2)).map .bool))):=by
  rw [qP];refine bM jY (fun p=>[.val (.int p),.val (dM m)]) (fun p=>.bool (decide (m.2.1≤p)&&decide (p<m.2.2))) ms (by simp) (by omega) (fun p _=>rfl) (fun p _=>?_);rw [b2H,aQ (ds:=[.int p]) rfl (a7H p)];show b4V leD ltD (op2 ixD (var 1) (cst (.int 1))) (var 0) (op2 ixD (var 1) (cst (.int 2))) [.val (.int p),.val (dM m)]=_;by_cases c:m.2.1≤p<;>simp [c]
 unfold a1m;rw [dW,lD (ds:=[.list ((ms.map fun p=>decide (m.2.1≤p)&&decide (p<m.2.2)).map .bool)]) (by rw [fX,k1];rfl) (b5e _),lC,List.any_map];rfl
def mts (l:List Mt):List Int:=l.map fun m=>m.2.2 - 1
theorem b3W {ch:List Mt} {m:Mt} (hs:ch.Pairwise (fun a b=>a.2.2≤b.2.2)) (hle:∀ c∈ch,c.2.2≤m.2.2) (hm:m.2.1<m.2.2) :
  (!((mts ch).any fun p=>decide (m.2.1≤p)&&decide (p<m.2.2)))=(match eO ch with | none=>true | some e=>decide (e≤m.2.1)):=by
 rcases List.eq_nil_or_concat ch with rfl | ⟨i,c,rfl⟩
 ·rfl
 ·rw [List.concat_eq_append] at *
  have e1:eO (i++[c])=some c.2.2:=by simp [eO]
  rw [e1];show _=decide (c.2.2≤m.2.1);have hc:=hle c (by simp);have hi:∀ d∈i,d.2.2≤c.2.2:=fun d hd=>(ko.mp hs).2.2 d hd c (by simp);by_cases z:c.2.2≤m.2.1
  ·rw [decide_eq_true z,kG,List.any_eq_false]
   intro p hp;obtain ⟨d,hd,rfl⟩:=qH.mp hp;have:d.2.2≤c.2.2:=by
    rcases qu.mp hd with hd | hd
    ·exact hi d hd
    ·rw [qQ.mp hd];exact jj _
   simp only [qM,decide_eq_true_eq];omega
  ·rw [decide_eq_false z,Bool.not_eq_false',List.any_eq_true]
   exact ⟨c.2.2 - 1,qH.mpr ⟨c,by simp,rfl⟩,by simp only [qM,decide_eq_true_eq];omega⟩
theorem tT (S:Ent):∀ (l ch:List Mt) (x:Ent),ch.length+l.length≤1000→(ch++l).Pairwise (fun a b=>a.2.2≤b.2.2)→(∀ m∈l,m.2.1<m.2.2)→∃ x',gA (.nm 2) fW (l.map dM) [S,.lst ((mts ch).map .int),x]=some (.nx [S,.lst ((mts (ch++gr l (eO ch))).map .int),x'])
 | [],ch,x,h,hs,hp=>⟨x,by rw [gr,ji];rfl⟩
 | m::l,ch,x,h,hs,hp=>by
  rw [qZ] at h;obtain ⟨s1,s2,s3⟩:=ko.mp hs;have hlen:(mts ch).length=ch.length:=by simp [mts]
  have step:fW [S,.lst ((mts ch).map .int),.val (dM m)]=some (.nx [S,.lst ((mts (if (match eO ch with | none=>true | some e=>decide (e≤m.2.1))=true then ch++[m] else ch)).map .int),.val (dM m)]):=by
   have t:fI [S,.lst ((mts ch).map .int),.val (dM m)]=some (.ok (match eO ch with | none=>true | some e=>decide (e≤m.2.1))):=by
    refine a9U ?_;rw [←b3W s1 (fun c hc=>s3 c hc m (by simp)) (hp m (by simp))];show a4C (uS (aP lH (aC (var 2) (aC (var 1) aH)))) (frzAll [S,.lst ((mts ch).map .int),.val (dM m)])=_;have e:=aQ (F:=lH) (aa:=aC (var 2) (aC (var 1) aH)) (ρ:=frzAll [S,.lst ((mts ch).map .int),.val (dM m)]) (ds:=[dM m,.list ((mts ch).map .int)]) rfl (b1U m (mts ch) (by omega));show bnd (bnd (aP lH (aC (var 2) (aC (var 1) aH)) (frzAll [S,.lst ((mts ch).map .int),.val (dM m)])) _) _=_;rw [e];rfl
   show ifS fI (uN 1 (op2 tH (op2 ixD (var 2) (cst (.int 2))) (cst (.int 1)))) mL _=_;rw [lV,t];generalize (match eO ch with | none=>true | some e=>decide (e≤m.2.1))=b;cases b with
   | true=>
    rw [lC,if_pos rfl,if_pos rfl,uM (i:=1) (d:=.int (m.2.2 - 1)) rfl rfl (by rw [qE];omega)];simp [mts]
   | false=>rfl
  rw [qU];rw [iQ (t:=.nm 2) (ρ1:=[S,.lst ((mts ch).map .int),.val (dM m)]) rfl step];have hs':((ch++[m])++l).Pairwise (fun a b=>a.2.2≤b.2.2):=by rw [jU];exact hs
  have hs2:(ch++l).Pairwise (fun a b=>a.2.2≤b.2.2):=hs.sublist ((List.Sublist.refl ch).append (List.sublist_cons_self m l));have hp':∀ m∈l,m.2.1<m.2.2:=fun n hn=>hp n (qD _ hn);have e1:eO (ch++[m])=some m.2.2:=by simp [eO]
  cases he:eO ch with
  | none=>
   obtain ⟨x',e⟩:=tT S l (ch++[m]) (.val (dM m)) (by rw [qh,jD];omega) hs' hp';refine ⟨x',?_⟩;rw [if_pos rfl,e,e1,gr,jU];rfl
  | some z=>
   by_cases hc:z≤m.2.1
   ·obtain ⟨x',e⟩:=tT S l (ch++[m]) (.val (dM m)) (by rw [qh,jD];omega) hs' hp'
    refine ⟨x',?_⟩;dsimp only;rw [if_pos (decide_eq_true hc),e,e1,gr,if_pos hc,jU];rfl
   ·obtain ⟨x',e⟩:=tT S l ch (.val (dM m)) (by omega) hs2 hp'
    refine ⟨x',?_⟩;dsimp only;rw [if_neg (by rw [decide_eq_false hc];decide),e,he,gr,if_neg hc]
theorem xU (s:List Mt):(fT s).Pairwise (fun a b=>a.2.2≤b.2.2):=by
 have h:=yQ s;unfold pQ at h;rw [qr] at h;refine h.imp fun {a b} z=>?_;have z:(if eqC (.int b.2.2) (.int a.2.2) then ltR [.int b.2.1,.str b.1] [.int a.2.1,.str a.1] else decide (b.2.2<a.2.2))=false:=z;by_cases c:b.2.2=a.2.2
 ·omega
 ·rw [if_neg (by simpa [eqC] using c),decide_eq_false_iff_not] at z
  omega
theorem b1V {s:List Mt} (nd:(s.map (·.1)).Nodup) (hz:s.length<64) (hp:∀ m∈s,m.2.1<m.2.2):dA [dS s]=some (.ok (.list ((mts (gr (fT s) none)).map .int))):=by
 refine bF rfl ?_;show gI [.val (dS s),.no,.no]=_;unfold gI;rw [aT (ρ':=[.val (dS s),.lst [],.no]) (by simp)];have hl:(fT s).length=s.length:=(gK s).length_eq;obtain ⟨x',e⟩:=tT (.val (dS s)) (fT s) [] .no (by simp;omega) (xU s) (fun m hm=>hp m ((gK s).mem_iff.mp hm))
 rw [aT (ρ':=[.val (dS s),.lst ((mts (gr (fT s) none)).map .int),x']) (by
  rw [sQ,nN (aQ (ds:=[dS s]) rfl (a5n nd hz)) rfl]
  exact e)]
 rfl
abbrev oP:EF:=cN (.tp [0,1,2]) [none,none,none,some 0] (dQ (var 0)) ttT (aP dI (aC (var 3) (aC (var 1) aH)))
def iZ:SF:=(retS (dfE a7l oP (cst (.int 0))))
def eB:List j0→Mm j0:=dB 1 1 iZ
def xQ:SF:=(retS (a3P ltD (fC a4L (aC (op2 ixD (var 0) (cst (.int 1))) (aC (op2 ixD (var 1) (cst (.int 1))) aH))) (fC a8F (aC (op2 ixD (var 0) (cst (.int 2))) (aC (op2 ixD (var 1) (cst (.int 2))) aH)))))
def rK:List j0→Mm j0:=dB 2 2 xQ
section
variable {nm:Str} {b z v:Int} {n:Nat} {o:T0q}
end
section
variable {nm nm':Str} {b z v b' z' v':Int} {n n':Nat} {o o':T0q}
end
abbrev ov (x y:Mt):Prop:=max x.2.1 y.2.1<min x.2.2 y.2.2
theorem a9c (x y:Mt):rK [dM x,dM y]=some (.ok (.bool (decide (ov x y)))):=by
 refine bF rfl ?_;show xQ [.val (dM x),.val (dM y)]=_;simp [xQ]
section
variable {P:Program} {w:World} {K:qC} {mg:T0d} {base:Heap} {x:Str} {k:Nat} {ps N:T0o}
end
section
variable {X:Cx} {e:Expr} {fa:EF} {pos p pos2 p2:Pos}
end
section
variable {X:Cx} {a b:Expr} {pos p p2 pos2:Pos} {fa:EF}
end
end L2.L3
namespace L2.SX
open PySem PyProof.Rows
section
variable {prog:Program} {w:World} {K:Type} [DecidableEq K] {knd:KeyKind prog w K} {A:Around} {E:T0a} {s:Shared} {a:Addr}
theorem yP:entryFor table "dict.update.loop" = some Builtin.«dict.update.loop»:=entryFor_of_tree (by kernel_rfl)
theorem lQ:plainId "dict.update.loop" = true:=by decide +kernel
theorem a3B:typeLookup (.type "list") "keys" = pure none:=am_miss_of_fast (by kernel_rfl)
theorem a8N {xs:Array Value} {n:Nat} {sl:Array (Option Value)} {Q:Option Value→Shared→Prop} (hx:s.heap.get? a=some { cls:=.type "list", dict:=none,data:=.seq xs n,slots:=sl }) (hA:A.handled=none)
  (h:∀ h' tk,(∀ b ob,s.heap.get? b=some ob→h'.get? b=some ob)→Q none { s with heap:=h',toks:=tk }):wpAny (model prog w) A (getAttr? (.ref a) "keys") Q E s:=by
 obtain ⟨hp,g,d,tk,os⟩:=s;have hT:∀ tk',(⟨hp,g,d,tk',os⟩:Shared).TypeIs (.ref a) "list" := fun _=>⟨_,hx,rfl⟩;have f1:=sub_AttributeError;have f3:=vW.lookup;have f4:=vW.bind (.ref a);have f5:=am_list_getattr_none;have hmiss:=a3B;have hname:(["__module__", "__name__", "__qualname__", "__doc__", "__annotations__"]:T0o).contains "keys" = false:=by decide +kernel
 have hsz:("keys" : Str).length+100≤j5:=by size_fits
 generalize ("keys" : Str)=name at hmiss hname hsz ⊢;unfold getAttr? getAttrBy? getAttrBy
 repeat (any_goals (first | assumption | exact hT _ | ((with_reducible show wpAny _ _ (call (vd "list.__getattribute__") _ _) _ _ _);refine QD vW (hT _) am_entry_list_getattribute (F.args_list_getattribute_2 _ _) (meets_getattribute_miss_list a xs n sl name _ hmiss hname hsz) ⟨hx,hA,fun h' tk' e hx'=>?_⟩) | wp_step))
 obtain ⟨t',u',he⟩:=hx'.there;show wpAny _ _ (getattributeRaised _ _ _ _ _ _ _) _ _ _;unfold getattributeRaised
 repeat (any_goals (first | assumption | wp_step))
 exact h _ _ hx'.keeps
end
section
variable {prog:Program} {w:World} {K:Type} [DecidableEq K] {knd:KeyKind prog w K} {A:Around} {R:Result→Shared→Prop} {I:Addr} {fp wr:T0m} {G:Array QI→Array QI→Prop} {n:Nat} {P:Nat→Value→Prop} {St:Nat→Shared→Prop}
theorem b2e (W:WalksS prog w A.in1 I fp wr G n P St) (D:Addr) (hDf:D∉fp) {h₀:Heap} (hwr:∀ b∈wr,h₀.get? b=none) (hD:h₀.get? D=none) (prs:List (K×Value)) (hn:prs.length=n)
  (hval:∀ i v,P i v→∃ t o x kv,v=.ref t∧h₀.get? t=some o∧o.cls=.type "tuple" ∧ (∃ m,o.data=.seq #[x,kv.2] m)∧knd.is kv.1 x=true∧prs[i]?=some kv) (hsz:n≤j5) :
  ∀ (m i:Nat) (s:Shared),n - i=m→i≤n→St i s→(∀ b o,h₀.get? b=some o→s.heap.get? b=some o)→s.heap.DictOf knd D (merged [] (prs.take i)) →
   (∀ s',Moved (D::wr) G s s'→(∀ b o,h₀.get? b=some o→s'.heap.get? b=some o)→s'.heap.DictOf knd D (merged [] prs)→R (.ok (.ret .none)) s') →
   wx (model prog w) A (.builtin "dict.update.loop" ⟨[.ref D,.ref I,v7 (i:Int),.none],[]⟩) R s:=by
 have nw:D∉wr:=fun z=>hDf (W.sub _ z);have up:∀ b∈wr,b∈D::wr:=fun b hb=>qD _ hb;have keep:∀ {s s':Shared},Moved wr G s s'→(∀ b o,h₀.get? b=some o→s.heap.get? b=some o)→∀ b o,h₀.get? b=some o→s'.heap.get? b=some o:=fun mv k b o e=>mv.heap b o (fun z=>by rw [hwr b z] at e;cases e) (k b o e);intro m
 induction m with
 | zero=>
  intro i s hm hi st kp g hR;obtain rfl:i=n:=by omega
  refine we yP ?_;rw [qx lQ _];show wpAny _ A.in1 (yi (.ref I)>>=_) _ _ s;refine q8 (W.done s _ _ st fun s' mv=>?_);show wpAny _ _ (Builtin.Dict.addKeywords D []>>=_) _ _ _;refine q8 (j3 (j3 (hR s' (mv.mono up) (keep mv kp) ?_)));rw [←hn,wQ] at g;obtain ⟨o',es,ep,h1,h2⟩:=g;exact ⟨o',es,ep,mv.heap D o' nw h1,h2⟩
 | succ m ih=>
  intro i s hm hi st kp g hR;have lt:i<n:=by omega
  refine we yP ?_;rw [qx lQ _];show wpAny _ A.in1 (yi (.ref I)>>=_) _ _ s;refine q8 (W.item i s _ _ lt st fun v s' pv st' mv=>?_);obtain ⟨t,o,x,kv,rfl,ho,hc,⟨mm,hd⟩,hk,hp⟩:=hval i v pv;have kp':=keep mv kp;have g':s'.heap.DictOf knd D (merged [] (prs.take i)):=by
   obtain ⟨o',es,ep,h1,h2⟩:=g;exact ⟨o',es,ep,mv.heap D o' nw h1,h2⟩
  have hT:s'.TypeIs (.ref t) "tuple" := ⟨o,kp' t o ho,hc⟩;refine q8 (j9 (q8 (ub ?_)));unfold Builtin.Dict.pairItems;refine q8 (yw hT ?_);rw [if_pos (by decide)];refine q8 (wg (kp' t o ho) hd (j3 ?_));show wpAny _ _ (holding [x,kv.2] (dictSet D x kv.2)) _ _ _;have hlen:(merged [] (prs.take i)).length≤j5:=by
   have:=merged_length_le ([]:List (K×Value)) (prs.take i);rw [jZ] at this;simp at this;omega
  refine j9 (wpAny_dictSet_pairs hk g' (fun h' g2 sb=>?_) hlen);rw [←merged_take_succ _ _ _ _ hp] at g2;refine j3 ⟨wt lQ _,ih (i+1) _ (by omega) lt (W.frame _ s' _ _ st' (jw _) fun c hc' o' e=>?_) (fun b o' e=>?_) g2 fun s'' mv'' kp'' g''=>?_⟩
  ·show h'.get? c=_
   rw [sb.2 c (fun z:c=D=>hDf (z▸hc'))];exact e
  ·show h'.get? b=_
   rw [sb.2 b (fun z:b=D=>by rw [z,hD] at e;cases e)];exact kp' b o' e
  ·refine hR s'' (Moved.trans W.gtrans ((mv.mono up).then_heap (jw _) fun c o' hc' e=>?_) mv'') kp'' g''
   show h'.get? c=_;rw [sb.2 c (fun z:c=D=>hc' (by rw [z];exact qS))];exact e
end
section
variable {prog:Program} {w:World} {K:Type} [DecidableEq K] {knd:KeyKind prog w K} {A:Around} {E:T0a} {s:Shared}
theorem dict_of {l:Addr} {items:Array Value} {n:Nat} {sl:Array (Option Value)} {prs:List (K×Value)} {Q:T0a} (hh:A.handled=none) (hl:s.heap.get? l=some { cls:=.type "list", dict:=none,data:=.seq items n,slots:=sl })
  (hn:prs.length=items.size) (hval:∀ (i:Nat) (v:Value),items[i]?=some v→∃ (t:Addr) (o:Obj) (x:Value) (kv:K×Value),v=.ref t∧s.heap.get? t=some o∧o.cls=.type "tuple" ∧ (∃ m,o.data=.seq #[x,kv.2] m)∧knd.is kv.1 x=true∧prs[i]?=some kv) (hsz:prs.length≤j5)
  (h:∀ (h':Heap) (tk:Nat),h'.DictOf knd s.heap.objs.size (merged [] prs)→(∀ b o,s.heap.get? b=some o→h'.get? b=some o)→Q (.ref s.heap.objs.size) { s with heap:=h',toks:=tk }) :
  wpAny (model prog w) A (call (.type "dict") [.ref l]) Q E s:=by
 refine callType_codes (Q₁:=fun obj s₁=>obj=.ref s.heap.objs.size∧s₁={ s with heap:=s.heap.push { cls:=.type "dict", data:=.dict #[] } }) F.kt_called_dict (F.kt_typeCall_dict_1 _) F.entry_dict_init (kt_code_dict_new _ ⟨rfl,rfl⟩) ?_;rintro obj s₁ ⟨rfl,rfl⟩;have hnew:(s.heap.push { cls:=.type "dict", data:=.dict #[] }).DictOf knd s.heap.objs.size []:=Heap.DictOf.new s.heap;have hl1:(s.heap.push { cls:=.type "dict", data:=.dict #[] }).get? l=some { cls:=.type "list", dict:=none,data:=.seq items n,slots:=sl }:=qB _ hl;have hT:vf { s with heap:=s.heap.push { cls:=.type "dict", data:=.dict #[] } } (.ref l) "list" := ⟨_,hl1,rfl⟩;have lt:l<s.heap.objs.size:=qG hl;refine ⟨hnew.typeIs,F.args_dict_init_2 _ _,?_⟩;unfold Builtin.«dict.__init__»;refine q8 ?_;unfold Builtin.Dict.selfAndRest;refine q8 (wpAny_notOrdered_dict hnew.typeIs ?_);show wpAny _ _ (pure (s.heap.objs.size,[jb l])) _ _ _;refine j3 ?_;show wpAny _ _ (Builtin.Dict.updateFrom "dict.__init__" s.heap.objs.size (.ref l) [] .none) _ _ _;unfold Builtin.Dict.updateFrom;refine q8 (yw hT ?_);rw [if_pos (by decide)];refine q8 (a8N (A:=A.in1.in1) hl1 hh fun h1 tk1 k1=>?_);rw [if_pos (by rfl)];refine q8 (ww ?_);have L1:h1.IsList l items:=⟨_,k1 _ _ hl1,rfl,n,rfl⟩;refine q8 (ua L1 ?_);have ltD:s.heap.objs.size<h1.objs.size:=qG (k1 _ _ (qJ _ rfl));have nI:l≠h1.objs.size:=qa (wJ lt ltD);have kp0:∀ b o,s.heap.get? b=some o→(h1.push { cls:=.type "list_iterator", data:=.fields #[.ref l,.int 0 0] }).get? b=some o:=fun b o e=>qB _ (k1 b o (qB _ e));refine j3 ⟨wt lQ _,?_⟩;refine b2e (knd:=knd) (A:=A.in1) ((Walks.list (A:=A.in1.in1) hh h1.objs.size l nI items).toS) s.heap.objs.size ?_ (h₀:=s.heap) ?_ (zH (qR _)) prs hn hval (by omega) (items.size - 0) 0 _ (by omega) (jR _) ⟨⟨_,qJ _ rfl,rfl,rfl⟩,L1.push _⟩ kp0 ?_ ?_
 ·intro z
  rcases qF.mp z with z | z
  ·exact absurd z (qa ltD)
  ·rw [qQ] at z
   exact absurd z (jc lt)
 ·intro b hb
  rw [qQ] at hb;subst hb;exact zH (qv ltD)
 ·obtain ⟨o',es,ep,h2,h3⟩:=hnew
  exact ⟨o',es,ep,qB _ (k1 _ _ h2),h3⟩
 ·intro s' mv kp g'
  obtain ⟨h',gs',dr',tk',os'⟩:=s';obtain rfl:gs'=s.gens:=mv.gens;obtain rfl:dr'=s.drawn:=mv.drawn;obtain rfl:os'=s.os:=mv.os;exact ⟨rfl,h h' tk' g' kp⟩
end
end L2.SX
namespace L2.L3
open PySem PySem.Spec PyProof.Rows
def a9g:j0→Option Key
 | .int i=>some (.inl i)
 | .str x=>some (.inr x)
 | _=>none
theorem a9f (k:Key):a9g (dU k)=some k:=by cases k<;>rfl
theorem b4K {d:j0} {k:Key} (h:a9g d=some k):d=dU k:=by
 unfold a9g at h;split at h
 ·cases h;rfl
 ·cases h;rfl
 ·cases h
def a2d:j0→Option (Key×j0)
 | .tuple [k,v]=>(a9g k).map (·,v)
 | _=>none
theorem b0R {d:j0} {p:Key×j0} (h:a2d d=some p):d=.tuple [dU p.1,p.2]:=by
 unfold a2d at h;split at h
 ·obtain ⟨k,hk,rfl⟩:=qO.mp h
  rw [b4K hk]
 ·cases h
def a5Z (kvs:List (Key×j0)):j0:=.dict (kvs.map fun p=>(dU p.1,p.2))
def a2K (ds:T0j):Option j0:=match ds with
 | [.list xs]=>match eT a2d xs with
  | some kvs=>if decide (kvs.map (·.1)).Nodup&&decide (kvs.length≤1000) then some (a5Z kvs) else none
  | none=>none
 | _=>none
section
variable {K:qC} {G:Hp}
theorem b3e {k:Key} {v:V} (r:Rep K G v (dU k)):v=kV k:=by
 cases k<;>(cases r;rfl)
end
section
variable {X:Cx} {e a b:Expr} {fa fb:EF} {pos p:Pos}
theorem b4i {pins:T0b} {σ:St} {H:Hp} {s:Shared} (I:Inv X pins σ H s):QH<s.heap.objs.size:=by
 have h:j6<s.heap.objs.size:=(I.mod.glob.keeps I.bk).lt;exact wJ (by decide) h
theorem b4a {P:Program} {w:World} {k:Key} {u:Value} (r:RelV (kV k) u):(gQ P w).is k u=true:=by
 cases k with
 | inl i=>obtain ⟨t,rfl⟩:=r;exact a4I P w i t
 | inr x=>obtain ⟨t,rfl⟩:=r;exact a4H P w x t
theorem b0G {pins:T0b} {σ:St} {H:Hp} {s:Shared} (I:Inv X pins σ H s):∀ {ts:List V} {kvs:List (Key×V)} {its:T0k},Paired (fun t (kv:Key×V)=>∃ a,t=V.ref a∧SqT X.K H a [kV kv.1,kv.2]) ts kvs→aY ts its →
  ∃ prs:List (Key×Value),KV kvs prs∧∀ (i:Nat) (v:Value),its[i]?=some v→∃ (t:Addr) (o:Obj) (x:Value) (kv:Key×Value),v=.ref t∧s.heap.get? t=some o∧o.cls=.type "tuple" ∧ (∃ m,o.data=.seq #[x,kv.2] m)∧(gQ X.prog X.w).is kv.1 x=true∧prs[i]?=some kv
 | _,_,_,.nil,.nil=>⟨[],.nil,fun i v e=>by simp at e⟩
 | _,_,_,.cons ⟨a,e,hq⟩ t,.cons r rs=>by
  obtain ⟨prs,h1,h2⟩:=b0G I t rs;subst e;cases r;obtain ⟨its,rv,⟨o,ho,hc,n,hd⟩,hz⟩:=I.tuple hq;obtain ⟨u,w,rfl,r1,r2⟩:=vals2 rv;rename_i kv _ _ _;refine ⟨(kv.1,w)::prs,.cons ⟨rfl,r2⟩ h1,fun i v e=>?_⟩;cases i with
  | zero=>
   simp at e;exact ⟨a,o,u,(kv.1,w),e.symm,ho,hc,⟨n,hd⟩,b4a r1,rfl⟩
  | succ i=>exact h2 i v (by simpa using e)
theorem b7c {kvs:List (Key×V)} {vs:List (Key×Value)} (h:KV kvs vs):kvs.length=vs.length:=by
 have:=congrArg List.length (tW h).1;simpa using this
theorem a0N {α β:Type} {F:α→β→Prop}:∀ {l:List α} {m:List β},Paired F l m→l.length=m.length
 | _,_,.nil=>rfl
 | _,_,.cons _ t=>by simp [a0N t]
theorem a9n (hc:X.calm=true):eJ X (.type "dict") (fun xs H Q=>∃ (p:Addr) (ts:List V) (kvs:List (Key×V)),xs=[.ref p]∧SqL X.K H p ts∧Paired (fun t (kv:Key×V)=>∃ a,t=V.ref a∧SqT X.K H a [kV kv.1,kv.2]) ts kvs∧(kvs.map (·.1)).Nodup∧kvs.length≤1000 ∧
  ∀ l,H l=none→Q (.ref l) (upd H l (.dK kvs))):=by
 intro pins s σ H xs us Q I r ⟨p,ts,kvs,e,hq,hp,nd,hz,q⟩;subst e;obtain ⟨u,rfl,rx⟩:=vals1 r;cases rx;obtain ⟨its,rv,⟨o,n,ho,hcl,hdc,hda⟩,_⟩:=I.list hq;obtain ⟨prs,kv,hv⟩:=b0G I hp rv;obtain ⟨oc,od,odt,osl⟩:=o;dsimp only at hcl hdc hda;subst hcl hdc hda;have hd:=I.ok.hd hc;have l1:=b7c kv;have l2:=a0N hp;have l3:=rv.length;have hline:kvs.length≤j5:=qv (fE (by omega));refine SX.dict_of (knd:=gQ X.prog X.w) (prs:=prs) hd ho (by rw [qI];omega) (fun i v e=>hv i v (by simpa using e)) (by omega) fun h' tk dd kp=>?_;have nd':(prs.map (·.1)).Nodup:=by rw [←(tW kv).1];exact nd
 rw [merged_nil_of_nodup prs nd'] at dd;have big:=b4i I;have ne:(s.heap.objs.size==QH)=false:=beq_eq_false_iff_ne.mpr (jc big);exact ⟨.ref s.heap.objs.size,_,I.laid (t':=tk) (a:=s.heap.objs.size) (o:=.dK kvs) kp (qR _) ⟨hline,ne,prs,kv,dd⟩,rfl,q _ I.fresh⟩
theorem a2c {K:qC} {G:Hp}:∀ {ts:List V} {xs:T0j} {ks:List (Key×j0)},RepAll K G ts xs→eT a2d xs=some ks→∃ kvs:List (Key×V),Paired (fun t (kv:Key×V)=>∃ a,t=V.ref a∧SqT K G a [kV kv.1,kv.2]) ts kvs∧kvs.map (·.1)=ks.map (·.1)∧RepAll K G (kvs.map (·.2)) (ks.map (·.2))
 | _,_,_,.nil,h=>by cases (qA h);exact ⟨[],.nil,rfl,.nil⟩
 | _,d::ds,ks,.cons r t,h=>by
  unfold eT at h;split at h
  ·cases h
  ·rename_i q hq
   obtain ⟨ks',h1,rfl⟩:=qO.mp h;obtain ⟨kvs,p1,p2,p3⟩:=a2c t h1;rw [b0R hq] at r;cases r with
   | tuple hs rr=>
    cases rr with | cons ra rr=>
    cases rr with | cons rb rr=>
    cases rr;cases b3e ra;exact ⟨(q.1,_)::kvs,.cons ⟨_,rfl,hs⟩ p1,by rw [qU,qU,p2],.cons rb p3⟩
theorem b4C (hc:X.calm=true) (ds:T0j) (d:j0) (h:a2K ds=some d):CallD X (.type "dict") ds d:=by
 unfold a2K at h;split at h
 ·split at h
  ·rename_i xs ks e
   split at h
   ·rename_i hh
    rw [qM,decide_eq_true_eq,decide_eq_true_eq] at hh;cases (qA h)
    exact ⟨_,a9n hc,fun vs G H Q s r q=>by
     cases r with | cons r rr=>cases rr;cases r with | list hq r=>
      obtain ⟨kvs,p1,p2,p3⟩:=a2c r e;have hl:kvs.length=ks.length:=by have:=congrArg List.length p2;simpa using this
      refine ⟨_,_,kvs,rfl,s.seq hq,Paired.mapP p1 (fun a b ⟨t,e1,e2⟩=>⟨t,e1,mU s e2⟩),by rw [p2];exact hh.1,by omega,fun l hl=>?_⟩;refine q _ _ _ (.put s hl) (.dict aL ?_ ?_)
      ·rw [qP]
       have:ks.map ((fun x=>x.1)∘fun p:Key×j0=>(dU p.1,p.2))=(ks.map (·.1)).map dU:=by rw [qP];rfl
       rw [this,←p2,qP];rfl
      ·rw [qP]
       exact p3.mono (bD (s.free hl))⟩
   ·cases h
  ·cases h
 ·cases h
theorem boot_dict:wm "dict" = some (.type "dict"):=by kernel_rfl
end
def a1W (i:Nat) (f:EF):SF:=fun ρ=>match f (frzAll ρ) with
 | some (.ok (.list ds))=>if ds.all xB then some (.nx (ρ.set i (.val (.list ds)))) else none
 | _=>none
theorem RepAll.plain {K:qC} {G G':Hp}:∀ {vs:List V} {ds:T0j},ds.all xB=true→RepAll K G vs ds→RepAll K G' vs ds
 | _,_,_,.nil=>.nil
 | _,_,h,.cons r t=>by
  rw [zL,qM] at h;exact .cons (r.plain h.1) (RepAll.plain h.2 t)
section
variable {X:Cx} {elt iter tg:Expr} {ifs:T0l} {scope:Scope} {pos spos p:Pos} {N':T0o} {cap:T0e} {t:Tg} {fi:AF} {ft:TF} {fe:EF}
theorem b1Z (i:Nat) {x:Str} (hN:X.N.Nodup) (hc:X.calm=true) (B:Blk X scope N' cap) (hi:DI X tg iter fi) (hf:a0u cap t=true) (hg:∀ C s₃ H₃ fp,DG (bH X scope N' C s₃ H₃ fp) tg t) (ht:∀ C s₃ H₃ fp,DTs (bH X scope N' C s₃ H₃ fp) ifs ft)
  (he:∀ C s₃ H₃ fp,DE (bH X scope N' C s₃ H₃ fp) elt fe)
  (hxi:X.N[i]?=some x:=by rfl) (hx:X.env.scope.names.lookup x=some .local:=by rfl)
  (hsw:wz (.ListComp elt [⟨tg,iter,ifs,0⟩] scope pos) (some (.Name x p)) spos.line X.env=pure true:=by rfl)
  (hs:∀ x,wj iter X.env x=pure x:=by intro _;rfl):DS X (.Assign [.Name x p] (.ListComp elt [⟨tg,iter,ifs,0⟩] scope pos) spos) (a1W i (cN t cap fi ft fe)):=⟨fun pins s σ H D I ⟨ρ,o,H0,G₀,G,e,R,q⟩=>by
 unfold a1W at e;split at e
 ·rename_i ds0 e1
  split at e
  ·rename_i hpl
   cases (qA e);obtain ⟨G',s',R'⟩:=R.frzAll;rcases bG e1 with ⟨ds,e3,e4⟩ | ⟨c,_,e4⟩
   ·split at e4
    ·rename_i hz
     obtain ⟨d',ed,z⟩:=aZ e4;cases z;obtain ⟨es,e5,z2⟩:=qO.mp ed;cases z2;obtain ⟨k1,rfl⟩:=pG e5;refine a3i (g:=gU X.K ds (fun d=>d) (bS cap (frzAll ρ)) (cX t (bS cap (frzAll ρ)))) (tc:=tU X.K ds (cX t (bS cap (frzAll ρ))) (cT t (bS cap (frzAll ρ)) ft)) (te:=eU X.K ds (cX t (bS cap (frzAll ρ))) (cT t (bS cap (frzAll ρ)) ft) (cV t (bS cap (frzAll ρ)) fe)) hN hxi hx hc B (hi.pid e3).run
      (fun C s₃ H₃ fp pins s σ H v u Q I r ⟨x,hx,q⟩=>((hg C s₃ H₃ fp).run _ _ _ (k1 x hx).1).run pins s σ H v u Q I r q)
      (fun C s₃ H₃ fp pins s σ H Q I ⟨x,hx,q⟩=>((ht C s₃ H₃ fp).run _ _ (k1 x hx).2.1).run pins s σ H Q I q)
      (fun C s₃ H₃ fp pins s σ H Q I ⟨x,hx,hcx,H0,G₀,G,R,q⟩=>((he C s₃ H₃ fp).pd ((k1 x hx).2.2 hcx)).run H0 G₀ G pins s σ H Q I R q) hsw hs pins s σ H D I ?_
     refine ⟨H0,G₀,G',R',fun J G1 H1 g wk=>a1P (φ:=fun d=>d) (R'.more g) (by simpa using wk) (.refl _) (fun x hx=>a0e hf (k1 x hx).1) (iC hz) fun Dd ys G2 H2 g2 hD hn ra=>?_⟩;have gt:=g.trans g2;have hH:H Dd=none:=by
      cases hq:H Dd with
      | none=>rfl
      | some o=>obtain ⟨o',e'⟩:=g.hh.ne hq;rw [e'] at hn;cases hn
     have hG:G Dd=none:=by
      cases hq:G Dd with
      | none=>rfl
      | some o=>rw [R.sub _ _ hq] at hH;cases hH
     have gr:Grow G H (upd G Dd (.lst ys)) H2:=⟨bD hG,gt.hh,fun b o q=>by
      by_cases hb:b=Dd
      ·subst hb;rw [aL] at q;cases q;exact gt.sub _ _ hD
      ·rw [aF hb] at q;exact gt.sub _ _ (gt.gg _ _ (s' _ _ q)),fun b e n=>by
      rw [aF (fun z=>n (by rw [z];exact hH))];exact e,fun n=>n.upd (by nofun)⟩
     exact q _ H2 _ gr.gg ((R.more gr).set (.list (.of aL) (RepAll.plain hpl ra)))
    ·cases e4
   ·cases e4
  ·cases e
 ·cases e⟩
end
abbrev fA:EF:=fY (aC (op2 ixD (var 0) (cst (.int 1))) (aC (op1 pD (op2 ixD (var 0) (cst (.int 2)))) (aC (op2 ixD (var 0) (cst (.int 0))) aH)))
def fQ:SF:=(retS (uW (var 0) fA))
def bV:List j0→Mm j0:=dB 1 1 fQ
abbrev rY:SF:=b5d 1 .Add (cst (.int 1))
abbrev mF:TF:=dL inX (var 1) (var 0)
def oJ:SF:=(bC (iG 1 (cst (.int 0))) (bC (mD mF rY 1000) (retS (var 1))))
def iP:List j0→Mm j0:=dB 2 1 oJ
abbrev eG:EF:=cN (.tp [0,1]) [none,none,some 2] (dQ (var 1)) (uS (aP rK (aC (var 2) (aC (var 0) aH)))) (var 1)
abbrev gL:SF:=bC (a1W 3 eG) (uN 1 (fY (aC (var 2) (aC (aP iP (aC (var 3) aH)) aH))))
def iA:SF:=(bC (a3q 1 aH) (bC (a1J (.nm 2) (dQ (aP bV (aC (var 0) aH))) gL) (a1f 1 (retS (var 1)))))
def dG:List j0→Mm j0:=dB 4 1 iA
abbrev a0Z:EF:=cN (.tp [0,1]) [none,none] (dQ (aP dG (aC (var 0) aH))) ttT (fY (aC (op2 ixD (var 0) (cst (.int 0))) (aC (var 1) aH)))
def xT:SF:=(retS (fC a2K (aC a0Z aH)))
def nF:List j0→Mm j0:=dB 1 1 xT
abbrev kL (m:Mt):j0:=.tuple [.int m.2.1,.int (-m.2.2),.str m.1]
theorem b1n (a b:Mt) (h:kL a=kL b):a=b:=by
 obtain ⟨a1,a2,a3⟩:=a;obtain ⟨b1,b2,b3⟩:=b;injection h with h;injection h with h1 h;injection h with h2 h;injection h with h3 h;injection h1 with h1;injection h2 with h2;injection h3 with h3;have:a3=b3:=Int.neg_inj.mp h2;subst h1 this h3;rfl
def dD (s:List Mt):List Mt:=a2Z kL s
theorem gH (s:List Mt):(dD s).Perm s:=pS s
theorem yI (s:List Mt):pQ ((dD s).map kL):=by
 unfold dD;rw [oX];exact lK (g:=[true,true,false]) _ fun d hd=>by obtain ⟨m,_,rfl⟩:=qH.mp hd;rfl
theorem b8T {s:List Mt} (h:(s.map (·.1)).Nodup):(s.map kL).Nodup:=by
 rw [wH,qr] at h ⊢;exact h.imp fun {a b} n e=>n (by rw [b1n a b e])
theorem a5l {s:List Mt} (nd:(s.map (·.1)).Nodup) (hz:s.length<64):bV [dS s]=some (.ok (.list ((dD s).map dM))):=by
 refine bF rfl ?_;show fQ [.val (dS s)]=_;have e:uW (var 0) fA [.val (dS s)]=some (.ok (.list ((dD s).map dM))):=by
  show lft (uX fA (s.map dM))=_;rw [a0x (kf:=kL) (k:=true) (g:=[true,false]) (fun m=>rfl) (fun m=>rfl) (fun m=>rfl) (b8T nd) hz];rfl
 unfold fQ;rw [dW,e];rfl
theorem b4k (c:Int) (ns:T0q):inX (.int c) (.list (ns.map .int))=some (decide (c∈ns)):=by
 show (eT intD (ns.map .int)).map _=_;rw [mY];rfl
theorem a6N {t:T0q} {B:Nat} (hB:¬(B:Int)∈t):∀ (n c:Nat),c≤B→B - c<n→(∀ j<c,(j:Int)∈t)→∃ r:Nat,mD mF rY n [.val (.list (t.map .int)),.val (.int (c:Nat))]=some (.nx [.val (.list (t.map .int)),.val (.int (r:Nat))])∧r≤B∧¬(r:Int)∈t∧∀ j<r,(j:Int)∈t
 | 0,c,_,h,_=>by omega
 | n+1,c,hc,h,hj=>by
  have t1:mF [.val (.list (t.map .int)),.val (.int (c:Nat))]=some (.ok (decide ((c:Int)∈t))):=by
   show lft (inX (.int (c:Nat)) (.list (t.map .int)))=_;rw [b4k];rfl
  by_cases hm:(c:Int)∈t
  ·have ne:c≠B:=fun z=>hB (z▸hm)
   obtain ⟨r,e,h1,h2,h3⟩:=a6N hB n (c+1) (by omega) (by omega) (fun j hjc=>by
    by_cases z:j=c
    ·rw [z];exact hm
    ·exact hj j (by omega))
   refine ⟨r,?_,h1,h2,h3⟩;rw [mD];dsimp only;rw [t1,decide_eq_true hm];exact e
  ·refine ⟨c,?_,hc,hm,hj⟩
   rw [mD];dsimp only;rw [t1,decide_eq_false hm];rfl
theorem a3L {t:T0q} {B:Nat} (hB:¬(B:Int)∈t) (hb:B<900):∃ r:Nat,iP [.list (t.map .int)]=some (.ok (.int (r:Nat)))∧r≤B∧¬(r:Int)∈t∧∀ j<r,(j:Int)∈t:=by
 obtain ⟨r,e,h⟩:=a6N hB 1000 0 (jR _) (by omega) (fun j hj=>by omega);refine ⟨r,bF rfl ?_,h⟩;show oJ [.val (.list (t.map .int)),.no]=_;unfold oJ;rw [aT (ρ':=[.val (.list (t.map .int)),.val (.int ((0:Nat):Int))]) rfl,aT e];rfl
abbrev Ly:=Mt×Nat
abbrev dY (p:Ly):j0:=.tuple [dM p.1,.int (p.2:Nat)]
def taken (P:List Ly) (m:Mt):List Int:=(P.filter fun p=>decide (ov m p.1)).map fun p=>(p.2:Int)
def lE:List Ly→List Ly→Prop
 | _,[]=>True
 | P,q::Q=>(¬(q.2:Int)∈taken P q.1∧∀ j<q.2,(j:Int)∈taken P q.1)∧lE (P++[q]) Q
theorem a8d (S:Ent) (P:List Ly) (m:Mt) (y:Ent) (hP:∀ p∈P,p.2<P.length) (hz:P.length<100) :
  ∃ (r:Nat) (y':Ent),gL [S,.lst (P.map dY),.val (dM m),y]=some (.nx [S,.lst ((P++[(m,r)]).map dY),.val (dM m),y'])∧r≤P.length∧¬(r:Int)∈taken P m∧∀ j<r,(j:Int)∈taken P m:=by
 have hB:¬((P.length:Nat):Int)∈taken P m:=fun z=>by
  obtain ⟨p,hp,e⟩:=qH.mp z;have:=hP p (kU.mp hp).1;omega
 obtain ⟨r,er,h1,h2,h3⟩:=a3L hB (by omega);have k1:eG (frzAll [S,.lst (P.map dY),.val (dM m),y])=some (.ok (.list ((taken P m).map .int))):=by
  unfold taken;rw [qP]
  exact nA dY (fun p=>[.val (dM p.1),.val (.int (p.2:Nat)),.val (dM m)]) (fun p=>decide (ov m p.1)) (fun p=>.int (p.2:Nat)) P rfl (by omega) (fun p _=>rfl) (fun p _=>by
   rw [b5V,aQ (ds:=[dM m,dM p.1]) rfl (a9c m p.1)];rfl) (fun p _ _=>rfl)
 have s1:a1W 3 eG [S,.lst (P.map dY),.val (dM m),y]=some (.nx [S,.lst (P.map dY),.val (dM m),.val (.list ((taken P m).map .int))]):=by
  unfold a1W;rw [k1];dsimp only;rw [if_pos (qk.mpr fun d hd=>by obtain ⟨i,_,rfl⟩:=qH.mp hd;rfl)];rfl
 refine ⟨r,.val (.list ((taken P m).map .int)),?_,h1,h2,h3⟩;show bC (a1W 3 eG) _ _=_;rw [aT s1,uM (i:=1) (ds:=P.map dY) (d:=dY (m,r)) rfl (by rw [a0q,fX,fX,aQ (ds:=[.list ((taken P m).map .int)]) rfl er];rfl) (by rw [qE];omega)];simp
theorem a2o (S:Ent):∀ (l:List Mt) (P:List Ly) (x y:Ent),(∀ p∈P,p.2<P.length)→P.length+l.length≤100→∃ (Q:List Ly) (x' y':Ent),gA (.nm 2) gL (l.map dM) [S,.lst (P.map dY),x,y]=some (.nx [S,.lst ((P++Q).map dY),x',y'])∧Q.map (·.1)=l∧(∀ p∈P++Q,p.2<(P++Q).length)∧lE P Q
 | [],P,x,y,hP,hz=>⟨[],x,y,by rw [ji];rfl,rfl,by rw [ji];exact hP,trivial⟩
 | m::l,P,x,y,hP,hz=>by
  rw [qZ] at hz;obtain ⟨r,y1,e1,h1,h2,h3⟩:=a8d S P m y hP (by omega)
  obtain ⟨Q,x',y',e2,h4,h5,h6⟩:=a2o S l (P++[(m,r)]) (.val (dM m)) y1 (fun p hp=>by
   rw [qh,jD];rcases qu.mp hp with hp | hp
   ·have:=hP p hp;omega
   ·rw [qQ.mp hp];show r<_;omega) (by rw [qh,jD];omega)
  rw [jU] at e2 h5;refine ⟨(m,r)::Q,x',y',?_,by rw [qU,h4],h5,⟨h2,h3⟩,h6⟩;rw [qU,iQ (t:=.nm 2) (ρ1:=[S,.lst (P.map dY),.val (dM m),y]) rfl e1];exact e2
structure LayOf (L:List Mt) (P:List Ly):Prop where
 ord:P.map (·.1)=dD L
 low:∀ p∈P,p.2<P.length
 laid:lE [] P
theorem LayOf.len {L:List Mt} {P:List Ly} (h:LayOf L P):P.length=L.length:=by
 rw [←qE (f:=(·.1)),h.ord,(gH L).length_eq]
theorem b7E {L:List Mt} (nd:(L.map (·.1)).Nodup) (hz:L.length<64):∃ P,LayOf L P∧dG [dS L]=some (.ok (.list (P.map dY))):=by
 have hl:=(gH L).length_eq;obtain ⟨Q,x',y',e,h1,h2,h3⟩:=a2o (.val (dS L)) (dD L) [] .no .no (by simp) (by simp;omega);rw [zo] at e h2;refine ⟨Q,⟨h1,h2,h3⟩,bF rfl ?_⟩;show iA [.val (dS L),.no,.no,.no]=_;unfold iA;rw [aT (ρ':=[.val (dS L),.lst [],.no,.no]) rfl]
 rw [aT (ρ':=[.val (dS L),.lst (Q.map dY),x',y']) (by
  rw [sQ,nN (aQ (ds:=[dS L]) rfl (a5l nd hz)) rfl]
  exact e)]
 rfl
def a1M (P:List Ly):j0:=a5Z (P.map fun p=>(.inr p.1.1,.int (p.2:Nat)))
theorem LayOf.nd {L:List Mt} {P:List Ly} (h:LayOf L P) (nd:(L.map (·.1)).Nodup):(P.map fun p=>p.1.1).Nodup:=by
 have:P.map (fun p=>p.1.1)=(dD L).map (·.1):=by rw [←h.ord,qP];rfl
 rw [this];exact ((gH L).map (·.1)).nodup_iff.mpr nd
theorem b2f {xs:T0j} {kvs:List (Key×j0)} (h:eT a2d xs=some kvs) (nd:(kvs.map (·.1)).Nodup) (hz:kvs.length≤1000):a2K [.list xs]=some (a5Z kvs):=by
 unfold a2K;dsimp only;rw [h];dsimp only;rw [if_pos (by rw [qM,decide_eq_true_eq,decide_eq_true_eq];exact ⟨nd,hz⟩)]
theorem a2H {L:List Mt} (nd:(L.map (·.1)).Nodup) (hz:L.length<64):∃ P,LayOf L P∧dG [dS L]=some (.ok (.list (P.map dY)))∧nF [dS L]=some (.ok (a1M P)):=by
 obtain ⟨P,hP,e⟩:=b7E nd hz;refine ⟨P,hP,e,bF rfl ?_⟩;have hl:=hP.len;show xT [.val (dS L)]=_;have k1:a0Z [.val (dS L)]=some (.ok (.list (P.map fun p=>.tuple [.str p.1.1,.int (p.2:Nat)]))):=
  bM dY (fun p=>[.val (dM p.1),.val (.int (p.2:Nat))]) (fun p=>.tuple [.str p.1.1,.int (p.2:Nat)]) P (nN (aQ (ds:=[dS L]) rfl e) rfl) (by omega) (fun p _=>rfl) (fun p _=>rfl)
 have ad:eT a2d (P.map fun p=>.tuple [.str p.1.1,.int (p.2:Nat)])=some (P.map fun p=>(vk p.1.1,.int (p.2:Nat))):=by
  have:(P.map fun p=>j0.tuple [.str p.1.1,.int (p.2:Nat)])=(P.map fun p=>((vk p.1.1:Key),jY (p.2:Nat))).map fun q=>.tuple [dU q.1,q.2]:=by rw [qP];rfl
  rw [this,pP (g:=fun q:Key×j0=>.tuple [dU q.1,q.2]) (fun q=>by show (a9g (dU q.1)).map (·,q.2)=_;rw [a9f];rfl)]
 have dd:a2K [.list (P.map fun p=>.tuple [.str p.1.1,.int (p.2:Nat)])]=some (a1M P):=by
  refine b2f ad ?_ (by rw [qE];omega);have nk:=hP.nd nd;rw [qP];rw [wH,qr] at nk ⊢;exact nk.imp fun {a b} n z=>n (Sum.inr.inj z)
 unfold xT;rw [dW,lD (ds:=[.list (P.map fun p=>.tuple [.str p.1.1,.int (p.2:Nat)])]) (by rw [fX,k1];rfl) dd];rfl
def b5G:List Ly→Str→Nat
 | [],_=>0
 | p::P,x=>if p.1.1=x then p.2 else b5G P x
theorem xF {α:Type} [DecidableEq α]:∀ {l m:List α},l.Nodup→(∀ x∈l,x∈m)→l.length≤m.length
 | [],m,_,_=>jR _
 | a::r,m,nd,h=>by
  rw [kT] at nd;have ha:=h a (by simp);have:=xF (l:=r) (m:=m.erase a) nd.2 fun x hx=>(List.mem_erase_of_ne (fun z:x=a=>nd.1 (by rw [←z];exact hx))).mpr (h x (qD _ hx));rw [List.length_erase_of_mem ha] at this;have hp:0<m.length:=List.length_pos_of_mem ha;rw [qZ];omega
theorem yJ (s:List Mt):(dD s).Pairwise (fun a b=>a.2.1≤b.2.1):=by
 have h:=yI s;unfold pQ at h;rw [qr] at h;refine h.imp fun {a b} z=>?_;have z:(if eqC (.int b.2.1) (.int a.2.1) then ltR [.int (-b.2.2),.str b.1] [.int (-a.2.2),.str a.1] else decide (b.2.1<a.2.1))=false:=z;by_cases c:b.2.1=a.2.1
 ·omega
 ·rw [if_neg (by simpa [eqC] using c),decide_eq_false_iff_not] at z
  omega
section
variable {L:List Mt} {P:List Ly}
theorem pJ {d:Int} {m:Mt}:dZ d m=true↔m.2.1≤d∧d<m.2.2:=by unfold dZ;simp
end
def cD (L:List Mt):Int:=if L=[] then 0 else sL (L.map fun x=>aX L x.2.1)
theorem b1T (s:List Mt) (hz:s.length≤1000):eB [dS s]=some (.ok (.int (cD s))):=by
 have k1:oP [.val (dS s)]=some (.ok (.list ((s.map fun x=>aX s x.2.1).map .int))):=by
  rw [qP];exact bM dM (fun x=>[.val (.str x.1),.val (.int x.2.1),.val (.int x.2.2),.val (dS s)]) (fun x=>.int (aX s x.2.1)) s (by simp) (by omega) (fun x _=>by simp [bS]) (fun x _=>aQ (ds:=[dS s,.int x.2.1]) rfl (rJ s x.2.1 (by omega)))
 refine bF rfl ?_;show iZ [.val (dS s)]=_;unfold iZ
 rw [dW,b9e (x:=.list ((s.map fun x=>aX s x.2.1).map .int)) (y:=.int 0) k1 rfl (d:=.int (cD s)) (by
  unfold a7l cD;dsimp only;rw [mY];cases s with
  | nil=>rfl
  | cons a r=>rfl)]
 rfl
theorem yH (L:List Mt) (d:Int):0≤aX L d:=by unfold aX;omega
theorem tO (L:List Mt) (d:Int):aX L d≤cD L:=by
 by_cases e:L=[]
 ·subst e;unfold cD;rw [if_pos rfl];exact jj _
 ·unfold cD
  rw [if_neg e];by_cases z:L.filter (dZ d)=[]
  ·have h0:aX L d=0:=by unfold aX iJ;rw [z];rfl
   rw [h0];have hm:=tQ (ns:=L.map fun x=>aX L x.2.1) (by simp [e]);obtain ⟨x,_,hx⟩:=qH.mp hm;rw [←hx];exact yH _ _
  ·have hm:=tQ (ns:=(L.filter (dZ d)).map (·.2.1)) (by simp [z])
   obtain ⟨x,hx,hxe⟩:=qH.mp hm;obtain ⟨hxL,hxd⟩:=kU.mp hx;have hxd:=pJ.mp hxd;have le:aX L d≤aX L x.2.1:=by
    unfold aX iJ;rw [qE,qE];have:(L.filter (dZ d)).length≤(L.filter (dZ x.2.1)).length:=by
     have:L.filter (dZ d)=(L.filter (dZ x.2.1)).filter (dZ d):=by
      rw [List.filter_filter];refine km fun m hm=>?_;rw [ju,qM];constructor
      ·intro h
       refine ⟨h,pJ.mpr ?_⟩;have hd:=pJ.mp h;have:=tR (ns:=(L.filter (dZ d)).map (·.2.1)) (qH.mpr ⟨m,kU.mpr ⟨hm,h⟩,rfl⟩);omega
      ·exact fun h=>h.1
     rw [this];exact vS _ _
    omega
   exact vU le (tR (qH.mpr ⟨x,hxL,rfl⟩))
theorem b3R (L:List Mt):cD L=0∨∃ m∈L,cD L=aX L m.2.1:=by
 by_cases e:L=[]
 ·left;unfold cD;rw [if_pos e]
 ·right
  unfold cD;rw [if_neg e];obtain ⟨x,hx,h⟩:=qH.mp (tQ (ns:=L.map fun x=>aX L x.2.1) (by simp [e]));exact ⟨x,hx,h.symm⟩
def eI:List Mt→List Mt→Int→List (List Mt)
 | [],cur,_=>[cur]
 | m::l,cur,reach=>if m.2.1<reach then eI l (cur++[m]) (max reach m.2.2) else cur::eI l [m] m.2.2
def cE:List Mt→List (List Mt)
 | []=>[]
 | m::l=>eI l [m] m.2.2
theorem oH:∀ (l cur:List Mt) (r:Int),(eI l cur r).flatten=cur++l
 | [],cur,r=>by simp [eI]
 | m::l,cur,r=>by
  unfold eI;split
  ·rw [oH l];simp
  ·rw [jt,oH l];rfl
theorem iY (l:List Mt):(cE l).flatten=l:=by
 cases l with
 | nil=>rfl
 | cons m l=>exact oH l [m] _
structure Rch (cur:List Mt) (r:Int):Prop where
 top:∀ a∈cur,a.2.2≤r
 at':∃ a∈cur,a.2.2=r
theorem Rch.one (m:Mt):Rch [m] m.2.2:=⟨fun a h=>by rw [qQ.mp h];exact jj _,m,by simp,rfl⟩
theorem Rch.more {cur:List Mt} {r:Int} (h:Rch cur r) (m:Mt):Rch (cur++[m]) (max r m.2.2):=by
 refine ⟨fun a ha=>?_,?_⟩
 ·rcases qu.mp ha with ha | ha
  ·have:=h.top a ha;omega
  ·rw [qQ.mp ha];omega
 ·obtain ⟨a,ha,e⟩:=h.at'
  by_cases c:r≤m.2.2
  ·exact ⟨m,by simp,by omega⟩
  ·exact ⟨a,jW _ ha,by omega⟩
theorem pI:∀ (l cur:List Mt) (r:Int),Rch cur r→(cur++l).Pairwise (fun a b=>a.2.1≤b.2.1)→(eI l cur r).Pairwise fun A B=>∀ a∈A,∀ b∈B,a.2.2≤b.2.1
 | [],cur,r,_,_=>by unfold eI;exact vI _ _
 | m::l,cur,r,h,hb=>by
  unfold eI;split
  ·refine pI l _ _ (h.more m) ?_
   rw [jU];exact hb
  ·rename_i c
   have hb':([m]++l).Pairwise (fun a b=>a.2.1≤b.2.1):=(ko.mp hb).2.1;refine .cons (fun B hB a ha b hb2=>?_) (pI l [m] m.2.2 (.one m) hb');have hm:b∈m::l:=by
    have:b∈(eI l [m] m.2.2).flatten:=ku.mpr ⟨B,hB,hb2⟩;rw [oH] at this;exact this
   have h1:=h.top a ha;rcases qF.mp hm with rfl | hm
   ·omega
   ·have:=(qg.mp hb').1 b hm
    omega
def a6L:List Mt→List Mt→Prop
 | _,[]=>True
 | A,m::l=>(∃ a∈A,m.2.1<a.2.2)∧a6L (A++[m]) l
theorem a2x:∀ (l A:List Mt) (m:Mt),a6L A l→(∃ a∈A++l,m.2.1<a.2.2)→a6L A (l++[m])
 | [],A,m,_,h=>⟨by simpa using h,trivial⟩
 | x::l,A,m,h,hm=>⟨h.1,a2x l (A++[x]) m h.2 (by simpa using hm)⟩
theorem sP:∀ (l:List Mt) (x:Mt) (cur:List Mt) (r:Int),Rch (x::cur) r→a6L [x] cur→∀ A∈eI l (x::cur) r,∃ y t,A=y::t∧a6L [y] t
 | [],x,cur,r,_,h,A,hA=>by
  unfold eI at hA;rw [qQ] at hA;exact ⟨x,cur,hA,h⟩
 | m::l,x,cur,r,hr,h,A,hA=>by
  unfold eI at hA;split at hA
  ·rename_i c
   obtain ⟨a,ha,e⟩:=hr.at';exact sP l x (cur++[m]) _ (hr.more m) (a2x cur [x] m h ⟨a,by simpa using ha,by omega⟩) A hA
  ·rcases qF.mp hA with rfl | hA
   ·exact ⟨x,cur,rfl,h⟩
   ·exact sP l m [] _ (.one m) trivial A hA
theorem a5e {l:List Mt} (hb:l.Pairwise (fun a b=>a.2.1≤b.2.1)):(cE l).Pairwise fun A B=>∀ a∈A,∀ b∈B,a.2.2≤b.2.1:=by
 cases l with
 | nil=>exact .nil
 | cons m l=>exact pI l [m] _ (.one m) hb
theorem oG {l:List Mt}:∀ A∈cE l,∃ y t,A=y::t∧a6L [y] t:=by
 cases l with
 | nil=>intro A h;cases h
 | cons m l=>exact sP l m [] _ (.one m) trivial
theorem Paired.app {α β:Type} {F:α→β→Prop} {a:α} {b:β} (h:F a b):∀ {l:List α} {m:List β},Paired F l m→Paired F (l++[a]) (m++[b])
 | _,_,.nil=>.cons h .nil
 | _,_,.cons r t=>.cons r (Paired.app h t)
theorem Paired.unapp {α β:Type} {F:α→β→Prop} {m:List β} {b:β}:∀ {l:List α},Paired F l (m++[b])→∃ l' a,l=l'++[a]∧Paired F l' m∧F a b:=by
 induction m with
 | nil=>
  intro l h;cases h with
  | cons r t=>cases t;exact ⟨[],_,rfl,.nil,r⟩
 | cons c m ih=>
  intro l h;cases h with
  | cons r t=>
   obtain ⟨l',a,e,p,f⟩:=ih t;exact ⟨_::l',a,by rw [e];rfl,.cons r p,f⟩
section
variable {K:qC} {H0 G₀ G H:Hp} {σ:St} {ρ:List Ent}
theorem RepS.ownN {i:Nat} {dss:List (List j0)} (R:RepS K H0 G₀ G H σ ρ) (h:ρ[i]?=some (.nst dss)):∃ a bs,σ[i]?=some (some (.ref a))∧H a=some (.lst (bs.map V.ref))∧G a=none∧H0 a=none∧a∉bs∧bs.Nodup∧Paired (b8e K H0 G H) bs dss:=by
 obtain ⟨o,e,a,bs,rfl,r⟩:=R.at h;exact ⟨a,bs,e,r⟩
theorem RepS.freshN {i:Nat} {p:Addr} (R:RepS K H0 G₀ G H σ ρ) (h:H p=none) (hno:∀ (j:Nat) (dss:List (List j0)),ρ[j]?=some (.nst dss)→j=i):RepS K H0 G₀ G (upd H p (.lst [])) (σ.set i (some (.ref p))) (ρ.set i (.nst [])):=by
 have R':=R.more (Grow.side (o:=.lst []) R.sub h);refine ⟨R'.grow,by simp [R.len],fun j o e h1 h2=>?_,⟨fun j k a ds es n h1 h2 h3 h4=>?_,fun j k a a' ds dss h1 h2 h3 h4=>?_,fun j k dss ess h1 h2=>?_,fun j k ks ls q1 q2=>?_⟩,R'.tab⟩
 ·rcases aK h1 with ⟨rfl,rfl,_⟩ | ⟨n,h1⟩
  ·rcases aK h2 with ⟨_,rfl,_⟩ | ⟨n,_⟩
   ·exact ⟨p,[],rfl,aL,R.sub.free h,R.grow.hh.free h,by simp,List.nodup_nil,.nil⟩
   ·exact absurd rfl n
  ·rcases aK h2 with ⟨z,_⟩ | ⟨_,h2⟩
   ·exact absurd z n
   ·exact R'.ent j o e h1 h2
 ·rcases aK h2 with ⟨_,z,_⟩ | ⟨n2,h2⟩
  ·cases z
  ·rcases aK h4 with ⟨_,z,_⟩ | ⟨n4,h4⟩
   ·cases z
   ·rw [qo (jm n2)] at h1
    rw [qo (jm n4)] at h3;exact R.inj.two j k a ds es n h1 h2 h3 h4
 ·rcases aK h2 with ⟨_,z,_⟩ | ⟨n2,h2n⟩
  ·cases z
  ·rw [qo (jm n2)] at h1
   rcases aK h4 with ⟨rfl,_,_⟩ | ⟨n4,h4⟩
   ·rcases aK h3 with ⟨_,z,_⟩ | ⟨n,_⟩
    ·cases z
     obtain ⟨b,xs,e,g1,_⟩:=R.own h2n;rw [h1] at e;cases e;exact ⟨aS g1 h,fun vs e=>by rw [aL] at e;cases e;simp⟩
    ·exact absurd rfl n
   ·exact absurd (hno k dss h4) n4
 ·have hi:∀ (j:Nat) (dss:List (List j0)),(ρ.set i (.nst []))[j]?=some (.nst dss)→j=i:=fun j dss h1=>by
   rcases aK h1 with ⟨z,_,_⟩ | ⟨_,h1⟩
   ·exact z
   ·exact hno j dss h1
  rw [hi j dss h1,hi k ess h2]
 ·have od:∀ (j:Nat) (ks:List (Key×j0)),(ρ.set i (.nst []))[j]?=some (.dct ks)→ρ[j]?=some (.dct ks):=fun j ks q=>by
   rcases aK q with ⟨_,z,_⟩ | ⟨_,q⟩
   ·cases z
   ·exact q
  exact R.inj.oneD j k ks ls (od j ks q1) (od k ls q2)
theorem RepS.pushN {i:Nat} {a p:Addr} {bs:T0m} {dss:List (List j0)} {ds:T0j} {xs:List V} (R:RepS K H0 G₀ G H σ ρ) (h:ρ[i]?=some (.nst dss)) (e:σ[i]?=some (some (.ref a))) (ha:H a=some (.lst (bs.map V.ref))) (hp:H p=none) (r:RepAll K G xs ds) :
  RepS K H0 G₀ G (upd (upd H p (.lst xs)) a (.lst ((bs++[p]).map V.ref))) σ (ρ.set i (.nst (dss++[ds]))):=by
 obtain ⟨a',bs',e',h1,h2,h3,h4,h5,rv⟩:=R.ownN h;rw [e] at e';cases e';have eb:bs'=bs:=by
  rw [ha] at h1;have:bs.map V.ref=bs'.map V.ref:=by injection h1 with z;injection z
  exact (zw (fun _ _ z=>by cases z;rfl)).mp this.symm
 subst eb;have R1:=R.more (Grow.side (o:=.lst xs) R.sub hp);have nap:a≠p:=aS ha hp;have hb:∀ b∈bs',∃ ys,H b=some (.lst ys):=fun b hb=>by
  obtain ⟨_,ys,y,_⟩:=pX rv hb;exact ⟨ys,y⟩
 have nbp:∀ b∈bs',b≠p:=fun b hm=>by obtain ⟨ys,y⟩:=hb b hm;exact aS y hp
 have nba:∀ b∈bs',b≠a:=fun b hm z=>h4 (z▸hm);have H1a:(upd H p (.lst xs)) a=some (.lst (bs'.map V.ref)):=by rw [aF nap];exact ha
 refine ⟨⟨R1.grow.gg,R1.grow.hh.wr h3 H1a,fun b o q=>?_,R1.grow.new,R1.grow.nt⟩,by simp [R.len],fun j o e' q1 q2=>?_,⟨fun j k b es fs n q1 q2 q3 q4=>?_,fun j k b b' es ess q1 q2 q3 q4=>?_,fun j k es fs q1 q2=>?_,fun j k ks ls q1 q2=>?_⟩,R1.tab.wr H1a⟩
 ·rw [aF (aS q h2)];exact R1.sub b o q
 ·rcases aK q2 with ⟨rfl,rfl,_⟩ | ⟨nj,q2⟩
  ·rw [e] at q1;cases q1
   refine ⟨a,bs'++[p],rfl,aL,h2,h3,?_,?_,Paired.app ⟨xs,by rw [aF (jm nap)];exact aL,R.sub.free hp,R.grow.hh.free hp,r⟩ (gF rv fun b dd hm ⟨ys,y1,y2,y3,y4⟩=>⟨ys,by rw [aF (nba b hm),aF (nbp b hm)];exact y1,y2,y3,y4⟩)⟩
   ·simp only [qu,qQ,not_or]
    exact ⟨h4,nap⟩
   ·rw [kD]
    exact ⟨h5,by simp,fun b hm c hc=>by rw [qQ.mp hc];exact nbp b hm⟩
  ·have E:=R1.ent j o e' q1 q2
   cases e' with
   | no=>trivial
   | val d=>exact E
   | exc c=>obtain ⟨b,C,z,g1,g2⟩:=E;exact ⟨b,C,z,g1,by rw [aF (fZ g2 H1a (by unfold xcO;nofun))];exact g2⟩
   | lst es=>
    obtain ⟨b,ys,z,g1,g2,g3,rv'⟩:=E;subst z;have m1:=(R.inj.mix j i b a es dss q1 q2 e h).1;exact ⟨b,ys,rfl,by rw [aF m1];exact g1,g2,g3,rv'⟩
   | nst es=>exact absurd (R.inj.one j i es dss q2 h) nj
   | dct ks=>
    obtain ⟨b,ws,z,g1,g2,g3,rv'⟩:=E;exact ⟨b,ws,z,by rw [aF (fZ g1 H1a (by nofun))];exact g1,g2,g3,rv'⟩
 ·rcases aK q2 with ⟨_,z,_⟩ | ⟨_,q2⟩
  ·cases z
  ·rcases aK q4 with ⟨_,z,_⟩ | ⟨_,q4⟩
   ·cases z
   ·exact R.inj.two j k b es fs n q1 q2 q3 q4
 ·rcases aK q2 with ⟨_,z,_⟩ | ⟨_,q2n⟩
  ·cases z
  ·have ki:k=i:=by
    rcases aK q4 with ⟨z,_,_⟩ | ⟨_,q4⟩
    ·exact z
    ·exact R.inj.one k i ess dss q4 h
   subst ki;rw [e] at q3;cases q3;obtain ⟨m1,m2⟩:=R.inj.mix j k b a es dss q1 q2n e h;obtain ⟨b2,ys,e2,g1,_⟩:=R.own q2n;rw [q1] at e2;cases e2;refine ⟨m1,fun vs z=>?_⟩;rw [aL] at z;cases z;rw [jS,qu,not_or];refine ⟨m2 _ ha,fun z=>?_⟩;have:b=p:=by simpa using z
   exact aS g1 hp this
 ·have hi:∀ (j:Nat) (es:List (List j0)),(ρ.set i (.nst (dss++[ds])))[j]?=some (.nst es)→j=i:=fun j es q1=>by
   rcases aK q1 with ⟨z,_,_⟩ | ⟨_,q1⟩
   ·exact z
   ·exact R.inj.one j i es dss q1 h
  rw [hi j es q1,hi k fs q2]
 ·have od:∀ (j:Nat) (ks:List (Key×j0)),(ρ.set i (.nst (dss++[ds])))[j]?=some (.dct ks)→ρ[j]?=some (.dct ks):=fun j ks q=>by
   rcases aK q with ⟨_,z,_⟩ | ⟨_,q⟩
   ·cases z
   ·exact q
  exact R.inj.oneD j k ks ls (od j ks q1) (od k ls q2)
theorem RepS.lastN {i:Nat} {a b:Addr} {bs:T0m} {dss:List (List j0)} {ds ds':T0j} {xs:List V} (R:RepS K H0 G₀ G H σ ρ) (h:ρ[i]?=some (.nst (dss++[ds]))) (e:σ[i]?=some (some (.ref a))) (ha:H a=some (.lst ((bs++[b]).map V.ref))) (r:RepAll K G xs ds') :
  RepS K H0 G₀ G (upd H b (.lst xs)) σ (ρ.set i (.nst (dss++[ds']))):=by
 obtain ⟨a',bs',e',h1,h2,h3,h4,h5,rv⟩:=R.ownN h;rw [e] at e';cases e';have eb:bs'=bs++[b]:=by
  rw [ha] at h1;have:(bs++[b]).map V.ref=bs'.map V.ref:=by injection h1 with z;injection z
  exact (zw (fun _ _ z=>by cases z;rfl)).mp this.symm
 subst eb;obtain ⟨l',c,el,pv,ys,y1,y2,y3,y4⟩:=Paired.unapp rv;have ec:bs=l'∧b=c:=by
  have:=List.append_inj' el rfl;exact ⟨this.1,by simpa using this.2⟩
 obtain ⟨rfl,rfl⟩:=ec;have nab:a≠b:=fun z=>h4 (by simp [z]);have nd:b∉bs:=fun z=>by
  rw [kD] at h5;exact h5.2.2 b z b (by simp) rfl
 refine ⟨⟨R.grow.gg,R.grow.hh.wr y3 y1,fun b o q=>?_,R.grow.new,R.grow.nt⟩,by simp [R.len],fun j o e' q1 q2=>?_,⟨fun j k b' es fs n q1 q2 q3 q4=>?_,fun j k c c' es ess q1 q2 q3 q4=>?_,fun j k es fs q1 q2=>?_,fun j k ks ls q1 q2=>?_⟩,R.tab.wr y1⟩
 ·rw [aF (aS q y2)];exact R.sub _ o q
 ·rcases aK q2 with ⟨rfl,rfl,_⟩ | ⟨nj,q2⟩
  ·rw [e] at q1;cases q1
   exact ⟨a,bs++[b],rfl,by rw [aF nab];exact ha,h2,h3,h4,h5,Paired.app ⟨xs,aL,y2,y3,r⟩ (gF pv fun c dd hm ⟨zs,z1,z2,z3,z4⟩=>⟨zs,by rw [aF (fun z:c=b=>nd (z▸hm))];exact z1,z2,z3,z4⟩)⟩
  ·have E:=R.ent j o e' q1 q2
   cases e' with
   | no=>trivial
   | val d=>exact E
   | exc c=>obtain ⟨c',C,z,g1,g2⟩:=E;exact ⟨c',C,z,g1,by rw [aF (fZ g2 y1 (by unfold xcO;nofun))];exact g2⟩
   | lst es=>
    obtain ⟨c,zs,z,g1,g2,g3,rv'⟩:=E;subst z;have m2:=(R.inj.mix j i c a es _ q1 q2 e h).2 _ ha;have ncb:c≠b:=fun z=>m2 (by simp [z]);exact ⟨c,zs,rfl,by rw [aF ncb];exact g1,g2,g3,rv'⟩
   | nst es=>exact absurd (R.inj.one j i es _ q2 h) nj
   | dct ks=>
    obtain ⟨c,ws,z,g1,g2,g3,rv'⟩:=E;exact ⟨c,ws,z,by rw [aF (fZ g1 y1 (by nofun))];exact g1,g2,g3,rv'⟩
 ·rcases aK q2 with ⟨_,z,_⟩ | ⟨_,q2⟩
  ·cases z
  ·rcases aK q4 with ⟨_,z,_⟩ | ⟨_,q4⟩
   ·cases z
   ·exact R.inj.two j k b' es fs n q1 q2 q3 q4
 ·rcases aK q2 with ⟨_,z,_⟩ | ⟨_,q2n⟩
  ·cases z
  ·have ki:k=i:=by
    rcases aK q4 with ⟨z,_,_⟩ | ⟨_,q4⟩
    ·exact z
    ·exact R.inj.one k i ess _ q4 h
   subst ki;rw [e] at q3;cases q3;obtain ⟨m1,m2⟩:=R.inj.mix j k c a es _ q1 q2n e h;exact ⟨m1,fun vs z=>by rw [aF nab] at z;exact m2 vs z⟩
 ·have hi:∀ (j:Nat) (es:List (List j0)),(ρ.set i (.nst (dss++[ds'])))[j]?=some (.nst es)→j=i:=fun j es q1=>by
   rcases aK q1 with ⟨z,_,_⟩ | ⟨_,q1⟩
   ·exact z
   ·exact R.inj.one j i es _ q1 h
  rw [hi j es q1,hi k fs q2]
 ·have od:∀ (j:Nat) (ks:List (Key×j0)),(ρ.set i (.nst (dss++[ds'])))[j]?=some (.dct ks)→ρ[j]?=some (.dct ks):=fun j ks q=>by
   rcases aK q with ⟨_,z,_⟩ | ⟨_,q⟩
   ·cases z
   ·exact q
  exact R.inj.oneD j k ks ls (od j ks q1) (od k ls q2)
theorem a2w {G':Hp} (gg:bB G G') (hG:∀ b,(∃ xs,H b=some (.lst xs))→True):∀ {bs:T0m} {dss:List (List j0)},Paired (b8e K H0 G H) bs dss→(∀ b∈bs,G' b=H b)→RepAll K G' (bs.map V.ref) (dss.map zj)
 | _,_,.nil,_=>.nil
 | _,_,.cons ⟨xs,x1,x2,x3,x4⟩ t,h=>.cons (.list (.of (by rw [h _ qS];exact x1)) (x4.mono gg)) (a2w gg hG t fun b hb=>h b (qD _ hb))
theorem RepS.freezeN {i:Nat} {dss:List (List j0)} (R:RepS K H0 G₀ G H σ ρ) (h:ρ[i]?=some (.nst dss)):∃ G',bB G G'∧RepS K H0 G₀ G' H σ (ρ.set i (.val (.list (dss.map .list)))):=by
 classical
 obtain ⟨a,bs,e,h1,h2,h3,h4,h5,rv⟩:=R.ownN h;have gn:∀ c∈a::bs,G c=none∧H0 c=none∧∃ ys,H c=some (.lst ys):=fun c hc=>by
  rcases qF.mp hc with rfl | hc
  ·exact ⟨h2,h3,_,h1⟩
  ·obtain ⟨_,ys,y1,y2,y3,_⟩:=pX rv hc
   exact ⟨y2,y3,ys,y1⟩
 have gg:bB G (fun c=>if c∈a::bs then H c else G c):=fun c o q=>by
  show (if c∈a::bs then H c else G c)=some o;rw [if_neg (fun z=>by rw [(gn c z).1] at q;cases q)];exact q
 refine ⟨fun c=>if c∈a::bs then H c else G c,gg,⟨⟨R.grow.gg.trans gg,R.grow.hh,fun c o q=>?_,fun c q n=>?_,fun n c ps=>?_⟩,by simp [R.len],fun j o e' q1 q2=>?_,R.inj.sub fun j e' q1 q2=>?_,R.tab.1,fun c ps=>?_⟩⟩
 ·have q:(if c∈a::bs then H c else G c)=some o:=q
  split at q
  ·exact q
  ·exact R.sub c o q
 ·show (if c∈a::bs then H c else G c)=none
  rw [if_neg (fun z=>n (gn c z).2.1)];exact R.grow.new c q n
 ·show (if c∈a::bs then H c else G c)≠_
  split
  ·rename_i hc
   obtain ⟨ys,y⟩:=(gn c hc).2.2;rw [y];nofun
  ·exact R.grow.nt n c ps
 ·rcases aK q2 with ⟨rfl,rfl,_⟩ | ⟨nj,q2⟩
  ·rw [e] at q1;cases q1
   exact ⟨.ref a,rfl,.list (.of (by show (if a∈a::bs then H a else G a)=_;rw [if_pos qS];exact h1)) (a2w gg (fun _ _=>trivial) rv fun b hb=>by show (if b∈a::bs then H b else G b)=_;rw [if_pos (qD _ hb)])⟩
  ·have E:=R.ent j o e' q1 q2
   cases e' with
   | no=>trivial
   | val d=>obtain ⟨v,z,r⟩:=E;exact ⟨v,z,r.mono gg⟩
   | exc c=>exact E
   | lst es=>
    obtain ⟨c,zs,z,g1,g2,g3,rv'⟩:=E;subst z;obtain ⟨m1,m2⟩:=R.inj.mix j i c a es dss q1 q2 e h;refine ⟨c,zs,rfl,g1,?_,g3,rv'.mono gg⟩;show (if c∈a::bs then H c else G c)=none;rw [if_neg (fun z=>?_)]
    ·exact g2
    ·rcases qF.mp z with z | z
     ·exact m1 z
     ·exact m2 _ h1 (qH.mpr ⟨c,z,rfl⟩)
   | nst es=>exact absurd (R.inj.one j i es dss q2 h) nj
   | dct ks=>
    obtain ⟨c,ws,z,g1,g2,g3,rv'⟩:=E;refine ⟨c,ws,z,g1,?_,g3,rv'.mono gg⟩;show (if c∈a::bs then H c else G c)=none;rw [if_neg (fun w=>by obtain ⟨ys,y⟩:=(gn c w).2.2;rw [g1] at y;cases y)];exact g2
 ·rcases aK q1 with ⟨_,rfl,_⟩ | ⟨n,q1⟩
  ·cases q2
  ·exact ⟨q1,rfl⟩
 ·show (if c∈a::bs then H c else G c)≠_
  split
  ·rename_i hc
   obtain ⟨ys,y⟩:=(gn c hc).2.2;rw [y];nofun
  ·exact R.tab.2 c ps
end
section
variable {X:Cx} {rest:List Stmt} {f:SF} {fa:EF} {e:Expr} {es:T0l} {pos:Pos}
def noN (i:Nat) (ρ:List Ent):Bool:=(qi ρ.length).all fun j=>j==i || (match ρ[j]? with | some (.nst _)=>false | _=>true)
theorem b6N {i:Nat} {ρ:List Ent} (h:noN i ρ=true):∀ (j:Nat) (dss:List (List j0)),ρ[j]?=some (.nst dss)→j=i:=fun j dss hj=>by
 have hl:=(qY.mp hj).1;have:=qk.mp h j (kr.mpr hl);rw [hj] at this;simpa using this
def b6P (i:Nat):SF:=fun ρ=>if noN i ρ then some (.nx (ρ.set i (.nst []))) else none
theorem b4z (i:Nat) {x:Str} {p p2:Pos} (hN:X.N.Nodup) (hi:X.N[i]?=some x:=by rfl) (hx:Loc X.env.scope x:=by first | exact kC rfl | exact jg rfl)
  (hs:wz (.List [] p2) (some (.Name x p)) pos.line X.env=pure false:=by rfl) (hf:X.fn x=true∨X.env.scope.names.lookup x=some .local:=by first | exact .inl rfl | exact .inr rfl) :
  DS X (.Assign [.Name x p] (.List [] p2) pos) (b6P i):=⟨fun pins s σ H D I ⟨ρ,o,H0,G₀,G,e,R,q⟩=>a3j hN hi hx (a3m gG) hs hf pins s σ H D I (by
 unfold b6P at e;split at e
 ·rename_i hz
  cases (qA e);exact ⟨by show 0≤j5;omega,fun a ha=>q G _ _ (.refl _) (R.freshN ha (b6N hz))⟩
 ·cases e)⟩
def a9R (i:Nat):TF:=fun ρ=>match ρ[i]? with
 | some (.nst dss)=>some (.ok (!dss.isEmpty))
 | _=>none
theorem b4y (i:Nat) {x:Str} {p:Pos} (hN:X.N[i]?=some x:=by rfl) (hv:Vis X.env.scope x:=by first | exact kC rfl | exact jg (kC rfl) | exact jg (jg rfl)) (hd:(x==("__debug__" : Str))=false:=by decide)
  (hcd:(x==("__classdict__" : Str))=false:=by decide):DT X (.Name x p) (a9R i):=⟨fun pins s σ H Q I ⟨ρ,r,H0,G₀,G,e,R,q⟩=>by
 refine a4x (hZ hN hv hd hcd) (fun _=>rfl) pins s σ H Q I ?_;unfold a9R at e;split at e
 ·rename_i dss hi
  cases (qA e);obtain ⟨a,bs,e1,h1,_,_,_,_,rv⟩:=R.ownN hi;refine ⟨_,e1,!dss.isEmpty,.inl ⟨bs.map V.ref,.of h1,?_⟩,q _ _ (.refl R.sub)⟩;cases rv<;>rfl
 ·cases e⟩
def pushN (i:Nat) (f:AF):SF:=fun ρ=>match ρ[i]? with
 | some (.nst dss)=>bns (f ρ) ρ fun ds=>if dO dss.length&&dO ds.length then some (.nx (ρ.set i (.nst (dss++[ds])))) else none
 | _=>none
theorem b2b (i:Nat) {x:Str} {p p2 ap cp:Pos} {f:AF} (h:DA X es f) (hN:X.N[i]?=some x:=by rfl)
  (hv:Vis X.env.scope x:=by first | exact kC rfl | exact jg (kC rfl) | exact jg (jg rfl)) (hd:(x==("__debug__" : Str))=false:=by decide) (hcd:(x==("__classdict__" : Str))=false:=by decide)
  (hbase:ye (.Name x p) "append" X.env (eval (.Name x p) X.env)=eval (.Name x p) X.env:=by rfl)
  (hfew:((k9 cp (j4 (.List es p2::[]) X.env)).all (fun x=>!x.1)&&(yo cp (wu [] X.env)).all (fun x=>x.1.isSome)&&decide ((Expr.List es p2::[]).length+([]:List Keyword).length+(if ([]:List Keyword).isEmpty then 0 else 1)<30))=true:=by rfl)
  (hline:(ap.endLine==cp.line)=true:=by rfl) (hst:j4 (.List es p2::[]) X.env=(false,eval (.List es p2) X.env)::j4 [] X.env:=by rfl) (hplain:(k9 cp (j4 [] X.env)).any (·.1)=false:=by rfl)
  (hsw:wz (.Call (.Attribute (.Name x p) "append" ap) [.List es p2] [] cp) none pos.line X.env=pure false:=by rfl) :
  DS X (.Expr (.Call (.Attribute (.Name x p) "append" ap) [.List es p2] [] cp) pos) (pushN i f):=⟨fun pins s σ H D I ⟨ρ,o,H0,G₀,G,ef,R,q⟩=>
 tM (a4z zJ vG vF pY (hZ hN hv hd hcd) (dC (a3m h.run) gG hst) hbase hfew hline hst hplain) hsw pins s σ H D I (by
  unfold pushN at ef;split at ef
  ·rename_i dss hi
   obtain ⟨a,bs,e1,h1,_⟩:=R.ownN hi;refine ⟨.ref a,e1,.inl ⟨rfl,bs.map V.ref,.of h1⟩,sA R ef q fun ds vs G1 H1 g1 R1 rv e2 q1=>?_⟩;split at e2
   ·rename_i hz
    rw [qM] at hz;cases (qA e2);obtain ⟨a1,bs1,e1',h1',_,_,_,_,pv⟩:=R1.ownN hi;rw [e1] at e1';cases e1';have eb:bs1=bs:=by
     have:=g1.hh.lst h1;rw [h1'] at this;have:bs1.map V.ref=bs.map V.ref:=by injection this with z;injection z
     exact (zw (fun _ _ z=>by cases z;rfl)).mp this
    subst eb;have hl:bs1.length=dss.length:=Paired.length pv;refine ⟨by rw [rv.length];exact iC hz.2,fun pp hp=>⟨a,bs1.map V.ref,.ref pp,rfl,rfl,?_,by rw [qE,hl];exact b0h hz.1,?_⟩⟩
    ·rw [aF (aS h1' hp)];exact h1'
    ·have key:=R1.pushN hi e1 h1' hp rv
     rw [jS] at key;exact q1 G1 _ σ (.refl _) key
   ·cases e2
  ·cases ef)⟩
def lastN (i:Nat) (fa:EF):SF:=fun ρ=>match ρ[i]? with
 | some (.nst dss)=>(match dss.getLast? with
  | some ds=>bns (fa ρ) ρ fun d=>if dO ds.length then some (.nx (ρ.set i (.nst (dss.dropLast++[ds++[d]])))) else none
  | none=>none)
 | _=>none
theorem b3Z {bs:T0m} {b:Addr}:atI ((bs++[b]).map V.ref) (-1)=some (V.ref b):=by
 unfold atI ixN;rw [if_neg (by decide),if_pos (by simp<;>omega)];simp only [qE,qh,qZ,List.length_nil,vR,Option.bind_some];rw [show (-1+((bs.length+1:Nat):Int)).toNat=bs.length by omega];simp
theorem yR {α:Type}:∀ {l:List α} {a:α},l.getLast?=some a→l=l.dropLast++[a]
 | [],_,h=>by cases h
 | [x],a,h=>by simp at h;simp [h]
 | x::y::t,a,h=>by
  rw [List.getLast?_cons_cons] at h;have:=yR (l:=y::t) h;rw [List.dropLast_cons₂,List.cons_append,←this]
theorem b2c (i:Nat) {x:Str} {p up cp1 sp ap cp:Pos} {j1} (h:DE X e fa) (hN:X.N[i]?=some x:=by rfl)
  (hv:Vis X.env.scope x:=by first | exact kC rfl | exact jg (kC rfl) | exact jg (jg rfl)) (hd:(x==("__debug__" : Str))=false:=by decide) (hcd:(x==("__classdict__" : Str))=false:=by decide)
  (hs:a4g (.UnaryOp .USub (.Constant (.int 1) j1 cp1) up):=by exact fun _ _=>rfl)
  (hbase:ye (.Subscript (.Name x p) (.UnaryOp .USub (.Constant (.int 1) j1 cp1) up) sp) "append" X.env (eval (.Subscript (.Name x p) (.UnaryOp .USub (.Constant (.int 1) j1 cp1) up) sp) X.env)=eval (.Subscript (.Name x p) (.UnaryOp .USub (.Constant (.int 1) j1 cp1) up) sp) X.env:=by rfl)
  (hfew:((k9 cp (j4 (e::[]) X.env)).all (fun x=>!x.1)&&(yo cp (wu [] X.env)).all (fun x=>x.1.isSome)&&decide ((e::[]).length+([]:List Keyword).length+(if ([]:List Keyword).isEmpty then 0 else 1)<30))=true:=by rfl)
  (hline:(ap.endLine==cp.line)=true:=by rfl) (hst:j4 (e::[]) X.env=(false,eval e X.env)::j4 [] X.env:=by rfl) (hplain:(k9 cp (j4 [] X.env)).any (·.1)=false:=by rfl)
  (hsw:wz (.Call (.Attribute (.Subscript (.Name x p) (.UnaryOp .USub (.Constant (.int 1) j1 cp1) up) sp) "append" ap) [e] [] cp) none pos.line X.env=pure false:=by rfl) :
  DS X (.Expr (.Call (.Attribute (.Subscript (.Name x p) (.UnaryOp .USub (.Constant (.int 1) j1 cp1) up) sp) "append" ap) [e] [] cp) pos) (lastN i fa):=⟨fun pins s σ H D I ⟨ρ,o,H0,G₀,G,ef,R,q⟩=>
 tM (a4z zJ vG vF pY (b5s a7r (hZ hN hv hd hcd) (b5q a9P b0N) hs) (dC h.run gG hst) hbase hfew hline hst hplain) hsw pins s σ H D I (by
  unfold lastN at ef;split at ef
  ·rename_i dss hi
   split at ef
   ·rename_i ds hl
    obtain ⟨ed,_⟩:dss=dss.dropLast++[ds]∧True:=⟨yR hl,trivial⟩;rw [ed] at hi;generalize dss.dropLast=d0 at *;subst ed;obtain ⟨a,bs,e1,h1,_,_,_,_,rv⟩:=R.ownN hi;obtain ⟨bs0,b,rfl,pv,ys,y1,y2,y3,y4⟩:=Paired.unapp rv;refine ⟨.ref a,e1,1,rfl,a,_,-1,.ref b,rfl,rfl,.of h1,b3Z,.inl ⟨rfl,ys,.of y1⟩,sE R ef q fun d v G1 H1 g1 R1 rv e2 q1=>?_⟩;split at e2
    ·rename_i hz
     cases (qA e2);exact ⟨b,ys,v,rfl,rfl,g1.hh.lst y1,by rw [y4.length];exact b0h hz,q1 G1 _ σ (.refl _) (R1.lastN hi e1 (g1.hh.lst h1) ((y4.mono g1.gg).append (.cons rv .nil)))⟩
    ·cases e2
   ·cases ef
  ·cases ef)⟩
def b7u (i:Nat) (f:SF):SF:=fun ρ=>match ρ[i]? with
 | some (.nst dss)=>f (ρ.set i (.val (.list (dss.map .list))))
 | _=>f ρ
theorem b4I (i:Nat) (h:DB X rest f):DB X rest (b7u i f):=⟨fun pins s σ H D I ⟨ρ,o,H0,G₀,G,e,R,q⟩=>by
 unfold b7u at e;split at e
 ·rename_i dss hi
  obtain ⟨G',s',R'⟩:=R.freezeN hi;exact h.run pins s σ H D I ⟨_,o,H0,G₀,G',e,R',q.mono s'⟩
 ·exact h.run pins s σ H D I ⟨ρ,o,H0,G₀,G,e,R,q⟩⟩
end
section
variable {X:Cx}
theorem a3S:eJ X (.builtin "sorted") (fun xs H Q=>∃ (p:Addr) (ns:T0o),xs=[.ref p]∧SqL X.K H p (ns.map V.str)∧ns.length<64∧∀ l,H l=none→Q (.ref l) (upd H l (.lst ((iD ns).map V.str)))):=by
 intro pins s σ H xs us Q I r ⟨p,ns,e,hq,h64,q⟩;subst e;obtain ⟨u,rfl,rx⟩:=vals1 r;cases rx;obtain ⟨its,rv,pl,hz⟩:=I.list hq;have hi:=a0v rv;refine sorted_strs pl.isList hi (by rw [yE hi];exact h64) fun out ns' ho hp hs=>?_;have e:=a4q hp hs;subst e;obtain ⟨ep,g⟩:=sortedAll_at s.heap its out;have hf:H (s.heap.objs.size+1)=none:=I.hok.fresh (jw _);refine ⟨.ref (s.heap.objs.size+1),_,I.laid (t':=s.toks) (fun b o g=>sortedAll_old g) (jw _) ?_,rfl,q _ hf⟩;refine ⟨?_,out.toList,ep,uR ho,?_⟩
 ·rw [qE,(gC ns).length_eq]
  exact qv (fE (by omega))
 ·rw [g]
def b0m (ds:T0j):Option j0:=match b0n ds with
 | some d=>some d
 | none=>(match ds with
  | [.list xs]=>(match eT b0i xs with | some ns=>if ns.length<64 then some (.list ((iD ns).map .str)) else none | none=>none)
  | _=>none)
theorem b2U (ds:T0j) (d:j0) (h:b0m ds=some d):CallD X (.builtin "sorted") ds d:=by
 unfold b0m at h;split at h
 ·rename_i e
  cases (qA h);exact b2V ds _ e
 ·split at h
  ·split at h
   ·rename_i xs ns e
    split at h
    ·rename_i hl
     cases (qA h);have:=cO (g:=.str) (fun d a q=>a2Y q) e;subst this
     exact ⟨_,a3S,fun vs G H Q s r q=>by
      cases r with | cons r rr=>cases rr;cases r with | list hq r=>
       have e:=r.strs;subst e
       exact ⟨_,ns,rfl,s.seq hq,hl,fun l hn=>q _ _ _ (.put s hn) (.list (.of aL) (nZ _))⟩⟩
    ·cases h
   ·cases h
  ·cases h
end
theorem a8g {x:Str} {ns:T0o} (h:(x::ns).length<64):b0m [.list ((x::ns).map .str)]=some (.list ((iD (x::ns)).map .str)):=by
 have e1:b0n [.list ((x::ns).map .str)]=none:=by
  unfold b0n b2X b0o;have:a8l (vE x)=none:=rfl;simp [eT,intD,this]
 unfold b0m;rw [e1];dsimp only;rw [pP (g:=.str) (fun _=>rfl) (x::ns)];dsimp only;rw [if_pos h]
abbrev pR:TF:=a5z (a9R 1) (dL ltD (var 4) (var 2))
abbrev yC:SF:=ifS pR (bC (lastN 1 (var 3)) (iG 2 (fC a4L (aC (var 2) (aC (var 5) aH))))) (bC (pushN 1 (aC (var 3) aH)) (iG 2 (var 5)))
abbrev xK:EF:=cN (.nm 0) [none] (dQ (var 1)) ttT (fC b0m (aC (var 0) aH))
def a1n:SF:=(bC (b6P 1) (bC (iG 2 (cst (.int 0))) (bC (a1J (.tp [3,4,5]) (dQ (aP bV (aC (var 0) aH))) yC) (b7u 1 (retS xK)))))
def lI:List j0→Mm j0:=dB 6 1 a1n
abbrev nmD (A:List Mt):List j0:=(A.map (·.1)).map .str
theorem pF (S:Ent):∀ (l:List Mt) (done:List (List Mt)) (cur:List Mt) (r:Int) (x3 x4 x5:Ent),done.length+l.length≤1000→cur.length+l.length≤1000 →
  ∃ r' y3 y4 y5,gA (.tp [3,4,5]) yC (l.map dM) [S,.nst ((done++[cur]).map nmD),.val (.int r),x3,x4,x5]=some (.nx [S,.nst ((done++eI l cur r).map nmD),.val (.int r'),y3,y4,y5])
 | [],done,cur,r,x3,x4,x5,_,_=>⟨r,x3,x4,x5,rfl⟩
 | m::l,done,cur,r,x3,x4,x5,h1,h2=>by
  simp only [qZ] at h1 h2;have t1:pR [S,.nst ((done++[cur]).map nmD),.val (.int r),.val (.str m.1),.val (.int m.2.1),.val (.int m.2.2)]=some (.ok (decide (m.2.1<r))):=by
   show a5z (a9R 1) (dL ltD (var 4) (var 2)) _=_;have h0:a9R 1 [S,.nst ((done++[cur]).map nmD),.val (.int r),.val (.str m.1),.val (.int m.2.1),.val (.int m.2.2)]=some (.ok true):=by
    show some (Re.ok (!((done++[cur]).map nmD).isEmpty))=_;simp
   rw [b7Z,h0,cF,if_pos rfl];simp
  unfold eI;by_cases c:m.2.1<r
  ·rw [if_pos c]
   obtain ⟨r',y3,y4,y5,e⟩:=pF S l done (cur++[m]) (max r m.2.2) (.val (.str m.1)) (.val (.int m.2.1)) (.val (.int m.2.2)) (by omega) (by simp;omega);refine ⟨r',y3,y4,y5,?_⟩;rw [←e];refine iQ (ρ1:=[S,.nst ((done++[cur]).map nmD),.val (.int r),.val (.str m.1),.val (.int m.2.1),.val (.int m.2.2)]) rfl ?_;show ifS pR _ _ _=_;rw [lV,t1,lC,decide_eq_true c,if_pos rfl];have l1:lastN 1 (var 3) [S,.nst ((done++[cur]).map nmD),.val (.int r),.val (.str m.1),.val (.int m.2.1),.val (.int m.2.2)]=some (.nx [S,.nst ((done++[cur++[m]]).map nmD),.val (.int r),.val (.str m.1),.val (.int m.2.1),.val (.int m.2.2)]):=by
    unfold lastN;dsimp only [zK,List.getElem?_cons_zero];rw [jS,jS,show [cur].map nmD=[nmD cur] from rfl,List.getLast?_concat];dsimp only;rw [List.dropLast_concat];show (if dO (nmD cur).length then _ else _)=_;rw [if_pos (by unfold dO;exact decide_eq_true (by simp;omega))];simp
   rw [aT l1];show bns (fC a4L (aC (var 2) (aC (var 5) aH)) _) _ _=_;rw [lD (ρ:=[S,.nst ((done++[cur++[m]]).map nmD),.val (.int r),.val (.str m.1),.val (.int m.2.1),.val (.int m.2.2)]) (ds:=[.int r,.int m.2.2]) rfl b6Y];rfl
  ·rw [if_neg c]
   obtain ⟨r',y3,y4,y5,e⟩:=pF S l (done++[cur]) [m] m.2.2 (.val (.str m.1)) (.val (.int m.2.1)) (.val (.int m.2.2)) (by simp;omega) (by simp;omega);refine ⟨r',y3,y4,y5,?_⟩;rw [show done++(cur::eI l [m] m.2.2)=(done++[cur])++eI l [m] m.2.2 by simp,←e];refine iQ (ρ1:=[S,.nst ((done++[cur]).map nmD),.val (.int r),.val (.str m.1),.val (.int m.2.1),.val (.int m.2.2)]) rfl ?_;show ifS pR _ _ _=_;rw [lV,t1,lC,decide_eq_false c,if_neg (by decide)];have p1:pushN 1 (aC (var 3) aH) [S,.nst ((done++[cur]).map nmD),.val (.int r),.val (.str m.1),.val (.int m.2.1),.val (.int m.2.2)]=some (.nx [S,.nst ((done++[cur]++[[m]]).map nmD),.val (.int r),.val (.str m.1),.val (.int m.2.1),.val (.int m.2.2)]):=by
    unfold pushN;dsimp only [zK,List.getElem?_cons_zero];rw [show aC (var 3) aH [S,.nst ((done++[cur]).map nmD),.val (.int r),.val (.str m.1),.val (.int m.2.1),.val (.int m.2.2)]=some (.ok [.str m.1]) from rfl,lC];rw [if_pos (by unfold dO;simp;omega)];simp
   rw [aT p1];rfl
abbrev gD (A:List Mt):j0:=.list ((iD (A.map (·.1))).map .str)
theorem b4m {l A:List Mt} (h:A∈cE l):A.length≤l.length:=by
 have:A.Sublist (cE l).flatten:=List.sublist_flatten_of_mem h;rw [iY] at this;exact this.length_le
theorem uD {s:List Mt} (nd:(s.map (·.1)).Nodup) (hz:s.length<64):lI [dS s]=some (.ok (.list ((cE (dD s)).map gD))):=by
 have hl:=(gH s).length_eq;refine bF rfl ?_;show a1n [.val (dS s),.no,.no,.no,.no,.no]=_;have lp:∃ r y3 y4 y5,gA (.tp [3,4,5]) yC ((dD s).map dM) [.val (dS s),.nst [],.val (.int 0),.no,.no,.no]=some (.nx [.val (dS s),.nst ((cE (dD s)).map nmD),.val (.int r),y3,y4,y5]):=by
  cases hs:dD s with
  | nil=>exact ⟨0,.no,.no,.no,rfl⟩
  | cons m l=>
   rw [hs] at hl;simp only [qZ] at hl;obtain ⟨r',y3,y4,y5,e⟩:=pF (.val (dS s)) l [] [m] m.2.2 (.val (.str m.1)) (.val (.int m.2.1)) (.val (.int m.2.2)) (by simp;omega) (by simp;omega);refine ⟨r',y3,y4,y5,?_⟩;rw [show cE (m::l)=[]++eI l [m] m.2.2 from rfl,←e];refine iQ (ρ1:=[.val (dS s),.nst [],.val (.int 0),.val (.str m.1),.val (.int m.2.1),.val (.int m.2.2)]) rfl ?_;rfl
 obtain ⟨r,y3,y4,y5,lp⟩:=lp;have k1:xK [.val (dS s),.val (.list (((cE (dD s)).map nmD).map .list)),.val (.int r),y3,y4,y5]=some (.ok (.list ((cE (dD s)).map gD))):=by
  have gl:(cE (dD s)).length≤1000:=by
   have h1:∀ (Gs:List (List Mt)),(∀ A∈Gs,A≠[])→Gs.length≤Gs.flatten.length:=by
    intro Gs
    induction Gs with
    | nil=>intro _;simp
    | cons A Gs ih=>
     intro h;have hA:0<A.length:=List.length_pos_iff.mpr (h A (by simp));have:=ih fun B hB=>h B (by simp [hB]);rw [jt,qh,qZ];omega
   have:=h1 (cE (dD s)) fun A hA=>by obtain ⟨y,t,e,_⟩:=oG A hA;rw [e];simp
   rw [iY] at this;omega
  refine bM (fun A:List Mt=>zj (nmD A)) (fun A=>[.val (.list (nmD A))]) gD (cE (dD s)) (by rw [a5L];show some (Re.ok (((cE (dD s)).map nmD).map zj))=_;rw [qP];rfl) (by omega) (fun A _=>by simp [bS]) (fun A hA=>?_);obtain ⟨y,t,e,_⟩:=oG A hA;have la:=b4m hA;subst e;refine lD (ds:=[.list (nmD (y::t))]) rfl ?_;exact a8g (x:=y.1) (ns:=t.map (·.1)) (by simp at la ⊢;omega)
 unfold a1n;rw [aT (ρ':=[.val (dS s),.nst [],.no,.no,.no,.no]) rfl,aT (ρ':=[.val (dS s),.nst [],.val (.int 0),.no,.no,.no]) rfl];rw [aT (ρ':=[.val (dS s),.nst ((cE (dD s)).map nmD),.val (.int r),y3,y4,y5]) (by rw [sQ,nN (aQ (ds:=[dS s]) rfl (a5l nd hz)) rfl,lC];exact lp)];show retS xK [.val (dS s),.val (.list (((cE (dD s)).map nmD).map .list)),.val (.int r),y3,y4,y5]=_;rw [dW,k1];rfl
end L2.L3
namespace L2.ZT
open PySem PyProof.Rows
section
variable {prog:Program} {w:World} {A:Around} {E:T0a} {s:Shared}
variable {z TI TO c d t u:Addr} {i j:Nat} {xs ys:Array Value} {a b:Value}
end
section
variable {prog:Program} {w:World} {A:Around} {E:T0a} {s:Shared}
end
end L2.ZT
namespace L2.L3
open PySem PySem.Spec PyProof.Rows
def Itl (K:qC) (l1 l2:Addr):It:=
 ⟨fun i H=>∃ xs ys x y,SqT K H l1 xs∧SqL K H l2 ys∧xs[i]?=some x∧ys[i]?=some y,
 fun i H v H'=>∃ T x y,H T=none∧v=.ref T∧H'=upd H T (.tup [x,y])∧(∀ xs,SqT K H l1 xs→xs[i]?=some x)∧∀ ys,SqL K H l2 ys→ys[i]?=some y,
 fun i H=>∃ xs ys,SqT K H l1 xs∧SqL K H l2 ys∧(xs.length≤i∨ys.length≤i)⟩
section
variable {X:Cx} {a b:Expr} {elts:T0l} {k0:Nat} {p0 pos p:Pos} {fa fb:EF}
end
theorem a5V {g:j0→j0→Option j0} {fa fb:EF} {ρ:List Ent} {x y d:j0} (ha:fa ρ=some (.ok x)) (hb:fb ρ=some (.ok y)) (h:g x y=some d):op2 g fa fb ρ=some (.ok d):=by
 rw [a4A,ha,cF,hb,cF,h];rfl
theorem a0m {g:j0→j0→Option Bool} {fa fb:EF} {ρ:List Ent} {x y:j0} {r:Bool} (ha:fa ρ=some (.ok x)) (hb:fb ρ=some (.ok y)) (h:g x y=some r):dL g fa fb ρ=some (.ok r):=by
 rw [a6z,ha,cF,hb,cF,h];rfl
theorem bZ {fa:EF} {aa:AF} {ρ:List Ent} {x:j0} {xs:T0j} (ha:fa ρ=some (.ok x)) (hb:aa ρ=some (.ok xs)):aC fa aa ρ=some (.ok (x::xs)):=by
 rw [fX,ha,cF,hb,cF]
def prt (s:List Mt) (m:Mt):List Mt:=s.filter fun o=>!decide (o.1=m.1)&&decide (ov m o)
def gof (s:List Mt) (m:Mt):List Mt:=((cE (dD s)).find? fun A=>decide (m∈A)).getD []
def grp (s:List Mt) (m:Mt):List Mt:=s.filter fun a=>decide (a∈gof s m)
def wid (s:List Mt) (m:Mt):Int:=cD (grp s m)
section
variable {s:List Mt}
theorem a0R {A:List Mt} (hA:A∈cE (dD s)) {a:Mt} (ha:a∈A):a∈s:=
 (gH s).mem_iff.mp (by rw [←iY (dD s)];exact ku.mpr ⟨A,hA,ha⟩)
variable (hp:∀ m∈s,m.2.1<m.2.2)
include hp
omit hp
abbrev cl (P:List Ly) (m:Mt):Int:=(b5G P m.1:Nat)
variable {P:List Ly}
def lst (s:List Mt) (P:List Ly) (m:Mt):Int:=b6W ((wid s m::(prt s m).map (cl P)).filter fun c=>decide (cl P m<c))
end
def b5i (A:List Mt):Prop:=∀ d:Int,(∃ a∈A,a.2.1<d)→(∃ a∈A,d<a.2.2)→∃ a∈A,a.2.1<d∧d<a.2.2
theorem a2y:∀ (t A:List Mt),(A++t).Pairwise (fun a b=>a.2.1≤b.2.1)→a6L A t→b5i A→b5i (A++t)
 | [],A,_,_,h=>by rw [ji];exact h
 | m::t,A,hb,⟨⟨a0,ha0,hm⟩,hh⟩,h=>by
  have le:a0.2.1≤m.2.1:=(ko.mp hb).2.2 a0 ha0 m (by simp);have e:A++m::t=(A++[m])++t:=by simp
  rw [e] at hb ⊢;refine a2y t (A++[m]) hb hh ?_;rintro d ⟨x,hx,x1⟩ ⟨y,hy,y1⟩;have hx':∃ a∈A,a.2.1<d:=by
   rcases qu.mp hx with hx | hx
   ·exact ⟨x,hx,x1⟩
   ·rw [qQ] at hx;subst hx;exact ⟨a0,ha0,by omega⟩
  by_cases c:m.2.1<d∧d<m.2.2
  ·exact ⟨m,by simp,c⟩
  ·have hy':∃ a∈A,d<a.2.2:=by
    rcases qu.mp hy with hy | hy
    ·exact ⟨y,hy,y1⟩
    ·rw [qQ] at hy;subst hy;exact ⟨a0,ha0,by omega⟩
   obtain ⟨a,ha,q⟩:=h d hx' hy';exact ⟨a,jW _ ha,q⟩
theorem b2n (y:Mt):b5i [y]:=by
 rintro d ⟨a,ha,h1⟩ ⟨b,hb,h2⟩;rw [qQ] at ha hb;subst ha hb;exact ⟨_,by simp,h1,h2⟩
structure Grps (s:List Mt) (Gs:List (List Mt)):Prop where
 perm:Gs.flatten.Perm s
 apart:Gs.Pairwise fun A B=>∀ a∈A,∀ b∈B,a.2.2≤b.2.1
 ne:∀ A∈Gs,A≠[]
 conn:∀ A∈Gs,b5i A
theorem a7w (s:List Mt):Grps s (cE (dD s)):=by
 refine ⟨by rw [iY];exact gH s,a5e (yJ s),fun A hA=>?_,fun A hA=>?_⟩
 ·obtain ⟨y,t,e,_⟩:=oG A hA
  rw [e];simp
 ·obtain ⟨y,t,e,hh⟩:=oG A hA
  have sb:A.Sublist (dD s):=by
   have:=List.sublist_flatten_of_mem hA
   rwa [iY] at this
  have pw:=(yJ s).sublist sb;rw [e] at pw ⊢;exact a2y t [y] pw hh (b2n y)
inductive GSame:List (List Mt)→List (List Mt)→Prop
 | nil:GSame [] []
 | cons {A B:List Mt} {Gs Hs:List (List Mt)}:A.Perm B→GSame Gs Hs→GSame (A::Gs) (B::Hs)
theorem GSame.map {β:Type} {f:List Mt→β} (hf:∀ A B:List Mt,A.Perm B→f A=f B):∀ {Gs Hs:List (List Mt)},GSame Gs Hs→Gs.map f=Hs.map f
 | _,_,.nil=>rfl
 | _,_,.cons p h=>by rw [qU,qU,hf _ _ p,h.map hf]
theorem b5W {B:List Mt} (h:B≠[]):∃ b∈B,∀ a∈B,a.2.2≤b.2.2:=by
 obtain ⟨b,hb,e⟩:=qH.mp (tQ (ns:=B.map (·.2.2)) (by simp [h]));exact ⟨b,hb,fun a ha=>by rw [e];exact tR (qz (f:=(·.2.2)) ha)⟩
theorem a5d {s A B:List Mt} {Gs Hs:List (List Mt)} (hp:∀ m∈s,m.2.1<m.2.2) (h1:Grps s (A::Gs)) (h2:Grps s (B::Hs)):∀ a∈A,a∈B:=by
 intro a0 ha0;apply vC;intro hn;have inS:∀ {X:List Mt},X∈A::Gs→∀ m∈X,m∈s:=fun hX m hm=>h1.perm.mem_iff.mp (ku.mpr ⟨_,hX,hm⟩);have inS2:∀ {X:List Mt},X∈B::Hs→∀ m∈X,m∈s:=fun hX m hm=>h2.perm.mem_iff.mp (ku.mpr ⟨_,hX,hm⟩);have a0s:=inS (X:=A) (by simp) a0 ha0;obtain ⟨b0,hb0,top⟩:=b5W (h2.ne B (by simp));have late:∀ m∈s,m∈B∨∀ b∈B,b.2.2≤m.2.1:=fun m hm=>by
  obtain ⟨C,hC,hmC⟩:=ku.mp (h2.perm.mem_iff.mpr hm);rcases qF.mp hC with rfl | hC
  ·exact .inl hmC
  ·exact .inr fun b hb=>(qg.mp h2.apart).1 C hC b hb m hmC
 have hb0a:b0.2.2≤a0.2.1:=((late a0 a0s).resolve_left hn) b0 hb0;have pa:=hp a0 a0s;have pb:=hp b0 (inS2 (X:=B) (by simp) b0 hb0);obtain ⟨C,hC,hbC⟩:=ku.mp (h1.perm.mem_iff.mpr (inS2 (X:=B) (by simp) b0 hb0));rcases qF.mp hC with rfl | hC
 ·obtain ⟨a,ha,q1,q2⟩:=h1.conn C (by simp) b0.2.2 ⟨b0,hbC,pb⟩ ⟨a0,ha0,by omega⟩
  rcases late a (inS (X:=C) (by simp) a ha) with z | z
  ·have:=top a z;omega
  ·have:=z b0 hb0;omega
 ·have:=(qg.mp h1.apart).1 C hC a0 ha0 b0 hbC
  omega
theorem a2z:∀ {Gs Hs:List (List Mt)} {s:List Mt},(∀ m∈s,m.2.1<m.2.2)→s.Nodup→Grps s Gs→Grps s Hs→GSame Gs Hs
 | [],[],_,_,_,_,_=>.nil
 | [],B::Hs,s,_,_,h1,h2=>by
  have e:(B::Hs).flatten=[]:=List.Perm.eq_nil (h2.perm.trans h1.perm.symm);rw [jt,List.append_eq_nil_iff] at e;exact absurd e.1 (h2.ne B (by simp))
 | A::Gs,[],s,_,_,h1,h2=>by
  have e:(A::Gs).flatten=[]:=List.Perm.eq_nil (h1.perm.trans h2.perm.symm);rw [jt,List.append_eq_nil_iff] at e;exact absurd e.1 (h1.ne A (by simp))
 | A::Gs,B::Hs,s,hp,nd,h1,h2=>by
  have i1:=a5d hp h1 h2;have i2:=a5d hp h2 h1;have n1:=h1.perm.nodup_iff.mpr nd;have n2:=h2.perm.nodup_iff.mpr nd;rw [jt] at n1 n2;have na:=(kD.mp n1).1;have nb:=(kD.mp n2).1;have l1:=xF na i1;have l2:=xF nb i2;have p:A.Perm B:=SX.perm_of B A nb i2 (by omega);refine .cons p ?_;have q:(A++Gs.flatten).Perm (A++Hs.flatten):=by
   have:=h1.perm.trans h2.perm.symm;rw [jt,jt] at this;exact this.trans (p.symm.append_right _)
  have q:=(List.perm_append_left_iff A).mp q;have sub:∀ m∈Gs.flatten,m∈s:=fun m hm=>h1.perm.mem_iff.mp (by rw [jt];exact qe _ hm);exact a2z (s:=Gs.flatten) (fun m hm=>hp m (sub m hm)) (kD.mp n1).2.1 ⟨.refl _,(qg.mp h1.apart).2,fun X hX=>h1.ne X (by simp [hX]),fun X hX=>h1.conn X (by simp [hX])⟩ ⟨q.symm,(qg.mp h2.apart).2,fun X hX=>h2.ne X (by simp [hX]),fun X hX=>h2.conn X (by simp [hX])⟩
theorem a4G (s:List Mt):0≤cD s:=vU (yH s 0) (tO s 0)
theorem pZ {r s:List Mt} (h:∀ d,aX r d≤cD s):cD r≤cD s:=by
 rcases b3R r with z | ⟨m,_,z⟩
 ·rw [z];exact a4G s
 ·rw [z];exact h _
def mir (m:Mt):Mt:=(m.1,480 - m.2.2,480 - m.2.1)
theorem b3U (m:Mt):mir (mir m)=m:=by
 obtain ⟨a,b,c⟩:=m;unfold mir;simp only [Prod.mk.injEq,true_and];omega
theorem b3T {s:List Mt} (hp:∀ m∈s,m.2.1<m.2.2):∀ m∈s.map mir,m.2.1<m.2.2:=fun m hm=>by
 obtain ⟨a,ha,rfl⟩:=qH.mp hm;have:=hp a ha;unfold mir;dsimp only;omega
theorem a2l (s:List Mt):(s.map mir).map (·.1)=s.map (·.1):=by rw [qP];rfl
theorem a4O (s:List Mt) (d:Int):aX (s.map mir) d=aX s (479 - d):=by
 unfold aX iJ;rw [zp,qP,qE,qE];congr 2;refine km fun m _=>?_;rw [ju];show dZ d (mir m)=true↔_;rw [pJ,pJ];unfold mir;dsimp only;omega
theorem b1g (s:List Mt):cD (s.map mir)=cD s:=by
 refine vV (pZ fun d=>by rw [a4O];exact tO _ _) (pZ fun d=>?_);have:=tO (s.map mir) (479 - d);rw [a4O] at this
 rwa [show 479 - (479 - d)=d by omega] at this
theorem a5i {α:Type}:∀ l:List (List α),l.reverse.flatten.Perm l.flatten
 | []=>.refl _
 | a::l=>by
  have e:[a].flatten=a:=by simp
  have e2:(a::l).flatten=a++l.flatten:=jt;rw [jd,List.flatten_append,e,e2];exact ((a5i l).append_right a).trans List.perm_append_comm
theorem b1D {s:List Mt} {Gs:List (List Mt)} (h:Grps s Gs):Grps (s.map mir) ((Gs.map fun A=>A.map mir).reverse):=by
 refine ⟨?_,?_,fun A hA=>?_,fun A hA=>?_⟩
 ·refine (a5i _).trans ?_
  rw [←List.map_flatten];exact h.perm.map _
 ·rw [List.pairwise_reverse,qr]
  refine h.apart.imp fun {A B} hAB a ha b hb=>?_;obtain ⟨a',ha',rfl⟩:=qH.mp ha;obtain ⟨b',hb',rfl⟩:=qH.mp hb;have:=hAB b' hb' a' ha';unfold mir;dsimp only;omega
 ·rw [wR] at hA
  obtain ⟨A',hA',rfl⟩:=qH.mp hA;have:=h.ne A' hA';simpa using this
 ·rw [wR] at hA
  obtain ⟨A',hA',rfl⟩:=qH.mp hA;rintro d ⟨a,ha,h1⟩ ⟨b,hb,h2⟩;obtain ⟨a',ha',rfl⟩:=qH.mp ha;obtain ⟨b',hb',rfl⟩:=qH.mp hb;unfold mir at h1 h2;dsimp only at h1 h2;obtain ⟨c,hc,q1,q2⟩:=h.conn A' hA' (480 - d) ⟨b',hb',by omega⟩ ⟨a',ha',by omega⟩;refine ⟨mir c,qz hc,?_⟩;unfold mir;dsimp only;omega
theorem a0P {s:List Mt} (nd:(s.map (·.1)).Nodup):s.Nodup:=by
 rw [wH,qr] at nd;exact nd.imp fun {a b} n z=>n (by rw [z])
theorem b0s {s:List Mt} (hp:∀ m∈s,m.2.1<m.2.2) (nd:(s.map (·.1)).Nodup):GSame (cE (dD (s.map mir))) (((cE (dD s)).map fun A=>A.map mir).reverse):=
 a2z (b3T hp) (a0P (by rw [a2l];exact nd)) (a7w _) (b1D (a7w s))
theorem b4p (A B:List Mt) (h:A.Perm B):gD A=gD B:=by
 show zj _=zj _;rw [sG ((gC _).trans ((h.map _).trans (gC _).symm)) (nG _) (nG _)]
theorem a6m {s:List Mt} (hp:∀ m∈s,m.2.1<m.2.2) (nd:(s.map (·.1)).Nodup):(cE (dD (s.map mir))).map gD=((cE (dD s)).map gD).reverse:=by
 rw [(b0s hp nd).map b4p,List.map_reverse,qP];congr 1;refine jq fun A _=>?_;show zj ((iD ((A.map mir).map (·.1))).map .str)=_;rw [a2l]
def nu (s:List Mt):Nat:=(gr (fT s) none).length
def a9z (s:List Mt):Prop:=∀ m∈s,m.2.1<m.2.2
theorem b3H {s:List Mt} (hp:a9z s):∃ F:List Mt,F.Pairwise yD∧(∀ m∈F,m∈s)∧F.length=nu s:=by
 obtain ⟨F,a,b,c,_⟩:=a7i hp (xU s) (gK s);exact ⟨F,a,b,c⟩
theorem b3I {s F:List Mt} (hp:a9z s) (ha:F.Pairwise yD) (hF:∀ m∈F,m∈s):F.length≤nu s:=by
 obtain ⟨_,_,_,_,h⟩:=a7i hp (xU s) (gK s);exact h F ha hF
theorem b5u {s t:List Mt} (f:Mt→Mt) (hs:a9z s) (ht:a9z t) (hf:∀ m∈s,f m∈t) (ha:∀ a b,yD a b→yD (f a) (f b)):nu s≤nu t:=by
 obtain ⟨F,a,b,c⟩:=b3H hs;rw [←c,←qE (f:=f)];refine b3I ht ?_ fun m hm=>?_
 ·rw [qr];exact a.imp fun h=>ha _ _ h
 ·obtain ⟨n,hn,rfl⟩:=qH.mp hm
  exact hf n (b n hn)
theorem a4J (a b:Mt) (h:yD a b):yD (mir a) (mir b):=by
 unfold yD bef mir at *;dsimp only;omega
theorem b6L {s:List Mt} (hp:a9z s):nu (s.map mir)=nu s:=by
 have hq:a9z (s.map mir):=fun m hm=>by
  obtain ⟨n,hn,rfl⟩:=qH.mp hm;have:=hp n hn;unfold mir;dsimp only;omega
 have h1:=b5u mir hp hq (fun m hm=>qz hm) a4J
 have h2:=b5u mir hq hp (fun m hm=>by
  obtain ⟨n,hn,rfl⟩:=qH.mp hm
  rw [b3U];exact hn) a4J
 omega
def sh (c:Int) (m:Mt):Mt:=(m.1,m.2.1+c,m.2.2+c)
theorem a0A (c:Int) (s:List Mt):(s.map (sh c)).map (·.1)=s.map (·.1):=by rw [qP];rfl
theorem a6V (c:Int) (m:Mt):sh (-c) (sh c m)=m:=by
 obtain ⟨a,b,e⟩:=m;unfold sh;dsimp only;rw [show b+c+-c=b by omega,show e+c+-c=e by omega]
theorem b5E (a b:Int):eqC (.int a) (.int b)=(a==b):=rfl
theorem a0j (a b c:Int):eqC (.int (a+c)) (.int (b+c))=eqC (.int a) (.int b):=by
 rw [b5E,b5E,ju,beq_iff_eq,beq_iff_eq];omega
theorem a0i (a b c:Int):ltC (.int (a+c)) (.int (b+c))=ltC (.int a) (.int b):=by
 show decide (a+c<b+c)=decide (a<b);rw [decide_eq_decide];omega
theorem b7b (c:Int) (a b:Mt):ltR [.int (a.2.1+c),.int (-(a.2.2+c)),.str a.1] [.int (b.2.1+c),.int (-(b.2.2+c)),.str b.1]=ltR [.int a.2.1,.int (-a.2.2),.str a.1] [.int b.2.1,.int (-b.2.2),.str b.1]:=by
 unfold ltR;rw [a0j,a0i];unfold ltR;have e1:-(a.2.2+c)=-a.2.2+-c:=by omega
 have e2:-(b.2.2+c)=-b.2.2+-c:=by omega
 rw [e1,e2,a0j,a0i]
theorem b7C (c:Int) (a b:Mt):ltR [.int (a.2.2+c),.int (a.2.1+c),.str a.1] [.int (b.2.2+c),.int (b.2.1+c),.str b.1]=ltR [.int a.2.2,.int a.2.1,.str a.1] [.int b.2.2,.int b.2.1,.str b.1]:=by
 unfold ltR;rw [a0j,a0i];unfold ltR;rw [a0j,a0i]
theorem a7o (c:Int) (s:List Mt):dD (s.map (sh c))=(dD s).map (sh c):=by
 symm
 refine a6T (g:=[true,true,false]) b1n (fun m=>rfl) ((gH s).map _) ?_;have h:=yI s;unfold pQ at h ⊢;rw [qP,qr];rw [qr] at h;exact h.imp fun {a b} z=>(b7b c b a).trans z
theorem b4u (c:Int) (s:List Mt):fT (s.map (sh c))=(fT s).map (sh c):=by
 symm
 refine b4v ((gK s).map _) ?_;have h:=yQ s;unfold pQ at h ⊢;rw [qP,qr];rw [qr] at h;exact h.imp fun {a b} z=>(b7C c b a).trans z
theorem a7x (c:Int):∀ (l:List Mt) (o:Option Int),gr (l.map (sh c)) (o.map (·+c))=(gr l o).map (sh c)
 | [],_=>rfl
 | m::r,none=>by
  have:=a7x c r (some m.2.2);show sh c m::gr (r.map (sh c)) (some (m.2.2+c))=_;rw [gr,qU];congr 1
 | m::r,some e=>by
  have h1:=a7x c r (some m.2.2);have h2:=a7x c r (some e);show (if e+c≤m.2.1+c then sh c m::gr (r.map (sh c)) (some (m.2.2+c)) else gr (r.map (sh c)) (some (e+c)))=_;rw [gr];by_cases z:e≤m.2.1
  ·rw [if_pos z,if_pos (by omega),qU];congr 1
  ·rw [if_neg z,if_neg (by omega)];exact h2
theorem a2N (c:Int) (s:List Mt):(gr (fT (s.map (sh c))) none).map (·.1)=(gr (fT s) none).map (·.1):=by
 rw [b4u];have:=a7x c (fT s) none;rw [show (none:Option Int)=(none:Option Int).map (·+c) from rfl,this,a0A];rfl
theorem b8N (c:Int) (a b:Mt):ov (sh c a) (sh c b)↔ov a b:=by unfold ov sh;dsimp only;omega
theorem a1e (c:Int):∀ (l cur:List Mt) (r:Int),eI (l.map (sh c)) (cur.map (sh c)) (r+c)=(eI l cur r).map (List.map (sh c))
 | [],cur,r=>rfl
 | m::l,cur,r=>by
  show eI (sh c m::l.map (sh c)) (cur.map (sh c)) (r+c)=_;unfold eI;have h1:=a1e c l (cur++[m]) (max r m.2.2);have h2:=a1e c l [m] m.2.2;by_cases z:m.2.1<r
  ·rw [if_pos z,if_pos (show (sh c m).2.1<r+c by show m.2.1+c<r+c;omega)]
   rw [jS,show max r m.2.2+c=max (r+c) (m.2.2+c) by omega] at h1;exact h1
  ·rw [if_neg z,if_neg (show ¬(sh c m).2.1<r+c by show ¬m.2.1+c<r+c;omega),qU]
   congr 1
theorem b1E (c:Int):∀ l:List Mt,cE (l.map (sh c))=(cE l).map (List.map (sh c))
 | []=>rfl
 | m::l=>a1e c l [m] m.2.2
theorem a2A (c:Int) (s:List Mt):(cE (dD (s.map (sh c)))).map gD=(cE (dD s)).map gD:=by
 rw [a7o,b1E,qP];refine jq fun A _=>?_;show zj ((iD ((A.map (sh c)).map (·.1))).map .str)=_;rw [a0A]
def shL (c:Int) (p:Ly):Ly:=(sh c p.1,p.2)
theorem a9W (c:Int) (P:List Ly) (m:Mt):taken (P.map (shL c)) (sh c m)=taken P m:=by
 unfold taken;rw [zp,qP];congr 1;refine km fun p _=>?_;show decide (ov (sh c m) (sh c p.1))=decide (ov m p.1);rw [decide_eq_decide];exact b8N c m p.1
theorem a7p (c:Int):∀ (Q P:List Ly),lE P Q→lE (P.map (shL c)) (Q.map (shL c))
 | [],_,_=>trivial
 | q::Q,P,⟨h1,h2⟩=>by
  refine ⟨?_,?_⟩
  ·show (¬(q.2:Int)∈taken (P.map (shL c)) (sh c q.1)∧∀ j<q.2,(j:Int)∈taken (P.map (shL c)) (sh c q.1))
   rw [a9W];exact h1
  ·have:=a7p c Q (P++[q]) h2
   rwa [jS] at this
theorem LayOf.sh {c:Int} {s:List Mt} {P:List Ly} (h:LayOf s P):LayOf (s.map (L3.sh c)) (P.map (shL c)):=by
 refine ⟨?_,fun p hp=>?_,a7p c P [] h.laid⟩
 ·rw [a7o,←h.ord,qP,qP];rfl
 ·obtain ⟨q,hq,rfl⟩:=qH.mp hp
  rw [qE];exact h.low q hq
theorem a2q:∀ (Q Q' P:List Ly),Q.map (·.1)=Q'.map (·.1)→lE P Q→lE P Q'→Q=Q'
 | [],[],_,_,_,_=>rfl
 | [],_::_,_,h,_,_=>by cases h
 | _::_,[],_,h,_,_=>by cases h
 | q::Q,q'::Q',P,h,⟨⟨a1,a2⟩,a3⟩,⟨⟨b1,b2⟩,b3⟩=>by
  rw [qU,qU] at h;injection h with h1 h2;have e:q=q':=by
   obtain ⟨m,i⟩:=q;obtain ⟨m',j⟩:=q';have h1:m=m':=h1;subst h1;rcases Nat.lt_trichotomy i j with z | z | z
   ·exact absurd (b2 i z) a1
   ·rw [z]
   ·exact absurd (a2 j z) b1
  subst e;rw [a2q Q Q' (P++[q]) h2 a3 b3]
theorem LayOf.uniq {s:List Mt} {P Q:List Ly} (h:LayOf s P) (h':LayOf s Q):P=Q:=a2q P Q [] (h.ord.trans h'.ord.symm) h.laid h'.laid
theorem b4L (c:Int) (P:List Ly):a1M (P.map (shL c))=a1M P:=by unfold a1M;rw [qP];rfl
theorem a3A (c:Int) (s:List Mt) (d:Int):aX (s.map (sh c)) (d+c)=aX s d:=by
 unfold aX iJ;rw [zp,qE,qE,qE];congr 2;refine km fun m _=>?_;show (decide (m.2.1+c≤d+c)&&decide (d+c<m.2.2+c))=(decide (m.2.1≤d)&&decide (d<m.2.2));congr 1<;>rw [decide_eq_decide]<;>omega
theorem b3P (c:Int) (s:List Mt):cD (s.map (sh c))=cD s:=by
 refine vV (pZ fun d=>?_) (pZ fun d=>?_)
 ·have:=a3A c s (d - c)
  rw [show d - c+c=d by omega] at this;rw [this];exact tO _ _
 ·rw [←a3A c s d];exact tO _ _
theorem b8S (c:Int) (s:List Mt):nu (s.map (sh c))=nu s:=by
 have:=congrArg List.length (a2N c s);rw [qE,qE] at this;exact this
theorem a1g {f:Int→Int} {hi:Int}:∀ {rows rows':List Row} {lo:Int},FCh f hi lo rows→Alt rows→FCh f hi lo rows'→Alt rows'→rows=rows'
 | [],[],_,_,_,_,_=>rfl
 | [],r::t,lo,h,_,⟨h1,h2,h3,h4⟩,_=>by
  have h:lo=hi:=h;have:=(a1h h4).1;omega
 | r::t,[],lo,⟨h1,h2,h3,h4⟩,_,h,_=>by
  have h:lo=hi:=h;have:=(a1h h4).1;omega
 | r::t,r'::t',lo,⟨h1,h2,h3,h4⟩,a,⟨g1,g2,g3,g4⟩,b=>by
  have ve:r.2.2=r'.2.2:=by rw [←h3 lo (by omega) (by omega),←g3 lo (by omega) (by omega)]
  have key:∀ {r r':Row} {t:List Row},FCh f hi r.2.1 t→Alt (r::t)→r.2.2=r'.2.2→(∀ x,r'.1≤x→x<r'.2.1→f x=r'.2.2)→r'.1≤r.2.1→r.2.1<r'.2.1→r'.2.1≤hi→False:=by
   intro r r' t q1 q2 q3 q4 q5 q6 q7;cases t with
   | nil=>have q1:r.2.1=hi:=q1;omega
   | cons u t=>
    obtain ⟨u1,u2,u3,_⟩:=q1;have w1:=u3 u.1 (by omega) u2;have w2:=q4 u.1 (by omega) (by omega);exact q2.1 (by rw [q3,←w2,w1])
  have ee:r.2.1=r'.2.1:=by
   rcases Int.lt_trichotomy r.2.1 r'.2.1 with z | z | z
   ·exact (key h4 a ve g3 (by omega) z (a1h g4).1).elim
   ·exact z
   ·exact (key g4 b ve.symm h3 (by omega) z (a1h h4).1).elim
  have er:r=r':=by
   obtain ⟨x,y,v⟩:=r;obtain ⟨x',y',v'⟩:=r';have:x=x':=by have h1:x=lo:=h1;have g1:x'=lo:=g1;omega
   have ee:y=y':=ee;have ve:v=v':=ve;subst this ee ve;rfl
  subst er;have at':∀ {t:List Row},Alt (r::t)→Alt t:=fun {t} q=>by
   cases t with
   | nil=>trivial
   | cons u t=>exact q.2
  rw [a1g h4 (at' a) g4 (at' b)]
theorem a4f {g:Row→Row} (hg:∀ r,(g r).2.2=r.2.2):∀ {rows:List Row},Alt rows→Alt (rows.map g)
 | [],_=>trivial
 | [_],_=>trivial
 | a::b::t,⟨h1,h2⟩=>⟨by rw [hg,hg];exact h1,a4f (rows:=b::t) hg h2⟩
def shR (c:Int) (r:Row):Row:=(r.1+c,r.2.1+c,r.2.2)
def miR (l:Int) (r:Row):Row:=(l - r.2.1,l - r.1,r.2.2)
theorem b1N {f g:Int→Int} {c hi:Int} (hg:∀ x,g (x+c)=f x):∀ {rows:List Row} {lo:Int},FCh f hi lo rows→FCh g (hi+c) (lo+c) (rows.map (shR c))
 | [],lo,h=>by have h:lo=hi:=h;show lo+c=hi+c;omega
 | r::t,lo,⟨h1,h2,h3,h4⟩=>by
  refine ⟨by show r.1+c=lo+c;omega,by show r.1+c<r.2.1+c;omega,fun x q1 q2=>?_,b1N hg h4⟩;have q1:r.1+c≤x:=q1;have q2:x<r.2.1+c:=q2;have:=hg (x - c);rw [show x - c+c=x by omega] at this;rw [this];exact h3 _ (by omega) (by omega)
theorem b0x {f g:Int→Int} {l hi:Int} (hg:∀ x,g (l - 1 - x)=f x):∀ {rows:List Row} {lo:Int},FCh f hi lo rows→RCh g (l - hi) (l - lo) (rows.map (miR l))
 | [],lo,h=>by have h:lo=hi:=h;show l - lo=l - hi;omega
 | r::t,lo,⟨h1,h2,h3,h4⟩=>by
  refine ⟨by show l - r.1=l - lo;omega,by show l - r.2.1<l - r.1;omega,fun x q1 q2=>?_,b0x hg h4⟩;have q1:l - r.2.1≤x:=q1;have q2:x<l - r.1:=q2;have:=hg (l - 1 - x);rw [show l - 1 - (l - 1 - x)=x by omega] at this;rw [this];exact h3 _ (by omega) (by omega)
theorem b7y {f g:Int→Int} {l hi lo:Int} {rows:List Row} (hg:∀ x,g (l - 1 - x)=f x) (h:FCh f hi lo rows):FCh g (l - lo) (l - hi) ((rows.map (miR l)).reverse):=by
 have:=a3H (hi2:=l - lo) (tail:=[]) (b0x hg h) rfl
 rwa [ji] at this
theorem uB {s:List Mt} {lo hi:Int} {r:T0q} (hp:∀ m∈s,m.2.1<m.2.2) (E:Ends' s lo hi r):(∃ m∈s,m.2.1=lo)∧∃ m∈s,m.2.2=hi:=by
 have a:lo∈cutsOf s:=by rw [E.eq];simp
 have b:hi∈cutsOf s:=by rw [E.eq,←E.last];exact a4S lo r
 constructor
 ·rcases (iT lo).mp a with z | ⟨m,hm,z⟩
  ·exact z
  ·have:=E.lo_le m hm;have:=hp m hm;omega
 ·rcases (iT hi).mp b with ⟨m,hm,z⟩ | z
  ·have:=E.hi_ge m hm;have:=hp m hm;omega
  ·exact z
theorem b0k {s:List Mt} {lo hi:Int} {rows:List Row} (hp:∀ m∈s,m.2.1<m.2.2) (h1:∃ m∈s,m.2.1=lo) (h2:∃ m∈s,m.2.2=hi) (h3:∀ m∈s,lo≤m.2.1∧m.2.2≤hi) (hf:FCh (aX s) hi lo rows) (ha:Alt rows):bU s=rows:=by
 obtain ⟨m1,hm1,e1⟩:=h1;obtain ⟨m2,hm2,e2⟩:=h2;obtain ⟨lo',hi',r,E⟩:=a0k (s:=s) (by intro z;rw [z] at hm1;cases hm1);obtain ⟨⟨n1,k1,f1⟩,n2,k2,f2⟩:=uB hp E;have a:lo'=lo:=by have:=E.lo_le m1 hm1;have:=(h3 n1 k1).1;omega
 have b:hi'=hi:=by have:=E.hi_ge m2 hm2;have:=(h3 n2 k2).2;omega
 subst a b;exact a1g E.steps (oF _) hf ha
theorem b2B {s:List Mt} {lo hi:Int} {rows:List Row} (hp:∀ m∈s,m.2.1<m.2.2) (h1:∃ m∈s,m.2.1=lo) (h2:∃ m∈s,m.2.2=hi) (h3:∀ m∈s,lo≤m.2.1∧m.2.2≤hi) (hf:FCh (fun x=>min (aX s x) 1) hi lo rows) (ha:Alt rows):eR s=rows:=by
 obtain ⟨m1,hm1,e1⟩:=h1;obtain ⟨m2,hm2,e2⟩:=h2;obtain ⟨lo',hi',r,E⟩:=a0k (s:=s) (by intro z;rw [z] at hm1;cases hm1);obtain ⟨⟨n1,k1,f1⟩,n2,k2,f2⟩:=uB hp E;have a:lo'=lo:=by have:=E.lo_le m1 hm1;have:=(h3 n1 k1).1;omega
 have b:hi'=hi:=by have:=E.hi_ge m2 hm2;have:=(h3 n2 k2).2;omega
 subst a b;exact a1g E.busy (oF _) hf ha
theorem b4Z (c:Int) {s:List Mt} (hp:∀ m∈s,m.2.1<m.2.2):lB (s.map (sh c))=(lB s).map fun p=>(p.1+c,p.2+c):=by
 by_cases hs:s=[]
 ·subst hs
  have e:lB []=[]:=by decide +kernel
  show lB []=_;rw [e];rfl
 ·obtain ⟨lo,hi,r,E⟩:=a0k hs
  obtain ⟨⟨n1,k1,f1⟩,n2,k2,f2⟩:=uB hp E;have e:eR (s.map (sh c))=(eR s).map (shR c):=by
   refine b2B (lo:=lo+c) (hi:=hi+c) (fun m hm=>?_) ⟨sh c n1,qz k1,by show n1.2.1+c=_;omega⟩ ⟨sh c n2,qz k2,by show n2.2.2+c=_;omega⟩ (fun m hm=>?_) (b1N (f:=fun x=>min (aX s x) 1) (fun x=>by rw [a3A]) E.busy) (a4f (g:=shR c) (fun _=>rfl) (oF _))
   ·obtain ⟨n,hn,rfl⟩:=qH.mp hm
    have:=hp n hn;show n.2.1+c<n.2.2+c;omega
   ·obtain ⟨n,hn,rfl⟩:=qH.mp hm
    have:=E.lo_le n hn;have:=E.hi_ge n hn;show lo+c≤n.2.1+c∧n.2.2+c≤hi+c;omega
  unfold lB;rw [e];unfold a3o;rw [zp,qP,qP];rfl
def miM (l:Int) (m:Mt):Mt:=(m.1,l - m.2.2,l - m.2.1)
theorem b6X (l:Int) (m:Mt):miM l m=sh (l - 480) (mir m):=by
 unfold miM sh mir;dsimp only;rw [show 480 - m.2.2+(l - 480)=l - m.2.2 by omega,show 480 - m.2.1+(l - 480)=l - m.2.1 by omega]
theorem a3v (l:Int) (s:List Mt):s.map (miM l)=(s.map mir).map (sh (l - 480)):=by
 rw [qP];exact jq fun m _=>b6X l m
theorem a2m (l:Int) (s:List Mt):(s.map (miM l)).map (·.1)=s.map (·.1):=by rw [qP];rfl
theorem a4K (l:Int) (m:Mt):miM l (miM l m)=m:=by
 obtain ⟨a,b,e⟩:=m;unfold miM;dsimp only;rw [show l - (l - b)=b by omega,show l - (l - e)=e by omega]
theorem a7n (l:Int) (s:List Mt) (d:Int):aX (s.map (miM l)) (l - 1 - d)=aX s d:=by
 unfold aX iJ;rw [zp,qE,qE,qE];congr 2;refine km fun m _=>?_;show (decide (l - m.2.2≤l - 1 - d)&&decide (l - 1 - d<l - m.2.1))=(decide (m.2.1≤d)&&decide (d<m.2.2));rw [Bool.and_comm];congr 1<;>rw [decide_eq_decide]<;>omega
theorem a8W (l:Int) {s:List Mt} (hp:∀ m∈s,m.2.1<m.2.2) (nd:(s.map (·.1)).Nodup):(cE (dD (s.map (miM l)))).map gD=((cE (dD s)).map gD).reverse:=by
 rw [a3v,a2A,a6m hp nd]
theorem b3Q (l:Int) (s:List Mt):cD (s.map (miM l))=cD s:=by rw [a3v,b3P,b1g]
theorem b5t (l:Int) {s:List Mt} (hp:∀ m∈s,m.2.1<m.2.2):nu (s.map (miM l))=nu s:=by rw [a3v,b8S,b6L hp]
theorem b0j (l:Int) {s:List Mt} (hp:∀ m∈s,m.2.1<m.2.2):bU (s.map (miM l))=((bU s).map (miR l)).reverse:=by
 by_cases hs:s=[]
 ·subst hs
  have e:bU []=[]:=by decide +kernel
  show bU []=_;rw [e];rfl
 ·obtain ⟨lo,hi,r,E⟩:=a0k hs
  obtain ⟨⟨n1,k1,f1⟩,n2,k2,f2⟩:=uB hp E;refine b0k (lo:=l - hi) (hi:=l - lo) (fun m hm=>?_) ⟨miM l n2,qz k2,by show l - n2.2.2=_;omega⟩ ⟨miM l n1,qz k1,by show l - n1.2.1=_;omega⟩ (fun m hm=>?_) (b7y (fun x=>a7n l s x) E.steps) (a4e (a4f (g:=miR l) (fun _=>rfl) (oF _)))
  ·obtain ⟨n,hn,rfl⟩:=qH.mp hm
   have:=hp n hn;show l - n.2.2<l - n.2.1;omega
  ·obtain ⟨n,hn,rfl⟩:=qH.mp hm
   have:=E.lo_le n hn;have:=E.hi_ge n hn;show l - hi≤l - n.2.2∧l - n.2.1≤l - lo;omega
def dn (m:Mt):Nat:=((m.2.2 - 1) / 48+1 - m.2.1 / 48).toNat
variable {m:Mt}
theorem b8x {m:Mt} (h:jP m.1=true):qV (dM m)=true:=a4r (n:=1) (fun d hd=>by
 have:d=.str m.1∨d=.int m.2.1∨d=.int m.2.2:=by simpa using hd
 rcases this with rfl | rfl | rfl<;>simp [jv,h]) (fun d hd=>by
 have:d=.str m.1∨d=.int m.2.1∨d=.int m.2.2:=by simpa using hd
 rcases this with rfl | rfl | rfl<;>simp [jf]) (by decide)
theorem b5n {s:List Mt} (h:∀ m∈s,jP m.1=true):qV (dS s)=true:=a4r (n:=2) (fun d hd=>by
 obtain ⟨m,hm,rfl⟩:=qH.mp hd
 exact kY (b8x (h m hm))) (fun d hd=>by
 obtain ⟨m,hm,rfl⟩:=qH.mp hd;rw [jf];have:kq [vE m.1,.int m.2.1,.int m.2.2]≤1:=lY fun d hd=>by
  have:d=.str m.1∨d=.int m.2.1∨d=.int m.2.2:=by simpa using hd
  rcases this with rfl | rfl | rfl<;>simp [jf]
 omega) (by decide)
theorem a7g {a b:List Mt} (h1:∀ m∈a,jP m.1=true) (h2:∀ m∈b,jP m.1=true):neD (dS a) (dS b)=some (!decide (a=b)):=by
 rw [a8y (b5n h1) (b5n h2),a2C]
end L2.L3
namespace L2.L3
open PySem PySem.Spec PyProof.Rows PySem.W PySem.Builtin PySem.Builtin.ObjectAttr PySem.Builtin.Getset_descriptor
abbrev b7V:List Value:=[.type "ValueError", .type "Exception", .type "BaseException", .type "object"]
structure XCls (K:Frag) (C:Addr):Prop where
 ex:excIn K C b7V "ValueError.__new__" = true
 ga:findIn K (.ref C) "__getattribute__" = some (some (.builtin "BaseException.__getattribute__"))
 nga:findIn K (.ref C) "__getattr__" = some none
 cl:findIn K (.ref C) "__class__" = some (some (.builtin "object.__class__"))
 ob:mroIn K C (.type "object")=some true
theorem XCls.obj {K:Frag} {C:Addr} {h:Heap} (x:XCls K C) (X:K.In h):∃ bm N nm q bs hdct sn sub ab col dd k0 k1 k2 k3 k5 mN,h.get? C=some (excClassObj nm q C N bs bm hdct sn sub ab col dd k0 k1 k2 k3 k5 "ValueError.__new__")∧h.Ns N mN∧mN "__init__" = none∧OwnTail h b7V bm:=by
 have q:=x.ex;unfold excIn at q;split at q
 ·rename_i dd cd sl ho
  split at q
  ·rename_i C' bm k0 k1 k2 k3 n k5 hm hs
   simp only [qM,beq_iff_eq,kG] at q;obtain ⟨⟨⟨⟨⟨rfl,rfl⟩,hdel⟩,ht⟩,hok⟩,hni⟩:=q;obtain ⟨nm,bs,mro,ns,qn,hd,sn,sub,ab,col,del⟩:=cd;dsimp only at hm hdel hok hni;subst hm hdel;have hsl:sl=#[k0,k1,k2,k3,some (.builtin "ValueError.__new__"),k5]:=by
    obtain ⟨l⟩:=sl;simp only at hs;rw [hs]
   subst hsl;exact ⟨bm,ns,nm,qn,bs,hd,sn,sub,ab,col,dd,k0,k1,k2,k3,k5,_,X _ _ ho,.of_isNs (isNs_of_in X hok),nsMap_none_of_in X hok hni,tail_of_in X ht⟩
  ·cases q
 ·cases q
section
variable {prog:Program} {w:World} {A:Around} {E:T0a} {s:Shared} {K:Frag} {C D a:Addr} {ox:Obj}
theorem b5N {R:Result→Shared→Prop} {tp:Value} (x:XCls K C) (X:K.In s.heap) (I:ExO s.heap a C ox) (h:R (.ok (.ret (.ref C))) s) :
  wx (model prog w) A (.call (.builtin "getset_descriptor.__get__") ⟨[.builtin "object.__class__", .ref a,tp],[]⟩) R s:=by
 obtain ⟨hh,g,dr,t,os⟩:=s;have L0:=I.type (M:=model prog w);have L1:=looks_mroIn (M:=model prog w) X x.ob;refine uo KF.slot_gs.plain KF.entry_gs (KF.slot_gs.check _ _ _ _ _ _ _ _ KF.type_class (KF.args_gs _ _ _) ?_);unfold Builtin.«getset_descriptor.__get__» descrGet;rw [dga_obj];refine q8 (j3 ?_);unfold descrGetter descrCheckInstance descrNameAndClass isInstance;simp only [KF.owner_class]
 repeat lk
 refine ⟨Code.quiet_builtin _ (by decide +kernel),we KF.entry_class ?_⟩;unfold Builtin.«object.__class__» shownTypeOf
 repeat lk
 exact h
theorem a9G {tk:Tok} {Q:Fin→Shared→Prop} (x:XCls K C) (X:K.In s.heap) (I:ExO s.heap a C ox) (hq:Q (.done (.ret (.ref C))) s) :
  wpAny (model prog w) A (Builtin.«object.__getattribute__» ⟨[.ref a,.str "__class__" tk],[]⟩) Q E s:=by
 obtain ⟨hh,g,d,t,os⟩:=s;have L0:=I.type (M:=model prog w);have L3:=looks_findIn (M:=model prog w) X x.cl;have hT5:(⟨hh,g,d,t,os⟩:Shared).TypeIs (.builtin "object.__class__") "getset_descriptor" := PySem.F.typeOf_object_class;have f5:=PySem.F.typeOf_object_class;have f6:=PySem.F.slot_gs_get.lookup;have f7:=PySem.F.slot_gs_set.lookup
 repeat (any_goals (first | assumption | with_reducible refine L0.at ?_ | with_reducible refine L3.at ?_ | wp_step))
 refine b5N x X I ?_
 repeat (any_goals (first | assumption | wp_step))
theorem a9I {M:Model} {nameV:Value} {Q:Unit→Shared→Prop} (x:XCls K C) (X:K.In s.heap) (I:ExO s.heap a C ox) (hq:Q () s) :
  wpAny M A (u8 "BaseException.__getattribute__" ⟨[.ref a,nameV],[]⟩) Q E s:=by
 obtain ⟨bm,N,nm,q,bs,hdct,sn,sub,ab,col,dd,k0,k1,k2,k3,k5,mN,hC,hN,hni,T⟩:=x.obj X;obtain ⟨hh,g,d,t,os⟩:=s;have hk:builtinKind "BaseException.__getattribute__" = some .slot:=by decide +kernel
 have hsplit:splitId "BaseException.__getattribute__" = some ("BaseException", "__getattribute__"):=by decide +kernel
 have hcB:(jb C::bm).contains (.type "BaseException")=true:=by rw [List.contains_cons,T.hasType (X := "BaseException") (b:=true) rfl];rfl
 have ha:=PySem.F.args_bexc_ga (.ref a) nameV;simp only [u8,hk,hsplit];refine q8 ?_
 ·unfold isInstance
  repeat (first | (with_reducible refine u6 I.at_ ?_;rw [I.cls]) | (with_reducible refine wpAny_isSubtype_exc hC ?_;rw [hcB]) | wp_step)
  exact hq
theorem b2L {tk:Tok} {R:Result→Shared→Prop} (x:XCls K C) (X:K.In s.heap) (I:ExO s.heap a C ox) (hq:R (.ok (.ret (.ref C))) s) :
  wx (model prog w) A (.call (.builtin "BaseException.__getattribute__") ⟨[.ref a,.str "__class__" tk],[]⟩) R s:=
 uo PySem.F.attrBase_ValueError.ga.plain PySem.F.entry_bexc_ga (a9I x X I (a9G x X I hq))
theorem b8i {tk:Tok} {Q:T0a} (x:XCls K C) (X:K.In s.heap) (I:ExO s.heap a C ox) (hq:Q (.ref C) s) :
  wpAny (model prog w) A (getAttrBy (.ref a) (.str "__class__" tk) false) Q E s:=by
 obtain ⟨hh,g,d,t,os⟩:=s;have L0:=I.type (M:=model prog w);have L1:=looks_findIn (M:=model prog w) X x.ga;have L2:=looks_findIn (M:=model prog w) X x.nga;have f3:=PySem.F.attrBase_ValueError.ga.bind (.ref a);have hx2:(vd "BaseException.__getattribute__" == vd "object.__getattribute__")=false:=by decide +kernel
 have hx1:(onTheHeap (jb C)&&vd "BaseException.__getattribute__" == vd "object.__getattribute__")=false:=by rw [hx2];rfl
 repeat (any_goals (first | assumption | with_reducible refine L0.at ?_ | with_reducible refine L1.at ?_ | with_reducible refine L2.at ?_ | wp_step))
 refine b2L x X I ?_
 repeat (any_goals (first | assumption | wp_step))
theorem a9H {Q:Option Value→Shared→Prop} (x:XCls K C) (X:K.In s.heap) (I:ExO s.heap a C ox) (hq:Q (some (.ref C)) { s with toks:=s.toks+1 }) :
  wpAny (model prog w) A (getAttr? (.ref a) "__class__") Q E s:=by
 obtain ⟨hh,g,d,t,os⟩:=s;unfold getAttr? getAttrBy?;exact q8 (wpAny_mkText (q8 (w9 (b8i (s:=⟨hh,g,d,t+1,os⟩) x X I (j3 hq)))))
theorem a2V {c:Value} {dep:Int} {tk:Tok} {Q:Fin→Shared→Prop} (x:XCls K C) (X:K.In s.heap) (I:ExO s.heap a C ox) (hty:Looks (model prog w) s.heap (typeOf c) (.type "type")) (his:Looks (model prog w) s.heap (isType c) true)
  (hne:(jb C==c)=false) (hsub:Looks (model prog w) s.heap (isSubtype (.ref C) c) false) (h:Q (.done (.ret (.bool false))) { s with toks:=s.toks+1 }) :
  wpAny (model prog w) A (Builtin.«isinstance.nested» ⟨[.ref a,c,.int dep tk],[]⟩) Q E s:=by
 obtain ⟨bm,N,nm,q,bs,hdct,sn,sub,ab,col,dd,k0,k1,k2,k3,k5,mN,hC,hN,hni,T⟩:=x.obj X;have hisD:Looks (model prog w) s.heap (isType (.ref C)) true:=by
  intro A' Q' E' s' k q;unfold isType loadHead;exact q8 (wpAny_loadPart (k _ _ hC) (j3 q))
 obtain ⟨h0,g,d,tt,os⟩:=s;have L0:=I.type (M:=model prog w);have LI:Looks (model prog w) h0 (isInstance (.ref a) c) false:=L0.andThen hsub;unfold Builtin.«isinstance.nested»;refine q8 (L0.at ?_);rw [if_neg (fun q=>by rw [hne] at q;exact zW q)];refine q8 (hty.at ?_);rw [if_pos (by decide)]
 k_delta "plainIsInstance"
 refine q8 (q8 (his.at ?_));simp only [Bool.not_true,jX,if_false];refine q8 (LI.at ?_);simp only [jX,if_false];refine q8 (a9H x X I ?_);refine q8 (hisD.at ?_);simp only [Bool.not_true,jX,if_false];refine q8 (ww ?_);refine hsub.at ?_
 first
  | exact j3 h
  | exact j3 (j3 h)
  | exact q8 (j3 (j3 h))
theorem a9F {Q:T0a} (x:XCls K C) (y:XCls K D) (X:K.In s.heap) (I:ExO s.heap a C ox) (hne:C≠D) (hty:typeIn K (.ref D)=some (.type "type")) (hs:subIn K (.ref C) (.ref D)=some false) (h:Q (.bool false) { s with toks:=s.toks+1 }) :
  wpAny (model prog w) A (call (.builtin "isinstance") [.ref a,.ref D]) Q E s:=
 call_isinstance (S:=fun _ R s=>(K.In s.heap∧ExO s.heap a C ox)∧R (.ok (.ret (.bool false))) { s with toks:=s.toks+1 })
  (fun _ _ _ _ _ hs'=>isinstance_outer (a2V x hs'.1.1 hs'.1.2 (looks_typeIn hs'.1.1 hty) (by
   obtain ⟨bm,N,nm,q,bs,hdct,sn,sub,ab,col,dd,k0,k1,k2,k3,k5,mN,hC,_⟩:=y.obj hs'.1.1;intro A' Q' E' s' k q;unfold isType loadHead
   exact q8 (wpAny_loadPart (k _ _ hC) (j3 q))) (Bool.eq_false_iff.mpr fun q=>hne (Value.ref.inj (beq_iff_eq.mp q))) (looks_subIn hs'.1.1 hs) hs'.2) (by intro q;cases q)) ⟨⟨X,I⟩,h⟩
theorem b8h {Q:T0a} (X:K.In s.heap) (I:ExO s.heap a C ox) (e:isIn K (.ref C) D=true) (h:Q (.bool true) s) :
  wpAny (model prog w) A (call (.builtin "isinstance") [.ref a,.ref D]) Q E s:=isi_call X (fun _=>I.type) e (by intro q;cases q) h
theorem b5M {T:String} {Q:T0a} (X:K.In s.heap) (I:ExO s.heap a C ox) (hty:typeOf (.type T)=pure (.type "type")) (e:subIn K (.ref C) (.type T)=some true) (h:Q (.bool true) s) :
  wpAny (model prog w) A (call (.builtin "isinstance") [.ref a,.type T]) Q E s:=by
 refine PyProof.Rows.call_isinstance_of ?_ (by intro q;cases q);obtain ⟨hh,g,d,t,os⟩:=s;have L0:=I.type (M:=model prog w);have L1:=looks_subIn (M:=model prog w) X e;unfold Builtin.«isinstance.nested»;refine q8 (L0.at ?_);rw [if_neg (fun q=>by cases beq_iff_eq.mp q)];refine q8 (m:=typeOf (.type T)) (y7 hty ?_);rw [if_pos (by decide)];refine q8 (q8 (m:=isType (.type T)) (j3 (a:=true) ?_));refine q8 (m:=isInstance (.ref a) (.type T)) ((L0.andThen L1).at ?_);exact j3 (a:=true) (j3 h)
theorem a9E {M:Model} {Q:Bool→Shared→Prop} (x:XCls K C) (y:XCls K D) (X:K.In s.heap) (I:ExO s.heap a C ox) (hs:subIn K (.ref C) (.ref D)=some true) (hq:Q true s):wpAny M A (excMatches (.ref a) (.ref D)) Q E s:=by
 obtain ⟨bm,N,nm,q,bs,hdct,sn,sub,ab,col,dd,k0,k1,k2,k3,k5,mN,hC,hN,hni,T⟩:=y.obj X;obtain ⟨hh,g,d,t,os⟩:=s;have L1:=looks_subIn (M:=M) X hs;have hcB:(jb D::bm).contains (.type "BaseException")=true:=by rw [List.contains_cons,T.hasType (X := "BaseException") (b:=true) rfl];rfl
 have f:=tc_notTuple;unfold excMatches
 repeat (first | (with_reducible refine u6 I.at_ ?_;rw [I.cls]) | with_reducible refine u6 hC ?_ | with_reducible refine L1.at ?_ | (with_reducible refine wpAny_isSubtype_exc hC ?_;rw [hcB]) | wp_step)
 exact hq
end
end L2.L3
namespace L2.L3
open PySem PySem.Spec PyProof.Rows
section
variable {X:Cx} {pins:T0b} {σ:St} {H:Hp} {s:Shared}
theorem rF (I:Inv X pins σ H s) {b:Addr} (h:s.heap.get? b=none):uP X b:=by
 refine ⟨?_,fun p hp z=>?_⟩
 ·cases q:X.s₀.heap.get? b with
  | none=>exact .inr rfl
  | some o=>
   refine .inl (vC fun n=>?_);obtain ⟨o',e⟩:=I.base.there b o q n;rw [h] at e;cases e
 ·obtain ⟨e,_⟩:=I.pin p (jW _ hp)
  rw [z,h] at e;cases e
end
section
variable {X:Cx} {st:Stmt} {f:SF}
def a3h (c:Str):SF:=fun ρ=>some (.xc c ρ)
theorem b2a {x m:Str} {C:Addr} {np sp cpos pos:Pos} {j} (hc:X.calm=true) (hE:gJ X.K x=some C) (hX:XCls X.K C) (hg:Gl X x:=by rfl) (hdb:(x==("__debug__" : Str))=false:=by decide)
  (he:j4 [.Constant (.str m) j sp] X.env=(false,eval (.Constant (.str m) j sp) X.env)::j4 [] X.env:=by rfl) (hpl:(k9 cpos (j4 [] X.env)).any (·.1)=false:=by rfl) :
  DS X (.Raise (some (.Call (.Name x np) [.Constant (.str m) j sp] [] cpos)) none pos) (a3h x):=⟨fun pins s σ H D I ⟨ρ,o,H0,G₀,G,e,R,q⟩=>by
 cases (qA e);obtain ⟨bm,N,nm,qn,bs,hdct,sn,sub,ab,col,dd,k0,k1,k2,k3,k5,mN,hC,hN,hni,T⟩:=hX.obj I.mod.kin;have hm:X.mg x=some (.ref C):=zi I.mod.kin I.mod.glob (a3J hE);refine wpAny_Raise_call_subT (C:=C) (nm:=nm) (q:=qn) (N:=N) (bs:=bs) (bm:=bm) (hdct:=hdct) (sn:=sn) (sub:=sub) (ab:=ab) (col:=col) (dd:=dd) (k0:=k0) (k1:=k1) (k2:=k2) (k3:=k3) (k5:=k5)
  PySem.F.excBase_ValueError (mN:=mN) (T.hasType PySem.F.excBase_ValueError.hasBase) (I.ok.hd hc) (by rw [he];show (false || (k9 cpos (j4 [] X.env)).any (·.1))=false;rw [hpl];rfl) hni (oE I hg hm ⟨rfl,?_⟩ hdb)
 have h:=dC (X:=X) (b0L:PE X (.Constant (.str m) j sp) (tC (.str m))) gG he cpos pins s σ H (fun vs H'=>vs=[.str m]∧H'=H) I ⟨rfl,rfl⟩;rw [he] at h ⊢;refine Calls.evalArgs_plain (thn h fun us s2 ⟨vs,H',I2,rv,e1,e2⟩=>?_);subst e1 e2;refine ⟨rfl,by rw [←rv.length];show 1≤j5;decide,I2.bk _ _ hC,hN.keeps I2.bk,T.keeps I2.bk,fun h' a hm'=>?_⟩;obtain ⟨t,ht,_,_⟩:=hm'.there
 exact q pins { s2 with heap:=h' } σ H' G _ (I2.kept (t':=s2.toks) hm'.keeps) R (.refl _) ⟨a,C,rfl,hE,.inl (.inl ⟨rF I2 hm'.new,b1z I2.hok hm'.new,_,_,.ref t,ht,rfl,rfl,rfl,rfl⟩)⟩⟩
end
def pB (m n:Nat) (f:SF) (ds:T0j):Mm j0:=if ds.length=n then (match f (oW m ds) with
 | some (.rt d)=>some (.ok d)
 | some (.nx _)=>some (.ok .none)
 | some (.xc c _)=>some (.ex c)
 | _=>none) else none
def CX1 (P:Program) (w:World):CXT:=fun outer H s E e s'=>∃ a C H',e=.ref a∧E (.ref C) none H'∧s'.os=s.os∧ut s'.gens∧Un (frs outer) [] H H' s.heap s'.heap∧HOk P w H' s'.heap∧ExcAt (fun b=>s.heap.get? b=none) H' a C s'.heap
def c0z (K:qC) (G H:Hp) (Q:VK) (E:XK):Re j0→Prop
 | .ok d=>∀ v G' H',Grow G H G' H'→Rep K G' v d→Q v H'
 | .ex c=>∀ C G' H',gJ K c=some C→Grow G H G' H'→E (.ref C) none H'
def spX (K:qC) (F:List j0→Mm j0):Sp:=fun vs H Q E=>∃ G ds r,(bB G H∧nB K G H)∧RepAll K G vs ds∧F ds=some r∧c0z K G H Q E r
structure CalleeX (P:Program) (w:World) (K:qC) (mg:T0d) (base:Heap) (x:Str) (k:Nat) (ps:T0o) (F:List j0→Mm j0):Prop where
 ex:∃ f fd,mg x=some (.ref f)∧kB K (.ref f)=true∧Binds K fd ps []∧FnOk P w K mg base (CX1 P w) k f fd ps (spX K F)
section
variable {X:Cx} {pins:T0b} {σ:St} {H:Hp} {s:Shared}
theorem a4k {ch:T0m} {h':Heap} (I:Inv X pins σ H s) (hex:X.ex=[]) (un:Un (frs X.stack) ch H H s.heap h') (hch:∀ b∈ch,X.s₀.heap.get? b=none):Un X.fs [] X.H₀ H X.s₀.heap h':=by
 have nx:∀ b:Addr,b∉X.ex:=fun b z=>by rw [hex] at z;cases z
 have neL:∀ b o,X.s₀.heap.get? b=some o→b≠X.env.locals:=fun b o e=>qa (qT (qG e) I.ok.above);have nc:∀ b o,X.s₀.heap.get? b=some o→b∉ch:=fun b o e z=>by rw [hch b z] at e;cases e
 refine ⟨fun b o e n hb _=>?_,fun b o e n hb _=>?_,fun b o e n _=>I.base.free b o e n (nx b),fun b o e _=>?_,I.base.tups,I.base.frzs,I.base.tbls⟩
 ·exact un.keep b o (I.base.keep b o e n hb (nx b)) (I.base.free b o e n (nx b)) (fun z=>(qF.mp (I.stkSub b z)).elim (neL b o e) hb) (nc b o e)
 ·obtain ⟨sl,e1⟩:=I.base.slot b o e n hb (nx b)
  obtain ⟨sl',e2⟩:=un.any e1 (I.base.free b o e n (nx b)) (nc b o e);exact ⟨sl',e2⟩
 ·obtain ⟨o',e1⟩:=I.base.there b o e (nx b)
  exact un.there b o' e1 (nc b o e)
end
section
variable {P:Program} {w:World} {K:qC} {mg:T0d} {base:Heap} {X:Cx} {e:Expr} {es:T0l} {pos p:Pos} {x:Str} {k:Nat} {ps N:T0o} {F:List j0→Mm j0}
abbrev fcX (P:Program) (w:World) (K:qC) (mg:T0d) (base:Heap) (N:T0o) (qual:Str) (scope:Scope) (f:Addr) (cd:Value) (A:Around) (outer:List Env) (s:Shared) (H:Hp) (E:XK):Cx:=a0a (CX1 P w) P w K mg base N qual scope f cd A outer s H E
theorem b4q {st:Stmt} {f:SF} {fa:Addr} {fd:w5} (m n:Nat) (Fu:Fun K x x st fa fd) (S:FnScope N ps (aD st)) (hm:N.length=m) (hn:ps.length=n)
  (body:∀ (cdv:Value) (A:Around) (outer:List Env) (s:Shared) (H:Hp) (E:XK),Room k (A.deeper (yn x (aD st) s.heap.objs.size fa cdv))→DB (fcX P w K mg base N x (aD st) fa cdv A outer s H E) (bL st) f) :
  FnOk P w K mg base (CX1 P w) (k+1) fa fd ps (spX K (pB m n f)):=by
 obtain ⟨oc,od,kV,doc,pm,an,cdv,ct,osl,rfl,lk,hcd⟩:=Fu.ex;refine b1M lk hcd S (fun vs H Q E ⟨G,ds,r,s,rv,hF,_⟩=>?_) fun A outer s H vs Q E hr ⟨G,ds,r,sm,rv,hF,q⟩=>?_
 ·unfold pB at hF
  split at hF
  ·rename_i hl;rw [rv.length,hl,hn]
  ·cases hF
 ·unfold pB at hF
  split at hF
  ·rw [←hm,←uU] at hF
   split at hF
   ·rename_i d e
    cases (qA hF);exact ⟨_,(body cdv A outer s H E hr).run,hV N ds,_,H,G,G,e,fD sm rv,fun v G' H' _ g rv=>q v G' H' g rv⟩
   ·rename_i ρ' e
    cases (qA hF);exact ⟨_,(body cdv A outer s H E hr).run,hV N ds,_,H,G,G,e,fD sm rv,fun G' H' σ' _ R'=>q .non G' H' R'.grow .none⟩
   ·rename_i c ρ' e
    cases (qA hF);refine ⟨_,(body cdv A outer s H E hr).run,hV N ds,_,H,G,G,e,fD sm rv,fun pins s' σ H' G' e' I R _ ⟨a,C,e1,hE,xa⟩=>?_⟩;subst e1;refine a4Q (X:=fcX P w K mg base N x (aD st) fa cdv A outer s H E) (fr:=fun b=>s.heap.get? b=none) I.ok.frames rfl rfl I (xa.mono fun b hb=>?_) (fun b hb=>?_) fun h' ch un hch hok x'=>?_
    ·rcases hb.1 with z | z
     ·cases z
     ·exact z
    ·cases z:s.heap.get? b with
     | none=>rfl
     | some o=>
      obtain ⟨o',z'⟩:=I.base.there b o z (by intro w;cases w);rw [hb] at z';cases z'
    ·exact ⟨a,C,H',rfl,q C G' H' hE R.grow,I.os,I.bare,a4k I rfl un hch,hok,x'⟩
   ·cases hF
  ·cases hF
theorem gY {st:Stmt} {f:SF} (m n:Nat) (D:Def K mg x st) (S:FnScope N ps (aD st)) (hm:N.length=m) (hn:ps.length=n)
  (hb:∀ (kV doc pm:Value) (an:T0i) (cdv ct:Value) (us:T0k),us.length=ps.length→yy (jk x x (eY st) (bL st) (aD st) .none kV doc pm an cdv ct) ⟨us,[]⟩=pure (ps.zip us))
  (body:∀ (fa:Addr) (cdv:Value) (A:Around) (outer:List Env) (s:Shared) (H:Hp) (E:XK),Room k (A.deeper (yn x (aD st) s.heap.objs.size fa cdv))→DB (fcX P w K mg base N x (aD st) fa cdv A outer s H E) (bL st) f) :
  CalleeX P w K mg base x (k+1) ps (pB m n f):=by
 obtain ⟨fa,fd,Fu,hmg⟩:=D.ex;exact ⟨fa,fd,hmg,Fu.kp,Fu.binds hb,b4q m n Fu S hm hn fun cdv A outer s H E hr=>body fa cdv A outer s H E hr⟩
def fV (F:List j0→Mm j0) (fa:AF):EF:=fun ρ=>bnd (fa ρ) F
theorem eA {fa:AF} (C:CalleeX X.prog X.w X.K X.mg X.base x k ps F) (hr:Room k X.A) (ha:DA X (e::es) fa) (hg:Gl X x:=by rfl) (hdb:(x==("__debug__" : Str))=false:=by decide)
  (he:j4 (e::es) X.env=(false,eval e X.env)::j4 es X.env:=by rfl) (hpl:(k9 pos (j4 es X.env)).any (·.1)=false:=by rfl):DE X (.Call (.Name x p) (e::es) [] pos) (fV F fa):=⟨fun pins s σ H Q I ⟨ρ,r,H0,G₀,G,e',R,q⟩=>by
 obtain ⟨f,fd,a,b,c,Fk⟩:=C.ex;refine v0 (oE I hg a ?_ hdb)
 refine zu (h₀:=X.base) I.ok.mod.kin b (thn (ha.run pos pins s σ H (fun vs H1=>∃ G1 ds,Grow G H G1 H1∧RepS X.K H0 G₀ G1 H1 σ ρ∧RepAll X.K G1 vs ds∧F ds=some r) I (bA R e' q.x fun ds vs G1 H1 g1 R1 rv e1=>⟨G1,ds,g1,R1,rv,e1⟩))
  fun us s1 ⟨vs,H1,I1,rv,G1,ds,g1,R1,rd,hF⟩=>⟨I1.kIn,?_⟩) he hpl
 have sp:spX X.K F vs H1 Q (fun cv _ H'=>∃ G' C c,cv=.ref C∧r=.ex c∧gJ X.K c=some C∧Grow G1 H1 G' H'):=by
  refine ⟨G1,ds,r,⟨g1.sub,R1.tab⟩,rd,hF,?_⟩;cases r with
  | ok d=>exact fun v G' H' g rv=>q v G' H' (g1.trans g) rv
  | ex c=>exact fun C G' H' hC g=>⟨G',C,c,rfl,rfl,hC,g⟩
 have hl:us.length=ps.length:=by rw [←rv.length];exact Fk.len _ _ _ _ sp
 refine uh (wy (Fk.run X.A X.stack s1 H1 ⟨us,[]⟩ us vs Q _ hr I1.env0 (by simpa using c s1 us I1.kIn (by simpa using hl)) rv sp) fun res s' hq=>?_);cases res with
 | error e2=>
  obtain ⟨a2,C2,H2,rfl,⟨G2,C3,c3,e3,rfl,hC,g2⟩,os,bare,un,hok,xa⟩:=hq;cases e3;exact q pins s' σ H2 G2 _ (I1.call' (ch:=[]) os un hok bare (fun b z=>nomatch z)) (R1.more g2) (g1.gg.trans g2.gg) ⟨a2,C2,rfl,hC,.inl (xa.mono fun b hb=>rF I1 hb)⟩
 | ok fl=>
  cases fl with
  | ret u=>exact I1.after hq
  | next=>exact qw hq
  | brk=>exact qw hq
  | cont=>exact qw hq⟩
end
section
variable {K:qC} {H0 G₀ G H:Hp} {σ:St} {ρ:List Ent}
end
section
variable {X:Cx} {pins:T0b} {σ:St} {H:Hp} {s:Shared}
theorem name_goes {M:Model} {A:Around} {E:T0a} {Q:Unit→Shared→Prop} {j:Nat} {n:Str} {pos:Pos} (I:Inv X pins σ H s) (hN:X.N.Nodup) (hj:X.N[j]?=some n) (hk:X.env.scope.names.lookup n=some .local)
  (h:∀ s',Inv X pins (σ.set j none) H s'→Q () s'):wpAny M A (do bindName X.env n .none;unbindBehindTheSuite X.env n pos) Q E s:=by
 obtain ⟨m,hn,hl⟩:=id I.loc;obtain ⟨oL,_,_,hoL,_⟩:=id hn;have hcls:(X.env.scope.kind==.class || (X.env.scope.kind==.module&&X.env.locals != X.env.globals))=false:=by rw [I.ok.kind];rfl
 have hjσ:j<σ.length:=by rw [I.len];exact (qY.mp hj).1
 refine wpAny_nameGoes_keeps hk hn hcls fun h' v hn' hs=>?_;have ne0:∀ b o,X.s₀.heap.get? b=some o→b≠X.env.locals:=fun b o e=>qa (qT (qG e) I.ok.above);refine h _ ⟨I.ok,I.os,I.bare,⟨fun b o e n hb hx=>?_,fun b o e n hb hx=>?_,I.base.free,fun b o e hx=>?_,I.base.tups,I.base.frzs,I.base.tbls⟩,⟨_,hn',fun i y v' e1 e2 e3=>?_⟩,fun y c e=>?_,I.free,I.freeC,fun p hp=>?_,fun b ob e=>?_,by simpa using I.len⟩
 ·exact (hs.2 b (ne0 b o e)).trans (I.base.keep b o e n hb hx)
 ·obtain ⟨sl,e1⟩:=I.base.slot b o e n hb hx
  exact ⟨sl,(hs.2 b (ne0 b o e)).trans e1⟩
 ·obtain ⟨o',e1⟩:=I.base.there b o e hx
  exact ⟨o',(hs.2 b (ne0 b o e)).trans e1⟩
 ·by_cases hi:i=j
  ·subst hi
   rw [kN hjσ] at e2;cases e2
  ·rw [qo (jm hi)] at e2
   obtain ⟨u',r',q⟩:=hl i y v' e1 e2 e3;refine ⟨u',r',?_⟩;rcases q with ⟨k,e⟩ | ⟨k,c,e,z⟩
   ·refine .inl ⟨k,?_⟩
    have:y≠n:=fun e=>hi (a0Q hN e1 (e▸hj));simp [this,e]
   ·exact .inr ⟨k,c,e,z.sameBut hs (I.cne y c e)⟩
 ·obtain ⟨w',z⟩:=I.cell y c e
  exact ⟨w',z.sameBut hs (I.cne y c e)⟩
 ·obtain ⟨e,n,ne,nf,d⟩:=I.pin p hp
  exact ⟨(hs.2 p.1 ne).trans e,n,ne,nf,d⟩
 ·refine (I.hok b ob e).stay (fun c w' hc q=>(hs.2 c ?_).trans q) (fun _ q=>q) fun _ _ q=>q
  rintro rfl;rcases hc with rfl | hc
  ·rw [I.free] at e;cases e
  ·rw [I.free] at hc;cases hc
abbrev Cx.suite (X:Cx) (a:Addr):Cx:={ X with A:=X.A.mark (some (.ref a)),calm:=false,xe:=fun _ _=>False }
theorem a2u (I:Inv X pins σ H s) (a:Addr):Inv (Cx.suite X a) pins σ H s:=
 ⟨⟨I.ok.mod,I.ok.kind,I.ok.glob,I.ok.blt,I.ok.above,I.ok.inj,I.ok.has,I.ok.cab,(fun z=>nomatch z),I.ok.frames,I.ok.stk,I.ok.exf,I.ok.bs,I.ok.bsz,I.ok.noex,I.ok.exfs,I.ok.funs,I.ok.frf⟩,I.os,I.bare,I.base,I.loc,I.cell,I.free,I.freeC,I.pin,I.hok,I.len⟩
theorem a4Z {a:Addr} (I:Inv (Cx.suite X a) pins σ H s) (ok:X.Ok):Inv X pins σ H s:=⟨ok,I.os,I.bare,I.base,I.loc,I.cell,I.free,I.freeC,I.pin,I.hok,I.len⟩
end
section
variable {X:Cx} {body:List Stmt} {f:SF}
end
def a4i (K:qC) (C:Addr):Bool:=PySem.W.excIn K C b7V "ValueError.__new__" && (zz K (.ref C) "__getattribute__" == some (some (.builtin "BaseException.__getattribute__")))&&(zz K (.ref C) "__getattr__" == some none)
 && (zz K (.ref C) "__class__" == some (some (.builtin "object.__class__")))&&(PySem.W.mroIn K C (.type "object")==some true)
def a7E (K:qC) (S:Addr) (c:Str):Bool:=match gJ K c with
 | some C=>a4i K C&&(PySem.W.typeIn K (.ref C)==some (.type "type"))&&(kZ K (.ref C) (.type "ValueError")==some true)&&(kZ K (.ref C) (.ref S)==some true)
 | none=>false
def b5C (K:qC) (c d:Str):Bool:=c==d || match gJ K c,gJ K d with
 | some C,some D=>(C != D)&&(kZ K (.ref C) (.ref D)==some false)
 | _,_=>false
theorem a2U {K:qC} {C:Addr} (h:a4i K C=true):XCls K C:=by
 simp only [a4i,qM,beq_iff_eq] at h;exact ⟨h.1.1.1.1,h.1.1.1.2,h.1.1.2,h.1.2,h.2⟩
section
variable {X:Cx} {pos p p2:Pos} {x:Str}
theorem b8k:typeOf (.type "ValueError")=pure (.type "type"):=by kernel_rfl
end
def b6j (m:Nat) (f:SF) (c:Str):Mm j0:=match f (.exc c::zT (m - 1) .no) with
 | some (.rt d)=>some (.ok d)
 | some (.nx _)=>some (.ok .none)
 | _=>none
theorem a8e {K:qC} {G H:Hp} {N:T0o} {a C:Addr} {c:Str} (s:bB G H∧nB K G H) (hC:gJ K c=some C) (hH:H a=some (xcO a C)):RepS K H G G H (start N [.ref a]) (.exc c::zT (N.length - 1) .no):=by
 refine ⟨.refl s.1,by simp [start,Nat.add_comm],fun i o e h1 h2=>?_,Inj.free (fun i e h2=>?_),s.2⟩
 ·cases i with
  | zero=>
   have h1:some (some (V.ref a))=some o:=by simpa [start] using h1
   cases h1;cases (qA h2);exact ⟨a,C,rfl,hC,hH⟩
  | succ i=>
   rw [zK,kH] at h2;split at h2
   ·cases h2;trivial
   ·cases h2
 ·cases i with
  | zero=>cases (qA h2);rfl
  | succ i=>
   rw [zK,kH] at h2;split at h2
   ·cases h2;rfl
   ·cases h2
section
variable {P:Program} {w:World} {K:qC} {mg:T0d} {base:Heap} {X:Cx} {pos p p2:Pos} {x y:Str} {k:Nat} {ps N:T0o} {F:Str→Mm j0}
end
section
variable {X:Cx} {body:List Stmt} {f:SF}
end
section
variable {X:Cx} {body:List Stmt} {f:SF}
def b1P (L:T0o) (K:qC):Bool:=match gJ K "SheetError" with
 | some S=>a4i K S&&L.all (a7E K S)
 | none=>false
structure ExL (L:T0o) (K:qC):Prop where
 ok:b1P L K=true
theorem ExL.she {L:T0o} {K:qC} (F:ExL L K):∃ S,gJ K "SheetError" = some S∧XCls K S∧∀ c∈L,∃ C,gJ K c=some C∧XCls K C∧kZ K (.ref C) (.ref S)=some true:=by
 have h:=F.ok;unfold b1P at h;split at h
 ·rename_i S hS
  rw [qM] at h;refine ⟨S,hS,a2U h.1,fun c hc=>?_⟩;have h2:=qk.mp h.2 c hc;unfold a7E at h2;split at h2
  ·rename_i C hC
   simp only [qM,beq_iff_eq] at h2;exact ⟨C,hC,a2U h2.1.1.1,h2.2⟩
  ·cases h2
 ·cases h
theorem a2I {L:T0o} {x m:Str} {np sp cpos pos:Pos} {j} (F:ExL L X.K) (hc:X.calm=true) (hx:x∈L:=by decide) (hg:Gl X x:=by rfl) (hdb:(x==("__debug__" : Str))=false:=by decide)
  (he:j4 [.Constant (.str m) j sp] X.env=(false,eval (.Constant (.str m) j sp) X.env)::j4 [] X.env:=by rfl) (hpl:(k9 cpos (j4 [] X.env)).any (·.1)=false:=by rfl) :
  DS X (.Raise (some (.Call (.Name x np) [.Constant (.str m) j sp] [] cpos)) none pos) (a3h x):=by
 obtain ⟨S,_,_,h3⟩:=F.she;obtain ⟨C,h1,h2,_⟩:=h3 x hx;exact b2a hc h1 h2 hg hdb he hpl
end
abbrev bJ:TF:=a4C (uS (aP fH (aC (var 0) (aC (var 1) aH))))
def oS:SF:=(ifS bJ (a3h "NoTime") mL)
def aR:List j0→Mm j0:=pB 2 2 oS
abbrev a1Q:TF:=a4C (uS (aP cG (aC (var 1) aH)))
def a1i:SF:=(bC (ifS a1Q (a3h "NoTime") mL) (retS (op2 cY (var 0) (var 1))))
def gZ:List j0→Mm j0:=pB 2 2 a1i
theorem a6Y {m n:Nat} {f:SF} {ds:T0j} {d:j0} (hl:ds.length=n) (h:f (oW m ds)=some (.rt d)):pB m n f ds=some (.ok d):=by
 unfold pB;rw [if_pos hl,h]
theorem b3c {m n:Nat} {f:SF} {ds:T0j} {ρ:List Ent} (hl:ds.length=n) (h:f (oW m ds)=some (.nx ρ)):pB m n f ds=some (.ok .none):=by
 unfold pB;rw [if_pos hl,h]
theorem a6Z {m n:Nat} {f:SF} {ds:T0j} {c:Str} {ρ:List Ent} (hl:ds.length=n) (h:f (oW m ds)=some (.xc c ρ)):pB m n f ds=some (.ex c):=by
 unfold pB;rw [if_pos hl,h]
theorem b4X (F:List j0→Mm j0) (fa:AF) (ρ:List Ent):fV F fa ρ=bnd (fa ρ) F:=rfl
theorem dE {F:List j0→Mm j0} {fa:AF} {ρ:List Ent} {ds:T0j} {r:Re j0} (ha:fa ρ=some (.ok ds)) (h:F ds=some r):fV F fa ρ=some r:=by rw [b4X,ha,cF,h]
def tmB (b e:Int):Bool:=decide (0≤b)&&(decide (b<e)&&decide (e≤480))
theorem b2P {b e:Int}:tmB b e=true↔0≤b∧b<e∧e≤480:=by unfold tmB;simp
theorem a5k (b e:Int):fH [.int b,.int e]=some (.ok (.bool (tmB b e))):=by
 have w:∀ i:Int,cG [.int i]=some (.ok (.bool true)):=fun i=>by kernel_rfl
 refine bF rfl ?_;show pK [.val (.int b),.val (.int e)]=_;unfold tmB;by_cases h1:0≤b<;>by_cases h2:b<e<;>by_cases h3:e≤480<;>simp [pK,w,h1,h2,h3]
theorem b7D {b e:Int} (h:tmB b e=true):aR [.int b,.int e]=some (.ok .none):=by
 refine b3c (ρ:=[.val (.int b),.val (.int e)]) rfl ?_;show ifS bJ _ _ [.val (.int b),.val (.int e)]=_;have t:bJ [.val (.int b),.val (.int e)]=some (.ok false):=by
  show bnd (bnd (aP fH (aC (var 0) (aC (var 1) aH)) [.val (.int b),.val (.int e)]) _) _=_;rw [aQ (ds:=[.int b,.int e]) rfl (a5k b e),h];rfl
 rw [lV,t];rfl
theorem b3K {b e:Int} (h:tmB b e=false):aR [.int b,.int e]=some (.ex "NoTime"):=by
 refine a6Z (ρ:=[.val (.int b),.val (.int e)]) rfl ?_;show ifS bJ _ _ [.val (.int b),.val (.int e)]=_;have t:bJ [.val (.int b),.val (.int e)]=some (.ok true):=by
  show bnd (bnd (aP fH (aC (var 0) (aC (var 1) aH)) [.val (.int b),.val (.int e)]) _) _=_;rw [aQ (ds:=[.int b,.int e]) rfl (a5k b e),h];rfl
 rw [lV,t];rfl
theorem uC (a b:Int):gZ [.int a,.int b]=some (.ok (.int (a+b))):=by
 refine a6Y rfl ?_;show a1i [.val (.int a),.val (.int b)]=_;unfold a1i;have t:a1Q [.val (.int a),.val (.int b)]=some (.ok false):=by
  show bnd (bnd (aP cG (aC (var 1) aH) [.val (.int a),.val (.int b)]) _) _=_;rw [aQ (ds:=[.int b]) rfl (a7H b)];rfl
 rw [aT (ρ':=[.val (.int a),.val (.int b)]) (by rw [lV,t];rfl)];rfl
theorem a6X {m n:Nat} {f:SF} {ds:T0j} {fa:EF} {ρ:List Ent} {r:Re j0} (hl:ds.length=n) (h:f (oW m ds)=retS fa ρ) (hr:fa ρ=some r):pB m n f ds=some r:=by
 unfold pB;rw [if_pos hl,h,dW,hr];cases r<;>rfl
section
variable {M:Model} {A:Around} {E:T0a} {s:Shared} {env:Env}
def cpX (M:Model) (A:Around) (E:T0a) (env:Env) (Q:T0a) (acc:Value) (C:Addr) (r:Result) (s':Shared):Prop:=
 match r with
 | .ok _=>∃ m,s'.heap.Ns C m∧∀ h',kP C s'.heap h'→Q acc { s' with heap:=h' }
 | .error x=>∃ m,s'.heap.Ns C m∧∀ h',kP C s'.heap h'→∀ ce:Env,ce.frame=env.frame→wpAny M A (PySem.passOn "comprehension.variables-let-go" x ce:Sem Value) (fun _ _=>False) E { s' with heap:=h' }
theorem a6x {e:Expr} {scope:Scope} {pos:Pos} {newAcc first:Sem Value} {g:Comprehension} {gs:List Comprehension} {cl:T0f} {Q:T0a}
  (hcl:clausesOf e=g::gs) (hs:∀ x,wj g.iter env x=pure x) (hclos:QE scope env=pure cl)
  (hkind:scope.kind=.function) (hnames:∀ x∈scope.names,x.2=.local→scope.names.lookup x.1=some .local)
  (h:wpAny M A first (fun x s₁=>wpAny M A (pyIter x) (fun it s₂=>wpAny M A newAcc (fun acc s₃=>
   wpAny M A (y9 scope env.globals cl [] env.qual none .none (some env)) (fun cenv s₄=>cenv.frame=env.frame ∧
    wx M A (.compStart e 0 it acc { cenv with scope:=relabel scope env }) (cpX M A E env Q acc cenv.locals) s₄) E s₃) E s₂) E s₁) E s) :
  wpAny M A (comprehension e scope env pos newAcc false first none) Q E s:=by
 unfold comprehension;rw [hclos,hcl]
 refine q8 (v6 h (fun x s₁ h₁=>q8 (yf (q8 (y7 (hs x) (q8 (j9 (v6 h₁ (fun it s₂ h₂=>
  wpAny_standIf (q8 (v6 h₂ (fun acc s₃ h₃=>q8 (j3 (q8 (v6 h₃ (fun cenv s₄ h₄=>?_) fun _ _ h'=>h')))) fun _ _ h'=>h')))
   fun _ _ h'=>h'))))))) fun _ _ h'=>h')
 dsimp only;obtain ⟨hfr,h₄⟩:=h₄;have hv:∀ x∈(scope.names.filter fun x=>(x.2==.local || x.2==.cell)&&x.1 != (".0" : Str)).reverse,x.2=.local →
   Env.kindOf { cenv with scope:=relabel scope env } x.1=some .local:=fun x hx hl=>lookup_relabel_local (hnames x (kU.mp (wR.mp hx)).1 hl)
 refine j9 (q8 (w9 (j9 (wpAny_run (wy h₄ fun r s' hr=>?_)))));cases r with
 | ok f=>
  obtain ⟨m,hn,hr⟩:=hr;exact q8 (j9 (wpAny_comp_letGo (cenv:={ cenv with scope:=relabel scope env }) hkind _ s' m hv hn fun h' m' _ hs'=>j3 (hr h' hs')))
 | error x=>
  obtain ⟨m,hn,hr⟩:=hr;exact q8 (j9 (wpAny_comp_letGo (cenv:={ cenv with scope:=relabel scope env }) hkind _ s' m hv hn fun h' m' _ hs'=>v6 (hr h' hs' _ hfr) (fun _ _ f=>f.elim) fun _ _ y=>y))
end
section
variable {X:Cx} {pins:T0b} {σ:List (Option V)} {H H':Hp} {s:Shared} {h':Heap} {a C:Addr} {fr:Addr→Prop}
theorem b7w {M:Model} {A:Around} {E:T0a} {Q:Unit→Shared→Prop} {fl:Value} (o:T0i) (hok:HOk X.prog X.w H s.heap) (x:tF fr fl H a C s.heap)
  (h:∀ h' ch,Chg X fr ch H s.heap h'→tF fr (o.elim .none fun f=>v7 f) H a C h'→Q () { s with heap:=h' }):wpAny M A (setFlight (.ref a) o) Q E s:=by
 obtain ⟨h1,h2,oe,vs,a0,T,oT,ts,e1,e2,e3,e4,e5,e6,e7,e8,e9,e10,e11⟩:=x;have sz:3<ts.size:=(zt.mp e11).1;unfold setFlight;refine q8 (wf e1 e3 e5 ?_);rw [if_pos (show (jb T != jH)=true from by simp)];refine wpAny_setField e9 e10 sz (h _ [T] ⟨fun b z=>?_,⟨fun b o e n _ n2=>?_,fun b o e n _ n2=>?_,fun b o e n _=>n,fun b o e n2=>?_,fun _ _ q=>q,fun _ _ _ q=>q,fun _ ps q=>⟨#[],by rw [q];simp⟩⟩,fun b u q=>?_⟩ ?_)
 ·cases qQ.mp z;exact ⟨e6,e7,oT,ts,e9,e10⟩
 ·rw [qX _ _ (fun z=>n2 (by simp [z]))];exact e
 ·exact ⟨o.slots,by rw [qX _ _ (fun z=>n2 (by simp [z]))];exact e⟩
 ·exact ⟨o,by rw [qX _ _ (fun z=>n2 (by simp [z]))];exact e⟩
 ·have tr:∀ c u,H c=some u→T≠c:=fun c u q z=>by rw [←z,e7] at q;cases q
  refine (hok b u q).stay (fun c v hc z=>?_) (fun _ z=>z) fun _ _ z=>z;rcases hc with rfl | hc
  ·rw [qX _ _ (tr c u q)];exact z
  ·rw [qX _ _ (tr c _ hc)];exact z
 ·refine ⟨h1,h2,oe,vs,a0,T,_,_,?_,e2,e3,e4,e5,e6,e7,e8,jG _ e9 (vq (kn e10 _)),kn e10 _,by simp [sz]⟩
  rw [qX _ _ e8];exact e1
theorem b3z {α:Type} {M:Model} {A:Around} {E:T0a} {Q:α→Shared→Prop} {fl:Value} {ce:Env} {wh:String} (hok:HOk X.prog X.w H s.heap) (x:tF fr fl H a C s.heap)
  (h:∀ h' ch,Chg X fr ch H s.heap h'→tF fr (ce.frame.elim .none fun f=>v7 f) H a C h'→E (.ref a) { s with heap:=h' }):wpAny M A (PySem.passOn wh (.ref a) ce:Sem α) Q E s:=by
 have x':=x;obtain ⟨h1,h2,oe,vs,a0,T,oT,ts,e1,e2,e3,e4,e5,e6⟩:=x;unfold PySem.passOn;refine q8 (wf e1 e3 e5 ?_);rw [if_neg (by simp)];exact q8 (b7w ce.frame hok x' fun h' ch c x2=>wpAny_throw (h h' ch c x2))
end
def rQ (t:Tg) (ρb:List Ent) (ft:TF) (fe:EF):List j0→Mm (List j0)
 | []=>some (.ok [])
 | d::ds=>match tgD t ρb d with
  | none=>none
  | some ρx=>(match ft ρx with
   | some (.ok true)=>bnd (fe ρx) fun v=>bnd (rQ t ρb ft fe ds) fun vs=>some (.ok (v::vs))
   | some (.ok false)=>rQ t ρb ft fe ds
   | _=>none)
def a6y (t:Tg) (cap:T0e) (fi:AF) (ft:TF) (fe:EF):EF:=fun ρ=>bnd (fi ρ) fun ds=>if dO ds.length then bnd (rQ t (bS cap ρ) ft fe ds) fun es=>some (.ok (.list es)) else none
theorem a0V {t:Tg} {ρb:List Ent} {ft:TF} {fe:EF}:∀ {ds es:T0j},rQ t ρb ft fe ds=some (.ok es)→tV t ρb ft fe ds=some es
 | [],es,h=>by cases h;rfl
 | d::ds,es,h=>by
  unfold rQ at h;unfold tV;split at h
  ·cases h
  ·rename_i ρx et
   split at h
   ·rename_i e1
    rcases bG h with ⟨v,ev,h2⟩ | ⟨c,_,z⟩
    ·rcases bG h2 with ⟨vs,es',h3⟩ | ⟨c,_,z⟩
     ·cases h3
      simp only [et,e1,ev,a0V es',Option.map_some]
     ·cases z
    ·cases z
   ·rename_i e1
    try simp only [et,e1]
    exact a0V h
   ·cases h
theorem a4M {t:Tg} {ρb:List Ent} {ft:TF} {fe:EF} {c:Str}:∀ {ds:T0j},rQ t ρb ft fe ds=some (.ex c)→∃ pre d post,ds=pre++d::post ∧
  (∀ x∈pre,tgD t ρb x=some (cX t ρb x)∧ft (cX t ρb x)=some (.ok (cT t ρb ft x))∧(cT t ρb ft x=true→∃ v,fe (cX t ρb x)=some (.ok v))) ∧
  tgD t ρb d=some (cX t ρb d)∧ft (cX t ρb d)=some (.ok true)∧fe (cX t ρb d)=some (.ex c)
 | [],h=>by cases h
 | d::ds,h=>by
  unfold rQ at h;split at h
  ·cases h
  ·rename_i ρx et
   have ex:cX t ρb d=ρx:=by unfold cX;rw [et];rfl
   have go:rQ t ρb ft fe ds=some (.ex c)→(ft ρx=some (.ok (cT t ρb ft d))∧(cT t ρb ft d=true→∃ v,fe ρx=some (.ok v)))→∃ pre d' post,d::ds=pre++d'::post ∧
     (∀ x∈pre,tgD t ρb x=some (cX t ρb x)∧ft (cX t ρb x)=some (.ok (cT t ρb ft x))∧(cT t ρb ft x=true→∃ v,fe (cX t ρb x)=some (.ok v))) ∧
     tgD t ρb d'=some (cX t ρb d')∧ft (cX t ρb d')=some (.ok true)∧fe (cX t ρb d')=some (.ex c):=fun h1 h2=>by
    obtain ⟨pre,d',post,e1,e2,e3⟩:=a4M h1;refine ⟨d::pre,d',post,by rw [e1];rfl,fun x hx=>?_,e3⟩;rcases qF.mp hx with rfl | hx
    ·rw [ex];exact ⟨et,h2.1,h2.2⟩
    ·exact e2 x hx
   split at h
   ·rename_i e1
    have e1':cT t ρb ft d=true:=by unfold cT;rw [ex,e1]
    rcases bG h with ⟨v,ev,h2⟩ | ⟨c',ev,z⟩
    ·rcases bG h2 with ⟨vs,es',h3⟩ | ⟨c',e3,z⟩
     ·cases h3
     ·cases z
      exact go e3 ⟨by rw [e1'];exact e1,fun _=>⟨v,ev⟩⟩
    ·cases z
     exact ⟨[],d,ds,rfl,fun _ z=>absurd z (by simp),by rw [ex];exact et,by rw [ex];exact e1,by rw [ex];exact ev⟩
   ·rename_i e1
    have e1':cT t ρb ft d=false:=by unfold cT;rw [ex,e1]
    exact go h ⟨by rw [e1'];exact e1,fun z=>by rw [e1'] at z;cases z⟩
   ·cases h
def eX (K:qC) (xs:T0j) (ρx:j0→List Ent) (fe:EF) (c:Str) (H0 G₀:Hp):TE:=fun σ H Q=>∃ x r G,x∈xs∧fe (ρx x)=some r∧RepS K H0 G₀ G H σ (ρx x) ∧
 (match r with | .ok d=>∀ v G' H',Grow G H G' H'→Rep K G' v d→Q v H' | .ex c'=>c'=c)
theorem b5Y {K:qC} {J:It} {H0 G₀ G H:Hp} {σ:St} {ρ ρb:List Ent} {cap:T0e} {pre post:T0j} {d:j0} {c:Str} {ρx:j0→List Ent} {cnd:j0→Bool} {fe:EF} (R:RepS K H0 G₀ G H σ ρ) (wk:Walk K J G (pre++d::post)) (hb:Weak (bS cap ρ) ρb)
  (hw:∀ x∈pre++[d],Weak (ρx x) ρb) (hz:(pre++d::post).length≤j5) (hp:∀ x∈pre,cnd x=true→∃ v,fe (ρx x)=some (.ok v)) (hd:cnd d=true) (he:fe (ρx d)=some (.ex c)) :
  uO J (gU K (pre++[d]) (fun x=>x) ρb ρx) (tU K (pre++[d]) ρx cnd) (eX K (pre++[d]) ρx fe c H G) (fU cap σ) H (fun _ _=>False):=by
 refine ⟨fun D i m ys σ' H'=>m=pre.length - i∧i≤pre.length∧ys.length≤i∧∃ G',RepS K H G G' H' σ' ρb∧G' D=none,fun D hD=>⟨⟨pre.length,by simp,jR _,jR _,G,?_,R.sub.free hD⟩,?_⟩⟩
 ·exact ((R.cap cap).more (.side R.sub hD)).weak hb
 ·rintro i m ys σ1 H1 ⟨rfl,hi,hys,G1,R1,hG1⟩ hD1
  obtain ⟨wgo,wstop⟩:=wk i G1 H1 R1.grow.gg R1.sub;have hx:∃ x,(pre++[d])[i]?=some x∧(pre++d::post)[i]?=some x∧x∈pre++[d]∧((i<pre.length∧x∈pre)∨x=d):=by
   by_cases h:i<pre.length
   ·refine ⟨pre[i],?_,?_,?_,.inl ⟨h,ja h⟩⟩
    ·rw [jA h];exact qK h
    ·rw [jA h];exact qK h
    ·exact jW _ (ja h)
   ·have:i=pre.length:=by omega
    subst this;exact ⟨d,by simp,by simp,by simp,.inr rfl⟩
  obtain ⟨x,_,hx2,hm,hx4⟩:=hx;obtain ⟨go,yl⟩:=wgo x hx2;refine .inr ⟨go,fun v H2 y=>?_⟩;obtain ⟨G2,g2,rx⟩:=yl v H2 y;refine ⟨x,hm,H,G,G2,R1.more g2,rx,fun σ3 R3=>⟨x,hm,H,G,G2,R3,fun G4 H4 g4=>?_⟩⟩;have g14:=g2.trans g4;have hD4:H4 D=some (.lst ys):=g14.hh.lst hD1;have hG4:G4 D=none:=g14.new D hG1 (by rw [hD1];simp);dsimp only;have hzz:pre.length<j5:=by rw [qh,qZ] at hz;omega
  rcases hx4 with ⟨hlt,hpre⟩ | rfl
  ·by_cases hcx:cnd x=true
   ·rw [if_pos hcx]
    obtain ⟨w,ew⟩:=hp x hpre hcx;refine ⟨x,.ok w,G4,hm,ew,R3.more g4,fun v G5 H5 g5 rv=>?_⟩;have hD5:H5 D=some (.lst ys):=g5.hh.lst hD4;have hG5:G5 D=none:=g5.new D hG4 (by rw [hD4];simp);refine ⟨hD5,by omega,pre.length - (i+1),by omega,rfl,hlt,by simp;omega,G5,?_,hG5⟩;have R5:RepS K H G G5 H5 σ3 ρb:=((R3.more g4).more g5).weak (hw _ hm);have noOwn:∀ (j:Nat) (e:Ent),ρb[j]?=some e→a4Y e=false:=fun j e h2=>by
     rcases hb.at h2 with z' | z'
     ·rw [z'];rfl
     ·exact yA cap ρ j e z'
    have hHD:H D=none:=hD;refine ⟨⟨R5.grow.gg,R5.grow.hh.wr hHD hD5,fun b o e=>?_,R5.grow.new,R5.grow.nt⟩,R5.len,fun j o e h1 h2=>?_,Inj.free (fun j e h2=>noOwn j e h2),R5.tab.wr hD5⟩
    ·rw [aF (aS e hG5)];exact R5.sub b o e
    ·have E:=R5.ent j o e h1 h2
     cases e with
     | no=>trivial
     | val d=>exact E
     | exc c=>obtain ⟨b,C,z,g1,g2⟩:=E;exact ⟨b,C,z,g1,by rw [aF (fZ g2 hD5 (by unfold xcO;nofun))];exact g2⟩
     | lst es=>have:=noOwn j _ h2;cases this
     | nst dss=>have:=noOwn j _ h2;cases this
     | dct kvs=>have:=noOwn j _ h2;cases this
   ·rw [if_neg hcx]
    exact ⟨hD4,pre.length - (i+1),by omega,rfl,hlt,by omega,G4,(R3.more g4).weak (hw _ hm),hG4⟩
  ·rw [if_pos hd]
   exact ⟨x,.ex c,G4,hm,he,R3.more g4,rfl⟩
section
variable {X:Cx} {elt iter tg:Expr} {ifs:T0l} {scope:Scope} {pos spos p:Pos} {N':T0o} {cap:T0e} {t:Tg} {fi:AF} {ft:TF} {fe:EF}
def b8a (X:Cx) (scope:Scope) (N':T0o) (c:Str) (G H:Hp) (C:Addr) (s₃:Shared) (H₃:Hp) (fp:T0m) (e:Value) (s':Shared):Prop:=
 ∃ pins σ H' G',Inv (bH X scope N' C s₃ H₃ fp) pins σ H' s'∧Grow G H G' H'∧b5K (bH X scope N' C s₃ H₃ fp) c e H' s'
theorem b5O {pins:T0b} {σ:St} {H0 G₀ G H H₃:Hp} {s₃ s':Shared} {fp:T0m} {c:Str} {e:Value} {ρ:List Ent} {cl:T0f} {acc:Value} {Q:T0a} (hst:X.stack=X.env::X.outer) (hf:X.env.frame=some X.env.locals)
  (I3:Inv X pins σ H₃ s₃) (hf3:∀ b∈fp,tE X pins H₃ b) (R:RepS X.K H0 G₀ G H σ ρ) (q:lJ X H0 G₀ G ρ c) (z:b8a X scope N' c G H s₃.heap.objs.size s₃ H₃ fp e s') :
  notedBy (model X.prog X.w) X.A (QL scope cl s₃.heap.objs.size X.env) (fun x s'=>cpX (model X.prog X.w) X.A X.xe X.env Q acc s₃.heap.objs.size (.error x) s') e s':=by
 obtain ⟨pins',σ',H',G',Ib,g,a,C,rfl,hC,xa⟩:=z;have IX:Inv X pins σ H' s':=I3.call' (ch:=fp) Ib.os Ib.base Ib.hok Ib.bare fun b hb=>by
  obtain ⟨_,f1,_,f3,f4,f5⟩:=hf3 b hb;exact ⟨f3,f1,f4,f5⟩
 have pinNe:∀ b,(s₃.heap.get? b=none∨s'.heap.get? b=none)→∀ p∈pins,p.1≠b:=fun b hb p hp w=>by
  rcases hb with hb | hb
  ·have:=(I3.pin p (qe _ hp)).1;rw [w,hb] at this;cases this
  ·have:=(IX.pin p (qe _ hp)).1;rw [w,hb] at this;cases this
 have xa':mC X (fun b=>uP X b∧∀ p∈pins,p.1≠b) H' a C s'.heap:=xa.mono fun b hb=>by
  rcases hb.1 with w | w
  ·obtain ⟨_,f1,_,f3,f4,f5⟩:=hf3 b w
   refine ⟨⟨f3.imp id fun y=>zH y,fun p hp=>f5 p (jW _ hp)⟩,fun p hp=>f5 p (qe _ hp)⟩
  ·exact ⟨rF I3 w,pinNe b (.inl w)⟩
 show wpAny (model X.prog X.w) X.A (QB (.ref a) X.env) _ _ s';refine a0O (X:=X) IX.ok.frames hst hf IX xa' (fun b hb=>⟨rF IX hb,pinNe b (.inr hb)⟩) fun h1 ch1 c1 x1=>?_;have I1:Inv X pins σ H' { s' with heap:=h1 }:=Inv.chg IX c1;obtain ⟨m,hn,_⟩:=Ib.loc;obtain ⟨oL,es,ep,hoL,rL⟩:=hn;have hoL:s'.heap.get? s₃.heap.objs.size=some oL:=hoL;have cL:s₃.heap.objs.size∉ch1:=fun z=>by
  obtain ⟨_,_,o,vs,e1,e2⟩:=c1.ch _ z;rw [hoL] at e1;cases e1;rw [rL.1] at e2;cases e2
 obtain ⟨sl,qL⟩:=c1.un.any hoL Ib.free cL;have nL:s₃.heap.objs.size≠X.env.locals:=jc I3.lt;refine ⟨m,⟨_,es,ep,qL,rL⟩,fun h2 hs2 ce hce=>?_⟩;have hs2:kP s₃.heap.objs.size h1 h2:=hs2
 have I2:Inv X pins σ H' { s' with heap:=h2 }:=Inv.turned (s:={ s' with heap:=h1 }) (t':=s'.toks) (it:=s₃.heap.objs.size) I1 (fun b o hb e=>hs2.extBut b o hb e) Ib.free nL (.inr I3.sz) (fun x c e z=>by
   obtain ⟨v,q⟩:=I3.cell x c e
   exact absurd q.lt (by rw [z];exact jN _)) fun p hp z=>by
   exact absurd (qG (I3.pin p hp).1) (by rw [z];exact jN _)
 have x2:tF (fun b=>uP X b∧∀ p∈pins,p.1≠b) (v7 X.env.locals) H' a C h2:=by
  obtain ⟨h1',h2',oe,vs,a0,T,oT,ts,e1,e2,e3,e4,e5,e6,e7,e8,e9,e10,e11⟩:=x1;have ne:∀ b o us,h1.get? b=some o→o.data=.fields us→b≠s₃.heap.objs.size:=fun b o us e d w=>by
   rw [w,qL] at e;cases e;have d:oL.data=.fields us:=d;rw [rL.1] at d;cases d
  exact ⟨h1',h2',oe,vs,a0,T,oT,ts,hs2.extBut _ _ (ne _ _ _ e1 e3) e1,e2,e3,e4,e5,e6,e7,e8,hs2.extBut _ _ (ne _ _ _ e9 e10) e9,e10,e11⟩
 refine b3z (X:=X) (s:={ s' with heap:=h2 }) I2.hok x2 fun h3 ch3 c3 x3=>?_;rw [hce,hf] at x3;exact q pins _ σ H' G' _ (Inv.chg (s:={ s' with heap:=h2 }) I2 c3) (R.more g) g.gg ⟨a,C,rfl,hC,.inr ⟨_,hf,x3.mono fun b hb=>hb.1⟩⟩
theorem a5p (hst:X.stack=X.env::X.outer) (hfr:X.env.frame=some X.env.locals) (hc:X.calm=true) (B:Blk X scope N' cap) (hi:DI X tg iter fi) (hf:a0u cap t=true) (hg:∀ C s₃ H₃ fp,DG (bH X scope N' C s₃ H₃ fp) tg t) (ht:∀ C s₃ H₃ fp,DTs (bH X scope N' C s₃ H₃ fp) ifs ft)
  (he:∀ C s₃ H₃ fp E,DE ((bH X scope N' C s₃ H₃ fp).wish E) elt fe) (hs:∀ x,wj iter X.env x=pure x:=by intro _;rfl):DE X (.ListComp elt [⟨tg,iter,ifs,0⟩] scope pos) (a6y t cap fi ft fe):=⟨fun pins s σ H Q I ⟨ρ,r,H0,G₀,G,e,R,q⟩=>by
 have old:∀ r',cN t cap fi ft fe ρ=some r'→r'=r→wpAny (model X.prog X.w) X.A (eval (.ListComp elt [⟨tg,iter,ifs,0⟩] scope pos) X.env) (EP X pins σ Q) X.xe s:=fun r' e' er=>by
  subst er;exact (cK hc B hi hf hg ht (fun C s₃ H₃ fp=>he C s₃ H₃ fp fun _ _=>False) hs).run pins s σ H Q I ⟨ρ,_,H0,G₀,G,e',R,q⟩
 rcases bG e with ⟨ds,e1,e2⟩ | ⟨c,e1,e2⟩
 ·split at e2
  ·rename_i hz
   rcases bG e2 with ⟨es,e3,e4⟩ | ⟨c,e3,e4⟩
   ·cases e4
    refine old _ ?_ rfl;unfold cN;rw [e1,b5a,if_pos hz,a0V e3];rfl
   ·subst e4
    obtain ⟨pre,d,post,e5,e6,e7,e8,e9⟩:=a4M e3;rw [eval_ListComp];refine a6x rfl hs (iO fun p hp hk=>I.ok.has p.1 (.inl (B.free p hp hk))) B.kind B.names ?_;refine thn (hi.run pins s σ H (fun J H'=>∃ G',Grow G H G' H'∧Walk X.K J G' ds) I ⟨ρ,_,H0,G₀,G,e1,R,fun J G' H' g w=>⟨G',g,w⟩⟩) fun v s1 h1=>thn h1 fun itv s2 ⟨it,fp,tn,J,H2,e',I2,T,st2,f2,G2,g2,wk⟩=>?_;subst e';have R2:=R.more g2;have cTd:cT t (bS cap ρ) ft d=true:=by unfold cT;rw [e8]
    have hpd:∀ x∈pre++[d],tgD t (bS cap ρ) x=some (cX t (bS cap ρ) x)∧ft (cX t (bS cap ρ) x)=some (.ok (cT t (bS cap ρ) ft x)):=fun x hx=>by
     rcases qu.mp hx with hx | hx
     ·exact ⟨(e6 x hx).1,(e6 x hx).2.1⟩
     ·cases qQ.mp hx
      exact ⟨e7,by rw [cTd];exact e8⟩
    refine a2M (RR:=fun acc C=>cpX (model X.prog X.w) X.A X.xe X.env (EP X pins σ Q) acc C) (XE:=fun C s₃ H₃ fp=>b8a X scope N' c G2 H2 C s₃ H₃ fp) (g:=gU X.K (pre++[d]) (fun x=>x) (bS cap ρ) (cX t (bS cap ρ))) (tc:=tU X.K (pre++[d]) (cX t (bS cap ρ)) (cT t (bS cap ρ) ft))
     (Q:=fun _ _=>False) (te:=eX X.K (pre++[d]) (cX t (bS cap ρ)) fe c H2 G2) hc B I2 T st2 f2 (fun C s₃ H₃ fp pins s σ H v u Q I r ⟨x,hx,q⟩=>((hg C s₃ H₃ fp).run _ _ _ (hpd x hx).1).run pins s σ H v u Q I r q)
     (fun C s₃ H₃ fp pins s σ H Q I ⟨x,hx,q⟩=>((ht C s₃ H₃ fp).run _ _ (hpd x hx).2).run pins s σ H Q I q) (fun C s₃ H₃ fp pins s σ H Q I ⟨x,r,G',hx,er,R',q'⟩=>?_)
     (b5Y R2 (e5▸wk) (.refl _) (fun x hx=>a0e hf (hpd x hx).1) (e5▸iC hz) (fun x hx hcx=>(e6 x hx).2.2 hcx) cTd e9) (fun D s₃ H₃ e s' I3 hf3 hD hH hsz z=>?_) (fun D C s' H' m' _ _ _ _ _ z=>z.elim)
    ·refine (he C s₃ H₃ fp (b8a X scope N' c G2 H2 C s₃ H₃ fp)).run pins s σ H Q I ⟨_,r,H2,G2,G',er,R',?_⟩
     cases r with
     | ok d=>exact q'
     | ex c'=>
      cases q';exact fun pins s' σ H' G'' e I' R'' _ x=>⟨pins,σ,H',G'',I'.unwish,R''.grow,x⟩
    ·exact b5O hst hfr I3 hf3 R2 (q.mono g2.gg) z
  ·cases e2
 ·subst e2
  refine old _ ?_ rfl;unfold cN
  rw [e1];rfl⟩
end
end L2.L3
namespace L2.L3
open PySem PySem.Spec PySem.Calls PyProof.Rows
abbrev a6e (qual:Str) (scope:Scope) (L f:Addr) (cd:Value) (cl:T0f):Env:=newEnv scope L j6 cl (qual ++ ".<locals>.") (some f) cd none uf
section
variable {P:Program} {w:World} {K:qC} {mg:T0d} {base:Heap}
def cxL (P:Program) (w:World) (K:qC) (mg:T0d) (base:Heap) (N:T0o) (env:Env) (A:Around) (outer:List Env) (s:Shared) (H:Hp) (E:XK):Cx where
 prog:=P
 w:=w
 K:=K
 mg:=mg
 base:=base
 A:=A.deeper env
 N:=N
 s₀:=s
 H₀:=H
 env:=env
 outer:=outer
 stack:=env::outer
 ex:=[]
 calm:=true
 fn:=fun _=>false
 pn:=[]
 xe:=fun e s'=>wpAny (model P w) (A.deeper env) (leaving env e) (fun _ s''=>CX1 P w outer H s E e s'') (fun e' s''=>CX1 P w outer H s E e' s'') s'
structure Caps (cl:T0f) (scope:Scope) (N:T0o) (σ:St) (H:Hp) (h:Heap):Prop where
 inj:∀ x y c,cl.lookup x=some c→cl.lookup y=some c→x=y
 has:∀ x,scope.names.lookup x=some .free→∃ c,cl.lookup x=some c
 cell:∀ x c,cl.lookup x=some c→H c=none∧∃ v,h.IsCell c v
 val:∀ (i:Nat) (x:Str) (v:V),N[i]?=some x→σ[i]?=some (some v)→scope.names.lookup x=some .free∧∃ u c,RelV v u∧cl.lookup x=some c∧h.IsCell c (some u)
 len:σ.length=N.length
theorem Caps.more {cl:T0f} {scope:Scope} {N:T0o} {σ:St} {H H':Hp} {h h':Heap} {fs:T0m} (C:Caps cl scope N σ H h) (un:Un fs [] H H' h h'):Caps cl scope N σ H' h':=by
 have go:∀ x c v,cl.lookup x=some c→h.IsCell c v→h'.IsCell c v:=fun x c v e ⟨o,ho,hd⟩=>by
  obtain ⟨sl,q⟩:=un.any ho (C.cell x c e).1 (by simp);exact ⟨_,q,hd⟩
 refine ⟨C.inj,C.has,fun x c e=>?_,fun i x v e1 e2=>?_,C.len⟩
 ·obtain ⟨n,v,o,ho,hd⟩:=C.cell x c e
  exact ⟨un.free c o ho n (by simp),v,go x c v e ⟨o,ho,hd⟩⟩
 ·obtain ⟨h1,u,c,h2,h3,h4⟩:=C.val i x v e1 e2
  exact ⟨h1,u,c,h2,h3,go x c _ h3 h4⟩
theorem b4h {N:T0o} {qual:Str} {scope:Scope} {f:Addr} {cd:Value} {cl:T0f} {A:Around} {outer:List Env} {s:Shared} {H:Hp} {E:XK} {σ:St} {h1:Heap} {tk:Nat}
  (hk:scope.kind=.function) (hnc:∀ x∈scope.names,x.2≠.cell) (hd:A.handled=none) (e0:Env0 P w K mg base A outer s H) (C:Caps cl scope N σ H s.heap) (hns:∃ m,h1.Ns s.heap.objs.size m) (kp:∀ b o,s.heap.get? b=some o→h1.get? b=some o) :
  Inv (cxL P w K mg base N (a6e qual scope s.heap.objs.size f cd cl) A outer s H E) [] σ H { s with heap:=h1,toks:=tk }:=by
 have noA:∀ b:Addr,b∉(cxL P w K mg base N (a6e qual scope s.heap.objs.size f cd cl) A outer s H E).ex:=fun b z=>absurd (show b∈([]:T0m) from z) (by simp);obtain ⟨m,hns⟩:=hns;have cellK:∀ c v,s.heap.IsCell c v→h1.IsCell c v:=fun c v ⟨o,ho,hd⟩=>⟨o,kp _ _ ho,hd⟩
 refine ⟨⟨e0.mod,hk,rfl,rfl,qR _,C.inj,fun y hy=>?_,(fun y c z _=>nomatch z),fun _=>hd,Around.frames_deeper e0.frames,.inr ⟨rfl,rfl⟩,fun b z=>absurd z (noA b),e0.bs,e0.bsz,fun b _ _=>noA b,fun b z=>absurd z (noA b),e0.funs,e0.frf⟩,
  rfl,e0.bare,Un.kept kp,⟨m,hns,fun i y v h1 h2 h3=>?_⟩,fun y c h=>?_,e0.hok.fresh (qR _),fun y c h=>(C.cell y c h).1,fun p hp=>absurd (show p∈([]:T0b) from hp) (by simp),e0.hok.kept kp,C.len⟩
 ·have hy:scope.names.lookup y=some .cell∨scope.names.lookup y=some .free:=hy
  rcases hy with hy | hy
  ·exact absurd rfl (hnc _ (qj hy))
  ·exact C.has y hy
 ·obtain ⟨q1,u,c,q2,q3,q4⟩:=C.val i y v h1 h2
  exact ⟨u,q2,.inr ⟨.inr q1,c,q3,cellK c _ q4⟩⟩
 ·obtain ⟨_,v,q⟩:=C.cell y c h
  exact ⟨v,cellK c v q⟩
def b5h (K:qC) (G H:Hp) (r:Re j0):VK:=fun v H'=>∃ G' d,r=.ok d∧Grow G H G' H'∧Rep K G' v d
def a9y (K:qC) (G H:Hp) (r:Re j0):XK:=fun cv _ H'=>∃ G' C c,cv=.ref C∧r=.ex c∧gJ K c=some C∧Grow G H G' H'
theorem b2h {k:Nat} {f c:Addr} {qual:Str} {params:Arguments} {body:Expr} {scope:Scope} {cl:T0f} {pm ct:Value} {fe:EF} {A:Around} {outer:List Env} {s:Shared} {H G:Hp} {o:Obj} {N:T0o} {σ:St} {ρ:List Ent} {r:Re j0}
  (hr:Room (k+1) A) (e0:Env0 P w K mg base A outer s H) (ho:s.heap.get? f=some o) (hod:o.data=.func (zy "<lambda>" qual params body scope cl pm (.ref c) ct)) (hcd:s.heap.CodeRec (.ref c) qual)
  (hk:scope.kind=.function) (hco:scope.isCoroutine=false) (hge:scope.isGenerator=false) (hnc:∀ x∈scope.names,x.2≠.cell)
  (hb:yy (zy "<lambda>" qual params body scope cl pm (.ref c) ct) ⟨[],[]⟩=pure [])
  (hbody:DE (cxL P w K mg base N (a6e qual scope s.heap.objs.size f (.ref c) cl) A outer s H (a9y K G H r)) body fe)
  (C:Caps cl scope N σ H s.heap) (R:RepS K H G G H σ ρ) (hf:fe ρ=some r) :
  wx (model P w) A (.call (.ref f) ⟨[],[]⟩) (CR (CX1 P w) outer P w H s (b5h K G H r) (a9y K G H r)) s:=by
 have lim:s.heap.NoLimit:=e0.mod.nolimit.keeps fun b o e=>(e0.bs b o e).1;refine PySem.W.kla_callFunE hr.depth ho hod hco hge rfl hcd ?_;rw [hb];refine j3 (wpAny_newFunctionEnv hnc (by simp) (fun h1 hns hsb=>?_) hk);have kp:∀ b o,s.heap.get? b=some o→h1.get? b=some o:=fun b o e=>hsb.extBut b o (qa (qG e)) (qB _ e);refine ⟨lim.keeps kp,PySem.W.kla_codeExpr ?_⟩;have I:Inv (cxL P w K mg base N (a6e qual scope s.heap.objs.size f (.ref c) cl) A outer s H (a9y K G H r)) [] σ H { s with heap:=h1,toks:=s.toks+([]:List (Str×Value)).length }:=b4h hk hnc hr.hd e0 C ⟨_,hns⟩ kp;refine v6 (hbody.run [] _ σ H (b5h K G H r) I ⟨ρ,r,H,G,G,hf,R,?_⟩) (fun u' s' hs=>?_) fun e s' hs=>hs
 ·cases r with
  | ok d=>exact fun v G' H' g rv=>⟨G',d,rfl,g,rv⟩
  | ex c'=>
   intro pins s' σ' H' G' e' I' R' _ ⟨a,C',e1,hE,xa⟩;subst e1;refine a4Q (X:=cxL P w K mg base N (a6e qual scope s.heap.objs.size f (.ref c) cl) A outer s H (a9y K G H (.ex c'))) (fr:=fun b=>s.heap.get? b=none) I'.ok.frames rfl rfl I' (xa.mono fun b hb=>?_) (fun b hb=>?_) fun h' ch un hch hok x'=>?_
   ·rcases hb.1 with z | z
    ·cases z
    ·exact z
   ·cases z:s.heap.get? b with
    | none=>rfl
    | some o=>
     obtain ⟨o',z'⟩:=I'.base.there b o z (by intro w;cases w);rw [hb] at z';cases z'
   ·exact ⟨a,C',H',rfl,⟨G',C',c',rfl,rfl,hE,R'.grow⟩,I'.os,I'.bare,a4k I' rfl un hch,hok,x'⟩
 ·obtain ⟨v',H',J,rv,q⟩:=hs
  exact ⟨v',H',J.os,J.bare,J.base,J.hok,rv,q⟩
end
structure RoomN (k:Nat) (A:Around):Prop where
 dp:A.depth+3*k+5<ux
 un:A.units+16*k+200<cLine
theorem RoomN.units {k:Nat} {A:Around} (r:RoomN k A):A.units+64<cLine:=by have:=r.un;omega
theorem Room.n {k:Nat} {A:Around} (r:Room k A) (e:Option Value):RoomN k (A.mark e):=⟨r.dp,r.un⟩
section
variable {P:Program} {w:World} {K:qC} {mg:T0d} {base:Heap} {x:Str} {k:Nat} {ps N:T0o} {F:Str→Mm j0}
abbrev fcN (P:Program) (w:World) (K:qC) (mg:T0d) (base:Heap) (N:T0o) (qual:Str) (scope:Scope) (f:Addr) (cd:Value) (A:Around) (outer:List Env) (s:Shared) (H:Hp):Cx:=
 { a0a CX0 P w K mg base N qual scope f cd A outer s H E0 with calm:=false,xe:=fun _ _=>False }
structure ClsOk (P:Program) (w:World) (K:qC) (mg:T0d) (base:Heap) (x:Str) (k:Nat) (F:Str→Mm j0):Prop where
 ex:∃ f,mg x=some (.ref f)∧kB K (.ref f)=true∧∀ (A:Around) (outer:List Env) (s:Shared) (H G:Hp) (a C:Addr) (c:Str) (d:j0),RoomN k A→Env0 P w K mg base A outer s H→(bB G H∧nB K G H)→gJ K c=some C→H a=some (xcO a C)→F c=some (.ok d) →
  wx (model P w) A (.call (.ref f) ⟨[.ref a],[]⟩) (CR CX0 outer P w H s (fun v H'=>∃ G',Grow G H G' H'∧Rep K G' v d) E0) s
theorem b4T {st:Stmt} {y:Str} {f:SF} (m:Nat) (D:Def K mg x st) (S:FnScope N [y] (aD st)) (hm:N.length=m)
  (hb:∀ (kV doc pm:Value) (an:T0i) (cdv ct:Value) (us:T0k),us.length=[y].length→yy (jk x x (eY st) (bL st) (aD st) .none kV doc pm an cdv ct) ⟨us,[]⟩=pure ([y].zip us))
  (body:∀ (fa:Addr) (cdv:Value) (A:Around) (outer:List Env) (s:Shared) (H:Hp),RoomN 0 (A.deeper (yn x (aD st) s.heap.objs.size fa cdv))→DB (fcN P w K mg base N x (aD st) fa cdv A outer s H) (bL st) f) :
  ClsOk P w K mg base x 1 (b6j m f):=by
 obtain ⟨fa,fd,Fu,hmg⟩:=D.ex;refine ⟨fa,hmg,Fu.kp,fun A outer s H G a C c d hr e0 sm hC hH hF=>?_⟩;have bd:=Fu.binds hb;obtain ⟨oc,od,kV,doc,pm,an,cdv,ct,osl,rfl,lk,hcd⟩:=Fu.ex;have KX:K.In s.heap:=e0.mod.kin.keeps fun b o e=>(e0.bs b o e).1;have lim:s.heap.NoLimit:=e0.mod.nolimit.keeps fun b o e=>(e0.bs b o e).1;have hkind:∀ z∈[y].zip [jb a],(aD st).names.lookup z.1=some .local∨((aD st).names.lookup z.1=some .cell∧((k8 (s.heap.objs.size+1) (aD st).names []).lookup z.1).isSome=true):=fun ⟨n,v⟩ hy=>by
  rcases S.par n (zn hy).1 with q | q
  ·exact .inl q
  ·exact .inr ⟨q,kK _ _ _ (.inl q)⟩
 have dep:A.depth<ux:=by have:=hr.dp;omega
 refine ue dep (KX _ _ lk) rfl S.co S.gen rfl (vp KX hcd) (bd s [.ref a] KX rfl _ _ _ _ ?_);refine yb S.kind hkind fun env he s1 xx=>?_;subst he;refine ⟨lim.keeps xx.toInCall.keep,codeAny_func ?_⟩;have e1:Env0 P w K mg base { A with handled:=none } outer s H:=⟨e0.frames,e0.mod,e0.bs,e0.bsz,e0.funs,e0.frf,e0.hok,e0.bare⟩;have J:Inv (a0a CX0 P w K mg base N x (aD st) fa cdv { A with handled:=none } outer s H E0) [] (start N [.ref a]) H s1:=rD S rfl e1 rfl (.cons rfl .nil) xx;have I:Inv (fcN P w K mg base N x (aD st) fa cdv A outer s H) [] (start N [.ref a]) H s1:=
  ⟨⟨J.ok.mod,J.ok.kind,J.ok.glob,J.ok.blt,J.ok.above,J.ok.inj,J.ok.has,J.ok.cab,(fun z=>nomatch z),J.ok.frames,J.ok.stk,J.ok.exf,J.ok.bs,J.ok.bsz,J.ok.noex,J.ok.exfs,J.ok.funs,J.ok.frf⟩,J.os,J.bare,J.base,J.loc,J.cell,J.free,J.freeC,J.pin,J.hok,J.len⟩
 unfold b6j at hF;rw [←hm] at hF;have fin:∀ (fl:Flow) (s':Shared),SP (fcN P w K mg base N x (aD st) fa cdv A outer s H) [] { nx:=fun _ H'=>∃ G',Grow G H G' H'∧Rep K G' .non d,rt:=fun v H'=>∃ G',Grow G H G' H'∧Rep K G' v d } fl s' →
   (match fl with | .ret u=>CR CX0 outer P w H s (fun v H'=>∃ G',Grow G H G' H'∧Rep K G' v d) E0 (.ok (.ret u)) s' | .next=>CR CX0 outer P w H s (fun v H'=>∃ G',Grow G H G' H'∧Rep K G' v d) E0 (.ok (.ret .none)) s' | _=>False):=fun fl s' hs=>by
  cases fl with
  | ret u=>
   obtain ⟨v,σ',H',J,rv,q⟩:=hs;exact ⟨v,H',J.os,J.bare,J.base,J.hok,rv,q⟩
  | next=>
   obtain ⟨σ',H',J,q⟩:=hs;exact ⟨.non,H',J.os,J.bare,J.base,J.hok,rfl,q⟩
  | brk=>obtain ⟨_,_,_,q⟩:=hs;exact q.elim
  | cont=>obtain ⟨_,_,_,q⟩:=hs;exact q.elim
 have run:∀ o,f (.exc c::zT (N.length - 1) .no)=some o→a0d (fcN P w K mg base N x (aD st) fa cdv A outer s H) H G G { nx:=fun _ H'=>∃ G',Grow G H G' H'∧Rep K G' .non d,rt:=fun v H'=>∃ G',Grow G H G' H'∧Rep K G' v d } o →
   wpAny (model P w) (A.deeper (yn x (aD st) s.heap.objs.size fa cdv)) (execs (bL st) (yn x (aD st) s.heap.objs.size fa cdv)) (SP (fcN P w K mg base N x (aD st) fa cdv A outer s H) [] { nx:=fun _ H'=>∃ G',Grow G H G' H'∧Rep K G' .non d,rt:=fun v H'=>∃ G',Grow G H G' H'∧Rep K G' v d }) (fun _ _=>False) s1:=
  fun o e q=>(body fa cdv A outer s H ⟨by have:=hr.dp;show A.depth+1+3*0+5<_;omega,by have:=hr.un;show A.units+3+16*0+200<_;omega⟩).run [] s1 _ H _ I ⟨_,o,H,G,G,e,a8e sm hC hH,q⟩
 split at hF
 ·rename_i d' e
  cases (qA hF);refine v6 (run _ e fun v G' H' _ g rv=>⟨G',g,rv⟩) (fun fl s' hs=>?_) fun _ _ z=>z.elim;have:=fin fl s' hs;cases fl<;>first | exact this | exact this.elim
 ·rename_i ρ' e
  cases (qA hF);refine v6 (run _ e fun G' H' σ' _ R'=>⟨G',R'.grow,.none⟩) (fun fl s' hs=>?_) fun _ _ z=>z.elim;have:=fin fl s' hs;cases fl<;>first | exact this | exact this.elim
 ·cases hF
end
section
variable {X:Cx}
theorem a9d {pins:T0b} {s:Shared} {σ:St} {H:Hp} {fl:Addr} {dn:Str} {i:Nat} {p pos:Pos} {Qv:VK} {Ev:XK} (I:Inv X pins σ H s) (hN:X.N[i]?=some dn) (hσ:σ[i]?=some (some (.ref fl))) (hv:Vis X.env.scope dn)
  (hd:(dn==("__debug__" : Str))=false) (hcd:(dn==("__classdict__" : Str))=false) (hf:∀ s',Inv X pins σ H s'→PySem.W.FnAt fl s'.heap)
  (run:∀ s',Inv X pins σ H s'→wx (model X.prog X.w) X.A (.call (.ref fl) ⟨[],[]⟩) (CR (CX1 X.prog X.w) X.stack X.prog X.w H s' Qv Ev) s') :
  wpAny (model X.prog X.w) X.A (eval (.Call (.Name dn p) [] [] pos) X.env) (EP X pins σ Qv) (fun e s'=>∃ a C H',e=.ref a∧Ev (.ref C) none H'∧Inv X pins σ H' s'∧ExcAt (uP X) H' a C s'.heap) s:=by
 have nm:=hZ (X:=X.wish fun _ _=>False) (pos:=p) hN hv hd hcd pins s σ H (fun v H'=>v=.ref fl∧H'=H) (I.wish _) ⟨.ref fl,hσ,rfl,rfl⟩;refine v0 (v6 nm (fun u s1 ⟨v,H1,I1',rv,e1,e2⟩=>?_) fun _ _ z=>z.elim);subst e1 e2;cases rv;have I1:=I1'.unwish;refine PySem.W.callWith_F0 (hf s1 I1) (uh (wy (run s1 I1) fun res s' hq=>?_));cases res with
 | error e2=>
  obtain ⟨a2,C2,H2,rfl,hE,os,bare,un,hok,xa⟩:=hq;exact ⟨a2,C2,H2,rfl,hE,I1.call' (ch:=[]) os un hok bare (fun b z=>nomatch z),xa.mono fun b hb=>rF I1 hb⟩
 | ok fl=>
  cases fl with
  | ret u=>exact I1.after hq
  | next=>exact qw hq
  | brk=>exact qw hq
  | cont=>exact qw hq
theorem b2q {pins:T0b} {s:Shared} {σ:St} {H G:Hp} {x n c:Str} {k j:Nat} {a C:Addr} {d:j0} {F:Str→Mm j0} {p p2 pos:Pos} {e:Option Value} (K0:ClsOk X.prog X.w X.K X.mg X.base x k F) (hr:RoomN k X.A) (I:Inv X pins σ H s) (hN:X.N[j]?=some n) (hσ:σ[j]?=some (some (.ref a))) (hv:Vis X.env.scope n)
  (hd:(n==("__debug__" : Str))=false) (hcd:(n==("__classdict__" : Str))=false) (sm:bB G H∧nB X.K G H) (hC:gJ X.K c=some C) (hH:H a=some (xcO a C)) (hF:F c=some (.ok d)) (hg:Gl X x) (hdb:(x==("__debug__" : Str))=false)
  (he:j4 [.Name n p2] X.env=(false,eval (.Name n p2) X.env)::j4 [] X.env) (hpl:(k9 pos (j4 [] X.env)).any (·.1)=false) :
  wpAny (model X.prog X.w) X.A (eval (.Call (.Name x p) [.Name n p2] [] pos) X.env) (EP X pins σ fun v H'=>∃ G',Grow G H G' H'∧Rep X.K G' v d) X.xe s:=by
 obtain ⟨f,hm,kp,run⟩:=K0.ex;refine v0 (oE I hg hm ?_ hdb);refine zu (h₀:=X.base) I.ok.mod.kin kp (thn (dC (hZ hN hv hd hcd) gG he pos pins s σ H (fun vs H'=>vs=[.ref a]∧H'=H) I ⟨.ref a,hσ,rfl,rfl⟩) fun us s1 ⟨vs,H1,I1,rv,e1,e2⟩=>⟨I1.kIn,?_⟩) he hpl;subst e1 e2;obtain ⟨u,rfl,ru⟩:=vals1 rv;cases ru;refine uh (wy (run X.A X.stack s1 H1 G a C c d hr I1.env0 sm hC hH hF) fun res s' hq=>?_);cases res with
 | error e2=>exact hq.elim
 | ok fl=>
  cases fl with
  | ret u=>exact I1.after hq
  | next=>exact qw hq
  | brk=>exact qw hq
  | cont=>exact qw hq
end
def a6Q (L:T0o) (F:Str→Mm j0) (r:Re j0):Option j0:=match r with
 | .ok d=>some d
 | .ex c=>if L.contains c then (match F c with | some (.ok d)=>some d | _=>none) else none
section
variable {X:Cx} {L:T0o}
theorem a7Z {s:Shared} {σ:St} {H G:Hp} {fl D:Addr} {dn n d0 y:Str} {k:Nat} {r:Re j0} {d:j0} {F:Str→Mm j0} {p1 p2 p3 np p5 p6 p7 p8 hpos pos:Pos} (I:Inv X [] σ H s) (hN:X.N.Nodup) (hst:X.stack=X.env::X.outer) (hf:X.env.frame=some X.env.locals)
  (hD:gJ X.K d0=some D) (hXD:XCls X.K D) (hcs:∀ c∈L,∃ C,gJ X.K c=some C∧XCls X.K C∧kZ X.K (.ref C) (.ref D)=some true)
  (K0:ClsOk X.prog X.w X.K X.mg X.base y k F) (hr:∀ e,RoomN k (X.A.mark e)) (sm:bB G H∧nB X.K G H) (ht:a6Q L F r=some d)
  (hi:X.N[0]?=some dn) (hj:X.N[1]?=some n) (hσ:σ[0]?=some (some (.ref fl)))
  (hfn:∀ s',Inv X [] σ H s'→PySem.W.FnAt fl s'.heap)
  (run:∀ s',Inv X [] σ H s'→wx (model X.prog X.w) X.A (.call (.ref fl) ⟨[],[]⟩) (CR (CX1 X.prog X.w) X.stack X.prog X.w H s' (b5h X.K G H r) (a9y X.K G H r)) s')
  (hk0:X.env.scope.names.lookup dn=some .local) (hk:X.env.scope.names.lookup n=some .local) (hg:Gl X d0) (hgy:Gl X y)
  (hdb0:(dn==("__debug__" : Str))=false) (hcd0:(dn==("__classdict__" : Str))=false) (hdb:(d0==("__debug__" : Str))=false) (hnd:(n==("__debug__" : Str))=false) (hncd:(n==("__classdict__" : Str))=false) (hdy:(y==("__debug__" : Str))=false)
  (he:j4 [.Name n p6] X.env=(false,eval (.Name n p6) X.env)::j4 [] X.env) (hpl:(k9 p7 (j4 [] X.env)).any (·.1)=false) :
  wpAny (model X.prog X.w) X.A (exec (.Try [.Return (some (.Call (.Name dn p1) [] [] p2)) p3] [.ExceptHandler (some (.Name d0 np)) (some n) [.Return (some (.Call (.Name y p5) [.Name n p6] [] p7)) p8] hpos] [] [] pos) X.env)
   (SP X [] { nx:=fun _ _=>False,rt:=fun v H'=>∃ G',Grow G H G' H'∧Rep X.K G' v d }) X.xe s:=by
 refine wpAny_Try_except ?_;refine yk (u5 (v6 (a9d (X:=X) I hi hσ (.inl hk0) hdb0 hcd0 hfn run) (fun u s2 ⟨v,H',I',rv,q⟩=>?_) fun e s2 ⟨a,C,H',e1,⟨G',C',c,e2,e3,hC,g⟩,I',xa⟩=>?_))
 ·obtain ⟨G',d',rfl,g,rp⟩:=q
  cases ht;exact ⟨v,σ,H',I',rv,G',g,rp⟩
 ·subst e1;cases e2;subst e3
  unfold a6Q at ht;dsimp only at ht;split at ht
  ·rename_i hc
   split at ht
   ·rename_i dd hF
    cases ht;obtain ⟨C'',hE',hXC,hsub⟩:=hcs c (by simpa using hc);rw [hC] at hE';cases hE';have xa1:mC X (fun b=>uP X b∧∀ p∈([]:T0b),p.1≠b) H' a C s2.heap:=.inl (xa.mono fun b hb=>⟨hb,fun p hp=>nomatch hp⟩);have nw:∀ b,s2.heap.get? b=none→uP X b∧∀ p∈([]:T0b),p.1≠b:=fun b hb=>⟨rF I' hb,fun p hp=>nomatch hp⟩;refine a0O (X:=X) I'.ok.frames hst hf I' xa1 nw fun h1 ch1 c1 x1=>?_;have I2:=Inv.chg I' c1;refine a6p (X:=X) (s:={ s2 with heap:=h1 }) c1.hok x1 fun h2 ch2 c2 x2=>?_;have I3:Inv X [] σ H' { s2 with heap:=h2 }:=Inv.chg (s:={ s2 with heap:=h1 }) I2 c2;obtain ⟨_,_,oe,vs,xo,_⟩:=(show ExcAt _ H' a C h2 from .inr x2).ob;have hm:X.mg d0=some (.ref D):=zi I.mod.kin I.mod.glob (a3J hD);refine wpAny_handleBy_cons (codeAny_handlers_test (oE (X:=Cx.suite X a) (a2u I3 a) hg hm (a9E hXC hXD I3.kIn xo hsub ?_) hdb)) (by intro z;cases z);refine codeAny_handlers_suite_as ?_;refine a6p (X:=X) (s:={ s2 with heap:=h2 }) c2.hok x2 fun h3 ch3 c3 x3=>?_;have I4:Inv X [] σ H' { s2 with heap:=h3 }:=Inv.chg (s:={ s2 with heap:=h2 }) I3 c3;obtain ⟨fa,na,oe3,vs3,xo3,hv3⟩:=(show ExcAt _ H' a C h3 from .inr x3).ob;have I5:Inv X [] σ (upd H' a (xcO a C)) { s2 with heap:=h3 }:=Inv.track I4 fa na ⟨oe3,vs3,xo3.at_,hv3⟩ ⟨⟨oe3,xo3⟩,⟨oe3,xo3.at_⟩,fun g1 g2 ⟨o1,y⟩ k=>⟨o1,k _ y.at_,y.cls⟩⟩;have hjσ:1<σ.length:=by rw [I5.len];exact (qY.mp hj).1
    refine mT (i:=1) (v:=.ref a) I5 hN hj (.inl hk) rfl (fun s4 I6=>?_) (.inr hk);have g6:Grow G H G' (upd H' a (xcO a C)):=g.trans (Grow.side g.sub na);have sm6:bB G' (upd H' a (xcO a C))∧nB X.K G' (upd H' a (xcO a C)):=⟨g6.sub,sm.2.more g6⟩;have run:=b2q (X:=Cx.suite X a) (p:=p5) (p2:=p6) (pos:=p7) (e:=none) (G:=G') K0 (hr _) (a2u I6 a) hj (by rw [kN hjσ]) (.inl hk) hnd hncd sm6 hC aL hF hgy hdy he hpl;refine yk (u5 (v6 run (fun u s5 ⟨v,H5,I7,rv,G5,g5,rp⟩=>?_) fun _ _ z=>qw z));have I8:=a4Z I7 I.ok;exact name_goes I8 hN hj hk fun s6 I9=>⟨v,_,H5,I9,rv,G5,g6.trans g5,rp⟩
   ·cases ht
  ·cases ht
end
section
variable {P:Program} {w:World} {K:qC} {mg:T0d} {base:Heap} {x:Str} {k:Nat} {F:Str→Mm j0} {L:T0o}
structure DeedOk (P:Program) (w:World) (K:qC) (mg:T0d) (base:Heap) (k:Nat) (s:Shared) (H G:Hp) (r:Re j0) (fl:Addr):Prop where
 fn:∀ (s':Shared) (fs:T0m),Un fs [] H H s.heap s'.heap→PySem.W.FnAt fl s'.heap
 run:∀ (A:Around) (outer:List Env) (s':Shared) (fs:T0m),Room k A→Env0 P w K mg base A outer s' H→Un fs [] H H s.heap s'.heap→wx (model P w) A (.call (.ref fl) ⟨[],[]⟩) (CR (CX1 P w) outer P w H s' (b5h K G H r) (a9y K G H r)) s'
structure ToldOk (P:Program) (w:World) (K:qC) (mg:T0d) (base:Heap) (x:Str) (L:T0o) (F:Str→Mm j0):Prop where
 ex:∃ f,mg x=some (.ref f)∧kB K (.ref f)=true∧∀ (k:Nat) (A:Around) (outer:List Env) (s:Shared) (H G:Hp) (r:Re j0) (d:j0) (fl:Addr),Room (k+2) A→Env0 P w K mg base A outer s H→(bB G H∧nB K G H)→DeedOk P w K mg base k s H G r fl→a6Q L F r=some d →
  wx (model P w) A (.call (.ref f) ⟨[.ref fl],[]⟩) (CR CX0 outer P w H s (fun v H'=>∃ G',Grow G H G' H'∧Rep K G' v d) E0) s
theorem a9S {st:Stmt} {dn n y:Str} {p1 p2 p3 np p5 p6 p7 p8 hpos pos:Pos} {Dc:Addr} (D:Def K mg x st) (S:FnScope [dn,n] [dn] (aD st))
  (hD:gJ K "SheetError" = some Dc) (hXD:XCls K Dc) (hcs:∀ c∈L,∃ C,gJ K c=some C∧XCls K C∧kZ K (.ref C) (.ref Dc)=some true) (K0:ClsOk P w K mg base y 1 F)
  (hB:bL st=[.Try [.Return (some (.Call (.Name dn p1) [] [] p2)) p3] [.ExceptHandler (some (.Name "SheetError" np)) (some n) [.Return (some (.Call (.Name y p5) [.Name n p6] [] p7)) p8] hpos] [] [] pos])
  (hb:∀ (kV doc pm:Value) (an:T0i) (cdv ct:Value) (us:T0k),us.length=[dn].length→yy (jk x x (eY st) (bL st) (aD st) .none kV doc pm an cdv ct) ⟨us,[]⟩=pure ([dn].zip us))
  (hk0:(aD st).names.lookup dn=some .local) (hk:(aD st).names.lookup n=some .local)
  (hg:(aD st).names.lookup ("SheetError" : Str)=some .globalImplicit) (hgy:(aD st).names.lookup y=some .globalImplicit)
  (hdb0:(dn==("__debug__" : Str))=false) (hcd0:(dn==("__classdict__" : Str))=false) (hnd:(n==("__debug__" : Str))=false) (hncd:(n==("__classdict__" : Str))=false) (hdy:(y==("__debug__" : Str))=false) :
  ToldOk P w K mg base x L F:=by
 obtain ⟨fa,fd,Fu,hmg⟩:=D.ex;refine ⟨fa,hmg,Fu.kp,fun k A outer s H G r d fl hr e0 sm Dd ht=>?_⟩;have bd:=Fu.binds hb;obtain ⟨oc,od,kV,doc,pm,an,cdv,ct,osl,rfl,lk,hcd⟩:=Fu.ex;have KX:K.In s.heap:=e0.mod.kin.keeps fun b o e=>(e0.bs b o e).1;have lim:s.heap.NoLimit:=e0.mod.nolimit.keeps fun b o e=>(e0.bs b o e).1;have hkind:∀ z∈[dn].zip [jb fl],(aD st).names.lookup z.1=some .local∨((aD st).names.lookup z.1=some .cell∧((k8 (s.heap.objs.size+1) (aD st).names []).lookup z.1).isSome=true):=fun ⟨n,v⟩ hy=>by
  rcases S.par n (zn hy).1 with q | q
  ·exact .inl q
  ·exact .inr ⟨q,kK _ _ _ (.inl q)⟩
 refine ue hr.depth (KX _ _ lk) rfl S.co S.gen rfl (vp KX hcd) (bd s [.ref fl] KX rfl _ _ _ _ ?_);refine yb S.kind hkind fun env he s1 xx=>?_;subst he;refine ⟨lim.keeps xx.toInCall.keep,codeAny_func ?_⟩;have I:Inv (a0a CX0 P w K mg base [dn,n] x (aD st) fa cdv A outer s H E0) [] (start [dn,n] [.ref fl]) H s1:=rD S hr.hd e0 rfl (.cons rfl .nil) xx;rw [hB];have hr1:Room (k+1) (A.deeper (yn x (aD st) s.heap.objs.size fa cdv)):=hr.deeper _;have main:=a7Z (X:=a0a CX0 P w K mg base [dn,n] x (aD st) fa cdv A outer s H E0) (p1:=p1) (p2:=p2) (p3:=p3) (np:=np) (p5:=p5) (p6:=p6) (p7:=p7) (p8:=p8) (hpos:=hpos) (pos:=pos) I S.nd rfl rfl hD hXD hcs K0 (fun e=>Room.n (hr1.mono (by omega):Room 1 _) e) sm ht rfl rfl rfl (fun s' I'=>Dd.fn s' _ I'.base)
  (fun s' I'=>Dd.run _ _ s' _ (hr1.mono (by omega)) I'.env0 I'.base) hk0 hk hg hgy hdb0 hcd0 (by decide) hnd hncd hdy rfl rfl
 refine yk (v6 main (fun f s' q=>?_) fun _ _ z=>z);cases f with
 | next=>obtain ⟨_,_,_,z⟩:=q;exact z.elim
 | brk=>obtain ⟨_,_,_,z⟩:=q;exact z.elim
 | cont=>obtain ⟨_,_,_,z⟩:=q;exact z.elim
 | ret u=>
  obtain ⟨v,σ',H',J,rv,q⟩:=q;exact ⟨v,H',J.os,J.bare,J.base,J.hok,rv,q⟩
end
def a4m (L:T0o) (F:Str→Mm j0) (cap:T0e) (fe:EF):EF:=fun ρ=>match fe (bS cap ρ) with
 | some r=>lft (a6Q L F r)
 | none=>none
section
variable {X:Cx}
theorem b4W {scope:Scope} {N':T0o} {cap:T0e} {pins:T0b} {σ:St} {H:Hp} {s:Shared} (B:Blk X scope N' cap) (I:Inv X pins σ H s):Caps (xY scope X.env) scope N' (fU cap σ) H s.heap:=by
 have cl:∀ x c,(xY scope X.env).lookup x=some c→X.env.cells.lookup x=some c:=fun x c h=>a3Q h;refine ⟨fun x y c h1 h2=>I.ok.inj x y c (cl x c h1) (cl y c h2),fun x h=>?_,fun x c h=>⟨I.freeC x c (cl x c h),I.cell x c (cl x c h)⟩,fun i x v e1 e2=>?_,by unfold fU;rw [qE];exact B.len⟩
 ·have hm:=qj h
  obtain ⟨c,e⟩:=I.ok.has x (.inl (B.free _ hm rfl));exact ⟨c,uF hm e⟩
 ·unfold fU at e2
  rw [qW] at e2;cases hc:cap[i]? with
  | none=>rw [hc] at e2;cases e2
  | some o=>
   rw [hc] at e2;cases o with
   | none=>cases e2
   | some j=>
    have e3:(σ[j]?).getD none=some v:=qA e2;have e4:σ[j]?=some (some v):=by
     cases q:σ[j]? with
     | none=>rw [q] at e3;cases e3
     | some w'=>rw [q] at e3;have:w'=some v:=e3;rw [this]
    obtain ⟨y,h1,h2,h3⟩:=B.caps i j hc;rw [e1] at h1;cases h1;have hcell:X.env.kindOf x=some .cell:=B.free _ (qj h3) rfl;obtain ⟨m,_,hl⟩:=I.loc;obtain ⟨u,r,l⟩:=hl j x v h2 e4 (.inr (.inl hcell));rcases l with ⟨k,_⟩ | ⟨_,c,e,z⟩
    ·rw [hcell] at k;cases k
    ·exact ⟨h3,u,c,r,uF (qj h3) e,z⟩
theorem b4E {x q:Str} {L:T0o} {F:Str→Mm j0} {k:Nat} {c T:Addr} {params:Arguments} {body:Expr} {scope:Scope} {lp p pos:Pos} {N':T0o} {cap:T0e} {fe:EF} (T0:ToldOk X.prog X.w X.K X.mg X.base x L F) (hx:q∈dX) (ht:jM X.K q=some (c,T)) (hcode:X.env.code=.ref c)
  (hq:X.env.qual ++ "<lambda>" = lamQ q) (C:jl X.K c T=true) (M:BM X.mg X.base) (hr:Room (k+3) X.A) (B:Blk X scope N' cap) (hnc:∀ y∈scope.names,y.2≠.cell)
  (hbody:∀ (f c:Addr) (cl:T0f) (A:Around) (outer:List Env) (s:Shared) (H:Hp) (E:XK),Room k (A.deeper (a6e (lamQ q) scope s.heap.objs.size f (.ref c) cl))→DE (cxL X.prog X.w X.K X.mg X.base N' (a6e (lamQ q) scope s.heap.objs.size f (.ref c) cl) A outer s H E) body fe)
  (hbind:∀ (pm ct:Value) (c:Addr) (cl:T0f),yy (zy "<lambda>" (lamQ q) params body scope cl pm (.ref c) ct) ⟨[],[]⟩=pure []:=by intros;rfl)
  (hco:scope.isCoroutine=false:=by rfl) (hge:scope.isGenerator=false:=by rfl) (hdef:defaultsOf params X.env=([],[]):=by rfl)
  (he:j4 [.Lambda params body scope lp] X.env=(false,eval (.Lambda params body scope lp) X.env)::j4 [] X.env:=by rfl) (hpl:(k9 pos (j4 [] X.env)).any (·.1)=false:=by rfl) (hg:Gl X x:=by rfl) (hdb:(x==("__debug__" : Str))=false:=by decide) :
  DE X (.Call (.Name x p) [.Lambda params body scope lp] [] pos) (a4m L F cap fe):=⟨fun pins s σ H Q I ⟨ρ,r0,H0,G₀,G,e,R,qq⟩=>by
 unfold a4m at e;split at e
 ·rename_i r er
  obtain ⟨d,ed,rfl⟩:=aZ e;obtain ⟨f,hm,kp,run⟩:=T0.ex;refine v0 (oE I hg hm ?_ hdb);refine zu (h₀:=X.base) I.ok.mod.kin kp ?_ he hpl;rw [he];show wpAny _ _ (spliced ((false,eval (.Lambda params body scope lp) X.env)::k9 pos (j4 [] X.env))) _ _ s;refine Calls.spliced_cons (a4T hx ht hcode hq C M hdef (iO fun p hp hk=>I.ok.has p.1 (.inl (B.free p hp hk))) I R fun fl c' ct pm H2 s2 I2 g2 fo Hf sf hc'=>?_);show wpAny _ _ (spliced []) _ _ s2;refine vZ ⟨I2.kIn,?_⟩;have R2:=R.more g2;have dd:DeedOk X.prog X.w X.K X.mg X.base (k+1) s2 H2 G r fl:=by
   refine ⟨fun s' fs un=>?_,fun A outer s' fs hrA e0 un=>?_⟩
   ·obtain ⟨sl,z⟩:=un.any fo Hf (by simp)
    exact ⟨_,_,_,_,z⟩
   ·obtain ⟨sl,z⟩:=un.any fo Hf (by simp)
    exact b2h hrA e0 z rfl (e0.hok c' _ hc').1 B.kind hco hge hnc (hbind pm ct c' _) (hbody _ _ _ _ _ _ _ _ (hrA.deeper _)) ((b4W B I2).more un) (R2.cap cap) er
  refine uh (wy (run (k+1) X.A X.stack s2 H2 G r d fl hr I2.env0 ⟨R2.sub,R2.tab⟩ dd ed) fun res s' hq=>?_);cases res with
  | error e2=>exact hq.elim
  | ok fl=>
   cases fl with
   | ret u=>
    obtain ⟨v,H',I',rv,G',g',rp⟩:=I2.after hq;exact ⟨v,H',I',rv,qq v G' H' (g2.trans g') rp⟩
   | next=>exact qw hq
   | brk=>exact qw hq
   | cont=>exact qw hq
 ·cases e⟩
end
def a7D (L:T0o) (K:qC):Bool:=match gJ K "SheetError" with
 | some S=>a4i K S&&L.all (a7E K S)&&(L.all fun c=>L.all fun d=>b5C K c d)
 | none=>false
structure ExG (L:T0o) (K:qC):Prop where
 ok:a7D L K=true
section
variable {L:T0o} {K:qC}
theorem ExG.l (F:ExG L K):ExL L K:=⟨by
 have h:=F.ok;unfold a7D at h;unfold b1P;split at h
 ·rename_i S hS
  rw [qM] at h;first | exact h.1 | (rw [hS];exact h.1)
 ·cases h⟩
theorem ExG.one (F:ExG L K) {c:Str} (hc:c∈L):∃ C,gJ K c=some C∧XCls K C∧PySem.W.typeIn K (.ref C)=some (.type "type")∧kZ K (.ref C) (.type "ValueError")=some true:=by
 have h:=F.ok;unfold a7D at h;split at h
 ·rename_i S hS
  rw [qM,qM] at h;have h2:=qk.mp h.1.2 c hc;unfold a7E at h2;split at h2
  ·rename_i C hC
   simp only [qM,beq_iff_eq] at h2;exact ⟨C,hC,a2U h2.1.1.1,h2.1.1.2,h2.1.2⟩
  ·cases h2
 ·cases h
theorem ExG.two (F:ExG L K) {c d:Str} (hc:c∈L) (hd:d∈L) (n:c≠d) {C D:Addr} (eC:gJ K c=some C) (eD:gJ K d=some D):C≠D∧kZ K (.ref C) (.ref D)=some false:=by
 have h:=F.ok;unfold a7D at h;split at h
 ·rw [qM,qM] at h
  have h2:=qk.mp (qk.mp h.2 c hc) d hd;unfold b5C at h2;rw [eC,eD] at h2;rcases Bool.or_eq_true_iff.mp h2 with z | z
  ·exact absurd (beq_iff_eq.mp z) n
  ·simp only [qM,beq_iff_eq,bne_iff_ne] at z
   exact z
 ·cases h
end
section
variable {X:Cx} {pos p p2:Pos} {x:Str} {L:T0o}
def a1G (L:T0o) (i:Nat) (d:Str):EF:=fun ρ=>match ρ[i]? with
 | some (.exc c)=>if L.contains c then some (.ok (.bool (c==d))) else none
 | _=>none
theorem lZ (i:Nat) {d:Str} (F:ExG L X.K) (hm:X.mg "isinstance" = none) (hd':d∈L:=by decide) (hN:X.N[i]?=some x:=by rfl) (hv:Vis X.env.scope x:=by first | exact kC rfl | exact jg (kC rfl) | exact jg (jg rfl)) (hd:(x==("__debug__" : Str))=false:=by decide)
  (hcd:(x==("__classdict__" : Str))=false:=by decide) (hdd:(d==("__debug__" : Str))=false:=by decide)
  (he:j4 [.Name x p,.Name d p2] X.env=(false,eval (.Name x p) X.env)::j4 [.Name d p2] X.env:=by rfl) (he2:j4 [.Name d p2] X.env=(false,eval (.Name d p2) X.env)::j4 [] X.env:=by rfl)
  (hpl:(k9 pos (j4 [.Name d p2] X.env)).any (·.1)=false:=by rfl) (hg:Gl X "isinstance":=by rfl) (hgd:Gl X d:=by rfl) {pi:Pos}:DE X (.Call (.Name "isinstance" pi) [.Name x p,.Name d p2] [] pos) (a1G L i d):=⟨fun pins s σ H Q I ⟨ρ,r,H0,G₀,G,e,R,q⟩=>by
 obtain ⟨D,hD,xD,tD',_⟩:=F.one hd';have hmd:X.mg d=some (.ref D):=zi I.mod.kin I.mod.glob (a3J hD);have hc:eJ X (.builtin "isinstance") (fun xs H Q=>∃ a C c,xs=[.ref a,.ref D]∧c∈L∧gJ X.K c=some C∧H a=some (xcO a C)∧Q (.bl (c==d)) H):=by
  intro pins s σ H xs us Q I r ⟨a,C,c,e1,hcn,hC,hH,q⟩;subst e1;obtain ⟨u,w',rfl,r1,r2⟩:=vals2 r;cases r1;cases r2;obtain ⟨⟨ox,xo⟩,_⟩:=I.hok a _ hH;obtain ⟨C',hC',xC,_⟩:=F.one hcn;rw [hC] at hC';cases hC';by_cases h:c=d
  ·subst h
   rw [hC] at hD;cases hD;refine b8h I.kIn xo (by unfold PySem.W.isIn;simp) ⟨.bl (c==c),H,I,by show je true=je (c==c);simp,q⟩
  ·obtain ⟨n1,n2⟩:=F.two hcn hd' h hC hD
   exact a9F xC xD I.kIn xo n1 tD' n2 ⟨.bl (c==d),H,I.tok _,by show je false=je (c==d);simp [h],q⟩
 refine tN hc hg hm boot_isinstance (dC (hZ hN hv hd hcd) (dC (a7b (v:=.ref D) hgd hmd rfl hdd) gG he2) he) (by decide) (by decide) he hpl pins s σ H Q I ?_;unfold a1G at e;split at e
 ·rename_i c hi
  split at e
  ·rename_i hcn
   cases (qA e);obtain ⟨o,eo,a,C,rfl,hC,hH⟩:=R.at hi;exact ⟨_,eo,a,C,c,rfl,by simpa using hcn,hC,hH,q _ G H (.refl R.sub) (.bool _)⟩
  ·cases e
 ·cases e⟩
def b7o (L:T0o) (i:Nat):EF:=fun ρ=>match ρ[i]? with
 | some (.exc c)=>if L.contains c then some (.ok (.bool true)) else none
 | _=>none
theorem b4G (i:Nat) (F:ExG L X.K) (hm:X.mg "isinstance" = none) (hmV:X.mg "ValueError" = none) (hN:X.N[i]?=some x:=by rfl) (hv:Vis X.env.scope x:=by first | exact kC rfl | exact jg (kC rfl) | exact jg (jg rfl)) (hd:(x==("__debug__" : Str))=false:=by decide)
  (hcd:(x==("__classdict__" : Str))=false:=by decide)
  (he:j4 [.Name x p,.Name "ValueError" p2] X.env=(false,eval (.Name x p) X.env)::j4 [.Name "ValueError" p2] X.env:=by rfl) (he2:j4 [.Name "ValueError" p2] X.env=(false,eval (.Name "ValueError" p2) X.env)::j4 [] X.env:=by rfl)
  (hpl:(k9 pos (j4 [.Name "ValueError" p2] X.env)).any (·.1)=false:=by rfl) (hg:Gl X "isinstance":=by rfl) (hgd:Gl X "ValueError":=by rfl) {pi:Pos}:DE X (.Call (.Name "isinstance" pi) [.Name x p,.Name "ValueError" p2] [] pos) (b7o L i):=⟨fun pins s σ H Q I ⟨ρ,r,H0,G₀,G,e,R,q⟩=>by
 have hc:eJ X (.builtin "isinstance") (fun xs H Q=>∃ a C c,xs=[.ref a,.ty "ValueError"]∧c∈L∧gJ X.K c=some C∧H a=some (xcO a C)∧Q (.bl true) H):=by
  intro pins s σ H xs us Q I r ⟨a,C,c,e1,hcn,hC,hH,q⟩;subst e1;obtain ⟨u,w',rfl,r1,r2⟩:=vals2 r;cases r1;cases r2;obtain ⟨⟨ox,xo⟩,_⟩:=I.hok a _ hH;obtain ⟨C',hC',xC,_,sV⟩:=F.one hcn;rw [hC] at hC';cases hC';exact b5M I.kIn xo b8k sV ⟨.bl true,H,I,rfl,q⟩
 refine tN hc hg hm boot_isinstance (dC (hZ hN hv hd hcd) (dC (a7d (v:=.ty "ValueError") hgd hmV (by decide +kernel) rfl (by decide) (by decide)) gG he2) he) (by decide) (by decide) he hpl pins s σ H Q I ?_;unfold b7o at e;split at e
 ·rename_i c hi
  split at e
  ·rename_i hcn
   cases (qA e);obtain ⟨o,eo,a,C,rfl,hC,hH⟩:=R.at hi;exact ⟨_,eo,a,C,c,rfl,by simpa using hcn,hC,hH,q _ G H (.refl R.sub) (.bool _)⟩
  ·cases e
 ·cases e⟩
def cB:List Str:=["NoBack", "NoMeeting", "NoSheet", "NoText", "NoTime", "NoZone", "Taken", "TooMany"]
end
end L2.L3
namespace L2.L3
open PySem PySem.Spec PyProof.Rows
theorem a5h {α β:Type} {f g:α→Option β}:∀ {l:List α},(∀ x∈l,f x=g x)→l.filterMap f=l.filterMap g
 | [],_=>rfl
 | a::l,h=>by
  rw [kz,kz,h a (by simp),a5h fun x hx=>h x (qD _ hx)]
theorem a1C (its:T0k):slicePick its.toArray none none (some (-1))=its.reverse.toArray:=by
 unfold slicePick yr sliceRange;simp only [Option.getD_some,qI,show ¬((-1:Int) > 0) by decide,if_false];congr 1;have cnt:(if ((its.length:Int) - 1 > -1) then ((its.length:Int) - 1 - -1 - -1 - 1) / - -1 else 0).toNat=its.length:=by
  rw [show - (-1:Int)=1 by decide,Int.ediv_one];split<;>omega
 rw [cnt,vx];have:List.filterMap ((fun x=>its.toArray[x]?)∘fun k:Nat=>((its.length:Int) - 1+-1*(k:Int)).toNat) (qi its.length)=List.filterMap (fun k=>some (its.reverse.getD k .none)) (qi its.length):=by
  refine a5h fun k hk=>?_;have hk:=kr.mp hk;have e:((its.length:Int) - 1+-1*(k:Int)).toNat=its.length - 1 - k:=by omega
  show its.toArray[((its.length:Int) - 1+-1*(k:Int)).toNat]?=_;rw [e,qp,qd,List.getElem?_reverse hk,qK (by omega)];rfl
 rw [this,show (fun k=>some (its.reverse.getD k jH))=some∘fun k=>its.reverse.getD k jH from rfl,←vx,List.filterMap_some];refine jT fun i=>?_;rw [qW];by_cases h:i<its.length
 ·rw [kI h,Option.map_some,qd,qK (by simpa using h)];rfl
 ·rw [qb (by simpa using h),qb (by simpa using h)];rfl
section
variable {X:Cx} {e st:Expr} {te:TE} {ts:TO} {p2 pos:Pos}
def b9V (K:qC):V→Hp→VK→Prop:=fun x H Q=>∃ a xs,x=.ref a∧SqL K H a xs∧∀ p,H p=none→Q (.ref p) (upd H p (.lst xs.reverse))
theorem b6v (he:PE X e te) (hs:PO X (some st) ts):PE X (.Subscript e (.Slice none none (some st) p2) pos) (fun σ H Q=>te σ H fun x H1=>ts σ H1 fun o H2=>o=some (-1)∧b9V X.K x H2 Q):=by
 intro pins s σ H Q I h;refine Subscript_ (thn (he pins s σ H _ I h) fun v s1 ⟨x,H1,I1,r1,q1⟩=>?_);refine wpAny_Slice ?_;rw [evalPart_none];refine j3 ?_;refine j3 ?_;refine thn (hs pins s1 σ H1 _ I1 q1) fun vs s3 ⟨u,H3,I3,pu,hu,a,xs,hx,hq,q⟩=>?_;subst hu hx;cases r1;have I4:Inv X pins σ H3 { s3 with heap:=s3.heap.push { cls:=.type "slice", data:=.fields #[.none,.none,vs] } }:=I3.kept (t':=s3.toks) fun b ob q=>qB _ q;obtain ⟨its,r,ht,hz⟩:=I4.list hq;have hlen:=r.length;show wpAny (model X.prog X.w) X.A (subscriptTail e (.Slice none none (some st) p2) (.ref a) (.ref s3.heap.objs.size)) (EP X pins σ Q) X.xe { s3 with heap:=s3.heap.push { cls:=.type "slice", data:=.fields #[.none,.none,vs] } };refine tail_any (ops:=[.ref a,.ref s3.heap.objs.size]) (T := "list") ht.isList.typeIs slot_list_getitem.lookup ?_ (by with_unfolding_all rfl);refine wpAny_getItem_list_slice ht.isList (Heap.IsSliceOf.new ..) .none .none pu (by decide) ?_ (by rw [qI]<;>omega);rw [a1C];refine ⟨.ref (s3.heap.push { cls:=.type "slice", data:=.fields #[.none,.none,vs] }).objs.size,_,I4.laid (t':=s3.toks) (o:=.lst xs.reverse) (fun b ob q=>qB _ q) (qR _) ?_,rfl,q _ (I4.hok.fresh (qR _))⟩;exact ⟨by rw [List.length_reverse];exact hz,_,0,r.reverse,qJ _ rfl⟩
theorem a0K {K:qC} {G:Hp}:∀ {xs ys:List V} {as bs:T0j},RepAll K G xs as→RepAll K G ys bs→RepAll K G (xs++ys) (as++bs)
 | _,_,_,_,.nil,h=>h
 | _,_,_,_,.cons r t,h=>.cons r (a0K t h)
theorem a0J {K:qC} {G:Hp}:∀ {xs:List V} {ds:T0j},RepAll K G xs ds→RepAll K G xs.reverse ds.reverse
 | _,_,.nil=>.nil
 | _,_,.cons r t=>by
  rw [jd,jd];exact a0K (a0J t) (.cons r .nil)
theorem b2j {a:Expr} {fa:EF} {j:Nat} {q1 q2:Pos} (ha:DE X a fa):DE X (.Subscript a (.Slice none none (some (.UnaryOp .USub (.Constant (.int 1) j q1) q2)) p2) pos) (op1 b0w fa):=⟨fun pins s σ H Q I ⟨ρ,r,H0,G₀,G,e,R,q⟩=>
 b6v ha.run (a7Q (pM (aJ (i:=1)))).run pins s σ H Q I (bE R e q.x fun x v G1 H1 g1 R1 rv e1=>by
  obtain ⟨d,ed,rfl⟩:=aZ e1;unfold b0w at ed;split at ed
  ·cases (qA ed)
   refine ⟨ρ,.ok (some (-1)),H0,G₀,G1,rfl,R1,?_⟩;intro G2 H2 g2;cases rv with
   | list hq r=>
    refine ⟨rfl,_,_,rfl,(g2.gg.trans g2.sub).seq hq,fun l hl=>q _ _ _ ((g1.trans g2).trans (.put g2.sub hl)) ?_⟩;exact .list (.of aL) (a0J (r.mono (g2.gg.trans (bD (g2.sub.free hl)))))
  ·cases ed)⟩
end
end L2.L3
namespace L2
open PySem PySem.Spec PyProof.Rows
section
variable (P:Program) (w:World)
end
section
variable {P:Program} {w:World} {H H':Hp} {h h':Heap} {a:Addr} {o:HO}
end
section
variable {P:Program} {w:World} {H:Hp} {h h':Heap} {x e:Addr} {o':HO}
end
section
variable {fs fs' ex ex':T0m} {H H1 H2:Hp} {h h1 h2 h':Heap} {a x e:Addr} {o:HO}
end
section
variable {X:Cx} {pins:T0b} {σ:List (Option V)} {H H':Hp} {s:Shared} {h':Heap}
end
section
variable {X:Cx}
variable {a b:Expr} {ta tb:TE} {pos:Pos}
variable {tA tB':TT} {rest:T0l}
end
section
variable {X:Cx} {pins:T0b} {σ:St} {H:Hp} {s:Shared} {a:Addr} {xs ys:List V}
end
section
variable {X:Cx} {pins:T0b} {σ:St} {H:Hp} {s:Shared} {E:T0a}
end
section
variable {X:Cx} {st:Stmt} {rest:List Stmt} {t u:TS} {e:Expr} {te:TE} {pos:Pos}
end
section
variable {X:Cx} {pos:Pos}
end
section
variable {X:Cx} {pos:Pos}
end
section
variable {X:Cx} {tg:Expr}
end
section
variable {X:Cx} {a b c:Expr} {ta tb tc:TE} {pos:Pos}
end
section
variable {X:Cx} {a b c:Expr} {ta tb tc:TE} {pos:Pos}
end
section
variable {prog:Program} {w:World} {A:Around} {E:T0a} {s:Shared} {K:qC} {x dx C f:Addr} {mA:T0d} {name:Str} {v:Value}
end
section
variable {P:Program} {w:World} {H H':Hp} {h h':Heap} {a C dx:Addr} {fs fs':List (Str×V)}
end
section
variable {X:Cx} {pins:T0b} {σ:St} {H:Hp} {s:Shared} {a C dx:Addr} {fs:List (Str×V)} {f:Str} {v:V} {A:Around} {E:T0a}
end
section
variable {X:Cx} {o e value:Expr} {f:Str} {pos pos' tpos:Pos} {ta tv:TE}
end
section
variable {X:Cx} {pins:T0b} {σ:St} {H:Hp} {s:Shared} {A:Around} {E:T0a} {Q:T0a} {c:Value} {b:Bool}
end
section
variable {X:Cx} {e:Expr} {es:T0l} {te:TE} {t:TA} {pos:Pos}
end
section
variable {X:Cx} {pins:T0b} {σ:St} {H:Hp} {s s':Shared}
end
section
variable {X:Cx} {CX:CXT} {k:Nat} {f C:Addr} {fd:w5} {ps:T0o} {sp:Sp} {dvs:List V} {ds:T0k} {E:XK} {x m:Str} {p pos apos:Pos} {e o:Expr} {es:T0l} {ta:TE} {t:TA}
end
section
variable {X:Cx} {CX:CXT} {k:Nat} {f C:Addr} {fd:w5} {ps ks:T0o} {sp:Sp} {E:XK} {x m:Str} {p pos apos kpos:Pos} {e o:Expr} {es:T0l} {kws:List Keyword} {te ta:TE} {t tk:TA} {nm:Option Str}
variable {g:List Value→List Value→List Value} {gV:List V→List V→List V}
end
section
variable {X:Cx} {x:Str} {p pos:Pos} {e:Expr} {es:T0l} {t:TA} {id T:String} {r:List V→Hp→VK→Prop}
end
section
variable {κ:Type} [DecidableEq κ]
end
section
variable {P:Program} {w:World} {H:Hp} {h:Heap} {a:Addr}
end
section
variable {X:Cx} {pins:T0b} {σ:St} {H:Hp} {s:Shared} {a:Addr} {y v:V} {u r:Value} {o:Option V} {A:Around} {E:T0a}
end
section
variable {X:Cx} {pins:T0b} {σ:St} {H:Hp} {s:Shared} {a:Addr} {kvs:List (Key×V)} {k:Key} {u:Value} {A:Around} {E:T0a}
end
section
variable {X:Cx} {o i e value:Expr} {pos pos' tpos:Pos} {td ty tv:TE}
end
section
variable {X:Cx} {pos:Pos}
end
section
variable {X:Cx} {pins:T0b} {σ:St} {H:Hp} {s:Shared} {a:Addr} {y d:V} {u r:Value} {o:Option V} {A:Around} {E:T0a}
end
section
variable {X:Cx} {o e f:Expr} {apos cpos:Pos} {td ty tx:TE}
end
section
variable {X:Cx} {pins:T0b} {σ:St} {H:Hp} {s:Shared} {a:Addr} {kvs:List (Key×V)} {A:Around} {E:T0a}
end
section
variable {X:Cx} {pins:T0b} {σ:St} {H:Hp} {s:Shared} {a:Addr} {y:V} {u:Value} {A:Around} {E:T0a}
end
end L2
namespace Att
open PySem PySem.W PySem.Calls PyProof.Rows
section
variable {prog:Program} {w:World} {A:Around} {E:T0a} {s:Shared} {K:Frag}
end
end Att
namespace L2
open PySem PySem.Spec PyProof.Rows
section
variable {P:Program} {w:World} {K:qC} {mg:T0d} {base:Heap}
end
section
variable {X:Cx}
end
section
variable {κ:Type} [DecidableEq κ]
end
end L2
namespace L2.L3
open PySem PySem.Spec PyProof.Rows
def a3r (i:Nat) (fa fb:EF):SF:=fun ρ=>match fa (frzAll ρ),fb (frzAll ρ) with
 | some (.ok (.list a)),some (.ok (.list b))=>if (a++b).all xB&&dO (a.length+b.length) then some (.nx (ρ.set i (.lst (a++b)))) else none
 | _,_=>none
section
variable {X:Cx} {e a b:Expr} {fa fb:EF} {pos p p2 p3:Pos}
theorem a2J (i:Nat) {x:Str} (hN:X.N.Nodup) (ha:DE X a fa) (hb:DE X b fb)
  (hi:X.N[i]?=some x:=by rfl) (hx:Loc X.env.scope x:=by first | exact kC rfl | exact jg rfl)
  (hs:wz (.BinOp a .Add b p2) (some (.Name x p)) pos.line X.env=pure false:=by rfl) (hf:X.fn x=true∨X.env.scope.names.lookup x=some .local:=by first | exact .inl rfl | exact .inr rfl) :
  DS X (.Assign [.Name x p] (.BinOp a .Add b p2) pos) (a3r i fa fb):=⟨fun pins s σ H D I ⟨ρ,o,H0,G₀,G,ef,R,q⟩=>a3j hN hi hx (b5r a7f ha.run hb.run) hs hf pins s σ H D I (by
 unfold a3r at ef;split at ef
 ·rename_i da db ea eb
  split at ef
  ·rename_i hz
   rw [qM] at hz;cases (qA ef);obtain ⟨G',s',R'⟩:=R.frzAll;refine ⟨_,_,H0,G₀,G',ea,R',fun v G1 H1 g1 rv=>⟨_,_,H0,G₀,G1,eb,R'.more g1,fun u G2 H2 g2 ru=>?_⟩⟩;have gt:=g1.trans g2;have rv2:=rv.mono g2.gg;have g0:Grow G H G H2:=⟨.refl _,gt.hh,s'.trans (gt.gg.trans gt.sub),fun _ z _=>z,id⟩;cases rv2 with
   | list h1 r1=>cases ru with
    | list h2 r2=>
     exact ⟨_,_,_,_,rfl,rfl,g2.sub.seq h1,g2.sub.seq h2,by rw [r1.length,r2.length];exact iC hz.2,fun l hl=>q G _ _ (.refl _) ((R.more g0).fresh hl (RepAll.plain hz.1 (r1.append r2)))⟩
  ·cases ef
 ·cases ef)⟩
end
section
variable {X:Cx} {a e kx o f:Expr} {fa fk fv fd fx:EF} {pos p p2:Pos}
end
section
variable {X:Cx} {o e f:Expr} {fd fk fx:EF} {ap cp:Pos}
end
def blD:j0→Option Bool
 | .bool b=>some b
 | _=>none
theorem b2D {d:j0} {b:Bool} (h:blD d=some b):d=.bool b:=by
 unfold blD at h;split at h
 ·cases h;rfl
 ·cases h
def b7P (x y:j0):Option j0:=match x,y with
 | .list xs,.int k=>(match eT intD xs with | some ns=>some (.int (ns.count k:Nat)) | none=>none)
 | .list xs,.bool c=>(match eT blD xs with | some bs=>some (.int (bs.count c:Nat)) | none=>none)
 | _,_=>none
def b7t (x y:j0):Option j0:=match x,y with
 | .list xs,.bool c=>(match eT blD xs with | some bs=>if c∈bs then some (.int (bs.idxOf c:Nat)) else none | none=>none)
 | _,_=>none
theorem rZ:∀ {bs:List Bool} {us:T0k},aY (bs.map V.bl) us→us=bs.map je
 | [],_,.nil=>rfl
 | b::bs,_,.cons r t=>by cases r;rw [qU,rZ t]
theorem a1t (k:Int):∀ {us:T0k} {ns:T0q},aY (ns.map V.int) us→us.countP (isInt k)=ns.count k
 | _,[],.nil=>rfl
 | _,n::ns,.cons ⟨t,e⟩ r=>by
  subst e;rw [List.countP_cons,List.count_cons,a1t k r];rfl
section
variable {X:Cx} {o e:Expr} {fo fa:EF} {apos cpos:Pos}
theorem a8D:MtM X "list.count" (fun x vs H Q=>∃ (p:Addr) (ns:T0q) (k:Int),x=.ref p∧vs=[.int k]∧SqL X.K H p (ns.map V.int)∧Q (.int (ns.count k:Nat)) H):=by
 intro pins s σ H x vs v us Q I rx rv ⟨p,ns,k,e1,e2,hq,q⟩;subst e1 e2;cases rx;obtain ⟨u,rfl,t,rfl⟩:=rv.one;obtain ⟨its,r1,p1,hz⟩:=I.list hq;obtain ⟨⟨c1,d1,t1,sl1⟩,n1,g1,k1,_,m1⟩:=p1;dsimp only at k1 m1;subst k1 m1;have hi:=intsAre_of r1;refine QD vX ⟨_,g1,rfl⟩ F.entry_list_count (F.args_list_count_2 _ _)
  (SeqAt.list_countAt p its.toArray n1 d1 sl1 (.int k t) (isInt k)) ⟨g1,fun y hy=>(eq_isInt k t hi y (by simpa using hy)).at _ _,⟨.int _,H,I.tok _,⟨_,rfl⟩,?_⟩⟩
 have:(its.toArray.toList.countP (isInt k):Nat)=ns.count k:=by simpa using a1t k r1
 rw [this];exact q
def b1w (c:Bool):Value→Bool
 | .bool b=>b==c
 | _=>false
theorem a8E:MtM X "list.count" (fun x vs H Q=>∃ (p:Addr) (bs:List Bool) (c:Bool),x=.ref p∧vs=[.bl c]∧SqL X.K H p (bs.map V.bl)∧Q (.int (bs.count c:Nat)) H):=by
 intro pins s σ H x vs v us Q I rx rv ⟨p,bs,c,e1,e2,hq,q⟩;subst e1 e2;cases rx;obtain ⟨u,rfl,rfl⟩:=rv.one;obtain ⟨its,r1,p1,hz⟩:=I.list hq;obtain ⟨⟨c1,d1,t1,sl1⟩,n1,g1,k1,_,m1⟩:=p1;dsimp only at k1 m1;subst k1 m1;have hi:=rZ r1;subst hi;refine QD vX ⟨_,g1,rfl⟩ F.entry_list_count (F.args_list_count_2 _ _)
  (SeqAt.list_countAt p (bs.map je).toArray n1 d1 sl1 (.bool c) (b1w c)) ⟨g1,fun y hy=>?_,⟨.int _,H,I.tok _,⟨_,rfl⟩,?_⟩⟩
 ·obtain ⟨b,_,rfl⟩:=qH.mp (show y∈bs.map je by simpa using hy)
  exact wC b c
 ·have:((bs.map je).toArray.toList.countP (b1w c):Nat)=bs.count c:=by
   rw [List.countP_map];rfl
  rw [this];exact q
theorem a8C:MtM X "list.index" (fun x vs H Q=>∃ (p:Addr) (bs:List Bool) (c:Bool),x=.ref p∧vs=[.bl c]∧SqL X.K H p (bs.map V.bl)∧c∈bs∧Q (.int (bs.idxOf c:Nat)) H):=by
 intro pins s σ H x vs v us Q I rx rv ⟨p,bs,c,e1,e2,hq,hc,q⟩;subst e1 e2;cases rx;obtain ⟨u,rfl,rfl⟩:=rv.one;obtain ⟨its,r1,p1,hz⟩:=I.list hq;obtain ⟨⟨c1,d1,t1,sl1⟩,n1,g1,k1,_,m1⟩:=p1;dsimp only at k1 m1;subst k1 m1;have hi:=rZ r1;subst hi;have lt:bs.idxOf c<bs.length:=List.idxOf_lt_length_iff.mpr hc;rw [qE] at hz;have hz2:(j5:Nat)<2 ^ 62:=by rw [wo];decide
 refine QD F.slot_list_index ⟨_,g1,rfl⟩ F.entry_list_index (F.args_list_index_2 _ _)
  (SeqAt.list_indexAt p (bs.map je).toArray n1 d1 sl1 (.bool c) (b1w c) (bs.idxOf c) (by simpa using lt) (by omega) ?_ ?_) ⟨g1,fun y hy=>?_,⟨.int _,H,I.tok _,⟨_,rfl⟩,q⟩⟩
 ·have:=List.getElem_idxOf lt
  simpa [b1w] using this
 ·intro j hjs hlt
  have h1:j<bs.length:=by simpa using hjs
  have:=List.not_of_lt_findIdx (p:=(·==c)) (xs:=bs) hlt;simpa [b1w] using this
 ·obtain ⟨b,_,rfl⟩:=qH.mp (show y∈bs.map je by simpa using hy)
  exact wC b c
theorem b2m (ho:DE X o fo) (ha:DE X e fa)
  (hbase:ye o "count" X.env (eval o X.env)=eval o X.env:=by rfl)
  (hfew:((k9 cpos (j4 (e::[]) X.env)).all (fun x=>!x.1)&&(yo cpos (wu [] X.env)).all (fun x=>x.1.isSome)&&decide ((e::[]).length+([]:List Keyword).length+(if ([]:List Keyword).isEmpty then 0 else 1)<30))=true:=by rfl)
  (hline:(apos.endLine==cpos.line)=true:=by rfl) (hst:j4 (e::[]) X.env=(false,eval e X.env)::j4 [] X.env:=by rfl) (hplain:(k9 cpos (j4 [] X.env)).any (·.1)=false:=by rfl) :
  DE X (.Call (.Attribute o "count" apos) [e] [] cpos) (dfE b7P fo fa):=yS fun ρ r h=>by
 unfold dfE at h;split at h
 ·rename_i x y ea eb
  obtain ⟨d,ed,rfl⟩:=aZ h;refine ⟨d,rfl,?_⟩;unfold b7P at ed;split at ed
  ·rename_i xs k
   split at ed
   ·rename_i ns ei
    have hx:=cO (g:=jY) (fun d a q=>gS q) ei;subst hx;cases (qA ed)
    exact b0Q F.plainAttrs_list vX F.type_list_count a8D (ho.pd ea) (eN (ha.pd eb) lR hst) (fun x G H s r=>by cases r with | list hq _=>exact .inl ⟨rfl,_,s.seq hq⟩) (fun x vs G H Q s r rs q=>by
     cases r with
     | list hq ra=>
      have e:=ra.ints;subst e;cases rs with
      | cons r1 r2=>cases r1;cases r2;exact ⟨_,ns,k,rfl,rfl,s.seq hq,q _ G H (.refl s) (.int _)⟩) hbase hfew hline hst hplain
   ·cases ed
  ·rename_i xs c
   split at ed
   ·rename_i bs ei
    have hx:=cO (g:=j0.bool) (fun d a q=>b2D q) ei;subst hx;cases (qA ed)
    exact b0Q F.plainAttrs_list vX F.type_list_count a8E (ho.pd ea) (eN (ha.pd eb) lR hst) (fun x G H s r=>by cases r with | list hq _=>exact .inl ⟨rfl,_,s.seq hq⟩) (fun x vs G H Q s r rs q=>by
     cases r with
     | list hq ra=>
      have e:=ra.bools;subst e;cases rs with
      | cons r1 r2=>cases r1;cases r2;exact ⟨_,bs,c,rfl,rfl,s.seq hq,q _ G H (.refl s) (.int _)⟩) hbase hfew hline hst hplain
   ·cases ed
  ·cases ed
 ·cases h
theorem a9e (ho:DE X o fo) (ha:DE X e fa)
  (hbase:ye o "index" X.env (eval o X.env)=eval o X.env:=by rfl)
  (hfew:((k9 cpos (j4 (e::[]) X.env)).all (fun x=>!x.1)&&(yo cpos (wu [] X.env)).all (fun x=>x.1.isSome)&&decide ((e::[]).length+([]:List Keyword).length+(if ([]:List Keyword).isEmpty then 0 else 1)<30))=true:=by rfl)
  (hline:(apos.endLine==cpos.line)=true:=by rfl) (hst:j4 (e::[]) X.env=(false,eval e X.env)::j4 [] X.env:=by rfl) (hplain:(k9 cpos (j4 [] X.env)).any (·.1)=false:=by rfl) :
  DE X (.Call (.Attribute o "index" apos) [e] [] cpos) (dfE b7t fo fa):=yS fun ρ r h=>by
 unfold dfE at h;split at h
 ·rename_i x y ea eb
  obtain ⟨d,ed,rfl⟩:=aZ h;refine ⟨d,rfl,?_⟩;unfold b7t at ed;split at ed
  ·rename_i xs c
   split at ed
   ·rename_i bs ei
    split at ed
    ·rename_i hk
     have hx:=cO (g:=j0.bool) (fun d a q=>b2D q) ei;subst hx;cases (qA ed)
     exact b0Q F.plainAttrs_list F.slot_list_index F.type_list_index a8C (ho.pd ea) (eN (ha.pd eb) lR hst) (fun x G H s r=>by cases r with | list hq _=>exact .inl ⟨rfl,_,s.seq hq⟩) (fun x vs G H Q s r rs q=>by
      cases r with
      | list hq ra=>
       have e:=ra.bools;subst e;cases rs with
       | cons r1 r2=>cases r1;cases r2;exact ⟨_,bs,c,rfl,rfl,s.seq hq,hk,q _ G H (.refl s) (.int _)⟩) hbase hfew hline hst hplain
    ·cases ed
   ·cases ed
  ·cases ed
 ·cases h
end
section
variable {X:Cx} {b:Expr} {fb:EF} {p pos:Pos}
end
section
variable {X:Cx} {a b e kx o f:Expr} {fa fk fv fd fx:EF} {pos p p2 p3 ap cp:Pos}
end
def yN:j0→Bool
 | .none=>true
 | .bool _=>true
 | .int _=>true
 | .str _=>true
 | _=>false
def a6g (d:j0):Bool:=(a9g d).isSome
def oK (Db:List (j0×j0)):List (j0×j0)→Bool
 | []=>true
 | p::r=>match wN p.1 Db with
  | none=>false
  | some u=>p.2.eqv u&&oK Db r
def b4t (x y:j0):Option Bool:=match x,y with
 | .dict Da,.dict Db=>if (Da.all fun p=>a6g p.1&&yN p.2)&&(Db.all fun p=>a6g p.1&&yN p.2) then some (decide (Da.length=Db.length)&&oK Db Da) else none
 | _,_=>none
def b3L (x y:j0):Option Bool:=(b4t x y).map (!·)
theorem a2E (Db:List (j0×j0)):∀ Da,PySem.W.KeqRows Db Da (oK Db Da)
 | []=>.nil
 | (k,v)::r=>by
  unfold oK;cases h:wN k Db with
  | none=>exact .miss h
  | some u=>exact .hit h (a2E Db r)
theorem b4r {K:qC} {G:Hp} {v:V} {d:j0} {u:Value} (hf:yN d=true) (r:Rep K G v d) (ru:RelV v u):PyProof.V.Flat u d:=by
 cases r with
 | none=>cases ru;exact fun h=>.none
 | bool b=>cases ru;exact fun h=>.bool b
 | int i=>obtain ⟨t,rfl⟩:=ru;exact fun h=>.int i t
 | str x=>obtain ⟨t,rfl⟩:=ru;exact fun h=>.str x t
 | list _ _=>cases hf
 | tuple _ _=>cases hf
 | dict _ _ _=>cases hf
theorem a6q {K:qC} {G:Hp} {kvs:List (Key×V)} {vs:List (Key×Value)} (p:KV kvs vs):∀ {D:List (j0×j0)},D.map (·.1)=kvs.map (fun p=>dU p.1)→RepAll K G (kvs.map (·.2)) (D.map (·.2))→(D.all fun p=>a6g p.1&&yN p.2)=true→PyProof.V.FlatPairs dU vs D:=by
 unfold KV at p
 induction p with
 | nil=>
  intro D h _ _;cases D with
  | nil=>exact .nil
  | cons _ _=>cases h
 | @cons a b _ _ h1 t ih=>
  intro D h r f;cases D with
  | nil=>cases h
  | cons d D=>
   rw [qU,qU,List.cons.injEq] at h;rw [zL,qM,qM] at f;rw [qU,qU] at r;cases r with
   | cons r1 rr=>
    obtain ⟨k,v⟩:=a;obtain ⟨k',u⟩:=b;obtain ⟨d1,d2⟩:=d;have e1:d1=dU k:=h.1;have e2:k=k':=h1.1;subst e1 e2;exact .cons (b4r f.1.2 r1 h1.2) (ih h.2 rr f.2)
theorem a1Y (a b:Key):Spec.same (dU a) (dU b)=decide (a=b):=by
 cases a<;>cases b<;>simp [dU,Spec.same]<;>(rw [ju];simp)
section
variable {X:Cx}
def b9W (K:qC) (neg:Bool) (Da Db:List (j0×j0)):R2:=fun x y H Q=>∃ a b ka kb,x=.ref a∧y=.ref b∧H a=some (.dK ka)∧H b=some (.dK kb)∧(Da.map (·.1)=ka.map (fun p=>dU p.1)∧RepAll K H (ka.map (·.2)) (Da.map (·.2))∧(Da.all fun p=>a6g p.1&&yN p.2)=true) ∧
 (Db.map (·.1)=kb.map (fun p=>dU p.1)∧RepAll K H (kb.map (·.2)) (Db.map (·.2))∧(Db.all fun p=>a6g p.1&&yN p.2)=true)∧Q (.bl (if neg then !(decide (Da.length=Db.length)&&oK Db Da) else decide (Da.length=Db.length)&&oK Db Da)) H
theorem a9X {pins:T0b} {s:Shared} {σ:St} {H:Hp} {a:Addr} {ka:List (Key×V)} {D:List (j0×j0)} (I:Inv X pins σ H s) (h:H a=some (.dK ka)) (e:D.map (·.1)=ka.map (fun p=>dU p.1)) (r:RepAll X.K H (ka.map (·.2)) (D.map (·.2))) (f:(D.all fun p=>a6g p.1&&yN p.2)=true):TabAt (gQ X.prog X.w) dU s.heap a D:=by
 obtain ⟨hz,hS,vs,kv,dd⟩:=(show cW X.prog X.w H s.heap a (.dK ka) from I.hok a _ h);exact ⟨hS,vs,dd,a6q kv e r f⟩
theorem b6D (hu:X.A.units+64<cLine) (Da Db:List (j0×j0)):OpR X (wp .NotEq) (b9W X.K true Da Db):=by
 intro pins s σ H x y v u Q I rx ry ⟨a,b,ka,kb,ex,ey,ha,hb,⟨a1,a2,a3⟩,⟨b1,b2,b3⟩,q⟩;subst ex ey;cases rx;cases ry;have ta:=a9X I ha a1 a2 a3;have tb:=a9X I hb b1 b2 b3;by_cases c:Da.length=Db.length
 ·exact PySem.W.kne_tabs a1Y ta tb c (by omega) (a2E Db Da) ⟨.bl (!oK Db Da),H,I,rfl,by rw [decide_eq_true c,Bool.true_and] at q;exact q⟩
 ·exact PySem.W.kne_tabs_len ta tb (by simpa using c) (by omega) ⟨.bl true,H,I,rfl,by rw [decide_eq_false c,Bool.false_and] at q;exact q⟩
theorem b6U (hu:X.A.units+64<cLine) (x y:j0) (t:Bool) (h:b3L x y=some t):CmpD X .NotEq x y t:=by
 unfold b3L at h;obtain ⟨t',h',et⟩:=qO.mp h
 clear h
 subst et;unfold b4t at h';split at h'
 ·rename_i Da Db
  split at h'
  ·rename_i hz
   rw [qM] at hz;cases (qA h')
   exact ⟨_,b6D hu Da Db,fun x y G H Q s rx ry q=>by
    cases rx with
    | dict h1 e1 r1=>
     cases ry with
     | dict h2 e2 r2=>exact ⟨_,_,_,_,rfl,rfl,s _ _ h1,s _ _ h2,⟨e1,r1.mono s,hz.1⟩,⟨e2,r2.mono s,hz.2⟩,q⟩⟩
  ·cases h'
 ·cases h'
end
end L2.L3
namespace HT
open PySem PySem.Spec PyProof.Rows
section
variable {prog:Program} {w:World} {A:Around} {E:T0a} {s:Shared}
end
end HT
namespace L2
open PySem PySem.Spec PyProof.Rows
end L2
namespace L2.L3
open PySem PySem.Spec PyProof.Rows
section
variable {X:Cx} {a:Expr} {lo hi:Option Expr} {fa:EF} {fl fh:OF} {pos p2:Pos}
end
def a1K:SF:=(bC (a2B (fV aR (aC (var 1) (aC (var 2) aH)))) (retS (fY (aC (var 0) (aC (var 1) (aC (var 2) aH))))))
def dH:List j0→Mm j0:=pB 3 3 a1K
abbrev eF:EF:=a6y (.tp [0,1,2]) [none,none,none,some 1] (dQ (var 0)) ttT (fV dH (aC (var 0) (aC (fV gZ (aC (op1 pD (var 2)) (aC (var 3) aH))) (aC (fV gZ (aC (op1 pD (var 1)) (aC (var 3) aH))) aH))))
def yZ:SF:=(retS (fC yV (aC eF aH)))
def dF:List j0→Mm j0:=pB 2 2 yZ
abbrev a5I:TF:=thT (orT (dL neD (dfE b7P (var 1) (cst (.bool true))) (cst (.int 1))) (a4C (uS (b7o cB 0))))
def a8Z:SF:=(bC (a3q 1 (aC (a1G cB 0 "NoBack") (aC (a1G cB 0 "NoMeeting") (aC (a1G cB 0 "NoSheet") aH)))) (bC (b7z 1 (tS (aC (a1G cB 0 "NoText") aH))) (a1f 1 (bC (a3r 1 (var 1) (tS (aC (a1G cB 0 "NoTime") (aC (a1G cB 0 "NoZone") (aC (a1G cB 0 "Taken") aH))))) (a1f 1 (bC (a3r 1 (var 1) (tS (aC (a1G cB 0 "TooMany") aH))) (bC (ifS a5I (retS (cst (.str "wrong"))) mL) (bC (iG 2 (tS (aC (cst (.str "no back")) (aC (cst (.str "no meeting")) (aC (cst (.str "no sheet")) (aC (cst (.str "no text")) (aC (cst (.str "no time")) (aC (cst (.str "no zone")) (aC (cst (.str "taken")) (aC (cst (.str "too many")) aH)))))))))) (a1f 1 (retS (op2 ixD (var 2) (dfE b7t (var 1) (cst (.bool true))))))))))))))
def gN:Str→Mm j0:=b6j 3 a8Z
abbrev iW:EF:=cN (.tp [0,1,2]) [none,none,none,some 1] (dQ (var 0)) ttT (fY (aC (var 0) (aC (op2 cY (var 1) (var 3)) (aC (op2 cY (var 2) (var 3)) aH))))
def a1L:SF:=(retS iW)
def gX:List j0→Mm j0:=dB 2 2 a1L
abbrev lU:EF:=a6y (.tp [0,1,2]) [none,none,none,some 1] (dQ (var 0)) ttT (fV dH (aC (var 0) (aC (fV gZ (aC (var 1) (aC (var 3) aH))) (aC (fV gZ (aC (var 2) (aC (var 3) aH))) aH))))
def a6r:SF:=(retS (fC yV (aC lU aH)))
def lG:List j0→Mm j0:=pB 2 2 a6r
abbrev yL:EF:=cN (.tp [0,1,2]) [none,none,none] (dQ (var 0)) ttT (op2 tH (var 2) (var 1))
def sR:SF:=(retS (fC b2R (aC yL aH)))
def lF:List j0→Mm j0:=dB 1 1 sR
abbrev sN:EF:=cN (.tp [0,1,2]) [none,none,none,some 1] (dQ (var 0)) ttT (fY (aC (var 0) (aC (op2 tH (var 3) (var 2)) (aC (op2 tH (var 3) (var 1)) aH))))
def a9a:SF:=(retS sN)
def rM:List j0→Mm j0:=dB 2 2 a9a
abbrev a6i:EF:=cN (.tp [0,1,2]) [none,none,none] (dQ (var 1)) ttT (var 2)
abbrev a6f:EF:=fV lG (aC (var 1) (aC (var 0) aH))
abbrev b7i:EF:=cN (.tp [0,1,2]) [none,none,none] (dQ (var 5)) (orT (dL ltD (var 1) (cst (.int 0))) (dL gtD (var 2) (cst (.int 480)))) (cst (.int 1))
abbrev b0g:TF:=dL neD b7i (tS aH)
abbrev b0f:TF:=orT (dL neD (var 4) (var 5)) (orT (dL neD (fV lG (aC (var 4) (aC (op2 tH (cst (.int 0)) (var 2)) aH))) (var 1)) (dL neD (aP lF (aC (var 4) aH)) (aP lF (aC (var 1) aH))))
abbrev b0e:TF:=orT (dL b3L (aP nF (aC (var 4) aH)) (aP nF (aC (var 1) aH))) (orT (dL neD (aP lI (aC (var 4) aH)) (aP lI (aC (var 1) aH))) (dL neD (aP cQ (aC (var 4) aH)) (aP cQ (aC (var 1) aH))))
abbrev b1q:EF:=cN (.tp [0,1]) [none,none,some 2] (dQ (aP a1A (aC (var 1) aH))) ttT (fY (aC (op2 cY (var 0) (var 2)) (aC (op2 cY (var 1) (var 2)) aH)))
abbrev b0d:TF:=dL neD (aP a1A (aC (var 4) aH)) b1q
abbrev b0c:TF:=dL gtD (var 3) (cst (.int 480))
abbrev b0b:TF:=orT (dL neD (var 6) (fC yV (aC (aP rM (aC (var 1) (aC (var 3) aH))) aH))) (dL neD (fV dF (aC (var 6) (aC (var 3) aH))) (var 1))
abbrev a5H:TF:=dL neD (aP dI (aC (var 6) (aC (var 8) aH))) (aP dI (aC (var 1) (aC (op2 tH (op2 tH (var 3) (cst (.int 1))) (var 8)) aH)))
abbrev b2F:SF:=bC (iG 8 (aP bR (aC (var 0) (aC (op2 cY (cst (.int 210)) (var 7)) (aC (op2 cY (var 3) (cst (.int 1))) aH))))) (ifS a5H (retS (cst (.bool false))) mL)
abbrev a6h:EF:=cN (.tp [0,1,2]) [none,none,none,some 3] (dQ (aP mB (aC (var 1) aH))) ttT (fY (aC (op2 tH (var 3) (var 1)) (aC (op2 tH (var 3) (var 0)) (aC (var 2) aH))))
abbrev b0a:TF:=dL neD (aP mB (aC (var 6) aH)) (op1 b0w a6h)
abbrev a9Z:TF:=orT (dL neD (aP lI (aC (var 6) aH)) (op1 b0w (aP lI (aC (var 1) aH)))) (dL neD (aP eB (aC (var 6) aH)) (aP eB (aC (var 1) aH)))
def b1O:SF:=(bC (a7X (.tp [1,2]) (fY (aC (aP nD (aC (var 0) (aC (cst (.int 0)) (aC (cst (.int 7)) aH)))) (aC (op2 tH (aP bR (aC (var 0) (aC (cst (.int 200)) (aC (cst (.int 161)) aH)))) (cst (.int 40))) aH)))) (bC (iG 3 (op2 cY (fC a4L (aC (op2 cY (tS (aC (cst (.int 0)) aH)) a6i) aH)) (aP bR (aC (var 0) (aC (cst (.int 201)) (aC (cst (.int 40)) aH)))))) (bC (a7X (.tp [4,5]) (fY (aC (a4m cB gN [some 2,some 1] a6f) (aC (fC yV (aC (aP gX (aC (var 1) (aC (var 2) aH))) aH)) aH)))) (bC (ifS b0g (retS (a3P eqD (var 4) (cst (.str "no time")))) mL) (bC (ifS b0f (retS (cst (.bool false))) mL) (bC (ifS b0e (retS (cst (.bool false))) mL) (bC (ifS b0d (retS (cst (.bool false))) mL) (bC (ifS b0c (retS (cst (.bool true))) mL) (bC (iG 6 (fV dF (aC (var 1) (aC (var 3) aH)))) (bC (ifS b0b (retS (cst (.bool false))) mL) (bC (a1J (.nm 7) (a3g (cst (.int 6))) b2F) (bC (ifS b0a (retS (cst (.bool false))) mL) (bC (ifS a9Z (retS (cst (.bool false))) mL) (bC (iG 9 (fC xI (aC (aP cQ (aC (var 1) aH)) aH))) (retS (a6I (a3P eqD (fC xI (aC (aP cQ (aC (var 6) aH)) aH)) (var 9)) (a3P eqD (fC xI (aC (aP dA (aC (var 6) aH)) aH)) (var 9))))))))))))))))))
def F_law:List j0→Mm j0:=dB 10 1 b1O
theorem a2G (x:Str) (b e:Int):dH [.str x,.int b,.int e]=some (if tmB b e=true then .ok (dM (x,b,e)) else .ex "NoTime"):=by
 by_cases h:tmB b e=true
 ·rw [if_pos h]
  refine a6Y rfl ?_;show bC (a2B (fV aR (aC (var 1) (aC (var 2) aH)))) _ [.val (.str x),.val (.int b),.val (.int e)]=_
  rw [aT (ρ':=[.val (.str x),.val (.int b),.val (.int e)]) (by
   show bns (fV aR (aC (var 1) (aC (var 2) aH)) _) _ _=_
   rw [dE (ds:=[.int b,.int e]) rfl (b7D h)];rfl)]
  rfl
 ·rw [if_neg h]
  refine a6Z (ρ:=[.val (.str x),.val (.int b),.val (.int e)]) rfl ?_;show bC (a2B (fV aR (aC (var 1) (aC (var 2) aH)))) _ [.val (.str x),.val (.int b),.val (.int e)]=_;unfold bC;have e1:a2B (fV aR (aC (var 1) (aC (var 2) aH))) [.val (.str x),.val (.int b),.val (.int e)]=some (.xc "NoTime" [.val (.str x),.val (.int b),.val (.int e)]):=by
   show bns (fV aR (aC (var 1) (aC (var 2) aH)) _) _ _=_;rw [dE (ds:=[.int b,.int e]) rfl (b3K (by simpa using h))];rfl
  rw [e1]
theorem a0U {t:Tg} {ρb:List Ent} {fe:EF} (ρx:Mt→List Ent) (f:Mt→Mt) (ht:∀ m,tgD t ρb (dM m)=some (ρx m)) (he:∀ m,fe (ρx m)=some (if tmB (f m).2.1 (f m).2.2=true then .ok (dM (f m)) else .ex "NoTime")) :
  ∀ s:List Mt,rQ t ρb ttT fe (s.map dM)=some (if (s.all fun m=>tmB (f m).2.1 (f m).2.2)=true then .ok ((s.map f).map dM) else .ex "NoTime")
 | []=>rfl
 | m::s=>by
  rw [qU,rQ,ht];dsimp only;show bnd (fe (ρx m)) _=_;rw [he,a0U ρx f ht he s,zL];by_cases h1:tmB (f m).2.1 (f m).2.2=true
  ·rw [if_pos h1,cF,h1,Bool.true_and]
   by_cases h2:(s.all fun m=>tmB (f m).2.1 (f m).2.2)=true
   ·rw [if_pos h2,if_pos h2];rfl
   ·rw [if_neg h2,if_neg h2];rfl
  ·have h1':tmB (f m).2.1 (f m).2.2=false:=by simpa using h1
   rw [if_neg h1,h1',Bool.false_and];rfl
theorem a2F (s:List Mt) (c:Int) (hz:s.length≤1000):lG [dS s,.int c]=some (if (s.all fun m=>tmB (sh c m).2.1 (sh c m).2.2)=true then .ok (dS (s.map (sh c))) else .ex "NoTime"):=by
 refine a6X (fa:=fC yV (aC lU aH)) (ρ:=[.val (dS s),.val (.int c)]) rfl rfl ?_;have k:lU [.val (dS s),.val (.int c)]=some (if (s.all fun m=>tmB (sh c m).2.1 (sh c m).2.2)=true then .ok (.list ((s.map (sh c)).map dM)) else .ex "NoTime"):=by
  show bnd (some (.ok (s.map dM))) _=_;rw [cF,if_pos (show dO (s.map dM).length=true by unfold dO;rw [qE];exact decide_eq_true (by omega))]
  rw [a0U (fun m=>[.val (.str m.1),.val (.int m.2.1),.val (.int m.2.2),.val (.int c)]) (sh c) (fun m=>rfl) (fun m=>by
   exact dE (ds:=[.str m.1,.int (m.2.1+c),.int (m.2.2+c)]) (bZ rfl (bZ (dE (ds:=[.int m.2.1,.int c]) rfl (uC _ _)) (bZ (dE (ds:=[.int m.2.2,.int c]) rfl (uC _ _)) rfl))) (a2G m.1 (m.2.1+c) (m.2.2+c))) s]
  by_cases h:(s.all fun m=>tmB (sh c m).2.1 (sh c m).2.2)=true
  ·rw [if_pos h,if_pos h];rfl
  ·rw [if_neg h,if_neg h];rfl
 show bnd (bnd (lU _) _) _=_;rw [k];by_cases h:(s.all fun m=>tmB (sh c m).2.1 (sh c m).2.2)=true
 ·rw [if_pos h,if_pos h];rfl
 ·rw [if_neg h,if_neg h];rfl
theorem a5j (s:List Mt) (l:Int) (hz:s.length≤1000):dF [dS s,.int l]=some (if (s.all fun m=>tmB (miM l m).2.1 (miM l m).2.2)=true then .ok (dS (s.map (miM l))) else .ex "NoTime"):=by
 refine a6X (fa:=fC yV (aC eF aH)) (ρ:=[.val (dS s),.val (.int l)]) rfl rfl ?_;have k:eF [.val (dS s),.val (.int l)]=some (if (s.all fun m=>tmB (miM l m).2.1 (miM l m).2.2)=true then .ok (.list ((s.map (miM l)).map dM)) else .ex "NoTime"):=by
  show bnd (some (.ok (s.map dM))) _=_;rw [cF,if_pos (show dO (s.map dM).length=true by unfold dO;rw [qE];exact decide_eq_true (by omega))]
  rw [a0U (fun m=>[.val (.str m.1),.val (.int m.2.1),.val (.int m.2.2),.val (.int l)]) (miM l) (fun m=>rfl) (fun m=>by
   have e1:-m.2.2+l=l - m.2.2:=by omega
   have e2:-m.2.1+l=l - m.2.1:=by omega
   have a1:=uC (-m.2.2) l;have a2:=uC (-m.2.1) l;rw [e1] at a1;rw [e2] at a2
   exact dE (ds:=[.str m.1,.int (l - m.2.2),.int (l - m.2.1)]) (bZ rfl (bZ (dE (ds:=[.int (-m.2.2),.int l]) rfl a1) (bZ (dE (ds:=[.int (-m.2.1),.int l]) rfl a2) rfl))) (a2G m.1 (l - m.2.2) (l - m.2.1))) s]
  by_cases h:(s.all fun m=>tmB (miM l m).2.1 (miM l m).2.2)=true
  ·rw [if_pos h,if_pos h];rfl
  ·rw [if_neg h,if_neg h];rfl
 show bnd (bnd (eF _) _) _=_;rw [k];by_cases h:(s.all fun m=>tmB (miM l m).2.1 (miM l m).2.2)=true
 ·rw [if_pos h,if_pos h];rfl
 ·rw [if_neg h,if_neg h];rfl
theorem b2p:gN "NoTime" = some (.ok (.str "no time")):=by kernel_rfl
theorem a6w (s:List Mt) (c:Int) (hz:s.length≤1000):gX [dS s,.int c]=some (.ok (.list ((s.map (sh c)).map dM))):=by
 refine bF rfl ?_;show retS iW [.val (dS s),.val (.int c)]=_;rw [dW];have:iW [.val (dS s),.val (.int c)]=some (.ok (.list (s.map fun m=>dM (sh c m)))):=bM dM (fun m=>[.val (.str m.1),.val (.int m.2.1),.val (.int m.2.2),.val (.int c)]) (fun m=>dM (sh c m)) s rfl (by omega) (fun m _=>rfl) (fun m _=>rfl);rw [this,qP];rfl
theorem b4x (s:List Mt) (l:Int) (hz:s.length≤1000):rM [dS s,.int l]=some (.ok (.list ((s.map (miM l)).map dM))):=by
 refine bF rfl ?_;show retS sN [.val (dS s),.val (.int l)]=_;rw [dW];have:sN [.val (dS s),.val (.int l)]=some (.ok (.list (s.map fun m=>dM (miM l m)))):=bM dM (fun m=>[.val (.str m.1),.val (.int m.2.1),.val (.int m.2.2),.val (.int l)]) (fun m=>dM (miM l m)) s rfl (by omega) (fun m _=>rfl) (fun m _=>rfl);rw [this,qP];rfl
def worthOf (s:List Mt):Int:=(s.map fun x=>x.2.2 - x.2.1).sum
theorem a7G (s:List Mt) (h:s.length≤1000):lF [dS s]=some (.ok (.int (worthOf s))):=by
 refine bF rfl ?_;show sR [.val (dS s)]=_;unfold sR;have k:yL [.val (dS s)]=some (.ok (.list ((s.map fun x=>x.2.2 - x.2.1).map .int))):=by
  rw [qP];exact bM dM (fun m=>[.val (.str m.1),.val (.int m.2.1),.val (.int m.2.2)]) (fun m=>.int (m.2.2 - m.2.1)) s rfl (by omega) (fun m _=>rfl) (fun m _=>rfl)
 rw [dW,lD (ds:=[.list ((s.map fun x=>x.2.2 - x.2.1).map .int)]) (by rw [fX,k];rfl) (b8w _)];rfl
theorem a9J (c:Int) (s:List Mt):worthOf (s.map (sh c))=worthOf s:=by
 unfold worthOf;rw [qP];congr 1;refine jq fun m _=>?_;show m.2.2+c - (m.2.1+c)=m.2.2 - m.2.1;omega
theorem b0r {Gs:List (List Mt)} (h:∀ A∈Gs,∀ m∈A,jP m.1=true):qV (.list (Gs.map gD))=true:=by
 have so:∀ A∈Gs,∀ x∈iD (A.map (·.1)),jP x=true:=fun A hA x hx=>by
  rw [(gC _).mem_iff] at hx;obtain ⟨m,hm,rfl⟩:=qH.mp hx;exact h A hA m hm
 refine tI (n:=2) (fun d hd=>?_) (fun d hd=>?_) (by decide)
 ·obtain ⟨A,hA,rfl⟩:=qH.mp hd
  exact kY (a3d (so A hA))
 ·obtain ⟨A,hA,rfl⟩:=qH.mp hd
  rw [jf];have:kq ((iD (A.map (·.1))).map .str)≤1:=lY fun d hd=>by
   obtain ⟨x,_,rfl⟩:=qH.mp hd;simp [jf]
  omega
theorem b1b {Gs:List (List Mt)} (h:∀ A∈Gs,∀ m∈A,jP m.1=true):neD (.list (Gs.map gD)) (.list (Gs.map gD))=some false:=by
 rw [pE (b0r h) (b0r h),lW _ fun d hd=>?_]
 ·rfl
 ·obtain ⟨A,hA,rfl⟩:=qH.mp hd
  rw [a1o,pL,decide_eq_true rfl]
theorem a8H {l:T0q} (h:l≠[]):a4L [.list (l.map .int)]=some (.int (sL l)):=by
 show (match eT intD (l.map .int) with | some (n::ns)=>some (jY (sL (n::ns))) | _=>none)=_;rw [mY];cases l with
 | nil=>exact absurd rfl h
 | cons a r=>rfl
theorem lookup_cons (k:j0) (p:j0×j0) (D:List (j0×j0)):wN k (p::D)=if Spec.same p.1 k then some p.2 else wN k D:=by
 obtain ⟨a,b⟩:=p;rfl
theorem a8J {kvs:List (Key×j0)} (nd:(kvs.map (·.1)).Nodup):∀ {k:Key} {d:j0},(k,d)∈kvs→wN (dU k) (kvs.map fun p=>(dU p.1,p.2))=some d:=by
 induction kvs with
 | nil=>intro k d h;cases h
 | cons p kvs ih=>
  intro k d h;rw [qU,kT] at nd;rw [qU,lookup_cons,a1Y];rcases qF.mp h with z | z
  ·rw [←z,if_pos (decide_eq_true rfl)]
  ·rw [if_neg (by
    rw [decide_eq_true_eq];intro e
    exact nd.1 (by rw [e];exact qz (f:=(·.1)) z)),ih nd.2 z]
theorem yO {kvs:List (Key×j0)} (nd:(kvs.map (·.1)).Nodup) (hv:∀ p∈kvs,p.2.eqv p.2=true):∀ l:List (Key×j0),(∀ p∈l,p∈kvs)→oK (kvs.map fun p=>(dU p.1,p.2)) (l.map fun p=>(dU p.1,p.2))=true
 | [],_=>rfl
 | p::l,h=>by
  rw [qU];unfold oK;dsimp only;rw [a8J nd (show (p.1,p.2)∈kvs from h p (by simp))];dsimp only;rw [hv p (h p (by simp)),yO nd hv l fun q hq=>h q (qD _ hq)];rfl
theorem b6T {s:List Mt} {P:List Ly} (h:LayOf s P) (nd:(s.map (·.1)).Nodup):b3L (a1M P) (a1M P)=some false:=by
 generalize he:(P.map fun p=>((.inr p.1.1:Key),jY (p.2:Nat)))=en;have fl:(en.map fun p=>(dU p.1,p.2)).all (fun p=>a6g p.1&&yN p.2)=true:=by
  rw [qk];intro p hp;obtain ⟨q,hq,rfl⟩:=qH.mp hp;rw [←he] at hq;obtain ⟨r,_,rfl⟩:=qH.mp hq;rfl
 have nk:(en.map (·.1)).Nodup:=by
  rw [←he,qP];have:=h.nd nd;rw [wH,qr] at this ⊢;exact this.imp fun {a b} n z=>n (by injection z)
 have e:a1M P=.dict (en.map fun p=>(dU p.1,p.2)):=by rw [←he];rfl
 rw [e];show (b4t (.dict (en.map fun p=>(dU p.1,p.2))) (.dict (en.map fun p=>(dU p.1,p.2)))).map _=_;unfold b4t;dsimp only;rw [fl,if_pos (by rfl),yO nk (fun p hp=>by rw [←he] at hp;obtain ⟨r,_,rfl⟩:=qH.mp hp;simp [jI]) _ (fun p hp=>hp),decide_eq_true rfl];rfl
theorem b6S (l:List (Int×Int)):neD (.list (l.map dP)) (.list (l.map dP))=some false:=by
 rw [pE (b5p l) (b5p l),lW _ fun d hd=>?_]
 ·rfl
 ·obtain ⟨p,_,rfl⟩:=qH.mp hd
  simp [jI,qt]
theorem b6R (l:List Row):neD (.list (l.map dR)) (.list (l.map dR))=some false:=by
 rw [pE (b5o l) (b5o l),lW _ fun d hd=>?_]
 ·rfl
 ·obtain ⟨p,_,rfl⟩:=qH.mp hd
  simp [jI,qt]
theorem b0Z {ns:T0o} (h:∀ x∈ns,jP x=true):neD (.list (ns.map .str)) (.list (ns.map .str))=some false:=by
 rw [pE (a3d h) (a3d h),pL,decide_eq_true rfl];rfl
theorem a9T {b e:Int} (h0:0≤b) (h1:b<e) (h2:e≤480):tmB b e=true:=by unfold tmB;simp;omega
section
variable {ns:T0q} {s:List Mt} {c l:Int}
abbrev st6 (ns:T0q) (s:List Mt) (c l:Int) (a b d e f g:Ent):List Ent:=[.val (dN ns),.val (dS s),.val (.int c),.val (.int l),a,b,d,e,f,g]
theorem b8l (hz:s.length≤1000) (a b d e f g:Ent):a4m cB gN [some 2,some 1] a6f (st6 ns s c l a b d e f g)=some (.ok (if (s.all fun m=>tmB (sh c m).2.1 (sh c m).2.2)=true then dS (s.map (sh c)) else .str "no time")):=by
 unfold a4m;have e1:a6f (bS [some 2,some 1] (st6 ns s c l a b d e f g))=some (if (s.all fun m=>tmB (sh c m).2.1 (sh c m).2.2)=true then .ok (dS (s.map (sh c))) else .ex "NoTime"):=dE (ds:=[dS s,.int c]) rfl (a2F s c hz);rw [e1];by_cases h:(s.all fun m=>tmB (sh c m).2.1 (sh c m).2.2)=true
 ·rw [if_pos h,if_pos h];rfl
 ·rw [if_neg h,if_neg h]
  show lft (if cB.contains "NoTime" = true then _ else none)=_;rw [if_pos (by decide +kernel),b2p];rfl
theorem b9O (hz:s.length≤1000) (a d e f g:Ent):b0g (st6 ns s c l a (.val (dS (s.map (sh c)))) d e f g)=some (.ok (!((s.map (sh c)).all fun m=>!(decide (m.2.1<0) || decide (480<m.2.2))))):=by
 have k:=nA (t:=.tp [0,1,2]) (cap:=[none,none,none]) (fi:=dQ (var 5)) (ft:=orT (dL ltD (var 1) (cst (.int 0))) (dL gtD (var 2) (cst (.int 480)))) (fe:=cst (.int 1)) (ρ:=st6 ns s c l a (.val (dS (s.map (sh c)))) d e f g) dM (fun m=>[.val (.str m.1),.val (.int m.2.1),.val (.int m.2.2)]) (fun m=>decide (m.2.1<0) || decide (480<m.2.2)) (fun _=>.int 1) (s.map (sh c)) rfl (by rw [qE];omega) (fun m _=>rfl) (fun m _=>by
  rw [b0S,a0m (x:=.int m.2.1) (y:=.int 0) (r:=decide (m.2.1<0)) rfl rfl (b8V ..),cF];rw [a0m (x:=.int m.2.2) (y:=.int 480) (r:=decide (480<m.2.2)) rfl rfl (b5B ..)]
  exact b7n _ _) (fun m _ _=>rfl)
 have e1:(((s.map (sh c)).filter fun m=>decide (m.2.1<0) || decide (480<m.2.2)).map fun _=>jY 1)=(((s.map (sh c)).filter fun m=>decide (m.2.1<0) || decide (480<m.2.2)).map fun _=>(1:Int)).map .int:=by rw [qP];rfl
 refine mW (x:=.list ((((s.map (sh c)).filter fun m=>decide (m.2.1<0) || decide (480<m.2.2)).map fun _=>(1:Int)).map .int)) (y:=.list []) (by rw [←e1];exact k) rfl ?_;rw [b6Q (a6U _)];congr 2;rw [ju,List.isEmpty_iff,List.map_eq_nil_iff,List.map_eq_nil_iff,List.filter_eq_nil_iff,qk];constructor
 ·intro h m hm;have:=h m hm;simpa using this
 ·intro h m hm;have:=h m hm;simpa using this
theorem b9N (hz:s.length≤1000) (ok:∀ m∈s,jP m.1=true) (hs:∀ m∈s,0≤m.2.1∧m.2.1<m.2.2∧m.2.2≤480) (d e f g:Ent):b0f (st6 ns s c l (.val (dS (s.map (sh c)))) (.val (dS (s.map (sh c)))) d e f g)=some (.ok false):=by
 have okb:∀ m∈s.map (sh c),jP m.1=true:=fun m hm=>by obtain ⟨a,ha,rfl⟩:=qH.mp hm;exact ok a ha
 have bl:(s.map (sh c)).length=s.length:=qE _;refine a2e (mW (x:=dS (s.map (sh c))) (y:=dS (s.map (sh c))) rfl rfl (by rw [a7g okb okb,decide_eq_true rfl];rfl)) (a2e ?_ ?_)
 ·have bk:(s.map (sh c)).map (sh (0 - c))=s:=by
   rw [qP,show (0 - c)=-c by omega];exact (jq fun m _=>a6V c m).trans (List.map_id' _)
  have e:=a2F (s.map (sh c)) (0 - c) (by omega)
  rw [bk,if_pos (by
   rw [qk];intro m hm;obtain ⟨n,hn,rfl⟩:=qH.mp hm;rw [show (0 - c)=-c by omega,a6V];have:=hs n hn
   exact a9T this.1 this.2.1 this.2.2)] at e
  exact mW (x:=dS s) (y:=dS s) (dE (ds:=[dS (s.map (sh c)),.int (0 - c)]) rfl e) rfl (by rw [a7g ok ok,decide_eq_true rfl];rfl)
 ·have e:=a7G (s.map (sh c)) (by omega)
  rw [a9J] at e;exact mW (x:=.int (worthOf s)) (y:=.int (worthOf s)) (aQ (ds:=[dS (s.map (sh c))]) rfl e) (aQ (ds:=[dS s]) rfl (a7G s hz)) (by rw [b1a];simp)
theorem b9M (hz:s.length≤60) (nd:(s.map (·.1)).Nodup) (ok:∀ m∈s,jP m.1=true) (b d e f g:Ent):b0e (st6 ns s c l (.val (dS (s.map (sh c)))) b d e f g)=some (.ok false):=by
 have bl:(s.map (sh c)).length=s.length:=qE _;have ndb:((s.map (sh c)).map (·.1)).Nodup:=by rw [a0A];exact nd
 refine a2e ?_ (a2e ?_ ?_)
 ·obtain ⟨P,hP,_,eP⟩:=a2H nd (by omega)
  obtain ⟨Q,hQ,_,eQ⟩:=a2H ndb (by omega);have:=hQ.uniq hP.sh;rw [this,b4L] at eQ;exact a0m (x:=a1M P) (y:=a1M P) (aQ (ds:=[dS (s.map (sh c))]) rfl eQ) (aQ (ds:=[dS s]) rfl eP) (b6T hP nd)
 ·have e:=uD ndb (by omega)
  rw [a2A] at e;exact mW (aQ (ds:=[dS (s.map (sh c))]) rfl e) (aQ (ds:=[dS s]) rfl (uD nd (by omega))) (b1b fun A hA m hm=>ok m (a0R hA hm))
 ·have e:=iN ndb (by omega)
  rw [a2N] at e
  exact mW (aQ (ds:=[dS (s.map (sh c))]) rfl e) (aQ (ds:=[dS s]) rfl (iN nd (by omega))) (b0Z fun x hx=>by
   obtain ⟨m,hm,rfl⟩:=qH.mp hx
   exact ok m ((gK s).mem_iff.mp ((xP _ _).subset hm)))
theorem b9L (hz:s.length≤30) (hp:∀ m∈s,m.2.1<m.2.2) (b d e f g:Ent):b0d (st6 ns s c l (.val (dS (s.map (sh c)))) b d e f g)=some (.ok false):=by
 have bl:(s.map (sh c)).length=s.length:=qE _;have eb:=b1W (s.map (sh c)) (by omega);rw [b4Z c hp] at eb;have hb:=b2A s;have k:b1q (st6 ns s c l (.val (dS (s.map (sh c)))) b d e f g)=some (.ok (.list (((lB s).map fun p=>(p.1+c,p.2+c)).map dP))):=by
  rw [qP];exact bM dP (fun p=>[.val (.int p.1),.val (.int p.2),.val (.int c)]) (fun p=>dP (p.1+c,p.2+c)) (lB s) (nN (aQ (ds:=[dS s]) rfl (b1W s hz)) rfl) (by omega) (fun m _=>rfl) (fun m _=>rfl)
 exact mW (aQ (ds:=[dS (s.map (sh c))]) rfl eb) k (b6S _)
theorem b9K (hz:s.length≤1000) (ok:∀ m∈s,jP m.1=true) (hs:∀ m∈s,0≤m.2.1∧m.2.1<m.2.2∧m.2.2≤480) (a b e f g:Ent):b0b (st6 ns s c l a b (.val (dS (s.map (miM l)))) e f g)=some (.ok false):=by
 have okb:∀ m∈s.map (miM l),jP m.1=true:=fun m hm=>by obtain ⟨a,ha,rfl⟩:=qH.mp hm;exact ok a ha
 have bl:(s.map (miM l)).length=s.length:=qE _;refine a2e (mW (x:=dS (s.map (miM l))) (y:=dS (s.map (miM l))) rfl (lD (ds:=[.list ((s.map (miM l)).map dM)]) (bZ (aQ (ds:=[dS s,.int l]) rfl (b4x s l hz)) rfl) (b5j _)) (by rw [a7g okb okb,decide_eq_true rfl];rfl)) ?_;have bk:(s.map (miM l)).map (miM l)=s:=by
  rw [qP];exact (jq fun m _=>a4K l m).trans (List.map_id' _)
 have e:=a5j (s.map (miM l)) l (by omega)
 rw [bk,if_pos (by
  rw [qk];intro m hm;obtain ⟨n,hn,rfl⟩:=qH.mp hm;rw [a4K];have:=hs n hn
  exact a9T this.1 this.2.1 this.2.2)] at e
 exact mW (x:=dS s) (y:=dS s) (dE (ds:=[dS (s.map (miM l)),.int l]) rfl e) rfl (by rw [a7g ok ok,decide_eq_true rfl];rfl)
theorem b9J (hz:s.length≤30) (hp:∀ m∈s,m.2.1<m.2.2) (a b e f g:Ent):b0a (st6 ns s c l a b (.val (dS (s.map (miM l)))) e f g)=some (.ok false):=by
 have bl:(s.map (miM l)).length=s.length:=qE _;have eb:=a3K (s.map (miM l)) (by omega);rw [b0j l hp] at eb;have hb:=uT s;have k:a6h (st6 ns s c l a b (.val (dS (s.map (miM l)))) e f g)=some (.ok (.list (((bU s).map (miR l)).map dR))):=by
  rw [qP];exact bM dR (fun r=>[.val (.int r.1),.val (.int r.2.1),.val (.int r.2.2),.val (.int l)]) (fun r=>dR (miR l r)) (bU s) (nN (aQ (ds:=[dS s]) rfl (a3K s hz)) rfl) (by omega) (fun m _=>rfl) (fun m _=>rfl)
 have k':op1 b0w a6h (st6 ns s c l a b (.val (dS (s.map (miM l)))) e f g)=some (.ok (.list ((((bU s).map (miR l)).reverse).map dR))):=by
  rw [b0W,k,cF,List.map_reverse];rfl
 exact mW (aQ (ds:=[dS (s.map (miM l))]) rfl eb) k' (b6R _)
theorem b9I (hz:s.length≤30) (hp:∀ m∈s,m.2.1<m.2.2) (nd:(s.map (·.1)).Nodup) (ok:∀ m∈s,jP m.1=true) (a b e f g:Ent):a9Z (st6 ns s c l a b (.val (dS (s.map (miM l)))) e f g)=some (.ok false):=by
 have bl:(s.map (miM l)).length=s.length:=qE _;have ndb:((s.map (miM l)).map (·.1)).Nodup:=by rw [a2m];exact nd
 have okb:∀ m∈s.map (miM l),jP m.1=true:=fun m hm=>by obtain ⟨a,ha,rfl⟩:=qH.mp hm;exact ok a ha
 refine a2e (mW (x:=.list ((cE (dD (s.map (miM l)))).map gD)) (y:=.list ((cE (dD (s.map (miM l)))).map gD)) (aQ (ds:=[dS (s.map (miM l))]) rfl (uD ndb (by omega))) ?_ (b1b fun A hA m hm=>okb m (a0R hA hm))) ?_
 ·rw [b0W,aQ (ds:=[dS s]) rfl (uD nd (by omega)),cF,a8W l hp nd];rfl
 ·have e:=b1T (s.map (miM l)) (by omega)
  rw [b3Q] at e;exact mW (x:=.int (cD s)) (y:=.int (cD s)) (aQ (ds:=[dS (s.map (miM l))]) rfl e) (aQ (ds:=[dS s]) rfl (b1T s (by omega))) (by rw [b1a];simp)
end
theorem b1k {ns:T0q} {s:List Mt} (ps:nD [dN ns,.int 0,.int 7]=some (.ok (dS s))) (S:SheetOk s)
  (pp:∀ k many:Int,0≤k→0<many→∃ p:Int,bR [dN ns,.int k,.int many]=some (.ok (.int p))∧0≤p∧p<many):F_law [dN ns]=some (.ok (.bool true)):=by
 have few:=S.few;have hp:∀ m∈s,m.2.1<m.2.2:=fun m hm=>(S.times m hm).2.1;have hs:∀ m∈s,0≤m.2.1∧m.2.1<m.2.2∧m.2.2≤480:=fun m hm=>by have:=S.times m hm;omega
 have nd:=S.nodup;have ok:=S.name_ok;obtain ⟨p1,e1,lo1,hi1⟩:=pp 200 161 (by decide) (by decide);obtain ⟨p2,e2,lo2,hi2⟩:=pp 201 40 (by decide) (by decide);refine bF rfl ?_;show b1O [.val (dN ns),.no,.no,.no,.no,.no,.no,.no,.no,.no]=_;unfold b1O
 rw [aT (ρ':=[.val (dN ns),.val (dS s),.val (.int (p1 - 40)),.no,.no,.no,.no,.no,.no,.no]) (by
  rw [a9O,a0q,bZ (aQ (ds:=[dN ns,.int 0,.int 7]) rfl ps) (bZ (a5V (x:=.int p1) (y:=.int 40) (aQ (ds:=[dN ns,.int 200,.int 161]) rfl e1) rfl rfl) rfl)];rfl)]
 generalize p1 - 40=c;have k1:a6i [.val (dN ns),.val (dS s),.val (.int c),.no,.no,.no,.no,.no,.no,.no]=some (.ok (.list ((s.map (·.2.2)).map .int))):=by
  rw [qP];exact bM dM (fun m=>[.val (.str m.1),.val (.int m.2.1),.val (.int m.2.2)]) (fun m=>.int m.2.2) s rfl (by omega) (fun m _=>rfl) (fun m _=>rfl)
 have k2:op2 cY (tS (aC (cst (.int 0)) aH)) a6i [.val (dN ns),.val (dS s),.val (.int c),.no,.no,.no,.no,.no,.no,.no]=some (.ok (.list ((0::s.map (·.2.2)).map .int))):=
  a5V (x:=.list [.int 0]) (y:=.list ((s.map (·.2.2)).map .int)) rfl k1 (by rw [b2J,if_pos (by simp;omega)];rfl)
 rw [aT (ρ':=st6 ns s c (sL (0::s.map (·.2.2))+p2) .no .no .no .no .no .no) (by
  rw [oZ,a5V (x:=.int (sL (0::s.map (·.2.2)))) (y:=.int p2) (lD (ds:=[.list ((0::s.map (·.2.2)).map .int)]) (bZ k2 rfl) (a8H (by simp))) (aQ (ds:=[dN ns,.int 201,.int 40]) rfl e2) rfl];rfl)]
 have hl0:0≤sL (0::s.map (·.2.2))+p2:=by have:=tR (ns:=0::s.map (·.2.2)) (a:=0) (by simp);omega
 have hl1:∀ m∈s,m.2.2≤sL (0::s.map (·.2.2))+p2:=fun m hm=>by
  have:=tR (ns:=0::s.map (·.2.2)) (a:=m.2.2) (qD _ (qz (f:=(·.2.2)) hm));omega
 generalize sL (0::s.map (·.2.2))+p2=l at hl0 hl1
 rw [aT (ρ':=st6 ns s c l (.val (if (s.all fun m=>tmB (sh c m).2.1 (sh c m).2.2)=true then dS (s.map (sh c)) else .str "no time")) (.val (dS (s.map (sh c)))) .no .no .no .no) (by
  rw [a9O,a0q,bZ (b8l (by omega) ..) (bZ (lD (ds:=[.list ((s.map (sh c)).map dM)]) (bZ (aQ (ds:=[dS s,.int c]) rfl (a6w s c (by omega))) rfl) (b5j _)) rfl)];rfl)]
 have same:((s.map (sh c)).all fun m=>!(decide (m.2.1<0) || decide (480<m.2.2)))=(s.all fun m=>tmB (sh c m).2.1 (sh c m).2.2):=by
  rw [List.all_map];rw [ju,qk,qk];refine forall_congr' fun m=>forall_congr' fun hm=>?_;have:=hp m hm;show (!(decide (m.2.1+c<0) || decide (480<m.2.2+c)))=true↔tmB (m.2.1+c) (m.2.2+c)=true;rw [b2P];simp;omega
 have t1:=b9O (ns:=ns) (s:=s) (c:=c) (l:=l) (by omega) (.val (if (s.all fun m=>tmB (sh c m).2.1 (sh c m).2.2)=true then dS (s.map (sh c)) else .str "no time")) .no .no .no .no;rw [same] at t1;by_cases hA:(s.all fun m=>tmB (sh c m).2.1 (sh c m).2.2)=true
 case neg=>
  have hA':(s.all fun m=>tmB (sh c m).2.1 (sh c m).2.2)=false:=by simpa using hA
  refine a0f ?_;rw [lV,t1,lC,hA'];rfl
 rw [if_pos hA] at t1 ⊢;rw [hA] at t1;rw [ifF t1,ifF (b9N (by omega) ok hs ..),ifF (b9M (by omega) nd ok ..),ifF (b9L (by omega) hp ..)];have t5:b0c (st6 ns s c l (.val (dS (s.map (sh c)))) (.val (dS (s.map (sh c)))) .no .no .no .no)=some (.ok (decide (480<l))):=a0m (x:=.int l) (y:=.int 480) rfl rfl (b5B ..);by_cases h480:480<l
 ·refine a0f ?_
  rw [lV,t5,lC,decide_eq_true h480];rfl
 rw [decide_eq_false h480] at t5;rw [ifF t5];have et:=a5j s l (by omega)
 rw [if_pos (by
  rw [qk];intro m hm;have h1:=hs m hm;have h2:=hl1 m hm
  exact a9T (by show 0≤l - m.2.2;omega) (by show l - m.2.2<l - m.2.1;omega) (by show l - m.2.1≤480;omega))] at et
 rw [aT (ρ':=st6 ns s c l (.val (dS (s.map (sh c)))) (.val (dS (s.map (sh c)))) (.val (dS (s.map (miM l)))) .no .no .no) (by rw [oZ,dE (ds:=[dS s,.int l]) rfl et];rfl)];rw [ifF (b9K (by omega) ok hs ..)];have bl:(s.map (miM l)).length=s.length:=qE _;obtain ⟨ρ',e3,f,g,rfl⟩:∃ ρ',a1J (.nm 7) (a3g (cst (.int 6))) b2F (st6 ns s c l (.val (dS (s.map (sh c)))) (.val (dS (s.map (sh c)))) (.val (dS (s.map (miM l)))) .no .no .no)=some (.nx ρ')∧∃ f g,ρ'=st6 ns s c l (.val (dS (s.map (sh c)))) (.val (dS (s.map (sh c)))) (.val (dS (s.map (miM l)))) f g .no:=by
  have hr:a3g (cst (.int 6)) (st6 ns s c l (.val (dS (s.map (sh c)))) (.val (dS (s.map (sh c)))) (.val (dS (s.map (miM l)))) .no .no .no)=some (.ok ((qi 6).map fun (k:Nat)=>jY (k:Int))):=rfl;rw [sQ,hr,lC];refine a8I (fun (k:Nat)=>jY (k:Int)) (fun ρ=>∃ f g,ρ=st6 ns s c l (.val (dS (s.map (sh c)))) (.val (dS (s.map (sh c)))) (.val (dS (s.map (miM l)))) f g .no) (qi 6) _ ⟨.no,.no,rfl⟩ ?_;rintro k hk _ ⟨f,g,rfl⟩;obtain ⟨q,eq,q0,q1⟩:=pp (210+(k:Int)) (l+1) (by omega) (by omega);refine ⟨st6 ns s c l (.val (dS (s.map (sh c)))) (.val (dS (s.map (sh c)))) (.val (dS (s.map (miM l)))) (.val (.int (k:Int))) g .no,st6 ns s c l (.val (dS (s.map (sh c)))) (.val (dS (s.map (sh c)))) (.val (dS (s.map (miM l)))) (.val (.int (k:Int))) (.val (.int q)) .no,rfl,.inl ?_,_,_,rfl⟩;show bC (iG 8 _) (ifS a5H _ _) _=_;rw [aT (ρ':=st6 ns s c l (.val (dS (s.map (sh c)))) (.val (dS (s.map (sh c)))) (.val (dS (s.map (miM l)))) (.val (.int (k:Int))) (.val (.int q)) .no) (by rw [oZ,aQ (ds:=[dN ns,.int (210+(k:Int)),.int (l+1)]) rfl eq];rfl)];have t7:a5H (st6 ns s c l (.val (dS (s.map (sh c)))) (.val (dS (s.map (sh c)))) (.val (dS (s.map (miM l)))) (.val (.int (k:Int))) (.val (.int q)) .no)=some (.ok false):=by
   have a:=rJ (s.map (miM l)) q (by omega);have b:=a7n l s (l - 1 - q);rw [show l - 1 - (l - 1 - q)=q by omega] at b;rw [b] at a;exact mW (x:=.int (aX s (l - 1 - q))) (y:=.int (aX s (l - 1 - q))) (aQ (ds:=[dS (s.map (miM l)),.int q]) rfl a) (aQ (ds:=[dS s,.int (l - 1 - q)]) rfl (rJ s _ (by omega))) (by rw [b1a];simp)
  rw [lV,t7];rfl
 rw [aT e3];rw [ifF (b9J (by omega) hp ..),ifF (b9I (by omega) hp nd ok ..)];have ndb:((s.map (miM l)).map (·.1)).Nodup:=by rw [a2m];exact nd
 have pb:∀ m∈s.map (miM l),m.2.1<m.2.2:=fun m hm=>by
  obtain ⟨n,hn,rfl⟩:=qH.mp hm;have:=hp n hn;show l - n.2.2<l - n.2.1;omega
 have n1:(((gr (fT s) none).map (·.1)).map vE).length=nu s:=by rw [qE,qE];rfl
 have n2:(((gr (fT (s.map (miM l))) none).map (·.1)).map vE).length=nu s:=by rw [qE,qE];exact b5t l hp
 have n3:((mts (gr (fT (s.map (miM l))) none)).map jY).length=nu s:=by rw [qE,mts,qE];exact b5t l hp
 have lenD_at:∀ (xs:T0j),xI [.list xs]=some (.int (xs.length:Nat)):=fun xs=>by simp
 rw [aT (ρ':=st6 ns s c l (.val (dS (s.map (sh c)))) (.val (dS (s.map (sh c)))) (.val (dS (s.map (miM l)))) f g (.val (.int (nu s:Nat)))) (by
  rw [oZ,lD (bZ (aQ (ds:=[dS s]) rfl (iN nd (by omega))) rfl) (lenD_at _),n1];rfl)]
 have v1:a3P eqD (fC xI (aC (aP cQ (aC (var 6) aH)) aH)) (var 9) (st6 ns s c l (.val (dS (s.map (sh c)))) (.val (dS (s.map (sh c)))) (.val (dS (s.map (miM l)))) f g (.val (.int (nu s:Nat))))=some (.ok (.bool true)):=by
  rw [b2o,lD (bZ (aQ (ds:=[dS (s.map (miM l))]) rfl (iN ndb (by omega))) rfl) (lenD_at _),n2,cF];show lft ((eqD (.int (nu s:Nat)) (.int (nu s:Nat))).map j0.bool)=_;rw [b5D];simp
 have v2:a3P eqD (fC xI (aC (aP dA (aC (var 6) aH)) aH)) (var 9) (st6 ns s c l (.val (dS (s.map (sh c)))) (.val (dS (s.map (sh c)))) (.val (dS (s.map (miM l)))) f g (.val (.int (nu s:Nat))))=some (.ok (.bool true)):=by
  rw [b2o,lD (bZ (aQ (ds:=[dS (s.map (miM l))]) rfl (b1V ndb (by omega) pb)) rfl) (lenD_at _),n3,cF];show lft ((eqD (.int (nu s:Nat)) (.int (nu s:Nat))).map j0.bool)=_;rw [b5D];simp
 rw [dW,b2H,v1,cF];show bns (a3P eqD _ _ _) _ _=_;rw [v2];rfl
theorem e_law (ns:T0q) (hl:ns.length≤63):F_law [dN ns]=some (.ok (.bool true)):=
 b1k (b4w ns 0 7 (by decide) (by decide) (by decide)) (b0q ns 0 (by decide) (by decide)) fun k many h0 hm=>⟨_,xV ns k many h0 hm,iH ns k hm,iI ns k hm⟩
end L2.L3
namespace L2.L3
theorem oR {α:Type} {l:List α} (h:l.length=1):∃ a,l=[a]:=by
 cases l with
 | nil=>cases h
 | cons a l=>cases l with
  | nil=>exact ⟨a,rfl⟩
  | cons b l=>simp at h
theorem b8Y {α:Type} {l:List α} {n:Nat} (h:l.length=n+1):∃ a r,l=a::r∧r.length=n:=by
 cases l with
 | nil=>cases h
 | cons a r=>exact ⟨a,r,rfl,by simpa using h⟩
theorem xJ {α:Type} {l:List α} (h:l.length=2):∃ a b,l=[a,b]:=by
 obtain ⟨a,r,rfl,k⟩:=b8Y h;obtain ⟨b,rfl⟩:=oR k;exact ⟨a,b,rfl⟩
theorem b7a {α:Type} {l:List α} (h:l.length=3):∃ a b c,l=[a,b,c]:=by
 obtain ⟨a,r,rfl,k⟩:=b8Y h;obtain ⟨b,c,rfl⟩:=xJ k;exact ⟨a,b,c,rfl⟩
end L2.L3
namespace L2.L3
open PySem PySem.Spec PyProof.Rows
section
variable {X:Cx} {e b:Expr} {es:T0l} {pos p p0 p1 lp sp:Pos} {x y:Str} {k k':Nat} {ps ps':T0o} {F F':List j0→Mm j0} {fa:AF} {fb:EF}
end
theorem b7J {X:Cx} (i j:Nat) {x y:Str} {a b:Expr} {fa:AF} {px py pt pos:Pos} {kt k2 pt2} (hc:X.calm=true) (hN:X.N.Nodup) (hij:i≠j) (ha:DA X [a,b] fa)
  (hi:X.N[i]?=some x:=by rfl) (hj:X.N[j]?=some y:=by rfl) (hx:X.env.scope.names.lookup x=some .local:=by rfl) (hy:X.env.scope.names.lookup y=some .local:=by rfl)
  (hw:uk [.Tuple [.Name x px,.Name y py] kt pt] (.Tuple [a,b] k2 pt2) X.env=pure (some [x,y]):=by rfl)
  (hs:ul [.Tuple [.Name x px,.Name y py] kt pt] (.Tuple [a,b] k2 pt2) pos.line X.env=pure false:=by rfl) :
  DS X (.Assign [.Tuple [.Name x px,.Name y py] kt pt] (.Tuple [a,b] k2 pt2) pos) (a7X (.tp [i,j]) (fY fa)):=⟨fun pins s σ H D I ⟨ρ,o,H0,G₀,G,e,R,q⟩=>by
 refine b6o hc hN hi hj hij hx hy ha.run hw hs pins s σ H D I ?_;have e':bns (fa ρ) ρ (fun xs=>bns (lft (yG xs)) ρ fun d=>(tgD (.tp [i,j]) ρ d).map So.nx)=some o:=by
  rw [←e];unfold a7X fY;cases h:fa ρ with
  | none=>rfl
  | some r=>cases r<;>rfl
 refine sA R e' q fun ds vs G1 H1 g1 R1 rv e1 q1=>?_;unfold yG at e1;split at e1
 ·have e1:(if [i,j].length=ds.length then some (nK ρ [i,j] ds) else none).map So.nx=some o:=e1
  split at e1
  ·rename_i hl
   cases e1;cases rv with
   | nil=>cases hl
   | cons r1 rv=>
    cases rv with
    | nil=>cases hl
    | cons r2 rv=>
     cases rv with
     | nil=>exact ⟨_,_,rfl,q1 G1 H1 _ (.refl _) ((R1.set r1).set r2)⟩
     | cons _ _=>simp at hl
  ·cases e1
 ·cases e1⟩
def top (i:Nat):Stmt:=PySem.Challenge.pw_daysheet_k06_whole_moved_as_one.main.body.getD i (.Pass ⟨0,0,0,0⟩)
structure Blt (mg:T0d):Prop where
 b_ValueError:mg "ValueError" = none
 b_any:mg "any" = none
 b_bool:mg "bool" = none
 b_dict:mg "dict" = none
 b_int:mg "int" = none
 b_isinstance:mg "isinstance" = none
 b_len:mg "len" = none
 b_max:mg "max" = none
 b_min:mg "min" = none
 b_range:mg "range" = none
 b_set:mg "set" = none
 b_sorted:mg "sorted" = none
 b_sum:mg "sum" = none
 b_tuple:mg "tuple" = none
 b_zip:mg "zip" = none
 k_LAST_END:∃ t:Tok,mg "LAST_END" = some (.int 480 t)
section
variable {P:Program} {w:World} {K:qC} {mg:T0d} {base:Heap}
theorem fS {N P:T0o} {sc:Scope} (a:sc.kind=.function:=by rfl) (b:sc.isCoroutine=false:=by rfl) (c:sc.isGenerator=false:=by rfl) (d:N.Nodup:=by decide +kernel) (e:N.take P.length=P:=by rfl) (f:∀ x∈P,sc.names.lookup x=some .local∨sc.names.lookup x=some .cell:=by decide +kernel) (g:∀ y∈sc.names,y.2≠.free:=by decide +kernel):FnScope N P sc:=⟨a,b,c,d,e,f,g⟩
theorem hM {k j:Nat} {A:Around} (r:Room k A) (h:j≤k:=by decide):Room j A:=r.mono h
abbrev sH:Stmt:=top 12
theorem a4w:FnScope ["thing"] ["thing"] (aD sH):=fS
theorem a6E (D:Def K mg "is_whole" sH) (B:Blt mg) (XF:ExG cB K)  : aI P w K mg base "is_whole" 1 ["thing"] cG:=by
 refine aU 1 1 D a4w rfl rfl (fun _ _ _ _ _ _ us hl=>by obtain ⟨_,rfl⟩:=oR hl;rfl) (fun fa cdv A outer s H E hr=>?_);exact (aO (aW (a1s (a2L B.b_isinstance B.b_int boot_int (aB 0)) (a3N (b7N (a2L B.b_isinstance B.b_bool boot_bool (aB 0)))))))
abbrev pA:Stmt:=top 13
theorem a3e:FnScope ["begin", "end"] ["begin", "end"] (aD pA):=fS
theorem a5y (D:Def K mg "are_times" pA) (B:Blt mg) (XF:ExG cB K) (C_is_whole:aI P w K mg base "is_whole" 1 ["thing"] cG):aI P w K mg base "are_times" 2 ["begin", "end"] fH:=by
 refine aU 2 2 D a3e rfl rfl (fun _ _ _ _ _ _ us hl=>by obtain ⟨_,_,rfl⟩:=xJ hl;rfl) (fun fa cdv A outer s H E hr=>?_);exact (aO (aW (a1s (aM C_is_whole (hM hr) (aA (aB 0) aE)) (a1s (aM C_is_whole (hM hr) (aA (aB 1) aE)) (a3N (b4H a4R a0T a4R aJ (aB 0) (aB 1) (b2l rfl (B.k_LAST_END))))))))
abbrev dJ:Stmt:=top 15
theorem nO:FnScope ["begin", "end"] ["begin", "end"] (aD dJ):=fS
theorem oU (D:Def K mg "refuse_wrong_times" dJ) (B:Blt mg) (XF:ExG cB K) (C_are_times:aI P w K mg base "are_times" 2 ["begin", "end"] fH):CalleeX P w K mg base "refuse_wrong_times" 3 ["begin", "end"] aR:=by
 refine gY 2 2 D nO rfl rfl (fun _ _ _ _ _ _ us hl=>by obtain ⟨_,_,rfl⟩:=xJ hl;rfl) (fun fa cdv A outer s H E hr=>?_);exact (aO (gB (a1p (sX (aM C_are_times (hM hr) (aA (aB 0) (aA (aB 1) aE))))) (aO (a2I XF.l rfl)) eM))
abbrev mK:Stmt:=top 27
noncomputable abbrev a1F:List Str:=["name", "begin", "end"]
theorem a0B:FnScope a1F ["name", "begin", "end"] (aD mK):=fS
theorem a1N (D:Def K mg "meeting_at" mK) (B:Blt mg) (XF:ExG cB K) (C_refuse_wrong_timesX:CalleeX P w K mg base "refuse_wrong_times" 3 ["begin", "end"] aR):CalleeX P w K mg base "meeting_at" 4 ["name", "begin", "end"] dH:=by
 refine gY 3 3 D a0B rfl rfl (fun _ _ _ _ _ _ us hl=>by obtain ⟨_,_,_,rfl⟩:=b7a hl;rfl) (fun fa cdv A outer s H E hr=>?_);exact (aN (b4B (eA C_refuse_wrong_timesX (hM hr) (aA (aB 1) (aA (aB 2) aE)))) (aO (aW (eL (aA (aB 0) (aA (aB 1) (aA (aB 2) aE)))))))
abbrev a0D:Stmt:=top 16
theorem a8n:FnScope ["moment", "by"] ["moment", "by"] (aD a0D):=fS
theorem b2t (D:Def K mg "later" a0D) (B:Blt mg) (XF:ExG cB K) (C_is_whole:aI P w K mg base "is_whole" 1 ["thing"] cG):CalleeX P w K mg base "later" 2 ["moment", "by"] gZ:=by
 refine gY 2 2 D a8n rfl rfl (fun _ _ _ _ _ _ us hl=>by obtain ⟨_,_,rfl⟩:=xJ hl;rfl) (fun fa cdv A outer s H E hr=>?_);exact (aN (gB (a1p (sX (aM C_is_whole (hM hr) (aA (aB 1) aE)))) (aO (a2I XF.l rfl)) eM) (aO (aW (aV bQ (aB 0) (aB 1)))))
abbrev eV:Stmt:=top 29
theorem wW:FnScope ["sheet", "last"] ["sheet", "last"] (aD eV):=fS
theorem a0b (D:Def K mg "turned_about" eV) (B:Blt mg) (XF:ExG cB K) (C_laterX:CalleeX P w K mg base "later" 2 ["moment", "by"] gZ) (C_meeting_atX:CalleeX P w K mg base "meeting_at" 4 ["name", "begin", "end"] dH):CalleeX P w K mg base "turned_about" 5 ["sheet", "last"] dF:=by
 refine gY 2 2 D wW rfl rfl (fun _ _ _ _ _ _ us hl=>by obtain ⟨_,_,rfl⟩:=xJ hl;rfl) (fun fa cdv A outer s H E hr=>?_);have nd1:(["name", "begin", "end", "last"]:T0o).Nodup:=by decide +kernel
 exact (aO (aW (mZ a0o B.b_tuple QC (aA (a5p (N':=["name", "begin", "end", "last"]) (cap:=[none,none,none,some 1]) rfl rfl rfl (cI (so:=aD eV) (NN:=["sheet", "last"]) rfl rfl (by decide +kernel)) (bY (aB 0)) rfl (fun _ _ _ _=>(cR rfl (aG 0 nd1 (aG 1 nd1 (aG 2 nd1 bP))))) (fun _ _ _ _=>cJ) (fun _ _ _ _ _=>(eA C_meeting_atX (hM hr) (aA (aB 0) (aA (eA C_laterX (hM hr) (aA (pM (aB 2)) (aA (aB 3) aE))) (aA (eA C_laterX (hM hr) (aA (pM (aB 1)) (aA (aB 3) aE))) aE)))))) aE))))
abbrev a0G:Stmt:=top 42
noncomputable abbrev b1d:List Str:=["_law_script", "_law_k"]
theorem a8p:FnScope b1d ["_law_script", "_law_k"] (aD a0G):=fS
theorem b2w (D:Def K mg "_law_cell" a0G) (B:Blt mg) (XF:ExG cB K)  : aI P w K mg base "_law_cell" 1 ["_law_script", "_law_k"] uQ:=by
 refine aU 2 2 D a8p rfl rfl (fun _ _ _ _ _ _ us hl=>by obtain ⟨_,_,rfl⟩:=xJ hl;rfl) (fun fa cdv A outer s H E hr=>?_);exact (aN (gB (bX a0T (aB 1) (cM xH B.b_len QK (aA (aB 0) aE))) (aO (aW (cU (aB 0) (aB 1)))) eM) (aN (gB (bX (a2D hr.units) (aB 0) (mP aE)) (aO (aW aJ)) eM) (aO (aW (aV bQ (aV sK (cU (aB 0) (aV a3u (aB 1) (cM xH B.b_len QK (aA (aB 0) aE)))) aJ) (aB 1))))))
abbrev a0F:Stmt:=top 43
noncomputable abbrev b1c:List Str:=["_law_script", "_law_k", "_law_many", "_law_drawn"]
theorem a1X:FnScope b1c ["_law_script", "_law_k", "_law_many"] (aD a0F):=fS
theorem b2v (D:Def K mg "_law_pick" a0F) (B:Blt mg) (XF:ExG cB K) (C_l_cell:aI P w K mg base "_law_cell" 1 ["_law_script", "_law_k"] uQ):aI P w K mg base "_law_pick" 2 ["_law_script", "_law_k", "_law_many"] bR:=by
 refine aU 4 3 D a1X rfl rfl (fun _ _ _ _ _ _ us hl=>by obtain ⟨_,_,_,rfl⟩:=b7a hl;rfl) (fun fa cdv A outer s H E hr=>?_);exact (aN (eK 3 a1X.nd (aV a3u (aV sK (aV bQ (aM C_l_cell (hM hr) (aA (aB 0) (aA (aB 1) aE))) (aV sK aJ (aV bQ (aB 1) aJ))) aJ) aJ)) (aO (aW (aV a3u (aV a3u (aV bQ (aV sK (aB 3) (aB 3)) (aV b7x (aB 3) aJ)) aJ) (aB 2)))))
abbrev wZ:Stmt:=top 44
noncomputable abbrev a8z:List Str:=["_law_script", "_law_at", "_law_most", "_law_span", "_law_names", "_law_made", "_law_k", "_law_begin", "_law_size"]
theorem eZ:FnScope a8z ["_law_script", "_law_at", "_law_most"] (aD wZ):=fS
theorem a9r (D:Def K mg "_law_sheet" wZ) (B:Blt mg) (XF:ExG cB K) (C_l_pick:aI P w K mg base "_law_pick" 2 ["_law_script", "_law_k", "_law_many"] bR):aI P w K mg base "_law_sheet" 3 ["_law_script", "_law_at", "_law_most"] nD:=by
 refine aU 9 3 D eZ rfl rfl (fun _ _ _ _ _ _ us hl=>by obtain ⟨_,_,_,rfl⟩:=b7a hl;rfl) (fun fa cdv A outer s H E hr=>?_);exact (aN (eK 3 eZ.nd (cU (mP (aA aJ (aA aJ (aA aJ (aA aJ aE))))) (aM C_l_pick (hM hr) (aA (aB 0) (aA (aB 1) (aA aJ aE)))))) (aN (eK 4 eZ.nd (mP (aA cZ (aA cZ (aA cZ (aA cZ (aA cZ (aA cZ (aA cZ (aA cZ (aA cZ (aA cZ aE)))))))))))) (aN (xW 5 eZ.nd aE) (aN (sY kJ rfl (a7M B.b_range (aM C_l_pick (hM hr) (aA (aB 0) (aA (aV bQ (aB 1) aJ) (aA (aV bQ (aB 2) aJ) aE))))) (lX 6 eZ.nd) (aN (eK 7 eZ.nd (aM C_l_pick (hM hr) (aA (aB 0) (aA (aV bQ (aV bQ (aB 1) aJ) (aV sK aJ (aB 6))) (aA (aB 3) aE))))) (aN (eK 8 eZ.nd (aV bQ aJ (aM C_l_pick (hM hr) (aA (aB 0) (aA (aV bQ (aV bQ (aB 1) aJ) (aV sK aJ (aB 6))) (aA (cU (mP (aA aJ (aA aJ (aA (aB 3) aE)))) (aM C_l_pick (hM hr) (aA (aB 0) (aA (aV bQ (aV bQ (aB 1) aJ) (aV sK aJ (aB 6))) (aA aJ aE))))) aE)))))) (aO (a1q 5 (eL (aA (cU (aB 4) (aB 6)) (aA (aB 7) (aA (aV bQ (aB 7) (aB 8)) aE))))))))) (pN 5 (aO (aW (mZ a0o B.b_tuple QC (aA (aB 5) aE)))))))))
abbrev xA:Stmt:=top 45
noncomputable abbrev a8A:List Str:=["_law_kept", "_law_kinds", "_law_some"]
theorem iS:FnScope a8A ["_law_kept"] (aD xA):=fS
theorem a9s (D:Def K mg "_law_class" xA) (B:Blt mg) (XF:ExG cB K)  : ClsOk P w K mg base "_law_class" 1 gN:=by
 refine b4T 3 D iS rfl (fun _ _ _ _ _ _ us hl=>by obtain ⟨_,rfl⟩:=oR hl;rfl) (fun fa cdv A outer s H hr=>?_);exact (aN (xW 1 iS.nd (aA (lZ 0 XF B.b_isinstance) (aA (lZ 0 XF B.b_isinstance) (aA (lZ 0 XF B.b_isinstance) aE)))) (aN (b4A 1 (mP (aA (lZ 0 XF B.b_isinstance) aE))) (pN 1 (aN (a2J 1 iS.nd (aB 1) (mP (aA (lZ 0 XF B.b_isinstance) (aA (lZ 0 XF B.b_isinstance) (aA (lZ 0 XF B.b_isinstance) aE))))) (pN 1 (aN (a2J 1 iS.nd (aB 1) (mP (aA (lZ 0 XF B.b_isinstance) aE))) (aN (gB (a7J (DW.dt (uE (bX (lS hr.units) (b2m (aB 1) gT) aJ) (sW (a1p (sX (b4G 0 XF B.b_isinstance B.b_ValueError))))))) (aO (aW cZ)) eM) (aN (eK 2 iS.nd (mP (aA cZ (aA cZ (aA cZ (aA cZ (aA cZ (aA cZ (aA cZ (aA cZ aE)))))))))) (pN 1 (aO (aW (cU (aB 2) (a9e (aB 1) gT)))))))))))))
abbrev a0E:Stmt:=top 46
theorem a8o:FnScope ["_law_deed", "e"] ["_law_deed"] (aD a0E):=fS
theorem b2u (D:Def K mg "_law_told" a0E) (B:Blt mg) (XF:ExG cB K) (C_l_class:ClsOk P w K mg base "_law_class" 1 gN):ToldOk P w K mg base "_law_told" cB gN:=by
 obtain ⟨S,h1,h2,h3⟩:=XF.l.she;exact a9S D a8o h1 h2 h3 C_l_class rfl (fun _ _ _ _ _ _ us hl=>by obtain ⟨_,rfl⟩:=oR hl;rfl) rfl rfl rfl rfl (by decide) (by decide) (by decide) (by decide) (by decide)
abbrev a0H:Stmt:=top 22
noncomputable abbrev b1e:List Str:=["rows", "told", "begin", "end", "many"]
theorem mV:FnScope b1e ["rows"] (aD a0H):=fS
theorem b2x (D:Def K mg "joined" a0H) (B:Blt mg) (XF:ExG cB K)  : aI P w K mg base "joined" 1 ["rows"] nE:=by
 refine aU 5 1 D mV rfl rfl (fun _ _ _ _ _ _ us hl=>by obtain ⟨_,rfl⟩:=oR hl;rfl) (fun fa cdv A outer s H E hr=>?_);exact (aN (xW 1 mV.nd aE) (aN (sY kJ rfl (bY (aB 0)) (cR rfl (aG 2 mV.nd (aG 3 mV.nd (aG 4 mV.nd bP)))) (aO (gB (a7J (DW.dt (b1X (sX (aB 1)) (a7I (bX (a2D hr.units) (cU (cU (aB 1) (pM aJ)) aJ) (aB 4)))))) (aO (b7I 1 (eL (aA (b9f (cU (cU (aB 1) (pM aJ)) aJ)) (aA (aB 3) (aA (aB 4) aE)))) (pM aJ))) (aO (a1q 1 (eL (aA (aB 2) (aA (aB 3) (aA (aB 4) aE))))))))) (pN 1 (aO (aW (aB 1))))))
abbrev nW:Stmt:=top 18
theorem a4v:FnScope ["sheet", "moment"] ["sheet", "moment"] (aD nW):=fS
theorem a6D (D:Def K mg "names_at" nW) (B:Blt mg) (XF:ExG cB K)  : aI P w K mg base "names_at" 1 ["sheet", "moment"] oN:=by
 refine aU 2 2 D a4v rfl rfl (fun _ _ _ _ _ _ us hl=>by obtain ⟨_,_,rfl⟩:=xJ hl;rfl) (fun fa cdv A outer s H E hr=>?_);have nd1:(["name", "begin", "end", "moment"]:T0o).Nodup:=by decide +kernel
 exact (aO (aW (cK (N':=["name", "begin", "end", "moment"]) (cap:=[none,none,none,some 1]) rfl (cI (so:=aD nW) (NN:=["sheet", "moment"]) rfl rfl (by decide +kernel)) (bY (aB 0)) rfl (fun _ _ _ _=>(cR rfl (aG 0 nd1 (aG 1 nd1 (aG 2 nd1 bP))))) (fun _ _ _ _=>(a0l (b7G a4R a0T (aB 1) (aB 3) (aB 2)))) (fun _ _ _ _=>aB 0))))
abbrev wY:Stmt:=top 20
theorem a5N:FnScope ["sheet", "moment"] ["sheet", "moment"] (aD wY):=fS
theorem a9q (D:Def K mg "load_at" wY) (B:Blt mg) (XF:ExG cB K) (C_names_at:aI P w K mg base "names_at" 1 ["sheet", "moment"] oN):aI P w K mg base "load_at" 2 ["sheet", "moment"] dI:=by
 refine aU 2 2 D a5N rfl rfl (fun _ _ _ _ _ _ us hl=>by obtain ⟨_,_,rfl⟩:=xJ hl;rfl) (fun fa cdv A outer s H E hr=>?_);exact (aO (aW (cM xH B.b_len QK (aA (aM C_names_at (hM hr) (aA (aB 0) (aA (aB 1) aE))) aE))))
abbrev pU:Stmt:=top 23
noncomputable abbrev a0g:List Str:=["sheet", "begins", "ends", "cuts"]
theorem tJ:FnScope a0g ["sheet"] (aD pU):=fS
theorem b4Y (D:Def K mg "steps" pU) (B:Blt mg) (XF:ExG cB K) (C_load_at:aI P w K mg base "load_at" 2 ["sheet", "moment"] dI) (C_joined:aI P w K mg base "joined" 1 ["rows"] nE):aI P w K mg base "steps" 3 ["sheet"] mB:=by
 refine aU 4 1 D tJ rfl rfl (fun _ _ _ _ _ _ us hl=>by obtain ⟨_,rfl⟩:=oR hl;rfl) (fun fa cdv A outer s H E hr=>?_);have nd1:(["name", "begin", "end"]:T0o).Nodup:=by decide +kernel
 have nd2:(["name", "begin", "end"]:T0o).Nodup:=by decide +kernel
 have nd3:(["begin", "end", "sheet"]:T0o).Nodup:=by decide +kernel
 exact (aN (a7K 1 tJ.nd (N':=["name", "begin", "end"]) (cap:=[none,none,none]) rfl (cI (so:=aD pU) (NN:=a0g) rfl rfl (by decide +kernel)) (bY (aB 0)) rfl (fun _ _ _ _=>(cR rfl (aG 0 nd1 (aG 1 nd1 (aG 2 nd1 bP))))) (fun _ _ _ _=>cJ) (fun _ _ _ _=>aB 1)) (aN (a7K 2 tJ.nd (N':=["name", "begin", "end"]) (cap:=[none,none,none]) rfl (cI (so:=aD pU) (NN:=a0g) rfl rfl (by decide +kernel)) (bY (aB 0)) rfl (fun _ _ _ _=>(cR rfl (aG 0 nd2 (aG 1 nd2 (aG 2 nd2 bP))))) (fun _ _ _ _=>cJ) (fun _ _ _ _=>aB 2)) (aN (eK 3 tJ.nd (b4F rfl B.b_sorted B.b_set (aV bQ (aB 1) (aB 2)))) (aO (aW (aM C_joined (hM hr) (aA (cK (N':=["begin", "end", "sheet"]) (cap:=[none,none,some 0]) rfl (cI (so:=aD pU) (NN:=a0g) rfl rfl (by decide +kernel)) (b4D B.b_zip (aB 3) (b9g (aB 3) (a7Q aJ) b4J)) rfl (fun _ _ _ _=>(cR rfl (aG 0 nd3 (aG 1 nd3 bP)))) (fun _ _ _ _=>cJ) (fun _ _ _ _=>(eL (aA (aB 0) (aA (aB 1) (aA (aM C_load_at (hM hr) (aA (aB 2) (aA (aB 0) aE))) aE)))))) aE)))))))
abbrev a0I:Stmt:=top 24
theorem a6W:FnScope ["sheet", "rows"] ["sheet"] (aD a0I):=fS
theorem b7U (D:Def K mg "busy" a0I) (B:Blt mg) (XF:ExG cB K) (C_steps:aI P w K mg base "steps" 3 ["sheet"] mB) (C_joined:aI P w K mg base "joined" 1 ["rows"] nE):aI P w K mg base "busy" 4 ["sheet"] a1A:=by
 refine aU 2 1 D a6W rfl rfl (fun _ _ _ _ _ _ us hl=>by obtain ⟨_,rfl⟩:=oR hl;rfl) (fun fa cdv A outer s H E hr=>?_);have nd1:(["begin", "end", "many"]:T0o).Nodup:=by decide +kernel
 have nd2:(["begin", "end", "some"]:T0o).Nodup:=by decide +kernel
 exact (aN (eK 1 a6W.nd (aM C_joined (hM hr) (aA (cK (N':=["begin", "end", "many"]) (cap:=[none,none,none]) rfl (cI (so:=aD a0I) (NN:=["sheet", "rows"]) rfl rfl (by decide +kernel)) (bY (aM C_steps (hM hr) (aA (aB 0) aE))) rfl (fun _ _ _ _=>(cR rfl (aG 0 nd1 (aG 1 nd1 (aG 2 nd1 bP))))) (fun _ _ _ _=>cJ) (fun _ _ _ _=>(eL (aA (aB 0) (aA (aB 1) (aA (cM (b1j rfl) B.b_min boot_min (aA (aB 2) (aA aJ aE))) aE)))))) aE))) (aO (aW (cK (N':=["begin", "end", "some"]) (cap:=[none,none,none]) rfl (cI (so:=aD a0I) (NN:=["sheet", "rows"]) rfl rfl (by decide +kernel)) (bY (aB 1)) rfl (fun _ _ _ _=>(cR rfl (aG 0 nd2 (aG 1 nd2 (aG 2 nd2 bP))))) (fun _ _ _ _=>(a0l (bX (a2D hr.units) (aB 2) aJ))) (fun _ _ _ _=>(eL (aA (aB 0) (aA (aB 1) aE))))))))
abbrev fM:Stmt:=top 37
theorem sF:FnScope ["sheet"] ["sheet"] (aD fM):=fS
theorem uK {c T:Addr} (D:Def K mg "in_ending_order" fM) (B:Blt mg) (kb:K.In base) (nb:base.Ns j6 mg) (M:BM mg base) (ht:jM K "in_ending_order" = some (c,T)) (hC:jl K c T=true) (XF:ExG cB K)  : aI P w K mg base "in_ending_order" 5 ["sheet"] bW:=by
 refine yU 1 1 D sF rfl rfl kb nb ht (fun _ _ _ _ _ _ us hl=>by obtain ⟨_,rfl⟩:=oR hl;rfl) (fun fa A outer s H E hr=>?_);exact (aO (aW (a5o (k:=1) (y := "meeting") (by unfold dX;simp) ht rfl rfl hC M (hM hr) B.b_sorted (aB 0) (by exact fS) (fun f c A outer s H hr=>(eL (aA (cU (aB 0) aJ) (aA (cU (aB 0) aJ) (aA (cU (aB 0) aJ) aE))))))))
abbrev nV:Stmt:=top 14
theorem a4u:FnScope ["sheet"] ["sheet"] (aD nV):=fS
theorem a6C (D:Def K mg "names_of" nV) (B:Blt mg) (XF:ExG cB K)  : aI P w K mg base "names_of" 1 ["sheet"] gM:=by
 refine aU 1 1 D a4u rfl rfl (fun _ _ _ _ _ _ us hl=>by obtain ⟨_,rfl⟩:=oR hl;rfl) (fun fa cdv A outer s H E hr=>?_);have nd1:(["meeting"]:T0o).Nodup:=by decide +kernel
 exact (aO (aW (cK (N':=["meeting"]) (cap:=[none]) rfl (cI (so:=aD nV) (NN:=["sheet"]) rfl rfl (by decide +kernel)) (bY (aB 0)) rfl (fun _ _ _ _=>lX 0 nd1) (fun _ _ _ _=>cJ) (fun _ _ _ _=>(cU (aB 0) aJ)))))
abbrev nX:Stmt:=top 38
noncomputable abbrev a3s:List Str:=["sheet", "chosen", "meeting"]
theorem mI:FnScope a3s ["sheet"] (aD nX):=fS
theorem a3Y (D:Def K mg "most_apart" nX) (B:Blt mg) (XF:ExG cB K) (C_in_ending_order:aI P w K mg base "in_ending_order" 5 ["sheet"] bW) (C_names_of:aI P w K mg base "names_of" 1 ["sheet"] gM):aI P w K mg base "most_apart" 6 ["sheet"] cQ:=by
 refine aU 3 1 D mI rfl rfl (fun _ _ _ _ _ _ us hl=>by obtain ⟨_,rfl⟩:=oR hl;rfl) (fun fa cdv A outer s H E hr=>?_);exact (aN (xW 1 mI.nd aE) (aN (sY kJ rfl (bY (aM C_in_ending_order (hM hr) (aA (aB 0) aE))) (lX 2 mI.nd) (aO (gB (a7J (DW.dt (uE (a1p (sX (aB 1))) (sW (bX a4R (cU (cU (aB 1) (pM aJ)) aJ) (cU (aB 2) aJ)))))) (aO (a1q 1 (aB 2))) eM))) (pN 1 (aO (aW (aM C_names_of (hM hr) (aA (aB 1) aE)))))))
abbrev gO:Stmt:=top 47
noncomputable abbrev rP:List Str:=["_law_rows", "_law_by"]
theorem a0C:FnScope rP ["_law_rows", "_law_by"] (aD gO):=fS
theorem a1O (D:Def K mg "_law_all_moved" gO) (B:Blt mg) (XF:ExG cB K)  : aI P w K mg base "_law_all_moved" 1 ["_law_rows", "_law_by"] gX:=by
 refine aU 2 2 D a0C rfl rfl (fun _ _ _ _ _ _ us hl=>by obtain ⟨_,_,rfl⟩:=xJ hl;rfl) (fun fa cdv A outer s H E hr=>?_);have nd1:(["_law_name", "_law_begin", "_law_end", "_law_by"]:T0o).Nodup:=by decide +kernel
 exact (aO (aW (cK (N':=["_law_name", "_law_begin", "_law_end", "_law_by"]) (cap:=[none,none,none,some 1]) rfl (cI (so:=aD gO) (NN:=rP) rfl rfl (by decide +kernel)) (bY (aB 0)) rfl (fun _ _ _ _=>(cR rfl (aG 0 nd1 (aG 1 nd1 (aG 2 nd1 bP))))) (fun _ _ _ _=>cJ) (fun _ _ _ _=>(eL (aA (aB 0) (aA (aV bQ (aB 1) (aB 3)) (aA (aV bQ (aB 2) (aB 3)) aE))))))))
abbrev nU:Stmt:=top 28
theorem a4t:FnScope ["sheet", "by"] ["sheet", "by"] (aD nU):=fS
theorem a6B (D:Def K mg "shifted" nU) (B:Blt mg) (XF:ExG cB K) (C_laterX:CalleeX P w K mg base "later" 2 ["moment", "by"] gZ) (C_meeting_atX:CalleeX P w K mg base "meeting_at" 4 ["name", "begin", "end"] dH):CalleeX P w K mg base "shifted" 5 ["sheet", "by"] lG:=by
 refine gY 2 2 D a4t rfl rfl (fun _ _ _ _ _ _ us hl=>by obtain ⟨_,_,rfl⟩:=xJ hl;rfl) (fun fa cdv A outer s H E hr=>?_);have nd1:(["name", "begin", "end", "by"]:T0o).Nodup:=by decide +kernel
 exact (aO (aW (mZ a0o B.b_tuple QC (aA (a5p (N':=["name", "begin", "end", "by"]) (cap:=[none,none,none,some 1]) rfl rfl rfl (cI (so:=aD nU) (NN:=["sheet", "by"]) rfl rfl (by decide +kernel)) (bY (aB 0)) rfl (fun _ _ _ _=>(cR rfl (aG 0 nd1 (aG 1 nd1 (aG 2 nd1 bP))))) (fun _ _ _ _=>cJ) (fun _ _ _ _ _=>(eA C_meeting_atX (hM hr) (aA (aB 0) (aA (eA C_laterX (hM hr) (aA (aB 1) (aA (aB 3) aE))) (aA (eA C_laterX (hM hr) (aA (aB 2) (aA (aB 3) aE))) aE)))))) aE))))
abbrev nR:Stmt:=top 25
theorem a4s:FnScope ["sheet"] ["sheet"] (aD nR):=fS
theorem a6A (D:Def K mg "worth_of" nR) (B:Blt mg) (XF:ExG cB K)  : aI P w K mg base "worth_of" 1 ["sheet"] lF:=by
 refine aU 1 1 D a4s rfl rfl (fun _ _ _ _ _ _ us hl=>by obtain ⟨_,rfl⟩:=oR hl;rfl) (fun fa cdv A outer s H E hr=>?_);have nd1:(["name", "begin", "end"]:T0o).Nodup:=by decide +kernel
 exact (aO (aW (cM (b6d rfl) B.b_sum boot_sum (aA (cK (N':=["name", "begin", "end"]) (cap:=[none,none,none]) rfl (cI (so:=aD nR) (NN:=["sheet"]) rfl rfl (by decide +kernel)) (bY (aB 0)) rfl (fun _ _ _ _=>(cR rfl (aG 0 nd1 (aG 1 nd1 (aG 2 nd1 bP))))) (fun _ _ _ _=>cJ) (fun _ _ _ _=>(aV mG (aB 2) (aB 1)))) aE))))
abbrev fL:Stmt:=top 31
theorem sC:FnScope ["sheet"] ["sheet"] (aD fL):=fS
theorem uJ {c T:Addr} (D:Def K mg "in_laying_order" fL) (B:Blt mg) (kb:K.In base) (nb:base.Ns j6 mg) (M:BM mg base) (ht:jM K "in_laying_order" = some (c,T)) (hC:jl K c T=true) (XF:ExG cB K)  : aI P w K mg base "in_laying_order" 5 ["sheet"] bV:=by
 refine yU 1 1 D sC rfl rfl kb nb ht (fun _ _ _ _ _ _ us hl=>by obtain ⟨_,rfl⟩:=oR hl;rfl) (fun fa A outer s H E hr=>?_);exact (aO (aW (a5o (k:=1) (y := "meeting") (by unfold dX;simp) ht rfl rfl hC M (hM hr) B.b_sorted (aB 0) (by exact fS) (fun f c A outer s H hr=>(eL (aA (cU (aB 0) aJ) (aA (pM (cU (aB 0) aJ)) (aA (cU (aB 0) aJ) aE))))))))
abbrev wX:Stmt:=top 17
theorem a5M:FnScope ["one", "other"] ["one", "other"] (aD wX):=fS
theorem a9p (D:Def K mg "overlap" wX) (B:Blt mg) (XF:ExG cB K)  : aI P w K mg base "overlap" 1 ["one", "other"] rK:=by
 refine aU 2 2 D a5M rfl rfl (fun _ _ _ _ _ _ us hl=>by obtain ⟨_,_,rfl⟩:=xJ hl;rfl) (fun fa cdv A outer s H E hr=>?_);exact (aO (aW (a3O a0T (cM (a6a rfl) B.b_max boot_max (aA (cU (aB 0) aJ) (aA (cU (aB 1) aJ) aE))) (cM (b1j rfl) B.b_min boot_min (aA (cU (aB 0) aJ) (aA (cU (aB 1) aJ) aE))))))
abbrev nY:Stmt:=top 33
theorem mJ:FnScope ["taken", "column"] ["taken"] (aD nY):=fS
theorem a3Z (D:Def K mg "first_free" nY) (B:Blt mg) (XF:ExG cB K)  : aI P w K mg base "first_free" 1 ["taken"] iP:=by
 refine aU 2 1 D mJ rfl rfl (fun _ _ _ _ _ _ us hl=>by obtain ⟨_,rfl⟩:=oR hl;rfl) (fun fa cdv A outer s H E hr=>?_);exact (aN (eK 1 mJ.nd aJ) (aN (b1Y 1000 kJ (bX (b7s hr.units1) (aB 1) (aB 0)) (aO (b7K 1 mJ.nd aJ))) (aO (aW (aB 1)))))
abbrev eW:Stmt:=top 34
noncomputable abbrev oO:List Str:=["sheet", "laid", "meeting", "taken"]
theorem eE:FnScope oO ["sheet"] (aD eW):=fS
theorem a0c (D:Def K mg "laid_meetings" eW) (B:Blt mg) (XF:ExG cB K) (C_in_laying_order:aI P w K mg base "in_laying_order" 5 ["sheet"] bV) (C_overlap:aI P w K mg base "overlap" 1 ["one", "other"] rK) (C_first_free:aI P w K mg base "first_free" 1 ["taken"] iP):aI P w K mg base "laid_meetings" 6 ["sheet"] dG:=by
 refine aU 4 1 D eE rfl rfl (fun _ _ _ _ _ _ us hl=>by obtain ⟨_,rfl⟩:=oR hl;rfl) (fun fa cdv A outer s H E hr=>?_);have nd1:(["other", "column", "meeting"]:T0o).Nodup:=by decide +kernel
 exact (aN (xW 1 eE.nd aE) (aN (sY kJ rfl (bY (aM C_in_laying_order (hM hr) (aA (aB 0) aE))) (lX 2 eE.nd) (aN (b1Z 3 eE.nd (N':=["other", "column", "meeting"]) (cap:=[none,none,some 2]) rfl (cI (so:=aD eW) (NN:=oO) rfl rfl (by decide +kernel)) (bY (aB 1)) rfl (fun _ _ _ _=>(cR rfl (aG 0 nd1 (aG 1 nd1 bP)))) (fun _ _ _ _=>(a0l (sX (aM C_overlap (hM hr) (aA (aB 2) (aA (aB 0) aE)))))) (fun _ _ _ _=>aB 1)) (aO (a1q 1 (eL (aA (aB 2) (aA (aM C_first_free (hM hr) (aA (aB 3) aE)) aE))))))) (pN 1 (aO (aW (aB 1))))))
abbrev pW:Stmt:=top 35
theorem a5P:FnScope ["sheet"] ["sheet"] (aD pW):=fS
theorem a9u (D:Def K mg "columns" pW) (B:Blt mg) (XF:ExG cB K) (C_laid_meetings:aI P w K mg base "laid_meetings" 6 ["sheet"] dG):aI P w K mg base "columns" 7 ["sheet"] nF:=by
 refine aU 1 1 D a5P rfl rfl (fun _ _ _ _ _ _ us hl=>by obtain ⟨_,rfl⟩:=oR hl;rfl) (fun fa cdv A outer s H E hr=>?_);have nd1:(["meeting", "column"]:T0o).Nodup:=by decide +kernel
 exact (aO (aW (mZ (b4C rfl) B.b_dict boot_dict (aA (cK (N':=["meeting", "column"]) (cap:=[none,none]) rfl (cI (so:=aD pW) (NN:=["sheet"]) rfl rfl (by decide +kernel)) (bY (aM C_laid_meetings (hM hr) (aA (aB 0) aE))) rfl (fun _ _ _ _=>(cR rfl (aG 0 nd1 (aG 1 nd1 bP)))) (fun _ _ _ _=>cJ) (fun _ _ _ _=>(eL (aA (cU (aB 0) aJ) (aA (aB 1) aE))))) aE))))
abbrev tL:Stmt:=top 32
noncomputable abbrev a4F:List Str:=["sheet", "told", "reach", "name", "begin", "end"]
theorem fF:FnScope a4F ["sheet"] (aD tL):=fS
theorem b2z (D:Def K mg "groups" tL) (B:Blt mg) (XF:ExG cB K) (C_in_laying_order:aI P w K mg base "in_laying_order" 5 ["sheet"] bV):aI P w K mg base "groups" 6 ["sheet"] lI:=by
 refine aU 6 1 D fF rfl rfl (fun _ _ _ _ _ _ us hl=>by obtain ⟨_,rfl⟩:=oR hl;rfl) (fun fa cdv A outer s H E hr=>?_);have nd1:(["group"]:T0o).Nodup:=by decide +kernel
 exact (aN (b4z 1 fF.nd) (aN (eK 2 fF.nd aJ) (aN (sY kJ rfl (bY (aM C_in_laying_order (hM hr) (aA (aB 0) aE))) (cR rfl (aG 3 fF.nd (aG 4 fF.nd (aG 5 fF.nd bP)))) (aO (gB (DW.dt (b1X (b4y 1) (a7I (bX a0T (aB 4) (aB 2))))) (aN (b2c 1 (aB 3)) (aO (eK 2 fF.nd (cM (a6a rfl) B.b_max boot_max (aA (aB 2) (aA (aB 5) aE)))))) (aN (b2b 1 (aA (aB 3) aE)) (aO (eK 2 fF.nd (aB 5))))))) (b4I 1 (aO (aW (cK (N':=["group"]) (cap:=[none]) rfl (cI (so:=aD tL) (NN:=a4F) rfl rfl (by decide +kernel)) (bY (aB 1)) rfl (fun _ _ _ _=>lX 0 nd1) (fun _ _ _ _=>cJ) (fun _ _ _ _=>(cM b2U B.b_sorted boot_sorted (aA (aB 0) aE))))))))))
abbrev fK:Stmt:=top 21
theorem yW:FnScope ["sheet"] ["sheet"] (aD fK):=fS
theorem a1v (D:Def K mg "most_at_once" fK) (B:Blt mg) (XF:ExG cB K) (C_load_at:aI P w K mg base "load_at" 2 ["sheet", "moment"] dI):aI P w K mg base "most_at_once" 3 ["sheet"] eB:=by
 refine aU 1 1 D yW rfl rfl (fun _ _ _ _ _ _ us hl=>by obtain ⟨_,rfl⟩:=oR hl;rfl) (fun fa cdv A outer s H E hr=>?_);have nd1:(["name", "begin", "end", "sheet"]:T0o).Nodup:=by decide +kernel
 exact (aO (aW (b2k rfl B.b_max (cK (N':=["name", "begin", "end", "sheet"]) (cap:=[none,none,none,some 0]) rfl (cI (so:=aD fK) (NN:=["sheet"]) rfl rfl (by decide +kernel)) (bY (aB 0)) rfl (fun _ _ _ _=>(cR rfl (aG 0 nd1 (aG 1 nd1 (aG 2 nd1 bP))))) (fun _ _ _ _=>cJ) (fun _ _ _ _=>(aM C_load_at (hM hr) (aA (aB 3) (aA (aB 1) aE))))) aJ)))
abbrev pV:Stmt:=top 48
noncomputable abbrev a2j:List Str:=["_law_rows", "_law_last"]
theorem a5O:FnScope a2j ["_law_rows", "_law_last"] (aD pV):=fS
theorem a9t (D:Def K mg "_law_about" pV) (B:Blt mg) (XF:ExG cB K)  : aI P w K mg base "_law_about" 1 ["_law_rows", "_law_last"] rM:=by
 refine aU 2 2 D a5O rfl rfl (fun _ _ _ _ _ _ us hl=>by obtain ⟨_,_,rfl⟩:=xJ hl;rfl) (fun fa cdv A outer s H E hr=>?_);have nd1:(["_law_name", "_law_begin", "_law_end", "_law_last"]:T0o).Nodup:=by decide +kernel
 exact (aO (aW (cK (N':=["_law_name", "_law_begin", "_law_end", "_law_last"]) (cap:=[none,none,none,some 1]) rfl (cI (so:=aD pV) (NN:=a2j) rfl rfl (by decide +kernel)) (bY (aB 0)) rfl (fun _ _ _ _=>(cR rfl (aG 0 nd1 (aG 1 nd1 (aG 2 nd1 bP))))) (fun _ _ _ _=>cJ) (fun _ _ _ _=>(eL (aA (aB 0) (aA (aV mG (aB 3) (aB 2)) (aA (aV mG (aB 3) (aB 1)) aE))))))))
abbrev tK:Stmt:=top 39
noncomputable abbrev a4E:List Str:=["meeting", "moments"]
theorem a8q:FnScope a4E ["meeting", "moments"] (aD tK):=fS
theorem b2y (D:Def K mg "is_met" tK) (B:Blt mg) (XF:ExG cB K) (C_is_whole:aI P w K mg base "is_whole" 1 ["thing"] cG):aI P w K mg base "is_met" 2 ["meeting", "moments"] lH:=by
 refine aU 2 2 D a8q rfl rfl (fun _ _ _ _ _ _ us hl=>by obtain ⟨_,_,rfl⟩:=xJ hl;rfl) (fun fa cdv A outer s H E hr=>?_);have nd1:(["moment", "meeting"]:T0o).Nodup:=by decide +kernel
 exact (aO (aW (cM (b7Y rfl) B.b_any boot_any (aA (cK (N':=["moment", "meeting"]) (cap:=[none,some 0]) rfl (cI (so:=aD tK) (NN:=a4E) rfl rfl (by decide +kernel)) (bY (aB 1)) rfl (fun _ _ _ _=>lX 0 nd1) (fun _ _ _ _=>cJ) (fun _ _ _ _=>(a1s (aM C_is_whole (hM hr) (aA (aB 0) aE)) (a3N (b7O a4R a0T (cU (aB 1) aJ) (aB 0) (cU (aB 1) aJ)))))) aE))))
abbrev gE:Stmt:=top 40
noncomputable abbrev xG:List Str:=["sheet", "moments", "meeting"]
theorem fJ:FnScope xG ["sheet"] (aD gE):=fS
theorem yB (D:Def K mg "fewest_moments" gE) (B:Blt mg) (XF:ExG cB K) (C_in_ending_order:aI P w K mg base "in_ending_order" 5 ["sheet"] bW) (C_is_met:aI P w K mg base "is_met" 2 ["meeting", "moments"] lH):aI P w K mg base "fewest_moments" 6 ["sheet"] dA:=by
 refine aU 3 1 D fJ rfl rfl (fun _ _ _ _ _ _ us hl=>by obtain ⟨_,rfl⟩:=oR hl;rfl) (fun fa cdv A outer s H E hr=>?_);exact (aN (xW 1 fJ.nd aE) (aN (sY kJ rfl (bY (aM C_in_ending_order (hM hr) (aA (aB 0) aE))) (lX 2 fJ.nd) (aO (gB (a7J (a1p (sX (aM C_is_met (hM hr) (aA (aB 2) (aA (aB 1) aE)))))) (aO (a1q 1 (aV mG (cU (aB 2) aJ) aJ))) eM))) (pN 1 (aO (aW (aB 1))))))
abbrev lO:Stmt:=top 49
noncomputable abbrev a2i:List Str:=["_law_script", "_law_sheet_here", "_law_by", "_law_last", "_law_told_here", "_law_due", "_law_new", "_law_k", "_law_moment", "_law_many"]
theorem nQ:FnScope a2i ["_law_script"] (aD lO):=fS
theorem b9i {fa c T:Addr} {fd:w5} (Fu:Fun K "law" "law" lO fa fd) (B:Blt mg) (kb:K.In base) (nb:base.Ns j6 mg) (M:BM mg base) (hmg:mg "law" = some (.ref fa)) (ht:jM K "law" = some (c,T)) (hC:jl K c T=true) (XF:ExG cB K) (C_l_pick:aI P w K mg base "_law_pick" 2 ["_law_script", "_law_k", "_law_many"] bR) (C_l_sheet:aI P w K mg base "_law_sheet" 3 ["_law_script", "_law_at", "_law_most"] nD) (C_l_all_moved:aI P w K mg base "_law_all_moved" 1 ["_law_rows", "_law_by"] gX) (C_shiftedX:CalleeX P w K mg base "shifted" 5 ["sheet", "by"] lG) (C_l_told:ToldOk P w K mg base "_law_told" cB gN) (C_worth_of:aI P w K mg base "worth_of" 1 ["sheet"] lF) (C_columns:aI P w K mg base "columns" 7 ["sheet"] nF) (C_groups:aI P w K mg base "groups" 6 ["sheet"] lI) (C_most_apart:aI P w K mg base "most_apart" 6 ["sheet"] cQ) (C_busy:aI P w K mg base "busy" 4 ["sheet"] a1A) (C_turned_aboutX:CalleeX P w K mg base "turned_about" 5 ["sheet", "last"] dF) (C_l_about:aI P w K mg base "_law_about" 1 ["_law_rows", "_law_last"] rM) (C_load_at:aI P w K mg base "load_at" 2 ["sheet", "moment"] dI) (C_steps:aI P w K mg base "steps" 3 ["sheet"] mB) (C_most_at_once:aI P w K mg base "most_at_once" 3 ["sheet"] eB) (C_fewest_moments:aI P w K mg base "fewest_moments" 6 ["sheet"] dA):FnOk P w K mg base CX0 9 fa fd ["_law_script"] (spD K fun ds d=>F_law ds=some (.ok d)):=by
 refine a7B 10 1 Fu nQ rfl rfl kb nb hmg ht (fun A outer s H E hr=>?_);have nd1:(["_law_name", "_law_begin", "_law_end"]:T0o).Nodup:=by decide +kernel
 have nd2:(["_law_by", "_law_sheet_here"]:T0o).Nodup:=by decide +kernel
 have nd3:(["_law_name", "_law_begin", "_law_end"]:T0o).Nodup:=by decide +kernel
 have nd4:(["_law_begin", "_law_end", "_law_by"]:T0o).Nodup:=by decide +kernel
 have nd5:(["_law_begin", "_law_end", "_law_many", "_law_last"]:T0o).Nodup:=by decide +kernel
 exact (aN (b7H (eL (aA (aM C_l_sheet (hM hr) (aA (aB 0) (aA aJ (aA aJ aE)))) (aA (aV mG (aM C_l_pick (hM hr) (aA (aB 0) (aA aJ (aA aJ aE)))) aJ) aE))) (cR rfl (aG 1 nQ.nd (aG 2 nQ.nd bP)))) (aN (eK 3 nQ.nd (aV bQ (cM (a6a rfl) B.b_max boot_max (aA (aV bQ (mP (aA aJ aE)) (cK (N':=["_law_name", "_law_begin", "_law_end"]) (cap:=[none,none,none]) rfl (cI (so:=aD lO) (NN:=a2i) rfl rfl (by decide +kernel)) (bY (aB 1)) rfl (fun _ _ _ _=>(cR rfl (aG 0 nd1 (aG 1 nd1 (aG 2 nd1 bP))))) (fun _ _ _ _=>cJ) (fun _ _ _ _=>aB 2))) aE)) (aM C_l_pick (hM hr) (aA (aB 0) (aA aJ (aA aJ aE)))))) (aN (b7J 4 5 rfl nQ.nd (by decide) (aA (b4E (q := "law") (k:=5) (N':=["_law_by", "_law_sheet_here"]) (cap:=[some 2,some 1]) C_l_told (by unfold dX;simp) ht rfl rfl hC M (hM hr) (cI (so:=aD lO) (NN:=a2i) rfl rfl (by decide +kernel)) (by decide +kernel) (fun f c cl A outer s H E hr=>(eA C_shiftedX (hM hr) (aA (aB 1) (aA (aB 0) aE))))) (aA (mZ a0o B.b_tuple QC (aA (aM C_l_all_moved (hM hr) (aA (aB 1) (aA (aB 2) aE))) aE)) aE))) (aN (gB (bX (lS hr.units) (cK (N':=["_law_name", "_law_begin", "_law_end"]) (cap:=[none,none,none]) rfl (cI (so:=aD lO) (NN:=a2i) rfl rfl (by decide +kernel)) (bY (aB 5)) rfl (fun _ _ _ _=>(cR rfl (aG 0 nd3 (aG 1 nd3 (aG 2 nd3 bP))))) (fun _ _ _ _=>(a0l (DW.dt (uE (bX a0T (aB 1) aJ) (sW (bX b5A (aB 2) aJ)))))) (fun _ _ _ _=>aJ)) (mP aE)) (aO (aW (a3O (a2D hr.units) (aB 4) cZ))) eM) (aN (gB (DW.dt (uE (bX (lS hr.units) (aB 4) (aB 5)) (uE (bX (lS hr.units) (eA C_shiftedX (hM hr) (aA (aB 4) (aA (aV mG aJ (aB 2)) aE))) (aB 1)) (sW (bX (lS hr.units) (aM C_worth_of (hM hr) (aA (aB 4) aE)) (aM C_worth_of (hM hr) (aA (aB 1) aE))))))) (aO (aW gT)) eM) (aN (gB (DW.dt (uE (bX (b6U hr.units) (aM C_columns (hM hr) (aA (aB 4) aE)) (aM C_columns (hM hr) (aA (aB 1) aE))) (uE (bX (lS hr.units) (aM C_groups (hM hr) (aA (aB 4) aE)) (aM C_groups (hM hr) (aA (aB 1) aE))) (sW (bX (lS hr.units) (aM C_most_apart (hM hr) (aA (aB 4) aE)) (aM C_most_apart (hM hr) (aA (aB 1) aE))))))) (aO (aW gT)) eM) (aN (gB (bX (lS hr.units) (aM C_busy (hM hr) (aA (aB 4) aE)) (cK (N':=["_law_begin", "_law_end", "_law_by"]) (cap:=[none,none,some 2]) rfl (cI (so:=aD lO) (NN:=a2i) rfl rfl (by decide +kernel)) (bY (aM C_busy (hM hr) (aA (aB 1) aE))) rfl (fun _ _ _ _=>(cR rfl (aG 0 nd4 (aG 1 nd4 bP)))) (fun _ _ _ _=>cJ) (fun _ _ _ _=>(eL (aA (aV bQ (aB 0) (aB 2)) (aA (aV bQ (aB 1) (aB 2)) aE)))))) (aO (aW gT)) eM) (aN (gB (bX b5A (aB 3) aJ) (aO (aW gT)) eM) (aN (eK 6 nQ.nd (eA C_turned_aboutX (hM hr) (aA (aB 1) (aA (aB 3) aE)))) (aN (gB (DW.dt (uE (bX (lS hr.units) (aB 6) (mZ a0o B.b_tuple QC (aA (aM C_l_about (hM hr) (aA (aB 1) (aA (aB 3) aE))) aE))) (sW (bX (lS hr.units) (eA C_turned_aboutX (hM hr) (aA (aB 6) (aA (aB 3) aE))) (aB 1))))) (aO (aW gT)) eM) (aN (sY kJ rfl (a7M B.b_range aJ) (lX 7 nQ.nd) (aN (eK 8 nQ.nd (aM C_l_pick (hM hr) (aA (aB 0) (aA (aV bQ aJ (aB 7)) (aA (aV bQ (aB 3) aJ) aE))))) (aO (gB (bX (lS hr.units) (aM C_load_at (hM hr) (aA (aB 6) (aA (aB 8) aE))) (aM C_load_at (hM hr) (aA (aB 1) (aA (aV mG (aV mG (aB 3) aJ) (aB 8)) aE)))) (aO (aW gT)) eM)))) (aN (gB (bX (lS hr.units) (aM C_steps (hM hr) (aA (aB 6) aE)) (b2j (cK (N':=["_law_begin", "_law_end", "_law_many", "_law_last"]) (cap:=[none,none,none,some 3]) rfl (cI (so:=aD lO) (NN:=a2i) rfl rfl (by decide +kernel)) (bY (aM C_steps (hM hr) (aA (aB 1) aE))) rfl (fun _ _ _ _=>(cR rfl (aG 0 nd5 (aG 1 nd5 (aG 2 nd5 bP))))) (fun _ _ _ _=>cJ) (fun _ _ _ _=>(eL (aA (aV mG (aB 3) (aB 1)) (aA (aV mG (aB 3) (aB 0)) (aA (aB 2) aE)))))))) (aO (aW gT)) eM) (aN (gB (DW.dt (uE (bX (lS hr.units) (aM C_groups (hM hr) (aA (aB 6) aE)) (b2j (aM C_groups (hM hr) (aA (aB 1) aE)))) (sW (bX (lS hr.units) (aM C_most_at_once (hM hr) (aA (aB 6) aE)) (aM C_most_at_once (hM hr) (aA (aB 1) aE)))))) (aO (aW gT)) eM) (aN (eK 9 nQ.nd (cM xH B.b_len QK (aA (aM C_most_apart (hM hr) (aA (aB 1) aE)) aE))) (aO (aW (a1s (a3O (a2D hr.units) (cM xH B.b_len QK (aA (aM C_most_apart (hM hr) (aA (aB 6) aE)) aE)) (aB 9)) (a3N (a3O (a2D hr.units) (cM xH B.b_len QK (aA (aM C_fewest_moments (hM hr) (aA (aB 6) aE)) aE)) (aB 9))))))))))))))))))))
end
theorem blt_mk {K:qC} {h:Heap} {mg:T0d} {t0:Tok} (X:K.In h) (G:h.Ns j6 mg) (z0:jL K j6 "ValueError" = some none) (z1:jL K j6 "any" = some none) (z2:jL K j6 "bool" = some none) (z3:jL K j6 "dict" = some none) (z4:jL K j6 "int" = some none) (z5:jL K j6 "isinstance" = some none) (z6:jL K j6 "len" = some none) (z7:jL K j6 "max" = some none) (z8:jL K j6 "min" = some none) (z9:jL K j6 "range" = some none) (z10:jL K j6 "set" = some none) (z11:jL K j6 "sorted" = some none) (z12:jL K j6 "sum" = some none) (z13:jL K j6 "tuple" = some none) (z14:jL K j6 "zip" = some none) (y0:jL K j6 "LAST_END" = some (some (.int 480 t0))):Blt mg:=
 ⟨qm X G z0,qm X G z1,qm X G z2,qm X G z3,qm X G z4,qm X G z5,qm X G z6,qm X G z7,qm X G z8,qm X G z9,qm X G z10,qm X G z11,qm X G z12,qm X G z13,qm X G z14,⟨_,zi X G y0⟩⟩
theorem law_mk {l:PySem.W.OpenLaw} {w:World} {K:qC} {h:Heap} {mg:T0d} {fa f4:Addr} (X:K.In h) (G:h.Ns j6 mg) (hfa:mg "law" = some (.ref fa)) {od4 an4:T0i} {sl4:Array (Option Value)} {oc4 kV4 dc4 pm4 cd4 ct4:Value}
  (B:Blt mg) (XF:ExG cB K) (D0:Def K mg "is_whole" sH) (D1:Def K mg "are_times" pA) (D2:Def K mg "refuse_wrong_times" dJ) (D3:Def K mg "meeting_at" mK) (D4:Def K mg "later" a0D) (D5:Def K mg "turned_about" eV) (D6:Def K mg "_law_cell" a0G) (D7:Def K mg "_law_pick" a0F) (D8:Def K mg "_law_sheet" wZ) (D9:Def K mg "_law_class" xA) (D10:Def K mg "_law_told" a0E) (D11:Def K mg "joined" a0H) (D12:Def K mg "names_at" nW) (D13:Def K mg "load_at" wY) (D14:Def K mg "steps" pU) (D15:Def K mg "busy" a0I) (D16:Def K mg "in_ending_order" fM) (D17:Def K mg "names_of" nV) (D18:Def K mg "most_apart" nX) (D19:Def K mg "_law_all_moved" gO) (D20:Def K mg "shifted" nU) (D21:Def K mg "worth_of" nR) (D22:Def K mg "in_laying_order" fL) (D23:Def K mg "overlap" wX) (D24:Def K mg "first_free" nY) (D25:Def K mg "laid_meetings" eW) (D26:Def K mg "columns" pW) (D27:Def K mg "groups" tL) (D28:Def K mg "most_at_once" fK) (D29:Def K mg "_law_about" pV) (D30:Def K mg "is_met" tK) (D31:Def K mg "fewest_moments" gE) (tb0:jM K "in_ending_order" = some (254,250)) (hC0:jl K 254 250=true) (tb1:jM K "in_laying_order" = some (225,221)) (hC1:jl K 225 221=true) (tb2:jM K "law" = some (323,321)) (hC2:jl K 323 321=true)
  (a4:jL K j6 "law" = some (some (.ref f4))) (l4:K.lookup f4=some ⟨oc4,od4,.func (jk "law" "law" (eY lO) (bL lO) (aD lO) .none kV4 dc4 pm4 an4 cd4 ct4),sl4⟩) (c4:vA K cd4 "law" = true) (k4:kB K (.ref f4)=true) :
  ∃ fd:w5,(∀ (s:Shared) (v:Value),BindsTo s fd ⟨[v],[]⟩ [("_law_script", v)])∧∀ base:Heap,K.In base→base.Ns j6 mg→BM mg base→FnOk l.prog w K mg base CX0 9 fa fd ["_law_script"] (spD K fun ds d=>F_law ds=some (.ok d)):=by
 have e:=hfa.symm.trans (zi X G a4);cases e;refine ⟨jk "law" "law" (eY lO) (bL lO) (aD lO) .none kV4 dc4 pm4 an4 cd4 ct4,fun s v=>.of_eq rfl,fun base kb nb M=>?_⟩;have C_is_whole:=a6E (P:=l.prog) (w:=w) (base:=base) D0 B XF;have C_are_times:=a5y (P:=l.prog) (w:=w) (base:=base) D1 B XF C_is_whole;have C_refuse_wrong_timesX:=oU (P:=l.prog) (w:=w) (base:=base) D2 B XF C_are_times;have C_meeting_atX:=a1N (P:=l.prog) (w:=w) (base:=base) D3 B XF C_refuse_wrong_timesX;have C_laterX:=b2t (P:=l.prog) (w:=w) (base:=base) D4 B XF C_is_whole;have C_turned_aboutX:=a0b (P:=l.prog) (w:=w) (base:=base) D5 B XF C_laterX C_meeting_atX;have C_l_cell:=b2w (P:=l.prog) (w:=w) (base:=base) D6 B XF;have C_l_pick:=b2v (P:=l.prog) (w:=w) (base:=base) D7 B XF C_l_cell;have C_l_sheet:=a9r (P:=l.prog) (w:=w) (base:=base) D8 B XF C_l_pick;have C_l_class:=a9s (P:=l.prog) (w:=w) (base:=base) D9 B XF;have C_l_told:=b2u (P:=l.prog) (w:=w) (base:=base) D10 B XF C_l_class;have C_joined:=b2x (P:=l.prog) (w:=w) (base:=base) D11 B XF;have C_names_at:=a6D (P:=l.prog) (w:=w) (base:=base) D12 B XF;have C_load_at:=a9q (P:=l.prog) (w:=w) (base:=base) D13 B XF C_names_at
 have C_steps:=b4Y (P:=l.prog) (w:=w) (base:=base) D14 B XF C_load_at C_joined;have C_busy:=b7U (P:=l.prog) (w:=w) (base:=base) D15 B XF C_steps C_joined;have C_in_ending_order:=uK (P:=l.prog) (w:=w) (base:=base) D16 B kb nb M tb0 hC0 XF;have C_names_of:=a6C (P:=l.prog) (w:=w) (base:=base) D17 B XF;have C_most_apart:=a3Y (P:=l.prog) (w:=w) (base:=base) D18 B XF C_in_ending_order C_names_of;have C_l_all_moved:=a1O (P:=l.prog) (w:=w) (base:=base) D19 B XF;have C_shiftedX:=a6B (P:=l.prog) (w:=w) (base:=base) D20 B XF C_laterX C_meeting_atX;have C_worth_of:=a6A (P:=l.prog) (w:=w) (base:=base) D21 B XF;have C_in_laying_order:=uJ (P:=l.prog) (w:=w) (base:=base) D22 B kb nb M tb1 hC1 XF;have C_overlap:=a9p (P:=l.prog) (w:=w) (base:=base) D23 B XF;have C_first_free:=a3Z (P:=l.prog) (w:=w) (base:=base) D24 B XF;have C_laid_meetings:=a0c (P:=l.prog) (w:=w) (base:=base) D25 B XF C_in_laying_order C_overlap C_first_free;have C_columns:=a9u (P:=l.prog) (w:=w) (base:=base) D26 B XF C_laid_meetings;have C_groups:=b2z (P:=l.prog) (w:=w) (base:=base) D27 B XF C_in_laying_order;have C_most_at_once:=a1v (P:=l.prog) (w:=w) (base:=base) D28 B XF C_load_at
 have C_l_about:=a9t (P:=l.prog) (w:=w) (base:=base) D29 B XF;have C_is_met:=b2y (P:=l.prog) (w:=w) (base:=base) D30 B XF C_is_whole;have C_fewest_moments:=yB (P:=l.prog) (w:=w) (base:=base) D31 B XF C_in_ending_order C_is_met;exact b9i (b1K (st:=lO) l4 c4 k4) B kb nb M hfa tb2 hC2 XF C_l_pick C_l_sheet C_l_all_moved C_shiftedX C_l_told C_worth_of C_columns C_groups C_most_apart C_busy C_turned_aboutX C_l_about C_load_at C_steps C_most_at_once C_fewest_moments
end L2.L3
open PySem PySem.W PyProof.Rows
namespace PySem.W.Fast
theorem tw8975136978815078553:True:=⟨⟩
theorem tw16191269803489907463:True:=⟨⟩
theorem tw10768832088607287252:True:=⟨⟩
theorem tw2863067760810447831:True:=⟨⟩
theorem tw11682334382343079202:True:=⟨⟩
theorem tw15004294440952530850:True:=⟨⟩
theorem tw9330355836339122021:True:=⟨⟩
theorem tw17685098398245539023:True:=⟨⟩
theorem tw10902236209946362777:True:=⟨⟩
theorem tw14905751638123197812:True:=⟨⟩
theorem tw12360335722623737376:True:=⟨⟩
theorem tw10922743022874261932:True:=⟨⟩
theorem tw5956158656972468124:True:=⟨⟩
theorem tw1184501206362870621:True:=⟨⟩
theorem tw2382927646075992785:True:=⟨⟩
theorem tw16915675005623592923:True:=⟨⟩
theorem tw4901026341180530194:True:=⟨⟩
theorem tw13775796925357819681:True:=⟨⟩
theorem tw13045335581692636660:True:=⟨⟩
theorem tw11968717508560963299:True:=⟨⟩
theorem tw5532613812898381980:True:=⟨⟩
theorem tw12870734748451473689:True:=⟨⟩
theorem tw8773514552947967615:True:=⟨⟩
theorem tw14181788583779350771:True:=⟨⟩
theorem tw14079506414607999212:True:=⟨⟩
theorem tw7112187105000534063:True:=⟨⟩
theorem tw9998634247518910911:True:=⟨⟩
theorem tw1885682015175604080:True:=⟨⟩
theorem tw3962059861244992217:True:=⟨⟩
theorem tw15269836743641992883:True:=⟨⟩
theorem tw1959934579688929740:True:=⟨⟩
theorem tw17376012975351959598:True:=⟨⟩
theorem tw11188088437496683491:True:=⟨⟩
theorem tw3710858692238114645:True:=⟨⟩
theorem tw17140843357939298881:True:=⟨⟩
theorem tw15704711830745820710:True:=⟨⟩
theorem tw14247927519724956375:True:=⟨⟩
theorem tw12628027668794178368:True:=⟨⟩
theorem tw14588618671789669749:True:=⟨⟩
theorem tw12442453689276196309:True:=⟨⟩
theorem tw8277007009573303692:True:=⟨⟩
theorem tw10012085299763335088:True:=⟨⟩
theorem tw4189066197211108122:True:=⟨⟩
theorem tw3761750410137999024:True:=⟨⟩
theorem tw14336726548821776368:True:=⟨⟩
theorem tw5647769799091586637:True:=⟨⟩
theorem tw8914724955644108622:True:=⟨⟩
theorem tw10631934462307165958:True:=⟨⟩
theorem tw13509129856287957538:True:=⟨⟩
theorem tw1524500241638096458:True:=⟨⟩
theorem tw11522889630578838757:True:=⟨⟩
theorem tw18240907422560565766:True:=⟨⟩
theorem tw10994351676815888805:True:=⟨⟩
theorem tw15790840903447061067:True:=⟨⟩
theorem tw17778201495210994743:True:=⟨⟩
theorem tw5720425139527264556:True:=⟨⟩
theorem tw2371105495444365673:True:=⟨⟩
theorem tw3241894588080780420:True:=⟨⟩
theorem tw1791317937092825415:True:=⟨⟩
theorem tw1348243416712058381:True:=⟨⟩
theorem tw3232540101302388845:True:=⟨⟩
theorem tw6433820812857513247:True:=⟨⟩
theorem tw12060558452917821529:True:=⟨⟩
theorem tw17414471032445286572:True:=⟨⟩
end PySem.W.Fast
set_option maxRecDepth 100000 in
set_option maxHeartbeats 0 in
theorem PySem.Challenge.cw_daysheet_k06_whole_moved_as_one_holds : PySem.Challenge.rw_daysheet_k06_whole_moved_as_one.Holds := by
 w_on;o_law;k_head;(case hw=>w_witness2)
 k_fill
 refine L2.L3.walkL (l:=zq) (k:=9) (F:=L2.L3.F_law) (x := "_law_script") [(250,L2.L3.lamQ "in_ending_order"),(221,L2.L3.lamQ "in_laying_order"),(321,L2.L3.lamQ "law")] rfl rfl ⟨rfl,by decide,by decide⟩ (fun w h Y=>PySem.W.km_in_of Y) (fun w h Y=>PySem.W.km_tabs_of Y) ?cd ?ts ?F (fun ns hl=>L2.L3.e_law ns hl)
 case cd=>exact fun w=>L2.L3.all_cons ⟨⟨254,by kernel_rfl⟩,by kernel_rfl⟩ (L2.L3.all_cons ⟨⟨225,by kernel_rfl⟩,by kernel_rfl⟩ (L2.L3.all_cons ⟨⟨323,by kernel_rfl⟩,by kernel_rfl⟩ (fun _ h=>nomatch h)))
 case ts=>exact fun w=>L2.L3.lam_all (by kernel_rfl)
 case F=>
  intro w mg fa h KX G hmg;refine' L2.L3.law_mk KX G hmg ?B ?XF ?D0 ?D1 ?D2 ?D3 ?D4 ?D5 ?D6 ?D7 ?D8 ?D9 ?D10 ?D11 ?D12 ?D13 ?D14 ?D15 ?D16 ?D17 ?D18 ?D19 ?D20 ?D21 ?D22 ?D23 ?D24 ?D25 ?D26 ?D27 ?D28 ?D29 ?D30 ?D31 ?tb0 ?hC0 ?tb1 ?hC1 ?tb2 ?hC2 ?a4 ?l4 ?c4 ?k4
  (case XF=>exact ⟨by kernel_rfl⟩)
  (case tb0=>kernel_rfl);(case hC0=>kernel_rfl)
  (case tb1=>kernel_rfl);(case hC1=>kernel_rfl)
  (case tb2=>kernel_rfl);(case hC2=>kernel_rfl)
  (case a4=>k_is);(case l4=>k_is);(case c4=>k_is);(case k4=>k_is)
  (case B=>(refine' L2.L3.blt_mk KX G ?z0 ?z1 ?z2 ?z3 ?z4 ?z5 ?z6 ?z7 ?z8 ?z9 ?z10 ?z11 ?z12 ?z13 ?z14 ?y0;(case z0=>k_is);(case z1=>k_is);(case z2=>k_is);(case z3=>k_is);(case z4=>k_is);(case z5=>k_is);(case z6=>k_is);(case z7=>k_is);(case z8=>k_is);(case z9=>k_is);(case z10=>k_is);(case z11=>k_is);(case z12=>k_is);(case z13=>k_is);(case z14=>k_is);(case y0=>k_is)))
  (case D0 | D1 | D2 | D3 | D4 | D5 | D6 | D7 | D8 | D9 | D10 | D11 | D12 | D13 | D14 | D15 | D16 | D17 | D18 | D19 | D20 | D21 | D22 | D23 | D24 | D25 | D26 | D27 | D28 | D29 | D30 | D31=>(refine' L2.L3.def_mk KX G ?a ?l ?c ?k;(case a=>k_is);(case l=>k_is);(case c=>k_is);(case k=>k_is)))

